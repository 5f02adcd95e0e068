import PyProof.Rows.All
import Wide.All
import OpenK.AllK
import Wide.FinOn
import Lean
import PyProof.EqAt
import PyProof.EqKinds
import PyProof.TupleCall
import PyProof.NeKinds
import KE.KLam
import KE.KNestM
import PySem.Challenge.RW_fourway_k20_choices_of_words
set_option Elab.async false
set_option linter.all false
set_option maxRecDepth 100000
open Array renaming length_toList->qB1,getElem?_toList->qB7,getElem?_eq_some_iff->qBp,getElem?_eq_getElem->qE7,toList_push->qG2,toList->qG7
open Bool renaming false_ne_true->qAc,and_eq_true->qBd,and_false->qCx,false_eq_true->qDa,eq_iff_iff->qDx,and_true->qEg,or_true->qF0,or_false->qFm,or_eq_true->qGn
open Char renaming toNat->qI1
open Classical renaming propDecidable->qA4,axiomOfChoice->qCj
open Eq renaming trans->qHy
open False renaming elim->qA5
open ForInStep renaming yield->qCn
open Int renaming toNat_natCast->qCc,emod_lt_of_pos->qFr,emod_nonneg->qGt,mul_one->qHu
open List renaming getD_eq_getElem?_getD->qA0,getElem?_eq_getElem->qA2,getElem?_eq_some_iff->qA3,getElem?_append_left->qA6,getElem?_append_right->qA7,range->qA9,replicate->qAa,mem_cons->qAb,size_toArray->qAd,mem_map->qAe,idxOf_lt_length_of_mem->qAg,getElem?_map->qAh,length_map->qAi,map_cons->qAk,getElem?_set_self->qAm,getElem?_cons_succ->qAn,getElem?_cons_zero->qAo,mem_append_right->qAp,mem_append->qAq,length_append->qAr,mem_cons_of_mem->qAs,getElem?_set_ne->qAt,length_cons->qAu,flatten_cons->qAv,mem_cons_self->qAw,map_append->qAz,mem_range->qB0,drop_eq_getElem_cons->qB2,map_map->qB3,mem_singleton->qB6,not_mem_nil->qB9,mem_append_left->qBb,mem_of_getElem?->qBc,pairwise_cons->qBf,nodup_cons->qBi,replicate_succ->qBj,map_congr_left->qBk,append_assoc->qBl,lookup_cons->qBn,contains_cons->qBs,count_eq_zero->qBt,getElem?_replicate->qBw,count_append->qBz,mem_filter->qC1,find?_cons->qC4,range_succ->qC5,ext_getElem->qC7,length_replicate->qC8,any_cons->qCg,mergeSort_perm->qCi,getElem_range->qCm,take_append_drop->qCo,nodup_append->qCr,pairwise_map->qCs,idxOf_append->qCu,length_eraseIdx_of_lt->qCv,count_cons_self->qCw,getElem_mem->qD0,mem_flatten->qD1,length_erase_of_mem->qD2,append_nil->qD5,of_mem_zip->qD6,all_cons->qD7,eraseIdx_cons_succ->qD8,foldl_cons->qD9,findIdx?_eq_some_iff_getElem->qDb,getElem_idxOf->qDc,range_succ_eq_map->qDe,length_pos_of_mem->qDf,eraseIdxIfInBounds_toArray->qDi,drop_zero->qDk,length_singleton->qDl,all_eq_true->qDp,any_eq_true->qDq,getElem_map->qDr,nodup_range->qDs,eq_nil_of_length_eq_zero->qDt,mem_erase_of_ne->qDu,filterMap_cons->qDw,length_set->qDy,idxOf_cons->qE3,eq_append_cons_of_mem->qE5,count_pos_iff->qE6,extract_eq_drop_take->qE8,findIdx?_eq_none_iff->qE9,foldl_append->qEe,length_eq_zero_iff->qEh,pairwise_mergeSort->qEj,filter_cons_of_neg->qEk,filter_cons_of_pos->qEl,length_take->qEo,take_length->qEq,drop_length->qEr,getElem_cons_succ->qEt,length_eq_one_iff->qEu,take_of_length_le->qEv,forIn_cons->qEy,map_set->qEz,getElem?_reverse->qF2,getElem?_eq_none->qF3,perm_append_comm->qF6,length_eraseIdx->qF7,mem_iff_getElem->qF8,nodup_nil->qFb,take_succ_cons->qFg,getElem?_range->qFi,mem_filterMap->qFj,findIdx?_cons->qFq,find?_eq_none->qFs,map_singleton->qFt,any_eq_false->qFv,take_add_one->qG0,length_range->qG3,Nodup->qG4,filter_congr->qG5,map_inj_left->qG6,getElem_inj->qGc,filter_cons->qGf,cons_append->qGh,length->qGj,nil_append->qGk,length_nil->qGl,lookup->qGm,range'->qGo,find?_some->qGq,all_append->qGr,foldl->qHk,count->qHl,findIdx?->qHo,map_nil->qHq,all_map->qHr,not_lt->qHv,take->qI5,cons->qI6
open List.Nodup renaming count->qI3
open List.Pairwise renaming imp_of_mem->qEf,nil->qFz,and->qI2
open List.Perm renaming refl->qCz,append_left->qDm,swap->qFc
open List.cons renaming injEq->qGs
open Nat renaming le_refl->qA8,lt_of_lt_of_le->qAf,ne_of_lt->qAj,le_trans->qAl,mod_eq_of_lt->qAx,zero_le->qAy,lt_succ_of_lt->qBa,ne_of_gt->qBm,zero_add->qBo,mod_lt->qBq,lt_succ_self->qBu,lt_irrefl->qBv,add_mod_right->qC0,le_succ->qC3,le_of_lt->qCd,lt_of_le_of_lt->qCl,le_mul_of_pos_left->qDg,lt_trichotomy->qDj,le_antisymm->qDz,succ_mul->qEx,le_of_eq->qF1,lt_or_ge->qF5,pow_lt_pow_right->qF9,eq_or_lt_of_le->qFu,min_self->qG9,succ_le_succ->qGe,le_add_right->qGg,le_zero->qGp,strongRecOn->qGu,mul_le_mul->qH6,mod_self->qHs,mul_succ->qHt,not_lt->qI0
open Nat.succ renaming inj->qGb
open Ne renaming symm->qCe
open Option renaming map_some->qC6,isSome_map->qCq,map_none->qE4,isSome_iff_exists->qEd,getD_some->qEp,none->qFf,isSome_some->qFn,getD_none->qGd
open Option.some renaming inj->qB8,injEq->qHz
open Or renaming inr->qHw,inl->qI4
open Prod renaming fst->qHx
open PyProof.Rows renaming callWith_type1->qC2,envOfC->qFh,callWith_builtin1->qG8,StrsAre->qJw,AllBare->qKm,subscriptTail_builtinR->qKq,boot_isinstance->qKx,Subscript_->qMd,IntsAre->qMi,sortedS->qMk
open PyProof.Rows.F renaming plain_set_update_loop->qBy,entry_set_update_loop->qCy
open PySem renaming mem_of_lookup->qCf,call->qG1,KeyKind->qHm,Within->qHp,Shared->qI8,Program->qIb,Around->qIc,mainGlobals->qIf,wpAny_loadPart_at->qIp,sizeLine_eq->qIq,FuncData->qIs,sysModules->qIz,wpAny_passesOwn->qJ0,behindInMarks->qJ2,wpAny_isSubtype_exc->qJ4,plainId_quiet->qJ6,builtinLookup_eq_fast->qJa,NameKind->qJc,wpAny_pyIter_enum->qJd,isSubtype_type->qJh,boot_len->qJj,Builtin->qJk,bootBuiltins->qJm,wpAny_Call_Name_kw->qJr,wpAny_Call_method_late->qJt,foldedSetIterable->qJv,GenState->qJy,SetTable->qK0,builtinsNs->qK4,wpAny_execs_nil->qK7,codeAny->qK8,typeLookup_type->qK9,wpAny_letOwnedTupleGo_enum->qKc,ExcBaseFacts->qKf,Paired->qKk,wpAny_Assign_Subscript->qKr,wpAny_isTrue_Compare1->qKs,swapsWith->qKt,codeAny_extend_loopS->qL1,call_enumerate_list->qLb,callerA->qLe,bindArgs->qLg,attributeBase->qLh,wpAny_assign_Name->qLk,BindsTo->qLl,Keyword->qLm,slot_list_getitem->qLn,wpAny_pyIter_slot->qLr,setsByText->qLs,Result->qLu,seqIndex_neg->qLv,PassesOwn->qM2,seqIndex?->qM3,seqIndex_of->qM4,putSet_of->qM9,wpAny_Name->qMc,PlainAttrs->qMe,ElemsOf->qMl,entryFor->qMm,slotArgs->qMn
open PySem.Challenge renaming rw_fourway_k20_choices_of_words->qCb,pw_fourway_k20_choices_of_words->qEb
open PySem.EqMixed renaming eq_bool_str->qGy,eq_str_bool->qGz,ne_bool_str->qH3,ne_str_bool->qH4,eq_int_str->qHb,eq_str_int->qHd,ne_int_str->qHh,ne_str_int->qHj
open PySem.EqNone renaming eq_none_none->qGv,eq_none_bool->qGw,eq_bool_none->qGx,ne_none_none->qH0,ne_none_bool->qH1,ne_bool_none->qH2,eq_none_int->qH8,eq_none_str->qH9,eq_int_none->qHa,eq_str_none->qHc,ne_none_int->qHe,ne_none_str->qHf,ne_int_none->qHg,ne_str_none->qHi
open PySem.F renaming plainAttrs_str->qB4,plainAttrs_list->qBx,slot_str_find->qC9,type_str_find->qCa,plain_list_iadd->qCh,slot_list_append->qD3,type_list_append->qD4,slot_str_join->qDn,type_str_join->qDo,entry_proto_collect->qE0,plain_proto_collect->qE1,plain_extend_loop->qEa,entry_list_iadd->qEi,slot_set_iter->qF4,called_set->qJ9,slot_NoneType_hash->qJe,slot_list_getattribute->qJq,slot_bool_hash->qK1,slot_dict_update->qLj,entry_list_pop->qLy,slot_list_pop->qM5,slot_int_rmul->qM6,plain_set_new->qMa
open PySem.W renaming Frag->qA1,findIn->qB5,fnOf->qBe,kia_one->qBg,keepIn->qBh,nsIn->qBr,codeIn->qCk,mg_of->qCt,cellsFrom_some->qDd,hasDictIn->qDh,OpenLaw->qE2,methodObj->qEc,subIn->qEm,plainGet->qEn,codeHdIn->qEs,instObj->qEw,lookIn->qFa,tabObj->qFd,mroIn->qFk,callWith_K->qFl,clsIn->qFo,WalkO->qFp,specialIn->qFw,kitx_list->qFx,kitx_dict->qFy,envX->qGa,takesIn->qGi,kitOne->qH5,typeIn->qH7,Looks->qHn
open Sum renaming inl->qDv,inr->qFe
open True renaming intro->qCp
set_option compiler.extract_closed false
set_option genSizeOf false
set_option genSizeOfSpec false
set_option bootstrap.genMatcherCode false
open PySem.Around renaming under_plainId->qIm
open PySem.Builtin renaming bitXor->qJz
open PySem.Builtin.Dict renaming updateFrom->qKp
open PySem.Builtin.Frozenset renaming updateFrom->qM1,newClass->qMb,sizeOf->qMg,slot0->qMo
open PySem.Builtin.Int renaming intBits->qJl,intTooBig->qKw
open PySem.Builtin.List renaming listExtendWith->qIv,listTooLong->qJ1,listSameRef->qJp,listLengthHint->qKa
open PySem.Builtin.Range renaming rangeSize->qKn
open PySem.Builtin.Str renaming subAt->qIt,strSliceIndices->qIu,occurrences->qJ3
open PySem.Calls renaming callWith_builtin->qJu,evalArgs_plain->qK2,Name_function_global->qKb,call_function_entry->qKi
open PySem.CmpOp renaming NotIn->qMu
open PySem.Code renaming quiet_builtin->qKg
open PySem.EntryCells renaming newEntry->qLd
open PySem.Heap renaming get?_push_of_some->qI7,lt_size->qI9,get?_push_size->qIa,get?_update_other->qId,get?_update_self->qIe,size_push->qIk,get?_none_of_le->qJf,SameBut->qJn,MadeExcOf->qKh,ExtBut->qLc
open PySem.Heap.IsSliceOf renaming new->qMx
open PySem.Heap.SameBut renaming update->qJ5
open PySem.ItemsOf renaming nil->qMw
open PySem.NameKind renaming free->qIg,cell->qIy
open PySem.Obj renaming data_mapFields->qIh,mapFields->qIl,isFreed_of_fields->qIo,mapSeq->qJo,cls_mapFields->qJx,putSet->qLq
open PySem.Paired renaming length->qK3,snoc->qMv
open PySem.PassesOwn renaming never->qIr
open PySem.SeqAt renaming EqAt->qK5,RcNeAt->qLw,RcAt->qMf
open PySem.SeqAt.EqAt renaming of_refs->qJs,same->qK6,int_str->qKd,str_int->qKe,none_bool->qKy,bool_none->qKz,bool_bool->qL0,none_int->qL3,none_str->qL4,bool_int->qL5,bool_str->qL6,int_none->qL7,int_bool->qL8,str_none->qL9,str_bool->qLa
open PySem.SeqAt.RcAt renaming lists_lengths->qKl,list_tuple->qKu,tuple_list->qKv,tuples->qLp,lists->qLz
open PySem.SetTable renaming grown->qJ7,below->qJi,orStandIn->qLi
open PySem.SetTable.below renaming go->qLt
open PySem.Str renaming ofString->qIn,ofString_eq_toList->qIw,join->qKo,length->qLo
open PySem.StrLaws renaming occBody->qJ8
open PySem.Txt renaming find->qMj,slice->qMp,rfind->qMr
open PySem.Value renaming ref->qIi,none->qIj,type->qIx,bool->qJb,str->qJg,int->qKj,isStrOf_shape->qL2,builtin->qLf,isStrOf->qMh,isInt->qMs,float->qMt
open PySem.W.WData renaming layableAll->qM0,int->qM7,weightAll->qM8,weight->qMq
open PySem.W.WShape renaming has->qMy
open PySem.pickOrder renaming go->qLx
noncomputable section
set_option maxHeartbeats 0 in
def hdZ:PSigma fun H:Prop=>H->PySem.Challenge.rw_fourway_k20_choices_of_words.Holds:=by
 refine' ⟨_,fun x=>?go⟩
 case' go=>w_on;o_law;refine' And.left (b:=_) ⟨?main,And.intro ?hl ?hc⟩
 case main=>
  k_head
  case hw=>w_witness2
 case hc=>exact x
 case hl=>intro w;unfold PySem.W.openEnds PySem.W.fencedOpening PySem.W.topFrom;rewrite[PySem.W.Fast.te10274390034422433532,PySem.W.Fast.te14289696077712309145,PySem.W.Fast.te14082659384304107361,PySem.W.Fast.te4187177175401517315,PySem.W.Fast.te1435165496053646825,PySem.W.Fast.te14364793385576792824];kernel_rfl
namespace L2
open PySem PySem.Spec PyProof.Rows
abbrev Key:=Sum Int Str
noncomputable def zHO:Key->Value->Bool
 |.inl k,v=>qMs k v
 |.inr x,v=>qMh x v
noncomputable def keyH(w:World):Key->Int
 |.inl k=>hashInt k
 |.inr x=>hashStr w x
theorem zAV:∀{k:Key}{v:Value},zHO k v=true->(∃i t,k=qDv i/\v=qKj i t)\/(∃x t,k=qFe x/\v=qJg x t)
 |.inl i,v,h=>by
  obtain⟨t,e⟩:=Value.isInt_shape (k:=i) (v:=v) h;exact .inl ⟨i,t,rfl,e⟩
 |.inr x,v,h=>by
  obtain⟨t,e⟩:=qL2 (x:=x) (v:=v) h;exact .inr ⟨x,t,rfl,e⟩
theorem zJB(i:Int)(t:Tok):zHO (.inl i) (.int i t)=true:=by simp[zHO,qMs]
theorem zJA(x:Str)(t:Tok):zHO (.inr x) (.str x t)=true:=by simp[zHO,qMh]
theorem zM4(a b:Int):decide ((qDv a:Key)=qDv b)=(a==b):=by
 by_cases e:a=b
 ·subst e;simp
 ·have h:¬(qDv a:Key)=qDv b:=fun q=>e (Sum.inl.inj q)
  rw[decide_eq_false h];exact(beq_eq_false_iff_ne.mpr e).symm
theorem zSW(a b:Str):decide ((qFe a:Key)=qFe b)=decide (a=b):=by
 by_cases e:a=b
 ·subst e;simp
 ·have h:¬(qFe a:Key)=qFe b:=fun q=>e (Sum.inr.inj q)
  rw[decide_eq_false h,decide_eq_false e]
theorem zSY(a:Int)(b:Str):decide ((qDv a:Key)=qFe b)=false:=decide_eq_false (fun q=>nomatch q)
theorem zSX(a:Str)(b:Int):decide ((qFe a:Key)=qDv b)=false:=decide_eq_false (fun q=>nomatch q)
def zC5(prog:qIb)(w:World):qHm prog w Key where
 is:=zHO
 hash:=keyH w
 inj:=fun v a b ha hb=>by
  rcases zAV ha with⟨i,t,rfl,rfl⟩|⟨x,t,rfl,rfl⟩
  ·rcases zAV hb with⟨j,u,rfl,e⟩|⟨y,u,rfl,e⟩
   ·injection e with e1 _;rw[e1]
   ·exact nomatch e
  ·rcases zAV hb with⟨j,u,rfl,e⟩|⟨y,u,rfl,e⟩
   ·exact nomatch e
   ·injection e with e1 _;rw[e1]
 byValue:=fun k v h=>by
  rcases zAV h with⟨i,t,rfl,rfl⟩|⟨x,t,rfl,rfl⟩<;>rfl
 pyHash:=fun hv h=>by
  rcases zAV hv with⟨i,t,rfl,rfl⟩|⟨x,t,rfl,rfl⟩
  ·exact wpAny_pyHash_int h
  ·exact wpAny_pyHash_str h
 eqBool:=fun hu hv h=>by
  rcases zAV hu with⟨i,t,rfl,rfl⟩|⟨x,t,rfl,rfl⟩
  ·rcases zAV hv with⟨j,u,rfl,rfl⟩|⟨y,u,rfl,rfl⟩
   ·rw[zM4]at h;exact wpAny_eqBool_int h
   ·rw[zSY]at h;exact qKd i t y u _ _ _ _ h
  ·rcases zAV hv with⟨j,u,rfl,rfl⟩|⟨y,u,rfl,rfl⟩
   ·rw[zSX]at h;exact qKe x t j u _ _ _ _ h
   ·rw[zSW]at h;exact wpAny_eqBool_str h
 «strs»:=fun k x t v h=>by
  rcases zAV h with⟨i,u,rfl,e⟩|⟨y,u,rfl,e⟩
  ·exact nomatch e
  ·injection e with e1 _
   subst e1;cases v<;>rfl
theorem zKP(prog:qIb)(w:World)(i:Int)(t:Tok):(zC5 prog w).is (.inl i) (.int i t)=true:=zJB i t
theorem zKO(prog:qIb)(w:World)(x:Str)(t:Tok):(zC5 prog w).is (.inr x) (.str x t)=true:=zJA x t
abbrev KeyN:=Option Key
noncomputable def zJP(b:Bool):Int:=if b then 1 else 0
def zFU:KeyN->Value->Bool
 |none,.none=>true
 |some (.inl i),.bool b=>i==zJP b
 |some k,v=>zHO k v
 |_,_=>false
def za1(w:World):KeyN->Int
 |none=>4238894112
 |some k=>keyH w k
theorem zB4:∀{k:KeyN}{v:Value},zFU k v=true->(k=none/\v=qIj)\/(∃b,k=some (qDv (zJP b))/\v=qJb b)\/(∃i t,k=some (qDv i)/\v=qKj i t)\/(∃x t,k=some (qFe x)/\v=qJg x t)
 |none,v,h=>by
  cases v<;>first|exact .inl ⟨rfl,rfl⟩|exact nomatch h
 |some (.inl i),v,h=>by
  by_cases hb:∃b,v=.bool b
  ·obtain⟨b,rfl⟩:=hb;have e:i=zJP b:=by simpa[zFU]using h
   subst e;exact .inr (.inl ⟨b,rfl,rfl⟩)
  ·have h':zHO (.inl i) v=true:=by
    cases v<;>first|exact h|exact absurd ⟨_,rfl⟩ hb
   rcases zAV h' with⟨j,t,e1,e2⟩|⟨x,t,e1,e2⟩
   ·exact .inr (.inr (.inl ⟨j,t,by rw[e1],e2⟩))
   ·cases e1
 |some (.inr x),v,h=>by
  have h':zHO (.inr x) v=true:=by
   cases v<;>exact h
  rcases zAV h' with⟨j,t,e1,e2⟩|⟨y,t,e1,e2⟩
  ·cases e1
  ·exact .inr (.inr (.inr ⟨y,t,by rw[e1],e2⟩))
theorem zNA(i:Int)(t:Tok):zFU (some (.inl i)) (.int i t)=true:=zJB i t
theorem zN9(x:Str)(t:Tok):zFU (some (.inr x)) (.str x t)=true:=zJA x t
theorem zP9(b:Bool):zFU (some (.inl (zJP b))) (.bool b)=true:=by simp[zFU]
theorem zPO{prog:qIb}{w:World}{A:qIc}{E:Value->qI8->Prop}{s:qI8}{Q:Int->qI8->Prop}(h:Q 4238894112 { s with toks:=s.toks+1 }):wpAny (model prog w) A (pyHash .none) Q E s:=by
 unfold pyHash;have hT:s.TypeIs .none "NoneType":=rfl;refine wpAny_bind ?_;rw[cRoomFor,if_neg (by exact qAc)];refine wpAny_pure ?_;refine wpAny_bind (wpAny_specialOf hT qJe.lookup ?_);show wpAny _ _ (if(some (qLf "NoneType.__hash__")==some qIj)=true then _ else _) Q E s;rw[if_neg (by rw[beq_builtin_none];exact qAc)];refine wpAny_bind (wpAny_specialOf hT qJe.lookup ?_);show wpAny _ _ (callSpecialIfBoundUnlessNone? .none "__hash__" _ >>= _) Q E s;refine wpAny_bind (wpAny_callSpecialIfBoundUnlessNone?_slot hT qJe
  (wpAny_call_entry qJe hT F.entry_NoneType_hash
   (show wpAny _ _ (do ret (<- mkInt 0xFCA86420)) _ _ s from wpAny_ret_mkInt ?_) (F.args_NoneType_hash_1 _)))
 exact wpAny_pure h
theorem zPP{prog:qIb}{w:World}{A:qIc}{E:Value->qI8->Prop}{s:qI8}{b:Bool}{Q:Int->qI8->Prop}(h:Q (hashInt (zJP b)) { s with toks:=s.toks+1 }):wpAny (model prog w) A (pyHash (.bool b)) Q E s:=by
 unfold pyHash;have hT:s.TypeIs (.bool b) "bool":=rfl;refine wpAny_bind ?_;rw[cRoomFor,if_neg (by exact qAc)];refine wpAny_pure ?_;refine wpAny_bind (wpAny_specialOf hT qK1.lookup ?_);show wpAny _ _ (if(some (qLf "int.__hash__")==some qIj)=true then _ else _) Q E s;rw[if_neg (by rw[beq_builtin_none];exact qAc)];refine wpAny_bind (wpAny_specialOf hT qK1.lookup ?_);show wpAny _ _ (callSpecialIfBoundUnlessNone? (.bool b) "__hash__" _ >>= _) Q E s;refine wpAny_bind (wpAny_callSpecialIfBoundUnlessNone?_slot hT qK1
  (wpAny_call_entry qK1 hT entry_int_hash
   (show wpAny _ _ (do ret (<- mkInt (rawHash (zJP b)))) _ _ s by cases b<;>exact wpAny_ret_mkInt (wpAny_pure h)) (args_int_hash _)))
theorem eqN(a b:KeyN):decide (a=b)=match a,b with|none,none=>true|some x,some y=>decide (x=y)|_,_=>false:=by
 cases a<;>cases b<;>simp
def mixN(prog:qIb)(w:World):qHm prog w KeyN where
 is:=zFU
 hash:=za1 w
 inj:=fun v a b ha hb=>by
  rcases zB4 ha with⟨rfl,rfl⟩|⟨x,rfl,rfl⟩|⟨i,t,rfl,rfl⟩|⟨x,t,rfl,rfl⟩<;>rcases zB4 hb with⟨rfl,e⟩|⟨y,rfl,e⟩|⟨j,u,rfl,e⟩|⟨y,u,rfl,e⟩<;>first|rfl|(cases e;done)|(cases e;rfl)
 byValue:=fun k v h=>by
  rcases zB4 h with⟨rfl,rfl⟩|⟨x,rfl,rfl⟩|⟨i,t,rfl,rfl⟩|⟨x,t,rfl,rfl⟩<;>rfl
 pyHash:=fun hv h=>by
  rcases zB4 hv with⟨rfl,rfl⟩|⟨x,rfl,rfl⟩|⟨i,t,rfl,rfl⟩|⟨x,t,rfl,rfl⟩
  ·exact zPO h
  ·exact zPP h
  ·exact wpAny_pyHash_int h
  ·exact wpAny_pyHash_str h
 eqBool:=fun hu hv h=>by
  rw[eqN]at h
  rcases zB4 hu with⟨rfl,rfl⟩|⟨x,rfl,rfl⟩|⟨i,t,rfl,rfl⟩|⟨x,t,rfl,rfl⟩<;>rcases zB4 hv with⟨rfl,rfl⟩|⟨y,rfl,rfl⟩|⟨j,u,rfl,rfl⟩|⟨y,u,rfl,rfl⟩
  ·exact qK6 _ _ _ _ _ h
  ·exact qKy _ _ _ _ _ h
  ·exact qL3 _ _ _ _ _ _ h
  ·exact qL4 _ _ _ _ _ _ h
  ·exact qKz _ _ _ _ _ h
  ·refine qL0 _ _ _ _ _ _ ?_;cases x<;>cases y<;>exact h
  ·refine qL5 _ _ _ _ _ _ _ ?_;dsimp only at h;rw[zM4]at h;exact h
  ·exact qL6 _ _ _ _ _ _ _ h
  ·exact qL7 _ _ _ _ _ _ h
  ·refine qL8 _ _ _ _ _ _ _ ?_;dsimp only at h;rw[zM4]at h;exact h
  ·dsimp only at h;rw[zM4]at h;exact wpAny_eqBool_int h
  ·dsimp only at h;rw[zSY]at h;exact qKd _ _ _ _ _ _ _ _ h
  ·exact qL9 _ _ _ _ _ _ h
  ·exact qLa _ _ _ _ _ _ _ h
  ·dsimp only at h;rw[zSX]at h;exact qKe _ _ _ _ _ _ _ _ h
  ·dsimp only at h;rw[zSW]at h;exact wpAny_eqBool_str h
 «strs»:=fun k x t v h=>by
  rcases zB4 h with⟨rfl,e⟩|⟨x,rfl,e⟩|⟨i,u,rfl,e⟩|⟨y,u,rfl,e⟩
  ·exact nomatch e
  ·exact nomatch e
  ·exact nomatch e
  ·injection e with e1 _
   subst e1;cases v<;>rfl
inductive V where
 |non|bl (b:Bool)|int (i:Int)|str (x:Str)|byt (b:Array UInt8)|flt (b:UInt64)|ref (a:Addr)|ty (n:String)
 deriving DecidableEq
noncomputable def RelV:V->Value->Prop
 |.non,u=>u=qIj
 |.bl b,u=>u=qJb b
 |.int i,u=>∃t,u=qKj i t
 |.str x,u=>∃t,u=qJg x t
 |.byt b,u=>∃t,u=Value.bytes b t
 |.flt b,u=>∃t,u=qMt b t
 |.ref a,u=>u=qIi a
 |.ty n,u=>u=qIx n
abbrev Vals:List V->List Value->Prop:=qKk RelV
theorem Vals.length{xs:List V}{us:List Value}(r:Vals xs us):xs.length=us.length:=qK3 r
theorem Vals.get:∀{xs:List V}{us:List Value}{i:Nat}{x:V},Vals xs us->xs[i]?=some x->∃u,us[i]?=some u/\RelV x u
 |_,_,_,_,.nil,e=>by simp at e
 |_,_,0,_,.cons r _,e=>by simp at e;subst e;exact⟨_,rfl,r⟩
 |_,_,i+1,x,.cons _ t,e=>by
  obtain⟨u,h1,h2⟩:=Vals.get (i:=i) (x:=x) t (by simpa using e);exact⟨u,by simpa using h1,h2⟩
theorem Vals.set{x:V}{u:Value}(r:RelV x u):∀{xs:List V}{us:List Value}(i:Nat),Vals xs us->Vals (xs.set i x) (us.set i u)
 |_,_,_,.nil=>.nil
 |_,_,0,.cons _ t=>.cons r t
 |_,_,i+1,.cons q t=>.cons q (Vals.set r i t)
theorem Vals.append:∀{xs ys:List V}{us ws:List Value},Vals xs us->Vals ys ws->Vals (xs++ys) (us++ws)
 |_,_,_,_,.nil,s=>s
 |_,_,_,_,.cons r t,s=>.cons r (Vals.append t s)
theorem Vals.take:∀{xs:List V}{us:List Value}(n:Nat),Vals xs us->Vals (xs.take n) (us.take n)
 |_,_,0,_=>.nil
 |_,_,_+1,.nil=>.nil
 |_,_,n+1,.cons r t=>.cons r (Vals.take n t)
theorem Vals.drop:∀{xs:List V}{us:List Value}(n:Nat),Vals xs us->Vals (xs.drop n) (us.drop n)
 |_,_,0,r=>r
 |_,_,_+1,.nil=>.nil
 |_,_,n+1,.cons _ t=>Vals.drop n t
def RelO:Option V->Option Value->Prop
 |some v,some u=>RelV v u
 |none,none=>True
 |_,_=>False
def KV{κ:Type}:List (κ×V)->List (κ×Value)->Prop:=qKk fun(p:κ×V)(q:κ×Value)=>p.1=q.1/\RelV p.2 q.2
noncomputable def kV:Key->V
 |.inl i=>.int i
 |.inr x=>.str x
def vN:V->Option KeyN
 |.non=>some none
 |.bl b=>some (some (.inl (zJP b)))
 |.int i=>some (some (.inl i))
 |.str x=>some (some (.inr x))
 |_=>none
abbrev KsOf:List V->List KeyN->Prop:=qKk fun v k=>vN v=some k
inductive HO where
 |lst (xs:List V)
 |tup (xs:List V)
 |dK (kvs:List (Key×V))|dT (T:Addr->Prop) (e0:Nat) (kvs:List (List KeyN×V))
 |set (S:Int->Bool) (n:Nat)
 |ins (C dx:Addr) (fs:List (Str×V))
 |own (x:Addr)
 |xd (fs:List (Str×V))
 |met (f x:Addr)
 |rng (lo hi:Int)
 |frz (o:Obj) (u:HO)
 |tbl (ps:Array Value)
 |lam (q:Str)
 |fn (o:Obj) (q:Str)
 |ext (φ:Heap->Prop)
abbrev Hp:=Addr->Option HO
noncomputable def upd(H:Hp)(a:Addr)(o:HO):Hp:=fun b=>if b=a then some o else H b
theorem zAD{H:Hp}{a:Addr}{o:HO}:upd H a o a=some o:=by unfold upd;rw[if_pos rfl]
theorem zAE{H:Hp}{a b:Addr}{o:HO}(h:b≠a):upd H a o b=H b:=by unfold upd;rw[if_neg h]
theorem zOX{H:Hp}{a b:Addr}{o u:HO}(h:H a=some o)(h':H b=some u)(d:o≠u):a≠b:=by
 intro e;subst e;rw[h]at h';exact d (qB8 h')
theorem zAH{H:Hp}{a b:Addr}{o:HO}(h:H a=some o)(h':H b=none):a≠b:=by
 intro e;subst e;rw[h]at h';cases h'
def TupK(H:Hp)(b:Addr)(k:List KeyN):Prop:=∃vs,H b=some (.tup vs)/\KsOf vs k
theorem TupK.keeps{H H':Hp}{b:Addr}{k:List KeyN}(x:TupK H b k)(ht:∀b xs,H b=some (.tup xs)->H' b=some (.tup xs)):TupK H' b k:=let⟨vs,e,r⟩:=x;⟨vs,ht _ _ e,r⟩
def CodR(o:Obj)(q:Str):Prop:=∃vs t,o.data=.fields vs/\vs[1]?=some (.str q t)
section
variable(P:qIb)(w:World)
def ObjOk(H:Hp)(h:Heap)(a:Addr):HO->Prop
 |.lst xs=>xs.length<=sizeLine/\∃(its:List Value)(n:Nat),Vals xs its/\h.get? a=some { cls:=.type "list",data:=.seq its.toArray n }
 |.tup xs=>xs.length<=sizeLine/\∃its:List Value,Vals xs its/\IsTup h a its.toArray
 |.dK kvs=>kvs.length<=sizeLine/\(a==qIz)=false/\∃vs,KV kvs vs/\h.DictOf (zC5 P w) a vs
 |.dT T e0 kvs=>kvs.length<=sizeLine/\(a==qIz)=false/\∃xs:List (List KeyN×Addr×Value),
   qKk (fun(p:List KeyN×V)(q:List KeyN×Addr×Value)=>p.1=q.1/\(TupK H q.2.1 p.1/\T q.2.1)/\RelV p.2 q.2.2) kvs xs /\
   ∃o es ep,h.get? a=some o/\o.ExactDict/\o.data=.dict es ep/\es.toList=xs.map (entryOfKey (tupleKind (mixN P w)))/\(xs.map (·.1)).Nodup/\ep=e0
 |.set S n=>h.SetOf (intKind P w) a S n
 |.ins C dx fs=>H dx=some (.own a)/\fs.length<=1000/\dx≠a/\h.get? a=some (qEw C dx) /\
   ∃mA,h.Ns1 dx mA/\(∀f,RelO (fs.lookup f) (mA f))/\qHp mA (fs.map (·.1))
 |.own _=>∃o,h.get? a=some o
 |.xd fs=>∃mA,h.Ns1 a mA/\∀f,RelO (fs.lookup f) (mA f)
 |.rng lo hi=>∃t u v,h.get? a=some { cls:=.type "range",data:=.fields #[.int lo t,.int hi u,.int 1 v] }
 |.frz o u=>h.get? a=some o/\ObjOk H h a u
 |.tbl ps=>h.get? a=some { cls:=.none,data:=.fields ps }
 |.lam q=>∃ps:Array Value,h.get? a=some { cls:=.none,data:=.fields ps }/\TriplesOk ps.toList/\∀pos cv,codeAmong pos ps.toList=some cv->∃c oc u,cv=.ref c/\H c=some (.frz oc u)/\CodR oc q
 |.fn o q=>h.get? a=some o/\∃fd c oc u,o.data=.func fd/\fd.code=.ref c/\H c=some (.frz oc u)/\CodR oc q
 |.met f x=>h.get? a=some (qEc (.ref f) (.ref x))
 |.ext φ=>φ h/\(∃o,h.get? a=some o)/\∀h1 h2:Heap,φ h1->(∀o,h1.get? a=some o->h2.get? a=some o)->φ h2
def HOk(H:Hp)(h:Heap):Prop:=∀a o,H a=some o->ObjOk P w H h a o
end
section
variable{P:qIb}{w:World}{H H':Hp}{h h':Heap}{a:Addr}{o:HO}
theorem ObjOk.lt(x:ObjOk P w H h a o):a<h.objs.size:=by
 cases o with
 |lst xs=>obtain⟨_,_,_,_,e⟩:=x;exact qI9 e
 |tup xs=>obtain⟨_,_,_,p⟩:=x;exact p.lt
 |dK kvs=>obtain⟨_,_,_,_,o,_,_,e,_⟩:=x;exact qI9 e
 |dT T e0 kvs=>obtain⟨_,_,_,_,o,_,_,e,_⟩:=x;exact qI9 e
 |set S n=>obtain⟨o,_,_,_,e,_⟩:=x;exact qI9 e
 |ins C dx fs=>obtain⟨_,_,_,e,_⟩:=x;exact qI9 e
 |own y=>obtain⟨_,e⟩:=x;exact qI9 e
 |xd fs=>obtain⟨_,⟨_,_,_,e,_⟩,_⟩:=x;exact qI9 e
 |rng lo hi=>obtain⟨_,_,_,e⟩:=x;exact qI9 e
 |frz ob u=>obtain⟨e,_⟩:=x;exact qI9 e
 |tbl ps=>exact qI9 (show h.get? a=some _ from x)
 |lam q=>obtain⟨_,e,_⟩:=x;exact qI9 e
 |fn ob q=>obtain⟨e,_⟩:=x;exact qI9 e
 |met f y=>exact qI9 (show h.get? a=some _ from x)
 |ext φ=>obtain⟨_,⟨_,e⟩,_⟩:=x;exact qI9 e
theorem qKk.mapP{α β:Type}{F G:α->β->Prop}:∀{l₁:List α}{l₂:List β},qKk F l₁ l₂->(∀a b,F a b->G a b)->qKk G l₁ l₂
 |_,_,.nil,_=>.nil
 |_,_,.cons r t,f=>.cons (f _ _ r) (qKk.mapP t f)
theorem ObjOk.stay(x:ObjOk P w H h a o)(k:∀b u,(b=a\/H b=some (.own a))->h.get? b=some u->h'.get? b=some u)
  (ho:∀b,H b=some (.own a)->H' b=some (.own a)) (ht:∀b xs,H b=some (.tup xs)->H' b=some (.tup xs)) (hf:∀b o u,H b=some (.frz o u)->(∃vs,o.data=.fields vs)->H' b=some (.frz o u)):ObjOk P w H' h' a o:=by
 induction o with
 |lst xs=>obtain⟨z,its,n,r,e⟩:=x;exact⟨z,its,n,r,k _ _ (.inl rfl) e⟩
 |tup xs=>obtain⟨z,its,r,ob,e,c⟩:=x;exact⟨z,its,r,ob,k _ _ (.inl rfl) e,c⟩
 |dK kvs=>obtain⟨z,y,vs,r,ob,es,ep,e,c⟩:=x;exact⟨z,y,vs,r,ob,es,ep,k _ _ (.inl rfl) e,c⟩
 |dT T e0 kvs=>
  obtain⟨z,y,xs,r,ob,es,ep,e,c⟩:=x;exact⟨z,y,xs,qKk.mapP r fun p q z=>⟨z.1,⟨z.2.1.1.keeps ht,z.2.1.2⟩,z.2.2⟩,ob,es,ep,k _ _ (.inl rfl) e,c⟩
 |set S n=>obtain⟨ob,es,ep,t,e,c⟩:=x;exact⟨ob,es,ep,t,k _ _ (.inl rfl) e,c⟩
 |ins C dx fs=>
  obtain⟨d,z,ne,e,mA,⟨od,es,ep,e2,c⟩,r⟩:=x;exact⟨ho _ d,z,ne,k _ _ (.inl rfl) e,mA,⟨od,es,ep,k _ _ (.inr d) e2,c⟩,r⟩
 |own y=>obtain⟨ob,e⟩:=x;exact⟨ob,k _ _ (.inl rfl) e⟩
 |xd fs=>obtain⟨mA,⟨od,es,ep,e,c⟩,r⟩:=x;exact⟨mA,⟨od,es,ep,k _ _ (.inl rfl) e,c⟩,r⟩
 |rng lo hi=>obtain⟨t,u,v,e⟩:=x;exact⟨t,u,v,k _ _ (.inl rfl) e⟩
 |frz ob u ih=>obtain⟨e,q⟩:=x;exact⟨k _ _ (.inl rfl) e,ih q⟩
 |tbl ps=>
  have e:h.get? a=some { cls:=.none,data:=.fields ps }:=x;show h'.get? a=some { cls:=.none,data:=.fields ps };exact k a _ (.inl rfl) e
 |lam q=>
  obtain⟨ps,e,t,r⟩:=x;exact⟨ps,k _ _ (.inl rfl) e,t,fun pos cv z=>let⟨c,oc,u,e1,e2,e3⟩:=r pos cv z;⟨c,oc,u,e1,hf _ _ _ e2 (let⟨vs,_,d,_⟩:=e3;⟨vs,d⟩),e3⟩⟩
 |fn ob q=>
  obtain⟨e,fd,c,oc,u,e1,e2,e3,e4⟩:=x;exact⟨k _ _ (.inl rfl) e,fd,c,oc,u,e1,e2,hf _ _ _ e3 (let⟨vs,_,d,_⟩:=e4;⟨vs,d⟩),e4⟩
 |met f y=>
  have e:h.get? a=some (qEc (.ref f) (.ref y)):=x;show h'.get? a=some (qEc (.ref f) (.ref y));exact k a _ (.inl rfl) e
 |ext φ=>obtain⟨p,⟨o,e⟩,st⟩:=x;exact⟨st _ _ p fun o q=>k _ _ (.inl rfl) q,⟨o,k _ _ (.inl rfl) e⟩,st⟩
theorem HOk.lt(x:HOk P w H h)(e:H a=some o):a<h.objs.size:=(x a o e).lt
theorem HOk.fresh(x:HOk P w H h)(e:h.objs.size<=a):H a=none:=by
 cases q:H a with
 |none=>rfl
 |some u=>exact absurd (qAf (x.lt q) e) (qBv _)
theorem HOk.kept(x:HOk P w H h)(k:∀b u,h.get? b=some u->h'.get? b=some u):HOk P w H h':=fun a o e=>
 (x a o e).stay (fun b u _ q=>k b u q) (fun _ q=>q) (fun _ _ q=>q) fun _ _ _ q _=>q
theorem HOk.laid(x:HOk P w H h)(k:∀b u,h.get? b=some u->h'.get? b=some u)(hp:h.objs.size<=a)(new:ObjOk P w (upd H a o) h' a o):HOk P w (upd H a o) h':=fun b u e=>by
 have hn:=x.fresh hp
 by_cases hb:b=a
 ·subst hb;rw[zAD]at e;cases e;exact new
 ·rw[zAE hb]at e;exact(x b u e).stay (fun c v _ q=>k c v q) (fun c q=>by rw[zAE (zAH q hn)];exact q) (fun c xs q=>by rw[zAE (zAH q hn)];exact q) fun c _ _ q _=>by rw[zAE (zAH q hn)];exact q
end
def Rd(H:Hp)(a:Addr)(u:HO):Prop:=H a=some u\/∃o,H a=some (.frz o u)
theorem Rd.ok{P:qIb}{w:World}{H:Hp}{h:Heap}{a:Addr}{u:HO}(r:Rd H a u)(x:HOk P w H h):ObjOk P w H h a u:=by
 rcases r with r|⟨o,r⟩
 ·exact x a u r
 ·obtain⟨_,q⟩:=x a _ r;exact q
noncomputable def Mut:Option HO->Prop
 |some (.lst _)=>True
 |some (.dK _)=>True
 |some (.dT _ _ _)=>True
 |some (.set _ _)=>True
 |some (.ins _ _ _)=>True
 |some (.ext _)=>True
 |some (.lam _)=>True
 |_=>False
section
variable{P:qIb}{w:World}{H:Hp}{h h':Heap}{x e:Addr}{o':HO}
theorem HOk.write(ok:HOk P w H h)(mu:Mut (H x))(he:e=x\/H e=some (.own x))(k:∀b u,b≠e->h.get? b=some u->h'.get? b=some u)(heo:∃u,h'.get? e=some u)
  (new:ObjOk P w (upd H x o') h' x o'):HOk P w (upd H x o') h':=fun b u q=>by
 have nown:∀c y,H c=some (.own y)->c≠x:=fun c y r z=>by subst z;rw[r]at mu;exact mu
 have ntup:∀c xs,H c=some (.tup xs)->c≠x:=fun c xs r z=>by subst z;rw[r]at mu;exact mu
 have nfrz:∀c o v,H c=some (.frz o v)->c≠x:=fun c o v r z=>by subst z;rw[r]at mu;exact mu
 by_cases hb:b=x
 ·subst hb;rw[zAD]at q;cases q;exact new
 ·rw[zAE hb]at q
  by_cases hbe:b=e
  ·have q':H b=some (.own x):=by
    rcases he with z|z
    ·exact absurd (hbe.trans z) hb
    ·rw[hbe];exact z
   rw[q]at q';cases q';obtain⟨v,hv⟩:=heo;exact⟨v,by rw[hbe];exact hv⟩
  ·refine(ok b u q).stay (fun c v hc r=>k c v ?_ r) (fun c r=>by rw[zAE (nown c b r)];exact r) (fun c xs r=>by rw[zAE (ntup c xs r)];exact r) fun c o v r _=>by rw[zAE (nfrz c o v r)];exact r
   rcases hc with rfl|hc
   ·exact hbe
   ·rintro rfl
    rcases he with z|z
    ·exact nown c b hc z
    ·rw[hc]at z;cases z;exact hb rfl
end
structure Un(fs ex:List Addr)(H H':Hp)(h h':Heap):Prop where
 keep:∀b o,h.get? b=some o->H b=none->b∉fs->b∉ex->h'.get? b=some o
 slot:∀b o,h.get? b=some o->H b=none->b∈fs->b∉ex->∃sl,h'.get? b=some { o with slots:=sl }
 free:∀b o,h.get? b=some o->H b=none->b∉ex->H' b=none
 there:∀b o,h.get? b=some o->b∉ex->∃o',h'.get? b=some o'
 tups:∀b xs,H b=some (.tup xs)->H' b=some (.tup xs)
 frzs:∀b o u,H b=some (.frz o u)->H' b=some (.frz o u)
 tbls:∀b ps,H b=some (.tbl ps)->∃more,H' b=some (.tbl (ps++more))
section
variable{fs fs' ex ex':List Addr}{H H1 H2:Hp}{h h1 h2 h':Heap}{a x e:Addr}{o:HO}
theorem Un.any(u:Un fs ex H H1 h h1){b:Addr}{ob:Obj}(q:h.get? b=some ob)(n:H b=none)(hx:b∉ex):∃sl,h1.get? b=some { ob with slots:=sl }:=by
 by_cases hb:b∈fs
 ·exact u.slot b ob q n hb hx
 ·exact⟨ob.slots,u.keep b ob q n hb hx⟩
theorem Un.kept(k:∀b u,h.get? b=some u->h'.get? b=some u):Un fs ex H H h h':=
 ⟨fun b ob q _ _ _=>k b ob q,fun b ob q _ _ _=>⟨ob.slots,k b ob q⟩,fun _ _ _ n _=>n,fun b ob q _=>⟨ob,k b ob q⟩,fun _ _ q=>q,fun _ _ _ q=>q,fun _ ps q=>⟨#[],by rw[q];simp⟩⟩
theorem Un.refl:Un fs ex H H h h:=Un.kept fun _ _ q=>q
theorem Un.laid(k:∀b u,h.get? b=some u->h'.get? b=some u)(hp:h.objs.size<=a)(hn:H a=none):Un fs ex H (upd H a o) h h' where
 keep:=fun b u q _ _ _=>k b u q
 slot:=fun b u q _ _ _=>⟨u.slots,k b u q⟩
 free:=fun b u q n _=>by rw[zAE (qAj (qAf (qI9 q) hp))];exact n
 there:=fun b u q _=>⟨u,k b u q⟩
 tups:=fun b xs q=>by rw[zAE (zAH q hn)];exact q
 frzs:=fun b u xs q=>by rw[zAE (zAH q hn)];exact q
 tbls:=fun b ps q=>⟨#[],by rw[zAE (zAH q hn),q];simp⟩
theorem Un.write(mu:Mut (H x))(he:e=x\/H e=some (.own x))(k:∀b u,b≠e->h.get? b=some u->h'.get? b=some u)(heo:∃u,h'.get? e=some u):Un fs ex H (upd H x o) h h':=by
 have hx:∀b,H b=none->b≠x:=fun b n z=>by subst z;rw[n]at mu;exact mu
 have hb:∀b,H b=none->b≠e:=fun b n z=>by
  subst z
  rcases he with r|r
  ·exact hx b n r
  ·rw[n]at r;cases r
 have hm:∀b u,H b=some u->¬Mut (some u)->b≠x:=fun b u q nm z=>by subst z;rw[q]at mu;exact nm mu
 refine⟨fun b u q n _ _=>k b u (hb b n) q,fun b u q n _ _=>⟨u.slots,k b u (hb b n) q⟩,fun b u q n _=>by rw[zAE (hx b n)];exact n,fun b u q _=>?_,
  fun b xs q=>by rw[zAE (hm b _ q fun z=>z)];exact q,fun b u xs q=>by rw[zAE (hm b _ q fun z=>z)];exact q,fun b ps q=>⟨#[],by rw[zAE (hm b _ q fun z=>z),q];simp⟩⟩
 by_cases hbe:b=e
 ·subst hbe;exact heo
 ·exact⟨u,k b u hbe q⟩
end
noncomputable def trk(h:Heap)(H:Hp):List Addr:=(qA9 h.objs.size).filter fun a=>(H a).isSome
def hidT(h:Heap)(H:Hp):Heap:=PySem.W.hideAll h (trk h H)
theorem zPM(h:Heap)(H:Hp):(hidT h H).objs.size=h.objs.size:=PySem.W.hideAll_size _ _
theorem zRW{h:Heap}{H:Hp}{b:Addr}{o:Obj}(e:h.get? b=some o)(n:H b=none):(hidT h H).get? b=some o:=
 PySem.W.hideAll_get _ e fun hm=>by
  have q:(H b).isSome=true:=(qC1.mp hm).2;rw[n]at q;simp at q
theorem zUG{h:Heap}{H:Hp}{b:Addr}{o:Obj}(e:(hidT h H).get? b=some o):h.get? b=some o/\H b=none:=by
 have e':h.get? b=some o:=PySem.W.of_hideAll (trk h H) e;refine⟨e',?_⟩;cases q:H b with
 |none=>rfl
 |some x=>
  have hm:b∈trk h H:=qC1.mpr ⟨qB0.mpr (qI9 e'),by simp[q]⟩;have z:(hidT h H).get? b=none:=PySem.W.hideAll_none (trk h H) hm;rw[z]at e;cases e
noncomputable def zVK(g h:Heap)(L:Addr):List (Addr×Obj):=(qA9 h.objs.size).filterMap fun a=>if a=L\/(g.get? a).isSome=true then none else(h.get? a).map fun o=>(a,o)
def rest(g h:Heap)(L d:Addr):List (Addr×Obj):=(zVK g h L).filter fun p=>decide (p.1≠d)
structure Mod(K:qA1)(mg:Str->Option Value)(base:Heap):Prop where
 kin:K.In base
 glob:base.Ns qIf mg
 blt:∃mb,base.Ns qK4 mb/\∀x:Str,x≠"__name__"->mb x=qJm x
 nolimit:base.NoLimit
 bm:∃bm ob,mg "__builtins__" = some (.ref bm)/\bm≠qK4/\base.get? bm=some ob/\ob.cls=.type "module"/\ob.dict=some qK4/\ob.data=.plain
structure Cx where
 prog:qIb
 w:World
 K:qA1
 mg:Str->Option Value
 base:Heap
 A:qIc
 N:List Str
 s₀:qI8
 H₀:Hp
 env:Env
 outer:List Env
 stack:List Env
 ex:List Addr
 fn:Str->Bool
 calm:Bool
 pn:List (Addr×Obj)
 xe:Value->qI8->Prop
noncomputable def frs(l:List Env):List Addr:=l.filterMap (·.frame)
abbrev Cx.fs(X:Cx):List Addr:=frs X.outer
def Vis(sc:Scope)(x:Str):Prop:=sc.names.lookup x=some .local\/sc.names.lookup x=some .cell\/sc.names.lookup x=some .free
def Loc(sc:Scope)(x:Str):Prop:=sc.names.lookup x=some .local\/sc.names.lookup x=some .cell
def Look(env:Env)(h:Heap)(m:Str->Option Value)(x:Str)(u:Value):Prop:=
 (env.kindOf x=some .local/\m x=some u)\/((env.kindOf x=some .cell\/env.kindOf x=some .free)/\∃c,env.cells.lookup x=some c/\h.IsCell c (some u))
structure Cx.Ok(X:Cx):Prop where
 mod:Mod X.K X.mg X.base
 kind:X.env.scope.kind=.function
 glob:X.env.globals=qIf
 blt:X.env.builtins=qK4
 above:X.s₀.heap.objs.size<=X.env.locals
 inj:∀x y c,X.env.cells.lookup x=some c->X.env.cells.lookup y=some c->x=y
 has:∀x,(X.env.kindOf x=some .cell\/X.env.kindOf x=some .free)->∃c,X.env.cells.lookup x=some c
 cab:∀x c,X.fn x=true->X.env.cells.lookup x=some c->X.s₀.heap.objs.size<=c
 hd:X.calm=true->X.A.handled=none
 frames:X.A.frames=some X.stack
 stk:X.stack=X.outer\/(X.stack=X.env::X.outer/\X.env.frame=some X.env.locals)
 exf:∀b∈X.ex,b≠X.env.locals/\∀x c,X.env.cells.lookup x=some c->c≠b
 bs:∀b o,X.base.get? b=some o->X.s₀.heap.get? b=some o/\X.H₀ b=none
 bsz:X.base.objs.size<=X.s₀.heap.objs.size
 noex:∀b o,X.base.get? b=some o->b∉X.ex
 exfs:∀b∈X.ex,b∉X.fs
 funs:X.s₀.heap.FunFrames X.base X.outer
 frf:∀b∈X.fs,X.H₀ b=none
structure Inv(X:Cx)(pins:List (Addr×Obj))(σ:List (Option V))(H:Hp)(s:qI8):Prop where
 ok:X.Ok
 os:s.os=X.s₀.os
 bare:qKm s.gens
 base:Un X.fs X.ex X.H₀ H X.s₀.heap s.heap
 loc:∃m,s.heap.Ns X.env.locals m/\∀(i:Nat)(x:Str)(v:V),X.N[i]?=some x->σ[i]?=some (some v)->Vis X.env.scope x->∃u,RelV v u/\Look X.env s.heap m x u
 cell:∀x c,X.env.cells.lookup x=some c->∃v,s.heap.IsCell c v
 free:H X.env.locals=none
 freeC:∀x c,X.env.cells.lookup x=some c->H c=none
 pin:∀p∈X.pn++pins,s.heap.get? p.1=some p.2/\H p.1=none/\p.1≠X.env.locals/\p.1∉X.fs/\∀v,p.2.data≠.cell v
 hok:HOk X.prog X.w H s.heap
 len:σ.length=X.N.length
section
variable{X:Cx}{pins:List (Addr×Obj)}{σ:List (Option V)}{H H':Hp}{s:qI8}{h':Heap}
theorem Cx.Ok.nofr(ok:X.Ok){b:Addr}{o:Obj}(e:X.base.get? b=some o):b∉X.fs:=fun hb=>by
 have:=(ok.funs.mem hb).1
 rw[e]at this;cases this
theorem Inv.bs(I:Inv X pins σ H s):∀b o,X.base.get? b=some o->s.heap.get? b=some o/\H b=none:=fun b o e=>
 ⟨I.base.keep b o (I.ok.bs b o e).1 (I.ok.bs b o e).2 (I.ok.nofr e) (I.ok.noex b o e),I.base.free b o (I.ok.bs b o e).1 (I.ok.bs b o e).2 (I.ok.noex b o e)⟩
theorem Inv.bk(I:Inv X pins σ H s):∀b o,X.base.get? b=some o->s.heap.get? b=some o:=fun b o e=>(I.bs b o e).1
theorem Inv.mod(I:Inv X pins σ H s):Mod X.K X.mg X.base:=I.ok.mod
theorem Inv.kIn(I:Inv X pins σ H s):X.K.In s.heap:=I.ok.mod.kin.keeps I.bk
theorem Inv.fr(I:Inv X pins σ H s):∃m,Fr X.base X.env.locals s.heap m:=
 let⟨m,hn,_⟩:=I.loc
 ⟨m,hn,I.bk,qAl I.ok.bsz I.ok.above⟩
theorem Inv.lt(I:Inv X pins σ H s):X.env.locals<s.heap.objs.size:=let⟨_,hn,_⟩:=I.loc;hn.lt
theorem Inv.sz(I:Inv X pins σ H s):X.s₀.heap.objs.size<=s.heap.objs.size:=qAl I.ok.above (qCd I.lt)
theorem Inv.nofs(I:Inv X pins σ H s){a:Addr}(h:s.heap.objs.size<=a):a∉X.fs:=fun hb=>by
 obtain⟨_,o,ho,_⟩:=I.ok.funs.mem hb;exact absurd (qAf (qI9 ho) (qAl I.sz h)) (qBv _)
theorem Inv.cne(I:Inv X pins σ H s):∀x c,X.env.cells.lookup x=some c->c≠X.env.locals:=fun x c e z=>by
 obtain⟨v,o,ho,hd⟩:=I.cell x c e;obtain⟨m,⟨o',es,ep,ho',hd',_⟩,_⟩:=I.loc;rw[z,ho']at ho;cases ho;rw[hd']at hd;cases hd
theorem Inv.funs(I:Inv X pins σ H s):s.heap.FunFrames X.base X.outer:=by
 have all:∀(l:List Env),(∀b∈frs l,b∈X.fs)->X.s₀.heap.FunFrames X.base l->s.heap.FunFrames X.base l:=by
  intro l
  induction l with
  |nil=>intro _ _;trivial
  |cons env r ih=>
   intro hs hl;obtain⟨hk,⟨L,o,hf,hn,ho,hd⟩,hr⟩:=hl;have hL:L∈X.fs:=hs L (by unfold frs;rw[qDw,hf];exact qAw);obtain⟨sl,e⟩:=I.base.slot L o ho (I.ok.frf L hL) hL fun z=>I.ok.exfs L z hL
   exact⟨hk,⟨L,_,hf,hn,e,hd⟩,ih (fun b hb=>hs b (by unfold frs;rw[qDw,hf];exact qAs _ hb)) hr⟩
 exact all X.outer (fun _ hb=>hb) I.ok.funs
theorem Inv.stack(I:Inv X pins σ H s):s.heap.FunFrames X.base X.stack:=by
 rcases I.ok.stk with e|⟨e,hf⟩
 ·rw[e];exact I.funs
 ·rw[e];obtain⟨m,hn,_⟩:=I.loc;refine .cons (by rw[I.ok.kind];decide) hf hn ?_ I.funs;exact qJf (qAl I.ok.bsz I.ok.above)
theorem Inv.stkSub(I:Inv X pins σ H s):∀b∈frs X.stack,b∈X.env.locals::X.fs:=fun b hb=>by
 rcases I.ok.stk with e|⟨e,hf⟩
 ·rw[e]at hb;exact qAs _ hb
 ·rw[e]at hb;unfold frs at hb;rw[qDw,hf]at hb;exact hb
theorem Inv.stkFree(I:Inv X pins σ H s):∀b∈frs X.stack,H b=none:=fun b hb=>by
 rcases qAb.mp (I.stkSub b hb)with e|hb
 ·rw[e];exact I.free
 ·obtain⟨_,o,ho,_⟩:=I.ok.funs.mem hb;exact I.base.free b o ho (I.ok.frf b hb) fun z=>I.ok.exfs b z hb
theorem Inv.step{g':Array qJy}{t':Nat}{d':Drawn}{ch:List Addr}(I:Inv X pins σ H s)
  (hch:∀b∈ch,(b∈X.ex\/X.s₀.heap.objs.size<=b)/\b≠X.env.locals/\(∀x c,X.env.cells.lookup x=some c->c≠b)/\∀p∈X.pn++pins,p.1≠b)
  (keep:∀b o,b≠X.env.locals->b∉X.fs->b∉ch->s.heap.get? b=some o->H b=none->h'.get? b=some o)
  (slot:∀b o,b≠X.env.locals->b∈X.fs->b∉ch->s.heap.get? b=some o->H b=none->∃sl,h'.get? b=some { o with slots:=sl }) (free:∀b o,b∉ch->s.heap.get? b=some o->H b=none->H' b=none)
  (there:∀b o,b∉ch->s.heap.get? b=some o->∃o',h'.get? b=some o')
  (tups:∀b xs,H b=some (.tup xs)->H' b=some (.tup xs)) (frzs:∀b o u,H b=some (.frz o u)->H' b=some (.frz o u)) (tbls:∀b ps,H b=some (.tbl ps)->∃more,H' b=some (.tbl (ps++more)))
  (ns:∀m,s.heap.Ns X.env.locals m->h'.Ns X.env.locals m) (hok:HOk X.prog X.w H' h') (hg:qKm g') :
  Inv X pins σ H' { s with heap:=h',gens:=g',drawn:=d',toks:=t' }:=by
 have neL:∀b o,X.s₀.heap.get? b=some o->b≠X.env.locals:=fun b o e=>qAj (qAf (qI9 e) I.ok.above)
 have neC:∀b o,X.s₀.heap.get? b=some o->b∉X.ex->b∉ch:=fun b o e hx hb=>by
  rcases(hch b hb).1 with z|z
  ·exact hx z
  ·exact absurd (qAf (qI9 e) z) (qBv _)
 have cellK:∀x c,X.env.cells.lookup x=some c->∀v,s.heap.IsCell c v->h'.IsCell c v:=fun x c e v ⟨o,ho,hd⟩=>by
  have nch:c∉ch:=fun z=>(hch c z).2.2.1 x c e rfl
  by_cases hc:c∈X.fs
  ·obtain⟨sl,q⟩:=slot c o (I.cne x c e) hc nch ho (I.freeC x c e);exact⟨_,q,hd⟩
  ·exact⟨o,keep c o (I.cne x c e) hc nch ho (I.freeC x c e),hd⟩
 refine⟨I.ok,I.os,hg,⟨fun b o e n hb hx=>?_,fun b o e n hb hx=>?_,fun b o e n hx=>?_,fun b o e hx=>?_,fun b xs e=>tups b xs (I.base.tups b xs e),fun b o xs e=>frzs b o xs (I.base.frzs b o xs e),fun b ps e=>?_⟩,?_,fun x c e=>?_,?_,fun x c e=>?_,fun p hp=>?_,hok,I.len⟩
 ·exact keep b o (neL b o e) hb (neC b o e hx) (I.base.keep b o e n hb hx) (I.base.free b o e n hx)
 ·obtain⟨sl,e1⟩:=I.base.slot b o e n hb hx;obtain⟨sl',e2⟩:=slot b _ (neL b o e) hb (neC b o e hx) e1 (I.base.free b o e n hx);exact⟨sl',e2⟩
 ·obtain⟨o',e1⟩:=I.base.there b o e hx;exact free b o' (neC b o e hx) e1 (I.base.free b o e n hx)
 ·obtain⟨o',e1⟩:=I.base.there b o e hx;exact there b o' (neC b o e hx) e1
 ·obtain⟨m1,e1⟩:=I.base.tbls b ps e;obtain⟨m2,e2⟩:=tbls b _ e1;exact⟨m1++m2,by rw[e2,Array.append_assoc]⟩
 ·obtain⟨m,hn,hl⟩:=I.loc;refine⟨m,ns m hn,fun i x v e1 e2 e3=>?_⟩;obtain⟨u,r,l⟩:=hl i x v e1 e2 e3;refine⟨u,r,?_⟩
  rcases l with l|⟨k,c,e,z⟩
  ·exact .inl l
  ·exact .inr ⟨k,c,e,cellK x c e _ z⟩
 ·obtain⟨v,z⟩:=I.cell x c e;exact⟨v,cellK x c e v z⟩
 ·obtain⟨m,⟨o,_,_,ho,_⟩,_⟩:=I.loc;exact free _ o (fun z=>(hch _ z).2.1 rfl) ho I.free
 ·obtain⟨v,o,ho,hd⟩:=I.cell x c e;exact free c o (fun z=>(hch c z).2.2.1 x c e rfl) ho (I.freeC x c e)
 ·obtain⟨e,n,ne,nf,d⟩:=I.pin p hp;have nch:p.1∉ch:=fun z=>(hch p.1 z).2.2.2 p hp rfl
  exact⟨keep p.1 p.2 ne nf nch e n,free p.1 p.2 nch e n,ne,nf,d⟩
theorem Inv.un{t':Nat}(I:Inv X pins σ H s)(u:Un X.fs [] H H' s.heap h')(hok:HOk X.prog X.w H' h'):Inv X pins σ H' { s with heap:=h',toks:=t' }:=by
 obtain⟨m,⟨o,es,ep,ho,r⟩,_⟩:=id I.loc;obtain⟨sl,hL⟩:=u.any ho I.free (by simp);exact I.step (g':=s.gens) (d':=s.drawn) (ch:=[]) (fun _ z=>nomatch z) (fun b o _ hb _ e n=>u.keep b o e n hb (by simp)) (fun b o _ hb _ e n=>u.slot b o e n hb (by simp)) (fun b o _ e n=>u.free b o e n (by simp)) (fun b o _ e=>u.there b o e (by simp)) u.tups u.frzs u.tbls (fun m' hm=>by
  obtain⟨o',es',ep',ho',r'⟩:=hm;rw[ho]at ho';cases ho';exact⟨_,es',ep',hL,r'⟩) hok I.bare
theorem Inv.call{g':Array qJy}{t':Nat}{d':Drawn}{ch:List Addr}(I:Inv X pins σ H s)(u:Un (frs X.stack) ch H H' s.heap h')(hok:HOk X.prog X.w H' h')(hg:qKm g')
  (hch:∀b∈ch,(b∈X.ex\/X.s₀.heap.objs.size<=b)/\b≠X.env.locals/\(∀x c,X.env.cells.lookup x=some c->c≠b)/\∀p∈X.pn++pins,p.1≠b) :
  Inv X pins σ H' { s with heap:=h',gens:=g',drawn:=d',toks:=t' }:=by
 obtain⟨m,⟨o,es,ep,ho,r⟩,_⟩:=id I.loc;obtain⟨sl,hL⟩:=u.any ho I.free fun z=>(hch _ z).2.1 rfl
 exact I.step (ch:=ch) hch (fun b o hL hb hc e n=>u.keep b o e n (fun z=>(qAb.mp (I.stkSub b z)).elim hL hb) hc) (fun b o _ _ hc e n=>u.any e n hc) (fun b o hc e n=>u.free b o e n hc) (fun b o hc e=>u.there b o e hc) u.tups u.frzs u.tbls (fun m' hm=>by
  obtain⟨o',es',ep',ho',r'⟩:=hm;rw[ho]at ho';cases ho';exact⟨_,es',ep',hL,r'⟩) hok hg
theorem Inv.turned{t':Nat}{it:Addr}(I:Inv X pins σ H s)(k:∀b o,b≠it->s.heap.get? b=some o->h'.get? b=some o)(hn:H it=none)(hL:it≠X.env.locals)
  (h1:it∈X.ex\/X.s₀.heap.objs.size<=it) (h2:∀x c,X.env.cells.lookup x=some c->c≠it) (h3:∀p∈X.pn++pins,p.1≠it):Inv X pins σ H { s with heap:=h',toks:=t' }:=by
 have nit:∀b u,H b=some u->b≠it:=fun b u e z=>by rw[z,hn]at e;cases e
 refine I.step (g':=s.gens) (d':=s.drawn) (ch:=[it]) (fun b hb=>?_) (fun b o _ _ hc e _=>k b o (fun z=>hc (by simp[z])) e) (fun b o _ _ hc e _=>⟨o.slots,k b o (fun z=>hc (by simp[z])) e⟩) (fun _ _ _ _ n=>n)
  (fun b o hc e=>⟨o,k b o (fun z=>hc (by simp[z])) e⟩) (fun _ _ e=>e) (fun _ _ _ e=>e) (fun b ps e=>⟨#[],by rw[e];simp⟩) (fun m hm=>?_) (fun b u e=>?_) I.bare
 ·have e:b=it:=by simpa using hb
  subst e;exact⟨h1,hL,h2,h3⟩
 ·obtain⟨o,es,ep,ho,r⟩:=hm;exact⟨o,es,ep,k _ o (qCe hL) ho,r⟩
 ·refine(I.hok b u e).stay (fun c v hc q=>k c v ?_ q) (fun _ q=>q) (fun _ _ q=>q) fun _ _ _ q _=>q
  rcases hc with z|z
  ·rw[z];exact nit b u e
  ·exact nit c _ z
theorem Inv.tok(I:Inv X pins σ H s)(t:Nat):Inv X pins σ H { s with toks:=t }:=I.un (h':=s.heap) (t':=t) Un.refl I.hok
theorem Inv.kept{t':Nat}(I:Inv X pins σ H s)(k:∀b u,s.heap.get? b=some u->h'.get? b=some u):Inv X pins σ H { s with heap:=h',toks:=t' }:=I.un (Un.kept k) (I.hok.kept k)
theorem Inv.laid{a:Addr}{o:HO}{t':Nat}(I:Inv X pins σ H s)(k:∀b u,s.heap.get? b=some u->h'.get? b=some u)(hp:s.heap.objs.size<=a)(new:ObjOk X.prog X.w (upd H a o) h' a o) :
  Inv X pins σ (upd H a o) { s with heap:=h',toks:=t' }:=I.un (Un.laid k hp (I.hok.fresh hp)) (I.hok.laid k hp new)
theorem Inv.write{x e:Addr}{o:HO}{t':Nat}(I:Inv X pins σ H s)(mu:Mut (H x))(he:e=x\/H e=some (.own x))(k:∀b u,b≠e->s.heap.get? b=some u->h'.get? b=some u)(heo:∃u,h'.get? e=some u)
  (new:ObjOk X.prog X.w (upd H x o) h' x o):Inv X pins σ (upd H x o) { s with heap:=h',toks:=t' }:=I.un (Un.write mu he k heo) (I.hok.write mu he k heo new)
theorem Inv.weak{σ':List (Option V)}(I:Inv X pins σ H s)(hl:σ'.length=σ.length)(w:∀(i:Nat) v,σ'[i]?=some (some v)->σ[i]?=some (some v)):Inv X pins σ' H s:=
 ⟨I.ok,I.os,I.bare,I.base,let⟨m,hn,hl'⟩:=I.loc;⟨m,hn,fun i x v e1 e2 e3=>hl' i x v e1 (w i v e2) e3⟩,I.cell,I.free,I.freeC,I.pin,I.hok,hl.trans I.len⟩
theorem Inv.pins_of{pins':List (Addr×Obj)}(I:Inv X pins σ H s)(h:∀p∈pins',s.heap.get? p.1=some p.2/\H p.1=none/\p.1≠X.env.locals/\p.1∉X.fs/\∀v,p.2.data≠.cell v):Inv X pins' σ H s:=
 ⟨I.ok,I.os,I.bare,I.base,I.loc,I.cell,I.free,I.freeC,fun p hp=>(qAq.mp hp).elim (fun z=>I.pin p (qBb _ z)) (h p),I.hok,I.len⟩
theorem zM1{N:List Str}(hN:N.Nodup){i j:Nat}{x:Str}(a:N[i]?=some x)(b:N[j]?=some x):i=j:=by
 obtain⟨h1,e1⟩:=qA3.mp a;obtain⟨h2,e2⟩:=qA3.mp b;exact(qGc hN).mp (e1.trans e2.symm)
theorem zIE{M:Model}{A:qIc}{E:Value->qI8->Prop}{i:Nat}{x:Str}{v:V}{u:Value}{Q:Unit->qI8->Prop}(I:Inv X pins σ H s)(hN:X.N.Nodup)(hi:X.N[i]?=some x)(hx:Loc X.env.scope x)(r:RelV v u)
  (h:∀s',Inv X pins (σ.set i (some v)) H s'->(∃a,qJn a s.heap s'.heap/\(a=X.env.locals\/X.env.cells.lookup x=some a))->Q () s') (hf:X.fn x=true\/X.env.scope.names.lookup x=some .local:=by first|exact .inl rfl|exact .inr rfl|assumption):wpAny M A (storeName X.env x u) Q E s:=by
 obtain⟨m,hn,hl⟩:=id I.loc;have hcls:(X.env.scope.kind==.class||(X.env.scope.kind==.module&&X.env.locals != X.env.globals))=false:=by rw[I.ok.kind];rfl
 have hiσ:i<σ.length:=by rw[I.len];exact(qA3.mp hi).1
 have cne:=I.cne;have tracked:∀{a:Addr}{h':Heap},(∃o,s.heap.get? a=some o/\H a=none)->qJn a s.heap h'->HOk X.prog X.w H h':=fun{a h'} ha hs b ob e=>by
  obtain⟨_,_,hfree⟩:=ha;refine(I.hok b ob e).stay (fun c w' hc q=>(hs.2 c ?_).trans q) (fun _ q=>q) (fun _ _ q=>q) fun _ _ _ q _=>q
  rintro rfl
  rcases hc with rfl|hc
  ·rw[hfree]at e;cases e
  ·rw[hfree]at hc;cases hc
 rcases hx with hk|hk
 ·refine wpAny_storeName_local hk hn (fun h' hn' hs=>?_) hcls;obtain⟨oL,_,_,hoL,_⟩:=id hn;refine h _ ⟨I.ok,I.os,I.bare,⟨fun b o e n hb hx=>?_,fun b o e n hb hx=>?_,I.base.free,fun b o e hx=>?_,I.base.tups,I.base.frzs,I.base.tbls⟩,⟨_,hn',fun j y v' e1 e2 e3=>?_⟩,fun y c e=>?_,I.free,I.freeC,fun p hp=>?_,tracked ⟨oL,hoL,I.free⟩ hs,by simpa using I.len⟩ ⟨_,hs,.inl rfl⟩
  ·exact(hs.2 b (qAj (qAf (qI9 e) I.ok.above))).trans (I.base.keep b o e n hb hx)
  ·obtain⟨sl,e1⟩:=I.base.slot b o e n hb hx;exact⟨sl,(hs.2 b (qAj (qAf (qI9 e) I.ok.above))).trans e1⟩
  ·obtain⟨o',e1⟩:=I.base.there b o e hx;exact⟨o',(hs.2 b (qAj (qAf (qI9 e) I.ok.above))).trans e1⟩
  ·by_cases hj:j=i
   ·subst hj;rw[hi]at e1;cases e1;rw[qAm hiσ]at e2;cases e2;exact⟨u,r,.inl ⟨hk,by simp⟩⟩
   ·rw[qAt (qCe hj)]at e2;obtain⟨u',r',q⟩:=hl j y v' e1 e2 e3;refine⟨u',r',?_⟩
    rcases q with⟨k,e⟩|⟨k,c,e,z⟩
    ·refine .inl ⟨k,?_⟩
     have:y≠x:=fun e=>hj (zM1 hN e1 (e▸hi))
     simp[this,e]
    ·exact .inr ⟨k,c,e,z.sameBut hs (cne y c e)⟩
  ·obtain⟨w',z⟩:=I.cell y c e;exact⟨w',z.sameBut hs (cne y c e)⟩
  ·obtain⟨e,n,ne,nf,d⟩:=I.pin p hp;exact⟨(hs.2 p.1 ne).trans e,n,ne,nf,d⟩
 ·have hfn:X.fn x=true:=by
   rcases hf with z|z
   ·exact z
   ·rw[z]at hk;cases hk
  obtain⟨c,hc⟩:=I.ok.has x (.inl hk);obtain⟨w',z⟩:=I.cell x c hc;refine wpAny_storeName_cell I.ok.kind hk hc z (fun h' hc' hs=>?_);obtain⟨oc,hoc,hocd⟩:=id z;refine h { s with heap:=h' } ⟨I.ok,I.os,I.bare,⟨fun b o e n hb hx=>?_,fun b o e n hb hx=>?_,I.base.free,fun b o e hx=>?_,I.base.tups,I.base.frzs,I.base.tbls⟩,⟨m,hn.sameBut hs (qCe (cne x c hc)),fun j y v' e1 e2 e3=>?_⟩,fun y c' e=>?_,I.free,I.freeC,fun p hp=>?_,tracked ⟨oc,hoc,I.freeC x c hc⟩ hs,by simpa using I.len⟩ ⟨c,hs,.inr hc⟩
  ·exact(hs.2 b (qAj (qAf (qI9 e) (I.ok.cab x c hfn hc)))).trans (I.base.keep b o e n hb hx)
  ·obtain⟨sl,e1⟩:=I.base.slot b o e n hb hx;exact⟨sl,(hs.2 b (qAj (qAf (qI9 e) (I.ok.cab x c hfn hc)))).trans e1⟩
  ·obtain⟨o',e1⟩:=I.base.there b o e hx;exact⟨o',(hs.2 b (qAj (qAf (qI9 e) (I.ok.cab x c hfn hc)))).trans e1⟩
  ·by_cases hj:j=i
   ·subst hj;rw[hi]at e1;cases e1;rw[qAm hiσ]at e2;cases e2;exact⟨u,r,.inr ⟨.inl hk,c,hc,hc'⟩⟩
   ·rw[qAt (qCe hj)]at e2;obtain⟨u',r',q⟩:=hl j y v' e1 e2 e3;refine⟨u',r',?_⟩
    rcases q with q|⟨k,c',e,z'⟩
    ·exact .inl q
    ·refine .inr ⟨k,c',e,z'.sameBut hs ?_⟩
     rintro rfl
     exact hj (zM1 hN e1 (I.ok.inj _ _ _ e hc▸hi))
  ·by_cases hcc:c'=c
   ·subst hcc;exact⟨_,hc'⟩
   ·obtain⟨w2,z2⟩:=I.cell y c' e;exact⟨w2,z2.sameBut hs hcc⟩
  ·obtain⟨e,n,ne,nf,d⟩:=I.pin p hp;refine⟨(hs.2 p.1 ?_).trans e,n,ne,nf,d⟩;intro q;rw[q,hoc]at e;have q':oc=p.2:=qB8 e;exact d w' (by rw[<- q'];exact hocd)
theorem zLG{M:Model}{A:qIc}{E:Value->qI8->Prop}{i:Nat}{x:Str}{v:V}{u:Value}{Q:Unit->qI8->Prop}(I:Inv X pins σ H s)(hN:X.N.Nodup)(hi:X.N[i]?=some x)(hx:Loc X.env.scope x)(r:RelV v u)
  (h:∀s',Inv X pins (σ.set i (some v)) H s'->Q () s') (hf:X.fn x=true\/X.env.scope.names.lookup x=some .local:=by first|exact .inl rfl|exact .inr rfl|assumption):wpAny M A (storeName X.env x u) Q E s:=
 zIE I hN hi hx r (fun s' I' _=>h s' I') hf
theorem Inv.call'{s':qI8}{ch:List Addr}(I:Inv X pins σ H s)(ho:s'.os=s.os)(u:Un (frs X.stack) ch H H' s.heap s'.heap)(hok:HOk X.prog X.w H' s'.heap)(hg:qKm s'.gens)
  (hch:∀b∈ch,(b∈X.ex\/X.s₀.heap.objs.size<=b)/\b≠X.env.locals/\(∀x c,X.env.cells.lookup x=some c->c≠b)/\∀p∈X.pn++pins,p.1≠b):Inv X pins σ H' s':=by
 obtain⟨h',g',d',t',o'⟩:=s';have e:o'=s.os:=ho;subst e;exact I.call (g':=g') (t':=t') (d':=d') u hok hg hch
end
abbrev XK:=Value->Option Addr->Hp->Prop
abbrev St:=List (Option V)
abbrev VK:=V->Hp->Prop
abbrev TE:=St->Hp->VK->Prop
abbrev TT:=St->Hp->(Bool->Hp->Prop)->Prop
abbrev TA:=St->Hp->(List V->Hp->Prop)->Prop
structure Ends where
 nx:St->Hp->Prop
 rt:VK
 bk:St->Hp->Prop:=fun _ _=>False
 ct:St->Hp->Prop:=fun _ _=>False
abbrev TS:=Ends->St->Hp->Prop
def EP(X:Cx)(pins:List (Addr×Obj))(σ:St)(Q:VK)(u:Value)(s':qI8):Prop:=∃v H',Inv X pins σ H' s'/\RelV v u/\Q v H'
def TP(X:Cx)(pins:List (Addr×Obj))(σ:St)(Q:Bool->Hp->Prop)(b:Bool)(s':qI8):Prop:=∃H',Inv X pins σ H' s'/\Q b H'
def AP(X:Cx)(pins:List (Addr×Obj))(σ:St)(Q:List V->Hp->Prop)(us:List Value)(s':qI8):Prop:=∃vs H',Inv X pins σ H' s'/\Vals vs us/\Q vs H'
def SP(X:Cx)(pins:List (Addr×Obj))(D:Ends)(f:Flow)(s':qI8):Prop:=
 match f with
 |.next=>∃σ' H',Inv X pins σ' H' s'/\D.nx σ' H'
 |.brk=>∃σ' H',Inv X pins σ' H' s'/\D.bk σ' H'
 |.cont=>∃σ' H',Inv X pins σ' H' s'/\D.ct σ' H'
 |.ret u=>∃v σ' H',Inv X pins σ' H' s'/\RelV v u/\D.rt v H'
def PE(X:Cx)(e:Expr)(t:TE):Prop:=
 ∀(pins:List (Addr×Obj))(s:qI8)(σ:St)(H:Hp)(Q:VK),Inv X pins σ H s->t σ H Q->wpAny (model X.prog X.w) X.A (eval e X.env) (EP X pins σ Q) X.xe s
def PT(X:Cx)(e:Expr)(t:TT):Prop:=
 ∀(pins:List (Addr×Obj))(s:qI8)(σ:St)(H:Hp)(Q:Bool->Hp->Prop),Inv X pins σ H s->t σ H Q->wpAny (model X.prog X.w) X.A (isTrue e X.env (eval e X.env)) (TP X pins σ Q) X.xe s
def PW(X:Cx)(e:Expr)(t:TT):Prop:=
 ∀(whole:Sem Value)(pins:List (Addr×Obj))(s:qI8)(σ:St)(H:Hp)(Q:Bool->Hp->Prop),Inv X pins σ H s->t σ H Q->wpAny (model X.prog X.w) X.A (isTrue e X.env whole) (TP X pins σ Q) X.xe s
theorem PW.pt{X:Cx}{e:Expr}{t:TT}(h:PW X e t):PT X e t:=h _
def PA(X:Cx)(es:List Expr)(t:TA):Prop:=
 ∀(pos:Pos)(pins:List (Addr×Obj))(s:qI8)(σ:St)(H:Hp)(Q:List V->Hp->Prop),Inv X pins σ H s->t σ H Q->wpAny (model X.prog X.w) X.A (spliced (backTo pos (starEach es X.env))) (AP X pins σ Q) X.xe s
def PS(X:Cx)(st:Stmt)(t:TS):Prop:=
 ∀(pins:List (Addr×Obj))(s:qI8)(σ:St)(H:Hp)(D:Ends),Inv X pins σ H s->t D σ H->wpAny (model X.prog X.w) X.A (exec st X.env) (SP X pins D) X.xe s
def PSs(X:Cx)(st:List Stmt)(t:TS):Prop:=
 ∀(pins:List (Addr×Obj))(s:qI8)(σ:St)(H:Hp)(D:Ends),Inv X pins σ H s->t D σ H->wpAny (model X.prog X.w) X.A (execs st X.env) (SP X pins D) X.xe s
theorem thn{α:Type}{t:Sem α}{Q Q':α->qI8->Prop}{M:Model}{A:qIc}{E:Value->qI8->Prop}{s:qI8}(h:wpAny M A t Q E s)(hQ:∀a s,Q a s->Q' a s):wpAny M A t Q' E s:=wpAny_mono h hQ fun _ _ x=>x
section
variable{X:Cx}
noncomputable def tVar(i:Nat):TE:=fun σ H Q=>∃v,σ[i]?=some (some v)/\Q v H
noncomputable def tC(v:V):TE:=fun _ H Q=>Q v H
theorem zX5{i:Nat}{x:Str}{pos:Pos}(hN:X.N[i]?=some x)(hv:Vis X.env.scope x)(hd:(x==("__debug__":Str))=false:=by decide)(hcd:(x==("__classdict__":Str))=false:=by decide):PE X (.Name x pos) (tVar i):=by
 intro pins s σ H Q I h;obtain⟨v,e,h⟩:=h;obtain⟨m,hn,hl⟩:=I.loc;obtain⟨u,r,l⟩:=hl i x v hN e hv;have fin:EP X pins σ Q u s:=⟨v,H,I,r,h⟩
 rcases l with⟨hk,hm⟩|⟨hk,c,hc,hcell⟩
 ·exact qMc (wpAny_loadName_local I.ok.kind hk hn hm fin) hd
 ·rcases hk with hk|hk
  ·exact qMc (wpAny_loadName_cell I.ok.kind hk hc hcell fin) hd
  ·exact qMc (wpAny_loadName_free I.ok.kind hk hc hcell fin hcd) hd
theorem zAL{i j pos}:PE X (.Constant (.int i) j pos) (tC (.int i)):=fun _ _ _ H _ I h=>wpAny_Constant_int ⟨.int i,H,I.tok _,⟨_,rfl⟩,h⟩
theorem zKI{b j pos}:PE X (.Constant (.bool b) j pos) (tC (.bl b)):=fun _ _ _ H _ I h=>Constant_bool ⟨.bl b,H,I,rfl,h⟩
theorem zGI{x j pos}:PE X (.Constant (.str x) j pos) (tC (.str x)):=fun _ _ _ H _ I h=>Calls.Constant_str ⟨.str x,H,I.tok _,⟨_,rfl⟩,h⟩
def Gl(X:Cx)(x:Str):Prop:=X.env.kindOf x=some .globalImplicit
theorem zKR{E:Value->qI8->Prop}{pins:List (Addr×Obj)}{s:qI8}{σ:St}{H:Hp}{x:Str}{u:Value}{pos:Pos}{Q:Value->qI8->Prop}(I:Inv X pins σ H s)(hg:Gl X x)(hm:X.mg x=some u)(h:Q u s)
  (hd:(x==("__debug__":Str))=false:=by decide):wpAny (model X.prog X.w) X.A (eval (.Name x pos) X.env) Q E s:=
 qKb I.ok.kind hg (Calls.loadGlobal_global (by rw[I.ok.glob];exact I.mod.glob.keeps I.bk) hm h) hd
theorem zGM{E:Value->qI8->Prop}{pins:List (Addr×Obj)}{s:qI8}{σ:St}{H:Hp}{x:Str}{u:Value}{pos:Pos}{Q:Value->qI8->Prop}(I:Inv X pins σ H s)(hg:Gl X x)(hm:X.mg x=none)(hv:qJm x=some u)(h:Q u s)
  (hn:x≠"__name__":=by decide) (hd:(x==("__debug__":Str))=false:=by decide):wpAny (model X.prog X.w) X.A (eval (.Name x pos) X.env) Q E s:=by
 obtain⟨mb,h1,h2⟩:=I.mod.blt;exact qKb I.ok.kind hg (Calls.loadGlobal_builtin (by rw[I.ok.glob];exact I.mod.glob.keeps I.bk) hm (by rw[I.ok.blt];exact h1.keeps I.bk) ((h2 x hn).trans hv) h) hd
theorem zFK{x:Str}{v:V}{u:Value}{pos:Pos}(hg:Gl X x)(hm:X.mg x=some u)(r:RelV v u)(hd:(x==("__debug__":Str))=false:=by decide):PE X (.Name x pos) (tC v):=
 fun _ _ _ H _ I h=>zKR I hg hm ⟨v,H,I,r,h⟩ hd
theorem zKH{x:Str}{v:V}{u:Value}{pos:Pos}(hg:Gl X x)(hm:X.mg x=none)(hv:qJm x=some u)(r:RelV v u)(hn:x≠"__name__":=by decide)(hd:(x==("__debug__":Str))=false:=by decide):PE X (.Name x pos) (tC v):=
 fun _ _ _ H _ I h=>zGM I hg hm hv ⟨v,H,I,r,h⟩ hn hd
variable{a b:Expr}{ta tb:TE}{pos:Pos}
def PC(X:Cx)(op:CmpOp)(a b:Expr)(t:TE):Prop:=
 ∀(pins:List (Addr×Obj))(s:qI8)(σ:St)(H:Hp)(Q:VK),Inv X pins σ H s->t σ H Q ->
  wpAny (model X.prog X.w) X.A (eval a X.env) (fun v s₁=>wpAny (model X.prog X.w) X.A (eval b X.env) (fun u s₂=>wpAny (model X.prog X.w) X.A (compareOp op v u) (EP X pins σ Q) X.xe s₂) X.xe s₁) X.xe s
theorem zM2(b:Expr){op:CmpOp}(h:op≠.In)(h2:op≠.NotIn):qJ2 op b=false:=by
 have e1:(op==CmpOp.In)=false:=by cases op<;>first|rfl|exact absurd rfl h
 have e2:(op==qMu)=false:=by cases op<;>first|rfl|exact absurd rfl h2
 cases b<;>simp[qJ2,e1,e2]
noncomputable def tB(t:TE):TT:=fun σ H Q=>t σ H fun x H1=>∃c,x=.bl c/\Q c H1
theorem zXA{op:CmpOp}{t:TE}(h:PC X op a b t)(h1:qJ2 op b=false:=by first|exact zM2 _ (by decide) (by decide)|rfl):PE X (.Compare a [op] [b] pos) t:=fun pins s σ H Q I hw=>wpAny_Compare1 (h pins s σ H Q I hw) h1
theorem zSR{op:CmpOp}{t:TE}(h:PC X op a b t)(h1:qJ2 op b=false:=by first|exact zM2 _ (by decide) (by decide)|rfl):PT X (.Compare a [op] [b] pos) (tB t):=by
 intro pins s σ H Q I hw;refine qKs (thn (h pins s σ H _ I hw) fun v s1 h1=>thn h1 fun u s2 h2=>thn h2 fun c s3 z0=>?_) h1;obtain⟨x,H1,I1,r1,q1⟩:=z0;obtain⟨d,rfl,q⟩:=q1;cases r1;exact wpAny_truthy_bool ⟨H1,I1,q⟩
variable{tA tB':TT}{rest:List Expr}
noncomputable def tOr(t u:TT):TT:=fun σ H Q=>t σ H fun c H1=>if c=true then Q true H1 else u σ H1 Q
noncomputable def tNot(t:TT):TT:=fun σ H Q=>t σ H fun c H1=>Q (!c) H1
theorem zOA(ha:PT X a tA):PW X (.BoolOp .Or [a] pos) tA:=by
 intro wh pins s σ H Q I h;refine isTrue_or (thn (ha pins s σ H Q I h) fun c s1 e=>?_);cases c with
 |false=>exact isTrue_or_nil e
 |true=>exact e
theorem zR7(ha:PT X a tA)(hb:PW X (.BoolOp .Or (b::rest) pos) tB'):PW X (.BoolOp .Or (a::b::rest) pos) (tOr tA tB'):=by
 intro wh pins s σ H Q I h;refine isTrue_or (thn (ha pins s σ H _ I h) fun c s1 z0=>?_);obtain⟨H1,I1,q1⟩:=z0;cases c with
 |true=>exact⟨H1,I1,q1⟩
 |false=>exact hb wh pins s1 σ H1 Q I1 q1
theorem zLR(ha:PT X a tA):PT X (.UnaryOp .Not a pos) (tNot tA):=by
 intro pins s σ H Q I h;exact isTrue_not (ha pins s σ H (fun c H1=>Q (!c) H1) I h)
theorem zSS{op}{t:TE}(h:PE X a t):PE X (.BoolOp op [a] pos) t:=fun pins s σ H Q I hw=>BoolOp_one (h pins s σ H Q I hw)
noncomputable def tIf(t:TT)(ta tb:TE):TE:=fun σ H Q=>t σ H fun c H1=>if c=true then ta σ H1 Q else tb σ H1 Q
theorem zRD{c:Expr}(hc:PT X c tA)(ha:PE X a ta)(hb:PE X b tb):PE X (.IfExp c a b pos) (tIf tA ta tb):=by
 intro pins s σ H Q I h;refine wpAny_IfExp (thn (hc pins s σ H _ I h) fun d s1 z0=>?_);obtain⟨H1,I1,q1⟩:=z0;cases d with
 |true=>exact ha pins s1 σ H1 Q I1 q1
 |false=>exact hb pins s1 σ H1 Q I1 q1
end
def SqL(K:qA1)(H:Hp)(a:Addr)(xs:List V):Prop:=
 Rd H a (.lst xs) \/
  ∃(o:Obj)(its:Array Value)(n:Nat),K.lookup a=some o/\o.cls=.type "list"/\o.dict=none/\o.data=.seq its n/\its.size<=sizeLine/\Vals xs its.toList
def SqT(K:qA1)(H:Hp)(a:Addr)(xs:List V):Prop:=
 Rd H a (.tup xs) \/
  ∃(o:Obj)(its:Array Value)(n:Nat),K.lookup a=some o/\o.cls=.type "tuple"/\o.data=.seq its n/\its.size<=sizeLine/\Vals xs its.toList
noncomputable def absV:Value->Option V
 |.none=>some .non
 |.bool b=>some (.bl b)
 |.int i _=>some (.int i)
 |.str x _=>some (.str x)
 |.bytes b _=>some (.byt b)
 |.float b _=>some (.flt b)
 |.ref a=>some (.ref a)
 |.type n=>some (.ty n)
 |_=>none
theorem RelV.abs{x:V}{u:Value}(r:RelV x u):absV u=some x:=by
 cases x with
 |non=>cases r;rfl
 |bl _=>cases r;rfl
 |int _=>obtain⟨t,rfl⟩:=r;rfl
 |str _=>obtain⟨t,rfl⟩:=r;rfl
 |byt _=>obtain⟨t,rfl⟩:=r;rfl
 |flt _=>obtain⟨t,rfl⟩:=r;rfl
 |ref _=>cases r;rfl
 |ty _=>cases r;rfl
theorem RelV.inj{x y:V}{u:Value}(r:RelV x u)(q:RelV y u):x=y:=qB8 (r.abs.symm.trans q.abs)
theorem Vals.inj:∀{xs ys:List V}{us:List Value},Vals xs us->Vals ys us->xs=ys
 |_,_,_,.nil,.nil=>rfl
 |_,_,_,.cons r t,.cons r' t'=>by rw[r.inj r',Vals.inj t t']
section
variable{X:Cx}{pins:List (Addr×Obj)}{σ:St}{H:Hp}{s:qI8}{a:Addr}{xs ys:List V}
theorem SqL.of{K:qA1}(h:H a=some (.lst xs)):SqL K H a xs:=.inl (.inl h)
theorem SqT.of{K:qA1}(h:H a=some (.tup xs)):SqT K H a xs:=.inl (.inl h)
theorem Inv.list(I:Inv X pins σ H s)(h:SqL X.K H a xs):∃its:List Value,Vals xs its/\PlainL s.heap a its.toArray/\xs.length<=sizeLine:=by
 rcases h with h|⟨o,its,n,hk,hc,hd,hs,hz,r⟩
 ·obtain⟨z,its,n,r,e⟩:=h.ok I.hok;exact⟨its,r,⟨_,n,e,rfl,rfl,rfl⟩,z⟩
 ·refine⟨its.toList,r,⟨o,n,I.kIn a o hk,hc,hd,by simpa using hs⟩,?_⟩;have e:=r.length;simp only[qB1]at e;omega
theorem Inv.tuple(I:Inv X pins σ H s)(h:SqT X.K H a xs):∃its:List Value,Vals xs its/\IsTup s.heap a its.toArray/\xs.length<=sizeLine:=by
 rcases h with h|⟨o,its,n,hk,hc,hs,hz,r⟩
 ·obtain⟨z,its,r,p⟩:=h.ok I.hok;exact⟨its,r,p,z⟩
 ·refine⟨its.toList,r,⟨o,I.kIn a o hk,hc,n,by simpa using hs⟩,?_⟩;have e:=r.length;simp only[qB1]at e;omega
theorem Inv.list_inj(I:Inv X pins σ H s)(h:SqL X.K H a xs)(h':SqL X.K H a ys):xs=ys:=by
 obtain⟨its,r,⟨o,n,e,_,_,d⟩,_⟩:=I.list h;obtain⟨its',r',⟨o',n',e',_,_,d'⟩,_⟩:=I.list h';rw[e]at e';cases e';rw[d]at d'
 injection d' with d1 _
 have:its=its':=by simpa using congrArg qG7 d1
 subst this;exact r.inj r'
theorem Inv.tuple_inj(I:Inv X pins σ H s)(h:SqT X.K H a xs)(h':SqT X.K H a ys):xs=ys:=by
 obtain⟨its,r,⟨o,e,_,n,d⟩,_⟩:=I.tuple h;obtain⟨its',r',⟨o',e',_,n',d'⟩,_⟩:=I.tuple h';rw[e]at e';cases e';rw[d]at d'
 injection d' with d1 _
 have:its=its':=by simpa using congrArg qG7 d1
 subst this;exact r.inj r'
end
abbrev Cx.wish(X:Cx)(E:Value->qI8->Prop):Cx:={ X with xe:=E }
abbrev Cx.nox(X:Cx):Cx:=X.wish fun _ _=>False
theorem Cx.Ok.wish{X:Cx}(ok:X.Ok)(E:Value->qI8->Prop):(X.wish E).Ok:=
 ⟨ok.mod,ok.kind,ok.glob,ok.blt,ok.above,ok.inj,ok.has,ok.cab,ok.hd,ok.frames,ok.stk,ok.exf,ok.bs,ok.bsz,ok.noex,ok.exfs,ok.funs,ok.frf⟩
theorem Cx.Ok.unwish{X:Cx}{E:Value->qI8->Prop}(ok:(X.wish E).Ok):X.Ok:=
 ⟨ok.mod,ok.kind,ok.glob,ok.blt,ok.above,ok.inj,ok.has,ok.cab,ok.hd,ok.frames,ok.stk,ok.exf,ok.bs,ok.bsz,ok.noex,ok.exfs,ok.funs,ok.frf⟩
section
variable{X:Cx}{pins:List (Addr×Obj)}{σ:St}{H:Hp}{s:qI8}{E:Value->qI8->Prop}
theorem Inv.wish(I:Inv X pins σ H s)(E:Value->qI8->Prop):Inv (X.wish E) pins σ H s:=⟨I.ok.wish E,I.os,I.bare,I.base,I.loc,I.cell,I.free,I.freeC,I.pin,I.hok,I.len⟩
theorem Inv.unwish(I:Inv (X.wish E) pins σ H s):Inv X pins σ H s:=⟨I.ok.unwish,I.os,I.bare,I.base,I.loc,I.cell,I.free,I.freeC,I.pin,I.hok,I.len⟩
theorem SP.unwish{D:Ends}{f:Flow}{s':qI8}(h:SP (X.wish E) pins D f s'):SP X pins D f s':=by
 cases f with
 |next=>obtain⟨σ',H',I,q⟩:=h;exact⟨σ',H',I.unwish,q⟩
 |brk=>obtain⟨σ',H',I,q⟩:=h;exact⟨σ',H',I.unwish,q⟩
 |cont=>obtain⟨σ',H',I,q⟩:=h;exact⟨σ',H',I.unwish,q⟩
 |ret u=>obtain⟨v,σ',H',I,r,q⟩:=h;exact⟨v,σ',H',I.unwish,r,q⟩
theorem PSs.nox{st:List Stmt}{t:TS}(h:PSs X.nox st t):PSs X st t:=fun pins s σ H D I hw=>
 wpAny_mono (h pins s σ H D (I.wish _) hw) (fun _ _ q=>q.unwish) fun _ _ z=>qA5 z
end
section
variable{X:Cx}{st:Stmt}{rest:List Stmt}{t u:TS}{e:Expr}{te:TE}{pos:Pos}
noncomputable def zW7:TS:=fun D σ H=>D.nx σ H
noncomputable def tSeq(t u:TS):TS:=fun D σ H=>t { D with nx:=u D } σ H
theorem zBU:PSs X [] zW7:=fun _ _ σ H _ I h=>qK7 ⟨σ,H,I,h⟩
theorem zA6(h1:PS X st t)(h2:PSs X rest u):PSs X (st::rest) (tSeq t u):=by
 intro pins s σ H D I h;refine wpAny_execs_cons (thn (h1 pins s σ H { D with nx:=u D } I h) fun f s1 q=>?_);cases f with
 |next=>
  obtain⟨σ',H',I',q⟩:=q;exact h2 pins s1 σ' H' D I' q
 |ret v=>exact q
 |brk=>exact q
 |cont=>exact q
theorem zAF(h1:PS X st t):PSs X [st] t:=by
 intro pins s σ H D I h;refine wpAny_execs_cons (thn (h1 pins s σ H D I h) fun f s1 q=>?_);cases f with
 |next=>exact qK7 q
 |ret v=>exact q
 |brk=>exact q
 |cont=>exact q
theorem Inv.quiet{pins:List (Addr×Obj)}{σ:St}{H:Hp}{s:qI8}(I:Inv X pins σ H s):interactive X.env=false:=by simp[interactive,I.ok.kind]
noncomputable def zF4(te:TE):TS:=fun D σ H=>te σ H fun _ H1=>D.nx σ H1
theorem zFG(he:PE X e te)(hs:qKt e none pos.line X.env=pure false:=by rfl):PS X (.Expr e pos) (zF4 te):=by
 intro pins s σ H D I h;exact wpAny_Expr_any (thn (he pins s σ H _ I h) fun v s1 ⟨x,H1,I1,r1,q1⟩=>⟨σ,H1,I1,q1⟩) I.quiet hs
noncomputable def tRet(te:TE):TS:=fun D σ H=>te σ H D.rt
theorem zB2(he:PE X e te):PS X (.Return (some e) pos) (tRet te):=by
 intro pins s σ H D I h;exact wpAny_Return_some (thn (he pins s σ H _ I h) fun v s1 ⟨x,H1,I1,r1,q1⟩=>⟨x,σ,H1,I1,r1,q1⟩)
noncomputable def tIfS(c:TT)(t u:TS):TS:=fun D σ H=>c σ H fun b H1=>if b=true then t D σ H1 else u D σ H1
theorem zFF{c:Expr}{a b:List Stmt}{tc:TT}(hc:PT X c tc)(ha:PSs X a t)(hb:PSs X b u):PS X (.If c a b pos) (tIfS tc t u):=by
 intro pins s σ H D I h;refine wpAny_If (thn (hc pins s σ H _ I h) fun d s1 z0=>?_);obtain⟨H1,I1,q1⟩:=z0;cases d with
 |true=>exact ha pins s1 σ H1 D I1 q1
 |false=>exact hb pins s1 σ H1 D I1 q1
end
abbrev TG:=V->St->Hp->(St->Hp->Prop)->Prop
abbrev TGs:=List V->St->Hp->(St->Hp->Prop)->Prop
def PG(X:Cx)(target:Expr)(t:TG):Prop:=
 ∀(pins:List (Addr×Obj))(s:qI8)(σ:St)(H:Hp)(v:V)(u:Value)(Q:St->Hp->Prop),Inv X pins σ H s->RelV v u->t v σ H Q ->
  wpAny (model X.prog X.w) X.A (assign target X.env u) (fun _ s'=>∃σ' H',Inv X pins σ' H' s'/\Q σ' H') X.xe s
def PGs(X:Cx)(ts:List Expr)(t:TGs):Prop:=
 ∀(pins:List (Addr×Obj))(s:qI8)(σ:St)(H:Hp)(vs:List V)(us:List Value)(Q:St->Hp->Prop),Inv X pins σ H s->Vals vs us->t vs σ H Q ->
  wpAny (model X.prog X.w) X.A (assignInOrder ((assignEach ts X.env).map (·.2)) us) (fun _ s'=>∃σ' H',Inv X pins σ' H' s'/\Q σ' H') X.xe s
abbrev TSet:=V->V->V->Hp->(Hp->Prop)->Prop
def PSet(X:Cx)(t:TSet):Prop:=
 ∀(pins:List (Addr×Obj))(s:qI8)(σ:St)(H:Hp)(o i v:V)(ov iv u:Value)(Q:Hp->Prop),Inv X pins σ H s->RelV o ov->RelV i iv->RelV v u->t o i v H Q ->
  wpAny (model X.prog X.w) X.A (setItem ov iv u) (fun _ s'=>∃H',Inv X pins σ H' s'/\Q H') X.xe s
section
variable{X:Cx}{pos:Pos}
noncomputable def zGB(i:Nat):TG:=fun v σ H Q=>Q (σ.set i (some v)) H
theorem zBE{i:Nat}{x:Str}(hN:X.N.Nodup)(hi:X.N[i]?=some x)(hx:Loc X.env.scope x)(hf:X.fn x=true\/X.env.scope.names.lookup x=some .local:=by first|exact .inl rfl|exact .inr rfl|assumption):PG X (.Name x pos) (zGB i):=by
 intro pins s σ H v u Q I r h;exact qLk (zLG I hN hi hx r (fun s' I'=>⟨_,H,I',h⟩) hf)
noncomputable def gNil:TGs:=fun vs σ H Q=>vs=[]/\Q σ H
noncomputable def zY4(t:TG)(u:TGs):TGs:=fun vs σ H Q=>∃v r,vs=v::r/\t v σ H fun σ' H'=>u r σ' H' Q
theorem zHC:PGs X [] gNil:=by
 intro pins s σ H vs us Q I r h;obtain⟨e,h⟩:=h;subst e;cases r;exact assignInOrder_nil ⟨σ,H,I,h⟩
theorem zC0{e:Expr}{es:List Expr}{t:TG}{u:TGs}(h1:PG X e t)(h2:PGs X es u)
  (hs:(assignEach (e::es) X.env).map (·.2)=assign e X.env::(assignEach es X.env).map (·.2):=by rfl):PGs X (e::es) (zY4 t u):=by
 intro pins s σ H vs us Q I r h;obtain⟨v,vr,e1,h⟩:=h;subst e1;cases r with
 |cons r rr=>
  rw[hs];refine assignInOrder_cons (thn (h1 pins s σ H _ _ _ I r h) fun _ s1 z0=>?_);obtain⟨σ1,H1,I1,q1⟩:=z0;exact h2 pins s1 σ1 H1 _ _ Q I1 rr q1
noncomputable def gTup(K:qA1)(n:Nat)(t:TGs):TG:=fun v σ H Q=>∃a xs,v=.ref a/\SqT K H a xs/\xs.length=n/\t xs σ H Q
theorem zX4{es:List Expr}{k:Nat}{t:TGs}{n:Nat}(hc:X.calm=true)(h:PGs X es t)
  (hn:(assignEach es X.env).length=n:=by rfl) (hst:(assignEach es X.env).findIdx? (·.1)=none:=by rfl):PG X (.Tuple es k pos) (gTup X.K n t):=by
 intro pins s σ H v u Q I r hw;obtain⟨a,xs,e1,hq,hl,hw⟩:=hw;subst e1;cases r;obtain⟨its,rv,ht,hz⟩:=I.tuple hq;refine assign_Tuple_tuple (I.ok.hd hc) ht (by simp[hn,<- hl,rv.length]) hst fun h' hx=>?_
 have I1:Inv X pins σ H { s with heap:=h' }:=I.kept (t':=s.toks) fun b o e=>hx b o (qAj (qI9 e)) e
 exact h pins _ σ H xs _ Q I1 (by simpa using rv) hw
noncomputable def gSub(to ti:TE)(t:TSet):TG:=fun v σ H Q=>to σ H fun o H1=>ti σ H1 fun i H2=>t o i v H2 fun H3=>Q σ H3
theorem zOI{o i:Expr}{to ti:TE}{t:TSet}(ho:PE X o to)(hi:PE X i ti)(hs:PSet X t)
  (ha:∀v,assign (.Subscript o i pos) X.env v=(do
   let ov <- holding [v] (eval o X.env)
   let iv <- holding [v,ov] (eval i X.env)
   standAt pos
   holding [v,ov,iv] (setItem ov iv v)
   release [v,ov,iv] []):=by intro _;rfl):PG X (.Subscript o i pos) (gSub to ti t):=by
 intro pins s σ H v u Q I r h;rw[ha];refine wpAny_bind (wpAny_holding (thn (ho pins s σ H _ I h) fun ov s1 z0=>?_));obtain⟨x,H1,I1,r1,q1⟩:=z0;refine wpAny_bind (wpAny_holding (thn (hi pins s1 σ H1 _ I1 q1) fun iv s2 z0=>?_));obtain⟨y,H2,I2,r2,q2⟩:=z0;refine wpAny_bind (wpAny_standAt (wpAny_bind (wpAny_holding (thn (hs pins s2 σ H2 x y v ov iv u _ I2 r1 r2 r q2) fun _ s3 z0=>?_))));obtain⟨H3,I3,q3⟩:=z0;exact wpAny_release ⟨σ,H3,I3,q3⟩
noncomputable def tAsg(te:TE)(g:TG):TS:=fun D σ H=>te σ H fun x H1=>g x σ H1 D.nx
theorem zLT{tg e:Expr}{te:TE}{g:TG}(he:PE X e te)(hg:PG X tg g)(hs:swapsWithSole [tg] e pos.line X.env=pure false:=by rfl)(hw:swappedStores [tg] e X.env=pure none:=by rfl)
  (h1:(assignEach [tg] X.env).map (·.2)=[assign tg X.env]:=by rfl):PS X (.Assign [tg] e pos) (tAsg te g):=by
 intro pins s σ H D I h;refine wpAny_Assign_stores (thn (he pins s σ H _ I h) fun v s1 z0=>?_) hs hw;obtain⟨x,H1,I1,r1,q1⟩:=z0;rw[h1];exact thn (hg pins s1 σ H1 x v _ I1 r1 q1) fun _ s2 q=>q
theorem zX1{i:Nat}{x:Str}{e:Expr}{te:TE}{pos':Pos}(hN:X.N.Nodup)(hi:X.N[i]?=some x)(hx:Loc X.env.scope x)(he:PE X e te)(hs:qKt e (some (.Name x pos')) pos.line X.env=pure false:=by rfl)(hf:X.fn x=true\/X.env.scope.names.lookup x=some .local:=by first|exact .inl rfl|exact .inr rfl|assumption) :
  PS X (.Assign [.Name x pos'] e pos) (tAsg te (zGB i)):=by
 intro pins s σ H D I h;refine wpAny_Assign_Name (thn (he pins s σ H _ I h) fun v s1 z0=>?_) hs;obtain⟨y,H1,I1,r1,q1⟩:=z0;exact zLG I1 hN hi hx r1 (fun s2 I2=>⟨_,H1,I2,q1⟩) hf
noncomputable def zNX(c:TT)(tb:TS):TS:=fun D σ H=>∃W:Nat->St->Hp->Prop,(∃m,W m σ H)/\∀m σ H,W m σ H ->
 c σ H fun b H1=>if b=true then ∃N:St->Hp->Prop,(∀σ' H',N σ' H'->∃m',m'<m/\W m' σ' H')/\tb { D with nx:=N,ct:=N,bk:=D.nx } σ H1 else D.nx σ H1
theorem zLS{c:Expr}{body:List Stmt}{tc:TT}{tb:TS}(hp:qM2 (model X.prog X.w) X.A X.env X.xe)(hc:PT X c tc)(hb:PSs X body tb):PS X (.While c body [] pos) (zNX tc tb):=by
 intro pins s σ H D I h;obtain⟨W,⟨m0,w0⟩,turn⟩:=h;refine wpAny_While (codeAny_whileLoop (fun n s'=>∃σ' H',Inv X pins σ' H' s'/\W n σ' H') ?_ m0 ⟨σ,H,I,w0⟩)
 rintro n s1 ⟨σ1,H1,I1,w1⟩
 refine qJ0 hp (thn (hc pins s1 σ1 H1 _ I1 (turn n σ1 H1 w1)) fun b s2 z0=>?_);obtain⟨H2,I2,q2⟩:=z0;cases b with
 |true=>
  obtain⟨N,hN,q2⟩:=q2;rw[if_pos rfl];refine qJ0 hp (thn (hb pins s2 σ1 H2 _ I2 q2) fun f s3 q3=>?_);cases f with
  |next=>
   obtain⟨σ3,H3,I3,n3⟩:=q3;obtain⟨m',hm,w3⟩:=hN σ3 H3 n3;exact⟨m',hm,σ3,H3,I3,w3⟩
  |cont=>
   obtain⟨σ3,H3,I3,n3⟩:=q3;obtain⟨m',hm,w3⟩:=hN σ3 H3 n3;exact⟨m',hm,σ3,H3,I3,w3⟩
  |brk=>exact q3
  |ret v=>exact q3
 |false=>
  rw[if_neg qAc];exact qK7 ⟨σ1,H2,I2,q2⟩
end
structure It where
 go:Nat->Hp->Prop
 yld:Nat->Hp->V->Hp->Prop
 stop:Nat->Hp->Prop
def FpOk(X:Cx)(pins:List (Addr×Obj))(H:Hp)(b:Addr):Prop:=
 H b=none/\b≠X.env.locals/\b∉X.fs/\(b∈X.ex\/X.s₀.heap.objs.size<=b)/\(∀x c,X.env.cells.lookup x=some c->c≠b)/\∀p∈X.pn++pins,p.1≠b
theorem Inv.fpOk{X:Cx}{pins:List (Addr×Obj)}{σ:St}{H H':Hp}{s:qI8}{b:Addr}(I:Inv X pins σ H s)(hb:s.heap.objs.size<=b)(hn:H' b=none):FpOk X pins H' b:=by
 refine⟨hn,qBm (qAf I.lt hb),I.nofs hb,.inr (qAl I.sz hb),fun x c e z=>?_,fun p hp z=>?_⟩
 ·obtain⟨v,q⟩:=I.cell x c e;exact absurd (qAf q.lt (by rw[z];exact hb)) (qBv _)
 ·exact absurd (qAf (qI9 (I.pin p hp).1) (by rw[z];exact hb)) (qBv _)
structure Turn(P:qIb)(w:World)(K:qA1)(tg:Expr)(J:It)(fp:List Addr)(it:Addr)(tn:Nat->Heap->Prop):Prop where
 mem:it∈fp
 obj:∀i h,tn i h->∀b∈fp,∃o,h.get? b=some o/\∀v,o.data≠.cell v
 keep:∀i h h',tn i h->(∀b∈fp,∀o,h.get? b=some o->h'.get? b=some o)->tn i h'
 item:∀(X:Cx),X.prog=P->X.w=w->X.K=K->X.calm=true->∀(i:Nat)(pins:List (Addr×Obj))(s:qI8)(σ:St)(H:Hp)(E:Value->qI8->Prop),Inv X pins σ H s->(∀b∈fp,FpOk X pins H b)->tn i s.heap->J.go i H ->
  wpAny (model P w) X.A (pyNext (.ref it)) (fun r s1=>∃u,r=some u /\
   wpAny (model P w) X.A (letOwnedTupleGo tg (.ref it) u) (fun _ s2=>∃x H',Inv X pins σ H' s2/\RelV x u/\J.yld i H x H'/\tn (i+1) s2.heap/\∀b∈fp,H' b=none) E s1) E s
 done:∀(X:Cx),X.prog=P->X.w=w->X.K=K->X.calm=true->∀(i:Nat)(pins:List (Addr×Obj))(s:qI8)(σ:St)(H:Hp)(E:Value->qI8->Prop),Inv X pins σ H s->(∀b∈fp,FpOk X pins H b)->tn i s.heap->J.stop i H ->
  wpAny (model P w) X.A (pyNext (.ref it)) (fun r s1=>r=none/\Inv X pins σ H s1) E s
 self:∀(A:qIc)(i:Nat)(s:qI8)(Q:Value->qI8->Prop)(E:Value->qI8->Prop),tn i s.heap->Q (.ref it) s->wpAny (model P w) A (pyIter (.ref it)) Q E s
abbrev TI:=St->Hp->(It->Hp->Prop)->Prop
def PIE(X:Cx)(pins:List (Addr×Obj))(σ:St)(tg:Expr)(R:It->Hp->Prop)(itv:Value)(s2:qI8):Prop:=
 ∃(it:Addr)(fp:List Addr)(tn:Nat->Heap->Prop)(J:It)(H':Hp),itv=.ref it/\Inv X pins σ H' s2/\Turn X.prog X.w X.K tg J fp it tn/\tn 0 s2.heap/\(∀b∈fp,FpOk X pins H' b)/\R J H'
def PI(X:Cx)(tg iter:Expr)(wi:TI):Prop:=
 ∀(pins:List (Addr×Obj))(s:qI8)(σ:St)(H:Hp)(R:It->Hp->Prop),Inv X pins σ H s->wi σ H R ->
  wpAny (model X.prog X.w) X.A (eval iter X.env) (fun v s1=>wpAny (model X.prog X.w) X.A (pyIter v) (PIE X pins σ tg R) X.xe s1) X.xe s
theorem zRX{M:Model}{A:qIc}{E:Value->qI8->Prop}{s:qI8}{tg:Expr}{it:Addr}{u:Value}{o:Obj}{n:String}{vs:Array Value}{Q:Unit->qI8->Prop}(ho:s.heap.get? it=some o)(hc:o.cls=.type n)(hd:o.data=.fields vs)
  (hn:["enumerate","zip","dict_itemiterator","dict_reverseitemiterator","odict_iterator","itertools.zip_longest","itertools.pairwise"].contains n=false) (hQ:Q () s):wpAny M A (letOwnedTupleGo tg (.ref it) u) Q E s:=by
 unfold letOwnedTupleGo;cases tg<;>first
  |exact wpAny_pure hQ
  |(cases u<;>first
    |exact wpAny_pure hQ
    |(refine wpAny_bind (wpAny_load ho ?_)
      rw[hc,hd];show wpAny M A (if(["enumerate","zip","dict_itemiterator","dict_reverseitemiterator","odict_iterator","itertools.zip_longest","itertools.pairwise"].contains n&&vs[0]?==some (rawInt _))=true then _ else _) Q E s;rw[if_neg (by intro h;rw[hn,Bool.false_and]at h;cases h)];exact wpAny_pure hQ))
noncomputable def Itl(K:qA1)(a:Addr):It:=
 ⟨fun i H=>∃xs x,SqL K H a xs/\xs[i]?=some x,fun i H x H'=>H'=H/\∀xs,SqL K H a xs->xs[i]?=some x,fun i H=>∃xs,SqL K H a xs/\xs.length<=i⟩
noncomputable def Itt(K:qA1)(a:Addr):It:=
 ⟨fun i H=>∃xs x,SqT K H a xs/\xs[i]?=some x,fun i H x H'=>H'=H/\∀xs,SqT K H a xs->xs[i]?=some x,fun i H=>∃xs,SqT K H a xs/\xs.length<=i⟩
noncomputable def Itr(lo:Int)(n:Nat):It:=⟨fun i _=>i<n,fun i H x H'=>H'=H/\x=.int (lo+i),fun i _=>n<=i⟩
theorem zNT{P:qIb}{w:World}{K:qA1}{tg:Expr}(a it:Addr):Turn P w K tg (Itl K a) [it] it (fun i h=>h.IsListIter it a i) where
 mem:=by simp
 obj:=fun i h st b hb=>by
  have e:b=it:=by simpa using hb
  subst e;obtain⟨o,e,c,d⟩:=st;exact⟨o,e,fun v z=>by rw[d]at z;cases z⟩
 keep:=fun i h h' st k=>st.at fun o e=>k it (by simp) o e
 item:=by
  intro X hP hw hK hc i pins s σ H E I hf st hg;subst hP hw hK;obtain⟨xs,x,hq,hx⟩:=hg;obtain⟨its,rv,p,hz⟩:=I.list hq;obtain⟨u,hu,ru⟩:=rv.get hx;obtain⟨f0,f1,f2,f3,f4,f5⟩:=hf it (by simp);refine wpAny_pyNext_list_item st p.isList (x:=u) (by simpa using hu) fun h' st' sb=>?_
  have I1:Inv X pins σ H { s with heap:=h' }:=I.turned (t':=s.toks) (fun b o hb e=>(sb.2 b hb).trans e) f0 f1 f3 f4 f5;obtain⟨o,e,c,d⟩:=id st';exact⟨u,rfl,zRX (s:={ s with heap:=h' }) e c d (by decide) ⟨x,H,I1,ru,⟨rfl,fun ys hy=>by rw[I.list_inj hy hq];exact hx⟩,st',fun b hb=>(hf b hb).1⟩⟩
 done:=by
  intro X hP hw hK hc i pins s σ H E I hf st hg;subst hP hw hK;obtain⟨xs,hq,hx⟩:=hg;obtain⟨its,rv,p,hz⟩:=I.list hq;obtain⟨f0,f1,f2,f3,f4,f5⟩:=hf it (by simp);have hl:=rv.length;exact wpAny_pyNext_list_end (I.ok.hd hc) st p.isList (by simp;omega) fun h' eb=>⟨rfl,I.turned (t':=s.toks) (fun b o hb e=>eb b o hb e) f0 f1 f3 f4 f5⟩
 self:=fun _ _ _ _ _ st h=>wpAny_pyIter_listiter st h
theorem zMR{P:qIb}{w:World}{K:qA1}{tg:Expr}(a it:Addr):Turn P w K tg (Itt K a) [it] it (fun i h=>h.IsTupleIter it a i) where
 mem:=by simp
 obj:=fun i h st b hb=>by
  have e:b=it:=by simpa using hb
  subst e;obtain⟨o,e,c,d⟩:=st;exact⟨o,e,fun v z=>by rw[d]at z;cases z⟩
 keep:=fun i h h' st k=>st.at fun o e=>k it (by simp) o e
 item:=by
  intro X hP hw hK hc i pins s σ H E I hf st hg;subst hP hw hK;obtain⟨xs,x,hq,hx⟩:=hg;obtain⟨its,rv,p,hz⟩:=I.tuple hq;obtain⟨u,hu,ru⟩:=rv.get hx;obtain⟨f0,f1,f2,f3,f4,f5⟩:=hf it (by simp);refine wpAny_pyNext_tuple_item st (show s.heap.IsTuple a its.toArray from p) (x:=u) (by simpa using hu) fun h' st' sb=>?_
  have I1:Inv X pins σ H { s with heap:=h' }:=I.turned (t':=s.toks) (fun b o hb e=>(sb.2 b hb).trans e) f0 f1 f3 f4 f5;obtain⟨o,e,c,d⟩:=id st';exact⟨u,rfl,zRX (s:={ s with heap:=h' }) e c d (by decide) ⟨x,H,I1,ru,⟨rfl,fun ys hy=>by rw[I.tuple_inj hy hq];exact hx⟩,st',fun b hb=>(hf b hb).1⟩⟩
 done:=by
  intro X hP hw hK hc i pins s σ H E I hf st hg;subst hP hw hK;obtain⟨xs,hq,hx⟩:=hg;obtain⟨its,rv,p,hz⟩:=I.tuple hq;obtain⟨f0,f1,f2,f3,f4,f5⟩:=hf it (by simp);have hl:=rv.length;exact wpAny_pyNext_tuple_end (I.ok.hd hc) st (show s.heap.IsTuple a its.toArray from p) (by simp;omega) fun h' eb=>⟨rfl,I.turned (t':=s.toks) (fun b o hb e=>eb b o hb e) f0 f1 f3 f4 f5⟩
 self:=fun _ _ _ _ _ st h=>wpAny_pyIter_tupleiter st h
theorem zMS{P:qIb}{w:World}{K:qA1}{tg:Expr}(it:Addr)(lo:Int)(n:Nat):Turn P w K tg (Itr lo n) [it] it (fun i h=>IsRangeIter h it (lo+(i:Nat)*1) ((n:Int)-(i:Nat)) 1) where
 mem:=by simp
 obj:=fun i h st b hb=>by
  have e:b=it:=by simpa using hb
  subst e;exact⟨_,st,fun v z=>by
   have z':Data.fields _=Data.cell v:=z;cases z'⟩
 keep:=fun i h h' st k=>k it (by simp) _ st
 item:=by
  intro X hP hw hK hc i pins s σ H E I hf st hg;subst hP hw hK;obtain⟨f0,f1,f2,f3,f4,f5⟩:=hf it (by simp);have W:=Walks.range (prog:=X.prog) (w:=X.w) (I.ok.hd hc) it lo 1 n;refine W.item i s _ _ hg st fun v h' tk hv st' kk=>?_
  obtain⟨t,rfl⟩:=hv;have I1:Inv X pins σ H { s with heap:=h',toks:=tk }:=I.turned (fun b o hb e=>kk b o (by simpa using hb) e) f0 f1 f3 f4 f5;refine⟨_,rfl,zRX (s:={ s with heap:=h',toks:=tk }) (n:="range_iterator") st' rfl rfl (by decide) ⟨.int (lo+i),H,I1,⟨t,?_⟩,⟨rfl,rfl⟩,st',fun b hb=>(hf b hb).1⟩⟩;rw[qHu]
 done:=by
  intro X hP hw hK hc i pins s σ H E I hf st hg;subst hP hw hK;obtain⟨f0,f1,f2,f3,f4,f5⟩:=hf it (by simp);exact wpAny_pyNext_range_end (I.ok.hd hc) st (by have:n<=i:=hg;omega) fun h' eb=>⟨rfl,I.turned (t':=s.toks) (fun b o hb e=>eb b o hb e) f0 f1 f3 f4 f5⟩
 self:=fun _ _ _ _ _ st h=>wpAny_pyIter_rangeiter st h
section
variable{X:Cx}{tg:Expr}
theorem zR6{pins:List (Addr×Obj)}{σ:St}{H:Hp}{s:qI8}{R:It->Hp->Prop}{E:Value->qI8->Prop}{lo hi:Int}{t u v:Tok}{tk:Nat}(I:Inv X pins σ H s)(h1:-(2 ^ 62)<=lo)(h2:lo<2 ^ 62)(h3:-(2 ^ 62)<=hi)(h4:hi<2 ^ 62)
  (q:R (Itr lo (hi-lo).toNat) H):wpAny (model X.prog X.w) X.A (pyIter (.ref s.heap.objs.size)) (PIE X pins σ tg R) E { s with heap:=s.heap.push { cls:=.type "range",data:=.fields #[.int lo t,.int hi u,.int 1 v] },toks:=tk }:=by
 refine wpAny_pyIter_range (IsRange.new ..) (small_one h1 h2 h3 h4) ?_;have I1:Inv X pins σ H { s with heap:=s.heap.push { cls:=.type "range",data:=.fields #[.int lo t,.int hi u,.int 1 v] },toks:=tk }:=I.kept fun b o e=>qI7 _ e
 refine⟨(s.heap.push { cls:=.type "range",data:=.fields #[.int lo t,.int hi u,.int 1 v] }).objs.size,[(s.heap.push { cls:=.type "range",data:=.fields #[.int lo t,.int hi u,.int 1 v] }).objs.size],_,_,H,rfl,
  I1.kept (t':=tk) fun b o e=>qI7 _ e,zMS _ lo (hi-lo).toNat,?_,fun b hb=>?_,q⟩
 ·have e1:lo+((0:Nat):Int)*1=lo:=by simp
  have e2:(((hi-lo).toNat:Nat):Int)-((0:Nat):Int)=qKn lo hi 1:=by rw[rangeSize_one];split<;>omega
  show IsRangeIter _ _ (lo+((0:Nat):Int)*1) ((((hi-lo).toNat:Nat):Int)-((0:Nat):Int)) 1;rw[e1,e2];exact qIa _ rfl
 ·have e:b=(s.heap.push { cls:=.type "range",data:=.fields #[.int lo t,.int hi u,.int 1 v] }).objs.size:=by simpa using hb
  subst e;exact I1.fpOk (qA8 _) (I1.hok.fresh (qA8 _))
def zY1(ta:TA):TI:=fun σ H R=>ta σ H fun vs H1=>∃j:Int,vs=[.int j]/\-(2 ^ 62)<=j/\j<2 ^ 62/\R (Itr 0 j.toNat) H1
theorem zBV{a:Expr}{ta:TA}{p pos:Pos}(hg:Gl X "range")(hm:X.mg "range" = none)(ha:PA X [a] ta)(hs:starEach [a] X.env=[(false,eval a X.env)]:=by rfl):PI X tg (.Call (.Name "range" p) [a] [] pos) (zY1 ta):=by
 intro pins s σ H R I h;refine Call_ (zGM I hg hm boot_range (qC2 (thn (ha pos pins s σ H _ I h) fun us s1 z0=>?_) hs rfl));obtain⟨vs,H1,I1,r1,q1⟩:=z0;obtain⟨j,e,q1,q2,q⟩:=q1;subst e;cases r1 with
 |cons r rr=>
  cases rr;obtain⟨t,rfl⟩:=r;exact call_range_1 (zR6 I1 (by omega) (by omega) q1 q2 (by simpa using q))
noncomputable def tFor(wi:TI)(g:TG)(tb:TS):TS:=fun D σ H=>wi σ H fun J H1=>∃W:Nat->Nat->St->Hp->Prop,(∃m,W 0 m σ H1)/\∀i m σ H,W i m σ H ->
 (J.stop i H/\D.nx σ H)\/(J.go i H/\∃N:St->Hp->Prop,(∀σ' H',N σ' H'->∃m',m'<m/\W (i+1) m' σ' H')/\∀x H',J.yld i H x H'->g x σ H' fun σ2 H2=>tb { D with nx:=N,ct:=N,bk:=D.nx } σ2 H2)
noncomputable def zGH(fp:List Addr)(h:Heap):List (Addr×Obj):=fp.filterMap fun b=>(h.get? b).map fun o=>(b,o)
theorem zD0{fp:List Addr}{h:Heap}{b:Addr}{o:Obj}(hb:b∈fp)(e:h.get? b=some o):(b,o)∈zGH fp h:=qFj.mpr ⟨b,hb,by rw[e];rfl⟩
theorem zOU{fp:List Addr}{h:Heap}{p:Addr×Obj}(hp:p∈zGH fp h):p.1∈fp/\h.get? p.1=some p.2:=by
 obtain⟨b,hb,e⟩:=qFj.mp hp;cases q:h.get? b with
 |none=>rw[q]at e;cases e
 |some o=>
  rw[q]at e;have e':(b,o)=p:=qB8 e;subst e';exact⟨hb,q⟩
theorem Inv.pinned{pins:List (Addr×Obj)}{σ:St}{H:Hp}{s:qI8}{fp:List Addr}(I:Inv X pins σ H s)(hf:∀b∈fp,FpOk X pins H b)(ho:∀b∈fp,∃o,s.heap.get? b=some o/\∀v,o.data≠.cell v):Inv X (pins++zGH fp s.heap) σ H s:=
 I.pins_of fun p hp=>(qAq.mp hp).elim (fun z=>I.pin p (qAp _ z)) fun z=>by
  obtain⟨hb,e⟩:=zOU z;obtain⟨f0,f1,f2,_⟩:=hf p.1 hb;obtain⟨o,e',d⟩:=ho p.1 hb;rw[e]at e';cases e';exact⟨e,f0,f1,f2,d⟩
theorem Inv.unpinned{pins pl:List (Addr×Obj)}{σ:St}{H:Hp}{s:qI8}(I:Inv X (pins++pl) σ H s):Inv X pins σ H s:=I.pins_of fun p hp=>I.pin p (qAp _ (qBb _ hp))
theorem zX2{iter:Expr}{body:List Stmt}{wi:TI}{g:TG}{tb:TS}{pos:Pos}(hp:qM2 (model X.prog X.w) X.A X.env X.xe)(hc:X.calm=true)(hi:PI X tg iter wi)(hg:PG X tg g)(hb:PSs X body tb)
  (hs:∀x,qJv iter X.env x=pure x:=by intro _;rfl):PS X (.For tg iter body [] pos) (tFor wi g tb):=by
 intro pins s σ H D I h;refine wpAny_For (thn (hi pins s σ H _ I h) fun v s1 h1=>thn h1 fun itv s2 h2=>?_) hs;obtain⟨it,fp,tn,J,H2,e,I2,T,st2,f2,W,⟨m0,w0⟩,turn⟩:=h2;subst e;have stat:∀{H':Hp},(∀b∈fp,H' b=none)->∀b∈fp,FpOk X pins H' b:=fun hn b hb=>⟨hn b hb,(f2 b hb).2⟩
 refine codeAny_forLoop_any (fun n s'=>∃i σ' H',Inv X pins σ' H' s'/\tn i s'.heap/\(∀b∈fp,H' b=none)/\W i n σ' H') ?_ m0 ⟨0,σ,H2,I2,st2,fun b hb=>(f2 b hb).1,w0⟩
 rintro n s3 ⟨i,σ3,H3,I3,st3,fr3,w3⟩
 rcases turn i n σ3 H3 w3 with⟨stop,qn⟩|⟨go,N,hN,step⟩
 ·refine qJ0 hp (thn (T.done X rfl rfl rfl hc i pins s3 σ3 H3 X.xe I3 (stat fr3) st3 stop) fun r s4 z0=>?_);obtain⟨hr,I4⟩:=z0;subst hr;exact qK7 ⟨σ3,H3,I4,qn⟩
 ·refine qJ0 hp (thn (T.item X rfl rfl rfl hc i pins s3 σ3 H3 X.xe I3 (stat fr3) st3 go) fun r s4 z0=>?_);obtain⟨u,hr,h4⟩:=z0;subst hr;refine qJ0 hp (thn h4 fun _ s5 z0=>?_);obtain⟨x,H5,I5,r5,y5,st5,fr5⟩:=z0;have I5':=I5.pinned (stat fr5) (T.obj _ _ st5);refine qJ0 hp (thn (hg _ s5 σ3 H5 x u _ I5' r5 (step x H5 y5)) fun _ s6 z0=>?_);obtain⟨σ6,H6,I6,q6⟩:=z0;refine qJ0 hp (thn (hb _ s6 σ6 H6 _ I6 q6) fun f s7 q7=>?_);have again:∀{σ7:St}{H7:Hp},Inv X (pins++zGH fp s5.heap) σ7 H7 s7->N σ7 H7->∃m,m<n/\∃i σ' H',Inv X pins σ' H' s7/\tn i s7.heap/\(∀b∈fp,H' b=none)/\W i m σ' H':=fun{σ7 H7} I7 n7=>by
   obtain⟨m',hm,w7⟩:=hN σ7 H7 n7;refine⟨m',hm,i+1,σ7,H7,I7.unpinned,T.keep _ _ _ st5 fun b hb o e=>(I7.pin (b,o) (qAp _ (qAp _ (zD0 hb e)))).1,fun b hb=>?_,w7⟩;obtain⟨o,e,d⟩:=T.obj _ _ st5 b hb;exact(I7.pin (b,o) (qAp _ (qAp _ (zD0 hb e)))).2.1
  cases f with
  |next=>obtain⟨σ7,H7,I7,n7⟩:=q7;exact again I7 n7
  |cont=>obtain⟨σ7,H7,I7,n7⟩:=q7;exact again I7 n7
  |brk=>obtain⟨σ7,H7,I7,q7⟩:=q7;exact⟨σ7,H7,I7.unpinned,q7⟩
  |ret v=>obtain⟨x7,σ7,H7,I7,r7,q7⟩:=q7;exact⟨x7,σ7,H7,I7.unpinned,r7,q7⟩
end
abbrev R2:=V->V->Hp->VK->Prop
def OpR(X:Cx)(f:Value->Value->Sem Value)(r:R2):Prop:=
 ∀(pins:List (Addr×Obj))(s:qI8)(σ:St)(H:Hp)(x y:V)(v u:Value)(Q:VK),Inv X pins σ H s->RelV x v->RelV y u->r x y H Q ->
  wpAny (model X.prog X.w) X.A (f v u) (EP X pins σ Q) X.xe s
def UnR(X:Cx)(f:Value->Sem Value)(r:V->Hp->VK->Prop):Prop:=
 ∀(pins:List (Addr×Obj))(s:qI8)(σ:St)(H:Hp)(x:V)(v:Value)(Q:VK),Inv X pins σ H s->RelV x v->r x H Q ->
  wpAny (model X.prog X.w) X.A (f v) (EP X pins σ Q) X.xe s
def zCN(X:Cx)(f:Value)(r:List V->Hp->VK->Prop):Prop:=
 ∀(pins:List (Addr×Obj))(s:qI8)(σ:St)(H:Hp)(xs:List V)(us:List Value)(Q:VK),Inv X pins σ H s->Vals xs us->r xs H Q ->
  wpAny (model X.prog X.w) X.A (call f us) (EP X pins σ Q) X.xe s
def TruR(X:Cx)(r:V->Hp->(Bool->Hp->Prop)->Prop):Prop:=
 ∀(pins:List (Addr×Obj))(s:qI8)(σ:St)(H:Hp)(x:V)(v:Value)(Q:Bool->Hp->Prop),Inv X pins σ H s->RelV x v->r x H Q ->
  wpAny (model X.prog X.w) X.A (truthy v) (TP X pins σ Q) X.xe s
noncomputable def tOp(r:R2)(ta tb:TE):TE:=fun σ H Q=>ta σ H fun x H1=>tb σ H1 fun y H2=>r x y H2 Q
noncomputable def tUn(r:V->Hp->VK->Prop)(ta:TE):TE:=fun σ H Q=>ta σ H fun x H1=>r x H1 Q
noncomputable def rI(C:Int->Int->Prop)(g:Int->Int->V):R2:=fun x y H Q=>∃i j,x=.int i/\y=.int j/\C i j/\Q (g i j) H
noncomputable def rI0(g:Int->Int->V):R2:=fun x y H Q=>∃i j,x=.int i/\y=.int j/\Q (g i j) H
def rU(g:Int->V):V->Hp->VK->Prop:=fun x H Q=>∃i,x=.int i/\Q (g i) H
section
variable{X:Cx}{a b c:Expr}{ta tb tc:TE}{pos:Pos}
theorem binT(ha:PE X a ta)(hb:PE X b tb){pins:List (Addr×Obj)}{s:qI8}{σ:St}{H:Hp}{R:V->V->Hp->Prop}(I:Inv X pins σ H s)
  (h:ta σ H fun x H1=>tb σ H1 fun y H2=>R x y H2) {Q:Value->qI8->Prop} {f:Value->Value->Sem Value}
  (hf:∀v u s2 x y H2,Inv X pins σ H2 s2->RelV x v->RelV y u->R x y H2->wpAny (model X.prog X.w) X.A (f v u) Q X.xe s2) :
  wpAny (model X.prog X.w) X.A (eval a X.env) (fun v s₁=>wpAny (model X.prog X.w) X.A (eval b X.env) (fun u s₂=>wpAny (model X.prog X.w) X.A (f v u) Q X.xe s₂) X.xe s₁) X.xe s:=by
 refine thn (ha pins s σ H _ I h) fun v s1 z0=>?_
 obtain⟨x,H1,I1,r1,q1⟩:=z0;refine thn (hb pins s1 σ H1 _ I1 q1) fun u s2 z0=>?_
 obtain⟨y,H2,I2,r2,q2⟩:=z0;exact hf v u s2 x y H2 I2 r1 r2 q2
theorem zAU{op:Operator}{r:R2}(ho:OpR X (binaryOp op) r)(ha:PE X a ta)(hb:PE X b tb):PE X (.BinOp a op b pos) (tOp r ta tb):=by
 intro pins s σ H Q I h;exact wpAny_BinOp (binT ha hb I h fun v u s2 x y H2 I2 rx ry q=>ho pins s2 σ H2 x y v u Q I2 rx ry q)
theorem zX6{op:UnaryOp}{r:V->Hp->VK->Prop}(ho:UnR X (unaryOp op) r)(ha:PE X a ta):PE X (.UnaryOp op a pos) (tUn r ta):=by
 intro pins s σ H Q I h;exact UnaryOp_ (thn (ha pins s σ H _ I h) fun v s1 ⟨x,H1,I1,r1,q1⟩=>ho pins s1 σ H1 x v Q I1 r1 q1)
theorem opI{f:Value->Value->Sem Value}{C:Int->Int->Prop}{g:Int->Int->Int}
  (rule:∀(i j:Int)(t u:Tok)(s:qI8)(Q:Value->qI8->Prop)(E:Value->qI8->Prop),C i j->Q (.int (g i j) s.toks) { s with toks:=s.toks+1 }->wpAny (model X.prog X.w) X.A (f (.int i t) (.int j u)) Q E s) :
  OpR X f (rI C fun i j=>.int (g i j)):=by
 intro pins s σ H x y v u Q I rx ry h;obtain⟨i,j,rfl,rfl,hc,q⟩:=h;obtain⟨t,rfl⟩:=rx;obtain⟨t',rfl⟩:=ry;exact rule i j t t' s _ _ hc ⟨.int (g i j),H,I.tok _,⟨_,rfl⟩,q⟩
theorem opI0{f:Value->Value->Sem Value}{g:Int->Int->Int}
  (rule:∀(i j:Int)(t u:Tok)(s:qI8)(Q:Value->qI8->Prop)(E:Value->qI8->Prop),Q (.int (g i j) s.toks) { s with toks:=s.toks+1 }->wpAny (model X.prog X.w) X.A (f (.int i t) (.int j u)) Q E s) :
  OpR X f (rI0 fun i j=>.int (g i j)):=by
 intro pins s σ H x y v u Q I rx ry h;obtain⟨i,j,rfl,rfl,q⟩:=h;obtain⟨t,rfl⟩:=rx;obtain⟨t',rfl⟩:=ry;exact rule i j t t' s _ _ ⟨.int (g i j),H,I.tok _,⟨_,rfl⟩,q⟩
theorem opB0{f:Value->Value->Sem Value}{g:Int->Int->Bool}
  (rule:∀(i j:Int)(t u:Tok)(s:qI8)(Q:Value->qI8->Prop)(E:Value->qI8->Prop),Q (.bool (g i j)) s->wpAny (model X.prog X.w) X.A (f (.int i t) (.int j u)) Q E s) :
  OpR X f (rI0 fun i j=>.bl (g i j)):=by
 intro pins s σ H x y v u Q I rx ry h;obtain⟨i,j,rfl,rfl,q⟩:=h;obtain⟨t,rfl⟩:=rx;obtain⟨t',rfl⟩:=ry;exact rule i j t t' s _ _ ⟨.bl (g i j),H,I,rfl,q⟩
def CMul(i j:Int):Prop:=(-(2 ^ 64)<i/\i<2 ^ 64)\/(-(2 ^ 64)<j/\j<2 ^ 64)
theorem CMul.ok{i j:Int}(h:CMul i j):IntMulOk i j:=by
 rcases h with⟨h1,h2⟩|⟨h1,h2⟩
 ·exact .of_left (intBits_le_64 h1 h2)
 ·exact .of_right (intBits_le_64 h1 h2)
theorem zXJ:OpR X (binaryOp .Add) (rI0 fun i j=>.int (i+j)):=opI0 fun _ _ _ _ _ _ _ q=>add_int q
theorem zXD:OpR X (binaryOp .Sub) (rI0 fun i j=>.int (i-j)):=opI0 fun _ _ _ _ _ _ _ q=>sub_int q
theorem zXG:OpR X (binaryOp .Mod) (rI (fun _ j=>0<j) fun i j=>.int (i%j)):=opI fun i j _ _ _ _ _ hc q=>by
 have h1:(0:Int)<j:=hc;exact mod_int' (by omega) (by rw[Int.fmod_eq_emod_of_nonneg i (by omega)];exact q)
theorem zXC:OpR X (binaryOp .BitXor) (rI0 fun i j=>.int (qJz i j)):=opI0 fun _ _ _ _ _ _ _ q=>xor_int q
theorem unI{f:Value->Sem Value}{g:Int->Int}
  (rule:∀(i:Int)(t:Tok)(s:qI8)(Q:Value->qI8->Prop)(E:Value->qI8->Prop),Q (.int (g i) s.toks) { s with toks:=s.toks+1 }->wpAny (model X.prog X.w) X.A (f (.int i t)) Q E s) :
  UnR X f (rU fun i=>.int (g i)):=by
 intro pins s σ H x v Q I rx h;obtain⟨i,rfl,q⟩:=h;obtain⟨t,rfl⟩:=rx;exact rule i t s _ _ ⟨.int (g i),H,I.tok _,⟨_,rfl⟩,q⟩
theorem zVZ:UnR X (unaryOp .USub) (rU fun i=>.int (-i)):=unI fun _ _ _ _ _ q=>neg_int q
end
noncomputable def scal:V->V->Bool
 |.non,.non=>true | .non,.int _=>true | .int _,.non=>true | .non,.bl _=>true | .bl _,.non=>true | .non,.str _=>true | .str _,.non=>true
 |.int _,.int _=>true | .bl _,.bl _=>true | .str _,.str _=>true | .byt _,.byt _=>true
 |.int _,.str _=>true | .str _,.int _=>true | .bl _,.str _=>true | .str _,.bl _=>true
 |_,_=>false
def rEq:R2:=fun x y H Q=>scal x y=true/\Q (.bl (decide (x=y))) H
def rNe:R2:=fun x y H Q=>scal x y=true/\Q (.bl (!decide (x=y))) H
theorem zPZ{i j:Int}:decide (V.int i=V.int j)=(i==j):=by
 rw[qDx];simp
theorem dec_bl{i j:Bool}:decide (V.bl i=V.bl j)=(i==j):=by
 rw[qDx];simp
theorem zPY{i j:Str}:decide (V.str i=V.str j)=(i==j):=by
 rw[qDx];simp
theorem zQ0{i j:Array UInt8}:decide (V.byt i=V.byt j)=(i.toList==j.toList):=by
 rw[qDx];cases i;cases j;simp
section
variable{X:Cx}{a b c:Expr}{ta tb tc:TE}{pos:Pos}
theorem fin_bl{pins:List (Addr×Obj)}{σ:St}{H:Hp}{s:qI8}{Q:VK}{k k':Bool}(I:Inv X pins σ H s)(q:Q (.bl k) H)(e:k=k'):EP X pins σ Q (.bool k') s:=by
 subst e;exact⟨.bl k,H,I,rfl,q⟩
theorem zZS:OpR X (compareOp .Eq) rEq:=by
 intro pins s σ H x y v u Q I rx ry h;obtain⟨hs,q⟩:=h;cases x with
 |non=>
  cases rx;cases y with
  |non=>cases ry;exact qGv (fin_bl I q (by simp))
  |bl j=>cases ry;exact qGw (fin_bl I q (by simp))
  |int j=>obtain⟨t',rfl⟩:=ry;exact qH8 (fin_bl I q (by simp))
  |str j=>obtain⟨t',rfl⟩:=ry;exact qH9 (fin_bl I q (by simp))
  |_=>exact absurd (show false=true from hs) qAc
 |bl i=>
  cases rx;cases y with
  |non=>cases ry;exact qGx (fin_bl I q (by simp))
  |bl j=>cases ry;exact eq_bool (fin_bl I q dec_bl)
  |str j=>obtain⟨t',rfl⟩:=ry;exact qGy (fin_bl I q (by simp))
  |_=>exact absurd (show false=true from hs) qAc
 |int i=>
  obtain⟨t,rfl⟩:=rx;cases y with
  |non=>cases ry;exact qHa (fin_bl I q (by simp))
  |int j=>obtain⟨t',rfl⟩:=ry;exact eq_int (fin_bl I q zPZ)
  |str j=>obtain⟨t',rfl⟩:=ry;exact qHb (fin_bl I q (by simp))
  |_=>exact absurd (show false=true from hs) qAc
 |str i=>
  obtain⟨t,rfl⟩:=rx;cases y with
  |non=>cases ry;exact qHc (fin_bl I q (by simp))
  |bl j=>cases ry;exact qGz (fin_bl I q (by simp))
  |int j=>obtain⟨t',rfl⟩:=ry;exact qHd (fin_bl I q (by simp))
  |str j=>obtain⟨t',rfl⟩:=ry;exact eq_str (fin_bl I q zPY)
  |_=>exact absurd (show false=true from hs) qAc
 |byt i=>
  obtain⟨t,rfl⟩:=rx;cases y with
  |byt j=>obtain⟨t',rfl⟩:=ry;exact PySem.W.eq_bytes (fin_bl I q zQ0)
  |_=>exact absurd (show false=true from hs) qAc
 |_=>cases y<;>exact absurd (show false=true from hs) qAc
theorem zZP:OpR X (compareOp .NotEq) rNe:=by
 intro pins s σ H x y v u Q I rx ry h;obtain⟨hs,q⟩:=h;cases x with
 |non=>
  cases rx;cases y with
  |non=>cases ry;exact qH0 (fin_bl I q (by simp))
  |bl j=>cases ry;exact qH1 (fin_bl I q (by simp))
  |int j=>obtain⟨t',rfl⟩:=ry;exact qHe (fin_bl I q (by simp))
  |str j=>obtain⟨t',rfl⟩:=ry;exact qHf (fin_bl I q (by simp))
  |_=>exact absurd (show false=true from hs) qAc
 |bl i=>
  cases rx;cases y with
  |non=>cases ry;exact qH2 (fin_bl I q (by simp))
  |bl j=>cases ry;exact ne_bool (fin_bl I q (congrArg not dec_bl))
  |str j=>obtain⟨t',rfl⟩:=ry;exact qH3 (fin_bl I q (by simp))
  |_=>exact absurd (show false=true from hs) qAc
 |int i=>
  obtain⟨t,rfl⟩:=rx;cases y with
  |non=>cases ry;exact qHg (fin_bl I q (by simp))
  |int j=>obtain⟨t',rfl⟩:=ry;exact ne_int (fin_bl I q (congrArg not zPZ))
  |str j=>obtain⟨t',rfl⟩:=ry;exact qHh (fin_bl I q (by simp))
  |_=>exact absurd (show false=true from hs) qAc
 |str i=>
  obtain⟨t,rfl⟩:=rx;cases y with
  |non=>cases ry;exact qHi (fin_bl I q (by simp))
  |bl j=>cases ry;exact qH4 (fin_bl I q (by simp))
  |int j=>obtain⟨t',rfl⟩:=ry;exact qHj (fin_bl I q (by simp))
  |str j=>obtain⟨t',rfl⟩:=ry;exact ne_str (fin_bl I q (congrArg not zPY))
  |_=>exact absurd (show false=true from hs) qAc
 |byt i=>
  obtain⟨t,rfl⟩:=rx;cases y with
  |byt j=>obtain⟨t',rfl⟩:=ry;exact PySem.W.ne_bytes (fin_bl I q (congrArg not zQ0))
  |_=>exact absurd (show false=true from hs) qAc
 |_=>cases y<;>exact absurd (show false=true from hs) qAc
theorem zZQ:OpR X (compareOp .Lt) (rI0 fun i j=>.bl (decide (i<j))):=opB0 fun _ _ _ _ _ _ _ q=>lt_int q
theorem zZR:OpR X (compareOp .Gt) (rI0 fun i j=>.bl (decide (j<i))):=opB0 fun _ _ _ _ _ _ _ q=>gt_int q
theorem zC1(b:Expr){op:CmpOp}(h:op≠.In:=by decide)(h2:op≠.NotIn:=by decide):qJ2 op b=false:=by
 have e1:(op==CmpOp.In)=false:=by cases op<;>first|rfl|exact absurd rfl h
 have e2:(op==qMu)=false:=by cases op<;>first|rfl|exact absurd rfl h2
 cases b<;>simp[qJ2,e1,e2]
theorem zOM{op:CmpOp}{r:R2}(ho:OpR X (compareOp op) r)(ha:PE X a ta)(hb:PE X b tb)(hm:qJ2 op b=false):PE X (.Compare a [op] [b] pos) (tOp r ta tb):=by
 intro pins s σ H Q I h;exact wpAny_Compare1 (binT ha hb I h fun v u s2 x y H2 I2 rx ry q=>ho pins s2 σ H2 x y v u Q I2 rx ry q) hm
def TruV(K:qA1)(x:V)(H:Hp)(k:Bool):Prop:=
 match x with
 |.non=>k=false
 |.bl b=>k=b
 |.int i=>k=(i != 0)
 |.str y=>y.length<=sizeLine/\k=((y.length:Int) != 0)
 |.byt y=>y.size<=sizeLine/\k=((y.size:Int) != 0)
 |.ref p=>(∃xs,SqL K H p xs/\k = !xs.isEmpty)\/(∃xs,SqT K H p xs/\k = !xs.isEmpty)\/∃kvs,H p=some (.dK kvs)/\k = !kvs.isEmpty
 |_=>False
theorem zNB{κ:Type}{kvs:List (κ×V)}{vs:List (κ×Value)}(r:KV kvs vs):(!vs.isEmpty) = !kvs.isEmpty:=by
 cases r<;>rfl
theorem zGN{xs:List V}{its:List Value}(r:Vals xs its):(!its.toArray.isEmpty) = !xs.isEmpty:=by
 cases r<;>simp
theorem zFS:(sizeLine:Nat)<2 ^ 63:=by rw[qIq];decide
theorem zW3:TruR X (fun x H Q=>∃k,TruV X.K x H k/\Q k H):=by
 intro pins s σ H x v Q I rx h;obtain⟨k,e,q⟩:=h;have hl:=zFS;have hs:sizeLine=16777216:=qIq;cases x with
 |non=>
  cases rx;have e':k=false:=e;subst e';exact truthy_none ⟨H,I,q⟩
 |bl b=>
  cases rx;have e':k=b:=e;subst e';exact wpAny_truthy_bool ⟨H,I,q⟩
 |int i=>
  obtain⟨t,rfl⟩:=rx;have e':k=(i != 0):=e;subst e';exact PySem.P.truthy_int ⟨H,I,q⟩
 |str y=>
  obtain⟨t,rfl⟩:=rx;obtain⟨hy,e'⟩:y.length<=sizeLine/\k=((y.length:Int) != 0):=e;subst e';exact PySem.P.truthy_str (by omega) ⟨H,I.tok _,q⟩
 |byt y=>
  obtain⟨t,rfl⟩:=rx;obtain⟨hy,e'⟩:y.size<=sizeLine/\k=((y.size:Int) != 0):=e;subst e';exact PySem.W.truthy_bytes (by omega) ⟨H,I.tok _,q⟩
 |ref p=>
  cases rx;have e':(∃xs,SqL X.K H p xs/\k = !xs.isEmpty)\/(∃xs,SqT X.K H p xs/\k = !xs.isEmpty)\/∃kvs,H p=some (.dK kvs)/\k = !kvs.isEmpty:=e
  rcases e' with⟨xs,hx,e'⟩|⟨xs,hx,e'⟩|⟨kvs,hx,e'⟩
  ·subst e';obtain⟨its,r,pl,hz⟩:=I.list hx;have hlen:=r.length;exact wpAny_truthy_list pl.isList (by simp only[qAd];omega) ⟨H,I.tok _,by rw[zGN r];exact q⟩
  ·subst e';obtain⟨its,r,pl,hz⟩:=I.tuple hx;have hlen:=r.length;exact truthy_tuple pl (by simp only[qAd];omega) ⟨H,I.tok _,by rw[zGN r];exact q⟩
  ·subst e';obtain⟨hz,hS,vs,r,m⟩:kvs.length<=sizeLine/\(p==qIz)=false/\∃vs,KV kvs vs/\s.heap.DictOf (zC5 X.prog X.w) p vs:=I.hok p _ hx;have hlen:kvs.length=vs.length:=qK3 r;exact wpAny_truthy_dict hS m (by omega) ⟨H,I.tok _,by rw[zNB r];exact q⟩
 |_=>exact(show False from e).elim
theorem zN3:OpR X (binaryOp .Add) (fun x y H Q=>∃i j,x=.str i/\y=.str j/\i.length+j.length<=sizeLine/\Q (.str (i++j)) H):=by
 intro pins s σ H x y v u Q I rx ry h;obtain⟨i,j,rfl,rfl,hz,q⟩:=h;obtain⟨t,rfl⟩:=rx;obtain⟨t',rfl⟩:=ry;exact add_str (fun t' tk=>⟨.str (i++j),H,I.tok _,⟨_,rfl⟩,q⟩) hz
theorem zCO{x:V}{us:List Value}(r:Vals [x] us):∃u,us=[u]/\RelV x u:=by
 cases r with
 |cons r1 r2=>cases r2;exact⟨_,rfl,r1⟩
theorem zVW{x y:V}{us:List Value}(r:Vals [x,y] us):∃u w',us=[u,w']/\RelV x u/\RelV y w':=by
 cases r with
 |cons r1 r2=>
  cases r2 with
  |cons r3 r4=>cases r4;exact⟨_,_,rfl,r1,r3⟩
theorem zQC:zCN X (.type "int") (fun xs H Q=>(∃i,xs=[.int i]/\Q (.int i) H)\/∃k,xs=[.bl k]/\Q (.int (if k then 1 else 0)) H):=by
 intro pins s σ H xs us Q I r h
 rcases h with⟨i,rfl,q⟩|⟨k,rfl,q⟩
 ·obtain⟨u,rfl,t,rfl⟩:=zCO r;exact call_int_int ⟨.int i,H,I,⟨_,rfl⟩,q⟩
 ·obtain⟨u,rfl,r1⟩:=zCO r;cases r1;exact call_int_bool ⟨.int (if k then 1 else 0),H,I.tok _,⟨_,rfl⟩,q⟩
end
structure ObjM(h:Heap)(x dx C:Addr)(mA:Str->Option Value):Prop where
 obj:h.get? x=some (qEw C dx)
 ns:h.Ns1 dx mA
 ne:dx≠x
theorem zP2{h:Heap}{dx:Addr}{mA:Str->Option Value}(n:h.Ns1 dx mA):∃od,h.get? dx=some od/\∀name,qFa name od=some (mA name):=by
 obtain⟨o,es,ep,ho,hd,hk,_,hm⟩:=n;refine⟨o,ho,fun name=>?_⟩;have e:=hm name;unfold nsFind findBy at e;rw[<- Array.find?_toList]at e;unfold qFa;rw[hd];dsimp only
 split
 ·rename_i y q
  rw[q]at e;exact congrArg some e
 ·rename_i q
  rw[q]at e;have a:es.toList.any (·.refKey)=false:=by
   rw[qFv];intro y hy;obtain⟨z,t,hkey⟩:=hk y (Array.mem_toList_iff.mp hy);simp[DictEntry.refKey,hkey]
  have a':¬es.toList.any (·.refKey)=true:=by rw[a];exact qAc
  rw[if_neg a'];exact congrArg some e
theorem ObjM.look{h:Heap}{x dx C:Addr}{mA:Str->Option Value}(I:ObjM h x dx C mA):∃od,PySem.W.InstAt h x (qEw C dx) C (some od)/\∀name,qFa name od=some (mA name):=
 let⟨od,ho,hl⟩:=zP2 I.ns
 ⟨od,⟨I.obj,rfl,rfl,ho⟩,hl⟩
section
variable{prog:qIb}{w:World}{A:qIc}{E:Value->qI8->Prop}{s:qI8}{K:qA1}{x dx C f:Addr}{mA:Str->Option Value}{name:Str}{v:Value}
theorem zPQ{expr:Bool}{Q:Value->qI8->Prop}(X:K.In s.heap)(I:ObjM s.heap x dx C mA)(hg:qEn K C name=true)(hh:qDh K C=true)
  (ha:qB5 K (.ref C) name=some none) (hv:mA name=some v) (hv':PySem.W.handedIn v=true) (h:Q v { s with toks:=s.toks+1 }) :
  wpAny (model prog w) A (getAttr (.ref x) name expr) Q E s:=by
 obtain⟨od,J,hl⟩:=I.look;exact PySem.W.get_value X J (PySem.W.plainGet_of hg).1 (PySem.W.findObj_own hh ha rfl (by rw[hl,hv])) hv' h
end
theorem RelO.some_of{v:V}{o:Option Value}(r:RelO (some v) o):∃u,o=some u/\RelV v u:=by
 cases o with
 |none=>exact(show False from r).elim
 |some u=>exact⟨u,rfl,r⟩
section
variable{P:qIb}{w:World}{H H':Hp}{h h':Heap}{a C dx:Addr}{fs fs':List (Str×V)}
theorem zV0(hok:HOk P w H h)(e:H a=some (.ins C dx fs)):∃mA,ObjM h a dx C mA/\(∀f,RelO (fs.lookup f) (mA f))/\qHp mA (fs.map (·.1))/\fs.length<=1000/\H dx=some (.own a):=by
 obtain⟨d,z,ne,ob,mA,n,r,q⟩:=(show ObjOk P w H h a (.ins C dx fs) from hok a _ e)
 exact⟨mA,⟨ob,n,ne⟩,r,q,z,d⟩
end
structure Cls(K:qA1)(C:Addr):Prop where
 pg:qEn K C Str.empty=true
 hd:qDh K C=true
 po:PySem.W.plainOver K C=true
 sa:qB5 K (.ref C) "__setattr__" = some (some (.builtin "object.__setattr__"))
theorem Cls.get{K:qA1}{C:Addr}(c:Cls K C)(f:Str):qEn K C f=true:=c.pg
def zYZ(K:qA1)(C:Addr)(f:Str):Prop:=qB5 K (.ref C) f=some none
section
variable{X:Cx}{pins:List (Addr×Obj)}{σ:St}{H:Hp}{s:qI8}{a C dx:Addr}{fs:List (Str×V)}{f:Str}{v:V}{A:qIc}{E:Value->qI8->Prop}
end
section
variable{X:Cx}{o e value:Expr}{f:Str}{pos pos' tpos:Pos}{ta tv:TE}
end
section
variable{X:Cx}{pins:List (Addr×Obj)}{σ:St}{H:Hp}{s:qI8}{A:qIc}{E:Value->qI8->Prop}{Q:Value->qI8->Prop}{c:Value}{b:Bool}
inductive TyOf(K:qA1)(H:Hp):V->Value->Prop where
 |non:TyOf K H .non (.type "NoneType")
 |bl (x:Bool):TyOf K H (.bl x) (.type "bool")
 |int (i:Int):TyOf K H (.int i) (.type "int")
 |str (x:Str):TyOf K H (.str x) (.type "str")
 |flt (x:UInt64):TyOf K H (.flt x) (.type "float")
 |lst {a:Addr} {xs:List V} (e:H a=some (.lst xs)):TyOf K H (.ref a) (.type "list")
 |frz {a:Addr} {o:Obj} {xs:List V} (e:H a=some (.frz o (.lst xs))):TyOf K H (.ref a) (.type "list")
 |tup {a:Addr} {xs:List V} (e:H a=some (.tup xs)):TyOf K H (.ref a) (.type "tuple")
 |dK {a:Addr} {kvs:List (Key×V)} (e:H a=some (.dK kvs)):TyOf K H (.ref a) (.type "dict")
 |dT {a:Addr} {T:Addr->Prop} {e0:Nat} {kvs:List (List KeyN×V)} (e:H a=some (.dT T e0 kvs)):TyOf K H (.ref a) (.type "dict")
 |ins {a C dx:Addr} {fs:List (Str×V)} (e:H a=some (.ins C dx fs)) (cl:Cls K C) (ha:qB5 K (.ref C) "__class__" = some (some (.builtin "object.__class__")))
   (hn:qFw K (.builtin "object.__class__") "__get__" = some (some (.builtin "getset_descriptor.__get__"))) (htk:qGi K (.builtin "object.__class__")=some true)
   (hm:qFk K C (.type "object")=some true):TyOf K H (.ref a) (.ref C)
theorem zPH{x:V}{u t:Value}(I:Inv X pins σ H s)(rx:RelV x u)(ty:TyOf X.K H x t)(e:qH5 X.K t c=some b)(h:∀tk,Q (.bool b) { s with toks:=tk }) :
  wpAny (model X.prog X.w) A (call (.builtin "isinstance") [u,c]) Q E s:=by
 cases ty with
 |non=>cases(show u=qIj from rx);exact qBg PySem.W.kitx_none I.kIn qCp e (fun z=>nomatch z) h
 |bl y=>cases(show u=qJb y from rx);exact qBg PySem.W.kitx_bool I.kIn qCp e (fun z=>nomatch z) h
 |int i=>obtain⟨t,q⟩:=(show ∃t,u=qKj i t from rx);cases q;exact qBg PySem.W.kitx_int I.kIn qCp e (fun z=>nomatch z) h
 |str y=>obtain⟨t,q⟩:=(show ∃t,u=qJg y t from rx);cases q;exact qBg PySem.W.kitx_str I.kIn qCp e (fun z=>nomatch z) h
 |flt y=>obtain⟨t,q⟩:=(show ∃t,u=qMt y t from rx);cases q;exact qBg PySem.W.kitx_float I.kIn qCp e (fun z=>nomatch z) h
 |@lst a xs ea=>
  cases(show u=qIi a from rx)
  obtain⟨_,_,n,_,h1⟩:=(show ObjOk X.prog X.w H s.heap a (.lst xs) from I.hok a _ ea)
  exact qBg qFx I.kIn ⟨_,h1,rfl⟩ e (fun z=>nomatch z) h
 |@frz a ob xs ea=>
  cases(show u=qIi a from rx)
  obtain⟨_,_,_,n,_,h1⟩:=(show ObjOk X.prog X.w H s.heap a (.frz ob (.lst xs)) from I.hok a _ ea)
  exact qBg qFx I.kIn ⟨_,h1,rfl⟩ e (fun z=>nomatch z) h
 |@tup a xs ea=>
  cases(show u=qIi a from rx)
  obtain⟨_,_,_,p⟩:=(show ObjOk X.prog X.w H s.heap a (.tup xs) from I.hok a _ ea)
  obtain⟨o,h1,h2,_⟩:=p;exact qBg PySem.W.kitx_tuple I.kIn ⟨o,h1,h2⟩ e (fun z=>nomatch z) h
 |@dK a kvs ea=>
  cases(show u=qIi a from rx)
  obtain⟨_,_,vs,_,p⟩:=(show ObjOk X.prog X.w H s.heap a (.dK kvs) from I.hok a _ ea)
  obtain⟨o,es,ep,h1,h2,_⟩:=p;exact qBg qFy I.kIn ⟨o,h1,h2.1⟩ e (fun z=>nomatch z) h
 |@dT a T e0 kvs ea=>
  cases(show u=qIi a from rx)
  obtain⟨_,_,xs,_,o,es,ep,h1,h2,_⟩:=(show ObjOk X.prog X.w H s.heap a (.dT T e0 kvs) from I.hok a _ ea)
  exact qBg qFy I.kIn ⟨o,h1,h2.1⟩ e (fun z=>nomatch z) h
 |@ins a C dx fs ea cl ha hn htk hm=>
  cases(show u=qIi a from rx)
  obtain⟨mA,O,_⟩:=zV0 I.hok ea;obtain⟨od,J,_⟩:=O.look;exact qBg (PySem.W.kitx_own (cl.get _) cl.hd ha hn htk hm) I.kIn J e (fun z=>nomatch z) h
end
structure Room(k:Nat)(A:qIc):Prop where
 hd:A.handled=none
 dp:A.depth+3*k+5<recursionLimit
 un:A.units+16*k+200<cLine
theorem Room.mono{j k:Nat}{A:qIc}(r:Room k A)(h:j<=k):Room j A:=⟨r.hd,by have:=r.dp;omega,by have:=r.un;omega⟩
theorem Room.deeper{k:Nat}{A:qIc}(r:Room (k+1) A)(env:Env):Room k (A.deeper env):=
 ⟨r.hd,by have:=r.dp;show A.depth+1+3*k+5<_;omega,by have:=r.un;show A.units+3+16*k+200<_;omega⟩
theorem Room.depth{k:Nat}{A:qIc}(r:Room k A):A.depth<recursionLimit:=by have:=r.dp;omega
theorem Room.units{k:Nat}{A:qIc}(r:Room k A):A.units+64<cLine:=by have:=r.un;omega
noncomputable def tNil:TA:=fun _ H Q=>Q [] H
noncomputable def zEA(ta:TE)(tr:TA):TA:=fun σ H Q=>ta σ H fun x H1=>tr σ H1 fun xs H2=>Q (x::xs) H2
section
variable{X:Cx}{e:Expr}{es:List Expr}{te:TE}{t:TA}{pos:Pos}
theorem zA9:PA X [] tNil:=fun _ _ _ _ H Q I h=>Calls.spliced_nil ⟨[],H,I,.nil,h⟩
theorem zA1(ha:PE X e te)(hr:PA X es t)(hs:starEach (e::es) X.env=(false,eval e X.env)::starEach es X.env:=by rfl):PA X (e::es) (zEA te t):=by
 intro pos pins s σ H Q I h;rw[hs];show wpAny _ _ (spliced ((false,eval e X.env)::backTo pos (starEach es X.env))) _ _ s;refine Calls.spliced_cons (thn (ha pins s σ H _ I h) fun u s1 z0=>?_);obtain⟨x,H1,I1,r1,q1⟩:=z0;exact thn (hr pos pins s1 σ H1 _ I1 q1) fun us s2 ⟨xs,H2,I2,r2,q2⟩=>⟨x::xs,H2,I2,.cons r1 r2,q2⟩
def tTup(t:TA):TE:=fun σ H Q=>t σ H fun xs H1=>xs.length<=sizeLine/\∀p,H1 p=none->Q (.ref p) (upd H1 p (.tup xs))
def tLst(t:TA):TE:=fun σ H Q=>t σ H fun xs H1=>xs.length<=sizeLine/\∀p,H1 p=none->Q (.ref p) (upd H1 p (.lst xs))
theorem zEN{x1}(h:PA X es t):PE X (.Tuple es x1 pos) (tTup t):=by
 intro pins s σ H Q I hq;refine wpAny_Tuple_spliced (thn (h pos pins s σ H _ I hq) fun us s1 ⟨xs,H1,I1,r,z,q⟩=>⟨by rw[<- r.length];exact z,?_⟩);have hf:H1 s1.heap.objs.size=none:=I1.hok.fresh (qA8 _);refine⟨.ref s1.heap.objs.size,upd H1 s1.heap.objs.size (.tup xs),I1.laid (t':=s1.toks) (fun b u e=>qI7 _ e) (qA8 _) ?_,rfl,q _ hf⟩;exact⟨z,us,r,⟨_,qIa _ rfl,rfl,_,rfl⟩⟩
theorem zGJ(h:PA X es t):PE X (.List es pos) (tLst t):=by
 intro pins s σ H Q I hq;refine wpAny_List_spliced (thn (h pos pins s σ H _ I hq) fun us s1 ⟨xs,H1,I1,r,z,q⟩=>⟨by rw[<- r.length];exact z,?_⟩);have hf:H1 s1.heap.objs.size=none:=I1.hok.fresh (qA8 _);refine⟨.ref s1.heap.objs.size,upd H1 s1.heap.objs.size (.lst xs),I1.laid (t':=s1.toks) (fun b u e=>qI7 _ e) (qA8 _) ?_,rfl,q _ hf⟩;exact⟨z,us,0,r,qIa _ rfl⟩
end
abbrev Sp:=List V->Hp->VK->XK->Prop
abbrev CXT:=List Env->Hp->qI8->XK->Value->qI8->Prop
structure Env0(P:qIb)(w:World)(K:qA1)(mg:Str->Option Value)(base:Heap)(A:qIc)(outer:List Env)(s:qI8)(H:Hp):Prop where
 frames:A.frames=some outer
 mod:Mod K mg base
 bs:∀b o,base.get? b=some o->s.heap.get? b=some o/\H b=none
 bsz:base.objs.size<=s.heap.objs.size
 funs:s.heap.FunFrames base outer
 frf:∀b∈frs outer,H b=none
 hok:HOk P w H s.heap
 bare:qKm s.gens
def CE(outer:List Env)(P:qIb)(w:World)(H:Hp)(s:qI8)(Q:VK)(u:Value)(s':qI8):Prop:=
 ∃v H',s'.os=s.os/\qKm s'.gens/\Un (frs outer) [] H H' s.heap s'.heap/\HOk P w H' s'.heap/\RelV v u/\Q v H'
def CR(CX:CXT)(outer:List Env)(P:qIb)(w:World)(H:Hp)(s:qI8)(Q:VK)(E:XK)(r:qLu)(s':qI8):Prop:=
 match r with
 |.ok (.ret u)=>CE outer P w H s Q u s'
 |.ok _=>False
 |.error e=>CX outer H s E e s'
structure FnOk(P:qIb)(w:World)(K:qA1)(mg:Str->Option Value)(base:Heap)(CX:CXT)(k:Nat)(f:Addr)(fd:qIs)(ps:List Str)(sp:Sp):Prop where
 len:∀vs H Q E,sp vs H Q E->vs.length=ps.length
 run:∀(A:qIc)(outer:List Env)(s:qI8)(H:Hp)(args:Args)(us:List Value)(vs:List V)(Q:VK)(E:XK),Room k A->Env0 P w K mg base A outer s H->qLl s fd args (ps.zip us)->Vals vs us->sp vs H Q E ->
  qK8 (model P w) A (.call (.ref f) args) (CR CX outer P w H s Q E) s
theorem FnOk.imp{P:qIb}{w:World}{K:qA1}{mg:Str->Option Value}{base:Heap}{CX:CXT}{k:Nat}{f:Addr}{fd:qIs}{ps:List Str}{sp sp':Sp}(F:FnOk P w K mg base CX k f fd ps sp)
  (h:∀vs H Q E,sp' vs H Q E->sp vs H Q E):FnOk P w K mg base CX k f fd ps sp':=
 ⟨fun vs H Q E q=>F.len vs H Q E (h _ _ _ _ q),fun A outer s H args us vs Q E hr he hb hv hs=>F.run A outer s H args us vs Q E hr he hb hv (h _ _ _ _ hs)⟩
section
variable{X:Cx}{pins:List (Addr×Obj)}{σ:St}{H:Hp}{s s':qI8}
theorem Inv.env0(I:Inv X pins σ H s):Env0 X.prog X.w X.K X.mg X.base X.A X.stack s H:=
 ⟨I.ok.frames,I.ok.mod,I.bs,qAl I.ok.bsz I.sz,I.stack,I.stkFree,I.hok,I.bare⟩
theorem Inv.after{Q:VK}{u:Value}(I:Inv X pins σ H s)(h:CE X.stack X.prog X.w H s Q u s'):EP X pins σ Q u s':=by
 obtain⟨v,H',os,bare,un,hok,r,q⟩:=h;obtain⟨hh,g,d,t,os'⟩:=s';obtain rfl:os'=s.os:=os;exact⟨v,H',I.call (h':=hh) (g':=g) (d':=d) (t':=t) (ch:=[]) un hok bare (fun b z=>absurd z (by simp)),r,q⟩
end
noncomputable def zK5(sp:Sp)(dvs:List V)(E:XK)(t:TA):TE:=fun σ H Q=>t σ H fun vs H1=>sp (vs++dvs) H1 Q E
def Binds(K:qA1)(fd:qIs)(ps:List Str)(ds:List Value):Prop:=
 ∀(s:qI8)(us:List Value),K.In s.heap->(us++ds).length=ps.length->qLl s fd ⟨us,[]⟩ (ps.zip (us++ds))
theorem Binds.all{K:qA1}{fd:qIs}{ps:List Str}(h:∀us:List Value,us.length=ps.length->qLg fd ⟨us,[]⟩=pure (ps.zip us)):Binds K fd ps []:=fun s us _ hl=>by
 rw[qD5]at hl ⊢;exact .of_eq (h us hl)
def zMN(CX:CXT)(X:Cx)(E:XK):Prop:=∀(pins:List (Addr×Obj))(σ:St)(H:Hp)(s:qI8)(e:Value)(s':qI8),Inv X pins σ H s->CX X.stack H s E e s'->X.xe e s'
section
variable{X:Cx}{CX:CXT}{k:Nat}{f C:Addr}{fd:qIs}{ps:List Str}{sp:Sp}{dvs:List V}{ds:List Value}{E:XK}{x m:Str}{p pos apos:Pos}{e o:Expr}{es:List Expr}{ta:TE}{t:TA}
theorem zWI{pins:List (Addr×Obj)}{σ:St}{H:Hp}{s:qI8}{Q:VK}{us:List Value}{vs:List V}(F:FnOk X.prog X.w X.K X.mg X.base CX k f fd ps sp)(hr:Room k X.A)(hb:Binds X.K fd ps ds)(hd:Vals dvs ds)(hx:zMN CX X E)
  (I:Inv X pins σ H s) (r:Vals vs us) (h:sp (vs++dvs) H Q E):wpAny (model X.prog X.w) X.A (call (.ref f) us) (EP X pins σ Q) X.xe s:=by
 have r2:Vals (vs++dvs) (us++ds):=r.append hd;have hl:(us++ds).length=ps.length:=by rw[<- r2.length];exact F.len _ _ _ _ h
 refine wpAny_call (codeAny_mono (F.run X.A X.stack s H ⟨us,[]⟩ (us++ds) (vs++dvs) Q E hr I.env0 (hb s us I.kIn hl) r2 h) fun r s' hq=>?_);cases r with
 |error e=>exact hx pins σ H s e s' I hq
 |ok fl=>
  cases fl with
  |ret u=>exact I.after hq
  |next=>exact qA5 hq
  |brk=>exact qA5 hq
  |cont=>exact qA5 hq
theorem zON(F:FnOk X.prog X.w X.K X.mg X.base CX k f fd ps sp)(hr:Room k X.A)(hg:Gl X x)(hm:X.mg x=some (.ref f))(hk:qBh X.K (.ref f)=true)(hb:Binds X.K fd ps ds)(hd:Vals dvs ds)(hx:zMN CX X E)
  (ha:PA X (e::es) t) (hdb:(x==("__debug__":Str))=false:=by decide) (he:starEach (e::es) X.env=(false,eval e X.env)::starEach es X.env:=by rfl) (hpl:(backTo pos (starEach es X.env)).any (·.1)=false:=by rfl) :
  PE X (.Call (.Name x p) (e::es) [] pos) (zK5 sp dvs E t):=by
 intro pins s σ H Q I h;refine qJr (zKR I hg hm ?_ hdb);refine qFl (h₀:=X.base) I.ok.mod.kin hk (thn (ha pos pins s σ H _ I h) fun us s1 ⟨vs,H1,I1,r,q⟩=>⟨I1.kIn,?_⟩) he hpl;exact zWI F hr hb hd hx I1 r q
end
section
variable{X:Cx}{CX:CXT}{k:Nat}{f C:Addr}{fd:qIs}{ps ks:List Str}{sp:Sp}{E:XK}{x m:Str}{p pos apos kpos:Pos}{e o:Expr}{es:List Expr}{kws:List qLm}{te ta:TE}{t tk:TA}{nm:Option Str}
variable{g:List Value->List Value->List Value}{gV:List V->List V->List V}
end
structure FnScope(N P:List Str)(sc:Scope):Prop where
 kind:sc.kind=.function
 co:sc.isCoroutine=false
 gen:sc.isGenerator=false
 nd:N.Nodup
 pre:N.take P.length=P
 par:∀x∈P,sc.names.lookup x=some .local\/sc.names.lookup x=some .cell
 nofree:∀y∈sc.names,y.2≠.free
theorem zJQ{kindOf:Str->Option qJc}{x:Str}:∀{binds:List (Str×Value)}{m:Str->Option Value},(∀v,(x,v)∉binds)->bindL kindOf binds m x=m x
 |[],_,_=>rfl
 |(n,v)::r,m,h=>by
  unfold bindL;rw[zJQ fun w hw=>h w (qAs _ hw)]
  split
  ·have:x≠n:=by rintro rfl;exact h v qAw
   simp[this]
  ·rfl
theorem zJS{kindOf:Str->Option qJc}{x:Str}:∀{binds:List (Str×Value)}{m:Str->Option Value},(∀v,(x,v)∉binds)->bindC kindOf binds m x=m x
 |[],_,_=>rfl
 |(n,v)::r,m,h=>by
  unfold bindC;rw[zJS fun w hw=>h w (qAs _ hw)]
  split
  ·rfl
  ·have:x≠n:=by rintro rfl;exact h v qAw
   simp[this]
theorem zJR{kindOf:Str->Option qJc}{x:Str}{v:Value}:∀{P:List Str}{vs:List Value}{i:Nat}{m:Str->Option Value},P.Nodup->P[i]?=some x->vs[i]?=some v->kindOf x=some .local ->
  bindL kindOf (P.zip vs) m x=some v
 |[],_,_,_,_,h,_,_=>by simp at h
 |_::_,[],_,_,_,_,h,_=>by simp at h
 |p::P,w::vs,0,m,nd,h1,h2,hk=>by
  simp at h1 h2;subst h1;subst h2;show bindL kindOf ((p,w)::P.zip vs) m p=_;unfold bindL;rw[zJQ fun v hv=>(qBi.mp nd).1 (qD6 hv).1,if_pos hk];simp
 |p::P,w::vs,i+1,m,nd,h1,h2,hk=>by
  show bindL kindOf ((p,w)::P.zip vs) m x=_;unfold bindL;exact zJR (i:=i) (qBi.mp nd).2 (by simpa using h1) (by simpa using h2) hk
theorem zJT{kindOf:Str->Option qJc}{x:Str}{v:Value}:∀{P:List Str}{vs:List Value}{i:Nat}{m:Str->Option Value},P.Nodup->P[i]?=some x->vs[i]?=some v->kindOf x≠some .local ->
  bindC kindOf (P.zip vs) m x=some v
 |[],_,_,_,_,h,_,_=>by simp at h
 |_::_,[],_,_,_,_,h,_=>by simp at h
 |p::P,w::vs,0,m,nd,h1,h2,hk=>by
  simp at h1 h2;subst h1;subst h2;show bindC kindOf ((p,w)::P.zip vs) m p=_;unfold bindC;rw[zJS fun v hv=>(qBi.mp nd).1 (qD6 hv).1,if_neg hk];simp
 |p::P,w::vs,i+1,m,nd,h1,h2,hk=>by
  show bindC kindOf ((p,w)::P.zip vs) m x=_;unfold bindC;exact zJT (i:=i) (qBi.mp nd).2 (by simpa using h1) (by simpa using h2) hk
noncomputable def start(N:List Str)(vs:List V):St:=vs.map some++qAa (N.length-vs.length) none
noncomputable def cxOf(CX:CXT)(P:qIb)(w:World)(K:qA1)(mg:Str->Option Value)(base:Heap)(N:List Str)(qual:Str)(scope:Scope)(f:Addr)(cd:Value)(A:qIc)(outer:List Env)(s:qI8)(H:Hp)(E:XK):Cx where
 prog:=P
 w:=w
 K:=K
 mg:=mg
 base:=base
 A:=A.deeper (envOfC qual scope s.heap.objs.size f cd)
 N:=N
 s₀:=s
 H₀:=H
 env:=envOfC qual scope s.heap.objs.size f cd
 outer:=outer
 stack:=envOfC qual scope s.heap.objs.size f cd::outer
 ex:=[]
 calm:=true
 fn:=fun _=>true
 pn:=[]
 xe:=fun e s'=>wpAny (model P w) (A.deeper (envOfC qual scope s.heap.objs.size f cd)) (leaving (envOfC qual scope s.heap.objs.size f cd) e) (fun _ s''=>CX outer H s E e s'') (fun e' s''=>CX outer H s E e' s'') s'
theorem zMJ{sc:Scope}{n:Nat}{x:Str}(h:sc.names.lookup x=some .cell):∃c,(cellsFrom n sc.names []).lookup x=some c:=by
 have q:=qDd sc.names n [] (.inl h);exact qEd.mp q
theorem zPI{CX:CXT}{P:qIb}{w:World}{K:qA1}{mg:Str->Option Value}{base:Heap}{N ps:List Str}{qual:Str}{scope:Scope}{f:Addr}{cd:Value}{A:qIc}{outer:List Env}{s s1:qI8}{H:Hp}{E:XK}{us:List Value}{vs:List V}
  (S:FnScope N ps scope) (hd:A.handled=none) (e0:Env0 P w K mg base A outer s H) (hl:vs.length=ps.length) (r:Vals vs us)
  (x:InCallC s s.heap.objs.size (bindL (envOfC qual scope s.heap.objs.size f cd).kindOf (ps.zip us) fun _=>none) (cellsFrom (s.heap.objs.size+1) scope.names []) (bindC (envOfC qual scope s.heap.objs.size f cd).kindOf (ps.zip us) fun _=>none) s1) :
  Inv (cxOf CX P w K mg base N qual scope f cd A outer s H E) [] (start N vs) H s1:=by
 have hpl:ps.length<=N.length:=by have:=congrArg qGj S.pre;rw[qEo]at this;omega
 obtain⟨h1,tk,rfl,hk⟩:=x.done;have noA:∀b:Addr,b∉(cxOf CX P w K mg base N qual scope f cd A outer s H E).ex:=fun b z=>absurd (show b∈([]:List Addr) from z) (by simp)
 refine⟨⟨e0.mod,S.kind,rfl,rfl,qA8 _,fun y z c h1 h2=>?_,fun y hy=>?_,fun y c _ h=>?_,fun _=>hd,Around.frames_deeper e0.frames,.inr ⟨rfl,rfl⟩,fun b z=>absurd z (noA b),e0.bs,e0.bsz,fun b _ _=>noA b,fun b z=>absurd z (noA b),e0.funs,e0.frf⟩,
  rfl,e0.bare,Un.kept hk,⟨_,x.toInCall.ns,fun i y v h1 h2 h3=>?_⟩,fun y c h=>⟨_,x.cell y c h⟩,e0.hok.fresh (qA8 _),fun y c h=>?_,fun p hp=>absurd (show p∈([]:List (Addr×Obj)) from hp) (by simp),e0.hok.kept hk,?_⟩
 ·exact name_of_addr x.apart (qCf h1) (qCf h2)
 ·have hy:scope.names.lookup y=some .cell\/scope.names.lookup y=some .free:=hy
  rcases hy with hy|hy
  ·exact zMJ hy
  ·exact absurd rfl (S.nofree _ (qCf hy))
 ·exact qCd (x.above y c (qCf h))
 ·have hi:i<vs.length:=by
   unfold start at h2
   by_cases hi:i<vs.length
   ·exact hi
   ·rw[qA7 (by simpa using hi)]at h2;rw[qBw]at h2
    split at h2<;>cases h2
  have ha:vs[i]?=some v:=by
   unfold start at h2;rw[qA6 (by simpa using hi),qAh]at h2;cases e:vs[i]? with
   |none=>rw[e]at h2;cases h2
   |some a=>rw[e]at h2;cases h2;rfl
  obtain⟨u,hu,rv⟩:=r.get ha;have hp:ps[i]?=some y:=by
   rw[<- S.pre,List.getElem?_take_of_lt (by omega)];exact h1
  have ndP:ps.Nodup:=by rw[<- S.pre];exact S.nd.sublist (List.take_sublist _ _)
  refine⟨u,rv,?_⟩
  rcases S.par y (qBc hp)with k|k
  ·exact .inl ⟨k,zJR ndP hp hu k⟩
  ·obtain⟨c,e⟩:=zMJ (n:=s.heap.objs.size+1) k;refine .inr ⟨.inl k,c,e,?_⟩;have q:=x.cell y c e;rw[zJT ndP hp hu (by show scope.names.lookup y≠_;rw[k];decide)]at q;exact q
 ·exact e0.hok.fresh (qCd (x.above y c (qCf h)))
 ·unfold start;show _=N.length;rw[qAr,qAi,qC8];omega
theorem zY5{CX:CXT}{P:qIb}{w:World}{K:qA1}{mg:Str->Option Value}{base:Heap}{k:Nat}{f:Addr}{name qual:Str}{params:Arguments}{body:List Stmt}{scope:Scope}{dV kV doc pm cdv ct oc:Value}{an od:Option Addr}
  {osl:Array (Option Value)} {N ps:List Str} {sp:Sp} (lk:K.lookup f=some ⟨oc,od,.func (qBe name qual params body scope dV kV doc pm an cdv ct),osl⟩) (hcd:qCk K cdv qual=true) (S:FnScope N ps scope)
  (len:∀vs H Q E,sp vs H Q E->vs.length=ps.length)
  (hbody:∀(A:qIc)(outer:List Env)(s:qI8)(H:Hp)(vs:List V)(Q:VK)(E:XK),Room k (A.deeper (envOfC qual scope s.heap.objs.size f cdv))->sp vs H Q E ->
   ∃t,PSs (cxOf CX P w K mg base N qual scope f cdv A outer s H E) body t/\t { nx:=fun _ H'=>Q .non H',rt:=Q } (start N vs) H) :
  FnOk P w K mg base CX (k+1) f (qBe name qual params body scope dV kV doc pm an cdv ct) ps sp:=by
 refine⟨len,fun A outer s H args us vs Q E hr e0 hb r hsp=>?_⟩;have hl:=len _ _ _ _ hsp;have KX:K.In s.heap:=e0.mod.kin.keeps fun b o e=>(e0.bs b o e).1
 have lim:s.heap.NoLimit:=e0.mod.nolimit.keeps fun b o e=>(e0.bs b o e).1
 have hkind:∀y∈ps.zip us,scope.names.lookup y.1=some .local\/(scope.names.lookup y.1=some .cell/\((cellsFrom (s.heap.objs.size+1) scope.names []).lookup y.1).isSome=true):=fun⟨n,v⟩ hy=>by
  rcases S.par n (qD6 hy).1 with q|q
  ·exact .inl q
  ·exact .inr ⟨q,qDd _ _ _ (.inl q)⟩
 refine codeAny_call_function hr.depth (KX _ _ lk) rfl S.co S.gen rfl (PySem.W.codeRec_of KX hcd) (hb _ _ _ _ ?_);refine wpAny_newFunctionEnv_cells S.kind hkind fun env he s1 x=>?_
 subst he;refine⟨lim.keeps x.toInCall.keep,codeAny_func ?_⟩;obtain⟨t,ht,hq⟩:=hbody A outer s H vs Q E (hr.deeper _) hsp;have I:Inv (cxOf CX P w K mg base N qual scope f cdv A outer s H E) [] (start N vs) H s1:=zPI S hr.hd e0 hl r x;refine wpAny_mono (ht [] s1 (start N vs) H _ I hq) (fun fl s' hs=>?_) fun e s' hs=>hs
 have fin:∀{σ':St}{H':Hp}{v:V}{u:Value},Inv (cxOf CX P w K mg base N qual scope f cdv A outer s H E) [] σ' H' s'->RelV v u->Q v H'->CE outer P w H s Q u s':=
  fun{σ' H' v u} J rv q=>⟨v,H',J.os,J.bare,J.base,J.hok,rv,q⟩
 cases fl with
 |ret u=>
  obtain⟨v,σ',H',J,rv,q⟩:=hs;exact fin J rv q
 |next=>
  obtain⟨σ',H',J,q⟩:=hs;exact fin (v:=V.non) (u:=qIj) J rfl q
 |brk=>
  obtain⟨_,_,_,q⟩:=hs;exact qA5 q
 |cont=>
  obtain⟨_,_,_,q⟩:=hs;exact qA5 q
section
variable{X:Cx}{x:Str}{p pos:Pos}{e:Expr}{es:List Expr}{t:TA}{id T:String}{r:List V->Hp->VK->Prop}
noncomputable def tCB(r:List V->Hp->VK->Prop)(t:TA):TE:=fun σ H Q=>t σ H fun vs H1=>r vs H1 Q
theorem zAT(hc:zCN X (.builtin id) r)(hg:Gl X x)(hm:X.mg x=none)(hv:qJm x=some (.builtin id))(ha:PA X (e::es) t)(hn:x≠"__name__":=by decide)(hdb:(x==("__debug__":Str))=false:=by decide)
  (he:starEach (e::es) X.env=(false,eval e X.env)::starEach es X.env:=by rfl) (hpl:(backTo pos (starEach es X.env)).any (·.1)=false:=by rfl):PE X (.Call (.Name x p) (e::es) [] pos) (tCB r t):=by
 intro pins s σ H Q I h;refine qJr (zGM I hg hm hv ?_ hn hdb);exact qG8 (thn (ha pos pins s σ H _ I h) fun us s1 ⟨vs,H1,I1,r1,q1⟩=>hc pins s1 σ H1 vs us Q I1 r1 q1) he hpl
theorem zFL(hc:zCN X (.type T) r)(hg:Gl X x)(hm:X.mg x=none)(hv:qJm x=some (.type T))(ha:PA X (e::es) t)(hn:x≠"__name__":=by decide)(hdb:(x==("__debug__":Str))=false:=by decide)
  (he:starEach (e::es) X.env=(false,eval e X.env)::starEach es X.env:=by rfl) (hpl:(backTo pos (starEach es X.env)).any (·.1)=false:=by rfl):PE X (.Call (.Name x p) (e::es) [] pos) (tCB r t):=by
 intro pins s σ H Q I h;refine qJr (zGM I hg hm hv ?_ hn hdb);exact qC2 (thn (ha pos pins s σ H _ I h) fun us s1 ⟨vs,H1,I1,r1,q1⟩=>hc pins s1 σ H1 vs us Q I1 r1 q1) he hpl
end
section
variable{X:Cx}{K:qA1}
end
end L2
namespace Mi
end Mi
namespace PySem
open Builtin Builtin.Str PySem.Spec
end PySem
namespace PySem
open PyProof.Rows
end PySem
namespace HT
open PySem PyProof.Rows
section
open PySem.SeqAt
open PySem.AutoSeq1 (wpAny_loadPart')
open PySem.MeetsSeq PySem.MeetsSeq2 PySem.MeetsSeq3
end
section
variable{prog:qIb}{w:World}{A:qIc}{E:Value->qI8->Prop}{s:qI8}
noncomputable def sIx(n d:Nat):Option Int->Nat
 |none=>d
 |some v=>if v<0 then(v+(n:Int)).toNat else min v.toNat n
end
end HT
namespace L2
open PySem PySem.Spec PyProof.Rows
abbrev TO:=St->Hp->(Option Int->Hp->Prop)->Prop
def PO(X:Cx)(e:Option Expr)(t:TO):Prop:=
 ∀(pins:List (Addr×Obj))(s:qI8)(σ:St)(H:Hp)(Q:Option Int->Hp->Prop),Inv X pins σ H s->t σ H Q ->
  wpAny (model X.prog X.w) X.A (evalPart e X.env) (fun u s'=>∃o H',Inv X pins σ H' s'/\IsPart u o/\Q o H') X.xe s
noncomputable def zNY:TO:=fun _ H Q=>Q none H
noncomputable def zW6(t:TE):TO:=fun σ H Q=>t σ H fun x H1=>∃i,x=.int i/\Q (some i) H1
section
variable{X:Cx}{e:Expr}{te:TE}{lo hi:Option Expr}{tl th:TO}{pos p2:Pos}
theorem zOF:PO X none zNY:=by
 intro pins s σ H Q I h;rw[evalPart_none];exact wpAny_pure ⟨none,H,I,.none,h⟩
theorem zOE(h:PE X e te):PO X (some e) (zW6 te):=by
 intro pins s σ H Q I hw;rw[evalPart_some];refine thn (h pins s σ H _ I hw) fun u s1 z0=>?_
 obtain⟨x,H1,I1,r1,q1⟩:=z0;obtain⟨i,rfl,q⟩:=q1;obtain⟨t,rfl⟩:=r1;exact⟨some i,H1,I1,.int i t,q⟩
def SlR(X:Cx)(r:V->Option Int->Option Int->Hp->VK->Prop):Prop:=
 ∀(pins:List (Addr×Obj))(s:qI8)(σ:St)(H:Hp)(x:V)(v vl vu:Value)(lo hi:Option Int)(sl:Addr)(Q:VK),Inv X pins σ H s->RelV x v->s.heap.IsSliceOf sl vl vu .none->IsPart vl lo->IsPart vu hi->r x lo hi H Q ->
  ∃T id,typeLookup (.type T) "__getitem__" = pure (some (.builtin id))/\s.TypeIs v T/\wpAny (model X.prog X.w) X.A (getItem v (.ref sl)) (EP X pins σ Q) X.xe s
noncomputable def tSl(r:V->Option Int->Option Int->Hp->VK->Prop)(te:TE)(tl th:TO):TE:=fun σ H Q=>te σ H fun x H1=>tl σ H1 fun l H2=>th σ H2 fun u H3=>r x l u H3 Q
theorem zLW{r:V->Option Int->Option Int->Hp->VK->Prop}(hr:SlR X r)(he:PE X e te)(hl:PO X lo tl)(hu:PO X hi th):PE X (.Subscript e (.Slice lo hi none p2) pos) (tSl r te tl th):=by
 intro pins s σ H Q I h;refine qMd (thn (he pins s σ H _ I h) fun v s1 z0=>?_);obtain⟨x,H1,I1,r1,q1⟩:=z0;refine wpAny_Slice (thn (hl pins s1 σ H1 _ I1 q1) fun vl s2 ⟨l,H2,I2,pl,q2⟩=>thn (hu pins s2 σ H2 _ I2 q2) fun vu s3 ⟨u,H3,I3,pu,q3⟩=>?_);rw[evalPart_none];refine wpAny_pure ?_;have I4:Inv X pins σ H3 { s3 with heap:=s3.heap.push { cls:=.type "slice",data:=.fields #[vl,vu,.none] } }:=I3.kept (t':=s3.toks) fun b ob q=>qI7 _ q
 obtain⟨T,id,hT,ht,hg⟩:=hr pins { s3 with heap:=s3.heap.push { cls:=.type "slice",data:=.fields #[vl,vu,.none] } } σ H3 x v vl vu l u s3.heap.objs.size Q I4 r1 (qMx ..) pl pu q3;show wpAny (model X.prog X.w) X.A (subscriptTail e (.Slice lo hi none p2) v (.ref s3.heap.objs.size)) (EP X pins σ Q) X.xe { s3 with heap:=s3.heap.push { cls:=.type "slice",data:=.fields #[vl,vu,.none] } };exact tail_any (ops:=[.ref s3.heap.objs.size,v]) ht hT hg (by with_unfolding_all rfl)
def cutV(xs:List V)(lo hi:Option Int):List V:=(xs.drop (HT.sIx xs.length 0 lo)).take (HT.sIx xs.length xs.length hi-HT.sIx xs.length 0 lo)
theorem zL2(xs:List V)(lo hi:Option Int):(cutV xs lo hi).length<=xs.length:=by
 unfold cutV;rw[qEo,List.length_drop];omega
end
noncomputable def ixN(n:Nat)(i:Int):Option Nat:=if 0<=i then(if i<n then some i.toNat else none)else if -(n:Int)<=i then some (i+n).toNat else none
def atI{α:Type}(xs:List α)(i:Int):Option α:=(ixN xs.length i).bind fun j=>xs[j]?
theorem zKT{n:Nat}{i:Int}{j:Nat}(h:ixN n i=some j):qM3 i n=some j/\j<n/\-(n:Int)<=i/\i<n:=by
 unfold ixN at h
 by_cases h0:0<=i
 ·rw[if_pos h0]at h
  by_cases h1:i<n
  ·rw[if_pos h1]at h;have e:i.toNat=j:=qB8 h;exact⟨by rw[qM4 h0 h1,e],by omega,by omega,h1⟩
  ·rw[if_neg h1]at h;cases h
 ·rw[if_neg h0]at h
  by_cases h1:-(n:Int)<=i
  ·rw[if_pos h1]at h;have e:(i+n).toNat=j:=qB8 h;exact⟨by rw[qLv (by omega) h1,e],by omega,h1,by omega⟩
  ·rw[if_neg h1]at h;cases h
theorem zL9{α:Type}{xs:List α}{i:Int}{v:α}(h:atI xs i=some v):∃j,qM3 i xs.length=some j/\xs[j]?=some v/\j<xs.length/\-(xs.length:Int)<=i/\i<xs.length:=by
 unfold atI at h;cases e:ixN xs.length i with
 |none=>rw[e]at h;cases h
 |some j=>
  rw[e]at h;obtain⟨h1,h2,h3,h4⟩:=zKT e;exact⟨j,h1,h,h2,h3,h4⟩
def zVN(b:Expr):Prop:=∀o i,subscripted b false o i=operate [o,i] (getItem o i)
def IxR(X:Cx)(r:R2):Prop:=
 ∀(value slice:Expr)(pins:List (Addr×Obj))(s:qI8)(σ:St)(H:Hp)(x y:V)(v u:Value)(Q:VK),Inv X pins σ H s->RelV x v->RelV y u->r x y H Q ->
  subscripted slice false v u=operate [v,u] (getItem v u)->wpAny (model X.prog X.w) X.A (subscriptTail value slice v u) (EP X pins σ Q) X.xe s
def MtR(X:Cx)(id:String)(r:V->List V->Hp->VK->Prop):Prop:=
 ∀(pins:List (Addr×Obj))(s:qI8)(σ:St)(H:Hp)(x:V)(xs:List V)(v:Value)(us:List Value)(Q:VK),Inv X pins σ H s->RelV x v->Vals xs us->r x xs H Q ->
  wpAny (model X.prog X.w) X.A (call (.builtin id) (v::us)) (EP X pins σ Q) X.xe s
section
variable{X:Cx}{a b:Expr}{ta tb:TE}{pos:Pos}
theorem zD7{r:R2}(hr:IxR X r)(ha:PE X a ta)(hb:PE X b tb)(hs:zVN b):PE X (.Subscript a b pos) (tOp r ta tb):=by
 intro pins s σ H Q I h;exact qMd (binT ha hb I h fun v u s2 x y H2 I2 rx ry q=>hr a b pins s2 σ H2 x y v u Q I2 rx ry q (hs _ _))
def rIxL(K:qA1):R2:=fun x y H Q=>∃p xs i v,x=.ref p/\y=.int i/\SqL K H p xs/\atI xs i=some v/\Q v H
def rIxT(K:qA1):R2:=fun x y H Q=>∃p xs i v,x=.ref p/\y=.int i/\SqT K H p xs/\atI xs i=some v/\Q v H
def rIxS:R2:=fun x y H Q=>∃z i c,x=.str z/\y=.int i/\z.length<=sizeLine/\atI z.cps.toList i=some c/\Q (.str ⟨#[c]⟩) H
theorem zUW:IxR X (rIxL X.K):=by
 intro value slice pins s σ H x y v u Q I rx ry h hs;obtain⟨p,xs,i,z,rfl,rfl,hq,he,q⟩:=h;cases rx;obtain⟨t,rfl⟩:=ry;obtain⟨its,r,pl,hz⟩:=I.list hq;obtain⟨j,h1,h2,h3,h4,h5⟩:=zL9 he;obtain⟨w,ew,rw'⟩:=r.get h2;have hl:=r.length;have hn:=zFS;have fin:EP X pins σ Q w s:=⟨z,H,I,rw',q⟩
 by_cases h0:0<=i
 ·have hj:i.toNat=j:=by
   rw[qM4 h0 h5]at h1;exact qB8 h1
  exact item_listR pl.isList h0 (by omega) (by rw[hj];simpa using ew) fin hs
 ·have hj:(i+(its.toArray.size:Int)).toNat=j:=by
   rw[qLv (by omega) h4]at h1;rw[qAd,<- hl];exact qB8 h1
  exact qKq (x:=w) pl.isList.typeIs qLn.lookup
   (wpAny_getItem_list_neg (Q:=fun r s'=>r=w/\EP X pins σ Q r s') pl.isList (by omega) (by rw[qAd]<;>omega) (by omega) (by rw[hj];simpa using ew) ⟨rfl,fin⟩) hs
theorem zXU:IxR X (rIxT X.K):=by
 intro value slice pins s σ H x y v u Q I rx ry h hs;obtain⟨p,xs,i,z,rfl,rfl,hq,he,q⟩:=h;cases rx;obtain⟨t,rfl⟩:=ry;obtain⟨its,r,pl,hz⟩:=I.tuple hq;obtain⟨j,h1,h2,h3,h4,h5⟩:=zL9 he;obtain⟨w,ew,rw'⟩:=r.get h2;have hl:=r.length;have hn:=zFS;have fin:EP X pins σ Q w s:=⟨z,H,I,rw',q⟩
 exact qKq (x:=w) pl.typeIs slot_tuple_getitem.lookup
  (getItem_tuple (j:=j) (Q:=fun r s'=>r=w/\EP X pins σ Q r s') pl (by omega) (by omega) (by rw[qAd,<- hl];exact h1) (by simpa using ew) ⟨rfl,fin⟩) hs
theorem zXV:IxR X rIxS:=by
 intro value slice pins s σ H x y v u Q I rx ry h hs;obtain⟨z,i,c,rfl,rfl,hz,he,q⟩:=h;obtain⟨t,rfl⟩:=rx;obtain⟨t',rfl⟩:=ry;obtain⟨j,h1,h2,h3,h4,h5⟩:=zL9 he;have hl:z.cps.toList.length=z.length:=by simp[qLo]
 rw[hl]at h1 h4 h5;have hn:=zFS;exact tail_any (typeIs_str s z t) slot_str_getitem.lookup (getItem_str (c:=c) (by
  have e1:decide (i < -(2 ^ 63:Int))=false:=decide_eq_false (by omega);have e2:decide (i>=2 ^ 63)=false:=decide_eq_false (by omega);rw[e1,e2,qFm]) (by rw[h1];simpa using h2) ⟨.str ⟨#[c]⟩,H,I.tok _,⟨_,rfl⟩,q⟩) hs
theorem zN5(its:List Value)(n j:Nat)(u:Value):qJo (·.setIfInBounds j u) { cls:=.type "list",data:=.seq its.toArray n }={ cls:=.type "list",data:=.seq (its.set j u).toArray n }:=by
 simp[qJo]
theorem Inv.lst{pins:List (Addr×Obj)}{σ:St}{H:Hp}{s:qI8}{p:Addr}{xs:List V}(I:Inv X pins σ H s)(h:H p=some (.lst xs)) :
  ∃(its:List Value)(n:Nat),Vals xs its/\s.heap.get? p=some { cls:=.type "list",data:=.seq its.toArray n }/\xs.length<=sizeLine:=by
 obtain⟨z,its,n,r,e⟩:=I.hok p _ h;exact⟨its,n,r,e,z⟩
theorem Inv.lstUpd{pins:List (Addr×Obj)}{σ:St}{H:Hp}{s:qI8}{p:Addr}{xs ys:List V}{its its':List Value}{n n':Nat}{f:Obj->Obj}(I:Inv X pins σ H s)(h:H p=some (.lst xs))
  (ho:s.heap.get? p=some { cls:=.type "list",data:=.seq its.toArray n }) (hf:f { cls:=.type "list",data:=.seq its.toArray n }={ cls:=.type "list",data:=.seq its'.toArray n' }) (r:Vals ys its') (hz:ys.length<=sizeLine) (t:Nat) :
  Inv X pins σ (upd H p (.lst ys)) { s with heap:=s.heap.update p f,toks:=t }:=by
 have e:(s.heap.update p f).get? p=some { cls:=.type "list",data:=.seq its'.toArray n' }:=by
  rw[qIe f ho (by rw[hf]<;>rfl),hf]
 refine I.write (x:=p) (e:=p) (by rw[h];trivial) (.inl rfl) (fun b u hb q=>(qId _ _ (qCe hb)).trans q) ⟨_,e⟩ ?_;exact⟨hz,its',n',r,e⟩
def zZK:V->V->V->Hp->(Hp->Prop)->Prop:=fun o i v H Q=>∃p xs k j,o=.ref p/\i=.int k/\H p=some (.lst xs)/\ixN xs.length k=some j/\Q (upd H p (.lst (xs.set j v)))
theorem zQV:PSet X zZK:=by
 intro pins s σ H o i v ov iv u Q I ro ri rv h;obtain⟨p,xs,k,j,rfl,rfl,hp,hj,q⟩:=h;cases ro;obtain⟨t,rfl⟩:=ri;obtain⟨its,n,r,ho,hz⟩:=I.lst hp;obtain⟨h1,h2,h3,h4⟩:=zKT hj;have hl:=r.length;have hn:=zFS;have I':Inv X pins σ (upd H p (.lst (xs.set j v))) { s with heap:=s.heap.update p (qJo (·.setIfInBounds j u)) }:=
  I.lstUpd hp ho (zN5 its n j u) (r.set rv j) (by rw[qDy];exact hz) s.toks
 by_cases h0:0<=k
 ·have hk:k.toNat=j:=by
   rw[qM4 h0 h4]at h1;exact qB8 h1
  exact PySem.W.ki_setAt ho h0 (by omega) (by rw[qAd,<- hl];exact h4) (by rw[hk];exact⟨_,I',q⟩)
 ·have hk:(k+(its.toArray.size:Int)).toNat=j:=by
   rw[qLv (by omega) h3]at h1;rw[qAd,<- hl];exact qB8 h1
  exact PySem.W.ki_setBack ho (by omega) (by rw[qAd,<- hl];exact h3) (by omega) (by rw[hk];exact⟨_,I',q⟩)
theorem zIG(lo hi:Option Int)(n:Nat):(sliceBounds lo hi none n).1=((HT.sIx n 0 lo:Nat):Int)/\(sliceBounds lo hi none n).2.1=((HT.sIx n n hi:Nat):Int)/\(sliceBounds lo hi none n).2.2=1:=by
 refine⟨?_,?_,rfl⟩
 ·cases lo with
  |none=>simp[sliceBounds,HT.sIx]
  |some i=>
   simp only[sliceBounds,HT.sIx,qGd,show(1:Int)>0 by decide,if_true]
   by_cases h:i<0
   ·simp only[h,if_true]<;>omega
   ·simp only[h,if_false]<;>omega
 ·cases hi with
  |none=>simp[sliceBounds,HT.sIx]
  |some i=>
   simp only[sliceBounds,HT.sIx,qGd,show(1:Int)>0 by decide,if_true]
   by_cases h:i<0
   ·simp only[h,if_true]<;>omega
   ·simp only[h,if_false]<;>omega
theorem zH3(its:List Value)(lo hi:Option Int):slicePick its.toArray lo hi none=((its.drop (HT.sIx its.length 0 lo)).take (HT.sIx its.length its.length hi-HT.sIx its.length 0 lo)).toArray:=by
 obtain⟨h1,h2,h3⟩:=zIG lo hi its.toArray.size;unfold slicePick;rw[h1,h2,h3];simp only[sliceRange_one,pick_run,qAd]<;>rfl
def rSlL(K:qA1):V->Option Int->Option Int->Hp->VK->Prop:=fun x lo hi H Q=>∃a xs,x=.ref a/\SqL K H a xs/\∀p,H p=none->Q (.ref p) (upd H p (.lst (cutV xs lo hi)))
theorem zTZ:SlR X (rSlL X.K):=by
 intro pins s σ H x v vl vu lo hi sl Q I rx hs pl pu h;obtain⟨a,xs,rfl,hx,q⟩:=h;cases rx;obtain⟨its,r,ht,hz⟩:=I.list hx;have hlen:=r.length;refine⟨"list",_,qLn.lookup,ht.isList.typeIs,?_⟩;refine wpAny_getItem_list_slice ht.isList hs pl pu .none (by simp) ?_ (by rw[qAd]<;>omega);rw[zH3,<- hlen];refine⟨.ref s.heap.objs.size,_,I.laid (t':=s.toks) (o:=.lst (cutV xs lo hi)) (fun b ob q=>qI7 _ q) (qA8 _) ?_,rfl,q _ (I.hok.fresh (qA8 _))⟩;exact⟨qAl (zL2 xs lo hi) hz,_,0,(r.drop (HT.sIx xs.length 0 lo)).take (HT.sIx xs.length xs.length hi-HT.sIx xs.length 0 lo),qIa _ rfl⟩
noncomputable def zEG:V->Bool
 |.non=>true
 |.bl _=>true
 |.int _=>true
 |.str _=>true
 |_=>false
noncomputable def eqV:V->V->Bool
 |.non,.non=>true
 |.bl a,.bl b=>a==b
 |.bl a,.int b=>(if a then 1 else 0)==b
 |.int a,.bl b=>a==(if b then 1 else 0)
 |.int a,.int b=>a==b
 |.str a,.str b=>a==b
 |_,_=>false
theorem zTE{A:qIc}{s:qI8}{y x:V}{u v:Value}(ry:RelV y u)(rx:RelV x v)(fy:zEG y=true)(fx:zEG x=true):qK5 A s u v (eqV y x):=by
 cases y with
 |non=>
  cases ry;cases x with
  |non=>cases rx;exact qK6 _
  |bl b=>cases rx;exact qKy b
  |int b=>obtain⟨t,rfl⟩:=rx;exact qL3 b t
  |str b=>obtain⟨t,rfl⟩:=rx;exact qL4 b t
  |_=>exact absurd (show false=true from fx) qAc
 |bl a=>
  cases ry;cases x with
  |non=>cases rx;exact qKz a
  |bl b=>cases rx;exact qL0 a b
  |int b=>obtain⟨t,rfl⟩:=rx;exact qL5 a b t
  |str b=>obtain⟨t,rfl⟩:=rx;exact qL6 a b t
  |_=>exact absurd (show false=true from fx) qAc
 |int a=>
  obtain⟨t',rfl⟩:=ry;cases x with
  |non=>cases rx;exact qL7 a t'
  |bl b=>cases rx;exact qL8 a t' b
  |int b=>obtain⟨t,rfl⟩:=rx;exact SeqAt.EqAt.int_int a t' b t
  |str b=>obtain⟨t,rfl⟩:=rx;exact qKd a t' b t
  |_=>exact absurd (show false=true from fx) qAc
 |str a=>
  obtain⟨t',rfl⟩:=ry;cases x with
  |non=>cases rx;exact qL9 a t'
  |bl b=>cases rx;exact qLa a t' b
  |int b=>obtain⟨t,rfl⟩:=rx;exact qKe a t' b t
  |str b=>obtain⟨t,rfl⟩:=rx;exact SeqAt.EqAt.str_str a t' b t
  |_=>exact absurd (show false=true from fx) qAc
 |_=>exact absurd (show false=true from fy) qAc
def eqU(x:V)(u:Value):Bool:=match u with
 |.none=>eqV .non x
 |.bool b=>eqV (.bl b) x
 |.int i _=>eqV (.int i) x
 |.str z _=>eqV (.str z) x
 |_=>false
theorem zTD{x y:V}{u:Value}(r:RelV y u)(f:zEG y=true):eqU x u=eqV y x:=by
 cases y with
 |non=>cases r;rfl
 |bl b=>cases r;rfl
 |int i=>obtain⟨t,rfl⟩:=r;rfl
 |str z=>obtain⟨t,rfl⟩:=r;rfl
 |_=>exact absurd (show false=true from f) qAc
theorem zLA{x:V}:∀{xs:List V}{us:List Value},Vals xs us->xs.all zEG=true->us.any (eqU x)=xs.any fun y=>eqV y x
 |_,_,.nil,_=>rfl
 |y::xs,u::us,.cons r t,f=>by
  rw[qD7,qBd]at f;rw[qCg,qCg,zTD r f.1,zLA t f.2]
theorem zHJ{A:qIc}{s:qI8}{x:V}{v:Value}(rx:RelV x v)(fx:zEG x=true):∀{xs:List V}{us:List Value},Vals xs us->xs.all zEG=true->∀u∈us,qK5 A s u v (eqU x u)
 |_,_,.nil,_=>fun u hu=>by cases hu
 |y::xs,u::us,.cons r t,f=>fun u' hu=>by
  rw[qD7,qBd]at f
  rcases qAb.mp hu with rfl|hu
  ·rw[zTD r f.1];exact zTE r rx f.1 fx
  ·exact zHJ rx fx t f.2 u' hu
def inV(x:V)(xs:List V):Bool:=xs.any fun y=>eqV y x
def rIn(K:qA1)(neg:Bool):R2:=fun x y H Q=>∃p xs,y=.ref p/\(SqL K H p xs\/SqT K H p xs)/\zEG x=true/\xs.all zEG=true/\Q (.bl (if neg then !inV x xs else inV x xs)) H
theorem zIW:OpR X (compareOp .NotIn) (rIn X.K true):=by
 intro pins s σ H x y v u Q I rx ry h;obtain⟨p,xs,rfl,hq,fx,fs,q⟩:=h;cases ry
 rcases hq with hq|hq
 ·obtain⟨its,r,pl,hz⟩:=I.list hq;refine SeqAt.notIn_listAt (eqU x) pl.isList (fun w hw=>zHJ rx fx r fs w (by simpa using hw)) ⟨.bl _,H,I,rfl,?_⟩;rw[show its.toArray.any (eqU x)=its.any (eqU x) by simp,zLA r fs];exact q
 ·obtain⟨its,r,pl,hz⟩:=I.tuple hq;refine SeqAt.notIn_tupleAt (eqU x) pl (fun w hw=>zHJ rx fx r fs w (by simpa using hw)) ⟨.bl _,H,I,rfl,?_⟩;rw[show its.toArray.any (eqU x)=its.any (eqU x) by simp,zLA r fs];exact q
theorem zIV:OpR X (compareOp .NotIn) (fun x y H Q=>∃i j,x=.str i/\y=.str j/\Q (.bl (!(!(qJ3 j i 0 j.length 1).isEmpty))) H):=by
 intro pins s σ H x y v u Q I rx ry h;obtain⟨i,j,rfl,rfl,q⟩:=h;obtain⟨t,rfl⟩:=rx;obtain⟨t',rfl⟩:=ry;exact notIn_str ⟨.bl _,H,I,rfl,q⟩
theorem zJN:zCN X (.builtin "len") (fun xs H Q=>∃p ys,xs=[.ref p]/\(SqL X.K H p ys\/SqT X.K H p ys)/\Q (.int ys.length) H):=by
 intro pins s σ H xs us Q I r h;obtain⟨p,ys,rfl,hq,q⟩:=h;obtain⟨u,rfl,rx⟩:=zCO r;cases rx;have hn:=zFS
 rcases hq with hq|hq
 ·obtain⟨its,r',pl,hz⟩:=I.list hq;have hlen:=r'.length;exact Calls.call_len_list pl.isList (by simp only[qAd]<;>omega) ⟨.int ys.length,H,I.tok _,⟨s.toks+1,by rw[qAd,hlen]⟩,q⟩
 ·obtain⟨its,r',pl,hz⟩:=I.tuple hq;have hlen:=r'.length;exact len_tuple pl (by simp only[qAd]<;>omega) ⟨.int ys.length,H,I.tok _,⟨s.toks+1,by rw[qAd,hlen]⟩,q⟩
theorem zJM:zCN X (.builtin "len") (fun xs H Q=>∃z,xs=[.str z]/\z.length<=sizeLine/\Q (.int z.length) H):=by
 intro pins s σ H xs us Q I r h;obtain⟨z,rfl,hz,q⟩:=h;obtain⟨u,rfl,t,rfl⟩:=zCO r;have hn:=zFS;exact len_str (by omega) ⟨.int z.length,H,I.tok _,⟨_,rfl⟩,q⟩
theorem zJL:zCN X (.type "list") (fun xs H Q=>∃p ys,xs=[.ref p]/\(SqL X.K H p ys\/SqT X.K H p ys)/\∀l,H l=none->Q (.ref l) (upd H l (.lst ys))):=by
 intro pins s σ H xs us Q I r h;obtain⟨p,ys,rfl,hq,q⟩:=h;obtain⟨u,rfl,rx⟩:=zCO r;cases rx;have fin:∀(its:List Value),Vals ys its->ys.length<=sizeLine->∀(h':Heap)(c':Nat),(∀b o',s.heap.get? b=some o'->h'.get? b=some o') ->
   h'.get? s.heap.objs.size=some { cls:=.type "list",dict:=none,data:=.seq its.toArray c',slots:=#[] }->EP X pins σ Q (.ref s.heap.objs.size) { s with heap:=h' }:=fun its r' hz h' c' kp e=>
  ⟨.ref s.heap.objs.size,_,I.laid (t':=s.toks) kp (qA8 _) (show ObjOk X.prog X.w _ h' _ (.lst ys) from⟨hz,its,c',r',e⟩),rfl,q _ (I.hok.fresh (qA8 _))⟩
 rcases hq with hq|hq
 ·obtain⟨its,r',pl,hz⟩:=I.list hq;have hlen:=r'.length;obtain⟨o,ho,hc,n,hd⟩:=pl.isList;exact call_list_seq p (.inl rfl) ho hc hd (fun h' c' kp e=>fin its r' hz h' c' kp e) (by simp only[qAd]<;>omega)
 ·obtain⟨its,r',pl,hz⟩:=I.tuple hq;have hlen:=r'.length;obtain⟨o,ho,hc,n,hd⟩:=pl;exact call_list_seq p (.inr rfl) ho hc hd (fun h' c' kp e=>fin its r' hz h' c' kp e) (by simp only[qAd]<;>omega)
def tyV(K:qA1)(T:String)(x:V)(H:Hp):Prop:=match x with
 |.str _=>T = "str"
 |.int _=>T = "int"
 |.ref p=>(T = "list"/\∃xs,SqL K H p xs)\/(T = "tuple"/\∃o,K.lookup p=some o/\o.cls=.type "tuple"/\o.dict=none) \/
   (T = "dict"/\((∃kvs,H p=some (.dK kvs))\/∃T e0 kvs,H p=some (.dT T e0 kvs)))\/(T = "set"/\∃S n,H p=some (.set S n))
 |_=>False
theorem zSF{pins:List (Addr×Obj)}{σ:St}{H:Hp}{s:qI8}{T:String}{x:V}{v:Value}(I:Inv X pins σ H s)(r:RelV x v)(ty:tyV X.K T x H) :
  s.TypeIs v T/\∀a,v=.ref a->∃ob,s.heap.get? a=some ob/\ob.dict=none:=by
 cases x with
 |str z=>
  obtain⟨t,rfl⟩:=r
  cases(show T = "str" from ty)
  exact⟨typeIs_str s z t,fun _ e=>nomatch e⟩
 |int i=>
  obtain⟨t,rfl⟩:=r
  cases(show T = "int" from ty)
  exact⟨typeIs_int s i t,fun _ e=>nomatch e⟩
 |ref p=>
  cases r
  rcases ty with⟨rfl,xs,hq⟩|⟨rfl,o,hk,hc,hd⟩|⟨rfl,hk⟩|⟨rfl,S,n,hk⟩
  ·obtain⟨its,_,pl,_⟩:=I.list hq;refine⟨pl.isList.typeIs,fun a e=>?_⟩;cases e;obtain⟨o,n,e,c,hd,_⟩:=pl;exact⟨o,e,hd⟩
  ·refine⟨⟨o,I.kIn p o hk,hc⟩,fun a e=>?_⟩;cases e;exact⟨o,I.kIn _ o hk,hd⟩
  ·have z:∃o,s.heap.get? p=some o/\o.ExactDict:=by
    rcases hk with⟨kvs,hk⟩|⟨_,_,kvs,hk⟩
    ·obtain⟨_,_,_,_,o,_,_,e,ex,_⟩:=I.hok p _ hk;exact⟨o,e,ex⟩
    ·obtain⟨_,_,_,_,o,_,_,e,ex,_⟩:=I.hok p _ hk;exact⟨o,e,ex⟩
   obtain⟨o,e,ex⟩:=z;refine⟨⟨o,e,ex.1⟩,fun a e2=>?_⟩;cases e2;exact⟨o,e,ex.2.1⟩
  ·obtain⟨o,_,_,_,e,ex,_⟩:=I.hok p _ hk;refine⟨⟨o,e,ex.1⟩,fun a e2=>?_⟩;cases e2;exact⟨o,e,ex.2.1⟩
 |_=>exact qA5 ty
noncomputable def tBM(K:qA1)(T:String)(r:V->List V->Hp->VK->Prop)(to:TE)(t:TA):TE:=fun σ H Q=>to σ H fun x H1=>tyV K T x H1/\t σ H1 fun xs H2=>r x xs H2 Q
variable{o e:Expr}{es:List Expr}{to:TE}{t:TA}{name:Str}{apos cpos:Pos}{T id:String}{r:V->List V->Hp->VK->Prop}
theorem zHE(pa:qMe T)(slot:Slot T name id)(hty:typeOf (.builtin id)=pure (.type "method_descriptor"))(hm:MtR X id r)(ho:PE X o to)(ha:PA X (e::es) t)
  (hbase:qLh o name X.env (eval o X.env)=eval o X.env:=by rfl)
  (hfew:((backTo cpos (starEach (e::es) X.env)).all (fun x=>!x.1)&&(backToKw cpos (keywordEach [] X.env)).all (fun x=>x.1.isSome)
   && decide ((e::es).length+([]:List qLm).length+(if([]:List qLm).isEmpty then 0 else 1)<30))=true:=by rfl)
  (hline:(apos.endLine==cpos.line)=true:=by rfl) (hs:starEach (e::es) X.env=(false,eval e X.env)::starEach es X.env:=by rfl) (hplain:(backTo cpos (starEach es X.env)).any (·.1)=false:=by rfl) :
  PE X (.Call (.Attribute o name apos) (e::es) [] cpos) (tBM X.K T r to t):=by
 intro pins s σ H Q I h;refine qJt hbase hfew hline rfl (thn (ho pins s σ H _ I h) fun v s1 z0=>?_);obtain⟨x,H1,I1,r1,ty,q1⟩:=z0;obtain⟨h1,h2⟩:=zSF I1 r1 ty;refine⟨T,id,pa,slot,hty,h1,h2,?_⟩;have hA:=ha cpos pins s1 σ H1 _ I1 q1;rw[hs]at hA ⊢;refine qJu (by show(false||(backTo cpos (starEach es X.env)).any (·.1))=false;rw[hplain]<;>rfl) (qK2 ?_);exact thn hA fun us s2 ⟨vs,H2,I2,r2,q2⟩=>hm pins s2 σ H2 x vs v us Q I2 r1 r2 q2
end
def MtM(X:Cx)(id:String)(r:V->List V->Hp->VK->Prop):Prop:=
 ∀(pins:List (Addr×Obj))(s:qI8)(σ:St)(H:Hp)(x:V)(xs:List V)(v:Value)(us:List Value)(Q:VK),Inv X pins σ H s->RelV x v->Vals xs us->r x xs H Q ->
  wpAny (model X.prog X.w) X.A (call (.builtin id) (v::us)) (EP X pins σ Q) X.xe s
theorem Vals.one:∀{x:V}{us:List Value},Vals [x] us->∃u,us=[u]/\RelV x u
 |_,_,.cons r .nil=>⟨_,rfl,r⟩
theorem Vals.zero:∀{us:List Value},Vals [] us->us=[]
 |_,.nil=>rfl
theorem Vals.dropLast{xs:List V}{us:List Value}(h:Vals xs us):Vals xs.dropLast us.dropLast:=by
 induction h with
 |nil=>exact .nil
 |cons r t ih=>
  cases t with
  |nil=>exact .nil
  |cons q t'=>exact .cons r ih
theorem Vals.eraseIdx:∀{xs:List V}{us:List Value}(i:Nat),Vals xs us->Vals (xs.eraseIdx i) (us.eraseIdx i)
 |_,_,_,.nil=>.nil
 |_,_,0,.cons _ t=>t
 |_,_,i+1,.cons r t=>.cons r (Vals.eraseIdx i t)
theorem Vals.rep{xs:List V}{us:List Value}(h:Vals xs us):∀k:Nat,Vals (qAa k xs).flatten (qAa k us).flatten
 |0=>.nil
 |k+1=>by
  rw[qBj,qBj,qAv,qAv];exact Vals.append h (Vals.rep h k)
theorem zNE{α:Type}(l:List α):l.eraseIdx (l.length-1)=l.dropLast:=by
 induction l with
 |nil=>rfl
 |cons a r ih=>
  cases r with
  |nil=>rfl
  |cons b r=>
   have e:(a::b::r).length-1=((b::r).length-1)+1:=by
    have h1:(a::b::r).length=r.length+2:=rfl;have h2:(b::r).length=r.length+1:=rfl;omega
   rw[e,qD8,ih]
   all_goals rfl
theorem zFT{α:Type}:∀(l:List α)(i:Nat),(l.eraseIdx i).length<=l.length
 |[],_=>qA8 _
 |_::_,0=>qC3 _
 |_::r,i+1=>qGe (zFT r i)
theorem zJF(its:List Value):∀(k:Nat)(acc:List Value),
  qHk (fun x1 x2=>x1++x2) acc.toArray (qAa k its.toArray)=(acc++(qAa k its).flatten).toArray
 |0,acc=>by simp
 |k+1,acc=>by
  have e:acc.toArray++its.toArray=(acc++its).toArray:=by simp
  have e2:(acc++its)++(qAa k its).flatten=acc++(qAa (k+1) its).flatten:=by
   rw[qBj,qAv,qBl]
  rw[<- e2,<- zJF its k (acc++its),<- e,qBj,qD9]
section
variable{X:Cx}{pins:List (Addr×Obj)}{σ:St}{H:Hp}{s:qI8}{l b:Addr}{xs ys zs:List V}
theorem Inv.lset{its its':List Value}{n:Nat}{f:Array Value->Array Value}{t':Nat}(I:Inv X pins σ H s)(hH:H l=some (.lst xs))
  (e:s.heap.get? l=some { cls:=.type "list",data:=.seq its.toArray n }) (hf:f its.toArray=its'.toArray) (hv:Vals ys its') (hz:ys.length<=sizeLine) :
  Inv X pins σ (upd H l (.lst ys)) { s with heap:=s.heap.update l (qJo f),toks:=t' }:=by
 have q:=PySem.IsL.update e f;rw[hf]at q;refine I.write (x:=l) (e:=l) (by rw[hH];exact trivial) (.inl rfl) (fun b' u hb hu=>(qId s.heap (qJo f) (qCe hb)).trans hu) ⟨_,q⟩ ?_;exact⟨hz,its',_,hv,q⟩
theorem Inv.lnew{its:List Value}{t':Nat}(I:Inv X pins σ H s)(hv:Vals ys its)(hz:ys.length<=sizeLine) :
  Inv X pins σ (upd H s.heap.objs.size (.lst ys)) { s with heap:=s.heap.push { cls:=.type "list",data:=.seq its.toArray },toks:=t' }:=
 I.laid (fun _ _ q=>qI7 _ q) (qA8 _) ⟨hz,its,0,hv,qIa _ rfl⟩
theorem Inv.fresh(I:Inv X pins σ H s):H s.heap.objs.size=none:=I.hok.fresh (qA8 _)
theorem Inv.lstM(I:Inv X pins σ H s)(hH:H l=some (.lst xs)):xs.length<=sizeLine/\∃(its:List Value)(n:Nat),Vals xs its/\xs.length=its.length/\s.heap.get? l=some { cls:=.type "list",data:=.seq its.toArray n }:=by
 obtain⟨z,its,n,r,e⟩:=I.hok l _ hH;exact⟨z,its,n,r,r.length,e⟩
theorem zM0{n:Nat}(h:n<=sizeLine):qJ1 n=false:=by
 unfold qJ1;exact decide_eq_false (by omega)
end
section
variable{X:Cx}
def zU6:V->List V->Hp->VK->Prop:=fun x vs H Q=>∃l xs y,x=.ref l/\vs=[y]/\H l=some (.lst xs)/\xs.length<sizeLine/\Q .non (upd H l (.lst (xs++[y])))
theorem zP1:MtM X "list.append" zU6:=by
 intro pins s σ H x vs v us Q I rx rv h;obtain⟨l,xs,y,rfl,rfl,hH,hz,q⟩:=h;cases rx;obtain⟨u,rfl,ru⟩:=rv.one;obtain⟨z,its,n,r,hl,e⟩:=I.lstM hH;refine call_meets F.slot_list_append ⟨_,e,rfl⟩ F.entry_list_append (F.args_list_append_2 _ _) (PySem.list_append l its.toArray n u (by rw[qAd];omega)) ⟨e,?_⟩;refine⟨.non,_,I.lset (its':=its++[u]) hH e (by simp) (r.append (.cons ru .nil)) ?_,rfl,q⟩;rw[qAr,qDl];omega
def zU4:V->List V->Hp->VK->Prop:=fun x vs H Q=>∃l b xs zs,x=.ref l/\vs=[.ref b]/\H l=some (.lst xs)/\H b=some (.lst zs)/\xs.length+zs.length<=sizeLine/\Q .non (upd H l (.lst (xs++zs)))
theorem zP0:MtM X "list.extend" zU4:=by
 intro pins s σ H x vs v us Q I rx rv h;obtain⟨l,b,xs,zs,rfl,rfl,hH,hB,hz,q⟩:=h;cases rx;obtain⟨u,rfl,ru⟩:=rv.one;cases ru;obtain⟨z,its,n,r,hl,e⟩:=I.lstM hH;obtain⟨z2,its2,n2,r2,hl2,e2⟩:=I.lstM hB;have hsz:its.toArray.size+its2.toArray.size<=sizeLine:=by rw[qAd,qAd];omega
 have hlong:¬(!its.toArray.isEmpty&&qJ1 (its.toArray.size+its2.toArray.size))=true:=by
  rw[zM0 hsz,qCx];exact qAc
 refine call_meets F.slot_list_extend ⟨_,e,rfl⟩ F.entry_list_extend (F.args_list_extend_2 _ _)
  (AutoSeq1.list_extend_list_list_0 l its.toArray n b its2.toArray n2 hlong (by rw[qAd];omega) (by omega)) ⟨e,e2,?_⟩
 refine⟨.non,_,I.lset (its':=its++its2) hH e (by simp) (r.append r2) ?_,rfl,q⟩;rw[qAr];omega
def rPop:V->List V->Hp->VK->Prop:=fun x vs H Q=>∃l xs y,x=.ref l/\vs=[]/\H l=some (.lst xs)/\xs[xs.length-1]?=some y/\Q y (upd H l (.lst xs.dropLast))
theorem zXO:MtM X "list.pop" rPop:=by
 intro pins s σ H x vs v us Q I rx rv h;obtain⟨l,xs,y,rfl,rfl,hH,hy,q⟩:=h;cases rx;have hus:=rv.zero;subst hus;obtain⟨z,its,n,r,hl,e⟩:=I.lstM hH;obtain⟨u,hu,ru⟩:=r.get hy;have hy':its.toArray[its.toArray.size-1]?=some u:=by
  show its.toArray[its.length-1]?=some u;rw[<- qB7,<- hl];exact hu
 refine call_meets qM5 ⟨_,e,rfl⟩ qLy (F.args_list_pop_1 _) (MeetsSeq.list_pop_last l its.toArray n u hy' (by rw[qAd];omega)) ⟨e,?_⟩;refine⟨y,_,I.lset (its':=its.dropLast) hH e ?_ r.dropLast ?_,ru,q⟩
 ·show its.toArray.eraseIdxIfInBounds (its.toArray.size-1)=its.dropLast.toArray;rw[qAd,qDi,zNE]
 ·rw[List.length_dropLast];omega
def zWQ:V->List V->Hp->VK->Prop:=fun x vs H Q=>∃l xs i k y,x=.ref l/\vs=[.int i]/\H l=some (.lst xs)/\-(2 ^ 63)<=i/\i<2 ^ 63/\qM3 i xs.length=some k/\xs[k]?=some y/\Q y (upd H l (.lst (xs.eraseIdx k)))
theorem zRK:MtM X "list.pop" zWQ:=by
 intro pins s σ H x vs v us Q I rx rv h;obtain⟨l,xs,i,k,y,rfl,rfl,hH,h1,h2,hk,hy,q⟩:=h;cases rx;obtain⟨u,rfl,ru⟩:=rv.one;obtain⟨t,rfl⟩:=ru;obtain⟨z,its,n,r,hl,e⟩:=I.lstM hH;obtain⟨w,hw,rw'⟩:=r.get hy;refine call_meets qM5 ⟨_,e,rfl⟩ qLy (F.args_list_pop_2 _ _)
  (MeetsSeq.list_pop_at l its.toArray n i t k w (fitsIndex_both h1 h2) (by rw[qAd,<- hl];exact hk) (by rw[<- qB7];exact hw) (by rw[qAd];omega)) ⟨e,?_⟩
 refine⟨y,_,I.lset (its':=its.eraseIdx k) hH e ?_ (r.eraseIdx k) ?_,rw',q⟩
 ·show its.toArray.eraseIdxIfInBounds k=(its.eraseIdx k).toArray;rw[qDi]
 ·have:=zFT xs k
  omega
def rCat:R2:=fun x y H Q=>∃l b xs zs,x=.ref l/\y=.ref b/\H l=some (.lst xs)/\H b=some (.lst zs)/\xs.length+zs.length<=sizeLine/\∀p,H p=none->Q (.ref p) (upd H p (.lst (xs++zs)))
theorem zXI:OpR X (binaryOp .Add) rCat:=by
 intro pins s σ H x y v u Q I rx ry h;obtain⟨l,b,xs,zs,rfl,rfl,hH,hB,hz,q⟩:=h;cases rx;cases ry;obtain⟨z,its,n,r,hl,e⟩:=I.lstM hH;obtain⟨z2,its2,n2,r2,hl2,e2⟩:=I.lstM hB;refine PySem.P.add_list e e2 ?_ (by rw[qAd,qAd];omega);have ea:its.toArray++its2.toArray=(its++its2).toArray:=by simp
 rw[ea];exact⟨.ref _,_,I.lnew (t':=s.toks) (r.append r2) (by rw[qAr];omega),rfl,q _ I.fresh⟩
def rRep:R2:=fun x y H Q=>∃l k xs,x=.ref l/\y=.int k/\H l=some (.lst xs)/\-(2 ^ 63)<=k/\k<2 ^ 63/\xs.length*k.toNat<=sizeLine /\
 ∀p,H p=none->Q (.ref p) (upd H p (.lst (qAa k.toNat xs).flatten))
theorem zUQ{α:Type}(xs:List α)(k:Nat):(qAa k xs).flatten.length=k*xs.length:=by
 induction k with
 |zero=>simp
 |succ k ih=>rw[qBj,qAv,qAr,ih,qEx,Nat.add_comm]
theorem zXE:OpR X (binaryOp .Mult) rRep:=by
 intro pins s σ H x y v u Q I rx ry h;obtain⟨l,k,xs,rfl,rfl,hH,h1,h2,hz,q⟩:=h;cases rx;obtain⟨t,rfl⟩:=ry;obtain⟨z,its,n,r,hl,e⟩:=I.lstM hH;have hlen:its.toArray.size*k.toNat<=sizeLine:=by rw[qAd,<- hl];exact hz
 have hcap:¬its.toArray.size*k.toNat>(2 ^ 63-1)/8:=by
  have:(sizeLine:Nat)<=(2 ^ 63-1)/8:=by decide
  omega
 have hfit:¬(!Builtin.List.listFitsIndex k)=true:=by
  rw[fitsIndex_both h1 h2];exact qAc
 have hlong:¬qJ1 (its.toArray.size*k.toNat)=true:=by
  rw[zM0 hlen];exact qAc
 have hnew:qHk (fun x1 x2=>x1++x2) #[] (qAa (if its.toArray.isEmpty=true then 0 else k.toNat) its.toArray)=(qAa k.toNat its).flatten.toArray:=by
  have f0:∀m:Nat,qHk (fun x1 x2=>x1++x2) #[] (qAa m its.toArray)=(qAa m its).flatten.toArray:=fun m=>by
   have:=zJF its m []
   rw[qGk]at this;exact this
  rw[f0];cases its with
  |nil=>simp
  |cons a r'=>rw[if_neg (by simp)]
 refine wpAny_binaryOp_repeat_ref (T:="list") (U:="int") (by decide) ⟨_,e,rfl⟩ (fun s'=>typeIs_int s' k t) noFill_list_mul F.fills_int_mul qM6 repeat_list F.slot_int_index.lookup
  (call_meets qM6 (typeIs_int s k t) F.entry_int_rmul (F.args_int_rmul_2 _ _) (int___rmul___int_list k t l its.toArray n)
   ⟨e,rfl,⟨_,e,rfl⟩,call_meets F.slot_list_mul ⟨_,e,rfl⟩ F.entry_list_mul (F.args_list_mul_2 _ _) (AutoListH.list___mul___list_int_3 l its.toArray n k t hfit hcap hlong) ⟨e,?_⟩⟩)
 rw[hnew];exact⟨.ref _,_,I.lnew (t':=s.toks) (r.rep k.toNat) (by rw[zUQ,Nat.mul_comm];exact hz),rfl,q _ I.fresh⟩
end
section
variable{prog:qIb}{w:World}{A:qIc}{E:Value->qI8->Prop}{s:qI8}
end
section
variable{X:Cx}
end
section
variable{κ:Type}[DecidableEq κ]
noncomputable def valV(kvs:List (κ×V))(k:κ):Option V:=(kvs.find? fun kv=>decide (kv.1=k)).map (·.2)
noncomputable def putK(kvs:List (κ×V))(k:κ)(v:V):List (κ×V):=
 if(kvs.any fun kv=>decide (kv.1=k))=true then kvs.map (fun kv=>if kv.1=k then(kv.1,v)else kv)else kvs++[(k,v)]
noncomputable def zYD(kvs:List (κ×V))(k:κ):List (κ×V):=kvs.filter fun kv=>decide (kv.1≠k)
theorem zGY{p:κ×V}{r:List (κ×V)}{k:κ}(e:p.1=k):valV (p::r) k=some p.2:=by simp[valV,qC4,e]
theorem zGZ{p:κ×V}{r:List (κ×V)}{k:κ}(e:¬p.1=k):valV (p::r) k=valV r k:=by simp[valV,qC4,e]
theorem zLC(k:κ):∀kvs:List (κ×V),(kvs.any fun kv=>decide (kv.1=k))=(valV kvs k).isSome
 |[]=>rfl
 |p::r=>by
  rw[qCg]
  by_cases e:p.1=k
  ·simp only[zGY e,decide_eq_true e,Bool.true_or,qFn]
  ·rw[zGZ e,decide_eq_false e,Bool.false_or];exact zLC k r
theorem zDN(kvs:List (κ×V))(k:κ)(v:V):(putK kvs k v).length<=kvs.length+1:=by
 unfold putK
 split
 ·rw[qAi];omega
 ·rw[qAr,qAu,qGl];omega
theorem RelO.isSome_eq{o:Option V}{u:Option Value}(r:RelO o u):o.isSome=u.isSome:=by
 cases o with
 |none=>cases u with
  |none=>rfl
  |some _=>exact(show False from r).elim
 |some _=>cases u with
  |none=>exact(show False from r).elim
  |some _=>rfl
theorem KV.val{kvs:List (κ×V)}{vs:List (κ×Value)}(r:KV kvs vs)(k:κ):RelO (valV kvs k) (valueAt vs k):=by
 unfold KV at r
 induction r with
 |nil=>exact qCp
 |@cons p q ps qs h t ih=>
  obtain⟨h1,h2⟩:=h
  by_cases e:p.1=k
  ·have e':q.1=k:=h1.symm.trans e;have b:valueAt (q::qs) k=some q.2:=by simp[valueAt,qC4,e']
   rw[zGY e,b];exact h2
  ·have e':¬q.1=k:=fun z=>e (h1.trans z)
   have b:valueAt (q::qs) k=valueAt qs k:=by simp[valueAt,qC4,e']
   rw[zGZ e,b];exact ih
theorem KV.any{kvs:List (κ×V)}{vs:List (κ×Value)}(r:KV kvs vs)(k:κ):(kvs.any fun kv=>decide (kv.1=k))=vs.any fun kv=>decide (kv.1=k):=by
 unfold KV at r
 induction r with
 |nil=>rfl
 |cons h t ih=>rw[qCg,qCg,ih,h.1]
theorem KV.repl{kvs:List (κ×V)}{vs:List (κ×Value)}(r:KV kvs vs)(k:κ){y:V}{u:Value}(ry:RelV y u) :
  KV (kvs.map fun kv=>if kv.1=k then(kv.1,y)else kv) (vs.map fun kv=>if kv.1=k then(kv.1,u)else kv):=by
 unfold KV at r ⊢
 induction r with
 |nil=>exact .nil
 |@cons p q ps qs h t ih=>
  rw[qAk,qAk];refine .cons ?_ ih;obtain⟨h1,h2⟩:=h
  by_cases e:p.1=k
  ·rw[if_pos e,if_pos (h1.symm.trans e)];exact⟨h1,ry⟩
  ·rw[if_neg e,if_neg (fun z=>e (h1.trans z))];exact⟨h1,h2⟩
theorem KV.put{kvs:List (κ×V)}{vs:List (κ×Value)}(r:KV kvs vs)(k:κ){y:V}{u:Value}(ry:RelV y u):KV (putK kvs k y) (stored vs k u):=by
 unfold putK stored;rw[r.any k]
 by_cases e:(vs.any fun kv=>decide (kv.1=k))=true
 ·rw[if_pos e,if_pos e];exact r.repl k ry
 ·rw[if_neg e,if_neg e];exact qMv r ⟨rfl,ry⟩
theorem KV.drop{kvs:List (κ×V)}{vs:List (κ×Value)}(r:KV kvs vs)(k:κ):KV (zYD kvs k) (without vs k):=by
 unfold KV at r ⊢;unfold zYD without
 induction r with
 |nil=>exact .nil
 |@cons p q ps qs h t ih=>
  obtain⟨h1,h2⟩:=h;rw[qGf,qGf]
  by_cases e:p.1=k
  ·have a:¬decide (p.1≠k)=true:=by simp[e]
   have b:¬decide (q.1≠k)=true:=by simp[h1.symm.trans e]
   rw[if_neg a,if_neg b];exact ih
  ·have e':¬q.1=k:=fun z=>e (h1.trans z)
   have a:decide (p.1≠k)=true:=by simp[e]
   have b:decide (q.1≠k)=true:=by simp[e']
   rw[if_pos a,if_pos b];exact .cons ⟨h1,h2⟩ ih
theorem KV.length{kvs:List (κ×V)}{vs:List (κ×Value)}(r:KV kvs vs):kvs.length=vs.length:=qK3 r
end
theorem zRT{P:qIb}{w:World}{k:Key}{u:Value}(r:RelV (kV k) u):(zC5 P w).is k u=true:=by
 cases k with
 |inl i=>obtain⟨t,e⟩:=(show ∃t,u=qKj i t from r);subst e;exact zKP P w i t
 |inr x=>obtain⟨t,e⟩:=(show ∃t,u=qJg x t from r);subst e;exact zKO P w x t
theorem zZ9{P:qIb}{w:World}{v:V}{k:KeyN}{u:Value}(e:vN v=some k)(r:RelV v u):(mixN P w).is k u=true:=by
 cases v with
 |non=>cases e;cases(show u=qIj from r);rfl
 |bl b=>cases e;cases(show u=qJb b from r);exact zP9 b
 |int i=>cases e;obtain⟨t,z⟩:=(show ∃t,u=qKj i t from r);subst z;exact zNA i t
 |str x=>cases e;obtain⟨t,z⟩:=(show ∃t,u=qJg x t from r);subst z;exact zN9 x t
 |_=>exact nomatch e
theorem zPD{P:qIb}{w:World}{vs:List V}{ks:List KeyN}(q:KsOf vs ks):∀{us:List Value},Vals vs us->ItemsAre (mixN P w) ks us:=by
 induction q with
 |nil=>intro us r;cases r;exact .nil
 |cons h t ih=>
  intro us r;cases r with
  |cons h' t'=>exact .cons (zZ9 h h') (ih t')
abbrev KT(H:Hp)(T:Addr->Prop):List (List KeyN×V)->List (List KeyN×Addr×Value)->Prop:=qKk fun p q=>p.1=q.1/\(TupK H q.2.1 p.1/\T q.2.1)/\RelV p.2 q.2.2
theorem KT.val{H:Hp}{T:Addr->Prop}{kvs:List (List KeyN×V)}{xs:List (List KeyN×Addr×Value)}(r:KT H T kvs xs)(k:List KeyN):RelO (valV kvs k) ((atKey xs k).map (·.2)):=by
 induction r with
 |nil=>exact qCp
 |@cons p q ps qs h t ih=>
  obtain⟨h1,_,h2⟩:=h
  by_cases e:p.1=k
  ·have e':q.1=k:=h1.symm.trans e;have b:atKey (q::qs) k=some q.2:=by simp[atKey,qC4,e']
   rw[zGY e,b];exact h2
  ·have e':¬q.1=k:=fun z=>e (h1.trans z)
   have b:atKey (q::qs) k=atKey qs k:=by simp[atKey,qC4,e']
   rw[zGZ e,b];exact ih
theorem KT.repl{H:Hp}{T:Addr->Prop}{kvs:List (List KeyN×V)}{xs:List (List KeyN×Addr×Value)}(r:KT H T kvs xs)(k:List KeyN){y:V}{u:Value}(ry:RelV y u) :
  KT H T (kvs.map fun kv=>if kv.1=k then(kv.1,y)else kv) (xs.map (putAt k u)):=by
 induction r with
 |nil=>exact .nil
 |@cons p q ps qs h t ih=>
  rw[qAk,qAk];refine .cons ?_ ih;obtain⟨h1,h2,h3⟩:=h;unfold putAt
  by_cases e:p.1=k
  ·rw[if_pos e,if_pos (h1.symm.trans e)];exact⟨h1,h2,ry⟩
  ·rw[if_neg e,if_neg (fun z=>e (h1.trans z))];exact⟨h1,h2,h3⟩
theorem KT.wk{H:Hp}{T T':Addr->Prop}{kvs:List (List KeyN×V)}{xs:List (List KeyN×Addr×Value)}(r:KT H T kvs xs)(h:∀c,T c->T' c):KT H T' kvs xs:=qKk.mapP r fun _ _ z=>⟨z.1,⟨z.2.1.1,h _ z.2.1.2⟩,z.2.2⟩
theorem KT.put{H:Hp}{T:Addr->Prop}{kvs:List (List KeyN×V)}{xs:List (List KeyN×Addr×Value)}(r:KT H T kvs xs)(k:List KeyN){b:Addr}{y:V}{u:Value}(hb:TupK H b k)(ry:RelV y u) :
  KT H (fun c=>T c\/c=b) (putK kvs k y) (storedH xs k b u):=by
 have e:(kvs.any fun kv=>decide (kv.1=k))=(atKey xs k).isSome:=by
  rw[zLC,(r.val k).isSome_eq,qCq]
 unfold putK storedH;rw[e]
 by_cases q:(atKey xs k).isSome=true
 ·rw[if_pos q,if_pos q];exact(r.repl k ry).wk fun _ z=>.inl z
 ·rw[if_neg q,if_neg q];exact qMv (KT.wk (T':=fun c=>T c\/c=b) r fun _ z=>qI4 z) ⟨rfl,⟨hb,qHw rfl⟩,ry⟩
theorem KT.keeps{H H':Hp}{T:Addr->Prop}{kvs:List (List KeyN×V)}{xs:List (List KeyN×Addr×Value)}(r:KT H T kvs xs)(ht:∀b ys,H b=some (.tup ys)->H' b=some (.tup ys)):KT H' T kvs xs:=
 qKk.mapP r fun _ _ z=>⟨z.1,⟨z.2.1.1.keeps ht,z.2.1.2⟩,z.2.2⟩
section
variable{P:qIb}{w:World}{H:Hp}{h:Heap}{a:Addr}
theorem zWL{u:HO}(ok:HOk P w H h)(e:Rd H a u):ObjOk P w H h a u:=e.ok ok
theorem zPX{kvs:List (Key×V)}(ok:HOk P w H h)(e:Rd H a (.dK kvs)):kvs.length<=sizeLine/\(a==qIz)=false/\∃vs,KV kvs vs/\h.DictOf (zC5 P w) a vs:=
 show ObjOk P w H h a (.dK kvs) from zWL ok e
theorem zYG{kvs:List (Key×V)}(ok:HOk P w H h)(e:H a=some (.dK kvs)):kvs.length<=sizeLine/\(a==qIz)=false/\∃vs,KV kvs vs/\h.DictOf (zC5 P w) a vs:=zPX ok (.inl e)
theorem zM3{ks:List KeyN}(ok:HOk P w H h)(e:TupK H a ks):(tupleKind (mixN P w)).is h ks a:=by
 obtain⟨vs,e,q⟩:=e;obtain⟨_,its,r,o,h1,h2,n,h3⟩:=(show ObjOk P w H h a (.tup vs) from ok a _ e)
 exact⟨o,its.toArray,n,h1,h2,h3,by simpa using zPD q r⟩
theorem zPU{T:Addr->Prop}{e0:Nat}{kvs:List (List KeyN×V)}(ok:HOk P w H h)(e:Rd H a (.dT T e0 kvs)):kvs.length<=sizeLine/\(a==qIz)=false /\
  ∃xs,KT H T kvs xs/\h.DictOfH (tupleKind (mixN P w)) a xs:=by
 obtain⟨z,y,xs,r,o,es,ep,h1,h2,h3,h4,h5⟩:=(show ObjOk P w H h a (.dT T e0 kvs) from zWL ok e)
 refine⟨z,y,xs,r,o,es,ep,h1,h2,h3,h4,fun x hx=>?_,h5.1⟩;have all:∀{l:List (List KeyN×V)}{m:List (List KeyN×Addr×Value)},KT H T l m->∀x∈m,(tupleKind (mixN P w)).is h x.1 x.2.1:=by
  intro l m q
  induction q with
  |nil=>intro x hx;exact nomatch hx
  |@cons p q ps qs hq t ih=>
   intro x hx
   rcases qAb.mp hx with e|hx
   ·subst e;exact zM3 ok (by rw[<- hq.1];exact hq.2.1.1)
   ·exact ih x hx
 exact all r x hx
theorem zaA{T:Addr->Prop}{e0:Nat}{kvs:List (List KeyN×V)}(ok:HOk P w H h)(e:H a=some (.dT T e0 kvs)):kvs.length<=sizeLine/\(a==qIz)=false /\
  ∃xs,KT H T kvs xs/\h.DictOfH (tupleKind (mixN P w)) a xs:=zPU ok (.inl e)
end
def DGet(H:Hp)(a:Addr)(y:V)(r:Option V):Prop:=
 (∃kvs k,Rd H a (.dK kvs)/\y=kV k/\r=valV kvs k)\/∃T e0 kvs k b,Rd H a (.dT T e0 kvs)/\y=.ref b/\TupK H b k/\r=valV kvs k
def DPut(H:Hp)(a:Addr)(y v:V)(H':Hp):Prop:=
 (∃kvs k,H a=some (.dK kvs)/\y=kV k/\kvs.length<sizeLine/\H'=upd H a (.dK (putK kvs k v)))
theorem DGet.k{H:Hp}{a:Addr}{kvs:List (Key×V)}{k:Key}(e:H a=some (.dK kvs)):DGet H a (kV k) (valV kvs k):=.inl ⟨kvs,k,.inl e,rfl,rfl⟩
theorem DGet.t{H:Hp}{a b:Addr}{T:Addr->Prop}{e0:Nat}{kvs:List (List KeyN×V)}{k:List KeyN}(e:H a=some (.dT T e0 kvs))(eb:TupK H b k):DGet H a (.ref b) (valV kvs k):=.inr ⟨T,e0,kvs,k,b,.inl e,rfl,eb,rfl⟩
theorem DPut.k{H:Hp}{a:Addr}{kvs:List (Key×V)}{k:Key}{v:V}(e:H a=some (.dK kvs))(hl:kvs.length<sizeLine):DPut H a (kV k) v (upd H a (.dK (putK kvs k v))):=⟨kvs,k,e,rfl,hl,rfl⟩
section
variable{X:Cx}{pins:List (Addr×Obj)}{σ:St}{H:Hp}{s:qI8}{a:Addr}{y v:V}{u r:Value}{o:Option V}{A:qIc}{E:Value->qI8->Prop}
theorem Inv.big(I:Inv X pins σ H s):qIz<s.heap.objs.size:=by
 have h:qIf<s.heap.objs.size:=(I.mod.glob.keeps I.bk).lt;exact Nat.lt_trans (by decide) h
theorem zQ8{Q:Value->qI8->Prop}(hu:A.units+1<cLine)(I:Inv X pins σ H s)(g:DGet H a y (some v))(ry:RelV y u)(h:∀w' s',Inv X pins σ H s'->RelV v w'->Q w' s') :
  wpAny (model X.prog X.w) A (getItem (.ref a) u) Q E s:=by
 rcases g with⟨kvs,k,e,ey,l⟩|⟨T,e0,kvs,k,b,e,ey,eb,l⟩
 ·subst ey;obtain⟨z,hd,vs,rel,dd⟩:=zPX I.hok e;obtain⟨w',hw,rw'⟩:=RelO.some_of (v:=v) (o:=valueAt vs k) (by rw[l];exact rel.val k);exact wpAny_getItem_of (zRT ry) dd.mapOf hw (h w' _ (I.tok _) rw')
 ·subst ey
  cases(show u=qIi b from ry)
  obtain⟨z,hd,xs,rel,dd⟩:=zPU I.hok e;obtain⟨w',hw,rw'⟩:=RelO.some_of (v:=v) (o:=(atKey xs k).map (·.2)) (by rw[l];exact rel.val k);obtain⟨p,hp,hp2⟩:=Option.map_eq_some_iff.mp hw;refine wpAny_getItem_heap (tupleKind_room_in1 hu) (zM3 I.hok eb) dd hp ?_;rw[hp2];exact h w' _ (I.tok _) rw'
theorem zVH{Q:Value->qI8->Prop}(hu:A.units+1<cLine)(I:Inv X pins σ H s)(g:DGet H a y o)(ry:RelV y u)(h:∀s',Inv X pins σ H s'->Q (.bool (!o.isSome)) s') :
  wpAny (model X.prog X.w) A (compareOp .NotIn u (.ref a)) Q E s:=by
 rcases g with⟨kvs,k,e,ey,l⟩|⟨T,e0,kvs,k,b,e,ey,eb,l⟩
 ·subst ey;obtain⟨z,hd,vs,rel,dd⟩:=zPX I.hok e;refine wpAny_notIn_of (zRT ry) hd dd.mapOf ?_;rw[<- (rel.val k).isSome_eq,<- l];exact h _ (I.tok _)
 ·subst ey
  cases(show u=qIi b from ry)
  obtain⟨z,hd,xs,rel,dd⟩:=zPU I.hok e;refine wpAny_notIn_heap (tupleKind_room_in1 hu) (zM3 I.hok eb) hd dd ?_;have q:=(rel.val k).isSome_eq;rw[qCq]at q;rw[<- q,<- l];exact h _ (I.tok _)
theorem zQ6{h':Heap}{t':Nat}{ob:HO}(I:Inv X pins σ H s)(mu:Mut (H a))(hs:qJn a s.heap h')(he:∃q,h'.get? a=some q)(new:ObjOk X.prog X.w (upd H a ob) h' a ob) :
  Inv X pins σ (upd H a ob) { s with heap:=h',toks:=t' }:=
 I.write (x:=a) (e:=a) mu (.inl rfl) (fun b q hb z=>(hs.2 b hb).trans z) he new
theorem zTI{P:qIb}{w:World}{H':Hp}{h':Heap}{kvs:List (Key×V)}{vs:List (Key×Value)}(z:kvs.length<=sizeLine)(hd:(a==qIz)=false)(rel:KV kvs vs)(dd:h'.DictOf (zC5 P w) a vs) :
  ObjOk P w H' h' a (.dK kvs):=⟨z,hd,vs,rel,dd⟩
theorem zQ7{H':Hp}{Q:Unit->qI8->Prop}(hu:A.units+1<cLine)(I:Inv X pins σ H s)(g:DPut H a y v H')(ry:RelV y u)(rv:RelV v r)(h:∀s',Inv X pins σ H' s'->Q () s') :
  wpAny (model X.prog X.w) A (setItem (.ref a) u r) Q E s:=by
 obtain⟨kvs,k,e,ey,l,eH⟩:=g
 ·subst ey eH;obtain⟨z,hd,vs,rel,dd⟩:=zYG I.hok e;have hz:vs.length<=sizeLine:=by rw[<- rel.length];exact z
  have hl:(putK kvs k v).length<=sizeLine:=by have:=zDN kvs k v;omega
  refine wpAny_setItem_pairs (hsz:=hz) (zRT ry) dd fun h' dd' hs=>h _ ?_
  have he:∃q,h'.get? a=some q:=let⟨q,_,_,hq,_⟩:=dd';⟨q,hq⟩
  exact zQ6 I (by rw[e];exact qCp) hs he (zTI hl hd (rel.put k rv) dd')
end
section
variable{X:Cx}{pins:List (Addr×Obj)}{σ:St}{H:Hp}{s:qI8}{a:Addr}{kvs:List (Key×V)}{k:Key}{u:Value}{A:qIc}{E:Value->qI8->Prop}
end
def NoSl(i:Expr):Prop:=∀ov iv,subscripted i false ov iv=operate [ov,iv] (getItem ov iv)
theorem zTX{prog:qIb}{w:World}{A:qIc}{E:Value->qI8->Prop}{s:qI8}{env:Env}{value slice:Expr}{pos:Pos}{T id:String}{Q:Value->qI8->Prop}
  (hl:typeLookup (.type T) "__getitem__" = pure (some (.builtin id))) (hs:NoSl slice)
  (h:wpAny (model prog w) A (eval value env) (fun o s₁=>wpAny (model prog w) A (eval slice env) (fun i s₂=>s₂.TypeIs o T/\wpAny (model prog w) A (getItem o i) Q E s₂) E s₁) E s) :
  wpAny (model prog w) A (eval (.Subscript value slice pos) env) Q E s:=by
 refine qMd (wpAny_mono h (fun o s₁ h₁=>wpAny_mono h₁ (fun i s₂ h₂=>?_) fun _ _ x=>x) fun _ _ x=>x);obtain⟨hT,h₂⟩:=h₂;unfold subscriptTail;refine wpAny_bind ?_;rw[getitemInPython_of_ne hT.not_modules];refine wpAny_bind (wpAny_specialOf hT hl ?_);have fin:wpAny (model prog w) A (subscripted slice false o i) (fun r s₃=>wpAny (model prog w) A (letTemporaryGo value o r >>= fun _=>pure r) Q E s₃) E s₂:=by
  rw[hs o i];exact wpAny_operating (wpAny_mono h₂ (fun r s₃ h₃=>wpAny_bind (wpAny_letTemporaryGo (wpAny_pure h₃))) fun _ _ x=>x)
 first
  |exact wpAny_pure (wpAny_bind fin)
  |exact wpAny_bind (wpAny_pure (wpAny_bind fin))
  |exact wpAny_bind fin
theorem zKZ{X:Cx}{pins:List (Addr×Obj)}{σ:St}{H:Hp}{s:qI8}{a:Addr}{y:V}{o:Option V}(I:Inv X pins σ H s)(g:DGet H a y o):s.TypeIs (.ref a) "dict":=by
 rcases g with⟨kvs,k,e,_,_⟩|⟨T,e0,kvs,k,b,e,_,_,_⟩
 ·obtain⟨_,_,vs,_,dd⟩:=zPX I.hok e;exact dd.typeIs
 ·obtain⟨_,_,xs,_,dd⟩:=zPU I.hok e;exact dd.typeIs
noncomputable def zW8(td ty:TE):TE:=fun σ H Q=>td σ H fun x H1=>ty σ H1 fun y H2=>∃a v,x=.ref a/\DGet H2 a y (some v)/\Q v H2
noncomputable def tDIn(ty td:TE):TE:=fun σ H Q=>ty σ H fun y H1=>td σ H1 fun x H2=>∃a o,x=.ref a/\DGet H2 a y o/\Q (.bl o.isSome) H2
noncomputable def zK4(ty td:TE):TE:=fun σ H Q=>ty σ H fun y H1=>td σ H1 fun x H2=>∃a o,x=.ref a/\DGet H2 a y o/\Q (.bl (!o.isSome)) H2
noncomputable def zWG(td ty tv:TE):TS:=fun D σ H=>tv σ H fun v H1=>td σ H1 fun x H2=>ty σ H2 fun y H3=>∃a H4,x=.ref a/\DPut H3 a y v H4/\D.nx σ H4
section
variable{X:Cx}{o i e value:Expr}{pos pos' tpos:Pos}{td ty tv:TE}
theorem zKG(hu:X.A.units+1<cLine)(ho:PE X o td)(hi:PE X i ty)(hs:NoSl i):PE X (.Subscript o i pos) (zW8 td ty):=by
 intro pins s σ H Q I h;refine zTX PySem.F.slot_dict_getitem.lookup hs (thn (ho pins s σ H _ I h) fun u s1 ⟨x,H1,I1,rx,q1⟩=>thn (hi pins s1 σ H1 _ I1 q1) fun iv s2 ⟨y,H2,I2,ry,a,v,ex,g,q2⟩=>?_);subst ex;obtain rfl:u=qIi a:=rx;exact⟨zKZ I2 g,zQ8 hu I2 g ry fun w' s3 I3 rw'=>⟨v,H2,I3,rw',q2⟩⟩
theorem zFM(hu:X.A.units+1<cLine)(hi:PE X i ty)(ho:PE X o td):PC X .NotIn i o (zK4 ty td):=by
 intro pins s σ H Q I h;refine thn (hi pins s σ H _ I h) fun iv s1 ⟨y,H1,I1,ry,q1⟩=>thn (ho pins s1 σ H1 _ I1 q1) fun u s2 ⟨x,H2,I2,rx,a,ov,ex,g,q2⟩=>?_
 subst ex;obtain rfl:u=qIi a:=rx;exact zVH hu I2 g ry fun s3 I3=>⟨.bl (!ov.isSome),H2,I3,rfl,q2⟩
theorem zUA(hu:X.A.units+1<cLine)(ho:PE X o td)(hi:PE X i ty)(hv:PE X value tv)(hs:qKt value (some (.Subscript o i pos')) pos.line X.env=pure false) :
  PS X (.Assign [.Subscript o i pos'] value pos) (zWG td ty tv):=by
 intro pins s σ H D I h;refine qKr (thn (hv pins s σ H _ I h) fun r s1 ⟨v,H1,I1,rv,q1⟩=>thn (ho pins s1 σ H1 _ I1 q1) fun u s2 ⟨x,H2,I2,rx,q2⟩=>thn (hi pins s2 σ H2 _ I2 q2) fun iv s3 ⟨y,H3,I3,ry,a,H4,ex,g,q3⟩=>?_) hs;subst ex;obtain rfl:u=qIi a:=rx;exact zQ7 hu I3 g ry rv fun s4 I4=>⟨σ,H4,I4,q3⟩
end
theorem zS3{P:qIb}{w:World}{H:Hp}(h:Heap)(hb:qIz<h.objs.size):ObjOk P w H (h.push { cls:=.type "dict",data:=.dict #[] }) h.objs.size (.dK []):=
 ⟨qAy _,beq_eq_false_iff_ne.mpr (qCe (qAj hb)),[],.nil,Heap.DictOf.new h⟩
theorem zS2{P:qIb}{w:World}{H:Hp}(h:Heap)(hb:qIz<h.objs.size):ObjOk P w H (h.push { cls:=.type "dict",data:=.dict #[] }) h.objs.size (.dT (fun _=>False) 0 []):=
 ⟨qAy _,beq_eq_false_iff_ne.mpr (qCe (qAj hb)),[],.nil,_,#[],0,qIa _ rfl,⟨rfl,rfl,rfl⟩,rfl,rfl,qFb,rfl⟩
def zSI:TE:=fun _ H Q=>∀p,H p=none->Q (.ref p) (upd H p (.dK []))
def zSH:TE:=fun _ H Q=>∀p,H p=none->Q (.ref p) (upd H p (.dT (fun _=>False) 0 []))
section
variable{X:Cx}{pos:Pos}
theorem zLX:PE X (.Dict [] [] pos) zSI:=fun pins s σ H Q I h=>
 wpAny_Dict_empty ⟨.ref s.heap.objs.size,_,I.laid (a:=s.heap.objs.size) (o:=.dK []) (t':=s.toks) (fun _ _ q=>qI7 _ q) (qA8 _) (zS3 s.heap I.big),rfl,h _ (I.hok.fresh (qA8 _))⟩
theorem zRE:PE X (.Dict [] [] pos) zSH:=fun pins s σ H Q I h=>
 wpAny_Dict_empty ⟨.ref s.heap.objs.size,_,I.laid (a:=s.heap.objs.size) (o:=.dT (fun _=>False) 0 []) (t':=s.toks) (fun _ _ q=>qI7 _ q) (qA8 _) (zS2 s.heap I.big),rfl,h _ (I.hok.fresh (qA8 _))⟩
end
def IsD(H:Hp)(a:Addr):Prop:=(∃kvs,Rd H a (.dK kvs))\/∃T e0 kvs,Rd H a (.dT T e0 kvs)
theorem zY0{X:Cx}{pins:List (Addr×Obj)}{σ:St}{H:Hp}{s:qI8}{a:Addr}(I:Inv X pins σ H s)(d:IsD H a) :
  s.TypeIs (.ref a) "dict"/\(∀b,qIi a=.ref b->∃ob,s.heap.get? b=some ob/\ob.dict=none)/\(a==qIz)=false:=by
 rcases d with⟨kvs,e⟩|⟨_,_,kvs,e⟩
 ·obtain⟨_,hd,vs,_,dd⟩:=zPX I.hok e;refine⟨dd.typeIs,fun b q=>?_,hd⟩;cases q;obtain⟨ob,_,_,h1,h2,_⟩:=dd;exact⟨ob,h1,h2.2.1⟩
 ·obtain⟨_,hd,xs,_,dd⟩:=zPU I.hok e;refine⟨dd.typeIs,fun b q=>?_,hd⟩;cases q;obtain⟨ob,_,_,h1,h2,_⟩:=dd;exact⟨ob,h1,h2.2.1⟩
section
variable{X:Cx}{pins:List (Addr×Obj)}{σ:St}{H:Hp}{s:qI8}{a:Addr}{y d:V}{u r:Value}{o:Option V}{A:qIc}{E:Value->qI8->Prop}
end
section
variable{X:Cx}{o e f:Expr}{apos cpos:Pos}{td ty tx:TE}
end
section
variable{X:Cx}{pins:List (Addr×Obj)}{σ:St}{H:Hp}{s:qI8}{a:Addr}{kvs:List (Key×V)}{A:qIc}{E:Value->qI8->Prop}
end
section
variable{X:Cx}{pins:List (Addr×Obj)}{σ:St}{H:Hp}{s:qI8}{a:Addr}{y:V}{u:Value}{A:qIc}{E:Value->qI8->Prop}
end
end L2
namespace Att
open PySem PySem.W PySem.Calls PyProof.Rows
theorem zFY{P:Params}{h:Heap}:∀(ns:List Int)(vs:List Value),WellAll P h vs (ns.map qM7)->qMi vs ns:=by
 intro ns
 induction ns with
 |nil=>
  intro vs w;rw[qHq]at w;cases w;exact .nil
 |cons n ns ih=>
  intro vs w;rw[qAk]at w;cases w with
  |cons a b=>
   cases a;exact .cons _ _ (ih _ b)
theorem zO5{l:OpenLaw}{n:Nat}(hn:l.most=some n){P:Params}{h:Heap}{args:List WData}{vals:List Value}
  (hpre:l.row.toRowW.claim.pre args=true) (hwl:WellAll P h vals args) :
  ∃a vs ns,vals=[qIi a]/\args=[WData.list (ns.map qM7)]/\h.get? a=some { cls:=.type "list",data:=.seq vs.toArray }/\qMi vs ns/\ns.length<=n:=by
 have hsh:WShape.hasAll [] args [.list .int]=true:=(pre_splitW hpre).1;have hc:l.pre.holds [] { args:=args }=true:=(pre_splitW hpre).2;obtain⟨d,r,rfl,h1,h2⟩:=hasAllW_cons hsh;obtain rfl:=hasAllW_nil h2;obtain⟨xs,rfl,h3⟩:=hasW_list h1;obtain⟨ns,rfl⟩:=items_int h3;have hlen:ns.length<=n:=by
  unfold OpenLaw.pre at hc;have h4:(WTm.not (.lt (.lit (.int (n:Int))) (.len (.arg 0)))).holds [] { args:=[.list (ns.map .int)] }=true:=by
   have h4:=(holds_andW hc).1;rw[hn]at h4;exact h4
  have h5:=condW_of h4 (w_not (w_lt w_lit (w_len_list (w_arg rfl))));rw[qAi]at h5;refine Nat.le_of_not_lt fun q=>?_
  have q':(n:Int)<((ns.length:Nat):Int):=by omega
  first
   |(rw[decide_eq_true q']at h5;exact absurd h5 (by decide))
   |(simp at h5;omega)
 cases hwl with
 |cons w1 w2=>
  cases w2;cases w1 with
  |list ho hall=>exact⟨_,_,ns,rfl,rfl,ho,zFY ns _ hall,hlen⟩
theorem zOD(l:OpenLaw)(args:List WData):l.row.toRowW.claim.post args (.bool true) args=true:=
 postW_of (r:=l.row.toRowW) (X:=(true==true))
  (show qMy [] (.bool true) .bool=true by first|rfl|decide|simp[qMy,WShape.arms,WShape.armsAll])
  (show(WTm.eq .res (.lit (.bool true))).value [] { args:=args,res:=some (.bool true),after:=args }=some (.bool (true==true)) from w_eq_bool (w_res rfl) w_lit) rfl
section
variable{prog:qIb}{w:World}{A:qIc}{E:Value->qI8->Prop}{s:qI8}{K:Frag}
end
end Att
namespace L2
open PySem PySem.Spec PyProof.Rows
theorem zIA:∀{vs:List Value}{ns:List Int},qMi vs ns->Vals (ns.map V.int) vs
 |_,_,.nil=>.nil
 |_,_,.cons n t h=>.cons ⟨t,rfl⟩ (zIA h)
abbrev KOf{K:qA1}{h:Heap}(_:K.In h):qA1:=K
noncomputable def zBG(s:Stmt):Arguments:=match s with
 |.FunctionDef _ a _ _ _ _ _ _ _ _=>a
 |_=>{ posonlyargs:=[],args:=[],vararg:=none,kwonlyargs:=[],kw_defaults:=[],kwarg:=none,defaults:=[] }
noncomputable def zAY(s:Stmt):List Stmt:=match s with
 |.FunctionDef _ _ b _ _ _ _ _ _ _=>b
 |_=>[]
noncomputable def zAA(s:Stmt):Scope:=match s with
 |.FunctionDef _ _ _ _ _ _ sc _ _ _=>sc
 |_=>{ kind:=.function,names:=[],isGenerator:=false,isCoroutine:=false }
abbrev CX0:CXT:=fun _ _ _ _ _ _=>False
abbrev E0:XK:=fun _ _ _=>False
theorem zZO{X:Cx}:zMN CX0 X E0:=fun _ _ _ _ _ _ _ h=>h.elim
structure Fun(K:qA1)(x qual:Str)(st:Stmt)(f:Addr)(fd:qIs):Prop where
 ex:∃(oc:Value)(od:Option Addr)(kV doc pm:Value)(an:Option Addr)(cdv ct:Value)(osl:Array (Option Value)),
  fd=qBe x qual (zBG st) (zAY st) (zAA st) .none kV doc pm an cdv ct/\K.lookup f=some ⟨oc,od,.func fd,osl⟩/\qCk K cdv qual=true
 kp:qBh K (.ref f)=true
section
variable{P:qIb}{w:World}{K:qA1}{mg:Str->Option Value}{base:Heap}
theorem Fun.ok{x qual:Str}{st:Stmt}{f:Addr}{fd:qIs}{N ps:List Str}{k:Nat}{sp:Sp}(F:Fun K x qual st f fd)(S:FnScope N ps (zAA st))(len:∀vs H Q E,sp vs H Q E->vs.length=ps.length)
  (hbody:∀(cdv:Value)(A:qIc)(outer:List Env)(s:qI8)(H:Hp)(vs:List V)(Q:VK)(E:XK),Room k (A.deeper (envOfC qual (zAA st) s.heap.objs.size f cdv))->sp vs H Q E ->
   ∃t,PSs (cxOf CX0 P w K mg base N qual (zAA st) f cdv A outer s H E).nox (zAY st) t/\t { nx:=fun _ H'=>Q .non H',rt:=Q } (start N vs) H):FnOk P w K mg base CX0 (k+1) f fd ps sp:=by
 obtain⟨oc,od,kV,doc,pm,an,cdv,ct,osl,rfl,lk,hcd⟩:=F.ex;refine zY5 lk hcd S len fun A outer s H vs Q E hr hsp=>?_
 obtain⟨t,h,q⟩:=hbody cdv A outer s H vs Q E hr hsp;exact⟨t,h.nox,q⟩
theorem Fun.binds{x qual:Str}{st:Stmt}{f:Addr}{fd:qIs}{ps:List Str}(F:Fun K x qual st f fd)
  (h:∀(kV doc pm:Value)(an:Option Addr)(cdv ct:Value)(us:List Value),us.length=ps.length->qLg (qBe x qual (zBG st) (zAY st) (zAA st) .none kV doc pm an cdv ct) ⟨us,[]⟩=pure (ps.zip us)):Binds K fd ps []:=by
 obtain⟨oc,od,kV,doc,pm,an,cdv,ct,osl,rfl,lk,hcd⟩:=F.ex;exact .all (h kV doc pm an cdv ct)
theorem zT9{x qual:Str}{st:Stmt}{f:Addr}{oc:Value}{od an:Option Addr}{osl:Array (Option Value)}{kV doc pm cdv ct:Value}(l:K.lookup f=some ⟨oc,od,.func (qBe x qual (zBG st) (zAY st) (zAA st) .none kV doc pm an cdv ct),osl⟩)
  (c:qCk K cdv qual=true) (k:qBh K (.ref f)=true):Fun K x qual st f (qBe x qual (zBG st) (zAY st) (zAA st) .none kV doc pm an cdv ct):=⟨⟨oc,od,kV,doc,pm,an,cdv,ct,osl,rfl,l,c⟩,k⟩
end
theorem zJE{A:qIc}{k:Nat}(hr:Room k A):A.units+1<cLine:=qCl (Nat.add_le_add_left (by decide:1<=64) _) hr.units
section
variable{X:Cx}
end
def Same(H H':Hp):Prop:=∀b o,H b=some o->H' b=some o
theorem Same.refl(H:Hp):Same H H:=fun _ _ h=>h
theorem Same.trans{H H1 H2:Hp}(a:Same H H1)(b:Same H1 H2):Same H H2:=fun c o h=>b c o (a c o h)
theorem Same.free{H H':Hp}(e:Same H H'){l:Addr}(h:H' l=qFf):H l=qFf:=by
 cases q:H l with
 |none=>rfl
 |some o=>
  rw[e l o q]at h;cases h
theorem Same.seq{K:qA1}{H H':Hp}{a:Addr}{xs:List V}(e:Same H H')(h:SqL K H a xs):SqL K H' a xs:=by
 rcases h with(h|⟨o,h⟩)|h
 ·exact .inl (.inl (e _ _ h))
 ·exact .inl (.inr ⟨o,e _ _ h⟩)
 ·exact .inr h
section
variable{κ:Type}[DecidableEq κ]
end
theorem asN{a b:Nat}(h:a<b):a<b:=h
theorem asL{a b:Nat}(h:a<=b):a<=b:=h
theorem asE{a b:Nat}(h:a=b):a=b:=h
noncomputable def clos(cells:List (Str×Addr)):List (Str×qJc)->List (Str×Addr)->List (Str×Addr)
 |[],acc=>acc
 |(n,k)::r,acc=>if k==.free then clos cells r ((n,(cells.lookup n).getD 0)::acc)else clos cells r acc
theorem zD4(cells:List (Str×Addr)):∀(names:List (Str×qJc))(acc:List (Str×Addr)),clos cells names acc=clos cells names []++acc
 |[],_=>rfl
 |(n,k)::r,acc=>by
  unfold clos
  split
  ·rw[zD4 cells r (_::acc),zD4 cells r [_],qBl];rfl
  ·exact zD4 cells r acc
theorem zEZ{cells:List (Str×Addr)}{x:Str}{c:Addr}:∀{names:List (Str×qJc)},(x,c)∈clos cells names []->(x,qIg)∈names/\c=(cells.lookup x).getD 0
 |[],h=>by simp[clos]at h
 |(n,k)::r,h=>by
  unfold clos at h
  split at h
  ·rename_i hk
   rw[zD4]at h
   rcases qAq.mp h with h|h
   ·obtain⟨h1,h2⟩:=zEZ h;exact⟨qAs _ h1,h2⟩
   ·have e:=qB6.mp h
    injection e with e1 e2
    subst e1;have hk':k=.free:=by simpa using hk
    subst hk';exact⟨qAw,e2⟩
  ·obtain⟨h1,h2⟩:=zEZ h;exact⟨qAs _ h1,h2⟩
theorem zI1{cells:List (Str×Addr)}{x:Str}:∀{names:List (Str×qJc)},(x,qIg)∈names->(x,(cells.lookup x).getD 0)∈clos cells names []
 |[],h=>by simp at h
 |(n,k)::r,h=>by
  unfold clos
  rcases qAb.mp h with e|h
  ·injection e with e1 e2
   subst e1;subst e2;rw[if_pos (by rfl),zD4];exact qAp _ (by simp)
  ·split
   ·rw[zD4];exact qBb _ (zI1 h)
   ·exact zI1 h
theorem zB6:∀(names:List (Str×qJc))(n:Nat)(acc:List (Str×Addr)),cellsFrom n names acc=cellsFrom n names []++acc
 |[],_,_=>rfl
 |(x,k)::r,n,acc=>by
  unfold cellsFrom
  split
  ·rw[zB6 r (n+1) (_::acc),zB6 r (n+1) [_],qBl];rfl
  ·exact zB6 r n acc
theorem zBQ{x:Str}{c:Addr}:∀{names:List (Str×qJc)}{n:Nat},(x,c)∈cellsFrom n names []->(x,qIy)∈names
 |[],_,h=>by simp[cellsFrom]at h
 |(y,k)::r,n,h=>by
  unfold cellsFrom at h
  split at h
  ·rename_i hk
   rw[zB6]at h
   rcases qAq.mp h with h|h
   ·exact qAs _ (zBQ h)
   ·have e:=qB6.mp h
    injection e with e1 e2
    subst e1;have hk':k=.cell:=by simpa using hk
    subst hk';exact qAw
  ·exact qAs _ (zBQ h)
theorem zBF{α:Type}{x:Str}{a:α}:∀{l:List (Str×α)},(l.map (·.1)).Nodup->(x,a)∈l->l.lookup x=some a
 |[],_,h=>by simp at h
 |(y,b)::r,nd,h=>by
  have nd':(y::r.map (·.1)).Nodup:=nd;obtain⟨h1,h2⟩:=qBi.mp nd'
  rcases qAb.mp h with e|hm
  ·injection e with e1 e2
   subst e1;subst e2;rw[qBn,beq_self_eq_true]
  ·have hne:(x==y)=false:=by
    rw[beq_eq_false_iff_ne]
    rintro rfl
    exact h1 (qAe.mpr ⟨(x,a),hm,rfl⟩)
   rw[qBn,hne];exact zBF h2 hm
theorem zDD{α:Type}{x:Str}:∀{l:List (Str×α)},(∀a,(x,a)∉l)->l.lookup x=none
 |[],_=>rfl
 |(y,b)::r,h=>by
  have hne:(x==y)=false:=by
   rw[beq_eq_false_iff_ne]
   rintro rfl
   exact h b qAw
  rw[qBn,hne];exact zDD fun a m=>h a (qAs _ m)
theorem zDC{α:Type}{x:Str}{a:α}:∀{l:List (Str×α)},(x,a)∈l->∃b,l.lookup x=some b
 |[],h=>by simp at h
 |(y,b)::r,h=>by
  rw[qBn];cases e:x==y with
  |true=>exact⟨b,rfl⟩
  |false=>
   rcases qAb.mp h with q|q
   ·injection q with q1 _
    subst q1;rw[beq_self_eq_true]at e;cases e
   ·exact zDC q
theorem zGL{α:Type}{x:Str}:∀(l k:List (Str×α)),(l++k).lookup x=(l.lookup x).or (k.lookup x)
 |[],k=>by simp
 |(y,b)::r,k=>by
  show qGm x ((y,b)::(r++k))=_;rw[qBn,qBn];cases x==y with
  |true=>rfl
  |false=>exact zGL r k
def zZ0(sc:Scope)(env:Env):Prop:=∀x,(x,qIg)∈sc.names->env.kindOf x=some .cell\/env.kindOf x=some .free
theorem zE4{sc:Scope}{env:Env}(h:∀x,(x,qIg)∈sc.names->∃c,env.cells.lookup x=some c):closureFor sc env=pure (clos env.cells sc.names []):=by
 have go:∀(names:List (Str×qJc))(acc:List (Str×Addr)),(∀x,(x,qIg)∈names->∃c,env.cells.lookup x=some c) ->
   (forIn names acc fun(x:Str×qJc)(cs:List (Str×Addr))=>(match x with|(name,kind)=>if(kind==qIg)=true then(do let c <- cellOf env name;pure (qCn ((name,c)::cs)))else pure (qCn cs):Sem (ForInStep (List (Str×Addr)))))=pure (clos env.cells names acc):=by
  intro names
  induction names with
  |nil=>intro acc _;rfl
  |cons p r ih=>
   intro acc hn;obtain⟨n,k⟩:=p;have hr:∀x,(x,qIg)∈r->∃c,env.cells.lookup x=some c:=fun x hx=>hn x (qAs _ hx)
   rw[qEy];unfold clos
   by_cases hk:(k==qIg)=true
   ·have hk':k=.free:=by simpa using hk
    subst hk';obtain⟨c,hc⟩:=hn n qAw;have e:cellOf env n=pure c:=by unfold cellOf;rw[hc]
    rw[if_pos (by rfl)];simp only[if_pos (show(qIg==qIg)=true from rfl),e,hc,qEp,pure_bind];exact ih _ hr
   ·rw[if_neg hk];simp only[if_neg hk,pure_bind];exact ih _ hr
 unfold closureFor;have q:=go sc.names [] h
 first
  |(rw[show(forIn sc.names ([]:List (Str×Addr)) _:Sem (List (Str×Addr)))=_ from q];rfl)
  |(refine(congrArg (fun z=>z >>= pure) q).trans ?_;rfl)
  |(simp only[q];rfl)
  |exact q
def zD3(sc:Scope)(C:Addr)(env:Env):Env:=
 { scope:=relabel sc env,locals:=C,globals:=env.globals,cells:=cellsFrom (C+1) sc.names (clos env.cells sc.names []),qual:=env.qual,func:=none,code:=env.code,frame:=env.frame,builtins:=env.builtins }
theorem zDR{M:Model}{A:qIc}{E:Value->qI8->Prop}{s:qI8}{sc:Scope}{env:Env}{cl:List (Str×Addr)}{Q:Env->qI8->Prop}
  (hQ:Q { scope:=sc,locals:=s.heap.objs.size,globals:=env.globals,cells:=cellsFrom (s.heap.objs.size+1) sc.names cl,qual:=env.qual,func:=none,code:=env.code,frame:=env.frame,builtins:=env.builtins }
   { s with heap:=pushCells (s.heap.push { cls:=.type "dict",data:=.dict #[] }) sc.names }) :
  wpAny M A (newFunctionEnv sc env.globals cl [] env.qual none .none (some env)) Q E s:=by
 simp only[newFunctionEnv,qFn,if_true];refine wpAny_bind (wpAny_alloc ?_);refine wpAny_bind (wpAny_layCells _ (fun name kind cells=>by cases hkc:kind==qIy<;>simp[hkc]) _ _ _ _ ?_);rw[show({ s with heap:=s.heap.push { cls:=.type "dict",data:=.dict #[] } }:qI8).heap.objs.size=s.heap.objs.size+1 from qIk ..];refine wpAny_bind ?_;rw[List.forIn_nil];exact wpAny_pure (wpAny_pure hQ)
def zCD(X:Cx)(N':List Str)(sc:Scope)(C:Addr)(s:qI8)(H:Hp)(fp:List Addr):Cx:=
 { X with N:=N',s₀:=s,H₀:=H,env:=zD3 sc C X.env,outer:=X.stack,stack:=X.stack,ex:=fp,fn:=fun x=>sc.names.lookup x==some .cell,pn:=[],xe:=fun _ _=>False }
def PTs(X:Cx)(ifs:List Expr)(t:TT):Prop:=
 ∀(pins:List (Addr×Obj))(s:qI8)(σ:St)(H:Hp)(Q:Bool->Hp->Prop),Inv X pins σ H s->t σ H Q ->
  wpAny (model X.prog X.w) X.A (forIn ifs true fun c r=>if r=true then do let ok <- isTrue c X.env (eval c X.env);pure (qCn ok)else pure (qCn r)) (TP X pins σ Q) X.xe s
noncomputable def tYes:TT:=fun _ H Q=>Q true H
theorem zCF{X:Cx}:PTs X [] tYes:=fun _ _ _ H _ I h=>wpAny_tests_nil ⟨H,I,h⟩
theorem zU8{X:Cx}{c:Expr}{t:TT}(h:PT X c t):PTs X [c] t:=fun pins s σ H Q I q=>wpAny_tests_one (h pins s σ H Q I q)
structure CompNames(N N':List Str)(k:Nat)(sc:Scope)(env:Env):Prop where
 kind:sc.kind=.function
 nd:(sc.names.map (·.1)).Nodup
 len:N'.length=N.length+k
 old:∀(i:Nat)(x:Str),N'[i]?=some x->i<N.length->(x,qIg)∈sc.names/\N[i]?=some x\/sc.names.lookup x=none
 free:zZ0 sc env
theorem zB7{sc:Scope}{env:Env}{x:Str}{k:qJc}:∀{names:List (Str×qJc)},
  (names.map fun(n,k)=>if(k==qIg&&env.scope.kind==.function&&env.kindOf n==some .cell)then(n,qIy)else(n,k)).lookup x=some k ->
  names.lookup x=some k\/(names.lookup x=some .free/\k=.cell)
 |[],h=>by simp at h
 |(n,j)::r,h=>by
  have ih:=@zB7 sc env x k r;rw[qAk]at h;rw[qBn]
  by_cases hc:(j==qIg&&env.scope.kind==.function&&env.kindOf n==some .cell)=true
  ·have h':qGm x ((n,qIy)::(r.map fun(n,k)=>if(k==qIg&&env.scope.kind==.function&&env.kindOf n==some .cell)then(n,qIy)else(n,k)))=some k:=by
    rw[<- h];simp only[if_pos hc]
   rw[qBn]at h';cases e:x==n with
   |true=>
    rw[e]at h';have hk:k=.cell:=(qB8 h').symm;have hj:j=.free:=by
     simp only[qBd,beq_iff_eq]at hc;exact hc.1.1
    subst hj;exact .inr ⟨rfl,hk⟩
   |false=>
    rw[e]at h';exact ih h'
  ·have h':qGm x ((n,j)::(r.map fun(n,k)=>if(k==qIg&&env.scope.kind==.function&&env.kindOf n==some .cell)then(n,qIy)else(n,k)))=some k:=by
    rw[<- h];simp only[if_neg hc]
   rw[qBn]at h';cases e:x==n with
   |true=>rw[e]at h';exact .inl h'
   |false=>rw[e]at h';exact ih h'
section
variable{X:Cx}{N':List Str}{k:Nat}{sc:Scope}{pins:List (Addr×Obj)}{σ:St}{H:Hp}{s:qI8}
theorem zNI{C:Addr}{x:Str}{c:Addr}(nd:(sc.names.map (·.1)).Nodup)(h:(zD3 sc C X.env).cells.lookup x=some c) :
  ((x,c)∈cellsFrom (C+1) sc.names []/\(x,qIy)∈sc.names)\/((x,qIg)∈sc.names/\c=(X.env.cells.lookup x).getD 0):=by
 have m:=mem_of_lookup h;have m':(x,c)∈cellsFrom (C+1) sc.names (clos X.env.cells sc.names []):=m;rw[zB6]at m'
 rcases qAq.mp m' with z|z
 ·exact .inl ⟨z,zBQ z⟩
 ·exact .inr (zEZ z)
theorem zDG{C:Addr}{x:Str}(nd:(sc.names.map (·.1)).Nodup)(h:(x,qIg)∈sc.names):(zD3 sc C X.env).cells.lookup x=some ((X.env.cells.lookup x).getD 0):=by
 show(cellsFrom (C+1) sc.names (clos X.env.cells sc.names [])).lookup x=_
 rw[zB6,zGL,zDD (fun a m=>?_),Option.none_or]
 ·obtain⟨b,hb⟩:=zDC (zI1 (cells:=X.env.cells) h)
  have:=(zEZ (mem_of_lookup hb)).2
  rw[hb,this]
 ·have e1:=zBF nd (zBQ m);rw[zBF nd h]at e1;cases e1
theorem zRV(I:Inv X pins σ H s)(hc:X.calm=true)(S:CompNames X.N N' k sc X.env){fp:List Addr}(hf:∀b∈fp,FpOk X pins H b)(hfo:∀b∈fp,∃o,s.heap.get? b=some o)
  {s4:qI8} {D C:Addr} (eD:D=s.heap.objs.size) (eC:C=s.heap.objs.size+1)
  (e4:s4={ s with heap:=pushCells ((s.heap.push { cls:=.type "list",data:=.seq #[] 0 }).push { cls:=.type "dict",data:=.dict #[] }) sc.names }) :
  Inv (zCD X N' sc C s H fp) [(D,{ cls:=.type "list",data:=.seq #[] 0 })] (σ++qAa k none) H s4/\∀b∈fp,FpOk (zCD X N' sc C s H fp) [(D,{ cls:=.type "list",data:=.seq #[] 0 })] H b:=by
 subst eD eC e4
 generalize hh1:s.heap.push { cls:=.type "list",data:=.seq #[] 0 }=h1
 generalize hh2:h1.push { cls:=.type "dict",data:=.dict #[] }=h2
 have sz1:h1.objs.size=s.heap.objs.size+1:=by rw[<- hh1];exact qIk ..
 have sz2:h2.objs.size=s.heap.objs.size+2:=by rw[<- hh2,qIk,sz1]
 have k1:∀b o,s.heap.get? b=some o->h1.get? b=some o:=fun b o e=>by rw[<- hh1];exact qI7 _ e
 have k2:∀b o,h1.get? b=some o->h2.get? b=some o:=fun b o e=>by rw[<- hh2];exact qI7 _ e
 have k3:∀b o,h2.get? b=some o->(pushCells h2 sc.names).get? b=some o:=pushCells_keeps sc.names h2;have kk:∀b o,s.heap.get? b=some o->(pushCells h2 sc.names).get? b=some o:=fun b o e=>k3 b o (k2 b o (k1 b o e))
 have own:CellsOk (pushCells h2 sc.names) h2.objs.size (cellsFrom h2.objs.size sc.names []):=cellsFrom_ok sc.names h2 h2.objs.size [] ⟨fun _ _ hm=>(nomatch hm),qFz⟩ (qA8 _);have eC1:s.heap.objs.size+1+1=h2.objs.size:=by rw[sz2]
 have freeCell:∀x,(x,qIg)∈sc.names->∃c,X.env.cells.lookup x=some c:=fun x hx=>I.ok.has x (S.free x hx)
 have cells:∀x c,(zD3 sc (s.heap.objs.size+1) X.env).cells.lookup x=some c ->
   ((x,c)∈cellsFrom h2.objs.size sc.names []/\(x,qIy)∈sc.names/\(pushCells h2 sc.names).IsCell c none/\h2.objs.size<=c)\/((x,qIg)∈sc.names/\X.env.cells.lookup x=some c):=fun x c e=>by
  rcases zNI S.nd e with⟨m,q⟩|⟨m,q⟩
  ·rw[eC1]at m;exact .inl ⟨m,q,(own.empty x c m).1,(own.empty x c m).2⟩
  ·obtain⟨c',hc'⟩:=freeCell x m;rw[hc',qEp]at q;subst q;exact .inr ⟨m,hc'⟩
 have old:∀x c,X.env.cells.lookup x=some c->c<s.heap.objs.size:=fun x c e=>by
  obtain⟨v,q⟩:=I.cell x c e;exact q.lt
 have fpl:∀b∈fp,b<s.heap.objs.size:=fun b hb=>by
  obtain⟨o,e⟩:=hfo b hb;exact qI9 e
 have hCn:H (s.heap.objs.size+1)=none:=I.hok.fresh (qC3 _);have hDn:H s.heap.objs.size=none:=I.hok.fresh (qA8 _);have nofs:∀a,s.heap.objs.size<=a->a∉frs X.stack:=fun a ha hb=>by
  rcases qAb.mp (I.stkSub a hb)with e|hb
  ·have t1:=asN I.lt;have t2:=asE e;have t3:=asL ha
   lia
  ·exact I.nofs ha hb
 have fin:∀b∈fp,b∉frs X.stack:=fun b hb z=>by
  obtain⟨f0,f1,f2,f3,f4,f5⟩:=hf b hb
  rcases qAb.mp (I.stkSub b z)with e|z
  ·exact f1 e
  ·exact f2 z
 have ok:(zCD X N' sc (s.heap.objs.size+1) s H fp).Ok:=by
  refine⟨I.ok.mod,S.kind,I.ok.glob,I.ok.blt,qC3 _,?_,?_,?_,I.ok.hd,I.ok.frames,.inl rfl,?_,I.bs,qAl I.ok.bsz I.sz,?_,fin,I.stack,I.stkFree⟩
  ·intro x y c hx hy
   rcases cells x c hx with⟨m1,_,_,g1⟩|⟨m1,g1⟩<;>rcases cells y c hy with⟨m2,_,_,g2⟩|⟨m2,g2⟩
   ·exact name_of_addr own.apart m1 m2
   ·exact absurd (qAf (old y c g2) (qAl (by rw[sz2];exact qGg _ _) g1)) (qBv _)
   ·exact absurd (qAf (old x c g1) (qAl (by rw[sz2];exact qGg _ _) g2)) (qBv _)
   ·exact I.ok.inj x y c g1 g2
  ·intro x hx;have hx:(relabel sc X.env).names.lookup x=some .cell\/(relabel sc X.env).names.lookup x=some .free:=hx;have two:sc.names.lookup x=some .cell\/sc.names.lookup x=some .free:=by
    rcases hx with hx|hx
    ·rcases zB7 (sc:=sc) hx with q|⟨q,_⟩
     ·exact .inl q
     ·exact .inr q
    ·rcases zB7 (sc:=sc) hx with q|⟨_,q⟩
     ·exact .inr q
     ·cases q
   rcases two with q|q
   ·have:=qDd sc.names (s.heap.objs.size+1+1) (clos X.env.cells sc.names []) (.inl q)
    exact qEd.mp this
   ·exact⟨_,zDG S.nd (mem_of_lookup q)⟩
  ·intro x c hx e;have hx:(sc.names.lookup x==some qIy)=true:=hx;have hx':sc.names.lookup x=some .cell:=by simpa using hx
   rcases cells x c e with⟨_,_,_,g⟩|⟨m,_⟩
   ·show s.heap.objs.size<=c
    lia
   ·rw[zBF S.nd m]at hx';cases hx'
  ·intro b hb;refine⟨?_,fun x c e z=>?_⟩
   ·exact qAj (qBa (fpl b hb))
   ·rcases cells x c e with⟨_,_,_,g⟩|⟨_,g⟩
    ·have t1:=asN (fpl b hb);have t2:=asL g;have t3:=asE z
     lia
    ·exact(hf b hb).2.2.2.2.1 x c g z
  ·intro b o e hb
   rcases(hf b hb).2.2.2.1 with z|z
   ·exact I.ok.noex b o e z
   ·exact absurd (qAf (qI9 e) (qAl I.ok.bsz z)) (qBv _)
 have ns:(pushCells h2 sc.names).Ns (s.heap.objs.size+1) fun _=>none:=by
  have q:h2.Ns h1.objs.size fun _=>none:=by rw[<- hh2];exact Heap.Ns.new h1 (.type "dict")
  rw[sz1]at q;exact q.keeps k3
 have hD1:h1.get? s.heap.objs.size=some { cls:=.type "list",data:=.seq #[] 0 }:=by rw[<- hh1];exact qIa _ rfl
 refine⟨⟨ok,rfl,I.bare,Un.kept kk,⟨_,ns,?_⟩,?_,hCn,?_,?_,I.hok.kept kk,?_⟩,?_⟩
 ·intro i x v h1 h2 h3;have hi:i<X.N.length:=by
   rw[<- I.len]
   by_cases hi:i<σ.length
   ·exact hi
   ·rw[qA7 (by lia),qBw]at h2
    split at h2<;>cases h2
  have h2':σ[i]?=some (some v):=by
   rw[qA6 (by rw[I.len];exact hi)]at h2;exact h2
  have h1:N'[i]?=some x:=h1
  rcases S.old i x h1 hi with⟨m,e⟩|e
  ·obtain⟨mm,hn,hl⟩:=I.loc;have hv:Vis X.env.scope x:=(S.free x m).elim (fun z=>.inr (.inl z)) fun z=>.inr (.inr z)
   obtain⟨u,r,l⟩:=hl i x v e h2' hv;refine⟨u,r,?_⟩
   rcases l with⟨z,_⟩|⟨_,c,hc,hcell⟩
   ·rcases S.free x m with z'|z'<;>rw[z]at z'<;>cases z'
   ·refine .inr ⟨?_,c,?_,hcell.keeps kk⟩
    ·have hv3:(relabel sc X.env).names.lookup x=some .local\/(relabel sc X.env).names.lookup x=some .cell\/(relabel sc X.env).names.lookup x=some .free:=h3
     rcases hv3 with q|q|q
     ·rcases zB7 (sc:=sc) q with q|⟨_,q⟩
      ·rw[zBF S.nd m]at q;cases q
      ·cases q
     ·exact .inl q
     ·exact .inr q
    ·have q:=zDG (X:=X) (C:=s.heap.objs.size+1) S.nd m;rw[hc,qEp]at q;exact q
  ·exfalso
   have hv3:(relabel sc X.env).names.lookup x=some .local\/(relabel sc X.env).names.lookup x=some .cell\/(relabel sc X.env).names.lookup x=some .free:=h3
   rcases hv3 with q|q|q<;>rcases zB7 (sc:=sc) q with q|⟨q,_⟩<;>rw[e]at q<;>cases q
 ·intro x c e
  rcases cells x c e with⟨_,_,g,_⟩|⟨_,g⟩
  ·exact⟨_,g⟩
  ·obtain⟨v,q⟩:=I.cell x c g;exact⟨v,q.keeps kk⟩
 ·intro x c e
  rcases cells x c e with⟨_,_,_,g⟩|⟨_,g⟩
  ·exact I.hok.fresh (by lia)
  ·exact I.freeC x c g
 ·intro p hp;have hp':p=(s.heap.objs.size,{ cls:=.type "list",data:=.seq #[] 0 }):=by
   have:p∈([]++[(s.heap.objs.size,({ cls:=.type "list",data:=.seq #[] 0 }:Obj))]:List (Addr×Obj)):=hp
   simpa using this
  subst hp';refine⟨k3 _ _ (k2 _ _ hD1),hDn,?_,nofs _ (qA8 _),fun v z=>by cases z⟩;show s.heap.objs.size≠s.heap.objs.size+1
  lia
 ·show(σ++qAa k none).length=N'.length
  rw[qAr,qC8,I.len,S.len]
 ·intro b hb;obtain⟨f0,f1,f2,f3,f4,f5⟩:=hf b hb;refine⟨f0,(ok.exf b hb).1,fin b hb,.inl hb,fun x c e=>(ok.exf b hb).2 x c e,fun p hp=>?_⟩;have hp':p=(s.heap.objs.size,{ cls:=.type "list",data:=.seq #[] 0 }):=by
   have:p∈([]++[(s.heap.objs.size,({ cls:=.type "list",data:=.seq #[] 0 }:Obj))]:List (Addr×Obj)):=hp
   simpa using this
  subst hp';exact qBm (fpl b hb)
end
theorem zD8{prog:qIb}{w:World}{A:qIc}{R:qLu->qI8->Prop}{s:qI8}{elt target iter:Expr}{ifs:List Expr}{scope:Scope}{pos:Pos}{it acc:Value}{env:Env}(I:Nat->qI8->Prop)
  (turn:∀n s,I n s->wpAny (model prog w) A (pyNext it) (fun r s₁=>match r with
   |none=>R (.ok .next) s₁
   |some v=>wpAny (model prog w) A (letOwnedTupleGo target it v) (fun _ s₂'=>wpAny (model prog w) A (assign target env v) (fun _ s₂=>
     wpAny (model prog w) A (forIn ifs true fun c r=>if r=true then do let ok <- isTrue c env (eval c env);pure (qCn ok)else pure (qCn r)) (fun ok s₃=>
      if ok=true then wpAny (model prog w) A (eval elt env) (fun x s₄=>
       wpAny (model prog w) A (call (.builtin "list.append") [acc,x]) (fun _ s₅=>∃m,m<n/\I m s₅) (fun _ _=>False) s₄) (fun _ _=>False) s₃
      else ∃m,m<n/\I m s₃) (fun _ _=>False) s₂) (fun _ _=>False) s₂') (fun _ _=>False) s₁) (fun _ _=>False) s)
  (n:Nat) (h:I n s) :
  qK8 (model prog w) A (.compLoop (.ListComp elt [⟨target,iter,ifs,0⟩] scope pos) 0 it acc env) R s:=by
 refine codeAny_loop rfl I (fun n s hI=>?_) n h;show wpAny _ A ((compTurn (.ListComp elt [⟨target,iter,ifs,0⟩] scope pos) 0 it acc env).onRaise (fun x=>do noteFrame x env;theTreesLotGoes x)) _ _ s;refine wpAny_noted ?_;rw[compTurn_list];refine wpAny_bind (wpAny_standAt (wpAny_bind (wpAny_mono (turn n s hI) (fun r s₁ h₁=>?_) fun _ _ z=>z.elim)));cases r with
 |none=>exact wpAny_pure h₁
 |some v=>
  refine wpAny_bind (wpAny_mono h₁ (fun _ s₂' h₂'=>?_) fun _ _ z=>z.elim);refine wpAny_bind (wpAny_mono h₂' (fun _ s₂ h₂=>wpAny_bind (wpAny_mono h₂ (fun ok s₃ h₃=>?_) fun _ _ z=>z.elim)) fun _ _ z=>z.elim);cases ok with
  |false=>exact wpAny_pure ⟨rfl,h₃⟩
  |true=>
   exact wpAny_bind (wpAny_bind (wpAny_mono h₃ (fun x s₄ h₄=>wpAny_bind (wpAny_mono h₄ (fun _ s₅ h₅=>wpAny_pure (wpAny_pure ⟨rfl,h₅⟩)) fun _ _ z=>z.elim)) fun _ _ z=>z.elim))
def zSJ(k:Nat)(g:TG)(tif:TT)(te:TE)(σ:St)(Q:VK)(J:It)(H1:Hp):Prop:=∃W:Nat->Nat->List V->Hp->Prop,(∃m,W 0 m [] H1)/\∀i m acc H,W i m acc H ->
 (J.stop i H/\∀D,H D=none->Q (.ref D) (upd H D (.lst acc))) \/
 (J.go i H/\acc.length<sizeLine/\∃N:List V->Hp->Prop,(∀acc' H',N acc' H'->∃m',m'<m/\W (i+1) m' acc' H')/\∀x H',J.yld i H x H'->g x (σ++qAa k none) H' fun σ2 H2=>∃own:St,own.length=k/\σ2=σ++own/\tif σ2 H2 fun b H3=>if b=true then te σ2 H3 fun v H4=>N (acc++[v]) H4 else N acc H3)
noncomputable def zTV(wi:TI)(k:Nat)(g:TG)(tif:TT)(te:TE):TE:=fun σ H Q=>wi σ H (zSJ k g tif te σ Q)
theorem HOk.track{P:qIb}{w:World}{H:Hp}{h:Heap}{a:Addr}{o:HO}(x:HOk P w H h)(hn:H a=none)(new:ObjOk P w (upd H a o) h a o):HOk P w (upd H a o) h:=fun b u e=>by
 by_cases hb:b=a
 ·subst hb;rw[zAD]at e;cases e;exact new
 ·rw[zAE hb]at e;exact(x b u e).stay (fun c v _ q=>q) (fun c q=>by rw[zAE (zAH q hn)];exact q) (fun c xs q=>by rw[zAE (zAH q hn)];exact q) fun c _ _ q _=>by rw[zAE (zAH q hn)];exact q
section
variable{X:Cx}{N':List Str}{k:Nat}{sc:Scope}{tg iter elt:Expr}{ifs:List Expr}{wi:TI}{g:TG}{tif:TT}{te:TE}{pos:Pos}
theorem zGS{pins:List (Addr×Obj)}{σ:St}{H2:Hp}{s2:qI8}{Q:VK}{RR:Value->Addr->qLu->qI8->Prop}{E:Value->qI8->Prop}(hc:X.calm=true)(S:CompNames X.N N' k sc X.env)
  (hg:∀C s H fp,PG (zCD X N' sc C s H fp) tg g) (hif:∀C s H fp,PTs (zCD X N' sc C s H fp) ifs tif) (he:∀C s H fp,PE (zCD X N' sc C s H fp) elt te)
  {it:Addr} {fp:List Addr} {tn:Nat->Heap->Prop} {J:It} (I2:Inv X pins σ H2 s2) (T:Turn X.prog X.w X.K tg J fp it tn) (st2:tn 0 s2.heap) (f2:∀b∈fp,FpOk X pins H2 b)
  {W:Nat->Nat->List V->Hp->Prop} {m0:Nat} (w0:W 0 m0 [] H2)
  (turn:∀i m acc H,W i m acc H->(J.stop i H/\∀D,H D=none->Q (.ref D) (upd H D (.lst acc))) \/
   (J.go i H/\acc.length<sizeLine/\∃N:List V->Hp->Prop,(∀acc' H',N acc' H'->∃m',m'<m/\W (i+1) m' acc' H')/\∀x H',J.yld i H x H'->g x (σ++qAa k none) H' fun σ2 H2=>∃own:St,own.length=k/\σ2=σ++own/\tif σ2 H2 fun b H3=>if b=true then te σ2 H3 fun v H4=>N (acc++[v]) H4 else N acc H3))
  (hRR:∀D C s' H',D<C->s2.heap.objs.size<=D->(∃m,s'.heap.Ns C m)->H' C=none->C∉frs X.stack->Inv X pins σ H' s'->Q (.ref D) H'->RR (.ref D) C (.ok .next) s') :
  wpAny (model X.prog X.w) X.A (newList []) (fun acc s₃=>wpAny (model X.prog X.w) X.A (newFunctionEnv sc X.env.globals (clos X.env.cells sc.names []) [] X.env.qual none .none (some X.env)) (fun cenv s₄=>
   qK8 (model X.prog X.w) X.A (.compStart (.ListComp elt [⟨tg,iter,ifs,0⟩] sc pos) 0 (.ref it) acc { cenv with scope:=relabel sc X.env }) (RR acc cenv.locals) s₄) E s₃) E s2:=by
 refine wpAny_newObj_type (zDR ?_);show qK8 _ _ (.compStart _ 0 (.ref it) (.ref s2.heap.objs.size) _) _ _;have szp:(s2.heap.push { cls:=.type "list",dict:=none,data:=.seq ([]:List Value).toArray }).objs.size=s2.heap.objs.size+1:=qIk ..;obtain⟨I4,F4⟩:=zRV (s4:={ s2 with heap:=pushCells ((s2.heap.push { cls:=.type "list",data:=.seq #[] 0 }).push { cls:=.type "dict",data:=.dict #[] }) sc.names }) I2 hc S f2 (fun b hb=>let⟨o,e,_⟩:=T.obj 0 _ st2 b hb;⟨o,e⟩) rfl rfl rfl
 generalize hC:(s2.heap.push { cls:=.type "list",dict:=none,data:=.seq ([]:List Value).toArray }).objs.size=C at *
 have eC:C=s2.heap.objs.size+1:=szp;rw[<- eC]at I4 F4
 generalize hs4:({ s2 with heap:=pushCells ((s2.heap.push { cls:=.type "list",data:=.seq #[] 0 }).push { cls:=.type "dict",data:=.dict #[] }) sc.names }:qI8)=s4 at I4 F4
 have kk:∀b o,s2.heap.get? b=some o->s4.heap.get? b=some o:=fun b o e=>by
  rw[<- hs4];exact pushCells_keeps sc.names _ b o (qI7 _ (qI7 _ e))
 have st4:tn 0 s4.heap:=T.keep 0 _ _ st2 fun b _ o e=>kk b o e
 generalize hX':zCD X N' sc C s2 H2 fp=X' at I4 F4
 have henv:X'.env=zD3 sc C X.env:=by rw[<- hX'];rfl
 have xprog:X'.prog=X.prog:=by rw[<- hX'];rfl
 have xw:X'.w=X.w:=by rw[<- hX'];rfl
 have xK:X'.K=X.K:=by rw[<- hX'];rfl
 have xcalm:X'.calm=true:=by rw[<- hX'];exact hc
 have xA:X'.A=X.A:=by rw[<- hX'];rfl
 have xpn:X'.pn=[]:=by rw[<- hX'];rfl
 have xxe:X'.xe=fun _ _=>False:=by rw[<- hX'];rfl
 have xs0:X'.s₀=s2:=by rw[<- hX'];rfl
 have xH0:X'.H₀=H2:=by rw[<- hX'];rfl
 have xfs:X'.fs=frs X.stack:=by rw[<- hX'];rfl
 have xex:X'.ex=fp:=by rw[<- hX'];rfl
 have hgX:PG X' tg g:=by rw[<- hX'];exact hg C s2 H2 fp
 have hifX:PTs X' ifs tif:=by rw[<- hX'];exact hif C s2 H2 fp
 have heX:PE X' elt te:=by rw[<- hX'];exact he C s2 H2 fp
 have locC:X'.env.locals=C:=by rw[henv];rfl
 generalize hDd:s2.heap.objs.size=D at *
 have loop:qK8 (model X.prog X.w) X.A (.compLoop (.ListComp elt [⟨tg,iter,ifs,0⟩] sc pos) 0 (.ref it) (.ref D) (zD3 sc C X.env)) (RR (.ref D) C) s4:=by
  refine zD8 (fun n s'=>∃i H' acc its nn,Inv X' [] (σ++qAa k none) H' s'/\tn i s'.heap/\(∀b∈fp,H' b=none)/\H' D=none/\W i n acc H'/\acc.length<=sizeLine/\Vals acc its/\s'.heap.get? D=some { cls:=.type "list",data:=.seq its.toArray nn }) ?_ m0 ?_
  ·rintro n s5 ⟨i,H5,acc,its,nn,I5,st5,fr5,hD5,w5,hz5,rv5,hL5⟩
   have hDlt:D<C:=by rw[eC];exact qBu _
   have pinD:Inv X' [(D,{ cls:=.type "list",data:=.seq its.toArray nn })] (σ++qAa k none) H5 s5:=I5.pins_of fun p hp=>by
    have hp':p=(D,{ cls:=.type "list",data:=.seq its.toArray nn }):=by simpa using hp
    subst hp';refine⟨hL5,hD5,?_,?_,fun v z=>by cases z⟩
    ·rw[locC];exact qAj hDlt
    ·have q:=(I4.pin (D,{ cls:=.type "list",data:=.seq #[] 0 }) (by simp)).2.2.2.1;exact q
   have fpD:∀{H':Hp}{oo:Obj},(∀b∈fp,H' b=none)->∀b∈fp,FpOk X' [(D,oo)] H' b:=fun{H' oo} hn b hb=>by
    obtain⟨f0,f1,f2,f3,f4,f5⟩:=F4 b hb;refine⟨hn b hb,f1,f2,f3,f4,fun p hp=>?_⟩;have hp':p=(D,oo):=by
     rw[xpn]at hp
     simpa using hp
    subst hp';exact f5 (D,{ cls:=.type "list",data:=.seq #[] 0 }) (by simp)
   rcases turn i n acc H5 w5 with⟨stop,q⟩|⟨go,hlt,N,hN,step⟩
   ·have dn:=T.done X' xprog xw xK xcalm i _ s5 _ H5 (fun _ _=>False) pinD (fpD fr5) st5 stop;rw[xA]at dn;refine thn dn fun r s6 z0=>?_
    obtain⟨hr,I6⟩:=z0;subst hr;show RR (.ref D) C (.ok .next) s6;have hL6:=(I6.pin (D,{ cls:=.type "list",data:=.seq its.toArray nn }) (by simp)).1;have un6:Un (frs X.stack) fp H2 H5 s2.heap s6.heap:=by
     have:=I6.base
     rw[xs0,xH0,xfs,xex]at this;exact this
    have hok6:HOk X.prog X.w H5 s6.heap:=by
     have:=I6.hok
     rw[xprog,xw]at this;exact this
    have hDno:s2.heap.get? D=none:=qJf (by rw[hDd];exact qA8 _);have un7:Un (frs X.stack) fp H2 (upd H5 D (.lst acc)) s2.heap s6.heap:=
     ⟨un6.keep,un6.slot,fun b o e n hx=>by
       have hb:b≠D:=by rintro rfl;rw[hDno]at e;cases e
       rw[zAE hb];exact un6.free b o e n hx,un6.there,
      fun b xs e=>by
       have e':=un6.tups b xs e;rw[zAE (zAH e' hD5)];exact e',
      fun b o u e=>by
       have e':=un6.frzs b o u e;rw[zAE (zAH e' hD5)];exact e',
      fun b ps e=>by
       obtain⟨more,e'⟩:=un6.tbls b ps e;exact⟨more,by rw[zAE (zAH e' hD5)];exact e'⟩⟩
    have hok7:HOk X.prog X.w (upd H5 D (.lst acc)) s6.heap:=hok6.track hD5 ⟨hz5,its,nn,rv5,hL6⟩;have os6:s6.os=s2.os:=by have:=I6.os;rw[xs0]at this;exact this
    have I7:Inv X pins σ (upd H5 D (.lst acc)) s6:=I2.call' os6 un7 hok7 I6.bare fun b hb=>by
     obtain⟨f0,f1,f2,f3,f4,f5⟩:=f2 b hb;exact⟨f3,f1,f4,f5⟩
    obtain⟨mm,hn,_⟩:=I6.loc;rw[locC]at hn;have hC5:H5 C=none:=by have:=I6.free;rw[locC]at this;exact this
    refine hRR D C s6 (upd H5 D (.lst acc)) hDlt (qA8 _) ⟨mm,hn⟩ ?_ ?_ I7 (q D hD5)
    ·rw[zAE (qBm hDlt)];exact hC5
    ·intro hb
     rcases qAb.mp (I2.stkSub C hb)with e|hb
     ·have t1:=asN I2.lt;have t2:=asE e;rw[hDd]at t1;have t3:=asN hDlt
      lia
     ·exact I2.nofs (by rw[hDd];exact qCd hDlt) hb
   ·have itm:=T.item X' xprog xw xK xcalm i _ s5 _ H5 (fun _ _=>False) pinD (fpD fr5) st5 go;rw[xA]at itm;refine thn itm fun r s6 z0=>?_
    obtain⟨u,hr,h6⟩:=z0;subst hr;refine thn h6 fun _ s7 z0=>?_
    obtain⟨x,H7,I7,r7,y7,st7,fr7⟩:=z0;have I7':Inv X' ([(D,{ cls:=.type "list",data:=.seq its.toArray nn })]++zGH fp s7.heap) (σ++qAa k none) H7 s7:=I7.pinned (fpD fr7) (T.obj _ _ st7);have asg:=hgX _ s7 _ H7 x u _ I7' r7 (step x H7 y7);rw[xprog,xw,xA,henv,xxe]at asg;refine thn asg fun _ s8 z0=>?_
    obtain⟨σ8,H8,I8,own,hown,hσ8,q8⟩:=z0;have weak:∀{pl:List (Addr×Obj)}{H':Hp}{s':qI8},Inv X' pl σ8 H' s'->Inv X' [] (σ++qAa k none) H' s':=fun{pl H' s'} J'=>by
     have J0:Inv X' [] σ8 H' s':=J'.pins_of (fun p hp=>by simp at hp);refine J0.weak (by rw[hσ8];simp[hown]) fun j v hj=>?_
     rw[hσ8]
     by_cases hjl:j<σ.length
     ·rw[qA6 hjl]at hj ⊢;exact hj
     ·rw[qA7 (by lia),qBw]at hj
      split at hj<;>cases hj
    have tst:=hifX _ s8 σ8 H8 _ I8 q8;rw[xprog,xw,xA,henv,xxe]at tst;refine thn tst fun b s9 z0=>?_
    obtain⟨H9,I9,q9⟩:=z0;have pin9:∀{σ':St}{H':Hp}{s':qI8},Inv X' ([(D,{ cls:=.type "list",data:=.seq its.toArray nn })]++zGH fp s7.heap) σ' H' s' ->
      s'.heap.get? D=some { cls:=.type "list",data:=.seq its.toArray nn }/\H' D=none/\tn (i+1) s'.heap/\(∀b∈fp,H' b=none):=fun{σ' H' s'} J'=>by
     have a1:=J'.pin (D,{ cls:=.type "list",data:=.seq its.toArray nn }) (by simp);refine⟨a1.1,a1.2.1,T.keep _ _ _ st7 fun b hb o e=>(J'.pin (b,o) (qAp _ (qAp _ (zD0 hb e)))).1,fun b hb=>?_⟩;obtain⟨o,e,d⟩:=T.obj _ _ st7 b hb;exact(J'.pin (b,o) (qAp _ (qAp _ (zD0 hb e)))).2.1
    cases b with
    |false=>
     rw[if_neg qAc];rw[if_neg qAc]at q9;obtain⟨m',hm,w9⟩:=hN _ _ q9;obtain⟨p1,p2,p3,p4⟩:=pin9 I9;exact⟨m',hm,i+1,H9,acc,its,nn,weak I9,p3,p4,p2,w9,hz5,rv5,p1⟩
    |true=>
     rw[if_pos rfl];rw[if_pos rfl]at q9;have ev:=heX _ s9 σ8 H9 _ I9 q9;rw[xprog,xw,xA,henv,xxe]at ev;refine thn ev fun y s10 z0=>?_
     obtain⟨v,H10,I10,r10,n10⟩:=z0;obtain⟨m',hm,w10⟩:=hN _ _ n10;obtain⟨p1,p2,p3,p4⟩:=pin9 I10;have hlen:its.length=acc.length:=rv5.length.symm;refine wpAny_list_append_plain (items:=its.toArray) ⟨nn,p1⟩ (fun h' hl' hs'=>?_) (by simp only[qAd];lia);have hDfp:D∉fp:=fun hb=>(F4 D hb).2.2.2.2.2 (D,{ cls:=.type "list",data:=.seq #[] 0 }) (by simp) rfl
     have I11:Inv X' [] (σ++qAa k none) H10 { s10 with heap:=h' }:=by
      have J0:Inv X' [] (σ++qAa k none) H10 s10:=weak I10;refine J0.turned (t':=s10.toks) (it:=D) (fun b o hb e=>(hs'.2 b hb).trans e) p2 ?_ (.inr ?_) (fun x c e z=>?_) (fun p hp=>?_)
      ·rw[locC];exact qAj hDlt
      ·rw[xs0,hDd];exact qA8 _
      ·obtain⟨v',q⟩:=J0.cell x c e;obtain⟨o,ho,hd⟩:=q;rw[z,p1]at ho;cases ho;cases hd
      ·rw[xpn]at hp;simp at hp
     obtain⟨n',hk⟩:=hl';have hk':h'.get? D=some { cls:=.type "list",data:=.seq (its++[y]).toArray n' }:=by rw[hk];simp
     refine⟨m',hm,i+1,H10,acc++[v],its++[y],n',I11,T.keep _ _ _ p3 fun b hb o e=>(hs'.2 b (fun z=>hDfp (z▸hb))).trans e,p4,p2,w10,?_,rv5.append (.cons r10 .nil),hk'⟩;rw[qAr,qDl]
     lia
  ·refine⟨0,H2,[],[],0,I4.pins_of (fun p hp=>by simp at hp),st4,fun b hb=>(f2 b hb).1,I2.hok.fresh (by rw[hDd];exact qA8 _),w0,qAy _,.nil,?_⟩;exact(I4.pin (D,{ cls:=.type "list",data:=.seq #[] 0 }) (by simp)).1
 exact codeAny_compStart_list loop (T.self _ 0 _ _ _ st4 loop)
theorem zDJ(hc:X.calm=true)(S:CompNames X.N N' k sc X.env)(hi:PI X tg iter wi)
  (hg:∀C s H fp,PG (zCD X N' sc C s H fp) tg g) (hif:∀C s H fp,PTs (zCD X N' sc C s H fp) ifs tif) (he:∀C s H fp,PE (zCD X N' sc C s H fp) elt te)
  (hs:∀x,qJv iter X.env x=pure x:=by intro _;rfl):PE X (.ListComp elt [⟨tg,iter,ifs,0⟩] sc pos) (zTV wi k g tif te):=by
 intro pins s σ H Q I h;rw[eval_ListComp];have hfree:∀x,(x,qIg)∈sc.names->∃c,X.env.cells.lookup x=some c:=fun x hx=>I.ok.has x (S.free x hx)
 refine wpAny_comprehension_free (use:=none) rfl hs (zE4 hfree) S.kind (fun x hx hl=>?_) ?_
 ·obtain⟨n,kd⟩:=x;dsimp only at hl ⊢;subst hl;exact zBF S.nd hx
 ·refine thn (hi pins s σ H _ I h) fun v s1 h1=>thn h1 fun itv s2 h2=>?_
  obtain⟨it,fp,tn,J,H2,e,I2,T,st2,f2,W,⟨m0,w0⟩,turn⟩:=h2;subst e;refine zGS (RR:=fun acc C=>compPost (model X.prog X.w) X.A X.xe none (EP X pins σ Q) acc C) hc S hg hif he I2 T st2 f2 w0 turn ?_;intro D C s' H' hDC hD hn hCn hCf I' q;obtain⟨m,hn⟩:=hn;refine⟨m,hn,fun h' hs'=>⟨.ref D,H',?_,rfl,q⟩⟩;have hCb:s2.heap.objs.size<=C:=qCd (qCl hD hDC);refine I'.turned (t':=s'.toks) (it:=C) (fun b o hb e=>(hs'.2 b hb).trans e) hCn ?_ (.inr (qAl I2.sz hCb)) (fun x c e z=>?_) (fun p hp z=>?_)
  ·exact qBm (qAf I2.lt hCb)
  ·obtain⟨v,q⟩:=I2.cell x c e;exact absurd z (qAj (qAf q.lt hCb))
  ·exact absurd z (qAj (qAf (qI9 (I2.pin p hp).1) hCb))
theorem zEC{i:Nat}{x:Str}{pos' spos:Pos}(hN:X.N.Nodup)(hi':X.N[i]?=some x)(hx:Loc X.env.scope x)(hc:X.calm=true)(S:CompNames X.N N' k sc X.env)(hi:PI X tg iter wi)
  (hg:∀C s H fp,PG (zCD X N' sc C s H fp) tg g) (hif:∀C s H fp,PTs (zCD X N' sc C s H fp) ifs tif) (he:∀C s H fp,PE (zCD X N' sc C s H fp) elt te)
  (hsw:qKt (.ListComp elt [⟨tg,iter,ifs,0⟩] sc pos) (some (.Name x pos')) spos.line X.env=pure true:=by rfl)
  (hs:∀x,qJv iter X.env x=pure x:=by intro _;rfl) (hf:X.fn x=true\/X.env.scope.names.lookup x=some .local:=by first|exact .inl rfl|exact .inr rfl|assumption) :
  PS X (.Assign [.Name x pos'] (.ListComp elt [⟨tg,iter,ifs,0⟩] sc pos) spos) (tAsg (zTV wi k g tif te) (zGB i)):=by
 intro pins s σ H Dn I h;rw[exec_Assign_Name_used _ _ _ _ hsw];refine wpAny_bind (wpAny_standAt (wpAny_bind ?_));show wpAny _ X.A (do let _ <- comprehension (.ListComp elt [⟨tg,iter,ifs,0⟩] sc pos) sc X.env _ (newList []) false (eval iter X.env) (some (assign (.Name x pos') X.env))) _ _ s;have hfree:∀x,(x,qIg)∈sc.names->∃c,X.env.cells.lookup x=some c:=fun x hx=>I.ok.has x (S.free x hx)
 refine wpAny_bind (wpAny_mono (wpAny_comprehension_free (use:=some (assign (.Name x pos') X.env)) (Q:=fun _ s'=>SP X pins Dn .next s') rfl hs (zE4 hfree) S.kind (fun x hx hl=>?_) ?_)
  (fun _ s' hq=>wpAny_pure (wpAny_pure hq)) fun _ _ e=>e)
 ·obtain⟨n,kd⟩:=x;dsimp only at hl ⊢;subst hl;exact zBF S.nd hx
 ·refine thn (hi pins s σ H _ I h) fun v s1 h1=>thn h1 fun itv s2 h2=>?_
  obtain⟨it,fp,tn,J,H2,e,I2,T,st2,f2,W,⟨m0,w0⟩,turn⟩:=h2;subst e;refine zGS (Q:=fun v H'=>zGB i v σ H' Dn.nx) (RR:=fun acc C=>compPost (model X.prog X.w) X.A X.xe (some (assign (.Name x pos') X.env)) (fun _ s'=>SP X pins Dn .next s') acc C) hc S hg hif he I2 T st2 f2 w0 turn ?_;intro D C s' H' hDC hD hn hCn hCf I' q;obtain⟨m,hn⟩:=hn;show wpAny _ _ (assign (.Name x pos') X.env (.ref D)) _ _ _;have hCb:s2.heap.objs.size<=C:=qCd (qCl hD hDC);have hCL:C≠X.env.locals:=qBm (qAf I2.lt hCb);have hCc:∀x c,X.env.cells.lookup x=some c->c≠C:=fun x c e z=>by
   obtain⟨v,q⟩:=I2.cell x c e;exact absurd z (qAj (qAf q.lt hCb))
  refine qLk (zIE (v:=.ref D) I' hN hi' hx rfl (fun s'' I'' ⟨a,sb,ha⟩=>?_) hf);have hCa:C≠a:=by
   rcases ha with e|e
   ·rw[e];exact hCL
   ·exact fun z=>hCc x a e z.symm
  refine⟨m,hn.sameBut sb hCa,fun h' hs'=>⟨_,H',?_,q⟩⟩;refine I''.turned (t':=s''.toks) (it:=C) (fun b o hb e=>(hs'.2 b hb).trans e) hCn hCL (.inr (qAl I2.sz hCb)) hCc (fun p hp z=>?_);exact absurd z (qAj (qAf (qI9 (I2.pin p hp).1) hCb))
theorem zGR{lo:Int}{n:Nat}{σ:St}{H:Hp}{Q:VK}(Pv:Nat->List V->Hp->Prop)(h0:Pv 0 [] H)(hz:∀i acc H,i<n->Pv i acc H->acc.length<sizeLine)
  (hs:∀i acc H,i<n->Pv i acc H->g (.int (lo+i)) (σ++qAa k none) H fun σ2 H2=>∃own:St,own.length=k/\σ2=σ++own/\tif σ2 H2 fun b H3=>if b=true then te σ2 H3 fun v H4=>Pv (i+1) (acc++[v]) H4 else Pv (i+1) acc H3)
  (hd:∀acc H,Pv n acc H->∀D,H D=none->Q (.ref D) (upd H D (.lst acc))) :
  zSJ k g tif te σ Q (Itr lo n) H:=by
 refine⟨fun i m acc H=>m=n-i/\i<=n/\Pv i acc H,⟨n,by simp,qAy _,h0⟩,?_⟩
 rintro i m acc H ⟨rfl,hi,p⟩
 by_cases hlt:i<n
 ·refine .inr ⟨hlt,hz i acc H hlt p,Pv (i+1),fun acc' H' p'=>⟨n-(i+1),by lia,rfl,hlt,p'⟩,fun x H' y=>?_⟩;obtain⟨e,y⟩:=y;subst e y;exact hs i acc _ hlt p
 ·have e:i=n:=by lia
  subst e;exact .inl ⟨qA8 _,hd acc H p⟩
def zQS(g:TG)(tb:TS)(D:Ends)(σ:St)(J:It)(H1:Hp):Prop:=∃W:Nat->Nat->St->Hp->Prop,(∃m,W 0 m σ H1)/\∀i m σ H,W i m σ H ->
 (J.stop i H/\D.nx σ H)\/(J.go i H/\∃N:St->Hp->Prop,(∀σ' H',N σ' H'->∃m',m'<m/\W (i+1) m' σ' H')/\∀x H',J.yld i H x H'->g x σ H' fun σ2 H2=>tb { D with nx:=N,ct:=N,bk:=D.nx } σ2 H2)
theorem zCQ{body:List Stmt}{tb:TS}(hp:qM2 (model X.prog X.w) X.A X.env X.xe)(hc:X.calm=true)(hi:PI X tg iter wi)(hg:PG X tg g)(hb:PSs X body tb)
  (hs:∀x,qJv iter X.env x=pure x:=by intro _;rfl):PS X (.For tg iter body [] pos) (fun D σ H=>wi σ H (zQS g tb D σ)):=zX2 hp hc hi hg hb hs
end
inductive Dat where
 |non|bl (b:Bool)|int (i:Int)|str (x:Str)|lst (xs:List Dat)|tup (xs:List Dat)
mutual
def Dat.dep:Dat->Nat
 |.lst xs=>Dat.depL xs+1
 |.tup xs=>Dat.depL xs+1
 |_=>0
def Dat.depL:List Dat->Nat
 |[]=>0
 |x::r=>max x.dep (Dat.depL r)
end
mutual
def Dat.eq:Dat->Dat->Bool
 |.non,.non=>true
 |.bl a,.bl b=>a==b
 |.bl a,.int b=>(if a then 1 else 0)==b
 |.int a,.bl b=>a==(if b then 1 else 0)
 |.int a,.int b=>a==b
 |.str a,.str b=>a==b
 |.lst xs,.lst ys=>Dat.eqL xs ys
 |.tup xs,.tup ys=>Dat.eqL xs ys
 |_,_=>false
def Dat.eqL:List Dat->List Dat->Bool
 |[],[]=>true
 |x::r,y::q=>Dat.eq x y&&Dat.eqL r q
 |_,_=>false
end
mutual
def Rep(H:Hp):Dat->V->Prop
 |.non,v=>v=.non
 |.bl b,v=>v=.bl b
 |.int i,v=>v=.int i
 |.str x,v=>v=.str x
 |.lst ds,v=>∃a xs,v=.ref a/\H a=some (.lst xs)/\RepL H ds xs
 |.tup ds,v=>∃a xs,v=.ref a/\H a=some (.tup xs)/\RepL H ds xs
def RepL(H:Hp):List Dat->List V->Prop
 |[],xs=>xs=[]
 |d::r,xs=>∃x q,xs=x::q/\Rep H d x/\RepL H r q
end
mutual
theorem Rep.mono{H H':Hp}(s:Same H H'):∀{d:Dat}{v:V},Rep H d v->Rep H' d v
 |.non,_,h=>h
 |.bl _,_,h=>h
 |.int _,_,h=>h
 |.str _,_,h=>h
 |.lst _,_,h=>by obtain⟨a,xs,e,e',r⟩:=h;exact⟨a,xs,e,s _ _ e',RepL.mono s r⟩
 |.tup _,_,h=>by obtain⟨a,xs,e,e',r⟩:=h;exact⟨a,xs,e,s _ _ e',RepL.mono s r⟩
theorem RepL.mono{H H':Hp}(s:Same H H'):∀{ds:List Dat}{xs:List V},RepL H ds xs->RepL H' ds xs
 |[],_,h=>h
 |_::_,_,h=>by obtain⟨x,q,e,r,t⟩:=h;exact⟨x,q,e,Rep.mono s r,RepL.mono s t⟩
end
mutual
theorem Rep.inj{H:Hp}:∀{d e:Dat}{v:V},Rep H d v->Rep H e v->d=e
 |.non,e,v,h,h'=>by cases h;cases e<;>first|rfl|(cases h';done)|(obtain⟨a,xs,z,_⟩:=h';cases z)
 |.bl b,e,v,h,h'=>by cases h;cases e<;>first|(cases h';rfl)|(cases h';done)|(obtain⟨a,xs,z,_⟩:=h';cases z)
 |.int b,e,v,h,h'=>by cases h;cases e<;>first|(cases h';rfl)|(cases h';done)|(obtain⟨a,xs,z,_⟩:=h';cases z)
 |.str b,e,v,h,h'=>by cases h;cases e<;>first|(cases h';rfl)|(cases h';done)|(obtain⟨a,xs,z,_⟩:=h';cases z)
 |.lst ds,e,v,h,h'=>by
  obtain⟨a,xs,rfl,ha,q⟩:=h;cases e with
  |lst es=>
   obtain⟨b,ys,z,hb,q'⟩:=h';cases z;rw[ha]at hb;cases hb;rw[RepL.inj q q']
  |tup es=>
   obtain⟨b,ys,z,hb,q'⟩:=h';cases z;rw[ha]at hb;cases hb
  |_=>cases h'
 |.tup ds,e,v,h,h'=>by
  obtain⟨a,xs,rfl,ha,q⟩:=h;cases e with
  |tup es=>
   obtain⟨b,ys,z,hb,q'⟩:=h';cases z;rw[ha]at hb;cases hb;rw[RepL.inj q q']
  |lst es=>
   obtain⟨b,ys,z,hb,q'⟩:=h';cases z;rw[ha]at hb;cases hb
  |_=>cases h'
theorem RepL.inj{H:Hp}:∀{ds es:List Dat}{xs:List V},RepL H ds xs->RepL H es xs->ds=es
 |[],[],_,_,_=>rfl
 |[],_::_,_,h,h'=>by cases h;obtain⟨x,q,e,_⟩:=h';cases e
 |_::_,[],_,h,h'=>by cases h';obtain⟨x,q,e,_⟩:=h;cases e
 |d::r,e::t,_,h,h'=>by
  obtain⟨x,q,rfl,r1,t1⟩:=h;obtain⟨x',q',z,r2,t2⟩:=h';cases z;rw[Rep.inj r1 r2,RepL.inj t1 t2]
end
mutual
theorem Dat.eq_refl:∀d:Dat,Dat.eq d d=true
 |.non=>by simp[Dat.eq]
 |.bl _=>by simp[Dat.eq]
 |.int _=>by simp[Dat.eq]
 |.str _=>by simp[Dat.eq]
 |.lst xs=>by rw[Dat.eq];exact Dat.eqL_refl xs
 |.tup xs=>by rw[Dat.eq];exact Dat.eqL_refl xs
theorem Dat.eqL_refl:∀ds:List Dat,Dat.eqL ds ds=true
 |[]=>by simp[Dat.eqL]
 |d::r=>by rw[Dat.eqL,Dat.eq_refl d,Dat.eqL_refl r];rfl
end
theorem RepL.length{H:Hp}:∀{ds:List Dat}{xs:List V},RepL H ds xs->xs.length=ds.length
 |[],_,h=>by cases h;rfl
 |_::_,_,h=>by obtain⟨x,q,e,r,t⟩:=h;subst e;simp[RepL.length t]
theorem Dat.eqL_len:∀{xs ys:List Dat},xs.length≠ys.length->Dat.eqL xs ys=false
 |[],[],h=>absurd rfl h
 |[],_::_,_=>by simp[Dat.eqL]
 |_::_,[],_=>by simp[Dat.eqL]
 |x::r,y::q,h=>by
  rw[Dat.eqL,Dat.eqL_len (fun e=>h (by simp[e])),qCx]
theorem Dat.eqL_all:∀{xs ys:List Dat},xs.length=ys.length->∀(e:Nat->Bool),(∀j (h1:j<xs.length) (h2:j<ys.length),e j=Dat.eq xs[j] ys[j])->(qA9 xs.length).all e=Dat.eqL xs ys
 |[],[],_,_,_=>by simp[Dat.eqL]
 |[],_::_,h,_,_=>by simp at h
 |_::_,[],h,_,_=>by simp at h
 |x::r,y::q,h,e,he=>by
  have hl:r.length=q.length:=by simpa using h
  rw[qAu,qDe,qD7,Dat.eqL,he 0 (by simp) (by simp)]
  have:=Dat.eqL_all (xs:=r) (ys:=q) hl (fun j=>e (j+1)) (fun j h1 h2=>by
   rw[he (j+1) (by simpa using h1) (by simpa using h2)];simp)
  rw[<- this,qHr];rfl
theorem RepL.get{H:Hp}:∀{ds:List Dat}{xs:List V}{i:Nat}{x:V},RepL H ds xs->xs[i]?=some x->∃d,ds[i]?=some d/\Rep H d x
 |[],_,_,_,h,e=>by cases h;simp at e
 |d::_,_,0,_,h,e=>by obtain⟨x,q,e1,r,t⟩:=h;subst e1;simp at e;subst e;exact⟨d,rfl,r⟩
 |_::_,_,i+1,_,h,e=>by
  obtain⟨x,q,e1,r,t⟩:=h;subst e1;obtain⟨d',h1,h2⟩:=RepL.get (i:=i) t (by simpa using e);exact⟨d',by simpa using h1,h2⟩
theorem Dat.depL_mem{d:Dat}:∀{ds:List Dat},d∈ds->d.dep<=Dat.depL ds
 |_::_,h=>by
  rw[Dat.depL]
  rcases qAb.mp h with rfl|h
  ·exact Nat.le_max_left _ _
  ·exact qAl (Dat.depL_mem h) (Nat.le_max_right _ _)
section
variable{P:qIb}{w:World}{H:Hp}
theorem zCU(A:qIc):A.in1.units=A.units+1:=rfl
theorem zAR{s:qI8}{a:Addr}{xs:List V}(ok:HOk P w H s.heap)(h:H a=some (.lst xs)):∃its:List Value,Vals xs its/\s.heap.IsList a its.toArray:=by
 obtain⟨_,its,n,r,e⟩:=ok a _ h;exact⟨its,r,⟨_,e,rfl,n,rfl⟩⟩
theorem zB1{s:qI8}{a:Addr}{xs:List V}(ok:HOk P w H s.heap)(h:H a=some (.tup xs)):∃its:List Value,Vals xs its/\s.heap.IsTuple a its.toArray:=by
 obtain⟨_,its,r,e⟩:=ok a _ h;exact⟨its,r,e⟩
theorem Rep.flat{d:Dat}{v:V}(h:Rep H d v)(hf:d.dep=0):zEG v=true:=by
 cases d with
 |non=>cases h;rfl
 |bl _=>cases h;rfl
 |int _=>cases h;rfl
 |str _=>cases h;rfl
 |lst _=>simp[Dat.dep]at hf
 |tup _=>simp[Dat.dep]at hf
theorem Rep.flatEq{d e:Dat}{v u:V}(h:Rep H d v)(h':Rep H e u)(hf:d.dep=0)(hf':e.dep=0):eqV v u=Dat.eq d e:=by
 cases d<;>cases e<;>first
  |(simp[Dat.dep]at hf;done)
  |(simp[Dat.dep]at hf';done)
  |(cases h;cases h';simp[eqV,Dat.eq];done)
theorem zS0:∀(n:Nat){d e:Dat}{v u:V}{x y:Value}{A:qIc}{s:qI8},d.dep<=n->HOk P w H s.heap->Rep H d v->Rep H e u->RelV v x->RelV u y->A.units+n<cLine->qK5 A s x y (Dat.eq d e):=by
 intro n
 induction n with
 |zero=>
  intro d e v u x y A s hd ok h1 h2 r1 r2 hu;have f1:=h1.flat (by lia)
  by_cases he:e.dep=0
  ·have f2:=h2.flat he
   have:=zTE (A:=A) (s:=s) r1 r2 f1 f2
   rw[h1.flatEq h2 (by lia) he]at this;exact this
  ·have hu':A.units<cLine:=by lia
   cases e with
   |lst ys=>
    obtain⟨a,xs,rfl,ha,_⟩:=h2;obtain⟨its,_,hl⟩:=zAR ok ha;cases r2;cases d with
    |non=>cases h1;cases r1;exact SeqAt.EqAt.none_list hl hu'
    |bl b=>cases h1;cases r1;exact SeqAt.EqAt.bool_list b hl hu'
    |int i=>cases h1;obtain⟨t,rfl⟩:=r1;exact SeqAt.EqAt.int_list i t hl hu'
    |str z=>cases h1;obtain⟨t,rfl⟩:=r1;exact SeqAt.EqAt.str_list z t hl hu'
    |lst _=>simp[Dat.dep]at hd
    |tup _=>simp[Dat.dep]at hd
   |tup ys=>
    obtain⟨a,xs,rfl,ha,_⟩:=h2;obtain⟨its,_,hl⟩:=zB1 ok ha;cases r2;cases d with
    |non=>cases h1;cases r1;exact SeqAt.EqAt.none_tuple hl hu'
    |bl b=>cases h1;cases r1;exact SeqAt.EqAt.bool_tuple b hl hu'
    |int i=>cases h1;obtain⟨t,rfl⟩:=r1;exact SeqAt.EqAt.int_tuple i t hl hu'
    |str z=>cases h1;obtain⟨t,rfl⟩:=r1;exact SeqAt.EqAt.str_tuple z t hl hu'
    |lst _=>simp[Dat.dep]at hd
    |tup _=>simp[Dat.dep]at hd
   |_=>simp[Dat.dep]at he
 |succ n ih=>
  intro d e v u x y A s hd ok h1 h2 r1 r2 hu
  by_cases hd0:d.dep<=n
  ·exact ih hd0 ok h1 h2 r1 r2 (by lia)
  have hu':A.units<cLine:=by lia
  have pairs:∀{ds es:List Dat}{xs ys:List V}{its its2:List Value},Dat.depL ds<=n->RepL H ds xs->RepL H es ys->Vals xs its->Vals ys its2->∀j (h1:j<its.toArray.size) (h2:j<its2.toArray.size),
    qK5 A.in1 s its.toArray[j] its2.toArray[j] (Dat.eq (ds.getD j .non) (es.getD j .non)):=by
   intro ds es xs ys its its2 hdl q1 q2 v1 v2 j j1 j2;have l1:j<xs.length:=by have:=v1.length;simp at j1;lia
   have l2:j<ys.length:=by have:=v2.length;simp at j2;lia
   obtain⟨d',e1,p1⟩:=q1.get (i:=j) (x:=xs[j]) (by simp[l1]);obtain⟨e',e2,p2⟩:=q2.get (i:=j) (x:=ys[j]) (by simp[l2]);obtain⟨w1,g1,z1⟩:=v1.get (i:=j) (x:=xs[j]) (by simp[l1]);obtain⟨w2,g2,z2⟩:=v2.get (i:=j) (x:=ys[j]) (by simp[l2]);have k1:its.toArray[j]=w1:=by
    obtain⟨_,k⟩:=qA3.mp g1
    simpa using k
   have k2:its2.toArray[j]=w2:=by
    obtain⟨_,k⟩:=qA3.mp g2
    simpa using k
   rw[k1,k2,qA0,qA0,e1,e2];exact ih (qAl (Dat.depL_mem (qBc e1)) hdl) ok p1 p2 z1 z2 (by rw[zCU];lia)
  cases d with
  |lst ds=>
   have hdl:Dat.depL ds<=n:=by rw[Dat.dep]at hd;lia
   obtain⟨a,xs,rfl,ha,q1⟩:=h1;obtain⟨its,v1,hl1⟩:=zAR ok ha;cases r1;cases e with
   |non=>cases h2;cases r2;exact SeqAt.EqAt.list_none hl1 hu'
   |bl b=>cases h2;cases r2;exact SeqAt.EqAt.list_bool b hl1 hu'
   |int i=>cases h2;obtain⟨t,rfl⟩:=r2;exact SeqAt.EqAt.list_int i t hl1 hu'
   |str z=>cases h2;obtain⟨t,rfl⟩:=r2;exact SeqAt.EqAt.list_str z t hl1 hu'
   |tup es=>
    obtain⟨b,ys,rfl,hb,q2⟩:=h2;obtain⟨its2,v2,hl2⟩:=zB1 ok hb;cases r2;exact qJs (zOX ha hb (fun z=>nomatch z)) (qKu hl1 hl2 hu')
   |lst es=>
    obtain⟨b,ys,rfl,hb,q2⟩:=h2;obtain⟨its2,v2,hl2⟩:=zAR ok hb;cases r2;have len1:its.toArray.size=ds.length:=by have:=v1.length;have:=q1.length;simp;lia
    have len2:its2.toArray.size=es.length:=by have:=v2.length;have:=q2.length;simp;lia
    show qK5 A s (.ref a) (.ref b) (Dat.eqL ds es)
    by_cases hne:a=b
    ·
     subst hne;rw[ha]at hb;cases hb;have same:Dat.eqL ds es=true:=by
      rw[RepL.inj q1 q2];exact Dat.eqL_refl _
     rw[same];exact qK6 _
    ·refine qJs hne ?_
     by_cases hs:ds.length=es.length
     ·have:=qLz (A:=A) (s:=s) hl1 hl2 (by rw[len1,len2,hs]) hu' (pairs hdl q1 q2 v1 v2)
      rw[len1,Dat.eqL_all hs _ (fun j h1 h2=>by rw[qA0,qA0];simp[h1,h2])]at this;exact this
     ·rw[Dat.eqL_len hs];exact qKl hl1 hl2 (by rw[len1,len2];simpa using hs) hu'
  |tup ds=>
   have hdl:Dat.depL ds<=n:=by rw[Dat.dep]at hd;lia
   obtain⟨a,xs,rfl,ha,q1⟩:=h1;obtain⟨its,v1,hl1⟩:=zB1 ok ha;cases r1;cases e with
   |non=>cases h2;cases r2;exact SeqAt.EqAt.tuple_none hl1 hu'
   |bl b=>cases h2;cases r2;exact SeqAt.EqAt.tuple_bool b hl1 hu'
   |int i=>cases h2;obtain⟨t,rfl⟩:=r2;exact SeqAt.EqAt.tuple_int i t hl1 hu'
   |str z=>cases h2;obtain⟨t,rfl⟩:=r2;exact SeqAt.EqAt.tuple_str z t hl1 hu'
   |lst es=>
    obtain⟨b,ys,rfl,hb,q2⟩:=h2;obtain⟨its2,v2,hl2⟩:=zAR ok hb;cases r2;exact qJs (zOX ha hb (fun z=>nomatch z)) (qKv hl1 hl2 hu')
   |tup es=>
    obtain⟨b,ys,rfl,hb,q2⟩:=h2;obtain⟨its2,v2,hl2⟩:=zB1 ok hb;cases r2;have len1:its.toArray.size=ds.length:=by have:=v1.length;have:=q1.length;simp;lia
    have len2:its2.toArray.size=es.length:=by have:=v2.length;have:=q2.length;simp;lia
    show qK5 A s (.ref a) (.ref b) (Dat.eqL ds es)
    by_cases hne:a=b
    ·subst hne;rw[ha]at hb;cases hb;have same:Dat.eqL ds es=true:=by
      rw[RepL.inj q1 q2];exact Dat.eqL_refl _
     rw[same];exact qK6 _
    ·refine qJs hne ?_
     have:=qLp (A:=A) (s:=s) hl1 hl2 hu' (pairs hdl q1 q2 v1 v2)
     by_cases hs:ds.length=es.length
     ·rw[len1,len2,<- hs,qG9,beq_self_eq_true,qEg,Dat.eqL_all hs _ (fun j h1 h2=>by rw[qA0,qA0];simp[h1,h2])]at this;exact this
     ·rw[len1,len2,show(ds.length==es.length)=false by simpa using hs,qCx]at this;rw[Dat.eqL_len hs];exact this
  |_=>simp[Dat.dep]at hd0
theorem zEX{n:Nat}{A:qIc}{s:qI8}(ok:HOk P w H s.heap){ds es:List Dat}{xs ys:List V}{its its2:List Value}(hdl:Dat.depL ds<=n)(hu:A.units+n<cLine)(q1:RepL H ds xs)(q2:RepL H es ys)(v1:Vals xs its)(v2:Vals ys its2) :
  ∀j (h1:j<its.toArray.size) (h2:j<its2.toArray.size),qK5 A s its.toArray[j] its2.toArray[j] (Dat.eq (ds.getD j .non) (es.getD j .non)):=by
 intro j j1 j2;have l1:j<xs.length:=by have:=v1.length;simp at j1;lia
 have l2:j<ys.length:=by have:=v2.length;simp at j2;lia
 obtain⟨d',e1,p1⟩:=q1.get (i:=j) (x:=xs[j]) (by simp[l1]);obtain⟨e',e2,p2⟩:=q2.get (i:=j) (x:=ys[j]) (by simp[l2]);obtain⟨w1,g1,z1⟩:=v1.get (i:=j) (x:=xs[j]) (by simp[l1]);obtain⟨w2,g2,z2⟩:=v2.get (i:=j) (x:=ys[j]) (by simp[l2]);have k1:its.toArray[j]=w1:=by
  obtain⟨_,k⟩:=qA3.mp g1
  simpa using k
 have k2:its2.toArray[j]=w2:=by
  obtain⟨_,k⟩:=qA3.mp g2
  simpa using k
 rw[k1,k2,qA0,qA0,e1,e2];exact zS0 n (qAl (Dat.depL_mem (qBc e1)) hdl) ok p1 p2 z1 z2 hu
theorem zR5(n:Nat){d e:Dat}{v u:V}{x y:Value}{A:qIc}{s:qI8}(hd:d.dep<=n)(ok:HOk P w H s.heap)(h1:Rep H d v)(h2:Rep H e u)(r1:RelV v x)(r2:RelV u y)(hu:A.units+n<cLine):qMf A s x y (Dat.eq d e):=by
 have hu':A.units<cLine:=by lia
 cases d with
 |non=>
  cases h1;cases r1;cases e with
  |non=>
   cases h2;cases r2;exact SeqAt.RcAt.none_none
  |bl b=>
   cases h2;cases r2;exact SeqAt.RcAt.none_bool b
  |int b=>
   cases h2;obtain⟨t2,rfl⟩:=r2;exact SeqAt.RcAt.none_int b t2
  |str b=>
   cases h2;obtain⟨t2,rfl⟩:=r2;exact SeqAt.RcAt.none_str b t2
  |lst es=>
   obtain⟨p2,ys,rfl,hb,q2⟩:=h2;obtain⟨its2,v2,hl2⟩:=zAR ok hb;cases r2;exact SeqAt.RcAt.none_list hl2 hu'
  |tup es=>
   obtain⟨p2,ys,rfl,hb,q2⟩:=h2;obtain⟨its2,v2,hl2⟩:=zB1 ok hb;cases r2;exact SeqAt.RcAt.none_tuple hl2 hu'
 |bl a=>
  cases h1;cases r1;cases e with
  |non=>
   cases h2;cases r2;exact SeqAt.RcAt.bool_none a
  |bl b=>
   cases h2;cases r2;exact SeqAt.RcAt.bool_bool a b
  |int b=>
   cases h2;obtain⟨t2,rfl⟩:=r2;exact SeqAt.RcAt.bool_int a b t2
  |str b=>
   cases h2;obtain⟨t2,rfl⟩:=r2;exact SeqAt.RcAt.bool_str a b t2
  |lst es=>
   obtain⟨p2,ys,rfl,hb,q2⟩:=h2;obtain⟨its2,v2,hl2⟩:=zAR ok hb;cases r2;exact SeqAt.RcAt.bool_list a hl2 hu'
  |tup es=>
   obtain⟨p2,ys,rfl,hb,q2⟩:=h2;obtain⟨its2,v2,hl2⟩:=zB1 ok hb;cases r2;exact SeqAt.RcAt.bool_tuple a hl2 hu'
 |int a=>
  cases h1;obtain⟨t1,rfl⟩:=r1;cases e with
  |non=>
   cases h2;cases r2;exact SeqAt.RcAt.int_none a t1
  |bl b=>
   cases h2;cases r2;exact SeqAt.RcAt.int_bool a t1 b
  |int b=>
   cases h2;obtain⟨t2,rfl⟩:=r2;exact SeqAt.RcAt.int_int a t1 b t2
  |str b=>
   cases h2;obtain⟨t2,rfl⟩:=r2;exact SeqAt.RcAt.int_str a t1 b t2
  |lst es=>
   obtain⟨p2,ys,rfl,hb,q2⟩:=h2;obtain⟨its2,v2,hl2⟩:=zAR ok hb;cases r2;exact SeqAt.RcAt.int_list a t1 hl2 hu'
  |tup es=>
   obtain⟨p2,ys,rfl,hb,q2⟩:=h2;obtain⟨its2,v2,hl2⟩:=zB1 ok hb;cases r2;exact SeqAt.RcAt.int_tuple a t1 hl2 hu'
 |str a=>
  cases h1;obtain⟨t1,rfl⟩:=r1;cases e with
  |non=>
   cases h2;cases r2;exact SeqAt.RcAt.str_none a t1
  |bl b=>
   cases h2;cases r2;exact SeqAt.RcAt.str_bool a t1 b
  |int b=>
   cases h2;obtain⟨t2,rfl⟩:=r2;exact SeqAt.RcAt.str_int a t1 b t2
  |str b=>
   cases h2;obtain⟨t2,rfl⟩:=r2;exact SeqAt.RcAt.str_str a t1 b t2
  |lst es=>
   obtain⟨p2,ys,rfl,hb,q2⟩:=h2;obtain⟨its2,v2,hl2⟩:=zAR ok hb;cases r2;exact SeqAt.RcAt.str_list a t1 hl2 hu'
  |tup es=>
   obtain⟨p2,ys,rfl,hb,q2⟩:=h2;obtain⟨its2,v2,hl2⟩:=zB1 ok hb;cases r2;exact SeqAt.RcAt.str_tuple a t1 hl2 hu'
 |lst ds=>
  have hdl:Dat.depL ds+1<=n:=by rw[Dat.dep]at hd;exact hd
  obtain⟨p,xs,rfl,ha,q1⟩:=h1;obtain⟨its,v1,hl1⟩:=zAR ok ha;cases r1;cases e with
  |non=>
   cases h2;cases r2;exact SeqAt.RcAt.list_none hl1 hu'
  |bl b=>
   cases h2;cases r2;exact SeqAt.RcAt.list_bool b hl1 hu'
  |int b=>
   cases h2;obtain⟨t2,rfl⟩:=r2;exact SeqAt.RcAt.list_int b t2 hl1 hu'
  |str b=>
   cases h2;obtain⟨t2,rfl⟩:=r2;exact SeqAt.RcAt.list_str b t2 hl1 hu'
  |lst es=>
   obtain⟨p2,ys,rfl,hb,q2⟩:=h2;obtain⟨its2,v2,hl2⟩:=zAR ok hb;cases r2;have len1:its.toArray.size=ds.length:=by have:=v1.length;have:=q1.length;simp;lia
   have len2:its2.toArray.size=es.length:=by have:=v2.length;have:=q2.length;simp;lia
   show qMf A s (.ref p) (.ref p2) (Dat.eqL ds es)
   by_cases hs:ds.length=es.length
   ·have:=qLz (A:=A) (s:=s) hl1 hl2 (by rw[len1,len2,hs]) hu' (zEX ok (by lia) (by rw[zCU];lia:A.in1.units+(n-1)<cLine) q1 q2 v1 v2)
    rw[len1,Dat.eqL_all hs _ (fun j h1 h2=>by rw[qA0,qA0];simp[h1,h2])]at this;exact this
   ·rw[Dat.eqL_len hs];exact qKl hl1 hl2 (by rw[len1,len2];simpa using hs) hu'
  |tup es=>
   obtain⟨p2,ys,rfl,hb,q2⟩:=h2;obtain⟨its2,v2,hl2⟩:=zB1 ok hb;cases r2;exact qKu hl1 hl2 hu'
 |tup ds=>
  have hdl:Dat.depL ds+1<=n:=by rw[Dat.dep]at hd;exact hd
  obtain⟨p,xs,rfl,ha,q1⟩:=h1;obtain⟨its,v1,hl1⟩:=zB1 ok ha;cases r1;cases e with
  |non=>
   cases h2;cases r2;exact SeqAt.RcAt.tuple_none hl1 hu'
  |bl b=>
   cases h2;cases r2;exact SeqAt.RcAt.tuple_bool b hl1 hu'
  |int b=>
   cases h2;obtain⟨t2,rfl⟩:=r2;exact SeqAt.RcAt.tuple_int b t2 hl1 hu'
  |str b=>
   cases h2;obtain⟨t2,rfl⟩:=r2;exact SeqAt.RcAt.tuple_str b t2 hl1 hu'
  |lst es=>
   obtain⟨p2,ys,rfl,hb,q2⟩:=h2;obtain⟨its2,v2,hl2⟩:=zAR ok hb;cases r2;exact qKv hl1 hl2 hu'
  |tup es=>
   obtain⟨p2,ys,rfl,hb,q2⟩:=h2;obtain⟨its2,v2,hl2⟩:=zB1 ok hb;cases r2;have len1:its.toArray.size=ds.length:=by have:=v1.length;have:=q1.length;simp;lia
   have len2:its2.toArray.size=es.length:=by have:=v2.length;have:=q2.length;simp;lia
   show qMf A s (.ref p) (.ref p2) (Dat.eqL ds es)
   have:=qLp (A:=A) (s:=s) hl1 hl2 hu' (zEX ok (by lia) (by rw[zCU];lia:A.in1.units+(n-1)<cLine) q1 q2 v1 v2)
   by_cases hs:ds.length=es.length
   ·rw[len1,len2,<- hs,qG9,beq_self_eq_true,qEg,Dat.eqL_all hs _ (fun j h1 h2=>by rw[qA0,qA0];simp[h1,h2])]at this;exact this
   ·rw[len1,len2,show(ds.length==es.length)=false by simpa using hs,qCx]at this;rw[Dat.eqL_len hs];exact this
theorem zN1(n:Nat){d e:Dat}{v u:V}{x y:Value}{A:qIc}{s:qI8}(hd:d.dep<=n)(ok:HOk P w H s.heap)(h1:Rep H d v)(h2:Rep H e u)(r1:RelV v x)(r2:RelV u y)(hu:A.units+n<cLine):qLw A s x y (!Dat.eq d e):=by
 have hu':A.units<cLine:=by lia
 cases d with
 |non=>
  cases h1;cases r1;cases e with
  |non=>
   cases h2;cases r2;exact SeqAt.RcNeAt.none_none
  |bl b=>
   cases h2;cases r2;exact SeqAt.RcNeAt.none_bool b
  |int b=>
   cases h2;obtain⟨t2,rfl⟩:=r2;exact SeqAt.RcNeAt.none_int b t2
  |str b=>
   cases h2;obtain⟨t2,rfl⟩:=r2;exact SeqAt.RcNeAt.none_str b t2
  |lst es=>
   obtain⟨p2,ys,rfl,hb,q2⟩:=h2;obtain⟨its2,v2,hl2⟩:=zAR ok hb;cases r2;exact SeqAt.RcNeAt.none_list hl2 hu'
  |tup es=>
   obtain⟨p2,ys,rfl,hb,q2⟩:=h2;obtain⟨its2,v2,hl2⟩:=zB1 ok hb;cases r2;exact SeqAt.RcNeAt.none_tuple hl2 hu'
 |bl a=>
  cases h1;cases r1;cases e with
  |non=>
   cases h2;cases r2;exact SeqAt.RcNeAt.bool_none a
  |bl b=>
   cases h2;cases r2;exact SeqAt.RcNeAt.bool_bool a b
  |int b=>
   cases h2;obtain⟨t2,rfl⟩:=r2;exact SeqAt.RcNeAt.bool_int a b t2
  |str b=>
   cases h2;obtain⟨t2,rfl⟩:=r2;exact SeqAt.RcNeAt.bool_str a b t2
  |lst es=>
   obtain⟨p2,ys,rfl,hb,q2⟩:=h2;obtain⟨its2,v2,hl2⟩:=zAR ok hb;cases r2;exact SeqAt.RcNeAt.bool_list a hl2 hu'
  |tup es=>
   obtain⟨p2,ys,rfl,hb,q2⟩:=h2;obtain⟨its2,v2,hl2⟩:=zB1 ok hb;cases r2;exact SeqAt.RcNeAt.bool_tuple a hl2 hu'
 |int a=>
  cases h1;obtain⟨t1,rfl⟩:=r1;cases e with
  |non=>
   cases h2;cases r2;exact SeqAt.RcNeAt.int_none a t1
  |bl b=>
   cases h2;cases r2;exact SeqAt.RcNeAt.int_bool a t1 b
  |int b=>
   cases h2;obtain⟨t2,rfl⟩:=r2;exact SeqAt.RcNeAt.int_int a t1 b t2
  |str b=>
   cases h2;obtain⟨t2,rfl⟩:=r2;exact SeqAt.RcNeAt.int_str a t1 b t2
  |lst es=>
   obtain⟨p2,ys,rfl,hb,q2⟩:=h2;obtain⟨its2,v2,hl2⟩:=zAR ok hb;cases r2;exact SeqAt.RcNeAt.int_list a t1 hl2 hu'
  |tup es=>
   obtain⟨p2,ys,rfl,hb,q2⟩:=h2;obtain⟨its2,v2,hl2⟩:=zB1 ok hb;cases r2;exact SeqAt.RcNeAt.int_tuple a t1 hl2 hu'
 |str a=>
  cases h1;obtain⟨t1,rfl⟩:=r1;cases e with
  |non=>
   cases h2;cases r2;exact SeqAt.RcNeAt.str_none a t1
  |bl b=>
   cases h2;cases r2;exact SeqAt.RcNeAt.str_bool a t1 b
  |int b=>
   cases h2;obtain⟨t2,rfl⟩:=r2;exact SeqAt.RcNeAt.str_int a t1 b t2
  |str b=>
   cases h2;obtain⟨t2,rfl⟩:=r2;exact SeqAt.RcNeAt.str_str a t1 b t2
  |lst es=>
   obtain⟨p2,ys,rfl,hb,q2⟩:=h2;obtain⟨its2,v2,hl2⟩:=zAR ok hb;cases r2;exact SeqAt.RcNeAt.str_list a t1 hl2 hu'
  |tup es=>
   obtain⟨p2,ys,rfl,hb,q2⟩:=h2;obtain⟨its2,v2,hl2⟩:=zB1 ok hb;cases r2;exact SeqAt.RcNeAt.str_tuple a t1 hl2 hu'
 |lst ds=>
  have hdl:Dat.depL ds+1<=n:=by rw[Dat.dep]at hd;exact hd
  obtain⟨p,xs,rfl,ha,q1⟩:=h1;obtain⟨its,v1,hl1⟩:=zAR ok ha;cases r1;cases e with
  |non=>
   cases h2;cases r2;exact SeqAt.RcNeAt.list_none hl1 hu'
  |bl b=>
   cases h2;cases r2;exact SeqAt.RcNeAt.list_bool b hl1 hu'
  |int b=>
   cases h2;obtain⟨t2,rfl⟩:=r2;exact SeqAt.RcNeAt.list_int b t2 hl1 hu'
  |str b=>
   cases h2;obtain⟨t2,rfl⟩:=r2;exact SeqAt.RcNeAt.list_str b t2 hl1 hu'
  |lst es=>
   obtain⟨p2,ys,rfl,hb,q2⟩:=h2;obtain⟨its2,v2,hl2⟩:=zAR ok hb;cases r2;have len1:its.toArray.size=ds.length:=by have:=v1.length;have:=q1.length;simp;lia
   have len2:its2.toArray.size=es.length:=by have:=v2.length;have:=q2.length;simp;lia
   show qLw A s (.ref p) (.ref p2) (!Dat.eqL ds es)
   by_cases hs:ds.length=es.length
   ·have:=SeqAt.RcNeAt.lists (A:=A) (s:=s) hl1 hl2 (by rw[len1,len2,hs]) hu' (zEX ok (by lia) (by rw[zCU];lia:A.in1.units+(n-1)<cLine) q1 q2 v1 v2)
    rw[len1,Dat.eqL_all hs _ (fun j h1 h2=>by rw[qA0,qA0];simp[h1,h2])]at this;exact this
   ·rw[Dat.eqL_len hs];exact SeqAt.RcNeAt.lists_lengths hl1 hl2 (by rw[len1,len2];simpa using hs) hu'
  |tup es=>
   obtain⟨p2,ys,rfl,hb,q2⟩:=h2;obtain⟨its2,v2,hl2⟩:=zB1 ok hb;cases r2;exact SeqAt.RcNeAt.list_tuple hl1 hl2 hu'
 |tup ds=>
  have hdl:Dat.depL ds+1<=n:=by rw[Dat.dep]at hd;exact hd
  obtain⟨p,xs,rfl,ha,q1⟩:=h1;obtain⟨its,v1,hl1⟩:=zB1 ok ha;cases r1;cases e with
  |non=>
   cases h2;cases r2;exact SeqAt.RcNeAt.tuple_none hl1 hu'
  |bl b=>
   cases h2;cases r2;exact SeqAt.RcNeAt.tuple_bool b hl1 hu'
  |int b=>
   cases h2;obtain⟨t2,rfl⟩:=r2;exact SeqAt.RcNeAt.tuple_int b t2 hl1 hu'
  |str b=>
   cases h2;obtain⟨t2,rfl⟩:=r2;exact SeqAt.RcNeAt.tuple_str b t2 hl1 hu'
  |lst es=>
   obtain⟨p2,ys,rfl,hb,q2⟩:=h2;obtain⟨its2,v2,hl2⟩:=zAR ok hb;cases r2;exact SeqAt.RcNeAt.tuple_list hl1 hl2 hu'
  |tup es=>
   obtain⟨p2,ys,rfl,hb,q2⟩:=h2;obtain⟨its2,v2,hl2⟩:=zB1 ok hb;cases r2;have len1:its.toArray.size=ds.length:=by have:=v1.length;have:=q1.length;simp;lia
   have len2:its2.toArray.size=es.length:=by have:=v2.length;have:=q2.length;simp;lia
   show qLw A s (.ref p) (.ref p2) (!Dat.eqL ds es)
   have:=SeqAt.RcNeAt.tuples (A:=A) (s:=s) hl1 hl2 hu' (zEX ok (by lia) (by rw[zCU];lia:A.in1.units+(n-1)<cLine) q1 q2 v1 v2)
   by_cases hs:ds.length=es.length
   ·rw[len1,len2,<- hs,qG9,beq_self_eq_true,qEg,Dat.eqL_all hs _ (fun j h1 h2=>by rw[qA0,qA0];simp[h1,h2])]at this;exact this
   ·rw[len1,len2,show(ds.length==es.length)=false by simpa using hs,qCx]at this;rw[Dat.eqL_len hs];exact this
end
section
variable{X:Cx}
noncomputable def rEqD:R2:=fun x y H Q=>∃d e,Rep H d x/\Rep H e y/\d.dep<=40/\Q (.bl (Dat.eq d e)) H
noncomputable def rNeD:R2:=fun x y H Q=>∃d e,Rep H d x/\Rep H e y/\d.dep<=40/\Q (.bl (!Dat.eq d e)) H
theorem zXH(hu:X.A.units+64<cLine):OpR X (compareOp .Eq) rEqD:=by
 intro pins s σ H x y v u Q I rx ry h;obtain⟨d,e,h1,h2,hd,q⟩:=h;exact zR5 40 hd I.hok h1 h2 rx ry (by lia) _ _ _ _ ⟨.bl _,H,I,rfl,q⟩
theorem zXF(hu:X.A.units+64<cLine):OpR X (compareOp .NotEq) rNeD:=by
 intro pins s σ H x y v u Q I rx ry h;obtain⟨d,e,h1,h2,hd,q⟩:=h;exact zN1 40 hd I.hok h1 h2 rx ry (by lia) _ _ _ _ ⟨.bl _,H,I,rfl,q⟩
noncomputable def zF3(H:Hp):V->Option String
 |.non=>some "NoneType"
 |.bl _=>some "bool"
 |.int _=>some "int"
 |.str _=>some "str"
 |.ref a=>match H a with
  |some (.lst _)=>some "list"
  |some (.tup _)=>some "tuple"
  |some (.dK _)=>some "dict"
  |_=>none
 |_=>none
noncomputable def zUZ(T n:String):Bool:=T==n||(T == "bool" && n == "int")
theorem zL6:zCN X (.builtin "isinstance") (fun vs H Q=>∃x n T,vs=[x,.ty n]/\zF3 H x=some T/\n∈["int","bool","str","list","tuple","dict"]/\Q (.bl (zUZ T n)) H):=by
 intro pins s σ H vs us Q I r h;obtain⟨x,n,T,rfl,ht,hn,q⟩:=h;obtain⟨u,w',rfl,rx,rn⟩:=zVW r
 cases(show w'=qIx n from rn)
 have key:∃t,TyOf X.K H x t/\t=.type T:=by
  cases x with
  |non=>cases ht;exact⟨_,.non,rfl⟩
  |bl b=>cases ht;exact⟨_,.bl b,rfl⟩
  |int b=>cases ht;exact⟨_,.int b,rfl⟩
  |str b=>cases ht;exact⟨_,.str b,rfl⟩
  |ref a=>
   unfold zF3 at ht;dsimp only at ht;cases e:H a with
   |none=>rw[e]at ht;cases ht
   |some o=>
    rw[e]at ht;cases o with
    |lst xs=>cases ht;exact⟨_,.lst e,rfl⟩
    |tup xs=>cases ht;exact⟨_,.tup e,rfl⟩
    |dK xs=>cases ht;exact⟨_,.dK e,rfl⟩
    |_=>cases ht
  |_=>cases ht
 obtain⟨t,ty,rfl⟩:=key;have hT:T∈["NoneType","bool","int","str","list","tuple","dict"]:=by
  cases x with
  |non=>cases ht;decide
  |bl b=>cases ht;decide
  |int b=>cases ht;decide
  |str b=>cases ht;decide
  |ref a=>
   unfold zF3 at ht;dsimp only at ht;cases e:H a with
   |none=>rw[e]at ht;cases ht
   |some o=>
    rw[e]at ht;cases o with
    |lst xs=>cases ht;decide
    |tup xs=>cases ht;decide
    |dK xs=>cases ht;decide
    |_=>cases ht
  |_=>cases ht
 have e:qH5 X.K (.type T) (.type n)=some (zUZ T n):=by
  simp only[qAb,List.mem_nil_iff,or_false]at hT hn
  rcases hT with rfl|rfl|rfl|rfl|rfl|rfl|rfl<;>rcases hn with rfl|rfl|rfl|rfl|rfl|rfl<;>rfl
 exact zPH I rx ty e fun tk=>⟨.bl _,H,I.tok tk,rfl,q⟩
theorem zK2{prog:qIb}{w:World}{A:qIc}{bs:List Bool}:TruthOf prog w A (fun i v=>(bs.map qJb).toArray[i]?=some v) (fun i=>bs.getD i false):=by
 intro i v s Q E hv hq;have hv':(bs[i]?).map qJb=some v:=by simpa using hv
 cases e:bs[i]? with
 |none=>rw[e]at hv';cases hv'
 |some b=>
  rw[e]at hv';cases hv';dsimp only at hq;rw[qA0,e]at hq;exact wpAny_truthy_bool hq
theorem zGE:∀{bs:List Bool}{its:List Value},Vals (bs.map V.bl) its->its=bs.map qJb
 |[],_,.nil=>rfl
 |b::r,_,.cons h t=>by
  have h':_=qJb b:=h;rw[h',zGE t];rfl
theorem zMM:∀(bs:List Bool),(qA9 bs.length).all (fun i=>bs.getD i false)=bs.all id
 |[]=>rfl
 |b::r=>by
  rw[qAu,qDe,qD7,qD7,<- zMM r,qHr];rfl
theorem zS9(hc:X.calm=true):zCN X (.builtin "all") (fun vs H Q=>∃(a:Addr)(bs:List Bool),vs=[.ref a]/\H a=some (.lst (bs.map V.bl))/\Q (.bl (bs.all id)) H):=by
 intro pins s σ H vs us Q I r h;obtain⟨a,bs,rfl,ha,q⟩:=h;obtain⟨u,rfl,rx⟩:=zCO r;cases rx;obtain⟨its,rv,hl⟩:=zAR I.hok ha;have e:=zGE rv;subst e;refine call_all_walk (wpAny_pyIter_list hl ?_);have hlt:a<s.heap.objs.size:=by obtain⟨o,ho,_⟩:=hl;exact qI9 ho
 refine⟨s.heap.objs.size,_,_,_,_,_,fun i=>bs.getD i false,rfl,Walks.list (show X.A.in1.handled=none from I.ok.hd hc) s.heap.objs.size a (qAj hlt) _,
  ⟨⟨_,qIa _ rfl,rfl,rfl⟩,hl.at fun o e=>qI7 _ e⟩,zK2,fun h' tk hk=>?_⟩
 refine⟨.bl _,H,I.kept (t':=tk) fun b o e=>hk b o ?_ (qI7 _ e),rfl,?_⟩
 ·have:=qI9 e
  simp only[qB6];exact qAj this
 ·have:(bs.map qJb).toArray.size=bs.length:=by simp
  rw[this,zMM];exact q
noncomputable def zHH(lo:Int)(n:Nat):List V:=(qA9 n).map fun i=>.int (lo+(i:Nat))
theorem zF2:∀{xs:List V}{its:List Value},xs.length=its.length->(∀(j:Nat)(x:V)(v:Value),xs[j]?=some x->its[j]?=some v->RelV x v)->Vals xs its
 |[],[],_,_=>.nil
 |[],_::_,h,_=>by simp at h
 |_::_,[],h,_=>by simp at h
 |x::xs,v::its,h,g=>.cons (g 0 x v rfl rfl) (zF2 (by simpa using h) fun j y u e1 e2=>g (j+1) y u (by simpa using e1) (by simpa using e2))
theorem zNR{lo:Int}{n:Nat}{its:List Value}(hl:its.length=n)(h:∀(j:Nat) (v:Value),its[j]?=some v->∃t,v=qKj (lo+(j:Int)*1) t):Vals (zHH lo n) its:=by
 refine zF2 (by simp[zHH,hl]) fun j x v e1 e2=>?_
 unfold zHH at e1;rw[qAh]at e1;cases e:(qA9 n)[j]? with
 |none=>rw[e]at e1;cases e1
 |some i=>
  rw[e]at e1;cases e1;have hi:i=j:=by
   obtain⟨h1,h2⟩:=qA3.mp e;rw[qCm]at h2;exact h2.symm
  subst hi;obtain⟨t,ht⟩:=h i v e2;exact⟨t,by rw[ht,qHu]⟩
theorem zI2(hc:X.calm=true):zCN X (.type "list") (fun vs H Q=>∃p lo hi,vs=[.ref p]/\H p=some (.rng lo hi)/\(-(2 ^ 62)<=lo/\lo<2 ^ 62/\-(2 ^ 62)<=hi/\hi<2 ^ 62)/\hi-lo<=1000000/\∀l,H l=none->Q (.ref l) (upd H l (.lst (zHH lo (hi-lo).toNat)))):=by
 intro pins s σ H vs us Q I r h;obtain⟨p,lo,hi,rfl,hp,⟨b1,b2,b3,b4⟩,hz,q⟩:=h;obtain⟨u,rfl,rx⟩:=zCO r;cases rx;obtain⟨t,u,v,e⟩:=(show ObjOk X.prog X.w H s.heap p (.rng lo hi) from I.hok p _ hp)
 have hn:qKn lo hi 1=(((hi-lo).toNat:Nat):Int):=by rw[rangeSize_one];split<;>lia
 refine call_list_range (n:=(hi-lo).toNat) (I.ok.hd hc) e (small_one b1 b2 b3 b4) hn (by lia) fun h' tk acc' c' hk hS hacc=>?_
 have rv:Vals (zHH lo (hi-lo).toNat) acc'.toList:=zNR (by simpa using hacc.1) fun j v hj=>hacc.2 j v (by simpa using hj)
 refine⟨.ref _,_,I.laid (o:=.lst (zHH lo (hi-lo).toNat)) hk (qA8 _) ⟨?_,acc'.toList,c',rv,by simpa using hS⟩,rfl,q _ I.fresh⟩;have hl:(zHH lo (hi-lo).toNat).length=(hi-lo).toNat:=by simp[zHH]
 rw[hl,qIq]
 lia
def zWX:R2:=fun x y H Q=>match x,y with
 |.int i,.int j=>Q (.int (i+j)) H
 |.str i,.str j=>i.length+j.length<=sizeLine/\Q (.str (i++j)) H
 |.ref l,.ref b=>∃xs zs,H l=some (.lst xs)/\H b=some (.lst zs)/\xs.length+zs.length<=sizeLine/\∀p,H p=none->Q (.ref p) (upd H p (.lst (xs++zs)))
 |_,_=>False
theorem zCP:OpR X (binaryOp .Add) zWX:=by
 intro pins s σ H x y v u Q I rx ry h;cases x<;>cases y<;>first
  |exact zXJ pins s σ H _ _ v u Q I rx ry ⟨_,_,rfl,rfl,h⟩
  |exact zN3 pins s σ H _ _ v u Q I rx ry ⟨_,_,rfl,rfl,h.1,h.2⟩
  |(obtain⟨xs,zs,h1,h2,h3,h4⟩:=h;exact zXI pins s σ H _ _ v u Q I rx ry ⟨_,_,xs,zs,rfl,rfl,h1,h2,h3,h4⟩)
  |exact qA5 h
noncomputable def rMulU:R2:=fun x y H Q=>match x,y with
 |.int i,.int j=>CMul i j/\Q (.int (i*j)) H
 |_,_=>False
noncomputable def zWN:R2:=fun x y H Q=>match x,y with
 |.int i,.int j=>Q (.int (i-j)) H
 |_,_=>False
theorem zW0:OpR X (binaryOp .Sub) zWN:=by
 intro pins s σ H x y v u Q I rx ry h;cases x<;>cases y<;>first
  |exact zXD pins s σ H _ _ v u Q I rx ry ⟨_,_,rfl,rfl,h⟩
  |exact qA5 h
noncomputable def zWT:R2:=fun x y H Q=>match x,y with
 |.int i,.int j=>0<j/\Q (.int (i%j)) H
 |_,_=>False
theorem zET:OpR X (binaryOp .Mod) zWT:=by
 intro pins s σ H x y v u Q I rx ry h;cases x<;>cases y<;>first
  |exact zXG pins s σ H _ _ v u Q I rx ry ⟨_,_,rfl,rfl,h.1,h.2⟩
  |exact qA5 h
def zWR:V->Hp->VK->Prop:=fun x H Q=>match x with
 |.int i=>Q (.int (-i)) H
 |_=>False
theorem zW1:UnR X (unaryOp .USub) zWR:=by
 intro pins s σ H x v Q I rx h;cases x<;>first
  |exact zVZ pins s σ H _ v Q I rx ⟨_,rfl,h⟩
  |exact qA5 h
noncomputable def zU5(p:Int->Int->Bool):R2:=fun x y H Q=>match x,y with
 |.int i,.int j=>Q (.bl (p i j)) H
 |_,_=>False
theorem u_lt:OpR X (compareOp .Lt) (zU5 fun i j=>decide (i<j)):=by
 intro pins s σ H x y v u Q I rx ry h;cases x<;>cases y<;>first
  |exact zZQ pins s σ H _ _ v u Q I rx ry ⟨_,_,rfl,rfl,h⟩
  |exact qA5 h
theorem u_gt:OpR X (compareOp .Gt) (zU5 fun i j=>decide (j<i)):=by
 intro pins s σ H x y v u Q I rx ry h;cases x<;>cases y<;>first
  |exact zZR pins s σ H _ _ v u Q I rx ry ⟨_,_,rfl,rfl,h⟩
  |exact qA5 h
def rEqU:R2:=fun x y H Q=>match x,y with
 |.int i,.int j=>Q (.bl (decide (i=j))) H
 |.str i,.str j=>Q (.bl (decide (i=j))) H
 |.bl i,.bl j=>Q (.bl (decide (i=j))) H
 |x,y=>rEqD x y H Q
def rNeU:R2:=fun x y H Q=>match x,y with
 |.int i,.int j=>Q (.bl (!decide (i=j))) H
 |.str i,.str j=>Q (.bl (!decide (i=j))) H
 |.bl i,.bl j=>Q (.bl (!decide (i=j))) H
 |x,y=>rNeD x y H Q
theorem u_eq(hu:X.A.units+64<cLine):OpR X (compareOp .Eq) rEqU:=by
 intro pins s σ H x y v u Q I rx ry h;cases x<;>cases y<;>first
  |(refine zZS pins s σ H _ _ v u Q I rx ry ⟨rfl,?_⟩;have h':=h;simp only[rEqU]at h';simpa using h')
  |exact zXH hu pins s σ H _ _ v u Q I rx ry h
theorem u_ne(hu:X.A.units+64<cLine):OpR X (compareOp .NotEq) rNeU:=by
 intro pins s σ H x y v u Q I rx ry h;cases x<;>cases y<;>first
  |(refine zZP pins s σ H _ _ v u Q I rx ry ⟨rfl,?_⟩;have h':=h;simp only[rNeU]at h';simpa using h')
  |exact zXF hu pins s σ H _ _ v u Q I rx ry h
def rIxU(K:qA1):R2:=fun x y H Q=>match x,y with
 |.str z,.int i=>∃c,z.length<=sizeLine/\atI z.cps.toList i=some c/\Q (.str ⟨#[c]⟩) H
 |.ref p,.int i=>∃xs v,(SqL K H p xs\/SqT K H p xs)/\atI xs i=some v/\Q v H
 |_,_=>False
theorem u_ix:IxR X (rIxU X.K):=by
 intro value slice pins s σ H x y v u Q I rx ry h hs;cases x<;>cases y<;>first
  |(obtain⟨c,h1,h2,h3⟩:=h;exact zXV value slice pins s σ H _ _ v u Q I rx ry ⟨_,_,c,rfl,rfl,h1,h2,h3⟩ hs)
  |(obtain⟨xs,w,h1|h1,h2,h3⟩:=h
    ·exact zUW value slice pins s σ H _ _ v u Q I rx ry ⟨_,xs,_,w,rfl,rfl,h1,h2,h3⟩ hs
    ·exact zXU value slice pins s σ H _ _ v u Q I rx ry ⟨_,xs,_,w,rfl,rfl,h1,h2,h3⟩ hs)
  |exact qA5 h
def zU3(K:qA1):List V->Hp->VK->Prop:=fun vs H Q=>match vs with
 |[.str z]=>z.length<=sizeLine/\Q (.int z.length) H
 |[.ref p]=>∃xs,(SqL K H p xs\/SqT K H p xs)/\Q (.int xs.length) H
 |_=>False
theorem za2:zCN X (.builtin "len") (zU3 X.K):=by
 intro pins s σ H vs us Q I r h;cases vs with
 |nil=>exact qA5 h
 |cons hd1 tl1=>
  cases hd1 with
  |str z=>
   cases tl1 with
   |nil=>
    exact zJM pins s σ H _ us Q I r ⟨z,rfl,h.1,h.2⟩
   |cons _ _=>exact qA5 h
  |ref p=>
   cases tl1 with
   |nil=>
    obtain⟨xs,h1,h2⟩:=h;exact zJN pins s σ H _ us Q I r ⟨p,xs,rfl,h1,h2⟩
   |cons _ _=>exact qA5 h
  |_=>exact qA5 h
def zLO(K:qA1):List V->Hp->VK->Prop:=fun vs H Q=>match vs with
 |[.ref p]=>(∃xs,(SqL K H p xs\/SqT K H p xs)/\∀l,H l=none->Q (.ref l) (upd H l (.lst xs))) \/
   ∃lo hi,H p=some (.rng lo hi)/\(-(2 ^ 62)<=lo/\lo<2 ^ 62/\-(2 ^ 62)<=hi/\hi<2 ^ 62)/\hi-lo<=1000000/\∀l,H l=none->Q (.ref l) (upd H l (.lst (zHH lo (hi-lo).toNat)))
 |_=>False
theorem zXR(hc:X.calm=true):zCN X (.type "list") (zLO X.K):=by
 intro pins s σ H vs us Q I r h;cases vs with
 |nil=>exact qA5 h
 |cons hd1 tl1=>
  cases hd1 with
  |ref p=>
   cases tl1 with
   |nil=>
    rcases h with⟨xs,h1,h2⟩|⟨lo,hi,h1,h2,h3,h4⟩
    ·exact zJL pins s σ H _ us Q I r ⟨p,xs,rfl,h1,h2⟩
    ·exact zI2 hc pins s σ H _ us Q I r ⟨p,lo,hi,rfl,h1,h2,h3,h4⟩
   |cons _ _=>exact qA5 h
  |_=>exact qA5 h
def zWU:List V->Hp->VK->Prop:=fun vs H Q=>match vs with
 |[x,.ty n]=>∃T,zF3 H x=some T/\n∈["int","bool","str","list","tuple","dict"]/\Q (.bl (zUZ T n)) H
 |_=>False
theorem zCT:zCN X (.builtin "isinstance") zWU:=by
 intro pins s σ H vs us Q I r h;cases vs with
 |nil=>exact qA5 h
 |cons x tl1=>
  cases tl1 with
  |nil=>exact qA5 h
  |cons hd2 tl2=>
   cases hd2 with
   |ty n=>
    cases tl2 with
    |nil=>
     obtain⟨T,h1,h2,h3⟩:=h;exact zL6 pins s σ H _ us Q I r ⟨x,n,T,rfl,h1,h2,h3⟩
    |cons _ _=>exact qA5 h
   |_=>exact qA5 h
def zWW:List V->Hp->VK->Prop:=fun vs H Q=>match vs with
 |[.ref a]=>∃bs:List Bool,H a=some (.lst (bs.map V.bl))/\Q (.bl (bs.all id)) H
 |_=>False
theorem za3(hc:X.calm=true):zCN X (.builtin "all") zWW:=by
 intro pins s σ H vs us Q I r h;cases vs with
 |nil=>exact qA5 h
 |cons hd1 tl1=>
  cases hd1 with
  |ref a=>
   cases tl1 with
   |nil=>
    obtain⟨bs,h1,h2⟩:=h;exact zS9 hc pins s σ H _ us Q I r ⟨a,bs,rfl,h1,h2⟩
   |cons _ _=>exact qA5 h
  |_=>exact qA5 h
end
noncomputable def zJH(N N':List Str)(k:Nat)(sc esc:Scope):Bool:=
 (sc.kind==.function)&&decide ((sc.names.map (·.1)).Nodup)&&(N'.length==N.length+k) &&
 ((qA9 N.length).all fun i=>match N'[i]? with
  |none=>true
  |some x=>(sc.names.lookup x==none)||(sc.names.any (fun p=>p.1==x&&p.2==.free)&&N[i]?==some x)) &&
 (sc.names.all fun p=>p.2 != .free||esc.names.lookup p.1==some .cell||esc.names.lookup p.1==some .free)
theorem cn{X:Cx}{sc:Scope}(N':List Str)(k:Nat)(h:zJH X.N N' k sc X.env.scope=true):CompNames X.N N' k sc X.env:=by
 unfold zJH at h;simp only[qBd,decide_eq_true_eq,beq_iff_eq]at h;obtain⟨⟨⟨⟨h1,h2⟩,h3⟩,h4⟩,h5⟩:=h;refine⟨h1,h2,h3,fun i x e hi=>?_,fun x hx=>?_⟩
 ·have q:=qDp.mp h4 i (qB0.mpr hi);rw[e]at q;simp only[qGn,qBd,beq_iff_eq,qDq]at q
  rcases q with q|⟨⟨p,hp,e1,e2⟩,e3⟩
  ·exact .inr q
  ·obtain⟨y,kk⟩:=p;dsimp only at e1 e2;subst e1;subst e2;exact .inl ⟨hp,e3⟩
 ·have q:=qDp.mp h5 _ hx;simp only[qGn,bne_iff_ne,ne_eq,not_true_eq_false,false_or,beq_iff_eq]at q;exact q
theorem PE.imp{X:Cx}{e:Expr}{t t':TE}(h:PE X e t)(i:∀σ H Q,t' σ H Q->t σ H Q):PE X e t':=fun pins s σ H Q I q=>h pins s σ H Q I (i σ H Q q)
noncomputable def vM(i:Nat):TE:=fun σ H Q=>match σ[i]? with
 |some (some v)=>Q v H
 |_=>False
theorem pn{X:Cx}(i:Nat){x:Str}{pos:Pos}(hN:X.N[i]?=some x:=by rfl)(hv:Vis X.env.scope x:=by first|exact qI4 rfl|exact qHw (qI4 rfl)|exact qHw (qHw rfl))(hd:(x==("__debug__":Str))=false:=by decide)
  (hcd:(x==("__classdict__":Str))=false:=by decide):PE X (.Name x pos) (vM i):=(zX5 hN hv hd hcd).imp fun σ H Q h=>by
 unfold vM at h;cases e:σ[i]? with
 |none=>rw[e]at h;exact qA5 h
 |some w=>
  rw[e]at h;cases w with
  |none=>exact qA5 h
  |some v=>exact⟨v,e,h⟩
noncomputable def bM(t:TE):TT:=fun σ H Q=>t σ H fun x H'=>match x with
 |.bl k=>Q k H'
 |.int i=>Q (i != 0) H'
 |.non=>Q false H'
 |_=>False
section
variable{X:Cx}{a b c:Expr}{ta tb tc:TE}{tA tB:TT}{rest:List Expr}{pos:Pos}
theorem zW4{K:qA1}{x:V}{H:Hp}{Q:Bool->Hp->Prop}(h:match x with | .bl k=>Q k H | .int i=>Q (i != 0) H | .non=>Q false H|_=>False):∃k,TruV K x H k/\Q k H:=by
 cases x with
 |bl k=>exact⟨k,rfl,h⟩
 |int i=>exact⟨_,rfl,h⟩
 |non=>exact⟨_,rfl,h⟩
 |_=>exact qA5 h
theorem pt_m(ha:PE X a ta)(he:∀whole,isTrue a X.env whole=(do let v <- whole;standAt a.pos;holding [v] (truthy v)):=by intro _;rfl):PT X a (bM ta):=by
 intro pins s σ H Q I h;refine isTrue_plain (thn (ha pins s σ H _ I h) fun v s1 z0=>?_) (he _);obtain⟨x,H1,I1,r1,q1⟩:=z0;exact thn (zW3 pins s1 σ H1 x v Q I1 r1 (zW4 q1)) fun _ _ q=>q
theorem zEB{op:CmpOp}{r:R2}(ho:OpR X (compareOp op) r)(ha:PE X a ta)(hb:PE X b tb)(hm:qJ2 op b=false):PT X (.Compare a [op] [b] pos) (fun σ H Q=>ta σ H fun x H1=>tb σ H1 fun y H2=>r x y H2 fun z H3=>match z with | .bl k=>Q k H3|_=>False):=by
 intro pins s σ H Q I h;refine qKs (thn (ha pins s σ H _ I h) fun v s1 ⟨x,H1,I1,r1,q1⟩=>thn (hb pins s1 σ H1 _ I1 q1) fun u s2 ⟨y,H2,I2,r2,q2⟩=>
  thn (ho pins s2 σ H2 x y v u _ I2 r1 r2 q2) fun d s3 ⟨z,H3,I3,r3,q3⟩=>?_) hm
 cases z with
 |bl k=>cases r3;exact wpAny_truthy_bool ⟨H3,I3,q3⟩
 |_=>exact qA5 q3
theorem zZN(ha:PE X a ta)(hb:PE X (.BoolOp .And (b::rest) pos) tb):PE X (.BoolOp .And (a::b::rest) pos) (fun σ H Q=>ta σ H fun x H1=>match x with | .bl c=>if c=true then tb σ H1 Q else Q (.bl false) H1|_=>False):=by
 intro pins s σ H Q I h;refine BoolOp_and (thn (ha pins s σ H _ I h) fun v s1 z0=>?_);obtain⟨x,H1,I1,r1,q1⟩:=z0;cases x with
 |bl c=>
  cases r1;refine wpAny_truthy_bool ?_;cases c with
  |true=>exact hb pins s1 σ H1 Q I1 (by simpa using q1)
  |false=>exact⟨.bl false,H1,I1,rfl,by simpa using q1⟩
 |_=>exact qA5 q1
theorem zZL(ha:PE X a ta)(hb:PE X (.BoolOp .Or (b::rest) pos) tb):PE X (.BoolOp .Or (a::b::rest) pos) (fun σ H Q=>ta σ H fun x H1=>match x with | .bl c=>if c=true then Q (.bl true) H1 else tb σ H1 Q|_=>False):=by
 intro pins s σ H Q I h;refine BoolOp_or (thn (ha pins s σ H _ I h) fun v s1 z0=>?_);obtain⟨x,H1,I1,r1,q1⟩:=z0;cases x with
 |bl c=>
  cases r1;refine wpAny_truthy_bool ?_;cases c with
  |false=>exact hb pins s1 σ H1 Q I1 (by simpa using q1)
  |true=>exact⟨.bl true,H1,I1,rfl,by simpa using q1⟩
 |_=>exact qA5 q1
theorem zX7(ha:PE X a ta):PE X (.UnaryOp .Not a pos) (fun σ H Q=>ta σ H fun x H1=>match x with | .bl c=>Q (.bl (!c)) H1|_=>False):=by
 intro pins s σ H Q I h;refine UnaryOp_ (thn (ha pins s σ H _ I h) fun v s1 z0=>?_);obtain⟨x,H1,I1,r1,q1⟩:=z0;cases x with
 |bl c=>cases r1;exact not_of (wpAny_truthy_bool ⟨.bl (!c),H1,I1,rfl,q1⟩)
 |_=>exact qA5 q1
def setM:V->V->V->Hp->(Hp->Prop)->Prop:=fun o i v H Q=>match o,i with
 |.ref p,.int k=>∃xs j,H p=some (.lst xs)/\ixN xs.length k=some j/\Q (upd H p (.lst (xs.set j v)))
 |_,_=>False
theorem zTT:PSet X setM:=by
 intro pins s σ H o i v ov iv u Q I ro ri rv h;cases o<;>cases i<;>first
  |(obtain⟨xs,j,h1,h2,h3⟩:=h;exact zQV pins s σ H _ _ v ov iv u Q I ro ri rv ⟨_,xs,_,j,rfl,rfl,h1,h2,h3⟩)
  |exact qA5 h
def appM:V->List V->Hp->VK->Prop:=fun x vs H Q=>match x,vs with
 |.ref l,[y]=>∃xs,H l=some (.lst xs)/\xs.length<sizeLine/\Q .non (upd H l (.lst (xs++[y])))
 |_,_=>False
theorem zKN:MtR X "list.append" appM:=by
 intro pins s σ H x vs v us Q I rx rv h;cases x with
 |ref l=>
  cases vs with
  |nil=>exact qA5 h
  |cons y t=>
   cases t with
   |nil=>
    obtain⟨xs,h1,h2,h3⟩:=h;exact zP1 pins s σ H _ _ v us Q I rx rv ⟨l,xs,y,rfl,rfl,h1,h2,h3⟩
   |cons _ _=>exact qA5 h
 |_=>exact qA5 h
def popM:V->List V->Hp->VK->Prop:=fun x vs H Q=>match x,vs with
 |.ref l,[.int i]=>∃xs k y,H l=some (.lst xs)/\(-(2 ^ 63)<=i/\i<2 ^ 63)/\qM3 i xs.length=some k/\xs[k]?=some y/\Q y (upd H l (.lst (xs.eraseIdx k)))
 |.ref l,[]=>∃xs y,H l=some (.lst xs)/\xs[xs.length-1]?=some y/\Q y (upd H l (.lst xs.dropLast))
 |_,_=>False
theorem zUN:MtR X "list.pop" popM:=by
 intro pins s σ H x vs v us Q I rx rv h;cases x with
 |ref l=>
  cases vs with
  |nil=>
   obtain⟨xs,y,h1,h2,h3⟩:=h;exact zXO pins s σ H _ _ v us Q I rx rv ⟨l,xs,y,rfl,rfl,h1,h2,h3⟩
  |cons y t=>
   cases y with
   |int i=>
    cases t with
    |nil=>
     obtain⟨xs,k,y,h1,h2,h3,h4,h5⟩:=h;exact zRK pins s σ H _ _ v us Q I rx rv ⟨l,xs,i,k,y,rfl,rfl,h1,h2.1,h2.2,h3,h4,h5⟩
    |cons _ _=>exact qA5 h
   |_=>exact qA5 h
 |_=>exact qA5 h
end
theorem pt_w{X:Cx}{e:Expr}{t:TT}(h:PW X e t):PT X e t:=h.pt
def Has(P:qIb)(w:World)(K:qA1)(mg:Str->Option Value)(base:Heap)(x:Str)(k:Nat)(ps:List Str)(sp:Sp):Prop:=
 ∃f fd,FnOk P w K mg base CX0 k f fd ps sp/\mg x=some (.ref f)/\qBh K (.ref f)=true/\Binds K fd ps []
def Def(K:qA1)(mg:Str->Option Value)(x:Str)(st:Stmt):Prop:=∃f fd,Fun K x x st f fd/\mg x=some (.ref f)
section
variable{X:Cx}{x:Str}{j k:Nat}{ps:List Str}{sp:Sp}{e:Expr}{es:List Expr}{t:TA}{p pos:Pos}
theorem zBJ(h:Has X.prog X.w X.K X.mg X.base x j ps sp)(hjk:j<=k)(hr:Room k X.A)(hg:Gl X x)(ha:PA X (e::es) t)(hdb:(x==("__debug__":Str))=false:=by decide)
  (he:starEach (e::es) X.env=(false,eval e X.env)::starEach es X.env:=by rfl) (hpl:(backTo pos (starEach es X.env)).any (·.1)=false:=by rfl):PE X (.Call (.Name x p) (e::es) [] pos) (zK5 sp [] E0 t):=by
 obtain⟨f,fd,G,m,kp,b⟩:=h;exact zON G (hr.mono hjk) hg m kp b .nil zZO ha hdb he hpl
end
section
variable{P:qIb}{w:World}{K:qA1}{mg:Str->Option Value}{base:Heap}
theorem Def.ok{x:Str}{st:Stmt}{N ps:List Str}{k:Nat}{sp:Sp}(D:Def K mg x st)(S:FnScope N ps (zAA st))
  (hb:∀(kV doc pm:Value)(an:Option Addr)(cdv ct:Value)(us:List Value),us.length=ps.length->qLg (qBe x x (zBG st) (zAY st) (zAA st) .none kV doc pm an cdv ct) ⟨us,[]⟩=pure (ps.zip us))
  (len:∀vs H Q E,sp vs H Q E->vs.length=ps.length)
  (hbody:∀(f:Addr)(cdv:Value)(A:qIc)(outer:List Env)(s:qI8)(H:Hp)(vs:List V)(Q:VK)(E:XK),Room k (A.deeper (envOfC x (zAA st) s.heap.objs.size f cdv))->sp vs H Q E ->
   ∃t,PSs (cxOf CX0 P w K mg base N x (zAA st) f cdv A outer s H E).nox (zAY st) t/\t { nx:=fun _ H'=>Q .non H',rt:=Q } (start N vs) H):Has P w K mg base x (k+1) ps sp:=by
 obtain⟨f,fd,F,m⟩:=D;exact⟨f,fd,F.ok S len (fun cdv A outer s H vs Q E hr h=>hbody f cdv A outer s H vs Q E hr h),m,F.kp,F.binds hb⟩
end
section
variable{X:Cx}{pins:List (Addr×Obj)}{σ:St}{H:Hp}{s:qI8}
theorem Inv.turnedNew{h':Heap}{t':Nat}{fp:List Addr}{a:Addr}{o:HO}(I:Inv X pins σ H s)(hf:∀b∈fp,FpOk X pins H b)(k:∀b u,b∉fp->s.heap.get? b=some u->h'.get? b=some u)
  (hp:s.heap.objs.size<=a) (new:ObjOk X.prog X.w (upd H a o) h' a o):Inv X pins σ (upd H a o) { s with heap:=h',toks:=t' }:=by
 have hn:H a=none:=I.hok.fresh hp;have ne:∀b u,s.heap.get? b=some u->b≠a:=fun b u e=>qAj (qAf (qI9 e) hp)
 have nfp:∀b u,H b=some u->b∉fp:=fun b u e z=>by rw[(hf b z).1]at e;cases e
 refine I.step (g':=s.gens) (d':=s.drawn) (ch:=fp) (fun b hb=>⟨(hf b hb).2.2.2.1,(hf b hb).2.1,(hf b hb).2.2.2.2.1,(hf b hb).2.2.2.2.2⟩) (fun b u _ _ hc e _=>k b u hc e) (fun b u _ _ hc e _=>⟨u.slots,k b u hc e⟩)
  (fun b u _ e n=>by rw[zAE (ne b u e)];exact n) (fun b u hc e=>⟨u,k b u hc e⟩) (fun b xs e=>by rw[zAE (zAH e hn)];exact e) (fun b u xs e=>by rw[zAE (zAH e hn)];exact e)
  (fun b ps e=>⟨#[],by rw[zAE (zAH e hn),e];simp⟩) (fun m hm=>?_) (fun b u e=>?_) I.bare
 ·obtain⟨u,es,ep,ho,r⟩:=hm;exact⟨u,es,ep,k _ u (fun z=>(hf _ z).2.1 rfl) ho,r⟩
 ·by_cases hb:b=a
  ·subst hb;rw[zAD]at e;cases e;exact new
  ·rw[zAE hb]at e;refine(I.hok b u e).stay (fun c v hc q=>k c v ?_ q) (fun c q=>by rw[zAE (zAH q hn)];exact q) (fun c xs q=>by rw[zAE (zAH q hn)];exact q) fun c _ _ q _=>by rw[zAE (zAH q hn)];exact q
   rcases hc with z|z
   ·rw[z];exact nfp b u e
   ·exact nfp c _ z
theorem Inv.turnedL{h':Heap}{t':Nat}{fp:List Addr}(I:Inv X pins σ H s)(hf:∀b∈fp,FpOk X pins H b)(k:∀b u,b∉fp->s.heap.get? b=some u->h'.get? b=some u):Inv X pins σ H { s with heap:=h',toks:=t' }:=by
 have nfp:∀b u,H b=some u->b∉fp:=fun b u e z=>by rw[(hf b z).1]at e;cases e
 refine I.step (g':=s.gens) (d':=s.drawn) (ch:=fp) (fun b hb=>⟨(hf b hb).2.2.2.1,(hf b hb).2.1,(hf b hb).2.2.2.2.1,(hf b hb).2.2.2.2.2⟩) (fun b u _ _ hc e _=>k b u hc e) (fun b u _ _ hc e _=>⟨u.slots,k b u hc e⟩)
  (fun b u _ e n=>n) (fun b u hc e=>⟨u,k b u hc e⟩) (fun b xs e=>e) (fun b u xs e=>e)
  (fun b ps e=>⟨#[],by rw[e];simp⟩) (fun m hm=>?_) (fun b u e=>?_) I.bare
 ·obtain⟨u,es,ep,ho,r⟩:=hm;exact⟨u,es,ep,k _ u (fun z=>(hf _ z).2.1 rfl) ho,r⟩
 ·refine(I.hok b u e).stay (fun c v hc q=>k c v ?_ q) (fun c q=>q) (fun c xs q=>q) fun c _ _ q _=>q
  rcases hc with z|z
  ·rw[z];exact nfp b u e
  ·exact nfp c _ z
def Ite(K:qA1)(a:Addr):It:=
 ⟨fun i H=>∃xs x,SqL K H a xs/\xs[i]?=some x,fun i H x H'=>∃T y,x=.ref T/\H T=none/\H'=upd H T (.tup [.int i,y])/\∀xs,SqL K H a xs->xs[i]?=some y,fun i H=>∃xs,SqL K H a xs/\xs.length<=i⟩
theorem zIC{P:qIb}{w:World}{K:qA1}{ts:List Expr}{kk:Nat}{tp:Pos}(a e it:Addr)(hei:e≠it) :
  Turn P w K (.Tuple ts kk tp) (Ite K a) [e,it] e (fun i h=>(∃old,IsEnum h e it i old)/\h.IsListIter it a i) where
 mem:=by simp
 obj:=fun i h st b hb=>by
  rcases qAb.mp hb with z|z
  ·subst z;obtain⟨⟨old,he⟩,_⟩:=st;exact⟨_,he,fun v z=>by cases z⟩
  ·have z':b=it:=by simpa using z
   subst z';obtain⟨_,o,e,c,d⟩:=st;exact⟨o,e,fun v z=>by rw[d]at z;cases z⟩
 keep:=fun i h h' st k=>⟨by obtain⟨⟨old,he⟩,_⟩:=st;exact⟨old,k e (by simp) _ he⟩,st.2.at fun o x=>k it (by simp) o x⟩
 item:=by
  intro X hP hw hK hc i pins s σ H E I hf st hg;subst hP hw hK;obtain⟨xs,x,hq,hx⟩:=hg;obtain⟨its,rv,p,hz⟩:=I.list hq;obtain⟨u,hu,ru⟩:=rv.get hx;obtain⟨⟨old,he⟩,hit⟩:=st;refine wpAny_pyNext_enum_item he hit p.isList (x:=u) (by simpa using hu) hei fun h' ho hit' hT hsz hk=>?_
  refine⟨_,rfl,qKc ho fun h'' he'' hs''=>?_⟩;have hTe:s.heap.objs.size≠e:=qBm (qI9 he);have hTi:s.heap.objs.size≠it:=by obtain⟨o,ho',_⟩:=hit;exact qBm (qI9 ho')
  have kk:∀b u,b∉[e,it]->s.heap.get? b=some u->h''.get? b=some u:=fun b u hb q=>by
   have b1:b≠e:=fun z=>hb (by simp[z])
   have b2:b≠it:=fun z=>hb (by simp[z])
   exact(hs''.2 b b1).trans (hk b u b1 b2 q)
  have hT'':=(hs''.2 _ hTe).trans hT;refine⟨.ref s.heap.objs.size,_,I.turnedNew (t':=s.toks+1) (o:=.tup [.int i,x]) hf kk (qA8 _) ⟨by show 2<=sizeLine;decide,[.int i s.toks,u],.cons ⟨_,rfl⟩ (.cons ru .nil),⟨_,hT'',rfl,_,rfl⟩⟩,rfl,
   ⟨_,x,rfl,I.fresh,rfl,fun ys hy=>by rw[I.list_inj hy hq];exact hx⟩,⟨⟨_,by simpa using he''⟩,hit'.at fun o x=>(hs''.2 it hei.symm).trans x⟩,fun b hb=>?_⟩
  have hbs:b<s.heap.objs.size:=by
   rcases qAb.mp hb with z|z
   ·rw[z];exact qI9 he
   ·have z':b=it:=by simpa using z
    rw[z'];obtain⟨o,ho',_⟩:=hit;exact qI9 ho'
  rw[zAE (qAj hbs)];exact(hf b hb).1
 done:=by
  intro X hP hw hK hc i pins s σ H E I hf st hg;subst hP hw hK;obtain⟨xs,hq,hx⟩:=hg;obtain⟨its,rv,p,hz⟩:=I.list hq;have hl:=rv.length;obtain⟨⟨old,he⟩,hit⟩:=st;exact wpAny_pyNext_enum_end (I.ok.hd hc) he hit p.isList (by simp;lia) fun h' eb=>⟨rfl,I.turnedL (t':=s.toks) hf fun b u hb q=>eb b u (fun z=>hb (by simp[z])) q⟩
 self:=fun _ _ _ _ _ st h=>by obtain⟨⟨old,he⟩,_⟩:=st;exact qJd he h
def zV4(K:qA1)(tl:TA):TI:=fun σ H R=>tl σ H fun vs H1=>match vs with
 |[.ref a]=>(∃xs,SqL K H1 a xs)/\R (Ite K a) H1
 |_=>False
theorem zUC{ts:List Expr}{kk:Nat}{tp p pos:Pos}{a:Expr}{ta:TA}(hg:Gl X "enumerate")(hm:X.mg "enumerate" = none)(ha:PA X [a] ta)(hs:starEach [a] X.env=[(false,eval a X.env)]:=by rfl) :
  PI X (.Tuple ts kk tp) (.Call (.Name "enumerate" p) [a] [] pos) (zV4 X.K ta):=by
 intro pins s σ H R I h;refine Call_ (zGM I hg hm boot_enumerate (qC2 (thn (ha pos pins s σ H _ I h) fun us s1 z0=>?_) hs rfl));obtain⟨vs,H1,I1,r1,q1⟩:=z0;cases vs with
 |nil=>exact qA5 q1
 |cons hd1 tl1=>
  cases hd1 with
  |ref l=>
   cases tl1 with
   |nil=>
    obtain⟨⟨xs,hq⟩,q⟩:=q1;obtain⟨u,rfl,rx⟩:=zCO r1;cases rx;obtain⟨its,rv,pl,hz⟩:=I1.list hq;refine qLb pl.isList fun h' he hit hsz hk=>?_
    refine qJd he ?_;have hne:s1.heap.objs.size+1≠s1.heap.objs.size:=by lia
    refine⟨s1.heap.objs.size+1,[s1.heap.objs.size+1,s1.heap.objs.size],_,_,H1,rfl,I1.kept (t':=s1.toks) hk,zIC l _ _ hne,⟨⟨_,he⟩,hit⟩,fun b hb=>?_,q⟩;have hb':s1.heap.objs.size<=b:=by
     rcases qAb.mp hb with z|z
     ·rw[z];exact qC3 _
     ·have z':b=s1.heap.objs.size:=by simpa using z
      rw[z'];exact qA8 _
    exact I1.fpOk hb' (I1.hok.fresh hb')
   |cons _ _=>exact qA5 q1
  |_=>exact qA5 q1
end
section
variable{X:Cx}{K:qA1}
theorem zCC(hK:X.K=K:=by rfl):zCN X (.builtin "len") (zU3 K):=hK▸za2
theorem zUU(hc:X.calm=true)(hK:X.K=K:=by rfl):zCN X (.type "list") (zLO K):=hK▸zXR hc
theorem zD5(hK:X.K=K:=by rfl):IxR X (rIxU K):=hK▸u_ix
theorem zLV{ts:List Expr}{kk:Nat}{tp p pos:Pos}{a:Expr}{ta:TA}(hg:Gl X "enumerate")(hm:X.mg "enumerate" = none)(ha:PA X [a] ta)(hs:starEach [a] X.env=[(false,eval a X.env)]:=by rfl)(hK:X.K=K:=by rfl) :
  PI X (.Tuple ts kk tp) (.Call (.Name "enumerate" p) [a] [] pos) (zV4 K ta):=hK▸zUC hg hm ha hs
theorem zHD{es:List Expr}{k:Nat}{t:TGs}{n:Nat}{pos:Pos}(hc:X.calm=true)(h:PGs X es t)
  (hn:(assignEach es X.env).length=n:=by rfl) (hst:(assignEach es X.env).findIdx? (·.1)=none:=by rfl) (hK:X.K=K:=by rfl):PG X (.Tuple es k pos) (gTup K n t):=hK▸zX4 hc h hn hst
noncomputable def tML(r:V->List V->Hp->VK->Prop)(to:TE)(t:TA):TE:=fun σ H Q=>to σ H fun x H1=>match x with
 |.ref p=>∃xs,H1 p=some (.lst xs)/\t σ H1 fun vs H2=>r x vs H2 Q
 |_=>False
variable{o e:Expr}{es:List Expr}{to:TE}{t:TA}{name:Str}{apos cpos:Pos}{T id:String}{r:V->List V->Hp->VK->Prop}
theorem zOK(pa:qMe "list")(slot:Slot "list" name id)(hty:typeOf (.builtin id)=pure (.type "method_descriptor"))(hm:MtR X id r)(ho:PE X o to)(ha:PA X (e::es) t)
  (hbase:qLh o name X.env (eval o X.env)=eval o X.env:=by rfl)
  (hfew:((backTo cpos (starEach (e::es) X.env)).all (fun x=>!x.1)&&(backToKw cpos (keywordEach [] X.env)).all (fun x=>x.1.isSome)
   && decide ((e::es).length+([]:List qLm).length+(if([]:List qLm).isEmpty then 0 else 1)<30))=true:=by rfl)
  (hline:(apos.endLine==cpos.line)=true:=by rfl) (hs:starEach (e::es) X.env=(false,eval e X.env)::starEach es X.env:=by rfl) (hplain:(backTo cpos (starEach es X.env)).any (·.1)=false:=by rfl) :
  PE X (.Call (.Attribute o name apos) (e::es) [] cpos) (tML r to t):=by
 intro pins s σ H Q I h;refine qJt hbase hfew hline rfl (thn (ho pins s σ H _ I h) fun v s1 z0=>?_);obtain⟨x,H1,I1,r1,q1⟩:=z0;cases x with
 |ref p=>?_
 |_=>exact qA5 q1
 obtain⟨xs,hx,q1⟩:=q1;obtain⟨h1,h2⟩:=zSF (T:="list") I1 r1 (.inl ⟨rfl,xs,SqL.of hx⟩);refine⟨"list",id,pa,slot,hty,h1,h2,?_⟩;have hA:=ha cpos pins s1 σ H1 _ I1 q1;rw[hs]at hA ⊢;refine qJu (by show(false||(backTo cpos (starEach es X.env)).any (·.1))=false;rw[hplain]<;>rfl) (qK2 ?_);exact thn hA fun us s2 ⟨vs,H2,I2,r2,q2⟩=>hm pins s2 σ H2 (.ref p) vs v us Q I2 r1 r2 q2
end
theorem same_new{H:Hp}{p:Addr}(h:H p=none)(o:HO):Same H (upd H p o):=fun b u q=>by rw[zAE (zAH q h)];exact q
theorem Same.upd{H H':Hp}{p:Addr}(s:Same H H')(h:H p=none)(o:HO):Same H (upd H' p o):=fun b u q=>by rw[zAE (zAH q h)];exact s b u q
theorem zC9{H:Hp}:∀(ns:List Int),RepL H (ns.map Dat.int) (ns.map V.int)
 |[]=>rfl
 |n::r=>⟨.int n,r.map V.int,rfl,rfl,zC9 r⟩
theorem zG4:∀(ns:List Int),Dat.depL (ns.map Dat.int)=0
 |[]=>rfl
 |n::r=>by
  rw[qAk,Dat.depL,zG4 r];rfl
theorem zEY:∀(ns ms:List Int),Dat.eqL (ns.map Dat.int) (ms.map Dat.int)=decide (ns=ms)
 |[],[]=>by simp[Dat.eqL]
 |[],_::_=>by simp[Dat.eqL]
 |_::_,[]=>by simp[Dat.eqL]
 |n::r,m::q=>by
  rw[qAk,qAk,Dat.eqL,zEY r q,Dat.eq]
  by_cases h:n=m
  ·subst h;simp
  ·simp[h]
theorem zLI{ns:List Int}{i:Nat}{x:Int}:(ns.map V.int).set i (.int x)=(ns.set i x).map V.int:=by
 rw[qEz]
theorem big{n:Nat}(h:n<=100000):n<sizeLine:=by rw[qIq];lia
section
variable{X:Cx}
def rInU(K:qA1)(neg:Bool):R2:=fun x y H Q=>match y with
 |.ref p=>∃xs,(SqL K H p xs\/SqT K H p xs)/\zEG x=true/\xs.all zEG=true/\Q (.bl (if neg then !inV x xs else inV x xs)) H
 |.str j=>match x with
  |.str i=>Q (.bl (if neg then !(!(qJ3 j i 0 j.length 1).isEmpty)else !(qJ3 j i 0 j.length 1).isEmpty)) H
  |_=>False
 |_=>False
theorem zTU{K:qA1}(hK:X.K=K:=by rfl):OpR X (compareOp .NotIn) (rInU K true):=by
 subst hK;intro pins s σ H x y v u Q I rx ry h;cases y with
 |ref p=>
  obtain⟨xs,h1,h2,h3,h4⟩:=h;exact zIW pins s σ H _ _ v u Q I rx ry ⟨p,xs,rfl,h1,h2,h3,h4⟩
 |str j=>
  cases x with
  |str i=>exact zIV pins s σ H _ _ v u Q I rx ry ⟨i,j,rfl,rfl,h⟩
  |_=>exact qA5 h
 |_=>exact qA5 h
end
end L2
namespace Mi
open PySem
noncomputable section
inductive Sv where
 |i (n:Int)|s (x:Str)
inductive Sw where
 |non|bl (b:Bool)|int (i:Int)|str (x:Str)
inductive Dt where
 |non|bl (b:Bool)|int (i:Int)|str (x:Str)|lst (xs:List Dt)|tup (xs:List Dt)|scr (ns:List Int)|exc (c f:Str) (d:Dt)|ins (c:Str) (fs:List (Str×Sv))|dct (kvs:List (Sum Int Str×Sw))|fn (x:Str) (d:Dt)|dtt (ks:List (List Sw)) (xs:List Dt)|loc (a:Nat) (d:Dt)
mutual
def Dt.dep:Dt->Nat
 |.lst xs=>Dt.depL xs+1
 |.tup xs=>Dt.depL xs+1
 |.scr _=>1000
 |.exc _ _ _=>1000
 |.fn _ _=>1000
 |.dtt _ _=>1000
 |.loc _ _=>1000
 |.ins _ _=>1000
 |.dct _=>1000
 |_=>0
def Dt.depL:List Dt->Nat
 |[]=>0
 |x::r=>max x.dep (Dt.depL r)
end
mutual
def Dt.eq:Dt->Dt->Bool
 |.non,.non=>true
 |.bl a,.bl b=>a==b
 |.bl a,.int b=>(if a then 1 else 0)==b
 |.int a,.bl b=>a==(if b then 1 else 0)
 |.int a,.int b=>a==b
 |.str a,.str b=>a==b
 |.lst xs,.lst ys=>Dt.eqL xs ys
 |.tup xs,.tup ys=>Dt.eqL xs ys
 |_,_=>false
def Dt.eqL:List Dt->List Dt->Bool
 |[],[]=>true
 |x::r,y::q=>Dt.eq x y&&Dt.eqL r q
 |_,_=>false
end
structure Xn where
 cls:Str
 f:Str
 d:Dt
abbrev R(α:Type):=Option (Except Xn α)
noncomputable def okR{α:Type}(a:α):R α:=some (.ok a)
noncomputable def zA2{α β:Type}(x:R α)(f:α->R β):R β:=match x with
 |none=>none
 |some (.error e)=>some (.error e)
 |some (.ok a)=>f a
def optR{α:Type}(o:Option α):R α:=match o with
 |none=>none
 |some a=>okR a
@[simp] theorem zA0{α β:Type}(a:α)(f:α->R β):zA2 (okR a) f=f a:=rfl
@[simp] theorem zA5{α β:Type}(f:α->R β):zA2 none f=none:=rfl
@[simp] theorem zA8{α β:Type}(e:Xn)(f:α->R β):zA2 (some (.error e)) f=some (.error e):=rfl
@[simp] theorem zA4{α:Type}(a:α):optR (some a)=okR a:=rfl
@[simp] theorem zA7{α:Type}:optR (none:Option α)=none:=rfl
abbrev Rh:=List (Option Dt)
abbrev Sl:=Dt×Nat
abbrev Ro:=List (Option Sl)
abbrev EM:=Rh->R Dt
abbrev TM:=Rh->R Bool
abbrev AM:=Rh->R (List Dt)
abbrev FM:=List Dt->R Dt
noncomputable def ixA(n:Nat)(i:Int):Option Nat:=if 0<=i then(if i<n then some i.toNat else none)else if -(n:Int)<=i then some (i+n).toNat else none
def itA{α:Type}(xs:List α)(i:Int):Option α:=(ixA xs.length i).bind fun j=>xs[j]?
noncomputable def addD:Dt->Dt->Option Dt
 |.int i,.int j=>some (.int (i+j))
 |.str i,.str j=>@ite _ (i.length+j.length<=100000) (qA4 _) (some (.str (i++j))) none
 |.lst xs,.lst ys=>@ite _ (xs.length+ys.length<=100000) (qA4 _) (some (.lst (xs++ys))) none
 |_,_=>none
noncomputable def subD:Dt->Dt->Option Dt
 |.int i,.int j=>some (.int (i-j))
 |_,_=>none
noncomputable def mulD:Dt->Dt->Option Dt
 |.int i,.int j=>@ite _ (((-18446744073709551616<i/\i<18446744073709551616)\/(-18446744073709551616<j/\j<18446744073709551616))\/i.natAbs.log2+j.natAbs.log2<=67108864) (qA4 _) (some (.int (i*j))) none
 |_,_=>none
noncomputable def divD:Dt->Dt->Option Dt
 |.int i,.int j=>@ite _ (0<j/\j<1000000000000000000000000) (qA4 _) (some (.int (i/j))) none
 |_,_=>none
noncomputable def modD:Dt->Dt->Option Dt
 |.int i,.int j=>if 0<j then some (.int (i%j))else none
 |_,_=>none
noncomputable def powD:Dt->Dt->Option Dt
 |.int i,.int j=>@ite _ (0<=j/\j<=1000000/\i.natAbs<18446744073709551616) (qA4 _) (some (.int (i ^ j.toNat))) none
 |_,_=>none
noncomputable def negD:Dt->Option Dt
 |.int i=>some (.int (-i))
 |_=>none
noncomputable def cmpD(p:Int->Int->Bool):Dt->Dt->Option Dt
 |.int i,.int j=>some (.bl (p i j))
 |_,_=>none
noncomputable def eqD(x y:Dt):Option Dt:=if x.dep<=40/\y.dep<=40 then some (.bl (Dt.eq x y))else none
noncomputable def neD(x y:Dt):Option Dt:=if x.dep<=40/\y.dep<=40 then some (.bl (!Dt.eq x y))else none
noncomputable def zDE:Dt->Bool
 |.non=>true
 |_=>false
def isD(x y:Dt):Option Dt:=match y with
 |.non=>some (.bl (zDE x))
 |_=>none
noncomputable def za6(x y:Dt):Option Dt:=match y with
 |.non=>some (.bl (!zDE x))
 |_=>none
def ixD:Dt->Dt->Option Dt
 |.lst xs,.int i=>itA xs i
 |.tup xs,.int i=>itA xs i
 |.scr ns,.int i=>(itA ns i).map .int
 |.str z,.int i=>@ite _ (z.length<=100000) (qA4 _) ((itA z.cps.toList i).map fun c=>.str ⟨#[c]⟩) none
 |_,_=>none
noncomputable def lenD:List Dt->Option Dt
 |[.lst xs]=>some (.int xs.length)
 |[.tup xs]=>some (.int xs.length)
 |[.scr ns]=>some (.int ns.length)
 |[.str z]=>@ite _ (z.length<=100000) (qA4 _) (some (.int z.length)) none
 |_=>none
noncomputable def listD:List Dt->Option Dt
 |[.lst xs]=>some (.lst xs)
 |[.tup xs]=>some (.lst xs)
 |[.scr ns]=>some (.lst (ns.map .int))
 |_=>none
noncomputable def nums(lo:Int)(n:Nat):List Dt:=(qA9 n).map fun i:Nat=>.int (lo+(i:Int))
noncomputable def tyD:Dt->String
 |.non=>"NoneType"
 |.bl _=>"bool"
 |.int _=>"int"
 |.str _=>"str"
 |.lst _=>"list"
 |.tup _=>"tuple"
 |.scr _=>""
 |.exc _ _ _=>""
 |.fn _ _=>""
 |.dtt _ _=>""
 |.loc _ _=>""
 |.ins _ _=>""
 |.dct _=>""
def isiD(n:String)(x:Dt):Option Dt:=if tyD x = "" then none else some (.bl (tyD x==n||(tyD x == "bool" && n == "int")))
noncomputable def boolsD:List Dt->Option (List Bool)
 |[]=>some []
 |.bl b::r=>(boolsD r).map (b::·)
 |_::_=>none
def allD:List Dt->Option Dt
 |[.lst xs]=>(boolsD xs).map fun bs=>.bl (bs.all id)
 |_=>none
noncomputable def intD:List Dt->Option Dt
 |[.int i]=>some (.int i)
 |[.bl k]=>some (.int (if k=true then 1 else 0))
 |_=>none
noncomputable def absD:List Dt->Option Dt
 |[.int i]=>some (.int (if i<0 then -i else i))
 |_=>none
noncomputable def hasD(x:Dt)(ys:List Dt):Option Bool:=if x.dep=0/\Dt.depL ys=0 then some (ys.any fun y=>Dt.eq y x)else none
def inD(ng:Bool)(x y:Dt):Option Dt:=match y with
 |.lst ys=>(hasD x ys).map fun b=>.bl (if ng=true then !b else b)
 |.tup ys=>(hasD x ys).map fun b=>.bl (if ng=true then !b else b)
 |.str z=>match x with
  |.str y=>match y.cps.toList with
   |[c]=>some (.bl (if ng=true then !decide (c∈z.cps.toList)else decide (c∈z.cps.toList)))
   |_=>none
  |_=>none
 |_=>none
noncomputable def cutIx(n d:Nat):Option Int->Nat
 |none=>d
 |some v=>if v<0 then(v+(n:Int)).toNat else min v.toNat n
def cutA{α:Type}(xs:List α)(lo hi:Option Int):List α:=(xs.drop (cutIx xs.length 0 lo)).take (cutIx xs.length xs.length hi-cutIx xs.length 0 lo)
def slD:Dt->Option Int->Option Int->Option Dt
 |.lst xs,lo,hi=>some (.lst (cutA xs lo hi))
 |.str z,lo,hi=>@ite _ (z.length<=100000) (qA4 _) (some (.str ⟨(cutA z.cps.toList lo hi).toArray⟩)) none
 |_,_,_=>none
abbrev OM:=Rh->R (Option Int)
def oNo:OM:=fun _=>okR none
def oE(e:Rh->R Dt):OM:=fun ρ=>zA2 (e ρ) fun d=>match d with
 |.int i=>okR (some i)
 |_=>none
def eSl(a:Rh->R Dt)(lo hi:OM):Rh->R Dt:=fun ρ=>zA2 (a ρ) fun x=>zA2 (lo ρ) fun l=>zA2 (hi ρ) fun h=>optR (slD x l h)
noncomputable def posC(c:Nat):List Nat->Option Nat
 |[]=>none
 |x::r=>if x=c then some 0 else(posC c r).map (·+1)
def findD(x:Dt)(ys:List Dt):Option Dt:=match x,ys with
 |.str z,[.str y]=>match y.cps.toList with
  |[c]=>some (.int (match posC c z.cps.toList with|some i=>(i:Int)|none=>-1))
  |_=>none
 |_,_=>none
noncomputable def zYR(x:Dt)(ys:List Dt):Option Dt:=match x,ys with
 |.str z,[.str y]=>match y.cps.toList with
  |[c]=>some (.int (z.cps.toList.count c:Nat))
  |_=>none
 |_,_=>none
noncomputable def strsD:List Dt->Option (List Str)
 |[]=>some []
 |.str z::r=>(strsD r).map (z::·)
 |_::_=>none
def joinD(x:Dt)(ys:List Dt):Option Dt:=match x,ys with
 |.str z,[.lst ds]=>match strsD ds with
  |some zs=>@ite _ ((zs.map (·.length)).sum+zs.length*z.length<=100000) (qA4 _) (some (.str (qKo z zs))) none
  |none=>none
 |_,_=>none
noncomputable def zM7:Dt->Bool
 |.str _=>true
 |_=>false
def eMt(f:Dt->List Dt->Option Dt)(a:Rh->R Dt)(am:Rh->R (List Dt)):Rh->R Dt:=fun ρ=>zA2 (a ρ) fun x=>if zM7 x=true then zA2 (am ρ) fun xs=>optR (f x xs)else none
noncomputable def signsD(z:Str):List Dt:=z.cps.toList.map fun c=>.str ⟨#[c]⟩
def eC(d:Dt):EM:=fun _=>okR d
def eV(i:Nat):EM:=fun ρ=>match ρ[i]? with
 |some (some d)=>okR d
 |_=>none
def eB(f:Dt->Dt->Option Dt)(a b:EM):EM:=fun ρ=>zA2 (a ρ) fun x=>zA2 (b ρ) fun y=>optR (f x y)
def eU(f:Dt->Option Dt)(a:EM):EM:=fun ρ=>zA2 (a ρ) fun x=>optR (f x)
def eAnd(a b:EM):EM:=fun ρ=>zA2 (a ρ) fun x=>match x with
 |.bl k=>if k=true then b ρ else okR (.bl false)
 |_=>none
def eOr(a b:EM):EM:=fun ρ=>zA2 (a ρ) fun x=>match x with
 |.bl k=>if k=true then okR (.bl true)else b ρ
 |_=>none
def eNot(a:EM):EM:=fun ρ=>zA2 (a ρ) fun x=>match x with
 |.bl k=>okR (.bl (!k))
 |_=>none
def zY9(p q:Dt->Dt->Option Dt)(a b c:EM):EM:=fun ρ=>zA2 (a ρ) fun x=>zA2 (b ρ) fun y=>zA2 (optR (p x y)) fun z=>match z with
 |.bl k=>if k=true then zA2 (c ρ) fun w=>optR (q y w)else okR (.bl false)
 |_=>none
def eIf(c:TM)(a b:EM):EM:=fun ρ=>zA2 (c ρ) fun k=>if k=true then a ρ else b ρ
def aNil:AM:=fun _=>okR []
def aCons(e:EM)(r:AM):AM:=fun ρ=>zA2 (e ρ) fun x=>zA2 (r ρ) fun xs=>okR (x::xs)
def eLst(a:AM):EM:=fun ρ=>zA2 (a ρ) fun xs=>@ite _ (xs.length<=100000) (qA4 _) (okR (.lst xs)) none
def eTup(a:AM):EM:=fun ρ=>zA2 (a ρ) fun xs=>@ite _ (xs.length<=100000) (qA4 _) (okR (.tup xs)) none
def eCall(f:FM)(a:AM):EM:=fun ρ=>zA2 (a ρ) f
def eBi(f:List Dt->Option Dt)(a:AM):EM:=fun ρ=>zA2 (a ρ) fun xs=>optR (f xs)
def eIsi(n:String)(a:EM):EM:=fun ρ=>zA2 (a ρ) fun x=>optR (isiD n x)
def tB(a:EM):TM:=fun ρ=>zA2 (a ρ) fun x=>match x with
 |.bl k=>okR k
 |_=>none
def tM(a:EM):TM:=fun ρ=>zA2 (a ρ) fun x=>match x with
 |.bl k=>okR k
 |.int i=>okR (i != 0)
 |.non=>okR false
 |_=>none
def tAn(a b:TM):TM:=fun ρ=>zA2 (a ρ) fun k=>if k=true then b ρ else okR false
def tOr(a b:TM):TM:=fun ρ=>zA2 (a ρ) fun k=>if k=true then okR true else b ρ
def tNo(a:TM):TM:=fun ρ=>zA2 (a ρ) fun k=>okR (!k)
def tYes:TM:=fun _=>okR true
abbrev IM:=Rh->R (List Dt)
def iSq(e:EM):IM:=fun ρ=>zA2 (e ρ) fun d=>match d with
 |.lst xs=>okR xs
 |.tup xs=>okR xs
 |.scr ns=>okR (ns.map .int)
 |.str z=>okR (signsD z)
 |_=>none
def iR1(e:AM):IM:=fun ρ=>zA2 (e ρ) fun vs=>match vs with
 |[.int j]=>@ite _ (-4611686018427387904<=j/\j<4611686018427387904) (qA4 _) (okR (nums 0 j.toNat)) none
 |_=>none
noncomputable def enumD(n:Nat):List Dt->List Dt
 |[]=>[]
 |x::r=>.tup [.int n,x]::enumD (n+1) r
def iEn(e:AM):IM:=fun ρ=>zA2 (e ρ) fun vs=>match vs with
 |[.lst xs]=>okR (enumD 0 xs)
 |_=>none
noncomputable def zipD:List Dt->List Dt->List Dt
 |x::r,y::q=>.tup [x,y]::zipD r q
 |_,_=>[]
def iZi(e:AM):IM:=fun ρ=>zA2 (e ρ) fun vs=>match vs with
 |[.lst xs,.lst ys]=>okR (zipD xs ys)
 |_=>none
inductive Tg where
 |one (i:Nat)
 |tup (is:List Nat)
noncomputable def zAN:Tg->Dt->Option (List (Nat×Dt))
 |.one i,d=>some [(i,d)]
 |.tup is,.tup ds=>if ds.length=is.length then some (is.zip ds)else none
 |.tup _,_=>none
noncomputable def Tg.idx:Tg->List Nat
 |.one i=>[i]
 |.tup is=>is
noncomputable def zAM:Rh->List (Nat×Dt)->Rh
 |ρ,[]=>ρ
 |ρ,(i,d)::r=>zAM (ρ.set i (some d)) r
noncomputable def zAP:Ro->List (Nat×Dt)->Ro
 |ρ,[]=>ρ
 |ρ,(i,d)::r=>zAP (ρ.set i (some (d,0))) r
def compGo(ρ:Rh)(k:Nat)(tg:Tg)(c:TM)(e:EM):List Dt->List Dt->R (List Dt)
 |[],acc=>okR acc
 |d::ds,acc=>match zAN tg d with
  |none=>none
  |some bs=>zA2 (c (zAM (ρ++qAa k none) bs)) fun b=>if b=true then zA2 (e (zAM (ρ++qAa k none) bs)) fun x=>compGo ρ k tg c e ds (acc++[x])else compGo ρ k tg c e ds acc
def eComp(it:IM)(k:Nat)(tg:Tg)(c:TM)(e:EM):EM:=fun ρ=>zA2 (it ρ) fun ds=>@ite _ (ds.length<=100000/\(tg.idx.all fun i=>decide (ρ.length<=i))=true) (qA4 _) (zA2 (compGo ρ k tg c e ds []) fun es=>okR (.lst es)) none
inductive Out where
 |nx (ρ:Ro)|rt (d:Dt)|bk (ρ:Ro)|ct (ρ:Ro)
abbrev SM:=Ro->R Out
noncomputable def full(ρ:Ro):Rh:=ρ.map fun o=>o.map qHx
noncomputable def frz(ρ:Ro):Rh:=ρ.map fun o=>match o with
 |some (d,n)=>if n=0\/d.dep=0 then some d else none
 |none=>none
noncomputable def frz1(i:Nat)(ρ:Ro):Ro:=match ρ[i]? with
 |some (some (d,_))=>ρ.set i (some (d,0))
 |_=>ρ
def frzAt:List Nat->Ro->Ro
 |[],ρ=>ρ
 |i::r,ρ=>frzAt r (frz1 i ρ)
def sNil:SM:=fun ρ=>okR (.nx ρ)
def sSeq(a b:SM):SM:=fun ρ=>zA2 (a ρ) fun o=>match o with
 |.nx ρ'=>b ρ'
 |o=>okR o
noncomputable def zWF:SM:=fun _=>none
def zWH:SM:=fun ρ=>okR (.bk ρ)
def zZH:SM:=fun ρ=>okR (.ct ρ)
def sIf(c:TM)(a b:SM):SM:=fun ρ=>zA2 (c (full ρ)) fun k=>if k=true then a ρ else b ρ
def zZG(e:EM):SM:=fun ρ=>zA2 (e (full ρ)) fun _=>okR (.nx ρ)
def sSet(i n:Nat)(vs:List Nat)(e:EM):SM:=fun ρ=>zA2 (e (full ρ)) fun d=>
 if d.dep<=n then okR (.nx (ρ.set i (some (d,n))))else zA2 (e (frz (frzAt vs ρ))) fun d'=>okR (.nx ((frzAt vs ρ).set i (some (d',n))))
def sUnp(is:List Nat)(vs:List Nat)(e:EM):SM:=fun ρ=>zA2 (e (frz (frzAt vs ρ))) fun d=>match zAN (.tup is) d with
 |none=>none
 |some bs=>okR (.nx (zAP (frzAt vs ρ) bs))
def sRet(L n:Nat)(vs:List Nat)(e:EM):SM:=fun ρ=>zA2 (e (full ρ)) fun d=>
 if d.dep<=n/\d.dep<=L then okR (.rt d)else if n=L then zA2 (e (frz (frzAt vs ρ))) fun d'=>okR (.rt d')else none
def zZF:SM:=fun _=>okR (.rt .non)
def sRetV(L i:Nat):SM:=fun ρ=>match ρ[i]? with
 |some (some (d,k))=>if k=L\/L=0\/(d.dep<=k/\d.dep<=L/\k<1000)then okR (.rt d)else none
 |_=>none
def sApp(i n:Nat)(e:EM):SM:=fun ρ=>match ρ[i]? with
 |some (some (.lst ds,k+1))=>zA2 (e (full ρ)) fun d=>@ite _ (ds.length<=100000/\d.dep<=n/\d.dep<=k) (qA4 _) (okR (.nx (ρ.set i (some (.lst (ds++[d]),k+1))))) none
 |_=>none
def sPop(j i:Nat)(e:EM):SM:=fun ρ=>match ρ[i]? with
 |some (some (.lst ds,k+1))=>zA2 (e (full ρ)) fun d=>match d with
  |.int z=>match ixA ds.length z with
   |some q=>match ds[q]? with
    |some c=>@ite _ (i≠j/\ds.length<=1000000) (qA4 _) (okR (.nx ((ρ.set i (some (.lst (ds.eraseIdx q),k+1))).set j (some (c,k))))) none
    |none=>none
   |none=>none
  |_=>none
 |_=>none
def sAppPop(j i:Nat)(e:EM):SM:=fun ρ=>match ρ[j]?,ρ[i]? with
 |some (some (.lst es,l+1)),some (some (.lst ds,k+1))=>zA2 (e (full ρ)) fun d=>match d with
  |.int z=>match ixA ds.length z with
   |some q=>match ds[q]? with
    |some c=>@ite _ (i≠j/\ds.length<=1000000/\es.length<=100000/\(k=l\/(c.dep<=k/\c.dep<=l/\k<1000))) (qA4 _) (okR (.nx ((ρ.set i (some (.lst (ds.eraseIdx q),k+1))).set j (some (.lst (es++[c]),l+1))))) none
    |none=>none
   |none=>none
  |_=>none
 |_,_=>none
def sItem(i n:Nat)(e1 e2:EM):SM:=fun ρ=>zA2 (e2 (full ρ)) fun d=>match ρ[i]? with
 |some (some (.lst ds,k+1))=>zA2 (e1 (full ρ)) fun z=>match z with
  |.int z=>match ixA ds.length z with
   |some q=>if d.dep<=n/\d.dep<=k then okR (.nx (ρ.set i (some (.lst (ds.set q d),k+1))))else none
   |none=>none
  |_=>none
 |_=>none
def forGo(tg:Tg)(b:SM):List Dt->SM
 |[],ρ=>okR (.nx ρ)
 |d::ds,ρ=>match zAN tg d with
  |none=>none
  |some bs=>zA2 (b (zAP ρ bs)) fun o=>match o with
   |.nx ρ'=>forGo tg b ds ρ'
   |.ct ρ'=>forGo tg b ds ρ'
   |.bk ρ'=>okR (.nx ρ')
   |.rt d=>okR (.rt d)
def sFor(vs:List Nat)(it:IM)(tg:Tg)(b:SM):SM:=fun ρ=>zA2 (it (frz (frzAt vs ρ))) fun ds=>forGo tg b ds (frzAt vs ρ)
def sForR(it:IM)(i:Nat)(b:SM):SM:=fun ρ=>zA2 (it (full ρ)) fun ds=>forGo (.one i) b ds ρ
def whGo(c:TM)(b:SM):Nat->SM
 |0,_=>none
 |m+1,ρ=>zA2 (c (full ρ)) fun k=>if k=true then zA2 (b ρ) fun o=>match o with
   |.nx ρ'=>whGo c b m ρ'
   |.ct ρ'=>whGo c b m ρ'
   |.bk ρ'=>okR (.nx ρ')
   |.rt d=>okR (.rt d)
  else okR (.nx ρ)
noncomputable def WNs:{ n:Nat // n=1000000 }:=Classical.choice ⟨⟨1000000,rfl⟩⟩
noncomputable def WN:Nat:=WNs.val
theorem zVM:WN=1000000:=WNs.property
def sWhile(c:TM)(b:SM):SM:=fun ρ=>whGo c b WN ρ
noncomputable def startO(n:Nat)(ds:List Dt):Ro:=ds.map (fun d=>some (d,0))++qAa (n-ds.length) none
def endF:Out->R Dt
 |.nx _=>okR .non
 |.rt d=>okR d
 |_=>none
def runF(P n:Nat)(b:SM):FM:=fun ds=>if ds.length=P then zA2 (b (startO n ds)) endF else none
end
noncomputable section
end
end Mi
namespace L2
open PySem PySem.Spec PyProof.Rows
theorem zTL(n d:Nat)(o:Option Int)(hd:d<=n):HT.sIx n d o<=n:=by
 cases o with
 |none=>exact hd
 |some v=>
  show(if v<0 then(v+(n:Int)).toNat else min v.toNat n)<=n
  split<;>lia
theorem zNC(lo hi:Option Int)(n:Nat):qIu lo hi 1 n=(qA9 (HT.sIx n n hi-HT.sIx n 0 lo)).map fun k=>HT.sIx n 0 lo+k:=by
 unfold qIu sliceRange;have c1:∀(o:Option Int)(d:Nat),(match o with|none=>(d:Int)|some i=>(if(1:Int)>0 then max 0 (min (if i<0 then i+(n:Int)else i) n)else max (-1) (min (if i<0 then i+(n:Int)else i) (n-1))))=((HT.sIx n d o:Nat):Int):=by
  intro o d;cases o with
  |none=>rfl
  |some v=>
   show _=(((if v<0 then(v+(n:Int)).toNat else min v.toNat n:Nat)):Int)
   dsimp only;rw[if_pos (by decide)]
   split<;>lia
 dsimp only;rw[if_pos (show(1:Int)>0 by decide),if_pos (show(1:Int)>0 by decide),if_pos (show(1:Int)>0 by decide)];have e1:=c1 lo 0;have e2:=c1 hi n;rw[show((0:Nat):Int)=0 by rfl]at e1;have h1:∀a b:Int,a=((HT.sIx n 0 lo:Nat):Int)->b=((HT.sIx n n hi:Nat):Int)->(qA9 ((if a<b then(b-a+1-1)/1 else 0).toNat)).map (fun k:Nat=>(a+1*(k:Int)).toNat)=(qA9 (HT.sIx n n hi-HT.sIx n 0 lo)).map fun k=>HT.sIx n 0 lo+k:=by
  intro a b ha hb;subst ha hb;have e:(if((HT.sIx n 0 lo:Nat):Int)<((HT.sIx n n hi:Nat):Int)then(((HT.sIx n n hi:Nat):Int)-((HT.sIx n 0 lo:Nat):Int)+1-1)/1 else 0).toNat=HT.sIx n n hi-HT.sIx n 0 lo:=by
   split
   ·rw[Int.ediv_one];lia
   ·lia
  rw[e];refine qBk fun k _=>?_
  lia
 exact h1 _ _ e1 e2
theorem zOG:∀(xs:List Nat)(a k:Nat),a+k<=xs.length->((qA9 k).map fun j=>a+j).filterMap (xs[·]?)=(xs.drop a).take k:=by
 intro xs a k h
 induction k with
 |zero=>simp
 |succ k ih=>
  rw[qC5,qAz,List.filterMap_append,ih (by lia),qG0]
  congr 1
  have:a+k<xs.length:=by lia
  simp[List.getElem?_drop,this]
theorem zQU(z:Str)(lo hi:Option Int):qMp z lo hi=⟨(Mi.cutA z.cps.toList lo hi).toArray⟩:=by
 obtain⟨⟨xs⟩⟩:=z;have hl:(⟨⟨xs⟩⟩:Str).length=xs.length:=rfl;unfold qMp;rw[zNC,hl];have e0:∀o d,Mi.cutIx xs.length d o=HT.sIx xs.length d o:=fun o d=>by cases o<;>rfl
 have hb:=zTL xs.length xs.length hi (qA8 _);have ha:=zTL xs.length 0 lo (qAy _);have hc:Mi.cutA xs lo hi=(xs.drop (HT.sIx xs.length 0 lo)).take (HT.sIx xs.length xs.length hi-HT.sIx xs.length 0 lo):=by
  unfold Mi.cutA;rw[e0,e0]
 show _=(⟨(Mi.cutA xs lo hi).toArray⟩:Str)
 rw[hc]
 split
 ·rename_i h
  have h':HT.sIx xs.length xs.length hi-HT.sIx xs.length 0 lo=xs.length:=by simpa using h
  have a0:HT.sIx xs.length 0 lo=0:=by lia
  rw[h',a0,qDk,qEq]
 ·by_cases hle:HT.sIx xs.length 0 lo<=HT.sIx xs.length xs.length hi
  ·have:=zOG xs (HT.sIx xs.length 0 lo) (HT.sIx xs.length xs.length hi-HT.sIx xs.length 0 lo) (by lia)
   rw[<- this];simp
  ·rw[show HT.sIx xs.length xs.length hi-HT.sIx xs.length 0 lo=0 by lia];simp
section
variable{X:Cx}
def rSlU(K:qA1):V->Option Int->Option Int->Hp->VK->Prop:=fun x lo hi H Q=>match x with
 |.str z=>z.length<=sizeLine/\Q (.str ⟨(Mi.cutA z.cps.toList lo hi).toArray⟩) H
 |.ref a=>∃xs,SqL K H a xs/\∀p,H p=none->Q (.ref p) (upd H p (.lst (cutV xs lo hi)))
 |_=>False
theorem zOO{v:Value}{o:Option Int}(h:IsPart v o):∃l:Option (Int×Tok),v=partValue l/\l.map (·.1)=o:=by
 cases h with
 |none=>exact⟨none,rfl,rfl⟩
 |int i t=>exact⟨some (i,t),rfl,rfl⟩
theorem u_sl{K:qA1}(hK:X.K=K:=by rfl):SlR X (rSlU K):=by
 subst hK;intro pins s σ H x v vl vu lo hi sl Q I rx hs pl pu h;cases x with
 |ref a=>
  obtain⟨xs,h1,h2⟩:=h;exact zTZ pins s σ H _ v vl vu lo hi sl Q I rx hs pl pu ⟨a,xs,rfl,h1,h2⟩
 |str z=>
  obtain⟨hz,q⟩:=h;obtain⟨t,rfl⟩:=rx;obtain⟨l,rfl,el⟩:=zOO pl;obtain⟨u,rfl,eu⟩:=zOO pu;obtain⟨o,g1,g2,g3⟩:=hs;refine⟨"str",_,F.slot_str_getitem.lookup,typeIs_str _ _ _,wpAny_getItem_str_slice (l:=l) (u:=u) (st:=none) ⟨o,g1,g2,g3⟩ rfl ?_⟩;have hp:(if((1:Int)==1&&(qIu lo hi 1 z.length).length==z.length)=true then Made.val (.str z t)else Made.str ⟨((qIu lo hi 1 z.length).filterMap (z.cps[·]?)).toArray⟩).post (EP X pins σ Q) s:=by
   refine post_val_or_str ⟨qAl (Txt.slice_le z lo hi) hz,fun t' k=>?_⟩;refine⟨.str (qMp z lo hi),H,I.tok _,⟨_,rfl⟩,?_⟩;rw[zQU];exact q
  unfold sliceMade slicePicked;rw[el,eu];exact hp
 |_=>exact qA5 h
end
noncomputable def Its(z:Str):It:=⟨fun i _=>i<z.cps.size,fun i H x H'=>H'=H/\∃c,z.cps[i]?=some c/\x=.str ⟨#[c]⟩,fun i _=>z.cps.size<=i⟩
theorem zQR{P:qIb}{w:World}{K:qA1}{tg:Expr}(z:Str)(t:Tok)(it:Addr)(ty:String)(hty:ty=strIterType z):Turn P w K tg (Its z) [it] it (fun i h=>h.IsStrIter it ty z t i) where
 mem:=by simp
 obj:=fun i h st b hb=>by
  have e:b=it:=by simpa using hb
  subst e;obtain⟨o,e,c,d⟩:=st;exact⟨o,e,fun v z=>by rw[d]at z;cases z⟩
 keep:=fun i h h' st k=>by obtain⟨o,ho,r⟩:=st;exact⟨o,k it (by simp) o ho,r⟩
 item:=by
  intro X hP hw hK hc i pins s σ H E I hf st hg;subst hP hw hK;have hi:i<z.cps.size:=hg;have hx:z.cps[i]?=some z.cps[i]:=qE7 hi;obtain⟨f0,f1,f2,f3,f4,f5⟩:=hf it (by simp);have fin:∀h',h'.IsStrIter it ty z t (i+1)->qJn it s.heap h'->∃u,some (qJg ⟨#[z.cps[i]]⟩ s.toks)=some u/\wpAny (model X.prog X.w) X.A (letOwnedTupleGo tg (.ref it) u) (fun _ s2=>∃x H',Inv X pins σ H' s2/\RelV x u/\(Its z).yld i H x H'/\s2.heap.IsStrIter it ty z t (i+1)/\∀b∈[it],H' b=none) E { s with heap:=h',toks:=s.toks+1 }:=by
   intro h' st' sb;have I1:Inv X pins σ H { s with heap:=h',toks:=s.toks+1 }:=I.turned (t':=s.toks+1) (fun b o hb e=>(sb.2 b hb).trans e) f0 f1 f3 f4 f5;obtain⟨o,e,c,d⟩:=id st';refine⟨_,rfl,zRX (s:={ s with heap:=h',toks:=s.toks+1 }) e c d ?_ ⟨.str ⟨#[z.cps[i]]⟩,H,I1,⟨_,rfl⟩,⟨rfl,_,hx,rfl⟩,st',fun b hb=>(hf b hb).1⟩⟩;rw[hty];unfold strIterType;split<;>decide
  cases ha:z.cps.all (· < 128)
  ·have e:ty = "str_iterator":=by rw[hty];unfold strIterType;rw[ha];rfl
   subst e;exact wpAny_pyNext_wide_item st hx fun h' a b=>fin h' a b
  ·have e:ty = "str_ascii_iterator":=by rw[hty];unfold strIterType;rw[ha];rfl
   subst e;exact wpAny_pyNext_ascii_item st hx fun h' a b=>fin h' a b
 done:=by
  intro X hP hw hK hc i pins s σ H E I hf st hg;subst hP hw hK;have hx:z.cps[i]?=none:=Array.getElem?_eq_none hg;obtain⟨f0,f1,f2,f3,f4,f5⟩:=hf it (by simp);have fin:∀h',qLc it s.heap h'->(none:Option Value)=none/\Inv X pins σ H { s with heap:=h' }:=fun h' eb=>⟨rfl,I.turned (t':=s.toks) (fun b o hb e=>eb b o hb e) f0 f1 f3 f4 f5⟩
  cases ha:z.cps.all (· < 128)
  ·have e:ty = "str_iterator":=by rw[hty];unfold strIterType;rw[ha];rfl
   subst e;exact wpAny_pyNext_wide_end (I.ok.hd hc) st hx fun h' a=>fin h' a
  ·have e:ty = "str_ascii_iterator":=by rw[hty];unfold strIterType;rw[ha];rfl
   subst e;exact wpAny_pyNext_ascii_end (I.ok.hd hc) st hx fun h' a=>fin h' a
 self:=fun A i s Q E st h=>by
  cases ha:z.cps.all (· < 128)
  ·have e:ty = "str_iterator":=by rw[hty];unfold strIterType;rw[ha];rfl
   subst e;exact wpAny_pyIter_striter_wide st h
  ·have e:ty = "str_ascii_iterator":=by rw[hty];unfold strIterType;rw[ha];rfl
   subst e;exact wpAny_pyIter_striter_ascii st h
section
variable{X:Cx}
def iAny(K:qA1)(tl:TE):TI:=fun σ H R=>tl σ H fun x H1=>match x with
 |.ref a=>(∃xs,SqL K H1 a xs)/\R (Itl K a) H1\/(∃xs,SqT K H1 a xs)/\R (Itt K a) H1
 |.str z=>R (Its z) H1
 |_=>False
theorem zEM{K:qA1}{tg l:Expr}{tl:TE}(hl:PE X l tl)(hK:X.K=K:=by rfl):PI X tg l (iAny K tl):=by
 subst hK;intro pins s σ H R I h;refine thn (hl pins s σ H _ I h) fun v s1 z0=>?_
 obtain⟨x,H1,I1,r1,q1⟩:=z0;cases x with
 |ref a=>
  cases r1
  rcases q1 with⟨⟨xs,hq⟩,q⟩|⟨⟨xs,hq⟩,q⟩
  ·obtain⟨its,rv,p,hz⟩:=I1.list hq;refine wpAny_pyIter_list p.isList ?_;refine⟨s1.heap.objs.size,[s1.heap.objs.size],_,_,H1,rfl,I1.kept (t':=s1.toks) fun b o e=>qI7 _ e,zNT a _,⟨_,qIa _ rfl,rfl,rfl⟩,fun b hb=>?_,q⟩;have e:b=s1.heap.objs.size:=by simpa using hb
   subst e;exact I1.fpOk (qA8 _) (I1.hok.fresh (qA8 _))
  ·obtain⟨its,rv,p,hz⟩:=I1.tuple hq;refine wpAny_pyIter_tuple (show s1.heap.IsTuple a its.toArray from p) ?_;refine⟨s1.heap.objs.size,[s1.heap.objs.size],_,_,H1,rfl,I1.kept (t':=s1.toks) fun b o e=>qI7 _ e,zMR a _,⟨_,qIa _ rfl,rfl,rfl⟩,fun b hb=>?_,q⟩;have e:b=s1.heap.objs.size:=by simpa using hb
   subst e;exact I1.fpOk (qA8 _) (I1.hok.fresh (qA8 _))
 |str z=>
  obtain⟨t,rfl⟩:=r1;refine wpAny_pyIter_strU ?_;refine⟨s1.heap.objs.size,[s1.heap.objs.size],_,_,H1,rfl,I1.kept (t':=s1.toks) fun b o e=>qI7 _ e,zQR z t _ _ rfl,⟨_,qIa _ rfl,rfl,rfl⟩,fun b hb=>?_,q1⟩;have e:b=s1.heap.objs.size:=by simpa using hb
  subst e;exact I1.fpOk (qA8 _) (I1.hok.fresh (qA8 _))
 |_=>exact qA5 q1
def zY7:V->List V->Hp->VK->Prop:=fun x vs H Q=>match x,vs with
 |.str z,[.str y]=>Q (.int (qMj z y)) H
 |_,_=>False
theorem zDX:MtR X "str.find" zY7:=by
 intro pins s σ H x vs v us Q I rx rv h;cases x with
 |str z=>
  cases vs with
  |nil=>exact qA5 h
  |cons y t=>
   cases y with
   |str y=>
    cases t with
    |nil=>
     obtain⟨t,rfl⟩:=rx;obtain⟨u,rfl,ru⟩:=zCO rv;obtain⟨t2,rfl⟩:=ru;exact SC.find ⟨.int _,H,I.tok _,⟨_,rfl⟩,h⟩
    |cons _ _=>exact qA5 h
   |_=>exact qA5 h
 |_=>exact qA5 h
theorem zF5:∀{ys:List Str}{us:List Value},Vals (ys.map V.str) us->qJw us ys
 |[],_,.nil=>.nil
 |y::ys,_,.cons r t=>by obtain⟨k,rfl⟩:=r;exact .cons y k (zF5 t)
def zXS:V->List V->Hp->VK->Prop:=fun x vs H Q=>match x,vs with
 |.str z,[.ref a]=>∃ys:List Str,H a=some (.lst (ys.map V.str))/\(ys.map (·.length)).sum+ys.length*z.length<=16777216/\Q (.str (qKo z ys)) H
 |_,_=>False
theorem zHI:MtR X "str.join" zXS:=by
 intro pins s σ H x vs v us Q I rx rv h;cases x with
 |str z=>
  cases vs with
  |nil=>exact qA5 h
  |cons hd1 tl1=>
   cases hd1 with
   |ref a=>
    cases tl1 with
    |nil=>
     obtain⟨t,rfl⟩:=rx;obtain⟨u,rfl,ru⟩:=zCO rv;cases ru;obtain⟨ys,h1,h2,h3⟩:=h;obtain⟨its,rv,hl⟩:=zAR I.hok h1;exact join_list hl (by simpa using zF5 rv) h2 fun t' k=>⟨.str (qKo z ys),H,I.tok _,⟨t',by rw[eq_of_beq (join_closes (ys:=ys) (rfl:z=z))]⟩,h3⟩
    |cons _ _=>exact qA5 h
   |_=>exact qA5 h
 |_=>exact qA5 h
end
theorem zK6(z:Str)(c i:Nat):(i+1<=z.length/\qIt z ⟨#[c]⟩ i=true)↔z.cps.toList[i]?=some c:=by
 obtain⟨⟨xs⟩⟩:=z;unfold qIt
 show(i+1<=xs.length/\((⟨xs⟩:Array Nat).extract i (i+1)==#[c])=true)↔xs[i]?=some c
 constructor
 ·rintro⟨h1,h2⟩
  have h3:=congrArg qG7 (eq_of_beq h2);simp at h3;have hlt:i<xs.length:=by lia
  rw[qA2 hlt];have h4:(qI5 1 (List.drop i xs))=[c]:=by
   have:=h3
   simpa[qE8]using this
  rw[qB2 hlt,qFg]at h4;exact congrArg some (List.cons.inj h4).1
 ·intro h;have hlt:i<xs.length:=(qA3.mp h).1;have he:xs[i]=c:=(qA3.mp h).2;refine⟨by lia,?_⟩
  have:(⟨xs⟩:Array Nat).extract i (i+1)=#[c]:=by
   apply Array.toList_inj.mp
   simp[qE8];rw[qB2 hlt];simp[he]
  rw[this];simp
theorem zHA(c:Nat):∀(xs:List Nat),(Mi.posC c xs=none/\∀i:Nat,xs[i]?≠some c)\/∃i:Nat,Mi.posC c xs=some i/\xs[i]?=some c/\∀j:Nat,j<i->xs[j]?≠some c
 |[]=>.inl ⟨rfl,fun i=>by simp⟩
 |x::r=>by
  rw[Mi.posC]
  by_cases h:x=c
  ·rw[if_pos h];exact .inr ⟨0,rfl,by simp[h],fun j hj=>by lia⟩
  ·rw[if_neg h]
   rcases zHA c r with⟨h1,h2⟩|⟨i,h1,h2,h3⟩
   ·rw[h1];refine .inl ⟨rfl,fun i=>?_⟩;cases i with
    |zero=>simpa using h
    |succ i=>simpa using h2 i
   ·rw[h1];refine .inr ⟨i+1,rfl,by simpa using h2,fun j hj=>?_⟩;cases j with
    |zero=>simpa using h
    |succ j=>simpa using h3 j (by lia)
theorem zJ0(z y:Str)(hi:Nat):∀(l:List Nat)(free:Nat),(∀i∈l,free<=i)->l.Pairwise (· < ·) ->
  ((forIn l ((#[]:Array Nat),free) (qJ8 z y hi 1)).run.fst.toList=[]/\∀i∈l,¬(i+y.length<=hi/\qIt z y i=true)) \/
  ∃i,i∈l/\(forIn l ((#[]:Array Nat),free) (qJ8 z y hi 1)).run.fst.toList=[i]/\(i+y.length<=hi/\qIt z y i=true)/\∀j∈l,j<i->¬(j+y.length<=hi/\qIt z y j=true)
 |[],free,_,_=>.inl ⟨by simp,fun i h=>by simp at h⟩
 |a::l,free,hf,hp=>by
  rw[qEy];unfold qJ8;have ha:free<=a:=hf a qAw;have hp':=qBf.mp hp
  by_cases hc:a+y.length<=hi/\qIt z y a=true
  ·have c1:(((#[]:Array Nat),free).fst.size<1/\((#[]:Array Nat),free).snd<=a)/\a+y.length<=hi:=⟨⟨by simp,ha⟩,hc.1⟩
   rw[if_pos ⟨c1,hc.2⟩];refine .inr ⟨a,qAw,?_,hc,fun j hj hlt=>?_⟩
   ·have stay:∀(l:List Nat)(st:Array Nat×Nat),st.fst.size=1->(forIn l st (qJ8 z y hi 1)).run.fst=st.fst:=by
     intro l
     induction l with
     |nil=>intro st _;rfl
     |cons b l ih=>
      intro st hs;rw[qEy];unfold qJ8;rw[if_neg (by rw[hs];intro h;lia)];exact ih (st.fst,st.snd) hs
    have:=stay l (#[a],a+y.length) rfl
    show(forIn l (#[a],a+y.length) (qJ8 z y hi 1)).run.fst.toList=[a]
    rw[this]
   ·rcases qAb.mp hj with rfl|hm
    ·lia
    ·have:=hp'.1 j hm;lia
  ·have c2:¬(((((#[]:Array Nat),free).fst.size<1/\((#[]:Array Nat),free).snd<=a)/\a+y.length<=hi)/\qIt z y a=true):=fun h=>hc ⟨h.1.2,h.2⟩
   rw[if_neg c2]
   rcases zJ0 z y hi l free (fun i hi'=>hf i (qAs _ hi')) hp'.2 with⟨h1,h2⟩|⟨i,h1,h2,h3,h4⟩
   ·refine .inl ⟨h1,fun i hi'=>?_⟩
    rcases qAb.mp hi' with rfl|hm
    ·exact hc
    ·exact h2 i hm
   ·refine .inr ⟨i,qAs _ h1,h2,h3,fun j hj hlt=>?_⟩
    rcases qAb.mp hj with rfl|hm
    ·exact hc
    ·exact h4 j hm hlt
theorem zUH(z:Str)(c:Nat):qJ3 z ⟨#[c]⟩ 0 z.length 1=(match Mi.posC c z.cps.toList with|some i=>[i]|none=>[]):=by
 rw[StrLaws.occ_eq];have hlen:(⟨#[c]⟩:Str).length=1:=rfl;have hzl:z.length=z.cps.toList.length:=by simp[qLo]
 have hm:∀i,i<z.length->i∈qGo 0 (z.length+1-0):=fun i hi=>by simp[List.mem_range'];lia
 rcases zJ0 z ⟨#[c]⟩ z.length (qGo 0 (z.length+1-0)) 0 (fun _ _=>qAy _) (List.pairwise_lt_range' (s:=0) (n:=z.length+1-0) (step:=1) (by decide))with⟨h1,h2⟩|⟨i,h1,h2,h3,h4⟩
 ·rw[h1]
  rcases zHA c z.cps.toList with⟨g1,_⟩|⟨j,g1,g2,_⟩
  ·rw[g1]
  ·exact absurd ((zK6 z c j).mpr g2) (h2 j (hm j (by rw[hzl];exact(qA3.mp g2).1)))
 ·rw[h2];have hi:=(zK6 z c i).mp h3
  rcases zHA c z.cps.toList with⟨_,g2⟩|⟨j,g1,g2,g3⟩
  ·exact absurd hi (g2 i)
  ·rw[g1];have hj:j<z.length:=by rw[hzl];exact(qA3.mp g2).1
   rcases qDj i j with q|q|q
   ·exact absurd hi (g3 i q)
   ·rw[q]
   ·exact absurd ((zK6 z c j).mpr g2) (h4 j (hm j hj) q)
theorem zRZ(z:Str)(c:Nat):qMj z ⟨#[c]⟩=(match Mi.posC c z.cps.toList with|some i=>(i:Int)|none=>-1):=by
 unfold qMj;rw[zUH];cases Mi.posC c z.cps.toList<;>rfl
def XO(e:Addr)(C:Value)(d:Option Addr)(h:Heap):Prop:=∃oe vs,h.get? e=some oe/\oe.cls=C/\oe.dict=d/\oe.data=.fields vs/\1<vs.size
abbrev xo(e:Addr)(C:Value)(d:Option Addr):HO:=.ext (XO e C d)
def Fl(n:Nat)(e:Addr)(C:Value)(d:Option Addr)(mk:Value)(H:Hp)(h:Heap):Prop:=
 ∃oe vs T oT ts,h.get? e=some oe/\oe.cls=C/\oe.dict=d/\oe.data=.fields vs/\vs[1]?=some (.ref T)/\n<=T/\T≠e/\H T=none/\h.get? T=some oT/\oT.data=.fields ts/\ts[3]?=some mk
def Fly(n:Nat)(e:Addr)(C:Value)(d:Option Addr)(H:Hp)(h:Heap):Prop:=
 H e=some (xo e C d)/\((∃oe vs,h.get? e=some oe/\oe.cls=C/\oe.dict=d/\oe.data=.fields vs/\vs[1]?=some .none)\/Fl n e C d .none H h)
def Held(n:Nat)(e:Addr)(C:Value)(d:Option Addr)(L:Addr)(H:Hp)(h:Heap):Prop:=H e=some (xo e C d)/\Fl n e C d (rawInt L) H h
theorem Fly.mono{n n':Nat}{e:Addr}{C:Value}{d:Option Addr}{H:Hp}{h:Heap}(x:Fly n e C d H h)(hn:n'<=n):Fly n' e C d H h:=by
 obtain⟨a,b|⟨oe,vs,T,oT,ts,h1,h2,h3,h4,h5,h6,h7⟩⟩:=x
 ·exact⟨a,.inl b⟩
 ·exact⟨a,.inr ⟨oe,vs,T,oT,ts,h1,h2,h3,h4,h5,qAl hn h6,h7⟩⟩
structure Nt(n:Nat)(fs ch:List Addr)(e:Addr)(H:Hp)(h h':Heap):Prop where
 keep:∀b o,h.get? b=some o->b≠e->b∉fs->b∉ch->h'.get? b=some o
 slot:∀b o,h.get? b=some o->b≠e->b∉ch->∃sl,h'.get? b=some { o with slots:=sl }
 there:∀b o,h.get? b=some o->∃o',h'.get? b=some o'
 old:∀b∈ch,n<=b/\H b=none/\∃o vs,h.get? b=some o/\o.data=.fields vs
section
variable{M:Model}{A:qIc}{E:Value->qI8->Prop}{s:qI8}{n:Nat}{e L:Addr}{C:Value}{d:Option Addr}{H:Hp}{base:Heap}{env:Env}{outer:List Env}
theorem zTF{oe:Obj}{vs:Array Value}{head:Value}{hadNext:Bool}{Q:Unit->qI8->Prop}
  (hfr:A.frames=some (env::outer)) (hl:s.heap.FunFrames base (env::outer)) (hf:env.frame=some L)
  (he:s.heap.get? e=some oe) (hc:oe.cls=C) (hdi:oe.dict=d) (hd:oe.data=.fields vs) (hsz:1<vs.size) (hn:n<=s.heap.objs.size) (hH:∀b,s.heap.objs.size<=b->H b=none)
  (h:∀h',(∀b o,s.heap.get? b=some o->b≠e->b∉frs (env::outer)->h'.get? b=some o)->(∀b o,s.heap.get? b=some o->b≠e->∃sl,h'.get? b=some { o with slots:=sl }) ->
   (∃o',h'.get? e=some o')->Fl n e C d (rawInt L) H h'->Q () { s with heap:=h' }) :
  wpAny M A (do let a <- frameOf env;let pl <- entryPlaceOf L hadNext;let b <- qLd head a .none (rawInt L) .none pl;setField (.ref e) 1 b) Q E s:=by
 have hene:e∉(env::outer).filterMap (·.frame):=fun hm=>by
  obtain⟨_,o,ho,hnf⟩:=hl.mem hm;rw[he]at ho;injection ho with ho;subst ho;exact hnf vs hd
 refine wpAny_bind (wpAny_frameOf_fun hfr hl hf fun h₁ hs₁=>?_);refine wpAny_bind (wpAny_entryPlaceOf fun pl hpl=>?_);unfold qLd newFields;refine wpAny_bind (wpAny_newObj_type ?_ (hpl.sizeOk5 _ _ _ _ _));have he₁:h₁.get? e=some oe:=(hs₁.2.1 e hene).trans he;have he₂:=qI7 (h:=h₁) { cls:=.type "traceback",dict:=none,data:=.fields ([head,.ref L,.none,rawInt L,.none]++(if pl.isEmpty then qAa 6 qIj else pl)).toArray } he₁;have hTe:h₁.objs.size≠e:=qBm (qI9 he₁);have hd₃:=qIh hd (·.setIfInBounds 1 (qIi h₁.objs.size));have he₃:=qIe (qIl (·.setIfInBounds 1 (qIi h₁.objs.size))) he₂ (qIo hd₃);have hT₃:=(qId (h₁.push { cls:=.type "traceback",dict:=none,data:=.fields ([head,.ref L,.none,rawInt L,.none]++(if pl.isEmpty then qAa 6 qIj else pl)).toArray })
  (qIl (·.setIfInBounds 1 (qIi h₁.objs.size))) (qCe hTe)).trans (qIa h₁ rfl)
 have keep:∀b o,b≠e->h₁.get? b=some o ->
   ((h₁.push { cls:=.type "traceback",dict:=none,data:=.fields ([head,.ref L,.none,rawInt L,.none]++(if pl.isEmpty then qAa 6 qIj else pl)).toArray }).update e (qIl (·.setIfInBounds 1 (qIi h₁.objs.size)))).get? b=some o:=
  fun b o hbe hb=>by
   rw[qId _ _ (qCe hbe)];exact qI7 _ hb
 have hsz1:h₁.objs.size=s.heap.objs.size:=hs₁.1;refine wpAny_setField he₂ hd hsz (h _ (fun b o hb hbe hbf=>keep b o hbe ((hs₁.2.1 b hbf).trans hb)) (fun b o hb hbe=>?_) ⟨_,he₃⟩ ?_)
 ·obtain⟨sl,e1⟩:=hs₁.2.2 b o hb;exact⟨sl,keep b _ hbe e1⟩
 ·have hdo:∀(o:Obj) f,(qIl f o).dict=o.dict:=fun o f=>by unfold qIl;split<;>rfl
  exact⟨_,_,h₁.objs.size,_,_,he₃,(qJx _ _).trans hc,(hdo _ _).trans hdi,hd₃,by simp[hsz],by rw[hsz1];exact hn,hTe,hH _ (by rw[hsz1];exact qA8 _),hT₃,rfl,
   by first|(simp;done)|(rcases hpl with rfl|⟨_,_,_,_,_,_,_,rfl⟩<;>simp)⟩
theorem zUJ{Q:Unit->qI8->Prop}(hfr:A.frames=some (env::outer))(hl:s.heap.FunFrames base (env::outer))(hf:env.frame=some L)(x:Fly n e C d H s.heap)(hn:n<=s.heap.objs.size)(hH:∀b,s.heap.objs.size<=b->H b=none)
  (h:∀h' ch,Nt n (frs (env::outer)) ch e H s.heap h'->Held n e C d L H h'->Q () { s with heap:=h' }):wpAny M A (noteFrame (.ref e) env) Q E s:=by
 obtain⟨hx,⟨oe,vs,he,hc,hdi,hd,h1⟩|⟨oe,vs,T,oT,ts,he,hc,hdi,hd,h1,hnT,hTe,hHT,hT,hdT,h3⟩⟩:=x
 ·unfold noteFrame;simp only[hf];refine wpAny_bind (wpAny_field he hd h1 ?_);rw[if_neg (by decide)];refine zTF hfr hl hf he hc hdi hd (qBp.mp h1).1 hn hH fun h' k1 k2 k3 k4=>?_
  refine h h' [] ⟨fun b o hb hbe hbf _=>k1 b o hb hbe hbf,fun b o hb hbe _=>k2 b o hb hbe,fun b o hb=>?_,fun b hb=>nomatch hb⟩ ⟨hx,k4⟩
  by_cases z:b=e
  ·rw[z];exact k3
  ·obtain⟨sl,q⟩:=k2 b o hb z;exact⟨_,q⟩
 ·unfold noteFrame;simp only[hf];refine wpAny_bind (wpAny_field he hd h1 ?_);rw[if_pos (show(qIi T != qIj)=true from by simp)];refine wpAny_bind (wpAny_field hT hdT h3 ?_);rw[if_neg (show ¬((qIj==rawInt L)=true) from by simp[rawInt])];refine wpAny_bind (wpAny_setField hT hdT (qBp.mp h3).1 ?_);have other:∀b,b≠T->(s.heap.update T (qIl (·.setIfInBounds 3 qIj))).get? b=s.heap.get? b:=fun b hb=>qId _ _ (qCe hb)
  have noRecord:∀b o,s.heap.get? b=some o->(∀vs,o.data≠.fields vs)->b≠T:=fun b o hb hnf q=>by
   rw[q,hT]at hb;injection hb with hb;subst hb;exact hnf ts hdT
  have hl1:=hl.of_keeps (h':=s.heap.update T (qIl (·.setIfInBounds 3 qIj))) fun b o hb hnf=>⟨o,(other b (noRecord b o hb hnf)).trans hb,rfl⟩
  have hself:=qIe (qIl (·.setIfInBounds 3 qIj)) hT (qIo (qIh hdT _));have hsz:(s.heap.update T (qIl (·.setIfInBounds 3 qIj))).objs.size=s.heap.objs.size:=by simp
  refine zTF (s:={ s with heap:=s.heap.update T (qIl (·.setIfInBounds 3 qIj)) }) hfr hl1 hf ((other e (qCe hTe)).trans he) hc hdi hd (qBp.mp h1).1 (by rw[hsz];exact hn) (by rw[hsz];exact hH) fun h' k1 k2 k3 k4=>?_
  have nT:∀b,b∉[T]->b≠T:=fun b hb z=>hb (by simp[z])
  refine h h' [T] ⟨fun b o hb hbe hbf hc=>k1 b o ((other b (nT b hc)).trans hb) hbe hbf,fun b o hb hbe hc=>k2 b o ((other b (nT b hc)).trans hb) hbe,fun b o hb=>?_,fun b hb=>?_⟩ ⟨hx,k4⟩
  ·by_cases z:b=e
   ·rw[z];exact k3
   ·by_cases z':b=T
    ·rw[z'];obtain⟨sl,q⟩:=k2 T _ hself hTe;exact⟨_,q⟩
    ·obtain⟨sl,q⟩:=k2 b o ((other b z').trans hb) z;exact⟨_,q⟩
  ·obtain rfl:b=T:=by simpa using hb
   exact⟨hnT,hHT,oT,ts,hT,hdT⟩
theorem zUP{Q:Unit->qI8->Prop}{fs:List Addr}{mk:Value}(x:Fl n e C d mk H s.heap)
  (h:∀h' ch,Nt n fs ch e H s.heap h'->Fl n e C d .none H h'->Q () { s with heap:=h' }):wpAny M A (setFlight (.ref e) none) Q E s:=by
 obtain⟨oe,vs,T,oT,ts,he,hc,hdi,hd,h1,hnT,hTe,hHT,hT,hdT,h3⟩:=x;have hsz3:3<ts.size:=(qBp.mp h3).1;have other:∀b,b≠T->(s.heap.update T (qIl (·.setIfInBounds 3 ((none:Option Addr).elim qIj fun f=>rawInt f)))).get? b=s.heap.get? b:=
  fun b hb=>qId _ _ (qCe hb)
 have hself:=qIe (qIl (·.setIfInBounds 3 ((none:Option Addr).elim qIj fun f=>rawInt f))) hT (qIo (qIh hdT _));have nT:∀b,b∉[T]->b≠T:=fun b hb z=>hb (by simp[z])
 unfold setFlight;refine wpAny_bind (wpAny_field he hd h1 ?_);rw[if_pos (show(qIi T != qIj)=true from by simp)];refine wpAny_setField hT hdT hsz3 (h _ [T] ⟨fun b o hb _ _ hc=>(other b (nT b hc)).trans hb,fun b o hb _ hc=>⟨o.slots,(other b (nT b hc)).trans hb⟩,fun b o hb=>?_,fun b hb=>?_⟩ ?_)
 ·by_cases z:b=T
  ·rw[z];exact⟨_,hself⟩
  ·exact⟨o,(other b z).trans hb⟩
 ·obtain rfl:b=T:=by simpa using hb
  exact⟨hnT,hHT,oT,ts,hT,hdT⟩
 ·exact⟨oe,vs,T,_,_,(other e (qCe hTe)).trans he,hc,hdi,hd,h1,hnT,hTe,hHT,hself,qIh hdT _,by simp[hsz3]⟩
end
section
variable{X:Cx}{pins:List (Addr×Obj)}{σ:St}{H:Hp}{s:qI8}{n:Nat}{e:Addr}{C:Value}{d:Option Addr}{A:qIc}{E:Value->qI8->Prop}{fs ch:List Addr}{h h':Heap}
theorem Nt.hok{P:qIb}{w:World}(t:Nt n fs ch e H h h')(k:HOk P w H h)(he:H e=some (xo e C d))(hfs:∀b∈fs,H b=none)(f:XO e C d h'):HOk P w H h':=fun a o ha=>by
 by_cases z:a=e
 ·subst z;rw[he]at ha;cases ha;obtain⟨oe,vs,h1,r⟩:=id f;exact⟨f,⟨oe,h1⟩,(k a _ he).2.2⟩
 ·refine(k a o ha).stay (fun b u hb q=>?_) (fun _ q=>q) (fun _ _ q=>q) fun _ _ _ q _=>q
  have hb':H b≠none:=by
   rcases hb with rfl|hb
   ·rw[ha];exact fun z=>by cases z
   ·rw[hb];exact fun z=>by cases z
  have hbe:b≠e:=by
   rcases hb with rfl|hb
   ·exact z
   ·intro y;rw[y,he]at hb;cases hb
  exact t.keep b u q hbe (fun y=>hb' (hfs b y)) fun y=>hb' (t.old b y).2.1
theorem Fl.xo{mk:Value}(f:Fl n e C d mk H h):XO e C d h:=by
 obtain⟨oe,vs,T,oT,ts,h1,h2,h3,h4,h5,_⟩:=f;exact⟨oe,vs,h1,h2,h3,h4,(qBp.mp h5).1⟩
theorem Nt.un(t:Nt n fs ch e H h h')(he:H e=some (xo e C d)):Un fs ch H H h h':=
 ⟨fun b o q hn hf hc=>t.keep b o q (fun z=>by rw[z,he]at hn;cases hn) hf hc,fun b o q hn _ hc=>t.slot b o q (fun z=>by rw[z,he]at hn;cases hn) hc,fun _ _ _ hn _=>hn,fun b o q _=>t.there b o q,fun _ _ q=>q,fun _ _ _ q=>q,fun b ps q=>⟨#[],by simpa using q⟩⟩
theorem Inv.noted(I:Inv X pins σ H s)(t:Nt n (frs X.stack) ch e H s.heap h')(he:H e=some (xo e C d))(f:XO e C d h')(hn:X.s₀.heap.objs.size<=n)(hp:∀p∈X.pn++pins,p.1<n):Inv X pins σ H { s with heap:=h' }:=by
 refine I.call' rfl (t.un he) (t.hok I.hok he I.stkFree f) I.bare fun b hb=>?_
 obtain⟨h1,h2,o,vs,h3,h4⟩:=t.old b hb;refine⟨.inr (qAl hn h1),?_,?_,fun p hp' z=>?_⟩
 ·intro z;obtain⟨m,⟨o',es,ep,ho',hd',_⟩,_⟩:=I.loc;rw[z,ho']at h3;cases h3;rw[hd']at h4;cases h4
 ·intro x c hx z;obtain⟨v,o',ho',hd'⟩:=I.cell x c hx;rw[<- z,ho']at h3;cases h3;rw[hd']at h4;cases h4
 ·have:=hp p hp'
  rw[z]at this;exact absurd h1 (Nat.not_le_of_lt this)
theorem zRH{Q:Unit->qI8->Prop}{M:Model}(I:Inv X pins σ H s)(hA:A.frames=some X.stack)(hs:X.stack=X.env::X.outer/\X.env.frame=some X.env.locals)(x:Fly n e C d H s.heap)(hn:X.s₀.heap.objs.size<=n)(hn':n<=s.heap.objs.size)
  (hp:∀p∈X.pn++pins,p.1<n) (h:∀s',Inv X pins σ H s'->Held n e C d X.env.locals H s'.heap->Q () s'):wpAny M A (noteFrame (.ref e) X.env) Q E s:=by
 have hst:=I.stack;rw[hs.1]at hA hst;refine zUJ hA hst hs.2 x hn' (fun b hb=>I.hok.fresh hb) fun h' ch t y=>h _ (I.noted (ch:=ch) (by rw[hs.1];exact t) x.1 y.2.xo hn hp) y
theorem zRN{Q:Unit->qI8->Prop}{M:Model}{mk:Value}(I:Inv X pins σ H s)(hx:H e=some (xo e C d))(x:Fl n e C d mk H s.heap)(hn:X.s₀.heap.objs.size<=n)
  (hp:∀p∈X.pn++pins,p.1<n) (h:∀s',Inv X pins σ H s'->Fl n e C d .none H s'.heap->Q () s'):wpAny M A (setFlight (.ref e) none) Q E s:=
 zUP (fs:=frs X.stack) x fun h' ch t y=>h _ (I.noted t hx y.xo hn hp) y
theorem zP5{Q:Unit->qI8->Prop}{M:Model}(I:Inv X pins σ H s)(hA:A.frames=some X.stack)(hs:X.stack=X.env::X.outer/\X.env.frame=some X.env.locals)(x:Fly n e C d H s.heap)(hn:X.s₀.heap.objs.size<=n)(hn':n<=s.heap.objs.size)
  (hp:∀p∈X.pn++pins,p.1<n) (h:∀s',Inv X pins σ H s'->Fly n e C d H s'.heap->Q () s'):wpAny M A (leaving X.env (.ref e)) Q E s:=by
 unfold leaving;exact wpAny_bind (zRH I hA hs x hn hn' hp fun s1 I1 y=>zRN I1 y.1 y.2 hn hp fun s2 I2 z=>h s2 I2 ⟨y.1,.inr z⟩)
end
def CXe(P:qIb)(w:World):CXT:=fun outer H s E x s'=>∃e C d H',x=.ref e/\s'.os=s.os/\qKm s'.gens/\Un (frs outer) [] H H' s.heap s'.heap/\HOk P w H' s'.heap/\Fly s.heap.objs.size e C d H' s'.heap/\s.heap.objs.size<=s'.heap.objs.size/\E x d H'
section
variable{X:Cx}{pins:List (Addr×Obj)}{σ:St}{H:Hp}{s s':qI8}{E E':XK}
theorem Inv.pinlt(I:Inv X pins σ H s):∀p∈X.pn++pins,p.1<s.heap.objs.size:=fun p hp=>qI9 (I.pin p hp).1
def XP(X:Cx)(pins:List (Addr×Obj))(σ:St)(E:XK)(x:Value)(s':qI8):Prop:=∃n e C d H',x=.ref e/\Inv X pins σ H' s'/\Fly n e C d H' s'.heap/\X.s₀.heap.objs.size<=n/\n<=s'.heap.objs.size/\(∀p∈X.pn++pins,p.1<n)/\E x d H'
theorem Inv.flown{x:Value}(I:Inv X pins σ H s)(h:CXe X.prog X.w X.stack H s E x s'):XP X pins σ E x s':=by
 obtain⟨e,C,d,H',rfl,ho,hb,u,hk,f,hz,q⟩:=h;exact⟨_,e,C,d,H',rfl,I.call' ho u hk hb (fun b z=>absurd z (by simp)),f,I.sz,hz,I.pinlt,q⟩
end
section
variable{P:qIb}{w:World}{K:qA1}{mg:Str->Option Value}{base:Heap}{N:List Str}{qual:Str}{scope:Scope}{f:Addr}{cd:Value}{A:qIc}{outer:List Env}{s:qI8}{H:Hp}{E E':XK}
theorem zVP{pins:List (Addr×Obj)}{σ:St}{x:Value}{s':qI8}(hE:∀C d H',E' C d H'->E C d H')
  (h:XP (cxOf (CXe P w) P w K mg base N qual scope f cd A outer s H E) pins σ E' x s'):(cxOf (CXe P w) P w K mg base N qual scope f cd A outer s H E).xe x s':=by
 obtain⟨n,e,C,d,H',rfl,I,fl,hn,hz,hp,q⟩:=h;refine zP5 I I.ok.frames ⟨rfl,rfl⟩ fl hn hz hp fun s2 I2 f2=>?_
 exact⟨e,C,d,H',rfl,I2.os,I2.bare,I2.base,I2.hok,f2.mono hn,I2.sz,hE _ _ _ q⟩
end
abbrev TEX:=St->Hp->VK->XK->Prop
abbrev TSX:=Ends->(St->XK)->St->Hp->Prop
section
variable{X:Cx}{k:Nat}{f:Addr}{fd:qIs}{ps:List Str}{sp:Sp}{dvs:List V}{ds:List Value}{x:Str}{p pos:Pos}{e:Expr}{es:List Expr}{t:TA}{te:TE}{tx:TEX}{st:Stmt}{rest:List Stmt}{u u':TSX}
variable{pins:List (Addr×Obj)}{σ:St}{H:Hp}{s:qI8}{a:Addr}
end
end L2
namespace PySem.W
open PySem PySem.Calls PyProof.Rows Builtin Builtin.ObjectAttr
noncomputable def excTail:List Value->Bool
 |.ref _::r=>excTail r
 |[.type a,.type b,.type c,.type d]=>a == "ValueError" && b == "Exception" && c == "BaseException" && d == "object"
 |_=>false
theorem zKW{a b c d:String}(e:excTail [.type a,.type b,.type c,.type d]=true):a = "ValueError"/\b = "Exception"/\c = "BaseException"/\d = "object":=by
 simp only[excTail,qBd,beq_iff_eq]at e;exact⟨e.1.1.1,e.1.1.2,e.1.2,e.2⟩
theorem zE1:∀{l:List Value},excTail l=true->∃as:List Addr,l=as.map qIi++[.type "ValueError",.type "Exception",.type "BaseException",.type "object"]
 |.ref a::r,e=>by
  obtain⟨as,rfl⟩:=zE1 (l:=r) e;exact⟨a::as,rfl⟩
 |[.type a,.type b,.type c,.type d],e=>by
  obtain⟨rfl,rfl,rfl,rfl⟩:=zKW e;exact⟨[],rfl⟩
def excOver(K:Frag)(C:Addr):Bool:=(clsIn K C).any fun cd=>excTail cd.mro
section
variable{prog:qIb}{w:World}{A:qIc}{s:qI8}{K:Frag}{x C:Addr}{R:qLu->qI8->Prop}
end
end PySem.W
namespace PySem.W
open PySem
def xcIn(K:Frag)(C:Addr):Bool:=match K.lookup C with
 |some ⟨.type "type",_,.cls cd,sl⟩=>(match cd.mro,sl.toList with
  |.ref C'::bm,[_,_,_,_,some (.builtin n),_]=>C'==C && !cd.hasDel&&excTail bm&&n == "ValueError.__new__" && cd.hasDict
  |_,_=>false)
 |_=>false
theorem xc_cls{K:Frag}{h:Heap}{C:Addr}(X:K.In h)(q:xcIn K C=true):∃nm qn N bs bm hdct sn sub ab col dd k0 k1 k2 k3 k5,
  h.get? C=some (excClassObj nm qn C N bs bm hdct sn sub ab col dd k0 k1 k2 k3 k5 "ValueError.__new__")/\excTail bm=true:=by
 unfold xcIn at q
 split at q
 ·rename_i dd cd sl ho
  split at q
  ·rename_i C' bm k0 k1 k2 k3 n k5 hm hs
   simp only[qBd,beq_iff_eq,Bool.not_eq_true']at q;obtain⟨⟨⟨⟨rfl,hdel⟩,hb⟩,hn⟩,hd⟩:=q;subst hn;obtain⟨nm,bs,mro,ns,qn,hd',sn,sub,ab,col,del⟩:=cd;dsimp only at hm hdel;subst hm hdel;have hsl:sl=#[k0,k1,k2,k3,some (.builtin "ValueError.__new__"),k5]:=by
    obtain⟨l⟩:=sl;simp only at hs;rw[hs]
   subst hsl;exact⟨nm,qn,ns,bs,bm,hd',sn,sub,ab,col,dd,k0,k1,k2,k3,k5,X _ _ ho,hb⟩
  ·cases q
 ·cases q
theorem exc_con{l:List Value}{T:String}{b:Bool}(e:excTail l=true)(hb:List.contains [qIx "ValueError",.type "Exception",.type "BaseException",.type "object"] (.type T)=b):l.contains (.type T)=b:=by
 obtain⟨as,rfl⟩:=zE1 e;clear e
 induction as with
 |nil=>exact hb
 |cons a r ih=>rw[qAk,qGh,qBs,ih];rfl
end PySem.W
namespace PySem.Xc
open PySem
section
variable{M:Model}{prog:qIb}{w:World}{A:qIc}{E:Value->qI8->Prop}{h:Heap}{g:Array qJy}{d:Drawn}{t:Nat}{os:OsState}{R:qLu->qI8->Prop}
variable{nm q:Str}{C N:Addr}{bs bm bmB:List Value}{hdct:Bool}{sn:List Str}{sub:List Value}{ab:Bool}{col:Option Bool}{dd:Option Addr}{k0 k1 k2 k3 k5:Option Value}{B newId initId:String}
theorem zNJ(F:qKf B newId initId bmB)(hB:bm.contains (.type B)=true){rest:List Value}{Q:Unit->qI8->Prop}(hC:h.get? C=some (excClassObj nm q C N bs bm hdct sn sub ab col dd k0 k1 k2 k3 k5 newId))
  (hq:Q () ⟨h,g,d,t,os⟩):wpAny M A (checkBuiltinCall newId ⟨.ref C::rest,[]⟩) Q E ⟨h,g,d,t,os⟩:=by
 have hcont:(qIi C::bm).contains (.type B)=true:=by rw[qBs,hB,qF0]
 have hstar:=F.noStar;simp only[checkBuiltinCall,F.newKind,F.newSplit,F.newRow]
 repeat (first|refine qIp hC ?_|(refine qJ4 hC ?_;rw[hcont])|refine wpAny_staticBase_exc hC ?_|refine wpAny_madeBy_exc hC ?_|simp only[bne_self_eq_false,qDa,if_false]|wp_step)
 exact hq
theorem zQ9(F:qKf B newId initId bmB)(hB:bm.contains (.type B)=true)(hA:bm.contains (.type "AttributeError")=false)(hN:bm.contains (.type "NameError")=false){rest:List Value}(hC:h.get? C=some (excClassObj nm q C N bs bm hdct sn sub ab col dd k0 k1 k2 k3 k5 newId))
  (hq:R (.ok (.ret (.ref (h.objs.size+1)))) ⟨(h.push { cls:=.type "tuple",data:=.seq rest.toArray }).push
   { cls:=.ref C,data:=.fields #[.ref h.objs.size,.none,.none,.none,.bool false,.none] },g,d,t,os⟩) (hrest:rest.length<=sizeLine) :
  qK8 (model prog w) A (.builtin newId ⟨.ref C::rest,[]⟩) R ⟨h,g,d,t,os⟩:=by
 have hends:=F.ends;have hcB:(qIi C::bm).contains (.type B)=true:=by rw[qBs,hB,qF0]
 have hcA:(qIi C::bm).contains (.type "AttributeError")=false:=by rw[qBs,hA];rfl
 have hcN:(qIi C::bm).contains (.type "NameError")=false:=by rw[qBs,hN];rfl
 refine codeAny_builtinAt F.entry ?_;unfold qJk.«BaseException.__new__»;refine wpAt_bind ?_;show wpAt _ _ _ (stack >>= _) _ _ _;refine wpAt_bind (wpAt_stack fun p below=>wpAt_of_wpAny ?_)
 wp_walk
 refine wpAt_of_wpAny ?_;rw[F.owner]
 repeat (first|with_reducible refine wpAny_madeHere_exc F.canon hC ?_|with_reducible refine qIp hC ?_|(with_reducible refine qJ4 hC ?_;first|rw[hcB]|rw[hcA]|rw[hcN])|wp_step)
 show R _ _;rw[qIk];exact hq
theorem zL5(F:qKf B newId initId bmB)(hB:bm.contains (.type B)=true){e:Addr}{oe:Obj}{rest:List Value}{Q:Unit->qI8->Prop}{newId':String}
  (hC:h.get? C=some (excClassObj nm q C N bs bm hdct sn sub ab col dd k0 k1 k2 k3 k5 newId')) (he:h.get? e=some oe) (hcls:oe.cls=.ref C) (hq:Q () ⟨h,g,d,t,os⟩) :
  wpAny M A (checkBuiltinCall initId ⟨.ref e::rest,[]⟩) Q E ⟨h,g,d,t,os⟩:=by
 have hcB:(qIi C::bm).contains (.type B)=true:=by rw[qBs,hB,qF0]
 have hshort:=F.noStar;simp only[checkBuiltinCall,F.initKind,F.initSplit,F.initRow]
 repeat (first|(with_reducible refine qIp he ?_;rw[hcls])|with_reducible refine qIp hC ?_|(with_reducible refine qJ4 hC ?_;rw[hcB])|wp_step)
 refine wpAny_onRaise ?_;rw[show ∀(a b:String)(n:Nat),Bind.check ⟨.positional,"*",B,.self,[⟨"args",.varPos,false⟩]⟩ a b n (List.map (fun x=>x.fst) ({ pos:=qIi e::rest }:Args).kw)=pure () from
  fun a b n=>check_star_args _ _ _ _ _ _]
 exact wpAny_pure hq
theorem zMP(F:qKf B newId initId bmB)(hB:bm.contains (.type B)=true)(hA:bm.contains (.type "AttributeError")=false)(hN:bm.contains (.type "NameError")=false){rest:List Value}{Q:Fin->qI8->Prop}
  (hC:h.get? C=some (excClassObj nm q C N bs bm hdct sn sub ab col dd k0 k1 k2 k3 k5 newId)) (hi:qHn (model prog w) h (typeLookup (.ref C) "__init__") (some (.builtin initId)))
  (hq:∀h' e,qKh h h' e (.ref C) rest->h.objs.size<=e->Q (.done (.ret (.ref e))) ⟨h',g,d,t,os⟩) (hrest:rest.length<=sizeLine) :
  wpAny (model prog w) A (qJk.«type.__call__» ⟨.ref C::rest,[]⟩) Q E ⟨h,g,d,t,os⟩:=by
 repeat (first|with_reducible refine qIp hC ?_|with_reducible refine wpAny_madeBy_exc hC ?_|wp_step)
 refine codeAny_call_builtin_code (qKg _ F.quiet) (zNJ F hB hC ?_);refine zQ9 F hB hA hN hC ?_ hrest;show wpAny _ _ _ _ _ _;have hC₁:=qI7 { cls:=.ref C,data:=.fields #[.ref h.objs.size,.none,.none,.none,.bool false,.none] }
  (qI7 { cls:=.type "tuple",data:=.seq rest.toArray } hC)
 have hi₁:=hi.keeps (h':=(h.push { cls:=.type "tuple",data:=.seq rest.toArray }).push { cls:=.ref C,data:=.fields #[.ref h.objs.size,.none,.none,.none,.bool false,.none] }) fun b o e=>qI7 _ (qI7 _ e)
 have hget:((h.push { cls:=.type "tuple",data:=.seq rest.toArray }).push
   { cls:=.ref C,data:=.fields #[.ref h.objs.size,.none,.none,.none,.bool false,.none] }).get? (h.objs.size+1)=some
   { cls:=.ref C,data:=.fields #[.ref h.objs.size,.none,.none,.none,.bool false,.none] }:=by heap_get
 have hcC:(qIi C::bm).contains (.ref C)=true:=by simp
 unfold isInstance
 repeat (first|with_reducible refine qIp hget ?_|(with_reducible refine qJ4 hC₁ ?_;rw[hcC])|wp_step)
 show wpAny _ _ (typeLookup (.ref C) _) _ _ _;refine hi₁.here ?_;refine wpAny_holding (wpAny_bind (wpAny_of_eq (F.init.bind _) ?_));refine wpAny_bind (wpAny_call (codeAny_call_builtin F.init.plain F.initEntry (zL5 F hB hC₁ hget rfl ?_)))
 wp_walk
 refine hq _ _ ⟨fun b o hb=>?_,qJf (qC3 _),h.objs.size+2,?_,qJf (by lia),?_⟩ (qC3 _)
 ·rw[qId _ _ (qBm (qBa (qI9 hb)))];exact qI7 _ (qI7 _ (qI7 _ hb))
 ·rw[qIe _ (qI7 _ hget) rfl];simp only[qIk];rfl
 ·rw[qId _ _ (show h.objs.size+1≠h.objs.size+2 by lia)];exact Heap.get?_push_at (by simp only[qIk]) rfl
theorem callX(F:qKf B newId initId bmB)(hB:bm.contains (.type B)=true)(hA:bm.contains (.type "AttributeError")=false)(hN:bm.contains (.type "NameError")=false){rest:List Value}{Q:Value->qI8->Prop}
  (hC:h.get? C=some (excClassObj nm q C N bs bm hdct sn sub ab col dd k0 k1 k2 k3 k5 newId)) (hi:qHn (model prog w) h (typeLookup (.ref C) "__init__") (some (.builtin initId)))
  (hq:∀h' e,qKh h h' e (.ref C) rest->h.objs.size<=e->Q (.ref e) ⟨h',g,d,t,os⟩) (hrest:rest.length<=sizeLine) :
  wpAny (model prog w) A (call (.ref C) rest) Q E ⟨h,g,d,t,os⟩:=by
 have f1:=tc_lookup;have f2:=tc_bind (.ref C);have hT:(⟨h,g,d,t,os⟩:qI8).TypeIs (.ref C) "type":=⟨_,hC,rfl⟩
 refine wpAny_call (codeAny_of_tree ?_);show wpAny _ _ (callAny (.ref C) _) _ _ _
 repeat (any_goals (first|assumption|with_reducible refine qIp hC ?_|wp_step))
 refine⟨rfl,?_⟩;refine codeAny_call_builtin_at (qKg _ (by decide +kernel)) entry_typeCall (wpAny_check_type_call_sub hC (zMP (hrest:=hrest) F hB hA hN hC hi fun h' e hm hz=>?_));exact hq h' e hm hz
end
section
variable{M:Model}{A:qIc}{E:Value->qI8->Prop}{s:qI8}{env:Env}
variable{nm q:Str}{C N:Addr}{bs bm:List Value}{hdct:Bool}{sn:List Str}{sub:List Value}{ab:Bool}{col:Option Bool}{dd:Option Addr}{k0 k1 k2 k3 k5:Option Value}{newId:String}
theorem raiseX{x:Sem Value}{Q:Flow->qI8->Prop}(hh:A.handled=none)
  (h:wpAny M A x (fun v s₁=>∃e t di nm q C N bs bm hdct sn sub ab col dd k0 k1 k2 k3 k5 newId,v=.ref e/\s₁.heap.get? C=some (excClassObj nm q C N bs bm hdct sn sub ab col dd k0 k1 k2 k3 k5 newId)/\bm.contains (.type "BaseException")=true /\
   s₁.heap.get? e=some { cls:=.ref C,dict:=di,data:=.fields #[.ref t,.none,.none,.none,.bool false,.none] }/\E (.ref e) s₁) E s) :
  wpAny M A (raiseStmt env (some x) none) Q E s:=by
 unfold raiseStmt;refine wpAny_bind (wpAny_mono h (fun v s₁ h₁=>?_) fun _ _ x=>x);obtain⟨e,t,di,nm,q,C,N,bs,bm,hdct,sn,sub,ab,col,dd,k0,k1,k2,k3,k5,newId,rfl,hC,hbase,he,hE⟩:=h₁;have hcB:(qIi C::bm).contains (.type "BaseException")=true:=by rw[qBs,hbase,qF0]
 obtain⟨hp,g,d,tk,os⟩:=s₁
 repeat (first|with_reducible refine qIp he ?_|with_reducible refine qIp hC ?_|(with_reducible refine qJ4 hC ?_;rw[hcB])|wp_step)
 exact wpAny_raiseNew_none hh hE
theorem RaiseX{x:Expr}{pos:Pos}{Q:Flow->qI8->Prop}(hh:A.handled=none)
  (h:wpAny M A (eval x env) (fun v s₁=>∃e t di nm q C N bs bm hdct sn sub ab col dd k0 k1 k2 k3 k5 newId,v=.ref e/\s₁.heap.get? C=some (excClassObj nm q C N bs bm hdct sn sub ab col dd k0 k1 k2 k3 k5 newId)/\bm.contains (.type "BaseException")=true /\
   s₁.heap.get? e=some { cls:=.ref C,dict:=di,data:=.fields #[.ref t,.none,.none,.none,.bool false,.none] }/\E (.ref e) s₁) E s) :
  wpAny M A (exec (.Raise (some x) none pos) env) Q E s:=by
 rw[arm_exec_Raise]
 first
  |exact wpAny_bind (wpAny_standAt (raiseX hh (wpAny_bind (wpAny_mono h (fun v s₁ h₁=>wpAny_bind (wpAny_standAt (wpAny_pure h₁))) fun _ _ x=>x))))
  |(simp only[evalOpt,Option.map];exact wpAny_bind (wpAny_standAt (raiseX hh (wpAny_bind (wpAny_mono h (fun v s₁ h₁=>wpAny_bind (wpAny_standAt (wpAny_pure h₁))) fun _ _ x=>x)))))
  |(show wpAny M A (do standAt pos;raiseStmt env (some (do let v <- eval x env;standAt pos;pure v)) none) Q E s;exact wpAny_bind (wpAny_standAt (raiseX hh (wpAny_bind (wpAny_mono h (fun v s₁ h₁=>wpAny_bind (wpAny_standAt (wpAny_pure h₁))) fun _ _ x=>x)))))
end
section
open PySem.W
variable{prog:qIb}{w:World}{A:qIc}{E:Value->qI8->Prop}{K:Frag}{x C:Addr}{ox:Obj}{od:Option Obj}{name:Str}{expr fill:Bool}{h:Heap}{g:Array qJy}{d:Drawn}{t:Nat}{os:OsState}
end
end PySem.Xc
namespace L2
open PySem PySem.Spec PyProof.Rows
def XN(e:Addr)(C:Value)(d:Option Addr)(h:Heap):Prop:=∃t1,h.get? e=some { cls:=C,dict:=d,data:=.fields #[.ref t1,.none,.none,.none,.bool false,.none] }
abbrev xn(e:Addr)(C:Value)(d:Option Addr):HO:=.ext (XN e C d)
theorem zTO{e:Addr}{C:Value}{d:Option Addr}(h1 h2:Heap)(x:XN e C d h1)(k:∀o,h1.get? e=some o->h2.get? e=some o):XN e C d h2:=let⟨t1,a⟩:=x;⟨t1,k _ a⟩
theorem zTN{e:Addr}{C:Value}{d:Option Addr}(h1 h2:Heap)(x:XO e C d h1)(k:∀o,h1.get? e=some o->h2.get? e=some o):XO e C d h2:=let⟨oe,vs,a,r⟩:=x;⟨oe,vs,k _ a,r⟩
theorem zZU{P:qIb}{w:World}{H:Hp}{h:Heap}{e:Addr}{C:Value}{d:Option Addr}(x:XN e C d h):ObjOk P w H h e (xn e C d):=⟨x,let⟨t1,a⟩:=x;⟨_,a⟩,zTO⟩
theorem zZT{P:qIb}{w:World}{H:Hp}{h:Heap}{e:Addr}{C:Value}{d:Option Addr}(x:XO e C d h):ObjOk P w H h e (xo e C d):=⟨x,let⟨oe,vs,a,_⟩:=x;⟨_,a⟩,zTN⟩
section
variable{X:Cx}{pins:List (Addr×Obj)}{σ:St}{H:Hp}{s:qI8}{k:Nat}{f C:Addr}{fd:qIs}{ps:List Str}{sp:Sp}{x:Str}{p pos:Pos}{e:Expr}{es:List Expr}{t:TA}{te:TE}
def zK3(C:Addr)(t:TA):TE:=fun σ H Q=>t σ H fun vs H1=>vs.length<=sizeLine/\∀e,H1 e=none->Q (.ref e) (upd H1 e (xn e (.ref C) none))
theorem Inv.madeX{h':Heap}{e:Addr}{us:List Value}(I:Inv X pins σ H s)(m:qKh s.heap h' e (.ref C) us)(hs:s.heap.objs.size<=e):H e=none/\Inv X pins σ (upd H e (xn e (.ref C) none)) { s with heap:=h' }:=by
 obtain⟨t1,h1,_⟩:=m.there;exact⟨I.hok.fresh hs,I.laid (t':=s.toks) m.keeps hs (zZU ⟨t1,h1⟩)⟩
theorem zMY{Q:VK}{us:List Value}{vs:List V}(hc:PySem.W.xcIn X.K C=true)(hi:qB5 X.K (.ref C) "__init__" = some (some (.builtin "ValueError.__init__")))
  (I:Inv X pins σ H s) (r:Vals vs us) (hz:vs.length<=sizeLine) (h:∀e,H e=none->Q (.ref e) (upd H e (xn e (.ref C) none))):wpAny (model X.prog X.w) X.A (call (.ref C) us) (EP X pins σ Q) X.xe s:=by
 obtain⟨nm,qn,N,bs,bm,hdct,sn,sub,ab,col,dd,k0,k1,k2,k3,k5,hC,ht⟩:=PySem.W.xc_cls I.kIn hc;have hus:us.length<=sizeLine:=by rw[<- r.length];exact hz
 have key:∀h' e,qKh s.heap h' e (.ref C) us->s.heap.objs.size<=e->EP X pins σ Q (.ref e) { s with heap:=h' }:=by
  intro h' e m hs;obtain⟨he,I2⟩:=I.madeX m hs;exact⟨.ref e,_,I2,rfl,h e he⟩
 have hK:=PySem.W.looks_findIn (M:=model X.prog X.w) I.kIn hi;obtain⟨hh,g,d,tk,os⟩:=s;exact Xc.callX PySem.F.excBase_ValueError (PySem.W.exc_con ht (by decide)) (PySem.W.exc_con ht (by decide)) (PySem.W.exc_con ht (by decide)) hC hK key hus
theorem zOL(hc:PySem.W.xcIn X.K C=true)(hi:qB5 X.K (.ref C) "__init__" = some (some (.builtin "ValueError.__init__")))(hg:Gl X x)(hm:X.mg x=some (.ref C))(hk:qBh X.K (.ref C)=true)
  (ha:PA X (e::es) t) (hdb:(x==("__debug__":Str))=false:=by decide) (he:starEach (e::es) X.env=(false,eval e X.env)::starEach es X.env:=by rfl) (hpl:(backTo pos (starEach es X.env)).any (·.1)=false:=by rfl) :
  PE X (.Call (.Name x p) (e::es) [] pos) (zK3 C t):=by
 intro pins s σ H Q I h;refine qJr (zKR I hg hm ?_ hdb);refine qFl (h₀:=X.base) I.ok.mod.kin hk (thn (ha pos pins s σ H _ I h) fun us s1 ⟨vs,H1,I1,r,z,q⟩=>⟨I1.kIn,?_⟩) he hpl;exact zMY hc hi I1 r z q
theorem Inv.xn{e:Addr}{d:Option Addr}{Cv:Value}(I:Inv X pins σ H s)(h:H e=some (xn e Cv d)):XN e Cv d s.heap:=(I.hok e _ h).1
theorem XN.xo{h:Heap}{e:Addr}{d:Option Addr}{Cv:Value}(x:XN e Cv d h):XO e Cv d h:=let⟨t1,a⟩:=x;⟨_,_,a,rfl,rfl,rfl,by simp⟩
theorem Inv.raised{e:Addr}{d:Option Addr}(I:Inv X pins σ H s)(h:H e=some (L2.xn e (.ref C) d))(E:XK)(q:E (.ref e) d (upd H e (xo e (.ref C) d))):XP X pins σ E (.ref e) s:=by
 have x:=I.xn h;obtain⟨t1,a⟩:=id x;have I':Inv X pins σ (upd H e (xo e (.ref C) d)) s:=I.write (t':=s.toks) (h':=s.heap) (e:=e) (by rw[h];trivial) (.inl rfl) (fun _ _ _ q=>q) ⟨_,a⟩ (zZT x.xo);exact⟨s.heap.objs.size,e,.ref C,d,_,rfl,I',⟨zAD,.inl ⟨_,_,a,rfl,rfl,rfl,rfl⟩⟩,I.sz,qA8 _,I.pinlt,q⟩
def Flies(X:Cx)(E:XK):Prop:=∀(pins:List (Addr×Obj))(σ:St)(x:Value)(s':qI8),XP X pins σ E x s'->X.xe x s'
theorem Flies.passes{E:XK}(h:Flies X E):zMN (CXe X.prog X.w) X E:=fun pins σ H s x s' I q=>h pins σ x s' (I.flown q)
def zSG(K:qA1)(E:XK)(te:TE):TS:=fun _ σ H=>te σ H fun v H1=>∃e C d,v=.ref e/\H1 e=some (L2.xn e (.ref C) d)/\PySem.W.xcIn K C=true/\E (.ref e) d (upd H1 e (xo e (.ref C) d))
theorem zRA{E:XK}(he:PE X e te)(hf:Flies X E)(hc:X.calm=true):PS X (.Raise (some e) none pos) (zSG X.K E te):=by
 intro pins s σ H D I h;refine Xc.RaiseX (I.ok.hd hc) (thn (he pins s σ H _ I h) fun v s1 z0=>?_);obtain⟨y,H1,I1,ry,a,C,d,ey,ha,hx,q⟩:=z0;subst ey;cases ry;obtain⟨t1,hg⟩:=I1.xn ha;obtain⟨nm,qn,N,bs,bm,hdct,sn,sub,ab,col,dd,k0,k1,k2,k3,k5,hC,ht⟩:=PySem.W.xc_cls I1.kIn hx;exact⟨a,t1,d,nm,qn,C,N,bs,bm,hdct,sn,sub,ab,col,dd,k0,k1,k2,k3,k5,_,rfl,hC,PySem.W.exc_con ht (by decide),hg,hf pins σ _ _ (I1.raised ha E q)⟩
structure XSet(K:qA1)(C:Addr)(f:Str):Prop where
 st:qB5 K (.ref C) "__setattr__" = some (some (.builtin "object.__setattr__"))
 ov:PySem.W.excOver K C=true
 tk:PySem.W.takerIn K C f=some none
 hd:(qFo K C).any (·.hasDict)=true
end
section
variable{X:Cx}{pins:List (Addr×Obj)}{σ:St}{H:Hp}{s:qI8}{C e d:Addr}{f:Str}{pos:Pos}{ta:TE}
def isX(H:Hp)(e C:Addr)(d:Option Addr):Prop:=H e=some (xn e (.ref C) d)\/H e=some (xo e (.ref C) d)
end
end L2
namespace PySem.Xc
open PySem PySem.W
section
variable{prog:qIb}{w:World}{A:qIc}{E:Value->qI8->Prop}{K:Frag}{x C:Addr}{ox:Obj}{od:Option Obj}{name:Str}{expr fill:Bool}{h:Heap}{g:Array qJy}{d:Drawn}{t:Nat}{os:OsState}
end
structure XIs(K:Frag)(C:Addr):Prop where
 xc:xcIn K C=true
 ga:findIn K (.ref C) "__getattribute__" = some (some (.builtin "BaseException.__getattribute__"))
 gg:findIn K (.ref C) "__getattr__" = some none
 hd:hasDictIn K C=true
 ca:findIn K (.ref C) "__class__" = some (some (.builtin "object.__class__"))
 cg:specialIn K (.builtin "object.__class__") "__get__" = some (some (.builtin "getset_descriptor.__get__"))
 ct:takesIn K (.builtin "object.__class__")=some true
 mo:mroIn K C (.type "object")=some true
end PySem.Xc
namespace Att
open PySem PySem.W PySem.Calls PyProof.Rows
theorem zTQ{ns:List Int}(h:qM8 (ns.map qM7)<=2 ^ 20):∀i∈ns,i.natAbs.log2<2 ^ 20:=by
 induction ns with
 |nil=>intro i hi;cases hi
 |cons n r ih=>
  rw[qAk,qM8]at h;intro i hi
  rcases qAb.mp hi with rfl|hi
  ·rw[qMq]at h
   split at h
   ·rename_i z
    have:i=0:=beq_iff_eq.mp z
    subst this
    decide
   ·lia
  ·exact ih (by lia) i hi
theorem attach_callW{l:OpenLaw}{n:Nat}{q:qIb}{loose:List Str}{XP:(Str->Option Value)->Heap->Prop}{YP:World->Heap->Prop}{d:DefRec}
  (hn:l.most=some n) (hdf:d.params.defaults=[])
  (call:∀(w:World)(s₀ s₁:qI8)(mg mb:Str->Option Value)(fa:Addr)(o:Obj)(pm cd doc:Value)(a:Addr)(vs:List Value)(ns:List Int),
   Ground q loose [] XP w s₀ mg mb s₁.heap->YP w s₁.heap ->
   s₁.heap.get? fa=some o->o.data=.func (docDef d.name d.params d.body d.scope pm cd doc)->s₁.heap.CodeRec cd d.name->mg d.name=some (.ref fa) ->
   s₁.heap.get? a=some { cls:=.type "list",data:=.seq vs.toArray }->qMi vs ns->ns.length<=n->(∀i∈ns,i.natAbs.log2<2 ^ 20)->s₁.gens=#[] ->
   qK8 (model l.prog w) qLe (.call (.ref fa) ⟨[.ref a],[]⟩) (fun r s'=>r=.ok (.ret (.bool true))/\OldK s₁.heap s'.heap/\s'.os=s₁.os/\qKm s'.gens) s₁) :
  WalkO q loose XP YP l.row.toRowW d [] (fun f vs=>qG1 f vs):=by
 intro w s₀ s₁ mg mb G Y fa o pm cd doc dV kV ho hd hcd hD hmg hg args vals as hpre hlay hrd hwl hlo;obtain rfl:dV=.none:=Dflts.none hD hdf;obtain rfl:kV=.none:=Dflts.noKw hD;obtain⟨a,vs,ns,rfl,rfl,hobj,hints,hlen⟩:=zO5 hn hpre hwl;have hw:∀i∈ns,i.natAbs.log2<2 ^ 20:=by
  have hl:qM0 [WData.list (ns.map qM7)]=true:=hlay;simp only[qM0,qD7,List.all_nil,qEg,WData.layable,qBd,decide_eq_true_eq]at hl;exact zTQ (by have:=hl.2;rw[qMq]at this;exact this)
 refine enter_call (codeAny_mono (call w s₀ s₁ mg mb fa o pm cd doc a vs ns G Y ho (fd_plain hd) hcd hmg hobj hints hlen hw hg) fun r s' hq=>?_);obtain⟨rfl,h2,h3,h4⟩:=hq;exact⟨.inl ⟨.bool true,.bool true,[],rfl,fun _=>rfl,.bool true,zOD l _,fun _=>⟨qFz,fun _ hm=>(nomatch hm)⟩⟩,h2,h3,h4⟩
end Att
namespace L2
open PySem PySem.Spec PyProof.Rows
def HasX(P:qIb)(w:World)(K:qA1)(mg:Str->Option Value)(base:Heap)(x:Str)(k:Nat)(ps:List Str)(sp:Sp):Prop:=
 ∃f fd,FnOk P w K mg base (CXe P w) k f fd ps sp/\mg x=some (.ref f)/\qBh K (.ref f)=true/\Binds K fd ps []
section
variable{P:qIb}{w:World}{K:qA1}{mg:Str->Option Value}{base:Heap}{x:Str}{k:Nat}{ps N:List Str}{sp sp':Sp}{st:Stmt}
theorem Fun.okX{y qual:Str}{f:Addr}{fd:qIs}(F:Fun K y qual st f fd)(S:FnScope N ps (zAA st))(len:∀vs H Q E,sp vs H Q E->vs.length=ps.length)
  (hbody:∀(cdv:Value)(A:qIc)(outer:List Env)(s:qI8)(H:Hp)(vs:List V)(Q:VK)(E:XK),Room k (A.deeper (envOfC qual (zAA st) s.heap.objs.size f cdv))->sp vs H Q E ->
   ∃t,PSs (cxOf (CXe P w) P w K mg base N qual (zAA st) f cdv A outer s H E) (zAY st) t/\t { nx:=fun _ H'=>Q .non H',rt:=Q } (start N vs) H):FnOk P w K mg base (CXe P w) (k+1) f fd ps sp:=by
 obtain⟨oc,od,kV,doc,pm,an,cdv,ct,osl,rfl,lk,hcd⟩:=F.ex;exact zY5 lk hcd S len fun A outer s H vs Q E hr hsp=>hbody cdv A outer s H vs Q E hr hsp
theorem Def.okX(D:Def K mg x st)(S:FnScope N ps (zAA st))
  (hb:∀(kV doc pm:Value)(an:Option Addr)(cdv ct:Value)(us:List Value),us.length=ps.length->qLg (qBe x x (zBG st) (zAY st) (zAA st) .none kV doc pm an cdv ct) ⟨us,[]⟩=pure (ps.zip us))
  (len:∀vs H Q E,sp vs H Q E->vs.length=ps.length)
  (hbody:∀(f:Addr)(cdv:Value)(A:qIc)(outer:List Env)(s:qI8)(H:Hp)(vs:List V)(Q:VK)(E:XK),Room k (A.deeper (envOfC x (zAA st) s.heap.objs.size f cdv))->sp vs H Q E ->
   ∃t,PSs (cxOf (CXe P w) P w K mg base N x (zAA st) f cdv A outer s H E) (zAY st) t/\t { nx:=fun _ H'=>Q .non H',rt:=Q } (start N vs) H):HasX P w K mg base x (k+1) ps sp:=by
 obtain⟨f,fd,F,m⟩:=D;exact⟨f,fd,F.okX S len (fun cdv A outer s H vs Q E hr h=>hbody f cdv A outer s H vs Q E hr h),m,F.kp,F.binds hb⟩
theorem zPR{qual:Str}{scope:Scope}{f:Addr}{cd:Value}{A:qIc}{outer:List Env}{s:qI8}{H:Hp}{E:XK}:Flies (cxOf (CXe P w) P w K mg base N qual scope f cd A outer s H E) E:=fun _ _ _ _ h=>zVP (fun _ _ _ z=>z) h
end
section
variable{X:Cx}{x:Str}{j k:Nat}{ps:List Str}{sp:Sp}{e:Expr}{es:List Expr}{t:TA}{p pos:Pos}{E:XK}
theorem zY6:Flies X E0:=fun _ _ _ _ z0=>by
 obtain⟨_,_,_,_,_,_,_,_,_,_,_,h⟩:=z0;exact h.elim
theorem zX9(h:HasX X.prog X.w X.K X.mg X.base x j ps sp)(hjk:j<=k)(hr:Room k X.A)(hf:Flies X E)(hg:Gl X x)(ha:PA X (e::es) t)(hdb:(x==("__debug__":Str))=false:=by decide)
  (he:starEach (e::es) X.env=(false,eval e X.env)::starEach es X.env:=by rfl) (hpl:(backTo pos (starEach es X.env)).any (·.1)=false:=by rfl):PE X (.Call (.Name x p) (e::es) [] pos) (zK5 sp [] E t):=by
 obtain⟨f,fd,G,m,kp,b⟩:=h;exact zON G (hr.mono hjk) hg m kp b .nil hf.passes ha hdb he hpl
end
def MulOk(i j:Int):Prop:=((-(2 ^ 64)<i/\i<2 ^ 64)\/(-(2 ^ 64)<j/\j<2 ^ 64))\/i.natAbs.log2+j.natAbs.log2<=67108864
theorem zQE(i:Int):qJl i<=i.natAbs.log2+1:=by
 unfold qJl
 split<;>lia
theorem MulOk.ok{i j:Int}(h:MulOk i j):IntMulOk i j:=by
 rcases h with h|h
 ·exact CMul.ok h
 ·unfold IntMulOk;have h1:=zQE i;have h2:=zQE j;have h3:qKw ((qJl i:Int)+(qJl j:Int))=false:=by
   unfold qKw
   have:(bitsLine:Int)=134217728:=by decide
   rw[this];simp only[gt_iff_lt,decide_eq_false_iff_not,Int.not_lt]
   lia
  rw[h3,qCx];exact qAc
section
variable{X:Cx}
noncomputable def zWS:R2:=fun x y H Q=>match x,y with
 |.int i,.int j=>MulOk i j/\Q (.int (i*j)) H
 |_,_=>False
theorem zUE:OpR X (binaryOp .Mult) (rI MulOk fun i j=>.int (i*j)):=opI fun _ _ _ _ _ _ _ hc q=>mul_int q hc.ok
theorem zDA:OpR X (binaryOp .Mult) zWS:=by
 intro pins s σ H x y v u Q I rx ry h;cases x<;>cases y<;>first
  |exact zUE pins s σ H _ _ v u Q I rx ry ⟨_,_,rfl,rfl,h.1,h.2⟩
  |exact qA5 h
noncomputable def zWV:R2:=fun x y H Q=>match x,y with
 |.int i,.int j=>(0<j/\j<1000000000000000000000000)/\Q (.int (i/j)) H
 |_,_=>False
theorem log2_lt{n:Nat}(h:n<1000000000000000000000000):n.log2<9000:=by
 by_cases z:n=0
 ·subst z;decide
 ·have h2:n<2 ^ 80:=by lia
  have:=(Nat.log2_lt z).mpr h2
  lia
theorem zUF:OpR X (binaryOp .FloorDiv) (rI (fun _ j=>0<j/\j<1000000000000000000000000) fun i j=>.int (i/j)):=opI fun i j _ _ _ _ _ hc q=>by
 have h1:(0:Int)<j:=hc.1;have h2:j<1000000000000000000000000:=hc.2;exact floordiv_int (by lia) (by rw[Int.fdiv_eq_ediv_of_nonneg i (by lia)];exact q) (.inl (PyProof.noPylong_of_log2 (log2_lt (by lia))))
theorem zIB:OpR X (binaryOp .FloorDiv) zWV:=by
 intro pins s σ H x y v u Q I rx ry h;cases x<;>cases y<;>first
  |exact zUF pins s σ H _ _ v u Q I rx ry ⟨_,_,rfl,rfl,h.1,h.2⟩
  |exact qA5 h
end
noncomputable def del(H:Hp)(a:Addr):Hp:=fun b=>if b=a then none else H b
theorem zTJ{H:Hp}{a b:Addr}(h:b≠a):del H a b=H b:=by unfold del;rw[if_neg h]
abbrev cel(co:Obj):HO:=.frz co (.ext fun _=>True)
section
variable{P:qIb}{w:World}{H H':Hp}{h h':Heap}{a:Addr}{co:Obj}{fs:List Addr}
end
abbrev lamO(q:Str)(params:Arguments)(body:Expr)(scope:Scope)(clos:List (Str×Addr))(pm cdv ctv:Value):Obj:=
 { cls:=.type "function",data:=.func (PySem.W.kla_fn "<lambda>" q params body scope clos pm cdv ctv) }
section
variable{X:Cx}
end
section
variable{X:Cx}{k:Nat}{f cl:Addr}{fd:qIs}{ps:List Str}{sp:Sp}{x nm:Str}{p pos:Pos}{e:Expr}{es:List Expr}{t:TA}{i:Nat}
end
def cxLam(X:Cx)(N:List Str)(q:Str)(scope:Scope)(f:Addr)(cd:Value)(clos:List (Str×Addr))(s:qI8)(H:Hp):Cx where
 prog:=X.prog
 w:=X.w
 K:=X.K
 mg:=X.mg
 base:=X.base
 A:=X.A.deeper (qGa q scope s.heap.objs.size f cd clos)
 N:=N
 s₀:=s
 H₀:=H
 env:=qGa q scope s.heap.objs.size f cd clos
 outer:=X.stack
 stack:=qGa q scope s.heap.objs.size f cd clos::X.stack
 ex:=[]
 fn:=fun _=>false
 calm:=true
 pn:=[]
 xe:=fun _ _=>False
section
variable{X:Cx}{pins:List (Addr×Obj)}{σ:St}{H:Hp}{s:qI8}{Q:VK}{us:List Value}{vs:List V}{f cl:Addr}{q nm:Str}{params:Arguments}{body:Expr}{scope:Scope}{pm cdv ctv:Value}{co:Obj}{val:Value}{v:V}{ps:List Str}
end
section
variable{X:Cx}{i:Nat}{x:Str}{p pos:Pos}{e:Expr}{es:List Expr}{t:TA}{r:Addr->List V->Hp->VK->Prop}
end
end L2
namespace L3
open PySem PySem.Spec
open L2 hiding Rep RepL
open Mi (Dt Xn R okR zA2 optR zA0 zA5 zA8 zA4 zA7 Rh Sl Ro EM TM AM FM IM SM Tg Out zAN zAM zAP full frz frz1 frzAt)
section
class Kc where
 K:qA1
variable[Kc]
noncomputable def clK(K:qA1)(c:Str):Option Addr:=match qBr K qIf c with
 |some (some (.ref C))=>some C
 |_=>none
def KTP(K:qA1)(a:Addr)(xs:List V):Prop:=xs≠[]/\∃(o:Obj)(its:Array Value)(n:Nat),K.lookup a=some o/\o.cls=.type "tuple"/\o.data=.seq its n/\its.size<=sizeLine/\Vals xs its.toList
theorem KTP.t{K:qA1}{H:Hp}{a:Addr}{xs:List V}(h:KTP K a xs):SqT K H a xs:=.inr h.2
def SqR(K:qA1)(H:Hp)(a:Addr)(xs:List V):Prop:=SqL K H a xs\/KTP K a xs
theorem SqR.old{K:qA1}{H:Hp}{a:Addr}{xs:List V}(h:SqR K H a xs):SqL K H a xs\/SqT K H a xs:=h.imp_right fun z=>z.t
theorem zIL{K:qA1}{H H':Hp}{a:Addr}{xs:List V}(e:Same H H')(h:SqT K H a xs):SqT K H' a xs:=by
 rcases h with(h|⟨o,h⟩)|h
 ·exact .inl (.inl (e _ _ h))
 ·exact .inl (.inr ⟨o,e _ _ h⟩)
 ·exact .inr h
theorem zDU{K:qA1}{H H':Hp}{a:Addr}{xs:List V}(e:Same H H')(h:SqR K H a xs):SqR K H' a xs:=h.imp_left fun z=>e.seq z
noncomputable def svV:Mi.Sv->V
 |.i n=>.int n
 |.s x=>.str x
noncomputable def swV:Mi.Sw->V
 |.non=>.non
 |.bl b=>.bl b
 |.int i=>.int i
 |.str x=>.str x
def kNw:Mi.Sw->KeyN
 |.non=>none
 |.bl b=>some (.inl (zJP b))
 |.int i=>some (.inl i)
 |.str x=>some (.inr x)
noncomputable def noBw:Mi.Sw->Bool
 |.bl _=>false
 |_=>true
def noBk(ks:List (List Mi.Sw)):Bool:=ks.all fun k=>k.all noBw
noncomputable def isBl:V->Bool
 |.bl _=>true
 |_=>false
def KeyT(H:Hp)(T:Addr->Prop)(ks:List (List Mi.Sw)):Prop:=(ks.map fun k=>k.map kNw).Nodup/\∀c,T c->∃ys,H c=some (.tup ys)/\(noBk ks=true->∀y∈ys,isBl y=false)
theorem KeyT.mono{H H':Hp}{T:Addr->Prop}{ks:List (List Mi.Sw)}(s:Same H H')(h:KeyT H T ks):KeyT H' T ks:=⟨h.1,fun c t=>let⟨ys,e,n⟩:=h.2 c t;⟨ys,s _ _ e,n⟩⟩
abbrev kzip(ks:List (List Mi.Sw))(xs:List V):List (List KeyN×V):=(ks.map fun k=>k.map kNw).zip xs
noncomputable def zV8:Expr->Option (Arguments×Expr×Scope×Str)
 |.Call _ [_,.Lambda ps b sc _] _ _=>match sc.names.find? fun p=>p.2==.free with
  |some (x,_)=>some (ps,b,sc,x)
  |none=>none
 |_=>none
def zZE:Stmt->Option (Arguments×Expr×Scope×Str)
 |.Return (some e) _=>zV8 e
 |.Assign _ e _=>zV8 e
 |.If _ (_::.Return (some e) _::_) _ _=>zV8 e
 |_=>none
def zZZ(l:List Stmt):Option (Arguments×Expr×Scope×Str):=l.findSome? zZE
def lamK(K:qA1)(x:Str):Option (Arguments×Expr×Scope×Str):=match qBr K qIf x with
 |some (some (.ref f))=>match K.lookup f with
  |some o=>match o.data with
   |.func fd=>match fd.body with
    |.stmts b=>zZZ b
    |_=>none
   |_=>none
  |none=>none
 |_=>none
noncomputable def lamQ(x:Str):Str:=x ++ ".<locals>." ++ "<lambda>"
noncomputable def codP(K:qA1)(x:Str):Option Addr:=match qBr K qIf x with
 |some (some (.ref f))=>match K.lookup f with
  |some o=>match o.data with
   |.func fd=>match fd.code with
    |.ref c=>match K.lookup c with
     |some o=>match o.data with
      |.fields vs=>match(vs[11]?:Option Value)with
       |some (.ref P)=>some P
       |_=>none
      |_=>none
     |none=>none
    |_=>none
   |_=>none
  |none=>none
 |_=>none
noncomputable def makers:List Str:=["turned_at","exchanged_at","pivoted"]
def tabK(K:qA1):Hp:=fun P=>(makers.find? fun x=>codP K x==some P&&(lamK K x).isSome).map fun x=>.lam (lamQ x)
mutual
def Rep(H:Hp):Dt->V->Prop
 |.non,v=>v=.non
 |.bl b,v=>v=.bl b
 |.int i,v=>v=.int i
 |.str x,v=>v=.str x
 |.lst ds,v=>∃a xs,v=.ref a/\H a=some (.lst xs)/\RepL H ds xs
 |.tup ds,v=>∃a xs,v=.ref a/\H a=some (.tup xs)/\RepL H ds xs
 |.scr ns,v=>∃a,v=.ref a/\SqR Kc.K H a (ns.map V.int)
 |.exc c f d,v=>∃e C da,v=.ref e/\isX H e C da/\clK Kc.K c=some C/\((da=none/\f = "")\/∃a gs w,da=some a/\H a=some (.xd gs)/\gs.lookup f=some w/\Rep H d w)
 |.ins c fs,v=>∃a C dx,v=.ref a/\clK Kc.K c=some C/\H a=some (.ins C dx (fs.map fun p=>(p.1,svV p.2)))
 |.dct kvs,v=>∃a,v=.ref a/\H a=some (.dK (kvs.map fun p=>(p.1,swV p.2)))
 |.fn x d,v=>∃f,v=.ref f/\∃L cl pm cdv ctv co val w,lamK Kc.K x=some L/\H f=some (.fn (lamO (lamQ x) L.1 L.2.1 L.2.2.1 [(L.2.2.2,cl)] pm cdv ctv) (lamQ x))/\H cl=some (cel co)/\co.data=.cell (some val)/\RelV w val/\Rep H d w
 |.dtt ks ds,v=>∃a T e0 xs,v=.ref a/\H a=some (.dT T e0 (kzip ks xs))/\ks.length=ds.length/\KeyT H T ks/\RepL H ds xs
 |.loc a d,v=>v=.ref a/\Rep H d v
def RepL(H:Hp):List Dt->List V->Prop
 |[],xs=>xs=[]
 |d::r,xs=>∃x q,xs=x::q/\Rep H d x/\RepL H r q
end
mutual
theorem Rep.mono{H H':Hp}(s:Same H H'):∀{d:Dt}{v:V},Rep H d v->Rep H' d v
 |.non,_,h=>h
 |.bl _,_,h=>h
 |.int _,_,h=>h
 |.str _,_,h=>h
 |.lst _,_,h=>by obtain⟨a,xs,e,e',r⟩:=h;exact⟨a,xs,e,s _ _ e',RepL.mono s r⟩
 |.tup _,_,h=>by obtain⟨a,xs,e,e',r⟩:=h;exact⟨a,xs,e,s _ _ e',RepL.mono s r⟩
 |.scr _,_,h=>by obtain⟨a,e,e'⟩:=h;exact⟨a,e,zDU s e'⟩
 |.exc _ _ _,_,h=>by
  obtain⟨a,C,da,e,e',hc,r⟩:=h;refine⟨a,C,da,e,e'.imp (fun z=>s _ _ z) fun z=>s _ _ z,hc,r.imp (fun z=>z) ?_⟩
  rintro⟨b,gs,w,h1,h2,h3,h4⟩
  exact⟨b,gs,w,h1,s _ _ h2,h3,Rep.mono s h4⟩
 |.ins _ _,_,h=>by obtain⟨a,C,dx,e,hc,h1⟩:=h;exact⟨a,C,dx,e,hc,s _ _ h1⟩
 |.dct _,_,h=>by obtain⟨a,e,h1⟩:=h;exact⟨a,e,s _ _ h1⟩
 |.fn _ _,_,h=>by obtain⟨f,e,L,cl,pm,cdv,ctv,co,val,w,h1,h2,h3,h4,h5,h6⟩:=h;exact⟨f,e,L,cl,pm,cdv,ctv,co,val,w,h1,s _ _ h2,s _ _ h3,h4,h5,Rep.mono s h6⟩
 |.dtt _ _,_,h=>by obtain⟨a,T,e0,xs,e,e',hl,ht,r⟩:=h;exact⟨a,T,e0,xs,e,s _ _ e',hl,ht.mono s,RepL.mono s r⟩
 |.loc _ _,_,h=>⟨h.1,Rep.mono s h.2⟩
theorem RepL.mono{H H':Hp}(s:Same H H'):∀{ds:List Dt}{xs:List V},RepL H ds xs->RepL H' ds xs
 |[],_,h=>h
 |_::_,_,h=>by obtain⟨x,q,e,r,t⟩:=h;exact⟨x,q,e,Rep.mono s r,RepL.mono s t⟩
end
theorem RepL.length{H:Hp}:∀{ds:List Dt}{xs:List V},RepL H ds xs->xs.length=ds.length
 |[],_,h=>by cases h;rfl
 |_::_,_,h=>by obtain⟨x,q,e,r,t⟩:=h;subst e;simp[RepL.length t]
mutual
def conv:Dt->L2.Dat
 |.non=>.non
 |.bl b=>.bl b
 |.int i=>.int i
 |.str x=>.str x
 |.lst ds=>.lst (convL ds)
 |.tup ds=>.tup (convL ds)
 |.scr _=>.non
 |.exc _ _ _=>.non
 |.fn _ _=>.non
 |.dtt _ _=>.non
 |.loc _ _=>.non
 |.ins _ _=>.non
 |.dct _=>.non
def convL:List Dt->List L2.Dat
 |[]=>[]
 |d::r=>conv d::convL r
end
mutual
theorem zE3:∀{d:Dt},d.dep<=40->(conv d).dep<=d.dep
 |.non,_=>qA8 _
 |.bl _,_=>qA8 _
 |.int _,_=>qA8 _
 |.str _,_=>qA8 _
 |.lst ds,h=>by rw[Dt.dep]at h ⊢;rw[conv,L2.Dat.dep];have:=conv_depL (ds:=ds) (by lia);lia
 |.tup ds,h=>by rw[Dt.dep]at h ⊢;rw[conv,L2.Dat.dep];have:=conv_depL (ds:=ds) (by lia);lia
 |.scr _,h=>by rw[Dt.dep]at h;lia
 |.exc _ _ _,h=>by rw[Dt.dep]at h;lia
 |.fn _ _,h=>by rw[Dt.dep]at h;lia
 |.dtt _ _,h=>by rw[Dt.dep]at h;lia
 |.loc _ _,h=>by rw[Dt.dep]at h;lia
 |.ins _ _,h=>by rw[Dt.dep]at h;lia
 |.dct _,h=>by rw[Dt.dep]at h;lia
theorem conv_depL:∀{ds:List Dt},Dt.depL ds<=40->L2.Dat.depL (convL ds)<=Dt.depL ds
 |[],_=>qA8 _
 |d::r,h=>by
  rw[Dt.depL]at h ⊢;rw[convL,L2.Dat.depL];have h1:=zE3 (d:=d) (by lia);have h2:=conv_depL (ds:=r) (by lia)
  lia
end
mutual
theorem zD2{H:Hp}:∀{d:Dt}{v:V},d.dep<=40->Rep H d v->L2.Rep H (conv d) v
 |.non,_,_,h=>h
 |.bl _,_,_,h=>h
 |.int _,_,_,h=>h
 |.str _,_,_,h=>h
 |.lst ds,_,hd,h=>by obtain⟨a,xs,e,e',r⟩:=h;exact⟨a,xs,e,e',conv_repL (by rw[Dt.dep]at hd;lia) r⟩
 |.tup ds,_,hd,h=>by obtain⟨a,xs,e,e',r⟩:=h;exact⟨a,xs,e,e',conv_repL (by rw[Dt.dep]at hd;lia) r⟩
 |.scr _,_,h,_=>by rw[Dt.dep]at h;lia
 |.exc _ _ _,_,h,_=>by rw[Dt.dep]at h;lia
 |.fn _ _,_,h,_=>by rw[Dt.dep]at h;lia
 |.dtt _ _,_,h,_=>by rw[Dt.dep]at h;lia
 |.loc _ _,_,h,_=>by rw[Dt.dep]at h;lia
 |.ins _ _,_,h,_=>by rw[Dt.dep]at h;lia
 |.dct _,_,h,_=>by rw[Dt.dep]at h;lia
theorem conv_repL{H:Hp}:∀{ds:List Dt}{xs:List V},Dt.depL ds<=40->RepL H ds xs->L2.RepL H (convL ds) xs
 |[],_,_,h=>h
 |d::r,_,hd,h=>by
  rw[Dt.depL]at hd;obtain⟨x,q,e,a,b⟩:=h;exact⟨x,q,e,zD2 (by lia) a,conv_repL (by lia) b⟩
end
mutual
theorem zL3:∀{d e:Dt},d.dep<=40->e.dep<=40->L2.Dat.eq (conv d) (conv e)=Dt.eq d e
 |.scr _,_,h,_=>by rw[Dt.dep]at h;lia
 |.exc _ _ _,_,h,_=>by rw[Dt.dep]at h;lia
 |.fn _ _,_,h,_=>by rw[Dt.dep]at h;lia
 |.dtt _ _,_,h,_=>by rw[Dt.dep]at h;lia
 |.loc _ _,_,h,_=>by rw[Dt.dep]at h;lia
 |.ins _ _,_,h,_=>by rw[Dt.dep]at h;lia
 |.dct _,_,h,_=>by rw[Dt.dep]at h;lia
 |.lst ds,e,h,h'=>by
  rw[Dt.dep]at h;cases e with
  |lst es=>rw[Dt.dep]at h';rw[conv,conv,L2.Dat.eq,Dt.eq];exact conv_eqL (by lia) (by lia)
  |scr _=>rw[Dt.dep]at h';lia
  |exc _ _ _=>rw[Dt.dep]at h';lia
  |fn _ _=>rw[Dt.dep]at h';lia
  |dtt _ _=>rw[Dt.dep]at h';lia
  |loc _ _=>rw[Dt.dep]at h';lia
  |ins _ _=>rw[Dt.dep]at h';lia
  |dct _=>rw[Dt.dep]at h';lia
  |_=>simp[conv,L2.Dat.eq,Dt.eq]
 |.tup ds,e,h,h'=>by
  rw[Dt.dep]at h;cases e with
  |tup es=>rw[Dt.dep]at h';rw[conv,conv,L2.Dat.eq,Dt.eq];exact conv_eqL (by lia) (by lia)
  |scr _=>rw[Dt.dep]at h';lia
  |exc _ _ _=>rw[Dt.dep]at h';lia
  |fn _ _=>rw[Dt.dep]at h';lia
  |dtt _ _=>rw[Dt.dep]at h';lia
  |loc _ _=>rw[Dt.dep]at h';lia
  |ins _ _=>rw[Dt.dep]at h';lia
  |dct _=>rw[Dt.dep]at h';lia
  |_=>simp[conv,L2.Dat.eq,Dt.eq]
 |.non,e,_,h'=>by
  cases e with
  |scr _=>rw[Dt.dep]at h';lia
  |exc _ _ _=>rw[Dt.dep]at h';lia
  |fn _ _=>rw[Dt.dep]at h';lia
  |dtt _ _=>rw[Dt.dep]at h';lia
  |loc _ _=>rw[Dt.dep]at h';lia
  |ins _ _=>rw[Dt.dep]at h';lia
  |dct _=>rw[Dt.dep]at h';lia
  |_=>simp[conv,L2.Dat.eq,Dt.eq]
 |.bl _,e,_,h'=>by
  cases e with
  |scr _=>rw[Dt.dep]at h';lia
  |exc _ _ _=>rw[Dt.dep]at h';lia
  |fn _ _=>rw[Dt.dep]at h';lia
  |dtt _ _=>rw[Dt.dep]at h';lia
  |loc _ _=>rw[Dt.dep]at h';lia
  |ins _ _=>rw[Dt.dep]at h';lia
  |dct _=>rw[Dt.dep]at h';lia
  |_=>simp[conv,L2.Dat.eq,Dt.eq]
 |.int _,e,_,h'=>by
  cases e with
  |scr _=>rw[Dt.dep]at h';lia
  |exc _ _ _=>rw[Dt.dep]at h';lia
  |fn _ _=>rw[Dt.dep]at h';lia
  |dtt _ _=>rw[Dt.dep]at h';lia
  |loc _ _=>rw[Dt.dep]at h';lia
  |ins _ _=>rw[Dt.dep]at h';lia
  |dct _=>rw[Dt.dep]at h';lia
  |_=>simp[conv,L2.Dat.eq,Dt.eq]
 |.str _,e,_,h'=>by
  cases e with
  |scr _=>rw[Dt.dep]at h';lia
  |exc _ _ _=>rw[Dt.dep]at h';lia
  |fn _ _=>rw[Dt.dep]at h';lia
  |dtt _ _=>rw[Dt.dep]at h';lia
  |loc _ _=>rw[Dt.dep]at h';lia
  |ins _ _=>rw[Dt.dep]at h';lia
  |dct _=>rw[Dt.dep]at h';lia
  |_=>simp[conv,L2.Dat.eq,Dt.eq]
theorem conv_eqL:∀{ds es:List Dt},Dt.depL ds<=40->Dt.depL es<=40->L2.Dat.eqL (convL ds) (convL es)=Dt.eqL ds es
 |[],[],_,_=>by simp[convL,L2.Dat.eqL,Dt.eqL]
 |[],_::_,_,_=>by simp[convL,L2.Dat.eqL,Dt.eqL]
 |_::_,[],_,_=>by simp[convL,L2.Dat.eqL,Dt.eqL]
 |d::r,e::t,h,h'=>by
  rw[Dt.depL]at h h';rw[convL,convL,L2.Dat.eqL,Dt.eqL,zL3 (by lia) (by lia),conv_eqL (by lia) (by lia)]
end
theorem zBT{G:Hp}:∀{ds:List Dt}{xs:List V}{q:Nat}{d:Dt}{x:V},RepL G ds xs->ds[q]?=some d->xs[q]?=some x->Rep G d x
 |[],_,_,_,_,_,h,_=>by simp at h
 |d::r,xs,0,e,y,h,h1,h2=>by
  obtain⟨x,t,rfl,a,b⟩:=h;simp at h1 h2;subst h1;subst h2;exact a
 |d::r,xs,q+1,e,y,h,h1,h2=>by
  obtain⟨x,t,rfl,a,b⟩:=h;exact zBT b (by simpa using h1) (by simpa using h2)
theorem zDI{G:Hp}:∀{ds:List Dt}{xs:List V},xs.length=ds.length->(∀(q:Nat)(d:Dt)(x:V),ds[q]?=some d->xs[q]?=some x->Rep G d x)->RepL G ds xs
 |[],[],_,_=>rfl
 |[],_::_,h,_=>by simp at h
 |_::_,[],h,_=>by simp at h
 |d::r,x::t,h,k=>⟨x,t,rfl,k 0 d x rfl rfl,zDI (by simpa using h) fun q e y h1 h2=>k (q+1) e y (by simpa using h1) (by simpa using h2)⟩
theorem zDP{n:Nat}:∀{ds:List Dt},Dt.depL ds<=n->∀{q:Nat}{d:Dt},ds[q]?=some d->d.dep<=n
 |[],_,_,_,h=>by simp at h
 |e::r,h,0,d,h1=>by simp at h1;subst h1;rw[Dt.depL]at h;lia
 |e::r,h,q+1,d,h1=>by rw[Dt.depL]at h;exact zDP (ds:=r) (by lia) (q:=q) (by simpa using h1)
structure Kids(P:(Addr->Prop)->Dt->V->Prop)(S:Addr->Prop)(a:Addr)(ds:List Dt)(xs:List V)(T:Nat->Addr->Prop):Prop where
 len:xs.length=ds.length
 own:∀(q:Nat)(d:Dt)(x:V),ds[q]?=some d->xs[q]?=some x->P (T q) d x
 top:S a
 out:∀q,¬T q a
 dis:∀q r b,T q b->T r b->q=r
 sub:∀q b,T q b->S b
def Own(G H:Hp):Nat->(Addr->Prop)->Dt->V->Prop
 |0,_,d,v=>Rep G d v
 |n+1,S,d,v=>match d with
  |.lst ds=>∃a xs T,v=.ref a/\H a=some (.lst xs)/\Kids (Own G H n) S a ds xs T
  |.tup ds=>∃a xs T,v=.ref a/\H a=some (.tup xs)/\Kids (Own G H n) S a ds xs T
  |.dct kvs=>∃a,v=.ref a/\H a=some (.dK (kvs.map fun p=>(p.1,swV p.2)))/\S a
  |.dtt ks ds=>∃a T0 e0 xs T,v=.ref a/\H a=some (.dT T0 e0 (kzip ks xs))/\ks.length=ds.length/\KeyT G T0 ks/\Kids (Own G H n) S a ds xs T
  |.loc a d=>v=.ref a/\Own G H n S d v
  |d=>Rep G d v
theorem Kids.imp{P P':(Addr->Prop)->Dt->V->Prop}{S S':Addr->Prop}{a:Addr}{ds:List Dt}{xs:List V}{T:Nat->Addr->Prop}(k:Kids P S a ds xs T)
  (h:∀q d x,ds[q]?=some d->P (T q) d x->P' (T q) d x) (hs:∀b,S b->S' b):Kids P' S' a ds xs T:=
 ⟨k.len,fun q d x h1 h2=>h q d x h1 (k.own q d x h1 h2),hs _ k.top,k.out,k.dis,fun q b t=>hs _ (k.sub q b t)⟩
theorem Own.mono{G G' H H':Hp}(sG:Same G G')(sH:Same H H'):∀{n:Nat}{S:Addr->Prop}{d:Dt}{v:V},Own G H n S d v->Own G' H' n S d v
 |0,S,d,v,h=>Rep.mono sG h
 |n+1,S,d,v,h=>by
  cases d with
  |lst ds=>obtain⟨a,xs,T,e,ha,k⟩:=h;exact⟨a,xs,T,e,sH _ _ ha,k.imp (fun _ _ _ _ p=>Own.mono sG sH p) fun _ z=>z⟩
  |tup ds=>obtain⟨a,xs,T,e,ha,k⟩:=h;exact⟨a,xs,T,e,sH _ _ ha,k.imp (fun _ _ _ _ p=>Own.mono sG sH p) fun _ z=>z⟩
  |dct kvs=>obtain⟨a,e,ha,hs⟩:=h;exact⟨a,e,sH _ _ ha,hs⟩
  |dtt ks ds=>obtain⟨a,T0,e0,xs,T,e,ha,hl,ht,k⟩:=h;exact⟨a,T0,e0,xs,T,e,sH _ _ ha,hl,ht.mono sG,k.imp (fun _ _ _ _ p=>Own.mono sG sH p) fun _ z=>z⟩
  |loc a d=>exact⟨h.1,Own.mono sG sH h.2⟩
  |_=>exact Rep.mono sG h
theorem Own.sub{G H:Hp}:∀{n:Nat}{S S':Addr->Prop}{d:Dt}{v:V},Own G H n S d v->(∀b,S b->S' b)->Own G H n S' d v
 |0,_,_,_,_,h,_=>h
 |n+1,S,S',d,v,h,hs=>by
  cases d with
  |lst ds=>obtain⟨a,xs,T,e,ha,k⟩:=h;exact⟨a,xs,T,e,ha,k.imp (fun _ _ _ _ p=>p) hs⟩
  |tup ds=>obtain⟨a,xs,T,e,ha,k⟩:=h;exact⟨a,xs,T,e,ha,k.imp (fun _ _ _ _ p=>p) hs⟩
  |dct kvs=>obtain⟨a,e,ha,h2⟩:=h;exact⟨a,e,ha,hs _ h2⟩
  |dtt ks ds=>obtain⟨a,T0,e0,xs,T,e,ha,hl,ht,k⟩:=h;exact⟨a,T0,e0,xs,T,e,ha,hl,ht,k.imp (fun _ _ _ _ p=>p) hs⟩
  |loc a d=>exact⟨h.1,Own.sub h.2 hs⟩
  |_=>exact h
theorem Own.rep{G H J:Hp}(sG:Same G J):∀{n:Nat}{S:Addr->Prop}{d:Dt}{v:V},Own G H n S d v->(∀a o,S a->H a=some o->J a=some o)->Rep J d v
 |0,S,d,v,h,_=>Rep.mono sG h
 |n+1,S,d,v,h,hj=>by
  cases d with
  |lst ds=>obtain⟨a,xs,T,e,ha,k⟩:=h;exact⟨a,xs,e,hj _ _ k.top ha,zDI k.len fun q d x h1 h2=>Own.rep sG (k.own q d x h1 h2) fun b o t hb=>hj b o (k.sub q b t) hb⟩
  |tup ds=>obtain⟨a,xs,T,e,ha,k⟩:=h;exact⟨a,xs,e,hj _ _ k.top ha,zDI k.len fun q d x h1 h2=>Own.rep sG (k.own q d x h1 h2) fun b o t hb=>hj b o (k.sub q b t) hb⟩
  |dct kvs=>obtain⟨a,e,ha,hs⟩:=h;exact⟨a,e,hj _ _ hs ha⟩
  |dtt ks ds=>obtain⟨a,T0,e0,xs,T,e,ha,hl,ht,k⟩:=h;exact⟨a,T0,e0,xs,e,hj _ _ k.top ha,hl,ht.mono sG,zDI k.len fun q d x h1 h2=>Own.rep sG (k.own q d x h1 h2) fun b o t hb=>hj b o (k.sub q b t) hb⟩
  |loc a d=>exact⟨h.1,Own.rep sG h.2 hj⟩
  |_=>exact Rep.mono sG h
theorem Own.at{G G2 H:Hp}:∀{n k:Nat}{S:Addr->Prop}{d:Dt}{v:V},Own G H n S d v->d.dep<=n->d.dep<=k->n<1000->Own G2 H k S d v
 |n,k,S,d,v,h,hn,hk,hz=>by
  cases d with
  |lst ds=>
   rw[Dt.dep]at hn hk;cases n with
   |zero=>lia
   |succ n=>
    cases k with
    |zero=>lia
    |succ k=>
     obtain⟨a,xs,T,e,ha,kd⟩:=h;refine⟨a,xs,T,e,ha,kd.imp (fun q d x h1 p=>?_) fun _ z=>z⟩;exact Own.at p (zDP (by lia) h1) (zDP (by lia) h1) (by lia)
  |tup ds=>
   rw[Dt.dep]at hn hk;cases n with
   |zero=>lia
   |succ n=>
    cases k with
    |zero=>lia
    |succ k=>
     obtain⟨a,xs,T,e,ha,kd⟩:=h;refine⟨a,xs,T,e,ha,kd.imp (fun q d x h1 p=>?_) fun _ z=>z⟩;exact Own.at p (zDP (by lia) h1) (zDP (by lia) h1) (by lia)
  |non=>cases n<;>cases k<;>exact h
  |bl b=>cases n<;>cases k<;>exact h
  |int i=>cases n<;>cases k<;>exact h
  |str x=>cases n<;>cases k<;>exact h
  |scr ns=>rw[Dt.dep]at hn;lia
  |exc _ _ _=>rw[Dt.dep]at hn;lia
  |fn _ _=>rw[Dt.dep]at hn;lia
  |dtt _ _=>rw[Dt.dep]at hn;lia
  |loc _ _=>rw[Dt.dep]at hn;lia
  |ins _ _=>rw[Dt.dep]at hn;lia
  |dct _=>rw[Dt.dep]at hn;lia
termination_by n=>n
theorem Own.scalar{G H G2 H2:Hp}{n k:Nat}{S S2:Addr->Prop}{d:Dt}{v:V}(h:Own G H n S d v)(hd:d.dep=0):Own G2 H2 k S2 d v:=by
 cases d with
 |lst ds=>rw[Dt.dep]at hd;lia
 |tup ds=>rw[Dt.dep]at hd;lia
 |non=>cases n<;>cases k<;>exact h
 |bl b=>cases n<;>cases k<;>exact h
 |int i=>cases n<;>cases k<;>exact h
 |str x=>cases n<;>cases k<;>exact h
 |scr ns=>rw[Dt.dep]at hd;lia
 |exc _ _ _=>rw[Dt.dep]at hd;lia
 |fn _ _=>rw[Dt.dep]at hd;lia
 |dtt _ _=>rw[Dt.dep]at hd;lia
 |loc _ _=>rw[Dt.dep]at hd;lia
 |ins _ _=>rw[Dt.dep]at hd;lia
 |dct _=>rw[Dt.dep]at hd;lia
theorem zXB{G H:Hp}{n:Nat}{S:Addr->Prop}{d:Dt}{v:V}(h:Rep G d v)(hd:d.dep=0):Own G H n S d v:=Own.scalar (n:=0) (G:=G) (H:=H) (S:=S) h hd
theorem Own.upd{G H:Hp}{p:Addr}{o:HO}:∀{n:Nat}{S:Addr->Prop}{d:Dt}{v:V},Own G H n S d v->¬S p->Own G (upd H p o) n S d v
 |0,S,d,v,h,_=>h
 |n+1,S,d,v,h,hp=>by
  cases d with
  |lst ds=>
   obtain⟨a,xs,T,e,ha,k⟩:=h;have hap:a≠p:=fun z=>hp (z▸k.top)
   exact⟨a,xs,T,e,(zAE hap).trans ha,k.imp (fun q _ _ _ w=>Own.upd w fun z=>hp (k.sub q _ z)) fun _ z=>z⟩
  |tup ds=>
   obtain⟨a,xs,T,e,ha,k⟩:=h;have hap:a≠p:=fun z=>hp (z▸k.top)
   exact⟨a,xs,T,e,(zAE hap).trans ha,k.imp (fun q _ _ _ w=>Own.upd w fun z=>hp (k.sub q _ z)) fun _ z=>z⟩
  |dct kvs=>
   obtain⟨a,e,ha,hs⟩:=h;have hap:a≠p:=fun z=>hp (z▸hs)
   exact⟨a,e,(zAE hap).trans ha,hs⟩
  |dtt ks ds=>
   obtain⟨a,T0,e0,xs,T,e,ha,hl,ht,k⟩:=h;have hap:a≠p:=fun z=>hp (z▸k.top)
   exact⟨a,T0,e0,xs,T,e,(zAE hap).trans ha,hl,ht,k.imp (fun q _ _ _ w=>Own.upd w fun z=>hp (k.sub q _ z)) fun _ z=>z⟩
  |loc a d=>exact⟨h.1,Own.upd h.2 hp⟩
  |_=>exact h
structure Ext(G H G' H':Hp):Prop where
 g:Same G G'
 h:Same H H'
 in':Same G' H'
 old:∀b,H b≠none->G' b=G b
theorem Ext.refl{G H:Hp}(s:Same G H):Ext G H G H:=⟨Same.refl _,Same.refl _,s,fun _ _=>rfl⟩
theorem _root_.L2.Same.some{H H':Hp}(s:Same H H'){b:Addr}(h:H b≠qFf):H' b≠qFf:=by
 cases e:H b with
 |none=>exact absurd e h
 |some o=>rw[s _ _ e];simp
theorem Ext.trans{G H G1 H1 G2 H2:Hp}(a:Ext G H G1 H1)(b:Ext G1 H1 G2 H2):Ext G H G2 H2:=
 ⟨a.g.trans b.g,a.h.trans b.h,b.in',fun c hc=>(b.old c (a.h.some hc)).trans (a.old c hc)⟩
structure Fr(G H G' H':Hp)(S:Addr->Prop):Prop where
 ext:Ext G H G' H'
 new:∀a,S a->H a=none/\G' a=none/\H' a≠none
open Classical in
noncomputable def over(G H:Hp)(S:Addr->Prop):Hp:=fun b=>if S b then H b else G b
theorem zDK{G H:Hp}{S:Addr->Prop}{a:Addr}(h:S a):over G H S a=H a:=by unfold over;rw[if_pos h]
theorem zBH{G H:Hp}{S:Addr->Prop}{a:Addr}(h:¬S a):over G H S a=G a:=by unfold over;rw[if_neg h]
theorem zCR{G H:Hp}{S:Addr->Prop}(s:Same G H):Same G (over G H S)/\Same (over G H S) H:=by
 constructor
 ·intro b o e
  by_cases z:S b
  ·rw[zDK z];exact s _ _ e
  ·rw[zBH z];exact e
 ·intro b o e
  by_cases z:S b
  ·rw[zDK z]at e;exact e
  ·rw[zBH z]at e;exact s _ _ e
theorem Fr.frz{G H G' H':Hp}{S:Addr->Prop}{n:Nat}{d:Dt}{v:V}(f:Fr G H G' H' S)(o:Own G' H' n S d v):Ext G H (over G' H' S) H'/\Rep (over G' H' S) d v:=by
 obtain⟨s1,s2⟩:=zCR (S:=S) f.ext.in';refine⟨⟨f.ext.g.trans s1,f.ext.h,s2,fun b hb=>?_⟩,o.rep s1 fun a u ha e=>by rw[zDK ha];exact e⟩;have z:¬S b:=fun z=>hb (f.new b z).1
 rw[zBH z];exact f.ext.old b hb
structure View(G:Hp)(σ:St)(ρ:Rh):Prop where
 len:ρ.length=σ.length
 «at»:∀(i:Nat)(d:Dt),ρ[i]?=some (some d)->∃v,σ[i]?=some (some v)/\Rep G d v
 tab:Same (tabK Kc.K) G
theorem View.mono{G G':Hp}{σ:St}{ρ:Rh}(s:Same G G')(h:View G σ ρ):View G' σ ρ:=⟨h.len,fun i d e=>let⟨v,a,b⟩:=h.at i d e;⟨v,a,Rep.mono s b⟩,h.tab.trans s⟩
def XRep(mg:Str->Option Value)(x:Xn)(c:Value)(da:Option Addr)(G H:Hp):Prop:=
 ∃e C,c=.ref e/\G e=some (xo e (.ref C) da)/\clK Kc.K x.cls=some C/\((da=none/\x.f = "")\/∃a gs w,da=some a/\G a=some (.xd gs)/\gs.lookup x.f=some w/\Rep G x.d w)
def PostE(mg:Str->Option Value)(E:XK)(G H:Hp)(n:Nat)(r:R Dt)(Q:VK):Prop:=match r with
 |none=>False
 |some (.error x)=>∀c da G' H',Ext G H G' H'->XRep mg x c da G' H'->E c da H'
 |some (.ok d)=>∀v G' H' S,Fr G H G' H' S->Own G' H' n S d v->Q v H'
def PostT(mg:Str->Option Value)(E:XK)(G H:Hp)(r:R Bool)(Q:Bool->Hp->Prop):Prop:=match r with
 |none=>False
 |some (.error x)=>∀c da G' H',Ext G H G' H'->XRep mg x c da G' H'->E c da H'
 |some (.ok b)=>∀H',Same H H'->Q b H'
structure OwnA(G H:Hp)(n:Nat)(S:Addr->Prop)(ds:List Dt)(xs:List V)(T:Nat->Addr->Prop):Prop where
 len:xs.length=ds.length
 own:∀(q:Nat)(d:Dt)(x:V),ds[q]?=some d->xs[q]?=some x->Own G H n (T q) d x
 dis:∀q r b,T q b->T r b->q=r
 sub:∀q b,T q b->S b
def zYY(mg:Str->Option Value)(E:XK)(G H:Hp)(n:Nat)(r:R (List Dt))(Q:List V->Hp->Prop):Prop:=match r with
 |none=>False
 |some (.error x)=>∀c da G' H',Ext G H G' H'->XRep mg x c da G' H'->E c da H'
 |some (.ok ds)=>∀vs G' H' S T,Fr G H G' H' S->OwnA G' H' n S ds vs T->Q vs H'
def DE(mg:Str->Option Value)(E:XK)(t:TE)(m:EM)(n:Nat):Prop:=∀(G H:Hp)(σ:St)(ρ:Rh)(Q:VK),Same G H->View G σ ρ->PostE mg E G H n (m ρ) Q->t σ H Q
def DT(mg:Str->Option Value)(E:XK)(t:TT)(m:TM):Prop:=∀(G H:Hp)(σ:St)(ρ:Rh)(Q:Bool->Hp->Prop),Same G H->View G σ ρ->PostT mg E G H (m ρ) Q->t σ H Q
def DA(mg:Str->Option Value)(E:XK)(t:TA)(m:AM)(n:Nat):Prop:=∀(G H:Hp)(σ:St)(ρ:Rh)(Q:List V->Hp->Prop),Same G H->View G σ ρ->zYY mg E G H n (m ρ) Q->t σ H Q
structure Err(mg:Str->Option Value)(E:XK)(G H:Hp){β:Type}(P:R β->Prop):Prop where
 no:P none->False
 er:∀x,P (some (.error x))->∀c da G' H',Ext G H G' H'->XRep mg x c da G' H'->E c da H'
theorem Ext.same{G H H':Hp}(s:Same G H)(h:Same H H'):Ext G H G H':=⟨Same.refl _,h,s.trans h,fun _ _=>rfl⟩
theorem Err.from{mg:Str->Option Value}{E:XK}{G H G' H':Hp}{β:Type}{P:R β->Prop}(e:Err mg E G H P)(x:Ext G H G' H'):Err mg E G' H' P:=⟨e.no,fun y p c da G2 H2 z w=>e.er y p c da G2 H2 (x.trans z) w⟩
section
variable{mg:Str->Option Value}{E:XK}{n:Nat}
theorem errE{G H:Hp}{Q:VK}:Err mg E G H (fun r=>PostE mg E G H n r Q):=⟨fun h=>h,fun _ h=>h⟩
theorem errT{G H:Hp}{Q:Bool->Hp->Prop}:Err mg E G H (fun r=>PostT mg E G H r Q):=⟨fun h=>h,fun _ h=>h⟩
theorem errA{G H:Hp}{Q:List V->Hp->Prop}:Err mg E G H (fun r=>zYY mg E G H n r Q):=⟨fun h=>h,fun _ h=>h⟩
theorem DE.step{β:Type}{t:TE}{m:EM}(D:DE mg E t m n){G H:Hp}{σ:St}{ρ:Rh}{Q:VK}{P:R β->Prop}{f:Dt->R β}(hE:Err mg E G H P)(s:Same G H)(w:View G σ ρ)(p:P (zA2 (m ρ) f))
  (h:∀d v G' H' S,m ρ=okR d->Fr G H G' H' S->Own G' H' n S d v->P (f d)->Q v H'):t σ H Q:=by
 refine D G H σ ρ Q s w ?_;cases e:m ρ with
 |none=>rw[e]at p;exact hE.no p
 |some r=>
  rw[e]at p;cases r with
  |error x=>exact hE.er x p
  |ok d=>exact fun v G' H' S fr o=>h d v G' H' S e fr o p
theorem DT.step{β:Type}{t:TT}{m:TM}(D:DT mg E t m){G H:Hp}{σ:St}{ρ:Rh}{Q:Bool->Hp->Prop}{P:R β->Prop}{f:Bool->R β}(hE:Err mg E G H P)(s:Same G H)(w:View G σ ρ)(p:P (zA2 (m ρ) f))
  (h:∀b H',m ρ=okR b->Same H H'->P (f b)->Q b H'):t σ H Q:=by
 refine D G H σ ρ Q s w ?_;cases e:m ρ with
 |none=>rw[e]at p;exact hE.no p
 |some r=>
  rw[e]at p;cases r with
  |error x=>exact hE.er x p
  |ok b=>exact fun H' sH=>h b H' e sH p
theorem DA.step{β:Type}{t:TA}{m:AM}(D:DA mg E t m n){G H:Hp}{σ:St}{ρ:Rh}{Q:List V->Hp->Prop}{P:R β->Prop}{f:List Dt->R β}(hE:Err mg E G H P)(s:Same G H)(w:View G σ ρ)(p:P (zA2 (m ρ) f))
  (h:∀ds vs G' H' S T,m ρ=okR ds->Fr G H G' H' S->OwnA G' H' n S ds vs T->P (f ds)->Q vs H'):t σ H Q:=by
 refine D G H σ ρ Q s w ?_;cases e:m ρ with
 |none=>rw[e]at p;exact hE.no p
 |some r=>
  rw[e]at p;cases r with
  |error x=>exact hE.er x p
  |ok ds=>exact fun vs G' H' S T fr o=>h ds vs G' H' S T e fr o p
theorem PostE.from{G H G' H':Hp}{Q:VK}{r:R Dt}(p:PostE mg E G H n r Q)(x:Ext G H G' H'):PostE mg E G' H' n r Q:=by
 cases r with
 |none=>exact p
 |some r=>
  cases r with
  |error y=>exact fun c da G2 H2 z w=>p c da G2 H2 (x.trans z) w
  |ok d=>
   exact fun v G2 H2 S fr o=>p v G2 H2 S ⟨x.trans fr.ext,fun a ha=>⟨x.h.free (fr.new a ha).1,(fr.new a ha).2⟩⟩ o
theorem PostT.from{G H G' H':Hp}{Q:Bool->Hp->Prop}{r:R Bool}(p:PostT mg E G H r Q)(x:Ext G H G' H'):PostT mg E G' H' r Q:=by
 cases r with
 |none=>exact p
 |some r=>
  cases r with
  |error y=>exact fun c da G2 H2 z w=>p c da G2 H2 (x.trans z) w
  |ok d=>exact fun H2 s=>p H2 (x.h.trans s)
theorem Fr.from{G H G1 H1 G2 H2:Hp}{S:Addr->Prop}(x:Ext G H G1 H1)(f:Fr G1 H1 G2 H2 S):Fr G H G2 H2 S:=⟨x.trans f.ext,fun a ha=>⟨x.h.free (f.new a ha).1,(f.new a ha).2⟩⟩
theorem PostE.val{G H G' H':Hp}{d:Dt}{v:V}{Q:VK}(p:PostE mg E G H n (okR d) Q)(x:Ext G H G' H')(hd:d.dep=0)(h:Rep G' d v):Q v H':=
 p v G' H' (fun _=>False) ⟨x,fun _ z=>z.elim⟩ (zXB h hd)
theorem PostE.kept{G H G' H':Hp}{d:Dt}{v:V}{Q:VK}(p:PostE mg E G H 0 (okR d) Q)(x:Ext G H G' H')(h:Rep G' d v):Q v H':=
 p v G' H' (fun _=>False) ⟨x,fun _ z=>z.elim⟩ h
theorem zAK{t:TE}{m:EM}{n:Nat}(D:DE mg E t m n):DE mg E t m 0:=by
 intro G H σ ρ Q s w p;refine D G H σ ρ Q s w ?_;cases e:m ρ with
 |none=>rw[e]at p;exact p
 |some r=>
  rw[e]at p;cases r with
  |error x=>exact p
  |ok d=>
   intro v G' H' S fr o;obtain⟨x,r⟩:=fr.frz o;exact PostE.kept p x r
end
end
section
variable[Kc]{mg:Str->Option Value}{E:XK}{n k l:Nat}{ta tb tc:TE}{ma mb mc:EM}
theorem zAI{i:Int}:DE mg E (tC (.int i)) (Mi.eC (.int i)) n:=fun G H σ ρ Q s w p=>PostE.val p (Ext.refl s) rfl rfl
theorem zL1{b:Bool}:DE mg E (tC (.bl b)) (Mi.eC (.bl b)) n:=fun G H σ ρ Q s w p=>PostE.val p (Ext.refl s) rfl rfl
theorem zGP{x:Str}:DE mg E (tC (.str x)) (Mi.eC (.str x)) n:=fun G H σ ρ Q s w p=>PostE.val p (Ext.refl s) rfl rfl
theorem de_v(i:Nat):DE mg E (vM i) (Mi.eV i) 0:=by
 intro G H σ ρ Q s w p;unfold Mi.eV at p;cases e:ρ[i]? with
 |none=>rw[e]at p;exact p.elim
 |some o=>
  rw[e]at p;cases o with
  |none=>exact p.elim
  |some d=>
   obtain⟨v,h1,h2⟩:=w.at i d e;unfold vM;rw[h1];exact PostE.kept p (Ext.refl s) h2
def ROp(r:R2)(f:Dt->Dt->Option Dt)(n:Nat):Prop:=∀(mg:Str->Option Value)(E:XK)(G H:Hp)(d e:Dt)(x y:V)(Q:VK),Same G H->Rep G d x->Rep G e y->PostE mg E G H n (optR (f d e)) Q->r x y H Q
theorem zAG{r:R2}{f:Dt->Dt->Option Dt}(hr:ROp r f n)(A:DE mg E ta ma k)(B:DE mg E tb mb l):DE mg E (tOp r ta tb) (Mi.eB f ma mb) n:=by
 intro G H σ ρ Q s w p;refine(zAK A).step errE s w p fun d v G1 H1 S _ fr o p1=>?_
 refine(zAK B).step (errE.from fr.ext) fr.ext.in' (w.mono fr.ext.g) p1 fun e u G2 H2 S2 _ fr2 o2 p2=>?_
 exact hr mg E G2 H2 d e v u Q fr2.ext.in' (Rep.mono fr2.ext.g o) o2 (PostE.from p2 (fr.ext.trans fr2.ext))
def ROp1(r:V->Hp->VK->Prop)(f:Dt->Option Dt)(n:Nat):Prop:=∀(mg:Str->Option Value)(E:XK)(G H:Hp)(d:Dt)(x:V)(Q:VK),Same G H->Rep G d x->PostE mg E G H n (optR (f d)) Q->r x H Q
theorem zYK{r:V->Hp->VK->Prop}{f:Dt->Option Dt}(hr:ROp1 r f n)(A:DE mg E ta ma k):DE mg E (tUn r ta) (Mi.eU f ma) n:=by
 intro G H σ ρ Q s w p;refine(zAK A).step errE s w p fun d v G1 H1 S _ fr o p1=>?_
 exact hr mg E G1 H1 d v Q fr.ext.in' o (PostE.from p1 fr.ext)
theorem zYP(A:DE mg E ta ma k)(B:DE mg E tb mb n):DE mg E (fun σ H Q=>ta σ H fun x H1=>match x with | .bl c=>if c=true then tb σ H1 Q else Q (.bl false) H1|_=>False) (Mi.eAnd ma mb) n:=by
 intro G H σ ρ Q s w p;refine(zAK A).step errE s w p fun d v G1 H1 S _ fr o p1=>?_
 cases d with
 |bl b=>
  cases(show v=.bl b from o)
  cases b with
  |true=>exact B G1 H1 σ ρ Q fr.ext.in' (w.mono fr.ext.g) (PostE.from p1 fr.ext)
  |false=>exact PostE.val (PostE.from p1 fr.ext) (Ext.refl fr.ext.in') rfl rfl
 |_=>exact p1.elim
theorem zaB(A:DE mg E ta ma k)(B:DE mg E tb mb n):DE mg E (fun σ H Q=>ta σ H fun x H1=>match x with | .bl c=>if c=true then Q (.bl true) H1 else tb σ H1 Q|_=>False) (Mi.eOr ma mb) n:=by
 intro G H σ ρ Q s w p;refine(zAK A).step errE s w p fun d v G1 H1 S _ fr o p1=>?_
 cases d with
 |bl b=>
  cases(show v=.bl b from o)
  cases b with
  |false=>exact B G1 H1 σ ρ Q fr.ext.in' (w.mono fr.ext.g) (PostE.from p1 fr.ext)
  |true=>exact PostE.val (PostE.from p1 fr.ext) (Ext.refl fr.ext.in') rfl rfl
 |_=>exact p1.elim
theorem zTK(A:DE mg E ta ma k):DE mg E (fun σ H Q=>ta σ H fun x H1=>match x with | .bl c=>Q (.bl (!c)) H1|_=>False) (Mi.eNot ma) n:=by
 intro G H σ ρ Q s w p;refine(zAK A).step errE s w p fun d v G1 H1 S _ fr o p1=>?_
 cases d with
 |bl b=>
  cases(show v=.bl b from o)
  exact PostE.val (PostE.from p1 fr.ext) (Ext.refl fr.ext.in') rfl rfl
 |_=>exact p1.elim
theorem zYO{tA:TT}{c:TM}(C:DT mg E tA c)(A:DE mg E ta ma n)(B:DE mg E tb mb n):DE mg E (tIf tA ta tb) (Mi.eIf c ma mb) n:=by
 intro G H σ ρ Q s w p;refine C.step errE s w p fun b H' _ sH p1=>?_
 have p2:=PostE.from p1 (Ext.same s sH);cases b with
 |true=>exact A G H' σ ρ Q (s.trans sH) w p2
 |false=>exact B G H' σ ρ Q (s.trans sH) w p2
theorem dt_b(A:DE mg E ta ma k):DT mg E (fun σ H Q=>ta σ H fun z H3=>match z with | .bl k=>Q k H3|_=>False) (Mi.tB ma):=by
 intro G H σ ρ Q s w p;refine(zAK A).step errT s w p fun d v G1 H1 S _ fr o p1=>?_
 cases d with
 |bl b=>
  cases(show v=.bl b from o)
  exact p1 H1 fr.ext.h
 |_=>exact p1.elim
theorem dt_m(A:DE mg E ta ma k):DT mg E (bM ta) (Mi.tM ma):=by
 intro G H σ ρ Q s w p;refine(zAK A).step errT s w p fun d v G1 H1 S _ fr o p1=>?_
 cases d with
 |bl b=>cases(show v=.bl b from o);exact p1 H1 fr.ext.h
 |int b=>cases(show v=.int b from o);exact p1 H1 fr.ext.h
 |non=>cases(show v=.non from o);exact p1 H1 fr.ext.h
 |_=>exact p1.elim
variable{tA tB:TT}{cA cB:TM}
theorem zS1(A:DT mg E tA cA)(B:DT mg E tB cB):DT mg E (L2.tOr tA tB) (Mi.tOr cA cB):=by
 intro G H σ ρ Q s w p;refine A.step errT s w p fun b H' _ sH p1=>?_
 cases b with
 |false=>exact B G H' σ ρ Q (s.trans sH) w (PostT.from p1 (Ext.same s sH))
 |true=>exact p1 H' sH
theorem zMB(A:DT mg E tA cA):DT mg E (L2.tNot tA) (Mi.tNo cA):=by
 intro G H σ ρ Q s w p;exact A.step errT s w p fun b H' _ sH p1=>p1 H' sH
theorem zE2:DT mg E L2.tYes Mi.tYes:=fun G H σ ρ Q s w p=>p H (Same.refl _)
variable{t:TA}{m:AM}
theorem zAB:DA mg E tNil Mi.aNil n:=fun G H σ ρ Q s w p=>p [] G H (fun _=>False) (fun _ _=>False) ⟨Ext.refl s,fun _ z=>z.elim⟩ ⟨rfl,fun q d x h=>by simp at h,fun _ _ _ z=>z.elim,fun _ _ z=>z.elim⟩
theorem zA3(A:DE mg E ta ma n)(B:DA mg E t m n):DA mg E (zEA ta t) (Mi.aCons ma m) n:=by
 intro G H σ ρ Q s w p;refine A.step errA s w p fun d v G1 H1 S1 _ fr o p1=>?_
 refine B.step (errA.from fr.ext) fr.ext.in' (w.mono fr.ext.g) p1 fun ds vs G2 H2 S2 T2 _ fr2 o2 p2=>?_
 refine p2 (v::vs) G2 H2 (fun a=>S1 a\/S2 a) (fun q=>match q with|0=>S1|q+1=>T2 q) ⟨fr.ext.trans fr2.ext,fun a ha=>?_⟩ ⟨by simp[o2.len],fun q d' x h1 h2=>?_,fun q r b h1 h2=>?_,fun q b h=>?_⟩
 ·rcases ha with ha|ha
  ·obtain⟨n1,n2,n3⟩:=fr.new a ha;exact⟨n1,(fr2.ext.old a n3).trans n2,fr2.ext.h.some n3⟩
  ·obtain⟨n1,n2,n3⟩:=fr2.new a ha;exact⟨fr.ext.h.free n1,n2,n3⟩
 ·cases q with
  |zero=>simp at h1 h2;subst h1;subst h2;exact o.mono fr2.ext.g fr2.ext.h
  |succ q=>exact o2.own q d' x (by simpa using h1) (by simpa using h2)
 ·have ap:∀r b,S1 b->T2 r b->False:=fun r b h1 h2=>(fr.new b h1).2.2 (fr2.new b (o2.sub r b h2)).1
  cases q with
  |zero=>
   cases r with
   |zero=>rfl
   |succ r=>exact(ap r b h1 h2).elim
  |succ q=>
   cases r with
   |zero=>exact(ap q b h2 h1).elim
   |succ r=>rw[o2.dis q r b h1 h2]
 ·cases q with
  |zero=>exact .inl h
  |succ q=>exact .inr (o2.sub q b h)
theorem OwnA.repL{G H:Hp}{S:Addr->Prop}{ds:List Dt}{vs:List V}{T:Nat->Addr->Prop}(o:OwnA G H 0 S ds vs T):RepL G ds vs:=zDI o.len fun q d x h1 h2=>o.own q d x h1 h2
theorem big'{n:Nat}(h:n<=100000):n<=sizeLine:=qCd (L2.big h)
theorem Fr.add{G H G' H':Hp}{S:Addr->Prop}(f:Fr G H G' H' S){p:Addr}(hp:H' p=none)(o:HO):Fr G H G' (upd H' p o) (fun a=>a=p\/S a):=by
 have sn:=L2.same_new hp o;refine⟨⟨f.ext.g,f.ext.h.trans sn,f.ext.in'.trans sn,f.ext.old⟩,fun a ha=>?_⟩
 rcases ha with rfl|ha
 ·exact⟨f.ext.h.free hp,f.ext.in'.free hp,by rw[zAD];simp⟩
 ·obtain⟨n1,n2,n3⟩:=f.new a ha;exact⟨n1,n2,sn.some n3⟩
theorem OwnA.kids{G' H':Hp}{S:Addr->Prop}{ds:List Dt}{vs:List V}{T:Nat->Addr->Prop}(o:OwnA G' H' n S ds vs T)(hn:∀a,S a->H' a≠none){p:Addr}(hp:H' p=none)(ob:HO) :
  Kids (Own G' (upd H' p ob) n) (fun a=>a=p\/S a) p ds vs T:=
 ⟨o.len,fun q d x h1 h2=>(o.own q d x h1 h2).mono (Same.refl _) (L2.same_new hp ob),.inl rfl,fun q z=>hn p (o.sub q p z) hp,o.dis,fun q b z=>.inr (o.sub q b z)⟩
theorem zGQ(A:DA mg E t m n):DE mg E (tLst t) (Mi.eLst m) (n+1):=by
 intro G H σ ρ Q s w p;refine A.step errE s w p fun ds vs G1 H1 S T _ fr o p1=>?_
 by_cases hz:ds.length<=100000
 ·rw[if_pos hz]at p1;refine⟨by rw[o.len];exact big' hz,fun a ha=>?_⟩;exact p1 (.ref a) G1 _ _ (fr.add ha _) ⟨a,vs,T,rfl,zAD,o.kids (fun b hb=>(fr.new b hb).2.2) ha _⟩
 ·rw[if_neg hz]at p1;exact p1.elim
theorem zER(A:DA mg E t m n):DE mg E (tTup t) (Mi.eTup m) (n+1):=by
 intro G H σ ρ Q s w p;refine A.step errE s w p fun ds vs G1 H1 S T _ fr o p1=>?_
 by_cases hz:ds.length<=100000
 ·rw[if_pos hz]at p1;refine⟨by rw[o.len];exact big' hz,fun a ha=>?_⟩;exact p1 (.ref a) G1 _ _ (fr.add ha _) ⟨a,vs,T,rfl,zAD,o.kids (fun b hb=>(fr.new b hb).2.2) ha _⟩
 ·rw[if_neg hz]at p1;exact p1.elim
theorem PostE.lst{G H G' H':Hp}{ds:List Dt}{xs:List V}{Q:VK}(p:PostE mg E G H 1 (okR (.lst ds)) Q)(x:Ext G H G' H')(r:RepL G' ds xs){a:Addr}(ha:H' a=none):Q (.ref a) (upd H' a (.lst xs)):=by
 have fr:Fr G H G' H' (fun _=>False):=⟨x,fun _ z=>z.elim⟩
 refine p (.ref a) G' _ _ (fr.add ha (.lst xs)) ⟨a,xs,fun _ _=>False,rfl,zAD,⟨r.length,fun q d y h1 h2=>zBT r h1 h2,.inl rfl,fun _ z=>z,fun _ _ _ z=>z.elim,fun _ _ z=>z.elim⟩⟩
def CBi(r:List V->Hp->VK->Prop)(f:List Dt->Option Dt)(n:Nat):Prop:=∀(mg:Str->Option Value)(E:XK)(G H:Hp)(ds:List Dt)(vs:List V)(Q:VK),Same G H->RepL G ds vs->PostE mg E G H n (optR (f ds)) Q->r vs H Q
theorem zCX{r:List V->Hp->VK->Prop}{f:List Dt->Option Dt}(hr:CBi r f n)(A:DA mg E t m 0):DE mg E (tCB r t) (Mi.eBi f m) n:=by
 intro G H σ ρ Q s w p;refine A.step errE s w p fun ds vs G1 H1 S T _ fr o p1=>?_
 exact hr mg E G1 H1 ds vs Q fr.ext.in' o.repL (PostE.from p1 fr.ext)
def spM(mg:Str->Option Value)(L:Nat)(f:FM):Sp:=fun vs H Q E=>∃G ds,Same (tabK Kc.K) G/\Same G H/\RepL G ds vs/\PostE mg E G H L (f ds) Q
theorem zAS{f:FM}(A:DA mg E t m 0):DE mg E (zK5 (spM mg n f) [] E t) (Mi.eCall f m) n:=by
 intro G H σ ρ Q s w p;refine A.step errE s w p fun ds vs G1 H1 S T _ fr o p1=>?_
 exact⟨G1,ds,w.tab.trans fr.ext.g,fr.ext.in',by rw[qD5];exact o.repL,PostE.from p1 fr.ext⟩
theorem zO9{G H:Hp}{o:Option Dt}{Q:VK}{d:Dt}{v:V}(s:Same G H)(p:PostE mg E G H n (optR o) Q)(e:o=some d)(hd:d.dep=0)(h:Rep G d v):Q v H:=by
 subst e;exact PostE.val p (Ext.refl s) hd h
theorem zBI:ROp zWX Mi.addD 1:=by
 intro mg E G H d e x y Q s h1 h2 p;cases d with
 |int i=>
  cases e with
  |int j=>cases(show x=.int i from h1);cases(show y=.int j from h2);exact zO9 s p rfl rfl rfl
  |_=>exact p.elim
 |str i=>
  cases e with
  |str j=>
   cases(show x=.str i from h1);cases(show y=.str j from h2)
   rw[Mi.addD]at p
   by_cases hz:i.length+j.length<=100000
   ·rw[if_pos hz]at p;exact⟨big' hz,PostE.val p (Ext.refl s) rfl rfl⟩
   ·rw[if_neg hz]at p;exact p.elim
  |_=>exact p.elim
 |lst ds=>
  cases e with
  |lst es=>
   obtain⟨a,xs,rfl,ha,ra⟩:=h1;obtain⟨b,ys,rfl,hb,rb⟩:=h2;rw[Mi.addD]at p
   by_cases hz:ds.length+es.length<=100000
   ·rw[if_pos hz]at p;refine⟨xs,ys,s _ _ ha,s _ _ hb,by rw[ra.length,rb.length];exact big' hz,fun q hq=>?_⟩;refine PostE.lst p (Ext.refl s) (zDI (by simp[ra.length,rb.length]) fun j d' x' e1 e2=>?_) hq
    by_cases hj:j<ds.length
    ·rw[qA6 hj]at e1;rw[qA6 (by rw[ra.length];exact hj)]at e2;exact zBT ra e1 e2
    ·rw[qA7 (by lia)]at e1;rw[qA7 (by rw[ra.length];lia),ra.length]at e2;exact zBT rb e1 e2
   ·rw[if_neg hz]at p;exact p.elim
  |_=>exact p.elim
 |_=>exact p.elim
theorem zSL:ROp zWN Mi.subD n:=by
 intro mg E G H d e x y Q s h1 h2 p;cases d with
 |int i=>
  cases e with
  |int j=>cases(show x=.int i from h1);cases(show y=.int j from h2);exact zO9 s p rfl rfl rfl
  |_=>exact p.elim
 |_=>exact p.elim
theorem zDB:ROp zWS Mi.mulD n:=by
 intro mg E G H d e x y Q s h1 h2 p;cases d with
 |int i=>
  cases e with
  |int j=>
   cases(show x=.int i from h1);cases(show y=.int j from h2)
   rw[Mi.mulD]at p
   split at p
   ·rename_i hz;exact⟨hz,PostE.val p (Ext.refl s) rfl rfl⟩
   ·exact p.elim
  |_=>exact p.elim
 |_=>exact p.elim
theorem zIM:ROp zWV Mi.divD n:=by
 intro mg E G H d e x y Q s h1 h2 p;cases d with
 |int i=>
  cases e with
  |int j=>
   cases(show x=.int i from h1);cases(show y=.int j from h2)
   rw[Mi.divD]at p
   split at p
   ·rename_i hz;exact⟨hz,PostE.val p (Ext.refl s) rfl rfl⟩
   ·exact p.elim
  |_=>exact p.elim
 |_=>exact p.elim
theorem zCL:ROp zWT Mi.modD n:=by
 intro mg E G H d e x y Q s h1 h2 p;cases d with
 |int i=>
  cases e with
  |int j=>
   cases(show x=.int i from h1);cases(show y=.int j from h2)
   rw[Mi.modD]at p
   split at p
   ·rename_i hz;exact⟨hz,PostE.val p (Ext.refl s) rfl rfl⟩
   ·exact p.elim
  |_=>exact p.elim
 |_=>exact p.elim
theorem zSM:ROp1 zWR Mi.negD n:=by
 intro mg E G H d x Q s h1 p;cases d with
 |int i=>cases(show x=.int i from h1);exact zO9 s p rfl rfl rfl
 |_=>exact p.elim
theorem zO8{q:Int->Int->Bool}:ROp (zU5 q) (Mi.cmpD q) n:=by
 intro mg E G H d e x y Q s h1 h2 p;cases d with
 |int i=>
  cases e with
  |int j=>cases(show x=.int i from h1);cases(show y=.int j from h2);exact zO9 s p rfl rfl rfl
  |_=>exact p.elim
 |_=>exact p.elim
theorem zTB{G H:Hp}{d e:Dt}{x y:V}{Q:VK}{ng:Bool}(s:Same G H)(h1:Rep G d x)(h2:Rep G e y)(hd:d.dep<=40)(he:e.dep<=40)(q:Q (.bl (if ng then !Dt.eq d e else Dt.eq d e)) H) :
  ∃d' e',L2.Rep H d' x/\L2.Rep H e' y/\d'.dep<=40/\Q (.bl (if ng then !L2.Dat.eq d' e' else L2.Dat.eq d' e')) H:=
 ⟨conv d,conv e,zD2 hd (Rep.mono s h1),zD2 he (Rep.mono s h2),qAl (zE3 hd) hd,by rw[zL3 hd he];exact q⟩
theorem zEJ{α:Type}[DecidableEq α](a b:α):(a==b)=decide (a=b):=by
 by_cases h:a=b
 ·subst h;simp
 ·simp[h]
theorem zH8{G:Hp}{d:Dt}{i:Int}(h:Rep G d (.int i)):d=.int i:=by
 cases d with
 |int k=>cases h;rfl
 |non=>cases h
 |bl _=>cases h
 |str _=>cases h
 |lst _=>obtain⟨_,_,z,_⟩:=h;cases z
 |tup _=>obtain⟨_,_,z,_⟩:=h;cases z
 |scr _=>obtain⟨_,z,_⟩:=h;cases z
 |exc _ _ _=>obtain⟨_,_,_,z,_⟩:=h;cases z
 |fn _ _=>obtain⟨_,z,_⟩:=h;cases z
 |dtt _ _=>obtain⟨_,_,_,_,z,_⟩:=h;cases z
 |loc _ _=>obtain⟨z,_⟩:=h;cases z
 |ins _ _=>obtain⟨_,_,_,z,_⟩:=h;cases z
 |dct _=>obtain⟨_,z,_⟩:=h;cases z
theorem zH7{G:Hp}{d:Dt}{i:Str}(h:Rep G d (.str i)):d=.str i:=by
 cases d with
 |str k=>cases h;rfl
 |non=>cases h
 |bl _=>cases h
 |int _=>cases h
 |lst _=>obtain⟨_,_,z,_⟩:=h;cases z
 |tup _=>obtain⟨_,_,z,_⟩:=h;cases z
 |scr _=>obtain⟨_,z,_⟩:=h;cases z
 |exc _ _ _=>obtain⟨_,_,_,z,_⟩:=h;cases z
 |fn _ _=>obtain⟨_,z,_⟩:=h;cases z
 |dtt _ _=>obtain⟨_,_,_,_,z,_⟩:=h;cases z
 |loc _ _=>obtain⟨z,_⟩:=h;cases z
 |ins _ _=>obtain⟨_,_,_,z,_⟩:=h;cases z
 |dct _=>obtain⟨_,z,_⟩:=h;cases z
theorem zLM{G:Hp}{d:Dt}{i:Bool}(h:Rep G d (.bl i)):d=.bl i:=by
 cases d with
 |bl k=>cases h;rfl
 |non=>cases h
 |str _=>cases h
 |int _=>cases h
 |lst _=>obtain⟨_,_,z,_⟩:=h;cases z
 |tup _=>obtain⟨_,_,z,_⟩:=h;cases z
 |scr _=>obtain⟨_,z,_⟩:=h;cases z
 |exc _ _ _=>obtain⟨_,_,_,z,_⟩:=h;cases z
 |fn _ _=>obtain⟨_,z,_⟩:=h;cases z
 |dtt _ _=>obtain⟨_,_,_,_,z,_⟩:=h;cases z
 |loc _ _=>obtain⟨z,_⟩:=h;cases z
 |ins _ _=>obtain⟨_,_,_,z,_⟩:=h;cases z
 |dct _=>obtain⟨_,z,_⟩:=h;cases z
theorem zO7:ROp rEqU Mi.eqD n:=by
 intro mg E G H d e x y Q s h1 h2 p;unfold Mi.eqD at p
 split at p
 ·rename_i hz
  have q:Q (.bl (Dt.eq d e)) H:=PostE.val p (Ext.refl s) rfl rfl;have g:=zTB (ng:=false) (Q:=Q) s h1 h2 hz.1 hz.2 q;unfold rEqU
  split
  ·rw[zH8 h1,zH8 h2,Dt.eq,zEJ]at q;exact q
  ·rw[zH7 h1,zH7 h2,Dt.eq,zEJ]at q;exact q
  ·rw[zLM h1,zLM h2,Dt.eq,zEJ]at q;exact q
  ·exact g
 ·exact p.elim
theorem zN0:ROp rNeU Mi.neD n:=by
 intro mg E G H d e x y Q s h1 h2 p;unfold Mi.neD at p
 split at p
 ·rename_i hz
  have q:Q (.bl (!Dt.eq d e)) H:=PostE.val p (Ext.refl s) rfl rfl;have g:=zTB (ng:=true) (Q:=Q) s h1 h2 hz.1 hz.2 q;unfold rNeU
  split
  ·rw[zH8 h1,zH8 h2,Dt.eq,zEJ]at q;exact q
  ·rw[zH7 h1,zH7 h2,Dt.eq,zEJ]at q;exact q
  ·rw[zLM h1,zLM h2,Dt.eq,zEJ]at q;exact q
  ·exact g
 ·exact p.elim
theorem zT0(n:Nat)(i:Int):Mi.ixA n i=ixN n i:=rfl
theorem zT4{α:Type}(xs:List α)(i:Int):Mi.itA xs i=atI xs i:=rfl
theorem zTM{G:Hp}{ds:List Dt}{xs:List V}{i:Int}{d:Dt}(r:RepL G ds xs)(h:Mi.itA ds i=some d):∃x,atI xs i=some x/\Rep G d x:=by
 rw[zT4]at h;unfold atI at h ⊢;rw[r.length];cases e:ixN ds.length i with
 |none=>rw[e]at h;cases h
 |some j=>
  rw[e]at h;have h':ds[j]?=some d:=h;have hj:j<xs.length:=by rw[r.length];exact(qA3.mp h').1
  exact⟨xs[j],by simp[hj],zBT r h' (by simp[hj])⟩
theorem zD6:ROp (rIxU Kc.K) Mi.ixD 0:=by
 intro mg E G H d e x y Q s h1 h2 p;cases e with
 |int i=>
  cases(show y=.int i from h2)
  cases d with
  |lst ds=>
   obtain⟨a,xs,rfl,ha,ra⟩:=h1;cases er:Mi.itA ds i with
   |none=>rw[Mi.ixD,er]at p;exact p.elim
   |some c=>
    rw[Mi.ixD,er]at p;obtain⟨v,e1,r1⟩:=zTM ra er;exact⟨xs,v,.inl (SqL.of (s _ _ ha)),e1,PostE.kept p (Ext.refl s) r1⟩
  |tup ds=>
   obtain⟨a,xs,rfl,ha,ra⟩:=h1;cases er:Mi.itA ds i with
   |none=>rw[Mi.ixD,er]at p;exact p.elim
   |some c=>
    rw[Mi.ixD,er]at p;obtain⟨v,e1,r1⟩:=zTM ra er;exact⟨xs,v,.inr (SqT.of (s _ _ ha)),e1,PostE.kept p (Ext.refl s) r1⟩
  |scr ns=>
   obtain⟨a,rfl,ha⟩:=h1;cases er:Mi.itA ns i with
   |none=>rw[Mi.ixD,er]at p;exact p.elim
   |some c=>
    rw[Mi.ixD,er]at p;refine⟨ns.map V.int,.int c,(zDU s ha).old,?_,PostE.kept p (Ext.refl s) rfl⟩;rw[zT4]at er;unfold atI at er ⊢;rw[qAi];cases e:ixN ns.length i with
    |none=>rw[e]at er;cases er
    |some j=>
     rw[e]at er;have er':ns[j]?=some c:=er
     show(ns.map V.int)[j]?=some (.int c)
     rw[qAh,er'];rfl
  |str z=>
   cases(show x=.str z from h1)
   rw[Mi.ixD]at p
   by_cases hz:z.length<=100000
   ·rw[if_pos hz]at p;cases er:Mi.itA z.cps.toList i with
    |none=>rw[er]at p;exact p.elim
    |some c=>rw[er]at p;exact⟨c,big' hz,er,PostE.kept p (Ext.refl s) rfl⟩
   ·rw[if_neg hz]at p;exact p.elim
  |_=>exact p.elim
 |_=>cases d<;>exact p.elim
theorem zCM{G:Hp}{d:Dt}{vs:List V}(h:RepL G [d] vs):∃x,vs=[x]/\Rep G d x:=by
 obtain⟨x,q,rfl,a,b⟩:=h
 cases(show q=[] from b)
 exact⟨x,rfl,a⟩
theorem zZJ{G:Hp}{d e:Dt}{vs:List V}(h:RepL G [d,e] vs):∃x y,vs=[x,y]/\Rep G d x/\Rep G e y:=by
 obtain⟨x,q,rfl,a,b⟩:=h;obtain⟨y,rfl,c⟩:=zCM b;exact⟨x,y,rfl,a,c⟩
theorem zCE:CBi (zU3 Kc.K) Mi.lenD n:=by
 intro mg E G H ds vs Q s h p;cases ds with
 |nil=>exact p.elim
 |cons a0 r0=>
  cases r0 with
  |cons _ _=>cases a0<;>exact p.elim
  |nil=>
   cases a0 with
   |lst es=>
    obtain⟨x,rfl,a,xs,rfl,ha,ra⟩:=zCM h;exact⟨xs,.inl (SqL.of (s _ _ ha)),by rw[ra.length];exact PostE.val p (Ext.refl s) rfl rfl⟩
   |tup es=>
    obtain⟨x,rfl,a,xs,rfl,ha,ra⟩:=zCM h;exact⟨xs,.inr (SqT.of (s _ _ ha)),by rw[ra.length];exact PostE.val p (Ext.refl s) rfl rfl⟩
   |scr ns=>
    obtain⟨x,rfl,a,rfl,ha⟩:=zCM h;refine⟨ns.map V.int,(zDU s ha).old,?_⟩;rw[qAi];exact PostE.val p (Ext.refl s) rfl rfl
   |str z=>
    obtain⟨x,rfl,hx⟩:=zCM h
    cases(show x=.str z from hx)
    rw[Mi.lenD]at p
    by_cases hz:z.length<=100000
    ·rw[if_pos hz]at p;exact⟨big' hz,PostE.val p (Ext.refl s) rfl rfl⟩
    ·rw[if_neg hz]at p;exact p.elim
   |_=>exact p.elim
theorem zC9{G:Hp}:∀(ns:List Int),RepL G (ns.map Dt.int) (ns.map V.int)
 |[]=>rfl
 |_::r=>⟨_,_,rfl,rfl,zC9 r⟩
theorem zVJ:CBi (zLO Kc.K) Mi.listD 1:=by
 intro mg E G H ds vs Q s h p;cases ds with
 |nil=>exact p.elim
 |cons a0 r0=>
  cases r0 with
  |cons _ _=>cases a0<;>exact p.elim
  |nil=>
   cases a0 with
   |lst es=>
    obtain⟨x,rfl,a,xs,rfl,ha,ra⟩:=zCM h;exact .inl ⟨xs,.inl (SqL.of (s _ _ ha)),fun l hl=>PostE.lst p (Ext.refl s) ra hl⟩
   |tup es=>
    obtain⟨x,rfl,a,xs,rfl,ha,ra⟩:=zCM h;exact .inl ⟨xs,.inr (SqT.of (s _ _ ha)),fun l hl=>PostE.lst p (Ext.refl s) ra hl⟩
   |scr ns=>
    obtain⟨x,rfl,a,rfl,ha⟩:=zCM h;exact .inl ⟨ns.map V.int,(zDU s ha).old,fun l hl=>PostE.lst p (Ext.refl s) (zC9 ns) hl⟩
   |_=>exact p.elim
theorem zZD{G H:Hp}{d:Dt}{x:V}(s:Same G H)(h:Rep G d x)(hd:Mi.tyD d≠""):zF3 H x=some (Mi.tyD d):=by
 cases d with
 |non=>cases h;rfl
 |bl _=>cases h;rfl
 |int _=>cases h;rfl
 |str _=>cases h;rfl
 |lst _=>obtain⟨a,xs,rfl,ha,_⟩:=h;unfold zF3;dsimp only;rw[s _ _ ha];rfl
 |tup _=>obtain⟨a,xs,rfl,ha,_⟩:=h;unfold zF3;dsimp only;rw[s _ _ ha];rfl
 |scr _=>exact absurd rfl hd
 |exc _ _ _=>exact absurd rfl hd
 |fn _ _=>exact absurd rfl hd
 |dtt _ _=>exact absurd rfl hd
 |loc _ _=>exact absurd rfl hd
 |ins _ _=>exact absurd rfl hd
 |dct _=>exact absurd rfl hd
theorem zQ2{nm:String}(hn:nm∈["int","bool","str","list","tuple","dict"])(A:DE mg E ta ma k):DE mg E (tCB zWU (zEA ta (zEA (tC (.ty nm)) tNil))) (Mi.eIsi nm ma) n:=by
 intro G H σ ρ Q s w p;refine(zAK A).step errE s w p fun d v G1 H1 S _ fr o p1=>?_
 have p2:=PostE.from p1 fr.ext;unfold Mi.isiD at p2
 split at p2
 ·exact p2.elim
 ·rename_i hd
  exact⟨Mi.tyD d,zZD fr.ext.in' o hd,hn,PostE.val p2 (Ext.refl fr.ext.in') rfl rfl⟩
theorem zJO{G:Hp}:∀{ds:List Dt}{bs:List Bool}{xs:List V},Mi.boolsD ds=some bs->RepL G ds xs->xs=bs.map V.bl
 |[],bs,xs,h,r=>by cases h;exact r
 |.bl b::ds,bs,xs,h,r=>by
  obtain⟨x,q,rfl,a,c⟩:=r;rw[Mi.boolsD]at h;cases e:Mi.boolsD ds with
  |none=>rw[e]at h;cases h
  |some cs=>
   rw[e]at h;cases h;rw[zJO e c,show x=.bl b from a];rfl
 |.non::_,_,_,h,_=>by simp[Mi.boolsD]at h
 |.int _::_,_,_,h,_=>by simp[Mi.boolsD]at h
 |.str _::_,_,_,h,_=>by simp[Mi.boolsD]at h
 |.lst _::_,_,_,h,_=>by simp[Mi.boolsD]at h
 |.tup _::_,_,_,h,_=>by simp[Mi.boolsD]at h
 |.scr _::_,_,_,h,_=>by simp[Mi.boolsD]at h
 |.exc _ _ _::_,_,_,h,_=>by simp[Mi.boolsD]at h
 |.fn _ _::_,_,_,h,_=>by simp[Mi.boolsD]at h
 |.dtt _ _::_,_,_,h,_=>by simp[Mi.boolsD]at h
 |.loc _ _::_,_,_,h,_=>by simp[Mi.boolsD]at h
 |.ins _ _::_,_,_,h,_=>by simp[Mi.boolsD]at h
 |.dct _::_,_,_,h,_=>by simp[Mi.boolsD]at h
theorem zYV:CBi zWW Mi.allD n:=by
 intro mg E G H ds vs Q s h p;cases ds with
 |nil=>exact qA5 p
 |cons hd1 tl1=>
  cases hd1 with
  |lst es=>
   cases tl1 with
   |nil=>
    obtain⟨x,rfl,a,xs,rfl,ha,ra⟩:=zCM h;rw[Mi.allD]at p;cases e:Mi.boolsD es with
    |none=>rw[e]at p;exact p.elim
    |some bs=>
     rw[e]at p;exact⟨bs,by rw[<- zJO e ra];exact s _ _ ha,PostE.val p (Ext.refl s) rfl rfl⟩
   |cons _ _=>exact qA5 p
  |_=>exact qA5 p
end
section
variable[Kc]
def ItOk(J:It)(G:Hp)(ds:List Dt):Prop:=∀(i:Nat)(G1 H1:Hp),Same G G1->Same G1 H1->(i<ds.length->J.go i H1)/\(ds.length<=i->J.stop i H1)/\∀x H2 d,ds[i]?=some d->J.yld i H1 x H2->∃G2,Ext G1 H1 G2 H2/\Rep G2 d x
noncomputable def zQG(ind:Bool)(G:Hp):Hp:=if ind=true then(fun _=>none)else G
def zYX(mg:Str->Option Value)(E:XK)(G H:Hp)(ind:Bool)(r:R (List Dt))(Q:It->Hp->Prop):Prop:=match r with
 |none=>False
 |some (.error x)=>∀c da G' H',Ext G H G' H'->XRep mg x c da G' H'->E c da H'
 |some (.ok ds)=>∀J G' H',Ext G H G' H'->ItOk J (zQG ind G') ds->Q J H'
def DI(mg:Str->Option Value)(E:XK)(t:TI)(m:IM)(ind:Bool):Prop:=∀(G H:Hp)(σ:St)(ρ:Rh)(Q:It->Hp->Prop),Same G H->View G σ ρ->zYX mg E G H ind (m ρ) Q->t σ H Q
section
variable{mg:Str->Option Value}{E:XK}{n k l:Nat}{ta te:TE}{ma me:EM}{t:TA}{m:AM}{ind:Bool}
theorem errI{G H:Hp}{Q:It->Hp->Prop}:Err mg E G H (fun r=>zYX mg E G H ind r Q):=⟨fun h=>h,fun _ h=>h⟩
theorem errB{G H:Hp}{α β:Type}{P:R β->Prop}(e:Err mg E G H P)(g:α->R β):Err mg E G H (fun r=>P (zA2 r g)):=⟨fun h=>e.no h,fun x h=>e.er x h⟩
theorem DI.step{β:Type}{t:TI}{m:IM}(D:DI mg E t m ind){G H:Hp}{σ:St}{ρ:Rh}{Q:It->Hp->Prop}{P:R β->Prop}{f:List Dt->R β}(hE:Err mg E G H P)(s:Same G H)(w:View G σ ρ)(p:P (zA2 (m ρ) f))
  (h:∀ds J G' H',m ρ=okR ds->Ext G H G' H'->ItOk J (zQG ind G') ds->P (f ds)->Q J H'):t σ H Q:=by
 refine D G H σ ρ Q s w ?_;cases e:m ρ with
 |none=>rw[e]at p;exact hE.no p
 |some r=>
  rw[e]at p;cases r with
  |error x=>exact hE.er x p
  |ok ds=>exact fun J G' H' x i=>h ds J G' H' e x i p
theorem zT2{K:qA1}{G:Hp}{a:Addr}{xs:List V}{ds:List Dt}(ha:SqL K G a xs)(r:RepL G ds xs):ItOk (Itl K a) G ds:=by
 intro i G1 H1 s1 s2;have hS:SqL K H1 a xs:=(s1.trans s2).seq ha;refine⟨fun hi=>⟨xs,xs[i]'(by rw[r.length];exact hi),hS,by simp⟩,fun hi=>⟨xs,hS,by rw[r.length];exact hi⟩,fun x H2 d hd hy=>?_⟩;obtain⟨rfl,hy⟩:=hy;exact⟨G1,Ext.refl s2,Rep.mono s1 (zBT r hd (hy xs hS))⟩
theorem zT1{K:qA1}{G:Hp}{a:Addr}{xs:List V}{ds:List Dt}(ha:SqT K G a xs)(r:RepL G ds xs):ItOk (Itt K a) G ds:=by
 intro i G1 H1 s1 s2;have hS:SqT K H1 a xs:=zIL (s1.trans s2) ha;refine⟨fun hi=>⟨xs,xs[i]'(by rw[r.length];exact hi),hS,by simp⟩,fun hi=>⟨xs,hS,by rw[r.length];exact hi⟩,fun x H2 d hd hy=>?_⟩;obtain⟨rfl,hy⟩:=hy;exact⟨G1,Ext.refl s2,Rep.mono s1 (zBT r hd (hy xs hS))⟩
theorem zXY{G:Hp}(lo:Int)(k:Nat):ItOk (Itr lo k) G (Mi.nums lo k):=by
 intro i G1 H1 s1 s2;have hl:(Mi.nums lo k).length=k:=by simp[Mi.nums]
 refine⟨fun hi=>by rw[hl]at hi;exact hi,fun hi=>by rw[hl]at hi;exact hi,fun x H2 d hd hy=>?_⟩;obtain⟨rfl,rfl⟩:=hy;refine⟨G1,Ext.refl s2,?_⟩;unfold Mi.nums at hd;rw[qAh]at hd;cases e:(qA9 k)[i]? with
 |none=>rw[e]at hd;cases hd
 |some j=>
  rw[e]at hd;cases hd;have hj:j=i:=by
   obtain⟨h1,h2⟩:=qA3.mp e;rw[qCm]at h2;exact h2.symm
  subst hj;rfl
theorem zL0(A:DA mg E t m 0):DI mg E (zY1 t) (Mi.iR1 m) true:=by
 intro G H σ ρ Q s w p;refine A.step errI s w p fun ds vs G1 H1 S T _ fr o p1=>?_
 have r:=o.repL;cases ds with
 |nil=>exact qA5 p1
 |cons hd1 tl1=>
  cases hd1 with
  |int j=>
   cases tl1 with
   |nil=>
    obtain⟨x,rfl,hx⟩:=zCM r
    cases(show x=.int j from hx)
    dsimp only at p1
    split at p1
    ·rename_i hz
     exact⟨j,rfl,by lia,by lia,p1 _ G1 H1 fr.ext (zXY 0 _)⟩
    ·exact p1.elim
   |cons _ _=>exact qA5 p1
  |_=>exact qA5 p1
theorem zG0:∀(ds:List Dt)(n:Nat),(Mi.enumD n ds).length=ds.length
 |[],_=>rfl
 |_::r,n=>by rw[Mi.enumD,qAu,qAu,zG0 r]
theorem zG1:∀(ds:List Dt)(n i:Nat)(d:Dt),(Mi.enumD n ds)[i]?=some d->∃e,ds[i]?=some e/\d=.tup [.int ((n+i:Nat):Int),e]
 |[],_,_,_,h=>by simp[Mi.enumD]at h
 |x::r,n,0,d,h=>by simp[Mi.enumD]at h;exact⟨x,by simp,by rw[<- h];rfl⟩
 |x::r,n,i+1,d,h=>by
  rw[Mi.enumD]at h;obtain⟨e,h1,h2⟩:=zG1 r (n+1) i d (by simpa using h);exact⟨e,by simpa using h1,by rw[h2,show n+1+i=n+(i+1) by lia]⟩
theorem Ext.new{G H:Hp}(s:Same G H){T:Addr}(hT:H T=none)(o:HO):Ext G H (upd G T o) (upd H T o):=by
 refine⟨L2.same_new (s.free hT) o,L2.same_new hT o,fun b u e=>?_,fun b hb=>zAE fun z=>hb (z▸hT)⟩
 by_cases z:b=T
 ·subst z;rw[zAD]at e ⊢;exact e
 ·rw[zAE z]at e ⊢;exact s _ _ e
theorem zT3{K:qA1}{G:Hp}{a:Addr}{xs:List V}{ds:List Dt}(ha:G a=some (.lst xs))(r:RepL G ds xs):ItOk (Ite K a) G (Mi.enumD 0 ds):=by
 intro i G1 H1 s1 s2;have hS:SqL K H1 a xs:=SqL.of (s2 _ _ (s1 _ _ ha));rw[zG0];refine⟨fun hi=>⟨xs,xs[i]'(by rw[r.length];exact hi),hS,by simp⟩,fun hi=>⟨xs,hS,by rw[r.length];exact hi⟩,fun x H2 d hd hy=>?_⟩;obtain⟨T,y,rfl,hT,rfl,hy⟩:=hy;obtain⟨e,h1,rfl⟩:=zG1 ds 0 i d hd;have x1:=Ext.new s2 hT (.tup [.int i,y]);refine⟨_,x1,T,_,rfl,zAD,_,_,rfl,?_,_,_,rfl,Rep.mono (s1.trans x1.g) (zBT r h1 (hy xs hS)),rfl⟩;show V.int (i:Int)=.int ((0+i:Nat):Int);rw[qBo]
theorem zYJ{K:qA1}(A:DA mg E t m 0):DI mg E (zV4 K t) (Mi.iEn m) false:=by
 intro G H σ ρ Q s w p;refine A.step errI s w p fun ds vs G1 H1 S T _ fr o p1=>?_
 have r:=o.repL;cases ds with
 |nil=>exact qA5 p1
 |cons hd1 tl1=>
  cases hd1 with
  |lst es=>
   cases tl1 with
   |nil=>
    obtain⟨x,rfl,a,xs,rfl,ha,ra⟩:=zCM r;exact⟨⟨xs,SqL.of (fr.ext.in' _ _ ha)⟩,p1 _ G1 H1 fr.ext (zT3 ha ra)⟩
   |cons _ _=>exact qA5 p1
  |_=>exact qA5 p1
noncomputable def zF8:St->List (Nat×V)->St
 |σ,[]=>σ
 |σ,(i,v)::r=>zF8 (σ.set i (some v)) r
inductive BsRep(G:Hp):List (Nat×Dt)->List (Nat×V)->Prop
 |nil:BsRep G [] []
 |cons {i d v bs ws}:Rep G d v->BsRep G bs ws->BsRep G ((i,d)::bs) ((i,v)::ws)
theorem View.set{G:Hp}{σ:St}{ρ:Rh}{i:Nat}{d:Dt}{v:V}(w:View G σ ρ)(r:Rep G d v):View G (σ.set i (some v)) (ρ.set i (some d)):=by
 refine⟨by simp[w.len],fun j e h=>?_,w.tab⟩;have hj:j<ρ.length:=by
  have:=(qA3.mp h).1
  simpa using this
 by_cases z:i=j
 ·subst z;rw[qAm hj]at h;cases h;exact⟨v,qAm (by rw[<- w.len];exact hj),r⟩
 ·rw[qAt z]at h;obtain⟨u,h1,h2⟩:=w.at j e h;exact⟨u,by rw[qAt z];exact h1,h2⟩
theorem View.sets{G:Hp}{bs ws}(h:BsRep G bs ws):∀{σ:St}{ρ:Rh},View G σ ρ->View G (zF8 σ ws) (zAM ρ bs):=by
 induction h with
 |nil=>exact fun w=>w
 |cons r _ ih=>exact fun w=>ih (w.set r)
def TgOk(g:TG)(tg:Tg):Prop:=∀(G H:Hp)(σ:St)(d:Dt)(x:V)(bs:List (Nat×Dt))(Q:St->Hp->Prop),Same G H->Rep G d x->zAN tg d=some bs->(∀ws,BsRep G bs ws->Q (zF8 σ ws) H)->g x σ H Q
def zSB(g:TGs)(is:List Nat):Prop:=∀(G H:Hp)(σ:St)(ds:List Dt)(xs:List V)(Q:St->Hp->Prop),RepL G ds xs->ds.length=is.length->(∀ws,BsRep G (is.zip ds) ws->Q (zF8 σ ws) H)->g xs σ H Q
theorem zBL(i:Nat):TgOk (zGB i) (.one i):=by
 intro G H σ d x bs Q s r e h;cases e;exact h [(i,x)] (.cons r .nil)
theorem zH1:zSB gNil []:=by
 intro G H σ ds xs Q r hl h;cases ds with
 |nil=>cases(show xs=[] from r);exact⟨rfl,h [] .nil⟩
 |cons _ _=>simp at hl
theorem zBY(i:Nat){g:TGs}{is:List Nat}(hg:zSB g is):zSB (zY4 (zGB i) g) (i::is):=by
 intro G H σ ds xs Q r hl h;cases ds with
 |nil=>simp at hl
 |cons d ds=>
  obtain⟨x,q,rfl,a,b⟩:=r;exact⟨x,q,rfl,hg G H _ ds q Q b (by simpa using hl) fun ws hw=>h ((i,x)::ws) (.cons a hw)⟩
theorem zLD{K:qA1}{g:TGs}{is:List Nat}{k:Nat}(hg:zSB g is)(hk:is.length=k):TgOk (gTup K k g) (.tup is):=by
 intro G H σ d x bs Q s r e h;cases d with
 |tup ds=>
  obtain⟨a,xs,rfl,ha,ra⟩:=r;rw[zAN]at e
  by_cases hz:ds.length=is.length
  ·rw[if_pos hz]at e;cases e;exact⟨a,xs,rfl,SqT.of (s _ _ ha),by rw[ra.length,hz,hk],hg G H σ ds xs Q ra hz h⟩
  ·rw[if_neg hz]at e;cases e
 |_=>simp[zAN]at e
theorem zIJ:∀(ws:List (Nat×V))(σ own:St),(∀p∈ws,σ.length<=p.1)->∃own':St,own'.length=own.length/\zF8 (σ++own) ws=σ++own'
 |[],σ,own,_=>⟨own,rfl,rfl⟩
 |(i,v)::r,σ,own,h=>by
  have hi:σ.length<=i:=h (i,v) (by simp);rw[zF8,List.set_append_right _ _ hi];obtain⟨o,h1,h2⟩:=zIJ r σ (own.set (i-σ.length) (some v)) fun p hp=>h p (by simp[hp])
  exact⟨o,by rw[h1,qDy],h2⟩
theorem BsRep.idx{G:Hp}{bs ws}(h:BsRep G bs ws):ws.map (·.1)=bs.map (·.1):=by
 induction h with
 |nil=>rfl
 |cons _ _ ih=>simp[ih]
theorem zQF{tg:Tg}{d:Dt}{bs:List (Nat×Dt)}(h:zAN tg d=some bs):∀i∈bs.map (·.1),i∈tg.idx:=by
 cases tg with
 |one i=>cases h;simp[Tg.idx]
 |tup is=>
  cases d with
  |tup ds=>
   rw[zAN]at h
   split at h
   ·cases h;intro i hi;obtain⟨p,hp,e⟩:=qAe.mp hi;rw[<- e];obtain⟨a,b⟩:=p;exact(qD6 hp).1
   ·cases h
  |_=>simp[zAN]at h
theorem zC7{wi:TI}{g:TG}{tif:TT}{it:IM}{tg:Tg}{c:TM}(I:DI mg E wi it ind)(hT:TgOk g tg)(C:DT mg E tif c)(B:DE mg E te me n):DE mg E (zTV wi k g tif te) (Mi.eComp it k tg c me) (n+1):=by
 intro G H σ ρ Q s w p;refine I.step errE s w p fun ds J G1 H1 _ x1 io p1=>?_
 by_cases hz:ds.length<=100000/\(tg.idx.all fun i=>decide (ρ.length<=i))=true
 case neg=>rw[if_neg hz]at p1;exact p1.elim
 rw[if_pos hz]at p1;obtain⟨hz,hix⟩:=hz;have hb1:Same (zQG ind G1) G1:=by
  unfold zQG
  split
  ·exact fun b o e=>by cases e
  ·exact Same.refl _
 refine⟨fun i m acc H'=>m=ds.length-i/\i<=ds.length/\∃G' as S T,Fr G H G' H' S/\Same G1 G'/\OwnA G' H' n S as acc T/\as.length<=i/\PostE mg E G H (n+1) (zA2 (Mi.compGo ρ k tg c me (ds.drop i) as) fun es=>okR (.lst es)) Q,
  ⟨_,rfl,qAy _,G1,[],fun _=>False,fun _ _=>False,⟨x1,fun _ z=>z.elim⟩,Same.refl _,⟨rfl,fun q d x h=>by simp at h,fun _ _ _ z=>z.elim,fun _ _ z=>z.elim⟩,qA8 _,by rw[qDk];exact p1⟩,?_⟩
 rintro i m acc H' ⟨rfl,hi,G',as,S,T,fr,sg,o,hl,p⟩
 obtain⟨j1,j2,j3⟩:=io i G' H' (hb1.trans sg) fr.ext.in'
 by_cases hlt:i<ds.length
 ·refine .inr ⟨j1 hlt,by rw[o.len];exact L2.big (by lia),fun acc' H''=>ds.length-(i+1)=ds.length-(i+1)/\i+1<=ds.length/\∃G' as S T,Fr G H G' H'' S/\Same G1 G'/\OwnA G' H'' n S as acc' T/\as.length<=i+1/\PostE mg E G H (n+1) (zA2 (Mi.compGo ρ k tg c me (ds.drop (i+1)) as) fun es=>okR (.lst es)) Q,
   fun acc' H'' q=>⟨ds.length-(i+1),by lia,q⟩,fun x H2 hy=>?_⟩
  have hd:ds[i]?=some ds[i]:=qA2 hlt;obtain⟨G2,x2,r2⟩:=j3 x H2 ds[i] hd hy;rw[qB2 hlt,Mi.compGo]at p;cases eb:zAN tg ds[i]with
  |none=>rw[eb]at p;exact p.elim
  |some bs=>
   rw[eb]at p;dsimp only at p;refine hT G2 H2 _ _ x bs _ x2.in' r2 eb fun ws hb=>?_
   have hsl:∀q∈ws,σ.length<=q.1:=fun q hq=>by
    have h1:q.1∈bs.map (·.1):=by rw[<- hb.idx];exact List.mem_map_of_mem hq
    have h2:=qDp.mp hix q.1 (zQF eb q.1 h1);rw[<- w.len];exact of_decide_eq_true h2
   obtain⟨own,ho1,ho2⟩:=zIJ ws σ (qAa k none) hsl;refine⟨own,by rw[ho1,qC8],ho2,?_⟩;have x02:=fr.ext.trans x2;have w2:View G2 (zF8 (σ++qAa k none) ws) (zAM (ρ++qAa k none) bs):=by
    refine View.sets hb ⟨by simp[w.len],fun j d h=>?_,w.tab.trans x02.g⟩
    by_cases hj:j<ρ.length
    ·rw[qA6 hj]at h;obtain⟨v,a,b⟩:=w.at j d h;exact⟨v,by rw[qA6 (by rw[<- w.len];exact hj)];exact a,Rep.mono x02.g b⟩
    ·rw[qA7 (by lia),qBw]at h
     split at h<;>cases h
   refine C.step ((errB errE _).from x02) x2.in' w2 p fun b H3 _ s3 p3=>?_
   have x3:Ext G2 H2 G2 H3:=Ext.same x2.in' s3;have x03:=x02.trans x3;have newS:∀a,S a->H a=none/\G2 a=none/\H3 a≠none:=fun a ha=>by
    obtain⟨n1,n2,n3⟩:=fr.new a ha;exact⟨n1,(x2.old a n3).trans n2,s3.some (x2.h.some n3)⟩
   have own3:OwnA G2 H3 n S as acc T:=⟨o.len,fun q d y h1 h2=>(o.own q d y h1 h2).mono x2.g (x2.h.trans s3),o.dis,o.sub⟩
   cases b with
   |false=>exact⟨rfl,hlt,G2,as,S,T,⟨x03,newS⟩,sg.trans x2.g,own3,by lia,p3⟩
   |true=>
    refine B.step ((errB errE _).from x03) x3.in' w2 p3 fun e v G4 H4 S4 _ fr4 o4 p4=>?_
    have ap:∀q b,T q b->S4 b->False:=fun q b h1 h2=>(newS b (o.sub q b h1)).2.2 (fr4.new b h2).1
    refine⟨rfl,hlt,G4,as++[e],fun a=>S a\/S4 a,fun q b=>(q<as.length/\T q b)\/(q=as.length/\S4 b),⟨x03.trans fr4.ext,fun a ha=>?_⟩,sg.trans (x2.g.trans fr4.ext.g),⟨by simp[o.len],fun q d y h1 h2=>?_,fun q r b h1 h2=>?_,fun q b h=>?_⟩,by simp;lia,p4⟩
    ·rcases ha with ha|ha
     ·obtain⟨n1,n2,n3⟩:=newS a ha;exact⟨n1,(fr4.ext.old a n3).trans n2,fr4.ext.h.some n3⟩
     ·obtain⟨n1,n2,n3⟩:=fr4.new a ha;exact⟨x03.h.free n1,n2,n3⟩
    ·by_cases hq:q<as.length
     ·rw[qA6 hq]at h1;rw[qA6 (by rw[o.len];exact hq)]at h2;exact((own3.own q d y h1 h2).mono fr4.ext.g fr4.ext.h).sub fun b z=>.inl ⟨hq,z⟩
     ·rw[qA7 (by lia)]at h1;rw[qA7 (by rw[o.len];lia),o.len]at h2;have hq0:q-as.length=0:=by
       have:=(qA3.mp h1).1
       simp at this;lia
      rw[hq0]at h1 h2;simp at h1 h2;subst h1;subst h2;exact o4.sub fun b z=>.inr ⟨by lia,z⟩
    ·rcases h1 with⟨a1,t1⟩|⟨a1,t1⟩<;>rcases h2 with⟨a2,t2⟩|⟨a2,t2⟩
     ·exact o.dis q r b t1 t2
     ·exact(ap q b t1 t2).elim
     ·exact(ap r b t2 t1).elim
     ·lia
    ·rcases h with⟨_,z⟩|⟨_,z⟩
     ·exact .inl (o.sub q b z)
     ·exact .inr z
 ·have e:i=ds.length:=by lia
  subst e;refine .inl ⟨j2 (qA8 _),fun D hD=>?_⟩;rw[qEr,Mi.compGo]at p;exact p (.ref D) G' _ _ (fr.add hD _) ⟨D,acc,T,rfl,zAD,o.kids (fun b hb=>(fr.new b hb).2.2) hD _⟩
end
end
section
variable[Kc]
structure Sat(G0 H0 S0:Hp)(σ:St)(ρ:Ro)(G H:Hp)(As:Nat->Addr->Prop):Prop where
 ext:Ext G0 H0 G H
 stb:Same S0 G
 tab:Same (tabK Kc.K) G0
 len:ρ.length=σ.length
 «at»:∀(i:Nat)(d:Dt)(n:Nat),ρ[i]?=some (some (d,n))->∃v,σ[i]?=some (some v)/\Own G H n (As i) d v
 dis:∀i j a,As i a->As j a->i=j
 new:∀i a,As i a->H0 a=none/\G a=none/\H a≠none
section
variable{G0 H0 S0:Hp}{σ:St}{ρ:Ro}{G H:Hp}{As:Nat->Addr->Prop}
theorem Sat.grow(a:Sat G0 H0 S0 σ ρ G H As){H':Hp}(s:Same H H'):Sat G0 H0 S0 σ ρ G H' As:=
 ⟨a.ext.trans (Ext.same a.ext.in' s),a.stb,a.tab,a.len,fun i d n e=>let⟨v,h1,h2⟩:=a.at i d n e;⟨v,h1,h2.mono (Same.refl _) s⟩,a.dis,fun i b h=>let⟨n1,n2,n3⟩:=a.new i b h;⟨n1,n2,s.some n3⟩⟩
theorem Sat.wider(a:Sat G0 H0 S0 σ ρ G H As){G' H':Hp}(x:Ext G H G' H'):Sat G0 H0 S0 σ ρ G' H' As:=
 ⟨a.ext.trans x,a.stb.trans x.g,a.tab,a.len,fun i d n e=>let⟨v,h1,h2⟩:=a.at i d n e;⟨v,h1,h2.mono x.g x.h⟩,a.dis,fun i b h=>let⟨n1,n2,n3⟩:=a.new i b h;⟨n1,(x.old b n3).trans n2,x.h.some n3⟩⟩
theorem Sat.full(a:Sat G0 H0 S0 σ ρ G H As):∃J,Ext G0 H0 J H/\Same G J/\View J σ (full ρ):=by
 obtain⟨s1,s2⟩:=zCR (S:=fun b=>∃i,As i b) a.ext.in';refine⟨over G H fun b=>∃i,As i b,⟨a.ext.g.trans s1,a.ext.h,s2,fun b hb=>?_⟩,s1,by simp[Mi.full,a.len],fun i d e=>?_,a.tab.trans (a.ext.g.trans s1)⟩
 ·have z:¬ ∃i,As i b:=fun⟨i,z⟩=>hb (a.new i b z).1
  rw[zBH z];exact a.ext.old b hb
 ·unfold Mi.full at e;rw[qAh]at e;cases e1:ρ[i]? with
  |none=>rw[e1]at e;cases e
  |some o=>
   rw[e1]at e;cases o with
   |none=>cases e
   |some sl=>
    obtain⟨d',n⟩:=sl;cases e;obtain⟨v,h1,h2⟩:=a.at i _ n e1;exact⟨v,h1,h2.rep s1 fun b o hb e=>by rw[zDK ⟨i,hb⟩];exact e⟩
theorem Sat.put(a:Sat G0 H0 S0 σ ρ G H As){i n:Nat}{d:Dt}{v:V}{S:Addr->Prop}(o:Own G H n S d v)(hS:∀b,S b->H0 b=none/\G b=none/\H b≠none)(hd:∀j b,j≠i->As j b->S b->False) :
  Sat G0 H0 S0 (σ.set i (some v)) (ρ.set i (some (d,n))) G H (fun j=>if j=i then S else As j):=by
 refine⟨a.ext,a.stb,a.tab,by simp[a.len],fun j e k h=>?_,fun j l b h1 h2=>?_,fun j b h=>?_⟩
 ·have hj:j<ρ.length:=by
   have:=(qA3.mp h).1
   simpa using this
  by_cases z:i=j
  ·subst z;rw[qAm hj]at h;cases h;exact⟨v,qAm (by rw[<- a.len];exact hj),by rw[if_pos rfl];exact o⟩
  ·rw[qAt z]at h;obtain⟨u,h1,h2⟩:=a.at j e k h;exact⟨u,by rw[qAt z];exact h1,by rw[if_neg (fun q=>z q.symm)];exact h2⟩
 ·try dsimp only at h1 h2
  by_cases z1:j=i
  ·by_cases z2:l=i
   ·rw[z1,z2]
   ·rw[if_pos z1]at h1;rw[if_neg z2]at h2;exact(hd l b z2 h2 h1).elim
  ·by_cases z2:l=i
   ·rw[if_neg z1]at h1;rw[if_pos z2]at h2;exact(hd j b z1 h1 h2).elim
   ·rw[if_neg z1]at h1;rw[if_neg z2]at h2;exact a.dis j l b h1 h2
 ·try dsimp only at h
  by_cases z1:j=i
  ·rw[if_pos z1]at h;exact hS b h
  ·rw[if_neg z1]at h;exact a.new j b h
theorem Sat.set(a:Sat G0 H0 S0 σ ρ G H As){H':Hp}{i n:Nat}{d:Dt}{v:V}{S:Addr->Prop}(s:Same H H')(o:Own G H' n S d v)(hS:∀b,S b->H b=none/\G b=none/\H' b≠none) :
  Sat G0 H0 S0 (σ.set i (some v)) (ρ.set i (some (d,n))) G H' (fun j=>if j=i then S else As j):=
 (a.grow s).put o (fun b hb=>⟨a.ext.h.free (hS b hb).1,(hS b hb).2⟩) fun j b _ h1 h2=>(a.new j b h1).2.2 (hS b h2).1
theorem Sat.frz1(a:Sat G0 H0 S0 σ ρ G H As)(i:Nat):∃G1 As1,Sat G0 H0 S0 σ (Mi.frz1 i ρ) G1 H As1:=by
 unfold Mi.frz1;cases e1:ρ[i]? with
 |none=>exact⟨G,As,a⟩
 |some o=>
  cases o with
  |none=>exact⟨G,As,a⟩
  |some sl=>
   obtain⟨d,n⟩:=sl;dsimp only;obtain⟨v,h1,h2⟩:=a.at i d n e1;obtain⟨s1,s2⟩:=zCR (S:=As i) a.ext.in';have x:Ext G0 H0 (over G H (As i)) H:=⟨a.ext.g.trans s1,a.ext.h,s2,fun b hb=>by
    have z:¬As i b:=fun z=>hb (a.new i b z).1
    rw[zBH z];exact a.ext.old b hb⟩
   have hv:(σ.set i (some v))=σ:=by
    have hi:i<σ.length:=(qA3.mp h1).1;have he:=(qA3.mp h1).2;rw[<- he,List.set_getElem_self]
   have b:Sat G0 H0 S0 σ (ρ.set i (some (d,0))) (over G H (As i)) H (fun j b=>j≠i/\As j b):=by
    refine⟨x,a.stb.trans s1,a.tab,by simp[a.len],fun j e k h=>?_,fun j l b p q=>a.dis j l b p.2 q.2,fun j b p=>?_⟩
    ·have hj:j<ρ.length:=by
      have:=(qA3.mp h).1
      simpa using this
     by_cases z:i=j
     ·subst z;rw[qAm hj]at h;cases h;exact⟨v,h1,h2.rep s1 fun b o hb e=>by rw[zDK hb];exact e⟩
     ·rw[qAt z]at h;obtain⟨u,q1,q2⟩:=a.at j e k h;exact⟨u,q1,(q2.mono s1 (Same.refl _)).sub fun b hb=>⟨fun q=>z q.symm,hb⟩⟩
    ·obtain⟨n1,n2,n3⟩:=a.new j b p.2;have z:¬As i b:=fun z=>p.1 (a.dis j i b p.2 z)
     exact⟨n1,by rw[zBH z];exact n2,n3⟩
   exact⟨_,_,b⟩
theorem Sat.frzAt:∀(vs:List Nat){ρ:Ro}{G:Hp}{As:Nat->Addr->Prop},Sat G0 H0 S0 σ ρ G H As->∃G1 As1,Sat G0 H0 S0 σ (Mi.frzAt vs ρ) G1 H As1
 |[],_,_,_,a=>⟨_,_,a⟩
 |i::r,_,_,_,a=>by
  obtain⟨G1,As1,b⟩:=a.frz1 i;exact Sat.frzAt r b
theorem Sat.frz(a:Sat G0 H0 S0 σ ρ G H As):View G σ (Mi.frz ρ):=by
 refine⟨by simp[Mi.frz,a.len],fun i d e=>?_,a.tab.trans a.ext.g⟩;unfold Mi.frz at e;rw[qAh]at e;cases e1:ρ[i]? with
 |none=>rw[e1]at e;cases e
 |some o=>
  rw[e1]at e;cases o with
  |none=>cases e
  |some sl=>
   obtain⟨d',n⟩:=sl;obtain⟨v,h1,h2⟩:=a.at i d' n e1;simp only[qC6,qHz]at e
   split at e
   ·rename_i hz
    cases e
    rcases hz with hz|hz
    ·subst hz;exact⟨v,h1,h2⟩
    ·exact⟨v,h1,Own.scalar (k:=0) (G2:=G) (H2:=H) (S2:=fun _=>False) h2 hz⟩
   ·cases e
theorem Sat.store(a:Sat G0 H0 S0 σ ρ G H As){i n:Nat}{d:Dt}{v:V}{p:Addr}{o:HO}{S:Addr->Prop}(hp:As i p)(hv:σ[i]?=some (some v))(w:Own G (upd H p o) n S d v)
  (hS:∀b,S b->As i b\/(H0 b=none/\G b=none/\H b≠none/\∀j,¬As j b)):Sat G0 H0 S0 σ (ρ.set i (some (d,n))) G (upd H p o) (fun j=>if j=i then S else As j):=by
 obtain⟨p1,p2,p3⟩:=a.new i p hp;have hn:∀b,H b≠none->upd H p o b≠none:=fun b hb=>by
  by_cases z:b=p
  ·subst z;rw[zAD];simp
  ·rw[zAE z];exact hb
 refine⟨⟨a.ext.g,L2.Same.upd a.ext.h p1 o,L2.Same.upd a.ext.in' p2 o,a.ext.old⟩,a.stb,a.tab,by simp[a.len],fun j e k h=>?_,fun j l b h1 h2=>?_,fun j b h=>?_⟩
 ·have hj:j<ρ.length:=by
   have:=(qA3.mp h).1
   simpa using this
  by_cases z:i=j
  ·subst z;rw[qAm hj]at h;cases h;exact⟨v,hv,by rw[if_pos rfl];exact w⟩
  ·rw[qAt z]at h;obtain⟨u,h1,h2⟩:=a.at j e k h;exact⟨u,h1,by rw[if_neg (fun q=>z q.symm)];exact h2.upd fun q=>z (a.dis i j p hp q)⟩
 ·have key:∀j b,j≠i->As j b->S b->False:=fun j b hj h1 h2=>by
   rcases hS b h2 with q|⟨_,_,_,q⟩
   ·exact hj (a.dis j i b h1 q)
   ·exact q j h1
  try dsimp only at h1 h2
  by_cases z1:j=i
  ·by_cases z2:l=i
   ·rw[z1,z2]
   ·rw[if_pos z1]at h1;rw[if_neg z2]at h2;exact(key l b z2 h2 h1).elim
  ·by_cases z2:l=i
   ·rw[if_neg z1]at h1;rw[if_pos z2]at h2;exact(key j b z1 h1 h2).elim
   ·rw[if_neg z1]at h1;rw[if_neg z2]at h2;exact a.dis j l b h1 h2
 ·try dsimp only at h
  by_cases z1:j=i
  ·rw[if_pos z1]at h
   rcases hS b h with q|⟨q1,q2,q3,_⟩
   ·obtain⟨n1,n2,n3⟩:=a.new i b q;exact⟨n1,n2,hn b n3⟩
   ·exact⟨q1,q2,hn b q3⟩
  ·rw[if_neg z1]at h;obtain⟨n1,n2,n3⟩:=a.new j b h;exact⟨n1,n2,hn b n3⟩
end
def zD9(mg:Str->Option Value)(E:XK)(G0 H0 S0:Hp)(L:Nat)(r:R Out)(D:Ends):Prop:=match r with
 |none=>False
 |some (.error x)=>∀c da G' H',Ext G0 H0 G' H'->XRep mg x c da G' H'->E c da H'
 |some (.ok (.nx ρ))=>∀σ G H As,Sat G0 H0 S0 σ ρ G H As->D.nx σ H
 |some (.ok (.bk ρ))=>∀σ G H As,Sat G0 H0 S0 σ ρ G H As->D.bk σ H
 |some (.ok (.ct ρ))=>∀σ G H As,Sat G0 H0 S0 σ ρ G H As->D.ct σ H
 |some (.ok (.rt d))=>∀v G H S,Fr G0 H0 G H S->Own G H L S d v->D.rt v H
def DS(mg:Str->Option Value)(E:XK)(L:Nat)(t:TS)(m:SM):Prop:=∀(G0 H0 S0:Hp)(σ:St)(ρ:Ro)(G H:Hp)(As:Nat->Addr->Prop)(D:Ends),Sat G0 H0 S0 σ ρ G H As->zD9 mg E G0 H0 S0 L (m ρ) D->t D σ H
section
variable{mg:Str->Option Value}{E:XK}{L n k l:Nat}{te ta tb:TE}{e ea eb:EM}{t u:TS}{m m':SM}
theorem errS{G0 H0 S0:Hp}{D:Ends}:Err mg E G0 H0 (fun r=>zD9 mg E G0 H0 S0 L r D):=⟨fun h=>h,fun _ h=>h⟩
theorem zCW:DS mg E L zW7 Mi.sNil:=fun G0 H0 S0 σ ρ G H As D a p=>p σ G H As a
theorem zAC(A:DS mg E L t m)(B:DS mg E L u m'):DS mg E L (tSeq t u) (Mi.sSeq m m'):=by
 intro G0 H0 S0 σ ρ G H As D a p;refine A G0 H0 S0 σ ρ G H As _ a ?_;unfold Mi.sSeq at p;cases e:m ρ with
 |none=>rw[e]at p;exact p
 |some r=>
  rw[e]at p;cases r with
  |error x=>exact p
  |ok o=>
   cases o with
   |nx ρ'=>exact fun σ' G' H' As' a'=>B G0 H0 S0 σ' ρ' G' H' As' D a' p
   |rt d=>exact p
   |bk ρ'=>exact p
   |ct ρ'=>exact p
theorem zG3{tc:TT}{c:TM}(C:DT mg E tc c)(A:DS mg E L t m)(B:DS mg E L u m'):DS mg E L (tIfS tc t u) (Mi.sIf c m m'):=by
 intro G0 H0 S0 σ ρ G H As D a p;obtain⟨J,x,s,w⟩:=a.full;refine C.step (errS.from x) x.in' w p fun b H' _ sH p1=>?_
 cases b with
 |true=>exact A G0 H0 S0 σ ρ G H' As D (a.grow sH) p1
 |false=>exact B G0 H0 S0 σ ρ G H' As D (a.grow sH) p1
theorem whole{G0 H0 S0:Hp}{σ:St}{ρ:Ro}{G H J G1 H1:Hp}{As:Nat->Addr->Prop}{S:Addr->Prop}{d:Dt}{v:V}(a:Sat G0 H0 S0 σ ρ G H As)(s:Same G J)(fr:Fr J H G1 H1 S)(o:Own G1 H1 n S d v)(hn:n<1000)(hd:d.dep<=n)(hk:d.dep<=k) :
  Own G H1 k S d v/\∀b,S b->H b=none/\G b=none/\H1 b≠none:=
 ⟨o.at hd hk hn,fun b hb=>let⟨n1,n2,n3⟩:=fr.new b hb;⟨n1,a.ext.in'.free n1,n3⟩⟩
theorem zAJ{i:Nat}(vs:List Nat)(A:DE mg E te e n)(hn:n<1000:=by decide):DS mg E L (tAsg te (zGB i)) (Mi.sSet i n vs e):=by
 intro G0 H0 S0 σ ρ G H As D a p;obtain⟨J,x,s,w⟩:=a.full;unfold Mi.sSet at p;cases ee:e (full ρ)with
 |none=>rw[ee]at p;exact p.elim
 |some r=>
  cases r with
  |error y=>exact A.step (errS.from x) x.in' w p fun d v G1 H1 S e1 fr o p1=>by rw[ee]at e1;cases e1
  |ok d=>
   by_cases hd:d.dep<=n
   ·refine A.step (errS.from x) x.in' w p fun d' v G1 H1 S e1 fr o p1=>?_
    rw[ee]at e1;cases e1;rw[if_pos hd]at p1;obtain⟨q1,q2⟩:=whole (k:=n) a s fr o hn hd hd;exact p1 _ G H1 _ (a.set fr.ext.h q1 q2)
   ·rw[ee]at p;have p':zD9 mg E G0 H0 S0 L (zA2 (e (frz (frzAt vs ρ))) fun d'=>okR (.nx ((frzAt vs ρ).set i (some (d',n))))) D:=by
     have p2:zD9 mg E G0 H0 S0 L (if d.dep<=n then okR (.nx (ρ.set i (some (d,n))))else zA2 (e (frz (frzAt vs ρ))) fun d'=>okR (.nx ((frzAt vs ρ).set i (some (d',n))))) D:=p;rw[if_neg hd]at p2;exact p2
    obtain⟨G1,As1,a1⟩:=Sat.frzAt vs a;refine A.step (errS.from a1.ext) a1.ext.in' a1.frz p' fun d' v G2 H2 S _ fr o p1=>?_
    exact p1 _ G2 H2 _ ((a1.wider fr.ext).put o (fun b hb=>let⟨n1,n2,n3⟩:=fr.new b hb;⟨a1.ext.h.free n1,n2,n3⟩) fun j b _ h1 h2=>(a1.new j b h1).2.2 (fr.new b h2).1)
theorem zBC(vs:List Nat)(A:DE mg E te e n)(hn:n<1000:=by decide):DS mg E L (tRet te) (Mi.sRet L n vs e):=by
 intro G0 H0 S0 σ ρ G H As D a p;obtain⟨J,x,s,w⟩:=a.full;unfold Mi.sRet at p;cases ee:e (full ρ)with
 |none=>rw[ee]at p;exact p.elim
 |some r=>
  cases r with
  |error y=>exact A.step (errS.from x) x.in' w p fun d v G1 H1 S e1 fr o p1=>by rw[ee]at e1;cases e1
  |ok d=>
   by_cases hd:d.dep<=n/\d.dep<=L
   ·refine A.step (errS.from x) x.in' w p fun d' v G1 H1 S e1 fr o p1=>?_
    rw[ee]at e1;cases e1;rw[if_pos hd]at p1;exact p1 v G1 H1 S (Fr.from x fr) (o.at hd.1 hd.2 hn)
   ·rw[ee]at p;have p2:zD9 mg E G0 H0 S0 L (if d.dep<=n/\d.dep<=L then okR (.rt d)else if n=L then zA2 (e (frz (frzAt vs ρ))) fun d'=>okR (.rt d')else none) D:=p;rw[if_neg hd]at p2
    by_cases hl:n=L
    ·rw[if_pos hl]at p2;subst hl;obtain⟨G1,As1,a1⟩:=Sat.frzAt vs a;refine A.step (errS.from a1.ext) a1.ext.in' a1.frz p2 fun d' v G2 H2 S _ fr o p1=>?_
     exact p1 v G2 H2 S (Fr.from a1.ext fr) o
    ·rw[if_neg hl]at p2;exact p2.elim
theorem zEI(i:Nat):DS mg E L (tRet (vM i)) (Mi.sRetV L i):=by
 intro G0 H0 S0 σ ρ G H As D a p;unfold Mi.sRetV at p;cases e1:ρ[i]? with
 |none=>rw[e1]at p;exact p.elim
 |some o=>
  rw[e1]at p;cases o with
  |none=>exact p.elim
  |some sl=>
   obtain⟨d,k⟩:=sl;obtain⟨v,h1,h2⟩:=a.at i d k e1;show vM i σ H D.rt;unfold vM;rw[h1];dsimp only at p
   split at p
   ·rename_i hz
    rcases hz with hz|hz|hz
    ·subst hz;exact p v G H (As i) ⟨a.ext,fun b hb=>a.new i b hb⟩ h2
    ·subst hz;obtain⟨s1,s2⟩:=zCR (S:=As i) a.ext.in';refine p v (over G H (As i)) H (fun _=>False) ⟨⟨a.ext.g.trans s1,a.ext.h,s2,fun b hb=>?_⟩,fun _ z=>z.elim⟩ (h2.rep s1 fun b o hb e=>by rw[zDK hb];exact e);have z:¬As i b:=fun z=>hb (a.new i b z).1
     rw[zBH z];exact a.ext.old b hb
    ·exact p v G H (As i) ⟨a.ext,fun b hb=>a.new i b hb⟩ (h2.at hz.1 hz.2.1 hz.2.2)
   ·exact p.elim
theorem Sat.puts{G0 H0 S0 G H:Hp}{bs:List (Nat×Dt)}{ws:List (Nat×V)}(h:BsRep G bs ws):∀{σ:St}{ρ:Ro}{As:Nat->Addr->Prop},Sat G0 H0 S0 σ ρ G H As->∃As',Sat G0 H0 S0 (zF8 σ ws) (zAP ρ bs) G H As':=by
 induction h with
 |nil=>exact fun a=>⟨_,a⟩
 |cons r _ ih=>exact fun a=>ih (a.put (n:=0) (S:=fun _=>False) r (fun _ z=>z.elim) fun _ _ _ _ z=>z.elim)
theorem zYA{g:TG}{is:List Nat}(vs:List Nat)(hT:TgOk g (.tup is))(A:DE mg E te e n):DS mg E L (tAsg te g) (Mi.sUnp is vs e):=by
 intro G0 H0 S0 σ ρ G H As D a p;obtain⟨G1,As1,a1⟩:=Sat.frzAt vs a;refine(zAK A).step (errS.from a1.ext) a1.ext.in' a1.frz p fun d v G2 H2 S _ fr o p1=>?_
 cases eb:zAN (.tup is) d with
 |none=>rw[eb]at p1;exact p1.elim
 |some bs=>
  rw[eb]at p1;refine hT G2 H2 σ d v bs _ fr.ext.in' o eb fun ws hw=>?_
  obtain⟨As',a2⟩:=Sat.puts hw (a1.wider fr.ext);exact p1 _ G2 H2 As' a2
theorem zYC(i:Nat)(A:DE mg E te e n)(hn:n<1000:=by decide):DS mg E L (zF4 (tML appM (vM i) (zEA te tNil))) (Mi.sApp i n e):=by
 intro G0 H0 S0 σ ρ G H As D a p;obtain⟨J,x,s,w⟩:=a.full;unfold Mi.sApp at p;cases e1:ρ[i]? with
 |none=>rw[e1]at p;exact p.elim
 |some o=>
  rw[e1]at p
  match o,e1,p with
  |none,_,p=>exact p.elim
  |some (.lst ds,k+1),e1,p=>
   obtain⟨v,h1,q,xs,T,rfl,hq,kd⟩:=a.at i _ _ e1;unfold zF4 tML vM;rw[h1];refine⟨xs,hq,?_⟩;refine A.step (errS.from x) x.in' w p fun d y G1 H1 S _ fr o p1=>?_
   split at p1
   ·rename_i hz
    obtain⟨q1,q2⟩:=whole (k:=k) a s fr o hn hz.2.1 hz.2.2;refine⟨xs,fr.ext.h _ _ hq,by rw[kd.len];exact L2.big (by lia),?_⟩;have hp:=kd.top;have a1:=a.grow fr.ext.h;have nS:¬S q:=fun z=>(a.new i q hp).2.2 (q2 q z).1
    have ap:∀r b,T r b->S b->False:=fun r b h1 h2=>(a.new i b (kd.sub r b h1)).2.2 (q2 b h2).1
    refine p1 σ G _ _ (a1.store (S:=fun b=>As i b\/S b) hp h1 ⟨q,_,fun r b=>(r<ds.length/\T r b)\/(r=ds.length/\S b),rfl,zAD,⟨by simp[kd.len],fun r d' z g1 g2=>?_,.inl hp,fun r z=>?_,fun r r' b z1 z2=>?_,fun r b z=>?_⟩⟩ fun b z=>?_)
    ·by_cases hr:r<ds.length
     ·rw[qA6 hr]at g1;rw[qA6 (by rw[kd.len];exact hr)]at g2;exact(((kd.own r d' z g1 g2).mono (Same.refl _) fr.ext.h).upd (kd.out r)).sub fun b z=>.inl ⟨hr,z⟩
     ·rw[qA7 (by lia)]at g1;rw[qA7 (by rw[kd.len];lia),kd.len]at g2;have hq0:r-ds.length=0:=by
       have:=(qA3.mp g1).1
       simp at this;lia
      rw[hq0]at g1 g2;simp at g1 g2;subst g1;subst g2;exact(q1.upd nS).sub fun b z=>.inr ⟨by lia,z⟩
    ·rcases z with⟨_,z⟩|⟨_,z⟩
     ·exact kd.out r z
     ·exact nS z
    ·rcases z1 with⟨c1,t1⟩|⟨c1,t1⟩<;>rcases z2 with⟨c2,t2⟩|⟨c2,t2⟩
     ·exact kd.dis r r' b t1 t2
     ·exact(ap r b t1 t2).elim
     ·exact(ap r' b t2 t1).elim
     ·lia
    ·rcases z with⟨_,z⟩|⟨_,z⟩
     ·exact .inl (kd.sub r b z)
     ·exact .inr z
    ·rcases z with z|z
     ·exact .inl z
     ·obtain⟨n1,n2,n3⟩:=q2 b z;exact .inr ⟨a.ext.h.free n1,n2,n3,fun j y=>(a.new j b y).2.2 n1⟩
   ·exact p1.elim
  |some (.lst ds,0),_,p=>exact p.elim
  |some (.non,_),_,p=>exact p.elim
  |some (.bl _,_),_,p=>exact p.elim
  |some (.int _,_),_,p=>exact p.elim
  |some (.str _,_),_,p=>exact p.elim
  |some (.tup _,_),_,p=>exact p.elim
  |some (.scr _,_),_,p=>exact p.elim
  |some (.exc _ _ _,_),_,p=>exact p.elim
  |some (.fn _ _,_),_,p=>exact p.elim
  |some (.dtt _ _,_),_,p=>exact p.elim
  |some (.loc _ _,_),_,p=>exact p.elim
  |some (.ins _ _,_),_,p=>exact p.elim
  |some (.dct _,_),_,p=>exact p.elim
theorem Kids.pop{P:(Addr->Prop)->Dt->V->Prop}{S:Addr->Prop}{a:Addr}{ds:List Dt}{xs:List V}{T:Nat->Addr->Prop}(k:Kids P S a ds xs T)(q:Nat) :
  Kids P (fun b=>S b/\¬T q b) a (ds.eraseIdx q) (xs.eraseIdx q) (fun r=>if r<q then T r else T (r+1)):=by
 refine⟨by rw[qF7,qF7,k.len],fun r d x h1 h2=>?_,⟨k.top,k.out q⟩,fun r=>?_,fun r r' b z1 z2=>?_,fun r b z=>?_⟩
 ·rw[List.getElem?_eraseIdx]at h1 h2
  try dsimp only
  by_cases hr:r<q
  ·rw[if_pos hr]at h1 h2 ⊢;exact k.own r d x h1 h2
  ·rw[if_neg hr]at h1 h2 ⊢;exact k.own (r+1) d x h1 h2
 ·try dsimp only
  split
  ·exact k.out _
  ·exact k.out _
 ·try dsimp only at z1 z2
  by_cases h1:r<q<;>by_cases h2:r'<q
  ·rw[if_pos h1]at z1;rw[if_pos h2]at z2;exact k.dis _ _ b z1 z2
  ·rw[if_pos h1]at z1;rw[if_neg h2]at z2;have:=k.dis _ _ b z1 z2;lia
  ·rw[if_neg h1]at z1;rw[if_pos h2]at z2;have:=k.dis _ _ b z1 z2;lia
  ·rw[if_neg h1]at z1;rw[if_neg h2]at z2;have:=k.dis _ _ b z1 z2;lia
 ·try dsimp only at z
  by_cases h1:r<q
  ·rw[if_pos h1]at z;exact⟨k.sub _ b z,fun w=>by have:=k.dis _ _ b z w;lia⟩
  ·rw[if_neg h1]at z;exact⟨k.sub _ b z,fun w=>by have:=k.dis _ _ b z w;lia⟩
theorem zST{G H:Hp}{p:Addr}{o:HO}{S:Addr->Prop}{a:Addr}{ds:List Dt}{xs:List V}{T:Nat->Addr->Prop}(k:Kids (Own G H n) S a ds xs T)(hp:∀q,¬T q p):Kids (Own G (upd H p o) n) S a ds xs T:=
 ⟨k.len,fun q d x h1 h2=>(k.own q d x h1 h2).upd (hp q),k.top,k.out,k.dis,k.sub⟩
end
end
section
variable[Kc]{mg:Str->Option Value}{E:XK}{L n k l:Nat}{te ta tb:TE}{e ea eb:EM}{t u:TS}{m m':SM}
theorem Kids.set{G H:Hp}{S:Addr->Prop}{a p:Addr}{ds:List Dt}{xs:List V}{T:Nat->Addr->Prop}{S':Addr->Prop}{d:Dt}{v:V}{o:HO}(k:Kids (Own G H n) S a ds xs T)(q:Nat)(w:Own G (upd H p o) n S' d v)(hp:∀r,r≠q->¬T r p)(ha:¬S' a)
  (hd:∀r b,r≠q->T r b->S' b->False):Kids (Own G (upd H p o) n) (fun b=>S b\/S' b) a (ds.set q d) (xs.set q v) (fun r b=>if r=q then S' b else T r b):=by
 refine⟨by simp[k.len],fun r d' x h1 h2=>?_,.inl k.top,fun r=>?_,fun r r' b z1 z2=>?_,fun r b z=>?_⟩
 ·by_cases z:q=r
  ·subst z;have h:q<ds.length:=by
    have:=(qA3.mp h1).1
    simpa using this
   rw[qAm h]at h1;rw[qAm (by rw[k.len];exact h)]at h2;cases h1;cases h2;exact w.sub fun b hb=>by rw[if_pos rfl];exact hb
  ·rw[qAt z]at h1 h2;exact((k.own r d' x h1 h2).upd (hp r fun y=>z y.symm)).sub fun b hb=>by rw[if_neg (fun y=>z y.symm)];exact hb
 ·try dsimp only
  split
  ·exact ha
  ·exact k.out _
 ·try dsimp only at z1 z2
  by_cases h1:r=q<;>by_cases h2:r'=q
  ·rw[h1,h2]
  ·rw[if_pos h1]at z1;rw[if_neg h2]at z2;exact(hd r' b h2 z2 z1).elim
  ·rw[if_neg h1]at z1;rw[if_pos h2]at z2;exact(hd r b h1 z1 z2).elim
  ·rw[if_neg h1]at z1;rw[if_neg h2]at z2;exact k.dis _ _ b z1 z2
 ·try dsimp only at z
  by_cases h1:r=q
  ·rw[if_pos h1]at z;exact .inr z
  ·rw[if_neg h1]at z;exact .inl (k.sub _ b z)
theorem zKY(i:Nat){n1:Nat}{t1 t2:TE}{e1 e2:EM}(A:DE mg E t1 e1 n1)(B:DE mg E t2 e2 n)(hn:n<1000:=by decide):DS mg E L (tAsg t2 (gSub (vM i) t1 setM)) (Mi.sItem i n e1 e2):=by
 intro G0 H0 S0 σ ρ G H As D a p;obtain⟨J,x,s,w⟩:=a.full;refine B.step (errS.from x) x.in' w p fun d y G1 H1 S _ fr o p1=>?_
 cases er:ρ[i]? with
 |none=>rw[er]at p1;exact p1.elim
 |some sl=>
  rw[er]at p1
  match sl,er,p1 with
  |none,_,p=>exact p.elim
  |some (.lst ds,k+1),er,p1=>
   obtain⟨v,h1,q,xs,T,rfl,hq,kd⟩:=a.at i _ _ er;unfold gSub vM;rw[h1];have x1:Ext J H J H1:=Ext.same x.in' fr.ext.h;refine(zAK A).step (errS.from (x.trans x1)) x1.in' w p1 fun z u G2 H2 S2 _ fr2 o2 p2=>?_
   cases z with
   |int z=>
    cases(show u=.int z from o2)
    try dsimp only at p2
    cases ei:Mi.ixA ds.length z with
    |none=>rw[ei]at p2;exact p2.elim
    |some c=>
     rw[ei]at p2
     try dsimp only at p2
     split at p2
     ·rename_i hz
      rw[zT0]at ei;obtain⟨q1,q2⟩:=whole (k:=k) a s fr o hn hz.1 hz.2;have sH:=fr.ext.h.trans fr2.ext.h;refine⟨xs,c,sH _ _ hq,by rw[kd.len];exact ei,?_⟩;have a1:=a.grow sH;have nS:¬S q:=fun z=>(a.new i q kd.top).2.2 (q2 q z).1
      have kd1:Kids (Own G H2 k) (As i) q ds xs T:=kd.imp (fun _ _ _ _ w=>w.mono (Same.refl _) sH) fun _ z=>z
      refine p2 σ G _ _ (a1.store (S:=fun b=>As i b\/S b) kd.top h1 ⟨q,_,_,rfl,zAD,kd1.set c ((q1.mono (Same.refl _) fr2.ext.h).upd nS) (fun r _=>kd.out r) nS fun r b _ z1 z2=>(a.new i b (kd.sub r b z1)).2.2 (q2 b z2).1⟩ fun b z=>?_)
      rcases z with z|z
      ·exact .inl z
      ·obtain⟨n1,n2,n3⟩:=q2 b z;exact .inr ⟨a.ext.h.free n1,n2,fr2.ext.h.some n3,fun j y=>(a.new j b y).2.2 n1⟩
     ·exact p2.elim
   |_=>exact p2.elim
  |some (.lst ds,0),_,p=>exact p.elim
  |some (.non,_),_,p=>exact p.elim
  |some (.bl _,_),_,p=>exact p.elim
  |some (.int _,_),_,p=>exact p.elim
  |some (.str _,_),_,p=>exact p.elim
  |some (.tup _,_),_,p=>exact p.elim
  |some (.scr _,_),_,p=>exact p.elim
  |some (.exc _ _ _,_),_,p=>exact p.elim
  |some (.fn _ _,_),_,p=>exact p.elim
  |some (.dtt _ _,_),_,p=>exact p.elim
  |some (.loc _ _,_),_,p=>exact p.elim
  |some (.ins _ _,_),_,p=>exact p.elim
  |some (.dct _,_),_,p=>exact p.elim
theorem zPW(j i:Nat)(A:DE mg E te e n):DS mg E L (zF4 (tML appM (vM j) (zEA (tML popM (vM i) (zEA te tNil)) tNil))) (Mi.sAppPop j i e):=by
 intro G0 H0 S0 σ ρ G H As D a p;obtain⟨J,x,s,w⟩:=a.full;unfold Mi.sAppPop at p;cases f1:ρ[j]? with
 |none=>rw[f1]at p;exact p.elim
 |some oj=>
  rw[f1]at p
  match oj,f1,p with
  |none,_,p=>exact p.elim
  |some (.lst es,l+1),f1,p=>
   cases e1:ρ[i]? with
   |none=>rw[e1]at p;exact p.elim
   |some o=>
    rw[e1]at p
    match o,e1,p with
    |none,_,p=>exact p.elim
    |some (.lst ds,k+1),e1,p=>
     obtain⟨v',g1,q',ys,T',rfl,hq',kd'⟩:=a.at j _ _ f1;obtain⟨v,h1,q,xs,T,rfl,hq,kd⟩:=a.at i _ _ e1;unfold zF4 tML zEA vM;rw[g1];refine⟨ys,hq',?_⟩;dsimp only;rw[h1];refine⟨xs,hq,?_⟩;refine(zAK A).step (errS.from x) x.in' w p fun d y G1 H1 S _ fr o p1=>?_
     cases d with
     |int z=>
      cases(show y=.int z from o)
      try dsimp only at p1
      cases ei:Mi.ixA ds.length z with
      |none=>rw[ei]at p1;exact p1.elim
      |some c=>
       rw[ei]at p1
       try dsimp only at p1
       cases ec:ds[c]? with
       |none=>rw[ec]at p1;exact p1.elim
       |some dc=>
        rw[ec]at p1
        try dsimp only at p1
        split at p1
        ·rename_i hz
         obtain⟨hij,hz1,hz2,hlv⟩:=hz;rw[zT0]at ei;obtain⟨b1,b2,b3,b4⟩:=zKT ei;have hc:c<xs.length:=by rw[kd.len];exact b2
         have hx:xs[c]?=some xs[c]:=qA2 hc;refine⟨xs,c,xs[c],fr.ext.h _ _ hq,⟨by lia,by lia⟩,by rw[kd.len];exact b1,hx,?_⟩;have a1:=a.grow fr.ext.h;have kd1:Kids (Own G H1 k) (As i) q ds xs T:=kd.imp (fun _ _ _ _ w=>w.mono (Same.refl _) fr.ext.h) fun _ z=>z
         have hqq:q'≠q:=fun z=>hij (a.dis i j q kd.top (z▸kd'.top))
         have hjq:¬As j q:=fun z=>hij (a.dis i j q kd.top z)
         have kd1':Kids (Own G (upd H1 q (.lst (xs.eraseIdx c))) l) (As j) q' es ys T':=zST (kd'.imp (fun _ _ _ _ w=>w.mono (Same.refl _) fr.ext.h) fun _ z=>z) fun r z=>hjq (kd'.sub r q z)
         refine⟨ys,by rw[zAE hqq];exact fr.ext.h _ _ hq',by rw[kd'.len];exact L2.big (by lia),?_⟩;have a2:=a1.store (o:=.lst (xs.eraseIdx c)) (n:=k+1) (d:=.lst (ds.eraseIdx c)) (S:=fun b=>As i b/\¬T c b) kd.top h1 ⟨q,_,_,rfl,zAD,zST (kd1.pop c) fun r=>by split<;>exact kd.out _⟩ fun b z=>.inl z.1
         have wc:Own G (upd H1 q (.lst (xs.eraseIdx c))) l (T c) dc xs[c]:=by
          have w0:=(kd1.own c dc _ ec hx).upd (o:=.lst (xs.eraseIdx c)) (kd.out c)
          rcases hlv with z|⟨z1,z2,z3⟩
          ·subst z;exact w0
          ·exact w0.at z1 z2 z3
         have nT:¬T c q':=fun z=>hij (a.dis i j q' (kd.sub c q' z) kd'.top)
         have ap:∀r b,T' r b->T c b->False:=fun r b z1 z2=>hij (a.dis i j b (kd.sub c b z2) (kd'.sub r b z1))
         have e3:(if j=i then fun b=>As i b/\¬T c b else As j)=As j:=if_neg (fun z=>hij z.symm);have hp:(fun l=>if l=i then fun b=>As i b/\¬T c b else As l) j q':=by
          show(if j=i then fun b=>As i b/\¬T c b else As j) q'
          rw[e3];exact kd'.top
         refine p1 σ G _ _ (a2.store (i:=j) (p:=q') (S:=fun b=>As j b\/T c b) (n:=l+1) (d:=.lst (es++[dc])) (v:=.ref q') (o:=.lst (ys++[xs[c]])) hp g1
          ⟨q',_,fun r b=>(r<es.length/\T' r b)\/(r=es.length/\T c b),rfl,zAD,⟨by simp[kd'.len],fun r d' z f1 f2=>?_,.inl kd'.top,fun r z=>?_,fun r r' b z1 z2=>?_,fun r b z=>?_⟩⟩ fun b z=>?_)
         ·by_cases hr:r<es.length
          ·rw[qA6 hr]at f1;rw[qA6 (by rw[kd'.len];exact hr)]at f2;exact((kd1'.own r d' z f1 f2).upd (kd'.out r)).sub fun b z=>.inl ⟨hr,z⟩
          ·rw[qA7 (by lia)]at f1;rw[qA7 (by rw[kd'.len];lia),kd'.len]at f2;have hq0:r-es.length=0:=by
            have:=(qA3.mp f1).1
            simp at this;lia
           rw[hq0]at f1 f2;simp at f1 f2;subst f1;subst f2;exact(wc.upd nT).sub fun b z=>.inr ⟨by lia,z⟩
         ·rcases z with⟨_,z⟩|⟨_,z⟩
          ·exact kd'.out r z
          ·exact nT z
         ·rcases z1 with⟨c1,t1⟩|⟨c1,t1⟩<;>rcases z2 with⟨c2,t2⟩|⟨c2,t2⟩
          ·exact kd'.dis r r' b t1 t2
          ·exact(ap r b t1 t2).elim
          ·exact(ap r' b t2 t1).elim
          ·lia
         ·rcases z with⟨_,z⟩|⟨_,z⟩
          ·exact .inl (kd'.sub r b z)
          ·exact .inr z
         ·rcases z with z|z
          ·refine .inl ?_
           show(if j=i then fun b=>As i b/\¬T c b else As j) b
           rw[e3];exact z
          ·obtain⟨n1,n2,n3⟩:=a1.new i b (kd.sub c b z);refine .inr ⟨n1,n2,?_,fun r y=>?_⟩
           ·rw[zAE (fun y:b=q=>kd.out c (y▸z))];exact n3
           ·have y':(if r=i then fun b=>As i b/\¬T c b else As r) b:=y
            by_cases hr:r=i
            ·rw[if_pos hr]at y';exact y'.2 z
            ·rw[if_neg hr]at y';exact hr (a.dis r i b y' (kd.sub c b z))
        ·exact p1.elim
     |_=>exact p1.elim
    |some (.lst ds,0),_,p=>exact p.elim
    |some (.non,_),_,p=>exact p.elim
    |some (.bl _,_),_,p=>exact p.elim
    |some (.int _,_),_,p=>exact p.elim
    |some (.str _,_),_,p=>exact p.elim
    |some (.tup _,_),_,p=>exact p.elim
    |some (.scr _,_),_,p=>exact p.elim
    |some (.exc _ _ _,_),_,p=>exact p.elim
    |some (.fn _ _,_),_,p=>exact p.elim
    |some (.dtt _ _,_),_,p=>exact p.elim
    |some (.loc _ _,_),_,p=>exact p.elim
    |some (.ins _ _,_),_,p=>exact p.elim
    |some (.dct _,_),_,p=>exact p.elim
  |some (.lst ds,0),_,p=>exact p.elim
  |some (.non,_),_,p=>exact p.elim
  |some (.bl _,_),_,p=>exact p.elim
  |some (.int _,_),_,p=>exact p.elim
  |some (.str _,_),_,p=>exact p.elim
  |some (.tup _,_),_,p=>exact p.elim
  |some (.scr _,_),_,p=>exact p.elim
  |some (.exc _ _ _,_),_,p=>exact p.elim
  |some (.fn _ _,_),_,p=>exact p.elim
  |some (.dtt _ _,_),_,p=>exact p.elim
  |some (.loc _ _,_),_,p=>exact p.elim
  |some (.ins _ _,_),_,p=>exact p.elim
  |some (.dct _,_),_,p=>exact p.elim
theorem zTA{G0 H0 S0:Hp}{D:Ends}{g:TG}{tg:Tg}{J:It}{ds:List Dt}{GJ:Hp}(hT:TgOk g tg)(B:DS mg E L t m)(io:ItOk J GJ ds){σ:St}{ρ:Ro}{G H:Hp}{As:Nat->Addr->Prop}(a:Sat G0 H0 S0 σ ρ G H As)(sJ:Same GJ G)
  (p:zD9 mg E G0 H0 S0 L (Mi.forGo tg m ds ρ) D):zQS g t D σ J H:=by
 refine⟨fun i c σ H=>c=ds.length-i/\i<=ds.length/\∃ρ G As,Sat G0 H0 S0 σ ρ G H As/\Same GJ G/\zD9 mg E G0 H0 S0 L (Mi.forGo tg m (ds.drop i) ρ) D,
  ⟨_,rfl,qAy _,ρ,G,As,a,sJ,by rw[qDk];exact p⟩,?_⟩
 rintro i c σ H ⟨rfl,hi,ρ,G,As,a,sJ,p⟩
 obtain⟨j1,j2,j3⟩:=io i G H sJ a.ext.in'
 by_cases hlt:i<ds.length
 ·refine .inr ⟨j1 hlt,fun σ' H'=>i+1<=ds.length/\∃ρ G As,Sat G0 H0 S0 σ' ρ G H' As/\Same GJ G/\zD9 mg E G0 H0 S0 L (Mi.forGo tg m (ds.drop (i+1)) ρ) D,fun σ' H' q=>⟨ds.length-(i+1),by lia,rfl,q⟩,fun x H2 hy=>?_⟩;have hd:ds[i]?=some ds[i]:=qA2 hlt;obtain⟨G2,x2,r2⟩:=j3 x H2 ds[i] hd hy;rw[qB2 hlt,Mi.forGo]at p;cases eb:zAN tg ds[i]with
  |none=>rw[eb]at p;exact p.elim
  |some bs=>
   rw[eb]at p
   try dsimp only at p
   refine hT G2 H2 _ _ x bs _ x2.in' r2 eb fun ws hb=>?_
   obtain⟨As2,a2⟩:=Sat.puts hb (a.wider x2);have a3:Sat G0 H0 GJ (zF8 σ ws) (zAP ρ bs) G2 H2 As2:=⟨a2.ext,sJ.trans x2.g,a2.tab,a2.len,a2.at,a2.dis,a2.new⟩
   have key:∀(S1:Hp),Same S0 S1->Same GJ S1->Sat G0 H0 S1 (zF8 σ ws) (zAP ρ bs) G2 H2 As2->t { D with nx:=fun σ' H'=>i+1<=ds.length/\∃ρ G As,Sat G0 H0 S0 σ' ρ G H' As/\Same GJ G/\zD9 mg E G0 H0 S0 L (Mi.forGo tg m (ds.drop (i+1)) ρ) D,ct:=fun σ' H'=>i+1<=ds.length/\∃ρ G As,Sat G0 H0 S0 σ' ρ G H' As/\Same GJ G/\zD9 mg E G0 H0 S0 L (Mi.forGo tg m (ds.drop (i+1)) ρ) D,bk:=D.nx } (zF8 σ ws) H2:=by
    intro S1 s1 s2 a4;refine B G0 H0 S1 _ _ G2 H2 As2 _ a4 ?_;have back:∀{σ':St}{ρ':Ro}{G' H':Hp}{As':Nat->Addr->Prop},Sat G0 H0 S1 σ' ρ' G' H' As'->Sat G0 H0 S0 σ' ρ' G' H' As'/\Same GJ G':=fun a5=>⟨⟨a5.ext,s1.trans a5.stb,a5.tab,a5.len,a5.at,a5.dis,a5.new⟩,s2.trans a5.stb⟩
    cases em:m (zAP ρ bs)with
    |none=>rw[em]at p;exact p
    |some r=>
     rw[em]at p;cases r with
     |error y=>exact p
     |ok o=>
      cases o with
      |nx ρ'=>exact fun σ' G' H' As' a5=>⟨hlt,ρ',G',As',(back a5).1,(back a5).2,p⟩
      |ct ρ'=>exact fun σ' G' H' As' a5=>⟨hlt,ρ',G',As',(back a5).1,(back a5).2,p⟩
      |bk ρ'=>exact fun σ' G' H' As' a5=>p σ' G' H' As' (back a5).1
      |rt d=>exact p
   exact key G2 a2.stb (sJ.trans x2.g) ⟨a2.ext,Same.refl _,a2.tab,a2.len,a2.at,a2.dis,a2.new⟩
 ·have e:i=ds.length:=by lia
  subst e;rw[qEr,Mi.forGo]at p;exact .inl ⟨j2 (qA8 _),p σ G H As a⟩
theorem zMD{wi:TI}{it:IM}{g:TG}{tg:Tg}(vs:List Nat){ind:Bool}(I:DI mg E wi it ind)(hT:TgOk g tg)(B:DS mg E L t m):DS mg E L (fun D σ H=>wi σ H (zQS g t D σ)) (Mi.sFor vs it tg m):=by
 intro G0 H0 S0 σ ρ G H As D a p;obtain⟨G1,As1,a1⟩:=Sat.frzAt vs a;refine I.step (errS.from a1.ext) a1.ext.in' a1.frz p fun ds J G2 H2 _ x2 io p1=>?_
 refine zTA hT B io (a1.wider x2) ?_ p1;unfold zQG
 split
 ·exact fun b o e=>by cases e
 ·exact Same.refl _
theorem zHX{wi:TI}{it:IM}{i:Nat}(I:DI mg E wi it true)(B:DS mg E L t m):DS mg E L (fun D σ H=>wi σ H (zQS (zGB i) t D σ)) (Mi.sForR it i m):=by
 intro G0 H0 S0 σ ρ G H As D a p;obtain⟨J,x,s,w⟩:=a.full;refine I.step (errS.from x) x.in' w p fun ds J G2 H2 _ x2 io p1=>?_
 exact zTA (zBL i) B io (a.grow x2.h) (fun b o e=>by cases e) p1
theorem zZ4{G0 H0 S0:Hp}{D:Ends}{tc:TT}{c:TM}(C:DT mg E tc c)(B:DS mg E L t m)(N:Nat){σ:St}{ρ:Ro}{G H:Hp}{As:Nat->Addr->Prop}(a:Sat G0 H0 S0 σ ρ G H As)(p:zD9 mg E G0 H0 S0 L (Mi.whGo c m N ρ) D):zNX tc t D σ H:=by
 refine⟨fun i σ H=>∃ρ G As,Sat G0 H0 S0 σ ρ G H As/\zD9 mg E G0 H0 S0 L (Mi.whGo c m i ρ) D,⟨N,ρ,G,As,a,p⟩,?_⟩
 rintro i σ H ⟨ρ,G,As,a,p⟩
 cases i with
 |zero=>exact p.elim
 |succ i=>
  obtain⟨J,x,s,w⟩:=a.full;rw[Mi.whGo]at p;refine C.step (errS.from x) x.in' w p fun b H' _ sH p1=>?_
  cases b with
  |false=>exact p1 σ G H' As (a.grow sH)
  |true=>
   rw[if_pos rfl];refine⟨fun σ' H'=>∃ρ G As,Sat G0 H0 S0 σ' ρ G H' As/\zD9 mg E G0 H0 S0 L (Mi.whGo c m i ρ) D,fun σ' H' q=>⟨i,qBu i,q⟩,?_⟩;refine B G0 H0 S0 σ ρ G H' As _ (a.grow sH) ?_;rw[if_pos rfl]at p1;cases em:m ρ with
   |none=>rw[em]at p1;exact p1
   |some r=>
    rw[em]at p1;cases r with
    |error y=>exact p1
    |ok o=>
     cases o with
     |nx ρ'=>exact fun σ' G' H' As' a5=>⟨ρ',G',As',a5,p1⟩
     |ct ρ'=>exact fun σ' G' H' As' a5=>⟨ρ',G',As',a5,p1⟩
     |bk ρ'=>exact fun σ' G' H' As' a5=>p1 σ' G' H' As' a5
     |rt d=>exact p1
theorem zMC{tc:TT}{c:TM}(C:DT mg E tc c)(B:DS mg E L t m):DS mg E L (zNX tc t) (Mi.sWhile c m):=fun G0 H0 S0 σ ρ G H As D a p=>zZ4 C B _ a p
theorem dz(A:DE mg E te e 0):DE mg E te e 0:=A
theorem zK8{P N:Nat}{vs:List V}{H:Hp}{Q:VK}{E:XK}(h:spM mg L (Mi.runF P N m) vs H Q E):vs.length=P:=by
 obtain⟨G,ds,_,s,r,p⟩:=h;rw[r.length];unfold Mi.runF at p
 split at p
 ·rename_i h;exact h
 ·exact p.elim
theorem zBB{P:Nat}{N:List Str}{vs:List V}{H:Hp}{Q:VK}(B:DS mg E L t m)(h:spM mg L (Mi.runF P N.length m) vs H Q E):t { nx:=fun _ H'=>Q .non H',rt:=Q } (L2.start N vs) H:=by
 obtain⟨G,ds,tb,s,r,p⟩:=h;unfold Mi.runF at p
 split at p
 ·refine B G H G _ (Mi.startO N.length ds) G H (fun _ _=>False) _ ⟨Ext.refl s,Same.refl _,tb,?_,fun i d n e=>?_,fun _ _ _ z=>z.elim,fun _ _ z=>z.elim⟩ ?_
  ·unfold Mi.startO L2.start;simp[r.length]
  ·unfold Mi.startO at e
   by_cases hi:i<ds.length
   ·rw[qA6 (by simpa using hi),qAh]at e;cases e1:ds[i]? with
    |none=>rw[e1]at e;cases e
    |some d'=>
     rw[e1]at e;cases e;have hv:vs[i]?=some (vs[i]'(by rw[r.length];exact hi)):=by simp
     refine⟨vs[i]'(by rw[r.length];exact hi),?_,zBT r e1 hv⟩;unfold L2.start;rw[qA6 (by simpa[r.length]using hi),qAh,hv];rfl
   ·rw[qA7 (by simpa using hi),qBw]at e
    split at e<;>cases e
  ·cases em:m (Mi.startO N.length ds)with
   |none=>rw[em]at p;exact p
   |some r=>
    rw[em]at p;cases r with
    |error y=>exact p
    |ok o=>
     cases o with
     |nx ρ'=>exact fun σ' G' H' As' a=>PostE.val (d:=.non) p a.ext rfl rfl
     |rt d=>exact p
     |bk ρ'=>exact p.elim
     |ct ρ'=>exact p.elim
 ·exact p.elim
end
end L3
namespace L2
open PySem PySem.Spec PyProof.Rows
section
variable{X:Cx}
end
end L2
namespace L3
open PySem PySem.Spec
open L2 hiding Rep RepL
open Mi (Dt Xn R okR zA2 optR zA0 zA5 zA8 zA4 zA7 Rh Sl Ro EM TM AM FM IM SM OM Tg Out zAN zAM zAP full frz frz1 frzAt)
section
variable[Kc]{mg:Str->Option Value}{E:XK}{L n k l:Nat}{te ta tb:TE}{e ea eb:EM}{t u:TS}{m m':SM}
theorem zYU:CBi (fun xs H Q=>(∃i,xs=[.int i]/\Q (.int i) H)\/∃k,xs=[.bl k]/\Q (.int (if k then 1 else 0)) H) Mi.intD n:=by
 intro mg E G H ds vs Q s h p;cases ds with
 |nil=>exact qA5 p
 |cons hd1 tl1=>
  cases hd1 with
  |int i=>
   cases tl1 with
   |nil=>
    obtain⟨x,rfl,hx⟩:=zCM h
    cases(show x=.int i from hx)
    exact .inl ⟨i,rfl,PostE.val p (Ext.refl s) rfl rfl⟩
   |cons _ _=>exact qA5 p
  |bl b=>
   cases tl1 with
   |nil=>
    obtain⟨x,rfl,hx⟩:=zCM h
    cases(show x=.bl b from hx)
    exact .inr ⟨b,rfl,PostE.val p (Ext.refl s) rfl rfl⟩
   |cons _ _=>exact qA5 p
  |_=>exact qA5 p
theorem zKV{G:Hp}{d:Dt}{v:V}(h:Rep G d v)(hd:d.dep=0):zEG v=true:=(zD2 (by lia) h).flat (qGp.mp (qAl (zE3 (by lia)) (qF1 hd)))
theorem zPS{G:Hp}{d e:Dt}{v u:V}(h:Rep G d v)(h':Rep G e u)(hd:d.dep=0)(he:e.dep=0):eqV v u=Dt.eq d e:=by
 rw[<- zL3 (by lia) (by lia)];exact(zD2 (by lia) h).flatEq (zD2 (by lia) h') (qGp.mp (qAl (zE3 (by lia)) (qF1 hd))) (qGp.mp (qAl (zE3 (by lia)) (qF1 he)))
theorem zV2{G:Hp}{d:Dt}{v:V}(h:Rep G d v)(hd:d.dep=0):∀{ds:List Dt}{vs:List V},RepL G ds vs->Dt.depL ds=0->vs.all zEG=true/\inV v vs=ds.any fun y=>Dt.eq y d
 |[],vs,r,_=>by cases(show vs=[] from r);exact⟨rfl,rfl⟩
 |e::ds,vs,r,hz=>by
  obtain⟨x,q,rfl,a,b⟩:=r;rw[Dt.depL]at hz;obtain⟨h1,h2⟩:=zV2 h hd b (by lia);have he:e.dep=0:=by lia
  refine⟨by simp[zKV a he,h1],?_⟩;unfold inV at h2 ⊢;rw[qCg,qCg,h2,zPS a h he hd]
theorem zZI{ng:Bool}:ROp (rInU Kc.K ng) (Mi.inD ng) n:=by
 intro mg E G H d e x y Q s h1 h2 p;cases e with
 |lst ys=>
  obtain⟨a,vs,rfl,ha,r⟩:=h2;unfold Mi.inD Mi.hasD at p;dsimp only at p
  by_cases hz:d.dep=0/\Dt.depL ys=0
  ·rw[if_pos hz]at p;obtain⟨g1,g2⟩:=zV2 h1 hz.1 r hz.2;refine⟨vs,.inl (SqL.of (s _ _ ha)),zKV h1 hz.1,g1,?_⟩;rw[g2];exact PostE.val p (Ext.refl s) rfl rfl
  ·rw[if_neg hz]at p;exact p.elim
 |tup ys=>
  obtain⟨a,vs,rfl,ha,r⟩:=h2;unfold Mi.inD Mi.hasD at p;dsimp only at p
  by_cases hz:d.dep=0/\Dt.depL ys=0
  ·rw[if_pos hz]at p;obtain⟨g1,g2⟩:=zV2 h1 hz.1 r hz.2;refine⟨vs,.inr (SqT.of (s _ _ ha)),zKV h1 hz.1,g1,?_⟩;rw[g2];exact PostE.val p (Ext.refl s) rfl rfl
  ·rw[if_neg hz]at p;exact p.elim
 |str z=>
  cases(show y=.str z from h2)
  cases d with
  |str w=>
   cases(show x=.str w from h1)
   obtain⟨⟨wl⟩⟩:=w;cases wl with
   |nil=>exact qA5 p
   |cons c tl1=>
    cases tl1 with
    |nil=>
     have p':PostE mg E G H n (okR (.bl (if ng=true then !decide (c∈z.cps.toList)else decide (c∈z.cps.toList)))) Q:=p;have q:=PostE.val (v:=.bl (if ng=true then !decide (c∈z.cps.toList)else decide (c∈z.cps.toList))) p' (Ext.refl s) rfl rfl;rw[<- StrLaws.found_one z c]at q;exact q
    |cons _ _=>exact qA5 p
  |_=>exact p.elim
 |_=>exact p.elim
def DO(mg:Str->Option Value)(E:XK)(t:TO)(m:OM):Prop:=∀(G H:Hp)(σ:St)(ρ:Rh)(Q:Option Int->Hp->Prop),Same G H->View G σ ρ ->
 (match m ρ with
  |none=>False
  |some (.error x)=>∀c da G' H',Ext G H G' H'->XRep mg x c da G' H'->E c da H'
  |some (.ok o)=>∀H',Same H H'->Q o H')->t σ H Q
theorem DO.step{β:Type}{t:TO}{m:OM}(D:DO mg E t m){G H:Hp}{σ:St}{ρ:Rh}{Q:Option Int->Hp->Prop}{P:R β->Prop}{f:Option Int->R β}(hE:Err mg E G H P)(s:Same G H)(w:View G σ ρ)(p:P (zA2 (m ρ) f))
  (h:∀b H',m ρ=okR b->Same H H'->P (f b)->Q b H'):t σ H Q:=by
 refine D G H σ ρ Q s w ?_;cases e:m ρ with
 |none=>rw[e]at p;exact hE.no p
 |some r=>
  rw[e]at p;cases r with
  |error x=>exact hE.er x p
  |ok b=>exact fun H' sH=>h b H' e sH p
theorem zYF:DO mg E zNY Mi.oNo:=fun G H σ ρ Q s w p=>p H (Same.refl _)
theorem do_e(A:DE mg E te e k):DO mg E (zW6 te) (Mi.oE e):=by
 intro G H σ ρ Q s w p;unfold Mi.oE at p;refine(zAK A).step (P:=fun r=>match r with
  |none=>False
  |some (.error x)=>∀c da G' H',Ext G H G' H'->XRep mg x c da G' H'->E c da H'
  |some (.ok o)=>∀H',Same H H'->Q o H') ⟨fun h=>h,fun _ h=>h⟩ s w p fun d v G1 H1 S _ fr o p1=>?_
 cases d with
 |int i=>exact⟨i,o,p1 H1 fr.ext.h⟩
 |_=>exact p1.elim
theorem zMF(n d:Nat)(o:Option Int):Mi.cutIx n d o=HT.sIx n d o:=by cases o<;>rfl
theorem zIQ{G:Hp}:∀{ds:List Dt}{xs:List V}(i:Nat),RepL G ds xs->RepL G (ds.drop i) (xs.drop i)
 |ds,xs,0,r=>by simpa using r
 |[],xs,i+1,r=>by cases(show xs=[] from r);exact rfl
 |d::ds,xs,i+1,r=>by
  obtain⟨x,q,rfl,a,b⟩:=r;exact zIQ i b
theorem zIP{G:Hp}:∀{ds:List Dt}{xs:List V}(i:Nat),RepL G ds xs->RepL G (ds.take i) (xs.take i)
 |ds,xs,0,r=>by simp;exact rfl
 |[],xs,i+1,r=>by cases(show xs=[] from r);exact rfl
 |d::ds,xs,i+1,r=>by
  obtain⟨x,q,rfl,a,b⟩:=r;exact⟨x,_,rfl,a,zIP i b⟩
theorem zR3{G:Hp}{ds:List Dt}{xs:List V}(r:RepL G ds xs)(lo hi:Option Int):RepL G (Mi.cutA ds lo hi) (cutV xs lo hi):=by
 unfold Mi.cutA cutV;rw[zMF,zMF,r.length];exact zIP _ (zIQ _ r)
def RSl(r:V->Option Int->Option Int->Hp->VK->Prop)(n:Nat):Prop:=∀(mg:Str->Option Value)(E:XK)(G H:Hp)(d:Dt)(x:V)(lo hi:Option Int)(Q:VK),Same G H->Rep G d x->PostE mg E G H n (optR (Mi.slD d lo hi)) Q->r x lo hi H Q
theorem zYM{r:V->Option Int->Option Int->Hp->VK->Prop}{tl th:TO}{ml mh:OM}(hr:RSl r n)(A:DE mg E te e k)(B:DO mg E tl ml)(C:DO mg E th mh):DE mg E (tSl r te tl th) (Mi.eSl e ml mh) n:=by
 intro G H σ ρ Q s w p;refine(zAK A).step errE s w p fun d v G1 H1 S _ fr o p1=>?_
 refine B.step (errE.from fr.ext) fr.ext.in' (w.mono fr.ext.g) p1 fun lo H2 _ s2 p2=>?_
 have x2:=fr.ext.trans (Ext.same fr.ext.in' s2);refine C.step (errE.from x2) x2.in' (w.mono fr.ext.g) p2 fun hi H3 _ s3 p3=>?_
 have x3:=x2.trans (Ext.same x2.in' s3);exact hr mg E G1 H3 d v lo hi Q x3.in' o (PostE.from p3 x3)
end
section
variable[Kc]{mg:Str->Option Value}{E:XK}{L n k l:Nat}{te ta tb:TE}{e ea eb ma:EM}{t:TA}{m:AM}
theorem rs_u:RSl (rSlU Kc.K) 1:=by
 intro mg E G H d x lo hi Q s h p;cases d with
 |lst ds=>
  obtain⟨a,xs,rfl,ha,r⟩:=h;exact⟨xs,SqL.of (s _ _ ha),fun q hq=>PostE.lst p (Ext.refl s) (zR3 r lo hi) hq⟩
 |str z=>
  cases(show x=.str z from h)
  rw[Mi.slD]at p
  by_cases hz:z.length<=100000
  ·rw[if_pos hz]at p;exact⟨big' hz,PostE.val p (Ext.refl s) rfl rfl⟩
  ·rw[if_neg hz]at p;exact p.elim
 |_=>exact p.elim
theorem zYN{tl th:TO}{ml mh:OM}(A:DE mg E te e k)(B:DO mg E tl ml)(C:DO mg E th mh):DE mg E (tSl (rSlU Kc.K) te tl th) (Mi.eSl e ml mh) 1:=zYM rs_u A B C
theorem zXX{G:Hp}(z:Str):ItOk (Its z) G (Mi.signsD z):=by
 intro i G1 H1 s1 s2;have hl:(Mi.signsD z).length=z.cps.size:=by simp[Mi.signsD]
 refine⟨fun hi=>by rw[hl]at hi;exact hi,fun hi=>by rw[hl]at hi;exact hi,fun x H2 d hd hy=>?_⟩;obtain⟨rfl,c,hc,rfl⟩:=hy;refine⟨G1,Ext.refl s2,?_⟩;unfold Mi.signsD at hd;rw[qAh]at hd;have hc':z.cps.toList[i]?=some c:=by simpa using hc
 rw[hc']at hd;cases hd;rfl
theorem zEQ(A:DE mg E ta ma k):DI mg E (iAny Kc.K ta) (Mi.iSq ma) false:=by
 intro G H σ ρ Q s w p;refine(zAK A).step errI s w p fun d v G1 H1 S _ fr o p1=>?_
 cases d with
 |lst ds=>
  obtain⟨a,xs,rfl,ha,r⟩:=o;exact .inl ⟨⟨xs,SqL.of (fr.ext.in' _ _ ha)⟩,p1 _ G1 H1 fr.ext (zT2 (SqL.of ha) r)⟩
 |tup ds=>
  obtain⟨a,xs,rfl,ha,r⟩:=o;exact .inr ⟨⟨xs,SqT.of (fr.ext.in' _ _ ha)⟩,p1 _ G1 H1 fr.ext (zT1 (SqT.of ha) r)⟩
 |scr ns=>
  obtain⟨a,rfl,ha⟩:=o
  rcases ha.old with ha|ha
  ·exact .inl ⟨⟨_,fr.ext.in'.seq ha⟩,p1 _ G1 H1 fr.ext (zT2 ha (zC9 ns))⟩
  ·exact .inr ⟨⟨_,zIL fr.ext.in' ha⟩,p1 _ G1 H1 fr.ext (zT1 ha (zC9 ns))⟩
 |str z=>
  cases(show v=.str z from o)
  exact p1 _ G1 H1 fr.ext (zXX z)
 |_=>exact p1.elim
def RMt(r:V->List V->Hp->VK->Prop)(f:Dt->List Dt->Option Dt)(n:Nat):Prop:=∀(mg:Str->Option Value)(E:XK)(G H:Hp)(z:Str)(ds:List Dt)(vs:List V)(Q:VK),Same G H->RepL G ds vs->PostE mg E G H n (optR (f (.str z) ds)) Q->r (.str z) vs H Q
theorem zI0{r:V->List V->Hp->VK->Prop}{f:Dt->List Dt->Option Dt}(hr:RMt r f n)(A:DE mg E te e k)(B:DA mg E t m 0):DE mg E (tBM Kc.K "str" r te t) (Mi.eMt f e m) n:=by
 intro G H σ ρ Q s w p;refine(zAK A).step errE s w p fun d v G1 H1 S _ fr o p1=>?_
 cases d with
 |str z=>
  cases(show v=.str z from o)
  refine⟨rfl,?_⟩;have p2:PostE mg E G H n (zA2 (m ρ) fun xs=>optR (f (.str z) xs)) Q:=p1;refine B.step (errE.from fr.ext) fr.ext.in' (w.mono fr.ext.g) p2 fun ds vs G2 H2 S2 T2 _ fr2 o2 p3=>?_
  exact hr mg E G2 H2 z ds vs Q fr2.ext.in' o2.repL (PostE.from p3 (fr.ext.trans fr2.ext))
 |_=>exact p1.elim
theorem zSN{r:V->List V->Hp->VK->Prop}{f:Dt->List Dt->Option Dt}(hf:∀z ds,(∀c,ds≠[.str ⟨#[c]⟩])->f (.str z) ds=none)
  (hr:∀(mg:Str->Option Value)(E:XK)(G H:Hp)(z:Str)(c:Nat)(Q:VK),Same G H->PostE mg E G H n (optR (f (.str z) [.str ⟨#[c]⟩])) Q->r (.str z) [.str ⟨#[c]⟩] H Q):RMt r f n:=by
 intro mg E G H z ds vs Q s h p
 by_cases hd:∃c,ds=[.str ⟨#[c]⟩]
 ·obtain⟨c,rfl⟩:=hd;obtain⟨x,rfl,hx⟩:=zCM h
  cases(show x=.str ⟨#[c]⟩ from hx)
  exact hr mg E G H z c Q s p
 ·rw[hf z ds fun c e=>hd ⟨c,e⟩]at p;exact p.elim
theorem zLZ{f:Dt->List Dt->Option Dt}{z:Str}(h1:f (.str z) []=none)(h2:∀d,(∀y,d≠.str y)->f (.str z) [d]=none)(h3:∀d e r,f (.str z) (d::e::r)=none)(h4:f (.str z) [.str ⟨#[]⟩]=none)(h5:∀a b r,f (.str z) [.str ⟨⟨a::b::r⟩⟩]=none) :
  ∀ds,(∀c,ds≠[.str ⟨#[c]⟩])->f (.str z) ds=none:=by
 intro ds h
 match ds,h with
 |[],_=>exact h1
 |[.str ⟨⟨[]⟩⟩],_=>exact h4
 |[.str ⟨⟨[c]⟩⟩],h=>exact absurd rfl (h c)
 |[.str ⟨⟨a::b::r⟩⟩],_=>exact h5 a b r
 |[.non],_=>exact h2 _ fun _ e=>by cases e
 |[.bl _],_=>exact h2 _ fun _ e=>by cases e
 |[.int _],_=>exact h2 _ fun _ e=>by cases e
 |[.lst _],_=>exact h2 _ fun _ e=>by cases e
 |[.tup _],_=>exact h2 _ fun _ e=>by cases e
 |[.scr _],_=>exact h2 _ fun _ e=>by cases e
 |[.exc _ _ _],_=>exact h2 _ fun _ e=>by cases e
 |[.fn _ _],_=>exact h2 _ fun _ e=>by cases e
 |[.dtt _ _],_=>exact h2 _ fun _ e=>by cases e
 |[.loc _ _],_=>exact h2 _ fun _ e=>by cases e
 |[.ins _ _],_=>exact h2 _ fun _ e=>by cases e
 |[.dct _],_=>exact h2 _ fun _ e=>by cases e
 |d::e::r,_=>exact h3 d e r
theorem zFB:RMt zY7 Mi.findD n:=zSN (fun z=>zLZ rfl (fun d h=>by cases d<;>first|rfl|exact absurd rfl (h _)) (fun d e r=>by cases d<;>rfl) rfl fun a b r=>rfl) fun mg E G H z c Q s p=>by
 show Q (.int (qMj z ⟨#[c]⟩)) H;rw[zRZ];exact PostE.val p (Ext.refl s) rfl rfl
theorem zLF{G:Hp}:∀{ds:List Dt}{zs:List Str}{xs:List V},Mi.strsD ds=some zs->RepL G ds xs->xs=zs.map V.str
 |[],zs,xs,h,r=>by cases h;exact r
 |.str b::ds,zs,xs,h,r=>by
  obtain⟨x,q,rfl,a,c⟩:=r;rw[Mi.strsD]at h;cases e:Mi.strsD ds with
  |none=>rw[e]at h;cases h
  |some cs=>
   rw[e]at h;cases h;rw[zLF e c,show x=.str b from a];rfl
 |.non::_,_,_,h,_=>by simp[Mi.strsD]at h
 |.int _::_,_,_,h,_=>by simp[Mi.strsD]at h
 |.bl _::_,_,_,h,_=>by simp[Mi.strsD]at h
 |.lst _::_,_,_,h,_=>by simp[Mi.strsD]at h
 |.tup _::_,_,_,h,_=>by simp[Mi.strsD]at h
 |.scr _::_,_,_,h,_=>by simp[Mi.strsD]at h
 |.exc _ _ _::_,_,_,h,_=>by simp[Mi.strsD]at h
 |.fn _ _::_,_,_,h,_=>by simp[Mi.strsD]at h
 |.dtt _ _::_,_,_,h,_=>by simp[Mi.strsD]at h
 |.loc _ _::_,_,_,h,_=>by simp[Mi.strsD]at h
 |.ins _ _::_,_,_,h,_=>by simp[Mi.strsD]at h
 |.dct _::_,_,_,h,_=>by simp[Mi.strsD]at h
theorem zKE:RMt zXS Mi.joinD n:=by
 intro mg E G H z ds vs Q s h p;cases ds with
 |nil=>exact qA5 p
 |cons hd1 tl1=>
  cases hd1 with
  |lst es=>
   cases tl1 with
   |nil=>
    obtain⟨x,rfl,a,xs,rfl,ha,ra⟩:=zCM h;have p':PostE mg E G H n (optR (match Mi.strsD es with
     |some zs=>@ite _ ((zs.map (·.length)).sum+zs.length*z.length<=100000) (qA4 _) (some (.str (qKo z zs))) none
     |none=>none)) Q:=p
    cases e:Mi.strsD es with
    |none=>rw[e]at p';exact p'.elim
    |some zs=>
     rw[e]at p';dsimp only at p'
     split at p'
     ·rename_i hz
      exact⟨zs,by rw[<- zLF e ra];exact s _ _ ha,by lia,PostE.val p' (Ext.refl s) rfl rfl⟩
     ·exact p'.elim
   |cons _ _=>exact qA5 p
  |_=>exact qA5 p
end
end L3
namespace L3
open PySem PySem.Spec
open L2 hiding Rep RepL
open Mi (Dt FM okR)
def sp0(K:qA1)(mg:Str->Option Value)(L:Nat)(f:FM):Sp:=fun vs H Q _=>@spM ⟨K⟩ mg L f vs H Q E0
end L3
namespace Mi
open PySem
noncomputable section
def noE{α:Type}(r:R α):R α:=match r with
 |some (.ok a)=>okR a
 |_=>none
def eCallN(f:FM)(am:AM):EM:=fun ρ=>zA2 (am ρ) fun ds=>noE (f ds)
def eMkX(c f:Str)(am:AM):EM:=fun ρ=>zA2 (am ρ) fun ds=>match ds with
 |[d]=>okR (.exc c f d)
 |_=>none
def zWE(c f:Str)(am:AM):SM:=fun r=>zA2 (am (full r)) fun ds=>match ds with
 |[d]=>some (.error ⟨c,f,d⟩)
 |_=>none
def sRaise0(c:Str)(am:AM):SM:=fun r=>zA2 (am (full r)) fun ds=>@ite _ (ds.length<=1000) (qA4 _) (some (.error ⟨c,"",.non⟩)) none
def eAtX(hs:List Str)(f:Str)(a:EM):EM:=fun ρ=>zA2 (a ρ) fun d=>match d with
 |.exc c g x=>if c∈hs/\g=f then okR x else none
 |_=>none
def eIsX(ys ns:List Str)(a:EM):EM:=fun ρ=>zA2 (a ρ) fun d=>match d with
 |.exc c _ _=>if c∈ys then okR (.bl true)else if c∈ns then okR (.bl false)else none
 |_=>none
noncomputable def zY2(i:Nat):Out->Out
 |.nx r=>.nx (r.set i none)
 |.rt d=>.rt d
 |.bk r=>.bk (r.set i none)
 |.ct r=>.ct (r.set i none)
end
end Mi
namespace L3
open PySem PySem.Spec
open L2 hiding Rep RepL
open Mi (Dt Xn R okR zA2 optR zA0 zA5 zA8 zA4 zA7 Rh Sl Ro EM TM AM FM IM SM OM Tg Out zAN zAM zAP full frz frz1 frzAt)
section
variable[Kc]{mg:Str->Option Value}{E:XK}{L n k l:Nat}{te ta tb:TE}{e ea eb ma:EM}{t:TA}{m:AM}
theorem zS5{f:FM}(A:DA mg E t m 0):DE mg E (zK5 (spM mg n f) [] E0 t) (Mi.eCallN f m) n:=by
 intro G H σ ρ Q s w p;refine A.step errE s w p fun ds vs G1 H1 S T _ fr o p1=>?_
 refine⟨G1,ds,w.tab.trans fr.ext.g,fr.ext.in',by rw[qD5];exact o.repL,?_⟩;have p2:=PostE.from p1 fr.ext;cases e:f ds with
 |none=>rw[e]at p2;exact p2
 |some r=>
  rw[e]at p2;cases r with
  |error x=>exact p2.elim
  |ok d=>exact p2
def spInit(K:qA1)(f:Str):Sp:=fun vs H Q _=>∃e C y,vs=[.ref e,y]/\H e=some (xn e (.ref C) none)/\PySem.W.xcIn K C=true/\XSet K C f/\∀d,H d=none->d≠e->Q .non (upd (upd H d (.xd [(f,y)])) e (xn e (.ref C) (some d)))
end
section
variable{K:qA1}{C D:Addr}{dd:Option Addr}{cd:ClassData}{sl:Array (Option Value)}{b:Bool}
def xcD(C:Addr)(cd:ClassData)(sl:Array (Option Value)):Bool:=match cd.mro,sl.toList with
 |.ref C'::bm,[_,_,_,_,some (.builtin n),_]=>C'==C && !cd.hasDel&&PySem.W.excTail bm&&n == "ValueError.__new__" && cd.hasDict
 |_,_=>false
theorem zNM(h:K.lookup C=some ⟨.type "type",dd,.cls cd,sl⟩)(h':xcD C cd sl=true):PySem.W.xcIn K C=true:=by
 unfold PySem.W.xcIn;rw[h];exact h'
end
structure XCls(K:qA1)(mg:Str->Option Value)(c:Str)(C:Addr):Prop where
 cl:clK K c=some C
 gm:mg c=some (.ref C)
 is:Xc.XIs K C
theorem zYS{K:qA1}{c:Str}{C:Addr}(h:qBr K qIf c=some (some (.ref C))):clK K c=some C:=by unfold clK;rw[h]
theorem zUD{P:qIb}{w:World}{K:qA1}{mg:Str->Option Value}{base:Heap}{N:List Str}{qual:Str}{scope:Scope}{f:Addr}{cd:Value}{A:qIc}{outer:List Env}{s:qI8}{H:Hp}{E:XK} :
  qM2 (model P w) (A.deeper (qFh qual scope s.heap.objs.size f cd)) (qFh qual scope s.heap.objs.size f cd) (cxOf (CXe P w) P w K mg base N qual scope f cd A outer s H E).xe:=PassesOwn.leaving
def spE(K:qA1)(mg:Str->Option Value)(L:Nat)(f:Mi.FM):Sp:=fun vs H Q E=>@spM ⟨K⟩ mg L f vs H Q E
section
variable[Kc]{mg:Str->Option Value}{E:XK}{L n k l:Nat}{te ta tb:TE}{e ea eb ma:EM}{t:TA}{m:AM}
theorem zME{f:FM}{E':XK}(A:DA mg E t m 0):DE mg E (zK5 (sp0 Kc.K mg n f) [] E' t) (Mi.eCallN f m) n:=zS5 A
theorem zS6{f:FM}(A:DA mg E t m 0):DE mg E (zK5 (spE Kc.K mg n f) [] E t) (Mi.eCall f m) n:=zAS A
end
def zGG(K:qA1):Sp:=fun vs H Q _=>∃(a:Addr)(ns:List Int),vs=[.ref a]/\Same (tabK K) H/\SqL K H a (ns.map V.int)/\ns.length<=63/\(∀i∈ns,i.natAbs.log2<2 ^ 20)/\∀H',Same (tabK K) H'->Q (.bl true) H'
theorem zRQ{K:qA1}{mg:Str->Option Value}{L:Nat}{f:FM}(hf:∀ns:List Int,ns.length<=63->(∀i∈ns,i.natAbs.log2<2 ^ 20)->f [.scr ns]=okR (.bl true)):∀vs H Q E,zGG K vs H Q E->sp0 K mg L f vs H Q E:=by
 letI:Kc:=⟨K⟩
 rintro vs H Q E ⟨a,ns,rfl,tb,hS,hl,hw,q⟩
 refine⟨H,[.scr ns],tb,Same.refl _,⟨_,_,rfl,⟨a,rfl,.inl hS⟩,rfl⟩,?_⟩;rw[hf ns hl hw];intro v G' H' S fr o
 cases(show v=.bl true by cases L<;>exact o)
 exact q H' (tb.trans fr.ext.h)
end L3
namespace Mi
open PySem
section
variable(ρ:Rh)(r:Ro)(a b c:EM)(s t:SM)(q q':TM)(am:AM)
@[simp] theorem x_eC(d:Dt):eC d ρ=okR d:=rfl
@[simp] theorem x_eV(i:Nat):eV i ρ=match ρ[i]? with|some (some d)=>okR d|_=>none:=rfl
@[simp] theorem x_eB(f:Dt->Dt->Option Dt):eB f a b ρ=zA2 (a ρ) fun x=>zA2 (b ρ) fun y=>optR (f x y):=rfl
@[simp] theorem x_eU(f:Dt->Option Dt):eU f a ρ=zA2 (a ρ) fun x=>optR (f x):=rfl
@[simp] theorem zBM:aNil ρ=okR []:=rfl
@[simp] theorem zB0:aCons a am ρ=zA2 (a ρ) fun x=>zA2 (am ρ) fun xs=>okR (x::xs):=rfl
@[simp] theorem zE8(f:FM):eCall f am ρ=zA2 (am ρ) f:=rfl
@[simp] theorem zMO(f:List Dt->Option Dt):eBi f am ρ=zA2 (am ρ) fun xs=>optR (f xs):=rfl
@[simp] theorem zVU:eLst am ρ=zA2 (am ρ) fun xs=>@ite _ (xs.length<=100000) (qA4 _) (okR (.lst xs)) none:=rfl
@[simp] theorem zVS:eTup am ρ=zA2 (am ρ) fun xs=>@ite _ (xs.length<=100000) (qA4 _) (okR (.tup xs)) none:=rfl
@[simp] theorem x_eIsi(n:String):eIsi n a ρ=zA2 (a ρ) fun x=>optR (isiD n x):=rfl
@[simp] theorem x_eAnd:eAnd a b ρ=zA2 (a ρ) fun x=>match x with | .bl k=>if k=true then b ρ else okR (.bl false)|_=>none:=rfl
@[simp] theorem zVT:eOr a b ρ=zA2 (a ρ) fun x=>match x with | .bl k=>if k=true then okR (.bl true)else b ρ|_=>none:=rfl
@[simp] theorem x_eNot:eNot a ρ=zA2 (a ρ) fun x=>match x with | .bl k=>okR (.bl (!k))|_=>none:=rfl
@[simp] theorem x_eChain(f g:Dt->Dt->Option Dt):zY9 f g a b c ρ=zA2 (a ρ) fun x=>zA2 (b ρ) fun y=>zA2 (optR (f x y)) fun z=>match z with | .bl k=>if k=true then zA2 (c ρ) fun w=>optR (g y w)else okR (.bl false)|_=>none:=rfl
@[simp] theorem zZ3:eIf q a b ρ=zA2 (q ρ) fun k=>if k=true then a ρ else b ρ:=rfl
@[simp] theorem x_tB:tB a ρ=zA2 (a ρ) fun x=>match x with | .bl k=>okR k|_=>none:=rfl
@[simp] theorem x_tM:tM a ρ=zA2 (a ρ) fun x=>match x with | .bl k=>okR k | .int i=>okR (i != 0) | .non=>okR false|_=>none:=rfl
@[simp] theorem x_tAn:tAn q q' ρ=zA2 (q ρ) fun k=>if k=true then q' ρ else okR false:=rfl
@[simp] theorem zZ1:tOr q q' ρ=zA2 (q ρ) fun k=>if k=true then okR true else q' ρ:=rfl
@[simp] theorem zZ2:tNo q ρ=zA2 (q ρ) fun k=>okR (!k):=rfl
@[simp] theorem zVR:tYes ρ=okR true:=rfl
@[simp] theorem zSD:sNil r=okR (.nx r):=rfl
@[simp] theorem zF1:sSeq s t r=zA2 (s r) fun o=>match o with | .nx ρ'=>t ρ'|o=>okR o:=rfl
@[simp] theorem zNO:sIf q s t r=zA2 (q (full r)) fun k=>if k=true then s r else t r:=rfl
@[simp] theorem x_sDrop:zZG a r=zA2 (a (full r)) fun _=>okR (.nx r):=rfl
@[simp] theorem x_sBreak:zWH r=okR (.bk r):=rfl
@[simp] theorem x_sCont:zZH r=okR (.ct r):=rfl
@[simp] theorem x_sNever:zWF r=none:=rfl
@[simp] theorem x_sRetN:zZF r=okR (.rt .non):=rfl
@[simp] theorem zF0(i n:Nat)(vs:List Nat):sSet i n vs a r=zA2 (a (full r)) fun d=>if d.dep<=n then okR (.nx (r.set i (some (d,n))))else zA2 (a (frz (frzAt vs r))) fun d'=>okR (.nx ((frzAt vs r).set i (some (d',n)))):=rfl
@[simp] theorem zNN(L n:Nat)(vs:List Nat):sRet L n vs a r=zA2 (a (full r)) fun d=>if d.dep<=n/\d.dep<=L then okR (.rt d)else if n=L then zA2 (a (frz (frzAt vs r))) fun d'=>okR (.rt d')else none:=rfl
@[simp] theorem zTP(L i:Nat):sRetV L i r=match r[i]? with|some (some (d,k))=>if k=L\/L=0\/(d.dep<=k/\d.dep<=L/\k<1000)then okR (.rt d)else none|_=>none:=rfl
@[simp] theorem zBD:full []=[]:=rfl
@[simp] theorem zB8(o:Option Sl)(r:Ro):full (o::r)=o.map qHx::full r:=rfl
@[simp] theorem x_frz_nil:frz []=[]:=rfl
@[simp] theorem x_frz_none(r:Ro):frz (none::r)=none::frz r:=rfl
@[simp] theorem x_frz_some(d:Dt)(n:Nat)(r:Ro):frz (some (d,n)::r)=(if n=0\/d.dep=0 then some d else none)::frz r:=rfl
@[simp] theorem x_frzAt_nil(r:Ro):frzAt [] r=r:=rfl
@[simp] theorem x_frzAt_cons(i:Nat)(v:List Nat)(r:Ro):frzAt (i::v) r=frzAt v (frz1 i r):=rfl
@[simp] theorem x_frz1(i:Nat)(r:Ro):frz1 i r=match r[i]? with|some (some (d,_))=>r.set i (some (d,0))|_=>r:=rfl
@[simp] theorem x_startO(n:Nat)(ds:List Dt):startO n ds=ds.map (fun d=>some (d,0))++qAa (n-ds.length) none:=rfl
@[simp] theorem x_runF(P n:Nat)(ds:List Dt):runF P n s ds=if ds.length=P then zA2 (s (startO n ds)) endF else none:=rfl
@[simp] theorem x_end1(r:Ro):endF (.nx r)=okR .non:=rfl
@[simp] theorem x_end2(d:Dt):endF (.rt d)=okR d:=rfl
end
@[simp] theorem zVY(i j:Int):addD (.int i) (.int j)=some (.int (i+j)):=rfl
@[simp] theorem zVX(i j:Str):addD (.str i) (.str j)=@ite _ (i.length+j.length<=100000) (qA4 _) (some (.str (i++j))) none:=rfl
@[simp] theorem v_addL(i j:List Dt):addD (.lst i) (.lst j)=@ite _ (i.length+j.length<=100000) (qA4 _) (some (.lst (i++j))) none:=rfl
@[simp] theorem v_sub(i j:Int):subD (.int i) (.int j)=some (.int (i-j)):=rfl
@[simp] theorem zK0(i j:Int):mulD (.int i) (.int j)=@ite _ (((-18446744073709551616<i/\i<18446744073709551616)\/(-18446744073709551616<j/\j<18446744073709551616))\/i.natAbs.log2+j.natAbs.log2<=67108864) (qA4 _) (some (.int (i*j))) none:=rfl
@[simp] theorem v_div(i j:Int):divD (.int i) (.int j)=@ite _ (0<j/\j<1000000000000000000000000) (qA4 _) (some (.int (i/j))) none:=rfl
@[simp] theorem zZ8(i j:Int):modD (.int i) (.int j)=if 0<j then some (.int (i%j))else none:=rfl
@[simp] theorem v_pow(i j:Int):powD (.int i) (.int j)=@ite _ (0<=j/\j<=1000000/\i.natAbs<18446744073709551616) (qA4 _) (some (.int (i ^ j.toNat))) none:=rfl
@[simp] theorem v_neg(i:Int):negD (.int i)=some (.int (-i)):=rfl
@[simp] theorem v_cmp(p:Int->Int->Bool)(i j:Int):cmpD p (.int i) (.int j)=some (.bl (p i j)):=rfl
@[simp] theorem v_eq(x y:Dt):eqD x y=if x.dep<=40/\y.dep<=40 then some (.bl (Dt.eq x y))else none:=rfl
@[simp] theorem v_ne(x y:Dt):neD x y=if x.dep<=40/\y.dep<=40 then some (.bl (!Dt.eq x y))else none:=rfl
@[simp] theorem v_is(x:Dt):isD x .non=some (.bl (zDE x)):=rfl
@[simp] theorem v_isnt(x:Dt):za6 x .non=some (.bl (!zDE x)):=rfl
@[simp] theorem v_isN1:zDE .non=true:=rfl
@[simp] theorem v_isN2(i:Int):zDE (.int i)=false:=rfl
@[simp] theorem v_isN3(i:List Dt):zDE (.lst i)=false:=rfl
@[simp] theorem v_isN4(i:List Dt):zDE (.tup i)=false:=rfl
@[simp] theorem v_isN5(i:Str):zDE (.str i)=false:=rfl
@[simp] theorem v_isN6(i:Bool):zDE (.bl i)=false:=rfl
@[simp] theorem v_ixL(xs:List Dt)(i:Int):ixD (.lst xs) (.int i)=itA xs i:=rfl
@[simp] theorem v_ixT(xs:List Dt)(i:Int):ixD (.tup xs) (.int i)=itA xs i:=rfl
@[simp] theorem v_ixS(ns:List Int)(i:Int):ixD (.scr ns) (.int i)=(itA ns i).map .int:=rfl
@[simp] theorem v_lenL(xs:List Dt):lenD [.lst xs]=some (.int xs.length):=rfl
@[simp] theorem v_lenT(xs:List Dt):lenD [.tup xs]=some (.int xs.length):=rfl
@[simp] theorem v_lenS(ns:List Int):lenD [.scr ns]=some (.int ns.length):=rfl
@[simp] theorem v_listL(xs:List Dt):listD [.lst xs]=some (.lst xs):=rfl
@[simp] theorem v_listT(xs:List Dt):listD [.tup xs]=some (.lst xs):=rfl
@[simp] theorem v_listS(ns:List Int):listD [.scr ns]=some (.lst (ns.map .int)):=rfl
@[simp] theorem v_dn:Dt.non.dep=0:=rfl
@[simp] theorem v_db(b:Bool):(Dt.bl b).dep=0:=rfl
@[simp] theorem v_di(b:Int):(Dt.int b).dep=0:=rfl
@[simp] theorem v_ds(b:Str):(Dt.str b).dep=0:=rfl
@[simp] theorem v_dS(b:List Int):(Dt.scr b).dep=1000:=by rw[Dt.dep]
@[simp] theorem v_dl(xs:List Dt):(Dt.lst xs).dep=Dt.depL xs+1:=by rw[Dt.dep]
@[simp] theorem v_dt(xs:List Dt):(Dt.tup xs).dep=Dt.depL xs+1:=by rw[Dt.dep]
@[simp] theorem v_dnil:Dt.depL []=0:=by rw[Dt.depL]
@[simp] theorem zH0(x:Dt)(r:List Dt):Dt.depL (x::r)=max x.dep (Dt.depL r):=by rw[Dt.depL]
@[simp] theorem v_e1(i j:Int):Dt.eq (.int i) (.int j)=decide (i=j):=by rw[Dt.eq];by_cases h:i=j<;>simp[h]
@[simp] theorem v_e2(i j:Str):Dt.eq (.str i) (.str j)=decide (i=j):=by rw[Dt.eq];by_cases h:i=j<;>simp[h]
@[simp] theorem v_e3(i j:Bool):Dt.eq (.bl i) (.bl j)=decide (i=j):=by rw[Dt.eq];by_cases h:i=j<;>simp[h]
@[simp] theorem v_e4(i j:List Dt):Dt.eq (.lst i) (.lst j)=Dt.eqL i j:=by rw[Dt.eq]
@[simp] theorem v_e5(i j:List Dt):Dt.eq (.tup i) (.tup j)=Dt.eqL i j:=by rw[Dt.eq]
@[simp] theorem v_e6:Dt.eq .non .non=true:=by rw[Dt.eq]
@[simp] theorem zG4:∀(ns:List Int),Dt.depL (ns.map Dt.int)=0
 |[]=>by simp
 |n::r=>by rw[qAk,zH0,zG4 r];rfl
@[simp] theorem zS4:∀(xs ys:List Dt),Dt.depL (xs++ys)=max (Dt.depL xs) (Dt.depL ys)
 |[],ys=>by simp
 |x::r,ys=>by rw[qGh,zH0,zH0,zS4 r ys];exact(Nat.max_assoc _ _ _).symm
@[simp] theorem zEY:∀(ns ms:List Int),Dt.eqL (ns.map Dt.int) (ms.map Dt.int)=decide (ns=ms)
 |[],[]=>by simp[Dt.eqL]
 |[],_::_=>by simp[Dt.eqL]
 |_::_,[]=>by simp[Dt.eqL]
 |n::r,m::q=>by rw[qAk,qAk,Dt.eqL,zEY r q,v_e1];simp
theorem zPG{α:Type}{xs:List α}{i:Int}{j:Nat}{v:α}(e:i=(j:Int))(h:xs[j]?=some v):itA xs i=some v:=by
 have hj:j<xs.length:=(qA3.mp h).1;subst e;unfold itA ixA;rw[if_pos (by lia),if_pos (by lia)]
 simpa using h
theorem zPB{n:Nat}{i:Int}(h0:0<=i)(h1:i<n):ixA n i=some i.toNat:=by
 unfold ixA;rw[if_pos h0,if_pos h1]
theorem zRU{ns:List Int}{i:Int}(h0:0<=i)(h1:i<ns.length):itA (ns.map Dt.int) i=some (.int (ns.getD i.toNat 0)):=by
 refine zPG (j:=i.toNat) (by lia) ?_;rw[qAh,qA0,qA2 (by lia)];rfl
theorem zUY{ns:List Int}{i:Int}(h0:0<=i)(h1:i<ns.length):itA ns i=some (ns.getD i.toNat 0):=by
 refine zPG (j:=i.toNat) (by lia) ?_;rw[qA0,qA2 (by lia)];rfl
@[simp] theorem set_int(ns:List Int)(i:Nat)(x:Int):(ns.map Dt.int).set i (.int x)=(ns.set i x).map Dt.int:=by rw[qEz]
theorem zMI{ρ:Rh}{k:Nat}{tg:Tg}{c:TM}{e:EM}(f:Dt->Dt):∀(ds acc:List Dt),(∀d∈ds,∃bs,zAN tg d=some bs/\c (zAM (ρ++qAa k none) bs)=okR true/\e (zAM (ρ++qAa k none) bs)=okR (f d))->compGo ρ k tg c e ds acc=okR (acc++ds.map f)
 |[],acc,_=>by simp[compGo]
 |d::ds,acc,h=>by
  obtain⟨bs,h1,h2,h3⟩:=h d (by simp);rw[compGo,h1];simp only;rw[h2,zA0,if_pos rfl,h3,zA0,zMI f ds (acc++[f d]) fun d hd=>h d (by simp[hd])];simp
theorem zHT{tg:Tg}{b:SM}(Pv:Nat->Ro->Prop):∀(ds:List Dt)(i:Nat)(r:Ro),Pv i r->(∀(j:Nat)(d:Dt)(r:Ro),ds[j]?=some d->Pv (i+j) r->∃bs r',zAN tg d=some bs/\b (zAP r bs)=okR (.nx r')/\Pv (i+j+1) r') ->
  ∃r',forGo tg b ds r=okR (.nx r')/\Pv (i+ds.length) r'
 |[],i,r,h,_=>⟨r,by simp[forGo],by simpa using h⟩
 |d::ds,i,r,h,hs=>by
  obtain⟨bs,r1,h1,h2,h3⟩:=hs 0 d r (by simp) (by simpa using h);obtain⟨r2,h4,h5⟩:=zHT Pv ds (i+1) r1 (by simpa using h3) fun j e r he hp=>by
   have:=hs (j+1) e r (by simpa using he) (by rw[show i+(j+1)=i+1+j by lia];exact hp)
   rw[show i+1+j+1=i+(j+1)+1 by lia];exact this
  refine⟨r2,?_,by rw[qAu,show i+(ds.length+1)=i+1+ds.length by lia];exact h5⟩;rw[forGo,h1];simp only;rw[h2,zA0];exact h4
theorem zI8{c:TM}{b:SM}(Pv:Ro->Prop)(μ:Ro->Nat)(Rv:Ro->Prop)(hc:∀r,Pv r->(c (full r)=okR false/\Rv r)\/(c (full r)=okR true/\∃r',b r=okR (.nx r')/\Pv r'/\μ r'<μ r)) :
  ∀(m:Nat)(r:Ro),Pv r->μ r<m->∃r',whGo c b m r=okR (.nx r')/\Rv r'
 |0,r,_,h=>by lia
 |m+1,r,h,hm=>by
  rw[whGo]
  rcases hc r h with⟨h1,h2⟩|⟨h1,r1,h2,h3,h4⟩
  ·rw[h1,zA0,if_neg (by decide)];exact⟨r,rfl,h2⟩
  ·rw[h1,zA0,if_pos rfl,h2,zA0];exact zI8 Pv μ Rv hc m r1 h3 (by lia)
theorem zMX{c:TM}{b:SM}(Pv:Ro->Prop)(μ:Ro->Nat)(Rv:Ro->Prop){r:Ro}(h0:Pv r)(hm:μ r<1000000)(hc:∀r,Pv r->(c (full r)=okR false/\Rv r)\/(c (full r)=okR true/\∃r',b r=okR (.nx r')/\Pv r'/\μ r'<μ r)):∃r',sWhile c b r=okR (.nx r')/\Rv r':=
 zI8 Pv μ Rv hc WN r h0 (by rw[zVM];exact hm)
section
variable(ρ:Rh)(r:Ro)(a:EM)(am:AM)(s:SM)
@[simp] theorem x_noE_ok{α:Type}(x:α):noE (okR x)=okR x:=rfl
@[simp] theorem x_noE_none{α:Type}:noE (none:R α)=none:=rfl
@[simp] theorem x_noE_err{α:Type}(e:Xn):noE (some (.error e):R α)=none:=rfl
@[simp] theorem x_eCallN(f:FM):eCallN f am ρ=zA2 (am ρ) fun ds=>noE (f ds):=rfl
@[simp] theorem x_eMkX(c f:Str):eMkX c f am ρ=zA2 (am ρ) fun ds=>match ds with|[d]=>okR (.exc c f d)|_=>none:=rfl
@[simp] theorem x_sRaise(c f:Str):zWE c f am r=zA2 (am (full r)) fun ds=>match ds with|[d]=>some (.error ⟨c,f,d⟩)|_=>none:=rfl
@[simp] theorem x_eAtX(hs:List Str)(f:Str):eAtX hs f a ρ=zA2 (a ρ) fun d=>match d with | .exc c g x=>if c∈hs/\g=f then okR x else none|_=>none:=rfl
@[simp] theorem x_eIsX(ys ns:List Str):eIsX ys ns a ρ=zA2 (a ρ) fun d=>match d with | .exc c _ _=>if c∈ys then okR (.bl true)else if c∈ns then okR (.bl false)else none|_=>none:=rfl
@[simp] theorem x_gone_nx(i:Nat):zY2 i (.nx r)=.nx (r.set i none):=rfl
@[simp] theorem x_gone_rt(i:Nat)(d:Dt):zY2 i (.rt d)=.rt d:=rfl
end
example (d:Dt):True:=trivial
end Mi
namespace L3
open PySem PySem.Spec
open L2 hiding Rep RepL
open Mi (Dt Xn R okR zA2 optR zA0 zA5 zA8 zA4 zA7 Rh Sl Ro EM TM AM FM IM SM Tg Out zAN zAM zAP full frz frz1 frzAt)
section
variable[Kc]{mg:Str->Option Value}{E:XK}{L n n1:Nat}{t1 t2:TE}{e1 e2:EM}
end
section
variable[Kc]{mg:Str->Option Value}{E:XK}{L n:Nat}{te:TE}{e:EM}
end
end L3
namespace L2
open PySem PySem.Spec PyProof.Rows
section
variable{X:Cx}
noncomputable def zWM:R2:=fun x y H Q=>match x,y with
 |.int i,.int j=>Q (.int (qJz i j)) H
 |_,_=>False
theorem zZB:OpR X (binaryOp .BitXor) zWM:=by
 intro pins s σ H x y v u Q I rx ry h;cases x<;>cases y<;>first
  |exact zXC pins s σ H _ _ v u Q I rx ry ⟨_,_,rfl,rfl,h⟩
  |exact qA5 h
def zWP:R2:=fun x y H Q=>match x,y with
 |.ref l,.int k=>∃xs,H l=some (.lst xs)/\(-(2 ^ 63)<=k/\k<2 ^ 63)/\xs.length*k.toNat<=sizeLine/\∀p,H p=none->Q (.ref p) (upd H p (.lst (qAa k.toNat xs).flatten))
 |_,_=>False
theorem zZC:OpR X (binaryOp .Mult) zWP:=by
 intro pins s σ H x y v u Q I rx ry h;cases x<;>cases y<;>first
  |(obtain⟨xs,h1,h2,h3,h4⟩:=h;exact zXE pins s σ H _ _ v u Q I rx ry ⟨_,_,xs,rfl,rfl,h1,h2.1,h2.2,h3,h4⟩)
  |exact qA5 h
def extM:V->List V->Hp->VK->Prop:=fun x vs H Q=>match x,vs with
 |.ref l,[.ref b]=>∃xs zs,H l=some (.lst xs)/\H b=some (.lst zs)/\xs.length+zs.length<=sizeLine/\Q .non (upd H l (.lst (xs++zs)))
 |_,_=>False
theorem zUO:MtR X "list.extend" extM:=by
 intro pins s σ H x vs v us Q I rx rv h;cases x with
 |ref l=>
  cases vs with
  |nil=>exact qA5 h
  |cons hd1 tl1=>
   cases hd1 with
   |ref b=>
    cases tl1 with
    |nil=>
     obtain⟨xs,zs,h1,h2,h3,h4⟩:=h;exact zP0 pins s σ H _ _ v us Q I rx rv ⟨l,b,xs,zs,rfl,rfl,h1,h2,h3,h4⟩
    |cons _ _=>exact qA5 h
   |_=>exact qA5 h
 |_=>exact qA5 h
end
section
variable{X:Cx}{K:qA1}
end
end L2
namespace Mi
open PySem
noncomputable section
noncomputable def xorD:Dt->Dt->Option Dt
 |.int i,.int j=>some (.int (qJz i j))
 |_,_=>none
noncomputable def repD:Dt->Dt->Option Dt
 |.lst xs,.int k=>@ite _ ((-4611686018427387904<=k/\k<4611686018427387904)/\xs.length*k.toNat<=100000) (qA4 _) (some (.lst (qAa k.toNat xs).flatten)) none
 |_,_=>none
def tL(a:EM):TM:=fun ρ=>zA2 (a ρ) fun x=>match x with
 |.bl k=>okR k
 |.int i=>okR (i != 0)
 |.non=>okR false
 |.lst xs=>okR (!xs.isEmpty)
 |.tup xs=>okR (!xs.isEmpty)
 |_=>none
def iRv(e:AM):IM:=fun ρ=>zA2 (e ρ) fun vs=>match vs with
 |[.lst xs]=>okR xs.reverse
 |_=>none
def eMl(f:List Dt->List Dt->Option Dt)(a:EM)(am:AM):EM:=fun ρ=>zA2 (a ρ) fun x=>match x with
 |.lst xs=>zA2 (am ρ) fun ds=>optR (f xs ds)
 |_=>none
def sExt(i n:Nat)(e:EM):SM:=fun ρ=>match ρ[i]? with
 |some (some (.lst ds,k+1))=>zA2 (e (full ρ)) fun d=>match d with
  |.lst es=>@ite _ (ds.length+es.length<=100000/\Dt.depL es<=n/\Dt.depL es<=k) (qA4 _) (okR (.nx (ρ.set i (some (.lst (ds++es),k+1))))) none
  |_=>none
 |_=>none
noncomputable def low(i:Nat)(ρ:Ro):Ro:=match ρ[i]? with
 |some (some (.lst ds,_+1))=>ρ.set i (some (.lst ds,1))
 |_=>ρ
def sAppF(i:Nat)(vs:List Nat)(e:EM):SM:=fun ρ=>match(frzAt vs (low i ρ))[i]? with
 |some (some (.lst ds,1))=>zA2 (e (frz (frzAt vs (low i ρ)))) fun d=>@ite _ (ds.length<=100000) (qA4 _) (okR (.nx ((frzAt vs (low i ρ)).set i (some (.lst (ds++[d]),1))))) none
 |_=>none
end
end Mi
namespace L3
open PySem PySem.Spec
open L2 hiding Rep RepL
open Mi (Dt Xn R okR zA2 optR zA0 zA5 zA8 zA4 zA7 Rh Sl Ro EM TM AM FM IM SM Tg Out zAN zAM zAP full frz frz1 frzAt)
section
variable[Kc]{mg:Str->Option Value}{E:XK}{L n k l:Nat}{te ta tb:TE}{e ea eb ma:EM}{t:TA}{m:AM}
theorem zWJ:ROp zWM Mi.xorD n:=by
 intro mg E G H d e x y Q s h1 h2 p;cases d with
 |int i=>
  cases e with
  |int j=>cases(show x=.int i from h1);cases(show y=.int j from h2);exact zO9 s p rfl rfl rfl
  |_=>exact p.elim
 |_=>exact p.elim
theorem zR4{G:Hp}{ds es:List Dt}{xs ys:List V}(ra:RepL G ds xs)(rb:RepL G es ys):RepL G (ds++es) (xs++ys):=by
 refine zDI (by simp[ra.length,rb.length]) fun j d' x' e1 e2=>?_
 by_cases hj:j<ds.length
 ·rw[qA6 hj]at e1;rw[qA6 (by rw[ra.length];exact hj)]at e2;exact zBT ra e1 e2
 ·rw[qA7 (by lia)]at e1;rw[qA7 (by rw[ra.length];lia),ra.length]at e2;exact zBT rb e1 e2
theorem zLN{G:Hp}{ds:List Dt}{xs:List V}(r:RepL G ds xs):∀k:Nat,RepL G (qAa k ds).flatten (qAa k xs).flatten
 |0=>rfl
 |k+1=>by rw[qBj,qBj,qAv,qAv];exact zR4 r (zLN r k)
theorem zWK:ROp zWP Mi.repD 1:=by
 intro mg E G H d e x y Q s h1 h2 p;cases d with
 |lst ds=>
  cases e with
  |int j=>
   obtain⟨a,xs,rfl,ha,ra⟩:=h1
   cases(show y=.int j from h2)
   rw[Mi.repD]at p
   split at p
   ·rename_i hz
    exact⟨xs,s _ _ ha,⟨by lia,by lia⟩,by rw[ra.length];exact big' hz.2,fun q hq=>PostE.lst p (Ext.refl s) (zLN ra _) hq⟩
   ·exact p.elim
  |_=>exact p.elim
 |_=>exact p.elim
end
section
variable[Kc]{G0 H0 S0:Hp}{σ:St}{ρ:Ro}{G H:Hp}{As:Nat->Addr->Prop}
theorem Sat.low(a:Sat G0 H0 S0 σ ρ G H As)(i:Nat):∃G1 As1,Sat G0 H0 S0 σ (Mi.low i ρ) G1 H As1:=by
 unfold Mi.low
 split
 ·rename_i ds k e1
  obtain⟨v,h1,q,xs,T,rfl,hq,kd⟩:=a.at i _ _ e1;obtain⟨s1,s2⟩:=zCR (S:=fun b=>∃r,T r b) a.ext.in';have ui:∀b,(∃r,T r b)->As i b:=fun b ⟨r,z⟩=>kd.sub r b z
  have x:Ext G0 H0 (over G H fun b=>∃r,T r b) H:=⟨a.ext.g.trans s1,a.ext.h,s2,fun b hb=>by
   have z:¬ ∃r,T r b:=fun z=>hb (a.new i b (ui b z)).1
   rw[zBH z];exact a.ext.old b hb⟩
  refine⟨over G H fun b=>∃r,T r b,fun j b=>As j b/\¬ ∃r,T r b,x,a.stb.trans s1,a.tab,by simp[a.len],fun j e n h=>?_,fun j l b p q=>a.dis j l b p.1 q.1,fun j b p=>?_⟩
  ·have hj:j<ρ.length:=by
    have:=(qA3.mp h).1
    simpa using this
   by_cases z:i=j
   ·subst z;rw[qAm hj]at h;cases h;exact⟨.ref q,h1,q,xs,fun _ _=>False,rfl,hq,⟨kd.len,fun r d x g1 g2=>(kd.own r d x g1 g2).rep s1 fun b o hb e=>by rw[zDK ⟨r,hb⟩];exact e,⟨kd.top,fun⟨r,z⟩=>kd.out r z⟩,fun _ z=>z,fun _ _ _ z=>z.elim,fun _ _ z=>z.elim⟩⟩
   ·rw[qAt z]at h;obtain⟨u,q1,q2⟩:=a.at j e n h;exact⟨u,q1,(q2.mono s1 (Same.refl _)).sub fun b hb=>⟨hb,fun w=>z (a.dis i j b (ui b w) hb)⟩⟩
  ·obtain⟨n1,n2,n3⟩:=a.new j b p.1;exact⟨n1,by rw[zBH p.2];exact n2,n3⟩
 ·exact⟨G,As,a⟩
end
section
variable[Kc]{mg:Str->Option Value}{E:XK}{L n k l:Nat}{te ta tb:TE}{e ea eb ma:EM}{t:TA}{m:AM}
theorem zVD(i:Nat)(vs:List Nat)(A:DE mg E te e n):DS mg E L (zF4 (tML appM (vM i) (zEA te tNil))) (Mi.sAppF i vs e):=by
 intro G0 H0 S0 σ ρ G H As D a p;obtain⟨G1,As1,a1⟩:=a.low i;obtain⟨G2,As2,a2⟩:=Sat.frzAt vs a1;unfold Mi.sAppF at p
 generalize hρ:frzAt vs (Mi.low i ρ)=ρ2 at p a2
 split at p
 ·rename_i ds e1
  obtain⟨v,h1,q,xs,T,rfl,hq,kd⟩:=a2.at i _ _ e1;unfold zF4 tML vM;rw[h1];refine⟨xs,hq,?_⟩;refine(zAK A).step (errS.from a2.ext) a2.ext.in' a2.frz p fun d y G3 H3 S _ fr o p1=>?_
  split at p1
  ·rename_i hz
   refine⟨xs,fr.ext.h _ _ hq,by rw[kd.len];exact L2.big (by lia),?_⟩;have a3:=a2.wider fr.ext;have kd1:Kids (Own G3 H3 0) (As2 i) q ds xs T:=kd.imp (fun _ _ _ _ w=>w.mono fr.ext.g fr.ext.h) fun _ z=>z
   refine p1 σ G3 _ _ (a3.store (S:=As2 i) kd.top h1 ⟨q,_,fun _ _=>False,rfl,zAD,⟨by simp[kd.len],fun r d' z g1 g2=>?_,kd.top,fun _ z=>z,fun _ _ _ z=>z.elim,fun _ _ z=>z.elim⟩⟩ fun b z=>.inl z)
   by_cases hr:r<ds.length
   ·rw[qA6 hr]at g1;rw[qA6 (by rw[kd.len];exact hr)]at g2;exact kd1.own r d' z g1 g2
   ·rw[qA7 (by lia)]at g1;rw[qA7 (by rw[kd.len];lia),kd.len]at g2;have hq0:r-ds.length=0:=by
     have:=(qA3.mp g1).1
     simp at this;lia
    rw[hq0]at g1 g2;simp at g1 g2;subst g1;subst g2;exact o
  ·exact p1.elim
 ·exact p.elim
theorem zYB(i:Nat)(A:DE mg E te e (n+1))(hn:n<1000:=by decide):DS mg E L (zF4 (tML extM (vM i) (zEA te tNil))) (Mi.sExt i n e):=by
 intro G0 H0 S0 σ ρ G H As D a p;obtain⟨J,x,s,w⟩:=a.full;unfold Mi.sExt at p
 split at p
 ·rename_i ds k e1
  obtain⟨v,h1,q,xs,T,rfl,hq,kd⟩:=a.at i _ _ e1;unfold zF4 tML vM;rw[h1];refine⟨xs,hq,?_⟩;refine A.step (errS.from x) x.in' w p fun d y G1 H1 S _ fr o p1=>?_
  split at p1
  ·rename_i es
   obtain⟨b0,zs,T2,rfl,hb0,kd2⟩:=o
   split at p1
   ·rename_i hz
    refine⟨xs,zs,fr.ext.h _ _ hq,hb0,by rw[kd.len,kd2.len];exact big' (by lia),?_⟩;have hp:=kd.top;have a1:=a.grow fr.ext.h;have q2:∀b,S b->H b=none/\G b=none/\H1 b≠none:=fun b hb=>let⟨n1,n2,n3⟩:=fr.new b hb;⟨n1,a.ext.in'.free n1,n3⟩
    have nS:∀r,¬T2 r q:=fun r z=>(a.new i q hp).2.2 (q2 q (kd2.sub r q z)).1
    have ap:∀r r' b,T r b->T2 r' b->False:=fun r r' b h1 h2=>(a.new i b (kd.sub r b h1)).2.2 (q2 b (kd2.sub r' b h2)).1
    refine p1 σ G _ _ (a1.store (S:=fun b=>As i b\/∃r,T2 r b) hp h1 ⟨q,_,fun r b=>(r<ds.length/\T r b)\/(ds.length<=r/\T2 (r-ds.length) b),rfl,zAD,⟨by simp[kd.len,kd2.len],fun r d' z g1 g2=>?_,.inl hp,fun r z=>?_,fun r r' b z1 z2=>?_,fun r b z=>?_⟩⟩ fun b z=>?_)
    ·by_cases hr:r<ds.length
     ·rw[qA6 hr]at g1;rw[qA6 (by rw[kd.len];exact hr)]at g2;exact(((kd.own r d' z g1 g2).mono (Same.refl _) fr.ext.h).upd (kd.out r)).sub fun b z=>.inl ⟨hr,z⟩
     ·rw[qA7 (by lia)]at g1;rw[qA7 (by rw[kd.len];lia),kd.len]at g2;exact(((kd2.own _ d' z g1 g2).at (zDP hz.2.1 g1) (zDP hz.2.2 g1) hn).upd (nS _)).sub fun b z=>.inr ⟨by lia,z⟩
    ·rcases z with⟨_,z⟩|⟨_,z⟩
     ·exact kd.out r z
     ·exact nS _ z
    ·rcases z1 with⟨c1,t1⟩|⟨c1,t1⟩<;>rcases z2 with⟨c2,t2⟩|⟨c2,t2⟩
     ·exact kd.dis r r' b t1 t2
     ·exact(ap _ _ b t1 t2).elim
     ·exact(ap _ _ b t2 t1).elim
     ·have:=kd2.dis _ _ b t1 t2;lia
    ·rcases z with⟨_,z⟩|⟨_,z⟩
     ·exact .inl (kd.sub r b z)
     ·exact .inr ⟨_,z⟩
    ·rcases z with z|⟨r,z⟩
     ·exact .inl z
     ·obtain⟨n1,n2,n3⟩:=q2 b (kd2.sub r b z);exact .inr ⟨a.ext.h.free n1,n2,n3,fun j y=>(a.new j b y).2.2 n1⟩
   ·exact p1.elim
  ·exact p1.elim
 ·exact p.elim
end
structure XNo(K:qA1)(mg:Str->Option Value)(c:Str)(C:Addr):Prop extends XCls K mg c C where
 kp:qBh K (.ref C)=true
 ini:qB5 K (.ref C) "__init__" = some (some (.builtin "ValueError.__init__"))
theorem zX8{X:Cx}{c:Str}{C:Addr}{e:Expr}{es:List Expr}{t:TA}{p pos:Pos}(h:XNo X.K X.mg c C)(hg:Gl X c)(ha:PA X (e::es) t)(hdb:(c==("__debug__":Str))=false:=by decide)
  (he:starEach (e::es) X.env=(false,eval e X.env)::starEach es X.env:=by rfl) (hpl:(backTo pos (starEach es X.env)).any (·.1)=false:=by rfl):PE X (.Call (.Name c p) (e::es) [] pos) (zK3 C t):=
 zOL h.is.xc h.ini hg h.gm h.kp ha hdb he hpl
section
variable[Kc]{mg:Str->Option Value}{E:XK}{L n k l:Nat}{te ta tb:TE}{e ea eb ma:EM}{t:TA}{m:AM}
theorem zPV{c:Str}{C:Addr}(h:XNo Kc.K mg c C)(A:DA mg E t m 0):DS mg E L (zSG Kc.K E (zK3 C t)) (Mi.sRaise0 c m):=by
 intro G0 H0 S0 σ ρ G H As D a p;obtain⟨J,x,s,w⟩:=a.full;refine A.step (errS.from x) x.in' w p fun ds vs G1 H1 S T _ fr o p1=>?_
 split at p1
 ·rename_i hz
  refine⟨by rw[o.len];exact big' (by lia),fun e he=>⟨e,C,none,rfl,zAD,h.is.xc,?_⟩⟩;have hu:upd (upd H1 e (xn e (.ref C) none)) e (xo e (.ref C) none)=upd H1 e (xo e (.ref C) none):=by
   funext z
   by_cases h1:z=e
   ·rw[h1,zAD,zAD]
   ·rw[zAE h1,zAE h1,zAE h1]
  rw[hu];exact p1 (.ref e) none _ _ ((x.trans fr.ext).trans (Ext.new fr.ext.in' he _)) ⟨e,C,rfl,zAD,h.cl,.inl ⟨rfl,rfl⟩⟩
 ·exact p1.elim
end
section
variable[Kc]{G0 H0 S0:Hp}{σ:St}{ρ:Ro}{G H:Hp}{As:Nat->Addr->Prop}
end
section
variable[Kc]{mg:Str->Option Value}{E:XK}{L n k l:Nat}{te ta tb:TE}{e ea eb ma:EM}{t:TA}{m:AM}
end
end L3
namespace L2
open PySem PySem.Spec PyProof.Rows
section
variable{X:Cx}
noncomputable def zLH(z:Str):List V:=z.cps.toList.map fun c=>.str ⟨#[c]⟩
theorem zMW{z:Str}{acc:Array Value}(h:ItemsOf (SignAt z) acc z.cps.size):Vals (zLH z) acc.toList:=by
 obtain⟨h1,h2⟩:=h;have key:∀(cs:List Nat)(us:List Value)(k:Nat),us.length=cs.length->(∀(j:Nat)(v:Value),us[j]?=some v->∃(c:Nat)(u:Tok),cs[j]?=some c/\v=qJg ⟨#[c]⟩ u)->Vals (cs.map fun c=>V.str ⟨#[c]⟩) us:=by
  intro cs
  induction cs with
  |nil=>intro us k e _;cases us with
   |nil=>exact .nil
   |cons a r=>simp at e
  |cons c r ih=>
   intro us k e h;cases us with
   |nil=>simp at e
   |cons a q=>
    obtain⟨c',u,e1,e2⟩:=h 0 a rfl;simp at e1;subst e1;exact .cons ⟨u,e2⟩ (ih q k (by simpa using e) fun j v hj=>h (j+1) v (by simpa using hj))
 refine key z.cps.toList acc.toList 0 (by simp[h1]) fun j v hj=>?_
 obtain⟨c,u,e1,e2⟩:=h2 j v (by rw[<- hj,qB7]);exact⟨c,u,by rw[<- e1,qB7],e2⟩
def rListX(K:qA1):List V->Hp->VK->Prop:=fun vs H Q=>match vs with
 |[.str z]=>z.length<=sizeLine/\∀l,H l=none->Q (.ref l) (upd H l (.lst (zLH z)))
 |_=>zLO K vs H Q
theorem zF6:∀{ns:List Str}{vs:List Value},qJw vs ns->Vals (ns.map V.str) vs
 |_,_,.nil=>.nil
 |_,_,.cons n t h=>.cons ⟨t,rfl⟩ (zF6 h)
def zSO:V->List V->Hp->VK->Prop:=fun x vs H Q=>match x,vs with
 |.str z,[.str y]=>Q (.int (qMr z y)) H
 |_,_=>False
theorem zOZ:MtR X "str.rfind" zSO:=by
 intro pins s σ H x vs v us Q I rx rv h;cases x with
 |str z=>
  cases vs with
  |nil=>exact qA5 h
  |cons hd1 tl1=>
   cases hd1 with
   |str y=>
    cases tl1 with
    |nil=>
     obtain⟨t,rfl⟩:=rx;obtain⟨u,rfl,ru⟩:=zCO rv;obtain⟨t2,rfl⟩:=ru;exact SC.rfind ⟨.int _,H,I.tok _,⟨_,rfl⟩,h⟩
    |cons _ _=>exact qA5 h
   |_=>exact qA5 h
 |_=>exact qA5 h
end
def Itw(z:Str):It:=
 ⟨fun i H=>i<z.cps.size,fun i H x H'=>∃T c,x=.ref T/\H T=none/\H'=upd H T (.tup [.int i,.str ⟨#[c]⟩])/\z.cps[i]?=some c,fun i H=>z.cps.size<=i⟩
theorem zTH{prog:qIb}{w:World}{A:qIc}(hh:A.handled=none)(it:Addr)(x:Str)(t:Tok) :
  Draws prog w A it [it] x.cps.size (fun i v=>∃c u,x.cps[i]?=some c/\v=.str ⟨#[c]⟩ u) (fun i h=>h.IsStrIter it (strIterType x) x t i):=by
 unfold strIterType;cases ha:x.cps.all (· < 128)
 ·exact Draws.strWide hh it x t
 ·exact Draws.strAscii hh it x t
theorem zMT{P:qIb}{w:World}{K:qA1}{ts:List Expr}{kk:Nat}{tp:Pos}(z:Str)(t:Tok)(e it:Addr)(hei:e≠it) :
  Turn P w K (.Tuple ts kk tp) (Itw z) [e,it] e (fun i h=>i<=z.cps.size/\(∃old,IsEnum h e it i old)/\h.IsStrIter it (strIterType z) z t i) where
 mem:=by simp
 obj:=fun i h st b hb=>by
  rcases qAb.mp hb with y|y
  ·subst y;obtain⟨_,⟨old,he⟩,_⟩:=st;exact⟨_,he,fun v z=>by cases z⟩
  ·have z':b=it:=by simpa using y
   subst z';obtain⟨_,_,o,e,c,d⟩:=st;exact⟨o,e,fun v z=>by rw[d]at z;cases z⟩
 keep:=fun i h h' st k=>⟨st.1,by obtain⟨_,⟨old,he⟩,_⟩:=st;exact⟨old,k e (by simp) _ he⟩,by obtain⟨_,_,o,ho,r⟩:=st;exact⟨o,k it (by simp) o ho,r⟩⟩
 item:=by
  intro X hP hw hK hc i pins s σ H E I hf st hg;subst hP hw hK;have hi:i<z.cps.size:=hg;obtain⟨_,⟨old,he⟩,hit⟩:=st;have hhd:X.A.in1.handled=none:=I.ok.hd hc;refine wpAny_pyNext_enum_itemD (zTH hhd it z t) he hit hi hei (by simpa using hei) fun x h' tk hP ho hit' hT hsz hk=>?_
  obtain⟨c,u,hcx,rfl⟩:=hP;refine⟨_,rfl,qKc ho fun h'' he'' hs''=>?_⟩;have hTe:s.heap.objs.size≠e:=qBm (qI9 he);have hTi:s.heap.objs.size≠it:=by obtain⟨o,ho',_⟩:=hit;exact qBm (qI9 ho')
  have kk:∀b u,b∉[e,it]->s.heap.get? b=some u->h''.get? b=some u:=fun b u hb q=>by
   have b1:b≠e:=fun z=>hb (by simp[z])
   have b2:b≠it:=fun z=>hb (by simp[z])
   exact(hs''.2 b b1).trans (hk b u b1 b2 q)
  have hT'':=(hs''.2 _ hTe).trans hT;refine⟨.ref s.heap.objs.size,_,I.turnedNew (t':=tk+1) (o:=.tup [.int i,.str ⟨#[c]⟩]) hf kk (qA8 _) ⟨by show 2<=sizeLine;decide,[.int i tk,.str ⟨#[c]⟩ u],.cons ⟨_,rfl⟩ (.cons ⟨_,rfl⟩ .nil),⟨_,hT'',rfl,_,rfl⟩⟩,rfl,
   ⟨_,c,rfl,I.fresh,rfl,hcx⟩,⟨hi,⟨_,by simpa using he''⟩,by obtain⟨o,ho,r⟩:=hit';exact⟨o,(hs''.2 it hei.symm).trans ho,r⟩⟩,fun b hb=>?_⟩
  have hbs:b<s.heap.objs.size:=by
   rcases qAb.mp hb with z|z
   ·rw[z];exact qI9 he
   ·have z':b=it:=by simpa using z
    rw[z'];obtain⟨o,ho',_⟩:=hit;exact qI9 ho'
  rw[zAE (qAj hbs)];exact(hf b hb).1
 done:=by
  intro X hP hw hK hc i pins s σ H E I hf st hg;subst hP hw hK;obtain⟨hle,⟨old,he⟩,hit⟩:=st;have hi:i=z.cps.size:=qDz hle hg;subst hi;have hhd:X.A.in1.handled=none:=I.ok.hd hc;exact wpAny_pyNext_enum_endD (zTH hhd it z t) he hit fun h' eb=>⟨rfl,I.turnedL (t':=s.toks) hf fun b u hb q=>eb b u (fun z=>hb (by simp[z])) q⟩
 self:=fun _ _ _ _ _ st h=>by obtain⟨_,⟨old,he⟩,_⟩:=st;exact qJd he h
section
variable{X:Cx}{K:qA1}
def zT8(K:qA1)(tl:TA):TI:=fun σ H R=>tl σ H fun vs H1=>match vs with
 |[.ref a]=>(∃xs,SqL K H1 a xs)/\R (Ite K a) H1
 |[.str z]=>R (Itw z) H1
 |_=>False
theorem zRB{ts:List Expr}{kk:Nat}{tp p pos:Pos}{a:Expr}{ta:TA}(hg:Gl X "enumerate")(hm:X.mg "enumerate" = none)(ha:PA X [a] ta)(hs:starEach [a] X.env=[(false,eval a X.env)]:=by rfl)(hK:X.K=K:=by rfl) :
  PI X (.Tuple ts kk tp) (.Call (.Name "enumerate" p) [a] [] pos) (zT8 K ta):=by
 subst hK;intro pins s σ H R I h;refine Call_ (zGM I hg hm boot_enumerate (qC2 (thn (ha pos pins s σ H _ I h) fun us s1 z0=>?_) hs rfl));obtain⟨vs,H1,I1,r1,q1⟩:=z0;have hne:s1.heap.objs.size+1≠s1.heap.objs.size:=by lia
 have hb':∀b∈[s1.heap.objs.size+1,s1.heap.objs.size],s1.heap.objs.size<=b:=fun b hb=>by
  rcases qAb.mp hb with z|z
  ·rw[z];exact qC3 _
  ·have z':b=s1.heap.objs.size:=by simpa using z
   rw[z'];exact qA8 _
 cases vs with
 |nil=>exact qA5 q1
 |cons hd1 tl1=>
  cases hd1 with
  |ref l=>
   cases tl1 with
   |nil=>
    obtain⟨⟨xs,hq⟩,q⟩:=q1;obtain⟨u,rfl,rx⟩:=zCO r1;cases rx;obtain⟨its,rv,pl,hz⟩:=I1.list hq;refine qLb pl.isList fun h' he hit hsz hk=>?_
    refine qJd he ?_;exact⟨s1.heap.objs.size+1,[s1.heap.objs.size+1,s1.heap.objs.size],_,_,H1,rfl,I1.kept (t':=s1.toks) hk,zIC l _ _ hne,⟨⟨_,he⟩,hit⟩,fun b hb=>I1.fpOk (hb' b hb) (I1.hok.fresh (hb' b hb)),q⟩
   |cons _ _=>exact qA5 q1
  |str z=>
   cases tl1 with
   |nil=>
    obtain⟨u,rfl,rx⟩:=zCO r1;obtain⟨t,rfl⟩:=rx;refine call_enumerate_str fun h' he hit hsz hk=>?_
    refine qJd he ?_;exact⟨s1.heap.objs.size+1,[s1.heap.objs.size+1,s1.heap.objs.size],_,_,H1,rfl,I1.kept (t':=s1.toks) hk,zMT z t _ _ hne,⟨qAy _,⟨_,he⟩,hit⟩,fun b hb=>I1.fpOk (hb' b hb) (I1.hok.fresh (hb' b hb)),q1⟩
   |cons _ _=>exact qA5 q1
  |_=>exact qA5 q1
end
section
variable{X:Cx}{x:Str}{j k:Nat}{ps:List Str}{sp:Sp}{e:Expr}{es:List Expr}{t:TA}{p pos:Pos}
end
end L2
namespace L3
open PySem PySem.Spec
open L2 hiding Rep RepL
open Mi (Dt Xn R okR zA2 optR zA0 zA5 zA8 zA4 zA7 Rh Sl Ro EM TM AM FM IM SM OM Tg Out zAN zAM zAP full frz frz1 frzAt)
section
variable{X:Cx}{c:Str}{fl:List Str}{C:Addr}{k:Nat}{E:XK}{e:Expr}{es:List Expr}{t:TA}{p pos:Pos}
end
section
variable[Kc]{mg:Str->Option Value}{E:XK}{L n k l:Nat}{te ta tb:TE}{e ea eb ma:EM}{t:TA}{m:AM}
end
end L3
namespace Mi
open PySem
noncomputable section
def listXD(ds:List Dt):Option Dt:=match ds with
 |[.str z]=>@ite _ (z.length<=100000) (qA4 _) (some (.lst (signsD z))) none
 |ds=>listD ds
def iEnX(e:AM):IM:=fun ρ=>zA2 (e ρ) fun vs=>match vs with
 |[.lst xs]=>okR (enumD 0 xs)
 |[.str z]=>okR (enumD 0 (signsD z))
 |_=>none
end
end Mi
namespace L3
open PySem PySem.Spec
open L2 hiding Rep RepL
open Mi (Dt Xn R okR zA2 optR zA0 zA5 zA8 zA4 zA7 Rh Sl Ro EM TM AM FM IM SM Tg Out zAN zAM zAP full frz frz1 frzAt)
section
variable[Kc]{mg:Str->Option Value}{E:XK}{L n k l:Nat}{te ta tb:TE}{e ea eb ma:EM}{t:TA}{m:AM}
theorem zXW{G:Hp}(z:Str):ItOk (Itw z) G (Mi.enumD 0 (Mi.signsD z)):=by
 intro i G1 H1 s1 s2;rw[zG0];have hl:(Mi.signsD z).length=z.cps.size:=by simp[Mi.signsD]
 rw[hl];refine⟨fun hi=>hi,fun hi=>hi,fun x H2 d hd hy=>?_⟩;obtain⟨T,c,rfl,hT,rfl,hc⟩:=hy;obtain⟨e,h1,rfl⟩:=zG1 _ 0 i d hd;have x1:=Ext.new s2 hT (.tup [.int i,.str ⟨#[c]⟩]);have he:e=.str ⟨#[c]⟩:=by
  unfold Mi.signsD at h1;rw[qAh,qB7,hc]at h1;cases h1;rfl
 subst he;refine⟨_,x1,T,_,rfl,zAD,_,_,rfl,?_,_,_,rfl,rfl,rfl⟩;show V.int (i:Int)=.int ((0+i:Nat):Int);rw[qBo]
theorem zYI(A:DA mg E t m 0):DI mg E (zT8 Kc.K t) (Mi.iEnX m) false:=by
 intro G H σ ρ Q s w p;refine A.step errI s w p fun ds vs G1 H1 S T _ fr o p1=>?_
 have r:=o.repL;cases ds with
 |nil=>exact qA5 p1
 |cons hd1 tl1=>
  cases hd1 with
  |lst es=>
   cases tl1 with
   |nil=>
    obtain⟨x,rfl,a,xs,rfl,ha,ra⟩:=zCM r;exact⟨⟨xs,SqL.of (fr.ext.in' _ _ ha)⟩,p1 _ G1 H1 fr.ext (zT3 ha ra)⟩
   |cons _ _=>exact qA5 p1
  |str z=>
   cases tl1 with
   |nil=>
    obtain⟨x,rfl,hx⟩:=zCM r
    cases(show x=.str z from hx)
    exact p1 _ G1 H1 fr.ext (zXW z)
   |cons _ _=>exact qA5 p1
  |_=>exact qA5 p1
end
end L3
namespace L2
open PySem PySem.Spec PyProof.Rows
section
variable{X:Cx}{e m1:Expr}{te ts:TE}{pos p2:Pos}
theorem zH2:∀{vs:List Value}{zs:List Str},qJw vs zs->vs.length=zs.length
 |_,_,.nil=>rfl
 |_,_,.cons _ _ r=>by simp[zH2 r]
end
end L2
namespace Mi
open PySem
noncomputable section
theorem zTY{a b:Str}(h:a.cps.toList=b.cps.toList):a=b:=by
 obtain⟨⟨x⟩⟩:=a;obtain⟨⟨y⟩⟩:=b
 have:x=y:=h
 rw[this]
theorem uniqZ:∀{a b:List Str},a.Perm b->a.Pairwise (fun a b=>a.cps.toList<=b.cps.toList)->b.Pairwise (fun a b=>a.cps.toList<=b.cps.toList)->a=b
 |[],b,h,_,_=>(List.nil_perm.mp h).symm
 |x::r,[],h,_,_=>by simpa using h.length_eq
 |x::r,y::q,h,ha,hb=>by
  have e:x=y:=by
   rcases qAb.mp (h.mem_iff.mp (qAw (a:=x) (l:=r)))with z|z
   ·exact z
   ·rcases qAb.mp (h.mem_iff.mpr (qAw (a:=y) (l:=q)))with u|u
    ·exact u.symm
    ·exact zTY (List.le_antisymm ((qBf.mp ha).1 y u) ((qBf.mp hb).1 x z))
  subst e;rw[uniqZ (List.Perm.cons_inv h) (qBf.mp ha).2 (qBf.mp hb).2]
end
end Mi
namespace L3
open PySem PySem.Spec
open PyProof.Rows (risingS sortedS ltCps_eq)
open L2 hiding Rep RepL
open Mi (Dt Xn R okR zA2 optR zA0 zA5 zA8 zA4 zA7 Rh Sl Ro EM TM AM FM IM SM OM Tg Out zAN zAM zAP full frz frz1 frzAt)
section
variable[Kc]{mg:Str->Option Value}{E:XK}{L n k l:Nat}{te ta tb:TE}{e ea eb ma:EM}{t:TA}{m:AM}
theorem zIN:∀(l:List Str)(p:Str),risingS p l=true->(p::l).Pairwise (fun a b=>a.cps.toList<=b.cps.toList)
 |[],p,_=>by simp
 |x::r,p,h=>by
  rw[risingS,qBd,ltCps_eq]at h;have h1:p.cps.toList<=x.cps.toList:=by
   have:=h.1
   simpa[qHv]using this
  have h2:=zIN r x h.2;refine qBf.mpr ⟨fun y hy=>?_,h2⟩
  rcases qAb.mp hy with rfl|hy
  ·exact h1
  ·exact List.le_trans h1 ((qBf.mp h2).1 y hy)
theorem zIF{l:List Str}(h:qMk l=true):l.Pairwise (fun a b=>a.cps.toList<=b.cps.toList):=by
 cases l with
 |nil=>exact .nil
 |cons x r=>exact zIN r x h
end
end L3
namespace Mi
open PySem
noncomputable section
noncomputable def svD:Dt->Option Sv
 |.int i=>some (.i i)
 |.str x=>some (.s x)
 |_=>none
def svsD:List Dt->Option (List Sv)
 |[]=>some []
 |d::r=>match svD d,svsD r with
  |some v,some vs=>some (v::vs)
  |_,_=>none
noncomputable def dSv:Sv->Dt
 |.i n=>.int n
 |.s x=>.str x
def eNew(c:Str)(fl:List Str)(am:AM):EM:=fun ρ=>zA2 (am ρ) fun ds=>match svsD ds with
 |some vs=>if vs.length=fl.length then okR (.ins c (fl.zip vs))else none
 |none=>none
def za8(c:Str):EM:=fun _=>okR (.ins c [])
def eFld(hs:List Str)(f:Str)(e:EM):EM:=fun ρ=>zA2 (e ρ) fun d=>match d with
 |.ins c fs=>if c∈hs then(match fs.lookup f with|some v=>okR (dSv v)|none=>none)else none
 |_=>none
def za9(tb:List (Str×FM))(m:Str)(e:EM)(am:AM):EM:=fun ρ=>zA2 (e ρ) fun d=>match d with
 |.ins c fs=>match tb.lookup c with
  |some g=>match fs.lookup m with
   |none=>zA2 (am ρ) fun ds=>g (d::ds)
   |some _=>none
  |none=>none
 |_=>none
def eIsO(ys ns:List Str)(e:EM):EM:=fun ρ=>zA2 (e ρ) fun d=>match d with
 |.ins c _=>if c∈ys then okR (.bl true)else if c∈ns then okR (.bl false)else none
 |_=>none
end
noncomputable section
def lastC(c:Nat)(l:List Nat):Option Nat:=(posC c l.reverse).map fun i=>l.length-1-i
def rfindD(x:Dt)(ys:List Dt):Option Dt:=match x,ys with
 |.str z,[.str y]=>match y.cps.toList with
  |[c]=>some (.int (match lastC c z.cps.toList with|some i=>(i:Int)|none=>-1))
  |_=>none
 |_,_=>none
end
end Mi
namespace L2
open PySem PySem.Spec PyProof.Rows
section
variable{X:Cx}{x:Str}{C:Addr}{p pos:Pos}
end
def spIns(K:qA1)(fl:List Str):Sp:=fun vs H Q _=>∃(x C dx:Addr)(ys:List V),vs=.ref x::ys/\ys.length=fl.length/\H x=some (.ins C dx [])/\Cls K C/\(∀f∈fl,zYZ K C f)/\Q .non (upd H x (.ins C dx (fl.zip ys)))
section
variable{X:Cx}{m:Str}{k:Nat}{E:XK}{o e:Expr}{es:List Expr}{ta:TE}{t:TA}{apos pos:Pos}{tb:List (Addr×Sp)}
end
section
variable{X:Cx}{m:Str}{k:Nat}{o e:Expr}{es:List Expr}{ta:TE}{t:TA}{apos pos:Pos}{tb:List (Addr×Sp)}
end
section
variable{prog:qIb}{w:World}{A:qIc}{E:Value->qI8->Prop}{s:qI8}
end
section
variable{X:Cx}{pos:Pos}
end
theorem zRR(z:Str)(c:Nat):qMr z ⟨#[c]⟩=(match Mi.lastC c z.cps.toList with|some i=>(i:Int)|none=>-1):=by
 have hone:∀i,StrLaws.At z ⟨#[c]⟩ z.length i↔z.cps.toList[i]?=some c:=fun i=>StrLaws.subAt_one z c i
 generalize hl:z.cps.toList=l at hone
 have pos_none:∀{r:List Nat},Mi.posC c r=none->c∉r:=by
  intro r
  induction r with
  |nil=>intro _ h;simp at h
  |cons a r ih=>
   intro h;have h':(if a=c then some 0 else(Mi.posC c r).map (·+1))=none:=h
   split at h'
   ·cases h'
   ·rename_i hne
    have:=ih (by cases e:Mi.posC c r with|none=>rfl|some _=>rw[e]at h';cases h')
    intro z
    rcases qAb.mp z with q|q
    ·exact hne q.symm
    ·exact this q
 have pos_some:∀{r:List Nat}{i:Nat},Mi.posC c r=some i->r[i]?=some c/\∀j,j<i->r[j]?≠some c:=by
  intro r
  induction r with
  |nil=>intro i h;cases h
  |cons a r ih=>
   intro i h;have h':(if a=c then some 0 else(Mi.posC c r).map (·+1))=some i:=h
   split at h'
   ·rename_i hac
    cases h';exact⟨by simp[hac],fun j hj=>by lia⟩
   ·rename_i hne
    cases e:Mi.posC c r with
    |none=>rw[e]at h';cases h'
    |some k=>
     rw[e]at h';cases h';obtain⟨q1,q2⟩:=ih e;refine⟨by simpa using q1,fun j hj=>?_⟩;cases j with
     |zero=>simpa using hne
     |succ j=>simpa using q2 j (Nat.lt_of_succ_lt_succ hj)
 unfold Mi.lastC;cases e:Mi.posC c l.reverse with
 |none=>
  have hn:=pos_none e
  rcases rfind_whole z ⟨#[c]⟩with⟨h,_⟩|⟨i,_,h,_⟩
  ·exact h
  ·have:=(hone i).mp h
   exact absurd (List.mem_reverse.mpr (qBc this)) hn
 |some i=>
  obtain⟨q1,q2⟩:=pos_some e;have hil:i<l.length:=by
   have:=(qA3.mp q1).1
   simpa using this
  have q3:l[l.length-1-i]?=some c:=by rw[<- q1,qF2 hil]
  rcases rfind_whole z ⟨#[c]⟩with⟨_,h⟩|⟨j,h1,h2,h3⟩
  ·exact absurd ((hone _).mpr q3) (h _)
  ·have hj:=(hone j).mp h2;have hjl:j<l.length:=(qA3.mp hj).1;have hle:¬j<l.length-1-i:=fun z=>h3 _ z ((hone _).mpr q3)
   have hge:¬l.length-1-i<j:=fun z=>q2 (l.length-1-j) (by lia) (by rw[qF2 (by lia)];rw[show l.length-1-(l.length-1-j)=j by lia];exact hj)
   rw[h1]
   show(j:Int)=((l.length-1-i:Nat):Int)
   lia
theorem zGX{M:Model}{A:qIc}{E:Value->qI8->Prop}{s:qI8}{src:Source}{n:Nat}{Q:Nat->qI8->Prop}(hn:n≠0)(h:∀i d,i<n->Q i { s with drawn:=d }):wpAny M A (choose src n) Q E s:=
 fun Γ p hΓ=>⟨hn,h _ _ (qBq _ (Nat.pos_of_ne_zero hn))⟩
theorem zN8(t:qK0)(es:Array (Int×Value))(h:Int)(x:Value):(layNew t es h x).2.1.led=t.led:=by
 unfold layNew
 split
 ·dsimp only;unfold qLi
  split<;>rfl
 ·rfl
theorem zN7(t:qK0)(es:Array (Int×Value))(h:Int)(x:Value)(hp:t.plain=false):(layNew t es h x).2.1.plain=false:=by
 unfold layNew
 split
 ·dsimp only;unfold qLi
  split
  ·exact hp
  ·rfl
 ·rfl
theorem zIR{t t':qK0}{hs:Array Int}{w:Nat}{o:Array Nat}(h:t.relaid hs w=some (t',o)):t'.led=t.led/\t'.plain=t.plain:=by
 unfold SetTable.relaid SetTable.laid at h;cases e:SetTable.layClean (SetTable.sizeAbove w-1) hs with
 |none=>rw[e]at h;cases h
 |some ow=>
  rw[e]at h;have h':=qB8 h
  have:=congrArg qHx h'
  dsimp only at this;rw[<- this];exact⟨rfl,rfl⟩
theorem zG9(t:qK0)(es:Array (Int×Value))(wanted:Nat):(relayAll t es wanted).2.1.led=t.led/\(t.plain=false->(relayAll t es wanted).2.1.plain=false):=by
 unfold relayAll
 split
 ·rename_i t' order e
  obtain⟨h1,h2⟩:=zIR e;dsimp only
  split
  ·exact⟨h1,fun h=>h2.trans h⟩
  ·exact⟨rfl,fun _=>rfl⟩
 ·exact⟨rfl,fun _=>rfl⟩
section
variable{prog:qIb}{w:World}{A:qIc}{E:Value->qI8->Prop}{s:qI8}
def SetZ(prog:qIb)(w:World)(h:Heap)(a:Addr)(led:Bool)(ks:List Str):Prop:=
 ∃o es ep t,h.get? a=some o/\o.ExactSet/\o.data=.set es ep t/\qMl (strKind prog w) es.toList/\es.toList.map (fun e=>strOf e.2)=ks/\ks.Nodup/\es.size<scanBound/\t.fits es.size=true/\t.led=led/\(0<es.size->t.plain=false)
theorem SetZ.at{h h':Heap}{a:Addr}{led:Bool}{ks:List Str}(hS:SetZ prog w h a led ks)(hk:∀o,h.get? a=some o->h'.get? a=some o):SetZ prog w h' a led ks:=by
 obtain⟨o,es,ep,t,ho,r⟩:=hS;exact⟨o,es,ep,t,hk o ho,r⟩
theorem zFX{k:Str}{v:Value}(h:(strKind prog w).is k v=true):∃t,v=.str k t:=qL2 h
theorem zHW{es:List (Int×Value)}(h:qMl (strKind prog w) es){e:Int×Value}(he:e∈es):∃k t,e.2=.str k t:=by
 obtain⟨⟨k,hk,_⟩,_⟩:=h e he;obtain⟨t,e1⟩:=zFX hk;exact⟨k,t,e1⟩
theorem zT5{es:List (Int×Value)}(h:qMl (strKind prog w) es){e:Int×Value}(he:e∈es)(k:Str):(strKind prog w).is k e.2=true↔strOf e.2=k:=by
 obtain⟨k',t,e1⟩:=zHW h he;rw[e1];constructor
 ·intro z;obtain⟨t',e2⟩:=zFX z
  injection e2 with e3
 ·rintro rfl
  exact strKind_is prog w _ t
theorem zQW{a:Addr}{led:Bool}{ks:List Str}{k:Str}{tk:Tok}{Q:Bool->qI8->Prop}(hS:SetZ prog w s.heap a led ks)(hroom:ks.length+1<scanBound)
  (h:∀h' ks' b,qJn a s.heap h'->SetZ prog w h' a led ks'->(k∈ks->ks'=ks)->(k∉ks->ks'.Perm (ks++[k]))->Q b { s with heap:=h' }) :
  wpAny (model prog w) A (setAddHashed a (.str k tk) ((strKind prog w).hash k)) Q E s:=by
 obtain⟨o,es,ep,t,ho,hex,hd,hel,hks,hnd,hb,hf,hled,hpl⟩:=hS;have hn:es.size=ks.length:=by rw[<- hks,qAi,qB1]
 have hb1:es.size+1<scanBound:=by lia
 have hkey:(strKind prog w).is k (.str k tk)=true:=strKind_is prog w k tk;have hsc:(qJg k tk).scannable=true:=rfl;unfold setAddHashed setAddHashedIn;refine wpAny_holding (wpAny_bind (wpAny_setState_of ho hd hf ?_));dsimp only;rw[byScan_of hsc hb hel];simp only[↓reduceIte];unfold setAddByScan;refine wpAny_bind ?_;refine wpAny_bind (wpAny_rule ?_);refine wpAny_bind (wpAny_setScan_of hkey ho hd hf hel ?_);cases hr:qHo (fun e=>(strKind prog w).is k e.2) es.toList with
 |some j=>
  dsimp only;obtain⟨hj,hpj,_⟩:=qDb.mp hr;have hin:k∈ks:=by
   rw[<- hks];exact qAe.mpr ⟨es.toList[j],qD0 hj,(zT5 hel (qD0 hj) k).mp hpj⟩
  refine wpAny_pure (wpAny_pure ?_);have e:s={ s with heap:=s.heap }:=by cases s;rfl
  rw[e];exact h s.heap ks false (Heap.SameBut.refl a s.heap) ⟨o,es,ep,t,ho,hex,hd,hel,hks,hnd,hb,hf,hled,hpl⟩ (fun _=>rfl) (fun z=>absurd hin z)
 |none=>
  dsimp only;have hnin:k∉ks:=by
   intro z;rw[<- hks]at z;obtain⟨e,he,e1⟩:=qAe.mp z
   have:=qE9.mp hr e he
   rw[(zT5 hel he k).mpr e1]at this;exact Bool.noConfusion this
  have hgw:∀(b:Bool){s₁:qI8}{Q':Unit->qI8->Prop},Q' () s₁->wpAny (model prog w) A (match b with|true=>rule "set.scan.the-table-gave-way" | false=>pure ()) Q' E s₁:=
   fun b s₁ Q' hq=>by cases b<;>first|exact wpAny_pure hq|exact wpAny_rule hq
  have hperm:=layNew_perm t es ((strKind prog w).hash k) (.str k tk);have hfits:=layNew_fits t es ((strKind prog w).hash k) (.str k tk);have hled1:=zN8 t es ((strKind prog w).hash k) (.str k tk);have hoff1:=zN7 t es ((strKind prog w).hash k) (.str k tk)
  generalize hL:layNew t es ((strKind prog w).hash k) (.str k tk)=L at hperm hfits hled1 hoff1 ⊢
  obtain⟨es1,t1,wasDummy,gave⟩:=L;dsimp only at hperm hfits hled1 hoff1 ⊢;rw[qG2]at hperm;have hel1:qMl (strKind prog w) es1.toList:=(hel.push hkey hsc).perm hperm;have hks1:(es1.toList.map fun e=>strOf e.2).Perm (ks++[k]):=by
   have:=hperm.map fun e:Int×Value=>strOf e.2
   rw[qAz,hks]at this;exact this
  have hnd1:(es1.toList.map fun e=>strOf e.2).Nodup:=hks1.nodup_iff.mpr (by
   rw[qCr];exact⟨hnd,by simp,fun x hx y hy e=>hnin (by rw[qB6]at hy;rw[<- hy,<- e];exact hx)⟩)
  have hb1':es1.size<scanBound:=by rw[<- qB1,hperm.length_eq,qAr,qB1];simpa using hb1
  refine wpAny_bind (hgw _ ?_);have tail:∀t2:qK0,t2.fits es1.size=true->t2.led=led->t2.plain=false->wpAny (model prog w) A (do
    storeSet a es1 t2
    if(!wasDummy&&t2.tooFull)=true then do
      (match(relayAll t2 es1 (qJ7 es1.size)).2.2 with|true=>rule "set.scan.the-table-gave-way" | false=>pure ())
      storeSet a (relayAll t2 es1 (qJ7 es1.size)).1 (relayAll t2 es1 (qJ7 es1.size)).2.1
      pure (some true)
     else pure (some true)) (fun r s'=>wpAny (model prog w) A (match r with|some added=>pure added|none=>setAddHashedIn a (.str k tk) ((strKind prog w).hash k) 99999) Q E s') E s:=by
   intro t2 f2 l2 p2;refine wpAny_bind (wpAny_storeSet_of ho hd ?_ (fits_of_scanBound hb1'));have hg:(s.heap.update a (qLq es1 t2)).get? a=some { o with data:=.set es1 (ep+1) t2 }:=by
    have:=qIe (qLq es1 t2) ho (by rw[qM9 es1 t2 hd];rfl)
    rw[qM9 es1 t2 hd]at this;exact this
   have hsb1:=qJ5 s.heap a (qLq es1 t2)
   split
   ·have hp:=relayAll_perm t2 es1 (qJ7 es1.size);have hfr:=relayAll_fits t2 es1 (qJ7 es1.size);have hkp:=zG9 t2 es1 (qJ7 es1.size)
    generalize hRl:relayAll t2 es1 (qJ7 es1.size)=Rl at hp hfr hkp ⊢
    obtain⟨es2,t3,gave2⟩:=Rl;dsimp only at hp hfr hkp ⊢;have hsz:es2.size=es1.size:=by rw[<- qB1,hp.length_eq,qB1]
    refine wpAny_bind (hgw _ ?_);refine wpAny_bind (wpAny_storeSet_of hg rfl ?_ (fits_of_scanBound (by rw[hsz];exact hb1')));have hg2:=qIe (qLq es2 t3) hg (by rw[qM9 (o:={ o with data:=.set es1 (ep+1) t2 }) es2 t3 rfl];rfl);rw[qM9 (o:={ o with data:=.set es1 (ep+1) t2 }) es2 t3 rfl]at hg2;have hks2:=hp.map fun e:Int×Value=>strOf e.2
    refine wpAny_pure (wpAny_pure (h _ (es2.toList.map fun e=>strOf e.2) _ (hsb1.trans (qJ5 _ a _)) ⟨_,es2,ep+2,t3,hg2,hex,rfl,hel1.perm hp,rfl,hks2.nodup_iff.mpr hnd1,by rw[hsz];exact hb1',hfr,hkp.1.trans l2,fun _=>hkp.2 p2⟩ (fun z=>absurd z hnin) fun _=>hks2.trans hks1))
   ·exact wpAny_pure (wpAny_pure (h _ (es1.toList.map fun e=>strOf e.2) _ hsb1 ⟨_,es1,ep+1,t2,hg,hex,rfl,hel1,rfl,hnd1,hb1',f2,l2,fun _=>p2⟩ (fun z=>absurd z hnin) fun _=>hks1))
  split
  ·refine wpAny_bind ?_;rw[hashByValue_scannable 8 hsc];refine wpAny_pure ?_;exact tail { t1 with plain:=false } (SetTable.fits_plain_off hfits) (hled1.trans hled) rfl
  ·rename_i hp1
   refine wpAny_bind (wpAny_pure ?_);simp only[↓reduceIte];exact tail t1 hfits (hled1.trans hled) (by simpa using hp1)
end
section
variable{prog:qIb}{w:World}{A:qIc}{R:qLu->qI8->Prop}{I:Addr}{fp wr:List Addr}{G:Array qJy->Array qJy->Prop}{n:Nat}{St:Nat->qI8->Prop}{led:Bool}{z:Str}
theorem loopZ(W:WalksS prog w A.in1 I fp wr G z.cps.size (SignAt z) St)(S:Addr)(hSf:S∉fp)(hb:z.cps.size+1<scanBound) :
  ∀(k i:Nat)(s:qI8)(ks:List Str),z.cps.size-i=k->i<=z.cps.size->St i s->SetZ prog w s.heap S led ks->ks.length<=i->(∀c,c∈ks↔∃j d,j<i/\z.cps[j]?=some d/\c=⟨#[d]⟩) ->
   (∀s' ks',Moved (S::wr) G s s'->SetZ prog w s'.heap S led ks'->(∀c,c∈ks'↔∃j d,j<z.cps.size/\z.cps[j]?=some d/\c=⟨#[d]⟩)->R (.ok (.ret .none)) s') ->
   qK8 (model prog w) A (.builtin "set.update.loop" ⟨[.ref S,.ref I],[]⟩) R s:=by
 have hSw:S∉wr:=fun h=>hSf (W.sub _ h)
 have hsub:∀b∈wr,b∈S::wr:=fun b hb=>qAs _ hb
 intro k
 induction k with
 |zero=>
  intro i s ks hk hi hst hS hkl hks hR;have hin:i=z.cps.size:=by lia
  subst hin;refine codeAny_builtin qCy ?_;rw[qIm qBy _];show wpAny _ A.in1 (pyNext (.ref I) >>= _) _ _ s;refine wpAny_bind (W.done s _ _ hst fun s' hm=>?_);show wpAny _ A.in1 (ret qIj) _ _ s';exact wpAny_pure (hR s' ks (hm.mono hsub) (hS.at fun o ho=>hm.heap S o hSw ho) hks)
 |succ k ih=>
  intro i s ks hk hi hst hS hkl hks hR;have hlt:i<z.cps.size:=by lia
  refine codeAny_builtin qCy ?_;rw[qIm qBy _];show wpAny _ A.in1 (pyNext (.ref I) >>= _) _ _ s;refine wpAny_bind (W.item i s _ _ hlt hst fun v s' hP hst' hm=>?_);obtain⟨c,u,hc,rfl⟩:=hP;have hS':SetZ prog w s'.heap S led ks:=hS.at fun o ho=>hm.heap S o hSw ho
  show wpAny _ A.in1 (holding [qJg ⟨#[c]⟩ u] (setAdd S (.str ⟨#[c]⟩ u)) >>= _) _ _ s';refine wpAny_bind (wpAny_holding ?_);unfold setAdd;refine wpAny_holding ?_;refine wpAny_bind ((strKind prog w).pyHash (k:=⟨#[c]⟩) (strKind_is prog w _ _) ?_);refine zQW (s:={ s' with toks:=s'.toks+1 }) hS' (by lia) fun h' ks' b hsb hS2 hin hout=>?_
  have hmem:∀x,x∈ks'↔∃j d,j<i+1/\z.cps[j]?=some d/\x=⟨#[d]⟩:=by
   intro x;have step:x∈ks'↔x∈ks\/x=⟨#[c]⟩:=by
    by_cases h:(⟨#[c]⟩:Str)∈ks
    ·rw[hin h];exact⟨.inl,fun z=>z.elim id fun e=>e▸h⟩
    ·rw[(hout h).mem_iff,qAq,qB6]
   rw[step,hks];constructor
   ·rintro(⟨j,d,hj,e1,e2⟩|rfl)
    ·exact⟨j,d,by lia,e1,e2⟩
    ·exact⟨i,c,by lia,hc,rfl⟩
   ·rintro⟨j,d,hj,e1,e2⟩
    by_cases hji:j=i
    ·subst hji;rw[hc]at e1;cases e1;exact .inr e2
    ·exact .inl ⟨j,d,by lia,e1,e2⟩
  have hlen:ks'.length<=i+1:=by
   by_cases h:(⟨#[c]⟩:Str)∈ks
   ·rw[hin h];lia
   ·rw[(hout h).length_eq,qAr];simp;lia
  refine wpAny_pure ⟨qJ6 qBy _,ih (i+1) _ ks' (by lia) hlt (W.frame _ s' _ _ hst' (qC3 _) fun b hb o e=>?_) hS2 hlen hmem fun s'' ks'' hm'' hS'' hk''=>?_⟩
  ·rw[hsb.2 b (fun h:b=S=>hSf (by rw[<- h];exact hb))];exact e
  ·refine hR s'' ks'' (Moved.trans W.gtrans ((hm.mono hsub).then_heap (qC3 _) fun b o hb e=>?_) hm'') hS'' hk'';rw[hsb.2 b (fun h:b=S=>hb (by rw[h];exact qAw))];exact e
end
end L2
namespace L3
open PySem PySem.Spec
open L2 hiding Rep RepL
open Mi (Dt Xn R okR zA2 optR zA0 zA5 zA8 zA4 zA7 Rh Sl Ro EM TM AM FM IM SM OM Tg Out zAN zAM zAP full frz frz1 frzAt)
section
variable[Kc]{mg:Str->Option Value}{E:XK}{L n k l:Nat}{te ta tb:TE}{e ea eb ma:EM}{t:TA}{m:AM}
theorem zR0:RMt zSO Mi.rfindD n:=zSN (fun z=>zLZ rfl (fun d h=>by cases d<;>first|rfl|exact absurd rfl (h _)) (fun d e r=>by cases d<;>rfl) rfl fun a b r=>rfl) fun mg E G H z c Q s p=>by
 show Q (.int (qMr z ⟨#[c]⟩)) H;rw[zRR];exact PostE.val p (Ext.refl s) rfl rfl
end
end L3
namespace PySem
open PyProof.Rows
theorem zH5{prog:qIb}{w:World}{A:qIc}{E:Value->qI8->Prop}{s:qI8}(a:Value){Q₁:Value->qI8->Prop}
  (h:Q₁ (.ref s.heap.objs.size) { s with heap:=s.heap.push { cls:=.type "set",dict:=none,data:=.set #[] 0 (.fresh 0 0 (!w.params.followText "set-order")) } }) :
  qK8 (model prog w) A (.call (.builtin "set.__new__") ⟨[.type "set",a],[]⟩) (wants Q₁ E) s:=by
 refine codeAny_of_tree ?_;show wpAny _ A.in1 (do checkBuiltinCall "set.__new__" ⟨[.type "set",a],[]⟩;again (.builtin "set.__new__" ⟨[.type "set",a],[]⟩)) _ _ s;refine wpAny_bind (wpAny_of_eq (F.newCall_set_1 a) (wpAny_pure ⟨qJ6 qMa _,codeAny_builtin F.entry_set_new ?_⟩));rw[qIm qMa _];unfold qJk.«set.__new__» qMb;have hsub:=sub_set_self;obtain⟨hp,g,d,tk,os⟩:=s;dsimp only
 wp_walk
 refine wpAny_askSetting (wpAny_pure ?_);dsimp only;simp only[newObj];refine wpAny_bind (wpAny_alloc (wpAny_pure ?_));exact wpAny_pure h
theorem zIK:isSubtype (.type "str") (.type "set")=pure false:=by rw[qJh];kernel_rfl
theorem zH4:isSubtype (.type "str") (.type "frozenset")=pure false:=by rw[qJh];kernel_rfl
set_option maxHeartbeats 3200000 in
theorem zH6{prog:qIb}{w:World}{A:qIc}{E:Value->qI8->Prop}{s:qI8}{z:Str}{t:Tok}{Q:Value->qI8->Prop}
  (hh:A.handled=none) (hb:z.cps.size+1<scanBound)
  (h:∀(h':Heap)(tk:Nat)(ks:List Str),L2.SetZ prog w h' s.heap.objs.size (!w.params.followText "set-order") ks->(∀c,c∈ks↔∃j d,j<z.cps.size/\z.cps[j]?=some d/\c=⟨#[d]⟩) ->
   (∀b o,b<s.heap.objs.size->s.heap.get? b=some o->h'.get? b=some o)->s.heap.objs.size<h'.objs.size->Q (.ref s.heap.objs.size) { s with heap:=h',toks:=tk }) :
  wpAny (model prog w) A (call (.type "set") [.str z t]) Q E s:=by
 obtain⟨c,tl,hmro⟩:=qJ9.mro;have hmade:=qJ9.made;have hsub:=qJ9.sub;refine wpAny_call (codeAny_of_tree ?_);show wpAny _ _ (callAny (.type "set") _) _ _ _;refine wpAny_pure ⟨qKg _ (by decide +kernel),codeAny_builtin F.entry_type_call ?_⟩;rw[Around.under_plain (weight_type_call_type "set" [.str z t] []) rfl];have h1:=qJ9.notType;have h2:=qJ9.canCreate;have hct:=F.typeCall_set_1 (.str z t)
 repeat (any_goals (first|assumption|wp_step))
 refine codeAny_mono (zH5 (.str z t) (E:=E) (Q₁:=fun obj s₁=>obj=.ref s.heap.objs.size/\s₁={ s with heap:=s.heap.push { cls:=.type "set",dict:=none,data:=.set #[] 0 (.fresh 0 0 (!w.params.followText "set-order")) } }) ⟨rfl,rfl⟩) fun r s₁ hr=>?_
 generalize(!w.params.followText "set-order")=led at hr h
 cases r with
 |error e=>exact hr
 |ok fl=>
  cases fl with
  |ret obj=>
   obtain⟨rfl,rfl⟩:=hr;have hS:(s.heap.push { cls:=.type "set",dict:=none,data:=.set #[] 0 (.fresh 0 0 led) }).get? s.heap.objs.size=some { cls:=.type "set",dict:=none,data:=.set #[] 0 (.fresh 0 0 led) }:=qIa _ rfl;have hT:Shared.TypeIs { s with heap:=s.heap.push { cls:=.type "set",dict:=none,data:=.set #[] 0 (.fresh 0 0 led) } } (.ref s.heap.objs.size) "set":=⟨_,hS,rfl⟩
   have hli:=qJ9.init.lookup;have hbi:=qJ9.init.bind (.ref s.heap.objs.size)
   repeat (any_goals (first|assumption|wp_step))
   refine codeAny_mono (codeAny_call_builtin (R:=wants (fun r s₂=>r=.none/\∃h' tk ks,s₂={ s with heap:=h',toks:=tk }/\L2.SetZ prog w h' s.heap.objs.size led ks/\(∀c,c∈ks↔∃j d,j<z.cps.size/\z.cps[j]?=some d/\c=⟨#[d]⟩) /\
     (∀b o,b<s.heap.objs.size->s.heap.get? b=some o->h'.get? b=some o)) E) qJ9.init.plain F.entry_set_init (check_set_init_1 hT ?_)) fun r₂ s₂ hr₂=>?_
   ·have hsls:=zIK;have hslf:=zH4;have hne:(qIx "str" == qIx "dict")=false:=by decide
    unfold qJk.«set.__init__» noKeywords qM1
    generalize hPI:pyIter=PI
    wp_walk
    subst hPI;refine wpAny_pyIter_str fun o St W hst=>?_
    refine wpAny_bind (wpAny_runValue ?_);have hh3:A.in1.in1.in1.handled=none:=by simp[hh]
    have hSf:s.heap.objs.size∉[(s.heap.push { cls:=.type "set",dict:=none,data:=.set #[] 0 (.fresh 0 0 led) }).objs.size]:=by
     rw[qIk];simp only[qAb,qB9,or_false];exact qAj (qBu _)
    refine L2.loopZ (led:=led) (W _ hh3).toS s.heap.objs.size hSf hb (z.cps.size-0) 0 _ [] (by lia) (qAy _) hst ?hS0 (qA8 _) (fun c=>⟨fun z=>by simp at z,fun⟨j,d,hj,_⟩=>by lia⟩) ?hR
    case hS0=>
     exact⟨_,#[],0,_,qI7 _ hS,⟨rfl,rfl,rfl⟩,rfl,fun e he=>by simp at he,rfl,.nil,by decide,rfl,rfl,fun z=>by simp at z⟩
    case hR=>
     intro s' ks hm hS' hk;obtain⟨h',g',d',tk',os'⟩:=s';have eg:g'=s.gens:=hm.gens;have ed:d'=s.drawn:=hm.drawn;have eo:os'=s.os:=hm.os;subst eg;subst ed;subst eo;show wpAny _ _ _ _ _ _;refine wpAny_pure ?_;show wpAny _ _ (ret qIj) _ _ _;refine wpAny_pure ⟨rfl,h',tk',ks,rfl,hS',hk,fun b o hb e=>?_⟩;have hb1:b≠s.heap.objs.size:=qAj hb;have hb2:b≠(s.heap.push { cls:=.type "set",dict:=none,data:=.set #[] 0 (.fresh 0 0 led) }).objs.size:=by
      rw[qIk];exact qAj (qBa hb)
     exact hm.heap b o (by simp only[qAb,qB9,or_false,not_or];exact⟨hb1,hb2⟩) (qI7 _ (qI7 _ e))
   ·cases r₂ with
    |error e=>exact hr₂
    |ok fl₂=>
     cases fl₂ with
     |ret r=>
      obtain⟨rfl,h',tk,ks,rfl,hS',hk,hk'⟩:=hr₂
      repeat (any_goals (first|assumption|wp_step))
      exact h _ _ ks hS' hk hk' (by obtain⟨o,_,_,_,ho,_⟩:=hS';exact qI9 ho)
     |_=>exact hr₂.elim
  |_=>exact hr.elim
end PySem
namespace L2
open PySem PySem.Spec PyProof.Rows
theorem slot_si_next:Slot "set_iterator" "__next__" "set_iterator.__next__":=
 .of (owner:="set_iterator") (n:="__next__") (by rw[qK9,qJa];kernel_rfl) (by decide +kernel) (by decide +kernel) (by decide +kernel)
  (by first|exact .inl (by decide +kernel)|exact .inr (by decide +kernel)) (by rw[qJh];kernel_rfl)
theorem zEL:Slot "set_iterator" "__iter__" "set_iterator.__iter__":=
 .of (owner:="set_iterator") (n:="__iter__") (by rw[qK9,qJa];kernel_rfl) (by decide +kernel) (by decide +kernel) (by decide +kernel)
  (by first|exact .inl (by decide +kernel)|exact .inr (by decide +kernel)) (by rw[qJh];kernel_rfl)
theorem zBP:qMm table "set_iterator.__next__" = some qJk.«set_iterator.__next__»:=entryFor_of_fast (by kernel_rfl)
theorem zHV:qMm table "set_iterator.__iter__" = some qJk.«dict_keyiterator.__iter__»:=entryFor_alias (id':="dict_keyiterator.__iter__") (by kernel_rfl) rfl (by decide +kernel) (by kernel_rfl)
theorem zG2:qMm table "set.__iter__" = some qJk.«frozenset.__iter__»:=entryFor_alias (id':="frozenset.__iter__") (by kernel_rfl) rfl (by decide +kernel) (by kernel_rfl)
theorem zC3(a:Value):argsOk "set_iterator.__next__" ⟨[a],[]⟩:=by unfold argsOk;kernel_rfl
theorem zJV(a:Value):argsOk "set_iterator.__iter__" ⟨[a],[]⟩:=by unfold argsOk;kernel_rfl
def IsSI(h:Heap)(it:Addr)(vs:Array Value):Prop:=∃o,h.get? it=some o/\o.cls=.type "set_iterator"/\o.data=.fields vs
section
variable{prog:qIb}{w:World}{A:qIc}{E:Value->qI8->Prop}{s:qI8}
theorem zO3{it:Addr}{vs:Array Value}{Q:Value->qI8->Prop}(hit:IsSI s.heap it vs)(h:Q (.ref it) s):wpAny (model prog w) A (pyIter (.ref it)) Q E s:=by
 obtain⟨o,ho,hc,hd⟩:=hit;have hT:s.TypeIs (.ref it) "set_iterator":=⟨o,ho,hc⟩
 refine qLr hT zEL (wpAny_call_entry zEL hT zHV ?_ (zJV _));show wpAny _ _ (ret (.ref it)) _ _ s;exact wpAny_pure ⟨_,rfl,"set_iterator",_,hT,slot_si_next.lookup,h⟩
theorem zO2{P:Fin->qI8->Prop}{E':Value->qI8->Prop}(hh:A.handled=none)(h:∀x h',qLc s.heap.objs.size s.heap h'->(∀b o,s.heap.get? b=some o->h'.get? b=some o)->(∃ox,h'.get? x=some ox/\ox.cls=.type "StopIteration")->E' (.ref x) { s with heap:=h' }) :
  wpAny (model prog w) A (newExc (.type "StopIteration") [] >>= fun x=>(raiseNew x:Sem Fin)) P E' s:=by
 refine wpAny_bind ?_;simp only[newExc,newTuple];refine wpAny_bind (wpAny_newObj_type ?_ (by size_fits));refine wpAny_bind (m:=firstArgMember _ _) (wpAny_of_eq (a:=qIj) (by first|rfl|(simp only[firstArgMember];rfl)) ?_);refine wpAny_newObj_type ?_ (by size_fits);simp only[raiseNew];refine wpAny_bind (wpAny_handled ?_);rw[hh];refine wpAny_bind (wpAny_pure (wpAny_throw ?_));exact h _ _ (fun b o hb e=>qI7 _ (qI7 _ e)) (fun b o e=>qI7 _ (qI7 _ e)) ⟨_,qIa _ rfl,rfl⟩
theorem zIH{it a:Addr}{es:Array (Int×Value)}{ep:Nat}{tb:qK0}{os:Obj}{sl i nx:Nat}{x:Value}{Q:Option Value->qI8->Prop}(hne:a≠it)
  (hit:IsSI s.heap it #[.int sl 0,.int i 0,.ref a,.int es.size 0,.int ep 0]) (ho:s.heap.get? a=some os) (hd:os.data=.set es ep tb) (hf:tb.fits es.size=true)
  (hN:∀(s:qI8)(Q:Option (Value×Nat)->qI8->Prop)(A:qIc)(E:Value->qI8->Prop),s.heap.get? a=some os->Q (some (x,nx)) s->wpAny (model prog w) A (setNext a sl i ep) Q E s)
  (hQ:∀h',IsSI h' it #[.int nx 0,.int (i+1:Nat) 0,.ref a,.int es.size 0,.int ep 0]->qJn it s.heap h'->Q (some x) { s with heap:=h' }) :
  wpAny (model prog w) A (pyNext (.ref it)) Q E s:=by
 obtain⟨o,hoi,hc,hdi⟩:=hit;have hT:s.TypeIs (.ref it) "set_iterator":=⟨o,hoi,hc⟩
 unfold pyNext;refine wpAny_bind (wpAny_attempt (wpAny_callSpecial?_slot (name:=qIn "__next__") hT slot_si_next (wpAny_call_entry slot_si_next hT zBP ?_ (zC3 _))));unfold qJk.«set_iterator.__next__»;refine wpAny_bind (m:=qMn "__next__" 0 _) (wpAny_pure ?_);refine wpAny_bind (wpAny_fieldsOf hoi hdi ?_);dsimp only;refine wpAny_bind (wpAny_setEntries_of ho hd hf ?_);rw[if_neg (by simp)];refine wpAny_bind (hN _ _ _ _ ho ?_);dsimp only;refine wpAny_bind (wpAny_setField hoi hdi (by simp) ?_);have e1:=qIe (qIl (·.setIfInBounds 0 (rawInt (nx:Nat)))) hoi (qIo (qIh hdi _));refine wpAny_bind (wpAny_setField e1 (qIh hdi _) (by simp) ?_);have e2:=qIe (qIl (·.setIfInBounds 1 (rawInt ((i:Int)+1)))) e1 (qIo (qIh (qIh hdi _) _));refine wpAny_pure ⟨x,rfl,wpAny_pure (hQ _ ⟨_,e2,?_,?_⟩ ((qJ5 ..).trans (qJ5 ..)))⟩
 ·rw[qJx,qJx,hc]
 ·rw[qIh (qIh hdi _)];simp[rawInt]
theorem zKB{it a:Addr}{es:Array (Int×Value)}{ep:Nat}{tb:qK0}{os:Obj}{sl i:Nat}{Q:Option Value->qI8->Prop}(hh:A.handled=none)(hne:a≠it)
  (hit:IsSI s.heap it #[.int sl 0,.int i 0,.ref a,.int es.size 0,.int ep 0]) (ho:s.heap.get? a=some os) (hd:os.data=.set es ep tb) (hf:tb.fits es.size=true)
  (hN:∀(s:qI8)(Q:Option (Value×Nat)->qI8->Prop)(A:qIc)(E:Value->qI8->Prop),s.heap.get? a=some os->Q none s->wpAny (model prog w) A (setNext a sl i ep) Q E s)
  (hQ:∀h',qLc it s.heap h'->Q none { s with heap:=h' }) :
  wpAny (model prog w) A (pyNext (.ref it)) Q E s:=by
 obtain⟨o,hoi,hc,hdi⟩:=hit;have hT:s.TypeIs (.ref it) "set_iterator":=⟨o,hoi,hc⟩
 unfold pyNext;refine wpAny_bind (wpAny_attempt (wpAny_callSpecial?_slot (name:=qIn "__next__") hT slot_si_next (wpAny_call_entry slot_si_next hT zBP ?_ (zC3 _))));unfold qJk.«set_iterator.__next__»;refine wpAny_bind (m:=qMn "__next__" 0 _) (wpAny_pure ?_);refine wpAny_bind (wpAny_fieldsOf hoi hdi ?_);dsimp only;refine wpAny_bind (wpAny_setEntries_of ho hd hf ?_);rw[if_neg (by simp)];refine wpAny_bind (hN _ _ _ _ ho ?_);dsimp only;refine wpAny_bind (wpAny_setField hoi hdi (by simp) ?_);refine zO2 hh fun x h' _ hk hx=>?_
 obtain⟨ox,hox,hcx⟩:=hx;refine wpAny_bind (wpAny_isInstance (T:="StopIteration") (b:=true) ⟨ox,hox,hcx⟩ isSubtype_stop ?_);exact wpAny_pure (hQ _ fun b o' hb e=>hk b o' ((qId _ _ (qCe hb)).trans e))
theorem zII{it a T:Addr}{es:Array (Int×Value)}{ep:Nat}{tb:qK0}{os:Obj}{i p:Nat}{t0:Tok}{h0:Int}{x:Value}{ps:Array Value}{Q:Option Value->qI8->Prop}(hne:a≠it)
  (hit:IsSI s.heap it #[.ref T,.int i 0,.ref a,.int es.size 0,.int ep 0]) (ho:s.heap.get? a=some os) (hd:os.data=.set es ep tb) (hf:tb.fits es.size=true)
  (hT0:∃oT n,s.heap.get? T=some oT/\oT.data=.seq ps n) (hp:ps[i]?=some (.int p t0)) (hx:es[p]?=some (h0,x))
  (hQ:∀h',IsSI h' it #[.ref T,.int (i+1:Nat) 0,.ref a,.int es.size 0,.int ep 0]->qJn it s.heap h'->Q (some x) { s with heap:=h' }) :
  wpAny (model prog w) A (pyNext (.ref it)) Q E s:=by
 obtain⟨o,hoi,hc,hdi⟩:=hit;obtain⟨oT,nT,hoT,hdT⟩:=hT0;have hT:s.TypeIs (.ref it) "set_iterator":=⟨o,hoi,hc⟩
 unfold pyNext;refine wpAny_bind (wpAny_attempt (wpAny_callSpecial?_slot (name:=qIn "__next__") hT slot_si_next (wpAny_call_entry slot_si_next hT zBP ?_ (zC3 _))));unfold qJk.«set_iterator.__next__»;refine wpAny_bind (m:=qMn "__next__" 0 _) (wpAny_pure ?_);refine wpAny_bind (wpAny_fieldsOf hoi hdi ?_);dsimp only;refine wpAny_bind (wpAny_setEntries_of ho hd hf ?_);rw[if_neg (by simp)];refine wpAny_bind (wpAny_seqItems hoT hdT ?_);dsimp only;simp only[qCc,hp];refine wpAny_bind ?_;unfold setNextDrawn;refine wpAny_bind (wpAny_setState_of ho hd hf ?_);dsimp only;rw[if_neg (by simp)];simp only[qCc,hx];refine wpAny_pure ?_;refine wpAny_bind (wpAny_setField hoi hdi (by simp) ?_);have e1:=qIe (qIl (·.setIfInBounds 1 (rawInt ((i:Int)+1)))) hoi (qIo (qIh hdi _));refine wpAny_pure ⟨x,rfl,wpAny_pure (hQ _ ⟨_,e1,?_,?_⟩ (qJ5 ..))⟩
 ·rw[qJx,hc]
 ·rw[qIh hdi];simp[rawInt]
theorem zKC{it a T:Addr}{es:Array (Int×Value)}{ep:Nat}{tb:qK0}{os:Obj}{i:Nat}{ps:Array Value}{Q:Option Value->qI8->Prop}(hh:A.handled=none)(hne:a≠it)
  (hit:IsSI s.heap it #[.ref T,.int i 0,.ref a,.int es.size 0,.int ep 0]) (ho:s.heap.get? a=some os) (hd:os.data=.set es ep tb) (hf:tb.fits es.size=true)
  (hT0:∃oT n,s.heap.get? T=some oT/\oT.data=.seq ps n) (hp:ps[i]?=none)
  (hQ:∀h',qLc it s.heap h'->Q none { s with heap:=h' }) :
  wpAny (model prog w) A (pyNext (.ref it)) Q E s:=by
 obtain⟨o,hoi,hc,hdi⟩:=hit;obtain⟨oT,nT,hoT,hdT⟩:=hT0;have hT:s.TypeIs (.ref it) "set_iterator":=⟨o,hoi,hc⟩
 unfold pyNext;refine wpAny_bind (wpAny_attempt (wpAny_callSpecial?_slot (name:=qIn "__next__") hT slot_si_next (wpAny_call_entry slot_si_next hT zBP ?_ (zC3 _))));unfold qJk.«set_iterator.__next__»;refine wpAny_bind (m:=qMn "__next__" 0 _) (wpAny_pure ?_);refine wpAny_bind (wpAny_fieldsOf hoi hdi ?_);dsimp only;refine wpAny_bind (wpAny_setEntries_of ho hd hf ?_);rw[if_neg (by simp)];refine wpAny_bind (wpAny_seqItems hoT hdT ?_);dsimp only;simp only[qCc,hp];refine wpAny_bind (wpAny_setField hoi hdi (by simp) ?_);have e1:=qIe (qIl (·.setIfInBounds 0 (rawInt 0))) hoi (qIo (qIh hdi _));refine wpAny_bind (wpAny_setField e1 (qIh hdi _) (by simp) ?_);refine zO2 hh fun x h' _ hk hx=>?_
 obtain⟨ox,hox,hcx⟩:=hx;refine wpAny_bind (wpAny_isInstance (T:="StopIteration") (b:=true) ⟨ox,hox,hcx⟩ isSubtype_stop ?_);exact wpAny_pure (hQ _ fun b o' hb e=>hk b o' ((qId _ _ (qCe hb)).trans ((qId _ _ (qCe hb)).trans e)))
theorem zI9(hh:A.handled=none){it a:Addr}(hne:a≠it){es:Array (Int×Value)}{ep:Nat}{tb:qK0}{os:Obj}(hd:os.data=.set es ep tb)(hf:tb.fits es.size=true)(vs:Nat->Value)(sl:Nat->Nat)
  (hN:∀i,i<es.size->∀(s:qI8)(Q:Option (Value×Nat)->qI8->Prop)(A:qIc)(E:Value->qI8->Prop),s.heap.get? a=some os->Q (some (vs i,sl (i+1))) s->wpAny (model prog w) A (setNext a (sl i) i ep) Q E s)
  (hE:∀(s:qI8)(Q:Option (Value×Nat)->qI8->Prop)(A:qIc)(E:Value->qI8->Prop),s.heap.get? a=some os->Q none s->wpAny (model prog w) A (setNext a (sl es.size) es.size ep) Q E s) :
  Walks prog w A it [it,a] [it] es.size (fun i v=>v=vs i) (fun i h=>IsSI h it #[.int (sl i) 0,.int i 0,.ref a,.int es.size 0,.int ep 0]/\h.get? a=some os) where
 sub:=fun b hb=>by simp at hb;simp[hb]
 frame:=fun i h h' st hk=>⟨let⟨o,ho,r⟩:=st.1;⟨o,hk it (by simp) o ho,r⟩,hk a (by simp) _ st.2⟩
 item:=fun i s Q E hi st hQ=>by
  have hs:s={ s with toks:=s.toks }:=by cases s;rfl
  refine zIH hne st.1 st.2 hd hf (hN i hi) fun h' hit' hs'=>?_
  exact hQ _ h' s.toks rfl ⟨hit',(hs'.2 a hne).trans st.2⟩ fun b o hb e=>(hs'.2 b fun z=>hb (by simp[z])).trans e
 done:=fun s Q E st hQ=>by
  refine zKB hh hne st.1 st.2 hd hf hE fun h' he'=>?_
  exact hQ h' s.toks fun b o hb e=>he' b o (fun z=>hb (by simp[z])) e
 self:=fun i s Q E st hQ=>zO3 st.1 hQ
theorem zNQ(hh:A.handled=none){it a T:Addr}(hne:a≠it)(hTi:T≠it){es:Array (Int×Value)}{ep:Nat}{tb:qK0}{os oT:Obj}{nT:Nat}(hd:os.data=.set es ep tb)(hf:tb.fits es.size=true)(ps:List Nat)(hps:ps.length=es.size)(hlt:∀p∈ps,p<es.size)(hdT:oT.data=.seq (ps.map fun p:Nat=>rawInt (p:Int)).toArray nT) :
  Walks prog w A it [it,a,T] [it] es.size (fun i v=>∃p h0,ps[i]?=some p/\es[p]?=some (h0,v)) (fun i h=>IsSI h it #[.ref T,.int i 0,.ref a,.int es.size 0,.int ep 0]/\h.get? a=some os/\h.get? T=some oT) where
 sub:=fun b hb=>by simp at hb;simp[hb]
 frame:=fun i h h' st hk=>⟨let⟨o,ho,r⟩:=st.1;⟨o,hk it (by simp) o ho,r⟩,hk a (by simp) _ st.2.1,hk T (by simp) _ st.2.2⟩
 item:=fun i s Q E hi st hQ=>by
  have hpi:ps[i]?=some ps[i]:=qA2 (by lia);have hpl:ps[i]<es.size:=hlt _ (qD0 _);have hx:es[ps[i]]?=some (es[ps[i]].1,es[ps[i]].2):=by simp[hpl]
  refine zII (p:=ps[i]) (t0:=0) hne st.1 st.2.1 hd hf ⟨oT,nT,st.2.2,hdT⟩ (by rw[List.getElem?_toArray,qAh,hpi];rfl) hx fun h' hit' hs'=>?_
  exact hQ _ h' s.toks ⟨_,_,hpi,hx⟩ ⟨hit',(hs'.2 a hne).trans st.2.1,(hs'.2 T hTi).trans st.2.2⟩ fun b o hb e=>(hs'.2 b fun z=>hb (by simp[z])).trans e
 done:=fun s Q E st hQ=>by
  refine zKC hh hne st.1 st.2.1 hd hf ⟨oT,nT,st.2.2,hdT⟩ (by simp[hps]) fun h' he'=>?_
  exact hQ h' s.toks fun b o hb e=>he' b o (fun z=>hb (by simp[z])) e
 self:=fun i s Q E st hQ=>zO3 st.1 hQ
theorem zEH{α:Type}:∀(l:List α){i:Nat}(h:i<l.length),(l[i]::l.eraseIdx i).Perm l
 |a::r,0,h=>by simp
 |a::r,i+1,h=>by
  have:=zEH r (i:=i) (by simpa using h)
  simp only[qEt,qD8];exact(qFc _ _ _).trans (this.cons a)
theorem zGO{α:Type}:∀(n:Nat)(xs:List α)(s:qI8)(Q:List α->qI8->Prop),xs.length=n->(∀ys d,ys.Perm xs->Q ys { s with drawn:=d })->wpAny (model prog w) A (drawOrder n xs) Q E s
 |0,xs,s,Q,hl,h=>by
  have e:xs=[]:=qEh.mp hl;subst e;unfold drawOrder
  have:=h [] s.drawn (qCz _)
  exact wpAny_pure this
 |n+1,[],s,Q,hl,h=>by simp at hl
 |n+1,x::xs,s,Q,hl,h=>by
  unfold drawOrder;refine wpAny_bind (zGX (by simp) fun i d hi=>?_);have hget:(x::xs)[i]?=some ((x::xs)[i]'hi):=qA2 hi;rw[hget];dsimp only;refine wpAny_bind (zGO n _ _ _ (by rw[qCv hi];simp at hl ⊢;lia) fun ys d' hp=>wpAny_pure ?_);exact h _ d' ((hp.cons _).trans (zEH _ hi))
theorem zOH{α:Type}(next:Nat->Nat):∀(fuel k:Nat)(left:List α)(out:Array α),left.length=fuel->(qLx next fuel k left out).toList.Perm (out.toList++left)
 |0,k,left,out,hl=>by
  have e:left=[]:=qEh.mp hl;subst e;simp[qLx]
 |fuel+1,k,left,out,hl=>by
  unfold qLx;have hi:next k%left.length<left.length:=qBq _ (by lia)
  have hget:left[next k%left.length]?=some (left[next k%left.length]'hi):=qA2 hi;rw[hget];dsimp only;refine(zOH next fuel (k+1) _ _ (by rw[qCv hi];lia)).trans ?_;rw[qG2,qBl];exact qDm _ (zEH left hi)
theorem zFI(next:Nat->Nat){α:Type}(xs:Array α):(pickOrder next xs).toList.Perm xs.toList:=by
 have:=zOH next xs.size 0 xs.toList #[] (by simp)
 unfold pickOrder
 simpa using this
theorem zDS{es:List (Int×Value)}(h:qMl (strKind prog w) es):qJw (es.map (·.2)) (es.map fun e=>strOf e.2):=by
 induction es with
 |nil=>exact .nil
 |cons e r ih=>
  obtain⟨k,t,e1⟩:=zHW h (qAw ..)
  have:=ih h.tail
  rw[qAk,qAk,e1];exact .cons k t this
theorem zMU{vs:List Value}{zs:List Str}{acc:Array Value}{n:Nat}{P:Nat->Value->Prop}(hi:ItemsOf P acc n)(hn:vs.length=n)(hP:∀i v,i<n->P i v->vs[i]?=some v)(hz:qJw vs zs):qJw acc.toList zs:=by
 have:acc.toList=vs:=by
  refine List.ext_getElem? fun i=>?_
  by_cases h:i<n
  ·have hs:i<acc.size:=by rw[hi.1];exact h
   have h1:acc[i]?=some acc[i]:=by simp[hs]
   rw[qB7,h1,hP i _ h (hi.2 i _ h1)]
  ·rw[qF3 (by simp[hi.1];lia),qF3 (by lia)]
 rw[this];exact hz
theorem zPC{a:Addr}{ks:List Str}(hS:SetZ prog w s.heap a (!w.params.followText "set-order") ks)(hk:ks≠[]){Q:Value->qI8->Prop}
  (hQ:∀(it:Addr)(h2:Heap)(d2:Drawn)(fp:List Addr)(St:Nat->Heap->Prop)(P:Nat->Value->Prop)(vs:List Value)(zs:List Str),(∀A':qIc,A'.handled=none->Walks prog w A' it fp [it] ks.length P St)->(∀i v,i<ks.length->P i v->vs[i]?=some v)->vs.length=ks.length->qJw vs zs->zs.Perm ks ->
   St 0 h2->(∀b∈fp,b<h2.objs.size)->(∀b∈fp,b=a\/s.heap.objs.size<=b)->s.heap.objs.size<=it->(∀b o,s.heap.get? b=some o->h2.get? b=some o)->Q (.ref it) { s with heap:=h2,drawn:=d2 }) :
  wpAny (model prog w) A (pyIter (.ref a)) Q E s:=by
 obtain⟨o,es,ep,t,ho,hex,hd,hel,hks,hnd,hb,hf,hled,hpl⟩:=hS;have hn:es.size=ks.length:=by rw[<- hks,qAi,qB1]
 have hn1:0<es.size:=by rw[hn];exact List.length_pos_iff.mpr hk
 have hpl:=hpl hn1;have hT:s.TypeIs (.ref a) "set":=⟨o,ho,hex.1⟩
 have hlt:a<s.heap.objs.size:=qI9 ho;refine qLr hT qF4 (wpAny_call_entry qF4 hT zG2 ?_ (PySem.F.args_set_iter_1 _));unfold qJk.«frozenset.__iter__»;refine wpAny_bind (m:=qMo "__iter__" _) (wpAny_pure ?_);refine wpAny_bind (m:=qMg a) (wpAny_bind (wpAny_setEntries_of ho hd hf (wpAny_pure ?_)));refine wpAny_bind (m:=setDrawn a) ?_;unfold setDrawn;refine wpAny_bind (wpAny_setState_of ho hd hf ?_);dsimp only;unfold qLs;refine wpAny_bind (wpAny_bind (wpAny_askSetting (wpAny_pure ?_)));refine wpAny_pure ?_;show wpAny _ _ (if(!w.params.followText "set-order" && (!t.plain&&decide (es.size>1)))=true then _ else _) _ _ _;rw[hpl];have ne1:a≠s.heap.objs.size:=qAj hlt;rw[<- hn]at hQ;cases hbt:w.params.followText "set-order" with
 |true=>
  rw[if_neg (by simp)];refine wpAny_bind (wpAny_pure ?_);refine wpAny_bind (wpAny_setEpoch_of ho hd hf ?_);refine wpAny_bind (wpAny_newObj_type (wpAny_pure ⟨_,rfl,"set_iterator",_,⟨_,qIa _ rfl,rfl⟩,slot_si_next.lookup,?_⟩));have hpk:=zFI (w.params.setOrder a ep) es;have hpl':(pickOrder (w.params.setOrder a ep) es).size=es.size:=by rw[<- qB1,hpk.length_eq,qB1]
  generalize hpo:pickOrder (w.params.setOrder a ep) es=pk at hpk hpl'
  have hnext:∀(i:Nat)(s:qI8)(Q:Option (Value×Nat)->qI8->Prop)(A:qIc)(E:Value->qI8->Prop),s.heap.get? a=some o->Q ((pk[i]?).map fun e=>(e.2,0)) s->wpAny (model prog w) A (setNext a 0 i ep) Q E s:=by
   intro i s Q A E ho' hq;unfold setNext;refine wpAny_bind (wpAny_setState_of ho' hd hf ?_);dsimp only;unfold qLs;refine wpAny_bind (wpAny_bind (wpAny_askSetting (wpAny_pure ?_)));show wpAny _ _ (if w.params.followText "set-order" = true then _ else _) _ _ _;rw[hbt,if_pos rfl];rw[if_neg (by simp)];refine wpAny_bind ?_;unfold setWalk;refine wpAny_bind (wpAny_setState_of ho' hd hf ?_);dsimp only;unfold qLs;refine wpAny_bind (wpAny_bind (wpAny_askSetting (wpAny_pure ?_)));show wpAny _ _ (if w.params.followText "set-order" = true then _ else _) _ _ _;rw[hbt,if_pos rfl];refine wpAny_bind (wpAny_askSetting ?_);refine wpAny_pure ?_;show wpAny _ _ (pure (((pickOrder (w.params.setOrder a ep) es)[i]?).map fun e=>(e.2,0))) _ _ _;rw[hpo];exact wpAny_pure hq
  refine hQ s.heap.objs.size _ s.drawn [s.heap.objs.size,a] _ _ (pk.toList.map (·.2)) (pk.toList.map fun e=>strOf e.2) (fun A' hA'=>zI9 hA' ne1 hd hf (fun i=>((pk[i]?).map (·.2)).getD .none) (fun _=>0) (fun i hi s Q A E ho' hq=>hnext i s Q A E ho' ?_) (fun s Q A E ho' hq=>hnext _ s Q A E ho' ?_)) (fun i v hi hv=>?_) (by rw[qAi,qB1,hpl']) (zDS (hel.perm hpk)) (by rw[<- hks];exact hpk.map _) ⟨⟨_,qIa _ rfl,rfl,rfl⟩,qI7 _ ho⟩ (fun b hb=>?_) (fun b hb=>by simp only[qAb,qB9,or_false]at hb;rcases hb with rfl|rfl;exact .inr (qA8 _);exact .inl rfl) (qA8 _) (fun b o e=>qI7 _ e)
  ·have:pk[i]?=some pk[i]:=by simp[hpl',hi]
   rw[this]at hq ⊢;exact hq
  ·have:pk[es.size]?=none:=by simp[hpl']
   rw[this];exact hq
  ·rw[hv,qAh,qB7]
   have:pk[i]?=some pk[i]:=by simp[hpl',hi]
   rw[this];rfl
  ·show b<(s.heap.push _).objs.size;rw[qIk];simp only[qAb,qB9,or_false]at hb
   rcases hb with rfl|rfl
   ·exact qBu _
   ·exact qBa hlt
 |false=>
  by_cases h2:1<es.size
  ·rw[if_pos (by simp[h2])];refine wpAny_bind (zGO es.size (qA9 es.size) s _ (by simp) fun ps d hps=>?_);have hpn:ps.length=es.size:=by rw[hps.length_eq,qG3]
   refine wpAny_bind (wpAny_newTuple ?_ (hsz:=by rw[qAi,hpn];exact fits_of_scanBound hb));have ho1:(s.heap.push (seqObj "tuple" (ps.map fun i:Nat=>rawInt (i:Int)).toArray 0)).get? a=some o:=qI7 _ ho;refine wpAny_bind (wpAny_setEpoch_of (s:={ heap:=s.heap.push (seqObj "tuple" (ps.map fun i:Nat=>rawInt (i:Int)).toArray 0),gens:=s.gens,drawn:=d,toks:=s.toks,os:=s.os }) ho1 hd hf ?_);refine wpAny_bind (wpAny_newObj_type (wpAny_pure ⟨_,rfl,"set_iterator",_,⟨_,qIa _ rfl,rfl⟩,slot_si_next.lookup,?_⟩));have hsz:(s.heap.push (seqObj "tuple" (ps.map fun i:Nat=>rawInt (i:Int)).toArray 0)).objs.size=s.heap.objs.size+1:=qIk _ _;have hpl3:∀p∈ps,p<es.size:=fun p hp=>qB0.mp (hps.mem_iff.mp hp)
   have hvs:∀(i:Nat)(v:Value),(∃(p:Nat)(h0:Int),ps[i]?=some p/\es[p]?=some (h0,v))->(ps.map fun p=>((es[p]?).map (·.2)).getD .none)[i]?=some v:=fun i v ⟨p,h0,e1,e2⟩=>by
    rw[qAh,e1];show some (((es[p]?).map (·.2)).getD .none)=_;rw[e2];rfl
   have hall:∀f:Int×Value->Str,((qA9 es.size).map fun p=>((es[p]?).map f).getD ⟨#[]⟩)=es.toList.map f:=fun f=>by
    refine qC7 (by simp) fun i h1 h2=>?_
    have hi:i<es.size:=by simpa using h1
    simp[hi]
   have hallv:((qA9 es.size).map fun p=>((es[p]?).map (·.2)).getD qIj)=es.toList.map (·.2):=by
    refine qC7 (by simp) fun i h1 h2=>?_
    have hi:i<es.size:=by simpa using h1
    simp[hi]
   have hstr:qJw (ps.map fun p=>((es[p]?).map (·.2)).getD .none) (ps.map fun p=>((es[p]?).map fun e=>strOf e.2).getD ⟨#[]⟩):=by
    have gen:∀l:List Nat,(∀p∈l,p<es.size)->qJw (l.map fun p=>((es[p]?).map (·.2)).getD .none) (l.map fun p=>((es[p]?).map fun e=>strOf e.2).getD ⟨#[]⟩):=by
     intro l
     induction l with
     |nil=>intro _;exact .nil
     |cons p r ih=>
      intro hl;have hp:=hl p (by simp);have hg:es[p]?=some es[p]:=by simp[hp]
      obtain⟨k,tk,e1⟩:=zHW hel (e:=es[p]) (by rw[<- Array.getElem_toList];exact qD0 _);rw[qAk,qAk,hg];show qJw (es[p].2::_) (strOf es[p].2::_);rw[e1];exact .cons k tk (ih fun q hq=>hl q (by simp[hq]))
    exact gen ps hpl3
   refine hQ (s.heap.push (seqObj "tuple" (ps.map fun i:Nat=>rawInt (i:Int)).toArray 0)).objs.size _ d [(s.heap.push (seqObj "tuple" (ps.map fun i:Nat=>rawInt (i:Int)).toArray 0)).objs.size,a,s.heap.objs.size] _ _ _ _ (fun A' hA'=>zNQ (T:=s.heap.objs.size) (oT:=seqObj "tuple" (ps.map fun i:Nat=>rawInt (i:Int)).toArray 0) hA' (by rw[hsz];exact qAj (qBa hlt)) (by rw[hsz];exact qAj (qBu _)) hd hf ps hpn hpl3 rfl) (fun i v _ hv=>hvs i v hv) (by rw[qAi,hpn]) hstr ?_ ⟨⟨_,qIa _ rfl,rfl,rfl⟩,qI7 _ ho1,qI7 _ (qIa _ rfl)⟩ (fun b hb=>?_) (fun b hb=>by rw[hsz]at hb;simp only[qAb,qB9,or_false]at hb;rcases hb with rfl|rfl|rfl;exact .inr (qC3 _);exact .inl rfl;exact .inr (qA8 _)) (by rw[hsz];exact qC3 _) (fun b o e=>qI7 _ (qI7 _ e))
   ·rw[<- hks,<- hall];exact hps.map _
   ·show b<(Heap.push _ _).objs.size;rw[qIk,hsz];rw[hsz]at hb;simp only[qAb,qB9,or_false]at hb
    rcases hb with rfl|rfl|rfl
    ·exact qBu _
    ·exact qBa (qBa hlt)
    ·exact qBa (qBu _)
  ·rw[if_neg (by simp[h2])];refine wpAny_bind (wpAny_pure ?_);refine wpAny_bind (wpAny_setEpoch_of ho hd hf ?_);refine wpAny_bind (wpAny_newObj_type (wpAny_pure ⟨_,rfl,"set_iterator",_,⟨_,qIa _ rfl,rfl⟩,slot_si_next.lookup,?_⟩));have hs1:es.size=1:=by lia
   have hled':t.led=true:=by rw[hled,hbt];rfl
   have hps1:t.place.size=1:=by
    simp only[SetTable.fits,qBd,beq_iff_eq]at hf;rw[hf.1,hs1]
   obtain⟨es0⟩:=es;obtain⟨e0,rfl⟩:∃e0,es0=[e0]:=qEu.mp (by simpa using hs1);obtain⟨j,hj⟩:∃j,t.place=#[j]:=by
    obtain⟨l⟩:Nonempty Unit:=⟨()⟩
    have:t.place.toList.length=1:=by simpa using hps1
    obtain⟨j,e⟩:=qEu.mp this;exact⟨j,Array.ext' e⟩
   have b0:qJi t.place 0=0:=by rw[hj];simp[qJi,qLt]
   have b1:qJi t.place (j+1)=1:=by rw[hj];simp[qJi,qLt]
   have hnext:∀(sl i:Nat)(s:qI8)(Q:Option (Value×Nat)->qI8->Prop)(A:qIc)(E:Value->qI8->Prop),s.heap.get? a=some o->Q (match(#[e0]:Array (Int×Value))[qJi t.place sl]?,t.place[qJi t.place sl]? with|some (_,x),some j=>some (x,j+1)|_,_=>none) s->wpAny (model prog w) A (setNext a sl i ep) Q E s:=by
    intro sl i s Q A E ho' hq;unfold setNext;refine wpAny_bind (wpAny_setState_of ho' hd hf ?_);dsimp only;unfold qLs;refine wpAny_bind (wpAny_bind (wpAny_askSetting (wpAny_pure ?_)));show wpAny _ _ (if w.params.followText "set-order" = true then _ else _) _ _ _;rw[hbt,if_neg (by decide)];show wpAny _ _ (if(!t.plain&&decide ((#[e0]:Array (Int×Value)).size>1))=true then _ else _) _ _ _;rw[if_neg (by simp)];refine wpAny_bind ?_;show wpAny _ _ (if(!t.led && !(#[e0]:Array (Int×Value)).isEmpty)=true then _ else _) _ _ _;rw[hled',if_neg (by simp)];exact wpAny_pure (wpAny_pure hq)
   refine hQ s.heap.objs.size _ s.drawn [s.heap.objs.size,a] _ _ [e0.2] [strOf e0.2] (fun A' hA'=>zI9 hA' ne1 hd hf (fun _=>e0.2) (fun i=>if i=0 then 0 else j+1) (fun i hi s Q A E ho' hq=>hnext _ i s Q A E ho' ?_) (fun s Q A E ho' hq=>hnext _ _ s Q A E ho' ?_)) (fun i v hi hv=>?_) rfl ?_ (by rw[<- hks];exact qCz _) ⟨⟨_,qIa _ rfl,rfl,rfl⟩,qI7 _ ho⟩ (fun b hb=>?_) (fun b hb=>by simp only[qAb,qB9,or_false]at hb;rcases hb with rfl|rfl;exact .inr (qA8 _);exact .inl rfl) (qA8 _) (fun b o e=>qI7 _ e)
   ·have hi0:i=0:=by simp at hi;exact hi
    subst hi0;rw[if_pos rfl,b0,hj]
    simpa using hq
   ·simp only[qAd,qAu,qGl,qBo,Nat.one_ne_zero,if_false,b1]
    simpa using hq
   ·have hi0:i=0:=by simp at hi;exact hi
    subst hi0;rw[hv];rfl
   ·have:=zDS hel
    simpa using this
   ·show b<(s.heap.push _).objs.size;rw[qIk];simp only[qAb,qB9,or_false]at hb
    rcases hb with rfl|rfl
    ·exact qBu _
    ·exact qBa hlt
end
theorem zU1:typeLookup (.type "set") "__len__" = pure (some (.builtin "set.__len__")):=by rw[qK9,qJa];kernel_rfl
section
variable{prog:qIb}{w:World}{A:qIc}{E:Value->qI8->Prop}{s:qI8}
theorem SetZ.type{h:Heap}{a:Addr}{led:Bool}{ks:List Str}(hS:SetZ prog w h a led ks):∃o,h.get? a=some o/\o.cls=.type "set":=by
 obtain⟨o,_,_,_,ho,hex,_⟩:=hS;exact⟨o,ho,hex.1⟩
theorem zJJ{a:Addr}{ks:List Str}(hh:A.handled=none)(hS:SetZ prog w s.heap a (!w.params.followText "set-order") ks)(hk:ks≠[])(hlen:ks.length<=sizeLine){Q:List Value->qI8->Prop}
  (hQ:∀(h':Heap)(d:Drawn)(tk:Nat)(acc:List Value)(zs:List Str),qJw acc zs->zs.Perm ks->s.heap.objs.size<h'.objs.size->(∀b o,s.heap.get? b=some o->h'.get? b=some o)->Q acc { s with heap:=h',drawn:=d,toks:=tk }) :
  wpAny (model prog w) A (collect (.ref a)) Q E s:=by
 obtain⟨o0,ho0,hc0⟩:=hS.type;have hlt:a<s.heap.objs.size:=qI9 ho0;unfold collect;refine wpAny_bind (wpAny_runValue (codeAny_builtin qE0 ?_));rw[qIm qE1 _];show wpAny _ A.in1 (newList [] >>= fun l=>again (.builtin "list.__iadd__" ⟨[l,.ref a],[]⟩)) _ _ s;refine wpAny_bind (wpAny_newObj_type ?_);refine wpAny_pure ⟨qJ6 qCh _,codeAny_builtin qEi ?_⟩;rw[qIm qCh _];show wpAny _ A.in1 (qIv (.ref s.heap.objs.size) (.ref a) (.ref s.heap.objs.size)) _ _ _;unfold qIv;have ho1:(s.heap.push { cls:=.type "list",data:=.seq ([]:List Value).toArray }).get? a=some o0:=qI7 _ ho0;refine wpAny_bind (wpAny_typeOf (T:="set") ⟨o0,ho1,hc0⟩ ?_);have h1:qJp (.ref s.heap.objs.size) (.ref a)=false:=by simp[qJp];exact qBm hlt
 have h2:(qIx "set" == qIx "list")=false:=by decide
 have h3:(qIx "set" == qIx "tuple")=false:=by decide
 simp only[h1,h2,h3,qFm,qDa,if_false];refine wpAny_bind (zPC (hS.at fun o e=>qI7 _ e) hk fun it h2 d2 fp St P vs zs W hP hvl hsa hzp hst hfp hfa hit hkeep=>?_);have hS1:h2.get? s.heap.objs.size=some { cls:=.type "list",data:=.seq ([]:List Value).toArray }:=hkeep _ _ (qIa _ rfl);have hsz:(s.heap.push { cls:=.type "list",data:=.seq ([]:List Value).toArray }).objs.size=s.heap.objs.size+1:=qIk _ _;have hSf:s.heap.objs.size∉fp:=fun hm=>by
  rcases hfa _ hm with e|e
  ·exact qBm hlt e
  ·rw[hsz]at e;exact Nat.not_succ_le_self _ e
 refine wpAny_bind (wpAny_holding ?_);unfold qKa;have ho2:h2.get? a=some o0:=hkeep _ _ ho1;refine wpAny_bind (wpAny_specialOf (T:="set") (v:=.ref a) ⟨o0,ho2,hc0⟩ zU1 ?_)
 wp_delta
 refine wpAny_bind (wpAny_isInstance (T:="set") (v:=.ref a) (b:=true) ⟨o0,ho2,hc0⟩ (by rw[qJh];kernel_rfl) ?_);show wpAny _ A.in1 (typeOf (qIi a) >>= _) _ _ _;refine wpAny_bind (wpAny_typeOf (T:="set") (v:=.ref a) ⟨o0,ho2,hc0⟩ ?_);refine wpAny_pure ?_;show wpAny _ A.in1 (rule "list.extend.makes-room" >>= fun _=>Builtin.List.listTouch (.ref s.heap.objs.size) >>= fun _=>
  again (.builtin "list.extend.loop" ⟨[.ref s.heap.objs.size,.ref it,.ref s.heap.objs.size],[]⟩)) _ _ _
 refine wpAny_bind (wpAny_rule ?_);refine wpAny_bind ?_;show wpAny _ A.in1 (updateSeq s.heap.objs.size (·.push .none) >>= fun _=>updateSeq s.heap.objs.size (·.pop)) _ _ _;refine wpAny_bind (wpAny_updateSeq hS1 rfl ?_);have hS₂:=qIe (qJo (·.push qIj)) hS1 rfl;refine wpAny_updateSeq hS₂ rfl ?_;have hS₃:=qIe (qJo (·.pop)) hS₂ rfl;have oth:∀b o,b≠s.heap.objs.size->h2.get? b=some o->((h2.update s.heap.objs.size (qJo (·.push qIj))).update s.heap.objs.size (qJo (·.pop))).get? b=some o:=
  fun b o hb e=>(qId _ _ (qCe hb)).trans ((qId _ _ (qCe hb)).trans e)
 refine wpAny_pure ⟨qJ6 qEa _,qL1 (W A.in1 hh).toS hlen _ hSf _ ks.length 0 _ _ _ rfl (qAy _) ((W A.in1 hh).frame 0 h2 _ hst fun b hb o e=>oth b o (fun z=>hSf (z▸hb)) e) hS₃ (qMw P) fun s' acc' c' hm hS' hacc=>?_⟩;show wpAny _ A (load s.heap.objs.size >>= _) _ _ s';refine wpAny_bind (wpAny_load hS' ?_);obtain⟨h',g',d',tk',os'⟩:=s';have eg:g'=s.gens:=hm.gens;have ed:d'=d2:=hm.drawn;have eo:os'=s.os:=hm.os;subst eg;subst ed;subst eo;refine wpAny_pure (hQ h' d' tk' acc'.toList zs (zMU hacc hvl hP hsa) hzp (qI9 hS') fun b o e=>?_);have hbl:b<s.heap.objs.size:=qI9 e;refine hm.heap b o (fun hb=>?_) (oth b o (qAj hbl) (hkeep b o (qI7 _ e)));simp only[qAb,qB9,or_false]at hb
 rcases hb with rfl|rfl
 ·exact qBv _ hbl
 ·rw[hsz]at hit;exact absurd hbl (qI0.mpr (Nat.le_of_succ_le hit))
theorem zKA{a:Addr}{ks:List Str}(hh:A.handled=none)(hS:SetZ prog w s.heap a (!w.params.followText "set-order") ks)(hk:ks≠[])(hlen:ks.length<64){Q:Value->qI8->Prop}
  (hQ:∀(h':Heap)(d:Drawn)(tk:Nat)(L:Addr)(out:Array Value)(e:Nat)(zs:List Str),qJw out.toList zs->zs.Perm ks->qMk zs=true->s.heap.objs.size<=L->h'.get? L=some (seqObj "list" out e)->(∀b o,s.heap.get? b=some o->h'.get? b=some o)->Q (.ref L) { s with heap:=h',drawn:=d,toks:=tk }) :
  wpAny (model prog w) A (call (.builtin "sorted") [.ref a]) Q E s:=by
 refine qKi kind_sorted plain_sorted entry_sorted (args_sorted1 _) ?_;unfold qJk.«sorted»;refine wpAny_bind (m:=checkCount "sorted" 1 1 _) (wpAny_pure ?_);refine wpAny_bind (zJJ (A:=A.in1) hh hS hk (by rw[qIq];lia) fun h' d tk acc zs hsa hzp hgr hkeep=>?_);have hal:acc.length=ks.length:=by rw[zH2 hsa,hzp.length_eq]
 refine wpAny_bind (wpAny_newList ?_ (hsz:=by rw[hal,qIq];lia));have hoL:(h'.push (seqObj "list" acc.toArray 0)).get? h'.objs.size=some (seqObj "list" acc.toArray 0):=qIa _ rfl;refine wpAny_bind (wpAny_holding (wpAny_call_entry slot_list_sort ⟨_,hoL,rfl⟩ entry_list_sort (list_sort_treeK strKind_oneLt hoL hsa.keysOf (fun v₁ v₂ rest e=>keyKind_strs (by rw[<- e];exact hsa)) (by lia) fun st' a1 a2=>⟨_,rfl,?_⟩) (args_list_sort _)));obtain⟨zs',b1,b2,b3⟩:=sorted_out_str hsa a1 a2;obtain⟨e,he⟩:=sortedHeap_at (vs:=acc) (out:=(arrOf st').map (·.2)) hoL;refine wpAny_pure ⟨_,rfl,hQ _ d tk h'.objs.size _ e zs' b1 (b2.trans hzp) b3 ?_ he fun b o eb=>?_⟩
 ·exact qCd hgr
 ·have h1:=hkeep b o eb;have hlt:b<h'.objs.size:=qI9 h1;rw[sortedHeap_old (qAj hlt) (by rw[size_push'];exact qBa hlt)];exact qI7 _ h1
end
section
variable{X:Cx}{pins:List (Addr×Obj)}{σ:List (Option V)}{H:Hp}{s:qI8}
end
section
variable{prog:qIb}{w:World}{A:qIc}{E:Value->qI8->Prop}{s:qI8}
end
section
variable{X:Cx}{pins:List (Addr×Obj)}{σ:List (Option V)}{H:Hp}{s:qI8}
end
section
variable{prog:qIb}{w:World}{A:qIc}{E:Value->qI8->Prop}{s:qI8}{T:String}{r:Addr}{fp:List Addr}{n:Nat}{P:Nat->Value->Prop}{St:Nat->Heap->Prop}
end
section
variable{prog:qIb}{w:World}{A:qIc}{E:Value->qI8->Prop}{s:qI8}{x:Str}{t:Tok}
end
section
variable{X:Cx}{pins:List (Addr×Obj)}{σ:List (Option V)}{H:Hp}{s:qI8}
end
section
variable{X:Cx}
end
section
variable{X:Cx}{e m1:Expr}{te ts:TE}{pos p2:Pos}
end
section
variable{X:Cx}
end
section
variable{prog:qIb}{w:World}{A:qIc}{E:Value->qI8->Prop}{s:qI8}
end
section
variable{X:Cx}
end
section
variable{prog:qIb}{w:World}{A:qIc}{E:Value->qI8->Prop}{s:qI8}
end
section
variable{prog:qIb}{w:World}{A:qIc}{R:qLu->qI8->Prop}{I:Addr}{fp wr:List Addr}{G:Array qJy->Array qJy->Prop}{n:Nat}{St:Nat->qI8->Prop}{led:Bool}{items:Array Value}{ns:List Int}
end
section
variable{prog:qIb}{w:World}{A:qIc}{E:Value->qI8->Prop}{s:qI8}
end
section
variable{X:Cx}{pins:List (Addr×Obj)}{σ:List (Option V)}{H:Hp}{s:qI8}
end
section
variable{prog:qIb}{w:World}{A:qIc}{E:Value->qI8->Prop}{s:qI8}
end
section
variable{X:Cx}{K:qA1}
end
section
variable{X:Cx}{e m1:Expr}{te ts:TE}{pos p2:Pos}
end
section
variable{prog:qIb}{w:World}{A:qIc}{R:qLu->qI8->Prop}{I:Addr}{fp wr:List Addr}{G:Array qJy->Array qJy->Prop}{n:Nat}{St:Nat->qI8->Prop}{led:Bool}{items:Array Value}{zs:List Str}
end
section
variable{X:Cx}{pins:List (Addr×Obj)}{σ:List (Option V)}{H:Hp}{s:qI8}
end
section
variable{X:Cx}
end
section
variable{X:Cx}{m:Str}{k:Nat}{E:XK}{o:Expr}{ta:TE}{apos pos:Pos}{tb:List (Addr×Sp)}
end
end L2
namespace Mi
open PySem
noncomputable section
noncomputable def ded:List Nat->List Nat
 |[]=>[]
 |a::r=>if a∈ded r then ded r else a::ded r
def sosL(l:List Nat):List Nat:=(ded l).mergeSort fun a b=>decide (a<=b)
def sosD:List Dt->Option Dt
 |[.str z]=>@ite _ (0<z.length/\z.length<=60) (qA4 _) (some (.lst ((sosL z.cps.toList).map fun c=>.str ⟨#[c]⟩))) none
 |_=>none
theorem zHZ(x:Nat):∀l:List Nat,x∈ded l↔x∈l
 |[]=>by simp[ded]
 |a::r=>by
  unfold ded
  split
  ·rename_i h
   rw[zHZ x r,qAb];constructor
   ·exact .inr
   ·rintro(rfl|h')
    ·exact(zHZ x r).mp h
    ·exact h'
  ·rw[qAb,qAb,zHZ x r]
theorem zG5:∀l:List Nat,(ded l).Nodup
 |[]=>by simp[ded]
 |a::r=>by
  unfold ded
  split
  ·exact zG5 r
  ·rename_i h
   exact qBi.mpr ⟨h,zG5 r⟩
theorem sos_mem(x:Nat)(l:List Nat):x∈sosL l↔x∈l:=by
 unfold sosL;rw[(qCi _ _).mem_iff,zHZ]
theorem sos_nodup(l:List Nat):(sosL l).Nodup:=by
 unfold sosL;exact(qCi _ _).nodup_iff.mpr (zG5 l)
theorem sos_asc(l:List Nat):(sosL l).Pairwise (·<=·):=by
 have:=qEj (le:=fun a b:Nat=>decide (a<=b)) (fun a b c h1 h2=>by simp at h1 h2 ⊢;lia) (fun a b=>by simp;lia) (ded l)
 exact this.imp fun h=>by simpa using h
end
noncomputable section
end
noncomputable section
end
noncomputable section
end
noncomputable section
end
noncomputable section
end
noncomputable section
end
noncomputable section
end
noncomputable section
end
noncomputable section
end
noncomputable section
end
noncomputable section
end
noncomputable section
end
noncomputable section
end
noncomputable section
end
noncomputable section
end
end Mi
namespace L3
open PySem PySem.Spec
open L2 hiding Rep RepL
open Mi (Dt Xn R okR zA2 optR zA0 zA5 zA8 zA4 zA7 Rh Sl Ro EM TM AM FM IM SM OM Tg Out zAN zAM zAP full frz frz1 frzAt)
section
variable[Kc]{mg:Str->Option Value}{E:XK}{L n k l:Nat}{te ta tb:TE}{e ea eb ma:EM}{t:TA}{m:AM}
end
section
variable[Kc]{mg:Str->Option Value}{E:XK}{L n k l:Nat}
end
section
variable[Kc]{mg:Str->Option Value}{E:XK}{L n k l:Nat}{te ta tb:TE}{e ea eb ma:EM}{t:TA}{m:AM}
end
section
variable[Kc]{mg:Str->Option Value}{E:XK}{L n k l:Nat}
end
section
variable[Kc]{mg:Str->Option Value}{E:XK}{L n k l:Nat}{te:TE}{e:EM}
section
variable{G0 H0 S0:Hp}{σ:St}{ρ:Ro}{G H:Hp}{As:Nat->Addr->Prop}
end
end
section
variable[Kc]{mg:Str->Option Value}{E:XK}{L n k l:Nat}
end
section
variable[Kc]{mg:Str->Option Value}{E:XK}{L n k l:Nat}{te ta tb:TE}{e ea eb ma:EM}{t:TA}{m:AM}
end
end L3
namespace L3
open PySem PySem.Spec
open PyProof.Rows (risingS sortedS ltCps_eq)
open L2 hiding Rep RepL
open Mi (Dt Xn R okR zA2 optR zA0 zA5 zA8 zA4 zA7 Rh Sl Ro EM TM AM FM IM SM OM Tg Out zAN zAM zAP full frz frz1 frzAt)
section
variable[Kc]{mg:Str->Option Value}{E:XK}{L n k l:Nat}{te ta tb:TE}{e ea eb ma:EM}{t:TA}{m:AM}
end
section
variable[Kc]{mg:Str->Option Value}{E:XK}{L n k l:Nat}{te ta td:TE}{e ea ed:EM}
end
end L3
namespace L2
open PySem PySem.Spec PyProof.Rows
section
variable{X:Cx}{pins:List (Addr×Obj)}{σ:List (Option V)}{H:Hp}{s:qI8}
theorem Inv.drawn(I:Inv X pins σ H s)(d:Drawn):Inv X pins σ H { s with drawn:=d }:=⟨I.ok,I.os,I.bare,I.base,I.loc,I.cell,I.free,I.freeC,I.pin,I.hok,I.len⟩
noncomputable def zO4(P:qIb)(w:World)(a:Addr)(ks:List Str):HO:=.ext fun h=>SetZ P w h a (!w.params.followText "set-order") ks
def zWO(P:qIb)(w:World):List V->Hp->VK->Prop:=fun vs H Q=>match vs with
 |[.str z]=>z.cps.size<=1000/\∀a ks,H a=none->ks.Nodup->(∀c,c∈ks↔∃d∈z.cps.toList,c=(⟨#[d]⟩:Str))->Q (.ref a) (upd H a (zO4 P w a ks))
 |_=>False
theorem zXQ(hc:X.calm=true):zCN X (.type "set") (zWO X.prog X.w):=by
 intro pins s σ H vs us Q I r h;cases vs with
 |nil=>exact qA5 h
 |cons hd1 tl1=>
  cases hd1 with
  |str z=>
   cases tl1 with
   |nil=>
    obtain⟨hz,q⟩:=h;obtain⟨u,rfl,rx⟩:=zCO r;obtain⟨t,rfl⟩:=rx;refine zH6 (I.ok.hd hc) (by unfold scanBound;lia) fun h' tk ks hS hks hk hsz=>?_
    have hS':=hS;obtain⟨o,es,ep,tb,ho,hex,hd,hel,hkse,hnd,_⟩:=hS;refine⟨.ref _,_,I.laid (t':=tk) (o:=zO4 X.prog X.w s.heap.objs.size ks) (fun b u e=>hk b u (qI9 e) e) (qA8 _) ⟨hS',⟨o,ho⟩,fun h1 h2 z f=>z.at f⟩,rfl,q _ ks (I.hok.fresh (qA8 _)) hnd fun c=>?_⟩;rw[hks c];constructor
    ·rintro⟨j,d,_,e1,e2⟩
     exact⟨d,by rw[<- qB7]at e1;exact qBc e1,e2⟩
    ·rintro⟨d,hd',e2⟩
     obtain⟨j,e1⟩:=List.getElem?_of_mem hd';have hj:j<z.cps.size:=by have:=(qA3.mp e1).1;simpa using this
     exact⟨j,d,hj,by rw[<- qB7];exact e1,e2⟩
   |cons _ _=>exact qA5 h
  |_=>exact qA5 h
def zSP(P:qIb)(w:World):List V->Hp->VK->Prop:=fun vs H Q=>match vs with
 |[.ref a]=>∃ks,H a=some (zO4 P w a ks)/\ks≠[]/\ks.length<64/\∀ys:List Str,ys.Perm ks->qMk ys=true->∀l,H l=none->Q (.ref l) (upd H l (.lst (ys.map V.str)))
 |_=>False
theorem zUS(hc:X.calm=true):zCN X (.builtin "sorted") (zSP X.prog X.w):=by
 intro pins s σ H vs us Q I r h;cases vs with
 |nil=>exact qA5 h
 |cons hd1 tl1=>
  cases hd1 with
  |ref a=>
   cases tl1 with
   |nil=>
    obtain⟨ks,ha,hne,hlen,q⟩:=h;obtain⟨u,rfl,rx⟩:=zCO r;cases rx;have hok:ObjOk X.prog X.w H s.heap a (zO4 X.prog X.w a ks):=I.hok a _ ha;have hS:SetZ X.prog X.w s.heap a (!X.w.params.followText "set-order") ks:=hok.1;refine zKA (I.ok.hd hc) hS hne hlen fun h' d tk L out e zs b1 b2 b3 hL hl hk=>?_
    have I2:Inv X pins σ H { s with drawn:=d }:=I.drawn d;have hz':zs.length<=sizeLine:=by rw[b2.length_eq,qIq];lia
    exact⟨.ref _,_,I2.laid (t':=tk) (o:=.lst (zs.map V.str)) (fun b o e=>hk b o e) hL ⟨by rw[qAi];exact hz',out.toList,e,zF6 b1,by simpa[seqObj]using hl⟩,rfl,q zs b2 b3 _ (I2.hok.fresh hL)⟩
   |cons _ _=>exact qA5 h
  |_=>exact qA5 h
end
theorem zQD:qJm "set" = some (.type "set"):=by decide +kernel
end L2
namespace L2
open PySem PySem.Spec
section
variable{X:Cx}
end
end L2
namespace L2
open PySem
end L2
namespace L3
open PySem PySem.Spec PyProof.Rows
open L2 hiding Rep RepL
open Mi (Dt R Rh EM TM SM AM IM Xn Sl Ro Out okR zA2 optR full frz frzAt)
section
variable[Kc]{mg:Str->Option Value}{E:XK}{n L:Nat}{te ta tb:TE}{e:EM}{m m':SM}
end
end L3
namespace L3
open PySem PySem.Spec
open L2 hiding Rep RepL
open Mi (Dt Xn R okR zA2 optR zA0 zA5 zA8 zA4 zA7 Rh Sl Ro EM TM AM FM IM SM Tg Out zAN zAM zAP full frz frz1 frzAt)
section
variable[Kc]
section
variable{G0 H0 S0:Hp}{σ:St}{ρ:Ro}{G H:Hp}{As:Nat->Addr->Prop}
end
variable{mg:Str->Option Value}{E:XK}{L n k l:Nat}{te ta tb:TE}{e ea eb ma:EM}{t:TA}{m:AM}
end
end L3
namespace L3
open PySem PySem.Spec
open PyProof.Rows (risingS sortedS ltCps_eq)
open L2 hiding Rep RepL
open Mi (Dt Xn R okR zA2 optR zA0 zA5 zA8 zA4 zA7 Rh Sl Ro EM TM AM FM IM SM OM Tg Out zAN zAM zAP full frz frz1 frzAt)
section
variable[Kc]{mg:Str->Option Value}{E:XK}{L n k l:Nat}{te ta tb:TE}{e ea eb ma:EM}{t:TA}{m:AM}
theorem one_le{c d:Nat}:([c]:List Nat)<=[d]↔c<=d:=by
 constructor
 ·intro h
  by_cases z:c<=d
  ·exact z
  ·exact absurd (show([d]:List Nat) < [c] from .rel (by lia)) (qHv.mpr h)
 ·intro h
  rcases Nat.lt_or_eq_of_le h with h|h
  ·exact List.le_of_lt (.rel h)
  ·rw[h];exact List.le_refl _
theorem zU0{l:List Nat}(h:l.Nodup):(l.map fun c=>(⟨#[c]⟩:Str)).Nodup:=by
 rw[qG4,qCs];refine h.imp fun hne e=>hne ?_
 have:[_]=[_]:=congrArg (fun s:Str=>s.cps.toList) e
 simpa using this
theorem zH9{G:Hp}:∀(l:List Nat),RepL G (l.map fun c=>Dt.str ⟨#[c]⟩) ((l.map fun c=>(⟨#[c]⟩:Str)).map V.str)
 |[]=>rfl
 |_::r=>⟨_,_,rfl,rfl,zH9 r⟩
theorem zYL{P:qIb}{w:World}(A:DE mg E te e k):DE mg E (tCB (zSP P w) (zEA (tCB (zWO P w) (zEA te tNil)) tNil)) (Mi.eBi Mi.sosD (Mi.aCons e Mi.aNil)) 1:=by
 intro G H σ ρ Q s w' p;have p0:PostE mg E G H 1 (zA2 (e ρ) fun d=>optR (Mi.sosD [d])) Q:=by
  have:(Mi.eBi Mi.sosD (Mi.aCons e Mi.aNil)) ρ=zA2 (e ρ) fun d=>optR (Mi.sosD [d]):=by
   show zA2 (zA2 (e ρ) fun x=>zA2 (okR []) fun xs=>okR (x::xs)) (fun xs=>optR (Mi.sosD xs))=_;cases e ρ with
   |none=>rfl
   |some r=>cases r<;>rfl
  rw[<- this];exact p
 refine(zAK A).step errE s w' p0 fun d v G1 H1 S _ fr o p1=>?_
 cases d with
 |str z=>
  cases(show v=.str z from o)
  have p2:PostE mg E G H 1 (optR (@ite _ (0<z.length/\z.length<=60) (qA4 _) (some (Dt.lst ((Mi.sosL z.cps.toList).map fun c=>Dt.str ⟨#[c]⟩))) none)) Q:=p1
  split at p2
  ·rename_i hz
   have hzl:z.length=z.cps.size:=rfl;refine⟨by lia,fun a ks ha hnd hks=>?_⟩;have hperm:ks.Perm ((Mi.sosL z.cps.toList).map fun c=>(⟨#[c]⟩:Str)):=by
    refine(List.perm_ext_iff_of_nodup hnd (zU0 (Mi.sos_nodup _))).mpr fun c=>?_
    rw[hks c,qAe];constructor
    ·rintro⟨d,hd,rfl⟩;exact⟨d,(Mi.sos_mem d _).mpr hd,rfl⟩
    ·rintro⟨d,hd,rfl⟩;exact⟨d,(Mi.sos_mem d _).mp hd,rfl⟩
   have hsl:(Mi.sosL z.cps.toList).length<=60:=by
    have h1:(Mi.sosL z.cps.toList).length=(Mi.ded z.cps.toList).length:=(qCi _ _).length_eq;have h2:∀l:List Nat,(Mi.ded l).length<=l.length:=by
     intro l
     induction l with
     |nil=>exact qA8 _
     |cons a r ih=>
      unfold Mi.ded
      split
      ·simp only[qAu];lia
      ·simp only[qAu];lia
    have h3:=h2 z.cps.toList;simp at h3
    lia
   refine⟨ks,zAD,?_,by rw[hperm.length_eq,qAi];lia,fun ys h1 h2 l hl=>?_⟩
   ·intro hnil;have hz0:0<z.cps.toList.length:=by simp;lia
    have hm:z.cps.toList[0]∈z.cps.toList:=qD0 hz0
    have:=(hks ⟨#[z.cps.toList[0]]⟩).mpr ⟨_,hm,rfl⟩
    rw[hnil]at this;simp at this
   ·have hy:ys=(Mi.sosL z.cps.toList).map fun c=>(⟨#[c]⟩:Str):=by
     refine Mi.uniqZ (h1.trans hperm) (zIF h2) ?_;rw[qCs];exact(Mi.sos_asc _).imp fun h=>one_le.mpr h
    subst hy;have hla:l≠a:=fun z=>by rw[z,zAD]at hl;cases hl
    have hl1:H1 l=none:=by rw[zAE hla]at hl;exact hl
    have x1:Ext G1 H1 G1 (upd H1 a (zO4 P w a ks)):=⟨Same.refl _,fun b o e=>by
      by_cases z:b=a
      ·rw[z,ha]at e;cases e
      ·rw[zAE z];exact e,fun b o e=>by
      have e2:=fr.ext.in' _ _ e
      by_cases z:b=a
      ·rw[z,ha]at e2;cases e2
      ·rw[zAE z];exact e2,fun _ _=>rfl⟩
    exact PostE.lst p2 (fr.ext.trans x1) (zH9 _) hl
  ·exact p2.elim
 |_=>exact p1.elim
end
end L3
namespace Mi
open PySem
noncomputable section
noncomputable def kyD:Dt->Option (Sum Int Str)
 |.int i=>some (.inl i)
 |.str x=>some (.inr x)
 |_=>none
noncomputable def swD:Dt->Option Sw
 |.non=>some .non
 |.bl b=>some (.bl b)
 |.int i=>some (.int i)
 |.str x=>some (.str x)
 |_=>none
noncomputable def swT:Sw->Dt
 |.non=>.non
 |.bl b=>.bl b
 |.int i=>.int i
 |.str x=>.str x
noncomputable def getW(kvs:List (Sum Int Str×Sw))(k:Sum Int Str):Option Sw:=(kvs.find? fun p=>decide (p.1=k)).map (·.2)
noncomputable def putW(kvs:List (Sum Int Str×Sw))(k:Sum Int Str)(v:Sw):List (Sum Int Str×Sw):=
 if(kvs.any fun p=>decide (p.1=k))=true then kvs.map (fun p=>if p.1=k then(p.1,v)else p)else kvs++[(k,v)]
def eDct0:EM:=fun _=>okR (.dct [])
def dinD(ng:Bool)(x y:Dt):Option Dt:=match y with
 |.dct kvs=>match kyD x with
  |some k=>some (.bl (if ng=true then !(getW kvs k).isSome else(getW kvs k).isSome))
  |none=>none
 |_=>none
def sDput(i:Nat)(e1 e2:EM):SM:=fun ρ=>zA2 (e2 (full ρ)) fun v=>match ρ[i]? with
 |some (some (.dct kvs,k+1))=>zA2 (e1 (full ρ)) fun y=>match kyD y,swD v with
  |some q,some u=>@ite _ (kvs.length<=100000) (qA4 _) (okR (.nx (ρ.set i (some (.dct (putW kvs q u),k+1))))) none
  |_,_=>none
 |_=>none
def pairsD:List Dt->Option (List (Sum Int Str×Sw))
 |[]=>some []
 |.tup [a,b]::r=>match kyD a,swD b,pairsD r with
  |some k,some v,some q=>some ((k,v)::q)
  |_,_,_=>none
 |_::_=>none
def sDupd(i:Nat)(e:EM):SM:=fun ρ=>match ρ[i]? with
 |some (some (.dct kvs,k+1))=>zA2 (e (full ρ)) fun d=>match d with
  |.lst ds=>match pairsD ds with
   |some ps=>@ite _ (kvs.length+ps.length<=50000) (qA4 _) (okR (.nx (ρ.set i (some (.dct (ps.foldl (fun m p=>putW m p.1 p.2) kvs),k+1))))) none
   |none=>none
  |_=>none
 |_=>none
end
end Mi
namespace PySem
open Sem (wp)
theorem zJ7:typeLookup (.type "list") "keys" = pure none:=by rw[qK9,qJa];kernel_rfl
theorem zJ3{prog:qIb}{w:World}{A:qIc}{E:Value->qI8->Prop}{s:qI8}{a:Addr}{o:Obj}{xs:Array Value}{k:Nat}{Q:Option Value->qI8->Prop}
  (hx:s.heap.get? a=some o) (hc:o.cls=.type "list") (hdat:o.data=.seq xs k) (hd:o.dict=none) (hA:A.handled=none)
  (h:∀h' tk,(∀b ob,s.heap.get? b=some ob->h'.get? b=some ob)->Q none { s with heap:=h',toks:=tk }) :
  wpAny (model prog w) A (getAttr? (.ref a) "keys") Q E s:=by
 obtain⟨c,dct,dat,sl⟩:=o;simp only at hc hdat hd;subst hc hdat hd;obtain⟨hp,g,d,tk,os⟩:=s;have hT:∀tk',(⟨hp,g,d,tk',os⟩:qI8).TypeIs (.ref a) "list":=fun _=>⟨_,hx,rfl⟩
 have f1:=sub_AttributeError;have f3:=qJq.lookup;have f4:=qJq.bind (.ref a);have f5:=am_list_getattr_none;unfold getAttr? getAttrBy? getAttrBy
 repeat (any_goals (first|assumption|exact hT _|((with_reducible show wpAny _ _ (call (qLf "list.__getattribute__") _ _) _ _ _);refine call_meets qJq (hT _) am_entry_list_getattribute (F.args_list_getattribute_2 _ _) (meets_getattribute_miss_list a xs k sl "keys" _ zJ7 (by decide +kernel) (by size_fits)) ⟨hx,hA,fun h' tk' e hx'=>?_⟩)|wp_step))
 obtain⟨t',u',he⟩:=hx'.there;have hTe:(⟨h',g,d,tk',os⟩:qI8).TypeIs (.ref e) "AttributeError":=⟨_,he,rfl⟩
 show wpAny _ _ (getattributeRaised _ _ _ _ _ _ _) _ _ _;unfold getattributeRaised
 repeat (any_goals (first|assumption|wp_step))
 exact h h' tk' hx'.keeps
theorem zCV:qMm table "dict.update.loop" = some qJk.«dict.update.loop»:=entryFor_of_tree (by kernel_rfl)
theorem zB9:plainId "dict.update.loop" = true:=by decide +kernel
section
variable{prog:qIb}{w:World}{A:qIc}{K:Type}[DecidableEq K]{knd:KeyKind prog w K}
def zQK(knd:KeyKind prog w K)(h:Heap)(v:Value)(p:K×Value):Prop:=∃t o n key,v=.ref t/\h.get? t=some o/\o.cls=.type "tuple"/\o.data=.seq #[key,p.2] n/\knd.is p.1 key=true
theorem zQO{R:qLu->qI8->Prop}(hh:A.handled=none){d l it:Addr}(hdl:d≠l)(hdi:d≠it)(hli:l≠it){items:Array Value}(ps:List (K×Value))(hps:ps.length=items.size)(result:Value) :
  ∀(n i:Nat)(s:qI8)(kvs:List (K×Value)),items.size-i=n->i<=items.size->kvs.length+n<=100000->s.heap.DictOf knd d kvs->s.heap.IsListIter it l i->s.heap.IsList l items ->
  (∀(j:Nat) v p,items[j]?=some v->ps[j]?=some p->zQK knd s.heap v p) ->
  (∀h' tk,h'.DictOf knd d ((ps.drop i).foldl (fun m p=>stored m p.1 p.2) kvs)->(∀b o,b≠d->b≠it->s.heap.get? b=some o->h'.get? b=some o)->(∃o,h'.get? d=some o)->R (.ok (.ret result)) { s with heap:=h',toks:=tk }) ->
  qK8 (model prog w) A (.builtin "dict.update.loop" ⟨[.ref d,.ref it,rawInt i,result],[]⟩) R s:=by
 intro n
 induction n with
 |zero=>
  intro i s kvs hn hi hz hd hit hl hp hR;have hin:i=items.size:=by lia
  refine codeAny_builtin zCV ?_;rw[qIm zB9 _];show wpAny _ A.in1 (pyNext (.ref it) >>= _) _ _ s;refine wpAny_bind (wpAny_pyNext_list_end hh hit hl (by rw[hin];simp) fun h' hx=>?_);show wpAny _ A.in1 (Builtin.Dict.addKeywords d [] >>= _) _ _ _;refine wpAny_bind (wpAny_of_eq (a:=()) rfl ?_);have hd':h'.DictOf knd d kvs:=by
   obtain⟨o,es,ep,ho,r⟩:=hd;exact⟨o,es,ep,hx _ _ hdi ho,r⟩
  refine wpAny_pure (hR h' s.toks ?_ (fun b o _ hb e=>hx b o hb e) ?_)
  ·rw[hin,<- hps,qEr];exact hd'
  ·obtain⟨o,es,ep,ho,r⟩:=hd';exact⟨o,ho⟩
 |succ n ih=>
  intro i s kvs hn hi hz hd hit hl hp hR;have hlt:i<items.size:=by lia
  have hx:items[i]?=some items[i]:=qE7 hlt;have hpi:ps[i]?=some (ps[i]'(by lia)):=qA2 (by lia);obtain⟨t,o,m,key,e1,e2,e3,e4,e5⟩:=hp i _ _ hx hpi;refine codeAny_builtin zCV ?_;rw[qIm zB9 _];show wpAny _ A.in1 (pyNext (.ref it) >>= _) _ _ s;refine wpAny_bind (wpAny_pyNext_list_item hit hl hx fun h1 hit1 hs1=>?_);rw[e1];obtain⟨oi,hoi,hci,hdi'⟩:=id hit;have hti:t≠it:=fun z=>by
   rw[z,hoi]at e2;cases e2;rw[hci]at e3;exact absurd e3 (by decide)
  have htd:t≠d:=fun z=>by
   obtain⟨od,es,ep,ho,hex,hdd,_⟩:=hd;rw[z,ho]at e2;cases e2;rw[hdd]at e4;cases e4
  have e2':h1.get? t=some o:=(hs1.2 t hti).trans e2;have hd1:h1.DictOf knd d kvs:=by
   obtain⟨o,es,ep,ho,r⟩:=hd;exact⟨o,es,ep,(hs1.2 d hdi).trans ho,r⟩
  show wpAny _ A.in1 (holding [.ref t] _ >>= _) _ _ _;refine wpAny_bind (wpAny_holding ?_);refine wpAny_bind (wpAny_tryCatch ?_);unfold Builtin.Dict.pairItems;refine wpAny_bind (wpAny_typeOf (T:="tuple") ⟨o,e2',e3⟩ ?_);rw[if_pos (by decide)];refine wpAny_bind (wpAny_seqItems e2' e4 ?_);refine wpAny_pure ?_;show wpAny _ A.in1 (holding [key,(ps[i]'(by lia)).2] (dictSet d key (ps[i]'(by lia)).2)) _ _ _;refine wpAny_holding (wpAny_dictSet_pairs e5 hd1 (fun h2 hd2 hs2=>?_) (by rw[qIq];lia));refine wpAny_pure ⟨qJ6 zB9 _,?_⟩;have hit2:h2.IsListIter it l (i+1):=hit1.at fun o e=>(hs2.2 it hdi.symm).trans e
  have hl2:h2.IsList l items:=hl.at fun o e=>(hs2.2 l hdl.symm).trans ((hs1.2 l hli).trans e)
  have kp:∀b o,b≠d->b≠it->s.heap.get? b=some o->h2.get? b=some o:=fun b o hb hb2 e=>(hs2.2 b hb).trans ((hs1.2 b hb2).trans e)
  refine ih (i+1) _ (stored kvs (ps[i]'(by lia)).1 (ps[i]'(by lia)).2) (by lia) hlt ?_ hd2 hit2 hl2 (fun j v p h1 h2=>?_) fun h' tk hd' hk he=>?_
  ·have:=stored_length_le kvs (ps[i]'(by lia)).1 (ps[i]'(by lia)).2
   lia
  ·obtain⟨t',o',m',key',f1,f2,f3,f4,f5⟩:=hp j v p h1 h2;refine⟨t',o',m',key',f1,kp _ _ (fun z=>?_) (fun z=>?_) f2,f3,f4,f5⟩
   ·obtain⟨od,es,ep,ho,hex,hdd,_⟩:=hd;rw[z,ho]at f2;cases f2;rw[hdd]at f4;cases f4
   ·rw[z,hoi]at f2;cases f2;rw[hci]at f3;exact absurd f3 (by decide)
  ·refine hR h' tk ?_ (fun b o hb hb2 e=>hk b o hb hb2 (kp b o hb hb2 e)) he;rw[qB2 (show i<ps.length by lia)];exact hd'
theorem zQP{E:Value->qI8->Prop}{s:qI8}{Q:Value->qI8->Prop}(hh:A.handled=none){d l:Addr}(hdl:d≠l){kvs:List (K×Value)}{items:Array Value}(ps:List (K×Value))(hps:ps.length=items.size)(hz:kvs.length+items.size<=100000)
  (hd:s.heap.DictOf knd d kvs) {o:Obj} {n:Nat} (ho:s.heap.get? l=some o) (hc:o.cls=.type "list") (hod:o.dict=none) (hdat:o.data=.seq items n)
  (hp:∀(j:Nat) v p,items[j]?=some v->ps[j]?=some p->zQK knd s.heap v p)
  (hQ:∀h' tk,h'.DictOf knd d (ps.foldl (fun m p=>stored m p.1 p.2) kvs)->(∀b o,b≠d->s.heap.get? b=some o->h'.get? b=some o)->(∃o,h'.get? d=some o)->Q .none { s with heap:=h',toks:=tk }) :
  wpAny (model prog w) A (call (.builtin "dict.update") [.ref d,.ref l]) Q E s:=by
 refine wpAny_call (codeAny_call_builtin qLj.plain F.entry_dict_update (qLj.check _ _ _ _ _ _ _ _ hd.typeIs (F.args_dict_update_2 _ _) ?_));unfold qJk.«dict.update»;refine wpAny_bind ?_;unfold Builtin.Dict.selfAndRest;refine wpAny_bind (wpAny_notOrdered_dict hd.typeIs ?_);show wpAny _ _ (pure (d,[qIi l])) _ _ s;refine wpAny_pure ?_;show wpAny _ A.in1 (qKp "dict.update" d (.ref l) [] .none) _ _ s;unfold qKp;refine wpAny_bind (wpAny_typeOf (T:="list") ⟨o,ho,hc⟩ ?_);rw[if_pos (by decide)];refine wpAny_bind (zJ3 ho hc hdat hod hh fun h1 tk1 hk1=>?_);show wpAny _ A.in1 (rule _ >>= fun _=>pyIter (.ref l) >>= _) _ _ _;refine wpAny_bind (wpAny_rule ?_);have hl1:h1.IsList l items:=⟨o,hk1 _ _ ho,hc,n,hdat⟩
 refine wpAny_bind (wpAny_pyIter_list hl1 ?_);have hd1:h1.DictOf knd d kvs:=by
  obtain⟨o,es,ep,ho,r⟩:=hd;exact⟨o,es,ep,hk1 _ _ ho,r⟩
 have hdl1:d<h1.objs.size:=by
  obtain⟨o,es,ep,ho,r⟩:=hd1;exact qI9 ho
 have hll1:l<h1.objs.size:=qI9 (hk1 _ _ ho);refine wpAny_pure ⟨qJ6 zB9 _,?_⟩;refine zQO (knd:=knd) (l:=l) (it:=h1.objs.size) (items:=items) hh hdl (qAj hdl1) (qAj hll1) ps hps .none items.size 0 _ kvs rfl (qAy _) hz ?_ ⟨_,qIa _ rfl,rfl,rfl⟩ (hl1.at fun o e=>qI7 _ e) (fun j v p a1 a2=>?_) fun h' tk hd' hk he=>?_
 ·obtain⟨o,es,ep,ho,r⟩:=hd1;exact⟨o,es,ep,qI7 _ ho,r⟩
 ·obtain⟨t',o',m',key',f1,f2,f3⟩:=hp j v p a1 a2;exact⟨t',o',m',key',f1,qI7 _ (hk1 _ _ f2),f3⟩
 ·exact hQ h' tk hd' (fun b o hb e=>hk b o hb (qAj (qI9 (hk1 _ _ e))) (qI7 _ (hk1 _ _ e))) he
end
end PySem
namespace L2
open PySem PySem.Spec PyProof.Rows
section
variable{X:Cx}
noncomputable def tMD(r:V->List V->Hp->VK->Prop)(to:TE)(t:TA):TE:=fun σ H Q=>to σ H fun x H1=>match x with
 |.ref p=>(∃kvs,H1 p=some (.dK kvs))/\t σ H1 fun vs H2=>r x vs H2 Q
 |_=>False
variable{o e:Expr}{es:List Expr}{to:TE}{t:TA}{name:Str}{apos cpos:Pos}{T id:String}{r:V->List V->Hp->VK->Prop}
theorem zZM(pa:qMe "dict")(slot:Slot "dict" name id)(hty:typeOf (.builtin id)=pure (.type "method_descriptor"))(hm:MtR X id r)(ho:PE X o to)(ha:PA X (e::es) t)
  (hbase:qLh o name X.env (eval o X.env)=eval o X.env:=by rfl)
  (hfew:((backTo cpos (starEach (e::es) X.env)).all (fun x=>!x.1)&&(backToKw cpos (keywordEach [] X.env)).all (fun x=>x.1.isSome)
   && decide ((e::es).length+([]:List qLm).length+(if([]:List qLm).isEmpty then 0 else 1)<30))=true:=by rfl)
  (hline:(apos.endLine==cpos.line)=true:=by rfl) (hs:starEach (e::es) X.env=(false,eval e X.env)::starEach es X.env:=by rfl) (hplain:(backTo cpos (starEach es X.env)).any (·.1)=false:=by rfl) :
  PE X (.Call (.Attribute o name apos) (e::es) [] cpos) (tMD r to t):=by
 intro pins s σ H Q I h;refine qJt hbase hfew hline rfl (thn (ho pins s σ H _ I h) fun v s1 z0=>?_);obtain⟨x,H1,I1,r1,q1⟩:=z0;cases x with
 |ref p=>?_
 |_=>exact qA5 q1
 obtain⟨⟨kvs,hx⟩,q1⟩:=q1;cases r1;obtain⟨h1,h2,_⟩:=zY0 I1 (.inl ⟨kvs,.inl hx⟩);refine⟨"dict",id,pa,slot,hty,h1,h2,?_⟩;have hA:=ha cpos pins s1 σ H1 _ I1 q1;rw[hs]at hA ⊢;refine qJu (by show(false||(backTo cpos (starEach es X.env)).any (·.1))=false;rw[hplain]<;>rfl) (qK2 ?_);exact thn hA fun us s2 ⟨vs,H2,I2,r2,q2⟩=>hm pins s2 σ H2 (.ref p) vs _ us Q I2 rfl r2 q2
def zVO(H:Hp)(x:V)(p:Key×V):Prop:=∃t,x=.ref t/\H t=some (.tup [kV p.1,p.2])
def updM:V->List V->Hp->VK->Prop:=fun x vs H Q=>match x,vs with
 |.ref d,[.ref l]=>∃(kvs:List (Key×V))(xs:List V)(ps:List (Key×V)),H d=some (.dK kvs)/\H l=some (.lst xs)/\xs.length=ps.length/\(∀(j:Nat) x p,xs[j]?=some x->ps[j]?=some p->zVO H x p)/\kvs.length+ps.length<=50000 /\
   Q .non (upd H d (.dK (ps.foldl (fun m p=>putK m p.1 p.2) kvs)))
 |_,_=>False
theorem zP8:∀{ps:List (Key×V)}{qs:List (Key×Value)}{kvs:List (Key×V)}{vs:List (Key×Value)},KV kvs vs->qKk (fun(p:Key×V)(q:Key×Value)=>p.1=q.1/\RelV p.2 q.2) ps qs->KV (ps.foldl (fun m p=>putK m p.1 p.2) kvs) (qs.foldl (fun m p=>stored m p.1 p.2) vs)
 |_,_,_,_,r,.nil=>r
 |p::ps,q::qs,kvs,vs,r,.cons ⟨e,rp⟩ t=>by
  simp only[qD9];rw[<- e];exact zP8 (r.put p.1 rp) t
theorem zU7(kvs:List (Key×V)):∀ps:List (Key×V),(ps.foldl (fun m p=>putK m p.1 p.2) kvs).length<=kvs.length+ps.length:=by
 intro ps
 induction ps generalizing kvs with
 |nil=>exact qA8 _
 |cons p r ih=>
  have h1:=ih (putK kvs p.1 p.2);have h2:=zDN kvs p.1 p.2;simp only[qD9,qAu]
  lia
theorem zLY{pins:List (Addr×Obj)}{σ:List (Option V)}{H:Hp}{s:qI8}(I:Inv X pins σ H s):∀{xs:List V}{us:List Value}{ps:List (Key×V)},Vals xs us->xs.length=ps.length->(∀(j:Nat) x p,xs[j]?=some x->ps[j]?=some p->zVO H x p) ->
  ∃qs:List (Key×Value),qKk (fun(p:Key×V)(q:Key×Value)=>p.1=q.1/\RelV p.2 q.2) ps qs/\qs.length=us.length/\∀(j:Nat) u q,us[j]?=some u->qs[j]?=some q->zQK (zC5 X.prog X.w) s.heap u q
 |_,_,[],.nil,_,_=>⟨[],.nil,rfl,fun j u q h=>by simp at h⟩
 |x::xs,u::us,p::ps,.cons r t,hl,h=>by
  obtain⟨qs,h1,h2,h3⟩:=zLY I (ps:=ps) t (by simpa using hl) fun j x p a b=>h (j+1) x p (by simpa using a) (by simpa using b)
  obtain⟨a,rfl,ha⟩:=h 0 x p rfl rfl;cases r;obtain⟨its,rv,pl,_⟩:=I.tuple (SqT.of ha);obtain⟨key,val,rfl,rk,rval⟩:=zVW rv;obtain⟨o,ho,hc,n,hd⟩:=pl;refine⟨(p.1,val)::qs,.cons ⟨rfl,rval⟩ h1,by simp[h2],fun j u q a1 a2=>?_⟩;cases j with
  |zero=>
   simp at a1 a2;subst a1 a2;exact⟨a,o,n,key,rfl,ho,hc,hd,zRT rk⟩
  |succ j=>exact h3 j u q (by simpa using a1) (by simpa using a2)
 |[],[],_::_,.nil,hl,_=>by simp at hl
 |_::_,_::_,[],.cons _ _,hl,_=>by simp at hl
theorem zS7{pins:List (Addr×Obj)}{σ:List (Option V)}{H:Hp}{s:qI8}{a:Addr}{h':Heap}{t':Nat}{ob:HO}(I:Inv X pins σ H s)(mu:Mut (H a))(hs:∀b o,b≠a->s.heap.get? b=some o->h'.get? b=some o)(he:∃q,h'.get? a=some q)(new:ObjOk X.prog X.w (upd H a ob) h' a ob) :
  Inv X pins σ (upd H a ob) { s with heap:=h',toks:=t' }:=I.write (x:=a) (e:=a) mu (.inl rfl) hs he new
theorem zUM(hc:X.calm=true):MtR X "dict.update" updM:=by
 intro pins s σ H x vs v us Q I rx rv h;cases x with
 |ref d=>
  cases vs with
  |nil=>exact qA5 h
  |cons hd1 tl1=>
   cases hd1 with
   |ref l=>
    cases tl1 with
    |nil=>
     obtain⟨kvs,xs,ps,hd,hl,hlen,hp,hz,q⟩:=h;cases rx;obtain⟨u,rfl,ru⟩:=zCO rv;cases ru;obtain⟨z,hds,ws,rel,dd⟩:=zYG I.hok hd;obtain⟨z2,its,n,r,_,e⟩:=I.lstM hl;have hil:=r.length;have hdl:d≠l:=fun z=>by rw[z,hl]at hd;cases hd
     obtain⟨qs,h1,h2,h3⟩:=zLY I r hlen hp;have hpq:=qK3 h1;have hrl:=rel.length;refine zQP (knd:=zC5 X.prog X.w) (I.ok.hd hc) hdl qs (by simp[h2]) (by simp;lia) dd e rfl rfl rfl (fun j v p a1 a2=>h3 j v p (by simpa using a1) a2) fun h' tk hd' hk he=>?_
     have hfl:=zU7 kvs ps;exact⟨.non,_,zS7 I (by rw[hd];exact qCp) hk he (zTI (by rw[qIq];lia) hds (zP8 rel h1) hd'),rfl,q⟩
    |cons _ _=>exact qA5 h
   |_=>exact qA5 h
 |_=>exact qA5 h
end
section
variable{prog:qIb}{w:World}{A:qIc}{E:Value->qI8->Prop}{s:qI8}
end
section
variable{X:Cx}{o:Expr}{td:TE}{p apos cpos pos:Pos}
end
end L2
namespace L3
open PySem PySem.Spec
open L2 hiding Rep RepL
open Mi (Dt Xn R okR zA2 optR zA0 zA5 zA8 zA4 zA7 Rh Sl Ro EM TM AM FM IM SM OM Tg Out zAN zAM zAP full frz frz1 frzAt)
abbrev wk(kvs:List (Sum Int Str×Mi.Sw)):List (Key×V):=kvs.map fun p=>(p.1,swV p.2)
theorem zTR(kvs:List (Sum Int Str×Mi.Sw))(k:Key):valV (wk kvs) k=(Mi.getW kvs k).map swV:=by
 unfold valV Mi.getW wk
 induction kvs with
 |nil=>rfl
 |cons p r ih=>
  simp only[qAk,qC4]
  by_cases h:p.1=k
  ·simp[h]
  ·simp only[h,decide_false];exact ih
theorem zWZ(kvs:List (Sum Int Str×Mi.Sw))(k:Key)(u:Mi.Sw):putK (wk kvs) k (swV u)=wk (Mi.putW kvs k u):=by
 unfold putK Mi.putW wk;have e:(kvs.map fun p=>((p.1,swV p.2):Key×V)).any (fun kv=>decide (kv.1=k))=kvs.any fun p=>decide (p.1=k):=by
  rw[List.any_map];rfl
 rw[e]
 split
 ·rw[qB3,qB3];refine qBk fun p _=>?_
  by_cases h:p.1=k
  ·simp[h]
  ·simp[h]
 ·simp
theorem zWY(ps:List (Sum Int Str×Mi.Sw)):∀kvs:List (Sum Int Str×Mi.Sw),(wk ps).foldl (fun m p=>putK m p.1 p.2) (wk kvs)=wk (ps.foldl (fun m p=>Mi.putW m p.1 p.2) kvs):=by
 induction ps with
 |nil=>intro kvs;rfl
 |cons p r ih=>
  intro kvs
  show(wk r).foldl (fun m p=>putK m p.1 p.2) (putK (wk kvs) p.1 (swV p.2))=_
  rw[zWZ,ih];rfl
section
variable[Kc]{mg:Str->Option Value}{E:XK}{L n k l:Nat}{te ta tb tx td:TE}{e ea eb ex ed ma:EM}{t:TA}{m:AM}
theorem ky_rep{G:Hp}{d:Dt}{v:V}{q:Sum Int Str}(h:Rep G d v)(e:Mi.kyD d=some q):v=kV q:=by
 cases d with
 |int i=>cases e;exact h
 |str x=>cases e;exact h
 |_=>cases e
theorem sw_rep{G:Hp}{d:Dt}{v:V}{u:Mi.Sw}(h:Rep G d v)(e:Mi.swD d=some u):v=swV u:=by
 cases d with
 |non=>cases e;exact h
 |bl _=>cases e;exact h
 |int i=>cases e;exact h
 |str x=>cases e;exact h
 |_=>cases e
theorem zU2{G:Hp}(u:Mi.Sw):Rep G (Mi.swT u) (swV u):=by cases u<;>rfl
theorem zVE(u:Mi.Sw):(Mi.swT u).dep=0:=by cases u<;>rfl
theorem zQ4:DE mg E zSI Mi.eDct0 1:=by
 intro G H σ ρ Q s w p a ha;have fr:Fr G H G H (fun _=>False):=⟨Ext.refl s,fun _ z=>z.elim⟩
 exact p (.ref a) G _ _ (fr.add ha (.dK [])) ⟨a,rfl,zAD,.inl rfl⟩
theorem dt_B(A:DE mg E te e k):DT mg E (L2.tB te) (Mi.tB e):=by
 intro G H σ ρ Q s w p;refine(zAK A).step errT s w p fun d v G1 H1 S _ fr o p1=>?_
 cases d with
 |bl b=>
  cases(show v=.bl b from o)
  exact⟨b,rfl,p1 H1 fr.ext.h⟩
 |_=>exact p1.elim
theorem de_din(A:DE mg E ta ea k)(B:DE mg E tb eb l):DE mg E (tDIn ta tb) (Mi.eB (Mi.dinD false) ea eb) n:=by
 intro G H σ ρ Q s w p;refine(zAK A).step errE s w p fun d v G1 H1 S _ fr o p1=>?_
 refine(zAK B).step (errE.from fr.ext) fr.ext.in' (w.mono fr.ext.g) p1 fun e u G2 H2 S2 _ fr2 o2 p2=>?_
 cases e with
 |dct kvs=>
  obtain⟨a,rfl,ha⟩:=o2;have p3:PostE mg E G H n (optR (match Mi.kyD d with|some k=>some (.bl (if false=true then !(Mi.getW kvs k).isSome else(Mi.getW kvs k).isSome))|none=>none)) Q:=p2;cases ek:Mi.kyD d with
  |none=>rw[ek]at p3;exact p3.elim
  |some q=>
   rw[ek]at p3;cases ky_rep o ek;refine⟨a,_,rfl,DGet.k (fr2.ext.in' _ _ ha),?_⟩;rw[zTR,qCq];exact PostE.val (PostE.from p3 (fr.ext.trans fr2.ext)) (Ext.refl fr2.ext.in') rfl rfl
 |_=>exact p2.elim
theorem zVG(A:DE mg E ta ea k)(B:DE mg E tb eb l):DE mg E (zK4 ta tb) (Mi.eB (Mi.dinD true) ea eb) n:=by
 intro G H σ ρ Q s w p;refine(zAK A).step errE s w p fun d v G1 H1 S _ fr o p1=>?_
 refine(zAK B).step (errE.from fr.ext) fr.ext.in' (w.mono fr.ext.g) p1 fun e u G2 H2 S2 _ fr2 o2 p2=>?_
 cases e with
 |dct kvs=>
  obtain⟨a,rfl,ha⟩:=o2;have p3:PostE mg E G H n (optR (match Mi.kyD d with|some k=>some (.bl (if true=true then !(Mi.getW kvs k).isSome else(Mi.getW kvs k).isSome))|none=>none)) Q:=p2;cases ek:Mi.kyD d with
  |none=>rw[ek]at p3;exact p3.elim
  |some q=>
   rw[ek]at p3;cases ky_rep o ek;refine⟨a,_,rfl,DGet.k (fr2.ext.in' _ _ ha),?_⟩;rw[zTR,qCq];exact PostE.val (PostE.from p3 (fr.ext.trans fr2.ext)) (Ext.refl fr2.ext.in') rfl rfl
 |_=>exact p2.elim
theorem zVC(i:Nat){n1 n2:Nat}{t1 t2:TE}{e1 e2:EM}(A:DE mg E t1 e1 n1)(B:DE mg E t2 e2 n2):DS mg E L (zWG (vM i) t1 t2) (Mi.sDput i e1 e2):=by
 intro G0 H0 S0 σ ρ G H As D a p;obtain⟨J,x,s,w⟩:=a.full;refine(zAK B).step (errS.from x) x.in' w p fun d y G1 H1 S _ fr o p1=>?_
 cases er:ρ[i]? with
 |none=>rw[er]at p1;exact p1.elim
 |some sl=>
  rw[er]at p1
  match sl,er,p1 with
  |none,_,p=>exact p.elim
  |some (.dct kvs,k+1),er,p1=>
   obtain⟨v,h1,q,rfl,hq,hs⟩:=a.at i _ _ er;unfold vM;rw[h1];have x1:Ext J H J H1:=Ext.same x.in' fr.ext.h;refine(zAK A).step (errS.from (x.trans x1)) x1.in' w p1 fun z u G2 H2 S2 _ fr2 o2 p2=>?_
   cases ek:Mi.kyD z with
   |none=>rw[ek]at p2;exact p2.elim
   |some c=>
    cases ev:Mi.swD d with
    |none=>rw[ek,ev]at p2;exact p2.elim
    |some uu=>
     rw[ek,ev]at p2;dsimp only at p2
     split at p2
     ·rename_i hz
      cases ky_rep o2 ek;cases sw_rep o ev;have sH:=fr.ext.h.trans fr2.ext.h;have a1:=a.grow sH;refine⟨q,_,rfl,DPut.k (sH _ _ hq) (by rw[qAi,qIq];lia),?_⟩;rw[zWZ];exact p2 σ G _ _ (a1.store (o:=.dK (wk (Mi.putW kvs c uu))) (n:=k+1) (d:=.dct (Mi.putW kvs c uu)) (S:=As i) hs h1 ⟨q,rfl,zAD,hs⟩ fun b z=>.inl z)
     ·exact p2.elim
  |some (.dct _,0),_,p=>exact p.elim
  |some (.lst _,_),_,p=>exact p.elim
  |some (.non,_),_,p=>exact p.elim
  |some (.bl _,_),_,p=>exact p.elim
  |some (.int _,_),_,p=>exact p.elim
  |some (.str _,_),_,p=>exact p.elim
  |some (.tup _,_),_,p=>exact p.elim
  |some (.scr _,_),_,p=>exact p.elim
  |some (.exc _ _ _,_),_,p=>exact p.elim
  |some (.fn _ _,_),_,p=>exact p.elim
  |some (.dtt _ _,_),_,p=>exact p.elim
  |some (.loc _ _,_),_,p=>exact p.elim
  |some (.ins _ _,_),_,p=>exact p.elim
theorem zIT{G:Hp}:∀{ds:List Dt}{xs:List V}{ps:List (Sum Int Str×Mi.Sw)},Mi.pairsD ds=some ps->RepL G ds xs->xs.length=(wk ps).length/\∀(j:Nat) x p,xs[j]?=some x->(wk ps)[j]?=some p->zVO G x p
 |[],xs,ps,h,r=>by
  cases h;cases r;exact⟨rfl,fun j x p h=>by simp at h⟩
 |.tup [a,b]::ds,xs,ps,h,r=>by
  unfold Mi.pairsD at h;cases ea:Mi.kyD a with
  |none=>rw[ea]at h;cases h
  |some q=>
   cases eb:Mi.swD b with
   |none=>rw[ea,eb]at h;cases h
   |some u=>
    cases er:Mi.pairsD ds with
    |none=>rw[ea,eb,er]at h;cases h
    |some ps'=>
     rw[ea,eb,er]at h;cases h;obtain⟨x,xs',rfl,hx,hr⟩:=r;obtain⟨i1,i2⟩:=zIT er hr;refine⟨by simp at i1 ⊢;exact i1,fun j y p h1 h2=>?_⟩;cases j with
     |zero=>
      simp at h1 h2;subst h1 h2;obtain⟨t,ys,rfl,ht,hy⟩:=hx;obtain⟨y1,y2,rfl,g1,g2⟩:=zZJ hy;cases ky_rep g1 ea;cases sw_rep g2 eb;exact⟨t,rfl,ht⟩
     |succ j=>exact i2 j y p (by simpa using h1) (by simpa using h2)
 |.tup []::ds,_,_,h,_=>by cases h
 |.tup [_]::ds,_,_,h,_=>by cases h
 |.tup (_::_::_::_)::ds,_,_,h,_=>by cases h
 |.lst _::ds,_,_,h,_=>by cases h
 |.non::ds,_,_,h,_=>by cases h
 |.bl _::ds,_,_,h,_=>by cases h
 |.int _::ds,_,_,h,_=>by cases h
 |.str _::ds,_,_,h,_=>by cases h
 |.scr _::ds,_,_,h,_=>by cases h
 |.exc _ _ _::ds,_,_,h,_=>by cases h
 |.fn _ _::ds,_,_,h,_=>by cases h
 |.dtt _ _::ds,_,_,h,_=>by cases h
 |.loc _ _::ds,_,_,h,_=>by cases h
 |.ins _ _::ds,_,_,h,_=>by cases h
 |.dct _::ds,_,_,h,_=>by cases h
theorem zVB(i:Nat)(A:DE mg E te e n):DS mg E L (zF4 (tMD updM (vM i) (zEA te tNil))) (Mi.sDupd i e):=by
 intro G0 H0 S0 σ ρ G H As D a p;obtain⟨J,x,s,w⟩:=a.full;unfold Mi.sDupd at p
 split at p
 ·rename_i kvs k e1
  obtain⟨v,h1,q,rfl,hq,hs⟩:=a.at i _ _ e1;unfold zF4 tMD vM;rw[h1];refine⟨⟨_,hq⟩,?_⟩;refine(zAK A).step (errS.from x) x.in' w p fun d y G1 H1 S ee fr o p1=>?_
  split at p1
  ·rename_i ds
   split at p1
   ·rename_i ps ep
    split at p1
    ·rename_i hz
     obtain⟨b0,xs,rfl,hb0,rr⟩:=o;obtain⟨i1,i2⟩:=zIT ep rr;have a1:=a.grow fr.ext.h;refine⟨wk kvs,xs,wk ps,fr.ext.h _ _ hq,fr.ext.in' _ _ hb0,i1,fun j x p g1 g2=>?_,by simpa using hz,?_⟩
     ·obtain⟨t,e1,e2⟩:=i2 j x p g1 g2;exact⟨t,e1,fr.ext.in' _ _ e2⟩
     ·rw[zWY];exact p1 σ G _ _ (a1.store (o:=.dK (wk (ps.foldl (fun m p=>Mi.putW m p.1 p.2) kvs))) (n:=k+1) (d:=.dct (ps.foldl (fun m p=>Mi.putW m p.1 p.2) kvs)) (S:=As i) hs h1 ⟨q,rfl,zAD,hs⟩ fun b z=>.inl z)
    ·exact p1.elim
   ·exact p1.elim
  ·exact p1.elim
 ·exact p.elim
end
end L3
namespace Mi
open PySem
noncomputable section
noncomputable def numS(n:Nat):List Dt:=(qA9 n).map fun i:Nat=>.int ((2*i:Nat):Int)
def iR3(e:AM):IM:=fun ρ=>zA2 (e ρ) fun vs=>match vs with
 |[.int i,.int j,.int k]=>@ite _ (i=0/\k=2/\0<=j/\j<1000000) (qA4 _) (okR (numS ((j+1)/2).toNat)) none
 |_=>none
noncomputable def sortC(l:List Nat):List Nat:=l.mergeSort fun a b=>decide (a<=b)
def soxD:List Dt->Option Dt
 |[.str z]=>@ite _ (z.length<64) (qA4 _) (some (.lst ((sortC z.cps.toList).map fun c=>.str ⟨#[c]⟩))) none
 |_=>none
theorem sortC_perm(l:List Nat):(sortC l).Perm l:=qCi _ _
theorem sortC_asc(l:List Nat):(sortC l).Pairwise (·<=·):=by
 have:=qEj (le:=fun a b:Nat=>decide (a<=b)) (fun a b c h1 h2=>by simp at h1 h2 ⊢;lia) (fun a b=>by simp;lia) l
 exact this.imp fun h=>by simpa using h
end
end Mi
namespace L2
open PySem PySem.Spec PyProof.Rows
section
variable{X:Cx}{tg:Expr}
end
section
variable{prog:qIb}{w:World}{A:qIc}{E:Value->qI8->Prop}{s:qI8}
theorem zJI{z:Str}{t:Tok}(hh:A.handled=none)(hn:z.cps.size<=sizeLine){Q:List Value->qI8->Prop}
  (hQ:∀(h':Heap)(tk:Nat)(acc:Array Value),ItemsOf (SignAt z) acc z.cps.size->s.heap.objs.size<h'.objs.size->(∀b o,s.heap.get? b=some o->h'.get? b=some o)->Q acc.toList { s with heap:=h',toks:=tk }) :
  wpAny (model prog w) A (collect (.str z t)) Q E s:=by
 unfold collect;refine wpAny_bind (wpAny_runValue (codeAny_builtin qE0 ?_));rw[qIm qE1 _];show wpAny _ A.in1 (newList [] >>= fun l=>again (.builtin "list.__iadd__" ⟨[l,.str z t],[]⟩)) _ _ s;refine wpAny_bind (wpAny_newObj_type ?_);refine wpAny_pure ⟨qJ6 qCh _,codeAny_builtin qEi ?_⟩;rw[qIm qCh _];show wpAny _ A.in1 (qIv (.ref s.heap.objs.size) (.str z t) (.ref s.heap.objs.size)) _ _ _;unfold qIv;refine wpAny_bind (wpAny_typeOf (T:="str") (v:=.str z t) rfl ?_);have g1:qJp (.ref s.heap.objs.size) (.str z t)=false:=rfl;have g2:(qIx "str" == qIx "list")=false:=by decide
 have g3:(qIx "str" == qIx "tuple")=false:=by decide
 simp only[g1,g2,g3,qFm,qDa,if_false];refine wpAny_bind (wpAny_pyIter_str fun ob St W hst=>?_);refine wpAny_bind (wpAny_holding ?_);unfold qKa;refine wpAny_bind (wpAny_specialOf (T:="str") (v:=.str z t) rfl PySem.F.str_len ?_)
 wp_delta
 refine wpAny_bind (wpAny_isInstance (T:="str") (v:=.str z t) (b:=true) rfl (by rw[qJh];kernel_rfl) ?_);show wpAny _ A.in1 (typeOf (qJg z t) >>= _) _ _ _;refine wpAny_bind (wpAny_typeOf (T:="str") (v:=.str z t) rfl ?_);refine wpAny_pure ?_;rw[if_neg (by decide)];obtain⟨H1,hH⟩:∃H1,s.heap.push { cls:=.type "list",data:=.seq ([]:List Value).toArray }=H1:=⟨_,rfl⟩
 rw[hH]at W hst ⊢;have hsz:H1.objs.size=s.heap.objs.size+1:=by rw[<- hH,qIk]
 have hL1:H1.get? s.heap.objs.size=some { cls:=.type "list",data:=.seq ([]:List Value).toArray }:=by rw[<- hH];exact qIa _ rfl
 have hold:∀b o,s.heap.get? b=some o->H1.get? b=some o:=fun b o e=>by rw[<- hH];exact qI7 _ e
 have hout:s.heap.objs.size∉[H1.objs.size]:=fun hm=>by
  have:=qB6.mp hm
  lia
 refine wpAny_pure ⟨qJ6 qEa _,qL1 (W A.in1 hh).toS hn _ hout _ z.cps.size 0 _ _ _ rfl (qAy _) hst (qI7 _ hL1) (qMw _) fun s' acc' c' hm hS' hacc=>?_⟩;show wpAny _ A (load s.heap.objs.size >>= _) _ _ s';refine wpAny_bind (wpAny_load hS' ?_);obtain⟨h',g',d',tk',os'⟩:=s';have eg:g'=s.gens:=hm.gens;have ed:d'=s.drawn:=hm.drawn;have eo:os'=s.os:=hm.os;subst eg;subst ed;subst eo;refine wpAny_pure (hQ h' tk' acc' hacc (qI9 hS') fun b o e=>hm.heap b o (fun hb=>?_) (qI7 _ (hold b o e)));have hlt:=qI9 e;simp only[qAb,qB9,or_false]at hb
 rcases hb with rfl|rfl
 ·exact qBv _ hlt
 ·rw[hsz]at hlt;exact absurd hlt (qI0.mpr (qC3 _))
theorem zK9{z:Str}{t:Tok}(hh:A.handled=none)(hlen:z.cps.size<64){Q:Value->qI8->Prop}
  (hQ:∀(h':Heap)(tk:Nat)(L:Addr)(out:Array Value)(e:Nat)(zs:List Str),qJw out.toList zs->zs.Perm (z.cps.toList.map fun c=>(⟨#[c]⟩:Str))->qMk zs=true->s.heap.objs.size<=L->h'.get? L=some (seqObj "list" out e)->(∀b o,s.heap.get? b=some o->h'.get? b=some o)->Q (.ref L) { s with heap:=h',toks:=tk }) :
  wpAny (model prog w) A (call (.builtin "sorted") [.str z t]) Q E s:=by
 refine qKi kind_sorted plain_sorted entry_sorted (args_sorted1 _) ?_;unfold qJk.«sorted»;refine wpAny_bind (m:=checkCount "sorted" 1 1 _) (wpAny_pure ?_);refine wpAny_bind (zJI (A:=A.in1) hh (by rw[qIq];lia) fun h' tk' acc hit hgr hkeep=>?_);have hv:=zMW hit;have hsa:qJw acc.toList (z.cps.toList.map fun c=>(⟨#[c]⟩:Str)):=zF5 (by
  have e:zLH z=(z.cps.toList.map fun c=>(⟨#[c]⟩:Str)).map V.str:=by unfold zLH;rw[qB3];rfl
  rw[<- e];exact hv)
 have hal:acc.toList.length=z.cps.size:=by rw[zH2 hsa];simp
 refine wpAny_bind (wpAny_newList ?_ (hsz:=by rw[hal,qIq];lia));have hoL:(h'.push (seqObj "list" acc.toList.toArray 0)).get? h'.objs.size=some (seqObj "list" acc.toList.toArray 0):=qIa _ rfl;refine wpAny_bind (wpAny_holding (wpAny_call_entry slot_list_sort ⟨_,hoL,rfl⟩ entry_list_sort (list_sort_treeK strKind_oneLt hoL hsa.keysOf (fun v₁ v₂ rest e=>keyKind_strs (by rw[<- e];exact hsa)) (by lia) fun st' a1 a2=>⟨_,rfl,?_⟩) (args_list_sort _)));obtain⟨zs',b1,b2,b3⟩:=sorted_out_str hsa a1 a2;obtain⟨e,he⟩:=sortedHeap_at (vs:=acc.toList) (out:=(arrOf st').map (·.2)) hoL;refine wpAny_pure ⟨_,rfl,hQ _ tk' h'.objs.size _ e zs' b1 b2 b3 (qCd hgr) he fun b o eb=>?_⟩;have h1:=hkeep b o eb;have hlt:b<h'.objs.size:=qI9 h1;rw[sortedHeap_old (qAj hlt) (by rw[size_push'];exact qBa hlt)];exact qI7 _ h1
end
section
variable{X:Cx}
def zSQ:List V->Hp->VK->Prop:=fun vs H Q=>match vs with
 |[.str z]=>z.cps.size<64/\∀ys:List Str,ys.Perm (z.cps.toList.map fun c=>(⟨#[c]⟩:Str))->qMk ys=true->∀l,H l=none->Q (.ref l) (upd H l (.lst (ys.map V.str)))
 |_=>False
theorem zUT(hc:X.calm=true):zCN X (.builtin "sorted") zSQ:=by
 intro pins s σ H vs us Q I r h;cases vs with
 |nil=>exact qA5 h
 |cons hd1 tl1=>
  cases hd1 with
  |str z=>
   cases tl1 with
   |nil=>
    obtain⟨hlen,q⟩:=h;obtain⟨u,rfl,rx⟩:=zCO r;obtain⟨t,rfl⟩:=rx;refine zK9 (I.ok.hd hc) hlen fun h' tk L out e zs b1 b2 b3 hL hl hk=>?_
    have hz':zs.length<=sizeLine:=by rw[b2.length_eq,qIq];simp;lia
    exact⟨.ref _,_,I.laid (t':=tk) (o:=.lst (zs.map V.str)) (fun b o e=>hk b o e) hL ⟨by rw[qAi];exact hz',out.toList,e,zF6 b1,by simpa[seqObj]using hl⟩,rfl,q zs b2 b3 _ (I.hok.fresh hL)⟩
   |cons _ _=>exact qA5 h
  |_=>exact qA5 h
end
end L2
namespace L3
open PySem PySem.Spec
open PyProof.Rows (risingS sortedS ltCps_eq)
open L2 hiding Rep RepL
open Mi (Dt Xn R okR zA2 optR zA0 zA5 zA8 zA4 zA7 Rh Sl Ro EM TM AM FM IM SM OM Tg Out zAN zAM zAP full frz frz1 frzAt)
section
variable[Kc]{mg:Str->Option Value}{E:XK}{L n k l:Nat}{t:TA}{m:AM}
theorem zYT:CBi zSQ Mi.soxD 1:=by
 intro mg E G H ds vs Q s h p
 by_cases hd:∃z,ds=[.str z]
 ·obtain⟨z,rfl⟩:=hd;obtain⟨x,rfl,hx⟩:=zCM h
  cases(show x=.str z from hx)
  rw[Mi.soxD]at p
  split at p
  ·rename_i hz
   have hzl:z.length=z.cps.size:=rfl;refine⟨by lia,fun ys h1 h2 l hl=>?_⟩;have hy:ys=(Mi.sortC z.cps.toList).map fun c=>(⟨#[c]⟩:Str):=by
    refine Mi.uniqZ (h1.trans ((Mi.sortC_perm _).symm.map _)) (zIF h2) ?_;rw[qCs];exact(Mi.sortC_asc _).imp fun h=>one_le.mpr h
   subst hy;exact PostE.lst p (Ext.refl s) (zH9 _) hl
  ·exact p.elim
 ·exfalso
  match ds,p,hd with
  |[],p,_=>exact p
  |[d],p,hd=>cases d<;>first|exact p|exact hd ⟨_,rfl⟩
  |a::b::r,p,_=>cases a<;>exact p
end
end L3
namespace Mi
open PySem
noncomputable section
noncomputable def dlenD:List Dt->Option Dt
 |[.dct kvs]=>some (.int (kvs.length:Int))
 |_=>none
def eDIx(d k:EM):EM:=fun ρ=>zA2 (d ρ) fun D=>match D with
 |.dct kvs=>zA2 (k ρ) fun y=>match kyD y with
  |some q=>match getW kvs q with
   |some w=>okR (swT w)
   |none=>none
  |none=>none
 |_=>none
end
end Mi
namespace L3
open PySem PySem.Spec
open L2 hiding Rep RepL
open Mi (Dt Xn R okR zA2 optR zA0 zA5 zA8 zA4 zA7 Rh Sl Ro EM TM AM FM IM SM OM Tg Out zAN zAM zAP full frz frz1 frzAt)
section
variable[Kc]{mg:Str->Option Value}{E:XK}{L n k l:Nat}{te ta tb tx td:TE}{e ea eb ex ed ma:EM}{t:TA}{m:AM}
theorem zQ3(D:DE mg E td ed k)(A:DE mg E ta ea l):DE mg E (zW8 td ta) (Mi.eDIx ed ea) n:=by
 intro G H σ ρ Q s w p;refine(zAK D).step errE s w p fun d v G1 H1 S _ fr o p1=>?_
 cases d with
 |dct kvs=>
  obtain⟨a,rfl,ha⟩:=o;have p1':PostE mg E G H n (zA2 (ea ρ) fun y=>match Mi.kyD y with|some q=>(match Mi.getW kvs q with|some w=>okR (Mi.swT w)|none=>none)|none=>none) Q:=p1;refine(zAK A).step (errE.from fr.ext) fr.ext.in' (w.mono fr.ext.g) p1' fun y u G2 H2 S2 _ fr2 o2 p2=>?_
  have x2:=fr.ext.trans fr2.ext;cases ek:Mi.kyD y with
  |none=>rw[ek]at p2;exact p2.elim
  |some q=>
   rw[ek]at p2;cases ky_rep o2 ek;cases eg:Mi.getW kvs q with
   |none=>dsimp only at p2;rw[eg]at p2;exact p2.elim
   |some u=>
    dsimp only at p2;rw[eg]at p2;have p4:=PostE.from p2 x2;have h:=DGet.k (k:=q) (fr2.ext.h _ _ (fr.ext.in' _ _ ha));rw[zTR,eg]at h;exact⟨a,swV u,rfl,h,PostE.val p4 (Ext.refl fr2.ext.in') (zVE u) (zU2 u)⟩
 |_=>exact p1.elim
end
end L3
namespace L2
open PySem
theorem uw1{P:List Value->Prop}(h:∀a,P [a]):∀us:List Value,us.length=1->P us
 |[a],_=>h a
theorem uw2{P:List Value->Prop}(h:∀a b,P [a,b]):∀us:List Value,us.length=2->P us
 |a::us,hl=>uw1 (P:=fun us=>P (a::us)) (h a) us (qGb hl)
theorem uw3{P:List Value->Prop}(h:∀a b c,P [a,b,c]):∀us:List Value,us.length=3->P us
 |a::us,hl=>uw2 (P:=fun us=>P (a::us)) (h a) us (qGb hl)
theorem uw4{P:List Value->Prop}(h:∀a b c d,P [a,b,c,d]):∀us:List Value,us.length=4->P us
 |a::us,hl=>uw3 (P:=fun us=>P (a::us)) (h a) us (qGb hl)
theorem oi{p q:Prop}(h:p\/q:=by first|exact qI4 rfl|exact qHw rfl):p\/q:=h
end L2
namespace L3
open PySem PyProof.Rows
open L2 hiding Rep RepL
theorem fsc{N P:List Str}{sc:Scope}(a:sc.kind=.function:=by rfl)(b:sc.isCoroutine=false:=by rfl)(c:sc.isGenerator=false:=by rfl)(d:N.Nodup:=by decide +kernel)(e:N.take P.length=P:=by rfl)
  (f:∀x∈P,sc.names.lookup x=some .local\/sc.names.lookup x=some .cell:=by decide +kernel) (g:∀y∈sc.names,y.2≠.free:=by decide +kernel):FnScope N P sc:=⟨a,b,c,d,e,f,g⟩
section
variable{P:qIb}{w:World}{K:qA1}{mg:Str->Option Value}{base:Heap}{x:Str}{st:Stmt}{N ps:List Str}{k:Nat}{sp:Sp}
theorem dfM{L n:Nat}{m:Mi.SM}(D:Def K mg x st)(S:FnScope N ps (zAA st))
  (hb:∀(kV doc pm:Value)(an:Option Addr)(cdv ct:Value)(us:List Value),us.length=ps.length->qLg (qBe x x (zBG st) (zAY st) (zAA st) .none kV doc pm an cdv ct) ⟨us,[]⟩=pure (ps.zip us))
  (hbody:∀{f:Addr}{cdv:Value}{A:qIc}{outer:List Env}{s:qI8}{H:Hp}{vs:List V}{Q:VK}{E:XK},Room k (A.deeper (envOfC x (zAA st) s.heap.objs.size f cdv))->(A.deeper (envOfC x (zAA st) s.heap.objs.size f cdv)).units+64<cLine->sp0 K mg L (Mi.runF ps.length n m) vs H Q E ->
   ∃t,PSs (cxOf CX0 P w K mg base N x (zAA st) f cdv A outer s H E).nox (zAY st) t/\t { nx:=fun _ H'=>Q .non H',rt:=Q } (start N vs) H):Has P w K mg base x (k+1) ps (sp0 K mg L (Mi.runF ps.length n m)):=
 D.ok S hb (fun _ _ _ _ h=>@zK8 ⟨K⟩ _ _ _ _ _ _ _ _ _ h) fun _ _ _ _ _ _ _ _ _ hr h=>hbody hr hr.units h
theorem dfX{L n:Nat}{m:Mi.SM}(D:Def K mg x st)(S:FnScope N ps (zAA st))
  (hb:∀(kV doc pm:Value)(an:Option Addr)(cdv ct:Value)(us:List Value),us.length=ps.length->qLg (qBe x x (zBG st) (zAY st) (zAA st) .none kV doc pm an cdv ct) ⟨us,[]⟩=pure (ps.zip us))
  (hbody:∀{f:Addr}{cdv:Value}{A:qIc}{outer:List Env}{s:qI8}{H:Hp}{vs:List V}{Q:VK}{E:XK},Room k (A.deeper (envOfC x (zAA st) s.heap.objs.size f cdv))->(A.deeper (envOfC x (zAA st) s.heap.objs.size f cdv)).units+64<cLine->spE K mg L (Mi.runF ps.length n m) vs H Q E ->
   ∃t,PSs (cxOf (CXe P w) P w K mg base N x (zAA st) f cdv A outer s H E) (zAY st) t/\t { nx:=fun _ H'=>Q .non H',rt:=Q } (start N vs) H):HasX P w K mg base x (k+1) ps (spE K mg L (Mi.runF ps.length n m)):=
 D.okX S hb (fun _ _ _ _ h=>@zK8 ⟨K⟩ _ _ _ _ _ _ _ _ _ h) fun _ _ _ _ _ _ _ _ _ hr h=>hbody hr hr.units h
theorem mkD{K:qA1}{h:Heap}{mg:Str->Option Value}{nm:Str}{st:Stmt}{f:Addr}{oc kV dc pm cd ct:Value}{od an:Option Addr}{sl:Array (Option Value)}(X:K.In h)(G:h.Ns qIf mg)(a:qBr K qIf nm=some (some (.ref f)))(l:K.lookup f=some ⟨oc,od,.func (qBe nm nm (zBG st) (zAY st) (zAA st) .none kV dc pm an cd ct),sl⟩)(c:qCk K cd nm=true)(k:qBh K (.ref f)=true):Def K mg nm st:=⟨f,_,zT9 (st:=st) l c k,qCt X G a⟩
end
section
variable{X:Cx}{pos:Pos}
theorem pgn(i:Nat){x:Str}(hN:decide X.N.Nodup=true:=by kernel_rfl)(hi:X.N[i]?=some x:=by rfl)(hx:Loc X.env.scope x:=by exact oi)(hf:X.fn x=true\/X.env.scope.names.lookup x=some .local:=by first|exact .inl rfl|exact .inr rfl|assumption):PG X (.Name x pos) (zGB i):=zBE (of_decide_eq_true hN) hi hx hf
theorem pst(i:Nat){x:Str}{e:Expr}{te:TE}{pos':Pos}(hN:X.N.Nodup)(he:PE X e te)(hi:X.N[i]?=some x:=by rfl)(hx:Loc X.env.scope x:=by exact oi)(hs:qKt e (some (.Name x pos')) pos.line X.env=pure false:=by rfl)(hf:X.fn x=true\/X.env.scope.names.lookup x=some .local:=by first|exact .inl rfl|exact .inr rfl|assumption):PS X (.Assign [.Name x pos'] e pos) (tAsg te (zGB i)):=zX1 hN hi hx he hs hf
end
end L3
namespace L3
open PySem PySem.Spec
open L2 hiding Rep RepL
open Mi (Dt Xn R okR zA2 optR zA0 zA5 zA8 zA4 zA7 Rh Sl Ro EM TM AM FM IM SM Tg Out zAN zAM zAP full frz frz1 frzAt)
variable[Kc]
section
variable{G H:Hp}{cl:Addr}{co:Obj}
mutual
theorem Rep.del(hc:G cl=some (cel co)):∀{d:Dt}{v:V},d.dep<=40->Rep G d v->Rep (del G cl) d v
 |.non,_,_,h=>h
 |.bl _,_,_,h=>h
 |.int _,_,_,h=>h
 |.str _,_,_,h=>h
 |.lst ds,_,hd,h=>by
  obtain⟨a,xs,e,e',r⟩:=h;exact⟨a,xs,e,(zTJ (zOX e' hc (by simp))).trans e',RepL.del hc (by rw[Dt.dep]at hd;lia) r⟩
 |.tup ds,_,hd,h=>by
  obtain⟨a,xs,e,e',r⟩:=h;exact⟨a,xs,e,(zTJ (zOX e' hc (by simp))).trans e',RepL.del hc (by rw[Dt.dep]at hd;lia) r⟩
 |.scr _,_,h,_=>by rw[Dt.dep]at h;lia
 |.exc _ _ _,_,h,_=>by rw[Dt.dep]at h;lia
 |.ins _ _,_,h,_=>by rw[Dt.dep]at h;lia
 |.dct _,_,h,_=>by rw[Dt.dep]at h;lia
 |.fn _ _,_,h,_=>by rw[Dt.dep]at h;lia
 |.dtt _ _,_,h,_=>by rw[Dt.dep]at h;lia
 |.loc _ _,_,h,_=>by rw[Dt.dep]at h;lia
theorem RepL.del(hc:G cl=some (cel co)):∀{ds:List Dt}{xs:List V},Dt.depL ds<=40->RepL G ds xs->RepL (del G cl) ds xs
 |[],_,_,h=>h
 |d::r,_,hd,h=>by
  rw[Dt.depL]at hd;obtain⟨x,q,e,a,b⟩:=h;exact⟨x,q,e,Rep.del hc (by lia) a,RepL.del hc (by lia) b⟩
end
end
variable{mg:Str->Option Value}{E:XK}{n:Nat}
end L3
namespace L3
open PySem PySem.Spec
open L2 hiding Rep RepL
open Mi (Dt okR)
section
variable[Kc]{mg:Str->Option Value}{E:XK}{L:Nat}
end
section
variable[Kc]{n:Nat}
end
end L3
namespace L3
open PySem PyProof.Rows
open L2 hiding Rep RepL
section
variable{P:qIb}{w:World}{K:qA1}{mg:Str->Option Value}{base:Heap}{x:Str}{st:Stmt}{N ps:List Str}{k:Nat}{sp:Sp}{T:Addr}
end
end L3
namespace L3
open PySem PySem.Spec PyProof.Rows
open L2 hiding Rep RepL
structure Tabs(K:qA1)(ts:List Addr):Prop where
 no:∀P∈ts,K.lookup P=none
 «in»:∀x∈makers,∀P,codP K x=some P->(lamK K x).isSome=true->P∈ts/\∃c,qEs K c P=true
theorem zID{K:qA1}{ts:List Addr}(T:Tabs K ts){P:Addr}{u:HO}(h:tabK K P=some u):P∈ts/\(∃q,u=.lam q)/\∃c,qEs K c P=true:=by
 unfold tabK at h;cases e:makers.find? fun x=>codP K x==some P&&(lamK K x).isSome with
 |none=>rw[e]at h;cases h
 |some x=>
  rw[e]at h;cases h;have h1:=List.mem_of_find?_eq_some e;have h2:=qGq e;simp only[qBd,beq_iff_eq]at h2;obtain⟨a,b⟩:=T.in x h1 P h2.1 h2.2;exact⟨a,⟨_,rfl⟩,b⟩
theorem zP6{P:qIb}{w:World}{K:qA1}{mg mb:Str->Option Value}{CX:CXT}{k:Nat}{fa a:Addr}{fd:qIs}{x:Str}{sp:Sp}{s₁:qI8}{vs:List Value}{ns:List Int}{ts:List Addr}
  (KX:K.In s₁.heap) (hT:∀P∈ts,s₁.heap.get? P=some (qFd #[])) (T:Tabs K ts) (hns:s₁.heap.Ns qIf mg) (hb:s₁.heap.Ns qK4 mb) (hbb:∀x:Str,x≠"__name__"->mb x=qJm x) (hlim:s₁.heap.NoLimit)
  (hbm:∃bm ob,mg "__builtins__" = some (.ref bm)/\bm≠qK4/\s₁.heap.get? bm=some ob/\ob.cls=.type "module"/\ob.dict=some qK4/\ob.data=.plain) (hg:s₁.gens=#[])
  (ha:s₁.heap.get? a=some { cls:=.type "list",data:=.seq vs.toArray }) (hi:qMi vs ns) (hl:ns.length<=sizeLine) (hr:Room k qLe)
  (F:∀base:Heap,K.In base->base.Ns qIf mg->FnOk P w K mg base CX k fa fd [x] sp) (hbind:∀(s:qI8)(u:Value),qLl s fd ⟨[u],[]⟩ [(x,u)])
  (hsp:∀H:Hp,Same (tabK K) H->SqL K H a (ns.map V.int)->sp [.ref a] H (fun v H'=>v=.bl true/\Same (tabK K) H') fun _ _ _=>False)
  (hCX:∀H e s',CX [] H s₁ (fun _ _ _=>False) e s'->False) :
  qK8 (model P w) qLe (.call (.ref fa) ⟨[.ref a],[]⟩) (fun r s'=>r=.ok (.ret (.bool true))/\OldK s₁.heap s'.heap/\s'.os=s₁.os/\qKm s'.gens) s₁:=by
 have rv:=zIA hi;have lenV:=hi.length;have tabO:∀{b:Addr}{u:HO},tabK K b=some u->s₁.heap.get? b=some (qFd #[]):=fun e=>hT _ (zID T e).1
 have core:∀H:Hp,(∀b u,H b=some u->(b=a/\∃o xs,u=.frz o (.lst xs))\/tabK K b=some u)->Same (tabK K) H->SqL K H a (ns.map V.int)->HOk P w H s₁.heap->(∀b,H b≠none->K.lookup b=none) ->
   qK8 (model P w) qLe (.call (.ref fa) ⟨[.ref a],[]⟩) (fun r s'=>r=.ok (.ret (.bool true))/\OldK s₁.heap s'.heap/\s'.os=s₁.os/\qKm s'.gens) s₁:=by
  intro H hO hTab hS hok hK;have base_of:∀{b:Addr}{o:Obj},s₁.heap.get? b=some o->H b=none->(hidT s₁.heap H).get? b=some o:=fun e n=>zRW e n
  have noA:∀{b:Addr}{o:Obj},s₁.heap.get? b=some o->(∀v,o.data≠.fields v)->(∀v n,o.data≠.seq v n)->H b=none:=fun{b o} e d1 d2=>by
   cases q:H b with
   |none=>rfl
   |some u=>
    rcases hO b u q with⟨z,_⟩|z
    ·subst z;rw[ha]at e;cases e;exact absurd rfl (d2 _ _)
    ·rw[tabO z]at e;cases e;exact absurd rfl (d1 _)
  have nsK:∀{b:Addr}{m:Str->Option Value},s₁.heap.Ns b m->(hidT s₁.heap H).Ns b m:=fun{b m} ⟨o,es,ep,e,d,r⟩=>⟨o,es,ep,base_of e (noA e (fun v z=>by rw[d]at z;cases z) fun v n z=>by rw[d]at z;cases z),d,r⟩
  have hKb:K.In (hidT s₁.heap H):=fun b o e=>base_of (KX b o e) (by
   cases q:H b with
   |none=>rfl
   |some u=>rw[hK b (by rw[q];simp)]at e;cases e)
  have hM:Mod K mg (hidT s₁.heap H):=⟨hKb,nsK hns,⟨mb,nsK hb,hbb⟩,let⟨mc,h1,h2⟩:=hlim;⟨mc,nsK h1,h2⟩,let⟨bm,ob,e1,e2,e3,e4,e5,e6⟩:=hbm;⟨bm,ob,e1,e2,base_of e3 (noA e3 (fun v z=>by rw[e6]at z;cases z) fun v n z=>by rw[e6]at z;cases z),e4,e5,e6⟩⟩
  have e0:Env0 P w K mg (hidT s₁.heap H) qLe [] s₁ H:=⟨rfl,hM,fun b o e=>zUG e,qF1 (zPM _ _),trivial,fun b hb=>absurd (show b∈([]:List Addr) from hb) (by simp),hok,.of_eq hg⟩
  refine codeAny_mono ((F _ hKb (nsK hns)).run qLe [] s₁ H ⟨[.ref a],[]⟩ [.ref a] [.ref a] _ _ hr e0 (hbind s₁ (.ref a)) (.cons rfl .nil) (hsp H hTab hS)) fun r s' h=>?_
  cases r with
  |error e=>exact(hCX H e s' h).elim
  |ok fl=>
   cases fl with
   |next=>exact qA5 h
   |brk=>exact qA5 h
   |cont=>exact qA5 h
   |ret u=>
    obtain⟨v,H',os,bare,un,hok',r',q,qT⟩:=h;subst q;obtain rfl:u=qJb true:=r';refine⟨rfl,⟨fun b o e=>?_,fun b o e=>un.there b o e (by simp)⟩,os,bare⟩;cases q:H b with
    |none=>exact .inl (un.keep b o e q (by intro z;exact absurd (show b∈([]:List Addr) from z) (by simp)) (by simp))
    |some u=>
     rcases hO b u q with⟨_,ob,xs,rfl⟩|z
     ·have z2:=un.frzs b ob _ q;obtain⟨e1,_⟩:=hok b _ q;obtain⟨e2,_⟩:=hok' b _ z2;rw[e]at e1;cases e1;exact .inl e2
     ·obtain⟨hts,⟨qq,rfl⟩,c,hc⟩:=zID T z;obtain⟨ps,e2,_⟩:=hok' b _ (qT _ _ z);have e3:=hT b hts;rw[e3]at e;cases e;exact .inr (.inl ⟨((PySem.W.codeHd_of_K KX hc).tab e3).isCodeTable,rfl,#[],ps,rfl,by rw[e2];simp⟩)
 have tOk:∀{H:Hp}{b:Addr}{u:HO},tabK K b=some u->ObjOk P w H s₁.heap b u:=fun{H b u} z=>by
  obtain⟨hts,⟨q,rfl⟩,_⟩:=zID T z;exact⟨#[],hT b hts,trivial,fun pos cv y=>by simp[codeAmong]at y⟩
 have nta:tabK K a=none:=by
  cases z:tabK K a with
  |none=>rfl
  |some u=>have:=tabO z;rw[ha]at this;cases this
 cases hk:K.lookup a with
 |some o=>
  have e:=KX a o hk;rw[ha]at e;cases e;exact core (tabK K) (fun b u z=>.inr z) (Same.refl _) (.inr ⟨_,vs.toArray,_,hk,rfl,rfl,rfl,by rw[qAd,lenV];exact hl,by simpa using rv⟩) (fun b u z=>tOk z) fun b z=>by
   cases y:tabK K b with
   |none=>exact absurd y z
   |some u=>exact T.no b (zID T y).1
 |none=>
  refine core (upd (tabK K) a (.frz { cls:=.type "list",data:=.seq vs.toArray } (.lst (ns.map V.int)))) (fun b u z=>?_) (fun b u z=>?_) (.inl (.inr ⟨{ cls:=.type "list",data:=.seq vs.toArray },zAD⟩)) (fun b u z=>?_) fun b z=>?_
  ·by_cases hb:b=a
   ·subst hb;rw[zAD]at z;cases z;exact .inl ⟨rfl,_,_,rfl⟩
   ·rw[zAE hb]at z;exact .inr z
  ·rw[zAE (zAH z nta)];exact z
  ·by_cases hb:b=a
   ·subst hb;rw[zAD]at z;cases z;exact⟨ha,by rw[qAi];exact hl,vs,_,rv,ha⟩
   ·rw[zAE hb]at z;exact tOk z
  ·by_cases hb:b=a
   ·subst hb;exact hk
   ·rw[zAE hb]at z;cases y:tabK K b with
    |none=>exact absurd y z
    |some u=>exact T.no b (zID T y).1
theorem zQN{l:qE2}{n k:Nat}{q:qIb}{loose:List Str}{XP:(Str->Option Value)->Heap->Prop}{YP:World->Heap->Prop}{d:DefRec}{K:Params->qA1}{CX:World->CXT}{sp:World->Sp}{x:Str}{ts:List Addr}
  (hn:l.most=some n) (hn2:n<=sizeLine) (hdf:d.params.defaults=[]) (hr:Room k qLe)
  (hY:∀(w:World)(h:Heap),YP w h->(K w.params).In h/\∀P∈ts,h.get? P=some (qFd #[]))
  (F:∀(w:World)(mg:Str->Option Value)(fa:Addr)(h:Heap),(K w.params).In h->h.Ns qIf mg->mg d.name=some (.ref fa) ->
   Tabs (K w.params) ts/\∃fd:qIs,(∀(s:qI8)(u:Value),qLl s fd ⟨[u],[]⟩ [(x,u)]) /\
    ∀base:Heap,(K w.params).In base->base.Ns qIf mg->FnOk l.prog w (K w.params) mg base (CX w) k fa fd [x] (sp w))
  (hsp:∀(w:World)(H:Hp)(a:Addr)(ns:List Int),ns.length<=n->(∀i∈ns,i.natAbs.log2<2 ^ 20)->Same (tabK (K w.params)) H->SqL (K w.params) H a (ns.map V.int)->sp w [.ref a] H (fun v H'=>v=.bl true/\Same (tabK (K w.params)) H') fun _ _ _=>False)
  (hCX:∀(w:World)(H:Hp)(s:qI8)(e:Value)(s':qI8),CX w [] H s (fun _ _ _=>False) e s'->False) :
  qFp q loose XP YP l.row.toRowW d [] (fun f vs=>qG1 f vs):=by
 refine Att.attach_callW hn hdf fun w s₀ s₁ mg mb fa o pm cd doc a vs ns G Y ho hd hcd hmg hobj hints hlen hw hg=>?_
 obtain⟨KX,hT⟩:=hY w _ Y;obtain⟨T,fd,hb,hF⟩:=F w mg fa _ KX G.T.g hmg;exact zP6 KX hT T G.T.g G.T.b G.T.builtins G.T.nolimit G.T.bmain hg hobj hints (qAl hlen hn2) hr hF hb (fun H hO hS=>hsp w H a ns hlen hw hO hS) fun H e s'=>hCX w H s₁ e s'
end L3
namespace L3
open PySem PyProof.Rows
open L2 hiding Rep RepL
structure Mk1(K:qA1)(ts:List Addr)(x:Str)(r:Option Addr):Prop where
 cod:codP K x=r
 lam:(lamK K x).isSome=r.isSome
 hd:∀P,r=some P->P∈ts/\∃c,qEs K c P=true
theorem mk1_none{K:qA1}{ts:List Addr}{x:Str}(a:qBr K qIf x=some none):Mk1 K ts x none:=
 ⟨by unfold codP;rw[a],by unfold lamK;rw[a];rfl,fun _ z=>by cases z⟩
structure Tb(K:qA1)(ts:List Addr)(r1 r2 r3:Option Addr):Prop where
 m1:Mk1 K ts "turned_at" r1
 m2:Mk1 K ts "exchanged_at" r2
 m3:Mk1 K ts "pivoted" r3
section
variable{K:qA1}{ts:List Addr}{r1 r2 r3:Option Addr}
theorem Tb.tabs(T:Tb K ts r1 r2 r3)(no:∀P∈ts,K.lookup P=none):Tabs K ts:=⟨no,fun x hx P h _=>by
 unfold makers at hx;simp only[qAb,qB9,or_false]at hx
 rcases hx with rfl|rfl|rfl
 ·exact T.m1.hd P (T.m1.cod.symm.trans h)
 ·exact T.m2.hd P (T.m2.cod.symm.trans h)
 ·exact T.m3.hd P (T.m3.cod.symm.trans h)⟩
end
def TbE(K:qA1)(ts:List Addr):Prop:=∃r1 r2 r3,Tb K ts r1 r2 r3
theorem walk_of0{l:qE2}{n k:Nat}{q:qIb}{loose:List Str}{XP:(Str->Option Value)->Heap->Prop}{YP:World->Heap->Prop}{d:DefRec}{K:Params->qA1}{x:Str}
  (hn:l.most=some n) (h63:n<=63) (hdf:d.params.defaults=[]) (hr:Room k qLe) (hY:∀(w:World)(h:Heap),YP w h->(K w.params).In h)
  (F:∀(w:World)(mg:Str->Option Value)(fa:Addr)(h:Heap),(K w.params).In h->h.Ns qIf mg->mg d.name=some (.ref fa) ->
   TbE (K w.params) []/\∃fd:qIs,(∀(s:qI8)(u:Value),qLl s fd ⟨[u],[]⟩ [(x,u)]) /\
    ∀base:Heap,(K w.params).In base->base.Ns qIf mg->FnOk l.prog w (K w.params) mg base CX0 k fa fd [x] (zGG (K w.params))) :
  qFp q loose XP YP l.row.toRowW d [] (fun f vs=>qG1 f vs):=
 zQN (K:=K) (ts:=[]) (CX:=fun _=>CX0) (sp:=fun w=>zGG (K w.params)) hn (qAl h63 (by decide)) hdf hr (fun w h Y=>⟨hY w h Y,fun P z=>absurd z (by simp)⟩)
  (fun w mg fa h KX G hm=>let⟨⟨_,_,_,T⟩,r⟩:=F w mg fa h KX G hm;⟨T.tabs fun P z=>absurd z (by simp),r⟩)
  (fun _ _ a ns hl hw hT hS=>⟨a,ns,rfl,hT,hS,qAl hl h63,hw,fun _ z=>⟨rfl,z⟩⟩) fun _ _ _ _ _ z=>z
end L3
namespace L3
open PySem PySem.Spec
open L2 hiding Rep RepL
section
variable[Kc]{mg:Str->Option Value}{E:XK}{L:Nat}
end
end L3
namespace L3
open PySem PySem.Spec
open L2 hiding Rep RepL
open Mi (Dt EM FM okR)
end L3
namespace L3
open PySem PySem.Spec
open L2 hiding Rep RepL
open Mi (Dt Xn R okR zA2 optR zA0 zA5 zA8 zA4 zA7 Rh Sl Ro EM TM AM FM IM SM Tg Out full frz frz1 frzAt)
section
variable[Kc]{mg:Str->Option Value}{E:XK}{L:Nat}{tA tB:TT}{A B:TM}
end
end L3
namespace Mi
open PySem
noncomputable def lamF(n:Nat)(e:EM):FM:=fun ds=>if ds.length=n then e (ds.map some)else none
end Mi
noncomputable section
namespace Mi
end Mi
end
namespace L2
open PySem PySem.Spec PyProof.Rows
section
variable{X:Cx}
end
end L2
namespace L3
open PySem PySem.Spec
open L2 hiding Rep RepL
open Mi (Dt Xn R okR zA2 optR zA0 zA5 zA8 zA4 zA7 Rh Sl Ro EM TM AM FM IM SM OM Tg Out zAN zAM zAP full frz frz1 frzAt)
section
variable[Kc]{mg:Str->Option Value}{E:XK}{n k:Nat}{te:TE}{e:EM}
end
end L3
noncomputable section
namespace Mi
end Mi
end
namespace Mi
open PySem
noncomputable section
noncomputable def kNo:Sw->Option (Sum Int Str)
 |.non=>none
 |.bl b=>some (.inl (if b then 1 else 0))
 |.int i=>some (.inl i)
 |.str x=>some (.inr x)
abbrev kNs(k:List Sw):List (Option (Sum Int Str)):=k.map kNo
def swsD:List Dt->Option (List Sw)
 |[]=>some []
 |d::r=>match swD d,swsD r with
  |some a,some q=>some (a::q)
  |_,_=>none
def kyU:Dt->Option (List Sw)
 |.tup ds=>swsD ds
 |_=>none
noncomputable def posT(ks:List (List Sw))(k:List Sw):Option Nat:=ks.findIdx? fun q=>decide (kNs q=kNs k)
def getT(ks:List (List Sw))(ds:List Dt)(k:List Sw):Option Dt:=match posT ks k with
 |some j=>ds[j]?
 |none=>none
noncomputable def noB1:Sw->Bool
 |.bl _=>false
 |_=>true
def noBs(ks:List (List Sw)):Bool:=ks.all fun k=>k.all noB1
def fitT(ks:List (List Sw))(k:List Sw):Bool:=(posT ks k).isNone || !noBs ks||k.all noB1
def putKs(ks:List (List Sw))(k:List Sw):List (List Sw):=match posT ks k with
 |some _=>ks
 |none=>ks++[k]
def putDs(ks:List (List Sw))(ds:List Dt)(k:List Sw)(v:Dt):List Dt:=match posT ks k with
 |some j=>ds.set j v
 |none=>ds++[v]
def eDtt0:EM:=fun _=>okR (.dtt [] [])
def eTOne(k v:EM):EM:=fun ρ=>zA2 (k ρ) fun y=>zA2 (v ρ) fun z=>match kyU y with
 |some q=>okR (.dtt [q] [z])
 |none=>none
def dinT(ng:Bool)(x y:Dt):Option Dt:=match y with
 |.dtt ks _=>match kyU x with
  |some k=>some (.bl (if ng=true then !(posT ks k).isSome else(posT ks k).isSome))
  |none=>none
 |_=>none
def putGo(i n:Nat)(e1:EM)(ρ:Ro)(ρ':Rh)(v:Dt):R Ro:=match ρ[i]? with
 |some (some (.dtt ks ds,k+1))=>zA2 (e1 ρ') fun y=>match kyU y with
  |some q=>@ite _ (v.dep<=n/\v.dep<=k/\ks.length<=100000/\fitT ks q=true) (qA4 _) (okR (ρ.set i (some (.dtt (putKs ks q) (putDs ks ds q v),k+1)))) none
  |none=>none
 |_=>none
def sTput(i n:Nat)(e1 e2:EM):SM:=fun ρ=>zA2 (e2 (full ρ)) fun v=>zA2 (putGo i n e1 ρ (full ρ) v) fun ρ2=>okR (.nx ρ2)
end
noncomputable section
inductive OutM where
 |nx (ρ:Ro)|rt (ρ:Ro) (d:Dt)|rv (ρ:Ro) (i:Nat)
abbrev SMM:=Ro->R OutM
abbrev FW:=List Dt->R (Dt×Dt)
end
noncomputable section
end
noncomputable section
end
end Mi
namespace Mp
open Mi PySem
end Mp
namespace L2
open PySem PySem.Spec PyProof.Rows
section
variable{prog:qIb}{w:World}{A:qIc}{E:Value->qI8->Prop}{s:qI8}
end
section
variable{P:qIb}{w:World}{K:qA1}{tg:Expr}
variable{X:Cx}
end
def zWD(td ty tv:TE):TS:=fun D σ H=>tv σ H fun v H1=>td σ H1 fun x H2=>ty σ H2 fun y H3=>∃a T e0 kvs k b,x=.ref a/\H3 a=some (.dT T e0 kvs)/\y=.ref b/\TupK H3 b k/\kvs.length<sizeLine /\
 ∀e1,D.nx σ (upd H3 a (.dT (fun c=>T c\/c=b) e1 (putK kvs k v)))
section
variable{X:Cx}{pins:List (Addr×Obj)}{σ:St}{H:Hp}{s:qI8}{a b:Addr}{v:V}{r:Value}{A:qIc}{E:Value->qI8->Prop}
theorem zNW{T:Addr->Prop}{e0:Nat}{kvs:List (List KeyN×V)}{k:List KeyN}{Q:Unit->qI8->Prop}(hu:A.units+1<cLine)(I:Inv X pins σ H s)(e:H a=some (.dT T e0 kvs))(eb:TupK H b k)(l:kvs.length<sizeLine)(rv:RelV v r)
  (h:∀e1 s',Inv X pins σ (upd H a (.dT (fun c=>T c\/c=b) e1 (putK kvs k v))) s'->Q () s'):wpAny (model X.prog X.w) A (setItem (.ref a) (.ref b) r) Q E s:=by
 obtain⟨z,hd,xs,rel,dd⟩:=zaA I.hok e;have hz:xs.length<=sizeLine:=by rw[<- qK3 rel];exact z
 have hl:(putK kvs k v).length<=sizeLine:=by have:=zDN kvs k v;omega
 refine wpAny_setItem_heap (hsz:=hz) (tupleKind_room_in1 hu) (zM3 I.hok eb) dd fun h' dd' hs=>?_
 obtain⟨q,es,ep,hq,h2,h3,h4,_,h5⟩:=dd';refine h ep _ (zQ6 I (by rw[e];exact qCp) hs ⟨q,hq⟩ ⟨hl,hd,_,(rel.put k eb rv).keeps fun c ys ec=>?_,q,es,ep,hq,h2,h3,h4,h5,rfl⟩);rw[zAE (zOX ec e (fun z=>nomatch z))];exact ec
theorem zU9{X:Cx}{o i value:Expr}{td ty tv:TE}{pos pos':Pos}(hu:X.A.units+1<cLine)(ho:PE X o td)(hi:PE X i ty)(hv:PE X value tv)(hs:qKt value (some (.Subscript o i pos')) pos.line X.env=pure false) :
  PS X (.Assign [.Subscript o i pos'] value pos) (zWD td ty tv):=by
 intro pins s σ H D I h;refine qKr (thn (hv pins s σ H _ I h) fun r s1 ⟨v,H1,I1,rv,q1⟩=>thn (ho pins s1 σ H1 _ I1 q1) fun u s2 ⟨x,H2,I2,rx,q2⟩=>thn (hi pins s2 σ H2 _ I2 q2) fun iv s3 z0=>?_) hs;obtain⟨y,H3,I3,ry,a,T,e0,kvs,k,b,ex,hq,ey,eb,hl,q3⟩:=z0;subst ex ey
 cases(show u=qIi a from rx)
 cases(show iv=qIi b from ry)
 exact zNW hu I3 hq eb hl rv fun e1 s4 I4=>⟨σ,_,I4,q3 e1⟩
end
section
variable{prog:qIb}{w:World}{A:qIc}{E:Value->qI8->Prop}{s:qI8}
end
section
variable{X:Cx}{pins:List (Addr×Obj)}{σ:List (Option V)}{H:Hp}{s:qI8}
end
end L2
namespace L3
open PySem PySem.Spec
open L2 hiding Rep RepL
open Mi (Dt Xn R okR zA2 optR zA0 zA5 zA8 zA4 zA7 Rh Sl Ro EM TM AM FM IM SM OM Tg Out zAN zAM zAP full frz frz1 frzAt)
section
variable[Kc]{mg:Str->Option Value}{E:XK}{n k:Nat}{te:TE}{e:EM}
end
theorem zHP(k:List Mi.Sw):k.map kNw=Mi.kNs k:=qBk fun w _=>by cases w<;>rfl
theorem zOW:noBw=Mi.noB1:=by funext w;cases w<;>rfl
theorem zXN(ks:List (List Mi.Sw)):noBk ks=Mi.noBs ks:=by unfold noBk Mi.noBs;rw[zOW]
theorem zUL(k:List Mi.Sw):k.all noBw=k.all Mi.noB1:=by rw[zOW]
theorem zNZ[Kc]{G:Hp}:∀{ds:List Dt}{xs:List V}{q:List Mi.Sw},RepL G ds xs->Mi.swsD ds=some q->xs=q.map swV
 |[],_,q,h,e=>by cases e;exact h
 |d::ds,_,q,h,e=>by
  obtain⟨x,r,rfl,h1,h2⟩:=h;unfold Mi.swsD at e;cases e1:Mi.swD d with
  |none=>rw[e1]at e;cases e
  |some a=>
   cases e2:Mi.swsD ds with
   |none=>rw[e1,e2]at e;cases e
   |some b=>
    rw[e1,e2]at e;cases e;rw[zNZ h2 e2]
    have:x=swV a:=by
     cases d with
     |non=>cases e1;exact h1
     |bl _=>cases e1;exact h1
     |int _=>cases e1;exact h1
     |str _=>cases e1;exact h1
     |_=>cases e1
    rw[this];rfl
theorem za0(q:List Mi.Sw):KsOf (q.map swV) (q.map kNw):=by
 induction q with
 |nil=>exact .nil
 |cons w r ih=>exact .cons (by cases w<;>rfl) ih
theorem zSU{q:List Mi.Sw}(h:q.all noBw=true):∀y∈q.map swV,isBl y=false:=by
 intro y hy;obtain⟨w,hw,rfl⟩:=qAe.mp hy
 have:=qDp.mp h w hw
 cases w<;>first|rfl|cases this
theorem zFH{ks:List (List Mi.Sw)}{k:List Mi.Sw}{j:Nat}(h:Mi.posT ks k=some j):∃q,ks[j]?=some q/\Mi.kNs q=Mi.kNs k:=by
 unfold Mi.posT at h;obtain⟨h1,h2,_⟩:=qDb.mp h;exact⟨ks[j],qA2 h1,by simpa using h2⟩
theorem zIS{ks:List (List Mi.Sw)}{k:List Mi.Sw}(h:Mi.posT ks k=none):∀q∈ks,Mi.kNs q≠Mi.kNs k:=by
 unfold Mi.posT at h;intro q hq
 have:=qE9.mp h q hq
 simpa using this
theorem zTS(k:List Mi.Sw):∀(ks:List (List Mi.Sw))(xs:List V),ks.length=xs.length->valV (kzip ks xs) (k.map kNw)=(Mi.posT ks k).bind fun j=>xs[j]?
 |[],[],_=>rfl
 |[],_::_,h=>by simp at h
 |_::_,[],h=>by simp at h
 |q::ks,x::xs,h=>by
  have ih:=zTS k ks xs (by simpa using h);unfold valV kzip at ih ⊢;unfold Mi.posT at ih ⊢;simp only[qAk,List.zip_cons_cons,qC4,qFq];rw[zHP q,zHP k]
  by_cases e:Mi.kNs q=Mi.kNs k
  ·simp[e]
  ·simp only[e,decide_false];rw[zHP k]at ih;rw[ih];cases qHo (fun q=>decide (Mi.kNs q=Mi.kNs k)) ks<;>simp
section
variable[Kc]{mg:Str->Option Value}{E:XK}{L n k l:Nat}{te ta tb tx td tk tv:TE}{e ea eb ex ed mk mv:EM}{t:TA}{m:AM}
theorem zP7{G:Hp}{d:Dt}{v:V}{q:List Mi.Sw}(h:Rep G d v)(e:Mi.kyU d=some q):∃b,v=.ref b/\G b=some (.tup (q.map swV)):=by
 cases d with
 |tup ds=>
  obtain⟨a,xs,rfl,ha,r⟩:=h;exact⟨a,rfl,by rw[ha,zNZ r e]⟩
 |_=>cases e
theorem zK1{H:Hp}{b:Addr}{q:List Mi.Sw}(h:H b=some (.tup (q.map swV))):TupK H b (q.map kNw):=⟨_,h,za0 q⟩
theorem zVF:DE mg E zSH Mi.eDtt0 (n+1):=by
 intro G H σ ρ Q s w p a ha;have fr:Fr G H G H (fun _=>False):=⟨Ext.refl s,fun _ z=>z.elim⟩
 exact p (.ref a) G _ _ (fr.add ha (.dT (fun _=>False) 0 [])) ⟨a,fun _=>False,0,[],fun _ _=>False,rfl,zAD,rfl,⟨qFb,fun _ z=>z.elim⟩,⟨rfl,fun q d x h=>by simp at h,.inl rfl,fun _ z=>z,fun _ _ _ z=>z.elim,fun _ _ z=>z.elim⟩⟩
theorem de_tin(A:DE mg E ta ea k)(B:DE mg E tb eb l):DE mg E (tDIn ta tb) (Mi.eB (Mi.dinT false) ea eb) n:=by
 intro G H σ ρ Q s w p;refine(zAK A).step errE s w p fun d v G1 H1 S _ fr o p1=>?_
 refine(zAK B).step (errE.from fr.ext) fr.ext.in' (w.mono fr.ext.g) p1 fun e u G2 H2 S2 _ fr2 o2 p2=>?_
 cases e with
 |dtt ks ds=>
  obtain⟨a,T,e0,xs,rfl,ha,hl,ht,r⟩:=o2;have p3:PostE mg E G H n (optR (match Mi.kyU d with|some k=>some (.bl (if false=true then !(Mi.posT ks k).isSome else(Mi.posT ks k).isSome))|none=>none)) Q:=p2;cases ek:Mi.kyU d with
  |none=>rw[ek]at p3;exact p3.elim
  |some q=>
   rw[ek]at p3;obtain⟨b,rfl,hb⟩:=zP7 (Rep.mono fr2.ext.g o) ek;refine⟨a,_,rfl,DGet.t (fr2.ext.in' _ _ ha) (zK1 (fr2.ext.in' _ _ hb)),?_⟩;have hx:ks.length=xs.length:=by rw[r.length];exact hl
   have e:(valV (kzip ks xs) (q.map kNw)).isSome=(Mi.posT ks q).isSome:=by
    rw[zTS q ks xs hx];cases ej:Mi.posT ks q with
    |none=>rfl
    |some j=>
     obtain⟨q',h1,_⟩:=zFH ej;have hj:j<xs.length:=by rw[<- hx];exact(qA3.mp h1).1
     show(xs[j]?).isSome=true
     rw[qA2 hj];rfl
   rw[e];exact PostE.val (PostE.from p3 (fr.ext.trans fr2.ext)) (Ext.refl fr2.ext.in') rfl rfl
 |_=>exact p2.elim
theorem zQ1(A:DE mg E ta ea k)(B:DE mg E tb eb l):DE mg E (zK4 ta tb) (Mi.eB (Mi.dinT true) ea eb) n:=by
 intro G H σ ρ Q s w p;refine(zAK A).step errE s w p fun d v G1 H1 S _ fr o p1=>?_
 refine(zAK B).step (errE.from fr.ext) fr.ext.in' (w.mono fr.ext.g) p1 fun e u G2 H2 S2 _ fr2 o2 p2=>?_
 cases e with
 |dtt ks ds=>
  obtain⟨a,T,e0,xs,rfl,ha,hl,ht,r⟩:=o2;have p3:PostE mg E G H n (optR (match Mi.kyU d with|some k=>some (.bl (if true=true then !(Mi.posT ks k).isSome else(Mi.posT ks k).isSome))|none=>none)) Q:=p2;cases ek:Mi.kyU d with
  |none=>rw[ek]at p3;exact p3.elim
  |some q=>
   rw[ek]at p3;obtain⟨b,rfl,hb⟩:=zP7 (Rep.mono fr2.ext.g o) ek;refine⟨a,_,rfl,DGet.t (fr2.ext.in' _ _ ha) (zK1 (fr2.ext.in' _ _ hb)),?_⟩;have hx:ks.length=xs.length:=by rw[r.length];exact hl
   have e:(valV (kzip ks xs) (q.map kNw)).isSome=(Mi.posT ks q).isSome:=by
    rw[zTS q ks xs hx];cases ej:Mi.posT ks q with
    |none=>rfl
    |some j=>
     obtain⟨q',h1,_⟩:=zFH ej;have hj:j<xs.length:=by rw[<- hx];exact(qA3.mp h1).1
     show(xs[j]?).isSome=true
     rw[qA2 hj];rfl
   rw[e];exact PostE.val (PostE.from p3 (fr.ext.trans fr2.ext)) (Ext.refl fr2.ext.in') rfl rfl
 |_=>exact p2.elim
end
theorem zR9{ks:List (List Mi.Sw)}{xs:List V}{k:List Mi.Sw}{y:V}(hl:ks.length=xs.length)(h:Mi.posT ks k=none):putK (kzip ks xs) (k.map kNw) y=kzip (ks++[k]) (xs++[y]):=by
 unfold putK;have e:((kzip ks xs).any fun kv=>decide (kv.1=k.map kNw))=false:=by
  rw[qFv]
  rintro⟨a,b⟩ hm hd
  have ha:=(qD6 hm).1;obtain⟨q,hq,rfl⟩:=qAe.mp ha
  have:=zIS h q hq
  rw[<- zHP,<- zHP]at this;exact this (by simpa using hd)
 rw[e,if_neg (by simp)];unfold kzip;rw[qAz,List.zip_append (by simpa using hl)];rfl
theorem zR8{ks:List (List Mi.Sw)}{xs:List V}{k:List Mi.Sw}{y:V}{j:Nat}(hl:ks.length=xs.length)(hn:(ks.map fun k=>k.map kNw).Nodup)(h:Mi.posT ks k=some j):putK (kzip ks xs) (k.map kNw) y=kzip ks (xs.set j y):=by
 obtain⟨q,hq,hk⟩:=zFH h;rw[<- zHP,<- zHP]at hk;have hj:j<ks.length:=(qA3.mp hq).1;have hqj:ks[j]=q:=(qA3.mp hq).2;unfold putK;have e:((kzip ks xs).any fun kv=>decide (kv.1=k.map kNw))=true:=by
  rw[qDq];refine⟨((ks.map fun k=>k.map kNw)[j]'(by simpa using hj),xs[j]'(by omega)),?_,?_⟩
  ·unfold kzip;rw[qF8];exact⟨j,by simp;omega,by simp⟩
  ·simp[hqj,hk]
 rw[e,if_pos rfl];unfold kzip
 apply qC7
 ·simp
 ·intro i h1 h2;have hi:i<ks.length:=by simp at h1;omega
  simp only[qDr,List.getElem_zip]
  by_cases hij:i=j
  ·subst hij;rw[if_pos (by rw[hqj];exact hk)];simp
  ·have hne:¬(ks[i].map kNw=k.map kNw):=fun z=>by
    have z2:(ks.map fun k=>k.map kNw)[i]'(by simpa using hi)=(ks.map fun k=>k.map kNw)[j]'(by simpa using hj):=by
     simp only[qDr];rw[z,hqj,hk]
    exact hij ((qGc hn).mp z2)
   rw[if_neg hne];rw[List.getElem_set_ne (fun z=>hij z.symm)]
theorem zO0:∀{es:List Dt}{c:List Mi.Sw},Mi.swsD es=some c->Dt.depL es=0
 |[],_,_=>rfl
 |d::es,c,ek=>by
  unfold Mi.swsD at ek;cases g1:Mi.swD d with
  |none=>rw[g1]at ek;cases ek
  |some a1=>
   cases g2:Mi.swsD es with
   |none=>rw[g1,g2]at ek;cases ek
   |some b1=>
    rw[Dt.depL,zO0 g2];cases d<;>first|rfl|cases g1
section
variable[Kc]{mg:Str->Option Value}{E:XK}{L n k l:Nat}{te ta tb tx td t1 t2:TE}{e ea eb ex ed e1 e2:EM}{u:TS}{m m':SM}
theorem Kids.snoc{G H:Hp}{S:Addr->Prop}{a p:Addr}{ds:List Dt}{xs:List V}{T:Nat->Addr->Prop}{S':Addr->Prop}{d:Dt}{v:V}{o:HO}(kd:Kids (Own G H n) S a ds xs T)(w:Own G (upd H p o) n S' d v)(hp:∀r,¬T r p)(ha:¬S' a)
  (hd:∀r b,T r b->S' b->False):Kids (Own G (upd H p o) n) (fun b=>S b\/S' b) a (ds++[d]) (xs++[v]) (fun r b=>(r<ds.length/\T r b)\/(r=ds.length/\S' b)):=by
 refine⟨by simp[kd.len],fun r d' z g1 g2=>?_,.inl kd.top,fun r z=>?_,fun r r' b z1 z2=>?_,fun r b z=>?_⟩
 ·by_cases hr:r<ds.length
  ·rw[qA6 hr]at g1;rw[qA6 (by rw[kd.len];exact hr)]at g2;exact((kd.own r d' z g1 g2).upd (hp r)).sub fun b z=>.inl ⟨hr,z⟩
  ·rw[qA7 (by lia)]at g1;rw[qA7 (by rw[kd.len];lia),kd.len]at g2;have hq0:r-ds.length=0:=by
    have:=(qA3.mp g1).1
    simp at this;lia
   rw[hq0]at g1 g2;simp at g1 g2;subst g1;subst g2;exact w.sub fun b z=>.inr ⟨by lia,z⟩
 ·rcases z with⟨_,z⟩|⟨_,z⟩
  ·exact kd.out r z
  ·exact ha z
 ·rcases z1 with⟨c1,t1⟩|⟨c1,t1⟩<;>rcases z2 with⟨c2,t2⟩|⟨c2,t2⟩
  ·exact kd.dis r r' b t1 t2
  ·exact(hd r b t1 t2).elim
  ·exact(hd r' b t2 t1).elim
  ·lia
 ·rcases z with⟨_,z⟩|⟨_,z⟩
  ·exact .inl (kd.sub r b z)
  ·exact .inr z
theorem zRS{G G' H:Hp}{T:Addr->Prop}{ks:List (List Mi.Sw)}{q:List Mi.Sw}{b:Addr}(s:Same G G')(ht:KeyT G T ks)(hb:G' b=some (.tup (q.map swV)))(hf:Mi.fitT ks q=true):KeyT G' (fun c=>T c\/c=b) (Mi.putKs ks q):=by
 unfold Mi.putKs;cases ep:Mi.posT ks q with
 |some j=>
  dsimp only;refine⟨ht.1,fun c hc=>?_⟩
  rcases hc with hc|rfl
  ·obtain⟨ys,h1,h2⟩:=ht.2 c hc;exact⟨ys,s _ _ h1,h2⟩
  ·refine⟨_,hb,fun hn=>zSU ?_⟩;unfold Mi.fitT at hf;rw[ep,<- zXN,hn]at hf;rw[zUL]
   simpa using hf
 |none=>
  dsimp only;refine⟨?_,fun c hc=>?_⟩
  ·rw[qAz,qCr];refine⟨ht.1,by simp,fun a ha b hb=>?_⟩;obtain⟨q',hq',rfl⟩:=qAe.mp ha;simp at hb;subst hb;rw[zHP,zHP];exact zIS ep q' hq'
  ·rcases hc with hc|rfl
   ·obtain⟨ys,h1,h2⟩:=ht.2 c hc;refine⟨ys,s _ _ h1,fun hn=>h2 ?_⟩;unfold noBk at hn ⊢;rw[qGr]at hn;simp at hn ⊢;exact hn.1
   ·refine⟨_,hb,fun hn=>zSU ?_⟩;unfold noBk at hn;rw[qGr]at hn;simp at hn ⊢;exact hn.2
theorem zX0{G0 H0 S0:Hp}{σ σ':St}{ρ:Ro}{ρ':Rh}{G H J H1:Hp}{As:Nat->Addr->Prop}{S:Addr->Prop}{d:Dt}{y:V}{D:Ends}{i:Nat}{f:Ro->R Out}(a:Sat G0 H0 S0 σ ρ G H As)(A:DE mg E t1 e1 l)(hl1:1<=l)(hl2:l<1000)
  (x:Ext G0 H0 J H1) (sH:Same H H1) (hs:σ'[i]?=σ[i]?) (w:View J σ' ρ')
  (o:d.dep<=n->d.dep<=k->True) (oS:d.dep<=n->∀k,d.dep<=k->Own G H1 k S d y) (nS:∀b,S b->H b=none/\G b=none/\H1 b≠none)
  (p:zD9 mg E G0 H0 S0 L (zA2 (Mi.putGo i n e1 ρ ρ' d) f) D)
  (fin:∀ρ2 G2 H2 As2,Sat G0 H0 S0 σ ρ2 G2 H2 As2->zD9 mg E G0 H0 S0 L (f ρ2) D->D.nx σ' H2) :
  (vM i σ' H1 fun x H2=>t1 σ' H2 fun y' H3=>∃a T e0 kvs k b,x=.ref a/\H3 a=some (.dT T e0 kvs)/\y'=.ref b/\TupK H3 b k/\kvs.length<sizeLine /\
   ∀e1,D.nx σ' (upd H3 a (.dT (fun c=>T c\/c=b) e1 (putK kvs k y)))):=by
 unfold Mi.putGo at p;cases er:ρ[i]? with
 |none=>rw[er]at p;exact p.elim
 |some sl=>
  rw[er]at p
  match sl,er,p with
  |none,_,p=>exact p.elim
  |some (.dtt ks ds,k+1),er,p=>
   obtain⟨v,h1,q,T0,e0,xs,T,rfl,hq,hl,ht,kd⟩:=a.at i _ _ er;unfold vM;rw[hs,h1];have p':zD9 mg E G0 H0 S0 L (zA2 (e1 ρ') fun y=>zA2 (match Mi.kyU y with
    |some q=>@ite _ (d.dep<=n/\d.dep<=k/\ks.length<=100000/\Mi.fitT ks q=true) (qA4 _) (okR (ρ.set i (some (.dtt (Mi.putKs ks q) (Mi.putDs ks ds q d),k+1)))) none
    |none=>none) f) D:=by
    cases ee:e1 ρ' with
    |none=>rw[ee]at p;exact p
    |some r=>cases r<;>(rw[ee]at p;exact p)
   refine A.step (errS.from x) x.in' w p' fun z u G2 H2 S2 _ fr2 o2 p2=>?_
   cases ek:Mi.kyU z with
   |none=>rw[ek]at p2;exact p2.elim
   |some c=>
    rw[ek]at p2;dsimp only at p2
    split at p2
    ·rename_i hz
     have hzd:z.dep<=1:=by
      cases z with
      |tup es=>
       rw[Dt.dep,zO0 (show Mi.swsD es=some c from ek)];exact qA8 _
      |_=>cases ek
     have nS2:∀b,S2 b->H1 b=none/\G b=none/\H2 b≠none:=fun b hb=>by
      obtain⟨n1,n2,n3⟩:=fr2.new b hb;exact⟨n1,a.ext.in'.free (sH.free n1),n3⟩
     have a0:=a.grow sH;have frk:Fr G H1 G H2 S2:=⟨Ext.same a0.ext.in' fr2.ext.h,nS2⟩
     have ok:Own G H2 1 S2 z u:=o2.at (qAl hzd hl1) hzd hl2;obtain⟨xE,rK⟩:=frk.frz ok;obtain⟨b,rfl,hb⟩:=zP7 rK ek;have a1:=a0.wider xE;have hx:ks.length=xs.length:=by rw[kd.len];exact hl
     have hq2:H2 q=some (.dT T0 e0 (kzip ks xs)):=xE.h _ _ (sH _ _ hq);refine⟨q,T0,e0,kzip ks xs,c.map kNw,b,rfl,hq2,rfl,zK1 (xE.in' _ _ hb),?_,fun ep=>?_⟩
     ·have:(kzip ks xs).length=ks.length:=by simp[kzip,hx]
      rw[this,qIq];lia
     have q1:=oS hz.1 k hz.2.1;have q1':Own (over G H2 S2) H2 k S d y:=q1.mono xE.g xE.h;have nSq:¬S q:=fun z=>(a.new i q kd.top).2.2 (nS q z).1
     have apart:∀r b,T r b->S b->False:=fun r b z1 z2=>(a.new i b (kd.sub r b z1)).2.2 (nS b z2).1
     have kd1:Kids (Own (over G H2 S2) H2 k) (As i) q ds xs T:=kd.imp (fun _ _ _ _ w=>w.mono xE.g (sH.trans xE.h)) fun _ z=>z
     have kT:=zRS (H:=H) xE.g ht hb hz.2.2.2;have hS:∀b,(As i b\/S b)->As i b\/(H0 b=none/\over G H2 S2 b=none/\H2 b≠none/\∀j,¬As j b):=fun b z=>by
      rcases z with z|z
      ·exact .inl z
      ·obtain⟨n1,n2,n3⟩:=nS b z;refine .inr ⟨a.ext.h.free n1,?_,xE.h.some n3,fun j y=>(a.new j b y).2.2 n1⟩;rw[zBH fun z2=>n3 (nS2 b z2).1];exact n2
     have key:Sat G0 H0 S0 σ (ρ.set i (some (.dtt (Mi.putKs ks c) (Mi.putDs ks ds c d),k+1))) (over G H2 S2) (upd H2 q (.dT (fun c=>T0 c\/c=b) ep (putK (kzip ks xs) (c.map kNw) y))) (fun j=>if j=i then(fun b=>As i b\/S b)else As j):=by
      refine a1.store (S:=fun b=>As i b\/S b) kd.top h1 ?_ hS;unfold Mi.putDs;cases ep':Mi.posT ks c with
      |none=>
       dsimp only;have e3:Mi.putKs ks c=ks++[c]:=by unfold Mi.putKs;rw[ep']
       rw[e3]at kT ⊢;exact⟨q,_,ep,_,_,rfl,by rw[zAD,zR9 hx ep'],by simp[hl],kT,kd1.snoc (q1'.upd nSq) kd.out nSq apart⟩
      |some j=>
       dsimp only;have e3:Mi.putKs ks c=ks:=by unfold Mi.putKs;rw[ep']
       rw[e3]at kT ⊢;exact⟨q,_,ep,_,_,rfl,by rw[zAD,zR8 hx ht.1 ep'],by simp[hl],kT,kd1.set j (q1'.upd nSq) (fun r _=>kd.out r) nSq fun r b _=>apart r b⟩
     exact fin _ _ _ _ key p2
    ·exact p2.elim
  |some (.dtt ds _,0),_,p=>exact p.elim
  |some (.lst ds,_),_,p=>exact p.elim
  |some (.non,_),_,p=>exact p.elim
  |some (.bl _,_),_,p=>exact p.elim
  |some (.int _,_),_,p=>exact p.elim
  |some (.str _,_),_,p=>exact p.elim
  |some (.tup _,_),_,p=>exact p.elim
  |some (.scr _,_),_,p=>exact p.elim
  |some (.exc _ _ _,_),_,p=>exact p.elim
  |some (.fn _ _,_),_,p=>exact p.elim
  |some (.loc _ _,_),_,p=>exact p.elim
  |some (.ins _ _,_),_,p=>exact p.elim
  |some (.dct _,_),_,p=>exact p.elim
theorem zVA(i:Nat)(A:DE mg E t1 e1 l)(B:DE mg E t2 e2 n)(hl1:1<=l:=by decide)(hl2:l<1000:=by decide)(hn:n<1000:=by decide):DS mg E L (zWD (vM i) t1 t2) (Mi.sTput i n e1 e2):=by
 intro G0 H0 S0 σ ρ G H As D a p;obtain⟨J,x,s,w⟩:=a.full;refine B.step (errS.from x) x.in' w p fun d y G1 H1 S _ fr o p1=>?_
 have x1:Ext J H J H1:=Ext.same x.in' fr.ext.h;exact zX0 (k:=0) a A hl1 hl2 (x.trans x1) fr.ext.h rfl w (fun _ _=>trivial) (fun hd k hk=>o.at hd hk hn) (fun b hb=>let⟨n1,n2,n3⟩:=fr.new b hb;⟨n1,a.ext.in'.free n1,n3⟩) p1 fun ρ2 G2 H2 As2 a2 p2=>p2 σ G2 H2 As2 a2
end
section
variable[Kc]{mg:Str->Option Value}{E:XK}{L n k:Nat}{te:TE}{e:EM}{t:TS}{m:SM}
end
end L3
namespace Mi
open PySem
section
variable(ρ:Rh)(r:Ro)(a:EM)(am:AM)
@[simp] theorem x_tL:tL a ρ=zA2 (a ρ) fun x=>match x with | .bl k=>okR k | .int i=>okR (i != 0) | .non=>okR false | .lst xs=>okR (!xs.isEmpty) | .tup xs=>okR (!xs.isEmpty)|_=>none:=rfl
@[simp] theorem x_eMl(f:List Dt->List Dt->Option Dt):eMl f a am ρ=zA2 (a ρ) fun x=>match x with | .lst xs=>zA2 (am ρ) fun ds=>optR (f xs ds)|_=>none:=rfl
@[simp] theorem x_iRv:iRv am ρ=zA2 (am ρ) fun vs=>match vs with|[.lst xs]=>okR xs.reverse|_=>none:=rfl
@[simp] theorem v_xor(i j:Int):xorD (.int i) (.int j)=some (.int (qJz i j)):=rfl
@[simp] theorem zZ7(xs:List Dt)(k:Int):repD (.lst xs) (.int k)=@ite _ ((-4611686018427387904<=k/\k<4611686018427387904)/\xs.length*k.toNat<=100000) (qA4 _) (some (.lst (qAa k.toNat xs).flatten)) none:=rfl
end
@[simp] theorem okR_inj{α:Type}{a b:α}:okR a=okR b↔a=b:=⟨fun h=>by cases h;rfl,fun h=>by rw[h]⟩
@[simp] theorem zSE(vs:List Nat)(it:IM)(tg:Tg)(b:SM)(r:Ro):sFor vs it tg b r=zA2 (it (frz (frzAt vs r))) fun ds=>forGo tg b ds (frzAt vs r):=rfl
@[simp] theorem zGW(it:IM)(i:Nat)(b:SM)(r:Ro):sForR it i b r=zA2 (it (full r)) fun ds=>forGo (.one i) b ds r:=rfl
@[simp] theorem zQM(e:EM)(ρ:Rh):iSq e ρ=zA2 (e ρ) fun d=>match d with | .lst xs=>okR xs | .tup xs=>okR xs | .scr ns=>okR (ns.map .int) | .str z=>okR (signsD z)|_=>none:=rfl
@[simp] theorem x_iEn(e:AM)(ρ:Rh):iEn e ρ=zA2 (e ρ) fun vs=>match vs with|[.lst xs]=>okR (enumD 0 xs)|_=>none:=rfl
@[simp] theorem x_iZi(e:AM)(ρ:Rh):iZi e ρ=zA2 (e ρ) fun vs=>match vs with|[.lst xs,.lst ys]=>okR (zipD xs ys)|_=>none:=rfl
theorem zJX{e:AM}{ρ:Rh}{n:Nat}(h:e ρ=okR [.int n])(hn:n<=100000):iR1 e ρ=okR (nums 0 n):=by
 unfold iR1;rw[h,zA0];dsimp only;rw[if_pos (by lia)];simp
theorem zEW(n:Nat):nums 0 n=(qA9 n).map fun i:Nat=>Dt.int (i:Int):=by
 unfold nums;exact qBk fun i _=>by simp
def nxR(x:R Out)(P:Ro->Prop):Prop:=match x with
 |some (.ok (.nx r))=>P r
 |_=>False
@[simp] theorem x_nxR(r:Ro)(P:Ro->Prop):nxR (okR (.nx r)) P=P r:=rfl
theorem zCS{x:R Out}{P:Ro->Prop}(h:nxR x P):∃r',x=okR (.nx r')/\P r':=by
 unfold nxR at h
 split at h
 ·exact⟨_,rfl,h⟩
 ·exact h.elim
theorem zAX{x:R Out}{P:Ro->Prop}{r:Ro}(h:x=okR (.nx r))(hp:P r):nxR x P:=by rw[h];exact hp
theorem zOY{i j:Int}(h:-18446744073709551616<i)(h':i<18446744073709551616):mulD (.int i) (.int j)=some (.int (i*j)):=by
 rw[zK0,if_pos (.inl (.inl ⟨h,h'⟩))]
theorem zRJ{i j:Int}(h:-18446744073709551616<j)(h':j<18446744073709551616):mulD (.int i) (.int j)=some (.int (i*j)):=by
 rw[zK0,if_pos (.inl (.inr ⟨h,h'⟩))]
theorem zGR{ρ:Rh}{c:TM}{e:EM}{i:Nat}(g:Nat->Dt)(n:Nat)(hc:c=tYes)(hi:i=ρ.length)(h:∀k,k<n->e (ρ++[some (.int (k:Nat))])=okR (g k))(it:IM)(hit:it ρ=okR (nums 0 n))(hn:n<=100000):eComp it 1 (.one i) c e ρ=okR (.lst ((qA9 n).map g)):=by
 subst hc hi;unfold eComp;rw[hit,zA0,if_pos ⟨by simpa[nums]using hn,by simp[Tg.idx]⟩];rw[zMI (fun d=>match d with | .int k=>g k.toNat|_=>.non) _ [] fun d hd=>?_]
 ·rw[zA0,zEW,qB3];simp only[qGk]
  congr 2
 ·rw[zEW]at hd;obtain⟨k,hk,rfl⟩:=qAe.mp hd;refine⟨_,rfl,rfl,?_⟩
  have:zAM (ρ++qAa 1 none) [(ρ.length,Dt.int (k:Int))]=ρ++[some (.int (k:Nat))]:=by
   simp[zAM]
  rw[this]
  simpa using h k (by simpa using hk)
theorem zBS{ρ:Rh}{c:TM}{e:EM}{i:Nat}{β:Type}(en:β->Dt)(g:β->Dt)(ns:List β)(hc:c=tYes)(hi:i=ρ.length)(h:∀k,k∈ns->e (ρ++[some (en k)])=okR (g k))(it:IM)(hit:it ρ=okR (ns.map en))(hn:ns.length<=100000):eComp it 1 (.one i) c e ρ=okR (.lst (ns.map g)):=by
 subst hc hi;unfold eComp;rw[hit,zA0,if_pos ⟨by simpa using hn,by simp[Tg.idx]⟩]
 have:∀(ns:List β)(acc:List Dt),(∀k,k∈ns->e (ρ++[some (en k)])=okR (g k))->compGo ρ 1 (.one ρ.length) tYes e (ns.map en) acc=okR (acc++ns.map g):=by
  intro ns
  induction ns with
  |nil=>intro acc _;simp[compGo]
  |cons d r ih=>
   intro acc h;rw[qAk,compGo];have e1:zAM (ρ++qAa 1 none) [(ρ.length,en d)]=ρ++[some (en d)]:=by simp[zAM]
   show zA2 (tYes _) _=_;simp only[zVR,zA0,if_true];show zA2 (e (zAM (ρ++qAa 1 none) [(ρ.length,en d)])) _=_;rw[e1,h d (by simp),zA0,ih _ fun k hk=>h k (by simp[hk])];simp
 rw[this ns [] h,zA0];simp
theorem zBZ{a b:SM}{r:Ro}{X:R Out}(h:∀bb:SM,bb=b->nxR (a r) fun r1=>bb r1=X):sSeq a b r=X:=by
 obtain⟨r1,h1,h2⟩:=zCS (h b rfl);unfold sSeq;rw[h1,zA0];exact h2
theorem zDT{a b:SM}{r:Ro}{P:Ro->Prop}(h:∀bb:SM,bb=b->nxR (a r) fun r1=>nxR (bb r1) P):nxR (sSeq a b r) P:=by
 obtain⟨r1,h1,h2⟩:=zCS (h b rfl);unfold sSeq;rw[h1,zA0];exact h2
theorem zBN{P n:Nat}{b:SM}{ds:List Dt}{d:Dt}(h:ds.length=P)(hb:b (startO n ds)=okR (.rt d)):runF P n b ds=okR d:=by
 unfold runF;rw[if_pos h,hb];rfl
theorem zRG{j n:Nat}{b:SM}{r:Ro}{X:Ro->Prop}(Pv:Nat->Ro->Prop)(h:Pv 0 r)(hs:∀k,k<n->∀r,Pv k r->nxR (b (r.set j (some (.int (k:Nat),0)))) (Pv (k+1)))(hK:∀r',Pv n r'->X r'):nxR (forGo (.one j) b (nums 0 n) r) X:=by
 obtain⟨r',h1,h2⟩:∃r',forGo (.one j) b (nums 0 n) r=okR (.nx r')/\Pv n r':=by
  obtain⟨r',h1,h2⟩:=zHT (tg:=.one j) (b:=b) Pv (nums 0 n) 0 r h fun k d r hd hp=>by
   rw[zEW,qAh]at hd;cases e:(qA9 n)[k]? with
   |none=>rw[e]at hd;cases hd
   |some q=>
    rw[e]at hd;cases hd;obtain⟨h1,h2⟩:=qA3.mp e;rw[qCm]at h2;subst h2;rw[qBo]at hp;obtain⟨r',g1,g2⟩:=zCS (hs k (by simpa using h1) r hp);exact⟨_,r',rfl,g1,by rw[qBo];exact g2⟩
  exact⟨r',h1,by simpa[nums]using h2⟩
 rw[h1];exact hK r' h2
theorem zUI{γ:Type}{j:Nat}{b:SM}{r:Ro}{X:Ro->Prop}(en:γ->Dt)(ns:List γ)(Pv:Nat->Ro->Prop)(h:Pv 0 r)(hs:∀k x,ns[k]?=some x->∀r,Pv k r->nxR (b (r.set j (some (en x,0)))) (Pv (k+1)))(hK:∀r',Pv ns.length r'->X r'):nxR (forGo (.one j) b (ns.map en) r) X:=by
 obtain⟨r',h1,h2⟩:=zHT (tg:=.one j) (b:=b) Pv (ns.map en) 0 r h fun k d r hd hp=>by
  rw[qAh]at hd;cases e:ns[k]? with
  |none=>rw[e]at hd;cases hd
  |some q=>
   rw[e]at hd;cases hd;rw[qBo]at hp;obtain⟨r',g1,g2⟩:=zCS (hs k q e r hp);exact⟨_,r',rfl,g1,by rw[qBo];exact g2⟩
 rw[h1];exact hK r' (by simpa using h2)
theorem zRF{c:TM}{b:SM}{r:Ro}{X:Ro->Prop}(Pv:Ro->Prop)(μ:Ro->Nat)(Rv:Ro->Prop)(h0:Pv r)(hm:μ r<1000000)(hc:∀r,Pv r->(c (full r)=okR false/\Rv r)\/(c (full r)=okR true/\nxR (b r) fun r'=>Pv r'/\μ r'<μ r))(hK:∀r',Rv r'->X r'):nxR (sWhile c b r) X:=by
 obtain⟨r',h1,h2⟩:=zMX Pv μ Rv h0 hm fun r hr=>(hc r hr).imp (fun z=>z) fun z=>⟨z.1,zCS z.2⟩
 rw[h1];exact hK r' h2
theorem zJ4:∀(a b:List Char),a.map qI1=b.map qI1->a=b
 |[],[],_=>rfl
 |[],_::_,h=>by simp at h
 |_::_,[],h=>by simp at h
 |x::r,y::q,h=>by
  simp only[qAk,qGs]at h;rw[zJ4 r q h.2]
  have:x=y:=Char.toNat_inj.mp h.1
  rw[this]
@[simp] theorem str_inj(a b:String):(qIn a=qIn b)↔a=b:=by
 constructor
 ·intro h;rw[qIw,qIw]at h;simp only[Str.mk.injEq,List.toArray_inj]at h
  have:=zJ4 _ _ (by simpa using h)
  exact String.toList_inj.mp this
 ·intro h;rw[h]
theorem zM9:∀(ds:List Dt)(n i:Nat)(d:Dt),(enumD n ds)[i]?=some d->∃e,ds[i]?=some e/\d=.tup [.int ((n+i:Nat):Int),e]
 |[],_,_,_,h=>by simp[enumD]at h
 |x::r,n,0,d,h=>by simp[enumD]at h;exact⟨x,by simp,by rw[<- h];rfl⟩
 |x::r,n,i+1,d,h=>by
  rw[enumD]at h;obtain⟨e,h1,h2⟩:=zM9 r (n+1) i d (by simpa using h);exact⟨e,by simpa using h1,by rw[h2,show n+1+i=n+(i+1) by lia]⟩
theorem zHU:∀(ds:List Dt)(n:Nat),(enumD n ds).length=ds.length
 |[],_=>rfl
 |_::r,n=>by rw[enumD,qAu,qAu,zHU r]
theorem zOV{a b:Nat}{s:SM}{r:Ro}{X:Ro->Prop}(xs:List Dt)(Pv:Nat->Ro->Prop)(h:Pv 0 r)(hs:∀k x,xs[k]?=some x->∀r,Pv k r->nxR (s ((r.set a (some (.int (k:Nat),0))).set b (some (x,0)))) (Pv (k+1)))(hK:∀r',Pv xs.length r'->X r'):nxR (forGo (.tup [a,b]) s (enumD 0 xs) r) X:=by
 obtain⟨r',h1,h2⟩:=zHT (tg:=.tup [a,b]) (b:=s) Pv (enumD 0 xs) 0 r h fun k d r hd hp=>by
  obtain⟨e,g1,rfl⟩:=zM9 xs 0 k d hd;rw[qBo]at hp;obtain⟨r',g2,g3⟩:=zCS (hs k e g1 r hp);refine⟨_,r',rfl,?_,by rw[qBo];exact g3⟩;rw[qBo];exact g2
 rw[h1];exact hK r' (by simpa[zHU]using h2)
theorem str_len(s:String):(qIn s).length=s.length:=by
 rw[qIw];simp[qLo];rfl
section
variable(ρ:Rh)(a:EM)(am:AM)(lo hi:OM)
@[simp] theorem x_eSl:eSl a lo hi ρ=zA2 (a ρ) fun x=>zA2 (lo ρ) fun l=>zA2 (hi ρ) fun h=>optR (slD x l h):=rfl
@[simp] theorem x_oNo:oNo ρ=okR none:=rfl
@[simp] theorem x_oE:oE a ρ=zA2 (a ρ) fun d=>match d with | .int i=>okR (some i)|_=>none:=rfl
@[simp] theorem zNP(f:Dt->List Dt->Option Dt):eMt f a am ρ=zA2 (a ρ) fun x=>if zM7 x=true then zA2 (am ρ) fun xs=>optR (f x xs)else none:=rfl
@[simp] theorem v_isStr(z:Str):zM7 (.str z)=true:=rfl
end
@[simp] theorem v_slL(xs:List Dt)(l h:Option Int):slD (.lst xs) l h=some (.lst (cutA xs l h)):=rfl
@[simp] theorem zZ6(z:Str)(l h:Option Int):slD (.str z) l h=@ite _ (z.length<=100000) (qA4 _) (some (.str ⟨(cutA z.cps.toList l h).toArray⟩)) none:=rfl
@[simp] theorem v_ixSt(z:Str)(i:Int):ixD (.str z) (.int i)=@ite _ (z.length<=100000) (qA4 _) ((itA z.cps.toList i).map fun c=>.str ⟨#[c]⟩) none:=rfl
@[simp] theorem v_lenSt(z:Str):lenD [.str z]=@ite _ (z.length<=100000) (qA4 _) (some (.int z.length)) none:=rfl
@[simp] theorem v_count1(z:Str)(c:Nat):zYR (.str z) [.str ⟨#[c]⟩]=some (.int (z.cps.toList.count c:Nat)):=rfl
@[simp] theorem v_in1(ng:Bool)(z:Str)(c:Nat):inD ng (.str ⟨#[c]⟩) (.str z)=some (.bl (if ng=true then !decide (c∈z.cps.toList)else decide (c∈z.cps.toList))):=rfl
@[simp] theorem v_find1(z:Str)(c:Nat):findD (.str z) [.str ⟨#[c]⟩]=some (.int (match posC c z.cps.toList with|some i=>(i:Int)|none=>-1)):=rfl
theorem zYQ{α:Type}(xs:List α)(k:Nat):cutA xs none (some (k:Int))=xs.take k:=by
 unfold cutA cutIx;simp only[qDk,Nat.sub_zero];rw[if_neg (by lia)]
 by_cases h:k<=xs.length
 ·rw[show min (k:Int).toNat xs.length=k by lia]
 ·rw[show min (k:Int).toNat xs.length=xs.length by lia,qEq,qEv (by lia)]
theorem zS8{α:Type}(xs:List α)(k:Nat):cutA xs (some (k:Int)) none=xs.drop k:=by
 unfold cutA cutIx;dsimp only;rw[if_neg (by lia)]
 by_cases h:k<=xs.length
 ·rw[show min (k:Int).toNat xs.length=k by lia];exact qEv (by simp)
 ·rw[show min (k:Int).toNat xs.length=xs.length by lia];simp
  lia
theorem zK7(a b:Str):(a++b).cps.toList=a.cps.toList++b.cps.toList:=by
 show(Str.mk (a.cps++b.cps)).cps.toList=_
 simp
theorem zKQ(z:Str):z.length=z.cps.toList.length:=by
 unfold qLo;simp
theorem zJ9(l:List Nat):(Str.mk l.toArray).length=l.length:=by rw[zKQ]
end Mi
namespace Mp
open Mi PySem
theorem zLI(ms:List Int)(q:Nat)(v:Int):(ms.map Dt.int).set q (.int v)=(ms.set q v).map Dt.int:=by
 rw[qEz]
theorem zPE{r:Ro}{i n l:Nat}{ls:List Int}{e1 e2:EM}{z v:Int}(h:r[i]?=some (some (.lst (ls.map .int),l+1)))(he2:e2 (full r)=okR (.int v))(he1:e1 (full r)=okR (.int z))(h0:0<=z)(h1:z<ls.length) :
  sItem i n e1 e2 r=okR (.nx (r.set i (some (.lst ((ls.set z.toNat v).map .int),l+1)))):=by
 have hi:ixA (ls.map Dt.int).length z=some z.toNat:=zPB h0 (by simpa using h1);unfold sItem;rw[he2,zA0,h];dsimp only;rw[he1,zA0];dsimp only;rw[hi];dsimp only;rw[if_pos ⟨qAy _,qAy _⟩,zLI]
theorem sg{i n:Nat}{vs:List Nat}{e:EM}{b:SM}{r:Ro}{d:Dt}{X:R Out}(he:e (full r)=okR d)(hd:d.dep<=n)(h:b (r.set i (some (d,n)))=X):sSeq (sSet i n vs e) b r=X:=by
 rw[zF1,zF0,he,zA0,if_pos hd,zA0];exact h
theorem sp{c:TM}{a b:SM}{r:Ro}{X:R Out}(hc:c (full r)=okR false)(h:b r=X):sSeq (sIf c a sNil) b r=X:=by
 rw[zF1,zNO,hc,zA0,if_neg (by simp),zSD,zA0];exact h
theorem st{c:TM}{a b:SM}{r r':Ro}{X:R Out}(hc:c (full r)=okR true)(ha:a r=okR (.nx r'))(h:b r'=X):sSeq (sIf c a sNil) b r=X:=by
 rw[zF1,zNO,hc,zA0,if_pos rfl,ha,zA0];exact h
theorem su{is vs:List Nat}{e:EM}{b:SM}{r:Ro}{ds:List Dt}{X:R Out}(he:e (frz (frzAt vs r))=okR (.tup ds))(hl:ds.length=is.length)(h:b (zAP (frzAt vs r) (is.zip ds))=X):sSeq (sUnp is vs e) b r=X:=by
 rw[zF1];unfold sUnp;rw[he,zA0,zAN,if_pos hl];exact h
theorem c2{m:FM}{e1 e2:EM}{ρ:Rh}{d1 d2:Dt}{X:R Dt}(h1:e1 ρ=okR d1)(h2:e2 ρ=okR d2)(h:m [d1,d2]=X):eCall m (aCons e1 (aCons e2 aNil)) ρ=X:=by
 simp only[zE8,zB0,zBM,h1,h2,zA0];exact h
theorem c1{m:FM}{e1:EM}{ρ:Rh}{d1:Dt}{X:R Dt}(h1:e1 ρ=okR d1)(h:m [d1]=X):eCall m (aCons e1 aNil) ρ=X:=by
 simp only[zE8,zB0,zBM,h1,zA0];exact h
theorem b2{o:Dt->Dt->Option Dt}{e1 e2:EM}{ρ:Rh}{d1 d2 d:Dt}(h1:e1 ρ=okR d1)(h2:e2 ρ=okR d2)(h:o d1 d2=some d):eB o e1 e2 ρ=okR d:=by
 rw[x_eB,h1,zA0,h2,zA0,h];rfl
theorem bi1{o:List Dt->Option Dt}{e1:EM}{ρ:Rh}{d1 d:Dt}(h1:e1 ρ=okR d1)(h:o [d1]=some d):eBi o (aCons e1 aNil) ρ=okR d:=by
 simp only[zMO,zB0,zBM,h1,zA0,h];rfl
theorem tb1{e:EM}{ρ:Rh}{k:Bool}(h:e ρ=okR (.bl k)):tB e ρ=okR k:=by rw[x_tB,h,zA0]
theorem tm1{e:EM}{ρ:Rh}{k:Bool}(h:e ρ=okR (.bl k)):tM e ρ=okR k:=by rw[x_tM,h,zA0]
theorem tn1{t:TM}{ρ:Rh}{k:Bool}(h:t ρ=okR k):tNo t ρ=okR (!k):=by rw[zZ2,h,zA0]
theorem to0{t t':TM}{ρ:Rh}{k:Bool}(h:t ρ=okR false)(h':t' ρ=okR k):Mi.tOr t t' ρ=okR k:=by rw[zZ1,h,zA0,if_neg (by simp),h']
theorem ss{i n:Nat}{vs:List Nat}{e:EM}{r:Ro}{d:Dt}(he:e (full r)=okR d)(hd:d.dep<=n):sSet i n vs e r=okR (.nx (r.set i (some (d,n)))):=by
 rw[zF0,he,zA0,if_pos hd]
theorem sr{L n:Nat}{vs:List Nat}{e:EM}{r:Ro}{d:Dt}(he:e (full r)=okR d)(hd:d.dep<=n/\d.dep<=L):sRet L n vs e r=okR (.rt d):=by
 rw[zNN,he,zA0,if_pos hd]
theorem tl{k k':Bool}{x:Option Dt}(h:x=some (.bl k))(e:k=k'):x=some (.bl k'):=e▸h
theorem sf{c:TM}{a:SM}{r:Ro}(hc:c (full r)=okR false):sIf c a sNil r=okR (.nx r):=by
 rw[zNO,hc,zA0,if_neg (by simp),zSD]
theorem mt1{f:Dt->List Dt->Option Dt}{a e:EM}{ρ:Rh}{x y d:Dt}(h1:a ρ=okR x)(hs:zM7 x=true)(h2:e ρ=okR y)(h:f x [y]=some d):eMt f a (aCons e aNil) ρ=okR d:=by
 rw[zNP,h1,zA0,if_pos hs,zB0,h2,zA0,zBM,zA0,zA0,h];rfl
theorem eqi{e1 e2:EM}{ρ:Rh}{a b:Int}{k:Bool}(h1:e1 ρ=okR (.int a))(h2:e2 ρ=okR (.int b))(h:decide (a=b)=k):tB (eB eqD e1 e2) ρ=okR k:=by
 refine tb1 (b2 h1 h2 ?_);rw[<- h];simp[Dt.eq];rfl
theorem nei{e1 e2:EM}{ρ:Rh}{a b:Int}{k:Bool}(h1:e1 ρ=okR (.int a))(h2:e2 ρ=okR (.int b))(h:(!decide (a=b))=k):tB (eB neD e1 e2) ρ=okR k:=by
 refine tb1 (b2 h1 h2 ?_);rw[<- h];simp[Dt.eq];rfl
theorem sx{c:TM}{a b:SM}{r:Ro}{d:Dt}(hc:c (full r)=okR true)(ha:a r=okR (.rt d)):sSeq (sIf c a sNil) b r=okR (.rt d):=by
 rw[zF1,zNO,hc,zA0,if_pos rfl,ha,zA0]
theorem mdi{i j k:Int}(h:0<j)(e:i%j=k):modD (.int i) (.int j)=some (.int k):=by rw[<- e];exact if_pos h
theorem dvi{i j:Int}(h:0<j/\j<1000000000000000000000000):divD (.int i) (.int j)=some (.int (i/j)):=@if_pos _ (qA4 _) h _ _ _
theorem c3{m:FM}{e1 e2 e3:EM}{ρ:Rh}{d1 d2 d3:Dt}{X:R Dt}(h1:e1 ρ=okR d1)(h2:e2 ρ=okR d2)(h3:e3 ρ=okR d3)(h:m [d1,d2,d3]=X):eCall m (aCons e1 (aCons e2 (aCons e3 aNil))) ρ=X:=by
 simp only[zE8,zB0,zBM,h1,h2,h3,zA0];exact h
theorem ned{e1 e2:EM}{ρ:Rh}{x y:Dt}{b k:Bool}(h1:e1 ρ=okR x)(h2:e2 ρ=okR y)(d1:x.dep<=40)(d2:y.dep<=40)(h:Dt.eq x y=b)(hk:(!b)=k):tB (eB neD e1 e2) ρ=okR k:=by
 refine tb1 (b2 h1 h2 ?_);unfold neD;rw[if_pos ⟨d1,d2⟩,h,hk]
theorem rt1{e:EM}{d:Dt}{ρ:Ro}{vs:List Nat}(h1:e (full ρ)=okR d)(h2:e (frz (frzAt vs ρ))=okR d):sRet 1 1 vs e ρ=okR (.rt d):=by
 rw[zNN,h1,zA0]
 by_cases z:d.dep<=1/\d.dep<=1
 ·rw[if_pos z]
 ·rw[if_neg z,if_pos rfl,h2,zA0]
theorem el0{ρ:Rh}:eLst aNil ρ=okR (.lst []):=by simp
theorem sw{s t:SM}{r r':Ro}{X:R Out}(h:s r=okR (.nx r'))(h2:t r'=X):sSeq s t r=X:=by rw[zF1,h,zA0];exact h2
theorem v1{i:Nat}{ρ:Rh}{d:Dt}(h:ρ[i]?=some (some d)):eV i ρ=okR d:=by rw[x_eV,h]
theorem al0{e:EM}{ρ:Rh}{d:Dt}(h:e ρ=okR d):aCons e aNil ρ=okR [d]:=by rw[zB0,h];rfl
theorem adi{a b c:Int}(h:a+b=c):addD (.int a) (.int b)=some (.int c):=by rw[<- h];rfl
theorem sbi{a b c:Int}(h:a-b=c):subD (.int a) (.int b)=some (.int c):=by rw[<- h];rfl
theorem k1{d d':Dt}{ρ:Rh}(h:d=d'):eC d ρ=okR d':=by rw[<- h];rfl
theorem cmi{p:Int->Int->Bool}{a b:Int}{k:Bool}(h:p a b=k):cmpD p (.int a) (.int b)=some (.bl k):=by rw[<- h];rfl
noncomputable def rowD(r:List Int):Dt:=.lst (r.map .int)
def mat(A:List (List Int)):Dt:=.lst (A.map rowD)
noncomputable def tab(n:Nat)(f:Nat->Nat->Int):List (List Int):=(qA9 n).map fun i=>(qA9 n).map fun j=>f i j
def Bits(n:Nat)(f:Nat->Nat->Int):Prop:=∀i j,i<n->j<n->f i j=0\/f i j=1
def Sym(n:Nat)(f:Nat->Nat->Int):Prop:=∀i j,i<n->j<n->f i j=f j i
@[simp] theorem zHY(r:List Int):(rowD r).dep=1:=by simp[rowD]
@[simp] theorem lenR(r:List Int):lenD [rowD r]=some (.int r.length):=by
 show some (Dt.int ((r.map Dt.int).length:Int))=_;rw[qAi]
@[simp] theorem listR(r:List Int):listD [rowD r]=some (rowD r):=rfl
@[simp] theorem lenM(A:List (List Int)):lenD [mat A]=some (.int A.length):=by
 show some (Dt.int ((A.map rowD).length:Int))=_;rw[qAi]
theorem zTC(a b:List Int):Dt.eq (rowD a) (rowD b)=decide (a=b):=by
 unfold rowD;rw[v_e4,zEY]
theorem zMH{ρ:Rh}{e:EM}{it:IM}{i n:Nat}(g:Nat->Int)(hi:i=ρ.length)(hn:n<=1000)(h1:it ρ=okR (nums 0 n))(h:∀a,a<n->e (ρ++[some (.int (a:Nat))])=okR (.int (g a))):eComp it 1 (.one i) tYes e ρ=okR (rowD ((qA9 n).map g)):=by
 rw[zGR (fun b=>.int (g b)) n rfl hi (fun b hb=>h b hb) it h1 (by lia)];unfold rowD;rw[qB3];rfl
def Bit(x:Int):Prop:=x=0\/x=1
def RowN(n:Nat)(r:List Int):Prop:=r.length=n/\∀x∈r,Bit x
theorem za5(r:List Int)(i:Nat)(h:i<r.length):ixD (rowD r) (.int (i:Int))=some (.int (r.getD i 0)):=by
 have:=zRU (ns:=r) (i:=(i:Int)) (by lia) (by lia)
 rw[qCc]at this;exact this
noncomputable def sumN(n:Nat)(f:Nat->Int):Int:=((qA9 n).map f).sum
theorem zV6{ds:List Dt}(h:∀d∈ds,d.dep=0):Dt.depL ds=0:=by
 induction ds with
 |nil=>simp
 |cons a r ih=>rw[zH0,h a (by simp),ih fun d hd=>h d (by simp[hd])];rfl
theorem zQI{r:Ro}{j i k l:Nat}{e:EM}{z:Int}{ds es:List Dt}{c:Dt}(hi:r[i]?=some (some (.lst ds,k+1)))(hj:r[j]?=some (some (.lst es,l+1)))(he:e (full r)=okR (.int z))(h0:0<=z)(h1:z<ds.length)(hc:ds[z.toNat]?=some c)(hf:c.dep=0)(hij:i≠j)(hz:ds.length<=1000)(hz2:es.length<=1000)(hk:k<1000) :
  sAppPop j i e r=okR (.nx ((r.set i (some (.lst (ds.eraseIdx z.toNat),k+1))).set j (some (.lst (es++[c]),l+1)))):=by
 unfold sAppPop;rw[hj,hi];dsimp only;rw[he,zA0];dsimp only;rw[zPB h0 h1];dsimp only;rw[hc];dsimp only;rw[if_pos ⟨hij,by lia,by lia,.inr ⟨by lia,by lia,hk⟩⟩]
noncomputable def zZY(i:Nat)(r:Ro):Nat:=match r[i]? with
 |some (some (Dt.lst lf,_))=>lf.length
 |_=>0
noncomputable def numL(ks:List Nat):List Int:=ks.map fun k:Nat=>(k:Int)
theorem numD(ks:List Nat):rowD (numL ks)=.lst (ks.map fun k:Nat=>Dt.int (k:Int)):=by
 unfold rowD numL;rw[qB3];rfl
theorem zHS{ks:List Nat}{n a:Nat}(hk:∀k∈ks,k<n)(ha:a<ks.length):ks.getD a 0<n:=by
 refine hk _ ?_;rw[qA0,qA2 ha];simp
noncomputable def sub(ks:List Nat)(f:Nat->Nat->Int):Nat->Nat->Int:=fun a b=>f (ks.getD a 0) (ks.getD b 0)
theorem zNK{α:Type}(l:List α):allD [.lst (l.map fun _=>Dt.bl true)]=some (.bl true):=by
 have hall:∀l:List α,boolsD (l.map fun _=>Dt.bl true)=some (l.map fun _=>true):=by
  intro l
  induction l with
  |nil=>rfl
  |cons a r ih=>simp[boolsD,ih]
 simp[allD,hall]
noncomputable def sgn(c:Nat):Dt:=.str ⟨#[c]⟩
theorem zRY(cs:List Nat):∀d∈cs.map sgn,d.dep=0:=by
 intro d hd;obtain⟨c,_,rfl⟩:=qAe.mp hd;rfl
@[simp] theorem depL_sgn(cs:List Nat):Dt.depL (cs.map sgn)=0:=zV6 (zRY cs)
theorem zLE:∀cs:List Nat,strsD (cs.map sgn)=some (cs.map fun c=>⟨#[c]⟩)
 |[]=>rfl
 |c::r=>by
  show(strsD (r.map sgn)).map _=_
  rw[zLE r];rfl
theorem zG6:(qIn "").cps.toList=[]:=by
 rw[qIw];rfl
theorem zM5:∀zs:List Str,(qKo (qIn "") zs).cps.toList=(zs.map (·.cps.toList)).flatten
 |[]=>rfl
 |[x]=>by simp[qKo]
 |x::y::r=>by
  rw[qKo,zK7,zK7,zG6,zM5 (y::r)]
  ·simp
  ·simp
theorem zQT(cs:List Nat):((cs.map fun c=>(⟨#[c]⟩:Str)).map (·.length)).sum=cs.length:=by
 induction cs with
 |nil=>rfl
 |cons c r ih=>simp only[qAk,List.sum_cons,ih,qAu];show 1+r.length=_;lia
theorem zP4:(qIn "").length=0:=by rw[zKQ,zG6];rfl
theorem zHQ(cs:List Nat)(hz:cs.length<=100000):joinD (.str (qIn "")) [.lst (cs.map sgn)]=some (.str ⟨cs.toArray⟩):=by
 show(match strsD (cs.map sgn)with|some zs=>_|none=>none)=_
 rw[zLE];dsimp only;rw[if_pos (by rw[zQT,zP4];lia)]
 congr 2
 have h:=zM5 (cs.map fun c=>(⟨#[c]⟩:Str));have e:(List.map (·.cps.toList) (cs.map fun c=>(⟨#[c]⟩:Str))).flatten=cs:=by
  rw[qB3];clear h hz
  induction cs with
  |nil=>rfl
  |cons c r ih=>simpa using ih
 rw[e]at h
 generalize qKo (qIn "") (cs.map fun c=>(⟨#[c]⟩:Str))=z at h ⊢
 obtain⟨a⟩:=z;simp at h;rw[<- h]
theorem zVL:(qIn "abcdefghijklmnopqrstuvwxyz").length=26:=by rw[str_len];decide
end Mp
namespace Mp
noncomputable section
open Mi PySem
def zDH:SM:=(sSeq (sSet 2 0 [1] (eB mulD (eC (.int 7919)) (eB addD (eV 1) (eC (.int 1)))))
 (sSeq (sIf (tB (eB (cmpD fun i j=>decide (i<j)) (eV 1) (eBi lenD (aCons (eV 0) aNil)))) (sSet 2 1 [2,0,1] (eB addD (eV 2) (eB ixD (eV 0) (eV 1)))) sNil)
 (sRet 0 0 [2] (eB modD (eB mulD (eB modD (eB mulD (eB modD (eV 2) (eC (.int 1000000000039))) (eC (.int 48271))) (eC (.int 2147483647))) (eC (.int 69621))) (eC (.int 2147483629))))))
def zAO:FM:=runF 2 3 zDH
def zG8:SM:=(sSeq (sIf (Mi.tOr (tNo (tM (eIsi "list" (eV 0)))) (tB (eB neD (eBi lenD (aCons (eV 0) aNil)) (eV 1)))) (sRet 0 0 [] (eC (.bl false))) sNil)
 (sRet 0 0 [0] (eBi allD (aCons (eComp (iSq (eV 0)) 1 (.one 2) Mi.tYes (eAnd (eIsi "int" (eV 2)) (eNot (eIsi "bool" (eV 2))))) aNil))))
def zBX:FM:=runF 2 2 zG8
def zC8:SM:=(sSeq (sSet 2 0 [] (eC (.str "abcdefghijklmnopqrstuvwxyz")))
 (sSeq (sSet 3 0 [] (eC (.str "")))
 (sSeq (sForR (iR1 (aCons (eV 1) aNil)) 4 (sSeq (sSet 5 0 [0,2] (eB modD (eV 0) (eBi lenD (aCons (eV 2) aNil))))
 (sSeq (sSet 0 1 [0,4,2] (eB addD (eB divD (eV 0) (eBi lenD (aCons (eV 2) aNil))) (eB mulD (eC (.int 7)) (eV 4))))
 (sSeq (sSet 3 1 [3,2,5] (eB addD (eV 3) (eB ixD (eV 2) (eV 5))))
 (sSet 2 1 [2,5] (eB addD (eSl (eV 2) oNo (oE (eV 5))) (eSl (eV 2) (oE (eB addD (eV 5) (eC (.int 1)))) oNo)))))))
 (sRetV 1 3))))
def zC6:FM:=runF 2 6 zC8
def zE5:SM:=(sRet 0 0 [0] (eMt joinD (eC (.str "")) (aCons (eComp (iEnX (aCons (eV 0) aNil)) 2 (.tup [1,2]) (tB (eB eqD (eMt findD (eV 0) (aCons (eV 2) aNil)) (eV 1))) (eV 2)) aNil)))
def zAQ:FM:=runF 1 1 zE5
def zGU:SM:=(sSeq (sSet 2 0 [0,1] (eMt findD (eCall zAQ (aCons (eV 0) aNil)) (aCons (eB ixD (eV 0) (eV 1)) aNil)))
 (sRet 1 1 [2,1,0] (eB addD (eB mulD (eV 2) (eC (.int 4))) (eIf (tB (eB eqD (eMt findD (eV 0) (aCons (eB ixD (eV 0) (eV 1)) aNil)) (eV 1))) (eC (.int 0)) (eC (.int 2))))))
def zBR:FM:=runF 2 3 zGU
def zMK:SM:=(sSeq (sIf (tB (eB (cmpD fun i j=>decide (j<i)) (eBi lenD (aCons (eCallN zAQ (aCons (eV 0) aNil)) aNil)) (eC (.int 8)))) (sRaise0 "TooMany" (aCons (eC (.str "a net has at most eight places")) aNil)) sNil)
 (sSeq (sSet 1 2 [0,3] (eComp (iR1 (aCons (eBi lenD (aCons (eV 0) aNil)) aNil)) 1 (.one 6) Mi.tYes (eCallN zBR (aCons (eV 0) (aCons (eV 6) aNil)))))
 (sSeq (sSet 2 1 [0] (eB repD (eLst (aCons (eC (.int 0)) aNil)) (eB mulD (eC (.int 2)) (eBi lenD (aCons (eV 0) aNil)))))
 (sSeq (sFor [1] (iEn (aCons (eV 1) aNil)) (.tup [3,4]) (sSeq (sSet 5 1 [1,3] (eB addD (eB ixD (eV 1) (eB subD (eV 3) (eC (.int 1)))) (eC (.int 1))))
 (sSeq (sItem 2 0 (eV 5) (eV 4))
 (sItem 2 0 (eV 4) (eV 5)))))
 (sRetV 1 2)))))
def zDY:FM:=runF 1 6 zMK
def zCK:SM:=(sSeq (sSet 3 1 [6,2] (eComp (iR1 (aCons (eB mulD (eC (.int 2)) (eV 2)) aNil)) 1 (.one 7) Mi.tYes (eB divD (eV 7) (eC (.int 2)))))
 (sSeq (sSet 4 0 [0,1] (eB modD (eCall zAO (aCons (eV 0) (aCons (eV 1) aNil))) (eC (.int 1000003))))
 (sSeq (sSet 5 9 [] (eLst aNil))
 (sSeq (sForR (iR1 (aCons (eB mulD (eC (.int 2)) (eV 2)) aNil)) 6 (sSeq (sSet 4 0 [4,0,6,1] (eB modD (eB addD (eB mulD (eV 4) (eC (.int 48271))) (eCall zAO (aCons (eV 0) (aCons (eB addD (eB addD (eV 1) (eC (.int 1))) (eV 6)) aNil)))) (eC (.int 2147483647))))
 (sAppPop 5 3 (eB modD (eB divD (eV 4) (eC (.int 16))) (eBi lenD (aCons (eV 3) aNil))))))
 (sRetV 9 5)))))
def zCI:FM:=runF 3 7 zCK
def zES:SM:=(sRet 0 0 [0] (eMt joinD (eC (.str "")) (aCons (eBi sosD (aCons (eV 0) aNil)) aNil)))
def zC2:FM:=runF 1 1 zES
def zI5:SM:=(sSeq (sSet 2 0 [0,1] (eB ixD (eLst (aCons (eTup (aCons (eC (.int 1)) (aCons (eC (.int 0)) (aCons (eC (.int 3)) (aCons (eC (.int 2)) aNil))))) (aCons (eTup (aCons (eC (.int 2)) (aCons (eC (.int 3)) (aCons (eC (.int 0)) (aCons (eC (.int 1)) aNil))))) (aCons (eTup (aCons (eC (.int 3)) (aCons (eC (.int 2)) (aCons (eC (.int 1)) (aCons (eC (.int 0)) aNil))))) aNil)))) (eB ixD (eV 0) (eB divD (eV 1) (eC (.int 4))))))
 (sRet 1 1 [1,2] (eB addD (eB subD (eV 1) (eB modD (eV 1) (eC (.int 4)))) (eB ixD (eV 2) (eB modD (eV 1) (eC (.int 4)))))))
def zHN:FM:=runF 2 3 zI5
def zJU:SM:=(sSeq (sSet 3 9 [] (eLst aNil))
 (sSeq (sSet 4 0 [2] (eV 2))
 (sSeq (sWhile (Mi.tOr (tB (eB eqD (eV 3) (eLst aNil))) (tB (eB neD (eV 4) (eV 2)))) (sSeq (sApp 3 0 (eV 4))
 (sSeq (sApp 3 1 (eCall zHN (aCons (eV 1) (aCons (eV 4) aNil))))
 (sSet 4 0 [0,3] (eB ixD (eV 0) (eB ixD (eV 3) (eU negD (eC (.int 1)))))))))
 (sRetV 9 3))))
def zJ6:FM:=runF 3 5 zJU
def zI4:SM:=(sSeq (sSet 2 1 [] eDct0)
 (sSeq (sSet 3 9 [] (eLst aNil))
 (sSeq (sForR (iR1 (aCons (eBi lenD (aCons (eV 0) aNil)) aNil)) 4 (sIf (tB (eB (dinD true) (eV 4) (eV 2))) (sSeq (sSet 5 9 [0,1,4] (eCall zJ6 (aCons (eV 0) (aCons (eV 1) (aCons (eV 4) aNil)))))
 (sSeq (sFor [5] (iSq (eV 5)) (.one 6) (sDput 2 (eV 6) (eC (.bl true))))
 (sAppF 3 [5] (eV 5)))) sNil))
 (sRetV 1 3))))
def zHM:FM:=runF 2 7 zI4
def zI3:SM:=(sRet 0 0 [1,0] (eB xorD (eV 1) (eB addD (eV 0) (eC (.int 1)))))
def zHL:FM:=runF 2 2 zI3
def zCY:SM:=(sSeq (sSet 2 0 [1] (eB divD (eV 1) (eC (.int 4))))
 (sRet 1 1 [2,0,1] (eB addD (eB mulD (eV 2) (eC (.int 4))) (eCall zHL (aCons (eB ixD (eV 0) (eV 2)) (aCons (eB modD (eV 1) (eC (.int 4))) aNil))))))
def zB3:FM:=runF 2 3 zCY
def zEK:SM:=(sSeq (sSet 3 1 [2,1] (eLst (aCons (eV 2) (aCons (eCall zB3 (aCons (eV 1) (aCons (eV 2) aNil))) aNil))))
 (sSeq (sWhile (tB (eB neD (eB ixD (eV 0) (eB ixD (eV 3) (eU negD (eC (.int 1))))) (eV 2))) (sSeq (sSet 4 0 [0,3] (eB ixD (eV 0) (eB ixD (eV 3) (eU negD (eC (.int 1))))))
 (sExt 3 0 (eLst (aCons (eV 4) (aCons (eCall zB3 (aCons (eV 1) (aCons (eV 4) aNil))) aNil))))))
 (sRetV 1 3)))
def zCB:FM:=runF 3 5 zEK
def zDQ:SM:=(sSeq (sSet 2 9 [] (eLst aNil))
 (sSeq (sSet 3 1 [] eDct0)
 (sSeq (sForR (iR1 (aCons (eBi lenD (aCons (eV 0) aNil)) aNil)) 4 (sIf (tB (eB (dinD true) (eV 4) (eV 3))) (sSeq (sSet 5 1 [0,1,4] (eCall zCB (aCons (eV 0) (aCons (eV 1) (aCons (eV 4) aNil)))))
 (sSeq (sAppF 2 [5] (eV 5))
 (sDupd 3 (eComp (iSq (eV 5)) 1 (.one 6) Mi.tYes (eTup (aCons (eV 6) (aCons (eC (.bl true)) aNil))))))) sNil))
 (sRetV 1 2))))
def zCG:FM:=runF 2 6 zDQ
def zE6:SM:=(sRet 0 0 [0,1] (eBi lenD (aCons (eCall zCG (aCons (eV 0) (aCons (eV 1) aNil))) aNil)))
def zBO:FM:=runF 2 2 zE6
def zL7:SM:=(sSeq (sSet 2 0 [0] (eCall zC2 (aCons (eV 0) aNil)))
 (sRet 1 1 [1,0,2] (eComp (iSq (eCall zAQ (aCons (eV 0) aNil))) 1 (.one 3) Mi.tYes (eB ixD (eV 1) (eMt findD (eV 2) (aCons (eV 3) aNil))))))
def zCH:FM:=runF 2 3 zL7
def zE7:SM:=(sSeq (sSet 2 0 [0,1] (eMt findD (eV 0) (aCons (eB ixD (eV 0) (eV 1)) aNil)))
 (sSeq (sIf (tB (eB neD (eV 2) (eV 1))) (sRetV 0 2) sNil)
 (sRet 0 0 [0,1] (eMt rfindD (eV 0) (aCons (eB ixD (eV 0) (eV 1)) aNil)))))
def zAW:FM:=runF 2 3 zE7
def zGD:SM:=(sSeq (sSet 4 0 [1,0,2] (eDIx (eV 1) (eB ixD (eV 0) (eV 2))))
 (sSeq (sIf (tB (eB eqD (eV 4) (eC (.int 0)))) (sRet 1 1 [2,3] (eTup (aCons (eV 2) (aCons (eV 3) aNil)))) sNil)
 (sSeq (sIf (tB (eB eqD (eV 4) (eC (.int 1)))) (sRet 1 1 [0,2,3] (eTup (aCons (eCall zAW (aCons (eV 0) (aCons (eV 2) aNil))) (aCons (eNot (eV 3)) aNil)))) sNil)
 (sRet 1 1 [3,0,2] (eTup (aCons (eCall zAW (aCons (eV 0) (aCons (eV 2) aNil))) (aCons (eV 3) aNil)))))))
def zAZ:FM:=runF 4 5 zGD
def zL8:SM:=(sSeq (sSet 2 1 [] eDtt0)
 (sSeq (sSet 3 0 [] (eC (.int 0)))
 (sSeq (sForR (iR1 (aCons (eBi lenD (aCons (eV 0) aNil)) aNil)) 4 (sFor [] (iSq (eTup (aCons (eC (.bl true)) (aCons (eC (.bl false)) aNil)))) (.one 5) (sSeq (sSet 6 0 [4] (eV 4))
 (sSeq (sSet 7 0 [5] (eV 5))
 (sSeq (sSet 3 1 [3,2,4,5] (eB addD (eV 3) (eBi intD (aCons (eB (dinT true) (eTup (aCons (eV 4) (aCons (eV 5) aNil))) (eV 2)) aNil))))
 (sWhile (tB (eB (dinT true) (eTup (aCons (eV 6) (aCons (eV 7) aNil))) (eV 2))) (sSeq (sTput 2 0 (eTup (aCons (eV 6) (aCons (eV 7) aNil))) (eC (.bl true)))
 (sSeq (sUnp [8,7] [0,1,6,7] (eCall zAZ (aCons (eV 0) (aCons (eV 1) (aCons (eV 6) (aCons (eV 7) aNil))))))
 (sSeq (sSet 9 0 [8,0] (eB modD (eB addD (eV 8) (eC (.int 1))) (eBi lenD (aCons (eV 0) aNil))))
 (sSeq (sIf (tNo (tM (eV 7))) (sSet 9 0 [8,0] (eB modD (eB subD (eV 8) (eC (.int 1))) (eBi lenD (aCons (eV 0) aNil)))) sNil)
 (sSet 6 0 [9] (eV 9))))))))))))
 (sRet 0 0 [3] (eB divD (eV 3) (eC (.int 2)))))))
def zDM:FM:=runF 2 10 zL8
def zQH:SM:=(sSeq (sSet 1 1 [0] (eB addD (eC (.int 1)) (eB modD (eCall zAO (aCons (eV 0) (aCons (eC (.int 0)) aNil))) (eC (.int 10)))))
 (sSeq (sSet 2 1 [1,0] (eCall zC6 (aCons (eCall zAO (aCons (eV 0) (aCons (eC (.int 1)) aNil))) (aCons (eV 1) aNil))))
 (sSeq (sSet 3 9 [0,1] (eCall zCI (aCons (eV 0) (aCons (eC (.int 2)) (aCons (eV 1) aNil)))))
 (sSeq (sSet 4 0 [2,3] (eMt joinD (eC (.str "")) (aCons (eComp (iSq (eV 3)) 1 (.one 12) Mi.tYes (eB ixD (eV 2) (eV 12))) aNil)))
 (sSeq (sSet 5 1 [7,0,1] (eComp (iR1 (aCons (eV 1) aNil)) 1 (.one 12) Mi.tYes (eB modD (eCall zAO (aCons (eV 0) (aCons (eB addD (eC (.int 30)) (eV 12)) aNil))) (eC (.int 3)))))
 (sSeq (sSet 6 1 [] eDct0)
 (sSeq (sFor [2] (iEn (aCons (eBi soxD (aCons (eV 2) aNil)) aNil)) (.tup [7,8]) (sDput 6 (eV 8) (eB ixD (eV 5) (eV 7))))
 (sSeq (sSet 9 9 [] (eLst aNil))
 (sSeq (sFor [4] (iSq (eV 4)) (.one 8) (sIf (tB (eB (inD true) (eV 8) (eV 9))) (sApp 9 0 (eV 8)) sNil))
 (sSeq (sSet 10 1 [5] (eBi listD (aCons (eV 5) aNil)))
 (sSeq (sSet 11 1 [4,10] (eCall zCH (aCons (eV 4) (aCons (eV 10) aNil))))
 (sSeq (sIf (Mi.tOr (tNo (tM (eCall zBX (aCons (eV 11) (aCons (eV 1) aNil))))) (Mi.tOr (tB (eB neD (eV 11) (eComp (iSq (eV 9)) 1 (.one 12) Mi.tYes (eDIx (eV 6) (eV 12))))) (tB (eB neD (eV 10) (eV 5))))) (sRet 0 0 [] (eC (.bl false))) sNil)
 (sSeq (sItem 11 0 (eC (.int 0)) (eC (.int 7)))
 (sSeq (sSet 11 1 [4,10] (eCall zCH (aCons (eV 4) (aCons (eV 10) aNil))))
 (sSeq (sIf (Mi.tOr (tNo (tM (eCall zBX (aCons (eV 11) (aCons (eV 1) aNil))))) (tB (eB neD (eV 11) (eComp (iSq (eV 9)) 1 (.one 12) Mi.tYes (eDIx (eV 6) (eV 12)))))) (sRet 0 0 [] (eC (.bl false))) sNil)
 (sRet 0 0 [1,11,4,6] (eOr (eB (cmpD fun i j=>decide (j<i)) (eV 1) (eC (.int 8))) (eB eqD (eCall zBO (aCons (eCall zDY (aCons (eV 4) aNil)) (aCons (eV 11) aNil))) (eCall zDM (aCons (eV 4) (aCons (eV 6) aNil)))))))))))))))))))))
def zJ5:FM:=runF 1 12 zQH
end
noncomputable def ords(row:List Nat):List Nat:=row.foldl (fun o p=>if p∈o then o else o++[p]) []
theorem zCZ(row:List Nat)(p:Nat):ords (row++[p])=if p∈ords row then ords row else ords row++[p]:=by
 unfold ords;rw[qEe];rfl
theorem zFC{α:Type}{P:List α->Prop}(h0:P [])(h1:∀l a,P l->P (l++[a])):∀l,P l:=by
 intro l
 have:∀m:List α,P m.reverse:=by
  intro m
  induction m with
  |nil=>exact h0
  |cons a r ih=>rw[List.reverse_cons];exact h1 _ _ ih
 have h:=this l.reverse
 rwa [List.reverse_reverse]at h
theorem ords_mem:∀(row:List Nat)(x:Nat),x∈ords row↔x∈row:=by
 refine zFC (fun x=>by simp[ords]) fun l a ih x=>?_
 rw[zCZ]
 split
 ·rename_i h
  rw[ih x,qAq,qB6];constructor
  ·exact .inl
  ·rintro(h'|rfl)
   ·exact h'
   ·exact(ih x).mp h
 ·rw[qAq,qAq,ih x]
theorem ords_nodup:∀row:List Nat,(ords row).Nodup:=by
 refine zFC (by simp[ords]) fun l a ih=>?_
 rw[zCZ]
 split
 ·exact ih
 ·rename_i h
  rw[qCr];exact⟨ih,by simp,fun x hx y hy z=>h (by rw[qB6]at hy;rw[<- hy,<- z];exact hx)⟩
theorem zGK:∀row:List Nat,ords row=((qA9 row.length).filter fun k=>decide (row.idxOf (row.getD k 0)=k)).map fun k=>row.getD k 0:=by
 refine zFC (by simp[ords]) fun l a ih=>?_
 rw[zCZ,ih,qAr,qDl,qC5,List.filter_append,qAz];have e1:∀k,k<l.length->(l++[a]).getD k 0=l.getD k 0:=fun k hk=>by
  rw[qA0,qA0,qA6 hk]
 have e2:(l++[a]).getD l.length 0=a:=by
  rw[qA0,qA7 (qA8 _)];simp
 have e3:((qA9 l.length).filter fun k=>decide ((l++[a]).idxOf ((l++[a]).getD k 0)=k))=(qA9 l.length).filter fun k=>decide (l.idxOf (l.getD k 0)=k):=by
  refine qG5 fun k hk=>?_
  have hk':k<l.length:=by simpa using hk
  have hm:l.getD k 0∈l:=by rw[qA0,qA2 hk'];simp
  rw[e1 k hk',qCu,if_pos hm]
 have e4:(((qA9 l.length).filter fun k=>decide (l.idxOf (l.getD k 0)=k)).map fun k=>(l++[a]).getD k 0)=((qA9 l.length).filter fun k=>decide (l.idxOf (l.getD k 0)=k)).map fun k=>l.getD k 0:=by
  refine qBk fun k hk=>?_
  have:=(qC1.mp hk).1
  exact e1 k (by simpa using this)
 rw[e3,e4,<- ih]
 by_cases h:a∈ords l
 ·have ha:=(ords_mem l a).mp h;rw[if_pos h,qEk]
  ·simp
  ·rw[e2,qCu,if_pos ha]
   have:=qAg ha
   simp
   lia
 ·have ha:¬a∈l:=fun z=>h ((ords_mem l a).mpr z)
  rw[if_neg h,qEl]
  ·simp[e2]
  ·rw[e2,qCu,if_neg ha];simp
noncomputable def puts(S:List (Nat×Int))(N:List Int):List Int:=S.foldl (fun N p=>N.set p.1 p.2) N
theorem zOB{S S':List (Nat×Int)}(h:S.Perm S')(hd:∀x∈S,∀y∈S,x.1=y.1->x.2=y.2)(N:List Int):puts S N=puts S' N:=by
 unfold puts;refine List.Perm.foldl_eq' h (fun x hx y hy z=>?_) N
 by_cases e:x.1=y.1
 ·rw[e,hd x hx y hy e,List.set_set]
 ·rw[List.set_comm _ _ e]
def inA(row:List Nat)(a:Nat):Nat:=4*(ords row).idxOf (row.getD a 0)+2*(row.take a).count (row.getD a 0)
theorem zV3{l:List Nat}{x y:Nat}(hx:x∈l)(h:l.idxOf x=l.idxOf y):x=y:=by
 have h1:=qAg hx;have e1:=qDc h1;have h2:l.idxOf y<l.length:=by rw[<- h];exact h1
 have e2:=qDc h2;rw[<- e1,<- e2]
 congr 1
theorem zMG{row:List Nat}{a b:Nat}(hab:a<b)(hb:b<row.length)(h:row.getD a 0=row.getD b 0):(row.take a).count (row.getD a 0)<(row.take b).count (row.getD b 0):=by
 have ha:a<row.length:=by lia
 have e:row.take b=row.take a++(row.drop a).take (b-a):=by
  rw[<- List.take_add]
  congr 1
  lia
 rw[<- h,e,qBz];have hd:(row.drop a).take (b-a)=row[a]::(row.drop (a+1)).take (b-a-1):=by
  rw[qB2 ha,show b-a=(b-a-1)+1 by lia,qFg];simp
 have hg:row.getD a 0=row[a]:=by rw[qA0,qA2 ha];rfl
 rw[hd,hg,qCw]
 lia
theorem zHR{row:List Nat}(h1:∀a,a<row.length->(row.take a).count (row.getD a 0)<=1){a b:Nat}(ha:a<row.length)(hb:b<row.length)(h:inA row a=inA row b):a=b:=by
 unfold inA at h;have ca:=h1 a ha;have cb:=h1 b hb;have hi:(ords row).idxOf (row.getD a 0)=(ords row).idxOf (row.getD b 0):=by lia
 have hc:(row.take a).count (row.getD a 0)=(row.take b).count (row.getD b 0):=by lia
 have hm:row.getD a 0∈ords row:=(ords_mem row _).mpr (by rw[qA0,qA2 ha];simp);have he:=zV3 hm hi
 rcases qDj a b with z|z|z
 ·have:=zMG z hb he;lia
 ·exact z
 ·have:=zMG z ha he.symm;lia
def tieP(row:List Nat)(a:Nat):List (Nat×Int):=[(inA row ((a+row.length-1)%row.length)+1,(inA row a:Int)),(inA row a,((inA row ((a+row.length-1)%row.length)+1:Nat):Int))]
theorem zNV{row:List Nat}(h1:∀a,a<row.length->(row.take a).count (row.getD a 0)<=1){a b:Nat}(ha:a<row.length)(hb:b<row.length):∀x∈tieP row a,∀y∈tieP row b,x.1=y.1->x.2=y.2:=by
 have hL:0<row.length:=by lia
 have ma:=qBq (a+row.length-1) hL;have mb:=qBq (b+row.length-1) hL;have pinj:(a+row.length-1)%row.length=(b+row.length-1)%row.length->a=b:=fun h=>by
  by_cases za:a=0
  ·subst za;rw[show 0+row.length-1=row.length-1 by lia,qAx (show row.length-1<row.length by lia)]at h
   by_cases zb:b=0
   ·exact zb.symm
   ·rw[show b+row.length-1=(b-1)+row.length by lia,qC0,qAx (by lia)]at h
    lia
  ·rw[show a+row.length-1=(a-1)+row.length by lia,qC0,qAx (by lia)]at h
   by_cases zb:b=0
   ·subst zb;rw[show 0+row.length-1=row.length-1 by lia,qAx (show row.length-1<row.length by lia)]at h
    lia
   ·rw[show b+row.length-1=(b-1)+row.length by lia,qC0,qAx (by lia)]at h
    lia
 have ev:∀c,inA row c%2=0:=fun c=>by unfold inA;lia
 intro x hx y hy hxy;simp only[tieP,qAb,qB9,or_false]at hx hy;have eva:=ev a;have evb:=ev b;have evpa:=ev ((a+row.length-1)%row.length);have evpb:=ev ((b+row.length-1)%row.length)
 rcases hx with rfl|rfl<;>rcases hy with rfl|rfl
 ·have:=pinj (zHR h1 ma mb (by simpa using hxy))
  subst this;rfl
 ·simp at hxy;lia
 ·simp at hxy;lia
 ·have:=zHR h1 ha hb (by simpa using hxy)
  subst this;rfl
end Mp
namespace Mp
open Mi PySem
theorem zB5{α:Type}[DecidableEq α]:∀(l1 l2:List α),l1.Nodup->(∀x∈l1,x∈l2)->l1.length<=l2.length
 |[],_,_,_=>by simp
 |a::r,l2,h,hs=>by
  have ha:=hs a (by simp);rw[qBi]at h
  have:=zB5 r (l2.erase a) h.2 fun x hx=>(qDu (fun z:x=a=>h.1 (by rw[<- z];exact hx))).mpr (hs x (by simp[hx]))
  rw[qD2 ha]at this
  have:=qDf ha
  simp
  lia
theorem zJD{r:Ro}{i m l a:Nat}{xs:List Int}{v:Int}{e1 e2:EM}(h:r[i]?=some (some (rowD xs,l+1)))(h2:e2 (full r)=okR (.int v))(h1:e1 (full r)=okR (.int (a:Nat)))(ha:a<xs.length):sItem i m e1 e2 r=okR (.nx (r.set i (some (rowD (xs.set a v),l+1)))):=by
 unfold sItem;rw[h2,zA0,h];show zA2 (e1 (full r)) _=_;rw[h1,zA0];dsimp only;rw[zPB (by lia) (by simp;lia)];dsimp only;rw[if_pos ⟨qAy _,qAy _⟩,qCc];unfold rowD;rw[qEz]
theorem zPA(ks:List Nat)(a:Nat)(h:a<ks.length):ixD (rowD (numL ks)) (.int (a:Int))=some (.int (ks.getD a 0:Nat)):=by
 have i1:=za5 (numL ks) a (by simp[numL];exact h);rw[show(numL ks).getD a 0=((ks.getD a 0:Nat):Int) by
  unfold numL;simp[qA0,qA2 h]]at i1
 exact i1
theorem zR2(n:Nat)(hn:n<=10000):repD (.lst [.int 0]) (.int (n:Int))=some (rowD (qAa n 0)):=by
 rw[zZ7,if_pos (by simp;lia)]
 have:∀m:Nat,(qAa m [Dt.int 0]).flatten=qAa m (Dt.int 0):=by
  intro m
  induction m with
  |zero=>rfl
  |succ m ih=>rw[qBj,qAv,ih];rfl
 rw[qCc,this];unfold rowD;rw[List.map_replicate]
def lawS(row:List Nat)(k:Nat):List (Nat×Int):=((qA9 k).map fun k=>tieP row ((k+1)%row.length)).flatten
theorem zEU(S:List (Nat×Int)):∀N:List Int,(puts S N).length=N.length:=by
 unfold puts
 induction S with
 |nil=>intro N;rfl
 |cons a r ih=>intro N;rw[qD9,ih,qDy]
theorem zOC{k L:Nat}(hk:k<L):((k+1)%L+L-1)%L=k:=by
 by_cases h:k+1=L
 ·subst h;rw[qHs,show 0+(k+1)-1=k by lia];exact qAx (by lia)
 ·rw[qAx (show k+1<L by lia),show k+1+L-1=k+L by lia,qC0];exact qAx hk
theorem zL4{ρ:Rh}{e:EM}{c:TM}{i j:Nat}(xs:List Dt)(g:Nat->Dt)(f:Nat->Bool)(hi:i=ρ.length)(hj:j=ρ.length+1)(it:IM)(hit:it ρ=okR (enumD 0 xs))(hn:xs.length<=100000)(hc:∀k x,xs[k]?=some x->c (ρ++[some (.int (k:Nat)),some x])=okR (f k))(h:∀k x,xs[k]?=some x->e (ρ++[some (.int (k:Nat)),some x])=okR (g k)):eComp it 2 (.tup [i,j]) c e ρ=okR (.lst (((qA9 xs.length).filter f).map g)):=by
 subst hi hj;unfold eComp;rw[hit,zA0,if_pos ⟨by rw[zHU];exact hn,by simp[Tg.idx]⟩];have go:∀(m k:Nat)(acc:List Dt),k+m=xs.length->compGo ρ 2 (.tup [ρ.length,ρ.length+1]) c e (enumD k (xs.drop k)) acc=okR (acc++((qGo k m).filter f).map g):=by
  intro m
  induction m with
  |zero=>
   intro k acc hk;rw[List.drop_of_length_le (by lia)];simp[enumD,compGo]
  |succ m ih=>
   intro k acc hk;have hx:xs[k]?=some xs[k]:=qA2 (by lia);rw[qB2 (by lia),enumD,compGo];have es:zAM (ρ++qAa 2 none) [(ρ.length,.int (k:Nat)),(ρ.length+1,xs[k])]=ρ++[some (.int (k:Nat)),some xs[k]]:=by
    simp[zAM]
   show zA2 (c (zAM (ρ++qAa 2 none) [(ρ.length,.int (k:Nat)),(ρ.length+1,xs[k])])) _=_;rw[es,hc k _ hx,zA0,List.range'_succ];cases hf:f k with
   |true=>
    rw[if_pos rfl];show zA2 (e (zAM (ρ++qAa 2 none) [(ρ.length,.int (k:Nat)),(ρ.length+1,xs[k])])) _=_;rw[es,h k _ hx,zA0,ih (k+1) _ (by lia),qEl hf];simp
   |false=>
    rw[if_neg (by simp),ih (k+1) _ (by lia),qEk (by simp[hf])]
 have:=go xs.length 0 [] (by lia)
 rw[qDk]at this;rw[this,zA0,List.range_eq_range'];simp
noncomputable def wrd(ls row:List Nat):List Nat:=row.map fun p=>ls.getD p 0
theorem zHB{c:Nat}:∀{l:List Nat},c∈l->posC c l=some (l.idxOf c)
 |a::r,h=>by
  show(if a=c then some 0 else(posC c r).map (·+1))=_
  by_cases z:a=c
  ·subst z;simp
  ·have:=zHB (l:=r) ((qAb.mp h).elim (fun y=>absurd y.symm z) fun y=>y)
   rw[if_neg z,this,qE3,show(a==c)=false by simpa using z];rfl
theorem zE0{c:Nat}{cs:List Nat}(h:c∈cs):findD (.str ⟨cs.toArray⟩) [sgn c]=some (.int (cs.idxOf c:Nat)):=by
 show some (Dt.int (match posC c cs with|some i=>(i:Int)|none=>-1))=_;rw[zHB h]
theorem zJC{cs:List Nat}{k:Nat}(h:k<cs.length)(hz:cs.length<=1000):ixD (.str ⟨cs.toArray⟩) (.int (k:Int))=some (sgn (cs.getD k 0)):=by
 show(@ite _ ((Str.mk cs.toArray).length<=100000) (qA4 _) ((itA cs (k:Int)).map fun c=>Dt.str ⟨#[c]⟩) none)=_
 rw[if_pos (by rw[zJ9];lia),zPG (j:=k) (v:=cs.getD k 0) rfl (by rw[qA0,qA2 h];rfl)];rfl
noncomputable def fsts(cs:List Nat):List Nat:=(qA9 cs.length).filter fun k=>decide (cs.idxOf (cs.getD k 0)=k)
theorem zED(cs:List Nat)(hz:cs.length<=1000):zAQ [.str ⟨cs.toArray⟩]=okR (.str ⟨((fsts cs).map fun k=>cs.getD k 0).toArray⟩):=by
 have hc:eComp (iEnX (aCons (eV 0) aNil)) 2 (.tup [1,2]) (tB (eB eqD (eMt findD (eV 0) (aCons (eV 2) aNil)) (eV 1))) (eV 2) [some (.str ⟨cs.toArray⟩)]=okR (.lst (((fsts cs).map fun k=>cs.getD k 0).map sgn)):=by
  have:=zL4 (ρ:=[some (.str ⟨cs.toArray⟩)]) (c:=tB (eB eqD (eMt findD (eV 0) (aCons (eV 2) aNil)) (eV 1))) (e:=eV 2) (i:=1) (j:=2) (cs.map sgn) (fun k=>sgn (cs.getD k 0)) (fun k=>decide (cs.idxOf (cs.getD k 0)=k)) rfl rfl (iEnX (aCons (eV 0) aNil)) (by simp[iEnX];rfl) (by simp;lia) (fun k x hx=>by
   have hk:k<cs.length:=by have:=(qA3.mp hx).1;simpa using this
   have hx':x=sgn (cs.getD k 0):=by
    rw[qAh,qA2 hk]at hx;cases hx;simp[qA0,qA2 hk]
   subst hx';have hf:=zE0 (c:=cs.getD k 0) (cs:=cs) (by rw[qA0,qA2 hk];simp);have hdd:decide (((cs.idxOf (cs.getD k 0):Nat):Int)=(k:Int))=decide (cs.idxOf (cs.getD k 0)=k):=by
    by_cases h:cs.idxOf (cs.getD k 0)=k
    ·rw[h];simp
    ·rw[decide_eq_false h,decide_eq_false (by lia)]
   have hf':eMt findD (eV 0) (aCons (eV 2) aNil) [some (.str ⟨cs.toArray⟩),some (.int (k:Nat)),some (sgn (cs.getD k 0))]=okR (.int (cs.idxOf (cs.getD k 0):Nat)):=by
    simp only[zNP,x_eV,zB0,zBM,qAn,qAo,zA0,hf,zA4];rfl
   generalize cs.idxOf (cs.getD k 0)=w at *
   show tB (eB eqD (eMt findD (eV 0) (aCons (eV 2) aNil)) (eV 1)) [some (.str ⟨cs.toArray⟩),some (.int (k:Nat)),some (sgn (cs.getD k 0))]=_;simp only[x_tB,x_eB,hf',zA0,x_eV,qAn,qAo];simp[<- hdd]) (fun k x hx=>by
   have hk:k<cs.length:=by have:=(qA3.mp hx).1;simpa using this
   have hx':x=sgn (cs.getD k 0):=by
    rw[qAh,qA2 hk]at hx;cases hx;simp[qA0,qA2 hk]
   subst hx';simp[-qA0])
  rw[this,qAi,qB3];rfl
 have hfl:(fsts cs).length<=cs.length:=qAl (List.length_filter_le _ _) (by simp);have hj:=zHQ ((fsts cs).map fun k=>cs.getD k 0) (by simp;lia);unfold zAQ zE5
 generalize((fsts cs).map fun k=>cs.getD k 0)=out at *
 refine zBN rfl ?_;simp[startO,hc,hj]
theorem zKU{f:Nat->Nat}{x:Nat}:∀{l:List Nat},(∀y∈l,f y=f x->y=x)->(l.map f).idxOf (f x)=l.idxOf x
 |[],_=>rfl
 |a::r,h=>by
  rw[qAk,qE3,qE3,zKU (l:=r) fun y hy=>h y (by simp[hy])]
  by_cases z:a=x
  ·subst z;simp
  ·have hne:¬f a=f x:=fun w=>z (h a (by simp) w)
   rw[show(f a==f x)=false by simpa using hne,show(a==x)=false by simpa using z]
def zQL(ls row:List Nat):Prop:=∀x∈row,∀y∈row,ls.getD x 0=ls.getD y 0->x=y
theorem zE9(ls row:List Nat):(wrd ls row).length=row.length:=by simp[wrd]
theorem zJZ{ls row:List Nat}{k:Nat}(h:k<row.length):(wrd ls row).getD k 0=ls.getD (row.getD k 0) 0:=by
 unfold wrd;simp[qA0,qA2 h]
theorem zFA{row:List Nat}{k:Nat}(h:k<row.length):row.getD k 0∈row:=by
 rw[qA0,qA2 h];simp
theorem zJY{ls row:List Nat}(ha:zQL ls row){k:Nat}(h:k<row.length):(wrd ls row).idxOf ((wrd ls row).getD k 0)=row.idxOf (row.getD k 0):=by
 rw[zJZ h];exact zKU (f:=fun p=>ls.getD p 0) fun y hy e=>ha y hy _ (zFA h) e
theorem zIU{ls row:List Nat}(ha:zQL ls row):((fsts (wrd ls row)).map fun k=>(wrd ls row).getD k 0)=wrd ls (ords row):=by
 have hf:fsts (wrd ls row)=(qA9 row.length).filter fun k=>decide (row.idxOf (row.getD k 0)=k):=by
  unfold fsts;rw[zE9];refine qG5 fun k hk=>?_
  rw[zJY ha (by simpa using hk)]
 rw[hf,zGK row];unfold wrd;rw[qB3];refine qBk fun k hk=>?_
 have hk':k<row.length:=by
  have:=(qC1.mp hk).1
  simpa using this
 exact zJZ hk'
theorem zFZ{row:List Nat}{a:Nat}(h:a<row.length):row.idxOf (row.getD a 0)=a↔(row.take a).count (row.getD a 0)=0:=by
 have hm:=zFA h;have hlt:=qAg hm;have e:row[row.idxOf (row.getD a 0)]=row.getD a 0:=qDc hlt;rw[qBt];constructor
 ·intro h1 h2;have h3:=qAg h2;have h4:row.idxOf (row.getD a 0)=(row.take a).idxOf (row.getD a 0):=by
   conv=>lhs;rw[<- qCo a row]
   rw[qCu,if_pos]
   ·rw[qCo]
   ·rw[qCo];exact h2
  rw[h1]at h4;rw[qEo]at h3
  lia
 ·intro h1;have h2:row.idxOf (row.getD a 0)<=a:=by
   rcases qF5 a (row.idxOf (row.getD a 0))with z|z
   ·have:=List.not_of_lt_findIdx (p:=(·==row.getD a 0)) (xs:=row) (i:=a) z
    rw[show row[a]=row.getD a 0 by rw[qA0,qA2 h];rfl]at this;simp at this
   ·exact z
  rcases qF5 (row.idxOf (row.getD a 0)) a with z|z
  ·exfalso
   apply h1
   rw[List.mem_take_iff_getElem];exact⟨row.idxOf (row.getD a 0),by lia,e⟩
  ·lia
theorem zNF{ls row:List Nat}(ha:zQL ls row)(hz:row.length<=100)(hc:∀a,a<row.length->(row.take a).count (row.getD a 0)<=1){a:Nat}(h:a<row.length):zBR [.str ⟨(wrd ls row).toArray⟩,.int (a:Int)]=okR (.int (inA row a:Nat)):=by
 have hwl:=zE9 ls row;have ho:=zED (wrd ls row) (by lia);rw[zIU ha]at ho;have hi:=zJC (cs:=wrd ls row) (k:=a) (by lia) (by lia);have hwm:(wrd ls row).getD a 0∈wrd ls row:=zFA (by lia);have hom:row.getD a 0∈ords row:=(ords_mem row _).mpr (zFA h);have hg:=zJZ (ls:=ls) h;have hwo:(wrd ls row).getD a 0∈wrd ls (ords row):=by rw[hg];exact qAe.mpr ⟨_,hom,rfl⟩
 have f1:=zE0 hwo;have f2:=zE0 hwm;have e1:(wrd ls (ords row)).idxOf ((wrd ls row).getD a 0)=(ords row).idxOf (row.getD a 0):=by
  rw[hg];exact zKU (f:=fun p=>ls.getD p 0) fun y hy e=>ha y ((ords_mem row y).mp hy) _ (zFA h) e
 have e2:=zJY ha h;rw[e1]at f1;rw[e2]at f2;have hil:(ords row).idxOf (row.getD a 0)<=100:=by
  have h1:=qAg hom;have h2:=zB5 (ords row) row (ords_nodup _) fun y hy=>(ords_mem _ y).mp hy
  lia
 have hA:inA row a=4*(ords row).idxOf (row.getD a 0)+2*(row.take a).count (row.getD a 0):=rfl;have hfc:=zFZ h;have hca:=hc a h
 generalize(wrd ls row).getD a 0=ch at *
 generalize row.getD a 0=x at *
 generalize(row.take a).count x=cn at *
 generalize(ords row).idxOf x=ix at *
 generalize row.idxOf x=fx at *
 have m1:mulD (.int (ix:Int)) (.int 4)=some (.int ((ix:Int)*4)):=zOY (by lia) (by lia);unfold zBR zGU;refine zBN rfl (zBZ fun bb hb=>?_);refine zAX (r:=[some (.str ⟨(wrd ls row).toArray⟩,0),some (.int (a:Int),0),some (.int (ix:Nat),0)]) ?_ ?_
 ·have e:eMt findD (eCall zAQ (aCons (eV 0) aNil)) (aCons (eB ixD (eV 0) (eV 1)) aNil) [some (.str ⟨(wrd ls row).toArray⟩),some (.int (a:Int)),none]=okR (.int (ix:Nat)):=by
   simp only[zNP,zE8,x_eV,x_eB,zB0,zBM,qAn,qAo,zA0,ho,hi,f1,zA4];rfl
  show sSet 2 0 [0,1] _ [some (.str ⟨(wrd ls row).toArray⟩,0),some (.int (a:Int),0),none]=_;rw[zF0];show zA2 (eMt findD (eCall zAQ (aCons (eV 0) aNil)) (aCons (eB ixD (eV 0) (eV 1)) aNil) [some (.str ⟨(wrd ls row).toArray⟩),some (.int (a:Int)),none]) _=_;rw[e,zA0];rfl
 subst hb;have e:eMt findD (eV 0) (aCons (eB ixD (eV 0) (eV 1)) aNil) [some (.str ⟨(wrd ls row).toArray⟩),some (.int (a:Int)),some (.int (ix:Nat))]=okR (.int (fx:Nat)):=by
  simp only[zNP,x_eV,x_eB,zB0,zBM,qAn,qAo,zA0,hi,f2,zA4];rfl
 have e3:eB addD (eB mulD (eV 2) (eC (.int 4))) (eIf (tB (eB eqD (eMt findD (eV 0) (aCons (eB ixD (eV 0) (eV 1)) aNil)) (eV 1))) (eC (.int 0)) (eC (.int 2))) [some (.str ⟨(wrd ls row).toArray⟩),some (.int (a:Int)),some (.int (ix:Nat))]=okR (.int (inA row a:Nat)):=by
  simp only[x_eB,zZ3,x_tB,e,x_eV,x_eC,qAn,qAo,zA0,m1,zA4]
  by_cases hf:fx=a
  ·have:cn=0:=hfc.mp hf
   subst hf;simp
   lia
  ·have:cn=1:=by
    have:¬cn=0:=fun z=>hf (hfc.mpr z)
    lia
   simp[show ¬(fx:Int)=(a:Int) by lia]
   lia
 show sRet 1 1 [2,1,0] _ [some (.str ⟨(wrd ls row).toArray⟩,0),some (.int (a:Int),0),some (.int (ix:Nat),0)]=_;unfold sRet;show zA2 (eB addD _ _ [some (.str ⟨(wrd ls row).toArray⟩),some (.int (a:Int)),some (.int (ix:Nat))]) _=_;rw[e3,zA0];rfl
def proS(row:List Nat)(k:Nat):List (Nat×Int):=((qA9 k).map (tieP row)).flatten
theorem zOJ{α:Type}{l l':List (List α)}(h:l.Perm l'):l.flatten.Perm l'.flatten:=by
 induction h with
 |nil=>exact qCz _
 |cons x _ ih=>rw[qAv,qAv];exact ih.append_left x
 |swap x y l=>
  rw[qAv,qAv,qAv,qAv,<- qBl,<- qBl];exact qF6.append_right _
 |trans _ _ ih1 ih2=>exact ih1.trans ih2
theorem zRC(L:Nat):((qA9 L).map fun k=>(k+1)%L).Perm (qA9 L):=by
 cases L with
 |zero=>exact qCz _
 |succ m=>
  have e:(qA9 (m+1)).map (fun k=>(k+1)%(m+1))=(qA9 m).map (·+1)++[0]:=by
   rw[qC5,qAz]
   congr 1
   ·refine qBk fun k hk=>?_
    have:k<m:=by simpa using hk
    exact qAx (by lia)
   ·simp
  rw[e,qDe];exact qF6
theorem zUR{row:List Nat}(h1:∀a,a<row.length->(row.take a).count (row.getD a 0)<=1)(N:List Int):puts (lawS row row.length) N=puts (proS row row.length) N:=by
 refine zOB ?_ (fun x hx y hy=>?_) N
 ·unfold lawS proS;refine zOJ ?_
  have:=(zRC row.length).map (tieP row)
  rw[qB3]at this;exact this
 ·obtain⟨l,hl,hx⟩:=qD1.mp hx;obtain⟨k,hk,rfl⟩:=qAe.mp hl;obtain⟨l,hl,hy⟩:=qD1.mp hy;obtain⟨j,hj,rfl⟩:=qAe.mp hl;have hL:0<row.length:=qCl (qAy k) (by simpa using hk);exact zNV h1 (qBq _ hL) (qBq _ hL) x hx y hy
theorem zD1{cs:List Nat}(h:cs.length<=1000):lenD [.str ⟨cs.toArray⟩]=some (.int (cs.length:Int)):=by
 have:=zJ9 cs
 simp[lenD,this]
 try lia
theorem zRI{ls row:List Nat}(ha:zQL ls row)(h0:0<row.length)(hz:row.length<=100)(hc:∀a,a<row.length->(row.take a).count (row.getD a 0)<=1)(hpos:∀a,a<row.length->inA row a+1<2*row.length)(h8:(ords row).length<=8):zDY [.str ⟨(wrd ls row).toArray⟩]=okR (rowD (puts (lawS row row.length) (qAa (2*row.length) 0))):=by
 rw[zUR hc];have hwl:=zE9 ls row;have hlen:lenD [.str ⟨(wrd ls row).toArray⟩]=some (.int (row.length:Int)):=by
  rw[zD1 (by lia),hwl]
 have ho:=zED (wrd ls row) (by lia);rw[zIU ha]at ho;have hlo:lenD [.str ⟨(wrd ls (ords row)).toArray⟩]=some (.int ((ords row).length:Int)):=by
  rw[zD1 (by rw[zE9];lia),zE9]
 have hen:∀o1 o2 o3 o4 o5:Option Dt,eComp (iR1 (aCons (eBi lenD (aCons (eV 0) aNil)) aNil)) 1 (.one 6) Mi.tYes (eCallN zBR (aCons (eV 0) (aCons (eV 6) aNil))) [some (.str ⟨(wrd ls row).toArray⟩),o1,o2,o3,o4,o5]=okR (rowD (numL ((qA9 row.length).map (inA row)))):=by
  intro o1 o2 o3 o4 o5
  have:=zMH (ρ:=[some (.str ⟨(wrd ls row).toArray⟩),o1,o2,o3,o4,o5]) (e:=eCallN zBR (aCons (eV 0) (aCons (eV 6) aNil))) (it:=iR1 (aCons (eBi lenD (aCons (eV 0) aNil)) aNil)) (i:=6) (n:=row.length) (fun k=>((inA row k:Nat):Int)) rfl (by lia) (zJX (by simp[hlen]) (by lia)) fun a h=>by
    have e:=zNF ha hz hc h;simp[e]
  rw[this];unfold numL;rw[qB3];rfl
 have hrz:=zR2 (2*row.length) (by lia);have m3:mulD (.int 2) (.int (row.length:Int))=some (.int ((2*row.length:Nat):Int)):=by
  rw[zOY (by lia) (by lia)]
  congr 2
 unfold zDY zMK;refine zBN rfl (zBZ fun bb hb=>?_);refine zAX (r:=[some (.str ⟨(wrd ls row).toArray⟩,0),none,none,none,none,none]) (by simp[startO,ho,hlo];lia) ?_;subst hb;refine zBZ fun bb hb=>?_
 refine zAX (r:=[some (.str ⟨(wrd ls row).toArray⟩,0),some (rowD (numL ((qA9 row.length).map (inA row))),2),none,none,none,none]) (by simp[hen]) ?_;subst hb;refine zBZ fun bb hb=>?_
 refine zAX (r:=[some (.str ⟨(wrd ls row).toArray⟩,0),some (rowD (numL ((qA9 row.length).map (inA row))),2),some (rowD (puts (proS row 0) (qAa (2*row.length) 0)),1),none,none,none]) ?_ ?_
 ·simp only[zF0,zB8,zBD,qC6,qE4,x_eB,x_eC,x_eV,zVU,zB0,zBM,zMO,zA0,qAo,hlen,zA4,m3,hrz];rw[if_pos (by simp)];simp only[zA0,hrz,zA4];rw[if_pos (by rw[zHY];exact qA8 _)];rfl
 subst hb;refine zBZ fun bb hb=>?_
 unfold sFor;rw[show iEn (aCons (eV 1) aNil) (frz (frzAt [1] [some (.str ⟨(wrd ls row).toArray⟩,0),some (rowD (numL ((qA9 row.length).map (inA row))),2),some (rowD (puts (proS row 0) (qAa (2*row.length) 0)),1),none,none,none]))=okR (enumD 0 (((qA9 row.length).map (inA row)).map fun k:Nat=>Dt.int (k:Int))) by simp[numD],zA0];show nxR (forGo (.tup [3,4]) _ (enumD 0 (((qA9 row.length).map (inA row)).map fun k:Nat=>Dt.int (k:Int))) [some (.str ⟨(wrd ls row).toArray⟩,0),some (rowD (numL ((qA9 row.length).map (inA row))),0),some (rowD (puts (proS row 0) (qAa (2*row.length) 0)),1),none,none,none]) _;refine zOV _ (fun k r=>∃o3 o4 o5,r=[some (.str ⟨(wrd ls row).toArray⟩,0),some (rowD (numL ((qA9 row.length).map (inA row))),0),some (rowD (puts (proS row k) (qAa (2*row.length) 0)),1),o3,o4,o5]) ⟨none,none,none,rfl⟩ (fun k x hx r hr=>?_) fun r hr=>?_
 ·obtain⟨o3,o4,o5,rfl⟩:=hr;have hk:k<row.length:=by have:=(qA3.mp hx).1;simpa using this
  have hx':x=.int (inA row k:Nat):=by
   rw[qAh,qAh,qFi hk]at hx;cases hx;rfl
  subst hx';have hn:=qBq (k+row.length-1) h0;have hix:ixD (rowD (numL ((qA9 row.length).map (inA row)))) (.int ((k:Int)-1))=some (.int (inA row ((k+row.length-1)%row.length):Nat)):=by
   have hg:((qA9 row.length).map (inA row)).getD ((k+row.length-1)%row.length) 0=inA row ((k+row.length-1)%row.length):=by simp[qA0,hn]
   by_cases z:k=0
   ·subst z;have hm:(0+row.length-1)%row.length=row.length-1:=by rw[show 0+row.length-1=row.length-1 by lia];exact qAx (by lia)
    rw[hm];have hq:ixA ((numL ((qA9 row.length).map (inA row))).map Dt.int).length (((0:Nat):Int)-1)=some (row.length-1):=by
     have hl:((numL ((qA9 row.length).map (inA row))).map Dt.int).length=row.length:=by simp[numL]
     rw[hl];unfold ixA;simp
     lia
    show itA ((numL ((qA9 row.length).map (inA row))).map Dt.int) (((0:Nat):Int)-1)=_;unfold itA;rw[hq];simp[numL,show row.length-1<row.length by lia]
   ·have:=zPA ((qA9 row.length).map (inA row)) (k-1) (by simp;lia)
    rw[show((k-1:Nat):Int)=(k:Int)-1 by lia]at this;rw[this,show(k+row.length-1)%row.length=k-1 by rw[show k+row.length-1=(k-1)+row.length by lia,qC0];exact qAx (by lia)];simp[qA0,show k-1<row.length by lia]
  have hp1:=hpos _ hn;have hp2:=hpos _ hk
  generalize hw:inA row ((k+row.length-1)%row.length)=w at *
  refine zDT fun b2 hb2=>?_
  refine zAX (r:=[some (.str ⟨(wrd ls row).toArray⟩,0),some (rowD (numL ((qA9 row.length).map (inA row))),0),some (rowD (puts (proS row k) (qAa (2*row.length) 0)),1),some (.int (k:Nat),0),some (.int (inA row k:Nat),0),some (.int ((w+1:Nat):Int),1)]) ?_ ?_
  ·simp[hix]
  subst hb2;refine zDT fun b2 hb2=>?_
  refine zAX (zJD (l:=0) (a:=w+1) (v:=(inA row k:Nat)) rfl (by simp) (by simp) (by rw[zEU,qC8];exact hp1)) ?_;subst hb2;refine zAX (zJD (l:=0) (a:=inA row k) (v:=((w+1:Nat):Int)) rfl (by simp) (by simp) (by rw[qDy,zEU,qC8];lia)) ⟨some (.int (k:Nat),0),some (.int (inA row k:Nat),0),some (.int ((w+1:Nat):Int),1),?_⟩;have hS:puts (proS row (k+1)) (qAa (2*row.length) 0)=((puts (proS row k) (qAa (2*row.length) 0)).set (w+1) (inA row k:Nat)).set (inA row k) ((w+1:Nat):Int):=by
   unfold proS;rw[qC5,qAz,List.flatten_append];unfold puts;rw[qEe];unfold tieP;simp only[qAk,qHq,qAv,List.flatten_nil,qD5,qD9,List.foldl_nil,hw]
  rw[hS];rfl
 ·obtain⟨o3,o4,o5,rfl⟩:=hr;subst hb;simp only[qAi,qG3];simp[sRetV]
noncomputable def zCJ(n:Nat):List Nat:=(qA9 (2*n)).map (· / 2)
theorem zNL(n:Nat):zCJ (n+1)=zCJ n++[n,n]:=by
 unfold zCJ;rw[show 2*(n+1)=2*n+1+1 by lia,qC5,qC5,qAz,qAz];have h1:2*n/2=n:=by lia
 have h2:(2*n+1)/2=n:=by lia
 simp[h1,h2]
theorem zG7:∀n v,(zCJ n).count v=if v<n then 2 else 0
 |0,v=>by simp[zCJ]
 |n+1,v=>by
  rw[zNL,qBz,zG7 n v]
  by_cases h:v=n
  ·subst h;simp
  ·have:[n,n].count v=0:=qBt.mpr (by simp[h])
   rw[this]
   by_cases h2:v<n
   ·rw[if_pos h2,if_pos (by lia)]
   ·rw[if_neg h2,if_neg (by lia)]
structure Twice(n:Nat)(row:List Nat):Prop where
 len:row.length=2*n
 cnt:∀v,row.count v=if v<n then 2 else 0
theorem zQQ{n:Nat}{row:List Nat}(h:row.Perm (zCJ n)):Twice n row:=
 ⟨by rw[h.length_eq];simp[zCJ],fun v=>by rw[h.count_eq,zG7]⟩
section
variable{n:Nat}{row:List Nat}(t:Twice n row)
include t
theorem Twice.mem(v:Nat):v∈row↔v<n:=by
 rw[<- qE6,t.cnt v]
 split<;>lia
theorem Twice.le1{a:Nat}(h:a<row.length):(row.take a).count (row.getD a 0)<=1:=by
 have h1:=t.cnt (row.getD a 0);have hg:row.getD a 0=row[a]:=by rw[qA0,qA2 h];rfl
 have h2:row.count (row.getD a 0)=(row.take a).count (row.getD a 0)+(row.drop a).count (row.getD a 0):=by
  rw[<- qBz,qCo]
 rw[qB2 h,hg,qCw]at h2;rw[hg]at h1 ⊢
 split at h1<;>lia
theorem Twice.ords:(ords row).length=n:=by
 have h1:=zB5 (Mp.ords row) (qA9 n) (ords_nodup row) fun x hx=>by
  have:=(t.mem x).mp ((ords_mem row x).mp hx)
  simpa using this
 have h2:=zB5 (qA9 n) (Mp.ords row) qDs fun x hx=>(ords_mem row x).mpr ((t.mem x).mpr (by simpa using hx))
 simp at h1 h2
 lia
theorem Twice.pos{a:Nat}(h:a<row.length):inA row a+1<2*row.length:=by
 have h1:=t.le1 h;have h2:=qAg ((ords_mem row _).mpr (zFA h));have h3:=t.ords;have h4:=t.len;unfold inA
 lia
end
noncomputable def addB:List Int->List Int->List Int
 |a::r,b::s=>(a+b)%2::addB r s
 |_,_=>[]
noncomputable def dot:List Int->List Int->Int
 |a::r,b::x=>a*b+dot r x
 |_,_=>0
def Ker(A:List (List Int))(x:List Int):Prop:=∀r∈A,dot r x%2=0
noncomputable def ent(A:List (List Int))(i k:Nat):Int:=(A.getD i []).getD k 0
theorem zBA{α:Type}{l:List α}{d:α}{i:Nat}(h:i<l.length):l.getD i d∈l:=by
 rw[qA0,qA2 h];simp
theorem zRL{α:Type}{l:List α}{d x:α}(h:x∈l):∃i,i<l.length/\l.getD i d=x:=by
 obtain⟨i,hi,rfl⟩:=qF8.mp h;exact⟨i,hi,by simp[qA0,qA2 hi]⟩
def oth(A:List (List Int))(c:Nat)(lead:List Int):List (List Int):=A.map fun r=>if r.getD c 0=1 then addB r lead else r
section
variable{A:List (List Int)}{c t m:Nat}(hm:∀r∈A,RowN m r)(ht:t<A.length)(hc:c<=t)(hl:ent A t c=1)(hcm:c<m)
include hm ht in
include hm ht hc in
include ht hc in
include hm ht hc in
end
def zaD(A:List (List Int))(c:Nat):Prop:=∀i k,i<A.length->k<c->ent A i k=if i=k then 1 else 0
noncomputable def zZA(n i:Nat):List Int:=(qA9 n).map fun j=>if j=i then 1 else 0
def aug(n:Nat)(T:List (List Int)):List (List Int):=(qA9 n).map fun i=>T.getD i []++zZA n i
structure Un(n:Nat)(T A:List (List Int))(c:Nat):Prop where
 len:A.length=n
 rows:∀r∈A,RowN (n+n) r
 unit:zaD A c
 ker:∀x,(∀y∈x,Bit y)->(Ker A x↔Ker (aug n T) x)
def eiR(x:R Out)(P:Ro->Prop)(Q:Dt->Prop):Prop:=(∃r,x=okR (.nx r)/\P r)\/∃d,x=okR (.rt d)/\Q d
theorem zKX{x:R Out}{P:Ro->Prop}{Q:Dt->Prop}(h:nxR x P):eiR x P Q:=.inl (zCS h)
theorem zF9{a b:SM}{r:Ro}{P P':Ro->Prop}{Q:Dt->Prop}(h:eiR (a r) P Q)(hb:∀r',P r'->eiR (b r') P' Q):eiR (sSeq a b r) P' Q:=by
 unfold sSeq
 rcases h with⟨r',e,h'⟩|⟨d,e,hq⟩
 ·rw[e,zA0];exact hb r' h'
 ·rw[e,zA0];exact .inr ⟨d,rfl,hq⟩
theorem zJK(ns:List Int)(k:Int)(h0:0<=k)(h1:k<1000):∃c:Int,0<=c/\c<2147483629/\zAO [.scr ns,.int k]=okR (.int c):=by
 unfold zAO zDH;have m1:mulD (.int 7919) (.int (k+1))=some (.int (7919*(k+1))):=zOY (by lia) (by lia)
 by_cases hk:k<ns.length
 ·refine⟨(7919*(k+1)+ns.getD k.toNat 0)%1000000000039*48271%2147483647*69621%2147483629,by lia,by lia,?_⟩;simp[hk,zUY h0 hk,m1,-zK0,zRJ]
 ·refine⟨7919*(k+1)%1000000000039*48271%2147483647*69621%2147483629,by lia,by lia,?_⟩;simp[hk,m1,-zK0,zRJ]
theorem zPT{α β:Type}(f:α->β):∀(l:List α)(i:Nat),(l.map f).eraseIdx i=(l.eraseIdx i).map f
 |[],_=>rfl
 |a::r,0=>rfl
 |a::r,i+1=>by simp[zPT f r i]
theorem zFJ{α:Type}:∀(l:List α){i:Nat}(h:i<l.length),l.Perm (l[i]::l.eraseIdx i)
 |a::r,0,_=>qCz _
 |a::r,i+1,h=>by
  have:=zFJ r (i:=i) (by simpa using h)
  exact(this.cons a).trans (qFc _ _ _)
theorem zQY(ns:List Int)(n:Nat)(h1:1<=n)(hn:n<=10):∃row,Twice n row/\zCI [.scr ns,.int 2,.int (n:Int)]=okR (rowD (numL row)):=by
 suffices h:eiR (zCK [some (.scr ns,0),some (.int 2,0),some (.int (n:Int),0),none,none,none,none]) (fun _=>False) (fun d=>∃row,d=rowD (numL row)/\Twice n row) by
  rcases h with⟨_,_,z⟩|⟨d,h1,row,rfl,h2⟩
  ·exact z.elim
  ·exact⟨row,h2,zBN rfl h1⟩
 have m0:mulD (.int 2) (.int (n:Int))=some (.int ((2*n:Nat):Int)):=by
  rw[zOY (by lia) (by lia)]
  congr 2
 unfold zCK;refine zF9 (P:=fun r=>r=[some (.scr ns,0),some (.int 2,0),some (.int (n:Int),0),some (rowD (numL (zCJ n)),1),none,none,none]) (zKX ?_) ?_
 ·have hc:eComp (iR1 (aCons (eB mulD (eC (.int 2)) (eV 2)) aNil)) 1 (.one 7) Mi.tYes (eB divD (eV 7) (eC (.int 2))) [some (.scr ns),some (.int 2),some (.int (n:Int)),none,none,none,none]=okR (rowD (numL (zCJ n))):=by
   have:=zMH (ρ:=[some (.scr ns),some (.int 2),some (.int (n:Int)),none,none,none,none]) (e:=eB divD (eV 7) (eC (.int 2))) (it:=iR1 (aCons (eB mulD (eC (.int 2)) (eV 2)) aNil)) (i:=7) (n:=2*n) (fun k=>((k/2:Nat):Int)) rfl (by lia) (zJX (by simp[m0,-zK0]) (by lia)) fun a h=>by simp
   rw[this];unfold zCJ numL;rw[qB3];rfl
  simp[hc]
 rintro r rfl
 obtain⟨c0,a0,b0,e0⟩:=zJK ns 2 (by lia) (by lia);refine zF9 (P:=fun r=>r=[some (.scr ns,0),some (.int 2,0),some (.int (n:Int),0),some (rowD (numL (zCJ n)),1),some (.int (c0%1000003),0),none,none]) (zKX (by simp[e0])) ?_
 rintro r rfl
 refine zF9 (P:=fun r=>r=[some (.scr ns,0),some (.int 2,0),some (.int (n:Int),0),some (rowD (numL (zCJ n)),1),some (.int (c0%1000003),0),some (rowD (numL []),9),none]) (zKX (by simp;rfl)) ?_
 rintro r rfl
 refine zF9 (P:=fun r=>∃row left:List Nat,∃w:Int,∃l4 o6,r=[some (.scr ns,0),some (.int 2,0),some (.int (n:Int),0),some (rowD (numL left),1),some (.int w,l4),some (rowD (numL row),9),o6]/\(row++left).Perm (zCJ n)/\row.length=2*n) (zKX ?_) ?_
 ·rw[zGW,zJX (n:=2*n) (by simp[m0,-zK0]) (by lia),zA0];refine zRG (fun k r=>∃row left:List Nat,∃w:Int,∃l4 o6,r=[some (.scr ns,0),some (.int 2,0),some (.int (n:Int),0),some (rowD (numL left),1),some (.int w,l4),some (rowD (numL row),9),o6]/\(row++left).Perm (zCJ n)/\row.length=k) ⟨[],zCJ n,_,_,_,rfl,qCz _,rfl⟩ (fun k hk r hr=>?_) fun r h=>h
  obtain⟨row,left,w,l4,o6,rfl,hp,hl⟩:=hr;have hll:left.length=2*n-k:=by
   have:=hp.length_eq
   rw[qAr,show(zCJ n).length=2*n by simp[zCJ]]at this
   lia
  obtain⟨c,a,b,e⟩:=zJK ns (3+(k:Int)) (by lia) (by lia);have m1:mulD (.int w) (.int 48271)=some (.int (w*48271)):=zRJ (by lia) (by lia);refine zDT fun bb hb=>?_
  refine zAX (r:=[some (.scr ns,0),some (.int 2,0),some (.int (n:Int),0),some (rowD (numL left),1),some (.int ((w*48271+c)%2147483647),0),some (rowD (numL row),9),some (.int (k:Nat),0)]) (by simp[m1,e,-zK0]) ?_
  generalize(w*48271+c)%2147483647=w2
  subst hb;have hlp:0<left.length:=by lia
  have z0:=qGt (w2/16) (show((left.length:Nat):Int)≠0 by lia);have z1:=qFr (w2/16) (show(0:Int)<((left.length:Nat):Int) by lia);have hnl:(numL left).length=left.length:=by simp[numL]
  have hmod:modD (.int (w2/16)) (.int (left.length:Int))=some (.int (w2/16%(left.length:Int))):=by simp[hlp]
  have he:eB modD (eB divD (eV 4) (eC (.int 16))) (eBi lenD (aCons (eV 3) aNil)) (full [some (.scr ns,0),some (.int 2,0),some (.int (n:Int),0),some (rowD (numL left),1),some (.int w2,0),some (rowD (numL row),9),some (.int (k:Nat),0)])=okR (.int (w2/16%(left.length:Int))):=by
   simp only[zB8,zBD,qC6,x_eB,x_eV,x_eC,zMO,zB0,zBM,qAn,qAo,zA0,lenR,hnl,zA4];simp[hmod,-zZ8]
  generalize w2/16%(left.length:Int)=z at *
  have hzt:z.toNat<left.length:=by lia
  refine zAX (zQI (i:=3) (j:=5) (k:=0) (l:=8) (ds:=(numL left).map Dt.int) (es:=(numL row).map Dt.int) (c:=.int (left.getD z.toNat 0:Nat)) rfl rfl he z0 (by simp[numL];lia) (by simp[numL,qA2 hzt,qA0]) (by simp) (by lia) (by simp[numL];lia) (by simp[numL];lia) (by lia)) ⟨row++[left.getD z.toNat 0],left.eraseIdx z.toNat,w2,0,some (.int (k:Nat),0),?_,?_,by simp[hl]⟩
  ·have e1:Dt.lst (((numL left).map Dt.int).eraseIdx z.toNat)=rowD (numL (left.eraseIdx z.toNat)):=by
    unfold rowD numL;rw[zPT,zPT]
   have e2:Dt.lst ((numL row).map Dt.int++[.int (left.getD z.toNat 0:Nat)])=rowD (numL (row++[left.getD z.toNat 0])):=by
    unfold rowD numL;simp[-qA0]
   rw[e1,e2];rfl
  ·refine List.Perm.trans ?_ hp;rw[qBl];refine qDm row ?_;rw[List.singleton_append];have hg:left.getD z.toNat 0=left[z.toNat]:=by rw[qA0,qA2 hzt];rfl
   rw[hg];exact(zFJ left hzt).symm
 rintro r ⟨row,left,w,l4,o6,rfl,hp,hl⟩
 have hle:left=[]:=by
  have:=hp.length_eq
  rw[qAr,show(zCJ n).length=2*n by simp[zCJ]]at this;exact qDt (by lia)
 subst hle;rw[qD5]at hp;exact .inr ⟨rowD (numL row),by simp[sRetV],row,rfl,zQQ hp⟩
theorem zO1{z:Str}{l:List Nat}(h:z.cps.toList=l):z=⟨l.toArray⟩:=by
 cases z with
 |mk a=>subst h;simp
theorem add_str{a b:List Nat}(h:a.length+b.length<=1000):addD (.str ⟨a.toArray⟩) (.str ⟨b.toArray⟩)=some (.str ⟨(a++b).toArray⟩):=by
 rw[zVX,if_pos (by rw[zJ9,zJ9];lia)]
 congr 2
 exact zO1 (by rw[zK7])
theorem zSK{a:List Nat}(l h:Option Int)(hz:a.length<=1000):slD (.str ⟨a.toArray⟩) l h=some (.str ⟨(cutA a l h).toArray⟩):=by
 show(@ite _ ((Str.mk a.toArray).length<=100000) (qA4 _) (some (Dt.str ⟨(cutA a l h).toArray⟩)) none)=_
 rw[if_pos (by rw[zJ9];lia)]
theorem zSA:∃ls:List Nat,(qIn "abcdefghijklmnopqrstuvwxyz")=⟨ls.toArray⟩/\ls.length=26/\ls.Nodup:=by
 refine⟨(qIn "abcdefghijklmnopqrstuvwxyz").cps.toList,zO1 rfl,?_,?_⟩
 ·rw[<- zKQ,zVL]
 ·rw[qIw]
  decide
theorem zJ8(c:Int)(n:Nat)(hn:n<=10):∃cs:List Nat,cs.Nodup/\cs.length=n/\zC6 [.int c,.int (n:Int)]=okR (.str ⟨cs.toArray⟩):=by
 obtain⟨l0,h0,h26,hnd⟩:=zSA
 suffices h:eiR (zC8 [some (.int c,0),some (.int (n:Int),0),none,none,none,none]) (fun _=>False) (fun d=>∃cs:List Nat,d=.str ⟨cs.toArray⟩/\cs.Nodup/\cs.length=n) by
  rcases h with⟨_,_,z⟩|⟨d,h1,cs,rfl,h2,h3⟩
  ·exact z.elim
  ·exact⟨cs,h2,h3,zBN rfl h1⟩
 unfold zC8;refine zF9 (P:=fun r=>r=[some (.int c,0),some (.int (n:Int),0),some (.str ⟨l0.toArray⟩,0),none,none,none]) (zKX (by simp[<- h0])) ?_
 rintro r rfl
 refine zF9 (P:=fun r=>r=[some (.int c,0),some (.int (n:Int),0),some (.str ⟨l0.toArray⟩,0),some (.str ⟨([]:List Nat).toArray⟩,0),none,none]) (zKX ?_) ?_
 ·have:(qIn "")=⟨([]:List Nat).toArray⟩:=zO1 zG6
  simp[<- this]
 rintro r rfl
 refine zF9 (P:=fun r=>∃c:Int,∃ls cs:List Nat,∃l0 l2 l3 o4 o5,r=[some (.int c,l0),some (.int (n:Int),0),some (.str ⟨ls.toArray⟩,l2),some (.str ⟨cs.toArray⟩,l3),o4,o5]/\(cs++ls).Nodup/\cs.length=n/\l3<=1) (zKX ?_) ?_
 ·rw[zGW,zJX (n:=n) (by simp) (by lia),zA0];refine zRG (fun k r=>∃c:Int,∃ls cs:List Nat,∃l0 l2 l3 o4 o5,r=[some (.int c,l0),some (.int (n:Int),0),some (.str ⟨ls.toArray⟩,l2),some (.str ⟨cs.toArray⟩,l3),o4,o5]/\(cs++ls).Nodup/\cs.length=k/\l3<=1/\ls.length=26-k) ⟨c,l0,[],0,0,0,none,none,rfl,by simpa using hnd,rfl,by lia,by lia⟩ (fun k hk r hr=>?_) fun r h=>?_
  ·obtain⟨c,ls,cs,j0,j2,j3,o4,o5,rfl,hp,hc,_,hl⟩:=hr;have hlp:0<ls.length:=by lia
   have hlen:lenD [.str ⟨ls.toArray⟩]=some (.int (ls.length:Int)):=zD1 (by lia);obtain⟨w,hw⟩:∃w:Nat,c%(ls.length:Int)=(w:Int):=⟨(c%(ls.length:Int)).toNat,by have:=qGt c (show(ls.length:Int)≠0 by lia);lia⟩
   have hwl:w<ls.length:=by have:=qFr c (show(0:Int)<(ls.length:Int) by lia);lia
   have d1:modD (.int c) (.int (ls.length:Int))=some (.int (w:Int)):=by simp[hlp,hw]
   have d2:divD (.int c) (.int (ls.length:Int))=some (.int (c/(ls.length:Int))):=by
    simp[hlp,show(ls.length:Int)<1000000000000000000000000 by lia]
   have m1:mulD (.int 7) (.int (k:Int))=some (.int (7*(k:Int))):=zOY (by lia) (by lia);have i1:=zJC hwl (by lia);have a1:addD (.str ⟨cs.toArray⟩) (sgn (ls.getD w 0))=some (.str ⟨(cs++[ls.getD w 0]).toArray⟩):=add_str (b:=[ls.getD w 0]) (by simp;lia);have s1:=zSK (a:=ls) none (some (w:Int)) (by lia);have s2:=zSK (a:=ls) (some ((w:Int)+1)) none (by lia);rw[zYQ]at s1;rw[show cutA ls (some ((w:Int)+1)) none=ls.drop (w+1) from zS8 ls (w+1)]at s2;have a2:=add_str (a:=ls.take w) (b:=ls.drop (w+1)) (by simp;lia)
   generalize hch:ls.getD w 0=ch at *
   refine zDT fun bb hb=>?_
   refine zAX (r:=[some (.int c,j0),some (.int (n:Int),0),some (.str ⟨ls.toArray⟩,j2),some (.str ⟨cs.toArray⟩,j3),some (.int (k:Nat),0),some (.int (w:Int),0)]) (by
    simp only[List.set_cons_succ,List.set_cons_zero,zF0,zB8,zBD,qC6,qE4,x_eB,x_eV,zMO,zB0,zBM,qAn,qAo,zA0,hlen,zA4,d1]
    rfl) ?_
   subst hb;refine zDT fun bb hb=>?_
   refine zAX (r:=[some (.int (c/(ls.length:Int)+7*(k:Int)),1),some (.int (n:Int),0),some (.str ⟨ls.toArray⟩,j2),some (.str ⟨cs.toArray⟩,j3),some (.int (k:Nat),0),some (.int (w:Int),0)]) (by
    simp only[zF0,zB8,zBD,qC6,x_eB,x_eV,x_eC,zMO,zB0,zBM,qAn,qAo,zA0,hlen,zA4,d2,m1,zVY]
    rfl) ?_
   subst hb;refine zDT fun bb hb=>?_
   refine zAX (r:=[some (.int (c/(ls.length:Int)+7*(k:Int)),1),some (.int (n:Int),0),some (.str ⟨ls.toArray⟩,j2),some (.str ⟨(cs++[ch]).toArray⟩,1),some (.int (k:Nat),0),some (.int (w:Int),0)]) (by
    simp only[zF0,zB8,zBD,qC6,x_eB,x_eV,qAn,qAo,zA0,i1,zA4,a1]
    rfl) ?_
   subst hb;refine zAX (r:=[some (.int (c/(ls.length:Int)+7*(k:Int)),1),some (.int (n:Int),0),some (.str ⟨(ls.take w++ls.drop (w+1)).toArray⟩,1),some (.str ⟨(cs++[ch]).toArray⟩,1),some (.int (k:Nat),0),some (.int (w:Int),0)]) (by
    simp[s1,s2,a2,-zZ6]) ⟨_,_,_,_,_,_,_,_,rfl,?_,by simp[hc],by lia,by simp;lia⟩
   have hpp:(cs++[ch]++(ls.take w++ls.drop (w+1))).Perm (cs++ls):=by
    rw[qBl];refine qDm cs ?_;have e:ls.take w++ls.drop (w+1)=ls.eraseIdx w:=(List.eraseIdx_eq_take_drop_succ ls w).symm;have hg:ch=ls[w]:=by rw[<- hch,qA0,qA2 hwl];rfl
    rw[e,hg];exact(zFJ ls hwl).symm
   exact hpp.nodup_iff.mpr hp
  ·obtain⟨c,ls,cs,j0,j2,j3,o4,o5,rfl,hp,hc,h3,hl⟩:=h;exact⟨c,ls,cs,j0,j2,j3,o4,o5,rfl,hp,hc,h3⟩
 rintro r ⟨c,ls,cs,j0,j2,j3,o4,o5,rfl,hp,hc,h3⟩
 refine .inr ⟨.str ⟨cs.toArray⟩,?_,cs,rfl,(qCr.mp hp).1,hc⟩;simp[sRetV]
 lia
theorem zFI{α:Type}:∀(l:List α){i:Nat}(h:i<l.length),l.Perm (l[i]::l.eraseIdx i)
 |a::r,0,h=>by simp
 |a::r,i+1,h=>by
  have:=zFI r (i:=i) (by simpa using h)
  simp only[qEt,qD8];exact(this.cons a).trans (qFc _ _ _)
@[simp] theorem x_eNew0(c:Str)(ρ:Rh):za8 c ρ=okR (.ins c []):=rfl
@[simp] theorem x_eNew(c:Str)(fl:List Str)(am:AM)(ρ:Rh):eNew c fl am ρ=zA2 (am ρ) fun ds=>match svsD ds with
 |some vs=>if vs.length=fl.length then okR (.ins c (fl.zip vs))else none
 |none=>none:=rfl
@[simp] theorem x_eFld(hs:List Str)(f:Str)(e:EM)(ρ:Rh):eFld hs f e ρ=zA2 (e ρ) fun d=>match d with
 |.ins c fs=>if c∈hs then(match fs.lookup f with|some v=>okR (dSv v)|none=>none)else none
 |_=>none:=rfl
@[simp] theorem x_eMeth(tb:List (Str×FM))(m:Str)(e:EM)(am:AM)(ρ:Rh):za9 tb m e am ρ=zA2 (e ρ) fun d=>match d with
 |.ins c fs=>match tb.lookup c with
  |some g=>match fs.lookup m with
   |none=>zA2 (am ρ) fun ds=>g (d::ds)
   |some _=>none
  |none=>none
 |_=>none:=rfl
@[simp] theorem x_eIsO(ys ns:List Str)(e:EM)(ρ:Rh):eIsO ys ns e ρ=zA2 (e ρ) fun d=>match d with
 |.ins c _=>if c∈ys then okR (.bl true)else if c∈ns then okR (.bl false)else none
 |_=>none:=rfl
@[simp] theorem v_dins(c:Str)(fs:List (Str×Sv)):(Dt.ins c fs).dep=1000:=rfl
theorem zMQ{cs:List Nat}{x:Nat}(h:cs.count x=2):∃A B C:List Nat,cs=A++x::(B++x::C)/\x∉A/\x∉B/\x∉C:=by
 have h1:x∈cs:=qE6.mp (by lia);obtain⟨A,R,rfl,hA⟩:=qE5 h1;rw[qBz,qBt.mpr hA,qCw]at h;have h2:x∈R:=qE6.mp (by lia);obtain⟨B,C,rfl,hB⟩:=qE5 h2;rw[qBz,qBt.mpr hB,qCw]at h;exact⟨A,B,C,rfl,hA,hB,qBt.mp (by lia)⟩
theorem zPL{A R:List Nat}{x:Nat}(h:x∉A):(A++x::R).idxOf x=A.length:=by
 rw[qCu,if_neg h,List.idxOf_cons_self]
 lia
theorem zR1{A B C:List Nat}{x:Nat}(hC:x∉C):rfindD (.str ⟨(A++x::(B++x::C)).toArray⟩) [sgn x]=some (.int ((A.length+1+B.length:Nat):Int)):=by
 have hr:(A++x::(B++x::C)).reverse=C.reverse++x::(B.reverse++x::A.reverse):=by simp
 have hp:posC x (A++x::(B++x::C)).reverse=some C.length:=by
  rw[hr,zHB (by simp),zPL (by simpa using hC),List.length_reverse]
 show some (Dt.int (match lastC x (A++x::(B++x::C))with|some i=>(i:Int)|none=>-1))=_;unfold lastC;rw[hp];show some (Dt.int (((A++x::(B++x::C)).length-1-C.length:Nat):Int))=_
 congr 3
 simp
 lia
theorem len1(x:Nat):lenD [sgn x]=some (.int 1):=zD1 (cs:=[x]) (by simp)
theorem zJG{ls cs:List Nat}(hp:cs.Perm (ls++ls))(hn:ls.Nodup){x:Nat}(hx:x∈cs):cs.count x=2:=by
 have hl:x∈ls:=by have:=hp.mem_iff.mp hx;simpa using this
 rw[hp.count_eq,qBz,qI3 hn,if_pos hl]
theorem zRO{P:Nat->Prop}:∀(n:Nat),P n->∃p,p<=n/\P p/\∀q,q<p->¬P q:=by
 intro n
 induction n using qGu with
 |ind n ih=>
  intro h
  by_cases hq:∃q,q<n/\P q
  ·obtain⟨q,h1,h2⟩:=hq;obtain⟨p,h3,h4,h5⟩:=ih q h1 h2;exact⟨p,by lia,h4,h5⟩
  ·exact⟨n,qA8 _,h,fun q h1 h2=>hq ⟨q,h1,h2⟩⟩
noncomputable def itr(f:Nat->Nat):Nat->Nat->Nat
 |0,x=>x
 |k+1,x=>f (itr f k x)
theorem zDZ{f:Nat->Nat}{M:Nat}(hf:∀x,x<M->f x<M){x:Nat}(hx:x<M):∀k,itr f k x<M
 |0=>hx
 |k+1=>hf _ (zDZ hf hx k)
theorem zM6{f:Nat->Nat}{M:Nat}(hf:∀x,x<M->f x<M)(hi:∀x y,x<M->y<M->f x=f y->x=y){x:Nat}(hx:x<M):∀i d,itr f i x=itr f (i+d) x->itr f d x=x
 |0,d,h=>by rw[qBo]at h;exact h.symm
 |i+1,d,h=>by
  rw[show i+1+d=(i+d)+1 by lia]at h;exact zM6 hf hi hx i d (hi _ _ (zDZ hf hx i) (zDZ hf hx (i+d)) h)
theorem zJ1:∀l:List Nat,¬l.Nodup->∃i j,i<j/\j<l.length/\l.getD i 0=l.getD j 0
 |[],h=>absurd qFb h
 |a::l,h=>by
  by_cases ha:a∈l
  ·obtain⟨j,hj,e⟩:=List.getElem_of_mem ha;exact⟨0,j+1,by lia,by simp;lia,by simp[hj,e]⟩
  ·have:¬l.Nodup:=fun hn=>h (qBi.mpr ⟨ha,hn⟩)
   obtain⟨i,j,h1,h2,h3⟩:=zJ1 l this;exact⟨i+1,j+1,by lia,by simp;lia,by simpa using h3⟩
theorem zFR:∀{a b:List Nat},a.Nodup->(∀x∈a,x∈b)->a.length<=b.length
 |[],b,_,_=>by simp
 |x::a,b,hn,h=>by
  obtain⟨h1,h2⟩:=qBi.mp hn;have hx:=h x (by simp)
  have:=zFR (b:=b.erase x) h2 fun y hy=>by
   have hne:y≠x:=fun z=>h1 (z▸hy)
   exact(qDu hne).mpr (h y (by simp[hy]))
  rw[qD2 hx]at this
  have:=qDf hx
  simp only[qAu]
  lia
theorem zGT{f:Nat->Nat}{M:Nat}(hf:∀x,x<M->f x<M)(hi:∀x y,x<M->y<M->f x=f y->x=y){x:Nat}(hx:x<M):∃p,1<=p/\p<=M/\itr f p x=x/\∀q,1<=q->q<p->itr f q x≠x:=by
 have hn:¬((qA9 (M+1)).map fun k=>itr f k x).Nodup:=fun hn=>by
  have:=zFR (b:=qA9 M) hn fun y hy=>by
   obtain⟨k,_,rfl⟩:=qAe.mp hy;exact qB0.mpr (zDZ hf hx k)
  simp at this
  lia
 obtain⟨i,j,h1,h2,h3⟩:=zJ1 _ hn;simp at h2;have e:itr f i x=itr f j x:=by
  simpa[show i<M+1 by lia,h2]using h3
 have hb:itr f (j-i) x=x:=zM6 hf hi hx i (j-i) (by rw[show i+(j-i)=j by lia];exact e);obtain⟨p,h4,h5,h6⟩:=zRO (P:=fun p=>1<=p/\itr f p x=x) (j-i) ⟨by lia,hb⟩;exact⟨p,h5.1,by lia,h5.2,fun q h7 h8 h9=>h6 q h8 ⟨h7,h9⟩⟩
noncomputable def jn(cs:List Nat)(e:Nat):Nat:=e/4*4+(e%4^^^(cs.getD (e/4) 0+1))
theorem xor4:∀s,s<4->∀w,w<3->(s^^^(w+1))<4/\((s^^^(w+1))^^^(w+1))=s:=by decide
theorem zDO{cs:List Nat}{n e:Nat}(hl:cs.length=n)(hw:∀c∈cs,c<3)(he:e<4*n):jn cs e<4*n/\jn cs (jn cs e)=e:=by
 have hc:cs.getD (e/4) 0<3:=zHS hw (by lia);obtain⟨h1,h2⟩:=xor4 (e%4) (by lia) _ hc;have hq:jn cs e/4=e/4:=by unfold jn;omega
 have hr:jn cs e%4=(e%4^^^(cs.getD (e/4) 0+1)):=by unfold jn;omega
 refine⟨by unfold jn;lia,?_⟩;show jn cs e/4*4+(jn cs e%4^^^(cs.getD (jn cs e/4) 0+1))=e;rw[hq,hr,h2]
 lia
noncomputable def nt(ts:List Nat)(e:Nat):Nat:=ts.getD e 0
structure NetN(ts:List Nat)(M:Nat):Prop where
 len:ts.length=M
 lt:∀e,e<M->nt ts e<M
 inv:∀e,e<M->nt ts (nt ts e)=e
def stp(ts cs:List Nat)(e:Nat):Nat:=nt ts (jn cs e)
theorem zF7{ts cs:List Nat}{n:Nat}(hN:NetN ts (4*n))(hl:cs.length=n)(hw:∀c∈cs,c<3):(∀x,x<4*n->stp ts cs x<4*n)/\∀x y,x<4*n->y<4*n->stp ts cs x=stp ts cs y->x=y:=by
 refine⟨fun x hx=>hN.lt _ (zDO hl hw hx).1,fun x y hx hy e=>?_⟩;have h1:=congrArg (nt ts) e;unfold stp at h1;rw[hN.inv _ (zDO hl hw hx).1,hN.inv _ (zDO hl hw hy).1]at h1;have h2:=congrArg (jn cs) h1;rw[(zDO hl hw hx).2,(zDO hl hw hy).2]at h2;exact h2
def orb(ts cs:List Nat)(e:Nat)(k:Nat):List Nat:=(qA9 k).flatMap fun i=>[itr (stp ts cs) i e,jn cs (itr (stp ts cs) i e)]
theorem zHF(ts cs:List Nat)(e k:Nat):orb ts cs e (k+1)=orb ts cs e k++[itr (stp ts cs) k e,jn cs (itr (stp ts cs) k e)]:=by
 unfold orb;rw[qC5,List.flatMap_append];simp
theorem zFO(ts cs:List Nat)(e:Nat):∀k,(orb ts cs e k).length=2*k
 |0=>rfl
 |k+1=>by rw[zHF,qAr,zFO ts cs e k];simp;lia
theorem bx4:∀s:Nat,s<4->∀w:Nat,w<3->qJz (s:Int) ((w:Int)+1)=((s^^^(w+1):Nat):Int):=by decide
theorem zKS{w s:Nat}(hw:w<3)(hs:s<4):zHL [.int (w:Int),.int (s:Int)]=okR (.int ((s^^^(w+1):Nat):Int)):=by
 refine zBN rfl ?_;show zI3 [some (.int (w:Int),0),some (.int (s:Int),0)]=_;unfold zI3;simp[bx4 s hs w hw]
theorem zFV{cs:List Nat}{n e:Nat}(hl:cs.length=n)(hn:n<=1000)(hw:∀c∈cs,c<3)(he:e<4*n):zB3 [rowD (numL cs),.int (e:Int)]=okR (.int (jn cs e:Nat)):=by
 have hx:=zPA cs (e/4) (by lia);have hc:cs.getD (e/4) 0<3:=zHS hw (by lia);have hj:=zKS hc (show e%4<4 by lia);have e1:(e:Int)/4=((e/4:Nat):Int):=by lia
 have e2:(e:Int)%4=((e%4:Nat):Int):=by lia
 refine zBN rfl ?_;show zCY [some (rowD (numL cs),0),some (.int (e:Int),0),none]=_;unfold zCY
 generalize rowD (numL cs)=C at hx ⊢
 refine zBZ fun bb hb=>zAX (r:=[some (C,0),some (.int (e:Int),0),some (.int ((e/4:Nat):Int),0)]) (by simp) ?_
 subst hb;have m1:mulD (.int ((e/4:Nat):Int)) (.int 4)=some (.int (((e/4:Nat):Int)*4)):=zRJ (by lia) (by lia);have hm:modD (.int (e:Int)) (.int 4)=some (.int ((e%4:Nat):Int)):=by simp
 have ejn:((e/4:Nat):Int)*4+((e%4^^^(cs.getD (e/4) 0+1):Nat):Int)=((jn cs e:Nat):Int):=by unfold jn;lia
 generalize((e/4:Nat):Int)=q at *
 generalize((e%4:Nat):Int)=r at *
 simp only[zNN,x_eB,x_eV,x_eC,zE8,zB0,zBM,zB8,zBD,qC6,qE4,qAn,qAo,zA0,m1,hm,hx,hj,zA4,zVY,ejn];simp
theorem zUX{l:List Nat}{x:Nat}:ixD (rowD (numL (l++[x]))) (.int (-1))=some (.int (x:Int)):=by
 show itA ((numL (l++[x])).map Dt.int) (-1)=_;unfold itA ixA;simp[numL];rw[if_pos (by lia)];simp;rw[show(-1+((l.length:Int)+1)).toNat=l.length by lia];simp
theorem zMZ{ts cs:List Nat}{n e:Nat}(hN:NetN ts (4*n))(hl:cs.length=n)(hn:n<=100)(hw:∀c∈cs,c<3)(he:e<4*n){p:Nat}(p1:1<=p)(p2:p<=4*n)(p3:itr (stp ts cs) p e=e)(p4:∀q,1<=q->q<p->itr (stp ts cs) q e≠e) :
  zCB [rowD (numL ts),rowD (numL cs),.int (e:Int)]=okR (rowD (numL (orb ts cs e p))):=by
 obtain⟨st1,_⟩:=zF7 hN hl hw;have hlt:∀k,itr (stp ts cs) k e<4*n:=zDZ st1 he;have hjn:∀k,zB3 [rowD (numL cs),.int ((itr (stp ts cs) k e:Nat):Int)]=okR (.int (jn cs (itr (stp ts cs) k e):Nat)):=fun k=>zFV hl (by lia) hw (hlt k)
 have hnt:∀k,ixD (rowD (numL ts)) (.int ((jn cs (itr (stp ts cs) k e):Nat):Int))=some (.int ((itr (stp ts cs) (k+1) e:Nat):Int)):=fun k=>zPA ts _ (by rw[hN.len];exact(zDO hl hw (hlt k)).1)
 have hlast:∀k,ixD (rowD (numL (orb ts cs e (k+1)))) (.int (-1))=some (.int ((jn cs (itr (stp ts cs) k e):Nat):Int)):=fun k=>by
  rw[zHF,show orb ts cs e k++[itr (stp ts cs) k e,jn cs (itr (stp ts cs) k e)]=(orb ts cs e k++[itr (stp ts cs) k e])++[jn cs (itr (stp ts cs) k e)] by simp];exact zUX
 have hdr:∀k,(rowD (numL (orb ts cs e k))).dep=1:=fun k=>zHY _
 have hext:∀k:Nat,k<=1000->∀o4,sExt 3 0 (eLst (aCons (eV 4) (aCons (eCall zB3 (aCons (eV 1) (aCons (eV 4) aNil))) aNil))) [some (rowD (numL ts),0),some (rowD (numL cs),0),some (.int (e:Int),0),some (rowD (numL (orb ts cs e (k+1))),1),some (.int ((itr (stp ts cs) (k+1) e:Nat):Int),o4)]=okR (.nx [some (rowD (numL ts),0),some (rowD (numL cs),0),some (.int (e:Int),0),some (rowD (numL (orb ts cs e (k+2))),1),some (.int ((itr (stp ts cs) (k+1) e:Nat):Int),o4)]):=by
  intro k hk o4;have hj:=hjn (k+1);have ol:=zFO ts cs e (k+1);have es:=zHF ts cs e (k+1)
  generalize rowD (numL cs)=C at hj ⊢
  generalize rowD (numL ts)=T
  generalize hx:itr (stp ts cs) (k+1) e=x at hj es ⊢
  generalize hy:jn cs x=y at hj es ⊢
  rw[show k+1+1=k+2 from rfl]at es;rw[es];unfold rowD numL sExt;simp[hj,ol]
  lia
 have key:zEK [some (rowD (numL ts),0),some (rowD (numL cs),0),some (.int (e:Int),0),none,none]=okR (.rt (rowD (numL (orb ts cs e p)))):=by
  unfold zEK;have h0:=hjn 0;refine zBZ fun bb hb=>zAX (r:=[some (rowD (numL ts),0),some (rowD (numL cs),0),some (.int (e:Int),0),some (rowD (numL (orb ts cs e 1)),1),none]) (by
   have eo:rowD (numL (orb ts cs e 1))=.lst [.int (e:Int),.int ((jn cs e:Nat):Int)]:=rfl
   replace h0:zB3 [rowD (numL cs),.int (e:Int)]=okR (.int ((jn cs e:Nat):Int)):=h0
   rw[eo]
   generalize rowD (numL cs)=C at h0 ⊢
   generalize rowD (numL ts)=T
   simp[h0]) ?_
  subst hb;refine zBZ fun bb hb=>?_
  refine zRF (fun r=>∃k o4,k+1<=p/\r=[some (rowD (numL ts),0),some (rowD (numL cs),0),some (.int (e:Int),0),some (rowD (numL (orb ts cs e (k+1))),1),o4]) (fun r=>1000-zZY 3 r) (fun r=>∃o4,r=[some (rowD (numL ts),0),some (rowD (numL cs),0),some (.int (e:Int),0),some (rowD (numL (orb ts cs e p)),1),o4]) ⟨0,none,by lia,rfl⟩ ?_ ?_ ?_
  ·exact qCl (Nat.sub_le _ _) (by lia)
  ·rintro r ⟨k,o4,hk,rfl⟩
   have c1:=hlast k;have c2:=hnt k;have hx1:itr (stp ts cs) (k+1) e=e↔k+1=p:=by
    constructor
    ·intro h
     by_cases hkp:k+1=p
     ·exact hkp
     ·exact absurd h (p4 (k+1) (by lia) (by lia))
    ·intro h;rw[h];exact p3
   have hcond:(tB (eB neD (eB ixD (eV 0) (eB ixD (eV 3) (eU negD (eC (.int 1))))) (eV 2))) (full [some (rowD (numL ts),0),some (rowD (numL cs),0),some (.int (e:Int),0),some (rowD (numL (orb ts cs e (k+1))),1),o4])=okR (decide (¬k+1=p)):=by
    have hd:decide (((itr (stp ts cs) (k+1) e:Nat):Int)=(e:Int))=decide (k+1=p):=by
     by_cases h:k+1=p
     ·have:=hx1.mpr h
      rw[this];simp[h]
     ·have:¬itr (stp ts cs) (k+1) e=e:=fun z=>h (hx1.mp z)
      simp[h]
      lia
    generalize rowD (numL (orb ts cs e (k+1)))=Z at c1 ⊢
    generalize rowD (numL cs)=C
    generalize rowD (numL ts)=T at c2 ⊢
    simp[c1,c2,hd]
   rw[hcond]
   by_cases hkp:k+1=p
   ·refine .inl ⟨by simp[hkp],o4,?_⟩;rw[hkp]
   ·refine .inr ⟨by simp[hkp],?_⟩;refine zDT fun bb hb=>zAX (r:=[some (rowD (numL ts),0),some (rowD (numL cs),0),some (.int (e:Int),0),some (rowD (numL (orb ts cs e (k+1))),1),some (.int ((itr (stp ts cs) (k+1) e:Nat):Int),0)]) (by
     generalize rowD (numL (orb ts cs e (k+1)))=Z at c1 ⊢
     generalize rowD (numL cs)=C
     generalize rowD (numL ts)=T at c2 ⊢
     simp[c1,c2]) ?_
    subst hb;refine zAX (hext k (by lia) 0) ⟨⟨k+1,_,by lia,rfl⟩,?_⟩;have l1:=zFO ts cs e (k+1);have l2:=zFO ts cs e (k+2);show 1000-((numL (orb ts cs e (k+2))).map Dt.int).length<1000-((numL (orb ts cs e (k+1))).map Dt.int).length;simp[numL,l1,l2]
    lia
  ·rintro r ⟨o4,rfl⟩
   subst hb
   have:=hdr p
   generalize rowD (numL (orb ts cs e p))=Z at this ⊢
   generalize rowD (numL cs)=C
   generalize rowD (numL ts)=T
   simp[this]
 exact zBN rfl key
abbrev Kv:=List (Sum Int Str×Sw)
def zDL(D:Kv)(l:List Nat):Kv:=l.foldl (fun(m:Kv)(x:Nat)=>putW m (.inl (x:Int)) (.bl true)) D
theorem zLQ(D:Kv)(k:Sum Int Str)(v:Sw):(putW D k v).length<=D.length+1:=by
 unfold putW
 split
 ·simp
 ·simp
theorem zRM(l:List Nat):∀D:Kv,(zDL D l).length<=D.length+l.length:=by
 induction l with
 |nil=>intro D;exact qA8 _
 |cons x r ih=>
  intro D;have h1:=ih (putW D (.inl (x:Int)) (.bl true));have h2:=zLQ D (.inl (x:Int)) (.bl true)
  show(zDL (putW D (.inl (x:Int)) (.bl true)) r).length<=_
  simp only[qAu]
  lia
def rdS(f:Nat->List Nat):Nat->List (List Nat)×Kv
 |0=>([],[])
 |k+1=>if(getW (rdS f k).2 (.inl (k:Int))).isSome=true then rdS f k else((rdS f k).1++[f k],zDL (rdS f k).2 (f k))
theorem zKF{f:Nat->List Nat}{B:Nat}(hf:∀k,(f k).length<=B):∀k,(rdS f k).1.length<=k/\(rdS f k).2.length<=k*B
 |0=>by simp[rdS]
 |k+1=>by
  obtain⟨h1,h2⟩:=zKF hf k;have hb:=hf k;have hm:=zRM (f k) (rdS f k).2;unfold rdS
  split
  ·exact⟨by lia,by rw[qEx];lia⟩
  ·exact⟨by simp;lia,by show(zDL (rdS f k).2 (f k)).length<=_;rw[qEx];lia⟩
def rowsD(R:List (List Nat)):Dt:=.lst (R.map fun l=>rowD (numL l))
theorem zLJ:∀R:List (List Nat),Dt.depL (R.map fun l=>rowD (numL l))<=1
 |[]=>by simp[Dt.depL]
 |l::R=>by
  have h:=zLJ R
  have:=zHY (numL l)
  simp only[qAk];rw[Dt.depL]
  lia
theorem zO6(R:List (List Nat)):(rowsD R).dep<=2:=by
 have:=zLJ R
 unfold rowsD;rw[Dt.dep]
 lia
theorem zQJ{r:Ro}{i v:Nat}{R:List (List Nat)}{l:List Nat}{lv lx:Nat}{e:EM}(hi:r[i]?=some (some (rowsD R,lv+1)))(hv:r[v]?=some (some (rowD (numL l),lx)))(hne:v≠i)(he:∀ρ:Rh,ρ[v]?=some (some (rowD (numL l)))->e ρ=okR (rowD (numL l)))(hz:R.length<=1000) :
  sAppF i [v] e r=okR (.nx (((r.set i (some (rowsD R,1))).set v (some (rowD (numL l),0))).set i (some (rowsD (R++[l]),1)))):=by
 have hil:i<r.length:=by
  have:=(qA3.mp hi).1
  exact this
 have hvl:v<r.length:=(qA3.mp hv).1;have h1:low i r=r.set i (some (rowsD R,1)):=by
  unfold low;rw[hi];rfl
 have h2:frzAt [v] (r.set i (some (rowsD R,1)))=(r.set i (some (rowsD R,1))).set v (some (rowD (numL l),0)):=by
  show frz1 v _=_;unfold frz1;rw[qAt (qCe hne),hv]
 unfold sAppF;rw[h1,h2];have h3:((r.set i (some (rowsD R,1))).set v (some (rowD (numL l),0)))[i]?=some (some (rowsD R,1)):=by
  rw[qAt hne,qAm hil]
 rw[h3];have h4:(frz ((r.set i (some (rowsD R,1))).set v (some (rowD (numL l),0))))[v]?=some (some (rowD (numL l))):=by
  unfold frz;rw[qAh,qAm (by simpa using hvl)];simp
 show zA2 (e _) _=_;rw[he _ h4,zA0,if_pos (by simp;lia)]
 congr 5
 simp[rowsD]
theorem zFN:∀(l:List Nat),pairsD (l.map fun x:Nat=>Dt.tup [.int (x:Int),.bl true])=some (l.map fun x:Nat=>((qDv (x:Int):Sum Int Str),Sw.bl true))
 |[]=>rfl
 |x::l=>by
  simp only[qAk];unfold pairsD;rw[zFN l];rfl
theorem zND(l:List Nat)(D:Kv):(l.map fun x:Nat=>((qDv (x:Int):Sum Int Str),Sw.bl true)).foldl (fun m p=>putW m p.1 p.2) D=zDL D l:=by
 unfold zDL;rw[List.foldl_map]
theorem zKD{ts cs:List Nat}{n:Nat}(hN:NetN ts (4*n))(hn:n<=30){f:Nat->List Nat}(hf:∀k,(f k).length<=8*n)
  (hr:∀e,e<4*n->zCB [rowD (numL ts),rowD (numL cs),.int (e:Int)]=okR (rowD (numL (f e)))) :
  zCG [rowD (numL ts),rowD (numL cs)]=okR (rowsD (rdS f (4*n)).1):=by
 have hlen:lenD [rowD (numL ts)]=some (.int ((4*n:Nat):Int)):=by
  show some (Dt.int (((numL ts).map Dt.int).length:Int))=_;rw[qAi];unfold numL;rw[qAi,hN.len]
 have key:zDQ [some (rowD (numL ts),0),some (rowD (numL cs),0),none,none,none,none]=okR (.rt (rowsD (rdS f (4*n)).1)):=by
  unfold zDQ;refine zBZ fun bb hb=>zAX (r:=[some (rowD (numL ts),0),some (rowD (numL cs),0),some (.lst [],9),none,none,none]) (by
   generalize rowD (numL cs)=C
   generalize rowD (numL ts)=T
   simp) ?_
  subst hb;refine zBZ fun bb hb=>zAX (r:=[some (rowD (numL ts),0),some (rowD (numL cs),0),some (.lst [],9),some (.dct [],1),none,none]) rfl ?_
  subst hb;refine zBZ fun bb hb=>?_
  rw[zGW,show iR1 (aCons (eBi lenD (aCons (eV 0) aNil)) aNil) (full [some (rowD (numL ts),0),some (rowD (numL cs),0),some (.lst [],9),some (.dct [],1),none,none])=okR (nums 0 (4*n)) from zJX (n:=4*n) (by
   generalize rowD (numL cs)=C
   generalize rowD (numL ts)=T at hlen ⊢
   simp only[zB0,zBM,zMO,x_eV,zB8,zBD,qC6,qE4,qAo,zA0,hlen,zA4]) (by lia),zA0]
  refine zRG (fun k r=>∃lv o4 o5,(lv=0\/(lv=8/\(rdS f k).1=[]))/\r=[some (rowD (numL ts),0),some (rowD (numL cs),0),some (rowsD (rdS f k).1,lv+1),some (.dct (rdS f k).2,1),o4,o5]) ⟨8,none,none,.inr ⟨rfl,rfl⟩,rfl⟩ (fun k hk r hr=>?_) fun r hr=>?_
  ·obtain⟨lv,o4,o5,hlv,rfl⟩:=hr;obtain⟨l1,l2⟩:=zKF hf k;have hfk:=hf k;show nxR (sIf _ _ _ [some (rowD (numL ts),0),some (rowD (numL cs),0),some (rowsD (rdS f k).1,lv+1),some (.dct (rdS f k).2,1),some (.int (k:Int),0),o5]) _;have hrk:=hr k hk;have hcond:(tB (eB (dinD true) (eV 4) (eV 3))) (full [some (rowD (numL ts),0),some (rowD (numL cs),0),some (rowsD (rdS f k).1,lv+1),some (.dct (rdS f k).2,1),some (.int (k:Int),0),o5])=okR (!(getW (rdS f k).2 (.inl (k:Int))).isSome):=rfl;unfold sIf;rw[hcond,zA0]
   by_cases hg:(getW (rdS f k).2 (.inl (k:Int))).isSome=true
   ·rw[hg];have e1:rdS f (k+1)=rdS f k:=by rw[rdS,if_pos hg]
    refine zAX (r:=[some (rowD (numL ts),0),some (rowD (numL cs),0),some (rowsD (rdS f k).1,lv+1),some (.dct (rdS f k).2,1),some (.int (k:Int),0),o5]) rfl ⟨lv,_,_,?_,by rw[e1]⟩;rw[e1];exact hlv
   ·have hg':(getW (rdS f k).2 (.inl (k:Int))).isSome=false:=by simpa using hg
    have e1:rdS f (k+1)=((rdS f k).1++[f k],zDL (rdS f k).2 (f k)):=by rw[rdS,if_neg hg]
    rw[hg'];rw[if_pos (by rfl)];have hdl:=zHY (numL (f k));refine zDT fun bb hb=>zAX (r:=[some (rowD (numL ts),0),some (rowD (numL cs),0),some (rowsD (rdS f k).1,lv+1),some (.dct (rdS f k).2,1),some (.int (k:Int),0),some (rowD (numL (f k)),1)]) (by
     generalize rowD (numL (f k))=Z at hrk hdl ⊢
     generalize rowD (numL cs)=C at hrk ⊢
     generalize rowD (numL ts)=T at hrk ⊢
     generalize rowsD (rdS f k).1=RR
     generalize Dt.dct (rdS f k).2=DD
     simp[hrk,hdl]) ?_
    subst hb;refine zDT fun bb hb=>zAX (zQJ (i:=2) (v:=5) (R:=(rdS f k).1) (l:=f k) (lv:=lv) (lx:=1) rfl rfl (by decide) (fun ρ hρ=>by show(match ρ[5]? with|some (some d)=>okR d|_=>none)=_;rw[hρ]) (by lia)) ?_
    subst hb;show nxR (sDupd 3 _ [some (rowD (numL ts),0),some (rowD (numL cs),0),some (rowsD ((rdS f k).1++[f k]),1),some (.dct (rdS f k).2,1),some (.int (k:Int),0),some (rowD (numL (f k)),0)]) _;have hc:eComp (iSq (eV 5)) 1 (.one 6) Mi.tYes (eTup (aCons (eV 6) (aCons (eC (.bl true)) aNil))) (full [some (rowD (numL ts),0),some (rowD (numL cs),0),some (rowsD ((rdS f k).1++[f k]),1),some (.dct (rdS f k).2,1),some (.int (k:Int),0),some (rowD (numL (f k)),0)])=okR (.lst ((f k).map fun x:Nat=>Dt.tup [.int (x:Int),.bl true])):=by
     refine zBS (ρ:=full [some (rowD (numL ts),0),some (rowD (numL cs),0),some (rowsD ((rdS f k).1++[f k]),1),some (.dct (rdS f k).2,1),some (.int (k:Int),0),some (rowD (numL (f k)),0)]) (c:=tYes) (i:=6) (fun x:Nat=>Dt.int (x:Int)) (fun x:Nat=>Dt.tup [.int (x:Int),.bl true]) (f k) rfl rfl (fun x _=>?_) _ ?_ (by lia)
     ·generalize rowD (numL (f k))=Z
      generalize rowD (numL cs)=C
      generalize rowD (numL ts)=T
      generalize rowsD ((rdS f k).1++[f k])=RR
      generalize Dt.dct (rdS f k).2=DD
      simp
     ·show okR ((numL (f k)).map Dt.int)=_;unfold numL;rw[qB3];rfl
    refine zAX (r:=[some (rowD (numL ts),0),some (rowD (numL cs),0),some (rowsD ((rdS f k).1++[f k]),1),some (.dct (zDL (rdS f k).2 (f k)),1),some (.int (k:Int),0),some (rowD (numL (f k)),0)]) ?_ ⟨0,_,_,.inl rfl,by rw[e1]⟩;show zA2 (eComp _ _ _ _ _ _) _=_;rw[hc,zA0];dsimp only;rw[zFN];dsimp only;have h8:(rdS f k).2.length<=120*240:=qAl l2 (qH6 (by lia) (by lia));rw[if_pos (by rw[qAi];lia),zND];rfl
  ·obtain⟨lv,o4,o5,hlv,rfl⟩:=hr;subst hb;have hd:=zO6 (rdS f (4*n)).1
   rcases hlv with rfl|⟨rfl,he⟩
   ·generalize rowsD (rdS f (4*n)).1=RR at hd ⊢
    generalize rowD (numL cs)=C
    generalize rowD (numL ts)=T
    simp
   ·rw[he];show sRetV 1 2 [some (rowD (numL ts),0),some (rowD (numL cs),0),some (.lst [],9),some (.dct (rdS f (4*n)).2,1),o4,o5]=okR (.rt (.lst []))
    generalize rowD (numL cs)=C
    generalize rowD (numL ts)=T
    simp
 exact zBN rfl key
structure Seats(R:List (List Nat))(n:Nat):Prop where
 len:R.length=n
 per:∀l∈R,l.Perm [0,1,2,3]
section
variable{R:List (List Nat)}{row:List Nat}{n:Nat}(hS:Seats R n)(tw:Twice n row)
include hS
include tw
omit hS in
omit hS in
omit hS in
omit hS in
omit hS tw in
omit hS tw in
end
theorem zM8(D:Kv)(k q:Sum Int Str)(v:Sw):getW (putW D k v) q=if q=k then some v else getW D q:=by
 unfold putW getW
 by_cases h:(D.any fun p=>decide (p.1=k))=true
 ·rw[if_pos h,List.find?_map];have e:((fun p:Sum Int Str×Sw=>decide (p.1=q))∘fun p=>if p.1=k then(p.1,v)else p)=fun p:Sum Int Str×Sw=>decide (p.1=q):=by
   funext p
   show decide ((if p.1=k then(p.1,v)else p).1=q)=decide (p.1=q)
   split<;>rfl
  rw[e];cases hf:D.find? fun p:Sum Int Str×Sw=>decide (p.1=q)with
  |none=>
   have hq:¬q=k:=fun z=>by
    subst z;obtain⟨x,hx,hd⟩:=qDq.mp h
    have:=qFs.mp hf x hx
    exact this hd
   rw[if_neg hq];rfl
  |some x=>
   have hx:x.1=q:=by have:=qGq hf;simpa using this
   by_cases hq:q=k
   ·rw[if_pos hq];simp[hx,hq]
   ·rw[if_neg hq];simp[hx,hq]
 ·rw[if_neg h,List.find?_append];have hn:∀x∈D,¬x.1=k:=fun x hx e=>h (qDq.mpr ⟨x,hx,by simpa using e⟩)
  by_cases hq:q=k
  ·subst hq
   have:(D.find? fun p:Sum Int Str×Sw=>decide (p.1=q))=none:=qFs.mpr fun x hx=>by simpa using hn x hx
   rw[this,if_pos rfl];simp
  ·have hk:¬k=q:=fun z=>hq z.symm
   rw[if_neg hq];cases D.find? fun p:Sum Int Str×Sw=>decide (p.1=q)with
   |none=>simp[hk]
   |some x=>simp
theorem zVQ:∀s,s<4->∀w,w<3->(s^^^(w+1))≠s:=by decide
theorem za4{cs:List Nat}{n e:Nat}(hl:cs.length=n)(hw:∀c∈cs,c<3)(he:e<4*n):jn cs e≠e:=fun h=>by
 have hc:cs.getD (e/4) 0<3:=zHS hw (by lia);have h1:=zVQ (e%4) (by lia) _ hc;unfold jn at h
 lia
theorem zFW(f:Nat->Nat)(x p:Nat):∀k,itr f (k+p) x=itr f k (itr f p x)
 |0=>by rw[qBo];rfl
 |k+1=>by rw[show k+1+p=(k+p)+1 by lia];show f (itr f (k+p) x)=_;rw[zFW f x p k];rfl
section
variable{ts cs:List Nat}{n e:Nat}(hN:NetN ts (4*n))(hne:∀x,x<4*n->nt ts x≠x)(hl:cs.length=n)(hw:∀c∈cs,c<3)(he:e<4*n)
include hN hne hl hw he
theorem zUK:∀d j,itr (stp ts cs) (j+d) e≠jn cs (itr (stp ts cs) j e):=by
 obtain⟨st1,_⟩:=zF7 hN hl hw;have hlt:∀k,itr (stp ts cs) k e<4*n:=zDZ st1 he;intro d
 induction d using qGu with
 |ind d ih=>
  intro j h
  match d,ih,h with
  |0,_,h=>exact za4 hl hw (hlt j) h.symm
  |1,_,h=>
   have:itr (stp ts cs) (j+1) e=nt ts (jn cs (itr (stp ts cs) j e)):=rfl
   rw[this]at h;exact hne _ (zDO hl hw (hlt j)).1 h
  |d+2,ih,h=>
   have h1:itr (stp ts cs) (j+(d+2)) e=nt ts (jn cs (itr (stp ts cs) (j+1+d) e)):=by
    rw[show j+(d+2)=(j+1+d)+1 by lia];rfl
   rw[h1]at h;have h2:=congrArg (nt ts) h;rw[hN.inv _ (zDO hl hw (hlt _)).1]at h2;have h3:=congrArg (jn cs) h2;rw[(zDO hl hw (hlt _)).2]at h3;exact ih d (by lia) (j+1) h3
variable{p:Nat}(p3:itr (stp ts cs) p e=e)(p4:∀q,1<=q->q<p->itr (stp ts cs) q e≠e)
include p3 p4
omit hN hne hl hw he p3 p4 in
theorem orb_mem{k x:Nat}:x∈orb ts cs e k↔∃i,i<k/\(x=itr (stp ts cs) i e\/x=jn cs (itr (stp ts cs) i e)):=by
 unfold orb;simp[List.mem_flatMap]
end
theorem zNG(a:List Int)(hz:a.length<=1000):zBX [rowD a,.int (a.length:Int)]=okR (.bl true):=by
 have hl:isiD "list" (rowD a)=some (.bl true):=rfl;have hi:∀k,isiD "int" (.int k)=some (.bl true):=fun _=>rfl
 have hbo:∀k,isiD "bool" (.int k)=some (.bl false):=fun _=>rfl
 have hc:eComp (iSq (eV 0)) 1 (.one 2) Mi.tYes (eAnd (eIsi "int" (eV 2)) (eNot (eIsi "bool" (eV 2)))) [some (rowD a),some (.int (a.length:Int))]=okR (.lst (a.map fun _=>Dt.bl true)):=
  zBS Dt.int (fun _=>Dt.bl true) a rfl rfl (fun k _=>by simp[hi,hbo]) _ (by simp[rowD]) (by lia)
 have hb:=zNK a;unfold zBX zG8;refine zBN rfl (zBZ fun bb hb'=>?_);refine zAX (r:=[some (rowD a,0),some (.int (a.length:Int),0)]) (by simp[startO,hl]) ?_;subst hb';simp[hc,hb]
theorem zHK(x:Nat):∀(l:List Nat)(D:Kv),(getW (zDL D l) (.inl (x:Int))).isSome=true↔(getW D (.inl (x:Int))).isSome=true\/x∈l
 |[],D=>by simp[zDL]
 |y::l,D=>by
  show(getW (zDL (putW D (.inl (y:Int)) (.bl true)) l) (.inl (x:Int))).isSome=true↔_
  rw[zHK x l,zM8]
  by_cases h:x=y
  ·subst h;simp
  ·have:¬(qDv (x:Int):Sum Int Str)=.inl (y:Int):=fun e=>h (by injection e with e;lia)
   rw[if_neg this];simp[h]
theorem zDV(f:Nat->List Nat)(x:Nat):∀k,(getW (rdS f k).2 (.inl (x:Int))).isSome=true↔∃l∈(rdS f k).1,x∈l
 |0=>by simp[rdS,getW]
 |k+1=>by
  by_cases h:(getW (rdS f k).2 (.inl (k:Int))).isSome=true
  ·have e:rdS f (k+1)=rdS f k:=by rw[rdS,if_pos h]
   rw[e];exact zDV f x k
  ·have e:rdS f (k+1)=((rdS f k).1++[f k],zDL (rdS f k).2 (f k)):=by rw[rdS,if_neg h]
   rw[e]
   show(getW (zDL (rdS f k).2 (f k)) (.inl (x:Int))).isSome=true↔∃l∈(rdS f k).1++[f k],x∈l
   rw[zHK,zDV f x k];constructor
   ·rintro(⟨l,h1,h2⟩|h1)
    ·exact⟨l,by simp[h1],h2⟩
    ·exact⟨f k,by simp,h1⟩
   ·rintro⟨l,h1,h2⟩
    rcases qAq.mp h1 with h3|h3
    ·exact .inl ⟨l,h3,h2⟩
    ·simp at h3;subst h3;exact .inr h2
theorem zFE(f:Nat->List Nat):∀k,(∀e,e<k->e∈f e)->∀e,e<k->(getW (rdS f k).2 (.inl (e:Int))).isSome=true
 |0,_,e,he=>by lia
 |k+1,hf,e,he=>by
  by_cases h:(getW (rdS f k).2 (.inl (k:Int))).isSome=true
  ·have e1:rdS f (k+1)=rdS f k:=by rw[rdS,if_pos h]
   rw[e1]
   by_cases z:e=k
   ·subst z;exact h
   ·exact zFE f k (fun e he=>hf e (by lia)) e (by lia)
  ·have e1:rdS f (k+1)=((rdS f k).1++[f k],zDL (rdS f k).2 (f k)):=by rw[rdS,if_neg h]
   rw[e1]
   show(getW (zDL (rdS f k).2 (f k)) (.inl (e:Int))).isSome=true
   rw[zHK]
   by_cases z:e=k
   ·subst z;exact .inr (hf e (by lia))
   ·exact .inl (zFE f k (fun e he=>hf e (by lia)) e (by lia))
structure Rnds(ts cs:List Nat)(n:Nat)(RR:List (List Nat)):Prop where
 prog:zCG [rowD (numL ts),rowD (numL cs)]=okR (rowsD RR)
 law:zHM [rowD (numL ts),rowD (numL cs)]=okR (rowsD RR)
 pos:1<=RR.length
 le:RR.length<=4*n
 one:RR.length=1->∃F:List Nat,zCB [rowD (numL ts),rowD (numL cs),.int 0]=okR (rowD (numL F))/\F.length=4*n/\∀x∈F,x<4*n
theorem zOQ(cs:List Nat):((fsts cs).map fun k=>cs.getD k 0)=ords cs:=(zGK cs).symm
noncomputable def cbW(c ls O:List Nat):List Nat:=O.map fun x=>c.getD (ls.idxOf x) 0
theorem jn4(c:List Nat){p s:Nat}(hs:s<4):jn c (4*p+s)=4*p+(s^^^(c.getD p 0+1)):=by
 unfold jn;rw[show(4*p+s)/4=p by lia,show(4*p+s)%4=s by lia]
 lia
section
variable{ts C':List Nat}{n:Nat}(hN:NetN ts (4*n))(hne:∀x,x<4*n->nt ts x≠x)(hl:C'.length=n)(hw:∀c∈C',c<3)(hn:n<=10)(n1:1<=n)
include hN hne hl hw hn n1
end
end Mp
namespace FW
theorem zFT{l:List Nat}{k:Nat}(h:k<l.length):(l.eraseIdx k).length+1=l.length:=by
 rw[qCv h];lia
end FW
namespace L2
open PySem PySem.Spec PyProof.Rows
structure FunD(K:qA1)(x qual:Str)(st:Stmt)(f:Addr)(fd:qIs):Prop where
 ex:∃(oc:Value)(od:Option Addr)(dt:Addr)(kV doc pm:Value)(an:Option Addr)(cdv ct:Value)(osl:Array (Option Value))(ot:Obj)(n:Nat),
  fd=qBe x qual (zBG st) (zAY st) (zAA st) (.ref dt) kV doc pm an cdv ct/\K.lookup f=some ⟨oc,od,.func fd,osl⟩/\qCk K cdv qual=true/\K.lookup dt=some ot/\ot.data=.seq #[.none] n
 kp:qBh K (.ref f)=true
def DefD(K:qA1)(mg:Str->Option Value)(x:Str)(st:Stmt):Prop:=∃f fd,FunD K x x st f fd/\mg x=some (.ref f)
section
variable{P:qIb}{w:World}{K:qA1}{mg:Str->Option Value}{base:Heap}{x:Str}{k:Nat}{a b:Str}{N:List Str}{sp:Sp}{st:Stmt}
end
section
variable{X:Cx}{x:Str}{j k:Nat}{ps:List Str}{sp:Sp}{e:Expr}{es:List Expr}{t:TA}{p pos:Pos}{E:XK}
end
theorem mkDD{K:qA1}{h:Heap}{mg:Str->Option Value}{nm:Str}{st:Stmt}{f dt:Addr}{oc kV dc pm cd ct:Value}{od an:Option Addr}{sl:Array (Option Value)}{ot:Obj}{n:Nat}(X:K.In h)(G:h.Ns qIf mg)(a:qBr K qIf nm=some (some (.ref f)))
  (l:K.lookup f=some ⟨oc,od,.func (qBe nm nm (zBG st) (zAY st) (zAA st) (.ref dt) kV dc pm an cd ct),sl⟩) (c:qCk K cd nm=true) (k:qBh K (.ref f)=true) (l2:K.lookup dt=some ot) (e:ot.data=.seq #[.none] n):DefD K mg nm st:=
 ⟨f,_,⟨⟨oc,od,dt,kV,dc,pm,an,cd,ct,sl,ot,n,rfl,l,c,l2,e⟩,k⟩,qCt X G a⟩
end L2
namespace L3
open PySem PySem.Spec PyProof.Rows
open L2 hiding Rep RepL
section
variable{P:qIb}{w:World}{K:qA1}{mg:Str->Option Value}{base:Heap}{x:Str}{st:Stmt}{N ps:List Str}{k:Nat}
end
end L3
namespace L3
open PySem PySem.Spec PyProof.Rows
open L2 hiding Rep RepL
open Mi (Dt Xn R okR zA2 optR zA0 zA5 zA8 zA4 zA7 Rh Sl Ro EM TM AM FM IM SM OM Tg Out zAN zAM zAP full frz frz1 frzAt)
section
variable[Kc]{mg:Str->Option Value}{E:XK}{L n k l:Nat}{te ta tb:TE}{e ea eb ma:EM}{t:TA}{m:AM}
end
end L3
namespace L3
open PySem PySem.Spec
open L2 hiding Rep RepL
open Mi (Dt Xn R okR zA2 optR zA0 zA5 zA8 zA4 zA7 Rh Sl Ro EM TM AM FM IM SM OM Tg Out zAN zAM zAP full frz frz1 frzAt FW)
section
variable[Kc]{mg:Str->Option Value}{E:XK}{n:Nat}{t:TA}{m:AM}
end
end L3
namespace L3
open PySem PySem.Spec
open L2 hiding Rep RepL
open Mi (Dt Xn R okR zA2 optR zA0 zA5 zA8 zA4 zA7 Rh Sl Ro EM TM AM FM IM SM OM Tg Out zAN zAM zAP full frz frz1 frzAt OutM SMM FW)
section
variable[Kc]{mg:Str->Option Value}{E:XK}{L n k l:Nat}{te ta tb tx td t1 t2:TE}{e ea eb ex ed e1 e2:EM}{t u:TS}{m m':SMM}{s:SM}
open Classical in
noncomputable def cutH(H:Hp)(S:Addr->Prop):Hp:=fun b=>if S b then none else H b
end
end L3
namespace Mp
noncomputable def sh(s:Nat)(cs:List Nat):List Nat:=cs.drop s++cs.take s
def wr(cs:List Nat):List Nat:=cs.map fun c=>97+(ords cs).idxOf c
end Mp
namespace Mp
open Mi PySem
theorem zOP{g:Nat->Nat}:∀(l:List Nat),(∀x∈l,∀y∈l,g x=g y->x=y)->ords (l.map g)=(ords l).map g:=by
 refine zFC (P:=fun l=>(∀x∈l,∀y∈l,g x=g y->x=y)->ords (l.map g)=(ords l).map g) (fun _=>rfl) (fun l a ih hi=>?_);have ih:=ih fun x hx y hy=>hi x (qBb _ hx) y (qBb _ hy)
 rw[qAz,qFt,zCZ,zCZ,ih];have e:g a∈(ords l).map g↔a∈ords l:=by
  rw[qAe];constructor
  ·rintro⟨b,hb,e⟩
   have hb':=(ords_mem l b).mp hb;rw[<- hi b (qBb _ hb') a (by simp) e];exact hb
  ·exact fun h=>⟨a,h,rfl⟩
 by_cases h:a∈ords l
 ·rw[if_pos h,if_pos (e.mpr h)]
 ·rw[if_neg h,if_neg fun z=>h (e.mp z),qAz,qFt]
theorem getD_idx{l:List Nat}{c:Nat}(h:c∈l):l.getD (l.idxOf c) 0=c:=by
 have hl:=qAg h;rw[qA0,qA2 hl];exact qDc hl
theorem idx_getD{l:List Nat}(hn:l.Nodup){v:Nat}(h:v<l.length):l.idxOf (l.getD v 0)=v:=by
 rw[qA0,qA2 h];exact hn.idxOf_getElem v h
def rowW(cs:List Nat):List Nat:=cs.map fun c=>(ords cs).idxOf c
structure Wd(n:Nat)(cs:List Nat):Prop where
 tw:Twice n (rowW cs)
 wr:wrd (ords cs) (rowW cs)=cs
 ap:zQL (ords cs) (rowW cs)
 od:ords (rowW cs)=qA9 n
 ol:(ords cs).length=n
 len:cs.length=2*n
theorem zZ5{cs ls:List Nat}(hp:cs.Perm (ls++ls))(hn:ls.Nodup):Wd ls.length cs:=by
 have mem:∀x,x∈cs↔x∈ls:=fun x=>by rw[hp.mem_iff,qAq];exact⟨fun h=>h.elim id id,.inl⟩
 have ol:(ords cs).length=ls.length:=qDz
  (zB5 _ _ (ords_nodup cs) fun x hx=>(mem x).mp ((ords_mem cs x).mp hx))
  (zB5 _ _ hn fun x hx=>(ords_mem cs x).mpr ((mem x).mpr hx))
 have hl:cs.length=2*ls.length:=by rw[hp.length_eq,qAr];lia
 have inj:∀x∈cs,∀y∈cs,(ords cs).idxOf x=(ords cs).idxOf y->x=y:=fun x hx y hy e=>by
  rw[<- getD_idx ((ords_mem cs x).mpr hx),e,getD_idx ((ords_mem cs y).mpr hy)]
 have idl:∀x∈cs,(ords cs).idxOf x<ls.length:=fun x hx=>by rw[<- ol];exact qAg ((ords_mem cs x).mpr hx)
 refine⟨⟨by rw[rowW,qAi,hl],fun v=>?_⟩,?_,?_,?_,ol,hl⟩
 ·by_cases hv:v<ls.length
  ·rw[if_pos hv];have hm:(ords cs).getD v 0∈cs:=(ords_mem cs _).mp (zBA (by lia));rw[<- zJG hp hn hm];unfold rowW;rw[qHl,List.countP_map,qHl];refine List.countP_congr fun c hc=>?_
   simp only[Function.comp,beq_iff_eq];constructor
   ·intro e;rw[<- e,getD_idx ((ords_mem cs c).mpr hc)]
   ·intro e;rw[e,idx_getD (ords_nodup cs) (by lia)]
  ·rw[if_neg hv];refine qBt.mpr fun h=>?_
   obtain⟨c,hc,rfl⟩:=qAe.mp h;exact hv (idl c hc)
 ·unfold wrd rowW;rw[qB3]
  conv=>rhs;rw[<- List.map_id cs]
  exact qBk fun c hc=>getD_idx ((ords_mem cs c).mpr hc)
 ·intro x hx y hy e;obtain⟨c,hc,rfl⟩:=qAe.mp hx;obtain⟨d,hd,rfl⟩:=qAe.mp hy;rw[getD_idx ((ords_mem cs c).mpr hc),getD_idx ((ords_mem cs d).mpr hd)]at e;rw[e]
 ·unfold rowW;rw[zOP cs inj];refine qC7 (by simp[ol]) fun i h1 h2=>?_
  rw[qDr,qCm];exact(ords_nodup cs).idxOf_getElem i (by simpa using h1)
theorem zN4{α β:Type}{l:List α}{f:α->β}(h:l.Nodup)(hi:∀x∈l,∀y∈l,f x=f y->x=y):(l.map f).Nodup:=by
 unfold qG4;rw[qCs];exact qEf (fun{a b} ha hb hab z=>hab (hi a ha b hb z)) h
theorem zTW{g:Nat->Nat}{N:Nat}(hg:∀k,k<N->g k<N)(hi:∀a b,a<N->b<N->g a=g b->a=b){y:Nat}(hy:y<N):∃k,k<N/\g k=y:=by
 refine Classical.byContradiction fun z=>?_
 have h:=zFR (a:=y::(qA9 N).map g) (b:=qA9 N) ?_ ?_
 ·simp at h;lia
 ·refine qBi.mpr ⟨fun h=>?_,?_⟩
  ·obtain⟨k,hk,e⟩:=qAe.mp h;exact z ⟨k,by simpa using hk,e⟩
  ·exact zN4 qDs (fun a ha b hb e=>hi a b (by simpa using ha) (by simpa using hb) e)
 ·intro x hx
  rcases qAb.mp hx with rfl|hx
  ·simpa using hy
  ·obtain⟨k,hk,rfl⟩:=qAe.mp hx
   simpa using hg k (by simpa using hk)
theorem zLP{e:Nat}{v:Int}:∀(S:List (Nat×Int)),(∀x∈S,∀y∈S,x.1=y.1->x.2=y.2)->(e,v)∈S->∀{N:List Int},e<N.length->(puts S N).getD e 0=v:=by
 refine zFC (P:=fun S=>(∀x∈S,∀y∈S,x.1=y.1->x.2=y.2)->(e,v)∈S->∀{N:List Int},e<N.length->(puts S N).getD e 0=v) (fun _ h=>by simp at h) fun S a ih hc hm N hN=>?_
 have hl:=zEU S N;have hs:puts (S++[a]) N=(puts S N).set a.1 a.2:=by unfold puts;rw[qEe];rfl
 rw[hs,qA0]
 by_cases h:a.1=e
 ·have:=hc a (by simp) (e,v) hm h
  rw[h,qAm (by lia),this];rfl
 ·rw[qAt h,<- qA0];refine ih (fun x hx y hy=>hc x (qBb _ hx) y (qBb _ hy)) ?_ hN
  rcases qAq.mp hm with z|z
  ·exact z
  ·rw[qB6]at z;exact absurd (by rw[<- z]) h
noncomputable def zN(n:Nat):List Int:=qAa (4*n) 0
def tsW(n:Nat)(row:List Nat):List Nat:=(qA9 (4*n)).map fun e=>((puts (lawS row row.length) (zN n)).getD e 0).toNat
section
variable{n:Nat}{row:List Nat}(t:Twice n row)
include t
theorem zSV:∀x∈lawS row row.length,∀y∈lawS row row.length,x.1=y.1->x.2=y.2:=fun x hx y hy h=>by
 unfold lawS at hx hy;obtain⟨l1,h1,h2⟩:=qD1.mp hx;obtain⟨l2,h3,h4⟩:=qD1.mp hy;obtain⟨a,ha,rfl⟩:=qAe.mp h1;obtain⟨b,hb,rfl⟩:=qAe.mp h3;have la:a<row.length:=by simpa using ha
 exact zNV (fun a h=>t.le1 h) (qBq _ (by lia)) (qBq _ (by lia)) x h2 y h4 h
theorem zXP{k:Nat}(hk:k<row.length):(inA row k+1,(inA row ((k+1)%row.length):Int))∈lawS row row.length/\(inA row ((k+1)%row.length),((inA row k+1:Nat):Int))∈lawS row row.length:=by
 have e:tieP row ((k+1)%row.length)=[(inA row k+1,(inA row ((k+1)%row.length):Int)),(inA row ((k+1)%row.length),((inA row k+1:Nat):Int))]:=by
  unfold tieP;rw[zOC hk]
 have m:∀x∈tieP row ((k+1)%row.length),x∈lawS row row.length:=fun x hx=>qD1.mpr ⟨_,qAe.mpr ⟨k,by simpa using hk,rfl⟩,hx⟩
 rw[e]at m;exact⟨m _ (by simp),m _ (by simp)⟩
theorem zDF{k:Nat}(hk:k<row.length):inA row k+1<4*n:=by
 have:=t.pos hk
 rw[t.len]at this
 lia
theorem zEE{k:Nat}(hk:k<row.length):(puts (lawS row row.length) (zN n)).getD (inA row k+1) 0=(inA row ((k+1)%row.length):Int)/\(puts (lawS row row.length) (zN n)).getD (inA row ((k+1)%row.length)) 0=((inA row k+1:Nat):Int):=by
 obtain⟨h1,h2⟩:=zXP t hk;have l1:=zDF t hk;have l2:=zDF t (qBq (k+1) (show 0<row.length by lia));exact⟨zLP _ (zSV t) h1 (by simp[zN];lia),zLP _ (zSV t) h2 (by simp[zN];lia)⟩
theorem zMA{e:Nat}(he:e<4*n):∃k,k<row.length/\(e=inA row k+1\/e=inA row ((k+1)%row.length)):=by
 have hl:=t.len;have ev:∀k,inA row k%2=0:=fun k=>by unfold inA;lia
 obtain⟨k,hk,e1⟩:=zTW (g:=fun k=>inA row k/2) (N:=2*n) (fun k hk=>by have:=zDF t (k:=k) (by lia);show inA row k/2<2*n;lia) (fun a b ha hb h=>by
  have h1:=ev a;have h2:=ev b;have h:inA row a/2=inA row b/2:=h;exact zHR (fun a h=>t.le1 h) (by lia) (by lia) (by lia)) (y:=e/2) (by lia)
 have h1:=ev k;have e1:inA row k/2=e/2:=e1
 by_cases h:e%2=1
 ·exact⟨k,by lia,.inl (by lia)⟩
 ·have hm:(k+row.length-1)%row.length<row.length:=qBq _ (by lia);refine⟨(k+row.length-1)%row.length,hm,.inr ?_⟩
  have:((k+row.length-1)%row.length+1)%row.length=k:=by
   by_cases z:k=0
   ·subst z;rw[show 0+row.length-1=row.length-1 by lia,qAx (show row.length-1<row.length by lia),show row.length-1+1=row.length by lia,qHs]
   ·rw[show k+row.length-1=(k-1)+row.length by lia,qC0,qAx (show k-1<row.length by lia),show k-1+1=k by lia,qAx (by lia)]
  rw[this]
  lia
theorem zGF{e:Nat}(he:e<4*n):(puts (lawS row row.length) (zN n)).getD e 0=(nt (tsW n row) e:Int)/\nt (tsW n row) e<4*n:=by
 have hv:∃v:Nat,(puts (lawS row row.length) (zN n)).getD e 0=(v:Int)/\v<4*n:=by
  obtain⟨k,hk,rfl|rfl⟩:=zMA t he
  ·exact⟨_,(zEE t hk).1,by have:=zDF t (qBq (k+1) (show 0<row.length by lia));lia⟩
  ·exact⟨_,(zEE t hk).2,zDF t hk⟩
 obtain⟨v,h1,h2⟩:=hv
 have:nt (tsW n row) e=v:=by
  unfold nt tsW;rw[qA0,qAh,qFi he]
  show((puts (lawS row row.length) (zN n)).getD e 0).toNat=v
  rw[h1];rfl
 rw[this];exact⟨h1,h2⟩
theorem zW2:numL (tsW n row)=puts (lawS row row.length) (zN n):=by
 have hl:(puts (lawS row row.length) (zN n)).length=4*n:=by rw[zEU];simp[zN]
 refine qC7 (by rw[hl];simp[numL,tsW]) fun i h1 h2=>?_
 have hi:i<4*n:=by lia
 have h:=(zGF t hi).1;rw[qA0,qA2 h2]at h;have h3:(numL (tsW n row))[i]?=some (nt (tsW n row) i:Int):=by
  unfold numL nt;rw[qAh,qA0,qA2 (by simp[tsW];exact hi)];rfl
 rw[qA2 h1]at h3;rw[qB8 h3,<- h];rfl
theorem zNU:NetN (tsW n row) (4*n)/\∀x,x<4*n->nt (tsW n row) x≠x:=by
 have ev:∀k,inA row k%2=0:=fun k=>by unfold inA;lia
 have v1:∀{k},k<row.length->nt (tsW n row) (inA row k+1)=inA row ((k+1)%row.length):=fun{k} hk=>by
  have h1:=(zGF t (zDF t hk)).1;rw[(zEE t hk).1]at h1
  lia
 have v2:∀{k},k<row.length->nt (tsW n row) (inA row ((k+1)%row.length))=inA row k+1:=fun{k} hk=>by
  have l2:=zDF t (qBq (k+1) (show 0<row.length by lia));have h1:=(zGF t (e:=inA row ((k+1)%row.length)) (by lia)).1;rw[(zEE t hk).2]at h1
  lia
 refine⟨⟨by simp[tsW],fun e he=>(zGF t he).2,fun e he=>?_⟩,fun e he=>?_⟩
 ·obtain⟨k,hk,rfl|rfl⟩:=zMA t he
  ·rw[v1 hk,v2 hk]
  ·rw[v2 hk,v1 hk]
 ·obtain⟨k,hk,rfl|rfl⟩:=zMA t he
  ·rw[v1 hk];have:=ev ((k+1)%row.length);have:=ev k;lia
  ·rw[v2 hk];have:=ev ((k+1)%row.length);have:=ev k;lia
end
theorem zP3{cs:List Nat}(h0:0<cs.length)(h1:cs.length<=60):zC2 [.str ⟨cs.toArray⟩]=okR (.str ⟨(sosL cs).toArray⟩):=by
 have hso:sosD [.str ⟨cs.toArray⟩]=some (.lst ((sosL cs).map sgn)):=by
  show(@ite _ (0<(⟨cs.toArray⟩:Str).length/\(⟨cs.toArray⟩:Str).length<=60) (qA4 _) (some (Dt.lst ((sosL cs.toArray.toList).map fun c=>Dt.str ⟨#[c]⟩))) none)=_
  rw[if_pos ⟨by show 0<cs.toArray.size;simpa using h0,by show cs.toArray.size<=60;simpa using h1⟩];rfl
 have hsl:(sosL cs).length<=100000:=by
  have h2:(sosL cs).length=(ded cs).length:=(qCi _ _).length_eq;have h3:∀l:List Nat,(ded l).length<=l.length:=by
   intro l
   induction l with
   |nil=>exact qA8 _
   |cons a r ih=>
    unfold ded
    split
    ·simp only[qAu];lia
    ·simp only[qAu];lia
  have h4:=h3 cs
  lia
 have hj:=zHQ (sosL cs) hsl;unfold zC2 zES;exact zBN rfl (by simp[hso,hj])
def fm(cs:List Nat)(s:Nat)(b:Bool):List Nat:=if b=true then(sh s cs).reverse else sh s cs
theorem app1{r:Ro}{i n k:Nat}{e:EM}{ds:List Dt}{d:Dt}(h:r[i]?=some (some (.lst ds,k+1)))(he:e (full r)=okR d)(hl:ds.length<=100000)(hd:d.dep=0):sApp i n e r=okR (.nx (r.set i (some (.lst (ds++[d]),k+1)))):=by
 unfold sApp;rw[h];dsimp only;rw[he,zA0];exact if_pos ⟨hl,by lia,by lia⟩
theorem zQZ{n:Nat}{cs:List Nat}(w:Wd n cs){k:Nat}(hk:k<cs.length):(rowW cs).getD k 0=(ords cs).idxOf (cs.getD k 0):=by
 unfold rowW;rw[qA0,qAh,qA0,qA2 hk];rfl
theorem zPK{v n:Nat}(h:v<n):(qA9 n).idxOf v=v:=by
 have:=qDs.idxOf_getElem v (by simpa using h:v<(qA9 n).length)
 rwa [qCm]at this
theorem zT7:∀(l:List Nat)(k:Nat),k<l.length->l.idxOf (l.getD k 0)<=k
 |a::l,0,_=>by simp
 |a::l,k+1,h=>by
  have ih:=zT7 l k (by simpa using h);rw[qE3]
  show(bif a==l.getD k 0 then 0 else l.idxOf (l.getD k 0)+1)<=k+1
  cases a==l.getD k 0
  ·exact qGe ih
  ·exact qAy _
theorem zT6{n:Nat}{cs:List Nat}(w:Wd n cs){k:Nat}(hk:k<cs.length):inA (rowW cs) k=4*(ords cs).idxOf (cs.getD k 0)+2*(if cs.idxOf (cs.getD k 0)<k then 1 else 0):=by
 have hl:(rowW cs).length=cs.length:=by simp[rowW]
 have hkr:k<(rowW cs).length:=by lia
 have hm:=w.tw.mem ((rowW cs).getD k 0);have hlt:=hm.mp (zFA hkr);unfold inA;rw[w.od,zPK hlt];have e1:cs.idxOf (cs.getD k 0)=(rowW cs).idxOf ((rowW cs).getD k 0):=by
  have:=zJY w.ap hkr
  rw[w.wr]at this;exact this
 have f1:=zFZ hkr;have le:=w.tw.le1 hkr;have hle:=zT7 (rowW cs) k hkr;rw[<- zQZ w hk];rw[e1]
 split
 ·rename_i h
  have:(qHl ((rowW cs).getD k 0) (qI5 k (rowW cs)))≠0:=fun z=>by have:=f1.mpr z;lia
  lia
 ·rename_i h
  have:(rowW cs).idxOf ((rowW cs).getD k 0)=k:=by lia
  rw[f1.mp this]
theorem zQB(c ls O:List Nat){k:Nat}(h:k<O.length):(cbW c ls O).getD k 0=c.getD (ls.idxOf (O.getD k 0)) 0:=by
 unfold cbW;rw[qA0,qAh,qA0 (l:=O),qA2 h];rfl
theorem zYW{c ls O:List Nat}{n:Nat}(hw:∀x∈c,x<3)(hc:c.length=n)(hl:ls.length=n)(hO:∀x∈O,x∈ls):∀x∈cbW c ls O,x<3:=fun x hx=>by
 obtain⟨y,hy,rfl⟩:=qAe.mp hx;exact zHS hw (by rw[hc,<- hl];exact qAg (hO y hy))
theorem zPQ{l:List Nat}{k:Nat}{x:Dt}(h:(l.map sgn)[k]?=some x):k<l.length/\x=sgn (l.getD k 0):=by
 obtain⟨hk,e⟩:=qA3.mp h;have hk:k<l.length:=by simpa using hk
 exact⟨hk,by rw[<- e,qDr,qA0,qA2 hk];rfl⟩
noncomputable def allv:Nat->List (List Int)
 |0=>[[]]
 |n+1=>(allv n).map (qI6 0)++(allv n).map (qI6 1)
theorem zML:∀n,(allv n).length=2 ^ n
 |0=>rfl
 |n+1=>by simp[allv,zML n];lia
theorem zFQ{α β:Type}{l:List α}{f:α->β}(h:l.Nodup)(hi:∀x∈l,∀y∈l,f x=f y->x=y):(l.map f).Nodup:=by
 unfold qG4;rw[qCs];exact qEf (fun{a b} ha hb hab z=>hab (hi a ha b hb z)) h
theorem zGV:∀n,(allv n).Nodup
 |0=>by simp[allv]
 |n+1=>by
  have ih:=zGV n;rw[allv,qCr];refine⟨zFQ ih fun x _ y _ h=>by simpa using h,zFQ ih fun x _ y _ h=>by simpa using h,fun a ha b hb=>?_⟩;obtain⟨x,_,rfl⟩:=qAe.mp ha;obtain⟨y,_,rfl⟩:=qAe.mp hb;simp
theorem allv_mem:∀{n:Nat}{x:List Int},x∈allv n↔RowN n x
 |0,x=>by
  simp only[allv,qB6];constructor
  ·rintro rfl;exact⟨rfl,fun y hy=>by simp at hy⟩
  ·rintro⟨h,_⟩;exact qDt h
 |n+1,x=>by
  rw[allv,qAq];constructor
  ·rintro(h|h)
   all_goals
    obtain⟨y,hy,rfl⟩:=qAe.mp h
    have:=allv_mem.mp hy
    refine⟨by simp[this.1],fun z hz=>?_⟩
    rcases qAb.mp hz with rfl|hz
    ·simp[Bit]
    ·exact this.2 z hz
  ·rintro⟨h1,h2⟩
   cases x with
   |nil=>simp at h1
   |cons a r=>
    have hr:r∈allv n:=allv_mem.mpr ⟨by simpa using h1,fun z hz=>h2 z (by simp[hz])⟩
    rcases h2 a (by simp)with rfl|rfl
    ·exact .inl (qAe.mpr ⟨r,hr,rfl⟩)
    ·exact .inr (qAe.mpr ⟨r,hr,rfl⟩)
theorem zJ2{α:Type}[DecidableEq α]:∀(l1 l2:List α),l1.Nodup->(∀x∈l1,x∈l2)->l1.length<=l2.length
 |[],_,_,_=>by simp
 |a::r,l2,h,hs=>by
  have ha:=hs a (by simp);rw[qBi]at h
  have:=zJ2 r (l2.erase a) h.2 fun x hx=>(qDu (fun z:x=a=>h.1 (by rw[<- z];exact hx))).mpr (hs x (by simp[hx]))
  rw[qD2 ha]at this
  have:=qDf ha
  simp
  lia
noncomputable def cnt(n:Nat)(P:List Int->Prop):Nat:=by
 classical exact((allv n).filter fun x=>decide (P x)).length
theorem zVI(n:Nat):cnt n (fun _=>True)=2 ^ n:=by
 unfold cnt;rw[List.filter_eq_self.mpr (by simp),zML]
def Ev(n:Nat)(g:Nat->Int)(x:List Int):Prop:=sumN n (fun k=>g k*x.getD k 0)%2=0
def KerF(n:Nat)(f:Nat->Nat->Int)(x:List Int):Prop:=∀a,a<n->Ev n (f a) x
section
variable{n i j:Nat}{f:Nat->Nat->Int}(hb:Bits n f)(hi:i<n)(hj:j<n)(hij:i≠j)
include hi in
include hi hij in
include hb hi hj hij in
include hb hi hj hij in
end
noncomputable def fst1:List Int->Nat
 |[]=>0
 |a::r=>if a=1 then 0 else fst1 r+1
section
variable{n:Nat}
def Lds(ls:List (List Int)):Prop:=ls.Pairwise fun l s=>s.getD (fst1 l) 0=0
end
theorem zUB{a b:Nat}(h:2 ^ a=2 ^ b):a=b:=by
 rcases qDj a b with z|z|z
 ·have:=qF9 (show 1<2 by lia) z;lia
 ·exact z
 ·have:=qF9 (show 1<2 by lia) z;lia
section
variable{n p q:Nat}{T A:List (List Int)}{ps:List (List Int×Nat)}
end
noncomputable def ext1(ws:List Int)(c:List Int):List (List Int):=ws.map fun w=>c++[w]
def lng(ws:List Int)(A:List (List Int)):List (List Int):=(A.map (ext1 ws)).flatten
def chW(ws:List Int):Nat->List (List Int)
 |0=>[[]]
 |n+1=>lng ws (chW ws n)
noncomputable def dg(v:Nat->Int)(q:Nat)(ks:List Nat)(g:Nat->Nat->Int):Nat->Nat->Int:=fun a b=>if a=b/\a<q then v (ks.getD a 0)else g a b
noncomputable def kept(n:Nat)(c:List Int):List Nat:=(qA9 n).filter fun k=>decide (c.getD k 0≠0)
def cpF(n:Nat)(c:List Int)(f:Nat->Nat->Int):Nat->Nat->Int:=dg (fun k=>if c.getD k 0=1 then 1 else 0) (kept n c).length (kept n c) (sub (kept n c) f)
theorem zQA{n m:Nat}{P Q:List Int->Prop}(f:List Int->List Int)(hf:∀x,RowN n x->P x->RowN m (f x)/\Q (f x))(hi:∀x y,RowN n x->P x->RowN n y->P y->f x=f y->x=y):cnt n P<=cnt m Q:=by
 classical
 unfold cnt;have h1:(((allv n).filter fun x=>decide (P x)).map f).Nodup:=zFQ ((zGV n).filter _) fun x hx y hy=>by
  obtain⟨a1,a2⟩:=qC1.mp hx;obtain⟨b1,b2⟩:=qC1.mp hy;exact hi x y (allv_mem.mp a1) (by simpa using a2) (allv_mem.mp b1) (by simpa using b2)
 have h2:=zJ2 _ ((allv m).filter fun x=>decide (Q x)) h1 fun z hz=>by
  obtain⟨x,hx,rfl⟩:=qAe.mp hz;obtain⟨g1,g2⟩:=qC1.mp hx;obtain⟨k1,k2⟩:=hf x (allv_mem.mp g1) (by simpa using g2);exact qC1.mpr ⟨allv_mem.mpr k1,by simpa using k2⟩
 rw[qAi]at h2;exact h2
structure Cst(ts C:List Nat)(n:Nat)(F:Nat->Int):Prop where
 hb:∀e,Bit (F e)
 hn:∀e,e<4*n->F (nt ts e)=F e
 hj:∀e,e<4*n->F (jn C e)=F e
section
variable{n:Nat}{cs:List Nat}(w:Wd n cs)(h2:∀x∈cs,cs.count x=2)
include w h2
end
section
variable{n:Nat}{cs c:List Nat}(w:Wd n cs)(h2:∀x∈cs,cs.count x=2)(n1:1<=n)(hc:c.length=n)(hw:∀x∈c,x<3)(hsl:(sosL cs).length=n)
include w h2 n1 hc hw hsl
end
def yF(cs:List Nat)(F:Nat->Int)(x:Nat):Int:=(F (4*(ords cs).idxOf x)+F (4*(ords cs).idxOf x+1))%2
section
variable{n:Nat}{cs c:List Nat}{F:Nat->Int}(w:Wd n cs)(h2:∀x∈cs,cs.count x=2)(n1:1<=n)(hc:c.length=n)(hw:∀x∈c,x<3)(hsl:(sosL cs).length=n)(hF:Cst (tsW n (rowW cs)) (cbW c (sosL cs) (ords cs)) n F)
include w h2 n1 hc hw hsl hF
end
section
variable{ts C:List Nat}{n:Nat}(hN:NetN ts (4*n))(hl:C.length=n)(hw:∀c∈C,c<3)
include hN hl hw
theorem zCA{e p x:Nat}(he:e<4*n)(p1:1<=p)(p3:itr (stp ts C) p e=e)(hx:x∈orb ts C e p):nt ts x∈orb ts C e p/\jn C x∈orb ts C e p/\x<4*n:=by
 obtain⟨st1,_⟩:=zF7 hN hl hw;have lt:∀j,itr (stp ts C) j e<4*n:=zDZ st1 he;obtain⟨i,hi,rfl|rfl⟩:=orb_mem.mp hx
 ·refine⟨?_,orb_mem.mpr ⟨i,hi,.inr rfl⟩,lt i⟩;cases i with
  |zero=>
   refine orb_mem.mpr ⟨p-1,by lia,.inr ?_⟩;have h:itr (stp ts C) (p-1+1) e=e:=by rw[show p-1+1=p by lia];exact p3
   show nt ts e=_
   conv=>lhs;rw[<- h]
   exact hN.inv _ (zDO hl hw (lt (p-1))).1
  |succ j=>exact orb_mem.mpr ⟨j,by lia,.inr (hN.inv _ (zDO hl hw (lt j)).1)⟩
 ·refine⟨?_,orb_mem.mpr ⟨i,hi,.inl (zDO hl hw (lt i)).2⟩,(zDO hl hw (lt i)).1⟩
  by_cases z:i+1=p
  ·refine orb_mem.mpr ⟨0,by lia,.inl ?_⟩;show itr (stp ts C) (i+1) e=e;rw[z];exact p3
  ·exact orb_mem.mpr ⟨i+1,by lia,.inl rfl⟩
end
theorem zFD(f:Nat->List Nat):∀k r,r<(rdS f k).1.length->∃e,e<k/\(rdS f k).1.getD r []=f e/\∀i,i<r->e∉(rdS f k).1.getD i []
 |0,r,h=>by simp[rdS]at h
 |k+1,r,h=>by
  by_cases hg:(getW (rdS f k).2 (.inl (k:Int))).isSome=true
  ·have e:rdS f (k+1)=rdS f k:=by rw[rdS,if_pos hg]
   rw[e]at h ⊢;obtain⟨x,h1,h2⟩:=zFD f k r h;exact⟨x,by lia,h2⟩
  ·have e:(rdS f (k+1)).1=(rdS f k).1++[f k]:=by rw[rdS,if_neg hg]
   rw[e]at h ⊢;have gl:∀i,i<(rdS f k).1.length->((rdS f k).1++[f k]).getD i []=(rdS f k).1.getD i []:=fun i hi=>by
    rw[qA0,qA6 hi,qA0]
   by_cases z:r<(rdS f k).1.length
   ·obtain⟨x,h1,h2,h3⟩:=zFD f k r z;refine⟨x,by lia,by rw[gl r z];exact h2,fun i hi=>?_⟩;rw[gl i (by lia)];exact h3 i hi
   ·have hr:r=(rdS f k).1.length:=by simp at h;lia
    subst hr;refine⟨k,by lia,?_,fun i hi hm=>?_⟩
    ·rw[qA0,qA7 (qA8 _)];simp
    ·rw[gl i hi]at hm;exact hg ((zDV f k k).mpr ⟨_,zBA hi,hm⟩)
noncomputable def rI(R:List (List Nat))(e:Nat):Nat:=(R.map fun l=>decide (e∈l)).idxOf true
def dat(cs c:List Nat)(F:Nat->Int):List Int:=F (inA (rowW cs) 0)::(kept (sosL cs).length (numL c)).map fun k=>yF cs F ((sosL cs).getD k 0)
section
variable{n:Nat}{cs c:List Nat}(w:Wd n cs)
include w
end
section
variable{n:Nat}{cs c:List Nat}{F:Nat->Int}(w:Wd n cs)(h2:∀x∈cs,cs.count x=2)(n1:1<=n)(hc:c.length=n)(hw:∀x∈c,x<3)(hsl:(sosL cs).length=n)(hF:Cst (tsW n (rowW cs)) (cbW c (sosL cs) (ords cs)) n F)
include w h2 n1 hc hw hsl hF
end
section
variable{n:Nat}{cs c:List Nat}(w:Wd n cs)(h2:∀x∈cs,cs.count x=2)(n1:1<=n)(hc:c.length=n)(hw:∀x∈c,x<3)(hsl:(sosL cs).length=n)
include w h2 n1 hc hw hsl
end
theorem zLL{m:Nat}{x y:List Int}(hx:RowN m x)(hy:RowN m y)(h:∀r,r<m->x.getD r 0=y.getD r 0):x=y:=by
 have h1:=hx.1;have h2:=hy.1;refine qC7 (by lia) fun i g1 g2=>?_
 have:=h i (by lia)
 rw[qA0,qA2 g1,qA0,qA2 g2]at this;exact this
theorem zLK{m:Nat}{x:List Int}(hx:RowN m x)(r:Nat):Bit (x.getD r 0):=by
 rw[qA0];cases h:x[r]? with
 |none=>exact .inl rfl
 |some y=>exact hx.2 y (qBc h)
structure Hds(ts C:List Nat)(n:Nat)(R:List (List Nat))(hd:Nat->Nat):Prop where
 lt:∀r,r<R.length->hd r<4*n
 mem:∀r,r<R.length->hd r∈R.getD r []
 fst:∀r,r<R.length->∀i,i<r->hd r∉R.getD i []
 same:∀r,r<R.length->∀e,e∈R.getD r []->∀F,Cst ts C n F->F e=F (hd r)
 cls:∀r,r<R.length->∀e,e∈R.getD r []->nt ts e∈R.getD r []/\jn C e∈R.getD r []
 cov:∀e,e<4*n->∃r,r<R.length/\e∈R.getD r []
section
variable{ts C:List Nat}{n:Nat}(hN:NetN ts (4*n))(hl:C.length=n)(hw:∀c∈C,c<3)
include hN hl hw
variable{R:List (List Nat)}{hd:Nat->Nat}(H:Hds ts C n R hd)
include H
end
abbrev Ty:=List (Option Nat)
structure Mt(M:Nat)(t:Ty):Prop where
 len:t.length=M
 inv:∀e f,t.getD e none=some f->f<M/\f≠e/\t.getD f none=some e
section
variable{M:Nat}{t:Ty}{a b far near:Nat}(h:Mt M t)(ha:t.getD a none=some far)(hb:t.getD b none=some near)(hab:a≠b)
include h ha hb hab
end
abbrev Ad:=List (Ty×List Nat)
noncomputable def allA(L:Ad):List (Ty×Nat):=L.flatMap fun q=>q.2.map fun c=>(q.1,c)
noncomputable def mxL(cs:List Nat):Nat:=cs.foldr max 0
def hst(cs:List Nat):List Int:=if cs=[]then[]else(qA9 (mxL cs+1)).map fun k=>((cs.count k:Nat):Int)
noncomputable def oS:Option Nat->Sw
 |none=>.non
 |some k=>.int (k:Nat)
abbrev kSw(t:Ty):List Sw:=t.map oS
abbrev keyA(L:Ad):List (List Sw):=L.map fun q=>kSw q.1
theorem zXL{a b:Option Nat}(h:kNo (oS a)=kNo (oS b)):a=b:=by
 cases a<;>cases b
 ·rfl
 ·cases h
 ·cases h
 ·rename_i x y
  have:(x:Int)=y:=by simpa[kNo,oS]using h
  have:x=y:=by omega
  rw[this]
theorem zSZ:∀{s t:Ty},kNs (kSw s)=kNs (kSw t)->s=t
 |[],[],_=>rfl
 |[],_::_,h=>by simp at h
 |_::_,[],h=>by simp at h
 |a::s,b::t,h=>by
  simp only[qAk,qGs]at h;rw[zXL h.1,zSZ h.2]
noncomputable def zV7:Ad->Ty->Option (List Nat)
 |[],_=>none
 |q::r,k=>if q.1=k then some q.2 else zV7 r k
theorem zLU(q:List Sw)(ks:List (List Sw))(k:List Sw):posT (q::ks) k=if kNs q=kNs k then some 0 else(posT ks k).map (·+1):=by
 unfold posT;rw[qFq]
 by_cases h:kNs q=kNs k
 ·simp[h]
 ·simp[h]
theorem pos_none(k:Ty):∀L:Ad,(posT (keyA L) (kSw k)).isNone=(zV7 L k).isNone
 |[]=>rfl
 |q::r=>by
  rw[show keyA (q::r)=kSw q.1::keyA r from rfl,zLU,zV7]
  by_cases h:q.1=k
  ·rw[if_pos (by rw[h]),if_pos h];rfl
  ·rw[if_neg fun z=>h (zSZ z),if_neg h,<- pos_none k r];cases posT (keyA r) (kSw k)<;>rfl
noncomputable def rst(m:Nat)(g:Nat->Nat->Int):Nat:=(cnt m (KerF m g)).log2
noncomputable def rv(ws:List Int)(n:Nat)(f:Nat->Nat->Int):List Nat:=(chW ws n).map fun c=>rst (kept n c).length (cpF n c f)
noncomputable def mx(rs:List Nat):Nat:=rs.foldr max 0
def cv(rs:List Nat):List Int:=(qA9 (mx rs+1)).map fun k=>((rs.count k:Nat):Int)
theorem zIO:∀{a b:List Nat},a.Pairwise (· < ·)->b.Pairwise (· < ·)->(∀x,x∈a↔x∈b)->a=b
 |[],[],_,_,_=>rfl
 |[],y::b,_,_,h=>by have:=(h y).mpr (by simp);simp at this
 |x::a,[],_,_,h=>by have:=(h x).mp (by simp);simp at this
 |x::a,y::b,ha,hb,h=>by
  obtain⟨a1,a2⟩:=qBf.mp ha;obtain⟨b1,b2⟩:=qBf.mp hb;have hxy:x=y:=by
   have h1:=(h x).mp (by simp);have h2:=(h y).mpr (by simp)
   rcases qAb.mp h1 with z|z
   ·exact z
   ·rcases qAb.mp h2 with w|w
    ·exact w.symm
    ·have:=b1 x z
     have:=a1 y w
     lia
  subst hxy;rw[zIO a2 b2 fun z=>?_];constructor
  ·intro hz
   rcases qAb.mp ((h z).mp (by simp[hz]))with w|w
   ·have:=a1 z hz;lia
   ·exact w
  ·intro hz
   rcases qAb.mp ((h z).mpr (by simp[hz]))with w|w
   ·have:=b1 z hz;lia
   ·exact w
theorem zWA(l:List Nat):(sosL l).Pairwise (· < ·):=by
 have h1:=sos_asc l;have h2:=sos_nodup l;unfold qG4 at h2;exact(h1.and h2).imp fun h=>by lia
theorem zOR{ts C:List Nat}{n:Nat}(hN:NetN ts (4*n))(hl:C.length=n)(hw:∀c∈C,c<3):∃(f:Nat->List Nat)(g:Nat->Nat),(∀e,e<4*n->f e=orb ts C e (g e)/\1<=g e/\g e<=4*n/\itr (stp ts C) (g e) e=e/\∀q,1<=q->q<g e->itr (stp ts C) q e≠e)/\∀k,(f k).length<=8*n:=by
 obtain⟨s1,s2⟩:=zF7 hN hl hw;have hg:∀e:Nat,∃p,e<4*n->1<=p/\p<=4*n/\itr (stp ts C) p e=e/\∀q,1<=q->q<p->itr (stp ts C) q e≠e:=fun e=>by
  by_cases he:e<4*n
  ·obtain⟨p,h⟩:=zGT s1 s2 he;exact⟨p,fun _=>h⟩
  ·exact⟨0,fun z=>absurd z he⟩
 obtain⟨g,hg⟩:=qCj hg;have h1:∀e,e<4*n->(if e<4*n then orb ts C e (g e)else[])=orb ts C e (g e):=fun e he=>if_pos he
 refine⟨fun e=>if e<4*n then orb ts C e (g e)else[],g,fun e he=>⟨h1 e he,hg e he⟩,fun k=>?_⟩
 show(if k<4*n then orb ts C k (g k)else[]).length<=_
 by_cases z:k<4*n
 ·rw[h1 k z,zFO]
  have:=(hg k z).2.1
  lia
 ·rw[if_neg z];exact qAy _
section
variable{n:Nat}{cs c:List Nat}(w:Wd n cs)(n1:1<=n)(hn:n<=10)(hc:c.length=n)(hw:∀x∈c,x<3)(hsl:(sosL cs).length=n)
include w n1 hn hc hw hsl
theorem zaC:(cbW c (sosL cs) (ords cs)).length=n/\∀x∈cbW c (sosL cs) (ords cs),x<3:=by
 refine⟨?_,zYW (ls:=sosL cs) (O:=ords cs) hw hc hsl fun x hx=>(sos_mem x cs).mpr ((ords_mem cs x).mp hx)⟩;unfold cbW;rw[qAi,w.ol]
end
theorem zWC{n:Nat}{cs:List Nat}(w:Wd n cs):(sosL cs).length=n:=by
 rw[<- w.ol];exact qDz (zB5 _ _ (sos_nodup cs) fun x hx=>(ords_mem cs x).mpr ((sos_mem x cs).mp hx)) (zB5 _ _ (ords_nodup cs) fun x hx=>(sos_mem x cs).mpr ((ords_mem cs x).mp hx))
theorem ien{ρ:Rh}{e:EM}{xs:List Dt}(h:e ρ=okR (.lst xs)):iEn (aCons e aNil) ρ=okR (enumD 0 xs):=by
 unfold iEn;rw[al0 h,zA0]
section
variable{n:Nat}{cs c:List Nat}(w:Wd n cs)(n1:1<=n)(hn:n<=10)(hc:c.length=n)(hsl:(sosL cs).length=n)
include w n1 hn hc hsl
theorem zGC(hw:∀x∈c,x<3):zCH [.str ⟨cs.toArray⟩,rowD (numL c)]=okR (rowD (numL (cbW c (sosL cs) (ords cs)))):=by
 have hlen:=w.len;have hL:=zP3 (cs:=cs) (by lia) (by lia);have hO:=zED cs (by lia);rw[zOQ]at hO;have H:∀ρ:Rh,ρ.length=3->ρ[0]?=some (some (.str ⟨cs.toArray⟩))->ρ[1]?=some (some (rowD (numL c)))->ρ[2]?=some (some (.str ⟨(sosL cs).toArray⟩))->eComp (iSq (eCall zAQ (aCons (eV 0) aNil))) 1 (.one 3) Mi.tYes (eB ixD (eV 1) (eMt findD (eV 2) (aCons (eV 3) aNil))) ρ=okR (rowD (numL (cbW c (sosL cs) (ords cs)))):=fun ρ hl h0 h1 h2=>by
  have:=zBS (ρ:=ρ) (c:=tYes) (i:=3) (e:=eB ixD (eV 1) (eMt findD (eV 2) (aCons (eV 3) aNil))) sgn (fun x:Nat=>Dt.int ((c.getD ((sosL cs).idxOf x) 0:Nat):Int)) (ords cs) rfl (by lia) (fun x hx=>?_) (iSq (eCall zAQ (aCons (eV 0) aNil))) ?_ (by rw[w.ol];lia)
  ·rw[this,numD];unfold cbW;rw[qB3];rfl
  ·have hm:=(sos_mem x cs).mpr ((ords_mem cs x).mp hx);have hi:=qAg hm;refine b2 (v1 ?_) (mt1 (v1 ?_) rfl (v1 ?_) (zE0 hm)) (zPA c _ (by lia))
   ·rw[qA6 (by lia)];exact h1
   ·rw[qA6 (by lia)];exact h2
   ·rw[qA7 (by lia),hl];rfl
  ·rw[zQM,c1 (v1 h0) hO,zA0];rfl
 exact zBN rfl (sg (c1 rfl hL) (qAy 0) (rt1 (H _ rfl rfl rfl rfl) (H _ rfl rfl rfl rfl)))
theorem zZW(h8:n<=8):zDY [.str ⟨cs.toArray⟩]=okR (rowD (numL (tsW n (rowW cs)))):=by
 have hlen:=w.len;have hrl:(rowW cs).length=2*n:=w.tw.len;have h:=zRI w.ap (by lia) (by lia) (fun a h=>w.tw.le1 h) (fun a h=>w.tw.pos h) (by rw[w.od];simpa using h8);rw[w.wr]at h;rw[h,zW2 w.tw];unfold zN;rw[show 2*(rowW cs).length=4*n by lia]
end
structure Hd1(s:Nat->Nat)(M:Nat)(hs:List Nat):Prop where
 lt:∀h∈hs,h<M
 cov:∀e,e<M->∃i,i<hs.length/\∃k,itr s k (hs.getD i 0)=e
 ap:∀i j k l,i<hs.length->j<hs.length->itr s k (hs.getD i 0)=itr s l (hs.getD j 0)->i=j
def DC(s:Nat->Nat)(M:Nat)(F:Nat->Int):Prop:=∀e,e<M->F (s e)=F e
theorem zQ5{s:Nat->Nat}{M:Nat}{F:Nat->Int}(hs:∀x,x<M->s x<M)(h:DC s M F){e:Nat}(he:e<M):∀k,F (itr s k e)=F e
 |0=>rfl
 |k+1=>(h _ (zDZ hs he k)).trans (zQ5 hs h he k)
theorem zPN{s:Nat->Nat}{M:Nat}{hs:List Nat}(hsM:∀x,x<M->s x<M)(H:Hd1 s M hs):cnt M (fun x=>DC s M (fun e=>x.getD e 0))=2 ^ hs.length:=by
 have h1:∀e:Nat,∃i,e<M->i<hs.length/\∃k,itr s k (hs.getD i 0)=e:=fun e=>by
  by_cases h:e<M
  ·obtain⟨i,hi⟩:=H.cov e h;exact⟨i,fun _=>hi⟩
  ·exact⟨0,fun z=>absurd z h⟩
 obtain⟨ix,hix⟩:=qCj h1;have hlt:∀i,i<hs.length->hs.getD i 0<M:=fun i hi=>H.lt _ (zBA hi)
 have stay:∀e,e<M->ix (s e)=ix e:=fun e he=>by
  obtain⟨a,k,hk⟩:=hix e he;obtain⟨b,l,hl⟩:=hix (s e) (hsM e he);refine H.ap _ _ l (k+1) b a ?_;rw[hl];show s e=s (itr s k _);rw[hk]
 have own:∀i,i<hs.length->ix (hs.getD i 0)=i:=fun i hi=>by
  obtain⟨a,k,hk⟩:=hix _ (hlt i hi);exact H.ap _ _ k 0 a hi hk
 rw[<- zVI hs.length];refine qDz (zQA (fun x=>hs.map fun h=>x.getD h 0) (fun x hx hc=>⟨⟨by simp,fun y hy=>?_⟩,trivial⟩) fun x y hx hcx hy hcy e=>?_) (zQA (fun z=>(qA9 M).map fun e=>z.getD (ix e) 0) (fun z hz _=>⟨⟨by simp,fun y hy=>?_⟩,fun e he=>?_⟩) fun x y hx _ hy _ e=>?_)
 ·obtain⟨r,_,rfl⟩:=qAe.mp hy;exact zLK hx _
 ·refine zLL hx hy fun r hr=>?_
  obtain⟨a,k,hk⟩:=hix r hr;have e1:=zQ5 hsM hcx (hlt _ a) k;have e2:=zQ5 hsM hcy (hlt _ a) k;rw[hk]at e1 e2;rw[e1,e2];exact qG6.mp e _ (zBA a)
 ·obtain⟨r,_,rfl⟩:=qAe.mp hy;exact zLK hz _
 ·have g:∀e,e<M->((qA9 M).map fun e=>z.getD (ix e) 0).getD e 0=z.getD (ix e) 0:=fun e he=>by simp[he]
  dsimp only;rw[g _ (hsM e he),g e he,stay e he]
 ·refine zLL hx hy fun r hr=>?_
  have:=qG6.mp e (hs.getD r 0) (qB0.mpr (hlt r hr))
  rw[own r hr]at this;exact this
theorem zV5{s:Nat->Nat}{M:Nat}{hs ks:List Nat}(hsM:∀x,x<M->s x<M)(H:Hd1 s M hs)(K:Hd1 s M ks):hs.length=ks.length:=by
 have:=(zPN hsM H).symm.trans (zPN hsM K)
 exact zUB this
theorem zNS{ts C:List Nat}{n:Nat}{f:Nat->List Nat}{g:Nat->Nat}(hN:NetN ts (4*n))(hne:∀x,x<4*n->nt ts x≠x)(hl:C.length=n)(hw:∀c∈C,c<3)
  (hf:∀e,e<4*n->f e=orb ts C e (g e)/\1<=g e/\g e<=4*n/\itr (stp ts C) (g e) e=e/\∀q,1<=q->q<g e->itr (stp ts C) q e≠e) :
  ∃hs,hs.length=2*(rdS f (4*n)).1.length/\Hd1 (stp ts C) (4*n) hs:=by
 obtain⟨st1,st2⟩:=zF7 hN hl hw;have h1:∀r:Nat,∃e,r<(rdS f (4*n)).1.length->e<4*n/\(rdS f (4*n)).1.getD r []=f e/\∀i,i<r->e∉(rdS f (4*n)).1.getD i []:=fun r=>by
  by_cases h:r<(rdS f (4*n)).1.length
  ·obtain⟨e,he⟩:=zFD f (4*n) r h;exact⟨e,fun _=>he⟩
  ·exact⟨0,fun z=>absurd z h⟩
 obtain⟨hd,hh⟩:=qCj h1;have self:∀e,e<4*n->e∈f e:=fun e he=>by
  obtain⟨a,b,_⟩:=hf e he;rw[a];exact orb_mem.mpr ⟨0,by lia,.inl rfl⟩
 generalize hR:(rdS f (4*n)).1.length=R at *
 have lt:∀e k,e<4*n->itr (stp ts C) k e<4*n:=fun e k he=>zDZ st1 he k
 have jlt:∀e,e<4*n->jn C e<4*n:=fun e he=>(zDO hl hw he).1
 have jj:∀e,e<4*n->jn C (jn C e)=e:=fun e he=>(zDO hl hw he).2
 have back1:∀e,e<4*n->stp ts C (jn C (stp ts C e))=jn C e:=fun e he=>by
  show nt ts (jn C (jn C (stp ts C e)))=_;rw[jj _ (st1 e he)];exact hN.inv _ (jlt e he)
 have back:∀e,e<4*n->∀d i,itr (stp ts C) d (jn C (itr (stp ts C) (i+d) e))=jn C (itr (stp ts C) i e):=fun e he d=>by
  induction d with
  |zero=>intro i;rfl
  |succ d ih=>
   intro i;have a1:itr (stp ts C) (d+1) (jn C (itr (stp ts C) (i+(d+1)) e))=itr (stp ts C) d (stp ts C (jn C (stp ts C (itr (stp ts C) (i+d) e)))):=by
    have:=zFW (stp ts C) (jn C (itr (stp ts C) (i+(d+1)) e)) 1 d
    exact this
   rw[a1,back1 _ (lt e _ he),ih i]
 have inR:∀e,e<4*n->∀k,itr (stp ts C) k e∈f e/\jn C (itr (stp ts C) k e)∈f e:=fun e he k=>by
  obtain⟨a,b,c,d,_⟩:=hf e he;rw[a];have m0:∀k,itr (stp ts C) k e∈orb ts C e (g e):=fun k=>by
   induction k with
   |zero=>exact orb_mem.mpr ⟨0,by lia,.inl rfl⟩
   |succ k ih=>exact(zCA hN hl hw he b d ((zCA hN hl hw he b d ih).2.1)).1
  exact⟨m0 k,(zCA hN hl hw he b d (m0 k)).2.1⟩
 have clo:∀e,e<4*n->∀x,x∈f e->stp ts C x∈f e/\jn C x∈f e:=fun e he x hx=>by
  obtain⟨a,b,c,d,_⟩:=hf e he;rw[a]at hx ⊢;have j:=(zCA hN hl hw he b d hx).2.1;exact⟨(zCA hN hl hw he b d j).1,j⟩
 have clos:∀e,e<4*n->∀x,x∈f e->∀k,itr (stp ts C) k x∈f e:=fun e he x hx k=>by
  induction k with
  |zero=>exact hx
  |succ k ih=>exact(clo e he _ ih).1
 have per:∀e,e<4*n->∀q,itr (stp ts C) (g e*q) e=e:=fun e he q=>by
  obtain⟨_,_,_,d,_⟩:=hf e he
  induction q with
  |zero=>rfl
  |succ q ih=>rw[qHt,zFW,d,ih]
 have reach:∀e x y,e<4*n->y<4*n->x∈f e->x∈f y->e∈f y:=fun e x y he hy hx hxy=>by
  have h1:∀i,i<g e->itr (stp ts C) i e∈f y->e∈f y:=fun i hi h=>by
   have:=clos y hy _ h (g e-i)
   rw[<- zFW,show g e-i+i=g e by lia,(hf e he).2.2.2.1]at this;exact this
  rw[(hf e he).1]at hx;obtain⟨i,hi,h|h⟩:=orb_mem.mp hx
  ·exact h1 i hi (h▸hxy)
  ·have:=(clo y hy _ hxy).2
   rw[h,jj _ (lt e i he)]at this;exact h1 i hi this
 have sameR:∀i j x,i<R->j<R->x∈f (hd i)->x∈f (hd j)->i=j:=fun i j x hi hj h1 h2=>by
  rcases qDj i j with h|h|h
  ·exact absurd (by rw[(hh i hi).2.1];exact reach _ x _ (hh j hj).1 (hh i hi).1 h2 h1) ((hh j hj).2.2 i h)
  ·exact h
  ·exact absurd (by rw[(hh j hj).2.1];exact reach _ x _ (hh i hi).1 (hh j hj).1 h1 h2) ((hh i hi).2.2 j h)
 have meet:∀e,e<4*n->∀k l,itr (stp ts C) k e≠itr (stp ts C) l (jn C e):=fun e he k l h=>by
  have p1:=(hf e he).2.1;have h1:itr (stp ts C) l (jn C e)=jn C (itr (stp ts C) (g e*l-l) e):=by
   have hle:l<=g e*l:=qDg l p1
   have:=back e he l (g e*l-l)
   rw[show g e*l-l+l=g e*l by lia,per e he]at this;exact this
  rw[h1]at h
  generalize g e*l-l=j at h
  have h2:itr (stp ts C) (k+g e*j) e=itr (stp ts C) k e:=by rw[zFW,per e he]
  have hle:j<=g e*j:=qDg j p1
  have:=zUK hN hne hl hw he (k+g e*j-j) j
  rw[show j+(k+g e*j-j)=k+g e*j by lia,h2]at this;exact this h
 have gl:∀i,i<R->((qA9 R).map hd++(qA9 R).map fun r=>jn C (hd r)).getD i 0=hd i:=fun i hi=>by
  rw[qA0,qA6 (by simpa using hi)];simp[hi]
 have gr:∀i,i<R->((qA9 R).map hd++(qA9 R).map fun r=>jn C (hd r)).getD (R+i) 0=jn C (hd i):=fun i hi=>by
  rw[qA0,qA7 (by simp)];simp[hi]
 have hlen:((qA9 R).map hd++(qA9 R).map fun r=>jn C (hd r)).length=2*R:=by simp;lia
 have jin:∀i,i<R->∀k,itr (stp ts C) k (jn C (hd i))∈f (hd i):=fun i hi k=>clos _ (hh i hi).1 _ (inR _ (hh i hi).1 0).2 k
 have split:∀i,i<2*R->i<R\/∃j,j<R/\i=R+j:=fun i hi=>by
  by_cases h:i<R
  ·exact .inl h
  ·exact .inr ⟨i-R,by lia,by lia⟩
 refine⟨(qA9 R).map hd++(qA9 R).map fun r=>jn C (hd r),hlen,fun h hm=>?_,fun e he=>?_,fun i j k l hi hj h=>?_⟩
 ·rcases qAq.mp hm with z|z
  ·obtain⟨r,hr,rfl⟩:=qAe.mp z;exact(hh r (qB0.mp hr)).1
  ·obtain⟨r,hr,rfl⟩:=qAe.mp z;exact jlt _ (hh r (qB0.mp hr)).1
 ·obtain⟨l,hm,hx⟩:=(zDV f e (4*n)).mp (zFE f (4*n) self e he);obtain⟨r,hr,rfl⟩:=zRL (d:=[]) hm;rw[hR]at hr;have hhr:=(hh r hr).1;rw[(hh r hr).2.1,(hf _ hhr).1]at hx;obtain⟨i,hi,h|h⟩:=orb_mem.mp hx
  ·exact⟨r,by rw[hlen];lia,i,by rw[gl r hr];exact h.symm⟩
  ·refine⟨R+r,by rw[hlen];lia,g (hd r)-i,?_⟩;rw[gr r hr]
   have:=back _ hhr (g (hd r)-i) i
   rw[show i+(g (hd r)-i)=g (hd r) by lia,(hf _ hhr).2.2.2.1]at this;rw[this];exact h.symm
 ·rw[hlen]at hi hj
  rcases split i hi with a|⟨i',a,rfl⟩<;>rcases split j hj with b|⟨j',b,rfl⟩
  ·rw[gl i a,gl j b]at h;exact sameR i j _ a b (inR _ (hh i a).1 k).1 (h▸(inR _ (hh j b).1 l).1)
  ·rw[gl i a,gr j' b]at h
   have:=sameR i j' _ a b (inR _ (hh i a).1 k).1 (h▸jin j' b l)
   subst this;exact absurd h (meet _ (hh i a).1 k l)
  ·rw[gr i' a,gl j b]at h
   have:=sameR i' j _ a b (jin i' a k) (h▸(inR _ (hh j b).1 l).1)
   subst this;exact absurd h.symm (meet _ (hh i' a).1 l k)
  ·rw[gr i' a,gr j' b]at h
   have:=sameR i' j' _ a b (jin i' a k) (h▸jin j' b l)
   rw[this]
theorem zQX(R:List (List Nat))(hz:R.length<=1000):lenD [rowsD R]=some (.int (R.length:Int)):=by
 show lenD [.lst (R.map fun l=>rowD (numL l))]=_;simp
section
variable{ts cs:List Nat}{n:Nat}{RR:List (List Nat)}(h:Rnds ts cs n RR)(hn:n<=8)
include h hn
end
section
variable{n:Nat}{cs:List Nat}(w:Wd n cs)(h2:∀x∈cs,cs.count x=2)
noncomputable def othP(cs:List Nat)(a:Nat):Nat:=if cs.idxOf (cs.getD a 0)≠a then cs.idxOf (cs.getD a 0)else a+1+(cs.drop (a+1)).idxOf (cs.getD a 0)
include w h2
theorem zEV{a:Nat}(ha:a<cs.length)(hz:cs.length<=100):zAW [.str ⟨cs.toArray⟩,.int (a:Int)]=okR (.int ((othP cs a:Nat):Int))/\othP cs a<cs.length/\cs.getD (othP cs a) 0=cs.getD a 0/\(cs.idxOf (cs.getD a 0)<othP cs a↔¬cs.idxOf (cs.getD a 0)<a):=by
 have hx:cs.getD a 0∈cs:=zBA ha;have hix:ixD (.str ⟨cs.toArray⟩) (.int (a:Int))=some (sgn (cs.getD a 0)):=zJC ha (by lia);obtain⟨A,B,C,e,hA,hB,hC⟩:=zMQ (h2 _ hx)
 generalize hxx:cs.getD a 0=x at *
 have hidx:cs.idxOf x=A.length:=by rw[e];exact zPL hA
 have hfind:=zE0 hx;rw[hidx]at hfind;have hrf:rfindD (.str ⟨cs.toArray⟩) [sgn x]=some (.int ((A.length+1+B.length:Nat):Int)):=by rw[e];exact zR1 hC
 have hlen:cs.length=A.length+1+B.length+1+C.length:=by rw[e];simp;lia
 have hpl:a=A.length\/a=A.length+1+B.length:=by
  have g:cs[a]?=some x:=by rw[qA2 ha];rw[qA0,qA2 ha]at hxx;simpa using hxx
  rw[e]at g
  rcases qF5 a A.length with z|z
  ·rw[qA6 z]at g;exact absurd (qBc g) hA
  ·rw[qA7 z]at g
   rcases qFu z with y|y
   ·exact .inl y.symm
   ·rw[show a-A.length=(a-A.length-1)+1 by lia,qAn]at g
    rcases qF5 (a-A.length-1) B.length with u|u
    ·rw[qA6 u]at g;exact absurd (qBc g) hB
    ·rw[qA7 u]at g
     rcases qFu u with v|v
     ·exact .inr (by lia)
     ·rw[show a-A.length-1-B.length=(a-A.length-1-B.length-1)+1 by lia,qAn]at g;exact absurd (qBc g) hC
 have gA:cs.getD A.length 0=x:=by rw[e];simp
 have gB:cs.getD (A.length+1+B.length) 0=x:=by
  rw[e,qA0,qA7 (by lia),show A.length+1+B.length-A.length=B.length+1 by lia,qAn,qA7 (by lia),Nat.sub_self];rfl
 have ho:othP cs a=if a=A.length then A.length+1+B.length else A.length:=by
  unfold othP;rw[hxx,hidx]
  by_cases z:a=A.length
  ·rw[if_neg (by lia),if_pos z,z,e]
   have:(A++x::(B++x::C)).drop (A.length+1)=B++x::C:=by
    rw[List.drop_append,List.drop_eq_nil_of_le (by lia),show A.length+1-A.length=1 by lia];rfl
   rw[this,zPL hB]
  ·rw[if_pos (by lia),if_neg z]
 have hrun:zAW [.str ⟨cs.toArray⟩,.int (a:Int)]=okR (.int ((othP cs a:Nat):Int)):=by
  refine zBN rfl (sg (mt1 rfl (d:=.int (A.length:Nat)) rfl (b2 rfl rfl hix) hfind) (qA8 0) ?_)
  by_cases z:a=A.length
  ·refine sp (nei rfl rfl (by simp[z])) (sr (mt1 rfl rfl (b2 rfl rfl hix) hrf) ⟨qA8 0,?_⟩) |>.trans ?_
   ·exact qA8 0
   ·rw[ho,if_pos z]
  ·refine(sx (d:=.int (A.length:Nat)) (nei rfl rfl (by simp;lia)) ?_).trans (by rw[ho,if_neg z]);rw[zTP];exact if_pos (.inl rfl)
 refine⟨hrun,?_,?_,?_⟩
 ·rw[ho];split<;>lia
 ·rw[ho];split
  ·exact gB
  ·exact gA
 ·rw[hidx,ho];split<;>lia
end
abbrev St2:Type:=Nat×Bool
def enS(row:List Nat)(q:St2):Nat:=inA row q.1+if q.2 then 0 else 1
def lvS(row:List Nat)(q:St2):Nat:=inA row q.1+if q.2 then 1 else 0
def nxS(cs C O:List Nat)(q:St2):St2:=if C.getD (O.idxOf (cs.getD q.1 0)) 0=0 then q else if C.getD (O.idxOf (cs.getD q.1 0)) 0=1 then(othP cs q.1,!q.2)else(othP cs q.1,q.2)
noncomputable def mvS(L:Nat)(q:St2):St2:=(if q.2 then(q.1+1)%L else(q.1+L-1)%L,q.2)
def stS(cs C O:List Nat)(q:St2):St2:=mvS cs.length (nxS cs C O q)
theorem xor1:∀s,s<4->s^^^1=(if s%2=0 then s+1 else s-1)/\s^^^2=(if s/2=0 then s+2 else s-2)/\s^^^3=3-s:=by decide
section
variable{n:Nat}{cs C:List Nat}(w:Wd n cs)(h2:∀x∈cs,cs.count x=2)(n1:1<=n)(hl:C.length=n)(hw:∀c∈C,c<3)
include w h2 n1 hl hw
theorem zXM{q:St2}(hq:q.1<cs.length)(hz:cs.length<=100):(nxS cs C (ords cs) q).1<cs.length:=by
 unfold nxS
 split
 ·exact hq
 ·split
  ·exact(zEV w h2 hq hz).2.1
  ·exact(zEV w h2 hq hz).2.1
theorem zW9{q:St2}:(stS cs C (ords cs) q).1<cs.length:=by
 have hlen:=w.len;unfold stS mvS;dsimp only
 split<;>exact qBq _ (by lia)
theorem zZX{q:St2}(hq:q.1<cs.length)(hz:cs.length<=100):jn C (enS (rowW cs) q)=lvS (rowW cs) (nxS cs C (ords cs) q):=by
 obtain⟨a,b⟩:=q;dsimp only at hq;obtain⟨_,o1,o2,o3⟩:=zEV w h2 hq hz;have i1:=zT6 w hq;have i2:=zT6 w o1;rw[o2]at i2;have hv:(ords cs).idxOf (cs.getD a 0)<n:=by rw[<- w.ol];exact qAg ((ords_mem cs _).mpr (zBA hq))
 have hc:C.getD ((ords cs).idxOf (cs.getD a 0)) 0<3:=hw _ (zBA (by lia));unfold lvS nxS enS;dsimp only
 generalize(ords cs).idxOf (cs.getD a 0)=v at *
 generalize cs.idxOf (cs.getD a 0)=fa at *
 have key:∀s,s<4->jn C (4*v+s)=4*v+(s^^^(C.getD v 0+1)):=fun s hs=>jn4 C hs
 have bb:∀(b:Bool),(if b=true then 0 else 1:Nat)=if b=true then 0 else 1:=fun _=>rfl
 have hs4:2*(if fa<a then 1 else 0)+(if b=true then 0 else 1)<4:=by split<;>split<;>lia
 have h0:=key _ hs4;rw[i1,Nat.add_assoc,h0];have x:=xor1 _ hs4;have hcs:C.getD v 0=0\/C.getD v 0=1\/C.getD v 0=2:=by lia
 rcases hcs with hcv|hcv|hcv
 ·rw[hcv,if_pos (show(0:Nat)=0 from rfl)];dsimp only;rw[i1,show(0:Nat)+1=1 from rfl,x.1];cases b<;>simp<;>by_cases z:fa<a<;>simp[z]
 ·rw[hcv,if_neg (show ¬(1:Nat)=0 by decide),if_pos (show(1:Nat)=1 from rfl)];dsimp only;rw[i2,show(1:Nat)+1=2 from rfl,x.2.1]
  by_cases z:fa<a
  ·rw[if_pos z,if_neg (fun y=>(o3.mp y) z)];cases b<;>simp
  ·rw[if_neg z,if_pos (o3.mpr z)];cases b<;>simp
 ·rw[hcv,if_neg (show ¬(2:Nat)=0 by decide),if_neg (show ¬(2:Nat)=1 by decide)];dsimp only;rw[i2,show(2:Nat)+1=3 from rfl,x.2.2]
  by_cases z:fa<a
  ·rw[if_pos z,if_neg (fun y=>(o3.mp y) z)];cases b<;>simp
  ·rw[if_neg z,if_pos (o3.mpr z)];cases b<;>simp
theorem zZV{q:St2}(hq:q.1<cs.length):nt (tsW n (rowW cs)) (lvS (rowW cs) q)=enS (rowW cs) (mvS cs.length q):=by
 obtain⟨a,b⟩:=q;dsimp only at hq;have hrl:(rowW cs).length=cs.length:=by simp[rowW]
 have hlen:=w.len;unfold lvS enS mvS;dsimp only;cases b with
 |true=>
  have h1:=(zEE w.tw (k:=a) (by lia)).1;have h3:=(zGF w.tw (zDF w.tw (k:=a) (by lia))).1;rw[h1,hrl]at h3;simp only[if_true]
  lia
 |false=>
  have hp:(a+cs.length-1)%cs.length<cs.length:=qBq _ (by lia);have hpa:((a+cs.length-1)%cs.length+1)%cs.length=a:=by
   rw[Nat.mod_add_mod,show a+cs.length-1+1=a+cs.length by lia,qC0,qAx hq]
  have h1:=(zEE w.tw (k:=(a+cs.length-1)%cs.length) (by lia)).2;rw[hrl,hpa]at h1;have hlt:=zDF w.tw (k:=a) (by lia);have h3:=(zGF w.tw (e:=inA (rowW cs) a) (by lia)).1;rw[hrl,h1]at h3;simp only[qDa,if_false]
  lia
theorem za7{q:St2}(hq:q.1<cs.length)(hz:cs.length<=100):enS (rowW cs) (stS cs C (ords cs) q)=stp (tsW n (rowW cs)) C (enS (rowW cs) q):=by
 unfold stS stp;rw[zZX w h2 n1 hl hw hq hz,zZV w h2 n1 hl hw (zXM w h2 n1 hl hw hq hz)]
end
theorem dixS{d k:EM}{ρ:Rh}{kvs:Kv}{x:Nat}{v:Int}(h1:d ρ=okR (.dct kvs))(h2:k ρ=okR (sgn x))(h:getW kvs (.inr ⟨#[x]⟩)=some (.int v)):eDIx d k ρ=okR (.int v):=by
 unfold eDIx;rw[h1,zA0];dsimp only;rw[h2,zA0]
 show(match getW kvs (.inr ⟨#[x]⟩)with|some w=>okR (swT w)|none=>none)=_
 rw[h];rfl
theorem tp20{e1 e2:EM}{ρ:Rh}{d1 d2:Dt}(h1:e1 ρ=okR d1)(h2:e2 ρ=okR d2):eTup (aCons e1 (aCons e2 aNil)) ρ=okR (.tup [d1,d2]):=by
 rw[zVS,zB0,h1,zA0,zB0,h2,zA0,zBM,zA0,zA0,zA0,if_pos (by simp)]
def Wy(cs C:List Nat)(kv:Kv):Prop:=∀x∈cs,getW kv (.inr ⟨#[x]⟩)=some (.int ((C.getD ((ords cs).idxOf x) 0:Nat):Int))
section
variable{n:Nat}{cs C:List Nat}(w:Wd n cs)(h2:∀x∈cs,cs.count x=2)(n1:1<=n)(hl:C.length=n)(hw:∀c∈C,c<3)
include w h2 n1 hl hw
theorem zKM{kv:Kv}(hk:Wy cs C kv){a:Nat}{b:Bool}(ha:a<cs.length)(hz:cs.length<=100):zAZ [.str ⟨cs.toArray⟩,.dct kv,.int (a:Int),.bl b]=okR (.tup [.int (((nxS cs C (ords cs) (a,b)).1:Nat):Int),.bl (nxS cs C (ords cs) (a,b)).2]):=by
 obtain⟨o0,_⟩:=zEV w h2 ha hz;have hix:ixD (.str ⟨cs.toArray⟩) (.int (a:Int))=some (sgn (cs.getD a 0)):=zJC ha (by lia);have hg:=hk _ (zBA (d:=0) ha);have hv:(ords cs).idxOf (cs.getD a 0)<n:=by rw[<- w.ol];exact qAg ((ords_mem cs _).mpr (zBA ha))
 have hc:C.getD ((ords cs).idxOf (cs.getD a 0)) 0<3:=hw _ (zBA (by lia));unfold nxS;dsimp only
 generalize C.getD ((ords cs).idxOf (cs.getD a 0)) 0=cw at *
 refine zBN rfl (sg (dixS rfl (b2 rfl rfl hix) hg) (qA8 0) ?_);have hcs:cw=0\/cw=1\/cw=2:=by lia
 rcases hcs with rfl|rfl|rfl
 ·exact sx (eqi rfl rfl rfl) (sr (tp20 rfl rfl) ⟨by simp[Dt.dep,Dt.depL],by simp[Dt.dep,Dt.depL]⟩)
 ·exact sp (eqi rfl rfl rfl) (sx (eqi rfl rfl rfl) (sr (d:=.tup [.int ((othP cs a:Nat):Int),.bl (!b)]) (tp20 (c2 rfl rfl o0) rfl) ⟨by simp[Dt.dep,Dt.depL],by simp[Dt.dep,Dt.depL]⟩))
 ·exact sp (eqi rfl rfl rfl) (sp (eqi rfl rfl rfl) (sr (d:=.tup [.int ((othP cs a:Nat):Int),.bl b]) (tp20 (c2 rfl rfl o0) rfl) ⟨by simp[Dt.dep,Dt.depL],by simp[Dt.dep,Dt.depL]⟩))
end
abbrev kS2(q:St2):List Sw:=[.int (q.1:Int),.bl q.2]
theorem zUV{p q:St2}(h:kNs (kS2 p)=kNs (kS2 q)):p=q:=by
 obtain⟨a,b⟩:=p;obtain⟨c,d⟩:=q;simp[kNs,kNo]at h;obtain⟨h1,h2⟩:=h
 have:b=d:=by cases b<;>cases d<;>simp_all
 rw[this,show a=c by lia]
theorem zX3(V:List St2)(q:St2):(posT (V.map kS2) (kS2 q)).isSome=decide (q∈V):=by
 induction V with
 |nil=>rfl
 |cons p r ih=>
  rw[qAk,zLU]
  by_cases h:p=q
  ·subst h;simp
  ·rw[if_neg fun z=>h (zUV z)]
   have:(q∈p::r)↔q∈r:=by simp[show ¬q=p from fun z=>h z.symm]
   simp only[qCq,ih,this]
abbrev gnD(V:List St2):Dt:=.dtt (V.map kS2) (V.map fun _=>Dt.bl true)
theorem zYH(V:List St2)(q:St2):dinT true (.tup [.int (q.1:Int),.bl q.2]) (gnD V)=some (.bl (!decide (q∈V))):=by
 show some (Dt.bl (if true=true then !(posT (V.map kS2) (kS2 q)).isSome else _))=_;rw[if_pos rfl,zX3]
theorem zW5{r:Ro}{V:List St2}{q:St2}{e1:EM}(hr:r[2]?=some (some (gnD V,1)))(he:e1 (full r)=okR (.tup [.int (q.1:Int),.bl q.2]))(hq:q∉V)(hV:V.length<=50000):sTput 2 0 e1 (eC (.bl true)) r=okR (.nx (r.set 2 (some (gnD (V++[q]),1)))):=by
 have hp:posT (V.map kS2) (kS2 q)=none:=by
  have:=zX3 V q
  rw[decide_eq_false hq]at this;exact Option.isSome_eq_false_iff.mp this |> Option.isNone_iff_eq_none.mp
 have hk:kyU (.tup [.int (q.1:Int),.bl q.2])=some (kS2 q):=rfl;unfold sTput;rw[show eC (.bl true) (full r)=okR (.bl true) from rfl,zA0];unfold putGo;rw[hr];dsimp only;rw[he,zA0,hk];dsimp only;have hfit:fitT (V.map kS2) (kS2 q)=true:=by unfold fitT;rw[hp];rfl
 have hpk:putKs (V.map kS2) (kS2 q)=(V++[q]).map kS2:=by unfold putKs;rw[hp,qAz];rfl
 have hpd:putDs (V.map kS2) (V.map fun _=>Dt.bl true) (kS2 q) (.bl true)=(V++[q]).map fun _=>Dt.bl true:=by unfold putDs;rw[hp,qAz];rfl
 rw[@if_pos _ (qA4 _) ⟨qA8 0,qA8 0,by simp;lia,hfit⟩,zA0,hpk,hpd]
noncomputable def itS(f:St2->St2):Nat->St2->St2
 |0,x=>x
 |k+1,x=>f (itS f k x)
theorem zEF(f:St2->St2)(x:St2)(p:Nat):∀k,itS f (k+p) x=itS f k (itS f p x)
 |0=>by rw[qBo];rfl
 |k+1=>by rw[show k+1+p=(k+p)+1 by lia];show f (itS f (k+p) x)=_;rw[zEF f x p k];rfl
theorem st20{c:TM}{a:SM}{r:Ro}{X:R Out}(hc:c (full r)=okR true)(ha:a r=X):sIf c a sNil r=X:=by
 rw[zNO,hc,zA0,if_pos rfl,ha]
noncomputable abbrev goC:TM:=tB (eB (dinT true) (eTup (aCons (eV 6) (aCons (eV 7) aNil))) (eV 2))
noncomputable abbrev goB:SM:=sSeq (sTput 2 0 (eTup (aCons (eV 6) (aCons (eV 7) aNil))) (eC (.bl true)))
 (sSeq (sUnp [8,7] [0,1,6,7] (eCall zAZ (aCons (eV 0) (aCons (eV 1) (aCons (eV 6) (aCons (eV 7) aNil))))))
 (sSeq (sSet 9 0 [8,0] (eB modD (eB addD (eV 8) (eC (.int 1))) (eBi lenD (aCons (eV 0) aNil))))
 (sSeq (sIf (tNo (tM (eV 7))) (sSet 9 0 [8,0] (eB modD (eB subD (eV 8) (eC (.int 1))) (eBi lenD (aCons (eV 0) aNil)))) sNil)
 (sSet 6 0 [9] (eV 9)))))
abbrev ws2(cs:List Nat)(kv:Kv)(V:List St2)(s3 s4 s5:Option Sl)(q:St2)(o8 o9:Option Sl):Ro:=[some (.str ⟨cs.toArray⟩,0),some (.dct kv,0),some (gnD V,1),s3,s4,s5,some (.int (q.1:Int),0),some (.bl q.2,0),o8,o9]
section
variable{n:Nat}{cs C:List Nat}(w:Wd n cs)(h2:∀x∈cs,cs.count x=2)(n1:1<=n)(hl:C.length=n)(hw:∀c∈C,c<3)
theorem go_c{kv:Kv}{V:List St2}{s3 s4 s5 o8 o9:Option Sl}{q:St2}:goC (full (ws2 cs kv V s3 s4 s5 q o8 o9))=okR (!decide (q∈V)):=tb1 (b2 (tp20 rfl rfl) rfl (zYH V q))
include w h2 n1 hl hw
theorem go_b{kv:Kv}(hk:Wy cs C kv)(hz:cs.length<=100){V:List St2}{s3 s4 s5 o8 o9:Option Sl}{q:St2}(hq:q.1<cs.length)(hV:V.length<=50000)(hn:q∉V):∃p8 p9,goB (ws2 cs kv V s3 s4 s5 q o8 o9)=okR (.nx (ws2 cs kv (V++[q]) s3 s4 s5 (stS cs C (ords cs) q) p8 p9)):=by
 have hlen:=w.len;have hnx:=zKM w h2 n1 hl hw hk (a:=q.1) (b:=q.2) hq hz;have htl:=zXM w h2 n1 hl hw hq hz;have hst:stS cs C (ords cs) q=mvS cs.length (nxS cs C (ords cs) q):=rfl;have hln:lenD [.str ⟨cs.toArray⟩]=some (.int (cs.length:Int)):=zD1 (by lia);rw[hst];rw[show((q.1,q.2):St2)=q from rfl]at hnx
 generalize nxS cs C (ords cs) q=t at hnx htl
 obtain⟨t,g⟩:=t;dsimp only at hnx htl;have m1:modD (.int ((t:Int)+1)) (.int (cs.length:Int))=some (.int (((t+1)%cs.length:Nat):Int)):=mdi (by lia) (by push_cast;rfl);have m2:modD (.int ((t:Int)-1)) (.int (cs.length:Int))=some (.int (((t+cs.length-1)%cs.length:Nat):Int)):=mdi (by lia) (by
  rw[show(t:Int)-1=((t+cs.length-1:Nat):Int)-(cs.length:Int) by lia,Int.sub_emod_right]
  rfl)
 have e1:goB (ws2 cs kv V s3 s4 s5 q o8 o9)=(sSeq (sUnp [8,7] [0,1,6,7] (eCall zAZ (aCons (eV 0) (aCons (eV 1) (aCons (eV 6) (aCons (eV 7) aNil))))))
 (sSeq (sSet 9 0 [8,0] (eB modD (eB addD (eV 8) (eC (.int 1))) (eBi lenD (aCons (eV 0) aNil))))
 (sSeq (sIf (tNo (tM (eV 7))) (sSet 9 0 [8,0] (eB modD (eB subD (eV 8) (eC (.int 1))) (eBi lenD (aCons (eV 0) aNil)))) sNil)
 (sSet 6 0 [9] (eV 9))))) (ws2 cs kv (V++[q]) s3 s4 s5 q o8 o9):=by
  unfold goB;rw[zF1,zW5 (V:=V) (q:=q) rfl (tp20 rfl rfl) hn hV,zA0];rfl
 have e2:∀V s3 s4 s5 o8 o9,eCall zAZ (aCons (eV 0) (aCons (eV 1) (aCons (eV 6) (aCons (eV 7) aNil)))) (frz (frzAt [0,1,6,7] (ws2 cs kv V s3 s4 s5 q o8 o9)))=okR (.tup [.int (t:Int),.bl g]):=fun V s3 s4 s5 o8 o9=>by
  rw[zE8];show zA2 (okR [_,_,_,_]) _=_;rw[zA0];exact hnx
 cases g with
 |true=>
  refine⟨some (.int (t:Int),0),some (.int (((t+1)%cs.length:Nat):Int),0),?_⟩;rw[e1];refine su (e2 _ _ _ _ _ _) rfl (sg (b2 (b2 rfl rfl (adi rfl)) (bi1 rfl hln) m1) (qA8 0) (sp (tn1 (k:=true) (tm1 rfl)) (ss (d:=.int (((t+1)%cs.length:Nat):Int)) rfl (qA8 0))))
 |false=>
  refine⟨some (.int (t:Int),0),some (.int (((t+cs.length-1)%cs.length:Nat):Int),0),?_⟩;rw[e1];refine su (e2 _ _ _ _ _ _) rfl (sg (b2 (b2 rfl rfl (adi rfl)) (bi1 rfl hln) m1) (qA8 0) ?_);refine sw (st20 (tn1 (k:=false) (tm1 rfl)) (ss (b2 (b2 rfl rfl (sbi rfl)) (bi1 rfl hln) m2) (qA8 0))) (ss (d:=.int (((t+cs.length-1)%cs.length:Nat):Int)) rfl (qA8 0))
theorem zY3{kv:Kv}(hk:Wy cs C kv)(hz:cs.length<=100){V:List St2}{s3 s4 s5:Option Sl}{q:St2}{p:Nat}(hq:q.1<cs.length)(hV:V.length+p<=50000)(hx:∀j,j<p->itS (stS cs C (ords cs)) j q∉V++(qA9 j).map fun i=>itS (stS cs C (ords cs)) i q)(hp:itS (stS cs C (ords cs)) p q∈V++(qA9 p).map fun i=>itS (stS cs C (ords cs)) i q) :
  ∀(d j N:Nat)(o8 o9:Option Sl),j+d=p->d<N->∃p8 p9,whGo goC goB N (ws2 cs kv (V++(qA9 j).map fun i=>itS (stS cs C (ords cs)) i q) s3 s4 s5 (itS (stS cs C (ords cs)) j q) o8 o9)=okR (.nx (ws2 cs kv (V++(qA9 p).map fun i=>itS (stS cs C (ords cs)) i q) s3 s4 s5 (itS (stS cs C (ords cs)) p q) p8 p9)):=by
 have hlt:∀j,(itS (stS cs C (ords cs)) j q).1<cs.length:=fun j=>by
  cases j with
  |zero=>exact hq
  |succ j=>exact zW9 w h2 n1 hl hw
 intro d
 induction d with
 |zero=>
  intro j N o8 o9 hj hN;obtain⟨N,rfl⟩:∃N',N=N'+1:=⟨N-1,by lia⟩
  have:j=p:=by lia
  subst this;refine⟨o8,o9,?_⟩;rw[whGo,go_c,zA0,if_neg (by simp only[decide_eq_true hp];decide)]
 |succ d ih=>
  intro j N o8 o9 hj hN;obtain⟨N,rfl⟩:∃N',N=N'+1:=⟨N-1,by lia⟩
  have hxj:=hx j (by lia);obtain⟨a8,a9,hb⟩:=go_b w h2 n1 hl hw hk hz (V:=V++(qA9 j).map fun i=>itS (stS cs C (ords cs)) i q) (s3:=s3) (s4:=s4) (s5:=s5) (o8:=o8) (o9:=o9) (hlt j) (by simp;lia) hxj;obtain⟨b8,b9,hy⟩:=ih (j+1) N a8 a9 (by lia) (by lia);refine⟨b8,b9,?_⟩;rw[whGo,go_c,zA0,if_pos (by simp only[decide_eq_false hxj];decide),hb,zA0];dsimp only;rw[<- hy,qC5,qAz,<- qBl];rfl
end
structure IvS(f:St2->St2)(L:Nat)(V hs:List St2):Prop where
 lv:∀q∈V,q.1<L
 lh:∀q∈hs,q.1<L
 mem:∀q,q∈V↔∃i,i<hs.length/\∃k,itS f k (hs.getD i (0,true))=q
 ap:∀i j k l,i<hs.length->j<hs.length->itS f k (hs.getD i (0,true))=itS f l (hs.getD j (0,true))->i=j
section
variable{n:Nat}{cs C:List Nat}(w:Wd n cs)(h2:∀x∈cs,cs.count x=2)(n1:1<=n)(hl:C.length=n)(hw:∀c∈C,c<3)(hz:cs.length<=100)
include w
theorem zTG{p q:St2}(hp:p.1<cs.length)(hq:q.1<cs.length)(h:enS (rowW cs) p=enS (rowW cs) q):p=q:=by
 have ev:∀k,inA (rowW cs) k%2=0:=fun k=>by unfold inA;lia
 have hrl:(rowW cs).length=cs.length:=by simp[rowW]
 obtain⟨a,b⟩:=p;obtain⟨c,d⟩:=q;dsimp only at hp hq;unfold enS at h;dsimp only at h;have h1:=ev a;have h3:=ev c;have hb:b=d:=by
  cases b<;>cases d<;>simp at h ⊢ <;> lia
 subst hb
 have:inA (rowW cs) a=inA (rowW cs) c:=by lia
 rw[zHR (fun a h=>w.tw.le1 h) (by lia) (by lia) this]
theorem zY8{q:St2}(hq:q.1<cs.length):enS (rowW cs) q<4*n:=by
 have hrl:(rowW cs).length=cs.length:=by simp[rowW]
 have:=zDF w.tw (k:=q.1) (by lia)
 unfold enS
 split<;>lia
theorem zV9{e:Nat}(he:e<4*n)(n1:1<=n):∃q:St2,q.1<cs.length/\enS (rowW cs) q=e:=by
 have hrl:(rowW cs).length=cs.length:=by simp[rowW]
 have hlen:=w.len;obtain⟨k,hk,h|h⟩:=zMA w.tw he
 ·exact⟨(k,false),by dsimp only;lia,by unfold enS;simp[h]⟩
 ·exact⟨((k+1)%(rowW cs).length,true),by dsimp only;rw[hrl];exact qBq _ (by lia),by unfold enS;simp[h]⟩
include h2 n1 hl hw hz
theorem zPF{q:St2}(hq:q.1<cs.length)(k:Nat):(itS (stS cs C (ords cs)) k q).1<cs.length:=by
 cases k with
 |zero=>exact hq
 |succ k=>exact zW9 w h2 n1 hl hw
theorem zNH{q:St2}(hq:q.1<cs.length):∀k,enS (rowW cs) (itS (stS cs C (ords cs)) k q)=itr (stp (tsW n (rowW cs)) C) k (enS (rowW cs) q)
 |0=>rfl
 |k+1=>by
  show enS (rowW cs) (stS cs C (ords cs) _)=stp _ _ _;rw[za7 w h2 n1 hl hw (zPF w h2 n1 hl hw hz hq k) hz,zNH hq k]
theorem zXZ{q:St2}(hq:q.1<cs.length):∃p,1<=p/\p<=4*n/\itS (stS cs C (ords cs)) p q=q/\∀j,1<=j->j<p->itS (stS cs C (ords cs)) j q≠q:=by
 obtain⟨hN,_⟩:=zNU w.tw;obtain⟨s1,s2⟩:=zF7 hN hl hw;obtain⟨p,p1,p2,p3,p4⟩:=zGT s1 s2 (zY8 w hq);refine⟨p,p1,p2,?_,fun j j1 j2 h=>p4 j j1 j2 ?_⟩
 ·refine zTG w (zPF w h2 n1 hl hw hz hq p) hq ?_;rw[zNH w h2 n1 hl hw hz hq,p3]
 ·rw[<- zNH w h2 n1 hl hw hz hq,h]
theorem zMV{kv:Kv}(hk:Wy cs C kv){V hs:List St2}(I:IvS (stS cs C (ords cs)) cs.length V hs){q:St2}(hq:q.1<cs.length)(hV:V.length+4*n<=50000) :
  ∃V' hs',IvS (stS cs C (ords cs)) cs.length V' hs'/\q∈V'/\(∀x∈V,x∈V')/\hs'.length=hs.length+(if q∈V then 0 else 1)/\V'.length<=V.length+4*n /\
   ∀(s3 s4 s5 o8 o9:Option Sl),∃q' p8 p9,sWhile goC goB (ws2 cs kv V s3 s4 s5 q o8 o9)=okR (.nx (ws2 cs kv V' s3 s4 s5 q' p8 p9)):=by
 by_cases hm:q∈V
 ·refine⟨V,hs,I,hm,fun x h=>h,by rw[if_pos hm];rfl,by lia,fun s3 s4 s5 o8 o9=>⟨q,o8,o9,?_⟩⟩;unfold sWhile;rw[show WN=999999+1 from zVM,whGo,go_c,zA0,if_neg (by simp only[decide_eq_true hm];decide)]
 ·obtain⟨p,p1,p2,p3,p4⟩:=zXZ w h2 n1 hl hw hz hq
  generalize hf:stS cs C (ords cs)=f at *
  have per:∀k,itS f (p*k) q=q:=fun k=>by
   induction k with
   |zero=>rfl
   |succ k ih=>rw[qHt,zEF,p3,ih]
  have ret:∀j,∃k,itS f k (itS f j q)=q:=fun j=>⟨p*j-j,by
   have:j<=p*j:=qDg j p1
   rw[<- zEF,show p*j-j+j=p*j by lia,per]⟩
  have notV:∀j,itS f j q∉V:=fun j h=>by
   obtain⟨i,hi,k,e⟩:=(I.mem _).mp h;obtain⟨m,hm2⟩:=ret j;exact hm ((I.mem q).mpr ⟨i,hi,m+k,by rw[zEF,e,hm2]⟩)
  have inP:∀k,itS f k q∈(qA9 p).map fun i=>itS f i q:=fun k=>by
   induction k with
   |zero=>exact qAe.mpr ⟨0,qB0.mpr (by lia),rfl⟩
   |succ k ih=>
    obtain⟨j,hj,e⟩:=qAe.mp ih;have hj':=qB0.mp hj;show f (itS f k q)∈_;rw[<- e]
    by_cases z:j+1=p
    ·refine qAe.mpr ⟨0,qB0.mpr (by lia),?_⟩;show q=itS f (j+1) q;rw[z,p3]
    ·exact qAe.mpr ⟨j+1,qB0.mpr (by lia),rfl⟩
  have distinct:∀j,j<p->itS f j q∉(qA9 j).map fun i=>itS f i q:=fun j hj h=>by
   obtain⟨i,hi,e⟩:=qAe.mp h;have hi':=qB0.mp hi;refine p4 (p-j+i) (by lia) (by lia) ?_;rw[zEF,e,<- zEF,show p-j+j=p by lia,p3]
  have gl:∀i,i<hs.length->(hs++[q]).getD i (0,true)=hs.getD i (0,true):=fun i hi=>by
   rw[qA0,qA0,qA6 hi]
  have ge:(hs++[q]).getD hs.length (0,true)=q:=by simp
  refine⟨V++(qA9 p).map fun i=>itS f i q,hs++[q],⟨?_,?_,?_,?_⟩,qAp _ (inP 0),fun x h=>qBb _ h,by rw[if_neg hm];simp,by simp;lia,fun s3 s4 s5 o8 o9=>?_⟩
  ·intro x hx
   rcases qAq.mp hx with h|h
   ·exact I.lv x h
   ·obtain⟨j,_,rfl⟩:=qAe.mp h
    have:=zPF w h2 n1 hl hw hz hq j
    rw[hf]at this;exact this
  ·intro x hx
   rcases qAq.mp hx with h|h
   ·exact I.lh x h
   ·rw[qB6.mp h];exact hq
  ·intro x;rw[qAq,I.mem x];constructor
   ·rintro(⟨i,hi,k,e⟩|h)
    ·exact⟨i,by simp;lia,k,by rw[gl i hi];exact e⟩
    ·obtain⟨j,_,e⟩:=qAe.mp h;exact⟨hs.length,by simp,j,by rw[ge];exact e⟩
   ·rintro⟨i,hi,k,e⟩
    by_cases z:i<hs.length
    ·rw[gl i z]at e;exact .inl ⟨i,z,k,e⟩
    ·have:i=hs.length:=by simp at hi;lia
     subst this;rw[ge]at e;rw[<- e];exact .inr (inP k)
  ·intro i j k l hi hj e
   by_cases a:i<hs.length<;>by_cases b:j<hs.length
   ·rw[gl i a,gl j b]at e;exact I.ap i j k l a b e
   ·have:j=hs.length:=by simp at hj;lia
    subst this;rw[gl i a,ge]at e;exact absurd ((I.mem _).mpr ⟨i,a,k,e⟩) (notV l)
   ·have:i=hs.length:=by simp at hi;lia
    subst this;rw[gl j b,ge]at e;exact absurd ((I.mem _).mpr ⟨j,b,l,e.symm⟩) (notV k)
   ·have h3:i=hs.length:=by simp at hi;lia
    have h4:j=hs.length:=by simp at hj;lia
    lia
  ·have hx:∀j,j<p->itS f j q∉V++(qA9 j).map fun i=>itS f i q:=fun j hj h=>by
    rcases qAq.mp h with z|z
    ·exact notV j z
    ·exact distinct j hj z
   have hp:itS f p q∈V++(qA9 p).map fun i=>itS f i q:=qAp _ (inP p)
   subst hf;obtain⟨p8,p9,h⟩:=zY3 w h2 n1 hl hw hk hz (s3:=s3) (s4:=s4) (s5:=s5) hq (by lia) hx hp p 0 WN o8 o9 (by lia) (by rw[zVM];lia);refine⟨itS (stS cs C (ords cs)) p q,p8,p9,?_⟩;unfold sWhile;rw[<- h];simp;rfl
end
section
variable{n:Nat}{cs C:List Nat}(w:Wd n cs)(h2:∀x∈cs,cs.count x=2)(n1:1<=n)(hn:n<=10)(hl:C.length=n)(hw:∀c∈C,c<3)
include w h2 n1 hn hl hw
noncomputable abbrev inB:SM:=sSeq (sSet 6 0 [4] (eV 4))
 (sSeq (sSet 7 0 [5] (eV 5))
 (sSeq (sSet 3 1 [3,2,4,5] (eB addD (eV 3) (eBi intD (aCons (eB (dinT true) (eTup (aCons (eV 4) (aCons (eV 5) aNil))) (eV 2)) aNil))))
 (sWhile goC goB)))
abbrev rs2(cs:List Nat)(kv:Kv)(V:List St2)(m:Nat)(l:Nat)(s4 s5 s6 s7 s8 s9:Option Sl):Ro:=[some (.str ⟨cs.toArray⟩,0),some (.dct kv,0),some (gnD V,1),some (.int (m:Int),l),s4,s5,s6,s7,s8,s9]
theorem zPJ{kv:Kv}(hk:Wy cs C kv){V hs:List St2}(I:IvS (stS cs C (ords cs)) cs.length V hs){a:Nat}{b:Bool}(ha:a<cs.length)(hV:V.length+4*n<=50000){l:Nat}{s6 s7 s8 s9:Option Sl} :
  ∃V' hs',IvS (stS cs C (ords cs)) cs.length V' hs'/\(a,b)∈V'/\(∀x∈V,x∈V')/\V'.length<=V.length+4*n/\∃t6 t7 t8 t9,inB (rs2 cs kv V hs.length l (some (.int (a:Int),0)) (some (.bl b,0)) s6 s7 s8 s9)=okR (.nx (rs2 cs kv V' hs'.length 1 (some (.int (a:Int),0)) (some (.bl b,0)) t6 t7 t8 t9)):=by
 have hlen:=w.len;obtain⟨V',hs',i1,i2,i3,i4,i5,i6⟩:=zMV w h2 n1 hl hw (by lia) hk I (q:=(a,b)) ha hV;obtain⟨q',p8,p9,h⟩:=i6 (some (.int (hs'.length:Int),1)) (some (.int (a:Int),0)) (some (.bl b,0)) s8 s9;refine⟨V',hs',i1,i2,i3,i5,some (.int (q'.1:Int),0),some (.bl q'.2,0),p8,p9,?_⟩;have hint:intD [.bl (!decide ((a,b)∈V))]=some (.int (if(a,b)∈V then 0 else 1)):=by
  by_cases z:(a,b)∈V
  ·rw[decide_eq_true z,if_pos z];rfl
  ·rw[decide_eq_false z,if_neg z];rfl
 have hadd:addD (.int (hs.length:Int)) (.int (if(a,b)∈V then 0 else 1))=some (.int (hs'.length:Int)):=adi (by rw[i4];split<;>simp);refine sg rfl (qA8 0) (sg rfl (qA8 0) (sg (b2 rfl (bi1 (b2 (tp20 rfl rfl) rfl (zYH V (a,b))) hint) hadd) (qAy 1) ?_));exact h
theorem zN6{kv:Kv}(hk:Wy cs C kv){f:Nat->List Nat}{g:Nat->Nat}
  (hf:∀e,e<4*n->f e=orb (tsW n (rowW cs)) C e (g e)/\1<=g e/\g e<=4*n/\itr (stp (tsW n (rowW cs)) C) (g e) e=e/\∀q,1<=q->q<g e->itr (stp (tsW n (rowW cs)) C) q e≠e) :
  zDM [.str ⟨cs.toArray⟩,.dct kv]=okR (.int ((rdS f (4*n)).1.length:Int)):=by
 have hlen:=w.len;have hz:cs.length<=100:=by lia
 obtain⟨hN,hne⟩:=zNU w.tw;obtain⟨ks,k1,K⟩:=zNS hN hne hl hw hf;have hln:lenD [.str ⟨cs.toArray⟩]=some (.int (cs.length:Int)):=zD1 (by lia);have I0:IvS (stS cs C (ords cs)) cs.length [] []:=⟨fun q h=>by simp at h,fun q h=>by simp at h,fun q=>by simp,fun i j k l hi=>by simp at hi⟩
 have main:nxR (sForR (iR1 (aCons (eBi lenD (aCons (eV 0) aNil)) aNil)) 4 (sFor [] (iSq (eTup (aCons (eC (.bl true)) (aCons (eC (.bl false)) aNil)))) (.one 5) inB) (rs2 cs kv [] 0 0 none none none none none none)) fun r=>∃V hs l s4 s5 s6 s7 s8 s9,r=rs2 cs kv V (qGj hs) l s4 s5 s6 s7 s8 s9/\IvS (stS cs C (ords cs)) cs.length V hs/\(∀a b,a<cs.length->(a,b)∈V)/\l<=1:=by
  rw[zGW,zJX (n:=cs.length) (al0 (bi1 rfl hln)) (by lia),zA0];refine zRG (fun k r=>∃V hs l s4 s5 s6 s7 s8 s9,r=rs2 cs kv V (qGj hs) l s4 s5 s6 s7 s8 s9/\IvS (stS cs C (ords cs)) cs.length V hs/\(∀a b,a<k->(a,b)∈V)/\V.length<=k*(8*n)/\l<=1) ⟨[],[],0,none,none,none,none,none,none,rfl,I0,fun a b h=>by lia,by simp,by lia⟩ (fun k hk' r hr=>?_) fun r hr=>?_
  ·obtain⟨V,hs,l,s4,s5,s6,s7,s8,s9,rfl,I,hA,hB,hll⟩:=hr;have hbd:k*(8*n)<=20*80:=qH6 (by lia) (by lia);obtain⟨V1,hs1,a1,a2,a3,a4,t6,t7,t8,t9,a5⟩:=zPJ w h2 n1 hn hl hw hk I (a:=k) (b:=true) hk' (by lia) (l:=l) (s6:=s6) (s7:=s7) (s8:=s8) (s9:=s9);obtain⟨V2,hs2,b1,b2',b3,b4,u6,u7,u8,u9,b5⟩:=zPJ w h2 n1 hn hl hw hk a1 (a:=k) (b:=false) hk' (by lia) (l:=1) (s6:=t6) (s7:=t7) (s8:=t8) (s9:=t9);unfold sFor;have hit:∀ρ:Rh,iSq (eTup (aCons (eC (.bl true)) (aCons (eC (.bl false)) aNil))) ρ=okR [.bl true,.bl false]:=fun ρ=>by
    rw[zQM,tp20 (d1:=.bl true) (d2:=.bl false) rfl rfl,zA0]
   rw[hit,zA0];have hgo:forGo (.one 5) inB [.bl true,.bl false] (rs2 cs kv V hs.length l (some (.int (k:Nat),0)) s5 s6 s7 s8 s9)=okR (.nx (rs2 cs kv V2 hs2.length 1 (some (.int (k:Nat),0)) (some (.bl false,0)) u6 u7 u8 u9)):=by
    rw[forGo];show zA2 (inB (rs2 cs kv V hs.length l (some (.int (k:Int),0)) (some (.bl true,0)) s6 s7 s8 s9)) _=_;rw[a5,zA0];dsimp only;rw[forGo];show zA2 (inB (rs2 cs kv V1 hs1.length 1 (some (.int (k:Int),0)) (some (.bl false,0)) t6 t7 t8 t9)) _=_;rw[b5,zA0];rfl
   refine zAX hgo ⟨V2,hs2,1,_,_,_,_,_,_,rfl,b1,fun a b hab=>?_,?_,qA8 1⟩
   ·by_cases z:a=k
    ·subst z;cases b with
     |true=>exact b3 _ a2
     |false=>exact b2'
    ·exact b3 _ (a3 _ (hA a b (by lia)))
   ·rw[qEx];lia
  ·obtain⟨V,hs,l,s4,s5,s6,s7,s8,s9,rfl,I,hA,hB,hll⟩:=hr;exact⟨V,hs,l,s4,s5,s6,s7,s8,s9,rfl,I,hA,hll⟩
 obtain⟨r,hr,V,hs,l,s4,s5,s6,s7,s8,s9,rfl,I,hA,hll⟩:=zCS main;have hH:Hd1 (stp (tsW n (rowW cs)) C) (4*n) (hs.map (enS (rowW cs))):=by
  have gd:∀i,i<hs.length->(hs.map (enS (rowW cs))).getD i 0=enS (rowW cs) (hs.getD i (0,true)):=fun i hi=>by
   simp[hi]
  have hm:∀i,i<hs.length->(hs.getD i (0,true)).1<cs.length:=fun i hi=>I.lh _ (zBA hi)
  refine⟨fun h hh=>?_,fun e he=>?_,fun i j k l hi hj e=>?_⟩
  ·obtain⟨q,hq,rfl⟩:=qAe.mp hh;exact zY8 w (I.lh q hq)
  ·obtain⟨q,q1,q2⟩:=zV9 w he n1;obtain⟨i,hi,k,e1⟩:=(I.mem q).mp (hA q.1 q.2 q1);refine⟨i,by simpa using hi,k,?_⟩;rw[gd i hi,<- zNH w h2 n1 hl hw hz (hm i hi),e1,q2]
  ·rw[qAi]at hi hj;rw[gd i hi,gd j hj,<- zNH w h2 n1 hl hw hz (hm i hi),<- zNH w h2 n1 hl hw hz (hm j hj)]at e;exact I.ap i j k l hi hj (zTG w (zPF w h2 n1 hl hw hz (hm i hi) k) (zPF w h2 n1 hl hw hz (hm j hj) l) e)
 have hll2:=zV5 (zF7 hN hl hw).1 hH K;rw[qAi,k1]at hll2;refine zBN rfl (sw (r':=[some (.str ⟨cs.toArray⟩,0),some (.dct kv,0),some (gnD [],1),none,none,none,none,none,none,none]) rfl (sg (d:=.int 0) rfl (qA8 0) (sw hr (sr (b2 rfl rfl (dvi (by decide))) ⟨qA8 0,qA8 0⟩ |>.trans ?_))));rw[hll2,show((2*(rdS f (4*n)).1.length:Nat):Int)/2=((rdS f (4*n)).1.length:Int) by lia]
theorem zN2(h8:n<=8):∃(f:Nat->List Nat)(g:Nat->Nat),(∀e,e<4*n->f e=orb (tsW n (rowW cs)) C e (g e)/\1<=g e/\g e<=4*n/\itr (stp (tsW n (rowW cs)) C) (g e) e=e/\∀q,1<=q->q<g e->itr (stp (tsW n (rowW cs)) C) q e≠e)/\zBO [rowD (numL (tsW n (rowW cs))),rowD (numL C)]=okR (.int ((rdS f (4*n)).1.length:Int)):=by
 obtain⟨hN,hne⟩:=zNU w.tw;obtain⟨f,g,hf,hfl⟩:=zOR hN hl hw;refine⟨f,g,hf,?_⟩;have r1:=zKD (cs:=C) hN (by lia) hfl fun e he=>by
  obtain⟨h0,h1,h2,h3,h4⟩:=hf e he;rw[h0];exact zMZ hN hl (by lia) hw he h1 h2 h3 h4
 have hle:=(zKF hfl (4*n)).1;have h2:=zQX (rdS f (4*n)).1 (by lia);unfold zBO zE6
 generalize rowD (numL (tsW n (rowW cs)))=T at r1 ⊢
 generalize rowD (numL C)=C' at r1 ⊢
 generalize hRR:(rdS f (4*n)).1=RR at *
 generalize rowsD RR=Z at r1 h2
 simp[startO,r1,h2]
end
theorem zVV{n:Nat}{ls row:List Nat}(tw:Twice n row)(hnd:ls.Nodup)(hl:ls.length=n):(wrd ls row).Perm (ls++ls):=by
 have h1:row.Perm (qA9 n++qA9 n):=List.perm_iff_count.mpr fun v=>by
  rw[tw.cnt,qBz]
  by_cases h:v<n
  ·rw[if_pos h,qDs.count,if_pos (qB0.mpr h)]
  ·rw[if_neg h,qBt.mpr fun z=>h (qB0.mp z)]
 have h2:(qA9 n).map (fun p=>ls.getD p 0)=ls:=by
  refine qC7 (by simp[hl]) fun i a b=>?_
  simp[b]
 have:=h1.map fun p=>ls.getD p 0
 rw[qAz,h2]at this;exact this
theorem zWB{n:Nat}{cs ls:List Nat}(hp:cs.Perm (ls++ls))(hn:ls.Nodup):sortC ls=sosL cs:=by
 have h1:=(sortC_perm ls).nodup_iff.mpr hn;have hlt:(sortC ls).Pairwise (· < ·):=by
  have a:=sortC_asc ls;exact(qI2 a h1).imp fun⟨h,g⟩=>by omega
 refine zIO hlt (zWA cs) fun x=>?_
 rw[(sortC_perm ls).mem_iff,sos_mem,hp.mem_iff,qAq,or_self]
theorem zV1(x:Nat)(l:List Nat)(hz:l.length<=1000):inD true (sgn x) (.lst (l.map sgn))=some (.bl (!decide (x∈l))):=by
 have hd:Dt.depL (l.map sgn)=0:=zV6 fun d hd=>by obtain⟨c,_,rfl⟩:=qAe.mp hd;rfl
 have hh:hasD (sgn x) (l.map sgn)=some (decide (x∈l)):=by
  unfold hasD;rw[if_pos ⟨rfl,hd⟩]
  congr 1
  induction l with
  |nil=>rfl
  |cons a r ih=>
   have h1:Dt.eq (sgn a) (sgn x)=decide (x=a):=by
    show decide ((⟨#[a]⟩:Str)=⟨#[x]⟩)=_;refine decide_eq_decide.mpr ⟨fun h=>?_,fun h=>by rw[h]⟩
    injection h with h
    simpa using h.symm
   rw[qAk,qCg,h1,ih (by simp at hz;omega) (zV6 fun d hd=>by obtain⟨c,_,rfl⟩:=qAe.mp hd;rfl)]
   by_cases z:x=a<;>simp[z]
 show(hasD (sgn x) (l.map sgn)).map _=_
 rw[hh];rfl
theorem zYE{r:Ro}{i k:Nat}{e1 e2:EM}{x:Nat}{b:Int}{kvs:Kv}(h:r[i]?=some (some (.dct kvs,k+1)))(h2:e2 (full r)=okR (.int b))(h1:e1 (full r)=okR (sgn x))(hz:kvs.length<=10000) :
  sDput i e1 e2 r=okR (.nx (r.set i (some (.dct (putW kvs (.inr ⟨#[x]⟩) (.int b)),k+1)))):=by
 unfold sDput;rw[h2,zA0,h];dsimp only;rw[h1,zA0];exact if_pos (by omega)
theorem zXT{ls xs:List Nat}{ρ:Rh}(hi:ρ[3]?=some (some (rowD (numL xs))))(h3:ρ[2]?=some (some (.str ⟨ls.toArray⟩)))(hl:ρ.length=12)(hx:∀x∈xs,x<ls.length)(hz:ls.length<=100)(hz2:xs.length<=1000):eMt joinD (eC (.str (qIn ""))) (aCons (eComp (iSq (eV 3)) 1 (.one 12) Mi.tYes (eB ixD (eV 2) (eV 12))) aNil) ρ=okR (.str ⟨(wrd ls xs).toArray⟩):=by
 have hc:eComp (iSq (eV 3)) 1 (.one 12) Mi.tYes (eB ixD (eV 2) (eV 12)) ρ=okR (.lst ((wrd ls xs).map sgn)):=by
  refine qHy (zBS (i:=12) (fun k:Nat=>Dt.int (k:Int)) (fun p=>sgn (ls.getD p 0)) xs rfl hl.symm (fun p hp=>?_) _ ?_ (by omega)) ?_
  ·have g3:(ρ++[some (Dt.int (p:Int))])[2]?=some (some (.str ⟨ls.toArray⟩)):=by rw[qA6 (by omega)];exact h3
   have g10:(ρ++[some (Dt.int (p:Int))])[12]?=some (some (.int (p:Int))):=by rw[qA7 (by omega)];simp[hl]
   exact b2 (v1 g3) (v1 g10) (zJC (hx p hp) (by omega))
  ·simp only[zQM,x_eV,hi,zA0,numD]
  ·unfold wrd;rw[qB3];rfl
 have hj:=zHQ (wrd ls xs) (by rw[zE9];omega);simp only[zNP,x_eC,zB0,zBM,hc,zA0,hj,zA4];rfl
theorem zRP(ns:List Int)(hl:ns.length<=63)(hw:∀i∈ns,i.natAbs.log2<2 ^ 20):zJ5 [.scr ns]=okR (.bl true):=by
 obtain⟨c0,a0,b0,e0⟩:=zJK ns 0 (by omega) (by omega);obtain⟨cB,a1,b1,e1⟩:=zJK ns 1 (by omega) (by omega);obtain⟨n,hn⟩:∃n:Nat,1+c0%10=(n:Int):=⟨(1+c0%10).toNat,by omega⟩
 have n1:1<=n:=by omega
 have n10:n<=10:=by omega
 obtain⟨row,tw,hrow⟩:=zQY ns n n1 n10;obtain⟨ls,hnd,hll,hlet⟩:=zJ8 cB n n10;have hp:=zVV tw hnd hll;have hrl:=tw.len;have hmem:∀x∈row,x<ls.length:=fun x hx=>by rw[hll];exact(tw.mem x).mp hx
 have w0:=zZ5 hp hnd;rw[hll]at w0;have hj:∀ρ:Rh,ρ.length=12->ρ[3]?=some (some (rowD (numL row)))->ρ[2]?=some (some (.str ⟨ls.toArray⟩))->_:=fun ρ h1 h2 h3=>zXT h2 h3 h1 hmem (by omega) (by omega)
 generalize hcs:wrd ls row=cs at hp w0 hj
 have h2:∀x∈cs,cs.count x=2:=fun x hx=>zJG hp hnd hx
 have hlen:=w0.len;have hsl:=zWC w0;have hso:=zWB (n:=n) hp hnd;have hsox:soxD [.str ⟨ls.toArray⟩]=some (.lst ((sosL cs).map sgn)):=by
  rw[<- hso];exact @if_pos _ (qA4 _) (show ls.toArray.size<64 by simp;omega) _ _ _
 have hch:∀k:Nat,∃c:Nat,k<10->c<3/\∀(e1 e2:EM)(ρ:Rh),e1 ρ=okR (.scr ns)->e2 ρ=okR (.int (30+(k:Int)))->eB modD (eCall zAO (aCons e1 (aCons e2 aNil))) (eC (.int 3)) ρ=okR (.int (c:Int)):=fun k=>by
  by_cases h:k<10
  ·obtain⟨c,p,q,e⟩:=zJK ns (30+(k:Int)) (by omega) (by omega);exact⟨(c%3).toNat,fun _=>⟨by omega,fun e1 e2 ρ r1 r2=>b2 (c2 r1 r2 e) rfl (mdi (by decide) (by omega))⟩⟩
  ·exact⟨0,fun z=>absurd z h⟩
 obtain⟨cf,hcf⟩:=qCj hch;obtain⟨c,hc⟩:∃c:List Nat,c=(qA9 n).map cf:=⟨_,rfl⟩
 have hcl:c.length=n:=by rw[hc];simp
 have hc3:∀x∈c,x<3:=fun x hx=>by
  rw[hc]at hx;obtain⟨k,hk,rfl⟩:=qAe.mp hx;exact(hcf k (by have:=qB0.mp hk;omega)).1
 have hcomp:∀ρ:Rh,ρ.length=12->ρ[0]?=some (some (.scr ns))->ρ[1]?=some (some (.int (n:Int)))->eComp (iR1 (aCons (eV 1) aNil)) 1 (.one 12) Mi.tYes (eB modD (eCall zAO (aCons (eV 0) (aCons (eB addD (eC (.int 30)) (eV 12)) aNil))) (eC (.int 3))) ρ=okR (rowD (numL c)):=fun ρ hρ r0 r1=>by
  refine qHy (zBS (c:=Mi.tYes) (i:=12) (fun k:Nat=>Dt.int (k:Int)) (fun k=>Dt.int ((cf k:Nat):Int)) (qA9 n) rfl hρ.symm (fun k hk=>?_) _ ?_ (by simp;omega)) ?_
  ·refine(hcf k (by have:=qB0.mp hk;omega)).2 _ _ _ (v1 ?_) (b2 rfl (v1 ?_) (adi rfl))
   ·rw[qA6 (by omega)];exact r0
   ·rw[qA7 (by omega),hρ];rfl
  ·rw[zJX (n:=n) (al0 (v1 r1)) (by omega),zEW]
  ·rw[hc];unfold rowD numL;rw[qB3,qB3];rfl
 obtain⟨hlC,hwC⟩:=zaC w0 n1 n10 hcl hc3 hsl;have hcb:=zGC w0 n1 n10 hcl hsl hc3;have hends:=zNG (numL (cbW c (sosL cs) (ords cs))) (by simp[numL];omega);rw[show((numL (cbW c (sosL cs) (ords cs))).length:Int)=(n:Int) by simp[numL,hlC]]at hends;have dl:∀(l:List Int) m,(rowD l).dep<=m+1:=fun l m=>by unfold rowD;simp
 refine zBN rfl (sg (b2 rfl (b2 (c2 rfl rfl e0) rfl (mdi (by decide) rfl)) (adi hn)) (qAy 1) (sg (c2 (c2 rfl rfl e1) rfl hlet) (qAy 1) (sg (c3 rfl rfl rfl hrow) (dl _ 8) (sg (hj _ rfl rfl rfl) (qA8 0) (sg (hcomp _ rfl rfl rfl) (dl _ 0) (sw (r':=[some (.scr ns,0),some (.int (n:Int),1),some (.str ⟨ls.toArray⟩,1),some (rowD (numL row),9),some (.str ⟨cs.toArray⟩,0),some (rowD (numL c),1),some (.dct [],1),none,none,none,none,none]) rfl ?_))))));refine zBZ fun bb hb=>?_
 rw[zSE];rw[ien (xs:=(sosL cs).map sgn) (bi1 rfl hsox),zA0];show nxR (forGo (.tup [7,8]) _ _ [some (.scr ns,0),some (.int (n:Int),1),some (.str ⟨ls.toArray⟩,0),some (rowD (numL row),9),some (.str ⟨cs.toArray⟩,0),some (rowD (numL c),1),some (.dct [],1),none,none,none,none,none]) _;refine zOV ((sosL cs).map sgn) (fun k r=>∃(kv:Kv)(o7 o8:Option Sl),kv.length<=k/\(∀j,j<k->getW kv (.inr ⟨#[(sosL cs).getD j 0]⟩)=some (.int ((c.getD j 0:Nat):Int)))/\r=[some (.scr ns,0),some (.int (n:Int),1),some (.str ⟨ls.toArray⟩,0),some (rowD (numL row),9),some (.str ⟨cs.toArray⟩,0),some (rowD (numL c),1),some (.dct kv,1),o7,o8,none,none,none]) ⟨[],none,none,by simp,fun j h=>by omega,rfl⟩ (fun k x hx r hr=>?_) fun r hr=>?_
 ·obtain⟨kv,o7,o8,k1,k2,rfl⟩:=hr;obtain⟨hk,rfl⟩:=zPQ hx;refine zAX (zYE (x:=(sosL cs).getD k 0) (b:=((c.getD k 0:Nat):Int)) (kvs:=kv) (k:=0) rfl (b2 rfl rfl (zPA c k (by omega))) rfl (by omega)) ⟨_,_,_,?_,fun j hj=>?_,rfl⟩
  ·have:=zLQ kv (.inr ⟨#[(sosL cs).getD k 0]⟩) (.int ((c.getD k 0:Nat):Int))
   omega
  ·rw[zM8]
   by_cases z:j=k
   ·subst z;rw[if_pos rfl]
   ·rw[if_neg fun e=>?_]
    ·exact k2 j (by omega)
    ·injection e with e
     injection e with e
     have e':(sosL cs).getD j 0=(sosL cs).getD k 0:=by simpa using e
     have i1:=idx_getD (sos_nodup cs) (v:=j) (by omega);have i2:=idx_getD (sos_nodup cs) (v:=k) hk;rw[e',i2]at i1;exact z i1.symm
 obtain⟨kv,o7,o8,k1,k2,rfl⟩:=hr;rw[qAi]at k1 k2;have hWy:Wy cs (cbW c (sosL cs) (ords cs)) kv:=fun x hx=>by
  have hm:=(sos_mem x cs).mpr hx;have ho:=(ords_mem cs x).mpr hx;have hi:=qAg hm
  have:=k2 _ hi
  rw[getD_idx hm]at this;rw[this,zQB _ _ _ (qAg ho),getD_idx ho]
 subst hb;refine sg el0 (by simp) ?_;refine zBZ fun bb hb=>?_
 rw[zSE];show nxR (zA2 (okR (cs.map sgn)) _) _;rw[zA0];refine zUI sgn cs (fun k r=>∃(o8:Option Sl),r=[some (.scr ns,0),some (.int (n:Int),1),some (.str ⟨ls.toArray⟩,0),some (rowD (numL row),9),some (.str ⟨cs.toArray⟩,0),some (rowD (numL c),1),some (.dct kv,1),o7,o8,some (.lst ((ords (cs.take k)).map sgn),9),none,none]) ⟨o8,rfl⟩ (fun k x hx r hr=>?_) fun r hr=>?_
 ·obtain⟨o8,rfl⟩:=hr;have hk:k<cs.length:=(qA3.mp hx).1;have ht:cs.take (k+1)=cs.take k++[x]:=by rw[qG0,hx];rfl
  have hle:(ords (cs.take k)).length<=100:=qAl (zB5 _ _ (ords_nodup _) fun y hy=>List.mem_of_mem_take ((ords_mem _ y).mp hy)) (by omega);have hin:=zV1 x (ords (cs.take k)) (by omega);rw[ht,zCZ]
  by_cases z:x∈ords (cs.take k)
  ·rw[decide_eq_true z]at hin;rw[if_pos z];exact zAX (sf (tb1 (b2 rfl rfl hin))) ⟨_,rfl⟩
  ·rw[decide_eq_false z]at hin;rw[if_neg z];refine zAX (st20 (tb1 (b2 rfl rfl hin)) (app1 (k:=8) rfl rfl (by simp;omega) rfl)) ⟨some (sgn x,0),?_⟩;rw[qAz];rfl
 obtain⟨o8,rfl⟩:=hr;rw[qEq];subst hb;have hlist:∀ρ:Rh,ρ.length=12->ρ[6]?=some (some (.dct kv))->ρ[9]?=some (some (.lst ((ords cs).map sgn)))->eComp (iSq (eV 9)) 1 (.one 12) Mi.tYes (eDIx (eV 6) (eV 12)) ρ=okR (rowD (numL (cbW c (sosL cs) (ords cs)))):=fun ρ hρ r6 r9=>by
  refine qHy (zBS (c:=Mi.tYes) (i:=12) sgn (fun x=>Dt.int ((c.getD ((sosL cs).idxOf x) 0:Nat):Int)) (ords cs) rfl hρ.symm (fun x hx=>?_) _ ?_ (by rw[w0.ol];omega)) ?_
  ·have hxc:=(ords_mem cs x).mp hx
   have:=hWy x hxc
   rw[zQB _ _ _ (qAg hx),getD_idx hx]at this;refine dixS (v1 ?_) (v1 ?_) this
   ·rw[qA6 (by omega)];exact r6
   ·rw[qA7 (by omega),hρ];rfl
  ·rw[zQM,v1 r9,zA0]
  ·rw[numD];unfold cbW;rw[qB3];rfl
 have heq:Dt.eq (rowD (numL (cbW c (sosL cs) (ords cs)))) (rowD (numL (cbW c (sosL cs) (ords cs))))=true:=by rw[zTC];simp
 have heqc:Dt.eq (rowD (numL c)) (rowD (numL c))=true:=by rw[zTC];simp
 have hset:=zPE (i:=11) (n:=0) (l:=0) (ls:=numL (cbW c (sosL cs) (ords cs))) (e1:=eC (.int 0)) (e2:=eC (.int 7)) (z:=0) (v:=7) (r:=[some (.scr ns,0),some (.int (n:Int),1),some (.str ⟨ls.toArray⟩,0),some (rowD (numL row),9),some (.str ⟨cs.toArray⟩,0),some (rowD (numL c),1),some (.dct kv,1),o7,o8,some (.lst ((ords cs).map sgn),9),some (rowD (numL c),1),some (rowD (numL (cbW c (sosL cs) (ords cs))),1)]) rfl rfl rfl (by omega) (by simp[numL,hlC];omega);refine sg (bi1 rfl rfl) (dl _ 0) (sg (c2 rfl rfl hcb) (dl _ 0) (sp (to0 (tn1 (k:=true) (tm1 (c2 rfl rfl hends))) (to0 (ned rfl (hlist _ rfl rfl rfl) (dl _ 39) (dl _ 39) heq rfl) (ned rfl rfl (dl _ 39) (dl _ 39) heqc rfl))) (sw hset (sg (c2 rfl rfl hcb) (dl _ 0) (sp (to0 (tn1 (k:=true) (tm1 (c2 rfl rfl hends))) (ned rfl (hlist _ rfl rfl rfl) (dl _ 39) (dl _ 39) heq rfl)) (sr (d:=.bl true) ?_ ⟨qA8 0,qA8 0⟩))))))
 by_cases h8:8<n
 ·rw[zVT,b2 (d:=.bl true) rfl rfl (cmi (decide_eq_true (show(8:Int)<n by omega))),zA0];rfl
 ·obtain⟨f,g,hf,hmr⟩:=zN2 w0 h2 n1 n10 hlC hwC (by omega);have hlm:=zN6 w0 h2 n1 n10 hlC hwC hWy hf;have hnet:=zZW (c:=c) w0 n1 n10 hcl hsl (by omega);rw[zVT,b2 (d:=.bl false) rfl rfl (cmi (decide_eq_false (show ¬(8:Int)<n by omega))),zA0];dsimp only;rw[if_neg (by decide)];exact b2 (c2 (c1 rfl hnet) rfl hmr) (c2 rfl rfl hlm) (by simp)
end Mp
set_option maxHeartbeats 4000000
namespace Q20
open PySem PyProof.Rows
open L2 hiding Rep RepL
open L3
open Mp
noncomputable def top(i:Nat):Stmt:=qEb.main.body.getD i (.Pass ⟨0,0,0,0⟩)
theorem S__law_cell:FnScope ["_law_script","_law_k","_law_cell_here"] ["_law_script","_law_k"] (zAA (top 20)):=fsc
theorem zLB:FnScope ["_law_found","_law_many_here"] ["_law_found","_law_many_here"] (zAA (top 21)):=fsc
theorem S__law_letters:FnScope ["_law_cell_here","_law_n","_law_left","_law_found","_law_k","_law_at"] ["_law_cell_here","_law_n"] (zAA (top 23)):=fsc
theorem S__law_other_place:FnScope ["_law_word","_law_at","_law_there"] ["_law_word","_law_at"] (zAA (top 24)):=fsc
theorem S__law_next:FnScope ["_law_word","_law_ways","_law_at","_law_onward","_law_way"] ["_law_word","_law_ways","_law_at","_law_onward"] (zAA (top 25)):=fsc
theorem S__law_many:FnScope ["_law_word","_law_ways","_law_gone","_law_many_here","_law_at","_law_onward","_law_here","_law_going","_law_turned","_law_back"] ["_law_word","_law_ways"] (zAA (top 26)):=fsc
theorem S__law_row:FnScope ["_law_script","_law_at","_law_n","_law_left","_law_number","_law_row_here","_law_k"] ["_law_script","_law_at","_law_n"] (zAA (top 22)):=fsc
theorem zJW:FnScope ["word"] ["word"] (zAA (top 13)):=fsc
theorem zI6:FnScope ["word"] ["word"] (zAA (top 16)):=fsc
theorem S_choice_by:FnScope ["word","choice","letters"] ["word","choice"] (zAA (top 17)):=fsc
theorem zSC:FnScope ["way","seat"] ["way","seat"] (zAA (top 6)):=fsc
theorem S_joined_end:FnScope ["choice","end","place"] ["choice","end"] (zAA (top 11)):=fsc
theorem S_round_of:FnScope ["net","choice","end","ends","come"] ["net","choice","end"] (zAA (top 8)):=fsc
theorem S_rounds_of:FnScope ["net","choice","rounds","passed","end","ends"] ["net","choice"] (zAA (top 9)):=fsc
theorem zI7:FnScope ["net","choice"] ["net","choice"] (zAA (top 10)):=fsc
theorem S_entry_at:FnScope ["word","at","place"] ["word","at"] (zAA (top 18)):=fsc
theorem S_net_by:FnScope ["word","entries","net","at","entry","out"] ["word"] (zAA (top 15)):=fsc
theorem S_law:FnScope ["_law_script","_law_n","_law_letters_here","_law_row_here","_law_word","_law_choice","_law_ways","_law_k","_law_letter","_law_order","_law_handed","_law_found"] ["_law_script"] (zAA (top 27)):=fsc
section
variable{P:qIb}{w:World}{K:qA1}{mg:Str->Option Value}{base:Heap}
structure Bd(K:qA1)(mg:Str->Option Value):Prop where
 d0:Def K mg "_law_cell" (top 20)
 d1:Def K mg "_law_ends" (top 21)
 d2:Def K mg "_law_letters" (top 23)
 d3:Def K mg "_law_other_place" (top 24)
 d4:Def K mg "_law_next" (top 25)
 d5:Def K mg "_law_many" (top 26)
 d6:Def K mg "_law_row" (top 22)
 d7:Def K mg "letters_of" (top 13)
 d8:Def K mg "place_order" (top 16)
 d9:Def K mg "choice_by" (top 17)
 d10:Def K mg "joined" (top 6)
 d11:Def K mg "joined_end" (top 11)
 d12:Def K mg "round_of" (top 8)
 d13:Def K mg "rounds_of" (top 9)
 d14:Def K mg "many_rounds" (top 10)
 d15:Def K mg "entry_at" (top 18)
 d16:Def K mg "net_by" (top 15)
 e0:mg "all" = none
 e1:mg "bool" = none
 e2:mg "enumerate" = none
 e3:mg "int" = none
 e4:mg "isinstance" = none
 e5:mg "len" = none
 e6:mg "list" = none
 e7:mg "range" = none
 e8:mg "set" = none
 e9:mg "sorted" = none
structure Bn(P:qIb)(w:World)(K:qA1)(mg:Str->Option Value)(base:Heap):Type where
 S:Bd K mg
 u_SEATS:Value
 a_TooMany:Addr
 u_MOST_PLACES:Value
 c_SEATS:RelV (V.int 4) u_SEATS/\mg "SEATS" = some u_SEATS
 c_MOST_PLACES:RelV (V.int 8) u_MOST_PLACES/\mg "MOST_PLACES" = some u_MOST_PLACES
 z_TooMany:XNo K mg "TooMany" a_TooMany
variable(B:Bn P w K mg base)
include B
theorem zBK:Has P w K mg base "_law_cell" 1 ["_law_script","_law_k"] (sp0 K mg 0 zAO):=by
 letI:Kc:=⟨K⟩
 exact dfM B.S.d0 S__law_cell (fun _ _ _ _ _ _=>uw2 fun _ _=>rfl) fun hr hu h=>⟨_,(zA6 (pst 2 S__law_cell.nd (zAU zDA zAL (zAU zCP (pn 1) zAL)))
   (zA6 (zFF (zEB u_lt (pn 1) (zAT (zCC (K:=K)) rfl B.S.e5 qJj (zA1 (pn 0) zA9)) (zC1 _)) (zAF (pst 2 S__law_cell.nd (zAU zCP (pn 2) (zD7 (zD5 (K:=K)) (pn 0) (pn 1) (fun _ _=>rfl))))) zBU)
   (zAF (zB2 (zAU zET (zAU zDA (zAU zET (zAU zDA (zAU zET (pn 2) zAL) zAL) zAL) zAL) zAL))))),(zBB (zAC (zAJ (n:=0) [1] (zAG zDB (dz zAI) (zAG zBI (de_v 1) (dz zAI))))
   (zAC (zG3 (dt_b (dz (zAG zO8 (de_v 1) (dz (zCX zCE (zA3 (de_v 0) zAB)))))) (zAJ (n:=1) [2,0,1] (zAG zBI (de_v 2) (zAG zD6 (de_v 0) (de_v 1)))) zCW)
   (zBC (n:=0) [2] (zAG zCL (dz (zAG zDB (dz (zAG zCL (dz (zAG zDB (dz (zAG zCL (de_v 2) (dz zAI))) (dz zAI))) (dz zAI))) (dz zAI))) (dz zAI))))) h)⟩
theorem zEP:Has P w K mg base "_law_ends" 1 ["_law_found","_law_many_here"] (sp0 K mg 0 zBX):=by
 letI:Kc:=⟨K⟩
 exact dfM B.S.d1 zLB (fun _ _ _ _ _ _=>uw2 fun _ _=>rfl) fun hr hu h=>⟨_,(zA6 (zFF (pt_w (zR7 (zLR (pt_m (zAT zCT rfl B.S.e4 qKx (zA1 (pn 0) (zA1 (zKH (v:=.ty "list") rfl B.S.e6 boot_list rfl) zA9))))) (zOA (zEB (u_ne hu) (zAT (zCC (K:=K)) rfl B.S.e5 qJj (zA1 (pn 0) zA9)) (pn 1) (zC1 _))))) (zAF (zB2 zKI)) zBU)
   (zAF (zB2 (zAT (za3 rfl) rfl B.S.e0 boot_all (zA1 (zDJ rfl (cn ["0","1","_law_end"] 1 (by kernel_rfl)) (zEM (K:=K) (pn 0)) (fun _ _ _ _=>(pgn 2)) (fun _ _ _ _=>zCF) (fun _ _ _ _=>(zZN (zAT zCT rfl B.S.e4 qKx (zA1 (pn 2) (zA1 (zKH (v:=.ty "int") rfl B.S.e3 boot_int rfl) zA9))) (zSS (zX7 (zAT zCT rfl B.S.e4 qKx (zA1 (pn 2) (zA1 (zKH (v:=.ty "bool") rfl B.S.e1 boot_bool rfl) zA9)))))))) zA9))))),(zBB (zAC (zG3 (zS1 (zMB (dt_m (dz (zQ2 (by decide) (de_v 0))))) (dt_b (dz (zAG zN0 (dz (zCX zCE (zA3 (de_v 0) zAB))) (de_v 1))))) (zBC (n:=0) [] zL1) zCW)
   (zBC (n:=0) [0] (zCX zYV (zA3 (zAK (zC7 (n:=0) (zEQ (de_v 0)) (zBL 2) zE2 (zYP (dz (zQ2 (by decide) (de_v 2))) (zTK (dz (zQ2 (by decide) (de_v 2))))))) zAB)))) h)⟩
theorem zFP:Has P w K mg base "_law_letters" 1 ["_law_cell_here","_law_n"] (sp0 K mg 1 zC6):=by
 letI:Kc:=⟨K⟩
 exact dfM B.S.d2 S__law_letters (fun _ _ _ _ _ _=>uw2 fun _ _=>rfl) fun hr hu h=>⟨_,(zA6 (pst 2 S__law_letters.nd zGI)
   (zA6 (pst 3 S__law_letters.nd zGI)
   (zA6 (zCQ qIr rfl (zBV rfl B.S.e7 (zA1 (pn 1) zA9)) (zBE (i:=4) S__law_letters.nd rfl oi) (zA6 (pst 5 S__law_letters.nd (zAU zET (pn 0) (zAT (zCC (K:=K)) rfl B.S.e5 qJj (zA1 (pn 2) zA9))))
   (zA6 (pst 0 S__law_letters.nd (zAU zCP (zAU zIB (pn 0) (zAT (zCC (K:=K)) rfl B.S.e5 qJj (zA1 (pn 2) zA9))) (zAU zDA zAL (pn 4))))
   (zA6 (pst 3 S__law_letters.nd (zAU zCP (pn 3) (zD7 (zD5 (K:=K)) (pn 2) (pn 5) (fun _ _=>rfl))))
   (zAF (pst 2 S__law_letters.nd (zAU zCP (zLW (u_sl (K:=K)) (pn 2) zOF (zOE (pn 5))) (zLW (u_sl (K:=K)) (pn 2) (zOE (zAU zCP (pn 5) zAL)) zOF))))))))
   (zAF (zB2 (pn 3)))))),(zBB (zAC (zAJ (n:=0) [] zGP)
   (zAC (zAJ (n:=0) [] zGP)
   (zAC (zHX (zL0 (zA3 (de_v 1) zAB)) (zAC (zAJ (n:=0) [0,2] (zAG zCL (de_v 0) (dz (zCX zCE (zA3 (de_v 2) zAB)))))
   (zAC (zAJ (n:=1) [0,4,2] (zAG zBI (dz (zAG zIM (de_v 0) (dz (zCX zCE (zA3 (de_v 2) zAB))))) (dz (zAG zDB (dz zAI) (de_v 4)))))
   (zAC (zAJ (n:=1) [3,2,5] (zAG zBI (de_v 3) (zAG zD6 (de_v 2) (de_v 5))))
   (zAJ (n:=1) [2,5] (zAG zBI (zYN (de_v 2) zYF (do_e (de_v 5))) (zYN (de_v 2) (do_e (zAG zBI (de_v 5) (dz zAI))) zYF)))))))
   (zEI 3)))) h)⟩
theorem zBW:Has P w K mg base "_law_other_place" 1 ["_law_word","_law_at"] (sp0 K mg 0 zAW):=by
 letI:Kc:=⟨K⟩
 exact dfM B.S.d3 S__law_other_place (fun _ _ _ _ _ _=>uw2 fun _ _=>rfl) fun hr hu h=>⟨_,(zA6 (pst 2 S__law_other_place.nd (zHE qB4 qC9 qCa zDX (pn 0) (zA1 (zD7 (zD5 (K:=K)) (pn 0) (pn 1) (fun _ _=>rfl)) zA9)))
   (zA6 (zFF (zEB (u_ne hu) (pn 2) (pn 1) (zC1 _)) (zAF (zB2 (pn 2))) zBU)
   (zAF (zB2 (zHE qB4 PySem.F.slot_str_rfind PySem.F.type_str_rfind zOZ (pn 0) (zA1 (zD7 (zD5 (K:=K)) (pn 0) (pn 1) (fun _ _=>rfl)) zA9)))))),(zBB (zAC (zAJ (n:=0) [0,1] (zI0 zFB (de_v 0) (zA3 (zAG zD6 (de_v 0) (de_v 1)) zAB)))
   (zAC (zG3 (dt_b (dz (zAG zN0 (de_v 2) (de_v 1)))) (zEI 2) zCW)
   (zBC (n:=0) [0,1] (zI0 zR0 (de_v 0) (zA3 (zAG zD6 (de_v 0) (de_v 1)) zAB))))) h)⟩
theorem zIY:Has P w K mg base "_law_next" 2 ["_law_word","_law_ways","_law_at","_law_onward"] (sp0 K mg 1 zAZ):=by
 letI:Kc:=⟨K⟩
 exact dfM B.S.d4 S__law_next (fun _ _ _ _ _ _=>uw4 fun _ _ _ _=>rfl) fun hr hu h=>⟨_,(zA6 (pst 4 S__law_next.nd (zKG (zJE hr) (pn 1) (zD7 (zD5 (K:=K)) (pn 0) (pn 2) (fun _ _=>rfl)) (fun _ _=>rfl)))
   (zA6 (zFF (zEB (u_eq hu) (pn 4) zAL (zC1 _)) (zAF (zB2 (zEN (zA1 (pn 2) (zA1 (pn 3) zA9))))) zBU)
   (zA6 (zFF (zEB (u_eq hu) (pn 4) zAL (zC1 _)) (zAF (zB2 (zEN (zA1 (zBJ (zBW B) (by decide) hr rfl (zA1 (pn 0) (zA1 (pn 2) zA9))) (zA1 (zX7 (pn 3)) zA9))))) zBU)
   (zAF (zB2 (zEN (zA1 (zBJ (zBW B) (by decide) hr rfl (zA1 (pn 0) (zA1 (pn 2) zA9))) (zA1 (pn 3) zA9)))))))),(zBB (zAC (zAJ (n:=0) [1,0,2] (zQ3 (de_v 1) (zAG zD6 (de_v 0) (de_v 2))))
   (zAC (zG3 (dt_b (dz (zAG zO7 (de_v 4) (dz zAI)))) (zBC (n:=1) [2,3] (zER (n:=0) (zA3 (de_v 2) (zA3 (de_v 3) zAB)))) zCW)
   (zAC (zG3 (dt_b (dz (zAG zO7 (de_v 4) (dz zAI)))) (zBC (n:=1) [0,2,3] (zER (n:=0) (zA3 (zAS (zA3 (de_v 0) (zA3 (de_v 2) zAB))) (zA3 (zTK (de_v 3)) zAB)))) zCW)
   (zBC (n:=1) [3,0,2] (zER (n:=0) (zA3 (zAS (zA3 (de_v 0) (zA3 (de_v 2) zAB))) (zA3 (de_v 3) zAB))))))) h)⟩
theorem zIZ:Has P w K mg base "_law_many" 3 ["_law_word","_law_ways"] (sp0 K mg 0 zDM):=by
 letI:Kc:=⟨K⟩
 exact dfM B.S.d5 S__law_many (fun _ _ _ _ _ _=>uw2 fun _ _=>rfl) fun hr hu h=>⟨_,(zA6 (pst 2 S__law_many.nd zRE)
   (zA6 (pst 3 S__law_many.nd zAL)
   (zA6 (zCQ qIr rfl (zBV rfl B.S.e7 (zA1 (zAT (zCC (K:=K)) rfl B.S.e5 qJj (zA1 (pn 0) zA9)) zA9)) (zBE (i:=4) S__law_many.nd rfl oi) (zAF (zCQ qIr rfl (zEM (K:=K) (zEN (zA1 zKI (zA1 zKI zA9)))) (zBE (i:=5) S__law_many.nd rfl oi) (zA6 (pst 6 S__law_many.nd (pn 4))
   (zA6 (pst 7 S__law_many.nd (pn 5))
   (zA6 (pst 3 S__law_many.nd (zAU zCP (pn 3) (zFL zQC rfl B.S.e3 boot_int (zA1 (zXA (zFM (zJE hr) (zEN (zA1 (pn 4) (zA1 (pn 5) zA9))) (pn 2))) zA9))))
   (zAF (zLS qIr (zSR (zFM (zJE hr) (zEN (zA1 (pn 6) (zA1 (pn 7) zA9))) (pn 2))) (zA6 (zU9 (zJE hr) (pn 2) (zEN (zA1 (pn 6) (zA1 (pn 7) zA9))) zKI rfl)
   (zA6 (zLT (zBJ (zIY B) (by decide) hr rfl (zA1 (pn 0) (zA1 (pn 1) (zA1 (pn 6) (zA1 (pn 7) zA9))))) (zHD (K:=K) rfl (zC0 (zBE (i:=8) S__law_many.nd rfl oi) (zC0 (zBE (i:=7) S__law_many.nd rfl oi) zHC))))
   (zA6 (pst 9 S__law_many.nd (zAU zET (zAU zCP (pn 8) zAL) (zAT (zCC (K:=K)) rfl B.S.e5 qJj (zA1 (pn 0) zA9))))
   (zA6 (zFF (zLR (pt_m (pn 7))) (zAF (pst 9 S__law_many.nd (zAU zET (zAU zW0 (pn 8) zAL) (zAT (zCC (K:=K)) rfl B.S.e5 qJj (zA1 (pn 0) zA9))))) zBU)
   (zAF (pst 6 S__law_many.nd (pn 9)))))))))))))))
   (zAF (zB2 (zAU zIB (pn 3) zAL)))))),(zBB (zAC (zAJ (n:=1) [] (zVF (n:=0)))
   (zAC (zAJ (n:=0) [] zAI)
   (zAC (zHX (zL0 (zA3 (zCX zCE (zA3 (de_v 0) zAB)) zAB)) (zMD [] (zEQ (zER (n:=0) (zA3 zL1 (zA3 zL1 zAB)))) (zBL 5) (zAC (zAJ (n:=0) [4] (de_v 4))
   (zAC (zAJ (n:=0) [5] (de_v 5))
   (zAC (zAJ (n:=1) [3,2,4,5] (zAG zBI (de_v 3) (dz (zCX zYU (zA3 (zQ1 (zER (n:=0) (zA3 (de_v 4) (zA3 (de_v 5) zAB))) (de_v 2)) zAB)))))
   (zMC (dt_B (dz (zQ1 (zER (n:=0) (zA3 (de_v 6) (zA3 (de_v 7) zAB))) (de_v 2)))) (zAC (zVA 2 (zER (n:=0) (zA3 (de_v 6) (zA3 (de_v 7) zAB))) (n:=0) zL1)
   (zAC (zYA [0,1,6,7] (zLD (zBY 8 (zBY 7 zH1)) rfl) (zAS (zA3 (de_v 0) (zA3 (de_v 1) (zA3 (de_v 6) (zA3 (de_v 7) zAB))))))
   (zAC (zAJ (n:=0) [8,0] (zAG zCL (zAG zBI (de_v 8) (dz zAI)) (dz (zCX zCE (zA3 (de_v 0) zAB)))))
   (zAC (zG3 (zMB (dt_m (de_v 7))) (zAJ (n:=0) [8,0] (zAG zCL (dz (zAG zSL (de_v 8) (dz zAI))) (dz (zCX zCE (zA3 (de_v 0) zAB))))) zCW)
   (zAJ (n:=0) [9] (de_v 9))))))))))))
   (zBC (n:=0) [3] (zAG zIM (de_v 3) (dz zAI)))))) h)⟩
theorem zKL:Has P w K mg base "_law_row" 2 ["_law_script","_law_at","_law_n"] (sp0 K mg 9 zCI):=by
 letI:Kc:=⟨K⟩
 exact dfM B.S.d6 S__law_row (fun _ _ _ _ _ _=>uw3 fun _ _ _=>rfl) fun hr hu h=>⟨_,(zA6 (zEC (i:=3) S__law_row.nd rfl oi rfl (cn ["0","1","2","3","4","5","6","_law_k"] 1 (by kernel_rfl)) (zBV rfl B.S.e7 (zA1 (zAU zDA zAL (pn 2)) zA9)) (fun _ _ _ _=>(pgn 7)) (fun _ _ _ _=>zCF) (fun _ _ _ _=>(zAU zIB (pn 7) zAL)))
   (zA6 (pst 4 S__law_row.nd (zAU zET (zBJ (zBK B) (by decide) hr rfl (zA1 (pn 0) (zA1 (pn 1) zA9))) zAL))
   (zA6 (pst 5 S__law_row.nd (zGJ zA9))
   (zA6 (zCQ qIr rfl (zBV rfl B.S.e7 (zA1 (zAU zDA zAL (pn 2)) zA9)) (zBE (i:=6) S__law_row.nd rfl oi) (zA6 (pst 4 S__law_row.nd (zAU zET (zAU zCP (zAU zDA (pn 4) zAL) (zBJ (zBK B) (by decide) hr rfl (zA1 (pn 0) (zA1 (zAU zCP (zAU zCP (pn 1) zAL) (pn 6)) zA9)))) zAL))
   (zAF (zFG (zOK qBx qD3 qD4 zKN (pn 5) (zA1 (zOK qBx PySem.F.slot_list_pop PySem.F.type_list_pop zUN (pn 3) (zA1 (zAU zET (zAU zIB (pn 4) zAL) (zAT (zCC (K:=K)) rfl B.S.e5 qJj (zA1 (pn 3) zA9))) zA9)) zA9))))))
   (zAF (zB2 (pn 5))))))),(zBB (zAC (zAJ (n:=1) [6,2] (zC7 (n:=0) (zL0 (zA3 (zAG zDB (dz zAI) (de_v 2)) zAB)) (zBL 7) zE2 (zAG zIM (de_v 7) (dz zAI))))
   (zAC (zAJ (n:=0) [0,1] (zAG zCL (zAS (zA3 (de_v 0) (zA3 (de_v 1) zAB))) (dz zAI)))
   (zAC (zAJ (n:=9) [] (zGQ (n:=8) zAB))
   (zAC (zHX (zL0 (zA3 (zAG zDB (dz zAI) (de_v 2)) zAB)) (zAC (zAJ (n:=0) [4,0,6,1] (zAG zCL (zAG zBI (dz (zAG zDB (de_v 4) (dz zAI))) (zAS (zA3 (de_v 0) (zA3 (zAK (zAG zBI (zAG zBI (de_v 1) (dz zAI)) (de_v 6))) zAB)))) (dz zAI)))
   (zPW 5 3 (dz (zAG zCL (dz (zAG zIM (de_v 4) (dz zAI))) (dz (zCX zCE (zA3 (de_v 3) zAB))))))))
   (zEI 5))))) h)⟩
theorem zHG:Has P w K mg base "letters_of" 1 ["word"] (sp0 K mg 0 zC2):=by
 letI:Kc:=⟨K⟩
 exact dfM B.S.d7 zJW (fun _ _ _ _ _ _=>uw1 fun _=>rfl) fun hr hu h=>⟨_,(zAF (zB2 (zHE qB4 qDn qDo zHI zGI (zA1 (zAT (zUS rfl) rfl B.S.e9 boot_sorted (zA1 (zFL (zXQ rfl) rfl B.S.e8 zQD (zA1 (pn 0) zA9)) zA9)) zA9)))),(zBB (zBC (n:=0) [0] (zI0 zKE (dz zGP) (zA3 (zAK (zYL (de_v 0))) zAB))) h)⟩
theorem zC4:Has P w K mg base "place_order" 1 ["word"] (sp0 K mg 0 zAQ):=by
 letI:Kc:=⟨K⟩
 exact dfM B.S.d8 zI6 (fun _ _ _ _ _ _=>uw1 fun _=>rfl) fun hr hu h=>⟨_,(zAF (zB2 (zHE qB4 qDn qDo zHI zGI (zA1 (zDJ rfl (cn ["word","at","sign"] 2 (by kernel_rfl)) (zRB (K:=K) rfl B.S.e2 (zA1 (pn 0) zA9)) (fun _ _ _ _=>zHD (K:=K) rfl (zC0 (pgn 1) (zC0 (pgn 2) zHC))) (fun _ _ _ _=>zU8 (zEB (u_eq hu) (zHE qB4 qC9 qCa zDX (pn 0) (zA1 (pn 2) zA9)) (pn 1) (zC1 _))) (fun _ _ _ _=>(pn 2))) zA9)))),(zBB (zBC (n:=0) [0] (zI0 zKE (dz zGP) (zA3 (zAK (zC7 (n:=0) (zYI (zA3 (de_v 0) zAB)) (zLD (zBY 1 (zBY 2 zH1)) rfl) (dt_b (dz (zAG zO7 (dz (zI0 zFB (de_v 0) (zA3 (de_v 2) zAB))) (de_v 1)))) (de_v 2))) zAB))) h)⟩
theorem zEO:Has P w K mg base "choice_by" 2 ["word","choice"] (sp0 K mg 1 zCH):=by
 letI:Kc:=⟨K⟩
 exact dfM B.S.d9 S_choice_by (fun _ _ _ _ _ _=>uw2 fun _ _=>rfl) fun hr hu h=>⟨_,(zA6 (pst 2 S_choice_by.nd (zBJ (zHG B) (by decide) hr rfl (zA1 (pn 0) zA9)))
   (zAF (zB2 (zDJ rfl (cn ["0","choice","letters","letter"] 1 (by kernel_rfl)) (zEM (K:=K) (zBJ (zC4 B) (by decide) hr rfl (zA1 (pn 0) zA9))) (fun _ _ _ _=>(pgn 3)) (fun _ _ _ _=>zCF) (fun _ _ _ _=>(zD7 (zD5 (K:=K)) (pn 1) (zHE qB4 qC9 qCa zDX (pn 2) (zA1 (pn 3) zA9)) (fun _ _=>rfl))))))),(zBB (zAC (zAJ (n:=0) [0] (zAS (zA3 (de_v 0) zAB)))
   (zBC (n:=1) [1,0,2] (zC7 (n:=0) (zEQ (zAS (zA3 (de_v 0) zAB))) (zBL 3) zE2 (zAG zD6 (de_v 1) (dz (zI0 zFB (de_v 2) (zA3 (de_v 3) zAB))))))) h)⟩
theorem zOT:Has P w K mg base "joined" 1 ["way","seat"] (sp0 K mg 0 zHL):=by
 letI:Kc:=⟨K⟩
 exact dfM B.S.d10 zSC (fun _ _ _ _ _ _=>uw2 fun _ _=>rfl) fun hr hu h=>⟨_,(zAF (zB2 (zAU zZB (pn 1) (zAU zCP (pn 0) zAL)))),(zBB (zBC (n:=0) [1,0] (zAG zWJ (de_v 1) (zAG zBI (de_v 0) (dz zAI)))) h)⟩
theorem zDW:Has P w K mg base "joined_end" 2 ["choice","end"] (sp0 K mg 1 zB3):=by
 letI:Kc:=⟨K⟩
 exact dfM B.S.d11 S_joined_end (fun _ _ _ _ _ _=>uw2 fun _ _=>rfl) fun hr hu h=>⟨_,(zA6 (pst 2 S_joined_end.nd (zAU zIB (pn 1) (zFK rfl B.c_SEATS.2 B.c_SEATS.1)))
   (zAF (zB2 (zAU zCP (zAU zDA (pn 2) (zFK rfl B.c_SEATS.2 B.c_SEATS.1)) (zBJ (zOT B) (by decide) hr rfl (zA1 (zD7 (zD5 (K:=K)) (pn 0) (pn 2) (fun _ _=>rfl)) (zA1 (zAU zET (pn 1) (zFK rfl B.c_SEATS.2 B.c_SEATS.1)) zA9))))))),(zBB (zAC (zAJ (n:=0) [1] (zAG zIM (de_v 1) (dz zAI)))
   (zBC (n:=1) [2,0,1] (zAG zBI (dz (zAG zDB (de_v 2) (dz zAI))) (zAS (zA3 (zAG zD6 (de_v 0) (de_v 2)) (zA3 (zAG zCL (de_v 1) (dz zAI)) zAB)))))) h)⟩
theorem zKJ:Has P w K mg base "round_of" 3 ["net","choice","end"] (sp0 K mg 1 zCB):=by
 letI:Kc:=⟨K⟩
 exact dfM B.S.d12 S_round_of (fun _ _ _ _ _ _=>uw3 fun _ _ _=>rfl) fun hr hu h=>⟨_,(zA6 (pst 3 S_round_of.nd (zGJ (zA1 (pn 2) (zA1 (zBJ (zDW B) (by decide) hr rfl (zA1 (pn 1) (zA1 (pn 2) zA9))) zA9))))
   (zA6 (zLS qIr (zEB (u_ne hu) (zD7 (zD5 (K:=K)) (pn 0) (zD7 (zD5 (K:=K)) (pn 3) (zX6 zW1 zAL) (fun _ _=>rfl)) (fun _ _=>rfl)) (pn 2) (zC1 _)) (zA6 (pst 4 S_round_of.nd (zD7 (zD5 (K:=K)) (pn 0) (zD7 (zD5 (K:=K)) (pn 3) (zX6 zW1 zAL) (fun _ _=>rfl)) (fun _ _=>rfl)))
   (zAF (zFG (zOK qBx PySem.F.slot_list_extend PySem.F.type_list_extend zUO (pn 3) (zA1 (zGJ (zA1 (pn 4) (zA1 (zBJ (zDW B) (by decide) hr rfl (zA1 (pn 1) (zA1 (pn 4) zA9))) zA9))) zA9))))))
   (zAF (zB2 (pn 3))))),(zBB (zAC (zAJ (n:=1) [2,1] (zGQ (n:=0) (zA3 (de_v 2) (zA3 (zAK (zAS (zA3 (de_v 1) (zA3 (de_v 2) zAB)))) zAB))))
   (zAC (zMC (dt_b (dz (zAG zN0 (zAG zD6 (de_v 0) (zAG zD6 (de_v 3) (dz (zYK zSM (dz zAI))))) (de_v 2)))) (zAC (zAJ (n:=0) [0,3] (zAG zD6 (de_v 0) (zAG zD6 (de_v 3) (dz (zYK zSM (dz zAI))))))
   (zYB 3 (n:=0) (zGQ (n:=0) (zA3 (de_v 4) (zA3 (zAK (zAS (zA3 (de_v 1) (zA3 (de_v 4) zAB)))) zAB))))))
   (zEI 3))) h)⟩
theorem zIX:Has P w K mg base "rounds_of" 4 ["net","choice"] (sp0 K mg 1 zCG):=by
 letI:Kc:=⟨K⟩
 exact dfM B.S.d13 S_rounds_of (fun _ _ _ _ _ _=>uw2 fun _ _=>rfl) fun hr hu h=>⟨_,(zA6 (pst 2 S_rounds_of.nd (zGJ zA9))
   (zA6 (pst 3 S_rounds_of.nd zLX)
   (zA6 (zCQ qIr rfl (zBV rfl B.S.e7 (zA1 (zAT (zCC (K:=K)) rfl B.S.e5 qJj (zA1 (pn 0) zA9)) zA9)) (zBE (i:=4) S_rounds_of.nd rfl oi) (zAF (zFF (zSR (zFM (zJE hr) (pn 4) (pn 3))) (zA6 (pst 5 S_rounds_of.nd (zBJ (zKJ B) (by decide) hr rfl (zA1 (pn 0) (zA1 (pn 1) (zA1 (pn 4) zA9)))))
   (zA6 (zFG (zOK qBx qD3 qD4 zKN (pn 2) (zA1 (pn 5) zA9)))
   (zAF (zFG (zZM PySem.F.plainAttrs_dict PySem.F.slot_dict_update PySem.F.type_dict_update (zUM rfl) (pn 3) (zA1 (zDJ rfl (cn ["0","1","2","3","4","5","met"] 1 (by kernel_rfl)) (zEM (K:=K) (pn 5)) (fun _ _ _ _=>(pgn 6)) (fun _ _ _ _=>zCF) (fun _ _ _ _=>(zEN (zA1 (pn 6) (zA1 zKI zA9))))) zA9)))))) zBU)))
   (zAF (zB2 (pn 2)))))),(zBB (zAC (zAJ (n:=9) [] (zGQ (n:=8) zAB))
   (zAC (zAJ (n:=1) [] zQ4)
   (zAC (zHX (zL0 (zA3 (zCX zCE (zA3 (de_v 0) zAB)) zAB)) (zG3 (dt_B (dz (zVG (de_v 4) (de_v 3)))) (zAC (zAJ (n:=1) [0,1,4] (zAS (zA3 (de_v 0) (zA3 (de_v 1) (zA3 (de_v 4) zAB)))))
   (zAC (zVD 2 [5] (de_v 5))
   (zVB 3 (zC7 (n:=1) (zEQ (de_v 5)) (zBL 6) zE2 (zER (n:=0) (zA3 (de_v 6) (zA3 zL1 zAB))))))) zCW))
   (zEI 2)))) h)⟩
theorem zGA:Has P w K mg base "many_rounds" 5 ["net","choice"] (sp0 K mg 0 zBO):=by
 letI:Kc:=⟨K⟩
 exact dfM B.S.d14 zI7 (fun _ _ _ _ _ _=>uw2 fun _ _=>rfl) fun hr hu h=>⟨_,(zAF (zB2 (zAT (zCC (K:=K)) rfl B.S.e5 qJj (zA1 (zBJ (zIX B) (by decide) hr rfl (zA1 (pn 0) (zA1 (pn 1) zA9))) zA9)))),(zBB (zBC (n:=0) [0,1] (zCX zCE (zA3 (zAK (zAS (zA3 (de_v 0) (zA3 (de_v 1) zAB)))) zAB))) h)⟩
theorem zKK:Has P w K mg base "entry_at" 2 ["word","at"] (sp0 K mg 1 zBR):=by
 letI:Kc:=⟨K⟩
 exact dfM B.S.d15 S_entry_at (fun _ _ _ _ _ _=>uw2 fun _ _=>rfl) fun hr hu h=>⟨_,(zA6 (pst 2 S_entry_at.nd (zHE qB4 qC9 qCa zDX (zBJ (zC4 B) (by decide) hr rfl (zA1 (pn 0) zA9)) (zA1 (zD7 (zD5 (K:=K)) (pn 0) (pn 1) (fun _ _=>rfl)) zA9)))
   (zAF (zB2 (zAU zCP (zAU zDA (pn 2) (zFK rfl B.c_SEATS.2 B.c_SEATS.1)) (zRD (zEB (u_eq hu) (zHE qB4 qC9 qCa zDX (pn 0) (zA1 (zD7 (zD5 (K:=K)) (pn 0) (pn 1) (fun _ _=>rfl)) zA9)) (pn 1) (zC1 _)) zAL zAL))))),(zBB (zAC (zAJ (n:=0) [0,1] (zI0 zFB (zAS (zA3 (de_v 0) zAB)) (zA3 (zAG zD6 (de_v 0) (de_v 1)) zAB)))
   (zBC (n:=1) [2,1,0] (zAG zBI (dz (zAG zDB (de_v 2) (dz zAI))) (dz (zYO (dt_b (dz (zAG zO7 (dz (zI0 zFB (de_v 0) (zA3 (zAG zD6 (de_v 0) (de_v 1)) zAB))) (de_v 1)))) zAI zAI))))) h)⟩
theorem zOS:HasX P w K mg base "net_by" 3 ["word"] (spE K mg 1 zDY):=by
 letI:Kc:=⟨K⟩
 exact dfX B.S.d16 S_net_by (fun _ _ _ _ _ _=>uw1 fun _=>rfl) fun hr hu h=>⟨_,(zA6 (zFF (zEB u_gt (zAT (zCC (K:=K)) rfl B.S.e5 qJj (zA1 (zBJ (zC4 B) (by decide) hr rfl (zA1 (pn 0) zA9)) zA9)) (zFK rfl B.c_MOST_PLACES.2 B.c_MOST_PLACES.1) (zC1 _)) (zAF (zRA (zX8 B.z_TooMany rfl (zA1 zGI zA9)) zPR rfl)) zBU)
   (zA6 (zEC (i:=1) S_net_by.nd rfl oi rfl (cn ["word","1","2","3","4","5","at"] 1 (by kernel_rfl)) (zBV rfl B.S.e7 (zA1 (zAT (zCC (K:=K)) rfl B.S.e5 qJj (zA1 (pn 0) zA9)) zA9)) (fun _ _ _ _=>(pgn 6)) (fun _ _ _ _=>zCF) (fun _ _ _ _=>(zBJ (zKK B) (by decide) hr rfl (zA1 (pn 0) (zA1 (pn 6) zA9)))))
   (zA6 (pst 2 S_net_by.nd (zAU zZC (zGJ (zA1 zAL zA9)) (zAU zDA zAL (zAT (zCC (K:=K)) rfl B.S.e5 qJj (zA1 (pn 0) zA9)))))
   (zA6 (zCQ zUD rfl (zLV (K:=K) rfl B.S.e2 (zA1 (pn 1) zA9)) (zHD (K:=K) rfl (zC0 (zBE (i:=3) S_net_by.nd rfl oi) (zC0 (zBE (i:=4) S_net_by.nd rfl oi) zHC))) (zA6 (pst 5 S_net_by.nd (zAU zCP (zD7 (zD5 (K:=K)) (pn 1) (zAU zW0 (pn 3) zAL) (fun _ _=>rfl)) zAL))
   (zA6 (zLT (pn 4) (zOI (pn 2) (pn 5) zTT))
   (zAF (zLT (pn 5) (zOI (pn 2) (pn 4) zTT))))))
   (zAF (zB2 (pn 2))))))),(zBB (zAC (zG3 (dt_b (dz (zAG zO8 (dz (zCX zCE (zA3 (zME (zA3 (de_v 0) zAB)) zAB))) (dz zAI)))) (zPV B.z_TooMany (zA3 zGP zAB)) zCW)
   (zAC (zAJ (n:=2) [0,3] (zC7 (n:=1) (zL0 (zA3 (zCX zCE (zA3 (de_v 0) zAB)) zAB)) (zBL 6) zE2 (zME (zA3 (de_v 0) (zA3 (de_v 6) zAB)))))
   (zAC (zAJ (n:=1) [0] (zAG zWK (zGQ (n:=0) (zA3 zAI zAB)) (dz (zAG zDB (dz zAI) (dz (zCX zCE (zA3 (de_v 0) zAB)))))))
   (zAC (zMD [1] (zYJ (zA3 (de_v 1) zAB)) (zLD (zBY 3 (zBY 4 zH1)) rfl) (zAC (zAJ (n:=1) [1,3] (zAG zBI (zAG zD6 (de_v 1) (dz (zAG zSL (de_v 3) (dz zAI)))) (dz zAI)))
   (zAC (zKY 2 (n:=0) (de_v 5) (de_v 4))
   (zKY 2 (n:=0) (de_v 4) (de_v 5)))))
   (zEI 2))))) h)⟩
theorem zXK{f:Addr}{fd:qIs}(F:Fun K "law" "law" (top 27) f fd):FnOk P w K mg base CX0 6 f fd ["_law_script"] (zGG K):=by
 letI:Kc:=⟨K⟩
 refine(F.ok S_law (sp:=sp0 K mg 0 zJ5) (fun vs H Q E h=>zK8 h) (fun cdv A outer s H vs Q E hr h=>?_)).imp (zRQ zRP);have hu:=hr.units;exact⟨_,(zA6 (pst 1 S_law.nd (zAU zCP zAL (zAU zET (zBJ (zBK B) (by decide) hr rfl (zA1 (pn 0) (zA1 zAL zA9))) zAL)))
   (zA6 (pst 2 S_law.nd (zBJ (zFP B) (by decide) hr rfl (zA1 (zBJ (zBK B) (by decide) hr rfl (zA1 (pn 0) (zA1 zAL zA9))) (zA1 (pn 1) zA9))))
   (zA6 (pst 3 S_law.nd (zBJ (zKL B) (by decide) hr rfl (zA1 (pn 0) (zA1 zAL (zA1 (pn 1) zA9)))))
   (zA6 (pst 4 S_law.nd (zHE qB4 qDn qDo zHI zGI (zA1 (zDJ rfl (cn ["0","1","_law_letters_here","3","4","5","6","7","8","9","10","11","_law_place"] 1 (by kernel_rfl)) (zEM (K:=K) (pn 3)) (fun _ _ _ _=>(pgn 12)) (fun _ _ _ _=>zCF) (fun _ _ _ _=>(zD7 (zD5 (K:=K)) (pn 2) (pn 12) (fun _ _=>rfl)))) zA9)))
   (zA6 (zEC (i:=5) S_law.nd rfl oi rfl (cn ["_law_script","1","2","3","4","5","6","7","8","9","10","11","_law_k"] 1 (by kernel_rfl)) (zBV rfl B.S.e7 (zA1 (pn 1) zA9)) (fun _ _ _ _=>(pgn 12)) (fun _ _ _ _=>zCF) (fun _ _ _ _=>(zAU zET (zBJ (zBK B) (by decide) hr rfl (zA1 (pn 0) (zA1 (zAU zCP zAL (pn 12)) zA9))) zAL)))
   (zA6 (pst 6 S_law.nd zLX)
   (zA6 (zCQ qIr rfl (zLV (K:=K) rfl B.S.e2 (zA1 (zAT (zUT rfl) rfl B.S.e9 boot_sorted (zA1 (pn 2) zA9)) zA9)) (zHD (K:=K) rfl (zC0 (zBE (i:=7) S_law.nd rfl oi) (zC0 (zBE (i:=8) S_law.nd rfl oi) zHC))) (zAF (zUA (zJE hr) (pn 6) (pn 8) (zD7 (zD5 (K:=K)) (pn 5) (pn 7) (fun _ _=>rfl)) rfl)))
   (zA6 (pst 9 S_law.nd (zGJ zA9))
   (zA6 (zCQ qIr rfl (zEM (K:=K) (pn 4)) (zBE (i:=8) S_law.nd rfl oi) (zAF (zFF (zEB (zTU (K:=K)) (pn 8) (pn 9) rfl) (zAF (zFG (zOK qBx qD3 qD4 zKN (pn 9) (zA1 (pn 8) zA9)))) zBU)))
   (zA6 (pst 10 S_law.nd (zFL (zUU (K:=K) rfl) rfl B.S.e6 boot_list (zA1 (pn 5) zA9)))
   (zA6 (pst 11 S_law.nd (zBJ (zEO B) (by decide) hr rfl (zA1 (pn 4) (zA1 (pn 10) zA9))))
   (zA6 (zFF (pt_w (zR7 (zLR (pt_m (zBJ (zEP B) (by decide) hr rfl (zA1 (pn 11) (zA1 (pn 1) zA9))))) (zR7 (zEB (u_ne hu) (pn 11) (zDJ rfl (cn ["0","1","2","3","4","5","_law_ways","7","8","9","10","11","_law_letter"] 1 (by kernel_rfl)) (zEM (K:=K) (pn 9)) (fun _ _ _ _=>(pgn 12)) (fun _ _ _ _=>zCF) (fun _ _ _ _=>(zKG (zJE hr) (pn 6) (pn 12) (fun _ _=>rfl)))) (zC1 _)) (zOA (zEB (u_ne hu) (pn 10) (pn 5) (zC1 _)))))) (zAF (zB2 zKI)) zBU)
   (zA6 (zLT zAL (zOI (pn 11) zAL zTT))
   (zA6 (pst 11 S_law.nd (zBJ (zEO B) (by decide) hr rfl (zA1 (pn 4) (zA1 (pn 10) zA9))))
   (zA6 (zFF (pt_w (zR7 (zLR (pt_m (zBJ (zEP B) (by decide) hr rfl (zA1 (pn 11) (zA1 (pn 1) zA9))))) (zOA (zEB (u_ne hu) (pn 11) (zDJ rfl (cn ["0","1","2","3","4","5","_law_ways","7","8","9","10","11","_law_letter"] 1 (by kernel_rfl)) (zEM (K:=K) (pn 9)) (fun _ _ _ _=>(pgn 12)) (fun _ _ _ _=>zCF) (fun _ _ _ _=>(zKG (zJE hr) (pn 6) (pn 12) (fun _ _=>rfl)))) (zC1 _))))) (zAF (zB2 zKI)) zBU)
   (zAF (zB2 (zZL (zOM u_gt (pn 1) zAL (zC1 _)) (zSS (zOM (u_eq hu) (zBJ (zGA B) (by decide) hr rfl (zA1 (zX9 (zOS B) (by decide) hr zY6 rfl (zA1 (pn 4) zA9)) (zA1 (pn 11) zA9))) (zBJ (zIZ B) (by decide) hr rfl (zA1 (pn 4) (zA1 (pn 6) zA9))) (zC1 _))))))))))))))))))))),(zBB (zAC (zAJ (n:=1) [0] (zAG zBI (dz zAI) (dz (zAG zCL (zAS (zA3 (de_v 0) (zA3 zAI zAB))) (dz zAI)))))
   (zAC (zAJ (n:=1) [1,0] (zAS (zA3 (zAS (zA3 (de_v 0) (zA3 zAI zAB))) (zA3 (de_v 1) zAB))))
   (zAC (zAJ (n:=9) [0,1] (zAS (zA3 (de_v 0) (zA3 zAI (zA3 (de_v 1) zAB)))))
   (zAC (zAJ (n:=0) [2,3] (zI0 zKE (dz zGP) (zA3 (zAK (zC7 (n:=0) (zEQ (de_v 3)) (zBL 12) zE2 (zAG zD6 (de_v 2) (de_v 12)))) zAB)))
   (zAC (zAJ (n:=1) [7,0,1] (zC7 (n:=0) (zL0 (zA3 (de_v 1) zAB)) (zBL 12) zE2 (zAG zCL (zAS (zA3 (de_v 0) (zA3 (zAK (zAG zBI (dz zAI) (de_v 12))) zAB))) (dz zAI))))
   (zAC (zAJ (n:=1) [] zQ4)
   (zAC (zMD [2] (zYJ (zA3 (zAK (zCX zYT (zA3 (de_v 2) zAB))) zAB)) (zLD (zBY 7 (zBY 8 zH1)) rfl) (zVC 6 (de_v 8) (zAG zD6 (de_v 5) (de_v 7))))
   (zAC (zAJ (n:=9) [] (zGQ (n:=8) zAB))
   (zAC (zMD [4] (zEQ (de_v 4)) (zBL 8) (zG3 (dt_b (dz (zAG zZI (de_v 8) (de_v 9)))) (zYC 9 (n:=0) (de_v 8)) zCW))
   (zAC (zAJ (n:=1) [5] (zCX zVJ (zA3 (de_v 5) zAB)))
   (zAC (zAJ (n:=1) [4,10] (zAS (zA3 (de_v 4) (zA3 (de_v 10) zAB))))
   (zAC (zG3 (zS1 (zMB (dt_m (zAS (zA3 (de_v 11) (zA3 (de_v 1) zAB))))) (zS1 (dt_b (dz (zAG zN0 (de_v 11) (zC7 (n:=0) (zEQ (de_v 9)) (zBL 12) zE2 (zQ3 (de_v 6) (de_v 12)))))) (dt_b (dz (zAG zN0 (de_v 10) (de_v 5)))))) (zBC (n:=0) [] zL1) zCW)
   (zAC (zKY 11 (n:=0) (dz zAI) zAI)
   (zAC (zAJ (n:=1) [4,10] (zAS (zA3 (de_v 4) (zA3 (de_v 10) zAB))))
   (zAC (zG3 (zS1 (zMB (dt_m (zAS (zA3 (de_v 11) (zA3 (de_v 1) zAB))))) (dt_b (dz (zAG zN0 (de_v 11) (zC7 (n:=0) (zEQ (de_v 9)) (zBL 12) zE2 (zQ3 (de_v 6) (de_v 12))))))) (zBC (n:=0) [] zL1) zCW)
   (zBC (n:=0) [1,11,4,6] (zaB (dz (zAG zO8 (de_v 1) (dz zAI))) (zAG zO7 (zAS (zA3 (zAK (zS6 (zA3 (de_v 4) zAB))) (zA3 (de_v 11) zAB))) (zAS (zA3 (de_v 4) (zA3 (de_v 6) zAB))))))))))))))))))))) h)⟩
end
theorem all_mk{l:qE2}{w:World}{K:qA1}{h:Heap}{mg:Str->Option Value}{fa f17 a_RoundError a_TooMany:Addr}{dd_RoundError dd_TooMany:Option Addr}{cd_RoundError cd_TooMany:ClassData}{sl_RoundError sl_TooMany:Array (Option Value)}(X:K.In h)(G:h.Ns qIf mg)(hfa:mg "law" = some (.ref fa))
  {od17 an17:Option Addr} {sl17:Array (Option Value)} {oc17 kV17 dc17 pm17 cd17 ct17:Value} {t0 t1:Tok}
  (S:Bd K mg)
  (a17:qBr K qIf "law" = some (some (.ref f17)))
  (l17:K.lookup f17=some ⟨oc17,od17,.func (qBe "law" "law" (zBG (top 27)) (zAY (top 27)) (zAA (top 27)) .none kV17 dc17 pm17 an17 cd17 ct17),sl17⟩)
  (c17:qCk K cd17 "law" = true)
  (k17:qBh K (.ref f17)=true)
  (y0:qBr K qIf "MOST_PLACES" = some (some (.int 8 t0)))
  (y1:qBr K qIf "SEATS" = some (some (.int 4 t1)))
  (xa_RoundError:qBr K qIf "RoundError" = some (some (.ref a_RoundError)))
  (xl_RoundError:K.lookup a_RoundError=some ⟨.type "type",dd_RoundError,.cls cd_RoundError,sl_RoundError⟩)
  (xd_RoundError:xcD a_RoundError cd_RoundError sl_RoundError=true)
  (xn_RoundError:qFo K a_RoundError=some cd_RoundError)
  (xo_RoundError:PySem.W.excTail cd_RoundError.mro=true)
  (xt_RoundError:qH7 K (.ref a_RoundError)=some (.type "type"))
  (xg_RoundError:qB5 K (.ref a_RoundError) "__getattribute__" = some (some (.builtin "BaseException.__getattribute__")))
  (xh_RoundError:qB5 K (.ref a_RoundError) "__getattr__" = some none)
  (xj_RoundError:qDh K a_RoundError=true)
  (xm_RoundError:qB5 K (.ref a_RoundError) "__class__" = some (some (.builtin "object.__class__")))
  (xp_RoundError:qFk K a_RoundError (.type "object")=some true)
  (xv_RoundError:qEm K (.ref a_RoundError) (.type "ValueError")=some true)
  (xw_RoundError:qEm K (.ref a_RoundError) (.type "BaseException")=some true)
  (xa_TooMany:qBr K qIf "TooMany" = some (some (.ref a_TooMany)))
  (xl_TooMany:K.lookup a_TooMany=some ⟨.type "type",dd_TooMany,.cls cd_TooMany,sl_TooMany⟩)
  (xd_TooMany:xcD a_TooMany cd_TooMany sl_TooMany=true)
  (xn_TooMany:qFo K a_TooMany=some cd_TooMany)
  (xo_TooMany:PySem.W.excTail cd_TooMany.mro=true)
  (xt_TooMany:qH7 K (.ref a_TooMany)=some (.type "type"))
  (xg_TooMany:qB5 K (.ref a_TooMany) "__getattribute__" = some (some (.builtin "BaseException.__getattribute__")))
  (xh_TooMany:qB5 K (.ref a_TooMany) "__getattr__" = some none)
  (xj_TooMany:qDh K a_TooMany=true)
  (xm_TooMany:qB5 K (.ref a_TooMany) "__class__" = some (some (.builtin "object.__class__")))
  (xp_TooMany:qFk K a_TooMany (.type "object")=some true)
  (xv_TooMany:qEm K (.ref a_TooMany) (.type "ValueError")=some true)
  (xw_TooMany:qEm K (.ref a_TooMany) (.type "BaseException")=some true)
  (ycg:qFw K (.builtin "object.__class__") "__get__" = some (some (.builtin "getset_descriptor.__get__")))
  (yct:qGi K (.builtin "object.__class__")=some true)
  (zk_TooMany:qBh K (.ref a_TooMany)=true)
  (zi_TooMany:qB5 K (.ref a_TooMany) "__init__" = some (some (.builtin "ValueError.__init__")))
  :∃fd:qIs,(∀(s:qI8)(v:Value),qLl s fd ⟨[v],[]⟩ [("_law_script",v)])/\∀base:Heap,K.In base->base.Ns qIf mg->FnOk l.prog w K mg base CX0 6 fa fd ["_law_script"] (zGG K):=by
 have e:=hfa.symm.trans (qCt X G a17);cases e;have c_MOST_PLACES:RelV (V.int 8) (.int 8 t0)/\mg "MOST_PLACES" = some (.int 8 t0):=⟨⟨_,rfl⟩,qCt X G y0⟩
 have c_SEATS:RelV (V.int 4) (.int 4 t1)/\mg "SEATS" = some (.int 4 t1):=⟨⟨_,rfl⟩,qCt X G y1⟩
 have i_RoundError:Xc.XIs K a_RoundError:=⟨zNM xl_RoundError xd_RoundError,xg_RoundError,xh_RoundError,xj_RoundError,xm_RoundError,ycg,yct,xp_RoundError⟩
 have i_TooMany:Xc.XIs K a_TooMany:=⟨zNM xl_TooMany xd_TooMany,xg_TooMany,xh_TooMany,xj_TooMany,xm_TooMany,ycg,yct,xp_TooMany⟩
 have n_RoundError:XCls K mg "RoundError" a_RoundError:=⟨zYS xa_RoundError,qCt X G xa_RoundError,i_RoundError⟩
 have n_TooMany:XCls K mg "TooMany" a_TooMany:=⟨zYS xa_TooMany,qCt X G xa_TooMany,i_TooMany⟩
 have z_TooMany:XNo K mg "TooMany" a_TooMany:=⟨n_TooMany,zk_TooMany,zi_TooMany⟩
 refine⟨qBe "law" "law" (zBG (top 27)) (zAY (top 27)) (zAA (top 27)) .none kV17 dc17 pm17 an17 cd17 ct17,fun s v=>.of_eq rfl,fun base _ _=>?_⟩;exact zXK ⟨S,_,_,_,c_SEATS,c_MOST_PLACES,z_TooMany⟩ (zT9 (st:=(top 27)) l17 c17 k17)
theorem walk{l:qE2}{q:qIb}{loose:List Str}{XP:(Str->Option Value)->Heap->Prop}{d:DefRec}{K:Params->qA1}{YP:World->Heap->Prop}(hn:l.most=some 63)(hdf:d.params.defaults=[])(hY:∀(w:World) (h:Heap),YP w h->(K w.params).In h)
  (F:∀(w:World)(mg:Str->Option Value)(fa:Addr)(h:Heap),(K w.params).In h->h.Ns qIf mg->mg d.name=some (.ref fa) ->
   TbE (K w.params) []/\∃fd:qIs,(∀(s:qI8)(u:Value),qLl s fd ⟨[u],[]⟩ [("_law_script",u)])/\∀base:Heap,(K w.params).In base->base.Ns qIf mg->FnOk l.prog w (K w.params) mg base CX0 6 fa fd ["_law_script"] (zGG (K w.params))) :
  qFp q loose XP YP l.row.toRowW d [] (fun f vs=>qG1 f vs):=
 L3.walk_of0 (n:=63) (k:=6) (x:="_law_script") hn (by decide) hdf ⟨rfl,by decide,by decide⟩ hY F
end Q20
open PySem PySem.W PyProof.Rows
set_option maxRecDepth 100000 in
set_option maxHeartbeats 0 in
theorem PySem.Challenge.cw_fourway_k20_choices_of_words_holds : PySem.Challenge.rw_fourway_k20_choices_of_words.Holds := by
 refine hdZ.2 ?_;dsimp only[hdZ]
 k_fill
 refine Q20.walk (l:=qCb) rfl rfl (fun w h Y=>PySem.W.kIn_of Y) ?F
 case F=>
  intro w mg fa h KX G hmg;have T:L3.Tb (L2.KOf KX) [] none none none:=by
   dsimp only[L2.KOf];exact⟨L3.mk1_none (by k_is),L3.mk1_none (by k_is),L3.mk1_none (by k_is)⟩
  refine' ⟨⟨_,_,_,T⟩,Q20.all_mk KX G hmg (by constructor<;>first|exact L3.mkD KX G (by k_is) (by k_is) (by k_is) (by k_is)|exact PySem.W.mg_none_of KX G (by k_is)|exact L2.mkDD KX G (by k_is) (by k_is) (by k_is) (by k_is) (by k_is) (by rfl)) (by k_is) (by k_is) (by k_is) (by k_is) (by k_is) (by k_is) (by k_is) (by k_is) (by rfl) (by k_is) (by rfl) (by k_is) (by k_is) (by k_is) (by k_is) (by k_is) (by k_is) (by k_is) (by k_is) (by k_is) (by k_is) (by rfl) (by k_is) (by rfl) (by k_is) (by k_is) (by k_is) (by k_is) (by k_is) (by k_is) (by k_is) (by k_is) (by k_is) (by k_is) (by k_is) (by k_is)⟩
