import PyProof.Rows.All
import Wide.All
import OpenK.AllK
import Wide.FinOn
import Lean
import PyProof.EqAt
import PyProof.EqKinds
import PyProof.TupleCall
import PyProof.NeKinds
import KE.KLam
import KE.KNestM
import PySem.Challenge.RW_fourway_k78_too_many_places
set_option Elab.async false
set_option linter.all false
set_option maxRecDepth 100000
open Array renaming getElem?_eq_some_iff->qBp,getElem?_toList->qCf,getElem?_eq_getElem->qCo,length_toList->qDk,getElem?_eq_none->qEt,toList->qHh
open Bool renaming false_ne_true->qAa,and_eq_true->qBf,false_eq_true->qCc,and_false->qCn,eq_iff_iff->qDl,and_true->qEd,or_true->qF0,or_eq_true->qG8,or_false->qHc
open Char renaming toNat->qHt
open Classical renaming propDecidable->qA3
open Eq renaming trans->qHr
open False renaming elim->qA8
open ForInStep renaming yield->qCg
open Function renaming comp_def->qEa
open Int renaming toNat_natCast->qBa,emod_lt_of_pos->qE1,emod_nonneg->qF3,ediv_one->qHi,mul_one->qHm
open List renaming getD_eq_getElem?_getD->qA0,getElem?_eq_some_iff->qA2,replicate->qA4,getElem?_eq_getElem->qA5,mem_cons->qA6,range->qA9,mem_map->qAb,getElem?_append_left->qAc,mem_cons_of_mem->qAd,getElem?_append_right->qAe,getElem?_map->qAf,map_cons->qAg,size_toArray->qAi,getElem?_set_ne->qAj,getElem?_set_self->qAk,mem_cons_self->qAl,length_map->qAm,mem_singleton->qAn,mem_append_right->qAp,map_map->qAq,map_congr_left->qAt,mem_append->qAw,length_cons->qAx,nodup_cons->qAy,take_succ_eq_append_getElem->qAz,mem_of_getElem?->qB1,append_assoc->qB2,map_append->qB3,length_append->qB4,mem_filter->qB6,ext_getElem->qB7,getElem_mem->qB8,not_mem_nil->qBd,lookup_cons->qBg,mem_flatMap->qBh,replicate_succ->qBi,append_nil->qBk,getElem?_replicate->qBl,contains_cons->qBm,mem_append_left->qBn,all_eq_true->qBo,flatten_cons->qBq,flatMap_cons->qBv,take_length->qBw,nodup_range->qBx,getElem_range->qC0,drop_eq_getElem_cons->qC1,foldl_cons->qC3,nil_append->qC4,find?_cons->qC5,nodup_append->qC6,getElem?_cons_succ->qC9,getElem?_cons_zero->qCa,countP_cons->qCq,getElem_map->qCr,mem_of_mem_eraseIdx->qCt,of_mem_zip->qCw,all_cons->qCx,any_cons->qCy,eraseIdx_cons_succ->qCz,eraseIdxIfInBounds_toArray->qD3,lookup->qD4,getElem?_set->qD5,mem_range->qD6,length_replicate->qD7,getElem?_eq_none->qDa,length_take->qDc,eq_nil_of_length_eq_zero->qDd,mem_iff_getElem->qDe,pairwise_append->qDf,mem_of_mem_tail->qDh,filterMap_cons->qDj,length->qDm,range_succ->qDo,map_eq_nil_iff->qDp,count_cons->qDs,map_set->qDx,pairwise_cons->qE0,drop_zero->qE2,mem_or_eq_of_mem_set->qE4,foldl_nil->qE5,exists_mem_of_ne_nil->qE6,cons->qE9,foldl_append->qEb,sum_cons->qEg,filter_cons_of_pos->qEh,filter_cons_of_neg->qEi,getElem_inj->qEk,filter_cons->qEl,cons_append->qEn,drop_length->qEp,flatMap_nil->qEr,take_of_length_le->qEu,length_pos_of_mem->qEv,length_set->qEx,length_singleton->qEy,map_nil->qEz,set_append_right->qF1,set_getElem_self->qF2,length_eraseIdx->qF7,getElem?_range->qFe,mem_filterMap->qFi,findIdx?_cons->qFl,map_take->qFm,count_eq_zero->qFn,any_eq_false->qFo,take_add_one->qFs,reverse_cons->qFu,ext_getElem?->qFv,length_range->qFw,any_eq_true->qG2,perm_middle->qG3,forIn_cons->qG7,all_append->qGc,filter_map->qGe,nodup_nil->qGs,forIn_nil->qGt,foldl->qH7,nil_perm->qHf,perm_nil->qHg,filter->qHn,map->qHq,drop->qHv,take->qHw
open List.Pairwise renaming nil->qCl,imp_of_mem->qHa
open List.Perm renaming append_left->qDb,cons->qF9,refl->qFa
open List.cons renaming injEq->qGd
open Nat renaming le_refl->qA7,lt_of_lt_of_le->qAh,le_trans->qAr,zero_le->qAs,ne_of_lt->qAu,zero_add->qBj,lt_irrefl->qBy,ne_of_gt->qBz,le_of_lt->qCd,le_of_eq->qCh,eq_of_mul_eq_mul_right->qCm,mul_comm->qD8,pow_le_pow_right->qDg,le_succ->qDn,le_antisymm->qDr,lt_of_le_of_lt->qDw,pow_succ->qDz,mul_assoc->qEj,pow_add->qFf,pow_pos->qFg,pow_le_pow_left->qFh,lt_succ_of_lt->qFr,min_self->qFy,le_add_right->qG1,log2_two_pow->qG4,max_eq_right->qG5,le_zero->qGa,one_mul->qGf,max_eq_left->qGg,max_assoc->qHd,pow_zero->qHk,add_zero->qHl
open Nat.succ renaming inj->qHj
open Ne renaming symm->qC7
open Option renaming isSome_iff_exists->qCs,map_eq_some_iff->qD2,isSome_some->qDv,getD_some->qEm,bind_some->qEo,none->qFc,getD_none->qG0,map->qH8
open Option.some renaming inj->qBc,injEq->qHs
open Or renaming inl->qHo,inr->qHp
open Prod renaming fst->qF6
open PyProof.Rows renaming callWith_type1->qCe,isInt->qDy,envOfC->qFd,callWith_builtin1->qFx,preSum_getD->qH9,boot_isinstance->qJn,AllBare->qK0,subscriptTail_builtinR->qK6,boot_list->qKi,IntsAre->qKw,boot_range->qL4,boot_tuple->qLc,Subscript_->qLr
open PySem renaming mem_of_lookup->qC8,call->qFt,KeyKind->qHb,Shared->qHx,Program->qI0,mainGlobals->qI3,Around->qI4,wpAny_loadPart_at->qI9,FuncData->qIe,wpAny_isSubtype_exc->qIg,bootBuiltins->qIl,wpAny_Call_Name_kw->qIo,boot_len->qIp,sizeLine_eq->qIq,sysModules->qIs,NameKind->qIt,strIterType->qIx,wpAny_execs_nil->qJ1,wpAny_passesOwn->qJ2,IsRangeIter->qJ6,foldedSetIterable->qJ7,GenState->qJ8,codeAny->qJd,builtinsNs->qJh,wpAny_ite_split->qJl,bindArgs->qJs,ExcBaseFacts->qJt,firstArgMember->qJw,wpAny_truthy_bool->qJx,behindInMarks->qK1,plainId_quiet->qK2,Paired->qK3,wpAny_execs_cons->qK4,wpAny_pyIter_rangeiter->qK5,swapsWith->qKc,codeAny_builtin->qKg,callerA->qKy,Result->qL0,wpAny_assign_Name->qL3,BindsTo->qL6,slot_list_getitem->qL7,wpAny_pyIter_enum->qL9,Builtin->qLb,seqIndex_neg->qLd,seqIndex?->qLj,seqIndex_of->qLk,wpAny_Name->qLq,standAt->qLu,Keyword->qLv
open PySem.Challenge renaming rw_fourway_k78_too_many_places->qC2,pw_fourway_k78_too_many_places->qE7
open PySem.EqMixed renaming eq_bool_str->qGk,eq_str_bool->qGl,ne_bool_str->qGp,ne_str_bool->qGq,eq_int_str->qGy,eq_str_int->qH0,ne_int_str->qH4,ne_str_int->qH6
open PySem.EqNone renaming eq_none_none->qGh,eq_none_bool->qGi,eq_bool_none->qGj,ne_none_none->qGm,ne_none_bool->qGn,ne_bool_none->qGo,eq_none_int->qGv,eq_none_str->qGw,eq_int_none->qGx,eq_str_none->qGz,ne_none_int->qH1,ne_none_str->qH2,ne_int_none->qH3,ne_str_none->qH5
open PySem.F renaming plainAttrs_list->qB5,plain_extend_loop->qBs,slot_range_reversed->qCi,slot_range_iterator_length_hint->qCj,slot_list_append->qCu,type_list_append->qCv,slot_range_iterator_next->qD0,slot_dict_get->qD9,plain_reversed_new->qDt,entry_extend_loop->qE3,args_dict_get_3->qEc,slot_list_index->qEe,slot_list_count->qEf,entry_dict_get->qEs,slot_list_pop->qF4,type_list_pop->qF5,slot_dict_keyiterator_next->qId,slot_NoneType_hash->qIu,args_dict_keyiterator_next_1->qJb,slot_bool_hash->qJc,entry_dict_keyiterator_next->qJe,excAttr_ValueError->qKn,entry_list_pop->qLf,slot_dict_iter->qLi,slot_list_pop->qLl,slot_int_rmul->qLm
open PySem.W renaming Frag->qA1,subIn->qAo,findIn->qAv,nsIn->qB0,keepIn->qB9,fnOf->qBb,mg_of->qBe,kitOne->qBr,clsIn->qBt,typeIn->qBu,codeIn->qCb,hasDictIn->qCk,exmOne->qCp,cellsFrom_some->qD1,mroIn->qDi,OpenLaw->qDq,callWith_K->qDu,methodObj->qE8,codeHdIn->qEq,tabObj->qF8,Looks->qFj,WalkO->qFk,specialIn->qFp,envX->qFz,takesIn->qG6,kia_one->qG9,kf_ints->qGb,lookIn->qGr,notCls->qGu,kf_at->qHe,findIn->qLy
open PySem.W.Looks renaming ld->qHu
open Sum renaming inl->qEw,inr->qFb
open True renaming intro->qFq
set_option compiler.extract_closed false
set_option genSizeOf false
set_option genSizeOfSpec false
set_option bootstrap.genMatcherCode false
set_option maxHeartbeats 4000000
open PySem.Around renaming under_plainId->qJf
open PySem.Builtin renaming bitXor->qIw
open PySem.Builtin.Dict renaming showsAll->qKh
open PySem.Builtin.Dict_items renaming ownsTuple->qJg
open PySem.Builtin.Int renaming intBits->qIy,intTooBig->qKf
open PySem.Builtin.List renaming listTooLong->qIc,listExtendWith->qIh,listLengthHint->qJk,listSameRef->qJz,listItems->qK8
open PySem.Builtin.ObjectAttr renaming bindTo->qJv
open PySem.Builtin.Range renaming rangeSize->qIm,rangeFitsLong->qJm,rangeFields->qLp
open PySem.Builtin.Str renaming strSliceIndices->qIf,occurrences->qJ3
open PySem.Calls renaming Name_function_global->qJo,spliced_cons->qJr,callWith_builtin->qK7,evalArgs_plain->qKm,spliced_nil->qL5
open PySem.Code renaming quiet_builtin->qL1
open PySem.EntryCells renaming newEntry->qKx
open PySem.Heap renaming get?_push_of_some->qHy,lt_size->qHz,get?_push_size->qI1,get?_update_other->qI2,get?_update_self->qI8,size_push->qIn,get?_none_of_le->qIv,SameBut->qJ9,MadeExcOf->qJu
open PySem.Heap.IsSliceOf renaming new->qM1
open PySem.Heap.SameBut renaming update->qKz
open PySem.NameKind renaming free->qI6,cell->qIj
open PySem.Obj renaming mapFields->qIa,data_mapFields->qIk,isFreed_of_fields->qIr,mapSeq->qIz,cls_mapFields->qLa
open PySem.Paired renaming length->qJ0
open PySem.PassesOwn renaming never->qIb
open PySem.SeqAt renaming EqAt->qJi,RcNeAt->qLe,RcAt->qLs
open PySem.SeqAt.EqAt renaming of_refs->qJ4,same->qJj,int_str->qJp,str_int->qJq,none_bool->qKj,bool_none->qKk,bool_bool->qKl,none_int->qKo,none_str->qKp,bool_int->qKq,bool_str->qKr,int_none->qKs,int_bool->qKt,str_none->qKu,str_bool->qKv
open PySem.SeqAt.RcAt renaming lists_lengths->qJy,list_tuple->qKd,tuple_list->qKe,tuples->qL8,lists->qLg
open PySem.Str renaming ofString->qJa,ofString_eq_toList->qK9
open PySem.Txt renaming slice->qLx
open PySem.Value renaming ref->qI5,none->qI7,builtin->qIi,type->qJ5,int->qKa,str->qKb,bool->qL2,isStrOf->qLt,isInt->qM0
open PySem.Value.ref renaming inj->qLw
open PySem.W.WData renaming layableAll->qLh,int->qLn,weightAll->qLo,weight->qLz
open PySem.W.WShape renaming has->qM2
noncomputable section
set_option maxHeartbeats 0 in
def hdZ:PSigma fun H:Prop=>H->PySem.Challenge.rw_fourway_k78_too_many_places.Holds:=by
 refine' ⟨_,fun x=>?go⟩
 case' go=>w_on;o_law;refine' And.left (b:=_) ⟨?main,And.intro ?hl ?hc⟩
 case main=>
  k_head
  case hw=>w_witness2
 case hc=>exact x
 case hl=>intro w;unfold PySem.W.openEnds PySem.W.fencedOpening PySem.W.topFrom;rewrite[PySem.W.Fast.te10274390034422433532,PySem.W.Fast.te14289696077712309145,PySem.W.Fast.te14082659384304107361,PySem.W.Fast.te4187177175401517315,PySem.W.Fast.te1435165496053646825,PySem.W.Fast.te14364793385576792824];kernel_rfl
namespace L2
open PySem PySem.Spec PyProof.Rows
abbrev Key:=Sum Int Str
noncomputable def zIZ:Key->Value->Bool
 |.inl k,v=>qM0 k v
 |.inr x,v=>qLt x v
noncomputable def keyH(w:World):Key->Int
 |.inl k=>hashInt k
 |.inr x=>hashStr w x
theorem zAZ:∀{k:Key}{v:Value},zIZ k v=true->(∃i t,k=qEw i/\v=qKa i t)\/(∃x t,k=qFb x/\v=qKb x t)
 |.inl i,v,h=>by
  obtain⟨t,e⟩:=Value.isInt_shape (k:=i) (v:=v) h;exact .inl ⟨i,t,rfl,e⟩
 |.inr x,v,h=>by
  obtain⟨t,e⟩:=Value.isStrOf_shape (x:=x) (v:=v) h;exact .inr ⟨x,t,rfl,e⟩
theorem zKN(i:Int)(t:Tok):zIZ (.inl i) (.int i t)=true:=by simp[zIZ,qM0]
theorem zKM(x:Str)(t:Tok):zIZ (.inr x) (.str x t)=true:=by simp[zIZ,qLt]
theorem zNP(a b:Int):decide ((qEw a:Key)=qEw b)=(a==b):=by
 by_cases e:a=b
 ·subst e;simp
 ·have h:¬(qEw a:Key)=qEw b:=fun q=>e (Sum.inl.inj q)
  rw[decide_eq_false h];exact(beq_eq_false_iff_ne.mpr e).symm
theorem zVP(a b:Str):decide ((qFb a:Key)=qFb b)=decide (a=b):=by
 by_cases e:a=b
 ·subst e;simp
 ·have h:¬(qFb a:Key)=qFb b:=fun q=>e (Sum.inr.inj q)
  rw[decide_eq_false h,decide_eq_false e]
theorem zVR(a:Int)(b:Str):decide ((qEw a:Key)=qFb b)=false:=decide_eq_false (fun q=>nomatch q)
theorem zVQ(a:Str)(b:Int):decide ((qFb a:Key)=qEw b)=false:=decide_eq_false (fun q=>nomatch q)
def zEG(prog:qI0)(w:World):qHb prog w Key where
 is:=zIZ
 hash:=keyH w
 inj:=fun v a b ha hb=>by
  rcases zAZ ha with⟨i,t,rfl,rfl⟩|⟨x,t,rfl,rfl⟩
  ·rcases zAZ hb with⟨j,u,rfl,e⟩|⟨y,u,rfl,e⟩
   ·injection e with e1 _;rw[e1]
   ·exact nomatch e
  ·rcases zAZ hb with⟨j,u,rfl,e⟩|⟨y,u,rfl,e⟩
   ·exact nomatch e
   ·injection e with e1 _;rw[e1]
 byValue:=fun k v h=>by
  rcases zAZ h with⟨i,t,rfl,rfl⟩|⟨x,t,rfl,rfl⟩<;>rfl
 pyHash:=fun hv h=>by
  rcases zAZ hv with⟨i,t,rfl,rfl⟩|⟨x,t,rfl,rfl⟩
  ·exact wpAny_pyHash_int h
  ·exact wpAny_pyHash_str h
 eqBool:=fun hu hv h=>by
  rcases zAZ hu with⟨i,t,rfl,rfl⟩|⟨x,t,rfl,rfl⟩
  ·rcases zAZ hv with⟨j,u,rfl,rfl⟩|⟨y,u,rfl,rfl⟩
   ·rw[zNP]at h;exact wpAny_eqBool_int h
   ·rw[zVR]at h;exact qJp i t y u _ _ _ _ h
  ·rcases zAZ hv with⟨j,u,rfl,rfl⟩|⟨y,u,rfl,rfl⟩
   ·rw[zVQ]at h;exact qJq x t j u _ _ _ _ h
   ·rw[zVP]at h;exact wpAny_eqBool_str h
 «strs»:=fun k x t v h=>by
  rcases zAZ h with⟨i,u,rfl,e⟩|⟨y,u,rfl,e⟩
  ·exact nomatch e
  ·injection e with e1 _
   subst e1;cases v<;>rfl
theorem zLX(prog:qI0)(w:World)(i:Int)(t:Tok):(zEG prog w).is (.inl i) (.int i t)=true:=zKN i t
theorem zLW(prog:qI0)(w:World)(x:Str)(t:Tok):(zEG prog w).is (.inr x) (.str x t)=true:=zKM x t
abbrev KeyN:=Option Key
noncomputable def zL8(b:Bool):Int:=if b then 1 else 0
def zGX:KeyN->Value->Bool
 |none,.none=>true
 |some (.inl i),.bool b=>i==zL8 b
 |some k,v=>zIZ k v
 |_,_=>false
def zcP(w:World):KeyN->Int
 |none=>4238894112
 |some k=>keyH w k
theorem zBC:∀{k:KeyN}{v:Value},zGX k v=true->(k=none/\v=qI7)\/(∃b,k=some (qEw (zL8 b))/\v=qL2 b)\/(∃i t,k=some (qEw i)/\v=qKa i t)\/(∃x t,k=some (qFb x)/\v=qKb x t)
 |none,v,h=>by
  cases v<;>first|exact .inl ⟨rfl,rfl⟩|exact nomatch h
 |some (.inl i),v,h=>by
  by_cases hb:∃b,v=.bool b
  ·obtain⟨b,rfl⟩:=hb;have e:i=zL8 b:=by simpa[zGX]using h
   subst e;exact .inr (.inl ⟨b,rfl,rfl⟩)
  ·have h':zIZ (.inl i) v=true:=by
    cases v<;>first|exact h|exact absurd ⟨_,rfl⟩ hb
   rcases zAZ h' with⟨j,t,e1,e2⟩|⟨x,t,e1,e2⟩
   ·exact .inr (.inr (.inl ⟨j,t,by rw[e1],e2⟩))
   ·cases e1
 |some (.inr x),v,h=>by
  have h':zIZ (.inr x) v=true:=by
   cases v<;>exact h
  rcases zAZ h' with⟨j,t,e1,e2⟩|⟨y,t,e1,e2⟩
  ·cases e1
  ·exact .inr (.inr (.inr ⟨y,t,by rw[e1],e2⟩))
theorem zP3(i:Int)(t:Tok):zGX (some (.inl i)) (.int i t)=true:=zKN i t
theorem zP2(x:Str)(t:Tok):zGX (some (.inr x)) (.str x t)=true:=zKM x t
theorem zR6(b:Bool):zGX (some (.inl (zL8 b))) (.bool b)=true:=by simp[zGX]
theorem zRF{prog:qI0}{w:World}{A:qI4}{E:Value->qHx->Prop}{s:qHx}{Q:Int->qHx->Prop}(h:Q 4238894112 { s with toks:=s.toks+1 }):wpAny (model prog w) A (pyHash .none) Q E s:=by
 unfold pyHash;have hT:s.TypeIs .none "NoneType":=rfl;refine wpAny_bind ?_;rw[cRoomFor,if_neg (by exact qAa)];refine wpAny_pure ?_;refine wpAny_bind (wpAny_specialOf hT qIu.lookup ?_);show wpAny _ _ (if(some (qIi "NoneType.__hash__")==some qI7)=true then _ else _) Q E s;rw[if_neg (by rw[beq_builtin_none];exact qAa)];refine wpAny_bind (wpAny_specialOf hT qIu.lookup ?_);show wpAny _ _ (callSpecialIfBoundUnlessNone? .none "__hash__" _ >>= _) Q E s;refine wpAny_bind (wpAny_callSpecialIfBoundUnlessNone?_slot hT qIu
  (wpAny_call_entry qIu hT F.entry_NoneType_hash
   (show wpAny _ _ (do ret (<- mkInt 0xFCA86420)) _ _ s from wpAny_ret_mkInt ?_) (F.args_NoneType_hash_1 _)))
 exact wpAny_pure h
theorem zRG{prog:qI0}{w:World}{A:qI4}{E:Value->qHx->Prop}{s:qHx}{b:Bool}{Q:Int->qHx->Prop}(h:Q (hashInt (zL8 b)) { s with toks:=s.toks+1 }):wpAny (model prog w) A (pyHash (.bool b)) Q E s:=by
 unfold pyHash;have hT:s.TypeIs (.bool b) "bool":=rfl;refine wpAny_bind ?_;rw[cRoomFor,if_neg (by exact qAa)];refine wpAny_pure ?_;refine wpAny_bind (wpAny_specialOf hT qJc.lookup ?_);show wpAny _ _ (if(some (qIi "int.__hash__")==some qI7)=true then _ else _) Q E s;rw[if_neg (by rw[beq_builtin_none];exact qAa)];refine wpAny_bind (wpAny_specialOf hT qJc.lookup ?_);show wpAny _ _ (callSpecialIfBoundUnlessNone? (.bool b) "__hash__" _ >>= _) Q E s;refine wpAny_bind (wpAny_callSpecialIfBoundUnlessNone?_slot hT qJc
  (wpAny_call_entry qJc hT entry_int_hash
   (show wpAny _ _ (do ret (<- mkInt (rawHash (zL8 b)))) _ _ s by cases b<;>exact wpAny_ret_mkInt (wpAny_pure h)) (args_int_hash _)))
theorem eqN(a b:KeyN):decide (a=b)=match a,b with|none,none=>true|some x,some y=>decide (x=y)|_,_=>false:=by
 cases a<;>cases b<;>simp
def mixN(prog:qI0)(w:World):qHb prog w KeyN where
 is:=zGX
 hash:=zcP w
 inj:=fun v a b ha hb=>by
  rcases zBC ha with⟨rfl,rfl⟩|⟨x,rfl,rfl⟩|⟨i,t,rfl,rfl⟩|⟨x,t,rfl,rfl⟩<;>rcases zBC hb with⟨rfl,e⟩|⟨y,rfl,e⟩|⟨j,u,rfl,e⟩|⟨y,u,rfl,e⟩<;>first|rfl|(cases e;done)|(cases e;rfl)
 byValue:=fun k v h=>by
  rcases zBC h with⟨rfl,rfl⟩|⟨x,rfl,rfl⟩|⟨i,t,rfl,rfl⟩|⟨x,t,rfl,rfl⟩<;>rfl
 pyHash:=fun hv h=>by
  rcases zBC hv with⟨rfl,rfl⟩|⟨x,rfl,rfl⟩|⟨i,t,rfl,rfl⟩|⟨x,t,rfl,rfl⟩
  ·exact zRF h
  ·exact zRG h
  ·exact wpAny_pyHash_int h
  ·exact wpAny_pyHash_str h
 eqBool:=fun hu hv h=>by
  rw[eqN]at h
  rcases zBC hu with⟨rfl,rfl⟩|⟨x,rfl,rfl⟩|⟨i,t,rfl,rfl⟩|⟨x,t,rfl,rfl⟩<;>rcases zBC hv with⟨rfl,rfl⟩|⟨y,rfl,rfl⟩|⟨j,u,rfl,rfl⟩|⟨y,u,rfl,rfl⟩
  ·exact qJj _ _ _ _ _ h
  ·exact qKj _ _ _ _ _ h
  ·exact qKo _ _ _ _ _ _ h
  ·exact qKp _ _ _ _ _ _ h
  ·exact qKk _ _ _ _ _ h
  ·refine qKl _ _ _ _ _ _ ?_;cases x<;>cases y<;>exact h
  ·refine qKq _ _ _ _ _ _ _ ?_;dsimp only at h;rw[zNP]at h;exact h
  ·exact qKr _ _ _ _ _ _ _ h
  ·exact qKs _ _ _ _ _ _ h
  ·refine qKt _ _ _ _ _ _ _ ?_;dsimp only at h;rw[zNP]at h;exact h
  ·dsimp only at h;rw[zNP]at h;exact wpAny_eqBool_int h
  ·dsimp only at h;rw[zVR]at h;exact qJp _ _ _ _ _ _ _ _ h
  ·exact qKu _ _ _ _ _ _ h
  ·exact qKv _ _ _ _ _ _ _ h
  ·dsimp only at h;rw[zVQ]at h;exact qJq _ _ _ _ _ _ _ _ h
  ·dsimp only at h;rw[zVP]at h;exact wpAny_eqBool_str h
 «strs»:=fun k x t v h=>by
  rcases zBC h with⟨rfl,e⟩|⟨x,rfl,e⟩|⟨i,u,rfl,e⟩|⟨y,u,rfl,e⟩
  ·exact nomatch e
  ·exact nomatch e
  ·exact nomatch e
  ·injection e with e1 _
   subst e1;cases v<;>rfl
inductive V where
 |non|bl (b:Bool)|int (i:Int)|str (x:Str)|byt (b:Array UInt8)|flt (b:UInt64)|ref (a:Addr)|ty (n:String)
 deriving DecidableEq
noncomputable def RelV:V->Value->Prop
 |.non,u=>u=qI7
 |.bl b,u=>u=qL2 b
 |.int i,u=>∃t,u=qKa i t
 |.str x,u=>∃t,u=qKb x t
 |.byt b,u=>∃t,u=Value.bytes b t
 |.flt b,u=>∃t,u=Value.float b t
 |.ref a,u=>u=qI5 a
 |.ty n,u=>u=qJ5 n
abbrev Vals:List V->List Value->Prop:=qK3 RelV
theorem Vals.length{xs:List V}{us:List Value}(r:Vals xs us):xs.length=us.length:=qJ0 r
theorem Vals.get:∀{xs:List V}{us:List Value}{i:Nat}{x:V},Vals xs us->xs[i]?=some x->∃u,us[i]?=some u/\RelV x u
 |_,_,_,_,.nil,e=>by simp at e
 |_,_,0,_,.cons r _,e=>by simp at e;subst e;exact⟨_,rfl,r⟩
 |_,_,i+1,x,.cons _ t,e=>by
  obtain⟨u,h1,h2⟩:=Vals.get (i:=i) (x:=x) t (by simpa using e);exact⟨u,by simpa using h1,h2⟩
theorem Vals.set{x:V}{u:Value}(r:RelV x u):∀{xs:List V}{us:List Value}(i:Nat),Vals xs us->Vals (xs.set i x) (us.set i u)
 |_,_,_,.nil=>.nil
 |_,_,0,.cons _ t=>.cons r t
 |_,_,i+1,.cons q t=>.cons q (Vals.set r i t)
theorem Vals.append:∀{xs ys:List V}{us ws:List Value},Vals xs us->Vals ys ws->Vals (xs++ys) (us++ws)
 |_,_,_,_,.nil,s=>s
 |_,_,_,_,.cons r t,s=>.cons r (Vals.append t s)
theorem Vals.take:∀{xs:List V}{us:List Value}(n:Nat),Vals xs us->Vals (xs.take n) (us.take n)
 |_,_,0,_=>.nil
 |_,_,_+1,.nil=>.nil
 |_,_,n+1,.cons r t=>.cons r (Vals.take n t)
theorem Vals.drop:∀{xs:List V}{us:List Value}(n:Nat),Vals xs us->Vals (xs.drop n) (us.drop n)
 |_,_,0,r=>r
 |_,_,_+1,.nil=>.nil
 |_,_,n+1,.cons _ t=>Vals.drop n t
def RelO:Option V->Option Value->Prop
 |some v,some u=>RelV v u
 |none,none=>True
 |_,_=>False
def KV{κ:Type}:List (κ×V)->List (κ×Value)->Prop:=qK3 fun(p:κ×V)(q:κ×Value)=>p.1=q.1/\RelV p.2 q.2
noncomputable def kV:Key->V
 |.inl i=>.int i
 |.inr x=>.str x
def vN:V->Option KeyN
 |.non=>some none
 |.bl b=>some (some (.inl (zL8 b)))
 |.int i=>some (some (.inl i))
 |.str x=>some (some (.inr x))
 |_=>none
abbrev KsOf:List V->List KeyN->Prop:=qK3 fun v k=>vN v=some k
inductive HO where
 |lst (xs:List V)
 |tup (xs:List V)
 |dK (kvs:List (Key×V))|dT (T:Addr->Prop) (e0:Nat) (kvs:List (List KeyN×V))
 |set (S:Int->Bool) (n:Nat)
 |ins (C dx:Addr) (fs:List (Str×V))
 |own (x:Addr)
 |xd (fs:List (Str×V))
 |met (f x:Addr)
 |rng (lo hi:Int)
 |frz (o:Obj) (u:HO)
 |tbl (ps:Array Value)
 |lam (q:Str)
 |fn (o:Obj) (q:Str)
 |ext (φ:Heap->Prop)
abbrev Hp:=Addr->Option HO
noncomputable def upd(H:Hp)(a:Addr)(o:HO):Hp:=fun b=>if b=a then some o else H b
theorem zAC{H:Hp}{a:Addr}{o:HO}:upd H a o a=some o:=by unfold upd;rw[if_pos rfl]
theorem zAB{H:Hp}{a b:Addr}{o:HO}(h:b≠a):upd H a o b=H b:=by unfold upd;rw[if_neg h]
theorem zOX{H:Hp}{a b:Addr}{o u:HO}(h:H a=some o)(h':H b=some u)(d:o≠u):a≠b:=by
 intro e;subst e;rw[h]at h';exact d (qBc h')
theorem zAE{H:Hp}{a b:Addr}{o:HO}(h:H a=some o)(h':H b=none):a≠b:=by
 intro e;subst e;rw[h]at h';cases h'
def TupK(H:Hp)(b:Addr)(k:List KeyN):Prop:=∃vs,H b=some (.tup vs)/\KsOf vs k
theorem TupK.keeps{H H':Hp}{b:Addr}{k:List KeyN}(x:TupK H b k)(ht:∀b xs,H b=some (.tup xs)->H' b=some (.tup xs)):TupK H' b k:=let⟨vs,e,r⟩:=x;⟨vs,ht _ _ e,r⟩
def CodR(o:Obj)(q:Str):Prop:=∃vs t,o.data=.fields vs/\vs[1]?=some (.str q t)
section
variable(P:qI0)(w:World)
def ObjOk(H:Hp)(h:Heap)(a:Addr):HO->Prop
 |.lst xs=>xs.length<=sizeLine/\∃(its:List Value)(n:Nat),Vals xs its/\h.get? a=some { cls:=.type "list",data:=.seq its.toArray n }
 |.tup xs=>xs.length<=sizeLine/\∃its:List Value,Vals xs its/\IsTup h a its.toArray
 |.dK kvs=>kvs.length<=sizeLine/\(a==qIs)=false/\∃vs,KV kvs vs/\h.DictOf (zEG P w) a vs
 |.dT T e0 kvs=>kvs.length<=sizeLine/\(a==qIs)=false/\∃xs:List (List KeyN×Addr×Value),
   qK3 (fun(p:List KeyN×V)(q:List KeyN×Addr×Value)=>p.1=q.1/\(TupK H q.2.1 p.1/\T q.2.1)/\RelV p.2 q.2.2) kvs xs /\
   ∃o es ep,h.get? a=some o/\o.ExactDict/\o.data=.dict es ep/\es.toList=xs.map (entryOfKey (tupleKind (mixN P w)))/\(xs.map (·.1)).Nodup/\ep=e0
 |.set S n=>h.SetOf (intKind P w) a S n
 |.ins C dx fs=>H dx=some (.own a)/\fs.length<=1000/\dx≠a/\h.get? a=some (PySem.W.instObj C dx) /\
   ∃mA,h.Ns1 dx mA/\(∀f,RelO (fs.lookup f) (mA f))/\PySem.Within mA (fs.map (·.1))
 |.own _=>∃o,h.get? a=some o
 |.xd fs=>∃mA,h.Ns1 a mA/\∀f,RelO (fs.lookup f) (mA f)
 |.rng lo hi=>∃t u v,h.get? a=some { cls:=.type "range",data:=.fields #[.int lo t,.int hi u,.int 1 v] }
 |.frz o u=>h.get? a=some o/\ObjOk H h a u
 |.tbl ps=>h.get? a=some { cls:=.none,data:=.fields ps }
 |.lam q=>∃ps:Array Value,h.get? a=some { cls:=.none,data:=.fields ps }/\TriplesOk ps.toList/\∀pos cv,codeAmong pos ps.toList=some cv->∃c oc u,cv=.ref c/\H c=some (.frz oc u)/\CodR oc q
 |.fn o q=>h.get? a=some o/\∃fd c oc u,o.data=.func fd/\fd.code=.ref c/\H c=some (.frz oc u)/\CodR oc q
 |.met f x=>h.get? a=some (qE8 (.ref f) (.ref x))
 |.ext φ=>φ h/\(∃o,h.get? a=some o)/\∀h1 h2:Heap,φ h1->(∀o,h1.get? a=some o->h2.get? a=some o)->φ h2
def HOk(H:Hp)(h:Heap):Prop:=∀a o,H a=some o->ObjOk P w H h a o
end
section
variable{P:qI0}{w:World}{H H':Hp}{h h':Heap}{a:Addr}{o:HO}
theorem ObjOk.lt(x:ObjOk P w H h a o):a<h.objs.size:=by
 cases o with
 |lst xs=>obtain⟨_,_,_,_,e⟩:=x;exact qHz e
 |tup xs=>obtain⟨_,_,_,p⟩:=x;exact p.lt
 |dK kvs=>obtain⟨_,_,_,_,o,_,_,e,_⟩:=x;exact qHz e
 |dT T e0 kvs=>obtain⟨_,_,_,_,o,_,_,e,_⟩:=x;exact qHz e
 |set S n=>obtain⟨o,_,_,_,e,_⟩:=x;exact qHz e
 |ins C dx fs=>obtain⟨_,_,_,e,_⟩:=x;exact qHz e
 |own y=>obtain⟨_,e⟩:=x;exact qHz e
 |xd fs=>obtain⟨_,⟨_,_,_,e,_⟩,_⟩:=x;exact qHz e
 |rng lo hi=>obtain⟨_,_,_,e⟩:=x;exact qHz e
 |frz ob u=>obtain⟨e,_⟩:=x;exact qHz e
 |tbl ps=>exact qHz (show h.get? a=some _ from x)
 |lam q=>obtain⟨_,e,_⟩:=x;exact qHz e
 |fn ob q=>obtain⟨e,_⟩:=x;exact qHz e
 |met f y=>exact qHz (show h.get? a=some _ from x)
 |ext φ=>obtain⟨_,⟨_,e⟩,_⟩:=x;exact qHz e
theorem qK3.mapP{α β:Type}{F G:α->β->Prop}:∀{l₁:List α}{l₂:List β},qK3 F l₁ l₂->(∀a b,F a b->G a b)->qK3 G l₁ l₂
 |_,_,.nil,_=>.nil
 |_,_,.cons r t,f=>.cons (f _ _ r) (qK3.mapP t f)
theorem ObjOk.stay(x:ObjOk P w H h a o)(k:∀b u,(b=a\/H b=some (.own a))->h.get? b=some u->h'.get? b=some u)
  (ho:∀b,H b=some (.own a)->H' b=some (.own a)) (ht:∀b xs,H b=some (.tup xs)->H' b=some (.tup xs)) (hf:∀b o u,H b=some (.frz o u)->(∃vs,o.data=.fields vs)->H' b=some (.frz o u)):ObjOk P w H' h' a o:=by
 induction o with
 |lst xs=>obtain⟨z,its,n,r,e⟩:=x;exact⟨z,its,n,r,k _ _ (.inl rfl) e⟩
 |tup xs=>obtain⟨z,its,r,ob,e,c⟩:=x;exact⟨z,its,r,ob,k _ _ (.inl rfl) e,c⟩
 |dK kvs=>obtain⟨z,y,vs,r,ob,es,ep,e,c⟩:=x;exact⟨z,y,vs,r,ob,es,ep,k _ _ (.inl rfl) e,c⟩
 |dT T e0 kvs=>
  obtain⟨z,y,xs,r,ob,es,ep,e,c⟩:=x;exact⟨z,y,xs,qK3.mapP r fun p q z=>⟨z.1,⟨z.2.1.1.keeps ht,z.2.1.2⟩,z.2.2⟩,ob,es,ep,k _ _ (.inl rfl) e,c⟩
 |set S n=>obtain⟨ob,es,ep,t,e,c⟩:=x;exact⟨ob,es,ep,t,k _ _ (.inl rfl) e,c⟩
 |ins C dx fs=>
  obtain⟨d,z,ne,e,mA,⟨od,es,ep,e2,c⟩,r⟩:=x;exact⟨ho _ d,z,ne,k _ _ (.inl rfl) e,mA,⟨od,es,ep,k _ _ (.inr d) e2,c⟩,r⟩
 |own y=>obtain⟨ob,e⟩:=x;exact⟨ob,k _ _ (.inl rfl) e⟩
 |xd fs=>obtain⟨mA,⟨od,es,ep,e,c⟩,r⟩:=x;exact⟨mA,⟨od,es,ep,k _ _ (.inl rfl) e,c⟩,r⟩
 |rng lo hi=>obtain⟨t,u,v,e⟩:=x;exact⟨t,u,v,k _ _ (.inl rfl) e⟩
 |frz ob u ih=>obtain⟨e,q⟩:=x;exact⟨k _ _ (.inl rfl) e,ih q⟩
 |tbl ps=>
  have e:h.get? a=some { cls:=.none,data:=.fields ps }:=x;show h'.get? a=some { cls:=.none,data:=.fields ps };exact k a _ (.inl rfl) e
 |lam q=>
  obtain⟨ps,e,t,r⟩:=x;exact⟨ps,k _ _ (.inl rfl) e,t,fun pos cv z=>let⟨c,oc,u,e1,e2,e3⟩:=r pos cv z;⟨c,oc,u,e1,hf _ _ _ e2 (let⟨vs,_,d,_⟩:=e3;⟨vs,d⟩),e3⟩⟩
 |fn ob q=>
  obtain⟨e,fd,c,oc,u,e1,e2,e3,e4⟩:=x;exact⟨k _ _ (.inl rfl) e,fd,c,oc,u,e1,e2,hf _ _ _ e3 (let⟨vs,_,d,_⟩:=e4;⟨vs,d⟩),e4⟩
 |met f y=>
  have e:h.get? a=some (qE8 (.ref f) (.ref y)):=x;show h'.get? a=some (qE8 (.ref f) (.ref y));exact k a _ (.inl rfl) e
 |ext φ=>obtain⟨p,⟨o,e⟩,st⟩:=x;exact⟨st _ _ p fun o q=>k _ _ (.inl rfl) q,⟨o,k _ _ (.inl rfl) e⟩,st⟩
theorem HOk.lt(x:HOk P w H h)(e:H a=some o):a<h.objs.size:=(x a o e).lt
theorem HOk.fresh(x:HOk P w H h)(e:h.objs.size<=a):H a=none:=by
 cases q:H a with
 |none=>rfl
 |some u=>exact absurd (qAh (x.lt q) e) (qBy _)
theorem HOk.kept(x:HOk P w H h)(k:∀b u,h.get? b=some u->h'.get? b=some u):HOk P w H h':=fun a o e=>
 (x a o e).stay (fun b u _ q=>k b u q) (fun _ q=>q) (fun _ _ q=>q) fun _ _ _ q _=>q
theorem HOk.laid(x:HOk P w H h)(k:∀b u,h.get? b=some u->h'.get? b=some u)(hp:h.objs.size<=a)(new:ObjOk P w (upd H a o) h' a o):HOk P w (upd H a o) h':=fun b u e=>by
 have hn:=x.fresh hp
 by_cases hb:b=a
 ·subst hb;rw[zAC]at e;cases e;exact new
 ·rw[zAB hb]at e;exact(x b u e).stay (fun c v _ q=>k c v q) (fun c q=>by rw[zAB (zAE q hn)];exact q) (fun c xs q=>by rw[zAB (zAE q hn)];exact q) fun c _ _ q _=>by rw[zAB (zAE q hn)];exact q
end
def Rd(H:Hp)(a:Addr)(u:HO):Prop:=H a=some u\/∃o,H a=some (.frz o u)
theorem Rd.ok{P:qI0}{w:World}{H:Hp}{h:Heap}{a:Addr}{u:HO}(r:Rd H a u)(x:HOk P w H h):ObjOk P w H h a u:=by
 rcases r with r|⟨o,r⟩
 ·exact x a u r
 ·obtain⟨_,q⟩:=x a _ r;exact q
noncomputable def Mut:Option HO->Prop
 |some (.lst _)=>True
 |some (.dK _)=>True
 |some (.dT _ _ _)=>True
 |some (.set _ _)=>True
 |some (.ins _ _ _)=>True
 |some (.ext _)=>True
 |some (.lam _)=>True
 |_=>False
section
variable{P:qI0}{w:World}{H:Hp}{h h':Heap}{x e:Addr}{o':HO}
theorem HOk.write(ok:HOk P w H h)(mu:Mut (H x))(he:e=x\/H e=some (.own x))(k:∀b u,b≠e->h.get? b=some u->h'.get? b=some u)(heo:∃u,h'.get? e=some u)
  (new:ObjOk P w (upd H x o') h' x o'):HOk P w (upd H x o') h':=fun b u q=>by
 have nown:∀c y,H c=some (.own y)->c≠x:=fun c y r z=>by subst z;rw[r]at mu;exact mu
 have ntup:∀c xs,H c=some (.tup xs)->c≠x:=fun c xs r z=>by subst z;rw[r]at mu;exact mu
 have nfrz:∀c o v,H c=some (.frz o v)->c≠x:=fun c o v r z=>by subst z;rw[r]at mu;exact mu
 by_cases hb:b=x
 ·subst hb;rw[zAC]at q;cases q;exact new
 ·rw[zAB hb]at q
  by_cases hbe:b=e
  ·have q':H b=some (.own x):=by
    rcases he with z|z
    ·exact absurd (hbe.trans z) hb
    ·rw[hbe];exact z
   rw[q]at q';cases q';obtain⟨v,hv⟩:=heo;exact⟨v,by rw[hbe];exact hv⟩
  ·refine(ok b u q).stay (fun c v hc r=>k c v ?_ r) (fun c r=>by rw[zAB (nown c b r)];exact r) (fun c xs r=>by rw[zAB (ntup c xs r)];exact r) fun c o v r _=>by rw[zAB (nfrz c o v r)];exact r
   rcases hc with rfl|hc
   ·exact hbe
   ·rintro rfl
    rcases he with z|z
    ·exact nown c b hc z
    ·rw[hc]at z;cases z;exact hb rfl
end
structure Un(fs ex:List Addr)(H H':Hp)(h h':Heap):Prop where
 keep:∀b o,h.get? b=some o->H b=none->b∉fs->b∉ex->h'.get? b=some o
 slot:∀b o,h.get? b=some o->H b=none->b∈fs->b∉ex->∃sl,h'.get? b=some { o with slots:=sl }
 free:∀b o,h.get? b=some o->H b=none->b∉ex->H' b=none
 there:∀b o,h.get? b=some o->b∉ex->∃o',h'.get? b=some o'
 tups:∀b xs,H b=some (.tup xs)->H' b=some (.tup xs)
 frzs:∀b o u,H b=some (.frz o u)->H' b=some (.frz o u)
 tbls:∀b ps,H b=some (.tbl ps)->∃more,H' b=some (.tbl (ps++more))
section
variable{fs fs' ex ex':List Addr}{H H1 H2:Hp}{h h1 h2 h':Heap}{a x e:Addr}{o:HO}
theorem Un.any(u:Un fs ex H H1 h h1){b:Addr}{ob:Obj}(q:h.get? b=some ob)(n:H b=none)(hx:b∉ex):∃sl,h1.get? b=some { ob with slots:=sl }:=by
 by_cases hb:b∈fs
 ·exact u.slot b ob q n hb hx
 ·exact⟨ob.slots,u.keep b ob q n hb hx⟩
theorem Un.kept(k:∀b u,h.get? b=some u->h'.get? b=some u):Un fs ex H H h h':=
 ⟨fun b ob q _ _ _=>k b ob q,fun b ob q _ _ _=>⟨ob.slots,k b ob q⟩,fun _ _ _ n _=>n,fun b ob q _=>⟨ob,k b ob q⟩,fun _ _ q=>q,fun _ _ _ q=>q,fun _ ps q=>⟨#[],by rw[q];simp⟩⟩
theorem Un.refl:Un fs ex H H h h:=Un.kept fun _ _ q=>q
theorem Un.laid(k:∀b u,h.get? b=some u->h'.get? b=some u)(hp:h.objs.size<=a)(hn:H a=none):Un fs ex H (upd H a o) h h' where
 keep:=fun b u q _ _ _=>k b u q
 slot:=fun b u q _ _ _=>⟨u.slots,k b u q⟩
 free:=fun b u q n _=>by rw[zAB (qAu (qAh (qHz q) hp))];exact n
 there:=fun b u q _=>⟨u,k b u q⟩
 tups:=fun b xs q=>by rw[zAB (zAE q hn)];exact q
 frzs:=fun b u xs q=>by rw[zAB (zAE q hn)];exact q
 tbls:=fun b ps q=>⟨#[],by rw[zAB (zAE q hn),q];simp⟩
theorem Un.write(mu:Mut (H x))(he:e=x\/H e=some (.own x))(k:∀b u,b≠e->h.get? b=some u->h'.get? b=some u)(heo:∃u,h'.get? e=some u):Un fs ex H (upd H x o) h h':=by
 have hx:∀b,H b=none->b≠x:=fun b n z=>by subst z;rw[n]at mu;exact mu
 have hb:∀b,H b=none->b≠e:=fun b n z=>by
  subst z
  rcases he with r|r
  ·exact hx b n r
  ·rw[n]at r;cases r
 have hm:∀b u,H b=some u->¬Mut (some u)->b≠x:=fun b u q nm z=>by subst z;rw[q]at mu;exact nm mu
 refine⟨fun b u q n _ _=>k b u (hb b n) q,fun b u q n _ _=>⟨u.slots,k b u (hb b n) q⟩,fun b u q n _=>by rw[zAB (hx b n)];exact n,fun b u q _=>?_,
  fun b xs q=>by rw[zAB (hm b _ q fun z=>z)];exact q,fun b u xs q=>by rw[zAB (hm b _ q fun z=>z)];exact q,fun b ps q=>⟨#[],by rw[zAB (hm b _ q fun z=>z),q];simp⟩⟩
 by_cases hbe:b=e
 ·subst hbe;exact heo
 ·exact⟨u,k b u hbe q⟩
end
noncomputable def trk(h:Heap)(H:Hp):List Addr:=(qA9 h.objs.size).filter fun a=>(H a).isSome
def hidT(h:Heap)(H:Hp):Heap:=PySem.W.hideAll h (trk h H)
theorem zRE(h:Heap)(H:Hp):(hidT h H).objs.size=h.objs.size:=PySem.W.hideAll_size _ _
theorem zU4{h:Heap}{H:Hp}{b:Addr}{o:Obj}(e:h.get? b=some o)(n:H b=none):(hidT h H).get? b=some o:=
 PySem.W.hideAll_get _ e fun hm=>by
  have q:(H b).isSome=true:=(qB6.mp hm).2;rw[n]at q;simp at q
theorem zXM{h:Heap}{H:Hp}{b:Addr}{o:Obj}(e:(hidT h H).get? b=some o):h.get? b=some o/\H b=none:=by
 have e':h.get? b=some o:=PySem.W.of_hideAll (trk h H) e;refine⟨e',?_⟩;cases q:H b with
 |none=>rfl
 |some x=>
  have hm:b∈trk h H:=qB6.mpr ⟨qD6.mpr (qHz e'),by simp[q]⟩;have z:(hidT h H).get? b=none:=PySem.W.hideAll_none (trk h H) hm;rw[z]at e;cases e
noncomputable def zYQ(g h:Heap)(L:Addr):List (Addr×Obj):=(qA9 h.objs.size).filterMap fun a=>if a=L\/(g.get? a).isSome=true then none else(h.get? a).map fun o=>(a,o)
def rest(g h:Heap)(L d:Addr):List (Addr×Obj):=(zYQ g h L).filter fun p=>decide (p.1≠d)
structure Mod(K:qA1)(mg:Str->Option Value)(base:Heap):Prop where
 kin:K.In base
 glob:base.Ns qI3 mg
 blt:∃mb,base.Ns qJh mb/\∀x:Str,x≠"__name__"->mb x=qIl x
 nolimit:base.NoLimit
 bm:∃bm ob,mg "__builtins__" = some (.ref bm)/\bm≠qJh/\base.get? bm=some ob/\ob.cls=.type "module"/\ob.dict=some qJh/\ob.data=.plain
structure Cx where
 prog:qI0
 w:World
 K:qA1
 mg:Str->Option Value
 base:Heap
 A:qI4
 N:List Str
 s₀:qHx
 H₀:Hp
 env:Env
 outer:List Env
 stack:List Env
 ex:List Addr
 fn:Str->Bool
 calm:Bool
 pn:List (Addr×Obj)
 xe:Value->qHx->Prop
noncomputable def frs(l:List Env):List Addr:=l.filterMap (·.frame)
abbrev Cx.fs(X:Cx):List Addr:=frs X.outer
def Vis(sc:Scope)(x:Str):Prop:=sc.names.lookup x=some .local\/sc.names.lookup x=some .cell\/sc.names.lookup x=some .free
def Loc(sc:Scope)(x:Str):Prop:=sc.names.lookup x=some .local\/sc.names.lookup x=some .cell
def Look(env:Env)(h:Heap)(m:Str->Option Value)(x:Str)(u:Value):Prop:=
 (env.kindOf x=some .local/\m x=some u)\/((env.kindOf x=some .cell\/env.kindOf x=some .free)/\∃c,env.cells.lookup x=some c/\h.IsCell c (some u))
structure Cx.Ok(X:Cx):Prop where
 mod:Mod X.K X.mg X.base
 kind:X.env.scope.kind=.function
 glob:X.env.globals=qI3
 blt:X.env.builtins=qJh
 above:X.s₀.heap.objs.size<=X.env.locals
 inj:∀x y c,X.env.cells.lookup x=some c->X.env.cells.lookup y=some c->x=y
 has:∀x,(X.env.kindOf x=some .cell\/X.env.kindOf x=some .free)->∃c,X.env.cells.lookup x=some c
 cab:∀x c,X.fn x=true->X.env.cells.lookup x=some c->X.s₀.heap.objs.size<=c
 hd:X.calm=true->X.A.handled=none
 frames:X.A.frames=some X.stack
 stk:X.stack=X.outer\/(X.stack=X.env::X.outer/\X.env.frame=some X.env.locals)
 exf:∀b∈X.ex,b≠X.env.locals/\∀x c,X.env.cells.lookup x=some c->c≠b
 bs:∀b o,X.base.get? b=some o->X.s₀.heap.get? b=some o/\X.H₀ b=none
 bsz:X.base.objs.size<=X.s₀.heap.objs.size
 noex:∀b o,X.base.get? b=some o->b∉X.ex
 exfs:∀b∈X.ex,b∉X.fs
 funs:X.s₀.heap.FunFrames X.base X.outer
 frf:∀b∈X.fs,X.H₀ b=none
structure Inv(X:Cx)(pins:List (Addr×Obj))(σ:List (Option V))(H:Hp)(s:qHx):Prop where
 ok:X.Ok
 os:s.os=X.s₀.os
 bare:qK0 s.gens
 base:Un X.fs X.ex X.H₀ H X.s₀.heap s.heap
 loc:∃m,s.heap.Ns X.env.locals m/\∀(i:Nat)(x:Str)(v:V),X.N[i]?=some x->σ[i]?=some (some v)->Vis X.env.scope x->∃u,RelV v u/\Look X.env s.heap m x u
 cell:∀x c,X.env.cells.lookup x=some c->∃v,s.heap.IsCell c v
 free:H X.env.locals=none
 freeC:∀x c,X.env.cells.lookup x=some c->H c=none
 pin:∀p∈X.pn++pins,s.heap.get? p.1=some p.2/\H p.1=none/\p.1≠X.env.locals/\p.1∉X.fs/\∀v,p.2.data≠.cell v
 hok:HOk X.prog X.w H s.heap
 len:σ.length=X.N.length
section
variable{X:Cx}{pins:List (Addr×Obj)}{σ:List (Option V)}{H H':Hp}{s:qHx}{h':Heap}
theorem Cx.Ok.nofr(ok:X.Ok){b:Addr}{o:Obj}(e:X.base.get? b=some o):b∉X.fs:=fun hb=>by
 have:=(ok.funs.mem hb).1
 rw[e]at this;cases this
theorem Inv.bs(I:Inv X pins σ H s):∀b o,X.base.get? b=some o->s.heap.get? b=some o/\H b=none:=fun b o e=>
 ⟨I.base.keep b o (I.ok.bs b o e).1 (I.ok.bs b o e).2 (I.ok.nofr e) (I.ok.noex b o e),I.base.free b o (I.ok.bs b o e).1 (I.ok.bs b o e).2 (I.ok.noex b o e)⟩
theorem Inv.bk(I:Inv X pins σ H s):∀b o,X.base.get? b=some o->s.heap.get? b=some o:=fun b o e=>(I.bs b o e).1
theorem Inv.mod(I:Inv X pins σ H s):Mod X.K X.mg X.base:=I.ok.mod
theorem Inv.kIn(I:Inv X pins σ H s):X.K.In s.heap:=I.ok.mod.kin.keeps I.bk
theorem Inv.fr(I:Inv X pins σ H s):∃m,Fr X.base X.env.locals s.heap m:=
 let⟨m,hn,_⟩:=I.loc
 ⟨m,hn,I.bk,qAr I.ok.bsz I.ok.above⟩
theorem Inv.lt(I:Inv X pins σ H s):X.env.locals<s.heap.objs.size:=let⟨_,hn,_⟩:=I.loc;hn.lt
theorem Inv.sz(I:Inv X pins σ H s):X.s₀.heap.objs.size<=s.heap.objs.size:=qAr I.ok.above (qCd I.lt)
theorem Inv.nofs(I:Inv X pins σ H s){a:Addr}(h:s.heap.objs.size<=a):a∉X.fs:=fun hb=>by
 obtain⟨_,o,ho,_⟩:=I.ok.funs.mem hb;exact absurd (qAh (qHz ho) (qAr I.sz h)) (qBy _)
theorem Inv.cne(I:Inv X pins σ H s):∀x c,X.env.cells.lookup x=some c->c≠X.env.locals:=fun x c e z=>by
 obtain⟨v,o,ho,hd⟩:=I.cell x c e;obtain⟨m,⟨o',es,ep,ho',hd',_⟩,_⟩:=I.loc;rw[z,ho']at ho;cases ho;rw[hd']at hd;cases hd
theorem Inv.funs(I:Inv X pins σ H s):s.heap.FunFrames X.base X.outer:=by
 have all:∀(l:List Env),(∀b∈frs l,b∈X.fs)->X.s₀.heap.FunFrames X.base l->s.heap.FunFrames X.base l:=by
  intro l
  induction l with
  |nil=>intro _ _;trivial
  |cons env r ih=>
   intro hs hl;obtain⟨hk,⟨L,o,hf,hn,ho,hd⟩,hr⟩:=hl;have hL:L∈X.fs:=hs L (by unfold frs;rw[qDj,hf];exact qAl);obtain⟨sl,e⟩:=I.base.slot L o ho (I.ok.frf L hL) hL fun z=>I.ok.exfs L z hL
   exact⟨hk,⟨L,_,hf,hn,e,hd⟩,ih (fun b hb=>hs b (by unfold frs;rw[qDj,hf];exact qAd _ hb)) hr⟩
 exact all X.outer (fun _ hb=>hb) I.ok.funs
theorem Inv.stack(I:Inv X pins σ H s):s.heap.FunFrames X.base X.stack:=by
 rcases I.ok.stk with e|⟨e,hf⟩
 ·rw[e];exact I.funs
 ·rw[e];obtain⟨m,hn,_⟩:=I.loc;refine .cons (by rw[I.ok.kind];decide) hf hn ?_ I.funs;exact qIv (qAr I.ok.bsz I.ok.above)
theorem Inv.stkSub(I:Inv X pins σ H s):∀b∈frs X.stack,b∈X.env.locals::X.fs:=fun b hb=>by
 rcases I.ok.stk with e|⟨e,hf⟩
 ·rw[e]at hb;exact qAd _ hb
 ·rw[e]at hb;unfold frs at hb;rw[qDj,hf]at hb;exact hb
theorem Inv.stkFree(I:Inv X pins σ H s):∀b∈frs X.stack,H b=none:=fun b hb=>by
 rcases qA6.mp (I.stkSub b hb)with e|hb
 ·rw[e];exact I.free
 ·obtain⟨_,o,ho,_⟩:=I.ok.funs.mem hb;exact I.base.free b o ho (I.ok.frf b hb) fun z=>I.ok.exfs b z hb
theorem Inv.step{g':Array qJ8}{t':Nat}{d':Drawn}{ch:List Addr}(I:Inv X pins σ H s)
  (hch:∀b∈ch,(b∈X.ex\/X.s₀.heap.objs.size<=b)/\b≠X.env.locals/\(∀x c,X.env.cells.lookup x=some c->c≠b)/\∀p∈X.pn++pins,p.1≠b)
  (keep:∀b o,b≠X.env.locals->b∉X.fs->b∉ch->s.heap.get? b=some o->H b=none->h'.get? b=some o)
  (slot:∀b o,b≠X.env.locals->b∈X.fs->b∉ch->s.heap.get? b=some o->H b=none->∃sl,h'.get? b=some { o with slots:=sl }) (free:∀b o,b∉ch->s.heap.get? b=some o->H b=none->H' b=none)
  (there:∀b o,b∉ch->s.heap.get? b=some o->∃o',h'.get? b=some o')
  (tups:∀b xs,H b=some (.tup xs)->H' b=some (.tup xs)) (frzs:∀b o u,H b=some (.frz o u)->H' b=some (.frz o u)) (tbls:∀b ps,H b=some (.tbl ps)->∃more,H' b=some (.tbl (ps++more)))
  (ns:∀m,s.heap.Ns X.env.locals m->h'.Ns X.env.locals m) (hok:HOk X.prog X.w H' h') (hg:qK0 g') :
  Inv X pins σ H' { s with heap:=h',gens:=g',drawn:=d',toks:=t' }:=by
 have neL:∀b o,X.s₀.heap.get? b=some o->b≠X.env.locals:=fun b o e=>qAu (qAh (qHz e) I.ok.above)
 have neC:∀b o,X.s₀.heap.get? b=some o->b∉X.ex->b∉ch:=fun b o e hx hb=>by
  rcases(hch b hb).1 with z|z
  ·exact hx z
  ·exact absurd (qAh (qHz e) z) (qBy _)
 have cellK:∀x c,X.env.cells.lookup x=some c->∀v,s.heap.IsCell c v->h'.IsCell c v:=fun x c e v ⟨o,ho,hd⟩=>by
  have nch:c∉ch:=fun z=>(hch c z).2.2.1 x c e rfl
  by_cases hc:c∈X.fs
  ·obtain⟨sl,q⟩:=slot c o (I.cne x c e) hc nch ho (I.freeC x c e);exact⟨_,q,hd⟩
  ·exact⟨o,keep c o (I.cne x c e) hc nch ho (I.freeC x c e),hd⟩
 refine⟨I.ok,I.os,hg,⟨fun b o e n hb hx=>?_,fun b o e n hb hx=>?_,fun b o e n hx=>?_,fun b o e hx=>?_,fun b xs e=>tups b xs (I.base.tups b xs e),fun b o xs e=>frzs b o xs (I.base.frzs b o xs e),fun b ps e=>?_⟩,?_,fun x c e=>?_,?_,fun x c e=>?_,fun p hp=>?_,hok,I.len⟩
 ·exact keep b o (neL b o e) hb (neC b o e hx) (I.base.keep b o e n hb hx) (I.base.free b o e n hx)
 ·obtain⟨sl,e1⟩:=I.base.slot b o e n hb hx;obtain⟨sl',e2⟩:=slot b _ (neL b o e) hb (neC b o e hx) e1 (I.base.free b o e n hx);exact⟨sl',e2⟩
 ·obtain⟨o',e1⟩:=I.base.there b o e hx;exact free b o' (neC b o e hx) e1 (I.base.free b o e n hx)
 ·obtain⟨o',e1⟩:=I.base.there b o e hx;exact there b o' (neC b o e hx) e1
 ·obtain⟨m1,e1⟩:=I.base.tbls b ps e;obtain⟨m2,e2⟩:=tbls b _ e1;exact⟨m1++m2,by rw[e2,Array.append_assoc]⟩
 ·obtain⟨m,hn,hl⟩:=I.loc;refine⟨m,ns m hn,fun i x v e1 e2 e3=>?_⟩;obtain⟨u,r,l⟩:=hl i x v e1 e2 e3;refine⟨u,r,?_⟩
  rcases l with l|⟨k,c,e,z⟩
  ·exact .inl l
  ·exact .inr ⟨k,c,e,cellK x c e _ z⟩
 ·obtain⟨v,z⟩:=I.cell x c e;exact⟨v,cellK x c e v z⟩
 ·obtain⟨m,⟨o,_,_,ho,_⟩,_⟩:=I.loc;exact free _ o (fun z=>(hch _ z).2.1 rfl) ho I.free
 ·obtain⟨v,o,ho,hd⟩:=I.cell x c e;exact free c o (fun z=>(hch c z).2.2.1 x c e rfl) ho (I.freeC x c e)
 ·obtain⟨e,n,ne,nf,d⟩:=I.pin p hp;have nch:p.1∉ch:=fun z=>(hch p.1 z).2.2.2 p hp rfl
  exact⟨keep p.1 p.2 ne nf nch e n,free p.1 p.2 nch e n,ne,nf,d⟩
theorem Inv.un{t':Nat}(I:Inv X pins σ H s)(u:Un X.fs [] H H' s.heap h')(hok:HOk X.prog X.w H' h'):Inv X pins σ H' { s with heap:=h',toks:=t' }:=by
 obtain⟨m,⟨o,es,ep,ho,r⟩,_⟩:=id I.loc;obtain⟨sl,hL⟩:=u.any ho I.free (by simp);exact I.step (g':=s.gens) (d':=s.drawn) (ch:=[]) (fun _ z=>nomatch z) (fun b o _ hb _ e n=>u.keep b o e n hb (by simp)) (fun b o _ hb _ e n=>u.slot b o e n hb (by simp)) (fun b o _ e n=>u.free b o e n (by simp)) (fun b o _ e=>u.there b o e (by simp)) u.tups u.frzs u.tbls (fun m' hm=>by
  obtain⟨o',es',ep',ho',r'⟩:=hm;rw[ho]at ho';cases ho';exact⟨_,es',ep',hL,r'⟩) hok I.bare
theorem Inv.call{g':Array qJ8}{t':Nat}{d':Drawn}{ch:List Addr}(I:Inv X pins σ H s)(u:Un (frs X.stack) ch H H' s.heap h')(hok:HOk X.prog X.w H' h')(hg:qK0 g')
  (hch:∀b∈ch,(b∈X.ex\/X.s₀.heap.objs.size<=b)/\b≠X.env.locals/\(∀x c,X.env.cells.lookup x=some c->c≠b)/\∀p∈X.pn++pins,p.1≠b) :
  Inv X pins σ H' { s with heap:=h',gens:=g',drawn:=d',toks:=t' }:=by
 obtain⟨m,⟨o,es,ep,ho,r⟩,_⟩:=id I.loc;obtain⟨sl,hL⟩:=u.any ho I.free fun z=>(hch _ z).2.1 rfl
 exact I.step (ch:=ch) hch (fun b o hL hb hc e n=>u.keep b o e n (fun z=>(qA6.mp (I.stkSub b z)).elim hL hb) hc) (fun b o _ _ hc e n=>u.any e n hc) (fun b o hc e n=>u.free b o e n hc) (fun b o hc e=>u.there b o e hc) u.tups u.frzs u.tbls (fun m' hm=>by
  obtain⟨o',es',ep',ho',r'⟩:=hm;rw[ho]at ho';cases ho';exact⟨_,es',ep',hL,r'⟩) hok hg
theorem Inv.turned{t':Nat}{it:Addr}(I:Inv X pins σ H s)(k:∀b o,b≠it->s.heap.get? b=some o->h'.get? b=some o)(hn:H it=none)(hL:it≠X.env.locals)
  (h1:it∈X.ex\/X.s₀.heap.objs.size<=it) (h2:∀x c,X.env.cells.lookup x=some c->c≠it) (h3:∀p∈X.pn++pins,p.1≠it):Inv X pins σ H { s with heap:=h',toks:=t' }:=by
 have nit:∀b u,H b=some u->b≠it:=fun b u e z=>by rw[z,hn]at e;cases e
 refine I.step (g':=s.gens) (d':=s.drawn) (ch:=[it]) (fun b hb=>?_) (fun b o _ _ hc e _=>k b o (fun z=>hc (by simp[z])) e) (fun b o _ _ hc e _=>⟨o.slots,k b o (fun z=>hc (by simp[z])) e⟩) (fun _ _ _ _ n=>n)
  (fun b o hc e=>⟨o,k b o (fun z=>hc (by simp[z])) e⟩) (fun _ _ e=>e) (fun _ _ _ e=>e) (fun b ps e=>⟨#[],by rw[e];simp⟩) (fun m hm=>?_) (fun b u e=>?_) I.bare
 ·have e:b=it:=by simpa using hb
  subst e;exact⟨h1,hL,h2,h3⟩
 ·obtain⟨o,es,ep,ho,r⟩:=hm;exact⟨o,es,ep,k _ o (qC7 hL) ho,r⟩
 ·refine(I.hok b u e).stay (fun c v hc q=>k c v ?_ q) (fun _ q=>q) (fun _ _ q=>q) fun _ _ _ q _=>q
  rcases hc with z|z
  ·rw[z];exact nit b u e
  ·exact nit c _ z
theorem Inv.tok(I:Inv X pins σ H s)(t:Nat):Inv X pins σ H { s with toks:=t }:=I.un (h':=s.heap) (t':=t) Un.refl I.hok
theorem Inv.kept{t':Nat}(I:Inv X pins σ H s)(k:∀b u,s.heap.get? b=some u->h'.get? b=some u):Inv X pins σ H { s with heap:=h',toks:=t' }:=I.un (Un.kept k) (I.hok.kept k)
theorem Inv.laid{a:Addr}{o:HO}{t':Nat}(I:Inv X pins σ H s)(k:∀b u,s.heap.get? b=some u->h'.get? b=some u)(hp:s.heap.objs.size<=a)(new:ObjOk X.prog X.w (upd H a o) h' a o) :
  Inv X pins σ (upd H a o) { s with heap:=h',toks:=t' }:=I.un (Un.laid k hp (I.hok.fresh hp)) (I.hok.laid k hp new)
theorem Inv.write{x e:Addr}{o:HO}{t':Nat}(I:Inv X pins σ H s)(mu:Mut (H x))(he:e=x\/H e=some (.own x))(k:∀b u,b≠e->s.heap.get? b=some u->h'.get? b=some u)(heo:∃u,h'.get? e=some u)
  (new:ObjOk X.prog X.w (upd H x o) h' x o):Inv X pins σ (upd H x o) { s with heap:=h',toks:=t' }:=I.un (Un.write mu he k heo) (I.hok.write mu he k heo new)
theorem Inv.weak{σ':List (Option V)}(I:Inv X pins σ H s)(hl:σ'.length=σ.length)(w:∀(i:Nat) v,σ'[i]?=some (some v)->σ[i]?=some (some v)):Inv X pins σ' H s:=
 ⟨I.ok,I.os,I.bare,I.base,let⟨m,hn,hl'⟩:=I.loc;⟨m,hn,fun i x v e1 e2 e3=>hl' i x v e1 (w i v e2) e3⟩,I.cell,I.free,I.freeC,I.pin,I.hok,hl.trans I.len⟩
theorem Inv.pins_of{pins':List (Addr×Obj)}(I:Inv X pins σ H s)(h:∀p∈pins',s.heap.get? p.1=some p.2/\H p.1=none/\p.1≠X.env.locals/\p.1∉X.fs/\∀v,p.2.data≠.cell v):Inv X pins' σ H s:=
 ⟨I.ok,I.os,I.bare,I.base,I.loc,I.cell,I.free,I.freeC,fun p hp=>(qAw.mp hp).elim (fun z=>I.pin p (qBn _ z)) (h p),I.hok,I.len⟩
theorem zIT{N:List Str}(hN:N.Nodup){i j:Nat}{x:Str}(a:N[i]?=some x)(b:N[j]?=some x):i=j:=by
 obtain⟨h1,e1⟩:=qA2.mp a;obtain⟨h2,e2⟩:=qA2.mp b;exact(qEk hN).mp (e1.trans e2.symm)
theorem zJZ{M:Model}{A:qI4}{E:Value->qHx->Prop}{i:Nat}{x:Str}{v:V}{u:Value}{Q:Unit->qHx->Prop}(I:Inv X pins σ H s)(hN:X.N.Nodup)(hi:X.N[i]?=some x)(hx:Loc X.env.scope x)(r:RelV v u)
  (h:∀s',Inv X pins (σ.set i (some v)) H s'->(∃a,qJ9 a s.heap s'.heap/\(a=X.env.locals\/X.env.cells.lookup x=some a))->Q () s') (hf:X.fn x=true\/X.env.scope.names.lookup x=some .local:=by first|exact .inl rfl|exact .inr rfl|assumption):wpAny M A (storeName X.env x u) Q E s:=by
 obtain⟨m,hn,hl⟩:=id I.loc;have hcls:(X.env.scope.kind==.class||(X.env.scope.kind==.module&&X.env.locals != X.env.globals))=false:=by rw[I.ok.kind];rfl
 have hiσ:i<σ.length:=by rw[I.len];exact(qA2.mp hi).1
 have cne:=I.cne;have tracked:∀{a:Addr}{h':Heap},(∃o,s.heap.get? a=some o/\H a=none)->qJ9 a s.heap h'->HOk X.prog X.w H h':=fun{a h'} ha hs b ob e=>by
  obtain⟨_,_,hfree⟩:=ha;refine(I.hok b ob e).stay (fun c w' hc q=>(hs.2 c ?_).trans q) (fun _ q=>q) (fun _ _ q=>q) fun _ _ _ q _=>q
  rintro rfl
  rcases hc with rfl|hc
  ·rw[hfree]at e;cases e
  ·rw[hfree]at hc;cases hc
 rcases hx with hk|hk
 ·refine wpAny_storeName_local hk hn (fun h' hn' hs=>?_) hcls;obtain⟨oL,_,_,hoL,_⟩:=id hn;refine h _ ⟨I.ok,I.os,I.bare,⟨fun b o e n hb hx=>?_,fun b o e n hb hx=>?_,I.base.free,fun b o e hx=>?_,I.base.tups,I.base.frzs,I.base.tbls⟩,⟨_,hn',fun j y v' e1 e2 e3=>?_⟩,fun y c e=>?_,I.free,I.freeC,fun p hp=>?_,tracked ⟨oL,hoL,I.free⟩ hs,by simpa using I.len⟩ ⟨_,hs,.inl rfl⟩
  ·exact(hs.2 b (qAu (qAh (qHz e) I.ok.above))).trans (I.base.keep b o e n hb hx)
  ·obtain⟨sl,e1⟩:=I.base.slot b o e n hb hx;exact⟨sl,(hs.2 b (qAu (qAh (qHz e) I.ok.above))).trans e1⟩
  ·obtain⟨o',e1⟩:=I.base.there b o e hx;exact⟨o',(hs.2 b (qAu (qAh (qHz e) I.ok.above))).trans e1⟩
  ·by_cases hj:j=i
   ·subst hj;rw[hi]at e1;cases e1;rw[qAk hiσ]at e2;cases e2;exact⟨u,r,.inl ⟨hk,by simp⟩⟩
   ·rw[qAj (qC7 hj)]at e2;obtain⟨u',r',q⟩:=hl j y v' e1 e2 e3;refine⟨u',r',?_⟩
    rcases q with⟨k,e⟩|⟨k,c,e,z⟩
    ·refine .inl ⟨k,?_⟩
     have:y≠x:=fun e=>hj (zIT hN e1 (e▸hi))
     simp[this,e]
    ·exact .inr ⟨k,c,e,z.sameBut hs (cne y c e)⟩
  ·obtain⟨w',z⟩:=I.cell y c e;exact⟨w',z.sameBut hs (cne y c e)⟩
  ·obtain⟨e,n,ne,nf,d⟩:=I.pin p hp;exact⟨(hs.2 p.1 ne).trans e,n,ne,nf,d⟩
 ·have hfn:X.fn x=true:=by
   rcases hf with z|z
   ·exact z
   ·rw[z]at hk;cases hk
  obtain⟨c,hc⟩:=I.ok.has x (.inl hk);obtain⟨w',z⟩:=I.cell x c hc;refine wpAny_storeName_cell I.ok.kind hk hc z (fun h' hc' hs=>?_);obtain⟨oc,hoc,hocd⟩:=id z;refine h { s with heap:=h' } ⟨I.ok,I.os,I.bare,⟨fun b o e n hb hx=>?_,fun b o e n hb hx=>?_,I.base.free,fun b o e hx=>?_,I.base.tups,I.base.frzs,I.base.tbls⟩,⟨m,hn.sameBut hs (qC7 (cne x c hc)),fun j y v' e1 e2 e3=>?_⟩,fun y c' e=>?_,I.free,I.freeC,fun p hp=>?_,tracked ⟨oc,hoc,I.freeC x c hc⟩ hs,by simpa using I.len⟩ ⟨c,hs,.inr hc⟩
  ·exact(hs.2 b (qAu (qAh (qHz e) (I.ok.cab x c hfn hc)))).trans (I.base.keep b o e n hb hx)
  ·obtain⟨sl,e1⟩:=I.base.slot b o e n hb hx;exact⟨sl,(hs.2 b (qAu (qAh (qHz e) (I.ok.cab x c hfn hc)))).trans e1⟩
  ·obtain⟨o',e1⟩:=I.base.there b o e hx;exact⟨o',(hs.2 b (qAu (qAh (qHz e) (I.ok.cab x c hfn hc)))).trans e1⟩
  ·by_cases hj:j=i
   ·subst hj;rw[hi]at e1;cases e1;rw[qAk hiσ]at e2;cases e2;exact⟨u,r,.inr ⟨.inl hk,c,hc,hc'⟩⟩
   ·rw[qAj (qC7 hj)]at e2;obtain⟨u',r',q⟩:=hl j y v' e1 e2 e3;refine⟨u',r',?_⟩
    rcases q with q|⟨k,c',e,z'⟩
    ·exact .inl q
    ·refine .inr ⟨k,c',e,z'.sameBut hs ?_⟩
     rintro rfl
     exact hj (zIT hN e1 (I.ok.inj _ _ _ e hc▸hi))
  ·by_cases hcc:c'=c
   ·subst hcc;exact⟨_,hc'⟩
   ·obtain⟨w2,z2⟩:=I.cell y c' e;exact⟨w2,z2.sameBut hs hcc⟩
  ·obtain⟨e,n,ne,nf,d⟩:=I.pin p hp;refine⟨(hs.2 p.1 ?_).trans e,n,ne,nf,d⟩;intro q;rw[q,hoc]at e;have q':oc=p.2:=qBc e;exact d w' (by rw[<- q'];exact hocd)
theorem zID{M:Model}{A:qI4}{E:Value->qHx->Prop}{i:Nat}{x:Str}{v:V}{u:Value}{Q:Unit->qHx->Prop}(I:Inv X pins σ H s)(hN:X.N.Nodup)(hi:X.N[i]?=some x)(hx:Loc X.env.scope x)(r:RelV v u)
  (h:∀s',Inv X pins (σ.set i (some v)) H s'->Q () s') (hf:X.fn x=true\/X.env.scope.names.lookup x=some .local:=by first|exact .inl rfl|exact .inr rfl|assumption):wpAny M A (storeName X.env x u) Q E s:=
 zJZ I hN hi hx r (fun s' I' _=>h s' I') hf
theorem Inv.call'{s':qHx}{ch:List Addr}(I:Inv X pins σ H s)(ho:s'.os=s.os)(u:Un (frs X.stack) ch H H' s.heap s'.heap)(hok:HOk X.prog X.w H' s'.heap)(hg:qK0 s'.gens)
  (hch:∀b∈ch,(b∈X.ex\/X.s₀.heap.objs.size<=b)/\b≠X.env.locals/\(∀x c,X.env.cells.lookup x=some c->c≠b)/\∀p∈X.pn++pins,p.1≠b):Inv X pins σ H' s':=by
 obtain⟨h',g',d',t',o'⟩:=s';have e:o'=s.os:=ho;subst e;exact I.call (g':=g') (t':=t') (d':=d') u hok hg hch
end
abbrev XK:=Value->Option Addr->Hp->Prop
abbrev St:=List (Option V)
abbrev VK:=V->Hp->Prop
abbrev TE:=St->Hp->VK->Prop
abbrev TT:=St->Hp->(Bool->Hp->Prop)->Prop
abbrev TA:=St->Hp->(List V->Hp->Prop)->Prop
structure Ends where
 nx:St->Hp->Prop
 rt:VK
 bk:St->Hp->Prop:=fun _ _=>False
 ct:St->Hp->Prop:=fun _ _=>False
abbrev TS:=Ends->St->Hp->Prop
def EP(X:Cx)(pins:List (Addr×Obj))(σ:St)(Q:VK)(u:Value)(s':qHx):Prop:=∃v H',Inv X pins σ H' s'/\RelV v u/\Q v H'
def TP(X:Cx)(pins:List (Addr×Obj))(σ:St)(Q:Bool->Hp->Prop)(b:Bool)(s':qHx):Prop:=∃H',Inv X pins σ H' s'/\Q b H'
def AP(X:Cx)(pins:List (Addr×Obj))(σ:St)(Q:List V->Hp->Prop)(us:List Value)(s':qHx):Prop:=∃vs H',Inv X pins σ H' s'/\Vals vs us/\Q vs H'
def SP(X:Cx)(pins:List (Addr×Obj))(D:Ends)(f:Flow)(s':qHx):Prop:=
 match f with
 |.next=>∃σ' H',Inv X pins σ' H' s'/\D.nx σ' H'
 |.brk=>∃σ' H',Inv X pins σ' H' s'/\D.bk σ' H'
 |.cont=>∃σ' H',Inv X pins σ' H' s'/\D.ct σ' H'
 |.ret u=>∃v σ' H',Inv X pins σ' H' s'/\RelV v u/\D.rt v H'
def PE(X:Cx)(e:Expr)(t:TE):Prop:=
 ∀(pins:List (Addr×Obj))(s:qHx)(σ:St)(H:Hp)(Q:VK),Inv X pins σ H s->t σ H Q->wpAny (model X.prog X.w) X.A (eval e X.env) (EP X pins σ Q) X.xe s
def PT(X:Cx)(e:Expr)(t:TT):Prop:=
 ∀(pins:List (Addr×Obj))(s:qHx)(σ:St)(H:Hp)(Q:Bool->Hp->Prop),Inv X pins σ H s->t σ H Q->wpAny (model X.prog X.w) X.A (isTrue e X.env (eval e X.env)) (TP X pins σ Q) X.xe s
def PW(X:Cx)(e:Expr)(t:TT):Prop:=
 ∀(whole:Sem Value)(pins:List (Addr×Obj))(s:qHx)(σ:St)(H:Hp)(Q:Bool->Hp->Prop),Inv X pins σ H s->t σ H Q->wpAny (model X.prog X.w) X.A (isTrue e X.env whole) (TP X pins σ Q) X.xe s
theorem PW.pt{X:Cx}{e:Expr}{t:TT}(h:PW X e t):PT X e t:=h _
def PA(X:Cx)(es:List Expr)(t:TA):Prop:=
 ∀(pos:Pos)(pins:List (Addr×Obj))(s:qHx)(σ:St)(H:Hp)(Q:List V->Hp->Prop),Inv X pins σ H s->t σ H Q->wpAny (model X.prog X.w) X.A (spliced (backTo pos (starEach es X.env))) (AP X pins σ Q) X.xe s
def PS(X:Cx)(st:Stmt)(t:TS):Prop:=
 ∀(pins:List (Addr×Obj))(s:qHx)(σ:St)(H:Hp)(D:Ends),Inv X pins σ H s->t D σ H->wpAny (model X.prog X.w) X.A (exec st X.env) (SP X pins D) X.xe s
def PSs(X:Cx)(st:List Stmt)(t:TS):Prop:=
 ∀(pins:List (Addr×Obj))(s:qHx)(σ:St)(H:Hp)(D:Ends),Inv X pins σ H s->t D σ H->wpAny (model X.prog X.w) X.A (execs st X.env) (SP X pins D) X.xe s
theorem thn{α:Type}{t:Sem α}{Q Q':α->qHx->Prop}{M:Model}{A:qI4}{E:Value->qHx->Prop}{s:qHx}(h:wpAny M A t Q E s)(hQ:∀a s,Q a s->Q' a s):wpAny M A t Q' E s:=wpAny_mono h hQ fun _ _ x=>x
section
variable{X:Cx}
noncomputable def tVar(i:Nat):TE:=fun σ H Q=>∃v,σ[i]?=some (some v)/\Q v H
noncomputable def tC(v:V):TE:=fun _ H Q=>Q v H
theorem zVE{i:Nat}{x:Str}{pos:Pos}(hN:X.N[i]?=some x)(hv:Vis X.env.scope x)(hd:(x==("__debug__":Str))=false:=by decide)(hcd:(x==("__classdict__":Str))=false:=by decide):PE X (.Name x pos) (tVar i):=by
 intro pins s σ H Q I h;obtain⟨v,e,h⟩:=h;obtain⟨m,hn,hl⟩:=I.loc;obtain⟨u,r,l⟩:=hl i x v hN e hv;have fin:EP X pins σ Q u s:=⟨v,H,I,r,h⟩
 rcases l with⟨hk,hm⟩|⟨hk,c,hc,hcell⟩
 ·exact qLq (wpAny_loadName_local I.ok.kind hk hn hm fin) hd
 ·rcases hk with hk|hk
  ·exact qLq (wpAny_loadName_cell I.ok.kind hk hc hcell fin) hd
  ·exact qLq (wpAny_loadName_free I.ok.kind hk hc hcell fin hcd) hd
theorem zAH{i j pos}:PE X (.Constant (.int i) j pos) (tC (.int i)):=fun _ _ _ H _ I h=>wpAny_Constant_int ⟨.int i,H,I.tok _,⟨_,rfl⟩,h⟩
theorem zIP{b j pos}:PE X (.Constant (.bool b) j pos) (tC (.bl b)):=fun _ _ _ H _ I h=>Constant_bool ⟨.bl b,H,I,rfl,h⟩
theorem zFL{j pos}:PE X (.Constant .none j pos) (tC .non):=fun _ _ _ H _ I h=>Constant_none ⟨.non,H,I,rfl,h⟩
theorem zVF{x j pos}:PE X (.Constant (.str x) j pos) (tC (.str x)):=fun _ _ _ H _ I h=>Calls.Constant_str ⟨.str x,H,I.tok _,⟨_,rfl⟩,h⟩
def Gl(X:Cx)(x:Str):Prop:=X.env.kindOf x=some .globalImplicit
theorem zGV{E:Value->qHx->Prop}{pins:List (Addr×Obj)}{s:qHx}{σ:St}{H:Hp}{x:Str}{u:Value}{pos:Pos}{Q:Value->qHx->Prop}(I:Inv X pins σ H s)(hg:Gl X x)(hm:X.mg x=some u)(h:Q u s)
  (hd:(x==("__debug__":Str))=false:=by decide):wpAny (model X.prog X.w) X.A (eval (.Name x pos) X.env) Q E s:=
 qJo I.ok.kind hg (Calls.loadGlobal_global (by rw[I.ok.glob];exact I.mod.glob.keeps I.bk) hm h) hd
theorem zHZ{E:Value->qHx->Prop}{pins:List (Addr×Obj)}{s:qHx}{σ:St}{H:Hp}{x:Str}{u:Value}{pos:Pos}{Q:Value->qHx->Prop}(I:Inv X pins σ H s)(hg:Gl X x)(hm:X.mg x=none)(hv:qIl x=some u)(h:Q u s)
  (hn:x≠"__name__":=by decide) (hd:(x==("__debug__":Str))=false:=by decide):wpAny (model X.prog X.w) X.A (eval (.Name x pos) X.env) Q E s:=by
 obtain⟨mb,h1,h2⟩:=I.mod.blt;exact qJo I.ok.kind hg (Calls.loadGlobal_builtin (by rw[I.ok.glob];exact I.mod.glob.keeps I.bk) hm (by rw[I.ok.blt];exact h1.keeps I.bk) ((h2 x hn).trans hv) h) hd
theorem zCZ{x:Str}{v:V}{u:Value}{pos:Pos}(hg:Gl X x)(hm:X.mg x=some u)(r:RelV v u)(hd:(x==("__debug__":Str))=false:=by decide):PE X (.Name x pos) (tC v):=
 fun _ _ _ H _ I h=>zGV I hg hm ⟨v,H,I,r,h⟩ hd
theorem zXG{x:Str}{v:V}{u:Value}{pos:Pos}(hg:Gl X x)(hm:X.mg x=none)(hv:qIl x=some u)(r:RelV v u)(hn:x≠"__name__":=by decide)(hd:(x==("__debug__":Str))=false:=by decide):PE X (.Name x pos) (tC v):=
 fun _ _ _ H _ I h=>zHZ I hg hm hv ⟨v,H,I,r,h⟩ hn hd
variable{a b:Expr}{ta tb:TE}{pos:Pos}
noncomputable def tB(t:TE):TT:=fun σ H Q=>t σ H fun x H1=>∃c,x=.bl c/\Q c H1
variable{tA tB':TT}{rest:List Expr}
noncomputable def tOr(t u:TT):TT:=fun σ H Q=>t σ H fun c H1=>if c=true then Q true H1 else u σ H1 Q
noncomputable def tNot(t:TT):TT:=fun σ H Q=>t σ H fun c H1=>Q (!c) H1
theorem zNB(ha:PT X a tA):PW X (.BoolOp .Or [a] pos) tA:=by
 intro wh pins s σ H Q I h;refine isTrue_or (thn (ha pins s σ H Q I h) fun c s1 e=>?_);cases c with
 |false=>exact isTrue_or_nil e
 |true=>exact e
theorem zTC(ha:PT X a tA)(hb:PW X (.BoolOp .Or (b::rest) pos) tB'):PW X (.BoolOp .Or (a::b::rest) pos) (tOr tA tB'):=by
 intro wh pins s σ H Q I h;refine isTrue_or (thn (ha pins s σ H _ I h) fun c s1 z0=>?_);obtain⟨H1,I1,q1⟩:=z0;cases c with
 |true=>exact⟨H1,I1,q1⟩
 |false=>exact hb wh pins s1 σ H1 Q I1 q1
theorem zND(ha:PT X a tA):PT X (.UnaryOp .Not a pos) (tNot tA):=by
 intro pins s σ H Q I h;exact isTrue_not (ha pins s σ H (fun c H1=>Q (!c) H1) I h)
theorem zZZ{op}{t:TE}(h:PE X a t):PE X (.BoolOp op [a] pos) t:=fun pins s σ H Q I hw=>BoolOp_one (h pins s σ H Q I hw)
noncomputable def tIf(t:TT)(ta tb:TE):TE:=fun σ H Q=>t σ H fun c H1=>if c=true then ta σ H1 Q else tb σ H1 Q
theorem zIO{c:Expr}(hc:PT X c tA)(ha:PE X a ta)(hb:PE X b tb):PE X (.IfExp c a b pos) (tIf tA ta tb):=by
 intro pins s σ H Q I h;refine wpAny_IfExp (thn (hc pins s σ H _ I h) fun d s1 z0=>?_);obtain⟨H1,I1,q1⟩:=z0;cases d with
 |true=>exact ha pins s1 σ H1 Q I1 q1
 |false=>exact hb pins s1 σ H1 Q I1 q1
end
def SqL(K:qA1)(H:Hp)(a:Addr)(xs:List V):Prop:=
 Rd H a (.lst xs) \/
  ∃(o:Obj)(its:Array Value)(n:Nat),K.lookup a=some o/\o.cls=.type "list"/\o.dict=none/\o.data=.seq its n/\its.size<=sizeLine/\Vals xs its.toList
def SqT(K:qA1)(H:Hp)(a:Addr)(xs:List V):Prop:=
 Rd H a (.tup xs) \/
  ∃(o:Obj)(its:Array Value)(n:Nat),K.lookup a=some o/\o.cls=.type "tuple"/\o.data=.seq its n/\its.size<=sizeLine/\Vals xs its.toList
noncomputable def absV:Value->Option V
 |.none=>some .non
 |.bool b=>some (.bl b)
 |.int i _=>some (.int i)
 |.str x _=>some (.str x)
 |.bytes b _=>some (.byt b)
 |.float b _=>some (.flt b)
 |.ref a=>some (.ref a)
 |.type n=>some (.ty n)
 |_=>none
theorem RelV.abs{x:V}{u:Value}(r:RelV x u):absV u=some x:=by
 cases x with
 |non=>cases r;rfl
 |bl _=>cases r;rfl
 |int _=>obtain⟨t,rfl⟩:=r;rfl
 |str _=>obtain⟨t,rfl⟩:=r;rfl
 |byt _=>obtain⟨t,rfl⟩:=r;rfl
 |flt _=>obtain⟨t,rfl⟩:=r;rfl
 |ref _=>cases r;rfl
 |ty _=>cases r;rfl
theorem RelV.inj{x y:V}{u:Value}(r:RelV x u)(q:RelV y u):x=y:=qBc (r.abs.symm.trans q.abs)
theorem Vals.inj:∀{xs ys:List V}{us:List Value},Vals xs us->Vals ys us->xs=ys
 |_,_,_,.nil,.nil=>rfl
 |_,_,_,.cons r t,.cons r' t'=>by rw[r.inj r',Vals.inj t t']
section
variable{X:Cx}{pins:List (Addr×Obj)}{σ:St}{H:Hp}{s:qHx}{a:Addr}{xs ys:List V}
theorem SqL.of{K:qA1}(h:H a=some (.lst xs)):SqL K H a xs:=.inl (.inl h)
theorem SqT.of{K:qA1}(h:H a=some (.tup xs)):SqT K H a xs:=.inl (.inl h)
theorem Inv.list(I:Inv X pins σ H s)(h:SqL X.K H a xs):∃its:List Value,Vals xs its/\PlainL s.heap a its.toArray/\xs.length<=sizeLine:=by
 rcases h with h|⟨o,its,n,hk,hc,hd,hs,hz,r⟩
 ·obtain⟨z,its,n,r,e⟩:=h.ok I.hok;exact⟨its,r,⟨_,n,e,rfl,rfl,rfl⟩,z⟩
 ·refine⟨its.toList,r,⟨o,n,I.kIn a o hk,hc,hd,by simpa using hs⟩,?_⟩;have e:=r.length;simp only[qDk]at e;omega
theorem Inv.tuple(I:Inv X pins σ H s)(h:SqT X.K H a xs):∃its:List Value,Vals xs its/\IsTup s.heap a its.toArray/\xs.length<=sizeLine:=by
 rcases h with h|⟨o,its,n,hk,hc,hs,hz,r⟩
 ·obtain⟨z,its,r,p⟩:=h.ok I.hok;exact⟨its,r,p,z⟩
 ·refine⟨its.toList,r,⟨o,I.kIn a o hk,hc,n,by simpa using hs⟩,?_⟩;have e:=r.length;simp only[qDk]at e;omega
theorem Inv.list_inj(I:Inv X pins σ H s)(h:SqL X.K H a xs)(h':SqL X.K H a ys):xs=ys:=by
 obtain⟨its,r,⟨o,n,e,_,_,d⟩,_⟩:=I.list h;obtain⟨its',r',⟨o',n',e',_,_,d'⟩,_⟩:=I.list h';rw[e]at e';cases e';rw[d]at d'
 injection d' with d1 _
 have:its=its':=by simpa using congrArg qHh d1
 subst this;exact r.inj r'
theorem Inv.tuple_inj(I:Inv X pins σ H s)(h:SqT X.K H a xs)(h':SqT X.K H a ys):xs=ys:=by
 obtain⟨its,r,⟨o,e,_,n,d⟩,_⟩:=I.tuple h;obtain⟨its',r',⟨o',e',_,n',d'⟩,_⟩:=I.tuple h';rw[e]at e';cases e';rw[d]at d'
 injection d' with d1 _
 have:its=its':=by simpa using congrArg qHh d1
 subst this;exact r.inj r'
end
abbrev Cx.wish(X:Cx)(E:Value->qHx->Prop):Cx:={ X with xe:=E }
abbrev Cx.nox(X:Cx):Cx:=X.wish fun _ _=>False
theorem Cx.Ok.wish{X:Cx}(ok:X.Ok)(E:Value->qHx->Prop):(X.wish E).Ok:=
 ⟨ok.mod,ok.kind,ok.glob,ok.blt,ok.above,ok.inj,ok.has,ok.cab,ok.hd,ok.frames,ok.stk,ok.exf,ok.bs,ok.bsz,ok.noex,ok.exfs,ok.funs,ok.frf⟩
theorem Cx.Ok.unwish{X:Cx}{E:Value->qHx->Prop}(ok:(X.wish E).Ok):X.Ok:=
 ⟨ok.mod,ok.kind,ok.glob,ok.blt,ok.above,ok.inj,ok.has,ok.cab,ok.hd,ok.frames,ok.stk,ok.exf,ok.bs,ok.bsz,ok.noex,ok.exfs,ok.funs,ok.frf⟩
section
variable{X:Cx}{pins:List (Addr×Obj)}{σ:St}{H:Hp}{s:qHx}{E:Value->qHx->Prop}
theorem Inv.wish(I:Inv X pins σ H s)(E:Value->qHx->Prop):Inv (X.wish E) pins σ H s:=⟨I.ok.wish E,I.os,I.bare,I.base,I.loc,I.cell,I.free,I.freeC,I.pin,I.hok,I.len⟩
theorem Inv.unwish(I:Inv (X.wish E) pins σ H s):Inv X pins σ H s:=⟨I.ok.unwish,I.os,I.bare,I.base,I.loc,I.cell,I.free,I.freeC,I.pin,I.hok,I.len⟩
theorem SP.unwish{D:Ends}{f:Flow}{s':qHx}(h:SP (X.wish E) pins D f s'):SP X pins D f s':=by
 cases f with
 |next=>obtain⟨σ',H',I,q⟩:=h;exact⟨σ',H',I.unwish,q⟩
 |brk=>obtain⟨σ',H',I,q⟩:=h;exact⟨σ',H',I.unwish,q⟩
 |cont=>obtain⟨σ',H',I,q⟩:=h;exact⟨σ',H',I.unwish,q⟩
 |ret u=>obtain⟨v,σ',H',I,r,q⟩:=h;exact⟨v,σ',H',I.unwish,r,q⟩
theorem PSs.nox{st:List Stmt}{t:TS}(h:PSs X.nox st t):PSs X st t:=fun pins s σ H D I hw=>
 wpAny_mono (h pins s σ H D (I.wish _) hw) (fun _ _ q=>q.unwish) fun _ _ z=>qA8 z
end
section
variable{X:Cx}{st:Stmt}{rest:List Stmt}{t u:TS}{e:Expr}{te:TE}{pos:Pos}
noncomputable def zZ5:TS:=fun D σ H=>D.nx σ H
noncomputable def tSeq(t u:TS):TS:=fun D σ H=>t { D with nx:=u D } σ H
theorem zC7:PSs X [] zZ5:=fun _ _ σ H _ I h=>qJ1 ⟨σ,H,I,h⟩
theorem zA6(h1:PS X st t)(h2:PSs X rest u):PSs X (st::rest) (tSeq t u):=by
 intro pins s σ H D I h;refine qK4 (thn (h1 pins s σ H { D with nx:=u D } I h) fun f s1 q=>?_);cases f with
 |next=>
  obtain⟨σ',H',I',q⟩:=q;exact h2 pins s1 σ' H' D I' q
 |ret v=>exact q
 |brk=>exact q
 |cont=>exact q
theorem zAD(h1:PS X st t):PSs X [st] t:=by
 intro pins s σ H D I h;refine qK4 (thn (h1 pins s σ H D I h) fun f s1 q=>?_);cases f with
 |next=>exact qJ1 q
 |ret v=>exact q
 |brk=>exact q
 |cont=>exact q
theorem Inv.quiet{pins:List (Addr×Obj)}{σ:St}{H:Hp}{s:qHx}(I:Inv X pins σ H s):interactive X.env=false:=by simp[interactive,I.ok.kind]
noncomputable def zLN(te:TE):TS:=fun D σ H=>te σ H fun _ H1=>D.nx σ H1
theorem zIL(he:PE X e te)(hs:qKc e none pos.line X.env=pure false:=by rfl):PS X (.Expr e pos) (zLN te):=by
 intro pins s σ H D I h;exact wpAny_Expr_any (thn (he pins s σ H _ I h) fun v s1 ⟨x,H1,I1,r1,q1⟩=>⟨σ,H1,I1,q1⟩) I.quiet hs
noncomputable def tRet(te:TE):TS:=fun D σ H=>te σ H D.rt
theorem zB1(he:PE X e te):PS X (.Return (some e) pos) (tRet te):=by
 intro pins s σ H D I h;exact wpAny_Return_some (thn (he pins s σ H _ I h) fun v s1 ⟨x,H1,I1,r1,q1⟩=>⟨x,σ,H1,I1,r1,q1⟩)
noncomputable def tIfS(c:TT)(t u:TS):TS:=fun D σ H=>c σ H fun b H1=>if b=true then t D σ H1 else u D σ H1
theorem zGK{c:Expr}{a b:List Stmt}{tc:TT}(hc:PT X c tc)(ha:PSs X a t)(hb:PSs X b u):PS X (.If c a b pos) (tIfS tc t u):=by
 intro pins s σ H D I h;refine wpAny_If (thn (hc pins s σ H _ I h) fun d s1 z0=>?_);obtain⟨H1,I1,q1⟩:=z0;cases d with
 |true=>exact ha pins s1 σ H1 D I1 q1
 |false=>exact hb pins s1 σ H1 D I1 q1
end
abbrev TG:=V->St->Hp->(St->Hp->Prop)->Prop
abbrev TGs:=List V->St->Hp->(St->Hp->Prop)->Prop
def PG(X:Cx)(target:Expr)(t:TG):Prop:=
 ∀(pins:List (Addr×Obj))(s:qHx)(σ:St)(H:Hp)(v:V)(u:Value)(Q:St->Hp->Prop),Inv X pins σ H s->RelV v u->t v σ H Q ->
  wpAny (model X.prog X.w) X.A (assign target X.env u) (fun _ s'=>∃σ' H',Inv X pins σ' H' s'/\Q σ' H') X.xe s
def PGs(X:Cx)(ts:List Expr)(t:TGs):Prop:=
 ∀(pins:List (Addr×Obj))(s:qHx)(σ:St)(H:Hp)(vs:List V)(us:List Value)(Q:St->Hp->Prop),Inv X pins σ H s->Vals vs us->t vs σ H Q ->
  wpAny (model X.prog X.w) X.A (assignInOrder ((assignEach ts X.env).map (·.2)) us) (fun _ s'=>∃σ' H',Inv X pins σ' H' s'/\Q σ' H') X.xe s
abbrev TSet:=V->V->V->Hp->(Hp->Prop)->Prop
def PSet(X:Cx)(t:TSet):Prop:=
 ∀(pins:List (Addr×Obj))(s:qHx)(σ:St)(H:Hp)(o i v:V)(ov iv u:Value)(Q:Hp->Prop),Inv X pins σ H s->RelV o ov->RelV i iv->RelV v u->t o i v H Q ->
  wpAny (model X.prog X.w) X.A (setItem ov iv u) (fun _ s'=>∃H',Inv X pins σ H' s'/\Q H') X.xe s
section
variable{X:Cx}{pos:Pos}
noncomputable def zDZ(i:Nat):TG:=fun v σ H Q=>Q (σ.set i (some v)) H
theorem zBE{i:Nat}{x:Str}(hN:X.N.Nodup)(hi:X.N[i]?=some x)(hx:Loc X.env.scope x)(hf:X.fn x=true\/X.env.scope.names.lookup x=some .local:=by first|exact .inl rfl|exact .inr rfl|assumption):PG X (.Name x pos) (zDZ i):=by
 intro pins s σ H v u Q I r h;exact qL3 (zID I hN hi hx r (fun s' I'=>⟨_,H,I',h⟩) hf)
noncomputable def gNil:TGs:=fun vs σ H Q=>vs=[]/\Q σ H
noncomputable def zb0(t:TG)(u:TGs):TGs:=fun vs σ H Q=>∃v r,vs=v::r/\t v σ H fun σ' H'=>u r σ' H' Q
theorem zQC:PGs X [] gNil:=by
 intro pins s σ H vs us Q I r h;obtain⟨e,h⟩:=h;subst e;cases r;exact assignInOrder_nil ⟨σ,H,I,h⟩
theorem zG4{e:Expr}{es:List Expr}{t:TG}{u:TGs}(h1:PG X e t)(h2:PGs X es u)
  (hs:(assignEach (e::es) X.env).map (·.2)=assign e X.env::(assignEach es X.env).map (·.2):=by rfl):PGs X (e::es) (zb0 t u):=by
 intro pins s σ H vs us Q I r h;obtain⟨v,vr,e1,h⟩:=h;subst e1;cases r with
 |cons r rr=>
  rw[hs];refine assignInOrder_cons (thn (h1 pins s σ H _ _ _ I r h) fun _ s1 z0=>?_);obtain⟨σ1,H1,I1,q1⟩:=z0;exact h2 pins s1 σ1 H1 _ _ Q I1 rr q1
noncomputable def gTup(K:qA1)(n:Nat)(t:TGs):TG:=fun v σ H Q=>∃a xs,v=.ref a/\SqT K H a xs/\xs.length=n/\t xs σ H Q
theorem zZY{es:List Expr}{k:Nat}{t:TGs}{n:Nat}(hc:X.calm=true)(h:PGs X es t)
  (hn:(assignEach es X.env).length=n:=by rfl) (hst:(assignEach es X.env).findIdx? (·.1)=none:=by rfl):PG X (.Tuple es k pos) (gTup X.K n t):=by
 intro pins s σ H v u Q I r hw;obtain⟨a,xs,e1,hq,hl,hw⟩:=hw;subst e1;cases r;obtain⟨its,rv,ht,hz⟩:=I.tuple hq;refine assign_Tuple_tuple (I.ok.hd hc) ht (by simp[hn,<- hl,rv.length]) hst fun h' hx=>?_
 have I1:Inv X pins σ H { s with heap:=h' }:=I.kept (t':=s.toks) fun b o e=>hx b o (qAu (qHz e)) e
 exact h pins _ σ H xs _ Q I1 (by simpa using rv) hw
noncomputable def gSub(to ti:TE)(t:TSet):TG:=fun v σ H Q=>to σ H fun o H1=>ti σ H1 fun i H2=>t o i v H2 fun H3=>Q σ H3
theorem zER{o i:Expr}{to ti:TE}{t:TSet}(ho:PE X o to)(hi:PE X i ti)(hs:PSet X t)
  (ha:∀v,assign (.Subscript o i pos) X.env v=(do
   let ov <- holding [v] (eval o X.env)
   let iv <- holding [v,ov] (eval i X.env)
   qLu pos
   holding [v,ov,iv] (setItem ov iv v)
   release [v,ov,iv] []):=by intro _;rfl):PG X (.Subscript o i pos) (gSub to ti t):=by
 intro pins s σ H v u Q I r h;rw[ha];refine wpAny_bind (wpAny_holding (thn (ho pins s σ H _ I h) fun ov s1 z0=>?_));obtain⟨x,H1,I1,r1,q1⟩:=z0;refine wpAny_bind (wpAny_holding (thn (hi pins s1 σ H1 _ I1 q1) fun iv s2 z0=>?_));obtain⟨y,H2,I2,r2,q2⟩:=z0;refine wpAny_bind (wpAny_standAt (wpAny_bind (wpAny_holding (thn (hs pins s2 σ H2 x y v ov iv u _ I2 r1 r2 r q2) fun _ s3 z0=>?_))));obtain⟨H3,I3,q3⟩:=z0;exact wpAny_release ⟨σ,H3,I3,q3⟩
noncomputable def tAsg(te:TE)(g:TG):TS:=fun D σ H=>te σ H fun x H1=>g x σ H1 D.nx
theorem zEQ{tg e:Expr}{te:TE}{g:TG}(he:PE X e te)(hg:PG X tg g)(hs:swapsWithSole [tg] e pos.line X.env=pure false:=by rfl)(hw:swappedStores [tg] e X.env=pure none:=by rfl)
  (h1:(assignEach [tg] X.env).map (·.2)=[assign tg X.env]:=by rfl):PS X (.Assign [tg] e pos) (tAsg te g):=by
 intro pins s σ H D I h;refine wpAny_Assign_stores (thn (he pins s σ H _ I h) fun v s1 z0=>?_) hs hw;obtain⟨x,H1,I1,r1,q1⟩:=z0;rw[h1];exact thn (hg pins s1 σ H1 x v _ I1 r1 q1) fun _ s2 q=>q
theorem zVC{i:Nat}{x:Str}{e:Expr}{te:TE}{pos':Pos}(hN:X.N.Nodup)(hi:X.N[i]?=some x)(hx:Loc X.env.scope x)(he:PE X e te)(hs:qKc e (some (.Name x pos')) pos.line X.env=pure false:=by rfl)(hf:X.fn x=true\/X.env.scope.names.lookup x=some .local:=by first|exact .inl rfl|exact .inr rfl|assumption) :
  PS X (.Assign [.Name x pos'] e pos) (tAsg te (zDZ i)):=by
 intro pins s σ H D I h;refine wpAny_Assign_Name (thn (he pins s σ H _ I h) fun v s1 z0=>?_) hs;obtain⟨y,H1,I1,r1,q1⟩:=z0;exact zID I1 hN hi hx r1 (fun s2 I2=>⟨_,H1,I2,q1⟩) hf
end
structure It where
 go:Nat->Hp->Prop
 yld:Nat->Hp->V->Hp->Prop
 stop:Nat->Hp->Prop
def FpOk(X:Cx)(pins:List (Addr×Obj))(H:Hp)(b:Addr):Prop:=
 H b=none/\b≠X.env.locals/\b∉X.fs/\(b∈X.ex\/X.s₀.heap.objs.size<=b)/\(∀x c,X.env.cells.lookup x=some c->c≠b)/\∀p∈X.pn++pins,p.1≠b
theorem Inv.fpOk{X:Cx}{pins:List (Addr×Obj)}{σ:St}{H H':Hp}{s:qHx}{b:Addr}(I:Inv X pins σ H s)(hb:s.heap.objs.size<=b)(hn:H' b=none):FpOk X pins H' b:=by
 refine⟨hn,qBz (qAh I.lt hb),I.nofs hb,.inr (qAr I.sz hb),fun x c e z=>?_,fun p hp z=>?_⟩
 ·obtain⟨v,q⟩:=I.cell x c e;exact absurd (qAh q.lt (by rw[z];exact hb)) (qBy _)
 ·exact absurd (qAh (qHz (I.pin p hp).1) (by rw[z];exact hb)) (qBy _)
structure Turn(P:qI0)(w:World)(K:qA1)(tg:Expr)(J:It)(fp:List Addr)(it:Addr)(tn:Nat->Heap->Prop):Prop where
 mem:it∈fp
 obj:∀i h,tn i h->∀b∈fp,∃o,h.get? b=some o/\∀v,o.data≠.cell v
 keep:∀i h h',tn i h->(∀b∈fp,∀o,h.get? b=some o->h'.get? b=some o)->tn i h'
 item:∀(X:Cx),X.prog=P->X.w=w->X.K=K->X.calm=true->∀(i:Nat)(pins:List (Addr×Obj))(s:qHx)(σ:St)(H:Hp)(E:Value->qHx->Prop),Inv X pins σ H s->(∀b∈fp,FpOk X pins H b)->tn i s.heap->J.go i H ->
  wpAny (model P w) X.A (pyNext (.ref it)) (fun r s1=>∃u,r=some u /\
   wpAny (model P w) X.A (letOwnedTupleGo tg (.ref it) u) (fun _ s2=>∃x H',Inv X pins σ H' s2/\RelV x u/\J.yld i H x H'/\tn (i+1) s2.heap/\∀b∈fp,H' b=none) E s1) E s
 done:∀(X:Cx),X.prog=P->X.w=w->X.K=K->X.calm=true->∀(i:Nat)(pins:List (Addr×Obj))(s:qHx)(σ:St)(H:Hp)(E:Value->qHx->Prop),Inv X pins σ H s->(∀b∈fp,FpOk X pins H b)->tn i s.heap->J.stop i H ->
  wpAny (model P w) X.A (pyNext (.ref it)) (fun r s1=>r=none/\Inv X pins σ H s1) E s
 self:∀(A:qI4)(i:Nat)(s:qHx)(Q:Value->qHx->Prop)(E:Value->qHx->Prop),tn i s.heap->Q (.ref it) s->wpAny (model P w) A (pyIter (.ref it)) Q E s
abbrev TI:=St->Hp->(It->Hp->Prop)->Prop
def PIE(X:Cx)(pins:List (Addr×Obj))(σ:St)(tg:Expr)(R:It->Hp->Prop)(itv:Value)(s2:qHx):Prop:=
 ∃(it:Addr)(fp:List Addr)(tn:Nat->Heap->Prop)(J:It)(H':Hp),itv=.ref it/\Inv X pins σ H' s2/\Turn X.prog X.w X.K tg J fp it tn/\tn 0 s2.heap/\(∀b∈fp,FpOk X pins H' b)/\R J H'
def PI(X:Cx)(tg iter:Expr)(wi:TI):Prop:=
 ∀(pins:List (Addr×Obj))(s:qHx)(σ:St)(H:Hp)(R:It->Hp->Prop),Inv X pins σ H s->wi σ H R ->
  wpAny (model X.prog X.w) X.A (eval iter X.env) (fun v s1=>wpAny (model X.prog X.w) X.A (pyIter v) (PIE X pins σ tg R) X.xe s1) X.xe s
theorem zRI{M:Model}{A:qI4}{E:Value->qHx->Prop}{s:qHx}{tg:Expr}{it:Addr}{u:Value}{o:Obj}{n:String}{vs:Array Value}{Q:Unit->qHx->Prop}(ho:s.heap.get? it=some o)(hc:o.cls=.type n)(hd:o.data=.fields vs)
  (hn:["enumerate","zip","dict_itemiterator","dict_reverseitemiterator","odict_iterator","itertools.zip_longest","itertools.pairwise"].contains n=false) (hQ:Q () s):wpAny M A (letOwnedTupleGo tg (.ref it) u) Q E s:=by
 unfold letOwnedTupleGo;cases tg<;>first
  |exact wpAny_pure hQ
  |(cases u<;>first
    |exact wpAny_pure hQ
    |(refine wpAny_bind (wpAny_load ho ?_)
      rw[hc,hd];show wpAny M A (if(["enumerate","zip","dict_itemiterator","dict_reverseitemiterator","odict_iterator","itertools.zip_longest","itertools.pairwise"].contains n&&vs[0]?==some (rawInt _))=true then _ else _) Q E s;rw[if_neg (by intro h;rw[hn,Bool.false_and]at h;cases h)];exact wpAny_pure hQ))
noncomputable def Itl(K:qA1)(a:Addr):It:=
 ⟨fun i H=>∃xs x,SqL K H a xs/\xs[i]?=some x,fun i H x H'=>H'=H/\∀xs,SqL K H a xs->xs[i]?=some x,fun i H=>∃xs,SqL K H a xs/\xs.length<=i⟩
noncomputable def Itt(K:qA1)(a:Addr):It:=
 ⟨fun i H=>∃xs x,SqT K H a xs/\xs[i]?=some x,fun i H x H'=>H'=H/\∀xs,SqT K H a xs->xs[i]?=some x,fun i H=>∃xs,SqT K H a xs/\xs.length<=i⟩
noncomputable def Itr(lo:Int)(n:Nat):It:=⟨fun i _=>i<n,fun i H x H'=>H'=H/\x=.int (lo+i),fun i _=>n<=i⟩
theorem zPM{P:qI0}{w:World}{K:qA1}{tg:Expr}(a it:Addr):Turn P w K tg (Itl K a) [it] it (fun i h=>h.IsListIter it a i) where
 mem:=by simp
 obj:=fun i h st b hb=>by
  have e:b=it:=by simpa using hb
  subst e;obtain⟨o,e,c,d⟩:=st;exact⟨o,e,fun v z=>by rw[d]at z;cases z⟩
 keep:=fun i h h' st k=>st.at fun o e=>k it (by simp) o e
 item:=by
  intro X hP hw hK hc i pins s σ H E I hf st hg;subst hP hw hK;obtain⟨xs,x,hq,hx⟩:=hg;obtain⟨its,rv,p,hz⟩:=I.list hq;obtain⟨u,hu,ru⟩:=rv.get hx;obtain⟨f0,f1,f2,f3,f4,f5⟩:=hf it (by simp);refine wpAny_pyNext_list_item st p.isList (x:=u) (by simpa using hu) fun h' st' sb=>?_
  have I1:Inv X pins σ H { s with heap:=h' }:=I.turned (t':=s.toks) (fun b o hb e=>(sb.2 b hb).trans e) f0 f1 f3 f4 f5;obtain⟨o,e,c,d⟩:=id st';exact⟨u,rfl,zRI (s:={ s with heap:=h' }) e c d (by decide) ⟨x,H,I1,ru,⟨rfl,fun ys hy=>by rw[I.list_inj hy hq];exact hx⟩,st',fun b hb=>(hf b hb).1⟩⟩
 done:=by
  intro X hP hw hK hc i pins s σ H E I hf st hg;subst hP hw hK;obtain⟨xs,hq,hx⟩:=hg;obtain⟨its,rv,p,hz⟩:=I.list hq;obtain⟨f0,f1,f2,f3,f4,f5⟩:=hf it (by simp);have hl:=rv.length;exact wpAny_pyNext_list_end (I.ok.hd hc) st p.isList (by simp;omega) fun h' eb=>⟨rfl,I.turned (t':=s.toks) (fun b o hb e=>eb b o hb e) f0 f1 f3 f4 f5⟩
 self:=fun _ _ _ _ _ st h=>wpAny_pyIter_listiter st h
theorem zOJ{P:qI0}{w:World}{K:qA1}{tg:Expr}(a it:Addr):Turn P w K tg (Itt K a) [it] it (fun i h=>h.IsTupleIter it a i) where
 mem:=by simp
 obj:=fun i h st b hb=>by
  have e:b=it:=by simpa using hb
  subst e;obtain⟨o,e,c,d⟩:=st;exact⟨o,e,fun v z=>by rw[d]at z;cases z⟩
 keep:=fun i h h' st k=>st.at fun o e=>k it (by simp) o e
 item:=by
  intro X hP hw hK hc i pins s σ H E I hf st hg;subst hP hw hK;obtain⟨xs,x,hq,hx⟩:=hg;obtain⟨its,rv,p,hz⟩:=I.tuple hq;obtain⟨u,hu,ru⟩:=rv.get hx;obtain⟨f0,f1,f2,f3,f4,f5⟩:=hf it (by simp);refine wpAny_pyNext_tuple_item st (show s.heap.IsTuple a its.toArray from p) (x:=u) (by simpa using hu) fun h' st' sb=>?_
  have I1:Inv X pins σ H { s with heap:=h' }:=I.turned (t':=s.toks) (fun b o hb e=>(sb.2 b hb).trans e) f0 f1 f3 f4 f5;obtain⟨o,e,c,d⟩:=id st';exact⟨u,rfl,zRI (s:={ s with heap:=h' }) e c d (by decide) ⟨x,H,I1,ru,⟨rfl,fun ys hy=>by rw[I.tuple_inj hy hq];exact hx⟩,st',fun b hb=>(hf b hb).1⟩⟩
 done:=by
  intro X hP hw hK hc i pins s σ H E I hf st hg;subst hP hw hK;obtain⟨xs,hq,hx⟩:=hg;obtain⟨its,rv,p,hz⟩:=I.tuple hq;obtain⟨f0,f1,f2,f3,f4,f5⟩:=hf it (by simp);have hl:=rv.length;exact wpAny_pyNext_tuple_end (I.ok.hd hc) st (show s.heap.IsTuple a its.toArray from p) (by simp;omega) fun h' eb=>⟨rfl,I.turned (t':=s.toks) (fun b o hb e=>eb b o hb e) f0 f1 f3 f4 f5⟩
 self:=fun _ _ _ _ _ st h=>wpAny_pyIter_tupleiter st h
theorem zOK{P:qI0}{w:World}{K:qA1}{tg:Expr}(it:Addr)(lo:Int)(n:Nat):Turn P w K tg (Itr lo n) [it] it (fun i h=>qJ6 h it (lo+(i:Nat)*1) ((n:Int)-(i:Nat)) 1) where
 mem:=by simp
 obj:=fun i h st b hb=>by
  have e:b=it:=by simpa using hb
  subst e;exact⟨_,st,fun v z=>by
   have z':Data.fields _=Data.cell v:=z;cases z'⟩
 keep:=fun i h h' st k=>k it (by simp) _ st
 item:=by
  intro X hP hw hK hc i pins s σ H E I hf st hg;subst hP hw hK;obtain⟨f0,f1,f2,f3,f4,f5⟩:=hf it (by simp);have W:=Walks.range (prog:=X.prog) (w:=X.w) (I.ok.hd hc) it lo 1 n;refine W.item i s _ _ hg st fun v h' tk hv st' kk=>?_
  obtain⟨t,rfl⟩:=hv;have I1:Inv X pins σ H { s with heap:=h',toks:=tk }:=I.turned (fun b o hb e=>kk b o (by simpa using hb) e) f0 f1 f3 f4 f5;refine⟨_,rfl,zRI (s:={ s with heap:=h',toks:=tk }) (n:="range_iterator") st' rfl rfl (by decide) ⟨.int (lo+i),H,I1,⟨t,?_⟩,⟨rfl,rfl⟩,st',fun b hb=>(hf b hb).1⟩⟩;rw[qHm]
 done:=by
  intro X hP hw hK hc i pins s σ H E I hf st hg;subst hP hw hK;obtain⟨f0,f1,f2,f3,f4,f5⟩:=hf it (by simp);exact wpAny_pyNext_range_end (I.ok.hd hc) st (by have:n<=i:=hg;omega) fun h' eb=>⟨rfl,I.turned (t':=s.toks) (fun b o hb e=>eb b o hb e) f0 f1 f3 f4 f5⟩
 self:=fun _ _ _ _ _ st h=>qK5 st h
section
variable{X:Cx}{tg:Expr}
theorem zTA{pins:List (Addr×Obj)}{σ:St}{H:Hp}{s:qHx}{R:It->Hp->Prop}{E:Value->qHx->Prop}{lo hi:Int}{t u v:Tok}{tk:Nat}(I:Inv X pins σ H s)(h1:-(2 ^ 62)<=lo)(h2:lo<2 ^ 62)(h3:-(2 ^ 62)<=hi)(h4:hi<2 ^ 62)
  (q:R (Itr lo (hi-lo).toNat) H):wpAny (model X.prog X.w) X.A (pyIter (.ref s.heap.objs.size)) (PIE X pins σ tg R) E { s with heap:=s.heap.push { cls:=.type "range",data:=.fields #[.int lo t,.int hi u,.int 1 v] },toks:=tk }:=by
 refine wpAny_pyIter_range (IsRange.new ..) (small_one h1 h2 h3 h4) ?_;have I1:Inv X pins σ H { s with heap:=s.heap.push { cls:=.type "range",data:=.fields #[.int lo t,.int hi u,.int 1 v] },toks:=tk }:=I.kept fun b o e=>qHy _ e
 refine⟨(s.heap.push { cls:=.type "range",data:=.fields #[.int lo t,.int hi u,.int 1 v] }).objs.size,[(s.heap.push { cls:=.type "range",data:=.fields #[.int lo t,.int hi u,.int 1 v] }).objs.size],_,_,H,rfl,
  I1.kept (t':=tk) fun b o e=>qHy _ e,zOK _ lo (hi-lo).toNat,?_,fun b hb=>?_,q⟩
 ·have e1:lo+((0:Nat):Int)*1=lo:=by simp
  have e2:(((hi-lo).toNat:Nat):Int)-((0:Nat):Int)=qIm lo hi 1:=by rw[rangeSize_one];split<;>omega
  show qJ6 _ _ (lo+((0:Nat):Int)*1) ((((hi-lo).toNat:Nat):Int)-((0:Nat):Int)) 1;rw[e1,e2];exact qI1 _ rfl
 ·have e:b=(s.heap.push { cls:=.type "range",data:=.fields #[.int lo t,.int hi u,.int 1 v] }).objs.size:=by simpa using hb
  subst e;exact I1.fpOk (qA7 _) (I1.hok.fresh (qA7 _))
def zaX(ta:TA):TI:=fun σ H R=>ta σ H fun vs H1=>∃j:Int,vs=[.int j]/\-(2 ^ 62)<=j/\j<2 ^ 62/\R (Itr 0 j.toNat) H1
theorem zB9{a:Expr}{ta:TA}{p pos:Pos}(hg:Gl X "range")(hm:X.mg "range" = none)(ha:PA X [a] ta)(hs:starEach [a] X.env=[(false,eval a X.env)]:=by rfl):PI X tg (.Call (.Name "range" p) [a] [] pos) (zaX ta):=by
 intro pins s σ H R I h;refine Call_ (zHZ I hg hm qL4 (qCe (thn (ha pos pins s σ H _ I h) fun us s1 z0=>?_) hs rfl));obtain⟨vs,H1,I1,r1,q1⟩:=z0;obtain⟨j,e,q1,q2,q⟩:=q1;subst e;cases r1 with
 |cons r rr=>
  cases rr;obtain⟨t,rfl⟩:=r;exact call_range_1 (zTA I1 (by omega) (by omega) q1 q2 (by simpa using q))
noncomputable def tFor(wi:TI)(g:TG)(tb:TS):TS:=fun D σ H=>wi σ H fun J H1=>∃W:Nat->Nat->St->Hp->Prop,(∃m,W 0 m σ H1)/\∀i m σ H,W i m σ H ->
 (J.stop i H/\D.nx σ H)\/(J.go i H/\∃N:St->Hp->Prop,(∀σ' H',N σ' H'->∃m',m'<m/\W (i+1) m' σ' H')/\∀x H',J.yld i H x H'->g x σ H' fun σ2 H2=>tb { D with nx:=N,ct:=N,bk:=D.nx } σ2 H2)
noncomputable def zHW(fp:List Addr)(h:Heap):List (Addr×Obj):=fp.filterMap fun b=>(h.get? b).map fun o=>(b,o)
theorem zDU{fp:List Addr}{h:Heap}{b:Addr}{o:Obj}(hb:b∈fp)(e:h.get? b=some o):(b,o)∈zHW fp h:=qFi.mpr ⟨b,hb,by rw[e];rfl⟩
theorem zQN{fp:List Addr}{h:Heap}{p:Addr×Obj}(hp:p∈zHW fp h):p.1∈fp/\h.get? p.1=some p.2:=by
 obtain⟨b,hb,e⟩:=qFi.mp hp;cases q:h.get? b with
 |none=>rw[q]at e;cases e
 |some o=>
  rw[q]at e;have e':(b,o)=p:=qBc e;subst e';exact⟨hb,q⟩
theorem Inv.pinned{pins:List (Addr×Obj)}{σ:St}{H:Hp}{s:qHx}{fp:List Addr}(I:Inv X pins σ H s)(hf:∀b∈fp,FpOk X pins H b)(ho:∀b∈fp,∃o,s.heap.get? b=some o/\∀v,o.data≠.cell v):Inv X (pins++zHW fp s.heap) σ H s:=
 I.pins_of fun p hp=>(qAw.mp hp).elim (fun z=>I.pin p (qAp _ z)) fun z=>by
  obtain⟨hb,e⟩:=zQN z;obtain⟨f0,f1,f2,_⟩:=hf p.1 hb;obtain⟨o,e',d⟩:=ho p.1 hb;rw[e]at e';cases e';exact⟨e,f0,f1,f2,d⟩
theorem Inv.unpinned{pins pl:List (Addr×Obj)}{σ:St}{H:Hp}{s:qHx}(I:Inv X (pins++pl) σ H s):Inv X pins σ H s:=I.pins_of fun p hp=>I.pin p (qAp _ (qBn _ hp))
theorem zZW{iter:Expr}{body:List Stmt}{wi:TI}{g:TG}{tb:TS}{pos:Pos}(hp:PassesOwn (model X.prog X.w) X.A X.env X.xe)(hc:X.calm=true)(hi:PI X tg iter wi)(hg:PG X tg g)(hb:PSs X body tb)
  (hs:∀x,qJ7 iter X.env x=pure x:=by intro _;rfl):PS X (.For tg iter body [] pos) (tFor wi g tb):=by
 intro pins s σ H D I h;refine wpAny_For (thn (hi pins s σ H _ I h) fun v s1 h1=>thn h1 fun itv s2 h2=>?_) hs;obtain⟨it,fp,tn,J,H2,e,I2,T,st2,f2,W,⟨m0,w0⟩,turn⟩:=h2;subst e;have stat:∀{H':Hp},(∀b∈fp,H' b=none)->∀b∈fp,FpOk X pins H' b:=fun hn b hb=>⟨hn b hb,(f2 b hb).2⟩
 refine codeAny_forLoop_any (fun n s'=>∃i σ' H',Inv X pins σ' H' s'/\tn i s'.heap/\(∀b∈fp,H' b=none)/\W i n σ' H') ?_ m0 ⟨0,σ,H2,I2,st2,fun b hb=>(f2 b hb).1,w0⟩
 rintro n s3 ⟨i,σ3,H3,I3,st3,fr3,w3⟩
 rcases turn i n σ3 H3 w3 with⟨stop,qn⟩|⟨go,N,hN,step⟩
 ·refine qJ2 hp (thn (T.done X rfl rfl rfl hc i pins s3 σ3 H3 X.xe I3 (stat fr3) st3 stop) fun r s4 z0=>?_);obtain⟨hr,I4⟩:=z0;subst hr;exact qJ1 ⟨σ3,H3,I4,qn⟩
 ·refine qJ2 hp (thn (T.item X rfl rfl rfl hc i pins s3 σ3 H3 X.xe I3 (stat fr3) st3 go) fun r s4 z0=>?_);obtain⟨u,hr,h4⟩:=z0;subst hr;refine qJ2 hp (thn h4 fun _ s5 z0=>?_);obtain⟨x,H5,I5,r5,y5,st5,fr5⟩:=z0;have I5':=I5.pinned (stat fr5) (T.obj _ _ st5);refine qJ2 hp (thn (hg _ s5 σ3 H5 x u _ I5' r5 (step x H5 y5)) fun _ s6 z0=>?_);obtain⟨σ6,H6,I6,q6⟩:=z0;refine qJ2 hp (thn (hb _ s6 σ6 H6 _ I6 q6) fun f s7 q7=>?_);have again:∀{σ7:St}{H7:Hp},Inv X (pins++zHW fp s5.heap) σ7 H7 s7->N σ7 H7->∃m,m<n/\∃i σ' H',Inv X pins σ' H' s7/\tn i s7.heap/\(∀b∈fp,H' b=none)/\W i m σ' H':=fun{σ7 H7} I7 n7=>by
   obtain⟨m',hm,w7⟩:=hN σ7 H7 n7;refine⟨m',hm,i+1,σ7,H7,I7.unpinned,T.keep _ _ _ st5 fun b hb o e=>(I7.pin (b,o) (qAp _ (qAp _ (zDU hb e)))).1,fun b hb=>?_,w7⟩;obtain⟨o,e,d⟩:=T.obj _ _ st5 b hb;exact(I7.pin (b,o) (qAp _ (qAp _ (zDU hb e)))).2.1
  cases f with
  |next=>obtain⟨σ7,H7,I7,n7⟩:=q7;exact again I7 n7
  |cont=>obtain⟨σ7,H7,I7,n7⟩:=q7;exact again I7 n7
  |brk=>obtain⟨σ7,H7,I7,q7⟩:=q7;exact⟨σ7,H7,I7.unpinned,q7⟩
  |ret v=>obtain⟨x7,σ7,H7,I7,r7,q7⟩:=q7;exact⟨x7,σ7,H7,I7.unpinned,r7,q7⟩
end
abbrev R2:=V->V->Hp->VK->Prop
def OpR(X:Cx)(f:Value->Value->Sem Value)(r:R2):Prop:=
 ∀(pins:List (Addr×Obj))(s:qHx)(σ:St)(H:Hp)(x y:V)(v u:Value)(Q:VK),Inv X pins σ H s->RelV x v->RelV y u->r x y H Q ->
  wpAny (model X.prog X.w) X.A (f v u) (EP X pins σ Q) X.xe s
def zCE(X:Cx)(f:Value)(r:List V->Hp->VK->Prop):Prop:=
 ∀(pins:List (Addr×Obj))(s:qHx)(σ:St)(H:Hp)(xs:List V)(us:List Value)(Q:VK),Inv X pins σ H s->Vals xs us->r xs H Q ->
  wpAny (model X.prog X.w) X.A (call f us) (EP X pins σ Q) X.xe s
def TruR(X:Cx)(r:V->Hp->(Bool->Hp->Prop)->Prop):Prop:=
 ∀(pins:List (Addr×Obj))(s:qHx)(σ:St)(H:Hp)(x:V)(v:Value)(Q:Bool->Hp->Prop),Inv X pins σ H s->RelV x v->r x H Q ->
  wpAny (model X.prog X.w) X.A (truthy v) (TP X pins σ Q) X.xe s
noncomputable def tOp(r:R2)(ta tb:TE):TE:=fun σ H Q=>ta σ H fun x H1=>tb σ H1 fun y H2=>r x y H2 Q
noncomputable def rI(C:Int->Int->Prop)(g:Int->Int->V):R2:=fun x y H Q=>∃i j,x=.int i/\y=.int j/\C i j/\Q (g i j) H
noncomputable def rI0(g:Int->Int->V):R2:=fun x y H Q=>∃i j,x=.int i/\y=.int j/\Q (g i j) H
section
variable{X:Cx}{a b c:Expr}{ta tb tc:TE}{pos:Pos}
theorem binT(ha:PE X a ta)(hb:PE X b tb){pins:List (Addr×Obj)}{s:qHx}{σ:St}{H:Hp}{R:V->V->Hp->Prop}(I:Inv X pins σ H s)
  (h:ta σ H fun x H1=>tb σ H1 fun y H2=>R x y H2) {Q:Value->qHx->Prop} {f:Value->Value->Sem Value}
  (hf:∀v u s2 x y H2,Inv X pins σ H2 s2->RelV x v->RelV y u->R x y H2->wpAny (model X.prog X.w) X.A (f v u) Q X.xe s2) :
  wpAny (model X.prog X.w) X.A (eval a X.env) (fun v s₁=>wpAny (model X.prog X.w) X.A (eval b X.env) (fun u s₂=>wpAny (model X.prog X.w) X.A (f v u) Q X.xe s₂) X.xe s₁) X.xe s:=by
 refine thn (ha pins s σ H _ I h) fun v s1 z0=>?_
 obtain⟨x,H1,I1,r1,q1⟩:=z0;refine thn (hb pins s1 σ H1 _ I1 q1) fun u s2 z0=>?_
 obtain⟨y,H2,I2,r2,q2⟩:=z0;exact hf v u s2 x y H2 I2 r1 r2 q2
theorem zAU{op:Operator}{r:R2}(ho:OpR X (binaryOp op) r)(ha:PE X a ta)(hb:PE X b tb):PE X (.BinOp a op b pos) (tOp r ta tb):=by
 intro pins s σ H Q I h;exact wpAny_BinOp (binT ha hb I h fun v u s2 x y H2 I2 rx ry q=>ho pins s2 σ H2 x y v u Q I2 rx ry q)
theorem opI{f:Value->Value->Sem Value}{C:Int->Int->Prop}{g:Int->Int->Int}
  (rule:∀(i j:Int)(t u:Tok)(s:qHx)(Q:Value->qHx->Prop)(E:Value->qHx->Prop),C i j->Q (.int (g i j) s.toks) { s with toks:=s.toks+1 }->wpAny (model X.prog X.w) X.A (f (.int i t) (.int j u)) Q E s) :
  OpR X f (rI C fun i j=>.int (g i j)):=by
 intro pins s σ H x y v u Q I rx ry h;obtain⟨i,j,rfl,rfl,hc,q⟩:=h;obtain⟨t,rfl⟩:=rx;obtain⟨t',rfl⟩:=ry;exact rule i j t t' s _ _ hc ⟨.int (g i j),H,I.tok _,⟨_,rfl⟩,q⟩
theorem opI0{f:Value->Value->Sem Value}{g:Int->Int->Int}
  (rule:∀(i j:Int)(t u:Tok)(s:qHx)(Q:Value->qHx->Prop)(E:Value->qHx->Prop),Q (.int (g i j) s.toks) { s with toks:=s.toks+1 }->wpAny (model X.prog X.w) X.A (f (.int i t) (.int j u)) Q E s) :
  OpR X f (rI0 fun i j=>.int (g i j)):=by
 intro pins s σ H x y v u Q I rx ry h;obtain⟨i,j,rfl,rfl,q⟩:=h;obtain⟨t,rfl⟩:=rx;obtain⟨t',rfl⟩:=ry;exact rule i j t t' s _ _ ⟨.int (g i j),H,I.tok _,⟨_,rfl⟩,q⟩
theorem opB0{f:Value->Value->Sem Value}{g:Int->Int->Bool}
  (rule:∀(i j:Int)(t u:Tok)(s:qHx)(Q:Value->qHx->Prop)(E:Value->qHx->Prop),Q (.bool (g i j)) s->wpAny (model X.prog X.w) X.A (f (.int i t) (.int j u)) Q E s) :
  OpR X f (rI0 fun i j=>.bl (g i j)):=by
 intro pins s σ H x y v u Q I rx ry h;obtain⟨i,j,rfl,rfl,q⟩:=h;obtain⟨t,rfl⟩:=rx;obtain⟨t',rfl⟩:=ry;exact rule i j t t' s _ _ ⟨.bl (g i j),H,I,rfl,q⟩
def CMul(i j:Int):Prop:=(-(2 ^ 64)<i/\i<2 ^ 64)\/(-(2 ^ 64)<j/\j<2 ^ 64)
theorem CMul.ok{i j:Int}(h:CMul i j):IntMulOk i j:=by
 rcases h with⟨h1,h2⟩|⟨h1,h2⟩
 ·exact .of_left (intBits_le_64 h1 h2)
 ·exact .of_right (intBits_le_64 h1 h2)
theorem za9:OpR X (binaryOp .Add) (rI0 fun i j=>.int (i+j)):=opI0 fun _ _ _ _ _ _ _ q=>add_int q
theorem za3:OpR X (binaryOp .Sub) (rI0 fun i j=>.int (i-j)):=opI0 fun _ _ _ _ _ _ _ q=>sub_int q
theorem za6:OpR X (binaryOp .Mod) (rI (fun _ j=>0<j) fun i j=>.int (i%j)):=opI fun i j _ _ _ _ _ hc q=>by
 have h1:(0:Int)<j:=hc;exact mod_int' (by omega) (by rw[Int.fmod_eq_emod_of_nonneg i (by omega)];exact q)
theorem za2:OpR X (binaryOp .BitXor) (rI0 fun i j=>.int (qIw i j)):=opI0 fun _ _ _ _ _ _ _ q=>xor_int q
end
noncomputable def scal:V->V->Bool
 |.non,.non=>true | .non,.int _=>true | .int _,.non=>true | .non,.bl _=>true | .bl _,.non=>true | .non,.str _=>true | .str _,.non=>true
 |.int _,.int _=>true | .bl _,.bl _=>true | .str _,.str _=>true | .byt _,.byt _=>true
 |.int _,.str _=>true | .str _,.int _=>true | .bl _,.str _=>true | .str _,.bl _=>true
 |_,_=>false
def rEq:R2:=fun x y H Q=>scal x y=true/\Q (.bl (decide (x=y))) H
def rNe:R2:=fun x y H Q=>scal x y=true/\Q (.bl (!decide (x=y))) H
theorem zRZ{i j:Int}:decide (V.int i=V.int j)=(i==j):=by
 rw[qDl];simp
theorem dec_bl{i j:Bool}:decide (V.bl i=V.bl j)=(i==j):=by
 rw[qDl];simp
theorem zRY{i j:Str}:decide (V.str i=V.str j)=(i==j):=by
 rw[qDl];simp
theorem zS0{i j:Array UInt8}:decide (V.byt i=V.byt j)=(i.toList==j.toList):=by
 rw[qDl];cases i;cases j;simp
section
variable{X:Cx}{a b c:Expr}{ta tb tc:TE}{pos:Pos}
theorem fin_bl{pins:List (Addr×Obj)}{σ:St}{H:Hp}{s:qHx}{Q:VK}{k k':Bool}(I:Inv X pins σ H s)(q:Q (.bl k) H)(e:k=k'):EP X pins σ Q (.bool k') s:=by
 subst e;exact⟨.bl k,H,I,rfl,q⟩
theorem zcH:OpR X (compareOp .Eq) rEq:=by
 intro pins s σ H x y v u Q I rx ry h;obtain⟨hs,q⟩:=h;cases x with
 |non=>
  cases rx;cases y with
  |non=>cases ry;exact qGh (fin_bl I q (by simp))
  |bl j=>cases ry;exact qGi (fin_bl I q (by simp))
  |int j=>obtain⟨t',rfl⟩:=ry;exact qGv (fin_bl I q (by simp))
  |str j=>obtain⟨t',rfl⟩:=ry;exact qGw (fin_bl I q (by simp))
  |_=>exact absurd (show false=true from hs) qAa
 |bl i=>
  cases rx;cases y with
  |non=>cases ry;exact qGj (fin_bl I q (by simp))
  |bl j=>cases ry;exact eq_bool (fin_bl I q dec_bl)
  |str j=>obtain⟨t',rfl⟩:=ry;exact qGk (fin_bl I q (by simp))
  |_=>exact absurd (show false=true from hs) qAa
 |int i=>
  obtain⟨t,rfl⟩:=rx;cases y with
  |non=>cases ry;exact qGx (fin_bl I q (by simp))
  |int j=>obtain⟨t',rfl⟩:=ry;exact eq_int (fin_bl I q zRZ)
  |str j=>obtain⟨t',rfl⟩:=ry;exact qGy (fin_bl I q (by simp))
  |_=>exact absurd (show false=true from hs) qAa
 |str i=>
  obtain⟨t,rfl⟩:=rx;cases y with
  |non=>cases ry;exact qGz (fin_bl I q (by simp))
  |bl j=>cases ry;exact qGl (fin_bl I q (by simp))
  |int j=>obtain⟨t',rfl⟩:=ry;exact qH0 (fin_bl I q (by simp))
  |str j=>obtain⟨t',rfl⟩:=ry;exact eq_str (fin_bl I q zRY)
  |_=>exact absurd (show false=true from hs) qAa
 |byt i=>
  obtain⟨t,rfl⟩:=rx;cases y with
  |byt j=>obtain⟨t',rfl⟩:=ry;exact PySem.W.eq_bytes (fin_bl I q zS0)
  |_=>exact absurd (show false=true from hs) qAa
 |_=>cases y<;>exact absurd (show false=true from hs) qAa
theorem zcE:OpR X (compareOp .NotEq) rNe:=by
 intro pins s σ H x y v u Q I rx ry h;obtain⟨hs,q⟩:=h;cases x with
 |non=>
  cases rx;cases y with
  |non=>cases ry;exact qGm (fin_bl I q (by simp))
  |bl j=>cases ry;exact qGn (fin_bl I q (by simp))
  |int j=>obtain⟨t',rfl⟩:=ry;exact qH1 (fin_bl I q (by simp))
  |str j=>obtain⟨t',rfl⟩:=ry;exact qH2 (fin_bl I q (by simp))
  |_=>exact absurd (show false=true from hs) qAa
 |bl i=>
  cases rx;cases y with
  |non=>cases ry;exact qGo (fin_bl I q (by simp))
  |bl j=>cases ry;exact ne_bool (fin_bl I q (congrArg not dec_bl))
  |str j=>obtain⟨t',rfl⟩:=ry;exact qGp (fin_bl I q (by simp))
  |_=>exact absurd (show false=true from hs) qAa
 |int i=>
  obtain⟨t,rfl⟩:=rx;cases y with
  |non=>cases ry;exact qH3 (fin_bl I q (by simp))
  |int j=>obtain⟨t',rfl⟩:=ry;exact ne_int (fin_bl I q (congrArg not zRZ))
  |str j=>obtain⟨t',rfl⟩:=ry;exact qH4 (fin_bl I q (by simp))
  |_=>exact absurd (show false=true from hs) qAa
 |str i=>
  obtain⟨t,rfl⟩:=rx;cases y with
  |non=>cases ry;exact qH5 (fin_bl I q (by simp))
  |bl j=>cases ry;exact qGq (fin_bl I q (by simp))
  |int j=>obtain⟨t',rfl⟩:=ry;exact qH6 (fin_bl I q (by simp))
  |str j=>obtain⟨t',rfl⟩:=ry;exact ne_str (fin_bl I q (congrArg not zRY))
  |_=>exact absurd (show false=true from hs) qAa
 |byt i=>
  obtain⟨t,rfl⟩:=rx;cases y with
  |byt j=>obtain⟨t',rfl⟩:=ry;exact PySem.W.ne_bytes (fin_bl I q (congrArg not zS0))
  |_=>exact absurd (show false=true from hs) qAa
 |_=>cases y<;>exact absurd (show false=true from hs) qAa
theorem zcF:OpR X (compareOp .Lt) (rI0 fun i j=>.bl (decide (i<j))):=opB0 fun _ _ _ _ _ _ _ q=>lt_int q
theorem zcG:OpR X (compareOp .Gt) (rI0 fun i j=>.bl (decide (j<i))):=opB0 fun _ _ _ _ _ _ _ q=>gt_int q
theorem zQI:OpR X (compareOp .In) (fun x y H Q=>∃i j,x=.str i/\y=.str j/\Q (.bl (!(qJ3 j i 0 j.length 1).isEmpty)) H):=by
 intro pins s σ H x y v u Q I rx ry h;obtain⟨i,j,rfl,rfl,q⟩:=h;obtain⟨t,rfl⟩:=rx;obtain⟨t',rfl⟩:=ry;exact in_str (fin_bl I q rfl)
theorem zVI:OpR X (compareOp .Is) (fun x y H Q=>y=.non/\Q (.bl (decide (x=.non))) H):=by
 intro pins s σ H x y v u Q I rx ry h;obtain⟨rfl,q⟩:=h;cases ry;refine is_none_gen (fin_bl I q ?_);cases x<;>first
  |(cases rx;rfl)
  |(obtain⟨t,rfl⟩:=rx;rfl)
theorem zBX(b:Expr){op:CmpOp}(h:op≠.In:=by decide)(h2:op≠.NotIn:=by decide):qK1 op b=false:=by
 have e1:(op==CmpOp.In)=false:=by cases op<;>first|rfl|exact absurd rfl h
 have e2:(op==CmpOp.NotIn)=false:=by cases op<;>first|rfl|exact absurd rfl h2
 cases b<;>simp[qK1,e1,e2]
theorem zLR{op:CmpOp}{r:R2}(ho:OpR X (compareOp op) r)(ha:PE X a ta)(hb:PE X b tb)(hm:qK1 op b=false):PE X (.Compare a [op] [b] pos) (tOp r ta tb):=by
 intro pins s σ H Q I h;exact wpAny_Compare1 (binT ha hb I h fun v u s2 x y H2 I2 rx ry q=>ho pins s2 σ H2 x y v u Q I2 rx ry q) hm
def TruV(K:qA1)(x:V)(H:Hp)(k:Bool):Prop:=
 match x with
 |.non=>k=false
 |.bl b=>k=b
 |.int i=>k=(i != 0)
 |.str y=>y.length<=sizeLine/\k=((y.length:Int) != 0)
 |.byt y=>y.size<=sizeLine/\k=((y.size:Int) != 0)
 |.ref p=>(∃xs,SqL K H p xs/\k = !xs.isEmpty)\/(∃xs,SqT K H p xs/\k = !xs.isEmpty)\/∃kvs,H p=some (.dK kvs)/\k = !kvs.isEmpty
 |_=>False
theorem zP4{κ:Type}{kvs:List (κ×V)}{vs:List (κ×Value)}(r:KV kvs vs):(!vs.isEmpty) = !kvs.isEmpty:=by
 cases r<;>rfl
theorem zI1{xs:List V}{its:List Value}(r:Vals xs its):(!its.toArray.isEmpty) = !xs.isEmpty:=by
 cases r<;>simp
theorem zFP:(sizeLine:Nat)<2 ^ 63:=by rw[qIq];decide
theorem zZ1:TruR X (fun x H Q=>∃k,TruV X.K x H k/\Q k H):=by
 intro pins s σ H x v Q I rx h;obtain⟨k,e,q⟩:=h;have hl:=zFP;have hs:sizeLine=16777216:=qIq;cases x with
 |non=>
  cases rx;have e':k=false:=e;subst e';exact truthy_none ⟨H,I,q⟩
 |bl b=>
  cases rx;have e':k=b:=e;subst e';exact qJx ⟨H,I,q⟩
 |int i=>
  obtain⟨t,rfl⟩:=rx;have e':k=(i != 0):=e;subst e';exact PySem.P.truthy_int ⟨H,I,q⟩
 |str y=>
  obtain⟨t,rfl⟩:=rx;obtain⟨hy,e'⟩:y.length<=sizeLine/\k=((y.length:Int) != 0):=e;subst e';exact PySem.P.truthy_str (by omega) ⟨H,I.tok _,q⟩
 |byt y=>
  obtain⟨t,rfl⟩:=rx;obtain⟨hy,e'⟩:y.size<=sizeLine/\k=((y.size:Int) != 0):=e;subst e';exact PySem.W.truthy_bytes (by omega) ⟨H,I.tok _,q⟩
 |ref p=>
  cases rx;have e':(∃xs,SqL X.K H p xs/\k = !xs.isEmpty)\/(∃xs,SqT X.K H p xs/\k = !xs.isEmpty)\/∃kvs,H p=some (.dK kvs)/\k = !kvs.isEmpty:=e
  rcases e' with⟨xs,hx,e'⟩|⟨xs,hx,e'⟩|⟨kvs,hx,e'⟩
  ·subst e';obtain⟨its,r,pl,hz⟩:=I.list hx;have hlen:=r.length;exact wpAny_truthy_list pl.isList (by simp only[qAi];omega) ⟨H,I.tok _,by rw[zI1 r];exact q⟩
  ·subst e';obtain⟨its,r,pl,hz⟩:=I.tuple hx;have hlen:=r.length;exact truthy_tuple pl (by simp only[qAi];omega) ⟨H,I.tok _,by rw[zI1 r];exact q⟩
  ·subst e';obtain⟨hz,hS,vs,r,m⟩:kvs.length<=sizeLine/\(p==qIs)=false/\∃vs,KV kvs vs/\s.heap.DictOf (zEG X.prog X.w) p vs:=I.hok p _ hx;have hlen:kvs.length=vs.length:=qJ0 r;exact wpAny_truthy_dict hS m (by omega) ⟨H,I.tok _,by rw[zP4 r];exact q⟩
 |_=>exact(show False from e).elim
theorem zOU:OpR X (binaryOp .Add) (fun x y H Q=>∃i j,x=.str i/\y=.str j/\i.length+j.length<=sizeLine/\Q (.str (i++j)) H):=by
 intro pins s σ H x y v u Q I rx ry h;obtain⟨i,j,rfl,rfl,hz,q⟩:=h;obtain⟨t,rfl⟩:=rx;obtain⟨t',rfl⟩:=ry;exact add_str (fun t' tk=>⟨.str (i++j),H,I.tok _,⟨_,rfl⟩,q⟩) hz
theorem zF8{x:V}{us:List Value}(r:Vals [x] us):∃u,us=[u]/\RelV x u:=by
 cases r with
 |cons r1 r2=>cases r2;exact⟨_,rfl,r1⟩
theorem zWL{x y:V}{us:List Value}(r:Vals [x,y] us):∃u w',us=[u,w']/\RelV x u/\RelV y w':=by
 cases r with
 |cons r1 r2=>
  cases r2 with
  |cons r3 r4=>cases r4;exact⟨_,_,rfl,r1,r3⟩
theorem zHC(hc:X.calm=true):zCE X (.builtin "max") (fun xs H Q=>∃i j,xs=[.int i,.int j]/\Q (.int (if j>i then j else i)) H):=by
 intro pins s σ H xs us Q I r h;obtain⟨i,j,rfl,q⟩:=h;obtain⟨u,w',rfl,⟨t,rfl⟩,⟨t',rfl⟩⟩:=zWL r;refine max_two_ints (I.ok.hd hc) fun h' tk k=>⟨_,H,I.kept k,?_,q⟩
 by_cases hj:j>i
 ·rw[if_pos hj,if_pos hj];exact⟨_,rfl⟩
 ·rw[if_neg hj,if_neg hj];exact⟨_,rfl⟩
theorem zSC(hc:X.calm=true):zCE X (.builtin "min") (fun xs H Q=>∃i j,xs=[.int i,.int j]/\Q (.int (if j<i then j else i)) H):=by
 intro pins s σ H xs us Q I r h;obtain⟨i,j,rfl,q⟩:=h;obtain⟨u,w',rfl,⟨t,rfl⟩,⟨t',rfl⟩⟩:=zWL r;refine min_two_ints (I.ok.hd hc) fun h' tk k=>⟨_,H,I.kept k,?_,q⟩
 by_cases hj:j<i
 ·rw[if_pos hj,if_pos hj];exact⟨_,rfl⟩
 ·rw[if_neg hj,if_neg hj];exact⟨_,rfl⟩
end
theorem zQY{h:Heap}{dx:Addr}{mA:Str->Option Value}(n:h.Ns1 dx mA):∃od,h.get? dx=some od/\∀name,qGr name od=some (mA name):=by
 obtain⟨o,es,ep,ho,hd,hk,_,hm⟩:=n;refine⟨o,ho,fun name=>?_⟩;have e:=hm name;unfold nsFind findBy at e;rw[<- Array.find?_toList]at e;unfold qGr;rw[hd];dsimp only
 split
 ·rename_i y q
  rw[q]at e;exact congrArg some e
 ·rename_i q
  rw[q]at e;have a:es.toList.any (·.refKey)=false:=by
   rw[qFo];intro y hy;obtain⟨z,t,hkey⟩:=hk y (Array.mem_toList_iff.mp hy);simp[DictEntry.refKey,hkey]
  have a':¬es.toList.any (·.refKey)=true:=by rw[a];exact qAa
  rw[if_neg a'];exact congrArg some e
section
variable{prog:qI0}{w:World}{A:qI4}{E:Value->qHx->Prop}{s:qHx}{K:qA1}{x dx C f:Addr}{mA:Str->Option Value}{name:Str}{v:Value}
end
theorem RelO.some_of{v:V}{o:Option Value}(r:RelO (some v) o):∃u,o=some u/\RelV v u:=by
 cases o with
 |none=>exact(show False from r).elim
 |some u=>exact⟨u,rfl,r⟩
section
variable{P:qI0}{w:World}{H H':Hp}{h h':Heap}{a C dx:Addr}{fs fs':List (Str×V)}
end
structure Cls(K:qA1)(C:Addr):Prop where
 pg:PySem.W.plainGet K C Str.empty=true
 hd:qCk K C=true
 po:PySem.W.plainOver K C=true
 sa:qAv K (.ref C) "__setattr__" = some (some (.builtin "object.__setattr__"))
def zbR(K:qA1)(C:Addr)(f:Str):Prop:=qAv K (.ref C) f=some none
section
variable{X:Cx}{pins:List (Addr×Obj)}{σ:St}{H:Hp}{s:qHx}{a C dx:Addr}{fs:List (Str×V)}{f:Str}{v:V}{A:qI4}{E:Value->qHx->Prop}
end
section
variable{X:Cx}{o e value:Expr}{f:Str}{pos pos' tpos:Pos}{ta tv:TE}
end
section
variable{X:Cx}{pins:List (Addr×Obj)}{σ:St}{H:Hp}{s:qHx}{A:qI4}{E:Value->qHx->Prop}{Q:Value->qHx->Prop}{c:Value}{b:Bool}
inductive TyOf(K:qA1)(H:Hp):V->Value->Prop where
 |non:TyOf K H .non (.type "NoneType")
 |bl (x:Bool):TyOf K H (.bl x) (.type "bool")
 |int (i:Int):TyOf K H (.int i) (.type "int")
 |str (x:Str):TyOf K H (.str x) (.type "str")
 |flt (x:UInt64):TyOf K H (.flt x) (.type "float")
 |lst {a:Addr} {xs:List V} (e:H a=some (.lst xs)):TyOf K H (.ref a) (.type "list")
 |frz {a:Addr} {o:Obj} {xs:List V} (e:H a=some (.frz o (.lst xs))):TyOf K H (.ref a) (.type "list")
 |tup {a:Addr} {xs:List V} (e:H a=some (.tup xs)):TyOf K H (.ref a) (.type "tuple")
 |dK {a:Addr} {kvs:List (Key×V)} (e:H a=some (.dK kvs)):TyOf K H (.ref a) (.type "dict")
 |dT {a:Addr} {T:Addr->Prop} {e0:Nat} {kvs:List (List KeyN×V)} (e:H a=some (.dT T e0 kvs)):TyOf K H (.ref a) (.type "dict")
 |ins {a C dx:Addr} {fs:List (Str×V)} (e:H a=some (.ins C dx fs)) (cl:Cls K C) (ha:qAv K (.ref C) "__class__" = some (some (.builtin "object.__class__")))
   (hn:qFp K (.builtin "object.__class__") "__get__" = some (some (.builtin "getset_descriptor.__get__"))) (htk:qG6 K (.builtin "object.__class__")=some true)
   (hm:qDi K C (.type "object")=some true):TyOf K H (.ref a) (.ref C)
end
structure Room(k:Nat)(A:qI4):Prop where
 hd:A.handled=none
 dp:A.depth+3*k+5<recursionLimit
 un:A.units+16*k+200<cLine
theorem Room.mono{j k:Nat}{A:qI4}(r:Room k A)(h:j<=k):Room j A:=⟨r.hd,by have:=r.dp;omega,by have:=r.un;omega⟩
theorem Room.deeper{k:Nat}{A:qI4}(r:Room (k+1) A)(env:Env):Room k (A.deeper env):=
 ⟨r.hd,by have:=r.dp;show A.depth+1+3*k+5<_;omega,by have:=r.un;show A.units+3+16*k+200<_;omega⟩
theorem Room.depth{k:Nat}{A:qI4}(r:Room k A):A.depth<recursionLimit:=by have:=r.dp;omega
theorem Room.units{k:Nat}{A:qI4}(r:Room k A):A.units+64<cLine:=by have:=r.un;omega
noncomputable def tNil:TA:=fun _ H Q=>Q [] H
noncomputable def zEC(ta:TE)(tr:TA):TA:=fun σ H Q=>ta σ H fun x H1=>tr σ H1 fun xs H2=>Q (x::xs) H2
section
variable{X:Cx}{e:Expr}{es:List Expr}{te:TE}{t:TA}{pos:Pos}
theorem zA5:PA X [] tNil:=fun _ _ _ _ H Q I h=>qL5 ⟨[],H,I,.nil,h⟩
theorem zA0(ha:PE X e te)(hr:PA X es t)(hs:starEach (e::es) X.env=(false,eval e X.env)::starEach es X.env:=by rfl):PA X (e::es) (zEC te t):=by
 intro pos pins s σ H Q I h;rw[hs];show wpAny _ _ (spliced ((false,eval e X.env)::backTo pos (starEach es X.env))) _ _ s;refine qJr (thn (ha pins s σ H _ I h) fun u s1 z0=>?_);obtain⟨x,H1,I1,r1,q1⟩:=z0;exact thn (hr pos pins s1 σ H1 _ I1 q1) fun us s2 ⟨xs,H2,I2,r2,q2⟩=>⟨x::xs,H2,I2,.cons r1 r2,q2⟩
def tLst(t:TA):TE:=fun σ H Q=>t σ H fun xs H1=>xs.length<=sizeLine/\∀p,H1 p=none->Q (.ref p) (upd H1 p (.lst xs))
theorem zBV(h:PA X es t):PE X (.List es pos) (tLst t):=by
 intro pins s σ H Q I hq;refine wpAny_List_spliced (thn (h pos pins s σ H _ I hq) fun us s1 ⟨xs,H1,I1,r,z,q⟩=>⟨by rw[<- r.length];exact z,?_⟩);have hf:H1 s1.heap.objs.size=none:=I1.hok.fresh (qA7 _);refine⟨.ref s1.heap.objs.size,upd H1 s1.heap.objs.size (.lst xs),I1.laid (t':=s1.toks) (fun b u e=>qHy _ e) (qA7 _) ?_,rfl,q _ hf⟩;exact⟨z,us,0,r,qI1 _ rfl⟩
end
abbrev Sp:=List V->Hp->VK->XK->Prop
abbrev CXT:=List Env->Hp->qHx->XK->Value->qHx->Prop
structure Env0(P:qI0)(w:World)(K:qA1)(mg:Str->Option Value)(base:Heap)(A:qI4)(outer:List Env)(s:qHx)(H:Hp):Prop where
 frames:A.frames=some outer
 mod:Mod K mg base
 bs:∀b o,base.get? b=some o->s.heap.get? b=some o/\H b=none
 bsz:base.objs.size<=s.heap.objs.size
 funs:s.heap.FunFrames base outer
 frf:∀b∈frs outer,H b=none
 hok:HOk P w H s.heap
 bare:qK0 s.gens
def CE(outer:List Env)(P:qI0)(w:World)(H:Hp)(s:qHx)(Q:VK)(u:Value)(s':qHx):Prop:=
 ∃v H',s'.os=s.os/\qK0 s'.gens/\Un (frs outer) [] H H' s.heap s'.heap/\HOk P w H' s'.heap/\RelV v u/\Q v H'
def CR(CX:CXT)(outer:List Env)(P:qI0)(w:World)(H:Hp)(s:qHx)(Q:VK)(E:XK)(r:qL0)(s':qHx):Prop:=
 match r with
 |.ok (.ret u)=>CE outer P w H s Q u s'
 |.ok _=>False
 |.error e=>CX outer H s E e s'
structure FnOk(P:qI0)(w:World)(K:qA1)(mg:Str->Option Value)(base:Heap)(CX:CXT)(k:Nat)(f:Addr)(fd:qIe)(ps:List Str)(sp:Sp):Prop where
 len:∀vs H Q E,sp vs H Q E->vs.length=ps.length
 run:∀(A:qI4)(outer:List Env)(s:qHx)(H:Hp)(args:Args)(us:List Value)(vs:List V)(Q:VK)(E:XK),Room k A->Env0 P w K mg base A outer s H->qL6 s fd args (ps.zip us)->Vals vs us->sp vs H Q E ->
  qJd (model P w) A (.call (.ref f) args) (CR CX outer P w H s Q E) s
theorem FnOk.imp{P:qI0}{w:World}{K:qA1}{mg:Str->Option Value}{base:Heap}{CX:CXT}{k:Nat}{f:Addr}{fd:qIe}{ps:List Str}{sp sp':Sp}(F:FnOk P w K mg base CX k f fd ps sp)
  (h:∀vs H Q E,sp' vs H Q E->sp vs H Q E):FnOk P w K mg base CX k f fd ps sp':=
 ⟨fun vs H Q E q=>F.len vs H Q E (h _ _ _ _ q),fun A outer s H args us vs Q E hr he hb hv hs=>F.run A outer s H args us vs Q E hr he hb hv (h _ _ _ _ hs)⟩
section
variable{X:Cx}{pins:List (Addr×Obj)}{σ:St}{H:Hp}{s s':qHx}
theorem Inv.env0(I:Inv X pins σ H s):Env0 X.prog X.w X.K X.mg X.base X.A X.stack s H:=
 ⟨I.ok.frames,I.ok.mod,I.bs,qAr I.ok.bsz I.sz,I.stack,I.stkFree,I.hok,I.bare⟩
theorem Inv.after{Q:VK}{u:Value}(I:Inv X pins σ H s)(h:CE X.stack X.prog X.w H s Q u s'):EP X pins σ Q u s':=by
 obtain⟨v,H',os,bare,un,hok,r,q⟩:=h;obtain⟨hh,g,d,t,os'⟩:=s';obtain rfl:os'=s.os:=os;exact⟨v,H',I.call (h':=hh) (g':=g) (d':=d) (t':=t) (ch:=[]) un hok bare (fun b z=>absurd z (by simp)),r,q⟩
end
noncomputable def zED(sp:Sp)(dvs:List V)(E:XK)(t:TA):TE:=fun σ H Q=>t σ H fun vs H1=>sp (vs++dvs) H1 Q E
def Binds(K:qA1)(fd:qIe)(ps:List Str)(ds:List Value):Prop:=
 ∀(s:qHx)(us:List Value),K.In s.heap->(us++ds).length=ps.length->qL6 s fd ⟨us,[]⟩ (ps.zip (us++ds))
theorem Binds.all{K:qA1}{fd:qIe}{ps:List Str}(h:∀us:List Value,us.length=ps.length->qJs fd ⟨us,[]⟩=pure (ps.zip us)):Binds K fd ps []:=fun s us _ hl=>by
 rw[qBk]at hl ⊢;exact .of_eq (h us hl)
def zOG(CX:CXT)(X:Cx)(E:XK):Prop:=∀(pins:List (Addr×Obj))(σ:St)(H:Hp)(s:qHx)(e:Value)(s':qHx),Inv X pins σ H s->CX X.stack H s E e s'->X.xe e s'
section
variable{X:Cx}{CX:CXT}{k:Nat}{f C:Addr}{fd:qIe}{ps:List Str}{sp:Sp}{dvs:List V}{ds:List Value}{E:XK}{x m:Str}{p pos apos:Pos}{e o:Expr}{es:List Expr}{ta:TE}{t:TA}
theorem zZD{pins:List (Addr×Obj)}{σ:St}{H:Hp}{s:qHx}{Q:VK}{us:List Value}{vs:List V}(F:FnOk X.prog X.w X.K X.mg X.base CX k f fd ps sp)(hr:Room k X.A)(hb:Binds X.K fd ps ds)(hd:Vals dvs ds)(hx:zOG CX X E)
  (I:Inv X pins σ H s) (r:Vals vs us) (h:sp (vs++dvs) H Q E):wpAny (model X.prog X.w) X.A (call (.ref f) us) (EP X pins σ Q) X.xe s:=by
 have r2:Vals (vs++dvs) (us++ds):=r.append hd;have hl:(us++ds).length=ps.length:=by rw[<- r2.length];exact F.len _ _ _ _ h
 refine wpAny_call (codeAny_mono (F.run X.A X.stack s H ⟨us,[]⟩ (us++ds) (vs++dvs) Q E hr I.env0 (hb s us I.kIn hl) r2 h) fun r s' hq=>?_);cases r with
 |error e=>exact hx pins σ H s e s' I hq
 |ok fl=>
  cases fl with
  |ret u=>exact I.after hq
  |next=>exact qA8 hq
  |brk=>exact qA8 hq
  |cont=>exact qA8 hq
theorem zLS(F:FnOk X.prog X.w X.K X.mg X.base CX k f fd ps sp)(hr:Room k X.A)(hg:Gl X x)(hm:X.mg x=some (.ref f))(hk:qB9 X.K (.ref f)=true)(hb:Binds X.K fd ps ds)(hd:Vals dvs ds)(hx:zOG CX X E)
  (ha:PA X (e::es) t) (hdb:(x==("__debug__":Str))=false:=by decide) (he:starEach (e::es) X.env=(false,eval e X.env)::starEach es X.env:=by rfl) (hpl:(backTo pos (starEach es X.env)).any (·.1)=false:=by rfl) :
  PE X (.Call (.Name x p) (e::es) [] pos) (zED sp dvs E t):=by
 intro pins s σ H Q I h;refine qIo (zGV I hg hm ?_ hdb);refine qDu (h₀:=X.base) I.ok.mod.kin hk (thn (ha pos pins s σ H _ I h) fun us s1 ⟨vs,H1,I1,r,q⟩=>⟨I1.kIn,?_⟩) he hpl;exact zZD F hr hb hd hx I1 r q
end
section
variable{X:Cx}{CX:CXT}{k:Nat}{f C:Addr}{fd:qIe}{ps ks:List Str}{sp:Sp}{E:XK}{x m:Str}{p pos apos kpos:Pos}{e o:Expr}{es:List Expr}{kws:List qLv}{te ta:TE}{t tk:TA}{nm:Option Str}
variable{g:List Value->List Value->List Value}{gV:List V->List V->List V}
end
structure FnScope(N P:List Str)(sc:Scope):Prop where
 kind:sc.kind=.function
 co:sc.isCoroutine=false
 gen:sc.isGenerator=false
 nd:N.Nodup
 pre:N.take P.length=P
 par:∀x∈P,sc.names.lookup x=some .local\/sc.names.lookup x=some .cell
 nofree:∀y∈sc.names,y.2≠.free
theorem zL9{kindOf:Str->Option qIt}{x:Str}:∀{binds:List (Str×Value)}{m:Str->Option Value},(∀v,(x,v)∉binds)->bindL kindOf binds m x=m x
 |[],_,_=>rfl
 |(n,v)::r,m,h=>by
  unfold bindL;rw[zL9 fun w hw=>h w (qAd _ hw)]
  split
  ·have:x≠n:=by rintro rfl;exact h v qAl
   simp[this]
  ·rfl
theorem zLB{kindOf:Str->Option qIt}{x:Str}:∀{binds:List (Str×Value)}{m:Str->Option Value},(∀v,(x,v)∉binds)->bindC kindOf binds m x=m x
 |[],_,_=>rfl
 |(n,v)::r,m,h=>by
  unfold bindC;rw[zLB fun w hw=>h w (qAd _ hw)]
  split
  ·rfl
  ·have:x≠n:=by rintro rfl;exact h v qAl
   simp[this]
theorem zLA{kindOf:Str->Option qIt}{x:Str}{v:Value}:∀{P:List Str}{vs:List Value}{i:Nat}{m:Str->Option Value},P.Nodup->P[i]?=some x->vs[i]?=some v->kindOf x=some .local ->
  bindL kindOf (P.zip vs) m x=some v
 |[],_,_,_,_,h,_,_=>by simp at h
 |_::_,[],_,_,_,_,h,_=>by simp at h
 |p::P,w::vs,0,m,nd,h1,h2,hk=>by
  simp at h1 h2;subst h1;subst h2;show bindL kindOf ((p,w)::P.zip vs) m p=_;unfold bindL;rw[zL9 fun v hv=>(qAy.mp nd).1 (qCw hv).1,if_pos hk];simp
 |p::P,w::vs,i+1,m,nd,h1,h2,hk=>by
  show bindL kindOf ((p,w)::P.zip vs) m x=_;unfold bindL;exact zLA (i:=i) (qAy.mp nd).2 (by simpa using h1) (by simpa using h2) hk
theorem zLC{kindOf:Str->Option qIt}{x:Str}{v:Value}:∀{P:List Str}{vs:List Value}{i:Nat}{m:Str->Option Value},P.Nodup->P[i]?=some x->vs[i]?=some v->kindOf x≠some .local ->
  bindC kindOf (P.zip vs) m x=some v
 |[],_,_,_,_,h,_,_=>by simp at h
 |_::_,[],_,_,_,_,h,_=>by simp at h
 |p::P,w::vs,0,m,nd,h1,h2,hk=>by
  simp at h1 h2;subst h1;subst h2;show bindC kindOf ((p,w)::P.zip vs) m p=_;unfold bindC;rw[zLB fun v hv=>(qAy.mp nd).1 (qCw hv).1,if_neg hk];simp
 |p::P,w::vs,i+1,m,nd,h1,h2,hk=>by
  show bindC kindOf ((p,w)::P.zip vs) m x=_;unfold bindC;exact zLC (i:=i) (qAy.mp nd).2 (by simpa using h1) (by simpa using h2) hk
noncomputable def start(N:List Str)(vs:List V):St:=vs.map some++qA4 (N.length-vs.length) none
noncomputable def cxOf(CX:CXT)(P:qI0)(w:World)(K:qA1)(mg:Str->Option Value)(base:Heap)(N:List Str)(qual:Str)(scope:Scope)(f:Addr)(cd:Value)(A:qI4)(outer:List Env)(s:qHx)(H:Hp)(E:XK):Cx where
 prog:=P
 w:=w
 K:=K
 mg:=mg
 base:=base
 A:=A.deeper (envOfC qual scope s.heap.objs.size f cd)
 N:=N
 s₀:=s
 H₀:=H
 env:=envOfC qual scope s.heap.objs.size f cd
 outer:=outer
 stack:=envOfC qual scope s.heap.objs.size f cd::outer
 ex:=[]
 calm:=true
 fn:=fun _=>true
 pn:=[]
 xe:=fun e s'=>wpAny (model P w) (A.deeper (envOfC qual scope s.heap.objs.size f cd)) (leaving (envOfC qual scope s.heap.objs.size f cd) e) (fun _ s''=>CX outer H s E e s'') (fun e' s''=>CX outer H s E e' s'') s'
theorem zOA{sc:Scope}{n:Nat}{x:Str}(h:sc.names.lookup x=some .cell):∃c,(cellsFrom n sc.names []).lookup x=some c:=by
 have q:=qD1 sc.names n [] (.inl h);exact qCs.mp q
theorem zRB{CX:CXT}{P:qI0}{w:World}{K:qA1}{mg:Str->Option Value}{base:Heap}{N ps:List Str}{qual:Str}{scope:Scope}{f:Addr}{cd:Value}{A:qI4}{outer:List Env}{s s1:qHx}{H:Hp}{E:XK}{us:List Value}{vs:List V}
  (S:FnScope N ps scope) (hd:A.handled=none) (e0:Env0 P w K mg base A outer s H) (hl:vs.length=ps.length) (r:Vals vs us)
  (x:InCallC s s.heap.objs.size (bindL (envOfC qual scope s.heap.objs.size f cd).kindOf (ps.zip us) fun _=>none) (cellsFrom (s.heap.objs.size+1) scope.names []) (bindC (envOfC qual scope s.heap.objs.size f cd).kindOf (ps.zip us) fun _=>none) s1) :
  Inv (cxOf CX P w K mg base N qual scope f cd A outer s H E) [] (start N vs) H s1:=by
 have hpl:ps.length<=N.length:=by have:=congrArg qDm S.pre;rw[qDc]at this;omega
 obtain⟨h1,tk,rfl,hk⟩:=x.done;have noA:∀b:Addr,b∉(cxOf CX P w K mg base N qual scope f cd A outer s H E).ex:=fun b z=>absurd (show b∈([]:List Addr) from z) (by simp)
 refine⟨⟨e0.mod,S.kind,rfl,rfl,qA7 _,fun y z c h1 h2=>?_,fun y hy=>?_,fun y c _ h=>?_,fun _=>hd,Around.frames_deeper e0.frames,.inr ⟨rfl,rfl⟩,fun b z=>absurd z (noA b),e0.bs,e0.bsz,fun b _ _=>noA b,fun b z=>absurd z (noA b),e0.funs,e0.frf⟩,
  rfl,e0.bare,Un.kept hk,⟨_,x.toInCall.ns,fun i y v h1 h2 h3=>?_⟩,fun y c h=>⟨_,x.cell y c h⟩,e0.hok.fresh (qA7 _),fun y c h=>?_,fun p hp=>absurd (show p∈([]:List (Addr×Obj)) from hp) (by simp),e0.hok.kept hk,?_⟩
 ·exact name_of_addr x.apart (qC8 h1) (qC8 h2)
 ·have hy:scope.names.lookup y=some .cell\/scope.names.lookup y=some .free:=hy
  rcases hy with hy|hy
  ·exact zOA hy
  ·exact absurd rfl (S.nofree _ (qC8 hy))
 ·exact qCd (x.above y c (qC8 h))
 ·have hi:i<vs.length:=by
   unfold start at h2
   by_cases hi:i<vs.length
   ·exact hi
   ·rw[qAe (by simpa using hi)]at h2;rw[qBl]at h2
    split at h2<;>cases h2
  have ha:vs[i]?=some v:=by
   unfold start at h2;rw[qAc (by simpa using hi),qAf]at h2;cases e:vs[i]? with
   |none=>rw[e]at h2;cases h2
   |some a=>rw[e]at h2;cases h2;rfl
  obtain⟨u,hu,rv⟩:=r.get ha;have hp:ps[i]?=some y:=by
   rw[<- S.pre,List.getElem?_take_of_lt (by omega)];exact h1
  have ndP:ps.Nodup:=by rw[<- S.pre];exact S.nd.sublist (List.take_sublist _ _)
  refine⟨u,rv,?_⟩
  rcases S.par y (qB1 hp)with k|k
  ·exact .inl ⟨k,zLA ndP hp hu k⟩
  ·obtain⟨c,e⟩:=zOA (n:=s.heap.objs.size+1) k;refine .inr ⟨.inl k,c,e,?_⟩;have q:=x.cell y c e;rw[zLC ndP hp hu (by show scope.names.lookup y≠_;rw[k];decide)]at q;exact q
 ·exact e0.hok.fresh (qCd (x.above y c (qC8 h)))
 ·unfold start;show _=N.length;rw[qB4,qAm,qD7];omega
theorem zYD{CX:CXT}{P:qI0}{w:World}{K:qA1}{mg:Str->Option Value}{base:Heap}{k:Nat}{f:Addr}{name qual:Str}{params:Arguments}{body:List Stmt}{scope:Scope}{dV kV doc pm cdv ct oc:Value}{an od:Option Addr}
  {osl:Array (Option Value)} {N ps:List Str} {sp:Sp} (lk:K.lookup f=some ⟨oc,od,.func (qBb name qual params body scope dV kV doc pm an cdv ct),osl⟩) (hcd:qCb K cdv qual=true) (S:FnScope N ps scope)
  (len:∀vs H Q E,sp vs H Q E->vs.length=ps.length)
  (hbody:∀(A:qI4)(outer:List Env)(s:qHx)(H:Hp)(vs:List V)(Q:VK)(E:XK),Room k (A.deeper (envOfC qual scope s.heap.objs.size f cdv))->sp vs H Q E ->
   ∃t,PSs (cxOf CX P w K mg base N qual scope f cdv A outer s H E) body t/\t { nx:=fun _ H'=>Q .non H',rt:=Q } (start N vs) H) :
  FnOk P w K mg base CX (k+1) f (qBb name qual params body scope dV kV doc pm an cdv ct) ps sp:=by
 refine⟨len,fun A outer s H args us vs Q E hr e0 hb r hsp=>?_⟩;have hl:=len _ _ _ _ hsp;have KX:K.In s.heap:=e0.mod.kin.keeps fun b o e=>(e0.bs b o e).1
 have lim:s.heap.NoLimit:=e0.mod.nolimit.keeps fun b o e=>(e0.bs b o e).1
 have hkind:∀y∈ps.zip us,scope.names.lookup y.1=some .local\/(scope.names.lookup y.1=some .cell/\((cellsFrom (s.heap.objs.size+1) scope.names []).lookup y.1).isSome=true):=fun⟨n,v⟩ hy=>by
  rcases S.par n (qCw hy).1 with q|q
  ·exact .inl q
  ·exact .inr ⟨q,qD1 _ _ _ (.inl q)⟩
 refine codeAny_call_function hr.depth (KX _ _ lk) rfl S.co S.gen rfl (PySem.W.codeRec_of KX hcd) (hb _ _ _ _ ?_);refine wpAny_newFunctionEnv_cells S.kind hkind fun env he s1 x=>?_
 subst he;refine⟨lim.keeps x.toInCall.keep,codeAny_func ?_⟩;obtain⟨t,ht,hq⟩:=hbody A outer s H vs Q E (hr.deeper _) hsp;have I:Inv (cxOf CX P w K mg base N qual scope f cdv A outer s H E) [] (start N vs) H s1:=zRB S hr.hd e0 hl r x;refine wpAny_mono (ht [] s1 (start N vs) H _ I hq) (fun fl s' hs=>?_) fun e s' hs=>hs
 have fin:∀{σ':St}{H':Hp}{v:V}{u:Value},Inv (cxOf CX P w K mg base N qual scope f cdv A outer s H E) [] σ' H' s'->RelV v u->Q v H'->CE outer P w H s Q u s':=
  fun{σ' H' v u} J rv q=>⟨v,H',J.os,J.bare,J.base,J.hok,rv,q⟩
 cases fl with
 |ret u=>
  obtain⟨v,σ',H',J,rv,q⟩:=hs;exact fin J rv q
 |next=>
  obtain⟨σ',H',J,q⟩:=hs;exact fin (v:=V.non) (u:=qI7) J rfl q
 |brk=>
  obtain⟨_,_,_,q⟩:=hs;exact qA8 q
 |cont=>
  obtain⟨_,_,_,q⟩:=hs;exact qA8 q
section
variable{X:Cx}{x:Str}{p pos:Pos}{e:Expr}{es:List Expr}{t:TA}{id T:String}{r:List V->Hp->VK->Prop}
noncomputable def tCB(r:List V->Hp->VK->Prop)(t:TA):TE:=fun σ H Q=>t σ H fun vs H1=>r vs H1 Q
theorem zAL(hc:zCE X (.builtin id) r)(hg:Gl X x)(hm:X.mg x=none)(hv:qIl x=some (.builtin id))(ha:PA X (e::es) t)(hn:x≠"__name__":=by decide)(hdb:(x==("__debug__":Str))=false:=by decide)
  (he:starEach (e::es) X.env=(false,eval e X.env)::starEach es X.env:=by rfl) (hpl:(backTo pos (starEach es X.env)).any (·.1)=false:=by rfl):PE X (.Call (.Name x p) (e::es) [] pos) (tCB r t):=by
 intro pins s σ H Q I h;refine qIo (zHZ I hg hm hv ?_ hn hdb);exact qFx (thn (ha pos pins s σ H _ I h) fun us s1 ⟨vs,H1,I1,r1,q1⟩=>hc pins s1 σ H1 vs us Q I1 r1 q1) he hpl
theorem zB2(hc:zCE X (.type T) r)(hg:Gl X x)(hm:X.mg x=none)(hv:qIl x=some (.type T))(ha:PA X (e::es) t)(hn:x≠"__name__":=by decide)(hdb:(x==("__debug__":Str))=false:=by decide)
  (he:starEach (e::es) X.env=(false,eval e X.env)::starEach es X.env:=by rfl) (hpl:(backTo pos (starEach es X.env)).any (·.1)=false:=by rfl):PE X (.Call (.Name x p) (e::es) [] pos) (tCB r t):=by
 intro pins s σ H Q I h;refine qIo (zHZ I hg hm hv ?_ hn hdb);exact qCe (thn (ha pos pins s σ H _ I h) fun us s1 ⟨vs,H1,I1,r1,q1⟩=>hc pins s1 σ H1 vs us Q I1 r1 q1) he hpl
end
section
variable{X:Cx}{K:qA1}
end
end L2
namespace Mi
end Mi
namespace PySem
open PyProof.Rows
end PySem
namespace Mi
open PySem
noncomputable section
end
noncomputable section
end
noncomputable section
end
noncomputable section
end
noncomputable section
end
noncomputable section
end
noncomputable section
end
noncomputable section
end
noncomputable section
end
noncomputable section
end
noncomputable section
end
noncomputable section
end
noncomputable section
end
noncomputable section
end
noncomputable section
end
noncomputable section
end
noncomputable section
end
end Mi
namespace PySem
open Builtin Builtin.Str PySem.Spec
end PySem
namespace HT
open PySem PyProof.Rows
section
open PySem.SeqAt
open PySem.AutoSeq1 (wpAny_loadPart')
open PySem.MeetsSeq PySem.MeetsSeq2 PySem.MeetsSeq3
end
section
variable{prog:qI0}{w:World}{A:qI4}{E:Value->qHx->Prop}{s:qHx}
noncomputable def sIx(n d:Nat):Option Int->Nat
 |none=>d
 |some v=>if v<0 then(v+(n:Int)).toNat else min v.toNat n
end
end HT
namespace L2
open PySem PySem.Spec PyProof.Rows
abbrev TO:=St->Hp->(Option Int->Hp->Prop)->Prop
def PO(X:Cx)(e:Option Expr)(t:TO):Prop:=
 ∀(pins:List (Addr×Obj))(s:qHx)(σ:St)(H:Hp)(Q:Option Int->Hp->Prop),Inv X pins σ H s->t σ H Q ->
  wpAny (model X.prog X.w) X.A (evalPart e X.env) (fun u s'=>∃o H',Inv X pins σ H' s'/\IsPart u o/\Q o H') X.xe s
noncomputable def zPT:TO:=fun _ H Q=>Q none H
noncomputable def zZ4(t:TE):TO:=fun σ H Q=>t σ H fun x H1=>∃i,x=.int i/\Q (some i) H1
section
variable{X:Cx}{e:Expr}{te:TE}{lo hi:Option Expr}{tl th:TO}{pos p2:Pos}
theorem zIN:PO X none zPT:=by
 intro pins s σ H Q I h;rw[evalPart_none];exact wpAny_pure ⟨none,H,I,.none,h⟩
theorem zIM(h:PE X e te):PO X (some e) (zZ4 te):=by
 intro pins s σ H Q I hw;rw[evalPart_some];refine thn (h pins s σ H _ I hw) fun u s1 z0=>?_
 obtain⟨x,H1,I1,r1,q1⟩:=z0;obtain⟨i,rfl,q⟩:=q1;obtain⟨t,rfl⟩:=r1;exact⟨some i,H1,I1,.int i t,q⟩
def SlR(X:Cx)(r:V->Option Int->Option Int->Hp->VK->Prop):Prop:=
 ∀(pins:List (Addr×Obj))(s:qHx)(σ:St)(H:Hp)(x:V)(v vl vu:Value)(lo hi:Option Int)(sl:Addr)(Q:VK),Inv X pins σ H s->RelV x v->s.heap.IsSliceOf sl vl vu .none->IsPart vl lo->IsPart vu hi->r x lo hi H Q ->
  ∃T id,typeLookup (.type T) "__getitem__" = pure (some (.builtin id))/\s.TypeIs v T/\wpAny (model X.prog X.w) X.A (getItem v (.ref sl)) (EP X pins σ Q) X.xe s
noncomputable def tSl(r:V->Option Int->Option Int->Hp->VK->Prop)(te:TE)(tl th:TO):TE:=fun σ H Q=>te σ H fun x H1=>tl σ H1 fun l H2=>th σ H2 fun u H3=>r x l u H3 Q
theorem zG5{r:V->Option Int->Option Int->Hp->VK->Prop}(hr:SlR X r)(he:PE X e te)(hl:PO X lo tl)(hu:PO X hi th):PE X (.Subscript e (.Slice lo hi none p2) pos) (tSl r te tl th):=by
 intro pins s σ H Q I h;refine qLr (thn (he pins s σ H _ I h) fun v s1 z0=>?_);obtain⟨x,H1,I1,r1,q1⟩:=z0;refine wpAny_Slice (thn (hl pins s1 σ H1 _ I1 q1) fun vl s2 ⟨l,H2,I2,pl,q2⟩=>thn (hu pins s2 σ H2 _ I2 q2) fun vu s3 ⟨u,H3,I3,pu,q3⟩=>?_);rw[evalPart_none];refine wpAny_pure ?_;have I4:Inv X pins σ H3 { s3 with heap:=s3.heap.push { cls:=.type "slice",data:=.fields #[vl,vu,.none] } }:=I3.kept (t':=s3.toks) fun b ob q=>qHy _ q
 obtain⟨T,id,hT,ht,hg⟩:=hr pins { s3 with heap:=s3.heap.push { cls:=.type "slice",data:=.fields #[vl,vu,.none] } } σ H3 x v vl vu l u s3.heap.objs.size Q I4 r1 (qM1 ..) pl pu q3;show wpAny (model X.prog X.w) X.A (subscriptTail e (.Slice lo hi none p2) v (.ref s3.heap.objs.size)) (EP X pins σ Q) X.xe { s3 with heap:=s3.heap.push { cls:=.type "slice",data:=.fields #[vl,vu,.none] } };exact tail_any (ops:=[.ref s3.heap.objs.size,v]) ht hT hg (by with_unfolding_all rfl)
def cutV(xs:List V)(lo hi:Option Int):List V:=(xs.drop (HT.sIx xs.length 0 lo)).take (HT.sIx xs.length xs.length hi-HT.sIx xs.length 0 lo)
theorem zMB(xs:List V)(lo hi:Option Int):(cutV xs lo hi).length<=xs.length:=by
 unfold cutV;rw[qDc,List.length_drop];omega
end
noncomputable def ixN(n:Nat)(i:Int):Option Nat:=if 0<=i then(if i<n then some i.toNat else none)else if -(n:Int)<=i then some (i+n).toNat else none
def atI{α:Type}(xs:List α)(i:Int):Option α:=(ixN xs.length i).bind fun j=>xs[j]?
theorem zM4{n:Nat}{i:Int}{j:Nat}(h:ixN n i=some j):qLj i n=some j/\j<n/\-(n:Int)<=i/\i<n:=by
 unfold ixN at h
 by_cases h0:0<=i
 ·rw[if_pos h0]at h
  by_cases h1:i<n
  ·rw[if_pos h1]at h;have e:i.toNat=j:=qBc h;exact⟨by rw[qLk h0 h1,e],by omega,by omega,h1⟩
  ·rw[if_neg h1]at h;cases h
 ·rw[if_neg h0]at h
  by_cases h1:-(n:Int)<=i
  ·rw[if_pos h1]at h;have e:(i+n).toNat=j:=qBc h;exact⟨by rw[qLd (by omega) h1,e],by omega,h1,by omega⟩
  ·rw[if_neg h1]at h;cases h
theorem zMS{α:Type}{xs:List α}{i:Int}{v:α}(h:atI xs i=some v):∃j,qLj i xs.length=some j/\xs[j]?=some v/\j<xs.length/\-(xs.length:Int)<=i/\i<xs.length:=by
 unfold atI at h;cases e:ixN xs.length i with
 |none=>rw[e]at h;cases h
 |some j=>
  rw[e]at h;obtain⟨h1,h2,h3,h4⟩:=zM4 e;exact⟨j,h1,h,h2,h3,h4⟩
def zYS(b:Expr):Prop:=∀o i,subscripted b false o i=operate [o,i] (getItem o i)
def IxR(X:Cx)(r:R2):Prop:=
 ∀(value slice:Expr)(pins:List (Addr×Obj))(s:qHx)(σ:St)(H:Hp)(x y:V)(v u:Value)(Q:VK),Inv X pins σ H s->RelV x v->RelV y u->r x y H Q ->
  subscripted slice false v u=operate [v,u] (getItem v u)->wpAny (model X.prog X.w) X.A (subscriptTail value slice v u) (EP X pins σ Q) X.xe s
def MtR(X:Cx)(id:String)(r:V->List V->Hp->VK->Prop):Prop:=
 ∀(pins:List (Addr×Obj))(s:qHx)(σ:St)(H:Hp)(x:V)(xs:List V)(v:Value)(us:List Value)(Q:VK),Inv X pins σ H s->RelV x v->Vals xs us->r x xs H Q ->
  wpAny (model X.prog X.w) X.A (call (.builtin id) (v::us)) (EP X pins σ Q) X.xe s
section
variable{X:Cx}{a b:Expr}{ta tb:TE}{pos:Pos}
theorem zDB{r:R2}(hr:IxR X r)(ha:PE X a ta)(hb:PE X b tb)(hs:zYS b):PE X (.Subscript a b pos) (tOp r ta tb):=by
 intro pins s σ H Q I h;exact qLr (binT ha hb I h fun v u s2 x y H2 I2 rx ry q=>hr a b pins s2 σ H2 x y v u Q I2 rx ry q (hs _ _))
def rIxL(K:qA1):R2:=fun x y H Q=>∃p xs i v,x=.ref p/\y=.int i/\SqL K H p xs/\atI xs i=some v/\Q v H
def rIxT(K:qA1):R2:=fun x y H Q=>∃p xs i v,x=.ref p/\y=.int i/\SqT K H p xs/\atI xs i=some v/\Q v H
def rIxS:R2:=fun x y H Q=>∃z i c,x=.str z/\y=.int i/\z.length<=sizeLine/\atI z.cps.toList i=some c/\Q (.str ⟨#[c]⟩) H
theorem zY5:IxR X (rIxL X.K):=by
 intro value slice pins s σ H x y v u Q I rx ry h hs;obtain⟨p,xs,i,z,rfl,rfl,hq,he,q⟩:=h;cases rx;obtain⟨t,rfl⟩:=ry;obtain⟨its,r,pl,hz⟩:=I.list hq;obtain⟨j,h1,h2,h3,h4,h5⟩:=zMS he;obtain⟨w,ew,rw'⟩:=r.get h2;have hl:=r.length;have hn:=zFP;have fin:EP X pins σ Q w s:=⟨z,H,I,rw',q⟩
 by_cases h0:0<=i
 ·have hj:i.toNat=j:=by
   rw[qLk h0 h5]at h1;exact qBc h1
  exact item_listR pl.isList h0 (by omega) (by rw[hj];simpa using ew) fin hs
 ·have hj:(i+(its.toArray.size:Int)).toNat=j:=by
   rw[qLd (by omega) h4]at h1;rw[qAi,<- hl];exact qBc h1
  exact qK6 (x:=w) pl.isList.typeIs qL7.lookup
   (wpAny_getItem_list_neg (Q:=fun r s'=>r=w/\EP X pins σ Q r s') pl.isList (by omega) (by rw[qAi]<;>omega) (by omega) (by rw[hj];simpa using ew) ⟨rfl,fin⟩) hs
theorem zaO:IxR X (rIxT X.K):=by
 intro value slice pins s σ H x y v u Q I rx ry h hs;obtain⟨p,xs,i,z,rfl,rfl,hq,he,q⟩:=h;cases rx;obtain⟨t,rfl⟩:=ry;obtain⟨its,r,pl,hz⟩:=I.tuple hq;obtain⟨j,h1,h2,h3,h4,h5⟩:=zMS he;obtain⟨w,ew,rw'⟩:=r.get h2;have hl:=r.length;have hn:=zFP;have fin:EP X pins σ Q w s:=⟨z,H,I,rw',q⟩
 exact qK6 (x:=w) pl.typeIs slot_tuple_getitem.lookup
  (getItem_tuple (j:=j) (Q:=fun r s'=>r=w/\EP X pins σ Q r s') pl (by omega) (by omega) (by rw[qAi,<- hl];exact h1) (by simpa using ew) ⟨rfl,fin⟩) hs
theorem zaQ:IxR X rIxS:=by
 intro value slice pins s σ H x y v u Q I rx ry h hs;obtain⟨z,i,c,rfl,rfl,hz,he,q⟩:=h;obtain⟨t,rfl⟩:=rx;obtain⟨t',rfl⟩:=ry;obtain⟨j,h1,h2,h3,h4,h5⟩:=zMS he;have hl:z.cps.toList.length=z.length:=by simp[Str.length]
 rw[hl]at h1 h4 h5;have hn:=zFP;exact tail_any (typeIs_str s z t) slot_str_getitem.lookup (getItem_str (c:=c) (by
  have e1:decide (i < -(2 ^ 63:Int))=false:=decide_eq_false (by omega);have e2:decide (i>=2 ^ 63)=false:=decide_eq_false (by omega);rw[e1,e2,qHc]) (by rw[h1];simpa using h2) ⟨.str ⟨#[c]⟩,H,I.tok _,⟨_,rfl⟩,q⟩) hs
theorem zOZ(its:List Value)(n j:Nat)(u:Value):qIz (·.setIfInBounds j u) { cls:=.type "list",data:=.seq its.toArray n }={ cls:=.type "list",data:=.seq (its.set j u).toArray n }:=by
 simp[qIz]
theorem Inv.lst{pins:List (Addr×Obj)}{σ:St}{H:Hp}{s:qHx}{p:Addr}{xs:List V}(I:Inv X pins σ H s)(h:H p=some (.lst xs)) :
  ∃(its:List Value)(n:Nat),Vals xs its/\s.heap.get? p=some { cls:=.type "list",data:=.seq its.toArray n }/\xs.length<=sizeLine:=by
 obtain⟨z,its,n,r,e⟩:=I.hok p _ h;exact⟨its,n,r,e,z⟩
theorem Inv.lstUpd{pins:List (Addr×Obj)}{σ:St}{H:Hp}{s:qHx}{p:Addr}{xs ys:List V}{its its':List Value}{n n':Nat}{f:Obj->Obj}(I:Inv X pins σ H s)(h:H p=some (.lst xs))
  (ho:s.heap.get? p=some { cls:=.type "list",data:=.seq its.toArray n }) (hf:f { cls:=.type "list",data:=.seq its.toArray n }={ cls:=.type "list",data:=.seq its'.toArray n' }) (r:Vals ys its') (hz:ys.length<=sizeLine) (t:Nat) :
  Inv X pins σ (upd H p (.lst ys)) { s with heap:=s.heap.update p f,toks:=t }:=by
 have e:(s.heap.update p f).get? p=some { cls:=.type "list",data:=.seq its'.toArray n' }:=by
  rw[qI8 f ho (by rw[hf]<;>rfl),hf]
 refine I.write (x:=p) (e:=p) (by rw[h];trivial) (.inl rfl) (fun b u hb q=>(qI2 _ _ (qC7 hb)).trans q) ⟨_,e⟩ ?_;exact⟨hz,its',n',r,e⟩
def zcA:V->V->V->Hp->(Hp->Prop)->Prop:=fun o i v H Q=>∃p xs k j,o=.ref p/\i=.int k/\H p=some (.lst xs)/\ixN xs.length k=some j/\Q (upd H p (.lst (xs.set j v)))
theorem zSY:PSet X zcA:=by
 intro pins s σ H o i v ov iv u Q I ro ri rv h;obtain⟨p,xs,k,j,rfl,rfl,hp,hj,q⟩:=h;cases ro;obtain⟨t,rfl⟩:=ri;obtain⟨its,n,r,ho,hz⟩:=I.lst hp;obtain⟨h1,h2,h3,h4⟩:=zM4 hj;have hl:=r.length;have hn:=zFP;have I':Inv X pins σ (upd H p (.lst (xs.set j v))) { s with heap:=s.heap.update p (qIz (·.setIfInBounds j u)) }:=
  I.lstUpd hp ho (zOZ its n j u) (r.set rv j) (by rw[qEx];exact hz) s.toks
 by_cases h0:0<=k
 ·have hk:k.toNat=j:=by
   rw[qLk h0 h4]at h1;exact qBc h1
  exact PySem.W.ki_setAt ho h0 (by omega) (by rw[qAi,<- hl];exact h4) (by rw[hk];exact⟨_,I',q⟩)
 ·have hk:(k+(its.toArray.size:Int)).toNat=j:=by
   rw[qLd (by omega) h3]at h1;rw[qAi,<- hl];exact qBc h1
  exact PySem.W.ki_setBack ho (by omega) (by rw[qAi,<- hl];exact h3) (by omega) (by rw[hk];exact⟨_,I',q⟩)
theorem zK0(lo hi:Option Int)(n:Nat):(sliceBounds lo hi none n).1=((HT.sIx n 0 lo:Nat):Int)/\(sliceBounds lo hi none n).2.1=((HT.sIx n n hi:Nat):Int)/\(sliceBounds lo hi none n).2.2=1:=by
 refine⟨?_,?_,rfl⟩
 ·cases lo with
  |none=>simp[sliceBounds,HT.sIx]
  |some i=>
   simp only[sliceBounds,HT.sIx,qG0,show(1:Int)>0 by decide,if_true]
   by_cases h:i<0
   ·simp only[h,if_true]<;>omega
   ·simp only[h,if_false]<;>omega
 ·cases hi with
  |none=>simp[sliceBounds,HT.sIx]
  |some i=>
   simp only[sliceBounds,HT.sIx,qG0,show(1:Int)>0 by decide,if_true]
   by_cases h:i<0
   ·simp only[h,if_true]<;>omega
   ·simp only[h,if_false]<;>omega
theorem zIF(its:List Value)(lo hi:Option Int):slicePick its.toArray lo hi none=((its.drop (HT.sIx its.length 0 lo)).take (HT.sIx its.length its.length hi-HT.sIx its.length 0 lo)).toArray:=by
 obtain⟨h1,h2,h3⟩:=zK0 lo hi its.toArray.size;unfold slicePick;rw[h1,h2,h3];simp only[sliceRange_one,pick_run,qAi]<;>rfl
def rSlL(K:qA1):V->Option Int->Option Int->Hp->VK->Prop:=fun x lo hi H Q=>∃a xs,x=.ref a/\SqL K H a xs/\∀p,H p=none->Q (.ref p) (upd H p (.lst (cutV xs lo hi)))
theorem zWT:SlR X (rSlL X.K):=by
 intro pins s σ H x v vl vu lo hi sl Q I rx hs pl pu h;obtain⟨a,xs,rfl,hx,q⟩:=h;cases rx;obtain⟨its,r,ht,hz⟩:=I.list hx;have hlen:=r.length;refine⟨"list",_,qL7.lookup,ht.isList.typeIs,?_⟩;refine wpAny_getItem_list_slice ht.isList hs pl pu .none (by simp) ?_ (by rw[qAi]<;>omega);rw[zIF,<- hlen];refine⟨.ref s.heap.objs.size,_,I.laid (t':=s.toks) (o:=.lst (cutV xs lo hi)) (fun b ob q=>qHy _ q) (qA7 _) ?_,rfl,q _ (I.hok.fresh (qA7 _))⟩;exact⟨qAr (zMB xs lo hi) hz,_,0,(r.drop (HT.sIx xs.length 0 lo)).take (HT.sIx xs.length xs.length hi-HT.sIx xs.length 0 lo),qI1 _ rfl⟩
noncomputable def zDN:V->Bool
 |.non=>true
 |.bl _=>true
 |.int _=>true
 |.str _=>true
 |_=>false
noncomputable def eqV:V->V->Bool
 |.non,.non=>true
 |.bl a,.bl b=>a==b
 |.bl a,.int b=>(if a then 1 else 0)==b
 |.int a,.bl b=>a==(if b then 1 else 0)
 |.int a,.int b=>a==b
 |.str a,.str b=>a==b
 |_,_=>false
theorem zW2{A:qI4}{s:qHx}{y x:V}{u v:Value}(ry:RelV y u)(rx:RelV x v)(fy:zDN y=true)(fx:zDN x=true):qJi A s u v (eqV y x):=by
 cases y with
 |non=>
  cases ry;cases x with
  |non=>cases rx;exact qJj _
  |bl b=>cases rx;exact qKj b
  |int b=>obtain⟨t,rfl⟩:=rx;exact qKo b t
  |str b=>obtain⟨t,rfl⟩:=rx;exact qKp b t
  |_=>exact absurd (show false=true from fx) qAa
 |bl a=>
  cases ry;cases x with
  |non=>cases rx;exact qKk a
  |bl b=>cases rx;exact qKl a b
  |int b=>obtain⟨t,rfl⟩:=rx;exact qKq a b t
  |str b=>obtain⟨t,rfl⟩:=rx;exact qKr a b t
  |_=>exact absurd (show false=true from fx) qAa
 |int a=>
  obtain⟨t',rfl⟩:=ry;cases x with
  |non=>cases rx;exact qKs a t'
  |bl b=>cases rx;exact qKt a t' b
  |int b=>obtain⟨t,rfl⟩:=rx;exact SeqAt.EqAt.int_int a t' b t
  |str b=>obtain⟨t,rfl⟩:=rx;exact qJp a t' b t
  |_=>exact absurd (show false=true from fx) qAa
 |str a=>
  obtain⟨t',rfl⟩:=ry;cases x with
  |non=>cases rx;exact qKu a t'
  |bl b=>cases rx;exact qKv a t' b
  |int b=>obtain⟨t,rfl⟩:=rx;exact qJq a t' b t
  |str b=>obtain⟨t,rfl⟩:=rx;exact SeqAt.EqAt.str_str a t' b t
  |_=>exact absurd (show false=true from fx) qAa
 |_=>exact absurd (show false=true from fy) qAa
def eqU(x:V)(u:Value):Bool:=match u with
 |.none=>eqV .non x
 |.bool b=>eqV (.bl b) x
 |.int i _=>eqV (.int i) x
 |.str z _=>eqV (.str z) x
 |_=>false
theorem zRQ{x y:V}{u:Value}(r:RelV y u)(f:zDN y=true):eqU x u=eqV y x:=by
 cases y with
 |non=>cases r;rfl
 |bl b=>cases r;rfl
 |int i=>obtain⟨t,rfl⟩:=r;rfl
 |str z=>obtain⟨t,rfl⟩:=r;rfl
 |_=>exact absurd (show false=true from f) qAa
theorem zMT{x:V}:∀{xs:List V}{us:List Value},Vals xs us->xs.all zDN=true->us.any (eqU x)=xs.any fun y=>eqV y x
 |_,_,.nil,_=>rfl
 |y::xs,u::us,.cons r t,f=>by
  rw[qCx,qBf]at f;rw[qCy,qCy,zRQ r f.1,zMT t f.2]
theorem zG7{A:qI4}{s:qHx}{x:V}{v:Value}(rx:RelV x v)(fx:zDN x=true):∀{xs:List V}{us:List Value},Vals xs us->xs.all zDN=true->∀u∈us,qJi A s u v (eqU x u)
 |_,_,.nil,_=>fun u hu=>by cases hu
 |y::xs,u::us,.cons r t,f=>fun u' hu=>by
  rw[qCx,qBf]at f
  rcases qA6.mp hu with rfl|hu
  ·rw[zRQ r f.1];exact zW2 r rx f.1 fx
  ·exact zG7 rx fx t f.2 u' hu
def inV(x:V)(xs:List V):Bool:=xs.any fun y=>eqV y x
def rIn(K:qA1)(neg:Bool):R2:=fun x y H Q=>∃p xs,y=.ref p/\(SqL K H p xs\/SqT K H p xs)/\zDN x=true/\xs.all zDN=true/\Q (.bl (if neg then !inV x xs else inV x xs)) H
theorem zQJ:OpR X (compareOp .In) (rIn X.K false):=by
 intro pins s σ H x y v u Q I rx ry h;obtain⟨p,xs,rfl,hq,fx,fs,q⟩:=h;cases ry
 rcases hq with hq|hq
 ·obtain⟨its,r,pl,hz⟩:=I.list hq;refine SeqAt.in_listAt (eqU x) pl.isList (fun w hw=>zG7 rx fx r fs w (by simpa using hw)) ⟨.bl _,H,I,rfl,?_⟩;rw[show its.toArray.any (eqU x)=its.any (eqU x) by simp,zMT r fs];exact q
 ·obtain⟨its,r,pl,hz⟩:=I.tuple hq;refine SeqAt.in_tupleAt (eqU x) pl (fun w hw=>zG7 rx fx r fs w (by simpa using hw)) ⟨.bl _,H,I,rfl,?_⟩;rw[show its.toArray.any (eqU x)=its.any (eqU x) by simp,zMT r fs];exact q
theorem zL7:zCE X (.builtin "len") (fun xs H Q=>∃p ys,xs=[.ref p]/\(SqL X.K H p ys\/SqT X.K H p ys)/\Q (.int ys.length) H):=by
 intro pins s σ H xs us Q I r h;obtain⟨p,ys,rfl,hq,q⟩:=h;obtain⟨u,rfl,rx⟩:=zF8 r;cases rx;have hn:=zFP
 rcases hq with hq|hq
 ·obtain⟨its,r',pl,hz⟩:=I.list hq;have hlen:=r'.length;exact Calls.call_len_list pl.isList (by simp only[qAi]<;>omega) ⟨.int ys.length,H,I.tok _,⟨s.toks+1,by rw[qAi,hlen]⟩,q⟩
 ·obtain⟨its,r',pl,hz⟩:=I.tuple hq;have hlen:=r'.length;exact len_tuple pl (by simp only[qAi]<;>omega) ⟨.int ys.length,H,I.tok _,⟨s.toks+1,by rw[qAi,hlen]⟩,q⟩
theorem zL6:zCE X (.builtin "len") (fun xs H Q=>∃z,xs=[.str z]/\z.length<=sizeLine/\Q (.int z.length) H):=by
 intro pins s σ H xs us Q I r h;obtain⟨z,rfl,hz,q⟩:=h;obtain⟨u,rfl,t,rfl⟩:=zF8 r;have hn:=zFP;exact len_str (by omega) ⟨.int z.length,H,I.tok _,⟨_,rfl⟩,q⟩
theorem zL5:zCE X (.type "list") (fun xs H Q=>∃p ys,xs=[.ref p]/\(SqL X.K H p ys\/SqT X.K H p ys)/\∀l,H l=none->Q (.ref l) (upd H l (.lst ys))):=by
 intro pins s σ H xs us Q I r h;obtain⟨p,ys,rfl,hq,q⟩:=h;obtain⟨u,rfl,rx⟩:=zF8 r;cases rx;have fin:∀(its:List Value),Vals ys its->ys.length<=sizeLine->∀(h':Heap)(c':Nat),(∀b o',s.heap.get? b=some o'->h'.get? b=some o') ->
   h'.get? s.heap.objs.size=some { cls:=.type "list",dict:=none,data:=.seq its.toArray c',slots:=#[] }->EP X pins σ Q (.ref s.heap.objs.size) { s with heap:=h' }:=fun its r' hz h' c' kp e=>
  ⟨.ref s.heap.objs.size,_,I.laid (t':=s.toks) kp (qA7 _) (show ObjOk X.prog X.w _ h' _ (.lst ys) from⟨hz,its,c',r',e⟩),rfl,q _ (I.hok.fresh (qA7 _))⟩
 rcases hq with hq|hq
 ·obtain⟨its,r',pl,hz⟩:=I.list hq;have hlen:=r'.length;obtain⟨o,ho,hc,n,hd⟩:=pl.isList;exact call_list_seq p (.inl rfl) ho hc hd (fun h' c' kp e=>fin its r' hz h' c' kp e) (by simp only[qAi]<;>omega)
 ·obtain⟨its,r',pl,hz⟩:=I.tuple hq;have hlen:=r'.length;obtain⟨o,ho,hc,n,hd⟩:=pl;exact call_list_seq p (.inr rfl) ho hc hd (fun h' c' kp e=>fin its r' hz h' c' kp e) (by simp only[qAi]<;>omega)
theorem zJI:zCE X (.type "tuple") (fun xs H Q=>∃p ys,xs=[.ref p]/\((SqL X.K H p ys/\∀l,H l=none->Q (.ref l) (upd H l (.tup ys)))\/(SqT X.K H p ys/\Q (.ref p) H))):=by
 intro pins s σ H xs us Q I r h;obtain⟨p,ys,rfl,h⟩:=h;obtain⟨u,rfl,rx⟩:=zF8 r;cases rx
 rcases h with⟨hq,q⟩|⟨hq,q⟩
 ·obtain⟨its,r',pl,hz⟩:=I.list hq;have hlen:=r'.length;refine call_tuple_list pl.isList (fun h' kp=>?_) (by simp only[qAi]<;>omega);have I1:Inv X pins σ H { s with heap:=h' }:=I.kept (t':=s.toks) kp;have I2:Inv X pins σ (upd H h'.objs.size (.tup ys)) { s with heap:=h'.push { cls:=.type "tuple",data:=.seq its.toArray } }:=
   I1.laid (t':=s.toks) (fun b o e=>qHy _ e) (qA7 _) (show ObjOk X.prog X.w _ _ _ (.tup ys) from⟨hz,its,r',IsTup.new _ _⟩)
  exact⟨.ref h'.objs.size,_,I2,rfl,q _ (I1.hok.fresh (qA7 _))⟩
 ·obtain⟨its,r',pl,hz⟩:=I.tuple hq;exact call_tuple_same pl ⟨.ref p,H,I,rfl,q⟩
def tyV(K:qA1)(T:String)(x:V)(H:Hp):Prop:=match x with
 |.str _=>T = "str"
 |.int _=>T = "int"
 |.ref p=>(T = "list"/\∃xs,SqL K H p xs)\/(T = "tuple"/\∃o,K.lookup p=some o/\o.cls=.type "tuple"/\o.dict=none) \/
   (T = "dict"/\((∃kvs,H p=some (.dK kvs))\/∃T e0 kvs,H p=some (.dT T e0 kvs)))\/(T = "set"/\∃S n,H p=some (.set S n))
 |_=>False
theorem zZ0{pins:List (Addr×Obj)}{σ:St}{H:Hp}{s:qHx}{T:String}{x:V}{v:Value}(I:Inv X pins σ H s)(r:RelV x v)(ty:tyV X.K T x H) :
  s.TypeIs v T/\∀a,v=.ref a->∃ob,s.heap.get? a=some ob/\ob.dict=none:=by
 cases x with
 |str z=>
  obtain⟨t,rfl⟩:=r
  cases(show T = "str" from ty)
  exact⟨typeIs_str s z t,fun _ e=>nomatch e⟩
 |int i=>
  obtain⟨t,rfl⟩:=r
  cases(show T = "int" from ty)
  exact⟨typeIs_int s i t,fun _ e=>nomatch e⟩
 |ref p=>
  cases r
  rcases ty with⟨rfl,xs,hq⟩|⟨rfl,o,hk,hc,hd⟩|⟨rfl,hk⟩|⟨rfl,S,n,hk⟩
  ·obtain⟨its,_,pl,_⟩:=I.list hq;refine⟨pl.isList.typeIs,fun a e=>?_⟩;cases e;obtain⟨o,n,e,c,hd,_⟩:=pl;exact⟨o,e,hd⟩
  ·refine⟨⟨o,I.kIn p o hk,hc⟩,fun a e=>?_⟩;cases e;exact⟨o,I.kIn _ o hk,hd⟩
  ·have z:∃o,s.heap.get? p=some o/\o.ExactDict:=by
    rcases hk with⟨kvs,hk⟩|⟨_,_,kvs,hk⟩
    ·obtain⟨_,_,_,_,o,_,_,e,ex,_⟩:=I.hok p _ hk;exact⟨o,e,ex⟩
    ·obtain⟨_,_,_,_,o,_,_,e,ex,_⟩:=I.hok p _ hk;exact⟨o,e,ex⟩
   obtain⟨o,e,ex⟩:=z;refine⟨⟨o,e,ex.1⟩,fun a e2=>?_⟩;cases e2;exact⟨o,e,ex.2.1⟩
  ·obtain⟨o,_,_,_,e,ex,_⟩:=I.hok p _ hk;refine⟨⟨o,e,ex.1⟩,fun a e2=>?_⟩;cases e2;exact⟨o,e,ex.2.1⟩
 |_=>exact qA8 ty
variable{o e:Expr}{es:List Expr}{to:TE}{t:TA}{name:Str}{apos cpos:Pos}{T id:String}{r:V->List V->Hp->VK->Prop}
end
def MtM(X:Cx)(id:String)(r:V->List V->Hp->VK->Prop):Prop:=
 ∀(pins:List (Addr×Obj))(s:qHx)(σ:St)(H:Hp)(x:V)(xs:List V)(v:Value)(us:List Value)(Q:VK),Inv X pins σ H s->RelV x v->Vals xs us->r x xs H Q ->
  wpAny (model X.prog X.w) X.A (call (.builtin id) (v::us)) (EP X pins σ Q) X.xe s
theorem Vals.one:∀{x:V}{us:List Value},Vals [x] us->∃u,us=[u]/\RelV x u
 |_,_,.cons r .nil=>⟨_,rfl,r⟩
theorem Vals.zero:∀{us:List Value},Vals [] us->us=[]
 |_,.nil=>rfl
theorem Vals.dropLast{xs:List V}{us:List Value}(h:Vals xs us):Vals xs.dropLast us.dropLast:=by
 induction h with
 |nil=>exact .nil
 |cons r t ih=>
  cases t with
  |nil=>exact .nil
  |cons q t'=>exact .cons r ih
theorem Vals.eraseIdx:∀{xs:List V}{us:List Value}(i:Nat),Vals xs us->Vals (xs.eraseIdx i) (us.eraseIdx i)
 |_,_,_,.nil=>.nil
 |_,_,0,.cons _ t=>t
 |_,_,i+1,.cons r t=>.cons r (Vals.eraseIdx i t)
theorem Vals.rep{xs:List V}{us:List Value}(h:Vals xs us):∀k:Nat,Vals (qA4 k xs).flatten (qA4 k us).flatten
 |0=>.nil
 |k+1=>by
  rw[qBi,qBi,qBq,qBq];exact Vals.append h (Vals.rep h k)
theorem zP7{α:Type}(l:List α):l.eraseIdx (l.length-1)=l.dropLast:=by
 induction l with
 |nil=>rfl
 |cons a r ih=>
  cases r with
  |nil=>rfl
  |cons b r=>
   have e:(a::b::r).length-1=((b::r).length-1)+1:=by
    have h1:(a::b::r).length=r.length+2:=rfl;have h2:(b::r).length=r.length+1:=rfl;omega
   rw[e,qCz,ih]
   all_goals rfl
theorem len_erase{α:Type}:∀(l:List α)(i:Nat),(l.eraseIdx i).length<=l.length
 |[],_=>qA7 _
 |_::_,0=>qDn _
 |_::r,i+1=>Nat.succ_le_succ (len_erase r i)
theorem zKS(its:List Value):∀(k:Nat)(acc:List Value),
  qH7 (fun x1 x2=>x1++x2) acc.toArray (qA4 k its.toArray)=(acc++(qA4 k its).flatten).toArray
 |0,acc=>by simp
 |k+1,acc=>by
  have e:acc.toArray++its.toArray=(acc++its).toArray:=by simp
  have e2:(acc++its)++(qA4 k its).flatten=acc++(qA4 (k+1) its).flatten:=by
   rw[qBi,qBq,qB2]
  rw[<- e2,<- zKS its k (acc++its),<- e,qBi,qC3]
section
variable{X:Cx}{pins:List (Addr×Obj)}{σ:St}{H:Hp}{s:qHx}{l b:Addr}{xs ys zs:List V}
theorem Inv.lset{its its':List Value}{n:Nat}{f:Array Value->Array Value}{t':Nat}(I:Inv X pins σ H s)(hH:H l=some (.lst xs))
  (e:s.heap.get? l=some { cls:=.type "list",data:=.seq its.toArray n }) (hf:f its.toArray=its'.toArray) (hv:Vals ys its') (hz:ys.length<=sizeLine) :
  Inv X pins σ (upd H l (.lst ys)) { s with heap:=s.heap.update l (qIz f),toks:=t' }:=by
 have q:=PySem.IsL.update e f;rw[hf]at q;refine I.write (x:=l) (e:=l) (by rw[hH];exact trivial) (.inl rfl) (fun b' u hb hu=>(qI2 s.heap (qIz f) (qC7 hb)).trans hu) ⟨_,q⟩ ?_;exact⟨hz,its',_,hv,q⟩
theorem Inv.lnew{its:List Value}{t':Nat}(I:Inv X pins σ H s)(hv:Vals ys its)(hz:ys.length<=sizeLine) :
  Inv X pins σ (upd H s.heap.objs.size (.lst ys)) { s with heap:=s.heap.push { cls:=.type "list",data:=.seq its.toArray },toks:=t' }:=
 I.laid (fun _ _ q=>qHy _ q) (qA7 _) ⟨hz,its,0,hv,qI1 _ rfl⟩
theorem Inv.fresh(I:Inv X pins σ H s):H s.heap.objs.size=none:=I.hok.fresh (qA7 _)
theorem Inv.lstM(I:Inv X pins σ H s)(hH:H l=some (.lst xs)):xs.length<=sizeLine/\∃(its:List Value)(n:Nat),Vals xs its/\xs.length=its.length/\s.heap.get? l=some { cls:=.type "list",data:=.seq its.toArray n }:=by
 obtain⟨z,its,n,r,e⟩:=I.hok l _ hH;exact⟨z,its,n,r,r.length,e⟩
theorem zNM{n:Nat}(h:n<=sizeLine):qIc n=false:=by
 unfold qIc;exact decide_eq_false (by omega)
end
section
variable{X:Cx}
def zX9:V->List V->Hp->VK->Prop:=fun x vs H Q=>∃l xs y,x=.ref l/\vs=[y]/\H l=some (.lst xs)/\xs.length<sizeLine/\Q .non (upd H l (.lst (xs++[y])))
theorem zQV:MtM X "list.append" zX9:=by
 intro pins s σ H x vs v us Q I rx rv h;obtain⟨l,xs,y,rfl,rfl,hH,hz,q⟩:=h;cases rx;obtain⟨u,rfl,ru⟩:=rv.one;obtain⟨z,its,n,r,hl,e⟩:=I.lstM hH;refine call_meets F.slot_list_append ⟨_,e,rfl⟩ F.entry_list_append (F.args_list_append_2 _ _) (PySem.list_append l its.toArray n u (by rw[qAi];omega)) ⟨e,?_⟩;refine⟨.non,_,I.lset (its':=its++[u]) hH e (by simp) (r.append (.cons ru .nil)) ?_,rfl,q⟩;rw[qB4,qEy];omega
def zX7:V->List V->Hp->VK->Prop:=fun x vs H Q=>∃l b xs zs,x=.ref l/\vs=[.ref b]/\H l=some (.lst xs)/\H b=some (.lst zs)/\xs.length+zs.length<=sizeLine/\Q .non (upd H l (.lst (xs++zs)))
theorem zQU:MtM X "list.extend" zX7:=by
 intro pins s σ H x vs v us Q I rx rv h;obtain⟨l,b,xs,zs,rfl,rfl,hH,hB,hz,q⟩:=h;cases rx;obtain⟨u,rfl,ru⟩:=rv.one;cases ru;obtain⟨z,its,n,r,hl,e⟩:=I.lstM hH;obtain⟨z2,its2,n2,r2,hl2,e2⟩:=I.lstM hB;have hsz:its.toArray.size+its2.toArray.size<=sizeLine:=by rw[qAi,qAi];omega
 have hlong:¬(!its.toArray.isEmpty&&qIc (its.toArray.size+its2.toArray.size))=true:=by
  rw[zNM hsz,qCn];exact qAa
 refine call_meets F.slot_list_extend ⟨_,e,rfl⟩ F.entry_list_extend (F.args_list_extend_2 _ _)
  (AutoSeq1.list_extend_list_list_0 l its.toArray n b its2.toArray n2 hlong (by rw[qAi];omega) (by omega)) ⟨e,e2,?_⟩
 refine⟨.non,_,I.lset (its':=its++its2) hH e (by simp) (r.append r2) ?_,rfl,q⟩;rw[qB4];omega
def rPop:V->List V->Hp->VK->Prop:=fun x vs H Q=>∃l xs y,x=.ref l/\vs=[]/\H l=some (.lst xs)/\xs[xs.length-1]?=some y/\Q y (upd H l (.lst xs.dropLast))
theorem zaF:MtM X "list.pop" rPop:=by
 intro pins s σ H x vs v us Q I rx rv h;obtain⟨l,xs,y,rfl,rfl,hH,hy,q⟩:=h;cases rx;have hus:=rv.zero;subst hus;obtain⟨z,its,n,r,hl,e⟩:=I.lstM hH;obtain⟨u,hu,ru⟩:=r.get hy;have hy':its.toArray[its.toArray.size-1]?=some u:=by
  show its.toArray[its.length-1]?=some u;rw[<- qCf,<- hl];exact hu
 refine call_meets qLl ⟨_,e,rfl⟩ qLf (F.args_list_pop_1 _) (MeetsSeq.list_pop_last l its.toArray n u hy' (by rw[qAi];omega)) ⟨e,?_⟩;refine⟨y,_,I.lset (its':=its.dropLast) hH e ?_ r.dropLast ?_,ru,q⟩
 ·show its.toArray.eraseIdxIfInBounds (its.toArray.size-1)=its.dropLast.toArray;rw[qAi,qD3,zP7]
 ·rw[List.length_dropLast];omega
def zZQ:V->List V->Hp->VK->Prop:=fun x vs H Q=>∃l xs i k y,x=.ref l/\vs=[.int i]/\H l=some (.lst xs)/\-(2 ^ 63)<=i/\i<2 ^ 63/\qLj i xs.length=some k/\xs[k]?=some y/\Q y (upd H l (.lst (xs.eraseIdx k)))
theorem zTR:MtM X "list.pop" zZQ:=by
 intro pins s σ H x vs v us Q I rx rv h;obtain⟨l,xs,i,k,y,rfl,rfl,hH,h1,h2,hk,hy,q⟩:=h;cases rx;obtain⟨u,rfl,ru⟩:=rv.one;obtain⟨t,rfl⟩:=ru;obtain⟨z,its,n,r,hl,e⟩:=I.lstM hH;obtain⟨w,hw,rw'⟩:=r.get hy;refine call_meets qLl ⟨_,e,rfl⟩ qLf (F.args_list_pop_2 _ _)
  (MeetsSeq.list_pop_at l its.toArray n i t k w (fitsIndex_both h1 h2) (by rw[qAi,<- hl];exact hk) (by rw[<- qCf];exact hw) (by rw[qAi];omega)) ⟨e,?_⟩
 refine⟨y,_,I.lset (its':=its.eraseIdx k) hH e ?_ (r.eraseIdx k) ?_,rw',q⟩
 ·show its.toArray.eraseIdxIfInBounds k=(its.eraseIdx k).toArray;rw[qD3]
 ·have:=len_erase xs k
  omega
def rCat:R2:=fun x y H Q=>∃l b xs zs,x=.ref l/\y=.ref b/\H l=some (.lst xs)/\H b=some (.lst zs)/\xs.length+zs.length<=sizeLine/\∀p,H p=none->Q (.ref p) (upd H p (.lst (xs++zs)))
theorem za8:OpR X (binaryOp .Add) rCat:=by
 intro pins s σ H x y v u Q I rx ry h;obtain⟨l,b,xs,zs,rfl,rfl,hH,hB,hz,q⟩:=h;cases rx;cases ry;obtain⟨z,its,n,r,hl,e⟩:=I.lstM hH;obtain⟨z2,its2,n2,r2,hl2,e2⟩:=I.lstM hB;refine PySem.P.add_list e e2 ?_ (by rw[qAi,qAi];omega);have ea:its.toArray++its2.toArray=(its++its2).toArray:=by simp
 rw[ea];exact⟨.ref _,_,I.lnew (t':=s.toks) (r.append r2) (by rw[qB4];omega),rfl,q _ I.fresh⟩
def rRep:R2:=fun x y H Q=>∃l k xs,x=.ref l/\y=.int k/\H l=some (.lst xs)/\-(2 ^ 63)<=k/\k<2 ^ 63/\xs.length*k.toNat<=sizeLine /\
 ∀p,H p=none->Q (.ref p) (upd H p (.lst (qA4 k.toNat xs).flatten))
theorem zXZ{α:Type}(xs:List α)(k:Nat):(qA4 k xs).flatten.length=k*xs.length:=by
 induction k with
 |zero=>simp
 |succ k ih=>rw[qBi,qBq,qB4,ih,Nat.succ_mul,Nat.add_comm]
theorem za4:OpR X (binaryOp .Mult) rRep:=by
 intro pins s σ H x y v u Q I rx ry h;obtain⟨l,k,xs,rfl,rfl,hH,h1,h2,hz,q⟩:=h;cases rx;obtain⟨t,rfl⟩:=ry;obtain⟨z,its,n,r,hl,e⟩:=I.lstM hH;have hlen:its.toArray.size*k.toNat<=sizeLine:=by rw[qAi,<- hl];exact hz
 have hcap:¬its.toArray.size*k.toNat>(2 ^ 63-1)/8:=by
  have:(sizeLine:Nat)<=(2 ^ 63-1)/8:=by decide
  omega
 have hfit:¬(!Builtin.List.listFitsIndex k)=true:=by
  rw[fitsIndex_both h1 h2];exact qAa
 have hlong:¬qIc (its.toArray.size*k.toNat)=true:=by
  rw[zNM hlen];exact qAa
 have hnew:qH7 (fun x1 x2=>x1++x2) #[] (qA4 (if its.toArray.isEmpty=true then 0 else k.toNat) its.toArray)=(qA4 k.toNat its).flatten.toArray:=by
  have f0:∀m:Nat,qH7 (fun x1 x2=>x1++x2) #[] (qA4 m its.toArray)=(qA4 m its).flatten.toArray:=fun m=>by
   have:=zKS its m []
   rw[qC4]at this;exact this
  rw[f0];cases its with
  |nil=>simp
  |cons a r'=>rw[if_neg (by simp)]
 refine wpAny_binaryOp_repeat_ref (T:="list") (U:="int") (by decide) ⟨_,e,rfl⟩ (fun s'=>typeIs_int s' k t) noFill_list_mul F.fills_int_mul qLm repeat_list F.slot_int_index.lookup
  (call_meets qLm (typeIs_int s k t) F.entry_int_rmul (F.args_int_rmul_2 _ _) (int___rmul___int_list k t l its.toArray n)
   ⟨e,rfl,⟨_,e,rfl⟩,call_meets F.slot_list_mul ⟨_,e,rfl⟩ F.entry_list_mul (F.args_list_mul_2 _ _) (AutoListH.list___mul___list_int_3 l its.toArray n k t hfit hcap hlong) ⟨e,?_⟩⟩)
 rw[hnew];exact⟨.ref _,_,I.lnew (t':=s.toks) (r.rep k.toNat) (by rw[zXZ,qD8];exact hz),rfl,q _ I.fresh⟩
end
section
variable{prog:qI0}{w:World}{A:qI4}{E:Value->qHx->Prop}{s:qHx}
end
section
variable{X:Cx}
end
section
variable{κ:Type}[DecidableEq κ]
noncomputable def valV(kvs:List (κ×V))(k:κ):Option V:=(kvs.find? fun kv=>decide (kv.1=k)).map (·.2)
noncomputable def putK(kvs:List (κ×V))(k:κ)(v:V):List (κ×V):=
 if(kvs.any fun kv=>decide (kv.1=k))=true then kvs.map (fun kv=>if kv.1=k then(kv.1,v)else kv)else kvs++[(k,v)]
noncomputable def zbA(kvs:List (κ×V))(k:κ):List (κ×V):=kvs.filter fun kv=>decide (kv.1≠k)
theorem zI9{p:κ×V}{r:List (κ×V)}{k:κ}(e:p.1=k):valV (p::r) k=some p.2:=by simp[valV,qC5,e]
theorem zIA{p:κ×V}{r:List (κ×V)}{k:κ}(e:¬p.1=k):valV (p::r) k=valV r k:=by simp[valV,qC5,e]
theorem zMW(k:κ):∀kvs:List (κ×V),(kvs.any fun kv=>decide (kv.1=k))=(valV kvs k).isSome
 |[]=>rfl
 |p::r=>by
  rw[qCy]
  by_cases e:p.1=k
  ·simp only[zI9 e,decide_eq_true e,Bool.true_or,qDv]
  ·rw[zIA e,decide_eq_false e,Bool.false_or];exact zMW k r
theorem zGU(kvs:List (κ×V))(k:κ)(v:V):(putK kvs k v).length<=kvs.length+1:=by
 unfold putK
 split
 ·rw[qAm];omega
 ·rw[qB4,qAx,List.length_nil];omega
theorem RelO.isSome_eq{o:Option V}{u:Option Value}(r:RelO o u):o.isSome=u.isSome:=by
 cases o with
 |none=>cases u with
  |none=>rfl
  |some _=>exact(show False from r).elim
 |some _=>cases u with
  |none=>exact(show False from r).elim
  |some _=>rfl
theorem RelO.getD{o:Option V}{u:Option Value}{d:V}{d':Value}(r:RelO o u)(rd:RelV d d'):RelV (o.getD d) (u.getD d'):=by
 cases o with
 |none=>cases u with
  |none=>exact rd
  |some _=>exact(show False from r).elim
 |some _=>cases u with
  |none=>exact(show False from r).elim
  |some _=>exact r
theorem KV.val{kvs:List (κ×V)}{vs:List (κ×Value)}(r:KV kvs vs)(k:κ):RelO (valV kvs k) (valueAt vs k):=by
 unfold KV at r
 induction r with
 |nil=>exact qFq
 |@cons p q ps qs h t ih=>
  obtain⟨h1,h2⟩:=h
  by_cases e:p.1=k
  ·have e':q.1=k:=h1.symm.trans e;have b:valueAt (q::qs) k=some q.2:=by simp[valueAt,qC5,e']
   rw[zI9 e,b];exact h2
  ·have e':¬q.1=k:=fun z=>e (h1.trans z)
   have b:valueAt (q::qs) k=valueAt qs k:=by simp[valueAt,qC5,e']
   rw[zIA e,b];exact ih
theorem KV.drop{kvs:List (κ×V)}{vs:List (κ×Value)}(r:KV kvs vs)(k:κ):KV (zbA kvs k) (without vs k):=by
 unfold KV at r ⊢;unfold zbA without
 induction r with
 |nil=>exact .nil
 |@cons p q ps qs h t ih=>
  obtain⟨h1,h2⟩:=h;rw[qEl,qEl]
  by_cases e:p.1=k
  ·have a:¬decide (p.1≠k)=true:=by simp[e]
   have b:¬decide (q.1≠k)=true:=by simp[h1.symm.trans e]
   rw[if_neg a,if_neg b];exact ih
  ·have e':¬q.1=k:=fun z=>e (h1.trans z)
   have a:decide (p.1≠k)=true:=by simp[e]
   have b:decide (q.1≠k)=true:=by simp[e']
   rw[if_pos a,if_pos b];exact .cons ⟨h1,h2⟩ ih
end
theorem zaJ{P:qI0}{w:World}{k:Key}{u:Value}(r:RelV (kV k) u):(zEG P w).is k u=true:=by
 cases k with
 |inl i=>obtain⟨t,e⟩:=(show ∃t,u=qKa i t from r);subst e;exact zLX P w i t
 |inr x=>obtain⟨t,e⟩:=(show ∃t,u=qKb x t from r);subst e;exact zLW P w x t
theorem zbY{P:qI0}{w:World}{v:V}{k:KeyN}{u:Value}(e:vN v=some k)(r:RelV v u):(mixN P w).is k u=true:=by
 cases v with
 |non=>cases e;cases(show u=qI7 from r);rfl
 |bl b=>cases e;cases(show u=qL2 b from r);exact zR6 b
 |int i=>cases e;obtain⟨t,z⟩:=(show ∃t,u=qKa i t from r);subst z;exact zP3 i t
 |str x=>cases e;obtain⟨t,z⟩:=(show ∃t,u=qKb x t from r);subst z;exact zP2 x t
 |_=>exact nomatch e
theorem zR9{P:qI0}{w:World}{vs:List V}{ks:List KeyN}(q:KsOf vs ks):∀{us:List Value},Vals vs us->ItemsAre (mixN P w) ks us:=by
 induction q with
 |nil=>intro us r;cases r;exact .nil
 |cons h t ih=>
  intro us r;cases r with
  |cons h' t'=>exact .cons (zbY h h') (ih t')
abbrev KT(H:Hp)(T:Addr->Prop):List (List KeyN×V)->List (List KeyN×Addr×Value)->Prop:=qK3 fun p q=>p.1=q.1/\(TupK H q.2.1 p.1/\T q.2.1)/\RelV p.2 q.2.2
theorem KT.val{H:Hp}{T:Addr->Prop}{kvs:List (List KeyN×V)}{xs:List (List KeyN×Addr×Value)}(r:KT H T kvs xs)(k:List KeyN):RelO (valV kvs k) ((atKey xs k).map (·.2)):=by
 induction r with
 |nil=>exact qFq
 |@cons p q ps qs h t ih=>
  obtain⟨h1,_,h2⟩:=h
  by_cases e:p.1=k
  ·have e':q.1=k:=h1.symm.trans e;have b:atKey (q::qs) k=some q.2:=by simp[atKey,qC5,e']
   rw[zI9 e,b];exact h2
  ·have e':¬q.1=k:=fun z=>e (h1.trans z)
   have b:atKey (q::qs) k=atKey qs k:=by simp[atKey,qC5,e']
   rw[zIA e,b];exact ih
theorem KT.repl{H:Hp}{T:Addr->Prop}{kvs:List (List KeyN×V)}{xs:List (List KeyN×Addr×Value)}(r:KT H T kvs xs)(k:List KeyN){y:V}{u:Value}(ry:RelV y u) :
  KT H T (kvs.map fun kv=>if kv.1=k then(kv.1,y)else kv) (xs.map (putAt k u)):=by
 induction r with
 |nil=>exact .nil
 |@cons p q ps qs h t ih=>
  rw[qAg,qAg];refine .cons ?_ ih;obtain⟨h1,h2,h3⟩:=h;unfold putAt
  by_cases e:p.1=k
  ·rw[if_pos e,if_pos (h1.symm.trans e)];exact⟨h1,h2,ry⟩
  ·rw[if_neg e,if_neg (fun z=>e (h1.trans z))];exact⟨h1,h2,h3⟩
theorem KT.wk{H:Hp}{T T':Addr->Prop}{kvs:List (List KeyN×V)}{xs:List (List KeyN×Addr×Value)}(r:KT H T kvs xs)(h:∀c,T c->T' c):KT H T' kvs xs:=qK3.mapP r fun _ _ z=>⟨z.1,⟨z.2.1.1,h _ z.2.1.2⟩,z.2.2⟩
theorem KT.put{H:Hp}{T:Addr->Prop}{kvs:List (List KeyN×V)}{xs:List (List KeyN×Addr×Value)}(r:KT H T kvs xs)(k:List KeyN){b:Addr}{y:V}{u:Value}(hb:TupK H b k)(ry:RelV y u) :
  KT H (fun c=>T c\/c=b) (putK kvs k y) (storedH xs k b u):=by
 have e:(kvs.any fun kv=>decide (kv.1=k))=(atKey xs k).isSome:=by
  rw[zMW,(r.val k).isSome_eq,Option.isSome_map]
 unfold putK storedH;rw[e]
 by_cases q:(atKey xs k).isSome=true
 ·rw[if_pos q,if_pos q];exact(r.repl k ry).wk fun _ z=>.inl z
 ·rw[if_neg q,if_neg q];exact Paired.snoc (KT.wk (T':=fun c=>T c\/c=b) r fun _ z=>qHo z) ⟨rfl,⟨hb,qHp rfl⟩,ry⟩
theorem KT.keeps{H H':Hp}{T:Addr->Prop}{kvs:List (List KeyN×V)}{xs:List (List KeyN×Addr×Value)}(r:KT H T kvs xs)(ht:∀b ys,H b=some (.tup ys)->H' b=some (.tup ys)):KT H' T kvs xs:=
 qK3.mapP r fun _ _ z=>⟨z.1,⟨z.2.1.1.keeps ht,z.2.1.2⟩,z.2.2⟩
section
variable{P:qI0}{w:World}{H:Hp}{h:Heap}{a:Addr}
theorem zZJ{u:HO}(ok:HOk P w H h)(e:Rd H a u):ObjOk P w H h a u:=e.ok ok
theorem zUF{kvs:List (Key×V)}(ok:HOk P w H h)(e:Rd H a (.dK kvs)):kvs.length<=sizeLine/\(a==qIs)=false/\∃vs,KV kvs vs/\h.DictOf (zEG P w) a vs:=
 show ObjOk P w H h a (.dK kvs) from zZJ ok e
theorem zKL{ks:List KeyN}(ok:HOk P w H h)(e:TupK H a ks):(tupleKind (mixN P w)).is h ks a:=by
 obtain⟨vs,e,q⟩:=e;obtain⟨_,its,r,o,h1,h2,n,h3⟩:=(show ObjOk P w H h a (.tup vs) from ok a _ e)
 exact⟨o,its.toArray,n,h1,h2,h3,by simpa using zR9 q r⟩
theorem zRR{T:Addr->Prop}{e0:Nat}{kvs:List (List KeyN×V)}(ok:HOk P w H h)(e:Rd H a (.dT T e0 kvs)):kvs.length<=sizeLine/\(a==qIs)=false /\
  ∃xs,KT H T kvs xs/\h.DictOfH (tupleKind (mixN P w)) a xs:=by
 obtain⟨z,y,xs,r,o,es,ep,h1,h2,h3,h4,h5⟩:=(show ObjOk P w H h a (.dT T e0 kvs) from zZJ ok e)
 refine⟨z,y,xs,r,o,es,ep,h1,h2,h3,h4,fun x hx=>?_,h5.1⟩;have all:∀{l:List (List KeyN×V)}{m:List (List KeyN×Addr×Value)},KT H T l m->∀x∈m,(tupleKind (mixN P w)).is h x.1 x.2.1:=by
  intro l m q
  induction q with
  |nil=>intro x hx;exact nomatch hx
  |@cons p q ps qs hq t ih=>
   intro x hx
   rcases qA6.mp hx with e|hx
   ·subst e;exact zKL ok (by rw[<- hq.1];exact hq.2.1.1)
   ·exact ih x hx
 exact all r x hx
theorem zb7{T:Addr->Prop}{e0:Nat}{kvs:List (List KeyN×V)}(ok:HOk P w H h)(e:H a=some (.dT T e0 kvs)):kvs.length<=sizeLine/\(a==qIs)=false /\
  ∃xs,KT H T kvs xs/\h.DictOfH (tupleKind (mixN P w)) a xs:=zRR ok (.inl e)
end
def DGet(H:Hp)(a:Addr)(y:V)(r:Option V):Prop:=
 (∃kvs k,Rd H a (.dK kvs)/\y=kV k/\r=valV kvs k)\/∃T e0 kvs k b,Rd H a (.dT T e0 kvs)/\y=.ref b/\TupK H b k/\r=valV kvs k
theorem DGet.t{H:Hp}{a b:Addr}{T:Addr->Prop}{e0:Nat}{kvs:List (List KeyN×V)}{k:List KeyN}(e:H a=some (.dT T e0 kvs))(eb:TupK H b k):DGet H a (.ref b) (valV kvs k):=.inr ⟨T,e0,kvs,k,b,.inl e,rfl,eb,rfl⟩
section
variable{X:Cx}{pins:List (Addr×Obj)}{σ:St}{H:Hp}{s:qHx}{a:Addr}{y v:V}{u r:Value}{o:Option V}{A:qI4}{E:Value->qHx->Prop}
theorem Inv.big(I:Inv X pins σ H s):qIs<s.heap.objs.size:=by
 have h:qI3<s.heap.objs.size:=(I.mod.glob.keeps I.bk).lt;exact Nat.lt_trans (by decide) h
theorem zS3{Q:Value->qHx->Prop}(hu:A.units+1<cLine)(I:Inv X pins σ H s)(g:DGet H a y (some v))(ry:RelV y u)(h:∀w' s',Inv X pins σ H s'->RelV v w'->Q w' s') :
  wpAny (model X.prog X.w) A (getItem (.ref a) u) Q E s:=by
 rcases g with⟨kvs,k,e,ey,l⟩|⟨T,e0,kvs,k,b,e,ey,eb,l⟩
 ·subst ey;obtain⟨z,hd,vs,rel,dd⟩:=zUF I.hok e;obtain⟨w',hw,rw'⟩:=RelO.some_of (v:=v) (o:=valueAt vs k) (by rw[l];exact rel.val k);exact wpAny_getItem_of (zaJ ry) dd.mapOf hw (h w' _ (I.tok _) rw')
 ·subst ey
  cases(show u=qI5 b from ry)
  obtain⟨z,hd,xs,rel,dd⟩:=zRR I.hok e;obtain⟨w',hw,rw'⟩:=RelO.some_of (v:=v) (o:=(atKey xs k).map (·.2)) (by rw[l];exact rel.val k);obtain⟨p,hp,hp2⟩:=qD2.mp hw;refine wpAny_getItem_heap (tupleKind_room_in1 hu) (zKL I.hok eb) dd hp ?_;rw[hp2];exact h w' _ (I.tok _) rw'
theorem zS2{h':Heap}{t':Nat}{ob:HO}(I:Inv X pins σ H s)(mu:Mut (H a))(hs:qJ9 a s.heap h')(he:∃q,h'.get? a=some q)(new:ObjOk X.prog X.w (upd H a ob) h' a ob) :
  Inv X pins σ (upd H a ob) { s with heap:=h',toks:=t' }:=
 I.write (x:=a) (e:=a) mu (.inl rfl) (fun b q hb z=>(hs.2 b hb).trans z) he new
end
section
variable{X:Cx}{pins:List (Addr×Obj)}{σ:St}{H:Hp}{s:qHx}{a:Addr}{kvs:List (Key×V)}{k:Key}{u:Value}{A:qI4}{E:Value->qHx->Prop}
end
def NoSl(i:Expr):Prop:=∀ov iv,subscripted i false ov iv=operate [ov,iv] (getItem ov iv)
theorem zWQ{prog:qI0}{w:World}{A:qI4}{E:Value->qHx->Prop}{s:qHx}{env:Env}{value slice:Expr}{pos:Pos}{T id:String}{Q:Value->qHx->Prop}
  (hl:typeLookup (.type T) "__getitem__" = pure (some (.builtin id))) (hs:NoSl slice)
  (h:wpAny (model prog w) A (eval value env) (fun o s₁=>wpAny (model prog w) A (eval slice env) (fun i s₂=>s₂.TypeIs o T/\wpAny (model prog w) A (getItem o i) Q E s₂) E s₁) E s) :
  wpAny (model prog w) A (eval (.Subscript value slice pos) env) Q E s:=by
 refine qLr (wpAny_mono h (fun o s₁ h₁=>wpAny_mono h₁ (fun i s₂ h₂=>?_) fun _ _ x=>x) fun _ _ x=>x);obtain⟨hT,h₂⟩:=h₂;unfold subscriptTail;refine wpAny_bind ?_;rw[getitemInPython_of_ne hT.not_modules];refine wpAny_bind (wpAny_specialOf hT hl ?_);have fin:wpAny (model prog w) A (subscripted slice false o i) (fun r s₃=>wpAny (model prog w) A (letTemporaryGo value o r >>= fun _=>pure r) Q E s₃) E s₂:=by
  rw[hs o i];exact wpAny_operating (wpAny_mono h₂ (fun r s₃ h₃=>wpAny_bind (wpAny_letTemporaryGo (wpAny_pure h₃))) fun _ _ x=>x)
 first
  |exact wpAny_pure (wpAny_bind fin)
  |exact wpAny_bind (wpAny_pure (wpAny_bind fin))
  |exact wpAny_bind fin
theorem zM8{X:Cx}{pins:List (Addr×Obj)}{σ:St}{H:Hp}{s:qHx}{a:Addr}{y:V}{o:Option V}(I:Inv X pins σ H s)(g:DGet H a y o):s.TypeIs (.ref a) "dict":=by
 rcases g with⟨kvs,k,e,_,_⟩|⟨T,e0,kvs,k,b,e,_,_,_⟩
 ·obtain⟨_,_,vs,_,dd⟩:=zUF I.hok e;exact dd.typeIs
 ·obtain⟨_,_,xs,_,dd⟩:=zRR I.hok e;exact dd.typeIs
noncomputable def zPU(td ty:TE):TE:=fun σ H Q=>td σ H fun x H1=>ty σ H1 fun y H2=>∃a v,x=.ref a/\DGet H2 a y (some v)/\Q v H2
noncomputable def tDIn(ty td:TE):TE:=fun σ H Q=>ty σ H fun y H1=>td σ H1 fun x H2=>∃a o,x=.ref a/\DGet H2 a y o/\Q (.bl o.isSome) H2
section
variable{X:Cx}{o i e value:Expr}{pos pos' tpos:Pos}{td ty tv:TE}
theorem zQF(hu:X.A.units+1<cLine)(ho:PE X o td)(hi:PE X i ty)(hs:NoSl i):PE X (.Subscript o i pos) (zPU td ty):=by
 intro pins s σ H Q I h;refine zWQ PySem.F.slot_dict_getitem.lookup hs (thn (ho pins s σ H _ I h) fun u s1 ⟨x,H1,I1,rx,q1⟩=>thn (hi pins s1 σ H1 _ I1 q1) fun iv s2 ⟨y,H2,I2,ry,a,v,ex,g,q2⟩=>?_);subst ex;obtain rfl:u=qI5 a:=rx;exact⟨zM8 I2 g,zS3 hu I2 g ry fun w' s3 I3 rw'=>⟨v,H2,I3,rw',q2⟩⟩
end
theorem zNX{P:qI0}{w:World}{H:Hp}(h:Heap)(hb:qIs<h.objs.size):ObjOk P w H (h.push { cls:=.type "dict",data:=.dict #[] }) h.objs.size (.dT (fun _=>False) 0 []):=
 ⟨qAs _,beq_eq_false_iff_ne.mpr (qC7 (qAu hb)),[],.nil,_,#[],0,qI1 _ rfl,⟨rfl,rfl,rfl⟩,rfl,rfl,qGs,rfl⟩
def zUY:TE:=fun _ H Q=>∀p,H p=none->Q (.ref p) (upd H p (.dT (fun _=>False) 0 []))
section
variable{X:Cx}{pos:Pos}
theorem zTI:PE X (.Dict [] [] pos) zUY:=fun pins s σ H Q I h=>
 wpAny_Dict_empty ⟨.ref s.heap.objs.size,_,I.laid (a:=s.heap.objs.size) (o:=.dT (fun _=>False) 0 []) (t':=s.toks) (fun _ _ q=>qHy _ q) (qA7 _) (zNX s.heap I.big),rfl,h _ (I.hok.fresh (qA7 _))⟩
end
noncomputable def zPS:List (TE×TE)->St->Hp->(List (V×V)->Hp->Prop)->Prop
 |[],_,H,Q=>Q [] H
 |(tk,tv)::r,σ,H,Q=>tk σ H fun x H1=>tv σ H1 fun y H2=>zPS r σ H2 fun ps H3=>Q ((x,y)::ps) H3
abbrev VV:List (V×V)->List (Value×Value)->Prop:=qK3 fun p q=>RelV p.1 q.1/\RelV p.2 q.2
def PPs(X:Cx)(pos:Pos)(keys:List (Option Expr))(values:List Expr)(trs:List (TE×TE)):Prop:=
 ∀(pins:List (Addr×Obj))(s:qHx)(σ:St)(H:Hp)(Q:List (V×V)->Hp->Prop),Inv X pins σ H s->zPS trs σ H Q ->
  wpAny (model X.prog X.w) X.A (evalPairs (pairTrees keys values X.env pos)) (fun vs s'=>∃ps H',Inv X pins σ H' s'/\VV ps vs/\Q ps H') X.xe s
theorem zXE{X:Cx}{pos:Pos}:PPs X pos [] [] []:=fun pins s σ H Q I h=>pairTrees_nil_walk ⟨[],H,I,.nil,h⟩
theorem zTG{X:Cx}{pos:Pos}{k v:Expr}{ks:List (Option Expr)}{vs:List Expr}{tk tv:TE}{trs:List (TE×TE)}(hk:PE X k tk)(hv:PE X v tv)(hr:PPs X pos ks vs trs) :
  PPs X pos (some k::ks) (v::vs) ((tk,tv)::trs):=fun pins s σ H Q I h=>
 pairTrees_cons_walk (thn (hk pins s σ H _ I h) fun u s1 ⟨x,H1,I1,rx,q1⟩=>thn (hv pins s1 σ H1 _ I1 q1) fun w2 s2 ⟨y,H2,I2,ry,q2⟩=>
  thn (hr pins s2 σ H2 _ I2 q2) fun ws s3 ⟨ps,H3,I3,rel,q3⟩=>⟨(x,y)::ps,H3,I3,.cons ⟨rx,ry⟩ rel,q3⟩)
structure M2(X:Cx)(o:Expr)(m:Str)(apos:Pos)(e f:Expr)(cpos:Pos):Prop where
 base:attributeBase o m X.env (eval o X.env)=eval o X.env
 few:((backTo cpos (starEach [e,f] X.env)).all (fun x=>!x.1)&&(backToKw cpos (keywordEach [] X.env)).all (fun x=>x.1.isSome)
  && decide (([e,f]:List Expr).length+([]:List qLv).length+(if([]:List qLv).isEmpty then 0 else 1)<30))=true
 line:(apos.endLine==cpos.line)=true
 trees:backTo cpos (starEach [e,f] X.env)=[(false,eval e X.env),(false,eval f X.env)]
def IsD(H:Hp)(a:Addr):Prop:=(∃kvs,Rd H a (.dK kvs))\/∃T e0 kvs,Rd H a (.dT T e0 kvs)
theorem zaW{X:Cx}{pins:List (Addr×Obj)}{σ:St}{H:Hp}{s:qHx}{a:Addr}(I:Inv X pins σ H s)(d:IsD H a) :
  s.TypeIs (.ref a) "dict"/\(∀b,qI5 a=.ref b->∃ob,s.heap.get? b=some ob/\ob.dict=none)/\(a==qIs)=false:=by
 rcases d with⟨kvs,e⟩|⟨_,_,kvs,e⟩
 ·obtain⟨_,hd,vs,_,dd⟩:=zUF I.hok e;refine⟨dd.typeIs,fun b q=>?_,hd⟩;cases q;obtain⟨ob,_,_,h1,h2,_⟩:=dd;exact⟨ob,h1,h2.2.1⟩
 ·obtain⟨_,hd,xs,_,dd⟩:=zRR I.hok e;refine⟨dd.typeIs,fun b q=>?_,hd⟩;cases q;obtain⟨ob,_,_,h1,h2,_⟩:=dd;exact⟨ob,h1,h2.2.1⟩
section
variable{X:Cx}{pins:List (Addr×Obj)}{σ:St}{H:Hp}{s:qHx}{a:Addr}{y d:V}{u r:Value}{o:Option V}{A:qI4}{E:Value->qHx->Prop}
theorem zbJ{Q:Value->qHx->Prop}(hu:A.units+1<cLine)(I:Inv X pins σ H s)(g:DGet H a y o)(ry:RelV y u)(rd:RelV d r)(h:∀w' s',Inv X pins σ H s'->RelV (o.getD d) w'->Q w' s') :
  wpAny (model X.prog X.w) A (call (.builtin "dict.get") [.ref a,u,r]) Q E s:=by
 rcases g with⟨kvs,k,e,ey,l⟩|⟨T,e0,kvs,k,b,e,ey,eb,l⟩
 ·subst ey;obtain⟨z,hd,vs,rel,dd⟩:=zUF I.hok e;refine call_meetsIn qD9 dd.typeIs qEs (qEc _ _ _) (meets_dict_get_default (zEG X.prog X.w) a (zaJ ry) hd r) ⟨_,dd.mapOf,h _ _ (I.tok _) ?_⟩;rw[l];exact(rel.val k).getD rd
 ·subst ey
  cases(show u=qI5 b from ry)
  obtain⟨z,hd,xs,rel,dd⟩:=zRR I.hok e;refine call_meetsIn qD9 dd.typeIs qEs (qEc _ _ _) (meetsH_dict_get_default (tupleKind (mixN X.prog X.w)) a b hd r) ⟨tupleKind_room_in1 hu,k,xs,zKL I.hok eb,dd,h _ _ (I.tok _) ?_⟩;rw[l];exact(rel.val k).getD rd
end
noncomputable def zUZ(td ty tx:TE):TE:=fun σ H Q=>td σ H fun x H1=>∃a,x=.ref a/\IsD H1 a/\ty σ H1 fun y H2=>tx σ H2 fun z H3=>∃o,DGet H3 a y o/\Q (o.getD z) H3
section
variable{X:Cx}{o e f:Expr}{apos cpos:Pos}{td ty tx:TE}
theorem zTK(hu:X.A.units+1<cLine)(ho:PE X o td)(he:PE X e ty)(hf:PE X f tx)(m:M2 X o "get" apos e f cpos):PE X (.Call (.Attribute o "get" apos) [e,f] [] cpos) (zUZ td ty tx):=by
 intro pins s σ H Q I h;refine wpAny_Call_method m.base m.few m.line PySem.F.plainAttrs_dict qD9 PySem.F.type_dict_get (thn (ho pins s σ H _ I h) fun u s1 z0=>?_);obtain⟨x,H1,I1,rx,a,ex,d,q1⟩:=z0;subst ex;obtain rfl:u=qI5 a:=rx;obtain⟨t1,t2,_⟩:=zaW I1 d;refine⟨t1,t2,?_⟩;rw[m.trees];refine qK7 rfl (qKm (qJr (thn (he pins s1 σ H1 _ I1 q1) fun iv s2 ⟨y,H2,I2,ry,q2⟩=>
  qJr (thn (hf pins s2 σ H2 _ I2 q2) fun fv s3 ⟨z,H3,I3,rz,ov,g,q3⟩=>qL5 ?_))))
 exact zbJ hu I3 g ry rz fun w' s4 I4 rw'=>⟨_,H3,I4,rw',q3⟩
end
section
variable{X:Cx}{pins:List (Addr×Obj)}{σ:St}{H:Hp}{s:qHx}{a:Addr}{kvs:List (Key×V)}{A:qI4}{E:Value->qHx->Prop}
end
section
variable{X:Cx}{pins:List (Addr×Obj)}{σ:St}{H:Hp}{s:qHx}{a:Addr}{y:V}{u:Value}{A:qI4}{E:Value->qHx->Prop}
end
end L2
namespace Att
open PySem PySem.W PySem.Calls PyProof.Rows
theorem zH3{P:Params}{h:Heap}:∀(ns:List Int)(vs:List Value),WellAll P h vs (ns.map qLn)->qKw vs ns:=by
 intro ns
 induction ns with
 |nil=>
  intro vs w;rw[qEz]at w;cases w;exact .nil
 |cons n ns ih=>
  intro vs w;rw[qAg]at w;cases w with
  |cons a b=>
   cases a;exact .cons _ _ (ih _ b)
theorem zPY{l:OpenLaw}{n:Nat}(hn:l.most=some n){P:Params}{h:Heap}{args:List WData}{vals:List Value}
  (hpre:l.row.toRowW.claim.pre args=true) (hwl:WellAll P h vals args) :
  ∃a vs ns,vals=[qI5 a]/\args=[WData.list (ns.map qLn)]/\h.get? a=some { cls:=.type "list",data:=.seq vs.toArray }/\qKw vs ns/\ns.length<=n:=by
 have hsh:WShape.hasAll [] args [.list .int]=true:=(pre_splitW hpre).1;have hc:l.pre.holds [] { args:=args }=true:=(pre_splitW hpre).2;obtain⟨d,r,rfl,h1,h2⟩:=hasAllW_cons hsh;obtain rfl:=hasAllW_nil h2;obtain⟨xs,rfl,h3⟩:=hasW_list h1;obtain⟨ns,rfl⟩:=items_int h3;have hlen:ns.length<=n:=by
  unfold OpenLaw.pre at hc;have h4:(WTm.not (.lt (.lit (.int (n:Int))) (.len (.arg 0)))).holds [] { args:=[.list (ns.map .int)] }=true:=by
   have h4:=(holds_andW hc).1;rw[hn]at h4;exact h4
  have h5:=condW_of h4 (w_not (w_lt w_lit (w_len_list (w_arg rfl))));rw[qAm]at h5;refine Nat.le_of_not_lt fun q=>?_
  have q':(n:Int)<((ns.length:Nat):Int):=by omega
  first
   |(rw[decide_eq_true q']at h5;exact absurd h5 (by decide))
   |(simp at h5;omega)
 cases hwl with
 |cons w1 w2=>
  cases w2;cases w1 with
  |list ho hall=>exact⟨_,_,ns,rfl,rfl,ho,zH3 ns _ hall,hlen⟩
theorem zQ9(l:OpenLaw)(args:List WData):l.row.toRowW.claim.post args (.bool true) args=true:=
 postW_of (r:=l.row.toRowW) (X:=(true==true))
  (show qM2 [] (.bool true) .bool=true by first|rfl|decide|simp[qM2,WShape.arms,WShape.armsAll])
  (show(WTm.eq .res (.lit (.bool true))).value [] { args:=args,res:=some (.bool true),after:=args }=some (.bool (true==true)) from w_eq_bool (w_res rfl) w_lit) rfl
section
variable{prog:qI0}{w:World}{A:qI4}{E:Value->qHx->Prop}{s:qHx}{K:Frag}
end
end Att
namespace L2
open PySem PySem.Spec PyProof.Rows
theorem zJV:∀{vs:List Value}{ns:List Int},qKw vs ns->Vals (ns.map V.int) vs
 |_,_,.nil=>.nil
 |_,_,.cons n t h=>.cons ⟨t,rfl⟩ (zJV h)
abbrev KOf{K:qA1}{h:Heap}(_:K.In h):qA1:=K
noncomputable def zAW(s:Stmt):Arguments:=match s with
 |.FunctionDef _ a _ _ _ _ _ _ _ _=>a
 |_=>{ posonlyargs:=[],args:=[],vararg:=none,kwonlyargs:=[],kw_defaults:=[],kwarg:=none,defaults:=[] }
noncomputable def zAX(s:Stmt):List Stmt:=match s with
 |.FunctionDef _ _ b _ _ _ _ _ _ _=>b
 |_=>[]
noncomputable def zA3(s:Stmt):Scope:=match s with
 |.FunctionDef _ _ _ _ _ _ sc _ _ _=>sc
 |_=>{ kind:=.function,names:=[],isGenerator:=false,isCoroutine:=false }
abbrev CX0:CXT:=fun _ _ _ _ _ _=>False
abbrev E0:XK:=fun _ _ _=>False
theorem zcD{X:Cx}:zOG CX0 X E0:=fun _ _ _ _ _ _ _ h=>h.elim
structure Fun(K:qA1)(x qual:Str)(st:Stmt)(f:Addr)(fd:qIe):Prop where
 ex:∃(oc:Value)(od:Option Addr)(kV doc pm:Value)(an:Option Addr)(cdv ct:Value)(osl:Array (Option Value)),
  fd=qBb x qual (zAW st) (zAX st) (zA3 st) .none kV doc pm an cdv ct/\K.lookup f=some ⟨oc,od,.func fd,osl⟩/\qCb K cdv qual=true
 kp:qB9 K (.ref f)=true
section
variable{P:qI0}{w:World}{K:qA1}{mg:Str->Option Value}{base:Heap}
theorem Fun.ok{x qual:Str}{st:Stmt}{f:Addr}{fd:qIe}{N ps:List Str}{k:Nat}{sp:Sp}(F:Fun K x qual st f fd)(S:FnScope N ps (zA3 st))(len:∀vs H Q E,sp vs H Q E->vs.length=ps.length)
  (hbody:∀(cdv:Value)(A:qI4)(outer:List Env)(s:qHx)(H:Hp)(vs:List V)(Q:VK)(E:XK),Room k (A.deeper (envOfC qual (zA3 st) s.heap.objs.size f cdv))->sp vs H Q E ->
   ∃t,PSs (cxOf CX0 P w K mg base N qual (zA3 st) f cdv A outer s H E).nox (zAX st) t/\t { nx:=fun _ H'=>Q .non H',rt:=Q } (start N vs) H):FnOk P w K mg base CX0 (k+1) f fd ps sp:=by
 obtain⟨oc,od,kV,doc,pm,an,cdv,ct,osl,rfl,lk,hcd⟩:=F.ex;refine zYD lk hcd S len fun A outer s H vs Q E hr hsp=>?_
 obtain⟨t,h,q⟩:=hbody cdv A outer s H vs Q E hr hsp;exact⟨t,h.nox,q⟩
theorem Fun.binds{x qual:Str}{st:Stmt}{f:Addr}{fd:qIe}{ps:List Str}(F:Fun K x qual st f fd)
  (h:∀(kV doc pm:Value)(an:Option Addr)(cdv ct:Value)(us:List Value),us.length=ps.length->qJs (qBb x qual (zAW st) (zAX st) (zA3 st) .none kV doc pm an cdv ct) ⟨us,[]⟩=pure (ps.zip us)):Binds K fd ps []:=by
 obtain⟨oc,od,kV,doc,pm,an,cdv,ct,osl,rfl,lk,hcd⟩:=F.ex;exact .all (h kV doc pm an cdv ct)
theorem zVX{x qual:Str}{st:Stmt}{f:Addr}{oc:Value}{od an:Option Addr}{osl:Array (Option Value)}{kV doc pm cdv ct:Value}(l:K.lookup f=some ⟨oc,od,.func (qBb x qual (zAW st) (zAX st) (zA3 st) .none kV doc pm an cdv ct),osl⟩)
  (c:qCb K cdv qual=true) (k:qB9 K (.ref f)=true):Fun K x qual st f (qBb x qual (zAW st) (zAX st) (zA3 st) .none kV doc pm an cdv ct):=⟨⟨oc,od,kV,doc,pm,an,cdv,ct,osl,rfl,l,c⟩,k⟩
end
theorem zRD{A:qI4}{k:Nat}(hr:Room k A):A.units+1<cLine:=qDw (Nat.add_le_add_left (by decide:1<=64) _) hr.units
section
variable{X:Cx}
end
def Same(H H':Hp):Prop:=∀b o,H b=some o->H' b=some o
theorem Same.refl(H:Hp):Same H H:=fun _ _ h=>h
theorem Same.trans{H H1 H2:Hp}(a:Same H H1)(b:Same H1 H2):Same H H2:=fun c o h=>b c o (a c o h)
theorem Same.free{H H':Hp}(e:Same H H'){l:Addr}(h:H' l=qFc):H l=qFc:=by
 cases q:H l with
 |none=>rfl
 |some o=>
  rw[e l o q]at h;cases h
theorem Same.seq{K:qA1}{H H':Hp}{a:Addr}{xs:List V}(e:Same H H')(h:SqL K H a xs):SqL K H' a xs:=by
 rcases h with(h|⟨o,h⟩)|h
 ·exact .inl (.inl (e _ _ h))
 ·exact .inl (.inr ⟨o,e _ _ h⟩)
 ·exact .inr h
section
variable{κ:Type}[DecidableEq κ]
end
theorem asN{a b:Nat}(h:a<b):a<b:=h
theorem asL{a b:Nat}(h:a<=b):a<=b:=h
theorem asE{a b:Nat}(h:a=b):a=b:=h
noncomputable def clos(cells:List (Str×Addr)):List (Str×qIt)->List (Str×Addr)->List (Str×Addr)
 |[],acc=>acc
 |(n,k)::r,acc=>if k==.free then clos cells r ((n,(cells.lookup n).getD 0)::acc)else clos cells r acc
theorem zDY(cells:List (Str×Addr)):∀(names:List (Str×qIt))(acc:List (Str×Addr)),clos cells names acc=clos cells names []++acc
 |[],_=>rfl
 |(n,k)::r,acc=>by
  unfold clos
  split
  ·rw[zDY cells r (_::acc),zDY cells r [_],qB2];rfl
  ·exact zDY cells r acc
theorem zGB{cells:List (Str×Addr)}{x:Str}{c:Addr}:∀{names:List (Str×qIt)},(x,c)∈clos cells names []->(x,qI6)∈names/\c=(cells.lookup x).getD 0
 |[],h=>by simp[clos]at h
 |(n,k)::r,h=>by
  unfold clos at h
  split at h
  ·rename_i hk
   rw[zDY]at h
   rcases qAw.mp h with h|h
   ·obtain⟨h1,h2⟩:=zGB h;exact⟨qAd _ h1,h2⟩
   ·have e:=qAn.mp h
    injection e with e1 e2
    subst e1;have hk':k=.free:=by simpa using hk
    subst hk';exact⟨qAl,e2⟩
  ·obtain⟨h1,h2⟩:=zGB h;exact⟨qAd _ h1,h2⟩
theorem zJH{cells:List (Str×Addr)}{x:Str}:∀{names:List (Str×qIt)},(x,qI6)∈names->(x,(cells.lookup x).getD 0)∈clos cells names []
 |[],h=>by simp at h
 |(n,k)::r,h=>by
  unfold clos
  rcases qA6.mp h with e|h
  ·injection e with e1 e2
   subst e1;subst e2;rw[if_pos (by rfl),zDY];exact qAp _ (by simp)
  ·split
   ·rw[zDY];exact qBn _ (zJH h)
   ·exact zJH h
theorem zBD:∀(names:List (Str×qIt))(n:Nat)(acc:List (Str×Addr)),cellsFrom n names acc=cellsFrom n names []++acc
 |[],_,_=>rfl
 |(x,k)::r,n,acc=>by
  unfold cellsFrom
  split
  ·rw[zBD r (n+1) (_::acc),zBD r (n+1) [_],qB2];rfl
  ·exact zBD r n acc
theorem zC5{x:Str}{c:Addr}:∀{names:List (Str×qIt)}{n:Nat},(x,c)∈cellsFrom n names []->(x,qIj)∈names
 |[],_,h=>by simp[cellsFrom]at h
 |(y,k)::r,n,h=>by
  unfold cellsFrom at h
  split at h
  ·rename_i hk
   rw[zBD]at h
   rcases qAw.mp h with h|h
   ·exact qAd _ (zC5 h)
   ·have e:=qAn.mp h
    injection e with e1 e2
    subst e1;have hk':k=.cell:=by simpa using hk
    subst hk';exact qAl
  ·exact qAd _ (zC5 h)
theorem zBR{α:Type}{x:Str}{a:α}:∀{l:List (Str×α)},(l.map (·.1)).Nodup->(x,a)∈l->l.lookup x=some a
 |[],_,h=>by simp at h
 |(y,b)::r,nd,h=>by
  have nd':(y::r.map (·.1)).Nodup:=nd;obtain⟨h1,h2⟩:=qAy.mp nd'
  rcases qA6.mp h with e|hm
  ·injection e with e1 e2
   subst e1;subst e2;rw[qBg,beq_self_eq_true]
  ·have hne:(x==y)=false:=by
    rw[beq_eq_false_iff_ne]
    rintro rfl
    exact h1 (qAb.mpr ⟨(x,a),hm,rfl⟩)
   rw[qBg,hne];exact zBR h2 hm
theorem zE6{α:Type}{x:Str}:∀{l:List (Str×α)},(∀a,(x,a)∉l)->l.lookup x=none
 |[],_=>rfl
 |(y,b)::r,h=>by
  have hne:(x==y)=false:=by
   rw[beq_eq_false_iff_ne]
   rintro rfl
   exact h b qAl
  rw[qBg,hne];exact zE6 fun a m=>h a (qAd _ m)
theorem zE5{α:Type}{x:Str}{a:α}:∀{l:List (Str×α)},(x,a)∈l->∃b,l.lookup x=some b
 |[],h=>by simp at h
 |(y,b)::r,h=>by
  rw[qBg];cases e:x==y with
  |true=>exact⟨b,rfl⟩
  |false=>
   rcases qA6.mp h with q|q
   ·injection q with q1 _
    subst q1;rw[beq_self_eq_true]at e;cases e
   ·exact zE5 q
theorem zHY{α:Type}{x:Str}:∀(l k:List (Str×α)),(l++k).lookup x=(l.lookup x).or (k.lookup x)
 |[],k=>by simp
 |(y,b)::r,k=>by
  show qD4 x ((y,b)::(r++k))=_;rw[qBg,qBg];cases x==y with
  |true=>rfl
  |false=>exact zHY r k
def zbS(sc:Scope)(env:Env):Prop:=∀x,(x,qI6)∈sc.names->env.kindOf x=some .cell\/env.kindOf x=some .free
theorem zF3{sc:Scope}{env:Env}(h:∀x,(x,qI6)∈sc.names->∃c,env.cells.lookup x=some c):closureFor sc env=pure (clos env.cells sc.names []):=by
 have go:∀(names:List (Str×qIt))(acc:List (Str×Addr)),(∀x,(x,qI6)∈names->∃c,env.cells.lookup x=some c) ->
   (forIn names acc fun(x:Str×qIt)(cs:List (Str×Addr))=>(match x with|(name,kind)=>if(kind==qI6)=true then(do let c <- cellOf env name;pure (qCg ((name,c)::cs)))else pure (qCg cs):Sem (ForInStep (List (Str×Addr)))))=pure (clos env.cells names acc):=by
  intro names
  induction names with
  |nil=>intro acc _;rfl
  |cons p r ih=>
   intro acc hn;obtain⟨n,k⟩:=p;have hr:∀x,(x,qI6)∈r->∃c,env.cells.lookup x=some c:=fun x hx=>hn x (qAd _ hx)
   rw[qG7];unfold clos
   by_cases hk:(k==qI6)=true
   ·have hk':k=.free:=by simpa using hk
    subst hk';obtain⟨c,hc⟩:=hn n qAl;have e:cellOf env n=pure c:=by unfold cellOf;rw[hc]
    rw[if_pos (by rfl)];simp only[if_pos (show(qI6==qI6)=true from rfl),e,hc,qEm,pure_bind];exact ih _ hr
   ·rw[if_neg hk];simp only[if_neg hk,pure_bind];exact ih _ hr
 unfold closureFor;have q:=go sc.names [] h
 first
  |(rw[show(forIn sc.names ([]:List (Str×Addr)) _:Sem (List (Str×Addr)))=_ from q];rfl)
  |(refine(congrArg (fun z=>z >>= pure) q).trans ?_;rfl)
  |(simp only[q];rfl)
  |exact q
def zDX(sc:Scope)(C:Addr)(env:Env):Env:=
 { scope:=relabel sc env,locals:=C,globals:=env.globals,cells:=cellsFrom (C+1) sc.names (clos env.cells sc.names []),qual:=env.qual,func:=none,code:=env.code,frame:=env.frame,builtins:=env.builtins }
theorem zEL{M:Model}{A:qI4}{E:Value->qHx->Prop}{s:qHx}{sc:Scope}{env:Env}{cl:List (Str×Addr)}{Q:Env->qHx->Prop}
  (hQ:Q { scope:=sc,locals:=s.heap.objs.size,globals:=env.globals,cells:=cellsFrom (s.heap.objs.size+1) sc.names cl,qual:=env.qual,func:=none,code:=env.code,frame:=env.frame,builtins:=env.builtins }
   { s with heap:=pushCells (s.heap.push { cls:=.type "dict",data:=.dict #[] }) sc.names }) :
  wpAny M A (newFunctionEnv sc env.globals cl [] env.qual none .none (some env)) Q E s:=by
 simp only[newFunctionEnv,qDv,if_true];refine wpAny_bind (wpAny_alloc ?_);refine wpAny_bind (wpAny_layCells _ (fun name kind cells=>by cases hkc:kind==qIj<;>simp[hkc]) _ _ _ _ ?_);rw[show({ s with heap:=s.heap.push { cls:=.type "dict",data:=.dict #[] } }:qHx).heap.objs.size=s.heap.objs.size+1 from qIn ..];refine wpAny_bind ?_;rw[qGt];exact wpAny_pure (wpAny_pure hQ)
def zCU(X:Cx)(N':List Str)(sc:Scope)(C:Addr)(s:qHx)(H:Hp)(fp:List Addr):Cx:=
 { X with N:=N',s₀:=s,H₀:=H,env:=zDX sc C X.env,outer:=X.stack,stack:=X.stack,ex:=fp,fn:=fun x=>sc.names.lookup x==some .cell,pn:=[],xe:=fun _ _=>False }
def PTs(X:Cx)(ifs:List Expr)(t:TT):Prop:=
 ∀(pins:List (Addr×Obj))(s:qHx)(σ:St)(H:Hp)(Q:Bool->Hp->Prop),Inv X pins σ H s->t σ H Q ->
  wpAny (model X.prog X.w) X.A (forIn ifs true fun c r=>if r=true then do let ok <- isTrue c X.env (eval c X.env);pure (qCg ok)else pure (qCg r)) (TP X pins σ Q) X.xe s
noncomputable def tYes:TT:=fun _ H Q=>Q true H
theorem zCM{X:Cx}:PTs X [] tYes:=fun _ _ _ H _ I h=>wpAny_tests_nil ⟨H,I,h⟩
theorem zXC{X:Cx}{c:Expr}{t:TT}(h:PT X c t):PTs X [c] t:=fun pins s σ H Q I q=>wpAny_tests_one (h pins s σ H Q I q)
structure CompNames(N N':List Str)(k:Nat)(sc:Scope)(env:Env):Prop where
 kind:sc.kind=.function
 nd:(sc.names.map (·.1)).Nodup
 len:N'.length=N.length+k
 old:∀(i:Nat)(x:Str),N'[i]?=some x->i<N.length->(x,qI6)∈sc.names/\N[i]?=some x\/sc.names.lookup x=none
 free:zbS sc env
theorem zBF{sc:Scope}{env:Env}{x:Str}{k:qIt}:∀{names:List (Str×qIt)},
  (names.map fun(n,k)=>if(k==qI6&&env.scope.kind==.function&&env.kindOf n==some .cell)then(n,qIj)else(n,k)).lookup x=some k ->
  names.lookup x=some k\/(names.lookup x=some .free/\k=.cell)
 |[],h=>by simp at h
 |(n,j)::r,h=>by
  have ih:=@zBF sc env x k r;rw[qAg]at h;rw[qBg]
  by_cases hc:(j==qI6&&env.scope.kind==.function&&env.kindOf n==some .cell)=true
  ·have h':qD4 x ((n,qIj)::(r.map fun(n,k)=>if(k==qI6&&env.scope.kind==.function&&env.kindOf n==some .cell)then(n,qIj)else(n,k)))=some k:=by
    rw[<- h];simp only[if_pos hc]
   rw[qBg]at h';cases e:x==n with
   |true=>
    rw[e]at h';have hk:k=.cell:=(qBc h').symm;have hj:j=.free:=by
     simp only[qBf,beq_iff_eq]at hc;exact hc.1.1
    subst hj;exact .inr ⟨rfl,hk⟩
   |false=>
    rw[e]at h';exact ih h'
  ·have h':qD4 x ((n,j)::(r.map fun(n,k)=>if(k==qI6&&env.scope.kind==.function&&env.kindOf n==some .cell)then(n,qIj)else(n,k)))=some k:=by
    rw[<- h];simp only[if_neg hc]
   rw[qBg]at h';cases e:x==n with
   |true=>rw[e]at h';exact .inl h'
   |false=>rw[e]at h';exact ih h'
section
variable{X:Cx}{N':List Str}{k:Nat}{sc:Scope}{pins:List (Addr×Obj)}{σ:St}{H:Hp}{s:qHx}
theorem zPA{C:Addr}{x:Str}{c:Addr}(nd:(sc.names.map (·.1)).Nodup)(h:(zDX sc C X.env).cells.lookup x=some c) :
  ((x,c)∈cellsFrom (C+1) sc.names []/\(x,qIj)∈sc.names)\/((x,qI6)∈sc.names/\c=(X.env.cells.lookup x).getD 0):=by
 have m:=mem_of_lookup h;have m':(x,c)∈cellsFrom (C+1) sc.names (clos X.env.cells sc.names []):=m;rw[zBD]at m'
 rcases qAw.mp m' with z|z
 ·exact .inl ⟨z,zC5 z⟩
 ·exact .inr (zGB z)
theorem zE9{C:Addr}{x:Str}(nd:(sc.names.map (·.1)).Nodup)(h:(x,qI6)∈sc.names):(zDX sc C X.env).cells.lookup x=some ((X.env.cells.lookup x).getD 0):=by
 show(cellsFrom (C+1) sc.names (clos X.env.cells sc.names [])).lookup x=_
 rw[zBD,zHY,zE6 (fun a m=>?_),Option.none_or]
 ·obtain⟨b,hb⟩:=zE5 (zJH (cells:=X.env.cells) h)
  have:=(zGB (mem_of_lookup hb)).2
  rw[hb,this]
 ·have e1:=zBR nd (zC5 m);rw[zBR nd h]at e1;cases e1
theorem zU2(I:Inv X pins σ H s)(hc:X.calm=true)(S:CompNames X.N N' k sc X.env){fp:List Addr}(hf:∀b∈fp,FpOk X pins H b)(hfo:∀b∈fp,∃o,s.heap.get? b=some o)
  {s4:qHx} {D C:Addr} (eD:D=s.heap.objs.size) (eC:C=s.heap.objs.size+1)
  (e4:s4={ s with heap:=pushCells ((s.heap.push { cls:=.type "list",data:=.seq #[] 0 }).push { cls:=.type "dict",data:=.dict #[] }) sc.names }) :
  Inv (zCU X N' sc C s H fp) [(D,{ cls:=.type "list",data:=.seq #[] 0 })] (σ++qA4 k none) H s4/\∀b∈fp,FpOk (zCU X N' sc C s H fp) [(D,{ cls:=.type "list",data:=.seq #[] 0 })] H b:=by
 subst eD eC e4
 generalize hh1:s.heap.push { cls:=.type "list",data:=.seq #[] 0 }=h1
 generalize hh2:h1.push { cls:=.type "dict",data:=.dict #[] }=h2
 have sz1:h1.objs.size=s.heap.objs.size+1:=by rw[<- hh1];exact qIn ..
 have sz2:h2.objs.size=s.heap.objs.size+2:=by rw[<- hh2,qIn,sz1]
 have k1:∀b o,s.heap.get? b=some o->h1.get? b=some o:=fun b o e=>by rw[<- hh1];exact qHy _ e
 have k2:∀b o,h1.get? b=some o->h2.get? b=some o:=fun b o e=>by rw[<- hh2];exact qHy _ e
 have k3:∀b o,h2.get? b=some o->(pushCells h2 sc.names).get? b=some o:=pushCells_keeps sc.names h2;have kk:∀b o,s.heap.get? b=some o->(pushCells h2 sc.names).get? b=some o:=fun b o e=>k3 b o (k2 b o (k1 b o e))
 have own:CellsOk (pushCells h2 sc.names) h2.objs.size (cellsFrom h2.objs.size sc.names []):=cellsFrom_ok sc.names h2 h2.objs.size [] ⟨fun _ _ hm=>(nomatch hm),qCl⟩ (qA7 _);have eC1:s.heap.objs.size+1+1=h2.objs.size:=by rw[sz2]
 have freeCell:∀x,(x,qI6)∈sc.names->∃c,X.env.cells.lookup x=some c:=fun x hx=>I.ok.has x (S.free x hx)
 have cells:∀x c,(zDX sc (s.heap.objs.size+1) X.env).cells.lookup x=some c ->
   ((x,c)∈cellsFrom h2.objs.size sc.names []/\(x,qIj)∈sc.names/\(pushCells h2 sc.names).IsCell c none/\h2.objs.size<=c)\/((x,qI6)∈sc.names/\X.env.cells.lookup x=some c):=fun x c e=>by
  rcases zPA S.nd e with⟨m,q⟩|⟨m,q⟩
  ·rw[eC1]at m;exact .inl ⟨m,q,(own.empty x c m).1,(own.empty x c m).2⟩
  ·obtain⟨c',hc'⟩:=freeCell x m;rw[hc',qEm]at q;subst q;exact .inr ⟨m,hc'⟩
 have old:∀x c,X.env.cells.lookup x=some c->c<s.heap.objs.size:=fun x c e=>by
  obtain⟨v,q⟩:=I.cell x c e;exact q.lt
 have fpl:∀b∈fp,b<s.heap.objs.size:=fun b hb=>by
  obtain⟨o,e⟩:=hfo b hb;exact qHz e
 have hCn:H (s.heap.objs.size+1)=none:=I.hok.fresh (qDn _);have hDn:H s.heap.objs.size=none:=I.hok.fresh (qA7 _);have nofs:∀a,s.heap.objs.size<=a->a∉frs X.stack:=fun a ha hb=>by
  rcases qA6.mp (I.stkSub a hb)with e|hb
  ·have t1:=asN I.lt;have t2:=asE e;have t3:=asL ha
   lia
  ·exact I.nofs ha hb
 have fin:∀b∈fp,b∉frs X.stack:=fun b hb z=>by
  obtain⟨f0,f1,f2,f3,f4,f5⟩:=hf b hb
  rcases qA6.mp (I.stkSub b z)with e|z
  ·exact f1 e
  ·exact f2 z
 have ok:(zCU X N' sc (s.heap.objs.size+1) s H fp).Ok:=by
  refine⟨I.ok.mod,S.kind,I.ok.glob,I.ok.blt,qDn _,?_,?_,?_,I.ok.hd,I.ok.frames,.inl rfl,?_,I.bs,qAr I.ok.bsz I.sz,?_,fin,I.stack,I.stkFree⟩
  ·intro x y c hx hy
   rcases cells x c hx with⟨m1,_,_,g1⟩|⟨m1,g1⟩<;>rcases cells y c hy with⟨m2,_,_,g2⟩|⟨m2,g2⟩
   ·exact name_of_addr own.apart m1 m2
   ·exact absurd (qAh (old y c g2) (qAr (by rw[sz2];exact qG1 _ _) g1)) (qBy _)
   ·exact absurd (qAh (old x c g1) (qAr (by rw[sz2];exact qG1 _ _) g2)) (qBy _)
   ·exact I.ok.inj x y c g1 g2
  ·intro x hx;have hx:(relabel sc X.env).names.lookup x=some .cell\/(relabel sc X.env).names.lookup x=some .free:=hx;have two:sc.names.lookup x=some .cell\/sc.names.lookup x=some .free:=by
    rcases hx with hx|hx
    ·rcases zBF (sc:=sc) hx with q|⟨q,_⟩
     ·exact .inl q
     ·exact .inr q
    ·rcases zBF (sc:=sc) hx with q|⟨_,q⟩
     ·exact .inr q
     ·cases q
   rcases two with q|q
   ·have:=qD1 sc.names (s.heap.objs.size+1+1) (clos X.env.cells sc.names []) (.inl q)
    exact qCs.mp this
   ·exact⟨_,zE9 S.nd (mem_of_lookup q)⟩
  ·intro x c hx e;have hx:(sc.names.lookup x==some qIj)=true:=hx;have hx':sc.names.lookup x=some .cell:=by simpa using hx
   rcases cells x c e with⟨_,_,_,g⟩|⟨m,_⟩
   ·show s.heap.objs.size<=c
    lia
   ·rw[zBR S.nd m]at hx';cases hx'
  ·intro b hb;refine⟨?_,fun x c e z=>?_⟩
   ·exact qAu (qFr (fpl b hb))
   ·rcases cells x c e with⟨_,_,_,g⟩|⟨_,g⟩
    ·have t1:=asN (fpl b hb);have t2:=asL g;have t3:=asE z
     lia
    ·exact(hf b hb).2.2.2.2.1 x c g z
  ·intro b o e hb
   rcases(hf b hb).2.2.2.1 with z|z
   ·exact I.ok.noex b o e z
   ·exact absurd (qAh (qHz e) (qAr I.ok.bsz z)) (qBy _)
 have ns:(pushCells h2 sc.names).Ns (s.heap.objs.size+1) fun _=>none:=by
  have q:h2.Ns h1.objs.size fun _=>none:=by rw[<- hh2];exact Heap.Ns.new h1 (.type "dict")
  rw[sz1]at q;exact q.keeps k3
 have hD1:h1.get? s.heap.objs.size=some { cls:=.type "list",data:=.seq #[] 0 }:=by rw[<- hh1];exact qI1 _ rfl
 refine⟨⟨ok,rfl,I.bare,Un.kept kk,⟨_,ns,?_⟩,?_,hCn,?_,?_,I.hok.kept kk,?_⟩,?_⟩
 ·intro i x v h1 h2 h3;have hi:i<X.N.length:=by
   rw[<- I.len]
   by_cases hi:i<σ.length
   ·exact hi
   ·rw[qAe (by lia),qBl]at h2
    split at h2<;>cases h2
  have h2':σ[i]?=some (some v):=by
   rw[qAc (by rw[I.len];exact hi)]at h2;exact h2
  have h1:N'[i]?=some x:=h1
  rcases S.old i x h1 hi with⟨m,e⟩|e
  ·obtain⟨mm,hn,hl⟩:=I.loc;have hv:Vis X.env.scope x:=(S.free x m).elim (fun z=>.inr (.inl z)) fun z=>.inr (.inr z)
   obtain⟨u,r,l⟩:=hl i x v e h2' hv;refine⟨u,r,?_⟩
   rcases l with⟨z,_⟩|⟨_,c,hc,hcell⟩
   ·rcases S.free x m with z'|z'<;>rw[z]at z'<;>cases z'
   ·refine .inr ⟨?_,c,?_,hcell.keeps kk⟩
    ·have hv3:(relabel sc X.env).names.lookup x=some .local\/(relabel sc X.env).names.lookup x=some .cell\/(relabel sc X.env).names.lookup x=some .free:=h3
     rcases hv3 with q|q|q
     ·rcases zBF (sc:=sc) q with q|⟨_,q⟩
      ·rw[zBR S.nd m]at q;cases q
      ·cases q
     ·exact .inl q
     ·exact .inr q
    ·have q:=zE9 (X:=X) (C:=s.heap.objs.size+1) S.nd m;rw[hc,qEm]at q;exact q
  ·exfalso
   have hv3:(relabel sc X.env).names.lookup x=some .local\/(relabel sc X.env).names.lookup x=some .cell\/(relabel sc X.env).names.lookup x=some .free:=h3
   rcases hv3 with q|q|q<;>rcases zBF (sc:=sc) q with q|⟨q,_⟩<;>rw[e]at q<;>cases q
 ·intro x c e
  rcases cells x c e with⟨_,_,g,_⟩|⟨_,g⟩
  ·exact⟨_,g⟩
  ·obtain⟨v,q⟩:=I.cell x c g;exact⟨v,q.keeps kk⟩
 ·intro x c e
  rcases cells x c e with⟨_,_,_,g⟩|⟨_,g⟩
  ·exact I.hok.fresh (by lia)
  ·exact I.freeC x c g
 ·intro p hp;have hp':p=(s.heap.objs.size,{ cls:=.type "list",data:=.seq #[] 0 }):=by
   have:p∈([]++[(s.heap.objs.size,({ cls:=.type "list",data:=.seq #[] 0 }:Obj))]:List (Addr×Obj)):=hp
   simpa using this
  subst hp';refine⟨k3 _ _ (k2 _ _ hD1),hDn,?_,nofs _ (qA7 _),fun v z=>by cases z⟩;show s.heap.objs.size≠s.heap.objs.size+1
  lia
 ·show(σ++qA4 k none).length=N'.length
  rw[qB4,qD7,I.len,S.len]
 ·intro b hb;obtain⟨f0,f1,f2,f3,f4,f5⟩:=hf b hb;refine⟨f0,(ok.exf b hb).1,fin b hb,.inl hb,fun x c e=>(ok.exf b hb).2 x c e,fun p hp=>?_⟩;have hp':p=(s.heap.objs.size,{ cls:=.type "list",data:=.seq #[] 0 }):=by
   have:p∈([]++[(s.heap.objs.size,({ cls:=.type "list",data:=.seq #[] 0 }:Obj))]:List (Addr×Obj)):=hp
   simpa using this
  subst hp';exact qBz (fpl b hb)
end
theorem zE0{prog:qI0}{w:World}{A:qI4}{R:qL0->qHx->Prop}{s:qHx}{elt target iter:Expr}{ifs:List Expr}{scope:Scope}{pos:Pos}{it acc:Value}{env:Env}(I:Nat->qHx->Prop)
  (turn:∀n s,I n s->wpAny (model prog w) A (pyNext it) (fun r s₁=>match r with
   |none=>R (.ok .next) s₁
   |some v=>wpAny (model prog w) A (letOwnedTupleGo target it v) (fun _ s₂'=>wpAny (model prog w) A (assign target env v) (fun _ s₂=>
     wpAny (model prog w) A (forIn ifs true fun c r=>if r=true then do let ok <- isTrue c env (eval c env);pure (qCg ok)else pure (qCg r)) (fun ok s₃=>
      if ok=true then wpAny (model prog w) A (eval elt env) (fun x s₄=>
       wpAny (model prog w) A (call (.builtin "list.append") [acc,x]) (fun _ s₅=>∃m,m<n/\I m s₅) (fun _ _=>False) s₄) (fun _ _=>False) s₃
      else ∃m,m<n/\I m s₃) (fun _ _=>False) s₂) (fun _ _=>False) s₂') (fun _ _=>False) s₁) (fun _ _=>False) s)
  (n:Nat) (h:I n s) :
  qJd (model prog w) A (.compLoop (.ListComp elt [⟨target,iter,ifs,0⟩] scope pos) 0 it acc env) R s:=by
 refine codeAny_loop rfl I (fun n s hI=>?_) n h;show wpAny _ A ((compTurn (.ListComp elt [⟨target,iter,ifs,0⟩] scope pos) 0 it acc env).onRaise (fun x=>do noteFrame x env;theTreesLotGoes x)) _ _ s;refine wpAny_noted ?_;rw[compTurn_list];refine wpAny_bind (wpAny_standAt (wpAny_bind (wpAny_mono (turn n s hI) (fun r s₁ h₁=>?_) fun _ _ z=>z.elim)));cases r with
 |none=>exact wpAny_pure h₁
 |some v=>
  refine wpAny_bind (wpAny_mono h₁ (fun _ s₂' h₂'=>?_) fun _ _ z=>z.elim);refine wpAny_bind (wpAny_mono h₂' (fun _ s₂ h₂=>wpAny_bind (wpAny_mono h₂ (fun ok s₃ h₃=>?_) fun _ _ z=>z.elim)) fun _ _ z=>z.elim);cases ok with
  |false=>exact wpAny_pure ⟨rfl,h₃⟩
  |true=>
   exact wpAny_bind (wpAny_bind (wpAny_mono h₃ (fun x s₄ h₄=>wpAny_bind (wpAny_mono h₄ (fun _ s₅ h₅=>wpAny_pure (wpAny_pure ⟨rfl,h₅⟩)) fun _ _ z=>z.elim)) fun _ _ z=>z.elim))
def zV0(k:Nat)(g:TG)(tif:TT)(te:TE)(σ:St)(Q:VK)(J:It)(H1:Hp):Prop:=∃W:Nat->Nat->List V->Hp->Prop,(∃m,W 0 m [] H1)/\∀i m acc H,W i m acc H ->
 (J.stop i H/\∀D,H D=none->Q (.ref D) (upd H D (.lst acc))) \/
 (J.go i H/\acc.length<sizeLine/\∃N:List V->Hp->Prop,(∀acc' H',N acc' H'->∃m',m'<m/\W (i+1) m' acc' H')/\∀x H',J.yld i H x H'->g x (σ++qA4 k none) H' fun σ2 H2=>∃own:St,own.length=k/\σ2=σ++own/\tif σ2 H2 fun b H3=>if b=true then te σ2 H3 fun v H4=>N (acc++[v]) H4 else N acc H3)
noncomputable def zWO(wi:TI)(k:Nat)(g:TG)(tif:TT)(te:TE):TE:=fun σ H Q=>wi σ H (zV0 k g tif te σ Q)
theorem HOk.track{P:qI0}{w:World}{H:Hp}{h:Heap}{a:Addr}{o:HO}(x:HOk P w H h)(hn:H a=none)(new:ObjOk P w (upd H a o) h a o):HOk P w (upd H a o) h:=fun b u e=>by
 by_cases hb:b=a
 ·subst hb;rw[zAC]at e;cases e;exact new
 ·rw[zAB hb]at e;exact(x b u e).stay (fun c v _ q=>q) (fun c q=>by rw[zAB (zAE q hn)];exact q) (fun c xs q=>by rw[zAB (zAE q hn)];exact q) fun c _ _ q _=>by rw[zAB (zAE q hn)];exact q
section
variable{X:Cx}{N':List Str}{k:Nat}{sc:Scope}{tg iter elt:Expr}{ifs:List Expr}{wi:TI}{g:TG}{tif:TT}{te:TE}{pos:Pos}
theorem zI3{pins:List (Addr×Obj)}{σ:St}{H2:Hp}{s2:qHx}{Q:VK}{RR:Value->Addr->qL0->qHx->Prop}{E:Value->qHx->Prop}(hc:X.calm=true)(S:CompNames X.N N' k sc X.env)
  (hg:∀C s H fp,PG (zCU X N' sc C s H fp) tg g) (hif:∀C s H fp,PTs (zCU X N' sc C s H fp) ifs tif) (he:∀C s H fp,PE (zCU X N' sc C s H fp) elt te)
  {it:Addr} {fp:List Addr} {tn:Nat->Heap->Prop} {J:It} (I2:Inv X pins σ H2 s2) (T:Turn X.prog X.w X.K tg J fp it tn) (st2:tn 0 s2.heap) (f2:∀b∈fp,FpOk X pins H2 b)
  {W:Nat->Nat->List V->Hp->Prop} {m0:Nat} (w0:W 0 m0 [] H2)
  (turn:∀i m acc H,W i m acc H->(J.stop i H/\∀D,H D=none->Q (.ref D) (upd H D (.lst acc))) \/
   (J.go i H/\acc.length<sizeLine/\∃N:List V->Hp->Prop,(∀acc' H',N acc' H'->∃m',m'<m/\W (i+1) m' acc' H')/\∀x H',J.yld i H x H'->g x (σ++qA4 k none) H' fun σ2 H2=>∃own:St,own.length=k/\σ2=σ++own/\tif σ2 H2 fun b H3=>if b=true then te σ2 H3 fun v H4=>N (acc++[v]) H4 else N acc H3))
  (hRR:∀D C s' H',D<C->s2.heap.objs.size<=D->(∃m,s'.heap.Ns C m)->H' C=none->C∉frs X.stack->Inv X pins σ H' s'->Q (.ref D) H'->RR (.ref D) C (.ok .next) s') :
  wpAny (model X.prog X.w) X.A (newList []) (fun acc s₃=>wpAny (model X.prog X.w) X.A (newFunctionEnv sc X.env.globals (clos X.env.cells sc.names []) [] X.env.qual none .none (some X.env)) (fun cenv s₄=>
   qJd (model X.prog X.w) X.A (.compStart (.ListComp elt [⟨tg,iter,ifs,0⟩] sc pos) 0 (.ref it) acc { cenv with scope:=relabel sc X.env }) (RR acc cenv.locals) s₄) E s₃) E s2:=by
 refine wpAny_newObj_type (zEL ?_);show qJd _ _ (.compStart _ 0 (.ref it) (.ref s2.heap.objs.size) _) _ _;have szp:(s2.heap.push { cls:=.type "list",dict:=none,data:=.seq ([]:List Value).toArray }).objs.size=s2.heap.objs.size+1:=qIn ..;obtain⟨I4,F4⟩:=zU2 (s4:={ s2 with heap:=pushCells ((s2.heap.push { cls:=.type "list",data:=.seq #[] 0 }).push { cls:=.type "dict",data:=.dict #[] }) sc.names }) I2 hc S f2 (fun b hb=>let⟨o,e,_⟩:=T.obj 0 _ st2 b hb;⟨o,e⟩) rfl rfl rfl
 generalize hC:(s2.heap.push { cls:=.type "list",dict:=none,data:=.seq ([]:List Value).toArray }).objs.size=C at *
 have eC:C=s2.heap.objs.size+1:=szp;rw[<- eC]at I4 F4
 generalize hs4:({ s2 with heap:=pushCells ((s2.heap.push { cls:=.type "list",data:=.seq #[] 0 }).push { cls:=.type "dict",data:=.dict #[] }) sc.names }:qHx)=s4 at I4 F4
 have kk:∀b o,s2.heap.get? b=some o->s4.heap.get? b=some o:=fun b o e=>by
  rw[<- hs4];exact pushCells_keeps sc.names _ b o (qHy _ (qHy _ e))
 have st4:tn 0 s4.heap:=T.keep 0 _ _ st2 fun b _ o e=>kk b o e
 generalize hX':zCU X N' sc C s2 H2 fp=X' at I4 F4
 have henv:X'.env=zDX sc C X.env:=by rw[<- hX'];rfl
 have xprog:X'.prog=X.prog:=by rw[<- hX'];rfl
 have xw:X'.w=X.w:=by rw[<- hX'];rfl
 have xK:X'.K=X.K:=by rw[<- hX'];rfl
 have xcalm:X'.calm=true:=by rw[<- hX'];exact hc
 have xA:X'.A=X.A:=by rw[<- hX'];rfl
 have xpn:X'.pn=[]:=by rw[<- hX'];rfl
 have xxe:X'.xe=fun _ _=>False:=by rw[<- hX'];rfl
 have xs0:X'.s₀=s2:=by rw[<- hX'];rfl
 have xH0:X'.H₀=H2:=by rw[<- hX'];rfl
 have xfs:X'.fs=frs X.stack:=by rw[<- hX'];rfl
 have xex:X'.ex=fp:=by rw[<- hX'];rfl
 have hgX:PG X' tg g:=by rw[<- hX'];exact hg C s2 H2 fp
 have hifX:PTs X' ifs tif:=by rw[<- hX'];exact hif C s2 H2 fp
 have heX:PE X' elt te:=by rw[<- hX'];exact he C s2 H2 fp
 have locC:X'.env.locals=C:=by rw[henv];rfl
 generalize hDd:s2.heap.objs.size=D at *
 have loop:qJd (model X.prog X.w) X.A (.compLoop (.ListComp elt [⟨tg,iter,ifs,0⟩] sc pos) 0 (.ref it) (.ref D) (zDX sc C X.env)) (RR (.ref D) C) s4:=by
  refine zE0 (fun n s'=>∃i H' acc its nn,Inv X' [] (σ++qA4 k none) H' s'/\tn i s'.heap/\(∀b∈fp,H' b=none)/\H' D=none/\W i n acc H'/\acc.length<=sizeLine/\Vals acc its/\s'.heap.get? D=some { cls:=.type "list",data:=.seq its.toArray nn }) ?_ m0 ?_
  ·rintro n s5 ⟨i,H5,acc,its,nn,I5,st5,fr5,hD5,w5,hz5,rv5,hL5⟩
   have hDlt:D<C:=by rw[eC];exact Nat.lt_succ_self _
   have pinD:Inv X' [(D,{ cls:=.type "list",data:=.seq its.toArray nn })] (σ++qA4 k none) H5 s5:=I5.pins_of fun p hp=>by
    have hp':p=(D,{ cls:=.type "list",data:=.seq its.toArray nn }):=by simpa using hp
    subst hp';refine⟨hL5,hD5,?_,?_,fun v z=>by cases z⟩
    ·rw[locC];exact qAu hDlt
    ·have q:=(I4.pin (D,{ cls:=.type "list",data:=.seq #[] 0 }) (by simp)).2.2.2.1;exact q
   have fpD:∀{H':Hp}{oo:Obj},(∀b∈fp,H' b=none)->∀b∈fp,FpOk X' [(D,oo)] H' b:=fun{H' oo} hn b hb=>by
    obtain⟨f0,f1,f2,f3,f4,f5⟩:=F4 b hb;refine⟨hn b hb,f1,f2,f3,f4,fun p hp=>?_⟩;have hp':p=(D,oo):=by
     rw[xpn]at hp
     simpa using hp
    subst hp';exact f5 (D,{ cls:=.type "list",data:=.seq #[] 0 }) (by simp)
   rcases turn i n acc H5 w5 with⟨stop,q⟩|⟨go,hlt,N,hN,step⟩
   ·have dn:=T.done X' xprog xw xK xcalm i _ s5 _ H5 (fun _ _=>False) pinD (fpD fr5) st5 stop;rw[xA]at dn;refine thn dn fun r s6 z0=>?_
    obtain⟨hr,I6⟩:=z0;subst hr;show RR (.ref D) C (.ok .next) s6;have hL6:=(I6.pin (D,{ cls:=.type "list",data:=.seq its.toArray nn }) (by simp)).1;have un6:Un (frs X.stack) fp H2 H5 s2.heap s6.heap:=by
     have:=I6.base
     rw[xs0,xH0,xfs,xex]at this;exact this
    have hok6:HOk X.prog X.w H5 s6.heap:=by
     have:=I6.hok
     rw[xprog,xw]at this;exact this
    have hDno:s2.heap.get? D=none:=qIv (by rw[hDd];exact qA7 _);have un7:Un (frs X.stack) fp H2 (upd H5 D (.lst acc)) s2.heap s6.heap:=
     ⟨un6.keep,un6.slot,fun b o e n hx=>by
       have hb:b≠D:=by rintro rfl;rw[hDno]at e;cases e
       rw[zAB hb];exact un6.free b o e n hx,un6.there,
      fun b xs e=>by
       have e':=un6.tups b xs e;rw[zAB (zAE e' hD5)];exact e',
      fun b o u e=>by
       have e':=un6.frzs b o u e;rw[zAB (zAE e' hD5)];exact e',
      fun b ps e=>by
       obtain⟨more,e'⟩:=un6.tbls b ps e;exact⟨more,by rw[zAB (zAE e' hD5)];exact e'⟩⟩
    have hok7:HOk X.prog X.w (upd H5 D (.lst acc)) s6.heap:=hok6.track hD5 ⟨hz5,its,nn,rv5,hL6⟩;have os6:s6.os=s2.os:=by have:=I6.os;rw[xs0]at this;exact this
    have I7:Inv X pins σ (upd H5 D (.lst acc)) s6:=I2.call' os6 un7 hok7 I6.bare fun b hb=>by
     obtain⟨f0,f1,f2,f3,f4,f5⟩:=f2 b hb;exact⟨f3,f1,f4,f5⟩
    obtain⟨mm,hn,_⟩:=I6.loc;rw[locC]at hn;have hC5:H5 C=none:=by have:=I6.free;rw[locC]at this;exact this
    refine hRR D C s6 (upd H5 D (.lst acc)) hDlt (qA7 _) ⟨mm,hn⟩ ?_ ?_ I7 (q D hD5)
    ·rw[zAB (qBz hDlt)];exact hC5
    ·intro hb
     rcases qA6.mp (I2.stkSub C hb)with e|hb
     ·have t1:=asN I2.lt;have t2:=asE e;rw[hDd]at t1;have t3:=asN hDlt
      lia
     ·exact I2.nofs (by rw[hDd];exact qCd hDlt) hb
   ·have itm:=T.item X' xprog xw xK xcalm i _ s5 _ H5 (fun _ _=>False) pinD (fpD fr5) st5 go;rw[xA]at itm;refine thn itm fun r s6 z0=>?_
    obtain⟨u,hr,h6⟩:=z0;subst hr;refine thn h6 fun _ s7 z0=>?_
    obtain⟨x,H7,I7,r7,y7,st7,fr7⟩:=z0;have I7':Inv X' ([(D,{ cls:=.type "list",data:=.seq its.toArray nn })]++zHW fp s7.heap) (σ++qA4 k none) H7 s7:=I7.pinned (fpD fr7) (T.obj _ _ st7);have asg:=hgX _ s7 _ H7 x u _ I7' r7 (step x H7 y7);rw[xprog,xw,xA,henv,xxe]at asg;refine thn asg fun _ s8 z0=>?_
    obtain⟨σ8,H8,I8,own,hown,hσ8,q8⟩:=z0;have weak:∀{pl:List (Addr×Obj)}{H':Hp}{s':qHx},Inv X' pl σ8 H' s'->Inv X' [] (σ++qA4 k none) H' s':=fun{pl H' s'} J'=>by
     have J0:Inv X' [] σ8 H' s':=J'.pins_of (fun p hp=>by simp at hp);refine J0.weak (by rw[hσ8];simp[hown]) fun j v hj=>?_
     rw[hσ8]
     by_cases hjl:j<σ.length
     ·rw[qAc hjl]at hj ⊢;exact hj
     ·rw[qAe (by lia),qBl]at hj
      split at hj<;>cases hj
    have tst:=hifX _ s8 σ8 H8 _ I8 q8;rw[xprog,xw,xA,henv,xxe]at tst;refine thn tst fun b s9 z0=>?_
    obtain⟨H9,I9,q9⟩:=z0;have pin9:∀{σ':St}{H':Hp}{s':qHx},Inv X' ([(D,{ cls:=.type "list",data:=.seq its.toArray nn })]++zHW fp s7.heap) σ' H' s' ->
      s'.heap.get? D=some { cls:=.type "list",data:=.seq its.toArray nn }/\H' D=none/\tn (i+1) s'.heap/\(∀b∈fp,H' b=none):=fun{σ' H' s'} J'=>by
     have a1:=J'.pin (D,{ cls:=.type "list",data:=.seq its.toArray nn }) (by simp);refine⟨a1.1,a1.2.1,T.keep _ _ _ st7 fun b hb o e=>(J'.pin (b,o) (qAp _ (qAp _ (zDU hb e)))).1,fun b hb=>?_⟩;obtain⟨o,e,d⟩:=T.obj _ _ st7 b hb;exact(J'.pin (b,o) (qAp _ (qAp _ (zDU hb e)))).2.1
    cases b with
    |false=>
     rw[if_neg qAa];rw[if_neg qAa]at q9;obtain⟨m',hm,w9⟩:=hN _ _ q9;obtain⟨p1,p2,p3,p4⟩:=pin9 I9;exact⟨m',hm,i+1,H9,acc,its,nn,weak I9,p3,p4,p2,w9,hz5,rv5,p1⟩
    |true=>
     rw[if_pos rfl];rw[if_pos rfl]at q9;have ev:=heX _ s9 σ8 H9 _ I9 q9;rw[xprog,xw,xA,henv,xxe]at ev;refine thn ev fun y s10 z0=>?_
     obtain⟨v,H10,I10,r10,n10⟩:=z0;obtain⟨m',hm,w10⟩:=hN _ _ n10;obtain⟨p1,p2,p3,p4⟩:=pin9 I10;have hlen:its.length=acc.length:=rv5.length.symm;refine wpAny_list_append_plain (items:=its.toArray) ⟨nn,p1⟩ (fun h' hl' hs'=>?_) (by simp only[qAi];lia);have hDfp:D∉fp:=fun hb=>(F4 D hb).2.2.2.2.2 (D,{ cls:=.type "list",data:=.seq #[] 0 }) (by simp) rfl
     have I11:Inv X' [] (σ++qA4 k none) H10 { s10 with heap:=h' }:=by
      have J0:Inv X' [] (σ++qA4 k none) H10 s10:=weak I10;refine J0.turned (t':=s10.toks) (it:=D) (fun b o hb e=>(hs'.2 b hb).trans e) p2 ?_ (.inr ?_) (fun x c e z=>?_) (fun p hp=>?_)
      ·rw[locC];exact qAu hDlt
      ·rw[xs0,hDd];exact qA7 _
      ·obtain⟨v',q⟩:=J0.cell x c e;obtain⟨o,ho,hd⟩:=q;rw[z,p1]at ho;cases ho;cases hd
      ·rw[xpn]at hp;simp at hp
     obtain⟨n',hk⟩:=hl';have hk':h'.get? D=some { cls:=.type "list",data:=.seq (its++[y]).toArray n' }:=by rw[hk];simp
     refine⟨m',hm,i+1,H10,acc++[v],its++[y],n',I11,T.keep _ _ _ p3 fun b hb o e=>(hs'.2 b (fun z=>hDfp (z▸hb))).trans e,p4,p2,w10,?_,rv5.append (.cons r10 .nil),hk'⟩;rw[qB4,qEy]
     lia
  ·refine⟨0,H2,[],[],0,I4.pins_of (fun p hp=>by simp at hp),st4,fun b hb=>(f2 b hb).1,I2.hok.fresh (by rw[hDd];exact qA7 _),w0,qAs _,.nil,?_⟩;exact(I4.pin (D,{ cls:=.type "list",data:=.seq #[] 0 }) (by simp)).1
 exact codeAny_compStart_list loop (T.self _ 0 _ _ _ st4 loop)
theorem zCN(hc:X.calm=true)(S:CompNames X.N N' k sc X.env)(hi:PI X tg iter wi)
  (hg:∀C s H fp,PG (zCU X N' sc C s H fp) tg g) (hif:∀C s H fp,PTs (zCU X N' sc C s H fp) ifs tif) (he:∀C s H fp,PE (zCU X N' sc C s H fp) elt te)
  (hs:∀x,qJ7 iter X.env x=pure x:=by intro _;rfl):PE X (.ListComp elt [⟨tg,iter,ifs,0⟩] sc pos) (zWO wi k g tif te):=by
 intro pins s σ H Q I h;rw[eval_ListComp];have hfree:∀x,(x,qI6)∈sc.names->∃c,X.env.cells.lookup x=some c:=fun x hx=>I.ok.has x (S.free x hx)
 refine wpAny_comprehension_free (use:=none) rfl hs (zF3 hfree) S.kind (fun x hx hl=>?_) ?_
 ·obtain⟨n,kd⟩:=x;dsimp only at hl ⊢;subst hl;exact zBR S.nd hx
 ·refine thn (hi pins s σ H _ I h) fun v s1 h1=>thn h1 fun itv s2 h2=>?_
  obtain⟨it,fp,tn,J,H2,e,I2,T,st2,f2,W,⟨m0,w0⟩,turn⟩:=h2;subst e;refine zI3 (RR:=fun acc C=>compPost (model X.prog X.w) X.A X.xe none (EP X pins σ Q) acc C) hc S hg hif he I2 T st2 f2 w0 turn ?_;intro D C s' H' hDC hD hn hCn hCf I' q;obtain⟨m,hn⟩:=hn;refine⟨m,hn,fun h' hs'=>⟨.ref D,H',?_,rfl,q⟩⟩;have hCb:s2.heap.objs.size<=C:=qCd (qDw hD hDC);refine I'.turned (t':=s'.toks) (it:=C) (fun b o hb e=>(hs'.2 b hb).trans e) hCn ?_ (.inr (qAr I2.sz hCb)) (fun x c e z=>?_) (fun p hp z=>?_)
  ·exact qBz (qAh I2.lt hCb)
  ·obtain⟨v,q⟩:=I2.cell x c e;exact absurd z (qAu (qAh q.lt hCb))
  ·exact absurd z (qAu (qAh (qHz (I2.pin p hp).1) hCb))
theorem zOT{i:Nat}{x:Str}{pos' spos:Pos}(hN:X.N.Nodup)(hi':X.N[i]?=some x)(hx:Loc X.env.scope x)(hc:X.calm=true)(S:CompNames X.N N' k sc X.env)(hi:PI X tg iter wi)
  (hg:∀C s H fp,PG (zCU X N' sc C s H fp) tg g) (hif:∀C s H fp,PTs (zCU X N' sc C s H fp) ifs tif) (he:∀C s H fp,PE (zCU X N' sc C s H fp) elt te)
  (hsw:qKc (.ListComp elt [⟨tg,iter,ifs,0⟩] sc pos) (some (.Name x pos')) spos.line X.env=pure true:=by rfl)
  (hs:∀x,qJ7 iter X.env x=pure x:=by intro _;rfl) (hf:X.fn x=true\/X.env.scope.names.lookup x=some .local:=by first|exact .inl rfl|exact .inr rfl|assumption) :
  PS X (.Assign [.Name x pos'] (.ListComp elt [⟨tg,iter,ifs,0⟩] sc pos) spos) (tAsg (zWO wi k g tif te) (zDZ i)):=by
 intro pins s σ H Dn I h;rw[exec_Assign_Name_used _ _ _ _ hsw];refine wpAny_bind (wpAny_standAt (wpAny_bind ?_));show wpAny _ X.A (do let _ <- comprehension (.ListComp elt [⟨tg,iter,ifs,0⟩] sc pos) sc X.env _ (newList []) false (eval iter X.env) (some (assign (.Name x pos') X.env))) _ _ s;have hfree:∀x,(x,qI6)∈sc.names->∃c,X.env.cells.lookup x=some c:=fun x hx=>I.ok.has x (S.free x hx)
 refine wpAny_bind (wpAny_mono (wpAny_comprehension_free (use:=some (assign (.Name x pos') X.env)) (Q:=fun _ s'=>SP X pins Dn .next s') rfl hs (zF3 hfree) S.kind (fun x hx hl=>?_) ?_)
  (fun _ s' hq=>wpAny_pure (wpAny_pure hq)) fun _ _ e=>e)
 ·obtain⟨n,kd⟩:=x;dsimp only at hl ⊢;subst hl;exact zBR S.nd hx
 ·refine thn (hi pins s σ H _ I h) fun v s1 h1=>thn h1 fun itv s2 h2=>?_
  obtain⟨it,fp,tn,J,H2,e,I2,T,st2,f2,W,⟨m0,w0⟩,turn⟩:=h2;subst e;refine zI3 (Q:=fun v H'=>zDZ i v σ H' Dn.nx) (RR:=fun acc C=>compPost (model X.prog X.w) X.A X.xe (some (assign (.Name x pos') X.env)) (fun _ s'=>SP X pins Dn .next s') acc C) hc S hg hif he I2 T st2 f2 w0 turn ?_;intro D C s' H' hDC hD hn hCn hCf I' q;obtain⟨m,hn⟩:=hn;show wpAny _ _ (assign (.Name x pos') X.env (.ref D)) _ _ _;have hCb:s2.heap.objs.size<=C:=qCd (qDw hD hDC);have hCL:C≠X.env.locals:=qBz (qAh I2.lt hCb);have hCc:∀x c,X.env.cells.lookup x=some c->c≠C:=fun x c e z=>by
   obtain⟨v,q⟩:=I2.cell x c e;exact absurd z (qAu (qAh q.lt hCb))
  refine qL3 (zJZ (v:=.ref D) I' hN hi' hx rfl (fun s'' I'' ⟨a,sb,ha⟩=>?_) hf);have hCa:C≠a:=by
   rcases ha with e|e
   ·rw[e];exact hCL
   ·exact fun z=>hCc x a e z.symm
  refine⟨m,hn.sameBut sb hCa,fun h' hs'=>⟨_,H',?_,q⟩⟩;refine I''.turned (t':=s''.toks) (it:=C) (fun b o hb e=>(hs'.2 b hb).trans e) hCn hCL (.inr (qAr I2.sz hCb)) hCc (fun p hp z=>?_);exact absurd z (qAu (qAh (qHz (I2.pin p hp).1) hCb))
theorem zFI{lo:Int}{n:Nat}{σ:St}{H:Hp}{Q:VK}(Pv:Nat->List V->Hp->Prop)(h0:Pv 0 [] H)(hz:∀i acc H,i<n->Pv i acc H->acc.length<sizeLine)
  (hs:∀i acc H,i<n->Pv i acc H->g (.int (lo+i)) (σ++qA4 k none) H fun σ2 H2=>∃own:St,own.length=k/\σ2=σ++own/\tif σ2 H2 fun b H3=>if b=true then te σ2 H3 fun v H4=>Pv (i+1) (acc++[v]) H4 else Pv (i+1) acc H3)
  (hd:∀acc H,Pv n acc H->∀D,H D=none->Q (.ref D) (upd H D (.lst acc))) :
  zV0 k g tif te σ Q (Itr lo n) H:=by
 refine⟨fun i m acc H=>m=n-i/\i<=n/\Pv i acc H,⟨n,by simp,qAs _,h0⟩,?_⟩
 rintro i m acc H ⟨rfl,hi,p⟩
 by_cases hlt:i<n
 ·refine .inr ⟨hlt,hz i acc H hlt p,Pv (i+1),fun acc' H' p'=>⟨n-(i+1),by lia,rfl,hlt,p'⟩,fun x H' y=>?_⟩;obtain⟨e,y⟩:=y;subst e y;exact hs i acc _ hlt p
 ·have e:i=n:=by lia
  subst e;exact .inl ⟨qA7 _,hd acc H p⟩
def zSV(g:TG)(tb:TS)(D:Ends)(σ:St)(J:It)(H1:Hp):Prop:=∃W:Nat->Nat->St->Hp->Prop,(∃m,W 0 m σ H1)/\∀i m σ H,W i m σ H ->
 (J.stop i H/\D.nx σ H)\/(J.go i H/\∃N:St->Hp->Prop,(∀σ' H',N σ' H'->∃m',m'<m/\W (i+1) m' σ' H')/\∀x H',J.yld i H x H'->g x σ H' fun σ2 H2=>tb { D with nx:=N,ct:=N,bk:=D.nx } σ2 H2)
theorem zBQ{body:List Stmt}{tb:TS}(hp:PassesOwn (model X.prog X.w) X.A X.env X.xe)(hc:X.calm=true)(hi:PI X tg iter wi)(hg:PG X tg g)(hb:PSs X body tb)
  (hs:∀x,qJ7 iter X.env x=pure x:=by intro _;rfl):PS X (.For tg iter body [] pos) (fun D σ H=>wi σ H (zSV g tb D σ)):=zZW hp hc hi hg hb hs
end
inductive Dat where
 |non|bl (b:Bool)|int (i:Int)|str (x:Str)|lst (xs:List Dat)|tup (xs:List Dat)
mutual
def Dat.dep:Dat->Nat
 |.lst xs=>Dat.depL xs+1
 |.tup xs=>Dat.depL xs+1
 |_=>0
def Dat.depL:List Dat->Nat
 |[]=>0
 |x::r=>max x.dep (Dat.depL r)
end
mutual
def Dat.eq:Dat->Dat->Bool
 |.non,.non=>true
 |.bl a,.bl b=>a==b
 |.bl a,.int b=>(if a then 1 else 0)==b
 |.int a,.bl b=>a==(if b then 1 else 0)
 |.int a,.int b=>a==b
 |.str a,.str b=>a==b
 |.lst xs,.lst ys=>Dat.eqL xs ys
 |.tup xs,.tup ys=>Dat.eqL xs ys
 |_,_=>false
def Dat.eqL:List Dat->List Dat->Bool
 |[],[]=>true
 |x::r,y::q=>Dat.eq x y&&Dat.eqL r q
 |_,_=>false
end
mutual
def Rep(H:Hp):Dat->V->Prop
 |.non,v=>v=.non
 |.bl b,v=>v=.bl b
 |.int i,v=>v=.int i
 |.str x,v=>v=.str x
 |.lst ds,v=>∃a xs,v=.ref a/\H a=some (.lst xs)/\RepL H ds xs
 |.tup ds,v=>∃a xs,v=.ref a/\H a=some (.tup xs)/\RepL H ds xs
def RepL(H:Hp):List Dat->List V->Prop
 |[],xs=>xs=[]
 |d::r,xs=>∃x q,xs=x::q/\Rep H d x/\RepL H r q
end
mutual
theorem Rep.mono{H H':Hp}(s:Same H H'):∀{d:Dat}{v:V},Rep H d v->Rep H' d v
 |.non,_,h=>h
 |.bl _,_,h=>h
 |.int _,_,h=>h
 |.str _,_,h=>h
 |.lst _,_,h=>by obtain⟨a,xs,e,e',r⟩:=h;exact⟨a,xs,e,s _ _ e',RepL.mono s r⟩
 |.tup _,_,h=>by obtain⟨a,xs,e,e',r⟩:=h;exact⟨a,xs,e,s _ _ e',RepL.mono s r⟩
theorem RepL.mono{H H':Hp}(s:Same H H'):∀{ds:List Dat}{xs:List V},RepL H ds xs->RepL H' ds xs
 |[],_,h=>h
 |_::_,_,h=>by obtain⟨x,q,e,r,t⟩:=h;exact⟨x,q,e,Rep.mono s r,RepL.mono s t⟩
end
mutual
theorem Rep.inj{H:Hp}:∀{d e:Dat}{v:V},Rep H d v->Rep H e v->d=e
 |.non,e,v,h,h'=>by cases h;cases e<;>first|rfl|(cases h';done)|(obtain⟨a,xs,z,_⟩:=h';cases z)
 |.bl b,e,v,h,h'=>by cases h;cases e<;>first|(cases h';rfl)|(cases h';done)|(obtain⟨a,xs,z,_⟩:=h';cases z)
 |.int b,e,v,h,h'=>by cases h;cases e<;>first|(cases h';rfl)|(cases h';done)|(obtain⟨a,xs,z,_⟩:=h';cases z)
 |.str b,e,v,h,h'=>by cases h;cases e<;>first|(cases h';rfl)|(cases h';done)|(obtain⟨a,xs,z,_⟩:=h';cases z)
 |.lst ds,e,v,h,h'=>by
  obtain⟨a,xs,rfl,ha,q⟩:=h;cases e with
  |lst es=>
   obtain⟨b,ys,z,hb,q'⟩:=h';cases z;rw[ha]at hb;cases hb;rw[RepL.inj q q']
  |tup es=>
   obtain⟨b,ys,z,hb,q'⟩:=h';cases z;rw[ha]at hb;cases hb
  |_=>cases h'
 |.tup ds,e,v,h,h'=>by
  obtain⟨a,xs,rfl,ha,q⟩:=h;cases e with
  |tup es=>
   obtain⟨b,ys,z,hb,q'⟩:=h';cases z;rw[ha]at hb;cases hb;rw[RepL.inj q q']
  |lst es=>
   obtain⟨b,ys,z,hb,q'⟩:=h';cases z;rw[ha]at hb;cases hb
  |_=>cases h'
theorem RepL.inj{H:Hp}:∀{ds es:List Dat}{xs:List V},RepL H ds xs->RepL H es xs->ds=es
 |[],[],_,_,_=>rfl
 |[],_::_,_,h,h'=>by cases h;obtain⟨x,q,e,_⟩:=h';cases e
 |_::_,[],_,h,h'=>by cases h';obtain⟨x,q,e,_⟩:=h;cases e
 |d::r,e::t,_,h,h'=>by
  obtain⟨x,q,rfl,r1,t1⟩:=h;obtain⟨x',q',z,r2,t2⟩:=h';cases z;rw[Rep.inj r1 r2,RepL.inj t1 t2]
end
mutual
theorem Dat.eq_refl:∀d:Dat,Dat.eq d d=true
 |.non=>by simp[Dat.eq]
 |.bl _=>by simp[Dat.eq]
 |.int _=>by simp[Dat.eq]
 |.str _=>by simp[Dat.eq]
 |.lst xs=>by rw[Dat.eq];exact Dat.eqL_refl xs
 |.tup xs=>by rw[Dat.eq];exact Dat.eqL_refl xs
theorem Dat.eqL_refl:∀ds:List Dat,Dat.eqL ds ds=true
 |[]=>by simp[Dat.eqL]
 |d::r=>by rw[Dat.eqL,Dat.eq_refl d,Dat.eqL_refl r];rfl
end
theorem RepL.length{H:Hp}:∀{ds:List Dat}{xs:List V},RepL H ds xs->xs.length=ds.length
 |[],_,h=>by cases h;rfl
 |_::_,_,h=>by obtain⟨x,q,e,r,t⟩:=h;subst e;simp[RepL.length t]
theorem Dat.eqL_len:∀{xs ys:List Dat},xs.length≠ys.length->Dat.eqL xs ys=false
 |[],[],h=>absurd rfl h
 |[],_::_,_=>by simp[Dat.eqL]
 |_::_,[],_=>by simp[Dat.eqL]
 |x::r,y::q,h=>by
  rw[Dat.eqL,Dat.eqL_len (fun e=>h (by simp[e])),qCn]
theorem Dat.eqL_all:∀{xs ys:List Dat},xs.length=ys.length->∀(e:Nat->Bool),(∀j (h1:j<xs.length) (h2:j<ys.length),e j=Dat.eq xs[j] ys[j])->(qA9 xs.length).all e=Dat.eqL xs ys
 |[],[],_,_,_=>by simp[Dat.eqL]
 |[],_::_,h,_,_=>by simp at h
 |_::_,[],h,_,_=>by simp at h
 |x::r,y::q,h,e,he=>by
  have hl:r.length=q.length:=by simpa using h
  rw[qAx,List.range_succ_eq_map,qCx,Dat.eqL,he 0 (by simp) (by simp)]
  have:=Dat.eqL_all (xs:=r) (ys:=q) hl (fun j=>e (j+1)) (fun j h1 h2=>by
   rw[he (j+1) (by simpa using h1) (by simpa using h2)];simp)
  rw[<- this,List.all_map];rfl
theorem RepL.get{H:Hp}:∀{ds:List Dat}{xs:List V}{i:Nat}{x:V},RepL H ds xs->xs[i]?=some x->∃d,ds[i]?=some d/\Rep H d x
 |[],_,_,_,h,e=>by cases h;simp at e
 |d::_,_,0,_,h,e=>by obtain⟨x,q,e1,r,t⟩:=h;subst e1;simp at e;subst e;exact⟨d,rfl,r⟩
 |_::_,_,i+1,_,h,e=>by
  obtain⟨x,q,e1,r,t⟩:=h;subst e1;obtain⟨d',h1,h2⟩:=RepL.get (i:=i) t (by simpa using e);exact⟨d',by simpa using h1,h2⟩
theorem Dat.depL_mem{d:Dat}:∀{ds:List Dat},d∈ds->d.dep<=Dat.depL ds
 |_::_,h=>by
  rw[Dat.depL]
  rcases qA6.mp h with rfl|h
  ·exact Nat.le_max_left _ _
  ·exact qAr (Dat.depL_mem h) (Nat.le_max_right _ _)
section
variable{P:qI0}{w:World}{H:Hp}
theorem zDL(A:qI4):A.in1.units=A.units+1:=rfl
theorem zAV{s:qHx}{a:Addr}{xs:List V}(ok:HOk P w H s.heap)(h:H a=some (.lst xs)):∃its:List Value,Vals xs its/\s.heap.IsList a its.toArray:=by
 obtain⟨_,its,n,r,e⟩:=ok a _ h;exact⟨its,r,⟨_,e,rfl,n,rfl⟩⟩
theorem zB6{s:qHx}{a:Addr}{xs:List V}(ok:HOk P w H s.heap)(h:H a=some (.tup xs)):∃its:List Value,Vals xs its/\s.heap.IsTuple a its.toArray:=by
 obtain⟨_,its,r,e⟩:=ok a _ h;exact⟨its,r,e⟩
theorem Rep.flat{d:Dat}{v:V}(h:Rep H d v)(hf:d.dep=0):zDN v=true:=by
 cases d with
 |non=>cases h;rfl
 |bl _=>cases h;rfl
 |int _=>cases h;rfl
 |str _=>cases h;rfl
 |lst _=>simp[Dat.dep]at hf
 |tup _=>simp[Dat.dep]at hf
theorem Rep.flatEq{d e:Dat}{v u:V}(h:Rep H d v)(h':Rep H e u)(hf:d.dep=0)(hf':e.dep=0):eqV v u=Dat.eq d e:=by
 cases d<;>cases e<;>first
  |(simp[Dat.dep]at hf;done)
  |(simp[Dat.dep]at hf';done)
  |(cases h;cases h';simp[eqV,Dat.eq];done)
theorem zUB:∀(n:Nat){d e:Dat}{v u:V}{x y:Value}{A:qI4}{s:qHx},d.dep<=n->HOk P w H s.heap->Rep H d v->Rep H e u->RelV v x->RelV u y->A.units+n<cLine->qJi A s x y (Dat.eq d e):=by
 intro n
 induction n with
 |zero=>
  intro d e v u x y A s hd ok h1 h2 r1 r2 hu;have f1:=h1.flat (by lia)
  by_cases he:e.dep=0
  ·have f2:=h2.flat he
   have:=zW2 (A:=A) (s:=s) r1 r2 f1 f2
   rw[h1.flatEq h2 (by lia) he]at this;exact this
  ·have hu':A.units<cLine:=by lia
   cases e with
   |lst ys=>
    obtain⟨a,xs,rfl,ha,_⟩:=h2;obtain⟨its,_,hl⟩:=zAV ok ha;cases r2;cases d with
    |non=>cases h1;cases r1;exact SeqAt.EqAt.none_list hl hu'
    |bl b=>cases h1;cases r1;exact SeqAt.EqAt.bool_list b hl hu'
    |int i=>cases h1;obtain⟨t,rfl⟩:=r1;exact SeqAt.EqAt.int_list i t hl hu'
    |str z=>cases h1;obtain⟨t,rfl⟩:=r1;exact SeqAt.EqAt.str_list z t hl hu'
    |lst _=>simp[Dat.dep]at hd
    |tup _=>simp[Dat.dep]at hd
   |tup ys=>
    obtain⟨a,xs,rfl,ha,_⟩:=h2;obtain⟨its,_,hl⟩:=zB6 ok ha;cases r2;cases d with
    |non=>cases h1;cases r1;exact SeqAt.EqAt.none_tuple hl hu'
    |bl b=>cases h1;cases r1;exact SeqAt.EqAt.bool_tuple b hl hu'
    |int i=>cases h1;obtain⟨t,rfl⟩:=r1;exact SeqAt.EqAt.int_tuple i t hl hu'
    |str z=>cases h1;obtain⟨t,rfl⟩:=r1;exact SeqAt.EqAt.str_tuple z t hl hu'
    |lst _=>simp[Dat.dep]at hd
    |tup _=>simp[Dat.dep]at hd
   |_=>simp[Dat.dep]at he
 |succ n ih=>
  intro d e v u x y A s hd ok h1 h2 r1 r2 hu
  by_cases hd0:d.dep<=n
  ·exact ih hd0 ok h1 h2 r1 r2 (by lia)
  have hu':A.units<cLine:=by lia
  have pairs:∀{ds es:List Dat}{xs ys:List V}{its its2:List Value},Dat.depL ds<=n->RepL H ds xs->RepL H es ys->Vals xs its->Vals ys its2->∀j (h1:j<its.toArray.size) (h2:j<its2.toArray.size),
    qJi A.in1 s its.toArray[j] its2.toArray[j] (Dat.eq (ds.getD j .non) (es.getD j .non)):=by
   intro ds es xs ys its its2 hdl q1 q2 v1 v2 j j1 j2;have l1:j<xs.length:=by have:=v1.length;simp at j1;lia
   have l2:j<ys.length:=by have:=v2.length;simp at j2;lia
   obtain⟨d',e1,p1⟩:=q1.get (i:=j) (x:=xs[j]) (by simp[l1]);obtain⟨e',e2,p2⟩:=q2.get (i:=j) (x:=ys[j]) (by simp[l2]);obtain⟨w1,g1,z1⟩:=v1.get (i:=j) (x:=xs[j]) (by simp[l1]);obtain⟨w2,g2,z2⟩:=v2.get (i:=j) (x:=ys[j]) (by simp[l2]);have k1:its.toArray[j]=w1:=by
    obtain⟨_,k⟩:=qA2.mp g1
    simpa using k
   have k2:its2.toArray[j]=w2:=by
    obtain⟨_,k⟩:=qA2.mp g2
    simpa using k
   rw[k1,k2,qA0,qA0,e1,e2];exact ih (qAr (Dat.depL_mem (qB1 e1)) hdl) ok p1 p2 z1 z2 (by rw[zDL];lia)
  cases d with
  |lst ds=>
   have hdl:Dat.depL ds<=n:=by rw[Dat.dep]at hd;lia
   obtain⟨a,xs,rfl,ha,q1⟩:=h1;obtain⟨its,v1,hl1⟩:=zAV ok ha;cases r1;cases e with
   |non=>cases h2;cases r2;exact SeqAt.EqAt.list_none hl1 hu'
   |bl b=>cases h2;cases r2;exact SeqAt.EqAt.list_bool b hl1 hu'
   |int i=>cases h2;obtain⟨t,rfl⟩:=r2;exact SeqAt.EqAt.list_int i t hl1 hu'
   |str z=>cases h2;obtain⟨t,rfl⟩:=r2;exact SeqAt.EqAt.list_str z t hl1 hu'
   |tup es=>
    obtain⟨b,ys,rfl,hb,q2⟩:=h2;obtain⟨its2,v2,hl2⟩:=zB6 ok hb;cases r2;exact qJ4 (zOX ha hb (fun z=>nomatch z)) (qKd hl1 hl2 hu')
   |lst es=>
    obtain⟨b,ys,rfl,hb,q2⟩:=h2;obtain⟨its2,v2,hl2⟩:=zAV ok hb;cases r2;have len1:its.toArray.size=ds.length:=by have:=v1.length;have:=q1.length;simp;lia
    have len2:its2.toArray.size=es.length:=by have:=v2.length;have:=q2.length;simp;lia
    show qJi A s (.ref a) (.ref b) (Dat.eqL ds es)
    by_cases hne:a=b
    ·
     subst hne;rw[ha]at hb;cases hb;have same:Dat.eqL ds es=true:=by
      rw[RepL.inj q1 q2];exact Dat.eqL_refl _
     rw[same];exact qJj _
    ·refine qJ4 hne ?_
     by_cases hs:ds.length=es.length
     ·have:=qLg (A:=A) (s:=s) hl1 hl2 (by rw[len1,len2,hs]) hu' (pairs hdl q1 q2 v1 v2)
      rw[len1,Dat.eqL_all hs _ (fun j h1 h2=>by rw[qA0,qA0];simp[h1,h2])]at this;exact this
     ·rw[Dat.eqL_len hs];exact qJy hl1 hl2 (by rw[len1,len2];simpa using hs) hu'
  |tup ds=>
   have hdl:Dat.depL ds<=n:=by rw[Dat.dep]at hd;lia
   obtain⟨a,xs,rfl,ha,q1⟩:=h1;obtain⟨its,v1,hl1⟩:=zB6 ok ha;cases r1;cases e with
   |non=>cases h2;cases r2;exact SeqAt.EqAt.tuple_none hl1 hu'
   |bl b=>cases h2;cases r2;exact SeqAt.EqAt.tuple_bool b hl1 hu'
   |int i=>cases h2;obtain⟨t,rfl⟩:=r2;exact SeqAt.EqAt.tuple_int i t hl1 hu'
   |str z=>cases h2;obtain⟨t,rfl⟩:=r2;exact SeqAt.EqAt.tuple_str z t hl1 hu'
   |lst es=>
    obtain⟨b,ys,rfl,hb,q2⟩:=h2;obtain⟨its2,v2,hl2⟩:=zAV ok hb;cases r2;exact qJ4 (zOX ha hb (fun z=>nomatch z)) (qKe hl1 hl2 hu')
   |tup es=>
    obtain⟨b,ys,rfl,hb,q2⟩:=h2;obtain⟨its2,v2,hl2⟩:=zB6 ok hb;cases r2;have len1:its.toArray.size=ds.length:=by have:=v1.length;have:=q1.length;simp;lia
    have len2:its2.toArray.size=es.length:=by have:=v2.length;have:=q2.length;simp;lia
    show qJi A s (.ref a) (.ref b) (Dat.eqL ds es)
    by_cases hne:a=b
    ·subst hne;rw[ha]at hb;cases hb;have same:Dat.eqL ds es=true:=by
      rw[RepL.inj q1 q2];exact Dat.eqL_refl _
     rw[same];exact qJj _
    ·refine qJ4 hne ?_
     have:=qL8 (A:=A) (s:=s) hl1 hl2 hu' (pairs hdl q1 q2 v1 v2)
     by_cases hs:ds.length=es.length
     ·rw[len1,len2,<- hs,qFy,beq_self_eq_true,qEd,Dat.eqL_all hs _ (fun j h1 h2=>by rw[qA0,qA0];simp[h1,h2])]at this;exact this
     ·rw[len1,len2,show(ds.length==es.length)=false by simpa using hs,qCn]at this;rw[Dat.eqL_len hs];exact this
  |_=>simp[Dat.dep]at hd0
theorem zG8{n:Nat}{A:qI4}{s:qHx}(ok:HOk P w H s.heap){ds es:List Dat}{xs ys:List V}{its its2:List Value}(hdl:Dat.depL ds<=n)(hu:A.units+n<cLine)(q1:RepL H ds xs)(q2:RepL H es ys)(v1:Vals xs its)(v2:Vals ys its2) :
  ∀j (h1:j<its.toArray.size) (h2:j<its2.toArray.size),qJi A s its.toArray[j] its2.toArray[j] (Dat.eq (ds.getD j .non) (es.getD j .non)):=by
 intro j j1 j2;have l1:j<xs.length:=by have:=v1.length;simp at j1;lia
 have l2:j<ys.length:=by have:=v2.length;simp at j2;lia
 obtain⟨d',e1,p1⟩:=q1.get (i:=j) (x:=xs[j]) (by simp[l1]);obtain⟨e',e2,p2⟩:=q2.get (i:=j) (x:=ys[j]) (by simp[l2]);obtain⟨w1,g1,z1⟩:=v1.get (i:=j) (x:=xs[j]) (by simp[l1]);obtain⟨w2,g2,z2⟩:=v2.get (i:=j) (x:=ys[j]) (by simp[l2]);have k1:its.toArray[j]=w1:=by
  obtain⟨_,k⟩:=qA2.mp g1
  simpa using k
 have k2:its2.toArray[j]=w2:=by
  obtain⟨_,k⟩:=qA2.mp g2
  simpa using k
 rw[k1,k2,qA0,qA0,e1,e2];exact zUB n (qAr (Dat.depL_mem (qB1 e1)) hdl) ok p1 p2 z1 z2 hu
theorem zT9(n:Nat){d e:Dat}{v u:V}{x y:Value}{A:qI4}{s:qHx}(hd:d.dep<=n)(ok:HOk P w H s.heap)(h1:Rep H d v)(h2:Rep H e u)(r1:RelV v x)(r2:RelV u y)(hu:A.units+n<cLine):qLs A s x y (Dat.eq d e):=by
 have hu':A.units<cLine:=by lia
 cases d with
 |non=>
  cases h1;cases r1;cases e with
  |non=>
   cases h2;cases r2;exact SeqAt.RcAt.none_none
  |bl b=>
   cases h2;cases r2;exact SeqAt.RcAt.none_bool b
  |int b=>
   cases h2;obtain⟨t2,rfl⟩:=r2;exact SeqAt.RcAt.none_int b t2
  |str b=>
   cases h2;obtain⟨t2,rfl⟩:=r2;exact SeqAt.RcAt.none_str b t2
  |lst es=>
   obtain⟨p2,ys,rfl,hb,q2⟩:=h2;obtain⟨its2,v2,hl2⟩:=zAV ok hb;cases r2;exact SeqAt.RcAt.none_list hl2 hu'
  |tup es=>
   obtain⟨p2,ys,rfl,hb,q2⟩:=h2;obtain⟨its2,v2,hl2⟩:=zB6 ok hb;cases r2;exact SeqAt.RcAt.none_tuple hl2 hu'
 |bl a=>
  cases h1;cases r1;cases e with
  |non=>
   cases h2;cases r2;exact SeqAt.RcAt.bool_none a
  |bl b=>
   cases h2;cases r2;exact SeqAt.RcAt.bool_bool a b
  |int b=>
   cases h2;obtain⟨t2,rfl⟩:=r2;exact SeqAt.RcAt.bool_int a b t2
  |str b=>
   cases h2;obtain⟨t2,rfl⟩:=r2;exact SeqAt.RcAt.bool_str a b t2
  |lst es=>
   obtain⟨p2,ys,rfl,hb,q2⟩:=h2;obtain⟨its2,v2,hl2⟩:=zAV ok hb;cases r2;exact SeqAt.RcAt.bool_list a hl2 hu'
  |tup es=>
   obtain⟨p2,ys,rfl,hb,q2⟩:=h2;obtain⟨its2,v2,hl2⟩:=zB6 ok hb;cases r2;exact SeqAt.RcAt.bool_tuple a hl2 hu'
 |int a=>
  cases h1;obtain⟨t1,rfl⟩:=r1;cases e with
  |non=>
   cases h2;cases r2;exact SeqAt.RcAt.int_none a t1
  |bl b=>
   cases h2;cases r2;exact SeqAt.RcAt.int_bool a t1 b
  |int b=>
   cases h2;obtain⟨t2,rfl⟩:=r2;exact SeqAt.RcAt.int_int a t1 b t2
  |str b=>
   cases h2;obtain⟨t2,rfl⟩:=r2;exact SeqAt.RcAt.int_str a t1 b t2
  |lst es=>
   obtain⟨p2,ys,rfl,hb,q2⟩:=h2;obtain⟨its2,v2,hl2⟩:=zAV ok hb;cases r2;exact SeqAt.RcAt.int_list a t1 hl2 hu'
  |tup es=>
   obtain⟨p2,ys,rfl,hb,q2⟩:=h2;obtain⟨its2,v2,hl2⟩:=zB6 ok hb;cases r2;exact SeqAt.RcAt.int_tuple a t1 hl2 hu'
 |str a=>
  cases h1;obtain⟨t1,rfl⟩:=r1;cases e with
  |non=>
   cases h2;cases r2;exact SeqAt.RcAt.str_none a t1
  |bl b=>
   cases h2;cases r2;exact SeqAt.RcAt.str_bool a t1 b
  |int b=>
   cases h2;obtain⟨t2,rfl⟩:=r2;exact SeqAt.RcAt.str_int a t1 b t2
  |str b=>
   cases h2;obtain⟨t2,rfl⟩:=r2;exact SeqAt.RcAt.str_str a t1 b t2
  |lst es=>
   obtain⟨p2,ys,rfl,hb,q2⟩:=h2;obtain⟨its2,v2,hl2⟩:=zAV ok hb;cases r2;exact SeqAt.RcAt.str_list a t1 hl2 hu'
  |tup es=>
   obtain⟨p2,ys,rfl,hb,q2⟩:=h2;obtain⟨its2,v2,hl2⟩:=zB6 ok hb;cases r2;exact SeqAt.RcAt.str_tuple a t1 hl2 hu'
 |lst ds=>
  have hdl:Dat.depL ds+1<=n:=by rw[Dat.dep]at hd;exact hd
  obtain⟨p,xs,rfl,ha,q1⟩:=h1;obtain⟨its,v1,hl1⟩:=zAV ok ha;cases r1;cases e with
  |non=>
   cases h2;cases r2;exact SeqAt.RcAt.list_none hl1 hu'
  |bl b=>
   cases h2;cases r2;exact SeqAt.RcAt.list_bool b hl1 hu'
  |int b=>
   cases h2;obtain⟨t2,rfl⟩:=r2;exact SeqAt.RcAt.list_int b t2 hl1 hu'
  |str b=>
   cases h2;obtain⟨t2,rfl⟩:=r2;exact SeqAt.RcAt.list_str b t2 hl1 hu'
  |lst es=>
   obtain⟨p2,ys,rfl,hb,q2⟩:=h2;obtain⟨its2,v2,hl2⟩:=zAV ok hb;cases r2;have len1:its.toArray.size=ds.length:=by have:=v1.length;have:=q1.length;simp;lia
   have len2:its2.toArray.size=es.length:=by have:=v2.length;have:=q2.length;simp;lia
   show qLs A s (.ref p) (.ref p2) (Dat.eqL ds es)
   by_cases hs:ds.length=es.length
   ·have:=qLg (A:=A) (s:=s) hl1 hl2 (by rw[len1,len2,hs]) hu' (zG8 ok (by lia) (by rw[zDL];lia:A.in1.units+(n-1)<cLine) q1 q2 v1 v2)
    rw[len1,Dat.eqL_all hs _ (fun j h1 h2=>by rw[qA0,qA0];simp[h1,h2])]at this;exact this
   ·rw[Dat.eqL_len hs];exact qJy hl1 hl2 (by rw[len1,len2];simpa using hs) hu'
  |tup es=>
   obtain⟨p2,ys,rfl,hb,q2⟩:=h2;obtain⟨its2,v2,hl2⟩:=zB6 ok hb;cases r2;exact qKd hl1 hl2 hu'
 |tup ds=>
  have hdl:Dat.depL ds+1<=n:=by rw[Dat.dep]at hd;exact hd
  obtain⟨p,xs,rfl,ha,q1⟩:=h1;obtain⟨its,v1,hl1⟩:=zB6 ok ha;cases r1;cases e with
  |non=>
   cases h2;cases r2;exact SeqAt.RcAt.tuple_none hl1 hu'
  |bl b=>
   cases h2;cases r2;exact SeqAt.RcAt.tuple_bool b hl1 hu'
  |int b=>
   cases h2;obtain⟨t2,rfl⟩:=r2;exact SeqAt.RcAt.tuple_int b t2 hl1 hu'
  |str b=>
   cases h2;obtain⟨t2,rfl⟩:=r2;exact SeqAt.RcAt.tuple_str b t2 hl1 hu'
  |lst es=>
   obtain⟨p2,ys,rfl,hb,q2⟩:=h2;obtain⟨its2,v2,hl2⟩:=zAV ok hb;cases r2;exact qKe hl1 hl2 hu'
  |tup es=>
   obtain⟨p2,ys,rfl,hb,q2⟩:=h2;obtain⟨its2,v2,hl2⟩:=zB6 ok hb;cases r2;have len1:its.toArray.size=ds.length:=by have:=v1.length;have:=q1.length;simp;lia
   have len2:its2.toArray.size=es.length:=by have:=v2.length;have:=q2.length;simp;lia
   show qLs A s (.ref p) (.ref p2) (Dat.eqL ds es)
   have:=qL8 (A:=A) (s:=s) hl1 hl2 hu' (zG8 ok (by lia) (by rw[zDL];lia:A.in1.units+(n-1)<cLine) q1 q2 v1 v2)
   by_cases hs:ds.length=es.length
   ·rw[len1,len2,<- hs,qFy,beq_self_eq_true,qEd,Dat.eqL_all hs _ (fun j h1 h2=>by rw[qA0,qA0];simp[h1,h2])]at this;exact this
   ·rw[len1,len2,show(ds.length==es.length)=false by simpa using hs,qCn]at this;rw[Dat.eqL_len hs];exact this
theorem zOR(n:Nat){d e:Dat}{v u:V}{x y:Value}{A:qI4}{s:qHx}(hd:d.dep<=n)(ok:HOk P w H s.heap)(h1:Rep H d v)(h2:Rep H e u)(r1:RelV v x)(r2:RelV u y)(hu:A.units+n<cLine):qLe A s x y (!Dat.eq d e):=by
 have hu':A.units<cLine:=by lia
 cases d with
 |non=>
  cases h1;cases r1;cases e with
  |non=>
   cases h2;cases r2;exact SeqAt.RcNeAt.none_none
  |bl b=>
   cases h2;cases r2;exact SeqAt.RcNeAt.none_bool b
  |int b=>
   cases h2;obtain⟨t2,rfl⟩:=r2;exact SeqAt.RcNeAt.none_int b t2
  |str b=>
   cases h2;obtain⟨t2,rfl⟩:=r2;exact SeqAt.RcNeAt.none_str b t2
  |lst es=>
   obtain⟨p2,ys,rfl,hb,q2⟩:=h2;obtain⟨its2,v2,hl2⟩:=zAV ok hb;cases r2;exact SeqAt.RcNeAt.none_list hl2 hu'
  |tup es=>
   obtain⟨p2,ys,rfl,hb,q2⟩:=h2;obtain⟨its2,v2,hl2⟩:=zB6 ok hb;cases r2;exact SeqAt.RcNeAt.none_tuple hl2 hu'
 |bl a=>
  cases h1;cases r1;cases e with
  |non=>
   cases h2;cases r2;exact SeqAt.RcNeAt.bool_none a
  |bl b=>
   cases h2;cases r2;exact SeqAt.RcNeAt.bool_bool a b
  |int b=>
   cases h2;obtain⟨t2,rfl⟩:=r2;exact SeqAt.RcNeAt.bool_int a b t2
  |str b=>
   cases h2;obtain⟨t2,rfl⟩:=r2;exact SeqAt.RcNeAt.bool_str a b t2
  |lst es=>
   obtain⟨p2,ys,rfl,hb,q2⟩:=h2;obtain⟨its2,v2,hl2⟩:=zAV ok hb;cases r2;exact SeqAt.RcNeAt.bool_list a hl2 hu'
  |tup es=>
   obtain⟨p2,ys,rfl,hb,q2⟩:=h2;obtain⟨its2,v2,hl2⟩:=zB6 ok hb;cases r2;exact SeqAt.RcNeAt.bool_tuple a hl2 hu'
 |int a=>
  cases h1;obtain⟨t1,rfl⟩:=r1;cases e with
  |non=>
   cases h2;cases r2;exact SeqAt.RcNeAt.int_none a t1
  |bl b=>
   cases h2;cases r2;exact SeqAt.RcNeAt.int_bool a t1 b
  |int b=>
   cases h2;obtain⟨t2,rfl⟩:=r2;exact SeqAt.RcNeAt.int_int a t1 b t2
  |str b=>
   cases h2;obtain⟨t2,rfl⟩:=r2;exact SeqAt.RcNeAt.int_str a t1 b t2
  |lst es=>
   obtain⟨p2,ys,rfl,hb,q2⟩:=h2;obtain⟨its2,v2,hl2⟩:=zAV ok hb;cases r2;exact SeqAt.RcNeAt.int_list a t1 hl2 hu'
  |tup es=>
   obtain⟨p2,ys,rfl,hb,q2⟩:=h2;obtain⟨its2,v2,hl2⟩:=zB6 ok hb;cases r2;exact SeqAt.RcNeAt.int_tuple a t1 hl2 hu'
 |str a=>
  cases h1;obtain⟨t1,rfl⟩:=r1;cases e with
  |non=>
   cases h2;cases r2;exact SeqAt.RcNeAt.str_none a t1
  |bl b=>
   cases h2;cases r2;exact SeqAt.RcNeAt.str_bool a t1 b
  |int b=>
   cases h2;obtain⟨t2,rfl⟩:=r2;exact SeqAt.RcNeAt.str_int a t1 b t2
  |str b=>
   cases h2;obtain⟨t2,rfl⟩:=r2;exact SeqAt.RcNeAt.str_str a t1 b t2
  |lst es=>
   obtain⟨p2,ys,rfl,hb,q2⟩:=h2;obtain⟨its2,v2,hl2⟩:=zAV ok hb;cases r2;exact SeqAt.RcNeAt.str_list a t1 hl2 hu'
  |tup es=>
   obtain⟨p2,ys,rfl,hb,q2⟩:=h2;obtain⟨its2,v2,hl2⟩:=zB6 ok hb;cases r2;exact SeqAt.RcNeAt.str_tuple a t1 hl2 hu'
 |lst ds=>
  have hdl:Dat.depL ds+1<=n:=by rw[Dat.dep]at hd;exact hd
  obtain⟨p,xs,rfl,ha,q1⟩:=h1;obtain⟨its,v1,hl1⟩:=zAV ok ha;cases r1;cases e with
  |non=>
   cases h2;cases r2;exact SeqAt.RcNeAt.list_none hl1 hu'
  |bl b=>
   cases h2;cases r2;exact SeqAt.RcNeAt.list_bool b hl1 hu'
  |int b=>
   cases h2;obtain⟨t2,rfl⟩:=r2;exact SeqAt.RcNeAt.list_int b t2 hl1 hu'
  |str b=>
   cases h2;obtain⟨t2,rfl⟩:=r2;exact SeqAt.RcNeAt.list_str b t2 hl1 hu'
  |lst es=>
   obtain⟨p2,ys,rfl,hb,q2⟩:=h2;obtain⟨its2,v2,hl2⟩:=zAV ok hb;cases r2;have len1:its.toArray.size=ds.length:=by have:=v1.length;have:=q1.length;simp;lia
   have len2:its2.toArray.size=es.length:=by have:=v2.length;have:=q2.length;simp;lia
   show qLe A s (.ref p) (.ref p2) (!Dat.eqL ds es)
   by_cases hs:ds.length=es.length
   ·have:=SeqAt.RcNeAt.lists (A:=A) (s:=s) hl1 hl2 (by rw[len1,len2,hs]) hu' (zG8 ok (by lia) (by rw[zDL];lia:A.in1.units+(n-1)<cLine) q1 q2 v1 v2)
    rw[len1,Dat.eqL_all hs _ (fun j h1 h2=>by rw[qA0,qA0];simp[h1,h2])]at this;exact this
   ·rw[Dat.eqL_len hs];exact SeqAt.RcNeAt.lists_lengths hl1 hl2 (by rw[len1,len2];simpa using hs) hu'
  |tup es=>
   obtain⟨p2,ys,rfl,hb,q2⟩:=h2;obtain⟨its2,v2,hl2⟩:=zB6 ok hb;cases r2;exact SeqAt.RcNeAt.list_tuple hl1 hl2 hu'
 |tup ds=>
  have hdl:Dat.depL ds+1<=n:=by rw[Dat.dep]at hd;exact hd
  obtain⟨p,xs,rfl,ha,q1⟩:=h1;obtain⟨its,v1,hl1⟩:=zB6 ok ha;cases r1;cases e with
  |non=>
   cases h2;cases r2;exact SeqAt.RcNeAt.tuple_none hl1 hu'
  |bl b=>
   cases h2;cases r2;exact SeqAt.RcNeAt.tuple_bool b hl1 hu'
  |int b=>
   cases h2;obtain⟨t2,rfl⟩:=r2;exact SeqAt.RcNeAt.tuple_int b t2 hl1 hu'
  |str b=>
   cases h2;obtain⟨t2,rfl⟩:=r2;exact SeqAt.RcNeAt.tuple_str b t2 hl1 hu'
  |lst es=>
   obtain⟨p2,ys,rfl,hb,q2⟩:=h2;obtain⟨its2,v2,hl2⟩:=zAV ok hb;cases r2;exact SeqAt.RcNeAt.tuple_list hl1 hl2 hu'
  |tup es=>
   obtain⟨p2,ys,rfl,hb,q2⟩:=h2;obtain⟨its2,v2,hl2⟩:=zB6 ok hb;cases r2;have len1:its.toArray.size=ds.length:=by have:=v1.length;have:=q1.length;simp;lia
   have len2:its2.toArray.size=es.length:=by have:=v2.length;have:=q2.length;simp;lia
   show qLe A s (.ref p) (.ref p2) (!Dat.eqL ds es)
   have:=SeqAt.RcNeAt.tuples (A:=A) (s:=s) hl1 hl2 hu' (zG8 ok (by lia) (by rw[zDL];lia:A.in1.units+(n-1)<cLine) q1 q2 v1 v2)
   by_cases hs:ds.length=es.length
   ·rw[len1,len2,<- hs,qFy,beq_self_eq_true,qEd,Dat.eqL_all hs _ (fun j h1 h2=>by rw[qA0,qA0];simp[h1,h2])]at this;exact this
   ·rw[len1,len2,show(ds.length==es.length)=false by simpa using hs,qCn]at this;rw[Dat.eqL_len hs];exact this
end
section
variable{X:Cx}
noncomputable def rEqD:R2:=fun x y H Q=>∃d e,Rep H d x/\Rep H e y/\d.dep<=40/\Q (.bl (Dat.eq d e)) H
noncomputable def rNeD:R2:=fun x y H Q=>∃d e,Rep H d x/\Rep H e y/\d.dep<=40/\Q (.bl (!Dat.eq d e)) H
theorem za7(hu:X.A.units+64<cLine):OpR X (compareOp .Eq) rEqD:=by
 intro pins s σ H x y v u Q I rx ry h;obtain⟨d,e,h1,h2,hd,q⟩:=h;exact zT9 40 hd I.hok h1 h2 rx ry (by lia) _ _ _ _ ⟨.bl _,H,I,rfl,q⟩
theorem za5(hu:X.A.units+64<cLine):OpR X (compareOp .NotEq) rNeD:=by
 intro pins s σ H x y v u Q I rx ry h;obtain⟨d,e,h1,h2,hd,q⟩:=h;exact zOR 40 hd I.hok h1 h2 rx ry (by lia) _ _ _ _ ⟨.bl _,H,I,rfl,q⟩
noncomputable def zD1(lo:Int)(n:Nat):List V:=(qA9 n).map fun i=>.int (lo+(i:Nat))
theorem zGF:∀{xs:List V}{its:List Value},xs.length=its.length->(∀(j:Nat)(x:V)(v:Value),xs[j]?=some x->its[j]?=some v->RelV x v)->Vals xs its
 |[],[],_,_=>.nil
 |[],_::_,h,_=>by simp at h
 |_::_,[],h,_=>by simp at h
 |x::xs,v::its,h,g=>.cons (g 0 x v rfl rfl) (zGF (by simpa using h) fun j y u e1 e2=>g (j+1) y u (by simpa using e1) (by simpa using e2))
theorem zPJ{lo:Int}{n:Nat}{its:List Value}(hl:its.length=n)(h:∀(j:Nat) (v:Value),its[j]?=some v->∃t,v=qKa (lo+(j:Int)*1) t):Vals (zD1 lo n) its:=by
 refine zGF (by simp[zD1,hl]) fun j x v e1 e2=>?_
 unfold zD1 at e1;rw[qAf]at e1;cases e:(qA9 n)[j]? with
 |none=>rw[e]at e1;cases e1
 |some i=>
  rw[e]at e1;cases e1;have hi:i=j:=by
   obtain⟨h1,h2⟩:=qA2.mp e;rw[qC0]at h2;exact h2.symm
  subst hi;obtain⟨t,ht⟩:=h i v e2;exact⟨t,by rw[ht,qHm]⟩
theorem zSB:zCE X (.type "range") (fun vs H Q=>∃j:Int,vs=[.int j]/\∀p,H p=none->Q (.ref p) (upd H p (.rng 0 j))):=by
 intro pins s σ H vs us Q I r h;obtain⟨j,rfl,q⟩:=h;obtain⟨u,rfl,rx⟩:=zF8 r;obtain⟨t,rfl⟩:=rx;exact call_range_1 ⟨.ref _,_,I.laid (o:=.rng 0 j) (fun b o e=>qHy _ e) (qA7 _) ⟨_,_,_,qI1 _ rfl⟩,rfl,q _ I.fresh⟩
theorem zSA:zCE X (.type "range") (fun vs H Q=>∃i j:Int,vs=[.int i,.int j]/\∀p,H p=none->Q (.ref p) (upd H p (.rng i j))):=by
 intro pins s σ H vs us Q I r h;obtain⟨i,j,rfl,q⟩:=h;obtain⟨u,u',rfl,rx,rx'⟩:=zWL r;obtain⟨t,rfl⟩:=rx;obtain⟨t',rfl⟩:=rx';exact call_range_2 ⟨.ref _,_,I.laid (o:=.rng i j) (fun b o e=>qHy _ e) (qA7 _) ⟨_,_,_,qI1 _ rfl⟩,rfl,q _ I.fresh⟩
theorem zJJ(hc:X.calm=true):zCE X (.type "list") (fun vs H Q=>∃p lo hi,vs=[.ref p]/\H p=some (.rng lo hi)/\(-(2 ^ 62)<=lo/\lo<2 ^ 62/\-(2 ^ 62)<=hi/\hi<2 ^ 62)/\hi-lo<=1000000/\∀l,H l=none->Q (.ref l) (upd H l (.lst (zD1 lo (hi-lo).toNat)))):=by
 intro pins s σ H vs us Q I r h;obtain⟨p,lo,hi,rfl,hp,⟨b1,b2,b3,b4⟩,hz,q⟩:=h;obtain⟨u,rfl,rx⟩:=zF8 r;cases rx;obtain⟨t,u,v,e⟩:=(show ObjOk X.prog X.w H s.heap p (.rng lo hi) from I.hok p _ hp)
 have hn:qIm lo hi 1=(((hi-lo).toNat:Nat):Int):=by rw[rangeSize_one];split<;>lia
 refine call_list_range (n:=(hi-lo).toNat) (I.ok.hd hc) e (small_one b1 b2 b3 b4) hn (by lia) fun h' tk acc' c' hk hS hacc=>?_
 have rv:Vals (zD1 lo (hi-lo).toNat) acc'.toList:=zPJ (by simpa using hacc.1) fun j v hj=>hacc.2 j v (by simpa using hj)
 refine⟨.ref _,_,I.laid (o:=.lst (zD1 lo (hi-lo).toNat)) hk (qA7 _) ⟨?_,acc'.toList,c',rv,by simpa using hS⟩,rfl,q _ I.fresh⟩;have hl:(zD1 lo (hi-lo).toNat).length=(hi-lo).toNat:=by simp[zD1]
 rw[hl,qIq]
 lia
def zXA:R2:=fun x y H Q=>match x,y with
 |.int i,.int j=>Q (.int (i+j)) H
 |.str i,.str j=>i.length+j.length<=sizeLine/\Q (.str (i++j)) H
 |.ref l,.ref b=>∃xs zs,H l=some (.lst xs)/\H b=some (.lst zs)/\xs.length+zs.length<=sizeLine/\∀p,H p=none->Q (.ref p) (upd H p (.lst (xs++zs)))
 |_,_=>False
theorem zCX:OpR X (binaryOp .Add) zXA:=by
 intro pins s σ H x y v u Q I rx ry h;cases x<;>cases y<;>first
  |exact za9 pins s σ H _ _ v u Q I rx ry ⟨_,_,rfl,rfl,h⟩
  |exact zOU pins s σ H _ _ v u Q I rx ry ⟨_,_,rfl,rfl,h.1,h.2⟩
  |(obtain⟨xs,zs,h1,h2,h3,h4⟩:=h;exact za8 pins s σ H _ _ v u Q I rx ry ⟨_,_,xs,zs,rfl,rfl,h1,h2,h3,h4⟩)
  |exact qA8 h
noncomputable def rMulU:R2:=fun x y H Q=>match x,y with
 |.int i,.int j=>CMul i j/\Q (.int (i*j)) H
 |_,_=>False
noncomputable def zZN:R2:=fun x y H Q=>match x,y with
 |.int i,.int j=>Q (.int (i-j)) H
 |_,_=>False
theorem zc0:OpR X (binaryOp .Sub) zZN:=by
 intro pins s σ H x y v u Q I rx ry h;cases x<;>cases y<;>first
  |exact za3 pins s σ H _ _ v u Q I rx ry ⟨_,_,rfl,rfl,h⟩
  |exact qA8 h
noncomputable def zZS:R2:=fun x y H Q=>match x,y with
 |.int i,.int j=>0<j/\Q (.int (i%j)) H
 |_,_=>False
theorem zHJ:OpR X (binaryOp .Mod) zZS:=by
 intro pins s σ H x y v u Q I rx ry h;cases x<;>cases y<;>first
  |exact za6 pins s σ H _ _ v u Q I rx ry ⟨_,_,rfl,rfl,h.1,h.2⟩
  |exact qA8 h
noncomputable def zX8(p:Int->Int->Bool):R2:=fun x y H Q=>match x,y with
 |.int i,.int j=>Q (.bl (p i j)) H
 |_,_=>False
theorem u_lt:OpR X (compareOp .Lt) (zX8 fun i j=>decide (i<j)):=by
 intro pins s σ H x y v u Q I rx ry h;cases x<;>cases y<;>first
  |exact zcF pins s σ H _ _ v u Q I rx ry ⟨_,_,rfl,rfl,h⟩
  |exact qA8 h
theorem u_gt:OpR X (compareOp .Gt) (zX8 fun i j=>decide (j<i)):=by
 intro pins s σ H x y v u Q I rx ry h;cases x<;>cases y<;>first
  |exact zcG pins s σ H _ _ v u Q I rx ry ⟨_,_,rfl,rfl,h⟩
  |exact qA8 h
def rEqU:R2:=fun x y H Q=>match x,y with
 |.int i,.int j=>Q (.bl (decide (i=j))) H
 |.str i,.str j=>Q (.bl (decide (i=j))) H
 |.bl i,.bl j=>Q (.bl (decide (i=j))) H
 |x,y=>rEqD x y H Q
def rNeU:R2:=fun x y H Q=>match x,y with
 |.int i,.int j=>Q (.bl (!decide (i=j))) H
 |.str i,.str j=>Q (.bl (!decide (i=j))) H
 |.bl i,.bl j=>Q (.bl (!decide (i=j))) H
 |x,y=>rNeD x y H Q
theorem u_eq(hu:X.A.units+64<cLine):OpR X (compareOp .Eq) rEqU:=by
 intro pins s σ H x y v u Q I rx ry h;cases x<;>cases y<;>first
  |(refine zcH pins s σ H _ _ v u Q I rx ry ⟨rfl,?_⟩;have h':=h;simp only[rEqU]at h';simpa using h')
  |exact za7 hu pins s σ H _ _ v u Q I rx ry h
theorem u_ne(hu:X.A.units+64<cLine):OpR X (compareOp .NotEq) rNeU:=by
 intro pins s σ H x y v u Q I rx ry h;cases x<;>cases y<;>first
  |(refine zcE pins s σ H _ _ v u Q I rx ry ⟨rfl,?_⟩;have h':=h;simp only[rNeU]at h';simpa using h')
  |exact za5 hu pins s σ H _ _ v u Q I rx ry h
def rIxU(K:qA1):R2:=fun x y H Q=>match x,y with
 |.str z,.int i=>∃c,z.length<=sizeLine/\atI z.cps.toList i=some c/\Q (.str ⟨#[c]⟩) H
 |.ref p,.int i=>∃xs v,(SqL K H p xs\/SqT K H p xs)/\atI xs i=some v/\Q v H
 |_,_=>False
theorem u_ix:IxR X (rIxU X.K):=by
 intro value slice pins s σ H x y v u Q I rx ry h hs;cases x<;>cases y<;>first
  |(obtain⟨c,h1,h2,h3⟩:=h;exact zaQ value slice pins s σ H _ _ v u Q I rx ry ⟨_,_,c,rfl,rfl,h1,h2,h3⟩ hs)
  |(obtain⟨xs,w,h1|h1,h2,h3⟩:=h
    ·exact zY5 value slice pins s σ H _ _ v u Q I rx ry ⟨_,xs,_,w,rfl,rfl,h1,h2,h3⟩ hs
    ·exact zaO value slice pins s σ H _ _ v u Q I rx ry ⟨_,xs,_,w,rfl,rfl,h1,h2,h3⟩ hs)
  |exact qA8 h
def zX5(K:qA1):List V->Hp->VK->Prop:=fun vs H Q=>match vs with
 |[.str z]=>z.length<=sizeLine/\Q (.int z.length) H
 |[.ref p]=>∃xs,(SqL K H p xs\/SqT K H p xs)/\Q (.int xs.length) H
 |_=>False
theorem zcQ:zCE X (.builtin "len") (zX5 X.K):=by
 intro pins s σ H vs us Q I r h;cases vs with
 |nil=>exact qA8 h
 |cons hd1 tl1=>
  cases hd1 with
  |str z=>
   cases tl1 with
   |nil=>
    exact zL6 pins s σ H _ us Q I r ⟨z,rfl,h.1,h.2⟩
   |cons _ _=>exact qA8 h
  |ref p=>
   cases tl1 with
   |nil=>
    obtain⟨xs,h1,h2⟩:=h;exact zL7 pins s σ H _ us Q I r ⟨p,xs,rfl,h1,h2⟩
   |cons _ _=>exact qA8 h
  |_=>exact qA8 h
def zHV(K:qA1):List V->Hp->VK->Prop:=fun vs H Q=>match vs with
 |[.ref p]=>(∃xs,(SqL K H p xs\/SqT K H p xs)/\∀l,H l=none->Q (.ref l) (upd H l (.lst xs))) \/
   ∃lo hi,H p=some (.rng lo hi)/\(-(2 ^ 62)<=lo/\lo<2 ^ 62/\-(2 ^ 62)<=hi/\hi<2 ^ 62)/\hi-lo<=1000000/\∀l,H l=none->Q (.ref l) (upd H l (.lst (zD1 lo (hi-lo).toNat)))
 |_=>False
theorem zaI(hc:X.calm=true):zCE X (.type "list") (zHV X.K):=by
 intro pins s σ H vs us Q I r h;cases vs with
 |nil=>exact qA8 h
 |cons hd1 tl1=>
  cases hd1 with
  |ref p=>
   cases tl1 with
   |nil=>
    rcases h with⟨xs,h1,h2⟩|⟨lo,hi,h1,h2,h3,h4⟩
    ·exact zL5 pins s σ H _ us Q I r ⟨p,xs,rfl,h1,h2⟩
    ·exact zJJ hc pins s σ H _ us Q I r ⟨p,lo,hi,rfl,h1,h2,h3,h4⟩
   |cons _ _=>exact qA8 h
  |_=>exact qA8 h
def zLQ:List V->Hp->VK->Prop:=fun vs H Q=>match vs with
 |[.int j]=>∀p,H p=none->Q (.ref p) (upd H p (.rng 0 j))
 |[.int i,.int j]=>∀p,H p=none->Q (.ref p) (upd H p (.rng i j))
 |_=>False
theorem zM0:zCE X (.type "range") zLQ:=by
 intro pins s σ H vs us Q I r h
 match vs,h with
 |[.int j],h=>exact zSB pins s σ H _ us Q I r ⟨j,rfl,h⟩
 |[.int i,.int j],h=>exact zSA pins s σ H _ us Q I r ⟨i,j,rfl,h⟩
end
noncomputable def zL3(N N':List Str)(k:Nat)(sc esc:Scope):Bool:=
 (sc.kind==.function)&&decide ((sc.names.map (·.1)).Nodup)&&(N'.length==N.length+k) &&
 ((qA9 N.length).all fun i=>match N'[i]? with
  |none=>true
  |some x=>(sc.names.lookup x==none)||(sc.names.any (fun p=>p.1==x&&p.2==.free)&&N[i]?==some x)) &&
 (sc.names.all fun p=>p.2 != .free||esc.names.lookup p.1==some .cell||esc.names.lookup p.1==some .free)
theorem cn{X:Cx}{sc:Scope}(N':List Str)(k:Nat)(h:zL3 X.N N' k sc X.env.scope=true):CompNames X.N N' k sc X.env:=by
 unfold zL3 at h;simp only[qBf,decide_eq_true_eq,beq_iff_eq]at h;obtain⟨⟨⟨⟨h1,h2⟩,h3⟩,h4⟩,h5⟩:=h;refine⟨h1,h2,h3,fun i x e hi=>?_,fun x hx=>?_⟩
 ·have q:=qBo.mp h4 i (qD6.mpr hi);rw[e]at q;simp only[qG8,qBf,beq_iff_eq,qG2]at q
  rcases q with q|⟨⟨p,hp,e1,e2⟩,e3⟩
  ·exact .inr q
  ·obtain⟨y,kk⟩:=p;dsimp only at e1 e2;subst e1;subst e2;exact .inl ⟨hp,e3⟩
 ·have q:=qBo.mp h5 _ hx;simp only[qG8,bne_iff_ne,ne_eq,not_true_eq_false,false_or,beq_iff_eq]at q;exact q
theorem PE.imp{X:Cx}{e:Expr}{t t':TE}(h:PE X e t)(i:∀σ H Q,t' σ H Q->t σ H Q):PE X e t':=fun pins s σ H Q I q=>h pins s σ H Q I (i σ H Q q)
noncomputable def vM(i:Nat):TE:=fun σ H Q=>match σ[i]? with
 |some (some v)=>Q v H
 |_=>False
theorem pn{X:Cx}(i:Nat){x:Str}{pos:Pos}(hN:X.N[i]?=some x:=by rfl)(hv:Vis X.env.scope x:=by first|exact qHo rfl|exact qHp (qHo rfl)|exact qHp (qHp rfl))(hd:(x==("__debug__":Str))=false:=by decide)
  (hcd:(x==("__classdict__":Str))=false:=by decide):PE X (.Name x pos) (vM i):=(zVE hN hv hd hcd).imp fun σ H Q h=>by
 unfold vM at h;cases e:σ[i]? with
 |none=>rw[e]at h;exact qA8 h
 |some w=>
  rw[e]at h;cases w with
  |none=>exact qA8 h
  |some v=>exact⟨v,e,h⟩
noncomputable def bM(t:TE):TT:=fun σ H Q=>t σ H fun x H'=>match x with
 |.bl k=>Q k H'
 |.int i=>Q (i != 0) H'
 |.non=>Q false H'
 |_=>False
section
variable{X:Cx}{a b c:Expr}{ta tb tc:TE}{tA tB:TT}{rest:List Expr}{pos:Pos}
theorem zZ2{K:qA1}{x:V}{H:Hp}{Q:Bool->Hp->Prop}(h:match x with | .bl k=>Q k H | .int i=>Q (i != 0) H | .non=>Q false H|_=>False):∃k,TruV K x H k/\Q k H:=by
 cases x with
 |bl k=>exact⟨k,rfl,h⟩
 |int i=>exact⟨_,rfl,h⟩
 |non=>exact⟨_,rfl,h⟩
 |_=>exact qA8 h
theorem pt_m(ha:PE X a ta)(he:∀whole,isTrue a X.env whole=(do let v <- whole;qLu a.pos;holding [v] (truthy v)):=by intro _;rfl):PT X a (bM ta):=by
 intro pins s σ H Q I h;refine isTrue_plain (thn (ha pins s σ H _ I h) fun v s1 z0=>?_) (he _);obtain⟨x,H1,I1,r1,q1⟩:=z0;exact thn (zZ1 pins s1 σ H1 x v Q I1 r1 (zZ2 q1)) fun _ _ q=>q
theorem zEF{op:CmpOp}{r:R2}(ho:OpR X (compareOp op) r)(ha:PE X a ta)(hb:PE X b tb)(hm:qK1 op b=false):PT X (.Compare a [op] [b] pos) (fun σ H Q=>ta σ H fun x H1=>tb σ H1 fun y H2=>r x y H2 fun z H3=>match z with | .bl k=>Q k H3|_=>False):=by
 intro pins s σ H Q I h;refine wpAny_isTrue_Compare1 (thn (ha pins s σ H _ I h) fun v s1 ⟨x,H1,I1,r1,q1⟩=>thn (hb pins s1 σ H1 _ I1 q1) fun u s2 ⟨y,H2,I2,r2,q2⟩=>
  thn (ho pins s2 σ H2 x y v u _ I2 r1 r2 q2) fun d s3 ⟨z,H3,I3,r3,q3⟩=>?_) hm
 cases z with
 |bl k=>cases r3;exact qJx ⟨H3,I3,q3⟩
 |_=>exact qA8 q3
theorem zcC(ha:PE X a ta)(hb:PE X (.BoolOp .And (b::rest) pos) tb):PE X (.BoolOp .And (a::b::rest) pos) (fun σ H Q=>ta σ H fun x H1=>match x with | .bl c=>if c=true then tb σ H1 Q else Q (.bl false) H1|_=>False):=by
 intro pins s σ H Q I h;refine BoolOp_and (thn (ha pins s σ H _ I h) fun v s1 z0=>?_);obtain⟨x,H1,I1,r1,q1⟩:=z0;cases x with
 |bl c=>
  cases r1;refine qJx ?_;cases c with
  |true=>exact hb pins s1 σ H1 Q I1 (by simpa using q1)
  |false=>exact⟨.bl false,H1,I1,rfl,by simpa using q1⟩
 |_=>exact qA8 q1
def setM:V->V->V->Hp->(Hp->Prop)->Prop:=fun o i v H Q=>match o,i with
 |.ref p,.int k=>∃xs j,H p=some (.lst xs)/\ixN xs.length k=some j/\Q (upd H p (.lst (xs.set j v)))
 |_,_=>False
theorem zIB:PSet X setM:=by
 intro pins s σ H o i v ov iv u Q I ro ri rv h;cases o<;>cases i<;>first
  |(obtain⟨xs,j,h1,h2,h3⟩:=h;exact zSY pins s σ H _ _ v ov iv u Q I ro ri rv ⟨_,xs,_,j,rfl,rfl,h1,h2,h3⟩)
  |exact qA8 h
def appM:V->List V->Hp->VK->Prop:=fun x vs H Q=>match x,vs with
 |.ref l,[y]=>∃xs,H l=some (.lst xs)/\xs.length<sizeLine/\Q .non (upd H l (.lst (xs++[y])))
 |_,_=>False
theorem zLV:MtR X "list.append" appM:=by
 intro pins s σ H x vs v us Q I rx rv h;cases x with
 |ref l=>
  cases vs with
  |nil=>exact qA8 h
  |cons y t=>
   cases t with
   |nil=>
    obtain⟨xs,h1,h2,h3⟩:=h;exact zQV pins s σ H _ _ v us Q I rx rv ⟨l,xs,y,rfl,rfl,h1,h2,h3⟩
   |cons _ _=>exact qA8 h
 |_=>exact qA8 h
def popM:V->List V->Hp->VK->Prop:=fun x vs H Q=>match x,vs with
 |.ref l,[.int i]=>∃xs k y,H l=some (.lst xs)/\(-(2 ^ 63)<=i/\i<2 ^ 63)/\qLj i xs.length=some k/\xs[k]?=some y/\Q y (upd H l (.lst (xs.eraseIdx k)))
 |.ref l,[]=>∃xs y,H l=some (.lst xs)/\xs[xs.length-1]?=some y/\Q y (upd H l (.lst xs.dropLast))
 |_,_=>False
theorem zQT:MtR X "list.pop" popM:=by
 intro pins s σ H x vs v us Q I rx rv h;cases x with
 |ref l=>
  cases vs with
  |nil=>
   obtain⟨xs,y,h1,h2,h3⟩:=h;exact zaF pins s σ H _ _ v us Q I rx rv ⟨l,xs,y,rfl,rfl,h1,h2,h3⟩
  |cons y t=>
   cases y with
   |int i=>
    cases t with
    |nil=>
     obtain⟨xs,k,y,h1,h2,h3,h4,h5⟩:=h;exact zTR pins s σ H _ _ v us Q I rx rv ⟨l,xs,i,k,y,rfl,rfl,h1,h2.1,h2.2,h3,h4,h5⟩
    |cons _ _=>exact qA8 h
   |_=>exact qA8 h
 |_=>exact qA8 h
end
theorem pt_w{X:Cx}{e:Expr}{t:TT}(h:PW X e t):PT X e t:=h.pt
def Has(P:qI0)(w:World)(K:qA1)(mg:Str->Option Value)(base:Heap)(x:Str)(k:Nat)(ps:List Str)(sp:Sp):Prop:=
 ∃f fd,FnOk P w K mg base CX0 k f fd ps sp/\mg x=some (.ref f)/\qB9 K (.ref f)=true/\Binds K fd ps []
def Def(K:qA1)(mg:Str->Option Value)(x:Str)(st:Stmt):Prop:=∃f fd,Fun K x x st f fd/\mg x=some (.ref f)
section
variable{X:Cx}{x:Str}{j k:Nat}{ps:List Str}{sp:Sp}{e:Expr}{es:List Expr}{t:TA}{p pos:Pos}
theorem zBW(h:Has X.prog X.w X.K X.mg X.base x j ps sp)(hjk:j<=k)(hr:Room k X.A)(hg:Gl X x)(ha:PA X (e::es) t)(hdb:(x==("__debug__":Str))=false:=by decide)
  (he:starEach (e::es) X.env=(false,eval e X.env)::starEach es X.env:=by rfl) (hpl:(backTo pos (starEach es X.env)).any (·.1)=false:=by rfl):PE X (.Call (.Name x p) (e::es) [] pos) (zED sp [] E0 t):=by
 obtain⟨f,fd,G,m,kp,b⟩:=h;exact zLS G (hr.mono hjk) hg m kp b .nil zcD ha hdb he hpl
end
section
variable{P:qI0}{w:World}{K:qA1}{mg:Str->Option Value}{base:Heap}
theorem Def.ok{x:Str}{st:Stmt}{N ps:List Str}{k:Nat}{sp:Sp}(D:Def K mg x st)(S:FnScope N ps (zA3 st))
  (hb:∀(kV doc pm:Value)(an:Option Addr)(cdv ct:Value)(us:List Value),us.length=ps.length->qJs (qBb x x (zAW st) (zAX st) (zA3 st) .none kV doc pm an cdv ct) ⟨us,[]⟩=pure (ps.zip us))
  (len:∀vs H Q E,sp vs H Q E->vs.length=ps.length)
  (hbody:∀(f:Addr)(cdv:Value)(A:qI4)(outer:List Env)(s:qHx)(H:Hp)(vs:List V)(Q:VK)(E:XK),Room k (A.deeper (envOfC x (zA3 st) s.heap.objs.size f cdv))->sp vs H Q E ->
   ∃t,PSs (cxOf CX0 P w K mg base N x (zA3 st) f cdv A outer s H E).nox (zAX st) t/\t { nx:=fun _ H'=>Q .non H',rt:=Q } (start N vs) H):Has P w K mg base x (k+1) ps sp:=by
 obtain⟨f,fd,F,m⟩:=D;exact⟨f,fd,F.ok S len (fun cdv A outer s H vs Q E hr h=>hbody f cdv A outer s H vs Q E hr h),m,F.kp,F.binds hb⟩
end
section
variable{X:Cx}{pins:List (Addr×Obj)}{σ:St}{H:Hp}{s:qHx}
theorem Inv.turnedNew{h':Heap}{t':Nat}{fp:List Addr}{a:Addr}{o:HO}(I:Inv X pins σ H s)(hf:∀b∈fp,FpOk X pins H b)(k:∀b u,b∉fp->s.heap.get? b=some u->h'.get? b=some u)
  (hp:s.heap.objs.size<=a) (new:ObjOk X.prog X.w (upd H a o) h' a o):Inv X pins σ (upd H a o) { s with heap:=h',toks:=t' }:=by
 have hn:H a=none:=I.hok.fresh hp;have ne:∀b u,s.heap.get? b=some u->b≠a:=fun b u e=>qAu (qAh (qHz e) hp)
 have nfp:∀b u,H b=some u->b∉fp:=fun b u e z=>by rw[(hf b z).1]at e;cases e
 refine I.step (g':=s.gens) (d':=s.drawn) (ch:=fp) (fun b hb=>⟨(hf b hb).2.2.2.1,(hf b hb).2.1,(hf b hb).2.2.2.2.1,(hf b hb).2.2.2.2.2⟩) (fun b u _ _ hc e _=>k b u hc e) (fun b u _ _ hc e _=>⟨u.slots,k b u hc e⟩)
  (fun b u _ e n=>by rw[zAB (ne b u e)];exact n) (fun b u hc e=>⟨u,k b u hc e⟩) (fun b xs e=>by rw[zAB (zAE e hn)];exact e) (fun b u xs e=>by rw[zAB (zAE e hn)];exact e)
  (fun b ps e=>⟨#[],by rw[zAB (zAE e hn),e];simp⟩) (fun m hm=>?_) (fun b u e=>?_) I.bare
 ·obtain⟨u,es,ep,ho,r⟩:=hm;exact⟨u,es,ep,k _ u (fun z=>(hf _ z).2.1 rfl) ho,r⟩
 ·by_cases hb:b=a
  ·subst hb;rw[zAC]at e;cases e;exact new
  ·rw[zAB hb]at e;refine(I.hok b u e).stay (fun c v hc q=>k c v ?_ q) (fun c q=>by rw[zAB (zAE q hn)];exact q) (fun c xs q=>by rw[zAB (zAE q hn)];exact q) fun c _ _ q _=>by rw[zAB (zAE q hn)];exact q
   rcases hc with z|z
   ·rw[z];exact nfp b u e
   ·exact nfp c _ z
theorem Inv.turnedL{h':Heap}{t':Nat}{fp:List Addr}(I:Inv X pins σ H s)(hf:∀b∈fp,FpOk X pins H b)(k:∀b u,b∉fp->s.heap.get? b=some u->h'.get? b=some u):Inv X pins σ H { s with heap:=h',toks:=t' }:=by
 have nfp:∀b u,H b=some u->b∉fp:=fun b u e z=>by rw[(hf b z).1]at e;cases e
 refine I.step (g':=s.gens) (d':=s.drawn) (ch:=fp) (fun b hb=>⟨(hf b hb).2.2.2.1,(hf b hb).2.1,(hf b hb).2.2.2.2.1,(hf b hb).2.2.2.2.2⟩) (fun b u _ _ hc e _=>k b u hc e) (fun b u _ _ hc e _=>⟨u.slots,k b u hc e⟩)
  (fun b u _ e n=>n) (fun b u hc e=>⟨u,k b u hc e⟩) (fun b xs e=>e) (fun b u xs e=>e)
  (fun b ps e=>⟨#[],by rw[e];simp⟩) (fun m hm=>?_) (fun b u e=>?_) I.bare
 ·obtain⟨u,es,ep,ho,r⟩:=hm;exact⟨u,es,ep,k _ u (fun z=>(hf _ z).2.1 rfl) ho,r⟩
 ·refine(I.hok b u e).stay (fun c v hc q=>k c v ?_ q) (fun c q=>q) (fun c xs q=>q) fun c _ _ q _=>q
  rcases hc with z|z
  ·rw[z];exact nfp b u e
  ·exact nfp c _ z
def Ite(K:qA1)(a:Addr):It:=
 ⟨fun i H=>∃xs x,SqL K H a xs/\xs[i]?=some x,fun i H x H'=>∃T y,x=.ref T/\H T=none/\H'=upd H T (.tup [.int i,y])/\∀xs,SqL K H a xs->xs[i]?=some y,fun i H=>∃xs,SqL K H a xs/\xs.length<=i⟩
theorem zPN{P:qI0}{w:World}{K:qA1}{ts:List Expr}{kk:Nat}{tp:Pos}(a e it:Addr)(hei:e≠it) :
  Turn P w K (.Tuple ts kk tp) (Ite K a) [e,it] e (fun i h=>(∃old,IsEnum h e it i old)/\h.IsListIter it a i) where
 mem:=by simp
 obj:=fun i h st b hb=>by
  rcases qA6.mp hb with z|z
  ·subst z;obtain⟨⟨old,he⟩,_⟩:=st;exact⟨_,he,fun v z=>by cases z⟩
  ·have z':b=it:=by simpa using z
   subst z';obtain⟨_,o,e,c,d⟩:=st;exact⟨o,e,fun v z=>by rw[d]at z;cases z⟩
 keep:=fun i h h' st k=>⟨by obtain⟨⟨old,he⟩,_⟩:=st;exact⟨old,k e (by simp) _ he⟩,st.2.at fun o x=>k it (by simp) o x⟩
 item:=by
  intro X hP hw hK hc i pins s σ H E I hf st hg;subst hP hw hK;obtain⟨xs,x,hq,hx⟩:=hg;obtain⟨its,rv,p,hz⟩:=I.list hq;obtain⟨u,hu,ru⟩:=rv.get hx;obtain⟨⟨old,he⟩,hit⟩:=st;refine wpAny_pyNext_enum_item he hit p.isList (x:=u) (by simpa using hu) hei fun h' ho hit' hT hsz hk=>?_
  refine⟨_,rfl,wpAny_letOwnedTupleGo_enum ho fun h'' he'' hs''=>?_⟩;have hTe:s.heap.objs.size≠e:=qBz (qHz he);have hTi:s.heap.objs.size≠it:=by obtain⟨o,ho',_⟩:=hit;exact qBz (qHz ho')
  have kk:∀b u,b∉[e,it]->s.heap.get? b=some u->h''.get? b=some u:=fun b u hb q=>by
   have b1:b≠e:=fun z=>hb (by simp[z])
   have b2:b≠it:=fun z=>hb (by simp[z])
   exact(hs''.2 b b1).trans (hk b u b1 b2 q)
  have hT'':=(hs''.2 _ hTe).trans hT;refine⟨.ref s.heap.objs.size,_,I.turnedNew (t':=s.toks+1) (o:=.tup [.int i,x]) hf kk (qA7 _) ⟨by show 2<=sizeLine;decide,[.int i s.toks,u],.cons ⟨_,rfl⟩ (.cons ru .nil),⟨_,hT'',rfl,_,rfl⟩⟩,rfl,
   ⟨_,x,rfl,I.fresh,rfl,fun ys hy=>by rw[I.list_inj hy hq];exact hx⟩,⟨⟨_,by simpa using he''⟩,hit'.at fun o x=>(hs''.2 it hei.symm).trans x⟩,fun b hb=>?_⟩
  have hbs:b<s.heap.objs.size:=by
   rcases qA6.mp hb with z|z
   ·rw[z];exact qHz he
   ·have z':b=it:=by simpa using z
    rw[z'];obtain⟨o,ho',_⟩:=hit;exact qHz ho'
  rw[zAB (qAu hbs)];exact(hf b hb).1
 done:=by
  intro X hP hw hK hc i pins s σ H E I hf st hg;subst hP hw hK;obtain⟨xs,hq,hx⟩:=hg;obtain⟨its,rv,p,hz⟩:=I.list hq;have hl:=rv.length;obtain⟨⟨old,he⟩,hit⟩:=st;exact wpAny_pyNext_enum_end (I.ok.hd hc) he hit p.isList (by simp;lia) fun h' eb=>⟨rfl,I.turnedL (t':=s.toks) hf fun b u hb q=>eb b u (fun z=>hb (by simp[z])) q⟩
 self:=fun _ _ _ _ _ st h=>by obtain⟨⟨old,he⟩,_⟩:=st;exact qL9 he h
def zYB(K:qA1)(tl:TA):TI:=fun σ H R=>tl σ H fun vs H1=>match vs with
 |[.ref a]=>(∃xs,SqL K H1 a xs)/\R (Ite K a) H1
 |_=>False
theorem zXF{ts:List Expr}{kk:Nat}{tp p pos:Pos}{a:Expr}{ta:TA}(hg:Gl X "enumerate")(hm:X.mg "enumerate" = none)(ha:PA X [a] ta)(hs:starEach [a] X.env=[(false,eval a X.env)]:=by rfl) :
  PI X (.Tuple ts kk tp) (.Call (.Name "enumerate" p) [a] [] pos) (zYB X.K ta):=by
 intro pins s σ H R I h;refine Call_ (zHZ I hg hm boot_enumerate (qCe (thn (ha pos pins s σ H _ I h) fun us s1 z0=>?_) hs rfl));obtain⟨vs,H1,I1,r1,q1⟩:=z0;cases vs with
 |nil=>exact qA8 q1
 |cons hd1 tl1=>
  cases hd1 with
  |ref l=>
   cases tl1 with
   |nil=>
    obtain⟨⟨xs,hq⟩,q⟩:=q1;obtain⟨u,rfl,rx⟩:=zF8 r1;cases rx;obtain⟨its,rv,pl,hz⟩:=I1.list hq;refine call_enumerate_list pl.isList fun h' he hit hsz hk=>?_
    refine qL9 he ?_;have hne:s1.heap.objs.size+1≠s1.heap.objs.size:=by lia
    refine⟨s1.heap.objs.size+1,[s1.heap.objs.size+1,s1.heap.objs.size],_,_,H1,rfl,I1.kept (t':=s1.toks) hk,zPN l _ _ hne,⟨⟨_,he⟩,hit⟩,fun b hb=>?_,q⟩;have hb':s1.heap.objs.size<=b:=by
     rcases qA6.mp hb with z|z
     ·rw[z];exact qDn _
     ·have z':b=s1.heap.objs.size:=by simpa using z
      rw[z'];exact qA7 _
    exact I1.fpOk hb' (I1.hok.fresh hb')
   |cons _ _=>exact qA8 q1
  |_=>exact qA8 q1
end
section
variable{X:Cx}{K:qA1}
theorem zCA(hK:X.K=K:=by rfl):zCE X (.builtin "len") (zX5 K):=hK▸zcQ
theorem zGY(hc:X.calm=true)(hK:X.K=K:=by rfl):zCE X (.type "list") (zHV K):=hK▸zaI hc
theorem zDA(hK:X.K=K:=by rfl):IxR X (rIxU K):=hK▸u_ix
theorem zNJ{ts:List Expr}{kk:Nat}{tp p pos:Pos}{a:Expr}{ta:TA}(hg:Gl X "enumerate")(hm:X.mg "enumerate" = none)(ha:PA X [a] ta)(hs:starEach [a] X.env=[(false,eval a X.env)]:=by rfl)(hK:X.K=K:=by rfl) :
  PI X (.Tuple ts kk tp) (.Call (.Name "enumerate" p) [a] [] pos) (zYB K ta):=hK▸zXF hg hm ha hs
theorem zQD{es:List Expr}{k:Nat}{t:TGs}{n:Nat}{pos:Pos}(hc:X.calm=true)(h:PGs X es t)
  (hn:(assignEach es X.env).length=n:=by rfl) (hst:(assignEach es X.env).findIdx? (·.1)=none:=by rfl) (hK:X.K=K:=by rfl):PG X (.Tuple es k pos) (gTup K n t):=hK▸zZY hc h hn hst
noncomputable def tML(r:V->List V->Hp->VK->Prop)(to:TE)(t:TA):TE:=fun σ H Q=>to σ H fun x H1=>match x with
 |.ref p=>∃xs,H1 p=some (.lst xs)/\t σ H1 fun vs H2=>r x vs H2 Q
 |_=>False
variable{o e:Expr}{es:List Expr}{to:TE}{t:TA}{name:Str}{apos cpos:Pos}{T id:String}{r:V->List V->Hp->VK->Prop}
theorem zKC(pa:PlainAttrs "list")(slot:Slot "list" name id)(hty:typeOf (.builtin id)=pure (.type "method_descriptor"))(hm:MtR X id r)(ho:PE X o to)(ha:PA X (e::es) t)
  (hbase:attributeBase o name X.env (eval o X.env)=eval o X.env:=by rfl)
  (hfew:((backTo cpos (starEach (e::es) X.env)).all (fun x=>!x.1)&&(backToKw cpos (keywordEach [] X.env)).all (fun x=>x.1.isSome)
   && decide ((e::es).length+([]:List qLv).length+(if([]:List qLv).isEmpty then 0 else 1)<30))=true:=by rfl)
  (hline:(apos.endLine==cpos.line)=true:=by rfl) (hs:starEach (e::es) X.env=(false,eval e X.env)::starEach es X.env:=by rfl) (hplain:(backTo cpos (starEach es X.env)).any (·.1)=false:=by rfl) :
  PE X (.Call (.Attribute o name apos) (e::es) [] cpos) (tML r to t):=by
 intro pins s σ H Q I h;refine wpAny_Call_method_late hbase hfew hline rfl (thn (ho pins s σ H _ I h) fun v s1 z0=>?_);obtain⟨x,H1,I1,r1,q1⟩:=z0;cases x with
 |ref p=>?_
 |_=>exact qA8 q1
 obtain⟨xs,hx,q1⟩:=q1;obtain⟨h1,h2⟩:=zZ0 (T:="list") I1 r1 (.inl ⟨rfl,xs,SqL.of hx⟩);refine⟨"list",id,pa,slot,hty,h1,h2,?_⟩;have hA:=ha cpos pins s1 σ H1 _ I1 q1;rw[hs]at hA ⊢;refine qK7 (by show(false||(backTo cpos (starEach es X.env)).any (·.1))=false;rw[hplain]<;>rfl) (qKm ?_);exact thn hA fun us s2 ⟨vs,H2,I2,r2,q2⟩=>hm pins s2 σ H2 (.ref p) vs v us Q I2 r1 r2 q2
end
theorem same_new{H:Hp}{p:Addr}(h:H p=none)(o:HO):Same H (upd H p o):=fun b u q=>by rw[zAB (zAE q h)];exact q
theorem Same.upd{H H':Hp}{p:Addr}(s:Same H H')(h:H p=none)(o:HO):Same H (upd H' p o):=fun b u q=>by rw[zAB (zAE q h)];exact s b u q
theorem zCP{H:Hp}:∀(ns:List Int),RepL H (ns.map Dat.int) (ns.map V.int)
 |[]=>rfl
 |n::r=>⟨.int n,r.map V.int,rfl,rfl,zCP r⟩
theorem zCT:∀(ns:List Int),Dat.depL (ns.map Dat.int)=0
 |[]=>rfl
 |n::r=>by
  rw[qAg,Dat.depL,zCT r];rfl
theorem zEY:∀(ns ms:List Int),Dat.eqL (ns.map Dat.int) (ms.map Dat.int)=decide (ns=ms)
 |[],[]=>by simp[Dat.eqL]
 |[],_::_=>by simp[Dat.eqL]
 |_::_,[]=>by simp[Dat.eqL]
 |n::r,m::q=>by
  rw[qAg,qAg,Dat.eqL,zEY r q,Dat.eq]
  by_cases h:n=m
  ·subst h;simp
  ·simp[h]
theorem zN1{ns:List Int}{i:Nat}{x:Int}:(ns.map V.int).set i (.int x)=(ns.set i x).map V.int:=by
 rw[qDx]
theorem big{n:Nat}(h:n<=100000):n<sizeLine:=by rw[qIq];lia
theorem zH2:∀{ns:List Int}{vs:List Value},Vals (ns.map V.int) vs->qKw vs ns
 |[],_,.nil=>.nil
 |n::r,_,.cons h t=>by
  obtain⟨tk,rfl⟩:=h;exact .cons n tk (zH2 t)
section
variable{X:Cx}
def rInU(K:qA1)(neg:Bool):R2:=fun x y H Q=>match y with
 |.ref p=>∃xs,(SqL K H p xs\/SqT K H p xs)/\zDN x=true/\xs.all zDN=true/\Q (.bl (if neg then !inV x xs else inV x xs)) H
 |.str j=>match x with
  |.str i=>Q (.bl (if neg then !(!(qJ3 j i 0 j.length 1).isEmpty)else !(qJ3 j i 0 j.length 1).isEmpty)) H
  |_=>False
 |_=>False
theorem u_in{K:qA1}(hK:X.K=K:=by rfl):OpR X (compareOp .In) (rInU K false):=by
 subst hK;intro pins s σ H x y v u Q I rx ry h;cases y with
 |ref p=>
  obtain⟨xs,h1,h2,h3,h4⟩:=h;exact zQJ pins s σ H _ _ v u Q I rx ry ⟨p,xs,rfl,h1,h2,h3,h4⟩
 |str j=>
  cases x with
  |str i=>exact zQI pins s σ H _ _ v u Q I rx ry ⟨i,j,rfl,rfl,h⟩
  |_=>exact qA8 h
 |_=>exact qA8 h
end
end L2
namespace Mi
open PySem
noncomputable section
inductive Sv where
 |i (n:Int)|s (x:Str)
inductive Sw where
 |non|bl (b:Bool)|int (i:Int)|str (x:Str)
inductive Dt where
 |non|bl (b:Bool)|int (i:Int)|str (x:Str)|lst (xs:List Dt)|tup (xs:List Dt)|scr (ns:List Int)|exc (c f:Str) (d:Dt)|ins (c:Str) (fs:List (Str×Sv))|dct (kvs:List (Sum Int Str×Sw))|fn (x:Str) (d:Dt)|dtt (ks:List (List Sw)) (xs:List Dt)|loc (a:Nat) (d:Dt)|dsk (w:Str) (ws:List Str)|fnc (x:Str)
mutual
def Dt.dep:Dt->Nat
 |.lst xs=>Dt.depL xs+1
 |.tup xs=>Dt.depL xs+1
 |.scr _=>1000
 |.exc _ _ _=>1000
 |.fn _ _=>1000
 |.dtt _ _=>1000
 |.loc _ _=>1000
 |.dsk _ _=>1000
 |.fnc _=>1000
 |.ins _ _=>1000
 |.dct _=>1000
 |_=>0
def Dt.depL:List Dt->Nat
 |[]=>0
 |x::r=>max x.dep (Dt.depL r)
end
mutual
def Dt.eq:Dt->Dt->Bool
 |.non,.non=>true
 |.bl a,.bl b=>a==b
 |.bl a,.int b=>(if a then 1 else 0)==b
 |.int a,.bl b=>a==(if b then 1 else 0)
 |.int a,.int b=>a==b
 |.str a,.str b=>a==b
 |.lst xs,.lst ys=>Dt.eqL xs ys
 |.tup xs,.tup ys=>Dt.eqL xs ys
 |_,_=>false
def Dt.eqL:List Dt->List Dt->Bool
 |[],[]=>true
 |x::r,y::q=>Dt.eq x y&&Dt.eqL r q
 |_,_=>false
end
structure Xn where
 cls:Str
 f:Str
 d:Dt
abbrev R(α:Type):=Option (Except Xn α)
noncomputable def okR{α:Type}(a:α):R α:=some (.ok a)
noncomputable def zA2{α β:Type}(x:R α)(f:α->R β):R β:=match x with
 |none=>none
 |some (.error e)=>some (.error e)
 |some (.ok a)=>f a
def optR{α:Type}(o:Option α):R α:=match o with
 |none=>none
 |some a=>okR a
@[simp] theorem bindR_ok{α β:Type}(a:α)(f:α->R β):zA2 (okR a) f=f a:=rfl
@[simp] theorem zA4{α β:Type}(f:α->R β):zA2 none f=none:=rfl
@[simp] theorem zAA{α β:Type}(e:Xn)(f:α->R β):zA2 (some (.error e)) f=some (.error e):=rfl
@[simp] theorem zA8{α:Type}(a:α):optR (some a)=okR a:=rfl
@[simp] theorem zA9{α:Type}:optR (none:Option α)=none:=rfl
abbrev Rh:=List (Option Dt)
abbrev Sl:=Dt×Nat
abbrev Ro:=List (Option Sl)
abbrev EM:=Rh->R Dt
abbrev TM:=Rh->R Bool
abbrev AM:=Rh->R (List Dt)
abbrev FM:=List Dt->R Dt
noncomputable def ixA(n:Nat)(i:Int):Option Nat:=if 0<=i then(if i<n then some i.toNat else none)else if -(n:Int)<=i then some (i+n).toNat else none
def itA{α:Type}(xs:List α)(i:Int):Option α:=(ixA xs.length i).bind fun j=>xs[j]?
noncomputable def addD:Dt->Dt->Option Dt
 |.int i,.int j=>some (.int (i+j))
 |.str i,.str j=>@ite _ (i.length+j.length<=100000) (qA3 _) (some (.str (i++j))) none
 |.lst xs,.lst ys=>@ite _ (xs.length+ys.length<=100000) (qA3 _) (some (.lst (xs++ys))) none
 |_,_=>none
noncomputable def subD:Dt->Dt->Option Dt
 |.int i,.int j=>some (.int (i-j))
 |_,_=>none
noncomputable def mulD:Dt->Dt->Option Dt
 |.int i,.int j=>@ite _ (((-18446744073709551616<i/\i<18446744073709551616)\/(-18446744073709551616<j/\j<18446744073709551616))\/i.natAbs.log2+j.natAbs.log2<=67108864) (qA3 _) (some (.int (i*j))) none
 |_,_=>none
noncomputable def divD:Dt->Dt->Option Dt
 |.int i,.int j=>@ite _ (0<j/\j<1000000000000000000000000) (qA3 _) (some (.int (i/j))) none
 |_,_=>none
noncomputable def modD:Dt->Dt->Option Dt
 |.int i,.int j=>if 0<j then some (.int (i%j))else none
 |_,_=>none
noncomputable def powD:Dt->Dt->Option Dt
 |.int i,.int j=>@ite _ (0<=j/\j<=1000000/\i.natAbs<18446744073709551616) (qA3 _) (some (.int (i ^ j.toNat))) none
 |_,_=>none
noncomputable def negD:Dt->Option Dt
 |.int i=>some (.int (-i))
 |_=>none
noncomputable def cmpD(p:Int->Int->Bool):Dt->Dt->Option Dt
 |.int i,.int j=>some (.bl (p i j))
 |_,_=>none
noncomputable def eqD(x y:Dt):Option Dt:=if x.dep<=40/\y.dep<=40 then some (.bl (Dt.eq x y))else none
noncomputable def neD(x y:Dt):Option Dt:=if x.dep<=40/\y.dep<=40 then some (.bl (!Dt.eq x y))else none
noncomputable def isNonD:Dt->Bool
 |.non=>true
 |_=>false
def isD(x y:Dt):Option Dt:=match y with
 |.non=>some (.bl (isNonD x))
 |_=>none
noncomputable def zcS(x y:Dt):Option Dt:=match y with
 |.non=>some (.bl (!isNonD x))
 |_=>none
def ixD:Dt->Dt->Option Dt
 |.lst xs,.int i=>itA xs i
 |.tup xs,.int i=>itA xs i
 |.scr ns,.int i=>(itA ns i).map .int
 |.str z,.int i=>@ite _ (z.length<=100000) (qA3 _) ((itA z.cps.toList i).map fun c=>.str ⟨#[c]⟩) none
 |_,_=>none
noncomputable def lenD:List Dt->Option Dt
 |[.lst xs]=>some (.int xs.length)
 |[.tup xs]=>some (.int xs.length)
 |[.scr ns]=>some (.int ns.length)
 |[.str z]=>@ite _ (z.length<=100000) (qA3 _) (some (.int z.length)) none
 |_=>none
noncomputable def listD:List Dt->Option Dt
 |[.lst xs]=>some (.lst xs)
 |[.tup xs]=>some (.lst xs)
 |[.scr ns]=>some (.lst (ns.map .int))
 |_=>none
noncomputable def nums(lo:Int)(n:Nat):List Dt:=(qA9 n).map fun i:Nat=>.int (lo+(i:Int))
def rangeD:List Dt->Option Dt
 |[.int j]=>@ite _ ((-4611686018427387904<=j/\j<4611686018427387904)/\j<=100000) (qA3 _) (some (.lst (nums 0 j.toNat))) none
 |[.int i,.int j]=>@ite _ ((-4611686018427387904<=i/\i<4611686018427387904/\-4611686018427387904<=j/\j<4611686018427387904)/\j-i<=100000) (qA3 _) (some (.lst (nums i (j-i).toNat))) none
 |_=>none
noncomputable def tyD:Dt->String
 |.non=>"NoneType"
 |.bl _=>"bool"
 |.int _=>"int"
 |.str _=>"str"
 |.lst _=>"list"
 |.tup _=>"tuple"
 |.scr _=>""
 |.exc _ _ _=>""
 |.fn _ _=>""
 |.dtt _ _=>""
 |.loc _ _=>""
 |.dsk _ _=>""
 |.fnc _=>""
 |.ins _ _=>""
 |.dct _=>""
def isiD(n:String)(x:Dt):Option Dt:=if tyD x = "" then none else some (.bl (tyD x==n||(tyD x == "bool" && n == "int")))
noncomputable def zWE:List Dt->Option (List Bool)
 |[]=>some []
 |.bl b::r=>(zWE r).map (b::·)
 |_::_=>none
def allD:List Dt->Option Dt
 |[.lst xs]=>(zWE xs).map fun bs=>.bl (bs.all id)
 |_=>none
noncomputable def maxD:List Dt->Option Dt
 |[.int i,.int j]=>some (.int (if j>i then j else i))
 |_=>none
noncomputable def minD:List Dt->Option Dt
 |[.int i,.int j]=>some (.int (if j<i then j else i))
 |_=>none
noncomputable def absD:List Dt->Option Dt
 |[.int i]=>some (.int (if i<0 then -i else i))
 |_=>none
noncomputable def hasD(x:Dt)(ys:List Dt):Option Bool:=if x.dep=0/\Dt.depL ys=0 then some (ys.any fun y=>Dt.eq y x)else none
def inD(ng:Bool)(x y:Dt):Option Dt:=match y with
 |.lst ys=>(hasD x ys).map fun b=>.bl (if ng=true then !b else b)
 |.tup ys=>(hasD x ys).map fun b=>.bl (if ng=true then !b else b)
 |.str z=>match x with
  |.str y=>match y.cps.toList with
   |[c]=>some (.bl (if ng=true then !decide (c∈z.cps.toList)else decide (c∈z.cps.toList)))
   |_=>none
  |_=>none
 |_=>none
noncomputable def cutIx(n d:Nat):Option Int->Nat
 |none=>d
 |some v=>if v<0 then(v+(n:Int)).toNat else min v.toNat n
def cutA{α:Type}(xs:List α)(lo hi:Option Int):List α:=(xs.drop (cutIx xs.length 0 lo)).take (cutIx xs.length xs.length hi-cutIx xs.length 0 lo)
def slD:Dt->Option Int->Option Int->Option Dt
 |.lst xs,lo,hi=>some (.lst (cutA xs lo hi))
 |.str z,lo,hi=>@ite _ (z.length<=100000) (qA3 _) (some (.str ⟨(cutA z.cps.toList lo hi).toArray⟩)) none
 |_,_,_=>none
abbrev OM:=Rh->R (Option Int)
def oNo:OM:=fun _=>okR none
def oE(e:Rh->R Dt):OM:=fun ρ=>zA2 (e ρ) fun d=>match d with
 |.int i=>okR (some i)
 |_=>none
def eSl(a:Rh->R Dt)(lo hi:OM):Rh->R Dt:=fun ρ=>zA2 (a ρ) fun x=>zA2 (lo ρ) fun l=>zA2 (hi ρ) fun h=>optR (slD x l h)
noncomputable def posC(c:Nat):List Nat->Option Nat
 |[]=>none
 |x::r=>if x=c then some 0 else(posC c r).map (·+1)
def zb1(x:Dt)(ys:List Dt):Option Dt:=match x,ys with
 |.str z,[.str y]=>match y.cps.toList with
  |[c]=>some (.int (match posC c z.cps.toList with|some i=>(i:Int)|none=>-1))
  |_=>none
 |_,_=>none
noncomputable def zWA(x:Dt)(ys:List Dt):Option Dt:=match x,ys with
 |.str z,[.str y]=>match y.cps.toList with
  |[c]=>some (.int (z.cps.toList.count c:Nat))
  |_=>none
 |_,_=>none
noncomputable def zRA:Dt->Bool
 |.str _=>true
 |_=>false
def eMt(f:Dt->List Dt->Option Dt)(a:Rh->R Dt)(am:Rh->R (List Dt)):Rh->R Dt:=fun ρ=>zA2 (a ρ) fun x=>if zRA x=true then zA2 (am ρ) fun xs=>optR (f x xs)else none
noncomputable def signsD(z:Str):List Dt:=z.cps.toList.map fun c=>.str ⟨#[c]⟩
def eC(d:Dt):EM:=fun _=>okR d
def eV(i:Nat):EM:=fun ρ=>match ρ[i]? with
 |some (some d)=>okR d
 |_=>none
def eB(f:Dt->Dt->Option Dt)(a b:EM):EM:=fun ρ=>zA2 (a ρ) fun x=>zA2 (b ρ) fun y=>optR (f x y)
def eU(f:Dt->Option Dt)(a:EM):EM:=fun ρ=>zA2 (a ρ) fun x=>optR (f x)
def eAnd(a b:EM):EM:=fun ρ=>zA2 (a ρ) fun x=>match x with
 |.bl k=>if k=true then b ρ else okR (.bl false)
 |_=>none
def eOr(a b:EM):EM:=fun ρ=>zA2 (a ρ) fun x=>match x with
 |.bl k=>if k=true then okR (.bl true)else b ρ
 |_=>none
def eNot(a:EM):EM:=fun ρ=>zA2 (a ρ) fun x=>match x with
 |.bl k=>okR (.bl (!k))
 |_=>none
def zb6(p q:Dt->Dt->Option Dt)(a b c:EM):EM:=fun ρ=>zA2 (a ρ) fun x=>zA2 (b ρ) fun y=>zA2 (optR (p x y)) fun z=>match z with
 |.bl k=>if k=true then zA2 (c ρ) fun w=>optR (q y w)else okR (.bl false)
 |_=>none
def eIf(c:TM)(a b:EM):EM:=fun ρ=>zA2 (c ρ) fun k=>if k=true then a ρ else b ρ
def aNil:AM:=fun _=>okR []
def aCons(e:EM)(r:AM):AM:=fun ρ=>zA2 (e ρ) fun x=>zA2 (r ρ) fun xs=>okR (x::xs)
def eLst(a:AM):EM:=fun ρ=>zA2 (a ρ) fun xs=>@ite _ (xs.length<=100000) (qA3 _) (okR (.lst xs)) none
def eTup(a:AM):EM:=fun ρ=>zA2 (a ρ) fun xs=>@ite _ (xs.length<=100000) (qA3 _) (okR (.tup xs)) none
def eCall(f:FM)(a:AM):EM:=fun ρ=>zA2 (a ρ) f
def eBi(f:List Dt->Option Dt)(a:AM):EM:=fun ρ=>zA2 (a ρ) fun xs=>optR (f xs)
def eIsi(n:String)(a:EM):EM:=fun ρ=>zA2 (a ρ) fun x=>optR (isiD n x)
def tB(a:EM):TM:=fun ρ=>zA2 (a ρ) fun x=>match x with
 |.bl k=>okR k
 |_=>none
def tM(a:EM):TM:=fun ρ=>zA2 (a ρ) fun x=>match x with
 |.bl k=>okR k
 |.int i=>okR (i != 0)
 |.non=>okR false
 |_=>none
def tAn(a b:TM):TM:=fun ρ=>zA2 (a ρ) fun k=>if k=true then b ρ else okR false
def tOr(a b:TM):TM:=fun ρ=>zA2 (a ρ) fun k=>if k=true then okR true else b ρ
def tNo(a:TM):TM:=fun ρ=>zA2 (a ρ) fun k=>okR (!k)
def tYes:TM:=fun _=>okR true
abbrev IM:=Rh->R (List Dt)
def iSq(e:EM):IM:=fun ρ=>zA2 (e ρ) fun d=>match d with
 |.lst xs=>okR xs
 |.tup xs=>okR xs
 |.scr ns=>okR (ns.map .int)
 |.str z=>okR (signsD z)
 |_=>none
def iR1(e:AM):IM:=fun ρ=>zA2 (e ρ) fun vs=>match vs with
 |[.int j]=>@ite _ (-4611686018427387904<=j/\j<4611686018427387904) (qA3 _) (okR (nums 0 j.toNat)) none
 |_=>none
noncomputable def enumD(n:Nat):List Dt->List Dt
 |[]=>[]
 |x::r=>.tup [.int n,x]::enumD (n+1) r
def iEn(e:AM):IM:=fun ρ=>zA2 (e ρ) fun vs=>match vs with
 |[.lst xs]=>okR (enumD 0 xs)
 |_=>none
noncomputable def zipD:List Dt->List Dt->List Dt
 |x::r,y::q=>.tup [x,y]::zipD r q
 |_,_=>[]
def iZi(e:AM):IM:=fun ρ=>zA2 (e ρ) fun vs=>match vs with
 |[.lst xs,.lst ys]=>okR (zipD xs ys)
 |_=>none
inductive Tg where
 |one (i:Nat)
 |tup (is:List Nat)
noncomputable def zAM:Tg->Dt->Option (List (Nat×Dt))
 |.one i,d=>some [(i,d)]
 |.tup is,.tup ds=>if ds.length=is.length then some (is.zip ds)else none
 |.tup _,_=>none
noncomputable def Tg.idx:Tg->List Nat
 |.one i=>[i]
 |.tup is=>is
noncomputable def zAK:Rh->List (Nat×Dt)->Rh
 |ρ,[]=>ρ
 |ρ,(i,d)::r=>zAK (ρ.set i (some d)) r
noncomputable def zAQ:Ro->List (Nat×Dt)->Ro
 |ρ,[]=>ρ
 |ρ,(i,d)::r=>zAQ (ρ.set i (some (d,0))) r
def compGo(ρ:Rh)(k:Nat)(tg:Tg)(c:TM)(e:EM):List Dt->List Dt->R (List Dt)
 |[],acc=>okR acc
 |d::ds,acc=>match zAM tg d with
  |none=>none
  |some bs=>zA2 (c (zAK (ρ++qA4 k none) bs)) fun b=>if b=true then zA2 (e (zAK (ρ++qA4 k none) bs)) fun x=>compGo ρ k tg c e ds (acc++[x])else compGo ρ k tg c e ds acc
def eComp(it:IM)(k:Nat)(tg:Tg)(c:TM)(e:EM):EM:=fun ρ=>zA2 (it ρ) fun ds=>@ite _ (ds.length<=100000/\(tg.idx.all fun i=>decide (ρ.length<=i))=true) (qA3 _) (zA2 (compGo ρ k tg c e ds []) fun es=>okR (.lst es)) none
inductive Out where
 |nx (ρ:Ro)|rt (d:Dt)|bk (ρ:Ro)|ct (ρ:Ro)
abbrev SM:=Ro->R Out
noncomputable def full(ρ:Ro):Rh:=ρ.map fun o=>o.map qF6
noncomputable def frz(ρ:Ro):Rh:=ρ.map fun o=>match o with
 |some (d,n)=>if n=0\/d.dep=0 then some d else none
 |none=>none
noncomputable def frz1(i:Nat)(ρ:Ro):Ro:=match ρ[i]? with
 |some (some (d,_))=>ρ.set i (some (d,0))
 |_=>ρ
def frzAt:List Nat->Ro->Ro
 |[],ρ=>ρ
 |i::r,ρ=>frzAt r (frz1 i ρ)
def sNil:SM:=fun ρ=>okR (.nx ρ)
def sSeq(a b:SM):SM:=fun ρ=>zA2 (a ρ) fun o=>match o with
 |.nx ρ'=>b ρ'
 |o=>okR o
noncomputable def zZB:SM:=fun _=>none
def zZC:SM:=fun ρ=>okR (.bk ρ)
def zc8:SM:=fun ρ=>okR (.ct ρ)
def sIf(c:TM)(a b:SM):SM:=fun ρ=>zA2 (c (full ρ)) fun k=>if k=true then a ρ else b ρ
def zc6(e:EM):SM:=fun ρ=>zA2 (e (full ρ)) fun _=>okR (.nx ρ)
def sSet(i n:Nat)(vs:List Nat)(e:EM):SM:=fun ρ=>zA2 (e (full ρ)) fun d=>
 if d.dep<=n then okR (.nx (ρ.set i (some (d,n))))else zA2 (e (frz (frzAt vs ρ))) fun d'=>okR (.nx ((frzAt vs ρ).set i (some (d',n))))
def sRet(L n:Nat)(vs:List Nat)(e:EM):SM:=fun ρ=>zA2 (e (full ρ)) fun d=>
 if d.dep<=n/\d.dep<=L then okR (.rt d)else if n=L then zA2 (e (frz (frzAt vs ρ))) fun d'=>okR (.rt d')else none
def zc4:SM:=fun _=>okR (.rt .non)
def sRetV(L i:Nat):SM:=fun ρ=>match ρ[i]? with
 |some (some (d,k))=>if k=L\/L=0\/(d.dep<=k/\d.dep<=L/\k<1000)then okR (.rt d)else none
 |_=>none
def sApp(i n:Nat)(e:EM):SM:=fun ρ=>match ρ[i]? with
 |some (some (.lst ds,k+1))=>zA2 (e (full ρ)) fun d=>@ite _ (ds.length<=100000/\d.dep<=n/\d.dep<=k) (qA3 _) (okR (.nx (ρ.set i (some (.lst (ds++[d]),k+1))))) none
 |_=>none
def sPop(j i:Nat)(e:EM):SM:=fun ρ=>match ρ[i]? with
 |some (some (.lst ds,k+1))=>zA2 (e (full ρ)) fun d=>match d with
  |.int z=>match ixA ds.length z with
   |some q=>match ds[q]? with
    |some c=>@ite _ (i≠j/\ds.length<=1000000) (qA3 _) (okR (.nx ((ρ.set i (some (.lst (ds.eraseIdx q),k+1))).set j (some (c,k))))) none
    |none=>none
   |none=>none
  |_=>none
 |_=>none
def sItem(i n:Nat)(e1 e2:EM):SM:=fun ρ=>zA2 (e2 (full ρ)) fun d=>match ρ[i]? with
 |some (some (.lst ds,k+1))=>zA2 (e1 (full ρ)) fun z=>match z with
  |.int z=>match ixA ds.length z with
   |some q=>if d.dep<=n/\d.dep<=k then okR (.nx (ρ.set i (some (.lst (ds.set q d),k+1))))else none
   |none=>none
  |_=>none
 |_=>none
def sItem2(i n:Nat)(e0 e1 e2:EM):SM:=fun ρ=>zA2 (e2 (full ρ)) fun d=>match ρ[i]? with
 |some (some (.lst rs,k+2))=>zA2 (e0 (full ρ)) fun y=>match y with
  |.int y=>match ixA rs.length y with
   |some p=>match rs[p]? with
    |some (.lst ds)=>zA2 (e1 (full ρ)) fun z=>match z with
     |.int z=>match ixA ds.length z with
      |some q=>if d.dep<=n/\d.dep<=k then okR (.nx (ρ.set i (some (.lst (rs.set p (.lst (ds.set q d))),k+2))))else none
      |none=>none
     |_=>none
    |_=>none
   |none=>none
  |_=>none
 |_=>none
def forGo(tg:Tg)(b:SM):List Dt->SM
 |[],ρ=>okR (.nx ρ)
 |d::ds,ρ=>match zAM tg d with
  |none=>none
  |some bs=>zA2 (b (zAQ ρ bs)) fun o=>match o with
   |.nx ρ'=>forGo tg b ds ρ'
   |.ct ρ'=>forGo tg b ds ρ'
   |.bk ρ'=>okR (.nx ρ')
   |.rt d=>okR (.rt d)
def sFor(vs:List Nat)(it:IM)(tg:Tg)(b:SM):SM:=fun ρ=>zA2 (it (frz (frzAt vs ρ))) fun ds=>forGo tg b ds (frzAt vs ρ)
def sForR(it:IM)(i:Nat)(b:SM):SM:=fun ρ=>zA2 (it (full ρ)) fun ds=>forGo (.one i) b ds ρ
def whGo(c:TM)(b:SM):Nat->SM
 |0,_=>none
 |m+1,ρ=>zA2 (c (full ρ)) fun k=>if k=true then zA2 (b ρ) fun o=>match o with
   |.nx ρ'=>whGo c b m ρ'
   |.ct ρ'=>whGo c b m ρ'
   |.bk ρ'=>okR (.nx ρ')
   |.rt d=>okR (.rt d)
  else okR (.nx ρ)
noncomputable def WNs:{ n:Nat // n=1000000 }:=Classical.choice ⟨⟨1000000,rfl⟩⟩
noncomputable def WN:Nat:=WNs.val
def zV4(c:TM)(b:SM):SM:=fun ρ=>whGo c b WN ρ
noncomputable def startO(n:Nat)(ds:List Dt):Ro:=ds.map (fun d=>some (d,0))++qA4 (n-ds.length) none
def endF:Out->R Dt
 |.nx _=>okR .non
 |.rt d=>okR d
 |_=>none
def runF(P n:Nat)(b:SM):FM:=fun ds=>if ds.length=P then zA2 (b (startO n ds)) endF else none
end
end Mi
namespace L2
open PySem PySem.Spec PyProof.Rows
theorem zW8(n d:Nat)(o:Option Int)(hd:d<=n):HT.sIx n d o<=n:=by
 cases o with
 |none=>exact hd
 |some v=>
  show(if v<0 then(v+(n:Int)).toNat else min v.toNat n)<=n
  split<;>lia
theorem zP5(lo hi:Option Int)(n:Nat):qIf lo hi 1 n=(qA9 (HT.sIx n n hi-HT.sIx n 0 lo)).map fun k=>HT.sIx n 0 lo+k:=by
 unfold qIf sliceRange;have c1:∀(o:Option Int)(d:Nat),(match o with|none=>(d:Int)|some i=>(if(1:Int)>0 then max 0 (min (if i<0 then i+(n:Int)else i) n)else max (-1) (min (if i<0 then i+(n:Int)else i) (n-1))))=((HT.sIx n d o:Nat):Int):=by
  intro o d;cases o with
  |none=>rfl
  |some v=>
   show _=(((if v<0 then(v+(n:Int)).toNat else min v.toNat n:Nat)):Int)
   dsimp only;rw[if_pos (by decide)]
   split<;>lia
 dsimp only;rw[if_pos (show(1:Int)>0 by decide),if_pos (show(1:Int)>0 by decide),if_pos (show(1:Int)>0 by decide)];have e1:=c1 lo 0;have e2:=c1 hi n;rw[show((0:Nat):Int)=0 by rfl]at e1;have h1:∀a b:Int,a=((HT.sIx n 0 lo:Nat):Int)->b=((HT.sIx n n hi:Nat):Int)->(qA9 ((if a<b then(b-a+1-1)/1 else 0).toNat)).map (fun k:Nat=>(a+1*(k:Int)).toNat)=(qA9 (HT.sIx n n hi-HT.sIx n 0 lo)).map fun k=>HT.sIx n 0 lo+k:=by
  intro a b ha hb;subst ha hb;have e:(if((HT.sIx n 0 lo:Nat):Int)<((HT.sIx n n hi:Nat):Int)then(((HT.sIx n n hi:Nat):Int)-((HT.sIx n 0 lo:Nat):Int)+1-1)/1 else 0).toNat=HT.sIx n n hi-HT.sIx n 0 lo:=by
   split
   ·rw[qHi];lia
   ·lia
  rw[e];refine qAt fun k _=>?_
  lia
 exact h1 _ _ e1 e2
theorem zQB:∀(xs:List Nat)(a k:Nat),a+k<=xs.length->((qA9 k).map fun j=>a+j).filterMap (xs[·]?)=(xs.drop a).take k:=by
 intro xs a k h
 induction k with
 |zero=>simp
 |succ k ih=>
  rw[qDo,qB3,List.filterMap_append,ih (by lia),qFs]
  congr 1
  have:a+k<xs.length:=by lia
  simp[List.getElem?_drop,this]
theorem zSX(z:Str)(lo hi:Option Int):qLx z lo hi=⟨(Mi.cutA z.cps.toList lo hi).toArray⟩:=by
 obtain⟨⟨xs⟩⟩:=z;have hl:(⟨⟨xs⟩⟩:Str).length=xs.length:=rfl;unfold qLx;rw[zP5,hl];have e0:∀o d,Mi.cutIx xs.length d o=HT.sIx xs.length d o:=fun o d=>by cases o<;>rfl
 have hb:=zW8 xs.length xs.length hi (qA7 _);have ha:=zW8 xs.length 0 lo (qAs _);have hc:Mi.cutA xs lo hi=(xs.drop (HT.sIx xs.length 0 lo)).take (HT.sIx xs.length xs.length hi-HT.sIx xs.length 0 lo):=by
  unfold Mi.cutA;rw[e0,e0]
 show _=(⟨(Mi.cutA xs lo hi).toArray⟩:Str)
 rw[hc]
 split
 ·rename_i h
  have h':HT.sIx xs.length xs.length hi-HT.sIx xs.length 0 lo=xs.length:=by simpa using h
  have a0:HT.sIx xs.length 0 lo=0:=by lia
  rw[h',a0,qE2,qBw]
 ·by_cases hle:HT.sIx xs.length 0 lo<=HT.sIx xs.length xs.length hi
  ·have:=zQB xs (HT.sIx xs.length 0 lo) (HT.sIx xs.length xs.length hi-HT.sIx xs.length 0 lo) (by lia)
   rw[<- this];simp
  ·rw[show HT.sIx xs.length xs.length hi-HT.sIx xs.length 0 lo=0 by lia];simp
section
variable{X:Cx}
def rSlU(K:qA1):V->Option Int->Option Int->Hp->VK->Prop:=fun x lo hi H Q=>match x with
 |.str z=>z.length<=sizeLine/\Q (.str ⟨(Mi.cutA z.cps.toList lo hi).toArray⟩) H
 |.ref a=>∃xs,SqL K H a xs/\∀p,H p=none->Q (.ref p) (upd H p (.lst (cutV xs lo hi)))
 |_=>False
theorem zQG{v:Value}{o:Option Int}(h:IsPart v o):∃l:Option (Int×Tok),v=partValue l/\l.map (·.1)=o:=by
 cases h with
 |none=>exact⟨none,rfl,rfl⟩
 |int i t=>exact⟨some (i,t),rfl,rfl⟩
theorem u_sl{K:qA1}(hK:X.K=K:=by rfl):SlR X (rSlU K):=by
 subst hK;intro pins s σ H x v vl vu lo hi sl Q I rx hs pl pu h;cases x with
 |ref a=>
  obtain⟨xs,h1,h2⟩:=h;exact zWT pins s σ H _ v vl vu lo hi sl Q I rx hs pl pu ⟨a,xs,rfl,h1,h2⟩
 |str z=>
  obtain⟨hz,q⟩:=h;obtain⟨t,rfl⟩:=rx;obtain⟨l,rfl,el⟩:=zQG pl;obtain⟨u,rfl,eu⟩:=zQG pu;obtain⟨o,g1,g2,g3⟩:=hs;refine⟨"str",_,F.slot_str_getitem.lookup,typeIs_str _ _ _,wpAny_getItem_str_slice (l:=l) (u:=u) (st:=none) ⟨o,g1,g2,g3⟩ rfl ?_⟩;have hp:(if((1:Int)==1&&(qIf lo hi 1 z.length).length==z.length)=true then Made.val (.str z t)else Made.str ⟨((qIf lo hi 1 z.length).filterMap (z.cps[·]?)).toArray⟩).post (EP X pins σ Q) s:=by
   refine post_val_or_str ⟨qAr (Txt.slice_le z lo hi) hz,fun t' k=>?_⟩;refine⟨.str (qLx z lo hi),H,I.tok _,⟨_,rfl⟩,?_⟩;rw[zSX];exact q
  unfold sliceMade slicePicked;rw[el,eu];exact hp
 |_=>exact qA8 h
end
noncomputable def Its(z:Str):It:=⟨fun i _=>i<z.cps.size,fun i H x H'=>H'=H/\∃c,z.cps[i]?=some c/\x=.str ⟨#[c]⟩,fun i _=>z.cps.size<=i⟩
theorem zSU{P:qI0}{w:World}{K:qA1}{tg:Expr}(z:Str)(t:Tok)(it:Addr)(ty:String)(hty:ty=qIx z):Turn P w K tg (Its z) [it] it (fun i h=>h.IsStrIter it ty z t i) where
 mem:=by simp
 obj:=fun i h st b hb=>by
  have e:b=it:=by simpa using hb
  subst e;obtain⟨o,e,c,d⟩:=st;exact⟨o,e,fun v z=>by rw[d]at z;cases z⟩
 keep:=fun i h h' st k=>by obtain⟨o,ho,r⟩:=st;exact⟨o,k it (by simp) o ho,r⟩
 item:=by
  intro X hP hw hK hc i pins s σ H E I hf st hg;subst hP hw hK;have hi:i<z.cps.size:=hg;have hx:z.cps[i]?=some z.cps[i]:=qCo hi;obtain⟨f0,f1,f2,f3,f4,f5⟩:=hf it (by simp);have fin:∀h',h'.IsStrIter it ty z t (i+1)->qJ9 it s.heap h'->∃u,some (qKb ⟨#[z.cps[i]]⟩ s.toks)=some u/\wpAny (model X.prog X.w) X.A (letOwnedTupleGo tg (.ref it) u) (fun _ s2=>∃x H',Inv X pins σ H' s2/\RelV x u/\(Its z).yld i H x H'/\s2.heap.IsStrIter it ty z t (i+1)/\∀b∈[it],H' b=none) E { s with heap:=h',toks:=s.toks+1 }:=by
   intro h' st' sb;have I1:Inv X pins σ H { s with heap:=h',toks:=s.toks+1 }:=I.turned (t':=s.toks+1) (fun b o hb e=>(sb.2 b hb).trans e) f0 f1 f3 f4 f5;obtain⟨o,e,c,d⟩:=id st';refine⟨_,rfl,zRI (s:={ s with heap:=h',toks:=s.toks+1 }) e c d ?_ ⟨.str ⟨#[z.cps[i]]⟩,H,I1,⟨_,rfl⟩,⟨rfl,_,hx,rfl⟩,st',fun b hb=>(hf b hb).1⟩⟩;rw[hty];unfold qIx;split<;>decide
  cases ha:z.cps.all (· < 128)
  ·have e:ty = "str_iterator":=by rw[hty];unfold qIx;rw[ha];rfl
   subst e;exact wpAny_pyNext_wide_item st hx fun h' a b=>fin h' a b
  ·have e:ty = "str_ascii_iterator":=by rw[hty];unfold qIx;rw[ha];rfl
   subst e;exact wpAny_pyNext_ascii_item st hx fun h' a b=>fin h' a b
 done:=by
  intro X hP hw hK hc i pins s σ H E I hf st hg;subst hP hw hK;have hx:z.cps[i]?=none:=qEt hg;obtain⟨f0,f1,f2,f3,f4,f5⟩:=hf it (by simp);have fin:∀h',Heap.ExtBut it s.heap h'->(none:Option Value)=none/\Inv X pins σ H { s with heap:=h' }:=fun h' eb=>⟨rfl,I.turned (t':=s.toks) (fun b o hb e=>eb b o hb e) f0 f1 f3 f4 f5⟩
  cases ha:z.cps.all (· < 128)
  ·have e:ty = "str_iterator":=by rw[hty];unfold qIx;rw[ha];rfl
   subst e;exact wpAny_pyNext_wide_end (I.ok.hd hc) st hx fun h' a=>fin h' a
  ·have e:ty = "str_ascii_iterator":=by rw[hty];unfold qIx;rw[ha];rfl
   subst e;exact wpAny_pyNext_ascii_end (I.ok.hd hc) st hx fun h' a=>fin h' a
 self:=fun A i s Q E st h=>by
  cases ha:z.cps.all (· < 128)
  ·have e:ty = "str_iterator":=by rw[hty];unfold qIx;rw[ha];rfl
   subst e;exact wpAny_pyIter_striter_wide st h
  ·have e:ty = "str_ascii_iterator":=by rw[hty];unfold qIx;rw[ha];rfl
   subst e;exact wpAny_pyIter_striter_ascii st h
section
variable{X:Cx}
def iAny(K:qA1)(tl:TE):TI:=fun σ H R=>tl σ H fun x H1=>match x with
 |.ref a=>(∃xs,SqL K H1 a xs)/\R (Itl K a) H1\/(∃xs,SqT K H1 a xs)/\R (Itt K a) H1
 |.str z=>R (Its z) H1
 |_=>False
theorem zE4{K:qA1}{tg l:Expr}{tl:TE}(hl:PE X l tl)(hK:X.K=K:=by rfl):PI X tg l (iAny K tl):=by
 subst hK;intro pins s σ H R I h;refine thn (hl pins s σ H _ I h) fun v s1 z0=>?_
 obtain⟨x,H1,I1,r1,q1⟩:=z0;cases x with
 |ref a=>
  cases r1
  rcases q1 with⟨⟨xs,hq⟩,q⟩|⟨⟨xs,hq⟩,q⟩
  ·obtain⟨its,rv,p,hz⟩:=I1.list hq;refine wpAny_pyIter_list p.isList ?_;refine⟨s1.heap.objs.size,[s1.heap.objs.size],_,_,H1,rfl,I1.kept (t':=s1.toks) fun b o e=>qHy _ e,zPM a _,⟨_,qI1 _ rfl,rfl,rfl⟩,fun b hb=>?_,q⟩;have e:b=s1.heap.objs.size:=by simpa using hb
   subst e;exact I1.fpOk (qA7 _) (I1.hok.fresh (qA7 _))
  ·obtain⟨its,rv,p,hz⟩:=I1.tuple hq;refine wpAny_pyIter_tuple (show s1.heap.IsTuple a its.toArray from p) ?_;refine⟨s1.heap.objs.size,[s1.heap.objs.size],_,_,H1,rfl,I1.kept (t':=s1.toks) fun b o e=>qHy _ e,zOJ a _,⟨_,qI1 _ rfl,rfl,rfl⟩,fun b hb=>?_,q⟩;have e:b=s1.heap.objs.size:=by simpa using hb
   subst e;exact I1.fpOk (qA7 _) (I1.hok.fresh (qA7 _))
 |str z=>
  obtain⟨t,rfl⟩:=r1;refine wpAny_pyIter_strU ?_;refine⟨s1.heap.objs.size,[s1.heap.objs.size],_,_,H1,rfl,I1.kept (t':=s1.toks) fun b o e=>qHy _ e,zSU z t _ _ rfl,⟨_,qI1 _ rfl,rfl,rfl⟩,fun b hb=>?_,q1⟩;have e:b=s1.heap.objs.size:=by simpa using hb
  subst e;exact I1.fpOk (qA7 _) (I1.hok.fresh (qA7 _))
 |_=>exact qA8 q1
end
def XO(e:Addr)(C:Value)(d:Option Addr)(h:Heap):Prop:=∃oe vs,h.get? e=some oe/\oe.cls=C/\oe.dict=d/\oe.data=.fields vs/\1<vs.size
abbrev xo(e:Addr)(C:Value)(d:Option Addr):HO:=.ext (XO e C d)
def Fl(n:Nat)(e:Addr)(C:Value)(d:Option Addr)(mk:Value)(H:Hp)(h:Heap):Prop:=
 ∃oe vs T oT ts,h.get? e=some oe/\oe.cls=C/\oe.dict=d/\oe.data=.fields vs/\vs[1]?=some (.ref T)/\n<=T/\T≠e/\H T=none/\h.get? T=some oT/\oT.data=.fields ts/\ts[3]?=some mk
def Fly(n:Nat)(e:Addr)(C:Value)(d:Option Addr)(H:Hp)(h:Heap):Prop:=
 H e=some (xo e C d)/\((∃oe vs,h.get? e=some oe/\oe.cls=C/\oe.dict=d/\oe.data=.fields vs/\vs[1]?=some .none)\/Fl n e C d .none H h)
def Held(n:Nat)(e:Addr)(C:Value)(d:Option Addr)(L:Addr)(H:Hp)(h:Heap):Prop:=H e=some (xo e C d)/\Fl n e C d (rawInt L) H h
theorem Fly.mono{n n':Nat}{e:Addr}{C:Value}{d:Option Addr}{H:Hp}{h:Heap}(x:Fly n e C d H h)(hn:n'<=n):Fly n' e C d H h:=by
 obtain⟨a,b|⟨oe,vs,T,oT,ts,h1,h2,h3,h4,h5,h6,h7⟩⟩:=x
 ·exact⟨a,.inl b⟩
 ·exact⟨a,.inr ⟨oe,vs,T,oT,ts,h1,h2,h3,h4,h5,qAr hn h6,h7⟩⟩
structure Nt(n:Nat)(fs ch:List Addr)(e:Addr)(H:Hp)(h h':Heap):Prop where
 keep:∀b o,h.get? b=some o->b≠e->b∉fs->b∉ch->h'.get? b=some o
 slot:∀b o,h.get? b=some o->b≠e->b∉ch->∃sl,h'.get? b=some { o with slots:=sl }
 there:∀b o,h.get? b=some o->∃o',h'.get? b=some o'
 old:∀b∈ch,n<=b/\H b=none/\∃o vs,h.get? b=some o/\o.data=.fields vs
section
variable{M:Model}{A:qI4}{E:Value->qHx->Prop}{s:qHx}{n:Nat}{e L:Addr}{C:Value}{d:Option Addr}{H:Hp}{base:Heap}{env:Env}{outer:List Env}
theorem zW3{oe:Obj}{vs:Array Value}{head:Value}{hadNext:Bool}{Q:Unit->qHx->Prop}
  (hfr:A.frames=some (env::outer)) (hl:s.heap.FunFrames base (env::outer)) (hf:env.frame=some L)
  (he:s.heap.get? e=some oe) (hc:oe.cls=C) (hdi:oe.dict=d) (hd:oe.data=.fields vs) (hsz:1<vs.size) (hn:n<=s.heap.objs.size) (hH:∀b,s.heap.objs.size<=b->H b=none)
  (h:∀h',(∀b o,s.heap.get? b=some o->b≠e->b∉frs (env::outer)->h'.get? b=some o)->(∀b o,s.heap.get? b=some o->b≠e->∃sl,h'.get? b=some { o with slots:=sl }) ->
   (∃o',h'.get? e=some o')->Fl n e C d (rawInt L) H h'->Q () { s with heap:=h' }) :
  wpAny M A (do let a <- frameOf env;let pl <- entryPlaceOf L hadNext;let b <- qKx head a .none (rawInt L) .none pl;setField (.ref e) 1 b) Q E s:=by
 have hene:e∉(env::outer).filterMap (·.frame):=fun hm=>by
  obtain⟨_,o,ho,hnf⟩:=hl.mem hm;rw[he]at ho;injection ho with ho;subst ho;exact hnf vs hd
 refine wpAny_bind (wpAny_frameOf_fun hfr hl hf fun h₁ hs₁=>?_);refine wpAny_bind (wpAny_entryPlaceOf fun pl hpl=>?_);unfold qKx newFields;refine wpAny_bind (wpAny_newObj_type ?_ (hpl.sizeOk5 _ _ _ _ _));have he₁:h₁.get? e=some oe:=(hs₁.2.1 e hene).trans he;have he₂:=qHy (h:=h₁) { cls:=.type "traceback",dict:=none,data:=.fields ([head,.ref L,.none,rawInt L,.none]++(if pl.isEmpty then qA4 6 qI7 else pl)).toArray } he₁;have hTe:h₁.objs.size≠e:=qBz (qHz he₁);have hd₃:=qIk hd (·.setIfInBounds 1 (qI5 h₁.objs.size));have he₃:=qI8 (qIa (·.setIfInBounds 1 (qI5 h₁.objs.size))) he₂ (qIr hd₃);have hT₃:=(qI2 (h₁.push { cls:=.type "traceback",dict:=none,data:=.fields ([head,.ref L,.none,rawInt L,.none]++(if pl.isEmpty then qA4 6 qI7 else pl)).toArray })
  (qIa (·.setIfInBounds 1 (qI5 h₁.objs.size))) (qC7 hTe)).trans (qI1 h₁ rfl)
 have keep:∀b o,b≠e->h₁.get? b=some o ->
   ((h₁.push { cls:=.type "traceback",dict:=none,data:=.fields ([head,.ref L,.none,rawInt L,.none]++(if pl.isEmpty then qA4 6 qI7 else pl)).toArray }).update e (qIa (·.setIfInBounds 1 (qI5 h₁.objs.size)))).get? b=some o:=
  fun b o hbe hb=>by
   rw[qI2 _ _ (qC7 hbe)];exact qHy _ hb
 have hsz1:h₁.objs.size=s.heap.objs.size:=hs₁.1;refine wpAny_setField he₂ hd hsz (h _ (fun b o hb hbe hbf=>keep b o hbe ((hs₁.2.1 b hbf).trans hb)) (fun b o hb hbe=>?_) ⟨_,he₃⟩ ?_)
 ·obtain⟨sl,e1⟩:=hs₁.2.2 b o hb;exact⟨sl,keep b _ hbe e1⟩
 ·have hdo:∀(o:Obj) f,(qIa f o).dict=o.dict:=fun o f=>by unfold qIa;split<;>rfl
  exact⟨_,_,h₁.objs.size,_,_,he₃,(qLa _ _).trans hc,(hdo _ _).trans hdi,hd₃,by simp[hsz],by rw[hsz1];exact hn,hTe,hH _ (by rw[hsz1];exact qA7 _),hT₃,rfl,
   by first|(simp;done)|(rcases hpl with rfl|⟨_,_,_,_,_,_,_,rfl⟩<;>simp)⟩
theorem zXP{Q:Unit->qHx->Prop}(hfr:A.frames=some (env::outer))(hl:s.heap.FunFrames base (env::outer))(hf:env.frame=some L)(x:Fly n e C d H s.heap)(hn:n<=s.heap.objs.size)(hH:∀b,s.heap.objs.size<=b->H b=none)
  (h:∀h' ch,Nt n (frs (env::outer)) ch e H s.heap h'->Held n e C d L H h'->Q () { s with heap:=h' }):wpAny M A (noteFrame (.ref e) env) Q E s:=by
 obtain⟨hx,⟨oe,vs,he,hc,hdi,hd,h1⟩|⟨oe,vs,T,oT,ts,he,hc,hdi,hd,h1,hnT,hTe,hHT,hT,hdT,h3⟩⟩:=x
 ·unfold noteFrame;simp only[hf];refine wpAny_bind (wpAny_field he hd h1 ?_);rw[if_neg (by decide)];refine zW3 hfr hl hf he hc hdi hd (qBp.mp h1).1 hn hH fun h' k1 k2 k3 k4=>?_
  refine h h' [] ⟨fun b o hb hbe hbf _=>k1 b o hb hbe hbf,fun b o hb hbe _=>k2 b o hb hbe,fun b o hb=>?_,fun b hb=>nomatch hb⟩ ⟨hx,k4⟩
  by_cases z:b=e
  ·rw[z];exact k3
  ·obtain⟨sl,q⟩:=k2 b o hb z;exact⟨_,q⟩
 ·unfold noteFrame;simp only[hf];refine wpAny_bind (wpAny_field he hd h1 ?_);rw[if_pos (show(qI5 T != qI7)=true from by simp)];refine wpAny_bind (wpAny_field hT hdT h3 ?_);rw[if_neg (show ¬((qI7==rawInt L)=true) from by simp[rawInt])];refine wpAny_bind (wpAny_setField hT hdT (qBp.mp h3).1 ?_);have other:∀b,b≠T->(s.heap.update T (qIa (·.setIfInBounds 3 qI7))).get? b=s.heap.get? b:=fun b hb=>qI2 _ _ (qC7 hb)
  have noRecord:∀b o,s.heap.get? b=some o->(∀vs,o.data≠.fields vs)->b≠T:=fun b o hb hnf q=>by
   rw[q,hT]at hb;injection hb with hb;subst hb;exact hnf ts hdT
  have hl1:=hl.of_keeps (h':=s.heap.update T (qIa (·.setIfInBounds 3 qI7))) fun b o hb hnf=>⟨o,(other b (noRecord b o hb hnf)).trans hb,rfl⟩
  have hself:=qI8 (qIa (·.setIfInBounds 3 qI7)) hT (qIr (qIk hdT _));have hsz:(s.heap.update T (qIa (·.setIfInBounds 3 qI7))).objs.size=s.heap.objs.size:=by simp
  refine zW3 (s:={ s with heap:=s.heap.update T (qIa (·.setIfInBounds 3 qI7)) }) hfr hl1 hf ((other e (qC7 hTe)).trans he) hc hdi hd (qBp.mp h1).1 (by rw[hsz];exact hn) (by rw[hsz];exact hH) fun h' k1 k2 k3 k4=>?_
  have nT:∀b,b∉[T]->b≠T:=fun b hb z=>hb (by simp[z])
  refine h h' [T] ⟨fun b o hb hbe hbf hc=>k1 b o ((other b (nT b hc)).trans hb) hbe hbf,fun b o hb hbe hc=>k2 b o ((other b (nT b hc)).trans hb) hbe,fun b o hb=>?_,fun b hb=>?_⟩ ⟨hx,k4⟩
  ·by_cases z:b=e
   ·rw[z];exact k3
   ·by_cases z':b=T
    ·rw[z'];obtain⟨sl,q⟩:=k2 T _ hself hTe;exact⟨_,q⟩
    ·obtain⟨sl,q⟩:=k2 b o ((other b z').trans hb) z;exact⟨_,q⟩
  ·obtain rfl:b=T:=by simpa using hb
   exact⟨hnT,hHT,oT,ts,hT,hdT⟩
theorem zXX{Q:Unit->qHx->Prop}{fs:List Addr}{mk:Value}(x:Fl n e C d mk H s.heap)
  (h:∀h' ch,Nt n fs ch e H s.heap h'->Fl n e C d .none H h'->Q () { s with heap:=h' }):wpAny M A (setFlight (.ref e) none) Q E s:=by
 obtain⟨oe,vs,T,oT,ts,he,hc,hdi,hd,h1,hnT,hTe,hHT,hT,hdT,h3⟩:=x;have hsz3:3<ts.size:=(qBp.mp h3).1;have other:∀b,b≠T->(s.heap.update T (qIa (·.setIfInBounds 3 ((none:Option Addr).elim qI7 fun f=>rawInt f)))).get? b=s.heap.get? b:=
  fun b hb=>qI2 _ _ (qC7 hb)
 have hself:=qI8 (qIa (·.setIfInBounds 3 ((none:Option Addr).elim qI7 fun f=>rawInt f))) hT (qIr (qIk hdT _));have nT:∀b,b∉[T]->b≠T:=fun b hb z=>hb (by simp[z])
 unfold setFlight;refine wpAny_bind (wpAny_field he hd h1 ?_);rw[if_pos (show(qI5 T != qI7)=true from by simp)];refine wpAny_setField hT hdT hsz3 (h _ [T] ⟨fun b o hb _ _ hc=>(other b (nT b hc)).trans hb,fun b o hb _ hc=>⟨o.slots,(other b (nT b hc)).trans hb⟩,fun b o hb=>?_,fun b hb=>?_⟩ ?_)
 ·by_cases z:b=T
  ·rw[z];exact⟨_,hself⟩
  ·exact⟨o,(other b z).trans hb⟩
 ·obtain rfl:b=T:=by simpa using hb
  exact⟨hnT,hHT,oT,ts,hT,hdT⟩
 ·exact⟨oe,vs,T,_,_,(other e (qC7 hTe)).trans he,hc,hdi,hd,h1,hnT,hTe,hHT,hself,qIk hdT _,by simp[hsz3]⟩
end
section
variable{X:Cx}{pins:List (Addr×Obj)}{σ:St}{H:Hp}{s:qHx}{n:Nat}{e:Addr}{C:Value}{d:Option Addr}{A:qI4}{E:Value->qHx->Prop}{fs ch:List Addr}{h h':Heap}
theorem Nt.hok{P:qI0}{w:World}(t:Nt n fs ch e H h h')(k:HOk P w H h)(he:H e=some (xo e C d))(hfs:∀b∈fs,H b=none)(f:XO e C d h'):HOk P w H h':=fun a o ha=>by
 by_cases z:a=e
 ·subst z;rw[he]at ha;cases ha;obtain⟨oe,vs,h1,r⟩:=id f;exact⟨f,⟨oe,h1⟩,(k a _ he).2.2⟩
 ·refine(k a o ha).stay (fun b u hb q=>?_) (fun _ q=>q) (fun _ _ q=>q) fun _ _ _ q _=>q
  have hb':H b≠none:=by
   rcases hb with rfl|hb
   ·rw[ha];exact fun z=>by cases z
   ·rw[hb];exact fun z=>by cases z
  have hbe:b≠e:=by
   rcases hb with rfl|hb
   ·exact z
   ·intro y;rw[y,he]at hb;cases hb
  exact t.keep b u q hbe (fun y=>hb' (hfs b y)) fun y=>hb' (t.old b y).2.1
theorem Fl.xo{mk:Value}(f:Fl n e C d mk H h):XO e C d h:=by
 obtain⟨oe,vs,T,oT,ts,h1,h2,h3,h4,h5,_⟩:=f;exact⟨oe,vs,h1,h2,h3,h4,(qBp.mp h5).1⟩
theorem Nt.un(t:Nt n fs ch e H h h')(he:H e=some (xo e C d)):Un fs ch H H h h':=
 ⟨fun b o q hn hf hc=>t.keep b o q (fun z=>by rw[z,he]at hn;cases hn) hf hc,fun b o q hn _ hc=>t.slot b o q (fun z=>by rw[z,he]at hn;cases hn) hc,fun _ _ _ hn _=>hn,fun b o q _=>t.there b o q,fun _ _ q=>q,fun _ _ _ q=>q,fun b ps q=>⟨#[],by simpa using q⟩⟩
theorem Inv.noted(I:Inv X pins σ H s)(t:Nt n (frs X.stack) ch e H s.heap h')(he:H e=some (xo e C d))(f:XO e C d h')(hn:X.s₀.heap.objs.size<=n)(hp:∀p∈X.pn++pins,p.1<n):Inv X pins σ H { s with heap:=h' }:=by
 refine I.call' rfl (t.un he) (t.hok I.hok he I.stkFree f) I.bare fun b hb=>?_
 obtain⟨h1,h2,o,vs,h3,h4⟩:=t.old b hb;refine⟨.inr (qAr hn h1),?_,?_,fun p hp' z=>?_⟩
 ·intro z;obtain⟨m,⟨o',es,ep,ho',hd',_⟩,_⟩:=I.loc;rw[z,ho']at h3;cases h3;rw[hd']at h4;cases h4
 ·intro x c hx z;obtain⟨v,o',ho',hd'⟩:=I.cell x c hx;rw[<- z,ho']at h3;cases h3;rw[hd']at h4;cases h4
 ·have:=hp p hp'
  rw[z]at this;exact absurd h1 (Nat.not_le_of_lt this)
theorem zNL{Q:Unit->qHx->Prop}{M:Model}(I:Inv X pins σ H s)(hA:A.frames=some X.stack)(hs:X.stack=X.env::X.outer/\X.env.frame=some X.env.locals)(x:Fly n e C d H s.heap)(hn:X.s₀.heap.objs.size<=n)(hn':n<=s.heap.objs.size)
  (hp:∀p∈X.pn++pins,p.1<n) (h:∀s',Inv X pins σ H s'->Held n e C d X.env.locals H s'.heap->Q () s'):wpAny M A (noteFrame (.ref e) X.env) Q E s:=by
 have hst:=I.stack;rw[hs.1]at hA hst;refine zXP hA hst hs.2 x hn' (fun b hb=>I.hok.fresh hb) fun h' ch t y=>h _ (I.noted (ch:=ch) (by rw[hs.1];exact t) x.1 y.2.xo hn hp) y
theorem zIU{Q:Unit->qHx->Prop}{M:Model}{mk:Value}(I:Inv X pins σ H s)(hx:H e=some (xo e C d))(x:Fl n e C d mk H s.heap)(hn:X.s₀.heap.objs.size<=n)
  (hp:∀p∈X.pn++pins,p.1<n) (h:∀s',Inv X pins σ H s'->Fl n e C d .none H s'.heap->Q () s'):wpAny M A (setFlight (.ref e) none) Q E s:=
 zXX (fs:=frs X.stack) x fun h' ch t y=>h _ (I.noted t hx y.xo hn hp) y
theorem zR1{Q:Unit->qHx->Prop}{M:Model}(I:Inv X pins σ H s)(hA:A.frames=some X.stack)(hs:X.stack=X.env::X.outer/\X.env.frame=some X.env.locals)(x:Fly n e C d H s.heap)(hn:X.s₀.heap.objs.size<=n)(hn':n<=s.heap.objs.size)
  (hp:∀p∈X.pn++pins,p.1<n) (h:∀s',Inv X pins σ H s'->Fly n e C d H s'.heap->Q () s'):wpAny M A (leaving X.env (.ref e)) Q E s:=by
 unfold leaving;exact wpAny_bind (zNL I hA hs x hn hn' hp fun s1 I1 y=>zIU I1 y.1 y.2 hn hp fun s2 I2 z=>h s2 I2 ⟨y.1,.inr z⟩)
end
def CXe(P:qI0)(w:World):CXT:=fun outer H s E x s'=>∃e C d H',x=.ref e/\s'.os=s.os/\qK0 s'.gens/\Un (frs outer) [] H H' s.heap s'.heap/\HOk P w H' s'.heap/\Fly s.heap.objs.size e C d H' s'.heap/\s.heap.objs.size<=s'.heap.objs.size/\E x d H'
section
variable{X:Cx}{pins:List (Addr×Obj)}{σ:St}{H:Hp}{s s':qHx}{E E':XK}
theorem Inv.pinlt(I:Inv X pins σ H s):∀p∈X.pn++pins,p.1<s.heap.objs.size:=fun p hp=>qHz (I.pin p hp).1
def XP(X:Cx)(pins:List (Addr×Obj))(σ:St)(E:XK)(x:Value)(s':qHx):Prop:=∃n e C d H',x=.ref e/\Inv X pins σ H' s'/\Fly n e C d H' s'.heap/\X.s₀.heap.objs.size<=n/\n<=s'.heap.objs.size/\(∀p∈X.pn++pins,p.1<n)/\E x d H'
theorem Inv.flown{x:Value}(I:Inv X pins σ H s)(h:CXe X.prog X.w X.stack H s E x s'):XP X pins σ E x s':=by
 obtain⟨e,C,d,H',rfl,ho,hb,u,hk,f,hz,q⟩:=h;exact⟨_,e,C,d,H',rfl,I.call' ho u hk hb (fun b z=>absurd z (by simp)),f,I.sz,hz,I.pinlt,q⟩
end
section
variable{P:qI0}{w:World}{K:qA1}{mg:Str->Option Value}{base:Heap}{N:List Str}{qual:Str}{scope:Scope}{f:Addr}{cd:Value}{A:qI4}{outer:List Env}{s:qHx}{H:Hp}{E E':XK}
theorem zYT{pins:List (Addr×Obj)}{σ:St}{x:Value}{s':qHx}(hE:∀C d H',E' C d H'->E C d H')
  (h:XP (cxOf (CXe P w) P w K mg base N qual scope f cd A outer s H E) pins σ E' x s'):(cxOf (CXe P w) P w K mg base N qual scope f cd A outer s H E).xe x s':=by
 obtain⟨n,e,C,d,H',rfl,I,fl,hn,hz,hp,q⟩:=h;refine zR1 I I.ok.frames ⟨rfl,rfl⟩ fl hn hz hp fun s2 I2 f2=>?_
 exact⟨e,C,d,H',rfl,I2.os,I2.bare,I2.base,I2.hok,f2.mono hn,I2.sz,hE _ _ _ q⟩
end
abbrev TEX:=St->Hp->VK->XK->Prop
abbrev TSX:=Ends->(St->XK)->St->Hp->Prop
def PEx(X:Cx)(e:Expr)(t:TEX):Prop:=∀(pins:List (Addr×Obj))(s:qHx)(σ:St)(H:Hp)(Q:VK)(E:XK),Inv X pins σ H s->t σ H Q E->wpAny (model X.prog X.w) X.A (eval e X.env) (EP X pins σ Q) (XP X pins σ E) s
def PSx(X:Cx)(st:Stmt)(t:TSX):Prop:=∀(pins:List (Addr×Obj))(s:qHx)(σ:St)(H:Hp)(D:Ends)(E:St->XK),Inv X pins σ H s->t D E σ H->wpAny (model X.prog X.w) X.A (exec st X.env) (SP X pins D) (fun x s'=>∃σ',XP X pins σ' (E σ') x s') s
def PSxs(X:Cx)(st:List Stmt)(t:TSX):Prop:=∀(pins:List (Addr×Obj))(s:qHx)(σ:St)(H:Hp)(D:Ends)(E:St->XK),Inv X pins σ H s->t D E σ H->wpAny (model X.prog X.w) X.A (execs st X.env) (SP X pins D) (fun x s'=>∃σ',XP X pins σ' (E σ') x s') s
section
variable{X:Cx}{k:Nat}{f:Addr}{fd:qIe}{ps:List Str}{sp:Sp}{dvs:List V}{ds:List Value}{x:Str}{p pos:Pos}{e:Expr}{es:List Expr}{t:TA}{te:TE}{tx:TEX}{st:Stmt}{rest:List Stmt}{u u':TSX}
theorem zWY{pins:List (Addr×Obj)}{σ:St}{H:Hp}{s:qHx}{Q:VK}{E:XK}{us:List Value}{vs:List V}(F:FnOk X.prog X.w X.K X.mg X.base (CXe X.prog X.w) k f fd ps sp)(hr:Room k X.A)(hb:Binds X.K fd ps ds)(hd:Vals dvs ds)
  (I:Inv X pins σ H s) (r:Vals vs us) (h:sp (vs++dvs) H Q E):wpAny (model X.prog X.w) X.A (call (.ref f) us) (EP X pins σ Q) (XP X pins σ E) s:=by
 have r2:Vals (vs++dvs) (us++ds):=r.append hd;have hl:(us++ds).length=ps.length:=by rw[<- r2.length];exact F.len _ _ _ _ h
 refine wpAny_call (codeAny_mono (F.run X.A X.stack s H ⟨us,[]⟩ (us++ds) (vs++dvs) Q E hr I.env0 (hb s us I.kIn hl) r2 h) fun r s' hq=>?_);cases r with
 |error e=>exact I.flown hq
 |ok fl=>
  cases fl with
  |ret u=>exact I.after hq
  |next=>exact qA8 hq
  |brk=>exact qA8 hq
  |cont=>exact qA8 hq
theorem PA.nox{es:List Expr}{t:TA}{E:Value->qHx->Prop}{M:Model}(h:PA X.nox es t)(pos:Pos){pins:List (Addr×Obj)}{s:qHx}{σ:St}{H:Hp}{Q:List V->Hp->Prop}(I:Inv X pins σ H s)(q:t σ H Q) :
  wpAny (model X.prog X.w) X.A (spliced (backTo pos (starEach es X.env))) (AP X pins σ Q) E s:=
 wpAny_mono (h pos pins s σ H Q (I.wish _) q) (fun _ _ ⟨vs,H',I',r,q⟩=>⟨vs,H',I'.unwish,r,q⟩) fun _ _ z=>qA8 z
theorem zNE(he:PEx X e tx)(hs:qKc e none pos.line X.env=pure false:=by rfl):PSx X (.Expr e pos) (fun D E σ H=>tx σ H (fun _ H1=>D.nx σ H1) (E σ)):=by
 intro pins s σ H D E I h;exact wpAny_Expr_any (wpAny_mono (he pins s σ H _ _ I h) (fun v s1 ⟨x,H1,I1,r1,q1⟩=>⟨σ,H1,I1,q1⟩) fun x s1 q=>⟨σ,q⟩) I.quiet hs
theorem zIK(h1:PSx X st u):PSxs X [st] u:=by
 intro pins s σ H D E I h;refine qK4 (thn (h1 pins s σ H D E I h) fun f s1 q=>?_);cases f with
 |next=>exact qJ1 q
 |ret v=>exact q
 |brk=>exact q
 |cont=>exact q
abbrev Cx.hd(X:Cx)(e:Addr):Cx:={ X with A:=X.A.mark (some (.ref e)),calm:=false,xe:=fun _ _=>False }
theorem Cx.Ok.hd'{X:Cx}{e:Addr}(ok:X.Ok):(X.hd e).Ok:=
 ⟨ok.mod,ok.kind,ok.glob,ok.blt,ok.above,ok.inj,ok.has,ok.cab,fun z=>Bool.noConfusion z,ok.frames,ok.stk,ok.exf,ok.bs,ok.bsz,ok.noex,ok.exfs,ok.funs,ok.frf⟩
variable{pins:List (Addr×Obj)}{σ:St}{H:Hp}{s:qHx}{a:Addr}
theorem Inv.hd(I:Inv X pins σ H s)(a:Addr):Inv (X.hd a) pins σ H s:=⟨I.ok.hd',I.os,I.bare,I.base,I.loc,I.cell,I.free,I.freeC,I.pin,I.hok,I.len⟩
theorem Inv.unhd(ok:X.Ok)(I:Inv (X.hd a) pins σ H s):Inv X pins σ H s:=⟨ok,I.os,I.bare,I.base,I.loc,I.cell,I.free,I.freeC,I.pin,I.hok,I.len⟩
theorem Inv.gone{i:Nat}{x:Str}{h':Heap}{m:Str->Option Value}{v:Option Value}{t':Nat}(I:Inv X pins σ H s)(hN:X.N.Nodup)(hi:X.N[i]?=some x)(hk:X.env.scope.names.lookup x=some .local)
  (hm:∀(j:Nat)(y:Str)(w:V),X.N[j]?=some y->σ[j]?=some (some w)->Vis X.env.scope y->∃u,RelV w u/\Look X.env s.heap m y u) (hn:h'.Ns X.env.locals fun y=>if y=x then v else m y) (hs:qJ9 X.env.locals s.heap h'):Inv X pins (σ.set i none) H { s with heap:=h',toks:=t' }:=by
 have hiσ:i<σ.length:=by rw[I.len];exact(qA2.mp hi).1
 have cne:=I.cne;have oth:∀b,b≠X.env.locals->h'.get? b=s.heap.get? b:=fun b hb=>hs.2 b hb
 refine⟨I.ok,I.os,I.bare,⟨fun b o e n hb hx=>?_,fun b o e n hb hx=>?_,I.base.free,fun b o e hx=>?_,I.base.tups,I.base.frzs,I.base.tbls⟩,⟨_,hn,fun j y w e1 e2 e3=>?_⟩,fun y c e=>?_,I.free,I.freeC,fun p hp=>?_,fun b ob e=>?_,by simp[I.len]⟩
 ·exact(oth b (qAu (qAh (qHz e) I.ok.above))).trans (I.base.keep b o e n hb hx)
 ·obtain⟨sl,e1⟩:=I.base.slot b o e n hb hx;exact⟨sl,(oth b (qAu (qAh (qHz e) I.ok.above))).trans e1⟩
 ·obtain⟨o',e1⟩:=I.base.there b o e hx;exact⟨o',(oth b (qAu (qAh (qHz e) I.ok.above))).trans e1⟩
 ·by_cases hj:j=i
  ·subst hj;rw[qAk hiσ]at e2;cases e2
  ·rw[qAj (qC7 hj)]at e2;obtain⟨u',r',q⟩:=hm j y w e1 e2 e3;refine⟨u',r',?_⟩;have hy:y≠x:=fun e=>hj (zIT hN e1 (e▸hi))
   rcases q with⟨k,e⟩|⟨k,c,e,z⟩
   ·exact .inl ⟨k,by simp[hy,e]⟩
   ·exact .inr ⟨k,c,e,z.sameBut hs (cne y c e)⟩
 ·obtain⟨w',z⟩:=I.cell y c e;exact⟨w',z.sameBut hs (cne y c e)⟩
 ·obtain⟨e,n,ne,nf,d⟩:=I.pin p hp;exact⟨(oth p.1 ne).trans e,n,ne,nf,d⟩
 ·refine(I.hok b ob e).stay (fun c w' hc q=>(oth c ?_).trans q) (fun _ q=>q) (fun _ _ q=>q) fun _ _ _ q _=>q
  rintro rfl
  rcases hc with rfl|hc
  ·rw[I.free]at e;cases e
  ·rw[I.free]at hc;cases hc
theorem zJ6{M:Model}{A:qI4}{E:Value->qHx->Prop}{Q:Unit->qHx->Prop}{i:Nat}{x:Str}{pos:Pos}(I:Inv X pins σ H s)(hN:X.N.Nodup)(hi:X.N[i]?=some x)(hk:X.env.scope.names.lookup x=some .local)
  (h:∀s',Inv X pins (σ.set i none) H s'->Q () s'):wpAny M A (do bindName X.env x .none;unbindBehindTheSuite X.env x pos) Q E s:=by
 obtain⟨m,hn,hl⟩:=id I.loc;refine wpAny_nameGoes_keeps hk hn (by rw[I.ok.kind];rfl) fun h' v hn' hs=>h _ (I.gone hN hi hk hl hn' hs)
noncomputable def zU6(i:Nat)(D:Ends):Ends:={ nx:=fun σ H=>D.nx (σ.set i none) H,rt:=D.rt,bk:=fun σ H=>D.bk (σ.set i none) H,ct:=fun σ H=>D.ct (σ.set i none) H }
def zUV(K:qA1)(c:Value)(i:Nat)(tb:TSX)(ts:TS):TS:=fun D σ H=>tb D (fun σ1 x d H1=>∃e C,x=.ref e/\H1 e=some (xo e C d)/\qCp K C c=some true/\ts (zU6 i D) (σ1.set i (some (.ref e))) H1) σ H
theorem zTF{body:List Stmt}{tb:TSX}{ts:TS}{c:Value}{cn x:Str}{i:Nat}{b₀:Stmt}{suite:List Stmt}{cp hp':Pos}(hb:PSxs X body tb)(hst:X.stack=X.env::X.outer/\X.env.frame=some X.env.locals)
  (hc:X.mg cn=some c\/(X.mg cn=none/\qIl cn=some c/\cn≠"__name__")) (hg:Gl X cn) (hN:X.N.Nodup) (hi:X.N[i]?=some x) (hk:X.env.scope.names.lookup x=some .local) (hsu:∀e,PSs (X.hd e) (b₀::suite) ts) (hdb:(cn==("__debug__":Str))=false:=by decide) :
  PS X (.Try body [.ExceptHandler (some (.Name cn cp)) (some x) (b₀::suite) hp'] [] [] pos) (zUV X.K c i tb ts):=by
 intro pins s σ H D I h;refine wpAny_Try_except (wpAny_mono (hb pins s σ H _ _ I h) (fun f s1 q=>?_) fun y s1 z0=>?_)
 ·cases f with
  |next=>exact qJ1 q
  |ret v=>exact q
  |brk=>exact q
  |cont=>exact q
 ·obtain⟨σ1,n,e,C,d,H1,ey,I1,fl,hn,hn',hp,q0⟩:=z0;subst ey;obtain⟨e',C',ee,hC',hm,q⟩:=q0;cases ee;refine zNL I1 I1.ok.frames hst fl hn hn' hp fun s2 I2 hh=>?_
  refine zIU I2 hh.1 hh.2 hn hp fun s3 I3 f3=>?_
  have I3h:=I3.hd e;have LT:qFj (model X.prog X.w) s3.heap (typeOf (.ref e)) C':=by
   obtain⟨oe,vs,he,hcl,_⟩:=(I3.hok e _ hC').1;subst hcl;exact(qHu he).andThen .now
  have ex:=PySem.W.exm_one (M:=model X.prog X.w) I3.kIn LT hm;have load:∀{Q:Value->qHx->Prop}{E:Value->qHx->Prop},Q c s3->wpAny (model X.prog X.w) (X.A.mark (some (.ref e))) (eval (.Name cn cp) X.env) Q E s3:=fun{Q E} hq=>by
   rcases hc with z|⟨z,z1,z2⟩
   ·exact zGV (X:=X.hd e) I3h hg z hq hdb
   ·exact zHZ (X:=X.hd e) I3h hg z z1 hq z2 hdb
  refine wpAny_handleBy_cons (codeAny_handlers_test (load (ex.here ?_))) (by intro z;cases z);refine codeAny_handlers_suite_as (zIU I3h hh.1 f3 hn hp fun s4 I4 f4=>?_);refine zID (X:=X.hd e) (v:=.ref e) I4 hN hi (.inl hk) rfl (fun s5 I5=>?_) (.inr hk);refine wpAny_mono (hsu e pins s5 _ H1 (zU6 i D) I5 q) (fun f s6 q6=>?_) fun _ _ z=>qA8 z
  cases f with
  |next=>obtain⟨σ',H',I',q'⟩:=q6;exact zJ6 (I'.unhd I1.ok) hN hi hk fun s7 I7=>⟨_,H',I7,q'⟩
  |brk=>obtain⟨σ',H',I',q'⟩:=q6;exact zJ6 (I'.unhd I1.ok) hN hi hk fun s7 I7=>⟨_,H',I7,q'⟩
  |cont=>obtain⟨σ',H',I',q'⟩:=q6;exact zJ6 (I'.unhd I1.ok) hN hi hk fun s7 I7=>⟨_,H',I7,q'⟩
  |ret u=>obtain⟨v,σ',H',I',r,q'⟩:=q6;exact zJ6 (I'.unhd I1.ok) hN hi hk fun s7 I7=>⟨v,_,H',I7,r,q'⟩
end
end L2
namespace PySem.W
open PySem PySem.Calls PyProof.Rows Builtin Builtin.ObjectAttr
noncomputable def excTail:List Value->Bool
 |.ref _::r=>excTail r
 |[.type a,.type b,.type c,.type d]=>a == "ValueError" && b == "Exception" && c == "BaseException" && d == "object"
 |_=>false
theorem zM7{a b c d:String}(e:excTail [.type a,.type b,.type c,.type d]=true):a = "ValueError"/\b = "Exception"/\c = "BaseException"/\d = "object":=by
 simp only[excTail,qBf,beq_iff_eq]at e;exact⟨e.1.1.1,e.1.1.2,e.1.2,e.2⟩
theorem zEX:∀{l:List Value},excTail l=true->∃as:List Addr,l=as.map qI5++[.type "ValueError",.type "Exception",.type "BaseException",.type "object"]
 |.ref a::r,e=>by
  obtain⟨as,rfl⟩:=zEX (l:=r) e;exact⟨a::as,rfl⟩
 |[.type a,.type b,.type c,.type d],e=>by
  obtain⟨rfl,rfl,rfl,rfl⟩:=zM7 e;exact⟨[],rfl⟩
def excOver(K:Frag)(C:Addr):Bool:=(clsIn K C).any fun cd=>excTail cd.mro
section
variable{prog:qI0}{w:World}{A:qI4}{s:qHx}{K:Frag}{x C:Addr}{R:qL0->qHx->Prop}
end
end PySem.W
namespace PySem.W
open PySem
def xcIn(K:Frag)(C:Addr):Bool:=match K.lookup C with
 |some ⟨.type "type",_,.cls cd,sl⟩=>(match cd.mro,sl.toList with
  |.ref C'::bm,[_,_,_,_,some (.builtin n),_]=>C'==C && !cd.hasDel&&excTail bm&&n == "ValueError.__new__" && cd.hasDict
  |_,_=>false)
 |_=>false
theorem xc_cls{K:Frag}{h:Heap}{C:Addr}(X:K.In h)(q:xcIn K C=true):∃nm qn N bs bm hdct sn sub ab col dd k0 k1 k2 k3 k5,
  h.get? C=some (excClassObj nm qn C N bs bm hdct sn sub ab col dd k0 k1 k2 k3 k5 "ValueError.__new__")/\excTail bm=true:=by
 unfold xcIn at q
 split at q
 ·rename_i dd cd sl ho
  split at q
  ·rename_i C' bm k0 k1 k2 k3 n k5 hm hs
   simp only[qBf,beq_iff_eq,Bool.not_eq_true']at q;obtain⟨⟨⟨⟨rfl,hdel⟩,hb⟩,hn⟩,hd⟩:=q;subst hn;obtain⟨nm,bs,mro,ns,qn,hd',sn,sub,ab,col,del⟩:=cd;dsimp only at hm hdel;subst hm hdel;have hsl:sl=#[k0,k1,k2,k3,some (.builtin "ValueError.__new__"),k5]:=by
    obtain⟨l⟩:=sl;simp only at hs;rw[hs]
   subst hsl;exact⟨nm,qn,ns,bs,bm,hd',sn,sub,ab,col,dd,k0,k1,k2,k3,k5,X _ _ ho,hb⟩
  ·cases q
 ·cases q
theorem exc_con{l:List Value}{T:String}{b:Bool}(e:excTail l=true)(hb:List.contains [qJ5 "ValueError",.type "Exception",.type "BaseException",.type "object"] (.type T)=b):l.contains (.type T)=b:=by
 obtain⟨as,rfl⟩:=zEX e;clear e
 induction as with
 |nil=>exact hb
 |cons a r ih=>rw[qAg,qEn,qBm,ih];rfl
end PySem.W
namespace PySem.Xc
open PySem
section
variable{M:Model}{prog:qI0}{w:World}{A:qI4}{E:Value->qHx->Prop}{h:Heap}{g:Array qJ8}{d:Drawn}{t:Nat}{os:OsState}{R:qL0->qHx->Prop}
variable{nm q:Str}{C N:Addr}{bs bm bmB:List Value}{hdct:Bool}{sn:List Str}{sub:List Value}{ab:Bool}{col:Option Bool}{dd:Option Addr}{k0 k1 k2 k3 k5:Option Value}{B newId initId:String}
theorem zPC(F:qJt B newId initId bmB)(hB:bm.contains (.type B)=true){rest:List Value}{Q:Unit->qHx->Prop}(hC:h.get? C=some (excClassObj nm q C N bs bm hdct sn sub ab col dd k0 k1 k2 k3 k5 newId))
  (hq:Q () ⟨h,g,d,t,os⟩):wpAny M A (checkBuiltinCall newId ⟨.ref C::rest,[]⟩) Q E ⟨h,g,d,t,os⟩:=by
 have hcont:(qI5 C::bm).contains (.type B)=true:=by rw[qBm,hB,qF0]
 have hstar:=F.noStar;simp only[checkBuiltinCall,F.newKind,F.newSplit,F.newRow]
 repeat (first|refine qI9 hC ?_|(refine qIg hC ?_;rw[hcont])|refine wpAny_staticBase_exc hC ?_|refine wpAny_madeBy_exc hC ?_|simp only[bne_self_eq_false,qCc,if_false]|wp_step)
 exact hq
theorem zS4(F:qJt B newId initId bmB)(hB:bm.contains (.type B)=true)(hA:bm.contains (.type "AttributeError")=false)(hN:bm.contains (.type "NameError")=false){rest:List Value}(hC:h.get? C=some (excClassObj nm q C N bs bm hdct sn sub ab col dd k0 k1 k2 k3 k5 newId))
  (hq:R (.ok (.ret (.ref (h.objs.size+1)))) ⟨(h.push { cls:=.type "tuple",data:=.seq rest.toArray }).push
   { cls:=.ref C,data:=.fields #[.ref h.objs.size,.none,.none,.none,.bool false,.none] },g,d,t,os⟩) (hrest:rest.length<=sizeLine) :
  qJd (model prog w) A (.builtin newId ⟨.ref C::rest,[]⟩) R ⟨h,g,d,t,os⟩:=by
 have hends:=F.ends;have hcB:(qI5 C::bm).contains (.type B)=true:=by rw[qBm,hB,qF0]
 have hcA:(qI5 C::bm).contains (.type "AttributeError")=false:=by rw[qBm,hA];rfl
 have hcN:(qI5 C::bm).contains (.type "NameError")=false:=by rw[qBm,hN];rfl
 refine codeAny_builtinAt F.entry ?_;unfold qLb.«BaseException.__new__»;refine wpAt_bind ?_;show wpAt _ _ _ (stack >>= _) _ _ _;refine wpAt_bind (wpAt_stack fun p below=>wpAt_of_wpAny ?_)
 wp_walk
 refine wpAt_of_wpAny ?_;rw[F.owner]
 repeat (first|with_reducible refine wpAny_madeHere_exc F.canon hC ?_|with_reducible refine qI9 hC ?_|(with_reducible refine qIg hC ?_;first|rw[hcB]|rw[hcA]|rw[hcN])|wp_step)
 show R _ _;rw[qIn];exact hq
theorem zMH(F:qJt B newId initId bmB)(hB:bm.contains (.type B)=true){e:Addr}{oe:Obj}{rest:List Value}{Q:Unit->qHx->Prop}{newId':String}
  (hC:h.get? C=some (excClassObj nm q C N bs bm hdct sn sub ab col dd k0 k1 k2 k3 k5 newId')) (he:h.get? e=some oe) (hcls:oe.cls=.ref C) (hq:Q () ⟨h,g,d,t,os⟩) :
  wpAny M A (checkBuiltinCall initId ⟨.ref e::rest,[]⟩) Q E ⟨h,g,d,t,os⟩:=by
 have hcB:(qI5 C::bm).contains (.type B)=true:=by rw[qBm,hB,qF0]
 have hshort:=F.noStar;simp only[checkBuiltinCall,F.initKind,F.initSplit,F.initRow]
 repeat (first|(with_reducible refine qI9 he ?_;rw[hcls])|with_reducible refine qI9 hC ?_|(with_reducible refine qIg hC ?_;rw[hcB])|wp_step)
 refine wpAny_onRaise ?_;rw[show ∀(a b:String)(n:Nat),Bind.check ⟨.positional,"*",B,.self,[⟨"args",.varPos,false⟩]⟩ a b n (qHq (fun x=>x.fst) ({ pos:=qI5 e::rest }:Args).kw)=pure () from
  fun a b n=>check_star_args _ _ _ _ _ _]
 exact wpAny_pure hq
theorem zOI(F:qJt B newId initId bmB)(hB:bm.contains (.type B)=true)(hA:bm.contains (.type "AttributeError")=false)(hN:bm.contains (.type "NameError")=false){rest:List Value}{Q:Fin->qHx->Prop}
  (hC:h.get? C=some (excClassObj nm q C N bs bm hdct sn sub ab col dd k0 k1 k2 k3 k5 newId)) (hi:qFj (model prog w) h (typeLookup (.ref C) "__init__") (some (.builtin initId)))
  (hq:∀h' e,qJu h h' e (.ref C) rest->h.objs.size<=e->Q (.done (.ret (.ref e))) ⟨h',g,d,t,os⟩) (hrest:rest.length<=sizeLine) :
  wpAny (model prog w) A (qLb.«type.__call__» ⟨.ref C::rest,[]⟩) Q E ⟨h,g,d,t,os⟩:=by
 repeat (first|with_reducible refine qI9 hC ?_|with_reducible refine wpAny_madeBy_exc hC ?_|wp_step)
 refine codeAny_call_builtin_code (qL1 _ F.quiet) (zPC F hB hC ?_);refine zS4 F hB hA hN hC ?_ hrest;show wpAny _ _ _ _ _ _;have hC₁:=qHy { cls:=.ref C,data:=.fields #[.ref h.objs.size,.none,.none,.none,.bool false,.none] }
  (qHy { cls:=.type "tuple",data:=.seq rest.toArray } hC)
 have hi₁:=hi.keeps (h':=(h.push { cls:=.type "tuple",data:=.seq rest.toArray }).push { cls:=.ref C,data:=.fields #[.ref h.objs.size,.none,.none,.none,.bool false,.none] }) fun b o e=>qHy _ (qHy _ e)
 have hget:((h.push { cls:=.type "tuple",data:=.seq rest.toArray }).push
   { cls:=.ref C,data:=.fields #[.ref h.objs.size,.none,.none,.none,.bool false,.none] }).get? (h.objs.size+1)=some
   { cls:=.ref C,data:=.fields #[.ref h.objs.size,.none,.none,.none,.bool false,.none] }:=by heap_get
 have hcC:(qI5 C::bm).contains (.ref C)=true:=by simp
 unfold isInstance
 repeat (first|with_reducible refine qI9 hget ?_|(with_reducible refine qIg hC₁ ?_;rw[hcC])|wp_step)
 show wpAny _ _ (typeLookup (.ref C) _) _ _ _;refine hi₁.here ?_;refine wpAny_holding (wpAny_bind (wpAny_of_eq (F.init.bind _) ?_));refine wpAny_bind (wpAny_call (codeAny_call_builtin F.init.plain F.initEntry (zMH F hB hC₁ hget rfl ?_)))
 wp_walk
 refine hq _ _ ⟨fun b o hb=>?_,qIv (qDn _),h.objs.size+2,?_,qIv (by lia),?_⟩ (qDn _)
 ·rw[qI2 _ _ (qBz (qFr (qHz hb)))];exact qHy _ (qHy _ (qHy _ hb))
 ·rw[qI8 _ (qHy _ hget) rfl];simp only[qIn];rfl
 ·rw[qI2 _ _ (show h.objs.size+1≠h.objs.size+2 by lia)];exact Heap.get?_push_at (by simp only[qIn]) rfl
theorem callX(F:qJt B newId initId bmB)(hB:bm.contains (.type B)=true)(hA:bm.contains (.type "AttributeError")=false)(hN:bm.contains (.type "NameError")=false){rest:List Value}{Q:Value->qHx->Prop}
  (hC:h.get? C=some (excClassObj nm q C N bs bm hdct sn sub ab col dd k0 k1 k2 k3 k5 newId)) (hi:qFj (model prog w) h (typeLookup (.ref C) "__init__") (some (.builtin initId)))
  (hq:∀h' e,qJu h h' e (.ref C) rest->h.objs.size<=e->Q (.ref e) ⟨h',g,d,t,os⟩) (hrest:rest.length<=sizeLine) :
  wpAny (model prog w) A (call (.ref C) rest) Q E ⟨h,g,d,t,os⟩:=by
 have f1:=tc_lookup;have f2:=tc_bind (.ref C);have hT:(⟨h,g,d,t,os⟩:qHx).TypeIs (.ref C) "type":=⟨_,hC,rfl⟩
 refine wpAny_call (codeAny_of_tree ?_);show wpAny _ _ (callAny (.ref C) _) _ _ _
 repeat (any_goals (first|assumption|with_reducible refine qI9 hC ?_|wp_step))
 refine⟨rfl,?_⟩;refine codeAny_call_builtin_at (qL1 _ (by decide +kernel)) entry_typeCall (wpAny_check_type_call_sub hC (zOI (hrest:=hrest) F hB hA hN hC hi fun h' e hm hz=>?_));exact hq h' e hm hz
end
section
variable{M:Model}{A:qI4}{E:Value->qHx->Prop}{s:qHx}{env:Env}
variable{nm q:Str}{C N:Addr}{bs bm:List Value}{hdct:Bool}{sn:List Str}{sub:List Value}{ab:Bool}{col:Option Bool}{dd:Option Addr}{k0 k1 k2 k3 k5:Option Value}{newId:String}
theorem raiseX{x:Sem Value}{Q:Flow->qHx->Prop}(hh:A.handled=none)
  (h:wpAny M A x (fun v s₁=>∃e t di nm q C N bs bm hdct sn sub ab col dd k0 k1 k2 k3 k5 newId,v=.ref e/\s₁.heap.get? C=some (excClassObj nm q C N bs bm hdct sn sub ab col dd k0 k1 k2 k3 k5 newId)/\bm.contains (.type "BaseException")=true /\
   s₁.heap.get? e=some { cls:=.ref C,dict:=di,data:=.fields #[.ref t,.none,.none,.none,.bool false,.none] }/\E (.ref e) s₁) E s) :
  wpAny M A (raiseStmt env (some x) none) Q E s:=by
 unfold raiseStmt;refine wpAny_bind (wpAny_mono h (fun v s₁ h₁=>?_) fun _ _ x=>x);obtain⟨e,t,di,nm,q,C,N,bs,bm,hdct,sn,sub,ab,col,dd,k0,k1,k2,k3,k5,newId,rfl,hC,hbase,he,hE⟩:=h₁;have hcB:(qI5 C::bm).contains (.type "BaseException")=true:=by rw[qBm,hbase,qF0]
 obtain⟨hp,g,d,tk,os⟩:=s₁
 repeat (first|with_reducible refine qI9 he ?_|with_reducible refine qI9 hC ?_|(with_reducible refine qIg hC ?_;rw[hcB])|wp_step)
 exact wpAny_raiseNew_none hh hE
theorem RaiseX{x:Expr}{pos:Pos}{Q:Flow->qHx->Prop}(hh:A.handled=none)
  (h:wpAny M A (eval x env) (fun v s₁=>∃e t di nm q C N bs bm hdct sn sub ab col dd k0 k1 k2 k3 k5 newId,v=.ref e/\s₁.heap.get? C=some (excClassObj nm q C N bs bm hdct sn sub ab col dd k0 k1 k2 k3 k5 newId)/\bm.contains (.type "BaseException")=true /\
   s₁.heap.get? e=some { cls:=.ref C,dict:=di,data:=.fields #[.ref t,.none,.none,.none,.bool false,.none] }/\E (.ref e) s₁) E s) :
  wpAny M A (exec (.Raise (some x) none pos) env) Q E s:=by
 rw[arm_exec_Raise]
 first
  |exact wpAny_bind (wpAny_standAt (raiseX hh (wpAny_bind (wpAny_mono h (fun v s₁ h₁=>wpAny_bind (wpAny_standAt (wpAny_pure h₁))) fun _ _ x=>x))))
  |(simp only[evalOpt,qH8];exact wpAny_bind (wpAny_standAt (raiseX hh (wpAny_bind (wpAny_mono h (fun v s₁ h₁=>wpAny_bind (wpAny_standAt (wpAny_pure h₁))) fun _ _ x=>x)))))
  |(show wpAny M A (do qLu pos;raiseStmt env (some (do let v <- eval x env;qLu pos;pure v)) none) Q E s;exact wpAny_bind (wpAny_standAt (raiseX hh (wpAny_bind (wpAny_mono h (fun v s₁ h₁=>wpAny_bind (wpAny_standAt (wpAny_pure h₁))) fun _ _ x=>x)))))
end
section
open PySem.W
variable{prog:qI0}{w:World}{A:qI4}{E:Value->qHx->Prop}{K:Frag}{x C:Addr}{ox:Obj}{od:Option Obj}{name:Str}{expr fill:Bool}{h:Heap}{g:Array qJ8}{d:Drawn}{t:Nat}{os:OsState}
theorem zS8{M:Model}{nameV:Value}{Q:Unit->qHx->Prop}(X:K.In h)(hc:xcIn K C=true)(I:InstAt h x ox C od)(hq:Q () ⟨h,g,d,t,os⟩):wpAny M A (checkBuiltinCall "BaseException.__getattribute__" ⟨[.ref x,nameV],[]⟩) Q E ⟨h,g,d,t,os⟩:=by
 obtain⟨nm,qn,N,bs,bm,hdct,sn,sub,ab,col,dd,k0,k1,k2,k3,k5,hC,ht⟩:=xc_cls X hc;have hk:builtinKind "BaseException.__getattribute__" = some .slot:=by decide +kernel
 have hsplit:splitId "BaseException.__getattribute__" = some ("BaseException","__getattribute__"):=by decide +kernel
 have hcB:(qI5 C::bm).contains (.type "BaseException")=true:=by rw[qBm,exc_con ht (T:="BaseException") (b:=true) (by decide)];rfl
 have ha:=F.args_bexc_ga (.ref x) nameV;simp only[checkBuiltinCall,hk,hsplit];refine wpAny_bind ?_
 ·unfold isInstance;have hx:=I.at_;have hcl:=I.cls
  repeat (first|(with_reducible refine qI9 hx ?_;rw[hcl])|(with_reducible refine qIg hC ?_;rw[hcB])|wp_step)
  exact hq
end
end PySem.Xc
namespace L2
open PySem PySem.Spec PyProof.Rows
def XN(e:Addr)(C:Value)(d:Option Addr)(h:Heap):Prop:=∃t1,h.get? e=some { cls:=C,dict:=d,data:=.fields #[.ref t1,.none,.none,.none,.bool false,.none] }
abbrev xn(e:Addr)(C:Value)(d:Option Addr):HO:=.ext (XN e C d)
theorem zWJ{e:Addr}{C:Value}{d:Option Addr}(h1 h2:Heap)(x:XN e C d h1)(k:∀o,h1.get? e=some o->h2.get? e=some o):XN e C d h2:=let⟨t1,a⟩:=x;⟨t1,k _ a⟩
theorem zWI{e:Addr}{C:Value}{d:Option Addr}(h1 h2:Heap)(x:XO e C d h1)(k:∀o,h1.get? e=some o->h2.get? e=some o):XO e C d h2:=let⟨oe,vs,a,r⟩:=x;⟨oe,vs,k _ a,r⟩
theorem zcJ{P:qI0}{w:World}{H:Hp}{h:Heap}{e:Addr}{C:Value}{d:Option Addr}(x:XN e C d h):ObjOk P w H h e (xn e C d):=⟨x,let⟨t1,a⟩:=x;⟨_,a⟩,zWJ⟩
theorem zcI{P:qI0}{w:World}{H:Hp}{h:Heap}{e:Addr}{C:Value}{d:Option Addr}(x:XO e C d h):ObjOk P w H h e (xo e C d):=⟨x,let⟨oe,vs,a,_⟩:=x;⟨_,a⟩,zWI⟩
section
variable{X:Cx}{pins:List (Addr×Obj)}{σ:St}{H:Hp}{s:qHx}{k:Nat}{f C:Addr}{fd:qIe}{ps:List Str}{sp:Sp}{x:Str}{p pos:Pos}{e:Expr}{es:List Expr}{t:TA}{te:TE}
def zLM(C:Addr)(t:TA):TE:=fun σ H Q=>t σ H fun vs H1=>vs.length<=sizeLine/\∀e,H1 e=none->Q (.ref e) (upd H1 e (xn e (.ref C) none))
theorem Inv.madeX{h':Heap}{e:Addr}{us:List Value}(I:Inv X pins σ H s)(m:qJu s.heap h' e (.ref C) us)(hs:s.heap.objs.size<=e):H e=none/\Inv X pins σ (upd H e (xn e (.ref C) none)) { s with heap:=h' }:=by
 obtain⟨t1,h1,_⟩:=m.there;exact⟨I.hok.fresh hs,I.laid (t':=s.toks) m.keeps hs (zcJ ⟨t1,h1⟩)⟩
theorem zOO{Q:VK}{us:List Value}{vs:List V}(hc:PySem.W.xcIn X.K C=true)(hi:qAv X.K (.ref C) "__init__" = some (some (.builtin "ValueError.__init__")))
  (I:Inv X pins σ H s) (r:Vals vs us) (hz:vs.length<=sizeLine) (h:∀e,H e=none->Q (.ref e) (upd H e (xn e (.ref C) none))):wpAny (model X.prog X.w) X.A (call (.ref C) us) (EP X pins σ Q) X.xe s:=by
 obtain⟨nm,qn,N,bs,bm,hdct,sn,sub,ab,col,dd,k0,k1,k2,k3,k5,hC,ht⟩:=PySem.W.xc_cls I.kIn hc;have hus:us.length<=sizeLine:=by rw[<- r.length];exact hz
 have key:∀h' e,qJu s.heap h' e (.ref C) us->s.heap.objs.size<=e->EP X pins σ Q (.ref e) { s with heap:=h' }:=by
  intro h' e m hs;obtain⟨he,I2⟩:=I.madeX m hs;exact⟨.ref e,_,I2,rfl,h e he⟩
 have hK:=PySem.W.looks_findIn (M:=model X.prog X.w) I.kIn hi;obtain⟨hh,g,d,tk,os⟩:=s;exact Xc.callX PySem.F.excBase_ValueError (PySem.W.exc_con ht (by decide)) (PySem.W.exc_con ht (by decide)) (PySem.W.exc_con ht (by decide)) hC hK key hus
theorem zQE(hc:PySem.W.xcIn X.K C=true)(hi:qAv X.K (.ref C) "__init__" = some (some (.builtin "ValueError.__init__")))(hg:Gl X x)(hm:X.mg x=some (.ref C))(hk:qB9 X.K (.ref C)=true)
  (ha:PA X (e::es) t) (hdb:(x==("__debug__":Str))=false:=by decide) (he:starEach (e::es) X.env=(false,eval e X.env)::starEach es X.env:=by rfl) (hpl:(backTo pos (starEach es X.env)).any (·.1)=false:=by rfl) :
  PE X (.Call (.Name x p) (e::es) [] pos) (zLM C t):=by
 intro pins s σ H Q I h;refine qIo (zGV I hg hm ?_ hdb);refine qDu (h₀:=X.base) I.ok.mod.kin hk (thn (ha pos pins s σ H _ I h) fun us s1 ⟨vs,H1,I1,r,z,q⟩=>⟨I1.kIn,?_⟩) he hpl;exact zOO hc hi I1 r z q
theorem Inv.xn{e:Addr}{d:Option Addr}{Cv:Value}(I:Inv X pins σ H s)(h:H e=some (xn e Cv d)):XN e Cv d s.heap:=(I.hok e _ h).1
theorem XN.xo{h:Heap}{e:Addr}{d:Option Addr}{Cv:Value}(x:XN e Cv d h):XO e Cv d h:=let⟨t1,a⟩:=x;⟨_,_,a,rfl,rfl,rfl,by simp⟩
theorem Inv.raised{e:Addr}{d:Option Addr}(I:Inv X pins σ H s)(h:H e=some (L2.xn e (.ref C) d))(E:XK)(q:E (.ref e) d (upd H e (xo e (.ref C) d))):XP X pins σ E (.ref e) s:=by
 have x:=I.xn h;obtain⟨t1,a⟩:=id x;have I':Inv X pins σ (upd H e (xo e (.ref C) d)) s:=I.write (t':=s.toks) (h':=s.heap) (e:=e) (by rw[h];trivial) (.inl rfl) (fun _ _ _ q=>q) ⟨_,a⟩ (zcI x.xo);exact⟨s.heap.objs.size,e,.ref C,d,_,rfl,I',⟨zAC,.inl ⟨_,_,a,rfl,rfl,rfl,rfl⟩⟩,I.sz,qA7 _,I.pinlt,q⟩
def Flies(X:Cx)(E:XK):Prop:=∀(pins:List (Addr×Obj))(σ:St)(x:Value)(s':qHx),XP X pins σ E x s'->X.xe x s'
theorem Flies.passes{E:XK}(h:Flies X E):zOG (CXe X.prog X.w) X E:=fun pins σ H s x s' I q=>h pins σ x s' (I.flown q)
def zUW(K:qA1)(E:XK)(te:TE):TS:=fun _ σ H=>te σ H fun v H1=>∃e C d,v=.ref e/\H1 e=some (L2.xn e (.ref C) d)/\PySem.W.xcIn K C=true/\E (.ref e) d (upd H1 e (xo e (.ref C) d))
theorem zNF{E:XK}(he:PE X e te)(hf:Flies X E)(hc:X.calm=true):PS X (.Raise (some e) none pos) (zUW X.K E te):=by
 intro pins s σ H D I h;refine Xc.RaiseX (I.ok.hd hc) (thn (he pins s σ H _ I h) fun v s1 z0=>?_);obtain⟨y,H1,I1,ry,a,C,d,ey,ha,hx,q⟩:=z0;subst ey;cases ry;obtain⟨t1,hg⟩:=I1.xn ha;obtain⟨nm,qn,N,bs,bm,hdct,sn,sub,ab,col,dd,k0,k1,k2,k3,k5,hC,ht⟩:=PySem.W.xc_cls I1.kIn hx;exact⟨a,t1,d,nm,qn,C,N,bs,bm,hdct,sn,sub,ab,col,dd,k0,k1,k2,k3,k5,_,rfl,hC,PySem.W.exc_con ht (by decide),hg,hf pins σ _ _ (I1.raised ha E q)⟩
structure XSet(K:qA1)(C:Addr)(f:Str):Prop where
 st:qAv K (.ref C) "__setattr__" = some (some (.builtin "object.__setattr__"))
 ov:PySem.W.excOver K C=true
 tk:PySem.W.takerIn K C f=some none
 hd:(qBt K C).any (·.hasDict)=true
end
end L2
namespace PySem.Xc
open PySem PySem.W
section
variable{prog:qI0}{w:World}{A:qI4}{E:Value->qHx->Prop}{K:Frag}{x C:Addr}{ox:Obj}{od:Option Obj}{name:Str}{expr fill:Bool}{h:Heap}{g:Array qJ8}{d:Drawn}{t:Nat}{os:OsState}
theorem zPB{Q:Option Value->qHx->Prop}(X:K.In h)(I:InstAt h x ox C od)(hc:xcIn K C=true)(hga:qLy K (.ref C) "__getattribute__" = some (some (.builtin "BaseException.__getattribute__")))(hgg:qLy K (.ref C) "__getattr__" = some none)
  (hf:findObj K C od "__class__" = some (.bind (.builtin "getset_descriptor.__get__") (.builtin "object.__class__"))) (hm:mroIn K C (.type "object")=some true) (hq:Q (some (.ref C)) ⟨h,g,d,t+1,os⟩):wpAny (model prog w) A (getAttr? (.ref x) "__class__") Q E ⟨h,g,d,t,os⟩:=by
 have f3:=qKn.ga.bind (.ref x);have hx2:(qIi "BaseException.__getattribute__" == qIi "object.__getattribute__")=false:=by decide +kernel
 have hx1:(onTheHeap (qI5 C)&&qIi "BaseException.__getattribute__" == qIi "object.__getattribute__")=false:=by rw[hx2];rfl
 have L0:=I.type (M:=model prog w);have L1:=looks_findIn (M:=model prog w) X hga;have L2:=looks_findIn (M:=model prog w) X hgg;have hx:=I.at_;have hcl:=I.cls;unfold getAttr?
 repeat (any_goals (first|assumption|(with_reducible refine qI9 hx ?_;rw[hcl])|with_reducible refine L1.at ?_|with_reducible refine L2.at ?_|wp_step))
 refine codeAny_call_builtin qKn.ga.plain F.entry_bexc_ga (zS8 (h:=h) X hc I ?_);have L3:=looks_find (M:=model prog w) X I hf;unfold qLb.«object.__getattribute__»;refine wpAny_bind (wpAny_pure (wpAny_bind (wpAny_pure (wpAny_bind (L0.at (wpAny_bind (L3.at ?_)))))));show wpAny _ _ (qJv (.builtin "getset_descriptor.__get__") (.builtin "object.__class__") (.ref x) (.ref C)) _ _ _;unfold qJv;refine wpAny_bind (wpAny_holding (wpAny_call (class_get (s:=⟨h,g,d,t+1,os⟩) (ox:=ox) (od:=od) X I hm ?_)));exact wpAny_pure (handed_on rfl (wpAny_pure hq))
theorem zJA{a g:Value}(hc:(clsIn K C).isSome=true)(ha:qLy K (.ref C) name=some (some a))(hg:specialIn K a "__get__" = some (some g))(ht:takesIn K a=some true):findObj K C od name=some (.bind g a):=by
 obtain⟨cd,hc⟩:=qCs.mp hc;unfold findObj;rw[hc,qEo,ha,qEo];simp only[hg,qEo,ht]
end
structure XIs(K:Frag)(C:Addr):Prop where
 xc:xcIn K C=true
 ga:qLy K (.ref C) "__getattribute__" = some (some (.builtin "BaseException.__getattribute__"))
 gg:qLy K (.ref C) "__getattr__" = some none
 hd:hasDictIn K C=true
 ca:qLy K (.ref C) "__class__" = some (some (.builtin "object.__class__"))
 cg:specialIn K (.builtin "object.__class__") "__get__" = some (some (.builtin "getset_descriptor.__get__"))
 ct:takesIn K (.builtin "object.__class__")=some true
 mo:mroIn K C (.type "object")=some true
theorem kitx_exc{K:Frag}{x C:Addr}(c:XIs K C):KitX K (.ref x) (.ref C) (fun h=>∃ox od,InstAt h x ox C od) where
 ty:=fun _ _ _ ⟨_,_,I⟩=>I.type
 it:=fun _ _ X _=>by
  obtain⟨cdD,hcD,_⟩:=any_some c.hd;unfold clsIn at hcD
  split at hcD
  ·rename_i c' d' cd' sl' ho
   intro A' Q' E' s' k q;unfold isType loadHead;exact wpAny_bind (wpAny_loadPart (k _ _ (X _ _ ho)) (wpAny_pure q))
  ·cases hcD
 ne:=fun h tp dd its n sl X htp=>by
  obtain⟨cdD,hcD,_⟩:=any_some c.hd;refine Bool.eq_false_iff.mpr fun q=>?_
  have e:C=tp:=qLw (beq_iff_eq.mp q);subst e;unfold clsIn at hcD
  split at hcD
  ·rename_i c' d' cd' sl' ho
   have z:=(X _ _ ho).symm.trans htp;cases z
  ·cases hcD
 ca:=fun{_ _ _ _ _ s} X ⟨_,_,I⟩ k=>by
  obtain⟨cd,hc,_⟩:=any_some c.hd;obtain⟨h,g,d,t,os⟩:=s;exact zPB X I c.xc c.ga c.gg (zJA (by rw[hc];rfl) c.ca c.cg c.ct) c.mo k
end PySem.Xc
namespace L2
open PySem PySem.Spec PyProof.Rows
section
variable{X:Cx}{pins:List (Addr×Obj)}{σ:St}{H:Hp}{s:qHx}{C e d:Addr}{f:Str}{pos:Pos}{ta:TE}
def isX(H:Hp)(e C:Addr)(d:Option Addr):Prop:=H e=some (xn e (.ref C) d)\/H e=some (xo e (.ref C) d)
theorem Inv.isX{d:Option Addr}(I:Inv X pins σ H s)(h:L2.isX H e C d):XO e (.ref C) d s.heap:=by
 rcases h with h|h
 ·exact(I.xn h).xo
 ·exact(I.hok e _ h).1
theorem Inv.instX0{d:Option Addr}(I:Inv X pins σ H s)(h:L2.isX H e C d)(hd:∀a,d=some a->∃fs,H a=some (.xd fs)):∃ox od,PySem.W.InstAt s.heap e ox C od:=by
 obtain⟨oe,vs,h1,h2,h3,h4,_⟩:=I.isX h;have nc:qGu oe=true:=by unfold qGu;rw[h4]
 cases d with
 |none=>exact⟨oe,none,h1,h2,nc,by rw[h3];trivial⟩
 |some a=>
  obtain⟨fs,ha⟩:=hd a rfl;obtain⟨mA,hn,_⟩:=I.hok a _ ha;obtain⟨od,ho,_⟩:=zQY hn;exact⟨oe,some od,h1,h2,nc,by rw[h3];exact ho⟩
noncomputable def clsV:List V->Option (List Value)
 |[]=>some []
 |.ref a::r=>(clsV r).map (qI5 a::·)
 |.ty n::r=>(clsV r).map (qJ5 n::·)
 |_::_=>none
theorem zMF:∀{xs:List V}{its us:List Value},clsV xs=some its->Vals xs us->us=its
 |[],_,_,h,.nil=>by cases h;rfl
 |.ref a::r,its,_,h,.cons q t=>by
  obtain⟨l,hl,rfl⟩:=qD2.mp (show(clsV r).map (qI5 a::·)=some its from h);rw[zMF hl t];cases q;rfl
 |.ty n::r,its,_,h,.cons q t=>by
  obtain⟨l,hl,rfl⟩:=qD2.mp (show(clsV r).map (qJ5 n::·)=some its from h);rw[zMF hl t];cases q;rfl
def zX6(K:qA1):List V->Hp->VK->Prop:=fun vs H Q=>∃e C d y b,vs=[.ref e,y]/\L2.isX H e C d/\(∀a,d=some a->∃fs,H a=some (.xd fs))/\Xc.XIs K C/\Q (.bl b) H /\
 ((∃c,y=.ref c/\qBr K (.ref C) (.ref c)=some b)\/(∃n,y=.ty n/\qBr K (.ref C) (.type n)=some b)\/∃p xs its,y=.ref p/\H p=some (.tup xs)/\clsV xs=some its/\PySem.W.kitAny K (.ref C) its=some b)
theorem zF4:zCE X (.builtin "isinstance") (zX6 X.K):=by
 intro pins s σ H vs us Q I r h;obtain⟨e,C,d,y,b,rfl,hx,hd,c,q,hy⟩:=h;cases r with
 |cons r1 r2=>
  cases r2 with
  |cons ry r3=>
   cases r3;cases r1;have P:=I.instX0 hx hd
   rcases hy with⟨c',rfl,hk⟩|⟨n,rfl,hk⟩|⟨p,xs,its,rfl,hp,rv,hk⟩
   ·cases ry;exact qG9 (Xc.kitx_exc c) I.kIn P hk (fun z=>nomatch z) fun tk=>⟨.bl b,H,I.tok tk,rfl,q⟩
   ·cases ry;exact qG9 (Xc.kitx_exc c) I.kIn P hk (fun z=>nomatch z) fun tk=>⟨.bl b,H,I.tok tk,rfl,q⟩
   ·cases ry;obtain⟨_,us',r',ob,h1,h2,n,h3⟩:=I.hok p _ hp;obtain⟨oc,od,odt,osl⟩:=ob;dsimp only at h2 h3;subst h2 h3;rw[zMF rv r']at h1;exact PySem.W.kia_tup (Xc.kitx_exc c) I.kIn P h1 hk (fun z=>nomatch z) fun tk=>⟨.bl b,H,I.tok tk,rfl,q⟩
end
def HasX(P:qI0)(w:World)(K:qA1)(mg:Str->Option Value)(base:Heap)(x:Str)(k:Nat)(ps:List Str)(sp:Sp):Prop:=
 ∃f fd,FnOk P w K mg base (CXe P w) k f fd ps sp/\mg x=some (.ref f)/\qB9 K (.ref f)=true/\Binds K fd ps []
section
variable{P:qI0}{w:World}{K:qA1}{mg:Str->Option Value}{base:Heap}{x:Str}{k:Nat}{ps N:List Str}{sp sp':Sp}{st:Stmt}
theorem Fun.okX{y qual:Str}{f:Addr}{fd:qIe}(F:Fun K y qual st f fd)(S:FnScope N ps (zA3 st))(len:∀vs H Q E,sp vs H Q E->vs.length=ps.length)
  (hbody:∀(cdv:Value)(A:qI4)(outer:List Env)(s:qHx)(H:Hp)(vs:List V)(Q:VK)(E:XK),Room k (A.deeper (envOfC qual (zA3 st) s.heap.objs.size f cdv))->sp vs H Q E ->
   ∃t,PSs (cxOf (CXe P w) P w K mg base N qual (zA3 st) f cdv A outer s H E) (zAX st) t/\t { nx:=fun _ H'=>Q .non H',rt:=Q } (start N vs) H):FnOk P w K mg base (CXe P w) (k+1) f fd ps sp:=by
 obtain⟨oc,od,kV,doc,pm,an,cdv,ct,osl,rfl,lk,hcd⟩:=F.ex;exact zYD lk hcd S len fun A outer s H vs Q E hr hsp=>hbody cdv A outer s H vs Q E hr hsp
theorem Def.okX(D:Def K mg x st)(S:FnScope N ps (zA3 st))
  (hb:∀(kV doc pm:Value)(an:Option Addr)(cdv ct:Value)(us:List Value),us.length=ps.length->qJs (qBb x x (zAW st) (zAX st) (zA3 st) .none kV doc pm an cdv ct) ⟨us,[]⟩=pure (ps.zip us))
  (len:∀vs H Q E,sp vs H Q E->vs.length=ps.length)
  (hbody:∀(f:Addr)(cdv:Value)(A:qI4)(outer:List Env)(s:qHx)(H:Hp)(vs:List V)(Q:VK)(E:XK),Room k (A.deeper (envOfC x (zA3 st) s.heap.objs.size f cdv))->sp vs H Q E ->
   ∃t,PSs (cxOf (CXe P w) P w K mg base N x (zA3 st) f cdv A outer s H E) (zAX st) t/\t { nx:=fun _ H'=>Q .non H',rt:=Q } (start N vs) H):HasX P w K mg base x (k+1) ps sp:=by
 obtain⟨f,fd,F,m⟩:=D;exact⟨f,fd,F.okX S len (fun cdv A outer s H vs Q E hr h=>hbody f cdv A outer s H vs Q E hr h),m,F.kp,F.binds hb⟩
theorem zDM{qual:Str}{scope:Scope}{f:Addr}{cd:Value}{A:qI4}{outer:List Env}{s:qHx}{H:Hp}{E:XK}:Flies (cxOf (CXe P w) P w K mg base N qual scope f cd A outer s H E) E:=fun _ _ _ _ h=>zYT (fun _ _ _ z=>z) h
end
section
variable{X:Cx}{x:Str}{j k:Nat}{ps:List Str}{sp:Sp}{e:Expr}{es:List Expr}{t:TA}{p pos:Pos}{E:XK}
theorem zRO:Flies X E0:=fun _ _ _ _ z0=>by
 obtain⟨_,_,_,_,_,_,_,_,_,_,_,h⟩:=z0;exact h.elim
theorem zKD(h:HasX X.prog X.w X.K X.mg X.base x j ps sp)(hjk:j<=k)(hr:Room k X.A)(hf:Flies X E)(hg:Gl X x)(ha:PA X (e::es) t)(hdb:(x==("__debug__":Str))=false:=by decide)
  (he:starEach (e::es) X.env=(false,eval e X.env)::starEach es X.env:=by rfl) (hpl:(backTo pos (starEach es X.env)).any (·.1)=false:=by rfl):PE X (.Call (.Name x p) (e::es) [] pos) (zED sp [] E t):=by
 obtain⟨f,fd,G,m,kp,b⟩:=h;exact zLS G (hr.mono hjk) hg m kp b .nil hf.passes ha hdb he hpl
theorem zGM{C:Addr}(hg:Gl X x)(hm:X.mg x=some (.ref C))(hdb:(x==("__debug__":Str))=false:=by decide):PE X (.Name x pos) (tC (.ref C)):=fun pins s σ H Q I h=>zGV I hg hm ⟨.ref C,H,I,rfl,h⟩ hdb
end
end L2
namespace Att
open PySem PySem.W PySem.Calls PyProof.Rows
theorem zWK{ns:List Int}(h:qLo (ns.map qLn)<=2 ^ 20):∀i∈ns,i.natAbs.log2<2 ^ 20:=by
 induction ns with
 |nil=>intro i hi;cases hi
 |cons n r ih=>
  rw[qAg,qLo]at h;intro i hi
  rcases qA6.mp hi with rfl|hi
  ·rw[qLz]at h
   split at h
   ·rename_i z
    have:i=0:=beq_iff_eq.mp z
    subst this
    decide
   ·lia
  ·exact ih (by lia) i hi
theorem attach_callW{l:OpenLaw}{n:Nat}{q:qI0}{loose:List Str}{XP:(Str->Option Value)->Heap->Prop}{YP:World->Heap->Prop}{d:DefRec}
  (hn:l.most=some n) (hdf:d.params.defaults=[])
  (call:∀(w:World)(s₀ s₁:qHx)(mg mb:Str->Option Value)(fa:Addr)(o:Obj)(pm cd doc:Value)(a:Addr)(vs:List Value)(ns:List Int),
   Ground q loose [] XP w s₀ mg mb s₁.heap->YP w s₁.heap ->
   s₁.heap.get? fa=some o->o.data=.func (docDef d.name d.params d.body d.scope pm cd doc)->s₁.heap.CodeRec cd d.name->mg d.name=some (.ref fa) ->
   s₁.heap.get? a=some { cls:=.type "list",data:=.seq vs.toArray }->qKw vs ns->ns.length<=n->(∀i∈ns,i.natAbs.log2<2 ^ 20)->s₁.gens=#[] ->
   qJd (model l.prog w) qKy (.call (.ref fa) ⟨[.ref a],[]⟩) (fun r s'=>r=.ok (.ret (.bool true))/\OldK s₁.heap s'.heap/\s'.os=s₁.os/\qK0 s'.gens) s₁) :
  WalkO q loose XP YP l.row.toRowW d [] (fun f vs=>qFt f vs):=by
 intro w s₀ s₁ mg mb G Y fa o pm cd doc dV kV ho hd hcd hD hmg hg args vals as hpre hlay hrd hwl hlo;obtain rfl:dV=.none:=Dflts.none hD hdf;obtain rfl:kV=.none:=Dflts.noKw hD;obtain⟨a,vs,ns,rfl,rfl,hobj,hints,hlen⟩:=zPY hn hpre hwl;have hw:∀i∈ns,i.natAbs.log2<2 ^ 20:=by
  have hl:qLh [WData.list (ns.map qLn)]=true:=hlay;simp only[qLh,qCx,List.all_nil,qEd,WData.layable,qBf,decide_eq_true_eq]at hl;exact zWK (by have:=hl.2;rw[qLz]at this;exact this)
 refine enter_call (codeAny_mono (call w s₀ s₁ mg mb fa o pm cd doc a vs ns G Y ho (fd_plain hd) hcd hmg hobj hints hlen hw hg) fun r s' hq=>?_);obtain⟨rfl,h2,h3,h4⟩:=hq;exact⟨.inl ⟨.bool true,.bool true,[],rfl,fun _=>rfl,.bool true,zQ9 l _,fun _=>⟨qCl,fun _ hm=>(nomatch hm)⟩⟩,h2,h3,h4⟩
end Att
namespace L2
open PySem PySem.Spec PyProof.Rows
def MulOk(i j:Int):Prop:=((-(2 ^ 64)<i/\i<2 ^ 64)\/(-(2 ^ 64)<j/\j<2 ^ 64))\/i.natAbs.log2+j.natAbs.log2<=67108864
theorem zSE(i:Int):qIy i<=i.natAbs.log2+1:=by
 unfold qIy
 split<;>lia
theorem MulOk.ok{i j:Int}(h:MulOk i j):IntMulOk i j:=by
 rcases h with h|h
 ·exact CMul.ok h
 ·unfold IntMulOk;have h1:=zSE i;have h2:=zSE j;have h3:qKf ((qIy i:Int)+(qIy j:Int))=false:=by
   unfold qKf
   have:(bitsLine:Int)=134217728:=by decide
   rw[this];simp only[gt_iff_lt,decide_eq_false_iff_not,Int.not_lt]
   lia
  rw[h3,qCn];exact qAa
section
variable{X:Cx}
noncomputable def zZR:R2:=fun x y H Q=>match x,y with
 |.int i,.int j=>MulOk i j/\Q (.int (i*j)) H
 |_,_=>False
theorem zXI:OpR X (binaryOp .Mult) (rI MulOk fun i j=>.int (i*j)):=opI fun _ _ _ _ _ _ _ hc q=>mul_int q hc.ok
theorem zCF:OpR X (binaryOp .Mult) zZR:=by
 intro pins s σ H x y v u Q I rx ry h;cases x<;>cases y<;>first
  |exact zXI pins s σ H _ _ v u Q I rx ry ⟨_,_,rfl,rfl,h.1,h.2⟩
  |exact qA8 h
noncomputable def zZU:R2:=fun x y H Q=>match x,y with
 |.int i,.int j=>(0<j/\j<1000000000000000000000000)/\Q (.int (i/j)) H
 |_,_=>False
theorem log2_lt{n:Nat}(h:n<1000000000000000000000000):n.log2<9000:=by
 by_cases z:n=0
 ·subst z;decide
 ·have h2:n<2 ^ 80:=by lia
  have:=(Nat.log2_lt z).mpr h2
  lia
theorem zXJ:OpR X (binaryOp .FloorDiv) (rI (fun _ j=>0<j/\j<1000000000000000000000000) fun i j=>.int (i/j)):=opI fun i j _ _ _ _ _ hc q=>by
 have h1:(0:Int)<j:=hc.1;have h2:j<1000000000000000000000000:=hc.2;exact floordiv_int (by lia) (by rw[Int.fdiv_eq_ediv_of_nonneg i (by lia)];exact q) (.inl (PyProof.noPylong_of_log2 (log2_lt (by lia))))
theorem zJW:OpR X (binaryOp .FloorDiv) zZU:=by
 intro pins s σ H x y v u Q I rx ry h;cases x<;>cases y<;>first
  |exact zXJ pins s σ H _ _ v u Q I rx ry ⟨_,_,rfl,rfl,h.1,h.2⟩
  |exact qA8 h
end
noncomputable def del(H:Hp)(a:Addr):Hp:=fun b=>if b=a then none else H b
theorem zW6{H:Hp}{a b:Addr}(h:b≠a):del H a b=H b:=by unfold del;rw[if_neg h]
abbrev cel(co:Obj):HO:=.frz co (.ext fun _=>True)
section
variable{P:qI0}{w:World}{H H':Hp}{h h':Heap}{a:Addr}{co:Obj}{fs:List Addr}
end
abbrev lamO(q:Str)(params:Arguments)(body:Expr)(scope:Scope)(clos:List (Str×Addr))(pm cdv ctv:Value):Obj:=
 { cls:=.type "function",data:=.func (PySem.W.kla_fn "<lambda>" q params body scope clos pm cdv ctv) }
section
variable{X:Cx}
end
section
variable{X:Cx}{k:Nat}{f cl:Addr}{fd:qIe}{ps:List Str}{sp:Sp}{x nm:Str}{p pos:Pos}{e:Expr}{es:List Expr}{t:TA}{i:Nat}
end
def cxLam(X:Cx)(N:List Str)(q:Str)(scope:Scope)(f:Addr)(cd:Value)(clos:List (Str×Addr))(s:qHx)(H:Hp):Cx where
 prog:=X.prog
 w:=X.w
 K:=X.K
 mg:=X.mg
 base:=X.base
 A:=X.A.deeper (qFz q scope s.heap.objs.size f cd clos)
 N:=N
 s₀:=s
 H₀:=H
 env:=qFz q scope s.heap.objs.size f cd clos
 outer:=X.stack
 stack:=qFz q scope s.heap.objs.size f cd clos::X.stack
 ex:=[]
 fn:=fun _=>false
 calm:=true
 pn:=[]
 xe:=fun _ _=>False
section
variable{X:Cx}{pins:List (Addr×Obj)}{σ:St}{H:Hp}{s:qHx}{Q:VK}{us:List Value}{vs:List V}{f cl:Addr}{q nm:Str}{params:Arguments}{body:Expr}{scope:Scope}{pm cdv ctv:Value}{co:Obj}{val:Value}{v:V}{ps:List Str}
end
section
variable{X:Cx}{i:Nat}{x:Str}{p pos:Pos}{e:Expr}{es:List Expr}{t:TA}{r:Addr->List V->Hp->VK->Prop}
end
end L2
namespace L3
open PySem PySem.Spec
open L2 hiding Rep RepL
open Mi (Dt Xn R okR zA2 optR bindR_ok zA4 zAA zA8 zA9 Rh Sl Ro EM TM AM FM IM SM Tg Out zAM zAK zAQ full frz frz1 frzAt)
section
class Kc where
 K:qA1
variable[Kc]
noncomputable def clK(K:qA1)(c:Str):Option Addr:=match qB0 K qI3 c with
 |some (some (.ref C))=>some C
 |_=>none
def KTP(K:qA1)(a:Addr)(xs:List V):Prop:=xs≠[]/\∃(o:Obj)(its:Array Value)(n:Nat),K.lookup a=some o/\o.cls=.type "tuple"/\o.data=.seq its n/\its.size<=sizeLine/\Vals xs its.toList
theorem KTP.t{K:qA1}{H:Hp}{a:Addr}{xs:List V}(h:KTP K a xs):SqT K H a xs:=.inr h.2
def SqR(K:qA1)(H:Hp)(a:Addr)(xs:List V):Prop:=SqL K H a xs\/KTP K a xs
theorem SqR.old{K:qA1}{H:Hp}{a:Addr}{xs:List V}(h:SqR K H a xs):SqL K H a xs\/SqT K H a xs:=h.imp_right fun z=>z.t
theorem zK2{K:qA1}{H H':Hp}{a:Addr}{xs:List V}(e:Same H H')(h:SqT K H a xs):SqT K H' a xs:=by
 rcases h with(h|⟨o,h⟩)|h
 ·exact .inl (.inl (e _ _ h))
 ·exact .inl (.inr ⟨o,e _ _ h⟩)
 ·exact .inr h
theorem zEO{K:qA1}{H H':Hp}{a:Addr}{xs:List V}(e:Same H H')(h:SqR K H a xs):SqR K H' a xs:=h.imp_left fun z=>e.seq z
noncomputable def svV:Mi.Sv->V
 |.i n=>.int n
 |.s x=>.str x
noncomputable def swV:Mi.Sw->V
 |.non=>.non
 |.bl b=>.bl b
 |.int i=>.int i
 |.str x=>.str x
def kNw:Mi.Sw->KeyN
 |.non=>none
 |.bl b=>some (.inl (zL8 b))
 |.int i=>some (.inl i)
 |.str x=>some (.inr x)
noncomputable def noBw:Mi.Sw->Bool
 |.bl _=>false
 |_=>true
def noBk(ks:List (List Mi.Sw)):Bool:=ks.all fun k=>k.all noBw
noncomputable def isBl:V->Bool
 |.bl _=>true
 |_=>false
def KeyT(H:Hp)(T:Addr->Prop)(ks:List (List Mi.Sw)):Prop:=(ks.map fun k=>k.map kNw).Nodup/\∀c,T c->∃ys,H c=some (.tup ys)/\(noBk ks=true->∀y∈ys,isBl y=false)
theorem KeyT.mono{H H':Hp}{T:Addr->Prop}{ks:List (List Mi.Sw)}(s:Same H H')(h:KeyT H T ks):KeyT H' T ks:=⟨h.1,fun c t=>let⟨ys,e,n⟩:=h.2 c t;⟨ys,s _ _ e,n⟩⟩
abbrev kzip(ks:List (List Mi.Sw))(xs:List V):List (List KeyN×V):=(ks.map fun k=>k.map kNw).zip xs
noncomputable def zYE:Expr->Option (Arguments×Expr×Scope×Str)
 |.Call _ [_,.Lambda ps b sc _] _ _=>match sc.names.find? fun p=>p.2==.free with
  |some (x,_)=>some (ps,b,sc,x)
  |none=>none
 |_=>none
def zc2:Stmt->Option (Arguments×Expr×Scope×Str)
 |.Return (some e) _=>zYE e
 |.Assign _ e _=>zYE e
 |.If _ (_::.Return (some e) _::_) _ _=>zYE e
 |_=>none
def zcM(l:List Stmt):Option (Arguments×Expr×Scope×Str):=l.findSome? zc2
def lamK(K:qA1)(x:Str):Option (Arguments×Expr×Scope×Str):=match qB0 K qI3 x with
 |some (some (.ref f))=>match K.lookup f with
  |some o=>match o.data with
   |.func fd=>match fd.body with
    |.stmts b=>zcM b
    |_=>none
   |_=>none
  |none=>none
 |_=>none
noncomputable def lamQ(x:Str):Str:=x ++ ".<locals>." ++ "<lambda>"
noncomputable def codP(K:qA1)(x:Str):Option Addr:=match qB0 K qI3 x with
 |some (some (.ref f))=>match K.lookup f with
  |some o=>match o.data with
   |.func fd=>match fd.code with
    |.ref c=>match K.lookup c with
     |some o=>match o.data with
      |.fields vs=>match(vs[11]?:Option Value)with
       |some (.ref P)=>some P
       |_=>none
      |_=>none
     |none=>none
    |_=>none
   |_=>none
  |none=>none
 |_=>none
noncomputable def makers:List Str:=["turned_at","exchanged_at","pivoted"]
def tabK(K:qA1):Hp:=fun P=>(makers.find? fun x=>codP K x==some P&&(lamK K x).isSome).map fun x=>.lam (lamQ x)
def dskO(H:Hp)(w:Str)(ws:List Str)(a b C dx:Addr):Prop:=H a=some (.ins C dx [("word",.str w),("ahead",.ref b)])/\H b=some (.lst (ws.map V.str))
mutual
def Rep(H:Hp):Dt->V->Prop
 |.non,v=>v=.non
 |.bl b,v=>v=.bl b
 |.int i,v=>v=.int i
 |.str x,v=>v=.str x
 |.lst ds,v=>∃a xs,v=.ref a/\H a=some (.lst xs)/\RepL H ds xs
 |.tup ds,v=>∃a xs,v=.ref a/\H a=some (.tup xs)/\RepL H ds xs
 |.scr ns,v=>∃a,v=.ref a/\SqR Kc.K H a (ns.map V.int)
 |.exc c f d,v=>∃e C da,v=.ref e/\isX H e C da/\clK Kc.K c=some C/\((da=none/\f = "")\/∃a gs w,da=some a/\H a=some (.xd gs)/\gs.lookup f=some w/\Rep H d w)
 |.ins c fs,v=>∃a C dx,v=.ref a/\clK Kc.K c=some C/\H a=some (.ins C dx (fs.map fun p=>(p.1,svV p.2)))
 |.dct kvs,v=>∃a,v=.ref a/\H a=some (.dK (kvs.map fun p=>(p.1,swV p.2)))
 |.fn x d,v=>∃f,v=.ref f/\∃L cl pm cdv ctv co val w,lamK Kc.K x=some L/\H f=some (.fn (lamO (lamQ x) L.1 L.2.1 L.2.2.1 [(L.2.2.2,cl)] pm cdv ctv) (lamQ x))/\H cl=some (cel co)/\co.data=.cell (some val)/\RelV w val/\Rep H d w
 |.dtt ks ds,v=>∃a T e0 xs,v=.ref a/\H a=some (.dT T e0 (kzip ks xs))/\ks.length=ds.length/\KeyT H T ks/\RepL H ds xs
 |.loc a d,v=>v=.ref a/\Rep H d v
 |.dsk w ws,v=>∃a,v=.ref a/\∃b C dx,clK Kc.K "Desk" = some C/\dskO H w ws a b C dx
 |.fnc x,v=>∃a,v=.ref a/\clK Kc.K x=some a
def RepL(H:Hp):List Dt->List V->Prop
 |[],xs=>xs=[]
 |d::r,xs=>∃x q,xs=x::q/\Rep H d x/\RepL H r q
end
mutual
theorem Rep.mono{H H':Hp}(s:Same H H'):∀{d:Dt}{v:V},Rep H d v->Rep H' d v
 |.non,_,h=>h
 |.bl _,_,h=>h
 |.int _,_,h=>h
 |.str _,_,h=>h
 |.lst _,_,h=>by obtain⟨a,xs,e,e',r⟩:=h;exact⟨a,xs,e,s _ _ e',RepL.mono s r⟩
 |.tup _,_,h=>by obtain⟨a,xs,e,e',r⟩:=h;exact⟨a,xs,e,s _ _ e',RepL.mono s r⟩
 |.scr _,_,h=>by obtain⟨a,e,e'⟩:=h;exact⟨a,e,zEO s e'⟩
 |.exc _ _ _,_,h=>by
  obtain⟨a,C,da,e,e',hc,r⟩:=h;refine⟨a,C,da,e,e'.imp (fun z=>s _ _ z) fun z=>s _ _ z,hc,r.imp (fun z=>z) ?_⟩
  rintro⟨b,gs,w,h1,h2,h3,h4⟩
  exact⟨b,gs,w,h1,s _ _ h2,h3,Rep.mono s h4⟩
 |.ins _ _,_,h=>by obtain⟨a,C,dx,e,hc,h1⟩:=h;exact⟨a,C,dx,e,hc,s _ _ h1⟩
 |.dct _,_,h=>by obtain⟨a,e,h1⟩:=h;exact⟨a,e,s _ _ h1⟩
 |.fn _ _,_,h=>by obtain⟨f,e,L,cl,pm,cdv,ctv,co,val,w,h1,h2,h3,h4,h5,h6⟩:=h;exact⟨f,e,L,cl,pm,cdv,ctv,co,val,w,h1,s _ _ h2,s _ _ h3,h4,h5,Rep.mono s h6⟩
 |.dtt _ _,_,h=>by obtain⟨a,T,e0,xs,e,e',hl,ht,r⟩:=h;exact⟨a,T,e0,xs,e,s _ _ e',hl,ht.mono s,RepL.mono s r⟩
 |.loc _ _,_,h=>⟨h.1,Rep.mono s h.2⟩
 |.dsk _ _,_,h=>by obtain⟨a,e,b,C,dx,h1,h2,h3⟩:=h;exact⟨a,e,b,C,dx,h1,s _ _ h2,s _ _ h3⟩
 |.fnc _,_,h=>h
theorem RepL.mono{H H':Hp}(s:Same H H'):∀{ds:List Dt}{xs:List V},RepL H ds xs->RepL H' ds xs
 |[],_,h=>h
 |_::_,_,h=>by obtain⟨x,q,e,r,t⟩:=h;exact⟨x,q,e,Rep.mono s r,RepL.mono s t⟩
end
theorem RepL.length{H:Hp}:∀{ds:List Dt}{xs:List V},RepL H ds xs->xs.length=ds.length
 |[],_,h=>by cases h;rfl
 |_::_,_,h=>by obtain⟨x,q,e,r,t⟩:=h;subst e;simp[RepL.length t]
mutual
def conv:Dt->L2.Dat
 |.non=>.non
 |.bl b=>.bl b
 |.int i=>.int i
 |.str x=>.str x
 |.lst ds=>.lst (convL ds)
 |.tup ds=>.tup (convL ds)
 |.scr _=>.non
 |.exc _ _ _=>.non
 |.fn _ _=>.non
 |.dsk _ _=>.non
 |.fnc _=>.non
 |.dtt _ _=>.non
 |.loc _ _=>.non
 |.ins _ _=>.non
 |.dct _=>.non
def convL:List Dt->List L2.Dat
 |[]=>[]
 |d::r=>conv d::convL r
end
mutual
theorem zF2:∀{d:Dt},d.dep<=40->(conv d).dep<=d.dep
 |.non,_=>qA7 _
 |.bl _,_=>qA7 _
 |.int _,_=>qA7 _
 |.str _,_=>qA7 _
 |.lst ds,h=>by rw[Dt.dep]at h ⊢;rw[conv,L2.Dat.dep];have:=conv_depL (ds:=ds) (by lia);lia
 |.tup ds,h=>by rw[Dt.dep]at h ⊢;rw[conv,L2.Dat.dep];have:=conv_depL (ds:=ds) (by lia);lia
 |.scr _,h=>by rw[Dt.dep]at h;lia
 |.exc _ _ _,h=>by rw[Dt.dep]at h;lia
 |.fn _ _,h=>by rw[Dt.dep]at h;lia
 |.dsk _ _,h=>by rw[Dt.dep]at h;lia
 |.fnc _,h=>by rw[Dt.dep]at h;lia
 |.dtt _ _,h=>by rw[Dt.dep]at h;lia
 |.loc _ _,h=>by rw[Dt.dep]at h;lia
 |.ins _ _,h=>by rw[Dt.dep]at h;lia
 |.dct _,h=>by rw[Dt.dep]at h;lia
theorem conv_depL:∀{ds:List Dt},Dt.depL ds<=40->L2.Dat.depL (convL ds)<=Dt.depL ds
 |[],_=>qA7 _
 |d::r,h=>by
  rw[Dt.depL]at h ⊢;rw[convL,L2.Dat.depL];have h1:=zF2 (d:=d) (by lia);have h2:=conv_depL (ds:=r) (by lia)
  lia
end
mutual
theorem zDW{H:Hp}:∀{d:Dt}{v:V},d.dep<=40->Rep H d v->L2.Rep H (conv d) v
 |.non,_,_,h=>h
 |.bl _,_,_,h=>h
 |.int _,_,_,h=>h
 |.str _,_,_,h=>h
 |.lst ds,_,hd,h=>by obtain⟨a,xs,e,e',r⟩:=h;exact⟨a,xs,e,e',conv_repL (by rw[Dt.dep]at hd;lia) r⟩
 |.tup ds,_,hd,h=>by obtain⟨a,xs,e,e',r⟩:=h;exact⟨a,xs,e,e',conv_repL (by rw[Dt.dep]at hd;lia) r⟩
 |.scr _,_,h,_=>by rw[Dt.dep]at h;lia
 |.exc _ _ _,_,h,_=>by rw[Dt.dep]at h;lia
 |.fn _ _,_,h,_=>by rw[Dt.dep]at h;lia
 |.dsk _ _,_,h,_=>by rw[Dt.dep]at h;lia
 |.fnc _,_,h,_=>by rw[Dt.dep]at h;lia
 |.dtt _ _,_,h,_=>by rw[Dt.dep]at h;lia
 |.loc _ _,_,h,_=>by rw[Dt.dep]at h;lia
 |.ins _ _,_,h,_=>by rw[Dt.dep]at h;lia
 |.dct _,_,h,_=>by rw[Dt.dep]at h;lia
theorem conv_repL{H:Hp}:∀{ds:List Dt}{xs:List V},Dt.depL ds<=40->RepL H ds xs->L2.RepL H (convL ds) xs
 |[],_,_,h=>h
 |d::r,_,hd,h=>by
  rw[Dt.depL]at hd;obtain⟨x,q,e,a,b⟩:=h;exact⟨x,q,e,zDW (by lia) a,conv_repL (by lia) b⟩
end
mutual
theorem zMD:∀{d e:Dt},d.dep<=40->e.dep<=40->L2.Dat.eq (conv d) (conv e)=Dt.eq d e
 |.scr _,_,h,_=>by rw[Dt.dep]at h;lia
 |.exc _ _ _,_,h,_=>by rw[Dt.dep]at h;lia
 |.fn _ _,_,h,_=>by rw[Dt.dep]at h;lia
 |.dsk _ _,_,h,_=>by rw[Dt.dep]at h;lia
 |.fnc _,_,h,_=>by rw[Dt.dep]at h;lia
 |.dtt _ _,_,h,_=>by rw[Dt.dep]at h;lia
 |.loc _ _,_,h,_=>by rw[Dt.dep]at h;lia
 |.ins _ _,_,h,_=>by rw[Dt.dep]at h;lia
 |.dct _,_,h,_=>by rw[Dt.dep]at h;lia
 |.lst ds,e,h,h'=>by
  rw[Dt.dep]at h;cases e with
  |lst es=>rw[Dt.dep]at h';rw[conv,conv,L2.Dat.eq,Dt.eq];exact conv_eqL (by lia) (by lia)
  |scr _=>rw[Dt.dep]at h';lia
  |exc _ _ _=>rw[Dt.dep]at h';lia
  |fn _ _=>rw[Dt.dep]at h';lia
  |dsk _ _=>rw[Dt.dep]at h';lia
  |fnc _=>rw[Dt.dep]at h';lia
  |dtt _ _=>rw[Dt.dep]at h';lia
  |loc _ _=>rw[Dt.dep]at h';lia
  |ins _ _=>rw[Dt.dep]at h';lia
  |dct _=>rw[Dt.dep]at h';lia
  |_=>simp[conv,L2.Dat.eq,Dt.eq]
 |.tup ds,e,h,h'=>by
  rw[Dt.dep]at h;cases e with
  |tup es=>rw[Dt.dep]at h';rw[conv,conv,L2.Dat.eq,Dt.eq];exact conv_eqL (by lia) (by lia)
  |scr _=>rw[Dt.dep]at h';lia
  |exc _ _ _=>rw[Dt.dep]at h';lia
  |fn _ _=>rw[Dt.dep]at h';lia
  |dsk _ _=>rw[Dt.dep]at h';lia
  |fnc _=>rw[Dt.dep]at h';lia
  |dtt _ _=>rw[Dt.dep]at h';lia
  |loc _ _=>rw[Dt.dep]at h';lia
  |ins _ _=>rw[Dt.dep]at h';lia
  |dct _=>rw[Dt.dep]at h';lia
  |_=>simp[conv,L2.Dat.eq,Dt.eq]
 |.non,e,_,h'=>by
  cases e with
  |scr _=>rw[Dt.dep]at h';lia
  |exc _ _ _=>rw[Dt.dep]at h';lia
  |fn _ _=>rw[Dt.dep]at h';lia
  |dsk _ _=>rw[Dt.dep]at h';lia
  |fnc _=>rw[Dt.dep]at h';lia
  |dtt _ _=>rw[Dt.dep]at h';lia
  |loc _ _=>rw[Dt.dep]at h';lia
  |ins _ _=>rw[Dt.dep]at h';lia
  |dct _=>rw[Dt.dep]at h';lia
  |_=>simp[conv,L2.Dat.eq,Dt.eq]
 |.bl _,e,_,h'=>by
  cases e with
  |scr _=>rw[Dt.dep]at h';lia
  |exc _ _ _=>rw[Dt.dep]at h';lia
  |fn _ _=>rw[Dt.dep]at h';lia
  |dsk _ _=>rw[Dt.dep]at h';lia
  |fnc _=>rw[Dt.dep]at h';lia
  |dtt _ _=>rw[Dt.dep]at h';lia
  |loc _ _=>rw[Dt.dep]at h';lia
  |ins _ _=>rw[Dt.dep]at h';lia
  |dct _=>rw[Dt.dep]at h';lia
  |_=>simp[conv,L2.Dat.eq,Dt.eq]
 |.int _,e,_,h'=>by
  cases e with
  |scr _=>rw[Dt.dep]at h';lia
  |exc _ _ _=>rw[Dt.dep]at h';lia
  |fn _ _=>rw[Dt.dep]at h';lia
  |dsk _ _=>rw[Dt.dep]at h';lia
  |fnc _=>rw[Dt.dep]at h';lia
  |dtt _ _=>rw[Dt.dep]at h';lia
  |loc _ _=>rw[Dt.dep]at h';lia
  |ins _ _=>rw[Dt.dep]at h';lia
  |dct _=>rw[Dt.dep]at h';lia
  |_=>simp[conv,L2.Dat.eq,Dt.eq]
 |.str _,e,_,h'=>by
  cases e with
  |scr _=>rw[Dt.dep]at h';lia
  |exc _ _ _=>rw[Dt.dep]at h';lia
  |fn _ _=>rw[Dt.dep]at h';lia
  |dsk _ _=>rw[Dt.dep]at h';lia
  |fnc _=>rw[Dt.dep]at h';lia
  |dtt _ _=>rw[Dt.dep]at h';lia
  |loc _ _=>rw[Dt.dep]at h';lia
  |ins _ _=>rw[Dt.dep]at h';lia
  |dct _=>rw[Dt.dep]at h';lia
  |_=>simp[conv,L2.Dat.eq,Dt.eq]
theorem conv_eqL:∀{ds es:List Dt},Dt.depL ds<=40->Dt.depL es<=40->L2.Dat.eqL (convL ds) (convL es)=Dt.eqL ds es
 |[],[],_,_=>by simp[convL,L2.Dat.eqL,Dt.eqL]
 |[],_::_,_,_=>by simp[convL,L2.Dat.eqL,Dt.eqL]
 |_::_,[],_,_=>by simp[convL,L2.Dat.eqL,Dt.eqL]
 |d::r,e::t,h,h'=>by
  rw[Dt.depL]at h h';rw[convL,convL,L2.Dat.eqL,Dt.eqL,zMD (by lia) (by lia),conv_eqL (by lia) (by lia)]
end
theorem zT6{G:Hp}{ds:List Dt}{xs:List V}(h:RepL G ds xs):xs.length=ds.length:=RepL.length h
theorem zBJ{G:Hp}:∀{ds:List Dt}{xs:List V}{q:Nat}{d:Dt}{x:V},RepL G ds xs->ds[q]?=some d->xs[q]?=some x->Rep G d x
 |[],_,_,_,_,_,h,_=>by simp at h
 |d::r,xs,0,e,y,h,h1,h2=>by
  obtain⟨x,t,rfl,a,b⟩:=h;simp at h1 h2;subst h1;subst h2;exact a
 |d::r,xs,q+1,e,y,h,h1,h2=>by
  obtain⟨x,t,rfl,a,b⟩:=h;exact zBJ b (by simpa using h1) (by simpa using h2)
theorem zCY{G:Hp}:∀{ds:List Dt}{xs:List V},xs.length=ds.length->(∀(q:Nat)(d:Dt)(x:V),ds[q]?=some d->xs[q]?=some x->Rep G d x)->RepL G ds xs
 |[],[],_,_=>rfl
 |[],_::_,h,_=>by simp at h
 |_::_,[],h,_=>by simp at h
 |d::r,x::t,h,k=>⟨x,t,rfl,k 0 d x rfl rfl,zCY (by simpa using h) fun q e y h1 h2=>k (q+1) e y (by simpa using h1) (by simpa using h2)⟩
theorem zEI{n:Nat}:∀{ds:List Dt},Dt.depL ds<=n->∀{q:Nat}{d:Dt},ds[q]?=some d->d.dep<=n
 |[],_,_,_,h=>by simp at h
 |e::r,h,0,d,h1=>by simp at h1;subst h1;rw[Dt.depL]at h;lia
 |e::r,h,q+1,d,h1=>by rw[Dt.depL]at h;exact zEI (ds:=r) (by lia) (q:=q) (by simpa using h1)
theorem Rep.scalar{G G2:Hp}{d:Dt}{v:V}(h:Rep G d v)(hd:d.dep=0):Rep G2 d v:=by
 cases d with
 |lst ds=>rw[Dt.dep]at hd;lia
 |tup ds=>rw[Dt.dep]at hd;lia
 |scr ns=>rw[Dt.dep]at hd;lia
 |exc _ _ _=>rw[Dt.dep]at hd;lia
 |fn _ _=>rw[Dt.dep]at hd;lia
 |dsk _ _=>rw[Dt.dep]at hd;lia
 |fnc _=>rw[Dt.dep]at hd;lia
 |dtt _ _=>rw[Dt.dep]at hd;lia
 |loc _ _=>rw[Dt.dep]at hd;lia
 |ins _ _=>rw[Dt.dep]at hd;lia
 |dct _=>rw[Dt.dep]at hd;lia
 |_=>exact h
structure Kids(P:(Addr->Prop)->Dt->V->Prop)(S:Addr->Prop)(a:Addr)(ds:List Dt)(xs:List V)(T:Nat->Addr->Prop):Prop where
 len:xs.length=ds.length
 own:∀(q:Nat)(d:Dt)(x:V),ds[q]?=some d->xs[q]?=some x->P (T q) d x
 top:S a
 out:∀q,¬T q a
 dis:∀q r b,T q b->T r b->q=r
 sub:∀q b,T q b->S b
def Own(G H:Hp):Nat->(Addr->Prop)->Dt->V->Prop
 |0,_,d,v=>Rep G d v
 |n+1,S,d,v=>match d with
  |.lst ds=>∃a xs T,v=.ref a/\H a=some (.lst xs)/\Kids (Own G H n) S a ds xs T
  |.tup ds=>∃a xs T,v=.ref a/\H a=some (.tup xs)/\Kids (Own G H n) S a ds xs T
  |.dct kvs=>∃a,v=.ref a/\H a=some (.dK (kvs.map fun p=>(p.1,swV p.2)))/\S a
  |.dtt ks ds=>∃a T0 e0 xs T,v=.ref a/\H a=some (.dT T0 e0 (kzip ks xs))/\ks.length=ds.length/\KeyT G T0 ks/\Kids (Own G H n) S a ds xs T
  |.loc a d=>v=.ref a/\Own G H n S d v
  |.dsk w ws=>∃a,v=.ref a/\∃b C dx,clK Kc.K "Desk" = some C/\dskO H w ws a b C dx/\S a/\S b
  |d=>Rep G d v
theorem Kids.imp{P P':(Addr->Prop)->Dt->V->Prop}{S S':Addr->Prop}{a:Addr}{ds:List Dt}{xs:List V}{T:Nat->Addr->Prop}(k:Kids P S a ds xs T)
  (h:∀q d x,ds[q]?=some d->P (T q) d x->P' (T q) d x) (hs:∀b,S b->S' b):Kids P' S' a ds xs T:=
 ⟨k.len,fun q d x h1 h2=>h q d x h1 (k.own q d x h1 h2),hs _ k.top,k.out,k.dis,fun q b t=>hs _ (k.sub q b t)⟩
theorem Own.mono{G G' H H':Hp}(sG:Same G G')(sH:Same H H'):∀{n:Nat}{S:Addr->Prop}{d:Dt}{v:V},Own G H n S d v->Own G' H' n S d v
 |0,S,d,v,h=>Rep.mono sG h
 |n+1,S,d,v,h=>by
  cases d with
  |lst ds=>obtain⟨a,xs,T,e,ha,k⟩:=h;exact⟨a,xs,T,e,sH _ _ ha,k.imp (fun _ _ _ _ p=>Own.mono sG sH p) fun _ z=>z⟩
  |tup ds=>obtain⟨a,xs,T,e,ha,k⟩:=h;exact⟨a,xs,T,e,sH _ _ ha,k.imp (fun _ _ _ _ p=>Own.mono sG sH p) fun _ z=>z⟩
  |dct kvs=>obtain⟨a,e,ha,hs⟩:=h;exact⟨a,e,sH _ _ ha,hs⟩
  |dtt ks ds=>obtain⟨a,T0,e0,xs,T,e,ha,hl,ht,k⟩:=h;exact⟨a,T0,e0,xs,T,e,sH _ _ ha,hl,ht.mono sG,k.imp (fun _ _ _ _ p=>Own.mono sG sH p) fun _ z=>z⟩
  |loc a d=>exact⟨h.1,Own.mono sG sH h.2⟩
  |dsk w ws=>obtain⟨a,e,b,C,dx,h1,⟨h2,h3⟩,h4⟩:=h;exact⟨a,e,b,C,dx,h1,⟨sH _ _ h2,sH _ _ h3⟩,h4⟩
  |_=>exact Rep.mono sG h
theorem Own.sub{G H:Hp}:∀{n:Nat}{S S':Addr->Prop}{d:Dt}{v:V},Own G H n S d v->(∀b,S b->S' b)->Own G H n S' d v
 |0,_,_,_,_,h,_=>h
 |n+1,S,S',d,v,h,hs=>by
  cases d with
  |lst ds=>obtain⟨a,xs,T,e,ha,k⟩:=h;exact⟨a,xs,T,e,ha,k.imp (fun _ _ _ _ p=>p) hs⟩
  |tup ds=>obtain⟨a,xs,T,e,ha,k⟩:=h;exact⟨a,xs,T,e,ha,k.imp (fun _ _ _ _ p=>p) hs⟩
  |dct kvs=>obtain⟨a,e,ha,h2⟩:=h;exact⟨a,e,ha,hs _ h2⟩
  |dtt ks ds=>obtain⟨a,T0,e0,xs,T,e,ha,hl,ht,k⟩:=h;exact⟨a,T0,e0,xs,T,e,ha,hl,ht,k.imp (fun _ _ _ _ p=>p) hs⟩
  |loc a d=>exact⟨h.1,Own.sub h.2 hs⟩
  |dsk w ws=>obtain⟨a,e,b,C,dx,h1,h2,h3,h4⟩:=h;exact⟨a,e,b,C,dx,h1,h2,hs _ h3,hs _ h4⟩
  |_=>exact h
theorem Own.rep{G H J:Hp}(sG:Same G J):∀{n:Nat}{S:Addr->Prop}{d:Dt}{v:V},Own G H n S d v->(∀a o,S a->H a=some o->J a=some o)->Rep J d v
 |0,S,d,v,h,_=>Rep.mono sG h
 |n+1,S,d,v,h,hj=>by
  cases d with
  |lst ds=>obtain⟨a,xs,T,e,ha,k⟩:=h;exact⟨a,xs,e,hj _ _ k.top ha,zCY k.len fun q d x h1 h2=>Own.rep sG (k.own q d x h1 h2) fun b o t hb=>hj b o (k.sub q b t) hb⟩
  |tup ds=>obtain⟨a,xs,T,e,ha,k⟩:=h;exact⟨a,xs,e,hj _ _ k.top ha,zCY k.len fun q d x h1 h2=>Own.rep sG (k.own q d x h1 h2) fun b o t hb=>hj b o (k.sub q b t) hb⟩
  |dct kvs=>obtain⟨a,e,ha,hs⟩:=h;exact⟨a,e,hj _ _ hs ha⟩
  |dtt ks ds=>obtain⟨a,T0,e0,xs,T,e,ha,hl,ht,k⟩:=h;exact⟨a,T0,e0,xs,e,hj _ _ k.top ha,hl,ht.mono sG,zCY k.len fun q d x h1 h2=>Own.rep sG (k.own q d x h1 h2) fun b o t hb=>hj b o (k.sub q b t) hb⟩
  |loc a d=>exact⟨h.1,Own.rep sG h.2 hj⟩
  |dsk w ws=>obtain⟨a,e,b,C,dx,h1,⟨h2,h3⟩,h4,h5⟩:=h;exact⟨a,e,b,C,dx,h1,hj _ _ h4 h2,hj _ _ h5 h3⟩
  |_=>exact Rep.mono sG h
theorem Own.at{G G2 H:Hp}:∀{n k:Nat}{S:Addr->Prop}{d:Dt}{v:V},Own G H n S d v->d.dep<=n->d.dep<=k->n<1000->Own G2 H k S d v
 |n,k,S,d,v,h,hn,hk,hz=>by
  cases d with
  |lst ds=>
   rw[Dt.dep]at hn hk;cases n with
   |zero=>lia
   |succ n=>
    cases k with
    |zero=>lia
    |succ k=>
     obtain⟨a,xs,T,e,ha,kd⟩:=h;refine⟨a,xs,T,e,ha,kd.imp (fun q d x h1 p=>?_) fun _ z=>z⟩;exact Own.at p (zEI (by lia) h1) (zEI (by lia) h1) (by lia)
  |tup ds=>
   rw[Dt.dep]at hn hk;cases n with
   |zero=>lia
   |succ n=>
    cases k with
    |zero=>lia
    |succ k=>
     obtain⟨a,xs,T,e,ha,kd⟩:=h;refine⟨a,xs,T,e,ha,kd.imp (fun q d x h1 p=>?_) fun _ z=>z⟩;exact Own.at p (zEI (by lia) h1) (zEI (by lia) h1) (by lia)
  |non=>cases n<;>cases k<;>exact h
  |bl b=>cases n<;>cases k<;>exact h
  |int i=>cases n<;>cases k<;>exact h
  |str x=>cases n<;>cases k<;>exact h
  |scr ns=>rw[Dt.dep]at hn;lia
  |exc _ _ _=>rw[Dt.dep]at hn;lia
  |fn _ _=>rw[Dt.dep]at hn;lia
  |dsk _ _=>rw[Dt.dep]at hn;lia
  |fnc _=>rw[Dt.dep]at hn;lia
  |dtt _ _=>rw[Dt.dep]at hn;lia
  |loc _ _=>rw[Dt.dep]at hn;lia
  |ins _ _=>rw[Dt.dep]at hn;lia
  |dct _=>rw[Dt.dep]at hn;lia
termination_by n=>n
theorem Own.scalar{G H G2 H2:Hp}{n k:Nat}{S S2:Addr->Prop}{d:Dt}{v:V}(h:Own G H n S d v)(hd:d.dep=0):Own G2 H2 k S2 d v:=by
 cases d with
 |lst ds=>rw[Dt.dep]at hd;lia
 |tup ds=>rw[Dt.dep]at hd;lia
 |non=>cases n<;>cases k<;>exact h
 |bl b=>cases n<;>cases k<;>exact h
 |int i=>cases n<;>cases k<;>exact h
 |str x=>cases n<;>cases k<;>exact h
 |scr ns=>rw[Dt.dep]at hd;lia
 |exc _ _ _=>rw[Dt.dep]at hd;lia
 |fn _ _=>rw[Dt.dep]at hd;lia
 |dsk _ _=>rw[Dt.dep]at hd;lia
 |fnc _=>rw[Dt.dep]at hd;lia
 |dtt _ _=>rw[Dt.dep]at hd;lia
 |loc _ _=>rw[Dt.dep]at hd;lia
 |ins _ _=>rw[Dt.dep]at hd;lia
 |dct _=>rw[Dt.dep]at hd;lia
theorem zNK{G H:Hp}{n:Nat}{S:Addr->Prop}{d:Dt}{v:V}(h:Rep G d v)(hd:d.dep=0):Own G H n S d v:=Own.scalar (n:=0) (G:=G) (H:=H) (S:=S) h hd
theorem Own.upd{G H:Hp}{p:Addr}{o:HO}:∀{n:Nat}{S:Addr->Prop}{d:Dt}{v:V},Own G H n S d v->¬S p->Own G (upd H p o) n S d v
 |0,S,d,v,h,_=>h
 |n+1,S,d,v,h,hp=>by
  cases d with
  |lst ds=>
   obtain⟨a,xs,T,e,ha,k⟩:=h;have hap:a≠p:=fun z=>hp (z▸k.top)
   exact⟨a,xs,T,e,(zAB hap).trans ha,k.imp (fun q _ _ _ w=>Own.upd w fun z=>hp (k.sub q _ z)) fun _ z=>z⟩
  |tup ds=>
   obtain⟨a,xs,T,e,ha,k⟩:=h;have hap:a≠p:=fun z=>hp (z▸k.top)
   exact⟨a,xs,T,e,(zAB hap).trans ha,k.imp (fun q _ _ _ w=>Own.upd w fun z=>hp (k.sub q _ z)) fun _ z=>z⟩
  |dct kvs=>
   obtain⟨a,e,ha,hs⟩:=h;have hap:a≠p:=fun z=>hp (z▸hs)
   exact⟨a,e,(zAB hap).trans ha,hs⟩
  |dtt ks ds=>
   obtain⟨a,T0,e0,xs,T,e,ha,hl,ht,k⟩:=h;have hap:a≠p:=fun z=>hp (z▸k.top)
   exact⟨a,T0,e0,xs,T,e,(zAB hap).trans ha,hl,ht,k.imp (fun q _ _ _ w=>Own.upd w fun z=>hp (k.sub q _ z)) fun _ z=>z⟩
  |loc a d=>exact⟨h.1,Own.upd h.2 hp⟩
  |dsk w ws=>
   obtain⟨a,e,b,C,dx,h1,⟨h2,h3⟩,h4,h5⟩:=h;have h6:a≠p:=fun z=>hp (z▸h4)
   have h7:b≠p:=fun z=>hp (z▸h5)
   exact⟨a,e,b,C,dx,h1,⟨(zAB h6).trans h2,(zAB h7).trans h3⟩,h4,h5⟩
  |_=>exact h
structure Ext(G H G' H':Hp):Prop where
 g:Same G G'
 h:Same H H'
 in':Same G' H'
 old:∀b,H b≠none->G' b=G b
theorem Ext.refl{G H:Hp}(s:Same G H):Ext G H G H:=⟨Same.refl _,Same.refl _,s,fun _ _=>rfl⟩
theorem _root_.L2.Same.some{H H':Hp}(s:Same H H'){b:Addr}(h:H b≠qFc):H' b≠qFc:=by
 cases e:H b with
 |none=>exact absurd e h
 |some o=>rw[s _ _ e];simp
theorem Ext.trans{G H G1 H1 G2 H2:Hp}(a:Ext G H G1 H1)(b:Ext G1 H1 G2 H2):Ext G H G2 H2:=
 ⟨a.g.trans b.g,a.h.trans b.h,b.in',fun c hc=>(b.old c (a.h.some hc)).trans (a.old c hc)⟩
structure Fr(G H G' H':Hp)(S:Addr->Prop):Prop where
 ext:Ext G H G' H'
 new:∀a,S a->H a=none/\G' a=none/\H' a≠none
open Classical in
noncomputable def over(G H:Hp)(S:Addr->Prop):Hp:=fun b=>if S b then H b else G b
theorem zDG{G H:Hp}{S:Addr->Prop}{a:Addr}(h:S a):over G H S a=H a:=by unfold over;rw[if_pos h]
theorem zBK{G H:Hp}{S:Addr->Prop}{a:Addr}(h:¬S a):over G H S a=G a:=by unfold over;rw[if_neg h]
theorem zC8{G H:Hp}{S:Addr->Prop}(s:Same G H):Same G (over G H S)/\Same (over G H S) H:=by
 constructor
 ·intro b o e
  by_cases z:S b
  ·rw[zDG z];exact s _ _ e
  ·rw[zBK z];exact e
 ·intro b o e
  by_cases z:S b
  ·rw[zDG z]at e;exact e
  ·rw[zBK z]at e;exact s _ _ e
theorem Fr.frz{G H G' H':Hp}{S:Addr->Prop}{n:Nat}{d:Dt}{v:V}(f:Fr G H G' H' S)(o:Own G' H' n S d v):Ext G H (over G' H' S) H'/\Rep (over G' H' S) d v:=by
 obtain⟨s1,s2⟩:=zC8 (S:=S) f.ext.in';refine⟨⟨f.ext.g.trans s1,f.ext.h,s2,fun b hb=>?_⟩,o.rep s1 fun a u ha e=>by rw[zDG ha];exact e⟩;have z:¬S b:=fun z=>hb (f.new b z).1
 rw[zBK z];exact f.ext.old b hb
structure View(G:Hp)(σ:St)(ρ:Rh):Prop where
 len:ρ.length=σ.length
 «at»:∀(i:Nat)(d:Dt),ρ[i]?=some (some d)->∃v,σ[i]?=some (some v)/\Rep G d v
 tab:Same (tabK Kc.K) G
theorem View.mono{G G':Hp}{σ:St}{ρ:Rh}(s:Same G G')(h:View G σ ρ):View G' σ ρ:=⟨h.len,fun i d e=>let⟨v,a,b⟩:=h.at i d e;⟨v,a,Rep.mono s b⟩,h.tab.trans s⟩
def XRep(mg:Str->Option Value)(x:Xn)(c:Value)(da:Option Addr)(G H:Hp):Prop:=
 ∃e C,c=.ref e/\G e=some (xo e (.ref C) da)/\clK Kc.K x.cls=some C/\((da=none/\x.f = "")\/∃a gs w,da=some a/\G a=some (.xd gs)/\gs.lookup x.f=some w/\Rep G x.d w)
def PostE(mg:Str->Option Value)(E:XK)(G H:Hp)(n:Nat)(r:R Dt)(Q:VK):Prop:=match r with
 |none=>False
 |some (.error x)=>∀c da G' H',Ext G H G' H'->XRep mg x c da G' H'->E c da H'
 |some (.ok d)=>∀v G' H' S,Fr G H G' H' S->Own G' H' n S d v->Q v H'
def PostT(mg:Str->Option Value)(E:XK)(G H:Hp)(r:R Bool)(Q:Bool->Hp->Prop):Prop:=match r with
 |none=>False
 |some (.error x)=>∀c da G' H',Ext G H G' H'->XRep mg x c da G' H'->E c da H'
 |some (.ok b)=>∀H',Same H H'->Q b H'
structure OwnA(G H:Hp)(n:Nat)(S:Addr->Prop)(ds:List Dt)(xs:List V)(T:Nat->Addr->Prop):Prop where
 len:xs.length=ds.length
 own:∀(q:Nat)(d:Dt)(x:V),ds[q]?=some d->xs[q]?=some x->Own G H n (T q) d x
 dis:∀q r b,T q b->T r b->q=r
 sub:∀q b,T q b->S b
def zbQ(mg:Str->Option Value)(E:XK)(G H:Hp)(n:Nat)(r:R (List Dt))(Q:List V->Hp->Prop):Prop:=match r with
 |none=>False
 |some (.error x)=>∀c da G' H',Ext G H G' H'->XRep mg x c da G' H'->E c da H'
 |some (.ok ds)=>∀vs G' H' S T,Fr G H G' H' S->OwnA G' H' n S ds vs T->Q vs H'
def DE(mg:Str->Option Value)(E:XK)(t:TE)(m:EM)(n:Nat):Prop:=∀(G H:Hp)(σ:St)(ρ:Rh)(Q:VK),Same G H->View G σ ρ->PostE mg E G H n (m ρ) Q->t σ H Q
def DT(mg:Str->Option Value)(E:XK)(t:TT)(m:TM):Prop:=∀(G H:Hp)(σ:St)(ρ:Rh)(Q:Bool->Hp->Prop),Same G H->View G σ ρ->PostT mg E G H (m ρ) Q->t σ H Q
def DA(mg:Str->Option Value)(E:XK)(t:TA)(m:AM)(n:Nat):Prop:=∀(G H:Hp)(σ:St)(ρ:Rh)(Q:List V->Hp->Prop),Same G H->View G σ ρ->zbQ mg E G H n (m ρ) Q->t σ H Q
structure Err(mg:Str->Option Value)(E:XK)(G H:Hp){β:Type}(P:R β->Prop):Prop where
 no:P none->False
 er:∀x,P (some (.error x))->∀c da G' H',Ext G H G' H'->XRep mg x c da G' H'->E c da H'
theorem Ext.same{G H H':Hp}(s:Same G H)(h:Same H H'):Ext G H G H':=⟨Same.refl _,h,s.trans h,fun _ _=>rfl⟩
theorem Err.from{mg:Str->Option Value}{E:XK}{G H G' H':Hp}{β:Type}{P:R β->Prop}(e:Err mg E G H P)(x:Ext G H G' H'):Err mg E G' H' P:=⟨e.no,fun y p c da G2 H2 z w=>e.er y p c da G2 H2 (x.trans z) w⟩
section
variable{mg:Str->Option Value}{E:XK}{n:Nat}
theorem errE{G H:Hp}{Q:VK}:Err mg E G H (fun r=>PostE mg E G H n r Q):=⟨fun h=>h,fun _ h=>h⟩
theorem errT{G H:Hp}{Q:Bool->Hp->Prop}:Err mg E G H (fun r=>PostT mg E G H r Q):=⟨fun h=>h,fun _ h=>h⟩
theorem errA{G H:Hp}{Q:List V->Hp->Prop}:Err mg E G H (fun r=>zbQ mg E G H n r Q):=⟨fun h=>h,fun _ h=>h⟩
theorem DE.step{β:Type}{t:TE}{m:EM}(D:DE mg E t m n){G H:Hp}{σ:St}{ρ:Rh}{Q:VK}{P:R β->Prop}{f:Dt->R β}(hE:Err mg E G H P)(s:Same G H)(w:View G σ ρ)(p:P (zA2 (m ρ) f))
  (h:∀d v G' H' S,m ρ=okR d->Fr G H G' H' S->Own G' H' n S d v->P (f d)->Q v H'):t σ H Q:=by
 refine D G H σ ρ Q s w ?_;cases e:m ρ with
 |none=>rw[e]at p;exact hE.no p
 |some r=>
  rw[e]at p;cases r with
  |error x=>exact hE.er x p
  |ok d=>exact fun v G' H' S fr o=>h d v G' H' S e fr o p
theorem DT.step{β:Type}{t:TT}{m:TM}(D:DT mg E t m){G H:Hp}{σ:St}{ρ:Rh}{Q:Bool->Hp->Prop}{P:R β->Prop}{f:Bool->R β}(hE:Err mg E G H P)(s:Same G H)(w:View G σ ρ)(p:P (zA2 (m ρ) f))
  (h:∀b H',m ρ=okR b->Same H H'->P (f b)->Q b H'):t σ H Q:=by
 refine D G H σ ρ Q s w ?_;cases e:m ρ with
 |none=>rw[e]at p;exact hE.no p
 |some r=>
  rw[e]at p;cases r with
  |error x=>exact hE.er x p
  |ok b=>exact fun H' sH=>h b H' e sH p
theorem DA.step{β:Type}{t:TA}{m:AM}(D:DA mg E t m n){G H:Hp}{σ:St}{ρ:Rh}{Q:List V->Hp->Prop}{P:R β->Prop}{f:List Dt->R β}(hE:Err mg E G H P)(s:Same G H)(w:View G σ ρ)(p:P (zA2 (m ρ) f))
  (h:∀ds vs G' H' S T,m ρ=okR ds->Fr G H G' H' S->OwnA G' H' n S ds vs T->P (f ds)->Q vs H'):t σ H Q:=by
 refine D G H σ ρ Q s w ?_;cases e:m ρ with
 |none=>rw[e]at p;exact hE.no p
 |some r=>
  rw[e]at p;cases r with
  |error x=>exact hE.er x p
  |ok ds=>exact fun vs G' H' S T fr o=>h ds vs G' H' S T e fr o p
theorem PostE.from{G H G' H':Hp}{Q:VK}{r:R Dt}(p:PostE mg E G H n r Q)(x:Ext G H G' H'):PostE mg E G' H' n r Q:=by
 cases r with
 |none=>exact p
 |some r=>
  cases r with
  |error y=>exact fun c da G2 H2 z w=>p c da G2 H2 (x.trans z) w
  |ok d=>
   exact fun v G2 H2 S fr o=>p v G2 H2 S ⟨x.trans fr.ext,fun a ha=>⟨x.h.free (fr.new a ha).1,(fr.new a ha).2⟩⟩ o
theorem PostT.from{G H G' H':Hp}{Q:Bool->Hp->Prop}{r:R Bool}(p:PostT mg E G H r Q)(x:Ext G H G' H'):PostT mg E G' H' r Q:=by
 cases r with
 |none=>exact p
 |some r=>
  cases r with
  |error y=>exact fun c da G2 H2 z w=>p c da G2 H2 (x.trans z) w
  |ok d=>exact fun H2 s=>p H2 (x.h.trans s)
theorem Fr.from{G H G1 H1 G2 H2:Hp}{S:Addr->Prop}(x:Ext G H G1 H1)(f:Fr G1 H1 G2 H2 S):Fr G H G2 H2 S:=⟨x.trans f.ext,fun a ha=>⟨x.h.free (f.new a ha).1,(f.new a ha).2⟩⟩
theorem PostE.val{G H G' H':Hp}{d:Dt}{v:V}{Q:VK}(p:PostE mg E G H n (okR d) Q)(x:Ext G H G' H')(hd:d.dep=0)(h:Rep G' d v):Q v H':=
 p v G' H' (fun _=>False) ⟨x,fun _ z=>z.elim⟩ (zNK h hd)
theorem PostE.kept{G H G' H':Hp}{d:Dt}{v:V}{Q:VK}(p:PostE mg E G H 0 (okR d) Q)(x:Ext G H G' H')(h:Rep G' d v):Q v H':=
 p v G' H' (fun _=>False) ⟨x,fun _ z=>z.elim⟩ h
theorem zAJ{t:TE}{m:EM}{n:Nat}(D:DE mg E t m n):DE mg E t m 0:=by
 intro G H σ ρ Q s w p;refine D G H σ ρ Q s w ?_;cases e:m ρ with
 |none=>rw[e]at p;exact p
 |some r=>
  rw[e]at p;cases r with
  |error x=>exact p
  |ok d=>
   intro v G' H' S fr o;obtain⟨x,r⟩:=fr.frz o;exact PostE.kept p x r
end
end
section
variable[Kc]{mg:Str->Option Value}{E:XK}{n k l:Nat}{ta tb tc:TE}{ma mb mc:EM}
theorem zAF{i:Int}:DE mg E (tC (.int i)) (Mi.eC (.int i)) n:=fun G H σ ρ Q s w p=>PostE.val p (Ext.refl s) rfl rfl
theorem zJF{b:Bool}:DE mg E (tC (.bl b)) (Mi.eC (.bl b)) n:=fun G H σ ρ Q s w p=>PostE.val p (Ext.refl s) rfl rfl
theorem zFR:DE mg E (tC .non) (Mi.eC .non) n:=fun G H σ ρ Q s w p=>PostE.val p (Ext.refl s) rfl rfl
theorem zW7{x:Str}:DE mg E (tC (.str x)) (Mi.eC (.str x)) n:=fun G H σ ρ Q s w p=>PostE.val p (Ext.refl s) rfl rfl
theorem de_v(i:Nat):DE mg E (vM i) (Mi.eV i) 0:=by
 intro G H σ ρ Q s w p;unfold Mi.eV at p;cases e:ρ[i]? with
 |none=>rw[e]at p;exact p.elim
 |some o=>
  rw[e]at p;cases o with
  |none=>exact p.elim
  |some d=>
   obtain⟨v,h1,h2⟩:=w.at i d e;unfold vM;rw[h1];exact PostE.kept p (Ext.refl s) h2
def ROp(r:R2)(f:Dt->Dt->Option Dt)(n:Nat):Prop:=∀(mg:Str->Option Value)(E:XK)(G H:Hp)(d e:Dt)(x y:V)(Q:VK),Same G H->Rep G d x->Rep G e y->PostE mg E G H n (optR (f d e)) Q->r x y H Q
theorem zAG{r:R2}{f:Dt->Dt->Option Dt}(hr:ROp r f n)(A:DE mg E ta ma k)(B:DE mg E tb mb l):DE mg E (tOp r ta tb) (Mi.eB f ma mb) n:=by
 intro G H σ ρ Q s w p;refine(zAJ A).step errE s w p fun d v G1 H1 S _ fr o p1=>?_
 refine(zAJ B).step (errE.from fr.ext) fr.ext.in' (w.mono fr.ext.g) p1 fun e u G2 H2 S2 _ fr2 o2 p2=>?_
 exact hr mg E G2 H2 d e v u Q fr2.ext.in' (Rep.mono fr2.ext.g o) o2 (PostE.from p2 (fr.ext.trans fr2.ext))
theorem zbI(A:DE mg E ta ma k)(B:DE mg E tb mb n):DE mg E (fun σ H Q=>ta σ H fun x H1=>match x with | .bl c=>if c=true then tb σ H1 Q else Q (.bl false) H1|_=>False) (Mi.eAnd ma mb) n:=by
 intro G H σ ρ Q s w p;refine(zAJ A).step errE s w p fun d v G1 H1 S _ fr o p1=>?_
 cases d with
 |bl b=>
  cases(show v=.bl b from o)
  cases b with
  |true=>exact B G1 H1 σ ρ Q fr.ext.in' (w.mono fr.ext.g) (PostE.from p1 fr.ext)
  |false=>exact PostE.val (PostE.from p1 fr.ext) (Ext.refl fr.ext.in') rfl rfl
 |_=>exact p1.elim
theorem zO0{tA:TT}{c:TM}(C:DT mg E tA c)(A:DE mg E ta ma n)(B:DE mg E tb mb n):DE mg E (tIf tA ta tb) (Mi.eIf c ma mb) n:=by
 intro G H σ ρ Q s w p;refine C.step errE s w p fun b H' _ sH p1=>?_
 have p2:=PostE.from p1 (Ext.same s sH);cases b with
 |true=>exact A G H' σ ρ Q (s.trans sH) w p2
 |false=>exact B G H' σ ρ Q (s.trans sH) w p2
theorem dt_b(A:DE mg E ta ma k):DT mg E (fun σ H Q=>ta σ H fun z H3=>match z with | .bl k=>Q k H3|_=>False) (Mi.tB ma):=by
 intro G H σ ρ Q s w p;refine(zAJ A).step errT s w p fun d v G1 H1 S _ fr o p1=>?_
 cases d with
 |bl b=>
  cases(show v=.bl b from o)
  exact p1 H1 fr.ext.h
 |_=>exact p1.elim
theorem dt_m(A:DE mg E ta ma k):DT mg E (bM ta) (Mi.tM ma):=by
 intro G H σ ρ Q s w p;refine(zAJ A).step errT s w p fun d v G1 H1 S _ fr o p1=>?_
 cases d with
 |bl b=>cases(show v=.bl b from o);exact p1 H1 fr.ext.h
 |int b=>cases(show v=.int b from o);exact p1 H1 fr.ext.h
 |non=>cases(show v=.non from o);exact p1 H1 fr.ext.h
 |_=>exact p1.elim
variable{tA tB:TT}{cA cB:TM}
theorem zUC(A:DT mg E tA cA)(B:DT mg E tB cB):DT mg E (L2.tOr tA tB) (Mi.tOr cA cB):=by
 intro G H σ ρ Q s w p;refine A.step errT s w p fun b H' _ sH p1=>?_
 cases b with
 |false=>exact B G H' σ ρ Q (s.trans sH) w (PostT.from p1 (Ext.same s sH))
 |true=>exact p1 H' sH
theorem zNW(A:DT mg E tA cA):DT mg E (L2.tNot tA) (Mi.tNo cA):=by
 intro G H σ ρ Q s w p;exact A.step errT s w p fun b H' _ sH p1=>p1 H' sH
theorem zE7:DT mg E L2.tYes Mi.tYes:=fun G H σ ρ Q s w p=>p H (Same.refl _)
variable{t:TA}{m:AM}
theorem zA7:DA mg E tNil Mi.aNil n:=fun G H σ ρ Q s w p=>p [] G H (fun _=>False) (fun _ _=>False) ⟨Ext.refl s,fun _ z=>z.elim⟩ ⟨rfl,fun q d x h=>by simp at h,fun _ _ _ z=>z.elim,fun _ _ z=>z.elim⟩
theorem zA1(A:DE mg E ta ma n)(B:DA mg E t m n):DA mg E (zEC ta t) (Mi.aCons ma m) n:=by
 intro G H σ ρ Q s w p;refine A.step errA s w p fun d v G1 H1 S1 _ fr o p1=>?_
 refine B.step (errA.from fr.ext) fr.ext.in' (w.mono fr.ext.g) p1 fun ds vs G2 H2 S2 T2 _ fr2 o2 p2=>?_
 refine p2 (v::vs) G2 H2 (fun a=>S1 a\/S2 a) (fun q=>match q with|0=>S1|q+1=>T2 q) ⟨fr.ext.trans fr2.ext,fun a ha=>?_⟩ ⟨by simp[o2.len],fun q d' x h1 h2=>?_,fun q r b h1 h2=>?_,fun q b h=>?_⟩
 ·rcases ha with ha|ha
  ·obtain⟨n1,n2,n3⟩:=fr.new a ha;exact⟨n1,(fr2.ext.old a n3).trans n2,fr2.ext.h.some n3⟩
  ·obtain⟨n1,n2,n3⟩:=fr2.new a ha;exact⟨fr.ext.h.free n1,n2,n3⟩
 ·cases q with
  |zero=>simp at h1 h2;subst h1;subst h2;exact o.mono fr2.ext.g fr2.ext.h
  |succ q=>exact o2.own q d' x (by simpa using h1) (by simpa using h2)
 ·have ap:∀r b,S1 b->T2 r b->False:=fun r b h1 h2=>(fr.new b h1).2.2 (fr2.new b (o2.sub r b h2)).1
  cases q with
  |zero=>
   cases r with
   |zero=>rfl
   |succ r=>exact(ap r b h1 h2).elim
  |succ q=>
   cases r with
   |zero=>exact(ap q b h2 h1).elim
   |succ r=>rw[o2.dis q r b h1 h2]
 ·cases q with
  |zero=>exact .inl h
  |succ q=>exact .inr (o2.sub q b h)
theorem OwnA.repL{G H:Hp}{S:Addr->Prop}{ds:List Dt}{vs:List V}{T:Nat->Addr->Prop}(o:OwnA G H 0 S ds vs T):RepL G ds vs:=zCY o.len fun q d x h1 h2=>o.own q d x h1 h2
theorem big'{n:Nat}(h:n<=100000):n<=sizeLine:=qCd (L2.big h)
theorem Fr.add{G H G' H':Hp}{S:Addr->Prop}(f:Fr G H G' H' S){p:Addr}(hp:H' p=none)(o:HO):Fr G H G' (upd H' p o) (fun a=>a=p\/S a):=by
 have sn:=L2.same_new hp o;refine⟨⟨f.ext.g,f.ext.h.trans sn,f.ext.in'.trans sn,f.ext.old⟩,fun a ha=>?_⟩
 rcases ha with rfl|ha
 ·exact⟨f.ext.h.free hp,f.ext.in'.free hp,by rw[zAC];simp⟩
 ·obtain⟨n1,n2,n3⟩:=f.new a ha;exact⟨n1,n2,sn.some n3⟩
theorem OwnA.kids{G' H':Hp}{S:Addr->Prop}{ds:List Dt}{vs:List V}{T:Nat->Addr->Prop}(o:OwnA G' H' n S ds vs T)(hn:∀a,S a->H' a≠none){p:Addr}(hp:H' p=none)(ob:HO) :
  Kids (Own G' (upd H' p ob) n) (fun a=>a=p\/S a) p ds vs T:=
 ⟨o.len,fun q d x h1 h2=>(o.own q d x h1 h2).mono (Same.refl _) (L2.same_new hp ob),.inl rfl,fun q z=>hn p (o.sub q p z) hp,o.dis,fun q b z=>.inr (o.sub q b z)⟩
theorem zBZ(A:DA mg E t m n):DE mg E (tLst t) (Mi.eLst m) (n+1):=by
 intro G H σ ρ Q s w p;refine A.step errE s w p fun ds vs G1 H1 S T _ fr o p1=>?_
 by_cases hz:ds.length<=100000
 ·rw[if_pos hz]at p1;refine⟨by rw[o.len];exact big' hz,fun a ha=>?_⟩;exact p1 (.ref a) G1 _ _ (fr.add ha _) ⟨a,vs,T,rfl,zAC,o.kids (fun b hb=>(fr.new b hb).2.2) ha _⟩
 ·rw[if_neg hz]at p1;exact p1.elim
theorem PostE.lst{G H G' H':Hp}{ds:List Dt}{xs:List V}{Q:VK}(p:PostE mg E G H 1 (okR (.lst ds)) Q)(x:Ext G H G' H')(r:RepL G' ds xs){a:Addr}(ha:H' a=none):Q (.ref a) (upd H' a (.lst xs)):=by
 have fr:Fr G H G' H' (fun _=>False):=⟨x,fun _ z=>z.elim⟩
 refine p (.ref a) G' _ _ (fr.add ha (.lst xs)) ⟨a,xs,fun _ _=>False,rfl,zAC,⟨r.length,fun q d y h1 h2=>zBJ r h1 h2,.inl rfl,fun _ z=>z,fun _ _ _ z=>z.elim,fun _ _ z=>z.elim⟩⟩
def CBi(r:List V->Hp->VK->Prop)(f:List Dt->Option Dt)(n:Nat):Prop:=∀(mg:Str->Option Value)(E:XK)(G H:Hp)(ds:List Dt)(vs:List V)(Q:VK),Same G H->RepL G ds vs->PostE mg E G H n (optR (f ds)) Q->r vs H Q
theorem zBO{r:List V->Hp->VK->Prop}{f:List Dt->Option Dt}(hr:CBi r f n)(A:DA mg E t m 0):DE mg E (tCB r t) (Mi.eBi f m) n:=by
 intro G H σ ρ Q s w p;refine A.step errE s w p fun ds vs G1 H1 S T _ fr o p1=>?_
 exact hr mg E G1 H1 ds vs Q fr.ext.in' o.repL (PostE.from p1 fr.ext)
def spM(mg:Str->Option Value)(L:Nat)(f:FM):Sp:=fun vs H Q E=>∃G ds,Same (tabK Kc.K) G/\Same G H/\RepL G ds vs/\PostE mg E G H L (f ds) Q
theorem zB5{f:FM}(A:DA mg E t m 0):DE mg E (zED (spM mg n f) [] E t) (Mi.eCall f m) n:=by
 intro G H σ ρ Q s w p;refine A.step errE s w p fun ds vs G1 H1 S T _ fr o p1=>?_
 exact⟨G1,ds,w.tab.trans fr.ext.g,fr.ext.in',by rw[qBk];exact o.repL,PostE.from p1 fr.ext⟩
theorem zTB{G H:Hp}{o:Option Dt}{Q:VK}{d:Dt}{v:V}(s:Same G H)(p:PostE mg E G H n (optR o) Q)(e:o=some d)(hd:d.dep=0)(h:Rep G d v):Q v H:=by
 subst e;exact PostE.val p (Ext.refl s) hd h
theorem zBP:ROp zXA Mi.addD 1:=by
 intro mg E G H d e x y Q s h1 h2 p;cases d with
 |int i=>
  cases e with
  |int j=>cases(show x=.int i from h1);cases(show y=.int j from h2);exact zTB s p rfl rfl rfl
  |_=>exact p.elim
 |str i=>
  cases e with
  |str j=>
   cases(show x=.str i from h1);cases(show y=.str j from h2)
   rw[Mi.addD]at p
   by_cases hz:i.length+j.length<=100000
   ·rw[if_pos hz]at p;exact⟨big' hz,PostE.val p (Ext.refl s) rfl rfl⟩
   ·rw[if_neg hz]at p;exact p.elim
  |_=>exact p.elim
 |lst ds=>
  cases e with
  |lst es=>
   obtain⟨a,xs,rfl,ha,ra⟩:=h1;obtain⟨b,ys,rfl,hb,rb⟩:=h2;rw[Mi.addD]at p
   by_cases hz:ds.length+es.length<=100000
   ·rw[if_pos hz]at p;refine⟨xs,ys,s _ _ ha,s _ _ hb,by rw[ra.length,rb.length];exact big' hz,fun q hq=>?_⟩;refine PostE.lst p (Ext.refl s) (zCY (by simp[ra.length,rb.length]) fun j d' x' e1 e2=>?_) hq
    by_cases hj:j<ds.length
    ·rw[qAc hj]at e1;rw[qAc (by rw[ra.length];exact hj)]at e2;exact zBJ ra e1 e2
    ·rw[qAe (by lia)]at e1;rw[qAe (by rw[ra.length];lia),ra.length]at e2;exact zBJ rb e1 e2
   ·rw[if_neg hz]at p;exact p.elim
  |_=>exact p.elim
 |_=>exact p.elim
theorem zZE:ROp zZN Mi.subD n:=by
 intro mg E G H d e x y Q s h1 h2 p;cases d with
 |int i=>
  cases e with
  |int j=>cases(show x=.int i from h1);cases(show y=.int j from h2);exact zTB s p rfl rfl rfl
  |_=>exact p.elim
 |_=>exact p.elim
theorem zCH:ROp zZR Mi.mulD n:=by
 intro mg E G H d e x y Q s h1 h2 p;cases d with
 |int i=>
  cases e with
  |int j=>
   cases(show x=.int i from h1);cases(show y=.int j from h2)
   rw[Mi.mulD]at p
   split at p
   ·rename_i hz;exact⟨hz,PostE.val p (Ext.refl s) rfl rfl⟩
   ·exact p.elim
  |_=>exact p.elim
 |_=>exact p.elim
theorem zK4:ROp zZU Mi.divD n:=by
 intro mg E G H d e x y Q s h1 h2 p;cases d with
 |int i=>
  cases e with
  |int j=>
   cases(show x=.int i from h1);cases(show y=.int j from h2)
   rw[Mi.divD]at p
   split at p
   ·rename_i hz;exact⟨hz,PostE.val p (Ext.refl s) rfl rfl⟩
   ·exact p.elim
  |_=>exact p.elim
 |_=>exact p.elim
theorem zE3:ROp zZS Mi.modD n:=by
 intro mg E G H d e x y Q s h1 h2 p;cases d with
 |int i=>
  cases e with
  |int j=>
   cases(show x=.int i from h1);cases(show y=.int j from h2)
   rw[Mi.modD]at p
   split at p
   ·rename_i hz;exact⟨hz,PostE.val p (Ext.refl s) rfl rfl⟩
   ·exact p.elim
  |_=>exact p.elim
 |_=>exact p.elim
theorem zK5{q:Int->Int->Bool}:ROp (zX8 q) (Mi.cmpD q) n:=by
 intro mg E G H d e x y Q s h1 h2 p;cases d with
 |int i=>
  cases e with
  |int j=>cases(show x=.int i from h1);cases(show y=.int j from h2);exact zTB s p rfl rfl rfl
  |_=>exact p.elim
 |_=>exact p.elim
theorem zW1{G H:Hp}{d e:Dt}{x y:V}{Q:VK}{ng:Bool}(s:Same G H)(h1:Rep G d x)(h2:Rep G e y)(hd:d.dep<=40)(he:e.dep<=40)(q:Q (.bl (if ng then !Dt.eq d e else Dt.eq d e)) H) :
  ∃d' e',L2.Rep H d' x/\L2.Rep H e' y/\d'.dep<=40/\Q (.bl (if ng then !L2.Dat.eq d' e' else L2.Dat.eq d' e')) H:=
 ⟨conv d,conv e,zDW hd (Rep.mono s h1),zDW he (Rep.mono s h2),qAr (zF2 hd) hd,by rw[zMD hd he];exact q⟩
theorem zFJ{α:Type}[DecidableEq α](a b:α):(a==b)=decide (a=b):=by
 by_cases h:a=b
 ·subst h;simp
 ·simp[h]
theorem zIH{G:Hp}{d:Dt}{i:Int}(h:Rep G d (.int i)):d=.int i:=by
 cases d with
 |int k=>cases h;rfl
 |non=>cases h
 |bl _=>cases h
 |str _=>cases h
 |lst _=>obtain⟨_,_,z,_⟩:=h;cases z
 |tup _=>obtain⟨_,_,z,_⟩:=h;cases z
 |scr _=>obtain⟨_,z,_⟩:=h;cases z
 |exc _ _ _=>obtain⟨_,_,_,z,_⟩:=h;cases z
 |fn _ _=>obtain⟨_,z,_⟩:=h;cases z
 |dsk _ _=>obtain⟨_,z,_⟩:=h;cases z
 |fnc _=>obtain⟨_,z,_⟩:=h;cases z
 |dtt _ _=>obtain⟨_,_,_,_,z,_⟩:=h;cases z
 |loc _ _=>obtain⟨z,_⟩:=h;cases z
 |ins _ _=>obtain⟨_,_,_,z,_⟩:=h;cases z
 |dct _=>obtain⟨_,z,_⟩:=h;cases z
theorem zIG{G:Hp}{d:Dt}{i:Str}(h:Rep G d (.str i)):d=.str i:=by
 cases d with
 |str k=>cases h;rfl
 |non=>cases h
 |bl _=>cases h
 |int _=>cases h
 |lst _=>obtain⟨_,_,z,_⟩:=h;cases z
 |tup _=>obtain⟨_,_,z,_⟩:=h;cases z
 |scr _=>obtain⟨_,z,_⟩:=h;cases z
 |exc _ _ _=>obtain⟨_,_,_,z,_⟩:=h;cases z
 |fn _ _=>obtain⟨_,z,_⟩:=h;cases z
 |dsk _ _=>obtain⟨_,z,_⟩:=h;cases z
 |fnc _=>obtain⟨_,z,_⟩:=h;cases z
 |dtt _ _=>obtain⟨_,_,_,_,z,_⟩:=h;cases z
 |loc _ _=>obtain⟨z,_⟩:=h;cases z
 |ins _ _=>obtain⟨_,_,_,z,_⟩:=h;cases z
 |dct _=>obtain⟨_,z,_⟩:=h;cases z
theorem zN6{G:Hp}{d:Dt}{i:Bool}(h:Rep G d (.bl i)):d=.bl i:=by
 cases d with
 |bl k=>cases h;rfl
 |non=>cases h
 |str _=>cases h
 |int _=>cases h
 |lst _=>obtain⟨_,_,z,_⟩:=h;cases z
 |tup _=>obtain⟨_,_,z,_⟩:=h;cases z
 |scr _=>obtain⟨_,z,_⟩:=h;cases z
 |exc _ _ _=>obtain⟨_,_,_,z,_⟩:=h;cases z
 |fn _ _=>obtain⟨_,z,_⟩:=h;cases z
 |dsk _ _=>obtain⟨_,z,_⟩:=h;cases z
 |fnc _=>obtain⟨_,z,_⟩:=h;cases z
 |dtt _ _=>obtain⟨_,_,_,_,z,_⟩:=h;cases z
 |loc _ _=>obtain⟨z,_⟩:=h;cases z
 |ins _ _=>obtain⟨_,_,_,z,_⟩:=h;cases z
 |dct _=>obtain⟨_,z,_⟩:=h;cases z
theorem zOP:ROp rEqU Mi.eqD n:=by
 intro mg E G H d e x y Q s h1 h2 p;unfold Mi.eqD at p
 split at p
 ·rename_i hz
  have q:Q (.bl (Dt.eq d e)) H:=PostE.val p (Ext.refl s) rfl rfl;have g:=zW1 (ng:=false) (Q:=Q) s h1 h2 hz.1 hz.2 q;unfold rEqU
  split
  ·rw[zIH h1,zIH h2,Dt.eq,zFJ]at q;exact q
  ·rw[zIG h1,zIG h2,Dt.eq,zFJ]at q;exact q
  ·rw[zN6 h1,zN6 h2,Dt.eq,zFJ]at q;exact q
  ·exact g
 ·exact p.elim
theorem zT0:ROp rNeU Mi.neD n:=by
 intro mg E G H d e x y Q s h1 h2 p;unfold Mi.neD at p
 split at p
 ·rename_i hz
  have q:Q (.bl (!Dt.eq d e)) H:=PostE.val p (Ext.refl s) rfl rfl;have g:=zW1 (ng:=true) (Q:=Q) s h1 h2 hz.1 hz.2 q;unfold rNeU
  split
  ·rw[zIH h1,zIH h2,Dt.eq,zFJ]at q;exact q
  ·rw[zIG h1,zIG h2,Dt.eq,zFJ]at q;exact q
  ·rw[zN6 h1,zN6 h2,Dt.eq,zFJ]at q;exact q
  ·exact g
 ·exact p.elim
theorem zU1{G:Hp}{d:Dt}{x:V}(h:Rep G d x):decide (x=.non)=Mi.isNonD d:=by
 cases d with
 |non=>cases h;rfl
 |bl _=>cases h;rfl
 |int _=>cases h;rfl
 |str _=>cases h;rfl
 |lst _=>obtain⟨_,_,rfl,_⟩:=h;rfl
 |tup _=>obtain⟨_,_,rfl,_⟩:=h;rfl
 |scr _=>obtain⟨_,rfl,_⟩:=h;rfl
 |exc _ _ _=>obtain⟨_,_,_,rfl,_⟩:=h;rfl
 |fn _ _=>obtain⟨_,rfl,_⟩:=h;rfl
 |dsk _ _=>obtain⟨_,rfl,_⟩:=h;rfl
 |fnc _=>obtain⟨_,rfl,_⟩:=h;rfl
 |dtt _ _=>obtain⟨_,_,_,_,rfl,_⟩:=h;rfl
 |loc _ _=>obtain⟨rfl,_⟩:=h;rfl
 |ins _ _=>obtain⟨_,_,_,rfl,_⟩:=h;rfl
 |dct _=>obtain⟨_,rfl,_⟩:=h;rfl
theorem zZF:ROp (fun x y H Q=>y=.non/\Q (.bl (decide (x=.non))) H) Mi.isD n:=by
 intro mg E G H d e x y Q s h1 h2 p;cases e with
 |non=>exact⟨h2,by rw[zU1 h1];exact PostE.val p (Ext.refl s) rfl rfl⟩
 |_=>exact p.elim
theorem zKO(n:Nat)(i:Int):Mi.ixA n i=ixN n i:=rfl
theorem zVV{α:Type}(xs:List α)(i:Int):Mi.itA xs i=atI xs i:=rfl
theorem zWF{G:Hp}{ds:List Dt}{xs:List V}{i:Int}{d:Dt}(r:RepL G ds xs)(h:Mi.itA ds i=some d):∃x,atI xs i=some x/\Rep G d x:=by
 rw[zVV]at h;unfold atI at h ⊢;rw[r.length];cases e:ixN ds.length i with
 |none=>rw[e]at h;cases h
 |some j=>
  rw[e]at h;have h':ds[j]?=some d:=h;have hj:j<xs.length:=by rw[r.length];exact(qA2.mp h').1
  exact⟨xs[j],by simp[hj],zBJ r h' (by simp[hj])⟩
theorem zEE:ROp (rIxU Kc.K) Mi.ixD 0:=by
 intro mg E G H d e x y Q s h1 h2 p;cases e with
 |int i=>
  cases(show y=.int i from h2)
  cases d with
  |lst ds=>
   obtain⟨a,xs,rfl,ha,ra⟩:=h1;cases er:Mi.itA ds i with
   |none=>rw[Mi.ixD,er]at p;exact p.elim
   |some c=>
    rw[Mi.ixD,er]at p;obtain⟨v,e1,r1⟩:=zWF ra er;exact⟨xs,v,.inl (SqL.of (s _ _ ha)),e1,PostE.kept p (Ext.refl s) r1⟩
  |tup ds=>
   obtain⟨a,xs,rfl,ha,ra⟩:=h1;cases er:Mi.itA ds i with
   |none=>rw[Mi.ixD,er]at p;exact p.elim
   |some c=>
    rw[Mi.ixD,er]at p;obtain⟨v,e1,r1⟩:=zWF ra er;exact⟨xs,v,.inr (SqT.of (s _ _ ha)),e1,PostE.kept p (Ext.refl s) r1⟩
  |scr ns=>
   obtain⟨a,rfl,ha⟩:=h1;cases er:Mi.itA ns i with
   |none=>rw[Mi.ixD,er]at p;exact p.elim
   |some c=>
    rw[Mi.ixD,er]at p;refine⟨ns.map V.int,.int c,(zEO s ha).old,?_,PostE.kept p (Ext.refl s) rfl⟩;rw[zVV]at er;unfold atI at er ⊢;rw[qAm];cases e:ixN ns.length i with
    |none=>rw[e]at er;cases er
    |some j=>
     rw[e]at er;have er':ns[j]?=some c:=er
     show(ns.map V.int)[j]?=some (.int c)
     rw[qAf,er'];rfl
  |str z=>
   cases(show x=.str z from h1)
   rw[Mi.ixD]at p
   by_cases hz:z.length<=100000
   ·rw[if_pos hz]at p;cases er:Mi.itA z.cps.toList i with
    |none=>rw[er]at p;exact p.elim
    |some c=>rw[er]at p;exact⟨c,big' hz,er,PostE.kept p (Ext.refl s) rfl⟩
   ·rw[if_neg hz]at p;exact p.elim
  |_=>exact p.elim
 |_=>cases d<;>exact p.elim
theorem zDF{G:Hp}{d:Dt}{vs:List V}(h:RepL G [d] vs):∃x,vs=[x]/\Rep G d x:=by
 obtain⟨x,q,rfl,a,b⟩:=h
 cases(show q=[] from b)
 exact⟨x,rfl,a⟩
theorem zX4{G:Hp}{d e:Dt}{vs:List V}(h:RepL G [d,e] vs):∃x y,vs=[x,y]/\Rep G d x/\Rep G e y:=by
 obtain⟨x,q,rfl,a,b⟩:=h;obtain⟨y,rfl,c⟩:=zDF b;exact⟨x,y,rfl,a,c⟩
theorem zCC:CBi (zX5 Kc.K) Mi.lenD n:=by
 intro mg E G H ds vs Q s h p;cases ds with
 |nil=>exact p.elim
 |cons a0 r0=>
  cases r0 with
  |cons _ _=>cases a0<;>exact p.elim
  |nil=>
   cases a0 with
   |lst es=>
    obtain⟨x,rfl,a,xs,rfl,ha,ra⟩:=zDF h;exact⟨xs,.inl (SqL.of (s _ _ ha)),by rw[ra.length];exact PostE.val p (Ext.refl s) rfl rfl⟩
   |tup es=>
    obtain⟨x,rfl,a,xs,rfl,ha,ra⟩:=zDF h;exact⟨xs,.inr (SqT.of (s _ _ ha)),by rw[ra.length];exact PostE.val p (Ext.refl s) rfl rfl⟩
   |scr ns=>
    obtain⟨x,rfl,a,rfl,ha⟩:=zDF h;refine⟨ns.map V.int,(zEO s ha).old,?_⟩;rw[qAm];exact PostE.val p (Ext.refl s) rfl rfl
   |str z=>
    obtain⟨x,rfl,hx⟩:=zDF h
    cases(show x=.str z from hx)
    rw[Mi.lenD]at p
    by_cases hz:z.length<=100000
    ·rw[if_pos hz]at p;exact⟨big' hz,PostE.val p (Ext.refl s) rfl rfl⟩
    ·rw[if_neg hz]at p;exact p.elim
   |_=>exact p.elim
theorem zCP{G:Hp}:∀(ns:List Int),RepL G (ns.map Dt.int) (ns.map V.int)
 |[]=>rfl
 |_::r=>⟨_,_,rfl,rfl,zCP r⟩
theorem zMK:CBi (zHV Kc.K) Mi.listD 1:=by
 intro mg E G H ds vs Q s h p;cases ds with
 |nil=>exact p.elim
 |cons a0 r0=>
  cases r0 with
  |cons _ _=>cases a0<;>exact p.elim
  |nil=>
   cases a0 with
   |lst es=>
    obtain⟨x,rfl,a,xs,rfl,ha,ra⟩:=zDF h;exact .inl ⟨xs,.inl (SqL.of (s _ _ ha)),fun l hl=>PostE.lst p (Ext.refl s) ra hl⟩
   |tup es=>
    obtain⟨x,rfl,a,xs,rfl,ha,ra⟩:=zDF h;exact .inl ⟨xs,.inr (SqT.of (s _ _ ha)),fun l hl=>PostE.lst p (Ext.refl s) ra hl⟩
   |scr ns=>
    obtain⟨x,rfl,a,rfl,ha⟩:=zDF h;exact .inl ⟨ns.map V.int,(zEO s ha).old,fun l hl=>PostE.lst p (Ext.refl s) (zCP ns) hl⟩
   |_=>exact p.elim
theorem zN5{G:Hp}(lo:Int)(k:Nat):RepL G (Mi.nums lo k) (zD1 lo k):=by
 unfold Mi.nums zD1;refine zCY (by simp) fun q d x h1 h2=>?_
 rw[qAf]at h1 h2;cases e:(qA9 k)[q]? with
 |none=>rw[e]at h1;cases h1
 |some j=>rw[e]at h1 h2;cases h1;cases h2;rfl
theorem zFS{K:qA1}(A:DA mg E t m 0):DE mg E (tCB (zHV K) (zEC (tCB zLQ t) tNil)) (Mi.eBi Mi.rangeD m) 1:=by
 intro G H σ ρ Q s w p;refine A.step errE s w p fun ds vs G1 H1 S T _ fr o p1=>?_
 have p2:=PostE.from p1 fr.ext;have r:=o.repL;have s1:=fr.ext.in';have fin:∀(lo hi:Int),(-4611686018427387904<=lo/\lo<4611686018427387904/\-4611686018427387904<=hi/\hi<4611686018427387904)->hi-lo<=100000->PostE mg E G1 H1 1 (okR (.lst (Mi.nums lo (hi-lo).toNat))) Q ->
   ∀q,H1 q=none->zHV K [.ref q] (upd H1 q (.rng lo hi)) Q:=by
  intro lo hi hb hz pp q hq;refine .inr ⟨lo,hi,zAC,⟨by lia,by lia,by lia,by lia⟩,by lia,fun l hl=>?_⟩;have sn:=L2.same_new hq (.rng lo hi);exact PostE.lst pp (Ext.same s1 sn) (zN5 lo _) hl
 cases ds with
 |nil=>exact p2.elim
 |cons a0 r0=>
  cases a0 with
  |int i=>
   cases r0 with
   |nil=>
    obtain⟨x,rfl,hx⟩:=zDF r
    cases(show x=.int i from hx)
    rw[Mi.rangeD]at p2
    split at p2
    ·rename_i hz
     intro q hq;refine fin 0 i ⟨by decide,by decide,hz.1.1,hz.1.2⟩ (by lia) ?_ q hq;rw[Int.sub_zero];exact p2
    ·exact p2.elim
   |cons b0 r1=>
    cases r1 with
    |cons _ _=>cases b0<;>exact p2.elim
    |nil=>
     cases b0 with
     |int j=>
      obtain⟨x,y,rfl,hx,hy⟩:=zX4 r
      cases(show x=.int i from hx)
      cases(show y=.int j from hy)
      rw[Mi.rangeD]at p2
      split at p2
      ·rename_i hz
       exact fun q hq=>fin i j hz.1 hz.2 p2 q hq
      ·exact p2.elim
     |_=>exact p2.elim
  |_=>rcases r0 with _|⟨_,_|_⟩<;>exact p2.elim
end
section
variable[Kc]
def ItOk(J:It)(G:Hp)(ds:List Dt):Prop:=∀(i:Nat)(G1 H1:Hp),Same G G1->Same G1 H1->(i<ds.length->J.go i H1)/\(ds.length<=i->J.stop i H1)/\∀x H2 d,ds[i]?=some d->J.yld i H1 x H2->∃G2,Ext G1 H1 G2 H2/\Rep G2 d x
noncomputable def zSI(ind:Bool)(G:Hp):Hp:=if ind=true then(fun _=>none)else G
def zbP(mg:Str->Option Value)(E:XK)(G H:Hp)(ind:Bool)(r:R (List Dt))(Q:It->Hp->Prop):Prop:=match r with
 |none=>False
 |some (.error x)=>∀c da G' H',Ext G H G' H'->XRep mg x c da G' H'->E c da H'
 |some (.ok ds)=>∀J G' H',Ext G H G' H'->ItOk J (zSI ind G') ds->Q J H'
def DI(mg:Str->Option Value)(E:XK)(t:TI)(m:IM)(ind:Bool):Prop:=∀(G H:Hp)(σ:St)(ρ:Rh)(Q:It->Hp->Prop),Same G H->View G σ ρ->zbP mg E G H ind (m ρ) Q->t σ H Q
section
variable{mg:Str->Option Value}{E:XK}{n k l:Nat}{ta te:TE}{ma me:EM}{t:TA}{m:AM}{ind:Bool}
theorem errI{G H:Hp}{Q:It->Hp->Prop}:Err mg E G H (fun r=>zbP mg E G H ind r Q):=⟨fun h=>h,fun _ h=>h⟩
theorem errB{G H:Hp}{α β:Type}{P:R β->Prop}(e:Err mg E G H P)(g:α->R β):Err mg E G H (fun r=>P (zA2 r g)):=⟨fun h=>e.no h,fun x h=>e.er x h⟩
theorem DI.step{β:Type}{t:TI}{m:IM}(D:DI mg E t m ind){G H:Hp}{σ:St}{ρ:Rh}{Q:It->Hp->Prop}{P:R β->Prop}{f:List Dt->R β}(hE:Err mg E G H P)(s:Same G H)(w:View G σ ρ)(p:P (zA2 (m ρ) f))
  (h:∀ds J G' H',m ρ=okR ds->Ext G H G' H'->ItOk J (zSI ind G') ds->P (f ds)->Q J H'):t σ H Q:=by
 refine D G H σ ρ Q s w ?_;cases e:m ρ with
 |none=>rw[e]at p;exact hE.no p
 |some r=>
  rw[e]at p;cases r with
  |error x=>exact hE.er x p
  |ok ds=>exact fun J G' H' x i=>h ds J G' H' e x i p
theorem zVU{K:qA1}{G:Hp}{a:Addr}{xs:List V}{ds:List Dt}(ha:SqL K G a xs)(r:RepL G ds xs):ItOk (Itl K a) G ds:=by
 intro i G1 H1 s1 s2;have hS:SqL K H1 a xs:=(s1.trans s2).seq ha;refine⟨fun hi=>⟨xs,xs[i]'(by rw[r.length];exact hi),hS,by simp⟩,fun hi=>⟨xs,hS,by rw[r.length];exact hi⟩,fun x H2 d hd hy=>?_⟩;obtain⟨rfl,hy⟩:=hy;exact⟨G1,Ext.refl s2,Rep.mono s1 (zBJ r hd (hy xs hS))⟩
theorem zVT{K:qA1}{G:Hp}{a:Addr}{xs:List V}{ds:List Dt}(ha:SqT K G a xs)(r:RepL G ds xs):ItOk (Itt K a) G ds:=by
 intro i G1 H1 s1 s2;have hS:SqT K H1 a xs:=zK2 (s1.trans s2) ha;refine⟨fun hi=>⟨xs,xs[i]'(by rw[r.length];exact hi),hS,by simp⟩,fun hi=>⟨xs,hS,by rw[r.length];exact hi⟩,fun x H2 d hd hy=>?_⟩;obtain⟨rfl,hy⟩:=hy;exact⟨G1,Ext.refl s2,Rep.mono s1 (zBJ r hd (hy xs hS))⟩
theorem zaS{G:Hp}(lo:Int)(k:Nat):ItOk (Itr lo k) G (Mi.nums lo k):=by
 intro i G1 H1 s1 s2;have hl:(Mi.nums lo k).length=k:=by simp[Mi.nums]
 refine⟨fun hi=>by rw[hl]at hi;exact hi,fun hi=>by rw[hl]at hi;exact hi,fun x H2 d hd hy=>?_⟩;obtain⟨rfl,rfl⟩:=hy;refine⟨G1,Ext.refl s2,?_⟩;unfold Mi.nums at hd;rw[qAf]at hd;cases e:(qA9 k)[i]? with
 |none=>rw[e]at hd;cases hd
 |some j=>
  rw[e]at hd;cases hd;have hj:j=i:=by
   obtain⟨h1,h2⟩:=qA2.mp e;rw[qC0]at h2;exact h2.symm
  subst hj;rfl
theorem zH9(A:DA mg E t m 0):DI mg E (zaX t) (Mi.iR1 m) true:=by
 intro G H σ ρ Q s w p;refine A.step errI s w p fun ds vs G1 H1 S T _ fr o p1=>?_
 have r:=o.repL;cases ds with
 |nil=>exact qA8 p1
 |cons hd1 tl1=>
  cases hd1 with
  |int j=>
   cases tl1 with
   |nil=>
    obtain⟨x,rfl,hx⟩:=zDF r
    cases(show x=.int j from hx)
    dsimp only at p1
    split at p1
    ·rename_i hz
     exact⟨j,rfl,by lia,by lia,p1 _ G1 H1 fr.ext (zaS 0 _)⟩
    ·exact p1.elim
   |cons _ _=>exact qA8 p1
  |_=>exact qA8 p1
theorem zKW:∀(ds:List Dt)(n:Nat),(Mi.enumD n ds).length=ds.length
 |[],_=>rfl
 |_::r,n=>by rw[Mi.enumD,qAx,qAx,zKW r]
theorem zKX:∀(ds:List Dt)(n i:Nat)(d:Dt),(Mi.enumD n ds)[i]?=some d->∃e,ds[i]?=some e/\d=.tup [.int ((n+i:Nat):Int),e]
 |[],_,_,_,h=>by simp[Mi.enumD]at h
 |x::r,n,0,d,h=>by simp[Mi.enumD]at h;exact⟨x,by simp,by rw[<- h];rfl⟩
 |x::r,n,i+1,d,h=>by
  rw[Mi.enumD]at h;obtain⟨e,h1,h2⟩:=zKX r (n+1) i d (by simpa using h);exact⟨e,by simpa using h1,by rw[h2,show n+1+i=n+(i+1) by lia]⟩
theorem Ext.new{G H:Hp}(s:Same G H){T:Addr}(hT:H T=none)(o:HO):Ext G H (upd G T o) (upd H T o):=by
 refine⟨L2.same_new (s.free hT) o,L2.same_new hT o,fun b u e=>?_,fun b hb=>zAB fun z=>hb (z▸hT)⟩
 by_cases z:b=T
 ·subst z;rw[zAC]at e ⊢;exact e
 ·rw[zAB z]at e ⊢;exact s _ _ e
theorem zaT{K:qA1}{G:Hp}{a:Addr}{xs:List V}{ds:List Dt}(ha:G a=some (.lst xs))(r:RepL G ds xs):ItOk (Ite K a) G (Mi.enumD 0 ds):=by
 intro i G1 H1 s1 s2;have hS:SqL K H1 a xs:=SqL.of (s2 _ _ (s1 _ _ ha));rw[zKW];refine⟨fun hi=>⟨xs,xs[i]'(by rw[r.length];exact hi),hS,by simp⟩,fun hi=>⟨xs,hS,by rw[r.length];exact hi⟩,fun x H2 d hd hy=>?_⟩;obtain⟨T,y,rfl,hT,rfl,hy⟩:=hy;obtain⟨e,h1,rfl⟩:=zKX ds 0 i d hd;have x1:=Ext.new s2 hT (.tup [.int i,y]);refine⟨_,x1,T,_,rfl,zAC,_,_,rfl,?_,_,_,rfl,Rep.mono (s1.trans x1.g) (zBJ r h1 (hy xs hS)),rfl⟩;show V.int (i:Int)=.int ((0+i:Nat):Int);rw[qBj]
theorem zbB{K:qA1}(A:DA mg E t m 0):DI mg E (zYB K t) (Mi.iEn m) false:=by
 intro G H σ ρ Q s w p;refine A.step errI s w p fun ds vs G1 H1 S T _ fr o p1=>?_
 have r:=o.repL;cases ds with
 |nil=>exact qA8 p1
 |cons hd1 tl1=>
  cases hd1 with
  |lst es=>
   cases tl1 with
   |nil=>
    obtain⟨x,rfl,a,xs,rfl,ha,ra⟩:=zDF r;exact⟨⟨xs,SqL.of (fr.ext.in' _ _ ha)⟩,p1 _ G1 H1 fr.ext (zaT ha ra)⟩
   |cons _ _=>exact qA8 p1
  |_=>exact qA8 p1
noncomputable def zGI:St->List (Nat×V)->St
 |σ,[]=>σ
 |σ,(i,v)::r=>zGI (σ.set i (some v)) r
inductive BsRep(G:Hp):List (Nat×Dt)->List (Nat×V)->Prop
 |nil:BsRep G [] []
 |cons {i d v bs ws}:Rep G d v->BsRep G bs ws->BsRep G ((i,d)::bs) ((i,v)::ws)
theorem View.set{G:Hp}{σ:St}{ρ:Rh}{i:Nat}{d:Dt}{v:V}(w:View G σ ρ)(r:Rep G d v):View G (σ.set i (some v)) (ρ.set i (some d)):=by
 refine⟨by simp[w.len],fun j e h=>?_,w.tab⟩;have hj:j<ρ.length:=by
  have:=(qA2.mp h).1
  simpa using this
 by_cases z:i=j
 ·subst z;rw[qAk hj]at h;cases h;exact⟨v,qAk (by rw[<- w.len];exact hj),r⟩
 ·rw[qAj z]at h;obtain⟨u,h1,h2⟩:=w.at j e h;exact⟨u,by rw[qAj z];exact h1,h2⟩
theorem View.sets{G:Hp}{bs ws}(h:BsRep G bs ws):∀{σ:St}{ρ:Rh},View G σ ρ->View G (zGI σ ws) (zAK ρ bs):=by
 induction h with
 |nil=>exact fun w=>w
 |cons r _ ih=>exact fun w=>ih (w.set r)
def TgOk(g:TG)(tg:Tg):Prop:=∀(G H:Hp)(σ:St)(d:Dt)(x:V)(bs:List (Nat×Dt))(Q:St->Hp->Prop),Same G H->Rep G d x->zAM tg d=some bs->(∀ws,BsRep G bs ws->Q (zGI σ ws) H)->g x σ H Q
def zUP(g:TGs)(is:List Nat):Prop:=∀(G H:Hp)(σ:St)(ds:List Dt)(xs:List V)(Q:St->Hp->Prop),RepL G ds xs->ds.length=is.length->(∀ws,BsRep G (is.zip ds) ws->Q (zGI σ ws) H)->g xs σ H Q
theorem zB7(i:Nat):TgOk (zDZ i) (.one i):=by
 intro G H σ d x bs Q s r e h;cases e;exact h [(i,x)] (.cons r .nil)
theorem zPP:zUP gNil []:=by
 intro G H σ ds xs Q r hl h;cases ds with
 |nil=>cases(show xs=[] from r);exact⟨rfl,h [] .nil⟩
 |cons _ _=>simp at hl
theorem zG1(i:Nat){g:TGs}{is:List Nat}(hg:zUP g is):zUP (zb0 (zDZ i) g) (i::is):=by
 intro G H σ ds xs Q r hl h;cases ds with
 |nil=>simp at hl
 |cons d ds=>
  obtain⟨x,q,rfl,a,b⟩:=r;exact⟨x,q,rfl,hg G H _ ds q Q b (by simpa using hl) fun ws hw=>h ((i,x)::ws) (.cons a hw)⟩
theorem zUU{K:qA1}{g:TGs}{is:List Nat}{k:Nat}(hg:zUP g is)(hk:is.length=k):TgOk (gTup K k g) (.tup is):=by
 intro G H σ d x bs Q s r e h;cases d with
 |tup ds=>
  obtain⟨a,xs,rfl,ha,ra⟩:=r;rw[zAM]at e
  by_cases hz:ds.length=is.length
  ·rw[if_pos hz]at e;cases e;exact⟨a,xs,rfl,SqT.of (s _ _ ha),by rw[ra.length,hz,hk],hg G H σ ds xs Q ra hz h⟩
  ·rw[if_neg hz]at e;cases e
 |_=>simp[zAM]at e
theorem zK1:∀(ws:List (Nat×V))(σ own:St),(∀p∈ws,σ.length<=p.1)->∃own':St,own'.length=own.length/\zGI (σ++own) ws=σ++own'
 |[],σ,own,_=>⟨own,rfl,rfl⟩
 |(i,v)::r,σ,own,h=>by
  have hi:σ.length<=i:=h (i,v) (by simp);rw[zGI,qF1 _ _ hi];obtain⟨o,h1,h2⟩:=zK1 r σ (own.set (i-σ.length) (some v)) fun p hp=>h p (by simp[hp])
  exact⟨o,by rw[h1,qEx],h2⟩
theorem BsRep.idx{G:Hp}{bs ws}(h:BsRep G bs ws):ws.map (·.1)=bs.map (·.1):=by
 induction h with
 |nil=>rfl
 |cons _ _ ih=>simp[ih]
theorem zSH{tg:Tg}{d:Dt}{bs:List (Nat×Dt)}(h:zAM tg d=some bs):∀i∈bs.map (·.1),i∈tg.idx:=by
 cases tg with
 |one i=>cases h;simp[Tg.idx]
 |tup is=>
  cases d with
  |tup ds=>
   rw[zAM]at h
   split at h
   ·cases h;intro i hi;obtain⟨p,hp,e⟩:=qAb.mp hi;rw[<- e];obtain⟨a,b⟩:=p;exact(qCw hp).1
   ·cases h
  |_=>simp[zAM]at h
theorem zCB{wi:TI}{g:TG}{tif:TT}{it:IM}{tg:Tg}{c:TM}(I:DI mg E wi it ind)(hT:TgOk g tg)(C:DT mg E tif c)(B:DE mg E te me n):DE mg E (zWO wi k g tif te) (Mi.eComp it k tg c me) (n+1):=by
 intro G H σ ρ Q s w p;refine I.step errE s w p fun ds J G1 H1 _ x1 io p1=>?_
 by_cases hz:ds.length<=100000/\(tg.idx.all fun i=>decide (ρ.length<=i))=true
 case neg=>rw[if_neg hz]at p1;exact p1.elim
 rw[if_pos hz]at p1;obtain⟨hz,hix⟩:=hz;have hb1:Same (zSI ind G1) G1:=by
  unfold zSI
  split
  ·exact fun b o e=>by cases e
  ·exact Same.refl _
 refine⟨fun i m acc H'=>m=ds.length-i/\i<=ds.length/\∃G' as S T,Fr G H G' H' S/\Same G1 G'/\OwnA G' H' n S as acc T/\as.length<=i/\PostE mg E G H (n+1) (zA2 (Mi.compGo ρ k tg c me (ds.drop i) as) fun es=>okR (.lst es)) Q,
  ⟨_,rfl,qAs _,G1,[],fun _=>False,fun _ _=>False,⟨x1,fun _ z=>z.elim⟩,Same.refl _,⟨rfl,fun q d x h=>by simp at h,fun _ _ _ z=>z.elim,fun _ _ z=>z.elim⟩,qA7 _,by rw[qE2];exact p1⟩,?_⟩
 rintro i m acc H' ⟨rfl,hi,G',as,S,T,fr,sg,o,hl,p⟩
 obtain⟨j1,j2,j3⟩:=io i G' H' (hb1.trans sg) fr.ext.in'
 by_cases hlt:i<ds.length
 ·refine .inr ⟨j1 hlt,by rw[o.len];exact L2.big (by lia),fun acc' H''=>ds.length-(i+1)=ds.length-(i+1)/\i+1<=ds.length/\∃G' as S T,Fr G H G' H'' S/\Same G1 G'/\OwnA G' H'' n S as acc' T/\as.length<=i+1/\PostE mg E G H (n+1) (zA2 (Mi.compGo ρ k tg c me (ds.drop (i+1)) as) fun es=>okR (.lst es)) Q,
   fun acc' H'' q=>⟨ds.length-(i+1),by lia,q⟩,fun x H2 hy=>?_⟩
  have hd:ds[i]?=some ds[i]:=qA5 hlt;obtain⟨G2,x2,r2⟩:=j3 x H2 ds[i] hd hy;rw[qC1 hlt,Mi.compGo]at p;cases eb:zAM tg ds[i]with
  |none=>rw[eb]at p;exact p.elim
  |some bs=>
   rw[eb]at p;dsimp only at p;refine hT G2 H2 _ _ x bs _ x2.in' r2 eb fun ws hb=>?_
   have hsl:∀q∈ws,σ.length<=q.1:=fun q hq=>by
    have h1:q.1∈bs.map (·.1):=by rw[<- hb.idx];exact List.mem_map_of_mem hq
    have h2:=qBo.mp hix q.1 (zSH eb q.1 h1);rw[<- w.len];exact of_decide_eq_true h2
   obtain⟨own,ho1,ho2⟩:=zK1 ws σ (qA4 k none) hsl;refine⟨own,by rw[ho1,qD7],ho2,?_⟩;have x02:=fr.ext.trans x2;have w2:View G2 (zGI (σ++qA4 k none) ws) (zAK (ρ++qA4 k none) bs):=by
    refine View.sets hb ⟨by simp[w.len],fun j d h=>?_,w.tab.trans x02.g⟩
    by_cases hj:j<ρ.length
    ·rw[qAc hj]at h;obtain⟨v,a,b⟩:=w.at j d h;exact⟨v,by rw[qAc (by rw[<- w.len];exact hj)];exact a,Rep.mono x02.g b⟩
    ·rw[qAe (by lia),qBl]at h
     split at h<;>cases h
   refine C.step ((errB errE _).from x02) x2.in' w2 p fun b H3 _ s3 p3=>?_
   have x3:Ext G2 H2 G2 H3:=Ext.same x2.in' s3;have x03:=x02.trans x3;have newS:∀a,S a->H a=none/\G2 a=none/\H3 a≠none:=fun a ha=>by
    obtain⟨n1,n2,n3⟩:=fr.new a ha;exact⟨n1,(x2.old a n3).trans n2,s3.some (x2.h.some n3)⟩
   have own3:OwnA G2 H3 n S as acc T:=⟨o.len,fun q d y h1 h2=>(o.own q d y h1 h2).mono x2.g (x2.h.trans s3),o.dis,o.sub⟩
   cases b with
   |false=>exact⟨rfl,hlt,G2,as,S,T,⟨x03,newS⟩,sg.trans x2.g,own3,by lia,p3⟩
   |true=>
    refine B.step ((errB errE _).from x03) x3.in' w2 p3 fun e v G4 H4 S4 _ fr4 o4 p4=>?_
    have ap:∀q b,T q b->S4 b->False:=fun q b h1 h2=>(newS b (o.sub q b h1)).2.2 (fr4.new b h2).1
    refine⟨rfl,hlt,G4,as++[e],fun a=>S a\/S4 a,fun q b=>(q<as.length/\T q b)\/(q=as.length/\S4 b),⟨x03.trans fr4.ext,fun a ha=>?_⟩,sg.trans (x2.g.trans fr4.ext.g),⟨by simp[o.len],fun q d y h1 h2=>?_,fun q r b h1 h2=>?_,fun q b h=>?_⟩,by simp;lia,p4⟩
    ·rcases ha with ha|ha
     ·obtain⟨n1,n2,n3⟩:=newS a ha;exact⟨n1,(fr4.ext.old a n3).trans n2,fr4.ext.h.some n3⟩
     ·obtain⟨n1,n2,n3⟩:=fr4.new a ha;exact⟨x03.h.free n1,n2,n3⟩
    ·by_cases hq:q<as.length
     ·rw[qAc hq]at h1;rw[qAc (by rw[o.len];exact hq)]at h2;exact((own3.own q d y h1 h2).mono fr4.ext.g fr4.ext.h).sub fun b z=>.inl ⟨hq,z⟩
     ·rw[qAe (by lia)]at h1;rw[qAe (by rw[o.len];lia),o.len]at h2;have hq0:q-as.length=0:=by
       have:=(qA2.mp h1).1
       simp at this;lia
      rw[hq0]at h1 h2;simp at h1 h2;subst h1;subst h2;exact o4.sub fun b z=>.inr ⟨by lia,z⟩
    ·rcases h1 with⟨a1,t1⟩|⟨a1,t1⟩<;>rcases h2 with⟨a2,t2⟩|⟨a2,t2⟩
     ·exact o.dis q r b t1 t2
     ·exact(ap q b t1 t2).elim
     ·exact(ap r b t2 t1).elim
     ·lia
    ·rcases h with⟨_,z⟩|⟨_,z⟩
     ·exact .inl (o.sub q b z)
     ·exact .inr z
 ·have e:i=ds.length:=by lia
  subst e;refine .inl ⟨j2 (qA7 _),fun D hD=>?_⟩;rw[qEp,Mi.compGo]at p;exact p (.ref D) G' _ _ (fr.add hD _) ⟨D,acc,T,rfl,zAC,o.kids (fun b hb=>(fr.new b hb).2.2) hD _⟩
end
end
section
variable[Kc]
structure Sat(G0 H0 S0:Hp)(σ:St)(ρ:Ro)(G H:Hp)(As:Nat->Addr->Prop):Prop where
 ext:Ext G0 H0 G H
 stb:Same S0 G
 tab:Same (tabK Kc.K) G0
 len:ρ.length=σ.length
 «at»:∀(i:Nat)(d:Dt)(n:Nat),ρ[i]?=some (some (d,n))->∃v,σ[i]?=some (some v)/\Own G H n (As i) d v
 dis:∀i j a,As i a->As j a->i=j
 new:∀i a,As i a->H0 a=none/\G a=none/\H a≠none
section
variable{G0 H0 S0:Hp}{σ:St}{ρ:Ro}{G H:Hp}{As:Nat->Addr->Prop}
theorem Sat.grow(a:Sat G0 H0 S0 σ ρ G H As){H':Hp}(s:Same H H'):Sat G0 H0 S0 σ ρ G H' As:=
 ⟨a.ext.trans (Ext.same a.ext.in' s),a.stb,a.tab,a.len,fun i d n e=>let⟨v,h1,h2⟩:=a.at i d n e;⟨v,h1,h2.mono (Same.refl _) s⟩,a.dis,fun i b h=>let⟨n1,n2,n3⟩:=a.new i b h;⟨n1,n2,s.some n3⟩⟩
theorem Sat.wider(a:Sat G0 H0 S0 σ ρ G H As){G' H':Hp}(x:Ext G H G' H'):Sat G0 H0 S0 σ ρ G' H' As:=
 ⟨a.ext.trans x,a.stb.trans x.g,a.tab,a.len,fun i d n e=>let⟨v,h1,h2⟩:=a.at i d n e;⟨v,h1,h2.mono x.g x.h⟩,a.dis,fun i b h=>let⟨n1,n2,n3⟩:=a.new i b h;⟨n1,(x.old b n3).trans n2,x.h.some n3⟩⟩
theorem Sat.full(a:Sat G0 H0 S0 σ ρ G H As):∃J,Ext G0 H0 J H/\Same G J/\View J σ (full ρ):=by
 obtain⟨s1,s2⟩:=zC8 (S:=fun b=>∃i,As i b) a.ext.in';refine⟨over G H fun b=>∃i,As i b,⟨a.ext.g.trans s1,a.ext.h,s2,fun b hb=>?_⟩,s1,by simp[Mi.full,a.len],fun i d e=>?_,a.tab.trans (a.ext.g.trans s1)⟩
 ·have z:¬ ∃i,As i b:=fun⟨i,z⟩=>hb (a.new i b z).1
  rw[zBK z];exact a.ext.old b hb
 ·unfold Mi.full at e;rw[qAf]at e;cases e1:ρ[i]? with
  |none=>rw[e1]at e;cases e
  |some o=>
   rw[e1]at e;cases o with
   |none=>cases e
   |some sl=>
    obtain⟨d',n⟩:=sl;cases e;obtain⟨v,h1,h2⟩:=a.at i _ n e1;exact⟨v,h1,h2.rep s1 fun b o hb e=>by rw[zDG ⟨i,hb⟩];exact e⟩
theorem Sat.put(a:Sat G0 H0 S0 σ ρ G H As){i n:Nat}{d:Dt}{v:V}{S:Addr->Prop}(o:Own G H n S d v)(hS:∀b,S b->H0 b=none/\G b=none/\H b≠none)(hd:∀j b,j≠i->As j b->S b->False) :
  Sat G0 H0 S0 (σ.set i (some v)) (ρ.set i (some (d,n))) G H (fun j=>if j=i then S else As j):=by
 refine⟨a.ext,a.stb,a.tab,by simp[a.len],fun j e k h=>?_,fun j l b h1 h2=>?_,fun j b h=>?_⟩
 ·have hj:j<ρ.length:=by
   have:=(qA2.mp h).1
   simpa using this
  by_cases z:i=j
  ·subst z;rw[qAk hj]at h;cases h;exact⟨v,qAk (by rw[<- a.len];exact hj),by rw[if_pos rfl];exact o⟩
  ·rw[qAj z]at h;obtain⟨u,h1,h2⟩:=a.at j e k h;exact⟨u,by rw[qAj z];exact h1,by rw[if_neg (fun q=>z q.symm)];exact h2⟩
 ·try dsimp only at h1 h2
  by_cases z1:j=i
  ·by_cases z2:l=i
   ·rw[z1,z2]
   ·rw[if_pos z1]at h1;rw[if_neg z2]at h2;exact(hd l b z2 h2 h1).elim
  ·by_cases z2:l=i
   ·rw[if_neg z1]at h1;rw[if_pos z2]at h2;exact(hd j b z1 h1 h2).elim
   ·rw[if_neg z1]at h1;rw[if_neg z2]at h2;exact a.dis j l b h1 h2
 ·try dsimp only at h
  by_cases z1:j=i
  ·rw[if_pos z1]at h;exact hS b h
  ·rw[if_neg z1]at h;exact a.new j b h
theorem Sat.set(a:Sat G0 H0 S0 σ ρ G H As){H':Hp}{i n:Nat}{d:Dt}{v:V}{S:Addr->Prop}(s:Same H H')(o:Own G H' n S d v)(hS:∀b,S b->H b=none/\G b=none/\H' b≠none) :
  Sat G0 H0 S0 (σ.set i (some v)) (ρ.set i (some (d,n))) G H' (fun j=>if j=i then S else As j):=
 (a.grow s).put o (fun b hb=>⟨a.ext.h.free (hS b hb).1,(hS b hb).2⟩) fun j b _ h1 h2=>(a.new j b h1).2.2 (hS b h2).1
theorem Sat.frz1(a:Sat G0 H0 S0 σ ρ G H As)(i:Nat):∃G1 As1,Sat G0 H0 S0 σ (Mi.frz1 i ρ) G1 H As1:=by
 unfold Mi.frz1;cases e1:ρ[i]? with
 |none=>exact⟨G,As,a⟩
 |some o=>
  cases o with
  |none=>exact⟨G,As,a⟩
  |some sl=>
   obtain⟨d,n⟩:=sl;dsimp only;obtain⟨v,h1,h2⟩:=a.at i d n e1;obtain⟨s1,s2⟩:=zC8 (S:=As i) a.ext.in';have x:Ext G0 H0 (over G H (As i)) H:=⟨a.ext.g.trans s1,a.ext.h,s2,fun b hb=>by
    have z:¬As i b:=fun z=>hb (a.new i b z).1
    rw[zBK z];exact a.ext.old b hb⟩
   have hv:(σ.set i (some v))=σ:=by
    have hi:i<σ.length:=(qA2.mp h1).1;have he:=(qA2.mp h1).2;rw[<- he,qF2]
   have b:Sat G0 H0 S0 σ (ρ.set i (some (d,0))) (over G H (As i)) H (fun j b=>j≠i/\As j b):=by
    refine⟨x,a.stb.trans s1,a.tab,by simp[a.len],fun j e k h=>?_,fun j l b p q=>a.dis j l b p.2 q.2,fun j b p=>?_⟩
    ·have hj:j<ρ.length:=by
      have:=(qA2.mp h).1
      simpa using this
     by_cases z:i=j
     ·subst z;rw[qAk hj]at h;cases h;exact⟨v,h1,h2.rep s1 fun b o hb e=>by rw[zDG hb];exact e⟩
     ·rw[qAj z]at h;obtain⟨u,q1,q2⟩:=a.at j e k h;exact⟨u,q1,(q2.mono s1 (Same.refl _)).sub fun b hb=>⟨fun q=>z q.symm,hb⟩⟩
    ·obtain⟨n1,n2,n3⟩:=a.new j b p.2;have z:¬As i b:=fun z=>p.1 (a.dis j i b p.2 z)
     exact⟨n1,by rw[zBK z];exact n2,n3⟩
   exact⟨_,_,b⟩
theorem Sat.frzAt:∀(vs:List Nat){ρ:Ro}{G:Hp}{As:Nat->Addr->Prop},Sat G0 H0 S0 σ ρ G H As->∃G1 As1,Sat G0 H0 S0 σ (Mi.frzAt vs ρ) G1 H As1
 |[],_,_,_,a=>⟨_,_,a⟩
 |i::r,_,_,_,a=>by
  obtain⟨G1,As1,b⟩:=a.frz1 i;exact Sat.frzAt r b
theorem Sat.frz(a:Sat G0 H0 S0 σ ρ G H As):View G σ (Mi.frz ρ):=by
 refine⟨by simp[Mi.frz,a.len],fun i d e=>?_,a.tab.trans a.ext.g⟩;unfold Mi.frz at e;rw[qAf]at e;cases e1:ρ[i]? with
 |none=>rw[e1]at e;cases e
 |some o=>
  rw[e1]at e;cases o with
  |none=>cases e
  |some sl=>
   obtain⟨d',n⟩:=sl;obtain⟨v,h1,h2⟩:=a.at i d' n e1;simp only[Option.map_some,qHs]at e
   split at e
   ·rename_i hz
    cases e
    rcases hz with hz|hz
    ·subst hz;exact⟨v,h1,h2⟩
    ·exact⟨v,h1,Own.scalar (k:=0) (G2:=G) (H2:=H) (S2:=fun _=>False) h2 hz⟩
   ·cases e
theorem Sat.store(a:Sat G0 H0 S0 σ ρ G H As){i n:Nat}{d:Dt}{v:V}{p:Addr}{o:HO}{S:Addr->Prop}(hp:As i p)(hv:σ[i]?=some (some v))(w:Own G (upd H p o) n S d v)
  (hS:∀b,S b->As i b\/(H0 b=none/\G b=none/\H b≠none/\∀j,¬As j b)):Sat G0 H0 S0 σ (ρ.set i (some (d,n))) G (upd H p o) (fun j=>if j=i then S else As j):=by
 obtain⟨p1,p2,p3⟩:=a.new i p hp;have hn:∀b,H b≠none->upd H p o b≠none:=fun b hb=>by
  by_cases z:b=p
  ·subst z;rw[zAC];simp
  ·rw[zAB z];exact hb
 refine⟨⟨a.ext.g,L2.Same.upd a.ext.h p1 o,L2.Same.upd a.ext.in' p2 o,a.ext.old⟩,a.stb,a.tab,by simp[a.len],fun j e k h=>?_,fun j l b h1 h2=>?_,fun j b h=>?_⟩
 ·have hj:j<ρ.length:=by
   have:=(qA2.mp h).1
   simpa using this
  by_cases z:i=j
  ·subst z;rw[qAk hj]at h;cases h;exact⟨v,hv,by rw[if_pos rfl];exact w⟩
  ·rw[qAj z]at h;obtain⟨u,h1,h2⟩:=a.at j e k h;exact⟨u,h1,by rw[if_neg (fun q=>z q.symm)];exact h2.upd fun q=>z (a.dis i j p hp q)⟩
 ·have key:∀j b,j≠i->As j b->S b->False:=fun j b hj h1 h2=>by
   rcases hS b h2 with q|⟨_,_,_,q⟩
   ·exact hj (a.dis j i b h1 q)
   ·exact q j h1
  try dsimp only at h1 h2
  by_cases z1:j=i
  ·by_cases z2:l=i
   ·rw[z1,z2]
   ·rw[if_pos z1]at h1;rw[if_neg z2]at h2;exact(key l b z2 h2 h1).elim
  ·by_cases z2:l=i
   ·rw[if_neg z1]at h1;rw[if_pos z2]at h2;exact(key j b z1 h1 h2).elim
   ·rw[if_neg z1]at h1;rw[if_neg z2]at h2;exact a.dis j l b h1 h2
 ·try dsimp only at h
  by_cases z1:j=i
  ·rw[if_pos z1]at h
   rcases hS b h with q|⟨q1,q2,q3,_⟩
   ·obtain⟨n1,n2,n3⟩:=a.new i b q;exact⟨n1,n2,hn b n3⟩
   ·exact⟨q1,q2,hn b q3⟩
  ·rw[if_neg z1]at h;obtain⟨n1,n2,n3⟩:=a.new j b h;exact⟨n1,n2,hn b n3⟩
end
def zCW(mg:Str->Option Value)(E:XK)(G0 H0 S0:Hp)(L:Nat)(r:R Out)(D:Ends):Prop:=match r with
 |none=>False
 |some (.error x)=>∀c da G' H',Ext G0 H0 G' H'->XRep mg x c da G' H'->E c da H'
 |some (.ok (.nx ρ))=>∀σ G H As,Sat G0 H0 S0 σ ρ G H As->D.nx σ H
 |some (.ok (.bk ρ))=>∀σ G H As,Sat G0 H0 S0 σ ρ G H As->D.bk σ H
 |some (.ok (.ct ρ))=>∀σ G H As,Sat G0 H0 S0 σ ρ G H As->D.ct σ H
 |some (.ok (.rt d))=>∀v G H S,Fr G0 H0 G H S->Own G H L S d v->D.rt v H
def DS(mg:Str->Option Value)(E:XK)(L:Nat)(t:TS)(m:SM):Prop:=∀(G0 H0 S0:Hp)(σ:St)(ρ:Ro)(G H:Hp)(As:Nat->Addr->Prop)(D:Ends),Sat G0 H0 S0 σ ρ G H As->zCW mg E G0 H0 S0 L (m ρ) D->t D σ H
section
variable{mg:Str->Option Value}{E:XK}{L n k l:Nat}{te ta tb:TE}{e ea eb:EM}{t u:TS}{m m':SM}
theorem errS{G0 H0 S0:Hp}{D:Ends}:Err mg E G0 H0 (fun r=>zCW mg E G0 H0 S0 L r D):=⟨fun h=>h,fun _ h=>h⟩
theorem zDO:DS mg E L zZ5 Mi.sNil:=fun G0 H0 S0 σ ρ G H As D a p=>p σ G H As a
theorem zAI(A:DS mg E L t m)(B:DS mg E L u m'):DS mg E L (tSeq t u) (Mi.sSeq m m'):=by
 intro G0 H0 S0 σ ρ G H As D a p;refine A G0 H0 S0 σ ρ G H As _ a ?_;unfold Mi.sSeq at p;cases e:m ρ with
 |none=>rw[e]at p;exact p
 |some r=>
  rw[e]at p;cases r with
  |error x=>exact p
  |ok o=>
   cases o with
   |nx ρ'=>exact fun σ' G' H' As' a'=>B G0 H0 S0 σ' ρ' G' H' As' D a' p
   |rt d=>exact p
   |bk ρ'=>exact p
   |ct ρ'=>exact p
theorem zHO{tc:TT}{c:TM}(C:DT mg E tc c)(A:DS mg E L t m)(B:DS mg E L u m'):DS mg E L (tIfS tc t u) (Mi.sIf c m m'):=by
 intro G0 H0 S0 σ ρ G H As D a p;obtain⟨J,x,s,w⟩:=a.full;refine C.step (errS.from x) x.in' w p fun b H' _ sH p1=>?_
 cases b with
 |true=>exact A G0 H0 S0 σ ρ G H' As D (a.grow sH) p1
 |false=>exact B G0 H0 S0 σ ρ G H' As D (a.grow sH) p1
theorem whole{G0 H0 S0:Hp}{σ:St}{ρ:Ro}{G H J G1 H1:Hp}{As:Nat->Addr->Prop}{S:Addr->Prop}{d:Dt}{v:V}(a:Sat G0 H0 S0 σ ρ G H As)(s:Same G J)(fr:Fr J H G1 H1 S)(o:Own G1 H1 n S d v)(hn:n<1000)(hd:d.dep<=n)(hk:d.dep<=k) :
  Own G H1 k S d v/\∀b,S b->H b=none/\G b=none/\H1 b≠none:=
 ⟨o.at hd hk hn,fun b hb=>let⟨n1,n2,n3⟩:=fr.new b hb;⟨n1,a.ext.in'.free n1,n3⟩⟩
theorem zAP{i:Nat}(vs:List Nat)(A:DE mg E te e n)(hn:n<1000:=by decide):DS mg E L (tAsg te (zDZ i)) (Mi.sSet i n vs e):=by
 intro G0 H0 S0 σ ρ G H As D a p;obtain⟨J,x,s,w⟩:=a.full;unfold Mi.sSet at p;cases ee:e (full ρ)with
 |none=>rw[ee]at p;exact p.elim
 |some r=>
  cases r with
  |error y=>exact A.step (errS.from x) x.in' w p fun d v G1 H1 S e1 fr o p1=>by rw[ee]at e1;cases e1
  |ok d=>
   by_cases hd:d.dep<=n
   ·refine A.step (errS.from x) x.in' w p fun d' v G1 H1 S e1 fr o p1=>?_
    rw[ee]at e1;cases e1;rw[if_pos hd]at p1;obtain⟨q1,q2⟩:=whole (k:=n) a s fr o hn hd hd;exact p1 _ G H1 _ (a.set fr.ext.h q1 q2)
   ·rw[ee]at p;have p':zCW mg E G0 H0 S0 L (zA2 (e (frz (frzAt vs ρ))) fun d'=>okR (.nx ((frzAt vs ρ).set i (some (d',n))))) D:=by
     have p2:zCW mg E G0 H0 S0 L (if d.dep<=n then okR (.nx (ρ.set i (some (d,n))))else zA2 (e (frz (frzAt vs ρ))) fun d'=>okR (.nx ((frzAt vs ρ).set i (some (d',n))))) D:=p;rw[if_neg hd]at p2;exact p2
    obtain⟨G1,As1,a1⟩:=Sat.frzAt vs a;refine A.step (errS.from a1.ext) a1.ext.in' a1.frz p' fun d' v G2 H2 S _ fr o p1=>?_
    exact p1 _ G2 H2 _ ((a1.wider fr.ext).put o (fun b hb=>let⟨n1,n2,n3⟩:=fr.new b hb;⟨a1.ext.h.free n1,n2,n3⟩) fun j b _ h1 h2=>(a1.new j b h1).2.2 (fr.new b h2).1)
theorem zC3(vs:List Nat)(A:DE mg E te e n)(hn:n<1000:=by decide):DS mg E L (tRet te) (Mi.sRet L n vs e):=by
 intro G0 H0 S0 σ ρ G H As D a p;obtain⟨J,x,s,w⟩:=a.full;unfold Mi.sRet at p;cases ee:e (full ρ)with
 |none=>rw[ee]at p;exact p.elim
 |some r=>
  cases r with
  |error y=>exact A.step (errS.from x) x.in' w p fun d v G1 H1 S e1 fr o p1=>by rw[ee]at e1;cases e1
  |ok d=>
   by_cases hd:d.dep<=n/\d.dep<=L
   ·refine A.step (errS.from x) x.in' w p fun d' v G1 H1 S e1 fr o p1=>?_
    rw[ee]at e1;cases e1;rw[if_pos hd]at p1;exact p1 v G1 H1 S (Fr.from x fr) (o.at hd.1 hd.2 hn)
   ·rw[ee]at p;have p2:zCW mg E G0 H0 S0 L (if d.dep<=n/\d.dep<=L then okR (.rt d)else if n=L then zA2 (e (frz (frzAt vs ρ))) fun d'=>okR (.rt d')else none) D:=p;rw[if_neg hd]at p2
    by_cases hl:n=L
    ·rw[if_pos hl]at p2;subst hl;obtain⟨G1,As1,a1⟩:=Sat.frzAt vs a;refine A.step (errS.from a1.ext) a1.ext.in' a1.frz p2 fun d' v G2 H2 S _ fr o p1=>?_
     exact p1 v G2 H2 S (Fr.from a1.ext fr) o
    ·rw[if_neg hl]at p2;exact p2.elim
theorem zD5(i:Nat):DS mg E L (tRet (vM i)) (Mi.sRetV L i):=by
 intro G0 H0 S0 σ ρ G H As D a p;unfold Mi.sRetV at p;cases e1:ρ[i]? with
 |none=>rw[e1]at p;exact p.elim
 |some o=>
  rw[e1]at p;cases o with
  |none=>exact p.elim
  |some sl=>
   obtain⟨d,k⟩:=sl;obtain⟨v,h1,h2⟩:=a.at i d k e1;show vM i σ H D.rt;unfold vM;rw[h1];dsimp only at p
   split at p
   ·rename_i hz
    rcases hz with hz|hz|hz
    ·subst hz;exact p v G H (As i) ⟨a.ext,fun b hb=>a.new i b hb⟩ h2
    ·subst hz;obtain⟨s1,s2⟩:=zC8 (S:=As i) a.ext.in';refine p v (over G H (As i)) H (fun _=>False) ⟨⟨a.ext.g.trans s1,a.ext.h,s2,fun b hb=>?_⟩,fun _ z=>z.elim⟩ (h2.rep s1 fun b o hb e=>by rw[zDG hb];exact e);have z:¬As i b:=fun z=>hb (a.new i b z).1
     rw[zBK z];exact a.ext.old b hb
    ·exact p v G H (As i) ⟨a.ext,fun b hb=>a.new i b hb⟩ (h2.at hz.1 hz.2.1 hz.2.2)
   ·exact p.elim
theorem Sat.puts{G0 H0 S0 G H:Hp}{bs:List (Nat×Dt)}{ws:List (Nat×V)}(h:BsRep G bs ws):∀{σ:St}{ρ:Ro}{As:Nat->Addr->Prop},Sat G0 H0 S0 σ ρ G H As->∃As',Sat G0 H0 S0 (zGI σ ws) (zAQ ρ bs) G H As':=by
 induction h with
 |nil=>exact fun a=>⟨_,a⟩
 |cons r _ ih=>exact fun a=>ih (a.put (n:=0) (S:=fun _=>False) r (fun _ z=>z.elim) fun _ _ _ _ z=>z.elim)
theorem zW5(i:Nat)(A:DE mg E te e n)(hn:n<1000:=by decide):DS mg E L (zLN (tML appM (vM i) (zEC te tNil))) (Mi.sApp i n e):=by
 intro G0 H0 S0 σ ρ G H As D a p;obtain⟨J,x,s,w⟩:=a.full;unfold Mi.sApp at p;cases e1:ρ[i]? with
 |none=>rw[e1]at p;exact p.elim
 |some o=>
  rw[e1]at p
  match o,e1,p with
  |none,_,p=>exact p.elim
  |some (.lst ds,k+1),e1,p=>
   obtain⟨v,h1,q,xs,T,rfl,hq,kd⟩:=a.at i _ _ e1;unfold zLN tML vM;rw[h1];refine⟨xs,hq,?_⟩;refine A.step (errS.from x) x.in' w p fun d y G1 H1 S _ fr o p1=>?_
   split at p1
   ·rename_i hz
    obtain⟨q1,q2⟩:=whole (k:=k) a s fr o hn hz.2.1 hz.2.2;refine⟨xs,fr.ext.h _ _ hq,by rw[kd.len];exact L2.big (by lia),?_⟩;have hp:=kd.top;have a1:=a.grow fr.ext.h;have nS:¬S q:=fun z=>(a.new i q hp).2.2 (q2 q z).1
    have ap:∀r b,T r b->S b->False:=fun r b h1 h2=>(a.new i b (kd.sub r b h1)).2.2 (q2 b h2).1
    refine p1 σ G _ _ (a1.store (S:=fun b=>As i b\/S b) hp h1 ⟨q,_,fun r b=>(r<ds.length/\T r b)\/(r=ds.length/\S b),rfl,zAC,⟨by simp[kd.len],fun r d' z g1 g2=>?_,.inl hp,fun r z=>?_,fun r r' b z1 z2=>?_,fun r b z=>?_⟩⟩ fun b z=>?_)
    ·by_cases hr:r<ds.length
     ·rw[qAc hr]at g1;rw[qAc (by rw[kd.len];exact hr)]at g2;exact(((kd.own r d' z g1 g2).mono (Same.refl _) fr.ext.h).upd (kd.out r)).sub fun b z=>.inl ⟨hr,z⟩
     ·rw[qAe (by lia)]at g1;rw[qAe (by rw[kd.len];lia),kd.len]at g2;have hq0:r-ds.length=0:=by
       have:=(qA2.mp g1).1
       simp at this;lia
      rw[hq0]at g1 g2;simp at g1 g2;subst g1;subst g2;exact(q1.upd nS).sub fun b z=>.inr ⟨by lia,z⟩
    ·rcases z with⟨_,z⟩|⟨_,z⟩
     ·exact kd.out r z
     ·exact nS z
    ·rcases z1 with⟨c1,t1⟩|⟨c1,t1⟩<;>rcases z2 with⟨c2,t2⟩|⟨c2,t2⟩
     ·exact kd.dis r r' b t1 t2
     ·exact(ap r b t1 t2).elim
     ·exact(ap r' b t2 t1).elim
     ·lia
    ·rcases z with⟨_,z⟩|⟨_,z⟩
     ·exact .inl (kd.sub r b z)
     ·exact .inr z
    ·rcases z with z|z
     ·exact .inl z
     ·obtain⟨n1,n2,n3⟩:=q2 b z;exact .inr ⟨a.ext.h.free n1,n2,n3,fun j y=>(a.new j b y).2.2 n1⟩
   ·exact p1.elim
  |some (.lst ds,0),_,p=>exact p.elim
  |some (.non,_),_,p=>exact p.elim
  |some (.bl _,_),_,p=>exact p.elim
  |some (.int _,_),_,p=>exact p.elim
  |some (.str _,_),_,p=>exact p.elim
  |some (.tup _,_),_,p=>exact p.elim
  |some (.scr _,_),_,p=>exact p.elim
  |some (.exc _ _ _,_),_,p=>exact p.elim
  |some (.fn _ _,_),_,p=>exact p.elim
  |some (.dsk _ _,_),_,p=>exact p.elim
  |some (.fnc _,_),_,p=>exact p.elim
  |some (.dtt _ _,_),_,p=>exact p.elim
  |some (.loc _ _,_),_,p=>exact p.elim
  |some (.ins _ _,_),_,p=>exact p.elim
  |some (.dct _,_),_,p=>exact p.elim
theorem Kids.pop{P:(Addr->Prop)->Dt->V->Prop}{S:Addr->Prop}{a:Addr}{ds:List Dt}{xs:List V}{T:Nat->Addr->Prop}(k:Kids P S a ds xs T)(q:Nat) :
  Kids P (fun b=>S b/\¬T q b) a (ds.eraseIdx q) (xs.eraseIdx q) (fun r=>if r<q then T r else T (r+1)):=by
 refine⟨by rw[qF7,qF7,k.len],fun r d x h1 h2=>?_,⟨k.top,k.out q⟩,fun r=>?_,fun r r' b z1 z2=>?_,fun r b z=>?_⟩
 ·rw[List.getElem?_eraseIdx]at h1 h2
  try dsimp only
  by_cases hr:r<q
  ·rw[if_pos hr]at h1 h2 ⊢;exact k.own r d x h1 h2
  ·rw[if_neg hr]at h1 h2 ⊢;exact k.own (r+1) d x h1 h2
 ·try dsimp only
  split
  ·exact k.out _
  ·exact k.out _
 ·try dsimp only at z1 z2
  by_cases h1:r<q<;>by_cases h2:r'<q
  ·rw[if_pos h1]at z1;rw[if_pos h2]at z2;exact k.dis _ _ b z1 z2
  ·rw[if_pos h1]at z1;rw[if_neg h2]at z2;have:=k.dis _ _ b z1 z2;lia
  ·rw[if_neg h1]at z1;rw[if_pos h2]at z2;have:=k.dis _ _ b z1 z2;lia
  ·rw[if_neg h1]at z1;rw[if_neg h2]at z2;have:=k.dis _ _ b z1 z2;lia
 ·try dsimp only at z
  by_cases h1:r<q
  ·rw[if_pos h1]at z;exact⟨k.sub _ b z,fun w=>by have:=k.dis _ _ b z w;lia⟩
  ·rw[if_neg h1]at z;exact⟨k.sub _ b z,fun w=>by have:=k.dis _ _ b z w;lia⟩
theorem za1{G H:Hp}{p:Addr}{o:HO}{S:Addr->Prop}{a:Addr}{ds:List Dt}{xs:List V}{T:Nat->Addr->Prop}(k:Kids (Own G H n) S a ds xs T)(hp:∀q,¬T q p):Kids (Own G (upd H p o) n) S a ds xs T:=
 ⟨k.len,fun q d x h1 h2=>(k.own q d x h1 h2).upd (hp q),k.top,k.out,k.dis,k.sub⟩
theorem zW4(j i:Nat)(A:DE mg E te e n):DS mg E L (tAsg (tML popM (vM i) (zEC te tNil)) (zDZ j)) (Mi.sPop j i e):=by
 intro G0 H0 S0 σ ρ G H As D a p;obtain⟨J,x,s,w⟩:=a.full;unfold Mi.sPop at p;cases e1:ρ[i]? with
 |none=>rw[e1]at p;exact p.elim
 |some o=>
  rw[e1]at p
  match o,e1,p with
  |none,_,p=>exact p.elim
  |some (.lst ds,k+1),e1,p=>
   obtain⟨v,h1,q,xs,T,rfl,hq,kd⟩:=a.at i _ _ e1;unfold tAsg tML vM;rw[h1];refine⟨xs,hq,?_⟩;refine(zAJ A).step (errS.from x) x.in' w p fun d y G1 H1 S _ fr o p1=>?_
   cases d with
   |int z=>
    cases(show y=.int z from o)
    dsimp only at p1;cases ei:Mi.ixA ds.length z with
    |none=>rw[ei]at p1;exact p1.elim
    |some c=>
     rw[ei]at p1;dsimp only at p1;cases ec:ds[c]? with
     |none=>rw[ec]at p1;exact p1.elim
     |some dc=>
      rw[ec]at p1;dsimp only at p1
      split at p1
      ·rename_i hz
       rw[zKO]at ei;obtain⟨g1,g2,g3,g4⟩:=zM4 ei;have hc:c<xs.length:=by rw[kd.len];exact g2
       have hx:xs[c]?=some xs[c]:=qA5 hc;refine⟨xs,c,xs[c],fr.ext.h _ _ hq,⟨by lia,by lia⟩,by rw[kd.len];exact g1,hx,?_⟩;have a1:=a.grow fr.ext.h;have kd1:Kids (Own G H1 k) (As i) q ds xs T:=kd.imp (fun _ _ _ _ w=>w.mono (Same.refl _) fr.ext.h) fun _ z=>z
       have a2:=a1.store (o:=.lst (xs.eraseIdx c)) (n:=k+1) (d:=.lst (ds.eraseIdx c)) (S:=fun b=>As i b/\¬T c b) kd.top h1 ⟨q,_,_,rfl,zAC,za1 (kd1.pop c) fun r=>by split<;>exact kd.out _⟩ fun b z=>.inl z.1
       refine p1 _ G _ _ (a2.put (S:=T c) ((kd1.own c dc _ ec hx).upd (kd.out c)) (fun b hb=>?_) fun l b hl z1 z2=>?_)
       ·obtain⟨n1,n2,n3⟩:=a1.new i b (kd.sub c b hb);refine⟨n1,n2,?_⟩;rw[zAB (fun z:b=q=>kd.out c (z▸hb))];exact n3
       ·try dsimp only at z1
        by_cases z:l=i
        ·rw[if_pos z]at z1;exact z1.2 z2
        ·rw[if_neg z]at z1;exact z (a.dis l i b z1 (kd.sub c b z2))
      ·exact p1.elim
   |_=>exact p1.elim
  |some (.lst ds,0),_,p=>exact p.elim
  |some (.non,_),_,p=>exact p.elim
  |some (.bl _,_),_,p=>exact p.elim
  |some (.int _,_),_,p=>exact p.elim
  |some (.str _,_),_,p=>exact p.elim
  |some (.tup _,_),_,p=>exact p.elim
  |some (.scr _,_),_,p=>exact p.elim
  |some (.exc _ _ _,_),_,p=>exact p.elim
  |some (.fn _ _,_),_,p=>exact p.elim
  |some (.dsk _ _,_),_,p=>exact p.elim
  |some (.fnc _,_),_,p=>exact p.elim
  |some (.dtt _ _,_),_,p=>exact p.elim
  |some (.loc _ _,_),_,p=>exact p.elim
  |some (.ins _ _,_),_,p=>exact p.elim
  |some (.dct _,_),_,p=>exact p.elim
end
end
section
variable[Kc]{mg:Str->Option Value}{E:XK}{L n k l:Nat}{te ta tb:TE}{e ea eb:EM}{t u:TS}{m m':SM}
theorem Kids.set{G H:Hp}{S:Addr->Prop}{a p:Addr}{ds:List Dt}{xs:List V}{T:Nat->Addr->Prop}{S':Addr->Prop}{d:Dt}{v:V}{o:HO}(k:Kids (Own G H n) S a ds xs T)(q:Nat)(w:Own G (upd H p o) n S' d v)(hp:∀r,r≠q->¬T r p)(ha:¬S' a)
  (hd:∀r b,r≠q->T r b->S' b->False):Kids (Own G (upd H p o) n) (fun b=>S b\/S' b) a (ds.set q d) (xs.set q v) (fun r b=>if r=q then S' b else T r b):=by
 refine⟨by simp[k.len],fun r d' x h1 h2=>?_,.inl k.top,fun r=>?_,fun r r' b z1 z2=>?_,fun r b z=>?_⟩
 ·by_cases z:q=r
  ·subst z;have h:q<ds.length:=by
    have:=(qA2.mp h1).1
    simpa using this
   rw[qAk h]at h1;rw[qAk (by rw[k.len];exact h)]at h2;cases h1;cases h2;exact w.sub fun b hb=>by rw[if_pos rfl];exact hb
  ·rw[qAj z]at h1 h2;exact((k.own r d' x h1 h2).upd (hp r fun y=>z y.symm)).sub fun b hb=>by rw[if_neg (fun y=>z y.symm)];exact hb
 ·try dsimp only
  split
  ·exact ha
  ·exact k.out _
 ·try dsimp only at z1 z2
  by_cases h1:r=q<;>by_cases h2:r'=q
  ·rw[h1,h2]
  ·rw[if_pos h1]at z1;rw[if_neg h2]at z2;exact(hd r' b h2 z2 z1).elim
  ·rw[if_neg h1]at z1;rw[if_pos h2]at z2;exact(hd r b h1 z1 z2).elim
  ·rw[if_neg h1]at z1;rw[if_neg h2]at z2;exact k.dis _ _ b z1 z2
 ·try dsimp only at z
  by_cases h1:r=q
  ·rw[if_pos h1]at z;exact .inr z
  ·rw[if_neg h1]at z;exact .inl (k.sub _ b z)
theorem zRV(i:Nat){n1:Nat}{t1 t2:TE}{e1 e2:EM}(A:DE mg E t1 e1 n1)(B:DE mg E t2 e2 n)(hn:n<1000:=by decide):DS mg E L (tAsg t2 (gSub (vM i) t1 setM)) (Mi.sItem i n e1 e2):=by
 intro G0 H0 S0 σ ρ G H As D a p;obtain⟨J,x,s,w⟩:=a.full;refine B.step (errS.from x) x.in' w p fun d y G1 H1 S _ fr o p1=>?_
 cases er:ρ[i]? with
 |none=>rw[er]at p1;exact p1.elim
 |some sl=>
  rw[er]at p1
  match sl,er,p1 with
  |none,_,p=>exact p.elim
  |some (.lst ds,k+1),er,p1=>
   obtain⟨v,h1,q,xs,T,rfl,hq,kd⟩:=a.at i _ _ er;unfold gSub vM;rw[h1];have x1:Ext J H J H1:=Ext.same x.in' fr.ext.h;refine(zAJ A).step (errS.from (x.trans x1)) x1.in' w p1 fun z u G2 H2 S2 _ fr2 o2 p2=>?_
   cases z with
   |int z=>
    cases(show u=.int z from o2)
    try dsimp only at p2
    cases ei:Mi.ixA ds.length z with
    |none=>rw[ei]at p2;exact p2.elim
    |some c=>
     rw[ei]at p2
     try dsimp only at p2
     split at p2
     ·rename_i hz
      rw[zKO]at ei;obtain⟨q1,q2⟩:=whole (k:=k) a s fr o hn hz.1 hz.2;have sH:=fr.ext.h.trans fr2.ext.h;refine⟨xs,c,sH _ _ hq,by rw[kd.len];exact ei,?_⟩;have a1:=a.grow sH;have nS:¬S q:=fun z=>(a.new i q kd.top).2.2 (q2 q z).1
      have kd1:Kids (Own G H2 k) (As i) q ds xs T:=kd.imp (fun _ _ _ _ w=>w.mono (Same.refl _) sH) fun _ z=>z
      refine p2 σ G _ _ (a1.store (S:=fun b=>As i b\/S b) kd.top h1 ⟨q,_,_,rfl,zAC,kd1.set c ((q1.mono (Same.refl _) fr2.ext.h).upd nS) (fun r _=>kd.out r) nS fun r b _ z1 z2=>(a.new i b (kd.sub r b z1)).2.2 (q2 b z2).1⟩ fun b z=>?_)
      rcases z with z|z
      ·exact .inl z
      ·obtain⟨n1,n2,n3⟩:=q2 b z;exact .inr ⟨a.ext.h.free n1,n2,fr2.ext.h.some n3,fun j y=>(a.new j b y).2.2 n1⟩
     ·exact p2.elim
   |_=>exact p2.elim
  |some (.lst ds,0),_,p=>exact p.elim
  |some (.non,_),_,p=>exact p.elim
  |some (.bl _,_),_,p=>exact p.elim
  |some (.int _,_),_,p=>exact p.elim
  |some (.str _,_),_,p=>exact p.elim
  |some (.tup _,_),_,p=>exact p.elim
  |some (.scr _,_),_,p=>exact p.elim
  |some (.exc _ _ _,_),_,p=>exact p.elim
  |some (.fn _ _,_),_,p=>exact p.elim
  |some (.dsk _ _,_),_,p=>exact p.elim
  |some (.fnc _,_),_,p=>exact p.elim
  |some (.dtt _ _,_),_,p=>exact p.elim
  |some (.loc _ _,_),_,p=>exact p.elim
  |some (.ins _ _,_),_,p=>exact p.elim
  |some (.dct _,_),_,p=>exact p.elim
theorem zVY{G0 H0 S0:Hp}{D:Ends}{g:TG}{tg:Tg}{J:It}{ds:List Dt}{GJ:Hp}(hT:TgOk g tg)(B:DS mg E L t m)(io:ItOk J GJ ds){σ:St}{ρ:Ro}{G H:Hp}{As:Nat->Addr->Prop}(a:Sat G0 H0 S0 σ ρ G H As)(sJ:Same GJ G)
  (p:zCW mg E G0 H0 S0 L (Mi.forGo tg m ds ρ) D):zSV g t D σ J H:=by
 refine⟨fun i c σ H=>c=ds.length-i/\i<=ds.length/\∃ρ G As,Sat G0 H0 S0 σ ρ G H As/\Same GJ G/\zCW mg E G0 H0 S0 L (Mi.forGo tg m (ds.drop i) ρ) D,
  ⟨_,rfl,qAs _,ρ,G,As,a,sJ,by rw[qE2];exact p⟩,?_⟩
 rintro i c σ H ⟨rfl,hi,ρ,G,As,a,sJ,p⟩
 obtain⟨j1,j2,j3⟩:=io i G H sJ a.ext.in'
 by_cases hlt:i<ds.length
 ·refine .inr ⟨j1 hlt,fun σ' H'=>i+1<=ds.length/\∃ρ G As,Sat G0 H0 S0 σ' ρ G H' As/\Same GJ G/\zCW mg E G0 H0 S0 L (Mi.forGo tg m (ds.drop (i+1)) ρ) D,fun σ' H' q=>⟨ds.length-(i+1),by lia,rfl,q⟩,fun x H2 hy=>?_⟩;have hd:ds[i]?=some ds[i]:=qA5 hlt;obtain⟨G2,x2,r2⟩:=j3 x H2 ds[i] hd hy;rw[qC1 hlt,Mi.forGo]at p;cases eb:zAM tg ds[i]with
  |none=>rw[eb]at p;exact p.elim
  |some bs=>
   rw[eb]at p
   try dsimp only at p
   refine hT G2 H2 _ _ x bs _ x2.in' r2 eb fun ws hb=>?_
   obtain⟨As2,a2⟩:=Sat.puts hb (a.wider x2);have a3:Sat G0 H0 GJ (zGI σ ws) (zAQ ρ bs) G2 H2 As2:=⟨a2.ext,sJ.trans x2.g,a2.tab,a2.len,a2.at,a2.dis,a2.new⟩
   have key:∀(S1:Hp),Same S0 S1->Same GJ S1->Sat G0 H0 S1 (zGI σ ws) (zAQ ρ bs) G2 H2 As2->t { D with nx:=fun σ' H'=>i+1<=ds.length/\∃ρ G As,Sat G0 H0 S0 σ' ρ G H' As/\Same GJ G/\zCW mg E G0 H0 S0 L (Mi.forGo tg m (ds.drop (i+1)) ρ) D,ct:=fun σ' H'=>i+1<=ds.length/\∃ρ G As,Sat G0 H0 S0 σ' ρ G H' As/\Same GJ G/\zCW mg E G0 H0 S0 L (Mi.forGo tg m (ds.drop (i+1)) ρ) D,bk:=D.nx } (zGI σ ws) H2:=by
    intro S1 s1 s2 a4;refine B G0 H0 S1 _ _ G2 H2 As2 _ a4 ?_;have back:∀{σ':St}{ρ':Ro}{G' H':Hp}{As':Nat->Addr->Prop},Sat G0 H0 S1 σ' ρ' G' H' As'->Sat G0 H0 S0 σ' ρ' G' H' As'/\Same GJ G':=fun a5=>⟨⟨a5.ext,s1.trans a5.stb,a5.tab,a5.len,a5.at,a5.dis,a5.new⟩,s2.trans a5.stb⟩
    cases em:m (zAQ ρ bs)with
    |none=>rw[em]at p;exact p
    |some r=>
     rw[em]at p;cases r with
     |error y=>exact p
     |ok o=>
      cases o with
      |nx ρ'=>exact fun σ' G' H' As' a5=>⟨hlt,ρ',G',As',(back a5).1,(back a5).2,p⟩
      |ct ρ'=>exact fun σ' G' H' As' a5=>⟨hlt,ρ',G',As',(back a5).1,(back a5).2,p⟩
      |bk ρ'=>exact fun σ' G' H' As' a5=>p σ' G' H' As' (back a5).1
      |rt d=>exact p
   exact key G2 a2.stb (sJ.trans x2.g) ⟨a2.ext,Same.refl _,a2.tab,a2.len,a2.at,a2.dis,a2.new⟩
 ·have e:i=ds.length:=by lia
  subst e;rw[qEp,Mi.forGo]at p;exact .inl ⟨j2 (qA7 _),p σ G H As a⟩
theorem zH7{wi:TI}{it:IM}{g:TG}{tg:Tg}(vs:List Nat){ind:Bool}(I:DI mg E wi it ind)(hT:TgOk g tg)(B:DS mg E L t m):DS mg E L (fun D σ H=>wi σ H (zSV g t D σ)) (Mi.sFor vs it tg m):=by
 intro G0 H0 S0 σ ρ G H As D a p;obtain⟨G1,As1,a1⟩:=Sat.frzAt vs a;refine I.step (errS.from a1.ext) a1.ext.in' a1.frz p fun ds J G2 H2 _ x2 io p1=>?_
 refine zVY hT B io (a1.wider x2) ?_ p1;unfold zSI
 split
 ·exact fun b o e=>by cases e
 ·exact Same.refl _
theorem zFH{wi:TI}{it:IM}{i:Nat}(I:DI mg E wi it true)(B:DS mg E L t m):DS mg E L (fun D σ H=>wi σ H (zSV (zDZ i) t D σ)) (Mi.sForR it i m):=by
 intro G0 H0 S0 σ ρ G H As D a p;obtain⟨J,x,s,w⟩:=a.full;refine I.step (errS.from x) x.in' w p fun ds J G2 H2 _ x2 io p1=>?_
 exact zVY (zB7 i) B io (a.grow x2.h) (fun b o e=>by cases e) p1
theorem dz(A:DE mg E te e 0):DE mg E te e 0:=A
theorem zIE{P N:Nat}{vs:List V}{H:Hp}{Q:VK}{E:XK}(h:spM mg L (Mi.runF P N m) vs H Q E):vs.length=P:=by
 obtain⟨G,ds,_,s,r,p⟩:=h;rw[r.length];unfold Mi.runF at p
 split at p
 ·rename_i h;exact h
 ·exact p.elim
theorem zB8{P:Nat}{N:List Str}{vs:List V}{H:Hp}{Q:VK}(B:DS mg E L t m)(h:spM mg L (Mi.runF P N.length m) vs H Q E):t { nx:=fun _ H'=>Q .non H',rt:=Q } (L2.start N vs) H:=by
 obtain⟨G,ds,tb,s,r,p⟩:=h;unfold Mi.runF at p
 split at p
 ·refine B G H G _ (Mi.startO N.length ds) G H (fun _ _=>False) _ ⟨Ext.refl s,Same.refl _,tb,?_,fun i d n e=>?_,fun _ _ _ z=>z.elim,fun _ _ z=>z.elim⟩ ?_
  ·unfold Mi.startO L2.start;simp[r.length]
  ·unfold Mi.startO at e
   by_cases hi:i<ds.length
   ·rw[qAc (by simpa using hi),qAf]at e;cases e1:ds[i]? with
    |none=>rw[e1]at e;cases e
    |some d'=>
     rw[e1]at e;cases e;have hv:vs[i]?=some (vs[i]'(by rw[r.length];exact hi)):=by simp
     refine⟨vs[i]'(by rw[r.length];exact hi),?_,zBJ r e1 hv⟩;unfold L2.start;rw[qAc (by simpa[r.length]using hi),qAf,hv];rfl
   ·rw[qAe (by simpa using hi),qBl]at e
    split at e<;>cases e
  ·cases em:m (Mi.startO N.length ds)with
   |none=>rw[em]at p;exact p
   |some r=>
    rw[em]at p;cases r with
    |error y=>exact p
    |ok o=>
     cases o with
     |nx ρ'=>exact fun σ' G' H' As' a=>PostE.val (d:=.non) p a.ext rfl rfl
     |rt d=>exact p
     |bk ρ'=>exact p.elim
     |ct ρ'=>exact p.elim
 ·exact p.elim
end
end L3
namespace L2
open PySem PySem.Spec PyProof.Rows
section
variable{X:Cx}
end
section
variable{prog:qI0}{w:World}{A:qI4}{E:Value->qHx->Prop}{s:qHx}
end
section
variable{X:Cx}{pins:List (Addr×Obj)}{σ:List (Option V)}{H:Hp}{s:qHx}
end
section
variable{prog:qI0}{w:World}{A:qI4}{E:Value->qHx->Prop}{s:qHx}
end
section
variable{X:Cx}{pins:List (Addr×Obj)}{σ:List (Option V)}{H:Hp}{s:qHx}
end
section
variable{X:Cx}
end
section
variable{X:Cx}{tg:Expr}
end
section
variable{prog:qI0}{w:World}{A:qI4}{E:Value->qHx->Prop}{s:qHx}
end
section
variable{X:Cx}
end
section
variable{prog:qI0}{w:World}{A:qI4}{E:Value->qHx->Prop}{s:qHx}
end
section
variable{X:Cx}
end
section
variable{prog:qI0}{w:World}{A:qI4}{E:Value->qHx->Prop}{s:qHx}
end
section
variable{X:Cx}{o:Expr}{td:TE}{p apos cpos pos:Pos}
end
section
variable{prog:qI0}{w:World}{A:qI4}{E:Value->qHx->Prop}{s:qHx}
end
section
variable{X:Cx}{pins:List (Addr×Obj)}{σ:List (Option V)}{H:Hp}{s:qHx}
end
section
variable{X:Cx}
end
end L2
namespace L3
open PySem PySem.Spec
open L2 hiding Rep RepL
open Mi (Dt Xn R okR zA2 optR bindR_ok zA4 zAA zA8 zA9 Rh Sl Ro EM TM AM FM IM SM OM Tg Out zAM zAK zAQ full frz frz1 frzAt)
section
variable[Kc]{mg:Str->Option Value}{E:XK}{L n k l:Nat}{te ta tb:TE}{e ea eb:EM}{t u:TS}{m m':SM}
theorem zWC{f:List Dt->Option Dt}{g:Int->Int->Int}{r:List V->Hp->VK->Prop}(hr:∀i j H Q,Q (.int (g i j)) H->r [.int i,.int j] H Q)(hf:∀i j,f [.int i,.int j]=some (.int (g i j)))(hn:∀ds,(∀i j,ds≠[.int i,.int j])->f ds=none):CBi r f n:=by
 intro mg E G H ds vs Q s h p
 by_cases hd:∃i j,ds=[.int i,.int j]
 ·obtain⟨i,j,rfl⟩:=hd;obtain⟨x,y,rfl,hx,hy⟩:=zX4 h
  cases(show x=.int i from hx)
  cases(show y=.int j from hy)
  rw[hf]at p;exact hr i j H Q (PostE.val p (Ext.refl s) rfl rfl)
 ·rw[hn ds fun i j e=>hd ⟨i,j,e⟩]at p;exact p.elim
theorem zMX{f:List Dt->Option Dt}(h1:f []=none)(h2:∀x,f [x]=none)(h3:∀x y z r,f (x::y::z::r)=none)(h4:∀x y,(∀i j,[x,y]≠[.int i,.int j])->f [x,y]=none):∀ds,(∀i j,ds≠[.int i,.int j])->f ds=none:=by
 intro ds h
 match ds,h with
 |[],_=>exact h1
 |[x],_=>exact h2 x
 |[x,y],h=>exact h4 x y h
 |x::y::z::r,_=>exact h3 x y z r
theorem zWD:CBi (fun xs H Q=>∃i j,xs=[.int i,.int j]/\Q (.int (if j>i then j else i)) H) Mi.maxD n:=
 zWC (g:=fun i j=>if j>i then j else i) (fun i j H Q q=>⟨i,j,rfl,q⟩) (fun _ _=>rfl) (zMX rfl (fun x=>by cases x<;>rfl) (fun x y z r=>by cases x<;>cases y<;>rfl) (fun x y h=>by cases x<;>cases y<;>first|rfl|exact absurd rfl (h _ _)))
theorem zbN:CBi (fun xs H Q=>∃i j,xs=[.int i,.int j]/\Q (.int (if j<i then j else i)) H) Mi.minD n:=
 zWC (g:=fun i j=>if j<i then j else i) (fun i j H Q q=>⟨i,j,rfl,q⟩) (fun _ _=>rfl) (zMX rfl (fun x=>by cases x<;>rfl) (fun x y z r=>by cases x<;>cases y<;>rfl) (fun x y h=>by cases x<;>cases y<;>first|rfl|exact absurd rfl (h _ _)))
theorem zH6{G:Hp}{d:Dt}{v:V}(h:Rep G d v)(hd:d.dep=0):zDN v=true:=(zDW (by lia) h).flat (qGa.mp (qAr (zF2 (by lia)) (qCh hd)))
theorem zKU{G:Hp}{d e:Dt}{v u:V}(h:Rep G d v)(h':Rep G e u)(hd:d.dep=0)(he:e.dep=0):eqV v u=Dt.eq d e:=by
 rw[<- zMD (by lia) (by lia)];exact(zDW (by lia) h).flatEq (zDW (by lia) h') (qGa.mp (qAr (zF2 (by lia)) (qCh hd))) (qGa.mp (qAr (zF2 (by lia)) (qCh he)))
theorem zYA{G:Hp}{d:Dt}{v:V}(h:Rep G d v)(hd:d.dep=0):∀{ds:List Dt}{vs:List V},RepL G ds vs->Dt.depL ds=0->vs.all zDN=true/\inV v vs=ds.any fun y=>Dt.eq y d
 |[],vs,r,_=>by cases(show vs=[] from r);exact⟨rfl,rfl⟩
 |e::ds,vs,r,hz=>by
  obtain⟨x,q,rfl,a,b⟩:=r;rw[Dt.depL]at hz;obtain⟨h1,h2⟩:=zYA h hd b (by lia);have he:e.dep=0:=by lia
  refine⟨by simp[zH6 a he,h1],?_⟩;unfold inV at h2 ⊢;rw[qCy,qCy,h2,zKU a h he hd]
theorem zc9{ng:Bool}:ROp (rInU Kc.K ng) (Mi.inD ng) n:=by
 intro mg E G H d e x y Q s h1 h2 p;cases e with
 |lst ys=>
  obtain⟨a,vs,rfl,ha,r⟩:=h2;unfold Mi.inD Mi.hasD at p;dsimp only at p
  by_cases hz:d.dep=0/\Dt.depL ys=0
  ·rw[if_pos hz]at p;obtain⟨g1,g2⟩:=zYA h1 hz.1 r hz.2;refine⟨vs,.inl (SqL.of (s _ _ ha)),zH6 h1 hz.1,g1,?_⟩;rw[g2];exact PostE.val p (Ext.refl s) rfl rfl
  ·rw[if_neg hz]at p;exact p.elim
 |tup ys=>
  obtain⟨a,vs,rfl,ha,r⟩:=h2;unfold Mi.inD Mi.hasD at p;dsimp only at p
  by_cases hz:d.dep=0/\Dt.depL ys=0
  ·rw[if_pos hz]at p;obtain⟨g1,g2⟩:=zYA h1 hz.1 r hz.2;refine⟨vs,.inr (SqT.of (s _ _ ha)),zH6 h1 hz.1,g1,?_⟩;rw[g2];exact PostE.val p (Ext.refl s) rfl rfl
  ·rw[if_neg hz]at p;exact p.elim
 |str z=>
  cases(show y=.str z from h2)
  cases d with
  |str w=>
   cases(show x=.str w from h1)
   obtain⟨⟨wl⟩⟩:=w;cases wl with
   |nil=>exact qA8 p
   |cons c tl1=>
    cases tl1 with
    |nil=>
     have p':PostE mg E G H n (okR (.bl (if ng=true then !decide (c∈z.cps.toList)else decide (c∈z.cps.toList)))) Q:=p;have q:=PostE.val (v:=.bl (if ng=true then !decide (c∈z.cps.toList)else decide (c∈z.cps.toList))) p' (Ext.refl s) rfl rfl;rw[<- StrLaws.found_one z c]at q;exact q
    |cons _ _=>exact qA8 p
  |_=>exact p.elim
 |_=>exact p.elim
def DO(mg:Str->Option Value)(E:XK)(t:TO)(m:OM):Prop:=∀(G H:Hp)(σ:St)(ρ:Rh)(Q:Option Int->Hp->Prop),Same G H->View G σ ρ ->
 (match m ρ with
  |none=>False
  |some (.error x)=>∀c da G' H',Ext G H G' H'->XRep mg x c da G' H'->E c da H'
  |some (.ok o)=>∀H',Same H H'->Q o H')->t σ H Q
theorem DO.step{β:Type}{t:TO}{m:OM}(D:DO mg E t m){G H:Hp}{σ:St}{ρ:Rh}{Q:Option Int->Hp->Prop}{P:R β->Prop}{f:Option Int->R β}(hE:Err mg E G H P)(s:Same G H)(w:View G σ ρ)(p:P (zA2 (m ρ) f))
  (h:∀b H',m ρ=okR b->Same H H'->P (f b)->Q b H'):t σ H Q:=by
 refine D G H σ ρ Q s w ?_;cases e:m ρ with
 |none=>rw[e]at p;exact hE.no p
 |some r=>
  rw[e]at p;cases r with
  |error x=>exact hE.er x p
  |ok b=>exact fun H' sH=>h b H' e sH p
theorem zUE:DO mg E zPT Mi.oNo:=fun G H σ ρ Q s w p=>p H (Same.refl _)
theorem do_e(A:DE mg E te e k):DO mg E (zZ4 te) (Mi.oE e):=by
 intro G H σ ρ Q s w p;unfold Mi.oE at p;refine(zAJ A).step (P:=fun r=>match r with
  |none=>False
  |some (.error x)=>∀c da G' H',Ext G H G' H'->XRep mg x c da G' H'->E c da H'
  |some (.ok o)=>∀H',Same H H'->Q o H') ⟨fun h=>h,fun _ h=>h⟩ s w p fun d v G1 H1 S _ fr o p1=>?_
 cases d with
 |int i=>exact⟨i,o,p1 H1 fr.ext.h⟩
 |_=>exact p1.elim
theorem zO3(n d:Nat)(o:Option Int):Mi.cutIx n d o=HT.sIx n d o:=by cases o<;>rfl
theorem zK8{G:Hp}:∀{ds:List Dt}{xs:List V}(i:Nat),RepL G ds xs->RepL G (ds.drop i) (xs.drop i)
 |ds,xs,0,r=>by simpa using r
 |[],xs,i+1,r=>by cases(show xs=[] from r);exact rfl
 |d::ds,xs,i+1,r=>by
  obtain⟨x,q,rfl,a,b⟩:=r;exact zK8 i b
theorem zK6{G:Hp}:∀{ds:List Dt}{xs:List V}(i:Nat),RepL G ds xs->RepL G (ds.take i) (xs.take i)
 |ds,xs,0,r=>by simp;exact rfl
 |[],xs,i+1,r=>by cases(show xs=[] from r);exact rfl
 |d::ds,xs,i+1,r=>by
  obtain⟨x,q,rfl,a,b⟩:=r;exact⟨x,_,rfl,a,zK6 i b⟩
theorem zT7{G:Hp}{ds:List Dt}{xs:List V}(r:RepL G ds xs)(lo hi:Option Int):RepL G (Mi.cutA ds lo hi) (cutV xs lo hi):=by
 unfold Mi.cutA cutV;rw[zO3,zO3,r.length];exact zK6 _ (zK8 _ r)
def RSl(r:V->Option Int->Option Int->Hp->VK->Prop)(n:Nat):Prop:=∀(mg:Str->Option Value)(E:XK)(G H:Hp)(d:Dt)(x:V)(lo hi:Option Int)(Q:VK),Same G H->Rep G d x->PostE mg E G H n (optR (Mi.slD d lo hi)) Q->r x lo hi H Q
theorem zbF{r:V->Option Int->Option Int->Hp->VK->Prop}{tl th:TO}{ml mh:OM}(hr:RSl r n)(A:DE mg E te e k)(B:DO mg E tl ml)(C:DO mg E th mh):DE mg E (tSl r te tl th) (Mi.eSl e ml mh) n:=by
 intro G H σ ρ Q s w p;refine(zAJ A).step errE s w p fun d v G1 H1 S _ fr o p1=>?_
 refine B.step (errE.from fr.ext) fr.ext.in' (w.mono fr.ext.g) p1 fun lo H2 _ s2 p2=>?_
 have x2:=fr.ext.trans (Ext.same fr.ext.in' s2);refine C.step (errE.from x2) x2.in' (w.mono fr.ext.g) p2 fun hi H3 _ s3 p3=>?_
 have x3:=x2.trans (Ext.same x2.in' s3);exact hr mg E G1 H3 d v lo hi Q x3.in' o (PostE.from p3 x3)
theorem zJD(i:Nat){n0 n1:Nat}{t0 t1 t2:TE}{e0 e1 e2:EM}(Z:DE mg E t0 e0 n0)(A:DE mg E t1 e1 n1)(B:DE mg E t2 e2 n)(hn:n<1000:=by decide):DS mg E L (tAsg t2 (gSub (tOp (rIxU Kc.K) (vM i) t0) t1 setM)) (Mi.sItem2 i n e0 e1 e2):=by
 intro G0 H0 S0 σ ρ G H As D a p;obtain⟨J,x,s,w⟩:=a.full;refine B.step (errS.from x) x.in' w p fun d y G1 H1 S _ fr o p1=>?_
 cases er:ρ[i]? with
 |none=>rw[er]at p1;exact p1.elim
 |some sl=>
  rw[er]at p1
  match sl,er,p1 with
  |none,_,p=>exact p.elim
  |some (.lst rs,k+2),er,p1=>
   obtain⟨v,h1,q,xs,T,rfl,hq,kd⟩:=a.at i _ _ er;unfold gSub tOp vM;rw[h1];have x1:Ext J H J H1:=Ext.same x.in' fr.ext.h;refine(zAJ Z).step (errS.from (x.trans x1)) x1.in' w p1 fun z0 u0 G2 H2 S2 _ fr2 o2 p2=>?_
   cases z0 with
   |int y0=>
    cases(show u0=.int y0 from o2)
    dsimp only at p2;cases ei:Mi.ixA rs.length y0 with
    |none=>rw[ei]at p2;exact p2.elim
    |some c=>
     rw[ei]at p2;dsimp only at p2;cases erow:rs[c]? with
     |none=>rw[erow]at p2;exact p2.elim
     |some row=>
      rw[erow]at p2;cases row with
      |lst ds=>
       have hc:c<xs.length:=by rw[kd.len];exact(qA2.mp erow).1
       have hxc:xs[c]?=some xs[c]:=qA5 hc;obtain⟨qr,ys,U,er2,hqr,kr⟩:=kd.own c _ _ erow hxc;have sH2:=fr.ext.h.trans fr2.ext.h;refine⟨xs,xs[c],.inl (SqL.of (sH2 _ _ hq)),?_,?_⟩
       ·unfold atI;rw[kd.len,<- zKO,ei];exact hxc
       have x2:Ext J H J H2:=Ext.same x.in' sH2;refine(zAJ A).step (errS.from (x.trans x2)) x2.in' w p2 fun z u G3 H3 S3 _ fr3 o3 p3=>?_
       cases z with
       |int z=>
        cases(show u=.int z from o3)
        dsimp only at p3;cases ez:Mi.ixA ds.length z with
        |none=>rw[ez]at p3;exact p3.elim
        |some c2=>
         rw[ez]at p3;dsimp only at p3
         split at p3
         ·rename_i hz
          rw[zKO]at ez;obtain⟨q1,q2⟩:=whole (k:=k) a s fr o hn hz.1 hz.2;have sH:=sH2.trans fr3.ext.h;rw[er2];refine⟨ys,c2,sH _ _ hqr,by rw[kr.len];exact ez,?_⟩;have a1:=a.grow sH;have tqr:T c qr:=kr.top;have iqr:As i qr:=kd.sub c qr tqr;have nS:¬S qr:=fun z=>(a.new i qr iqr).2.2 (q2 qr z).1
          have qne:q≠qr:=fun z=>kd.out c (z▸tqr)
          have fresh:∀b,As i b->S b->False:=fun b z1 z2=>(a.new i b z1).2.2 (q2 b z2).1
          have kr1:Kids (Own G H3 k) (T c) qr ds ys U:=kr.imp (fun _ _ _ _ w=>w.mono (Same.refl _) sH) fun _ z=>z
          have rowK:=kr1.set (p:=qr) (o:=.lst (ys.set c2 y)) c2 ((q1.mono (Same.refl _) (fr2.ext.h.trans fr3.ext.h)).upd nS) (fun r _=>kr.out r) nS (fun r b _ z1 z2=>fresh b (kd.sub c b (kr.sub r b z1)) z2);refine p3 σ G _ _ (a1.store (S:=fun b=>As i b\/S b) (d:=.lst (rs.set c (.lst (ds.set c2 d)))) (n:=k+2) (v:=.ref q) iqr h1 ⟨q,xs,fun r b=>if r=c then T c b\/S b else T r b,rfl,(zAB qne).trans (sH _ _ hq),⟨by simp[kd.len],fun r d' xr g1 g2=>?_,.inl kd.top,fun r=>?_,fun r r' b z1 z2=>?_,fun r b z=>?_⟩⟩ fun b z=>?_)
          ·by_cases hr:c=r
           ·subst hr;rw[qAk (by rw[<- kd.len];exact hc)]at g1;cases g1;rw[hxc]at g2;cases g2;refine⟨qr,_,_,er2,zAC,rowK.imp (fun _ _ _ _ w=>w) fun b z=>?_⟩;rw[if_pos rfl];exact z
           ·rw[qAj hr]at g1;have nr:¬T r qr:=fun z=>hr (kd.dis c r qr tqr z)
            exact(((kd.own r d' xr g1 g2).mono (Same.refl _) sH).upd nr).sub fun b z=>by rw[if_neg (fun z=>hr z.symm)];exact z
          ·try dsimp only
           split
           ·exact fun z=>z.elim (kd.out c) fun z=>fresh q kd.top z
           ·exact kd.out r
          ·try dsimp only at z1 z2
           by_cases g1:r=c<;>by_cases g2:r'=c
           ·rw[g1,g2]
           ·rw[if_pos g1]at z1;rw[if_neg g2]at z2
            rcases z1 with z1|z1
            ·rw[g1];exact kd.dis c r' b z1 z2
            ·exact(fresh b (kd.sub r' b z2) z1).elim
           ·rw[if_neg g1]at z1;rw[if_pos g2]at z2
            rcases z2 with z2|z2
            ·rw[g2];exact kd.dis r c b z1 z2
            ·exact(fresh b (kd.sub r b z1) z2).elim
           ·rw[if_neg g1]at z1;rw[if_neg g2]at z2;exact kd.dis r r' b z1 z2
          ·try dsimp only at z
           by_cases g1:r=c
           ·rw[if_pos g1]at z
            rcases z with z|z
            ·exact .inl (kd.sub c b z)
            ·exact .inr z
           ·rw[if_neg g1]at z;exact .inl (kd.sub r b z)
          ·rcases z with z|z
           ·exact .inl z
           ·obtain⟨n1,n2,n3⟩:=q2 b z;exact .inr ⟨a.ext.h.free n1,n2,(fr2.ext.h.trans fr3.ext.h).some n3,fun j y=>(a.new j b y).2.2 n1⟩
         ·exact p3.elim
       |_=>exact p3.elim
      |_=>exact p2.elim
   |_=>exact p2.elim
  |some (.lst ds,0),_,p=>exact p.elim
  |some (.lst ds,1),_,p=>exact p.elim
  |some (.non,_),_,p=>exact p.elim
  |some (.bl _,_),_,p=>exact p.elim
  |some (.int _,_),_,p=>exact p.elim
  |some (.str _,_),_,p=>exact p.elim
  |some (.tup _,_),_,p=>exact p.elim
  |some (.scr _,_),_,p=>exact p.elim
  |some (.exc _ _ _,_),_,p=>exact p.elim
  |some (.fn _ _,_),_,p=>exact p.elim
  |some (.dsk _ _,_),_,p=>exact p.elim
  |some (.fnc _,_),_,p=>exact p.elim
  |some (.dtt _ _,_),_,p=>exact p.elim
  |some (.loc _ _,_),_,p=>exact p.elim
  |some (.ins _ _,_),_,p=>exact p.elim
  |some (.dct _,_),_,p=>exact p.elim
end
section
variable[Kc]{mg:Str->Option Value}{E:XK}{L n k l:Nat}{te ta tb:TE}{e ea eb ma:EM}{t:TA}{m:AM}
theorem rs_u:RSl (rSlU Kc.K) 1:=by
 intro mg E G H d x lo hi Q s h p;cases d with
 |lst ds=>
  obtain⟨a,xs,rfl,ha,r⟩:=h;exact⟨xs,SqL.of (s _ _ ha),fun q hq=>PostE.lst p (Ext.refl s) (zT7 r lo hi) hq⟩
 |str z=>
  cases(show x=.str z from h)
  rw[Mi.slD]at p
  by_cases hz:z.length<=100000
  ·rw[if_pos hz]at p;exact⟨big' hz,PostE.val p (Ext.refl s) rfl rfl⟩
  ·rw[if_neg hz]at p;exact p.elim
 |_=>exact p.elim
theorem zUI{tl th:TO}{ml mh:OM}(A:DE mg E te e k)(B:DO mg E tl ml)(C:DO mg E th mh):DE mg E (tSl (rSlU Kc.K) te tl th) (Mi.eSl e ml mh) 1:=zbF rs_u A B C
theorem zaR{G:Hp}(z:Str):ItOk (Its z) G (Mi.signsD z):=by
 intro i G1 H1 s1 s2;have hl:(Mi.signsD z).length=z.cps.size:=by simp[Mi.signsD]
 refine⟨fun hi=>by rw[hl]at hi;exact hi,fun hi=>by rw[hl]at hi;exact hi,fun x H2 d hd hy=>?_⟩;obtain⟨rfl,c,hc,rfl⟩:=hy;refine⟨G1,Ext.refl s2,?_⟩;unfold Mi.signsD at hd;rw[qAf]at hd;have hc':z.cps.toList[i]?=some c:=by simpa using hc
 rw[hc']at hd;cases hd;rfl
theorem zE8(A:DE mg E ta ma k):DI mg E (iAny Kc.K ta) (Mi.iSq ma) false:=by
 intro G H σ ρ Q s w p;refine(zAJ A).step errI s w p fun d v G1 H1 S _ fr o p1=>?_
 cases d with
 |lst ds=>
  obtain⟨a,xs,rfl,ha,r⟩:=o;exact .inl ⟨⟨xs,SqL.of (fr.ext.in' _ _ ha)⟩,p1 _ G1 H1 fr.ext (zVU (SqL.of ha) r)⟩
 |tup ds=>
  obtain⟨a,xs,rfl,ha,r⟩:=o;exact .inr ⟨⟨xs,SqT.of (fr.ext.in' _ _ ha)⟩,p1 _ G1 H1 fr.ext (zVT (SqT.of ha) r)⟩
 |scr ns=>
  obtain⟨a,rfl,ha⟩:=o
  rcases ha.old with ha|ha
  ·exact .inl ⟨⟨_,fr.ext.in'.seq ha⟩,p1 _ G1 H1 fr.ext (zVU ha (zCP ns))⟩
  ·exact .inr ⟨⟨_,zK2 fr.ext.in' ha⟩,p1 _ G1 H1 fr.ext (zVT ha (zCP ns))⟩
 |str z=>
  cases(show v=.str z from o)
  exact p1 _ G1 H1 fr.ext (zaR z)
 |_=>exact p1.elim
end
end L3
namespace L2
open PySem PySem.Spec
structure Dr(p:Prop):Prop where
 h:p
section
variable{X:Cx}
end
end L2
namespace L2
open PySem
end L2
namespace L3
open PySem PySem.Spec
open L2 hiding Rep RepL
open Mi (Dt FM okR)
def sp0(K:qA1)(mg:Str->Option Value)(L:Nat)(f:FM):Sp:=fun vs H Q _=>@spM ⟨K⟩ mg L f vs H Q E0
end L3
namespace Mi
open PySem
noncomputable section
def noE{α:Type}(r:R α):R α:=match r with
 |some (.ok a)=>okR a
 |_=>none
def eCallN(f:FM)(am:AM):EM:=fun ρ=>zA2 (am ρ) fun ds=>noE (f ds)
def eMkX(c f:Str)(am:AM):EM:=fun ρ=>zA2 (am ρ) fun ds=>match ds with
 |[d]=>okR (.exc c f d)
 |_=>none
def zV5(c f:Str)(am:AM):SM:=fun r=>zA2 (am (full r)) fun ds=>match ds with
 |[d]=>some (.error ⟨c,f,d⟩)
 |_=>none
def sRaise0(c:Str)(am:AM):SM:=fun r=>zA2 (am (full r)) fun ds=>@ite _ (ds.length<=1000) (qA3 _) (some (.error ⟨c,"",.non⟩)) none
def eAtX(hs:List Str)(f:Str)(a:EM):EM:=fun ρ=>zA2 (a ρ) fun d=>match d with
 |.exc c g x=>if c∈hs/\g=f then okR x else none
 |_=>none
def eIsX(ys ns:List Str)(a:EM):EM:=fun ρ=>zA2 (a ρ) fun d=>match d with
 |.exc c _ _=>if c∈ys then okR (.bl true)else if c∈ns then okR (.bl false)else none
 |_=>none
noncomputable def goneO(i:Nat):Out->Out
 |.nx r=>.nx (r.set i none)
 |.rt d=>.rt d
 |.bk r=>.bk (r.set i none)
 |.ct r=>.ct (r.set i none)
def sTry(vs:List Nat)(j:Option Nat)(e:EM)(hs:List Str)(i:Nat)(s:SM):SM:=fun r=>match e (frz (frzAt vs r))with
 |none=>none
 |some (.ok d)=>okR (.nx (match j with|none=>frzAt vs r|some j=>(frzAt vs r).set j (some (d,0))))
 |some (.error x)=>if x.cls∈hs then zA2 (s ((frzAt vs r).set i (some (.exc x.cls x.f x.d,0)))) fun o=>okR (goneO i o)else none
end
end Mi
namespace L3
open PySem PySem.Spec
open L2 hiding Rep RepL
open Mi (Dt Xn R okR zA2 optR bindR_ok zA4 zAA zA8 zA9 Rh Sl Ro EM TM AM FM IM SM OM Tg Out zAM zAK zAQ full frz frz1 frzAt)
section
variable[Kc]{mg:Str->Option Value}{E:XK}{L n k l:Nat}{te ta tb:TE}{e ea eb ma:EM}{t:TA}{m:AM}
theorem zUJ{f:FM}(A:DA mg E t m 0):DE mg E (zED (spM mg n f) [] E0 t) (Mi.eCallN f m) n:=by
 intro G H σ ρ Q s w p;refine A.step errE s w p fun ds vs G1 H1 S T _ fr o p1=>?_
 refine⟨G1,ds,w.tab.trans fr.ext.g,fr.ext.in',by rw[qBk];exact o.repL,?_⟩;have p2:=PostE.from p1 fr.ext;cases e:f ds with
 |none=>rw[e]at p2;exact p2
 |some r=>
  rw[e]at p2;cases r with
  |error x=>exact p2.elim
  |ok d=>exact p2
def spInit(K:qA1)(f:Str):Sp:=fun vs H Q _=>∃e C y,vs=[.ref e,y]/\H e=some (xn e (.ref C) none)/\PySem.W.xcIn K C=true/\XSet K C f/\∀d,H d=none->d≠e->Q .non (upd (upd H d (.xd [(f,y)])) e (xn e (.ref C) (some d)))
theorem Sat.del{G0 H0 S0:Hp}{σ:St}{ρ:Ro}{G H:Hp}{As:Nat->Addr->Prop}(a:Sat G0 H0 S0 σ ρ G H As)(i:Nat):Sat G0 H0 S0 (σ.set i none) (ρ.set i none) G H As:=by
 refine⟨a.ext,a.stb,a.tab,by simp[a.len],fun j d n e=>?_,a.dis,a.new⟩
 by_cases z:i=j
 ·subst z;have hj:i<ρ.length:=by
   have:=(qA2.mp e).1
   simpa using this
  rw[qAk hj]at e;cases e
 ·rw[qAj z]at e;rw[qAj z];exact a.at j d n e
theorem zRH{G0 H0 S0:Hp}{i:Nat}{r:R Out}{D:Ends}(p:zCW mg E G0 H0 S0 L (zA2 r fun o=>okR (Mi.goneO i o)) D):zCW mg E G0 H0 S0 L r (zU6 i D):=by
 cases r with
 |none=>exact p
 |some r=>
  cases r with
  |error x=>exact p
  |ok o=>
   cases o with
   |nx ρ=>exact fun σ G H As a=>p _ G H As (a.del i)
   |rt d=>exact p
   |bk ρ=>exact fun σ G H As a=>p _ G H As (a.del i)
   |ct ρ=>exact fun σ G H As a=>p _ G H As (a.del i)
theorem zb8{te:XK->TE}{hs:List Str}{c:Value}{i:Nat}{ts:TS}{sm:SM}(j:Option Nat)(vs:List Nat)(hh:∀c'∈hs,∃C,clK Kc.K c'=some C/\qCp Kc.K (.ref C) c=some true)(A:∀E',DE mg E' (te E') e 0)(B:DS mg E L ts sm) :
  DS mg E L (zUV Kc.K c i (fun D E' σ H=>te (E' σ) σ H (fun v H1=>match j with|none=>D.nx σ H1|some j=>D.nx (σ.set j (some v)) H1)) ts) (Mi.sTry vs j e hs i sm):=by
 intro G0 H0 S0 σ ρ G H As D a p;obtain⟨G1,As1,a1⟩:=Sat.frzAt vs a;unfold Mi.sTry at p;refine(A _) G1 H σ (frz (frzAt vs ρ)) _ a1.ext.in' a1.frz ?_;cases ee:e (frz (frzAt vs ρ))with
 |none=>rw[ee]at p;exact p
 |some r=>
  rw[ee]at p;cases r with
  |ok d=>
   intro v G2 H2 S fr o;cases j with
   |none=>exact p σ G1 H2 As1 (a1.grow fr.ext.h)
   |some j=>exact p _ G2 H2 _ ((a1.wider fr.ext).put (i:=j) (S:=fun _=>False) (n:=0) (d:=d) (v:=v) o (fun _ z=>z.elim) (fun _ _ _ _ z=>z.elim))
  |error x=>
   by_cases hm:x.cls∈hs
   ·have p':zCW mg E G0 H0 S0 L (zA2 (sm ((frzAt vs ρ).set i (some (.exc x.cls x.f x.d,0)))) fun o=>okR (Mi.goneO i o)) D:=by
     have p2:zCW mg E G0 H0 S0 L (if x.cls∈hs then zA2 (sm ((frzAt vs ρ).set i (some (.exc x.cls x.f x.d,0)))) fun o=>okR (Mi.goneO i o)else none) D:=p;rw[if_pos hm]at p2;exact p2
    intro c' da G2 H2 x2 hX;obtain⟨e',C,rfl,h1,h2,h3⟩:=hX;obtain⟨C',hc1,hc2⟩:=hh _ hm;rw[h2]at hc1;cases hc1;refine⟨e',.ref C,rfl,x2.in' _ _ h1,hc2,?_⟩;exact B G0 H0 S0 _ _ G2 H2 _ (zU6 i D) ((a1.wider x2).put (i:=i) (S:=fun _=>False) (n:=0) (d:=.exc x.cls x.f x.d) (v:=.ref e') ⟨e',C,da,rfl,.inr h1,h2,h3⟩ (fun _ z=>z.elim) (fun _ _ _ _ z=>z.elim)) (zRH p')
   ·have p2:zCW mg E G0 H0 S0 L (if x.cls∈hs then zA2 (sm ((frzAt vs ρ).set i (some (.exc x.cls x.f x.d,0)))) fun o=>okR (Mi.goneO i o)else none) D:=p;rw[if_neg hm]at p2;exact p2.elim
noncomputable def kitV(K:qA1)(C:Addr):V->Option Bool
 |.ref c=>qBr K (.ref C) (.ref c)
 |.ty n=>qBr K (.ref C) (.type n)
 |_=>none
theorem zaV{ys ns:List Str}{ρ:Rh}{P:V->Hp->(V->Hp->Prop)->Prop}{b0:Addr->Bool->Prop}{G H:Hp}{σ:St}{Q:VK}(hy:∀c∈ys,∃C,clK Kc.K c=some C/\Xc.XIs Kc.K C/\b0 C true)(hn:∀c∈ns,∃C,clK Kc.K c=some C/\Xc.XIs Kc.K C/\b0 C false)(A:DE mg E ta ma k)(s:Same G H)(w:View G σ ρ)
  (p:PostE mg E G H 0 (Mi.eIsX ys ns ma ρ) Q) (h:∀e C d G1 H1 b,Ext G H G1 H1->isX H1 e C d->(∀a,d=some a->∃fs,H1 a=some (.xd fs))->Xc.XIs Kc.K C->b0 C b->(∀G2 H2,Ext G1 H1 G2 H2->Q (.bl b) H2)->P (.ref e) H1 Q):ta σ H fun x H1=>P x H1 Q:=by
 refine(zAJ A).step errE s w p fun d v G1 H1 S _ fr o p1=>?_
 cases d with
 |exc c g x=>
  obtain⟨e,C,da,rfl,hx,hc,r⟩:=o;have hx':isX H1 e C da:=hx.imp (fun z=>fr.ext.in' _ _ z) fun z=>fr.ext.in' _ _ z
  have hd:∀a,da=some a->∃fs,H1 a=some (.xd fs):=fun a ea=>by
   rcases r with⟨z,_⟩|⟨a',gs,y,z,h1,_⟩
   ·rw[z]at ea;cases ea
   ·rw[z]at ea;cases ea;exact⟨gs,fr.ext.in' _ _ h1⟩
  dsimp only at p1
  split at p1
  ·rename_i hm
   obtain⟨C',hc',c1,c2⟩:=hy c hm;rw[hc]at hc';cases hc';exact h e C da G1 H1 true fr.ext hx' hd c1 c2 fun G2 H2 x2=>PostE.val p1 (fr.ext.trans x2) rfl rfl
  ·split at p1
   ·rename_i hm
    obtain⟨C',hc',c1,c2⟩:=hn c hm;rw[hc]at hc';cases hc';exact h e C da G1 H1 false fr.ext hx' hd c1 c2 fun G2 H2 x2=>PostE.val p1 (fr.ext.trans x2) rfl rfl
   ·exact p1.elim
 |_=>exact p1.elim
theorem zNZ{ys ns:List Str}{y:V}(hy:∀c∈ys,∃C,clK Kc.K c=some C/\Xc.XIs Kc.K C/\kitV Kc.K C y=some true)(hn:∀c∈ns,∃C,clK Kc.K c=some C/\Xc.XIs Kc.K C/\kitV Kc.K C y=some false)(A:DE mg E ta ma k) :
  DE mg E (tCB (zX6 Kc.K) (zEC ta (zEC (tC y) tNil))) (Mi.eIsX ys ns ma) 0:=by
 intro G H σ ρ Q s w p;refine zaV (P:=fun x H1 Q=>zX6 Kc.K [x,y] H1 Q) (b0:=fun C b=>kitV Kc.K C y=some b) hy hn A s w p fun e C d G1 H1 b x1 hx hd c1 c2 q=>?_
 refine⟨e,C,d,y,b,rfl,hx,hd,c1,q G1 H1 (Ext.refl x1.in'),?_⟩;cases y with
 |ref c=>exact .inl ⟨c,rfl,c2⟩
 |ty n=>exact .inr (.inl ⟨n,rfl,c2⟩)
 |_=>cases c2
end
section
variable{K:qA1}{C D:Addr}{dd:Option Addr}{cd:ClassData}{sl:Array (Option Value)}{b:Bool}
def xcD(C:Addr)(cd:ClassData)(sl:Array (Option Value)):Bool:=match cd.mro,sl.toList with
 |.ref C'::bm,[_,_,_,_,some (.builtin n),_]=>C'==C && !cd.hasDel&&PySem.W.excTail bm&&n == "ValueError.__new__" && cd.hasDict
 |_,_=>false
theorem zI7(h:K.lookup C=some ⟨.type "type",dd,.cls cd,sl⟩)(h':xcD C cd sl=true):PySem.W.xcIn K C=true:=by
 unfold PySem.W.xcIn;rw[h];exact h'
theorem zGW(h1:qBt K D=some cd)(h2:qBu K (.ref D)=some (.type "type"))(h3:qAo K (.ref C) (.ref D)=some b):PySem.W.kitCls K (.ref C) (.ref D)=some b:=by
 show(if((qBt K D).isSome&&qBu K (.ref D)==some (.type "type"))=true then qAo K (.ref C) (.ref D)else none)=some b
 rw[h1,h2,if_pos (by rw[qDv,Bool.true_and];exact beq_self_eq_true _)];exact h3
theorem zIY(h1:qBt K D=some cd)(h2:qBu K (.ref D)=some (.type "type"))(h3:qAo K (.ref C) (.ref D)=some true):qBr K (.ref C) (.ref D)=some true:=by
 unfold qBr
 split
 ·rfl
 ·exact zGW h1 h2 h3
theorem zC4(h1:qBt K D=some cd)(h2:qBu K (.ref D)=some (.type "type"))(h3:qAo K (.ref C) (.ref D)=some false)(ne:(C==D)=false):qBr K (.ref C) (.ref D)=some false:=by
 unfold qBr
 split
 ·rename_i z
  have:C=D:=qLw (beq_iff_eq.mp z)
  rw[this,beq_self_eq_true]at ne;cases ne
 ·exact zGW h1 h2 h3
theorem zEU(h3:qAo K (.ref C) (.type "ValueError")=some true):qBr K (.ref C) (.type "ValueError")=some true:=by
 unfold qBr
 split
 ·rfl
 ·show(if PySem.W.kitMeta "ValueError" = true then qAo K (.ref C) (.type "ValueError")else none)=some true
  rw[if_pos (by decide +kernel)];exact h3
theorem zEW(h0:qAo K (.ref D) (.type "BaseException")=some true)(h1:qBt K D=some cd)(h2:qBu K (.ref D)=some (.type "type"))(h3:qAo K (.ref C) (.ref D)=some true):qCp K (.ref C) (.ref D)=some true:=by
 unfold qCp;rw[h0,if_pos (beq_self_eq_true _)];exact zGW h1 h2 h3
end
structure XCls(K:qA1)(mg:Str->Option Value)(c:Str)(C:Addr):Prop where
 cl:clK K c=some C
 gm:mg c=some (.ref C)
 is:Xc.XIs K C
theorem zBT{K:qA1}{c:Str}{C:Addr}(h:qB0 K qI3 c=some (some (.ref C))):clK K c=some C:=by unfold clK;rw[h]
theorem zHD:qIl "ValueError" = some (.type "ValueError"):=by decide +kernel
theorem zQH{P:qI0}{w:World}{K:qA1}{mg:Str->Option Value}{base:Heap}{N:List Str}{qual:Str}{scope:Scope}{f:Addr}{cd:Value}{A:qI4}{outer:List Env}{s:qHx}{H:Hp}{E:XK} :
  PassesOwn (model P w) (A.deeper (qFd qual scope s.heap.objs.size f cd)) (qFd qual scope s.heap.objs.size f cd) (cxOf (CXe P w) P w K mg base N qual scope f cd A outer s H E).xe:=PassesOwn.leaving
def spE(K:qA1)(mg:Str->Option Value)(L:Nat)(f:Mi.FM):Sp:=fun vs H Q E=>@spM ⟨K⟩ mg L f vs H Q E
section
variable[Kc]{mg:Str->Option Value}{E:XK}{L n k l:Nat}{te ta tb:TE}{e ea eb ma:EM}{t:TA}{m:AM}
theorem zDV{f:FM}{E':XK}(A:DA mg E t m 0):DE mg E (zED (sp0 Kc.K mg n f) [] E' t) (Mi.eCallN f m) n:=zUJ A
theorem zF0{f:FM}(A:DA mg E t m 0):DE mg E (zED (spE Kc.K mg n f) [] E t) (Mi.eCall f m) n:=zB5 A
end
def zHT(K:qA1):Sp:=fun vs H Q _=>∃(a:Addr)(ns:List Int),vs=[.ref a]/\Same (tabK K) H/\SqL K H a (ns.map V.int)/\ns.length<=63/\(∀i∈ns,i.natAbs.log2<2 ^ 20)/\∀H',Same (tabK K) H'->Q (.bl true) H'
theorem zTW{K:qA1}{mg:Str->Option Value}{L:Nat}{f:FM}(hf:∀ns:List Int,ns.length<=63->(∀i∈ns,i.natAbs.log2<2 ^ 20)->f [.scr ns]=okR (.bl true)):∀vs H Q E,zHT K vs H Q E->sp0 K mg L f vs H Q E:=by
 letI:Kc:=⟨K⟩
 rintro vs H Q E ⟨a,ns,rfl,tb,hS,hl,hw,q⟩
 refine⟨H,[.scr ns],tb,Same.refl _,⟨_,_,rfl,⟨a,rfl,.inl hS⟩,rfl⟩,?_⟩;rw[hf ns hl hw];intro v G' H' S fr o
 cases(show v=.bl true by cases L<;>exact o)
 exact q H' (tb.trans fr.ext.h)
end L3
namespace Mi
open PySem
section
variable(ρ:Rh)(r:Ro)(a b c:EM)(s t:SM)(q q':TM)(am:AM)
@[simp] theorem x_eC(d:Dt):eC d ρ=okR d:=rfl
@[simp] theorem x_eV(i:Nat):eV i ρ=match ρ[i]? with|some (some d)=>okR d|_=>none:=rfl
@[simp] theorem x_eB(f:Dt->Dt->Option Dt):eB f a b ρ=zA2 (a ρ) fun x=>zA2 (b ρ) fun y=>optR (f x y):=rfl
@[simp] theorem x_eU(f:Dt->Option Dt):eU f a ρ=zA2 (a ρ) fun x=>optR (f x):=rfl
@[simp] theorem zE2:aNil ρ=okR []:=rfl
@[simp] theorem zC0:aCons a am ρ=zA2 (a ρ) fun x=>zA2 (am ρ) fun xs=>okR (x::xs):=rfl
@[simp] theorem zLL(f:FM):eCall f am ρ=zA2 (am ρ) f:=rfl
@[simp] theorem zYW(f:List Dt->Option Dt):eBi f am ρ=zA2 (am ρ) fun xs=>optR (f xs):=rfl
@[simp] theorem x_eLst:eLst am ρ=zA2 (am ρ) fun xs=>@ite _ (xs.length<=100000) (qA3 _) (okR (.lst xs)) none:=rfl
@[simp] theorem x_eTup:eTup am ρ=zA2 (am ρ) fun xs=>@ite _ (xs.length<=100000) (qA3 _) (okR (.tup xs)) none:=rfl
@[simp] theorem x_eIsi(n:String):eIsi n a ρ=zA2 (a ρ) fun x=>optR (isiD n x):=rfl
@[simp] theorem x_eAnd:eAnd a b ρ=zA2 (a ρ) fun x=>match x with | .bl k=>if k=true then b ρ else okR (.bl false)|_=>none:=rfl
@[simp] theorem x_eOr:eOr a b ρ=zA2 (a ρ) fun x=>match x with | .bl k=>if k=true then okR (.bl true)else b ρ|_=>none:=rfl
@[simp] theorem x_eNot:eNot a ρ=zA2 (a ρ) fun x=>match x with | .bl k=>okR (.bl (!k))|_=>none:=rfl
@[simp] theorem x_eChain(f g:Dt->Dt->Option Dt):zb6 f g a b c ρ=zA2 (a ρ) fun x=>zA2 (b ρ) fun y=>zA2 (optR (f x y)) fun z=>match z with | .bl k=>if k=true then zA2 (c ρ) fun w=>optR (g y w)else okR (.bl false)|_=>none:=rfl
@[simp] theorem x_eIf:eIf q a b ρ=zA2 (q ρ) fun k=>if k=true then a ρ else b ρ:=rfl
@[simp] theorem x_tB:tB a ρ=zA2 (a ρ) fun x=>match x with | .bl k=>okR k|_=>none:=rfl
@[simp] theorem x_tM:tM a ρ=zA2 (a ρ) fun x=>match x with | .bl k=>okR k | .int i=>okR (i != 0) | .non=>okR false|_=>none:=rfl
@[simp] theorem x_tAn:tAn q q' ρ=zA2 (q ρ) fun k=>if k=true then q' ρ else okR false:=rfl
@[simp] theorem zYV:tOr q q' ρ=zA2 (q ρ) fun k=>if k=true then okR true else q' ρ:=rfl
@[simp] theorem zbT:tNo q ρ=zA2 (q ρ) fun k=>okR (!k):=rfl
@[simp] theorem zYU:tYes ρ=okR true:=rfl
@[simp] theorem zPH:sNil r=okR (.nx r):=rfl
@[simp] theorem zE1:sSeq s t r=zA2 (s r) fun o=>match o with | .nx ρ'=>t ρ'|o=>okR o:=rfl
@[simp] theorem zEK:sIf q s t r=zA2 (q (full r)) fun k=>if k=true then s r else t r:=rfl
@[simp] theorem x_sDrop:zc6 a r=zA2 (a (full r)) fun _=>okR (.nx r):=rfl
@[simp] theorem x_sBreak:zZC r=okR (.bk r):=rfl
@[simp] theorem x_sCont:zc8 r=okR (.ct r):=rfl
@[simp] theorem x_sNever:zZB r=none:=rfl
@[simp] theorem x_sRetN:zc4 r=okR (.rt .non):=rfl
@[simp] theorem zJS(i n:Nat)(vs:List Nat):sSet i n vs a r=zA2 (a (full r)) fun d=>if d.dep<=n then okR (.nx (r.set i (some (d,n))))else zA2 (a (frz (frzAt vs r))) fun d'=>okR (.nx ((frzAt vs r).set i (some (d',n)))):=rfl
@[simp] theorem zUS(L n:Nat)(vs:List Nat):sRet L n vs a r=zA2 (a (full r)) fun d=>if d.dep<=n/\d.dep<=L then okR (.rt d)else if n=L then zA2 (a (frz (frzAt vs r))) fun d'=>okR (.rt d')else none:=rfl
@[simp] theorem x_sRetV(L i:Nat):sRetV L i r=match r[i]? with|some (some (d,k))=>if k=L\/L=0\/(d.dep<=k/\d.dep<=L/\k<1000)then okR (.rt d)else none|_=>none:=rfl
@[simp] theorem x_full_nil:full []=[]:=rfl
@[simp] theorem x_full_cons(o:Option Sl)(r:Ro):full (o::r)=o.map qF6::full r:=rfl
@[simp] theorem x_frz_nil:frz []=[]:=rfl
@[simp] theorem x_frz_none(r:Ro):frz (none::r)=none::frz r:=rfl
@[simp] theorem x_frz_some(d:Dt)(n:Nat)(r:Ro):frz (some (d,n)::r)=(if n=0\/d.dep=0 then some d else none)::frz r:=rfl
@[simp] theorem x_frzAt_nil(r:Ro):frzAt [] r=r:=rfl
@[simp] theorem x_frzAt_cons(i:Nat)(v:List Nat)(r:Ro):frzAt (i::v) r=frzAt v (frz1 i r):=rfl
@[simp] theorem x_frz1(i:Nat)(r:Ro):frz1 i r=match r[i]? with|some (some (d,_))=>r.set i (some (d,0))|_=>r:=rfl
@[simp] theorem x_startO(n:Nat)(ds:List Dt):startO n ds=ds.map (fun d=>some (d,0))++qA4 (n-ds.length) none:=rfl
@[simp] theorem x_runF(P n:Nat)(ds:List Dt):runF P n s ds=if ds.length=P then zA2 (s (startO n ds)) endF else none:=rfl
@[simp] theorem x_end1(r:Ro):endF (.nx r)=okR .non:=rfl
@[simp] theorem x_end2(d:Dt):endF (.rt d)=okR d:=rfl
end
@[simp] theorem v_add(i j:Int):addD (.int i) (.int j)=some (.int (i+j)):=rfl
@[simp] theorem zYY(i j:Str):addD (.str i) (.str j)=@ite _ (i.length+j.length<=100000) (qA3 _) (some (.str (i++j))) none:=rfl
@[simp] theorem v_addL(i j:List Dt):addD (.lst i) (.lst j)=@ite _ (i.length+j.length<=100000) (qA3 _) (some (.lst (i++j))) none:=rfl
@[simp] theorem v_sub(i j:Int):subD (.int i) (.int j)=some (.int (i-j)):=rfl
@[simp] theorem zYX(i j:Int):mulD (.int i) (.int j)=@ite _ (((-18446744073709551616<i/\i<18446744073709551616)\/(-18446744073709551616<j/\j<18446744073709551616))\/i.natAbs.log2+j.natAbs.log2<=67108864) (qA3 _) (some (.int (i*j))) none:=rfl
@[simp] theorem v_div(i j:Int):divD (.int i) (.int j)=@ite _ (0<j/\j<1000000000000000000000000) (qA3 _) (some (.int (i/j))) none:=rfl
@[simp] theorem v_mod(i j:Int):modD (.int i) (.int j)=if 0<j then some (.int (i%j))else none:=rfl
@[simp] theorem v_pow(i j:Int):powD (.int i) (.int j)=@ite _ (0<=j/\j<=1000000/\i.natAbs<18446744073709551616) (qA3 _) (some (.int (i ^ j.toNat))) none:=rfl
@[simp] theorem v_neg(i:Int):negD (.int i)=some (.int (-i)):=rfl
@[simp] theorem v_cmp(p:Int->Int->Bool)(i j:Int):cmpD p (.int i) (.int j)=some (.bl (p i j)):=rfl
@[simp] theorem v_eq(x y:Dt):eqD x y=if x.dep<=40/\y.dep<=40 then some (.bl (Dt.eq x y))else none:=rfl
@[simp] theorem v_ne(x y:Dt):neD x y=if x.dep<=40/\y.dep<=40 then some (.bl (!Dt.eq x y))else none:=rfl
@[simp] theorem v_is(x:Dt):isD x .non=some (.bl (isNonD x)):=rfl
@[simp] theorem v_isnt(x:Dt):zcS x .non=some (.bl (!isNonD x)):=rfl
@[simp] theorem v_isN1:isNonD .non=true:=rfl
@[simp] theorem v_isN2(i:Int):isNonD (.int i)=false:=rfl
@[simp] theorem v_isN3(i:List Dt):isNonD (.lst i)=false:=rfl
@[simp] theorem v_isN4(i:List Dt):isNonD (.tup i)=false:=rfl
@[simp] theorem v_isN5(i:Str):isNonD (.str i)=false:=rfl
@[simp] theorem v_isN6(i:Bool):isNonD (.bl i)=false:=rfl
@[simp] theorem v_ixL(xs:List Dt)(i:Int):ixD (.lst xs) (.int i)=itA xs i:=rfl
@[simp] theorem v_ixT(xs:List Dt)(i:Int):ixD (.tup xs) (.int i)=itA xs i:=rfl
@[simp] theorem v_ixS(ns:List Int)(i:Int):ixD (.scr ns) (.int i)=(itA ns i).map .int:=rfl
@[simp] theorem v_lenL(xs:List Dt):lenD [.lst xs]=some (.int xs.length):=rfl
@[simp] theorem v_lenT(xs:List Dt):lenD [.tup xs]=some (.int xs.length):=rfl
@[simp] theorem v_lenS(ns:List Int):lenD [.scr ns]=some (.int ns.length):=rfl
@[simp] theorem v_listL(xs:List Dt):listD [.lst xs]=some (.lst xs):=rfl
@[simp] theorem v_listT(xs:List Dt):listD [.tup xs]=some (.lst xs):=rfl
@[simp] theorem v_listS(ns:List Int):listD [.scr ns]=some (.lst (ns.map .int)):=rfl
theorem zWM{j:Int}(h0:0<=j)(h1:j<=100000):rangeD [.int j]=some (.lst (nums 0 j.toNat)):=by
 show(@ite _ ((-4611686018427387904<=j/\j<4611686018427387904)/\j<=100000) (qA3 _) (some (Dt.lst (nums 0 j.toNat))) none)=_
 rw[if_pos ⟨⟨by lia,by lia⟩,h1⟩]
@[simp] theorem v_dn:Dt.non.dep=0:=rfl
@[simp] theorem v_db(b:Bool):(Dt.bl b).dep=0:=rfl
@[simp] theorem v_di(b:Int):(Dt.int b).dep=0:=rfl
@[simp] theorem v_ds(b:Str):(Dt.str b).dep=0:=rfl
@[simp] theorem v_dS(b:List Int):(Dt.scr b).dep=1000:=by rw[Dt.dep]
@[simp] theorem v_dl(xs:List Dt):(Dt.lst xs).dep=Dt.depL xs+1:=by rw[Dt.dep]
@[simp] theorem v_dt(xs:List Dt):(Dt.tup xs).dep=Dt.depL xs+1:=by rw[Dt.dep]
@[simp] theorem v_dnil:Dt.depL []=0:=by rw[Dt.depL]
@[simp] theorem zGG(x:Dt)(r:List Dt):Dt.depL (x::r)=max x.dep (Dt.depL r):=by rw[Dt.depL]
@[simp] theorem v_e1(i j:Int):Dt.eq (.int i) (.int j)=decide (i=j):=by rw[Dt.eq];by_cases h:i=j<;>simp[h]
@[simp] theorem v_e2(i j:Str):Dt.eq (.str i) (.str j)=decide (i=j):=by rw[Dt.eq];by_cases h:i=j<;>simp[h]
@[simp] theorem v_e3(i j:Bool):Dt.eq (.bl i) (.bl j)=decide (i=j):=by rw[Dt.eq];by_cases h:i=j<;>simp[h]
@[simp] theorem v_e4(i j:List Dt):Dt.eq (.lst i) (.lst j)=Dt.eqL i j:=by rw[Dt.eq]
@[simp] theorem v_e5(i j:List Dt):Dt.eq (.tup i) (.tup j)=Dt.eqL i j:=by rw[Dt.eq]
@[simp] theorem v_e6:Dt.eq .non .non=true:=by rw[Dt.eq]
@[simp] theorem zCT:∀(ns:List Int),Dt.depL (ns.map Dt.int)=0
 |[]=>by simp
 |n::r=>by rw[qAg,zGG,zCT r];rfl
@[simp] theorem zUH:∀(xs ys:List Dt),Dt.depL (xs++ys)=max (Dt.depL xs) (Dt.depL ys)
 |[],ys=>by simp
 |x::r,ys=>by rw[qEn,zGG,zGG,zUH r ys];exact(qHd _ _ _).symm
@[simp] theorem zEY:∀(ns ms:List Int),Dt.eqL (ns.map Dt.int) (ms.map Dt.int)=decide (ns=ms)
 |[],[]=>by simp[Dt.eqL]
 |[],_::_=>by simp[Dt.eqL]
 |_::_,[]=>by simp[Dt.eqL]
 |n::r,m::q=>by rw[qAg,qAg,Dt.eqL,zEY r q,v_e1];simp
theorem zH1{α:Type}{xs:List α}{i:Int}{j:Nat}{v:α}(e:i=(j:Int))(h:xs[j]?=some v):itA xs i=some v:=by
 have hj:j<xs.length:=(qA2.mp h).1;subst e;unfold itA ixA;rw[if_pos (by lia),if_pos (by lia)]
 simpa using h
theorem zH0{n:Nat}{i:Int}(h0:0<=i)(h1:i<n):ixA n i=some i.toNat:=by
 unfold ixA;rw[if_pos h0,if_pos h1]
theorem zJ5{ns:List Int}{i:Int}(h0:0<=i)(h1:i<ns.length):itA (ns.map Dt.int) i=some (.int (ns.getD i.toNat 0)):=by
 refine zH1 (j:=i.toNat) (by lia) ?_;rw[qAf,qA0,qA5 (by lia)];rfl
theorem zY8{ns:List Int}{i:Int}(h0:0<=i)(h1:i<ns.length):itA ns i=some (ns.getD i.toNat 0):=by
 refine zH1 (j:=i.toNat) (by lia) ?_;rw[qA0,qA5 (by lia)];rfl
@[simp] theorem set_int(ns:List Int)(i:Nat)(x:Int):(ns.map Dt.int).set i (.int x)=(ns.set i x).map Dt.int:=by rw[qDx]
theorem zGA{ρ:Rh}{k:Nat}{tg:Tg}{c:TM}{e:EM}(f:Dt->Dt):∀(ds acc:List Dt),(∀d∈ds,∃bs,zAM tg d=some bs/\c (zAK (ρ++qA4 k none) bs)=okR true/\e (zAK (ρ++qA4 k none) bs)=okR (f d))->compGo ρ k tg c e ds acc=okR (acc++ds.map f)
 |[],acc,_=>by simp[compGo]
 |d::ds,acc,h=>by
  obtain⟨bs,h1,h2,h3⟩:=h d (by simp);rw[compGo,h1];simp only;rw[h2,bindR_ok,if_pos rfl,h3,bindR_ok,zGA f ds (acc++[f d]) fun d hd=>h d (by simp[hd])];simp
theorem zD7{ρ:Rh}{k:Nat}{tg:Tg}{c:TM}{e:EM}(p:Dt->Bool)(f:Dt->Dt):∀(ds acc:List Dt),(∀d∈ds,∃bs,zAM tg d=some bs/\c (zAK (ρ++qA4 k none) bs)=okR (p d)/\(p d=true->e (zAK (ρ++qA4 k none) bs)=okR (f d)))->compGo ρ k tg c e ds acc=okR (acc++(ds.filter p).map f)
 |[],acc,_=>by simp[compGo]
 |d::ds,acc,h=>by
  obtain⟨bs,h1,h2,h3⟩:=h d (by simp);rw[compGo,h1];simp only;rw[h2,bindR_ok];cases hp:p d with
  |true=>
   rw[if_pos rfl,h3 hp,bindR_ok,zD7 p f ds (acc++[f d]) fun d hd=>h d (by simp[hd])];simp[hp]
  |false=>
   rw[if_neg (by decide),zD7 p f ds acc fun d hd=>h d (by simp[hd])];simp[hp]
theorem zEH{tg:Tg}{b:SM}(Pv:Nat->Ro->Prop):∀(ds:List Dt)(i:Nat)(r:Ro),Pv i r->(∀(j:Nat)(d:Dt)(r:Ro),ds[j]?=some d->Pv (i+j) r->∃bs r',zAM tg d=some bs/\b (zAQ r bs)=okR (.nx r')/\Pv (i+j+1) r') ->
  ∃r',forGo tg b ds r=okR (.nx r')/\Pv (i+ds.length) r'
 |[],i,r,h,_=>⟨r,by simp[forGo],by simpa using h⟩
 |d::ds,i,r,h,hs=>by
  obtain⟨bs,r1,h1,h2,h3⟩:=hs 0 d r (by simp) (by simpa using h);obtain⟨r2,h4,h5⟩:=zEH Pv ds (i+1) r1 (by simpa using h3) fun j e r he hp=>by
   have:=hs (j+1) e r (by simpa using he) (by rw[show i+(j+1)=i+1+j by lia];exact hp)
   rw[show i+1+j+1=i+(j+1)+1 by lia];exact this
  refine⟨r2,?_,by rw[qAx,show i+(ds.length+1)=i+1+ds.length by lia];exact h5⟩;rw[forGo,h1];simp only;rw[h2,bindR_ok];exact h4
section
variable(ρ:Rh)(r:Ro)(a:EM)(am:AM)(s:SM)
@[simp] theorem x_noE_ok{α:Type}(x:α):noE (okR x)=okR x:=rfl
@[simp] theorem x_noE_none{α:Type}:noE (none:R α)=none:=rfl
@[simp] theorem x_noE_err{α:Type}(e:Xn):noE (some (.error e):R α)=none:=rfl
@[simp] theorem zMV(f:FM):eCallN f am ρ=zA2 (am ρ) fun ds=>noE (f ds):=rfl
@[simp] theorem x_eMkX(c f:Str):eMkX c f am ρ=zA2 (am ρ) fun ds=>match ds with|[d]=>okR (.exc c f d)|_=>none:=rfl
@[simp] theorem x_sRaise(c f:Str):zV5 c f am r=zA2 (am (full r)) fun ds=>match ds with|[d]=>some (.error ⟨c,f,d⟩)|_=>none:=rfl
@[simp] theorem x_eAtX(hs:List Str)(f:Str):eAtX hs f a ρ=zA2 (a ρ) fun d=>match d with | .exc c g x=>if c∈hs/\g=f then okR x else none|_=>none:=rfl
@[simp] theorem x_eIsX(ys ns:List Str):eIsX ys ns a ρ=zA2 (a ρ) fun d=>match d with | .exc c _ _=>if c∈ys then okR (.bl true)else if c∈ns then okR (.bl false)else none|_=>none:=rfl
@[simp] theorem x_gone_nx(i:Nat):goneO i (.nx r)=.nx (r.set i none):=rfl
@[simp] theorem x_gone_rt(i:Nat)(d:Dt):goneO i (.rt d)=.rt d:=rfl
theorem zWW{vs:List Nat}{j:Option Nat}{hs:List Str}{i:Nat}{x:Xn}(h:a (frz (frzAt vs r))=some (.error x))(hm:x.cls∈hs):sTry vs j a hs i s r=zA2 (s ((frzAt vs r).set i (some (.exc x.cls x.f x.d,0)))) fun o=>okR (goneO i o):=by
 unfold sTry;rw[h];exact if_pos hm
end
example (d:Dt):True:=trivial
end Mi
namespace L2
open PySem PySem.Spec PyProof.Rows
section
variable{X:Cx}
noncomputable def zZK:R2:=fun x y H Q=>match x,y with
 |.int i,.int j=>Q (.int (qIw i j)) H
 |_,_=>False
theorem zYZ:OpR X (binaryOp .BitXor) zZK:=by
 intro pins s σ H x y v u Q I rx ry h;cases x<;>cases y<;>first
  |exact za2 pins s σ H _ _ v u Q I rx ry ⟨_,_,rfl,rfl,h⟩
  |exact qA8 h
def zZP:R2:=fun x y H Q=>match x,y with
 |.ref l,.int k=>∃xs,H l=some (.lst xs)/\(-(2 ^ 63)<=k/\k<2 ^ 63)/\xs.length*k.toNat<=sizeLine/\∀p,H p=none->Q (.ref p) (upd H p (.lst (qA4 k.toNat xs).flatten))
 |_,_=>False
theorem zWN:OpR X (binaryOp .Mult) zZP:=by
 intro pins s σ H x y v u Q I rx ry h;cases x<;>cases y<;>first
  |(obtain⟨xs,h1,h2,h3,h4⟩:=h;exact za4 pins s σ H _ _ v u Q I rx ry ⟨_,_,xs,rfl,rfl,h1,h2.1,h2.2,h3,h4⟩)
  |exact qA8 h
def extM:V->List V->Hp->VK->Prop:=fun x vs H Q=>match x,vs with
 |.ref l,[.ref b]=>∃xs zs,H l=some (.lst xs)/\H b=some (.lst zs)/\xs.length+zs.length<=sizeLine/\Q .non (upd H l (.lst (xs++zs)))
 |_,_=>False
theorem zXU:MtR X "list.extend" extM:=by
 intro pins s σ H x vs v us Q I rx rv h;cases x with
 |ref l=>
  cases vs with
  |nil=>exact qA8 h
  |cons hd1 tl1=>
   cases hd1 with
   |ref b=>
    cases tl1 with
    |nil=>
     obtain⟨xs,zs,h1,h2,h3,h4⟩:=h;exact zQU pins s σ H _ _ v us Q I rx rv ⟨l,b,xs,zs,rfl,rfl,h1,h2,h3,h4⟩
    |cons _ _=>exact qA8 h
   |_=>exact qA8 h
 |_=>exact qA8 h
noncomputable def posI(k:Int):List Int->Option Nat
 |[]=>none
 |x::r=>if x=k then some 0 else(posI k r).map (·+1)
theorem zRC:∀{ns:List Int}{us:List Value},Vals (ns.map V.int) us->qGb us=true
 |[],_,.nil=>rfl
 |n::r,_,.cons a t=>by obtain⟨k,rfl⟩:=a;have:=zRC (ns:=r) t;simpa[qGb]using this
theorem zVD{k:Int}:∀{ns:List Int}{us:List Value}{j:Nat},Vals (ns.map V.int) us->posI k ns=some j->qHe k us=some j
 |[],_,_,.nil,h=>by cases h
 |n::r,_,j,.cons a t,h=>by
  obtain⟨q,rfl⟩:=a;unfold posI at h;unfold qHe
  by_cases e:n=k
  ·rw[if_pos e]at h;cases h;subst e;simp[qDy]
  ·rw[if_neg e]at h;cases h':posI k r with
   |none=>rw[h']at h;cases h
   |some z=>
    rw[h']at h;cases h;rw[zVD t h'];have hb:(n==k)=false:=by simpa using e
    simp[qDy,hb]
def lixM:V->List V->Hp->VK->Prop:=fun x vs H Q=>match x,vs with
 |.ref l,[.int k]=>∃ns j,H l=some (.lst (ns.map V.int))/\posI k ns=some j/\Q (.int j) H
 |_,_=>False
theorem zXS:MtR X "list.index" lixM:=by
 intro pins s σ H x vs v us Q I rx rv h;cases x with
 |ref l=>
  cases vs with
  |nil=>exact qA8 h
  |cons hd1 tl1=>
   cases hd1 with
   |int k=>
    cases tl1 with
    |nil=>
     obtain⟨ns,j,h1,h2,h3⟩:=h;cases rx;obtain⟨u,rfl,ru⟩:=zF8 rv;obtain⟨t,rfl⟩:=ru;obtain⟨z,its,n,r,hl,e⟩:=I.lstM h1;obtain⟨a,b,c⟩:=PySem.W.kf_at_spec (zVD r h2);rw[qIq]at z;refine call_meets qEe ⟨_,e,rfl⟩ PySem.F.entry_list_index (PySem.F.args_list_index_2 _ _)
      (MeetsSeq.list_index l its.toArray n (.int k t) (qDy k) (fun y hy=>PySem.W.kf_eq (zRC r) y (by simpa using hy)) j (by simpa using a) (by lia) (by simpa using b) (fun i hi hlt=>by simpa using c i (by simpa using hi) hlt)) ⟨e,?_⟩
     exact⟨.int _,H,I.tok _,⟨_,rfl⟩,h3⟩
    |cons _ _=>exact qA8 h
   |_=>exact qA8 h
 |_=>exact qA8 h
theorem zI2{x:V}:∀{xs:List V}{us:List Value},Vals xs us->xs.all zDN=true->us.countP (eqU x)=xs.countP fun y=>eqV y x
 |_,_,.nil,_=>rfl
 |y::xs,u::us,.cons r t,f=>by
  rw[qCx,qBf]at f;rw[qCq,qCq,zRQ r f.1,zI2 t f.2]
def lcoM:V->List V->Hp->VK->Prop:=fun x vs H Q=>match x,vs with
 |.ref l,[y]=>∃xs,H l=some (.lst xs)/\zDN y=true/\xs.all zDN=true/\Q (.int (xs.countP fun z=>eqV z y:Nat)) H
 |_,_=>False
theorem zXT:MtR X "list.count" lcoM:=by
 intro pins s σ H x vs v us Q I rx rv h;cases x with
 |ref l=>
  cases vs with
  |nil=>exact qA8 h
  |cons y tl1=>
   cases tl1 with
   |nil=>
    obtain⟨xs,h1,h2,h3,h4⟩:=h;cases rx;obtain⟨u,rfl,ru⟩:=zF8 rv;obtain⟨z,its,n,r,hl,e⟩:=I.lstM h1;refine call_meets qEf ⟨_,e,rfl⟩ PySem.F.entry_list_count (PySem.F.args_list_count_2 _ _)
     (SeqAt.list_countAt l its.toArray n none #[] u (eqU y)) ⟨e,fun w hw=>zG7 ru h2 r h3 w (by simpa using hw),?_⟩
    refine⟨.int _,H,I.tok _,⟨_,rfl⟩,?_⟩;rw[show its.toArray.toList=its from rfl,zI2 r h3];exact h4
   |cons _ _=>exact qA8 h
 |_=>exact qA8 h
end
section
variable{X:Cx}{K:qA1}
end
end L2
namespace Mi
open PySem
noncomputable section
noncomputable def xorD:Dt->Dt->Option Dt
 |.int i,.int j=>some (.int (qIw i j))
 |_,_=>none
noncomputable def repD:Dt->Dt->Option Dt
 |.lst xs,.int k=>@ite _ ((-4611686018427387904<=k/\k<4611686018427387904)/\xs.length*k.toNat<=100000) (qA3 _) (some (.lst (qA4 k.toNat xs).flatten)) none
 |_,_=>none
def tL(a:EM):TM:=fun ρ=>zA2 (a ρ) fun x=>match x with
 |.bl k=>okR k
 |.int i=>okR (i != 0)
 |.non=>okR false
 |.lst xs=>okR (!xs.isEmpty)
 |.tup xs=>okR (!xs.isEmpty)
 |_=>none
def iRv(e:AM):IM:=fun ρ=>zA2 (e ρ) fun vs=>match vs with
 |[.lst xs]=>okR xs.reverse
 |_=>none
noncomputable def intsD:List Dt->Option (List Int)
 |[]=>some []
 |.int i::r=>(intsD r).map (i::·)
 |_::_=>none
def posI(k:Int):List Int->Option Nat
 |[]=>none
 |x::r=>if x=k then some 0 else(posI k r).map (·+1)
def eMl(f:List Dt->List Dt->Option Dt)(a:EM)(am:AM):EM:=fun ρ=>zA2 (a ρ) fun x=>match x with
 |.lst xs=>zA2 (am ρ) fun ds=>optR (f xs ds)
 |_=>none
def lixD(xs ds:List Dt):Option Dt:=match ds with
 |[.int k]=>match intsD xs with
  |some ns=>(posI k ns).map fun j=>.int (j:Int)
  |none=>none
 |_=>none
noncomputable def lcoD(xs ds:List Dt):Option Dt:=match ds with
 |[d]=>if d.dep=0/\Dt.depL xs=0 then some (.int (xs.countP fun y=>Dt.eq y d:Nat))else none
 |_=>none
def sExt(i n:Nat)(e:EM):SM:=fun ρ=>match ρ[i]? with
 |some (some (.lst ds,k+1))=>zA2 (e (full ρ)) fun d=>match d with
  |.lst es=>@ite _ (ds.length+es.length<=100000/\Dt.depL es<=n/\Dt.depL es<=k) (qA3 _) (okR (.nx (ρ.set i (some (.lst (ds++es),k+1))))) none
  |_=>none
 |_=>none
noncomputable def low(i:Nat)(ρ:Ro):Ro:=match ρ[i]? with
 |some (some (.lst ds,_+1))=>ρ.set i (some (.lst ds,1))
 |_=>ρ
def sAppF(i:Nat)(vs:List Nat)(e:EM):SM:=fun ρ=>match(frzAt vs (low i ρ))[i]? with
 |some (some (.lst ds,1))=>zA2 (e (frz (frzAt vs (low i ρ)))) fun d=>@ite _ (ds.length<=100000) (qA3 _) (okR (.nx ((frzAt vs (low i ρ)).set i (some (.lst (ds++[d]),1))))) none
 |_=>none
end
end Mi
namespace L3
open PySem PySem.Spec
open L2 hiding Rep RepL
open Mi (Dt Xn R okR zA2 optR bindR_ok zA4 zAA zA8 zA9 Rh Sl Ro EM TM AM FM IM SM Tg Out zAM zAK zAQ full frz frz1 frzAt)
section
variable[Kc]{mg:Str->Option Value}{E:XK}{L n k l:Nat}{te ta tb:TE}{e ea eb ma:EM}{t:TA}{m:AM}
theorem zV8:ROp zZK Mi.xorD n:=by
 intro mg E G H d e x y Q s h1 h2 p;cases d with
 |int i=>
  cases e with
  |int j=>cases(show x=.int i from h1);cases(show y=.int j from h2);exact zTB s p rfl rfl rfl
  |_=>exact p.elim
 |_=>exact p.elim
theorem zN8{G:Hp}{ds es:List Dt}{xs ys:List V}(ra:RepL G ds xs)(rb:RepL G es ys):RepL G (ds++es) (xs++ys):=by
 refine zCY (by simp[ra.length,rb.length]) fun j d' x' e1 e2=>?_
 by_cases hj:j<ds.length
 ·rw[qAc hj]at e1;rw[qAc (by rw[ra.length];exact hj)]at e2;exact zBJ ra e1 e2
 ·rw[qAe (by lia)]at e1;rw[qAe (by rw[ra.length];lia),ra.length]at e2;exact zBJ rb e1 e2
theorem zN7{G:Hp}{ds:List Dt}{xs:List V}(r:RepL G ds xs):∀k:Nat,RepL G (qA4 k ds).flatten (qA4 k xs).flatten
 |0=>rfl
 |k+1=>by rw[qBi,qBi,qBq,qBq];exact zN8 r (zN7 r k)
theorem zQ2:ROp zZP Mi.repD 1:=by
 intro mg E G H d e x y Q s h1 h2 p;cases d with
 |lst ds=>
  cases e with
  |int j=>
   obtain⟨a,xs,rfl,ha,ra⟩:=h1
   cases(show y=.int j from h2)
   rw[Mi.repD]at p
   split at p
   ·rename_i hz
    exact⟨xs,s _ _ ha,⟨by lia,by lia⟩,by rw[ra.length];exact big' hz.2,fun q hq=>PostE.lst p (Ext.refl s) (zN7 ra _) hq⟩
   ·exact p.elim
  |_=>exact p.elim
 |_=>exact p.elim
theorem zT5{G:Hp}{ds:List Dt}{xs:List V}(r:RepL G ds xs):RepL G ds.reverse xs.reverse:=by
 induction ds generalizing xs with
 |nil=>cases r;rfl
 |cons d q ih=>
  obtain⟨x,t,rfl,a,b⟩:=r;rw[qFu,qFu];exact zN8 (ih b) ⟨x,[],rfl,a,rfl⟩
def RMl(r:V->List V->Hp->VK->Prop)(f:List Dt->List Dt->Option Dt)(n:Nat):Prop:=∀(mg:Str->Option Value)(E:XK)(G H:Hp)(a:Addr)(es ds:List Dt)(xs vs:List V)(Q:VK),Same G H->G a=some (.lst xs)->RepL G es xs->RepL G ds vs->PostE mg E G H n (optR (f es ds)) Q->r (.ref a) vs H Q
theorem zbH{r:V->List V->Hp->VK->Prop}{f:List Dt->List Dt->Option Dt}(hr:RMl r f n)(A:DE mg E te e k)(B:DA mg E t m 0):DE mg E (tML r te t) (Mi.eMl f e m) n:=by
 intro G H σ ρ Q s w p;refine(zAJ A).step errE s w p fun d v G1 H1 S _ fr o p1=>?_
 cases d with
 |lst es=>
  obtain⟨a,xs,rfl,ha,ra⟩:=o;refine⟨xs,fr.ext.in' _ _ ha,?_⟩;have p2:PostE mg E G H n (zA2 (m ρ) fun ds=>optR (f es ds)) Q:=p1;refine B.step (errE.from fr.ext) fr.ext.in' (w.mono fr.ext.g) p2 fun ds vs G2 H2 S2 T2 _ fr2 o2 p3=>?_
  exact hr mg E G2 H2 a es ds xs vs Q fr2.ext.in' (fr2.ext.g _ _ ha) (RepL.mono fr2.ext.g ra) o2.repL (PostE.from p3 (fr.ext.trans fr2.ext))
 |_=>exact p1.elim
theorem zQA(k:Int):∀ns:List Int,Mi.posI k ns=L2.posI k ns
 |[]=>rfl
 |x::r=>by unfold Mi.posI L2.posI;rw[zQA k r]
theorem zEV{G:Hp}:∀{ds:List Dt}{ns:List Int}{xs:List V},Mi.intsD ds=some ns->RepL G ds xs->xs=ns.map V.int
 |[],ns,xs,h,r=>by cases h;exact r
 |d::q,ns,xs,h,r=>by
  cases d with
  |int i=>
   rw[Mi.intsD]at h;cases e:Mi.intsD q with
   |none=>rw[e]at h;cases h
   |some ms=>
    rw[e]at h;cases h;obtain⟨x,t,rfl,a,b⟩:=r
    cases(show x=.int i from a)
    rw[zEV e b];rfl
  |_=>cases h
theorem zT1:RMl lixM Mi.lixD n:=by
 intro mg E G H a es ds xs vs Q s ha ra rv p;cases ds with
 |nil=>exact qA8 p
 |cons hd1 tl1=>
  cases hd1 with
  |int k=>
   cases tl1 with
   |nil=>
    obtain⟨x,rfl,hx⟩:=zDF rv
    cases(show x=.int k from hx)
    unfold Mi.lixD at p;cases ei:Mi.intsD es with
    |none=>rw[ei]at p;exact p.elim
    |some ns=>
     rw[ei]at p;dsimp only at p;cases ej:Mi.posI k ns with
     |none=>rw[ej]at p;exact p.elim
     |some j=>
      rw[ej]at p;refine⟨ns,j,?_,by rw[<- zQA];exact ej,PostE.val p (Ext.refl s) rfl rfl⟩;rw[s _ _ ha,zEV ei ra]
   |cons _ _=>exact qA8 p
  |_=>exact qA8 p
theorem zO5{G:Hp}{d:Dt}{v:V}(h:Rep G d v)(hd:d.dep=0):∀{ds:List Dt}{vs:List V},RepL G ds vs->Dt.depL ds=0->vs.all zDN=true/\(vs.countP fun z=>eqV z v)=ds.countP fun y=>Dt.eq y d
 |[],_,r,_=>by cases r;exact⟨rfl,rfl⟩
 |e::q,_,r,hz=>by
  obtain⟨x,t,rfl,a,b⟩:=r;rw[Dt.depL]at hz;obtain⟨g1,g2⟩:=zO5 h hd b (by lia);refine⟨by rw[qCx,zH6 a (by lia),g1];rfl,?_⟩;rw[qCq,qCq,g2,zKU a h (by lia) hd]
theorem zT2:RMl lcoM Mi.lcoD n:=by
 intro mg E G H a es ds xs vs Q s ha ra rv p;cases ds with
 |nil=>exact qA8 p
 |cons d tl1=>
  cases tl1 with
  |nil=>
   obtain⟨x,rfl,hx⟩:=zDF rv;unfold Mi.lcoD at p;dsimp only at p
   split at p
   ·rename_i hz
    obtain⟨g1,g2⟩:=zO5 hx hz.1 ra hz.2;refine⟨xs,s _ _ ha,zH6 hx hz.1,g1,?_⟩;rw[g2];exact PostE.val p (Ext.refl s) rfl rfl
   ·exact p.elim
  |cons _ _=>exact qA8 p
end
section
variable[Kc]{G0 H0 S0:Hp}{σ:St}{ρ:Ro}{G H:Hp}{As:Nat->Addr->Prop}
theorem Sat.low(a:Sat G0 H0 S0 σ ρ G H As)(i:Nat):∃G1 As1,Sat G0 H0 S0 σ (Mi.low i ρ) G1 H As1:=by
 unfold Mi.low
 split
 ·rename_i ds k e1
  obtain⟨v,h1,q,xs,T,rfl,hq,kd⟩:=a.at i _ _ e1;obtain⟨s1,s2⟩:=zC8 (S:=fun b=>∃r,T r b) a.ext.in';have ui:∀b,(∃r,T r b)->As i b:=fun b ⟨r,z⟩=>kd.sub r b z
  have x:Ext G0 H0 (over G H fun b=>∃r,T r b) H:=⟨a.ext.g.trans s1,a.ext.h,s2,fun b hb=>by
   have z:¬ ∃r,T r b:=fun z=>hb (a.new i b (ui b z)).1
   rw[zBK z];exact a.ext.old b hb⟩
  refine⟨over G H fun b=>∃r,T r b,fun j b=>As j b/\¬ ∃r,T r b,x,a.stb.trans s1,a.tab,by simp[a.len],fun j e n h=>?_,fun j l b p q=>a.dis j l b p.1 q.1,fun j b p=>?_⟩
  ·have hj:j<ρ.length:=by
    have:=(qA2.mp h).1
    simpa using this
   by_cases z:i=j
   ·subst z;rw[qAk hj]at h;cases h;exact⟨.ref q,h1,q,xs,fun _ _=>False,rfl,hq,⟨kd.len,fun r d x g1 g2=>(kd.own r d x g1 g2).rep s1 fun b o hb e=>by rw[zDG ⟨r,hb⟩];exact e,⟨kd.top,fun⟨r,z⟩=>kd.out r z⟩,fun _ z=>z,fun _ _ _ z=>z.elim,fun _ _ z=>z.elim⟩⟩
   ·rw[qAj z]at h;obtain⟨u,q1,q2⟩:=a.at j e n h;exact⟨u,q1,(q2.mono s1 (Same.refl _)).sub fun b hb=>⟨hb,fun w=>z (a.dis i j b (ui b w) hb)⟩⟩
  ·obtain⟨n1,n2,n3⟩:=a.new j b p.1;exact⟨n1,by rw[zBK p.2];exact n2,n3⟩
 ·exact⟨G,As,a⟩
end
section
variable[Kc]{mg:Str->Option Value}{E:XK}{L n k l:Nat}{te ta tb:TE}{e ea eb ma:EM}{t:TA}{m:AM}
theorem zYI(i:Nat)(vs:List Nat)(A:DE mg E te e n):DS mg E L (zLN (tML appM (vM i) (zEC te tNil))) (Mi.sAppF i vs e):=by
 intro G0 H0 S0 σ ρ G H As D a p;obtain⟨G1,As1,a1⟩:=a.low i;obtain⟨G2,As2,a2⟩:=Sat.frzAt vs a1;unfold Mi.sAppF at p
 generalize hρ:frzAt vs (Mi.low i ρ)=ρ2 at p a2
 split at p
 ·rename_i ds e1
  obtain⟨v,h1,q,xs,T,rfl,hq,kd⟩:=a2.at i _ _ e1;unfold zLN tML vM;rw[h1];refine⟨xs,hq,?_⟩;refine(zAJ A).step (errS.from a2.ext) a2.ext.in' a2.frz p fun d y G3 H3 S _ fr o p1=>?_
  split at p1
  ·rename_i hz
   refine⟨xs,fr.ext.h _ _ hq,by rw[kd.len];exact L2.big (by lia),?_⟩;have a3:=a2.wider fr.ext;have kd1:Kids (Own G3 H3 0) (As2 i) q ds xs T:=kd.imp (fun _ _ _ _ w=>w.mono fr.ext.g fr.ext.h) fun _ z=>z
   refine p1 σ G3 _ _ (a3.store (S:=As2 i) kd.top h1 ⟨q,_,fun _ _=>False,rfl,zAC,⟨by simp[kd.len],fun r d' z g1 g2=>?_,kd.top,fun _ z=>z,fun _ _ _ z=>z.elim,fun _ _ z=>z.elim⟩⟩ fun b z=>.inl z)
   by_cases hr:r<ds.length
   ·rw[qAc hr]at g1;rw[qAc (by rw[kd.len];exact hr)]at g2;exact kd1.own r d' z g1 g2
   ·rw[qAe (by lia)]at g1;rw[qAe (by rw[kd.len];lia),kd.len]at g2;have hq0:r-ds.length=0:=by
     have:=(qA2.mp g1).1
     simp at this;lia
    rw[hq0]at g1 g2;simp at g1 g2;subst g1;subst g2;exact o
  ·exact p1.elim
 ·exact p.elim
theorem zb9(i:Nat)(A:DE mg E te e (n+1))(hn:n<1000:=by decide):DS mg E L (zLN (tML extM (vM i) (zEC te tNil))) (Mi.sExt i n e):=by
 intro G0 H0 S0 σ ρ G H As D a p;obtain⟨J,x,s,w⟩:=a.full;unfold Mi.sExt at p
 split at p
 ·rename_i ds k e1
  obtain⟨v,h1,q,xs,T,rfl,hq,kd⟩:=a.at i _ _ e1;unfold zLN tML vM;rw[h1];refine⟨xs,hq,?_⟩;refine A.step (errS.from x) x.in' w p fun d y G1 H1 S _ fr o p1=>?_
  split at p1
  ·rename_i es
   obtain⟨b0,zs,T2,rfl,hb0,kd2⟩:=o
   split at p1
   ·rename_i hz
    refine⟨xs,zs,fr.ext.h _ _ hq,hb0,by rw[kd.len,kd2.len];exact big' (by lia),?_⟩;have hp:=kd.top;have a1:=a.grow fr.ext.h;have q2:∀b,S b->H b=none/\G b=none/\H1 b≠none:=fun b hb=>let⟨n1,n2,n3⟩:=fr.new b hb;⟨n1,a.ext.in'.free n1,n3⟩
    have nS:∀r,¬T2 r q:=fun r z=>(a.new i q hp).2.2 (q2 q (kd2.sub r q z)).1
    have ap:∀r r' b,T r b->T2 r' b->False:=fun r r' b h1 h2=>(a.new i b (kd.sub r b h1)).2.2 (q2 b (kd2.sub r' b h2)).1
    refine p1 σ G _ _ (a1.store (S:=fun b=>As i b\/∃r,T2 r b) hp h1 ⟨q,_,fun r b=>(r<ds.length/\T r b)\/(ds.length<=r/\T2 (r-ds.length) b),rfl,zAC,⟨by simp[kd.len,kd2.len],fun r d' z g1 g2=>?_,.inl hp,fun r z=>?_,fun r r' b z1 z2=>?_,fun r b z=>?_⟩⟩ fun b z=>?_)
    ·by_cases hr:r<ds.length
     ·rw[qAc hr]at g1;rw[qAc (by rw[kd.len];exact hr)]at g2;exact(((kd.own r d' z g1 g2).mono (Same.refl _) fr.ext.h).upd (kd.out r)).sub fun b z=>.inl ⟨hr,z⟩
     ·rw[qAe (by lia)]at g1;rw[qAe (by rw[kd.len];lia),kd.len]at g2;exact(((kd2.own _ d' z g1 g2).at (zEI hz.2.1 g1) (zEI hz.2.2 g1) hn).upd (nS _)).sub fun b z=>.inr ⟨by lia,z⟩
    ·rcases z with⟨_,z⟩|⟨_,z⟩
     ·exact kd.out r z
     ·exact nS _ z
    ·rcases z1 with⟨c1,t1⟩|⟨c1,t1⟩<;>rcases z2 with⟨c2,t2⟩|⟨c2,t2⟩
     ·exact kd.dis r r' b t1 t2
     ·exact(ap _ _ b t1 t2).elim
     ·exact(ap _ _ b t2 t1).elim
     ·have:=kd2.dis _ _ b t1 t2;lia
    ·rcases z with⟨_,z⟩|⟨_,z⟩
     ·exact .inl (kd.sub r b z)
     ·exact .inr ⟨_,z⟩
    ·rcases z with z|⟨r,z⟩
     ·exact .inl z
     ·obtain⟨n1,n2,n3⟩:=q2 b (kd2.sub r b z);exact .inr ⟨a.ext.h.free n1,n2,n3,fun j y=>(a.new j b y).2.2 n1⟩
   ·exact p1.elim
  ·exact p1.elim
 ·exact p.elim
end
structure XNo(K:qA1)(mg:Str->Option Value)(c:Str)(C:Addr):Prop extends XCls K mg c C where
 kp:qB9 K (.ref C)=true
 ini:qAv K (.ref C) "__init__" = some (some (.builtin "ValueError.__init__"))
theorem zVG{X:Cx}{c:Str}{C:Addr}{e:Expr}{es:List Expr}{t:TA}{p pos:Pos}(h:XNo X.K X.mg c C)(hg:Gl X c)(ha:PA X (e::es) t)(hdb:(c==("__debug__":Str))=false:=by decide)
  (he:starEach (e::es) X.env=(false,eval e X.env)::starEach es X.env:=by rfl) (hpl:(backTo pos (starEach es X.env)).any (·.1)=false:=by rfl):PE X (.Call (.Name c p) (e::es) [] pos) (zLM C t):=
 zQE h.is.xc h.ini hg h.gm h.kp ha hdb he hpl
section
variable[Kc]{mg:Str->Option Value}{E:XK}{L n k l:Nat}{te ta tb:TE}{e ea eb ma:EM}{t:TA}{m:AM}
theorem zKY{c:Str}{C:Addr}(h:XNo Kc.K mg c C)(A:DA mg E t m 0):DS mg E L (zUW Kc.K E (zLM C t)) (Mi.sRaise0 c m):=by
 intro G0 H0 S0 σ ρ G H As D a p;obtain⟨J,x,s,w⟩:=a.full;refine A.step (errS.from x) x.in' w p fun ds vs G1 H1 S T _ fr o p1=>?_
 split at p1
 ·rename_i hz
  refine⟨by rw[o.len];exact big' (by lia),fun e he=>⟨e,C,none,rfl,zAC,h.is.xc,?_⟩⟩;have hu:upd (upd H1 e (xn e (.ref C) none)) e (xo e (.ref C) none)=upd H1 e (xo e (.ref C) none):=by
   funext z
   by_cases h1:z=e
   ·rw[h1,zAC,zAC]
   ·rw[zAB h1,zAB h1,zAB h1]
  rw[hu];exact p1 (.ref e) none _ _ ((x.trans fr.ext).trans (Ext.new fr.ext.in' he _)) ⟨e,C,rfl,zAC,h.cl,.inl ⟨rfl,rfl⟩⟩
 ·exact p1.elim
def KTup(K:qA1)(a:Addr)(ns:List Int):Prop:=KTP K a (ns.map V.int)
theorem zMA{a:Addr}{ns:List Int}(h:KTup Kc.K a ns):DE mg E (tC (.ref a)) (Mi.eC (.scr ns)) 0:=by
 intro G H σ ρ Q s w p;exact PostE.kept p (Ext.refl s) ⟨a,rfl,.inr h⟩
end
theorem zR5{K:qA1}{a:Addr}{o:Obj}{its:Array Value}{n:Nat}{ns:List Int}(h:K.lookup a=some o)(h1:o.cls=.type "tuple")(h2:o.data=.seq its n)(h3:its.size<=sizeLine)(h4:Vals (ns.map V.int) its.toList)(hne:ns≠[]:=by decide):KTup K a ns:=
 ⟨fun z=>hne (qDp.mp z),o,its,n,h,h1,h2,h3,h4⟩
end L3
namespace L2
open PySem PySem.Spec PyProof.Rows
section
variable{X:Cx}
noncomputable def zZ8(z:Str):List V:=z.cps.toList.map fun c=>.str ⟨#[c]⟩
def rListX(K:qA1):List V->Hp->VK->Prop:=fun vs H Q=>match vs with
 |[.str z]=>z.length<=sizeLine/\∀l,H l=none->Q (.ref l) (upd H l (.lst (zZ8 z)))
 |_=>zHV K vs H Q
def rStrU:List V->Hp->VK->Prop:=fun vs H Q=>match vs with
 |[.int i]=>i.natAbs.log2<1920/\Q (.str (toString i)) H
 |_=>False
def zZM:List V->Hp->VK->Prop:=fun vs H Q=>match vs with
 |[.ref a]=>∃ns:List Int,H a=some (.lst (ns.map V.int))/\ns.length<=100000/\(∀n∈ns,-1000000<=n/\n<=1000000)/\Q (.int ns.sum) H
 |_=>False
theorem zV3:∀(ns:List Int),(∀n∈ns,-1000000<=n/\n<=1000000)->-(ns.length*1000000:Int)<=ns.sum/\ns.sum<=(ns.length*1000000:Int)
 |[],_=>by simp
 |n::r,h=>by
  have h1:=zV3 r fun m hm=>h m (by simp[hm])
  have h2:=h n (by simp);simp only[qEg,qAx]
  lia
theorem zY1(hc:X.calm=true):zCE X (.builtin "sum") zZM:=by
 intro pins s σ H vs us Q I r h;cases vs with
 |nil=>exact qA8 h
 |cons hd1 tl1=>
  cases hd1 with
  |ref a=>
   cases tl1 with
   |nil=>
    obtain⟨ns,ha,hz,hb,q⟩:=h;obtain⟨u,rfl,rx⟩:=zF8 r;cases rx;obtain⟨its,rv,hl⟩:=zAV I.hok ha;have hi:qKw its ns:=zH2 rv;obtain⟨xs,e⟩:=hi.allInts.items;have en:numsOf its=ns:=hi.numsOf;have en2:numsOf (intItems xs).toList=ns:=by rw[<- e];exact en
    rw[nums_intItems]at en2;have hl':s.heap.IsList a (intItems xs):=by rw[<- e];exact hl
    have hx:∀j,numAt xs j=ns.getD j 0:=fun j=>by rw[numAt_eq,en2]
    have hps:∀j,preSum (numAt xs) j=(ns.take j).sum:=fun j=>by
     rw[show numAt xs=fun i=>ns.getD i 0 from funext hx];exact qH9 ns j
    have hxl:xs.size=ns.length:=by rw[<- en2];simp
    refine sum_intList (I.ok.hd hc) hl' (fun j hj=>?_) fun h' tk t' hk=>?_
    ·have hj':j<ns.length:=by lia
     rw[hx,hps];have b1:=hb (ns.getD j 0) (by rw[qA0,qA5 hj'];simp);have b2:=zV3 (ns.take (j+1)) fun m hm=>hb m (List.mem_of_mem_take hm)
     have b3:(ns.take (j+1)).length<=100000:=by rw[qDc];lia
     constructor<;>constructor<;>lia
    ·rw[hps,hxl,qBw];exact⟨.int _,H,I.kept (t':=tk) hk,⟨_,rfl⟩,q⟩
   |cons _ _=>exact qA8 h
  |_=>exact qA8 h
def zZT:List V->Hp->VK->Prop:=fun vs H Q=>match vs with
 |[.int i,.int j]=>Q (.int (if j>i then j else i)) H
 |[.ref a]=>∃ns:List Int,H a=some (.lst (ns.map V.int))/\0<ns.length/\∀M,M∈ns->(∀a,a∈ns->a<=M)->Q (.int M) H
 |_=>False
theorem zaH(hc:X.calm=true):zCE X (.builtin "max") zZT:=by
 intro pins s σ H vs us Q I r h
 match vs,r,h with
 |[.int i,.int j],r,h=>exact zHC hc pins s σ H _ us Q I r ⟨i,j,rfl,h⟩
 |[.ref a],r,h=>
  obtain⟨ns,ha,hz,q⟩:=h;obtain⟨u,rfl,rx⟩:=zF8 r;cases rx;obtain⟨its,rv,hl⟩:=zAV I.hok ha;have hi:qKw its ns:=zH2 rv;obtain⟨xs,e⟩:=hi.allInts.items;have en2:numsOf (intItems xs).toList=ns:=by rw[<- e];exact hi.numsOf
  rw[nums_intItems]at en2;have hl':s.heap.IsList a (intItems xs):=by rw[<- e];exact hl
  have hxl:xs.size=ns.length:=by rw[<- en2];simp
  refine max_intList (I.ok.hd hc) hl' (by lia) fun v h' tk hv hk=>?_
  obtain⟨t,rfl⟩:=intItems_at hv;obtain⟨h1,h2⟩:=argBest_gt (numAt xs) (xs.size-1);refine⟨.int _,H,I.kept (t':=tk) hk,⟨_,rfl⟩,q _ ?_ fun b hb=>?_⟩
  ·rw[numAt_eq,en2];exact getD_mem (by lia)
  ·rw[<- en2]at hb;obtain⟨j,hj,rfl⟩:=mem_getD hb;rw[qAm,qDk]at hj;rw[<- numAt_eq];exact h2 j (by lia)
end
section
variable{X:Cx}{K:qA1}
end
section
variable{X:Cx}{e m1:Expr}{te ts:TE}{pos p2:Pos}
end
section
variable{X:Cx}{m:Str}{k:Nat}{o e:Expr}{es:List Expr}{ta:TE}{t:TA}{apos pos:Pos}{tb:List (Addr×Sp)}
end
section
variable{prog:qI0}{w:World}{A:qI4}{E:Value->qHx->Prop}{s:qHx}
end
section
variable{X:Cx}{pos:Pos}
end
section
variable{prog:qI0}{w:World}{A:qI4}{R:qL0->qHx->Prop}{I:Addr}{fp wr:List Addr}{G:Array qJ8->Array qJ8->Prop}{n:Nat}{St:Nat->qHx->Prop}{led:Bool}{z:Str}
end
section
variable{X:Cx}
variable{o e:Expr}{es:List Expr}{to:TE}{t:TA}{name:Str}{apos cpos:Pos}{T id:String}{r:V->List V->Hp->VK->Prop}
end
section
variable{prog:qI0}{w:World}{A:qI4}{E:Value->qHx->Prop}{s:qHx}
end
section
variable{prog:qI0}{w:World}{A:qI4}{R:qL0->qHx->Prop}{I:Addr}{fp wr:List Addr}{G:Array qJ8->Array qJ8->Prop}{n:Nat}{St:Nat->qHx->Prop}{led:Bool}{items:Array Value}{ns:List Int}
end
section
variable{prog:qI0}{w:World}{A:qI4}{E:Value->qHx->Prop}{s:qHx}
end
section
variable{X:Cx}{K:qA1}
end
section
variable{X:Cx}{e m1:Expr}{te ts:TE}{pos p2:Pos}
end
section
variable{prog:qI0}{w:World}{A:qI4}{R:qL0->qHx->Prop}{I:Addr}{fp wr:List Addr}{G:Array qJ8->Array qJ8->Prop}{n:Nat}{St:Nat->qHx->Prop}{led:Bool}{items:Array Value}{zs:List Str}
end
section
variable{X:Cx}{m:Str}{k:Nat}{E:XK}{o:Expr}{ta:TE}{apos pos:Pos}{tb:List (Addr×Sp)}
end
end L2
namespace L3
open PySem PySem.Spec
open L2 hiding Rep RepL
open Mi (Dt Xn R okR zA2 optR bindR_ok zA4 zAA zA8 zA9 Rh Sl Ro EM TM AM FM IM SM OM Tg Out zAM zAK zAQ full frz frz1 frzAt)
section
variable[Kc]{mg:Str->Option Value}{E:XK}{L n k l:Nat}{te ta tb:TE}{e ea eb ma:EM}{t:TA}{m:AM}
end
section
variable[Kc]{mg:Str->Option Value}{E:XK}{L n k l:Nat}
end
abbrev wk(kvs:List (Sum Int Str×Mi.Sw)):List (Key×V):=kvs.map fun p=>(p.1,swV p.2)
section
variable[Kc]{mg:Str->Option Value}{E:XK}{L n k l:Nat}{te ta tb tx td:TE}{e ea eb ex ed ma:EM}{t:TA}{m:AM}
end
section
variable[Kc]{mg:Str->Option Value}{E:XK}{L n k l:Nat}{te ta tb:TE}{e ea eb ma:EM}{t:TA}{m:AM}
end
section
variable[Kc]{mg:Str->Option Value}{E:XK}{L n k l:Nat}
end
section
variable[Kc]{mg:Str->Option Value}{E:XK}{L n k l:Nat}{te:TE}{e:EM}
section
variable{G0 H0 S0:Hp}{σ:St}{ρ:Ro}{G H:Hp}{As:Nat->Addr->Prop}
end
end
section
variable[Kc]{mg:Str->Option Value}{E:XK}{L n k l:Nat}{te ta tb tx td:TE}{e ea eb ex ed ma:EM}{t:TA}{m:AM}
end
section
variable[Kc]{mg:Str->Option Value}{E:XK}{L n k l:Nat}
end
section
variable[Kc]{mg:Str->Option Value}{E:XK}{L n k l:Nat}{te ta tb:TE}{e ea eb ma:EM}{t:TA}{m:AM}
end
end L3
namespace L3
open PySem PySem.Spec
open PyProof.Rows (risingS sortedS ltCps_eq)
open L2 hiding Rep RepL
open Mi (Dt Xn R okR zA2 optR bindR_ok zA4 zAA zA8 zA9 Rh Sl Ro EM TM AM FM IM SM OM Tg Out zAM zAK zAQ full frz frz1 frzAt)
section
variable[Kc]{mg:Str->Option Value}{E:XK}{L n k l:Nat}{te ta tb:TE}{e ea eb ma:EM}{t:TA}{m:AM}
end
section
variable[Kc]{mg:Str->Option Value}{E:XK}{L n k l:Nat}{t:TA}{m:AM}
end
section
variable[Kc]{mg:Str->Option Value}{E:XK}{L n k l:Nat}{te ta td:TE}{e ea ed:EM}
end
end L3
namespace L3
open PySem PySem.Spec
open L2 hiding Rep RepL
open Mi (Dt Xn R okR zA2 optR bindR_ok zA4 zAA zA8 zA9 Rh Sl Ro EM TM AM FM IM SM Tg Out zAM zAK zAQ full frz frz1 frzAt)
section
variable[Kc]{G0 H0 S0:Hp}{σ:St}{ρ:Ro}{G H:Hp}{As:Nat->Addr->Prop}
end
section
variable[Kc]{mg:Str->Option Value}{E:XK}{L n k l:Nat}{te ta tb:TE}{e ea eb ma:EM}{t:TA}{m:AM}
end
section
variable[Kc]{mg:Str->Option Value}{E:XK}{L n n1:Nat}{t1 t2:TE}{e1 e2:EM}
end
end L3
namespace L3
open PySem PySem.Spec PyProof.Rows
open L2 hiding Rep RepL
open Mi (Dt R Rh EM TM SM AM IM Xn Sl Ro Out okR zA2 optR full frz frzAt)
section
variable[Kc]{mg:Str->Option Value}{E:XK}{n L:Nat}{te ta tb:TE}{e:EM}{m m':SM}
end
end L3
namespace Mi
open PySem
noncomputable section
def listXD(ds:List Dt):Option Dt:=match ds with
 |[.str z]=>@ite _ (z.length<=100000) (qA3 _) (some (.lst (signsD z))) none
 |ds=>listD ds
noncomputable def strD:List Dt->Option Dt
 |[.int i]=>@ite _ (i.natAbs.log2<1920) (qA3 _) (some (.str (toString i:String))) none
 |_=>none
def sumD:List Dt->Option Dt
 |[.lst ds]=>match intsD ds with
  |some ns=>@ite _ (ns.length<=100000/\∀n∈ns,-1000000<=n/\n<=1000000) (qA3 _) (some (.int ns.sum)) none
  |none=>none
 |_=>none
noncomputable def topI:List Int->Int
 |[]=>0
 |[x]=>x
 |x::y::r=>max x (topI (y::r))
def maxL:List Dt->Option Dt
 |[.int i,.int j]=>some (.int (if j>i then j else i))
 |[.lst ds]=>match intsD ds with
  |some (n::ns)=>some (.int (topI (n::ns)))
  |_=>none
 |_=>none
noncomputable def zc3(ns:List Int):List Int:=ns.mergeSort fun a b=>decide (a<=b)
end
end Mi
namespace L3
open PySem PySem.Spec
open L2 hiding Rep RepL
open Mi (Dt Xn R okR zA2 optR bindR_ok zA4 zAA zA8 zA9 Rh Sl Ro EM TM AM FM IM SM Tg Out zAM zAK zAQ full frz frz1 frzAt)
section
variable[Kc]{mg:Str->Option Value}{E:XK}{L n k l:Nat}{te ta tb:TE}{e ea eb ma:EM}{t:TA}{m:AM}
theorem zTM{r:List V->Hp->VK->Prop}{f:List Dt->Option Dt}(h0:∀ds,(∀es,ds≠[.lst es])->f ds=none)(h1:∀es,Mi.intsD es=none->f [.lst es]=none)
  (h2:∀(mg:Str->Option Value)(E:XK)(G H:Hp)(a:Addr)(es:List Dt)(ns:List Int)(Q:VK),Same G H->Mi.intsD es=some ns->H a=some (.lst (ns.map V.int))->PostE mg E G H n (optR (f [.lst es])) Q->r [.ref a] H Q):CBi r f n:=by
 intro mg E G H ds vs Q s h p
 by_cases hd:∃es,ds=[.lst es]
 ·obtain⟨es,rfl⟩:=hd;obtain⟨x,rfl,a,xs,rfl,ha,ra⟩:=zDF h;cases ei:Mi.intsD es with
  |none=>rw[h1 es ei]at p;exact p.elim
  |some ns=>exact h2 mg E G H a es ns Q s ei (by rw[s _ _ ha,zEV ei ra]) p
 ·rw[h0 ds fun es z=>hd ⟨es,z⟩]at p;exact p.elim
theorem zXK{f:List Dt->Option Dt}(h1:f []=none)(h2:∀d,(∀es,d≠.lst es)->f [d]=none)(h3:∀a b r,f (a::b::r)=none):∀ds,(∀es,ds≠[.lst es])->f ds=none:=by
 intro ds h
 match ds,h with
 |[],_=>exact h1
 |[d],h=>exact h2 d fun es z=>h es (by rw[z])
 |a::b::r,_=>exact h3 a b r
theorem zS9:CBi zZM Mi.sumD n:=by
 refine zTM (zXK rfl (fun d h=>by cases d<;>first|rfl|exact absurd rfl (h _)) fun a b r=>by cases a<;>rfl) (fun es h=>by rw[Mi.sumD,h]) fun mg E G H a es ns Q s ei ha p=>?_
 rw[Mi.sumD,ei]at p;dsimp only at p
 split at p
 ·rename_i hz
  exact⟨ns,ha,hz.1,hz.2,PostE.val p (Ext.refl s) rfl rfl⟩
 ·exact p.elim
theorem zJX:∀(ns:List Int)(M:Int),M∈ns->(∀a,a∈ns->a<=M)->Mi.topI ns=M
 |[],M,h,_=>by cases h
 |[x],M,h,_=>by simp at h;rw[h];rfl
 |x::y::r,M,h,hb=>by
  have hx:=hb x (by simp);show max x (Mi.topI (y::r))=M
  rcases qA6.mp h with rfl|h
  ·have key:∀(l:List Int),l≠[]->(∀a,a∈l->a<=M)->Mi.topI l<=M:=by
    intro l
    induction l with
    |nil=>intro h;exact absurd rfl h
    |cons a q ih=>
     intro _ hb;cases q with
     |nil=>exact hb a (by simp)
     |cons b q=>
      have h1:=ih (by simp) fun c hc=>hb c (by simp[hc])
      have h2:=hb a (by simp);show max a (Mi.topI (b::q))<=M
      lia
   have:=key (y::r) (by simp) fun a ha=>hb a (by simp[ha])
   lia
  ·rw[zJX (y::r) M h fun a ha=>hb a (by simp[ha])]
   lia
theorem zYN:CBi zZT Mi.maxL n:=by
 intro mg E G H ds vs Q s h p;cases ds with
 |nil=>exact p.elim
 |cons a0 r0=>
  cases a0 with
  |int i=>
   cases r0 with
   |nil=>exact p.elim
   |cons b0 r1=>
    cases b0 with
    |int j=>
     cases r1 with
     |nil=>
      obtain⟨x,y,rfl,hx,hy⟩:=zX4 h
      cases(show x=.int i from hx)
      cases(show y=.int j from hy)
      exact PostE.val p (Ext.refl s) rfl rfl
     |cons _ _=>exact p.elim
    |_=>cases r1<;>exact p.elim
  |lst es=>
   cases r0 with
   |nil=>
    obtain⟨x,rfl,a,xs,rfl,ha,ra⟩:=zDF h;rw[Mi.maxL]at p;cases ei:Mi.intsD es with
    |none=>rw[ei]at p;exact p.elim
    |some ns=>
     rw[ei]at p;cases ns with
     |nil=>exact p.elim
     |cons q ns=>
      refine⟨q::ns,by rw[s _ _ ha,zEV ei ra],by simp,fun M h1 h2=>?_⟩;rw[<- zJX _ M h1 h2];exact PostE.val p (Ext.refl s) rfl rfl
   |cons _ r1=>cases r1<;>exact p.elim
  |_=>rcases r0 with _|⟨_,_|_⟩<;>exact p.elim
end
end L3
namespace L2
open PySem PySem.Spec PyProof.Rows
section
variable{X:Cx}{x:Str}{j k:Nat}{ps:List Str}{sp:Sp}{e:Expr}{es:List Expr}{t:TA}{p pos:Pos}
end
end L2
namespace Mi
open PySem
noncomputable section
noncomputable def ded:List Nat->List Nat
 |[]=>[]
 |a::r=>if a∈ded r then ded r else a::ded r
def sosL(l:List Nat):List Nat:=(ded l).mergeSort fun a b=>decide (a<=b)
end
end Mi
namespace Mi
def sSetL(i j:Nat)(vs:List Nat)(e:EM):SM:=fun ρ=>match(frzAt vs (low j ρ))[j]? with
 |some (some (.lst ds,1))=>zA2 (e ((frz (frzAt vs (low j ρ))).set j (some (.lst ds)))) fun d=>match d with
  |.lst es=>if Dt.depL es=0/\es.length≠ds.length then okR (.nx ((frzAt vs (low j ρ)).set i (some (.lst es,0))))else none
  |_=>none
 |_=>none
end Mi
namespace L3
open PySem PySem.Spec
open L2 hiding Rep RepL
open Mi (Dt Xn R okR zA2 optR bindR_ok zA4 zAA zA8 zA9 Rh Sl Ro EM TM AM FM IM SM Tg Out zAM zAK zAQ full frz frz1 frzAt)
section
variable[Kc]{mg:Str->Option Value}{E:XK}{L n:Nat}{te:TE}{e:EM}
theorem zK7{G G2:Hp}:∀{es:List Dt}{ys:List V},RepL G es ys->Dt.depL es=0->RepL G2 es ys
 |[],_,h,_=>h
 |d::r,_,h,hd=>by
  obtain⟨x,q,rfl,h1,h2⟩:=h;have h3:d.dep=0/\Dt.depL r=0:=by
   simp only[Dt.depL]at hd
   lia
  exact⟨x,q,rfl,h1.scalar h3.1,zK7 h2 h3.2⟩
theorem zG6{G H:Hp}{q:Addr}:over G H (fun b=>b=q) q=H q:=zDG (S:=fun b=>b=q) rfl
theorem zGN{G H:Hp}{b q:Addr}(h:b≠q):over G H (fun b=>b=q) b=G b:=zBK (S:=fun b=>b=q) h
theorem zRT(i j:Nat)(vs:List Nat)(A:DE mg E te e n):DS mg E L (tAsg te (zDZ i)) (Mi.sSetL i j vs e):=by
 intro G0 H0 S0 σ ρ G H As D a p;unfold Mi.sSetL at p;obtain⟨G1,As1,a1⟩:=Sat.low a j;obtain⟨G2,As2,a2⟩:=Sat.frzAt vs a1
 split at p
 ·rename_i ds e1
  obtain⟨v,h1,q,xs,T,rfl,hq,kd⟩:=a2.at j _ _ e1;obtain⟨nq1,nq2,nq3⟩:=a2.new j q kd.top;obtain⟨s1,s2⟩:=zC8 (S:=fun b=>b=q) a2.ext.in';have x3:Ext G0 H0 (over G2 H fun b=>b=q) H:=⟨a2.ext.g.trans s1,a2.ext.h,s2,fun b hb=>by
   rw[zGN (fun z=>hb (by rw[z];exact nq1))];exact a2.ext.old b hb⟩
  have rq:Rep (over G2 H fun b=>b=q) (.lst ds) (.ref q):=⟨q,xs,rfl,by rw[zG6];exact hq,zCY kd.len fun r d x g1 g2=>Rep.mono s1 (kd.own r d x g1 g2)⟩
  have w:=(View.mono s1 a2.frz)
  have w2:View (over G2 H fun b=>b=q) σ ((frz (frzAt vs (Mi.low j ρ))).set j (some (.lst ds))):=by
   have:=w.set (i:=j) rq
   rwa [show σ.set j (some (.ref q))=σ by
    have:=(qA2.mp h1).2
    rw[<- this,qF2]]at this
  refine(zAJ A).step (errS.from x3) s2 w2 p fun d u G4 H4 S4 _ fr o p1=>?_
  split at p1
  ·rename_i es _
   split at p1
   ·rename_i hz
    obtain⟨pa,ys,rfl,k1,k2⟩:=(show Rep G4 (.lst es) u from o)
    have hne:pa≠q:=fun z=>by
     subst z
     have:=fr.ext.old pa nq3
     rw[k1,zG6,hq]at this;cases this;exact hz.2 (by rw[<- zT6 k2,kd.len])
    have hin:Same G2 H4:=a2.ext.in'.trans fr.ext.h;obtain⟨t1,t2⟩:=zC8 (S:=fun b=>b=pa) hin;have hpa:H4 pa=some (.lst ys):=fr.ext.in' _ _ k1;have x5:Ext G2 H (over G2 H4 fun b=>b=pa) H4:=⟨t1,fr.ext.h,t2,fun b hb=>by
     by_cases z:b=pa
     ·subst z;have g:=fr.ext.old b hb;rw[k1,zGN hne]at g;rw[zG6,hpa,<- g]
     ·rw[zGN z]⟩
    have o5:Own (over G2 H4 fun b=>b=pa) H4 0 (fun _=>False) (.lst es) (.ref pa):=⟨pa,ys,rfl,by rw[zG6];exact hpa,zK7 k2 hz.1⟩
    exact p1 _ _ H4 _ ((a2.wider x5).put o5 (fun b z=>z.elim) fun _ _ _ _ z=>z.elim)
   ·exact p1.elim
  ·exact p1.elim
 ·exact p.elim
end
end L3
namespace Mi
open PySem
noncomputable section
noncomputable def revD:Dt->Dt->Option Dt
 |.str z,.int j=>@ite _ (j = -1/\z.length<=100000) (qA3 _) (some (.str ⟨z.cps.toList.reverse.toArray⟩)) none
 |_,_=>none
end
noncomputable section
noncomputable def svD:Dt->Option Sv
 |.int i=>some (.i i)
 |.str x=>some (.s x)
 |_=>none
def svsD:List Dt->Option (List Sv)
 |[]=>some []
 |d::r=>match svD d,svsD r with
  |some v,some vs=>some (v::vs)
  |_,_=>none
noncomputable def dSv:Sv->Dt
 |.i n=>.int n
 |.s x=>.str x
def eNew(c:Str)(fl:List Str)(am:AM):EM:=fun ρ=>zA2 (am ρ) fun ds=>match svsD ds with
 |some vs=>if vs.length=fl.length then okR (.ins c (fl.zip vs))else none
 |none=>none
def zb4(c:Str):EM:=fun _=>okR (.ins c [])
def eFld(hs:List Str)(f:Str)(e:EM):EM:=fun ρ=>zA2 (e ρ) fun d=>match d with
 |.ins c fs=>if c∈hs then(match fs.lookup f with|some v=>okR (dSv v)|none=>none)else none
 |_=>none
def zcW(tb:List (Str×FM))(m:Str)(e:EM)(am:AM):EM:=fun ρ=>zA2 (e ρ) fun d=>match d with
 |.ins c fs=>match tb.lookup c with
  |some g=>match fs.lookup m with
   |none=>zA2 (am ρ) fun ds=>g (d::ds)
   |some _=>none
  |none=>none
 |_=>none
def eIsO(ys ns:List Str)(e:EM):EM:=fun ρ=>zA2 (e ρ) fun d=>match d with
 |.ins c _=>if c∈ys then okR (.bl true)else if c∈ns then okR (.bl false)else none
 |_=>none
end
noncomputable section
def zcL(c:Nat)(l:List Nat):Option Nat:=(posC c l.reverse).map fun i=>l.length-1-i
def zZI(x:Dt)(ys:List Dt):Option Dt:=match x,ys with
 |.str z,[.str y]=>match y.cps.toList with
  |[c]=>some (.int (match zcL c z.cps.toList with|some i=>(i:Int)|none=>-1))
  |_=>none
 |_,_=>none
end
noncomputable section
def sadD(x y:Dt):Option Dt:=match x,y with
 |.tup as,.tup bs=>match intsD as,intsD bs with
  |some ns,some ms=>@ite _ (ns≠[]/\ms≠[]/\ns.length+ms.length<64) (qA3 _) (some (.lst ((zc3 (ns++ms)).map .int))) none
  |_,_=>none
 |_,_=>none
end
end Mi
namespace L2
open PySem PySem.Spec PyProof.Rows
section
variable{X:Cx}{x:Str}{C:Addr}{p pos:Pos}
end
def spIns(K:qA1)(fl:List Str):Sp:=fun vs H Q _=>∃(x C dx:Addr)(ys:List V),vs=.ref x::ys/\ys.length=fl.length/\H x=some (.ins C dx [])/\Cls K C/\(∀f∈fl,zbR K C f)/\Q .non (upd H x (.ins C dx (fl.zip ys)))
section
variable{X:Cx}{m:Str}{k:Nat}{E:XK}{o e:Expr}{es:List Expr}{ta:TE}{t:TA}{apos pos:Pos}{tb:List (Addr×Sp)}
end
structure Walk1(prog:qI0)(w:World)(A:qI4)(I:Addr)(fp:List Addr)(n:Nat)(P:Nat->Value->Prop)(St:Nat->Heap->Prop):Prop where
 me:I∈fp
 frame:∀i h h',St i h->(∀b∈fp,∀o,h.get? b=some o->h'.get? b=some o)->St i h'
 item:∀i (s:qHx) (Q:Option Value->qHx->Prop) (E:Value->qHx->Prop),i<n->St i s.heap ->
  (∀v h' tk,P i v->St (i+1) h'->(∀b o,b≠I->s.heap.get? b=some o->h'.get? b=some o)->Q (some v) { s with heap:=h',toks:=tk })->wpAny (model prog w) A (pyNext (.ref I)) Q E s
 done:∀(s:qHx)(Q:Option Value->qHx->Prop)(E:Value->qHx->Prop),St n s.heap ->
  (∀h' tk,(∀b o,b≠I->s.heap.get? b=some o->h'.get? b=some o)->(∃u,h'.get? I=some u)->Q none { s with heap:=h',toks:=tk })->wpAny (model prog w) A (pyNext (.ref I)) Q E s
 self:∀i (s:qHx) (Q:Value->qHx->Prop) (E:Value->qHx->Prop),St i s.heap->Q (.ref I) s->wpAny (model prog w) A (pyIter (.ref I)) Q E s
theorem zOH{prog:qI0}{w:World}{A:qI4}{I:Addr}{fp:List Addr}{n:Nat}{P:Nat->Value->Prop}{St:Nat->Heap->Prop}{R:qL0->qHx->Prop}(W:Walk1 prog w A.in1 I fp n P St)(hn:n<=sizeLine)(S:Addr)(hSf:S∉fp)(res:Value) :
  ∀(k i:Nat)(s:qHx)(acc:Array Value)(c:Nat),n-i=k->i<=n->St i s.heap->s.heap.get? S=some { cls:=.type "list",dict:=none,data:=.seq acc c,slots:=#[] }->ItemsOf P acc i ->
  (∀h' tk acc' c',(∀b o,b≠S->b≠I->s.heap.get? b=some o->h'.get? b=some o)->(∃u,h'.get? I=some u)->h'.get? S=some { cls:=.type "list",dict:=none,data:=.seq acc' c',slots:=#[] }->ItemsOf P acc' n->R (.ok (.ret res)) { s with heap:=h',toks:=tk }) ->
  qJd (model prog w) A (.builtin "list.extend.loop" ⟨[.ref S,.ref I,res],[]⟩) R s:=by
 have hSI:S≠I:=fun h=>hSf (h▸W.me)
 intro k
 induction k with
 |zero=>
  intro i s acc c hk hi hst hS hacc hR;have hin:i=n:=by lia
  subst hin;refine qKg qE3 ?_;rw[qJf qBs _];show wpAny _ A.in1 (pyNext (.ref I) >>= _) _ _ s;refine wpAny_bind (W.done s _ _ hst fun h' tk hk hu=>?_);exact wpAny_pure (hR h' tk acc c (fun b o _ hb e=>hk b o hb e) hu (hk S _ hSI hS) hacc)
 |succ k ih=>
  intro i s acc c hk hi hst hS hacc hR;have hlt:i<n:=by lia
  refine qKg qE3 ?_;rw[qJf qBs _];show wpAny _ A.in1 (pyNext (.ref I) >>= _) _ _ s;refine wpAny_bind (W.item i s _ _ hlt hst fun v h1 t1 hP hst' hk1=>?_);have hS':=hk1 S _ hSI hS;show wpAny _ A.in1 (updateSeq S (·.push v) >>= _) _ _ _;refine wpAny_bind ?_;refine wpAny_updateSeq hS' rfl (wpAny_pure ⟨qK2 qBs _,ih (i+1) _ (acc.push v) _ (by lia) hlt (W.frame _ h1 _ hst' fun b hb o e=>?_) (qI8 _ hS' rfl) (hacc.push hP) fun h'' tk acc' c' hk2 hu hS'' hacc'=>?_⟩)
   (by rw[hacc.1];lia) (by show(acc.push v).size<=sizeLine+1;rw[Array.size_push,hacc.1];lia)
  ·exact(qI2 _ _ (fun h:S=b=>hSf (by rw[h];exact hb))).trans e
  ·refine hR h'' tk acc' c' (fun b o hb hb2 e=>hk2 b o hb hb2 ?_) hu hS'' hacc';exact(qI2 _ _ (qC7 hb)).trans (hk1 b o hb2 e)
structure Once(prog:qI0)(w:World)(T:String)(r:Addr)(fp:List Addr)(n:Nat)(P:Nat->Value->Prop)(St:Nat->Heap->Prop):Prop where
 ty:∀(s:qHx) i,St i s.heap->s.TypeIs (.ref r) T
 nl:(qJ5 T==qJ5 "list")=false
 nt:(qJ5 T==qJ5 "tuple")=false
 me:r∈fp
 hint:∀(A:qI4)(E:Value->qHx->Prop)(s:qHx)(Q:Bool->qHx->Prop),A.handled=none->St 0 s.heap->(∀b tk,Q b { s with toks:=tk })->wpAny (model prog w) A (qJk (.ref r)) Q E s
 walk:∀(A:qI4),A.handled=none->Walk1 prog w A r fp n P St
section
variable{prog:qI0}{w:World}{A:qI4}{E:Value->qHx->Prop}{s:qHx}{T:String}{r:Addr}{fp:List Addr}{n:Nat}{P:Nat->Value->Prop}{St:Nat->Heap->Prop}
theorem zLT{R:qL0->qHx->Prop}(K:Once prog w T r fp n P St)(hh:A.handled=none)(st:St 0 s.heap)(S:Addr)(hSf:S∉fp)(res:Value)(c₀:Nat)(hS:s.heap.get? S=some { cls:=.type "list",data:=.seq #[] c₀ })
  (hR:∀h' tk acc' c',(∀b o,b≠S->b≠r->s.heap.get? b=some o->h'.get? b=some o)->(∃u,h'.get? r=some u)->h'.get? S=some { cls:=.type "list",dict:=none,data:=.seq acc' c',slots:=#[] }->ItemsOf P acc' n->R (.ok (.ret res)) { s with heap:=h',toks:=tk }) (hn:n<=sizeLine) :
  wpAny (model prog w) A.in1 (qIh (.ref S) (.ref r) res)
   (fun fin s'=>match fin with | .done f=>R (.ok f) s' | .again c'=>c'.quiet=true/\qJd (model prog w) A c' R s') (fun e s'=>R (.error e) s') s:=by
 have W:=K.walk A.in1 hh;have hSr:S≠r:=fun z=>hSf (z▸K.me)
 have key:∀(h:Heap)(c₁ tk:Nat),St 0 h->(∀b o,b≠S->s.heap.get? b=some o->h.get? b=some o) ->
   h.get? S=some { cls:=.type "list",data:=.seq #[] c₁ }->qJd (model prog w) A (.builtin "list.extend.loop" ⟨[.ref S,.ref r,res],[]⟩) R { s with heap:=h,toks:=tk }:=by
  intro h c₁ tk hst hk hS₁;refine zOH W hn S hSf res n 0 _ #[] c₁ rfl (qAs _) hst hS₁ (ItemsOf.nil _) fun h' tk' acc' c' hm hu hS' hacc=>?_
  exact hR h' tk' acc' c' (fun b o hb hb2 e=>hm b o hb hb2 (hk b o hb e)) hu hS' hacc
 unfold qIh;refine wpAny_bind (wpAny_typeOf (T:=T) (K.ty s 0 st) ?_);have h1:qJz (.ref S) (.ref r)=false:=by simp[qJz,hSr]
 simp only[h1,K.nl,K.nt,qHc,qCc,if_false];refine wpAny_bind (W.self 0 s _ _ st ?_);refine wpAny_bind (wpAny_holding (K.hint _ _ _ _ hh st fun b tk=>?_));refine qJl (fun _=>?_) (fun _=>wpAny_pure ⟨qK2 qBs _,key _ c₀ _ st (fun b o _ e=>e) hS⟩);refine wpAny_bind (wpAny_rule ?_);refine wpAny_bind ?_;show wpAny _ _ (updateSeq S (·.push .none) >>= fun _=>updateSeq S (·.pop)) _ _ _;refine wpAny_bind (wpAny_updateSeq hS rfl ?_);have hS₂:=qI8 (qIz (·.push qI7)) hS rfl;refine wpAny_updateSeq (hz:=by seq_fits) hS₂ rfl ?_;have hS₃:=qI8 (qIz (·.pop)) hS₂ rfl;refine wpAny_pure ⟨qK2 qBs _,key _ _ _ ?_ (fun b o hb e=>?_) hS₃⟩
 ·refine W.frame 0 _ _ st fun b hb o e=>?_
  have hbS:b≠S:=fun h=>hSf (h▸hb)
  exact(qI2 _ _ (qC7 hbS)).trans ((qI2 _ _ (qC7 hbS)).trans e)
 ·exact(qI2 _ _ (qC7 hb)).trans ((qI2 _ _ (qC7 hb)).trans e)
theorem zQK{Q:Value->qHx->Prop}(K:Once prog w T r fp n P St)(hh:A.handled=none)(st:St 0 s.heap)(hfp:∀b∈fp,b<s.heap.objs.size)(hn:n<=sizeLine)
  (hQ:∀h' tk acc' c',(∀b o,b≠r->s.heap.get? b=some o->h'.get? b=some o)->(∃u,h'.get? r=some u)->h'.get? s.heap.objs.size=some { cls:=.type "list",dict:=none,data:=.seq acc' c',slots:=#[] }->ItemsOf P acc' n->Q (.ref s.heap.objs.size) { s with heap:=h',toks:=tk }) :
  wpAny (model prog w) A (call (.type "list") [.ref r]) Q E s:=by
 refine callType_codes (Q₁:=fun obj s₁=>obj=.ref s.heap.objs.size/\s₁={ s with heap:=s.heap.push { cls:=.type "list",data:=.seq #[] } }) PySem.F.called_list (PySem.F.typeCall_list_1 _) PySem.F.entry_list_init (code_list_new _ ⟨rfl,rfl⟩) fun obj s₁ h₁=>?_
 obtain⟨rfl,rfl⟩:=h₁;have hS:(s.heap.push { cls:=.type "list",data:=.seq #[] }).get? s.heap.objs.size=some { cls:=.type "list",data:=.seq #[] }:=qI1 _ rfl;have hSf:s.heap.objs.size∉fp:=fun hm=>qBy _ (hfp _ hm)
 refine⟨⟨_,hS,rfl⟩,PySem.F.args_list_init_2 _ _,?_⟩
 generalize hg:s.heap.push { cls:=.type "list",data:=.seq #[] }=g at hS ⊢
 show wpAny _ _ (do let old <- qK8 (.ref s.heap.objs.size);Builtin.List.listUpdate (.ref s.heap.objs.size) (fun _=>#[]);letGo old.toList.reverse;qIh (.ref s.heap.objs.size) (.ref r) .none) _ _ _;refine wpAny_bind ?_;unfold qK8;refine wpAny_bind (wpAny_seqItems hS rfl (wpAny_pure ?_));show wpAny _ _ (updateSeq s.heap.objs.size (fun _=>#[]) >>= fun _=>letGo (#[]:Array Value).toList.reverse >>= fun _=>qIh (.ref s.heap.objs.size) (.ref r) .none) _ _ _;refine wpAny_bind (wpAny_updateSeq hS rfl ?_);have hS₂:=qI8 (qIz (fun _=>(#[]:Array Value))) hS rfl;have oth:∀b o,b≠s.heap.objs.size->s.heap.get? b=some o->(g.update s.heap.objs.size (qIz (fun _=>(#[]:Array Value)))).get? b=some o:=
  fun b o hb e=>(qI2 _ _ (qC7 hb)).trans (by rw[<- hg];exact qHy _ e)
 refine wpAny_bind (wpAny_letGo ?_);refine zLT (A:=A.in1) K hh ((K.walk A hh).frame 0 _ _ st fun b hb o e=>oth b o (qAu (hfp b hb)) e) _ hSf .none _ hS₂ (fun h' tk acc' c' hk hu hS' hacc=>?_) hn;exact⟨rfl,hQ h' tk acc' c' (fun b o hb e=>hk b o (qAu (qHz e)) hb (oth b o (qAu (qHz e)) e)) hu hS' hacc⟩
end
section
variable{prog:qI0}{w:World}{A:qI4}{E:Value->qHx->Prop}{s:qHx}{x:Str}{t:Tok}
end
noncomputable def zFQ(p:Addr):HO:=.ext fun h=>∃o,h.get? p=some o
section
variable{X:Cx}{pins:List (Addr×Obj)}{σ:List (Option V)}{H:Hp}{s:qHx}
theorem Inv.spent{p:Addr}{h':Heap}{t':Nat}(I:Inv X pins σ H s)(mu:Mut (H p))(k:∀b u,b≠p->s.heap.get? b=some u->h'.get? b=some u)(hp:∃u,h'.get? p=some u) :
  Inv X pins σ (upd H p (zFQ p)) { s with heap:=h',toks:=t' }:=
 I.write mu (.inl rfl) k hp ⟨hp,hp,fun h1 h2 z f=>let⟨o,e⟩:=z;⟨o,f o e⟩⟩
theorem Inv.walked{p l:Addr}{h':Heap}{t':Nat}{o:HO}(I:Inv X pins σ H s)(mu:Mut (H p))(hl:s.heap.objs.size<=l)(k:∀b u,b≠p->s.heap.get? b=some u->h'.get? b=some u)(hp:∃u,h'.get? p=some u)
  (new:ObjOk X.prog X.w (upd (upd H p (zFQ p)) l o) h' l o):Inv X pins σ (upd (upd H p (zFQ p)) l o) { s with heap:=h',toks:=t' }:=by
 have hn:H l=none:=I.hok.fresh hl;have hpl:l≠p:=fun z=>by subst z;rw[hn]at mu;exact mu
 have w:Un X.fs [] H (upd H p (zFQ p)) s.heap h':=Un.write mu (.inl rfl) k hp;have hn2:upd H p (zFQ p) l=none:=by rw[zAB hpl];exact hn
 refine I.un ⟨w.keep,w.slot,fun b u q n x=>?_,w.there,fun b xs q=>?_,fun b u xs q=>?_,fun b ps q=>?_⟩ fun b u e=>?_
 ·rw[zAB (qAu (qAh (qHz q) hl))];exact w.free b u q n x
 ·rw[zAB (zAE q hn)];exact w.tups b xs q
 ·rw[zAB (zAE q hn)];exact w.frzs b u xs q
 ·rw[zAB (zAE q hn)];exact w.tbls b ps q
 ·by_cases hb:b=l
  ·subst hb;rw[zAC]at e;cases e;exact new
  ·rw[zAB hb]at e;have h0:HOk X.prog X.w (upd H p (zFQ p)) h':=I.hok.write mu (.inl rfl) k hp ⟨hp,hp,fun h1 h2 z f=>let⟨o,e⟩:=z;⟨o,f o e⟩⟩;exact(h0 b u e).stay (fun c v _ q=>q) (fun c q=>by rw[zAB (zAE q hn2)];exact q) (fun c xs q=>by rw[zAB (zAE q hn2)];exact q) fun c _ _ q _=>by rw[zAB (zAE q hn2)];exact q
theorem zPK:∀{xs:List V}{us:List Value},us.length=xs.length->(∀(j:Nat)(u:Value)(x:V),us[j]?=some u->xs[j]?=some x->RelV x u)->Vals xs us
 |[],[],_,_=>.nil
 |x::xs,u::us,e,h=>.cons (h 0 u x rfl rfl) (zPK (by simpa using e) fun j u' x' h1 h2=>h (j+1) u' x' (by simpa using h1) (by simpa using h2))
 |[],_::_,e,_=>by simp at e
 |_::_,[],e,_=>by simp at e
theorem zHP:qIl "reversed" = some (.type "reversed"):=by decide +kernel
end
end L2
namespace L3
open PySem PySem.Spec
open L2 hiding Rep RepL
open Mi (Dt Xn R okR zA2 optR bindR_ok zA4 zAA zA8 zA9 Rh Sl Ro EM TM AM FM IM SM OM Tg Out zAM zAK zAQ full frz frz1 frzAt)
theorem zO9{K:qA1}{c:Str}{C:Addr}(h:clK K c=some C):(clK K c).getD 0=C:=by rw[h];rfl
section
variable{X:Cx}{c:Str}{fl:List Str}{C:Addr}{k:Nat}{E:XK}{e:Expr}{es:List Expr}{t:TA}{p pos:Pos}
end
section
variable[Kc]{mg:Str->Option Value}{E:XK}{L n k l:Nat}{te ta tb:TE}{e ea eb ma:EM}{t:TA}{m:AM}
theorem zPZ{H:Hp}{p:Addr}(h:H p=none)(o u:HO):L2.Same H (upd (upd H p o) p u):=fun b w q=>by
 have hb:b≠p:=fun z=>by rw[z,h]at q;cases q
 rw[zAB hb,zAB hb];exact q
end
end L3
namespace Mi
open PySem
noncomputable section
noncomputable def kyD:Dt->Option (Sum Int Str)
 |.int i=>some (.inl i)
 |.str x=>some (.inr x)
 |_=>none
noncomputable def swD:Dt->Option Sw
 |.non=>some .non
 |.bl b=>some (.bl b)
 |.int i=>some (.int i)
 |.str x=>some (.str x)
 |_=>none
noncomputable def swT:Sw->Dt
 |.non=>.non
 |.bl b=>.bl b
 |.int i=>.int i
 |.str x=>.str x
noncomputable def getW(kvs:List (Sum Int Str×Sw))(k:Sum Int Str):Option Sw:=(kvs.find? fun p=>decide (p.1=k)).map (·.2)
noncomputable def putW(kvs:List (Sum Int Str×Sw))(k:Sum Int Str)(v:Sw):List (Sum Int Str×Sw):=
 if(kvs.any fun p=>decide (p.1=k))=true then kvs.map (fun p=>if p.1=k then(p.1,v)else p)else kvs++[(k,v)]
def zb5:EM:=fun _=>okR (.dct [])
def dinD(ng:Bool)(x y:Dt):Option Dt:=match y with
 |.dct kvs=>match kyD x with
  |some k=>some (.bl (if ng=true then !(getW kvs k).isSome else(getW kvs k).isSome))
  |none=>none
 |_=>none
def zc7(i:Nat)(e1 e2:EM):SM:=fun ρ=>zA2 (e2 (full ρ)) fun v=>match ρ[i]? with
 |some (some (.dct kvs,k+1))=>zA2 (e1 (full ρ)) fun y=>match kyD y,swD v with
  |some q,some u=>@ite _ (kvs.length<=100000) (qA3 _) (okR (.nx (ρ.set i (some (.dct (putW kvs q u),k+1))))) none
  |_,_=>none
 |_=>none
def zVH:List Dt->Option (List (Sum Int Str×Sw))
 |[]=>some []
 |.tup [a,b]::r=>match kyD a,swD b,zVH r with
  |some k,some v,some q=>some ((k,v)::q)
  |_,_,_=>none
 |_::_=>none
def zc5(i:Nat)(e:EM):SM:=fun ρ=>match ρ[i]? with
 |some (some (.dct kvs,k+1))=>zA2 (e (full ρ)) fun d=>match d with
  |.lst ds=>match zVH ds with
   |some ps=>@ite _ (kvs.length+ps.length<=50000) (qA3 _) (okR (.nx (ρ.set i (some (.dct (ps.foldl (fun m p=>putW m p.1 p.2) kvs),k+1))))) none
   |none=>none
  |_=>none
 |_=>none
end
end Mi
namespace L2
open PySem PySem.Spec PyProof.Rows
section
variable{X:Cx}{pins:List (Addr×Obj)}{σ:List (Option V)}{H:Hp}{s:qHx}
theorem zHU(ns:List Int):(qA9 ns.length).map (fun i=>ns.getD i 0)=ns:=by
 refine qB7 (by simp) fun i h1 h2=>?_
 simp[h2]
end
section
variable{X:Cx}
end
section
variable{X:Cx}{e m1:Expr}{te ts:TE}{pos p2:Pos}
theorem zRT{pos:Pos}{i:Nat}{x:Str}{es:List Expr}{p:Pos}{te:TE}{pos':Pos}(hN:X.N.Nodup)(hi:X.N[i]?=some x)(hx:Loc X.env.scope x)(he:Dr (PE X (.List es p) te))(hf:X.fn x=true\/X.env.scope.names.lookup x=some .local:=by first|exact .inl rfl|exact .inr rfl|assumption) :
  Dr (PS X (.Assign [.Name x pos'] (.List es p) pos) (tAsg te (zDZ i))):=⟨zVC hN hi hx he.h rfl hf⟩
end
end L2
namespace L2
open PySem
theorem uw1{P:List Value->Prop}(h:∀a,P [a]):∀us:List Value,us.length=1->P us
 |[a],_=>h a
theorem uw2{P:List Value->Prop}(h:∀a b,P [a,b]):∀us:List Value,us.length=2->P us
 |a::us,hl=>uw1 (P:=fun us=>P (a::us)) (h a) us (qHj hl)
theorem uw3{P:List Value->Prop}(h:∀a b c,P [a,b,c]):∀us:List Value,us.length=3->P us
 |a::us,hl=>uw2 (P:=fun us=>P (a::us)) (h a) us (qHj hl)
theorem oi{p q:Prop}(h:p\/q:=by first|exact qHo rfl|exact qHp rfl):p\/q:=h
end L2
namespace L3
open PySem PySem.Spec
open L2 hiding Rep RepL
open Mi (Dt Xn R okR zA2 optR bindR_ok zA4 zAA zA8 zA9 Rh Sl Ro EM TM AM FM IM SM Tg Out zAM zAK zAQ full frz frz1 frzAt)
section
variable[Kc]
theorem Own.keep{G H H':Hp}:∀{n:Nat}{S:Addr->Prop}{d:Dt}{v:V},Own G H n S d v->(∀b o,S b->H b=some o->H' b=some o)->Own G H' n S d v
 |0,S,d,v,h,_=>h
 |n+1,S,d,v,h,hp=>by
  cases d with
  |lst ds=>obtain⟨a,xs,T,e,ha,k⟩:=h;exact⟨a,xs,T,e,hp _ _ k.top ha,k.imp (fun q _ _ _ w=>Own.keep w fun b o z=>hp b o (k.sub q _ z)) fun _ z=>z⟩
  |tup ds=>obtain⟨a,xs,T,e,ha,k⟩:=h;exact⟨a,xs,T,e,hp _ _ k.top ha,k.imp (fun q _ _ _ w=>Own.keep w fun b o z=>hp b o (k.sub q _ z)) fun _ z=>z⟩
  |dct kvs=>obtain⟨a,e,ha,hs⟩:=h;exact⟨a,e,hp _ _ hs ha,hs⟩
  |dtt ks ds=>obtain⟨a,T0,e0,xs,T,e,ha,hl,ht,k⟩:=h;exact⟨a,T0,e0,xs,T,e,hp _ _ k.top ha,hl,ht,k.imp (fun q _ _ _ w=>Own.keep w fun b o z=>hp b o (k.sub q _ z)) fun _ z=>z⟩
  |loc a d=>exact⟨h.1,Own.keep h.2 hp⟩
  |dsk w ws=>obtain⟨a,e,b,C,dx,h1,⟨h2,h3⟩,h4,h5⟩:=h;exact⟨a,e,b,C,dx,h1,⟨hp _ _ h4 h2,hp _ _ h5 h3⟩,h4,h5⟩
  |_=>exact h
section
variable{G0 H0 S0:Hp}{σ:St}{ρ:Ro}{G H:Hp}{As:Nat->Addr->Prop}
end
variable{mg:Str->Option Value}{E:XK}{L n k l:Nat}{te ta tb:TE}{e ea eb ma:EM}{t:TA}{m:AM}
end
section
variable[Kc]
section
variable{G H:Hp}{cl:Addr}{co:Obj}
mutual
theorem Rep.del(hc:G cl=some (cel co)):∀{d:Dt}{v:V},d.dep<=40->Rep G d v->Rep (del G cl) d v
 |.non,_,_,h=>h
 |.bl _,_,_,h=>h
 |.int _,_,_,h=>h
 |.str _,_,_,h=>h
 |.lst ds,_,hd,h=>by
  obtain⟨a,xs,e,e',r⟩:=h;exact⟨a,xs,e,(zW6 (zOX e' hc (by simp))).trans e',RepL.del hc (by rw[Dt.dep]at hd;lia) r⟩
 |.tup ds,_,hd,h=>by
  obtain⟨a,xs,e,e',r⟩:=h;exact⟨a,xs,e,(zW6 (zOX e' hc (by simp))).trans e',RepL.del hc (by rw[Dt.dep]at hd;lia) r⟩
 |.scr _,_,h,_=>by rw[Dt.dep]at h;lia
 |.exc _ _ _,_,h,_=>by rw[Dt.dep]at h;lia
 |.ins _ _,_,h,_=>by rw[Dt.dep]at h;lia
 |.dct _,_,h,_=>by rw[Dt.dep]at h;lia
 |.fn _ _,_,h,_=>by rw[Dt.dep]at h;lia
 |.dsk _ _,_,h,_=>by rw[Dt.dep]at h;lia
 |.fnc _,_,h,_=>by rw[Dt.dep]at h;lia
 |.dtt _ _,_,h,_=>by rw[Dt.dep]at h;lia
 |.loc _ _,_,h,_=>by rw[Dt.dep]at h;lia
theorem RepL.del(hc:G cl=some (cel co)):∀{ds:List Dt}{xs:List V},Dt.depL ds<=40->RepL G ds xs->RepL (del G cl) ds xs
 |[],_,_,h=>h
 |d::r,_,hd,h=>by
  rw[Dt.depL]at hd;obtain⟨x,q,e,a,b⟩:=h;exact⟨x,q,e,Rep.del hc (by lia) a,RepL.del hc (by lia) b⟩
end
end
variable{mg:Str->Option Value}{E:XK}{n:Nat}
end
end L3
namespace L3
open PySem PyProof.Rows
open L2 hiding Rep RepL
theorem fsc{N P:List Str}{sc:Scope}(a:sc.kind=.function:=by rfl)(b:sc.isCoroutine=false:=by rfl)(c:sc.isGenerator=false:=by rfl)(d:N.Nodup:=by decide +kernel)(e:N.take P.length=P:=by rfl)
  (f:∀x∈P,sc.names.lookup x=some .local\/sc.names.lookup x=some .cell:=by decide +kernel) (g:∀y∈sc.names,y.2≠.free:=by decide +kernel):FnScope N P sc:=⟨a,b,c,d,e,f,g⟩
section
variable{P:qI0}{w:World}{K:qA1}{mg:Str->Option Value}{base:Heap}{x:Str}{st:Stmt}{N ps:List Str}{k:Nat}{sp:Sp}
theorem dfM{L n:Nat}{m:Mi.SM}(D:Def K mg x st)(S:FnScope N ps (zA3 st))
  (hb:∀(kV doc pm:Value)(an:Option Addr)(cdv ct:Value)(us:List Value),us.length=ps.length->qJs (qBb x x (zAW st) (zAX st) (zA3 st) .none kV doc pm an cdv ct) ⟨us,[]⟩=pure (ps.zip us))
  (hbody:∀{f:Addr}{cdv:Value}{A:qI4}{outer:List Env}{s:qHx}{H:Hp}{vs:List V}{Q:VK}{E:XK},Room k (A.deeper (envOfC x (zA3 st) s.heap.objs.size f cdv))->(A.deeper (envOfC x (zA3 st) s.heap.objs.size f cdv)).units+64<cLine->sp0 K mg L (Mi.runF ps.length n m) vs H Q E ->
   ∃t,PSs (cxOf CX0 P w K mg base N x (zA3 st) f cdv A outer s H E).nox (zAX st) t/\t { nx:=fun _ H'=>Q .non H',rt:=Q } (start N vs) H):Has P w K mg base x (k+1) ps (sp0 K mg L (Mi.runF ps.length n m)):=
 D.ok S hb (fun _ _ _ _ h=>@zIE ⟨K⟩ _ _ _ _ _ _ _ _ _ h) fun _ _ _ _ _ _ _ _ _ hr h=>hbody hr hr.units h
theorem dfX{L n:Nat}{m:Mi.SM}(D:Def K mg x st)(S:FnScope N ps (zA3 st))
  (hb:∀(kV doc pm:Value)(an:Option Addr)(cdv ct:Value)(us:List Value),us.length=ps.length->qJs (qBb x x (zAW st) (zAX st) (zA3 st) .none kV doc pm an cdv ct) ⟨us,[]⟩=pure (ps.zip us))
  (hbody:∀{f:Addr}{cdv:Value}{A:qI4}{outer:List Env}{s:qHx}{H:Hp}{vs:List V}{Q:VK}{E:XK},Room k (A.deeper (envOfC x (zA3 st) s.heap.objs.size f cdv))->(A.deeper (envOfC x (zA3 st) s.heap.objs.size f cdv)).units+64<cLine->spE K mg L (Mi.runF ps.length n m) vs H Q E ->
   ∃t,PSs (cxOf (CXe P w) P w K mg base N x (zA3 st) f cdv A outer s H E) (zAX st) t/\t { nx:=fun _ H'=>Q .non H',rt:=Q } (start N vs) H):HasX P w K mg base x (k+1) ps (spE K mg L (Mi.runF ps.length n m)):=
 D.okX S hb (fun _ _ _ _ h=>@zIE ⟨K⟩ _ _ _ _ _ _ _ _ _ h) fun _ _ _ _ _ _ _ _ _ hr h=>hbody hr hr.units h
theorem mkD{K:qA1}{h:Heap}{mg:Str->Option Value}{nm:Str}{st:Stmt}{f:Addr}{oc kV dc pm cd ct:Value}{od an:Option Addr}{sl:Array (Option Value)}(X:K.In h)(G:h.Ns qI3 mg)(a:qB0 K qI3 nm=some (some (.ref f)))(l:K.lookup f=some ⟨oc,od,.func (qBb nm nm (zAW st) (zAX st) (zA3 st) .none kV dc pm an cd ct),sl⟩)(c:qCb K cd nm=true)(k:qB9 K (.ref f)=true):Def K mg nm st:=⟨f,_,zVX (st:=st) l c k,qBe X G a⟩
end
section
variable{X:Cx}{pos:Pos}
theorem pgn(i:Nat){x:Str}(hN:decide X.N.Nodup=true:=by kernel_rfl)(hi:X.N[i]?=some x:=by rfl)(hx:Loc X.env.scope x:=by exact oi)(hf:X.fn x=true\/X.env.scope.names.lookup x=some .local:=by first|exact .inl rfl|exact .inr rfl|assumption):PG X (.Name x pos) (zDZ i):=zBE (of_decide_eq_true hN) hi hx hf
theorem pst(i:Nat){x:Str}{e:Expr}{te:TE}{pos':Pos}(hN:X.N.Nodup)(he:PE X e te)(hi:X.N[i]?=some x:=by rfl)(hx:Loc X.env.scope x:=by exact oi)(hs:qKc e (some (.Name x pos')) pos.line X.env=pure false:=by rfl)(hf:X.fn x=true\/X.env.scope.names.lookup x=some .local:=by first|exact .inl rfl|exact .inr rfl|assumption):PS X (.Assign [.Name x pos'] e pos) (tAsg te (zDZ i)):=zVC hN hi hx he hs hf
end
section
variable{P:qI0}{w:World}{K:qA1}{mg:Str->Option Value}{base:Heap}{x:Str}{st:Stmt}{N ps:List Str}{k:Nat}{sp:Sp}{T:Addr}
end
end L3
namespace L3
open PySem PySem.Spec
open L2 hiding Rep RepL
open Mi (Dt okR)
section
variable[Kc]{mg:Str->Option Value}{E:XK}{L:Nat}
end
section
variable[Kc]{n:Nat}
end
end L3
namespace L3
open PySem PySem.Spec PyProof.Rows
open L2 hiding Rep RepL
structure Tabs(K:qA1)(ts:List Addr):Prop where
 no:∀P∈ts,K.lookup P=none
 «in»:∀x∈makers,∀P,codP K x=some P->(lamK K x).isSome=true->P∈ts/\∃c,qEq K c P=true
theorem zJY{K:qA1}{ts:List Addr}(T:Tabs K ts){P:Addr}{u:HO}(h:tabK K P=some u):P∈ts/\(∃q,u=.lam q)/\∃c,qEq K c P=true:=by
 unfold tabK at h;cases e:makers.find? fun x=>codP K x==some P&&(lamK K x).isSome with
 |none=>rw[e]at h;cases h
 |some x=>
  rw[e]at h;cases h;have h1:=List.mem_of_find?_eq_some e;have h2:=List.find?_some e;simp only[qBf,beq_iff_eq]at h2;obtain⟨a,b⟩:=T.in x h1 P h2.1 h2.2;exact⟨a,⟨_,rfl⟩,b⟩
theorem zR3{P:qI0}{w:World}{K:qA1}{mg mb:Str->Option Value}{CX:CXT}{k:Nat}{fa a:Addr}{fd:qIe}{x:Str}{sp:Sp}{s₁:qHx}{vs:List Value}{ns:List Int}{ts:List Addr}
  (KX:K.In s₁.heap) (hT:∀P∈ts,s₁.heap.get? P=some (qF8 #[])) (T:Tabs K ts) (hns:s₁.heap.Ns qI3 mg) (hb:s₁.heap.Ns qJh mb) (hbb:∀x:Str,x≠"__name__"->mb x=qIl x) (hlim:s₁.heap.NoLimit)
  (hbm:∃bm ob,mg "__builtins__" = some (.ref bm)/\bm≠qJh/\s₁.heap.get? bm=some ob/\ob.cls=.type "module"/\ob.dict=some qJh/\ob.data=.plain) (hg:s₁.gens=#[])
  (ha:s₁.heap.get? a=some { cls:=.type "list",data:=.seq vs.toArray }) (hi:qKw vs ns) (hl:ns.length<=sizeLine) (hr:Room k qKy)
  (F:∀base:Heap,K.In base->base.Ns qI3 mg->FnOk P w K mg base CX k fa fd [x] sp) (hbind:∀(s:qHx)(u:Value),qL6 s fd ⟨[u],[]⟩ [(x,u)])
  (hsp:∀H:Hp,Same (tabK K) H->SqL K H a (ns.map V.int)->sp [.ref a] H (fun v H'=>v=.bl true/\Same (tabK K) H') fun _ _ _=>False)
  (hCX:∀H e s',CX [] H s₁ (fun _ _ _=>False) e s'->False) :
  qJd (model P w) qKy (.call (.ref fa) ⟨[.ref a],[]⟩) (fun r s'=>r=.ok (.ret (.bool true))/\OldK s₁.heap s'.heap/\s'.os=s₁.os/\qK0 s'.gens) s₁:=by
 have rv:=zJV hi;have lenV:=hi.length;have tabO:∀{b:Addr}{u:HO},tabK K b=some u->s₁.heap.get? b=some (qF8 #[]):=fun e=>hT _ (zJY T e).1
 have core:∀H:Hp,(∀b u,H b=some u->(b=a/\∃o xs,u=.frz o (.lst xs))\/tabK K b=some u)->Same (tabK K) H->SqL K H a (ns.map V.int)->HOk P w H s₁.heap->(∀b,H b≠none->K.lookup b=none) ->
   qJd (model P w) qKy (.call (.ref fa) ⟨[.ref a],[]⟩) (fun r s'=>r=.ok (.ret (.bool true))/\OldK s₁.heap s'.heap/\s'.os=s₁.os/\qK0 s'.gens) s₁:=by
  intro H hO hTab hS hok hK;have base_of:∀{b:Addr}{o:Obj},s₁.heap.get? b=some o->H b=none->(hidT s₁.heap H).get? b=some o:=fun e n=>zU4 e n
  have noA:∀{b:Addr}{o:Obj},s₁.heap.get? b=some o->(∀v,o.data≠.fields v)->(∀v n,o.data≠.seq v n)->H b=none:=fun{b o} e d1 d2=>by
   cases q:H b with
   |none=>rfl
   |some u=>
    rcases hO b u q with⟨z,_⟩|z
    ·subst z;rw[ha]at e;cases e;exact absurd rfl (d2 _ _)
    ·rw[tabO z]at e;cases e;exact absurd rfl (d1 _)
  have nsK:∀{b:Addr}{m:Str->Option Value},s₁.heap.Ns b m->(hidT s₁.heap H).Ns b m:=fun{b m} ⟨o,es,ep,e,d,r⟩=>⟨o,es,ep,base_of e (noA e (fun v z=>by rw[d]at z;cases z) fun v n z=>by rw[d]at z;cases z),d,r⟩
  have hKb:K.In (hidT s₁.heap H):=fun b o e=>base_of (KX b o e) (by
   cases q:H b with
   |none=>rfl
   |some u=>rw[hK b (by rw[q];simp)]at e;cases e)
  have hM:Mod K mg (hidT s₁.heap H):=⟨hKb,nsK hns,⟨mb,nsK hb,hbb⟩,let⟨mc,h1,h2⟩:=hlim;⟨mc,nsK h1,h2⟩,let⟨bm,ob,e1,e2,e3,e4,e5,e6⟩:=hbm;⟨bm,ob,e1,e2,base_of e3 (noA e3 (fun v z=>by rw[e6]at z;cases z) fun v n z=>by rw[e6]at z;cases z),e4,e5,e6⟩⟩
  have e0:Env0 P w K mg (hidT s₁.heap H) qKy [] s₁ H:=⟨rfl,hM,fun b o e=>zXM e,qCh (zRE _ _),trivial,fun b hb=>absurd (show b∈([]:List Addr) from hb) (by simp),hok,.of_eq hg⟩
  refine codeAny_mono ((F _ hKb (nsK hns)).run qKy [] s₁ H ⟨[.ref a],[]⟩ [.ref a] [.ref a] _ _ hr e0 (hbind s₁ (.ref a)) (.cons rfl .nil) (hsp H hTab hS)) fun r s' h=>?_
  cases r with
  |error e=>exact(hCX H e s' h).elim
  |ok fl=>
   cases fl with
   |next=>exact qA8 h
   |brk=>exact qA8 h
   |cont=>exact qA8 h
   |ret u=>
    obtain⟨v,H',os,bare,un,hok',r',q,qT⟩:=h;subst q;obtain rfl:u=qL2 true:=r';refine⟨rfl,⟨fun b o e=>?_,fun b o e=>un.there b o e (by simp)⟩,os,bare⟩;cases q:H b with
    |none=>exact .inl (un.keep b o e q (by intro z;exact absurd (show b∈([]:List Addr) from z) (by simp)) (by simp))
    |some u=>
     rcases hO b u q with⟨_,ob,xs,rfl⟩|z
     ·have z2:=un.frzs b ob _ q;obtain⟨e1,_⟩:=hok b _ q;obtain⟨e2,_⟩:=hok' b _ z2;rw[e]at e1;cases e1;exact .inl e2
     ·obtain⟨hts,⟨qq,rfl⟩,c,hc⟩:=zJY T z;obtain⟨ps,e2,_⟩:=hok' b _ (qT _ _ z);have e3:=hT b hts;rw[e3]at e;cases e;exact .inr (.inl ⟨((PySem.W.codeHd_of_K KX hc).tab e3).isCodeTable,rfl,#[],ps,rfl,by rw[e2];simp⟩)
 have tOk:∀{H:Hp}{b:Addr}{u:HO},tabK K b=some u->ObjOk P w H s₁.heap b u:=fun{H b u} z=>by
  obtain⟨hts,⟨q,rfl⟩,_⟩:=zJY T z;exact⟨#[],hT b hts,trivial,fun pos cv y=>by simp[codeAmong]at y⟩
 have nta:tabK K a=none:=by
  cases z:tabK K a with
  |none=>rfl
  |some u=>have:=tabO z;rw[ha]at this;cases this
 cases hk:K.lookup a with
 |some o=>
  have e:=KX a o hk;rw[ha]at e;cases e;exact core (tabK K) (fun b u z=>.inr z) (Same.refl _) (.inr ⟨_,vs.toArray,_,hk,rfl,rfl,rfl,by rw[qAi,lenV];exact hl,by simpa using rv⟩) (fun b u z=>tOk z) fun b z=>by
   cases y:tabK K b with
   |none=>exact absurd y z
   |some u=>exact T.no b (zJY T y).1
 |none=>
  refine core (upd (tabK K) a (.frz { cls:=.type "list",data:=.seq vs.toArray } (.lst (ns.map V.int)))) (fun b u z=>?_) (fun b u z=>?_) (.inl (.inr ⟨{ cls:=.type "list",data:=.seq vs.toArray },zAC⟩)) (fun b u z=>?_) fun b z=>?_
  ·by_cases hb:b=a
   ·subst hb;rw[zAC]at z;cases z;exact .inl ⟨rfl,_,_,rfl⟩
   ·rw[zAB hb]at z;exact .inr z
  ·rw[zAB (zAE z nta)];exact z
  ·by_cases hb:b=a
   ·subst hb;rw[zAC]at z;cases z;exact⟨ha,by rw[qAm];exact hl,vs,_,rv,ha⟩
   ·rw[zAB hb]at z;exact tOk z
  ·by_cases hb:b=a
   ·subst hb;exact hk
   ·rw[zAB hb]at z;cases y:tabK K b with
    |none=>exact absurd y z
    |some u=>exact T.no b (zJY T y).1
theorem zSS{l:qDq}{n k:Nat}{q:qI0}{loose:List Str}{XP:(Str->Option Value)->Heap->Prop}{YP:World->Heap->Prop}{d:DefRec}{K:Params->qA1}{CX:World->CXT}{sp:World->Sp}{x:Str}{ts:List Addr}
  (hn:l.most=some n) (hn2:n<=sizeLine) (hdf:d.params.defaults=[]) (hr:Room k qKy)
  (hY:∀(w:World)(h:Heap),YP w h->(K w.params).In h/\∀P∈ts,h.get? P=some (qF8 #[]))
  (F:∀(w:World)(mg:Str->Option Value)(fa:Addr)(h:Heap),(K w.params).In h->h.Ns qI3 mg->mg d.name=some (.ref fa) ->
   Tabs (K w.params) ts/\∃fd:qIe,(∀(s:qHx)(u:Value),qL6 s fd ⟨[u],[]⟩ [(x,u)]) /\
    ∀base:Heap,(K w.params).In base->base.Ns qI3 mg->FnOk l.prog w (K w.params) mg base (CX w) k fa fd [x] (sp w))
  (hsp:∀(w:World)(H:Hp)(a:Addr)(ns:List Int),ns.length<=n->(∀i∈ns,i.natAbs.log2<2 ^ 20)->Same (tabK (K w.params)) H->SqL (K w.params) H a (ns.map V.int)->sp w [.ref a] H (fun v H'=>v=.bl true/\Same (tabK (K w.params)) H') fun _ _ _=>False)
  (hCX:∀(w:World)(H:Hp)(s:qHx)(e:Value)(s':qHx),CX w [] H s (fun _ _ _=>False) e s'->False) :
  qFk q loose XP YP l.row.toRowW d [] (fun f vs=>qFt f vs):=by
 refine Att.attach_callW hn hdf fun w s₀ s₁ mg mb fa o pm cd doc a vs ns G Y ho hd hcd hmg hobj hints hlen hw hg=>?_
 obtain⟨KX,hT⟩:=hY w _ Y;obtain⟨T,fd,hb,hF⟩:=F w mg fa _ KX G.T.g hmg;exact zR3 KX hT T G.T.g G.T.b G.T.builtins G.T.nolimit G.T.bmain hg hobj hints (qAr hlen hn2) hr hF hb (fun H hO hS=>hsp w H a ns hlen hw hO hS) fun H e s'=>hCX w H s₁ e s'
end L3
namespace L3
open PySem PyProof.Rows
open L2 hiding Rep RepL
structure Mk1(K:qA1)(ts:List Addr)(x:Str)(r:Option Addr):Prop where
 cod:codP K x=r
 lam:(lamK K x).isSome=r.isSome
 hd:∀P,r=some P->P∈ts/\∃c,qEq K c P=true
theorem mk1_none{K:qA1}{ts:List Addr}{x:Str}(a:qB0 K qI3 x=some none):Mk1 K ts x none:=
 ⟨by unfold codP;rw[a],by unfold lamK;rw[a];rfl,fun _ z=>by cases z⟩
structure Tb(K:qA1)(ts:List Addr)(r1 r2 r3:Option Addr):Prop where
 m1:Mk1 K ts "turned_at" r1
 m2:Mk1 K ts "exchanged_at" r2
 m3:Mk1 K ts "pivoted" r3
section
variable{K:qA1}{ts:List Addr}{r1 r2 r3:Option Addr}
theorem Tb.tabs(T:Tb K ts r1 r2 r3)(no:∀P∈ts,K.lookup P=none):Tabs K ts:=⟨no,fun x hx P h _=>by
 unfold makers at hx;simp only[qA6,qBd,or_false]at hx
 rcases hx with rfl|rfl|rfl
 ·exact T.m1.hd P (T.m1.cod.symm.trans h)
 ·exact T.m2.hd P (T.m2.cod.symm.trans h)
 ·exact T.m3.hd P (T.m3.cod.symm.trans h)⟩
end
def TbE(K:qA1)(ts:List Addr):Prop:=∃r1 r2 r3,Tb K ts r1 r2 r3
theorem walk_of0{l:qDq}{n k:Nat}{q:qI0}{loose:List Str}{XP:(Str->Option Value)->Heap->Prop}{YP:World->Heap->Prop}{d:DefRec}{K:Params->qA1}{x:Str}
  (hn:l.most=some n) (h63:n<=63) (hdf:d.params.defaults=[]) (hr:Room k qKy) (hY:∀(w:World)(h:Heap),YP w h->(K w.params).In h)
  (F:∀(w:World)(mg:Str->Option Value)(fa:Addr)(h:Heap),(K w.params).In h->h.Ns qI3 mg->mg d.name=some (.ref fa) ->
   TbE (K w.params) []/\∃fd:qIe,(∀(s:qHx)(u:Value),qL6 s fd ⟨[u],[]⟩ [(x,u)]) /\
    ∀base:Heap,(K w.params).In base->base.Ns qI3 mg->FnOk l.prog w (K w.params) mg base CX0 k fa fd [x] (zHT (K w.params))) :
  qFk q loose XP YP l.row.toRowW d [] (fun f vs=>qFt f vs):=
 zSS (K:=K) (ts:=[]) (CX:=fun _=>CX0) (sp:=fun w=>zHT (K w.params)) hn (qAr h63 (by decide)) hdf hr (fun w h Y=>⟨hY w h Y,fun P z=>absurd z (by simp)⟩)
  (fun w mg fa h KX G hm=>let⟨⟨_,_,_,T⟩,r⟩:=F w mg fa h KX G hm;⟨T.tabs fun P z=>absurd z (by simp),r⟩)
  (fun _ _ a ns hl hw hT hS=>⟨a,ns,rfl,hT,hS,qAr hl h63,hw,fun _ z=>⟨rfl,z⟩⟩) fun _ _ _ _ _ z=>z
end L3
namespace L3
open PySem PySem.Spec
open L2 hiding Rep RepL
section
variable[Kc]{mg:Str->Option Value}{E:XK}{L:Nat}
end
end L3
namespace L3
open PySem PySem.Spec
open L2 hiding Rep RepL
open Mi (Dt EM FM okR)
end L3
namespace L3
open PySem PySem.Spec
open L2 hiding Rep RepL
open Mi (Dt Xn R okR zA2 optR bindR_ok zA4 zAA zA8 zA9 Rh Sl Ro EM TM AM FM IM SM Tg Out full frz frz1 frzAt)
section
variable[Kc]{mg:Str->Option Value}{E:XK}{L:Nat}{tA tB:TT}{A B:TM}
end
end L3
namespace Mi
open PySem
noncomputable def lamF(n:Nat)(e:EM):FM:=fun ds=>if ds.length=n then e (ds.map some)else none
end Mi
namespace PySem
open Sem (wp)
section
variable{prog:qI0}{w:World}{A:qI4}{K:Type}[DecidableEq K]{knd:KeyKind prog w K}
end
end PySem
noncomputable section
namespace Mi
end Mi
end
namespace L2
open PySem PySem.Spec PyProof.Rows
section
variable{X:Cx}
end
end L2
namespace L3
open PySem PySem.Spec
open L2 hiding Rep RepL
open Mi (Dt Xn R okR zA2 optR bindR_ok zA4 zAA zA8 zA9 Rh Sl Ro EM TM AM FM IM SM OM Tg Out zAM zAK zAQ full frz frz1 frzAt)
section
variable[Kc]{mg:Str->Option Value}{E:XK}{n k:Nat}{te:TE}{e:EM}
end
end L3
noncomputable section
namespace Mi
end Mi
end
namespace Mi
open PySem
noncomputable section
end
noncomputable section
end
end Mi
namespace L2
open PySem PySem.Spec PyProof.Rows
section
variable{prog:qI0}{w:World}{A:qI4}{E:Value->qHx->Prop}{s:qHx}
theorem zTY{d:Addr}{o:Obj}{es:Array DictEntry}{ep:Nat}{Q:Value->qHx->Prop}(hd:(d==qIs)=false)(ho:s.heap.get? d=some o)(hc:o.ExactDict)(hdat:o.data=.dict es ep)
  (hQ:Q (.ref s.heap.objs.size) { s with heap:=s.heap.push { cls:=.type "dict_keyiterator",data:=.fields #[.ref d,.int 0 0,.int es.size 0,.int ep 0] } }) :
  wpAny (model prog w) A (pyIter (.ref d)) Q E s:=by
 have hT:s.TypeIs (.ref d) "dict":=⟨o,ho,hc.1⟩
 refine wpAny_pyIter_slot hT qLi (wpAny_call_entry qLi hT F.entry_dict_iter ?_ (F.args_dict_iter_1 _));unfold qLb.«dict.__iter__» Builtin.Dict.dictSlotNone;refine wpAny_bind (wpAny_bind (wpAny_notOrdered_dict hT (wpAny_pure ?_)));show wpAny _ _ (qKh d >>= _) _ _ s;unfold qKh;rw[if_neg (by rw[hd];exact qAa)];refine wpAny_bind (wpAny_pure (wpAny_bind (wpAny_dictEntries ho hdat (wpAny_bind (wpAny_dictEpoch ho hdat ?_)))));refine wpAny_bind (wpAny_newObj_type (wpAny_pure ⟨_,rfl,"dict_keyiterator",_,⟨_,qI1 _ rfl,rfl⟩,qId.lookup,?_⟩))
 simpa[rawInt]using hQ
theorem zTO{it d:Addr}{o:Obj}{es:Array DictEntry}{i ep:Nat}{Q:Option Value->qHx->Prop}(hit:s.heap.IsKeyIter it d i es.size ep)(ho:s.heap.get? d=some o)(hdat:o.data=.dict es ep)(hlt:i<es.size)
  (hQ:∀h',h'.IsKeyIter it d (i+1) es.size ep->qJ9 it s.heap h'->Q (some es[i].key) { s with heap:=h' }) :
  wpAny (model prog w) A (pyNext (.ref it)) Q E s:=by
 obtain⟨oi,hoi,hci,hdi⟩:=id hit;unfold pyNext;refine wpAny_bind (wpAny_attempt (wpAny_callSpecial?_slot (name:=qJa "__next__") hit.typeIs qId
  (wpAny_call_entry qId hit.typeIs qJe ?_ (qJb _))))
 refine wpAny_bind (wpAny_pure (wpAny_bind (wpAny_bind ?_)))
 first|refine wpAny_bind (wpAny_typeNameOfWhole_keyiter hit.typeIs (wpAny_pure ?_))|refine wpAny_bind (wpAny_typeNameOf_keyiter hit.typeIs (wpAny_pure ?_))
 refine wpAny_bind (wpAny_fieldsOf hoi hdi ?_);simp only[show qJg "dict_keyiterator" = false by decide,qCc,if_false];show wpAny _ _ (if(qI5 d==qI7)=true then _ else _) _ _ s;rw[if_neg (show ¬((qI5 d==qI7)=true) from qAa)];refine wpAny_bind (wpAny_pure (wpAny_bind (wpAny_dictEntries ho hdat ?_)));rw[if_neg (by simp)];refine wpAny_bind (wpAny_pure (wpAny_bind (wpAny_dictEpoch ho hdat ?_)));rw[if_neg (by simp)];refine wpAny_pure ?_;simp only[show ¬((i:Int)<0) from by omega,if_false,qBa,qCo hlt];refine wpAny_bind ?_
 first|refine wpAny_bind (wpAny_typeNameOfWhole_keyiter hit.typeIs (wpAny_pure ?_))|refine wpAny_bind (wpAny_typeNameOf_keyiter hit.typeIs (wpAny_pure ?_))
 refine wpAny_bind (wpAny_isOneOf_keyiter hit.typeIs ?_);show wpAny _ _ (setField (.ref it) 1 (rawInt ((i:Int)+1)) >>= _) _ _ s;refine wpAny_bind (wpAny_setField hoi hdi (by simp) ?_);have hit':(s.heap.update it (qIa (·.setIfInBounds 1 (rawInt ((i:Int)+1))))).IsKeyIter it d (i+1) es.size ep:=
  ⟨_,qI8 _ hoi (qIr (qIk hdi _)),(qLa ..).trans hci,by rw[qIk hdi];simp[rawInt]⟩
 refine wpAny_bind (wpAny_holding ?_);refine wpAny_bind (wpAny_isOneOf_keyiter (s:={ s with heap:=s.heap.update it (qIa (·.setIfInBounds 1 (rawInt ((i:Int)+1)))) }) hit'.typeIs ?_);exact wpAny_pure (wpAny_pure ⟨_,rfl,wpAny_pure (hQ _ hit' (qKz ..))⟩)
theorem zYH{it d:Addr}{o:Obj}{es:Array DictEntry}{i ep:Nat}{Q:Option Value->qHx->Prop}(hh:A.handled=none)(hit:s.heap.IsKeyIter it d i es.size ep)(ho:s.heap.get? d=some o)(hdat:o.data=.dict es ep)(hge:es.size<=i)
  (hQ:∀h',Heap.ExtBut it s.heap h'->Q none { s with heap:=h' }):wpAny (model prog w) A (pyNext (.ref it)) Q E s:=by
 obtain⟨oi,hoi,hci,hdi⟩:=id hit;unfold pyNext;refine wpAny_bind (wpAny_attempt (wpAny_callSpecial?_slot (name:=qJa "__next__") hit.typeIs qId
  (wpAny_call_entry qId hit.typeIs qJe ?_ (qJb _))))
 refine wpAny_bind (wpAny_pure (wpAny_bind (wpAny_bind ?_)))
 first|refine wpAny_bind (wpAny_typeNameOfWhole_keyiter hit.typeIs (wpAny_pure ?_))|refine wpAny_bind (wpAny_typeNameOf_keyiter hit.typeIs (wpAny_pure ?_))
 refine wpAny_bind (wpAny_fieldsOf hoi hdi ?_);simp only[show qJg "dict_keyiterator" = false by decide,qCc,if_false];show wpAny _ _ (if(qI5 d==qI7)=true then _ else _) _ _ s;rw[if_neg (show ¬((qI5 d==qI7)=true) from qAa)];refine wpAny_bind (wpAny_pure (wpAny_bind (wpAny_dictEntries ho hdat ?_)));rw[if_neg (by simp)];refine wpAny_bind (wpAny_pure (wpAny_bind (wpAny_dictEpoch ho hdat ?_)));rw[if_neg (by simp)];refine wpAny_pure ?_;simp only[show ¬((i:Int)<0) from by omega,if_false,qBa,qEt hge];refine wpAny_bind ?_
 first|refine wpAny_bind (wpAny_typeNameOfWhole_keyiter hit.typeIs (wpAny_pure ?_))|refine wpAny_bind (wpAny_typeNameOf_keyiter hit.typeIs (wpAny_pure ?_))
 show wpAny _ _ (setField (.ref it) 0 .none >>= _) _ _ s;refine wpAny_bind (wpAny_setField hoi hdi (by simp) ?_);show wpAny _ _ (newExc (.type "StopIteration") [] >>= _) _ _ _;refine wpAny_bind ?_;simp only[newExc,newTuple];refine wpAny_bind (wpAny_newObj_type ?_ (by size_fits));refine wpAny_bind (m:=qJw _ _) (wpAny_of_eq (a:=qI7) (by first|rfl|(simp only[qJw];rfl)) ?_);refine wpAny_newObj_type ?_ (by size_fits);simp only[raiseNew];refine wpAny_bind (wpAny_handled ?_);rw[show A.in1.handled=none from hh];refine wpAny_bind (wpAny_pure (wpAny_throw ?_));refine wpAny_bind (wpAny_isInstance (T:="StopIteration") (b:=true) ⟨_,qI1 _ rfl,rfl⟩ isSubtype_stop ?_);exact wpAny_pure (hQ _ (((qKz ..).extBut.push _).push _))
end
noncomputable def Itd(a:Addr)(e0 n:Nat):It:=
 ⟨fun i H=>i<n/\∃T kvs,H a=some (.dT T e0 kvs)/\kvs.length=n,
  fun i H x H'=>H'=H/\∀T kvs,H a=some (.dT T e0 kvs)->kvs.length=n->∃b p,x=.ref b/\kvs[i]?=some p/\TupK H b p.1/\T b,
  fun i H=>n<=i/\∃T kvs,H a=some (.dT T e0 kvs)/\kvs.length=n⟩
theorem zcN{H:Hp}{T:Addr->Prop}{kvs:List (List KeyN×V)}{xs:List (List KeyN×Addr×Value)}(r:KT H T kvs xs):∀{i:Nat}{q:List KeyN×Addr×Value},xs[i]?=some q->∃p,kvs[i]?=some p/\TupK H q.2.1 p.1/\T q.2.1:=by
 induction r with
 |nil=>intro i q h;simp at h
 |@cons p q ps qs h t ih=>
  intro i c e;cases i with
  |zero=>simp at e;subst e;exact⟨p,rfl,h.2.1⟩
  |succ i=>simp at e;obtain⟨p',h1,h2⟩:=ih e;exact⟨p',by simpa using h1,h2⟩
section
variable{P:qI0}{w:World}{K:qA1}{tg:Expr}
theorem zPO(a it:Addr)(e0 n:Nat):Turn P w K tg (Itd a e0 n) [it] it (fun i h=>h.IsKeyIter it a i n e0) where
 mem:=by simp
 obj:=fun i h st b hb=>by
  have e:b=it:=by simpa using hb
  subst e;obtain⟨o,e,c,d⟩:=st;exact⟨o,e,fun v z=>by rw[d]at z;cases z⟩
 keep:=fun i h h' st k=>by
  obtain⟨o,e,c,d⟩:=st;exact⟨o,k it (by simp) o e,c,d⟩
 item:=by
  intro X hP hw hK hc i pins s σ H E I hf st hg;subst hP hw hK;obtain⟨hi,T,kvs,hq,hn⟩:=hg;obtain⟨z,y,xs,r,o,es,ep,h1,h2,h3,h4,h5,rfl⟩:=(show ObjOk X.prog X.w H s.heap a (.dT T e0 kvs) from I.hok a _ hq)
  have hl:=qJ0 r;have hes:es.size=n:=by
   have:=congrArg qDm h4
   simp at this;omega
  subst hes;obtain⟨f0,f1,f2,f3,f4,f5⟩:=hf it (by simp);refine zTO st h1 h3 hi fun h' st' sb=>?_
  have I1:Inv X pins σ H { s with heap:=h' }:=I.turned (t':=s.toks) (fun b o hb e=>(sb.2 b hb).trans e) f0 f1 f3 f4 f5;obtain⟨o',e',c',d'⟩:=id st';have hx:xs[i]?=some (xs[i]'(by omega)):=qA5 (by omega);obtain⟨p,hp,htk,hT⟩:=zcN r hx;have hk:es[i].key=.ref (xs[i]'(by omega)).2.1:=by
   have h6:es.toList[i]?=some es[i]:=by rw[qCf];exact qCo hi
   rw[h4,qAf,hx]at h6;simp at h6;rw[<- h6];rfl
  refine⟨es[i].key,rfl,zRI (s:={ s with heap:=h' }) e' c' d' (by decide) ⟨.ref (xs[i]'(by omega)).2.1,H,I1,by rw[hk];rfl,⟨rfl,fun T2 kvs2 q2 _=>?_⟩,st',fun b hb=>(hf b hb).1⟩⟩;rw[hq]at q2;cases q2;exact⟨_,p,rfl,hp,htk,hT⟩
 done:=by
  intro X hP hw hK hc i pins s σ H E I hf st hg;subst hP hw hK;obtain⟨hi,T,kvs,hq,hn⟩:=hg;obtain⟨z,y,xs,r,o,es,ep,h1,h2,h3,h4,h5,rfl⟩:=(show ObjOk X.prog X.w H s.heap a (.dT T e0 kvs) from I.hok a _ hq)
  have hl:=qJ0 r;have hes:es.size=n:=by
   have:=congrArg qDm h4
   simp at this;omega
  subst hes;obtain⟨f0,f1,f2,f3,f4,f5⟩:=hf it (by simp);exact zYH (I.ok.hd hc) st h1 h3 hi fun h' eb=>⟨rfl,I.turned (t':=s.toks) (fun b o hb e=>eb b o hb e) f0 f1 f3 f4 f5⟩
 self:=fun A i s Q E st h=>by
  obtain⟨o,e,c,d⟩:=st;exact wpAny_pyIter_keyiter ⟨o,e,c,d⟩ h
variable{X:Cx}
def iDct(tl:TE):TI:=fun σ H R=>tl σ H fun x H1=>∃a T e0 kvs,x=.ref a/\H1 a=some (.dT T e0 kvs)/\R (Itd a e0 kvs.length) H1
theorem zZX{l:Expr}{tl:TE}(hl:PE X l tl):PI X tg l (iDct tl):=by
 intro pins s σ H R I h;refine thn (hl pins s σ H _ I h) fun v s1 z0=>?_
 obtain⟨x,H1,I1,r1,q1⟩:=z0;obtain⟨a,T,e0,kvs,e,hq,q⟩:=q1;subst e;cases r1;obtain⟨z,y,xs,r,o,es,ep,h1,h2,h3,h4,h5,rfl⟩:=(show ObjOk X.prog X.w H1 s1.heap a (.dT T e0 kvs) from I1.hok a _ hq)
 have hl:=qJ0 r;have hes:es.size=kvs.length:=by
  have:=congrArg qDm h4
  simp at this;omega
 refine zTY y h1 h2 h3 ?_;refine⟨s1.heap.objs.size,[s1.heap.objs.size],_,_,H1,rfl,I1.kept (t':=s1.toks) fun b o e=>qHy _ e,zPO a _ _ _,⟨_,qI1 _ rfl,rfl,by rw[<- hes];rfl⟩,fun b hb=>?_,q⟩;have e:b=s1.heap.objs.size:=by simpa using hb
 subst e;exact I1.fpOk (qA7 _) (I1.hok.fresh (qA7 _))
end
def zWX(td ty tv:TE):TS:=fun D σ H=>tv σ H fun v H1=>td σ H1 fun x H2=>ty σ H2 fun y H3=>∃a T e0 kvs k b,x=.ref a/\H3 a=some (.dT T e0 kvs)/\y=.ref b/\TupK H3 b k/\kvs.length<sizeLine /\
 ∀e1,D.nx σ (upd H3 a (.dT (fun c=>T c\/c=b) e1 (putK kvs k v)))
section
variable{X:Cx}{pins:List (Addr×Obj)}{σ:St}{H:Hp}{s:qHx}{a b:Addr}{v:V}{r:Value}{A:qI4}{E:Value->qHx->Prop}
theorem zPR{T:Addr->Prop}{e0:Nat}{kvs:List (List KeyN×V)}{k:List KeyN}{Q:Unit->qHx->Prop}(hu:A.units+1<cLine)(I:Inv X pins σ H s)(e:H a=some (.dT T e0 kvs))(eb:TupK H b k)(l:kvs.length<sizeLine)(rv:RelV v r)
  (h:∀e1 s',Inv X pins σ (upd H a (.dT (fun c=>T c\/c=b) e1 (putK kvs k v))) s'->Q () s'):wpAny (model X.prog X.w) A (setItem (.ref a) (.ref b) r) Q E s:=by
 obtain⟨z,hd,xs,rel,dd⟩:=zb7 I.hok e;have hz:xs.length<=sizeLine:=by rw[<- qJ0 rel];exact z
 have hl:(putK kvs k v).length<=sizeLine:=by have:=zGU kvs k v;omega
 refine wpAny_setItem_heap (hsz:=hz) (tupleKind_room_in1 hu) (zKL I.hok eb) dd fun h' dd' hs=>?_
 obtain⟨q,es,ep,hq,h2,h3,h4,_,h5⟩:=dd';refine h ep _ (zS2 I (by rw[e];exact qFq) hs ⟨q,hq⟩ ⟨hl,hd,_,(rel.put k eb rv).keeps fun c ys ec=>?_,q,es,ep,hq,h2,h3,h4,h5,rfl⟩);rw[zAB (zOX ec e (fun z=>nomatch z))];exact ec
theorem zXD{X:Cx}{o i value:Expr}{td ty tv:TE}{pos pos':Pos}(hu:X.A.units+1<cLine)(ho:PE X o td)(hi:PE X i ty)(hv:PE X value tv)(hs:qKc value (some (.Subscript o i pos')) pos.line X.env=pure false) :
  PS X (.Assign [.Subscript o i pos'] value pos) (zWX td ty tv):=by
 intro pins s σ H D I h;refine wpAny_Assign_Subscript (thn (hv pins s σ H _ I h) fun r s1 ⟨v,H1,I1,rv,q1⟩=>thn (ho pins s1 σ H1 _ I1 q1) fun u s2 ⟨x,H2,I2,rx,q2⟩=>thn (hi pins s2 σ H2 _ I2 q2) fun iv s3 z0=>?_) hs;obtain⟨y,H3,I3,ry,a,T,e0,kvs,k,b,ex,hq,ey,eb,hl,q3⟩:=z0;subst ex ey
 cases(show u=qI5 a from rx)
 cases(show iv=qI5 b from ry)
 exact zPR hu I3 hq eb hl rv fun e1 s4 I4=>⟨σ,_,I4,q3 e1⟩
def zUX(tk tv:TE):TE:=fun σ H Q=>∀p,H p=none->tk σ (upd H p (.dT (fun _=>False) 0 [])) fun x H1=>tv σ H1 fun y H2=>∃b k,x=.ref b/\TupK H2 b k/\H2 p=some (.dT (fun _=>False) 0 []) /\
 ∀e1,Q (.ref p) (upd H2 p (.dT (fun c=>False\/c=b) e1 (putK [] k y)))
theorem zTJ{X:Cx}{pos:Pos}{k v:Expr}{tk tv:TE}(hu:X.A.units+1<cLine)(hk:PE X k tk)(hv:PE X v tv):PE X (.Dict [some k] [v] pos) (zUX tk tv):=by
 intro pins s σ H Q I q;have hn:=I.hok.fresh (qA7 s.heap.objs.size);have I1:=I.laid (a:=s.heap.objs.size) (o:=.dT (fun _=>False) 0 []) (h':=s.heap.push { cls:=.type "dict",data:=.dict #[] }) (t':=s.toks) (fun _ _ q=>qHy _ q) (qA7 _) (zNX s.heap I.big);have hp:PPs X pos [some k] [v] [(tk,tv)]:=zTG hk hv zXE;have q1:zPS [(tk,tv)] σ (upd H s.heap.objs.size (.dT (fun _=>False) 0 [])) (fun ps H2=>match ps with
   |[(x,y)]=>∃b k,x=.ref b/\TupK H2 b k/\H2 s.heap.objs.size=some (.dT (fun _=>False) 0 []) /\
    ∀e1,Q (.ref s.heap.objs.size) (upd H2 s.heap.objs.size (.dT (fun c=>False\/c=b) e1 (putK [] k y)))
   |_=>False):=q _ hn
 unfold eval;refine wpAny_bind (wpAny_standAt ?_);have e:(evalEachOpt [some k] X.env).zip (qHq (fun v=>do let x <- v;qLu pos;pure x) (evalEach [v] X.env))=qHq (fun p=>(some p.1,p.2)) (pairTrees [some k] [v] X.env pos):=rfl;rw[e,dictDisplay_pairs _ (by intro z;cases z) (by exact(by decide:(1:Nat)<17))];refine wpAny_bind ?_;unfold subDict;refine wpAny_bind (wpAny_alloc ?_);refine wpAny_bind (wpAny_holding ?_);rw[if_pos (by exact(by decide:(1:Nat)<=15))];refine wpAny_bind (thn (hp pins _ σ _ _ I1 q1) fun vs s2 z0=>?_);obtain⟨ps,H2,I2,rel,q2⟩:=z0;cases rel with
 |nil=>exact q2.elim
 |@cons a u as us h t=>
  cases t with
  |cons _ _=>exact q2.elim
  |nil=>
   obtain⟨x,y⟩:=a;obtain⟨u1,u2⟩:=u;obtain⟨b,kk,rfl,eb,e2,q3⟩:=q2;obtain⟨r1,r2⟩:=h
   cases(show u1=qI5 b from r1)
   refine wpAny_holding ?_;obtain⟨z,hd,xs,rel,dd⟩:=zb7 I2.hok e2;cases rel;rw[qG7];refine wpAny_bind (wpAny_bind (wpAny_bind (wpAny_dictSet_heap (knd:=tupleKind (mixN X.prog X.w)) (show X.A.units<cLine by omega) (zKL I2.hok eb) dd (fun h' dd' hs=>?_) (qAs _))));obtain⟨qo,es,ep,hq,h2,h3,h4,_,h5⟩:=dd';refine wpAny_pure ?_;show wpAny _ _ (forIn [] _ _) _ _ _;rw[qGt];refine wpAny_pure (wpAny_pure (wpAny_pure (wpAny_pure ⟨.ref s.heap.objs.size,_,zS2 (ob:=.dT (fun c=>False\/c=b) ep (putK [] kk y)) I2 (by rw[e2];exact qFq) hs ⟨qo,hq⟩ ⟨?_,hd,_,(KT.put (T:=fun _=>False) .nil kk eb r2).keeps fun c ys ec=>?_,qo,es,ep,hq,h2,h3,h4,h5,rfl⟩,rfl,q3 ep⟩)))
   ·have:=zGU ([]:List (List KeyN×V)) kk y;rw[qIq];simp at this ⊢;omega
   ·rw[zAB (zOX ec e2 (fun z=>nomatch z))];exact ec
end
end L2
namespace Mi
open PySem
noncomputable section
noncomputable def kNo:Sw->Option (Sum Int Str)
 |.non=>none
 |.bl b=>some (.inl (if b then 1 else 0))
 |.int i=>some (.inl i)
 |.str x=>some (.inr x)
abbrev kNs(k:List Sw):List (Option (Sum Int Str)):=k.map kNo
def swsD:List Dt->Option (List Sw)
 |[]=>some []
 |d::r=>match swD d,swsD r with
  |some a,some q=>some (a::q)
  |_,_=>none
def kyU:Dt->Option (List Sw)
 |.tup ds=>swsD ds
 |_=>none
noncomputable def posT(ks:List (List Sw))(k:List Sw):Option Nat:=ks.findIdx? fun q=>decide (kNs q=kNs k)
def getT(ks:List (List Sw))(ds:List Dt)(k:List Sw):Option Dt:=match posT ks k with
 |some j=>ds[j]?
 |none=>none
noncomputable def noB1:Sw->Bool
 |.bl _=>false
 |_=>true
def noBs(ks:List (List Sw)):Bool:=ks.all fun k=>k.all noB1
def fitT(ks:List (List Sw))(k:List Sw):Bool:=(posT ks k).isNone || !noBs ks||k.all noB1
def putKs(ks:List (List Sw))(k:List Sw):List (List Sw):=match posT ks k with
 |some _=>ks
 |none=>ks++[k]
def putDs(ks:List (List Sw))(ds:List Dt)(k:List Sw)(v:Dt):List Dt:=match posT ks k with
 |some j=>ds.set j v
 |none=>ds++[v]
def eDtt0:EM:=fun _=>okR (.dtt [] [])
def eTOne(k v:EM):EM:=fun ρ=>zA2 (k ρ) fun y=>zA2 (v ρ) fun z=>match kyU y with
 |some q=>okR (.dtt [q] [z])
 |none=>none
def dinT(ng:Bool)(x y:Dt):Option Dt:=match y with
 |.dtt ks _=>match kyU x with
  |some k=>some (.bl (if ng=true then !(posT ks k).isSome else(posT ks k).isSome))
  |none=>none
 |_=>none
def eTGet(d k x:EM):EM:=fun ρ=>zA2 (d ρ) fun D=>match D with
 |.dtt ks ds=>zA2 (k ρ) fun y=>zA2 (x ρ) fun z=>match kyU y with
  |some q=>okR (match getT ks ds q with|some w=>w|none=>z)
  |none=>none
 |_=>none
def eTIx(d k:EM):EM:=fun ρ=>zA2 (d ρ) fun D=>match D with
 |.dtt ks ds=>zA2 (k ρ) fun y=>match kyU y with
  |some q=>optR (getT ks ds q)
  |none=>none
 |_=>none
def putGo(i n:Nat)(e1:EM)(ρ:Ro)(ρ':Rh)(v:Dt):R Ro:=match ρ[i]? with
 |some (some (.dtt ks ds,k+1))=>zA2 (e1 ρ') fun y=>match kyU y with
  |some q=>@ite _ (v.dep<=n/\v.dep<=k/\ks.length<=100000/\fitT ks q=true) (qA3 _) (okR (ρ.set i (some (.dtt (putKs ks q) (putDs ks ds q v),k+1)))) none
  |none=>none
 |_=>none
def sTput(i n:Nat)(e1 e2:EM):SM:=fun ρ=>zA2 (e2 (full ρ)) fun v=>zA2 (putGo i n e1 ρ (full ρ) v) fun ρ2=>okR (.nx ρ2)
def sTmpPut(j i n:Nat)(e e1 e2:EM):SM:=fun ρ=>if i=j then none else zA2 (e (full ρ)) fun a=>zA2 (e2 ((full ρ).set j (some a))) fun v=>zA2 (putGo i n e1 ρ ((full ρ).set j (some a)) v) fun ρ2=>okR (.nx (ρ2.set j none))
def sRetTIx(L i:Nat)(e:EM):SM:=fun ρ=>match ρ[i]? with
 |some (some (.dtt ks ds,k+1))=>zA2 (e (full ρ)) fun y=>match kyU y with
  |some q=>match getT ks ds q with
   |some d=>if k=L then okR (.rt d)else none
   |none=>none
  |none=>none
 |_=>none
noncomputable def tupD:List Dt->Option Dt
 |[.lst xs]=>some (.tup xs)
 |_=>none
def iDk(e:EM):IM:=fun ρ=>zA2 (e ρ) fun d=>match d with
 |.dtt ks ds=>if noBs ks=true/\ks.length=ds.length then okR (ks.map fun k=>.tup (k.map swT))else none
 |_=>none
end
noncomputable section
def eVL(i:Nat):EM:=fun ρ=>match ρ[i]? with
 |some (some (.loc _ d))=>okR d
 |_=>none
def sItemL(i n:Nat)(e1 e2:EM):SM:=fun ρ=>zA2 (e2 (full ρ)) fun d=>match ρ[i]? with
 |some (some (.loc p (.lst ds),k+2))=>zA2 (e1 (full ρ)) fun z=>match z with
  |.int z=>match ixA ds.length z with
   |some q=>if d.dep<=n/\d.dep<=k then okR (.nx (ρ.set i (some (.loc p (.lst (ds.set q d)),k+2))))else none
   |none=>none
  |_=>none
 |_=>none
inductive OutM where
 |nx (ρ:Ro)|rt (ρ:Ro) (d:Dt)|rv (ρ:Ro) (i:Nat)
abbrev SMM:=Ro->R OutM
def mLift(s:SM):SMM:=fun ρ=>zA2 (s ρ) fun o=>match o with
 |.nx ρ'=>okR (.nx ρ')
 |_=>none
def mSeq(a b:SMM):SMM:=fun ρ=>zA2 (a ρ) fun o=>match o with
 |.nx ρ'=>b ρ'
 |o=>okR o
def mIf(c:TM)(a b:SMM):SMM:=fun ρ=>zA2 (c (full ρ)) fun k=>if k=true then a ρ else b ρ
def mRet(e:EM):SMM:=fun ρ=>zA2 (e (full ρ)) fun d=>if d.dep=0 then okR (.rt ρ d)else none
noncomputable def heldAt(i0 k a:Nat)(ρ:Ro):Option Dt:=match ρ[i0]? with
 |some (some (.loc b d,l))=>if b=a/\l=k+1 then some d else none
 |_=>none
def endM(L i0 k a:Nat):OutM->R (Dt×Dt)
 |.nx ρ=>optR ((heldAt i0 k a ρ).map fun d0=>(.non,d0))
 |.rt ρ d=>optR ((heldAt i0 k a ρ).map fun d0=>(d,d0))
 |.rv ρ i=>match ρ[i]? with
  |some (some (d,l))=>if l=L/\i≠i0 then optR ((heldAt i0 k a ρ).map fun d0=>(d,d0))else none
  |_=>none
def startM(N i0 k a:Nat)(ds:List Dt):Ro:=match ds[i0]? with
 |some d0=>(startO N ds).set i0 (some (.loc a d0,k+1))
 |none=>[]
def runM(L P N i0 k:Nat)(m:SMM)(a:Nat)(ds:List Dt):R (Dt×Dt):=if ds.length=P/\i0<P then zA2 (m (startM N i0 k a ds)) (endM L i0 k a)else none
abbrev FW:=List Dt->R (Dt×Dt)
noncomputable def uniM(f:Nat->FW):FW:=fun ds=>@ite _ (∀a,f a ds=f 0 ds) (qA3 _) (f 0 ds) none
theorem zPL{f:Nat->FW}{ds:List Dt}{r:R (Dt×Dt)}(h:∀a,f a ds=r):uniM f ds=r:=by
 unfold uniM;rw[if_pos fun a=>(h a).trans (h 0).symm];exact h 0
noncomputable def zcT:Dt->Bool
 |.lst _=>true
 |.dtt _ _=>true
 |_=>false
def sCallW(j i k L:Nat)(am:AM)(f:FW):SM:=fun ρ=>match ρ[i]? with
 |some (some (d0,l))=>if l=k/\i≠j/\zcT d0=true then zA2 (am (frz ρ)) fun es=>zA2 (f (d0::es)) fun r=>okR (.nx ((ρ.set i (some (r.2,k))).set j (some (r.1,L))))else none
 |_=>none
def sAddW(j i k:Nat)(am:AM)(f:FW):SM:=fun ρ=>match ρ[i]?,ρ[j]? with
 |some (some (.loc p d0,l)),some (some (.int s,_))=>if l=k+1/\i≠j then zA2 (am (frz ρ)) fun es=>zA2 (f (d0::es)) fun r=>match r.1 with
  |.int c=>okR (.nx ((ρ.set i (some (.loc p r.2,k+1))).set j (some (.int (s+c),0))))
  |_=>none else none
 |_,_=>none
def eCallD(f:FM)(a:AM):EM:=fun ρ=>zA2 (a ρ) fun xs=>f (xs++[.non])
end
end Mi
namespace Mp
open Mi PySem
noncomputable def wrd(ls row:List Nat):List Nat:=row.map fun p=>ls.getD p 0
structure Twice(n:Nat)(row:List Nat):Prop where
 len:row.length=2*n
 cnt:∀v,row.count v=if v<n then 2 else 0
section
variable{n:Nat}{row:List Nat}(t:Twice n row)
include t
end
end Mp
namespace Mp
noncomputable def ords(row:List Nat):List Nat:=row.foldl (fun o p=>if p∈o then o else o++[p]) []
noncomputable def puts(S:List (Nat×Int))(N:List Int):List Int:=S.foldl (fun N p=>N.set p.1 p.2) N
def inA(row:List Nat)(a:Nat):Nat:=4*(ords row).idxOf (row.getD a 0)+2*(row.take a).count (row.getD a 0)
def tieP(row:List Nat)(a:Nat):List (Nat×Int):=[(inA row ((a+row.length-1)%row.length)+1,(inA row a:Int)),(inA row a,((inA row ((a+row.length-1)%row.length)+1:Nat):Int))]
noncomputable def sh(s:Nat)(cs:List Nat):List Nat:=cs.drop s++cs.take s
def wr(cs:List Nat):List Nat:=cs.map fun c=>97+(ords cs).idxOf c
end Mp
namespace L2
open PySem PySem.Spec PyProof.Rows
def zZL(K:qA1):List V->Hp->VK->Prop:=fun xs H Q=>∃p ys,xs=[.ref p]/\((SqL K H p ys/\∀l,H l=none->Q (.ref l) (upd H l (.tup ys)))\/(SqT K H p ys/\Q (.ref p) H))
theorem zNQ{X:Cx}{K:qA1}(hK:X.K=K:=by rfl):zCE X (.type "tuple") (zZL K):=hK▸zJI
end L2
namespace L3
open PySem PySem.Spec
open L2 hiding Rep RepL
open Mi (Dt Xn R okR zA2 optR bindR_ok zA4 zAA zA8 zA9 Rh Sl Ro EM TM AM FM IM SM OM Tg Out zAM zAK zAQ full frz frz1 frzAt)
section
variable[Kc]{mg:Str->Option Value}{E:XK}{n k:Nat}{te:TE}{e:EM}
end
theorem zJ3(k:List Mi.Sw):k.map kNw=Mi.kNs k:=qAt fun w _=>by cases w<;>rfl
theorem zQQ:noBw=Mi.noB1:=by funext w;cases w<;>rfl
theorem zVK(ks:List (List Mi.Sw)):noBk ks=Mi.noBs ks:=by unfold noBk Mi.noBs;rw[zQQ]
theorem zXQ(k:List Mi.Sw):k.all noBw=k.all Mi.noB1:=by rw[zQQ]
theorem zPV[Kc]{G:Hp}:∀{ds:List Dt}{xs:List V}{q:List Mi.Sw},RepL G ds xs->Mi.swsD ds=some q->xs=q.map swV
 |[],_,q,h,e=>by cases e;exact h
 |d::ds,_,q,h,e=>by
  obtain⟨x,r,rfl,h1,h2⟩:=h;unfold Mi.swsD at e;cases e1:Mi.swD d with
  |none=>rw[e1]at e;cases e
  |some a=>
   cases e2:Mi.swsD ds with
   |none=>rw[e1,e2]at e;cases e
   |some b=>
    rw[e1,e2]at e;cases e;rw[zPV h2 e2]
    have:x=swV a:=by
     cases d with
     |non=>cases e1;exact h1
     |bl _=>cases e1;exact h1
     |int _=>cases e1;exact h1
     |str _=>cases e1;exact h1
     |_=>cases e1
    rw[this];rfl
theorem zcO(q:List Mi.Sw):KsOf (q.map swV) (q.map kNw):=by
 induction q with
 |nil=>exact .nil
 |cons w r ih=>exact .cons (by cases w<;>rfl) ih
theorem zQP{q:List Mi.Sw}(h:q.all noBw=true):∀y∈q.map swV,isBl y=false:=by
 intro y hy;obtain⟨w,hw,rfl⟩:=qAb.mp hy
 have:=qBo.mp h w hw
 cases w<;>first|rfl|cases this
theorem zYO{ys:List V}{q:List Mi.Sw}(h:KsOf ys (q.map kNw))(hn:∀y∈ys,isBl y=false)(hq:q.all noBw=true):ys=q.map swV:=by
 induction q generalizing ys with
 |nil=>cases h;rfl
 |cons w r ih=>
  cases h with
  |cons h1 h2=>
   rename_i y ys
   have e1:=hn y (qAl ..);have hq':=qBo.mp hq;have e2:=hq' w (qAl ..);rw[ih h2 (fun z hz=>hn z (qAd _ hz)) (qBo.mpr fun z hz=>hq' z (qAd _ hz))]
   have:y=swV w:=by
    cases y<;>cases w<;>first|(simp[isBl]at e1;done)|(simp[noBw]at e2;done)|(cases h1;rfl)|cases h1
   rw[this];rfl
theorem zGL{ks:List (List Mi.Sw)}{k:List Mi.Sw}{j:Nat}(h:Mi.posT ks k=some j):∃q,ks[j]?=some q/\Mi.kNs q=Mi.kNs k:=by
 unfold Mi.posT at h;obtain⟨h1,h2,_⟩:=List.findIdx?_eq_some_iff_getElem.mp h;exact⟨ks[j],qA5 h1,by simpa using h2⟩
theorem zKA{ks:List (List Mi.Sw)}{k:List Mi.Sw}(h:Mi.posT ks k=none):∀q∈ks,Mi.kNs q≠Mi.kNs k:=by
 unfold Mi.posT at h;intro q hq
 have:=List.findIdx?_eq_none_iff.mp h q hq
 simpa using this
theorem zST(k:List Mi.Sw):∀(ks:List (List Mi.Sw))(xs:List V),ks.length=xs.length->valV (kzip ks xs) (k.map kNw)=(Mi.posT ks k).bind fun j=>xs[j]?
 |[],[],_=>rfl
 |[],_::_,h=>by simp at h
 |_::_,[],h=>by simp at h
 |q::ks,x::xs,h=>by
  have ih:=zST k ks xs (by simpa using h);unfold valV kzip at ih ⊢;unfold Mi.posT at ih ⊢;simp only[qAg,List.zip_cons_cons,qC5,qFl];rw[zJ3 q,zJ3 k]
  by_cases e:Mi.kNs q=Mi.kNs k
  ·simp[e]
  ·simp only[e,decide_false];rw[zJ3 k]at ih;rw[ih];cases List.findIdx? (fun q=>decide (Mi.kNs q=Mi.kNs k)) ks<;>simp
section
variable[Kc]{mg:Str->Option Value}{E:XK}{L n k l:Nat}{te ta tb tx td tk tv:TE}{e ea eb ex ed mk mv:EM}{t:TA}{m:AM}
theorem zI0{G:Hp}{d:Dt}{v:V}{q:List Mi.Sw}(h:Rep G d v)(e:Mi.kyU d=some q):∃b,v=.ref b/\G b=some (.tup (q.map swV)):=by
 cases d with
 |tup ds=>
  obtain⟨a,xs,rfl,ha,r⟩:=h;exact⟨a,rfl,by rw[ha,zPV r e]⟩
 |_=>cases e
theorem zF9{H:Hp}{b:Addr}{q:List Mi.Sw}(h:H b=some (.tup (q.map swV))):TupK H b (q.map kNw):=⟨_,h,zcO q⟩
theorem zYM:DE mg E zUY Mi.eDtt0 (n+1):=by
 intro G H σ ρ Q s w p a ha;have fr:Fr G H G H (fun _=>False):=⟨Ext.refl s,fun _ z=>z.elim⟩
 exact p (.ref a) G _ _ (fr.add ha (.dT (fun _=>False) 0 [])) ⟨a,fun _=>False,0,[],fun _ _=>False,rfl,zAC,rfl,⟨qGs,fun _ z=>z.elim⟩,⟨rfl,fun q d x h=>by simp at h,.inl rfl,fun _ z=>z,fun _ _ _ z=>z.elim,fun _ _ z=>z.elim⟩⟩
theorem zYK(K:DE mg E tk mk k)(V:DE mg E tv mv n):DE mg E (zUX tk tv) (Mi.eTOne mk mv) (n+1):=by
 intro G H σ ρ Q s w p pa hp;have sn:=L2.same_new hp (.dT (fun _=>False) 0 []);have x0:Ext G H G _:=Ext.same s sn;refine(zAJ K).step (errE.from x0) x0.in' w p fun d u G1 H1 S _ fr o p1=>?_
 refine V.step ((errE.from x0).from fr.ext) fr.ext.in' (w.mono fr.ext.g) p1 fun z v2 G2 H2 S2 _ fr2 o2 p2=>?_
 cases ek:Mi.kyU d with
 |none=>rw[ek]at p2;exact p2.elim
 |some q=>
  rw[ek]at p2;obtain⟨b,rfl,hb⟩:=zI0 (Rep.mono fr2.ext.g o) ek;have x2:=x0.trans (fr.ext.trans fr2.ext);have hpa:H2 pa=some (.dT (fun _=>False) 0 []):=fr2.ext.h _ _ (fr.ext.h _ _ zAC);have gpa:G2 pa=none:=by
   rw[(fr.ext.trans fr2.ext).old pa (by rw[zAC];simp)];exact s.free hp
  have nS2:¬S2 pa:=fun z=>by
   have:=(fr2.new pa z).1
   rw[fr.ext.h _ _ zAC]at this;cases this
  refine⟨b,q.map kNw,rfl,zF9 (fr2.ext.in' _ _ hb),hpa,fun e1=>?_⟩;refine p2 (.ref pa) G2 _ (fun a=>a=pa\/S2 a) ⟨⟨x2.g,fun c o hc=>?_,fun c o hc=>?_,x2.old⟩,fun a ha=>?_⟩ ⟨pa,_,e1,[v2],fun r c=>r=0/\S2 c,rfl,zAC,rfl,⟨by simp,fun c hc=>?_⟩,⟨rfl,fun r d' x' h1 h2=>?_,.inl rfl,fun r z=>nS2 z.2,fun r r' c z1 z2=>by rw[z1.1,z2.1],fun r c z=>.inr z.2⟩⟩
  ·have:c≠pa:=fun z=>by rw[z,hp]at hc;cases hc
   rw[zAB this];exact x2.h _ _ hc
  ·have:c≠pa:=fun z=>by rw[z,gpa]at hc;cases hc
   rw[zAB this];exact x2.in' _ _ hc
  ·rcases ha with rfl|ha
   ·exact⟨hp,gpa,by rw[zAC];simp⟩
   ·obtain⟨n1,n2,n3⟩:=fr2.new a ha;refine⟨(sn.trans fr.ext.h).free n1,n2,?_⟩
    by_cases z:a=pa
    ·subst z;rw[zAC];simp
    ·rw[zAB z];exact n3
  ·rcases hc with hc|rfl
   ·exact hc.elim
   ·exact⟨_,hb,fun hn=>zQP (by simpa[noBk]using hn)⟩
  ·cases r with
   |zero=>
    simp at h1 h2;subst h1 h2;exact(o2.upd nS2).sub fun c hc=>⟨rfl,hc⟩
   |succ r=>simp at h1
theorem de_tin(A:DE mg E ta ea k)(B:DE mg E tb eb l):DE mg E (tDIn ta tb) (Mi.eB (Mi.dinT false) ea eb) n:=by
 intro G H σ ρ Q s w p;refine(zAJ A).step errE s w p fun d v G1 H1 S _ fr o p1=>?_
 refine(zAJ B).step (errE.from fr.ext) fr.ext.in' (w.mono fr.ext.g) p1 fun e u G2 H2 S2 _ fr2 o2 p2=>?_
 cases e with
 |dtt ks ds=>
  obtain⟨a,T,e0,xs,rfl,ha,hl,ht,r⟩:=o2;have p3:PostE mg E G H n (optR (match Mi.kyU d with|some k=>some (.bl (if false=true then !(Mi.posT ks k).isSome else(Mi.posT ks k).isSome))|none=>none)) Q:=p2;cases ek:Mi.kyU d with
  |none=>rw[ek]at p3;exact p3.elim
  |some q=>
   rw[ek]at p3;obtain⟨b,rfl,hb⟩:=zI0 (Rep.mono fr2.ext.g o) ek;refine⟨a,_,rfl,DGet.t (fr2.ext.in' _ _ ha) (zF9 (fr2.ext.in' _ _ hb)),?_⟩;have hx:ks.length=xs.length:=by rw[r.length];exact hl
   have e:(valV (kzip ks xs) (q.map kNw)).isSome=(Mi.posT ks q).isSome:=by
    rw[zST q ks xs hx];cases ej:Mi.posT ks q with
    |none=>rfl
    |some j=>
     obtain⟨q',h1,_⟩:=zGL ej;have hj:j<xs.length:=by rw[<- hx];exact(qA2.mp h1).1
     show(xs[j]?).isSome=true
     rw[qA5 hj];rfl
   rw[e];exact PostE.val (PostE.from p3 (fr.ext.trans fr2.ext)) (Ext.refl fr2.ext.in') rfl rfl
 |_=>exact p2.elim
theorem zM6{G:Hp}{ks:List (List Mi.Sw)}{ds:List Dt}{xs:List V}{q:List Mi.Sw}(hl:ks.length=ds.length)(r:RepL G ds xs) :
  (Mi.getT ks ds q=none->valV (kzip ks xs) (q.map kNw)=none)/\∀d,Mi.getT ks ds q=some d->∃x,valV (kzip ks xs) (q.map kNw)=some x/\Rep G d x:=by
 have hx:ks.length=xs.length:=by rw[r.length];exact hl
 rw[zST q ks xs hx];unfold Mi.getT;cases ej:Mi.posT ks q with
 |none=>exact⟨fun _=>rfl,fun d z=>nomatch z⟩
 |some j=>
  obtain⟨q',h1,_⟩:=zGL ej;have hj:j<ks.length:=(qA2.mp h1).1;have e1:ds[j]?=some (ds[j]'(by omega)):=qA5 _;have e2:xs[j]?=some (xs[j]'(by omega)):=qA5 _;refine⟨fun z=>?_,fun d z=>⟨_,e2,zBJ r z e2⟩⟩;have z':ds[j]?=none:=z;rw[e1]at z';cases z'
theorem zbE(D:DE mg E td ed k)(A:DE mg E ta ea l):DE mg E (zPU td ta) (Mi.eTIx ed ea) 0:=by
 intro G H σ ρ Q s w p;refine(zAJ D).step errE s w p fun d v G1 H1 S _ fr o p1=>?_
 cases d with
 |dtt ks ds=>
  obtain⟨a,T,e0,xs,rfl,ha,hl,ht,r⟩:=o;have p1':PostE mg E G H 0 (zA2 (ea ρ) fun y=>match Mi.kyU y with|some q=>optR (Mi.getT ks ds q)|none=>none) Q:=p1;refine(zAJ A).step (errE.from fr.ext) fr.ext.in' (w.mono fr.ext.g) p1' fun y u G2 H2 S2 _ fr2 o2 p2=>?_
  cases ek:Mi.kyU y with
  |none=>rw[ek]at p2;exact p2.elim
  |some q=>
   rw[ek]at p2;obtain⟨b,rfl,hb⟩:=zI0 o2 ek;cases eg:Mi.getT ks ds q with
   |none=>dsimp only at p2;rw[eg]at p2;exact p2.elim
   |some c=>
    dsimp only at p2;rw[eg]at p2;obtain⟨x,h1,h2⟩:=(zM6 hl r).2 c eg;refine⟨a,x,rfl,?_,PostE.kept (PostE.from p2 (fr.ext.trans fr2.ext)) (Ext.refl fr2.ext.in') (Rep.mono fr2.ext.g h2)⟩;rw[<- h1];exact DGet.t (fr2.ext.h _ _ (fr.ext.in' _ _ ha)) (zF9 (fr2.ext.in' _ _ hb))
 |_=>exact p1.elim
theorem zYL(D:DE mg E td ed k)(A:DE mg E ta ea l){j:Nat}(X:DE mg E tx ex j):DE mg E (zUZ td ta tx) (Mi.eTGet ed ea ex) 0:=by
 intro G H σ ρ Q s w p;refine(zAJ D).step errE s w p fun d v G1 H1 S _ fr o p1=>?_
 cases d with
 |dtt ks ds=>
  obtain⟨a,T,e0,xs,rfl,ha,hl,ht,r⟩:=o;refine⟨a,rfl,.inr ⟨_,_,_,.inl (fr.ext.in' _ _ ha)⟩,?_⟩;have p1':PostE mg E G H 0 (zA2 (ea ρ) fun y=>zA2 (ex ρ) fun z=>match Mi.kyU y with|some q=>okR (match Mi.getT ks ds q with|some w=>w|none=>z)|none=>none) Q:=p1;refine(zAJ A).step (errE.from fr.ext) fr.ext.in' (w.mono fr.ext.g) p1' fun y u G2 H2 S2 _ fr2 o2 p2=>?_
  have x2:=fr.ext.trans fr2.ext;refine(zAJ X).step (errE.from x2) fr2.ext.in' (w.mono x2.g) p2 fun z u3 G3 H3 S3 _ fr3 o3 p3=>?_
  cases ek:Mi.kyU y with
  |none=>rw[ek]at p3;exact p3.elim
  |some q=>
   rw[ek]at p3;obtain⟨b,rfl,hb⟩:=zI0 (Rep.mono fr3.ext.g o2) ek;dsimp only at p3;refine⟨_,DGet.t (fr3.ext.h _ _ (fr2.ext.h _ _ (fr.ext.in' _ _ ha))) (zF9 (fr3.ext.in' _ _ hb)),?_⟩;have p4:=PostE.from p3 (x2.trans fr3.ext);cases eg:Mi.getT ks ds q with
   |none=>
    rw[eg]at p4;rw[(zM6 hl r).1 eg];exact PostE.kept p4 (Ext.refl fr3.ext.in') o3
   |some c=>
    rw[eg]at p4;obtain⟨x,h1,h2⟩:=(zM6 hl r).2 c eg;rw[h1];exact PostE.kept p4 (Ext.refl fr3.ext.in') (Rep.mono (fr2.ext.g.trans fr3.ext.g) h2)
 |_=>exact p1.elim
theorem zOB:CBi (zZL Kc.K) Mi.tupD 1:=by
 intro mg E G H ds vs Q s h p;cases ds with
 |nil=>exact p.elim
 |cons a0 r0=>
  cases r0 with
  |cons _ _=>cases a0<;>exact p.elim
  |nil=>
   cases a0 with
   |lst es=>
    obtain⟨x,rfl,a,xs,rfl,ha,ra⟩:=zDF h;refine⟨a,xs,rfl,.inl ⟨SqL.of (s _ _ ha),fun l hl=>?_⟩⟩;have fr:Fr G H G H (fun _=>False):=⟨Ext.refl s,fun _ z=>z.elim⟩
    exact p (.ref l) G _ _ (fr.add hl (.tup xs)) ⟨l,xs,fun _ _=>False,rfl,zAC,⟨ra.length,fun q d y h1 h2=>zBJ ra h1 h2,.inl rfl,fun _ z=>z,fun _ _ _ z=>z.elim,fun _ _ z=>z.elim⟩⟩
   |_=>exact p.elim
theorem rep_key{G:Hp}:∀(q:List Mi.Sw),RepL G (q.map Mi.swT) (q.map swV)
 |[]=>rfl
 |w::r=>⟨swV w,r.map swV,rfl,by cases w<;>rfl,rep_key r⟩
theorem zaU{G:Hp}{a:Addr}{T:Addr->Prop}{e0:Nat}{ks:List (List Mi.Sw)}{xs:List V}(hl:ks.length=xs.length)(ha:G a=some (.dT T e0 (kzip ks xs)))(ht:KeyT G T ks)(hn:noBk ks=true) :
  ItOk (Itd a e0 (kzip ks xs).length) G (ks.map fun k=>.tup (k.map Mi.swT)):=by
 have hz:(kzip ks xs).length=ks.length:=by simp[kzip,hl]
 intro i G1 H1 s1 s2;have hS:=s2 _ _ (s1 _ _ ha);refine⟨fun hi=>⟨by rw[hz];simpa using hi,T,_,hS,rfl⟩,fun hi=>⟨by rw[hz];simpa using hi,T,_,hS,rfl⟩,fun x H2 d hd hy=>?_⟩;obtain⟨rfl,hy⟩:=hy;obtain⟨b,p,rfl,hp,⟨ys,hb,hk⟩,hT⟩:=hy T _ hS rfl;obtain⟨ys',hb',hno⟩:=ht.2 b hT;have e1:H2 b=some (.tup ys'):=s2 _ _ (s1 _ _ hb');rw[hb]at e1;cases e1;rw[qAf]at hd;cases ek:ks[i]? with
 |none=>rw[ek]at hd;cases hd
 |some kk=>
  rw[ek]at hd;cases hd;have hp':=hp;unfold kzip at hp';have hi:i<ks.length:=(qA2.mp ek).1;have e3:p.1=kk.map kNw:=by
   have h1:=qA2.mp hp;obtain⟨hi1,rfl⟩:=h1;have h2:=qA2.mp ek;obtain⟨hi2,rfl⟩:=h2;simp[kzip]
  rw[e3]at hk;have hkk:kk.all noBw=true:=qBo.mp hn kk (qB1 ek);rw[zYO hk (hno hn) hkk]at hb';exact⟨G1,Ext.refl s2,b,_,rfl,s1 _ _ hb',rep_key kk⟩
theorem zcY(A:DE mg E ta ea k):DI mg E (iDct ta) (Mi.iDk ea) false:=by
 intro G H σ ρ Q s w p;refine(zAJ A).step errI s w p fun d v G1 H1 S _ fr o p1=>?_
 cases d with
 |dtt ks ds=>
  obtain⟨a,T,e0,xs,rfl,ha,hl,ht,r⟩:=o;dsimp only at p1
  split at p1
  ·rename_i hz
   exact⟨a,T,e0,_,rfl,fr.ext.in' _ _ ha,p1 _ G1 H1 fr.ext (zaU (by rw[r.length];exact hl) ha ht (by rw[zVK];exact hz.1))⟩
  ·exact p1.elim
 |_=>exact p1.elim
end
theorem zTE{ks:List (List Mi.Sw)}{xs:List V}{k:List Mi.Sw}{y:V}(hl:ks.length=xs.length)(h:Mi.posT ks k=none):putK (kzip ks xs) (k.map kNw) y=kzip (ks++[k]) (xs++[y]):=by
 unfold putK;have e:((kzip ks xs).any fun kv=>decide (kv.1=k.map kNw))=false:=by
  rw[qFo]
  rintro⟨a,b⟩ hm hd
  have ha:=(qCw hm).1;obtain⟨q,hq,rfl⟩:=qAb.mp ha
  have:=zKA h q hq
  rw[<- zJ3,<- zJ3]at this;exact this (by simpa using hd)
 rw[e,if_neg (by simp)];unfold kzip;rw[qB3,List.zip_append (by simpa using hl)];rfl
theorem zTD{ks:List (List Mi.Sw)}{xs:List V}{k:List Mi.Sw}{y:V}{j:Nat}(hl:ks.length=xs.length)(hn:(ks.map fun k=>k.map kNw).Nodup)(h:Mi.posT ks k=some j):putK (kzip ks xs) (k.map kNw) y=kzip ks (xs.set j y):=by
 obtain⟨q,hq,hk⟩:=zGL h;rw[<- zJ3,<- zJ3]at hk;have hj:j<ks.length:=(qA2.mp hq).1;have hqj:ks[j]=q:=(qA2.mp hq).2;unfold putK;have e:((kzip ks xs).any fun kv=>decide (kv.1=k.map kNw))=true:=by
  rw[qG2];refine⟨((ks.map fun k=>k.map kNw)[j]'(by simpa using hj),xs[j]'(by omega)),?_,?_⟩
  ·unfold kzip;rw[qDe];exact⟨j,by simp;omega,by simp⟩
  ·simp[hqj,hk]
 rw[e,if_pos rfl];unfold kzip
 apply qB7
 ·simp
 ·intro i h1 h2;have hi:i<ks.length:=by simp at h1;omega
  simp only[qCr,List.getElem_zip]
  by_cases hij:i=j
  ·subst hij;rw[if_pos (by rw[hqj];exact hk)];simp
  ·have hne:¬(ks[i].map kNw=k.map kNw):=fun z=>by
    have z2:(ks.map fun k=>k.map kNw)[i]'(by simpa using hi)=(ks.map fun k=>k.map kNw)[j]'(by simpa using hj):=by
     simp only[qCr];rw[z,hqj,hk]
    exact hij ((qEk hn).mp z2)
   rw[if_neg hne];rw[List.getElem_set_ne (fun z=>hij z.symm)]
theorem zPW:∀{es:List Dt}{c:List Mi.Sw},Mi.swsD es=some c->Dt.depL es=0
 |[],_,_=>rfl
 |d::es,c,ek=>by
  unfold Mi.swsD at ek;cases g1:Mi.swD d with
  |none=>rw[g1]at ek;cases ek
  |some a1=>
   cases g2:Mi.swsD es with
   |none=>rw[g1,g2]at ek;cases ek
   |some b1=>
    rw[Dt.depL,zPW g2];cases d<;>first|rfl|cases g1
section
variable[Kc]{mg:Str->Option Value}{E:XK}{L n k l:Nat}{te ta tb tx td t1 t2:TE}{e ea eb ex ed e1 e2:EM}{u:TS}{m m':SM}
theorem Kids.snoc{G H:Hp}{S:Addr->Prop}{a p:Addr}{ds:List Dt}{xs:List V}{T:Nat->Addr->Prop}{S':Addr->Prop}{d:Dt}{v:V}{o:HO}(kd:Kids (Own G H n) S a ds xs T)(w:Own G (upd H p o) n S' d v)(hp:∀r,¬T r p)(ha:¬S' a)
  (hd:∀r b,T r b->S' b->False):Kids (Own G (upd H p o) n) (fun b=>S b\/S' b) a (ds++[d]) (xs++[v]) (fun r b=>(r<ds.length/\T r b)\/(r=ds.length/\S' b)):=by
 refine⟨by simp[kd.len],fun r d' z g1 g2=>?_,.inl kd.top,fun r z=>?_,fun r r' b z1 z2=>?_,fun r b z=>?_⟩
 ·by_cases hr:r<ds.length
  ·rw[qAc hr]at g1;rw[qAc (by rw[kd.len];exact hr)]at g2;exact((kd.own r d' z g1 g2).upd (hp r)).sub fun b z=>.inl ⟨hr,z⟩
  ·rw[qAe (by lia)]at g1;rw[qAe (by rw[kd.len];lia),kd.len]at g2;have hq0:r-ds.length=0:=by
    have:=(qA2.mp g1).1
    simp at this;lia
   rw[hq0]at g1 g2;simp at g1 g2;subst g1;subst g2;exact w.sub fun b z=>.inr ⟨by lia,z⟩
 ·rcases z with⟨_,z⟩|⟨_,z⟩
  ·exact kd.out r z
  ·exact ha z
 ·rcases z1 with⟨c1,t1⟩|⟨c1,t1⟩<;>rcases z2 with⟨c2,t2⟩|⟨c2,t2⟩
  ·exact kd.dis r r' b t1 t2
  ·exact(hd r b t1 t2).elim
  ·exact(hd r' b t2 t1).elim
  ·lia
 ·rcases z with⟨_,z⟩|⟨_,z⟩
  ·exact .inl (kd.sub r b z)
  ·exact .inr z
theorem Sat.forgetT{G0 H0 S0:Hp}{σ:St}{ρ:Ro}{G H:Hp}{As:Nat->Addr->Prop}(a:Sat G0 H0 S0 σ ρ G H As)(j:Nat)(v:V):Sat G0 H0 S0 (σ.set j (some v)) (ρ.set j none) G H As:=by
 refine⟨a.ext,a.stb,a.tab,by simp[a.len],fun i d n h=>?_,a.dis,a.new⟩
 by_cases z:j=i
 ·subst z;have hj:j<ρ.length:=by
   have:=(qA2.mp h).1
   simpa using this
  rw[qAk hj]at h;cases h
 ·rw[qAj z]at h ⊢;exact a.at i d n h
theorem zTX{G G' H:Hp}{T:Addr->Prop}{ks:List (List Mi.Sw)}{q:List Mi.Sw}{b:Addr}(s:Same G G')(ht:KeyT G T ks)(hb:G' b=some (.tup (q.map swV)))(hf:Mi.fitT ks q=true):KeyT G' (fun c=>T c\/c=b) (Mi.putKs ks q):=by
 unfold Mi.putKs;cases ep:Mi.posT ks q with
 |some j=>
  dsimp only;refine⟨ht.1,fun c hc=>?_⟩
  rcases hc with hc|rfl
  ·obtain⟨ys,h1,h2⟩:=ht.2 c hc;exact⟨ys,s _ _ h1,h2⟩
  ·refine⟨_,hb,fun hn=>zQP ?_⟩;unfold Mi.fitT at hf;rw[ep,<- zVK,hn]at hf;rw[zXQ]
   simpa using hf
 |none=>
  dsimp only;refine⟨?_,fun c hc=>?_⟩
  ·rw[qB3,qC6];refine⟨ht.1,by simp,fun a ha b hb=>?_⟩;obtain⟨q',hq',rfl⟩:=qAb.mp ha;simp at hb;subst hb;rw[zJ3,zJ3];exact zKA ep q' hq'
  ·rcases hc with hc|rfl
   ·obtain⟨ys,h1,h2⟩:=ht.2 c hc;refine⟨ys,s _ _ h1,fun hn=>h2 ?_⟩;unfold noBk at hn ⊢;rw[qGc]at hn;simp at hn ⊢;exact hn.1
   ·refine⟨_,hb,fun hn=>zQP ?_⟩;unfold noBk at hn;rw[qGc]at hn;simp at hn ⊢;exact hn.2
theorem zVB{G0 H0 S0:Hp}{σ σ':St}{ρ:Ro}{ρ':Rh}{G H J H1:Hp}{As:Nat->Addr->Prop}{S:Addr->Prop}{d:Dt}{y:V}{D:Ends}{i:Nat}{f:Ro->R Out}(a:Sat G0 H0 S0 σ ρ G H As)(A:DE mg E t1 e1 l)(hl1:1<=l)(hl2:l<1000)
  (x:Ext G0 H0 J H1) (sH:Same H H1) (hs:σ'[i]?=σ[i]?) (w:View J σ' ρ')
  (o:d.dep<=n->d.dep<=k->True) (oS:d.dep<=n->∀k,d.dep<=k->Own G H1 k S d y) (nS:∀b,S b->H b=none/\G b=none/\H1 b≠none)
  (p:zCW mg E G0 H0 S0 L (zA2 (Mi.putGo i n e1 ρ ρ' d) f) D)
  (fin:∀ρ2 G2 H2 As2,Sat G0 H0 S0 σ ρ2 G2 H2 As2->zCW mg E G0 H0 S0 L (f ρ2) D->D.nx σ' H2) :
  (vM i σ' H1 fun x H2=>t1 σ' H2 fun y' H3=>∃a T e0 kvs k b,x=.ref a/\H3 a=some (.dT T e0 kvs)/\y'=.ref b/\TupK H3 b k/\kvs.length<sizeLine /\
   ∀e1,D.nx σ' (upd H3 a (.dT (fun c=>T c\/c=b) e1 (putK kvs k y)))):=by
 unfold Mi.putGo at p;cases er:ρ[i]? with
 |none=>rw[er]at p;exact p.elim
 |some sl=>
  rw[er]at p
  match sl,er,p with
  |none,_,p=>exact p.elim
  |some (.dtt ks ds,k+1),er,p=>
   obtain⟨v,h1,q,T0,e0,xs,T,rfl,hq,hl,ht,kd⟩:=a.at i _ _ er;unfold vM;rw[hs,h1];have p':zCW mg E G0 H0 S0 L (zA2 (e1 ρ') fun y=>zA2 (match Mi.kyU y with
    |some q=>@ite _ (d.dep<=n/\d.dep<=k/\ks.length<=100000/\Mi.fitT ks q=true) (qA3 _) (okR (ρ.set i (some (.dtt (Mi.putKs ks q) (Mi.putDs ks ds q d),k+1)))) none
    |none=>none) f) D:=by
    cases ee:e1 ρ' with
    |none=>rw[ee]at p;exact p
    |some r=>cases r<;>(rw[ee]at p;exact p)
   refine A.step (errS.from x) x.in' w p' fun z u G2 H2 S2 _ fr2 o2 p2=>?_
   cases ek:Mi.kyU z with
   |none=>rw[ek]at p2;exact p2.elim
   |some c=>
    rw[ek]at p2;dsimp only at p2
    split at p2
    ·rename_i hz
     have hzd:z.dep<=1:=by
      cases z with
      |tup es=>
       rw[Dt.dep,zPW (show Mi.swsD es=some c from ek)];exact qA7 _
      |_=>cases ek
     have nS2:∀b,S2 b->H1 b=none/\G b=none/\H2 b≠none:=fun b hb=>by
      obtain⟨n1,n2,n3⟩:=fr2.new b hb;exact⟨n1,a.ext.in'.free (sH.free n1),n3⟩
     have a0:=a.grow sH;have frk:Fr G H1 G H2 S2:=⟨Ext.same a0.ext.in' fr2.ext.h,nS2⟩
     have ok:Own G H2 1 S2 z u:=o2.at (qAr hzd hl1) hzd hl2;obtain⟨xE,rK⟩:=frk.frz ok;obtain⟨b,rfl,hb⟩:=zI0 rK ek;have a1:=a0.wider xE;have hx:ks.length=xs.length:=by rw[kd.len];exact hl
     have hq2:H2 q=some (.dT T0 e0 (kzip ks xs)):=xE.h _ _ (sH _ _ hq);refine⟨q,T0,e0,kzip ks xs,c.map kNw,b,rfl,hq2,rfl,zF9 (xE.in' _ _ hb),?_,fun ep=>?_⟩
     ·have:(kzip ks xs).length=ks.length:=by simp[kzip,hx]
      rw[this,qIq];lia
     have q1:=oS hz.1 k hz.2.1;have q1':Own (over G H2 S2) H2 k S d y:=q1.mono xE.g xE.h;have nSq:¬S q:=fun z=>(a.new i q kd.top).2.2 (nS q z).1
     have apart:∀r b,T r b->S b->False:=fun r b z1 z2=>(a.new i b (kd.sub r b z1)).2.2 (nS b z2).1
     have kd1:Kids (Own (over G H2 S2) H2 k) (As i) q ds xs T:=kd.imp (fun _ _ _ _ w=>w.mono xE.g (sH.trans xE.h)) fun _ z=>z
     have kT:=zTX (H:=H) xE.g ht hb hz.2.2.2;have hS:∀b,(As i b\/S b)->As i b\/(H0 b=none/\over G H2 S2 b=none/\H2 b≠none/\∀j,¬As j b):=fun b z=>by
      rcases z with z|z
      ·exact .inl z
      ·obtain⟨n1,n2,n3⟩:=nS b z;refine .inr ⟨a.ext.h.free n1,?_,xE.h.some n3,fun j y=>(a.new j b y).2.2 n1⟩;rw[zBK fun z2=>n3 (nS2 b z2).1];exact n2
     have key:Sat G0 H0 S0 σ (ρ.set i (some (.dtt (Mi.putKs ks c) (Mi.putDs ks ds c d),k+1))) (over G H2 S2) (upd H2 q (.dT (fun c=>T0 c\/c=b) ep (putK (kzip ks xs) (c.map kNw) y))) (fun j=>if j=i then(fun b=>As i b\/S b)else As j):=by
      refine a1.store (S:=fun b=>As i b\/S b) kd.top h1 ?_ hS;unfold Mi.putDs;cases ep':Mi.posT ks c with
      |none=>
       dsimp only;have e3:Mi.putKs ks c=ks++[c]:=by unfold Mi.putKs;rw[ep']
       rw[e3]at kT ⊢;exact⟨q,_,ep,_,_,rfl,by rw[zAC,zTE hx ep'],by simp[hl],kT,kd1.snoc (q1'.upd nSq) kd.out nSq apart⟩
      |some j=>
       dsimp only;have e3:Mi.putKs ks c=ks:=by unfold Mi.putKs;rw[ep']
       rw[e3]at kT ⊢;exact⟨q,_,ep,_,_,rfl,by rw[zAC,zTD hx ht.1 ep'],by simp[hl],kT,kd1.set j (q1'.upd nSq) (fun r _=>kd.out r) nSq fun r b _=>apart r b⟩
     exact fin _ _ _ _ key p2
    ·exact p2.elim
  |some (.dtt ds _,0),_,p=>exact p.elim
  |some (.lst ds,_),_,p=>exact p.elim
  |some (.non,_),_,p=>exact p.elim
  |some (.bl _,_),_,p=>exact p.elim
  |some (.int _,_),_,p=>exact p.elim
  |some (.str _,_),_,p=>exact p.elim
  |some (.tup _,_),_,p=>exact p.elim
  |some (.scr _,_),_,p=>exact p.elim
  |some (.exc _ _ _,_),_,p=>exact p.elim
  |some (.fn _ _,_),_,p=>exact p.elim
  |some (.dsk _ _,_),_,p=>exact p.elim
  |some (.fnc _,_),_,p=>exact p.elim
  |some (.loc _ _,_),_,p=>exact p.elim
  |some (.ins _ _,_),_,p=>exact p.elim
  |some (.dct _,_),_,p=>exact p.elim
theorem ds_tput(i:Nat)(A:DE mg E t1 e1 l)(B:DE mg E t2 e2 n)(hl1:1<=l:=by decide)(hl2:l<1000:=by decide)(hn:n<1000:=by decide):DS mg E L (zWX (vM i) t1 t2) (Mi.sTput i n e1 e2):=by
 intro G0 H0 S0 σ ρ G H As D a p;obtain⟨J,x,s,w⟩:=a.full;refine B.step (errS.from x) x.in' w p fun d y G1 H1 S _ fr o p1=>?_
 have x1:Ext J H J H1:=Ext.same x.in' fr.ext.h;exact zVB (k:=0) a A hl1 hl2 (x.trans x1) fr.ext.h rfl w (fun _ _=>trivial) (fun hd k hk=>o.at hd hk hn) (fun b hb=>let⟨n1,n2,n3⟩:=fr.new b hb;⟨n1,a.ext.in'.free n1,n3⟩) p1 fun ρ2 G2 H2 As2 a2 p2=>p2 σ G2 H2 As2 a2
theorem zRS(j i:Nat)(C:DE mg E te e 0)(A:DE mg E t1 e1 l)(B:DE mg E t2 e2 n)(hl1:1<=l:=by decide)(hl2:l<1000:=by decide)(hn:n<1000:=by decide):DS mg E L (tSeq (tAsg te (zDZ j)) (zWX (vM i) t1 t2)) (Mi.sTmpPut j i n e e1 e2):=by
 intro G0 H0 S0 σ ρ G H As D a p;unfold Mi.sTmpPut at p
 by_cases hij:i=j
 ·rw[if_pos hij]at p;exact p.elim
 rw[if_neg hij]at p;obtain⟨J,x,s,w⟩:=a.full;refine C.step (errS.from x) x.in' w p fun c v0 G1 H1 S1 _ fr o p1=>?_
 have x1:=x.trans fr.ext;have w1:View G1 (σ.set j (some v0)) ((full ρ).set j (some c)):=(w.mono fr.ext.g).set o;refine B.step (errS.from x1) x1.in' w1 p1 fun d y G2 H2 S _ fr2 o2 p2=>?_
 have x2:Ext G1 H1 G1 H2:=Ext.same fr.ext.in' fr2.ext.h;exact zVB (k:=0) a A hl1 hl2 (x1.trans x2) (fr.ext.h.trans fr2.ext.h) (qAj fun z=>hij z.symm) w1 (fun _ _=>trivial) (fun hd k hk=>o2.at hd hk hn)
  (fun b hb=>let⟨n1,n2,n3⟩:=fr2.new b hb;⟨fr.ext.h.free n1,a.ext.in'.free (fr.ext.h.free n1),n3⟩) p2 fun ρ2 G2 H2 As2 a2 p3=>p3 _ G2 H2 As2 (a2.forgetT j v0)
theorem zRU(i:Nat)(A:DE mg E te e l):DS mg E L (tRet (zPU (vM i) te)) (Mi.sRetTIx L i e):=by
 intro G0 H0 S0 σ ρ G H As D a p;obtain⟨J,x,s,w⟩:=a.full;unfold Mi.sRetTIx at p
 split at p
 ·rename_i ks ds k e1
  obtain⟨v,h1,q,T0,e0,xs,T,rfl,hq,hl,ht,kd⟩:=a.at i _ _ e1;show zPU (vM i) te σ H D.rt;unfold zPU vM;rw[h1];refine(zAJ A).step (errS.from x) x.in' w p fun d y G1 H1 S _ fr o p1=>?_
  split at p1
  ·rename_i c ek
   split at p1
   ·rename_i d' eg
    by_cases hk:k=L
    ·rw[if_pos hk]at p1;subst hk;obtain⟨b,rfl,hb⟩:=zI0 o ek;have hx:ks.length=xs.length:=by rw[kd.len];exact hl
     unfold Mi.getT at eg;cases ej:Mi.posT ks c with
     |none=>rw[ej]at eg;cases eg
     |some j=>
      rw[ej]at eg;have h':ds[j]?=some d':=eg;have hj:j<xs.length:=by rw[kd.len];exact(qA2.mp h').1
      have hxj:xs[j]?=some xs[j]:=qA5 hj;refine⟨q,xs[j],rfl,?_,p1 _ G H1 (T j) ⟨a.ext.trans (Ext.same a.ext.in' fr.ext.h),fun b hb=>?_⟩ ((kd.own j d' _ h' hxj).mono (Same.refl _) fr.ext.h)⟩
      ·have e5:valV (kzip ks xs) (c.map kNw)=some xs[j]:=by
        rw[zST c ks xs hx,ej];exact hxj
       rw[<- e5];exact DGet.t (fr.ext.h _ _ hq) (zF9 (fr.ext.in' _ _ hb))
      ·obtain⟨n1,n2,n3⟩:=a.new i b (kd.sub j b hb);exact⟨n1,n2,fr.ext.h.some n3⟩
    ·rw[if_neg hk]at p1;exact p1.elim
   ·exact p1.elim
  ·exact p1.elim
 ·exact p.elim
end
end L3
namespace L3
open PySem PySem.Spec
open L2 hiding Rep RepL
open Mi (Dt Xn R okR zA2 optR bindR_ok zA4 zAA zA8 zA9 Rh Sl Ro EM TM AM FM IM SM OM Tg Out zAM zAK zAQ full frz frz1 frzAt OutM SMM FW)
section
variable[Kc]{mg:Str->Option Value}{E:XK}{L n k l:Nat}{te ta tb tx td t1 t2:TE}{e ea eb ex ed e1 e2:EM}{t u:TS}{m m':SMM}{s:SM}
theorem zbD(i:Nat):DE mg E (vM i) (Mi.eVL i) 0:=by
 intro G H σ ρ Q s w p;unfold Mi.eVL at p
 split at p
 ·rename_i q d e
  obtain⟨v,h1,h2⟩:=w.at i _ e;unfold vM;rw[h1];exact PostE.kept p (Ext.refl s) h2.2
 ·exact p.elim
theorem zG9(i:Nat){n1:Nat}(A:DE mg E t1 e1 n1)(B:DE mg E t2 e2 n)(hn:n<1000:=by decide):DS mg E L (tAsg t2 (gSub (vM i) t1 setM)) (Mi.sItemL i n e1 e2):=by
 intro G0 H0 S0 σ ρ G H As D a p;obtain⟨J,x,s,w⟩:=a.full;refine B.step (errS.from x) x.in' w p fun d y G1 H1 S _ fr o p1=>?_
 split at p1
 ·rename_i pl ds k er
  obtain⟨v,h1,hpl,q,xs,T,hv,hq,kd⟩:=a.at i _ _ er;subst hv;unfold gSub vM;rw[h1];have x1:Ext J H J H1:=Ext.same x.in' fr.ext.h;refine(zAJ A).step (errS.from (x.trans x1)) x1.in' w p1 fun z u G2 H2 S2 _ fr2 o2 p2=>?_
  cases z with
  |int z=>
   cases(show u=.int z from o2)
   try dsimp only at p2
   cases ei:Mi.ixA ds.length z with
   |none=>rw[ei]at p2;exact p2.elim
   |some c=>
    rw[ei]at p2
    try dsimp only at p2
    split at p2
    ·rename_i hz
     rw[zKO]at ei;obtain⟨q1,q2⟩:=whole (k:=k) a s fr o hn hz.1 hz.2;have sH:=fr.ext.h.trans fr2.ext.h;refine⟨xs,c,sH _ _ hq,by rw[kd.len];exact ei,?_⟩;have a1:=a.grow sH;have nS:¬S q:=fun z=>(a.new i q kd.top).2.2 (q2 q z).1
     have kd1:Kids (Own G H2 k) (As i) q ds xs T:=kd.imp (fun _ _ _ _ w=>w.mono (Same.refl _) sH) fun _ z=>z
     refine p2 σ G _ _ (a1.store (S:=fun b=>As i b\/S b) kd.top h1 ⟨hpl,q,_,_,rfl,zAC,kd1.set c ((q1.mono (Same.refl _) fr2.ext.h).upd nS) (fun r _=>kd.out r) nS fun r b _ z1 z2=>(a.new i b (kd.sub r b z1)).2.2 (q2 b z2).1⟩ fun b z=>?_)
     rcases z with z|z
     ·exact .inl z
     ·obtain⟨n1,n2,n3⟩:=q2 b z;exact .inr ⟨a.ext.h.free n1,n2,fr2.ext.h.some n3,fun j y=>(a.new j b y).2.2 n1⟩
    ·exact p2.elim
  |_=>exact p2.elim
 ·exact p1.elim
def zbO(mg:Str->Option Value)(E:XK)(G0 H0 S0:Hp)(r:R OutM)(D:Ends):Prop:=match r with
 |none=>False
 |some (.error x)=>∀c da G' H',Ext G0 H0 G' H'->XRep mg x c da G' H'->E c da H'
 |some (.ok (.nx ρ))=>∀σ G H As,Sat G0 H0 S0 σ ρ G H As->D.nx σ H
 |some (.ok (.rt ρ d))=>∀σ v G H As,Sat G0 H0 S0 σ ρ G H As->d.dep=0->Rep G d v->D.rt v H
 |some (.ok (.rv ρ i))=>∀σ v G H As,Sat G0 H0 S0 σ ρ G H As->σ[i]?=some (some v)->D.rt v H
def DM(mg:Str->Option Value)(E:XK)(t:TS)(m:SMM):Prop:=∀(G0 H0 S0:Hp)(σ:St)(ρ:Ro)(G H:Hp)(As:Nat->Addr->Prop)(D:Ends),Sat G0 H0 S0 σ ρ G H As->zbO mg E G0 H0 S0 (m ρ) D->t D σ H
theorem errM{G0 H0 S0:Hp}{D:Ends}:Err mg E G0 H0 (fun r=>zbO mg E G0 H0 S0 r D):=⟨fun h=>h,fun _ h=>h⟩
theorem zD6(A:DS mg E L t s):DM mg E t (Mi.mLift s):=by
 intro G0 H0 S0 σ ρ G H As D a p;refine A G0 H0 S0 σ ρ G H As D a ?_;unfold Mi.mLift at p;cases e:s ρ with
 |none=>rw[e]at p;exact p
 |some r=>
  rw[e]at p;cases r with
  |error x=>exact p
  |ok o=>cases o<;>first|exact p|exact p.elim
theorem zEZ(A:DM mg E t m)(B:DM mg E u m'):DM mg E (tSeq t u) (Mi.mSeq m m'):=by
 intro G0 H0 S0 σ ρ G H As D a p;refine A G0 H0 S0 σ ρ G H As _ a ?_;unfold Mi.mSeq at p;cases e:m ρ with
 |none=>rw[e]at p;exact p
 |some r=>
  rw[e]at p;cases r with
  |error x=>exact p
  |ok o=>
   cases o with
   |nx ρ'=>exact fun σ' G' H' As' a'=>B G0 H0 S0 σ' ρ' G' H' As' D a' p
   |rt ρ' d=>exact p
   |rv ρ' i=>exact p
theorem zcX{tc:TT}{c:TM}(C:DT mg E tc c)(A:DM mg E t m)(B:DM mg E u m'):DM mg E (tIfS tc t u) (Mi.mIf c m m'):=by
 intro G0 H0 S0 σ ρ G H As D a p;obtain⟨J,x,s,w⟩:=a.full;refine C.step (errM.from x) x.in' w p fun b H' _ sH p1=>?_
 cases b with
 |true=>exact A G0 H0 S0 σ ρ G H' As D (a.grow sH) p1
 |false=>exact B G0 H0 S0 σ ρ G H' As D (a.grow sH) p1
theorem zRW(A:DE mg E te e n):DM mg E (tRet te) (Mi.mRet e):=by
 intro G0 H0 S0 σ ρ G H As D a p;obtain⟨J,x,s,w⟩:=a.full;refine(zAJ A).step (errM.from x) x.in' w p fun d v G1 H1 S _ fr o p1=>?_
 split at p1
 ·rename_i hd
  exact p1 σ v G H1 As (a.grow fr.ext.h) hd (Rep.scalar o hd)
 ·exact p1.elim
open Classical in
noncomputable def cutH(H:Hp)(S:Addr->Prop):Hp:=fun b=>if S b then none else H b
theorem zW9{H:Hp}{S:Addr->Prop}{b:Addr}(h:S b):cutH H S b=none:=by unfold cutH;rw[if_pos h]
theorem zDQ{H:Hp}{S:Addr->Prop}{b:Addr}(h:¬S b):cutH H S b=H b:=by unfold cutH;rw[if_neg h]
theorem zUL{H:Hp}{S:Addr->Prop}{b:Addr}{o:HO}(h:cutH H S b=some o):¬S b/\H b=some o:=by
 by_cases z:S b
 ·rw[zW9 z]at h;cases h
 ·rw[zDQ z]at h;exact⟨z,h⟩
def zUR(mg:Str->Option Value)(E:XK)(G H0:Hp)(k L:Nat)(v0:V)(r:R (Dt×Dt))(Q:VK):Prop:=match r with
 |none=>False
 |some (.error x)=>∀c da G' H',Ext G H0 G' H'->XRep mg x c da G' H'->E c da H'
 |some (.ok (d,d0))=>∀v G' H' S0 S1,Ext G H0 G' H'->Own G' H' k S0 d0 v0->Own G' H' L S1 d v->(∀b,S0 b\/S1 b->H0 b=none/\G' b=none/\H' b≠none)->(∀b,S0 b->S1 b->False)->Q v H'
def spW(mg:Str->Option Value)(i0 k L:Nat)(f:FW):Sp:=fun vs H Q E=>∃(G:Hp)(S:Addr->Prop)(ds:List Dt)(p:Addr)(d0:Dt),Same (tabK Kc.K) G/\Same G H/\(∀b,S b->G b=none/\H b≠none)/\vs.length=ds.length /\
 (∀i d v,i≠i0->ds[i]?=some d->vs[i]?=some v->Rep G d v)/\vs[i0]?=some (.ref p)/\ds[i0]?=some d0/\Own G H k S d0 (.ref p)/\zUR mg E G (cutH H S) k L (.ref p) (f ds) Q
theorem zWS{i0 P N:Nat}{vs:List V}{H:Hp}{Q:VK}{E:XK}(h:spW mg i0 k L (Mi.uniM (Mi.runM L P N i0 k m)) vs H Q E):vs.length=P:=by
 obtain⟨G,S,ds,p,d0,_,_,_,hl,_,_,_,_,q⟩:=h;rw[hl];unfold Mi.uniM at q
 split at q
 ·unfold Mi.runM at q
  split at q
  ·rename_i h;exact h.1
  ·exact q.elim
 ·exact q.elim
theorem zM5{G0 H0 S0:Hp}{σ:St}{ρ:Ro}{G H:Hp}{As:Nat->Addr->Prop}{i0 p:Nat}{d0:Dt}(a:Sat G0 H0 S0 σ ρ G H As)(h:Mi.heldAt i0 k p ρ=some d0):Own G H k (As i0) d0 (.ref p):=by
 unfold Mi.heldAt at h
 split at h
 ·rename_i b d l e
  split at h
  ·rename_i hz
   cases h;obtain⟨rfl,rfl⟩:=hz;obtain⟨v,_,h2,h3⟩:=a.at i0 _ _ e;rw[h2]at h3;exact h3
  ·cases h
 ·cases h
theorem zQ0{i0 P:Nat}{N:List Str}{vs:List V}{H:Hp}{Q:VK}(B:DM mg E t m)(h:spW mg i0 k L (Mi.uniM (Mi.runM L P N.length i0 k m)) vs H Q E):t { nx:=fun _ H'=>Q .non H',rt:=Q } (L2.start N vs) H:=by
 obtain⟨G,S,ds,p,d0,tb,sG,hS,hl,hr,hp,hd0,o0,q⟩:=h;unfold Mi.uniM at q
 split at q
 ·rename_i hu
  rw[<- hu p]at q;unfold Mi.runM at q
  split at q
  ·rename_i hP
   have e0:Mi.startM N.length i0 k p ds=(Mi.startO N.length ds).set i0 (some (.loc p d0,k+1)):=by unfold Mi.startM;rw[hd0]
   have hi0:i0<ds.length:=(qA2.mp hd0).1;have a:Sat G (cutH H S) G (L2.start N vs) (Mi.startM N.length i0 k p ds) G H (fun i b=>i=i0/\S b):=by
    rw[e0];refine⟨⟨Same.refl _,fun b o e=>(zUL e).2,sG,fun _ _=>rfl⟩,Same.refl _,tb,?_,fun i d n e=>?_,fun i j a h1 h2=>by rw[h1.1,h2.1],fun i b h=>⟨zW9 h.2,hS b h.2⟩⟩
    ·unfold Mi.startO L2.start;simp[hl]
    ·by_cases hi:i0=i
     ·subst hi;rw[qAk (by unfold Mi.startO;simp;omega)]at e;cases e;refine⟨.ref p,?_,rfl,o0.sub fun b hb=>⟨rfl,hb⟩⟩;unfold L2.start;rw[qAc (by simp[hl];exact hi0),qAf,hp];rfl
     ·rw[qAj hi]at e;unfold Mi.startO at e
      by_cases hi2:i<ds.length
      ·rw[qAc (by simpa using hi2),qAf]at e;cases e1:ds[i]? with
       |none=>rw[e1]at e;cases e
       |some d'=>
        rw[e1]at e;cases e;have hv:vs[i]?=some (vs[i]'(by rw[hl];exact hi2)):=by simp
        refine⟨vs[i]'(by rw[hl];exact hi2),?_,hr i _ _ (fun z=>hi z.symm) e1 hv⟩;unfold L2.start;rw[qAc (by simpa[hl]using hi2),qAf,hv];rfl
      ·rw[qAe (by simpa using hi2),qBl]at e
       split at e<;>cases e
   refine B G (cutH H S) G _ _ G H _ _ a ?_;cases em:m (Mi.startM N.length i0 k p ds)with
   |none=>rw[em]at q;exact q
   |some r=>
    rw[em]at q;cases r with
    |error y=>exact q
    |ok o=>
     cases o with
     |nx ρ'=>
      intro σ' G' H' As' a';have q':zUR mg E G (cutH H S) k L (.ref p) (optR ((Mi.heldAt i0 k p ρ').map fun d0=>(.non,d0))) Q:=q;cases eh:Mi.heldAt i0 k p ρ' with
      |none=>rw[eh]at q';exact q'.elim
      |some d1=>
       rw[eh]at q';exact q' .non G' H' (As' i0) (fun _=>False) a'.ext (zM5 a' eh) (zNK rfl rfl) (fun b hb=>hb.elim (a'.new i0 b) fun z=>z.elim) fun _ _ z=>z
     |rt ρ' d=>
      intro σ' v G' H' As' a' hd rd;have q':zUR mg E G (cutH H S) k L (.ref p) (optR ((Mi.heldAt i0 k p ρ').map fun d0=>(d,d0))) Q:=q;cases eh:Mi.heldAt i0 k p ρ' with
      |none=>rw[eh]at q';exact q'.elim
      |some d1=>
       rw[eh]at q';exact q' v G' H' (As' i0) (fun _=>False) a'.ext (zM5 a' eh) (zNK rd hd) (fun b hb=>hb.elim (a'.new i0 b) fun z=>z.elim) fun _ _ z=>z
     |rv ρ' i=>
      intro σ' v G' H' As' a' hv;have q':zUR mg E G (cutH H S) k L (.ref p) (match ρ'[i]? with
       |some (some (d,l))=>if l=L/\i≠i0 then optR ((Mi.heldAt i0 k p ρ').map fun d0=>(d,d0))else none
       |_=>none) Q:=q
      split at q'
      ·rename_i d l er
       split at q'
       ·rename_i hz
        obtain⟨rfl,hne⟩:=hz;cases eh:Mi.heldAt i0 k p ρ' with
        |none=>rw[eh]at q';exact q'.elim
        |some d1=>
         rw[eh]at q';obtain⟨v',hv',ov⟩:=a'.at i _ _ er;rw[hv]at hv';cases hv';exact q' v G' H' (As' i0) (As' i) a'.ext (zM5 a' eh) ov (fun b hb=>hb.elim (a'.new i0 b) (a'.new i b)) fun b z1 z2=>hne (a'.dis _ _ b z2 z1)
       ·exact q'.elim
      ·exact q'.elim
  ·exact q.elim
 ·exact q.elim
theorem Sat.swap{G0 H0 S0:Hp}{σ:St}{ρ:Ro}{G H G' H':Hp}{As:Nat->Addr->Prop}{i K:Nat}{D:Dt}{v:V}{S:Addr->Prop}(a:Sat G0 H0 S0 σ ρ G H As)(x:Ext G (cutH H (As i)) G' H')(hv:σ[i]?=some (some v))(o:Own G' H' K S D v)
  (hS:∀b,S b->cutH H (As i) b=none/\G' b=none/\H' b≠none):Sat G0 H0 S0 σ (ρ.set i (some (D,K))) G' H' (fun j=>if j=i then S else As j):=by
 have inH:∀j b,j≠i->As j b->cutH H (As i) b=H b:=fun j b hj h=>zDQ fun z=>hj (a.dis j i b h z)
 have h0:∀b,H0 b≠none->cutH H (As i) b=H b:=fun b hb=>zDQ fun z=>hb (a.new i b z).1
 refine⟨⟨a.ext.g.trans x.g,fun b ob e=>?_,x.in',fun b hb=>?_⟩,a.stb.trans x.g,a.tab,by simp[a.len],fun j e n h=>?_,fun j l b h1 h2=>?_,fun j b h=>?_⟩
 ·exact x.h _ _ ((h0 b (by rw[e];simp)).trans (a.ext.h _ _ e))
 ·rw[x.old b (by rw[h0 b hb];exact a.ext.h.some hb)];exact a.ext.old b hb
 ·have hj:j<ρ.length:=by
   have:=(qA2.mp h).1
   simpa using this
  by_cases z:i=j
  ·subst z;rw[qAk hj]at h;cases h;exact⟨v,hv,by rw[if_pos rfl];exact o⟩
  ·rw[qAj z]at h;obtain⟨u,h1,h2⟩:=a.at j e n h;refine⟨u,h1,?_⟩;rw[if_neg (fun q=>z q.symm)];exact(Own.keep h2 fun b ob hb e=>(inH j b (fun q=>z q.symm) hb).trans e).mono x.g x.h
 ·have key:∀j b,j≠i->As j b->S b->False:=fun j b hj h1 h2=>by
   have:=(hS b h2).1
   rw[inH j b hj h1]at this;exact(a.new j b h1).2.2 this
  try dsimp only at h1 h2
  by_cases z1:j=i
  ·by_cases z2:l=i
   ·rw[z1,z2]
   ·rw[if_pos z1]at h1;rw[if_neg z2]at h2;exact(key l b z2 h2 h1).elim
  ·by_cases z2:l=i
   ·rw[if_neg z1]at h1;rw[if_pos z2]at h2;exact(key j b z1 h1 h2).elim
   ·rw[if_neg z1]at h1;rw[if_neg z2]at h2;exact a.dis j l b h1 h2
 ·try dsimp only at h
  by_cases z1:j=i
  ·rw[if_pos z1]at h;obtain⟨n1,n2,n3⟩:=hS b h;refine⟨?_,n2,n3⟩
   by_cases z:As i b
   ·exact(a.new i b z).1
   ·rw[zDQ z]at n1;exact a.ext.h.free n1
  ·rw[if_neg z1]at h;obtain⟨n1,n2,n3⟩:=a.new j b h;have e:=inH j b z1 h;refine⟨n1,?_,x.h.some (by rw[e];exact n3)⟩;rw[x.old b (by rw[e];exact n3)];exact n2
theorem zSD{G0 H0 S0:Hp}{σ:St}{ρ:Ro}{G H:Hp}{As:Nat->Addr->Prop}{i i0:Nat}{p:Addr}{d0:Dt}{f:FW}{ds:List Dt}{vs:List V}{Q:VK}{β:Type}{P:R β->Prop}{g:Dt×Dt->R β}(a:Sat G0 H0 S0 σ ρ G H As)(hE:Err mg E G0 H0 P)
  (o0:Own G H k (As i) d0 (.ref p)) (hl:vs.length=ds.length) (hr:∀i d v,i≠i0->ds[i]?=some d->vs[i]?=some v->Rep G d v) (hp:vs[i0]?=some (.ref p)) (hd:ds[i0]?=some d0) (pq:P (zA2 (f ds) g))
  (fin:∀r v G' H' S S1,Ext G (cutH H (As i)) G' H'->Own G' H' k S r.2 (.ref p)->Own G' H' L S1 r.1 v->(∀b,S b\/S1 b->cutH H (As i) b=none/\G' b=none/\H' b≠none)->(∀b,S b->S1 b->False)->P (g r)->Q v H') :
  spW mg i0 k L f vs H Q E:=by
 refine⟨G,As i,ds,p,d0,a.tab.trans a.ext.g,a.ext.in',fun b hb=>(a.new i b hb).2,hl,hr,hp,hd,o0,?_⟩;cases ef:f ds with
 |none=>rw[ef]at pq;exact hE.no pq
 |some r=>
  rw[ef]at pq;cases r with
  |error x=>
   intro c da G' H' xt xr;refine hE.er x pq c da G' H' ⟨a.ext.g.trans xt.g,fun b ob e=>?_,xt.in',fun b hb=>?_⟩ xr
   ·have h0:cutH H (As i) b=H b:=zDQ fun z=>by
     have:=(a.new i b z).1
     rw[e]at this;cases this
    exact xt.h _ _ (h0.trans (a.ext.h _ _ e))
   ·have h0:cutH H (As i) b=H b:=zDQ fun z=>hb (a.new i b z).1
    rw[xt.old b (by rw[h0];exact a.ext.h.some hb)];exact a.ext.old b hb
  |ok r=>
   obtain⟨d,d1⟩:=r;exact fun v G' H' S S1 xt oS o1 hS hdis=>fin (d,d1) v G' H' S S1 xt oS o1 hS hdis pq
theorem zQ5{G:Hp}{ds:List Dt}{vs:List V}(r:RepL G ds vs){d0:Dt}{v0:V}:∀i d v,i≠0->(d0::ds)[i]?=some d->(v0::vs)[i]?=some v->Rep G d v:=fun i d v hi h1 h2=>by
 cases i with
 |zero=>exact absurd rfl hi
 |succ i=>exact zBJ r (by simpa using h1) (by simpa using h2)
theorem zXH{G H:Hp}{S:Addr->Prop}{d:Dt}{v:V}(h:Own G H (k+1) S d v)(hd:(∃ds,d=.lst ds)\/∃ks ds,d=.dtt ks ds):∃p,v=.ref p:=by
 rcases hd with⟨ds,rfl⟩|⟨ks,ds,rfl⟩
 ·obtain⟨a,_,_,e,_⟩:=h;exact⟨a,e⟩
 ·obtain⟨a,_,_,_,_,e,_⟩:=h;exact⟨a,e⟩
theorem zUD(j i:Nat){t:TA}{am:AM}{f:FW}(A:DA mg E t am 0):DS mg E l (tAsg (zED (spW mg 0 (k+1) L f) [] E (zEC (vM i) t)) (zDZ j)) (Mi.sCallW j i (k+1) L am f):=by
 intro G0 H0 S0 σ ρ G H As D a p;unfold Mi.sCallW at p
 split at p
 ·rename_i d0 l' er
  split at p
  ·rename_i hz
   obtain⟨rfl,hij,hbox⟩:=hz;obtain⟨v0,h1,o0⟩:=a.at i _ _ er;unfold tAsg zED zEC vM;rw[h1];refine A.step (errS.from a.ext) a.ext.in' a.frz p fun es vs G1 H1 S T _ fr oA p1=>?_
   have xE:=fr.ext;have rA:=oA.repL;have a1:=a.wider xE;have o1:=o0.mono xE.g xE.h;have hr:∃p,v0=.ref p:=zXH o0 (by cases d0<;>first|exact .inl ⟨_,rfl⟩|exact .inr ⟨_,_,rfl⟩|cases hbox)
   ·obtain⟨q,rfl⟩:=hr;dsimp only;rw[qBk];refine zSD (P:=fun r=>zCW mg E G0 H0 S0 l r D) (ds:=d0::es) a1 errS o1 (by simp[rA.length]) (zQ5 rA) rfl rfl p1 fun r v G' H' S' S1 xt oS oV hS hdis p2=>?_
    have a2:=a1.swap xt h1 oS fun b hb=>hS b (.inl hb)
    refine p2 _ G' H' _ (a2.put (i:=j) oV (fun b hb=>?_) fun r b hr h1 h2=>?_)
    ·obtain⟨n1,n2,n3⟩:=hS b (.inr hb);refine⟨?_,n2,n3⟩
     by_cases z:As i b
     ·exact(a1.new i b z).1
     ·rw[zDQ z]at n1;exact a1.ext.h.free n1
    ·try dsimp only at h1
     by_cases z:r=i
     ·rw[if_pos z]at h1;exact hdis b h1 h2
     ·rw[if_neg z]at h1;have n1:=(hS b (.inr h2)).1;rw[zDQ fun y=>z (a1.dis r i b h1 y)]at n1;exact(a1.new r b h1).2.2 n1
  ·exact p.elim
 ·exact p.elim
theorem zYJ(j i:Nat){t:TA}{am:AM}{f:FW}(A:DA mg E t am 0):DS mg E l (tAsg (tOp zXA (vM j) (zED (spW mg 0 k 0 f) [] E (zEC (vM i) t))) (zDZ j)) (Mi.sAddW j i k am f):=by
 intro G0 H0 S0 σ ρ G H As D a p;unfold Mi.sAddW at p
 split at p
 ·rename_i q d0 l' s' n' er ej
  split at p
  ·rename_i hz
   obtain⟨rfl,hij⟩:=hz;obtain⟨v0,h1,rfl,o0⟩:=a.at i _ _ er;obtain⟨vj,hj1,oj⟩:=a.at j _ _ ej
   have:vj=.int s':=by cases n'<;>exact oj
   subst this;unfold tAsg tOp zED zEC vM;rw[hj1]
   try dsimp only
   rw[h1];refine A.step (errS.from a.ext) a.ext.in' a.frz p fun es vs G1 H1 S T _ fr oA p1=>?_
   have xE:=fr.ext;have rA:=oA.repL;have a1:=a.wider xE;have o1:=o0.mono xE.g xE.h
   try dsimp only
   rw[qBk];refine zSD (P:=fun r=>zCW mg E G0 H0 S0 l r D) (ds:=d0::es) a1 errS o1 (by simp[rA.length]) (zQ5 rA) rfl rfl p1 fun r v G' H' S' S1 xt oS oV hS hdis p2=>?_
   split at p2
   ·rename_i c ec
    rw[ec]at oV
    cases(show v=.int c from oV)
    have a2:=a1.swap (K:=k+1) (D:=.loc q r.2) xt h1 ⟨rfl,oS⟩ fun b hb=>hS b (.inl hb)
    exact p2 _ G' H' _ (a2.put (i:=j) (S:=fun _=>False) (zNK (n:=0) rfl rfl) (fun b hb=>hb.elim) fun r b hr h1 h2=>h2)
   ·exact p2.elim
  ·exact p.elim
 ·exact p.elim
end
end L3
namespace L2
open PySem PySem.Spec PyProof.Rows
structure FunD(K:qA1)(x qual:Str)(st:Stmt)(f:Addr)(fd:qIe):Prop where
 ex:∃(oc:Value)(od:Option Addr)(dt:Addr)(kV doc pm:Value)(an:Option Addr)(cdv ct:Value)(osl:Array (Option Value))(ot:Obj)(n:Nat),
  fd=qBb x qual (zAW st) (zAX st) (zA3 st) (.ref dt) kV doc pm an cdv ct/\K.lookup f=some ⟨oc,od,.func fd,osl⟩/\qCb K cdv qual=true/\K.lookup dt=some ot/\ot.data=.seq #[.none] n
 kp:qB9 K (.ref f)=true
def DefD(K:qA1)(mg:Str->Option Value)(x:Str)(st:Stmt):Prop:=∃f fd,FunD K x x st f fd/\mg x=some (.ref f)
def HasD(P:qI0)(w:World)(K:qA1)(mg:Str->Option Value)(base:Heap)(x:Str)(k:Nat)(ps:List Str)(sp:Sp):Prop:=
 ∃f fd,FnOk P w K mg base (CXe P w) k f fd ps sp/\mg x=some (.ref f)/\qB9 K (.ref f)=true/\Binds K fd ps []/\Binds K fd ps [.none]
theorem zSG{K:qA1}{fd:qIe}{a b:Str}{dt:Addr}{ot:Obj}{n:Nat}(hd:fd.defaults=.ref dt)(hk:K.lookup dt=some ot)(ho:ot.data=.seq #[.none] n)(h1:fd.params.posonlyargs=[])(h2:fd.params.args.map (·.arg)=[a,b])(h3:fd.params.kwonlyargs=[])(h4:fd.params.vararg=none)(h5:fd.params.kwarg=none)(hab:a≠b) :
  Binds K fd [a,b] []/\Binds K fd [a,b] [.none]:=by
 have hba:(b==a)=false:=by simpa using fun z=>hab z.symm
 have hab':(a==b)=false:=by simpa using hab
 constructor
 ·intro s us hK hl
  match us,hl with
  |[u,v],_=>
   intro M A E Q q;unfold qJs;dsimp only;rw[h1,h2,h3,h4,h5,hd];refine wpAny_bind (wpAny_pure ?_);dsimp only;refine wpAny_bind (wpAny_seqItems (hK dt ot hk) ho ?_);simp[qD4,hab',hba,qHn,List.zip,qHv,qHw];exact wpAny_pure q
 ·intro s us hK hl;obtain⟨u,rfl⟩:∃u,us=[u]:=by
   match us,hl with
   |[u],_=>exact⟨u,rfl⟩
   |[],hl=>simp at hl
   |_::_::_,hl=>simp at hl
  ·intro M A E Q q;unfold qJs;dsimp only;rw[h1,h2,h3,h4,h5,hd];refine wpAny_bind (wpAny_pure ?_);dsimp only;refine wpAny_bind (wpAny_seqItems (hK dt ot hk) ho ?_);simp[qD4,hab',hba,qHn,List.zip,qHv,qHw];exact wpAny_pure q
section
variable{P:qI0}{w:World}{K:qA1}{mg:Str->Option Value}{base:Heap}{x:Str}{k:Nat}{a b:Str}{N:List Str}{sp:Sp}{st:Stmt}
theorem DefD.okX(D:DefD K mg x st)(S:FnScope N [a,b] (zA3 st))(h1:(zAW st).posonlyargs=[])(h2:(zAW st).args.map (·.arg)=[a,b])(h3:(zAW st).kwonlyargs=[])(h4:(zAW st).vararg=none)(h5:(zAW st).kwarg=none)(hab:a≠b)
  (len:∀vs H Q E,sp vs H Q E->vs.length=[a,b].length)
  (hbody:∀(f:Addr)(cdv:Value)(A:qI4)(outer:List Env)(s:qHx)(H:Hp)(vs:List V)(Q:VK)(E:XK),Room k (A.deeper (envOfC x (zA3 st) s.heap.objs.size f cdv))->sp vs H Q E ->
   ∃t,PSs (cxOf (CXe P w) P w K mg base N x (zA3 st) f cdv A outer s H E) (zAX st) t/\t { nx:=fun _ H'=>Q .non H',rt:=Q } (start N vs) H):HasD P w K mg base x (k+1) [a,b] sp:=by
 obtain⟨f,fd,F,m⟩:=D;obtain⟨oc,od,dt,kV,doc,pm,an,cdv,ct,osl,ot,n,rfl,lk,hcd,hk,ho⟩:=F.ex;obtain⟨b1,b2⟩:=zSG (K:=K) (fd:=qBb x x (zAW st) (zAX st) (zA3 st) (.ref dt) kV doc pm an cdv ct) rfl hk ho h1 h2 h3 h4 h5 hab;exact⟨f,_,zYD lk hcd S len fun A outer s H vs Q E hr hsp=>hbody f cdv A outer s H vs Q E hr hsp,m,F.kp,b1,b2⟩
end
section
variable{X:Cx}{x:Str}{j k:Nat}{ps:List Str}{sp:Sp}{e:Expr}{es:List Expr}{t:TA}{p pos:Pos}{E:XK}
theorem HasD.full{P:qI0}{w:World}{K:qA1}{mg:Str->Option Value}{base:Heap}(h:HasD P w K mg base x j ps sp):HasX P w K mg base x j ps sp:=let⟨f,fd,G,m,kp,b,_⟩:=h;⟨f,fd,G,m,kp,b⟩
theorem za0(h:HasD X.prog X.w X.K X.mg X.base x j ps sp)(hjk:j<=k)(hr:Room k X.A)(hf:Flies X E)(hg:Gl X x)(ha:PA X (e::es) t)(hdb:(x==("__debug__":Str))=false:=by decide)
  (he:starEach (e::es) X.env=(false,eval e X.env)::starEach es X.env:=by rfl) (hpl:(backTo pos (starEach es X.env)).any (·.1)=false:=by rfl):PE X (.Call (.Name x p) (e::es) [] pos) (zED sp [.non] E t):=by
 obtain⟨f,fd,G,m,kp,_,b⟩:=h;exact zLS G (hr.mono hjk) hg m kp b (.cons rfl .nil) hf.passes ha hdb he hpl
end
theorem mkDD{K:qA1}{h:Heap}{mg:Str->Option Value}{nm:Str}{st:Stmt}{f dt:Addr}{oc kV dc pm cd ct:Value}{od an:Option Addr}{sl:Array (Option Value)}{ot:Obj}{n:Nat}(X:K.In h)(G:h.Ns qI3 mg)(a:qB0 K qI3 nm=some (some (.ref f)))
  (l:K.lookup f=some ⟨oc,od,.func (qBb nm nm (zAW st) (zAX st) (zA3 st) (.ref dt) kV dc pm an cd ct),sl⟩) (c:qCb K cd nm=true) (k:qB9 K (.ref f)=true) (l2:K.lookup dt=some ot) (e:ot.data=.seq #[.none] n):DefD K mg nm st:=
 ⟨f,_,⟨⟨oc,od,dt,kV,dc,pm,an,cd,ct,sl,ot,n,rfl,l,c,l2,e⟩,k⟩,qBe X G a⟩
end L2
namespace L3
open PySem PySem.Spec PyProof.Rows
open L2 hiding Rep RepL
open Mi (Dt Xn R okR zA2 optR bindR_ok zA4 zAA zA8 zA9 Rh Sl Ro EM TM AM FM IM SM OM Tg Out zAM zAK zAQ full frz frz1 frzAt FW SMM OutM)
section
variable[Kc]{mg:Str->Option Value}{E:XK}{L n k l:Nat}{te ta tb t1 t2:TE}{e ea eb e1 e2:EM}
end
end L3
namespace L3
open PySem PySem.Spec
open L2 hiding Rep RepL
open Mi (Dt Xn R okR zA2 optR bindR_ok zA4 zAA zA8 zA9 Rh Sl Ro EM TM AM FM IM SM OM Tg Out zAM zAK zAQ full frz frz1 frzAt FW)
section
variable[Kc]{mg:Str->Option Value}{E:XK}{n:Nat}{t:TA}{m:AM}
theorem zFC{G:Hp}:∀{ds:List Dt}{vs:List V}{d:Dt}{v:V},RepL G ds vs->Rep G d v->RepL G (ds++[d]) (vs++[v])
 |[],_,d,v,h,r=>by cases h;exact⟨v,[],rfl,r,rfl⟩
 |_::_,_,d,v,h,r=>by obtain⟨x,q,rfl,h1,h2⟩:=h;exact⟨x,_,rfl,h1,zFC h2 r⟩
theorem zUK{f:FM}(A:DA mg E t m 0):DE mg E (zED (spM mg n f) [.non] E t) (Mi.eCallD f m) n:=by
 intro G H σ ρ Q s w p;refine A.step errE s w p fun ds vs G1 H1 S T _ fr o p1=>?_
 exact⟨G1,ds++[.non],w.tab.trans fr.ext.g,fr.ext.in',zFC (d:=.non) (v:=.non) o.repL rfl,PostE.from p1 fr.ext⟩
theorem zS1{f:FM}(A:DA mg E t m 0):DE mg E (zED (spE Kc.K mg n f) [.non] E t) (Mi.eCallD f m) n:=zUK A
end
def spW0(K:qA1)(mg:Str->Option Value)(i0 k L:Nat)(f:FW):Sp:=fun vs H Q _=>@spW ⟨K⟩ mg i0 k L f vs H Q E0
end L3
namespace L2
open PySem PySem.Spec PyProof.Rows
theorem zQ3:typeLookup (.type "range_iterator") "__len__" = pure none:=by rw[typeLookup_type,builtinLookup_eq_fast];kernel_rfl
theorem zOQ:isSubtype (.type "range_iterator") (.type "reversed")=pure false:=by rw[isSubtype_type];kernel_rfl
noncomputable def zT3(n:Int):Obj:={ cls:=.type "range_iterator",data:=.fields #[rawInt (n-1),rawInt n,rawInt (-1)] }
section
variable{prog:qI0}{w:World}{A:qI4}{E:Value->qHx->Prop}{s:qHx}
theorem zX2{r:Addr}{n:Int}{t u v:Tok}{Q:Value->qHx->Prop}(h0:0<=n)(hn:n<=1000000)(hr:IsRange s.heap r 0 n 1 t u v)
  (h:Q (.ref s.heap.objs.size) { s with heap:=s.heap.push (zT3 n) }):wpAny (model prog w) A (call (.builtin "range.__reversed__") [.ref r]) Q E s:=by
 have hT:s.TypeIs (.ref r) "range":=⟨_,hr,rfl⟩
 have hsz:qIm 0 n 1=n:=by
  unfold qIm;rw[if_pos (by decide)]
  split
  ·rw[qHi];lia
  ·lia
 have hf:∀i:Int,-1000001<=i->i<=1000000->qJm i=true:=fun i a b=>by
  unfold qJm;simp
  lia
 refine wpAny_call_entry qCi hT PySem.F.entry_range_reversed ?_ (PySem.F.args_range_reversed_1 _);unfold qLb.«range.__reversed__»;refine wpAny_bind (wpAny_of_eq (a:=qI5 r) rfl ?_);refine wpAny_bind ?_;unfold qLp;refine wpAny_bind (wpAny_field hr rfl (x:=.int 0 t) rfl ?_);refine wpAny_bind (wpAny_of_eq (a:=some 0) (by first|rfl|kernel_rfl) ?_);refine wpAny_bind (wpAny_field hr rfl (x:=.int n u) rfl ?_);refine wpAny_bind (wpAny_of_eq (a:=some n) (by first|rfl|kernel_rfl) ?_);refine wpAny_bind (wpAny_field hr rfl (x:=.int 1 v) rfl ?_);refine wpAny_bind (wpAny_of_eq (a:=some 1) (by first|rfl|kernel_rfl) ?_);refine wpAny_pure ?_;dsimp only;rw[hsz,hf 0 (by decide) (by decide),hf n (by lia) hn,hf 1 (by decide) (by decide),hf (-1) (by decide) (by decide),hf (0-1) (by decide) (by decide)];simp only[Bool.and_self,Bool.not_true,qCc,if_false,if_true,ite_true,ite_false];refine wpAny_bind ?_;show wpAny _ _ (newObj (.type "range_iterator") (.fields #[rawInt (0+(n-1)*1),rawInt n,rawInt (-1)])) _ _ _;rw[show(0:Int)+(n-1)*1=n-1 by lia];exact wpAny_newObj_type (wpAny_pure ⟨_,rfl,h⟩)
theorem zZG{r:Addr}{n:Int}{t u v:Tok}{Q₁:Value->qHx->Prop}(h0:0<=n)(hn:n<=1000000)(hr:IsRange s.heap r 0 n 1 t u v)
  (h:Q₁ (.ref s.heap.objs.size) { s with heap:=s.heap.push (zT3 n) }) :
  qJd (model prog w) A (.call (.builtin "reversed.__new__") ⟨[.type "reversed",.ref r],[]⟩) (wants Q₁ E) s:=by
 have hT:s.TypeIs (.ref r) "range":=⟨_,hr,rfl⟩
 refine codeAny_of_tree ?_;show wpAny _ A.in1 (do checkBuiltinCall "reversed.__new__" ⟨[.type "reversed",.ref r],[]⟩;again (.builtin "reversed.__new__" ⟨[.type "reversed",.ref r],[]⟩)) _ _ s;refine wpAny_bind (wpAny_of_eq (PySem.F.newCall_reversed_1 _) (wpAny_pure ⟨qK2 qDt _,qKg PySem.F.entry_reversed_new ?_⟩));rw[qJf qDt _];unfold qLb.«reversed.__new__»;refine wpAny_bind (wpAny_of_eq (newClass_reversed _) ?_)
 try dsimp only
 refine wpAny_bind (wpAny_of_eq (a:=()) (by first|rfl|kernel_rfl) ?_);refine wpAny_bind (wpAny_of_eq (a:=()) (by first|rfl|kernel_rfl) ?_)
 try dsimp only
 refine wpAny_bind (wpAny_specialOf hT qCi.lookup ?_)
 try dsimp only
 refine wpAny_bind (wpAny_of_eq (qCi.bind _) ?_)
 try dsimp only
 first
 |rw[if_neg (show ¬((qIi "range.__reversed__" == qI7)=true) from qAa)]
 |(show wpAny _ _ (if(qIi "range.__reversed__" == qI7)=true then _ else _) _ _ _;rw[if_neg (show ¬((qIi "range.__reversed__" == qI7)=true) from qAa)])
 refine wpAny_bind (wpAny_rule ?_);refine wpAny_bind (m:=runValue (.call (.builtin "range.__reversed__") ⟨[.ref r],[]⟩)) (show wpAny _ _ (call (.builtin "range.__reversed__") [.ref r]) _ _ _ from zX2 h0 hn hr ?_)
 first
 |exact wpAny_pure h
 |exact wpAny_bind (wpAny_pure (wpAny_pure h))
theorem zX3{r:Addr}{n:Int}{t u v:Tok}{Q:Value->qHx->Prop}(h0:0<=n)(hn:n<=1000000)(hr:IsRange s.heap r 0 n 1 t u v)
  (h:Q (.ref s.heap.objs.size) { s with heap:=s.heap.push (zT3 n) }):wpAny (model prog w) A (call (.type "reversed") [.ref r]) Q E s:=by
 refine callType_other (U:="range_iterator") (Q₁:=fun obj s₁=>obj=.ref s.heap.objs.size/\s₁={ s with heap:=s.heap.push (zT3 n) }) (by decide +kernel) PySem.F.create_reversed ⟨_,_,PySem.F.mro_reversed⟩ PySem.F.made_reversed zOQ (PySem.F.typeCall_reversed_1 _) (zZG h0 hn hr ⟨rfl,rfl⟩) ?_
 rintro obj s₁ ⟨rfl,rfl⟩
 exact⟨⟨_,qI1 _ rfl,rfl⟩,h⟩
theorem zZH{it:Addr}{x left step:Int}{Q:Option Value->qHx->Prop}(hh:A.handled=none)(hit:qJ6 s.heap it x left step)(hleft:left<=0)
  (hQ:∀h',(∀b o,s.heap.get? b=some o->h'.get? b=some o)->Q none { s with heap:=h' }):wpAny (model prog w) A (pyNext (.ref it)) Q E s:=by
 have hT:s.TypeIs (.ref it) "range_iterator":=⟨_,hit,rfl⟩
 unfold pyNext;refine wpAny_bind (wpAny_attempt (wpAny_callSpecial?_slot (name:=qJa "__next__") hT qD0
  (wpAny_call_entry qD0 hT PySem.F.entry_range_iterator_next ?_ (PySem.F.args_range_iterator_next_1 _))))
 show wpAny _ _ (field (.ref it) 0 >>= _) _ _ s;refine wpAny_bind (wpAny_field hit rfl (x:=rawInt x) rfl ?_);show wpAny _ _ (field (.ref it) 1 >>= _) _ _ s;refine wpAny_bind (wpAny_field hit rfl (x:=rawInt left) rfl ?_);show wpAny _ _ (field (.ref it) 2 >>= _) _ _ s;refine wpAny_bind (wpAny_field hit rfl (x:=rawInt step) rfl ?_);show wpAny _ _ (if left<=0 then _ else _) _ _ s;rw[if_pos hleft];refine wpAny_bind (wpAny_rule ?_);refine wpAny_bind ?_;show wpAny _ _ (newExc (.type "StopIteration") [] >>= _) _ _ _;refine wpAny_bind ?_;simp only[newExc,newTuple];refine wpAny_bind (wpAny_newObj_type ?_ (by size_fits));refine wpAny_bind (m:=qJw _ _) (wpAny_of_eq (a:=qI7) (by first|rfl|(simp only[qJw];rfl)) ?_);refine wpAny_newObj_type ?_ (by size_fits);simp only[raiseNew];refine wpAny_bind (wpAny_handled ?_);rw[show A.in1.handled=none from hh];refine wpAny_bind (wpAny_pure (wpAny_throw ?_));refine wpAny_bind (wpAny_isInstance (T:="StopIteration") (b:=true) ⟨_,qI1 _ rfl,rfl⟩ isSubtype_stop ?_);exact wpAny_pure (hQ _ fun b o e=>qHy _ (qHy _ e))
theorem zXL{I:Addr}{n:Nat}(hn:n<=1000000) :
  Once prog w "range_iterator" I [I] n (fun i v=>∃t,v=.int ((n:Int)-1-(i:Int)) t) (fun i h=>i<=n/\qJ6 h I ((n:Int)-1-(i:Int)) ((n:Int)-(i:Int)) (-1)) where
 ty:=fun s i st=>⟨_,st.2,rfl⟩
 nl:=by decide
 nt:=by decide
 me:=by simp
 hint:=fun A E s Q hh st hQ=>by
  have hl:=zFP;have hT:s.TypeIs (.ref I) "range_iterator":=⟨_,st.2,rfl⟩
  have ho:=st.2;unfold qJk;refine wpAny_bind (wpAny_specialOf hT zQ3 ?_);show wpAny _ _ (specialOf (qI5 I) (qJa "__length_hint__") >>= _) _ _ _;refine wpAny_bind (wpAny_specialOf hT qCj.lookup ?_)
  generalize hid:("range_iterator.__length_hint__":String)=id0
  wp_delta
  rw[show splitId id0=some ("range_iterator","__length_hint__") from by subst hid;decide +kernel];subst hid;refine wpAny_bind (wpAny_isInstance (T:="range_iterator") (b:=true) hT (by rw[isSubtype_type];kernel_rfl) ?_);refine qJl (fun hab=>absurd hab (by decide)) (fun _=>?_);refine qJl (fun _=>?_) (fun hab=>absurd (by decide +kernel) hab);refine qJl (fun _=>?_) (fun hab=>absurd (by decide +kernel) hab);refine wpAny_bind (wpAny_call_entry qCj hT PySem.F.entry_range_iterator_length_hint ?_ (PySem.F.args_range_iterator_length_hint_1 _));unfold qLb.«range_iterator.__length_hint__»;refine wpAny_bind (wpAny_of_eq (a:=qI5 I) rfl ?_);refine wpAny_bind (wpAny_field ho rfl (x:=rawInt ((n:Int)-((0:Nat):Int))) rfl ?_);show wpAny _ _ (retInt ((n:Int)-((0:Nat):Int))) _ _ _;refine wpAny_bind (wpAny_mkInt (wpAny_pure ⟨_,rfl,?_⟩));have hL:qIc ((n:Int)-((0:Nat):Int)).toNat=false:=by unfold qIc;simp;rw[qIq];lia
  refine wpAny_bind (wpAny_of_eq (a:=some ((n:Int)-((0:Nat):Int))) (by first|rfl|kernel_rfl) ?_);dsimp only;rw[hL];exact wpAny_pure (hQ _ _)
 walk:=fun A hh=>{
  me:=by simp
  frame:=fun i h h' st hk=>⟨st.1,hk I (by simp) _ st.2⟩
  item:=fun i s Q E hi st hQ=>by
   refine wpAny_pyNext_range_item st.2 (by lia) fun h' hit' hs'=>?_
   rw[show(n:Int)-1-(i:Int) + -1=(n:Int)-1-((i+1:Nat):Int) by lia,show(n:Int)-(i:Int)-1=(n:Int)-((i+1:Nat):Int) by lia]at hit';exact hQ _ h' _ ⟨_,rfl⟩ ⟨hi,hit'⟩ fun b o hb eo=>hs'.extBut b o hb eo
  done:=fun s Q E st hQ=>zZH hh st.2 (by lia) fun h' he'=>hQ h' s.toks (fun b o _ eo=>he' b o eo) ⟨_,he' _ _ st.2⟩
  self:=fun i s Q E st hQ=>qK5 st.2 hQ }
end
noncomputable def riHO(p:Addr)(n:Nat):HO:=.ext fun h=>qJ6 h p ((n:Int)-1) (n:Int) (-1)
section
variable{X:Cx}{pins:List (Addr×Obj)}{σ:List (Option V)}{H:Hp}{s:qHx}
def zZO:List V->Hp->VK->Prop:=fun vs H Q=>match vs with
 |[.ref a]=>∃n:Nat,H a=some (.rng 0 (n:Int))/\n<=1000000/\∀p,H p=none->Q (.ref p) (upd H p (riHO p n))
 |_=>False
theorem zaG:zCE X (.type "reversed") zZO:=by
 intro pins s σ H vs us Q I r h
 match vs,r,h with
 |[.ref a],r,h=>
  obtain⟨n,ha,hn,q⟩:=h;obtain⟨u,rfl,rx⟩:=zF8 r;cases rx;obtain⟨t,u,v,e⟩:=(show ObjOk X.prog X.w H s.heap a (.rng 0 (n:Int)) from I.hok a _ ha)
  refine zX3 (n:=(n:Int)) (by lia) (by lia) e ?_;exact⟨.ref _,_,I.laid (t':=s.toks) (o:=riHO s.heap.objs.size n) (fun b o e=>qHy _ e) (qA7 _) ⟨qI1 _ rfl,⟨_,qI1 _ rfl⟩,fun h1 h2 z f=>f _ z⟩,rfl,q _ I.fresh⟩
def zVA:List V->Hp->VK->Prop:=fun vs H Q=>match vs with
 |[.ref p]=>∃n:Nat,H p=some (riHO p n)/\n<=10000/\∀l,upd H p (zFQ p) l=none->Q (.ref l) (upd (upd H p (zFQ p)) l (.lst (zD1 0 n).reverse))
 |_=>False
theorem zY2(hc:X.calm=true):zCE X (.type "list") zVA:=by
 intro pins s σ H vs us Q I r h
 match vs,r,h with
 |[.ref p],r,h=>
  obtain⟨n,hp,hn,q⟩:=h;obtain⟨u,rfl,rx⟩:=zF8 r;cases rx;have hok:ObjOk X.prog X.w H s.heap p (riHO p n):=I.hok p _ hp;have hit:qJ6 s.heap p ((n:Int)-1) (n:Int) (-1):=hok.1;have hpl:p<s.heap.objs.size:=hok.lt;have mu:Mut (H p):=by rw[hp];trivial
  have hz:n<=sizeLine:=by rw[qIq];lia
  have st:0<=n/\qJ6 s.heap p ((n:Int)-1-((0:Nat):Int)) ((n:Int)-((0:Nat):Int)) (-1):=⟨qAs _,by simpa using hit⟩
  refine zQK (zXL (I:=p) (n:=n) (by lia)) (I.ok.hd hc) st (fun b hb=>by rw[qAn.mp hb];exact hpl) hz fun h' tk acc' c' hk hu hl hi=>?_
  have hsl:(zD1 0 n).length=n:=by simp[zD1]
  have hv:Vals (zD1 0 n).reverse acc'.toList:=by
   refine zPK (by simp[hi.1,hsl]) fun j u x h1 h2=>?_
   have hj:j<(zD1 0 n).length:=by have:=(qA2.mp h2).1;simpa using this
   obtain⟨t,rfl⟩:=hi.2 j u (by rw[<- qCf];exact h1);rw[List.getElem?_reverse hj,hsl]at h2;rw[hsl]at hj
   have:x=.int ((n:Int)-1-(j:Int)):=by
    have e:(zD1 0 n)[n-1-j]?=some (V.int ((n:Int)-1-(j:Int))):=by
     unfold zD1;rw[qAf,qFe (by lia)];simp
     lia
    rw[e]at h2;exact(qBc h2).symm
   subst this;exact⟨t,rfl⟩
  have hl0:H s.heap.objs.size=none:=I.fresh;exact⟨.ref _,_,I.walked (t':=tk) (o:=.lst (zD1 0 n).reverse) mu (qA7 _) (fun b o hb e=>hk b o hb e) hu ⟨by simpa[hsl]using hz,acc'.toList,c',hv,by simpa using hl⟩,rfl,q _ (by rw[zAB (qBz hpl)];exact hl0)⟩
end
end L2
namespace L3
open PySem PySem.Spec PyProof.Rows
open L2 hiding Rep RepL
section
variable{P:qI0}{w:World}{K:qA1}{mg:Str->Option Value}{base:Heap}{x:Str}{st:Stmt}{N ps:List Str}{k:Nat}
theorem dfW{L n i0 j:Nat}{m:Mi.SMM}(D:Def K mg x st)(S:FnScope N ps (zA3 st))
  (hb:∀(kV doc pm:Value)(an:Option Addr)(cdv ct:Value)(us:List Value),us.length=ps.length->qJs (qBb x x (zAW st) (zAX st) (zA3 st) .none kV doc pm an cdv ct) ⟨us,[]⟩=pure (ps.zip us))
  (hbody:∀{f:Addr}{cdv:Value}{A:qI4}{outer:List Env}{s:qHx}{H:Hp}{vs:List V}{Q:VK}{E:XK},Room k (A.deeper (envOfC x (zA3 st) s.heap.objs.size f cdv))->(A.deeper (envOfC x (zA3 st) s.heap.objs.size f cdv)).units+64<cLine->spW0 K mg i0 j L (Mi.uniM (Mi.runM L ps.length n i0 j m)) vs H Q E ->
   ∃t,PSs (cxOf CX0 P w K mg base N x (zA3 st) f cdv A outer s H E).nox (zAX st) t/\t { nx:=fun _ H'=>Q .non H',rt:=Q } (start N vs) H):Has P w K mg base x (k+1) ps (spW0 K mg i0 j L (Mi.uniM (Mi.runM L ps.length n i0 j m))):=
 D.ok S hb (fun _ _ _ _ h=>@zWS ⟨K⟩ _ _ _ _ _ _ _ _ _ _ _ h) fun _ _ _ _ _ _ _ _ _ hr h=>hbody hr hr.units h
theorem dfD{a b:Str}{L n:Nat}{m:Mi.SM}(D:DefD K mg x st)(S:FnScope N [a,b] (zA3 st))(h1:(zAW st).posonlyargs=[])(h2:(zAW st).args.map (·.arg)=[a,b])(h3:(zAW st).kwonlyargs=[])(h4:(zAW st).vararg=none)(h5:(zAW st).kwarg=none)(hab:a≠b)
  (hbody:∀{f:Addr}{cdv:Value}{A:qI4}{outer:List Env}{s:qHx}{H:Hp}{vs:List V}{Q:VK}{E:XK},Room k (A.deeper (envOfC x (zA3 st) s.heap.objs.size f cdv))->(A.deeper (envOfC x (zA3 st) s.heap.objs.size f cdv)).units+64<cLine->spE K mg L (Mi.runF 2 n m) vs H Q E ->
   ∃t,PSs (cxOf (CXe P w) P w K mg base N x (zA3 st) f cdv A outer s H E) (zAX st) t/\t { nx:=fun _ H'=>Q .non H',rt:=Q } (start N vs) H):HasD P w K mg base x (k+1) [a,b] (spE K mg L (Mi.runF 2 n m)):=
 D.okX S h1 h2 h3 h4 h5 hab (fun _ _ _ _ h=>@zIE ⟨K⟩ _ _ _ _ _ _ _ _ _ h) fun _ _ _ _ _ _ _ _ _ hr h=>hbody hr hr.units h
end
end L3
namespace L3
open PySem PySem.Spec
open L2 hiding Rep RepL
open Mi (Dt Xn R okR zA2 optR bindR_ok zA4 zAA zA8 zA9 Rh Sl Ro EM TM AM FM IM SM OM Tg Out zAM zAK zAQ full frz frz1 frzAt)
section
variable[Kc]{mg:Str->Option Value}{E:XK}{L n k:Nat}{te:TE}{e:EM}{t:TS}{m:SM}
end
end L3
namespace Mi
open PySem
noncomputable section
def rvrD:List Dt->Option Dt
 |[.int j]=>@ite _ (0<=j/\j<=1000) (qA3 _) (some (.lst (nums 0 j.toNat).reverse)) none
 |_=>none
end
end Mi
namespace L3
open PySem PySem.Spec PyProof.Rows
open L2 hiding Rep RepL
open Mi (Dt Xn R okR zA2 optR bindR_ok zA4 zAA zA8 zA9 Rh Sl Ro EM TM AM FM IM SM OM Tg Out zAM zAK zAQ full frz frz1 frzAt)
section
variable[Kc]{mg:Str->Option Value}{E:XK}{L n k l:Nat}{te ta tb:TE}{e ea eb ma:EM}{t:TA}{m:AM}
theorem zbG(A:DA mg E t m 0):DE mg E (tCB zVA (zEC (tCB zZO (zEC (tCB zLQ t) tNil)) tNil)) (Mi.eBi Mi.rvrD m) 1:=by
 intro G H σ ρ Q s w p;refine A.step errE s w p fun ds vs G1 H1 S T _ fr o p1=>?_
 have p2:=PostE.from p1 fr.ext;have r:=o.repL;have s1:=fr.ext.in';cases ds with
 |nil=>exact p2.elim
 |cons a0 r0=>
  cases a0 with
  |int i=>
   cases r0 with
   |nil=>
    obtain⟨x,rfl,hx⟩:=zDF r
    cases(show x=.int i from hx)
    rw[Mi.rvrD]at p2
    split at p2
    ·rename_i hz
     obtain⟨n,rfl⟩:∃n:Nat,i=(n:Int):=⟨i.toNat,by lia⟩
     intro q hq;refine⟨n,zAC,by lia,fun p hp=>⟨n,zAC,by lia,fun l hl=>?_⟩⟩;have sn:=L2.same_new hq (.rng 0 (n:Int));rw[qBa]at p2;exact PostE.lst p2 (Ext.same s1 (fun b u e=>zPZ hp _ _ b u (sn b u e))) (zT5 (zN5 0 _)) hl
    ·exact p2.elim
   |cons _ _=>exact p2.elim
  |_=>exact p2.elim
end
end L3
namespace L2
open PySem PySem.Spec PyProof.Rows
theorem zZV{X:Cx}{pos:Pos}{c:Expr}{a b:List Stmt}{tc:TT}{u u':TSX}(hc:PT X.nox c tc)(ha:PSxs X a u)(hb:PSxs X b u'):PSx X (.If c a b pos) (fun D E σ H=>tc σ H fun k H1=>if k=true then u D E σ H1 else u' D E σ H1):=by
 intro pins s σ H D E I h;refine wpAny_If (wpAny_mono (hc pins s σ H _ (I.wish _) h) (fun d s1 z0=>?_) fun _ _ z=>qA8 z);obtain⟨H1,I1,q1⟩:=z0;cases d with
 |true=>exact ha pins s1 σ H1 D E I1.unwish q1
 |false=>exact hb pins s1 σ H1 D E I1.unwish q1
end L2
namespace Mi
open PySem
noncomputable section
def eFnc(x:Str):EM:=fun _=>okR (.fnc x)
def eCallV(tb:List (Str×Bool×FM))(i:Nat)(am:AM):EM:=fun ρ=>match ρ[i]? with
 |some (some (.fnc x))=>match tb.lookup x with
  |some f=>zA2 (am ρ) fun ds=>f.2 (if f.1=true then ds++[.non]else ds)
  |none=>none
 |_=>none
end
end Mi
namespace L2
open PySem PySem.Spec PyProof.Rows
section
variable{X:Cx}{i k:Nat}{x:Str}{p pos:Pos}{e:Expr}{es:List Expr}{t:TA}{tb:List (Addr×Sp×List V)}
def zN0(tb:List (Addr×Sp×List V))(i:Nat)(E:XK)(t:TA):TE:=fun σ H Q=>∃f sp dvs,σ[i]?=some (some (.ref f))/\(f,sp,dvs)∈tb/\zED sp dvs E t σ H Q
def TabV(X:Cx)(k:Nat)(tb:List (Addr×Sp×List V)):Prop:=∀p∈tb,∃j ps fd ds,j<=k/\FnOk X.prog X.w X.K X.mg X.base (CXe X.prog X.w) j p.1 fd ps p.2.1/\qB9 X.K (.ref p.1)=true/\Binds X.K fd ps ds/\Vals p.2.2 ds
theorem zKB(hM:TabV X k tb)(hr:Room k X.A)(hN:X.N[i]?=some x)(hv:Vis X.env.scope x)(ha:PA X.nox (e::es) t)
  (hd:(x==("__debug__":Str))=false:=by decide) (hcd:(x==("__classdict__":Str))=false:=by decide)
  (he:starEach (e::es) X.env=(false,eval e X.env)::starEach es X.env:=by rfl) (hpl:(backTo pos (starEach es X.env)).any (·.1)=false:=by rfl) :
  PEx X (.Call (.Name x p) (e::es) [] pos) (fun σ H Q E=>zN0 tb i E t σ H Q):=by
 intro pins s σ H Q E I h;obtain⟨f,sp,dvs,hσ,hm,ht⟩:=h;obtain⟨j,ps,fd,ds,hj,F,kp,hb,hdv⟩:=hM _ hm;refine qIo (wpAny_mono (zVE (X:=X.nox) (i:=i) hN hv hd hcd pins s σ H (fun v H'=>v=.ref f/\H'=H) (I.wish _) ⟨_,hσ,rfl,rfl⟩) (fun u s1 z=>?_) fun _ _ z=>qA8 z);obtain⟨v,H1,I1',rv,rfl,rfl⟩:=z;have I1:=I1'.unwish;cases rv;refine qDu (h₀:=X.base) I.ok.mod.kin kp (thn (PA.nox (M:=model X.prog X.w) ha pos I1 ht) fun us s2 ⟨vs,H2,I2,r,q⟩=>⟨I2.kIn,?_⟩) he hpl;exact zWY F (hr.mono hj) hb hdv I2 r q
theorem zMZ:TabV X k []:=fun p h=>by simp at h
theorem zGH{C C':Addr}{y:Str}{sp:Sp}{j:Nat}{ps:List Str}(hc:C'=C)(h:HasX X.prog X.w X.K X.mg X.base y j ps sp)(hm:X.mg y=some (.ref C))(hj:j<=k)(hr:TabV X k tb):TabV X k ((C',sp,[])::tb):=fun p hp=>by
 rcases qA6.mp hp with rfl|hp
 ·obtain⟨f,fd,F,m,kp,b⟩:=h;rw[m]at hm;cases hm;subst hc;exact⟨j,ps,fd,[],hj,F,kp,b,.nil⟩
 ·exact hr p hp
theorem zOL{C C':Addr}{y:Str}{sp:Sp}{j:Nat}{ps:List Str}(hc:C'=C)(h:HasD X.prog X.w X.K X.mg X.base y j ps sp)(hm:X.mg y=some (.ref C))(hj:j<=k)(hr:TabV X k tb):TabV X k ((C',sp,[.non])::tb):=fun p hp=>by
 rcases qA6.mp hp with rfl|hp
 ·obtain⟨f,fd,F,m,kp,_,b⟩:=h;rw[m]at hm;cases hm;subst hc;exact⟨j,ps,fd,[.none],hj,F,kp,b,.cons rfl .nil⟩
 ·exact hr p hp
end
end L2
namespace L3
open PySem PySem.Spec PyProof.Rows
open L2 hiding Rep RepL
open Mi (Dt Xn R okR zA2 optR bindR_ok zA4 zAA zA8 zA9 Rh Sl Ro EM TM AM FM IM SM OM Tg Out zAM zAK zAQ full frz frz1 frzAt FW)
section
variable[Kc]{mg:Str->Option Value}{E:XK}{L n k l:Nat}{te ta tb:TE}{e ea eb ma:EM}{t:TA}{m:AM}
structure FNm(K:qA1)(mg:Str->Option Value)(x:Str)(C:Addr):Prop where
 cl:clK K x=some C
 gm:mg x=some (.ref C)
theorem zO1{x:Str}{C:Addr}(h:clK Kc.K x=some C):DE mg E (tC (.ref C)) (Mi.eFnc x) 0:=by
 intro G H σ ρ Q s w p;exact PostE.kept p (Ext.refl s) ⟨C,rfl,h⟩
theorem zKK{g:Bool×FM}{c:Str}:∀{tb:List (Str×Bool×FM)},tb.lookup c=some g->(c,g)∈tb
 |(d,h)::r,e=>by
  rw[qBg]at e;cases z:c==d with
  |true=>rw[z]at e;cases e;rw[beq_iff_eq.mp z];exact qAl ..
  |false=>rw[z]at e;exact qAd _ (zKK e)
theorem zO2{tb:List (Str×Bool×FM)}(i:Nat)(B:DA mg E t m 0):DE mg E (zN0 (tb.map fun p=>((clK Kc.K p.1).getD 0,spE Kc.K mg n p.2.2,if p.2.1=true then[.non]else[])) i E t) (Mi.eCallV tb i m) n:=by
 intro G H σ ρ Q s w p;unfold Mi.eCallV at p;cases er:ρ[i]? with
 |none=>rw[er]at p;exact p.elim
 |some o=>
  cases o with
  |none=>rw[er]at p;exact p.elim
  |some d=>
   rw[er]at p;cases d with
   |fnc x=>
    dsimp only at p;obtain⟨v,hv,a,rfl,hc⟩:=w.at i _ er;cases e1:tb.lookup x with
    |none=>rw[e1]at p;exact p.elim
    |some g=>
     rw[e1]at p;dsimp only at p;refine⟨a,spE Kc.K mg n g.2,if g.1=true then[.non]else[],hv,qAb.mpr ⟨(x,g),zKK e1,by rw[hc];rfl⟩,?_⟩;refine B.step errE s w p fun ds vs G1 H1 S T _ fr o p1=>?_
     cases hg:g.1 with
     |true=>
      rw[hg,if_pos rfl]at p1;exact⟨G1,ds++[.non],w.tab.trans fr.ext.g,fr.ext.in',zFC (d:=.non) (v:=.non) o.repL rfl,PostE.from p1 fr.ext⟩
     |false=>
      rw[hg,if_neg (by decide)]at p1;exact⟨G1,ds,w.tab.trans fr.ext.g,fr.ext.in',by rw[if_neg (by decide),qBk];exact o.repL,PostE.from p1 fr.ext⟩
   |_=>exact p.elim
end
end L3
namespace Mi
open PySem
section
variable(ρ:Rh)(r:Ro)(a:EM)(am:AM)
@[simp] theorem x_tL:tL a ρ=zA2 (a ρ) fun x=>match x with | .bl k=>okR k | .int i=>okR (i != 0) | .non=>okR false | .lst xs=>okR (!xs.isEmpty) | .tup xs=>okR (!xs.isEmpty)|_=>none:=rfl
@[simp] theorem x_eMl(f:List Dt->List Dt->Option Dt):eMl f a am ρ=zA2 (a ρ) fun x=>match x with | .lst xs=>zA2 (am ρ) fun ds=>optR (f xs ds)|_=>none:=rfl
@[simp] theorem x_iRv:iRv am ρ=zA2 (am ρ) fun vs=>match vs with|[.lst xs]=>okR xs.reverse|_=>none:=rfl
@[simp] theorem v_xor(i j:Int):xorD (.int i) (.int j)=some (.int (qIw i j)):=rfl
@[simp] theorem zbX(xs:List Dt)(k:Int):repD (.lst xs) (.int k)=@ite _ ((-4611686018427387904<=k/\k<4611686018427387904)/\xs.length*k.toNat<=100000) (qA3 _) (some (.lst (qA4 k.toNat xs).flatten)) none:=rfl
end
end Mi
namespace Mp
open Mi PySem
theorem zKF(n:Nat):nums 0 n=((qA9 n).map fun i:Nat=>(i:Int)).map Dt.int:=by
 unfold nums;rw[qAq];exact qAt fun i _=>by simp
theorem zN1(ms:List Int)(q:Nat)(v:Int):(ms.map Dt.int).set q (.int v)=(ms.set q v).map Dt.int:=by
 rw[qDx]
theorem zP8(ms:List Int)(q:Nat):(ms.map Dt.int).eraseIdx q=(ms.eraseIdx q).map Dt.int:=by
 induction ms generalizing q with
 |nil=>rfl
 |cons a r ih=>
  cases q with
  |zero=>rfl
  |succ q=>simp[ih]
theorem zNI{r:Ro}{j i l:Nat}{ls:List Int}{e:EM}{z:Int}(h:r[i]?=some (some (.lst (ls.map .int),l+1)))(he:e (full r)=okR (.int z))(h0:0<=z)(h1:z<ls.length)(hij:i≠j)(hle:ls.length<=1000000) :
  sPop j i e r=okR (.nx ((r.set i (some (.lst ((ls.eraseIdx z.toNat).map .int),l+1))).set j (some (.int (ls.getD z.toNat 0),l)))):=by
 have hi:ixA (ls.map Dt.int).length z=some z.toNat:=zH0 h0 (by simpa using h1);have hg:(ls.map Dt.int)[z.toNat]?=some (.int (ls.getD z.toNat 0)):=by
  have:z.toNat<ls.length:=by lia
  rw[qAf,qA5 this,qA0,qA5 this];rfl
 unfold sPop;rw[h];dsimp only;rw[he,bindR_ok];dsimp only;rw[hi];dsimp only;rw[hg];dsimp only;rw[if_pos ⟨hij,by simpa using hle⟩,zP8]
theorem zKP{r:Ro}{i n l:Nat}{ls:List Int}{e1 e2:EM}{z v:Int}(h:r[i]?=some (some (.lst (ls.map .int),l+1)))(he2:e2 (full r)=okR (.int v))(he1:e1 (full r)=okR (.int z))(h0:0<=z)(h1:z<ls.length) :
  sItem i n e1 e2 r=okR (.nx (r.set i (some (.lst ((ls.set z.toNat v).map .int),l+1)))):=by
 have hi:ixA (ls.map Dt.int).length z=some z.toNat:=zH0 h0 (by simpa using h1);unfold sItem;rw[he2,bindR_ok,h];dsimp only;rw[he1,bindR_ok];dsimp only;rw[hi];dsimp only;rw[if_pos ⟨qAs _,qAs _⟩,zN1]
end Mp
namespace Mi
open PySem
@[simp] theorem okR_inj{α:Type}{a b:α}:okR a=okR b↔a=b:=⟨fun h=>by cases h;rfl,fun h=>by rw[h]⟩
@[simp] theorem x_sFor(vs:List Nat)(it:IM)(tg:Tg)(b:SM)(r:Ro):sFor vs it tg b r=zA2 (it (frz (frzAt vs r))) fun ds=>forGo tg b ds (frzAt vs r):=rfl
@[simp] theorem zEB(it:IM)(i:Nat)(b:SM)(r:Ro):sForR it i b r=zA2 (it (full r)) fun ds=>forGo (.one i) b ds r:=rfl
@[simp] theorem x_iSq(e:EM)(ρ:Rh):iSq e ρ=zA2 (e ρ) fun d=>match d with | .lst xs=>okR xs | .tup xs=>okR xs | .scr ns=>okR (ns.map .int) | .str z=>okR (signsD z)|_=>none:=rfl
@[simp] theorem x_iEn(e:AM)(ρ:Rh):iEn e ρ=zA2 (e ρ) fun vs=>match vs with|[.lst xs]=>okR (enumD 0 xs)|_=>none:=rfl
@[simp] theorem x_iZi(e:AM)(ρ:Rh):iZi e ρ=zA2 (e ρ) fun vs=>match vs with|[.lst xs,.lst ys]=>okR (zipD xs ys)|_=>none:=rfl
theorem zGE{e:AM}{ρ:Rh}{n:Nat}(h:e ρ=okR [.int n])(hn:n<=100000):iR1 e ρ=okR (nums 0 n):=by
 unfold iR1;rw[h,bindR_ok];dsimp only;rw[if_pos (by lia)];simp
theorem zKF(n:Nat):nums 0 n=((qA9 n).map fun i:Nat=>(i:Int)).map Dt.int:=by
 unfold nums;rw[qAq];exact qAt fun i _=>by simp
theorem zCJ(n:Nat):nums 0 n=(qA9 n).map fun i:Nat=>Dt.int (i:Int):=by
 unfold nums;exact qAt fun i _=>by simp
theorem zKR{α β:Type}{j:Nat}{b:SM}(en:β->Dt)(Enc:α->Ro->Prop)(f:α->β->α):∀(ns:List β)(a:α)(r:Ro),Enc a r->(∀n∈ns,∀a r,Enc a r->∃r',b (r.set j (some (en n,0)))=okR (.nx r')/\Enc (f a n) r')->∃r',forGo (.one j) b (ns.map en) r=okR (.nx r')/\Enc (ns.foldl f a) r'
 |[],a,r,h,_=>⟨r,by simp[forGo],h⟩
 |d::ds,a,r,h,hs=>by
  obtain⟨r1,h2,h3⟩:=hs d (by simp) a r h;obtain⟨r2,h4,h5⟩:=zKR en Enc f ds (f a d) r1 h3 fun e he=>hs e (by simp[he])
  refine⟨r2,?_,h5⟩;rw[qAg,forGo];show zA2 (b (zAQ r [(j,en d)])) _=_;show zA2 (b (r.set j (some (en d,0)))) _=_;rw[h2,bindR_ok];exact h4
def nxR(x:R Out)(P:Ro->Prop):Prop:=match x with
 |some (.ok (.nx r))=>P r
 |_=>False
@[simp] theorem x_nxR(r:Ro)(P:Ro->Prop):nxR (okR (.nx r)) P=P r:=rfl
theorem zD0{x:R Out}{P:Ro->Prop}(h:nxR x P):∃r',x=okR (.nx r')/\P r':=by
 unfold nxR at h
 split at h
 ·exact⟨_,rfl,h⟩
 ·exact h.elim
theorem zB0{x:R Out}{P:Ro->Prop}{r:Ro}(h:x=okR (.nx r))(hp:P r):nxR x P:=by rw[h];exact hp
theorem zbW{i n:Nat}{e:EM}{r:Ro}{ds:List Dt}{k:Nat}{d:Dt}(h:r[i]?=some (some (.lst ds,k+1)))(he:e (full r)=okR d)(h1:ds.length<=100000)(h2:d.dep<=n)(h3:d.dep<=k):sApp i n e r=okR (.nx (r.set i (some (.lst (ds++[d]),k+1)))):=by
 unfold sApp;rw[h];dsimp only;rw[he,bindR_ok,if_pos ⟨h1,h2,h3⟩]
theorem zOY{i j:Int}(h:-18446744073709551616<i)(h':i<18446744073709551616):mulD (.int i) (.int j)=some (.int (i*j)):=by
 rw[zYX,if_pos (.inl (.inl ⟨h,h'⟩))]
theorem zQS{i j:Int}(h:-18446744073709551616<j)(h':j<18446744073709551616):mulD (.int i) (.int j)=some (.int (i*j)):=by
 rw[zYX,if_pos (.inl (.inr ⟨h,h'⟩))]
theorem zFI{ρ:Rh}{c:TM}{e:EM}{i:Nat}(g:Nat->Dt)(n:Nat)(hc:c=tYes)(hi:i=ρ.length)(h:∀k,k<n->e (ρ++[some (.int (k:Nat))])=okR (g k))(it:IM)(hit:it ρ=okR (nums 0 n))(hn:n<=100000):eComp it 1 (.one i) c e ρ=okR (.lst ((qA9 n).map g)):=by
 subst hc hi;unfold eComp;rw[hit,bindR_ok,if_pos ⟨by simpa[nums]using hn,by simp[Tg.idx]⟩];rw[zGA (fun d=>match d with | .int k=>g k.toNat|_=>.non) _ [] fun d hd=>?_]
 ·rw[bindR_ok,zCJ,qAq];simp only[qC4]
  congr 2
 ·rw[zCJ]at hd;obtain⟨k,hk,rfl⟩:=qAb.mp hd;refine⟨_,rfl,rfl,?_⟩
  have:zAK (ρ++qA4 1 none) [(ρ.length,Dt.int (k:Int))]=ρ++[some (.int (k:Nat))]:=by
   simp[zAK]
  rw[this]
  simpa using h k (by simpa using hk)
theorem zC6{ρ:Rh}{c:TM}{e:EM}{i:Nat}{β:Type}(en:β->Dt)(g:β->Dt)(ns:List β)(hc:c=tYes)(hi:i=ρ.length)(h:∀k,k∈ns->e (ρ++[some (en k)])=okR (g k))(it:IM)(hit:it ρ=okR (ns.map en))(hn:ns.length<=100000):eComp it 1 (.one i) c e ρ=okR (.lst (ns.map g)):=by
 subst hc hi;unfold eComp;rw[hit,bindR_ok,if_pos ⟨by simpa using hn,by simp[Tg.idx]⟩]
 have:∀(ns:List β)(acc:List Dt),(∀k,k∈ns->e (ρ++[some (en k)])=okR (g k))->compGo ρ 1 (.one ρ.length) tYes e (ns.map en) acc=okR (acc++ns.map g):=by
  intro ns
  induction ns with
  |nil=>intro acc _;simp[compGo]
  |cons d r ih=>
   intro acc h;rw[qAg,compGo];have e1:zAK (ρ++qA4 1 none) [(ρ.length,en d)]=ρ++[some (en d)]:=by simp[zAK]
   show zA2 (tYes _) _=_;simp only[zYU,bindR_ok,if_true];show zA2 (e (zAK (ρ++qA4 1 none) [(ρ.length,en d)])) _=_;rw[e1,h d (by simp),bindR_ok,ih _ fun k hk=>h k (by simp[hk])];simp
 rw[this ns [] h,bindR_ok];simp
theorem zCO{a b:SM}{r:Ro}{X:R Out}(h:∀bb:SM,bb=b->nxR (a r) fun r1=>bb r1=X):sSeq a b r=X:=by
 obtain⟨r1,h1,h2⟩:=zD0 (h b rfl);unfold sSeq;rw[h1,bindR_ok];exact h2
theorem zDD{a b:SM}{r:Ro}{P:Ro->Prop}(h:∀bb:SM,bb=b->nxR (a r) fun r1=>nxR (bb r1) P):nxR (sSeq a b r) P:=by
 obtain⟨r1,h1,h2⟩:=zD0 (h b rfl);unfold sSeq;rw[h1,bindR_ok];exact h2
theorem zC2{P n:Nat}{b:SM}{ds:List Dt}{d:Dt}(h:ds.length=P)(hb:b (startO n ds)=okR (.rt d)):runF P n b ds=okR d:=by
 unfold runF;rw[if_pos h,hb];rfl
theorem zLU{j n:Nat}{b:SM}{r:Ro}{X:Ro->Prop}(Pv:Nat->Ro->Prop)(h:Pv 0 r)(hs:∀k,k<n->∀r,Pv k r->nxR (b (r.set j (some (.int (k:Nat),0)))) (Pv (k+1)))(hK:∀r',Pv n r'->X r'):nxR (forGo (.one j) b (nums 0 n) r) X:=by
 obtain⟨r',h1,h2⟩:∃r',forGo (.one j) b (nums 0 n) r=okR (.nx r')/\Pv n r':=by
  obtain⟨r',h1,h2⟩:=zEH (tg:=.one j) (b:=b) Pv (nums 0 n) 0 r h fun k d r hd hp=>by
   rw[zCJ,qAf]at hd;cases e:(qA9 n)[k]? with
   |none=>rw[e]at hd;cases hd
   |some q=>
    rw[e]at hd;cases hd;obtain⟨h1,h2⟩:=qA2.mp e;rw[qC0]at h2;subst h2;rw[qBj]at hp;obtain⟨r',g1,g2⟩:=zD0 (hs k (by simpa using h1) r hp);exact⟨_,r',rfl,g1,by rw[qBj];exact g2⟩
  exact⟨r',h1,by simpa[nums]using h2⟩
 rw[h1];exact hK r' h2
theorem zXO{γ:Type}{j:Nat}{b:SM}{r:Ro}{X:Ro->Prop}(en:γ->Dt)(ns:List γ)(Pv:Nat->Ro->Prop)(h:Pv 0 r)(hs:∀k x,ns[k]?=some x->∀r,Pv k r->nxR (b (r.set j (some (en x,0)))) (Pv (k+1)))(hK:∀r',Pv ns.length r'->X r'):nxR (forGo (.one j) b (ns.map en) r) X:=by
 obtain⟨r',h1,h2⟩:=zEH (tg:=.one j) (b:=b) Pv (ns.map en) 0 r h fun k d r hd hp=>by
  rw[qAf]at hd;cases e:ns[k]? with
  |none=>rw[e]at hd;cases hd
  |some q=>
   rw[e]at hd;cases hd;rw[qBj]at hp;obtain⟨r',g1,g2⟩:=zD0 (hs k q e r hp);exact⟨_,r',rfl,g1,by rw[qBj];exact g2⟩
 rw[h1];exact hK r' (by simpa using h2)
theorem zXN{α γ:Type}{j:Nat}{b:SM}{r:Ro}{X:Ro->Prop}(en:γ->Dt)(ns:List γ)(Enc:α->Ro->Prop)(f:α->γ->α)(a:α)(h:Enc a r)(hs:∀n∈ns,∀a r,Enc a r->nxR (b (r.set j (some (en n,0)))) (Enc (f a n)))(hK:∀r',Enc (ns.foldl f a) r'->X r'):nxR (forGo (.one j) b (ns.map en) r) X:=by
 obtain⟨r',h1,h2⟩:=zKR en Enc f ns a r h fun n hn a r hr=>zD0 (hs n hn a r hr)
 rw[h1];exact hK r' h2
theorem zKH:∀(a b:List Char),a.map qHt=b.map qHt->a=b
 |[],[],_=>rfl
 |[],_::_,h=>by simp at h
 |_::_,[],h=>by simp at h
 |x::r,y::q,h=>by
  simp only[qAg,qGd]at h;rw[zKH r q h.2]
  have:x=y:=Char.toNat_inj.mp h.1
  rw[this]
@[simp] theorem str_inj(a b:String):(qJa a=qJa b)↔a=b:=by
 constructor
 ·intro h;rw[qK9,qK9]at h;simp only[Str.mk.injEq,List.toArray_inj]at h
  have:=zKH _ _ (by simpa using h)
  exact String.toList_inj.mp this
 ·intro h;rw[h]
theorem zNV:∀(ds:List Dt)(n i:Nat)(d:Dt),(enumD n ds)[i]?=some d->∃e,ds[i]?=some e/\d=.tup [.int ((n+i:Nat):Int),e]
 |[],_,_,_,h=>by simp[enumD]at h
 |x::r,n,0,d,h=>by simp[enumD]at h;exact⟨x,by simp,by rw[<- h];rfl⟩
 |x::r,n,i+1,d,h=>by
  rw[enumD]at h;obtain⟨e,h1,h2⟩:=zNV r (n+1) i d (by simpa using h);exact⟨e,by simpa using h1,by rw[h2,show n+1+i=n+(i+1) by lia]⟩
theorem zJB:∀(ds:List Dt)(n:Nat),(enumD n ds).length=ds.length
 |[],_=>rfl
 |_::r,n=>by rw[enumD,qAx,qAx,zJB r]
theorem zQO{a b:Nat}{s:SM}{r:Ro}{X:Ro->Prop}(xs:List Dt)(Pv:Nat->Ro->Prop)(h:Pv 0 r)(hs:∀k x,xs[k]?=some x->∀r,Pv k r->nxR (s ((r.set a (some (.int (k:Nat),0))).set b (some (x,0)))) (Pv (k+1)))(hK:∀r',Pv xs.length r'->X r'):nxR (forGo (.tup [a,b]) s (enumD 0 xs) r) X:=by
 obtain⟨r',h1,h2⟩:=zEH (tg:=.tup [a,b]) (b:=s) Pv (enumD 0 xs) 0 r h fun k d r hd hp=>by
  obtain⟨e,g1,rfl⟩:=zNV xs 0 k d hd;rw[qBj]at hp;obtain⟨r',g2,g3⟩:=zD0 (hs k e g1 r hp);refine⟨_,r',rfl,?_,by rw[qBj];exact g3⟩;rw[qBj];exact g2
 rw[h1];exact hK r' (by simpa[zJB]using h2)
section
variable(ρ:Rh)(a:EM)(am:AM)(lo hi:OM)
@[simp] theorem zbV:eSl a lo hi ρ=zA2 (a ρ) fun x=>zA2 (lo ρ) fun l=>zA2 (hi ρ) fun h=>optR (slD x l h):=rfl
@[simp] theorem zbU:oNo ρ=okR none:=rfl
@[simp] theorem x_oE:oE a ρ=zA2 (a ρ) fun d=>match d with | .int i=>okR (some i)|_=>none:=rfl
@[simp] theorem x_eMt(f:Dt->List Dt->Option Dt):eMt f a am ρ=zA2 (a ρ) fun x=>if zRA x=true then zA2 (am ρ) fun xs=>optR (f x xs)else none:=rfl
@[simp] theorem v_isStr(z:Str):zRA (.str z)=true:=rfl
end
@[simp] theorem v_slL(xs:List Dt)(l h:Option Int):slD (.lst xs) l h=some (.lst (cutA xs l h)):=rfl
@[simp] theorem v_slS(z:Str)(l h:Option Int):slD (.str z) l h=@ite _ (z.length<=100000) (qA3 _) (some (.str ⟨(cutA z.cps.toList l h).toArray⟩)) none:=rfl
@[simp] theorem v_ixSt(z:Str)(i:Int):ixD (.str z) (.int i)=@ite _ (z.length<=100000) (qA3 _) ((itA z.cps.toList i).map fun c=>.str ⟨#[c]⟩) none:=rfl
@[simp] theorem v_lenSt(z:Str):lenD [.str z]=@ite _ (z.length<=100000) (qA3 _) (some (.int z.length)) none:=rfl
@[simp] theorem v_count1(z:Str)(c:Nat):zWA (.str z) [.str ⟨#[c]⟩]=some (.int (z.cps.toList.count c:Nat)):=rfl
@[simp] theorem v_in1(ng:Bool)(z:Str)(c:Nat):inD ng (.str ⟨#[c]⟩) (.str z)=some (.bl (if ng=true then !decide (c∈z.cps.toList)else decide (c∈z.cps.toList))):=rfl
@[simp] theorem v_find1(z:Str)(c:Nat):zb1 (.str z) [.str ⟨#[c]⟩]=some (.int (match posC c z.cps.toList with|some i=>(i:Int)|none=>-1)):=rfl
theorem zUM{α:Type}(xs:List α)(k:Nat):cutA xs (some (k:Int)) none=xs.drop k:=by
 unfold cutA cutIx;dsimp only;rw[if_neg (by lia)]
 by_cases h:k<=xs.length
 ·rw[show min (k:Int).toNat xs.length=k by lia];exact qEu (by simp)
 ·rw[show min (k:Int).toNat xs.length=xs.length by lia];simp
  lia
theorem zWR(a b:Str):(a++b).cps.toList=a.cps.toList++b.cps.toList:=by
 show(Str.mk (a.cps++b.cps)).cps.toList=_
 simp
theorem zY0(z:Str):z.length=z.cps.toList.length:=by
 unfold Str.length;simp
theorem zR0(l:List Nat):(Str.mk l.toArray).length=l.length:=by rw[zY0]
end Mi
namespace Mp
open Mi PySem
theorem sg{i n:Nat}{vs:List Nat}{e:EM}{b:SM}{r:Ro}{d:Dt}{X:R Out}(he:e (full r)=okR d)(hd:d.dep<=n)(h:b (r.set i (some (d,n)))=X):sSeq (sSet i n vs e) b r=X:=by
 rw[zE1,zJS,he,bindR_ok,if_pos hd,bindR_ok];exact h
theorem sgf{i n:Nat}{vs:List Nat}{e:EM}{b:SM}{r:Ro}{d:Dt}{X:R Out}(he:e (full r)=okR d)(hd:¬d.dep<=n)(he2:e (frz (frzAt vs r))=okR d)(h:b ((frzAt vs r).set i (some (d,n)))=X):sSeq (sSet i n vs e) b r=X:=by
 rw[zE1,zJS,he,bindR_ok,if_neg hd,he2,bindR_ok,bindR_ok];exact h
theorem sp{c:TM}{a b:SM}{r:Ro}{X:R Out}(hc:c (full r)=okR false)(h:b r=X):sSeq (sIf c a sNil) b r=X:=by
 rw[zE1,zEK,hc,bindR_ok,if_neg (by simp),zPH,bindR_ok];exact h
theorem st{c:TM}{a b:SM}{r r':Ro}{X:R Out}(hc:c (full r)=okR true)(ha:a r=okR (.nx r'))(h:b r'=X):sSeq (sIf c a sNil) b r=X:=by
 rw[zE1,zEK,hc,bindR_ok,if_pos rfl,ha,bindR_ok];exact h
theorem c2{m:FM}{e1 e2:EM}{ρ:Rh}{d1 d2:Dt}{X:R Dt}(h1:e1 ρ=okR d1)(h2:e2 ρ=okR d2)(h:m [d1,d2]=X):eCall m (aCons e1 (aCons e2 aNil)) ρ=X:=by
 simp only[zLL,zC0,zE2,h1,h2,bindR_ok];exact h
theorem c1{m:FM}{e1:EM}{ρ:Rh}{d1:Dt}{X:R Dt}(h1:e1 ρ=okR d1)(h:m [d1]=X):eCall m (aCons e1 aNil) ρ=X:=by
 simp only[zLL,zC0,zE2,h1,bindR_ok];exact h
theorem b2{o:Dt->Dt->Option Dt}{e1 e2:EM}{ρ:Rh}{d1 d2 d:Dt}(h1:e1 ρ=okR d1)(h2:e2 ρ=okR d2)(h:o d1 d2=some d):eB o e1 e2 ρ=okR d:=by
 rw[x_eB,h1,bindR_ok,h2,bindR_ok,h];rfl
theorem bi1{o:List Dt->Option Dt}{e1:EM}{ρ:Rh}{d1 d:Dt}(h1:e1 ρ=okR d1)(h:o [d1]=some d):eBi o (aCons e1 aNil) ρ=okR d:=by
 simp only[zYW,zC0,zE2,h1,bindR_ok,h];rfl
theorem el2{e1 e2:EM}{ρ:Rh}{d1 d2:Dt}(h1:e1 ρ=okR d1)(h2:e2 ρ=okR d2):eLst (aCons e1 (aCons e2 aNil)) ρ=okR (.lst [d1,d2]):=by simp[h1,h2]
theorem el1{e1:EM}{ρ:Rh}{d1:Dt}(h1:e1 ρ=okR d1):eLst (aCons e1 aNil) ρ=okR (.lst [d1]):=by simp[h1]
theorem tb1{e:EM}{ρ:Rh}{k:Bool}(h:e ρ=okR (.bl k)):tB e ρ=okR k:=by rw[x_tB,h,bindR_ok]
theorem tm1{e:EM}{ρ:Rh}{k:Bool}(h:e ρ=okR (.bl k)):tM e ρ=okR k:=by rw[x_tM,h,bindR_ok]
theorem tn1{t:TM}{ρ:Rh}{k:Bool}(h:t ρ=okR k):tNo t ρ=okR (!k):=by rw[zbT,h,bindR_ok]
theorem to0{t t':TM}{ρ:Rh}{k:Bool}(h:t ρ=okR false)(h':t' ρ=okR k):Mi.tOr t t' ρ=okR k:=by rw[zYV,h,bindR_ok,if_neg (by simp),h']
theorem to1{t t':TM}{ρ:Rh}(h:t ρ=okR true):Mi.tOr t t' ρ=okR true:=by rw[zYV,h,bindR_ok,if_pos rfl]
theorem ss{i n:Nat}{vs:List Nat}{e:EM}{r:Ro}{d:Dt}(he:e (full r)=okR d)(hd:d.dep<=n):sSet i n vs e r=okR (.nx (r.set i (some (d,n)))):=by
 rw[zJS,he,bindR_ok,if_pos hd]
theorem sr{L n:Nat}{vs:List Nat}{e:EM}{r:Ro}{d:Dt}(he:e (full r)=okR d)(hd:d.dep<=n/\d.dep<=L):sRet L n vs e r=okR (.rt d):=by
 rw[zUS,he,bindR_ok,if_pos hd]
theorem tl{k k':Bool}{x:Option Dt}(h:x=some (.bl k))(e:k=k'):x=some (.bl k'):=e▸h
theorem bi2{o:List Dt->Option Dt}{e1 e2:EM}{ρ:Rh}{d1 d2 d:Dt}(h1:e1 ρ=okR d1)(h2:e2 ρ=okR d2)(h:o [d1,d2]=some d):eBi o (aCons e1 (aCons e2 aNil)) ρ=okR d:=by
 simp only[zYW,zC0,zE2,h1,h2,bindR_ok,h];rfl
theorem sl1{a b:EM}{ρ:Rh}{x d:Dt}{i:Int}(h1:a ρ=okR x)(h2:b ρ=okR (.int i))(h:slD x (some i) none=some d):eSl a (oE b) oNo ρ=okR d:=by
 rw[zbV,h1,bindR_ok,x_oE,h2,bindR_ok,bindR_ok,zbU,bindR_ok,h];rfl
theorem sf{c:TM}{a:SM}{r:Ro}(hc:c (full r)=okR false):sIf c a sNil r=okR (.nx r):=by
 rw[zEK,hc,bindR_ok,if_neg (by simp),zPH]
theorem nei{e1 e2:EM}{ρ:Rh}{a b:Int}{k:Bool}(h1:e1 ρ=okR (.int a))(h2:e2 ρ=okR (.int b))(h:(!decide (a=b))=k):tB (eB neD e1 e2) ρ=okR k:=by
 refine tb1 (b2 h1 h2 ?_);rw[<- h];simp[Dt.eq];rfl
theorem mdi{i j k:Int}(h:0<j)(e:i%j=k):modD (.int i) (.int j)=some (.int k):=by rw[<- e];exact if_pos h
theorem dvi{i j:Int}(h:0<j/\j<1000000000000000000000000):divD (.int i) (.int j)=some (.int (i/j)):=@if_pos _ (qA3 _) h _ _ _
theorem c3{m:FM}{e1 e2 e3:EM}{ρ:Rh}{d1 d2 d3:Dt}{X:R Dt}(h1:e1 ρ=okR d1)(h2:e2 ρ=okR d2)(h3:e3 ρ=okR d3)(h:m [d1,d2,d3]=X):eCall m (aCons e1 (aCons e2 (aCons e3 aNil))) ρ=X:=by
 simp only[zLL,zC0,zE2,h1,h2,h3,bindR_ok];exact h
theorem ned{e1 e2:EM}{ρ:Rh}{x y:Dt}{b k:Bool}(h1:e1 ρ=okR x)(h2:e2 ρ=okR y)(d1:x.dep<=40)(d2:y.dep<=40)(h:Dt.eq x y=b)(hk:(!b)=k):tB (eB neD e1 e2) ρ=okR k:=by
 refine tb1 (b2 h1 h2 ?_);unfold neD;rw[if_pos ⟨d1,d2⟩,h,hk]
theorem an1{e1 e2:EM}{ρ:Rh}{a b:Bool}(h1:e1 ρ=okR (.bl a))(h2:e2 ρ=okR (.bl b)):eAnd e1 e2 ρ=okR (.bl (a&&b)):=by cases a<;>simp[h1,h2]
theorem el0{ρ:Rh}:eLst aNil ρ=okR (.lst []):=by simp
theorem sw{s t:SM}{r r':Ro}{X:R Out}(h:s r=okR (.nx r'))(h2:t r'=X):sSeq s t r=X:=by rw[zE1,h,bindR_ok];exact h2
theorem if1{c:TM}{a b:EM}{ρ:Rh}{X:R Dt}(hc:c ρ=okR true)(h:a ρ=X):eIf c a b ρ=X:=by unfold eIf;rw[hc,bindR_ok,if_pos rfl];exact h
theorem if0{c:TM}{a b:EM}{ρ:Rh}{X:R Dt}(hc:c ρ=okR false)(h:b ρ=X):eIf c a b ρ=X:=by unfold eIf;rw[hc,bindR_ok,if_neg qAa];exact h
theorem nif1{c:TM}{a b:SM}{r:Ro}{P:Ro->Prop}(hc:c (full r)=okR true)(h:nxR (a r) P):nxR (sIf c a b r) P:=by rw[zEK,hc,bindR_ok,if_pos rfl];exact h
theorem nif0{c:TM}{a b:SM}{r:Ro}{P:Ro->Prop}(hc:c (full r)=okR false)(h:nxR (b r) P):nxR (sIf c a b r) P:=by rw[zEK,hc,bindR_ok,if_neg qAa];exact h
theorem nsw{s t:SM}{r r':Ro}{P:Ro->Prop}(h:s r=okR (.nx r'))(h2:nxR (t r') P):nxR (sSeq s t r) P:=by rw[zE1,h,bindR_ok];exact h2
theorem v1{i:Nat}{ρ:Rh}{d:Dt}(h:ρ[i]?=some (some d)):eV i ρ=okR d:=by rw[x_eV,h]
theorem al0{e:EM}{ρ:Rh}{d:Dt}(h:e ρ=okR d):aCons e aNil ρ=okR [d]:=by rw[zC0,h];rfl
theorem adi{a b c:Int}(h:a+b=c):addD (.int a) (.int b)=some (.int c):=by rw[<- h];rfl
theorem k1{d d':Dt}{ρ:Rh}(h:d=d'):eC d ρ=okR d':=by rw[<- h];rfl
theorem cmi{p:Int->Int->Bool}{a b:Int}{k:Bool}(h:p a b=k):cmpD p (.int a) (.int b)=some (.bl k):=by rw[<- h];rfl
noncomputable def rowD(r:List Int):Dt:=.lst (r.map .int)
def mat(A:List (List Int)):Dt:=.lst (A.map rowD)
noncomputable def tab(n:Nat)(f:Nat->Nat->Int):List (List Int):=(qA9 n).map fun i=>(qA9 n).map fun j=>f i j
def Bits(n:Nat)(f:Nat->Nat->Int):Prop:=∀i j,i<n->j<n->f i j=0\/f i j=1
def Sym(n:Nat)(f:Nat->Nat->Int):Prop:=∀i j,i<n->j<n->f i j=f j i
@[simp] theorem zC1(r:List Int):(rowD r).dep=1:=by simp[rowD]
theorem ixR{n:Nat}{g:Nat->Int}{j:Nat}(h:j<n):ixD (rowD ((qA9 n).map g)) (.int (j:Int))=some (.int (g j)):=by
 refine zH1 rfl ?_;simp[h]
@[simp] theorem lenR(r:List Int):lenD [rowD r]=some (.int r.length):=by
 show some (Dt.int ((r.map Dt.int).length:Int))=_;rw[qAm]
@[simp] theorem listR(r:List Int):listD [rowD r]=some (rowD r):=rfl
@[simp] theorem lenM(A:List (List Int)):lenD [mat A]=some (.int A.length):=by
 show some (Dt.int ((A.map rowD).length:Int))=_;rw[qAm]
theorem zHA:∀A:List (List Int),Dt.depL (A.map rowD)<=1
 |[]=>by simp
 |r::A=>by
  have:=zHA A
  rw[qAg,zGG,zC1]
  lia
theorem zDP(A:List (List Int)):(mat A).dep<=2:=by
 have:=zHA A
 unfold mat;rw[v_dl]
 lia
theorem zNU:∀A B:List (List Int),Dt.eqL (A.map rowD) (B.map rowD)=decide (A=B)
 |[],[]=>by simp[Dt.eqL]
 |[],_::_=>by simp[Dt.eqL]
 |_::_,[]=>by simp[Dt.eqL]
 |r::A,q::B=>by
  rw[qAg,qAg,Dt.eqL,zNU A B];unfold rowD;rw[v_e4,zEY];simp
theorem zb3(A B:List (List Int)):Dt.eq (mat A) (mat B)=decide (A=B):=by
 unfold mat;rw[v_e4,zNU]
theorem zFB(n:Nat)(f:Nat->Nat->Int):(tab n f).length=n:=by simp[tab]
theorem zFA{n:Nat}{f:Nat->Nat->Int}{i:Nat}(h:i<n):(tab n f)[i]?=some ((qA9 n).map fun j=>f i j):=by
 simp[tab,h]
theorem zaP{n:Nat}{f:Nat->Nat->Int}{i:Nat}(h:i<n):itA ((tab n f).map rowD) (i:Int)=some (rowD ((qA9 n).map fun j=>f i j)):=by
 refine zH1 rfl ?_;rw[qAf,zFA h];rfl
theorem ixM{n:Nat}{f:Nat->Nat->Int}{i:Nat}(h:i<n):ixD (mat (tab n f)) (.int (i:Int))=some (rowD ((qA9 n).map fun j=>f i j)):=zaP h
theorem zb2(a b:List Int):Dt.eq (rowD a) (rowD b)=decide (a=b):=by
 unfold rowD;rw[v_e4,zEY]
theorem zO6{ρ:Rh}{e:EM}{it:IM}{i n:Nat}(g:Nat->Int)(hi:i=ρ.length)(hn:n<=1000)(h1:it ρ=okR (nums 0 n))(h:∀a,a<n->e (ρ++[some (.int (a:Nat))])=okR (.int (g a))):eComp it 1 (.one i) tYes e ρ=okR (rowD ((qA9 n).map g)):=by
 rw[zFI (fun b=>.int (g b)) n rfl hi (fun b hb=>h b hb) it h1 (by lia)];unfold rowD;rw[qAq];rfl
theorem zKQ{r:Ro}{i m n:Nat}{l:Nat}{f:Nat->Nat->Int}{a b:Nat}{v:Int}{e0 e1 e2:EM}(h:r[i]?=some (some (mat (tab n f),l+2)))(h0:e0 (full r)=okR (.int (a:Nat)))(h1:e1 (full r)=okR (.int (b:Nat)))(h2:e2 (full r)=okR (.int v))(ha:a<n)(hb:b<n) :
  sItem2 i m e0 e1 e2 r=okR (.nx (r.set i (some (mat (tab n fun x y=>if x=a/\y=b then v else f x y),l+2)))):=by
 have g1:((tab n f).map rowD)[a]?=some (.lst (((qA9 n).map fun j=>f a j).map .int)):=by
  rw[qAf,zFA ha];rfl
 unfold sItem2;rw[h2,bindR_ok,h];show zA2 (e0 (full r)) _=_;rw[h0,bindR_ok];dsimp only;rw[zH0 (by lia) (by simp[tab];lia)];dsimp only;rw[qBa,g1];dsimp only;rw[h1,bindR_ok];dsimp only;rw[zH0 (by lia) (by simp;lia)];dsimp only;rw[if_pos ⟨qAs _,qAs _⟩,qBa]
 congr 5
 unfold mat
 congr 1
 apply qFv
 intro x;rw[qD5]
 by_cases hx:a=x
 ·subst hx;rw[if_pos rfl,if_pos (by simp[tab];lia),qAf,zFA ha];show some _=some _
  congr 1
  unfold rowD
  congr 1
  apply qFv
  intro y;rw[qD5]
  by_cases hy:b=y
  ·subst hy;simp[hb]
  ·rw[if_neg hy]
   by_cases hyn:y<n
   ·simp[hyn,show ¬y=b from fun z=>hy z.symm]
   ·simp[hyn]
 ·rw[if_neg hx,qAf,qAf]
  by_cases hxn:x<n
  ·rw[zFA hxn,zFA hxn];simp[show ¬x=a from fun z=>hx z.symm]
  ·have:(tab n f)[x]?=none:=by simp[tab];lia
   have h':(tab n fun x y=>if x=a/\y=b then v else f x y)[x]?=none:=by simp[tab];lia
   rw[this,h']
def Bit(x:Int):Prop:=x=0\/x=1
def RowN(n:Nat)(r:List Int):Prop:=r.length=n/\∀x∈r,Bit x
theorem zMY{n:Nat}{f:Nat->Nat->Int}(hb:Bits n f):∀r∈tab n f,r.length=n/\∀x∈r,Bit x:=by
 intro r hr;unfold tab at hr;obtain⟨i,hi,rfl⟩:=qAb.mp hr;refine⟨by simp,fun x hx=>?_⟩;obtain⟨j,hj,rfl⟩:=qAb.mp hx;exact hb i j (by simpa using hi) (by simpa using hj)
theorem zJ4(r:List Int)(i:Nat)(h:i<r.length):ixD (rowD r) (.int (i:Int))=some (.int (r.getD i 0)):=by
 have:=zJ5 (ns:=r) (i:=(i:Int)) (by lia) (by lia)
 rw[qBa]at this;exact this
theorem zcR(A:List (List Int))(i:Nat)(h:i<A.length):ixD (mat A) (.int (i:Int))=some (rowD (A.getD i [])):=by
 refine zH1 rfl ?_;rw[qAf,qA5 h,qA0,qA5 h];rfl
theorem addR(a b:List Int)(h:a.length+b.length<=100000):addD (rowD a) (rowD b)=some (rowD (a++b)):=by
 show(@ite _ ((a.map Dt.int).length+(b.map Dt.int).length<=100000) (qA3 _) (some (Dt.lst (a.map Dt.int++b.map Dt.int))) none)=_
 rw[if_pos (by simpa using h)];unfold rowD;simp
theorem zWH{a b:Int}(ha:Bit a)(hb:Bit b):qIw a b=(a+b)%2:=by
 rcases ha with rfl|rfl<;>rcases hb with rfl|rfl<;>decide
noncomputable def sumN(n:Nat)(f:Nat->Int):Int:=((qA9 n).map f).sum
theorem zXW(n:Nat)(f:Nat->Nat->Int):mat (tab n f)=.lst ((qA9 n).map fun i=>rowD ((qA9 n).map fun j=>f i j)):=by
 unfold mat tab;rw[qAq];rfl
theorem zcU{ds:List Dt}(h:∀d∈ds,d.dep=0):Dt.depL ds=0:=by
 induction ds with
 |nil=>simp
 |cons a r ih=>rw[zGG,h a (by simp),ih fun d hd=>h d (by simp[hd])];rfl
noncomputable def sgn(c:Nat):Dt:=.str ⟨#[c]⟩
theorem zUA(cs:List Nat):∀d∈cs.map sgn,d.dep=0:=by
 intro d hd;obtain⟨c,_,rfl⟩:=qAb.mp hd;rfl
@[simp] theorem depL_sgn(cs:List Nat):Dt.depL (cs.map sgn)=0:=zcU (zUA cs)
theorem zN4(n:Nat)(hn:n<=10000):repD (.lst [.int 0]) (.int (n:Int))=some (rowD (qA4 n 0)):=by
 rw[zbX,if_pos (by simp;lia)]
 have:∀m:Nat,(qA4 m [Dt.int 0]).flatten=qA4 m (Dt.int 0):=by
  intro m
  induction m with
  |zero=>rfl
  |succ m ih=>rw[qBi,qBq,ih];rfl
 rw[qBa,this];unfold rowD;rw[List.map_replicate]
def lawS(row:List Nat)(k:Nat):List (Nat×Int):=((qA9 k).map fun k=>tieP row ((k+1)%row.length)).flatten
def zd1(ls row:List Nat):Prop:=∀x∈row,∀y∈row,ls.getD x 0=ls.getD y 0->x=y
theorem zTT{cs:List Nat}(h:cs.length<=1000):lenD [.str ⟨cs.toArray⟩]=some (.int (cs.length:Int)):=by
 have:=zR0 cs
 simp[lenD,this]
 try lia
noncomputable def addB:List Int->List Int->List Int
 |a::r,b::s=>(a+b)%2::addB r s
 |_,_=>[]
noncomputable def dot:List Int->List Int->Int
 |a::r,b::x=>a*b+dot r x
 |_,_=>0
theorem zSF(x:Int):Bit (x%2):=by show _%2=0\/_%2=1;lia
theorem zJR:∀(a b:List Int),a.length=b.length->(addB a b).length=a.length
 |[],[],_=>rfl
 |a::r,b::s,h=>by simp[addB,zJR r s (by simpa using h)]
 |[],_::_,h=>by simp at h
 |_::_,[],h=>by simp at h
theorem zOF:∀(a b:List Int),∀x∈addB a b,Bit x
 |[],_,x,h=>by simp[addB]at h
 |_::_,[],x,h=>by simp[addB]at h
 |a::r,b::s,x,h=>by
  rw[addB,qA6]at h
  rcases h with rfl|h
  ·exact zSF _
  ·exact zOF r s x h
theorem zGD{m:Nat}{a b:List Int}(ha:RowN m a)(hb:RowN m b):RowN m (addB a b):=
 ⟨by rw[zJR a b (by rw[ha.1,hb.1]),ha.1],zOF a b⟩
theorem zF7:∀(a b:List Int)(k:Nat),a.length=b.length->k<a.length->(addB a b).getD k 0=(a.getD k 0+b.getD k 0)%2
 |[],_,k,_,h=>by simp at h
 |_::_,[],k,h,_=>by simp at h
 |a::r,b::s,0,_,_=>rfl
 |a::r,b::s,k+1,h,hk=>by
  have:=zF7 r s k (by simpa using h) (by simpa using hk)
  simpa[addB]using this
theorem zJE:∀(a b x:List Int),a.length=b.length->(∀y∈x,Bit y)->dot (addB a b) x%2=(dot a x+dot b x)%2
 |[],[],x,_,_=>by simp[addB,dot]
 |[],_::_,x,h,_=>by simp at h
 |_::_,[],x,h,_=>by simp at h
 |a::r,b::s,[],_,_=>by simp[addB,dot]
 |a::r,b::s,c::x,h,hx=>by
  have ih:=zJE r s x (by simpa using h) fun y hy=>hx y (by simp[hy])
  simp only[addB,dot]
  rcases hx c (by simp)with rfl|rfl<;>lia
def Ker(A:List (List Int))(x:List Int):Prop:=∀r∈A,dot r x%2=0
noncomputable def ent(A:List (List Int))(i k:Nat):Int:=(A.getD i []).getD k 0
theorem getD_mem{α:Type}{l:List α}{d:α}{i:Nat}(h:i<l.length):l.getD i d∈l:=by
 rw[qA0,qA5 h];simp
theorem zU8{α:Type}{l:List α}{d a:α}{i j:Nat}(h:i<l.length):(l.set i a).getD j d=if i=j then a else l.getD j d:=by
 simp only[qA0,qD5]
 by_cases z:i=j
 ·subst z;simp[h]
 ·simp[z]
theorem zU9{α β:Type}{l:List α}{d:α}{e:β}{g:α->β}{i:Nat}(h:i<l.length):(l.map g).getD i e=g (l.getD i d):=by
 simp[qA0,qA5 h]
theorem mem_getD{α:Type}{l:List α}{d x:α}(h:x∈l):∃i,i<l.length/\l.getD i d=x:=by
 obtain⟨i,hi,rfl⟩:=qDe.mp h;exact⟨i,hi,by simp[qA0,qA5 hi]⟩
def oth(A:List (List Int))(c:Nat)(lead:List Int):List (List Int):=A.map fun r=>if r.getD c 0=1 then addB r lead else r
section
variable{A:List (List Int)}{c t m:Nat}(hm:∀r∈A,RowN m r)(ht:t<A.length)(hc:c<=t)(hl:ent A t c=1)(hcm:c<m)
include hm ht in
include hm ht hc in
include ht hc in
include hm ht hc in
end
def zd0(A:List (List Int))(c:Nat):Prop:=∀i k,i<A.length->k<c->ent A i k=if i=k then 1 else 0
theorem zDC(n:Nat)(f:Nat->Int):sumN (n+1) f=sumN n f+f n:=by
 unfold sumN;rw[qDo,qB3,List.sum_append];simp
theorem zEM{n:Nat}{f:Nat->Int}(h:∀k,k<n->f k=0):sumN n f=0:=by
 induction n with
 |zero=>rfl
 |succ n ih=>rw[zDC,ih fun k hk=>h k (by lia),h n (by lia)];rfl
theorem zOM(n:Nat)(f:Nat->Int):sumN (n+1) f=f 0+sumN n fun k=>f (k+1):=by
 induction n with
 |zero=>simp[sumN]
 |succ n ih=>rw[zDC,ih,zDC];lia
theorem zH8:∀(r x:List Int)(m:Nat),x.length<=m->dot r x=sumN m fun k=>r.getD k 0*x.getD k 0
 |[],x,m,_=>by rw[zEM fun k _=>by simp];rfl
 |a::r,[],m,_=>by rw[zEM fun k _=>by simp];rfl
 |a::r,b::x,0,h=>by simp at h
 |a::r,b::x,m+1,h=>by
  rw[dot,zH8 r x m (by simpa using h),zOM];simp
theorem zX0{n p:Nat}{x:List Int}{v:Int}(hx:RowN n x)(hv:Bit v):RowN n (x.set p v):=
 ⟨by simp[hx.1],fun y hy=>(qE4 hy).elim (hx.2 y) fun z=>z▸hv⟩
theorem zDE{n k:Nat}{x:List Int}(hx:RowN n x):Bit (x.getD k 0):=by
 by_cases h:k<x.length
 ·exact hx.2 _ (getD_mem h)
 ·left;simp[qA0,qDa (by lia:x.length<=k)]
noncomputable def zbZ(n i:Nat):List Int:=(qA9 n).map fun j=>if j=i then 1 else 0
theorem zHU{n k:Nat}{g:Nat->Int}(h:k<n):((qA9 n).map g).getD k 0=g k:=by
 simp[qA0,h]
def aug(n:Nat)(T:List (List Int)):List (List Int):=(qA9 n).map fun i=>T.getD i []++zbZ n i
structure Un(n:Nat)(T A:List (List Int))(c:Nat):Prop where
 len:A.length=n
 rows:∀r∈A,RowN (n+n) r
 unit:zd0 A c
 ker:∀x,(∀y∈x,Bit y)->(Ker A x↔Ker (aug n T) x)
theorem zW0{α β:Type}(f:α->β):∀(l:List α)(i:Nat),(l.map f).eraseIdx i=(l.eraseIdx i).map f
 |[],_=>rfl
 |a::r,0=>rfl
 |a::r,i+1=>by simp[zW0 f r i]
theorem zZ7{z:Str}{l:List Nat}(h:z.cps.toList=l):z=⟨l.toArray⟩:=by
 cases z with
 |mk a=>subst h;simp
theorem add_str{a b:List Nat}(h:a.length+b.length<=1000):addD (.str ⟨a.toArray⟩) (.str ⟨b.toArray⟩)=some (.str ⟨(a++b).toArray⟩):=by
 rw[zYY,if_pos (by rw[zR0,zR0];lia)]
 congr 2
 exact zZ7 (by rw[zWR])
end Mp
namespace Mp
noncomputable section
open Mi PySem
def zHE:SM:=(sRet 0 0 [0] (eB divD (eBi lenD (aCons (eV 0) aNil)) (eC (.int 4))))
def zB3:FM:=runF 1 1 zHE
def zLG:SM:=(sSeq (sSet 2 9 [] (eLst aNil))
 (sSeq (sForR (iR1 (aCons (eBi maxD (aCons (eV 1) (aCons (eBi minD (aCons (eC (.int 63)) (aCons (eBi lenD (aCons (eV 0) aNil)) aNil))) aNil))) aNil)) 3 (sSeq (sSet 4 0 [] (eC (.int 0)))
 (sSeq (sIf (tB (eB (cmpD fun i j=>decide (i<j)) (eV 3) (eBi lenD (aCons (eV 0) aNil)))) (sSet 4 0 [0,3] (eB modD (eB ixD (eV 0) (eV 3)) (eC (.int 1000003)))) sNil)
 (sSeq (sSet 5 0 [4,3] (eB modD (eB mulD (eB modD (eB addD (eB mulD (eB addD (eV 4) (eC (.int 1))) (eC (.int 48271))) (eB mulD (eB mulD (eV 3) (eV 3)) (eC (.int 7919)))) (eC (.int 1000000007))) (eC (.int 40692))) (eC (.int 2147483399))))
 (sApp 2 1 (eB addD (eB mulD (eV 5) (eC (.int 2147483647))) (eB modD (eB addD (eB mulD (eV 5) (eC (.int 69621))) (eV 3)) (eC (.int 2147483647)))))))))
 (sRetV 9 2)))
def zCL:FM:=runF 2 6 zLG
def zSL:SM:=(sRet 1 1 [0,1] (eComp (iR1 (aCons (eBi lenD (aCons (eV 0) aNil)) aNil)) 1 (.one 2) Mi.tYes (eB xorD (eB ixD (eV 0) (eV 2)) (eB ixD (eV 1) (eV 2)))))
def zIW:FM:=runF 2 2 zSL
def zFT:SM:=(sSeq (sSet 2 9 [] (eLst aNil))
 (sSeq (sFor [0] (iSq (eV 0)) (.one 3) (sExt 2 1 (eComp (iSq (eV 1)) 1 (.one 4) Mi.tYes (eB addD (eV 3) (eLst (aCons (eV 4) aNil))))))
 (sRetV 9 2)))
def zBY:FM:=runF 2 4 zFT
def zDS:SM:=(sSeq (sIf (tB (eB (cmpD fun i j=>decide (j<i)) (eV 0) (eC (.int 6)))) (sRaise0 "TooMany" (aCons (eC (.str "choices are told for at most six")) aNil)) sNil)
 (sSeq (sSet 2 10 [] (eLst (aCons (eLst aNil) aNil)))
 (sSeq (sForR (iR1 (aCons (eV 0) aNil)) 3 (sSet 2 9 [2,1] (eCallN zBY (aCons (eV 2) (aCons (eV 1) aNil)))))
 (sRetV 9 2))))
def zBB:FM:=runF 2 4 zDS
def zHH:SM:=(sRet 2 2 [1,0] (eComp (iSq (eV 1)) 1 (.one 2) Mi.tYes (eComp (iSq (eV 1)) 1 (.one 3) Mi.tYes (eB ixD (eB ixD (eV 0) (eV 2)) (eV 3)))))
def zD4:FM:=runF 2 2 zHH
def zEA:SM:=(sSeq (sSet 2 0 [0] (eV 0))
 (sSeq (sFor [1] (iSq (eV 1)) (.one 3) (sIf (tB (eB eqD (eB ixD (eV 2) (eMl lixD (eV 3) (aCons (eC (.int 1)) aNil))) (eC (.int 1)))) (sSet 2 1 [2,3] (eCall zIW (aCons (eV 2) (aCons (eV 3) aNil)))) sNil))
 (sRetV 0 2)))
def zBG:FM:=runF 2 4 zEA
def zCD:SM:=(sSeq (sSet 1 9 [] (eLst aNil))
 (sSeq (sSet 2 9 [] (eLst aNil))
 (sSeq (sFor [0] (iEn (aCons (eV 0) aNil)) (.tup [3,4]) (sSeq (sSetL 5 2 [4] (eCall zBG (aCons (eV 4) (aCons (eV 2) aNil))))
 (sIf (tB (eB (inD false) (eC (.int 1)) (eV 5))) (sSeq (sApp 1 0 (eV 3))
 (sAppF 2 [5] (eV 5))) sNil)))
 (sRetV 9 1))))
def zC9:FM:=runF 1 6 zCD
def zLD:SM:=(sRet 0 0 [0] (eB subD (eBi lenD (aCons (eV 0) aNil)) (eBi lenD (aCons (eCall zC9 (aCons (eV 0) aNil)) aNil))))
def zCS:FM:=runF 1 1 zLD
def zHR:SM:=(sSeq (sSet 3 2 [1] (eComp (iR1 (aCons (eV 1) aNil)) 1 (.one 7) Mi.tYes (eB repD (eLst (aCons (eC (.int 0)) aNil)) (eV 1))))
 (sSeq (sForR (iR1 (aCons (eV 1) aNil)) 4 (sForR (iR1 (aCons (eB addD (eV 4) (eC (.int 1))) aNil)) 5 (sSeq (sSet 6 0 [0,5,4,1] (eB ixD (eV 0) (eB modD (eB addD (eB mulD (eV 4) (eV 1)) (eV 5)) (eBi lenD (aCons (eV 0) aNil)))))
 (sSeq (sSet 6 0 [6,5,4] (eB modD (eB divD (eV 6) (eB addD (eB addD (eC (.int 1)) (eB mulD (eC (.int 7)) (eV 4))) (eB mulD (eC (.int 61)) (eV 5)))) (eC (.int 2))))
 (sIf (Mi.tOr (tB (eB neD (eV 4) (eV 5))) (tM (eV 2))) (sSeq (sItem2 3 0 (eV 4) (eV 5) (eV 6))
 (sItem2 3 0 (eV 5) (eV 4) (eV 6))) sNil)))))
 (sRetV 2 3)))
def zBU:FM:=runF 3 7 zHR
def zEJ:SM:=(sSeq (sSet 0 2 [0] (eComp (iSq (eV 0)) 1 (.one 6) Mi.tYes (eBi listD (aCons (eV 6) aNil))))
 (sSeq (sSet 1 0 [] (eC (.int 0)))
 (sSeq (sForR (iR1 (aCons (eBi lenD (aCons (eV 0) aNil)) aNil)) 2 (sSeq (sSet 3 1 [5,0,2] (eComp (iEn (aCons (eV 0) aNil)) 2 (.tup [6,7]) (tB (eB eqD (eB ixD (eV 7) (eV 2)) (eC (.int 1)))) (eV 6)))
 (sIf (tB (eB eqD (eBi lenD (aCons (eV 3) aNil)) (eC (.int 0)))) (sSet 1 1 [1] (eB addD (eV 1) (eC (.int 1)))) (sSeq (sPop 4 0 (eB ixD (eV 3) (eC (.int 0))))
 (sForR (iR1 (aCons (eBi lenD (aCons (eV 0) aNil)) aNil)) 5 (sIf (tB (eB eqD (eB ixD (eB ixD (eV 0) (eV 5)) (eV 2)) (eC (.int 1)))) (sItem 0 1 (eV 5) (eComp (iZi (aCons (eB ixD (eV 0) (eV 5)) (aCons (eV 4) aNil))) 2 (.tup [6,7]) Mi.tYes (eB modD (eB addD (eV 6) (eV 7)) (eC (.int 2))))) sNil))))))
 (sRetV 1 1))))
def zGT:FM:=runF 1 6 zEJ
def zD9:SM:=(sRet 1 1 [0] (eComp (iR1 (aCons (eBi lenD (aCons (eV 0) aNil)) aNil)) 1 (.one 1) (tB (eB neD (eB ixD (eV 0) (eV 1)) (eC (.int 0)))) (eV 1)))
def zBI:FM:=runF 1 1 zD9
def zF5:SM:=(sSeq (sSet 2 1 [1] (eCall zBI (aCons (eV 1) aNil)))
 (sSeq (sSet 3 2 [0,2] (eCall zD4 (aCons (eV 0) (aCons (eV 2) aNil))))
 (sSeq (sFor [2] (iEn (aCons (eV 2) aNil)) (.tup [4,5]) (sItem2 3 0 (eV 4) (eV 4) (eIf (tB (eB eqD (eB ixD (eV 1) (eV 5)) (eC (.int 1)))) (eC (.int 1)) (eC (.int 0)))))
 (sRetV 2 3))))
def zBM:FM:=runF 2 6 zF5
def zCV:SM:=(sSeq (sSet 2 9 [1,0] (eCall zBB (aCons (eBi lenD (aCons (eV 0) aNil)) (aCons (eV 1) aNil))))
 (sSeq (sSet 3 1 [2,0] (eComp (iSq (eV 2)) 1 (.one 4) Mi.tYes (eCallN zCS (aCons (eCallN zBM (aCons (eV 0) (aCons (eV 4) aNil))) aNil))))
 (sRet 1 1 [3] (eComp (iR1 (aCons (eB addD (eBi maxL (aCons (eV 3) aNil)) (eC (.int 1))) aNil)) 1 (.one 4) Mi.tYes (eMl lcoD (eV 3) (aCons (eV 4) aNil))))))
def zAT:FM:=runF 2 4 zCV
def zFY:SM:=(sRet 1 1 [0] (eCall zAT (aCons (eV 0) (aCons (eC (.scr [0,2])) aNil))))
def zAR:FM:=runF 1 1 zFY
def zHQ:SM:=(sRet 1 1 [0] (eCall zAT (aCons (eV 0) (aCons (eC (.scr [0,1,2])) aNil))))
def zAY:FM:=runF 1 1 zHQ
def zSJ:SM:=(sSeq (sSet 2 0 [1,0] (eB modD (eV 1) (eBi lenD (aCons (eV 0) aNil))))
 (sRet 1 1 [0,2] (eB addD (eSl (eV 0) (oE (eV 2)) oNo) (eSl (eV 0) oNo (oE (eV 2))))))
def zQX:FM:=runF 2 3 zSJ
def zJP:SM:=(sRet 0 0 [1] (eB revD (eV 1) (eU negD (eC (.int 1)))))
def m_Mirror_done:FM:=runF 2 2 zJP
def zLH:SM:=(sRet 0 0 [1,0] (eCallN zQX (aCons (eV 1) (aCons (eFld ["Shift"] "by" (eV 0)) aNil))))
def m_Shift_done:FM:=runF 2 2 zLH
def zJL:SM:=(sSeq (sIf (Mi.tOr (tB (eB neD (eBi lenD (aCons (eV 1) aNil)) (eC (.int 1)))) (tB (eB (inD true) (eV 1) (eV 0)))) (zV5 "NoLetter" "letter" (aCons (eV 1) aNil)) sNil)
 (sRet 0 0 [1,0] (eMt zb1 (eV 0) (aCons (eV 1) aNil))))
def zIV:FM:=runF 2 2 zJL
def zMM:SM:=(sRet 1 1 [0,1] (eTup (aCons (eCall zIV (aCons (eV 0) (aCons (eV 1) aNil))) (aCons (eMt zZI (eV 0) (aCons (eV 1) aNil)) aNil))))
def zD3:FM:=runF 2 2 zMM
def zMO:SM:=(sSeq (sSet 2 1 [1,0] (eCall zD3 (aCons (eV 1) (aCons (eFld ["Turn"] "letter" (eV 0)) aNil))))
 (sSeq (sSet 3 1 [2] (eB addD (eB ixD (eV 2) (eC (.int 0))) (eC (.int 1))))
 (sRet 0 0 [1,3,2] (eB addD (eB addD (eSl (eV 1) oNo (oE (eV 3))) (eB revD (eSl (eV 1) (oE (eV 3)) (oE (eB ixD (eV 2) (eC (.int 1))))) (eU negD (eC (.int 1))))) (eSl (eV 1) (oE (eB ixD (eV 2) (eC (.int 1)))) oNo)))))
def m_Turn_done:FM:=runF 2 4 zMO
def zPE:SM:=(sSeq (sSet 3 1 [0,1] (eCall zD3 (aCons (eV 0) (aCons (eV 1) aNil))))
 (sRet 0 0 [2,0,3] (eB eqD (eMt zWA (eSl (eV 0) (oE (eB addD (eB ixD (eV 3) (eC (.int 0))) (eC (.int 1)))) (oE (eB ixD (eV 3) (eC (.int 1))))) (aCons (eV 2) aNil)) (eC (.int 1)))))
def zP1:FM:=runF 3 4 zPE
def zMN:SM:=(sSeq (sSet 2 1 [0,1] (eSl (eV 0) (oE (eB addD (eB ixD (eV 1) (eC (.int 0))) (eC (.int 1)))) (oE (eB ixD (eV 1) (eC (.int 1))))))
 (sSeq (sSet 3 1 [0,1] (eSl (eV 0) (oE (eB ixD (eV 1) (eC (.int 1)))) (oE (eB addD (eB ixD (eV 1) (eC (.int 2))) (eC (.int 1))))))
 (sSeq (sSet 4 1 [0,1] (eSl (eV 0) (oE (eB addD (eB ixD (eV 1) (eC (.int 2))) (eC (.int 1)))) (oE (eB ixD (eV 1) (eC (.int 3))))))
 (sRet 1 1 [2,0,3,4,1] (eB addD (eB addD (eB addD (eB addD (eSl (eV 0) oNo (oE (eB addD (eB ixD (eV 1) (eC (.int 0))) (eC (.int 1))))) (eV 4)) (eV 3)) (eV 2)) (eSl (eV 0) (oE (eB ixD (eV 1) (eC (.int 3)))) oNo))))))
def zLY:FM:=runF 2 5 zMN
def zMQ:SM:=(sSeq (sSet 2 1 [1,0] (eB sadD (eCall zD3 (aCons (eV 1) (aCons (eFld ["Swap"] "one" (eV 0)) aNil))) (eCall zD3 (aCons (eV 1) (aCons (eFld ["Swap"] "other" (eV 0)) aNil)))))
 (sSeq (sIf (tNo (tM (eCall zP1 (aCons (eV 1) (aCons (eFld ["Swap"] "one" (eV 0)) (aCons (eFld ["Swap"] "other" (eV 0)) aNil)))))) (sRaise0 "NoCross" (aCons (eC (.str "the letters do not cross in the word")) aNil)) sNil)
 (sRet 0 0 [1,2] (eCallN zLY (aCons (eV 1) (aCons (eV 2) aNil))))))
def m_Swap_done:FM:=runF 2 3 zMQ
def zJO:SM:=(sSeq (sSet 2 0 [0,1] (eB ixD (eLst (aCons (eTup (aCons (eC (.int 1)) (aCons (eC (.int 0)) (aCons (eC (.int 3)) (aCons (eC (.int 2)) aNil))))) (aCons (eTup (aCons (eC (.int 2)) (aCons (eC (.int 3)) (aCons (eC (.int 0)) (aCons (eC (.int 1)) aNil))))) (aCons (eTup (aCons (eC (.int 3)) (aCons (eC (.int 2)) (aCons (eC (.int 1)) (aCons (eC (.int 0)) aNil))))) aNil)))) (eB ixD (eV 0) (eB divD (eV 1) (eC (.int 4))))))
 (sRet 1 1 [1,2] (eB addD (eB subD (eV 1) (eB modD (eV 1) (eC (.int 4)))) (eB ixD (eV 2) (eB modD (eV 1) (eC (.int 4)))))))
def zIX:FM:=runF 2 3 zJO
def zLF:SM:=(sSeq (sSet 3 9 [] (eLst aNil))
 (sSeq (sSet 4 0 [2] (eV 2))
 (sSeq (zV4 (Mi.tOr (tB (eB eqD (eV 3) (eLst aNil))) (tB (eB neD (eV 4) (eV 2)))) (sSeq (sApp 3 0 (eV 4))
 (sSeq (sApp 3 1 (eCall zIX (aCons (eV 1) (aCons (eV 4) aNil))))
 (sSet 4 0 [0,3] (eB ixD (eV 0) (eB ixD (eV 3) (eU negD (eC (.int 1)))))))))
 (sRetV 9 3))))
def zKJ:FM:=runF 3 5 zLF
def zJN:SM:=(sSeq (sSet 2 1 [] zb5)
 (sSeq (sSet 3 9 [] (eLst aNil))
 (sSeq (sForR (iR1 (aCons (eBi lenD (aCons (eV 0) aNil)) aNil)) 4 (sIf (tB (eB (dinD true) (eV 4) (eV 2))) (sSeq (sSet 5 9 [0,1,4] (eCall zKJ (aCons (eV 0) (aCons (eV 1) (aCons (eV 4) aNil)))))
 (sSeq (sFor [5] (iSq (eV 5)) (.one 6) (zc7 2 (eV 6) (eC (.bl true))))
 (sAppF 3 [5] (eV 5)))) sNil))
 (sRetV 1 3))))
def m__law_rounds:FM:=runF 2 7 zJN
def zJK:SM:=(sRet 0 0 [1,0] (eB xorD (eV 1) (eB addD (eV 0) (eC (.int 1)))))
def zCK:FM:=runF 2 2 zJK
def zLE:SM:=(sSeq (sSet 2 0 [1] (eB divD (eV 1) (eC (.int 4))))
 (sRet 1 1 [2,0,1] (eB addD (eB mulD (eV 2) (eC (.int 4))) (eCall zCK (aCons (eB ixD (eV 0) (eV 2)) (aCons (eB modD (eV 1) (eC (.int 4))) aNil))))))
def zFO:FM:=runF 2 3 zLE
def zPD:SM:=(sSeq (sSet 3 1 [2,1] (eLst (aCons (eV 2) (aCons (eCall zFO (aCons (eV 1) (aCons (eV 2) aNil))) aNil))))
 (sSeq (zV4 (tB (eB neD (eB ixD (eV 0) (eB ixD (eV 3) (eU negD (eC (.int 1))))) (eV 2))) (sSeq (sSet 4 0 [0,3] (eB ixD (eV 0) (eB ixD (eV 3) (eU negD (eC (.int 1))))))
 (sExt 3 0 (eLst (aCons (eV 4) (aCons (eCall zFO (aCons (eV 1) (aCons (eV 4) aNil))) aNil))))))
 (sRetV 1 3)))
def zP0:FM:=runF 3 5 zPD
def zML:SM:=(sSeq (sSet 2 9 [] (eLst aNil))
 (sSeq (sSet 3 1 [] zb5)
 (sSeq (sForR (iR1 (aCons (eBi lenD (aCons (eV 0) aNil)) aNil)) 4 (sIf (tB (eB (dinD true) (eV 4) (eV 3))) (sSeq (sSet 5 1 [0,1,4] (eCall zP0 (aCons (eV 0) (aCons (eV 1) (aCons (eV 4) aNil)))))
 (sSeq (sAppF 2 [5] (eV 5))
 (zc5 3 (eComp (iSq (eV 5)) 1 (.one 6) Mi.tYes (eTup (aCons (eV 6) (aCons (eC (.bl true)) aNil))))))) sNil))
 (sRetV 1 2))))
def m_rounds_of:FM:=runF 2 6 zML
def zJQ:SM:=(sRet 0 0 [] (zb4 "Mirror"))
def m_Mirror_back:FM:=runF 1 1 zJQ
def zLI:SM:=(sRet 0 0 [0] (eNew "Shift" ["by"] (aCons (eU negD (eFld ["Shift"] "by" (eV 0))) aNil)))
def m_Shift_back:FM:=runF 1 1 zLI
def zMR:SM:=(sRet 0 0 [0] (eNew "Swap" ["one","other"] (aCons (eFld ["Swap"] "one" (eV 0)) (aCons (eFld ["Swap"] "other" (eV 0)) aNil))))
def m_Swap_back:FM:=runF 1 1 zMR
def zMP:SM:=(sRet 0 0 [0] (eNew "Turn" ["letter"] (aCons (eFld ["Turn"] "letter" (eV 0)) aNil)))
def m_Turn_back:FM:=runF 1 1 zMP
def zJM:SM:=(sSeq (sIf (tM (eIsO ["Turn"] ["Change","Swap","Mirror","Shift"] (eV 0))) (sRet 1 1 [0] (eTup (aCons (eC (.str "turn")) (aCons (eFld ["Turn"] "letter" (eV 0)) aNil)))) sNil)
 (sSeq (sIf (tM (eIsO ["Swap"] ["Change","Turn","Mirror","Shift"] (eV 0))) (sRet 1 1 [0] (eTup (aCons (eC (.str "swap")) (aCons (eFld ["Swap"] "one" (eV 0)) (aCons (eFld ["Swap"] "other" (eV 0)) aNil))))) sNil)
 (sSeq (sIf (tM (eIsO ["Mirror"] ["Change","Turn","Swap","Shift"] (eV 0))) (sRet 1 1 [] (eTup (aCons (eC (.str "mirror")) aNil))) sNil)
 (sSeq (sIf (tM (eIsO ["Shift"] ["Change","Turn","Swap","Mirror"] (eV 0))) (sRet 1 1 [0] (eTup (aCons (eC (.str "shift")) (aCons (eFld ["Shift"] "by" (eV 0)) aNil)))) sNil)
 (sRet 1 1 [] (eTup (aCons (eC (.str "none")) aNil)))))))
def m__law_values:FM:=runF 1 1 zJM
def zD8:SM:=(sSeq (sSet 2 1 [1] (eBi rangeD (aCons (eB mulD (eC (.int 4)) (eV 1)) aNil)))
 (sSeq (sSet 3 1 [1] (eB repD (eLst (aCons (eC (.int 0)) aNil)) (eB mulD (eC (.int 4)) (eV 1))))
 (sSeq (sForR (iR1 (aCons (eB mulD (eC (.int 2)) (eV 1)) aNil)) 4 (sSeq (sPop 5 2 (eC (.int 0)))
 (sSeq (sSet 6 0 [0,4] (eB divD (eB ixD (eV 0) (eB modD (eV 4) (eBi lenD (aCons (eV 0) aNil)))) (eB addD (eC (.int 1)) (eB divD (eV 4) (eBi lenD (aCons (eV 0) aNil))))))
 (sSeq (sPop 7 2 (eB modD (eV 6) (eBi lenD (aCons (eV 2) aNil))))
 (sSeq (sItem 3 0 (eV 5) (eV 7))
 (sItem 3 0 (eV 7) (eV 5)))))))
 (sRetV 1 3))))
def zBN:FM:=runF 2 8 zD8
def zHF:SMM:=(mSeq (mLift (sSet 3 0 [0,1] (eB ixD (eVL 0) (eV 1))))
 (mSeq (mLift (sSet 4 0 [0,2] (eB ixD (eVL 0) (eV 2))))
 (mSeq (mLift (sItemL 0 0 (eV 1) (eC .non)))
 (mSeq (mLift (sItemL 0 0 (eV 2) (eC .non)))
 (mSeq (mIf (tB (eB eqD (eV 3) (eV 2))) (mRet (eC (.int 1))) (mLift sNil))
 (mSeq (mLift (sItemL 0 0 (eV 3) (eV 4)))
 (mSeq (mLift (sItemL 0 0 (eV 4) (eV 3)))
 (mRet (eC (.int 0))))))))))
def zB4:FW:=uniM (runM 0 3 5 0 1 zHF)
def zFU:SMM:=(mSeq (mLift (sSet 3 0 [] (eC (.int 0))))
 (mSeq (mLift (sForR (iR1 (aCons (eC (.int 4)) aNil)) 4 (sSeq (sSet 5 0 [2,4] (eCall zCK (aCons (eV 2) (aCons (eV 4) aNil))))
 (sIf (tB (eB (cmpD fun i j=>decide (i<j)) (eV 4) (eV 5))) (sAddW 3 0 1 (aCons (eB addD (eB mulD (eV 1) (eC (.int 4))) (eV 4)) (aCons (eB addD (eB mulD (eV 1) (eC (.int 4))) (eV 5)) aNil)) zB4) sNil))))
 (mRet (eV 3))))
def zBA:FW:=uniM (runM 0 3 6 0 1 zFU)
def zI5:SM:=(sRet 0 0 [1,0] (eIf (tB (eB (cmpD fun i j=>decide (i<j)) (eV 1) (eBi lenD (aCons (eV 0) aNil)))) (eB ixD (eV 0) (eV 1)) (eC (.int 0))))
def zBS:FM:=runF 2 2 zI5
def zOC:SM:=(sSeq (sSet 2 0 [0,1] (eBi maxD (aCons (eBi lenD (aCons (eV 0) aNil)) (aCons (eBi lenD (aCons (eV 1) aNil)) aNil))))
 (sRet 2 2 [0,1,2] (eComp (iR1 (aCons (eV 2) aNil)) 1 (.one 3) Mi.tYes (eB addD (eCall zBS (aCons (eV 0) (aCons (eV 3) aNil))) (eCall zBS (aCons (eV 1) (aCons (eV 3) aNil)))))))
def zD2:FM:=runF 2 3 zOC
def zDR:SM:=(sSeq (sSet 2 2 [] eDtt0)
 (sSeq (sFor [0] (iDk (eV 0)) (.one 3) (sFor [] (iSq (eC (.scr [0,1,2]))) (.one 4) (sSeq (sSet 5 1 [3] (eBi listD (aCons (eV 3) aNil)))
 (sSeq (sCallW 6 5 1 0 (aCons (eV 1) (aCons (eV 4) aNil)) zBA)
 (sTmpPut 7 2 2 (eTGet (eV 2) (eBi tupD (aCons (eV 5) aNil)) (eLst aNil)) (eBi tupD (aCons (eV 5) aNil)) (eCall zD2 (aCons (eV 7) (aCons (eB addD (eB repD (eLst (aCons (eC (.int 0)) aNil)) (eV 6)) (eTIx (eV 0) (eV 3))) aNil))))))))
 (sRetV 2 2)))
def zAN:FM:=runF 2 8 zDR
def zHG:SM:=(sSeq (sIf (tB (eB (cmpD fun i j=>decide (j<i)) (eCallN zB3 (aCons (eV 0) aNil)) (eC (.int 6)))) (sRaise0 "TooMany" (aCons (eC (.str "counts are told of nets of at most six places")) aNil)) sNil)
 (sSeq (sSet 2 0 [1,0] (eIf (tB (eB isD (eV 1) (eC .non))) (eBi rangeD (aCons (eCallN zB3 (aCons (eV 0) aNil)) aNil)) (eV 1)))
 (sSeq (sSet 3 2 [0] (eTOne (eBi tupD (aCons (eV 0) aNil)) (eLst (aCons (eC (.int 1)) aNil))))
 (sSeq (sFor [2] (iSq (eV 2)) (.one 4) (sSet 3 2 [3,4] (eCallN zAN (aCons (eV 3) (aCons (eV 4) aNil)))))
 (sRetTIx 1 3 (eBi tupD (aCons (eComp (iSq (eV 0)) 1 (.one 5) Mi.tYes (eC .non)) aNil)))))))
def zAS:FM:=runF 2 5 zHG
def zF6:SM:=(sSeq (sSet 3 9 [] (eLst aNil))
 (sSeq (sTry [2,0,1] none (eIf (tB (eB isD (eV 2) (eC .non))) (eCallV [("counts_of",true,zAS),("table_counts",false,zAY),("arrowed_counts",false,zAR)] 0 (aCons (eV 1) aNil)) (eCallV [("counts_of",false,zAS)] 0 (aCons (eV 1) (aCons (eV 2) aNil)))) ["RoundError","NoNet","NoPivot","TooMany"] 4 (sSet 3 1 [4] (eLst (aCons (eIsX ["TooMany"] ["RoundError","NoNet","NoPivot"] (eV 4)) (aCons (eIsX ["RoundError","NoNet","NoPivot","TooMany"] [] (eV 4)) (aCons (eIsX ["NoNet"] ["RoundError","NoPivot","TooMany"] (eV 4)) (aCons (eIsX ["NoPivot"] ["RoundError","NoNet","TooMany"] (eV 4)) aNil)))))))
 (sRet 0 0 [3] (eB eqD (eV 3) (eLst (aCons (eC (.bl true)) (aCons (eC (.bl true)) (aCons (eC (.bl false)) (aCons (eC (.bl false)) aNil)))))))))
def zAO:FM:=runF 3 5 zF6
def zSK:SM:=(sSeq (sSet 1 9 [0] (eCall zCL (aCons (eV 0) (aCons (eC (.int 24)) aNil))))
 (sSeq (sSet 2 1 [1] (eB addD (eC (.int 7)) (eB modD (eB ixD (eV 1) (eC (.int 0))) (eC (.int 2)))))
 (sSeq (sSet 3 1 [2,1] (eCall zBN (aCons (eSl (eV 1) (oE (eC (.int 1))) oNo) (aCons (eV 2) aNil))))
 (sSeq (sSet 4 2 [1] (eCall zBU (aCons (eSl (eV 1) (oE (eC (.int 1))) oNo) (aCons (eB addD (eC (.int 7)) (eB modD (eB divD (eB ixD (eV 1) (eC (.int 0))) (eC (.int 2))) (eC (.int 4)))) (aCons (eC (.bl true)) aNil)))))
 (sSeq (sSet 5 1 [3,4] (eLst (aCons (eBi listD (aCons (eV 3) aNil)) (aCons (eComp (iSq (eV 4)) 1 (.one 7) Mi.tYes (eBi listD (aCons (eV 7) aNil))) aNil))))
 (sSeq (sIf (Mi.tOr (tNo (tM (eCall zAO (aCons (eFnc "counts_of") (aCons (eV 3) (aCons (eC .non) aNil)))))) (tNo (tM (eCall zAO (aCons (eFnc "counts_of") (aCons (eV 3) (aCons (eBi rvrD (aCons (eV 2) aNil)) aNil))))))) (sRet 0 0 [] (eC (.bl false))) sNil)
 (sSeq (sIf (Mi.tOr (tNo (tM (eCall zAO (aCons (eFnc "table_counts") (aCons (eV 4) (aCons (eC .non) aNil)))))) (tNo (tM (eCall zAO (aCons (eFnc "arrowed_counts") (aCons (eV 4) (aCons (eC .non) aNil))))))) (sRet 0 0 [] (eC (.bl false))) sNil)
 (sSeq (sIf (Mi.tOr (tB (eB neD (eLst (aCons (eV 3) (aCons (eV 4) aNil))) (eV 5))) (tB (eB neD (eBi sumD (aCons (eCallD zAS (aCons (eCall zBN (aCons (eSl (eV 1) (oE (eC (.int 3))) oNo) (aCons (eC (.int 6)) aNil))) aNil)) aNil)) (eC (.int 729))))) (sRet 0 0 [] (eC (.bl false))) sNil)
 (sSeq (sSet 6 2 [1] (eCall zBU (aCons (eSl (eV 1) (oE (eC (.int 2))) oNo) (aCons (eC (.int 6)) (aCons (eC (.bl true)) aNil)))))
 (sRet 0 0 [6] (eAnd (eB eqD (eBi sumD (aCons (eCall zAY (aCons (eV 6) aNil)) aNil)) (eC (.int 729))) (eB eqD (eBi sumD (aCons (eCall zAR (aCons (eV 6) aNil)) aNil)) (eC (.int 64))))))))))))))
def zKI:FM:=runF 1 7 zSK
end
end Mp
namespace Mp
open Mi PySem
noncomputable def numL(ks:List Nat):List Int:=ks.map fun k:Nat=>(k:Int)
theorem numD(ks:List Nat):rowD (numL ks)=.lst (ks.map fun k:Nat=>Dt.int (k:Int)):=by
 unfold rowD numL;rw[qAq];rfl
theorem zKG{α:Type}(ks:List Nat)(g:Nat->α):ks.map g=(qA9 ks.length).map fun a=>g (ks.getD a 0):=by
 apply qB7
 ·simp
 ·intro i h1 h2;simp at h1;simp[h1]
theorem zRJ{ks:List Nat}{n a:Nat}(hk:∀k∈ks,k<n)(ha:a<ks.length):ks.getD a 0<n:=by
 refine hk _ ?_;rw[qA0,qA5 ha];simp
noncomputable def sub(ks:List Nat)(f:Nat->Nat->Int):Nat->Nat->Int:=fun a b=>f (ks.getD a 0) (ks.getD b 0)
theorem zTL(n:Nat)(f:Nat->Nat->Int)(ks:List Nat)(hk:∀k∈ks,k<n)(hz:ks.length<=1000):zD4 [mat (tab n f),rowD (numL ks)]=okR (mat (tab ks.length (sub ks f))):=by
 have hm:mat (tab ks.length (sub ks f))=.lst (ks.map fun i=>rowD (ks.map fun j=>f i j)):=by
  rw[zXW,zKG ks fun i=>rowD (ks.map fun j=>f i j)]
  congr 1
  refine qAt fun a ha=>?_
  rw[zKG ks fun j=>f (ks.getD a 0) j];rfl
 unfold zD4 zHH;have hc:eComp (iSq (eV 1)) 1 (.one 2) Mi.tYes (eComp (iSq (eV 1)) 1 (.one 3) Mi.tYes (eB ixD (eB ixD (eV 0) (eV 2)) (eV 3))) [some (mat (tab n f)),some (rowD (numL ks))]=okR (mat (tab ks.length (sub ks f))):=by
  rw[hm];refine zC6 (fun k:Nat=>Dt.int (k:Int)) _ ks rfl rfl (fun i hi=>?_) _ (by simp[numD]) (by lia);have h2:=zC6 (ρ:=[some (mat (tab n f)),some (rowD (numL ks))]++[some (Dt.int (i:Int))]) (c:=tYes) (i:=3) (e:=eB ixD (eB ixD (eV 0) (eV 2)) (eV 3)) (fun k:Nat=>Dt.int (k:Int)) (fun j=>Dt.int (f i j)) ks rfl rfl (fun j hj=>by
   have e1:=ixM (f:=f) (hk i hi);have e2:=ixR (g:=fun j=>f i j) (hk j hj);simp[e1,e2]) (iSq (eV 1)) (by simp[numD]) (by lia)
  rw[h2];unfold rowD;rw[qAq];rfl
 have hd:=zDP (tab ks.length (sub ks f));simp[hc,hd]
theorem zH4(l:List Int):intsD (l.map Dt.int)=some l:=by
 induction l with
 |nil=>rfl
 |cons a r ih=>simp[intsD,ih]
theorem zWU{r:Ro}{i n:Nat}{vs:List Nat}{e:EM}{d:Dt}{P:Ro->Prop}(h1:e (full r)=okR d)(h2:e (frz (frzAt vs r))=okR d)(p1:P (r.set i (some (d,n))))(p2:P ((frzAt vs r).set i (some (d,n)))):nxR (sSet i n vs e r) P:=by
 unfold sSet;rw[h1,bindR_ok]
 split
 ·exact p1
 ·rw[h2,bindR_ok];exact p2
theorem zD7{ρ:Rh}{c:TM}{e:EM}{i:Nat}{β:Type}(en:β->Dt)(g:β->Dt)(f:β->Bool)(ns:List β)(hi:i=ρ.length)(hc:∀k,k∈ns->c (ρ++[some (en k)])=okR (f k))(h:∀k,k∈ns->f k=true->e (ρ++[some (en k)])=okR (g k))(it:IM)(hit:it ρ=okR (ns.map en))(hn:ns.length<=100000):eComp it 1 (.one i) c e ρ=okR (.lst ((ns.filter f).map g)):=by
 subst hi;unfold eComp;rw[hit,bindR_ok,if_pos ⟨by simpa using hn,by simp[Tg.idx]⟩];have go:∀(l:List β)(acc:List Dt),(∀k∈l,k∈ns)->compGo ρ 1 (.one ρ.length) c e (l.map en) acc=okR (acc++(l.filter f).map g):=by
  intro l
  induction l with
  |nil=>intro acc _;simp[compGo]
  |cons a r ih=>
   intro acc hl;have h1:=hc a (hl a (by simp));have h2:=h a (hl a (by simp));have ih':=fun acc=>ih acc fun k hk=>hl k (by simp[hk])
   have es:zAK (ρ++qA4 1 none) [(ρ.length,en a)]=ρ++[some (en a)]:=by
    simp[zAK]
   rw[qAg,compGo];show zA2 (c (zAK (ρ++qA4 1 none) [(ρ.length,en a)])) _=_;rw[es,h1,bindR_ok];cases hf:f a with
   |true=>
    rw[if_pos rfl];rw[h2 hf,bindR_ok,ih',qEh hf];simp
   |false=>
    rw[if_neg (by simp),ih',qEi (by simp[hf])]
 rw[go _ _ fun k hk=>hk,bindR_ok];simp
theorem zGJ{n:Nat}{a:List Int}(h:a.length=n):a=(qA9 n).map fun j=>a.getD j 0:=by
 apply qB7
 ·simp[h]
 ·intro i h1 h2;simp[qA0,qA5 h1]
theorem zPF{n:Nat}{a b:List Int}(h:a.length=n)(h':b.length=n):addB a b=(qA9 n).map fun j=>(a.getD j 0+b.getD j 0)%2:=by
 rw[zGJ (n:=n) (a:=addB a b) (by rw[zJR a b (by lia),h])];exact qAt fun j hj=>zF7 a b j (by lia) (by simp at hj;lia)
def eiR(x:R Out)(P:Ro->Prop)(Q:Dt->Prop):Prop:=(∃r,x=okR (.nx r)/\P r)\/∃d,x=okR (.rt d)/\Q d
theorem zJC{x:R Out}{P:Ro->Prop}{Q:Dt->Prop}(h:nxR x P):eiR x P Q:=.inl (zD0 h)
theorem zEN{a b:SM}{r:Ro}{P P':Ro->Prop}{Q:Dt->Prop}(h:eiR (a r) P Q)(hb:∀r',P r'->eiR (b r') P' Q):eiR (sSeq a b r) P' Q:=by
 unfold sSeq
 rcases h with⟨r',e,h'⟩|⟨d,e,hq⟩
 ·rw[e,bindR_ok];exact hb r' h'
 ·rw[e,bindR_ok];exact .inr ⟨d,rfl,hq⟩
theorem zSO{n:Nat}{a b:List Int}(h:RowN n a)(h':RowN n b)(hn:n<=1000):zIW [rowD a,rowD b]=okR (rowD (addB a b)):=by
 rw[zPF h.1 h'.1];unfold zIW zSL;have hc:eComp (iR1 (aCons (eBi lenD (aCons (eV 0) aNil)) aNil)) 1 (.one 2) Mi.tYes (eB xorD (eB ixD (eV 0) (eV 2)) (eB ixD (eV 1) (eV 2))) [some (rowD a),some (rowD b)]=okR (rowD ((qA9 n).map fun j=>(a.getD j 0+b.getD j 0)%2)):=by
  refine zO6 _ rfl (by lia) (zGE (by simp[-qA0,h.1]) (by lia)) fun j hj=>?_
  have i1:=zJ4 a j (by rw[h.1];exact hj);have i2:=zJ4 b j (by rw[h'.1];exact hj);simp[-qA0,i1,i2,zWH (zDE (k:=j) h) (zDE (k:=j) h')]
 simp[hc]
noncomputable def mixC(ns:List Int)(k:Nat):Int:=
 let c:Int:=if k<ns.length then ns.getD k 0%1000003 else 0
 let f:Int:=((c+1)*48271+(k:Int)*k*7919)%1000000007*40692%2147483399
 f*2147483647+(f*69621+k)%2147483647
def mixL(ns:List Int)(n:Nat):List Int:=(qA9 n).map (mixC ns)
theorem zXV(ns:List Int)(k:Nat):0<=mixC ns k/\mixC ns k<4611686018427387904:=by
 unfold mixC;dsimp only
 generalize((if k<ns.length then ns.getD k 0%1000003 else 0)+1)*48271+(k:Int)*k*7919=q
 lia
theorem zQW(ns:List Int)(n:Nat)(hn:n<=63)(hl:ns.length<=63):zCL [.scr ns,.int n]=okR (.lst ((mixL ns (max n ns.length)).map .int)):=by
 have hmin:minD [.int 63,.int (ns.length:Int)]=some (.int (ns.length:Int)):=by
  show some (Dt.int (if(ns.length:Int)<63 then(ns.length:Int)else 63))=_
  split
  ·rfl
  ·rw[show(63:Int)=(ns.length:Int) by lia]
 have hmax:maxD [.int (n:Int),.int (ns.length:Int)]=some (.int ((max n ns.length:Nat):Int)):=by
  show some (Dt.int (if(ns.length:Int)>(n:Int)then(ns.length:Int)else(n:Int)))=_;rw[show(if(ns.length:Int)>(n:Int)then(ns.length:Int)else(n:Int))=((max n ns.length:Nat):Int) by split<;>lia]
 generalize hm:max n ns.length=m at hmax
 refine zC2 rfl (sg (d:=.lst []) (by simp) (by decide) (zCO fun bb hb=>?_));rw[zEB,zGE (n:=m) (al0 (bi2 rfl (bi2 rfl (bi1 rfl rfl) hmin) hmax)) (by lia),bindR_ok];refine zLU (fun k r=>∃o3 o4 o5,r=[some (.scr ns,0),some (.int n,0),some (.lst (((qA9 k).map (mixC ns)).map .int),8+1),o3,o4,o5]) ⟨none,none,none,rfl⟩ (fun k hk r hr=>?_) fun r hr=>?_
 ·obtain⟨o3,o4,o5,rfl⟩:=hr;refine nsw (ss rfl (qA7 0)) ?_;have hif:sIf (tB (eB (cmpD fun i j=>decide (i<j)) (eV 3) (eBi lenD (aCons (eV 0) aNil)))) (sSet 4 0 [0,3] (eB modD (eB ixD (eV 0) (eV 3)) (eC (.int 1000003)))) sNil [some (.scr ns,0),some (.int n,0),some (.lst (((qA9 k).map (mixC ns)).map .int),8+1),some (.int (k:Int),0),some (.int 0,0),o5]=okR (.nx [some (.scr ns,0),some (.int n,0),some (.lst (((qA9 k).map (mixC ns)).map .int),8+1),some (.int (k:Int),0),some (.int (if k<ns.length then ns.getD k 0%1000003 else 0),0),o5]):=by
   by_cases h:k<ns.length
   ·have hi:ixD (.scr ns) (.int (k:Int))=some (.int (ns.getD k 0)):=by
     have:=zY8 (ns:=ns) (i:=(k:Int)) (by lia) (by lia)
     rw[qBa]at this
     show(itA ns (k:Int)).map Dt.int=_
     rw[this];rfl
    rw[if_pos h,zEK,tb1 (b2 rfl (bi1 rfl rfl) (cmi (decide_eq_true (show(k:Int)<ns.length by lia)))),bindR_ok,if_pos rfl];exact ss (b2 (b2 rfl rfl hi) rfl (mdi (by decide) rfl)) (qA7 0)
   ·rw[if_neg h];exact sf (tb1 (b2 rfl (bi1 rfl rfl) (cmi (decide_eq_false (show ¬(k:Int)<ns.length by lia)))))
  refine nsw hif ?_;have e1:mixC ns k=((((if k<ns.length then ns.getD k 0%1000003 else 0)+1)*48271+(k:Int)*k*7919)%1000000007*40692%2147483399)*2147483647+((((if k<ns.length then ns.getD k 0%1000003 else 0)+1)*48271+(k:Int)*k*7919)%1000000007*40692%2147483399*69621+k)%2147483647:=rfl
  generalize(if k<ns.length then ns.getD k 0%1000003 else 0)=c at e1
  have h1:mulD (.int (k:Int)) (.int (k:Int))=some (.int ((k:Int)*k)):=zOY (by lia) (by lia);refine nsw (ss (b2 (b2 (b2 (b2 (b2 (b2 rfl rfl (adi rfl)) rfl (zQS (by decide) (by decide))) (b2 (b2 rfl rfl h1) rfl (zQS (by decide) (by decide))) (adi rfl)) rfl (mdi (by decide) rfl)) rfl (zQS (by decide) (by decide))) rfl (mdi (by decide) rfl)) (qA7 0)) ?_
  generalize((c+1)*48271+(k:Int)*k*7919)%1000000007*40692%2147483399=f at e1
  refine zB0 (r:=[some (.scr ns,0),some (.int n,0),some (.lst (((qA9 k).map (mixC ns)).map .int++[.int (mixC ns k)]),8+1),some (.int (k:Int),0),some (.int c,0),some (.int f,0)]) ?_ ⟨_,_,_,by rw[qDo,qB3,qB3];rfl⟩;unfold sApp;show zA2 (eB addD (eB mulD (eV 5) (eC (.int 2147483647))) (eB modD (eB addD (eB mulD (eV 5) (eC (.int 69621))) (eV 3)) (eC (.int 2147483647))) [some (.scr ns),some (.int n),some (.lst (((qA9 k).map (mixC ns)).map .int)),some (.int (k:Int)),some (.int c),some (.int f)]) _=_;rw[b2 (b2 rfl rfl (zQS (by decide) (by decide))) (b2 (b2 (b2 rfl rfl (zQS (by decide) (by decide))) rfl (adi rfl)) rfl (mdi (by decide) rfl)) (adi e1.symm),bindR_ok];exact if_pos ⟨by simp;lia,qAs _,qAs _⟩
 ·obtain⟨o3,o4,o5,rfl⟩:=hr;subst hb;show sRetV 9 2 _=_;simp[mixL]
@[simp] theorem x_eNew0(c:Str)(ρ:Rh):zb4 c ρ=okR (.ins c []):=rfl
@[simp] theorem x_eNew(c:Str)(fl:List Str)(am:AM)(ρ:Rh):eNew c fl am ρ=zA2 (am ρ) fun ds=>match svsD ds with
 |some vs=>if vs.length=fl.length then okR (.ins c (fl.zip vs))else none
 |none=>none:=rfl
@[simp] theorem x_eFld(hs:List Str)(f:Str)(e:EM)(ρ:Rh):eFld hs f e ρ=zA2 (e ρ) fun d=>match d with
 |.ins c fs=>if c∈hs then(match fs.lookup f with|some v=>okR (dSv v)|none=>none)else none
 |_=>none:=rfl
@[simp] theorem x_eMeth(tb:List (Str×FM))(m:Str)(e:EM)(am:AM)(ρ:Rh):zcW tb m e am ρ=zA2 (e ρ) fun d=>match d with
 |.ins c fs=>match tb.lookup c with
  |some g=>match fs.lookup m with
   |none=>zA2 (am ρ) fun ds=>g (d::ds)
   |some _=>none
  |none=>none
 |_=>none:=rfl
@[simp] theorem x_eIsO(ys ns:List Str)(e:EM)(ρ:Rh):eIsO ys ns e ρ=zA2 (e ρ) fun d=>match d with
 |.ins c _=>if c∈ys then okR (.bl true)else if c∈ns then okR (.bl false)else none
 |_=>none:=rfl
@[simp] theorem v_dins(c:Str)(fs:List (Str×Sv)):(Dt.ins c fs).dep=1000:=rfl
theorem len1(x:Nat):lenD [sgn x]=some (.int 1):=zTT (cs:=[x]) (by simp)
theorem bx4:∀s:Nat,s<4->∀w:Nat,w<3->qIw (s:Int) ((w:Int)+1)=((s^^^(w+1):Nat):Int):=by decide
theorem zM1{w s:Nat}(hw:w<3)(hs:s<4):zCK [.int (w:Int),.int (s:Int)]=okR (.int ((s^^^(w+1):Nat):Int)):=by
 refine zC2 rfl ?_;show zJK [some (.int (w:Int),0),some (.int (s:Int),0)]=_;unfold zJK;simp[bx4 s hs w hw]
def rowsD(R:List (List Nat)):Dt:=.lst (R.map fun l=>rowD (numL l))
def fm(cs:List Nat)(s:Nat)(b:Bool):List Nat:=if b=true then(sh s cs).reverse else sh s cs
end Mp
namespace FW
structure NetL(ns:List Int)(n:Nat):Prop where
 len:ns.length=n
 tie:∀i:Nat,i<n->∃j:Nat,j<n/\j≠i/\ns[i]?=some (j:Int)/\ns[j]?=some (i:Int)
structure Part(left:List Nat)(ns:List Int)(n:Nat):Prop where
 len:ns.length=n
 nd:left.Nodup
 lt:∀i∈left,i<n
 ev:left.length%2=0
 tie:∀i:Nat,i<n->i∉left->∃j:Nat,j<n/\j∉left/\j≠i/\ns[i]?=some (j:Int)/\ns[j]?=some (i:Int)
theorem Part.start(n:Nat)(h:n%2=0):Part (qA9 n) (qA4 n 0) n:=
 ⟨by simp,qBx,fun i hi=>qD6.mp hi,by simpa using h,fun i hi hn=>absurd (qD6.mpr hi) hn⟩
theorem Part.done{ns:List Int}{n:Nat}(h:Part [] ns n):NetL ns n:=⟨h.len,fun i hi=>by
 obtain⟨j,h1,_,h2,h3,h4⟩:=h.tie i hi (by simp);exact⟨j,h1,h2,h3,h4⟩⟩
theorem zGS{l:List Nat}{k:Nat}{x:Nat}:x∈l.eraseIdx k->x∈l:=fun h=>qCt h
theorem zES:∀{l:List Nat}{k:Nat}{b:Nat},l.Nodup->l[k]?=some b->b∉l.eraseIdx k
 |[],_,_,_,h=>by simp at h
 |a::r,0,b,nd,h=>by
  simp at h;subst h
  simpa using(qAy.mp nd).1
 |a::r,k+1,b,nd,h=>by
  obtain⟨h1,h2⟩:=qAy.mp nd;have h':r[k]?=some b:=by simpa using h
  intro hm;simp only[qCz]at hm
  rcases qA6.mp hm with e|hm
  ·subst e;exact h1 (qB1 h')
  ·exact zES h2 h' hm
theorem zFN:∀{l:List Nat}{k:Nat}{b x:Nat},l[k]?=some b->x∈l->x≠b->x∈l.eraseIdx k
 |[],_,_,_,h,_,_=>by simp at h
 |a::r,0,b,x,h,hx,hne=>by
  simp at h;subst h
  rcases qA6.mp hx with e|hx
  ·exact absurd e hne
  ·simpa using hx
 |a::r,k+1,b,x,h,hx,hne=>by
  have h':r[k]?=some b:=by simpa using h
  simp only[qCz]
  rcases qA6.mp hx with e|hx
  ·exact qA6.mpr (.inl e)
  ·exact qA6.mpr (.inr (zFN h' hx hne))
theorem len_erase{l:List Nat}{k:Nat}(h:k<l.length):(l.eraseIdx k).length+1=l.length:=by
 rw[List.length_eraseIdx_of_lt h];lia
theorem Part.turn{a b k:Nat}{l:List Nat}{ns:List Int}{n:Nat}(h:Part (a::l) ns n)(hb:l[k]?=some b):Part (l.eraseIdx k) ((ns.set a (b:Int)).set b (a:Int)) n:=by
 obtain⟨ha,nd⟩:=qAy.mp h.nd;have hk:k<l.length:=(qA2.mp hb).1;have hbl:b∈l:=qB1 hb;have hab:a≠b:=fun e=>ha (e▸hbl)
 have han:a<n:=h.lt a (by simp);have hbn:b<n:=h.lt b (by simp[hbl]);have hl:=h.len;refine⟨by simp[hl],nd.sublist (List.eraseIdx_sublist l k),fun i hi=>h.lt i (qAd _ (zGS hi)),?_,fun i hi hn=>?_⟩
 ·have e:=h.ev
  have:=len_erase hk
  simp at e
  lia
 ·have nb:b∉l.eraseIdx k:=zES nd hb;have na:a∉l.eraseIdx k:=fun z=>ha (zGS z)
  by_cases e1:i=a
  ·subst e1;refine⟨b,hbn,nb,fun z=>hab z.symm,?_,?_⟩
   ·rw[qAj (fun z=>hab z.symm),qAk (by lia)]
   ·rw[qAk (by simp[hl];lia)]
  ·by_cases e2:i=b
   ·subst e2;refine⟨a,han,na,hab,?_,?_⟩
    ·rw[qAk (by simp[hl];lia)]
    ·rw[qAj (fun z=>hab z.symm),qAk (by lia)]
   ·have hi':i∉a::l:=fun z=>by
     rcases qA6.mp z with z|z
     ·exact e1 z
     ·exact hn (zFN hb z e2)
    obtain⟨j,hj,hjl,hji,g1,g2⟩:=h.tie i hi hi';have ja:j≠a:=fun z=>hjl (by simp[z])
    have jb:j≠b:=fun z=>hjl (by simp[z,hbl])
    refine⟨j,hj,fun z=>hjl (qAd _ (zGS z)),hji,?_,?_⟩
    ·rw[qAj (fun z=>e2 z.symm),qAj (fun z=>e1 z.symm)];exact g1
    ·rw[qAj (fun z=>jb z.symm),qAj (fun z=>ja z.symm)];exact g2
end FW
namespace Mp
open Mi PySem
noncomputable def itr(f:Nat->Nat):Nat->Nat->Nat
 |0,x=>x
 |k+1,x=>f (itr f k x)
noncomputable def jn(cs:List Nat)(e:Nat):Nat:=e/4*4+(e%4^^^(cs.getD (e/4) 0+1))
noncomputable def nt(ts:List Nat)(e:Nat):Nat:=ts.getD e 0
structure NetN(ts:List Nat)(M:Nat):Prop where
 len:ts.length=M
 lt:∀e,e<M->nt ts e<M
 inv:∀e,e<M->nt ts (nt ts e)=e
def stp(ts cs:List Nat)(e:Nat):Nat:=nt ts (jn cs e)
theorem zc1{ns:List Int}{M:Nat}(h:FW.NetL ns M):∃ts:List Nat,numL ts=ns/\NetN ts M:=by
 have key:∀i,i<M->∃j:Nat,j<M/\ns[i]?=some (j:Int)/\ns[j]?=some (i:Int):=fun i hi=>by
  obtain⟨j,h1,_,h2,h3⟩:=h.tie i hi;exact⟨j,h1,h2,h3⟩
 have hnt:∀(i j:Nat),ns[i]?=some (j:Int)->nt (ns.map Int.toNat) i=j:=fun i j h1=>by
  unfold nt;rw[qA0,qAf,h1];rfl
 refine⟨ns.map Int.toNat,?_,⟨by simp[h.len],fun i hi=>?_,fun i hi=>?_⟩⟩
 ·unfold numL;rw[qAq];refine qHr (qAt fun x hx=>?_) (List.map_id ns);obtain⟨i,hi,e⟩:=List.getElem_of_mem hx;obtain⟨j,_,h2,_⟩:=key i (by rw[<- h.len];exact hi);rw[qA5 hi,e]at h2;simp at h2;rw[h2];rfl
 ·obtain⟨j,h1,h2,_⟩:=key i hi;rw[hnt i j h2];exact h1
 ·obtain⟨j,h1,h2,h3⟩:=key i hi;rw[hnt i j h2,hnt j i h3]
structure Seats(R:List (List Nat))(n:Nat):Prop where
 len:R.length=n
 per:∀l∈R,l.Perm [0,1,2,3]
section
variable{R:List (List Nat)}{row:List Nat}{n:Nat}(hS:Seats R n)(tw:Twice n row)
include hS
include tw
omit hS in
omit hS in
omit hS in
omit hS in
omit hS tw in
omit hS tw in
end
section
variable{ts cs:List Nat}{n e:Nat}(hN:NetN ts (4*n))(hne:∀x,x<4*n->nt ts x≠x)(hl:cs.length=n)(hw:∀c∈cs,c<3)(he:e<4*n)
include hN hne hl hw he
variable{p:Nat}(p3:itr (stp ts cs) p e=e)(p4:∀q,1<=q->q<p->itr (stp ts cs) q e≠e)
include p3 p4
omit hN hne hl hw he p3 p4 in
end
theorem zZ3{ns:List Int}{M:Nat}(h:FW.NetL ns M):∃ts:List Nat,numL ts=ns/\NetN ts M/\∀x,x<M->nt ts x≠x:=by
 obtain⟨ts,e,hN⟩:=zc1 h;refine⟨ts,e,hN,fun x hx=>?_⟩;obtain⟨j,h1,h2,h3,_⟩:=h.tie x hx;rw[<- e]at h3;unfold numL at h3;rw[qAf]at h3;unfold nt;rw[qA0];cases hq:ts[x]? with
 |none=>rw[hq]at h3;cases h3
 |some y=>
  rw[hq]at h3;simp at h3;simp
  lia
def rowW(cs:List Nat):List Nat:=cs.map fun c=>(ords cs).idxOf c
structure Wd(n:Nat)(cs:List Nat):Prop where
 tw:Twice n (rowW cs)
 wr:wrd (ords cs) (rowW cs)=cs
 ap:zd1 (ords cs) (rowW cs)
 od:ords (rowW cs)=qA9 n
 ol:(ords cs).length=n
 len:cs.length=2*n
noncomputable def zN(n:Nat):List Int:=qA4 (4*n) 0
def tsW(n:Nat)(row:List Nat):List Nat:=(qA9 (4*n)).map fun e=>((puts (lawS row row.length) (zN n)).getD e 0).toNat
section
variable{n:Nat}{row:List Nat}(t:Twice n row)
include t
end
noncomputable def cbW(c ls O:List Nat):List Nat:=O.map fun x=>c.getD (ls.idxOf x) 0
theorem jn4(c:List Nat){p s:Nat}(hs:s<4):jn c (4*p+s)=4*p+(s^^^(c.getD p 0+1)):=by
 unfold jn;rw[show(4*p+s)/4=p by lia,show(4*p+s)%4=s by lia]
 lia
section
variable{ts C':List Nat}{n:Nat}(hN:NetN ts (4*n))(hne:∀x,x<4*n->nt ts x≠x)(hl:C'.length=n)(hw:∀c∈C',c<3)(hn:n<=10)(n1:1<=n)
include hN hne hl hw hn n1
end
theorem zKZ{n:Nat}{g:Nat->Int}{x:List Int}(hx:x.length=n):dot ((qA9 n).map g) x=sumN n fun k=>g k*x.getD k 0:=by
 rw[zH8 _ x n (by lia)];unfold sumN
 congr 1
 refine qAt fun k hk=>?_
 rw[zHU (by simpa using hk)]
theorem zON{n:Nat}{f g:Nat->Int}(h:∀k,k<n->f k=g k):sumN n f=sumN n g:=by
 unfold sumN
 congr 1
 exact qAt fun k hk=>h k (by simpa using hk)
theorem zSW{n i:Nat}{f g:Nat->Int}(hi:i<n)(h:∀k,k<n->k≠i->f k=g k):sumN n f=sumN n g+(f i-g i):=by
 induction n with
 |zero=>lia
 |succ n ih=>
  rw[zDC,zDC]
  by_cases z:i=n
  ·subst z;rw[zON fun k hk=>h k (by lia) (by lia)];lia
  ·rw[ih (by lia) fun k hk=>h k (by lia),h n (by lia) (fun y=>z y.symm)];lia
noncomputable def allv:Nat->List (List Int)
 |0=>[[]]
 |n+1=>(allv n).map (qE9 0)++(allv n).map (qE9 1)
theorem zOD:∀n,(allv n).length=2 ^ n
 |0=>rfl
 |n+1=>by simp[allv,zOD n];lia
theorem zCR{α β:Type}{l:List α}{f:α->β}(h:l.Nodup)(hi:∀x∈l,∀y∈l,f x=f y->x=y):(l.map f).Nodup:=by
 unfold List.Nodup;rw[List.pairwise_map];exact qHa (fun{a b} ha hb hab z=>hab (hi a ha b hb z)) h
theorem zFK:∀n,(allv n).Nodup
 |0=>by simp[allv]
 |n+1=>by
  have ih:=zFK n;rw[allv,qC6];refine⟨zCR ih fun x _ y _ h=>by simpa using h,zCR ih fun x _ y _ h=>by simpa using h,fun a ha b hb=>?_⟩;obtain⟨x,_,rfl⟩:=qAb.mp ha;obtain⟨y,_,rfl⟩:=qAb.mp hb;simp
theorem allv_mem:∀{n:Nat}{x:List Int},x∈allv n↔RowN n x
 |0,x=>by
  simp only[allv,qAn];constructor
  ·rintro rfl;exact⟨rfl,fun y hy=>by simp at hy⟩
  ·rintro⟨h,_⟩;exact qDd h
 |n+1,x=>by
  rw[allv,qAw];constructor
  ·rintro(h|h)
   all_goals
    obtain⟨y,hy,rfl⟩:=qAb.mp h
    have:=allv_mem.mp hy
    refine⟨by simp[this.1],fun z hz=>?_⟩
    rcases qA6.mp hz with rfl|hz
    ·simp[Bit]
    ·exact this.2 z hz
  ·rintro⟨h1,h2⟩
   cases x with
   |nil=>simp at h1
   |cons a r=>
    have hr:r∈allv n:=allv_mem.mpr ⟨by simpa using h1,fun z hz=>h2 z (by simp[hz])⟩
    rcases h2 a (by simp)with rfl|rfl
    ·exact .inl (qAb.mpr ⟨r,hr,rfl⟩)
    ·exact .inr (qAb.mpr ⟨r,hr,rfl⟩)
theorem zGR{α:Type}[DecidableEq α]:∀(l1 l2:List α),l1.Nodup->(∀x∈l1,x∈l2)->l1.length<=l2.length
 |[],_,_,_=>by simp
 |a::r,l2,h,hs=>by
  have ha:=hs a (by simp);rw[qAy]at h
  have:=zGR r (l2.erase a) h.2 fun x hx=>(List.mem_erase_of_ne (fun z:x=a=>h.1 (by rw[<- z];exact hx))).mpr (hs x (by simp[hx]))
  rw[List.length_erase_of_mem ha]at this
  have:=qEv ha
  simp
  lia
noncomputable def cnt(n:Nat)(P:List Int->Prop):Nat:=by
 classical exact((allv n).filter fun x=>decide (P x)).length
theorem zS7(n:Nat):cnt n (fun _=>True)=2 ^ n:=by
 unfold cnt;rw[List.filter_eq_self.mpr (by simp),zOD]
theorem zBH{n:Nat}{P Q:List Int->Prop}(h:∀x,RowN n x->(P x↔Q x)):cnt n P=cnt n Q:=by
 unfold cnt
 congr 1
 refine List.filter_congr fun x hx=>?_
 have:=h x (allv_mem.mp hx)
 simp[this]
theorem zWB{n:Nat}{P Q:List Int->Prop}(f:List Int->List Int)(hf:∀x,RowN n x->P x->RowN n (f x)/\Q (f x))(hi:∀x y,RowN n x->RowN n y->f x=f y->x=y):cnt n P<=cnt n Q:=by
 classical
 unfold cnt;have h1:(((allv n).filter fun x=>decide (P x)).map f).Nodup:=zCR ((zFK n).filter _) fun x hx y hy=>hi x y (allv_mem.mp (qB6.mp hx).1) (allv_mem.mp (qB6.mp hy).1)
 have h2:=zGR _ ((allv n).filter fun x=>decide (Q x)) h1 fun z hz=>by
  obtain⟨x,hx,rfl⟩:=qAb.mp hz;obtain⟨g1,g2⟩:=qB6.mp hx;obtain⟨k1,k2⟩:=hf x (allv_mem.mp g1) (by simpa using g2);exact qB6.mpr ⟨allv_mem.mpr k1,by simpa using k2⟩
 rw[qAm]at h2;exact h2
theorem zS5{n:Nat}(P E:List Int->Prop):cnt n P=cnt n (fun x=>P x/\E x)+cnt n (fun x=>P x/\¬E x):=by
 classical
 unfold cnt
 generalize allv n=l
 induction l with
 |nil=>simp
 |cons a r ih=>
  simp only[qEl]
  by_cases h1:P a
  ·by_cases h2:E a
   ·simp[h1,h2,ih];lia
   ·simp[h1,h2,ih];lia
  ·simp[h1,ih]
noncomputable def flp(p:Nat)(x:List Int):List Int:=x.set p (1-x.getD p 0)
theorem zJ9{n p:Nat}{x:List Int}(h:RowN n x):RowN n (flp p x):=zX0 h (by rcases zDE (k:=p) h with z|z<;>rw[z]<;>simp[Bit])
theorem zFG{n p:Nat}{x:List Int}(h:RowN n x)(hp:p<n)(k:Nat):(flp p x).getD k 0=if p=k then 1-x.getD p 0 else x.getD k 0:=zU8 (by rw[h.1];exact hp)
theorem zX1{n:Nat}{x y:List Int}(hx:x.length=n)(hy:y.length=n)(h:∀k,k<n->x.getD k 0=y.getD k 0):x=y:=by
 rw[zGJ hx,zGJ hy];exact qAt fun k hk=>h k (by simpa using hk)
theorem zRN{n p:Nat}(hp:p<n){x y:List Int}(hx:RowN n x)(hy:RowN n y)(h:flp p x=flp p y):x=y:=by
 refine zX1 hx.1 hy.1 fun k hk=>?_
 have e:(flp p x).getD k 0=(flp p y).getD k 0:=by rw[h]
 rw[zFG hx hp,zFG hy hp]at e
 by_cases z:p=k
 ·subst z;rw[if_pos rfl,if_pos rfl]at e;lia
 ·rw[if_neg z,if_neg z]at e;exact e
theorem zO8{n p:Nat}(hp:p<n)(P E:List Int->Prop)(h1:∀x,RowN n x->P x->P (flp p x))(h2:∀x,RowN n x->(E (flp p x)↔¬E x)):cnt n P=2*cnt n (fun x=>P x/\E x):=by
 have a:=zS5 (n:=n) P E;have b:cnt n (fun x=>P x/\E x)<=cnt n (fun x=>P x/\¬E x):=zWB (flp p) (fun x hx h=>⟨zJ9 hx,h1 x hx h.1,fun z=>(h2 x hx).mp z h.2⟩) fun x y hx hy=>zRN hp hx hy
 have c:cnt n (fun x=>P x/\¬E x)<=cnt n (fun x=>P x/\E x):=zWB (flp p) (fun x hx h=>⟨zJ9 hx,h1 x hx h.1,(h2 x hx).mpr h.2⟩) fun x y hx hy=>zRN hp hx hy
 lia
def Ev(n:Nat)(g:Nat->Int)(x:List Int):Prop:=sumN n (fun k=>g k*x.getD k 0)%2=0
theorem zVZ{n p:Nat}{g:Nat->Int}{x:List Int}(h:RowN n x)(hp:p<n):sumN n (fun k=>g k*(flp p x).getD k 0)=sumN n (fun k=>g k*x.getD k 0)+g p*(1-2*x.getD p 0):=by
 rw[zSW (f:=fun k=>g k*(flp p x).getD k 0) (g:=fun k=>g k*x.getD k 0) hp fun k _ hk=>by rw[zFG h hp,if_neg (fun z=>hk z.symm)],zFG h hp,if_pos rfl,<- Int.mul_sub]
 congr 2
 lia
theorem zYG{n p:Nat}{g:Nat->Int}{x:List Int}(h:RowN n x)(hp:p<n)(hg:g p=0):Ev n g (flp p x)↔Ev n g x:=by
 unfold Ev;rw[zVZ h hp,hg];simp
theorem zYF{n p:Nat}{g:Nat->Int}{x:List Int}(h:RowN n x)(hp:p<n)(hg:g p=1):Ev n g (flp p x)↔¬Ev n g x:=by
 unfold Ev;rw[zVZ h hp,hg]
 lia
noncomputable def Led(n:Nat):List (List Int)->Prop
 |[]=>True
 |l::r=>(∃p,p<n/\l.getD p 0=1/\∀s∈r,s.getD p 0=0)/\Led n r
theorem zNT{n:Nat}{r x:List Int}(hx:RowN n x):dot r x%2=0↔Ev n (fun k=>r.getD k 0) x:=by
 unfold Ev;rw[zH8 r x n (by rw[hx.1];exact qA7 _)]
theorem zME{n:Nat}:∀(ls:List (List Int)),Led n ls->cnt n (Ker ls)*2 ^ ls.length=2 ^ n
 |[],_=>by
  rw[zBH (Q:=fun _=>True) fun x _=>⟨fun _=>trivial,fun _ r hr=>by simp at hr⟩,zS7];simp
 |l::r,h=>by
  obtain⟨⟨p,hp,h1,h0⟩,h2⟩:=h;have ih:=zME r h2;have hh:=zO8 hp (Ker r) (fun x=>dot l x%2=0) (fun x hx hk s hs=>(zNT (zJ9 hx)).mpr ((zYG hx hp (h0 s hs)).mpr ((zNT hx).mp (hk s hs)))) fun x hx=>by
   rw[zNT (zJ9 hx),zNT hx];exact zYF hx hp h1
  have hc:cnt n (Ker (l::r))=cnt n (fun x=>Ker r x/\dot l x%2=0):=zBH fun x _=>⟨fun h=>⟨fun s hs=>h s (by simp[hs]),h l (by simp)⟩,fun h s hs=>(qA6.mp hs).elim (fun z=>z▸h.2) (h.1 s)⟩
  rw[hc,qAx,qDz,<- ih,hh];rw[qD8 (2 ^ r.length) 2,<- qEj,qD8 _ 2]
def KerF(n:Nat)(f:Nat->Nat->Int)(x:List Int):Prop:=∀a,a<n->Ev n (f a) x
section
variable{n i j:Nat}{f:Nat->Nat->Int}(hb:Bits n f)(hi:i<n)(hj:j<n)(hij:i≠j)
include hi in
include hi hij in
include hb hi hj hij in
include hb hi hj hij in
end
noncomputable def frz0(o:Option Sl):Option Dt:=match o with
 |some (d,n)=>if n=0\/d.dep=0 then some d else none
 |none=>none
theorem zPQ{n i:Nat}{f:Nat->Nat->Int}(h:i<n):(tab n f).getD i []=(qA9 n).map fun j=>f i j:=by
 rw[qA0,zFA h];rfl
theorem zR7{n:Nat}{f:Nat->Nat->Int}{x:List Int}(hx:x.length=n):Ker (tab n f) x↔∀a,a<n->sumN n (fun b=>f a b*x.getD b 0)%2=0:=by
 constructor
 ·intro h a ha
  have:=h _ (getD_mem (d:=[]) (i:=a) (by rw[zFB];exact ha))
  rw[zPQ ha,zKZ hx]at this;exact this
 ·intro h r hr;obtain⟨i,hi,rfl⟩:=mem_getD (d:=[]) hr;rw[zFB]at hi;rw[zPQ hi,zKZ hx];exact h i hi
noncomputable def fst1:List Int->Nat
 |[]=>0
 |a::r=>if a=1 then 0 else fst1 r+1
theorem zJ7:∀{l:List Int},1∈l->fst1 l<l.length
 |a::r,h=>by
  unfold fst1
  split
  ·simp
  ·rename_i z
   have:=zJ7 (l:=r) ((qA6.mp h).elim (fun y=>absurd y.symm z) fun y=>y)
   simp;exact this
theorem zJ8:∀{l:List Int},1∈l->l.getD (fst1 l) 0=1
 |a::r,h=>by
  unfold fst1
  split
  ·rename_i z;simp[z]
  ·rename_i z
   have:=zJ8 (l:=r) ((qA6.mp h).elim (fun y=>absurd y.symm z) fun y=>y)
   simpa using this
def red1(left l:List Int):List Int:=if left.getD (fst1 l) 0=1 then addB left l else left
def red(ls:List (List Int))(row:List Int):List Int:=ls.foldl red1 row
section
variable{n:Nat}
theorem zG3{a l:List Int}(ha:RowN n a)(hl:RowN n l):RowN n (red1 a l):=by
 unfold red1
 split
 ·exact zGD ha hl
 ·exact ha
theorem zII:∀{ls:List (List Int)}{row:List Int},RowN n row->(∀l∈ls,RowN n l)->RowN n (red ls row)
 |[],row,h,_=>h
 |l::r,row,h,hl=>zII (ls:=r) (zG3 h (hl l (by simp))) fun s hs=>hl s (by simp[hs])
theorem zQ6{p:Nat}{a l:List Int}(ha:RowN n a)(hl:RowN n l)(hp:p<n)(h1:a.getD p 0=0)(h2:l.getD p 0=0):(red1 a l).getD p 0=0:=by
 unfold red1
 split
 ·rw[zF7 a l p (by rw[ha.1,hl.1]) (by rw[ha.1];exact hp),h1,h2];rfl
 ·exact h1
theorem zNA{p:Nat}(hp:p<n):∀{ls:List (List Int)}{row:List Int},RowN n row->(∀l∈ls,RowN n l)->row.getD p 0=0->(∀l∈ls,l.getD p 0=0)->(red ls row).getD p 0=0
 |[],row,_,_,h,_=>h
 |l::r,row,h,hl,h1,h2=>zNA hp (ls:=r) (zG3 h (hl l (by simp))) (fun s hs=>hl s (by simp[hs])) (zQ6 h (hl l (by simp)) hp h1 (h2 l (by simp))) fun s hs=>h2 s (by simp[hs])
def Lds(ls:List (List Int)):Prop:=ls.Pairwise fun l s=>s.getD (fst1 l) 0=0
theorem zN9:∀{ls:List (List Int)}{row:List Int},RowN n row->(∀l∈ls,RowN n l/\1∈l)->Lds ls->∀l∈ls,(red ls row).getD (fst1 l) 0=0
 |[],row,_,_,_,l,h=>by simp at h
 |a::r,row,h,hl,hp,l,hm=>by
  unfold Lds at hp;rw[qE0]at hp;have ha:=hl a (by simp);have h1:=zG3 h ha.1
  rcases qA6.mp hm with rfl|hm
  ·have hlt:fst1 l<n:=by rw[<- ha.1.1];exact zJ7 ha.2
   refine zNA hlt (ls:=r) h1 (fun s hs=>(hl s (by simp[hs])).1) ?_ fun s hs=>hp.1 s hs
   unfold red1
   split
   ·rename_i z
    rw[zF7 row l _ (by rw[h.1,ha.1.1]) (by rw[h.1];exact hlt),z,zJ8 ha.2];rfl
   ·rename_i z
    rcases zDE (k:=fst1 l) h with w|w
    ·exact w
    ·exact absurd w z
  ·exact zN9 (ls:=r) h1 (fun s hs=>hl s (by simp[hs])) hp.2 l hm
theorem zIJ{x:List Int}(hx:RowN n x):∀{ls:List (List Int)}{row:List Int},RowN n row->(∀l∈ls,RowN n l)->Ker ls x->dot (red ls row) x%2=dot row x%2
 |[],row,_,_,_=>rfl
 |l::r,row,h,hl,hk=>by
  have ha:=hl l (by simp);have ih:=zIJ hx (ls:=r) (zG3 h ha) (fun s hs=>hl s (by simp[hs])) fun s hs=>hk s (by simp[hs])
  show dot (red r (red1 row l)) x%2=_;rw[ih];unfold red1
  split
  ·have:=hk l (by simp)
   rw[zJE row l x (by rw[h.1,ha.1]) hx.2];lia
  ·rfl
theorem zR2:∀{ls:List (List Int)},(∀l∈ls,RowN n l/\1∈l)->Lds ls->Led n ls
 |[],_,_=>trivial
 |l::r,hl,hp=>by
  unfold Lds at hp;rw[qE0]at hp;have ha:=hl l (by simp);exact⟨⟨fst1 l,by rw[<- ha.1.1];exact zJ7 ha.2,zJ8 ha.2,hp.1⟩,zR2 (fun s hs=>hl s (by simp[hs])) hp.2⟩
structure GP(n:Nat)(T ls:List (List Int))(k:Nat):Prop where
 rows:∀l∈ls,RowN n l/\1∈l
 lds:Lds ls
 le:ls.length<=k
 ker:∀x,RowN n x->(Ker ls x↔Ker (T.take k) x)
theorem GP.start(T:List (List Int)):GP n T [] 0:=⟨fun l h=>by simp at h,qCl,qA7 _,fun x _=>by simp[Ker]⟩
theorem zJ0{T:List (List Int)}{k:Nat}{x:List Int}(hk:k<T.length):Ker (T.take (k+1)) x↔Ker (T.take k) x/\dot (T.getD k []) x%2=0:=by
 have e:T.take (k+1)=T.take k++[T.getD k []]:=by
  rw[qAz hk];simp[qA0,qA5 hk]
 rw[e];unfold Ker;constructor
 ·intro h;exact⟨fun r hr=>h r (qBn _ hr),h _ (qAp _ (by simp))⟩
 ·rintro⟨h1,h2⟩ r hr
  rcases qAw.mp hr with hr|hr
  ·exact h1 r hr
  ·rw[qAn.mp hr];exact h2
theorem GP.miss{T ls:List (List Int)}{k:Nat}(a:GP n T ls k)(hT:∀r∈T,RowN n r)(hk:k<T.length)(h:¬1∈red ls (T.getD k [])):GP n T ls (k+1):=by
 have hr:=hT _ (getD_mem (d:=[]) hk);have hrr:RowN n (red ls (T.getD k [])):=zII hr fun l hl=>(a.rows l hl).1
 refine⟨a.rows,a.lds,by have:=a.le;lia,fun x hx=>?_⟩;rw[zJ0 hk,<- a.ker x hx];refine⟨fun hkr=>⟨hkr,?_⟩,fun z=>z.1⟩;rw[<- zIJ hx hr (fun l hl=>(a.rows l hl).1) hkr,zH8 _ x n (by rw[hx.1];exact qA7 _),zEM fun j hj=>?_]
 ·rfl
 ·rcases zDE (k:=j) hrr with w|w
  ·rw[w];simp
  ·exact absurd (by rw[<- w];exact getD_mem (by rw[hrr.1];exact hj)) h
theorem GP.hit{T ls:List (List Int)}{k:Nat}(a:GP n T ls k)(hT:∀r∈T,RowN n r)(hk:k<T.length)(h:1∈red ls (T.getD k [])):GP n T (ls++[red ls (T.getD k [])]) (k+1):=by
 have hr:=hT _ (getD_mem (d:=[]) hk);have hrr:RowN n (red ls (T.getD k [])):=zII hr fun l hl=>(a.rows l hl).1
 refine⟨fun l hl=>?_,?_,by have:=a.le;simp;lia,fun x hx=>?_⟩
 ·rcases qAw.mp hl with hl|hl
  ·exact a.rows l hl
  ·rw[qAn.mp hl];exact⟨hrr,h⟩
 ·unfold Lds;rw[qDf];refine⟨a.lds,by simp,fun l hl s hs=>?_⟩;rw[qAn.mp hs];exact zN9 hr a.rows a.lds l hl
 ·rw[zJ0 hk,<- a.ker x hx];constructor
  ·intro hkr;have h1:Ker ls x:=fun r hr=>hkr r (qBn _ hr)
   have h2:=hkr _ (qAp _ (qAn.mpr rfl));rw[zIJ hx hr (fun l hl=>(a.rows l hl).1) h1]at h2;exact⟨h1,h2⟩
  ·rintro⟨h1,h2⟩ r hrm
   rcases qAw.mp hrm with hrm|hrm
   ·exact h1 r hrm
   ·rw[qAn.mp hrm,zIJ hx hr (fun l hl=>(a.rows l hl).1) h1];exact h2
structure GK(n:Nat)(T:List (List Int))(ks:List Nat)(k:Nat):Prop where
 lt:∀j∈ks,j<k
 up:ks.Pairwise (· < ·)
 ker:∀x,RowN n x->(Ker (ks.map fun j=>T.getD j []) x↔Ker (T.take k) x)
theorem GK.start(T:List (List Int)):GK n T [] 0:=⟨fun j h=>by simp at h,qCl,fun x _=>by simp[Ker]⟩
theorem GK.miss{T ls:List (List Int)}{ks:List Nat}{k:Nat}(b:GK n T ks k)(a:GP n T ls k)(a':GP n T ls (k+1)):GK n T ks (k+1):=
 ⟨fun j hj=>by have:=b.lt j hj;lia,b.up,fun x hx=>by rw[b.ker x hx,<- a.ker x hx,a'.ker x hx]⟩
theorem GK.hit{T:List (List Int)}{ks:List Nat}{k:Nat}(b:GK n T ks k)(hk:k<T.length):GK n T (ks++[k]) (k+1):=by
 refine⟨fun j hj=>?_,?_,fun x hx=>?_⟩
 ·rcases qAw.mp hj with hj|hj
  ·have:=b.lt j hj;lia
  ·rw[qAn.mp hj];lia
 ·rw[qDf];refine⟨b.up,by simp,fun j hj s hs=>?_⟩;rw[qAn.mp hs];exact b.lt j hj
 ·rw[zJ0 hk,<- b.ker x hx,qB3];unfold Ker;constructor
  ·intro h;exact⟨fun r hr=>h r (qBn _ hr),h _ (qAp _ (by simp))⟩
  ·rintro⟨h1,h2⟩ r hr
   rcases qAw.mp hr with hr|hr
   ·exact h1 r hr
   ·rw[qAg,qEz,qAn]at hr;rw[hr];exact h2
end
theorem zNG:∀{l:List Int},1∈l->posI 1 l=some (fst1 l)
 |a::r,h=>by
  unfold posI fst1
  by_cases z:a=1
  ·simp[z]
  ·have:=zNG (l:=r) ((qA6.mp h).elim (fun y=>absurd y.symm z) fun y=>y)
   simp[z,this]
theorem zXY{l:List Int}(h:1∈l):lixD (l.map Dt.int) [.int 1]=some (.int (fst1 l:Nat)):=by
 unfold lixD;dsimp only;rw[zH4];dsimp only;rw[zNG h];rfl
theorem zQZ{n:Nat}{row:List Int}{ls:List (List Int)}(hr:RowN n row)(hl:∀l∈ls,RowN n l/\1∈l)(hn:n<=1000):zBG [rowD row,mat ls]=okR (rowD (red ls row)):=by
 unfold zBG zEA;refine zC2 rfl (zCO fun bb hb=>?_);simp[startO];subst hb;refine zCO fun bb hb=>?_
 unfold sFor;rw[show iSq (eV 1) (frz (frzAt [1] [some (rowD row,0),some (mat ls,0),some (rowD row,0),none]))=okR (ls.map rowD) by simp[mat],bindR_ok];show nxR (forGo (.one 3) _ (ls.map rowD) [some (rowD row,0),some (mat ls,0),some (rowD row,0),none]) _;refine zXN rowD ls (fun left r=>RowN n left/\∃l2 o3,r=[some (rowD row,0),some (mat ls,0),some (rowD left,l2),o3]) red1 row ⟨hr,0,none,rfl⟩ (fun l hm left r h=>?_) fun r h=>?_
 ·obtain⟨h1,l2,o3,rfl⟩:=h;obtain⟨h2,h3⟩:=hl l hm;have x1:eMl lixD (eV 3) (aCons (eC (.int 1)) aNil) [some (rowD row),some (mat ls),some (rowD left),some (rowD l)]=okR (.int (fst1 l:Nat)):=by
   have:=zXY h3
   simp[eMl,rowD,this]
  have hlt:fst1 l<n:=by rw[<- h2.1];exact zJ7 h3
  have i1:=zJ4 left (fst1 l) (by rw[h1.1];exact hlt);have a1:=zSO h1 h2 hn;rw[zEK];have hc:tB (eB eqD (eB ixD (eV 2) (eMl lixD (eV 3) (aCons (eC (.int 1)) aNil))) (eC (.int 1))) [some (rowD row),some (mat ls),some (rowD left),some (rowD l)]=okR (decide (left.getD (fst1 l) 0=1)):=by
   simp only[x_tB,x_eB,x_eC,x1,bindR_ok];simp[-qA0,i1]
  rw[show full ([some (rowD row,0),some (mat ls,0),some (rowD left,l2),o3].set 3 (some (rowD l,0)))=[some (rowD row),some (mat ls),some (rowD left),some (rowD l)] from rfl,hc,bindR_ok]
  by_cases h:left.getD (fst1 l) 0=1
  ·rw[if_pos (by simpa using h)];have e:red1 left l=addB left l:=by unfold red1;rw[if_pos h]
   rw[e];refine zWU (d:=rowD (addB left l)) ?_ ?_ ⟨zGD h1 h2,_,_,rfl⟩ ⟨zGD h1 h2,_,_,rfl⟩
   ·simp[a1]
   ·simp[a1]
  ·rw[if_neg (by simpa using h)];have e:red1 left l=left:=by unfold red1;rw[if_neg h]
   rw[e];exact⟨h1,_,_,rfl⟩
 ·obtain⟨h1,l2,o3,rfl⟩:=h;subst hb;simp[sRetV,red]
theorem zWV{i j:Nat}{vs:List Nat}{e:EM}{ρ ρ2:Ro}{ds es:List Dt}(h:frzAt vs (low j ρ)=ρ2)(h1:ρ2[j]?=some (some (.lst ds,1)))(he:e ((frz ρ2).set j (some (.lst ds)))=okR (.lst es))(hz:Dt.depL es=0/\es.length≠ds.length):sSetL i j vs e ρ=okR (.nx (ρ2.set i (some (.lst es,0)))):=by
 unfold sSetL;rw[h,h1];show zA2 (e ((frz ρ2).set j (some (.lst ds)))) _=_;rw[he,bindR_ok];exact if_pos hz
theorem zYP{i:Nat}{vs:List Nat}{e:EM}{ρ ρ2:Ro}{ds:List Dt}{d:Dt}(h:frzAt vs (low i ρ)=ρ2)(h1:ρ2[i]?=some (some (.lst ds,1)))(he:e (frz ρ2)=okR d)(hz:ds.length<=100000):sAppF i vs e ρ=okR (.nx (ρ2.set i (some (.lst (ds++[d]),1)))):=by
 unfold sAppF;rw[h,h1];show zA2 (e (frz ρ2)) _=_;rw[he,bindR_ok,if_pos hz]
def GpS(n:Nat)(T:List (List Int))(k:Nat)(r:Ro):Prop:=∃ls ks l2 o3 o4 o5,r=[some (mat T,0),some (rowD (numL ks),9),some (mat ls,l2+1),o3,o4,o5]/\GP n T ls k/\GK n T ks k/\ks.length=ls.length
theorem zY9(l:List Int):inD false (.int 1) (rowD l)=some (.bl (decide (1∈l))):=by
 show(hasD (.int 1) (l.map Dt.int)).map _=_
 rw[hasD,if_pos ⟨rfl,zCT _⟩];show some (Dt.bl ((l.map Dt.int).any fun y=>Dt.eq y (.int 1)))=_
 congr 2
 induction l with
 |nil=>rfl
 |cons k r ih=>
  rw[qAg,qCy,ih]
  by_cases h:k=1
  ·subst h;simp
  ·simp[h,show ¬1=k from fun z=>h z.symm]
theorem zP6{n:Nat}{T:List (List Int)}(hT:T.length=n)(hr:∀r∈T,RowN n r)(hn:n<=1000):∃ks ls,zC9 [mat T]=okR (rowD (numL ks))/\ks.length=ls.length/\GP n T ls n/\GK n T ks n:=by
 suffices h:eiR (zCD [some (mat T,0),none,none,none,none,none]) (fun _=>False) (fun d=>∃ks ls,d=rowD (numL ks)/\ks.length=ls.length/\GP n T ls n/\GK n T ks n) by
  rcases h with⟨_,_,z⟩|⟨d,h1,ks,ls,rfl,h2,h3⟩
  ·exact z.elim
  ·exact⟨ks,ls,zC2 rfl h1,h2,h3⟩
 unfold zCD;refine zEN (P:=fun r=>r=[some (mat T,0),some (.lst [],9),none,none,none,none]) (zJC (by simp)) ?_
 rintro r rfl
 refine zEN (P:=fun r=>r=[some (mat T,0),some (.lst [],9),some (mat [],9),none,none,none]) (zJC (by simp[mat])) ?_
 rintro r rfl
 refine zEN (P:=GpS n T n) (zJC ?_) ?_
 ·unfold sFor;rw[show iEn (aCons (eV 0) aNil) (frz (frzAt [0] [some (mat T,0),some (.lst [],9),some (mat [],9),none,none,none]))=okR (enumD 0 (T.map rowD)) by simp[mat],bindR_ok];show nxR (forGo (.tup [3,4]) _ (enumD 0 (T.map rowD)) [some (mat T,0),some (.lst [],9),some (mat [],9),none,none,none]) _;refine zQO (T.map rowD) (GpS n T) ⟨[],[],8,none,none,none,rfl,GP.start T,GK.start T,rfl⟩ (fun k x hx r h=>?_) fun r h=>by rw[qAm,hT]at h;exact h
  obtain⟨ls,ks,l2,o3,o4,o5,rfl,a,b,hps⟩:=h;have hk:k<T.length:=by have:=(qA2.mp hx).1;simpa using this
  have hx':x=rowD (T.getD k []):=by
   rw[qAf,qA5 hk]at hx;cases hx;simp[qA0,qA5 hk]
  subst hx';have hrow:=hr _ (getD_mem (d:=[]) hk);have hred:RowN n (red ls (T.getD k [])):=zII hrow fun l hl=>(a.rows l hl).1
  have lp:=zQZ hrow a.rows hn;have hm:=a.miss hr hk;have hh:=a.hit hr hk;have kh:=b.hit hk;have km:=fun z=>b.miss a (hm z)
  have hle:=a.le
  generalize T.getD k []=row at *
  generalize red ls row=left at *
  refine zDD fun bb hb=>?_
  refine zB0 (r:=[some (mat T,0),some (rowD (numL ks),9),some (mat ls,1),some (.int (k:Nat),0),some (rowD row,0),some (rowD left,0)]) ?_ ?_
  ·have hr0:frzAt [4] (low 2 ([some (mat T,0),some (rowD (numL ks),9),some (mat ls,l2+1),some (.int (k:Nat),0),some (rowD row,0),o5]))=[some (mat T,0),some (rowD (numL ks),9),some (mat ls,1),some (.int (k:Nat),0),some (rowD row,0),o5]:=rfl;have he:∀o0 o1 o3 o5:Option Dt,eCall zBG (aCons (eV 4) (aCons (eV 2) aNil)) [o0,o1,some (mat ls),o3,some (rowD row),o5]=okR (rowD left):=by
    intro o0 o1 o3 o5;simp[lp]
   refine zWV hr0 rfl (es:=left.map Dt.int) ?_ ⟨zCT _,by rw[qAm,qAm,hred.1];lia⟩;rw[show(frz [some (mat T,0),some (rowD (numL ks),9),some (mat ls,1),some (.int (k:Nat),0),some (rowD row,0),o5]).set 2 (some (.lst (ls.map rowD)))=[frz0 (some (mat T,0)),frz0 (some (rowD (numL ks),9)),some (mat ls),frz0 (some (.int (k:Nat),0)),some (rowD row),frz0 o5] from rfl];exact he _ _ _ _
  subst hb;rw[zEK];have hin:=zY9 left;rw[show tB (eB (inD false) (eC (.int 1)) (eV 5)) (full [some (mat T,0),some (rowD (numL ks),9),some (mat ls,1),some (.int (k:Nat),0),some (rowD row,0),some (rowD left,0)])=okR (decide (1∈left)) by simp[hin],bindR_ok]
  by_cases h:1∈left
  ·rw[if_pos (by simpa using h)];refine zDD fun bb hb=>?_
   refine zB0 (zbW (ds:=(numL ks).map Dt.int) (k:=8) (d:=.int (k:Nat)) rfl (by simp) (by simp[numL];lia) (by simp) (by simp)) ?_;subst hb;rw[show Dt.lst ((numL ks).map Dt.int++[.int (k:Nat)])=rowD (numL (ks++[k])) by unfold rowD numL;simp];refine zB0 (r:=[some (mat T,0),some (rowD (numL (ks++[k])),9),some (mat (ls++[left]),1),some (.int (k:Nat),0),some (rowD row,0),some (rowD left,0)]) ?_ ⟨ls++[left],ks++[k],0,_,_,_,rfl,hh h,kh,by simp[hps]⟩
   have:=zYP (i:=2) (vs:=[5]) (e:=eV 5) (ρ:=[some (mat T,0),some (rowD (numL (ks++[k])),9),some (mat ls,1),some (.int (k:Nat),0),some (rowD row,0),some (rowD left,0)]) (ρ2:=[some (mat T,0),some (rowD (numL (ks++[k])),9),some (mat ls,1),some (.int (k:Nat),0),some (rowD row,0),some (rowD left,0)]) (ds:=ls.map rowD) (d:=rowD left) rfl rfl (by simp) (by simp;lia)
   rw[show Dt.lst (ls.map rowD++[rowD left])=mat (ls++[left]) by unfold mat;simp]at this;exact this
  ·rw[if_neg (by simpa using h)];exact⟨ls,ks,0,_,_,_,rfl,hm h,km h,hps⟩
 rintro r ⟨ls,ks,l2,o3,o4,o5,rfl,a,b,hps⟩
 exact .inr ⟨rowD (numL ks),by simp[sRetV],ks,ls,rfl,hps,a,b⟩
theorem zQ4{n:Nat}{f:Nat->Nat->Int}(hn:n<=10)(hb:Bits n f):∃q:Nat,q<=n/\cnt n (KerF n f)=2 ^ q/\(∃ks,ks.length+q=n/\GK n (tab n f) ks n)/\zCS [mat (tab n f)]=okR (.int (q:Int)):=by
 have hT:=zFB n f;have hr:=zMY hb;obtain⟨ks,ls,h1,h2,h3,h4⟩:=zP6 hT hr (by lia);have hle:=h3.le;have hc:=zME ls (zR2 h3.rows h3.lds);have e:cnt n (Ker ls)=cnt n (KerF n f):=zBH fun x hx=>by
  rw[h3.ker x hx,qEu (by rw[hT];exact qA7 _)];exact zR7 hx.1
 rw[e]at hc;refine⟨n-ls.length,by lia,?_,⟨ks,by lia,h4⟩,?_⟩
 ·have hp:2 ^ n=2 ^ (n-ls.length)*2 ^ ls.length:=by rw[<- qFf];congr 1;lia
  rw[hp]at hc;exact qCm (qFg (by lia)) hc
 ·unfold zCS zLD
  have:((n-ls.length:Nat):Int)=(n:Int)-((numL ks).length:Int):=by simp[numL];lia
  simp[startO,h1,hT,this]
theorem zO7{n:Nat}:∀{ks:List Nat},ks.Nodup->(∀k∈ks,k<n)->cnt n (fun x=>∀k∈ks,x.getD k 0=0)*2 ^ ks.length=2 ^ n
 |[],_,_=>by
  rw[zBH (Q:=fun _=>True) fun x _=>⟨fun _=>trivial,fun _ r hr=>by simp at hr⟩,zS7];simp
 |a::r,hd,hk=>by
  rw[qAy]at hd;have ha:=hk a (by simp);have ih:=zO7 (n:=n) (ks:=r) hd.2 fun k hk'=>hk k (by simp[hk'])
  have hh:=zO8 ha (fun x=>∀k∈r,x.getD k 0=0) (fun x=>x.getD a 0=0) (fun x hx h k hk'=>by
   rw[zFG hx ha,if_neg fun z=>hd.1 (by rw[z];exact hk')];exact h k hk') fun x hx=>by
   rw[zFG hx ha,if_pos rfl]
   rcases zDE (k:=a) hx with w|w<;>rw[w]<;>simp
  have hc:cnt n (fun x=>∀k∈a::r,x.getD k 0=0)=cnt n (fun x=>(∀k∈r,x.getD k 0=0)/\x.getD a 0=0):=zBH fun x _=>⟨fun h=>⟨fun s hs=>h s (by simp[hs]),h a (by simp)⟩,fun h s hs=>(qA6.mp hs).elim (fun z=>by rw[z];exact h.2) (h.1 s)⟩
  rw[hc,qAx,qDz,<- ih,hh];rw[qD8 (2 ^ r.length) 2,<- qEj,qD8 _ 2]
structure LR(n:Nat)(T A:List (List Int))(ps:List (List Int×Nat))(p q:Nat):Prop where
 rows:∀r∈A,RowN n r
 zero:∀r∈A,∀k,k<p->r.getD k 0=0
 one:∀a∈ps,a.1.getD a.2 0=1/\a.2<p
 pw:ps.Pairwise fun a b=>b.1.getD a.2 0=0
 num:ps.length+q=p
 ker:∀x,RowN n x->(Ker T x↔Ker (ps.map qF6) x/\Ker A x)
section
variable{n p q:Nat}{T A:List (List Int)}{ps:List (List Int×Nat)}
theorem LR.start(h:∀r∈T,RowN n r):LR n T T [] 0 0:=
 ⟨h,fun _ _ k hk=>by lia,fun a ha=>by simp at ha,qCl,rfl,fun x _=>⟨fun z=>⟨fun r hr=>by simp at hr,z⟩,fun z=>z.2⟩⟩
theorem LR.miss(a:LR n T A ps p q)(h:∀r∈A,r.getD p 0≠1):LR n T A ps (p+1) (q+1):=by
 refine⟨a.rows,fun r hr k hk=>?_,fun b hb=>⟨(a.one b hb).1,by have:=(a.one b hb).2;lia⟩,a.pw,by have:=a.num;lia,a.ker⟩
 by_cases z:k=p
 ·subst z;exact(zDE (k:=k) (a.rows r hr)).elim (fun z=>z) fun z=>absurd z (h r hr)
 ·exact a.zero r hr k (by lia)
def tko(A:List (List Int))(p i:Nat):List (List Int):=(A.eraseIdx i).map fun r=>if r.getD p 0=1 then addB r (A.getD i [])else r
theorem LR.hit(a:LR n T A ps p q)(hp:p<n){i:Nat}(hi:i<A.length)(h1:(A.getD i []).getD p 0=1):LR n T (tko A p i) (ps++[(A.getD i [],p)]) (p+1) q:=by
 have hl:=getD_mem (d:=[]) hi;have hlr:=a.rows _ hl;have hmem:∀r∈tko A p i,∃s∈A,r=if s.getD p 0=1 then addB s (A.getD i [])else s:=fun r hr=>by
  obtain⟨s,hs,rfl⟩:=qAb.mp hr;exact⟨s,qCt hs,rfl⟩
 refine⟨fun r hr=>?_,fun r hr k hk=>?_,fun b hb=>?_,?_,by have:=a.num;simp;lia,fun x hx=>?_⟩
 ·obtain⟨s,hs,rfl⟩:=hmem r hr
  split
  ·exact zGD (a.rows s hs) hlr
  ·exact a.rows s hs
 ·obtain⟨s,hs,rfl⟩:=hmem r hr;have hsr:=a.rows s hs
  split
  ·rename_i z
   rw[zF7 _ _ k (by rw[hsr.1,hlr.1]) (by rw[hsr.1];lia)]
   by_cases w:k=p
   ·subst w;rw[z,h1];rfl
   ·rw[a.zero s hs k (by lia),a.zero _ hl k (by lia)];rfl
  ·rename_i z
   by_cases w:k=p
   ·subst w;exact(zDE (k:=k) hsr).elim (fun z=>z) fun y=>absurd y z
   ·exact a.zero s hs k (by lia)
 ·rcases qAw.mp hb with hb|hb
  ·exact⟨(a.one b hb).1,by have:=(a.one b hb).2;lia⟩
  ·rw[qAn.mp hb];exact⟨h1,by lia⟩
 ·rw[qDf];refine⟨a.pw,by simp,fun b hb c hc=>?_⟩;rw[qAn.mp hc];exact a.zero _ hl _ (a.one b hb).2
 ·rw[a.ker x hx,qB3];constructor
  ·rintro⟨k1,k2⟩
   refine⟨fun r hr=>?_,fun r hr=>?_⟩
   ·rcases qAw.mp hr with hr|hr
    ·exact k1 r hr
    ·rw[qAg,qEz,qAn]at hr;rw[hr];exact k2 _ hl
   ·obtain⟨s,hs,rfl⟩:=hmem r hr;have e1:=k2 s hs;have e2:=k2 _ hl
    split
    ·rw[zJE _ _ x (by rw[(a.rows s hs).1,hlr.1]) hx.2];lia
    ·exact e1
  ·rintro⟨k1,k2⟩
   have e2:dot (A.getD i []) x%2=0:=k1 _ (qAp _ (by simp));refine⟨fun r hr=>k1 r (qBn _ hr),fun r hr=>?_⟩;obtain⟨j,hj,rfl⟩:=mem_getD (d:=[]) hr
   by_cases hji:j=i
   ·subst hji;exact e2
   ·have hjm:A.getD j []∈A.eraseIdx i:=List.mem_eraseIdx_iff_getElem.mpr ⟨j,hj,hji,by simp[qA0,qA5 hj]⟩;have e3:=k2 _ (qAb.mpr ⟨_,hjm,rfl⟩)
    split at e3
    ·rw[zJE _ _ x (by rw[(a.rows _ hr).1,hlr.1]) hx.2]at e3
     lia
    ·exact e3
theorem zVN:∀{ps:List (List Int×Nat)}{n:Nat},(∀a∈ps,a.1.getD a.2 0=1/\a.2<n)->(ps.Pairwise fun a b=>b.1.getD a.2 0=0)->Led n (ps.map qF6)
 |[],_,_,_=>trivial
 |a::r,n,h1,h2=>by
  rw[qE0]at h2;have ha:=h1 a (by simp);refine⟨⟨a.2,ha.2,ha.1,fun s hs=>?_⟩,zVN (fun b hb=>h1 b (by simp[hb])) h2.2⟩;obtain⟨b,hb,rfl⟩:=qAb.mp hs;exact h2.1 b hb
theorem LR.fin(a:LR n T A ps n q):cnt n (Ker T)=2 ^ q:=by
 have h1:=zME (n:=n) (ps.map qF6) (zVN a.one a.pw);have h2:cnt n (Ker T)=cnt n (Ker (ps.map qF6)):=zBH fun x hx=>by
  rw[a.ker x hx];refine⟨fun z=>z.1,fun z=>⟨z,fun r hr=>?_⟩⟩;rw[zH8 r x n (by rw[hx.1];exact qA7 _),zEM fun k hk=>by rw[a.zero r hr k hk];simp];rfl
 rw[h2];have h3:=a.num;rw[qAm]at h1;have hp:2 ^ n=2 ^ q*2 ^ ps.length:=by rw[<- qFf];congr 1;lia
 rw[hp]at h1;exact qCm (qFg (by lia)) h1
end
noncomputable def ext1(ws:List Int)(c:List Int):List (List Int):=ws.map fun w=>c++[w]
def lng(ws:List Int)(A:List (List Int)):List (List Int):=(A.map (ext1 ws)).flatten
def chW(ws:List Int):Nat->List (List Int)
 |0=>[[]]
 |n+1=>lng ws (chW ws n)
theorem zLZ(ws:List Int):∀A:List (List Int),(lng ws A).length=ws.length*A.length
 |[]=>rfl
 |a::A=>by
  have:=zLZ ws A
  unfold lng at this ⊢;rw[qAg,qBq,qB4,this];simp[ext1,Nat.mul_add]
  lia
theorem zHB(ws:List Int):∀n,(chW ws n).length=ws.length ^ n
 |0=>rfl
 |n+1=>by rw[chW,zLZ,zHB ws n,qDz,qD8]
theorem zMI{ws:List Int}:∀{n:Nat}{c:List Int},c∈chW ws n->c.length=n/\∀w∈c,w∈ws
 |0,c,h=>by
  simp[chW]at h;subst h;exact⟨rfl,fun w hw=>by simp at hw⟩
 |n+1,c,h=>by
  obtain⟨l,hl,hc⟩:=List.mem_flatten.mp h;obtain⟨d,hd,rfl⟩:=qAb.mp hl;obtain⟨w,hw,rfl⟩:=qAb.mp hc
  have:=zMI hd
  refine⟨by simp[this.1],fun v hv=>?_⟩
  rcases qAw.mp hv with hv|hv
  ·exact this.2 v hv
  ·rw[qAn.mp hv];exact hw
theorem zHM(ws:List Int)(A:List (List Int))(hw:ws.length<=3)(hA:A.length<=1000)(hr:∀r∈A,r.length<=100):zBY [mat A,.scr ws]=okR (mat (lng ws A)):=by
 unfold zBY zFT;refine zC2 rfl (zCO fun bb hb=>?_);refine zB0 (r:=[some (mat A,0),some (.scr ws,0),some (.lst [],9),none]) (by simp[startO]) ?_;subst hb;refine zCO fun bb hb=>?_
 unfold sFor;rw[show iSq (eV 0) (frz (frzAt [0] [some (mat A,0),some (.scr ws,0),some (.lst [],9),none]))=okR (A.map rowD) by simp[mat],bindR_ok];show nxR (forGo (.one 3) _ (A.map rowD) [some (mat A,0),some (.scr ws,0),some (mat (lng ws (A.take 0)),9),none]) _;refine zXO rowD A (fun q r=>∃o3,r=[some (mat A,0),some (.scr ws,0),some (mat (lng ws (A.take q)),9),o3]) ⟨none,rfl⟩ (fun q c hq r hr'=>?_) fun r hr'=>?_
 ·obtain⟨o3,rfl⟩:=hr';have hcl:c.length<=100:=hr c (qB1 hq);have hqA:q<A.length:=(qA2.mp hq).1;have hc:∀x:Dt,eComp (iSq (eV 1)) 1 (.one 4) Mi.tYes (eB addD (eV 3) (eLst (aCons (eV 4) aNil))) [some (mat A),some (.scr ws),some x,some (rowD c)]=okR (.lst ((ext1 ws c).map rowD)):=by
   intro x;refine qHr (zC6 (i:=4) Dt.int (fun w=>rowD (c++[w])) ws rfl rfl (fun w _=>?_) _ (by simp) (by lia)) ?_
   ·have e1:Dt.lst [.int w]=rowD [w]:=rfl;have e2:=addR c [w] (by simp;lia);simp[e1,e2]
   ·unfold ext1;rw[qAq];rfl
  have hfl:(lng ws (A.take q)).length<=3000:=by
   rw[zLZ,qDc]
   have:=Nat.mul_le_mul hw (show min q A.length<=1000 by lia)
   lia
  have hel:(ext1 ws c).length=ws.length:=by simp[ext1]
  have hd3:=zHA (ext1 ws c);refine zB0 (r:=[some (mat A,0),some (.scr ws,0),some (mat (lng ws (A.take q)++ext1 ws c),9),some (rowD c,0)]) ?_ ⟨some (rowD c,0),?_⟩
  ·unfold sExt;show zA2 (eComp _ 1 _ _ _ [some (mat A),some (.scr ws),some _,some (rowD c)]) _=_;rw[hc,bindR_ok];dsimp only;rw[if_pos ⟨by rw[qAm,qAm];lia,by lia,by lia⟩];simp[mat]
  ·have ht:A.take (q+1)=A.take q++[c]:=by rw[qFs,hq];rfl
   rw[ht];unfold lng;simp
 ·obtain⟨o3,rfl⟩:=hr';subst hb;rw[qBw];simp[sRetV]
theorem zSM(ws:List Int)(n:Nat)(hn:n<=6)(hw:ws.length<=3):zBB [.int (n:Int),.scr ws]=okR (mat (chW ws n)):=by
 unfold zBB zDS;refine zC2 rfl (zCO fun bb hb=>?_);have h6:¬(6:Int)<n:=by lia
 refine zB0 (r:=[some (.int (n:Int),0),some (.scr ws,0),none,none]) (by simp[startO,h6]) ?_;subst hb;refine zCO fun bb hb=>?_
 refine zB0 (r:=[some (.int (n:Int),0),some (.scr ws,0),some (mat (chW ws 0),10),none]) (by
  have:mat (chW ws 0)=.lst [.lst []]:=rfl
  rw[this];simp) ?_
 subst hb;refine zCO fun bb hb=>?_
 rw[zEB,zGE (n:=n) (by simp) (by lia),bindR_ok];refine zLU (fun k r=>∃o3 l,9<=l/\l<=10/\r=[some (.int (n:Int),0),some (.scr ws,0),some (mat (chW ws k),l),o3]) ⟨none,10,by lia,by lia,rfl⟩ (fun k hk r hr=>?_) fun r hr=>?_
 ·obtain⟨o3,l,h1,h2,rfl⟩:=hr;have hlen:(chW ws k).length<=1000:=by
   rw[zHB];have h1:ws.length ^ k<=3 ^ k:=qFh hw k;have h2:3 ^ k<=3 ^ 6:=qDg (by lia) (by lia)
   lia
  have h:=zHM ws (chW ws k) hw hlen fun r hr=>by rw[(zMI hr).1];lia
  have hd:=zDP (chW ws (k+1));have h':zBY [mat (chW ws k),.scr ws]=okR (mat (chW ws (k+1))):=h;refine zB0 (r:=[some (.int (n:Int),0),some (.scr ws,0),some (mat (chW ws (k+1)),9),some (.int (k:Nat),0)]) ?_ ⟨_,9,by lia,by lia,rfl⟩;simp[h',show(mat (chW ws (k+1))).dep<=9 by lia]
 ·obtain⟨o3,l,h1,h2,rfl⟩:=hr;subst hb;have hd:=zDP (chW ws n);simp[sRetV];intro _ b
  have:=b (by lia) (by lia)
  lia
theorem zP9{ρ:Rh}{e:EM}{c:TM}{i j:Nat}(xs:List Dt)(g:Nat->Dt)(f:Nat->Bool)(hi:i=ρ.length)(hj:j=ρ.length+1)(it:IM)(hit:it ρ=okR (enumD 0 xs))(hn:xs.length<=100000)(hc:∀k x,xs[k]?=some x->c (ρ++[some (.int (k:Nat)),some x])=okR (f k))(h:∀k x,xs[k]?=some x->e (ρ++[some (.int (k:Nat)),some x])=okR (g k)):eComp it 2 (.tup [i,j]) c e ρ=okR (.lst (((qA9 xs.length).filter f).map g)):=by
 subst hi hj;unfold eComp;rw[hit,bindR_ok,if_pos ⟨by rw[zJB];exact hn,by simp[Tg.idx]⟩];have go:∀(m k:Nat)(acc:List Dt),k+m=xs.length->compGo ρ 2 (.tup [ρ.length,ρ.length+1]) c e (enumD k (xs.drop k)) acc=okR (acc++((List.range' k m).filter f).map g):=by
  intro m
  induction m with
  |zero=>
   intro k acc hk;rw[List.drop_of_length_le (by lia)];simp[enumD,compGo]
  |succ m ih=>
   intro k acc hk;have hx:xs[k]?=some xs[k]:=qA5 (by lia);rw[qC1 (by lia),enumD,compGo];have es:zAK (ρ++qA4 2 none) [(ρ.length,.int (k:Nat)),(ρ.length+1,xs[k])]=ρ++[some (.int (k:Nat)),some xs[k]]:=by
    simp[zAK]
   show zA2 (c (zAK (ρ++qA4 2 none) [(ρ.length,.int (k:Nat)),(ρ.length+1,xs[k])])) _=_;rw[es,hc k _ hx,bindR_ok,List.range'_succ];cases hf:f k with
   |true=>
    rw[if_pos rfl];show zA2 (e (zAK (ρ++qA4 2 none) [(ρ.length,.int (k:Nat)),(ρ.length+1,xs[k])])) _=_;rw[es,h k _ hx,bindR_ok,ih (k+1) _ (by lia),qEh hf];simp
   |false=>
    rw[if_neg (by simp),ih (k+1) _ (by lia),qEi (by simp[hf])]
 have:=go xs.length 0 [] (by lia)
 rw[qE2]at this;rw[this,bindR_ok,List.range_eq_range'];simp
theorem zWG{ρ:Rh}{am:AM}{i j:Nat}(a b:List Int)(hi:i=ρ.length)(hj:j=ρ.length+1)(ha:am ρ=okR [rowD a,rowD b])(hl:a.length=b.length)(hz:a.length<=1000):eComp (iZi am) 2 (.tup [i,j]) Mi.tYes (eB modD (eB addD (eV i) (eV j)) (eC (.int 2))) ρ=okR (rowD (addB a b)):=by
 subst hi hj;have hzl:∀a b:List Int,a.length=b.length->(zipD (a.map Dt.int) (b.map Dt.int)).length=a.length:=by
  intro a
  induction a with
  |nil=>intro b h;cases b with|nil=>rfl|cons=>simp at h
  |cons x a ih=>intro b h;cases b with|nil=>simp at h|cons y b=>simp[zipD,ih b (by simpa using h)]
 unfold eComp;have hit:iZi am ρ=okR (zipD (a.map Dt.int) (b.map Dt.int)):=by
  unfold iZi;rw[ha,bindR_ok];rfl
 rw[hit,bindR_ok,if_pos ⟨by rw[hzl a b hl];lia,by simp[Tg.idx]⟩];have go:∀(a b:List Int)(acc:List Dt),a.length=b.length->compGo ρ 2 (.tup [ρ.length,ρ.length+1]) Mi.tYes (eB modD (eB addD (eV ρ.length) (eV (ρ.length+1))) (eC (.int 2))) (zipD (a.map Dt.int) (b.map Dt.int)) acc=okR (acc++(addB a b).map Dt.int):=by
  intro a
  induction a with
  |nil=>intro b acc h;cases b with|nil=>simp[zipD,compGo,addB]|cons=>simp at h
  |cons x a ih=>
   intro b acc h;cases b with
   |nil=>simp at h
   |cons y b=>
    rw[qAg,qAg,zipD,compGo];have es:zAK (ρ++qA4 2 none) [(ρ.length,.int x),(ρ.length+1,.int y)]=ρ++[some (.int x),some (.int y)]:=by
     simp[zAK]
    show zA2 (okR true) _=_;rw[bindR_ok,if_pos rfl];show zA2 (eB modD (eB addD (eV ρ.length) (eV (ρ.length+1))) (eC (.int 2)) (zAK (ρ++qA4 2 none) [(ρ.length,.int x),(ρ.length+1,.int y)])) _=_;rw[es,show eB modD (eB addD (eV ρ.length) (eV (ρ.length+1))) (eC (.int 2)) (ρ++[some (.int x),some (.int y)])=okR (.int ((x+y)%2)) by simp,bindR_ok,ih b _ (by simpa using h)];simp[addB]
 rw[go a b [] hl,bindR_ok];simp[rowD]
theorem zTZ{r:Ro}{i l a:Nat}{A:List (List Int)}{v:List Int}{e1 e2:EM}(h:r[i]?=some (some (mat A,l+2)))(h2:e2 (full r)=okR (rowD v))(h1:e1 (full r)=okR (.int (a:Nat)))(ha:a<A.length):sItem i 1 e1 e2 r=okR (.nx (r.set i (some (mat (A.set a v),l+2)))):=by
 unfold sItem;rw[h2,bindR_ok,h];show zA2 (e1 (full r)) _=_;rw[h1,bindR_ok];dsimp only;rw[zH0 (by lia) (by simp;lia)];dsimp only;rw[if_pos ⟨by rw[zC1];lia,by rw[zC1];lia⟩,qBa];unfold mat;rw[qDx]
theorem zKV{α β:Type}(f:α->β):∀(l:List α)(i:Nat),(l.eraseIdx i).map f=(l.map f).eraseIdx i
 |[],_=>rfl
 |a::r,0=>rfl
 |a::r,i+1=>by simp[zKV f r i]
def RsS(n:Nat)(T:List (List Int))(p:Nat)(r:Ro):Prop:=∃A ps q l1 o2 o3 o4 o5,r=[some (mat A,2),some (.int (q:Nat),l1),o2,o3,o4,o5]/\LR n T A ps p q/\A.length<=n/\l1<=1
theorem zT4(n:Nat)(T:List (List Int))(hT:T.length=n)(hr:∀r∈T,RowN n r)(hn:n<=10):∃q:Nat,zGT [mat T]=okR (.int (q:Int))/\cnt n (Ker T)=2 ^ q:=by
 suffices h:eiR (zEJ [some (mat T,0),none,none,none,none,none]) (fun _=>False) (fun d=>∃q:Nat,d=.int (q:Int)/\cnt n (Ker T)=2 ^ q) by
  rcases h with⟨_,_,z⟩|⟨d,h1,q,rfl,h2⟩
  ·exact z.elim
  ·exact⟨q,zC2 rfl h1,h2⟩
 unfold zEJ;have hc:eComp (iSq (eV 0)) 1 (.one 6) Mi.tYes (eBi listD (aCons (eV 6) aNil)) [some (mat T),none,none,none,none,none]=okR (mat T):=
  zC6 rowD rowD T rfl rfl (fun r _=>by simp) _ (by simp[mat]) (by lia)
 have hdT:=zDP T;refine zEN (P:=fun r=>r=[some (mat T,2),none,none,none,none,none]) (zJC (by simp[hc,hdT])) ?_
 rintro r rfl
 refine zEN (P:=fun r=>r=[some (mat T,2),some (.int 0,0),none,none,none,none]) (zJC (by simp)) ?_
 rintro r rfl
 refine zEN (P:=RsS n T n) (zJC ?_) ?_
 ·rw[zEB,zGE (n:=n) (by simp[hT]) (by lia),bindR_ok];refine zLU (RsS n T) ⟨T,[],0,0,none,none,none,none,rfl,LR.start hr,by lia,by lia⟩ (fun p hp r hr0=>?_) fun r h=>h
  obtain⟨A,ps,q,l1,o2,o3,o4,o5,rfl,a,hlA,hl1⟩:=hr0
  let bs:List Nat:=(qA9 A.length).filter fun k=>decide (ent A k p=1)
  have hbs:∀o1 o3 o4 o5:Option Dt,eComp (iEn (aCons (eV 0) aNil)) 2 (.tup [6,7]) (tB (eB eqD (eB ixD (eV 7) (eV 2)) (eC (.int 1)))) (eV 6) [some (mat A),o1,some (.int (p:Nat)),o3,o4,o5]=okR (rowD (numL bs)):=by
   intro o1 o3 o4 o5
   have:=zP9 (ρ:=[some (mat A),o1,some (.int (p:Nat)),o3,o4,o5]) (c:=tB (eB eqD (eB ixD (eV 7) (eV 2)) (eC (.int 1)))) (e:=eV 6) (i:=6) (j:=7) (A.map rowD) (fun k=>Dt.int (k:Int)) (fun k=>decide (ent A k p=1)) rfl rfl (iEn (aCons (eV 0) aNil)) (by simp[mat]) (by simp;lia) (fun k x hx=>by
    have hk:k<A.length:=by have:=(qA2.mp hx).1;simpa using this
    have hx':x=rowD (A.getD k []):=by
     rw[qAf,qA5 hk]at hx;cases hx;simp[qA0,qA5 hk]
    subst hx';have i1:=zJ4 (A.getD k []) p (by rw[(a.rows _ (getD_mem hk)).1];exact hp);simp[-qA0,i1,ent]
    rfl) (fun k x hx=>by simp)
   rw[this,numD,qAm]
  refine zDD fun bb hb=>?_
  refine zB0 (r:=[some (mat A,2),some (.int (q:Nat),l1),some (.int (p:Nat),0),some (rowD (numL bs),1),o4,o5]) (by simp[hbs]) ?_;subst hb;rw[zEK];have hnl:(numL bs).length=bs.length:=by simp[numL]
  by_cases h0:bs.length=0
  ·rw[show tB (eB eqD (eBi lenD (aCons (eV 3) aNil)) (eC (.int 0))) (full [some (mat A,2),some (.int (q:Nat),l1),some (.int (p:Nat),0),some (rowD (numL bs),1),o4,o5])=okR true by simp[hnl,h0],bindR_ok,if_pos rfl];refine zB0 (r:=[some (mat A,2),some (.int ((q+1:Nat):Int),1),some (.int (p:Nat),0),some (rowD (numL bs),1),o4,o5]) (by simp) ⟨A,ps,q+1,_,_,_,_,_,rfl,a.miss fun r hrA h1=>?_,hlA,by lia⟩;obtain⟨i,hi,rfl⟩:=mem_getD (d:=[]) hrA
   have:i∈bs:=qB6.mpr ⟨by simpa using hi,by simpa[ent]using h1⟩
   have:=qEv this
   lia
  ·rw[show tB (eB eqD (eBi lenD (aCons (eV 3) aNil)) (eC (.int 0))) (full [some (mat A,2),some (.int (q:Nat),l1),some (.int (p:Nat),0),some (rowD (numL bs),1),o4,o5])=okR false by simp[hnl];intro z;rw[z]at h0;simp at h0,bindR_ok,if_neg (by simp)];obtain⟨i,hbi⟩:∃i,bs.getD 0 0=i:=⟨_,rfl⟩
   have him:i∈bs:=by rw[<- hbi];exact getD_mem (by lia)
   obtain⟨g1,g2⟩:=qB6.mp him;have hi:i<A.length:=by simpa using g1
   have hone:(A.getD i []).getD p 0=1:=of_decide_eq_true g2;have hhit:=a.hit hp hi hone;have hlr:=a.rows _ (getD_mem (d:=[]) hi);have ix0:ixD (rowD (numL bs)) (.int 0)=some (.int (i:Nat)):=by
    have:=zJ4 (numL bs) 0 (by lia)
    rw[show(numL bs).getD 0 0=((bs.getD 0 0:Nat):Int) by unfold numL;rw[zU9 (d:=0) (by lia)],hbi]at this;exact this
   refine zDD fun bb hb=>?_
   refine zB0 (r:=[some (mat (A.eraseIdx i),2),some (.int (q:Nat),l1),some (.int (p:Nat),0),some (rowD (numL bs),1),some (rowD (A.getD i []),1),o5]) ?_ ?_
   ·have hqx:ixA (A.map rowD).length (i:Int)=some i:=by rw[zH0 (by lia) (by simp;lia)];simp
    have hge:(A.map rowD)[i]?=some (rowD (A.getD i [])):=by
     rw[qAf,qA5 hi];simp[qA0,qA5 hi]
    unfold sPop;show zA2 (eB ixD (eV 3) (eC (.int 0)) (full [some (mat A,2),some (.int (q:Nat),l1),some (.int (p:Nat),0),some (rowD (numL bs),1),o4,o5])) _=_;rw[show eB ixD (eV 3) (eC (.int 0)) (full [some (mat A,2),some (.int (q:Nat),l1),some (.int (p:Nat),0),some (rowD (numL bs),1),o4,o5])=okR (.int (i:Nat)) by simp[ix0],bindR_ok];dsimp only;rw[hqx];dsimp only;rw[hge];dsimp only;rw[if_pos ⟨by lia,by simp;lia⟩];unfold mat;rw[zKV];rfl
   subst hb
   generalize hlead:A.getD i []=lead at *
   have hEl:(A.eraseIdx i).length<=n:=by have:=List.length_eraseIdx_le A i;lia
   have hEr:∀r∈A.eraseIdx i,RowN n r:=fun r hr'=>a.rows r (qCt hr')
   have hfin:tko A p i=(A.eraseIdx i).map fun r=>if r.getD p 0=1 then addB r lead else r:=by unfold tko;rw[hlead]
   generalize A.eraseIdx i=B at *
   let st:List Int->List Int:=fun r=>if r.getD p 0=1 then addB r lead else r
   rw[zEB,zGE (n:=B.length) (by simp) (by lia),bindR_ok];refine zLU (fun k r=>∃o5,r=[some (mat ((B.take k).map st++B.drop k),2),some (.int (q:Nat),l1),some (.int (p:Nat),0),some (rowD (numL bs),1),some (rowD lead,1),o5]) ⟨o5,by simp⟩ (fun k hk r hr'=>?_) fun r hr'=>?_
   ·obtain⟨o5,rfl⟩:=hr';have hBk:=hEr _ (getD_mem (d:=[]) hk);have hCl:((B.take k).map st++B.drop k).length=B.length:=by simp;lia
    have hCk:((B.take k).map st++B.drop k).getD k []=B.getD k []:=by
     rw[qA0,qA0,qAe (by simp;lia)];simp[Nat.min_eq_left (qCd hk)]
    have hset:((B.take k).map st++B.drop k).set k (st (B.getD k []))=(B.take (k+1)).map st++B.drop (k+1):=by
     have hl:((B.take k).map st).length=k:=by simp;lia
     have hg:B.getD k []=B[k]:=by simp[qA0,qA5 hk]
     rw[qF1 _ _ (by lia),hl,Nat.sub_self,qC1 hk,List.set_cons_zero,qAz hk,qB3,qB2,hg];rfl
    have i1:=zcR ((B.take k).map st++B.drop k) k (by lia);rw[hCk]at i1;have i2:=zJ4 (B.getD k []) p (by rw[hBk.1];exact hp);rw[zEK]
    by_cases h1:(B.getD k []).getD p 0=1
    ·rw[show tB (eB eqD (eB ixD (eB ixD (eV 0) (eV 5)) (eV 2)) (eC (.int 1))) (full ([some (mat ((B.take k).map st++B.drop k),2),some (.int (q:Nat),l1),some (.int (p:Nat),0),some (rowD (numL bs),1),some (rowD lead,1),o5].set 5 (some (.int (k:Nat),0))))=okR true by simp[-qA0,-qFm,i1,i2,h1],bindR_ok,if_pos rfl];have hz:=zWG (ρ:=[some (mat ((B.take k).map st++B.drop k)),some (.int (q:Nat)),some (.int (p:Nat)),some (rowD (numL bs)),some (rowD lead),some (.int (k:Nat))]) (am:=aCons (eB ixD (eV 0) (eV 5)) (aCons (eV 4) aNil)) (i:=6) (j:=7) (B.getD k []) lead rfl rfl (by simp[-qA0,-qFm,i1]) (by rw[hBk.1,hlr.1]) (by rw[hBk.1];lia);have hst:st (B.getD k [])=addB (B.getD k []) lead:=if_pos h1;refine zB0 (zTZ (l:=0) (a:=k) (A:=(B.take k).map st++B.drop k) rfl hz (by simp) (by lia)) ⟨some (.int (k:Nat),0),?_⟩;rw[<- hset,hst];rfl
    ·rw[show tB (eB eqD (eB ixD (eB ixD (eV 0) (eV 5)) (eV 2)) (eC (.int 1))) (full ([some (mat ((B.take k).map st++B.drop k),2),some (.int (q:Nat),l1),some (.int (p:Nat),0),some (rowD (numL bs),1),some (rowD lead,1),o5].set 5 (some (.int (k:Nat),0))))=okR false by simp[-qA0,-qFm,i1,i2,h1],bindR_ok,if_neg (by simp)];have hst:st (B.getD k [])=B.getD k []:=if_neg h1;refine⟨some (.int (k:Nat),0),?_⟩;rw[<- hset,hst];rw[show((B.take k).map st++B.drop k).set k (B.getD k [])=(B.take k).map st++B.drop k by
      rw[<- hCk,qA0,qA5 (by lia)]
      simp]
     rfl
   ·obtain⟨o5,rfl⟩:=hr';rw[qBw,qEp,qBk,show B.map st=tko A p i from hfin.symm];exact⟨tko A p i,_,q,l1,_,_,_,_,rfl,hhit,by rw[hfin,qAm];exact hEl,hl1⟩
 rintro r ⟨A,ps,q,l1,o2,o3,o4,o5,rfl,a,_,hl1⟩
 refine .inr ⟨.int (q:Int),?_,q,rfl,a.fin⟩;simp[sRetV]
 lia
noncomputable def dg(v:Nat->Int)(q:Nat)(ks:List Nat)(g:Nat->Nat->Int):Nat->Nat->Int:=fun a b=>if a=b/\a<q then v (ks.getD a 0)else g a b
theorem zRX{T C:Dt}{l0 l1 l2:Nat}{ks:List Nat}{g:Nat->Nat->Int}{e2:EM}(v:Nat->Int)(hz:ks.length<=1000)(he:∀q k X,ks[q]?=some k->e2 [some T,some C,some (rowD (numL ks)),some X,some (.int (q:Nat)),some (.int (k:Nat))]=okR (.int (v k))) :
  nxR (sFor [2] (iEn (aCons (eV 2) aNil)) (.tup [4,5]) (sItem2 3 0 (eV 4) (eV 4) e2) [some (T,l0),some (C,l1),some (rowD (numL ks),l2),some (mat (tab ks.length g),2),none,none]) fun r=>∃o4 o5,r=[some (T,l0),some (C,l1),some (rowD (numL ks),0),some (mat (tab ks.length (dg v ks.length ks g)),2),o4,o5]:=by
 unfold sFor;rw[show iEn (aCons (eV 2) aNil) (frz (frzAt [2] [some (T,l0),some (C,l1),some (rowD (numL ks),l2),some (mat (tab ks.length g),2),none,none]))=okR (enumD 0 (ks.map fun k:Nat=>Dt.int (k:Int))) by simp[numD],bindR_ok];show nxR (forGo (.tup [4,5]) _ (enumD 0 (ks.map fun k:Nat=>Dt.int (k:Int))) [some (T,l0),some (C,l1),some (rowD (numL ks),0),some (mat (tab ks.length g),2),none,none]) _;refine zQO (ks.map fun k:Nat=>Dt.int (k:Int)) (fun q r=>∃o4 o5,r=[some (T,l0),some (C,l1),some (rowD (numL ks),0),some (mat (tab ks.length (dg v q ks g)),2),o4,o5]) ⟨none,none,?_⟩ (fun q x hx r hr=>?_) fun r h=>by rw[qAm]at h;exact h
 ·have:dg v 0 ks g=g:=by funext a b;unfold dg;rw[if_neg (by lia)]
  rw[this]
 ·obtain⟨o4,o5,rfl⟩:=hr;rw[qAf]at hx;cases hk:ks[q]? with
  |none=>rw[hk]at hx;cases hx
  |some k=>
   rw[hk]at hx;cases hx;have hq:q<ks.length:=(qA2.mp hk).1;refine zB0 (zKQ (l:=0) (a:=q) (b:=q) (v:=v k) rfl (by simp) (by simp) (he q k _ hk) hq hq) ⟨some (.int (q:Nat),0),some (.int (k:Nat),0),?_⟩
   have:(fun x y=>if x=q/\y=q then v k else dg v q ks g x y)=dg v (q+1) ks g:=by
    funext x y
    unfold dg;have hkq:ks.getD q 0=k:=by rw[qA0,hk];rfl
    by_cases h:x=q/\y=q
    ·rw[if_pos h,if_pos (by lia),h.1,hkq]
    ·rw[if_neg h]
     by_cases h2:x=y/\x<q
     ·rw[if_pos h2,if_pos (by lia)]
     ·rw[if_neg h2,if_neg (by lia)]
   rw[this];rfl
noncomputable def kept(n:Nat)(c:List Int):List Nat:=(qA9 n).filter fun k=>decide (c.getD k 0≠0)
theorem zJ1{n:Nat}{c:List Int}:∀k∈kept n c,k<n:=fun k hk=>by
 have:=(qB6.mp hk).1
 simpa using this
theorem zJ2(n:Nat)(c:List Int):(kept n c).length<=n:=qAr (List.length_filter_le _ _) (by simp)
def cpF(n:Nat)(c:List Int)(f:Nat->Nat->Int):Nat->Nat->Int:=dg (fun k=>if c.getD k 0=1 then 1 else 0) (kept n c).length (kept n c) (sub (kept n c) f)
theorem zMG{n:Nat}{f:Nat->Nat->Int}{c:List Int}(hn:n<=10)(hc:c.length=n):zBM [mat (tab n f),rowD c]=okR (mat (tab (kept n c).length (cpF n c f))):=by
 have hkl:=zJ2 n c;have h1:zBI [rowD c]=okR (rowD (numL (kept n c))):=by
  unfold zBI zD9;have hcc:eComp (iR1 (aCons (eBi lenD (aCons (eV 0) aNil)) aNil)) 1 (.one 1) (tB (eB neD (eB ixD (eV 0) (eV 1)) (eC (.int 0)))) (eV 1) [some (rowD c)]=okR (rowD (numL (kept n c))):=by
   rw[numD];refine zD7 (fun k:Nat=>Dt.int (k:Int)) _ (fun k=>decide (c.getD k 0≠0)) (qA9 n) rfl (fun k hk=>?_) (fun k _ _=>by simp) _ (by rw[zGE (n:=n) (by simp[hc]) (by lia),zCJ]) (by simp;lia);have i1:=zJ4 c k (by rw[hc];simpa using hk);simp[-qA0,i1]
  simp[startO,hcc]
 have h2:=zTL n f (kept n c) zJ1 (by lia);have hd:=zDP (tab (kept n c).length (sub (kept n c) f));unfold zBM zF5;refine zC2 rfl (zCO fun bb hb=>?_);refine zB0 (r:=[some (mat (tab n f),0),some (rowD c,0),some (rowD (numL (kept n c)),1),none,none,none]) (by simp[startO,h1]) ?_;subst hb;refine zCO fun bb hb=>?_
 refine zB0 (r:=[some (mat (tab n f),0),some (rowD c,0),some (rowD (numL (kept n c)),1),some (mat (tab (kept n c).length (sub (kept n c) f)),2),none,none]) (by simp[h2,hd]) ?_;subst hb;refine zCO fun bb hb=>?_
 obtain⟨r',g1,o4,o5,rfl⟩:=zD0 (zRX (T:=mat (tab n f)) (C:=rowD c) (l0:=0) (l1:=0) (l2:=1) (ks:=kept n c) (g:=sub (kept n c) f) (e2:=eIf (tB (eB eqD (eB ixD (eV 1) (eV 5)) (eC (.int 1)))) (eC (.int 1)) (eC (.int 0))) (fun k=>if c.getD k 0=1 then 1 else 0) (by lia) fun q k X hk=>by
  have i1:=zJ4 c k (by rw[hc];exact zJ1 k (qB1 hk))
  by_cases h:c.getD k 0=1
  ·simp[-qA0,i1,h]
  ·simp[-qA0,i1,h])
 refine zB0 g1 ?_;subst hb;simp[sRetV,cpF]
theorem zJG{n m:Nat}{P Q:List Int->Prop}(f:List Int->List Int)(hf:∀x,RowN n x->P x->RowN m (f x)/\Q (f x))(hi:∀x y,RowN n x->P x->RowN n y->P y->f x=f y->x=y):cnt n P<=cnt m Q:=by
 classical
 unfold cnt;have h1:(((allv n).filter fun x=>decide (P x)).map f).Nodup:=zCR ((zFK n).filter _) fun x hx y hy=>by
  obtain⟨a1,a2⟩:=qB6.mp hx;obtain⟨b1,b2⟩:=qB6.mp hy;exact hi x y (allv_mem.mp a1) (by simpa using a2) (allv_mem.mp b1) (by simpa using b2)
 have h2:=zGR _ ((allv m).filter fun x=>decide (Q x)) h1 fun z hz=>by
  obtain⟨x,hx,rfl⟩:=qAb.mp hz;obtain⟨g1,g2⟩:=qB6.mp hx;obtain⟨k1,k2⟩:=hf x (allv_mem.mp g1) (by simpa using g2);exact qB6.mpr ⟨allv_mem.mpr k1,by simpa using k2⟩
 rw[qAm]at h2;exact h2
theorem zUN{m:Nat}{P:List Int->Prop}:cnt (m+1) (fun z=>P z.tail)=2*cnt m P:=by
 classical
 unfold cnt;rw[allv,List.filter_append,qB4,qGe,qGe,qAm,qAm];have e:∀b:Int,((fun z:List Int=>decide (P z.tail))∘qE9 b)=fun x=>decide (P x):=fun b=>rfl
 rw[e,e]
 lia
structure Cst(ts C:List Nat)(n:Nat)(F:Nat->Int):Prop where
 hb:∀e,Bit (F e)
 hn:∀e,e<4*n->F (nt ts e)=F e
 hj:∀e,e<4*n->F (jn C e)=F e
theorem zaK{C:List Nat}{p n:Nat}{F:Nat->Int}(hp:p<n)(hw:C.getD p 0<3):(∀e,e<4*n->e/4=p->F (jn C e)=F e)↔(C.getD p 0=0->F (4*p)=F (4*p+1)/\F (4*p+2)=F (4*p+3))/\(C.getD p 0=1->F (4*p)=F (4*p+2)/\F (4*p+1)=F (4*p+3))/\(C.getD p 0=2->F (4*p)=F (4*p+3)/\F (4*p+1)=F (4*p+2)):=by
 have hs:∀s,s<4->jn C (4*p+s)=4*p+(s^^^(C.getD p 0+1)):=fun s h=>jn4 C h
 generalize C.getD p 0=w at hw hs
 constructor
 ·intro h;have g:∀s,s<4->F (4*p+(s^^^(w+1)))=F (4*p+s):=fun s hs4=>by rw[<- hs s hs4];exact h _ (by lia) (by lia)
  have hw':w=0\/w=1\/w=2:=by lia
  rcases hw' with rfl|rfl|rfl
  ·exact⟨fun _=>⟨(g 0 (by lia)).symm,(g 2 (by lia)).symm⟩,fun z=>by lia,fun z=>by lia⟩
  ·exact⟨fun z=>by lia,fun _=>⟨(g 0 (by lia)).symm,(g 1 (by lia)).symm⟩,fun z=>by lia⟩
  ·exact⟨fun z=>by lia,fun z=>by lia,fun _=>⟨(g 0 (by lia)).symm,(g 1 (by lia)).symm⟩⟩
 ·intro h e he hep;have hw':w=0\/w=1\/w=2:=by lia
  have hs4:e%4=0\/e%4=1\/e%4=2\/e%4=3:=by lia
  have ee:e=4*p+e%4:=by lia
  rw[ee,hs _ (by lia)]
  rcases hw' with rfl|rfl|rfl
  ·obtain⟨a,b⟩:=h.1 rfl
   rcases hs4 with z|z|z|z<;>rw[z]
   ·exact a.symm
   ·exact a
   ·exact b.symm
   ·exact b
  ·obtain⟨a,b⟩:=h.2.1 rfl
   rcases hs4 with z|z|z|z<;>rw[z]
   ·exact a.symm
   ·exact b.symm
   ·exact a
   ·exact b
  ·obtain⟨a,b⟩:=h.2.2 rfl
   rcases hs4 with z|z|z|z<;>rw[z]
   ·exact a.symm
   ·exact b.symm
   ·exact b
   ·exact a
section
variable{n:Nat}{cs:List Nat}(w:Wd n cs)(h2:∀x∈cs,cs.count x=2)
include w h2
end
section
variable{n:Nat}{cs c:List Nat}(w:Wd n cs)(h2:∀x∈cs,cs.count x=2)(n1:1<=n)(hc:c.length=n)(hw:∀x∈c,x<3)(hsl:(sosL cs).length=n)
include w h2 n1 hc hw hsl
end
section
variable{n:Nat}{cs c:List Nat}{F:Nat->Int}(w:Wd n cs)(h2:∀x∈cs,cs.count x=2)(n1:1<=n)(hc:c.length=n)(hw:∀x∈c,x<3)(hsl:(sosL cs).length=n)(hF:Cst (tsW n (rowW cs)) (cbW c (sosL cs) (ords cs)) n F)
include w h2 n1 hc hw hsl hF
end
section
variable{ts C:List Nat}{n:Nat}(hN:NetN ts (4*n))(hl:C.length=n)(hw:∀c∈C,c<3)
include hN hl hw
end
noncomputable def rI(R:List (List Nat))(e:Nat):Nat:=(R.map fun l=>decide (e∈l)).idxOf true
section
variable{n:Nat}{cs c:List Nat}(w:Wd n cs)
include w
end
section
variable{n:Nat}{cs c:List Nat}{F:Nat->Int}(w:Wd n cs)(h2:∀x∈cs,cs.count x=2)(n1:1<=n)(hc:c.length=n)(hw:∀x∈c,x<3)(hsl:(sosL cs).length=n)(hF:Cst (tsW n (rowW cs)) (cbW c (sosL cs) (ords cs)) n F)
include w h2 n1 hc hw hsl hF
end
section
variable{n:Nat}{cs c:List Nat}(w:Wd n cs)(h2:∀x∈cs,cs.count x=2)(n1:1<=n)(hc:c.length=n)(hw:∀x∈c,x<3)(hsl:(sosL cs).length=n)
include w h2 n1 hc hw hsl
end
theorem zG2{m:Nat}{x y:List Int}(hx:RowN m x)(hy:RowN m y)(h:∀r,r<m->x.getD r 0=y.getD r 0):x=y:=by
 have h1:=hx.1;have h2:=hy.1;refine qB7 (by lia) fun i g1 g2=>?_
 have:=h i (by lia)
 rw[qA0,qA5 g1,qA0,qA5 g2]at this;exact this
theorem zDT{m:Nat}{x:List Int}(hx:RowN m x)(r:Nat):Bit (x.getD r 0):=by
 rw[qA0];cases h:x[r]? with
 |none=>exact .inl rfl
 |some y=>exact hx.2 y (qB1 h)
structure Hds(ts C:List Nat)(n:Nat)(R:List (List Nat))(hd:Nat->Nat):Prop where
 lt:∀r,r<R.length->hd r<4*n
 mem:∀r,r<R.length->hd r∈R.getD r []
 fst:∀r,r<R.length->∀i,i<r->hd r∉R.getD i []
 same:∀r,r<R.length->∀e,e∈R.getD r []->∀F,Cst ts C n F->F e=F (hd r)
 cls:∀r,r<R.length->∀e,e∈R.getD r []->nt ts e∈R.getD r []/\jn C e∈R.getD r []
 cov:∀e,e<4*n->∃r,r<R.length/\e∈R.getD r []
section
variable{ts C:List Nat}{n:Nat}(hN:NetN ts (4*n))(hl:C.length=n)(hw:∀c∈C,c<3)
include hN hl hw
variable{R:List (List Nat)}{hd:Nat->Nat}(H:Hds ts C n R hd)
include H
end
theorem zaZ{α:Type}{x:List α}{a e:Nat}{u d:α}(ha:a<x.length):(x.set a u).getD e d=if e=a then u else x.getD e d:=by
 rw[qA0,qA0,qD5]
 by_cases h:a=e
 ·subst h;simp[ha]
 ·have:¬e=a:=fun z=>h z.symm
  simp[h,this]
theorem zU5{α:Type}{x:List α}{a b e:Nat}{u v d:α}(ha:a<x.length)(hb:b<x.length):((x.set a u).set b v).getD e d=if e=b then v else if e=a then u else x.getD e d:=by
 rw[zaZ (by simpa using hb),zaZ ha]
theorem zCG{n:Nat}{x:List Int}{a:Nat}{u:Int}(hx:RowN n x)(hu:Bit u):RowN n (x.set a u):=
 ⟨by simp[hx.1],fun y hy=>(qE4 hy).elim (hx.2 y) fun z=>z▸hu⟩
abbrev Ty:=List (Option Nat)
noncomputable def jE(t:Ty)(a b:Nat):Ty×Nat:=if(t.getD a none).getD 0=b then((t.set a none).set b none,1)else((((t.set a none).set b none).set ((t.getD a none).getD 0) (some ((t.getD b none).getD 0))).set ((t.getD b none).getD 0) (some ((t.getD a none).getD 0)),0)
structure Mt(M:Nat)(t:Ty):Prop where
 len:t.length=M
 inv:∀e f,t.getD e none=some f->f<M/\f≠e/\t.getD f none=some e
theorem Mt.lt{M:Nat}{t:Ty}(h:Mt M t){e f:Nat}(he:t.getD e none=some f):e<M:=((h.inv f e (h.inv e f he).2.2)).1
def InvT(M:Nat)(t:Ty)(x:List Int):Prop:=∀e,e<M->(t.getD e none=none->x.getD e 0=0)/\∀f,t.getD e none=some f->x.getD f 0=x.getD e 0
def InJ(Js:List (Nat×Nat))(x:List Int):Prop:=∀p∈Js,x.getD p.1 0=x.getD p.2 0
section
variable{M:Nat}{t:Ty}{a b far near:Nat}(h:Mt M t)(ha:t.getD a none=some far)(hb:t.getD b none=some near)(hab:a≠b)
include h ha hb hab
theorem zM3:(far=b->(jE t a b).2=1/\∀e,(jE t a b).1.getD e none=if e=b then none else if e=a then none else t.getD e none) /\
  (far≠b->(jE t a b).2=0/\∀e,(jE t a b).1.getD e none=if e=near then some far else if e=far then some near else if e=b then none else if e=a then none else t.getD e none):=by
 have la:=h.lt ha;have lb:=h.lt hb;have lf:=(h.inv a far ha).1;have ln:=(h.inv b near hb).1;have hl:=h.len;refine⟨fun z=>?_,fun z=>?_⟩
 ·have e1:jE t a b=((t.set a none).set b none,1):=by unfold jE;rw[ha];exact if_pos z
  rw[e1];exact⟨rfl,fun e=>zU5 (by omega) (by omega)⟩
 ·have e1:jE t a b=((((t.set a none).set b none).set far (some near)).set near (some far),0):=by unfold jE;rw[ha,hb];exact if_neg z
  rw[e1];refine⟨rfl,fun e=>?_⟩;dsimp only;rw[zU5 (by simp;omega) (by simp;omega),zU5 (by omega) (by omega)]
theorem zaM:(jE t a b).1.length=M:=by
 unfold jE
 split<;>simp[h.len]
theorem zRP:far≠a/\near≠b/\(far≠b->near≠a/\far≠near)/\(far=b->near=a):=by
 obtain⟨_,f1,f2⟩:=h.inv a far ha;obtain⟨_,n1,n2⟩:=h.inv b near hb;refine⟨f1,n1,fun z=>⟨fun y=>?_,fun y=>?_⟩,fun z=>?_⟩
 ·subst y;rw[ha]at n2;cases n2;exact z rfl
 ·subst y;rw[f2]at n2;cases n2;exact hab rfl
 ·subst z;rw[hb]at f2;cases f2;rfl
theorem zY4:Mt M (jE t a b).1:=by
 refine⟨zaM h ha hb hab,fun e f he=>?_⟩;obtain⟨f1,n1,f2,f3⟩:=zRP h ha hb hab;have lf:=(h.inv a far ha).1;have ln:=(h.inv b near hb).1
 by_cases z:far=b
 ·obtain⟨_,g⟩:=(zM3 h ha hb hab).1 z;rw[g]at he ⊢;have hna:=f3 z
  by_cases e1:e=b
  ·rw[if_pos e1]at he;cases he
  ·rw[if_neg e1]at he
   by_cases e2:e=a
   ·rw[if_pos e2]at he;cases he
   ·rw[if_neg e2]at he;obtain⟨q1,q2,q3⟩:=h.inv e f he;refine⟨q1,q2,?_⟩;rw[if_neg (fun y=>?_),if_neg (fun y=>?_)]
    ·exact q3
    ·subst y;rw[ha]at q3;cases q3;exact e1 z
    ·subst y;rw[hb]at q3;cases q3;exact e2 hna
 ·obtain⟨_,g⟩:=(zM3 h ha hb hab).2 z;obtain⟨f4,f5⟩:=f2 z;rw[g]at he ⊢
  by_cases e1:e=near
  ·rw[if_pos e1]at he;cases he;subst e1;exact⟨lf,f5,by rw[if_neg f5,if_pos rfl]⟩
  ·rw[if_neg e1]at he
   by_cases e2:e=far
   ·rw[if_pos e2]at he;cases he;subst e2;exact⟨ln,fun y=>e1 y.symm,by rw[if_pos rfl]⟩
   ·rw[if_neg e2]at he
    by_cases e3:e=b
    ·rw[if_pos e3]at he;cases he
    ·rw[if_neg e3]at he
     by_cases e4:e=a
     ·rw[if_pos e4]at he;cases he
     ·rw[if_neg e4]at he;obtain⟨q1,q2,q3⟩:=h.inv e f he;refine⟨q1,q2,?_⟩;have r1:f≠near:=fun y=>by
       subst y
       have:=(h.inv b f hb).2.2
       rw[this]at q3;cases q3;exact e3 rfl
      have r2:f≠far:=fun y=>by
       subst y
       have:=(h.inv a f ha).2.2
       rw[this]at q3;cases q3;exact e4 rfl
      have r3:f≠b:=fun y=>by subst y;rw[hb]at q3;cases q3;exact e1 rfl
      have r4:f≠a:=fun y=>by subst y;rw[ha]at q3;cases q3;exact e2 rfl
      rw[if_neg r1,if_neg r2,if_neg r3,if_neg r4];exact q3
theorem zM2(e:Nat):(jE t a b).1.getD e none=none↔e=a\/e=b\/t.getD e none=none:=by
 obtain⟨f1,n1,f2,f3⟩:=zRP h ha hb hab;have hf:=(h.inv a far ha).2.2;have hn:=(h.inv b near hb).2.2
 by_cases z:far=b
 ·obtain⟨_,g⟩:=(zM3 h ha hb hab).1 z;rw[g]
  by_cases e1:e=b
  ·simp[-qA0,e1]
  ·by_cases e2:e=a
   ·simp[-qA0,e2]
   ·simp[-qA0,e1,e2]
 ·obtain⟨_,g⟩:=(zM3 h ha hb hab).2 z;obtain⟨f4,f5⟩:=f2 z;rw[g]
  by_cases e1:e=near
  ·subst e1;simp[-qA0,hn,f4,n1]
  ·by_cases e2:e=far
   ·subst e2;simp[-qA0,e1,hf,f1,z]
   ·by_cases e3:e=b
    ·simp[-qA0,e1,e2,e3];rw[if_neg (fun y=>n1 y.symm),if_neg (fun y=>z y.symm)]
    ·by_cases e4:e=a
     ·simp[-qA0,e4];rw[if_neg (fun y=>f4 y.symm),if_neg (fun y=>f1 y.symm)]
     ·simp[-qA0,e1,e2,e3,e4]
theorem zVS{Js:List (Nat×Nat)}(hJ:∀p∈Js,(p.1≠a/\p.1≠b)/\p.2≠a/\p.2≠b) :
  cnt M (fun x=>InvT M t x/\InJ ((a,b)::Js) x)=2 ^ (jE t a b).2*cnt M (fun x=>InvT M (jE t a b).1 x/\InJ Js x):=by
 obtain⟨f1,n1,f2,f3⟩:=zRP h ha hb hab;have la:=h.lt ha;have lb:=h.lt hb;have lf:=(h.inv a far ha).1;have ln:=(h.inv b near hb).1;have hf:=(h.inv a far ha).2.2;have hn:=(h.inv b near hb).2.2;have gx:∀{x:List Int}{u v:Int}{e:Nat},x.length=M->((x.set a u).set b v).getD e 0=if e=b then v else if e=a then u else x.getD e 0:=fun hx=>zU5 (by omega) (by omega)
 have jx:∀{x:List Int}{u v:Int},x.length=M->(InJ Js ((x.set a u).set b v)↔InJ Js x):=fun{x u v} hx=>by
  unfold InJ;refine⟨fun q p hp=>?_,fun q p hp=>?_⟩
  ·obtain⟨⟨h1,h2⟩,h3,h4⟩:=hJ p hp
   have:=q p hp
   rw[gx hx,gx hx,if_neg h2,if_neg h1,if_neg h4,if_neg h3]at this;exact this
  ·obtain⟨⟨h1,h2⟩,h3,h4⟩:=hJ p hp;rw[gx hx,gx hx,if_neg h2,if_neg h1,if_neg h4,if_neg h3];exact q p hp
 have oth:∀{e f:Nat},e≠far->e≠near->t.getD e none=some f->f≠a/\f≠b:=fun{e f} h1 h2 he=>by
  have q:=(h.inv e f he).2.2;exact⟨fun z=>by subst z;rw[ha]at q;cases q;exact h1 rfl,fun z=>by subst z;rw[hb]at q;cases q;exact h2 rfl⟩
 by_cases z:far=b
 ·have hna:=f3 z;obtain⟨c1,g⟩:=(zM3 h ha hb hab).1 z;rw[c1,Nat.pow_one,<- zUN];have inv':∀{x:List Int}{u:Int},x.length=M->InvT M (jE t a b).1 x->InvT M t ((x.set a u).set b u):=fun{x u} hx q e he=>by
   refine⟨fun z1=>?_,fun f z1=>?_⟩
   ·have e1:e≠b:=fun y=>by subst y;rw[hb]at z1;cases z1
    have e2:e≠a:=fun y=>by subst y;rw[ha]at z1;cases z1
    rw[gx hx,if_neg e1,if_neg e2];exact(q e he).1 (by rw[g,if_neg e1,if_neg e2];exact z1)
   ·rw[gx hx,gx hx]
    by_cases e1:e=b
    ·subst e1;rw[hb]at z1;cases z1;rw[hna,if_neg hab,if_pos rfl,if_pos rfl]
    ·by_cases e2:e=a
     ·subst e2;rw[ha]at z1;cases z1;rw[if_pos z,if_neg e1,if_pos rfl]
     ·obtain⟨r1,r2⟩:=oth (e:=e) (by rw[z];exact e1) (by rw[hna];exact e2) z1;rw[if_neg e1,if_neg e2,if_neg r2,if_neg r1];exact(q e he).2 f (by rw[g,if_neg e1,if_neg e2];exact z1)
  refine qDr (zJG (fun x=>x.getD a 0::(x.set a 0).set b 0) (fun x hx ⟨p1,p2⟩=>⟨?_,?_,?_⟩) fun x y hx ⟨p1,p2⟩ hy ⟨r1,r2⟩ e=>?_) (zJG (fun w=>(w.tail.set a (w.getD 0 0)).set b (w.getD 0 0)) (fun w hw ⟨p1,p2⟩=>?_) fun w v hw ⟨p1,p2⟩ hv ⟨r1,r2⟩ e=>?_)
  ·refine⟨by simp[hx.1],fun y hy=>?_⟩
   rcases qA6.mp hy with rfl|hy
   ·exact zDT hx a
   ·exact(zCG (zCG hx (.inl rfl)) (.inl rfl)).2 y hy
  ·intro e he
   show(_->((x.set a 0).set b 0).getD e 0=0)/\∀f,_->((x.set a 0).set b 0).getD f 0=((x.set a 0).set b 0).getD e 0
   rw[g,gx hx.1]
   by_cases e1:e=b
   ·simp[e1]
   ·by_cases e2:e=a
    ·simp[e2]
    ·rw[if_neg e1,if_neg e2,if_neg e1,if_neg e2];refine⟨(p1 e he).1,fun f z1=>?_⟩;obtain⟨r1,r2⟩:=oth (e:=e) (by rw[z];exact e1) (by rw[hna];exact e2) z1;rw[gx hx.1,if_neg r2,if_neg r1];exact(p1 e he).2 f z1
  ·exact(jx hx.1).mpr fun p hp=>p2 p (qAd _ hp)
  ·injection e with e1 e2
   have xab:=p2 _ (qAl ..);have yab:=r2 _ (qAl ..);refine zG2 hx hy fun r hr=>?_
   have e3:((x.set a 0).set b 0).getD r 0=((y.set a 0).set b 0).getD r 0:=by rw[e2]
   rw[gx hx.1,gx hy.1]at e3
   by_cases q1:r=b
   ·subst q1;exact xab.symm.trans (e1.trans yab)
   ·by_cases q2:r=a
    ·subst q2;exact e1
    ·rw[if_neg q1,if_neg q2,if_neg q1,if_neg q2]at e3;exact e3
  ·have hw':RowN M w.tail:=⟨by simp[hw.1],fun y hy=>hw.2 y (qDh hy)⟩
   refine⟨zCG (zCG hw' (zDT hw 0)) (zDT hw 0),inv' hw'.1 p1,fun p hp=>?_⟩
   rcases qA6.mp hp with rfl|hp
   ·show((w.tail.set a _).set b _).getD a 0=((w.tail.set a _).set b _).getD b 0
    rw[gx hw'.1,gx hw'.1,if_neg hab,if_pos rfl,if_pos rfl]
   ·exact(jx hw'.1).mpr p2 p hp
  ·have hw':RowN M w.tail:=⟨by simp[hw.1],fun y hy=>hw.2 y (qDh hy)⟩
   have hv':RowN M v.tail:=⟨by simp[hv.1],fun y hy=>hv.2 y (qDh hy)⟩
   have e3:∀r,((w.tail.set a (w.getD 0 0)).set b (w.getD 0 0)).getD r 0=((v.tail.set a (v.getD 0 0)).set b (v.getD 0 0)).getD r 0:=fun r=>by rw[e]
   have e0:w.getD 0 0=v.getD 0 0:=by
    have:=e3 b
    rw[gx hw'.1,gx hv'.1,if_pos rfl,if_pos rfl]at this;exact this
   have et:w.tail=v.tail:=zG2 hw' hv' fun r hr=>by
    have:=e3 r
    rw[gx hw'.1,gx hv'.1]at this
    by_cases q1:r=b
    ·subst q1;rw[(p1 r hr).1 (by rw[g,if_pos rfl]),(r1 r hr).1 (by rw[g,if_pos rfl])]
    ·by_cases q2:r=a
     ·subst q2;rw[(p1 r hr).1 (by rw[g,if_neg q1,if_pos rfl]),(r1 r hr).1 (by rw[g,if_neg q1,if_pos rfl])]
     ·rw[if_neg q1,if_neg q2,if_neg q1,if_neg q2]at this;exact this
   match w,v,hw.1,hv.1,e0,et with
   |[],_,z1,_,_,_=>simp at z1
   |_::_,[],_,z2,_,_=>simp at z2
   |c::w,c'::v,_,_,e0,et=>simp at e0 et;rw[e0,et]
 ·obtain⟨c1,g⟩:=(zM3 h ha hb hab).2 z;obtain⟨f4,f5⟩:=f2 z;rw[c1,qHk,qGf];refine qDr (zJG (fun x=>(x.set a 0).set b 0) (fun x hx ⟨p1,p2⟩=>⟨zCG (zCG hx (.inl rfl)) (.inl rfl),?_,?_⟩) fun x y hx ⟨p1,p2⟩ hy ⟨r1,r2⟩ e=>?_) (zJG (fun x=>(x.set a (x.getD far 0)).set b (x.getD far 0)) (fun x hx ⟨p1,p2⟩=>⟨zCG (zCG hx (zDT hx _)) (zDT hx _),?_,?_⟩) fun x y hx ⟨p1,p2⟩ hy ⟨r1,r2⟩ e=>?_)
  ·have xab:x.getD a 0=x.getD b 0:=p2 _ (qAl ..);have xfa:=(p1 a la).2 far ha;have xnb:=(p1 b lb).2 near hb;intro e he;rw[g,gx hx.1]
   by_cases e1:e=near
   ·subst e1;refine⟨fun y=>?_,fun f y=>?_⟩
    ·rw[if_pos rfl]at y;cases y
    ·rw[if_pos rfl]at y;cases y;rw[gx hx.1,if_neg z,if_neg f1,if_neg n1,if_neg f4];rw[xfa,xnb,xab]
   ·rw[if_neg e1]
    by_cases e2:e=far
    ·subst e2;refine⟨fun y=>?_,fun f y=>?_⟩
     ·rw[if_pos rfl]at y;cases y
     ·rw[if_pos rfl]at y;cases y;rw[gx hx.1,if_neg n1,if_neg f4,if_neg z,if_neg f1];rw[xfa,xnb,xab]
    ·rw[if_neg e2]
     by_cases e3:e=b
     ·simp[e3]
     ·by_cases e4:e=a
      ·simp[e4]
      ·rw[if_neg e3,if_neg e4,if_neg e3,if_neg e4];refine⟨(p1 e he).1,fun f z1=>?_⟩;obtain⟨q1,q2⟩:=oth e2 e1 z1;rw[gx hx.1,if_neg q2,if_neg q1];exact(p1 e he).2 f z1
  ·exact(jx hx.1).mpr fun p hp=>p2 p (qAd _ hp)
  ·have xab:x.getD a 0=x.getD b 0:=p2 _ (qAl ..);have yab:y.getD a 0=y.getD b 0:=r2 _ (qAl ..);have xfa:=(p1 a la).2 far ha;have yfa:=(r1 a la).2 far ha;have e3:∀r,((x.set a 0).set b 0).getD r 0=((y.set a 0).set b 0).getD r 0:=fun r=>by rw[e]
   have ef:=e3 far;rw[gx hx.1,gx hy.1,if_neg z,if_neg f1,if_neg z,if_neg f1]at ef;refine zG2 hx hy fun r hr=>?_
   have er:=e3 r;rw[gx hx.1,gx hy.1]at er
   by_cases q1:r=b
   ·subst q1;rw[<- xab,<- yab,<- xfa,<- yfa];exact ef
   ·by_cases q2:r=a
    ·subst q2;rw[<- xfa,<- yfa];exact ef
    ·rw[if_neg q1,if_neg q2,if_neg q1,if_neg q2]at er;exact er
  ·have xnf:x.getD near 0=x.getD far 0:=(p1 far lf).2 near (by rw[g,if_neg f5,if_pos rfl]);intro e he;rw[gx hx.1];refine⟨fun z1=>?_,fun f z1=>?_⟩
   ·have e1:e≠b:=fun y=>by subst y;rw[hb]at z1;cases z1
    have e2:e≠a:=fun y=>by subst y;rw[ha]at z1;cases z1
    have e3:e≠far:=fun y=>by subst y;rw[hf]at z1;cases z1
    have e4:e≠near:=fun y=>by subst y;rw[hn]at z1;cases z1
    rw[if_neg e1,if_neg e2];exact(p1 e he).1 (by rw[g,if_neg e4,if_neg e3,if_neg e1,if_neg e2];exact z1)
   ·rw[gx hx.1]
    by_cases e1:e=b
    ·subst e1;rw[hb]at z1;cases z1;rw[if_neg n1,if_neg f4,if_pos rfl,xnf]
    ·by_cases e2:e=a
     ·subst e2;rw[ha]at z1;cases z1;rw[if_neg z,if_neg f1,if_neg e1,if_pos rfl]
     ·by_cases e3:e=far
      ·subst e3;rw[hf]at z1;cases z1;rw[if_neg hab,if_pos rfl,if_neg e1,if_neg e2]
      ·by_cases e4:e=near
       ·subst e4;rw[hn]at z1;cases z1;rw[if_pos rfl,if_neg e1,if_neg e2,xnf]
       ·obtain⟨q1,q2⟩:=oth e3 e4 z1;rw[if_neg q2,if_neg q1,if_neg e1,if_neg e2];exact(p1 e he).2 f (by rw[g,if_neg e4,if_neg e3,if_neg e1,if_neg e2];exact z1)
  ·intro p hp
   rcases qA6.mp hp with rfl|hp
   ·show((x.set a _).set b _).getD a 0=((x.set a _).set b _).getD b 0
    rw[gx hx.1,gx hx.1,if_neg hab,if_pos rfl,if_pos rfl]
   ·exact(jx hx.1).mpr p2 p hp
  ·have e3:∀r,((x.set a (x.getD far 0)).set b (x.getD far 0)).getD r 0=((y.set a (y.getD far 0)).set b (y.getD far 0)).getD r 0:=fun r=>by rw[e]
   refine zG2 hx hy fun r hr=>?_
   have er:=e3 r;rw[gx hx.1,gx hy.1]at er
   by_cases q1:r=b
   ·subst q1;have g1:(jE t a r).1.getD r none=none:=by rw[g,if_neg (fun y=>n1 y.symm),if_neg (fun y=>z y.symm),if_pos rfl]
    rw[(p1 r hr).1 g1,(r1 r hr).1 g1]
   ·by_cases q2:r=a
    ·subst q2;have g1:(jE t r b).1.getD r none=none:=by rw[g,if_neg (fun y=>f4 y.symm),if_neg (fun y=>f1 y.symm),if_neg q1,if_pos rfl]
     rw[(p1 r hr).1 g1,(r1 r hr).1 g1]
    ·rw[if_neg q1,if_neg q2,if_neg q1,if_neg q2]at er;exact er
end
noncomputable def sa9(w:Nat):Nat:=if w=0 then 2 else 1
noncomputable def sb9(w:Nat):Nat:=if w=2 then 2 else 3
def jP(t:Ty)(p w:Nat):Ty×Nat:=((jE (jE t (4*p) (4*p+(w+1))).1 (4*p+sa9 w) (4*p+sb9 w)).1,(jE t (4*p) (4*p+(w+1))).2+(jE (jE t (4*p) (4*p+(w+1))).1 (4*p+sa9 w) (4*p+sb9 w)).2)
def pr9(p w:Nat):List (Nat×Nat):=[(4*p,4*p+(w+1)),(4*p+sa9 w,4*p+sb9 w)]
theorem zLP:∀w,w<3->sa9 w<4/\sb9 w<4/\sa9 w≠sb9 w/\sa9 w≠0/\sb9 w≠0/\sa9 w≠w+1/\sb9 w≠w+1/\∀s,s<4->s=0\/s=w+1\/s=sa9 w\/s=sb9 w:=by decide
theorem zaL{M:Nat}{t:Ty}{p w:Nat}(h:Mt M t)(hal:∀s,s<4->t.getD (4*p+s) none≠none)(hw:w<3) :
  Mt M (jP t p w).1/\(∀e,(jP t p w).1.getD e none=none↔e/4=p\/t.getD e none=none)/\∀Js:List (Nat×Nat),(∀q∈Js,q.1/4≠p/\q.2/4≠p) ->
   cnt M (fun x=>InvT M t x/\InJ (pr9 p w++Js) x)=2 ^ (jP t p w).2*cnt M (fun x=>InvT M (jP t p w).1 x/\InJ Js x):=by
 obtain⟨a1,a2,a3,a4,a5,a6,a7,a8⟩:=zLP w hw;have some_of:∀{o:Option Nat},o≠none->∃f,o=some f:=fun{o} ho=>by cases o with|none=>exact absurd rfl ho|some f=>exact⟨f,rfl⟩
 obtain⟨f,hf⟩:=some_of (hal 0 (by omega));obtain⟨g,hg⟩:=some_of (hal (w+1) (by omega));rw[qHl]at hf;have n1:4*p≠4*p+(w+1):=by omega
 have m1:=zY4 h hf hg n1;have d1:=zM2 h hf hg n1;have al:∀s,s<4->s≠0->s≠w+1->(jE t (4*p) (4*p+(w+1))).1.getD (4*p+s) none≠none:=fun s hs h0 h1 z=>by
  rcases(d1 _).mp z with z|z|z
  ·omega
  ·omega
  ·exact hal s hs z
 obtain⟨f',hf'⟩:=some_of (al (sa9 w) a1 a4 a6);obtain⟨g',hg'⟩:=some_of (al (sb9 w) a2 a5 a7);have n2:4*p+sa9 w≠4*p+sb9 w:=by omega
 refine⟨zY4 m1 hf' hg' n2,fun e=>?_,fun Js hJ=>?_⟩
 ·show(jE (jE t (4*p) (4*p+(w+1))).1 (4*p+sa9 w) (4*p+sb9 w)).1.getD e none=none↔_
  rw[zM2 m1 hf' hg' n2,d1];constructor
  ·rintro(z|z|z|z|z)
   ·left;omega
   ·left;omega
   ·left;omega
   ·left;omega
   ·exact .inr z
  ·rintro(z|z)
   ·have:=a8 (e%4) (by omega)
    rcases this with y|y|y|y
    ·right;right;left;omega
    ·right;right;right;left;omega
    ·left;omega
    ·right;left;omega
   ·exact .inr (.inr (.inr (.inr z)))
 ·have e1:=zVS h hf hg n1 (Js:=(4*p+sa9 w,4*p+sb9 w)::Js) fun q hq=>by
   rcases qA6.mp hq with rfl|hq
   ·dsimp only;omega
   ·obtain⟨q1,q2⟩:=hJ q hq;omega
  have e2:=zVS m1 hf' hg' n2 (Js:=Js) fun q hq=>by
   obtain⟨q1,q2⟩:=hJ q hq;omega
  show cnt M (fun x=>InvT M t x/\InJ ((4*p,4*p+(w+1))::(4*p+sa9 w,4*p+sb9 w)::Js) x)=_;rw[e1,e2];show _=2 ^ ((jE t (4*p) (4*p+(w+1))).2+(jE (jE t (4*p) (4*p+(w+1))).1 (4*p+sa9 w) (4*p+sb9 w)).2)*_;rw[qFf,qEj];rfl
def runP(t:Ty):List (Nat×Nat)->Ty×Nat
 |[]=>(t,0)
 |q::r=>((runP (jP t q.1 q.2).1 r).1,(jP t q.1 q.2).2+(runP (jP t q.1 q.2).1 r).2)
theorem zQ1{M:Nat}:∀(ps:List (Nat×Nat)){t:Ty},Mt M t->(ps.map (·.1)).Nodup->(∀q∈ps,q.2<3/\∀s,s<4->t.getD (4*q.1+s) none≠none) ->
  Mt M (runP t ps).1/\(∀e,(runP t ps).1.getD e none=none↔e/4∈ps.map (·.1)\/t.getD e none=none) /\
   cnt M (fun x=>InvT M t x/\InJ (ps.flatMap fun q=>pr9 q.1 q.2) x)=2 ^ (runP t ps).2*cnt M (fun x=>InvT M (runP t ps).1 x)
 |[],t,h,_,_=>⟨h,fun e=>by simp[runP],by
   show _=2 ^ 0*_;rw[qHk,qGf];exact zBH fun x _=>⟨fun z=>z.1,fun z=>⟨z,fun p hp=>by simp at hp⟩⟩⟩
 |q::r,t,h,hn,ha=>by
  obtain⟨hw,hal⟩:=ha q (qAl ..);obtain⟨m1,d1,c1⟩:=zaL h hal hw;rw[qAg,qAy]at hn;obtain⟨m2,d2,c2⟩:=zQ1 r m1 hn.2 fun z hz=>by
   obtain⟨z1,z2⟩:=ha z (qAd _ hz);refine⟨z1,fun s hs y=>?_⟩
   rcases(d1 _).mp y with y|y
   ·exact hn.1 (qAb.mpr ⟨z,hz,by omega⟩)
   ·exact z2 s hs y
  refine⟨m2,fun e=>?_,?_⟩
  ·show(runP (jP t q.1 q.2).1 r).1.getD e none=none↔_
   rw[d2,d1,qAg,qA6];constructor
   ·rintro(z|z|z)
    ·exact .inl (.inr z)
    ·exact .inl (.inl z)
    ·exact .inr z
   ·rintro((z|z)|z)
    ·exact .inr (.inl z)
    ·exact .inl z
    ·exact .inr (.inr z)
  ·rw[qBv,c1 _ fun z hz=>?_,c2]
   ·show _=2 ^ ((jP t q.1 q.2).2+(runP (jP t q.1 q.2).1 r).2)*_;rw[qFf,qEj];rfl
   ·obtain⟨y,hy,hz⟩:=qBh.mp hz;have hne:y.1≠q.1:=fun e=>hn.1 (qAb.mpr ⟨y,hy,e⟩)
    obtain⟨a1,a2,_⟩:=zLP y.2 (ha y (qAd _ hy)).1;have hy3:=(ha y (qAd _ hy)).1;unfold pr9 at hz
    rcases qA6.mp hz with rfl|hz
    ·dsimp only;omega
    ·rw[qAn]at hz;subst hz;dsimp only;omega
noncomputable def KN(ts C:List Nat)(n:Nat):Nat:=cnt (4*n) (fun x=>Cst ts C n (fun e=>x.getD e 0))
theorem zVL{ts:List Nat}{M:Nat}(hN:NetN ts M)(hne:∀x,x<M->nt ts x≠x):Mt M (ts.map some):=by
 have g:∀e,e<M->(ts.map some).getD e none=some (nt ts e):=fun e he=>by
  have:e<ts.length:=by rw[hN.len];exact he
  unfold nt;simp[this]
 refine⟨by simp[hN.len],fun e f he=>?_⟩
 by_cases hM:e<M
 ·rw[g e hM]at he;cases he;refine⟨hN.lt e hM,hne e hM,?_⟩;rw[g _ (hN.lt e hM),hN.inv e hM]
 ·have:¬e<ts.length:=by rw[hN.len];exact hM
  rw[qA0,qDa (by simp;omega)]at he;cases he
theorem zET{ts:List Nat}{M:Nat}(hN:NetN ts M){e:Nat}(he:e<M):(ts.map some).getD e none=some (nt ts e):=by
 have:e<ts.length:=by rw[hN.len];exact he
 unfold nt;simp[this]
theorem zSZ{ts C:List Nat}{n:Nat}{ps:List (Nat×Nat)}(hN:NetN ts (4*n))(hne:∀x,x<4*n->nt ts x≠x)(hl:C.length=n)(hw:∀c∈C,c<3)(hp:(ps.map (·.1)).Perm (qA9 n))(hC:∀q∈ps,q.2=C.getD q.1 0) :
  2 ^ (runP (ts.map some) ps).2=KN ts C n/\(runP (ts.map some) ps).1=qA4 (4*n) none:=by
 have hin:∀q∈ps,q.1<n:=fun q hq=>by
  have:=hp.mem_iff.mp (qAb.mpr ⟨q,hq,rfl⟩)
  simpa using this
 have hm:=zVL hN hne;have hw3:∀q∈ps,q.2<3:=fun q hq=>by
  rw[hC q hq];have hlt:=hin q hq;rw[qA0,qA5 (by omega)];exact hw _ (qB8 _)
 obtain⟨m1,d1,c1⟩:=zQ1 ps hm (hp.nodup_iff.mpr qBx) fun q hq=>⟨hw3 q hq,fun s hs z=>by
  rw[zET hN (by have:=hin q hq;omega)]at z;cases z⟩
 have dead:∀e,e<4*n->(runP (ts.map some) ps).1.getD e none=none:=fun e he=>(d1 e).mpr (.inl (hp.mem_iff.mpr (by simp;omega)))
 have hrep:(runP (ts.map some) ps).1=qA4 (4*n) none:=by
  refine qB7 (by simp[m1.len]) fun i h1 h2=>?_
  have:=dead i (by rw[<- m1.len];exact h1)
  rw[qA0,qA5 h1]at this;simp at this ⊢;exact this
 refine⟨?_,hrep⟩;have one:cnt (4*n) (fun x=>InvT (4*n) (runP (ts.map some) ps).1 x)=1:=by
  have z:=zO7 (n:=4*n) (ks:=qA9 (4*n)) qBx fun k hk=>by simpa using hk
  rw[qFw]at z;have z1:cnt (4*n) (fun x=>∀k∈qA9 (4*n),x.getD k 0=0)=1:=qCm (qFg (n:=4*n) (show 0<2 by decide)) (by rw[z,qGf]);rw[<- z1];refine zBH fun x _=>⟨fun h k hk=>(h k (by simpa using hk)).1 (dead k (by simpa using hk)),fun h e he=>⟨fun _=>h e (by simpa using he),fun f hf=>?_⟩⟩
  rw[dead e he]at hf;cases hf
 rw[one,Nat.mul_one]at c1;rw[<- c1];unfold KN;refine zBH fun x hx=>⟨fun⟨h1,h2⟩=>⟨fun e=>zDT hx e,fun e he=>?_,fun e he=>?_⟩,fun h=>⟨fun e he=>⟨fun z=>?_,fun f hf=>?_⟩,fun p hp'=>?_⟩⟩
 ·exact(h1 e he).2 _ (zET hN he)
 ·have hpl:e/4<n:=by omega
  obtain⟨q,hq,hq1⟩:=qAb.mp (hp.mem_iff.mpr (by simpa using hpl:e/4∈qA9 n));have hcw:C.getD (e/4) 0<3:=by rw[<- hq1,<- hC q hq];exact hw3 q hq
  refine(zaK (F:=fun e=>x.getD e 0) hpl hcw).mpr ?_ e he rfl;have p1:=h2 (4*q.1,4*q.1+(q.2+1)) (qBh.mpr ⟨q,hq,by simp[pr9]⟩);have p2:=h2 (4*q.1+sa9 q.2,4*q.1+sb9 q.2) (qBh.mpr ⟨q,hq,by simp[pr9]⟩);rw[hq1,hC q hq,hq1]at p1 p2;dsimp only at p1 p2 ⊢;refine⟨fun z=>?_,fun z=>?_,fun z=>?_⟩<;>(rw[z]at p1 p2;exact⟨p1,p2⟩)
 ·rw[zET hN he]at z;cases z
 ·rw[zET hN he]at hf;cases hf;exact h.hn e he
 ·obtain⟨q,hq,hz⟩:=qBh.mp hp';have hpl:=hin q hq;have hcw:C.getD q.1 0<3:=by rw[<- hC q hq];exact hw3 q hq
  obtain⟨j0,j1,j2⟩:=(zaK (F:=fun e=>x.getD e 0) hpl hcw).mp fun e he _=>h.hj e he
  rw[<- hC q hq]at j0 j1 j2;have h3:=hw3 q hq;have c3:q.2=0\/q.2=1\/q.2=2:=by omega
  unfold pr9 at hz
  rcases c3 with c|c|c<;>rw[c]at hz
  ·obtain⟨k1,k2⟩:=j0 c
   rcases qA6.mp hz with rfl|hz
   ·exact k1
   ·rw[qAn]at hz;subst hz;exact k2
  ·obtain⟨k1,k2⟩:=j1 c
   rcases qA6.mp hz with rfl|hz
   ·exact k1
   ·rw[qAn]at hz;subst hz;exact k2
  ·obtain⟨k1,k2⟩:=j2 c
   rcases qA6.mp hz with rfl|hz
   ·exact k1
   ·rw[qAn]at hz;subst hz;exact k2
abbrev Ad:=List (Ty×List Nat)
noncomputable def putA:Ad->Ty->List Nat->Ad
 |[],k,xs=>[(k,xs)]
 |q::r,k,xs=>if q.1=k then(q.1,q.2++xs)::r else q::putA r k xs
noncomputable def allA(L:Ad):List (Ty×Nat):=L.flatMap fun q=>q.2.map fun c=>(q.1,c)
theorem zGC(k:Ty)(xs:List Nat):∀L:Ad,(allA (putA L k xs)).Perm (allA L++xs.map fun c=>(k,c))
 |[]=>by simp[putA,allA]
 |q::r=>by
  unfold putA
  split
  ·rename_i h
   subst h
   show((q.2++xs).map (fun c=>(q.1,c))++allA r).Perm ((q.2.map fun c=>(q.1,c))++allA r++xs.map fun c=>(q.1,c))
   rw[qB3,qB2,qB2];exact qDb _ List.perm_append_comm
  ·show((q.2.map fun c=>(q.1,c))++allA (putA r k xs)).Perm ((q.2.map fun c=>(q.1,c))++allA r++xs.map fun c=>(k,c))
   rw[qB2];exact qDb _ (zGC k xs r)
theorem zK9(k:Ty)(xs:List Nat):∀L:Ad,(putA L k xs).map (·.1)=if k∈L.map (·.1)then L.map (·.1)else L.map (·.1)++[k]
 |[]=>by simp[putA]
 |q::r=>by
  unfold putA
  by_cases h:q.1=k
  ·rw[if_pos h];simp[h]
  ·have h':¬k=q.1:=fun z=>h z.symm
   rw[if_neg h,qAg,zK9 k xs r]
   by_cases h2:k∈r.map (·.1)
   ·rw[if_pos h2,if_pos (by rw[qAg];exact qAd _ h2)];rfl
   ·rw[if_neg h2,if_neg (by simp only[qAg,qA6,not_or];exact⟨h',h2⟩)];rfl
theorem zOS{k:Ty}{xs:List Nat}{L:Ad}(h:(L.map (·.1)).Nodup):((putA L k xs).map (·.1)).Nodup:=by
 rw[zK9]
 split
 ·exact h
 ·rename_i z
  rw[qC6];exact⟨h,by simp,fun a ha b hb=>by simp at hb;subst hb;exact fun y=>z (y▸ha)⟩
theorem zQ7{k:Ty}{xs:List Nat}(hx:xs≠[]):∀{L:Ad},(∀q∈L,q.2≠[])->∀q∈putA L k xs,q.2≠[]
 |[],_,q,hq=>by simp[putA]at hq;subst hq;exact hx
 |z::r,h,q,hq=>by
  unfold putA at hq
  split at hq
  ·rcases qA6.mp hq with rfl|hq
   ·simp[hx]
   ·exact h q (qAd _ hq)
  ·rcases qA6.mp hq with rfl|hq
   ·exact h _ (qAl ..)
   ·exact zQ7 hx (fun q hq=>h q (qAd _ hq)) q hq
def putw(p:Nat)(q:Ty×List Nat)(acc:Ad)(w:Nat):Ad:=putA acc (jP q.1 p w).1 (q.2.map (·+(jP q.1 p w).2))
def stpw(p:Nat)(acc:Ad)(q:Ty×List Nat):Ad:=[0,1,2].foldl (putw p q) acc
def stepA(L:Ad)(p:Nat):Ad:=L.foldl (stpw p) []
abbrev nxt9(p:Nat)(z:Ty×Nat):List (Ty×Nat):=[0,1,2].map fun w=>((jP z.1 p w).1,z.2+(jP z.1 p w).2)
theorem zKT{α β:Type}(a b c:α->β):∀xs:List α,(xs.map a++(xs.map b++xs.map c)).Perm (xs.flatMap fun x=>[a x,b x,c x])
 |[]=>by simp
 |x::xs=>by
  have ih:=zKT a b c xs;simp only[qAg,qEn,qBv,qC4];refine qF9 _ ?_;refine(qG3 (l₁:=xs.map a) (a:=b x) (l₂:=xs.map b++c x::xs.map c)).trans (qF9 _ ?_);have e:(xs.map a++(xs.map b++c x::xs.map c)).Perm (c x::(xs.map a++(xs.map b++xs.map c))):=by
   rw[<- qB2,<- qB2];exact qG3
  exact e.trans (qF9 _ ih)
theorem zSN(p:Nat)(acc:Ad)(q:Ty×List Nat):(allA (stpw p acc q)).Perm (allA acc++(q.2.map fun c=>(q.1,c)).flatMap (nxt9 p)):=by
 unfold stpw;simp only[qC3,qE5];refine(zGC _ _ _).trans ?_;refine((zGC _ _ _).append_right _).trans ?_;refine(((zGC _ _ _).append_right _).append_right _).trans ?_;rw[qB2,qB2];refine qDb _ ?_;rw[qAq,qAq,qAq,List.flatMap_map];exact zKT (fun c=>((jP q.1 p 0).1,c+(jP q.1 p 0).2)) (fun c=>((jP q.1 p 1).1,c+(jP q.1 p 1).2)) (fun c=>((jP q.1 p 2).1,c+(jP q.1 p 2).2)) q.2
theorem zLK(p:Nat):∀(L acc:Ad),(allA (L.foldl (stpw p) acc)).Perm (allA acc++(allA L).flatMap (nxt9 p))
 |[],acc=>by simp[allA]
 |q::r,acc=>by
  rw[qC3];refine(zLK p r _).trans ?_;refine((zSN p acc q).append_right _).trans ?_
  show(allA acc++(q.2.map fun c=>(q.1,c)).flatMap (nxt9 p)++(allA r).flatMap (nxt9 p)).Perm (allA acc++((q.2.map fun c=>(q.1,c))++allA r).flatMap (nxt9 p))
  rw[List.flatMap_append,qB2]
theorem zLJ(L:Ad)(p:Nat):(allA (stepA L p)).Perm ((allA L).flatMap (nxt9 p)):=by
 have:=zLK p L []
 unfold stepA;rw[show allA []=[] from rfl,qC4]at this;exact this
structure Gd(L:Ad):Prop where
 nd:(L.map (·.1)).Nodup
 ne:∀q∈L,q.2≠[]
theorem zRL{L:Ad}{k:Ty}{xs:List Nat}(h:Gd L)(hx:xs≠[]):Gd (putA L k xs):=⟨zOS h.nd,zQ7 hx h.ne⟩
theorem zYC{p:Nat}{acc:Ad}{q:Ty×List Nat}(h:Gd acc)(hq:q.2≠[]):Gd (stpw p acc q):=by
 have m:∀c:Nat,q.2.map (·+c)≠[]:=fun c=>by simpa using hq
 exact zRL (zRL (zRL h (m _)) (m _)) (m _)
theorem zRM{p:Nat}:∀{L acc:Ad},(∀q∈L,q.2≠[])->Gd acc->Gd (L.foldl (stpw p) acc)
 |[],_,_,h=>h
 |q::r,acc,hL,h=>zRM (L:=r) (fun z hz=>hL z (qAd _ hz)) (zYC h (hL q (qAl ..)))
theorem zRK{L:Ad}{p:Nat}(h:Gd L):Gd (stepA L p):=zRM h.ne ⟨by simp,fun q hq=>by simp at hq⟩
noncomputable def allW:List Nat->List (List (Nat×Nat))
 |[]=>[[]]
 |p::r=>[0,1,2].flatMap fun w=>(allW r).map ((p,w)::·)
theorem zOE:∀(o:List Nat)(L:Ad),(allA (o.foldl stepA L)).Perm ((allA L).flatMap fun z=>(allW o).map fun ps=>((runP z.1 ps).1,z.2+(runP z.1 ps).2))
 |[],L=>by
  simp[allW,runP]
 |p::r,L=>by
  rw[qC3];refine(zOE r _).trans ?_;refine((zLJ L p).flatMap_right _).trans ?_;rw[List.flatMap_assoc];refine List.Perm.of_eq ?_
  congr 1
  funext z
  simp only[nxt9,qAg,qEz,qBv,qEr,qBk,allW,qB3,qAq];simp only[qEa,runP,Nat.add_assoc]
theorem zVW:∀(o:List Nat){L:Ad},Gd L->Gd (o.foldl stepA L)
 |[],_,h=>h
 |p::r,L,h=>zVW r (zRK h)
theorem allW_mem:∀{o:List Nat}{ps:List (Nat×Nat)},ps∈allW o↔ps.map (·.1)=o/\∀q∈ps,q.2<3
 |[],ps=>by
  simp only[allW,qAn];exact⟨fun h=>by subst h;simp,fun h=>by simpa using h.1⟩
 |p::r,ps=>by
  simp only[allW,qBh,qAb];constructor
  ·rintro⟨w,hw,qs,hq,rfl⟩
   obtain⟨h1,h2⟩:=allW_mem.mp hq;refine⟨by simp[h1],fun q hq=>?_⟩
   rcases qA6.mp hq with rfl|hq
   ·simp at hw;show w<3;omega
   ·exact h2 q hq
  ·rintro⟨h1,h2⟩
   match ps,h1,h2 with
   |[],h1,_=>simp at h1
   |q::qs,h1,h2=>
    simp at h1;have hq:=h2 q (qAl ..);refine⟨q.2,by simp;omega,qs,allW_mem.mpr ⟨h1.2,fun z hz=>h2 z (qAd _ hz)⟩,?_⟩;rw[<- h1.1]
theorem zI6:∀o:List Nat,(allW o).Nodup
 |[]=>by simp[allW]
 |p::r=>by
  have ih:=zI6 r;have inj:∀w:Nat,((allW r).map ((p,w)::·)).Nodup:=fun w=>zCR ih fun x _ y _ e=>by simpa using e
  simp only[allW,qBv,qEr,qBk];have ne:∀{w v:Nat},w≠v->∀a∈(allW r).map ((p,w)::·),∀b∈(allW r).map ((p,v)::·),a≠b:=fun{w v} h a ha b hb e=>by
   obtain⟨x,_,rfl⟩:=qAb.mp ha;obtain⟨y,_,rfl⟩:=qAb.mp hb;simp at e;exact h e.1
  rw[qC6,qC6];refine⟨inj 0,⟨inj 1,inj 2,ne (by decide)⟩,fun a ha b hb=>?_⟩
  rcases qAw.mp hb with hb|hb
  ·exact ne (by decide) a ha b hb
  ·exact ne (by decide) a ha b hb
noncomputable def toC(n:Nat)(ps:List (Nat×Nat)):List Nat:=(qA9 n).map fun p=>(ps.lookup p).getD 0
theorem zDK:∀{ps:List (Nat×Nat)},(ps.map (·.1)).Nodup->∀q∈ps,ps.lookup q.1=some q.2
 |[],_,q,hq=>by simp at hq
 |z::r,hn,q,hq=>by
  rw[qAg,qAy]at hn
  rcases qA6.mp hq with rfl|hq
  ·simp[qD4]
  ·have:(q.1==z.1)=false:=by
    simpa using fun e=>hn.1 (qAb.mpr ⟨q,hq,e⟩)
   simp[qD4,this];exact zDK hn.2 q hq
noncomputable def chA:Nat->List (List Nat)
 |0=>[[]]
 |n+1=>(chA n).flatMap fun c=>[c++[0],c++[1],c++[2]]
theorem chA_mem:∀{n:Nat}{c:List Nat},c∈chA n↔c.length=n/\∀w∈c,w<3
 |0,c=>by
  simp only[chA,qAn];exact⟨fun h=>by subst h;simp,fun h=>by simpa using h.1⟩
 |n+1,c=>by
  simp only[chA,qBh];constructor
  ·rintro⟨d,hd,hc⟩
   obtain⟨h1,h2⟩:=chA_mem.mp hd;simp at hc
   have:∃w,w<3/\c=d++[w]:=by
    rcases hc with rfl|rfl|rfl
    ·exact⟨0,by decide,rfl⟩
    ·exact⟨1,by decide,rfl⟩
    ·exact⟨2,by decide,rfl⟩
   obtain⟨w,hw,rfl⟩:=this;refine⟨by simp[h1],fun v hv=>?_⟩
   rcases qAw.mp hv with hv|hv
   ·exact h2 v hv
   ·simp at hv;omega
  ·rintro⟨h1,h2⟩
   have hne:c≠[]:=fun z=>by rw[z]at h1;simp at h1
   have e:=List.dropLast_concat_getLast hne;have hl:=h2 _ (List.getLast_mem hne);refine⟨c.dropLast,chA_mem.mpr ⟨by simp[h1],fun w hw=>h2 w (List.dropLast_subset _ hw)⟩,?_⟩
   generalize c.getLast hne=w at e hl
   generalize c.dropLast=d at e
   subst e
   have:w=0\/w=1\/w=2:=by omega
   rcases this with rfl|rfl|rfl<;>simp
theorem zL4:∀n,(chA n).Nodup
 |0=>by simp[chA]
 |n+1=>by
  have ih:=zL4 n;have g:∀l:List (List Nat),l.Nodup->(l.flatMap fun c=>[c++[0],c++[1],c++[2]]).Nodup:=by
   intro l
   induction l with
   |nil=>intro _;simp
   |cons c l ih2=>
    intro h;rw[qAy]at h;rw[qBv,qC6];refine⟨by simp,ih2 h.2,fun a ha b hb e=>?_⟩;subst e;obtain⟨d,hd,hb⟩:=qBh.mp hb;have k:∀{x y:List Nat}{u v:Nat},x++[u]=y++[v]->x=y:=fun{x y u v} e=>by
     have:=congrArg List.dropLast e
     simpa using this
    have:c=d:=by
     simp at ha hb
     rcases ha with rfl|rfl|rfl<;>rcases hb with z|z|z<;>exact k z
    exact h.1 (this▸hd)
  exact g _ ih
theorem zIC{n:Nat}{o:List Nat}(ho:o.Perm (qA9 n)):((allW o).map (toC n)).Perm (chA n):=by
 have hn:o.Nodup:=ho.nodup_iff.mpr qBx;refine(List.perm_ext_iff_of_nodup (zCR (zI6 o) fun x hx y hy e=>?_) (zL4 n)).mpr fun c=>?_
 ·obtain⟨x1,_⟩:=allW_mem.mp hx;obtain⟨y1,_⟩:=allW_mem.mp hy;have lk:∀p∈o,x.lookup p=y.lookup p:=fun p hp=>by
   have hpn:p<n:=by simpa using ho.mem_iff.mp hp
   have:=congrArg (fun l=>l[p]?) e
   simp[toC,hpn]at this;have hx':p∈x.map (·.1):=x1▸hp;have hy':p∈y.map (·.1):=y1▸hp;obtain⟨q,hq,rfl⟩:=qAb.mp hx';obtain⟨z,hz,hzq⟩:=qAb.mp hy';rw[zDK (x1▸hn) q hq]at this ⊢;rw[<- hzq]at this ⊢;rw[zDK (y1▸hn) z hz]at this ⊢
   simpa using this
  have len:x.length=y.length:=by
   have:=congrArg qDm (x1.trans y1.symm)
   simpa using this
  refine qB7 len fun i h1 h2=>?_
  have f1:x[i].1=y[i].1:=by
   have:=congrArg (fun l:List Nat=>l[i]?) (x1.trans y1.symm)
   simp[h1,h2]at this;exact this
  have f2:=lk x[i].1 (x1▸qAb.mpr ⟨x[i],qB8 _,rfl⟩);rw[zDK (x1▸hn) _ (qB8 h1),f1,zDK (y1▸hn) _ (qB8 h2)]at f2;exact Prod.ext f1 (by simpa using f2)
 ·rw[chA_mem,qAb];constructor
  ·rintro⟨ps,hp,rfl⟩
   obtain⟨h1,h2⟩:=allW_mem.mp hp;refine⟨by simp[toC],fun w hw=>?_⟩;obtain⟨p,hpn,rfl⟩:=qAb.mp hw
   have:p∈ps.map (·.1):=h1▸ho.mem_iff.mpr hpn
   obtain⟨q,hq,rfl⟩:=qAb.mp this;rw[zDK (h1▸hn) q hq];exact h2 q hq
  ·rintro⟨h1,h2⟩
   have hm:(o.map fun p=>(p,c.getD p 0)).map (·.1)=o:=by simp[qAq,qEa]
   refine⟨o.map fun p=>(p,c.getD p 0),allW_mem.mpr ⟨hm,fun q hq=>?_⟩,?_⟩
   ·obtain⟨p,hp,rfl⟩:=qAb.mp hq;have hpn:p<n:=by simpa using ho.mem_iff.mp hp
    show c.getD p 0<3;rw[qA0,qA5 (by omega)];exact h2 _ (qB8 _)
   ·refine qB7 (by simp[toC,h1]) fun i g1 g2=>?_
    simp[toC]at g1;have hio:i∈o:=ho.mem_iff.mpr (by simpa using g1)
    have:=zDK (ps:=o.map fun p=>(p,c.getD p 0)) (by rw[hm];exact hn) (i,c.getD i 0) (qAb.mpr ⟨i,hio,rfl⟩)
    simp only[toC,qCr,qC0];dsimp only at this;rw[this];simp[g2]
noncomputable def rN(ts:List Nat)(n:Nat)(C:List Nat):Nat:=Nat.log2 (KN ts C n)
theorem zV6{ts:List Nat}{n:Nat}{o:List Nat}{ps:List (Nat×Nat)}(hN:NetN ts (4*n))(hne:∀x,x<4*n->nt ts x≠x)(ho:o.Perm (qA9 n))(hp:ps∈allW o):runP (ts.map some) ps=(qA4 (4*n) none,rN ts n (toC n ps)):=by
 obtain⟨h1,h2⟩:=allW_mem.mp hp;have hn:o.Nodup:=ho.nodup_iff.mpr qBx;have hc:=chA_mem.mp ((zIC ho).mem_iff.mp (qAb.mpr ⟨ps,hp,rfl⟩));obtain⟨e1,e2⟩:=zSZ (C:=toC n ps) (ps:=ps) hN hne hc.1 hc.2 (h1▸ho) fun q hq=>by
  have hq1:q.1<n:=by
   have:=ho.mem_iff.mp (h1▸qAb.mpr ⟨q,hq,rfl⟩)
   simpa using this
  have:=zDK (h1▸hn) q hq
  simp[toC,hq1,this]
 refine Prod.ext e2 ?_;show _=Nat.log2 (KN ts (toC n ps) n);rw[<- e1,qG4]
theorem zWZ{ts:List Nat}{n:Nat}{o:List Nat}(hN:NetN ts (4*n))(hne:∀x,x<4*n->nt ts x≠x)(ho:o.Perm (qA9 n)):∃cs,o.foldl stepA [(ts.map some,[0])]=[(qA4 (4*n) none,cs)]/\cs.Perm ((chA n).map (rN ts n)):=by
 have g:=zVW o (L:=[(ts.map some,[0])]) ⟨by simp,by simp⟩;have a:=zOE o [(ts.map some,[0])];have e0:allA [(ts.map some,[0])]=[(ts.map some,0)]:=rfl;rw[e0,qBv,qEr,qBk]at a;have e1:((allW o).map fun ps=>((runP (ts.map some) ps).1,0+(runP (ts.map some) ps).2))=(allW o).map fun ps=>(qA4 (4*n) none,rN ts n (toC n ps)):=qAt fun ps hp=>by rw[zV6 hN hne ho hp];simp
 rw[e1]at a;have a2:(allA (o.foldl stepA [(ts.map some,[0])])).Perm (((chA n).map (rN ts n)).map fun c=>(qA4 (4*n) none,c)):=by
  refine a.trans ?_
  have:=((zIC ho).map (rN ts n)).map fun c=>((qA4 (4*n) none:Ty),c)
  rw[qAq,qAq]at this;exact this
 generalize o.foldl stepA [(ts.map some,[0])]=L at g a2
 have keys:∀q∈L,q.1=qA4 (4*n) none:=fun q hq=>by
  have hne:=g.ne q hq;obtain⟨c,hc⟩:=qE6 _ hne
  have:(q.1,c)∈allA L:=qBh.mpr ⟨q,hq,qAb.mpr ⟨c,hc,rfl⟩⟩
  obtain⟨d,_,e⟩:=qAb.mp (a2.mem_iff.mp this);exact(congrArg qF6 e).symm
 match L,g,a2,keys with
 |[],_,a2,_=>
  have h3:=a2.length_eq
  have:(chA n)≠[]:=fun z=>by
   have:=chA_mem (n:=n) (c:=qA4 n 0)
   rw[z]at this;simp at this
  simp[allA]at h3;exact absurd (List.length_eq_zero_iff.mp h3.symm) this
 |[q],_,a2,keys=>
  have hk:=keys q (qAl ..);refine⟨q.2,by rw[<- hk],?_⟩;have h4:allA [q]=q.2.map fun c=>(q.1,c):=by simp[allA]
  rw[h4,hk]at a2
  have:=a2.map Prod.snd
  simpa[qAq,qEa]using this
 |q::z::r,g,_,keys=>
  have h5:=g.nd;rw[qAg,qAg,keys q (by simp),keys z (by simp)]at h5;simp at h5
noncomputable def mxL(cs:List Nat):Nat:=cs.foldr max 0
def hst(cs:List Nat):List Int:=if cs=[]then[]else(qA9 (mxL cs+1)).map fun k=>((cs.count k:Nat):Int)
theorem zXR(a b:List Nat):mxL (a++b)=max (mxL a) (mxL b):=by
 induction a with
 |nil=>simp[mxL]
 |cons x r ih=>
  show max x (mxL (r++b))=max (max x (mxL r)) (mxL b);rw[ih,qHd]
theorem zHX{cs:List Nat}{c:Nat}(h:c∈cs):c<=mxL cs:=by
 induction cs with
 |nil=>simp at h
 |cons x r ih=>
  simp[mxL]at ih ⊢
  rcases qA6.mp h with rfl|h
  ·omega
  ·have:=ih h;omega
theorem zFE{cs:List Nat}(h:cs≠[]):mxL cs∈cs:=by
 induction cs with
 |nil=>exact absurd rfl h
 |cons x r ih=>
  show max x (mxL r)∈x::r
  by_cases hr:r=[]
  ·subst hr;simp[mxL]
  ·have:=ih hr
   by_cases hx:mxL r<=x
   ·rw[qGg hx];exact qAl ..
   ·rw[qG5 (by omega)];exact qAd _ this
theorem zTP{a b:List Nat}(h:a.Perm b):mxL a=mxL b:=by
 by_cases ha:a=[]
 ·subst ha;rw[qHf.mp h]
 ·have hb:b≠[]:=fun z=>by subst z;exact ha (qHg.mp h)
  exact qDr (zHX (h.mem_iff.mp (zFE ha))) (zHX (h.mem_iff.mpr (zFE hb)))
theorem zU3{a b:List Nat}(h:a.Perm b):hst a=hst b:=by
 unfold hst
 by_cases ha:a=[]
 ·subst ha;rw[qHf.mp h]
 ·have hb:b≠[]:=fun z=>by subst z;exact ha (qHg.mp h)
  rw[if_neg ha,if_neg hb,zTP h];exact qAt fun k _=>by rw[h.count_eq]
theorem zFF{cs:List Nat}(h:cs≠[]):(hst cs).length=mxL cs+1:=by unfold hst;rw[if_neg h];simp
theorem zH5{cs:List Nat}(h:cs≠[])(k:Nat):(hst cs).getD k 0=((cs.count k:Nat):Int):=by
 unfold hst;rw[if_neg h]
 by_cases hk:k<mxL cs+1
 ·simp[hk]
 ·have:cs.count k=0:=qFn.mpr fun z=>hk (by have:=zHX z;omega)
  rw[qA0,qDa (by simp;omega),this];rfl
noncomputable def sumL(a b:List Int):List Int:=(qA9 (max a.length b.length)).map fun k=>a.getD k 0+b.getD k 0
theorem zWP{a b:List Nat}(hb:b≠[]):sumL (hst a) (hst b)=hst (a++b):=by
 have hab:a++b≠[]:=by simp[hb]
 by_cases ha:a=[]
 ·subst ha;unfold sumL;rw[show hst []=[] from rfl,qC4];refine qB7 (by simp) fun i h1 h2=>?_
  have e:(hst b)[i]=(hst b).getD i 0:=by simp[h2]
  rw[e,qCr,qC0];simp
 ·unfold sumL;rw[zFF ha,zFF hb];refine qB7 (by rw[qAm,qFw,zFF hab,zXR];omega) fun i h1 h2=>?_
  have e:(hst (a++b))[i]=(hst (a++b)).getD i 0:=by simp[h2]
  rw[e,zH5 hab,qCr,zH5 ha,zH5 hb,qC0,List.count_append]
  push_cast
  rfl
theorem zS6(b:List Nat)(c k:Nat):(b.map (·+c)).count (k+c)=b.count k:=by
 induction b with
 |nil=>rfl
 |cons x r ih=>
  rw[qAg,qDs,qDs,ih]
  by_cases h:x=k
  ·subst h;simp
  ·simp[h]
theorem zPX{b:List Nat}(hb:b≠[])(c:Nat):qA4 c (0:Int)++hst b=hst (b.map (·+c)):=by
 have hb':b.map (·+c)≠[]:=by simpa using hb
 have hm:mxL (b.map (·+c))=mxL b+c:=by
  have h1:=zFE hb';obtain⟨x,hx,hx2⟩:=qAb.mp h1;have h2:=zHX hx;have h3:mxL b+c<=mxL (b.map (·+c)):=zHX (qAb.mpr ⟨_,zFE hb,rfl⟩);omega
 refine qB7 (by simp[zFF hb,zFF hb',hm];omega) fun i h1 h2=>?_
 have e:(hst (b.map (·+c)))[i]=(hst (b.map (·+c))).getD i 0:=by simp[h2]
 rw[e,zH5 hb']
 by_cases hi:i<c
 ·rw[List.getElem_append_left (by simpa using hi)]
  have:(b.map (·+c)).count i=0:=qFn.mpr fun z=>by
   obtain⟨x,_,hx⟩:=qAb.mp z;omega
  simp[this]
 ·rw[List.getElem_append_right (by simpa using hi)];have e2:∀h,(hst b)[i-(qA4 c (0:Int)).length]'h=(hst b).getD (i-c) 0:=fun h=>by simp at h ⊢;simp[h]
  rw[e2,zH5 hb]
  congr 1
  have:i=i-c+c:=by omega
  conv=>rhs;rw[this]
  exact(zS6 b c (i-c)).symm
noncomputable def oD:Option Nat->Dt
 |none=>.non
 |some k=>.int (k:Nat)
abbrev tyR(t:Ty):List Dt:=t.map oD
theorem zNY(o:Option Nat):(oD o).dep=0:=by cases o<;>rfl
theorem zM9:∀t:Ty,Dt.depL (tyR t)=0
 |[]=>rfl
 |o::r=>by show Dt.depL (oD o::tyR r)=0;rw[Dt.depL,zNY,zM9 r];rfl
theorem zbC(t:Ty):(Dt.lst (tyR t)).dep=1/\(Dt.tup (tyR t)).dep=1:=⟨by rw[Dt.dep,zM9],by rw[Dt.dep,zM9]⟩
theorem zaN{t:Ty}{a:Nat}(h:a<t.length):ixD (.lst (tyR t)) (.int (a:Int))=some (oD (t.getD a none)):=by
 show itA (tyR t) (a:Int)=_;refine zH1 (j:=a) rfl ?_;simp[h]
theorem zZ9(t:Ty)(a:Nat)(o:Option Nat):(tyR t).set a (oD o)=tyR (t.set a o):=by
 show(t.map oD).set a (oD o)=(t.set a o).map oD
 rw[qDx]
theorem mnx{s:SM}{m:SMM}{ρ ρ':Ro}(h:s ρ=okR (.nx ρ')):mSeq (mLift s) m ρ=m ρ':=by
 unfold mSeq mLift;rw[h];rfl
theorem zU0{i n k p:Nat}{e1 e2:EM}{t:Ty}{ρ:Ro}{a:Nat}{o:Option Nat}(hr:ρ[i]?=some (some (.loc p (.lst (tyR t)),k+2)))(h2:e2 (full ρ)=okR (oD o))(h1:e1 (full ρ)=okR (.int (a:Int)))(ha:a<t.length) :
  sItemL i n e1 e2 ρ=okR (.nx (ρ.set i (some (.loc p (.lst (tyR (t.set a o))),k+2)))):=by
 unfold sItemL;rw[h2,bindR_ok,hr];dsimp only;rw[h1,bindR_ok];dsimp only;rw[zH0 (n:=(tyR t).length) (by omega) (by simpa using ha)];dsimp only;rw[zNY,if_pos ⟨qAs _,qAs _⟩]
 have:(a:Int).toNat=a:=rfl
 rw[this,zZ9]
theorem eqo(o:Option Nat)(b:Nat):eqD (oD o) (.int (b:Int))=some (.bl (decide (o=some b))):=by
 cases o with
 |none=>simp[oD,eqD,Dt.dep,Dt.eq]
 |some a=>
  simp[oD,eqD,Dt.dep,Dt.eq];omega
theorem mend{l:Nat}{ρ:Ro}{X d:Dt}{e:EM}(h0:ρ[0]?=some (some (.loc l X,2)))(he:e (full ρ)=okR d)(hd:d.dep=0):zA2 (mRet e ρ) (endM 0 0 1 l)=okR (d,X):=by
 unfold mRet;rw[he,bindR_ok,if_pos hd,bindR_ok];unfold endM heldAt;dsimp only;rw[h0];dsimp only;rw[if_pos ⟨rfl,rfl⟩];rfl
theorem zHN{M:Nat}{t:Ty}{a b far near:Nat}(h:Mt M t)(ha:t.getD a none=some far)(hb:t.getD b none=some near)(hab:a≠b):zB4 [.lst (tyR t),.int (a:Int),.int (b:Int)]=okR (.int ((jE t a b).2:Int),.lst (tyR (jE t a b).1)):=by
 have la:=h.lt ha;have lb:=h.lt hb;have lf:=(h.inv a far ha).1;have ln:=(h.inv b near hb).1;have hl:=h.len;refine zPL fun l=>?_
 unfold runM;rw[if_pos ⟨rfl,by decide⟩];have e0:startM 5 0 1 l [.lst (tyR t),.int (a:Int),.int (b:Int)]=[some (.loc l (.lst (tyR t)),2),some (.int (a:Int),0),some (.int (b:Int),0),none,none]:=rfl;rw[e0];unfold zHF;rw[mnx (ρ':=[some (.loc l (.lst (tyR t)),2),some (.int (a:Int),0),some (.int (b:Int),0),some (oD (some far),0),none]) (ss (b2 rfl rfl (by rw[zaN (by omega),ha])) (qCh (zNY _)))];rw[mnx (ρ':=[some (.loc l (.lst (tyR t)),2),some (.int (a:Int),0),some (.int (b:Int),0),some (oD (some far),0),some (oD (some near),0)]) (ss (b2 rfl rfl (by rw[zaN (by omega),hb])) (qCh (zNY _)))];rw[mnx (zU0 (o:=none) (t:=t) (k:=0) rfl rfl rfl (by omega))];rw[mnx (zU0 (o:=none) (t:=t.set a none) (k:=0) rfl rfl rfl (by simp;omega))];have tb:tB (eB eqD (eV 3) (eV 2)) (full [some (.loc l (.lst (tyR ((t.set a none).set b none))),2),some (.int (a:Int),0),some (.int (b:Int),0),some (oD (some far),0),some (oD (some near),0)])=okR (decide (some far=some b)):=tb1 (b2 (d1:=oD (some far)) (d2:=.int (b:Int)) rfl rfl (eqo (some far) b));have j:=zM3 h ha hb hab
 by_cases z:far=b
 ·have e1:jE t a b=((t.set a none).set b none,1):=by unfold jE;rw[ha];exact if_pos z
  rw[e1];unfold mSeq mIf;dsimp only[List.set];rw[tb,bindR_ok,if_pos (by simp[z])];show zA2 (mRet (eC (.int 1)) _) _=_;exact mend rfl rfl rfl
 ·have e1:jE t a b=((((t.set a none).set b none).set far (some near)).set near (some far),0):=by unfold jE;rw[ha,hb];exact if_neg z
  rw[e1];have em:∀m:SMM,mSeq (mIf (tB (eB eqD (eV 3) (eV 2))) (mRet (eC (.int 1))) (mLift sNil)) m ([some (.loc l (.lst (tyR ((t.set a none).set b none))),2),some (.int (a:Int),0),some (.int (b:Int),0),some (oD (some far),0),some (oD (some near),0)])=m ([some (.loc l (.lst (tyR ((t.set a none).set b none))),2),some (.int (a:Int),0),some (.int (b:Int),0),some (oD (some far),0),some (oD (some near),0)]):=fun m=>by
   unfold mSeq mIf;rw[tb,bindR_ok,if_neg (by simp[z])];rfl
  dsimp only[List.set];rw[em];rw[mnx (zU0 (o:=some near) (t:=(t.set a none).set b none) (a:=far) (k:=0) rfl rfl rfl (by simp;omega))];rw[mnx (zU0 (o:=some far) (t:=((t.set a none).set b none).set far (some near)) (a:=near) (k:=0) rfl rfl rfl (by simp;omega))];exact mend rfl rfl rfl
theorem addW{M:Nat}{t:Ty}{a b far near l c:Nat}{s:Int}{ρ:Ro}{e1 e2:EM}(h:Mt M t)(ha:t.getD a none=some far)(hb:t.getD b none=some near)(hab:a≠b)(h0:ρ[0]?=some (some (.loc l (.lst (tyR t)),2)))(h3:ρ[3]?=some (some (.int s,c)))
  (q1:e1 (frz ρ)=okR (.int (a:Int))) (q2:e2 (frz ρ)=okR (.int (b:Int))):sAddW 3 0 1 (aCons e1 (aCons e2 aNil)) zB4 ρ=okR (.nx ((ρ.set 0 (some (.loc l (.lst (tyR (jE t a b).1)),2))).set 3 (some (.int (s+(jE t a b).2),0)))):=by
 unfold sAddW;rw[h0,h3];dsimp only;rw[if_pos ⟨rfl,by decide⟩,zC0,q1,bindR_ok,zC0,q2,bindR_ok,zE2,bindR_ok,bindR_ok,bindR_ok,zHN h ha hb hab,bindR_ok]
theorem zSR:∀w,w<3->∀s,s<4->(s<(s^^^(w+1))↔s=0\/s=sa9 w)/\(s=0->(s^^^(w+1))=w+1)/\(s=sa9 w->(s^^^(w+1))=sb9 w):=by decide
theorem zGZ{M:Nat}{t:Ty}{p w:Nat}(h:Mt M t)(hal:∀s,s<4->t.getD (4*p+s) none≠none)(hw:w<3):zBA [.lst (tyR t),.int (p:Int),.int (w:Int)]=okR (.int ((jP t p w).2:Int),.lst (tyR (jP t p w).1)):=by
 obtain⟨a1,a2,a3,a4,a5,a6,a7,a8⟩:=zLP w hw;have some_of:∀{o:Option Nat},o≠none->∃f,o=some f:=fun{o} ho=>by cases o with|none=>exact absurd rfl ho|some f=>exact⟨f,rfl⟩
 obtain⟨f,hf⟩:=some_of (hal 0 (by omega));obtain⟨g,hg⟩:=some_of (hal (w+1) (by omega));rw[qHl]at hf;have n1:4*p≠4*p+(w+1):=by omega
 have m1:=zY4 h hf hg n1;have d1:=zM2 h hf hg n1;have al:∀s,s<4->s≠0->s≠w+1->(jE t (4*p) (4*p+(w+1))).1.getD (4*p+s) none≠none:=fun s hs h0 h1 z=>by
  rcases(d1 _).mp z with z|z|z
  ·omega
  ·omega
  ·exact hal s hs z
 obtain⟨f',hf'⟩:=some_of (al (sa9 w) a1 a4 a6);obtain⟨g',hg'⟩:=some_of (al (sb9 w) a2 a5 a7);have n2:4*p+sa9 w≠4*p+sb9 w:=by omega
 refine zPL fun l=>?_
 unfold runM;rw[if_pos ⟨rfl,by decide⟩];have e0:startM 6 0 1 l [.lst (tyR t),.int (p:Int),.int (w:Int)]=[some (.loc l (.lst (tyR t)),2),some (.int (p:Int),0),some (.int (w:Int),0),none,none,none]:=rfl;rw[e0];unfold zFU;rw[mnx (ρ':=[some (.loc l (.lst (tyR t)),2),some (.int (p:Int),0),some (.int (w:Int),0),some (.int 0,0),none,none]) rfl]
 let T:Nat->Ty:=fun k=>if k=0 then t else if k<=sa9 w then(jE t (4*p) (4*p+(w+1))).1 else(jP t p w).1
 let Cn:Nat->Nat:=fun k=>if k=0 then 0 else if k<=sa9 w then(jE t (4*p) (4*p+(w+1))).2 else(jP t p w).2
 have hbody:∀(j:Nat)(d:Dt)(r:Ro),(nums 0 4)[j]?=some d->(∃x y,r=[some (.loc l (.lst (tyR (T (0+j)))),2),some (.int (p:Int),0),some (.int (w:Int),0),some (.int (Cn (0+j):Int),0),x,y]) ->
   ∃bs r',zAM (.one 4) d=some bs/\(sSeq (sSet 5 0 [2,4] (eCall zCK (aCons (eV 2) (aCons (eV 4) aNil)))) (sIf (tB (eB (cmpD fun i j=>decide (i<j)) (eV 4) (eV 5))) (sAddW 3 0 1 (aCons (eB addD (eB mulD (eV 1) (eC (.int 4))) (eV 4)) (aCons (eB addD (eB mulD (eV 1) (eC (.int 4))) (eV 5)) aNil)) zB4) sNil)) (zAQ r bs)=okR (.nx r')/\∃x y,r'=[some (.loc l (.lst (tyR (T (0+j+1)))),2),some (.int (p:Int),0),some (.int (w:Int),0),some (.int (Cn (0+j+1):Int),0),x,y]:=by
  rintro s d r hd ⟨x,y,rfl⟩
  rw[zCJ,qAf]at hd;have hs:s<4:=by
   cases hq:(qA9 4)[s]? with
   |none=>rw[hq]at hd;cases hd
   |some q=>simpa using(qA2.mp hq).1
  have hd':d=.int (s:Int):=by
   rw[qFe hs]at hd;simp at hd;exact hd.symm
  subst hd';rw[qBj];refine⟨[(4,.int (s:Int))],?_⟩;obtain⟨x1,x2,x3⟩:=zSR w hw s hs;have hset:zAQ [some (.loc l (.lst (tyR (T s))),2),some (.int (p:Int),0),some (.int (w:Int),0),some (.int (Cn s:Int),0),x,y] [(4,.int (s:Int))]=[some (.loc l (.lst (tyR (T s))),2),some (.int (p:Int),0),some (.int (w:Int),0),some (.int (Cn s:Int),0),some (.int (s:Int),0),y]:=rfl;rw[hset];have hst:∀{X:R Out},(sIf (tB (eB (cmpD fun i j=>decide (i<j)) (eV 4) (eV 5))) (sAddW 3 0 1 (aCons (eB addD (eB mulD (eV 1) (eC (.int 4))) (eV 4)) (aCons (eB addD (eB mulD (eV 1) (eC (.int 4))) (eV 5)) aNil)) zB4) sNil) [some (.loc l (.lst (tyR (T s))),2),some (.int (p:Int),0),some (.int (w:Int),0),some (.int (Cn s:Int),0),some (.int (s:Int),0),some (.int ((s^^^(w+1):Nat):Int),0)]=X->(sSeq (sSet 5 0 [2,4] (eCall zCK (aCons (eV 2) (aCons (eV 4) aNil)))) (sIf (tB (eB (cmpD fun i j=>decide (i<j)) (eV 4) (eV 5))) (sAddW 3 0 1 (aCons (eB addD (eB mulD (eV 1) (eC (.int 4))) (eV 4)) (aCons (eB addD (eB mulD (eV 1) (eC (.int 4))) (eV 5)) aNil)) zB4) sNil)) [some (.loc l (.lst (tyR (T s))),2),some (.int (p:Int),0),some (.int (w:Int),0),some (.int (Cn s:Int),0),some (.int (s:Int),0),y]=X:=fun hX=>sg (c2 rfl rfl (zM1 hw hs)) (qA7 0) hX
  have cmp:tB (eB (cmpD fun i j=>decide (i<j)) (eV 4) (eV 5)) (full [some (.loc l (.lst (tyR (T s))),2),some (.int (p:Int),0),some (.int (w:Int),0),some (.int (Cn s:Int),0),some (.int (s:Int),0),some (.int ((s^^^(w+1):Nat):Int),0)])=okR (decide ((s:Int)<((s^^^(w+1):Nat):Int))):=tb1 (b2 rfl rfl rfl)
  by_cases hlt:s<(s^^^(w+1))
  ·have go:∀{a b far near:Nat}{t0:Ty},Mt M t0->T s=t0->a=4*p+s->b=4*p+(s^^^(w+1))->t0.getD a none=some far->t0.getD b none=some near->a≠b->T (s+1)=(jE t0 a b).1->Cn (s+1)=Cn s+(jE t0 a b).2 ->
     ∃r',zAM (.one 4) (.int (s:Int))=some [(4,.int (s:Int))]/\(sSeq (sSet 5 0 [2,4] (eCall zCK (aCons (eV 2) (aCons (eV 4) aNil)))) (sIf (tB (eB (cmpD fun i j=>decide (i<j)) (eV 4) (eV 5))) (sAddW 3 0 1 (aCons (eB addD (eB mulD (eV 1) (eC (.int 4))) (eV 4)) (aCons (eB addD (eB mulD (eV 1) (eC (.int 4))) (eV 5)) aNil)) zB4) sNil)) [some (.loc l (.lst (tyR (T s))),2),some (.int (p:Int),0),some (.int (w:Int),0),some (.int (Cn s:Int),0),some (.int (s:Int),0),y]=okR (.nx r')/\∃x y,r'=[some (.loc l (.lst (tyR (T (s+1)))),2),some (.int (p:Int),0),some (.int (w:Int),0),some (.int (Cn (s+1):Int),0),x,y]:=by
    intro a b far near t0 hM hTs ea eb qa qb qab hT1 hC1;refine⟨_,rfl,hst ?_,some (.int (s:Int),0),some (.int ((s^^^(w+1):Nat):Int),0),rfl⟩;have hmul:∀(v:Int)(q:Nat)(z:EM)(ρ:Rh),z ρ=okR (.int v)->ρ[1]?=some (some (.int (p:Int)))->v=(q:Int)->eB addD (eB mulD (eV 1) (eC (.int 4))) z ρ=okR (.int ((4*p+q:Nat):Int)):=fun v q z ρ hz h1 hv=>by
     have e1:eV 1 ρ=okR (.int (p:Int)):=by unfold eV;rw[h1]
     refine b2 (b2 e1 rfl (d:=.int ((p:Int)*4)) ?_) hz ?_
     ·show mulD _ _=_;unfold mulD;dsimp only;rw[if_pos (.inl (.inr ⟨by decide,by decide⟩))]
     ·show some (Dt.int ((p:Int)*4+v))=_;rw[hv]
      congr 2
      push_cast
      omega
    have hadd:=addW (l:=l) (s:=(Cn s:Int)) (c:=0) (ρ:=[some (.loc l (.lst (tyR t0)),2),some (.int (p:Int),0),some (.int (w:Int),0),some (.int (Cn s:Int),0),some (.int (s:Int),0),some (.int ((s^^^(w+1):Nat):Int),0)]) (e1:=eB addD (eB mulD (eV 1) (eC (.int 4))) (eV 4)) (e2:=eB addD (eB mulD (eV 1) (eC (.int 4))) (eV 5)) hM qa qb qab rfl rfl (by rw[ea];exact hmul _ s _ _ rfl rfl rfl) (by rw[eb];exact hmul _ (s^^^(w+1)) _ _ rfl rfl rfl);rw[zEK,cmp,bindR_ok,if_pos (by simpa using(by exact_mod_cast hlt:(s:Int)<((s^^^(w+1):Nat):Int)))];rw[hTs,hadd,hT1,hC1];simp
   rcases x1.mp hlt with z|z
   ·refine go (a:=4*p) (b:=4*p+(w+1)) (t0:=t) h (by show(if s=0 then _ else _)=_;rw[if_pos z]) (by omega) (by rw[x2 z]) hf hg n1 ?_ ?_
    ·show(if s+1=0 then _ else if s+1<=sa9 w then _ else _)=_
     rw[if_neg (by omega),if_pos (by omega)]
    ·show(if s+1=0 then _ else if s+1<=sa9 w then _ else _)=(if s=0 then _ else _)+_
     rw[if_neg (by omega),if_pos (by omega),if_pos z,qBj]
   ·have s0:s≠0:=by omega
    refine go (a:=4*p+sa9 w) (b:=4*p+sb9 w) (t0:=(jE t (4*p) (4*p+(w+1))).1) m1 (by show(if s=0 then _ else if s<=sa9 w then _ else _)=_;rw[if_neg s0,if_pos (by omega)]) (by rw[z]) (by rw[x3 z]) hf' hg' n2 ?_ ?_
    ·show(if s+1=0 then _ else if s+1<=sa9 w then _ else _)=_
     rw[if_neg (by omega),if_neg (by omega)];rfl
    ·show(if s+1=0 then _ else if s+1<=sa9 w then _ else _)=(if s=0 then _ else if s<=sa9 w then _ else _)+_
     rw[if_neg (by omega),if_neg (by omega),if_neg s0,if_pos (by omega)];rfl
  ·have hn1:s≠0/\s≠sa9 w:=⟨fun z=>hlt (x1.mpr (.inl z)),fun z=>hlt (x1.mpr (.inr z))⟩
   refine⟨_,rfl,hst (sf (cmp.trans (by rw[decide_eq_false (by omega)]))),some (.int (s:Int),0),some (.int ((s^^^(w+1):Nat):Int),0),?_⟩;have eT:T (s+1)=T s:=by
    show(if s+1=0 then _ else if s+1<=sa9 w then _ else _)=(if s=0 then _ else if s<=sa9 w then _ else _)
    rw[if_neg (by omega),if_neg hn1.1]
    by_cases q:s<=sa9 w
    ·rw[if_pos (by omega),if_pos q]
    ·rw[if_neg (by omega),if_neg q]
   have eC':Cn (s+1)=Cn s:=by
    show(if s+1=0 then _ else if s+1<=sa9 w then _ else _)=(if s=0 then _ else if s<=sa9 w then _ else _)
    rw[if_neg (by omega),if_neg hn1.1]
    by_cases q:s<=sa9 w
    ·rw[if_pos (by omega),if_pos q]
    ·rw[if_neg (by omega),if_neg q]
   rw[eT,eC']
 obtain⟨r,hr,x,y,hx⟩:=zEH (fun k r=>∃x y,r=[some (.loc l (.lst (tyR (T k))),2),some (.int (p:Int),0),some (.int (w:Int),0),some (.int (Cn k:Int),0),x,y]) (nums 0 4) 0 [some (.loc l (.lst (tyR t)),2),some (.int (p:Int),0),some (.int (w:Int),0),some (.int 0,0),none,none] ⟨none,none,rfl⟩ hbody
 ·have hlen:0+(nums 0 4).length=4:=rfl;rw[hlen]at hx;have hT4:T 4=(jP t p w).1:=by show(if(4:Nat)=0 then _ else if 4<=sa9 w then _ else _)=_;rw[if_neg (by decide),if_neg (by omega)]
  have hC4:Cn 4=(jP t p w).2:=by show(if(4:Nat)=0 then _ else if 4<=sa9 w then _ else _)=_;rw[if_neg (by decide),if_neg (by omega)]
  rw[hT4,hC4]at hx;have hR:sForR (iR1 (aCons (eC (.int 4)) aNil)) 4 (sSeq (sSet 5 0 [2,4] (eCall zCK (aCons (eV 2) (aCons (eV 4) aNil)))) (sIf (tB (eB (cmpD fun i j=>decide (i<j)) (eV 4) (eV 5))) (sAddW 3 0 1 (aCons (eB addD (eB mulD (eV 1) (eC (.int 4))) (eV 4)) (aCons (eB addD (eB mulD (eV 1) (eC (.int 4))) (eV 5)) aNil)) zB4) sNil)) [some (.loc l (.lst (tyR t)),2),some (.int (p:Int),0),some (.int (w:Int),0),some (.int 0,0),none,none]=okR (.nx r):=by
   unfold sForR
   have:iR1 (aCons (eC (.int 4)) aNil) (full [some (.loc l (.lst (tyR t)),2),some (.int (p:Int),0),some (.int (w:Int),0),some (.int 0,0),none,none])=okR (nums 0 4):=by simp[iR1]
   rw[this,bindR_ok];exact hr
  rw[mnx hR,hx];exact mend rfl rfl rfl
theorem zNR{r:Ro}{i m n:Nat}{l:Nat}{f:Nat->Nat->Int}(a b:Nat){v:Int}{e0 e1 e2:EM}{P:Ro->Prop}(h:r[i]?=some (some (mat (tab n f),l+2)))(h0:e0 (full r)=okR (.int (a:Nat)))(h1:e1 (full r)=okR (.int (b:Nat)))(h2:e2 (full r)=okR (.int v))(ha:a<n)(hb:b<n)
  (hP:∀g,g=(fun x y=>if x=a/\y=b then v else f x y)->P (r.set i (some (mat (tab n g),l+2)))):nxR (sItem2 i m e0 e1 e2 r) P:=
 zB0 (zKQ h h0 h1 h2 ha hb) (hP _ rfl)
noncomputable def zaE(n:Nat)(f:Nat->Nat->Int)(p:Nat):List Nat:=(qA9 n).filter fun k=>decide (f p k=1) && !decide ((k:Int)=(p:Int))
noncomputable def chg(f:Nat->Nat->Int)(b:Nat->Nat->Bool):Nat->Nat->Int:=fun i j=>if b i j=true then 1-f i j else f i j
def pvA(n:Nat)(f:Nat->Nat->Int)(v:Nat):Nat->Nat->Int:=chg f fun i j=>decide (i∈zaE n f v)&&decide (j∈zaE n f v)
noncomputable def off(a:Nat->Int)(u:Nat):Nat->Int:=fun i=>if i=u then 0 else a i
noncomputable def exB(a b:Nat->Int)(i j:Nat):Bool:=(decide (a i=1)||decide (b i=1))&&((decide (a j=1)||decide (b j=1)) && !(decide (a i=a j)&&decide (b i=b j)))
noncomputable def swq(n u v:Nat):List Nat:=((qA9 n).set u v).set v u
def sdA(f:Nat->Nat->Int)(u v:Nat)(w:Nat):Nat->Int:=off (off (f w) u) v
def pvB(n:Nat)(f:Nat->Nat->Int)(u v:Nat):Nat->Nat->Int:=sub (swq n u v) (chg f (exB (sdA f u v u) (sdA f u v v)))
structure Tb2(f:Nat->Nat->Int):Prop where
 bit:∀i j,f i j=0\/f i j=1
 sym:∀i j,f i j=f j i
theorem Tb2.bits{f:Nat->Nat->Int}(h:Tb2 f)(n:Nat):Bits n f:=fun i j _ _=>h.bit i j
theorem zrow(n:Nat)(hn:n<=1000):repD (.lst [.int 0]) (.int (n:Int))=some (rowD ((qA9 n).map fun _=>(0:Int))):=by
 unfold repD;dsimp only;rw[if_pos ⟨⟨by lia,by lia⟩,by simp;lia⟩,qBa]
 have:∀m:Nat,(qA4 m [Dt.int 0]).flatten=((qA9 m).map fun _=>(0:Int)).map Dt.int:=fun m=>by
  induction m with
  |zero=>rfl
  |succ m ih=>rw[List.replicate_succ',List.flatten_append,ih,qDo,qB3,qB3];rfl
 rw[this];rfl
theorem zHI(cs:List Int)(n:Nat)(b:Bool)(hn:n<=10)(hc:0<cs.length):∃f,Tb2 f/\zBU [rowD cs,.int (n:Int),.bl b]=okR (mat (tab n f)):=by
 have hz:eComp (iR1 (aCons (eV 1) aNil)) 1 (.one 7) Mi.tYes (eB repD (eLst (aCons (eC (.int 0)) aNil)) (eV 1)) [some (rowD cs),some (.int (n:Int)),some (.bl b),none,none,none,none]=okR (mat (tab n fun _ _=>0)):=by
  refine(zFI (ρ:=[some (rowD cs),some (.int (n:Int)),some (.bl b),none,none,none,none]) (i:=7) (fun _=>rowD ((qA9 n).map fun _=>(0:Int))) n rfl rfl (fun k hk=>b2 (el1 rfl) rfl (zrow n (by lia))) _ (zGE (n:=n) (al0 rfl) (by lia)) (by lia)).trans ?_;unfold mat tab;rw[qAq];rfl
 have key:nxR ((sForR (iR1 (aCons (eV 1) aNil)) 4 (sForR (iR1 (aCons (eB addD (eV 4) (eC (.int 1))) aNil)) 5 (sSeq (sSet 6 0 [0,5,4,1] (eB ixD (eV 0) (eB modD (eB addD (eB mulD (eV 4) (eV 1)) (eV 5)) (eBi lenD (aCons (eV 0) aNil)))))
 (sSeq (sSet 6 0 [6,5,4] (eB modD (eB divD (eV 6) (eB addD (eB addD (eC (.int 1)) (eB mulD (eC (.int 7)) (eV 4))) (eB mulD (eC (.int 61)) (eV 5)))) (eC (.int 2))))
 (sIf (Mi.tOr (tB (eB neD (eV 4) (eV 5))) (tM (eV 2))) (sSeq (sItem2 3 0 (eV 4) (eV 5) (eV 6))
 (sItem2 3 0 (eV 5) (eV 4) (eV 6))) sNil))))) [some (rowD cs,0),some (.int (n:Int),0),some (.bl b,0),some (mat (tab n fun _ _=>0),2),none,none,none]) (fun r=>∃f o4 o5 o6,Tb2 f/\r=[some (rowD cs,0),some (.int (n:Int),0),some (.bl b,0),some (mat (tab n f),2),o4,o5,o6]):=by
  rw[zEB,zGE (n:=n) (al0 rfl) (by lia),bindR_ok];refine zLU (fun _ r=>∃f o4 o5 o6,Tb2 f/\r=[some (rowD cs,0),some (.int (n:Int),0),some (.bl b,0),some (mat (tab n f),2),o4,o5,o6]) ⟨_,none,none,none,⟨fun _ _=>.inl rfl,fun _ _=>rfl⟩,rfl⟩ (fun i hi r hr=>?_) fun r hr=>hr
  obtain⟨f,o4,o5,o6,tf,rfl⟩:=hr;rw[zEB,zGE (n:=i+1) (al0 (b2 rfl rfl (adi (by lia)))) (by lia),bindR_ok];refine zLU (fun _ r=>∃f o5 o6,Tb2 f/\r=[some (rowD cs,0),some (.int (n:Int),0),some (.bl b,0),some (mat (tab n f),2),some (.int (i:Nat),0),o5,o6]) ⟨f,o5,o6,tf,rfl⟩ (fun j hj r hr=>?_) fun r hr=>?_
  ·obtain⟨f,o5,o6,tf,rfl⟩:=hr;have m1:mulD (.int (i:Int)) (.int (n:Int))=some (.int ((i:Int)*(n:Int))):=zOY (by lia) (by lia);have m2:mulD (.int 7) (.int (i:Int))=some (.int (7*(i:Int))):=zOY (by decide) (by decide);have m3:mulD (.int 61) (.int (j:Int))=some (.int (61*(j:Int))):=zOY (by decide) (by decide);have a1:=qF3 ((i:Int)*(n:Int)+(j:Int)) (show((cs.length:Nat):Int)≠0 by lia);have a2:=qE1 ((i:Int)*(n:Int)+(j:Int)) (show(0:Int)<((cs.length:Nat):Int) by lia);have i1:ixD (rowD cs) (.int (((i:Int)*(n:Int)+(j:Int))%(cs.length:Int)))=some (.int (cs.getD (((i:Int)*(n:Int)+(j:Int))%(cs.length:Int)).toNat 0)):=zJ5 a1 a2
   generalize hw:((i:Int)*(n:Int)+(j:Int))%(cs.length:Int)=w at i1
   generalize cs.getD w.toNat 0=x at i1
   refine zDD fun bb hb=>zB0 (ss (b2 rfl (b2 (b2 (b2 rfl rfl m1) rfl (adi rfl)) (bi1 rfl (lenR cs)) (mdi (by lia) hw)) i1) (qA7 0)) ?_
   subst hb;refine zDD fun bb hb=>zB0 (ss (b2 (b2 rfl (b2 (b2 rfl (b2 rfl rfl m2) (adi rfl)) (b2 rfl rfl m3) (adi rfl)) (dvi ⟨by lia,by lia⟩)) rfl (mdi (by decide) rfl)) (qA7 0)) ?_
   subst hb;have hv:=zSF (x/(1+7*(i:Int)+61*(j:Int)))
   generalize x/(1+7*(i:Int)+61*(j:Int))%2=y at hv ⊢
   have hor:∃t:Bool,Mi.tOr (tB (eB neD (eV 4) (eV 5))) (tM (eV 2)) (full [some (rowD cs,0),some (.int (n:Int),0),some (.bl b,0),some (mat (tab n f),2),some (.int (i:Nat),0),some (.int (j:Nat),0),some (.int y,0)])=okR t:=by
    by_cases h:(i:Int)=j
    ·exact⟨b,to0 (nei rfl rfl (by rw[decide_eq_true h];rfl)) (tm1 rfl)⟩
    ·exact⟨true,to1 (nei rfl rfl (by rw[decide_eq_false h];rfl))⟩
   obtain⟨t,ht⟩:=hor;cases t with
   |false=>exact nif0 ht (zB0 (zPH _) ⟨f,_,_,tf,rfl⟩)
   |true=>
    refine nif1 ht (zDD fun bb hb=>zNR (l:=0) (f:=f) i j (v:=y) rfl rfl rfl rfl hi (by lia) fun g1 hg1=>?_);subst hb;refine zNR (l:=0) (f:=g1) j i (v:=y) rfl rfl rfl rfl (by lia) hi fun g2 hg2=>⟨g2,_,_,⟨fun p q=>?_,fun p q=>?_⟩,rfl⟩
    ·rw[hg2,hg1]
     show(if p=j/\q=i then y else if p=i/\q=j then y else f p q)=0\/(if p=j/\q=i then y else if p=i/\q=j then y else f p q)=1
     split
     ·exact hv
     ·split
      ·exact hv
      ·exact tf.bit p q
    ·rw[hg2,hg1]
     show(if p=j/\q=i then y else if p=i/\q=j then y else f p q)=(if q=j/\p=i then y else if q=i/\p=j then y else f q p)
     by_cases c1:p=j/\q=i
     ·rw[if_pos c1]
      by_cases c2:q=j/\p=i
      ·rw[if_pos c2]
      ·rw[if_neg c2,if_pos ⟨c1.2,c1.1⟩]
     ·rw[if_neg c1]
      by_cases c2:p=i/\q=j
      ·rw[if_pos c2,if_pos ⟨c2.2,c2.1⟩]
      ·rw[if_neg c2,if_neg (fun z=>c2 ⟨z.2,z.1⟩),if_neg (fun z=>c1 ⟨z.2,z.1⟩)];exact tf.sym p q
  ·obtain⟨f,o5,o6,tf,rfl⟩:=hr;exact⟨f,_,_,_,tf,rfl⟩
 obtain⟨r',g1,f,o4,o5,o6,tf,rfl⟩:=zD0 key;refine⟨f,tf,zC2 rfl (sg hz (zDP _) (sw g1 ?_))⟩;show sRetV 2 3 _=_;unfold sRetV
 show(if _ then _ else _)=_
 rw[if_pos (.inl rfl)]
theorem zcZ{n:Nat}{f:Nat->Nat->Int}{ρ:Rh}{i m:Nat}(hm:m=ρ.length)(hi:ρ[i]?=some (some (mat (tab n f))))(hn:n<=1000):eComp (iSq (eV i)) 1 (.one m) Mi.tYes (eBi listD (aCons (eV m) aNil)) ρ=okR (mat (tab n f)):=by
 refine zC6 rowD rowD (tab n f) rfl hm (fun r _=>bi1 (d1:=rowD r) (v1 (by rw[hm,qAe (qA7 _)];simp)) rfl) _ ?_ (by rw[zFB];lia);show zA2 (eV i ρ) _=_;rw[v1 hi];rfl
theorem zF1(ls:List Int)(k:Nat)(hl:ls.length<=1000):zBS [rowD ls,.int (k:Int)]=okR (.int (ls.getD k 0)):=by
 have hlen:lenD [rowD ls]=some (.int (ls.length:Int)):=by simp[rowD,lenD]
 unfold zBS zI5 runF;rw[if_pos (show([_,_]:List Dt).length=2 from rfl)];have key:eIf (tB (eB (cmpD fun i j=>decide (i<j)) (eV 1) (eBi lenD (aCons (eV 0) aNil)))) (eB ixD (eV 0) (eV 1)) (eC (.int 0)) (full (startO 2 [rowD ls,.int (k:Int)]))=okR (.int (ls.getD k 0)):=by
  unfold eIf;rw[tb1 (b2 (d1:=.int (k:Int)) (d2:=.int (ls.length:Int)) rfl (bi1 rfl hlen) rfl),bindR_ok]
  by_cases h:k<ls.length
  ·rw[if_pos (by simpa using(by exact_mod_cast h:(k:Int)<ls.length))];refine b2 (d1:=rowD ls) (d2:=.int (k:Int)) rfl rfl ?_;show itA (ls.map Dt.int) (k:Int)=_;refine zH1 (j:=k) rfl ?_;simp[h]
  ·rw[if_neg (by simpa using h)];simp[h]
 rw[sr key ⟨qAs _,qAs _⟩,bindR_ok];rfl
theorem zLO{a b:List Int}(ha:a.length<=1000)(hb:b.length<=1000):zD2 [rowD a,rowD b]=okR (rowD (sumL a b)):=by
 unfold zD2 zOC runF;rw[if_pos (show([_,_]:List Dt).length=2 from rfl)];have e0:startO 3 [rowD a,rowD b]=[some (rowD a,0),some (rowD b,0),none]:=rfl;have hmx:maxD [.int (a.length:Int),.int (b.length:Int)]=some (.int ((max a.length b.length:Nat):Int)):=by
  show some (Dt.int (if(b.length:Int)>a.length then(b.length:Int)else a.length))=_
  congr 2
  split<;>omega
 rw[e0,sg (bi2 (bi1 (d1:=rowD a) (d:=.int (a.length:Int)) rfl (by simp[rowD,lenD])) (bi1 (d1:=rowD b) (d:=.int (b.length:Int)) rfl (by simp[rowD,lenD])) hmx) (qA7 0) rfl];have hdep:(rowD (sumL a b)).dep<=2:=by
  show Dt.depL ((sumL a b).map Dt.int)+1<=2
  have:∀l:List Int,Dt.depL (l.map Dt.int)=0:=fun l=>by
   induction l with
   |nil=>rfl
   |cons x r ih=>show max 0 (Dt.depL (r.map Dt.int))=0;rw[ih];rfl
  rw[this];omega
 have hc:eComp (iR1 (aCons (eV 2) aNil)) 1 (.one 3) Mi.tYes (eB addD (eCall zBS (aCons (eV 0) (aCons (eV 3) aNil))) (eCall zBS (aCons (eV 1) (aCons (eV 3) aNil)))) (full [some (rowD a,0),some (rowD b,0),some (.int ((max a.length b.length:Nat):Int),0)])=okR (rowD (sumL a b)):=by
  unfold eComp;have hi:iR1 (aCons (eV 2) aNil) (full [some (rowD a,0),some (rowD b,0),some (.int ((max a.length b.length:Nat):Int),0)])=okR (nums 0 (max a.length b.length)):=by
   unfold iR1;rw[zC0,show eV 2 (full [some (rowD a,0),some (rowD b,0),some (.int ((max a.length b.length:Nat):Int),0)])=okR (.int ((max a.length b.length:Nat):Int)) from rfl,bindR_ok,zE2,bindR_ok,bindR_ok];dsimp only;rw[if_pos ⟨by omega,by omega⟩];rfl
  rw[hi,bindR_ok,if_pos ⟨by simp[nums];omega,by rfl⟩];rw[zGA (f:=fun d=>match d with | .int i=>.int (a.getD i.toNat 0+b.getD i.toNat 0)|_=>.non) _ _ fun d hd=>?_,bindR_ok]
  ·congr 1
   unfold rowD sumL;rw[qC4,zCJ,qAq,qAq];rfl
  ·rw[zCJ]at hd;obtain⟨k,hk,rfl⟩:=qAb.mp hd;refine⟨_,rfl,rfl,?_⟩;exact b2 (c2 (d1:=rowD a) (d2:=.int (k:Int)) rfl rfl (zF1 a k ha)) (c2 (d1:=rowD b) (d2:=.int (k:Int)) rfl rfl (zF1 b k hb)) rfl
 have e9:[some (rowD a,0),some (rowD b,0),none].set 2 (some (Dt.int ((max a.length b.length:Nat):Int),0))=[some (rowD a,0),some (rowD b,0),some (.int ((max a.length b.length:Nat):Int),0)]:=rfl;rw[e9,sr hc ⟨hdep,hdep⟩,bindR_ok];rfl
noncomputable def oS:Option Nat->Sw
 |none=>.non
 |some k=>.int (k:Nat)
abbrev kSw(t:Ty):List Sw:=t.map oS
abbrev keyA(L:Ad):List (List Sw):=L.map fun q=>kSw q.1
abbrev valA(L:Ad):List Dt:=L.map fun q=>rowD (hst q.2)
abbrev dctA(L:Ad):Dt:=.dtt (keyA L) (valA L)
theorem zV1:∀t:Ty,swsD (tyR t)=some (kSw t)
 |[]=>rfl
 |o::r=>by
  show swsD (oD o::tyR r)=_;unfold swsD;rw[zV1 r];cases o<;>rfl
theorem zR4(t:Ty):kyU (.tup (tyR t))=some (kSw t):=zV1 t
theorem zaB{a b:Option Nat}(h:kNo (oS a)=kNo (oS b)):a=b:=by
 cases a<;>cases b
 ·rfl
 ·cases h
 ·cases h
 ·rename_i x y
  have:(x:Int)=y:=by simpa[kNo,oS]using h
  have:x=y:=by omega
  rw[this]
theorem zR8:∀{s t:Ty},kNs (kSw s)=kNs (kSw t)->s=t
 |[],[],_=>rfl
 |[],_::_,h=>by simp at h
 |_::_,[],h=>by simp at h
 |a::s,b::t,h=>by
  simp only[qAg,qGd]at h;rw[zaB h.1,zR8 h.2]
noncomputable def findA:Ad->Ty->Option (List Nat)
 |[],_=>none
 |q::r,k=>if q.1=k then some q.2 else findA r k
theorem zNH(q:List Sw)(ks:List (List Sw))(k:List Sw):posT (q::ks) k=if kNs q=kNs k then some 0 else(posT ks k).map (·+1):=by
 unfold posT;rw[qFl]
 by_cases h:kNs q=kNs k
 ·simp[h]
 ·simp[h]
theorem zU7(k:Ty):∀L:Ad,getT (keyA L) (valA L) (kSw k)=(findA L k).map fun ys=>rowD (hst ys)
 |[]=>rfl
 |q::r=>by
  have ih:=zU7 k r;unfold getT at ih ⊢;rw[show keyA (q::r)=kSw q.1::keyA r from rfl,zNH,findA]
  by_cases h:q.1=k
  ·rw[if_pos (by rw[h]),if_pos h];rfl
  ·rw[if_neg fun z=>h (zR8 z),if_neg h,<- ih];cases posT (keyA r) (kSw k)<;>rfl
theorem zXB(k:Ty)(xs:List Nat):∀L:Ad,putKs (keyA L) (kSw k)=keyA (putA L k xs)/\putDs (keyA L) (valA L) (kSw k) (rowD (hst ((findA L k).getD []++xs)))=valA (putA L k xs)
 |[]=>⟨rfl,rfl⟩
 |q::r=>by
  obtain⟨i1,i2⟩:=zXB k xs r;unfold putKs at i1;unfold putDs at i2;unfold putKs putDs;rw[show keyA (q::r)=kSw q.1::keyA r from rfl,zNH,findA]
  by_cases h:q.1=k
  ·have e:putA (q::r) k xs=(q.1,q.2++xs)::r:=by rw[putA,if_pos h]
   rw[if_pos (by rw[h]),if_pos h,e];exact⟨rfl,rfl⟩
  ·have e:putA (q::r) k xs=q::putA r k xs:=by rw[putA,if_neg h]
   rw[if_neg fun z=>h (zR8 z),if_neg h,e];cases ep:posT (keyA r) (kSw k)with
   |none=>
    rw[ep]at i1 i2;dsimp only[qH8]at i1 i2 ⊢;exact⟨congrArg (qE9 (kSw q.1)) i1,congrArg (qE9 (rowD (hst q.2))) i2⟩
   |some j=>
    rw[ep]at i1 i2;dsimp only[qH8]at i1 i2 ⊢;exact⟨congrArg (qE9 (kSw q.1)) i1,congrArg (qE9 (rowD (hst q.2))) i2⟩
theorem zVJ(t:Ty):(kSw t).all noB1=true:=by
 rw[qBo];intro w hw;obtain⟨o,_,rfl⟩:=qAb.mp hw;cases o<;>rfl
theorem zcK(L:Ad):noBs (keyA L)=true:=by
 unfold noBs;rw[qBo];intro k hk;obtain⟨q,_,rfl⟩:=qAb.mp hk;exact zVJ q.1
theorem zcV(L:Ad)(k:Ty):fitT (keyA L) (kSw k)=true:=by unfold fitT;rw[zVJ];simp
theorem zZ6(t:Ty):(kSw t).map swT=tyR t:=by
 rw[qAq];exact qAt fun o _=>by cases o<;>rfl
theorem zNS{L:Ad}(h:(L.map (·.1)).Nodup){q:Ty×List Nat}(hq:q∈L):findA L q.1=some q.2:=by
 induction L with
 |nil=>simp at hq
 |cons z r ih=>
  rw[qAg,qAy]at h;rw[findA]
  rcases qA6.mp hq with rfl|hq
  ·rw[if_pos rfl]
  ·rw[if_neg fun e:z.1=q.1=>h.1 (by rw[e];exact qAb.mpr ⟨q,hq,rfl⟩)];exact ih h.2 hq
theorem zUG(l:List Int):(rowD l).dep=1:=by
 show Dt.depL (l.map Dt.int)+1=1
 have:∀l:List Int,Dt.depL (l.map Dt.int)=0:=fun l=>by
  induction l with
  |nil=>rfl
  |cons x r ih=>show max 0 (Dt.depL (r.map Dt.int))=0;rw[ih];rfl
 rw[this]
theorem zI8{M:Nat}{L acc:Ad}{q:Ty×List Nat}{p w:Nat}{x5 x6 x7:Option (Dt×Nat)}(hq:findA L q.1=some q.2)(hne:q.2≠[])(hm:Mt M q.1)(hal:∀s,s<4->q.1.getD (4*p+s) none≠none)(hw:w<3)(hb:∀c∈q.2,c<=100)(hacc:∀z∈acc,∀c∈z.2,c<=200)(hlen:acc.length<=100000) :
  ∃y5 y6,(sSeq (sSet 5 1 [3] (eBi listD (aCons (eV 3) aNil))) (sSeq (sCallW 6 5 1 0 (aCons (eV 1) (aCons (eV 4) aNil)) zBA) (sTmpPut 7 2 2 (eTGet (eV 2) (eBi tupD (aCons (eV 5) aNil)) (eLst aNil)) (eBi tupD (aCons (eV 5) aNil)) (eCall zD2 (aCons (eV 7) (aCons (eB addD (eB repD (eLst (aCons (eC (.int 0)) aNil)) (eV 6)) (eTIx (eV 0) (eV 3))) aNil))))))
   [some (dctA L,0),some (.int (p:Int),0),some (dctA acc,2),some (.tup (tyR q.1),0),some (.int (w:Int),0),x5,x6,x7]=okR (.nx [some (dctA L,0),some (.int (p:Int),0),some (dctA (putw p q acc w),2),some (.tup (tyR q.1),0),some (.int (w:Int),0),y5,y6,none]):=by
 refine⟨some (.lst (tyR (jP q.1 p w).1),1),some (.int ((jP q.1 p w).2:Int),0),?_⟩;refine sg (bi1 (d1:=.tup (tyR q.1)) (d:=.lst (tyR q.1)) rfl rfl) (qCh (zbC _).1) ?_;rw[zE1];have hcall:sCallW 6 5 1 0 (aCons (eV 1) (aCons (eV 4) aNil)) zBA ([some (dctA L,0),some (.int (p:Int),0),some (dctA acc,2),some (.tup (tyR q.1),0),some (.int (w:Int),0),some (.lst (tyR q.1),1),x6,x7])=okR (.nx ([some (dctA L,0),some (.int (p:Int),0),some (dctA acc,2),some (.tup (tyR q.1),0),some (.int (w:Int),0),some (.lst (tyR (jP q.1 p w).1),1),some (.int ((jP q.1 p w).2:Int),0),x7])):=by
  unfold sCallW;dsimp only[qC9,qCa];rw[if_pos ⟨rfl,by decide,rfl⟩];have hargs:aCons (eV 1) (aCons (eV 4) aNil) (frz [some (dctA L,0),some (.int (p:Int),0),some (dctA acc,2),some (.tup (tyR q.1),0),some (.int (w:Int),0),some (.lst (tyR q.1),1),x6,x7])=okR [.int (p:Int),.int (w:Int)]:=rfl;rw[hargs,bindR_ok,zGZ hm hal hw,bindR_ok];rfl
 show zA2 (sCallW 6 5 1 0 (aCons (eV 1) (aCons (eV 4) aNil)) zBA ([some (dctA L,0),some (.int (p:Int),0),some (dctA acc,2),some (.tup (tyR q.1),0),some (.int (w:Int),0),some (.lst (tyR q.1),1),x6,x7])) _=_;rw[hcall,bindR_ok];dsimp only;unfold sTmpPut;rw[if_neg (by decide)];have c2b:(jP q.1 p w).2<=2:=by
  have:∀(t:Ty)(a b:Nat),(jE t a b).2<=1:=fun t a b=>by unfold jE;split<;>simp
  have h1:=this q.1 (4*p) (4*p+(w+1));have h2:=this (jE q.1 (4*p) (4*p+(w+1))).1 (4*p+sa9 w) (4*p+sb9 w);show _+_<=2;omega
 generalize hc:(jP q.1 p w).2=c at c2b
 generalize ht:(jP q.1 p w).1=t'
 have key5:∀(z:Option (Dt×Nat)),eBi tupD (aCons (eV 5) aNil) (full [some (dctA L,0),some (.int (p:Int),0),some (dctA acc,2),some (.tup (tyR q.1),0),some (.int (w:Int),0),some (.lst (tyR t'),1),some (.int (c:Int),0),z])=okR (.tup (tyR t')):=fun z=>bi1 (d1:=.lst (tyR t')) rfl rfl
 have hget:eTGet (eV 2) (eBi tupD (aCons (eV 5) aNil)) (eLst aNil) (full [some (dctA L,0),some (.int (p:Int),0),some (dctA acc,2),some (.tup (tyR q.1),0),some (.int (w:Int),0),some (.lst (tyR t'),1),some (.int (c:Int),0),x7])=okR (rowD (hst ((findA acc t').getD []))):=by
  unfold eTGet;rw[show eV 2 (full [some (dctA L,0),some (.int (p:Int),0),some (dctA acc,2),some (.tup (tyR q.1),0),some (.int (w:Int),0),some (.lst (tyR t'),1),some (.int (c:Int),0),x7])=okR (dctA acc) from rfl,bindR_ok];dsimp only;rw[key5,bindR_ok,show eLst aNil (full [some (dctA L,0),some (.int (p:Int),0),some (dctA acc,2),some (.tup (tyR q.1),0),some (.int (w:Int),0),some (.lst (tyR t'),1),some (.int (c:Int),0),x7])=okR (.lst []) by simp,bindR_ok,zR4];dsimp only;rw[zU7];cases findA acc t'<;>rfl
 rw[hget,bindR_ok];have hset:(full [some (dctA L,0),some (.int (p:Int),0),some (dctA acc,2),some (.tup (tyR q.1),0),some (.int (w:Int),0),some (.lst (tyR t'),1),some (.int (c:Int),0),x7]).set 7 (some (rowD (hst ((findA acc t').getD []))))=full [some (dctA L,0),some (.int (p:Int),0),some (dctA acc,2),some (.tup (tyR q.1),0),some (.int (w:Int),0),some (.lst (tyR t'),1),some (.int (c:Int),0),some (rowD (hst ((findA acc t').getD [])),0)]:=rfl;rw[hset];have mxb:∀{cs:List Nat}{B:Nat},(∀x∈cs,x<=B)->(hst cs).length<=B+1:=fun{cs B} h=>by
  by_cases z:cs=[]
  ·subst z;exact qAs _
  ·rw[zFF z];have:=h _ (zFE z);omega
 have hold:(hst ((findA acc t').getD [])).length<=1000:=by
  have hf:∀(l:Ad),(∀z∈l,∀c∈z.2,c<=200)->(∀x∈(findA l t').getD [],x<=200):=fun l=>by
   induction l with
   |nil=>intro _ x hx;simp[findA]at hx
   |cons z r ih=>
    intro h;rw[findA]
    by_cases e:z.1=t'
    ·rw[if_pos e];exact h z (qAl ..)
    ·rw[if_neg e];exact ih fun y hy=>h y (qAd _ hy)
  have:=mxb (hf acc hacc)
  omega
 have hrow:eB addD (eB repD (eLst (aCons (eC (.int 0)) aNil)) (eV 6)) (eTIx (eV 0) (eV 3)) (full [some (dctA L,0),some (.int (p:Int),0),some (dctA acc,2),some (.tup (tyR q.1),0),some (.int (w:Int),0),some (.lst (tyR t'),1),some (.int (c:Int),0),some (rowD (hst ((findA acc t').getD [])),0)])=okR (rowD (hst (q.2.map (·+c)))):=by
  refine b2 (d1:=rowD (qA4 c 0)) (d2:=rowD (hst q.2)) (b2 (d1:=.lst [.int 0]) (d2:=.int (c:Int)) (el1 rfl) rfl ?_) ?_ ?_
  ·rw[zN4 c (by omega)]
  ·unfold eTIx;rw[show eV 0 (full [some (dctA L,0),some (.int (p:Int),0),some (dctA acc,2),some (.tup (tyR q.1),0),some (.int (w:Int),0),some (.lst (tyR t'),1),some (.int (c:Int),0),some (rowD (hst ((findA acc t').getD [])),0)])=okR (dctA L) from rfl,bindR_ok];dsimp only;rw[show eV 3 (full [some (dctA L,0),some (.int (p:Int),0),some (dctA acc,2),some (.tup (tyR q.1),0),some (.int (w:Int),0),some (.lst (tyR t'),1),some (.int (c:Int),0),some (rowD (hst ((findA acc t').getD [])),0)])=okR (.tup (tyR q.1)) from rfl,bindR_ok,zR4];dsimp only;rw[zU7,hq];rfl
  ·have:=mxb hb
   unfold rowD addD;dsimp only;rw[if_pos (by simp;omega),<- qB3,zPX hne]
 have hrl:(hst (q.2.map (·+c))).length<=1000:=by
  have:=mxb (cs:=q.2.map (·+c)) (B:=102) fun x hx=>by
   obtain⟨y,hy,rfl⟩:=qAb.mp hx
   have:=hb y hy
   omega
  omega
 have hsum:eCall zD2 (aCons (eV 7) (aCons (eB addD (eB repD (eLst (aCons (eC (.int 0)) aNil)) (eV 6)) (eTIx (eV 0) (eV 3))) aNil)) (full [some (dctA L,0),some (.int (p:Int),0),some (dctA acc,2),some (.tup (tyR q.1),0),some (.int (w:Int),0),some (.lst (tyR t'),1),some (.int (c:Int),0),some (rowD (hst ((findA acc t').getD [])),0)])=okR (rowD (hst ((findA acc t').getD []++q.2.map (·+c)))):=by
  refine c2 rfl hrow ?_;rw[zLO hold hrl,zWP (by simpa using hne)]
 rw[hsum,bindR_ok];unfold putGo;dsimp only[qC9,qCa];rw[key5,bindR_ok,zR4];dsimp only;rw[zUG,if_pos ⟨by decide,by decide,by simpa using hlen,zcV acc t'⟩,bindR_ok,(zXB t' (q.2.map (·+c)) acc).1,(zXB t' (q.2.map (·+c)) acc).2];unfold putw;rw[hc,ht];rfl
theorem zNC(k:Ty)(xs:List Nat):∀L:Ad,(putA L k xs).length<=L.length+1
 |[]=>by simp[putA]
 |q::r=>by
  unfold putA
  split
  ·simp
  ·have:=zNC k xs r
   simp only[qAx];omega
theorem zQ8{B:Nat}{k:Ty}{xs:List Nat}(hx:∀c∈xs,c<=B):∀{L:Ad},(∀z∈L,∀c∈z.2,c<=B)->∀z∈putA L k xs,∀c∈z.2,c<=B
 |[],_,z,hz=>by simp[putA]at hz;subst hz;exact hx
 |q::r,h,z,hz=>by
  unfold putA at hz
  split at hz
  ·rcases qA6.mp hz with rfl|hz
   ·intro c hc
    rcases qAw.mp hc with hc|hc
    ·exact h _ (qAl ..) c hc
    ·exact hx c hc
   ·exact h z (qAd _ hz)
  ·rcases qA6.mp hz with rfl|hz
   ·exact h _ (qAl ..)
   ·exact zQ8 hx (fun z hz=>h z (qAd _ hz)) z hz
theorem zY3(t:Ty)(p w:Nat):(jP t p w).2<=2:=by
 have:∀(t:Ty)(a b:Nat),(jE t a b).2<=1:=fun t a b=>by unfold jE;split<;>simp
 have h1:=this t (4*p) (4*p+(w+1));have h2:=this (jE t (4*p) (4*p+(w+1))).1 (4*p+sa9 w) (4*p+sb9 w);show _+_<=2;omega
noncomputable abbrev wayB:SM:=sSeq (sSet 5 1 [3] (eBi listD (aCons (eV 3) aNil))) (sSeq (sCallW 6 5 1 0 (aCons (eV 1) (aCons (eV 4) aNil)) zBA) (sTmpPut 7 2 2 (eTGet (eV 2) (eBi tupD (aCons (eV 5) aNil)) (eLst aNil)) (eBi tupD (aCons (eV 5) aNil)) (eCall zD2 (aCons (eV 7) (aCons (eB addD (eB repD (eLst (aCons (eC (.int 0)) aNil)) (eV 6)) (eTIx (eV 0) (eV 3))) aNil)))))
theorem zJU{M:Nat}{L acc:Ad}{q:Ty×List Nat}{p:Nat}{x4 x5 x6 x7:Option (Dt×Nat)}(hq:findA L q.1=some q.2)(hne:q.2≠[])(hm:Mt M q.1)(hal:∀s,s<4->q.1.getD (4*p+s) none≠none)(hb:∀c∈q.2,c<=100)(hacc:∀z∈acc,∀c∈z.2,c<=200)(hlen:acc.length<=10000) :
  (∃y4 y5 y6,sFor [] (iSq (eC (.scr [0,1,2]))) (.one 4) wayB [some (dctA L,0),some (.int (p:Int),0),some (dctA acc,2),some (.tup (tyR q.1),0),x4,x5,x6,x7]=okR (.nx [some (dctA L,0),some (.int (p:Int),0),some (dctA (stpw p acc q),2),some (.tup (tyR q.1),0),y4,y5,y6,none])) /\
   (∀z∈stpw p acc q,∀c∈z.2,c<=200)/\(stpw p acc q).length<=acc.length+3:=by
 have bd:∀(a:Ad)(w:Nat),(∀z∈a,∀c∈z.2,c<=200)->∀z∈putw p q a w,∀c∈z.2,c<=200:=fun a w ha=>zQ8 (fun c hc=>by
  obtain⟨d,hd,rfl⟩:=qAb.mp hc
  have:=hb d hd
  have:=zY3 q.1 p w
  omega) ha
 have ln:∀(a:Ad)(w:Nat),(putw p q a w).length<=a.length+1:=fun a w=>zNC _ _ _
 have b1:=bd acc 0 hacc;have l1:=ln acc 0;have b2':=bd _ 1 b1;have l2:=ln (putw p q acc 0) 1;have b3:=bd _ 2 b2';have l3:=ln (putw p q (putw p q acc 0) 1) 2;refine⟨?_,b3,by show(putw p q (putw p q (putw p q acc 0) 1) 2).length<=_;omega⟩;obtain⟨u5,u6,e1⟩:=zI8 (x5:=x5) (x6:=x6) (x7:=x7) hq hne hm hal (w:=0) (by decide) hb hacc (by omega);obtain⟨v5,v6,e2⟩:=zI8 (x5:=u5) (x6:=u6) (x7:=none) hq hne hm hal (w:=1) (by decide) hb b1 (by omega);obtain⟨w5,w6,e3⟩:=zI8 (x5:=v5) (x6:=v6) (x7:=none) hq hne hm hal (w:=2) (by decide) hb b2' (by omega);refine⟨some (.int (2:Nat),0),w5,w6,?_⟩;unfold sFor;rw[show iSq (eC (.scr [0,1,2])) (frz (frzAt [] [some (dctA L,0),some (.int (p:Int),0),some (dctA acc,2),some (.tup (tyR q.1),0),x4,x5,x6,x7]))=okR [.int (0:Nat),.int (1:Nat),.int (2:Nat)] from rfl,bindR_ok];show forGo (.one 4) wayB [.int (0:Nat),.int (1:Nat),.int (2:Nat)] [some (dctA L,0),some (.int (p:Int),0),some (dctA acc,2),some (.tup (tyR q.1),0),x4,x5,x6,x7]=_;rw[forGo];show zA2 (wayB [some (dctA L,0),some (.int (p:Int),0),some (dctA acc,2),some (.tup (tyR q.1),0),some (.int (0:Nat),0),x5,x6,x7]) _=_;rw[show wayB _=_ from e1,bindR_ok];dsimp only;rw[forGo];show zA2 (wayB [some (dctA L,0),some (.int (p:Int),0),some (dctA (putw p q acc 0),2),some (.tup (tyR q.1),0),some (.int (1:Nat),0),u5,u6,none]) _=_;rw[show wayB _=_ from e2,bindR_ok];dsimp only;rw[forGo];show zA2 (wayB [some (dctA L,0),some (.int (p:Int),0),some (dctA (putw p q (putw p q acc 0) 1),2),some (.tup (tyR q.1),0),some (.int (2:Nat),0),v5,v6,none]) _=_;rw[show wayB _=_ from e3,bindR_ok];dsimp only;rw[forGo];rfl
theorem zJT{M:Nat}{L:Ad}{p:Nat}(hg:Gd L)(hz:∀q∈L,Mt M q.1/\(∀s,s<4->q.1.getD (4*p+s) none≠none)/\∀c∈q.2,c<=100)(hlen:L.length<=1000):zAN [dctA L,.int (p:Int)]=okR (dctA (stepA L p))/\(stepA L p).length<=3*L.length:=by
 have tk:∀i,i<=L.length->(∀z∈(L.take i).foldl (stpw p) [],∀c∈z.2,c<=200)/\((L.take i).foldl (stpw p) []).length<=3*i:=by
  intro i
  induction i with
  |zero=>intro _;simp
  |succ i ih=>
   intro hi;obtain⟨h1,h2⟩:=ih (by omega);have hlt:i<L.length:=by omega
   rw[qAz hlt,qEb,qC3,qE5];obtain⟨g1,g2,g3⟩:=hz L[i] (qB8 _);obtain⟨_,k1,k2⟩:=zJU (L:=L) (x4:=none) (x5:=none) (x6:=none) (x7:=none) (zNS hg.nd (qB8 hlt)) (hg.ne _ (qB8 hlt)) g1 g2 g3 h1 (by omega);exact⟨k1,by omega⟩
 refine⟨?_,by have:=(tk L.length (qA7 _)).2;rw[qBw]at this;exact this⟩;unfold zAN zDR runF;rw[if_pos (show([_,_]:List Dt).length=2 from rfl)];rw[show startO 8 [dctA L,.int (p:Int)]=[some (dctA L,0),some (.int (p:Int),0),none,none,none,none,none,none] from rfl];rw[sgf (d:=dctA []) rfl (by show ¬(1000<=2);decide) rfl rfl];show zA2 (sSeq (sFor [0] (iDk (eV 0)) (.one 3) (sFor [] (iSq (eC (.scr [0,1,2]))) (.one 4) wayB)) (sRetV 2 2) [some (dctA L,0),some (.int (p:Int),0),some (dctA [],2),none,none,none,none,none]) endF=_;obtain⟨r,hr,x3,x4,x5,x6,x7,hx⟩:=zEH (tg:=.one 3) (b:=sFor [] (iSq (eC (.scr [0,1,2]))) (.one 4) wayB) (fun i r=>∃x3 x4 x5 x6 x7,r=[some (dctA L,0),some (.int (p:Int),0),some (dctA ((L.take i).foldl (stpw p) []),2),x3,x4,x5,x6,x7]) (L.map fun q=>.tup (tyR q.1)) 0 [some (dctA L,0),some (.int (p:Int),0),some (dctA [],2),none,none,none,none,none] ⟨_,_,_,_,_,rfl⟩ (by
  rintro j d r hd ⟨x3,x4,x5,x6,x7,rfl⟩
  rw[qBj]at *;rw[qAf]at hd;have hj:j<L.length:=by
   cases hq:L[j]? with
   |none=>rw[hq]at hd;cases hd
   |some q=>exact(qA2.mp hq).1
  rw[qA5 hj]at hd;cases hd;obtain⟨h1,h2⟩:=tk j (by omega);obtain⟨g1,g2,g3⟩:=hz L[j] (qB8 _);obtain⟨⟨y4,y5,y6,e⟩,_,_⟩:=zJU (L:=L) (x4:=x4) (x5:=x5) (x6:=x6) (x7:=x7) (zNS hg.nd (qB8 hj)) (hg.ne _ (qB8 hj)) g1 g2 g3 h1 (by omega);refine⟨_,_,rfl,e,some (.tup (tyR L[j].1),0),y4,y5,y6,none,?_⟩;rw[qAz hj,qEb,qC3,qE5])
 have hk:iDk (eV 0) (frz (frzAt [0] [some (dctA L,0),some (.int (p:Int),0),some (dctA [],2),none,none,none,none,none]))=okR (L.map fun q=>.tup (tyR q.1)):=by
  unfold iDk;rw[show eV 0 (frz (frzAt [0] [some (dctA L,0),some (.int (p:Int),0),some (dctA [],2),none,none,none,none,none]))=okR (dctA L) from rfl,bindR_ok];dsimp only;rw[if_pos ⟨zcK L,by simp⟩,qAq]
  congr 1
  exact qAt fun q _=>by show Dt.tup ((kSw q.1).map swT)=_;rw[zZ6]
 rw[zE1];unfold sFor at hr ⊢;rw[hk,bindR_ok];show zA2 (zA2 (forGo (.one 3) (sFor [] (iSq (eC (.scr [0,1,2]))) (.one 4) wayB) (L.map fun q=>.tup (tyR q.1)) [some (dctA L,0),some (.int (p:Int),0),some (dctA [],2),none,none,none,none,none]) _) endF=_;unfold sFor;rw[hr,bindR_ok];dsimp only;rw[hx,qBj,qAm,qBw];rfl
abbrev rowN(l:List Nat):Dt:=rowD (l.map fun k:Nat=>(k:Int))
theorem zaC(ts:List Nat):(ts.map fun k:Nat=>(k:Int)).map Dt.int=tyR (ts.map some):=by
 show _=(ts.map some).map oD;rw[qAq,qAq];rfl
structure Iv(n j:Nat)(o:List Nat)(L:Ad):Prop where
 gd:Gd L
 st:∀z∈allA L,Mt (4*n) z.1/\(∀e,e<4*n->(z.1.getD e none=none↔e/4∈o.take j))/\z.2<=2*j
 len:L.length<=3 ^ j
theorem zY6{ts:List Nat}{n:Nat}{o:List Nat}(hN:NetN ts (4*n))(hne:∀x,x<4*n->nt ts x≠x):Iv n 0 o [(ts.map some,[0])]:=by
 refine⟨⟨by simp,by simp⟩,fun z hz=>?_,by simp⟩
 have:z=(ts.map some,0):=by simpa[allA]using hz
 subst this;refine⟨zVL hN hne,fun e he=>?_,by simp⟩
 show(ts.map some).getD e none=none↔_
 rw[zET hN he];simp
theorem zY7{n j:Nat}{o:List Nat}{L:Ad}(h:Iv n j o L)(hj:j<o.length)(hnd:o.Nodup)(hin:∀p∈o,p<n)(hj6:j<=6):zAN [dctA L,.int ((o[j]:Nat):Int)]=okR (dctA (stepA L o[j]))/\Iv n (j+1) o (stepA L o[j]):=by
 have hp:=hin _ (qB8 hj);have hnot:o[j]∉o.take j:=fun z=>by
  obtain⟨i,hi,e⟩:=qDe.mp z;rw[List.getElem_take]at e
  have:=(qEk hnd).mp e
  simp at hi;omega
 have alive:∀z∈allA L,∀s,s<4->z.1.getD (4*o[j]+s) none≠none:=fun z hz s hs y=>by
  have:=((h.st z hz).2.1 (4*o[j]+s) (by omega)).mp y
  rw[show(4*o[j]+s)/4=o[j] by omega]at this;exact hnot this
 have hall:∀q∈L,∀c∈q.2,(q.1,c)∈allA L:=fun q hq c hc=>qBh.mpr ⟨q,hq,qAb.mpr ⟨c,hc,rfl⟩⟩
 have hL:L.length<=1000:=by
  have:=h.len
  have h2:3 ^ j<=3 ^ 6:=qDg (by decide) hj6;have h3:(3:Nat) ^ 6=729:=by decide
  omega
 obtain⟨e1,e2⟩:=zJT (M:=4*n) (p:=o[j]) h.gd (fun q hq=>by
  obtain⟨c,hc⟩:=qE6 _ (h.gd.ne q hq);have hm:=hall q hq c hc;refine⟨(h.st _ hm).1,alive _ hm,fun d hd=>?_⟩
  have:=(h.st _ (hall q hq d hd)).2.2
  dsimp only at this
  omega) hL
 refine⟨e1,zRK h.gd,fun z hz=>?_,?_⟩
 ·have hz':=(zLJ L o[j]).mem_iff.mp hz;obtain⟨y,hy,hz2⟩:=qBh.mp hz';obtain⟨w,hw,rfl⟩:=qAb.mp hz2;have hw3:w<3:=by simp at hw;omega
  obtain⟨q1,q2,q3⟩:=h.st y hy;obtain⟨m1,d1,_⟩:=zaL q1 (alive y hy) hw3;refine⟨m1,fun e he=>?_,?_⟩
  ·show(jP y.1 o[j] w).1.getD e none=none↔_
   rw[d1,q2 e he,qAz hj,qAw,qAn];exact Or.comm
  ·have:=zY3 y.1 o[j] w
   show y.2+(jP y.1 o[j] w).2<=_;omega
 ·have:=h.len
  rw[qDz];omega
theorem zHK{l:List Int}(hl:l.length<=1000):zB3 [rowD l]=okR (.int ((l.length/4:Nat):Int)):=by
 unfold zB3 zHE runF;rw[if_pos (show([_]:List Dt).length=1 from rfl)]
 have:eB divD (eBi lenD (aCons (eV 0) aNil)) (eC (.int 4)) (full (startO 1 [rowD l]))=okR (.int ((l.length/4:Nat):Int)):=by
  refine b2 (bi1 (d1:=rowD l) (d:=.int (l.length:Int)) rfl (by simp[rowD,lenD])) rfl ?_;unfold divD;dsimp only;rw[if_pos ⟨by decide,by decide⟩]
  congr 2
 rw[sr this ⟨qAs _,qAs _⟩,bindR_ok];rfl
theorem zL2{ts:List Nat}{n:Nat}{o:List Nat}{od:Dt}(hN:NetN ts (4*n))(hne:∀x,x<4*n->nt ts x≠x)(hn:n<=6)(ho:o.Perm (qA9 n))(hod:(od=.non/\o=qA9 n)\/od=rowN o):zAS [rowN ts,od]=okR (rowD (hst ((chA n).map (rN ts n)))):=by
 have hlt:(ts.map fun k:Nat=>(k:Int)).length=4*n:=by simp[hN.len]
 have hol:o.length=n:=by rw[ho.length_eq];simp
 have hpl:zB3 [rowN ts]=okR (.int (n:Int)):=by
  rw[zHK (by omega),hlt]
  congr 3
  omega
 obtain⟨cs,hcs,hperm⟩:=zWZ hN hne ho;unfold zAS zHG runF;rw[if_pos (show([_,_]:List Dt).length=2 from rfl)];rw[show startO 5 [rowN ts,od]=[some (rowN ts,0),some (od,0),none,none,none] from rfl];have hcN:∀(ρ:Rh),ρ[0]?=some (some (rowN ts))->eCallN zB3 (aCons (eV 0) aNil) ρ=okR (.int (n:Int)):=fun ρ h=>by
  have e1:eV 0 ρ=okR (rowN ts):=by unfold eV;rw[h]
  simp only[zMV,zC0,zE2,e1,bindR_ok,hpl];rfl
 rw[sp (tb1 (b2 (d1:=.int (n:Int)) (d2:=.int 6) (hcN _ rfl) rfl (by show some (Dt.bl (decide ((6:Int)<n)))=some (.bl false);rw[decide_eq_false (by omega)]))) rfl];have hplaces:∀ρ:Rh,ρ[0]?=some (some (rowN ts))->ρ[1]?=some (some od)->eIf (tB (eB isD (eV 1) (eC .non))) (eBi rangeD (aCons (eCallN zB3 (aCons (eV 0) aNil)) aNil)) (eV 1) ρ=okR (rowN o):=fun ρ h0 h1=>by
  have e1:eV 1 ρ=okR od:=by unfold eV;rw[h1]
  unfold eIf
  rcases hod with⟨rfl,rfl⟩|rfl
  ·rw[tb1 (b2 e1 rfl (d:=.bl true) rfl),bindR_ok,if_pos rfl];refine bi1 (hcN ρ h0) ?_;unfold rangeD;dsimp only;rw[if_pos ⟨⟨by omega,by omega⟩,by omega⟩]
   congr 1
   unfold rowN rowD;rw[show((n:Int)).toNat=n from rfl,zCJ,qAq];rfl
  ·rw[tb1 (b2 e1 rfl (d:=.bl false) rfl),bindR_ok,if_neg (by decide)];exact e1
 rw[sgf (d:=rowN o) (hplaces _ rfl rfl) (by rw[zC1];decide) (hplaces _ rfl rfl) rfl];have hone:∀ρ:Rh,ρ[0]?=some (some (rowN ts))->eTOne (eBi tupD (aCons (eV 0) aNil)) (eLst (aCons (eC (.int 1)) aNil)) ρ=okR (dctA [(ts.map some,[0])]):=fun ρ h0=>by
  have e1:eV 0 ρ=okR (rowN ts):=by unfold eV;rw[h0]
  unfold eTOne;rw[bi1 (d:=.tup (tyR (ts.map some))) e1 (by show some (Dt.tup _)=_;rw[zaC]),bindR_ok,el1 rfl,bindR_ok,zR4];rfl
 rw[sgf (d:=dctA [(ts.map some,[0])]) (hone _ rfl) (by show ¬(1000<=2);decide) (hone _ rfl) rfl];show zA2 (sSeq (sFor [2] (iSq (eV 2)) (.one 4) (sSet 3 2 [3,4] (eCallN zAN (aCons (eV 3) (aCons (eV 4) aNil))))) (sRetTIx 1 3 (eBi tupD (aCons (eComp (iSq (eV 0)) 1 (.one 5) Mi.tYes (eC .non)) aNil))) [some (rowN ts,0),some (od,0),some (rowN o,0),some (dctA [(ts.map some,[0])],2),none]) endF=_;have hnd:o.Nodup:=ho.nodup_iff.mpr qBx;have hin:∀p∈o,p<n:=fun p hp=>by simpa using ho.mem_iff.mp hp
 obtain⟨r,hr,x,hx,_⟩:=zEH (tg:=.one 4) (b:=sSet 3 2 [3,4] (eCallN zAN (aCons (eV 3) (aCons (eV 4) aNil)))) (fun j r=>∃x,r=[some (rowN ts,0),some (od,0),some (rowN o,0),some (dctA ((o.take j).foldl stepA [(ts.map some,[0])]),2),x]/\Iv n j o ((o.take j).foldl stepA [(ts.map some,[0])])) (o.map fun p=>Dt.int ((p:Nat):Int)) 0 [some (rowN ts,0),some (od,0),some (rowN o,0),some (dctA [(ts.map some,[0])],2),none] ⟨none,rfl,zY6 hN hne⟩ (by
  rintro j d r hd ⟨x,rfl,hiv⟩
  rw[qBj]at *;rw[qAf]at hd;have hj:j<o.length:=by
   cases hq:o[j]? with
   |none=>rw[hq]at hd;cases hd
   |some q=>exact(qA2.mp hq).1
  rw[qA5 hj]at hd;cases hd;obtain⟨e1,e2⟩:=zY7 hiv hj hnd hin (by omega);have ef:(o.take (j+1)).foldl stepA [(ts.map some,[0])]=stepA ((o.take j).foldl stepA [(ts.map some,[0])]) o[j]:=by
   rw[qAz hj,qEb,qC3,qE5]
  have hcw:∀ρ:Rh,ρ[3]?=some (some (dctA ((o.take j).foldl stepA [(ts.map some,[0])])))->ρ[4]?=some (some (.int ((o[j]:Nat):Int)))->eCallN zAN (aCons (eV 3) (aCons (eV 4) aNil)) ρ=okR (dctA (stepA ((o.take j).foldl stepA [(ts.map some,[0])]) o[j])):=fun ρ h3 h4=>by
   have f3:eV 3 ρ=okR (dctA ((o.take j).foldl stepA [(ts.map some,[0])])):=by unfold eV;rw[h3]
   have f4:eV 4 ρ=okR (.int ((o[j]:Nat):Int)):=by unfold eV;rw[h4]
   simp only[zMV,zC0,zE2,f3,f4,bindR_ok,e1];rfl
  refine⟨_,[some (rowN ts,0),some (od,0),some (rowN o,0),some (dctA (stepA ((o.take j).foldl stepA [(ts.map some,[0])]) o[j]),2),some (.int ((o[j]:Nat):Int),0)],rfl,?_,some (.int ((o[j]:Nat):Int),0),?_,?_⟩
  ·show sSet 3 2 [3,4] _ [some (rowN ts,0),some (od,0),some (rowN o,0),some (dctA ((o.take j).foldl stepA [(ts.map some,[0])]),2),some (.int ((o[j]:Nat):Int),0)]=_;rw[zJS,hcw _ rfl rfl,bindR_ok,if_neg (by show ¬(1000<=2);decide),hcw _ rfl rfl,bindR_ok];rfl
  ·rw[ef]
  ·rw[ef];exact e2)
 have hF:sFor [2] (iSq (eV 2)) (.one 4) (sSet 3 2 [3,4] (eCallN zAN (aCons (eV 3) (aCons (eV 4) aNil)))) [some (rowN ts,0),some (od,0),some (rowN o,0),some (dctA [(ts.map some,[0])],2),none]=okR (.nx r):=by
  unfold sFor;rw[show iSq (eV 2) (frz (frzAt [2] [some (rowN ts,0),some (od,0),some (rowN o,0),some (dctA [(ts.map some,[0])],2),none]))=okR (o.map fun p=>Dt.int ((p:Nat):Int)) by
   show okR ((o.map fun k:Nat=>(k:Int)).map Dt.int)=_;rw[qAq];rfl,bindR_ok]
  exact hr
 rw[zE1,hF,bindR_ok];dsimp only;rw[hx,qBj,qAm,qBw,hcs];have hkey:eBi tupD (aCons (eComp (iSq (eV 0)) 1 (.one 5) Mi.tYes (eC .non)) aNil) (full [some (rowN ts,0),some (od,0),some (rowN o,0),some (dctA [(qA4 (4*n) none,cs)],2),x])=okR (.tup (tyR (qA4 (4*n) none))):=by
  refine bi1 (d1:=.lst (tyR (qA4 (4*n) none))) ?_ rfl;unfold eComp;rw[show iSq (eV 0) (full [some (rowN ts,0),some (od,0),some (rowN o,0),some (dctA [(qA4 (4*n) none,cs)],2),x])=okR ((ts.map fun k:Nat=>(k:Int)).map Dt.int) from rfl,bindR_ok,if_pos ⟨by rw[qAm,hlt];omega,by rfl⟩];rw[zGA (f:=fun _=>.non) _ _ fun d _=>⟨_,rfl,rfl,rfl⟩,bindR_ok]
  congr 2
  rw[qC4,qAq];refine qB7 (by simp[hN.len]) fun i h1 h2=>?_
  simp[oD]
 have hret:sRetTIx 1 3 (eBi tupD (aCons (eComp (iSq (eV 0)) 1 (.one 5) Mi.tYes (eC .non)) aNil)) [some (rowN ts,0),some (od,0),some (rowN o,0),some (dctA [(qA4 (4*n) none,cs)],2),x]=okR (.rt (rowD (hst cs))):=by
  unfold sRetTIx;dsimp only[qC9,qCa];rw[hkey,bindR_ok,zR4];dsimp only;rw[zU7]
  show(match(findA [(qA4 (4*n) none,cs)] (qA4 (4*n) none)).map fun ys=>rowD (hst ys)with|some d=>if 1=1 then okR (Out.rt d)else none|none=>none)=_
  rw[findA,if_pos rfl];rfl
 rw[hret,bindR_ok,<- zU3 hperm];rfl
noncomputable def rst(m:Nat)(g:Nat->Nat->Int):Nat:=(cnt m (KerF m g)).log2
theorem zV7{m q:Nat}{g:Nat->Nat->Int}(h:cnt m (KerF m g)=2 ^ q):rst m g=q:=by
 unfold rst;rw[h,qG4]
theorem zN3{m:Nat}{g:Nat->Nat->Int}(hm:m<=10)(hb:Bits m g):rst m g<=m/\zCS [mat (tab m g)]=okR (.int (rst m g:Nat))/\zGT [mat (tab m g)]=okR (.int (rst m g:Nat)):=by
 obtain⟨q,h1,h2,_,h3⟩:=zQ4 hm hb;obtain⟨q',k1,k2⟩:=zT4 m (tab m g) (zFB m g) (zMY hb) hm;have e:cnt m (Ker (tab m g))=cnt m (KerF m g):=zBH fun x hx=>zR7 hx.1
 rw[e]at k2;have r1:=zV7 h2;have r2:=zV7 k2;rw[r1];refine⟨h1,h3,?_⟩;rw[k1]
 congr 2
 omega
theorem zO4{n:Nat}{c:List Int}{f:Nat->Nat->Int}(hb:Bits n f):Bits (kept n c).length (cpF n c f):=fun i j hi hj=>by
 unfold cpF dg
 split
 ·dsimp only
  split
  ·exact .inr rfl
  ·exact .inl rfl
 ·exact hb _ _ (zRJ zJ1 hi) (zRJ zJ1 hj)
noncomputable def rv(ws:List Int)(n:Nat)(f:Nat->Nat->Int):List Nat:=(chW ws n).map fun c=>rst (kept n c).length (cpF n c f)
noncomputable def mx(rs:List Nat):Nat:=rs.foldr max 0
theorem zTQ:∀{rs:List Nat}{x:Nat},x∈rs->x<=mx rs
 |a::r,x,h=>by
  show x<=max a (mx r)
  rcases qA6.mp h with rfl|h
  ·omega
  ·have:=zTQ h;omega
theorem zNN:∀{rs:List Nat},rs≠[]->mx rs∈rs
 |[a],_=>by show max a 0∈_;simp
 |a::b::r,_=>by
  have:=zNN (rs:=b::r) (by simp)
  show max a (mx (b::r))∈_
  rcases Nat.le_total a (mx (b::r))with h|h
  ·rw[qG5 h];exact qAd _ this
  ·rw[qGg h];simp
theorem zNO{rs:List Nat}{B:Nat}(h:∀x∈rs,x<=B):mx rs<=B:=by
 cases rs with
 |nil=>exact qAs _
 |cons a r=>exact h _ (zNN (by simp))
def cv(rs:List Nat):List Int:=(qA9 (mx rs+1)).map fun k=>((rs.count k:Nat):Int)
theorem zUT:∀{l:List Int}{m:Int},l≠[]->(∀z∈l,z<=m)->topI l<=m
 |[a],m,_,h=>h a (by simp)
 |a::b::u,m,_,h=>by
  rw[topI];have q1:=h a (by simp);have q2:=zUT (l:=b::u) (by simp) fun z hz=>h z (by simp at hz ⊢;exact .inr hz)
  omega
theorem zVO:∀{l:List Int}{x:Int},x∈l->x<=topI l
 |[a],x,h=>by simp at h;simp[topI,h]
 |a::b::u,x,h=>by
  rw[topI]
  rcases qA6.mp h with rfl|h
  ·omega
  ·have:=zVO h;omega
theorem zTS{rs:List Nat}(h:rs≠[]):maxL [rowD (numL rs)]=some (.int (mx rs:Nat)):=by
 have ht:topI (numL rs)=(mx rs:Nat):=by
  have h1:topI (numL rs)<=(mx rs:Nat):=zUT (by simp[numL,h]) fun z hz=>by
   obtain⟨k,hk,rfl⟩:=qAb.mp hz
   have:=zTQ hk
   omega
  have h2:((mx rs:Nat):Int)<=topI (numL rs):=zVO (qAb.mpr ⟨mx rs,zNN h,rfl⟩);omega
 have hi:=zH4 (numL rs);unfold maxL rowD;dsimp only;rw[hi];cases hn:numL rs with
 |nil=>simp[numL]at hn;exact absurd hn h
 |cons a r=>rw[hn]at ht;dsimp only;rw[ht]
theorem zbL{ws:List Int}{n:Nat}(hw:0<ws.length):chW ws n≠[]:=by
 intro z
 have:=zHB ws n
 rw[z]at this
 have:=qFg (n:=n) hw
 simp at *;omega
theorem zTU(rs:List Nat)(k:Nat):lcoD ((numL rs).map Dt.int) [.int (k:Nat)]=some (.int (rs.count k:Nat)):=by
 unfold lcoD;dsimp only;rw[if_pos ⟨rfl,zCT _⟩]
 congr 3
 unfold numL;rw[qAq]
 induction rs with
 |nil=>rfl
 |cons a r ih=>
  rw[qAg,qCq,qDs,ih]
  congr 1
  by_cases h:a=k
  ·subst h;simp
  ·simp[h,show ¬(a:Int)=(k:Int) by omega]
theorem zQR(cs:List Int)(n:Nat)(hn:n<=20)(hc:0<cs.length)(hcl:cs.length<=1000):∃ms,FW.NetL ms (4*n)/\zBN [rowD cs,.int (n:Int)]=okR (rowD ms):=by
 suffices h:eiR (zD8 [some (rowD cs,0),some (.int (n:Int),0),none,none,none,none,none,none]) (fun _=>False) (fun d=>∃ms,d=rowD ms/\FW.NetL ms (4*n)) by
  rcases h with⟨_,_,z⟩|⟨d,h1,ms,rfl,h2⟩
  ·exact z.elim
  ·exact⟨ms,h2,zC2 rfl h1⟩
 have m0:mulD (.int 4) (.int (n:Int))=some (.int ((4*n:Nat):Int)):=by
  rw[zOY (by lia) (by lia)]
  congr 2
 have m2:mulD (.int 2) (.int (n:Int))=some (.int ((2*n:Nat):Int)):=by
  rw[zOY (by lia) (by lia)]
  congr 2
 have hra:rangeD [.int ((4*n:Nat):Int)]=some (rowD (numL (qA9 (4*n)))):=by
  rw[zWM (by lia) (by lia),show(((4*n:Nat):Int)).toNat=4*n by lia,zKF];rfl
 have hrp:=zN4 (4*n) (by lia);have hlc:lenD [rowD cs]=some (.int (cs.length:Int)):=by simp[rowD,lenD]
 unfold zD8;refine zEN (P:=fun r=>r=[some (rowD cs,0),some (.int (n:Int),0),some (rowD (numL (qA9 (4*n))),1),none,none,none,none,none]) (zJC ?_) ?_
 ·rw[ss (d:=rowD (numL (qA9 (4*n)))) (bi1 (b2 rfl rfl m0) hra) (by rw[zC1];exact qA7 _)];exact zB0 rfl rfl
 rintro r rfl
 refine zEN (P:=fun r=>r=[some (rowD cs,0),some (.int (n:Int),0),some (rowD (numL (qA9 (4*n))),1),some (rowD (qA4 (4*n) 0),1),none,none,none,none]) (zJC ?_) ?_
 ·rw[ss (d:=rowD (qA4 (4*n) 0)) (b2 (el1 rfl) (b2 rfl rfl m0) hrp) (by rw[zC1];exact qA7 _)];exact zB0 rfl rfl
 rintro r rfl
 refine zEN (P:=fun r=>∃left:List Nat,∃ms:List Int,∃o4 o5 o6 o7,r=[some (rowD cs,0),some (.int (n:Int),0),some (rowD (numL left),1),some (rowD ms,1),o4,o5,o6,o7]/\FW.Part left ms (4*n)/\left.length+2*(2*n)=4*n) (zJC ?_) ?_
 ·have hit:iR1 (aCons (eB mulD (eC (.int 2)) (eV 1)) aNil) (full [some (rowD cs,0),some (.int (n:Int),0),some (rowD (numL (qA9 (4*n))),1),some (rowD (qA4 (4*n) 0),1),none,none,none,none])=okR (nums 0 (2*n)):=zGE (n:=2*n) (by
   rw[zC0,b2 (d:=.int ((2*n:Nat):Int)) rfl rfl m2,bindR_ok,zE2,bindR_ok]) (by lia)
  rw[zEB,hit,bindR_ok];refine zLU (fun k r=>∃left:List Nat,∃ms:List Int,∃o4 o5 o6 o7,r=[some (rowD cs,0),some (.int (n:Int),0),some (rowD (numL left),1),some (rowD ms,1),o4,o5,o6,o7]/\FW.Part left ms (4*n)/\left.length+2*k=4*n) ⟨_,_,_,_,_,_,rfl,FW.Part.start (4*n) (by lia),by simp⟩ (fun k hk r hr=>?_) fun r hr=>?_
  ·obtain⟨left,ms,o4,o5,o6,o7,rfl,hP,hll⟩:=hr
   match left,hll,hP with
   |[],hll,_=>simp at hll;lia
   |[x],hll,hP=>have:=hP.ev;simp at this
   |x::y::l,hll,hP=>
    simp only[qAx]at hll;have hx:=hP.lt x (by simp);have hml:=hP.len;have g0:(numL (x::y::l)).getD 0 0=(x:Int):=rfl;refine zDD fun bb hb=>?_
    refine zB0 (r:=[some (rowD cs,0),some (.int (n:Int),0),some (rowD (numL (y::l)),1),some (rowD ms,1),some (.int (k:Nat),0),some (.int (x:Int),0),o6,o7]) (zNI (i:=2) (j:=5) (l:=0) (ls:=numL (x::y::l)) (z:=0) rfl rfl (by lia) (by simp[numL];lia) (by lia) (by simp[numL];lia)) ?_;subst hb;have q0:=qF3 (k:Int) (show((cs.length:Nat):Int)≠0 by omega);have q1:=qE1 (k:Int) (show(0:Int)<((cs.length:Nat):Int) by omega);have i1:ixD (rowD cs) (.int ((k:Int)%(cs.length:Int)))=some (.int (cs.getD ((k:Int)%(cs.length:Int)).toNat 0)):=zJ5 q0 q1;have d0:divD (.int (k:Int)) (.int (cs.length:Int))=some (.int ((k:Int)/(cs.length:Int))):=by
     unfold divD;dsimp only;rw[if_pos ⟨by omega,by omega⟩]
    have d00:(0:Int)<=(k:Int)/(cs.length:Int):=Int.ediv_nonneg (by omega) (by omega);have d01:(k:Int)/(cs.length:Int)<=k:=Int.ediv_le_self _ (by omega);have md:modD (.int (k:Int)) (.int (cs.length:Int))=some (.int ((k:Int)%(cs.length:Int))):=by
     unfold modD;dsimp only;rw[if_pos (by omega)]
    generalize(k:Int)/(cs.length:Int)=dv at d0 d00 d01
    generalize(k:Int)%(cs.length:Int)=rm at md i1
    generalize cs.getD rm.toNat 0=cl at i1
    have d1:divD (.int cl) (.int (1+dv))=some (.int (cl/(1+dv))):=by
     unfold divD;dsimp only;rw[if_pos ⟨by omega,by omega⟩]
    refine zDD fun bb hb=>?_
    refine zB0 (r:=[some (rowD cs,0),some (.int (n:Int),0),some (rowD (numL (y::l)),1),some (rowD ms,1),some (.int (k:Nat),0),some (.int (x:Int),0),some (.int (cl/(1+dv)),0),o7]) (ss (b2 (b2 rfl (b2 rfl (bi1 rfl hlc) md) i1) (b2 rfl (b2 rfl (bi1 rfl hlc) d0) rfl) d1) (qA7 0)) ?_;subst hb
    generalize cl/(1+dv)=w2
    have hnl:(numL (y::l)).length=l.length+1:=by simp[numL]
    obtain⟨z,hz⟩:∃z,w2%((l.length+1:Nat):Int)=z:=⟨_,rfl⟩
    have z0:0<=z:=by rw[<- hz];exact qF3 _ (by lia)
    have z1:z<((l.length+1:Nat):Int):=by rw[<- hz];exact qE1 _ (by lia)
    have hmod:modD (.int w2) (.int ((l.length+1:Nat):Int))=some (.int z):=by
     rw[<- hz];unfold modD;dsimp only;rw[if_pos (by omega)]
    have hly:lenD [rowD (numL (y::l))]=some (.int ((l.length+1:Nat):Int)):=by simp[rowD,lenD,numL]
    have he:eB modD (eV 6) (eBi lenD (aCons (eV 2) aNil)) (full [some (rowD cs,0),some (.int (n:Int),0),some (rowD (numL (y::l)),1),some (rowD ms,1),some (.int (k:Nat),0),some (.int (x:Int),0),some (.int w2,0),o7])=okR (.int z):=b2 rfl (bi1 rfl hly) hmod;have hzt:z.toNat<(y::l).length:=by simp;lia
    obtain⟨b',hb'⟩:∃b',(y::l)[z.toNat]?=some b':=⟨_,qA5 hzt⟩
    have gz:(numL (y::l)).getD z.toNat 0=(b':Int):=by
     unfold numL;rw[qA0,qAf,hb'];rfl
    have hbl:=hP.lt b' (by have:=qB1 hb';simp at this ⊢;exact .inr this);have her:(numL (y::l)).eraseIdx z.toNat=numL ((y::l).eraseIdx z.toNat):=zW0 _ _ _;refine zDD fun bb hb=>?_
    have hpop:=zNI (i:=2) (j:=7) (l:=0) (ls:=numL (y::l)) (z:=z) (r:=[some (rowD cs,0),some (.int (n:Int),0),some (rowD (numL (y::l)),1),some (rowD ms,1),some (.int (k:Nat),0),some (.int (x:Int),0),some (.int w2,0),o7]) rfl he z0 (by rw[hnl];exact z1) (by lia) (by rw[hnl];lia);rw[gz,her]at hpop;refine zB0 (r:=[some (rowD cs,0),some (.int (n:Int),0),some (rowD (numL ((y::l).eraseIdx z.toNat)),1),some (rowD ms,1),some (.int (k:Nat),0),some (.int (x:Int),0),some (.int w2,0),some (.int (b':Int),0)]) hpop ?_;subst hb;have hT:=FW.Part.turn (a:=x) (b:=b') (k:=z.toNat) (l:=y::l) hP hb';have s4:=zKP (i:=3) (n:=0) (l:=0) (ls:=ms) (e1:=eV 5) (e2:=eV 7) (z:=(x:Int)) (v:=(b':Int)) (r:=[some (rowD cs,0),some (.int (n:Int),0),some (rowD (numL ((y::l).eraseIdx z.toNat)),1),some (rowD ms,1),some (.int (k:Nat),0),some (.int (x:Int),0),some (.int w2,0),some (.int (b':Int),0)]) rfl rfl rfl (by lia) (by lia);have s5:=zKP (i:=3) (n:=0) (l:=0) (ls:=ms.set x (b':Int)) (e1:=eV 7) (e2:=eV 5) (z:=(b':Int)) (v:=(x:Int)) (r:=[some (rowD cs,0),some (.int (n:Int),0),some (rowD (numL ((y::l).eraseIdx z.toNat)),1),some (rowD (ms.set x (b':Int)),1),some (.int (k:Nat),0),some (.int (x:Int),0),some (.int w2,0),some (.int (b':Int),0)]) rfl rfl rfl (by lia) (by rw[qEx];lia);rw[qBa]at s4 s5;refine zDD fun bb hb=>zB0 s4 ?_
    subst hb;refine zB0 s5 ⟨(y::l).eraseIdx z.toNat,(ms.set x (b':Int)).set b' (x:Int),_,_,_,_,rfl,hT,?_⟩
    have:=FW.len_erase hzt
    simp only[qAx]at this
    lia
  ·obtain⟨left,ms,o4,o5,o6,o7,rfl,hP,hll⟩:=hr;exact⟨left,ms,_,_,_,_,rfl,hP,hll⟩
 rintro r ⟨left,ms,o4,o5,o6,o7,rfl,hP,hll⟩
 have hle:left=[]:=qDd (by lia);subst hle;refine .inr ⟨rowD ms,?_,ms,rfl,hP.done⟩;unfold sRetV;dsimp only[qC9,qCa];rw[if_pos (.inl rfl)]
theorem zaD(cs:List Int)(n:Nat)(hn:n<=20)(hc:0<cs.length)(hcl:cs.length<=1000):∃ts,NetN ts (4*n)/\(∀x,x<4*n->nt ts x≠x)/\zBN [rowD cs,.int (n:Int)]=okR (rowN ts):=by
 obtain⟨ms,h1,h2⟩:=zQR cs n hn hc hcl;obtain⟨ts,rfl,h3,h4⟩:=zZ3 h1;exact⟨ts,h3,h4,h2⟩
theorem zaY{rs:List Nat}(h:rs≠[]):hst rs=cv rs:=by
 unfold hst cv;rw[if_neg h]
 have:mxL rs=mx rs:=qDr (zTQ (zFE h)) (zHX (zNN h))
 rw[this]
theorem zcB{ts C:List Nat}{n:Nat}(hN:NetN ts (4*n))(hne:∀x,x<4*n->nt ts x≠x)(hc:C∈chA n):rN ts n C<=2*n:=by
 have hp:=(zIC (qFa (qA9 n))).mem_iff.mpr hc;obtain⟨ps,h1,rfl⟩:=qAb.mp hp
 have:=zV6 hN hne (qFa (qA9 n)) h1
 have h2:rN ts n (toC n ps)=(runP (ts.map some) ps).2:=by rw[this]
 rw[h2];have h3:∀(ps:List (Nat×Nat))(t:Ty),(runP t ps).2<=2*ps.length:=fun ps=>by
  induction ps with
  |nil=>intro t;exact qA7 _
  |cons q r ih=>
   intro t
   have:=ih (jP t q.1 q.2).1
   have:=zY3 t q.1 q.2
   show(jP t q.1 q.2).2+(runP (jP t q.1 q.2).1 r).2<=_
   simp only[qAx];omega
 have h4:=h3 ps (ts.map some);have h5:ps.length=n:=by
  have:=congrArg qDm (allW_mem.mp h1).1
  simpa using this
 rw[h5]at h4;exact h4
section
variable{n:Nat}{cs c:List Nat}(w:Wd n cs)(n1:1<=n)(hn:n<=10)(hc:c.length=n)(hw:∀x∈c,x<3)(hsl:(sosL cs).length=n)
include w n1 hn hc hw hsl
end
section
variable{n:Nat}{cs c:List Nat}(w:Wd n cs)(n1:1<=n)(hn:n<=10)(hc:c.length=n)(hsl:(sosL cs).length=n)
include w n1 hn hc hsl
end
theorem zbM(n:Nat):chA n≠[]:=fun z=>by
 have:=chA_mem (n:=n) (c:=qA4 n 0)
 rw[z]at this;exact qBd (this.mpr ⟨by simp,fun w hw=>by rw[List.eq_of_mem_replicate hw];decide⟩)
theorem zMJ:∀n,(chA n).length=3 ^ n
 |0=>rfl
 |n+1=>by
  rw[chA]
  have:∀L:List (List Nat),(L.flatMap fun c=>[c++[0],c++[1],c++[2]]).length=3*L.length:=fun L=>by
   induction L with
   |nil=>rfl
   |cons a r ih=>rw[qBv,qB4,ih];simp;omega
  rw[this,zMJ n,qDz];omega
theorem zMC{rs:List Nat}{m:Nat}(h:∀x∈rs,x<m):((qA9 m).map fun k=>((rs.count k:Nat):Int)).sum=(rs.length:Nat):=by
 induction rs with
 |nil=>
  have:∀l:List Nat,(l.map fun k=>((([]:List Nat).count k:Nat):Int)).sum=0:=fun l=>by
   induction l with
   |nil=>rfl
   |cons a r ih=>rw[qAg,qEg,ih];rfl
  exact this _
 |cons a r ih=>
  have ih':=ih fun x hx=>h x (qAd _ hx)
  have ha:=h a (qAl ..);have key:∀l:List Nat,l.Nodup->(l.map fun k=>(((a::r).count k:Nat):Int)).sum=(l.map fun k=>((r.count k:Nat):Int)).sum+if a∈l then 1 else 0:=fun l=>by
   induction l with
   |nil=>intro _;rfl
   |cons b t ih=>
    intro hn;have hn':=qAy.mp hn;rw[qAg,qEg,ih hn'.2,qAg,qEg,qDs]
    by_cases hab:a=b
    ·subst hab;simp[hn'.1];omega
    ·have:(a==b)=false:=by simpa using hab
     simp[hab]
     split<;>omega
  rw[key _ qBx,ih',if_pos (qD6.mpr ha)];simp
theorem zbK(rs:List Nat):(cv rs).sum=(rs.length:Nat):=zMC fun x hx=>Nat.lt_succ_of_le (zTQ hx)
theorem zV2{rs:List Nat}(h:∀x∈rs,x<=1000)(hl:rs.length<=1000):sumD [rowD (cv rs)]=some (.int (rs.length:Nat)):=by
 have hm:=zNO h;have e:intsD ((cv rs).map Dt.int)=some (cv rs):=by
  induction cv rs with
  |nil=>rfl
  |cons a r ih=>rw[qAg];unfold intsD;rw[ih];rfl
 show(match intsD ((cv rs).map Dt.int)with
  |some ns=>@ite _ (ns.length<=100000/\∀n∈ns,-1000000<=n/\n<=1000000) (qA3 _) (some (Dt.int ns.sum)) none
  |none=>none)=_
 rw[e];dsimp only;refine(@if_pos _ (qA3 _) ⟨by simp[cv];omega,fun x hx=>?_⟩ _ _ _).trans ?_
 ·rw[zbK]
 ·obtain⟨k,_,rfl⟩:=qAb.mp hx
  have:=List.count_le_length (a:=k) (l:=rs)
  omega
def GdA(n:Nat)(f:Nat->Nat->Int)(v:Nat):Prop:=v<n/\f v v=1
def GdB(n:Nat)(f:Nat->Nat->Int)(u v:Nat):Prop:=u<n/\v<n/\u≠v/\f u v=1/\f u u=0/\f v v=0
inductive Du(n:Nat)(f:Nat->Nat->Int):List Int->Option (Nat->Nat->Int)->Prop where
 |one {v:Nat} (h:GdA n f v):Du n f [(v:Int)] (some (pvA n f v))
 |two {u v:Nat} (h:GdB n f u v):Du n f [(u:Int),(v:Int)] (some (pvB n f u v))
 |no {l:List Int} (h1:∀v:Nat,l=[(v:Int)]->¬GdA n f v) (h2:∀u v:Nat,l=[(u:Int),(v:Int)]->¬GdB n f u v):Du n f l none
theorem oo:(("other":Str)==("one":Str))=false:=by decide +kernel
noncomputable def fv(P0 P1 P2 P3 P4:List Nat)(a b c d:Nat):List Nat:=P0++a::(P1++b::(P2++c::(P3++d::P4)))
section
variable{P0 P1 P2 P3 P4:List Nat}{a b c d x y:Nat}
noncomputable def q0(P0:List Nat):Nat:=P0.length
noncomputable def q1(P0 P1:List Nat):Nat:=P0.length+1+P1.length
noncomputable def q2(P0 P1 P2:List Nat):Nat:=P0.length+1+P1.length+1+P2.length
noncomputable def q3(P0 P1 P2 P3:List Nat):Nat:=P0.length+1+P1.length+1+P2.length+1+P3.length
end
section
variable{cs u v:List Nat}
end
section
variable{P0 P1 P2 P3 P4:List Nat}{a b c d x y:Nat}
end
theorem st4{c:TM}{a:SM}{r:Ro}{X:R Out}(hc:c (full r)=okR true)(ha:a r=X):sIf c a sNil r=X:=by
 rw[zEK,hc,bindR_ok,if_pos rfl,ha]
noncomputable def sh4(b:Int):Dt:=.ins "Shift" [("by",.i b)]
theorem n1:(("Swap":Str)==("Turn":Str))=false:=by decide +kernel
theorem n2:(("Mirror":Str)==("Turn":Str))=false:=by decide +kernel
theorem n3:(("Mirror":Str)==("Swap":Str))=false:=by decide +kernel
theorem m1:(("done":Str)==("letter":Str))=false:=by decide +kernel
theorem m2:(("done":Str)==("one":Str))=false:=by decide +kernel
theorem m3:(("done":Str)==("other":Str))=false:=by decide +kernel
theorem o1:(("other":Str)==("one":Str))=false:=by decide +kernel
section
variable{P0 P1 P2 P3 P4:List Nat}{a b x y:Nat}
end
theorem zI4{ws:List Int}{n:Nat}(hw:ws.length<=3)(hn:n<=6):(chW ws n).length<=729:=by
 rw[zHB];have h1:ws.length ^ n<=3 ^ n:=qFh hw n;have h2:3 ^ n<=3 ^ 6:=qDg (by omega) hn;omega
theorem zK3{ws:List Int}{n:Nat}{f:Nat->Nat->Int}(hw0:0<ws.length)(hw:ws.length<=3)(hn:n<=6)(hb:Bits n f):rv ws n f≠[]/\(∀x∈rv ws n f,x<=10)/\(rv ws n f).length<=729:=by
 refine⟨?_,fun x hx=>?_,?_⟩
 ·unfold rv;intro z;exact zbL hw0 (qDp.mp z)
 ·obtain⟨c,hc,rfl⟩:=qAb.mp hx;have hk:=zJ2 n c
  have:=(zN3 (by omega) (zO4 (c:=c) hb)).1
  omega
 ·unfold rv;rw[qAm];exact zI4 hw hn
theorem zL0{ws:List Int}{n:Nat}{f:Nat->Nat->Int}(hw0:0<ws.length)(hw:ws.length<=3)(hn:n<=6)(hb:Bits n f):zAT [mat (tab n f),.scr ws]=okR (rowD (cv (rv ws n f))):=by
 obtain⟨r1,r2,r3⟩:=zK3 hw0 hw hn hb;have hmx:=zTS r1;have hM:=zNO r2;have ha:=zSM ws n (by omega) hw;have hcl:=zI4 hw hn;have hd:=zDP (chW ws n);have hc:∀o1 o3:Option Dt,eComp (iSq (eV 2)) 1 (.one 4) Mi.tYes (eCallN zCS (aCons (eCallN zBM (aCons (eV 0) (aCons (eV 4) aNil))) aNil)) [some (mat (tab n f)),o1,some (mat (chW ws n)),o3]=okR (rowD (numL (rv ws n f))):=by
  intro o1 o3;refine qHr (zC6 (i:=4) rowD (fun c=>Dt.int ((rst (kept n c).length (cpF n c f):Nat):Int)) (chW ws n) rfl rfl (fun c hc=>?_) _ (by simp[mat]) (by omega)) ?_
  ·have hk:=zJ2 n c;have e1:=zMG (f:=f) (by omega) (zMI hc).1;have e2:=(zN3 (by omega) (zO4 (c:=c) hb)).2.1;simp[e1,e2]
  ·rw[numD];unfold rv;rw[qAq];rfl
 have hc2:∀o0 o1 o2:Option Dt,eComp (iR1 (aCons (eB addD (eBi maxL (aCons (eV 3) aNil)) (eC (.int 1))) aNil)) 1 (.one 4) Mi.tYes (eMl lcoD (eV 3) (aCons (eV 4) aNil)) [o0,o1,o2,some (rowD (numL (rv ws n f)))]=okR (rowD (cv (rv ws n f))):=by
  intro o0 o1 o2;refine zO6 _ rfl (by omega) (zGE ?_ (by omega)) fun k hk=>?_
  ·simp[hmx]
  ·have:=zTU (rv ws n f) k
   simp[eMl,rowD,this]
 unfold zAT zCV;refine zC2 rfl (zCO fun bb hb'=>?_);refine zB0 (r:=[some (mat (tab n f),0),some (.scr ws,0),some (mat (chW ws n),9),none]) (by simp[startO,zFB,ha,show(mat (chW ws n)).dep<=9 by omega]) ?_;subst hb';refine zCO fun bb hb'=>?_
 refine zB0 (r:=[some (mat (tab n f),0),some (.scr ws,0),some (mat (chW ws n),9),some (rowD (numL (rv ws n f)),1)]) (by simp[hc]) ?_;subst hb';simp[hc2]
section
theorem se78{s t:SM}{r:Ro}{x:Xn}(h:s r=some (.error x)):sSeq s t r=some (.error x):=by rw[zE1,h];rfl
theorem zEP{P n:Nat}{b:SM}{ds:List Dt}{x:Xn}(hl:ds.length=P)(h:b (startO n ds)=some (.error x)):runF P n b ds=some (.error x):=by
 unfold runF;rw[if_pos hl,h];rfl
theorem zTH{ts:List Nat}{n:Nat}(h:ts.length=4*n):zB3 [rowD (numL ts)]=okR (.int (n:Int)):=by
 have e:eB divD (eBi lenD (aCons (eV 0) aNil)) (eC (.int 4)) (full (startO 1 [rowD (numL ts)]))=okR (.int (n:Int)):=by
  refine b2 (bi1 (d1:=rowD (numL ts)) (d:=.int ((4*n:Nat):Int)) rfl (by simp[rowD,lenD,numL,h])) rfl ?_;rw[dvi (by decide)]
  congr 2
  omega
 exact zC2 rfl (sr e ⟨qAs _,qAs _⟩)
noncomputable abbrev vt78:EM:=(eIf (tB (eB isD (eV 2) (eC .non))) (eCallV [("counts_of",true,zAS),("table_counts",false,zAY),("arrowed_counts",false,zAR)] 0 (aCons (eV 1) aNil)) (eCallV [("counts_of",false,zAS)] 0 (aCons (eV 1) (aCons (eV 2) aNil))))
theorem zT8{x:Str}{A O:Dt}(h:vt78 [some (.fnc x),some A,some O,some (.lst []),none]=some (.error ⟨"TooMany","",.non⟩)):zAO [.fnc x,A,O]=okR (.bl true):=by
 refine zC2 rfl (sg (d:=.lst []) el0 (by decide) ?_);refine sw (r':=[some (.fnc x,0),some (A,0),some (O,0),some (.lst [.bl true,.bl true,.bl false,.bl false],1),none]) ?_ ?_
 ·show sTry [2,0,1] none vt78 ["RoundError","NoNet","NoPivot","TooMany"] 4 _ [some (.fnc x,0),some (A,0),some (O,0),some (.lst [],9),none]=_;rw[zWW _ _ _ (show vt78 (frz (frzAt [2,0,1] [some (.fnc x,0),some (A,0),some (O,0),some (.lst [],9),none]))=some (.error ⟨"TooMany","",.non⟩) from ?_) (by simp)]
  ·show zA2 (sSet 3 1 [4] _ [some (.fnc x,0),some (A,0),some (O,0),some (.lst [],9),some (.exc "TooMany" "" .non,0)]) _=_;rw[ss (d:=.lst [.bl true,.bl true,.bl false,.bl false]) (by simp[eIsX]) (by decide),bindR_ok];rfl
  ·have:∀(e3:Option Dt),vt78 [some (.fnc x),some A,some O,e3,none]=vt78 [some (.fnc x),some A,some O,some (.lst []),none]:=fun _=>rfl
   exact(this none).trans h
 ·refine sr (d:=.bl true) (b2 (d2:=.lst [.bl true,.bl true,.bl false,.bl false]) rfl (by simp) ?_) ⟨qAs _,qAs _⟩;rfl
theorem cn78{m:FM}{e1:EM}{ρ:Rh}{d1 d:Dt}(h1:e1 ρ=okR d1)(h:m [d1]=okR d):eCallN m (aCons e1 aNil) ρ=okR d:=by
 unfold eCallN;rw[al0 h1,bindR_ok,h];rfl
theorem zUO{n:Nat}(h:6<n)(W:Dt):zBB [.int (n:Int),W]=some (.error ⟨"TooMany","",.non⟩):=by
 refine zEP rfl (se78 ?_);rw[zEK,tb1 (b2 rfl rfl (cmi (k:=true) (decide_eq_true (by omega)))),bindR_ok,if_pos rfl];unfold sRaise0;rw[al0 rfl,bindR_ok,@if_pos _ (qA3 _) (by simp)]
theorem zZA{i n:Nat}{vs:List Nat}{e:EM}{r:Ro}{x:Xn}(h:e (full r)=some (.error x)):sSet i n vs e r=some (.error x):=by rw[zJS,h];rfl
theorem zV9{L n:Nat}{vs:List Nat}{e:EM}{r:Ro}{x:Xn}(h:e (full r)=some (.error x)):sRet L n vs e r=some (.error x):=by rw[zUS,h];rfl
theorem zN2{T W:Dt}{n:Nat}(hT:lenD [T]=some (.int (n:Int)))(h:6<n):zAT [T,W]=some (.error ⟨"TooMany","",.non⟩):=
 zEP rfl (se78 (zZA (c2 (bi1 rfl hT) rfl (zUO h W))))
theorem zL1{ts:List Nat}{n:Nat}(N:ts.length=4*n)(h:6<n)(O:Dt):zAS [rowD (numL ts),O]=some (.error ⟨"TooMany","",.non⟩):=by
 refine zEP rfl (se78 ?_);rw[zEK,tb1 (b2 (cn78 rfl (zTH N)) rfl (cmi (k:=true) (decide_eq_true (by omega)))),bindR_ok,if_pos rfl];unfold sRaise0;rw[al0 rfl,bindR_ok,@if_pos _ (qA3 _) (by simp)]
theorem zVM(n:Nat)(f:Nat->Nat->Int):lenD [mat (tab n f)]=some (.int (n:Int)):=by simp[mat,lenD,tab]
theorem zPI{x:Str}{A:Dt}{X:R Dt}(h:eCallV [("counts_of",true,zAS),("table_counts",false,zAY),("arrowed_counts",false,zAR)] 0 (aCons (eV 1) aNil) [some (.fnc x),some A,some .non,some (.lst []),none]=X):vt78 [some (.fnc x),some A,some .non,some (.lst []),none]=X:=if1 (tb1 (b2 rfl rfl rfl)) h
theorem cD1{m:FM}{e1:EM}{ρ:Rh}{d1:Dt}{X:R Dt}(h1:e1 ρ=okR d1)(h:m [d1,.non]=X):eCallD m (aCons e1 aNil) ρ=X:=by
 unfold eCallD;rw[al0 h1,bindR_ok];exact h
set_option maxHeartbeats 4000000 in
theorem zTV(ns:List Int)(hl:ns.length<=63)(hw:∀i∈ns,i.natAbs.log2<2 ^ 20):zKI [.scr ns]=okR (.bl true):=by
 have ec:=zQW ns 24 (by omega) hl;obtain⟨cl,hcl⟩:∃cl,mixL ns (max 24 ns.length)=cl:=⟨_,rfl⟩
 rw[hcl]at ec;have c24:24<=cl.length:=by rw[<- hcl];simp[mixL];omega
 have c63:cl.length<=63:=by rw[<- hcl];simp[mixL];omega
 have cn:∀c∈cl,0<=c:=fun c hc=>by
  rw[<- hcl]at hc;obtain⟨k,_,rfl⟩:=qAb.mp hc;exact(zXV ns k).1
 have ecD:zCL [.scr ns,.int 24]=okR (rowD cl):=ec;have g0:=cn _ (getD_mem (d:=0) (show 0<cl.length by omega));have cix:∀{k:Nat},k<cl.length->ixD (rowD cl) (.int (k:Int))=some (.int (cl.getD k 0)):=fun h=>zJ4 _ _ h
 have sl:∀k:Nat,slD (rowD cl) (some (k:Int)) none=some (rowD (cl.drop k)):=fun k=>by
  show some (Dt.lst (cutA (cl.map Dt.int) (some (k:Int)) none))=_;rw[zUM,<- List.map_drop];rfl
 obtain⟨n,hn⟩:∃n:Nat,7+cl.getD 0 0%2=(n:Int):=⟨(7+cl.getD 0 0%2).toNat,by omega⟩
 obtain⟨m,hm⟩:∃m:Nat,7+cl.getD 0 0/2%4=(m:Int):=⟨(7+cl.getD 0 0/2%4).toNat,by omega⟩
 obtain⟨ts,hN,hne,enet⟩:=zaD (cl.drop 1) n (by omega) (by simp;omega) (by simp;omega);obtain⟨f,hf,eweb⟩:=zHI (cl.drop 1) m true (by omega) (by simp;omega);obtain⟨ts6,hN6,hne6,enet6⟩:=zaD (cl.drop 3) 6 (by omega) (by simp;omega) (by simp;omega);obtain⟨f6,hf6,eweb6⟩:=zHI (cl.drop 2) 6 true (by omega) (by simp;omega);have NO:=hN.len;have dn:(rowN ts).dep=1:=zC1 _;have dm:∀(k:Nat)(g:Nat->Nat->Int),(mat (tab k g)).dep<=2:=fun k g=>zDP _
 have hne':(chA 6).map (rN ts6 6)≠[]:=fun z=>zbM 6 (qDp.mp z)
 have hc6:zAS [rowN ts6,.non]=okR (rowD (cv ((chA 6).map (rN ts6 6)))):=by
  rw[<- zaY hne'];exact zL2 hN6 hne6 (by omega) (qFa _) (.inl ⟨rfl,rfl⟩)
 have hs6:=zV2 (rs:=(chA 6).map (rN ts6 6)) (fun x hx=>by
  obtain⟨C,hC,rfl⟩:=qAb.mp hx
  have:=zcB hN6 hne6 hC
  omega) (by rw[qAm,zMJ];decide)
 rw[qAm,zMJ]at hs6;have ht6:∀ws:List Int,0<ws.length->ws.length<=3->zAT [mat (tab 6 f6),.scr ws]=okR (rowD (cv (rv ws 6 f6)))/\sumD [rowD (cv (rv ws 6 f6))]=some (.int ((ws.length ^ 6:Nat):Int)):=fun ws w0 w3=>by
  refine⟨zL0 w0 w3 (by omega) (hf6.bits 6),?_⟩;obtain⟨q1,q2,q3⟩:=zK3 w0 w3 (by omega) (hf6.bits 6);rw[zV2 (fun x hx=>by have:=q2 x hx;omega) (by omega)]
  congr 3
  unfold rv;rw[qAm,zHB]
 obtain⟨a1,a2⟩:=ht6 [0,1,2] (by simp) (by simp);obtain⟨b1,b2'⟩:=ht6 [0,2] (by simp) (by simp);have r1:=zT8 (zPI (x:="counts_of") (A:=rowN ts) (X:=some (.error ⟨"TooMany","",.non⟩)) (zL1 NO (by omega) .non));have r2:∀O,isNonD O=false->zAO [.fnc "counts_of",rowN ts,O]=okR (.bl true):=fun O hO=>zT8 (if0 (tb1 (b2 rfl rfl (by show some (Dt.bl (isNonD O))=_;rw[hO]))) (zL1 NO (by omega) O))
 have q3:zAY [mat (tab m f)]=some (.error ⟨"TooMany","",.non⟩):=zEP rfl (zV9 (c2 rfl rfl (zN2 (zVM m f) (by omega))));have q4:zAR [mat (tab m f)]=some (.error ⟨"TooMany","",.non⟩):=zEP rfl (zV9 (c2 rfl rfl (zN2 (zVM m f) (by omega))));have r3:=zT8 (zPI (x:="table_counts") (A:=mat (tab m f)) (X:=some (.error ⟨"TooMany","",.non⟩)) q3);have r4:=zT8 (zPI (x:="arrowed_counts") (A:=mat (tab m f)) (X:=some (.error ⟨"TooMany","",.non⟩)) q4);have hrev:∃ds:List Dt,rvrD [.int (n:Int)]=some (.lst ds):=by
  unfold rvrD;dsimp only;exact⟨_,@if_pos _ (qA3 _) ⟨by omega,by omega⟩ _ _ _⟩
 obtain⟨ds,er⟩:=hrev;have r2':=r2 (.lst ds) rfl;have dkept:¬(Dt.lst [rowN ts,mat (tab m f)]).dep<=1:=by
  show ¬Dt.depL [rowN ts,mat (tab m f)]+1<=1;simp[Dt.depL,dn]
 have dk40:(Dt.lst [rowN ts,mat (tab m f)]).dep<=40:=by
  show Dt.depL [rowN ts,mat (tab m f)]+1<=40
  have:=dm m f
  simp[Dt.depL,dn];omega
 have ek:Dt.eq (.lst [rowN ts,mat (tab m f)]) (.lst [rowN ts,mat (tab m f)])=true:=by
  have h1:Dt.eq (rowN ts) (rowN ts)=true:=by rw[zb2];simp
  have h2:Dt.eq (mat (tab m f)) (mat (tab m f))=true:=by rw[zb3];simp
  show(Dt.eq (rowN ts) (rowN ts)&&(Dt.eq (mat (tab m f)) (mat (tab m f))&&Dt.eqL [] []))=true
  rw[h1,h2];rfl
 have kept:∀ρ:Rh,ρ.length=7->ρ[3]?=some (some (rowN ts))->ρ[4]?=some (some (mat (tab m f)))->eLst (aCons (eBi listD (aCons (eV 3) aNil)) (aCons (eComp (iSq (eV 4)) 1 (.one 7) Mi.tYes (eBi listD (aCons (eV 7) aNil))) aNil)) ρ=okR (.lst [rowN ts,mat (tab m f)]):=fun ρ h0 h3 h4=>el2 (bi1 (v1 h3) rfl) (zcZ h0.symm h4 (by omega))
 refine zC2 rfl (sg (c2 rfl rfl ecD) (by rw[zC1];decide) ?_);refine sg (b2 rfl (b2 (b2 rfl rfl (cix (k:=0) (by omega))) rfl (mdi (by omega) rfl)) (adi hn)) (qAs _) ?_;refine sg (c2 (sl1 rfl rfl (sl 1)) rfl enet) (qCh dn) ?_;refine sg (c3 (sl1 rfl rfl (sl 1)) (b2 rfl (b2 (b2 (b2 rfl rfl (cix (k:=0) (by omega))) rfl (dvi (by decide))) rfl (mdi (by omega) rfl)) (adi hm)) rfl eweb) (dm m f) ?_;refine sgf (kept _ rfl rfl rfl) dkept (kept _ rfl rfl rfl) ?_;refine sp (to0 (tn1 (tm1 (c3 rfl rfl rfl r1))) (tn1 (tm1 (c3 rfl rfl (bi1 rfl er) r2')))) ?_;refine sp (to0 (tn1 (tm1 (c3 rfl rfl rfl r3))) (tn1 (tm1 (c3 rfl rfl rfl r4)))) ?_;refine sp (to0 (ned (el2 rfl rfl) rfl dk40 dk40 ek rfl) (nei (bi1 (cD1 (c2 (sl1 rfl rfl (sl 3)) rfl enet6) hc6) hs6) rfl rfl)) ?_;refine sg (c3 (sl1 rfl rfl (sl 2)) rfl rfl eweb6) (dm 6 f6) ?_;have t1:zAY [mat (tab 6 f6)]=okR (rowD (cv (rv [0,1,2] 6 f6))):=zC2 rfl (sr (c2 rfl rfl a1) ⟨by rw[zC1];exact qA7 1,by rw[zC1];exact qA7 1⟩);have t2:zAR [mat (tab 6 f6)]=okR (rowD (cv (rv [0,2] 6 f6))):=zC2 rfl (sr (c2 rfl rfl b1) ⟨by rw[zC1];exact qA7 1,by rw[zC1];exact qA7 1⟩);exact sr (d:=.bl true) (an1 (a:=true) (b:=true) (b2 (bi1 (c1 rfl t1) a2) rfl rfl) (b2 (bi1 (c1 rfl t2) b2') rfl rfl)) ⟨qAs _,qAs _⟩
end
end Mp
set_option maxHeartbeats 4000000
namespace Q78
open PySem PyProof.Rows
open L2 hiding Rep RepL
open L3
open Mp
noncomputable def top(i:Nat):Stmt:=qE7.main.body.getD i (.Pass ⟨0,0,0,0⟩)
theorem S__law_any_web:FnScope ["_law_cells","_law_size","_law_slant","_law_web","_law_i","_law_j","_law_bit"] ["_law_cells","_law_size","_law_slant"] (zA3 (top 38)):=fsc
theorem S__law_mixed:FnScope ["_law_script","_law_least","_law_made","_law_k","_law_cell","_law_first"] ["_law_script","_law_least"] (zA3 (top 36)):=fsc
theorem S__law_net:FnScope ["_law_cells","_law_size","_law_ends","_law_net_here","_law_k","_law_one","_law_cell","_law_other"] ["_law_cells","_law_size"] (zA3 (top 37)):=fsc
theorem S_lengthened:FnScope ["choices","ways","longer","choice"] ["choices","ways"] (zA3 (top 20)):=fsc
theorem S_choices_among:FnScope ["n","ways","choices","place"] ["n","ways"] (zA3 (top 19)):=fsc
theorem zFZ:FnScope ["choice"] ["choice"] (zA3 (top 23)):=fsc
theorem zSQ:FnScope ["table","numbers"] ["table","numbers"] (zA3 (top 9)):=fsc
theorem S_chosen_part:FnScope ["table","choice","numbers","part","at","number"] ["table","choice"] (zA3 (top 22)):=fsc
theorem zYR:FnScope ["one","other"] ["one","other"] (zA3 (top 10)):=fsc
theorem S_less_leaders:FnScope ["row","leaders","left","leader"] ["row","leaders"] (zA3 (top 14)):=fsc
theorem S_greatest_part:FnScope ["table","part","leaders","number","row","left"] ["table"] (zA3 (top 13)):=fsc
theorem zSP:FnScope ["table"] ["table"] (zA3 (top 12)):=fsc
theorem S_counts_by_rests:FnScope ["table","ways","choices","rests"] ["table","ways"] (zA3 (top 34)):=fsc
theorem zG0:FnScope ["table"] ["table"] (zA3 (top 28)):=fsc
theorem zMU:FnScope ["net"] ["net"] (zA3 (top 7)):=fsc
theorem S_join_ends:FnScope ["ties","one","other","far","near"] ["ties","one","other"] (zA3 (top 31)):=fsc
theorem zUQ:FnScope ["way","seat"] ["way","seat"] (zA3 (top 18)):=fsc
theorem S_join_place:FnScope ["ties","place","way","closed","seat","mate"] ["ties","place","way"] (zA3 (top 30)):=fsc
theorem zPG:FnScope ["counts","k"] ["counts","k"] (zA3 (top 33)):=fsc
theorem S_summed:FnScope ["one","other","longest"] ["one","other"] (zA3 (top 32)):=fsc
theorem S_without_place:FnScope ["counted","place","left","ties","way","joint","closed","ahead"] ["counted","place"] (zA3 (top 29)):=fsc
theorem S_counts_of:FnScope ["net","order","places","counted","place"] ["net","order"] (zA3 (top 26)):=fsc
theorem zHS:FnScope ["table"] ["table"] (zA3 (top 27)):=fsc
theorem S__law_refused:FnScope ["_law_way","_law_thing","_law_order","_law_kinds","e"] ["_law_way","_law_thing","_law_order"] (zA3 (top 39)):=fsc
theorem S_law:FnScope ["_law_script","_law_cells","_law_size","_law_net_here","_law_table","_law_kept","_law_less"] ["_law_script"] (zA3 (top 40)):=fsc
section
variable{P:qI0}{w:World}{K:qA1}{mg:Str->Option Value}{base:Heap}
structure Bd(K:qA1)(mg:Str->Option Value):Prop where
 d0:Def K mg "_law_any_web" (top 38)
 d1:Def K mg "_law_mixed" (top 36)
 d2:Def K mg "_law_net" (top 37)
 d3:Def K mg "lengthened" (top 20)
 d4:Def K mg "choices_among" (top 19)
 d5:Def K mg "chosen_numbers" (top 23)
 d6:Def K mg "part_at" (top 9)
 d7:Def K mg "chosen_part" (top 22)
 d8:Def K mg "added" (top 10)
 d9:Def K mg "less_leaders" (top 14)
 d10:Def K mg "greatest_part" (top 13)
 d11:Def K mg "rest_of" (top 12)
 d12:Def K mg "counts_by_rests" (top 34)
 d13:Def K mg "arrowed_counts" (top 28)
 d14:Def K mg "places_in" (top 7)
 d15:Def K mg "join_ends" (top 31)
 d16:Def K mg "joined" (top 18)
 d17:Def K mg "join_place" (top 30)
 d18:Def K mg "count_at" (top 33)
 d19:Def K mg "summed" (top 32)
 d20:Def K mg "without_place" (top 29)
 d21:DefD K mg "counts_of" (top 26)
 d22:Def K mg "table_counts" (top 27)
 d23:Def K mg "_law_refused" (top 39)
 e0:mg "ValueError" = none
 e1:mg "enumerate" = none
 e2:mg "isinstance" = none
 e3:mg "len" = none
 e4:mg "list" = none
 e5:mg "max" = none
 e6:mg "min" = none
 e7:mg "range" = none
 e8:mg "reversed" = none
 e9:mg "sum" = none
 e10:mg "tuple" = none
structure Bn(P:qI0)(w:World)(K:qA1)(mg:Str->Option Value)(base:Heap):Type where
 S:Bd K mg
 a_TooMany:Addr
 u_MOST_CHOSEN:Value
 u_ARROWED_WAYS:Addr
 u_SEATS:Value
 u_ALL_WAYS:Addr
 a_NoNet:Addr
 a_NoPivot:Addr
 a_RoundError:Addr
 a_arrowed_counts:Addr
 a_counts_of:Addr
 a_table_counts:Addr
 c_MOST_CHOSEN:RelV (V.int 6) u_MOST_CHOSEN/\mg "MOST_CHOSEN" = some u_MOST_CHOSEN
 z_TooMany:XNo K mg "TooMany" a_TooMany
 c_ARROWED_WAYS:KTup K u_ARROWED_WAYS [0,2]/\mg "ARROWED_WAYS" = some (.ref u_ARROWED_WAYS)
 c_SEATS:RelV (V.int 4) u_SEATS/\mg "SEATS" = some u_SEATS
 c_ALL_WAYS:KTup K u_ALL_WAYS [0,1,2]/\mg "ALL_WAYS" = some (.ref u_ALL_WAYS)
 n_RoundError:XCls K mg "RoundError" a_RoundError
 n_NoNet:XCls K mg "NoNet" a_NoNet
 n_NoPivot:XCls K mg "NoPivot" a_NoPivot
 n_TooMany:XCls K mg "TooMany" a_TooMany
 v_counts_of:FNm K mg "counts_of" a_counts_of
 v_table_counts:FNm K mg "table_counts" a_table_counts
 v_arrowed_counts:FNm K mg "arrowed_counts" a_arrowed_counts
 q0:(∀c∈(["TooMany"]:List Str),∃C,clK K c=some C/\Xc.XIs K C/\kitV K C (V.ref a_TooMany)=some true)/\(∀c∈(["RoundError","NoNet","NoPivot"]:List Str),∃C,clK K c=some C/\Xc.XIs K C/\kitV K C (V.ref a_TooMany)=some false)
 q1:(∀c∈(["RoundError","NoNet","NoPivot","TooMany"]:List Str),∃C,clK K c=some C/\Xc.XIs K C/\kitV K C (V.ty "ValueError")=some true)/\(∀c∈([]:List Str),∃C,clK K c=some C/\Xc.XIs K C/\kitV K C (V.ty "ValueError")=some false)
 q2:(∀c∈(["NoNet"]:List Str),∃C,clK K c=some C/\Xc.XIs K C/\kitV K C (V.ref a_NoNet)=some true)/\(∀c∈(["RoundError","NoPivot","TooMany"]:List Str),∃C,clK K c=some C/\Xc.XIs K C/\kitV K C (V.ref a_NoNet)=some false)
 q3:(∀c∈(["NoPivot"]:List Str),∃C,clK K c=some C/\Xc.XIs K C/\kitV K C (V.ref a_NoPivot)=some true)/\(∀c∈(["RoundError","NoNet","TooMany"]:List Str),∃C,clK K c=some C/\Xc.XIs K C/\kitV K C (V.ref a_NoPivot)=some false)
 q4:(∀c∈(["RoundError","NoNet","NoPivot","TooMany"]:List Str),∃C,clK K c=some C/\qCp K (.ref C) (.ref a_RoundError)=some true)
variable(B:Bn P w K mg base)
include B
theorem zDJ:Has P w K mg base "_law_any_web" 1 ["_law_cells","_law_size","_law_slant"] (sp0 K mg 2 zBU):=by
 letI:Kc:=⟨K⟩
 exact dfM B.S.d0 S__law_any_web (fun _ _ _ _ _ _=>uw3 fun _ _ _=>rfl) fun hr hu h=>⟨_,(zA6 (zOT (i:=3) S__law_any_web.nd rfl oi rfl (cn ["0","_law_size","2","3","4","5","6","_law_k"] 1 (by kernel_rfl)) (zB9 rfl B.S.e7 (zA0 (pn 1) zA5)) (fun _ _ _ _=>(pgn 7)) (fun _ _ _ _=>zCM) (fun _ _ _ _=>(zAU zWN (zBV (zA0 zAH zA5)) (pn 1))))
   (zA6 (zBQ qIb rfl (zB9 rfl B.S.e7 (zA0 (pn 1) zA5)) (zBE (i:=4) S__law_any_web.nd rfl oi) (zAD (zBQ qIb rfl (zB9 rfl B.S.e7 (zA0 (zAU zCX (pn 4) zAH) zA5)) (zBE (i:=5) S__law_any_web.nd rfl oi) (zA6 (pst 6 S__law_any_web.nd (zDB (zDA (K:=K)) (pn 0) (zAU zHJ (zAU zCX (zAU zCF (pn 4) (pn 1)) (pn 5)) (zAL (zCA (K:=K)) rfl B.S.e3 qIp (zA0 (pn 0) zA5))) (fun _ _=>rfl)))
   (zA6 (pst 6 S__law_any_web.nd (zAU zHJ (zAU zJW (pn 6) (zAU zCX (zAU zCX zAH (zAU zCF zAH (pn 4))) (zAU zCF zAH (pn 5)))) zAH))
   (zAD (zGK (pt_w (zTC (zEF (u_ne hu) (pn 4) (pn 5) (zBX _)) (zNB (pt_m (pn 2))))) (zA6 (zEQ (pn 6) (zER (zDB (zDA (K:=K)) (pn 3) (pn 4) (fun _ _=>rfl)) (pn 5) zIB))
   (zAD (zEQ (pn 6) (zER (zDB (zDA (K:=K)) (pn 3) (pn 5) (fun _ _=>rfl)) (pn 4) zIB)))) zC7)))))))
   (zAD (zB1 (pn 3))))),(zB8 (zAI (zAP (n:=2) [1] (zCB (n:=1) (zH9 (zA1 (de_v 1) zA7)) (zB7 7) zE7 (zAG zQ2 (zBZ (n:=0) (zA1 zAF zA7)) (de_v 1))))
   (zAI (zFH (zH9 (zA1 (de_v 1) zA7)) (zFH (zH9 (zA1 (zAJ (zAG zBP (de_v 4) (dz zAF))) zA7)) (zAI (zAP (n:=0) [0,5,4,1] (zAG zEE (de_v 0) (dz (zAG zE3 (zAG zBP (dz (zAG zCH (de_v 4) (de_v 1))) (de_v 5)) (dz (zBO zCC (zA1 (de_v 0) zA7)))))))
   (zAI (zAP (n:=0) [6,5,4] (zAG zE3 (dz (zAG zK4 (de_v 6) (zAG zBP (zAG zBP (dz zAF) (dz (zAG zCH (dz zAF) (de_v 4)))) (dz (zAG zCH (dz zAF) (de_v 5)))))) (dz zAF)))
   (zHO (zUC (dt_b (dz (zAG zT0 (de_v 4) (de_v 5)))) (dt_m (de_v 2))) (zAI (zJD 3 (n:=0) (de_v 4) (de_v 5) (de_v 6))
   (zJD 3 (n:=0) (de_v 5) (de_v 4) (de_v 6))) zDO)))))
   (zD5 3))) h)⟩
theorem zIS:Has P w K mg base "_law_mixed" 1 ["_law_script","_law_least"] (sp0 K mg 9 zCL):=by
 letI:Kc:=⟨K⟩
 exact dfM B.S.d1 S__law_mixed (fun _ _ _ _ _ _=>uw2 fun _ _=>rfl) fun hr hu h=>⟨_,(zA6 (pst 2 S__law_mixed.nd (zBV zA5))
   (zA6 (zBQ qIb rfl (zB9 rfl B.S.e7 (zA0 (zAL (zHC rfl) rfl B.S.e5 boot_max (zA0 (pn 1) (zA0 (zAL (zSC rfl) rfl B.S.e6 boot_min (zA0 zAH (zA0 (zAL (zCA (K:=K)) rfl B.S.e3 qIp (zA0 (pn 0) zA5)) zA5))) zA5))) zA5)) (zBE (i:=3) S__law_mixed.nd rfl oi) (zA6 (pst 4 S__law_mixed.nd zAH)
   (zA6 (zGK (zEF u_lt (pn 3) (zAL (zCA (K:=K)) rfl B.S.e3 qIp (zA0 (pn 0) zA5)) (zBX _)) (zAD (pst 4 S__law_mixed.nd (zAU zHJ (zDB (zDA (K:=K)) (pn 0) (pn 3) (fun _ _=>rfl)) zAH))) zC7)
   (zA6 (pst 5 S__law_mixed.nd (zAU zHJ (zAU zCF (zAU zHJ (zAU zCX (zAU zCF (zAU zCX (pn 4) zAH) zAH) (zAU zCF (zAU zCF (pn 3) (pn 3)) zAH)) zAH) zAH) zAH))
   (zAD (zIL (zKC qB5 qCu qCv zLV (pn 2) (zA0 (zAU zCX (zAU zCF (pn 5) zAH) (zAU zHJ (zAU zCX (zAU zCF (pn 5) zAH) (pn 3)) zAH)) zA5))))))))
   (zAD (zB1 (pn 2))))),(zB8 (zAI (zAP (n:=9) [] (zBZ (n:=8) zA7))
   (zAI (zFH (zH9 (zA1 (zBO zWD (zA1 (de_v 1) (zA1 (zBO zbN (zA1 zAF (zA1 (zBO zCC (zA1 (de_v 0) zA7)) zA7))) zA7))) zA7)) (zAI (zAP (n:=0) [] zAF)
   (zAI (zHO (dt_b (dz (zAG zK5 (de_v 3) (dz (zBO zCC (zA1 (de_v 0) zA7)))))) (zAP (n:=0) [0,3] (zAG zE3 (zAG zEE (de_v 0) (de_v 3)) (dz zAF))) zDO)
   (zAI (zAP (n:=0) [4,3] (zAG zE3 (dz (zAG zCH (dz (zAG zE3 (zAG zBP (dz (zAG zCH (zAG zBP (de_v 4) (dz zAF)) (dz zAF))) (dz (zAG zCH (dz (zAG zCH (de_v 3) (de_v 3))) (dz zAF)))) (dz zAF))) (dz zAF))) (dz zAF)))
   (zW5 2 (n:=1) (zAG zBP (dz (zAG zCH (de_v 5) (dz zAF))) (dz (zAG zE3 (zAG zBP (dz (zAG zCH (de_v 5) (dz zAF))) (de_v 3)) (dz zAF)))))))))
   (zD5 2))) h)⟩
theorem zGQ:Has P w K mg base "_law_net" 1 ["_law_cells","_law_size"] (sp0 K mg 1 zBN):=by
 letI:Kc:=⟨K⟩
 exact dfM B.S.d2 S__law_net (fun _ _ _ _ _ _=>uw2 fun _ _=>rfl) fun hr hu h=>⟨_,(zA6 (pst 2 S__law_net.nd (zB2 (zGY (K:=K) rfl) rfl B.S.e4 qKi (zA0 (zB2 zM0 rfl B.S.e7 qL4 (zA0 (zAU zCF zAH (pn 1)) zA5)) zA5)))
   (zA6 (pst 3 S__law_net.nd (zAU zWN (zBV (zA0 zAH zA5)) (zAU zCF zAH (pn 1))))
   (zA6 (zBQ qIb rfl (zB9 rfl B.S.e7 (zA0 (zAU zCF zAH (pn 1)) zA5)) (zBE (i:=4) S__law_net.nd rfl oi) (zA6 (pst 5 S__law_net.nd (zKC qB5 qF4 qF5 zQT (pn 2) (zA0 zAH zA5)))
   (zA6 (pst 6 S__law_net.nd (zAU zJW (zDB (zDA (K:=K)) (pn 0) (zAU zHJ (pn 4) (zAL (zCA (K:=K)) rfl B.S.e3 qIp (zA0 (pn 0) zA5))) (fun _ _=>rfl)) (zAU zCX zAH (zAU zJW (pn 4) (zAL (zCA (K:=K)) rfl B.S.e3 qIp (zA0 (pn 0) zA5))))))
   (zA6 (pst 7 S__law_net.nd (zKC qB5 qF4 qF5 zQT (pn 2) (zA0 (zAU zHJ (pn 6) (zAL (zCA (K:=K)) rfl B.S.e3 qIp (zA0 (pn 2) zA5))) zA5)))
   (zA6 (zEQ (pn 7) (zER (pn 3) (pn 5) zIB))
   (zAD (zEQ (pn 5) (zER (pn 3) (pn 7) zIB))))))))
   (zAD (zB1 (pn 3)))))),(zB8 (zAI (zAP (n:=1) [1] (zFS (zA1 (zAG zCH (dz zAF) (de_v 1)) zA7)))
   (zAI (zAP (n:=1) [1] (zAG zQ2 (zBZ (n:=0) (zA1 zAF zA7)) (dz (zAG zCH (dz zAF) (de_v 1)))))
   (zAI (zFH (zH9 (zA1 (zAG zCH (dz zAF) (de_v 1)) zA7)) (zAI (zW4 5 2 (dz zAF))
   (zAI (zAP (n:=0) [0,4] (zAG zK4 (zAG zEE (de_v 0) (dz (zAG zE3 (de_v 4) (dz (zBO zCC (zA1 (de_v 0) zA7)))))) (zAG zBP (dz zAF) (dz (zAG zK4 (de_v 4) (dz (zBO zCC (zA1 (de_v 0) zA7))))))))
   (zAI (zW4 7 2 (dz (zAG zE3 (de_v 6) (dz (zBO zCC (zA1 (de_v 2) zA7))))))
   (zAI (zRV 3 (n:=0) (de_v 5) (de_v 7))
   (zRV 3 (n:=0) (de_v 7) (de_v 5)))))))
   (zD5 3)))) h)⟩
theorem zIQ:Has P w K mg base "lengthened" 1 ["choices","ways"] (sp0 K mg 9 zBY):=by
 letI:Kc:=⟨K⟩
 exact dfM B.S.d3 S_lengthened (fun _ _ _ _ _ _=>uw2 fun _ _=>rfl) fun hr hu h=>⟨_,(zA6 (pst 2 S_lengthened.nd (zBV zA5))
   (zA6 (zBQ qIb rfl (zE4 (K:=K) (pn 0)) (zBE (i:=3) S_lengthened.nd rfl oi) (zAD (zIL (zKC qB5 PySem.F.slot_list_extend PySem.F.type_list_extend zXU (pn 2) (zA0 (zCN rfl (cn ["0","1","2","choice","way"] 1 (by kernel_rfl)) (zE4 (K:=K) (pn 1)) (fun _ _ _ _=>(pgn 4)) (fun _ _ _ _=>zCM) (fun _ _ _ _=>(zAU zCX (pn 3) (zBV (zA0 (pn 4) zA5))))) zA5)))))
   (zAD (zB1 (pn 2))))),(zB8 (zAI (zAP (n:=9) [] (zBZ (n:=8) zA7))
   (zAI (zH7 [0] (zE8 (de_v 0)) (zB7 3) (zb9 2 (n:=1) (zCB (n:=1) (zE8 (de_v 1)) (zB7 4) zE7 (zAG zBP (de_v 3) (zBZ (n:=0) (zA1 (de_v 4) zA7))))))
   (zD5 2))) h)⟩
theorem zFX:HasX P w K mg base "choices_among" 3 ["n","ways"] (spE K mg 9 zBB):=by
 letI:Kc:=⟨K⟩
 exact dfX B.S.d4 S_choices_among (fun _ _ _ _ _ _=>uw2 fun _ _=>rfl) fun hr hu h=>⟨_,(zA6 (zGK (zEF u_gt (pn 0) (zCZ rfl B.c_MOST_CHOSEN.2 B.c_MOST_CHOSEN.1) (zBX _)) (zAD (zNF (zVG B.z_TooMany rfl (zA0 zVF zA5)) zDM rfl)) zC7)
   (zA6 (pst 2 S_choices_among.nd (zBV (zA0 (zBV zA5) zA5)))
   (zA6 (zBQ zQH rfl (zB9 rfl B.S.e7 (zA0 (pn 0) zA5)) (zBE (i:=3) S_choices_among.nd rfl oi) (zAD (pst 2 S_choices_among.nd (zBW (zIQ B) (by decide) hr rfl (zA0 (pn 2) (zA0 (pn 1) zA5))))))
   (zAD (zB1 (pn 2)))))),(zB8 (zAI (zHO (dt_b (dz (zAG zK5 (de_v 0) (dz zAF)))) (zKY B.z_TooMany (zA1 zW7 zA7)) zDO)
   (zAI (zAP (n:=10) [] (zBZ (n:=9) (zA1 (zBZ (n:=8) zA7) zA7)))
   (zAI (zFH (zH9 (zA1 (de_v 0) zA7)) (zAP (n:=9) [2,1] (zDV (zA1 (de_v 2) (zA1 (de_v 1) zA7)))))
   (zD5 2)))) h)⟩
theorem zFD:Has P w K mg base "chosen_numbers" 1 ["choice"] (sp0 K mg 1 zBI):=by
 letI:Kc:=⟨K⟩
 exact dfM B.S.d5 zFZ (fun _ _ _ _ _ _=>uw1 fun _=>rfl) fun hr hu h=>⟨_,(zAD (zB1 (zCN rfl (cn ["choice","number"] 1 (by kernel_rfl)) (zB9 rfl B.S.e7 (zA0 (zAL (zCA (K:=K)) rfl B.S.e3 qIp (zA0 (pn 0) zA5)) zA5)) (fun _ _ _ _=>(pgn 1)) (fun _ _ _ _=>zXC (zEF (u_ne hu) (zDB (zDA (K:=K)) (pn 0) (pn 1) (fun _ _=>rfl)) zAH (zBX _))) (fun _ _ _ _=>(pn 1))))),(zB8 (zC3 (n:=1) [0] (zCB (n:=0) (zH9 (zA1 (zBO zCC (zA1 (de_v 0) zA7)) zA7)) (zB7 1) (dt_b (dz (zAG zT0 (zAG zEE (de_v 0) (de_v 1)) (dz zAF)))) (de_v 1))) h)⟩
theorem zOW:Has P w K mg base "part_at" 1 ["table","numbers"] (sp0 K mg 2 zD4):=by
 letI:Kc:=⟨K⟩
 exact dfM B.S.d6 zSQ (fun _ _ _ _ _ _=>uw2 fun _ _=>rfl) fun hr hu h=>⟨_,(zAD (zB1 (zCN rfl (cn ["table","numbers","i"] 1 (by kernel_rfl)) (zE4 (K:=K) (pn 1)) (fun _ _ _ _=>(pgn 2)) (fun _ _ _ _=>zCM) (fun _ _ _ _=>(zCN rfl (cn ["table","1","i","j"] 1 (by kernel_rfl)) (zE4 (K:=K) (pn 1)) (fun _ _ _ _=>(pgn 3)) (fun _ _ _ _=>zCM) (fun _ _ _ _=>(zDB (zDA (K:=K)) (zDB (zDA (K:=K)) (pn 0) (pn 2) (fun _ _=>rfl)) (pn 3) (fun _ _=>rfl)))))))),(zB8 (zC3 (n:=2) [1,0] (zCB (n:=1) (zE8 (de_v 1)) (zB7 2) zE7 (zCB (n:=0) (zE8 (de_v 1)) (zB7 3) zE7 (zAG zEE (zAG zEE (de_v 0) (de_v 2)) (de_v 3))))) h)⟩
theorem zHL:Has P w K mg base "chosen_part" 2 ["table","choice"] (sp0 K mg 2 zBM):=by
 letI:Kc:=⟨K⟩
 exact dfM B.S.d7 S_chosen_part (fun _ _ _ _ _ _=>uw2 fun _ _=>rfl) fun hr hu h=>⟨_,(zA6 (pst 2 S_chosen_part.nd (zBW (zFD B) (by decide) hr rfl (zA0 (pn 1) zA5)))
   (zA6 (pst 3 S_chosen_part.nd (zBW (zOW B) (by decide) hr rfl (zA0 (pn 0) (zA0 (pn 2) zA5))))
   (zA6 (zBQ qIb rfl (zNJ (K:=K) rfl B.S.e1 (zA0 (pn 2) zA5)) (zQD (K:=K) rfl (zG4 (zBE (i:=4) S_chosen_part.nd rfl oi) (zG4 (zBE (i:=5) S_chosen_part.nd rfl oi) zQC))) (zAD (zEQ (zIO (zEF (u_eq hu) (zDB (zDA (K:=K)) (pn 1) (pn 5) (fun _ _=>rfl)) zAH (zBX _)) zAH zAH) (zER (zDB (zDA (K:=K)) (pn 3) (pn 4) (fun _ _=>rfl)) (pn 4) zIB))))
   (zAD (zB1 (pn 3)))))),(zB8 (zAI (zAP (n:=1) [1] (zB5 (zA1 (de_v 1) zA7)))
   (zAI (zAP (n:=2) [0,2] (zB5 (zA1 (de_v 0) (zA1 (de_v 2) zA7))))
   (zAI (zH7 [2] (zbB (zA1 (de_v 2) zA7)) (zUU (zG1 4 (zG1 5 zPP)) rfl) (zJD 3 (n:=0) (de_v 4) (de_v 4) (zO0 (dt_b (dz (zAG zOP (zAG zEE (de_v 1) (de_v 5)) (dz zAF)))) zAF zAF)))
   (zD5 3)))) h)⟩
theorem zTN:Has P w K mg base "added" 1 ["one","other"] (sp0 K mg 1 zIW):=by
 letI:Kc:=⟨K⟩
 exact dfM B.S.d8 zYR (fun _ _ _ _ _ _=>uw2 fun _ _=>rfl) fun hr hu h=>⟨_,(zAD (zB1 (zCN rfl (cn ["one","other","j"] 1 (by kernel_rfl)) (zB9 rfl B.S.e7 (zA0 (zAL (zCA (K:=K)) rfl B.S.e3 qIp (zA0 (pn 0) zA5)) zA5)) (fun _ _ _ _=>(pgn 2)) (fun _ _ _ _=>zCM) (fun _ _ _ _=>(zAU zYZ (zDB (zDA (K:=K)) (pn 0) (pn 2) (fun _ _=>rfl)) (zDB (zDA (K:=K)) (pn 1) (pn 2) (fun _ _=>rfl))))))),(zB8 (zC3 (n:=1) [0,1] (zCB (n:=0) (zH9 (zA1 (zBO zCC (zA1 (de_v 0) zA7)) zA7)) (zB7 2) zE7 (zAG zV8 (zAG zEE (de_v 0) (de_v 2)) (zAG zEE (de_v 1) (de_v 2))))) h)⟩
theorem zGO:Has P w K mg base "less_leaders" 2 ["row","leaders"] (sp0 K mg 0 zBG):=by
 letI:Kc:=⟨K⟩
 exact dfM B.S.d9 S_less_leaders (fun _ _ _ _ _ _=>uw2 fun _ _=>rfl) fun hr hu h=>⟨_,(zA6 (pst 2 S_less_leaders.nd (pn 0))
   (zA6 (zBQ qIb rfl (zE4 (K:=K) (pn 1)) (zBE (i:=3) S_less_leaders.nd rfl oi) (zAD (zGK (zEF (u_eq hu) (zDB (zDA (K:=K)) (pn 2) (zKC qB5 qEe PySem.F.type_list_index zXS (pn 3) (zA0 zAH zA5)) (fun _ _=>rfl)) zAH (zBX _)) (zAD (pst 2 S_less_leaders.nd (zBW (zTN B) (by decide) hr rfl (zA0 (pn 2) (zA0 (pn 3) zA5))))) zC7)))
   (zAD (zB1 (pn 2))))),(zB8 (zAI (zAP (n:=0) [0] (de_v 0))
   (zAI (zH7 [1] (zE8 (de_v 1)) (zB7 3) (zHO (dt_b (dz (zAG zOP (zAG zEE (de_v 2) (dz (zbH zT1 (de_v 3) (zA1 zAF zA7)))) (dz zAF)))) (zAP (n:=1) [2,3] (zB5 (zA1 (de_v 2) (zA1 (de_v 3) zA7)))) zDO))
   (zD5 2))) h)⟩
theorem zFW:Has P w K mg base "greatest_part" 3 ["table"] (sp0 K mg 9 zC9):=by
 letI:Kc:=⟨K⟩
 exact dfM B.S.d10 S_greatest_part (fun _ _ _ _ _ _=>uw1 fun _=>rfl) fun hr hu h=>⟨_,(zA6 (pst 1 S_greatest_part.nd (zBV zA5))
   (zA6 (pst 2 S_greatest_part.nd (zBV zA5))
   (zA6 (zBQ qIb rfl (zNJ (K:=K) rfl B.S.e1 (zA0 (pn 0) zA5)) (zQD (K:=K) rfl (zG4 (zBE (i:=3) S_greatest_part.nd rfl oi) (zG4 (zBE (i:=4) S_greatest_part.nd rfl oi) zQC))) (zA6 (pst 5 S_greatest_part.nd (zBW (zGO B) (by decide) hr rfl (zA0 (pn 4) (zA0 (pn 2) zA5))))
   (zAD (zGK (zEF (u_in (K:=K)) zAH (pn 5) rfl) (zA6 (zIL (zKC qB5 qCu qCv zLV (pn 1) (zA0 (pn 3) zA5)))
   (zAD (zIL (zKC qB5 qCu qCv zLV (pn 2) (zA0 (pn 5) zA5))))) zC7))))
   (zAD (zB1 (pn 1)))))),(zB8 (zAI (zAP (n:=9) [] (zBZ (n:=8) zA7))
   (zAI (zAP (n:=9) [] (zBZ (n:=8) zA7))
   (zAI (zH7 [0] (zbB (zA1 (de_v 0) zA7)) (zUU (zG1 3 (zG1 4 zPP)) rfl) (zAI (zRT 5 2 [4] (zB5 (zA1 (de_v 4) (zA1 (de_v 2) zA7))))
   (zHO (dt_b (dz (zAG zc9 (dz zAF) (de_v 5)))) (zAI (zW5 1 (n:=0) (de_v 3))
   (zYI 2 [5] (de_v 5))) zDO)))
   (zD5 1)))) h)⟩
theorem zOV:Has P w K mg base "rest_of" 4 ["table"] (sp0 K mg 0 zCS):=by
 letI:Kc:=⟨K⟩
 exact dfM B.S.d11 zSP (fun _ _ _ _ _ _=>uw1 fun _=>rfl) fun hr hu h=>⟨_,(zAD (zB1 (zAU zc0 (zAL (zCA (K:=K)) rfl B.S.e3 qIp (zA0 (pn 0) zA5)) (zAL (zCA (K:=K)) rfl B.S.e3 qIp (zA0 (zBW (zFW B) (by decide) hr rfl (zA0 (pn 0) zA5)) zA5))))),(zB8 (zC3 (n:=0) [0] (zAG zZE (dz (zBO zCC (zA1 (de_v 0) zA7))) (dz (zBO zCC (zA1 (zAJ (zB5 (zA1 (de_v 0) zA7))) zA7))))) h)⟩
theorem zCI:HasX P w K mg base "counts_by_rests" 5 ["table","ways"] (spE K mg 1 zAT):=by
 letI:Kc:=⟨K⟩
 exact dfX B.S.d12 S_counts_by_rests (fun _ _ _ _ _ _=>uw2 fun _ _=>rfl) fun hr hu h=>⟨_,(zA6 (pst 2 S_counts_by_rests.nd (zKD (zFX B) (by decide) hr zDM rfl (zA0 (zAL (zCA (K:=K)) rfl B.S.e3 qIp (zA0 (pn 0) zA5)) (zA0 (pn 1) zA5))))
   (zA6 (pst 3 S_counts_by_rests.nd (zCN rfl (cn ["table","1","2","3","choice"] 1 (by kernel_rfl)) (zE4 (K:=K) (pn 2)) (fun _ _ _ _=>(pgn 4)) (fun _ _ _ _=>zCM) (fun _ _ _ _=>(zBW (zOV B) (by decide) hr rfl (zA0 (zBW (zHL B) (by decide) hr rfl (zA0 (pn 0) (zA0 (pn 4) zA5))) zA5)))))
   (zAD (zB1 (zCN rfl (cn ["0","1","2","rests","k"] 1 (by kernel_rfl)) (zB9 rfl B.S.e7 (zA0 (zAU zCX (zAL (zaH rfl) rfl B.S.e5 boot_max (zA0 (pn 3) zA5)) zAH) zA5)) (fun _ _ _ _=>(pgn 4)) (fun _ _ _ _=>zCM) (fun _ _ _ _=>(zKC qB5 qEf PySem.F.type_list_count zXT (pn 3) (zA0 (pn 4) zA5)))))))),(zB8 (zAI (zAP (n:=9) [1,0] (zF0 (zA1 (zBO zCC (zA1 (de_v 0) zA7)) (zA1 (de_v 1) zA7))))
   (zAI (zAP (n:=1) [2,0] (zCB (n:=0) (zE8 (de_v 2)) (zB7 4) zE7 (zDV (zA1 (zAJ (zDV (zA1 (de_v 0) (zA1 (de_v 4) zA7)))) zA7))))
   (zC3 (n:=1) [3] (zCB (n:=0) (zH9 (zA1 (zAJ (zAG zBP (dz (zBO zYN (zA1 (de_v 3) zA7))) (dz zAF))) zA7)) (zB7 4) zE7 (zbH zT2 (de_v 3) (zA1 (de_v 4) zA7)))))) h)⟩
theorem zCQ:HasX P w K mg base "arrowed_counts" 6 ["table"] (spE K mg 1 zAR):=by
 letI:Kc:=⟨K⟩
 exact dfX B.S.d13 zG0 (fun _ _ _ _ _ _=>uw1 fun _=>rfl) fun hr hu h=>⟨_,(zAD (zB1 (zKD (zCI B) (by decide) hr zDM rfl (zA0 (pn 0) (zA0 (zCZ (v:=.ref B.u_ARROWED_WAYS) rfl B.c_ARROWED_WAYS.2 rfl) zA5))))),(zB8 (zC3 (n:=1) [0] (zF0 (zA1 (de_v 0) (zA1 (zMA B.c_ARROWED_WAYS.1) zA7)))) h)⟩
theorem zFM:Has P w K mg base "places_in" 1 ["net"] (sp0 K mg 0 zB3):=by
 letI:Kc:=⟨K⟩
 exact dfM B.S.d14 zMU (fun _ _ _ _ _ _=>uw1 fun _=>rfl) fun hr hu h=>⟨_,(zAD (zB1 (zAU zJW (zAL (zCA (K:=K)) rfl B.S.e3 qIp (zA0 (pn 0) zA5)) (zCZ rfl B.c_SEATS.2 B.c_SEATS.1)))),(zB8 (zC3 (n:=0) [0] (zAG zK4 (dz (zBO zCC (zA1 (de_v 0) zA7))) (dz zAF))) h)⟩
theorem zKE:Has P w K mg base "join_ends" 1 ["ties","one","other"] (spW0 K mg 0 1 0 zB4):=by
 letI:Kc:=⟨K⟩
 exact dfW B.S.d15 S_join_ends (fun _ _ _ _ _ _=>uw3 fun _ _ _=>rfl) fun hr hu h=>⟨_,(zA6 (pst 3 S_join_ends.nd (zDB (zDA (K:=K)) (pn 0) (pn 1) (fun _ _=>rfl)))
   (zA6 (pst 4 S_join_ends.nd (zDB (zDA (K:=K)) (pn 0) (pn 2) (fun _ _=>rfl)))
   (zA6 (zEQ zFL (zER (pn 0) (pn 1) zIB))
   (zA6 (zEQ zFL (zER (pn 0) (pn 2) zIB))
   (zA6 (zGK (zEF (u_eq hu) (pn 3) (pn 2) (zBX _)) (zAD (zB1 zAH)) zC7)
   (zA6 (zEQ (pn 4) (zER (pn 0) (pn 3) zIB))
   (zA6 (zEQ (pn 3) (zER (pn 0) (pn 4) zIB))
   (zAD (zB1 zAH))))))))),(zQ0 (zEZ (zD6 (L:=0) (zAP (n:=0) [0,1] (zAG zEE (zbD 0) (de_v 1))))
   (zEZ (zD6 (L:=0) (zAP (n:=0) [0,2] (zAG zEE (zbD 0) (de_v 2))))
   (zEZ (zD6 (L:=0) (zG9 0 (n:=0) (de_v 1) zFR))
   (zEZ (zD6 (L:=0) (zG9 0 (n:=0) (de_v 2) zFR))
   (zEZ (zcX (dt_b (dz (zAG zOP (de_v 3) (de_v 2)))) (zRW (dz zAF)) (zD6 (L:=0) zDO))
   (zEZ (zD6 (L:=0) (zG9 0 (n:=0) (de_v 3) (de_v 4)))
   (zEZ (zD6 (L:=0) (zG9 0 (n:=0) (de_v 4) (de_v 3)))
   (zRW (dz zAF))))))))) h)⟩
theorem zQM:Has P w K mg base "joined" 1 ["way","seat"] (sp0 K mg 0 zCK):=by
 letI:Kc:=⟨K⟩
 exact dfM B.S.d16 zUQ (fun _ _ _ _ _ _=>uw2 fun _ _=>rfl) fun hr hu h=>⟨_,(zAD (zB1 (zAU zYZ (pn 1) (zAU zCX (pn 0) zAH)))),(zB8 (zC3 (n:=0) [1,0] (zAG zV8 (de_v 1) (zAG zBP (de_v 0) (dz zAF)))) h)⟩
theorem zIR:Has P w K mg base "join_place" 2 ["ties","place","way"] (spW0 K mg 0 1 0 zBA):=by
 letI:Kc:=⟨K⟩
 exact dfW B.S.d17 S_join_place (fun _ _ _ _ _ _=>uw3 fun _ _ _=>rfl) fun hr hu h=>⟨_,(zA6 (pst 3 S_join_place.nd zAH)
   (zA6 (zBQ qIb rfl (zB9 rfl B.S.e7 (zA0 (zCZ rfl B.c_SEATS.2 B.c_SEATS.1) zA5)) (zBE (i:=4) S_join_place.nd rfl oi) (zA6 (pst 5 S_join_place.nd (zBW (zQM B) (by decide) hr rfl (zA0 (pn 2) (zA0 (pn 4) zA5))))
   (zAD (zGK (zEF u_lt (pn 4) (pn 5) (zBX _)) (zAD (pst 3 S_join_place.nd (zAU zCX (pn 3) (zBW (zKE B) (by decide) hr rfl (zA0 (pn 0) (zA0 (zAU zCX (zAU zCF (pn 1) (zCZ rfl B.c_SEATS.2 B.c_SEATS.1)) (pn 4)) (zA0 (zAU zCX (zAU zCF (pn 1) (zCZ rfl B.c_SEATS.2 B.c_SEATS.1)) (pn 5)) zA5))))))) zC7))))
   (zAD (zB1 (pn 3))))),(zQ0 (zEZ (zD6 (L:=0) (zAP (n:=0) [] zAF))
   (zEZ (zD6 (L:=0) (zFH (zH9 (zA1 zAF zA7)) (zAI (zAP (n:=0) [2,4] (zB5 (zA1 (de_v 2) (zA1 (de_v 4) zA7))))
   (zHO (dt_b (dz (zAG zK5 (de_v 4) (de_v 5)))) (zYJ 3 0 (zA1 (zAJ (zAG zBP (dz (zAG zCH (de_v 1) (dz zAF))) (de_v 4))) (zA1 (zAJ (zAG zBP (dz (zAG zCH (de_v 1) (dz zAF))) (de_v 5))) zA7))) zDO))))
   (zRW (de_v 3)))) h)⟩
theorem zGP:Has P w K mg base "count_at" 1 ["counts","k"] (sp0 K mg 0 zBS):=by
 letI:Kc:=⟨K⟩
 exact dfM B.S.d18 zPG (fun _ _ _ _ _ _=>uw2 fun _ _=>rfl) fun hr hu h=>⟨_,(zAD (zB1 (zIO (zEF u_lt (pn 1) (zAL (zCA (K:=K)) rfl B.S.e3 qIp (zA0 (pn 0) zA5)) (zBX _)) (zDB (zDA (K:=K)) (pn 0) (pn 1) (fun _ _=>rfl)) zAH))),(zB8 (zC3 (n:=0) [1,0] (zO0 (dt_b (dz (zAG zK5 (de_v 1) (dz (zBO zCC (zA1 (de_v 0) zA7)))))) (zAG zEE (de_v 0) (de_v 1)) zAF)) h)⟩
theorem zQL:Has P w K mg base "summed" 2 ["one","other"] (sp0 K mg 2 zD2):=by
 letI:Kc:=⟨K⟩
 exact dfM B.S.d19 S_summed (fun _ _ _ _ _ _=>uw2 fun _ _=>rfl) fun hr hu h=>⟨_,(zA6 (pst 2 S_summed.nd (zAL (zHC rfl) rfl B.S.e5 boot_max (zA0 (zAL (zCA (K:=K)) rfl B.S.e3 qIp (zA0 (pn 0) zA5)) (zA0 (zAL (zCA (K:=K)) rfl B.S.e3 qIp (zA0 (pn 1) zA5)) zA5))))
   (zAD (zB1 (zCN rfl (cn ["one","other","2","k"] 1 (by kernel_rfl)) (zB9 rfl B.S.e7 (zA0 (pn 2) zA5)) (fun _ _ _ _=>(pgn 3)) (fun _ _ _ _=>zCM) (fun _ _ _ _=>(zAU zCX (zBW (zGP B) (by decide) hr rfl (zA0 (pn 0) (zA0 (pn 3) zA5))) (zBW (zGP B) (by decide) hr rfl (zA0 (pn 1) (zA0 (pn 3) zA5))))))))),(zB8 (zAI (zAP (n:=0) [0,1] (zBO zWD (zA1 (zBO zCC (zA1 (de_v 0) zA7)) (zA1 (zBO zCC (zA1 (de_v 1) zA7)) zA7))))
   (zC3 (n:=2) [0,1,2] (zCB (n:=1) (zH9 (zA1 (de_v 2) zA7)) (zB7 3) zE7 (zAG zBP (zB5 (zA1 (de_v 0) (zA1 (de_v 3) zA7))) (zB5 (zA1 (de_v 1) (zA1 (de_v 3) zA7))))))) h)⟩
theorem zFV:Has P w K mg base "without_place" 3 ["counted","place"] (sp0 K mg 2 zAN):=by
 letI:Kc:=⟨K⟩
 exact dfM B.S.d20 S_without_place (fun _ _ _ _ _ _=>uw2 fun _ _=>rfl) fun hr hu h=>⟨_,(zA6 (pst 2 S_without_place.nd zTI)
   (zA6 (zBQ qIb rfl (zZX (pn 0)) (zBE (i:=3) S_without_place.nd rfl oi) (zAD (zBQ qIb rfl (zE4 (K:=K) (zCZ (v:=.ref B.u_ALL_WAYS) rfl B.c_ALL_WAYS.2 rfl)) (zBE (i:=4) S_without_place.nd rfl oi) (zA6 (pst 5 S_without_place.nd (zB2 (zGY (K:=K) rfl) rfl B.S.e4 qKi (zA0 (pn 3) zA5)))
   (zA6 (pst 6 S_without_place.nd (zBW (zIR B) (by decide) hr rfl (zA0 (pn 5) (zA0 (pn 1) (zA0 (pn 4) zA5)))))
   (zA6 (pst 7 S_without_place.nd (zTK (zRD hr) (pn 2) (zB2 (zNQ (K:=K)) rfl B.S.e10 qLc (zA0 (pn 5) zA5)) (zBV zA5) ⟨rfl,rfl,rfl,rfl⟩))
   (zAD (zXD (zRD hr) (pn 2) (zB2 (zNQ (K:=K)) rfl B.S.e10 qLc (zA0 (pn 5) zA5)) (zBW (zQL B) (by decide) hr rfl (zA0 (pn 7) (zA0 (zAU zCX (zAU zWN (zBV (zA0 zAH zA5)) (pn 6)) (zQF (zRD hr) (pn 0) (pn 3) (fun _ _=>rfl))) zA5))) rfl))))))))
   (zAD (zB1 (pn 2))))),(zB8 (zAI (zAP (n:=2) [] (zYM (n:=1)))
   (zAI (zH7 [0] (zcY (de_v 0)) (zB7 3) (zH7 [] (zE8 (zMA B.c_ALL_WAYS.1)) (zB7 4) (zAI (zAP (n:=1) [3] (zBO zMK (zA1 (de_v 3) zA7)))
   (zAI (zUD (k:=0) 6 5 (zA1 (de_v 1) (zA1 (de_v 4) zA7)))
   (zRS 7 2 (zYL (de_v 2) (zBO zOB (zA1 (de_v 5) zA7)) (zBZ (n:=8) zA7)) (zBO zOB (zA1 (de_v 5) zA7)) (n:=2) (zB5 (zA1 (de_v 7) (zA1 (zAJ (zAG zBP (zAG zQ2 (zBZ (n:=0) (zA1 zAF zA7)) (de_v 6)) (zbE (de_v 0) (de_v 3)))) zA7))))))))
   (zD5 2))) h)⟩
theorem zDI:HasD P w K mg base "counts_of" 4 ["net","order"] (spE K mg 1 zAS):=by
 letI:Kc:=⟨K⟩
 exact dfD B.S.d21 S_counts_of rfl rfl rfl rfl rfl (by decide) fun hr hu h=>⟨_,(zA6 (zGK (zEF u_gt (zBW (zFM B) (by decide) hr rfl (zA0 (pn 0) zA5)) (zCZ rfl B.c_MOST_CHOSEN.2 B.c_MOST_CHOSEN.1) (zBX _)) (zAD (zNF (zVG B.z_TooMany rfl (zA0 zVF zA5)) zDM rfl)) zC7)
   (zA6 (pst 2 S_counts_of.nd (zIO (zEF zVI (pn 1) zFL (zBX _)) (zB2 (zGY (K:=K) rfl) rfl B.S.e4 qKi (zA0 (zB2 zM0 rfl B.S.e7 qL4 (zA0 (zBW (zFM B) (by decide) hr rfl (zA0 (pn 0) zA5)) zA5)) zA5)) (pn 1)))
   (zA6 (pst 3 S_counts_of.nd (zTJ (zRD hr) (zB2 (zNQ (K:=K)) rfl B.S.e10 qLc (zA0 (pn 0) zA5)) (zBV (zA0 zAH zA5))))
   (zA6 (zBQ zQH rfl (zE4 (K:=K) (pn 2)) (zBE (i:=4) S_counts_of.nd rfl oi) (zAD (pst 3 S_counts_of.nd (zBW (zFV B) (by decide) hr rfl (zA0 (pn 3) (zA0 (pn 4) zA5))))))
   (zAD (zB1 (zQF (zRD hr) (pn 3) (zB2 (zNQ (K:=K)) rfl B.S.e10 qLc (zA0 (zCN rfl (cn ["0","1","2","3","4","end"] 1 (by kernel_rfl)) (zE4 (K:=K) (pn 0)) (fun _ _ _ _=>(pgn 5)) (fun _ _ _ _=>zCM) (fun _ _ _ _=>zFL)) zA5)) (fun _ _=>rfl)))))))),(zB8 (zAI (zHO (dt_b (dz (zAG zK5 (zDV (zA1 (de_v 0) zA7)) (dz zAF)))) (zKY B.z_TooMany (zA1 zW7 zA7)) zDO)
   (zAI (zAP (n:=0) [1,0] (zO0 (dt_b (dz (zAG zZF (de_v 1) (dz zFR)))) (zAJ (zFS (zA1 (zDV (zA1 (de_v 0) zA7)) zA7))) (de_v 1)))
   (zAI (zAP (n:=2) [0] (zYK (n:=1) (zBO zOB (zA1 (de_v 0) zA7)) (zBZ (n:=0) (zA1 zAF zA7))))
   (zAI (zH7 [2] (zE8 (de_v 2)) (zB7 4) (zAP (n:=2) [3,4] (zDV (zA1 (de_v 3) (zA1 (de_v 4) zA7)))))
   (zRU 3 (zBO zOB (zA1 (zAJ (zCB (n:=0) (zE8 (de_v 0)) (zB7 5) zE7 zFR)) zA7))))))) h)⟩
theorem zDH:HasX P w K mg base "table_counts" 6 ["table"] (spE K mg 1 zAY):=by
 letI:Kc:=⟨K⟩
 exact dfX B.S.d22 zHS (fun _ _ _ _ _ _=>uw1 fun _=>rfl) fun hr hu h=>⟨_,(zAD (zB1 (zKD (zCI B) (by decide) hr zDM rfl (zA0 (pn 0) (zA0 (zCZ (v:=.ref B.u_ALL_WAYS) rfl B.c_ALL_WAYS.2 rfl) zA5))))),(zB8 (zC3 (n:=1) [0] (zF0 (zA1 (de_v 0) (zA1 (zMA B.c_ALL_WAYS.1) zA7)))) h)⟩
theorem zBL:Has P w K mg base "_law_refused" 7 ["_law_way","_law_thing","_law_order"] (sp0 K mg 0 zAO):=by
 letI:Kc:=⟨K⟩
 exact dfM B.S.d23 S__law_refused (fun _ _ _ _ _ _=>uw3 fun _ _ _=>rfl) fun hr hu h=>⟨_,(zA6 (pst 3 S__law_refused.nd (zBV zA5))
   (zA6 (zTF (i:=4) (zIK (zZV (zEF zVI (pn 2) zFL (zBX _)) (zIK (zNE (zKB (zOL (zO9 B.v_counts_of.cl) (zDI B) B.v_counts_of.gm (by decide) (zGH (zO9 B.v_table_counts.cl) (zDH B) B.v_table_counts.gm (by decide) (zGH (zO9 B.v_arrowed_counts.cl) (zCQ B) B.v_arrowed_counts.gm (by decide) zMZ))) hr rfl (by first|exact .inl rfl|exact .inr rfl|decide) (zA0 (pn 1) zA5)))) (zIK (zNE (zKB (zGH (zO9 B.v_counts_of.cl) (HasD.full (zDI B)) B.v_counts_of.gm (by decide) zMZ) hr rfl (by first|exact .inl rfl|exact .inr rfl|decide) (zA0 (pn 1) (zA0 (pn 2) zA5))))))) ⟨rfl,rfl⟩ (qHo B.n_RoundError.gm) rfl S__law_refused.nd rfl rfl (fun _=>(zAD (pst 3 S__law_refused.nd (zBV (zA0 (zAL zF4 rfl B.S.e2 qJn (zA0 (pn 4) (zA0 (zGM rfl B.n_TooMany.gm) zA5))) (zA0 (zAL zF4 rfl B.S.e2 qJn (zA0 (pn 4) (zA0 (zXG (v:=.ty "ValueError") rfl B.S.e0 zHD rfl) zA5))) (zA0 (zAL zF4 rfl B.S.e2 qJn (zA0 (pn 4) (zA0 (zGM rfl B.n_NoNet.gm) zA5))) (zA0 (zAL zF4 rfl B.S.e2 qJn (zA0 (pn 4) (zA0 (zGM rfl B.n_NoPivot.gm) zA5))) zA5)))))))))
   (zAD (zB1 (zLR (u_eq hu) (pn 3) (zBV (zA0 zIP (zA0 zIP (zA0 zIP (zA0 zIP zA5))))) (zBX _)))))),(zB8 (zAI (zAP (n:=9) [] (zBZ (n:=8) zA7))
   (zAI (zb8 (te:=fun E'=>(tIf _ (zN0 (([("counts_of",true,zAS),("table_counts",false,zAY),("arrowed_counts",false,zAR)]:List (Str×Bool×Mi.FM)).map fun p=>((clK K p.1).getD 0,spE K mg 1 p.2.2,if p.2.1=true then[.non]else[])) 0 E' _) (zN0 (([("counts_of",false,zAS)]:List (Str×Bool×Mi.FM)).map fun p=>((clK K p.1).getD 0,spE K mg 1 p.2.2,if p.2.1=true then[.non]else[])) 0 E' _))) none [2,0,1] B.q4 (fun _=>(zO0 (dt_b (dz (zAG zZF (de_v 2) (dz zFR)))) (zAJ (n:=1) (zO2 0 (zA1 (de_v 1) zA7))) (zAJ (n:=1) (zO2 0 (zA1 (de_v 1) (zA1 (de_v 2) zA7)))))) (zAP (n:=1) [4] (zBZ (n:=0) (zA1 (zNZ B.q0.1 B.q0.2 (de_v 4)) (zA1 (zNZ B.q1.1 B.q1.2 (de_v 4)) (zA1 (zNZ B.q2.1 B.q2.2 (de_v 4)) (zA1 (zNZ B.q3.1 B.q3.2 (de_v 4)) zA7)))))))
   (zC3 (n:=0) [3] (zAG zOP (de_v 3) (zBZ (n:=0) (zA1 zJF (zA1 zJF (zA1 zJF (zA1 zJF zA7))))))))) h)⟩
theorem zaA{f:Addr}{fd:qIe}(F:Fun K "law" "law" (top 40) f fd):FnOk P w K mg base CX0 8 f fd ["_law_script"] (zHT K):=by
 letI:Kc:=⟨K⟩
 refine(F.ok S_law (sp:=sp0 K mg 0 zKI) (fun vs H Q E h=>zIE h) (fun cdv A outer s H vs Q E hr h=>?_)).imp (zTW zTV);have hu:=hr.units;exact⟨_,(zA6 (pst 1 S_law.nd (zBW (zIS B) (by decide) hr rfl (zA0 (pn 0) (zA0 zAH zA5))))
   (zA6 (pst 2 S_law.nd (zAU zCX zAH (zAU zHJ (zDB (zDA (K:=K)) (pn 1) zAH (fun _ _=>rfl)) zAH)))
   (zA6 (pst 3 S_law.nd (zBW (zGQ B) (by decide) hr rfl (zA0 (zG5 (u_sl (K:=K)) (pn 1) (zIM zAH) zIN) (zA0 (pn 2) zA5))))
   (zA6 (pst 4 S_law.nd (zBW (zDJ B) (by decide) hr rfl (zA0 (zG5 (u_sl (K:=K)) (pn 1) (zIM zAH) zIN) (zA0 (zAU zCX zAH (zAU zHJ (zAU zJW (zDB (zDA (K:=K)) (pn 1) zAH (fun _ _=>rfl)) zAH) zAH)) (zA0 zIP zA5)))))
   (zA6 (pst 5 S_law.nd (zBV (zA0 (zB2 (zGY (K:=K) rfl) rfl B.S.e4 qKi (zA0 (pn 3) zA5)) (zA0 (zCN rfl (cn ["0","1","2","3","4","5","6","_law_row"] 1 (by kernel_rfl)) (zE4 (K:=K) (pn 4)) (fun _ _ _ _=>(pgn 7)) (fun _ _ _ _=>zCM) (fun _ _ _ _=>(zB2 (zGY (K:=K) rfl) rfl B.S.e4 qKi (zA0 (pn 7) zA5)))) zA5))))
   (zA6 (zGK (pt_w (zTC (zND (pt_m (zBW (zBL B) (by decide) hr rfl (zA0 (zGM rfl B.v_counts_of.gm) (zA0 (pn 3) (zA0 zFL zA5)))))) (zNB (zND (pt_m (zBW (zBL B) (by decide) hr rfl (zA0 (zGM rfl B.v_counts_of.gm) (zA0 (pn 3) (zA0 (zB2 (zY2 rfl) rfl B.S.e4 qKi (zA0 (zB2 zaG rfl B.S.e8 zHP (zA0 (zB2 zM0 rfl B.S.e7 qL4 (zA0 (pn 2) zA5)) zA5)) zA5)) zA5))))))))) (zAD (zB1 zIP)) zC7)
   (zA6 (zGK (pt_w (zTC (zND (pt_m (zBW (zBL B) (by decide) hr rfl (zA0 (zGM rfl B.v_table_counts.gm) (zA0 (pn 4) (zA0 zFL zA5)))))) (zNB (zND (pt_m (zBW (zBL B) (by decide) hr rfl (zA0 (zGM rfl B.v_arrowed_counts.gm) (zA0 (pn 4) (zA0 zFL zA5))))))))) (zAD (zB1 zIP)) zC7)
   (zA6 (zGK (pt_w (zTC (zEF (u_ne hu) (zBV (zA0 (pn 3) (zA0 (pn 4) zA5))) (pn 5) (zBX _)) (zNB (zEF (u_ne hu) (zAL (zY1 rfl) rfl B.S.e9 boot_sum (zA0 (za0 (zDI B) (by decide) hr zRO rfl (zA0 (zBW (zGQ B) (by decide) hr rfl (zA0 (zG5 (u_sl (K:=K)) (pn 1) (zIM zAH) zIN) (zA0 zAH zA5))) zA5)) zA5)) zAH (zBX _))))) (zAD (zB1 zIP)) zC7)
   (zA6 (pst 6 S_law.nd (zBW (zDJ B) (by decide) hr rfl (zA0 (zG5 (u_sl (K:=K)) (pn 1) (zIM zAH) zIN) (zA0 zAH (zA0 zIP zA5)))))
   (zAD (zB1 (zcC (zLR (u_eq hu) (zAL (zY1 rfl) rfl B.S.e9 boot_sum (zA0 (zKD (zDH B) (by decide) hr zRO rfl (zA0 (pn 6) zA5)) zA5)) zAH (zBX _)) (zZZ (zLR (u_eq hu) (zAL (zY1 rfl) rfl B.S.e9 boot_sum (zA0 (zKD (zCQ B) (by decide) hr zRO rfl (zA0 (pn 6) zA5)) zA5)) zAH (zBX _))))))))))))))),(zB8 (zAI (zAP (n:=9) [0] (zB5 (zA1 (de_v 0) (zA1 zAF zA7))))
   (zAI (zAP (n:=1) [1] (zAG zBP (dz zAF) (dz (zAG zE3 (zAG zEE (de_v 1) (dz zAF)) (dz zAF)))))
   (zAI (zAP (n:=1) [2,1] (zB5 (zA1 (zAJ (zUI (de_v 1) (do_e (dz zAF)) zUE)) (zA1 (de_v 2) zA7))))
   (zAI (zAP (n:=2) [1] (zB5 (zA1 (zAJ (zUI (de_v 1) (do_e (dz zAF)) zUE)) (zA1 (zAJ (zAG zBP (dz zAF) (dz (zAG zE3 (dz (zAG zK4 (zAG zEE (de_v 1) (dz zAF)) (dz zAF))) (dz zAF))))) (zA1 zJF zA7)))))
   (zAI (zAP (n:=1) [3,4] (zBZ (n:=0) (zA1 (zAJ (zBO zMK (zA1 (de_v 3) zA7))) (zA1 (zAJ (zCB (n:=1) (zE8 (de_v 4)) (zB7 7) zE7 (zBO zMK (zA1 (de_v 7) zA7)))) zA7))))
   (zAI (zHO (zUC (zNW (dt_m (zB5 (zA1 (zO1 B.v_counts_of.cl) (zA1 (de_v 3) (zA1 zFR zA7)))))) (zNW (dt_m (zB5 (zA1 (zO1 B.v_counts_of.cl) (zA1 (de_v 3) (zA1 (zAJ (zbG (zA1 (de_v 2) zA7))) zA7))))))) (zC3 (n:=0) [] zJF) zDO)
   (zAI (zHO (zUC (zNW (dt_m (zB5 (zA1 (zO1 B.v_table_counts.cl) (zA1 (de_v 4) (zA1 zFR zA7)))))) (zNW (dt_m (zB5 (zA1 (zO1 B.v_arrowed_counts.cl) (zA1 (de_v 4) (zA1 zFR zA7))))))) (zC3 (n:=0) [] zJF) zDO)
   (zAI (zHO (zUC (dt_b (dz (zAG zT0 (zBZ (n:=0) (zA1 (de_v 3) (zA1 (de_v 4) zA7))) (de_v 5)))) (dt_b (dz (zAG zT0 (dz (zBO zS9 (zA1 (zAJ (zS1 (zA1 (zAJ (zB5 (zA1 (zAJ (zUI (de_v 1) (do_e (dz zAF)) zUE)) (zA1 zAF zA7)))) zA7))) zA7))) (dz zAF))))) (zC3 (n:=0) [] zJF) zDO)
   (zAI (zAP (n:=2) [1] (zB5 (zA1 (zAJ (zUI (de_v 1) (do_e (dz zAF)) zUE)) (zA1 zAF (zA1 zJF zA7)))))
   (zC3 (n:=0) [6] (zbI (dz (zAG zOP (dz (zBO zS9 (zA1 (zAJ (zF0 (zA1 (de_v 6) zA7))) zA7))) (dz zAF))) (zAG zOP (dz (zBO zS9 (zA1 (zAJ (zF0 (zA1 (de_v 6) zA7))) zA7))) (dz zAF))))))))))))) h)⟩
end
theorem all_mk{l:qDq}{w:World}{K:qA1}{h:Heap}{mg:Str->Option Value}{fa f24 a_RoundError a_NoNet a_NoPivot a_TooMany a_arrowed_counts a_counts_of a_table_counts:Addr}{dd_RoundError dd_NoNet dd_NoPivot dd_TooMany:Option Addr}{cd_RoundError cd_NoNet cd_NoPivot cd_TooMany:ClassData}{sl_RoundError sl_NoNet sl_NoPivot sl_TooMany:Array (Option Value)}(X:K.In h)(G:h.Ns qI3 mg)(hfa:mg "law" = some (.ref fa))
  {od24 an24:Option Addr} {sl24:Array (Option Value)} {oc24 kV24 dc24 pm24 cd24 ct24:Value} {t2 t3:Tok} {ut0:Addr} {ud0:Option Addr} {un0:Nat} {us0:Array (Option Value)} {tu0_0 tu0_1 tu0_2:Tok} {ut1:Addr} {ud1:Option Addr} {un1:Nat} {us1:Array (Option Value)} {tu1_0 tu1_1:Tok}
  (S:Bd K mg)
  (va_arrowed_counts:qB0 K qI3 "arrowed_counts" = some (some (.ref a_arrowed_counts)))
  (va_counts_of:qB0 K qI3 "counts_of" = some (some (.ref a_counts_of)))
  (va_table_counts:qB0 K qI3 "table_counts" = some (some (.ref a_table_counts)))
  (a24:qB0 K qI3 "law" = some (some (.ref f24)))
  (l24:K.lookup f24=some ⟨oc24,od24,.func (qBb "law" "law" (zAW (top 40)) (zAX (top 40)) (zA3 (top 40)) .none kV24 dc24 pm24 an24 cd24 ct24),sl24⟩)
  (c24:qCb K cd24 "law" = true)
  (k24:qB9 K (.ref f24)=true)
  (y0:qB0 K qI3 "ALL_WAYS" = some (some (.ref ut0)))
  (yl0:K.lookup ut0=some ⟨.type "tuple",ud0,.seq #[.int 0 tu0_0,.int 1 tu0_1,.int 2 tu0_2] un0,us0⟩)
  (y1:qB0 K qI3 "ARROWED_WAYS" = some (some (.ref ut1)))
  (yl1:K.lookup ut1=some ⟨.type "tuple",ud1,.seq #[.int 0 tu1_0,.int 2 tu1_1] un1,us1⟩)
  (y2:qB0 K qI3 "MOST_CHOSEN" = some (some (.int 6 t2)))
  (y3:qB0 K qI3 "SEATS" = some (some (.int 4 t3)))
  (xa_RoundError:qB0 K qI3 "RoundError" = some (some (.ref a_RoundError)))
  (xl_RoundError:K.lookup a_RoundError=some ⟨.type "type",dd_RoundError,.cls cd_RoundError,sl_RoundError⟩)
  (xd_RoundError:xcD a_RoundError cd_RoundError sl_RoundError=true)
  (xn_RoundError:qBt K a_RoundError=some cd_RoundError)
  (xo_RoundError:PySem.W.excTail cd_RoundError.mro=true)
  (xt_RoundError:qBu K (.ref a_RoundError)=some (.type "type"))
  (xg_RoundError:qAv K (.ref a_RoundError) "__getattribute__" = some (some (.builtin "BaseException.__getattribute__")))
  (xh_RoundError:qAv K (.ref a_RoundError) "__getattr__" = some none)
  (xj_RoundError:qCk K a_RoundError=true)
  (xm_RoundError:qAv K (.ref a_RoundError) "__class__" = some (some (.builtin "object.__class__")))
  (xp_RoundError:qDi K a_RoundError (.type "object")=some true)
  (xv_RoundError:qAo K (.ref a_RoundError) (.type "ValueError")=some true)
  (xw_RoundError:qAo K (.ref a_RoundError) (.type "BaseException")=some true)
  (xa_NoNet:qB0 K qI3 "NoNet" = some (some (.ref a_NoNet)))
  (xl_NoNet:K.lookup a_NoNet=some ⟨.type "type",dd_NoNet,.cls cd_NoNet,sl_NoNet⟩)
  (xd_NoNet:xcD a_NoNet cd_NoNet sl_NoNet=true)
  (xn_NoNet:qBt K a_NoNet=some cd_NoNet)
  (xo_NoNet:PySem.W.excTail cd_NoNet.mro=true)
  (xt_NoNet:qBu K (.ref a_NoNet)=some (.type "type"))
  (xg_NoNet:qAv K (.ref a_NoNet) "__getattribute__" = some (some (.builtin "BaseException.__getattribute__")))
  (xh_NoNet:qAv K (.ref a_NoNet) "__getattr__" = some none)
  (xj_NoNet:qCk K a_NoNet=true)
  (xm_NoNet:qAv K (.ref a_NoNet) "__class__" = some (some (.builtin "object.__class__")))
  (xp_NoNet:qDi K a_NoNet (.type "object")=some true)
  (xv_NoNet:qAo K (.ref a_NoNet) (.type "ValueError")=some true)
  (xw_NoNet:qAo K (.ref a_NoNet) (.type "BaseException")=some true)
  (xa_NoPivot:qB0 K qI3 "NoPivot" = some (some (.ref a_NoPivot)))
  (xl_NoPivot:K.lookup a_NoPivot=some ⟨.type "type",dd_NoPivot,.cls cd_NoPivot,sl_NoPivot⟩)
  (xd_NoPivot:xcD a_NoPivot cd_NoPivot sl_NoPivot=true)
  (xn_NoPivot:qBt K a_NoPivot=some cd_NoPivot)
  (xo_NoPivot:PySem.W.excTail cd_NoPivot.mro=true)
  (xt_NoPivot:qBu K (.ref a_NoPivot)=some (.type "type"))
  (xg_NoPivot:qAv K (.ref a_NoPivot) "__getattribute__" = some (some (.builtin "BaseException.__getattribute__")))
  (xh_NoPivot:qAv K (.ref a_NoPivot) "__getattr__" = some none)
  (xj_NoPivot:qCk K a_NoPivot=true)
  (xm_NoPivot:qAv K (.ref a_NoPivot) "__class__" = some (some (.builtin "object.__class__")))
  (xp_NoPivot:qDi K a_NoPivot (.type "object")=some true)
  (xv_NoPivot:qAo K (.ref a_NoPivot) (.type "ValueError")=some true)
  (xw_NoPivot:qAo K (.ref a_NoPivot) (.type "BaseException")=some true)
  (xa_TooMany:qB0 K qI3 "TooMany" = some (some (.ref a_TooMany)))
  (xl_TooMany:K.lookup a_TooMany=some ⟨.type "type",dd_TooMany,.cls cd_TooMany,sl_TooMany⟩)
  (xd_TooMany:xcD a_TooMany cd_TooMany sl_TooMany=true)
  (xn_TooMany:qBt K a_TooMany=some cd_TooMany)
  (xo_TooMany:PySem.W.excTail cd_TooMany.mro=true)
  (xt_TooMany:qBu K (.ref a_TooMany)=some (.type "type"))
  (xg_TooMany:qAv K (.ref a_TooMany) "__getattribute__" = some (some (.builtin "BaseException.__getattribute__")))
  (xh_TooMany:qAv K (.ref a_TooMany) "__getattr__" = some none)
  (xj_TooMany:qCk K a_TooMany=true)
  (xm_TooMany:qAv K (.ref a_TooMany) "__class__" = some (some (.builtin "object.__class__")))
  (xp_TooMany:qDi K a_TooMany (.type "object")=some true)
  (xv_TooMany:qAo K (.ref a_TooMany) (.type "ValueError")=some true)
  (xw_TooMany:qAo K (.ref a_TooMany) (.type "BaseException")=some true)
  (ycg:qFp K (.builtin "object.__class__") "__get__" = some (some (.builtin "getset_descriptor.__get__")))
  (yct:qG6 K (.builtin "object.__class__")=some true)
  (zk_TooMany:qB9 K (.ref a_TooMany)=true)
  (zi_TooMany:qAv K (.ref a_TooMany) "__init__" = some (some (.builtin "ValueError.__init__")))
  (s_TooMany_TooMany:qAo K (.ref a_TooMany) (.ref a_TooMany)=some true)
  (s_RoundError_TooMany:qAo K (.ref a_RoundError) (.ref a_TooMany)=some false)
  (e_RoundError_TooMany:(a_RoundError==a_TooMany)=false)
  (s_NoNet_TooMany:qAo K (.ref a_NoNet) (.ref a_TooMany)=some false)
  (e_NoNet_TooMany:(a_NoNet==a_TooMany)=false)
  (s_NoPivot_TooMany:qAo K (.ref a_NoPivot) (.ref a_TooMany)=some false)
  (e_NoPivot_TooMany:(a_NoPivot==a_TooMany)=false)
  (s_NoNet_NoNet:qAo K (.ref a_NoNet) (.ref a_NoNet)=some true)
  (s_RoundError_NoNet:qAo K (.ref a_RoundError) (.ref a_NoNet)=some false)
  (e_RoundError_NoNet:(a_RoundError==a_NoNet)=false)
  (s_NoPivot_NoNet:qAo K (.ref a_NoPivot) (.ref a_NoNet)=some false)
  (e_NoPivot_NoNet:(a_NoPivot==a_NoNet)=false)
  (s_TooMany_NoNet:qAo K (.ref a_TooMany) (.ref a_NoNet)=some false)
  (e_TooMany_NoNet:(a_TooMany==a_NoNet)=false)
  (s_NoPivot_NoPivot:qAo K (.ref a_NoPivot) (.ref a_NoPivot)=some true)
  (s_RoundError_NoPivot:qAo K (.ref a_RoundError) (.ref a_NoPivot)=some false)
  (e_RoundError_NoPivot:(a_RoundError==a_NoPivot)=false)
  (s_NoNet_NoPivot:qAo K (.ref a_NoNet) (.ref a_NoPivot)=some false)
  (e_NoNet_NoPivot:(a_NoNet==a_NoPivot)=false)
  (s_TooMany_NoPivot:qAo K (.ref a_TooMany) (.ref a_NoPivot)=some false)
  (e_TooMany_NoPivot:(a_TooMany==a_NoPivot)=false)
  (s_RoundError_RoundError:qAo K (.ref a_RoundError) (.ref a_RoundError)=some true)
  (s_NoNet_RoundError:qAo K (.ref a_NoNet) (.ref a_RoundError)=some true)
  (s_NoPivot_RoundError:qAo K (.ref a_NoPivot) (.ref a_RoundError)=some true)
  (s_TooMany_RoundError:qAo K (.ref a_TooMany) (.ref a_RoundError)=some true)
  :∃fd:qIe,(∀(s:qHx)(v:Value),qL6 s fd ⟨[v],[]⟩ [("_law_script",v)])/\∀base:Heap,K.In base->base.Ns qI3 mg->FnOk l.prog w K mg base CX0 8 fa fd ["_law_script"] (zHT K):=by
 have e:=hfa.symm.trans (qBe X G a24);cases e;have c_ALL_WAYS:KTup K ut0 [0,1,2]/\mg "ALL_WAYS" = some (.ref ut0):=⟨zR5 yl0 rfl rfl (by show 3<=sizeLine;decide) ((.cons ⟨_,rfl⟩ (.cons ⟨_,rfl⟩ (.cons ⟨_,rfl⟩ .nil)))),qBe X G y0⟩
 have c_ARROWED_WAYS:KTup K ut1 [0,2]/\mg "ARROWED_WAYS" = some (.ref ut1):=⟨zR5 yl1 rfl rfl (by show 2<=sizeLine;decide) ((.cons ⟨_,rfl⟩ (.cons ⟨_,rfl⟩ .nil))),qBe X G y1⟩
 have c_MOST_CHOSEN:RelV (V.int 6) (.int 6 t2)/\mg "MOST_CHOSEN" = some (.int 6 t2):=⟨⟨_,rfl⟩,qBe X G y2⟩
 have c_SEATS:RelV (V.int 4) (.int 4 t3)/\mg "SEATS" = some (.int 4 t3):=⟨⟨_,rfl⟩,qBe X G y3⟩
 have i_RoundError:Xc.XIs K a_RoundError:=⟨zI7 xl_RoundError xd_RoundError,xg_RoundError,xh_RoundError,xj_RoundError,xm_RoundError,ycg,yct,xp_RoundError⟩
 have i_NoNet:Xc.XIs K a_NoNet:=⟨zI7 xl_NoNet xd_NoNet,xg_NoNet,xh_NoNet,xj_NoNet,xm_NoNet,ycg,yct,xp_NoNet⟩
 have i_NoPivot:Xc.XIs K a_NoPivot:=⟨zI7 xl_NoPivot xd_NoPivot,xg_NoPivot,xh_NoPivot,xj_NoPivot,xm_NoPivot,ycg,yct,xp_NoPivot⟩
 have i_TooMany:Xc.XIs K a_TooMany:=⟨zI7 xl_TooMany xd_TooMany,xg_TooMany,xh_TooMany,xj_TooMany,xm_TooMany,ycg,yct,xp_TooMany⟩
 have v_arrowed_counts:FNm K mg "arrowed_counts" a_arrowed_counts:=⟨zBT va_arrowed_counts,qBe X G va_arrowed_counts⟩
 have v_counts_of:FNm K mg "counts_of" a_counts_of:=⟨zBT va_counts_of,qBe X G va_counts_of⟩
 have v_table_counts:FNm K mg "table_counts" a_table_counts:=⟨zBT va_table_counts,qBe X G va_table_counts⟩
 have n_RoundError:XCls K mg "RoundError" a_RoundError:=⟨zBT xa_RoundError,qBe X G xa_RoundError,i_RoundError⟩
 have n_NoNet:XCls K mg "NoNet" a_NoNet:=⟨zBT xa_NoNet,qBe X G xa_NoNet,i_NoNet⟩
 have n_NoPivot:XCls K mg "NoPivot" a_NoPivot:=⟨zBT xa_NoPivot,qBe X G xa_NoPivot,i_NoPivot⟩
 have n_TooMany:XCls K mg "TooMany" a_TooMany:=⟨zBT xa_TooMany,qBe X G xa_TooMany,i_TooMany⟩
 have z_TooMany:XNo K mg "TooMany" a_TooMany:=⟨n_TooMany,zk_TooMany,zi_TooMany⟩
 have q0_y:(∀c∈(["TooMany"]:List Str),∃C,clK K c=some C/\Xc.XIs K C/\kitV K C (V.ref a_TooMany)=some true):=by
  intro c h;simp only[qA6,qBd,or_false]at h;subst h;exact⟨a_TooMany,zBT xa_TooMany,i_TooMany,(zIY xn_TooMany xt_TooMany s_TooMany_TooMany)⟩
 have q0_n:(∀c∈(["RoundError","NoNet","NoPivot"]:List Str),∃C,clK K c=some C/\Xc.XIs K C/\kitV K C (V.ref a_TooMany)=some false):=by
  intro c h;simp only[qA6,qBd,or_false]at h
  rcases h with rfl|rfl|rfl
  ·exact⟨a_RoundError,zBT xa_RoundError,i_RoundError,(zC4 xn_TooMany xt_TooMany s_RoundError_TooMany e_RoundError_TooMany)⟩
  ·exact⟨a_NoNet,zBT xa_NoNet,i_NoNet,(zC4 xn_TooMany xt_TooMany s_NoNet_TooMany e_NoNet_TooMany)⟩
  ·exact⟨a_NoPivot,zBT xa_NoPivot,i_NoPivot,(zC4 xn_TooMany xt_TooMany s_NoPivot_TooMany e_NoPivot_TooMany)⟩
 have q0:(∀c∈(["TooMany"]:List Str),∃C,clK K c=some C/\Xc.XIs K C/\kitV K C (V.ref a_TooMany)=some true)/\(∀c∈(["RoundError","NoNet","NoPivot"]:List Str),∃C,clK K c=some C/\Xc.XIs K C/\kitV K C (V.ref a_TooMany)=some false):=⟨q0_y,q0_n⟩
 have q1_y:(∀c∈(["RoundError","NoNet","NoPivot","TooMany"]:List Str),∃C,clK K c=some C/\Xc.XIs K C/\kitV K C (V.ty "ValueError")=some true):=by
  intro c h;simp only[qA6,qBd,or_false]at h
  rcases h with rfl|rfl|rfl|rfl
  ·exact⟨a_RoundError,zBT xa_RoundError,i_RoundError,(zEU xv_RoundError)⟩
  ·exact⟨a_NoNet,zBT xa_NoNet,i_NoNet,(zEU xv_NoNet)⟩
  ·exact⟨a_NoPivot,zBT xa_NoPivot,i_NoPivot,(zEU xv_NoPivot)⟩
  ·exact⟨a_TooMany,zBT xa_TooMany,i_TooMany,(zEU xv_TooMany)⟩
 have q1_n:(∀c∈([]:List Str),∃C,clK K c=some C/\Xc.XIs K C/\kitV K C (V.ty "ValueError")=some false):=by
  intro c h;simp only[qA6,qBd,or_false]at h
 have q1:(∀c∈(["RoundError","NoNet","NoPivot","TooMany"]:List Str),∃C,clK K c=some C/\Xc.XIs K C/\kitV K C (V.ty "ValueError")=some true)/\(∀c∈([]:List Str),∃C,clK K c=some C/\Xc.XIs K C/\kitV K C (V.ty "ValueError")=some false):=⟨q1_y,q1_n⟩
 have q2_y:(∀c∈(["NoNet"]:List Str),∃C,clK K c=some C/\Xc.XIs K C/\kitV K C (V.ref a_NoNet)=some true):=by
  intro c h;simp only[qA6,qBd,or_false]at h;subst h;exact⟨a_NoNet,zBT xa_NoNet,i_NoNet,(zIY xn_NoNet xt_NoNet s_NoNet_NoNet)⟩
 have q2_n:(∀c∈(["RoundError","NoPivot","TooMany"]:List Str),∃C,clK K c=some C/\Xc.XIs K C/\kitV K C (V.ref a_NoNet)=some false):=by
  intro c h;simp only[qA6,qBd,or_false]at h
  rcases h with rfl|rfl|rfl
  ·exact⟨a_RoundError,zBT xa_RoundError,i_RoundError,(zC4 xn_NoNet xt_NoNet s_RoundError_NoNet e_RoundError_NoNet)⟩
  ·exact⟨a_NoPivot,zBT xa_NoPivot,i_NoPivot,(zC4 xn_NoNet xt_NoNet s_NoPivot_NoNet e_NoPivot_NoNet)⟩
  ·exact⟨a_TooMany,zBT xa_TooMany,i_TooMany,(zC4 xn_NoNet xt_NoNet s_TooMany_NoNet e_TooMany_NoNet)⟩
 have q2:(∀c∈(["NoNet"]:List Str),∃C,clK K c=some C/\Xc.XIs K C/\kitV K C (V.ref a_NoNet)=some true)/\(∀c∈(["RoundError","NoPivot","TooMany"]:List Str),∃C,clK K c=some C/\Xc.XIs K C/\kitV K C (V.ref a_NoNet)=some false):=⟨q2_y,q2_n⟩
 have q3_y:(∀c∈(["NoPivot"]:List Str),∃C,clK K c=some C/\Xc.XIs K C/\kitV K C (V.ref a_NoPivot)=some true):=by
  intro c h;simp only[qA6,qBd,or_false]at h;subst h;exact⟨a_NoPivot,zBT xa_NoPivot,i_NoPivot,(zIY xn_NoPivot xt_NoPivot s_NoPivot_NoPivot)⟩
 have q3_n:(∀c∈(["RoundError","NoNet","TooMany"]:List Str),∃C,clK K c=some C/\Xc.XIs K C/\kitV K C (V.ref a_NoPivot)=some false):=by
  intro c h;simp only[qA6,qBd,or_false]at h
  rcases h with rfl|rfl|rfl
  ·exact⟨a_RoundError,zBT xa_RoundError,i_RoundError,(zC4 xn_NoPivot xt_NoPivot s_RoundError_NoPivot e_RoundError_NoPivot)⟩
  ·exact⟨a_NoNet,zBT xa_NoNet,i_NoNet,(zC4 xn_NoPivot xt_NoPivot s_NoNet_NoPivot e_NoNet_NoPivot)⟩
  ·exact⟨a_TooMany,zBT xa_TooMany,i_TooMany,(zC4 xn_NoPivot xt_NoPivot s_TooMany_NoPivot e_TooMany_NoPivot)⟩
 have q3:(∀c∈(["NoPivot"]:List Str),∃C,clK K c=some C/\Xc.XIs K C/\kitV K C (V.ref a_NoPivot)=some true)/\(∀c∈(["RoundError","NoNet","TooMany"]:List Str),∃C,clK K c=some C/\Xc.XIs K C/\kitV K C (V.ref a_NoPivot)=some false):=⟨q3_y,q3_n⟩
 have q4:(∀c∈(["RoundError","NoNet","NoPivot","TooMany"]:List Str),∃C,clK K c=some C/\qCp K (.ref C) (.ref a_RoundError)=some true):=by
  intro c h;simp only[qA6,qBd,or_false]at h
  rcases h with rfl|rfl|rfl|rfl
  ·exact⟨a_RoundError,zBT xa_RoundError,zEW xw_RoundError xn_RoundError xt_RoundError s_RoundError_RoundError⟩
  ·exact⟨a_NoNet,zBT xa_NoNet,zEW xw_RoundError xn_RoundError xt_RoundError s_NoNet_RoundError⟩
  ·exact⟨a_NoPivot,zBT xa_NoPivot,zEW xw_RoundError xn_RoundError xt_RoundError s_NoPivot_RoundError⟩
  ·exact⟨a_TooMany,zBT xa_TooMany,zEW xw_RoundError xn_RoundError xt_RoundError s_TooMany_RoundError⟩
 refine⟨qBb "law" "law" (zAW (top 40)) (zAX (top 40)) (zA3 (top 40)) .none kV24 dc24 pm24 an24 cd24 ct24,fun s v=>.of_eq rfl,fun base _ _=>?_⟩;exact zaA ⟨S,_,_,_,_,_,_,_,_,_,_,_,c_MOST_CHOSEN,z_TooMany,c_ARROWED_WAYS,c_SEATS,c_ALL_WAYS,n_RoundError,n_NoNet,n_NoPivot,n_TooMany,v_counts_of,v_table_counts,v_arrowed_counts,q0,q1,q2,q3,q4⟩ (zVX (st:=(top 40)) l24 c24 k24)
theorem walk{l:qDq}{q:qI0}{loose:List Str}{XP:(Str->Option Value)->Heap->Prop}{d:DefRec}{K:Params->qA1}{YP:World->Heap->Prop}(hn:l.most=some 63)(hdf:d.params.defaults=[])(hY:∀(w:World) (h:Heap),YP w h->(K w.params).In h)
  (F:∀(w:World)(mg:Str->Option Value)(fa:Addr)(h:Heap),(K w.params).In h->h.Ns qI3 mg->mg d.name=some (.ref fa) ->
   TbE (K w.params) []/\∃fd:qIe,(∀(s:qHx)(u:Value),qL6 s fd ⟨[u],[]⟩ [("_law_script",u)])/\∀base:Heap,(K w.params).In base->base.Ns qI3 mg->FnOk l.prog w (K w.params) mg base CX0 8 fa fd ["_law_script"] (zHT (K w.params))) :
  qFk q loose XP YP l.row.toRowW d [] (fun f vs=>qFt f vs):=
 L3.walk_of0 (n:=63) (k:=8) (x:="_law_script") hn (by decide) hdf ⟨rfl,by decide,by decide⟩ hY F
end Q78
open PySem PySem.W PyProof.Rows
set_option maxRecDepth 100000 in
set_option maxHeartbeats 0 in
theorem PySem.Challenge.cw_fourway_k78_too_many_places_holds : PySem.Challenge.rw_fourway_k78_too_many_places.Holds := by
 refine hdZ.2 ?_;dsimp only[hdZ]
 k_fill
 refine Q78.walk (l:=qC2) rfl rfl (fun w h Y=>PySem.W.kIn_of Y) ?F
 case F=>
  intro w mg fa h KX G hmg;have T:L3.Tb (L2.KOf KX) [] none none none:=by
   dsimp only[L2.KOf];exact⟨L3.mk1_none (by k_is),L3.mk1_none (by k_is),L3.mk1_none (by k_is)⟩
  refine' ⟨⟨_,_,_,T⟩,Q78.all_mk KX G hmg (by constructor<;>first|exact L3.mkD KX G (by k_is) (by k_is) (by k_is) (by k_is)|exact PySem.W.mg_none_of KX G (by k_is)|exact L2.mkDD KX G (by k_is) (by k_is) (by k_is) (by k_is) (by k_is) (by rfl)) (by k_is) (by k_is) (by k_is) (by k_is) (by k_is) (by k_is) (by k_is) (by k_is) (by k_is) (by k_is) (by k_is) (by k_is) (by k_is) (by k_is) (by k_is) (by rfl) (by k_is) (by rfl) (by k_is) (by k_is) (by k_is) (by k_is) (by k_is) (by k_is) (by k_is) (by k_is) (by k_is) (by k_is) (by rfl) (by k_is) (by rfl) (by k_is) (by k_is) (by k_is) (by k_is) (by k_is) (by k_is) (by k_is) (by k_is) (by k_is) (by k_is) (by rfl) (by k_is) (by rfl) (by k_is) (by k_is) (by k_is) (by k_is) (by k_is) (by k_is) (by k_is) (by k_is) (by k_is) (by k_is) (by rfl) (by k_is) (by rfl) (by k_is) (by k_is) (by k_is) (by k_is) (by k_is) (by k_is) (by k_is) (by k_is) (by k_is) (by k_is) (by k_is) (by k_is) (by k_is) (by k_is) (by rfl) (by k_is) (by rfl) (by k_is) (by rfl) (by k_is) (by k_is) (by rfl) (by k_is) (by rfl) (by k_is) (by rfl) (by k_is) (by k_is) (by rfl) (by k_is) (by rfl) (by k_is) (by rfl) (by k_is) (by k_is) (by k_is) (by k_is)⟩
