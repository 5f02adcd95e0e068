import PyProof.Rows.All
import Wide.All
import OpenK.AllK
import Wide.FinOn
import Lean
import PyProof.EqAt
import PyProof.EqKinds
import PyProof.TupleCall
import PyProof.NeKinds
import KE.KLam
import KE.KNestM
import PySem.Challenge.RW_fourway_k66_turnings_refused
set_option Elab.async false
set_option linter.all false
set_option maxRecDepth 100000
open Array renaming getElem?_eq_some_iff->qBm,getElem?_eq_getElem->qDm,getElem?_toList->qEd,length_toList->qEv,toList->qGx
open Bool renaming false_ne_true->qAc,and_eq_true->qBi,and_false->qCk,eq_iff_iff->qDa,and_true->qDy,or_true->qEe,noConfusion->qFj,or_eq_true->qFv
open Char renaming toNat->qH2
open Classical renaming propDecidable->qA3,choose_spec->qCc,byContradiction->qCn,choose->qD6,axiomOfChoice->qDz,epsilon_spec->qE9
open False renaming elim->qA8
open ForInStep renaming yield->qCb
open Int renaming toNat_natCast->qCh,emod_lt_of_pos->qCu,emod_nonneg->qDg,mul_one->qGz
open List renaming getD_eq_getElem?_getD->qA0,getElem?_eq_some_iff->qA2,getElem?_eq_getElem->qA4,replicate->qA5,getElem?_append_left->qA7,getElem?_set_self->qA9,getElem?_set_ne->qAa,getElem?_append_right->qAb,size_toArray->qAd,getElem?_map->qAf,range->qAg,mem_cons->qAj,mem_append_right->qAm,map_cons->qAn,length_map->qAp,mem_cons_of_mem->qAq,getElem?_cons_zero->qAu,mem_append->qAw,eq_nil_of_length_eq_zero->qAx,length_append->qAy,mem_singleton->qB0,getElem?_cons_succ->qB1,nodup_cons->qB4,mem_of_getElem?->qB5,mem_map->qB6,take_succ_eq_append_getElem->qB7,map_map->qB9,mem_cons_self->qBa,map_append->qBc,replicate_succ->qBd,getElem?_replicate->qBf,contains_cons->qBg,mem_append_left->qBh,length_cons->qBj,lookup_cons->qBk,not_mem_nil->qBl,flatten_cons->qBp,append_nil->qBq,find?_cons->qBr,map_congr_left->qBs,mem_range->qBw,drop_eq_getElem_cons->qBy,append_assoc->qC2,getElem_of_mem->qC5,of_mem_zip->qCa,any_cons->qCf,count_append->qCi,mem_take_iff_getElem->qCm,eraseIdx_cons_succ->qCt,eraseIdxIfInBounds_toArray->qCy,length_replicate->qCz,all_eq_true->qD2,any_eq_true->qD3,getElem_mem->qD5,filterMap_cons->qD8,length_set->qDb,lookup->qDc,range_succ->qDe,getElem?_range->qDf,getElem_range->qDj,map_set->qDk,count_pos_iff->qDl,nodup_append->qDq,length_erase_of_mem->qDr,foldl_append->qDs,all_cons->qDv,length_take->qE1,cons_append->qE3,drop_length->qE4,take_length->qE6,length_pos_of_mem->qE8,foldl_cons->qEb,length_singleton->qEc,take_append_drop->qEi,singleton_append->qEk,length_eraseIdx->qEm,mem_erase_of_ne->qEn,nodup_nil->qEq,mem_filterMap->qEy,findIdx?_cons->qF1,count_eq_zero->qF2,find?_eq_none->qF3,any_eq_false->qF5,take_sublist->qF8,getElem_inj->qFe,filter_cons->qFg,ext_getElem->qFk,getElem_map->qFl,nodup_range->qFm,mem_flatMap->qFn,mem_filter->qFo,length->qFq,nil_append->qFr,length_nil->qFs,forIn_cons->qFu,find?_some->qG0,all_append->qG1,forIn_nil->qGe,drop_zero->qGf,mergeSort->qGg,foldl->qGt,map->qH0,merge->qH4
open List.MergeSort.Internal renaming splitInTwo->qCs
open List.Pairwise renaming nil->qF9
open List.Perm renaming append_left->qEj,refl->qEt,trans->qG3
open List.Sublist renaming count_le->qGy
open Nat renaming le_refl->qA6,lt_of_lt_of_le->qAe,zero_le->qAk,le_trans->qAl,ne_of_lt->qAo,le_succ->qBx,lt_irrefl->qC3,lt_of_le_of_lt->qC9,le_of_lt->qCo,ne_of_gt->qCp,zero_add->qCr,succ_mul->qDh,lt_trichotomy->qDt,le_of_eq->qEg,mul_le_mul->qEs,eq_zero_or_pos->qF4,lt_succ_of_lt->qFa,min_self->qFc,le_add_right->qFh,lt_succ_self->qFi,le_zero->qFz,strongRecOn->qG2,sub_le->qH3
open Nat.succ renaming inj->qEh
open Ne renaming symm->qC1
open Option renaming map_some->qB8,map_none->qBt,map_eq_some_iff->qBu,isSome_map->qCg,isSome_iff_exists->qCq,bind_some->qD4,isSome_some->qDi,getD_some->qE2,none->qEw
open Option.some renaming inj->qB2,injEq->qH1
open Or renaming inr->qFt,inl->qGu
open PyProof.Rows renaming callWith_builtin1->qD0,callWith_type1->qD9,envOfC->qEx,boot_isinstance->qHh,boot_list->qJ8,boot_tuple->qJ9,AllBare->qJa,subscriptTail_builtinR->qJh,IntsAre->qKd
open PySem renaming mem_of_lookup->qC4,call->qFb,KeyKind->qGv,Within->qGw,Shared->qH6,Program->qH9,Around->qHb,mainGlobals->qHc,wpAny_loadPart_at->qHe,wpAny_isSubtype_exc->qHn,FuncData->qHo,wpAny_Call_Name_kw->qHp,sizeLine_eq->qHr,sysModules->qHt,wpAny_passesOwn->qHu,bootBuiltins->qHy,wpAny_execs_nil->qHz,ExcBaseFacts->qI0,behindInMarks->qI1,NameKind->qI2,boot_len->qI3,strIterType->qI6,foldedSetIterable->qIe,GenState->qIf,codeAny->qIj,attributeBase->qIm,builtinsNs->qIn,swapsWith->qIs,wpAny_newFunctionEnv_cells->qIu,Paired->qIx,codeAny_call_builtin_code->qJ0,wpAny_truthy_bool->qJ4,wpAny_assign_Name->qJ5,bindArgs->qJc,codeAny_call_builtin_at->qJd,wpAny_execs_cons->qJf,wpAny_madeBy_exc->qJg,wpAny_Assign_Subscript->qJi,wpAny_Call_method_late->qJj,wpAny_isTrue_Compare1->qJl,codeAny_call_function->qJm,wpAny_Assign_stores->qK4,BindsTo->qK5,Builtin->qK8,callerA->qK9,Keyword->qKc,Result->qKh,seqIndex_neg->qKi,standAt->qKq,PassesOwn->qKr,seqIndex?->qKs,seqIndex_of->qKt,wpAny_Name->qKz
open PySem.Challenge renaming rw_fourway_k66_turnings_refused->qC0,pw_fourway_k66_turnings_refused->qDo
open PySem.EqMixed renaming eq_bool_str->qG7,eq_str_bool->qG8,ne_bool_str->qGc,ne_str_bool->qGd,eq_int_str->qGk,eq_str_int->qGm,ne_int_str->qGq,ne_str_int->qGs
open PySem.EqNone renaming eq_none_none->qG4,eq_none_bool->qG5,eq_bool_none->qG6,ne_none_none->qG9,ne_none_bool->qGa,ne_bool_none->qGb,eq_none_int->qGh,eq_none_str->qGi,eq_int_none->qGj,eq_str_none->qGl,ne_none_int->qGn,ne_none_str->qGo,ne_int_none->qGp,ne_str_none->qGr
open PySem.F renaming plainAttrs_list->qAh,slot_list_append->qAr,type_list_append->qAs,slot_list_pop->qCd,type_list_pop->qCe,excBase_ValueError->qCj,slot_dict_get->qD1,args_dict_get_3->qDw,plainAttrs_dict->qDx,entry_dict_get->qE7,slot_NoneType_hash->qI4,excAttr_ValueError->qI5,slot_list_getattribute->qI8,slot_bool_hash->qIi,slot_dict_update->qKa,entry_list_pop->qKl,slot_list_pop->qKu,slot_int_rmul->qKv,entry_bexc_ga->qKx
open PySem.W renaming Frag->qA1,findIn->qAi,subIn->qAt,keepIn->qAv,fnOf->qAz,kia_one->qB3,kitOne->qBb,nsIn->qBe,clsIn->qBn,codeIn->qBo,mg_of->qBv,typeIn->qBz,cellsFrom_some->qC7,callWith_K->qC8,exmOne->qCl,hasDictIn->qCw,specialIn->qCx,Looks->qD7,OpenLaw->qDd,notCls->qDn,methodObj->qDp,mroIn->qDu,handedIn->qE0,codeHdIn->qE5,instObj->qEa,isFn->qEf,looks_findIn->qEl,lookIn->qEo,InstAt->qEp,tabObj->qEr,codeRec_of->qEz,WalkO->qF0,kitx_list->qF6,kitx_dict->qF7,envX->qFd,plainGet->qFf,takesIn->qFp,readsIn->qFw,findCls->qFx,takerIn->qFy,findIn->qKk,any_some->qKo,findObj->qL2
open PySem.W.Looks renaming ld->qH5
open Sum renaming inl->qCv,inr->qEu
open True renaming intro->qC6
set_option compiler.extract_closed false
set_option genSizeOf false
set_option genSizeOfSpec false
set_option bootstrap.genMatcherCode false
open PySem.Around renaming frames_deeper->qJu,under_plainId->qJv,under->qKf
open PySem.Builtin renaming bitXor->qIg
open PySem.Builtin.Dict renaming updateFrom->qJe
open PySem.Builtin.Int renaming intBits->qI7,intTooBig->qJp
open PySem.Builtin.List renaming listTooLong->qHv
open PySem.Builtin.ObjectAttr renaming bindTo->qJ1
open PySem.Builtin.Range renaming rangeSize->qJb
open PySem.Builtin.Str renaming occurrences->qI9
open PySem.Calls renaming callWith_builtin->qId,evalArgs_plain->qIk,Name_function_global->qIt,spliced_cons->qIz,spliced_nil->qKb
open PySem.CmpOp renaming NotIn->qL7
open PySem.Code renaming quiet_builtin->qIc,isFrame->qKg
open PySem.EntryCells renaming newEntry->qK6
open PySem.Heap renaming get?_push_of_some->qH7,lt_size->qH8,get?_push_size->qHf,get?_update_other->qHi,get?_update_self->qHk,get?_none_of_le->qHq,size_push->qHw,MadeExcOf->qHx,SameBut->qIy,get?_push_at->qJ7,get?_update_ne->qK7
open PySem.NameKind renaming free->qHd,cell->qHs
open PySem.Obj renaming mapFields->qHm,data_mapFields->qIb,isFreed_of_fields->qIh,mapSeq->qJq
open PySem.Paired renaming length->qIl,snoc->qL8
open PySem.PassesOwn renaming never->qHg
open PySem.SeqAt renaming EqAt->qIo,RcNeAt->qKj,RcAt->qL0
open PySem.SeqAt.EqAt renaming of_refs->qIa,same->qIr,int_str->qIv,str_int->qIw,none_bool->qJr,bool_none->qJs,bool_bool->qJt,none_int->qJw,none_str->qJx,bool_int->qJy,bool_str->qJz,int_none->qK0,int_bool->qK1,str_none->qK2,str_bool->qK3
open PySem.SeqAt.RcAt renaming lists_lengths->qJ6,list_tuple->qJn,tuple_list->qJo,tuples->qKe,lists->qKm
open PySem.Str renaming ofString_eq_toList->qJk
open PySem.Value renaming ref->qHa,none->qHj,builtin->qHl,int->qIp,str->qIq,bool->qJ2,type->qJ3,float->qKp,isStrOf->qL1,isInt->qL5,bytes->qL6
open PySem.Value.ref renaming inj->qL3
open PySem.W.WData renaming layableAll->qKn,int->qKw,weightAll->qKy,weight->qL4
open PySem.W.WShape renaming has->qL9
noncomputable section
set_option maxHeartbeats 0 in
def hdZ:PSigma fun H:Prop=>H->PySem.Challenge.rw_fourway_k66_turnings_refused.Holds:=by
 refine' ⟨_,fun x=>?go⟩
 case' go=>w_on;o_law;refine' And.left (b:=_) ⟨?main,And.intro ?hl ?hc⟩
 case main=>
  k_head
  case hw=>w_witness2
 case hc=>exact x
 case hl=>intro w;unfold PySem.W.openEnds PySem.W.fencedOpening PySem.W.topFrom;rewrite[PySem.W.Fast.te10274390034422433532,PySem.W.Fast.te14289696077712309145,PySem.W.Fast.te14082659384304107361,PySem.W.Fast.te4187177175401517315,PySem.W.Fast.te1435165496053646825,PySem.W.Fast.te14364793385576792824];kernel_rfl
namespace L2
open PySem PySem.Spec PyProof.Rows
abbrev Key:=Sum Int Str
noncomputable def zJB:Key->Value->Bool
 |.inl k,v=>qL5 k v
 |.inr x,v=>qL1 x v
noncomputable def keyH(w:World):Key->Int
 |.inl k=>hashInt k
 |.inr x=>hashStr w x
theorem zB5:∀{k:Key}{v:Value},zJB k v=true->(∃i t,k=qCv i/\v=qIp i t)\/(∃x t,k=qEu x/\v=qIq x t)
 |.inl i,v,h=>by
  obtain⟨t,e⟩:=Value.isInt_shape (k:=i) (v:=v) h;exact .inl ⟨i,t,rfl,e⟩
 |.inr x,v,h=>by
  obtain⟨t,e⟩:=Value.isStrOf_shape (x:=x) (v:=v) h;exact .inr ⟨x,t,rfl,e⟩
theorem zL0(i:Int)(t:Tok):zJB (.inl i) (.int i t)=true:=by simp[zJB,qL5]
theorem zKZ(x:Str)(t:Tok):zJB (.inr x) (.str x t)=true:=by simp[zJB,qL1]
theorem zNE(a b:Int):decide ((qCv a:Key)=qCv b)=(a==b):=by
 by_cases e:a=b
 ·subst e;simp
 ·have h:¬(qCv a:Key)=qCv b:=fun q=>e (Sum.inl.inj q)
  rw[decide_eq_false h];exact(beq_eq_false_iff_ne.mpr e).symm
theorem zU2(a b:Str):decide ((qEu a:Key)=qEu b)=decide (a=b):=by
 by_cases e:a=b
 ·subst e;simp
 ·have h:¬(qEu a:Key)=qEu b:=fun q=>e (Sum.inr.inj q)
  rw[decide_eq_false h,decide_eq_false e]
theorem zU4(a:Int)(b:Str):decide ((qCv a:Key)=qEu b)=false:=decide_eq_false (fun q=>nomatch q)
theorem zU3(a:Str)(b:Int):decide ((qEu a:Key)=qCv b)=false:=decide_eq_false (fun q=>nomatch q)
def zD0(prog:qH9)(w:World):qGv prog w Key where
 is:=zJB
 hash:=keyH w
 inj:=fun v a b ha hb=>by
  rcases zB5 ha with⟨i,t,rfl,rfl⟩|⟨x,t,rfl,rfl⟩
  ·rcases zB5 hb with⟨j,u,rfl,e⟩|⟨y,u,rfl,e⟩
   ·injection e with e1 _;rw[e1]
   ·exact nomatch e
  ·rcases zB5 hb with⟨j,u,rfl,e⟩|⟨y,u,rfl,e⟩
   ·exact nomatch e
   ·injection e with e1 _;rw[e1]
 byValue:=fun k v h=>by
  rcases zB5 h with⟨i,t,rfl,rfl⟩|⟨x,t,rfl,rfl⟩<;>rfl
 pyHash:=fun hv h=>by
  rcases zB5 hv with⟨i,t,rfl,rfl⟩|⟨x,t,rfl,rfl⟩
  ·exact wpAny_pyHash_int h
  ·exact wpAny_pyHash_str h
 eqBool:=fun hu hv h=>by
  rcases zB5 hu with⟨i,t,rfl,rfl⟩|⟨x,t,rfl,rfl⟩
  ·rcases zB5 hv with⟨j,u,rfl,rfl⟩|⟨y,u,rfl,rfl⟩
   ·rw[zNE]at h;exact wpAny_eqBool_int h
   ·rw[zU4]at h;exact qIv i t y u _ _ _ _ h
  ·rcases zB5 hv with⟨j,u,rfl,rfl⟩|⟨y,u,rfl,rfl⟩
   ·rw[zU3]at h;exact qIw x t j u _ _ _ _ h
   ·rw[zU2]at h;exact wpAny_eqBool_str h
 «strs»:=fun k x t v h=>by
  rcases zB5 h with⟨i,u,rfl,e⟩|⟨y,u,rfl,e⟩
  ·exact nomatch e
  ·injection e with e1 _
   subst e1;cases v<;>rfl
theorem zM3(prog:qH9)(w:World)(i:Int)(t:Tok):(zD0 prog w).is (.inl i) (.int i t)=true:=zL0 i t
theorem zM2(prog:qH9)(w:World)(x:Str)(t:Tok):(zD0 prog w).is (.inr x) (.str x t)=true:=zKZ x t
abbrev KeyN:=Option Key
noncomputable def zLJ(b:Bool):Int:=if b then 1 else 0
def zHG:KeyN->Value->Bool
 |none,.none=>true
 |some (.inl i),.bool b=>i==zLJ b
 |some k,v=>zJB k v
 |_,_=>false
def zaN(w:World):KeyN->Int
 |none=>4238894112
 |some k=>keyH w k
theorem zBP:∀{k:KeyN}{v:Value},zHG k v=true->(k=none/\v=qHj)\/(∃b,k=some (qCv (zLJ b))/\v=qJ2 b)\/(∃i t,k=some (qCv i)/\v=qIp i t)\/(∃x t,k=some (qEu x)/\v=qIq x t)
 |none,v,h=>by
  cases v<;>first|exact .inl ⟨rfl,rfl⟩|exact nomatch h
 |some (.inl i),v,h=>by
  by_cases hb:∃b,v=.bool b
  ·obtain⟨b,rfl⟩:=hb;have e:i=zLJ b:=by simpa[zHG]using h
   subst e;exact .inr (.inl ⟨b,rfl,rfl⟩)
  ·have h':zJB (.inl i) v=true:=by
    cases v<;>first|exact h|exact absurd ⟨_,rfl⟩ hb
   rcases zB5 h' with⟨j,t,e1,e2⟩|⟨x,t,e1,e2⟩
   ·exact .inr (.inr (.inl ⟨j,t,by rw[e1],e2⟩))
   ·cases e1
 |some (.inr x),v,h=>by
  have h':zJB (.inr x) v=true:=by
   cases v<;>exact h
  rcases zB5 h' with⟨j,t,e1,e2⟩|⟨y,t,e1,e2⟩
  ·cases e1
  ·exact .inr (.inr (.inr ⟨y,t,by rw[e1],e2⟩))
theorem zOE(i:Int)(t:Tok):zHG (some (.inl i)) (.int i t)=true:=zL0 i t
theorem zOD(x:Str)(t:Tok):zHG (some (.inr x)) (.str x t)=true:=zKZ x t
theorem zQC(b:Bool):zHG (some (.inl (zLJ b))) (.bool b)=true:=by simp[zHG]
theorem zQM{prog:qH9}{w:World}{A:qHb}{E:Value->qH6->Prop}{s:qH6}{Q:Int->qH6->Prop}(h:Q 4238894112 { s with toks:=s.toks+1 }):wpAny (model prog w) A (pyHash .none) Q E s:=by
 unfold pyHash;have hT:s.TypeIs .none "NoneType":=rfl;refine wpAny_bind ?_;rw[cRoomFor,if_neg (by exact qAc)];refine wpAny_pure ?_;refine wpAny_bind (wpAny_specialOf hT qI4.lookup ?_);show wpAny _ _ (if(some (qHl "NoneType.__hash__")==some qHj)=true then _ else _) Q E s;rw[if_neg (by rw[beq_builtin_none];exact qAc)];refine wpAny_bind (wpAny_specialOf hT qI4.lookup ?_);show wpAny _ _ (callSpecialIfBoundUnlessNone? .none "__hash__" _ >>= _) Q E s;refine wpAny_bind (wpAny_callSpecialIfBoundUnlessNone?_slot hT qI4
  (wpAny_call_entry qI4 hT F.entry_NoneType_hash
   (show wpAny _ _ (do ret (<- mkInt 0xFCA86420)) _ _ s from wpAny_ret_mkInt ?_) (F.args_NoneType_hash_1 _)))
 exact wpAny_pure h
theorem zQN{prog:qH9}{w:World}{A:qHb}{E:Value->qH6->Prop}{s:qH6}{b:Bool}{Q:Int->qH6->Prop}(h:Q (hashInt (zLJ b)) { s with toks:=s.toks+1 }):wpAny (model prog w) A (pyHash (.bool b)) Q E s:=by
 unfold pyHash;have hT:s.TypeIs (.bool b) "bool":=rfl;refine wpAny_bind ?_;rw[cRoomFor,if_neg (by exact qAc)];refine wpAny_pure ?_;refine wpAny_bind (wpAny_specialOf hT qIi.lookup ?_);show wpAny _ _ (if(some (qHl "int.__hash__")==some qHj)=true then _ else _) Q E s;rw[if_neg (by rw[beq_builtin_none];exact qAc)];refine wpAny_bind (wpAny_specialOf hT qIi.lookup ?_);show wpAny _ _ (callSpecialIfBoundUnlessNone? (.bool b) "__hash__" _ >>= _) Q E s;refine wpAny_bind (wpAny_callSpecialIfBoundUnlessNone?_slot hT qIi
  (wpAny_call_entry qIi hT entry_int_hash
   (show wpAny _ _ (do ret (<- mkInt (rawHash (zLJ b)))) _ _ s by cases b<;>exact wpAny_ret_mkInt (wpAny_pure h)) (args_int_hash _)))
theorem eqN(a b:KeyN):decide (a=b)=match a,b with|none,none=>true|some x,some y=>decide (x=y)|_,_=>false:=by
 cases a<;>cases b<;>simp
def mixN(prog:qH9)(w:World):qGv prog w KeyN where
 is:=zHG
 hash:=zaN w
 inj:=fun v a b ha hb=>by
  rcases zBP ha with⟨rfl,rfl⟩|⟨x,rfl,rfl⟩|⟨i,t,rfl,rfl⟩|⟨x,t,rfl,rfl⟩<;>rcases zBP hb with⟨rfl,e⟩|⟨y,rfl,e⟩|⟨j,u,rfl,e⟩|⟨y,u,rfl,e⟩<;>first|rfl|(cases e;done)|(cases e;rfl)
 byValue:=fun k v h=>by
  rcases zBP h with⟨rfl,rfl⟩|⟨x,rfl,rfl⟩|⟨i,t,rfl,rfl⟩|⟨x,t,rfl,rfl⟩<;>rfl
 pyHash:=fun hv h=>by
  rcases zBP hv with⟨rfl,rfl⟩|⟨x,rfl,rfl⟩|⟨i,t,rfl,rfl⟩|⟨x,t,rfl,rfl⟩
  ·exact zQM h
  ·exact zQN h
  ·exact wpAny_pyHash_int h
  ·exact wpAny_pyHash_str h
 eqBool:=fun hu hv h=>by
  rw[eqN]at h
  rcases zBP hu with⟨rfl,rfl⟩|⟨x,rfl,rfl⟩|⟨i,t,rfl,rfl⟩|⟨x,t,rfl,rfl⟩<;>rcases zBP hv with⟨rfl,rfl⟩|⟨y,rfl,rfl⟩|⟨j,u,rfl,rfl⟩|⟨y,u,rfl,rfl⟩
  ·exact qIr _ _ _ _ _ h
  ·exact qJr _ _ _ _ _ h
  ·exact qJw _ _ _ _ _ _ h
  ·exact qJx _ _ _ _ _ _ h
  ·exact qJs _ _ _ _ _ h
  ·refine qJt _ _ _ _ _ _ ?_;cases x<;>cases y<;>exact h
  ·refine qJy _ _ _ _ _ _ _ ?_;dsimp only at h;rw[zNE]at h;exact h
  ·exact qJz _ _ _ _ _ _ _ h
  ·exact qK0 _ _ _ _ _ _ h
  ·refine qK1 _ _ _ _ _ _ _ ?_;dsimp only at h;rw[zNE]at h;exact h
  ·dsimp only at h;rw[zNE]at h;exact wpAny_eqBool_int h
  ·dsimp only at h;rw[zU4]at h;exact qIv _ _ _ _ _ _ _ _ h
  ·exact qK2 _ _ _ _ _ _ h
  ·exact qK3 _ _ _ _ _ _ _ h
  ·dsimp only at h;rw[zU3]at h;exact qIw _ _ _ _ _ _ _ _ h
  ·dsimp only at h;rw[zU2]at h;exact wpAny_eqBool_str h
 «strs»:=fun k x t v h=>by
  rcases zBP h with⟨rfl,e⟩|⟨x,rfl,e⟩|⟨i,u,rfl,e⟩|⟨y,u,rfl,e⟩
  ·exact nomatch e
  ·exact nomatch e
  ·exact nomatch e
  ·injection e with e1 _
   subst e1;cases v<;>rfl
inductive V where
 |non|bl (b:Bool)|int (i:Int)|str (x:Str)|byt (b:Array UInt8)|flt (b:UInt64)|ref (a:Addr)|ty (n:String)
 deriving DecidableEq
noncomputable def RelV:V->Value->Prop
 |.non,u=>u=qHj
 |.bl b,u=>u=qJ2 b
 |.int i,u=>∃t,u=qIp i t
 |.str x,u=>∃t,u=qIq x t
 |.byt b,u=>∃t,u=qL6 b t
 |.flt b,u=>∃t,u=qKp b t
 |.ref a,u=>u=qHa a
 |.ty n,u=>u=qJ3 n
abbrev Vals:List V->List Value->Prop:=qIx RelV
theorem Vals.length{xs:List V}{us:List Value}(r:Vals xs us):xs.length=us.length:=qIl r
theorem Vals.get:∀{xs:List V}{us:List Value}{i:Nat}{x:V},Vals xs us->xs[i]?=some x->∃u,us[i]?=some u/\RelV x u
 |_,_,_,_,.nil,e=>by simp at e
 |_,_,0,_,.cons r _,e=>by simp at e;subst e;exact⟨_,rfl,r⟩
 |_,_,i+1,x,.cons _ t,e=>by
  obtain⟨u,h1,h2⟩:=Vals.get (i:=i) (x:=x) t (by simpa using e);exact⟨u,by simpa using h1,h2⟩
theorem Vals.set{x:V}{u:Value}(r:RelV x u):∀{xs:List V}{us:List Value}(i:Nat),Vals xs us->Vals (xs.set i x) (us.set i u)
 |_,_,_,.nil=>.nil
 |_,_,0,.cons _ t=>.cons r t
 |_,_,i+1,.cons q t=>.cons q (Vals.set r i t)
theorem Vals.append:∀{xs ys:List V}{us ws:List Value},Vals xs us->Vals ys ws->Vals (xs++ys) (us++ws)
 |_,_,_,_,.nil,s=>s
 |_,_,_,_,.cons r t,s=>.cons r (Vals.append t s)
theorem Vals.take:∀{xs:List V}{us:List Value}(n:Nat),Vals xs us->Vals (xs.take n) (us.take n)
 |_,_,0,_=>.nil
 |_,_,_+1,.nil=>.nil
 |_,_,n+1,.cons r t=>.cons r (Vals.take n t)
theorem Vals.drop:∀{xs:List V}{us:List Value}(n:Nat),Vals xs us->Vals (xs.drop n) (us.drop n)
 |_,_,0,r=>r
 |_,_,_+1,.nil=>.nil
 |_,_,n+1,.cons _ t=>Vals.drop n t
def RelO:Option V->Option Value->Prop
 |some v,some u=>RelV v u
 |none,none=>True
 |_,_=>False
def KV{κ:Type}:List (κ×V)->List (κ×Value)->Prop:=qIx fun(p:κ×V)(q:κ×Value)=>p.1=q.1/\RelV p.2 q.2
noncomputable def kV:Key->V
 |.inl i=>.int i
 |.inr x=>.str x
def vN:V->Option KeyN
 |.non=>some none
 |.bl b=>some (some (.inl (zLJ b)))
 |.int i=>some (some (.inl i))
 |.str x=>some (some (.inr x))
 |_=>none
abbrev KsOf:List V->List KeyN->Prop:=qIx fun v k=>vN v=some k
inductive HO where
 |lst (xs:List V)
 |tup (xs:List V)
 |dK (kvs:List (Key×V))|dT (T:Addr->Prop) (e0:Nat) (kvs:List (List KeyN×V))
 |set (S:Int->Bool) (n:Nat)
 |ins (C dx:Addr) (fs:List (Str×V))
 |own (x:Addr)
 |xd (fs:List (Str×V))
 |met (f x:Addr)
 |rng (lo hi:Int)
 |frz (o:Obj) (u:HO)
 |tbl (ps:Array Value)
 |lam (q:Str)
 |fn (o:Obj) (q:Str)
 |ext (φ:Heap->Prop)
abbrev Hp:=Addr->Option HO
noncomputable def upd(H:Hp)(a:Addr)(o:HO):Hp:=fun b=>if b=a then some o else H b
theorem zAF{H:Hp}{a:Addr}{o:HO}:upd H a o a=some o:=by unfold upd;rw[if_pos rfl]
theorem zAJ{H:Hp}{a b:Addr}{o:HO}(h:b≠a):upd H a o b=H b:=by unfold upd;rw[if_neg h]
theorem zO8{H:Hp}{a b:Addr}{o u:HO}(h:H a=some o)(h':H b=some u)(d:o≠u):a≠b:=by
 intro e;subst e;rw[h]at h';exact d (qB2 h')
theorem zAW{H:Hp}{a b:Addr}{o:HO}(h:H a=some o)(h':H b=none):a≠b:=by
 intro e;subst e;rw[h]at h';cases h'
def TupK(H:Hp)(b:Addr)(k:List KeyN):Prop:=∃vs,H b=some (.tup vs)/\KsOf vs k
theorem TupK.keeps{H H':Hp}{b:Addr}{k:List KeyN}(x:TupK H b k)(ht:∀b xs,H b=some (.tup xs)->H' b=some (.tup xs)):TupK H' b k:=let⟨vs,e,r⟩:=x;⟨vs,ht _ _ e,r⟩
def CodR(o:Obj)(q:Str):Prop:=∃vs t,o.data=.fields vs/\vs[1]?=some (.str q t)
section
variable(P:qH9)(w:World)
def ObjOk(H:Hp)(h:Heap)(a:Addr):HO->Prop
 |.lst xs=>xs.length<=sizeLine/\∃(its:List Value)(n:Nat),Vals xs its/\h.get? a=some { cls:=.type "list",data:=.seq its.toArray n }
 |.tup xs=>xs.length<=sizeLine/\∃its:List Value,Vals xs its/\IsTup h a its.toArray
 |.dK kvs=>kvs.length<=sizeLine/\(a==qHt)=false/\∃vs,KV kvs vs/\h.DictOf (zD0 P w) a vs
 |.dT T e0 kvs=>kvs.length<=sizeLine/\(a==qHt)=false/\∃xs:List (List KeyN×Addr×Value),
   qIx (fun(p:List KeyN×V)(q:List KeyN×Addr×Value)=>p.1=q.1/\(TupK H q.2.1 p.1/\T q.2.1)/\RelV p.2 q.2.2) kvs xs /\
   ∃o es ep,h.get? a=some o/\o.ExactDict/\o.data=.dict es ep/\es.toList=xs.map (entryOfKey (tupleKind (mixN P w)))/\(xs.map (·.1)).Nodup/\ep=e0
 |.set S n=>h.SetOf (intKind P w) a S n
 |.ins C dx fs=>H dx=some (.own a)/\fs.length<=1000/\dx≠a/\h.get? a=some (qEa C dx) /\
   ∃mA,h.Ns1 dx mA/\(∀f,RelO (fs.lookup f) (mA f))/\qGw mA (fs.map (·.1))
 |.own _=>∃o,h.get? a=some o
 |.xd fs=>∃mA,h.Ns1 a mA/\∀f,RelO (fs.lookup f) (mA f)
 |.rng lo hi=>∃t u v,h.get? a=some { cls:=.type "range",data:=.fields #[.int lo t,.int hi u,.int 1 v] }
 |.frz o u=>h.get? a=some o/\ObjOk H h a u
 |.tbl ps=>h.get? a=some { cls:=.none,data:=.fields ps }
 |.lam q=>∃ps:Array Value,h.get? a=some { cls:=.none,data:=.fields ps }/\TriplesOk ps.toList/\∀pos cv,codeAmong pos ps.toList=some cv->∃c oc u,cv=.ref c/\H c=some (.frz oc u)/\CodR oc q
 |.fn o q=>h.get? a=some o/\∃fd c oc u,o.data=.func fd/\fd.code=.ref c/\H c=some (.frz oc u)/\CodR oc q
 |.met f x=>h.get? a=some (qDp (.ref f) (.ref x))
 |.ext φ=>φ h/\(∃o,h.get? a=some o)/\∀h1 h2:Heap,φ h1->(∀o,h1.get? a=some o->h2.get? a=some o)->φ h2
def HOk(H:Hp)(h:Heap):Prop:=∀a o,H a=some o->ObjOk P w H h a o
end
section
variable{P:qH9}{w:World}{H H':Hp}{h h':Heap}{a:Addr}{o:HO}
theorem ObjOk.lt(x:ObjOk P w H h a o):a<h.objs.size:=by
 cases o with
 |lst xs=>obtain⟨_,_,_,_,e⟩:=x;exact qH8 e
 |tup xs=>obtain⟨_,_,_,p⟩:=x;exact p.lt
 |dK kvs=>obtain⟨_,_,_,_,o,_,_,e,_⟩:=x;exact qH8 e
 |dT T e0 kvs=>obtain⟨_,_,_,_,o,_,_,e,_⟩:=x;exact qH8 e
 |set S n=>obtain⟨o,_,_,_,e,_⟩:=x;exact qH8 e
 |ins C dx fs=>obtain⟨_,_,_,e,_⟩:=x;exact qH8 e
 |own y=>obtain⟨_,e⟩:=x;exact qH8 e
 |xd fs=>obtain⟨_,⟨_,_,_,e,_⟩,_⟩:=x;exact qH8 e
 |rng lo hi=>obtain⟨_,_,_,e⟩:=x;exact qH8 e
 |frz ob u=>obtain⟨e,_⟩:=x;exact qH8 e
 |tbl ps=>exact qH8 (show h.get? a=some _ from x)
 |lam q=>obtain⟨_,e,_⟩:=x;exact qH8 e
 |fn ob q=>obtain⟨e,_⟩:=x;exact qH8 e
 |met f y=>exact qH8 (show h.get? a=some _ from x)
 |ext φ=>obtain⟨_,⟨_,e⟩,_⟩:=x;exact qH8 e
theorem qIx.mapP{α β:Type}{F G:α->β->Prop}:∀{l₁:List α}{l₂:List β},qIx F l₁ l₂->(∀a b,F a b->G a b)->qIx G l₁ l₂
 |_,_,.nil,_=>.nil
 |_,_,.cons r t,f=>.cons (f _ _ r) (qIx.mapP t f)
theorem ObjOk.stay(x:ObjOk P w H h a o)(k:∀b u,(b=a\/H b=some (.own a))->h.get? b=some u->h'.get? b=some u)
  (ho:∀b,H b=some (.own a)->H' b=some (.own a)) (ht:∀b xs,H b=some (.tup xs)->H' b=some (.tup xs)) (hf:∀b o u,H b=some (.frz o u)->(∃vs,o.data=.fields vs)->H' b=some (.frz o u)):ObjOk P w H' h' a o:=by
 induction o with
 |lst xs=>obtain⟨z,its,n,r,e⟩:=x;exact⟨z,its,n,r,k _ _ (.inl rfl) e⟩
 |tup xs=>obtain⟨z,its,r,ob,e,c⟩:=x;exact⟨z,its,r,ob,k _ _ (.inl rfl) e,c⟩
 |dK kvs=>obtain⟨z,y,vs,r,ob,es,ep,e,c⟩:=x;exact⟨z,y,vs,r,ob,es,ep,k _ _ (.inl rfl) e,c⟩
 |dT T e0 kvs=>
  obtain⟨z,y,xs,r,ob,es,ep,e,c⟩:=x;exact⟨z,y,xs,qIx.mapP r fun p q z=>⟨z.1,⟨z.2.1.1.keeps ht,z.2.1.2⟩,z.2.2⟩,ob,es,ep,k _ _ (.inl rfl) e,c⟩
 |set S n=>obtain⟨ob,es,ep,t,e,c⟩:=x;exact⟨ob,es,ep,t,k _ _ (.inl rfl) e,c⟩
 |ins C dx fs=>
  obtain⟨d,z,ne,e,mA,⟨od,es,ep,e2,c⟩,r⟩:=x;exact⟨ho _ d,z,ne,k _ _ (.inl rfl) e,mA,⟨od,es,ep,k _ _ (.inr d) e2,c⟩,r⟩
 |own y=>obtain⟨ob,e⟩:=x;exact⟨ob,k _ _ (.inl rfl) e⟩
 |xd fs=>obtain⟨mA,⟨od,es,ep,e,c⟩,r⟩:=x;exact⟨mA,⟨od,es,ep,k _ _ (.inl rfl) e,c⟩,r⟩
 |rng lo hi=>obtain⟨t,u,v,e⟩:=x;exact⟨t,u,v,k _ _ (.inl rfl) e⟩
 |frz ob u ih=>obtain⟨e,q⟩:=x;exact⟨k _ _ (.inl rfl) e,ih q⟩
 |tbl ps=>
  have e:h.get? a=some { cls:=.none,data:=.fields ps }:=x;show h'.get? a=some { cls:=.none,data:=.fields ps };exact k a _ (.inl rfl) e
 |lam q=>
  obtain⟨ps,e,t,r⟩:=x;exact⟨ps,k _ _ (.inl rfl) e,t,fun pos cv z=>let⟨c,oc,u,e1,e2,e3⟩:=r pos cv z;⟨c,oc,u,e1,hf _ _ _ e2 (let⟨vs,_,d,_⟩:=e3;⟨vs,d⟩),e3⟩⟩
 |fn ob q=>
  obtain⟨e,fd,c,oc,u,e1,e2,e3,e4⟩:=x;exact⟨k _ _ (.inl rfl) e,fd,c,oc,u,e1,e2,hf _ _ _ e3 (let⟨vs,_,d,_⟩:=e4;⟨vs,d⟩),e4⟩
 |met f y=>
  have e:h.get? a=some (qDp (.ref f) (.ref y)):=x;show h'.get? a=some (qDp (.ref f) (.ref y));exact k a _ (.inl rfl) e
 |ext φ=>obtain⟨p,⟨o,e⟩,st⟩:=x;exact⟨st _ _ p fun o q=>k _ _ (.inl rfl) q,⟨o,k _ _ (.inl rfl) e⟩,st⟩
theorem HOk.lt(x:HOk P w H h)(e:H a=some o):a<h.objs.size:=(x a o e).lt
theorem HOk.fresh(x:HOk P w H h)(e:h.objs.size<=a):H a=none:=by
 cases q:H a with
 |none=>rfl
 |some u=>exact absurd (qAe (x.lt q) e) (qC3 _)
theorem HOk.kept(x:HOk P w H h)(k:∀b u,h.get? b=some u->h'.get? b=some u):HOk P w H h':=fun a o e=>
 (x a o e).stay (fun b u _ q=>k b u q) (fun _ q=>q) (fun _ _ q=>q) fun _ _ _ q _=>q
theorem HOk.laid(x:HOk P w H h)(k:∀b u,h.get? b=some u->h'.get? b=some u)(hp:h.objs.size<=a)(new:ObjOk P w (upd H a o) h' a o):HOk P w (upd H a o) h':=fun b u e=>by
 have hn:=x.fresh hp
 by_cases hb:b=a
 ·subst hb;rw[zAF]at e;cases e;exact new
 ·rw[zAJ hb]at e;exact(x b u e).stay (fun c v _ q=>k c v q) (fun c q=>by rw[zAJ (zAW q hn)];exact q) (fun c xs q=>by rw[zAJ (zAW q hn)];exact q) fun c _ _ q _=>by rw[zAJ (zAW q hn)];exact q
end
def Rd(H:Hp)(a:Addr)(u:HO):Prop:=H a=some u\/∃o,H a=some (.frz o u)
theorem Rd.ok{P:qH9}{w:World}{H:Hp}{h:Heap}{a:Addr}{u:HO}(r:Rd H a u)(x:HOk P w H h):ObjOk P w H h a u:=by
 rcases r with r|⟨o,r⟩
 ·exact x a u r
 ·obtain⟨_,q⟩:=x a _ r;exact q
noncomputable def Mut:Option HO->Prop
 |some (.lst _)=>True
 |some (.dK _)=>True
 |some (.dT _ _ _)=>True
 |some (.set _ _)=>True
 |some (.ins _ _ _)=>True
 |some (.ext _)=>True
 |some (.lam _)=>True
 |_=>False
section
variable{P:qH9}{w:World}{H:Hp}{h h':Heap}{x e:Addr}{o':HO}
theorem HOk.write(ok:HOk P w H h)(mu:Mut (H x))(he:e=x\/H e=some (.own x))(k:∀b u,b≠e->h.get? b=some u->h'.get? b=some u)(heo:∃u,h'.get? e=some u)
  (new:ObjOk P w (upd H x o') h' x o'):HOk P w (upd H x o') h':=fun b u q=>by
 have nown:∀c y,H c=some (.own y)->c≠x:=fun c y r z=>by subst z;rw[r]at mu;exact mu
 have ntup:∀c xs,H c=some (.tup xs)->c≠x:=fun c xs r z=>by subst z;rw[r]at mu;exact mu
 have nfrz:∀c o v,H c=some (.frz o v)->c≠x:=fun c o v r z=>by subst z;rw[r]at mu;exact mu
 by_cases hb:b=x
 ·subst hb;rw[zAF]at q;cases q;exact new
 ·rw[zAJ hb]at q
  by_cases hbe:b=e
  ·have q':H b=some (.own x):=by
    rcases he with z|z
    ·exact absurd (hbe.trans z) hb
    ·rw[hbe];exact z
   rw[q]at q';cases q';obtain⟨v,hv⟩:=heo;exact⟨v,by rw[hbe];exact hv⟩
  ·refine(ok b u q).stay (fun c v hc r=>k c v ?_ r) (fun c r=>by rw[zAJ (nown c b r)];exact r) (fun c xs r=>by rw[zAJ (ntup c xs r)];exact r) fun c o v r _=>by rw[zAJ (nfrz c o v r)];exact r
   rcases hc with rfl|hc
   ·exact hbe
   ·rintro rfl
    rcases he with z|z
    ·exact nown c b hc z
    ·rw[hc]at z;cases z;exact hb rfl
end
structure Un(fs ex:List Addr)(H H':Hp)(h h':Heap):Prop where
 keep:∀b o,h.get? b=some o->H b=none->b∉fs->b∉ex->h'.get? b=some o
 slot:∀b o,h.get? b=some o->H b=none->b∈fs->b∉ex->∃sl,h'.get? b=some { o with slots:=sl }
 free:∀b o,h.get? b=some o->H b=none->b∉ex->H' b=none
 there:∀b o,h.get? b=some o->b∉ex->∃o',h'.get? b=some o'
 tups:∀b xs,H b=some (.tup xs)->H' b=some (.tup xs)
 frzs:∀b o u,H b=some (.frz o u)->H' b=some (.frz o u)
 tbls:∀b ps,H b=some (.tbl ps)->∃more,H' b=some (.tbl (ps++more))
section
variable{fs fs' ex ex':List Addr}{H H1 H2:Hp}{h h1 h2 h':Heap}{a x e:Addr}{o:HO}
theorem Un.any(u:Un fs ex H H1 h h1){b:Addr}{ob:Obj}(q:h.get? b=some ob)(n:H b=none)(hx:b∉ex):∃sl,h1.get? b=some { ob with slots:=sl }:=by
 by_cases hb:b∈fs
 ·exact u.slot b ob q n hb hx
 ·exact⟨ob.slots,u.keep b ob q n hb hx⟩
theorem Un.kept(k:∀b u,h.get? b=some u->h'.get? b=some u):Un fs ex H H h h':=
 ⟨fun b ob q _ _ _=>k b ob q,fun b ob q _ _ _=>⟨ob.slots,k b ob q⟩,fun _ _ _ n _=>n,fun b ob q _=>⟨ob,k b ob q⟩,fun _ _ q=>q,fun _ _ _ q=>q,fun _ ps q=>⟨#[],by rw[q];simp⟩⟩
theorem Un.refl:Un fs ex H H h h:=Un.kept fun _ _ q=>q
theorem Un.laid(k:∀b u,h.get? b=some u->h'.get? b=some u)(hp:h.objs.size<=a)(hn:H a=none):Un fs ex H (upd H a o) h h' where
 keep:=fun b u q _ _ _=>k b u q
 slot:=fun b u q _ _ _=>⟨u.slots,k b u q⟩
 free:=fun b u q n _=>by rw[zAJ (qAo (qAe (qH8 q) hp))];exact n
 there:=fun b u q _=>⟨u,k b u q⟩
 tups:=fun b xs q=>by rw[zAJ (zAW q hn)];exact q
 frzs:=fun b u xs q=>by rw[zAJ (zAW q hn)];exact q
 tbls:=fun b ps q=>⟨#[],by rw[zAJ (zAW q hn),q];simp⟩
theorem Un.write(mu:Mut (H x))(he:e=x\/H e=some (.own x))(k:∀b u,b≠e->h.get? b=some u->h'.get? b=some u)(heo:∃u,h'.get? e=some u):Un fs ex H (upd H x o) h h':=by
 have hx:∀b,H b=none->b≠x:=fun b n z=>by subst z;rw[n]at mu;exact mu
 have hb:∀b,H b=none->b≠e:=fun b n z=>by
  subst z
  rcases he with r|r
  ·exact hx b n r
  ·rw[n]at r;cases r
 have hm:∀b u,H b=some u->¬Mut (some u)->b≠x:=fun b u q nm z=>by subst z;rw[q]at mu;exact nm mu
 refine⟨fun b u q n _ _=>k b u (hb b n) q,fun b u q n _ _=>⟨u.slots,k b u (hb b n) q⟩,fun b u q n _=>by rw[zAJ (hx b n)];exact n,fun b u q _=>?_,
  fun b xs q=>by rw[zAJ (hm b _ q fun z=>z)];exact q,fun b u xs q=>by rw[zAJ (hm b _ q fun z=>z)];exact q,fun b ps q=>⟨#[],by rw[zAJ (hm b _ q fun z=>z),q];simp⟩⟩
 by_cases hbe:b=e
 ·subst hbe;exact heo
 ·exact⟨u,k b u hbe q⟩
end
noncomputable def trk(h:Heap)(H:Hp):List Addr:=(qAg h.objs.size).filter fun a=>(H a).isSome
def hidT(h:Heap)(H:Hp):Heap:=PySem.W.hideAll h (trk h H)
theorem zQL(h:Heap)(H:Hp):(hidT h H).objs.size=h.objs.size:=PySem.W.hideAll_size _ _
theorem zSW{h:Heap}{H:Hp}{b:Addr}{o:Obj}(e:h.get? b=some o)(n:H b=none):(hidT h H).get? b=some o:=
 PySem.W.hideAll_get _ e fun hm=>by
  have q:(H b).isSome=true:=(qFo.mp hm).2;rw[n]at q;simp at q
theorem zVY{h:Heap}{H:Hp}{b:Addr}{o:Obj}(e:(hidT h H).get? b=some o):h.get? b=some o/\H b=none:=by
 have e':h.get? b=some o:=PySem.W.of_hideAll (trk h H) e;refine⟨e',?_⟩;cases q:H b with
 |none=>rfl
 |some x=>
  have hm:b∈trk h H:=qFo.mpr ⟨qBw.mpr (qH8 e'),by simp[q]⟩;have z:(hidT h H).get? b=none:=PySem.W.hideAll_none (trk h H) hm;rw[z]at e;cases e
noncomputable def zWY(g h:Heap)(L:Addr):List (Addr×Obj):=(qAg h.objs.size).filterMap fun a=>if a=L\/(g.get? a).isSome=true then none else(h.get? a).map fun o=>(a,o)
def rest(g h:Heap)(L d:Addr):List (Addr×Obj):=(zWY g h L).filter fun p=>decide (p.1≠d)
structure Mod(K:qA1)(mg:Str->Option Value)(base:Heap):Prop where
 kin:K.In base
 glob:base.Ns qHc mg
 blt:∃mb,base.Ns qIn mb/\∀x:Str,x≠"__name__"->mb x=qHy x
 nolimit:base.NoLimit
 bm:∃bm ob,mg "__builtins__" = some (.ref bm)/\bm≠qIn/\base.get? bm=some ob/\ob.cls=.type "module"/\ob.dict=some qIn/\ob.data=.plain
structure Cx where
 prog:qH9
 w:World
 K:qA1
 mg:Str->Option Value
 base:Heap
 A:qHb
 N:List Str
 s₀:qH6
 H₀:Hp
 env:Env
 outer:List Env
 stack:List Env
 ex:List Addr
 fn:Str->Bool
 calm:Bool
 pn:List (Addr×Obj)
 xe:Value->qH6->Prop
noncomputable def frs(l:List Env):List Addr:=l.filterMap (·.frame)
abbrev Cx.fs(X:Cx):List Addr:=frs X.outer
def Vis(sc:Scope)(x:Str):Prop:=sc.names.lookup x=some .local\/sc.names.lookup x=some .cell\/sc.names.lookup x=some .free
def Loc(sc:Scope)(x:Str):Prop:=sc.names.lookup x=some .local\/sc.names.lookup x=some .cell
def Look(env:Env)(h:Heap)(m:Str->Option Value)(x:Str)(u:Value):Prop:=
 (env.kindOf x=some .local/\m x=some u)\/((env.kindOf x=some .cell\/env.kindOf x=some .free)/\∃c,env.cells.lookup x=some c/\h.IsCell c (some u))
structure Cx.Ok(X:Cx):Prop where
 mod:Mod X.K X.mg X.base
 kind:X.env.scope.kind=.function
 glob:X.env.globals=qHc
 blt:X.env.builtins=qIn
 above:X.s₀.heap.objs.size<=X.env.locals
 inj:∀x y c,X.env.cells.lookup x=some c->X.env.cells.lookup y=some c->x=y
 has:∀x,(X.env.kindOf x=some .cell\/X.env.kindOf x=some .free)->∃c,X.env.cells.lookup x=some c
 cab:∀x c,X.fn x=true->X.env.cells.lookup x=some c->X.s₀.heap.objs.size<=c
 hd:X.calm=true->X.A.handled=none
 frames:X.A.frames=some X.stack
 stk:X.stack=X.outer\/(X.stack=X.env::X.outer/\X.env.frame=some X.env.locals)
 exf:∀b∈X.ex,b≠X.env.locals/\∀x c,X.env.cells.lookup x=some c->c≠b
 bs:∀b o,X.base.get? b=some o->X.s₀.heap.get? b=some o/\X.H₀ b=none
 bsz:X.base.objs.size<=X.s₀.heap.objs.size
 noex:∀b o,X.base.get? b=some o->b∉X.ex
 exfs:∀b∈X.ex,b∉X.fs
 funs:X.s₀.heap.FunFrames X.base X.outer
 frf:∀b∈X.fs,X.H₀ b=none
structure Inv(X:Cx)(pins:List (Addr×Obj))(σ:List (Option V))(H:Hp)(s:qH6):Prop where
 ok:X.Ok
 os:s.os=X.s₀.os
 bare:qJa s.gens
 base:Un X.fs X.ex X.H₀ H X.s₀.heap s.heap
 loc:∃m,s.heap.Ns X.env.locals m/\∀(i:Nat)(x:Str)(v:V),X.N[i]?=some x->σ[i]?=some (some v)->Vis X.env.scope x->∃u,RelV v u/\Look X.env s.heap m x u
 cell:∀x c,X.env.cells.lookup x=some c->∃v,s.heap.IsCell c v
 free:H X.env.locals=none
 freeC:∀x c,X.env.cells.lookup x=some c->H c=none
 pin:∀p∈X.pn++pins,s.heap.get? p.1=some p.2/\H p.1=none/\p.1≠X.env.locals/\p.1∉X.fs/\∀v,p.2.data≠.cell v
 hok:HOk X.prog X.w H s.heap
 len:σ.length=X.N.length
section
variable{X:Cx}{pins:List (Addr×Obj)}{σ:List (Option V)}{H H':Hp}{s:qH6}{h':Heap}
theorem Cx.Ok.nofr(ok:X.Ok){b:Addr}{o:Obj}(e:X.base.get? b=some o):b∉X.fs:=fun hb=>by
 have:=(ok.funs.mem hb).1
 rw[e]at this;cases this
theorem Inv.bs(I:Inv X pins σ H s):∀b o,X.base.get? b=some o->s.heap.get? b=some o/\H b=none:=fun b o e=>
 ⟨I.base.keep b o (I.ok.bs b o e).1 (I.ok.bs b o e).2 (I.ok.nofr e) (I.ok.noex b o e),I.base.free b o (I.ok.bs b o e).1 (I.ok.bs b o e).2 (I.ok.noex b o e)⟩
theorem Inv.bk(I:Inv X pins σ H s):∀b o,X.base.get? b=some o->s.heap.get? b=some o:=fun b o e=>(I.bs b o e).1
theorem Inv.mod(I:Inv X pins σ H s):Mod X.K X.mg X.base:=I.ok.mod
theorem Inv.kIn(I:Inv X pins σ H s):X.K.In s.heap:=I.ok.mod.kin.keeps I.bk
theorem Inv.fr(I:Inv X pins σ H s):∃m,Fr X.base X.env.locals s.heap m:=
 let⟨m,hn,_⟩:=I.loc
 ⟨m,hn,I.bk,qAl I.ok.bsz I.ok.above⟩
theorem Inv.lt(I:Inv X pins σ H s):X.env.locals<s.heap.objs.size:=let⟨_,hn,_⟩:=I.loc;hn.lt
theorem Inv.sz(I:Inv X pins σ H s):X.s₀.heap.objs.size<=s.heap.objs.size:=qAl I.ok.above (qCo I.lt)
theorem Inv.nofs(I:Inv X pins σ H s){a:Addr}(h:s.heap.objs.size<=a):a∉X.fs:=fun hb=>by
 obtain⟨_,o,ho,_⟩:=I.ok.funs.mem hb;exact absurd (qAe (qH8 ho) (qAl I.sz h)) (qC3 _)
theorem Inv.cne(I:Inv X pins σ H s):∀x c,X.env.cells.lookup x=some c->c≠X.env.locals:=fun x c e z=>by
 obtain⟨v,o,ho,hd⟩:=I.cell x c e;obtain⟨m,⟨o',es,ep,ho',hd',_⟩,_⟩:=I.loc;rw[z,ho']at ho;cases ho;rw[hd']at hd;cases hd
theorem Inv.funs(I:Inv X pins σ H s):s.heap.FunFrames X.base X.outer:=by
 have all:∀(l:List Env),(∀b∈frs l,b∈X.fs)->X.s₀.heap.FunFrames X.base l->s.heap.FunFrames X.base l:=by
  intro l
  induction l with
  |nil=>intro _ _;trivial
  |cons env r ih=>
   intro hs hl;obtain⟨hk,⟨L,o,hf,hn,ho,hd⟩,hr⟩:=hl;have hL:L∈X.fs:=hs L (by unfold frs;rw[qD8,hf];exact qBa);obtain⟨sl,e⟩:=I.base.slot L o ho (I.ok.frf L hL) hL fun z=>I.ok.exfs L z hL
   exact⟨hk,⟨L,_,hf,hn,e,hd⟩,ih (fun b hb=>hs b (by unfold frs;rw[qD8,hf];exact qAq _ hb)) hr⟩
 exact all X.outer (fun _ hb=>hb) I.ok.funs
theorem Inv.stack(I:Inv X pins σ H s):s.heap.FunFrames X.base X.stack:=by
 rcases I.ok.stk with e|⟨e,hf⟩
 ·rw[e];exact I.funs
 ·rw[e];obtain⟨m,hn,_⟩:=I.loc;refine .cons (by rw[I.ok.kind];decide) hf hn ?_ I.funs;exact qHq (qAl I.ok.bsz I.ok.above)
theorem Inv.stkSub(I:Inv X pins σ H s):∀b∈frs X.stack,b∈X.env.locals::X.fs:=fun b hb=>by
 rcases I.ok.stk with e|⟨e,hf⟩
 ·rw[e]at hb;exact qAq _ hb
 ·rw[e]at hb;unfold frs at hb;rw[qD8,hf]at hb;exact hb
theorem Inv.stkFree(I:Inv X pins σ H s):∀b∈frs X.stack,H b=none:=fun b hb=>by
 rcases qAj.mp (I.stkSub b hb)with e|hb
 ·rw[e];exact I.free
 ·obtain⟨_,o,ho,_⟩:=I.ok.funs.mem hb;exact I.base.free b o ho (I.ok.frf b hb) fun z=>I.ok.exfs b z hb
theorem Inv.step{g':Array qIf}{t':Nat}{d':Drawn}{ch:List Addr}(I:Inv X pins σ H s)
  (hch:∀b∈ch,(b∈X.ex\/X.s₀.heap.objs.size<=b)/\b≠X.env.locals/\(∀x c,X.env.cells.lookup x=some c->c≠b)/\∀p∈X.pn++pins,p.1≠b)
  (keep:∀b o,b≠X.env.locals->b∉X.fs->b∉ch->s.heap.get? b=some o->H b=none->h'.get? b=some o)
  (slot:∀b o,b≠X.env.locals->b∈X.fs->b∉ch->s.heap.get? b=some o->H b=none->∃sl,h'.get? b=some { o with slots:=sl }) (free:∀b o,b∉ch->s.heap.get? b=some o->H b=none->H' b=none)
  (there:∀b o,b∉ch->s.heap.get? b=some o->∃o',h'.get? b=some o')
  (tups:∀b xs,H b=some (.tup xs)->H' b=some (.tup xs)) (frzs:∀b o u,H b=some (.frz o u)->H' b=some (.frz o u)) (tbls:∀b ps,H b=some (.tbl ps)->∃more,H' b=some (.tbl (ps++more)))
  (ns:∀m,s.heap.Ns X.env.locals m->h'.Ns X.env.locals m) (hok:HOk X.prog X.w H' h') (hg:qJa g') :
  Inv X pins σ H' { s with heap:=h',gens:=g',drawn:=d',toks:=t' }:=by
 have neL:∀b o,X.s₀.heap.get? b=some o->b≠X.env.locals:=fun b o e=>qAo (qAe (qH8 e) I.ok.above)
 have neC:∀b o,X.s₀.heap.get? b=some o->b∉X.ex->b∉ch:=fun b o e hx hb=>by
  rcases(hch b hb).1 with z|z
  ·exact hx z
  ·exact absurd (qAe (qH8 e) z) (qC3 _)
 have cellK:∀x c,X.env.cells.lookup x=some c->∀v,s.heap.IsCell c v->h'.IsCell c v:=fun x c e v ⟨o,ho,hd⟩=>by
  have nch:c∉ch:=fun z=>(hch c z).2.2.1 x c e rfl
  by_cases hc:c∈X.fs
  ·obtain⟨sl,q⟩:=slot c o (I.cne x c e) hc nch ho (I.freeC x c e);exact⟨_,q,hd⟩
  ·exact⟨o,keep c o (I.cne x c e) hc nch ho (I.freeC x c e),hd⟩
 refine⟨I.ok,I.os,hg,⟨fun b o e n hb hx=>?_,fun b o e n hb hx=>?_,fun b o e n hx=>?_,fun b o e hx=>?_,fun b xs e=>tups b xs (I.base.tups b xs e),fun b o xs e=>frzs b o xs (I.base.frzs b o xs e),fun b ps e=>?_⟩,?_,fun x c e=>?_,?_,fun x c e=>?_,fun p hp=>?_,hok,I.len⟩
 ·exact keep b o (neL b o e) hb (neC b o e hx) (I.base.keep b o e n hb hx) (I.base.free b o e n hx)
 ·obtain⟨sl,e1⟩:=I.base.slot b o e n hb hx;obtain⟨sl',e2⟩:=slot b _ (neL b o e) hb (neC b o e hx) e1 (I.base.free b o e n hx);exact⟨sl',e2⟩
 ·obtain⟨o',e1⟩:=I.base.there b o e hx;exact free b o' (neC b o e hx) e1 (I.base.free b o e n hx)
 ·obtain⟨o',e1⟩:=I.base.there b o e hx;exact there b o' (neC b o e hx) e1
 ·obtain⟨m1,e1⟩:=I.base.tbls b ps e;obtain⟨m2,e2⟩:=tbls b _ e1;exact⟨m1++m2,by rw[e2,Array.append_assoc]⟩
 ·obtain⟨m,hn,hl⟩:=I.loc;refine⟨m,ns m hn,fun i x v e1 e2 e3=>?_⟩;obtain⟨u,r,l⟩:=hl i x v e1 e2 e3;refine⟨u,r,?_⟩
  rcases l with l|⟨k,c,e,z⟩
  ·exact .inl l
  ·exact .inr ⟨k,c,e,cellK x c e _ z⟩
 ·obtain⟨v,z⟩:=I.cell x c e;exact⟨v,cellK x c e v z⟩
 ·obtain⟨m,⟨o,_,_,ho,_⟩,_⟩:=I.loc;exact free _ o (fun z=>(hch _ z).2.1 rfl) ho I.free
 ·obtain⟨v,o,ho,hd⟩:=I.cell x c e;exact free c o (fun z=>(hch c z).2.2.1 x c e rfl) ho (I.freeC x c e)
 ·obtain⟨e,n,ne,nf,d⟩:=I.pin p hp;have nch:p.1∉ch:=fun z=>(hch p.1 z).2.2.2 p hp rfl
  exact⟨keep p.1 p.2 ne nf nch e n,free p.1 p.2 nch e n,ne,nf,d⟩
theorem Inv.un{t':Nat}(I:Inv X pins σ H s)(u:Un X.fs [] H H' s.heap h')(hok:HOk X.prog X.w H' h'):Inv X pins σ H' { s with heap:=h',toks:=t' }:=by
 obtain⟨m,⟨o,es,ep,ho,r⟩,_⟩:=id I.loc;obtain⟨sl,hL⟩:=u.any ho I.free (by simp);exact I.step (g':=s.gens) (d':=s.drawn) (ch:=[]) (fun _ z=>nomatch z) (fun b o _ hb _ e n=>u.keep b o e n hb (by simp)) (fun b o _ hb _ e n=>u.slot b o e n hb (by simp)) (fun b o _ e n=>u.free b o e n (by simp)) (fun b o _ e=>u.there b o e (by simp)) u.tups u.frzs u.tbls (fun m' hm=>by
  obtain⟨o',es',ep',ho',r'⟩:=hm;rw[ho]at ho';cases ho';exact⟨_,es',ep',hL,r'⟩) hok I.bare
theorem Inv.call{g':Array qIf}{t':Nat}{d':Drawn}{ch:List Addr}(I:Inv X pins σ H s)(u:Un (frs X.stack) ch H H' s.heap h')(hok:HOk X.prog X.w H' h')(hg:qJa g')
  (hch:∀b∈ch,(b∈X.ex\/X.s₀.heap.objs.size<=b)/\b≠X.env.locals/\(∀x c,X.env.cells.lookup x=some c->c≠b)/\∀p∈X.pn++pins,p.1≠b) :
  Inv X pins σ H' { s with heap:=h',gens:=g',drawn:=d',toks:=t' }:=by
 obtain⟨m,⟨o,es,ep,ho,r⟩,_⟩:=id I.loc;obtain⟨sl,hL⟩:=u.any ho I.free fun z=>(hch _ z).2.1 rfl
 exact I.step (ch:=ch) hch (fun b o hL hb hc e n=>u.keep b o e n (fun z=>(qAj.mp (I.stkSub b z)).elim hL hb) hc) (fun b o _ _ hc e n=>u.any e n hc) (fun b o hc e n=>u.free b o e n hc) (fun b o hc e=>u.there b o e hc) u.tups u.frzs u.tbls (fun m' hm=>by
  obtain⟨o',es',ep',ho',r'⟩:=hm;rw[ho]at ho';cases ho';exact⟨_,es',ep',hL,r'⟩) hok hg
theorem Inv.turned{t':Nat}{it:Addr}(I:Inv X pins σ H s)(k:∀b o,b≠it->s.heap.get? b=some o->h'.get? b=some o)(hn:H it=none)(hL:it≠X.env.locals)
  (h1:it∈X.ex\/X.s₀.heap.objs.size<=it) (h2:∀x c,X.env.cells.lookup x=some c->c≠it) (h3:∀p∈X.pn++pins,p.1≠it):Inv X pins σ H { s with heap:=h',toks:=t' }:=by
 have nit:∀b u,H b=some u->b≠it:=fun b u e z=>by rw[z,hn]at e;cases e
 refine I.step (g':=s.gens) (d':=s.drawn) (ch:=[it]) (fun b hb=>?_) (fun b o _ _ hc e _=>k b o (fun z=>hc (by simp[z])) e) (fun b o _ _ hc e _=>⟨o.slots,k b o (fun z=>hc (by simp[z])) e⟩) (fun _ _ _ _ n=>n)
  (fun b o hc e=>⟨o,k b o (fun z=>hc (by simp[z])) e⟩) (fun _ _ e=>e) (fun _ _ _ e=>e) (fun b ps e=>⟨#[],by rw[e];simp⟩) (fun m hm=>?_) (fun b u e=>?_) I.bare
 ·have e:b=it:=by simpa using hb
  subst e;exact⟨h1,hL,h2,h3⟩
 ·obtain⟨o,es,ep,ho,r⟩:=hm;exact⟨o,es,ep,k _ o (qC1 hL) ho,r⟩
 ·refine(I.hok b u e).stay (fun c v hc q=>k c v ?_ q) (fun _ q=>q) (fun _ _ q=>q) fun _ _ _ q _=>q
  rcases hc with z|z
  ·rw[z];exact nit b u e
  ·exact nit c _ z
theorem Inv.tok(I:Inv X pins σ H s)(t:Nat):Inv X pins σ H { s with toks:=t }:=I.un (h':=s.heap) (t':=t) Un.refl I.hok
theorem Inv.kept{t':Nat}(I:Inv X pins σ H s)(k:∀b u,s.heap.get? b=some u->h'.get? b=some u):Inv X pins σ H { s with heap:=h',toks:=t' }:=I.un (Un.kept k) (I.hok.kept k)
theorem Inv.laid{a:Addr}{o:HO}{t':Nat}(I:Inv X pins σ H s)(k:∀b u,s.heap.get? b=some u->h'.get? b=some u)(hp:s.heap.objs.size<=a)(new:ObjOk X.prog X.w (upd H a o) h' a o) :
  Inv X pins σ (upd H a o) { s with heap:=h',toks:=t' }:=I.un (Un.laid k hp (I.hok.fresh hp)) (I.hok.laid k hp new)
theorem Inv.write{x e:Addr}{o:HO}{t':Nat}(I:Inv X pins σ H s)(mu:Mut (H x))(he:e=x\/H e=some (.own x))(k:∀b u,b≠e->s.heap.get? b=some u->h'.get? b=some u)(heo:∃u,h'.get? e=some u)
  (new:ObjOk X.prog X.w (upd H x o) h' x o):Inv X pins σ (upd H x o) { s with heap:=h',toks:=t' }:=I.un (Un.write mu he k heo) (I.hok.write mu he k heo new)
theorem Inv.weak{σ':List (Option V)}(I:Inv X pins σ H s)(hl:σ'.length=σ.length)(w:∀(i:Nat) v,σ'[i]?=some (some v)->σ[i]?=some (some v)):Inv X pins σ' H s:=
 ⟨I.ok,I.os,I.bare,I.base,let⟨m,hn,hl'⟩:=I.loc;⟨m,hn,fun i x v e1 e2 e3=>hl' i x v e1 (w i v e2) e3⟩,I.cell,I.free,I.freeC,I.pin,I.hok,hl.trans I.len⟩
theorem Inv.pins_of{pins':List (Addr×Obj)}(I:Inv X pins σ H s)(h:∀p∈pins',s.heap.get? p.1=some p.2/\H p.1=none/\p.1≠X.env.locals/\p.1∉X.fs/\∀v,p.2.data≠.cell v):Inv X pins' σ H s:=
 ⟨I.ok,I.os,I.bare,I.base,I.loc,I.cell,I.free,I.freeC,fun p hp=>(qAw.mp hp).elim (fun z=>I.pin p (qBh _ z)) (h p),I.hok,I.len⟩
theorem zJ5{N:List Str}(hN:N.Nodup){i j:Nat}{x:Str}(a:N[i]?=some x)(b:N[j]?=some x):i=j:=by
 obtain⟨h1,e1⟩:=qA2.mp a;obtain⟨h2,e2⟩:=qA2.mp b;exact(qFe hN).mp (e1.trans e2.symm)
theorem zK5{M:Model}{A:qHb}{E:Value->qH6->Prop}{i:Nat}{x:Str}{v:V}{u:Value}{Q:Unit->qH6->Prop}(I:Inv X pins σ H s)(hN:X.N.Nodup)(hi:X.N[i]?=some x)(hx:Loc X.env.scope x)(r:RelV v u)
  (h:∀s',Inv X pins (σ.set i (some v)) H s'->(∃a,qIy a s.heap s'.heap/\(a=X.env.locals\/X.env.cells.lookup x=some a))->Q () s') (hf:X.fn x=true\/X.env.scope.names.lookup x=some .local:=by first|exact .inl rfl|exact .inr rfl|assumption):wpAny M A (storeName X.env x u) Q E s:=by
 obtain⟨m,hn,hl⟩:=id I.loc;have hcls:(X.env.scope.kind==.class||(X.env.scope.kind==.module&&X.env.locals != X.env.globals))=false:=by rw[I.ok.kind];rfl
 have hiσ:i<σ.length:=by rw[I.len];exact(qA2.mp hi).1
 have cne:=I.cne;have tracked:∀{a:Addr}{h':Heap},(∃o,s.heap.get? a=some o/\H a=none)->qIy a s.heap h'->HOk X.prog X.w H h':=fun{a h'} ha hs b ob e=>by
  obtain⟨_,_,hfree⟩:=ha;refine(I.hok b ob e).stay (fun c w' hc q=>(hs.2 c ?_).trans q) (fun _ q=>q) (fun _ _ q=>q) fun _ _ _ q _=>q
  rintro rfl
  rcases hc with rfl|hc
  ·rw[hfree]at e;cases e
  ·rw[hfree]at hc;cases hc
 rcases hx with hk|hk
 ·refine wpAny_storeName_local hk hn (fun h' hn' hs=>?_) hcls;obtain⟨oL,_,_,hoL,_⟩:=id hn;refine h _ ⟨I.ok,I.os,I.bare,⟨fun b o e n hb hx=>?_,fun b o e n hb hx=>?_,I.base.free,fun b o e hx=>?_,I.base.tups,I.base.frzs,I.base.tbls⟩,⟨_,hn',fun j y v' e1 e2 e3=>?_⟩,fun y c e=>?_,I.free,I.freeC,fun p hp=>?_,tracked ⟨oL,hoL,I.free⟩ hs,by simpa using I.len⟩ ⟨_,hs,.inl rfl⟩
  ·exact(hs.2 b (qAo (qAe (qH8 e) I.ok.above))).trans (I.base.keep b o e n hb hx)
  ·obtain⟨sl,e1⟩:=I.base.slot b o e n hb hx;exact⟨sl,(hs.2 b (qAo (qAe (qH8 e) I.ok.above))).trans e1⟩
  ·obtain⟨o',e1⟩:=I.base.there b o e hx;exact⟨o',(hs.2 b (qAo (qAe (qH8 e) I.ok.above))).trans e1⟩
  ·by_cases hj:j=i
   ·subst hj;rw[hi]at e1;cases e1;rw[qA9 hiσ]at e2;cases e2;exact⟨u,r,.inl ⟨hk,by simp⟩⟩
   ·rw[qAa (qC1 hj)]at e2;obtain⟨u',r',q⟩:=hl j y v' e1 e2 e3;refine⟨u',r',?_⟩
    rcases q with⟨k,e⟩|⟨k,c,e,z⟩
    ·refine .inl ⟨k,?_⟩
     have:y≠x:=fun e=>hj (zJ5 hN e1 (e▸hi))
     simp[this,e]
    ·exact .inr ⟨k,c,e,z.sameBut hs (cne y c e)⟩
  ·obtain⟨w',z⟩:=I.cell y c e;exact⟨w',z.sameBut hs (cne y c e)⟩
  ·obtain⟨e,n,ne,nf,d⟩:=I.pin p hp;exact⟨(hs.2 p.1 ne).trans e,n,ne,nf,d⟩
 ·have hfn:X.fn x=true:=by
   rcases hf with z|z
   ·exact z
   ·rw[z]at hk;cases hk
  obtain⟨c,hc⟩:=I.ok.has x (.inl hk);obtain⟨w',z⟩:=I.cell x c hc;refine wpAny_storeName_cell I.ok.kind hk hc z (fun h' hc' hs=>?_);obtain⟨oc,hoc,hocd⟩:=id z;refine h { s with heap:=h' } ⟨I.ok,I.os,I.bare,⟨fun b o e n hb hx=>?_,fun b o e n hb hx=>?_,I.base.free,fun b o e hx=>?_,I.base.tups,I.base.frzs,I.base.tbls⟩,⟨m,hn.sameBut hs (qC1 (cne x c hc)),fun j y v' e1 e2 e3=>?_⟩,fun y c' e=>?_,I.free,I.freeC,fun p hp=>?_,tracked ⟨oc,hoc,I.freeC x c hc⟩ hs,by simpa using I.len⟩ ⟨c,hs,.inr hc⟩
  ·exact(hs.2 b (qAo (qAe (qH8 e) (I.ok.cab x c hfn hc)))).trans (I.base.keep b o e n hb hx)
  ·obtain⟨sl,e1⟩:=I.base.slot b o e n hb hx;exact⟨sl,(hs.2 b (qAo (qAe (qH8 e) (I.ok.cab x c hfn hc)))).trans e1⟩
  ·obtain⟨o',e1⟩:=I.base.there b o e hx;exact⟨o',(hs.2 b (qAo (qAe (qH8 e) (I.ok.cab x c hfn hc)))).trans e1⟩
  ·by_cases hj:j=i
   ·subst hj;rw[hi]at e1;cases e1;rw[qA9 hiσ]at e2;cases e2;exact⟨u,r,.inr ⟨.inl hk,c,hc,hc'⟩⟩
   ·rw[qAa (qC1 hj)]at e2;obtain⟨u',r',q⟩:=hl j y v' e1 e2 e3;refine⟨u',r',?_⟩
    rcases q with q|⟨k,c',e,z'⟩
    ·exact .inl q
    ·refine .inr ⟨k,c',e,z'.sameBut hs ?_⟩
     rintro rfl
     exact hj (zJ5 hN e1 (I.ok.inj _ _ _ e hc▸hi))
  ·by_cases hcc:c'=c
   ·subst hcc;exact⟨_,hc'⟩
   ·obtain⟨w2,z2⟩:=I.cell y c' e;exact⟨w2,z2.sameBut hs hcc⟩
  ·obtain⟨e,n,ne,nf,d⟩:=I.pin p hp;refine⟨(hs.2 p.1 ?_).trans e,n,ne,nf,d⟩;intro q;rw[q,hoc]at e;have q':oc=p.2:=qB2 e;exact d w' (by rw[<- q'];exact hocd)
theorem zGQ{M:Model}{A:qHb}{E:Value->qH6->Prop}{i:Nat}{x:Str}{v:V}{u:Value}{Q:Unit->qH6->Prop}(I:Inv X pins σ H s)(hN:X.N.Nodup)(hi:X.N[i]?=some x)(hx:Loc X.env.scope x)(r:RelV v u)
  (h:∀s',Inv X pins (σ.set i (some v)) H s'->Q () s') (hf:X.fn x=true\/X.env.scope.names.lookup x=some .local:=by first|exact .inl rfl|exact .inr rfl|assumption):wpAny M A (storeName X.env x u) Q E s:=
 zK5 I hN hi hx r (fun s' I' _=>h s' I') hf
theorem Inv.call'{s':qH6}{ch:List Addr}(I:Inv X pins σ H s)(ho:s'.os=s.os)(u:Un (frs X.stack) ch H H' s.heap s'.heap)(hok:HOk X.prog X.w H' s'.heap)(hg:qJa s'.gens)
  (hch:∀b∈ch,(b∈X.ex\/X.s₀.heap.objs.size<=b)/\b≠X.env.locals/\(∀x c,X.env.cells.lookup x=some c->c≠b)/\∀p∈X.pn++pins,p.1≠b):Inv X pins σ H' s':=by
 obtain⟨h',g',d',t',o'⟩:=s';have e:o'=s.os:=ho;subst e;exact I.call (g':=g') (t':=t') (d':=d') u hok hg hch
end
abbrev XK:=Value->Option Addr->Hp->Prop
abbrev St:=List (Option V)
abbrev VK:=V->Hp->Prop
abbrev TE:=St->Hp->VK->Prop
abbrev TT:=St->Hp->(Bool->Hp->Prop)->Prop
abbrev TA:=St->Hp->(List V->Hp->Prop)->Prop
structure Ends where
 nx:St->Hp->Prop
 rt:VK
 bk:St->Hp->Prop:=fun _ _=>False
 ct:St->Hp->Prop:=fun _ _=>False
abbrev TS:=Ends->St->Hp->Prop
def EP(X:Cx)(pins:List (Addr×Obj))(σ:St)(Q:VK)(u:Value)(s':qH6):Prop:=∃v H',Inv X pins σ H' s'/\RelV v u/\Q v H'
def TP(X:Cx)(pins:List (Addr×Obj))(σ:St)(Q:Bool->Hp->Prop)(b:Bool)(s':qH6):Prop:=∃H',Inv X pins σ H' s'/\Q b H'
def AP(X:Cx)(pins:List (Addr×Obj))(σ:St)(Q:List V->Hp->Prop)(us:List Value)(s':qH6):Prop:=∃vs H',Inv X pins σ H' s'/\Vals vs us/\Q vs H'
def SP(X:Cx)(pins:List (Addr×Obj))(D:Ends)(f:Flow)(s':qH6):Prop:=
 match f with
 |.next=>∃σ' H',Inv X pins σ' H' s'/\D.nx σ' H'
 |.brk=>∃σ' H',Inv X pins σ' H' s'/\D.bk σ' H'
 |.cont=>∃σ' H',Inv X pins σ' H' s'/\D.ct σ' H'
 |.ret u=>∃v σ' H',Inv X pins σ' H' s'/\RelV v u/\D.rt v H'
def PE(X:Cx)(e:Expr)(t:TE):Prop:=
 ∀(pins:List (Addr×Obj))(s:qH6)(σ:St)(H:Hp)(Q:VK),Inv X pins σ H s->t σ H Q->wpAny (model X.prog X.w) X.A (eval e X.env) (EP X pins σ Q) X.xe s
def PT(X:Cx)(e:Expr)(t:TT):Prop:=
 ∀(pins:List (Addr×Obj))(s:qH6)(σ:St)(H:Hp)(Q:Bool->Hp->Prop),Inv X pins σ H s->t σ H Q->wpAny (model X.prog X.w) X.A (isTrue e X.env (eval e X.env)) (TP X pins σ Q) X.xe s
def PW(X:Cx)(e:Expr)(t:TT):Prop:=
 ∀(whole:Sem Value)(pins:List (Addr×Obj))(s:qH6)(σ:St)(H:Hp)(Q:Bool->Hp->Prop),Inv X pins σ H s->t σ H Q->wpAny (model X.prog X.w) X.A (isTrue e X.env whole) (TP X pins σ Q) X.xe s
theorem PW.pt{X:Cx}{e:Expr}{t:TT}(h:PW X e t):PT X e t:=h _
def PA(X:Cx)(es:List Expr)(t:TA):Prop:=
 ∀(pos:Pos)(pins:List (Addr×Obj))(s:qH6)(σ:St)(H:Hp)(Q:List V->Hp->Prop),Inv X pins σ H s->t σ H Q->wpAny (model X.prog X.w) X.A (spliced (backTo pos (starEach es X.env))) (AP X pins σ Q) X.xe s
def PS(X:Cx)(st:Stmt)(t:TS):Prop:=
 ∀(pins:List (Addr×Obj))(s:qH6)(σ:St)(H:Hp)(D:Ends),Inv X pins σ H s->t D σ H->wpAny (model X.prog X.w) X.A (exec st X.env) (SP X pins D) X.xe s
def PSs(X:Cx)(st:List Stmt)(t:TS):Prop:=
 ∀(pins:List (Addr×Obj))(s:qH6)(σ:St)(H:Hp)(D:Ends),Inv X pins σ H s->t D σ H->wpAny (model X.prog X.w) X.A (execs st X.env) (SP X pins D) X.xe s
theorem thn{α:Type}{t:Sem α}{Q Q':α->qH6->Prop}{M:Model}{A:qHb}{E:Value->qH6->Prop}{s:qH6}(h:wpAny M A t Q E s)(hQ:∀a s,Q a s->Q' a s):wpAny M A t Q' E s:=wpAny_mono h hQ fun _ _ x=>x
section
variable{X:Cx}
noncomputable def tVar(i:Nat):TE:=fun σ H Q=>∃v,σ[i]?=some (some v)/\Q v H
noncomputable def tC(v:V):TE:=fun _ H Q=>Q v H
theorem zU0{i:Nat}{x:Str}{pos:Pos}(hN:X.N[i]?=some x)(hv:Vis X.env.scope x)(hd:(x==("__debug__":Str))=false:=by decide)(hcd:(x==("__classdict__":Str))=false:=by decide):PE X (.Name x pos) (tVar i):=by
 intro pins s σ H Q I h;obtain⟨v,e,h⟩:=h;obtain⟨m,hn,hl⟩:=I.loc;obtain⟨u,r,l⟩:=hl i x v hN e hv;have fin:EP X pins σ Q u s:=⟨v,H,I,r,h⟩
 rcases l with⟨hk,hm⟩|⟨hk,c,hc,hcell⟩
 ·exact qKz (wpAny_loadName_local I.ok.kind hk hn hm fin) hd
 ·rcases hk with hk|hk
  ·exact qKz (wpAny_loadName_cell I.ok.kind hk hc hcell fin) hd
  ·exact qKz (wpAny_loadName_free I.ok.kind hk hc hcell fin hcd) hd
theorem zAB{i j pos}:PE X (.Constant (.int i) j pos) (tC (.int i)):=fun _ _ _ H _ I h=>wpAny_Constant_int ⟨.int i,H,I.tok _,⟨_,rfl⟩,h⟩
theorem zVP{b j pos}:PE X (.Constant (.bool b) j pos) (tC (.bl b)):=fun _ _ _ H _ I h=>Constant_bool ⟨.bl b,H,I,rfl,h⟩
theorem zN3{j pos}:PE X (.Constant .none j pos) (tC .non):=fun _ _ _ H _ I h=>Constant_none ⟨.non,H,I,rfl,h⟩
theorem zE5{x j pos}:PE X (.Constant (.str x) j pos) (tC (.str x)):=fun _ _ _ H _ I h=>Calls.Constant_str ⟨.str x,H,I.tok _,⟨_,rfl⟩,h⟩
def Gl(X:Cx)(x:Str):Prop:=X.env.kindOf x=some .globalImplicit
theorem zDQ{E:Value->qH6->Prop}{pins:List (Addr×Obj)}{s:qH6}{σ:St}{H:Hp}{x:Str}{u:Value}{pos:Pos}{Q:Value->qH6->Prop}(I:Inv X pins σ H s)(hg:Gl X x)(hm:X.mg x=some u)(h:Q u s)
  (hd:(x==("__debug__":Str))=false:=by decide):wpAny (model X.prog X.w) X.A (eval (.Name x pos) X.env) Q E s:=
 qIt I.ok.kind hg (Calls.loadGlobal_global (by rw[I.ok.glob];exact I.mod.glob.keeps I.bk) hm h) hd
theorem zKW{E:Value->qH6->Prop}{pins:List (Addr×Obj)}{s:qH6}{σ:St}{H:Hp}{x:Str}{u:Value}{pos:Pos}{Q:Value->qH6->Prop}(I:Inv X pins σ H s)(hg:Gl X x)(hm:X.mg x=none)(hv:qHy x=some u)(h:Q u s)
  (hn:x≠"__name__":=by decide) (hd:(x==("__debug__":Str))=false:=by decide):wpAny (model X.prog X.w) X.A (eval (.Name x pos) X.env) Q E s:=by
 obtain⟨mb,h1,h2⟩:=I.mod.blt;exact qIt I.ok.kind hg (Calls.loadGlobal_builtin (by rw[I.ok.glob];exact I.mod.glob.keeps I.bk) hm (by rw[I.ok.blt];exact h1.keeps I.bk) ((h2 x hn).trans hv) h) hd
theorem zGA{x:Str}{v:V}{u:Value}{pos:Pos}(hg:Gl X x)(hm:X.mg x=some u)(r:RelV v u)(hd:(x==("__debug__":Str))=false:=by decide):PE X (.Name x pos) (tC v):=
 fun _ _ _ H _ I h=>zDQ I hg hm ⟨v,H,I,r,h⟩ hd
theorem zF5{x:Str}{v:V}{u:Value}{pos:Pos}(hg:Gl X x)(hm:X.mg x=none)(hv:qHy x=some u)(r:RelV v u)(hn:x≠"__name__":=by decide)(hd:(x==("__debug__":Str))=false:=by decide):PE X (.Name x pos) (tC v):=
 fun _ _ _ H _ I h=>zKW I hg hm hv ⟨v,H,I,r,h⟩ hn hd
variable{a b:Expr}{ta tb:TE}{pos:Pos}
def PC(X:Cx)(op:CmpOp)(a b:Expr)(t:TE):Prop:=
 ∀(pins:List (Addr×Obj))(s:qH6)(σ:St)(H:Hp)(Q:VK),Inv X pins σ H s->t σ H Q ->
  wpAny (model X.prog X.w) X.A (eval a X.env) (fun v s₁=>wpAny (model X.prog X.w) X.A (eval b X.env) (fun u s₂=>wpAny (model X.prog X.w) X.A (compareOp op v u) (EP X pins σ Q) X.xe s₂) X.xe s₁) X.xe s
theorem zSL(b:Expr){op:CmpOp}(h:op≠.In)(h2:op≠.NotIn):qI1 op b=false:=by
 have e1:(op==CmpOp.In)=false:=by cases op<;>first|rfl|exact absurd rfl h
 have e2:(op==qL7)=false:=by cases op<;>first|rfl|exact absurd rfl h2
 cases b<;>simp[qI1,e1,e2]
noncomputable def tB(t:TE):TT:=fun σ H Q=>t σ H fun x H1=>∃c,x=.bl c/\Q c H1
theorem zN0{op:CmpOp}{t:TE}(h:PC X op a b t)(h1:qI1 op b=false:=by first|exact zSL _ (by decide) (by decide)|rfl):PT X (.Compare a [op] [b] pos) (tB t):=by
 intro pins s σ H Q I hw;refine qJl (thn (h pins s σ H _ I hw) fun v s1 h1=>thn h1 fun u s2 h2=>thn h2 fun c s3 z0=>?_) h1;obtain⟨x,H1,I1,r1,q1⟩:=z0;obtain⟨d,rfl,q⟩:=q1;cases r1;exact qJ4 ⟨H1,I1,q⟩
variable{tA tB':TT}{rest:List Expr}
noncomputable def tAnd(t u:TT):TT:=fun σ H Q=>t σ H fun c H1=>if c=true then u σ H1 Q else Q false H1
noncomputable def tOr(t u:TT):TT:=fun σ H Q=>t σ H fun c H1=>if c=true then Q true H1 else u σ H1 Q
noncomputable def tNot(t:TT):TT:=fun σ H Q=>t σ H fun c H1=>Q (!c) H1
theorem zF4(ha:PT X a tA):PW X (.BoolOp .And [a] pos) tA:=by
 intro wh pins s σ H Q I h;refine isTrue_and (thn (ha pins s σ H Q I h) fun c s1 e=>?_);cases c with
 |true=>exact isTrue_and_nil e
 |false=>exact e
theorem zKA(ha:PT X a tA):PW X (.BoolOp .Or [a] pos) tA:=by
 intro wh pins s σ H Q I h;refine isTrue_or (thn (ha pins s σ H Q I h) fun c s1 e=>?_);cases c with
 |false=>exact isTrue_or_nil e
 |true=>exact e
theorem zFN(ha:PT X a tA)(hb:PW X (.BoolOp .And (b::rest) pos) tB'):PW X (.BoolOp .And (a::b::rest) pos) (tAnd tA tB'):=by
 intro wh pins s σ H Q I h;refine isTrue_and (thn (ha pins s σ H _ I h) fun c s1 z0=>?_);obtain⟨H1,I1,q1⟩:=z0;cases c with
 |true=>exact hb wh pins s1 σ H1 Q I1 q1
 |false=>exact⟨H1,I1,q1⟩
theorem zPM(ha:PT X a tA)(hb:PW X (.BoolOp .Or (b::rest) pos) tB'):PW X (.BoolOp .Or (a::b::rest) pos) (tOr tA tB'):=by
 intro wh pins s σ H Q I h;refine isTrue_or (thn (ha pins s σ H _ I h) fun c s1 z0=>?_);obtain⟨H1,I1,q1⟩:=z0;cases c with
 |true=>exact⟨H1,I1,q1⟩
 |false=>exact hb wh pins s1 σ H1 Q I1 q1
theorem zKB(ha:PT X a tA):PT X (.UnaryOp .Not a pos) (tNot tA):=by
 intro pins s σ H Q I h;exact isTrue_not (ha pins s σ H (fun c H1=>Q (!c) H1) I h)
noncomputable def tIf(t:TT)(ta tb:TE):TE:=fun σ H Q=>t σ H fun c H1=>if c=true then ta σ H1 Q else tb σ H1 Q
theorem zSF{c:Expr}(hc:PT X c tA)(ha:PE X a ta)(hb:PE X b tb):PE X (.IfExp c a b pos) (tIf tA ta tb):=by
 intro pins s σ H Q I h;refine wpAny_IfExp (thn (hc pins s σ H _ I h) fun d s1 z0=>?_);obtain⟨H1,I1,q1⟩:=z0;cases d with
 |true=>exact ha pins s1 σ H1 Q I1 q1
 |false=>exact hb pins s1 σ H1 Q I1 q1
end
def SqL(K:qA1)(H:Hp)(a:Addr)(xs:List V):Prop:=
 Rd H a (.lst xs) \/
  ∃(o:Obj)(its:Array Value)(n:Nat),K.lookup a=some o/\o.cls=.type "list"/\o.dict=none/\o.data=.seq its n/\its.size<=sizeLine/\Vals xs its.toList
def SqT(K:qA1)(H:Hp)(a:Addr)(xs:List V):Prop:=
 Rd H a (.tup xs) \/
  ∃(o:Obj)(its:Array Value)(n:Nat),K.lookup a=some o/\o.cls=.type "tuple"/\o.data=.seq its n/\its.size<=sizeLine/\Vals xs its.toList
noncomputable def absV:Value->Option V
 |.none=>some .non
 |.bool b=>some (.bl b)
 |.int i _=>some (.int i)
 |.str x _=>some (.str x)
 |.bytes b _=>some (.byt b)
 |.float b _=>some (.flt b)
 |.ref a=>some (.ref a)
 |.type n=>some (.ty n)
 |_=>none
theorem RelV.abs{x:V}{u:Value}(r:RelV x u):absV u=some x:=by
 cases x with
 |non=>cases r;rfl
 |bl _=>cases r;rfl
 |int _=>obtain⟨t,rfl⟩:=r;rfl
 |str _=>obtain⟨t,rfl⟩:=r;rfl
 |byt _=>obtain⟨t,rfl⟩:=r;rfl
 |flt _=>obtain⟨t,rfl⟩:=r;rfl
 |ref _=>cases r;rfl
 |ty _=>cases r;rfl
theorem RelV.inj{x y:V}{u:Value}(r:RelV x u)(q:RelV y u):x=y:=qB2 (r.abs.symm.trans q.abs)
theorem Vals.inj:∀{xs ys:List V}{us:List Value},Vals xs us->Vals ys us->xs=ys
 |_,_,_,.nil,.nil=>rfl
 |_,_,_,.cons r t,.cons r' t'=>by rw[r.inj r',Vals.inj t t']
section
variable{X:Cx}{pins:List (Addr×Obj)}{σ:St}{H:Hp}{s:qH6}{a:Addr}{xs ys:List V}
theorem SqL.of{K:qA1}(h:H a=some (.lst xs)):SqL K H a xs:=.inl (.inl h)
theorem SqT.of{K:qA1}(h:H a=some (.tup xs)):SqT K H a xs:=.inl (.inl h)
theorem Inv.list(I:Inv X pins σ H s)(h:SqL X.K H a xs):∃its:List Value,Vals xs its/\PlainL s.heap a its.toArray/\xs.length<=sizeLine:=by
 rcases h with h|⟨o,its,n,hk,hc,hd,hs,hz,r⟩
 ·obtain⟨z,its,n,r,e⟩:=h.ok I.hok;exact⟨its,r,⟨_,n,e,rfl,rfl,rfl⟩,z⟩
 ·refine⟨its.toList,r,⟨o,n,I.kIn a o hk,hc,hd,by simpa using hs⟩,?_⟩;have e:=r.length;simp only[qEv]at e;omega
theorem Inv.tuple(I:Inv X pins σ H s)(h:SqT X.K H a xs):∃its:List Value,Vals xs its/\IsTup s.heap a its.toArray/\xs.length<=sizeLine:=by
 rcases h with h|⟨o,its,n,hk,hc,hs,hz,r⟩
 ·obtain⟨z,its,r,p⟩:=h.ok I.hok;exact⟨its,r,p,z⟩
 ·refine⟨its.toList,r,⟨o,I.kIn a o hk,hc,n,by simpa using hs⟩,?_⟩;have e:=r.length;simp only[qEv]at e;omega
theorem Inv.list_inj(I:Inv X pins σ H s)(h:SqL X.K H a xs)(h':SqL X.K H a ys):xs=ys:=by
 obtain⟨its,r,⟨o,n,e,_,_,d⟩,_⟩:=I.list h;obtain⟨its',r',⟨o',n',e',_,_,d'⟩,_⟩:=I.list h';rw[e]at e';cases e';rw[d]at d'
 injection d' with d1 _
 have:its=its':=by simpa using congrArg qGx d1
 subst this;exact r.inj r'
theorem Inv.tuple_inj(I:Inv X pins σ H s)(h:SqT X.K H a xs)(h':SqT X.K H a ys):xs=ys:=by
 obtain⟨its,r,⟨o,e,_,n,d⟩,_⟩:=I.tuple h;obtain⟨its',r',⟨o',e',_,n',d'⟩,_⟩:=I.tuple h';rw[e]at e';cases e';rw[d]at d'
 injection d' with d1 _
 have:its=its':=by simpa using congrArg qGx d1
 subst this;exact r.inj r'
end
abbrev Cx.wish(X:Cx)(E:Value->qH6->Prop):Cx:={ X with xe:=E }
abbrev Cx.nox(X:Cx):Cx:=X.wish fun _ _=>False
theorem Cx.Ok.wish{X:Cx}(ok:X.Ok)(E:Value->qH6->Prop):(X.wish E).Ok:=
 ⟨ok.mod,ok.kind,ok.glob,ok.blt,ok.above,ok.inj,ok.has,ok.cab,ok.hd,ok.frames,ok.stk,ok.exf,ok.bs,ok.bsz,ok.noex,ok.exfs,ok.funs,ok.frf⟩
theorem Cx.Ok.unwish{X:Cx}{E:Value->qH6->Prop}(ok:(X.wish E).Ok):X.Ok:=
 ⟨ok.mod,ok.kind,ok.glob,ok.blt,ok.above,ok.inj,ok.has,ok.cab,ok.hd,ok.frames,ok.stk,ok.exf,ok.bs,ok.bsz,ok.noex,ok.exfs,ok.funs,ok.frf⟩
section
variable{X:Cx}{pins:List (Addr×Obj)}{σ:St}{H:Hp}{s:qH6}{E:Value->qH6->Prop}
theorem Inv.wish(I:Inv X pins σ H s)(E:Value->qH6->Prop):Inv (X.wish E) pins σ H s:=⟨I.ok.wish E,I.os,I.bare,I.base,I.loc,I.cell,I.free,I.freeC,I.pin,I.hok,I.len⟩
theorem Inv.unwish(I:Inv (X.wish E) pins σ H s):Inv X pins σ H s:=⟨I.ok.unwish,I.os,I.bare,I.base,I.loc,I.cell,I.free,I.freeC,I.pin,I.hok,I.len⟩
theorem SP.unwish{D:Ends}{f:Flow}{s':qH6}(h:SP (X.wish E) pins D f s'):SP X pins D f s':=by
 cases f with
 |next=>obtain⟨σ',H',I,q⟩:=h;exact⟨σ',H',I.unwish,q⟩
 |brk=>obtain⟨σ',H',I,q⟩:=h;exact⟨σ',H',I.unwish,q⟩
 |cont=>obtain⟨σ',H',I,q⟩:=h;exact⟨σ',H',I.unwish,q⟩
 |ret u=>obtain⟨v,σ',H',I,r,q⟩:=h;exact⟨v,σ',H',I.unwish,r,q⟩
theorem PSs.nox{st:List Stmt}{t:TS}(h:PSs X.nox st t):PSs X st t:=fun pins s σ H D I hw=>
 wpAny_mono (h pins s σ H D (I.wish _) hw) (fun _ _ q=>q.unwish) fun _ _ z=>qA8 z
end
section
variable{X:Cx}{st:Stmt}{rest:List Stmt}{t u:TS}{e:Expr}{te:TE}{pos:Pos}
noncomputable def zXI:TS:=fun D σ H=>D.nx σ H
noncomputable def tSeq(t u:TS):TS:=fun D σ H=>t { D with nx:=u D } σ H
theorem zBD:PSs X [] zXI:=fun _ _ σ H _ I h=>qHz ⟨σ,H,I,h⟩
theorem zA5(h1:PS X st t)(h2:PSs X rest u):PSs X (st::rest) (tSeq t u):=by
 intro pins s σ H D I h;refine qJf (thn (h1 pins s σ H { D with nx:=u D } I h) fun f s1 q=>?_);cases f with
 |next=>
  obtain⟨σ',H',I',q⟩:=q;exact h2 pins s1 σ' H' D I' q
 |ret v=>exact q
 |brk=>exact q
 |cont=>exact q
theorem zAG(h1:PS X st t):PSs X [st] t:=by
 intro pins s σ H D I h;refine qJf (thn (h1 pins s σ H D I h) fun f s1 q=>?_);cases f with
 |next=>exact qHz q
 |ret v=>exact q
 |brk=>exact q
 |cont=>exact q
theorem Inv.quiet{pins:List (Addr×Obj)}{σ:St}{H:Hp}{s:qH6}(I:Inv X pins σ H s):interactive X.env=false:=by simp[interactive,I.ok.kind]
noncomputable def zG6(te:TE):TS:=fun D σ H=>te σ H fun _ H1=>D.nx σ H1
theorem zBH(he:PE X e te)(hs:qIs e none pos.line X.env=pure false:=by rfl):PS X (.Expr e pos) (zG6 te):=by
 intro pins s σ H D I h;exact wpAny_Expr_any (thn (he pins s σ H _ I h) fun v s1 ⟨x,H1,I1,r1,q1⟩=>⟨σ,H1,I1,q1⟩) I.quiet hs
noncomputable def tRet(te:TE):TS:=fun D σ H=>te σ H D.rt
theorem zAX(he:PE X e te):PS X (.Return (some e) pos) (tRet te):=by
 intro pins s σ H D I h;exact wpAny_Return_some (thn (he pins s σ H _ I h) fun v s1 ⟨x,H1,I1,r1,q1⟩=>⟨x,σ,H1,I1,r1,q1⟩)
noncomputable def tIfS(c:TT)(t u:TS):TS:=fun D σ H=>c σ H fun b H1=>if b=true then t D σ H1 else u D σ H1
theorem zDL{c:Expr}{a b:List Stmt}{tc:TT}(hc:PT X c tc)(ha:PSs X a t)(hb:PSs X b u):PS X (.If c a b pos) (tIfS tc t u):=by
 intro pins s σ H D I h;refine wpAny_If (thn (hc pins s σ H _ I h) fun d s1 z0=>?_);obtain⟨H1,I1,q1⟩:=z0;cases d with
 |true=>exact ha pins s1 σ H1 D I1 q1
 |false=>exact hb pins s1 σ H1 D I1 q1
end
abbrev TG:=V->St->Hp->(St->Hp->Prop)->Prop
abbrev TGs:=List V->St->Hp->(St->Hp->Prop)->Prop
def PG(X:Cx)(target:Expr)(t:TG):Prop:=
 ∀(pins:List (Addr×Obj))(s:qH6)(σ:St)(H:Hp)(v:V)(u:Value)(Q:St->Hp->Prop),Inv X pins σ H s->RelV v u->t v σ H Q ->
  wpAny (model X.prog X.w) X.A (assign target X.env u) (fun _ s'=>∃σ' H',Inv X pins σ' H' s'/\Q σ' H') X.xe s
def PGs(X:Cx)(ts:List Expr)(t:TGs):Prop:=
 ∀(pins:List (Addr×Obj))(s:qH6)(σ:St)(H:Hp)(vs:List V)(us:List Value)(Q:St->Hp->Prop),Inv X pins σ H s->Vals vs us->t vs σ H Q ->
  wpAny (model X.prog X.w) X.A (assignInOrder ((assignEach ts X.env).map (·.2)) us) (fun _ s'=>∃σ' H',Inv X pins σ' H' s'/\Q σ' H') X.xe s
abbrev TSet:=V->V->V->Hp->(Hp->Prop)->Prop
def PSet(X:Cx)(t:TSet):Prop:=
 ∀(pins:List (Addr×Obj))(s:qH6)(σ:St)(H:Hp)(o i v:V)(ov iv u:Value)(Q:Hp->Prop),Inv X pins σ H s->RelV o ov->RelV i iv->RelV v u->t o i v H Q ->
  wpAny (model X.prog X.w) X.A (setItem ov iv u) (fun _ s'=>∃H',Inv X pins σ H' s'/\Q H') X.xe s
section
variable{X:Cx}{pos:Pos}
noncomputable def zGC(i:Nat):TG:=fun v σ H Q=>Q (σ.set i (some v)) H
theorem zB6{i:Nat}{x:Str}(hN:X.N.Nodup)(hi:X.N[i]?=some x)(hx:Loc X.env.scope x)(hf:X.fn x=true\/X.env.scope.names.lookup x=some .local:=by first|exact .inl rfl|exact .inr rfl|assumption):PG X (.Name x pos) (zGC i):=by
 intro pins s σ H v u Q I r h;exact qJ5 (zGQ I hN hi hx r (fun s' I'=>⟨_,H,I',h⟩) hf)
noncomputable def gNil:TGs:=fun vs σ H Q=>vs=[]/\Q σ H
noncomputable def zZ7(t:TG)(u:TGs):TGs:=fun vs σ H Q=>∃v r,vs=v::r/\t v σ H fun σ' H'=>u r σ' H' Q
theorem zLV:PGs X [] gNil:=by
 intro pins s σ H vs us Q I r h;obtain⟨e,h⟩:=h;subst e;cases r;exact assignInOrder_nil ⟨σ,H,I,h⟩
theorem zEI{e:Expr}{es:List Expr}{t:TG}{u:TGs}(h1:PG X e t)(h2:PGs X es u)
  (hs:(assignEach (e::es) X.env).map (·.2)=assign e X.env::(assignEach es X.env).map (·.2):=by rfl):PGs X (e::es) (zZ7 t u):=by
 intro pins s σ H vs us Q I r h;obtain⟨v,vr,e1,h⟩:=h;subst e1;cases r with
 |cons r rr=>
  rw[hs];refine assignInOrder_cons (thn (h1 pins s σ H _ _ _ I r h) fun _ s1 z0=>?_);obtain⟨σ1,H1,I1,q1⟩:=z0;exact h2 pins s1 σ1 H1 _ _ Q I1 rr q1
noncomputable def gTup(K:qA1)(n:Nat)(t:TGs):TG:=fun v σ H Q=>∃a xs,v=.ref a/\SqT K H a xs/\xs.length=n/\t xs σ H Q
theorem zYC{es:List Expr}{k:Nat}{t:TGs}{n:Nat}(hc:X.calm=true)(h:PGs X es t)
  (hn:(assignEach es X.env).length=n:=by rfl) (hst:(assignEach es X.env).findIdx? (·.1)=none:=by rfl):PG X (.Tuple es k pos) (gTup X.K n t):=by
 intro pins s σ H v u Q I r hw;obtain⟨a,xs,e1,hq,hl,hw⟩:=hw;subst e1;cases r;obtain⟨its,rv,ht,hz⟩:=I.tuple hq;refine assign_Tuple_tuple (I.ok.hd hc) ht (by simp[hn,<- hl,rv.length]) hst fun h' hx=>?_
 have I1:Inv X pins σ H { s with heap:=h' }:=I.kept (t':=s.toks) fun b o e=>hx b o (qAo (qH8 e)) e
 exact h pins _ σ H xs _ Q I1 (by simpa using rv) hw
noncomputable def gSub(to ti:TE)(t:TSet):TG:=fun v σ H Q=>to σ H fun o H1=>ti σ H1 fun i H2=>t o i v H2 fun H3=>Q σ H3
theorem zI3{o i:Expr}{to ti:TE}{t:TSet}(ho:PE X o to)(hi:PE X i ti)(hs:PSet X t)
  (ha:∀v,assign (.Subscript o i pos) X.env v=(do
   let ov <- holding [v] (eval o X.env)
   let iv <- holding [v,ov] (eval i X.env)
   qKq pos
   holding [v,ov,iv] (setItem ov iv v)
   release [v,ov,iv] []):=by intro _;rfl):PG X (.Subscript o i pos) (gSub to ti t):=by
 intro pins s σ H v u Q I r h;rw[ha];refine wpAny_bind (wpAny_holding (thn (ho pins s σ H _ I h) fun ov s1 z0=>?_));obtain⟨x,H1,I1,r1,q1⟩:=z0;refine wpAny_bind (wpAny_holding (thn (hi pins s1 σ H1 _ I1 q1) fun iv s2 z0=>?_));obtain⟨y,H2,I2,r2,q2⟩:=z0;refine wpAny_bind (wpAny_standAt (wpAny_bind (wpAny_holding (thn (hs pins s2 σ H2 x y v ov iv u _ I2 r1 r2 r q2) fun _ s3 z0=>?_))));obtain⟨H3,I3,q3⟩:=z0;exact wpAny_release ⟨σ,H3,I3,q3⟩
noncomputable def tAsg(te:TE)(g:TG):TS:=fun D σ H=>te σ H fun x H1=>g x σ H1 D.nx
theorem zFP{tg e:Expr}{te:TE}{g:TG}(he:PE X e te)(hg:PG X tg g)(hs:swapsWithSole [tg] e pos.line X.env=pure false:=by rfl)(hw:swappedStores [tg] e X.env=pure none:=by rfl)
  (h1:(assignEach [tg] X.env).map (·.2)=[assign tg X.env]:=by rfl):PS X (.Assign [tg] e pos) (tAsg te g):=by
 intro pins s σ H D I h;refine qK4 (thn (he pins s σ H _ I h) fun v s1 z0=>?_) hs hw;obtain⟨x,H1,I1,r1,q1⟩:=z0;rw[h1];exact thn (hg pins s1 σ H1 x v _ I1 r1 q1) fun _ s2 q=>q
theorem zTZ{i:Nat}{x:Str}{e:Expr}{te:TE}{pos':Pos}(hN:X.N.Nodup)(hi:X.N[i]?=some x)(hx:Loc X.env.scope x)(he:PE X e te)(hs:qIs e (some (.Name x pos')) pos.line X.env=pure false:=by rfl)(hf:X.fn x=true\/X.env.scope.names.lookup x=some .local:=by first|exact .inl rfl|exact .inr rfl|assumption) :
  PS X (.Assign [.Name x pos'] e pos) (tAsg te (zGC i)):=by
 intro pins s σ H D I h;refine wpAny_Assign_Name (thn (he pins s σ H _ I h) fun v s1 z0=>?_) hs;obtain⟨y,H1,I1,r1,q1⟩:=z0;exact zGQ I1 hN hi hx r1 (fun s2 I2=>⟨_,H1,I2,q1⟩) hf
noncomputable def zP6(c:TT)(tb:TS):TS:=fun D σ H=>∃W:Nat->St->Hp->Prop,(∃m,W m σ H)/\∀m σ H,W m σ H ->
 c σ H fun b H1=>if b=true then ∃N:St->Hp->Prop,(∀σ' H',N σ' H'->∃m',m'<m/\W m' σ' H')/\tb { D with nx:=N,ct:=N,bk:=D.nx } σ H1 else D.nx σ H1
theorem zIV{c:Expr}{body:List Stmt}{tc:TT}{tb:TS}(hp:qKr (model X.prog X.w) X.A X.env X.xe)(hc:PT X c tc)(hb:PSs X body tb):PS X (.While c body [] pos) (zP6 tc tb):=by
 intro pins s σ H D I h;obtain⟨W,⟨m0,w0⟩,turn⟩:=h;refine wpAny_While (codeAny_whileLoop (fun n s'=>∃σ' H',Inv X pins σ' H' s'/\W n σ' H') ?_ m0 ⟨σ,H,I,w0⟩)
 rintro n s1 ⟨σ1,H1,I1,w1⟩
 refine qHu hp (thn (hc pins s1 σ1 H1 _ I1 (turn n σ1 H1 w1)) fun b s2 z0=>?_);obtain⟨H2,I2,q2⟩:=z0;cases b with
 |true=>
  obtain⟨N,hN,q2⟩:=q2;rw[if_pos rfl];refine qHu hp (thn (hb pins s2 σ1 H2 _ I2 q2) fun f s3 q3=>?_);cases f with
  |next=>
   obtain⟨σ3,H3,I3,n3⟩:=q3;obtain⟨m',hm,w3⟩:=hN σ3 H3 n3;exact⟨m',hm,σ3,H3,I3,w3⟩
  |cont=>
   obtain⟨σ3,H3,I3,n3⟩:=q3;obtain⟨m',hm,w3⟩:=hN σ3 H3 n3;exact⟨m',hm,σ3,H3,I3,w3⟩
  |brk=>exact q3
  |ret v=>exact q3
 |false=>
  rw[if_neg qAc];exact qHz ⟨σ1,H2,I2,q2⟩
end
structure It where
 go:Nat->Hp->Prop
 yld:Nat->Hp->V->Hp->Prop
 stop:Nat->Hp->Prop
def FpOk(X:Cx)(pins:List (Addr×Obj))(H:Hp)(b:Addr):Prop:=
 H b=none/\b≠X.env.locals/\b∉X.fs/\(b∈X.ex\/X.s₀.heap.objs.size<=b)/\(∀x c,X.env.cells.lookup x=some c->c≠b)/\∀p∈X.pn++pins,p.1≠b
theorem Inv.fpOk{X:Cx}{pins:List (Addr×Obj)}{σ:St}{H H':Hp}{s:qH6}{b:Addr}(I:Inv X pins σ H s)(hb:s.heap.objs.size<=b)(hn:H' b=none):FpOk X pins H' b:=by
 refine⟨hn,qCp (qAe I.lt hb),I.nofs hb,.inr (qAl I.sz hb),fun x c e z=>?_,fun p hp z=>?_⟩
 ·obtain⟨v,q⟩:=I.cell x c e;exact absurd (qAe q.lt (by rw[z];exact hb)) (qC3 _)
 ·exact absurd (qAe (qH8 (I.pin p hp).1) (by rw[z];exact hb)) (qC3 _)
structure Turn(P:qH9)(w:World)(K:qA1)(tg:Expr)(J:It)(fp:List Addr)(it:Addr)(tn:Nat->Heap->Prop):Prop where
 mem:it∈fp
 obj:∀i h,tn i h->∀b∈fp,∃o,h.get? b=some o/\∀v,o.data≠.cell v
 keep:∀i h h',tn i h->(∀b∈fp,∀o,h.get? b=some o->h'.get? b=some o)->tn i h'
 item:∀(X:Cx),X.prog=P->X.w=w->X.K=K->X.calm=true->∀(i:Nat)(pins:List (Addr×Obj))(s:qH6)(σ:St)(H:Hp)(E:Value->qH6->Prop),Inv X pins σ H s->(∀b∈fp,FpOk X pins H b)->tn i s.heap->J.go i H ->
  wpAny (model P w) X.A (pyNext (.ref it)) (fun r s1=>∃u,r=some u /\
   wpAny (model P w) X.A (letOwnedTupleGo tg (.ref it) u) (fun _ s2=>∃x H',Inv X pins σ H' s2/\RelV x u/\J.yld i H x H'/\tn (i+1) s2.heap/\∀b∈fp,H' b=none) E s1) E s
 done:∀(X:Cx),X.prog=P->X.w=w->X.K=K->X.calm=true->∀(i:Nat)(pins:List (Addr×Obj))(s:qH6)(σ:St)(H:Hp)(E:Value->qH6->Prop),Inv X pins σ H s->(∀b∈fp,FpOk X pins H b)->tn i s.heap->J.stop i H ->
  wpAny (model P w) X.A (pyNext (.ref it)) (fun r s1=>r=none/\Inv X pins σ H s1) E s
 self:∀(A:qHb)(i:Nat)(s:qH6)(Q:Value->qH6->Prop)(E:Value->qH6->Prop),tn i s.heap->Q (.ref it) s->wpAny (model P w) A (pyIter (.ref it)) Q E s
abbrev TI:=St->Hp->(It->Hp->Prop)->Prop
def PIE(X:Cx)(pins:List (Addr×Obj))(σ:St)(tg:Expr)(R:It->Hp->Prop)(itv:Value)(s2:qH6):Prop:=
 ∃(it:Addr)(fp:List Addr)(tn:Nat->Heap->Prop)(J:It)(H':Hp),itv=.ref it/\Inv X pins σ H' s2/\Turn X.prog X.w X.K tg J fp it tn/\tn 0 s2.heap/\(∀b∈fp,FpOk X pins H' b)/\R J H'
def PI(X:Cx)(tg iter:Expr)(wi:TI):Prop:=
 ∀(pins:List (Addr×Obj))(s:qH6)(σ:St)(H:Hp)(R:It->Hp->Prop),Inv X pins σ H s->wi σ H R ->
  wpAny (model X.prog X.w) X.A (eval iter X.env) (fun v s1=>wpAny (model X.prog X.w) X.A (pyIter v) (PIE X pins σ tg R) X.xe s1) X.xe s
theorem zSY{M:Model}{A:qHb}{E:Value->qH6->Prop}{s:qH6}{tg:Expr}{it:Addr}{u:Value}{o:Obj}{n:String}{vs:Array Value}{Q:Unit->qH6->Prop}(ho:s.heap.get? it=some o)(hc:o.cls=.type n)(hd:o.data=.fields vs)
  (hn:["enumerate","zip","dict_itemiterator","dict_reverseitemiterator","odict_iterator","itertools.zip_longest","itertools.pairwise"].contains n=false) (hQ:Q () s):wpAny M A (letOwnedTupleGo tg (.ref it) u) Q E s:=by
 unfold letOwnedTupleGo;cases tg<;>first
  |exact wpAny_pure hQ
  |(cases u<;>first
    |exact wpAny_pure hQ
    |(refine wpAny_bind (wpAny_load ho ?_)
      rw[hc,hd];show wpAny M A (if(["enumerate","zip","dict_itemiterator","dict_reverseitemiterator","odict_iterator","itertools.zip_longest","itertools.pairwise"].contains n&&vs[0]?==some (rawInt _))=true then _ else _) Q E s;rw[if_neg (by intro h;rw[hn,Bool.false_and]at h;cases h)];exact wpAny_pure hQ))
noncomputable def Itl(K:qA1)(a:Addr):It:=
 ⟨fun i H=>∃xs x,SqL K H a xs/\xs[i]?=some x,fun i H x H'=>H'=H/\∀xs,SqL K H a xs->xs[i]?=some x,fun i H=>∃xs,SqL K H a xs/\xs.length<=i⟩
noncomputable def Itt(K:qA1)(a:Addr):It:=
 ⟨fun i H=>∃xs x,SqT K H a xs/\xs[i]?=some x,fun i H x H'=>H'=H/\∀xs,SqT K H a xs->xs[i]?=some x,fun i H=>∃xs,SqT K H a xs/\xs.length<=i⟩
noncomputable def Itr(lo:Int)(n:Nat):It:=⟨fun i _=>i<n,fun i H x H'=>H'=H/\x=.int (lo+i),fun i _=>n<=i⟩
theorem zP2{P:qH9}{w:World}{K:qA1}{tg:Expr}(a it:Addr):Turn P w K tg (Itl K a) [it] it (fun i h=>h.IsListIter it a i) where
 mem:=by simp
 obj:=fun i h st b hb=>by
  have e:b=it:=by simpa using hb
  subst e;obtain⟨o,e,c,d⟩:=st;exact⟨o,e,fun v z=>by rw[d]at z;cases z⟩
 keep:=fun i h h' st k=>st.at fun o e=>k it (by simp) o e
 item:=by
  intro X hP hw hK hc i pins s σ H E I hf st hg;subst hP hw hK;obtain⟨xs,x,hq,hx⟩:=hg;obtain⟨its,rv,p,hz⟩:=I.list hq;obtain⟨u,hu,ru⟩:=rv.get hx;obtain⟨f0,f1,f2,f3,f4,f5⟩:=hf it (by simp);refine wpAny_pyNext_list_item st p.isList (x:=u) (by simpa using hu) fun h' st' sb=>?_
  have I1:Inv X pins σ H { s with heap:=h' }:=I.turned (t':=s.toks) (fun b o hb e=>(sb.2 b hb).trans e) f0 f1 f3 f4 f5;obtain⟨o,e,c,d⟩:=id st';exact⟨u,rfl,zSY (s:={ s with heap:=h' }) e c d (by decide) ⟨x,H,I1,ru,⟨rfl,fun ys hy=>by rw[I.list_inj hy hq];exact hx⟩,st',fun b hb=>(hf b hb).1⟩⟩
 done:=by
  intro X hP hw hK hc i pins s σ H E I hf st hg;subst hP hw hK;obtain⟨xs,hq,hx⟩:=hg;obtain⟨its,rv,p,hz⟩:=I.list hq;obtain⟨f0,f1,f2,f3,f4,f5⟩:=hf it (by simp);have hl:=rv.length;exact wpAny_pyNext_list_end (I.ok.hd hc) st p.isList (by simp;omega) fun h' eb=>⟨rfl,I.turned (t':=s.toks) (fun b o hb e=>eb b o hb e) f0 f1 f3 f4 f5⟩
 self:=fun _ _ _ _ _ st h=>wpAny_pyIter_listiter st h
theorem zNW{P:qH9}{w:World}{K:qA1}{tg:Expr}(a it:Addr):Turn P w K tg (Itt K a) [it] it (fun i h=>h.IsTupleIter it a i) where
 mem:=by simp
 obj:=fun i h st b hb=>by
  have e:b=it:=by simpa using hb
  subst e;obtain⟨o,e,c,d⟩:=st;exact⟨o,e,fun v z=>by rw[d]at z;cases z⟩
 keep:=fun i h h' st k=>st.at fun o e=>k it (by simp) o e
 item:=by
  intro X hP hw hK hc i pins s σ H E I hf st hg;subst hP hw hK;obtain⟨xs,x,hq,hx⟩:=hg;obtain⟨its,rv,p,hz⟩:=I.tuple hq;obtain⟨u,hu,ru⟩:=rv.get hx;obtain⟨f0,f1,f2,f3,f4,f5⟩:=hf it (by simp);refine wpAny_pyNext_tuple_item st (show s.heap.IsTuple a its.toArray from p) (x:=u) (by simpa using hu) fun h' st' sb=>?_
  have I1:Inv X pins σ H { s with heap:=h' }:=I.turned (t':=s.toks) (fun b o hb e=>(sb.2 b hb).trans e) f0 f1 f3 f4 f5;obtain⟨o,e,c,d⟩:=id st';exact⟨u,rfl,zSY (s:={ s with heap:=h' }) e c d (by decide) ⟨x,H,I1,ru,⟨rfl,fun ys hy=>by rw[I.tuple_inj hy hq];exact hx⟩,st',fun b hb=>(hf b hb).1⟩⟩
 done:=by
  intro X hP hw hK hc i pins s σ H E I hf st hg;subst hP hw hK;obtain⟨xs,hq,hx⟩:=hg;obtain⟨its,rv,p,hz⟩:=I.tuple hq;obtain⟨f0,f1,f2,f3,f4,f5⟩:=hf it (by simp);have hl:=rv.length;exact wpAny_pyNext_tuple_end (I.ok.hd hc) st (show s.heap.IsTuple a its.toArray from p) (by simp;omega) fun h' eb=>⟨rfl,I.turned (t':=s.toks) (fun b o hb e=>eb b o hb e) f0 f1 f3 f4 f5⟩
 self:=fun _ _ _ _ _ st h=>wpAny_pyIter_tupleiter st h
theorem zNX{P:qH9}{w:World}{K:qA1}{tg:Expr}(it:Addr)(lo:Int)(n:Nat):Turn P w K tg (Itr lo n) [it] it (fun i h=>IsRangeIter h it (lo+(i:Nat)*1) ((n:Int)-(i:Nat)) 1) where
 mem:=by simp
 obj:=fun i h st b hb=>by
  have e:b=it:=by simpa using hb
  subst e;exact⟨_,st,fun v z=>by
   have z':Data.fields _=Data.cell v:=z;cases z'⟩
 keep:=fun i h h' st k=>k it (by simp) _ st
 item:=by
  intro X hP hw hK hc i pins s σ H E I hf st hg;subst hP hw hK;obtain⟨f0,f1,f2,f3,f4,f5⟩:=hf it (by simp);have W:=Walks.range (prog:=X.prog) (w:=X.w) (I.ok.hd hc) it lo 1 n;refine W.item i s _ _ hg st fun v h' tk hv st' kk=>?_
  obtain⟨t,rfl⟩:=hv;have I1:Inv X pins σ H { s with heap:=h',toks:=tk }:=I.turned (fun b o hb e=>kk b o (by simpa using hb) e) f0 f1 f3 f4 f5;refine⟨_,rfl,zSY (s:={ s with heap:=h',toks:=tk }) (n:="range_iterator") st' rfl rfl (by decide) ⟨.int (lo+i),H,I1,⟨t,?_⟩,⟨rfl,rfl⟩,st',fun b hb=>(hf b hb).1⟩⟩;rw[qGz]
 done:=by
  intro X hP hw hK hc i pins s σ H E I hf st hg;subst hP hw hK;obtain⟨f0,f1,f2,f3,f4,f5⟩:=hf it (by simp);exact wpAny_pyNext_range_end (I.ok.hd hc) st (by have:n<=i:=hg;omega) fun h' eb=>⟨rfl,I.turned (t':=s.toks) (fun b o hb e=>eb b o hb e) f0 f1 f3 f4 f5⟩
 self:=fun _ _ _ _ _ st h=>wpAny_pyIter_rangeiter st h
section
variable{X:Cx}{tg:Expr}
theorem zS6{pins:List (Addr×Obj)}{σ:St}{H:Hp}{s:qH6}{R:It->Hp->Prop}{E:Value->qH6->Prop}{lo hi:Int}{t u v:Tok}{tk:Nat}(I:Inv X pins σ H s)(h1:-(2 ^ 62)<=lo)(h2:lo<2 ^ 62)(h3:-(2 ^ 62)<=hi)(h4:hi<2 ^ 62)
  (q:R (Itr lo (hi-lo).toNat) H):wpAny (model X.prog X.w) X.A (pyIter (.ref s.heap.objs.size)) (PIE X pins σ tg R) E { s with heap:=s.heap.push { cls:=.type "range",data:=.fields #[.int lo t,.int hi u,.int 1 v] },toks:=tk }:=by
 refine wpAny_pyIter_range (IsRange.new ..) (small_one h1 h2 h3 h4) ?_;have I1:Inv X pins σ H { s with heap:=s.heap.push { cls:=.type "range",data:=.fields #[.int lo t,.int hi u,.int 1 v] },toks:=tk }:=I.kept fun b o e=>qH7 _ e
 refine⟨(s.heap.push { cls:=.type "range",data:=.fields #[.int lo t,.int hi u,.int 1 v] }).objs.size,[(s.heap.push { cls:=.type "range",data:=.fields #[.int lo t,.int hi u,.int 1 v] }).objs.size],_,_,H,rfl,
  I1.kept (t':=tk) fun b o e=>qH7 _ e,zNX _ lo (hi-lo).toNat,?_,fun b hb=>?_,q⟩
 ·have e1:lo+((0:Nat):Int)*1=lo:=by simp
  have e2:(((hi-lo).toNat:Nat):Int)-((0:Nat):Int)=qJb lo hi 1:=by rw[rangeSize_one];split<;>omega
  show IsRangeIter _ _ (lo+((0:Nat):Int)*1) ((((hi-lo).toNat:Nat):Int)-((0:Nat):Int)) 1;rw[e1,e2];exact qHf _ rfl
 ·have e:b=(s.heap.push { cls:=.type "range",data:=.fields #[.int lo t,.int hi u,.int 1 v] }).objs.size:=by simpa using hb
  subst e;exact I1.fpOk (qA6 _) (I1.hok.fresh (qA6 _))
def zZ6(ta:TA):TI:=fun σ H R=>ta σ H fun vs H1=>∃j:Int,vs=[.int j]/\-(2 ^ 62)<=j/\j<2 ^ 62/\R (Itr 0 j.toNat) H1
theorem zBW{a:Expr}{ta:TA}{p pos:Pos}(hg:Gl X "range")(hm:X.mg "range" = none)(ha:PA X [a] ta)(hs:starEach [a] X.env=[(false,eval a X.env)]:=by rfl):PI X tg (.Call (.Name "range" p) [a] [] pos) (zZ6 ta):=by
 intro pins s σ H R I h;refine Call_ (zKW I hg hm boot_range (qD9 (thn (ha pos pins s σ H _ I h) fun us s1 z0=>?_) hs rfl));obtain⟨vs,H1,I1,r1,q1⟩:=z0;obtain⟨j,e,q1,q2,q⟩:=q1;subst e;cases r1 with
 |cons r rr=>
  cases rr;obtain⟨t,rfl⟩:=r;exact call_range_1 (zS6 I1 (by omega) (by omega) q1 q2 (by simpa using q))
noncomputable def tFor(wi:TI)(g:TG)(tb:TS):TS:=fun D σ H=>wi σ H fun J H1=>∃W:Nat->Nat->St->Hp->Prop,(∃m,W 0 m σ H1)/\∀i m σ H,W i m σ H ->
 (J.stop i H/\D.nx σ H)\/(J.go i H/\∃N:St->Hp->Prop,(∀σ' H',N σ' H'->∃m',m'<m/\W (i+1) m' σ' H')/\∀x H',J.yld i H x H'->g x σ H' fun σ2 H2=>tb { D with nx:=N,ct:=N,bk:=D.nx } σ2 H2)
noncomputable def zI2(fp:List Addr)(h:Heap):List (Addr×Obj):=fp.filterMap fun b=>(h.get? b).map fun o=>(b,o)
theorem zEL{fp:List Addr}{h:Heap}{b:Addr}{o:Obj}(hb:b∈fp)(e:h.get? b=some o):(b,o)∈zI2 fp h:=qEy.mpr ⟨b,hb,by rw[e];rfl⟩
theorem zQ3{fp:List Addr}{h:Heap}{p:Addr×Obj}(hp:p∈zI2 fp h):p.1∈fp/\h.get? p.1=some p.2:=by
 obtain⟨b,hb,e⟩:=qEy.mp hp;cases q:h.get? b with
 |none=>rw[q]at e;cases e
 |some o=>
  rw[q]at e;have e':(b,o)=p:=qB2 e;subst e';exact⟨hb,q⟩
theorem Inv.pinned{pins:List (Addr×Obj)}{σ:St}{H:Hp}{s:qH6}{fp:List Addr}(I:Inv X pins σ H s)(hf:∀b∈fp,FpOk X pins H b)(ho:∀b∈fp,∃o,s.heap.get? b=some o/\∀v,o.data≠.cell v):Inv X (pins++zI2 fp s.heap) σ H s:=
 I.pins_of fun p hp=>(qAw.mp hp).elim (fun z=>I.pin p (qAm _ z)) fun z=>by
  obtain⟨hb,e⟩:=zQ3 z;obtain⟨f0,f1,f2,_⟩:=hf p.1 hb;obtain⟨o,e',d⟩:=ho p.1 hb;rw[e]at e';cases e';exact⟨e,f0,f1,f2,d⟩
theorem Inv.unpinned{pins pl:List (Addr×Obj)}{σ:St}{H:Hp}{s:qH6}(I:Inv X (pins++pl) σ H s):Inv X pins σ H s:=I.pins_of fun p hp=>I.pin p (qAm _ (qBh _ hp))
theorem zYA{iter:Expr}{body:List Stmt}{wi:TI}{g:TG}{tb:TS}{pos:Pos}(hp:qKr (model X.prog X.w) X.A X.env X.xe)(hc:X.calm=true)(hi:PI X tg iter wi)(hg:PG X tg g)(hb:PSs X body tb)
  (hs:∀x,qIe iter X.env x=pure x:=by intro _;rfl):PS X (.For tg iter body [] pos) (tFor wi g tb):=by
 intro pins s σ H D I h;refine wpAny_For (thn (hi pins s σ H _ I h) fun v s1 h1=>thn h1 fun itv s2 h2=>?_) hs;obtain⟨it,fp,tn,J,H2,e,I2,T,st2,f2,W,⟨m0,w0⟩,turn⟩:=h2;subst e;have stat:∀{H':Hp},(∀b∈fp,H' b=none)->∀b∈fp,FpOk X pins H' b:=fun hn b hb=>⟨hn b hb,(f2 b hb).2⟩
 refine codeAny_forLoop_any (fun n s'=>∃i σ' H',Inv X pins σ' H' s'/\tn i s'.heap/\(∀b∈fp,H' b=none)/\W i n σ' H') ?_ m0 ⟨0,σ,H2,I2,st2,fun b hb=>(f2 b hb).1,w0⟩
 rintro n s3 ⟨i,σ3,H3,I3,st3,fr3,w3⟩
 rcases turn i n σ3 H3 w3 with⟨stop,qn⟩|⟨go,N,hN,step⟩
 ·refine qHu hp (thn (T.done X rfl rfl rfl hc i pins s3 σ3 H3 X.xe I3 (stat fr3) st3 stop) fun r s4 z0=>?_);obtain⟨hr,I4⟩:=z0;subst hr;exact qHz ⟨σ3,H3,I4,qn⟩
 ·refine qHu hp (thn (T.item X rfl rfl rfl hc i pins s3 σ3 H3 X.xe I3 (stat fr3) st3 go) fun r s4 z0=>?_);obtain⟨u,hr,h4⟩:=z0;subst hr;refine qHu hp (thn h4 fun _ s5 z0=>?_);obtain⟨x,H5,I5,r5,y5,st5,fr5⟩:=z0;have I5':=I5.pinned (stat fr5) (T.obj _ _ st5);refine qHu hp (thn (hg _ s5 σ3 H5 x u _ I5' r5 (step x H5 y5)) fun _ s6 z0=>?_);obtain⟨σ6,H6,I6,q6⟩:=z0;refine qHu hp (thn (hb _ s6 σ6 H6 _ I6 q6) fun f s7 q7=>?_);have again:∀{σ7:St}{H7:Hp},Inv X (pins++zI2 fp s5.heap) σ7 H7 s7->N σ7 H7->∃m,m<n/\∃i σ' H',Inv X pins σ' H' s7/\tn i s7.heap/\(∀b∈fp,H' b=none)/\W i m σ' H':=fun{σ7 H7} I7 n7=>by
   obtain⟨m',hm,w7⟩:=hN σ7 H7 n7;refine⟨m',hm,i+1,σ7,H7,I7.unpinned,T.keep _ _ _ st5 fun b hb o e=>(I7.pin (b,o) (qAm _ (qAm _ (zEL hb e)))).1,fun b hb=>?_,w7⟩;obtain⟨o,e,d⟩:=T.obj _ _ st5 b hb;exact(I7.pin (b,o) (qAm _ (qAm _ (zEL hb e)))).2.1
  cases f with
  |next=>obtain⟨σ7,H7,I7,n7⟩:=q7;exact again I7 n7
  |cont=>obtain⟨σ7,H7,I7,n7⟩:=q7;exact again I7 n7
  |brk=>obtain⟨σ7,H7,I7,q7⟩:=q7;exact⟨σ7,H7,I7.unpinned,q7⟩
  |ret v=>obtain⟨x7,σ7,H7,I7,r7,q7⟩:=q7;exact⟨x7,σ7,H7,I7.unpinned,r7,q7⟩
end
abbrev R2:=V->V->Hp->VK->Prop
def OpR(X:Cx)(f:Value->Value->Sem Value)(r:R2):Prop:=
 ∀(pins:List (Addr×Obj))(s:qH6)(σ:St)(H:Hp)(x y:V)(v u:Value)(Q:VK),Inv X pins σ H s->RelV x v->RelV y u->r x y H Q ->
  wpAny (model X.prog X.w) X.A (f v u) (EP X pins σ Q) X.xe s
def UnR(X:Cx)(f:Value->Sem Value)(r:V->Hp->VK->Prop):Prop:=
 ∀(pins:List (Addr×Obj))(s:qH6)(σ:St)(H:Hp)(x:V)(v:Value)(Q:VK),Inv X pins σ H s->RelV x v->r x H Q ->
  wpAny (model X.prog X.w) X.A (f v) (EP X pins σ Q) X.xe s
def zDZ(X:Cx)(f:Value)(r:List V->Hp->VK->Prop):Prop:=
 ∀(pins:List (Addr×Obj))(s:qH6)(σ:St)(H:Hp)(xs:List V)(us:List Value)(Q:VK),Inv X pins σ H s->Vals xs us->r xs H Q ->
  wpAny (model X.prog X.w) X.A (call f us) (EP X pins σ Q) X.xe s
def TruR(X:Cx)(r:V->Hp->(Bool->Hp->Prop)->Prop):Prop:=
 ∀(pins:List (Addr×Obj))(s:qH6)(σ:St)(H:Hp)(x:V)(v:Value)(Q:Bool->Hp->Prop),Inv X pins σ H s->RelV x v->r x H Q ->
  wpAny (model X.prog X.w) X.A (truthy v) (TP X pins σ Q) X.xe s
noncomputable def tOp(r:R2)(ta tb:TE):TE:=fun σ H Q=>ta σ H fun x H1=>tb σ H1 fun y H2=>r x y H2 Q
noncomputable def tUn(r:V->Hp->VK->Prop)(ta:TE):TE:=fun σ H Q=>ta σ H fun x H1=>r x H1 Q
noncomputable def rI(C:Int->Int->Prop)(g:Int->Int->V):R2:=fun x y H Q=>∃i j,x=.int i/\y=.int j/\C i j/\Q (g i j) H
noncomputable def rI0(g:Int->Int->V):R2:=fun x y H Q=>∃i j,x=.int i/\y=.int j/\Q (g i j) H
def rU(g:Int->V):V->Hp->VK->Prop:=fun x H Q=>∃i,x=.int i/\Q (g i) H
section
variable{X:Cx}{a b c:Expr}{ta tb tc:TE}{pos:Pos}
theorem binT(ha:PE X a ta)(hb:PE X b tb){pins:List (Addr×Obj)}{s:qH6}{σ:St}{H:Hp}{R:V->V->Hp->Prop}(I:Inv X pins σ H s)
  (h:ta σ H fun x H1=>tb σ H1 fun y H2=>R x y H2) {Q:Value->qH6->Prop} {f:Value->Value->Sem Value}
  (hf:∀v u s2 x y H2,Inv X pins σ H2 s2->RelV x v->RelV y u->R x y H2->wpAny (model X.prog X.w) X.A (f v u) Q X.xe s2) :
  wpAny (model X.prog X.w) X.A (eval a X.env) (fun v s₁=>wpAny (model X.prog X.w) X.A (eval b X.env) (fun u s₂=>wpAny (model X.prog X.w) X.A (f v u) Q X.xe s₂) X.xe s₁) X.xe s:=by
 refine thn (ha pins s σ H _ I h) fun v s1 z0=>?_
 obtain⟨x,H1,I1,r1,q1⟩:=z0;refine thn (hb pins s1 σ H1 _ I1 q1) fun u s2 z0=>?_
 obtain⟨y,H2,I2,r2,q2⟩:=z0;exact hf v u s2 x y H2 I2 r1 r2 q2
theorem zAO{op:Operator}{r:R2}(ho:OpR X (binaryOp op) r)(ha:PE X a ta)(hb:PE X b tb):PE X (.BinOp a op b pos) (tOp r ta tb):=by
 intro pins s σ H Q I h;exact wpAny_BinOp (binT ha hb I h fun v u s2 x y H2 I2 rx ry q=>ho pins s2 σ H2 x y v u Q I2 rx ry q)
theorem zSD{op:UnaryOp}{r:V->Hp->VK->Prop}(ho:UnR X (unaryOp op) r)(ha:PE X a ta):PE X (.UnaryOp op a pos) (tUn r ta):=by
 intro pins s σ H Q I h;exact UnaryOp_ (thn (ha pins s σ H _ I h) fun v s1 ⟨x,H1,I1,r1,q1⟩=>ho pins s1 σ H1 x v Q I1 r1 q1)
theorem opI{f:Value->Value->Sem Value}{C:Int->Int->Prop}{g:Int->Int->Int}
  (rule:∀(i j:Int)(t u:Tok)(s:qH6)(Q:Value->qH6->Prop)(E:Value->qH6->Prop),C i j->Q (.int (g i j) s.toks) { s with toks:=s.toks+1 }->wpAny (model X.prog X.w) X.A (f (.int i t) (.int j u)) Q E s) :
  OpR X f (rI C fun i j=>.int (g i j)):=by
 intro pins s σ H x y v u Q I rx ry h;obtain⟨i,j,rfl,rfl,hc,q⟩:=h;obtain⟨t,rfl⟩:=rx;obtain⟨t',rfl⟩:=ry;exact rule i j t t' s _ _ hc ⟨.int (g i j),H,I.tok _,⟨_,rfl⟩,q⟩
theorem opI0{f:Value->Value->Sem Value}{g:Int->Int->Int}
  (rule:∀(i j:Int)(t u:Tok)(s:qH6)(Q:Value->qH6->Prop)(E:Value->qH6->Prop),Q (.int (g i j) s.toks) { s with toks:=s.toks+1 }->wpAny (model X.prog X.w) X.A (f (.int i t) (.int j u)) Q E s) :
  OpR X f (rI0 fun i j=>.int (g i j)):=by
 intro pins s σ H x y v u Q I rx ry h;obtain⟨i,j,rfl,rfl,q⟩:=h;obtain⟨t,rfl⟩:=rx;obtain⟨t',rfl⟩:=ry;exact rule i j t t' s _ _ ⟨.int (g i j),H,I.tok _,⟨_,rfl⟩,q⟩
theorem opB0{f:Value->Value->Sem Value}{g:Int->Int->Bool}
  (rule:∀(i j:Int)(t u:Tok)(s:qH6)(Q:Value->qH6->Prop)(E:Value->qH6->Prop),Q (.bool (g i j)) s->wpAny (model X.prog X.w) X.A (f (.int i t) (.int j u)) Q E s) :
  OpR X f (rI0 fun i j=>.bl (g i j)):=by
 intro pins s σ H x y v u Q I rx ry h;obtain⟨i,j,rfl,rfl,q⟩:=h;obtain⟨t,rfl⟩:=rx;obtain⟨t',rfl⟩:=ry;exact rule i j t t' s _ _ ⟨.bl (g i j),H,I,rfl,q⟩
def CMul(i j:Int):Prop:=(-(2 ^ 64)<i/\i<2 ^ 64)\/(-(2 ^ 64)<j/\j<2 ^ 64)
theorem CMul.ok{i j:Int}(h:CMul i j):IntMulOk i j:=by
 rcases h with⟨h1,h2⟩|⟨h1,h2⟩
 ·exact .of_left (intBits_le_64 h1 h2)
 ·exact .of_right (intBits_le_64 h1 h2)
theorem zYO:OpR X (binaryOp .Add) (rI0 fun i j=>.int (i+j)):=opI0 fun _ _ _ _ _ _ _ q=>add_int q
theorem zYH:OpR X (binaryOp .Sub) (rI0 fun i j=>.int (i-j)):=opI0 fun _ _ _ _ _ _ _ q=>sub_int q
theorem zYK:OpR X (binaryOp .Mod) (rI (fun _ j=>0<j) fun i j=>.int (i%j)):=opI fun i j _ _ _ _ _ hc q=>by
 have h1:(0:Int)<j:=hc;exact mod_int' (by omega) (by rw[Int.fmod_eq_emod_of_nonneg i (by omega)];exact q)
theorem zYG:OpR X (binaryOp .BitXor) (rI0 fun i j=>.int (qIg i j)):=opI0 fun _ _ _ _ _ _ _ q=>xor_int q
theorem unI{f:Value->Sem Value}{g:Int->Int}
  (rule:∀(i:Int)(t:Tok)(s:qH6)(Q:Value->qH6->Prop)(E:Value->qH6->Prop),Q (.int (g i) s.toks) { s with toks:=s.toks+1 }->wpAny (model X.prog X.w) X.A (f (.int i t)) Q E s) :
  UnR X f (rU fun i=>.int (g i)):=by
 intro pins s σ H x v Q I rx h;obtain⟨i,rfl,q⟩:=h;obtain⟨t,rfl⟩:=rx;exact rule i t s _ _ ⟨.int (g i),H,I.tok _,⟨_,rfl⟩,q⟩
theorem zXC:UnR X (unaryOp .USub) (rU fun i=>.int (-i)):=unI fun _ _ _ _ _ q=>neg_int q
end
noncomputable def scal:V->V->Bool
 |.non,.non=>true | .non,.int _=>true | .int _,.non=>true | .non,.bl _=>true | .bl _,.non=>true | .non,.str _=>true | .str _,.non=>true
 |.int _,.int _=>true | .bl _,.bl _=>true | .str _,.str _=>true | .byt _,.byt _=>true
 |.int _,.str _=>true | .str _,.int _=>true | .bl _,.str _=>true | .str _,.bl _=>true
 |_,_=>false
def rEq:R2:=fun x y H Q=>scal x y=true/\Q (.bl (decide (x=y))) H
def rNe:R2:=fun x y H Q=>scal x y=true/\Q (.bl (!decide (x=y))) H
theorem zR7{i j:Int}:decide (V.int i=V.int j)=(i==j):=by
 rw[qDa];simp
theorem dec_bl{i j:Bool}:decide (V.bl i=V.bl j)=(i==j):=by
 rw[qDa];simp
theorem zR6{i j:Str}:decide (V.str i=V.str j)=(i==j):=by
 rw[qDa];simp
theorem zR8{i j:Array UInt8}:decide (V.byt i=V.byt j)=(i.toList==j.toList):=by
 rw[qDa];cases i;cases j;simp
section
variable{X:Cx}{a b c:Expr}{ta tb tc:TE}{pos:Pos}
theorem fin_bl{pins:List (Addr×Obj)}{σ:St}{H:Hp}{s:qH6}{Q:VK}{k k':Bool}(I:Inv X pins σ H s)(q:Q (.bl k) H)(e:k=k'):EP X pins σ Q (.bool k') s:=by
 subst e;exact⟨.bl k,H,I,rfl,q⟩
theorem zaJ:OpR X (compareOp .Eq) rEq:=by
 intro pins s σ H x y v u Q I rx ry h;obtain⟨hs,q⟩:=h;cases x with
 |non=>
  cases rx;cases y with
  |non=>cases ry;exact qG4 (fin_bl I q (by simp))
  |bl j=>cases ry;exact qG5 (fin_bl I q (by simp))
  |int j=>obtain⟨t',rfl⟩:=ry;exact qGh (fin_bl I q (by simp))
  |str j=>obtain⟨t',rfl⟩:=ry;exact qGi (fin_bl I q (by simp))
  |_=>exact absurd (show false=true from hs) qAc
 |bl i=>
  cases rx;cases y with
  |non=>cases ry;exact qG6 (fin_bl I q (by simp))
  |bl j=>cases ry;exact eq_bool (fin_bl I q dec_bl)
  |str j=>obtain⟨t',rfl⟩:=ry;exact qG7 (fin_bl I q (by simp))
  |_=>exact absurd (show false=true from hs) qAc
 |int i=>
  obtain⟨t,rfl⟩:=rx;cases y with
  |non=>cases ry;exact qGj (fin_bl I q (by simp))
  |int j=>obtain⟨t',rfl⟩:=ry;exact eq_int (fin_bl I q zR7)
  |str j=>obtain⟨t',rfl⟩:=ry;exact qGk (fin_bl I q (by simp))
  |_=>exact absurd (show false=true from hs) qAc
 |str i=>
  obtain⟨t,rfl⟩:=rx;cases y with
  |non=>cases ry;exact qGl (fin_bl I q (by simp))
  |bl j=>cases ry;exact qG8 (fin_bl I q (by simp))
  |int j=>obtain⟨t',rfl⟩:=ry;exact qGm (fin_bl I q (by simp))
  |str j=>obtain⟨t',rfl⟩:=ry;exact eq_str (fin_bl I q zR6)
  |_=>exact absurd (show false=true from hs) qAc
 |byt i=>
  obtain⟨t,rfl⟩:=rx;cases y with
  |byt j=>obtain⟨t',rfl⟩:=ry;exact PySem.W.eq_bytes (fin_bl I q zR8)
  |_=>exact absurd (show false=true from hs) qAc
 |_=>cases y<;>exact absurd (show false=true from hs) qAc
theorem zaG:OpR X (compareOp .NotEq) rNe:=by
 intro pins s σ H x y v u Q I rx ry h;obtain⟨hs,q⟩:=h;cases x with
 |non=>
  cases rx;cases y with
  |non=>cases ry;exact qG9 (fin_bl I q (by simp))
  |bl j=>cases ry;exact qGa (fin_bl I q (by simp))
  |int j=>obtain⟨t',rfl⟩:=ry;exact qGn (fin_bl I q (by simp))
  |str j=>obtain⟨t',rfl⟩:=ry;exact qGo (fin_bl I q (by simp))
  |_=>exact absurd (show false=true from hs) qAc
 |bl i=>
  cases rx;cases y with
  |non=>cases ry;exact qGb (fin_bl I q (by simp))
  |bl j=>cases ry;exact ne_bool (fin_bl I q (congrArg not dec_bl))
  |str j=>obtain⟨t',rfl⟩:=ry;exact qGc (fin_bl I q (by simp))
  |_=>exact absurd (show false=true from hs) qAc
 |int i=>
  obtain⟨t,rfl⟩:=rx;cases y with
  |non=>cases ry;exact qGp (fin_bl I q (by simp))
  |int j=>obtain⟨t',rfl⟩:=ry;exact ne_int (fin_bl I q (congrArg not zR7))
  |str j=>obtain⟨t',rfl⟩:=ry;exact qGq (fin_bl I q (by simp))
  |_=>exact absurd (show false=true from hs) qAc
 |str i=>
  obtain⟨t,rfl⟩:=rx;cases y with
  |non=>cases ry;exact qGr (fin_bl I q (by simp))
  |bl j=>cases ry;exact qGd (fin_bl I q (by simp))
  |int j=>obtain⟨t',rfl⟩:=ry;exact qGs (fin_bl I q (by simp))
  |str j=>obtain⟨t',rfl⟩:=ry;exact ne_str (fin_bl I q (congrArg not zR6))
  |_=>exact absurd (show false=true from hs) qAc
 |byt i=>
  obtain⟨t,rfl⟩:=rx;cases y with
  |byt j=>obtain⟨t',rfl⟩:=ry;exact PySem.W.ne_bytes (fin_bl I q (congrArg not zR8))
  |_=>exact absurd (show false=true from hs) qAc
 |_=>cases y<;>exact absurd (show false=true from hs) qAc
theorem zaH:OpR X (compareOp .Lt) (rI0 fun i j=>.bl (decide (i<j))):=opB0 fun _ _ _ _ _ _ _ q=>lt_int q
theorem zaI:OpR X (compareOp .Gt) (rI0 fun i j=>.bl (decide (j<i))):=opB0 fun _ _ _ _ _ _ _ q=>gt_int q
theorem zYL:OpR X (compareOp .Is) (fun x y H Q=>y=.non/\Q (.bl (decide (x=.non))) H):=by
 intro pins s σ H x y v u Q I rx ry h;obtain⟨rfl,q⟩:=h;cases ry;refine is_none_gen (fin_bl I q ?_);cases x<;>first
  |(cases rx;rfl)
  |(obtain⟨t,rfl⟩:=rx;rfl)
theorem zVT:OpR X (compareOp .IsNot) (fun x y H Q=>y=.non/\Q (.bl (!decide (x=.non))) H):=by
 intro pins s σ H x y v u Q I rx ry h;obtain⟨rfl,q⟩:=h;cases ry;refine isnot_none_gen (fin_bl I q ?_);cases x<;>first
  |(cases rx;rfl)
  |(obtain⟨t,rfl⟩:=rx;rfl)
theorem zBX(b:Expr){op:CmpOp}(h:op≠.In:=by decide)(h2:op≠.NotIn:=by decide):qI1 op b=false:=by
 have e1:(op==CmpOp.In)=false:=by cases op<;>first|rfl|exact absurd rfl h
 have e2:(op==qL7)=false:=by cases op<;>first|rfl|exact absurd rfl h2
 cases b<;>simp[qI1,e1,e2]
theorem zVO{op:CmpOp}{r:R2}(ho:OpR X (compareOp op) r)(ha:PE X a ta)(hb:PE X b tb)(hm:qI1 op b=false):PE X (.Compare a [op] [b] pos) (tOp r ta tb):=by
 intro pins s σ H Q I h;exact wpAny_Compare1 (binT ha hb I h fun v u s2 x y H2 I2 rx ry q=>ho pins s2 σ H2 x y v u Q I2 rx ry q) hm
def TruV(K:qA1)(x:V)(H:Hp)(k:Bool):Prop:=
 match x with
 |.non=>k=false
 |.bl b=>k=b
 |.int i=>k=(i != 0)
 |.str y=>y.length<=sizeLine/\k=((y.length:Int) != 0)
 |.byt y=>y.size<=sizeLine/\k=((y.size:Int) != 0)
 |.ref p=>(∃xs,SqL K H p xs/\k = !xs.isEmpty)\/(∃xs,SqT K H p xs/\k = !xs.isEmpty)\/∃kvs,H p=some (.dK kvs)/\k = !kvs.isEmpty
 |_=>False
theorem zOG{κ:Type}{kvs:List (κ×V)}{vs:List (κ×Value)}(r:KV kvs vs):(!vs.isEmpty) = !kvs.isEmpty:=by
 cases r<;>rfl
theorem zIA{xs:List V}{its:List Value}(r:Vals xs its):(!its.toArray.isEmpty) = !xs.isEmpty:=by
 cases r<;>simp
theorem zHD:(sizeLine:Nat)<2 ^ 63:=by rw[qHr];decide
theorem zXG:TruR X (fun x H Q=>∃k,TruV X.K x H k/\Q k H):=by
 intro pins s σ H x v Q I rx h;obtain⟨k,e,q⟩:=h;have hl:=zHD;have hs:sizeLine=16777216:=qHr;cases x with
 |non=>
  cases rx;have e':k=false:=e;subst e';exact truthy_none ⟨H,I,q⟩
 |bl b=>
  cases rx;have e':k=b:=e;subst e';exact qJ4 ⟨H,I,q⟩
 |int i=>
  obtain⟨t,rfl⟩:=rx;have e':k=(i != 0):=e;subst e';exact PySem.P.truthy_int ⟨H,I,q⟩
 |str y=>
  obtain⟨t,rfl⟩:=rx;obtain⟨hy,e'⟩:y.length<=sizeLine/\k=((y.length:Int) != 0):=e;subst e';exact PySem.P.truthy_str (by omega) ⟨H,I.tok _,q⟩
 |byt y=>
  obtain⟨t,rfl⟩:=rx;obtain⟨hy,e'⟩:y.size<=sizeLine/\k=((y.size:Int) != 0):=e;subst e';exact PySem.W.truthy_bytes (by omega) ⟨H,I.tok _,q⟩
 |ref p=>
  cases rx;have e':(∃xs,SqL X.K H p xs/\k = !xs.isEmpty)\/(∃xs,SqT X.K H p xs/\k = !xs.isEmpty)\/∃kvs,H p=some (.dK kvs)/\k = !kvs.isEmpty:=e
  rcases e' with⟨xs,hx,e'⟩|⟨xs,hx,e'⟩|⟨kvs,hx,e'⟩
  ·subst e';obtain⟨its,r,pl,hz⟩:=I.list hx;have hlen:=r.length;exact wpAny_truthy_list pl.isList (by simp only[qAd];omega) ⟨H,I.tok _,by rw[zIA r];exact q⟩
  ·subst e';obtain⟨its,r,pl,hz⟩:=I.tuple hx;have hlen:=r.length;exact truthy_tuple pl (by simp only[qAd];omega) ⟨H,I.tok _,by rw[zIA r];exact q⟩
  ·subst e';obtain⟨hz,hS,vs,r,m⟩:kvs.length<=sizeLine/\(p==qHt)=false/\∃vs,KV kvs vs/\s.heap.DictOf (zD0 X.prog X.w) p vs:=I.hok p _ hx;have hlen:kvs.length=vs.length:=qIl r;exact wpAny_truthy_dict hS m (by omega) ⟨H,I.tok _,by rw[zOG r];exact q⟩
 |_=>exact(show False from e).elim
theorem zO7:OpR X (binaryOp .Add) (fun x y H Q=>∃i j,x=.str i/\y=.str j/\i.length+j.length<=sizeLine/\Q (.str (i++j)) H):=by
 intro pins s σ H x y v u Q I rx ry h;obtain⟨i,j,rfl,rfl,hz,q⟩:=h;obtain⟨t,rfl⟩:=rx;obtain⟨t',rfl⟩:=ry;exact add_str (fun t' tk=>⟨.str (i++j),H,I.tok _,⟨_,rfl⟩,q⟩) hz
theorem zK1{x:V}{us:List Value}(r:Vals [x] us):∃u,us=[u]/\RelV x u:=by
 cases r with
 |cons r1 r2=>cases r2;exact⟨_,rfl,r1⟩
theorem zUW{x y:V}{us:List Value}(r:Vals [x,y] us):∃u w',us=[u,w']/\RelV x u/\RelV y w':=by
 cases r with
 |cons r1 r2=>
  cases r2 with
  |cons r3 r4=>cases r4;exact⟨_,_,rfl,r1,r3⟩
end
structure ObjM(h:Heap)(x dx C:Addr)(mA:Str->Option Value):Prop where
 obj:h.get? x=some (qEa C dx)
 ns:h.Ns1 dx mA
 ne:dx≠x
theorem zHC{h:Heap}{dx:Addr}{mA:Str->Option Value}(n:h.Ns1 dx mA):∃od,h.get? dx=some od/\∀name,qEo name od=some (mA name):=by
 obtain⟨o,es,ep,ho,hd,hk,_,hm⟩:=n;refine⟨o,ho,fun name=>?_⟩;have e:=hm name;unfold nsFind findBy at e;rw[<- Array.find?_toList]at e;unfold qEo;rw[hd];dsimp only
 split
 ·rename_i y q
  rw[q]at e;exact congrArg some e
 ·rename_i q
  rw[q]at e;have a:es.toList.any (·.refKey)=false:=by
   rw[qF5];intro y hy;obtain⟨z,t,hkey⟩:=hk y (Array.mem_toList_iff.mp hy);simp[DictEntry.refKey,hkey]
  have a':¬es.toList.any (·.refKey)=true:=by rw[a];exact qAc
  rw[if_neg a'];exact congrArg some e
theorem ObjM.look{h:Heap}{x dx C:Addr}{mA:Str->Option Value}(I:ObjM h x dx C mA):∃od,qEp h x (qEa C dx) C (some od)/\∀name,qEo name od=some (mA name):=
 let⟨od,ho,hl⟩:=zHC I.ns
 ⟨od,⟨I.obj,rfl,rfl,ho⟩,hl⟩
section
variable{prog:qH9}{w:World}{A:qHb}{E:Value->qH6->Prop}{s:qH6}{K:qA1}{x dx C f:Addr}{mA:Str->Option Value}{name:Str}{v:Value}
end
theorem RelO.some_of{v:V}{o:Option Value}(r:RelO (some v) o):∃u,o=some u/\RelV v u:=by
 cases o with
 |none=>exact(show False from r).elim
 |some u=>exact⟨u,rfl,r⟩
theorem zQO{v:V}{u:Value}(r:RelV v u):qE0 u=true:=by
 cases v with
 |non=>cases(show u=qHj from r);rfl
 |bl b=>cases(show u=qJ2 b from r);rfl
 |int i=>obtain⟨t,e⟩:=(show ∃t,u=qIp i t from r);cases e;rfl
 |str x=>obtain⟨t,e⟩:=(show ∃t,u=qIq x t from r);cases e;rfl
 |byt b=>obtain⟨t,e⟩:=(show ∃t,u=qL6 b t from r);cases e;rfl
 |flt b=>obtain⟨t,e⟩:=(show ∃t,u=qKp b t from r);cases e;rfl
 |ref a=>cases(show u=qHa a from r);rfl
 |ty n=>cases(show u=qJ3 n from r);rfl
section
variable{P:qH9}{w:World}{H H':Hp}{h h':Heap}{a C dx:Addr}{fs fs':List (Str×V)}
theorem zWC(hok:HOk P w H h)(e:H a=some (.ins C dx fs)):∃mA,ObjM h a dx C mA/\(∀f,RelO (fs.lookup f) (mA f))/\qGw mA (fs.map (·.1))/\fs.length<=1000/\H dx=some (.own a):=by
 obtain⟨d,z,ne,ob,mA,n,r,q⟩:=(show ObjOk P w H h a (.ins C dx fs) from hok a _ e)
 exact⟨mA,⟨ob,n,ne⟩,r,q,z,d⟩
end
structure Cls(K:qA1)(C:Addr):Prop where
 pg:qFf K C Str.empty=true
 hd:qCw K C=true
 po:PySem.W.plainOver K C=true
 sa:qAi K (.ref C) "__setattr__" = some (some (.builtin "object.__setattr__"))
theorem Cls.get{K:qA1}{C:Addr}(c:Cls K C)(f:Str):qFf K C f=true:=c.pg
def zZS(K:qA1)(C:Addr)(f:Str):Prop:=qAi K (.ref C) f=some none
section
variable{X:Cx}{pins:List (Addr×Obj)}{σ:St}{H:Hp}{s:qH6}{a C dx:Addr}{fs:List (Str×V)}{f:Str}{v:V}{A:qHb}{E:Value->qH6->Prop}
theorem zWW{prog:qH9}{w:World}{env:Env}{e:Expr}{f:Str}{pos:Pos}{s:qH6}{Q:Value->qH6->Prop}(hb:qIm e f env (eval e env)=eval e env)
  (h:wpAny (model prog w) A (eval e env) (fun o s₁=>wpAny (model prog w) A (getAttr o f true) Q E s₁) E s):wpAny (model prog w) A (eval (.Attribute e f pos) env) Q E s:=
 Attribute_any_ h (by rw[arm_eval_Attribute,hb])
end
section
variable{X:Cx}{o e value:Expr}{f:Str}{pos pos' tpos:Pos}{ta tv:TE}
end
section
variable{X:Cx}{pins:List (Addr×Obj)}{σ:St}{H:Hp}{s:qH6}{A:qHb}{E:Value->qH6->Prop}{Q:Value->qH6->Prop}{c:Value}{b:Bool}
inductive TyOf(K:qA1)(H:Hp):V->Value->Prop where
 |non:TyOf K H .non (.type "NoneType")
 |bl (x:Bool):TyOf K H (.bl x) (.type "bool")
 |int (i:Int):TyOf K H (.int i) (.type "int")
 |str (x:Str):TyOf K H (.str x) (.type "str")
 |flt (x:UInt64):TyOf K H (.flt x) (.type "float")
 |lst {a:Addr} {xs:List V} (e:H a=some (.lst xs)):TyOf K H (.ref a) (.type "list")
 |frz {a:Addr} {o:Obj} {xs:List V} (e:H a=some (.frz o (.lst xs))):TyOf K H (.ref a) (.type "list")
 |tup {a:Addr} {xs:List V} (e:H a=some (.tup xs)):TyOf K H (.ref a) (.type "tuple")
 |dK {a:Addr} {kvs:List (Key×V)} (e:H a=some (.dK kvs)):TyOf K H (.ref a) (.type "dict")
 |dT {a:Addr} {T:Addr->Prop} {e0:Nat} {kvs:List (List KeyN×V)} (e:H a=some (.dT T e0 kvs)):TyOf K H (.ref a) (.type "dict")
 |ins {a C dx:Addr} {fs:List (Str×V)} (e:H a=some (.ins C dx fs)) (cl:Cls K C) (ha:qAi K (.ref C) "__class__" = some (some (.builtin "object.__class__")))
   (hn:qCx K (.builtin "object.__class__") "__get__" = some (some (.builtin "getset_descriptor.__get__"))) (htk:qFp K (.builtin "object.__class__")=some true)
   (hm:qDu K C (.type "object")=some true):TyOf K H (.ref a) (.ref C)
theorem zQJ{x:V}{u t:Value}(I:Inv X pins σ H s)(rx:RelV x u)(ty:TyOf X.K H x t)(e:qBb X.K t c=some b)(h:∀tk,Q (.bool b) { s with toks:=tk }) :
  wpAny (model X.prog X.w) A (call (.builtin "isinstance") [u,c]) Q E s:=by
 cases ty with
 |non=>cases(show u=qHj from rx);exact qB3 PySem.W.kitx_none I.kIn qC6 e (fun z=>nomatch z) h
 |bl y=>cases(show u=qJ2 y from rx);exact qB3 PySem.W.kitx_bool I.kIn qC6 e (fun z=>nomatch z) h
 |int i=>obtain⟨t,q⟩:=(show ∃t,u=qIp i t from rx);cases q;exact qB3 PySem.W.kitx_int I.kIn qC6 e (fun z=>nomatch z) h
 |str y=>obtain⟨t,q⟩:=(show ∃t,u=qIq y t from rx);cases q;exact qB3 PySem.W.kitx_str I.kIn qC6 e (fun z=>nomatch z) h
 |flt y=>obtain⟨t,q⟩:=(show ∃t,u=qKp y t from rx);cases q;exact qB3 PySem.W.kitx_float I.kIn qC6 e (fun z=>nomatch z) h
 |@lst a xs ea=>
  cases(show u=qHa a from rx)
  obtain⟨_,_,n,_,h1⟩:=(show ObjOk X.prog X.w H s.heap a (.lst xs) from I.hok a _ ea)
  exact qB3 qF6 I.kIn ⟨_,h1,rfl⟩ e (fun z=>nomatch z) h
 |@frz a ob xs ea=>
  cases(show u=qHa a from rx)
  obtain⟨_,_,_,n,_,h1⟩:=(show ObjOk X.prog X.w H s.heap a (.frz ob (.lst xs)) from I.hok a _ ea)
  exact qB3 qF6 I.kIn ⟨_,h1,rfl⟩ e (fun z=>nomatch z) h
 |@tup a xs ea=>
  cases(show u=qHa a from rx)
  obtain⟨_,_,_,p⟩:=(show ObjOk X.prog X.w H s.heap a (.tup xs) from I.hok a _ ea)
  obtain⟨o,h1,h2,_⟩:=p;exact qB3 PySem.W.kitx_tuple I.kIn ⟨o,h1,h2⟩ e (fun z=>nomatch z) h
 |@dK a kvs ea=>
  cases(show u=qHa a from rx)
  obtain⟨_,_,vs,_,p⟩:=(show ObjOk X.prog X.w H s.heap a (.dK kvs) from I.hok a _ ea)
  obtain⟨o,es,ep,h1,h2,_⟩:=p;exact qB3 qF7 I.kIn ⟨o,h1,h2.1⟩ e (fun z=>nomatch z) h
 |@dT a T e0 kvs ea=>
  cases(show u=qHa a from rx)
  obtain⟨_,_,xs,_,o,es,ep,h1,h2,_⟩:=(show ObjOk X.prog X.w H s.heap a (.dT T e0 kvs) from I.hok a _ ea)
  exact qB3 qF7 I.kIn ⟨o,h1,h2.1⟩ e (fun z=>nomatch z) h
 |@ins a C dx fs ea cl ha hn htk hm=>
  cases(show u=qHa a from rx)
  obtain⟨mA,O,_⟩:=zWC I.hok ea;obtain⟨od,J,_⟩:=O.look;exact qB3 (PySem.W.kitx_own (cl.get _) cl.hd ha hn htk hm) I.kIn J e (fun z=>nomatch z) h
end
structure Room(k:Nat)(A:qHb):Prop where
 hd:A.handled=none
 dp:A.depth+3*k+5<recursionLimit
 un:A.units+16*k+200<cLine
theorem Room.mono{j k:Nat}{A:qHb}(r:Room k A)(h:j<=k):Room j A:=⟨r.hd,by have:=r.dp;omega,by have:=r.un;omega⟩
theorem Room.deeper{k:Nat}{A:qHb}(r:Room (k+1) A)(env:Env):Room k (A.deeper env):=
 ⟨r.hd,by have:=r.dp;show A.depth+1+3*k+5<_;omega,by have:=r.un;show A.units+3+16*k+200<_;omega⟩
theorem zOC{A:qHb}{C:Addr}{us:List Value}{kw:List (Str×Value)}:(A.under (.builtin "type.__call__" ⟨.ref C::us,kw⟩)).depth=A.depth+1:=by
 first|rfl|simp[qKf,Code.weight,Code.isCreation,Code.isGuard,Code.isCaller,Code.frames,qKg,guardIds]
theorem zOB{A:qHb}{C:Addr}{us:List Value}{kw:List (Str×Value)}:(A.under (.builtin "type.__call__" ⟨.ref C::us,kw⟩)).units=A.units+1:=by
 first|rfl|simp[qKf,Code.cUnits,Code.frames,qKg]
theorem Room.make{k:Nat}{A:qHb}(r:Room (k+1) A)(C:Addr)(us:List Value)(kw:List (Str×Value)):Room k (A.under (.builtin "type.__call__" ⟨.ref C::us,kw⟩)):=
 ⟨r.hd,by have:=r.dp;rw[zOC];omega,by have:=r.un;rw[zOB];omega⟩
theorem Room.depth{k:Nat}{A:qHb}(r:Room k A):A.depth<recursionLimit:=by have:=r.dp;omega
theorem Room.units{k:Nat}{A:qHb}(r:Room k A):A.units+64<cLine:=by have:=r.un;omega
noncomputable def tNil:TA:=fun _ H Q=>Q [] H
noncomputable def zCV(ta:TE)(tr:TA):TA:=fun σ H Q=>ta σ H fun x H1=>tr σ H1 fun xs H2=>Q (x::xs) H2
section
variable{X:Cx}{e:Expr}{es:List Expr}{te:TE}{t:TA}{pos:Pos}
theorem zA3:PA X [] tNil:=fun _ _ _ _ H Q I h=>qKb ⟨[],H,I,.nil,h⟩
theorem zA0(ha:PE X e te)(hr:PA X es t)(hs:starEach (e::es) X.env=(false,eval e X.env)::starEach es X.env:=by rfl):PA X (e::es) (zCV te t):=by
 intro pos pins s σ H Q I h;rw[hs];show wpAny _ _ (spliced ((false,eval e X.env)::backTo pos (starEach es X.env))) _ _ s;refine qIz (thn (ha pins s σ H _ I h) fun u s1 z0=>?_);obtain⟨x,H1,I1,r1,q1⟩:=z0;exact thn (hr pos pins s1 σ H1 _ I1 q1) fun us s2 ⟨xs,H2,I2,r2,q2⟩=>⟨x::xs,H2,I2,.cons r1 r2,q2⟩
def tTup(t:TA):TE:=fun σ H Q=>t σ H fun xs H1=>xs.length<=sizeLine/\∀p,H1 p=none->Q (.ref p) (upd H1 p (.tup xs))
def tLst(t:TA):TE:=fun σ H Q=>t σ H fun xs H1=>xs.length<=sizeLine/\∀p,H1 p=none->Q (.ref p) (upd H1 p (.lst xs))
theorem zCY{x1}(h:PA X es t):PE X (.Tuple es x1 pos) (tTup t):=by
 intro pins s σ H Q I hq;refine wpAny_Tuple_spliced (thn (h pos pins s σ H _ I hq) fun us s1 ⟨xs,H1,I1,r,z,q⟩=>⟨by rw[<- r.length];exact z,?_⟩);have hf:H1 s1.heap.objs.size=none:=I1.hok.fresh (qA6 _);refine⟨.ref s1.heap.objs.size,upd H1 s1.heap.objs.size (.tup xs),I1.laid (t':=s1.toks) (fun b u e=>qH7 _ e) (qA6 _) ?_,rfl,q _ hf⟩;exact⟨z,us,r,⟨_,qHf _ rfl,rfl,_,rfl⟩⟩
theorem zB9(h:PA X es t):PE X (.List es pos) (tLst t):=by
 intro pins s σ H Q I hq;refine wpAny_List_spliced (thn (h pos pins s σ H _ I hq) fun us s1 ⟨xs,H1,I1,r,z,q⟩=>⟨by rw[<- r.length];exact z,?_⟩);have hf:H1 s1.heap.objs.size=none:=I1.hok.fresh (qA6 _);refine⟨.ref s1.heap.objs.size,upd H1 s1.heap.objs.size (.lst xs),I1.laid (t':=s1.toks) (fun b u e=>qH7 _ e) (qA6 _) ?_,rfl,q _ hf⟩;exact⟨z,us,0,r,qHf _ rfl⟩
end
abbrev Sp:=List V->Hp->VK->XK->Prop
abbrev CXT:=List Env->Hp->qH6->XK->Value->qH6->Prop
structure Env0(P:qH9)(w:World)(K:qA1)(mg:Str->Option Value)(base:Heap)(A:qHb)(outer:List Env)(s:qH6)(H:Hp):Prop where
 frames:A.frames=some outer
 mod:Mod K mg base
 bs:∀b o,base.get? b=some o->s.heap.get? b=some o/\H b=none
 bsz:base.objs.size<=s.heap.objs.size
 funs:s.heap.FunFrames base outer
 frf:∀b∈frs outer,H b=none
 hok:HOk P w H s.heap
 bare:qJa s.gens
def CE(outer:List Env)(P:qH9)(w:World)(H:Hp)(s:qH6)(Q:VK)(u:Value)(s':qH6):Prop:=
 ∃v H',s'.os=s.os/\qJa s'.gens/\Un (frs outer) [] H H' s.heap s'.heap/\HOk P w H' s'.heap/\RelV v u/\Q v H'
def CR(CX:CXT)(outer:List Env)(P:qH9)(w:World)(H:Hp)(s:qH6)(Q:VK)(E:XK)(r:qKh)(s':qH6):Prop:=
 match r with
 |.ok (.ret u)=>CE outer P w H s Q u s'
 |.ok _=>False
 |.error e=>CX outer H s E e s'
structure FnOk(P:qH9)(w:World)(K:qA1)(mg:Str->Option Value)(base:Heap)(CX:CXT)(k:Nat)(f:Addr)(fd:qHo)(ps:List Str)(sp:Sp):Prop where
 len:∀vs H Q E,sp vs H Q E->vs.length=ps.length
 run:∀(A:qHb)(outer:List Env)(s:qH6)(H:Hp)(args:Args)(us:List Value)(vs:List V)(Q:VK)(E:XK),Room k A->Env0 P w K mg base A outer s H->qK5 s fd args (ps.zip us)->Vals vs us->sp vs H Q E ->
  qIj (model P w) A (.call (.ref f) args) (CR CX outer P w H s Q E) s
theorem FnOk.imp{P:qH9}{w:World}{K:qA1}{mg:Str->Option Value}{base:Heap}{CX:CXT}{k:Nat}{f:Addr}{fd:qHo}{ps:List Str}{sp sp':Sp}(F:FnOk P w K mg base CX k f fd ps sp)
  (h:∀vs H Q E,sp' vs H Q E->sp vs H Q E):FnOk P w K mg base CX k f fd ps sp':=
 ⟨fun vs H Q E q=>F.len vs H Q E (h _ _ _ _ q),fun A outer s H args us vs Q E hr he hb hv hs=>F.run A outer s H args us vs Q E hr he hb hv (h _ _ _ _ hs)⟩
theorem Env0.make{P:qH9}{w:World}{K:qA1}{mg:Str->Option Value}{base:Heap}{A:qHb}{outer:List Env}{s:qH6}{H:Hp}(e:Env0 P w K mg base A outer s H)(C:Addr)(us:List Value)(kw:List (Str×Value)) :
  Env0 P w K mg base (A.under (.builtin "type.__call__" ⟨.ref C::us,kw⟩)) outer s H:=⟨by first|exact e.frames|(simpa[qKf,Code.envs,qKg,pushEnvs]using e.frames),e.mod,e.bs,e.bsz,e.funs,e.frf,e.hok,e.bare⟩
section
variable{X:Cx}{pins:List (Addr×Obj)}{σ:St}{H:Hp}{s s':qH6}
theorem Inv.env0(I:Inv X pins σ H s):Env0 X.prog X.w X.K X.mg X.base X.A X.stack s H:=
 ⟨I.ok.frames,I.ok.mod,I.bs,qAl I.ok.bsz I.sz,I.stack,I.stkFree,I.hok,I.bare⟩
theorem Inv.after{Q:VK}{u:Value}(I:Inv X pins σ H s)(h:CE X.stack X.prog X.w H s Q u s'):EP X pins σ Q u s':=by
 obtain⟨v,H',os,bare,un,hok,r,q⟩:=h;obtain⟨hh,g,d,t,os'⟩:=s';obtain rfl:os'=s.os:=os;exact⟨v,H',I.call (h':=hh) (g':=g) (d':=d) (t':=t) (ch:=[]) un hok bare (fun b z=>absurd z (by simp)),r,q⟩
end
noncomputable def zF3(sp:Sp)(dvs:List V)(E:XK)(t:TA):TE:=fun σ H Q=>t σ H fun vs H1=>sp (vs++dvs) H1 Q E
def Binds(K:qA1)(fd:qHo)(ps:List Str)(ds:List Value):Prop:=
 ∀(s:qH6)(us:List Value),K.In s.heap->(us++ds).length=ps.length->qK5 s fd ⟨us,[]⟩ (ps.zip (us++ds))
theorem Binds.all{K:qA1}{fd:qHo}{ps:List Str}(h:∀us:List Value,us.length=ps.length->qJc fd ⟨us,[]⟩=pure (ps.zip us)):Binds K fd ps []:=fun s us _ hl=>by
 rw[qBq]at hl ⊢;exact .of_eq (h us hl)
def zII(CX:CXT)(X:Cx)(E:XK):Prop:=∀(pins:List (Addr×Obj))(σ:St)(H:Hp)(s:qH6)(e:Value)(s':qH6),Inv X pins σ H s->CX X.stack H s E e s'->X.xe e s'
section
variable{X:Cx}{CX:CXT}{k:Nat}{f C:Addr}{fd:qHo}{ps:List Str}{sp:Sp}{dvs:List V}{ds:List Value}{E:XK}{x m:Str}{p pos apos:Pos}{e o:Expr}{es:List Expr}{ta:TE}{t:TA}
theorem zXS{pins:List (Addr×Obj)}{σ:St}{H:Hp}{s:qH6}{Q:VK}{us:List Value}{vs:List V}(F:FnOk X.prog X.w X.K X.mg X.base CX k f fd ps sp)(hr:Room k X.A)(hb:Binds X.K fd ps ds)(hd:Vals dvs ds)(hx:zII CX X E)
  (I:Inv X pins σ H s) (r:Vals vs us) (h:sp (vs++dvs) H Q E):wpAny (model X.prog X.w) X.A (call (.ref f) us) (EP X pins σ Q) X.xe s:=by
 have r2:Vals (vs++dvs) (us++ds):=r.append hd;have hl:(us++ds).length=ps.length:=by rw[<- r2.length];exact F.len _ _ _ _ h
 refine wpAny_call (codeAny_mono (F.run X.A X.stack s H ⟨us,[]⟩ (us++ds) (vs++dvs) Q E hr I.env0 (hb s us I.kIn hl) r2 h) fun r s' hq=>?_);cases r with
 |error e=>exact hx pins σ H s e s' I hq
 |ok fl=>
  cases fl with
  |ret u=>exact I.after hq
  |next=>exact qA8 hq
  |brk=>exact qA8 hq
  |cont=>exact qA8 hq
theorem zPT(F:FnOk X.prog X.w X.K X.mg X.base CX k f fd ps sp)(hr:Room k X.A)(hg:Gl X x)(hm:X.mg x=some (.ref f))(hk:qAv X.K (.ref f)=true)(hb:Binds X.K fd ps ds)(hd:Vals dvs ds)(hx:zII CX X E)
  (ha:PA X (e::es) t) (hdb:(x==("__debug__":Str))=false:=by decide) (he:starEach (e::es) X.env=(false,eval e X.env)::starEach es X.env:=by rfl) (hpl:(backTo pos (starEach es X.env)).any (·.1)=false:=by rfl) :
  PE X (.Call (.Name x p) (e::es) [] pos) (zF3 sp dvs E t):=by
 intro pins s σ H Q I h;refine qHp (zDQ I hg hm ?_ hdb);refine qC8 (h₀:=X.base) I.ok.mod.kin hk (thn (ha pos pins s σ H _ I h) fun us s1 ⟨vs,H1,I1,r,q⟩=>⟨I1.kIn,?_⟩) he hpl;exact zXS F hr hb hd hx I1 r q
end
section
variable{X:Cx}{CX:CXT}{k:Nat}{f C:Addr}{fd:qHo}{ps ks:List Str}{sp:Sp}{E:XK}{x m:Str}{p pos apos kpos:Pos}{e o:Expr}{es:List Expr}{kws:List qKc}{te ta:TE}{t tk:TA}{nm:Option Str}
variable{g:List Value->List Value->List Value}{gV:List V->List V->List V}
end
structure FnScope(N P:List Str)(sc:Scope):Prop where
 kind:sc.kind=.function
 co:sc.isCoroutine=false
 gen:sc.isGenerator=false
 nd:N.Nodup
 pre:N.take P.length=P
 par:∀x∈P,sc.names.lookup x=some .local\/sc.names.lookup x=some .cell
 nofree:∀y∈sc.names,y.2≠.free
theorem zLK{kindOf:Str->Option qI2}{x:Str}:∀{binds:List (Str×Value)}{m:Str->Option Value},(∀v,(x,v)∉binds)->bindL kindOf binds m x=m x
 |[],_,_=>rfl
 |(n,v)::r,m,h=>by
  unfold bindL;rw[zLK fun w hw=>h w (qAq _ hw)]
  split
  ·have:x≠n:=by rintro rfl;exact h v qBa
   simp[this]
  ·rfl
theorem zLM{kindOf:Str->Option qI2}{x:Str}:∀{binds:List (Str×Value)}{m:Str->Option Value},(∀v,(x,v)∉binds)->bindC kindOf binds m x=m x
 |[],_,_=>rfl
 |(n,v)::r,m,h=>by
  unfold bindC;rw[zLM fun w hw=>h w (qAq _ hw)]
  split
  ·rfl
  ·have:x≠n:=by rintro rfl;exact h v qBa
   simp[this]
theorem zLL{kindOf:Str->Option qI2}{x:Str}{v:Value}:∀{P:List Str}{vs:List Value}{i:Nat}{m:Str->Option Value},P.Nodup->P[i]?=some x->vs[i]?=some v->kindOf x=some .local ->
  bindL kindOf (P.zip vs) m x=some v
 |[],_,_,_,_,h,_,_=>by simp at h
 |_::_,[],_,_,_,_,h,_=>by simp at h
 |p::P,w::vs,0,m,nd,h1,h2,hk=>by
  simp at h1 h2;subst h1;subst h2;show bindL kindOf ((p,w)::P.zip vs) m p=_;unfold bindL;rw[zLK fun v hv=>(qB4.mp nd).1 (qCa hv).1,if_pos hk];simp
 |p::P,w::vs,i+1,m,nd,h1,h2,hk=>by
  show bindL kindOf ((p,w)::P.zip vs) m x=_;unfold bindL;exact zLL (i:=i) (qB4.mp nd).2 (by simpa using h1) (by simpa using h2) hk
theorem zLN{kindOf:Str->Option qI2}{x:Str}{v:Value}:∀{P:List Str}{vs:List Value}{i:Nat}{m:Str->Option Value},P.Nodup->P[i]?=some x->vs[i]?=some v->kindOf x≠some .local ->
  bindC kindOf (P.zip vs) m x=some v
 |[],_,_,_,_,h,_,_=>by simp at h
 |_::_,[],_,_,_,_,h,_=>by simp at h
 |p::P,w::vs,0,m,nd,h1,h2,hk=>by
  simp at h1 h2;subst h1;subst h2;show bindC kindOf ((p,w)::P.zip vs) m p=_;unfold bindC;rw[zLM fun v hv=>(qB4.mp nd).1 (qCa hv).1,if_neg hk];simp
 |p::P,w::vs,i+1,m,nd,h1,h2,hk=>by
  show bindC kindOf ((p,w)::P.zip vs) m x=_;unfold bindC;exact zLN (i:=i) (qB4.mp nd).2 (by simpa using h1) (by simpa using h2) hk
noncomputable def start(N:List Str)(vs:List V):St:=vs.map some++qA5 (N.length-vs.length) none
noncomputable def cxOf(CX:CXT)(P:qH9)(w:World)(K:qA1)(mg:Str->Option Value)(base:Heap)(N:List Str)(qual:Str)(scope:Scope)(f:Addr)(cd:Value)(A:qHb)(outer:List Env)(s:qH6)(H:Hp)(E:XK):Cx where
 prog:=P
 w:=w
 K:=K
 mg:=mg
 base:=base
 A:=A.deeper (envOfC qual scope s.heap.objs.size f cd)
 N:=N
 s₀:=s
 H₀:=H
 env:=envOfC qual scope s.heap.objs.size f cd
 outer:=outer
 stack:=envOfC qual scope s.heap.objs.size f cd::outer
 ex:=[]
 calm:=true
 fn:=fun _=>true
 pn:=[]
 xe:=fun e s'=>wpAny (model P w) (A.deeper (envOfC qual scope s.heap.objs.size f cd)) (leaving (envOfC qual scope s.heap.objs.size f cd) e) (fun _ s''=>CX outer H s E e s'') (fun e' s''=>CX outer H s E e' s'') s'
theorem zNR{sc:Scope}{n:Nat}{x:Str}(h:sc.names.lookup x=some .cell):∃c,(cellsFrom n sc.names []).lookup x=some c:=by
 have q:=qC7 sc.names n [] (.inl h);exact qCq.mp q
theorem zL2{CX:CXT}{P:qH9}{w:World}{K:qA1}{mg:Str->Option Value}{base:Heap}{N ps:List Str}{qual:Str}{scope:Scope}{f:Addr}{cd:Value}{A:qHb}{outer:List Env}{s s1:qH6}{H:Hp}{E:XK}{us:List Value}{vs:List V}
  (S:FnScope N ps scope) (hd:A.handled=none) (e0:Env0 P w K mg base A outer s H) (hl:vs.length=ps.length) (r:Vals vs us)
  (x:InCallC s s.heap.objs.size (bindL (envOfC qual scope s.heap.objs.size f cd).kindOf (ps.zip us) fun _=>none) (cellsFrom (s.heap.objs.size+1) scope.names []) (bindC (envOfC qual scope s.heap.objs.size f cd).kindOf (ps.zip us) fun _=>none) s1) :
  Inv (cxOf CX P w K mg base N qual scope f cd A outer s H E) [] (start N vs) H s1:=by
 have hpl:ps.length<=N.length:=by have:=congrArg qFq S.pre;rw[qE1]at this;omega
 obtain⟨h1,tk,rfl,hk⟩:=x.done;have noA:∀b:Addr,b∉(cxOf CX P w K mg base N qual scope f cd A outer s H E).ex:=fun b z=>absurd (show b∈([]:List Addr) from z) (by simp)
 refine⟨⟨e0.mod,S.kind,rfl,rfl,qA6 _,fun y z c h1 h2=>?_,fun y hy=>?_,fun y c _ h=>?_,fun _=>hd,qJu e0.frames,.inr ⟨rfl,rfl⟩,fun b z=>absurd z (noA b),e0.bs,e0.bsz,fun b _ _=>noA b,fun b z=>absurd z (noA b),e0.funs,e0.frf⟩,
  rfl,e0.bare,Un.kept hk,⟨_,x.toInCall.ns,fun i y v h1 h2 h3=>?_⟩,fun y c h=>⟨_,x.cell y c h⟩,e0.hok.fresh (qA6 _),fun y c h=>?_,fun p hp=>absurd (show p∈([]:List (Addr×Obj)) from hp) (by simp),e0.hok.kept hk,?_⟩
 ·exact name_of_addr x.apart (qC4 h1) (qC4 h2)
 ·have hy:scope.names.lookup y=some .cell\/scope.names.lookup y=some .free:=hy
  rcases hy with hy|hy
  ·exact zNR hy
  ·exact absurd rfl (S.nofree _ (qC4 hy))
 ·exact qCo (x.above y c (qC4 h))
 ·have hi:i<vs.length:=by
   unfold start at h2
   by_cases hi:i<vs.length
   ·exact hi
   ·rw[qAb (by simpa using hi)]at h2;rw[qBf]at h2
    split at h2<;>cases h2
  have ha:vs[i]?=some v:=by
   unfold start at h2;rw[qA7 (by simpa using hi),qAf]at h2;cases e:vs[i]? with
   |none=>rw[e]at h2;cases h2
   |some a=>rw[e]at h2;cases h2;rfl
  obtain⟨u,hu,rv⟩:=r.get ha;have hp:ps[i]?=some y:=by
   rw[<- S.pre,List.getElem?_take_of_lt (by omega)];exact h1
  have ndP:ps.Nodup:=by rw[<- S.pre];exact S.nd.sublist (qF8 _ _)
  refine⟨u,rv,?_⟩
  rcases S.par y (qB5 hp)with k|k
  ·exact .inl ⟨k,zLL ndP hp hu k⟩
  ·obtain⟨c,e⟩:=zNR (n:=s.heap.objs.size+1) k;refine .inr ⟨.inl k,c,e,?_⟩;have q:=x.cell y c e;rw[zLN ndP hp hu (by show scope.names.lookup y≠_;rw[k];decide)]at q;exact q
 ·exact e0.hok.fresh (qCo (x.above y c (qC4 h)))
 ·unfold start;show _=N.length;rw[qAy,qAp,qCz];omega
theorem zZ9{CX:CXT}{P:qH9}{w:World}{K:qA1}{mg:Str->Option Value}{base:Heap}{k:Nat}{f:Addr}{name qual:Str}{params:Arguments}{body:List Stmt}{scope:Scope}{dV kV doc pm cdv ct oc:Value}{an od:Option Addr}
  {osl:Array (Option Value)} {N ps:List Str} {sp:Sp} (lk:K.lookup f=some ⟨oc,od,.func (qAz name qual params body scope dV kV doc pm an cdv ct),osl⟩) (hcd:qBo K cdv qual=true) (S:FnScope N ps scope)
  (len:∀vs H Q E,sp vs H Q E->vs.length=ps.length)
  (hbody:∀(A:qHb)(outer:List Env)(s:qH6)(H:Hp)(vs:List V)(Q:VK)(E:XK),Room k (A.deeper (envOfC qual scope s.heap.objs.size f cdv))->sp vs H Q E ->
   ∃t,PSs (cxOf CX P w K mg base N qual scope f cdv A outer s H E) body t/\t { nx:=fun _ H'=>Q .non H',rt:=Q } (start N vs) H) :
  FnOk P w K mg base CX (k+1) f (qAz name qual params body scope dV kV doc pm an cdv ct) ps sp:=by
 refine⟨len,fun A outer s H args us vs Q E hr e0 hb r hsp=>?_⟩;have hl:=len _ _ _ _ hsp;have KX:K.In s.heap:=e0.mod.kin.keeps fun b o e=>(e0.bs b o e).1
 have lim:s.heap.NoLimit:=e0.mod.nolimit.keeps fun b o e=>(e0.bs b o e).1
 have hkind:∀y∈ps.zip us,scope.names.lookup y.1=some .local\/(scope.names.lookup y.1=some .cell/\((cellsFrom (s.heap.objs.size+1) scope.names []).lookup y.1).isSome=true):=fun⟨n,v⟩ hy=>by
  rcases S.par n (qCa hy).1 with q|q
  ·exact .inl q
  ·exact .inr ⟨q,qC7 _ _ _ (.inl q)⟩
 refine qJm hr.depth (KX _ _ lk) rfl S.co S.gen rfl (qEz KX hcd) (hb _ _ _ _ ?_);refine qIu S.kind hkind fun env he s1 x=>?_
 subst he;refine⟨lim.keeps x.toInCall.keep,codeAny_func ?_⟩;obtain⟨t,ht,hq⟩:=hbody A outer s H vs Q E (hr.deeper _) hsp;have I:Inv (cxOf CX P w K mg base N qual scope f cdv A outer s H E) [] (start N vs) H s1:=zL2 S hr.hd e0 hl r x;refine wpAny_mono (ht [] s1 (start N vs) H _ I hq) (fun fl s' hs=>?_) fun e s' hs=>hs
 have fin:∀{σ':St}{H':Hp}{v:V}{u:Value},Inv (cxOf CX P w K mg base N qual scope f cdv A outer s H E) [] σ' H' s'->RelV v u->Q v H'->CE outer P w H s Q u s':=
  fun{σ' H' v u} J rv q=>⟨v,H',J.os,J.bare,J.base,J.hok,rv,q⟩
 cases fl with
 |ret u=>
  obtain⟨v,σ',H',J,rv,q⟩:=hs;exact fin J rv q
 |next=>
  obtain⟨σ',H',J,q⟩:=hs;exact fin (v:=V.non) (u:=qHj) J rfl q
 |brk=>
  obtain⟨_,_,_,q⟩:=hs;exact qA8 q
 |cont=>
  obtain⟨_,_,_,q⟩:=hs;exact qA8 q
section
variable{X:Cx}{x:Str}{p pos:Pos}{e:Expr}{es:List Expr}{t:TA}{id T:String}{r:List V->Hp->VK->Prop}
noncomputable def tCB(r:List V->Hp->VK->Prop)(t:TA):TE:=fun σ H Q=>t σ H fun vs H1=>r vs H1 Q
theorem zAN(hc:zDZ X (.builtin id) r)(hg:Gl X x)(hm:X.mg x=none)(hv:qHy x=some (.builtin id))(ha:PA X (e::es) t)(hn:x≠"__name__":=by decide)(hdb:(x==("__debug__":Str))=false:=by decide)
  (he:starEach (e::es) X.env=(false,eval e X.env)::starEach es X.env:=by rfl) (hpl:(backTo pos (starEach es X.env)).any (·.1)=false:=by rfl):PE X (.Call (.Name x p) (e::es) [] pos) (tCB r t):=by
 intro pins s σ H Q I h;refine qHp (zKW I hg hm hv ?_ hn hdb);exact qD0 (thn (ha pos pins s σ H _ I h) fun us s1 ⟨vs,H1,I1,r1,q1⟩=>hc pins s1 σ H1 vs us Q I1 r1 q1) he hpl
theorem zBC(hc:zDZ X (.type T) r)(hg:Gl X x)(hm:X.mg x=none)(hv:qHy x=some (.type T))(ha:PA X (e::es) t)(hn:x≠"__name__":=by decide)(hdb:(x==("__debug__":Str))=false:=by decide)
  (he:starEach (e::es) X.env=(false,eval e X.env)::starEach es X.env:=by rfl) (hpl:(backTo pos (starEach es X.env)).any (·.1)=false:=by rfl):PE X (.Call (.Name x p) (e::es) [] pos) (tCB r t):=by
 intro pins s σ H Q I h;refine qHp (zKW I hg hm hv ?_ hn hdb);exact qD9 (thn (ha pos pins s σ H _ I h) fun us s1 ⟨vs,H1,I1,r1,q1⟩=>hc pins s1 σ H1 vs us Q I1 r1 q1) he hpl
end
abbrev TO:=St->Hp->(Option Int->Hp->Prop)->Prop
section
variable{X:Cx}{e:Expr}{te:TE}{lo hi:Option Expr}{tl th:TO}{pos p2:Pos}
end
noncomputable def ixN(n:Nat)(i:Int):Option Nat:=if 0<=i then(if i<n then some i.toNat else none)else if -(n:Int)<=i then some (i+n).toNat else none
def atI{α:Type}(xs:List α)(i:Int):Option α:=(ixN xs.length i).bind fun j=>xs[j]?
theorem zJD{n:Nat}{i:Int}{j:Nat}(h:ixN n i=some j):qKs i n=some j/\j<n/\-(n:Int)<=i/\i<n:=by
 unfold ixN at h
 by_cases h0:0<=i
 ·rw[if_pos h0]at h
  by_cases h1:i<n
  ·rw[if_pos h1]at h;have e:i.toNat=j:=qB2 h;exact⟨by rw[qKt h0 h1,e],by omega,by omega,h1⟩
  ·rw[if_neg h1]at h;cases h
 ·rw[if_neg h0]at h
  by_cases h1:-(n:Int)<=i
  ·rw[if_pos h1]at h;have e:(i+n).toNat=j:=qB2 h;exact⟨by rw[qKi (by omega) h1,e],by omega,h1,by omega⟩
  ·rw[if_neg h1]at h;cases h
theorem zMJ{α:Type}{xs:List α}{i:Int}{v:α}(h:atI xs i=some v):∃j,qKs i xs.length=some j/\xs[j]?=some v/\j<xs.length/\-(xs.length:Int)<=i/\i<xs.length:=by
 unfold atI at h;cases e:ixN xs.length i with
 |none=>rw[e]at h;cases h
 |some j=>
  rw[e]at h;obtain⟨h1,h2,h3,h4⟩:=zJD e;exact⟨j,h1,h,h2,h3,h4⟩
def zRO(b:Expr):Prop:=∀o i,subscripted b false o i=operate [o,i] (getItem o i)
def IxR(X:Cx)(r:R2):Prop:=
 ∀(value slice:Expr)(pins:List (Addr×Obj))(s:qH6)(σ:St)(H:Hp)(x y:V)(v u:Value)(Q:VK),Inv X pins σ H s->RelV x v->RelV y u->r x y H Q ->
  subscripted slice false v u=operate [v,u] (getItem v u)->wpAny (model X.prog X.w) X.A (subscriptTail value slice v u) (EP X pins σ Q) X.xe s
def MtR(X:Cx)(id:String)(r:V->List V->Hp->VK->Prop):Prop:=
 ∀(pins:List (Addr×Obj))(s:qH6)(σ:St)(H:Hp)(x:V)(xs:List V)(v:Value)(us:List Value)(Q:VK),Inv X pins σ H s->RelV x v->Vals xs us->r x xs H Q ->
  wpAny (model X.prog X.w) X.A (call (.builtin id) (v::us)) (EP X pins σ Q) X.xe s
section
variable{X:Cx}{a b:Expr}{ta tb:TE}{pos:Pos}
theorem zBM{r:R2}(hr:IxR X r)(ha:PE X a ta)(hb:PE X b tb)(hs:zRO b):PE X (.Subscript a b pos) (tOp r ta tb):=by
 intro pins s σ H Q I h;exact Subscript_ (binT ha hb I h fun v u s2 x y H2 I2 rx ry q=>hr a b pins s2 σ H2 x y v u Q I2 rx ry q (hs _ _))
def rIxL(K:qA1):R2:=fun x y H Q=>∃p xs i v,x=.ref p/\y=.int i/\SqL K H p xs/\atI xs i=some v/\Q v H
def rIxT(K:qA1):R2:=fun x y H Q=>∃p xs i v,x=.ref p/\y=.int i/\SqT K H p xs/\atI xs i=some v/\Q v H
def rIxS:R2:=fun x y H Q=>∃z i c,x=.str z/\y=.int i/\z.length<=sizeLine/\atI z.cps.toList i=some c/\Q (.str ⟨#[c]⟩) H
theorem zW8:IxR X (rIxL X.K):=by
 intro value slice pins s σ H x y v u Q I rx ry h hs;obtain⟨p,xs,i,z,rfl,rfl,hq,he,q⟩:=h;cases rx;obtain⟨t,rfl⟩:=ry;obtain⟨its,r,pl,hz⟩:=I.list hq;obtain⟨j,h1,h2,h3,h4,h5⟩:=zMJ he;obtain⟨w,ew,rw'⟩:=r.get h2;have hl:=r.length;have hn:=zHD;have fin:EP X pins σ Q w s:=⟨z,H,I,rw',q⟩
 by_cases h0:0<=i
 ·have hj:i.toNat=j:=by
   rw[qKt h0 h5]at h1;exact qB2 h1
  exact item_listR pl.isList h0 (by omega) (by rw[hj];simpa using ew) fin hs
 ·have hj:(i+(its.toArray.size:Int)).toNat=j:=by
   rw[qKi (by omega) h4]at h1;rw[qAd,<- hl];exact qB2 h1
  exact qJh (x:=w) pl.isList.typeIs slot_list_getitem.lookup
   (wpAny_getItem_list_neg (Q:=fun r s'=>r=w/\EP X pins σ Q r s') pl.isList (by omega) (by rw[qAd]<;>omega) (by omega) (by rw[hj];simpa using ew) ⟨rfl,fin⟩) hs
theorem zZ0:IxR X (rIxT X.K):=by
 intro value slice pins s σ H x y v u Q I rx ry h hs;obtain⟨p,xs,i,z,rfl,rfl,hq,he,q⟩:=h;cases rx;obtain⟨t,rfl⟩:=ry;obtain⟨its,r,pl,hz⟩:=I.tuple hq;obtain⟨j,h1,h2,h3,h4,h5⟩:=zMJ he;obtain⟨w,ew,rw'⟩:=r.get h2;have hl:=r.length;have hn:=zHD;have fin:EP X pins σ Q w s:=⟨z,H,I,rw',q⟩
 exact qJh (x:=w) pl.typeIs slot_tuple_getitem.lookup
  (getItem_tuple (j:=j) (Q:=fun r s'=>r=w/\EP X pins σ Q r s') pl (by omega) (by omega) (by rw[qAd,<- hl];exact h1) (by simpa using ew) ⟨rfl,fin⟩) hs
theorem zZ1:IxR X rIxS:=by
 intro value slice pins s σ H x y v u Q I rx ry h hs;obtain⟨z,i,c,rfl,rfl,hz,he,q⟩:=h;obtain⟨t,rfl⟩:=rx;obtain⟨t',rfl⟩:=ry;obtain⟨j,h1,h2,h3,h4,h5⟩:=zMJ he;have hl:z.cps.toList.length=z.length:=by simp[Str.length]
 rw[hl]at h1 h4 h5;have hn:=zHD;exact tail_any (typeIs_str s z t) slot_str_getitem.lookup (getItem_str (c:=c) (by
  have e1:decide (i < -(2 ^ 63:Int))=false:=decide_eq_false (by omega);have e2:decide (i>=2 ^ 63)=false:=decide_eq_false (by omega);rw[e1,e2,Bool.or_false]) (by rw[h1];simpa using h2) ⟨.str ⟨#[c]⟩,H,I.tok _,⟨_,rfl⟩,q⟩) hs
theorem zOA(its:List Value)(n j:Nat)(u:Value):qJq (·.setIfInBounds j u) { cls:=.type "list",data:=.seq its.toArray n }={ cls:=.type "list",data:=.seq (its.set j u).toArray n }:=by
 simp[qJq]
theorem Inv.lst{pins:List (Addr×Obj)}{σ:St}{H:Hp}{s:qH6}{p:Addr}{xs:List V}(I:Inv X pins σ H s)(h:H p=some (.lst xs)) :
  ∃(its:List Value)(n:Nat),Vals xs its/\s.heap.get? p=some { cls:=.type "list",data:=.seq its.toArray n }/\xs.length<=sizeLine:=by
 obtain⟨z,its,n,r,e⟩:=I.hok p _ h;exact⟨its,n,r,e,z⟩
theorem Inv.lstUpd{pins:List (Addr×Obj)}{σ:St}{H:Hp}{s:qH6}{p:Addr}{xs ys:List V}{its its':List Value}{n n':Nat}{f:Obj->Obj}(I:Inv X pins σ H s)(h:H p=some (.lst xs))
  (ho:s.heap.get? p=some { cls:=.type "list",data:=.seq its.toArray n }) (hf:f { cls:=.type "list",data:=.seq its.toArray n }={ cls:=.type "list",data:=.seq its'.toArray n' }) (r:Vals ys its') (hz:ys.length<=sizeLine) (t:Nat) :
  Inv X pins σ (upd H p (.lst ys)) { s with heap:=s.heap.update p f,toks:=t }:=by
 have e:(s.heap.update p f).get? p=some { cls:=.type "list",data:=.seq its'.toArray n' }:=by
  rw[qHk f ho (by rw[hf]<;>rfl),hf]
 refine I.write (x:=p) (e:=p) (by rw[h];trivial) (.inl rfl) (fun b u hb q=>(qHi _ _ (qC1 hb)).trans q) ⟨_,e⟩ ?_;exact⟨hz,its',n',r,e⟩
def zaD:V->V->V->Hp->(Hp->Prop)->Prop:=fun o i v H Q=>∃p xs k j,o=.ref p/\i=.int k/\H p=some (.lst xs)/\ixN xs.length k=some j/\Q (upd H p (.lst (xs.set j v)))
theorem zS1:PSet X zaD:=by
 intro pins s σ H o i v ov iv u Q I ro ri rv h;obtain⟨p,xs,k,j,rfl,rfl,hp,hj,q⟩:=h;cases ro;obtain⟨t,rfl⟩:=ri;obtain⟨its,n,r,ho,hz⟩:=I.lst hp;obtain⟨h1,h2,h3,h4⟩:=zJD hj;have hl:=r.length;have hn:=zHD;have I':Inv X pins σ (upd H p (.lst (xs.set j v))) { s with heap:=s.heap.update p (qJq (·.setIfInBounds j u)) }:=
  I.lstUpd hp ho (zOA its n j u) (r.set rv j) (by rw[qDb];exact hz) s.toks
 by_cases h0:0<=k
 ·have hk:k.toNat=j:=by
   rw[qKt h0 h4]at h1;exact qB2 h1
  exact PySem.W.ki_setAt ho h0 (by omega) (by rw[qAd,<- hl];exact h4) (by rw[hk];exact⟨_,I',q⟩)
 ·have hk:(k+(its.toArray.size:Int)).toNat=j:=by
   rw[qKi (by omega) h3]at h1;rw[qAd,<- hl];exact qB2 h1
  exact PySem.W.ki_setBack ho (by omega) (by rw[qAd,<- hl];exact h3) (by omega) (by rw[hk];exact⟨_,I',q⟩)
noncomputable def zGD:V->Bool
 |.non=>true
 |.bl _=>true
 |.int _=>true
 |.str _=>true
 |_=>false
noncomputable def eqV:V->V->Bool
 |.non,.non=>true
 |.bl a,.bl b=>a==b
 |.bl a,.int b=>(if a then 1 else 0)==b
 |.int a,.bl b=>a==(if b then 1 else 0)
 |.int a,.int b=>a==b
 |.str a,.str b=>a==b
 |_,_=>false
theorem zUF{A:qHb}{s:qH6}{y x:V}{u v:Value}(ry:RelV y u)(rx:RelV x v)(fy:zGD y=true)(fx:zGD x=true):qIo A s u v (eqV y x):=by
 cases y with
 |non=>
  cases ry;cases x with
  |non=>cases rx;exact qIr _
  |bl b=>cases rx;exact qJr b
  |int b=>obtain⟨t,rfl⟩:=rx;exact qJw b t
  |str b=>obtain⟨t,rfl⟩:=rx;exact qJx b t
  |_=>exact absurd (show false=true from fx) qAc
 |bl a=>
  cases ry;cases x with
  |non=>cases rx;exact qJs a
  |bl b=>cases rx;exact qJt a b
  |int b=>obtain⟨t,rfl⟩:=rx;exact qJy a b t
  |str b=>obtain⟨t,rfl⟩:=rx;exact qJz a b t
  |_=>exact absurd (show false=true from fx) qAc
 |int a=>
  obtain⟨t',rfl⟩:=ry;cases x with
  |non=>cases rx;exact qK0 a t'
  |bl b=>cases rx;exact qK1 a t' b
  |int b=>obtain⟨t,rfl⟩:=rx;exact SeqAt.EqAt.int_int a t' b t
  |str b=>obtain⟨t,rfl⟩:=rx;exact qIv a t' b t
  |_=>exact absurd (show false=true from fx) qAc
 |str a=>
  obtain⟨t',rfl⟩:=ry;cases x with
  |non=>cases rx;exact qK2 a t'
  |bl b=>cases rx;exact qK3 a t' b
  |int b=>obtain⟨t,rfl⟩:=rx;exact qIw a t' b t
  |str b=>obtain⟨t,rfl⟩:=rx;exact SeqAt.EqAt.str_str a t' b t
  |_=>exact absurd (show false=true from fx) qAc
 |_=>exact absurd (show false=true from fy) qAc
def eqU(x:V)(u:Value):Bool:=match u with
 |.none=>eqV .non x
 |.bool b=>eqV (.bl b) x
 |.int i _=>eqV (.int i) x
 |.str z _=>eqV (.str z) x
 |_=>false
theorem zUE{x y:V}{u:Value}(r:RelV y u)(f:zGD y=true):eqU x u=eqV y x:=by
 cases y with
 |non=>cases r;rfl
 |bl b=>cases r;rfl
 |int i=>obtain⟨t,rfl⟩:=r;rfl
 |str z=>obtain⟨t,rfl⟩:=r;rfl
 |_=>exact absurd (show false=true from f) qAc
theorem zMK{x:V}:∀{xs:List V}{us:List Value},Vals xs us->xs.all zGD=true->us.any (eqU x)=xs.any fun y=>eqV y x
 |_,_,.nil,_=>rfl
 |y::xs,u::us,.cons r t,f=>by
  rw[qDv,qBi]at f;rw[qCf,qCf,zUE r f.1,zMK t f.2]
theorem zJ7{A:qHb}{s:qH6}{x:V}{v:Value}(rx:RelV x v)(fx:zGD x=true):∀{xs:List V}{us:List Value},Vals xs us->xs.all zGD=true->∀u∈us,qIo A s u v (eqU x u)
 |_,_,.nil,_=>fun u hu=>by cases hu
 |y::xs,u::us,.cons r t,f=>fun u' hu=>by
  rw[qDv,qBi]at f
  rcases qAj.mp hu with rfl|hu
  ·rw[zUE r f.1];exact zUF r rx f.1 fx
  ·exact zJ7 rx fx t f.2 u' hu
def inV(x:V)(xs:List V):Bool:=xs.any fun y=>eqV y x
def rIn(K:qA1)(neg:Bool):R2:=fun x y H Q=>∃p xs,y=.ref p/\(SqL K H p xs\/SqT K H p xs)/\zGD x=true/\xs.all zGD=true/\Q (.bl (if neg then !inV x xs else inV x xs)) H
theorem zKI:OpR X (compareOp .NotIn) (rIn X.K true):=by
 intro pins s σ H x y v u Q I rx ry h;obtain⟨p,xs,rfl,hq,fx,fs,q⟩:=h;cases ry
 rcases hq with hq|hq
 ·obtain⟨its,r,pl,hz⟩:=I.list hq;refine SeqAt.notIn_listAt (eqU x) pl.isList (fun w hw=>zJ7 rx fx r fs w (by simpa using hw)) ⟨.bl _,H,I,rfl,?_⟩;rw[show its.toArray.any (eqU x)=its.any (eqU x) by simp,zMK r fs];exact q
 ·obtain⟨its,r,pl,hz⟩:=I.tuple hq;refine SeqAt.notIn_tupleAt (eqU x) pl (fun w hw=>zJ7 rx fx r fs w (by simpa using hw)) ⟨.bl _,H,I,rfl,?_⟩;rw[show its.toArray.any (eqU x)=its.any (eqU x) by simp,zMK r fs];exact q
theorem zKH:OpR X (compareOp .NotIn) (fun x y H Q=>∃i j,x=.str i/\y=.str j/\Q (.bl (!(!(qI9 j i 0 j.length 1).isEmpty))) H):=by
 intro pins s σ H x y v u Q I rx ry h;obtain⟨i,j,rfl,rfl,q⟩:=h;obtain⟨t,rfl⟩:=rx;obtain⟨t',rfl⟩:=ry;exact notIn_str ⟨.bl _,H,I,rfl,q⟩
theorem zLI:zDZ X (.builtin "len") (fun xs H Q=>∃p ys,xs=[.ref p]/\(SqL X.K H p ys\/SqT X.K H p ys)/\Q (.int ys.length) H):=by
 intro pins s σ H xs us Q I r h;obtain⟨p,ys,rfl,hq,q⟩:=h;obtain⟨u,rfl,rx⟩:=zK1 r;cases rx;have hn:=zHD
 rcases hq with hq|hq
 ·obtain⟨its,r',pl,hz⟩:=I.list hq;have hlen:=r'.length;exact Calls.call_len_list pl.isList (by simp only[qAd]<;>omega) ⟨.int ys.length,H,I.tok _,⟨s.toks+1,by rw[qAd,hlen]⟩,q⟩
 ·obtain⟨its,r',pl,hz⟩:=I.tuple hq;have hlen:=r'.length;exact len_tuple pl (by simp only[qAd]<;>omega) ⟨.int ys.length,H,I.tok _,⟨s.toks+1,by rw[qAd,hlen]⟩,q⟩
theorem zLH:zDZ X (.builtin "len") (fun xs H Q=>∃z,xs=[.str z]/\z.length<=sizeLine/\Q (.int z.length) H):=by
 intro pins s σ H xs us Q I r h;obtain⟨z,rfl,hz,q⟩:=h;obtain⟨u,rfl,t,rfl⟩:=zK1 r;have hn:=zHD;exact len_str (by omega) ⟨.int z.length,H,I.tok _,⟨_,rfl⟩,q⟩
theorem zLG:zDZ X (.type "list") (fun xs H Q=>∃p ys,xs=[.ref p]/\(SqL X.K H p ys\/SqT X.K H p ys)/\∀l,H l=none->Q (.ref l) (upd H l (.lst ys))):=by
 intro pins s σ H xs us Q I r h;obtain⟨p,ys,rfl,hq,q⟩:=h;obtain⟨u,rfl,rx⟩:=zK1 r;cases rx;have fin:∀(its:List Value),Vals ys its->ys.length<=sizeLine->∀(h':Heap)(c':Nat),(∀b o',s.heap.get? b=some o'->h'.get? b=some o') ->
   h'.get? s.heap.objs.size=some { cls:=.type "list",dict:=none,data:=.seq its.toArray c',slots:=#[] }->EP X pins σ Q (.ref s.heap.objs.size) { s with heap:=h' }:=fun its r' hz h' c' kp e=>
  ⟨.ref s.heap.objs.size,_,I.laid (t':=s.toks) kp (qA6 _) (show ObjOk X.prog X.w _ h' _ (.lst ys) from⟨hz,its,c',r',e⟩),rfl,q _ (I.hok.fresh (qA6 _))⟩
 rcases hq with hq|hq
 ·obtain⟨its,r',pl,hz⟩:=I.list hq;have hlen:=r'.length;obtain⟨o,ho,hc,n,hd⟩:=pl.isList;exact call_list_seq p (.inl rfl) ho hc hd (fun h' c' kp e=>fin its r' hz h' c' kp e) (by simp only[qAd]<;>omega)
 ·obtain⟨its,r',pl,hz⟩:=I.tuple hq;have hlen:=r'.length;obtain⟨o,ho,hc,n,hd⟩:=pl;exact call_list_seq p (.inr rfl) ho hc hd (fun h' c' kp e=>fin its r' hz h' c' kp e) (by simp only[qAd]<;>omega)
theorem zJP:zDZ X (.type "tuple") (fun xs H Q=>∃p ys,xs=[.ref p]/\((SqL X.K H p ys/\∀l,H l=none->Q (.ref l) (upd H l (.tup ys)))\/(SqT X.K H p ys/\Q (.ref p) H))):=by
 intro pins s σ H xs us Q I r h;obtain⟨p,ys,rfl,h⟩:=h;obtain⟨u,rfl,rx⟩:=zK1 r;cases rx
 rcases h with⟨hq,q⟩|⟨hq,q⟩
 ·obtain⟨its,r',pl,hz⟩:=I.list hq;have hlen:=r'.length;refine call_tuple_list pl.isList (fun h' kp=>?_) (by simp only[qAd]<;>omega);have I1:Inv X pins σ H { s with heap:=h' }:=I.kept (t':=s.toks) kp;have I2:Inv X pins σ (upd H h'.objs.size (.tup ys)) { s with heap:=h'.push { cls:=.type "tuple",data:=.seq its.toArray } }:=
   I1.laid (t':=s.toks) (fun b o e=>qH7 _ e) (qA6 _) (show ObjOk X.prog X.w _ _ _ (.tup ys) from⟨hz,its,r',IsTup.new _ _⟩)
  exact⟨.ref h'.objs.size,_,I2,rfl,q _ (I1.hok.fresh (qA6 _))⟩
 ·obtain⟨its,r',pl,hz⟩:=I.tuple hq;exact call_tuple_same pl ⟨.ref p,H,I,rfl,q⟩
def tyV(K:qA1)(T:String)(x:V)(H:Hp):Prop:=match x with
 |.str _=>T = "str"
 |.int _=>T = "int"
 |.ref p=>(T = "list"/\∃xs,SqL K H p xs)\/(T = "tuple"/\∃o,K.lookup p=some o/\o.cls=.type "tuple"/\o.dict=none) \/
   (T = "dict"/\((∃kvs,H p=some (.dK kvs))\/∃T e0 kvs,H p=some (.dT T e0 kvs)))\/(T = "set"/\∃S n,H p=some (.set S n))
 |_=>False
theorem zXE{pins:List (Addr×Obj)}{σ:St}{H:Hp}{s:qH6}{T:String}{x:V}{v:Value}(I:Inv X pins σ H s)(r:RelV x v)(ty:tyV X.K T x H) :
  s.TypeIs v T/\∀a,v=.ref a->∃ob,s.heap.get? a=some ob/\ob.dict=none:=by
 cases x with
 |str z=>
  obtain⟨t,rfl⟩:=r
  cases(show T = "str" from ty)
  exact⟨typeIs_str s z t,fun _ e=>nomatch e⟩
 |int i=>
  obtain⟨t,rfl⟩:=r
  cases(show T = "int" from ty)
  exact⟨typeIs_int s i t,fun _ e=>nomatch e⟩
 |ref p=>
  cases r
  rcases ty with⟨rfl,xs,hq⟩|⟨rfl,o,hk,hc,hd⟩|⟨rfl,hk⟩|⟨rfl,S,n,hk⟩
  ·obtain⟨its,_,pl,_⟩:=I.list hq;refine⟨pl.isList.typeIs,fun a e=>?_⟩;cases e;obtain⟨o,n,e,c,hd,_⟩:=pl;exact⟨o,e,hd⟩
  ·refine⟨⟨o,I.kIn p o hk,hc⟩,fun a e=>?_⟩;cases e;exact⟨o,I.kIn _ o hk,hd⟩
  ·have z:∃o,s.heap.get? p=some o/\o.ExactDict:=by
    rcases hk with⟨kvs,hk⟩|⟨_,_,kvs,hk⟩
    ·obtain⟨_,_,_,_,o,_,_,e,ex,_⟩:=I.hok p _ hk;exact⟨o,e,ex⟩
    ·obtain⟨_,_,_,_,o,_,_,e,ex,_⟩:=I.hok p _ hk;exact⟨o,e,ex⟩
   obtain⟨o,e,ex⟩:=z;refine⟨⟨o,e,ex.1⟩,fun a e2=>?_⟩;cases e2;exact⟨o,e,ex.2.1⟩
  ·obtain⟨o,_,_,_,e,ex,_⟩:=I.hok p _ hk;refine⟨⟨o,e,ex.1⟩,fun a e2=>?_⟩;cases e2;exact⟨o,e,ex.2.1⟩
 |_=>exact qA8 ty
variable{o e:Expr}{es:List Expr}{to:TE}{t:TA}{name:Str}{apos cpos:Pos}{T id:String}{r:V->List V->Hp->VK->Prop}
end
def MtM(X:Cx)(id:String)(r:V->List V->Hp->VK->Prop):Prop:=
 ∀(pins:List (Addr×Obj))(s:qH6)(σ:St)(H:Hp)(x:V)(xs:List V)(v:Value)(us:List Value)(Q:VK),Inv X pins σ H s->RelV x v->Vals xs us->r x xs H Q ->
  wpAny (model X.prog X.w) X.A (call (.builtin id) (v::us)) (EP X pins σ Q) X.xe s
theorem Vals.one:∀{x:V}{us:List Value},Vals [x] us->∃u,us=[u]/\RelV x u
 |_,_,.cons r .nil=>⟨_,rfl,r⟩
theorem Vals.zero:∀{us:List Value},Vals [] us->us=[]
 |_,.nil=>rfl
theorem Vals.dropLast{xs:List V}{us:List Value}(h:Vals xs us):Vals xs.dropLast us.dropLast:=by
 induction h with
 |nil=>exact .nil
 |cons r t ih=>
  cases t with
  |nil=>exact .nil
  |cons q t'=>exact .cons r ih
theorem Vals.eraseIdx:∀{xs:List V}{us:List Value}(i:Nat),Vals xs us->Vals (xs.eraseIdx i) (us.eraseIdx i)
 |_,_,_,.nil=>.nil
 |_,_,0,.cons _ t=>t
 |_,_,i+1,.cons r t=>.cons r (Vals.eraseIdx i t)
theorem Vals.rep{xs:List V}{us:List Value}(h:Vals xs us):∀k:Nat,Vals (qA5 k xs).flatten (qA5 k us).flatten
 |0=>.nil
 |k+1=>by
  rw[qBd,qBd,qBp,qBp];exact Vals.append h (Vals.rep h k)
theorem zOK{α:Type}(l:List α):l.eraseIdx (l.length-1)=l.dropLast:=by
 induction l with
 |nil=>rfl
 |cons a r ih=>
  cases r with
  |nil=>rfl
  |cons b r=>
   have e:(a::b::r).length-1=((b::r).length-1)+1:=by
    have h1:(a::b::r).length=r.length+2:=rfl;have h2:(b::r).length=r.length+1:=rfl;omega
   rw[e,qCt,ih]
   all_goals rfl
theorem len_erase{α:Type}:∀(l:List α)(i:Nat),(l.eraseIdx i).length<=l.length
 |[],_=>qA6 _
 |_::_,0=>qBx _
 |_::r,i+1=>Nat.succ_le_succ (len_erase r i)
theorem zL7(its:List Value):∀(k:Nat)(acc:List Value),
  qGt (fun x1 x2=>x1++x2) acc.toArray (qA5 k its.toArray)=(acc++(qA5 k its).flatten).toArray
 |0,acc=>by simp
 |k+1,acc=>by
  have e:acc.toArray++its.toArray=(acc++its).toArray:=by simp
  have e2:(acc++its)++(qA5 k its).flatten=acc++(qA5 (k+1) its).flatten:=by
   rw[qBd,qBp,qC2]
  rw[<- e2,<- zL7 its k (acc++its),<- e,qBd,qEb]
section
variable{X:Cx}{pins:List (Addr×Obj)}{σ:St}{H:Hp}{s:qH6}{l b:Addr}{xs ys zs:List V}
theorem Inv.lset{its its':List Value}{n:Nat}{f:Array Value->Array Value}{t':Nat}(I:Inv X pins σ H s)(hH:H l=some (.lst xs))
  (e:s.heap.get? l=some { cls:=.type "list",data:=.seq its.toArray n }) (hf:f its.toArray=its'.toArray) (hv:Vals ys its') (hz:ys.length<=sizeLine) :
  Inv X pins σ (upd H l (.lst ys)) { s with heap:=s.heap.update l (qJq f),toks:=t' }:=by
 have q:=PySem.IsL.update e f;rw[hf]at q;refine I.write (x:=l) (e:=l) (by rw[hH];exact trivial) (.inl rfl) (fun b' u hb hu=>(qHi s.heap (qJq f) (qC1 hb)).trans hu) ⟨_,q⟩ ?_;exact⟨hz,its',_,hv,q⟩
theorem Inv.lnew{its:List Value}{t':Nat}(I:Inv X pins σ H s)(hv:Vals ys its)(hz:ys.length<=sizeLine) :
  Inv X pins σ (upd H s.heap.objs.size (.lst ys)) { s with heap:=s.heap.push { cls:=.type "list",data:=.seq its.toArray },toks:=t' }:=
 I.laid (fun _ _ q=>qH7 _ q) (qA6 _) ⟨hz,its,0,hv,qHf _ rfl⟩
theorem Inv.fresh(I:Inv X pins σ H s):H s.heap.objs.size=none:=I.hok.fresh (qA6 _)
theorem Inv.lstM(I:Inv X pins σ H s)(hH:H l=some (.lst xs)):xs.length<=sizeLine/\∃(its:List Value)(n:Nat),Vals xs its/\xs.length=its.length/\s.heap.get? l=some { cls:=.type "list",data:=.seq its.toArray n }:=by
 obtain⟨z,its,n,r,e⟩:=I.hok l _ hH;exact⟨z,its,n,r,r.length,e⟩
theorem zNA{n:Nat}(h:n<=sizeLine):qHv n=false:=by
 unfold qHv;exact decide_eq_false (by omega)
end
section
variable{X:Cx}
def zVI:V->List V->Hp->VK->Prop:=fun x vs H Q=>∃l xs y,x=.ref l/\vs=[y]/\H l=some (.lst xs)/\xs.length<sizeLine/\Q .non (upd H l (.lst (xs++[y])))
theorem zQ8:MtM X "list.append" zVI:=by
 intro pins s σ H x vs v us Q I rx rv h;obtain⟨l,xs,y,rfl,rfl,hH,hz,q⟩:=h;cases rx;obtain⟨u,rfl,ru⟩:=rv.one;obtain⟨z,its,n,r,hl,e⟩:=I.lstM hH;refine call_meets F.slot_list_append ⟨_,e,rfl⟩ F.entry_list_append (F.args_list_append_2 _ _) (PySem.list_append l its.toArray n u (by rw[qAd];omega)) ⟨e,?_⟩;refine⟨.non,_,I.lset (its':=its++[u]) hH e (by simp) (r.append (.cons ru .nil)) ?_,rfl,q⟩;rw[qAy,qEc];omega
def zVG:V->List V->Hp->VK->Prop:=fun x vs H Q=>∃l b xs zs,x=.ref l/\vs=[.ref b]/\H l=some (.lst xs)/\H b=some (.lst zs)/\xs.length+zs.length<=sizeLine/\Q .non (upd H l (.lst (xs++zs)))
theorem zQ7:MtM X "list.extend" zVG:=by
 intro pins s σ H x vs v us Q I rx rv h;obtain⟨l,b,xs,zs,rfl,rfl,hH,hB,hz,q⟩:=h;cases rx;obtain⟨u,rfl,ru⟩:=rv.one;cases ru;obtain⟨z,its,n,r,hl,e⟩:=I.lstM hH;obtain⟨z2,its2,n2,r2,hl2,e2⟩:=I.lstM hB;have hsz:its.toArray.size+its2.toArray.size<=sizeLine:=by rw[qAd,qAd];omega
 have hlong:¬(!its.toArray.isEmpty&&qHv (its.toArray.size+its2.toArray.size))=true:=by
  rw[zNA hsz,qCk];exact qAc
 refine call_meets F.slot_list_extend ⟨_,e,rfl⟩ F.entry_list_extend (F.args_list_extend_2 _ _)
  (AutoSeq1.list_extend_list_list_0 l its.toArray n b its2.toArray n2 hlong (by rw[qAd];omega) (by omega)) ⟨e,e2,?_⟩
 refine⟨.non,_,I.lset (its':=its++its2) hH e (by simp) (r.append r2) ?_,rfl,q⟩;rw[qAy];omega
def rPop:V->List V->Hp->VK->Prop:=fun x vs H Q=>∃l xs y,x=.ref l/\vs=[]/\H l=some (.lst xs)/\xs[xs.length-1]?=some y/\Q y (upd H l (.lst xs.dropLast))
theorem zYR:MtM X "list.pop" rPop:=by
 intro pins s σ H x vs v us Q I rx rv h;obtain⟨l,xs,y,rfl,rfl,hH,hy,q⟩:=h;cases rx;have hus:=rv.zero;subst hus;obtain⟨z,its,n,r,hl,e⟩:=I.lstM hH;obtain⟨u,hu,ru⟩:=r.get hy;have hy':its.toArray[its.toArray.size-1]?=some u:=by
  show its.toArray[its.length-1]?=some u;rw[<- qEd,<- hl];exact hu
 refine call_meets qKu ⟨_,e,rfl⟩ qKl (F.args_list_pop_1 _) (MeetsSeq.list_pop_last l its.toArray n u hy' (by rw[qAd];omega)) ⟨e,?_⟩;refine⟨y,_,I.lset (its':=its.dropLast) hH e ?_ r.dropLast ?_,ru,q⟩
 ·show its.toArray.eraseIdxIfInBounds (its.toArray.size-1)=its.dropLast.toArray;rw[qAd,qCy,zOK]
 ·rw[List.length_dropLast];omega
def zY1:V->List V->Hp->VK->Prop:=fun x vs H Q=>∃l xs i k y,x=.ref l/\vs=[.int i]/\H l=some (.lst xs)/\-(2 ^ 63)<=i/\i<2 ^ 63/\qKs i xs.length=some k/\xs[k]?=some y/\Q y (upd H l (.lst (xs.eraseIdx k)))
theorem zSM:MtM X "list.pop" zY1:=by
 intro pins s σ H x vs v us Q I rx rv h;obtain⟨l,xs,i,k,y,rfl,rfl,hH,h1,h2,hk,hy,q⟩:=h;cases rx;obtain⟨u,rfl,ru⟩:=rv.one;obtain⟨t,rfl⟩:=ru;obtain⟨z,its,n,r,hl,e⟩:=I.lstM hH;obtain⟨w,hw,rw'⟩:=r.get hy;refine call_meets qKu ⟨_,e,rfl⟩ qKl (F.args_list_pop_2 _ _)
  (MeetsSeq.list_pop_at l its.toArray n i t k w (fitsIndex_both h1 h2) (by rw[qAd,<- hl];exact hk) (by rw[<- qEd];exact hw) (by rw[qAd];omega)) ⟨e,?_⟩
 refine⟨y,_,I.lset (its':=its.eraseIdx k) hH e ?_ (r.eraseIdx k) ?_,rw',q⟩
 ·show its.toArray.eraseIdxIfInBounds k=(its.eraseIdx k).toArray;rw[qCy]
 ·have:=len_erase xs k
  omega
def rCat:R2:=fun x y H Q=>∃l b xs zs,x=.ref l/\y=.ref b/\H l=some (.lst xs)/\H b=some (.lst zs)/\xs.length+zs.length<=sizeLine/\∀p,H p=none->Q (.ref p) (upd H p (.lst (xs++zs)))
theorem zYN:OpR X (binaryOp .Add) rCat:=by
 intro pins s σ H x y v u Q I rx ry h;obtain⟨l,b,xs,zs,rfl,rfl,hH,hB,hz,q⟩:=h;cases rx;cases ry;obtain⟨z,its,n,r,hl,e⟩:=I.lstM hH;obtain⟨z2,its2,n2,r2,hl2,e2⟩:=I.lstM hB;refine PySem.P.add_list e e2 ?_ (by rw[qAd,qAd];omega);have ea:its.toArray++its2.toArray=(its++its2).toArray:=by simp
 rw[ea];exact⟨.ref _,_,I.lnew (t':=s.toks) (r.append r2) (by rw[qAy];omega),rfl,q _ I.fresh⟩
def rRep:R2:=fun x y H Q=>∃l k xs,x=.ref l/\y=.int k/\H l=some (.lst xs)/\-(2 ^ 63)<=k/\k<2 ^ 63/\xs.length*k.toNat<=sizeLine /\
 ∀p,H p=none->Q (.ref p) (upd H p (.lst (qA5 k.toNat xs).flatten))
theorem zW4{α:Type}(xs:List α)(k:Nat):(qA5 k xs).flatten.length=k*xs.length:=by
 induction k with
 |zero=>simp
 |succ k ih=>rw[qBd,qBp,qAy,ih,qDh,Nat.add_comm]
theorem zYI:OpR X (binaryOp .Mult) rRep:=by
 intro pins s σ H x y v u Q I rx ry h;obtain⟨l,k,xs,rfl,rfl,hH,h1,h2,hz,q⟩:=h;cases rx;obtain⟨t,rfl⟩:=ry;obtain⟨z,its,n,r,hl,e⟩:=I.lstM hH;have hlen:its.toArray.size*k.toNat<=sizeLine:=by rw[qAd,<- hl];exact hz
 have hcap:¬its.toArray.size*k.toNat>(2 ^ 63-1)/8:=by
  have:(sizeLine:Nat)<=(2 ^ 63-1)/8:=by decide
  omega
 have hfit:¬(!Builtin.List.listFitsIndex k)=true:=by
  rw[fitsIndex_both h1 h2];exact qAc
 have hlong:¬qHv (its.toArray.size*k.toNat)=true:=by
  rw[zNA hlen];exact qAc
 have hnew:qGt (fun x1 x2=>x1++x2) #[] (qA5 (if its.toArray.isEmpty=true then 0 else k.toNat) its.toArray)=(qA5 k.toNat its).flatten.toArray:=by
  have f0:∀m:Nat,qGt (fun x1 x2=>x1++x2) #[] (qA5 m its.toArray)=(qA5 m its).flatten.toArray:=fun m=>by
   have:=zL7 its m []
   rw[qFr]at this;exact this
  rw[f0];cases its with
  |nil=>simp
  |cons a r'=>rw[if_neg (by simp)]
 refine wpAny_binaryOp_repeat_ref (T:="list") (U:="int") (by decide) ⟨_,e,rfl⟩ (fun s'=>typeIs_int s' k t) noFill_list_mul F.fills_int_mul qKv repeat_list F.slot_int_index.lookup
  (call_meets qKv (typeIs_int s k t) F.entry_int_rmul (F.args_int_rmul_2 _ _) (int___rmul___int_list k t l its.toArray n)
   ⟨e,rfl,⟨_,e,rfl⟩,call_meets F.slot_list_mul ⟨_,e,rfl⟩ F.entry_list_mul (F.args_list_mul_2 _ _) (AutoListH.list___mul___list_int_3 l its.toArray n k t hfit hcap hlong) ⟨e,?_⟩⟩)
 rw[hnew];exact⟨.ref _,_,I.lnew (t':=s.toks) (r.rep k.toNat) (by rw[zW4,Nat.mul_comm];exact hz),rfl,q _ I.fresh⟩
end
section
variable{prog:qH9}{w:World}{A:qHb}{E:Value->qH6->Prop}{s:qH6}
end
section
variable{X:Cx}
end
section
variable{κ:Type}[DecidableEq κ]
noncomputable def valV(kvs:List (κ×V))(k:κ):Option V:=(kvs.find? fun kv=>decide (kv.1=k)).map (·.2)
noncomputable def putK(kvs:List (κ×V))(k:κ)(v:V):List (κ×V):=
 if(kvs.any fun kv=>decide (kv.1=k))=true then kvs.map (fun kv=>if kv.1=k then(kv.1,v)else kv)else kvs++[(k,v)]
noncomputable def zZE(kvs:List (κ×V))(k:κ):List (κ×V):=kvs.filter fun kv=>decide (kv.1≠k)
theorem zIK{p:κ×V}{r:List (κ×V)}{k:κ}(e:p.1=k):valV (p::r) k=some p.2:=by simp[valV,qBr,e]
theorem zIL{p:κ×V}{r:List (κ×V)}{k:κ}(e:¬p.1=k):valV (p::r) k=valV r k:=by simp[valV,qBr,e]
theorem zMO(k:κ):∀kvs:List (κ×V),(kvs.any fun kv=>decide (kv.1=k))=(valV kvs k).isSome
 |[]=>rfl
 |p::r=>by
  rw[qCf]
  by_cases e:p.1=k
  ·simp only[zIK e,decide_eq_true e,Bool.true_or,qDi]
  ·rw[zIL e,decide_eq_false e,Bool.false_or];exact zMO k r
theorem zDP(kvs:List (κ×V))(k:κ)(v:V):(putK kvs k v).length<=kvs.length+1:=by
 unfold putK
 split
 ·rw[qAp];omega
 ·rw[qAy,qBj,qFs];omega
theorem RelO.isSome_eq{o:Option V}{u:Option Value}(r:RelO o u):o.isSome=u.isSome:=by
 cases o with
 |none=>cases u with
  |none=>rfl
  |some _=>exact(show False from r).elim
 |some _=>cases u with
  |none=>exact(show False from r).elim
  |some _=>rfl
theorem RelO.getD{o:Option V}{u:Option Value}{d:V}{d':Value}(r:RelO o u)(rd:RelV d d'):RelV (o.getD d) (u.getD d'):=by
 cases o with
 |none=>cases u with
  |none=>exact rd
  |some _=>exact(show False from r).elim
 |some _=>cases u with
  |none=>exact(show False from r).elim
  |some _=>exact r
theorem KV.val{kvs:List (κ×V)}{vs:List (κ×Value)}(r:KV kvs vs)(k:κ):RelO (valV kvs k) (valueAt vs k):=by
 unfold KV at r
 induction r with
 |nil=>exact qC6
 |@cons p q ps qs h t ih=>
  obtain⟨h1,h2⟩:=h
  by_cases e:p.1=k
  ·have e':q.1=k:=h1.symm.trans e;have b:valueAt (q::qs) k=some q.2:=by simp[valueAt,qBr,e']
   rw[zIK e,b];exact h2
  ·have e':¬q.1=k:=fun z=>e (h1.trans z)
   have b:valueAt (q::qs) k=valueAt qs k:=by simp[valueAt,qBr,e']
   rw[zIL e,b];exact ih
theorem KV.any{kvs:List (κ×V)}{vs:List (κ×Value)}(r:KV kvs vs)(k:κ):(kvs.any fun kv=>decide (kv.1=k))=vs.any fun kv=>decide (kv.1=k):=by
 unfold KV at r
 induction r with
 |nil=>rfl
 |cons h t ih=>rw[qCf,qCf,ih,h.1]
theorem KV.repl{kvs:List (κ×V)}{vs:List (κ×Value)}(r:KV kvs vs)(k:κ){y:V}{u:Value}(ry:RelV y u) :
  KV (kvs.map fun kv=>if kv.1=k then(kv.1,y)else kv) (vs.map fun kv=>if kv.1=k then(kv.1,u)else kv):=by
 unfold KV at r ⊢
 induction r with
 |nil=>exact .nil
 |@cons p q ps qs h t ih=>
  rw[qAn,qAn];refine .cons ?_ ih;obtain⟨h1,h2⟩:=h
  by_cases e:p.1=k
  ·rw[if_pos e,if_pos (h1.symm.trans e)];exact⟨h1,ry⟩
  ·rw[if_neg e,if_neg (fun z=>e (h1.trans z))];exact⟨h1,h2⟩
theorem KV.put{kvs:List (κ×V)}{vs:List (κ×Value)}(r:KV kvs vs)(k:κ){y:V}{u:Value}(ry:RelV y u):KV (putK kvs k y) (stored vs k u):=by
 unfold putK stored;rw[r.any k]
 by_cases e:(vs.any fun kv=>decide (kv.1=k))=true
 ·rw[if_pos e,if_pos e];exact r.repl k ry
 ·rw[if_neg e,if_neg e];exact qL8 r ⟨rfl,ry⟩
theorem KV.drop{kvs:List (κ×V)}{vs:List (κ×Value)}(r:KV kvs vs)(k:κ):KV (zZE kvs k) (without vs k):=by
 unfold KV at r ⊢;unfold zZE without
 induction r with
 |nil=>exact .nil
 |@cons p q ps qs h t ih=>
  obtain⟨h1,h2⟩:=h;rw[qFg,qFg]
  by_cases e:p.1=k
  ·have a:¬decide (p.1≠k)=true:=by simp[e]
   have b:¬decide (q.1≠k)=true:=by simp[h1.symm.trans e]
   rw[if_neg a,if_neg b];exact ih
  ·have e':¬q.1=k:=fun z=>e (h1.trans z)
   have a:decide (p.1≠k)=true:=by simp[e]
   have b:decide (q.1≠k)=true:=by simp[e']
   rw[if_pos a,if_pos b];exact .cons ⟨h1,h2⟩ ih
theorem KV.length{kvs:List (κ×V)}{vs:List (κ×Value)}(r:KV kvs vs):kvs.length=vs.length:=qIl r
end
theorem zQD{P:qH9}{w:World}{k:Key}{u:Value}(r:RelV (kV k) u):(zD0 P w).is k u=true:=by
 cases k with
 |inl i=>obtain⟨t,e⟩:=(show ∃t,u=qIp i t from r);subst e;exact zM3 P w i t
 |inr x=>obtain⟨t,e⟩:=(show ∃t,u=qIq x t from r);subst e;exact zM2 P w x t
theorem za1{P:qH9}{w:World}{v:V}{k:KeyN}{u:Value}(e:vN v=some k)(r:RelV v u):(mixN P w).is k u=true:=by
 cases v with
 |non=>cases e;cases(show u=qHj from r);rfl
 |bl b=>cases e;cases(show u=qJ2 b from r);exact zQC b
 |int i=>cases e;obtain⟨t,z⟩:=(show ∃t,u=qIp i t from r);subst z;exact zOE i t
 |str x=>cases e;obtain⟨t,z⟩:=(show ∃t,u=qIq x t from r);subst z;exact zOD x t
 |_=>exact nomatch e
theorem zQG{P:qH9}{w:World}{vs:List V}{ks:List KeyN}(q:KsOf vs ks):∀{us:List Value},Vals vs us->ItemsAre (mixN P w) ks us:=by
 induction q with
 |nil=>intro us r;cases r;exact .nil
 |cons h t ih=>
  intro us r;cases r with
  |cons h' t'=>exact .cons (za1 h h') (ih t')
abbrev KT(H:Hp)(T:Addr->Prop):List (List KeyN×V)->List (List KeyN×Addr×Value)->Prop:=qIx fun p q=>p.1=q.1/\(TupK H q.2.1 p.1/\T q.2.1)/\RelV p.2 q.2.2
theorem KT.val{H:Hp}{T:Addr->Prop}{kvs:List (List KeyN×V)}{xs:List (List KeyN×Addr×Value)}(r:KT H T kvs xs)(k:List KeyN):RelO (valV kvs k) ((atKey xs k).map (·.2)):=by
 induction r with
 |nil=>exact qC6
 |@cons p q ps qs h t ih=>
  obtain⟨h1,_,h2⟩:=h
  by_cases e:p.1=k
  ·have e':q.1=k:=h1.symm.trans e;have b:atKey (q::qs) k=some q.2:=by simp[atKey,qBr,e']
   rw[zIK e,b];exact h2
  ·have e':¬q.1=k:=fun z=>e (h1.trans z)
   have b:atKey (q::qs) k=atKey qs k:=by simp[atKey,qBr,e']
   rw[zIL e,b];exact ih
theorem KT.repl{H:Hp}{T:Addr->Prop}{kvs:List (List KeyN×V)}{xs:List (List KeyN×Addr×Value)}(r:KT H T kvs xs)(k:List KeyN){y:V}{u:Value}(ry:RelV y u) :
  KT H T (kvs.map fun kv=>if kv.1=k then(kv.1,y)else kv) (xs.map (putAt k u)):=by
 induction r with
 |nil=>exact .nil
 |@cons p q ps qs h t ih=>
  rw[qAn,qAn];refine .cons ?_ ih;obtain⟨h1,h2,h3⟩:=h;unfold putAt
  by_cases e:p.1=k
  ·rw[if_pos e,if_pos (h1.symm.trans e)];exact⟨h1,h2,ry⟩
  ·rw[if_neg e,if_neg (fun z=>e (h1.trans z))];exact⟨h1,h2,h3⟩
theorem KT.wk{H:Hp}{T T':Addr->Prop}{kvs:List (List KeyN×V)}{xs:List (List KeyN×Addr×Value)}(r:KT H T kvs xs)(h:∀c,T c->T' c):KT H T' kvs xs:=qIx.mapP r fun _ _ z=>⟨z.1,⟨z.2.1.1,h _ z.2.1.2⟩,z.2.2⟩
theorem KT.put{H:Hp}{T:Addr->Prop}{kvs:List (List KeyN×V)}{xs:List (List KeyN×Addr×Value)}(r:KT H T kvs xs)(k:List KeyN){b:Addr}{y:V}{u:Value}(hb:TupK H b k)(ry:RelV y u) :
  KT H (fun c=>T c\/c=b) (putK kvs k y) (storedH xs k b u):=by
 have e:(kvs.any fun kv=>decide (kv.1=k))=(atKey xs k).isSome:=by
  rw[zMO,(r.val k).isSome_eq,qCg]
 unfold putK storedH;rw[e]
 by_cases q:(atKey xs k).isSome=true
 ·rw[if_pos q,if_pos q];exact(r.repl k ry).wk fun _ z=>.inl z
 ·rw[if_neg q,if_neg q];exact qL8 (KT.wk (T':=fun c=>T c\/c=b) r fun _ z=>qGu z) ⟨rfl,⟨hb,qFt rfl⟩,ry⟩
theorem KT.keeps{H H':Hp}{T:Addr->Prop}{kvs:List (List KeyN×V)}{xs:List (List KeyN×Addr×Value)}(r:KT H T kvs xs)(ht:∀b ys,H b=some (.tup ys)->H' b=some (.tup ys)):KT H' T kvs xs:=
 qIx.mapP r fun _ _ z=>⟨z.1,⟨z.2.1.1.keeps ht,z.2.1.2⟩,z.2.2⟩
section
variable{P:qH9}{w:World}{H:Hp}{h:Heap}{a:Addr}
theorem zXW{u:HO}(ok:HOk P w H h)(e:Rd H a u):ObjOk P w H h a u:=e.ok ok
theorem zOO{kvs:List (Key×V)}(ok:HOk P w H h)(e:Rd H a (.dK kvs)):kvs.length<=sizeLine/\(a==qHt)=false/\∃vs,KV kvs vs/\h.DictOf (zD0 P w) a vs:=
 show ObjOk P w H h a (.dK kvs) from zXW ok e
theorem zZF{kvs:List (Key×V)}(ok:HOk P w H h)(e:H a=some (.dK kvs)):kvs.length<=sizeLine/\(a==qHt)=false/\∃vs,KV kvs vs/\h.DictOf (zD0 P w) a vs:=zOO ok (.inl e)
theorem zI8{ks:List KeyN}(ok:HOk P w H h)(e:TupK H a ks):(tupleKind (mixN P w)).is h ks a:=by
 obtain⟨vs,e,q⟩:=e;obtain⟨_,its,r,o,h1,h2,n,h3⟩:=(show ObjOk P w H h a (.tup vs) from ok a _ e)
 exact⟨o,its.toArray,n,h1,h2,h3,by simpa using zQG q r⟩
theorem zOM{T:Addr->Prop}{e0:Nat}{kvs:List (List KeyN×V)}(ok:HOk P w H h)(e:Rd H a (.dT T e0 kvs)):kvs.length<=sizeLine/\(a==qHt)=false /\
  ∃xs,KT H T kvs xs/\h.DictOfH (tupleKind (mixN P w)) a xs:=by
 obtain⟨z,y,xs,r,o,es,ep,h1,h2,h3,h4,h5⟩:=(show ObjOk P w H h a (.dT T e0 kvs) from zXW ok e)
 refine⟨z,y,xs,r,o,es,ep,h1,h2,h3,h4,fun x hx=>?_,h5.1⟩;have all:∀{l:List (List KeyN×V)}{m:List (List KeyN×Addr×Value)},KT H T l m->∀x∈m,(tupleKind (mixN P w)).is h x.1 x.2.1:=by
  intro l m q
  induction q with
  |nil=>intro x hx;exact nomatch hx
  |@cons p q ps qs hq t ih=>
   intro x hx
   rcases qAj.mp hx with e|hx
   ·subst e;exact zI8 ok (by rw[<- hq.1];exact hq.2.1.1)
   ·exact ih x hx
 exact all r x hx
theorem zZB{T:Addr->Prop}{e0:Nat}{kvs:List (List KeyN×V)}(ok:HOk P w H h)(e:H a=some (.dT T e0 kvs)):kvs.length<=sizeLine/\(a==qHt)=false /\
  ∃xs,KT H T kvs xs/\h.DictOfH (tupleKind (mixN P w)) a xs:=zOM ok (.inl e)
end
def DGet(H:Hp)(a:Addr)(y:V)(r:Option V):Prop:=
 (∃kvs k,Rd H a (.dK kvs)/\y=kV k/\r=valV kvs k)\/∃T e0 kvs k b,Rd H a (.dT T e0 kvs)/\y=.ref b/\TupK H b k/\r=valV kvs k
def DPut(H:Hp)(a:Addr)(y v:V)(H':Hp):Prop:=
 (∃kvs k,H a=some (.dK kvs)/\y=kV k/\kvs.length<sizeLine/\H'=upd H a (.dK (putK kvs k v)))
theorem DGet.k{H:Hp}{a:Addr}{kvs:List (Key×V)}{k:Key}(e:H a=some (.dK kvs)):DGet H a (kV k) (valV kvs k):=.inl ⟨kvs,k,.inl e,rfl,rfl⟩
theorem DGet.t{H:Hp}{a b:Addr}{T:Addr->Prop}{e0:Nat}{kvs:List (List KeyN×V)}{k:List KeyN}(e:H a=some (.dT T e0 kvs))(eb:TupK H b k):DGet H a (.ref b) (valV kvs k):=.inr ⟨T,e0,kvs,k,b,.inl e,rfl,eb,rfl⟩
theorem DPut.k{H:Hp}{a:Addr}{kvs:List (Key×V)}{k:Key}{v:V}(e:H a=some (.dK kvs))(hl:kvs.length<sizeLine):DPut H a (kV k) v (upd H a (.dK (putK kvs k v))):=⟨kvs,k,e,rfl,hl,rfl⟩
section
variable{X:Cx}{pins:List (Addr×Obj)}{σ:St}{H:Hp}{s:qH6}{a:Addr}{y v:V}{u r:Value}{o:Option V}{A:qHb}{E:Value->qH6->Prop}
theorem Inv.big(I:Inv X pins σ H s):qHt<s.heap.objs.size:=by
 have h:qHc<s.heap.objs.size:=(I.mod.glob.keeps I.bk).lt;exact Nat.lt_trans (by decide) h
theorem zRC{Q:Value->qH6->Prop}(hu:A.units+1<cLine)(I:Inv X pins σ H s)(g:DGet H a y (some v))(ry:RelV y u)(h:∀w' s',Inv X pins σ H s'->RelV v w'->Q w' s') :
  wpAny (model X.prog X.w) A (getItem (.ref a) u) Q E s:=by
 rcases g with⟨kvs,k,e,ey,l⟩|⟨T,e0,kvs,k,b,e,ey,eb,l⟩
 ·subst ey;obtain⟨z,hd,vs,rel,dd⟩:=zOO I.hok e;obtain⟨w',hw,rw'⟩:=RelO.some_of (v:=v) (o:=valueAt vs k) (by rw[l];exact rel.val k);exact wpAny_getItem_of (zQD ry) dd.mapOf hw (h w' _ (I.tok _) rw')
 ·subst ey
  cases(show u=qHa b from ry)
  obtain⟨z,hd,xs,rel,dd⟩:=zOM I.hok e;obtain⟨w',hw,rw'⟩:=RelO.some_of (v:=v) (o:=(atKey xs k).map (·.2)) (by rw[l];exact rel.val k);obtain⟨p,hp,hp2⟩:=qBu.mp hw;refine wpAny_getItem_heap (tupleKind_room_in1 hu) (zI8 I.hok eb) dd hp ?_;rw[hp2];exact h w' _ (I.tok _) rw'
theorem zWU{Q:Value->qH6->Prop}(hu:A.units+1<cLine)(I:Inv X pins σ H s)(g:DGet H a y o)(ry:RelV y u)(h:∀s',Inv X pins σ H s'->Q (.bool (!o.isSome)) s') :
  wpAny (model X.prog X.w) A (compareOp .NotIn u (.ref a)) Q E s:=by
 rcases g with⟨kvs,k,e,ey,l⟩|⟨T,e0,kvs,k,b,e,ey,eb,l⟩
 ·subst ey;obtain⟨z,hd,vs,rel,dd⟩:=zOO I.hok e;refine wpAny_notIn_of (zQD ry) hd dd.mapOf ?_;rw[<- (rel.val k).isSome_eq,<- l];exact h _ (I.tok _)
 ·subst ey
  cases(show u=qHa b from ry)
  obtain⟨z,hd,xs,rel,dd⟩:=zOM I.hok e;refine wpAny_notIn_heap (tupleKind_room_in1 hu) (zI8 I.hok eb) hd dd ?_;have q:=(rel.val k).isSome_eq;rw[qCg]at q;rw[<- q,<- l];exact h _ (I.tok _)
theorem zMD{h':Heap}{t':Nat}{ob:HO}(I:Inv X pins σ H s)(mu:Mut (H a))(hs:qIy a s.heap h')(he:∃q,h'.get? a=some q)(new:ObjOk X.prog X.w (upd H a ob) h' a ob) :
  Inv X pins σ (upd H a ob) { s with heap:=h',toks:=t' }:=
 I.write (x:=a) (e:=a) mu (.inl rfl) (fun b q hb z=>(hs.2 b hb).trans z) he new
theorem zUJ{P:qH9}{w:World}{H':Hp}{h':Heap}{kvs:List (Key×V)}{vs:List (Key×Value)}(z:kvs.length<=sizeLine)(hd:(a==qHt)=false)(rel:KV kvs vs)(dd:h'.DictOf (zD0 P w) a vs) :
  ObjOk P w H' h' a (.dK kvs):=⟨z,hd,vs,rel,dd⟩
theorem zRB{H':Hp}{Q:Unit->qH6->Prop}(hu:A.units+1<cLine)(I:Inv X pins σ H s)(g:DPut H a y v H')(ry:RelV y u)(rv:RelV v r)(h:∀s',Inv X pins σ H' s'->Q () s') :
  wpAny (model X.prog X.w) A (setItem (.ref a) u r) Q E s:=by
 obtain⟨kvs,k,e,ey,l,eH⟩:=g
 ·subst ey eH;obtain⟨z,hd,vs,rel,dd⟩:=zZF I.hok e;have hz:vs.length<=sizeLine:=by rw[<- rel.length];exact z
  have hl:(putK kvs k v).length<=sizeLine:=by have:=zDP kvs k v;omega
  refine wpAny_setItem_pairs (hsz:=hz) (zQD ry) dd fun h' dd' hs=>h _ ?_
  have he:∃q,h'.get? a=some q:=let⟨q,_,_,hq,_⟩:=dd';⟨q,hq⟩
  exact zMD I (by rw[e];exact qC6) hs he (zUJ hl hd (rel.put k rv) dd')
end
section
variable{X:Cx}{pins:List (Addr×Obj)}{σ:St}{H:Hp}{s:qH6}{a:Addr}{kvs:List (Key×V)}{k:Key}{u:Value}{A:qHb}{E:Value->qH6->Prop}
end
def NoSl(i:Expr):Prop:=∀ov iv,subscripted i false ov iv=operate [ov,iv] (getItem ov iv)
theorem zV5{prog:qH9}{w:World}{A:qHb}{E:Value->qH6->Prop}{s:qH6}{env:Env}{value slice:Expr}{pos:Pos}{T id:String}{Q:Value->qH6->Prop}
  (hl:typeLookup (.type T) "__getitem__" = pure (some (.builtin id))) (hs:NoSl slice)
  (h:wpAny (model prog w) A (eval value env) (fun o s₁=>wpAny (model prog w) A (eval slice env) (fun i s₂=>s₂.TypeIs o T/\wpAny (model prog w) A (getItem o i) Q E s₂) E s₁) E s) :
  wpAny (model prog w) A (eval (.Subscript value slice pos) env) Q E s:=by
 refine Subscript_ (wpAny_mono h (fun o s₁ h₁=>wpAny_mono h₁ (fun i s₂ h₂=>?_) fun _ _ x=>x) fun _ _ x=>x);obtain⟨hT,h₂⟩:=h₂;unfold subscriptTail;refine wpAny_bind ?_;rw[getitemInPython_of_ne hT.not_modules];refine wpAny_bind (wpAny_specialOf hT hl ?_);have fin:wpAny (model prog w) A (subscripted slice false o i) (fun r s₃=>wpAny (model prog w) A (letTemporaryGo value o r >>= fun _=>pure r) Q E s₃) E s₂:=by
  rw[hs o i];exact wpAny_operating (wpAny_mono h₂ (fun r s₃ h₃=>wpAny_bind (wpAny_letTemporaryGo (wpAny_pure h₃))) fun _ _ x=>x)
 first
  |exact wpAny_pure (wpAny_bind fin)
  |exact wpAny_bind (wpAny_pure (wpAny_bind fin))
  |exact wpAny_bind fin
theorem zMA{X:Cx}{pins:List (Addr×Obj)}{σ:St}{H:Hp}{s:qH6}{a:Addr}{y:V}{o:Option V}(I:Inv X pins σ H s)(g:DGet H a y o):s.TypeIs (.ref a) "dict":=by
 rcases g with⟨kvs,k,e,_,_⟩|⟨T,e0,kvs,k,b,e,_,_,_⟩
 ·obtain⟨_,_,vs,_,dd⟩:=zOO I.hok e;exact dd.typeIs
 ·obtain⟨_,_,xs,_,dd⟩:=zOM I.hok e;exact dd.typeIs
noncomputable def zP8(td ty:TE):TE:=fun σ H Q=>td σ H fun x H1=>ty σ H1 fun y H2=>∃a v,x=.ref a/\DGet H2 a y (some v)/\Q v H2
noncomputable def tDIn(ty td:TE):TE:=fun σ H Q=>ty σ H fun y H1=>td σ H1 fun x H2=>∃a o,x=.ref a/\DGet H2 a y o/\Q (.bl o.isSome) H2
noncomputable def zLT(ty td:TE):TE:=fun σ H Q=>ty σ H fun y H1=>td σ H1 fun x H2=>∃a o,x=.ref a/\DGet H2 a y o/\Q (.bl (!o.isSome)) H2
noncomputable def zXQ(td ty tv:TE):TS:=fun D σ H=>tv σ H fun v H1=>td σ H1 fun x H2=>ty σ H2 fun y H3=>∃a H4,x=.ref a/\DPut H3 a y v H4/\D.nx σ H4
section
variable{X:Cx}{o i e value:Expr}{pos pos' tpos:Pos}{td ty tv:TE}
theorem zPR(hu:X.A.units+1<cLine)(ho:PE X o td)(hi:PE X i ty)(hs:NoSl i):PE X (.Subscript o i pos) (zP8 td ty):=by
 intro pins s σ H Q I h;refine zV5 PySem.F.slot_dict_getitem.lookup hs (thn (ho pins s σ H _ I h) fun u s1 ⟨x,H1,I1,rx,q1⟩=>thn (hi pins s1 σ H1 _ I1 q1) fun iv s2 ⟨y,H2,I2,ry,a,v,ex,g,q2⟩=>?_);subst ex;obtain rfl:u=qHa a:=rx;exact⟨zMA I2 g,zRC hu I2 g ry fun w' s3 I3 rw'=>⟨v,H2,I3,rw',q2⟩⟩
theorem zFR(hu:X.A.units+1<cLine)(hi:PE X i ty)(ho:PE X o td):PC X .NotIn i o (zLT ty td):=by
 intro pins s σ H Q I h;refine thn (hi pins s σ H _ I h) fun iv s1 ⟨y,H1,I1,ry,q1⟩=>thn (ho pins s1 σ H1 _ I1 q1) fun u s2 ⟨x,H2,I2,rx,a,ov,ex,g,q2⟩=>?_
 subst ex;obtain rfl:u=qHa a:=rx;exact zWU hu I2 g ry fun s3 I3=>⟨.bl (!ov.isSome),H2,I3,rfl,q2⟩
theorem zPN(hu:X.A.units+1<cLine)(ho:PE X o td)(hi:PE X i ty)(hv:PE X value tv)(hs:qIs value (some (.Subscript o i pos')) pos.line X.env=pure false) :
  PS X (.Assign [.Subscript o i pos'] value pos) (zXQ td ty tv):=by
 intro pins s σ H D I h;refine qJi (thn (hv pins s σ H _ I h) fun r s1 ⟨v,H1,I1,rv,q1⟩=>thn (ho pins s1 σ H1 _ I1 q1) fun u s2 ⟨x,H2,I2,rx,q2⟩=>thn (hi pins s2 σ H2 _ I2 q2) fun iv s3 ⟨y,H3,I3,ry,a,H4,ex,g,q3⟩=>?_) hs;subst ex;obtain rfl:u=qHa a:=rx;exact zRB hu I3 g ry rv fun s4 I4=>⟨σ,H4,I4,q3⟩
end
theorem zT8{P:qH9}{w:World}{H:Hp}(h:Heap)(hb:qHt<h.objs.size):ObjOk P w H (h.push { cls:=.type "dict",data:=.dict #[] }) h.objs.size (.dK []):=
 ⟨qAk _,beq_eq_false_iff_ne.mpr (qC1 (qAo hb)),[],.nil,Heap.DictOf.new h⟩
theorem zT3{P:qH9}{w:World}{H:Hp}(h:Heap)(hb:qHt<h.objs.size):ObjOk P w H (h.push { cls:=.type "dict",data:=.dict #[] }) h.objs.size (.dT (fun _=>False) 0 []):=
 ⟨qAk _,beq_eq_false_iff_ne.mpr (qC1 (qAo hb)),[],.nil,_,#[],0,qHf _ rfl,⟨rfl,rfl,rfl⟩,rfl,rfl,qEq,rfl⟩
def zTQ:TE:=fun _ H Q=>∀p,H p=none->Q (.ref p) (upd H p (.dK []))
section
variable{X:Cx}{pos:Pos}
theorem zIX:PE X (.Dict [] [] pos) zTQ:=fun pins s σ H Q I h=>
 wpAny_Dict_empty ⟨.ref s.heap.objs.size,_,I.laid (a:=s.heap.objs.size) (o:=.dK []) (t':=s.toks) (fun _ _ q=>qH7 _ q) (qA6 _) (zT8 s.heap I.big),rfl,h _ (I.hok.fresh (qA6 _))⟩
end
noncomputable def zP7:List (TE×TE)->St->Hp->(List (V×V)->Hp->Prop)->Prop
 |[],_,H,Q=>Q [] H
 |(tk,tv)::r,σ,H,Q=>tk σ H fun x H1=>tv σ H1 fun y H2=>zP7 r σ H2 fun ps H3=>Q ((x,y)::ps) H3
abbrev VV:List (V×V)->List (Value×Value)->Prop:=qIx fun p q=>RelV p.1 q.1/\RelV p.2 q.2
def PPs(X:Cx)(pos:Pos)(keys:List (Option Expr))(values:List Expr)(trs:List (TE×TE)):Prop:=
 ∀(pins:List (Addr×Obj))(s:qH6)(σ:St)(H:Hp)(Q:List (V×V)->Hp->Prop),Inv X pins σ H s->zP7 trs σ H Q ->
  wpAny (model X.prog X.w) X.A (evalPairs (pairTrees keys values X.env pos)) (fun vs s'=>∃ps H',Inv X pins σ H' s'/\VV ps vs/\Q ps H') X.xe s
theorem zVN{X:Cx}{pos:Pos}:PPs X pos [] [] []:=fun pins s σ H Q I h=>pairTrees_nil_walk ⟨[],H,I,.nil,h⟩
theorem zSB{X:Cx}{pos:Pos}{k v:Expr}{ks:List (Option Expr)}{vs:List Expr}{tk tv:TE}{trs:List (TE×TE)}(hk:PE X k tk)(hv:PE X v tv)(hr:PPs X pos ks vs trs) :
  PPs X pos (some k::ks) (v::vs) ((tk,tv)::trs):=fun pins s σ H Q I h=>
 pairTrees_cons_walk (thn (hk pins s σ H _ I h) fun u s1 ⟨x,H1,I1,rx,q1⟩=>thn (hv pins s1 σ H1 _ I1 q1) fun w2 s2 ⟨y,H2,I2,ry,q2⟩=>
  thn (hr pins s2 σ H2 _ I2 q2) fun ws s3 ⟨ps,H3,I3,rel,q3⟩=>⟨(x,y)::ps,H3,I3,.cons ⟨rx,ry⟩ rel,q3⟩)
structure M2(X:Cx)(o:Expr)(m:Str)(apos:Pos)(e f:Expr)(cpos:Pos):Prop where
 base:qIm o m X.env (eval o X.env)=eval o X.env
 few:((backTo cpos (starEach [e,f] X.env)).all (fun x=>!x.1)&&(backToKw cpos (keywordEach [] X.env)).all (fun x=>x.1.isSome)
  && decide (([e,f]:List Expr).length+([]:List qKc).length+(if([]:List qKc).isEmpty then 0 else 1)<30))=true
 line:(apos.endLine==cpos.line)=true
 trees:backTo cpos (starEach [e,f] X.env)=[(false,eval e X.env),(false,eval f X.env)]
def IsD(H:Hp)(a:Addr):Prop:=(∃kvs,Rd H a (.dK kvs))\/∃T e0 kvs,Rd H a (.dT T e0 kvs)
theorem zU9{X:Cx}{pins:List (Addr×Obj)}{σ:St}{H:Hp}{s:qH6}{a:Addr}(I:Inv X pins σ H s)(d:IsD H a) :
  s.TypeIs (.ref a) "dict"/\(∀b,qHa a=.ref b->∃ob,s.heap.get? b=some ob/\ob.dict=none)/\(a==qHt)=false:=by
 rcases d with⟨kvs,e⟩|⟨_,_,kvs,e⟩
 ·obtain⟨_,hd,vs,_,dd⟩:=zOO I.hok e;refine⟨dd.typeIs,fun b q=>?_,hd⟩;cases q;obtain⟨ob,_,_,h1,h2,_⟩:=dd;exact⟨ob,h1,h2.2.1⟩
 ·obtain⟨_,hd,xs,_,dd⟩:=zOM I.hok e;refine⟨dd.typeIs,fun b q=>?_,hd⟩;cases q;obtain⟨ob,_,_,h1,h2,_⟩:=dd;exact⟨ob,h1,h2.2.1⟩
section
variable{X:Cx}{pins:List (Addr×Obj)}{σ:St}{H:Hp}{s:qH6}{a:Addr}{y d:V}{u r:Value}{o:Option V}{A:qHb}{E:Value->qH6->Prop}
theorem zZJ{Q:Value->qH6->Prop}(hu:A.units+1<cLine)(I:Inv X pins σ H s)(g:DGet H a y o)(ry:RelV y u)(rd:RelV d r)(h:∀w' s',Inv X pins σ H s'->RelV (o.getD d) w'->Q w' s') :
  wpAny (model X.prog X.w) A (call (.builtin "dict.get") [.ref a,u,r]) Q E s:=by
 rcases g with⟨kvs,k,e,ey,l⟩|⟨T,e0,kvs,k,b,e,ey,eb,l⟩
 ·subst ey;obtain⟨z,hd,vs,rel,dd⟩:=zOO I.hok e;refine call_meetsIn qD1 dd.typeIs qE7 (qDw _ _ _) (meets_dict_get_default (zD0 X.prog X.w) a (zQD ry) hd r) ⟨_,dd.mapOf,h _ _ (I.tok _) ?_⟩;rw[l];exact(rel.val k).getD rd
 ·subst ey
  cases(show u=qHa b from ry)
  obtain⟨z,hd,xs,rel,dd⟩:=zOM I.hok e;refine call_meetsIn qD1 dd.typeIs qE7 (qDw _ _ _) (meetsH_dict_get_default (tupleKind (mixN X.prog X.w)) a b hd r) ⟨tupleKind_room_in1 hu,k,xs,zI8 I.hok eb,dd,h _ _ (I.tok _) ?_⟩;rw[l];exact(rel.val k).getD rd
end
noncomputable def zTR(td ty tx:TE):TE:=fun σ H Q=>td σ H fun x H1=>∃a,x=.ref a/\IsD H1 a/\ty σ H1 fun y H2=>tx σ H2 fun z H3=>∃o,DGet H3 a y o/\Q (o.getD z) H3
section
variable{X:Cx}{o e f:Expr}{apos cpos:Pos}{td ty tx:TE}
theorem zSH(hu:X.A.units+1<cLine)(ho:PE X o td)(he:PE X e ty)(hf:PE X f tx)(m:M2 X o "get" apos e f cpos):PE X (.Call (.Attribute o "get" apos) [e,f] [] cpos) (zTR td ty tx):=by
 intro pins s σ H Q I h;refine wpAny_Call_method m.base m.few m.line qDx qD1 PySem.F.type_dict_get (thn (ho pins s σ H _ I h) fun u s1 z0=>?_);obtain⟨x,H1,I1,rx,a,ex,d,q1⟩:=z0;subst ex;obtain rfl:u=qHa a:=rx;obtain⟨t1,t2,_⟩:=zU9 I1 d;refine⟨t1,t2,?_⟩;rw[m.trees];refine qId rfl (qIk (qIz (thn (he pins s1 σ H1 _ I1 q1) fun iv s2 ⟨y,H2,I2,ry,q2⟩=>
  qIz (thn (hf pins s2 σ H2 _ I2 q2) fun fv s3 ⟨z,H3,I3,rz,ov,g,q3⟩=>qKb ?_))))
 exact zZJ hu I3 g ry rz fun w' s4 I4 rw'=>⟨_,H3,I4,rw',q3⟩
end
section
variable{X:Cx}{pins:List (Addr×Obj)}{σ:St}{H:Hp}{s:qH6}{a:Addr}{kvs:List (Key×V)}{A:qHb}{E:Value->qH6->Prop}
end
section
variable{X:Cx}{pins:List (Addr×Obj)}{σ:St}{H:Hp}{s:qH6}{a:Addr}{y:V}{u:Value}{A:qHb}{E:Value->qH6->Prop}
end
section
variable{X:Cx}{K:qA1}
end
end L2
namespace Mi
open PySem
noncomputable section
end
noncomputable section
end
noncomputable section
end
noncomputable section
end
end Mi
namespace Mi
end Mi
namespace PySem
open PyProof.Rows
end PySem
namespace Mi
open PySem
noncomputable section
end
noncomputable section
end
noncomputable section
end
noncomputable section
end
noncomputable section
end
noncomputable section
end
noncomputable section
end
noncomputable section
end
noncomputable section
end
noncomputable section
end
noncomputable section
end
noncomputable section
end
noncomputable section
end
noncomputable section
end
noncomputable section
end
noncomputable section
end
noncomputable section
end
end Mi
namespace PySem
open Builtin Builtin.Str PySem.Spec
end PySem
namespace Att
open PySem PySem.W PySem.Calls PyProof.Rows
theorem zHJ{P:Params}{h:Heap}:∀(ns:List Int)(vs:List Value),WellAll P h vs (ns.map qKw)->qKd vs ns:=by
 intro ns
 induction ns with
 |nil=>
  intro vs w;rw[List.map_nil]at w;cases w;exact .nil
 |cons n ns ih=>
  intro vs w;rw[qAn]at w;cases w with
  |cons a b=>
   cases a;exact .cons _ _ (ih _ b)
theorem zPF{l:OpenLaw}{n:Nat}(hn:l.most=some n){P:Params}{h:Heap}{args:List WData}{vals:List Value}
  (hpre:l.row.toRowW.claim.pre args=true) (hwl:WellAll P h vals args) :
  ∃a vs ns,vals=[qHa a]/\args=[WData.list (ns.map qKw)]/\h.get? a=some { cls:=.type "list",data:=.seq vs.toArray }/\qKd vs ns/\ns.length<=n:=by
 have hsh:WShape.hasAll [] args [.list .int]=true:=(pre_splitW hpre).1;have hc:l.pre.holds [] { args:=args }=true:=(pre_splitW hpre).2;obtain⟨d,r,rfl,h1,h2⟩:=hasAllW_cons hsh;obtain rfl:=hasAllW_nil h2;obtain⟨xs,rfl,h3⟩:=hasW_list h1;obtain⟨ns,rfl⟩:=items_int h3;have hlen:ns.length<=n:=by
  unfold OpenLaw.pre at hc;have h4:(WTm.not (.lt (.lit (.int (n:Int))) (.len (.arg 0)))).holds [] { args:=[.list (ns.map .int)] }=true:=by
   have h4:=(holds_andW hc).1;rw[hn]at h4;exact h4
  have h5:=condW_of h4 (w_not (w_lt w_lit (w_len_list (w_arg rfl))));rw[qAp]at h5;refine Nat.le_of_not_lt fun q=>?_
  have q':(n:Int)<((ns.length:Nat):Int):=by omega
  first
   |(rw[decide_eq_true q']at h5;exact absurd h5 (by decide))
   |(simp at h5;omega)
 cases hwl with
 |cons w1 w2=>
  cases w2;cases w1 with
  |list ho hall=>exact⟨_,_,ns,rfl,rfl,ho,zHJ ns _ hall,hlen⟩
theorem zPO(l:OpenLaw)(args:List WData):l.row.toRowW.claim.post args (.bool true) args=true:=
 postW_of (r:=l.row.toRowW) (X:=(true==true))
  (show qL9 [] (.bool true) .bool=true by first|rfl|decide|simp[qL9,WShape.arms,WShape.armsAll])
  (show(WTm.eq .res (.lit (.bool true))).value [] { args:=args,res:=some (.bool true),after:=args }=some (.bool (true==true)) from w_eq_bool (w_res rfl) w_lit) rfl
section
variable{prog:qH9}{w:World}{A:qHb}{E:Value->qH6->Prop}{s:qH6}{K:Frag}
end
end Att
namespace L2
open PySem PySem.Spec PyProof.Rows
theorem zK0:∀{vs:List Value}{ns:List Int},qKd vs ns->Vals (ns.map V.int) vs
 |_,_,.nil=>.nil
 |_,_,.cons n t h=>.cons ⟨t,rfl⟩ (zK0 h)
abbrev KOf{K:qA1}{h:Heap}(_:K.In h):qA1:=K
noncomputable def zBS(s:Stmt):Arguments:=match s with
 |.FunctionDef _ a _ _ _ _ _ _ _ _=>a
 |_=>{ posonlyargs:=[],args:=[],vararg:=none,kwonlyargs:=[],kw_defaults:=[],kwarg:=none,defaults:=[] }
noncomputable def zB1(s:Stmt):List Stmt:=match s with
 |.FunctionDef _ _ b _ _ _ _ _ _ _=>b
 |_=>[]
noncomputable def zA9(s:Stmt):Scope:=match s with
 |.FunctionDef _ _ _ _ _ _ sc _ _ _=>sc
 |_=>{ kind:=.function,names:=[],isGenerator:=false,isCoroutine:=false }
abbrev CX0:CXT:=fun _ _ _ _ _ _=>False
abbrev E0:XK:=fun _ _ _=>False
theorem zaF{X:Cx}:zII CX0 X E0:=fun _ _ _ _ _ _ _ h=>h.elim
structure Fun(K:qA1)(x qual:Str)(st:Stmt)(f:Addr)(fd:qHo):Prop where
 ex:∃(oc:Value)(od:Option Addr)(kV doc pm:Value)(an:Option Addr)(cdv ct:Value)(osl:Array (Option Value)),
  fd=qAz x qual (zBS st) (zB1 st) (zA9 st) .none kV doc pm an cdv ct/\K.lookup f=some ⟨oc,od,.func fd,osl⟩/\qBo K cdv qual=true
 kp:qAv K (.ref f)=true
section
variable{P:qH9}{w:World}{K:qA1}{mg:Str->Option Value}{base:Heap}
theorem Fun.ok{x qual:Str}{st:Stmt}{f:Addr}{fd:qHo}{N ps:List Str}{k:Nat}{sp:Sp}(F:Fun K x qual st f fd)(S:FnScope N ps (zA9 st))(len:∀vs H Q E,sp vs H Q E->vs.length=ps.length)
  (hbody:∀(cdv:Value)(A:qHb)(outer:List Env)(s:qH6)(H:Hp)(vs:List V)(Q:VK)(E:XK),Room k (A.deeper (envOfC qual (zA9 st) s.heap.objs.size f cdv))->sp vs H Q E ->
   ∃t,PSs (cxOf CX0 P w K mg base N qual (zA9 st) f cdv A outer s H E).nox (zB1 st) t/\t { nx:=fun _ H'=>Q .non H',rt:=Q } (start N vs) H):FnOk P w K mg base CX0 (k+1) f fd ps sp:=by
 obtain⟨oc,od,kV,doc,pm,an,cdv,ct,osl,rfl,lk,hcd⟩:=F.ex;refine zZ9 lk hcd S len fun A outer s H vs Q E hr hsp=>?_
 obtain⟨t,h,q⟩:=hbody cdv A outer s H vs Q E hr hsp;exact⟨t,h.nox,q⟩
theorem Fun.binds{x qual:Str}{st:Stmt}{f:Addr}{fd:qHo}{ps:List Str}(F:Fun K x qual st f fd)
  (h:∀(kV doc pm:Value)(an:Option Addr)(cdv ct:Value)(us:List Value),us.length=ps.length->qJc (qAz x qual (zBS st) (zB1 st) (zA9 st) .none kV doc pm an cdv ct) ⟨us,[]⟩=pure (ps.zip us)):Binds K fd ps []:=by
 obtain⟨oc,od,kV,doc,pm,an,cdv,ct,osl,rfl,lk,hcd⟩:=F.ex;exact .all (h kV doc pm an cdv ct)
theorem zQR{x qual:Str}{st:Stmt}{f:Addr}{oc:Value}{od an:Option Addr}{osl:Array (Option Value)}{kV doc pm cdv ct:Value}(l:K.lookup f=some ⟨oc,od,.func (qAz x qual (zBS st) (zB1 st) (zA9 st) .none kV doc pm an cdv ct),osl⟩)
  (c:qBo K cdv qual=true) (k:qAv K (.ref f)=true):Fun K x qual st f (qAz x qual (zBS st) (zB1 st) (zA9 st) .none kV doc pm an cdv ct):=⟨⟨oc,od,kV,doc,pm,an,cdv,ct,osl,rfl,l,c⟩,k⟩
end
theorem zHK{A:qHb}{k:Nat}(hr:Room k A):A.units+1<cLine:=qC9 (Nat.add_le_add_left (by decide:1<=64) _) hr.units
section
variable{X:Cx}
theorem pv(i:Nat){x:Str}{pos:Pos}(hN:X.N[i]?=some x:=by rfl)(hv:Vis X.env.scope x:=by first|exact qGu rfl|exact qFt (qGu rfl)|exact qFt (qFt rfl))(hd:(x==("__debug__":Str))=false:=by decide)
  (hcd:(x==("__classdict__":Str))=false:=by decide):PE X (.Name x pos) (tVar i):=zU0 hN hv hd hcd
end
def Same(H H':Hp):Prop:=∀b o,H b=some o->H' b=some o
theorem Same.refl(H:Hp):Same H H:=fun _ _ h=>h
theorem Same.trans{H H1 H2:Hp}(a:Same H H1)(b:Same H1 H2):Same H H2:=fun c o h=>b c o (a c o h)
theorem Same.free{H H':Hp}(e:Same H H'){l:Addr}(h:H' l=qEw):H l=qEw:=by
 cases q:H l with
 |none=>rfl
 |some o=>
  rw[e l o q]at h;cases h
theorem Same.seq{K:qA1}{H H':Hp}{a:Addr}{xs:List V}(e:Same H H')(h:SqL K H a xs):SqL K H' a xs:=by
 rcases h with(h|⟨o,h⟩)|h
 ·exact .inl (.inl (e _ _ h))
 ·exact .inl (.inr ⟨o,e _ _ h⟩)
 ·exact .inr h
section
variable{κ:Type}[DecidableEq κ]
end
theorem asN{a b:Nat}(h:a<b):a<b:=h
theorem asL{a b:Nat}(h:a<=b):a<=b:=h
theorem asE{a b:Nat}(h:a=b):a=b:=h
noncomputable def clos(cells:List (Str×Addr)):List (Str×qI2)->List (Str×Addr)->List (Str×Addr)
 |[],acc=>acc
 |(n,k)::r,acc=>if k==.free then clos cells r ((n,(cells.lookup n).getD 0)::acc)else clos cells r acc
theorem zEP(cells:List (Str×Addr)):∀(names:List (Str×qI2))(acc:List (Str×Addr)),clos cells names acc=clos cells names []++acc
 |[],_=>rfl
 |(n,k)::r,acc=>by
  unfold clos
  split
  ·rw[zEP cells r (_::acc),zEP cells r [_],qC2];rfl
  ·exact zEP cells r acc
theorem zGV{cells:List (Str×Addr)}{x:Str}{c:Addr}:∀{names:List (Str×qI2)},(x,c)∈clos cells names []->(x,qHd)∈names/\c=(cells.lookup x).getD 0
 |[],h=>by simp[clos]at h
 |(n,k)::r,h=>by
  unfold clos at h
  split at h
  ·rename_i hk
   rw[zEP]at h
   rcases qAw.mp h with h|h
   ·obtain⟨h1,h2⟩:=zGV h;exact⟨qAq _ h1,h2⟩
   ·have e:=qB0.mp h
    injection e with e1 e2
    subst e1;have hk':k=.free:=by simpa using hk
    subst hk';exact⟨qBa,e2⟩
  ·obtain⟨h1,h2⟩:=zGV h;exact⟨qAq _ h1,h2⟩
theorem zJN{cells:List (Str×Addr)}{x:Str}:∀{names:List (Str×qI2)},(x,qHd)∈names->(x,(cells.lookup x).getD 0)∈clos cells names []
 |[],h=>by simp at h
 |(n,k)::r,h=>by
  unfold clos
  rcases qAj.mp h with e|h
  ·injection e with e1 e2
   subst e1;subst e2;rw[if_pos (by rfl),zEP];exact qAm _ (by simp)
  ·split
   ·rw[zEP];exact qBh _ (zJN h)
   ·exact zJN h
theorem zBQ:∀(names:List (Str×qI2))(n:Nat)(acc:List (Str×Addr)),cellsFrom n names acc=cellsFrom n names []++acc
 |[],_,_=>rfl
 |(x,k)::r,n,acc=>by
  unfold cellsFrom
  split
  ·rw[zBQ r (n+1) (_::acc),zBQ r (n+1) [_],qC2];rfl
  ·exact zBQ r n acc
theorem zCU{x:Str}{c:Addr}:∀{names:List (Str×qI2)}{n:Nat},(x,c)∈cellsFrom n names []->(x,qHs)∈names
 |[],_,h=>by simp[cellsFrom]at h
 |(y,k)::r,n,h=>by
  unfold cellsFrom at h
  split at h
  ·rename_i hk
   rw[zBQ]at h
   rcases qAw.mp h with h|h
   ·exact qAq _ (zCU h)
   ·have e:=qB0.mp h
    injection e with e1 e2
    subst e1;have hk':k=.cell:=by simpa using hk
    subst hk';exact qBa
  ·exact qAq _ (zCU h)
theorem zC9{α:Type}{x:Str}{a:α}:∀{l:List (Str×α)},(l.map (·.1)).Nodup->(x,a)∈l->l.lookup x=some a
 |[],_,h=>by simp at h
 |(y,b)::r,nd,h=>by
  have nd':(y::r.map (·.1)).Nodup:=nd;obtain⟨h1,h2⟩:=qB4.mp nd'
  rcases qAj.mp h with e|hm
  ·injection e with e1 e2
   subst e1;subst e2;rw[qBk,beq_self_eq_true]
  ·have hne:(x==y)=false:=by
    rw[beq_eq_false_iff_ne]
    rintro rfl
    exact h1 (qB6.mpr ⟨(x,a),hm,rfl⟩)
   rw[qBk,hne];exact zC9 h2 hm
theorem zEW{α:Type}{x:Str}:∀{l:List (Str×α)},(∀a,(x,a)∉l)->l.lookup x=none
 |[],_=>rfl
 |(y,b)::r,h=>by
  have hne:(x==y)=false:=by
   rw[beq_eq_false_iff_ne]
   rintro rfl
   exact h b qBa
  rw[qBk,hne];exact zEW fun a m=>h a (qAq _ m)
theorem zEV{α:Type}{x:Str}{a:α}:∀{l:List (Str×α)},(x,a)∈l->∃b,l.lookup x=some b
 |[],h=>by simp at h
 |(y,b)::r,h=>by
  rw[qBk];cases e:x==y with
  |true=>exact⟨b,rfl⟩
  |false=>
   rcases qAj.mp h with q|q
   ·injection q with q1 _
    subst q1;rw[beq_self_eq_true]at e;cases e
   ·exact zEV q
theorem zI5{α:Type}{x:Str}:∀(l k:List (Str×α)),(l++k).lookup x=(l.lookup x).or (k.lookup x)
 |[],k=>by simp
 |(y,b)::r,k=>by
  show qDc x ((y,b)::(r++k))=_;rw[qBk,qBk];cases x==y with
  |true=>rfl
  |false=>exact zI5 r k
def zZT(sc:Scope)(env:Env):Prop:=∀x,(x,qHd)∈sc.names->env.kindOf x=some .cell\/env.kindOf x=some .free
theorem zG0{sc:Scope}{env:Env}(h:∀x,(x,qHd)∈sc.names->∃c,env.cells.lookup x=some c):closureFor sc env=pure (clos env.cells sc.names []):=by
 have go:∀(names:List (Str×qI2))(acc:List (Str×Addr)),(∀x,(x,qHd)∈names->∃c,env.cells.lookup x=some c) ->
   (forIn names acc fun(x:Str×qI2)(cs:List (Str×Addr))=>(match x with|(name,kind)=>if(kind==qHd)=true then(do let c <- cellOf env name;pure (qCb ((name,c)::cs)))else pure (qCb cs):Sem (ForInStep (List (Str×Addr)))))=pure (clos env.cells names acc):=by
  intro names
  induction names with
  |nil=>intro acc _;rfl
  |cons p r ih=>
   intro acc hn;obtain⟨n,k⟩:=p;have hr:∀x,(x,qHd)∈r->∃c,env.cells.lookup x=some c:=fun x hx=>hn x (qAq _ hx)
   rw[qFu];unfold clos
   by_cases hk:(k==qHd)=true
   ·have hk':k=.free:=by simpa using hk
    subst hk';obtain⟨c,hc⟩:=hn n qBa;have e:cellOf env n=pure c:=by unfold cellOf;rw[hc]
    rw[if_pos (by rfl)];simp only[if_pos (show(qHd==qHd)=true from rfl),e,hc,qE2,pure_bind];exact ih _ hr
   ·rw[if_neg hk];simp only[if_neg hk,pure_bind];exact ih _ hr
 unfold closureFor;have q:=go sc.names [] h
 first
  |(rw[show(forIn sc.names ([]:List (Str×Addr)) _:Sem (List (Str×Addr)))=_ from q];rfl)
  |(refine(congrArg (fun z=>z >>= pure) q).trans ?_;rfl)
  |(simp only[q];rfl)
  |exact q
def zEO(sc:Scope)(C:Addr)(env:Env):Env:=
 { scope:=relabel sc env,locals:=C,globals:=env.globals,cells:=cellsFrom (C+1) sc.names (clos env.cells sc.names []),qual:=env.qual,func:=none,code:=env.code,frame:=env.frame,builtins:=env.builtins }
theorem zFG{M:Model}{A:qHb}{E:Value->qH6->Prop}{s:qH6}{sc:Scope}{env:Env}{cl:List (Str×Addr)}{Q:Env->qH6->Prop}
  (hQ:Q { scope:=sc,locals:=s.heap.objs.size,globals:=env.globals,cells:=cellsFrom (s.heap.objs.size+1) sc.names cl,qual:=env.qual,func:=none,code:=env.code,frame:=env.frame,builtins:=env.builtins }
   { s with heap:=pushCells (s.heap.push { cls:=.type "dict",data:=.dict #[] }) sc.names }) :
  wpAny M A (newFunctionEnv sc env.globals cl [] env.qual none .none (some env)) Q E s:=by
 simp only[newFunctionEnv,qDi,if_true];refine wpAny_bind (wpAny_alloc ?_);refine wpAny_bind (wpAny_layCells _ (fun name kind cells=>by cases hkc:kind==qHs<;>simp[hkc]) _ _ _ _ ?_);rw[show({ s with heap:=s.heap.push { cls:=.type "dict",data:=.dict #[] } }:qH6).heap.objs.size=s.heap.objs.size+1 from qHw ..];refine wpAny_bind ?_;rw[qGe];exact wpAny_pure (wpAny_pure hQ)
def zDH(X:Cx)(N':List Str)(sc:Scope)(C:Addr)(s:qH6)(H:Hp)(fp:List Addr):Cx:=
 { X with N:=N',s₀:=s,H₀:=H,env:=zEO sc C X.env,outer:=X.stack,stack:=X.stack,ex:=fp,fn:=fun x=>sc.names.lookup x==some .cell,pn:=[],xe:=fun _ _=>False }
def PTs(X:Cx)(ifs:List Expr)(t:TT):Prop:=
 ∀(pins:List (Addr×Obj))(s:qH6)(σ:St)(H:Hp)(Q:Bool->Hp->Prop),Inv X pins σ H s->t σ H Q ->
  wpAny (model X.prog X.w) X.A (forIn ifs true fun c r=>if r=true then do let ok <- isTrue c X.env (eval c X.env);pure (qCb ok)else pure (qCb r)) (TP X pins σ Q) X.xe s
noncomputable def tYes:TT:=fun _ H Q=>Q true H
theorem zIU{X:Cx}:PTs X [] tYes:=fun _ _ _ H _ I h=>wpAny_tests_nil ⟨H,I,h⟩
theorem zVK{X:Cx}{c:Expr}{t:TT}(h:PT X c t):PTs X [c] t:=fun pins s σ H Q I q=>wpAny_tests_one (h pins s σ H Q I q)
structure CompNames(N N':List Str)(k:Nat)(sc:Scope)(env:Env):Prop where
 kind:sc.kind=.function
 nd:(sc.names.map (·.1)).Nodup
 len:N'.length=N.length+k
 old:∀(i:Nat)(x:Str),N'[i]?=some x->i<N.length->(x,qHd)∈sc.names/\N[i]?=some x\/sc.names.lookup x=none
 free:zZT sc env
theorem zBV{sc:Scope}{env:Env}{x:Str}{k:qI2}:∀{names:List (Str×qI2)},
  (names.map fun(n,k)=>if(k==qHd&&env.scope.kind==.function&&env.kindOf n==some .cell)then(n,qHs)else(n,k)).lookup x=some k ->
  names.lookup x=some k\/(names.lookup x=some .free/\k=.cell)
 |[],h=>by simp at h
 |(n,j)::r,h=>by
  have ih:=@zBV sc env x k r;rw[qAn]at h;rw[qBk]
  by_cases hc:(j==qHd&&env.scope.kind==.function&&env.kindOf n==some .cell)=true
  ·have h':qDc x ((n,qHs)::(r.map fun(n,k)=>if(k==qHd&&env.scope.kind==.function&&env.kindOf n==some .cell)then(n,qHs)else(n,k)))=some k:=by
    rw[<- h];simp only[if_pos hc]
   rw[qBk]at h';cases e:x==n with
   |true=>
    rw[e]at h';have hk:k=.cell:=(qB2 h').symm;have hj:j=.free:=by
     simp only[qBi,beq_iff_eq]at hc;exact hc.1.1
    subst hj;exact .inr ⟨rfl,hk⟩
   |false=>
    rw[e]at h';exact ih h'
  ·have h':qDc x ((n,j)::(r.map fun(n,k)=>if(k==qHd&&env.scope.kind==.function&&env.kindOf n==some .cell)then(n,qHs)else(n,k)))=some k:=by
    rw[<- h];simp only[if_neg hc]
   rw[qBk]at h';cases e:x==n with
   |true=>rw[e]at h';exact .inl h'
   |false=>rw[e]at h';exact ih h'
section
variable{X:Cx}{N':List Str}{k:Nat}{sc:Scope}{pins:List (Addr×Obj)}{σ:St}{H:Hp}{s:qH6}
theorem zOP{C:Addr}{x:Str}{c:Addr}(nd:(sc.names.map (·.1)).Nodup)(h:(zEO sc C X.env).cells.lookup x=some c) :
  ((x,c)∈cellsFrom (C+1) sc.names []/\(x,qHs)∈sc.names)\/((x,qHd)∈sc.names/\c=(X.env.cells.lookup x).getD 0):=by
 have m:=mem_of_lookup h;have m':(x,c)∈cellsFrom (C+1) sc.names (clos X.env.cells sc.names []):=m;rw[zBQ]at m'
 rcases qAw.mp m' with z|z
 ·exact .inl ⟨z,zCU z⟩
 ·exact .inr (zGV z)
theorem zEZ{C:Addr}{x:Str}(nd:(sc.names.map (·.1)).Nodup)(h:(x,qHd)∈sc.names):(zEO sc C X.env).cells.lookup x=some ((X.env.cells.lookup x).getD 0):=by
 show(cellsFrom (C+1) sc.names (clos X.env.cells sc.names [])).lookup x=_
 rw[zBQ,zI5,zEW (fun a m=>?_),Option.none_or]
 ·obtain⟨b,hb⟩:=zEV (zJN (cells:=X.env.cells) h)
  have:=(zGV (mem_of_lookup hb)).2
  rw[hb,this]
 ·have e1:=zC9 nd (zCU m);rw[zC9 nd h]at e1;cases e1
theorem zSS(I:Inv X pins σ H s)(hc:X.calm=true)(S:CompNames X.N N' k sc X.env){fp:List Addr}(hf:∀b∈fp,FpOk X pins H b)(hfo:∀b∈fp,∃o,s.heap.get? b=some o)
  {s4:qH6} {D C:Addr} (eD:D=s.heap.objs.size) (eC:C=s.heap.objs.size+1)
  (e4:s4={ s with heap:=pushCells ((s.heap.push { cls:=.type "list",data:=.seq #[] 0 }).push { cls:=.type "dict",data:=.dict #[] }) sc.names }) :
  Inv (zDH X N' sc C s H fp) [(D,{ cls:=.type "list",data:=.seq #[] 0 })] (σ++qA5 k none) H s4/\∀b∈fp,FpOk (zDH X N' sc C s H fp) [(D,{ cls:=.type "list",data:=.seq #[] 0 })] H b:=by
 subst eD eC e4
 generalize hh1:s.heap.push { cls:=.type "list",data:=.seq #[] 0 }=h1
 generalize hh2:h1.push { cls:=.type "dict",data:=.dict #[] }=h2
 have sz1:h1.objs.size=s.heap.objs.size+1:=by rw[<- hh1];exact qHw ..
 have sz2:h2.objs.size=s.heap.objs.size+2:=by rw[<- hh2,qHw,sz1]
 have k1:∀b o,s.heap.get? b=some o->h1.get? b=some o:=fun b o e=>by rw[<- hh1];exact qH7 _ e
 have k2:∀b o,h1.get? b=some o->h2.get? b=some o:=fun b o e=>by rw[<- hh2];exact qH7 _ e
 have k3:∀b o,h2.get? b=some o->(pushCells h2 sc.names).get? b=some o:=pushCells_keeps sc.names h2;have kk:∀b o,s.heap.get? b=some o->(pushCells h2 sc.names).get? b=some o:=fun b o e=>k3 b o (k2 b o (k1 b o e))
 have own:CellsOk (pushCells h2 sc.names) h2.objs.size (cellsFrom h2.objs.size sc.names []):=cellsFrom_ok sc.names h2 h2.objs.size [] ⟨fun _ _ hm=>(nomatch hm),qF9⟩ (qA6 _);have eC1:s.heap.objs.size+1+1=h2.objs.size:=by rw[sz2]
 have freeCell:∀x,(x,qHd)∈sc.names->∃c,X.env.cells.lookup x=some c:=fun x hx=>I.ok.has x (S.free x hx)
 have cells:∀x c,(zEO sc (s.heap.objs.size+1) X.env).cells.lookup x=some c ->
   ((x,c)∈cellsFrom h2.objs.size sc.names []/\(x,qHs)∈sc.names/\(pushCells h2 sc.names).IsCell c none/\h2.objs.size<=c)\/((x,qHd)∈sc.names/\X.env.cells.lookup x=some c):=fun x c e=>by
  rcases zOP S.nd e with⟨m,q⟩|⟨m,q⟩
  ·rw[eC1]at m;exact .inl ⟨m,q,(own.empty x c m).1,(own.empty x c m).2⟩
  ·obtain⟨c',hc'⟩:=freeCell x m;rw[hc',qE2]at q;subst q;exact .inr ⟨m,hc'⟩
 have old:∀x c,X.env.cells.lookup x=some c->c<s.heap.objs.size:=fun x c e=>by
  obtain⟨v,q⟩:=I.cell x c e;exact q.lt
 have fpl:∀b∈fp,b<s.heap.objs.size:=fun b hb=>by
  obtain⟨o,e⟩:=hfo b hb;exact qH8 e
 have hCn:H (s.heap.objs.size+1)=none:=I.hok.fresh (qBx _);have hDn:H s.heap.objs.size=none:=I.hok.fresh (qA6 _);have nofs:∀a,s.heap.objs.size<=a->a∉frs X.stack:=fun a ha hb=>by
  rcases qAj.mp (I.stkSub a hb)with e|hb
  ·have t1:=asN I.lt;have t2:=asE e;have t3:=asL ha
   lia
  ·exact I.nofs ha hb
 have fin:∀b∈fp,b∉frs X.stack:=fun b hb z=>by
  obtain⟨f0,f1,f2,f3,f4,f5⟩:=hf b hb
  rcases qAj.mp (I.stkSub b z)with e|z
  ·exact f1 e
  ·exact f2 z
 have ok:(zDH X N' sc (s.heap.objs.size+1) s H fp).Ok:=by
  refine⟨I.ok.mod,S.kind,I.ok.glob,I.ok.blt,qBx _,?_,?_,?_,I.ok.hd,I.ok.frames,.inl rfl,?_,I.bs,qAl I.ok.bsz I.sz,?_,fin,I.stack,I.stkFree⟩
  ·intro x y c hx hy
   rcases cells x c hx with⟨m1,_,_,g1⟩|⟨m1,g1⟩<;>rcases cells y c hy with⟨m2,_,_,g2⟩|⟨m2,g2⟩
   ·exact name_of_addr own.apart m1 m2
   ·exact absurd (qAe (old y c g2) (qAl (by rw[sz2];exact qFh _ _) g1)) (qC3 _)
   ·exact absurd (qAe (old x c g1) (qAl (by rw[sz2];exact qFh _ _) g2)) (qC3 _)
   ·exact I.ok.inj x y c g1 g2
  ·intro x hx;have hx:(relabel sc X.env).names.lookup x=some .cell\/(relabel sc X.env).names.lookup x=some .free:=hx;have two:sc.names.lookup x=some .cell\/sc.names.lookup x=some .free:=by
    rcases hx with hx|hx
    ·rcases zBV (sc:=sc) hx with q|⟨q,_⟩
     ·exact .inl q
     ·exact .inr q
    ·rcases zBV (sc:=sc) hx with q|⟨_,q⟩
     ·exact .inr q
     ·cases q
   rcases two with q|q
   ·have:=qC7 sc.names (s.heap.objs.size+1+1) (clos X.env.cells sc.names []) (.inl q)
    exact qCq.mp this
   ·exact⟨_,zEZ S.nd (mem_of_lookup q)⟩
  ·intro x c hx e;have hx:(sc.names.lookup x==some qHs)=true:=hx;have hx':sc.names.lookup x=some .cell:=by simpa using hx
   rcases cells x c e with⟨_,_,_,g⟩|⟨m,_⟩
   ·show s.heap.objs.size<=c
    lia
   ·rw[zC9 S.nd m]at hx';cases hx'
  ·intro b hb;refine⟨?_,fun x c e z=>?_⟩
   ·exact qAo (qFa (fpl b hb))
   ·rcases cells x c e with⟨_,_,_,g⟩|⟨_,g⟩
    ·have t1:=asN (fpl b hb);have t2:=asL g;have t3:=asE z
     lia
    ·exact(hf b hb).2.2.2.2.1 x c g z
  ·intro b o e hb
   rcases(hf b hb).2.2.2.1 with z|z
   ·exact I.ok.noex b o e z
   ·exact absurd (qAe (qH8 e) (qAl I.ok.bsz z)) (qC3 _)
 have ns:(pushCells h2 sc.names).Ns (s.heap.objs.size+1) fun _=>none:=by
  have q:h2.Ns h1.objs.size fun _=>none:=by rw[<- hh2];exact Heap.Ns.new h1 (.type "dict")
  rw[sz1]at q;exact q.keeps k3
 have hD1:h1.get? s.heap.objs.size=some { cls:=.type "list",data:=.seq #[] 0 }:=by rw[<- hh1];exact qHf _ rfl
 refine⟨⟨ok,rfl,I.bare,Un.kept kk,⟨_,ns,?_⟩,?_,hCn,?_,?_,I.hok.kept kk,?_⟩,?_⟩
 ·intro i x v h1 h2 h3;have hi:i<X.N.length:=by
   rw[<- I.len]
   by_cases hi:i<σ.length
   ·exact hi
   ·rw[qAb (by lia),qBf]at h2
    split at h2<;>cases h2
  have h2':σ[i]?=some (some v):=by
   rw[qA7 (by rw[I.len];exact hi)]at h2;exact h2
  have h1:N'[i]?=some x:=h1
  rcases S.old i x h1 hi with⟨m,e⟩|e
  ·obtain⟨mm,hn,hl⟩:=I.loc;have hv:Vis X.env.scope x:=(S.free x m).elim (fun z=>.inr (.inl z)) fun z=>.inr (.inr z)
   obtain⟨u,r,l⟩:=hl i x v e h2' hv;refine⟨u,r,?_⟩
   rcases l with⟨z,_⟩|⟨_,c,hc,hcell⟩
   ·rcases S.free x m with z'|z'<;>rw[z]at z'<;>cases z'
   ·refine .inr ⟨?_,c,?_,hcell.keeps kk⟩
    ·have hv3:(relabel sc X.env).names.lookup x=some .local\/(relabel sc X.env).names.lookup x=some .cell\/(relabel sc X.env).names.lookup x=some .free:=h3
     rcases hv3 with q|q|q
     ·rcases zBV (sc:=sc) q with q|⟨_,q⟩
      ·rw[zC9 S.nd m]at q;cases q
      ·cases q
     ·exact .inl q
     ·exact .inr q
    ·have q:=zEZ (X:=X) (C:=s.heap.objs.size+1) S.nd m;rw[hc,qE2]at q;exact q
  ·exfalso
   have hv3:(relabel sc X.env).names.lookup x=some .local\/(relabel sc X.env).names.lookup x=some .cell\/(relabel sc X.env).names.lookup x=some .free:=h3
   rcases hv3 with q|q|q<;>rcases zBV (sc:=sc) q with q|⟨q,_⟩<;>rw[e]at q<;>cases q
 ·intro x c e
  rcases cells x c e with⟨_,_,g,_⟩|⟨_,g⟩
  ·exact⟨_,g⟩
  ·obtain⟨v,q⟩:=I.cell x c g;exact⟨v,q.keeps kk⟩
 ·intro x c e
  rcases cells x c e with⟨_,_,_,g⟩|⟨_,g⟩
  ·exact I.hok.fresh (by lia)
  ·exact I.freeC x c g
 ·intro p hp;have hp':p=(s.heap.objs.size,{ cls:=.type "list",data:=.seq #[] 0 }):=by
   have:p∈([]++[(s.heap.objs.size,({ cls:=.type "list",data:=.seq #[] 0 }:Obj))]:List (Addr×Obj)):=hp
   simpa using this
  subst hp';refine⟨k3 _ _ (k2 _ _ hD1),hDn,?_,nofs _ (qA6 _),fun v z=>by cases z⟩;show s.heap.objs.size≠s.heap.objs.size+1
  lia
 ·show(σ++qA5 k none).length=N'.length
  rw[qAy,qCz,I.len,S.len]
 ·intro b hb;obtain⟨f0,f1,f2,f3,f4,f5⟩:=hf b hb;refine⟨f0,(ok.exf b hb).1,fin b hb,.inl hb,fun x c e=>(ok.exf b hb).2 x c e,fun p hp=>?_⟩;have hp':p=(s.heap.objs.size,{ cls:=.type "list",data:=.seq #[] 0 }):=by
   have:p∈([]++[(s.heap.objs.size,({ cls:=.type "list",data:=.seq #[] 0 }:Obj))]:List (Addr×Obj)):=hp
   simpa using this
  subst hp';exact qCp (fpl b hb)
end
theorem zER{prog:qH9}{w:World}{A:qHb}{R:qKh->qH6->Prop}{s:qH6}{elt target iter:Expr}{ifs:List Expr}{scope:Scope}{pos:Pos}{it acc:Value}{env:Env}(I:Nat->qH6->Prop)
  (turn:∀n s,I n s->wpAny (model prog w) A (pyNext it) (fun r s₁=>match r with
   |none=>R (.ok .next) s₁
   |some v=>wpAny (model prog w) A (letOwnedTupleGo target it v) (fun _ s₂'=>wpAny (model prog w) A (assign target env v) (fun _ s₂=>
     wpAny (model prog w) A (forIn ifs true fun c r=>if r=true then do let ok <- isTrue c env (eval c env);pure (qCb ok)else pure (qCb r)) (fun ok s₃=>
      if ok=true then wpAny (model prog w) A (eval elt env) (fun x s₄=>
       wpAny (model prog w) A (call (.builtin "list.append") [acc,x]) (fun _ s₅=>∃m,m<n/\I m s₅) (fun _ _=>False) s₄) (fun _ _=>False) s₃
      else ∃m,m<n/\I m s₃) (fun _ _=>False) s₂) (fun _ _=>False) s₂') (fun _ _=>False) s₁) (fun _ _=>False) s)
  (n:Nat) (h:I n s) :
  qIj (model prog w) A (.compLoop (.ListComp elt [⟨target,iter,ifs,0⟩] scope pos) 0 it acc env) R s:=by
 refine codeAny_loop rfl I (fun n s hI=>?_) n h;show wpAny _ A ((compTurn (.ListComp elt [⟨target,iter,ifs,0⟩] scope pos) 0 it acc env).onRaise (fun x=>do noteFrame x env;theTreesLotGoes x)) _ _ s;refine wpAny_noted ?_;rw[compTurn_list];refine wpAny_bind (wpAny_standAt (wpAny_bind (wpAny_mono (turn n s hI) (fun r s₁ h₁=>?_) fun _ _ z=>z.elim)));cases r with
 |none=>exact wpAny_pure h₁
 |some v=>
  refine wpAny_bind (wpAny_mono h₁ (fun _ s₂' h₂'=>?_) fun _ _ z=>z.elim);refine wpAny_bind (wpAny_mono h₂' (fun _ s₂ h₂=>wpAny_bind (wpAny_mono h₂ (fun ok s₃ h₃=>?_) fun _ _ z=>z.elim)) fun _ _ z=>z.elim);cases ok with
  |false=>exact wpAny_pure ⟨rfl,h₃⟩
  |true=>
   exact wpAny_bind (wpAny_bind (wpAny_mono h₃ (fun x s₄ h₄=>wpAny_bind (wpAny_mono h₄ (fun _ s₅ h₅=>wpAny_pure (wpAny_pure ⟨rfl,h₅⟩)) fun _ _ z=>z.elim)) fun _ _ z=>z.elim))
def zTS(k:Nat)(g:TG)(tif:TT)(te:TE)(σ:St)(Q:VK)(J:It)(H1:Hp):Prop:=∃W:Nat->Nat->List V->Hp->Prop,(∃m,W 0 m [] H1)/\∀i m acc H,W i m acc H ->
 (J.stop i H/\∀D,H D=none->Q (.ref D) (upd H D (.lst acc))) \/
 (J.go i H/\acc.length<sizeLine/\∃N:List V->Hp->Prop,(∀acc' H',N acc' H'->∃m',m'<m/\W (i+1) m' acc' H')/\∀x H',J.yld i H x H'->g x (σ++qA5 k none) H' fun σ2 H2=>∃own:St,own.length=k/\σ2=σ++own/\tif σ2 H2 fun b H3=>if b=true then te σ2 H3 fun v H4=>N (acc++[v]) H4 else N acc H3)
noncomputable def zV4(wi:TI)(k:Nat)(g:TG)(tif:TT)(te:TE):TE:=fun σ H Q=>wi σ H (zTS k g tif te σ Q)
theorem HOk.track{P:qH9}{w:World}{H:Hp}{h:Heap}{a:Addr}{o:HO}(x:HOk P w H h)(hn:H a=none)(new:ObjOk P w (upd H a o) h a o):HOk P w (upd H a o) h:=fun b u e=>by
 by_cases hb:b=a
 ·subst hb;rw[zAF]at e;cases e;exact new
 ·rw[zAJ hb]at e;exact(x b u e).stay (fun c v _ q=>q) (fun c q=>by rw[zAJ (zAW q hn)];exact q) (fun c xs q=>by rw[zAJ (zAW q hn)];exact q) fun c _ _ q _=>by rw[zAJ (zAW q hn)];exact q
section
variable{X:Cx}{N':List Str}{k:Nat}{sc:Scope}{tg iter elt:Expr}{ifs:List Expr}{wi:TI}{g:TG}{tif:TT}{te:TE}{pos:Pos}
theorem zIF{pins:List (Addr×Obj)}{σ:St}{H2:Hp}{s2:qH6}{Q:VK}{RR:Value->Addr->qKh->qH6->Prop}{E:Value->qH6->Prop}(hc:X.calm=true)(S:CompNames X.N N' k sc X.env)
  (hg:∀C s H fp,PG (zDH X N' sc C s H fp) tg g) (hif:∀C s H fp,PTs (zDH X N' sc C s H fp) ifs tif) (he:∀C s H fp,PE (zDH X N' sc C s H fp) elt te)
  {it:Addr} {fp:List Addr} {tn:Nat->Heap->Prop} {J:It} (I2:Inv X pins σ H2 s2) (T:Turn X.prog X.w X.K tg J fp it tn) (st2:tn 0 s2.heap) (f2:∀b∈fp,FpOk X pins H2 b)
  {W:Nat->Nat->List V->Hp->Prop} {m0:Nat} (w0:W 0 m0 [] H2)
  (turn:∀i m acc H,W i m acc H->(J.stop i H/\∀D,H D=none->Q (.ref D) (upd H D (.lst acc))) \/
   (J.go i H/\acc.length<sizeLine/\∃N:List V->Hp->Prop,(∀acc' H',N acc' H'->∃m',m'<m/\W (i+1) m' acc' H')/\∀x H',J.yld i H x H'->g x (σ++qA5 k none) H' fun σ2 H2=>∃own:St,own.length=k/\σ2=σ++own/\tif σ2 H2 fun b H3=>if b=true then te σ2 H3 fun v H4=>N (acc++[v]) H4 else N acc H3))
  (hRR:∀D C s' H',D<C->s2.heap.objs.size<=D->(∃m,s'.heap.Ns C m)->H' C=none->C∉frs X.stack->Inv X pins σ H' s'->Q (.ref D) H'->RR (.ref D) C (.ok .next) s') :
  wpAny (model X.prog X.w) X.A (newList []) (fun acc s₃=>wpAny (model X.prog X.w) X.A (newFunctionEnv sc X.env.globals (clos X.env.cells sc.names []) [] X.env.qual none .none (some X.env)) (fun cenv s₄=>
   qIj (model X.prog X.w) X.A (.compStart (.ListComp elt [⟨tg,iter,ifs,0⟩] sc pos) 0 (.ref it) acc { cenv with scope:=relabel sc X.env }) (RR acc cenv.locals) s₄) E s₃) E s2:=by
 refine wpAny_newObj_type (zFG ?_);show qIj _ _ (.compStart _ 0 (.ref it) (.ref s2.heap.objs.size) _) _ _;have szp:(s2.heap.push { cls:=.type "list",dict:=none,data:=.seq ([]:List Value).toArray }).objs.size=s2.heap.objs.size+1:=qHw ..;obtain⟨I4,F4⟩:=zSS (s4:={ s2 with heap:=pushCells ((s2.heap.push { cls:=.type "list",data:=.seq #[] 0 }).push { cls:=.type "dict",data:=.dict #[] }) sc.names }) I2 hc S f2 (fun b hb=>let⟨o,e,_⟩:=T.obj 0 _ st2 b hb;⟨o,e⟩) rfl rfl rfl
 generalize hC:(s2.heap.push { cls:=.type "list",dict:=none,data:=.seq ([]:List Value).toArray }).objs.size=C at *
 have eC:C=s2.heap.objs.size+1:=szp;rw[<- eC]at I4 F4
 generalize hs4:({ s2 with heap:=pushCells ((s2.heap.push { cls:=.type "list",data:=.seq #[] 0 }).push { cls:=.type "dict",data:=.dict #[] }) sc.names }:qH6)=s4 at I4 F4
 have kk:∀b o,s2.heap.get? b=some o->s4.heap.get? b=some o:=fun b o e=>by
  rw[<- hs4];exact pushCells_keeps sc.names _ b o (qH7 _ (qH7 _ e))
 have st4:tn 0 s4.heap:=T.keep 0 _ _ st2 fun b _ o e=>kk b o e
 generalize hX':zDH X N' sc C s2 H2 fp=X' at I4 F4
 have henv:X'.env=zEO sc C X.env:=by rw[<- hX'];rfl
 have xprog:X'.prog=X.prog:=by rw[<- hX'];rfl
 have xw:X'.w=X.w:=by rw[<- hX'];rfl
 have xK:X'.K=X.K:=by rw[<- hX'];rfl
 have xcalm:X'.calm=true:=by rw[<- hX'];exact hc
 have xA:X'.A=X.A:=by rw[<- hX'];rfl
 have xpn:X'.pn=[]:=by rw[<- hX'];rfl
 have xxe:X'.xe=fun _ _=>False:=by rw[<- hX'];rfl
 have xs0:X'.s₀=s2:=by rw[<- hX'];rfl
 have xH0:X'.H₀=H2:=by rw[<- hX'];rfl
 have xfs:X'.fs=frs X.stack:=by rw[<- hX'];rfl
 have xex:X'.ex=fp:=by rw[<- hX'];rfl
 have hgX:PG X' tg g:=by rw[<- hX'];exact hg C s2 H2 fp
 have hifX:PTs X' ifs tif:=by rw[<- hX'];exact hif C s2 H2 fp
 have heX:PE X' elt te:=by rw[<- hX'];exact he C s2 H2 fp
 have locC:X'.env.locals=C:=by rw[henv];rfl
 generalize hDd:s2.heap.objs.size=D at *
 have loop:qIj (model X.prog X.w) X.A (.compLoop (.ListComp elt [⟨tg,iter,ifs,0⟩] sc pos) 0 (.ref it) (.ref D) (zEO sc C X.env)) (RR (.ref D) C) s4:=by
  refine zER (fun n s'=>∃i H' acc its nn,Inv X' [] (σ++qA5 k none) H' s'/\tn i s'.heap/\(∀b∈fp,H' b=none)/\H' D=none/\W i n acc H'/\acc.length<=sizeLine/\Vals acc its/\s'.heap.get? D=some { cls:=.type "list",data:=.seq its.toArray nn }) ?_ m0 ?_
  ·rintro n s5 ⟨i,H5,acc,its,nn,I5,st5,fr5,hD5,w5,hz5,rv5,hL5⟩
   have hDlt:D<C:=by rw[eC];exact qFi _
   have pinD:Inv X' [(D,{ cls:=.type "list",data:=.seq its.toArray nn })] (σ++qA5 k none) H5 s5:=I5.pins_of fun p hp=>by
    have hp':p=(D,{ cls:=.type "list",data:=.seq its.toArray nn }):=by simpa using hp
    subst hp';refine⟨hL5,hD5,?_,?_,fun v z=>by cases z⟩
    ·rw[locC];exact qAo hDlt
    ·have q:=(I4.pin (D,{ cls:=.type "list",data:=.seq #[] 0 }) (by simp)).2.2.2.1;exact q
   have fpD:∀{H':Hp}{oo:Obj},(∀b∈fp,H' b=none)->∀b∈fp,FpOk X' [(D,oo)] H' b:=fun{H' oo} hn b hb=>by
    obtain⟨f0,f1,f2,f3,f4,f5⟩:=F4 b hb;refine⟨hn b hb,f1,f2,f3,f4,fun p hp=>?_⟩;have hp':p=(D,oo):=by
     rw[xpn]at hp
     simpa using hp
    subst hp';exact f5 (D,{ cls:=.type "list",data:=.seq #[] 0 }) (by simp)
   rcases turn i n acc H5 w5 with⟨stop,q⟩|⟨go,hlt,N,hN,step⟩
   ·have dn:=T.done X' xprog xw xK xcalm i _ s5 _ H5 (fun _ _=>False) pinD (fpD fr5) st5 stop;rw[xA]at dn;refine thn dn fun r s6 z0=>?_
    obtain⟨hr,I6⟩:=z0;subst hr;show RR (.ref D) C (.ok .next) s6;have hL6:=(I6.pin (D,{ cls:=.type "list",data:=.seq its.toArray nn }) (by simp)).1;have un6:Un (frs X.stack) fp H2 H5 s2.heap s6.heap:=by
     have:=I6.base
     rw[xs0,xH0,xfs,xex]at this;exact this
    have hok6:HOk X.prog X.w H5 s6.heap:=by
     have:=I6.hok
     rw[xprog,xw]at this;exact this
    have hDno:s2.heap.get? D=none:=qHq (by rw[hDd];exact qA6 _);have un7:Un (frs X.stack) fp H2 (upd H5 D (.lst acc)) s2.heap s6.heap:=
     ⟨un6.keep,un6.slot,fun b o e n hx=>by
       have hb:b≠D:=by rintro rfl;rw[hDno]at e;cases e
       rw[zAJ hb];exact un6.free b o e n hx,un6.there,
      fun b xs e=>by
       have e':=un6.tups b xs e;rw[zAJ (zAW e' hD5)];exact e',
      fun b o u e=>by
       have e':=un6.frzs b o u e;rw[zAJ (zAW e' hD5)];exact e',
      fun b ps e=>by
       obtain⟨more,e'⟩:=un6.tbls b ps e;exact⟨more,by rw[zAJ (zAW e' hD5)];exact e'⟩⟩
    have hok7:HOk X.prog X.w (upd H5 D (.lst acc)) s6.heap:=hok6.track hD5 ⟨hz5,its,nn,rv5,hL6⟩;have os6:s6.os=s2.os:=by have:=I6.os;rw[xs0]at this;exact this
    have I7:Inv X pins σ (upd H5 D (.lst acc)) s6:=I2.call' os6 un7 hok7 I6.bare fun b hb=>by
     obtain⟨f0,f1,f2,f3,f4,f5⟩:=f2 b hb;exact⟨f3,f1,f4,f5⟩
    obtain⟨mm,hn,_⟩:=I6.loc;rw[locC]at hn;have hC5:H5 C=none:=by have:=I6.free;rw[locC]at this;exact this
    refine hRR D C s6 (upd H5 D (.lst acc)) hDlt (qA6 _) ⟨mm,hn⟩ ?_ ?_ I7 (q D hD5)
    ·rw[zAJ (qCp hDlt)];exact hC5
    ·intro hb
     rcases qAj.mp (I2.stkSub C hb)with e|hb
     ·have t1:=asN I2.lt;have t2:=asE e;rw[hDd]at t1;have t3:=asN hDlt
      lia
     ·exact I2.nofs (by rw[hDd];exact qCo hDlt) hb
   ·have itm:=T.item X' xprog xw xK xcalm i _ s5 _ H5 (fun _ _=>False) pinD (fpD fr5) st5 go;rw[xA]at itm;refine thn itm fun r s6 z0=>?_
    obtain⟨u,hr,h6⟩:=z0;subst hr;refine thn h6 fun _ s7 z0=>?_
    obtain⟨x,H7,I7,r7,y7,st7,fr7⟩:=z0;have I7':Inv X' ([(D,{ cls:=.type "list",data:=.seq its.toArray nn })]++zI2 fp s7.heap) (σ++qA5 k none) H7 s7:=I7.pinned (fpD fr7) (T.obj _ _ st7);have asg:=hgX _ s7 _ H7 x u _ I7' r7 (step x H7 y7);rw[xprog,xw,xA,henv,xxe]at asg;refine thn asg fun _ s8 z0=>?_
    obtain⟨σ8,H8,I8,own,hown,hσ8,q8⟩:=z0;have weak:∀{pl:List (Addr×Obj)}{H':Hp}{s':qH6},Inv X' pl σ8 H' s'->Inv X' [] (σ++qA5 k none) H' s':=fun{pl H' s'} J'=>by
     have J0:Inv X' [] σ8 H' s':=J'.pins_of (fun p hp=>by simp at hp);refine J0.weak (by rw[hσ8];simp[hown]) fun j v hj=>?_
     rw[hσ8]
     by_cases hjl:j<σ.length
     ·rw[qA7 hjl]at hj ⊢;exact hj
     ·rw[qAb (by lia),qBf]at hj
      split at hj<;>cases hj
    have tst:=hifX _ s8 σ8 H8 _ I8 q8;rw[xprog,xw,xA,henv,xxe]at tst;refine thn tst fun b s9 z0=>?_
    obtain⟨H9,I9,q9⟩:=z0;have pin9:∀{σ':St}{H':Hp}{s':qH6},Inv X' ([(D,{ cls:=.type "list",data:=.seq its.toArray nn })]++zI2 fp s7.heap) σ' H' s' ->
      s'.heap.get? D=some { cls:=.type "list",data:=.seq its.toArray nn }/\H' D=none/\tn (i+1) s'.heap/\(∀b∈fp,H' b=none):=fun{σ' H' s'} J'=>by
     have a1:=J'.pin (D,{ cls:=.type "list",data:=.seq its.toArray nn }) (by simp);refine⟨a1.1,a1.2.1,T.keep _ _ _ st7 fun b hb o e=>(J'.pin (b,o) (qAm _ (qAm _ (zEL hb e)))).1,fun b hb=>?_⟩;obtain⟨o,e,d⟩:=T.obj _ _ st7 b hb;exact(J'.pin (b,o) (qAm _ (qAm _ (zEL hb e)))).2.1
    cases b with
    |false=>
     rw[if_neg qAc];rw[if_neg qAc]at q9;obtain⟨m',hm,w9⟩:=hN _ _ q9;obtain⟨p1,p2,p3,p4⟩:=pin9 I9;exact⟨m',hm,i+1,H9,acc,its,nn,weak I9,p3,p4,p2,w9,hz5,rv5,p1⟩
    |true=>
     rw[if_pos rfl];rw[if_pos rfl]at q9;have ev:=heX _ s9 σ8 H9 _ I9 q9;rw[xprog,xw,xA,henv,xxe]at ev;refine thn ev fun y s10 z0=>?_
     obtain⟨v,H10,I10,r10,n10⟩:=z0;obtain⟨m',hm,w10⟩:=hN _ _ n10;obtain⟨p1,p2,p3,p4⟩:=pin9 I10;have hlen:its.length=acc.length:=rv5.length.symm;refine wpAny_list_append_plain (items:=its.toArray) ⟨nn,p1⟩ (fun h' hl' hs'=>?_) (by simp only[qAd];lia);have hDfp:D∉fp:=fun hb=>(F4 D hb).2.2.2.2.2 (D,{ cls:=.type "list",data:=.seq #[] 0 }) (by simp) rfl
     have I11:Inv X' [] (σ++qA5 k none) H10 { s10 with heap:=h' }:=by
      have J0:Inv X' [] (σ++qA5 k none) H10 s10:=weak I10;refine J0.turned (t':=s10.toks) (it:=D) (fun b o hb e=>(hs'.2 b hb).trans e) p2 ?_ (.inr ?_) (fun x c e z=>?_) (fun p hp=>?_)
      ·rw[locC];exact qAo hDlt
      ·rw[xs0,hDd];exact qA6 _
      ·obtain⟨v',q⟩:=J0.cell x c e;obtain⟨o,ho,hd⟩:=q;rw[z,p1]at ho;cases ho;cases hd
      ·rw[xpn]at hp;simp at hp
     obtain⟨n',hk⟩:=hl';have hk':h'.get? D=some { cls:=.type "list",data:=.seq (its++[y]).toArray n' }:=by rw[hk];simp
     refine⟨m',hm,i+1,H10,acc++[v],its++[y],n',I11,T.keep _ _ _ p3 fun b hb o e=>(hs'.2 b (fun z=>hDfp (z▸hb))).trans e,p4,p2,w10,?_,rv5.append (.cons r10 .nil),hk'⟩;rw[qAy,qEc]
     lia
  ·refine⟨0,H2,[],[],0,I4.pins_of (fun p hp=>by simp at hp),st4,fun b hb=>(f2 b hb).1,I2.hok.fresh (by rw[hDd];exact qA6 _),w0,qAk _,.nil,?_⟩;exact(I4.pin (D,{ cls:=.type "list",data:=.seq #[] 0 }) (by simp)).1
 exact codeAny_compStart_list loop (T.self _ 0 _ _ _ st4 loop)
theorem zPS(hc:X.calm=true)(S:CompNames X.N N' k sc X.env)(hi:PI X tg iter wi)
  (hg:∀C s H fp,PG (zDH X N' sc C s H fp) tg g) (hif:∀C s H fp,PTs (zDH X N' sc C s H fp) ifs tif) (he:∀C s H fp,PE (zDH X N' sc C s H fp) elt te)
  (hs:∀x,qIe iter X.env x=pure x:=by intro _;rfl):PE X (.ListComp elt [⟨tg,iter,ifs,0⟩] sc pos) (zV4 wi k g tif te):=by
 intro pins s σ H Q I h;rw[eval_ListComp];have hfree:∀x,(x,qHd)∈sc.names->∃c,X.env.cells.lookup x=some c:=fun x hx=>I.ok.has x (S.free x hx)
 refine wpAny_comprehension_free (use:=none) rfl hs (zG0 hfree) S.kind (fun x hx hl=>?_) ?_
 ·obtain⟨n,kd⟩:=x;dsimp only at hl ⊢;subst hl;exact zC9 S.nd hx
 ·refine thn (hi pins s σ H _ I h) fun v s1 h1=>thn h1 fun itv s2 h2=>?_
  obtain⟨it,fp,tn,J,H2,e,I2,T,st2,f2,W,⟨m0,w0⟩,turn⟩:=h2;subst e;refine zIF (RR:=fun acc C=>compPost (model X.prog X.w) X.A X.xe none (EP X pins σ Q) acc C) hc S hg hif he I2 T st2 f2 w0 turn ?_;intro D C s' H' hDC hD hn hCn hCf I' q;obtain⟨m,hn⟩:=hn;refine⟨m,hn,fun h' hs'=>⟨.ref D,H',?_,rfl,q⟩⟩;have hCb:s2.heap.objs.size<=C:=qCo (qC9 hD hDC);refine I'.turned (t':=s'.toks) (it:=C) (fun b o hb e=>(hs'.2 b hb).trans e) hCn ?_ (.inr (qAl I2.sz hCb)) (fun x c e z=>?_) (fun p hp z=>?_)
  ·exact qCp (qAe I2.lt hCb)
  ·obtain⟨v,q⟩:=I2.cell x c e;exact absurd z (qAo (qAe q.lt hCb))
  ·exact absurd z (qAo (qAe (qH8 (I2.pin p hp).1) hCb))
theorem zG9{i:Nat}{x:Str}{pos' spos:Pos}(hN:X.N.Nodup)(hi':X.N[i]?=some x)(hx:Loc X.env.scope x)(hc:X.calm=true)(S:CompNames X.N N' k sc X.env)(hi:PI X tg iter wi)
  (hg:∀C s H fp,PG (zDH X N' sc C s H fp) tg g) (hif:∀C s H fp,PTs (zDH X N' sc C s H fp) ifs tif) (he:∀C s H fp,PE (zDH X N' sc C s H fp) elt te)
  (hsw:qIs (.ListComp elt [⟨tg,iter,ifs,0⟩] sc pos) (some (.Name x pos')) spos.line X.env=pure true:=by rfl)
  (hs:∀x,qIe iter X.env x=pure x:=by intro _;rfl) (hf:X.fn x=true\/X.env.scope.names.lookup x=some .local:=by first|exact .inl rfl|exact .inr rfl|assumption) :
  PS X (.Assign [.Name x pos'] (.ListComp elt [⟨tg,iter,ifs,0⟩] sc pos) spos) (tAsg (zV4 wi k g tif te) (zGC i)):=by
 intro pins s σ H Dn I h;rw[exec_Assign_Name_used _ _ _ _ hsw];refine wpAny_bind (wpAny_standAt (wpAny_bind ?_));show wpAny _ X.A (do let _ <- comprehension (.ListComp elt [⟨tg,iter,ifs,0⟩] sc pos) sc X.env _ (newList []) false (eval iter X.env) (some (assign (.Name x pos') X.env))) _ _ s;have hfree:∀x,(x,qHd)∈sc.names->∃c,X.env.cells.lookup x=some c:=fun x hx=>I.ok.has x (S.free x hx)
 refine wpAny_bind (wpAny_mono (wpAny_comprehension_free (use:=some (assign (.Name x pos') X.env)) (Q:=fun _ s'=>SP X pins Dn .next s') rfl hs (zG0 hfree) S.kind (fun x hx hl=>?_) ?_)
  (fun _ s' hq=>wpAny_pure (wpAny_pure hq)) fun _ _ e=>e)
 ·obtain⟨n,kd⟩:=x;dsimp only at hl ⊢;subst hl;exact zC9 S.nd hx
 ·refine thn (hi pins s σ H _ I h) fun v s1 h1=>thn h1 fun itv s2 h2=>?_
  obtain⟨it,fp,tn,J,H2,e,I2,T,st2,f2,W,⟨m0,w0⟩,turn⟩:=h2;subst e;refine zIF (Q:=fun v H'=>zGC i v σ H' Dn.nx) (RR:=fun acc C=>compPost (model X.prog X.w) X.A X.xe (some (assign (.Name x pos') X.env)) (fun _ s'=>SP X pins Dn .next s') acc C) hc S hg hif he I2 T st2 f2 w0 turn ?_;intro D C s' H' hDC hD hn hCn hCf I' q;obtain⟨m,hn⟩:=hn;show wpAny _ _ (assign (.Name x pos') X.env (.ref D)) _ _ _;have hCb:s2.heap.objs.size<=C:=qCo (qC9 hD hDC);have hCL:C≠X.env.locals:=qCp (qAe I2.lt hCb);have hCc:∀x c,X.env.cells.lookup x=some c->c≠C:=fun x c e z=>by
   obtain⟨v,q⟩:=I2.cell x c e;exact absurd z (qAo (qAe q.lt hCb))
  refine qJ5 (zK5 (v:=.ref D) I' hN hi' hx rfl (fun s'' I'' ⟨a,sb,ha⟩=>?_) hf);have hCa:C≠a:=by
   rcases ha with e|e
   ·rw[e];exact hCL
   ·exact fun z=>hCc x a e z.symm
  refine⟨m,hn.sameBut sb hCa,fun h' hs'=>⟨_,H',?_,q⟩⟩;refine I''.turned (t':=s''.toks) (it:=C) (fun b o hb e=>(hs'.2 b hb).trans e) hCn hCL (.inr (qAl I2.sz hCb)) hCc (fun p hp z=>?_);exact absurd z (qAo (qAe (qH8 (I2.pin p hp).1) hCb))
theorem zID{lo:Int}{n:Nat}{σ:St}{H:Hp}{Q:VK}(Pv:Nat->List V->Hp->Prop)(h0:Pv 0 [] H)(hz:∀i acc H,i<n->Pv i acc H->acc.length<sizeLine)
  (hs:∀i acc H,i<n->Pv i acc H->g (.int (lo+i)) (σ++qA5 k none) H fun σ2 H2=>∃own:St,own.length=k/\σ2=σ++own/\tif σ2 H2 fun b H3=>if b=true then te σ2 H3 fun v H4=>Pv (i+1) (acc++[v]) H4 else Pv (i+1) acc H3)
  (hd:∀acc H,Pv n acc H->∀D,H D=none->Q (.ref D) (upd H D (.lst acc))) :
  zTS k g tif te σ Q (Itr lo n) H:=by
 refine⟨fun i m acc H=>m=n-i/\i<=n/\Pv i acc H,⟨n,by simp,qAk _,h0⟩,?_⟩
 rintro i m acc H ⟨rfl,hi,p⟩
 by_cases hlt:i<n
 ·refine .inr ⟨hlt,hz i acc H hlt p,Pv (i+1),fun acc' H' p'=>⟨n-(i+1),by lia,rfl,hlt,p'⟩,fun x H' y=>?_⟩;obtain⟨e,y⟩:=y;subst e y;exact hs i acc _ hlt p
 ·have e:i=n:=by lia
  subst e;exact .inl ⟨qA6 _,hd acc H p⟩
def zS0(g:TG)(tb:TS)(D:Ends)(σ:St)(J:It)(H1:Hp):Prop:=∃W:Nat->Nat->St->Hp->Prop,(∃m,W 0 m σ H1)/\∀i m σ H,W i m σ H ->
 (J.stop i H/\D.nx σ H)\/(J.go i H/\∃N:St->Hp->Prop,(∀σ' H',N σ' H'->∃m',m'<m/\W (i+1) m' σ' H')/\∀x H',J.yld i H x H'->g x σ H' fun σ2 H2=>tb { D with nx:=N,ct:=N,bk:=D.nx } σ2 H2)
theorem zC1{body:List Stmt}{tb:TS}(hp:qKr (model X.prog X.w) X.A X.env X.xe)(hc:X.calm=true)(hi:PI X tg iter wi)(hg:PG X tg g)(hb:PSs X body tb)
  (hs:∀x,qIe iter X.env x=pure x:=by intro _;rfl):PS X (.For tg iter body [] pos) (fun D σ H=>wi σ H (zS0 g tb D σ)):=zYA hp hc hi hg hb hs
end
inductive Dat where
 |non|bl (b:Bool)|int (i:Int)|str (x:Str)|lst (xs:List Dat)|tup (xs:List Dat)
mutual
def Dat.dep:Dat->Nat
 |.lst xs=>Dat.depL xs+1
 |.tup xs=>Dat.depL xs+1
 |_=>0
def Dat.depL:List Dat->Nat
 |[]=>0
 |x::r=>max x.dep (Dat.depL r)
end
mutual
def Dat.eq:Dat->Dat->Bool
 |.non,.non=>true
 |.bl a,.bl b=>a==b
 |.bl a,.int b=>(if a then 1 else 0)==b
 |.int a,.bl b=>a==(if b then 1 else 0)
 |.int a,.int b=>a==b
 |.str a,.str b=>a==b
 |.lst xs,.lst ys=>Dat.eqL xs ys
 |.tup xs,.tup ys=>Dat.eqL xs ys
 |_,_=>false
def Dat.eqL:List Dat->List Dat->Bool
 |[],[]=>true
 |x::r,y::q=>Dat.eq x y&&Dat.eqL r q
 |_,_=>false
end
mutual
def Rep(H:Hp):Dat->V->Prop
 |.non,v=>v=.non
 |.bl b,v=>v=.bl b
 |.int i,v=>v=.int i
 |.str x,v=>v=.str x
 |.lst ds,v=>∃a xs,v=.ref a/\H a=some (.lst xs)/\RepL H ds xs
 |.tup ds,v=>∃a xs,v=.ref a/\H a=some (.tup xs)/\RepL H ds xs
def RepL(H:Hp):List Dat->List V->Prop
 |[],xs=>xs=[]
 |d::r,xs=>∃x q,xs=x::q/\Rep H d x/\RepL H r q
end
mutual
theorem Rep.mono{H H':Hp}(s:Same H H'):∀{d:Dat}{v:V},Rep H d v->Rep H' d v
 |.non,_,h=>h
 |.bl _,_,h=>h
 |.int _,_,h=>h
 |.str _,_,h=>h
 |.lst _,_,h=>by obtain⟨a,xs,e,e',r⟩:=h;exact⟨a,xs,e,s _ _ e',RepL.mono s r⟩
 |.tup _,_,h=>by obtain⟨a,xs,e,e',r⟩:=h;exact⟨a,xs,e,s _ _ e',RepL.mono s r⟩
theorem RepL.mono{H H':Hp}(s:Same H H'):∀{ds:List Dat}{xs:List V},RepL H ds xs->RepL H' ds xs
 |[],_,h=>h
 |_::_,_,h=>by obtain⟨x,q,e,r,t⟩:=h;exact⟨x,q,e,Rep.mono s r,RepL.mono s t⟩
end
mutual
theorem Rep.inj{H:Hp}:∀{d e:Dat}{v:V},Rep H d v->Rep H e v->d=e
 |.non,e,v,h,h'=>by cases h;cases e<;>first|rfl|(cases h';done)|(obtain⟨a,xs,z,_⟩:=h';cases z)
 |.bl b,e,v,h,h'=>by cases h;cases e<;>first|(cases h';rfl)|(cases h';done)|(obtain⟨a,xs,z,_⟩:=h';cases z)
 |.int b,e,v,h,h'=>by cases h;cases e<;>first|(cases h';rfl)|(cases h';done)|(obtain⟨a,xs,z,_⟩:=h';cases z)
 |.str b,e,v,h,h'=>by cases h;cases e<;>first|(cases h';rfl)|(cases h';done)|(obtain⟨a,xs,z,_⟩:=h';cases z)
 |.lst ds,e,v,h,h'=>by
  obtain⟨a,xs,rfl,ha,q⟩:=h;cases e with
  |lst es=>
   obtain⟨b,ys,z,hb,q'⟩:=h';cases z;rw[ha]at hb;cases hb;rw[RepL.inj q q']
  |tup es=>
   obtain⟨b,ys,z,hb,q'⟩:=h';cases z;rw[ha]at hb;cases hb
  |_=>cases h'
 |.tup ds,e,v,h,h'=>by
  obtain⟨a,xs,rfl,ha,q⟩:=h;cases e with
  |tup es=>
   obtain⟨b,ys,z,hb,q'⟩:=h';cases z;rw[ha]at hb;cases hb;rw[RepL.inj q q']
  |lst es=>
   obtain⟨b,ys,z,hb,q'⟩:=h';cases z;rw[ha]at hb;cases hb
  |_=>cases h'
theorem RepL.inj{H:Hp}:∀{ds es:List Dat}{xs:List V},RepL H ds xs->RepL H es xs->ds=es
 |[],[],_,_,_=>rfl
 |[],_::_,_,h,h'=>by cases h;obtain⟨x,q,e,_⟩:=h';cases e
 |_::_,[],_,h,h'=>by cases h';obtain⟨x,q,e,_⟩:=h;cases e
 |d::r,e::t,_,h,h'=>by
  obtain⟨x,q,rfl,r1,t1⟩:=h;obtain⟨x',q',z,r2,t2⟩:=h';cases z;rw[Rep.inj r1 r2,RepL.inj t1 t2]
end
mutual
theorem Dat.eq_refl:∀d:Dat,Dat.eq d d=true
 |.non=>by simp[Dat.eq]
 |.bl _=>by simp[Dat.eq]
 |.int _=>by simp[Dat.eq]
 |.str _=>by simp[Dat.eq]
 |.lst xs=>by rw[Dat.eq];exact Dat.eqL_refl xs
 |.tup xs=>by rw[Dat.eq];exact Dat.eqL_refl xs
theorem Dat.eqL_refl:∀ds:List Dat,Dat.eqL ds ds=true
 |[]=>by simp[Dat.eqL]
 |d::r=>by rw[Dat.eqL,Dat.eq_refl d,Dat.eqL_refl r];rfl
end
theorem RepL.length{H:Hp}:∀{ds:List Dat}{xs:List V},RepL H ds xs->xs.length=ds.length
 |[],_,h=>by cases h;rfl
 |_::_,_,h=>by obtain⟨x,q,e,r,t⟩:=h;subst e;simp[RepL.length t]
theorem Dat.eqL_len:∀{xs ys:List Dat},xs.length≠ys.length->Dat.eqL xs ys=false
 |[],[],h=>absurd rfl h
 |[],_::_,_=>by simp[Dat.eqL]
 |_::_,[],_=>by simp[Dat.eqL]
 |x::r,y::q,h=>by
  rw[Dat.eqL,Dat.eqL_len (fun e=>h (by simp[e])),qCk]
theorem Dat.eqL_all:∀{xs ys:List Dat},xs.length=ys.length->∀(e:Nat->Bool),(∀j (h1:j<xs.length) (h2:j<ys.length),e j=Dat.eq xs[j] ys[j])->(qAg xs.length).all e=Dat.eqL xs ys
 |[],[],_,_,_=>by simp[Dat.eqL]
 |[],_::_,h,_,_=>by simp at h
 |_::_,[],h,_,_=>by simp at h
 |x::r,y::q,h,e,he=>by
  have hl:r.length=q.length:=by simpa using h
  rw[qBj,List.range_succ_eq_map,qDv,Dat.eqL,he 0 (by simp) (by simp)]
  have:=Dat.eqL_all (xs:=r) (ys:=q) hl (fun j=>e (j+1)) (fun j h1 h2=>by
   rw[he (j+1) (by simpa using h1) (by simpa using h2)];simp)
  rw[<- this,List.all_map];rfl
theorem RepL.get{H:Hp}:∀{ds:List Dat}{xs:List V}{i:Nat}{x:V},RepL H ds xs->xs[i]?=some x->∃d,ds[i]?=some d/\Rep H d x
 |[],_,_,_,h,e=>by cases h;simp at e
 |d::_,_,0,_,h,e=>by obtain⟨x,q,e1,r,t⟩:=h;subst e1;simp at e;subst e;exact⟨d,rfl,r⟩
 |_::_,_,i+1,_,h,e=>by
  obtain⟨x,q,e1,r,t⟩:=h;subst e1;obtain⟨d',h1,h2⟩:=RepL.get (i:=i) t (by simpa using e);exact⟨d',by simpa using h1,h2⟩
theorem Dat.depL_mem{d:Dat}:∀{ds:List Dat},d∈ds->d.dep<=Dat.depL ds
 |_::_,h=>by
  rw[Dat.depL]
  rcases qAj.mp h with rfl|h
  ·exact Nat.le_max_left _ _
  ·exact qAl (Dat.depL_mem h) (Nat.le_max_right _ _)
section
variable{P:qH9}{w:World}{H:Hp}
theorem zE9(A:qHb):A.in1.units=A.units+1:=rfl
theorem zB0{s:qH6}{a:Addr}{xs:List V}(ok:HOk P w H s.heap)(h:H a=some (.lst xs)):∃its:List Value,Vals xs its/\s.heap.IsList a its.toArray:=by
 obtain⟨_,its,n,r,e⟩:=ok a _ h;exact⟨its,r,⟨_,e,rfl,n,rfl⟩⟩
theorem zBI{s:qH6}{a:Addr}{xs:List V}(ok:HOk P w H s.heap)(h:H a=some (.tup xs)):∃its:List Value,Vals xs its/\s.heap.IsTuple a its.toArray:=by
 obtain⟨_,its,r,e⟩:=ok a _ h;exact⟨its,r,e⟩
theorem Rep.flat{d:Dat}{v:V}(h:Rep H d v)(hf:d.dep=0):zGD v=true:=by
 cases d with
 |non=>cases h;rfl
 |bl _=>cases h;rfl
 |int _=>cases h;rfl
 |str _=>cases h;rfl
 |lst _=>simp[Dat.dep]at hf
 |tup _=>simp[Dat.dep]at hf
theorem Rep.flatEq{d e:Dat}{v u:V}(h:Rep H d v)(h':Rep H e u)(hf:d.dep=0)(hf':e.dep=0):eqV v u=Dat.eq d e:=by
 cases d<;>cases e<;>first
  |(simp[Dat.dep]at hf;done)
  |(simp[Dat.dep]at hf';done)
  |(cases h;cases h';simp[eqV,Dat.eq];done)
theorem zT0:∀(n:Nat){d e:Dat}{v u:V}{x y:Value}{A:qHb}{s:qH6},d.dep<=n->HOk P w H s.heap->Rep H d v->Rep H e u->RelV v x->RelV u y->A.units+n<cLine->qIo A s x y (Dat.eq d e):=by
 intro n
 induction n with
 |zero=>
  intro d e v u x y A s hd ok h1 h2 r1 r2 hu;have f1:=h1.flat (by lia)
  by_cases he:e.dep=0
  ·have f2:=h2.flat he
   have:=zUF (A:=A) (s:=s) r1 r2 f1 f2
   rw[h1.flatEq h2 (by lia) he]at this;exact this
  ·have hu':A.units<cLine:=by lia
   cases e with
   |lst ys=>
    obtain⟨a,xs,rfl,ha,_⟩:=h2;obtain⟨its,_,hl⟩:=zB0 ok ha;cases r2;cases d with
    |non=>cases h1;cases r1;exact SeqAt.EqAt.none_list hl hu'
    |bl b=>cases h1;cases r1;exact SeqAt.EqAt.bool_list b hl hu'
    |int i=>cases h1;obtain⟨t,rfl⟩:=r1;exact SeqAt.EqAt.int_list i t hl hu'
    |str z=>cases h1;obtain⟨t,rfl⟩:=r1;exact SeqAt.EqAt.str_list z t hl hu'
    |lst _=>simp[Dat.dep]at hd
    |tup _=>simp[Dat.dep]at hd
   |tup ys=>
    obtain⟨a,xs,rfl,ha,_⟩:=h2;obtain⟨its,_,hl⟩:=zBI ok ha;cases r2;cases d with
    |non=>cases h1;cases r1;exact SeqAt.EqAt.none_tuple hl hu'
    |bl b=>cases h1;cases r1;exact SeqAt.EqAt.bool_tuple b hl hu'
    |int i=>cases h1;obtain⟨t,rfl⟩:=r1;exact SeqAt.EqAt.int_tuple i t hl hu'
    |str z=>cases h1;obtain⟨t,rfl⟩:=r1;exact SeqAt.EqAt.str_tuple z t hl hu'
    |lst _=>simp[Dat.dep]at hd
    |tup _=>simp[Dat.dep]at hd
   |_=>simp[Dat.dep]at he
 |succ n ih=>
  intro d e v u x y A s hd ok h1 h2 r1 r2 hu
  by_cases hd0:d.dep<=n
  ·exact ih hd0 ok h1 h2 r1 r2 (by lia)
  have hu':A.units<cLine:=by lia
  have pairs:∀{ds es:List Dat}{xs ys:List V}{its its2:List Value},Dat.depL ds<=n->RepL H ds xs->RepL H es ys->Vals xs its->Vals ys its2->∀j (h1:j<its.toArray.size) (h2:j<its2.toArray.size),
    qIo A.in1 s its.toArray[j] its2.toArray[j] (Dat.eq (ds.getD j .non) (es.getD j .non)):=by
   intro ds es xs ys its its2 hdl q1 q2 v1 v2 j j1 j2;have l1:j<xs.length:=by have:=v1.length;simp at j1;lia
   have l2:j<ys.length:=by have:=v2.length;simp at j2;lia
   obtain⟨d',e1,p1⟩:=q1.get (i:=j) (x:=xs[j]) (by simp[l1]);obtain⟨e',e2,p2⟩:=q2.get (i:=j) (x:=ys[j]) (by simp[l2]);obtain⟨w1,g1,z1⟩:=v1.get (i:=j) (x:=xs[j]) (by simp[l1]);obtain⟨w2,g2,z2⟩:=v2.get (i:=j) (x:=ys[j]) (by simp[l2]);have k1:its.toArray[j]=w1:=by
    obtain⟨_,k⟩:=qA2.mp g1
    simpa using k
   have k2:its2.toArray[j]=w2:=by
    obtain⟨_,k⟩:=qA2.mp g2
    simpa using k
   rw[k1,k2,qA0,qA0,e1,e2];exact ih (qAl (Dat.depL_mem (qB5 e1)) hdl) ok p1 p2 z1 z2 (by rw[zE9];lia)
  cases d with
  |lst ds=>
   have hdl:Dat.depL ds<=n:=by rw[Dat.dep]at hd;lia
   obtain⟨a,xs,rfl,ha,q1⟩:=h1;obtain⟨its,v1,hl1⟩:=zB0 ok ha;cases r1;cases e with
   |non=>cases h2;cases r2;exact SeqAt.EqAt.list_none hl1 hu'
   |bl b=>cases h2;cases r2;exact SeqAt.EqAt.list_bool b hl1 hu'
   |int i=>cases h2;obtain⟨t,rfl⟩:=r2;exact SeqAt.EqAt.list_int i t hl1 hu'
   |str z=>cases h2;obtain⟨t,rfl⟩:=r2;exact SeqAt.EqAt.list_str z t hl1 hu'
   |tup es=>
    obtain⟨b,ys,rfl,hb,q2⟩:=h2;obtain⟨its2,v2,hl2⟩:=zBI ok hb;cases r2;exact qIa (zO8 ha hb (fun z=>nomatch z)) (qJn hl1 hl2 hu')
   |lst es=>
    obtain⟨b,ys,rfl,hb,q2⟩:=h2;obtain⟨its2,v2,hl2⟩:=zB0 ok hb;cases r2;have len1:its.toArray.size=ds.length:=by have:=v1.length;have:=q1.length;simp;lia
    have len2:its2.toArray.size=es.length:=by have:=v2.length;have:=q2.length;simp;lia
    show qIo A s (.ref a) (.ref b) (Dat.eqL ds es)
    by_cases hne:a=b
    ·
     subst hne;rw[ha]at hb;cases hb;have same:Dat.eqL ds es=true:=by
      rw[RepL.inj q1 q2];exact Dat.eqL_refl _
     rw[same];exact qIr _
    ·refine qIa hne ?_
     by_cases hs:ds.length=es.length
     ·have:=qKm (A:=A) (s:=s) hl1 hl2 (by rw[len1,len2,hs]) hu' (pairs hdl q1 q2 v1 v2)
      rw[len1,Dat.eqL_all hs _ (fun j h1 h2=>by rw[qA0,qA0];simp[h1,h2])]at this;exact this
     ·rw[Dat.eqL_len hs];exact qJ6 hl1 hl2 (by rw[len1,len2];simpa using hs) hu'
  |tup ds=>
   have hdl:Dat.depL ds<=n:=by rw[Dat.dep]at hd;lia
   obtain⟨a,xs,rfl,ha,q1⟩:=h1;obtain⟨its,v1,hl1⟩:=zBI ok ha;cases r1;cases e with
   |non=>cases h2;cases r2;exact SeqAt.EqAt.tuple_none hl1 hu'
   |bl b=>cases h2;cases r2;exact SeqAt.EqAt.tuple_bool b hl1 hu'
   |int i=>cases h2;obtain⟨t,rfl⟩:=r2;exact SeqAt.EqAt.tuple_int i t hl1 hu'
   |str z=>cases h2;obtain⟨t,rfl⟩:=r2;exact SeqAt.EqAt.tuple_str z t hl1 hu'
   |lst es=>
    obtain⟨b,ys,rfl,hb,q2⟩:=h2;obtain⟨its2,v2,hl2⟩:=zB0 ok hb;cases r2;exact qIa (zO8 ha hb (fun z=>nomatch z)) (qJo hl1 hl2 hu')
   |tup es=>
    obtain⟨b,ys,rfl,hb,q2⟩:=h2;obtain⟨its2,v2,hl2⟩:=zBI ok hb;cases r2;have len1:its.toArray.size=ds.length:=by have:=v1.length;have:=q1.length;simp;lia
    have len2:its2.toArray.size=es.length:=by have:=v2.length;have:=q2.length;simp;lia
    show qIo A s (.ref a) (.ref b) (Dat.eqL ds es)
    by_cases hne:a=b
    ·subst hne;rw[ha]at hb;cases hb;have same:Dat.eqL ds es=true:=by
      rw[RepL.inj q1 q2];exact Dat.eqL_refl _
     rw[same];exact qIr _
    ·refine qIa hne ?_
     have:=qKe (A:=A) (s:=s) hl1 hl2 hu' (pairs hdl q1 q2 v1 v2)
     by_cases hs:ds.length=es.length
     ·rw[len1,len2,<- hs,qFc,beq_self_eq_true,qDy,Dat.eqL_all hs _ (fun j h1 h2=>by rw[qA0,qA0];simp[h1,h2])]at this;exact this
     ·rw[len1,len2,show(ds.length==es.length)=false by simpa using hs,qCk]at this;rw[Dat.eqL_len hs];exact this
  |_=>simp[Dat.dep]at hd0
theorem zGS{n:Nat}{A:qHb}{s:qH6}(ok:HOk P w H s.heap){ds es:List Dat}{xs ys:List V}{its its2:List Value}(hdl:Dat.depL ds<=n)(hu:A.units+n<cLine)(q1:RepL H ds xs)(q2:RepL H es ys)(v1:Vals xs its)(v2:Vals ys its2) :
  ∀j (h1:j<its.toArray.size) (h2:j<its2.toArray.size),qIo A s its.toArray[j] its2.toArray[j] (Dat.eq (ds.getD j .non) (es.getD j .non)):=by
 intro j j1 j2;have l1:j<xs.length:=by have:=v1.length;simp at j1;lia
 have l2:j<ys.length:=by have:=v2.length;simp at j2;lia
 obtain⟨d',e1,p1⟩:=q1.get (i:=j) (x:=xs[j]) (by simp[l1]);obtain⟨e',e2,p2⟩:=q2.get (i:=j) (x:=ys[j]) (by simp[l2]);obtain⟨w1,g1,z1⟩:=v1.get (i:=j) (x:=xs[j]) (by simp[l1]);obtain⟨w2,g2,z2⟩:=v2.get (i:=j) (x:=ys[j]) (by simp[l2]);have k1:its.toArray[j]=w1:=by
  obtain⟨_,k⟩:=qA2.mp g1
  simpa using k
 have k2:its2.toArray[j]=w2:=by
  obtain⟨_,k⟩:=qA2.mp g2
  simpa using k
 rw[k1,k2,qA0,qA0,e1,e2];exact zT0 n (qAl (Dat.depL_mem (qB5 e1)) hdl) ok p1 p2 z1 z2 hu
theorem zS5(n:Nat){d e:Dat}{v u:V}{x y:Value}{A:qHb}{s:qH6}(hd:d.dep<=n)(ok:HOk P w H s.heap)(h1:Rep H d v)(h2:Rep H e u)(r1:RelV v x)(r2:RelV u y)(hu:A.units+n<cLine):qL0 A s x y (Dat.eq d e):=by
 have hu':A.units<cLine:=by lia
 cases d with
 |non=>
  cases h1;cases r1;cases e with
  |non=>
   cases h2;cases r2;exact SeqAt.RcAt.none_none
  |bl b=>
   cases h2;cases r2;exact SeqAt.RcAt.none_bool b
  |int b=>
   cases h2;obtain⟨t2,rfl⟩:=r2;exact SeqAt.RcAt.none_int b t2
  |str b=>
   cases h2;obtain⟨t2,rfl⟩:=r2;exact SeqAt.RcAt.none_str b t2
  |lst es=>
   obtain⟨p2,ys,rfl,hb,q2⟩:=h2;obtain⟨its2,v2,hl2⟩:=zB0 ok hb;cases r2;exact SeqAt.RcAt.none_list hl2 hu'
  |tup es=>
   obtain⟨p2,ys,rfl,hb,q2⟩:=h2;obtain⟨its2,v2,hl2⟩:=zBI ok hb;cases r2;exact SeqAt.RcAt.none_tuple hl2 hu'
 |bl a=>
  cases h1;cases r1;cases e with
  |non=>
   cases h2;cases r2;exact SeqAt.RcAt.bool_none a
  |bl b=>
   cases h2;cases r2;exact SeqAt.RcAt.bool_bool a b
  |int b=>
   cases h2;obtain⟨t2,rfl⟩:=r2;exact SeqAt.RcAt.bool_int a b t2
  |str b=>
   cases h2;obtain⟨t2,rfl⟩:=r2;exact SeqAt.RcAt.bool_str a b t2
  |lst es=>
   obtain⟨p2,ys,rfl,hb,q2⟩:=h2;obtain⟨its2,v2,hl2⟩:=zB0 ok hb;cases r2;exact SeqAt.RcAt.bool_list a hl2 hu'
  |tup es=>
   obtain⟨p2,ys,rfl,hb,q2⟩:=h2;obtain⟨its2,v2,hl2⟩:=zBI ok hb;cases r2;exact SeqAt.RcAt.bool_tuple a hl2 hu'
 |int a=>
  cases h1;obtain⟨t1,rfl⟩:=r1;cases e with
  |non=>
   cases h2;cases r2;exact SeqAt.RcAt.int_none a t1
  |bl b=>
   cases h2;cases r2;exact SeqAt.RcAt.int_bool a t1 b
  |int b=>
   cases h2;obtain⟨t2,rfl⟩:=r2;exact SeqAt.RcAt.int_int a t1 b t2
  |str b=>
   cases h2;obtain⟨t2,rfl⟩:=r2;exact SeqAt.RcAt.int_str a t1 b t2
  |lst es=>
   obtain⟨p2,ys,rfl,hb,q2⟩:=h2;obtain⟨its2,v2,hl2⟩:=zB0 ok hb;cases r2;exact SeqAt.RcAt.int_list a t1 hl2 hu'
  |tup es=>
   obtain⟨p2,ys,rfl,hb,q2⟩:=h2;obtain⟨its2,v2,hl2⟩:=zBI ok hb;cases r2;exact SeqAt.RcAt.int_tuple a t1 hl2 hu'
 |str a=>
  cases h1;obtain⟨t1,rfl⟩:=r1;cases e with
  |non=>
   cases h2;cases r2;exact SeqAt.RcAt.str_none a t1
  |bl b=>
   cases h2;cases r2;exact SeqAt.RcAt.str_bool a t1 b
  |int b=>
   cases h2;obtain⟨t2,rfl⟩:=r2;exact SeqAt.RcAt.str_int a t1 b t2
  |str b=>
   cases h2;obtain⟨t2,rfl⟩:=r2;exact SeqAt.RcAt.str_str a t1 b t2
  |lst es=>
   obtain⟨p2,ys,rfl,hb,q2⟩:=h2;obtain⟨its2,v2,hl2⟩:=zB0 ok hb;cases r2;exact SeqAt.RcAt.str_list a t1 hl2 hu'
  |tup es=>
   obtain⟨p2,ys,rfl,hb,q2⟩:=h2;obtain⟨its2,v2,hl2⟩:=zBI ok hb;cases r2;exact SeqAt.RcAt.str_tuple a t1 hl2 hu'
 |lst ds=>
  have hdl:Dat.depL ds+1<=n:=by rw[Dat.dep]at hd;exact hd
  obtain⟨p,xs,rfl,ha,q1⟩:=h1;obtain⟨its,v1,hl1⟩:=zB0 ok ha;cases r1;cases e with
  |non=>
   cases h2;cases r2;exact SeqAt.RcAt.list_none hl1 hu'
  |bl b=>
   cases h2;cases r2;exact SeqAt.RcAt.list_bool b hl1 hu'
  |int b=>
   cases h2;obtain⟨t2,rfl⟩:=r2;exact SeqAt.RcAt.list_int b t2 hl1 hu'
  |str b=>
   cases h2;obtain⟨t2,rfl⟩:=r2;exact SeqAt.RcAt.list_str b t2 hl1 hu'
  |lst es=>
   obtain⟨p2,ys,rfl,hb,q2⟩:=h2;obtain⟨its2,v2,hl2⟩:=zB0 ok hb;cases r2;have len1:its.toArray.size=ds.length:=by have:=v1.length;have:=q1.length;simp;lia
   have len2:its2.toArray.size=es.length:=by have:=v2.length;have:=q2.length;simp;lia
   show qL0 A s (.ref p) (.ref p2) (Dat.eqL ds es)
   by_cases hs:ds.length=es.length
   ·have:=qKm (A:=A) (s:=s) hl1 hl2 (by rw[len1,len2,hs]) hu' (zGS ok (by lia) (by rw[zE9];lia:A.in1.units+(n-1)<cLine) q1 q2 v1 v2)
    rw[len1,Dat.eqL_all hs _ (fun j h1 h2=>by rw[qA0,qA0];simp[h1,h2])]at this;exact this
   ·rw[Dat.eqL_len hs];exact qJ6 hl1 hl2 (by rw[len1,len2];simpa using hs) hu'
  |tup es=>
   obtain⟨p2,ys,rfl,hb,q2⟩:=h2;obtain⟨its2,v2,hl2⟩:=zBI ok hb;cases r2;exact qJn hl1 hl2 hu'
 |tup ds=>
  have hdl:Dat.depL ds+1<=n:=by rw[Dat.dep]at hd;exact hd
  obtain⟨p,xs,rfl,ha,q1⟩:=h1;obtain⟨its,v1,hl1⟩:=zBI ok ha;cases r1;cases e with
  |non=>
   cases h2;cases r2;exact SeqAt.RcAt.tuple_none hl1 hu'
  |bl b=>
   cases h2;cases r2;exact SeqAt.RcAt.tuple_bool b hl1 hu'
  |int b=>
   cases h2;obtain⟨t2,rfl⟩:=r2;exact SeqAt.RcAt.tuple_int b t2 hl1 hu'
  |str b=>
   cases h2;obtain⟨t2,rfl⟩:=r2;exact SeqAt.RcAt.tuple_str b t2 hl1 hu'
  |lst es=>
   obtain⟨p2,ys,rfl,hb,q2⟩:=h2;obtain⟨its2,v2,hl2⟩:=zB0 ok hb;cases r2;exact qJo hl1 hl2 hu'
  |tup es=>
   obtain⟨p2,ys,rfl,hb,q2⟩:=h2;obtain⟨its2,v2,hl2⟩:=zBI ok hb;cases r2;have len1:its.toArray.size=ds.length:=by have:=v1.length;have:=q1.length;simp;lia
   have len2:its2.toArray.size=es.length:=by have:=v2.length;have:=q2.length;simp;lia
   show qL0 A s (.ref p) (.ref p2) (Dat.eqL ds es)
   have:=qKe (A:=A) (s:=s) hl1 hl2 hu' (zGS ok (by lia) (by rw[zE9];lia:A.in1.units+(n-1)<cLine) q1 q2 v1 v2)
   by_cases hs:ds.length=es.length
   ·rw[len1,len2,<- hs,qFc,beq_self_eq_true,qDy,Dat.eqL_all hs _ (fun j h1 h2=>by rw[qA0,qA0];simp[h1,h2])]at this;exact this
   ·rw[len1,len2,show(ds.length==es.length)=false by simpa using hs,qCk]at this;rw[Dat.eqL_len hs];exact this
theorem zO5(n:Nat){d e:Dat}{v u:V}{x y:Value}{A:qHb}{s:qH6}(hd:d.dep<=n)(ok:HOk P w H s.heap)(h1:Rep H d v)(h2:Rep H e u)(r1:RelV v x)(r2:RelV u y)(hu:A.units+n<cLine):qKj A s x y (!Dat.eq d e):=by
 have hu':A.units<cLine:=by lia
 cases d with
 |non=>
  cases h1;cases r1;cases e with
  |non=>
   cases h2;cases r2;exact SeqAt.RcNeAt.none_none
  |bl b=>
   cases h2;cases r2;exact SeqAt.RcNeAt.none_bool b
  |int b=>
   cases h2;obtain⟨t2,rfl⟩:=r2;exact SeqAt.RcNeAt.none_int b t2
  |str b=>
   cases h2;obtain⟨t2,rfl⟩:=r2;exact SeqAt.RcNeAt.none_str b t2
  |lst es=>
   obtain⟨p2,ys,rfl,hb,q2⟩:=h2;obtain⟨its2,v2,hl2⟩:=zB0 ok hb;cases r2;exact SeqAt.RcNeAt.none_list hl2 hu'
  |tup es=>
   obtain⟨p2,ys,rfl,hb,q2⟩:=h2;obtain⟨its2,v2,hl2⟩:=zBI ok hb;cases r2;exact SeqAt.RcNeAt.none_tuple hl2 hu'
 |bl a=>
  cases h1;cases r1;cases e with
  |non=>
   cases h2;cases r2;exact SeqAt.RcNeAt.bool_none a
  |bl b=>
   cases h2;cases r2;exact SeqAt.RcNeAt.bool_bool a b
  |int b=>
   cases h2;obtain⟨t2,rfl⟩:=r2;exact SeqAt.RcNeAt.bool_int a b t2
  |str b=>
   cases h2;obtain⟨t2,rfl⟩:=r2;exact SeqAt.RcNeAt.bool_str a b t2
  |lst es=>
   obtain⟨p2,ys,rfl,hb,q2⟩:=h2;obtain⟨its2,v2,hl2⟩:=zB0 ok hb;cases r2;exact SeqAt.RcNeAt.bool_list a hl2 hu'
  |tup es=>
   obtain⟨p2,ys,rfl,hb,q2⟩:=h2;obtain⟨its2,v2,hl2⟩:=zBI ok hb;cases r2;exact SeqAt.RcNeAt.bool_tuple a hl2 hu'
 |int a=>
  cases h1;obtain⟨t1,rfl⟩:=r1;cases e with
  |non=>
   cases h2;cases r2;exact SeqAt.RcNeAt.int_none a t1
  |bl b=>
   cases h2;cases r2;exact SeqAt.RcNeAt.int_bool a t1 b
  |int b=>
   cases h2;obtain⟨t2,rfl⟩:=r2;exact SeqAt.RcNeAt.int_int a t1 b t2
  |str b=>
   cases h2;obtain⟨t2,rfl⟩:=r2;exact SeqAt.RcNeAt.int_str a t1 b t2
  |lst es=>
   obtain⟨p2,ys,rfl,hb,q2⟩:=h2;obtain⟨its2,v2,hl2⟩:=zB0 ok hb;cases r2;exact SeqAt.RcNeAt.int_list a t1 hl2 hu'
  |tup es=>
   obtain⟨p2,ys,rfl,hb,q2⟩:=h2;obtain⟨its2,v2,hl2⟩:=zBI ok hb;cases r2;exact SeqAt.RcNeAt.int_tuple a t1 hl2 hu'
 |str a=>
  cases h1;obtain⟨t1,rfl⟩:=r1;cases e with
  |non=>
   cases h2;cases r2;exact SeqAt.RcNeAt.str_none a t1
  |bl b=>
   cases h2;cases r2;exact SeqAt.RcNeAt.str_bool a t1 b
  |int b=>
   cases h2;obtain⟨t2,rfl⟩:=r2;exact SeqAt.RcNeAt.str_int a t1 b t2
  |str b=>
   cases h2;obtain⟨t2,rfl⟩:=r2;exact SeqAt.RcNeAt.str_str a t1 b t2
  |lst es=>
   obtain⟨p2,ys,rfl,hb,q2⟩:=h2;obtain⟨its2,v2,hl2⟩:=zB0 ok hb;cases r2;exact SeqAt.RcNeAt.str_list a t1 hl2 hu'
  |tup es=>
   obtain⟨p2,ys,rfl,hb,q2⟩:=h2;obtain⟨its2,v2,hl2⟩:=zBI ok hb;cases r2;exact SeqAt.RcNeAt.str_tuple a t1 hl2 hu'
 |lst ds=>
  have hdl:Dat.depL ds+1<=n:=by rw[Dat.dep]at hd;exact hd
  obtain⟨p,xs,rfl,ha,q1⟩:=h1;obtain⟨its,v1,hl1⟩:=zB0 ok ha;cases r1;cases e with
  |non=>
   cases h2;cases r2;exact SeqAt.RcNeAt.list_none hl1 hu'
  |bl b=>
   cases h2;cases r2;exact SeqAt.RcNeAt.list_bool b hl1 hu'
  |int b=>
   cases h2;obtain⟨t2,rfl⟩:=r2;exact SeqAt.RcNeAt.list_int b t2 hl1 hu'
  |str b=>
   cases h2;obtain⟨t2,rfl⟩:=r2;exact SeqAt.RcNeAt.list_str b t2 hl1 hu'
  |lst es=>
   obtain⟨p2,ys,rfl,hb,q2⟩:=h2;obtain⟨its2,v2,hl2⟩:=zB0 ok hb;cases r2;have len1:its.toArray.size=ds.length:=by have:=v1.length;have:=q1.length;simp;lia
   have len2:its2.toArray.size=es.length:=by have:=v2.length;have:=q2.length;simp;lia
   show qKj A s (.ref p) (.ref p2) (!Dat.eqL ds es)
   by_cases hs:ds.length=es.length
   ·have:=SeqAt.RcNeAt.lists (A:=A) (s:=s) hl1 hl2 (by rw[len1,len2,hs]) hu' (zGS ok (by lia) (by rw[zE9];lia:A.in1.units+(n-1)<cLine) q1 q2 v1 v2)
    rw[len1,Dat.eqL_all hs _ (fun j h1 h2=>by rw[qA0,qA0];simp[h1,h2])]at this;exact this
   ·rw[Dat.eqL_len hs];exact SeqAt.RcNeAt.lists_lengths hl1 hl2 (by rw[len1,len2];simpa using hs) hu'
  |tup es=>
   obtain⟨p2,ys,rfl,hb,q2⟩:=h2;obtain⟨its2,v2,hl2⟩:=zBI ok hb;cases r2;exact SeqAt.RcNeAt.list_tuple hl1 hl2 hu'
 |tup ds=>
  have hdl:Dat.depL ds+1<=n:=by rw[Dat.dep]at hd;exact hd
  obtain⟨p,xs,rfl,ha,q1⟩:=h1;obtain⟨its,v1,hl1⟩:=zBI ok ha;cases r1;cases e with
  |non=>
   cases h2;cases r2;exact SeqAt.RcNeAt.tuple_none hl1 hu'
  |bl b=>
   cases h2;cases r2;exact SeqAt.RcNeAt.tuple_bool b hl1 hu'
  |int b=>
   cases h2;obtain⟨t2,rfl⟩:=r2;exact SeqAt.RcNeAt.tuple_int b t2 hl1 hu'
  |str b=>
   cases h2;obtain⟨t2,rfl⟩:=r2;exact SeqAt.RcNeAt.tuple_str b t2 hl1 hu'
  |lst es=>
   obtain⟨p2,ys,rfl,hb,q2⟩:=h2;obtain⟨its2,v2,hl2⟩:=zB0 ok hb;cases r2;exact SeqAt.RcNeAt.tuple_list hl1 hl2 hu'
  |tup es=>
   obtain⟨p2,ys,rfl,hb,q2⟩:=h2;obtain⟨its2,v2,hl2⟩:=zBI ok hb;cases r2;have len1:its.toArray.size=ds.length:=by have:=v1.length;have:=q1.length;simp;lia
   have len2:its2.toArray.size=es.length:=by have:=v2.length;have:=q2.length;simp;lia
   show qKj A s (.ref p) (.ref p2) (!Dat.eqL ds es)
   have:=SeqAt.RcNeAt.tuples (A:=A) (s:=s) hl1 hl2 hu' (zGS ok (by lia) (by rw[zE9];lia:A.in1.units+(n-1)<cLine) q1 q2 v1 v2)
   by_cases hs:ds.length=es.length
   ·rw[len1,len2,<- hs,qFc,beq_self_eq_true,qDy,Dat.eqL_all hs _ (fun j h1 h2=>by rw[qA0,qA0];simp[h1,h2])]at this;exact this
   ·rw[len1,len2,show(ds.length==es.length)=false by simpa using hs,qCk]at this;rw[Dat.eqL_len hs];exact this
end
section
variable{X:Cx}
noncomputable def rEqD:R2:=fun x y H Q=>∃d e,Rep H d x/\Rep H e y/\d.dep<=40/\Q (.bl (Dat.eq d e)) H
noncomputable def rNeD:R2:=fun x y H Q=>∃d e,Rep H d x/\Rep H e y/\d.dep<=40/\Q (.bl (!Dat.eq d e)) H
theorem zYM(hu:X.A.units+64<cLine):OpR X (compareOp .Eq) rEqD:=by
 intro pins s σ H x y v u Q I rx ry h;obtain⟨d,e,h1,h2,hd,q⟩:=h;exact zS5 40 hd I.hok h1 h2 rx ry (by lia) _ _ _ _ ⟨.bl _,H,I,rfl,q⟩
theorem zYJ(hu:X.A.units+64<cLine):OpR X (compareOp .NotEq) rNeD:=by
 intro pins s σ H x y v u Q I rx ry h;obtain⟨d,e,h1,h2,hd,q⟩:=h;exact zO5 40 hd I.hok h1 h2 rx ry (by lia) _ _ _ _ ⟨.bl _,H,I,rfl,q⟩
noncomputable def zGY(H:Hp):V->Option String
 |.non=>some "NoneType"
 |.bl _=>some "bool"
 |.int _=>some "int"
 |.str _=>some "str"
 |.ref a=>match H a with
  |some (.lst _)=>some "list"
  |some (.tup _)=>some "tuple"
  |some (.dK _)=>some "dict"
  |_=>none
 |_=>none
noncomputable def zWA(T n:String):Bool:=T==n||(T == "bool" && n == "int")
theorem zMG:zDZ X (.builtin "isinstance") (fun vs H Q=>∃x n T,vs=[x,.ty n]/\zGY H x=some T/\n∈["int","bool","str","list","tuple","dict"]/\Q (.bl (zWA T n)) H):=by
 intro pins s σ H vs us Q I r h;obtain⟨x,n,T,rfl,ht,hn,q⟩:=h;obtain⟨u,w',rfl,rx,rn⟩:=zUW r
 cases(show w'=qJ3 n from rn)
 have key:∃t,TyOf X.K H x t/\t=.type T:=by
  cases x with
  |non=>cases ht;exact⟨_,.non,rfl⟩
  |bl b=>cases ht;exact⟨_,.bl b,rfl⟩
  |int b=>cases ht;exact⟨_,.int b,rfl⟩
  |str b=>cases ht;exact⟨_,.str b,rfl⟩
  |ref a=>
   unfold zGY at ht;dsimp only at ht;cases e:H a with
   |none=>rw[e]at ht;cases ht
   |some o=>
    rw[e]at ht;cases o with
    |lst xs=>cases ht;exact⟨_,.lst e,rfl⟩
    |tup xs=>cases ht;exact⟨_,.tup e,rfl⟩
    |dK xs=>cases ht;exact⟨_,.dK e,rfl⟩
    |_=>cases ht
  |_=>cases ht
 obtain⟨t,ty,rfl⟩:=key;have hT:T∈["NoneType","bool","int","str","list","tuple","dict"]:=by
  cases x with
  |non=>cases ht;decide
  |bl b=>cases ht;decide
  |int b=>cases ht;decide
  |str b=>cases ht;decide
  |ref a=>
   unfold zGY at ht;dsimp only at ht;cases e:H a with
   |none=>rw[e]at ht;cases ht
   |some o=>
    rw[e]at ht;cases o with
    |lst xs=>cases ht;decide
    |tup xs=>cases ht;decide
    |dK xs=>cases ht;decide
    |_=>cases ht
  |_=>cases ht
 have e:qBb X.K (.type T) (.type n)=some (zWA T n):=by
  simp only[qAj,List.mem_nil_iff,or_false]at hT hn
  rcases hT with rfl|rfl|rfl|rfl|rfl|rfl|rfl<;>rcases hn with rfl|rfl|rfl|rfl|rfl|rfl<;>rfl
 exact zQJ I rx ty e fun tk=>⟨.bl _,H,I.tok tk,rfl,q⟩
noncomputable def zH9(lo:Int)(n:Nat):List V:=(qAg n).map fun i=>.int (lo+(i:Nat))
theorem zGW:∀{xs:List V}{its:List Value},xs.length=its.length->(∀(j:Nat)(x:V)(v:Value),xs[j]?=some x->its[j]?=some v->RelV x v)->Vals xs its
 |[],[],_,_=>.nil
 |[],_::_,h,_=>by simp at h
 |_::_,[],h,_=>by simp at h
 |x::xs,v::its,h,g=>.cons (g 0 x v rfl rfl) (zGW (by simpa using h) fun j y u e1 e2=>g (j+1) y u (by simpa using e1) (by simpa using e2))
theorem zOZ{lo:Int}{n:Nat}{its:List Value}(hl:its.length=n)(h:∀(j:Nat) (v:Value),its[j]?=some v->∃t,v=qIp (lo+(j:Int)*1) t):Vals (zH9 lo n) its:=by
 refine zGW (by simp[zH9,hl]) fun j x v e1 e2=>?_
 unfold zH9 at e1;rw[qAf]at e1;cases e:(qAg n)[j]? with
 |none=>rw[e]at e1;cases e1
 |some i=>
  rw[e]at e1;cases e1;have hi:i=j:=by
   obtain⟨h1,h2⟩:=qA2.mp e;rw[qDj]at h2;exact h2.symm
  subst hi;obtain⟨t,ht⟩:=h i v e2;exact⟨t,by rw[ht,qGz]⟩
theorem zRG:zDZ X (.type "range") (fun vs H Q=>∃j:Int,vs=[.int j]/\∀p,H p=none->Q (.ref p) (upd H p (.rng 0 j))):=by
 intro pins s σ H vs us Q I r h;obtain⟨j,rfl,q⟩:=h;obtain⟨u,rfl,rx⟩:=zK1 r;obtain⟨t,rfl⟩:=rx;exact call_range_1 ⟨.ref _,_,I.laid (o:=.rng 0 j) (fun b o e=>qH7 _ e) (qA6 _) ⟨_,_,_,qHf _ rfl⟩,rfl,q _ I.fresh⟩
theorem zRF:zDZ X (.type "range") (fun vs H Q=>∃i j:Int,vs=[.int i,.int j]/\∀p,H p=none->Q (.ref p) (upd H p (.rng i j))):=by
 intro pins s σ H vs us Q I r h;obtain⟨i,j,rfl,q⟩:=h;obtain⟨u,u',rfl,rx,rx'⟩:=zUW r;obtain⟨t,rfl⟩:=rx;obtain⟨t',rfl⟩:=rx';exact call_range_2 ⟨.ref _,_,I.laid (o:=.rng i j) (fun b o e=>qH7 _ e) (qA6 _) ⟨_,_,_,qHf _ rfl⟩,rfl,q _ I.fresh⟩
theorem zJQ(hc:X.calm=true):zDZ X (.type "list") (fun vs H Q=>∃p lo hi,vs=[.ref p]/\H p=some (.rng lo hi)/\(-(2 ^ 62)<=lo/\lo<2 ^ 62/\-(2 ^ 62)<=hi/\hi<2 ^ 62)/\hi-lo<=1000000/\∀l,H l=none->Q (.ref l) (upd H l (.lst (zH9 lo (hi-lo).toNat)))):=by
 intro pins s σ H vs us Q I r h;obtain⟨p,lo,hi,rfl,hp,⟨b1,b2,b3,b4⟩,hz,q⟩:=h;obtain⟨u,rfl,rx⟩:=zK1 r;cases rx;obtain⟨t,u,v,e⟩:=(show ObjOk X.prog X.w H s.heap p (.rng lo hi) from I.hok p _ hp)
 have hn:qJb lo hi 1=(((hi-lo).toNat:Nat):Int):=by rw[rangeSize_one];split<;>lia
 refine call_list_range (n:=(hi-lo).toNat) (I.ok.hd hc) e (small_one b1 b2 b3 b4) hn (by lia) fun h' tk acc' c' hk hS hacc=>?_
 have rv:Vals (zH9 lo (hi-lo).toNat) acc'.toList:=zOZ (by simpa using hacc.1) fun j v hj=>hacc.2 j v (by simpa using hj)
 refine⟨.ref _,_,I.laid (o:=.lst (zH9 lo (hi-lo).toNat)) hk (qA6 _) ⟨?_,acc'.toList,c',rv,by simpa using hS⟩,rfl,q _ I.fresh⟩;have hl:(zH9 lo (hi-lo).toNat).length=(hi-lo).toNat:=by simp[zH9]
 rw[hl,qHr]
 lia
def zY7:R2:=fun x y H Q=>match x,y with
 |.int i,.int j=>Q (.int (i+j)) H
 |.str i,.str j=>i.length+j.length<=sizeLine/\Q (.str (i++j)) H
 |.ref l,.ref b=>∃xs zs,H l=some (.lst xs)/\H b=some (.lst zs)/\xs.length+zs.length<=sizeLine/\∀p,H p=none->Q (.ref p) (upd H p (.lst (xs++zs)))
 |_,_=>False
theorem zDA:OpR X (binaryOp .Add) zY7:=by
 intro pins s σ H x y v u Q I rx ry h;cases x<;>cases y<;>first
  |exact zYO pins s σ H _ _ v u Q I rx ry ⟨_,_,rfl,rfl,h⟩
  |exact zO7 pins s σ H _ _ v u Q I rx ry ⟨_,_,rfl,rfl,h.1,h.2⟩
  |(obtain⟨xs,zs,h1,h2,h3,h4⟩:=h;exact zYN pins s σ H _ _ v u Q I rx ry ⟨_,_,xs,zs,rfl,rfl,h1,h2,h3,h4⟩)
  |exact qA8 h
noncomputable def rMulU:R2:=fun x y H Q=>match x,y with
 |.int i,.int j=>CMul i j/\Q (.int (i*j)) H
 |_,_=>False
noncomputable def zXZ:R2:=fun x y H Q=>match x,y with
 |.int i,.int j=>Q (.int (i-j)) H
 |_,_=>False
theorem zV1:OpR X (binaryOp .Sub) zXZ:=by
 intro pins s σ H x y v u Q I rx ry h;cases x<;>cases y<;>first
  |exact zYH pins s σ H _ _ v u Q I rx ry ⟨_,_,rfl,rfl,h⟩
  |exact qA8 h
noncomputable def zY4:R2:=fun x y H Q=>match x,y with
 |.int i,.int j=>0<j/\Q (.int (i%j)) H
 |_,_=>False
theorem zDJ:OpR X (binaryOp .Mod) zY4:=by
 intro pins s σ H x y v u Q I rx ry h;cases x<;>cases y<;>first
  |exact zYK pins s σ H _ _ v u Q I rx ry ⟨_,_,rfl,rfl,h.1,h.2⟩
  |exact qA8 h
def zY2:V->Hp->VK->Prop:=fun x H Q=>match x with
 |.int i=>Q (.int (-i)) H
 |_=>False
theorem zRW:UnR X (unaryOp .USub) zY2:=by
 intro pins s σ H x v Q I rx h;cases x<;>first
  |exact zXC pins s σ H _ v Q I rx ⟨_,rfl,h⟩
  |exact qA8 h
noncomputable def zVH(p:Int->Int->Bool):R2:=fun x y H Q=>match x,y with
 |.int i,.int j=>Q (.bl (p i j)) H
 |_,_=>False
theorem u_lt:OpR X (compareOp .Lt) (zVH fun i j=>decide (i<j)):=by
 intro pins s σ H x y v u Q I rx ry h;cases x<;>cases y<;>first
  |exact zaH pins s σ H _ _ v u Q I rx ry ⟨_,_,rfl,rfl,h⟩
  |exact qA8 h
theorem u_gt:OpR X (compareOp .Gt) (zVH fun i j=>decide (j<i)):=by
 intro pins s σ H x y v u Q I rx ry h;cases x<;>cases y<;>first
  |exact zaI pins s σ H _ _ v u Q I rx ry ⟨_,_,rfl,rfl,h⟩
  |exact qA8 h
def rEqU:R2:=fun x y H Q=>match x,y with
 |.int i,.int j=>Q (.bl (decide (i=j))) H
 |.str i,.str j=>Q (.bl (decide (i=j))) H
 |.bl i,.bl j=>Q (.bl (decide (i=j))) H
 |x,y=>rEqD x y H Q
def rNeU:R2:=fun x y H Q=>match x,y with
 |.int i,.int j=>Q (.bl (!decide (i=j))) H
 |.str i,.str j=>Q (.bl (!decide (i=j))) H
 |.bl i,.bl j=>Q (.bl (!decide (i=j))) H
 |x,y=>rNeD x y H Q
theorem u_eq(hu:X.A.units+64<cLine):OpR X (compareOp .Eq) rEqU:=by
 intro pins s σ H x y v u Q I rx ry h;cases x<;>cases y<;>first
  |(refine zaJ pins s σ H _ _ v u Q I rx ry ⟨rfl,?_⟩;have h':=h;simp only[rEqU]at h';simpa using h')
  |exact zYM hu pins s σ H _ _ v u Q I rx ry h
theorem u_ne(hu:X.A.units+64<cLine):OpR X (compareOp .NotEq) rNeU:=by
 intro pins s σ H x y v u Q I rx ry h;cases x<;>cases y<;>first
  |(refine zaG pins s σ H _ _ v u Q I rx ry ⟨rfl,?_⟩;have h':=h;simp only[rNeU]at h';simpa using h')
  |exact zYJ hu pins s σ H _ _ v u Q I rx ry h
def rIxU(K:qA1):R2:=fun x y H Q=>match x,y with
 |.str z,.int i=>∃c,z.length<=sizeLine/\atI z.cps.toList i=some c/\Q (.str ⟨#[c]⟩) H
 |.ref p,.int i=>∃xs v,(SqL K H p xs\/SqT K H p xs)/\atI xs i=some v/\Q v H
 |_,_=>False
theorem u_ix:IxR X (rIxU X.K):=by
 intro value slice pins s σ H x y v u Q I rx ry h hs;cases x<;>cases y<;>first
  |(obtain⟨c,h1,h2,h3⟩:=h;exact zZ1 value slice pins s σ H _ _ v u Q I rx ry ⟨_,_,c,rfl,rfl,h1,h2,h3⟩ hs)
  |(obtain⟨xs,w,h1|h1,h2,h3⟩:=h
    ·exact zW8 value slice pins s σ H _ _ v u Q I rx ry ⟨_,xs,_,w,rfl,rfl,h1,h2,h3⟩ hs
    ·exact zZ0 value slice pins s σ H _ _ v u Q I rx ry ⟨_,xs,_,w,rfl,rfl,h1,h2,h3⟩ hs)
  |exact qA8 h
def zVE(K:qA1):List V->Hp->VK->Prop:=fun vs H Q=>match vs with
 |[.str z]=>z.length<=sizeLine/\Q (.int z.length) H
 |[.ref p]=>∃xs,(SqL K H p xs\/SqT K H p xs)/\Q (.int xs.length) H
 |_=>False
theorem zaO:zDZ X (.builtin "len") (zVE X.K):=by
 intro pins s σ H vs us Q I r h;cases vs with
 |nil=>exact qA8 h
 |cons hd1 tl1=>
  cases hd1 with
  |str z=>
   cases tl1 with
   |nil=>
    exact zLH pins s σ H _ us Q I r ⟨z,rfl,h.1,h.2⟩
   |cons _ _=>exact qA8 h
  |ref p=>
   cases tl1 with
   |nil=>
    obtain⟨xs,h1,h2⟩:=h;exact zLI pins s σ H _ us Q I r ⟨p,xs,rfl,h1,h2⟩
   |cons _ _=>exact qA8 h
  |_=>exact qA8 h
def zI1(K:qA1):List V->Hp->VK->Prop:=fun vs H Q=>match vs with
 |[.ref p]=>(∃xs,(SqL K H p xs\/SqT K H p xs)/\∀l,H l=none->Q (.ref l) (upd H l (.lst xs))) \/
   ∃lo hi,H p=some (.rng lo hi)/\(-(2 ^ 62)<=lo/\lo<2 ^ 62/\-(2 ^ 62)<=hi/\hi<2 ^ 62)/\hi-lo<=1000000/\∀l,H l=none->Q (.ref l) (upd H l (.lst (zH9 lo (hi-lo).toNat)))
 |_=>False
theorem zYX(hc:X.calm=true):zDZ X (.type "list") (zI1 X.K):=by
 intro pins s σ H vs us Q I r h;cases vs with
 |nil=>exact qA8 h
 |cons hd1 tl1=>
  cases hd1 with
  |ref p=>
   cases tl1 with
   |nil=>
    rcases h with⟨xs,h1,h2⟩|⟨lo,hi,h1,h2,h3,h4⟩
    ·exact zLG pins s σ H _ us Q I r ⟨p,xs,rfl,h1,h2⟩
    ·exact zJQ hc pins s σ H _ us Q I r ⟨p,lo,hi,rfl,h1,h2,h3,h4⟩
   |cons _ _=>exact qA8 h
  |_=>exact qA8 h
def zPL:List V->Hp->VK->Prop:=fun vs H Q=>match vs with
 |[.int j]=>∀p,H p=none->Q (.ref p) (upd H p (.rng 0 j))
 |[.int i,.int j]=>∀p,H p=none->Q (.ref p) (upd H p (.rng i j))
 |_=>False
theorem zW7:zDZ X (.type "range") zPL:=by
 intro pins s σ H vs us Q I r h
 match vs,h with
 |[.int j],h=>exact zRG pins s σ H _ us Q I r ⟨j,rfl,h⟩
 |[.int i,.int j],h=>exact zRF pins s σ H _ us Q I r ⟨i,j,rfl,h⟩
def zY5:List V->Hp->VK->Prop:=fun vs H Q=>match vs with
 |[x,.ty n]=>∃T,zGY H x=some T/\n∈["int","bool","str","list","tuple","dict"]/\Q (.bl (zWA T n)) H
 |_=>False
theorem zCF:zDZ X (.builtin "isinstance") zY5:=by
 intro pins s σ H vs us Q I r h;cases vs with
 |nil=>exact qA8 h
 |cons x tl1=>
  cases tl1 with
  |nil=>exact qA8 h
  |cons hd2 tl2=>
   cases hd2 with
   |ty n=>
    cases tl2 with
    |nil=>
     obtain⟨T,h1,h2,h3⟩:=h;exact zMG pins s σ H _ us Q I r ⟨x,n,T,rfl,h1,h2,h3⟩
    |cons _ _=>exact qA8 h
   |_=>exact qA8 h
end
noncomputable def zLD(N N':List Str)(k:Nat)(sc esc:Scope):Bool:=
 (sc.kind==.function)&&decide ((sc.names.map (·.1)).Nodup)&&(N'.length==N.length+k) &&
 ((qAg N.length).all fun i=>match N'[i]? with
  |none=>true
  |some x=>(sc.names.lookup x==none)||(sc.names.any (fun p=>p.1==x&&p.2==.free)&&N[i]?==some x)) &&
 (sc.names.all fun p=>p.2 != .free||esc.names.lookup p.1==some .cell||esc.names.lookup p.1==some .free)
theorem cn{X:Cx}{sc:Scope}(N':List Str)(k:Nat)(h:zLD X.N N' k sc X.env.scope=true):CompNames X.N N' k sc X.env:=by
 unfold zLD at h;simp only[qBi,decide_eq_true_eq,beq_iff_eq]at h;obtain⟨⟨⟨⟨h1,h2⟩,h3⟩,h4⟩,h5⟩:=h;refine⟨h1,h2,h3,fun i x e hi=>?_,fun x hx=>?_⟩
 ·have q:=qD2.mp h4 i (qBw.mpr hi);rw[e]at q;simp only[qFv,qBi,beq_iff_eq,qD3]at q
  rcases q with q|⟨⟨p,hp,e1,e2⟩,e3⟩
  ·exact .inr q
  ·obtain⟨y,kk⟩:=p;dsimp only at e1 e2;subst e1;subst e2;exact .inl ⟨hp,e3⟩
 ·have q:=qD2.mp h5 _ hx;simp only[qFv,bne_iff_ne,ne_eq,not_true_eq_false,false_or,beq_iff_eq]at q;exact q
theorem PE.imp{X:Cx}{e:Expr}{t t':TE}(h:PE X e t)(i:∀σ H Q,t' σ H Q->t σ H Q):PE X e t':=fun pins s σ H Q I q=>h pins s σ H Q I (i σ H Q q)
noncomputable def vM(i:Nat):TE:=fun σ H Q=>match σ[i]? with
 |some (some v)=>Q v H
 |_=>False
theorem pn{X:Cx}(i:Nat){x:Str}{pos:Pos}(hN:X.N[i]?=some x:=by rfl)(hv:Vis X.env.scope x:=by first|exact qGu rfl|exact qFt (qGu rfl)|exact qFt (qFt rfl))(hd:(x==("__debug__":Str))=false:=by decide)
  (hcd:(x==("__classdict__":Str))=false:=by decide):PE X (.Name x pos) (vM i):=(zU0 hN hv hd hcd).imp fun σ H Q h=>by
 unfold vM at h;cases e:σ[i]? with
 |none=>rw[e]at h;exact qA8 h
 |some w=>
  rw[e]at h;cases w with
  |none=>exact qA8 h
  |some v=>exact⟨v,e,h⟩
noncomputable def bM(t:TE):TT:=fun σ H Q=>t σ H fun x H'=>match x with
 |.bl k=>Q k H'
 |.int i=>Q (i != 0) H'
 |.non=>Q false H'
 |_=>False
section
variable{X:Cx}{a b c:Expr}{ta tb tc:TE}{tA tB:TT}{rest:List Expr}{pos:Pos}
theorem zXH{K:qA1}{x:V}{H:Hp}{Q:Bool->Hp->Prop}(h:match x with | .bl k=>Q k H | .int i=>Q (i != 0) H | .non=>Q false H|_=>False):∃k,TruV K x H k/\Q k H:=by
 cases x with
 |bl k=>exact⟨k,rfl,h⟩
 |int i=>exact⟨_,rfl,h⟩
 |non=>exact⟨_,rfl,h⟩
 |_=>exact qA8 h
theorem pt_m(ha:PE X a ta)(he:∀whole,isTrue a X.env whole=(do let v <- whole;qKq a.pos;holding [v] (truthy v)):=by intro _;rfl):PT X a (bM ta):=by
 intro pins s σ H Q I h;refine isTrue_plain (thn (ha pins s σ H _ I h) fun v s1 z0=>?_) (he _);obtain⟨x,H1,I1,r1,q1⟩:=z0;exact thn (zXG pins s1 σ H1 x v Q I1 r1 (zXH q1)) fun _ _ q=>q
theorem zDB{op:CmpOp}{r:R2}(ho:OpR X (compareOp op) r)(ha:PE X a ta)(hb:PE X b tb)(hm:qI1 op b=false):PT X (.Compare a [op] [b] pos) (fun σ H Q=>ta σ H fun x H1=>tb σ H1 fun y H2=>r x y H2 fun z H3=>match z with | .bl k=>Q k H3|_=>False):=by
 intro pins s σ H Q I h;refine qJl (thn (ha pins s σ H _ I h) fun v s1 ⟨x,H1,I1,r1,q1⟩=>thn (hb pins s1 σ H1 _ I1 q1) fun u s2 ⟨y,H2,I2,r2,q2⟩=>
  thn (ho pins s2 σ H2 x y v u _ I2 r1 r2 q2) fun d s3 ⟨z,H3,I3,r3,q3⟩=>?_) hm
 cases z with
 |bl k=>cases r3;exact qJ4 ⟨H3,I3,q3⟩
 |_=>exact qA8 q3
def setM:V->V->V->Hp->(Hp->Prop)->Prop:=fun o i v H Q=>match o,i with
 |.ref p,.int k=>∃xs j,H p=some (.lst xs)/\ixN xs.length k=some j/\Q (upd H p (.lst (xs.set j v)))
 |_,_=>False
theorem zNU:PSet X setM:=by
 intro pins s σ H o i v ov iv u Q I ro ri rv h;cases o<;>cases i<;>first
  |(obtain⟨xs,j,h1,h2,h3⟩:=h;exact zS1 pins s σ H _ _ v ov iv u Q I ro ri rv ⟨_,xs,_,j,rfl,rfl,h1,h2,h3⟩)
  |exact qA8 h
def appM:V->List V->Hp->VK->Prop:=fun x vs H Q=>match x,vs with
 |.ref l,[y]=>∃xs,H l=some (.lst xs)/\xs.length<sizeLine/\Q .non (upd H l (.lst (xs++[y])))
 |_,_=>False
theorem zCZ:MtR X "list.append" appM:=by
 intro pins s σ H x vs v us Q I rx rv h;cases x with
 |ref l=>
  cases vs with
  |nil=>exact qA8 h
  |cons y t=>
   cases t with
   |nil=>
    obtain⟨xs,h1,h2,h3⟩:=h;exact zQ8 pins s σ H _ _ v us Q I rx rv ⟨l,xs,y,rfl,rfl,h1,h2,h3⟩
   |cons _ _=>exact qA8 h
 |_=>exact qA8 h
def popM:V->List V->Hp->VK->Prop:=fun x vs H Q=>match x,vs with
 |.ref l,[.int i]=>∃xs k y,H l=some (.lst xs)/\(-(2 ^ 63)<=i/\i<2 ^ 63)/\qKs i xs.length=some k/\xs[k]?=some y/\Q y (upd H l (.lst (xs.eraseIdx k)))
 |.ref l,[]=>∃xs y,H l=some (.lst xs)/\xs[xs.length-1]?=some y/\Q y (upd H l (.lst xs.dropLast))
 |_,_=>False
theorem zJ6:MtR X "list.pop" popM:=by
 intro pins s σ H x vs v us Q I rx rv h;cases x with
 |ref l=>
  cases vs with
  |nil=>
   obtain⟨xs,y,h1,h2,h3⟩:=h;exact zYR pins s σ H _ _ v us Q I rx rv ⟨l,xs,y,rfl,rfl,h1,h2,h3⟩
  |cons y t=>
   cases y with
   |int i=>
    cases t with
    |nil=>
     obtain⟨xs,k,y,h1,h2,h3,h4,h5⟩:=h;exact zSM pins s σ H _ _ v us Q I rx rv ⟨l,xs,i,k,y,rfl,rfl,h1,h2.1,h2.2,h3,h4,h5⟩
    |cons _ _=>exact qA8 h
   |_=>exact qA8 h
 |_=>exact qA8 h
end
theorem pt_w{X:Cx}{e:Expr}{t:TT}(h:PW X e t):PT X e t:=h.pt
def Has(P:qH9)(w:World)(K:qA1)(mg:Str->Option Value)(base:Heap)(x:Str)(k:Nat)(ps:List Str)(sp:Sp):Prop:=
 ∃f fd,FnOk P w K mg base CX0 k f fd ps sp/\mg x=some (.ref f)/\qAv K (.ref f)=true/\Binds K fd ps []
def Def(K:qA1)(mg:Str->Option Value)(x:Str)(st:Stmt):Prop:=∃f fd,Fun K x x st f fd/\mg x=some (.ref f)
section
variable{X:Cx}{x:Str}{j k:Nat}{ps:List Str}{sp:Sp}{e:Expr}{es:List Expr}{t:TA}{p pos:Pos}
theorem zBJ(h:Has X.prog X.w X.K X.mg X.base x j ps sp)(hjk:j<=k)(hr:Room k X.A)(hg:Gl X x)(ha:PA X (e::es) t)(hdb:(x==("__debug__":Str))=false:=by decide)
  (he:starEach (e::es) X.env=(false,eval e X.env)::starEach es X.env:=by rfl) (hpl:(backTo pos (starEach es X.env)).any (·.1)=false:=by rfl):PE X (.Call (.Name x p) (e::es) [] pos) (zF3 sp [] E0 t):=by
 obtain⟨f,fd,G,m,kp,b⟩:=h;exact zPT G (hr.mono hjk) hg m kp b .nil zaF ha hdb he hpl
end
section
variable{P:qH9}{w:World}{K:qA1}{mg:Str->Option Value}{base:Heap}
theorem Def.ok{x:Str}{st:Stmt}{N ps:List Str}{k:Nat}{sp:Sp}(D:Def K mg x st)(S:FnScope N ps (zA9 st))
  (hb:∀(kV doc pm:Value)(an:Option Addr)(cdv ct:Value)(us:List Value),us.length=ps.length->qJc (qAz x x (zBS st) (zB1 st) (zA9 st) .none kV doc pm an cdv ct) ⟨us,[]⟩=pure (ps.zip us))
  (len:∀vs H Q E,sp vs H Q E->vs.length=ps.length)
  (hbody:∀(f:Addr)(cdv:Value)(A:qHb)(outer:List Env)(s:qH6)(H:Hp)(vs:List V)(Q:VK)(E:XK),Room k (A.deeper (envOfC x (zA9 st) s.heap.objs.size f cdv))->sp vs H Q E ->
   ∃t,PSs (cxOf CX0 P w K mg base N x (zA9 st) f cdv A outer s H E).nox (zB1 st) t/\t { nx:=fun _ H'=>Q .non H',rt:=Q } (start N vs) H):Has P w K mg base x (k+1) ps sp:=by
 obtain⟨f,fd,F,m⟩:=D;exact⟨f,fd,F.ok S len (fun cdv A outer s H vs Q E hr h=>hbody f cdv A outer s H vs Q E hr h),m,F.kp,F.binds hb⟩
end
section
variable{X:Cx}{pins:List (Addr×Obj)}{σ:St}{H:Hp}{s:qH6}
def Ite(K:qA1)(a:Addr):It:=
 ⟨fun i H=>∃xs x,SqL K H a xs/\xs[i]?=some x,fun i H x H'=>∃T y,x=.ref T/\H T=none/\H'=upd H T (.tup [.int i,y])/\∀xs,SqL K H a xs->xs[i]?=some y,fun i H=>∃xs,SqL K H a xs/\xs.length<=i⟩
def iEnum(K:qA1)(tl:TA):TI:=fun σ H R=>tl σ H fun vs H1=>match vs with
 |[.ref a]=>(∃xs,SqL K H1 a xs)/\R (Ite K a) H1
 |_=>False
end
section
variable{X:Cx}{K:qA1}
theorem zD6(hK:X.K=K:=by rfl):zDZ X (.builtin "len") (zVE K):=hK▸zaO
theorem zGB(hc:X.calm=true)(hK:X.K=K:=by rfl):zDZ X (.type "list") (zI1 K):=hK▸zYX hc
theorem zBK(hK:X.K=K:=by rfl):IxR X (rIxU K):=hK▸u_ix
theorem zLW{es:List Expr}{k:Nat}{t:TGs}{n:Nat}{pos:Pos}(hc:X.calm=true)(h:PGs X es t)
  (hn:(assignEach es X.env).length=n:=by rfl) (hst:(assignEach es X.env).findIdx? (·.1)=none:=by rfl) (hK:X.K=K:=by rfl):PG X (.Tuple es k pos) (gTup K n t):=hK▸zYC hc h hn hst
noncomputable def tML(r:V->List V->Hp->VK->Prop)(to:TE)(t:TA):TE:=fun σ H Q=>to σ H fun x H1=>match x with
 |.ref p=>∃xs,H1 p=some (.lst xs)/\t σ H1 fun vs H2=>r x vs H2 Q
 |_=>False
variable{o e:Expr}{es:List Expr}{to:TE}{t:TA}{name:Str}{apos cpos:Pos}{T id:String}{r:V->List V->Hp->VK->Prop}
theorem zEQ(pa:PlainAttrs "list")(slot:Slot "list" name id)(hty:typeOf (.builtin id)=pure (.type "method_descriptor"))(hm:MtR X id r)(ho:PE X o to)(ha:PA X (e::es) t)
  (hbase:qIm o name X.env (eval o X.env)=eval o X.env:=by rfl)
  (hfew:((backTo cpos (starEach (e::es) X.env)).all (fun x=>!x.1)&&(backToKw cpos (keywordEach [] X.env)).all (fun x=>x.1.isSome)
   && decide ((e::es).length+([]:List qKc).length+(if([]:List qKc).isEmpty then 0 else 1)<30))=true:=by rfl)
  (hline:(apos.endLine==cpos.line)=true:=by rfl) (hs:starEach (e::es) X.env=(false,eval e X.env)::starEach es X.env:=by rfl) (hplain:(backTo cpos (starEach es X.env)).any (·.1)=false:=by rfl) :
  PE X (.Call (.Attribute o name apos) (e::es) [] cpos) (tML r to t):=by
 intro pins s σ H Q I h;refine qJj hbase hfew hline rfl (thn (ho pins s σ H _ I h) fun v s1 z0=>?_);obtain⟨x,H1,I1,r1,q1⟩:=z0;cases x with
 |ref p=>?_
 |_=>exact qA8 q1
 obtain⟨xs,hx,q1⟩:=q1;obtain⟨h1,h2⟩:=zXE (T:="list") I1 r1 (.inl ⟨rfl,xs,SqL.of hx⟩);refine⟨"list",id,pa,slot,hty,h1,h2,?_⟩;have hA:=ha cpos pins s1 σ H1 _ I1 q1;rw[hs]at hA ⊢;refine qId (by show(false||(backTo cpos (starEach es X.env)).any (·.1))=false;rw[hplain]<;>rfl) (qIk ?_);exact thn hA fun us s2 ⟨vs,H2,I2,r2,q2⟩=>hm pins s2 σ H2 (.ref p) vs v us Q I2 r1 r2 q2
end
theorem same_new{H:Hp}{p:Addr}(h:H p=none)(o:HO):Same H (upd H p o):=fun b u q=>by rw[zAJ (zAW q h)];exact q
theorem Same.upd{H H':Hp}{p:Addr}(s:Same H H')(h:H p=none)(o:HO):Same H (upd H' p o):=fun b u q=>by rw[zAJ (zAW q h)];exact s b u q
theorem zCX{H:Hp}:∀(ns:List Int),RepL H (ns.map Dat.int) (ns.map V.int)
 |[]=>rfl
 |n::r=>⟨.int n,r.map V.int,rfl,rfl,zCX r⟩
theorem zHN:∀(ns:List Int),Dat.depL (ns.map Dat.int)=0
 |[]=>rfl
 |n::r=>by
  rw[qAn,Dat.depL,zHN r];rfl
theorem zGT:∀(ns ms:List Int),Dat.eqL (ns.map Dat.int) (ms.map Dat.int)=decide (ns=ms)
 |[],[]=>by simp[Dat.eqL]
 |[],_::_=>by simp[Dat.eqL]
 |_::_,[]=>by simp[Dat.eqL]
 |n::r,m::q=>by
  rw[qAn,qAn,Dat.eqL,zGT r q,Dat.eq]
  by_cases h:n=m
  ·subst h;simp
  ·simp[h]
theorem zMT{ns:List Int}{i:Nat}{x:Int}:(ns.map V.int).set i (.int x)=(ns.set i x).map V.int:=by
 rw[qDk]
theorem big{n:Nat}(h:n<=100000):n<sizeLine:=by rw[qHr];lia
theorem zL3:∀{ns:List Int}{vs:List Value},Vals (ns.map V.int) vs->qKd vs ns
 |[],_,.nil=>.nil
 |n::r,_,.cons h t=>by
  obtain⟨tk,rfl⟩:=h;exact .cons n tk (zL3 t)
section
variable{X:Cx}
def rInU(K:qA1)(neg:Bool):R2:=fun x y H Q=>match y with
 |.ref p=>∃xs,(SqL K H p xs\/SqT K H p xs)/\zGD x=true/\xs.all zGD=true/\Q (.bl (if neg then !inV x xs else inV x xs)) H
 |.str j=>match x with
  |.str i=>Q (.bl (if neg then !(!(qI9 j i 0 j.length 1).isEmpty)else !(qI9 j i 0 j.length 1).isEmpty)) H
  |_=>False
 |_=>False
theorem zV2{K:qA1}(hK:X.K=K:=by rfl):OpR X (compareOp .NotIn) (rInU K true):=by
 subst hK;intro pins s σ H x y v u Q I rx ry h;cases y with
 |ref p=>
  obtain⟨xs,h1,h2,h3,h4⟩:=h;exact zKI pins s σ H _ _ v u Q I rx ry ⟨p,xs,rfl,h1,h2,h3,h4⟩
 |str j=>
  cases x with
  |str i=>exact zKH pins s σ H _ _ v u Q I rx ry ⟨i,j,rfl,rfl,h⟩
  |_=>exact qA8 h
 |_=>exact qA8 h
end
end L2
namespace HT
open PySem PyProof.Rows
section
open PySem.SeqAt
open PySem.AutoSeq1 (wpAny_loadPart')
open PySem.MeetsSeq PySem.MeetsSeq2 PySem.MeetsSeq3
end
section
variable{prog:qH9}{w:World}{A:qHb}{E:Value->qH6->Prop}{s:qH6}
end
end HT
namespace Mi
open PySem
noncomputable section
inductive Sv where
 |i (n:Int)|s (x:Str)
inductive Sw where
 |non|bl (b:Bool)|int (i:Int)|str (x:Str)
inductive Dt where
 |non|bl (b:Bool)|int (i:Int)|str (x:Str)|lst (xs:List Dt)|tup (xs:List Dt)|scr (ns:List Int)|exc (c f:Str) (d:Dt)|ins (c:Str) (fs:List (Str×Sv))|dct (kvs:List (Sum Int Str×Sw))|fn (x:Str) (d:Dt)|dtt (ks:List (List Sw)) (xs:List Dt)|loc (a:Nat) (d:Dt)
mutual
def Dt.dep:Dt->Nat
 |.lst xs=>Dt.depL xs+1
 |.tup xs=>Dt.depL xs+1
 |.scr _=>1000
 |.exc _ _ _=>1000
 |.fn _ _=>1000
 |.dtt _ _=>1000
 |.loc _ _=>1000
 |.ins _ _=>1000
 |.dct _=>1000
 |_=>0
def Dt.depL:List Dt->Nat
 |[]=>0
 |x::r=>max x.dep (Dt.depL r)
end
mutual
def Dt.eq:Dt->Dt->Bool
 |.non,.non=>true
 |.bl a,.bl b=>a==b
 |.bl a,.int b=>(if a then 1 else 0)==b
 |.int a,.bl b=>a==(if b then 1 else 0)
 |.int a,.int b=>a==b
 |.str a,.str b=>a==b
 |.lst xs,.lst ys=>Dt.eqL xs ys
 |.tup xs,.tup ys=>Dt.eqL xs ys
 |_,_=>false
def Dt.eqL:List Dt->List Dt->Bool
 |[],[]=>true
 |x::r,y::q=>Dt.eq x y&&Dt.eqL r q
 |_,_=>false
end
structure Xn where
 cls:Str
 f:Str
 d:Dt
abbrev R(α:Type):=Option (Except Xn α)
noncomputable def okR{α:Type}(a:α):R α:=some (.ok a)
noncomputable def zA4{α β:Type}(x:R α)(f:α->R β):R β:=match x with
 |none=>none
 |some (.error e)=>some (.error e)
 |some (.ok a)=>f a
def optR{α:Type}(o:Option α):R α:=match o with
 |none=>none
 |some a=>okR a
@[simp] theorem zA1{α β:Type}(a:α)(f:α->R β):zA4 (okR a) f=f a:=rfl
@[simp] theorem zAA{α β:Type}(f:α->R β):zA4 none f=none:=rfl
@[simp] theorem zAE{α β:Type}(e:Xn)(f:α->R β):zA4 (some (.error e)) f=some (.error e):=rfl
@[simp] theorem zA8{α:Type}(a:α):optR (some a)=okR a:=rfl
@[simp] theorem zAD{α:Type}:optR (none:Option α)=none:=rfl
abbrev Rh:=List (Option Dt)
abbrev Sl:=Dt×Nat
abbrev Ro:=List (Option Sl)
abbrev EM:=Rh->R Dt
abbrev TM:=Rh->R Bool
abbrev AM:=Rh->R (List Dt)
abbrev FM:=List Dt->R Dt
noncomputable def ixA(n:Nat)(i:Int):Option Nat:=if 0<=i then(if i<n then some i.toNat else none)else if -(n:Int)<=i then some (i+n).toNat else none
def itA{α:Type}(xs:List α)(i:Int):Option α:=(ixA xs.length i).bind fun j=>xs[j]?
noncomputable def addD:Dt->Dt->Option Dt
 |.int i,.int j=>some (.int (i+j))
 |.str i,.str j=>@ite _ (i.length+j.length<=100000) (qA3 _) (some (.str (i++j))) none
 |.lst xs,.lst ys=>@ite _ (xs.length+ys.length<=100000) (qA3 _) (some (.lst (xs++ys))) none
 |_,_=>none
noncomputable def subD:Dt->Dt->Option Dt
 |.int i,.int j=>some (.int (i-j))
 |_,_=>none
noncomputable def mulD:Dt->Dt->Option Dt
 |.int i,.int j=>@ite _ (((-18446744073709551616<i/\i<18446744073709551616)\/(-18446744073709551616<j/\j<18446744073709551616))\/i.natAbs.log2+j.natAbs.log2<=67108864) (qA3 _) (some (.int (i*j))) none
 |_,_=>none
noncomputable def divD:Dt->Dt->Option Dt
 |.int i,.int j=>@ite _ (0<j/\j<1000000000000000000000000) (qA3 _) (some (.int (i/j))) none
 |_,_=>none
noncomputable def modD:Dt->Dt->Option Dt
 |.int i,.int j=>if 0<j then some (.int (i%j))else none
 |_,_=>none
noncomputable def powD:Dt->Dt->Option Dt
 |.int i,.int j=>@ite _ (0<=j/\j<=1000000/\i.natAbs<18446744073709551616) (qA3 _) (some (.int (i ^ j.toNat))) none
 |_,_=>none
noncomputable def negD:Dt->Option Dt
 |.int i=>some (.int (-i))
 |_=>none
noncomputable def cmpD(p:Int->Int->Bool):Dt->Dt->Option Dt
 |.int i,.int j=>some (.bl (p i j))
 |_,_=>none
noncomputable def eqD(x y:Dt):Option Dt:=if x.dep<=40/\y.dep<=40 then some (.bl (Dt.eq x y))else none
noncomputable def neD(x y:Dt):Option Dt:=if x.dep<=40/\y.dep<=40 then some (.bl (!Dt.eq x y))else none
noncomputable def isNonD:Dt->Bool
 |.non=>true
 |_=>false
def isD(x y:Dt):Option Dt:=match y with
 |.non=>some (.bl (isNonD x))
 |_=>none
noncomputable def isntD(x y:Dt):Option Dt:=match y with
 |.non=>some (.bl (!isNonD x))
 |_=>none
def ixD:Dt->Dt->Option Dt
 |.lst xs,.int i=>itA xs i
 |.tup xs,.int i=>itA xs i
 |.scr ns,.int i=>(itA ns i).map .int
 |.str z,.int i=>@ite _ (z.length<=100000) (qA3 _) ((itA z.cps.toList i).map fun c=>.str ⟨#[c]⟩) none
 |_,_=>none
noncomputable def lenD:List Dt->Option Dt
 |[.lst xs]=>some (.int xs.length)
 |[.tup xs]=>some (.int xs.length)
 |[.scr ns]=>some (.int ns.length)
 |[.str z]=>@ite _ (z.length<=100000) (qA3 _) (some (.int z.length)) none
 |_=>none
noncomputable def listD:List Dt->Option Dt
 |[.lst xs]=>some (.lst xs)
 |[.tup xs]=>some (.lst xs)
 |[.scr ns]=>some (.lst (ns.map .int))
 |_=>none
noncomputable def nums(lo:Int)(n:Nat):List Dt:=(qAg n).map fun i:Nat=>.int (lo+(i:Int))
def rangeD:List Dt->Option Dt
 |[.int j]=>@ite _ ((-4611686018427387904<=j/\j<4611686018427387904)/\j<=100000) (qA3 _) (some (.lst (nums 0 j.toNat))) none
 |[.int i,.int j]=>@ite _ ((-4611686018427387904<=i/\i<4611686018427387904/\-4611686018427387904<=j/\j<4611686018427387904)/\j-i<=100000) (qA3 _) (some (.lst (nums i (j-i).toNat))) none
 |_=>none
noncomputable def tyD:Dt->String
 |.non=>"NoneType"
 |.bl _=>"bool"
 |.int _=>"int"
 |.str _=>"str"
 |.lst _=>"list"
 |.tup _=>"tuple"
 |.scr _=>""
 |.exc _ _ _=>""
 |.fn _ _=>""
 |.dtt _ _=>""
 |.loc _ _=>""
 |.ins _ _=>""
 |.dct _=>""
def isiD(n:String)(x:Dt):Option Dt:=if tyD x = "" then none else some (.bl (tyD x==n||(tyD x == "bool" && n == "int")))
noncomputable def zZL:List Dt->Option (List Bool)
 |[]=>some []
 |.bl b::r=>(zZL r).map (b::·)
 |_::_=>none
noncomputable def absD:List Dt->Option Dt
 |[.int i]=>some (.int (if i<0 then -i else i))
 |_=>none
noncomputable def hasD(x:Dt)(ys:List Dt):Option Bool:=if x.dep=0/\Dt.depL ys=0 then some (ys.any fun y=>Dt.eq y x)else none
def inD(ng:Bool)(x y:Dt):Option Dt:=match y with
 |.lst ys=>(hasD x ys).map fun b=>.bl (if ng=true then !b else b)
 |.tup ys=>(hasD x ys).map fun b=>.bl (if ng=true then !b else b)
 |.str z=>match x with
  |.str y=>match y.cps.toList with
   |[c]=>some (.bl (if ng=true then !decide (c∈z.cps.toList)else decide (c∈z.cps.toList)))
   |_=>none
  |_=>none
 |_=>none
noncomputable def zWV(n d:Nat):Option Int->Nat
 |none=>d
 |some v=>if v<0 then(v+(n:Int)).toNat else min v.toNat n
def cutA{α:Type}(xs:List α)(lo hi:Option Int):List α:=(xs.drop (zWV xs.length 0 lo)).take (zWV xs.length xs.length hi-zWV xs.length 0 lo)
def slD:Dt->Option Int->Option Int->Option Dt
 |.lst xs,lo,hi=>some (.lst (cutA xs lo hi))
 |.str z,lo,hi=>@ite _ (z.length<=100000) (qA3 _) (some (.str ⟨(cutA z.cps.toList lo hi).toArray⟩)) none
 |_,_,_=>none
abbrev OM:=Rh->R (Option Int)
def oNo:OM:=fun _=>okR none
def oE(e:Rh->R Dt):OM:=fun ρ=>zA4 (e ρ) fun d=>match d with
 |.int i=>okR (some i)
 |_=>none
def eSl(a:Rh->R Dt)(lo hi:OM):Rh->R Dt:=fun ρ=>zA4 (a ρ) fun x=>zA4 (lo ρ) fun l=>zA4 (hi ρ) fun h=>optR (slD x l h)
noncomputable def posC(c:Nat):List Nat->Option Nat
 |[]=>none
 |x::r=>if x=c then some 0 else(posC c r).map (·+1)
def zaU(x:Dt)(ys:List Dt):Option Dt:=match x,ys with
 |.str z,[.str y]=>match y.cps.toList with
  |[c]=>some (.int (match posC c z.cps.toList with|some i=>(i:Int)|none=>-1))
  |_=>none
 |_,_=>none
noncomputable def zZK(x:Dt)(ys:List Dt):Option Dt:=match x,ys with
 |.str z,[.str y]=>match y.cps.toList with
  |[c]=>some (.int (z.cps.toList.count c:Nat))
  |_=>none
 |_,_=>none
noncomputable def zQK:Dt->Bool
 |.str _=>true
 |_=>false
def eMt(f:Dt->List Dt->Option Dt)(a:Rh->R Dt)(am:Rh->R (List Dt)):Rh->R Dt:=fun ρ=>zA4 (a ρ) fun x=>if zQK x=true then zA4 (am ρ) fun xs=>optR (f x xs)else none
noncomputable def signsD(z:Str):List Dt:=z.cps.toList.map fun c=>.str ⟨#[c]⟩
def eC(d:Dt):EM:=fun _=>okR d
def eV(i:Nat):EM:=fun ρ=>match ρ[i]? with
 |some (some d)=>okR d
 |_=>none
def eB(f:Dt->Dt->Option Dt)(a b:EM):EM:=fun ρ=>zA4 (a ρ) fun x=>zA4 (b ρ) fun y=>optR (f x y)
def eU(f:Dt->Option Dt)(a:EM):EM:=fun ρ=>zA4 (a ρ) fun x=>optR (f x)
def eAnd(a b:EM):EM:=fun ρ=>zA4 (a ρ) fun x=>match x with
 |.bl k=>if k=true then b ρ else okR (.bl false)
 |_=>none
def eOr(a b:EM):EM:=fun ρ=>zA4 (a ρ) fun x=>match x with
 |.bl k=>if k=true then okR (.bl true)else b ρ
 |_=>none
def eNot(a:EM):EM:=fun ρ=>zA4 (a ρ) fun x=>match x with
 |.bl k=>okR (.bl (!k))
 |_=>none
def zZA(p q:Dt->Dt->Option Dt)(a b c:EM):EM:=fun ρ=>zA4 (a ρ) fun x=>zA4 (b ρ) fun y=>zA4 (optR (p x y)) fun z=>match z with
 |.bl k=>if k=true then zA4 (c ρ) fun w=>optR (q y w)else okR (.bl false)
 |_=>none
def eIf(c:TM)(a b:EM):EM:=fun ρ=>zA4 (c ρ) fun k=>if k=true then a ρ else b ρ
def aNil:AM:=fun _=>okR []
def aCons(e:EM)(r:AM):AM:=fun ρ=>zA4 (e ρ) fun x=>zA4 (r ρ) fun xs=>okR (x::xs)
def eLst(a:AM):EM:=fun ρ=>zA4 (a ρ) fun xs=>@ite _ (xs.length<=100000) (qA3 _) (okR (.lst xs)) none
def eTup(a:AM):EM:=fun ρ=>zA4 (a ρ) fun xs=>@ite _ (xs.length<=100000) (qA3 _) (okR (.tup xs)) none
def eCall(f:FM)(a:AM):EM:=fun ρ=>zA4 (a ρ) f
def eBi(f:List Dt->Option Dt)(a:AM):EM:=fun ρ=>zA4 (a ρ) fun xs=>optR (f xs)
def eIsi(n:String)(a:EM):EM:=fun ρ=>zA4 (a ρ) fun x=>optR (isiD n x)
def tB(a:EM):TM:=fun ρ=>zA4 (a ρ) fun x=>match x with
 |.bl k=>okR k
 |_=>none
def tM(a:EM):TM:=fun ρ=>zA4 (a ρ) fun x=>match x with
 |.bl k=>okR k
 |.int i=>okR (i != 0)
 |.non=>okR false
 |_=>none
def tAn(a b:TM):TM:=fun ρ=>zA4 (a ρ) fun k=>if k=true then b ρ else okR false
def tOr(a b:TM):TM:=fun ρ=>zA4 (a ρ) fun k=>if k=true then okR true else b ρ
def tNo(a:TM):TM:=fun ρ=>zA4 (a ρ) fun k=>okR (!k)
def tYes:TM:=fun _=>okR true
abbrev IM:=Rh->R (List Dt)
def iSq(e:EM):IM:=fun ρ=>zA4 (e ρ) fun d=>match d with
 |.lst xs=>okR xs
 |.tup xs=>okR xs
 |.scr ns=>okR (ns.map .int)
 |.str z=>okR (signsD z)
 |_=>none
def iR1(e:AM):IM:=fun ρ=>zA4 (e ρ) fun vs=>match vs with
 |[.int j]=>@ite _ (-4611686018427387904<=j/\j<4611686018427387904) (qA3 _) (okR (nums 0 j.toNat)) none
 |_=>none
noncomputable def zWI(n:Nat):List Dt->List Dt
 |[]=>[]
 |x::r=>.tup [.int n,x]::zWI (n+1) r
def iEn(e:AM):IM:=fun ρ=>zA4 (e ρ) fun vs=>match vs with
 |[.lst xs]=>okR (zWI 0 xs)
 |_=>none
noncomputable def zipD:List Dt->List Dt->List Dt
 |x::r,y::q=>.tup [x,y]::zipD r q
 |_,_=>[]
def iZi(e:AM):IM:=fun ρ=>zA4 (e ρ) fun vs=>match vs with
 |[.lst xs,.lst ys]=>okR (zipD xs ys)
 |_=>none
inductive Tg where
 |one (i:Nat)
 |tup (is:List Nat)
noncomputable def zAS:Tg->Dt->Option (List (Nat×Dt))
 |.one i,d=>some [(i,d)]
 |.tup is,.tup ds=>if ds.length=is.length then some (is.zip ds)else none
 |.tup _,_=>none
noncomputable def Tg.idx:Tg->List Nat
 |.one i=>[i]
 |.tup is=>is
noncomputable def zAT:Rh->List (Nat×Dt)->Rh
 |ρ,[]=>ρ
 |ρ,(i,d)::r=>zAT (ρ.set i (some d)) r
noncomputable def zAV:Ro->List (Nat×Dt)->Ro
 |ρ,[]=>ρ
 |ρ,(i,d)::r=>zAV (ρ.set i (some (d,0))) r
def compGo(ρ:Rh)(k:Nat)(tg:Tg)(c:TM)(e:EM):List Dt->List Dt->R (List Dt)
 |[],acc=>okR acc
 |d::ds,acc=>match zAS tg d with
  |none=>none
  |some bs=>zA4 (c (zAT (ρ++qA5 k none) bs)) fun b=>if b=true then zA4 (e (zAT (ρ++qA5 k none) bs)) fun x=>compGo ρ k tg c e ds (acc++[x])else compGo ρ k tg c e ds acc
def eComp(it:IM)(k:Nat)(tg:Tg)(c:TM)(e:EM):EM:=fun ρ=>zA4 (it ρ) fun ds=>@ite _ (ds.length<=100000/\(tg.idx.all fun i=>decide (ρ.length<=i))=true) (qA3 _) (zA4 (compGo ρ k tg c e ds []) fun es=>okR (.lst es)) none
inductive Out where
 |nx (ρ:Ro)|rt (d:Dt)|bk (ρ:Ro)|ct (ρ:Ro)
abbrev SM:=Ro->R Out
noncomputable def full(ρ:Ro):Rh:=ρ.map fun o=>o.map Prod.fst
noncomputable def frz(ρ:Ro):Rh:=ρ.map fun o=>match o with
 |some (d,n)=>if n=0\/d.dep=0 then some d else none
 |none=>none
noncomputable def frz1(i:Nat)(ρ:Ro):Ro:=match ρ[i]? with
 |some (some (d,_))=>ρ.set i (some (d,0))
 |_=>ρ
def frzAt:List Nat->Ro->Ro
 |[],ρ=>ρ
 |i::r,ρ=>frzAt r (frz1 i ρ)
def sNil:SM:=fun ρ=>okR (.nx ρ)
def sSeq(a b:SM):SM:=fun ρ=>zA4 (a ρ) fun o=>match o with
 |.nx ρ'=>b ρ'
 |o=>okR o
noncomputable def zXP:SM:=fun _=>none
def zXR:SM:=fun ρ=>okR (.bk ρ)
def zaA:SM:=fun ρ=>okR (.ct ρ)
def sIf(c:TM)(a b:SM):SM:=fun ρ=>zA4 (c (full ρ)) fun k=>if k=true then a ρ else b ρ
def sDrop(e:EM):SM:=fun ρ=>zA4 (e (full ρ)) fun _=>okR (.nx ρ)
def sSet(i n:Nat)(vs:List Nat)(e:EM):SM:=fun ρ=>zA4 (e (full ρ)) fun d=>
 if d.dep<=n then okR (.nx (ρ.set i (some (d,n))))else zA4 (e (frz (frzAt vs ρ))) fun d'=>okR (.nx ((frzAt vs ρ).set i (some (d',n))))
def sUnp(is:List Nat)(vs:List Nat)(e:EM):SM:=fun ρ=>zA4 (e (frz (frzAt vs ρ))) fun d=>match zAS (.tup is) d with
 |none=>none
 |some bs=>okR (.nx (zAV (frzAt vs ρ) bs))
def sRet(L n:Nat)(vs:List Nat)(e:EM):SM:=fun ρ=>zA4 (e (full ρ)) fun d=>
 if d.dep<=n/\d.dep<=L then okR (.rt d)else if n=L then zA4 (e (frz (frzAt vs ρ))) fun d'=>okR (.rt d')else none
def za9:SM:=fun _=>okR (.rt .non)
def sRetV(L i:Nat):SM:=fun ρ=>match ρ[i]? with
 |some (some (d,k))=>if k=L\/L=0\/(d.dep<=k/\d.dep<=L/\k<1000)then okR (.rt d)else none
 |_=>none
def sApp(i n:Nat)(e:EM):SM:=fun ρ=>match ρ[i]? with
 |some (some (.lst ds,k+1))=>zA4 (e (full ρ)) fun d=>@ite _ (ds.length<=100000/\d.dep<=n/\d.dep<=k) (qA3 _) (okR (.nx (ρ.set i (some (.lst (ds++[d]),k+1))))) none
 |_=>none
def sPop(j i:Nat)(e:EM):SM:=fun ρ=>match ρ[i]? with
 |some (some (.lst ds,k+1))=>zA4 (e (full ρ)) fun d=>match d with
  |.int z=>match ixA ds.length z with
   |some q=>match ds[q]? with
    |some c=>@ite _ (i≠j/\ds.length<=1000000) (qA3 _) (okR (.nx ((ρ.set i (some (.lst (ds.eraseIdx q),k+1))).set j (some (c,k))))) none
    |none=>none
   |none=>none
  |_=>none
 |_=>none
def sAppPop(j i:Nat)(e:EM):SM:=fun ρ=>match ρ[j]?,ρ[i]? with
 |some (some (.lst es,l+1)),some (some (.lst ds,k+1))=>zA4 (e (full ρ)) fun d=>match d with
  |.int z=>match ixA ds.length z with
   |some q=>match ds[q]? with
    |some c=>@ite _ (i≠j/\ds.length<=1000000/\es.length<=100000/\(k=l\/(c.dep<=k/\c.dep<=l/\k<1000))) (qA3 _) (okR (.nx ((ρ.set i (some (.lst (ds.eraseIdx q),k+1))).set j (some (.lst (es++[c]),l+1))))) none
    |none=>none
   |none=>none
  |_=>none
 |_,_=>none
def sItem(i n:Nat)(e1 e2:EM):SM:=fun ρ=>zA4 (e2 (full ρ)) fun d=>match ρ[i]? with
 |some (some (.lst ds,k+1))=>zA4 (e1 (full ρ)) fun z=>match z with
  |.int z=>match ixA ds.length z with
   |some q=>if d.dep<=n/\d.dep<=k then okR (.nx (ρ.set i (some (.lst (ds.set q d),k+1))))else none
   |none=>none
  |_=>none
 |_=>none
def forGo(tg:Tg)(b:SM):List Dt->SM
 |[],ρ=>okR (.nx ρ)
 |d::ds,ρ=>match zAS tg d with
  |none=>none
  |some bs=>zA4 (b (zAV ρ bs)) fun o=>match o with
   |.nx ρ'=>forGo tg b ds ρ'
   |.ct ρ'=>forGo tg b ds ρ'
   |.bk ρ'=>okR (.nx ρ')
   |.rt d=>okR (.rt d)
def sFor(vs:List Nat)(it:IM)(tg:Tg)(b:SM):SM:=fun ρ=>zA4 (it (frz (frzAt vs ρ))) fun ds=>forGo tg b ds (frzAt vs ρ)
def sForR(it:IM)(i:Nat)(b:SM):SM:=fun ρ=>zA4 (it (full ρ)) fun ds=>forGo (.one i) b ds ρ
def whGo(c:TM)(b:SM):Nat->SM
 |0,_=>none
 |m+1,ρ=>zA4 (c (full ρ)) fun k=>if k=true then zA4 (b ρ) fun o=>match o with
   |.nx ρ'=>whGo c b m ρ'
   |.ct ρ'=>whGo c b m ρ'
   |.bk ρ'=>okR (.nx ρ')
   |.rt d=>okR (.rt d)
  else okR (.nx ρ)
noncomputable def WNs:{ n:Nat // n=1000000 }:=Classical.choice ⟨⟨1000000,rfl⟩⟩
noncomputable def WN:Nat:=WNs.val
theorem zZO:WN=1000000:=WNs.property
def sWhile(c:TM)(b:SM):SM:=fun ρ=>whGo c b WN ρ
noncomputable def startO(n:Nat)(ds:List Dt):Ro:=ds.map (fun d=>some (d,0))++qA5 (n-ds.length) none
def endF:Out->R Dt
 |.nx _=>okR .non
 |.rt d=>okR d
 |_=>none
def runF(P n:Nat)(b:SM):FM:=fun ds=>if ds.length=P then zA4 (b (startO n ds)) endF else none
end
end Mi
namespace L2
open PySem PySem.Spec PyProof.Rows
section
variable{X:Cx}
end
noncomputable def Its(z:Str):It:=⟨fun i _=>i<z.cps.size,fun i H x H'=>H'=H/\∃c,z.cps[i]?=some c/\x=.str ⟨#[c]⟩,fun i _=>z.cps.size<=i⟩
theorem zRY{P:qH9}{w:World}{K:qA1}{tg:Expr}(z:Str)(t:Tok)(it:Addr)(ty:String)(hty:ty=qI6 z):Turn P w K tg (Its z) [it] it (fun i h=>h.IsStrIter it ty z t i) where
 mem:=by simp
 obj:=fun i h st b hb=>by
  have e:b=it:=by simpa using hb
  subst e;obtain⟨o,e,c,d⟩:=st;exact⟨o,e,fun v z=>by rw[d]at z;cases z⟩
 keep:=fun i h h' st k=>by obtain⟨o,ho,r⟩:=st;exact⟨o,k it (by simp) o ho,r⟩
 item:=by
  intro X hP hw hK hc i pins s σ H E I hf st hg;subst hP hw hK;have hi:i<z.cps.size:=hg;have hx:z.cps[i]?=some z.cps[i]:=qDm hi;obtain⟨f0,f1,f2,f3,f4,f5⟩:=hf it (by simp);have fin:∀h',h'.IsStrIter it ty z t (i+1)->qIy it s.heap h'->∃u,some (qIq ⟨#[z.cps[i]]⟩ s.toks)=some u/\wpAny (model X.prog X.w) X.A (letOwnedTupleGo tg (.ref it) u) (fun _ s2=>∃x H',Inv X pins σ H' s2/\RelV x u/\(Its z).yld i H x H'/\s2.heap.IsStrIter it ty z t (i+1)/\∀b∈[it],H' b=none) E { s with heap:=h',toks:=s.toks+1 }:=by
   intro h' st' sb;have I1:Inv X pins σ H { s with heap:=h',toks:=s.toks+1 }:=I.turned (t':=s.toks+1) (fun b o hb e=>(sb.2 b hb).trans e) f0 f1 f3 f4 f5;obtain⟨o,e,c,d⟩:=id st';refine⟨_,rfl,zSY (s:={ s with heap:=h',toks:=s.toks+1 }) e c d ?_ ⟨.str ⟨#[z.cps[i]]⟩,H,I1,⟨_,rfl⟩,⟨rfl,_,hx,rfl⟩,st',fun b hb=>(hf b hb).1⟩⟩;rw[hty];unfold qI6;split<;>decide
  cases ha:z.cps.all (· < 128)
  ·have e:ty = "str_iterator":=by rw[hty];unfold qI6;rw[ha];rfl
   subst e;exact wpAny_pyNext_wide_item st hx fun h' a b=>fin h' a b
  ·have e:ty = "str_ascii_iterator":=by rw[hty];unfold qI6;rw[ha];rfl
   subst e;exact wpAny_pyNext_ascii_item st hx fun h' a b=>fin h' a b
 done:=by
  intro X hP hw hK hc i pins s σ H E I hf st hg;subst hP hw hK;have hx:z.cps[i]?=none:=Array.getElem?_eq_none hg;obtain⟨f0,f1,f2,f3,f4,f5⟩:=hf it (by simp);have fin:∀h',Heap.ExtBut it s.heap h'->(none:Option Value)=none/\Inv X pins σ H { s with heap:=h' }:=fun h' eb=>⟨rfl,I.turned (t':=s.toks) (fun b o hb e=>eb b o hb e) f0 f1 f3 f4 f5⟩
  cases ha:z.cps.all (· < 128)
  ·have e:ty = "str_iterator":=by rw[hty];unfold qI6;rw[ha];rfl
   subst e;exact wpAny_pyNext_wide_end (I.ok.hd hc) st hx fun h' a=>fin h' a
  ·have e:ty = "str_ascii_iterator":=by rw[hty];unfold qI6;rw[ha];rfl
   subst e;exact wpAny_pyNext_ascii_end (I.ok.hd hc) st hx fun h' a=>fin h' a
 self:=fun A i s Q E st h=>by
  cases ha:z.cps.all (· < 128)
  ·have e:ty = "str_iterator":=by rw[hty];unfold qI6;rw[ha];rfl
   subst e;exact wpAny_pyIter_striter_wide st h
  ·have e:ty = "str_ascii_iterator":=by rw[hty];unfold qI6;rw[ha];rfl
   subst e;exact wpAny_pyIter_striter_ascii st h
section
variable{X:Cx}
def iAny(K:qA1)(tl:TE):TI:=fun σ H R=>tl σ H fun x H1=>match x with
 |.ref a=>(∃xs,SqL K H1 a xs)/\R (Itl K a) H1\/(∃xs,SqT K H1 a xs)/\R (Itt K a) H1
 |.str z=>R (Its z) H1
 |_=>False
theorem zET{K:qA1}{tg l:Expr}{tl:TE}(hl:PE X l tl)(hK:X.K=K:=by rfl):PI X tg l (iAny K tl):=by
 subst hK;intro pins s σ H R I h;refine thn (hl pins s σ H _ I h) fun v s1 z0=>?_
 obtain⟨x,H1,I1,r1,q1⟩:=z0;cases x with
 |ref a=>
  cases r1
  rcases q1 with⟨⟨xs,hq⟩,q⟩|⟨⟨xs,hq⟩,q⟩
  ·obtain⟨its,rv,p,hz⟩:=I1.list hq;refine wpAny_pyIter_list p.isList ?_;refine⟨s1.heap.objs.size,[s1.heap.objs.size],_,_,H1,rfl,I1.kept (t':=s1.toks) fun b o e=>qH7 _ e,zP2 a _,⟨_,qHf _ rfl,rfl,rfl⟩,fun b hb=>?_,q⟩;have e:b=s1.heap.objs.size:=by simpa using hb
   subst e;exact I1.fpOk (qA6 _) (I1.hok.fresh (qA6 _))
  ·obtain⟨its,rv,p,hz⟩:=I1.tuple hq;refine wpAny_pyIter_tuple (show s1.heap.IsTuple a its.toArray from p) ?_;refine⟨s1.heap.objs.size,[s1.heap.objs.size],_,_,H1,rfl,I1.kept (t':=s1.toks) fun b o e=>qH7 _ e,zNW a _,⟨_,qHf _ rfl,rfl,rfl⟩,fun b hb=>?_,q⟩;have e:b=s1.heap.objs.size:=by simpa using hb
   subst e;exact I1.fpOk (qA6 _) (I1.hok.fresh (qA6 _))
 |str z=>
  obtain⟨t,rfl⟩:=r1;refine wpAny_pyIter_strU ?_;refine⟨s1.heap.objs.size,[s1.heap.objs.size],_,_,H1,rfl,I1.kept (t':=s1.toks) fun b o e=>qH7 _ e,zRY z t _ _ rfl,⟨_,qHf _ rfl,rfl,rfl⟩,fun b hb=>?_,q1⟩;have e:b=s1.heap.objs.size:=by simpa using hb
  subst e;exact I1.fpOk (qA6 _) (I1.hok.fresh (qA6 _))
 |_=>exact qA8 q1
theorem zK3:∀{ys:List Str}{us:List Value},Vals (ys.map V.str) us->StrsAre us ys
 |[],_,.nil=>.nil
 |y::ys,_,.cons r t=>by obtain⟨k,rfl⟩:=r;exact .cons y k (zK3 t)
end
def XO(e:Addr)(C:Value)(d:Option Addr)(h:Heap):Prop:=∃oe vs,h.get? e=some oe/\oe.cls=C/\oe.dict=d/\oe.data=.fields vs/\1<vs.size
abbrev xo(e:Addr)(C:Value)(d:Option Addr):HO:=.ext (XO e C d)
def Fl(n:Nat)(e:Addr)(C:Value)(d:Option Addr)(mk:Value)(H:Hp)(h:Heap):Prop:=
 ∃oe vs T oT ts,h.get? e=some oe/\oe.cls=C/\oe.dict=d/\oe.data=.fields vs/\vs[1]?=some (.ref T)/\n<=T/\T≠e/\H T=none/\h.get? T=some oT/\oT.data=.fields ts/\ts[3]?=some mk
def Fly(n:Nat)(e:Addr)(C:Value)(d:Option Addr)(H:Hp)(h:Heap):Prop:=
 H e=some (xo e C d)/\((∃oe vs,h.get? e=some oe/\oe.cls=C/\oe.dict=d/\oe.data=.fields vs/\vs[1]?=some .none)\/Fl n e C d .none H h)
def Held(n:Nat)(e:Addr)(C:Value)(d:Option Addr)(L:Addr)(H:Hp)(h:Heap):Prop:=H e=some (xo e C d)/\Fl n e C d (rawInt L) H h
theorem Fly.mono{n n':Nat}{e:Addr}{C:Value}{d:Option Addr}{H:Hp}{h:Heap}(x:Fly n e C d H h)(hn:n'<=n):Fly n' e C d H h:=by
 obtain⟨a,b|⟨oe,vs,T,oT,ts,h1,h2,h3,h4,h5,h6,h7⟩⟩:=x
 ·exact⟨a,.inl b⟩
 ·exact⟨a,.inr ⟨oe,vs,T,oT,ts,h1,h2,h3,h4,h5,qAl hn h6,h7⟩⟩
structure Nt(n:Nat)(fs ch:List Addr)(e:Addr)(H:Hp)(h h':Heap):Prop where
 keep:∀b o,h.get? b=some o->b≠e->b∉fs->b∉ch->h'.get? b=some o
 slot:∀b o,h.get? b=some o->b≠e->b∉ch->∃sl,h'.get? b=some { o with slots:=sl }
 there:∀b o,h.get? b=some o->∃o',h'.get? b=some o'
 old:∀b∈ch,n<=b/\H b=none/\∃o vs,h.get? b=some o/\o.data=.fields vs
section
variable{M:Model}{A:qHb}{E:Value->qH6->Prop}{s:qH6}{n:Nat}{e L:Addr}{C:Value}{d:Option Addr}{H:Hp}{base:Heap}{env:Env}{outer:List Env}
theorem zUG{oe:Obj}{vs:Array Value}{head:Value}{hadNext:Bool}{Q:Unit->qH6->Prop}
  (hfr:A.frames=some (env::outer)) (hl:s.heap.FunFrames base (env::outer)) (hf:env.frame=some L)
  (he:s.heap.get? e=some oe) (hc:oe.cls=C) (hdi:oe.dict=d) (hd:oe.data=.fields vs) (hsz:1<vs.size) (hn:n<=s.heap.objs.size) (hH:∀b,s.heap.objs.size<=b->H b=none)
  (h:∀h',(∀b o,s.heap.get? b=some o->b≠e->b∉frs (env::outer)->h'.get? b=some o)->(∀b o,s.heap.get? b=some o->b≠e->∃sl,h'.get? b=some { o with slots:=sl }) ->
   (∃o',h'.get? e=some o')->Fl n e C d (rawInt L) H h'->Q () { s with heap:=h' }) :
  wpAny M A (do let a <- frameOf env;let pl <- entryPlaceOf L hadNext;let b <- qK6 head a .none (rawInt L) .none pl;setField (.ref e) 1 b) Q E s:=by
 have hene:e∉(env::outer).filterMap (·.frame):=fun hm=>by
  obtain⟨_,o,ho,hnf⟩:=hl.mem hm;rw[he]at ho;injection ho with ho;subst ho;exact hnf vs hd
 refine wpAny_bind (wpAny_frameOf_fun hfr hl hf fun h₁ hs₁=>?_);refine wpAny_bind (wpAny_entryPlaceOf fun pl hpl=>?_);unfold qK6 newFields;refine wpAny_bind (wpAny_newObj_type ?_ (hpl.sizeOk5 _ _ _ _ _));have he₁:h₁.get? e=some oe:=(hs₁.2.1 e hene).trans he;have he₂:=qH7 (h:=h₁) { cls:=.type "traceback",dict:=none,data:=.fields ([head,.ref L,.none,rawInt L,.none]++(if pl.isEmpty then qA5 6 qHj else pl)).toArray } he₁;have hTe:h₁.objs.size≠e:=qCp (qH8 he₁);have hd₃:=qIb hd (·.setIfInBounds 1 (qHa h₁.objs.size));have he₃:=qHk (qHm (·.setIfInBounds 1 (qHa h₁.objs.size))) he₂ (qIh hd₃);have hT₃:=(qHi (h₁.push { cls:=.type "traceback",dict:=none,data:=.fields ([head,.ref L,.none,rawInt L,.none]++(if pl.isEmpty then qA5 6 qHj else pl)).toArray })
  (qHm (·.setIfInBounds 1 (qHa h₁.objs.size))) (qC1 hTe)).trans (qHf h₁ rfl)
 have keep:∀b o,b≠e->h₁.get? b=some o ->
   ((h₁.push { cls:=.type "traceback",dict:=none,data:=.fields ([head,.ref L,.none,rawInt L,.none]++(if pl.isEmpty then qA5 6 qHj else pl)).toArray }).update e (qHm (·.setIfInBounds 1 (qHa h₁.objs.size)))).get? b=some o:=
  fun b o hbe hb=>by
   rw[qHi _ _ (qC1 hbe)];exact qH7 _ hb
 have hsz1:h₁.objs.size=s.heap.objs.size:=hs₁.1;refine wpAny_setField he₂ hd hsz (h _ (fun b o hb hbe hbf=>keep b o hbe ((hs₁.2.1 b hbf).trans hb)) (fun b o hb hbe=>?_) ⟨_,he₃⟩ ?_)
 ·obtain⟨sl,e1⟩:=hs₁.2.2 b o hb;exact⟨sl,keep b _ hbe e1⟩
 ·have hdo:∀(o:Obj) f,(qHm f o).dict=o.dict:=fun o f=>by unfold qHm;split<;>rfl
  exact⟨_,_,h₁.objs.size,_,_,he₃,(Obj.cls_mapFields _ _).trans hc,(hdo _ _).trans hdi,hd₃,by simp[hsz],by rw[hsz1];exact hn,hTe,hH _ (by rw[hsz1];exact qA6 _),hT₃,rfl,
   by first|(simp;done)|(rcases hpl with rfl|⟨_,_,_,_,_,_,_,rfl⟩<;>simp)⟩
theorem zVZ{Q:Unit->qH6->Prop}(hfr:A.frames=some (env::outer))(hl:s.heap.FunFrames base (env::outer))(hf:env.frame=some L)(x:Fly n e C d H s.heap)(hn:n<=s.heap.objs.size)(hH:∀b,s.heap.objs.size<=b->H b=none)
  (h:∀h' ch,Nt n (frs (env::outer)) ch e H s.heap h'->Held n e C d L H h'->Q () { s with heap:=h' }):wpAny M A (noteFrame (.ref e) env) Q E s:=by
 obtain⟨hx,⟨oe,vs,he,hc,hdi,hd,h1⟩|⟨oe,vs,T,oT,ts,he,hc,hdi,hd,h1,hnT,hTe,hHT,hT,hdT,h3⟩⟩:=x
 ·unfold noteFrame;simp only[hf];refine wpAny_bind (wpAny_field he hd h1 ?_);rw[if_neg (by decide)];refine zUG hfr hl hf he hc hdi hd (qBm.mp h1).1 hn hH fun h' k1 k2 k3 k4=>?_
  refine h h' [] ⟨fun b o hb hbe hbf _=>k1 b o hb hbe hbf,fun b o hb hbe _=>k2 b o hb hbe,fun b o hb=>?_,fun b hb=>nomatch hb⟩ ⟨hx,k4⟩
  by_cases z:b=e
  ·rw[z];exact k3
  ·obtain⟨sl,q⟩:=k2 b o hb z;exact⟨_,q⟩
 ·unfold noteFrame;simp only[hf];refine wpAny_bind (wpAny_field he hd h1 ?_);rw[if_pos (show(qHa T != qHj)=true from by simp)];refine wpAny_bind (wpAny_field hT hdT h3 ?_);rw[if_neg (show ¬((qHj==rawInt L)=true) from by simp[rawInt])];refine wpAny_bind (wpAny_setField hT hdT (qBm.mp h3).1 ?_);have other:∀b,b≠T->(s.heap.update T (qHm (·.setIfInBounds 3 qHj))).get? b=s.heap.get? b:=fun b hb=>qHi _ _ (qC1 hb)
  have noRecord:∀b o,s.heap.get? b=some o->(∀vs,o.data≠.fields vs)->b≠T:=fun b o hb hnf q=>by
   rw[q,hT]at hb;injection hb with hb;subst hb;exact hnf ts hdT
  have hl1:=hl.of_keeps (h':=s.heap.update T (qHm (·.setIfInBounds 3 qHj))) fun b o hb hnf=>⟨o,(other b (noRecord b o hb hnf)).trans hb,rfl⟩
  have hself:=qHk (qHm (·.setIfInBounds 3 qHj)) hT (qIh (qIb hdT _));have hsz:(s.heap.update T (qHm (·.setIfInBounds 3 qHj))).objs.size=s.heap.objs.size:=by simp
  refine zUG (s:={ s with heap:=s.heap.update T (qHm (·.setIfInBounds 3 qHj)) }) hfr hl1 hf ((other e (qC1 hTe)).trans he) hc hdi hd (qBm.mp h1).1 (by rw[hsz];exact hn) (by rw[hsz];exact hH) fun h' k1 k2 k3 k4=>?_
  have nT:∀b,b∉[T]->b≠T:=fun b hb z=>hb (by simp[z])
  refine h h' [T] ⟨fun b o hb hbe hbf hc=>k1 b o ((other b (nT b hc)).trans hb) hbe hbf,fun b o hb hbe hc=>k2 b o ((other b (nT b hc)).trans hb) hbe,fun b o hb=>?_,fun b hb=>?_⟩ ⟨hx,k4⟩
  ·by_cases z:b=e
   ·rw[z];exact k3
   ·by_cases z':b=T
    ·rw[z'];obtain⟨sl,q⟩:=k2 T _ hself hTe;exact⟨_,q⟩
    ·obtain⟨sl,q⟩:=k2 b o ((other b z').trans hb) z;exact⟨_,q⟩
  ·obtain rfl:b=T:=by simpa using hb
   exact⟨hnT,hHT,oT,ts,hT,hdT⟩
theorem zW3{Q:Unit->qH6->Prop}{fs:List Addr}{mk:Value}(x:Fl n e C d mk H s.heap)
  (h:∀h' ch,Nt n fs ch e H s.heap h'->Fl n e C d .none H h'->Q () { s with heap:=h' }):wpAny M A (setFlight (.ref e) none) Q E s:=by
 obtain⟨oe,vs,T,oT,ts,he,hc,hdi,hd,h1,hnT,hTe,hHT,hT,hdT,h3⟩:=x;have hsz3:3<ts.size:=(qBm.mp h3).1;have other:∀b,b≠T->(s.heap.update T (qHm (·.setIfInBounds 3 ((none:Option Addr).elim qHj fun f=>rawInt f)))).get? b=s.heap.get? b:=
  fun b hb=>qHi _ _ (qC1 hb)
 have hself:=qHk (qHm (·.setIfInBounds 3 ((none:Option Addr).elim qHj fun f=>rawInt f))) hT (qIh (qIb hdT _));have nT:∀b,b∉[T]->b≠T:=fun b hb z=>hb (by simp[z])
 unfold setFlight;refine wpAny_bind (wpAny_field he hd h1 ?_);rw[if_pos (show(qHa T != qHj)=true from by simp)];refine wpAny_setField hT hdT hsz3 (h _ [T] ⟨fun b o hb _ _ hc=>(other b (nT b hc)).trans hb,fun b o hb _ hc=>⟨o.slots,(other b (nT b hc)).trans hb⟩,fun b o hb=>?_,fun b hb=>?_⟩ ?_)
 ·by_cases z:b=T
  ·rw[z];exact⟨_,hself⟩
  ·exact⟨o,(other b z).trans hb⟩
 ·obtain rfl:b=T:=by simpa using hb
  exact⟨hnT,hHT,oT,ts,hT,hdT⟩
 ·exact⟨oe,vs,T,_,_,(other e (qC1 hTe)).trans he,hc,hdi,hd,h1,hnT,hTe,hHT,hself,qIb hdT _,by simp[hsz3]⟩
end
section
variable{X:Cx}{pins:List (Addr×Obj)}{σ:St}{H:Hp}{s:qH6}{n:Nat}{e:Addr}{C:Value}{d:Option Addr}{A:qHb}{E:Value->qH6->Prop}{fs ch:List Addr}{h h':Heap}
theorem Nt.hok{P:qH9}{w:World}(t:Nt n fs ch e H h h')(k:HOk P w H h)(he:H e=some (xo e C d))(hfs:∀b∈fs,H b=none)(f:XO e C d h'):HOk P w H h':=fun a o ha=>by
 by_cases z:a=e
 ·subst z;rw[he]at ha;cases ha;obtain⟨oe,vs,h1,r⟩:=id f;exact⟨f,⟨oe,h1⟩,(k a _ he).2.2⟩
 ·refine(k a o ha).stay (fun b u hb q=>?_) (fun _ q=>q) (fun _ _ q=>q) fun _ _ _ q _=>q
  have hb':H b≠none:=by
   rcases hb with rfl|hb
   ·rw[ha];exact fun z=>by cases z
   ·rw[hb];exact fun z=>by cases z
  have hbe:b≠e:=by
   rcases hb with rfl|hb
   ·exact z
   ·intro y;rw[y,he]at hb;cases hb
  exact t.keep b u q hbe (fun y=>hb' (hfs b y)) fun y=>hb' (t.old b y).2.1
theorem Fl.xo{mk:Value}(f:Fl n e C d mk H h):XO e C d h:=by
 obtain⟨oe,vs,T,oT,ts,h1,h2,h3,h4,h5,_⟩:=f;exact⟨oe,vs,h1,h2,h3,h4,(qBm.mp h5).1⟩
theorem Nt.un(t:Nt n fs ch e H h h')(he:H e=some (xo e C d)):Un fs ch H H h h':=
 ⟨fun b o q hn hf hc=>t.keep b o q (fun z=>by rw[z,he]at hn;cases hn) hf hc,fun b o q hn _ hc=>t.slot b o q (fun z=>by rw[z,he]at hn;cases hn) hc,fun _ _ _ hn _=>hn,fun b o q _=>t.there b o q,fun _ _ q=>q,fun _ _ _ q=>q,fun b ps q=>⟨#[],by simpa using q⟩⟩
theorem Inv.noted(I:Inv X pins σ H s)(t:Nt n (frs X.stack) ch e H s.heap h')(he:H e=some (xo e C d))(f:XO e C d h')(hn:X.s₀.heap.objs.size<=n)(hp:∀p∈X.pn++pins,p.1<n):Inv X pins σ H { s with heap:=h' }:=by
 refine I.call' rfl (t.un he) (t.hok I.hok he I.stkFree f) I.bare fun b hb=>?_
 obtain⟨h1,h2,o,vs,h3,h4⟩:=t.old b hb;refine⟨.inr (qAl hn h1),?_,?_,fun p hp' z=>?_⟩
 ·intro z;obtain⟨m,⟨o',es,ep,ho',hd',_⟩,_⟩:=I.loc;rw[z,ho']at h3;cases h3;rw[hd']at h4;cases h4
 ·intro x c hx z;obtain⟨v,o',ho',hd'⟩:=I.cell x c hx;rw[<- z,ho']at h3;cases h3;rw[hd']at h4;cases h4
 ·have:=hp p hp'
  rw[z]at this;exact absurd h1 (Nat.not_le_of_lt this)
theorem zN9{Q:Unit->qH6->Prop}{M:Model}(I:Inv X pins σ H s)(hA:A.frames=some X.stack)(hs:X.stack=X.env::X.outer/\X.env.frame=some X.env.locals)(x:Fly n e C d H s.heap)(hn:X.s₀.heap.objs.size<=n)(hn':n<=s.heap.objs.size)
  (hp:∀p∈X.pn++pins,p.1<n) (h:∀s',Inv X pins σ H s'->Held n e C d X.env.locals H s'.heap->Q () s'):wpAny M A (noteFrame (.ref e) X.env) Q E s:=by
 have hst:=I.stack;rw[hs.1]at hA hst;refine zVZ hA hst hs.2 x hn' (fun b hb=>I.hok.fresh hb) fun h' ch t y=>h _ (I.noted (ch:=ch) (by rw[hs.1];exact t) x.1 y.2.xo hn hp) y
theorem zJ8{Q:Unit->qH6->Prop}{M:Model}{mk:Value}(I:Inv X pins σ H s)(hx:H e=some (xo e C d))(x:Fl n e C d mk H s.heap)(hn:X.s₀.heap.objs.size<=n)
  (hp:∀p∈X.pn++pins,p.1<n) (h:∀s',Inv X pins σ H s'->Fl n e C d .none H s'.heap->Q () s'):wpAny M A (setFlight (.ref e) none) Q E s:=
 zW3 (fs:=frs X.stack) x fun h' ch t y=>h _ (I.noted t hx y.xo hn hp) y
theorem zQ9{Q:Unit->qH6->Prop}{M:Model}(I:Inv X pins σ H s)(hA:A.frames=some X.stack)(hs:X.stack=X.env::X.outer/\X.env.frame=some X.env.locals)(x:Fly n e C d H s.heap)(hn:X.s₀.heap.objs.size<=n)(hn':n<=s.heap.objs.size)
  (hp:∀p∈X.pn++pins,p.1<n) (h:∀s',Inv X pins σ H s'->Fly n e C d H s'.heap->Q () s'):wpAny M A (leaving X.env (.ref e)) Q E s:=by
 unfold leaving;exact wpAny_bind (zN9 I hA hs x hn hn' hp fun s1 I1 y=>zJ8 I1 y.1 y.2 hn hp fun s2 I2 z=>h s2 I2 ⟨y.1,.inr z⟩)
end
def CXe(P:qH9)(w:World):CXT:=fun outer H s E x s'=>∃e C d H',x=.ref e/\s'.os=s.os/\qJa s'.gens/\Un (frs outer) [] H H' s.heap s'.heap/\HOk P w H' s'.heap/\Fly s.heap.objs.size e C d H' s'.heap/\s.heap.objs.size<=s'.heap.objs.size/\E x d H'
section
variable{X:Cx}{pins:List (Addr×Obj)}{σ:St}{H:Hp}{s s':qH6}{E E':XK}
theorem Inv.pinlt(I:Inv X pins σ H s):∀p∈X.pn++pins,p.1<s.heap.objs.size:=fun p hp=>qH8 (I.pin p hp).1
def XP(X:Cx)(pins:List (Addr×Obj))(σ:St)(E:XK)(x:Value)(s':qH6):Prop:=∃n e C d H',x=.ref e/\Inv X pins σ H' s'/\Fly n e C d H' s'.heap/\X.s₀.heap.objs.size<=n/\n<=s'.heap.objs.size/\(∀p∈X.pn++pins,p.1<n)/\E x d H'
theorem Inv.flown{x:Value}(I:Inv X pins σ H s)(h:CXe X.prog X.w X.stack H s E x s'):XP X pins σ E x s':=by
 obtain⟨e,C,d,H',rfl,ho,hb,u,hk,f,hz,q⟩:=h;exact⟨_,e,C,d,H',rfl,I.call' ho u hk hb (fun b z=>absurd z (by simp)),f,I.sz,hz,I.pinlt,q⟩
end
section
variable{P:qH9}{w:World}{K:qA1}{mg:Str->Option Value}{base:Heap}{N:List Str}{qual:Str}{scope:Scope}{f:Addr}{cd:Value}{A:qHb}{outer:List Env}{s:qH6}{H:Hp}{E E':XK}
theorem zX0{pins:List (Addr×Obj)}{σ:St}{x:Value}{s':qH6}(hE:∀C d H',E' C d H'->E C d H')
  (h:XP (cxOf (CXe P w) P w K mg base N qual scope f cd A outer s H E) pins σ E' x s'):(cxOf (CXe P w) P w K mg base N qual scope f cd A outer s H E).xe x s':=by
 obtain⟨n,e,C,d,H',rfl,I,fl,hn,hz,hp,q⟩:=h;refine zQ9 I I.ok.frames ⟨rfl,rfl⟩ fl hn hz hp fun s2 I2 f2=>?_
 exact⟨e,C,d,H',rfl,I2.os,I2.bare,I2.base,I2.hok,f2.mono hn,I2.sz,hE _ _ _ q⟩
end
abbrev TEX:=St->Hp->VK->XK->Prop
abbrev TSX:=Ends->(St->XK)->St->Hp->Prop
def PEx(X:Cx)(e:Expr)(t:TEX):Prop:=∀(pins:List (Addr×Obj))(s:qH6)(σ:St)(H:Hp)(Q:VK)(E:XK),Inv X pins σ H s->t σ H Q E->wpAny (model X.prog X.w) X.A (eval e X.env) (EP X pins σ Q) (XP X pins σ E) s
def PSx(X:Cx)(st:Stmt)(t:TSX):Prop:=∀(pins:List (Addr×Obj))(s:qH6)(σ:St)(H:Hp)(D:Ends)(E:St->XK),Inv X pins σ H s->t D E σ H->wpAny (model X.prog X.w) X.A (exec st X.env) (SP X pins D) (fun x s'=>∃σ',XP X pins σ' (E σ') x s') s
def PSxs(X:Cx)(st:List Stmt)(t:TSX):Prop:=∀(pins:List (Addr×Obj))(s:qH6)(σ:St)(H:Hp)(D:Ends)(E:St->XK),Inv X pins σ H s->t D E σ H->wpAny (model X.prog X.w) X.A (execs st X.env) (SP X pins D) (fun x s'=>∃σ',XP X pins σ' (E σ') x s') s
section
variable{X:Cx}{k:Nat}{f:Addr}{fd:qHo}{ps:List Str}{sp:Sp}{dvs:List V}{ds:List Value}{x:Str}{p pos:Pos}{e:Expr}{es:List Expr}{t:TA}{te:TE}{tx:TEX}{st:Stmt}{rest:List Stmt}{u u':TSX}
theorem zVB{pins:List (Addr×Obj)}{σ:St}{H:Hp}{s:qH6}{Q:VK}{E:XK}{us:List Value}{vs:List V}(F:FnOk X.prog X.w X.K X.mg X.base (CXe X.prog X.w) k f fd ps sp)(hr:Room k X.A)(hb:Binds X.K fd ps ds)(hd:Vals dvs ds)
  (I:Inv X pins σ H s) (r:Vals vs us) (h:sp (vs++dvs) H Q E):wpAny (model X.prog X.w) X.A (call (.ref f) us) (EP X pins σ Q) (XP X pins σ E) s:=by
 have r2:Vals (vs++dvs) (us++ds):=r.append hd;have hl:(us++ds).length=ps.length:=by rw[<- r2.length];exact F.len _ _ _ _ h
 refine wpAny_call (codeAny_mono (F.run X.A X.stack s H ⟨us,[]⟩ (us++ds) (vs++dvs) Q E hr I.env0 (hb s us I.kIn hl) r2 h) fun r s' hq=>?_);cases r with
 |error e=>exact I.flown hq
 |ok fl=>
  cases fl with
  |ret u=>exact I.after hq
  |next=>exact qA8 hq
  |brk=>exact qA8 hq
  |cont=>exact qA8 hq
theorem PA.nox{es:List Expr}{t:TA}{E:Value->qH6->Prop}{M:Model}(h:PA X.nox es t)(pos:Pos){pins:List (Addr×Obj)}{s:qH6}{σ:St}{H:Hp}{Q:List V->Hp->Prop}(I:Inv X pins σ H s)(q:t σ H Q) :
  wpAny (model X.prog X.w) X.A (spliced (backTo pos (starEach es X.env))) (AP X pins σ Q) E s:=
 wpAny_mono (h pos pins s σ H Q (I.wish _) q) (fun _ _ ⟨vs,H',I',r,q⟩=>⟨vs,H',I'.unwish,r,q⟩) fun _ _ z=>qA8 z
theorem zSC(F:FnOk X.prog X.w X.K X.mg X.base (CXe X.prog X.w) k f fd ps sp)(hr:Room k X.A)(hg:Gl X x)(hm:X.mg x=some (.ref f))(hk:qAv X.K (.ref f)=true)(hb:Binds X.K fd ps ds)(hd:Vals dvs ds)
  (ha:PA X.nox (e::es) t) (hdb:(x==("__debug__":Str))=false:=by decide) (he:starEach (e::es) X.env=(false,eval e X.env)::starEach es X.env:=by rfl) (hpl:(backTo pos (starEach es X.env)).any (·.1)=false:=by rfl) :
  PEx X (.Call (.Name x p) (e::es) [] pos) (fun σ H Q E=>zF3 sp dvs E t σ H Q):=by
 intro pins s σ H Q E I h;refine qHp (zDQ I hg hm ?_ hdb);refine qC8 (h₀:=X.base) I.ok.mod.kin hk (thn (PA.nox (M:=model X.prog X.w) ha pos I h) fun us s1 ⟨vs,H1,I1,r,q⟩=>⟨I1.kIn,?_⟩) he hpl;exact zVB F hr hb hd I1 r q
theorem zLU{i:Nat}{x:Str}{pos':Pos}(hN:X.N.Nodup)(hi:X.N[i]?=some x)(hx:Loc X.env.scope x)(he:PEx X e tx)(hs:swapsWithSole [.Name x pos'] e pos.line X.env=pure false:=by rfl)(hw:swappedStores [.Name x pos'] e X.env=pure none:=by rfl)
  (h1:(assignEach [.Name x pos'] X.env).map (·.2)=[assign (.Name x pos') X.env]:=by rfl) (hf:X.fn x=true\/X.env.scope.names.lookup x=some .local:=by first|exact .inl rfl|exact .inr rfl|assumption) :
  PSx X (.Assign [.Name x pos'] e pos) (fun D E σ H=>tx σ H (fun v H1=>D.nx (σ.set i (some v)) H1) (E σ)):=by
 intro pins s σ H D E I h;refine qK4 (wpAny_mono (he pins s σ H _ _ I h) (fun v s1 z0=>?_) fun x s1 q=>⟨σ,q⟩) hs hw;obtain⟨y,H1,I1,r1,q1⟩:=z0;rw[h1];exact qJ5 (zGQ I1 hN hi hx r1 (fun s' I'=>⟨_,H1,I',q1⟩) hf)
theorem zFO(h1:PSx X st u):PSxs X [st] u:=by
 intro pins s σ H D E I h;refine qJf (thn (h1 pins s σ H D E I h) fun f s1 q=>?_);cases f with
 |next=>exact qHz q
 |ret v=>exact q
 |brk=>exact q
 |cont=>exact q
abbrev Cx.hd(X:Cx)(e:Addr):Cx:={ X with A:=X.A.mark (some (.ref e)),calm:=false,xe:=fun _ _=>False }
theorem Cx.Ok.hd'{X:Cx}{e:Addr}(ok:X.Ok):(X.hd e).Ok:=
 ⟨ok.mod,ok.kind,ok.glob,ok.blt,ok.above,ok.inj,ok.has,ok.cab,fun z=>qFj z,ok.frames,ok.stk,ok.exf,ok.bs,ok.bsz,ok.noex,ok.exfs,ok.funs,ok.frf⟩
variable{pins:List (Addr×Obj)}{σ:St}{H:Hp}{s:qH6}{a:Addr}
theorem Inv.hd(I:Inv X pins σ H s)(a:Addr):Inv (X.hd a) pins σ H s:=⟨I.ok.hd',I.os,I.bare,I.base,I.loc,I.cell,I.free,I.freeC,I.pin,I.hok,I.len⟩
theorem Inv.unhd(ok:X.Ok)(I:Inv (X.hd a) pins σ H s):Inv X pins σ H s:=⟨ok,I.os,I.bare,I.base,I.loc,I.cell,I.free,I.freeC,I.pin,I.hok,I.len⟩
theorem Inv.gone{i:Nat}{x:Str}{h':Heap}{m:Str->Option Value}{v:Option Value}{t':Nat}(I:Inv X pins σ H s)(hN:X.N.Nodup)(hi:X.N[i]?=some x)(hk:X.env.scope.names.lookup x=some .local)
  (hm:∀(j:Nat)(y:Str)(w:V),X.N[j]?=some y->σ[j]?=some (some w)->Vis X.env.scope y->∃u,RelV w u/\Look X.env s.heap m y u) (hn:h'.Ns X.env.locals fun y=>if y=x then v else m y) (hs:qIy X.env.locals s.heap h'):Inv X pins (σ.set i none) H { s with heap:=h',toks:=t' }:=by
 have hiσ:i<σ.length:=by rw[I.len];exact(qA2.mp hi).1
 have cne:=I.cne;have oth:∀b,b≠X.env.locals->h'.get? b=s.heap.get? b:=fun b hb=>hs.2 b hb
 refine⟨I.ok,I.os,I.bare,⟨fun b o e n hb hx=>?_,fun b o e n hb hx=>?_,I.base.free,fun b o e hx=>?_,I.base.tups,I.base.frzs,I.base.tbls⟩,⟨_,hn,fun j y w e1 e2 e3=>?_⟩,fun y c e=>?_,I.free,I.freeC,fun p hp=>?_,fun b ob e=>?_,by simp[I.len]⟩
 ·exact(oth b (qAo (qAe (qH8 e) I.ok.above))).trans (I.base.keep b o e n hb hx)
 ·obtain⟨sl,e1⟩:=I.base.slot b o e n hb hx;exact⟨sl,(oth b (qAo (qAe (qH8 e) I.ok.above))).trans e1⟩
 ·obtain⟨o',e1⟩:=I.base.there b o e hx;exact⟨o',(oth b (qAo (qAe (qH8 e) I.ok.above))).trans e1⟩
 ·by_cases hj:j=i
  ·subst hj;rw[qA9 hiσ]at e2;cases e2
  ·rw[qAa (qC1 hj)]at e2;obtain⟨u',r',q⟩:=hm j y w e1 e2 e3;refine⟨u',r',?_⟩;have hy:y≠x:=fun e=>hj (zJ5 hN e1 (e▸hi))
   rcases q with⟨k,e⟩|⟨k,c,e,z⟩
   ·exact .inl ⟨k,by simp[hy,e]⟩
   ·exact .inr ⟨k,c,e,z.sameBut hs (cne y c e)⟩
 ·obtain⟨w',z⟩:=I.cell y c e;exact⟨w',z.sameBut hs (cne y c e)⟩
 ·obtain⟨e,n,ne,nf,d⟩:=I.pin p hp;exact⟨(oth p.1 ne).trans e,n,ne,nf,d⟩
 ·refine(I.hok b ob e).stay (fun c w' hc q=>(oth c ?_).trans q) (fun _ q=>q) (fun _ _ q=>q) fun _ _ _ q _=>q
  rintro rfl
  rcases hc with rfl|hc
  ·rw[I.free]at e;cases e
  ·rw[I.free]at hc;cases hc
theorem zJG{M:Model}{A:qHb}{E:Value->qH6->Prop}{Q:Unit->qH6->Prop}{i:Nat}{x:Str}{pos:Pos}(I:Inv X pins σ H s)(hN:X.N.Nodup)(hi:X.N[i]?=some x)(hk:X.env.scope.names.lookup x=some .local)
  (h:∀s',Inv X pins (σ.set i none) H s'->Q () s'):wpAny M A (do bindName X.env x .none;unbindBehindTheSuite X.env x pos) Q E s:=by
 obtain⟨m,hn,hl⟩:=id I.loc;refine wpAny_nameGoes_keeps hk hn (by rw[I.ok.kind];rfl) fun h' v hn' hs=>h _ (I.gone hN hi hk hl hn' hs)
noncomputable def zSX(i:Nat)(D:Ends):Ends:={ nx:=fun σ H=>D.nx (σ.set i none) H,rt:=D.rt,bk:=fun σ H=>D.bk (σ.set i none) H,ct:=fun σ H=>D.ct (σ.set i none) H }
def zTO(K:qA1)(c:Value)(i:Nat)(tb:TSX)(ts:TS):TS:=fun D σ H=>tb D (fun σ1 x d H1=>∃e C,x=.ref e/\H1 e=some (xo e C d)/\qCl K C c=some true/\ts (zSX i D) (σ1.set i (some (.ref e))) H1) σ H
theorem zS9{body:List Stmt}{tb:TSX}{ts:TS}{c:Value}{cn x:Str}{i:Nat}{b₀:Stmt}{suite:List Stmt}{cp hp':Pos}(hb:PSxs X body tb)(hst:X.stack=X.env::X.outer/\X.env.frame=some X.env.locals)
  (hc:X.mg cn=some c\/(X.mg cn=none/\qHy cn=some c/\cn≠"__name__")) (hg:Gl X cn) (hN:X.N.Nodup) (hi:X.N[i]?=some x) (hk:X.env.scope.names.lookup x=some .local) (hsu:∀e,PSs (X.hd e) (b₀::suite) ts) (hdb:(cn==("__debug__":Str))=false:=by decide) :
  PS X (.Try body [.ExceptHandler (some (.Name cn cp)) (some x) (b₀::suite) hp'] [] [] pos) (zTO X.K c i tb ts):=by
 intro pins s σ H D I h;refine wpAny_Try_except (wpAny_mono (hb pins s σ H _ _ I h) (fun f s1 q=>?_) fun y s1 z0=>?_)
 ·cases f with
  |next=>exact qHz q
  |ret v=>exact q
  |brk=>exact q
  |cont=>exact q
 ·obtain⟨σ1,n,e,C,d,H1,ey,I1,fl,hn,hn',hp,q0⟩:=z0;subst ey;obtain⟨e',C',ee,hC',hm,q⟩:=q0;cases ee;refine zN9 I1 I1.ok.frames hst fl hn hn' hp fun s2 I2 hh=>?_
  refine zJ8 I2 hh.1 hh.2 hn hp fun s3 I3 f3=>?_
  have I3h:=I3.hd e;have LT:qD7 (model X.prog X.w) s3.heap (typeOf (.ref e)) C':=by
   obtain⟨oe,vs,he,hcl,_⟩:=(I3.hok e _ hC').1;subst hcl;exact(qH5 he).andThen .now
  have ex:=PySem.W.exm_one (M:=model X.prog X.w) I3.kIn LT hm;have load:∀{Q:Value->qH6->Prop}{E:Value->qH6->Prop},Q c s3->wpAny (model X.prog X.w) (X.A.mark (some (.ref e))) (eval (.Name cn cp) X.env) Q E s3:=fun{Q E} hq=>by
   rcases hc with z|⟨z,z1,z2⟩
   ·exact zDQ (X:=X.hd e) I3h hg z hq hdb
   ·exact zKW (X:=X.hd e) I3h hg z z1 hq z2 hdb
  refine wpAny_handleBy_cons (codeAny_handlers_test (load (ex.here ?_))) (by intro z;cases z);refine codeAny_handlers_suite_as (zJ8 I3h hh.1 f3 hn hp fun s4 I4 f4=>?_);refine zGQ (X:=X.hd e) (v:=.ref e) I4 hN hi (.inl hk) rfl (fun s5 I5=>?_) (.inr hk);refine wpAny_mono (hsu e pins s5 _ H1 (zSX i D) I5 q) (fun f s6 q6=>?_) fun _ _ z=>qA8 z
  cases f with
  |next=>obtain⟨σ',H',I',q'⟩:=q6;exact zJG (I'.unhd I1.ok) hN hi hk fun s7 I7=>⟨_,H',I7,q'⟩
  |brk=>obtain⟨σ',H',I',q'⟩:=q6;exact zJG (I'.unhd I1.ok) hN hi hk fun s7 I7=>⟨_,H',I7,q'⟩
  |cont=>obtain⟨σ',H',I',q'⟩:=q6;exact zJG (I'.unhd I1.ok) hN hi hk fun s7 I7=>⟨_,H',I7,q'⟩
  |ret u=>obtain⟨v,σ',H',I',r,q'⟩:=q6;exact zJG (I'.unhd I1.ok) hN hi hk fun s7 I7=>⟨v,_,H',I7,r,q'⟩
end
end L2
namespace PySem.W
open PySem PySem.Calls PyProof.Rows Builtin Builtin.ObjectAttr
noncomputable def excTail:List Value->Bool
 |.ref _::r=>excTail r
 |[.type a,.type b,.type c,.type d]=>a == "ValueError" && b == "Exception" && c == "BaseException" && d == "object"
 |_=>false
theorem zM9{a b c d:String}(e:excTail [.type a,.type b,.type c,.type d]=true):a = "ValueError"/\b = "Exception"/\c = "BaseException"/\d = "object":=by
 simp only[excTail,qBi,beq_iff_eq]at e;exact⟨e.1.1.1,e.1.1.2,e.1.2,e.2⟩
theorem zCT:∀{l:List Value},excTail l=true->∃as:List Addr,l=as.map qHa++[.type "ValueError",.type "Exception",.type "BaseException",.type "object"]
 |.ref a::r,e=>by
  obtain⟨as,rfl⟩:=zCT (l:=r) e;exact⟨a::as,rfl⟩
 |[.type a,.type b,.type c,.type d],e=>by
  obtain⟨rfl,rfl,rfl,rfl⟩:=zM9 e;exact⟨[],rfl⟩
theorem zO4(self:Value){l:List Value}(e:excTail l=true):refuseLoop self "__setattr__" l=pure ():=by
 obtain⟨as,rfl⟩:=zCT e
 induction as with
 |nil=>exact PySem.F.store_ValueError.passes self
 |cons a r ih=>
  rw[qAn,qE3,refuseLoop_ref];exact ih (by simpa[excTail]using e)
theorem zWG{l:List Value}(e:excTail l=true):l.contains (.type "object")=true:=by
 obtain⟨as,rfl⟩:=zCT e;rw[List.contains_iff_exists_mem_beq];exact⟨.type "object",by simp,by simp⟩
def excOver(K:Frag)(C:Addr):Bool:=(clsIn K C).any fun cd=>excTail cd.mro
section
variable{prog:qH9}{w:World}{A:qHb}{s:qH6}{K:Frag}{x C:Addr}{R:qKh->qH6->Prop}
theorem zPX{ox:Obj}{od:Option Obj}{name:Str}{tk:Tok}{v:Value}{r:Option Value}(X:K.In s.heap)(I:InstAt s.heap x ox C od)(hp:excOver K C=true)(ht:takerIn K C name=some r)
  (h:∀b,wpAny (model prog w) A.in1 (match r with|some a=>setByDescriptor a (.ref x) v|none=>storeInOwnDict (.ref x) (.ref C) (.str name tk) name v b)
   (fun fin s'=>match fin with | .done f=>R (.ok f) s' | .again c'=>c'.quiet=true/\qIj (model prog w) A c' R s') (fun e s'=>R (.error e) s') s) :
  qIj (model prog w) A (.call (.builtin "object.__setattr__") ⟨[.ref x,.str name tk,v],[]⟩) R s:=by
 have SF:=PySem.F.store_object;obtain⟨cd,hc,ho⟩:=qKo hp;have ne:cd.mro.isEmpty=false:=by cases q:cd.mro with|nil=>rw[q]at ho;cases ho|cons _ _=>rfl
 have sub:Looks (model prog w) s.heap (isInstance (.ref x) (.type "object")) true:=I.type.andThen (looks_mroIn X (by unfold mroIn;rw[hc,qD4,if_neg (by rw[ne];decide),zWG ho]));refine codeAny_call_builtin SF.slot.plain SF.entry (@check_slot (model prog w) _ _ s "object.__setattr__" "object" "__setattr__" (.ref x) [.str name tk,v] [] _ SF.kind SF.split sub (SF.args (.ref x) (.str name tk) v) ?_);obtain⟨attr,ha,hr⟩:=Option.bind_eq_some_iff.mp ht;have hm:Looks (model prog w) s.heap (mroOf (.ref C)) cd.mro:=(looks_clsIn X hc).andThen .now;have L3:Looks (model prog w) s.heap (storeTaker? attr) r:=by
  cases attr with
  |none=>cases hr;exact .now
  |some a=>
   obtain⟨b,hb,rfl⟩:=qBu.mp hr;refine(looks_takesIn X hb).andThen ?_;cases b<;>exact .now
 rw[osa_eq,refuse_eq];refine wpAny_bind (wpAny_bind (I.type.here (wpAny_bind (hm.here ?_))));rw[zO4 _ ho];refine wpAny_pure (wpAny_bind (I.type.here (wpAny_bind ((looks_findIn X ha).here (wpAny_bind (L3.here ?_))))));exact h _
theorem set_exc{E:Value->qH6->Prop}{name:Str}{v:Value}{Q:Unit->qH6->Prop}{vs:Array Value}{sl:Array (Option Value)}(X:K.In s.heap)(hx:s.heap.get? x=some ⟨.ref C,none,.fields vs,sl⟩)
  (hs:qKk K (.ref C) "__setattr__" = some (some (.builtin "object.__setattr__"))) (hp:excOver K C=true) (ht:takerIn K C name=some none) (hh:(clsIn K C).any (·.hasDict)=true)
  (h:∀h' tk',h'.Ns1 s.heap.objs.size (fun y=>if y=name then some v else none)->h'.get? x=some ⟨.ref C,some s.heap.objs.size,.fields vs,sl⟩->(∀b o,b≠x->s.heap.get? b=some o->h'.get? b=some o)->Q () { s with heap:=h',toks:=tk' }) :
  wpAny (model prog w) A (setAttr (.ref x) name v) Q E s:=by
 have I:InstAt s.heap x ⟨.ref C,none,.fields vs,sl⟩ C none:=⟨hx,rfl,rfl,trivial⟩
 refine set_plain X I hs (zPX (s:={ s with toks:=s.toks+1 }) (r:=none) X I hp ht fun b=>?_);obtain⟨cd,hc,hd'⟩:=qKo hh;obtain⟨h0,g,d,t,os⟩:=s;dsimp only at hx X I h ⊢;refine wpAny_bind (wpAny_pure (wpAny_bind (wpAny_bind (wpAny_loadPart hx (wpAny_bind (Looks.here (s:=⟨h0,g,d,t+1,os⟩) (looks_clsIn X hc) ?_))))));rw[hd'];have hx₁:(h0.push { cls:=.type "dict",data:=.dict #[] }).get? x=some ⟨.ref C,none,.fields vs,sl⟩:=qH7 _ hx;have hxs:x≠h0.objs.size:=qAo (qH8 hx);refine wpAny_bind (wpAny_alloc' ?_);refine wpAny_bind (wpAny_update' hx₁ ?_);refine wpAny_pure ?_;have hx₂:((h0.push { cls:=.type "dict",data:=.dict #[] }).update x fun o=>{ cls:=o.cls,dict:=some h0.objs.size,data:=o.data,slots:=o.slots }).get? x=some ⟨.ref C,some h0.objs.size,.fields vs,sl⟩:=qHk _ hx₁ rfl;have hgd:((h0.push { cls:=.type "dict",data:=.dict #[] }).update x fun o=>{ cls:=o.cls,dict:=some h0.objs.size,data:=o.data,slots:=o.slots }).get? h0.objs.size
   = some { cls:=.type "dict",data:=.dict #[] }:=(qK7 _ _ _ _ hxs.symm).trans (qJ7 rfl rfl)
 have hnd:((h0.push { cls:=.type "dict",data:=.dict #[] }).update x fun o=>{ cls:=o.cls,dict:=some h0.objs.size,data:=o.data,slots:=o.slots }).Ns h0.objs.size (fun _=>none):=
  ⟨_,#[],_,hgd,rfl,fun e he=>absurd he (by simp),fun _=>rfl⟩
 show wpAny _ _ (storeInDict h0.objs.size (.str name t) name v) _ _ _;unfold storeInDict newKeyGuard;refine wpAny_bind (wpAny_pure (wpAny_bind (wpAny_nsSet1 (Heap.Ns1.of_empty hnd) fun h' hn' hs'=>?_)));obtain⟨oD,esD,epD,hoD,hdD,hcD⟩:=hn'.count (Within.cons name v Within.nil);refine wpAny_bind (wpAny_lookBehind hoD (by rw[hdD];exact pastItsLine_dict (qAl hcD (by rw[qBj,qFs,qHr];lia))) ?_);exact wpAny_pure (h h' _ hn' ((hs'.2 x hxs).trans hx₂) fun b ob hbx hb=>(hs'.2 b (qAo (qH8 hb))).trans ((qK7 _ _ _ _ hbx).trans (qH7 _ hb)))
end
end PySem.W
namespace PySem.W
open PySem
def xcIn(K:Frag)(C:Addr):Bool:=match K.lookup C with
 |some ⟨.type "type",_,.cls cd,sl⟩=>(match cd.mro,sl.toList with
  |.ref C'::bm,[_,_,_,_,some (.builtin n),_]=>C'==C && !cd.hasDel&&excTail bm&&n == "ValueError.__new__" && cd.hasDict
  |_,_=>false)
 |_=>false
theorem xc_cls{K:Frag}{h:Heap}{C:Addr}(X:K.In h)(q:xcIn K C=true):∃nm qn N bs bm hdct sn sub ab col dd k0 k1 k2 k3 k5,
  h.get? C=some (excClassObj nm qn C N bs bm hdct sn sub ab col dd k0 k1 k2 k3 k5 "ValueError.__new__")/\excTail bm=true:=by
 unfold xcIn at q
 split at q
 ·rename_i dd cd sl ho
  split at q
  ·rename_i C' bm k0 k1 k2 k3 n k5 hm hs
   simp only[qBi,beq_iff_eq,Bool.not_eq_true']at q;obtain⟨⟨⟨⟨rfl,hdel⟩,hb⟩,hn⟩,hd⟩:=q;subst hn;obtain⟨nm,bs,mro,ns,qn,hd',sn,sub,ab,col,del⟩:=cd;dsimp only at hm hdel;subst hm hdel;have hsl:sl=#[k0,k1,k2,k3,some (.builtin "ValueError.__new__"),k5]:=by
    obtain⟨l⟩:=sl;simp only at hs;rw[hs]
   subst hsl;exact⟨nm,qn,ns,bs,bm,hd',sn,sub,ab,col,dd,k0,k1,k2,k3,k5,X _ _ ho,hb⟩
  ·cases q
 ·cases q
theorem exc_con{l:List Value}{T:String}{b:Bool}(e:excTail l=true)(hb:List.contains [qJ3 "ValueError",.type "Exception",.type "BaseException",.type "object"] (.type T)=b):l.contains (.type T)=b:=by
 obtain⟨as,rfl⟩:=zCT e;clear e
 induction as with
 |nil=>exact hb
 |cons a r ih=>rw[qAn,qE3,qBg,ih];rfl
end PySem.W
namespace PySem.Xc
open PySem
section
variable{M:Model}{prog:qH9}{w:World}{A:qHb}{E:Value->qH6->Prop}{h:Heap}{g:Array qIf}{d:Drawn}{t:Nat}{os:OsState}{R:qKh->qH6->Prop}
variable{nm q:Str}{C N:Addr}{bs bm bmB:List Value}{hdct:Bool}{sn:List Str}{sub:List Value}{ab:Bool}{col:Option Bool}{dd:Option Addr}{k0 k1 k2 k3 k5:Option Value}{B newId initId:String}
theorem zIG(F:qI0 B newId initId bmB)(hB:bm.contains (.type B)=true){rest:List Value}{Q:Unit->qH6->Prop}(hC:h.get? C=some (excClassObj nm q C N bs bm hdct sn sub ab col dd k0 k1 k2 k3 k5 newId))
  (hq:Q () ⟨h,g,d,t,os⟩):wpAny M A (checkBuiltinCall newId ⟨.ref C::rest,[]⟩) Q E ⟨h,g,d,t,os⟩:=by
 have hcont:(qHa C::bm).contains (.type B)=true:=by rw[qBg,hB,qEe]
 have hstar:=F.noStar;simp only[checkBuiltinCall,F.newKind,F.newSplit,F.newRow]
 repeat (first|refine qHe hC ?_|(refine qHn hC ?_;rw[hcont])|refine wpAny_staticBase_exc hC ?_|refine qJg hC ?_|simp only[bne_self_eq_false,Bool.false_eq_true,if_false]|wp_step)
 exact hq
theorem zLE(F:qI0 B newId initId bmB)(hB:bm.contains (.type B)=true)(hA:bm.contains (.type "AttributeError")=false)(hN:bm.contains (.type "NameError")=false){rest:List Value}(hC:h.get? C=some (excClassObj nm q C N bs bm hdct sn sub ab col dd k0 k1 k2 k3 k5 newId))
  (hq:R (.ok (.ret (.ref (h.objs.size+1)))) ⟨(h.push { cls:=.type "tuple",data:=.seq rest.toArray }).push
   { cls:=.ref C,data:=.fields #[.ref h.objs.size,.none,.none,.none,.bool false,.none] },g,d,t,os⟩) (hrest:rest.length<=sizeLine) :
  qIj (model prog w) A (.builtin newId ⟨.ref C::rest,[]⟩) R ⟨h,g,d,t,os⟩:=by
 have hends:=F.ends;have hcB:(qHa C::bm).contains (.type B)=true:=by rw[qBg,hB,qEe]
 have hcA:(qHa C::bm).contains (.type "AttributeError")=false:=by rw[qBg,hA];rfl
 have hcN:(qHa C::bm).contains (.type "NameError")=false:=by rw[qBg,hN];rfl
 refine codeAny_builtinAt F.entry ?_;unfold qK8.«BaseException.__new__»;refine wpAt_bind ?_;show wpAt _ _ _ (stack >>= _) _ _ _;refine wpAt_bind (wpAt_stack fun p below=>wpAt_of_wpAny ?_)
 wp_walk
 refine wpAt_of_wpAny ?_;rw[F.owner]
 repeat (first|with_reducible refine wpAny_madeHere_exc F.canon hC ?_|with_reducible refine qHe hC ?_|(with_reducible refine qHn hC ?_;first|rw[hcB]|rw[hcA]|rw[hcN])|wp_step)
 show R _ _;rw[qHw];exact hq
theorem zHP(F:qI0 B newId initId bmB)(hB:bm.contains (.type B)=true){e:Addr}{oe:Obj}{rest:List Value}{Q:Unit->qH6->Prop}{newId':String}
  (hC:h.get? C=some (excClassObj nm q C N bs bm hdct sn sub ab col dd k0 k1 k2 k3 k5 newId')) (he:h.get? e=some oe) (hcls:oe.cls=.ref C) (hq:Q () ⟨h,g,d,t,os⟩) :
  wpAny M A (checkBuiltinCall initId ⟨.ref e::rest,[]⟩) Q E ⟨h,g,d,t,os⟩:=by
 have hcB:(qHa C::bm).contains (.type B)=true:=by rw[qBg,hB,qEe]
 have hshort:=F.noStar;simp only[checkBuiltinCall,F.initKind,F.initSplit,F.initRow]
 repeat (first|(with_reducible refine qHe he ?_;rw[hcls])|with_reducible refine qHe hC ?_|(with_reducible refine qHn hC ?_;rw[hcB])|wp_step)
 refine wpAny_onRaise ?_;rw[show ∀(a b:String)(n:Nat),Bind.check ⟨.positional,"*",B,.self,[⟨"args",.varPos,false⟩]⟩ a b n (qH0 (fun x=>x.fst) ({ pos:=qHa e::rest }:Args).kw)=pure () from
  fun a b n=>check_star_args _ _ _ _ _ _]
 exact wpAny_pure hq
theorem zGX(F:qI0 B newId initId bmB)(hB:bm.contains (.type B)=true)(hA:bm.contains (.type "AttributeError")=false)(hN:bm.contains (.type "NameError")=false){rest:List Value}{fI:Addr}{oI:Obj}{Q:Fin->qH6->Prop}
  (hC:h.get? C=some (excClassObj nm q C N bs bm hdct sn sub ab col dd k0 k1 k2 k3 k5 newId)) (hi:qD7 (model prog w) h (typeLookup (.ref C) "__init__") (some (.ref fI)))
  (hfI:h.get? fI=some oI) (hfc:oI.cls=.type "function")
  (hq:∀h' e,qHx h h' e (.ref C) rest->h.objs.size<=e ->
   wpAny (model prog w) A (call (.ref fI) (.ref e::rest)) (fun r s'=>r=.none/\Q (.done (.ret (.ref e))) s') E ⟨h',g,d,t,os⟩) (hrest:rest.length<=sizeLine) :
  wpAny (model prog w) A (qK8.«type.__call__» ⟨.ref C::rest,[]⟩) Q E ⟨h,g,d,t,os⟩:=by
 repeat (first|with_reducible refine qHe hC ?_|with_reducible refine qJg hC ?_|wp_step)
 refine qJ0 (qIc _ F.quiet) (zIG F hB hC ?_);refine zLE F hB hA hN hC ?_ hrest;show wpAny _ _ _ _ _ _;have hC₁:=qH7 { cls:=.ref C,data:=.fields #[.ref h.objs.size,.none,.none,.none,.bool false,.none] }
  (qH7 { cls:=.type "tuple",data:=.seq rest.toArray } hC)
 have hfI₁:=qH7 { cls:=.ref C,data:=.fields #[.ref h.objs.size,.none,.none,.none,.bool false,.none] }
  (qH7 { cls:=.type "tuple",data:=.seq rest.toArray } hfI)
 have hi₁:=hi.keeps (h':=(h.push { cls:=.type "tuple",data:=.seq rest.toArray }).push { cls:=.ref C,data:=.fields #[.ref h.objs.size,.none,.none,.none,.bool false,.none] }) fun b o e=>qH7 _ (qH7 _ e)
 have hget:((h.push { cls:=.type "tuple",data:=.seq rest.toArray }).push
   { cls:=.ref C,data:=.fields #[.ref h.objs.size,.none,.none,.none,.bool false,.none] }).get? (h.objs.size+1)=some
   { cls:=.ref C,data:=.fields #[.ref h.objs.size,.none,.none,.none,.bool false,.none] }:=by heap_get
 have hcC:(qHa C::bm).contains (.ref C)=true:=by simp
 unfold isInstance
 repeat (first|with_reducible refine qHe hget ?_|(with_reducible refine qHn hC₁ ?_;rw[hcC])|wp_step)
 show wpAny _ _ (typeLookup (.ref C) _) _ _ _;refine hi₁.here ?_;refine wpAny_holding (wpAny_bind ?_);unfold bindSpecial;refine wpAny_bind (wpAny_typeOf (T:="function") ⟨_,hfI₁,hfc⟩ ?_);rw[if_pos (by decide)];refine wpAny_pure (wpAny_bind (wpAny_mono (hq _ (h.objs.size+1) ⟨fun b o hb=>qH7 _ (qH7 _ hb),qHq (qBx _),h.objs.size,hget,qHq (qA6 _),?_⟩ (qBx _)) (fun r s' hr=>?_) fun _ _ x=>x))
 ·exact qH7 _ (qJ7 rfl rfl)
 ·obtain⟨rfl,hQ⟩:=hr
  wp_walk
  exact hQ
theorem call_initX(F:qI0 B newId initId bmB)(hB:bm.contains (.type B)=true)(hA:bm.contains (.type "AttributeError")=false)(hN:bm.contains (.type "NameError")=false){rest:List Value}{fI:Addr}{oI:Obj}{Q:Value->qH6->Prop}
  (hC:h.get? C=some (excClassObj nm q C N bs bm hdct sn sub ab col dd k0 k1 k2 k3 k5 newId)) (hi:qD7 (model prog w) h (typeLookup (.ref C) "__init__") (some (.ref fI)))
  (hfI:h.get? fI=some oI) (hfc:oI.cls=.type "function")
  (hq:∀h' e,qHx h h' e (.ref C) rest->h.objs.size<=e ->
   wpAny (model prog w) (A.under (.builtin "type.__call__" ⟨.ref C::rest,[]⟩)) (call (.ref fI) (.ref e::rest)) (fun r s'=>r=.none/\Q (.ref e) s') E ⟨h',g,d,t,os⟩) (hrest:rest.length<=sizeLine) :
  wpAny (model prog w) A (call (.ref C) rest) Q E ⟨h,g,d,t,os⟩:=by
 have f1:=tc_lookup;have f2:=tc_bind (.ref C);have hT:(⟨h,g,d,t,os⟩:qH6).TypeIs (.ref C) "type":=⟨_,hC,rfl⟩
 refine wpAny_call (codeAny_of_tree ?_);show wpAny _ _ (callAny (.ref C) _) _ _ _
 repeat (any_goals (first|assumption|with_reducible refine qHe hC ?_|wp_step))
 refine⟨rfl,?_⟩;refine qJd (qIc _ (by decide +kernel)) entry_typeCall (wpAny_check_type_call_sub hC (zGX (hrest:=hrest) F hB hA hN hC hi hfI hfc fun h' e hm hz=>?_));exact hq h' e hm hz
theorem zNV(F:qI0 B newId initId bmB)(hB:bm.contains (.type B)=true)(hA:bm.contains (.type "AttributeError")=false)(hN:bm.contains (.type "NameError")=false){rest:List Value}{Q:Fin->qH6->Prop}
  (hC:h.get? C=some (excClassObj nm q C N bs bm hdct sn sub ab col dd k0 k1 k2 k3 k5 newId)) (hi:qD7 (model prog w) h (typeLookup (.ref C) "__init__") (some (.builtin initId)))
  (hq:∀h' e,qHx h h' e (.ref C) rest->h.objs.size<=e->Q (.done (.ret (.ref e))) ⟨h',g,d,t,os⟩) (hrest:rest.length<=sizeLine) :
  wpAny (model prog w) A (qK8.«type.__call__» ⟨.ref C::rest,[]⟩) Q E ⟨h,g,d,t,os⟩:=by
 repeat (first|with_reducible refine qHe hC ?_|with_reducible refine qJg hC ?_|wp_step)
 refine qJ0 (qIc _ F.quiet) (zIG F hB hC ?_);refine zLE F hB hA hN hC ?_ hrest;show wpAny _ _ _ _ _ _;have hC₁:=qH7 { cls:=.ref C,data:=.fields #[.ref h.objs.size,.none,.none,.none,.bool false,.none] }
  (qH7 { cls:=.type "tuple",data:=.seq rest.toArray } hC)
 have hi₁:=hi.keeps (h':=(h.push { cls:=.type "tuple",data:=.seq rest.toArray }).push { cls:=.ref C,data:=.fields #[.ref h.objs.size,.none,.none,.none,.bool false,.none] }) fun b o e=>qH7 _ (qH7 _ e)
 have hget:((h.push { cls:=.type "tuple",data:=.seq rest.toArray }).push
   { cls:=.ref C,data:=.fields #[.ref h.objs.size,.none,.none,.none,.bool false,.none] }).get? (h.objs.size+1)=some
   { cls:=.ref C,data:=.fields #[.ref h.objs.size,.none,.none,.none,.bool false,.none] }:=by heap_get
 have hcC:(qHa C::bm).contains (.ref C)=true:=by simp
 unfold isInstance
 repeat (first|with_reducible refine qHe hget ?_|(with_reducible refine qHn hC₁ ?_;rw[hcC])|wp_step)
 show wpAny _ _ (typeLookup (.ref C) _) _ _ _;refine hi₁.here ?_;refine wpAny_holding (wpAny_bind (wpAny_of_eq (F.init.bind _) ?_));refine wpAny_bind (wpAny_call (codeAny_call_builtin F.init.plain F.initEntry (zHP F hB hC₁ hget rfl ?_)))
 wp_walk
 refine hq _ _ ⟨fun b o hb=>?_,qHq (qBx _),h.objs.size+2,?_,qHq (by lia),?_⟩ (qBx _)
 ·rw[qHi _ _ (qCp (qFa (qH8 hb)))];exact qH7 _ (qH7 _ (qH7 _ hb))
 ·rw[qHk _ (qH7 _ hget) rfl];simp only[qHw];rfl
 ·rw[qHi _ _ (show h.objs.size+1≠h.objs.size+2 by lia)];exact qJ7 (by simp only[qHw]) rfl
theorem callX(F:qI0 B newId initId bmB)(hB:bm.contains (.type B)=true)(hA:bm.contains (.type "AttributeError")=false)(hN:bm.contains (.type "NameError")=false){rest:List Value}{Q:Value->qH6->Prop}
  (hC:h.get? C=some (excClassObj nm q C N bs bm hdct sn sub ab col dd k0 k1 k2 k3 k5 newId)) (hi:qD7 (model prog w) h (typeLookup (.ref C) "__init__") (some (.builtin initId)))
  (hq:∀h' e,qHx h h' e (.ref C) rest->h.objs.size<=e->Q (.ref e) ⟨h',g,d,t,os⟩) (hrest:rest.length<=sizeLine) :
  wpAny (model prog w) A (call (.ref C) rest) Q E ⟨h,g,d,t,os⟩:=by
 have f1:=tc_lookup;have f2:=tc_bind (.ref C);have hT:(⟨h,g,d,t,os⟩:qH6).TypeIs (.ref C) "type":=⟨_,hC,rfl⟩
 refine wpAny_call (codeAny_of_tree ?_);show wpAny _ _ (callAny (.ref C) _) _ _ _
 repeat (any_goals (first|assumption|with_reducible refine qHe hC ?_|wp_step))
 refine⟨rfl,?_⟩;refine qJd (qIc _ (by decide +kernel)) entry_typeCall (wpAny_check_type_call_sub hC (zNV (hrest:=hrest) F hB hA hN hC hi fun h' e hm hz=>?_));exact hq h' e hm hz
theorem call_baseX(F:qI0 B newId initId bmB)(hB:bm.contains (.type B)=true){e t1:Addr}{di:Option Addr}{rest:List Value}{Q:Value->qH6->Prop}{newId':String}
  (hC:h.get? C=some (excClassObj nm q C N bs bm hdct sn sub ab col dd k0 k1 k2 k3 k5 newId')) (he:h.get? e=some { cls:=.ref C,dict:=di,data:=.fields #[.ref t1,.none,.none,.none,.bool false,.none] })
  (hq:∀h' t0,(∀b o,b≠e->h.get? b=some o->h'.get? b=some o)->h'.get? e=some { cls:=.ref C,dict:=di,data:=.fields #[.ref t0,.none,.none,.none,.bool false,.none] }->Q .none ⟨h',g,d,t,os⟩) (hrest:rest.length<=sizeLine) :
  wpAny (model prog w) A (call (.builtin initId) (.ref e::rest)) Q E ⟨h,g,d,t,os⟩:=by
 refine wpAny_call (codeAny_call_builtin F.init.plain F.initEntry (zHP F hB hC he rfl ?_))
 wp_walk
 refine hq _ h.objs.size (fun b o hbe hb=>?_) ?_
 ·rw[qHi _ _ (qC1 hbe)];exact qH7 _ hb
 ·rw[qHk _ (qH7 _ he) rfl];rfl
end
section
variable{M:Model}{A:qHb}{E:Value->qH6->Prop}{s:qH6}{env:Env}
variable{nm q:Str}{C N:Addr}{bs bm:List Value}{hdct:Bool}{sn:List Str}{sub:List Value}{ab:Bool}{col:Option Bool}{dd:Option Addr}{k0 k1 k2 k3 k5:Option Value}{newId:String}
theorem raiseX{x:Sem Value}{Q:Flow->qH6->Prop}(hh:A.handled=none)
  (h:wpAny M A x (fun v s₁=>∃e t di nm q C N bs bm hdct sn sub ab col dd k0 k1 k2 k3 k5 newId,v=.ref e/\s₁.heap.get? C=some (excClassObj nm q C N bs bm hdct sn sub ab col dd k0 k1 k2 k3 k5 newId)/\bm.contains (.type "BaseException")=true /\
   s₁.heap.get? e=some { cls:=.ref C,dict:=di,data:=.fields #[.ref t,.none,.none,.none,.bool false,.none] }/\E (.ref e) s₁) E s) :
  wpAny M A (raiseStmt env (some x) none) Q E s:=by
 unfold raiseStmt;refine wpAny_bind (wpAny_mono h (fun v s₁ h₁=>?_) fun _ _ x=>x);obtain⟨e,t,di,nm,q,C,N,bs,bm,hdct,sn,sub,ab,col,dd,k0,k1,k2,k3,k5,newId,rfl,hC,hbase,he,hE⟩:=h₁;have hcB:(qHa C::bm).contains (.type "BaseException")=true:=by rw[qBg,hbase,qEe]
 obtain⟨hp,g,d,tk,os⟩:=s₁
 repeat (first|with_reducible refine qHe he ?_|with_reducible refine qHe hC ?_|(with_reducible refine qHn hC ?_;rw[hcB])|wp_step)
 exact wpAny_raiseNew_none hh hE
theorem RaiseX{x:Expr}{pos:Pos}{Q:Flow->qH6->Prop}(hh:A.handled=none)
  (h:wpAny M A (eval x env) (fun v s₁=>∃e t di nm q C N bs bm hdct sn sub ab col dd k0 k1 k2 k3 k5 newId,v=.ref e/\s₁.heap.get? C=some (excClassObj nm q C N bs bm hdct sn sub ab col dd k0 k1 k2 k3 k5 newId)/\bm.contains (.type "BaseException")=true /\
   s₁.heap.get? e=some { cls:=.ref C,dict:=di,data:=.fields #[.ref t,.none,.none,.none,.bool false,.none] }/\E (.ref e) s₁) E s) :
  wpAny M A (exec (.Raise (some x) none pos) env) Q E s:=by
 rw[arm_exec_Raise]
 first
  |exact wpAny_bind (wpAny_standAt (raiseX hh (wpAny_bind (wpAny_mono h (fun v s₁ h₁=>wpAny_bind (wpAny_standAt (wpAny_pure h₁))) fun _ _ x=>x))))
  |(simp only[evalOpt,Option.map];exact wpAny_bind (wpAny_standAt (raiseX hh (wpAny_bind (wpAny_mono h (fun v s₁ h₁=>wpAny_bind (wpAny_standAt (wpAny_pure h₁))) fun _ _ x=>x)))))
  |(show wpAny M A (do qKq pos;raiseStmt env (some (do let v <- eval x env;qKq pos;pure v)) none) Q E s;exact wpAny_bind (wpAny_standAt (raiseX hh (wpAny_bind (wpAny_mono h (fun v s₁ h₁=>wpAny_bind (wpAny_standAt (wpAny_pure h₁))) fun _ _ x=>x)))))
end
section
open PySem.W
variable{prog:qH9}{w:World}{A:qHb}{E:Value->qH6->Prop}{K:Frag}{x C:Addr}{ox:Obj}{od:Option Obj}{name:Str}{expr fill:Bool}{h:Heap}{g:Array qIf}{d:Drawn}{t:Nat}{os:OsState}
theorem zOI{tk:Tok}{v:Value}{Q:Fin->qH6->Prop}(X:K.In h)(I:InstAt h x ox C od)(hf:qL2 K C od name=some (.value v))(hq:Q (.done (.ret v)) ⟨h,g,d,t,os⟩) :
  wpAny (model prog w) A (qK8.«object.__getattribute__» ⟨[.ref x,.str name tk],[]⟩) Q E ⟨h,g,d,t,os⟩:=by
 have L0:=I.type (M:=model prog w);have L1:=looks_find (M:=model prog w) X I hf;unfold qK8.«object.__getattribute__»;refine wpAny_bind (wpAny_pure (wpAny_bind (wpAny_pure (wpAny_bind (L0.at (wpAny_bind (L1.at ?_)))))));exact wpAny_pure hq
theorem zLF{M:Model}{nameV:Value}{Q:Unit->qH6->Prop}(X:K.In h)(hc:xcIn K C=true)(I:InstAt h x ox C od)(hq:Q () ⟨h,g,d,t,os⟩):wpAny M A (checkBuiltinCall "BaseException.__getattribute__" ⟨[.ref x,nameV],[]⟩) Q E ⟨h,g,d,t,os⟩:=by
 obtain⟨nm,qn,N,bs,bm,hdct,sn,sub,ab,col,dd,k0,k1,k2,k3,k5,hC,ht⟩:=xc_cls X hc;have hk:builtinKind "BaseException.__getattribute__" = some .slot:=by decide +kernel
 have hsplit:splitId "BaseException.__getattribute__" = some ("BaseException","__getattribute__"):=by decide +kernel
 have hcB:(qHa C::bm).contains (.type "BaseException")=true:=by rw[qBg,exc_con ht (T:="BaseException") (b:=true) (by decide)];rfl
 have ha:=F.args_bexc_ga (.ref x) nameV;simp only[checkBuiltinCall,hk,hsplit];refine wpAny_bind ?_
 ·unfold isInstance;have hx:=I.at_;have hcl:=I.cls
  repeat (first|(with_reducible refine qHe hx ?_;rw[hcl])|(with_reducible refine qHn hC ?_;rw[hcB])|wp_step)
  exact hq
theorem get_excX{v:Value}{Q:Value->qH6->Prop}(X:K.In h)(I:InstAt h x ox C od)(hc:xcIn K C=true)(hga:qKk K (.ref C) "__getattribute__" = some (some (.builtin "BaseException.__getattribute__")))(hgg:qKk K (.ref C) "__getattr__" = some none)
  (hf:qL2 K C od name=some (.value v)) (hh:handedIn v=true) (hq:Q v ⟨h,g,d,t+1,os⟩):wpAny (model prog w) A (getAttr (.ref x) name expr) Q E ⟨h,g,d,t,os⟩:=by
 have f3:=qI5.ga.bind (.ref x);have hx0:(expr&&onTheHeap (qHl "BaseException.__getattribute__"))=false:=by cases expr<;>rfl
 have hx2:(qHl "BaseException.__getattribute__" == qHl "object.__getattribute__")=false:=by decide +kernel
 have hx1:(onTheHeap (qHa C)&&qHl "BaseException.__getattribute__" == qHl "object.__getattribute__")=false:=by rw[hx2];rfl
 have L0:=I.type (M:=model prog w);have L1:=looks_findIn (M:=model prog w) X hga;have L2:=looks_findIn (M:=model prog w) X hgg;have hx:=I.at_;have hcl:=I.cls;unfold getAttr
 repeat (any_goals (first|assumption|(with_reducible refine qHe hx ?_;rw[hcl])|with_reducible refine L1.at ?_|with_reducible refine L2.at ?_|wp_step))
 refine codeAny_call_builtin qI5.ga.plain qKx (zLF (h:=h) X hc I (zOI (h:=h) X I hf ?_));show wpAny _ _ (handedOut v) _ _ _;rw[handedOut_of hh];exact wpAny_pure hq
end
end PySem.Xc
namespace L2
open PySem PySem.Spec PyProof.Rows
def XN(e:Addr)(C:Value)(d:Option Addr)(h:Heap):Prop:=∃t1,h.get? e=some { cls:=C,dict:=d,data:=.fields #[.ref t1,.none,.none,.none,.bool false,.none] }
abbrev xn(e:Addr)(C:Value)(d:Option Addr):HO:=.ext (XN e C d)
theorem zUQ{e:Addr}{C:Value}{d:Option Addr}(h1 h2:Heap)(x:XN e C d h1)(k:∀o,h1.get? e=some o->h2.get? e=some o):XN e C d h2:=let⟨t1,a⟩:=x;⟨t1,k _ a⟩
theorem zUP{e:Addr}{C:Value}{d:Option Addr}(h1 h2:Heap)(x:XO e C d h1)(k:∀o,h1.get? e=some o->h2.get? e=some o):XO e C d h2:=let⟨oe,vs,a,r⟩:=x;⟨oe,vs,k _ a,r⟩
theorem zVX{P:qH9}{w:World}{H:Hp}{h:Heap}{e:Addr}{C:Value}{d:Option Addr}(x:XN e C d h):ObjOk P w H h e (xn e C d):=⟨x,let⟨t1,a⟩:=x;⟨_,a⟩,zUQ⟩
theorem zaK{P:qH9}{w:World}{H:Hp}{h:Heap}{e:Addr}{C:Value}{d:Option Addr}(x:XO e C d h):ObjOk P w H h e (xo e C d):=⟨x,let⟨oe,vs,a,_⟩:=x;⟨_,a⟩,zUP⟩
section
variable{X:Cx}{pins:List (Addr×Obj)}{σ:St}{H:Hp}{s:qH6}{k:Nat}{f C:Addr}{fd:qHo}{ps:List Str}{sp:Sp}{x:Str}{p pos:Pos}{e:Expr}{es:List Expr}{t:TA}{te:TE}
def zMR(C:Addr)(sp:Sp)(E:XK)(t:TA):TE:=fun σ H Q=>t σ H fun vs H1=>vs.length<=sizeLine/\∀e,H1 e=none->sp (.ref e::vs) (upd H1 e (xn e (.ref C) none)) (fun v H2=>v=.non/\Q (.ref e) H2) E
def zLR(C:Addr)(t:TA):TE:=fun σ H Q=>t σ H fun vs H1=>vs.length<=sizeLine/\∀e,H1 e=none->Q (.ref e) (upd H1 e (xn e (.ref C) none))
theorem Inv.madeX{h':Heap}{e:Addr}{us:List Value}(I:Inv X pins σ H s)(m:qHx s.heap h' e (.ref C) us)(hs:s.heap.objs.size<=e):H e=none/\Inv X pins σ (upd H e (xn e (.ref C) none)) { s with heap:=h' }:=by
 obtain⟨t1,h1,_⟩:=m.there;exact⟨I.hok.fresh hs,I.laid (t':=s.toks) m.keeps hs (zVX ⟨t1,h1⟩)⟩
theorem zPG{Q:VK}{E:XK}{us:List Value}{vs:List V}(hc:PySem.W.xcIn X.K C=true)(hi:qAi X.K (.ref C) "__init__" = some (some (.ref f)))(hf:qEf X.K (.ref f)=true)(F:FnOk X.prog X.w X.K X.mg X.base (CXe X.prog X.w) k f fd ps sp)
  (hr:Room (k+1) X.A) (hb:Binds X.K fd ps []) (hx:zII (CXe X.prog X.w) X E) (I:Inv X pins σ H s) (r:Vals vs us) (hz:vs.length<=sizeLine)
  (h:∀e,H e=none->sp (.ref e::vs) (upd H e (xn e (.ref C) none)) (fun v H2=>v=.non/\Q (.ref e) H2) E) :
  wpAny (model X.prog X.w) X.A (call (.ref C) us) (EP X pins σ Q) X.xe s:=by
 obtain⟨nm,qn,N,bs,bm,hdct,sn,sub,ab,col,dd,k0,k1,k2,k3,k5,hC,ht⟩:=PySem.W.xc_cls I.kIn hc;obtain⟨oI,hfI,hfc⟩:∃oI,s.heap.get? f=some oI/\oI.cls=.type "function":=by
  have hf':=beq_iff_eq.mp hf;obtain⟨o,ho,h2⟩:=qBu.mp (show(X.K.lookup f).map (·.cls)=some (.type "function") from hf');exact⟨o,I.kIn _ _ ho,h2⟩
 have hC':s.heap.get? C=some (excClassObj nm qn C N bs bm hdct sn sub ab col dd k0 k1 k2 k3 k5 "ValueError.__new__"):=hC;have hus:us.length<=sizeLine:=by rw[<- r.length];exact hz
 have key:∀h' e,qHx s.heap h' e (.ref C) us->s.heap.objs.size<=e->wpAny (model X.prog X.w) (X.A.under (.builtin "type.__call__" ⟨.ref C::us,[]⟩)) (call (.ref f) (.ref e::us)) (fun r s'=>r=.none/\EP X pins σ Q (.ref e) s') X.xe { s with heap:=h' }:=by
  intro h' e m hs;obtain⟨he,I2⟩:=I.madeX m hs;have hq:=h e he;have r2:Vals (V.ref e::vs) (qHa e::us):=.cons rfl r;have hl:(qHa e::us++[]).length=ps.length:=by
   rw[qBq,<- r2.length];exact F.len _ _ _ _ hq
  have hbb:=hb _ (qHa e::us) I2.kIn hl;rw[qBq]at hbb;refine wpAny_call (codeAny_mono (F.run _ X.stack _ _ ⟨qHa e::us,[]⟩ (qHa e::us) _ _ E (hr.make C us []) (I2.env0.make C us []) hbb r2 hq) fun r s' hq'=>?_);cases r with
  |error x=>exact hx pins σ _ _ x s' I2 hq'
  |ok fl=>
   cases fl with
   |ret u=>
    obtain⟨v,H',I3,rv,ev,q3⟩:=I2.after hq';subst ev;exact⟨rv,⟨V.ref e,H',I3,rfl,q3⟩⟩
   |next=>exact qA8 hq'
   |brk=>exact qA8 hq'
   |cont=>exact qA8 hq'
 have hK:=qEl (M:=model X.prog X.w) I.kIn hi;obtain⟨hh,g,d,tk,os⟩:=s;exact Xc.call_initX qCj (PySem.W.exc_con ht (by decide)) (PySem.W.exc_con ht (by decide)) (PySem.W.exc_con ht (by decide)) hC' hK hfI hfc key hus
theorem zO1{Q:VK}{us:List Value}{vs:List V}(hc:PySem.W.xcIn X.K C=true)(hi:qAi X.K (.ref C) "__init__" = some (some (.builtin "ValueError.__init__")))
  (I:Inv X pins σ H s) (r:Vals vs us) (hz:vs.length<=sizeLine) (h:∀e,H e=none->Q (.ref e) (upd H e (xn e (.ref C) none))):wpAny (model X.prog X.w) X.A (call (.ref C) us) (EP X pins σ Q) X.xe s:=by
 obtain⟨nm,qn,N,bs,bm,hdct,sn,sub,ab,col,dd,k0,k1,k2,k3,k5,hC,ht⟩:=PySem.W.xc_cls I.kIn hc;have hus:us.length<=sizeLine:=by rw[<- r.length];exact hz
 have key:∀h' e,qHx s.heap h' e (.ref C) us->s.heap.objs.size<=e->EP X pins σ Q (.ref e) { s with heap:=h' }:=by
  intro h' e m hs;obtain⟨he,I2⟩:=I.madeX m hs;exact⟨.ref e,_,I2,rfl,h e he⟩
 have hK:=qEl (M:=model X.prog X.w) I.kIn hi;obtain⟨hh,g,d,tk,os⟩:=s;exact Xc.callX qCj (PySem.W.exc_con ht (by decide)) (PySem.W.exc_con ht (by decide)) (PySem.W.exc_con ht (by decide)) hC hK key hus
theorem zSE{E:XK}(hc:PySem.W.xcIn X.K C=true)(hi:qAi X.K (.ref C) "__init__" = some (some (.ref f)))(hf:qEf X.K (.ref f)=true)(F:FnOk X.prog X.w X.K X.mg X.base (CXe X.prog X.w) k f fd ps sp)
  (hr:Room (k+1) X.A) (hb:Binds X.K fd ps []) (hx:zII (CXe X.prog X.w) X E) (hg:Gl X x) (hm:X.mg x=some (.ref C)) (hk:qAv X.K (.ref C)=true)
  (ha:PA X (e::es) t) (hdb:(x==("__debug__":Str))=false:=by decide) (he:starEach (e::es) X.env=(false,eval e X.env)::starEach es X.env:=by rfl) (hpl:(backTo pos (starEach es X.env)).any (·.1)=false:=by rfl) :
  PE X (.Call (.Name x p) (e::es) [] pos) (zMR C sp E t):=by
 intro pins s σ H Q I h;refine qHp (zDQ I hg hm ?_ hdb);refine qC8 (h₀:=X.base) I.ok.mod.kin hk (thn (ha pos pins s σ H _ I h) fun us s1 ⟨vs,H1,I1,r,z,q⟩=>⟨I1.kIn,?_⟩) he hpl;exact zPG hc hi hf F hr hb hx I1 r z q
theorem zPQ(hc:PySem.W.xcIn X.K C=true)(hi:qAi X.K (.ref C) "__init__" = some (some (.builtin "ValueError.__init__")))(hg:Gl X x)(hm:X.mg x=some (.ref C))(hk:qAv X.K (.ref C)=true)
  (ha:PA X (e::es) t) (hdb:(x==("__debug__":Str))=false:=by decide) (he:starEach (e::es) X.env=(false,eval e X.env)::starEach es X.env:=by rfl) (hpl:(backTo pos (starEach es X.env)).any (·.1)=false:=by rfl) :
  PE X (.Call (.Name x p) (e::es) [] pos) (zLR C t):=by
 intro pins s σ H Q I h;refine qHp (zDQ I hg hm ?_ hdb);refine qC8 (h₀:=X.base) I.ok.mod.kin hk (thn (ha pos pins s σ H _ I h) fun us s1 ⟨vs,H1,I1,r,z,q⟩=>⟨I1.kIn,?_⟩) he hpl;exact zO1 hc hi I1 r z q
theorem zRT{e:Addr}{o:HO}(h:H e=some o):upd H e o=H:=by
 funext b
 unfold upd
 split
 ·rename_i z;rw[z];exact h.symm
 ·rfl
theorem Inv.xn{e:Addr}{d:Option Addr}{Cv:Value}(I:Inv X pins σ H s)(h:H e=some (xn e Cv d)):XN e Cv d s.heap:=(I.hok e _ h).1
theorem XN.xo{h:Heap}{e:Addr}{d:Option Addr}{Cv:Value}(x:XN e Cv d h):XO e Cv d h:=let⟨t1,a⟩:=x;⟨_,_,a,rfl,rfl,rfl,by simp⟩
theorem Inv.raised{e:Addr}{d:Option Addr}(I:Inv X pins σ H s)(h:H e=some (L2.xn e (.ref C) d))(E:XK)(q:E (.ref e) d (upd H e (xo e (.ref C) d))):XP X pins σ E (.ref e) s:=by
 have x:=I.xn h;obtain⟨t1,a⟩:=id x;have I':Inv X pins σ (upd H e (xo e (.ref C) d)) s:=I.write (t':=s.toks) (h':=s.heap) (e:=e) (by rw[h];trivial) (.inl rfl) (fun _ _ _ q=>q) ⟨_,a⟩ (zaK x.xo);exact⟨s.heap.objs.size,e,.ref C,d,_,rfl,I',⟨zAF,.inl ⟨_,_,a,rfl,rfl,rfl,rfl⟩⟩,I.sz,qA6 _,I.pinlt,q⟩
def Flies(X:Cx)(E:XK):Prop:=∀(pins:List (Addr×Obj))(σ:St)(x:Value)(s':qH6),XP X pins σ E x s'->X.xe x s'
theorem Flies.passes{E:XK}(h:Flies X E):zII (CXe X.prog X.w) X E:=fun pins σ H s x s' I q=>h pins σ x s' (I.flown q)
def zMQ(K:qA1)(E:XK)(te:TE):TS:=fun _ σ H=>te σ H fun v H1=>∃e C d,v=.ref e/\H1 e=some (L2.xn e (.ref C) d)/\PySem.W.xcIn K C=true/\E (.ref e) d (upd H1 e (xo e (.ref C) d))
theorem zN1{E:XK}(he:PE X e te)(hf:Flies X E)(hc:X.calm=true):PS X (.Raise (some e) none pos) (zMQ X.K E te):=by
 intro pins s σ H D I h;refine Xc.RaiseX (I.ok.hd hc) (thn (he pins s σ H _ I h) fun v s1 z0=>?_);obtain⟨y,H1,I1,ry,a,C,d,ey,ha,hx,q⟩:=z0;subst ey;cases ry;obtain⟨t1,hg⟩:=I1.xn ha;obtain⟨nm,qn,N,bs,bm,hdct,sn,sub,ab,col,dd,k0,k1,k2,k3,k5,hC,ht⟩:=PySem.W.xc_cls I1.kIn hx;exact⟨a,t1,d,nm,qn,C,N,bs,bm,hdct,sn,sub,ab,col,dd,k0,k1,k2,k3,k5,_,rfl,hC,PySem.W.exc_con ht (by decide),hg,hf pins σ _ _ (I1.raised ha E q)⟩
def zTT(K:qA1)(t:TA):TE:=fun σ H Q=>t σ H fun vs H1=>∃e C d rest,vs=.ref e::rest/\H1 e=some (L2.xn e (.ref C) d)/\PySem.W.xcIn K C=true/\rest.length<=sizeLine/\Q .non H1
structure XBase(K:qA1)(B:Addr):Prop where
 ga:qCx K (.ref B) "__getattribute__" = some (some (.builtin "type.__getattribute__"))
 rd:qFw K B (.type "type")=true
 fd:qFx K (.ref B) (.type "type") "__init__" = some (.val (.builtin "ValueError.__init__"))
 hi:qE0 (.builtin "ValueError.__init__")=true
theorem zSI{B:Addr}{apos:Pos}{pl:Sem Bool}(hB:XBase X.K B)(hg:Gl X x)(hm:X.mg x=some (.ref B))(ha:PA X (e::es) t)(hdb:(x==("__debug__":Str))=false:=by decide)
  (he:starEach (e::es) X.env=(false,eval e X.env)::starEach es X.env:=by rfl) (hpl:(backTo pos (starEach es X.env)).any (·.1)=false:=by rfl)
  (ht:eval (.Call (.Attribute (.Name x p) "__init__" apos) (e::es) [] pos) X.env=(do
   let ov <- eval (.Name x p) X.env
   qKq apos.atName
   let(f,first) <- holding [ov] (getMethod ov "__init__" pl)
   callWith pos f first (backTo pos (starEach (e::es) X.env)) (backToKw pos (keywordEach [] X.env))):=by rfl) :
  PE X (.Call (.Attribute (.Name x p) "__init__" apos) (e::es) [] pos) (zTT X.K t):=by
 intro pins s σ H Q I h;refine PySem.W.methodCall_KW (pl:=pl) (zDQ I hg hm ?_ hdb) ht;refine PySem.W.method_cls I.kIn hB.ga (PySem.W.cls_value I.kIn hB.rd hB.fd hB.hi ?_);have I':=I.tok (s.toks+1);refine qD0 (thn (ha pos pins _ σ H _ I' h) fun us s1 z0=>?_) he hpl;obtain⟨vs,H1,I1,r1,a,C,d,rest,ev,ea,hx,hz,q⟩:=z0;subst ev;cases r1 with
 |cons ru r2=>
  cases ru;obtain⟨t1,hg1⟩:=I1.xn ea;obtain⟨nm,qn,N,bs,bm,hdct,sn,sub,ab,col,dd,k0,k1,k2,k3,k5,hC,htl⟩:=PySem.W.xc_cls I1.kIn hx;have hus:=r2.length;obtain⟨hh,g,dr,tk,os⟩:=s1;refine Xc.call_baseX qCj (PySem.W.exc_con htl (by decide)) hC hg1 (fun h' t0 k1 k2=>?_) (by rw[<- hus];exact hz);have I2:Inv X pins σ (upd H1 a (L2.xn a (.ref C) d)) { heap:=h',gens:=g,drawn:=dr,toks:=tk,os:=os }:=
   I1.write (h':=h') (t':=tk) (e:=a) (by rw[ea];trivial) (.inl rfl) (fun b u hb e=>k1 b u hb e) ⟨_,k2⟩ (zVX ⟨t0,k2⟩)
  rw[zRT ea]at I2;exact⟨.non,H1,I2,rfl,q⟩
structure XSet(K:qA1)(C:Addr)(f:Str):Prop where
 st:qAi K (.ref C) "__setattr__" = some (some (.builtin "object.__setattr__"))
 ov:PySem.W.excOver K C=true
 tk:qFy K C f=some none
 hd:(qBn K C).any (·.hasDict)=true
def zTV(K:qA1)(ta tv:TE)(f:Str):TS:=fun D σ H=>tv σ H fun y H1=>ta σ H1 fun x H2=>∃e C,x=.ref e/\H2 e=some (L2.xn e (.ref C) none)/\XSet K C f /\
 ∀d,H2 d=none->d≠e->D.nx σ (upd (upd H2 d (.xd [(f,y)])) e (L2.xn e (.ref C) (some d)))
theorem zSA{o value:Expr}{f:Str}{pos':Pos}{ta tv:TE}(ha:PE X o ta)(hv:PE X value tv)(hs:qIs value (some (.Attribute o f pos')) pos.line X.env=pure false):PS X (.Assign [.Attribute o f pos'] value pos) (zTV X.K ta tv f):=by
 intro pins s σ H D I h;refine plainObj_wpAny_Assign_Attribute (thn (hv pins s σ H _ I h) fun u s1 ⟨y,H1,I1,ry,q⟩=>thn (ha pins s1 σ H1 _ I1 q) fun ov s2 ⟨x,H2,I2,rx,a,C,ex,ea,c,q2⟩=>?_) hs;subst ex;obtain rfl:ov=qHa a:=rx;obtain⟨t1,hg1⟩:=I2.xn ea;refine PySem.W.set_exc I2.kIn hg1 c.st c.ov c.tk c.hd fun h' tk' n1 g2 k2=>?_
 have hdn:H2 s2.heap.objs.size=none:=I2.hok.fresh (qA6 _);have hne:s2.heap.objs.size≠a:=fun z=>by rw[z,ea]at hdn;cases hdn
 refine⟨σ,_,?_,q2 s2.heap.objs.size hdn hne⟩;have nb:∀b,H2 b=none->b≠a:=fun b hb z=>by rw[z,ea]at hb;cases hb
 have ndx:∀b o,s2.heap.get? b=some o->b≠s2.heap.objs.size:=fun b o e=>qAo (qH8 e)
 have oth:∀b,b≠a->b≠s2.heap.objs.size->upd (upd H2 s2.heap.objs.size (.xd [(f,y)])) a (L2.xn a (.ref C) (some s2.heap.objs.size)) b=H2 b:=fun b h1 h2=>by rw[zAJ h1,zAJ h2]
 have tr:∀{b:Addr}{o:HO},H2 b=some o->(∀φ,o≠.ext φ)->upd (upd H2 s2.heap.objs.size (.xd [(f,y)])) a (L2.xn a (.ref C) (some s2.heap.objs.size)) b=some o:=fun{b o} hb hn=>by
  rw[oth b (fun z=>by rw[z,ea]at hb;cases hb;exact hn _ rfl) (fun z=>by rw[z,hdn]at hb;cases hb)];exact hb
 refine I2.un (h':=h') (t':=tk') ⟨fun b o e n _ _=>k2 b o (nb b n) e,fun b o e n _ _=>⟨o.slots,k2 b o (nb b n) e⟩,fun b o e n _=>by rw[oth b (nb b n) (ndx b o e)];exact n,fun b o e _=>?_,fun b xs e=>tr e fun _ z=>(by cases z),fun b o u e=>tr e fun _ z=>(by cases z),fun b ps e=>⟨#[],by rw[Array.append_empty];exact tr e fun _ z=>(by cases z)⟩⟩ fun b u e=>?_
 ·by_cases z:b=a
  ·rw[z];exact⟨_,g2⟩
  ·exact⟨o,k2 b o z e⟩
 ·by_cases z:b=a
  ·subst z;rw[zAF]at e;cases e;exact zVX ⟨t1,g2⟩
  ·rw[zAJ z]at e
   by_cases z':b=s2.heap.objs.size
   ·subst z';rw[zAF]at e;cases e;refine⟨_,n1,fun g=>?_⟩
    by_cases hgf:g=f
    ·subst hgf;simp[qDc,RelO];exact ry
    ·have hb:(g==f)=false:=beq_eq_false_iff_ne.mpr hgf;simp[qDc,hb,hgf,RelO]
   ·rw[zAJ z']at e;refine(I2.hok b u e).stay (fun c w hc q=>k2 c w ?_ q) (fun c q=>?_) (fun c xs q=>tr q fun _ z=>(by cases z)) fun c _ _ q _=>tr q fun _ z=>(by cases z)
    ·rcases hc with rfl|hc
     ·exact z
     ·intro y;rw[y,ea]at hc;cases hc
    ·exact tr q fun _ z=>(by cases z)
end
end L2
namespace PySem.Xc
open PySem PySem.W
section
variable{prog:qH9}{w:World}{A:qHb}{E:Value->qH6->Prop}{K:Frag}{x C:Addr}{ox:Obj}{od:Option Obj}{name:Str}{expr fill:Bool}{h:Heap}{g:Array qIf}{d:Drawn}{t:Nat}{os:OsState}
theorem zOQ{Q:Option Value->qH6->Prop}(X:K.In h)(I:InstAt h x ox C od)(hc:xcIn K C=true)(hga:qKk K (.ref C) "__getattribute__" = some (some (.builtin "BaseException.__getattribute__")))(hgg:qKk K (.ref C) "__getattr__" = some none)
  (hf:qL2 K C od "__class__" = some (.bind (.builtin "getset_descriptor.__get__") (.builtin "object.__class__"))) (hm:mroIn K C (.type "object")=some true) (hq:Q (some (.ref C)) ⟨h,g,d,t+1,os⟩):wpAny (model prog w) A (getAttr? (.ref x) "__class__") Q E ⟨h,g,d,t,os⟩:=by
 have f3:=qI5.ga.bind (.ref x);have hx2:(qHl "BaseException.__getattribute__" == qHl "object.__getattribute__")=false:=by decide +kernel
 have hx1:(onTheHeap (qHa C)&&qHl "BaseException.__getattribute__" == qHl "object.__getattribute__")=false:=by rw[hx2];rfl
 have L0:=I.type (M:=model prog w);have L1:=looks_findIn (M:=model prog w) X hga;have L2:=looks_findIn (M:=model prog w) X hgg;have hx:=I.at_;have hcl:=I.cls;unfold getAttr?
 repeat (any_goals (first|assumption|(with_reducible refine qHe hx ?_;rw[hcl])|with_reducible refine L1.at ?_|with_reducible refine L2.at ?_|wp_step))
 refine codeAny_call_builtin qI5.ga.plain qKx (zLF (h:=h) X hc I ?_);have L3:=looks_find (M:=model prog w) X I hf;unfold qK8.«object.__getattribute__»;refine wpAny_bind (wpAny_pure (wpAny_bind (wpAny_pure (wpAny_bind (L0.at (wpAny_bind (L3.at ?_)))))));show wpAny _ _ (qJ1 (.builtin "getset_descriptor.__get__") (.builtin "object.__class__") (.ref x) (.ref C)) _ _ _;unfold qJ1;refine wpAny_bind (wpAny_holding (wpAny_call (class_get (s:=⟨h,g,d,t+1,os⟩) (ox:=ox) (od:=od) X I hm ?_)));exact wpAny_pure (handed_on rfl (wpAny_pure hq))
theorem zJH{a g:Value}(hc:(clsIn K C).isSome=true)(ha:qKk K (.ref C) name=some (some a))(hg:specialIn K a "__get__" = some (some g))(ht:takesIn K a=some true):qL2 K C od name=some (.bind g a):=by
 obtain⟨cd,hc⟩:=qCq.mp hc;unfold qL2;rw[hc,qD4,ha,qD4];simp only[hg,qD4,ht]
end
structure XIs(K:Frag)(C:Addr):Prop where
 xc:xcIn K C=true
 ga:qKk K (.ref C) "__getattribute__" = some (some (.builtin "BaseException.__getattribute__"))
 gg:qKk K (.ref C) "__getattr__" = some none
 hd:hasDictIn K C=true
 ca:qKk K (.ref C) "__class__" = some (some (.builtin "object.__class__"))
 cg:specialIn K (.builtin "object.__class__") "__get__" = some (some (.builtin "getset_descriptor.__get__"))
 ct:takesIn K (.builtin "object.__class__")=some true
 mo:mroIn K C (.type "object")=some true
theorem kitx_exc{K:Frag}{x C:Addr}(c:XIs K C):KitX K (.ref x) (.ref C) (fun h=>∃ox od,InstAt h x ox C od) where
 ty:=fun _ _ _ ⟨_,_,I⟩=>I.type
 it:=fun _ _ X _=>by
  obtain⟨cdD,hcD,_⟩:=qKo c.hd;unfold clsIn at hcD
  split at hcD
  ·rename_i c' d' cd' sl' ho
   intro A' Q' E' s' k q;unfold isType loadHead;exact wpAny_bind (wpAny_loadPart (k _ _ (X _ _ ho)) (wpAny_pure q))
  ·cases hcD
 ne:=fun h tp dd its n sl X htp=>by
  obtain⟨cdD,hcD,_⟩:=qKo c.hd;refine Bool.eq_false_iff.mpr fun q=>?_
  have e:C=tp:=qL3 (beq_iff_eq.mp q);subst e;unfold clsIn at hcD
  split at hcD
  ·rename_i c' d' cd' sl' ho
   have z:=(X _ _ ho).symm.trans htp;cases z
  ·cases hcD
 ca:=fun{_ _ _ _ _ s} X ⟨_,_,I⟩ k=>by
  obtain⟨cd,hc,_⟩:=qKo c.hd;obtain⟨h,g,d,t,os⟩:=s;exact zOQ X I c.xc c.ga c.gg (zJH (by rw[hc];rfl) c.ca c.cg c.ct) c.mo k
end PySem.Xc
namespace L2
open PySem PySem.Spec PyProof.Rows
section
variable{X:Cx}{pins:List (Addr×Obj)}{σ:St}{H:Hp}{s:qH6}{C e d:Addr}{f:Str}{pos:Pos}{ta:TE}
def isX(H:Hp)(e C:Addr)(d:Option Addr):Prop:=H e=some (xn e (.ref C) d)\/H e=some (xo e (.ref C) d)
theorem Inv.isX{d:Option Addr}(I:Inv X pins σ H s)(h:L2.isX H e C d):XO e (.ref C) d s.heap:=by
 rcases h with h|h
 ·exact(I.xn h).xo
 ·exact(I.hok e _ h).1
theorem Inv.instX0{d:Option Addr}(I:Inv X pins σ H s)(h:L2.isX H e C d)(hd:∀a,d=some a->∃fs,H a=some (.xd fs)):∃ox od,qEp s.heap e ox C od:=by
 obtain⟨oe,vs,h1,h2,h3,h4,_⟩:=I.isX h;have nc:qDn oe=true:=by unfold qDn;rw[h4]
 cases d with
 |none=>exact⟨oe,none,h1,h2,nc,by rw[h3];trivial⟩
 |some a=>
  obtain⟨fs,ha⟩:=hd a rfl;obtain⟨mA,hn,_⟩:=I.hok a _ ha;obtain⟨od,ho,_⟩:=zHC hn;exact⟨oe,some od,h1,h2,nc,by rw[h3];exact ho⟩
noncomputable def zTU(K:qA1)(ta:TE)(f:Str):TE:=fun σ H Q=>ta σ H fun x H1=>∃e C d fs v,x=.ref e/\L2.isX H1 e C (some d)/\H1 d=some (.xd fs)/\Xc.XIs K C/\qAi K (.ref C) f=some none/\fs.lookup f=some v/\Q v H1
theorem zEJ{ex:Expr}(he:PE X ex ta)(hb:qIm ex f X.env (eval ex X.env)=eval ex X.env):PE X (.Attribute ex f pos) (zTU X.K ta f):=by
 intro pins s σ H Q I h;refine zWW hb (thn (he pins s σ H _ I h) fun u s1 z0=>?_);obtain⟨x,H1,I1,rx,a,C,d,fs,v,ex,ea,hd,c,hf,l,q⟩:=z0;subst ex;obtain rfl:u=qHa a:=rx;obtain⟨oe,vs,h1,h2,h3,h4,_⟩:=I1.isX ea;have nc:qDn oe=true:=by unfold qDn;rw[h4]
 obtain⟨mA,hn,r⟩:=I1.hok d _ hd;obtain⟨od,ho,hl⟩:=zHC hn;obtain⟨u,hu,ru⟩:=RelO.some_of (v:=v) (o:=mA f) (by rw[<- l];exact r f);have J:qEp s1.heap a oe C (some od):=⟨h1,h2,nc,by rw[h3];exact ho⟩
 have I2:=I1.tok (s1.toks+1);have K1:=I1.kIn;obtain⟨hh,g,dr,tk,os⟩:=s1;exact Xc.get_excX K1 J c.xc c.ga c.gg (PySem.W.findObj_own c.hd hf rfl (by rw[hl,hu])) (zQO ru) ⟨v,H1,I2,ru,q⟩
noncomputable def clsV:List V->Option (List Value)
 |[]=>some []
 |.ref a::r=>(clsV r).map (qHa a::·)
 |.ty n::r=>(clsV r).map (qJ3 n::·)
 |_::_=>none
theorem zMF:∀{xs:List V}{its us:List Value},clsV xs=some its->Vals xs us->us=its
 |[],_,_,h,.nil=>by cases h;rfl
 |.ref a::r,its,_,h,.cons q t=>by
  obtain⟨l,hl,rfl⟩:=qBu.mp (show(clsV r).map (qHa a::·)=some its from h);rw[zMF hl t];cases q;rfl
 |.ty n::r,its,_,h,.cons q t=>by
  obtain⟨l,hl,rfl⟩:=qBu.mp (show(clsV r).map (qJ3 n::·)=some its from h);rw[zMF hl t];cases q;rfl
def zVF(K:qA1):List V->Hp->VK->Prop:=fun vs H Q=>∃e C d y b,vs=[.ref e,y]/\L2.isX H e C d/\(∀a,d=some a->∃fs,H a=some (.xd fs))/\Xc.XIs K C/\Q (.bl b) H /\
 ((∃c,y=.ref c/\qBb K (.ref C) (.ref c)=some b)\/(∃n,y=.ty n/\qBb K (.ref C) (.type n)=some b)\/∃p xs its,y=.ref p/\H p=some (.tup xs)/\clsV xs=some its/\PySem.W.kitAny K (.ref C) its=some b)
theorem zBZ:zDZ X (.builtin "isinstance") (zVF X.K):=by
 intro pins s σ H vs us Q I r h;obtain⟨e,C,d,y,b,rfl,hx,hd,c,q,hy⟩:=h;cases r with
 |cons r1 r2=>
  cases r2 with
  |cons ry r3=>
   cases r3;cases r1;have P:=I.instX0 hx hd
   rcases hy with⟨c',rfl,hk⟩|⟨n,rfl,hk⟩|⟨p,xs,its,rfl,hp,rv,hk⟩
   ·cases ry;exact qB3 (Xc.kitx_exc c) I.kIn P hk (fun z=>nomatch z) fun tk=>⟨.bl b,H,I.tok tk,rfl,q⟩
   ·cases ry;exact qB3 (Xc.kitx_exc c) I.kIn P hk (fun z=>nomatch z) fun tk=>⟨.bl b,H,I.tok tk,rfl,q⟩
   ·cases ry;obtain⟨_,us',r',ob,h1,h2,n,h3⟩:=I.hok p _ hp;obtain⟨oc,od,odt,osl⟩:=ob;dsimp only at h2 h3;subst h2 h3;rw[zMF rv r']at h1;exact PySem.W.kia_tup (Xc.kitx_exc c) I.kIn P h1 hk (fun z=>nomatch z) fun tk=>⟨.bl b,H,I.tok tk,rfl,q⟩
end
def HasX(P:qH9)(w:World)(K:qA1)(mg:Str->Option Value)(base:Heap)(x:Str)(k:Nat)(ps:List Str)(sp:Sp):Prop:=
 ∃f fd,FnOk P w K mg base (CXe P w) k f fd ps sp/\mg x=some (.ref f)/\qAv K (.ref f)=true/\Binds K fd ps []
section
variable{P:qH9}{w:World}{K:qA1}{mg:Str->Option Value}{base:Heap}{x:Str}{k:Nat}{ps N:List Str}{sp sp':Sp}{st:Stmt}
theorem Fun.okX{y qual:Str}{f:Addr}{fd:qHo}(F:Fun K y qual st f fd)(S:FnScope N ps (zA9 st))(len:∀vs H Q E,sp vs H Q E->vs.length=ps.length)
  (hbody:∀(cdv:Value)(A:qHb)(outer:List Env)(s:qH6)(H:Hp)(vs:List V)(Q:VK)(E:XK),Room k (A.deeper (envOfC qual (zA9 st) s.heap.objs.size f cdv))->sp vs H Q E ->
   ∃t,PSs (cxOf (CXe P w) P w K mg base N qual (zA9 st) f cdv A outer s H E) (zB1 st) t/\t { nx:=fun _ H'=>Q .non H',rt:=Q } (start N vs) H):FnOk P w K mg base (CXe P w) (k+1) f fd ps sp:=by
 obtain⟨oc,od,kV,doc,pm,an,cdv,ct,osl,rfl,lk,hcd⟩:=F.ex;exact zZ9 lk hcd S len fun A outer s H vs Q E hr hsp=>hbody cdv A outer s H vs Q E hr hsp
theorem Def.okX(D:Def K mg x st)(S:FnScope N ps (zA9 st))
  (hb:∀(kV doc pm:Value)(an:Option Addr)(cdv ct:Value)(us:List Value),us.length=ps.length->qJc (qAz x x (zBS st) (zB1 st) (zA9 st) .none kV doc pm an cdv ct) ⟨us,[]⟩=pure (ps.zip us))
  (len:∀vs H Q E,sp vs H Q E->vs.length=ps.length)
  (hbody:∀(f:Addr)(cdv:Value)(A:qHb)(outer:List Env)(s:qH6)(H:Hp)(vs:List V)(Q:VK)(E:XK),Room k (A.deeper (envOfC x (zA9 st) s.heap.objs.size f cdv))->sp vs H Q E ->
   ∃t,PSs (cxOf (CXe P w) P w K mg base N x (zA9 st) f cdv A outer s H E) (zB1 st) t/\t { nx:=fun _ H'=>Q .non H',rt:=Q } (start N vs) H):HasX P w K mg base x (k+1) ps sp:=by
 obtain⟨f,fd,F,m⟩:=D;exact⟨f,fd,F.okX S len (fun cdv A outer s H vs Q E hr h=>hbody f cdv A outer s H vs Q E hr h),m,F.kp,F.binds hb⟩
theorem zD2{qual:Str}{scope:Scope}{f:Addr}{cd:Value}{A:qHb}{outer:List Env}{s:qH6}{H:Hp}{E:XK}:Flies (cxOf (CXe P w) P w K mg base N qual scope f cd A outer s H E) E:=fun _ _ _ _ h=>zX0 (fun _ _ _ z=>z) h
end
section
variable{X:Cx}{x:Str}{j k:Nat}{ps:List Str}{sp:Sp}{e:Expr}{es:List Expr}{t:TA}{p pos:Pos}{E:XK}
theorem zN4(h:HasX X.prog X.w X.K X.mg X.base x j ps sp)(hjk:j<=k)(hr:Room k X.A)(hf:Flies X E)(hg:Gl X x)(ha:PA X (e::es) t)(hdb:(x==("__debug__":Str))=false:=by decide)
  (he:starEach (e::es) X.env=(false,eval e X.env)::starEach es X.env:=by rfl) (hpl:(backTo pos (starEach es X.env)).any (·.1)=false:=by rfl):PE X (.Call (.Name x p) (e::es) [] pos) (zF3 sp [] E t):=by
 obtain⟨f,fd,G,m,kp,b⟩:=h;exact zPT G (hr.mono hjk) hg m kp b .nil hf.passes ha hdb he hpl
theorem zPP(h:HasX X.prog X.w X.K X.mg X.base x j ps sp)(hjk:j<=k)(hr:Room k X.A)(hg:Gl X x)(ha:PA X.nox (e::es) t)(hdb:(x==("__debug__":Str))=false:=by decide)
  (he:starEach (e::es) X.env=(false,eval e X.env)::starEach es X.env:=by rfl) (hpl:(backTo pos (starEach es X.env)).any (·.1)=false:=by rfl):PEx X (.Call (.Name x p) (e::es) [] pos) (fun σ H Q E=>zF3 sp [] E t σ H Q):=by
 obtain⟨f,fd,G,m,kp,b⟩:=h;exact zSC G (hr.mono hjk) hg m kp b .nil ha hdb he hpl
theorem zGI{C:Addr}(hg:Gl X x)(hm:X.mg x=some (.ref C))(hdb:(x==("__debug__":Str))=false:=by decide):PE X (.Name x pos) (tC (.ref C)):=fun pins s σ H Q I h=>zDQ I hg hm ⟨.ref C,H,I,rfl,h⟩ hdb
end
end L2
namespace Att
open PySem PySem.W PySem.Calls PyProof.Rows
theorem zUT{ns:List Int}(h:qKy (ns.map qKw)<=2 ^ 20):∀i∈ns,i.natAbs.log2<2 ^ 20:=by
 induction ns with
 |nil=>intro i hi;cases hi
 |cons n r ih=>
  rw[qAn,qKy]at h;intro i hi
  rcases qAj.mp hi with rfl|hi
  ·rw[qL4]at h
   split at h
   ·rename_i z
    have:i=0:=beq_iff_eq.mp z
    subst this
    decide
   ·lia
  ·exact ih (by lia) i hi
theorem attach_callW{l:OpenLaw}{n:Nat}{q:qH9}{loose:List Str}{XP:(Str->Option Value)->Heap->Prop}{YP:World->Heap->Prop}{d:DefRec}
  (hn:l.most=some n) (hdf:d.params.defaults=[])
  (call:∀(w:World)(s₀ s₁:qH6)(mg mb:Str->Option Value)(fa:Addr)(o:Obj)(pm cd doc:Value)(a:Addr)(vs:List Value)(ns:List Int),
   Ground q loose [] XP w s₀ mg mb s₁.heap->YP w s₁.heap ->
   s₁.heap.get? fa=some o->o.data=.func (docDef d.name d.params d.body d.scope pm cd doc)->s₁.heap.CodeRec cd d.name->mg d.name=some (.ref fa) ->
   s₁.heap.get? a=some { cls:=.type "list",data:=.seq vs.toArray }->qKd vs ns->ns.length<=n->(∀i∈ns,i.natAbs.log2<2 ^ 20)->s₁.gens=#[] ->
   qIj (model l.prog w) qK9 (.call (.ref fa) ⟨[.ref a],[]⟩) (fun r s'=>r=.ok (.ret (.bool true))/\OldK s₁.heap s'.heap/\s'.os=s₁.os/\qJa s'.gens) s₁) :
  WalkO q loose XP YP l.row.toRowW d [] (fun f vs=>qFb f vs):=by
 intro w s₀ s₁ mg mb G Y fa o pm cd doc dV kV ho hd hcd hD hmg hg args vals as hpre hlay hrd hwl hlo;obtain rfl:dV=.none:=Dflts.none hD hdf;obtain rfl:kV=.none:=Dflts.noKw hD;obtain⟨a,vs,ns,rfl,rfl,hobj,hints,hlen⟩:=zPF hn hpre hwl;have hw:∀i∈ns,i.natAbs.log2<2 ^ 20:=by
  have hl:qKn [WData.list (ns.map qKw)]=true:=hlay;simp only[qKn,qDv,List.all_nil,qDy,WData.layable,qBi,decide_eq_true_eq]at hl;exact zUT (by have:=hl.2;rw[qL4]at this;exact this)
 refine enter_call (codeAny_mono (call w s₀ s₁ mg mb fa o pm cd doc a vs ns G Y ho (fd_plain hd) hcd hmg hobj hints hlen hw hg) fun r s' hq=>?_);obtain⟨rfl,h2,h3,h4⟩:=hq;exact⟨.inl ⟨.bool true,.bool true,[],rfl,fun _=>rfl,.bool true,zPO l _,fun _=>⟨qF9,fun _ hm=>(nomatch hm)⟩⟩,h2,h3,h4⟩
end Att
namespace L2
open PySem PySem.Spec PyProof.Rows
def MulOk(i j:Int):Prop:=((-(2 ^ 64)<i/\i<2 ^ 64)\/(-(2 ^ 64)<j/\j<2 ^ 64))\/i.natAbs.log2+j.natAbs.log2<=67108864
theorem zRI(i:Int):qI7 i<=i.natAbs.log2+1:=by
 unfold qI7
 split<;>lia
theorem MulOk.ok{i j:Int}(h:MulOk i j):IntMulOk i j:=by
 rcases h with h|h
 ·exact CMul.ok h
 ·unfold IntMulOk;have h1:=zRI i;have h2:=zRI j;have h3:qJp ((qI7 i:Int)+(qI7 j:Int))=false:=by
   unfold qJp
   have:(bitsLine:Int)=134217728:=by decide
   rw[this];simp only[gt_iff_lt,decide_eq_false_iff_not,Int.not_lt]
   lia
  rw[h3,qCk];exact qAc
section
variable{X:Cx}
noncomputable def zY3:R2:=fun x y H Q=>match x,y with
 |.int i,.int j=>MulOk i j/\Q (.int (i*j)) H
 |_,_=>False
theorem zVU:OpR X (binaryOp .Mult) (rI MulOk fun i j=>.int (i*j)):=opI fun _ _ _ _ _ _ _ hc q=>mul_int q hc.ok
theorem zCM:OpR X (binaryOp .Mult) zY3:=by
 intro pins s σ H x y v u Q I rx ry h;cases x<;>cases y<;>first
  |exact zVU pins s σ H _ _ v u Q I rx ry ⟨_,_,rfl,rfl,h.1,h.2⟩
  |exact qA8 h
noncomputable def zY6:R2:=fun x y H Q=>match x,y with
 |.int i,.int j=>(0<j/\j<1000000000000000000000000)/\Q (.int (i/j)) H
 |_,_=>False
theorem log2_lt{n:Nat}(h:n<1000000000000000000000000):n.log2<9000:=by
 by_cases z:n=0
 ·subst z;decide
 ·have h2:n<2 ^ 80:=by lia
  have:=(Nat.log2_lt z).mpr h2
  lia
theorem zVV:OpR X (binaryOp .FloorDiv) (rI (fun _ j=>0<j/\j<1000000000000000000000000) fun i j=>.int (i/j)):=opI fun i j _ _ _ _ _ hc q=>by
 have h1:(0:Int)<j:=hc.1;have h2:j<1000000000000000000000000:=hc.2;exact floordiv_int (by lia) (by rw[Int.fdiv_eq_ediv_of_nonneg i (by lia)];exact q) (.inl (PyProof.noPylong_of_log2 (log2_lt (by lia))))
theorem zFH:OpR X (binaryOp .FloorDiv) zY6:=by
 intro pins s σ H x y v u Q I rx ry h;cases x<;>cases y<;>first
  |exact zVV pins s σ H _ _ v u Q I rx ry ⟨_,_,rfl,rfl,h.1,h.2⟩
  |exact qA8 h
end
noncomputable def del(H:Hp)(a:Addr):Hp:=fun b=>if b=a then none else H b
theorem zUK{H:Hp}{a b:Addr}(h:b≠a):del H a b=H b:=by unfold del;rw[if_neg h]
abbrev cel(co:Obj):HO:=.frz co (.ext fun _=>True)
section
variable{P:qH9}{w:World}{H H':Hp}{h h':Heap}{a:Addr}{co:Obj}{fs:List Addr}
end
abbrev lamO(q:Str)(params:Arguments)(body:Expr)(scope:Scope)(clos:List (Str×Addr))(pm cdv ctv:Value):Obj:=
 { cls:=.type "function",data:=.func (PySem.W.kla_fn "<lambda>" q params body scope clos pm cdv ctv) }
section
variable{X:Cx}
end
section
variable{X:Cx}{k:Nat}{f cl:Addr}{fd:qHo}{ps:List Str}{sp:Sp}{x nm:Str}{p pos:Pos}{e:Expr}{es:List Expr}{t:TA}{i:Nat}
end
def cxLam(X:Cx)(N:List Str)(q:Str)(scope:Scope)(f:Addr)(cd:Value)(clos:List (Str×Addr))(s:qH6)(H:Hp):Cx where
 prog:=X.prog
 w:=X.w
 K:=X.K
 mg:=X.mg
 base:=X.base
 A:=X.A.deeper (qFd q scope s.heap.objs.size f cd clos)
 N:=N
 s₀:=s
 H₀:=H
 env:=qFd q scope s.heap.objs.size f cd clos
 outer:=X.stack
 stack:=qFd q scope s.heap.objs.size f cd clos::X.stack
 ex:=[]
 fn:=fun _=>false
 calm:=true
 pn:=[]
 xe:=fun _ _=>False
section
variable{X:Cx}{pins:List (Addr×Obj)}{σ:St}{H:Hp}{s:qH6}{Q:VK}{us:List Value}{vs:List V}{f cl:Addr}{q nm:Str}{params:Arguments}{body:Expr}{scope:Scope}{pm cdv ctv:Value}{co:Obj}{val:Value}{v:V}{ps:List Str}
end
section
variable{X:Cx}{i:Nat}{x:Str}{p pos:Pos}{e:Expr}{es:List Expr}{t:TA}{r:Addr->List V->Hp->VK->Prop}
end
end L2
namespace L3
open PySem PySem.Spec
open L2 hiding Rep RepL
open Mi (Dt Xn R okR zA4 optR zA1 zAA zAE zA8 zAD Rh Sl Ro EM TM AM FM IM SM Tg Out zAS zAT zAV full frz frz1 frzAt)
section
class Kc where
 K:qA1
variable[Kc]
noncomputable def clK(K:qA1)(c:Str):Option Addr:=match qBe K qHc c with
 |some (some (.ref C))=>some C
 |_=>none
def KTP(K:qA1)(a:Addr)(xs:List V):Prop:=xs≠[]/\∃(o:Obj)(its:Array Value)(n:Nat),K.lookup a=some o/\o.cls=.type "tuple"/\o.data=.seq its n/\its.size<=sizeLine/\Vals xs its.toList
theorem KTP.t{K:qA1}{H:Hp}{a:Addr}{xs:List V}(h:KTP K a xs):SqT K H a xs:=.inr h.2
def SqR(K:qA1)(H:Hp)(a:Addr)(xs:List V):Prop:=SqL K H a xs\/KTP K a xs
theorem SqR.old{K:qA1}{H:Hp}{a:Addr}{xs:List V}(h:SqR K H a xs):SqL K H a xs\/SqT K H a xs:=h.imp_right fun z=>z.t
theorem zK7{K:qA1}{H H':Hp}{a:Addr}{xs:List V}(e:Same H H')(h:SqT K H a xs):SqT K H' a xs:=by
 rcases h with(h|⟨o,h⟩)|h
 ·exact .inl (.inl (e _ _ h))
 ·exact .inl (.inr ⟨o,e _ _ h⟩)
 ·exact .inr h
theorem zFI{K:qA1}{H H':Hp}{a:Addr}{xs:List V}(e:Same H H')(h:SqR K H a xs):SqR K H' a xs:=h.imp_left fun z=>e.seq z
noncomputable def svV:Mi.Sv->V
 |.i n=>.int n
 |.s x=>.str x
noncomputable def swV:Mi.Sw->V
 |.non=>.non
 |.bl b=>.bl b
 |.int i=>.int i
 |.str x=>.str x
def kNw:Mi.Sw->KeyN
 |.non=>none
 |.bl b=>some (.inl (zLJ b))
 |.int i=>some (.inl i)
 |.str x=>some (.inr x)
noncomputable def noBw:Mi.Sw->Bool
 |.bl _=>false
 |_=>true
def noBk(ks:List (List Mi.Sw)):Bool:=ks.all fun k=>k.all noBw
noncomputable def isBl:V->Bool
 |.bl _=>true
 |_=>false
def KeyT(H:Hp)(T:Addr->Prop)(ks:List (List Mi.Sw)):Prop:=(ks.map fun k=>k.map kNw).Nodup/\∀c,T c->∃ys,H c=some (.tup ys)/\(noBk ks=true->∀y∈ys,isBl y=false)
theorem KeyT.mono{H H':Hp}{T:Addr->Prop}{ks:List (List Mi.Sw)}(s:Same H H')(h:KeyT H T ks):KeyT H' T ks:=⟨h.1,fun c t=>let⟨ys,e,n⟩:=h.2 c t;⟨ys,s _ _ e,n⟩⟩
abbrev kzip(ks:List (List Mi.Sw))(xs:List V):List (List KeyN×V):=(ks.map fun k=>k.map kNw).zip xs
noncomputable def zWH:Expr->Option (Arguments×Expr×Scope×Str)
 |.Call _ [_,.Lambda ps b sc _] _ _=>match sc.names.find? fun p=>p.2==.free with
  |some (x,_)=>some (ps,b,sc,x)
  |none=>none
 |_=>none
def za8:Stmt->Option (Arguments×Expr×Scope×Str)
 |.Return (some e) _=>zWH e
 |.Assign _ e _=>zWH e
 |.If _ (_::.Return (some e) _::_) _ _=>zWH e
 |_=>none
def zaL(l:List Stmt):Option (Arguments×Expr×Scope×Str):=l.findSome? za8
def lamK(K:qA1)(x:Str):Option (Arguments×Expr×Scope×Str):=match qBe K qHc x with
 |some (some (.ref f))=>match K.lookup f with
  |some o=>match o.data with
   |.func fd=>match fd.body with
    |.stmts b=>zaL b
    |_=>none
   |_=>none
  |none=>none
 |_=>none
noncomputable def lamQ(x:Str):Str:=x ++ ".<locals>." ++ "<lambda>"
noncomputable def codP(K:qA1)(x:Str):Option Addr:=match qBe K qHc x with
 |some (some (.ref f))=>match K.lookup f with
  |some o=>match o.data with
   |.func fd=>match fd.code with
    |.ref c=>match K.lookup c with
     |some o=>match o.data with
      |.fields vs=>match(vs[11]?:Option Value)with
       |some (.ref P)=>some P
       |_=>none
      |_=>none
     |none=>none
    |_=>none
   |_=>none
  |none=>none
 |_=>none
noncomputable def makers:List Str:=["turned_at","exchanged_at","pivoted"]
def tabK(K:qA1):Hp:=fun P=>(makers.find? fun x=>codP K x==some P&&(lamK K x).isSome).map fun x=>.lam (lamQ x)
mutual
def Rep(H:Hp):Dt->V->Prop
 |.non,v=>v=.non
 |.bl b,v=>v=.bl b
 |.int i,v=>v=.int i
 |.str x,v=>v=.str x
 |.lst ds,v=>∃a xs,v=.ref a/\H a=some (.lst xs)/\RepL H ds xs
 |.tup ds,v=>∃a xs,v=.ref a/\H a=some (.tup xs)/\RepL H ds xs
 |.scr ns,v=>∃a,v=.ref a/\SqR Kc.K H a (ns.map V.int)
 |.exc c f d,v=>∃e C da,v=.ref e/\isX H e C da/\clK Kc.K c=some C/\((da=none/\f = "")\/∃a gs w,da=some a/\H a=some (.xd gs)/\gs.lookup f=some w/\Rep H d w)
 |.ins c fs,v=>∃a C dx,v=.ref a/\clK Kc.K c=some C/\H a=some (.ins C dx (fs.map fun p=>(p.1,svV p.2)))
 |.dct kvs,v=>∃a,v=.ref a/\H a=some (.dK (kvs.map fun p=>(p.1,swV p.2)))
 |.fn x d,v=>∃f,v=.ref f/\∃L cl pm cdv ctv co val w,lamK Kc.K x=some L/\H f=some (.fn (lamO (lamQ x) L.1 L.2.1 L.2.2.1 [(L.2.2.2,cl)] pm cdv ctv) (lamQ x))/\H cl=some (cel co)/\co.data=.cell (some val)/\RelV w val/\Rep H d w
 |.dtt ks ds,v=>∃a T e0 xs,v=.ref a/\H a=some (.dT T e0 (kzip ks xs))/\ks.length=ds.length/\KeyT H T ks/\RepL H ds xs
 |.loc a d,v=>v=.ref a/\Rep H d v
def RepL(H:Hp):List Dt->List V->Prop
 |[],xs=>xs=[]
 |d::r,xs=>∃x q,xs=x::q/\Rep H d x/\RepL H r q
end
mutual
theorem Rep.mono{H H':Hp}(s:Same H H'):∀{d:Dt}{v:V},Rep H d v->Rep H' d v
 |.non,_,h=>h
 |.bl _,_,h=>h
 |.int _,_,h=>h
 |.str _,_,h=>h
 |.lst _,_,h=>by obtain⟨a,xs,e,e',r⟩:=h;exact⟨a,xs,e,s _ _ e',RepL.mono s r⟩
 |.tup _,_,h=>by obtain⟨a,xs,e,e',r⟩:=h;exact⟨a,xs,e,s _ _ e',RepL.mono s r⟩
 |.scr _,_,h=>by obtain⟨a,e,e'⟩:=h;exact⟨a,e,zFI s e'⟩
 |.exc _ _ _,_,h=>by
  obtain⟨a,C,da,e,e',hc,r⟩:=h;refine⟨a,C,da,e,e'.imp (fun z=>s _ _ z) fun z=>s _ _ z,hc,r.imp (fun z=>z) ?_⟩
  rintro⟨b,gs,w,h1,h2,h3,h4⟩
  exact⟨b,gs,w,h1,s _ _ h2,h3,Rep.mono s h4⟩
 |.ins _ _,_,h=>by obtain⟨a,C,dx,e,hc,h1⟩:=h;exact⟨a,C,dx,e,hc,s _ _ h1⟩
 |.dct _,_,h=>by obtain⟨a,e,h1⟩:=h;exact⟨a,e,s _ _ h1⟩
 |.fn _ _,_,h=>by obtain⟨f,e,L,cl,pm,cdv,ctv,co,val,w,h1,h2,h3,h4,h5,h6⟩:=h;exact⟨f,e,L,cl,pm,cdv,ctv,co,val,w,h1,s _ _ h2,s _ _ h3,h4,h5,Rep.mono s h6⟩
 |.dtt _ _,_,h=>by obtain⟨a,T,e0,xs,e,e',hl,ht,r⟩:=h;exact⟨a,T,e0,xs,e,s _ _ e',hl,ht.mono s,RepL.mono s r⟩
 |.loc _ _,_,h=>⟨h.1,Rep.mono s h.2⟩
theorem RepL.mono{H H':Hp}(s:Same H H'):∀{ds:List Dt}{xs:List V},RepL H ds xs->RepL H' ds xs
 |[],_,h=>h
 |_::_,_,h=>by obtain⟨x,q,e,r,t⟩:=h;exact⟨x,q,e,Rep.mono s r,RepL.mono s t⟩
end
theorem RepL.length{H:Hp}:∀{ds:List Dt}{xs:List V},RepL H ds xs->xs.length=ds.length
 |[],_,h=>by cases h;rfl
 |_::_,_,h=>by obtain⟨x,q,e,r,t⟩:=h;subst e;simp[RepL.length t]
mutual
def conv:Dt->L2.Dat
 |.non=>.non
 |.bl b=>.bl b
 |.int i=>.int i
 |.str x=>.str x
 |.lst ds=>.lst (convL ds)
 |.tup ds=>.tup (convL ds)
 |.scr _=>.non
 |.exc _ _ _=>.non
 |.fn _ _=>.non
 |.dtt _ _=>.non
 |.loc _ _=>.non
 |.ins _ _=>.non
 |.dct _=>.non
def convL:List Dt->List L2.Dat
 |[]=>[]
 |d::r=>conv d::convL r
end
mutual
theorem zFZ:∀{d:Dt},d.dep<=40->(conv d).dep<=d.dep
 |.non,_=>qA6 _
 |.bl _,_=>qA6 _
 |.int _,_=>qA6 _
 |.str _,_=>qA6 _
 |.lst ds,h=>by rw[Dt.dep]at h ⊢;rw[conv,L2.Dat.dep];have:=conv_depL (ds:=ds) (by lia);lia
 |.tup ds,h=>by rw[Dt.dep]at h ⊢;rw[conv,L2.Dat.dep];have:=conv_depL (ds:=ds) (by lia);lia
 |.scr _,h=>by rw[Dt.dep]at h;lia
 |.exc _ _ _,h=>by rw[Dt.dep]at h;lia
 |.fn _ _,h=>by rw[Dt.dep]at h;lia
 |.dtt _ _,h=>by rw[Dt.dep]at h;lia
 |.loc _ _,h=>by rw[Dt.dep]at h;lia
 |.ins _ _,h=>by rw[Dt.dep]at h;lia
 |.dct _,h=>by rw[Dt.dep]at h;lia
theorem conv_depL:∀{ds:List Dt},Dt.depL ds<=40->L2.Dat.depL (convL ds)<=Dt.depL ds
 |[],_=>qA6 _
 |d::r,h=>by
  rw[Dt.depL]at h ⊢;rw[convL,L2.Dat.depL];have h1:=zFZ (d:=d) (by lia);have h2:=conv_depL (ds:=r) (by lia)
  lia
end
mutual
theorem zEN{H:Hp}:∀{d:Dt}{v:V},d.dep<=40->Rep H d v->L2.Rep H (conv d) v
 |.non,_,_,h=>h
 |.bl _,_,_,h=>h
 |.int _,_,_,h=>h
 |.str _,_,_,h=>h
 |.lst ds,_,hd,h=>by obtain⟨a,xs,e,e',r⟩:=h;exact⟨a,xs,e,e',conv_repL (by rw[Dt.dep]at hd;lia) r⟩
 |.tup ds,_,hd,h=>by obtain⟨a,xs,e,e',r⟩:=h;exact⟨a,xs,e,e',conv_repL (by rw[Dt.dep]at hd;lia) r⟩
 |.scr _,_,h,_=>by rw[Dt.dep]at h;lia
 |.exc _ _ _,_,h,_=>by rw[Dt.dep]at h;lia
 |.fn _ _,_,h,_=>by rw[Dt.dep]at h;lia
 |.dtt _ _,_,h,_=>by rw[Dt.dep]at h;lia
 |.loc _ _,_,h,_=>by rw[Dt.dep]at h;lia
 |.ins _ _,_,h,_=>by rw[Dt.dep]at h;lia
 |.dct _,_,h,_=>by rw[Dt.dep]at h;lia
theorem conv_repL{H:Hp}:∀{ds:List Dt}{xs:List V},Dt.depL ds<=40->RepL H ds xs->L2.RepL H (convL ds) xs
 |[],_,_,h=>h
 |d::r,_,hd,h=>by
  rw[Dt.depL]at hd;obtain⟨x,q,e,a,b⟩:=h;exact⟨x,q,e,zEN (by lia) a,conv_repL (by lia) b⟩
end
mutual
theorem zME:∀{d e:Dt},d.dep<=40->e.dep<=40->L2.Dat.eq (conv d) (conv e)=Dt.eq d e
 |.scr _,_,h,_=>by rw[Dt.dep]at h;lia
 |.exc _ _ _,_,h,_=>by rw[Dt.dep]at h;lia
 |.fn _ _,_,h,_=>by rw[Dt.dep]at h;lia
 |.dtt _ _,_,h,_=>by rw[Dt.dep]at h;lia
 |.loc _ _,_,h,_=>by rw[Dt.dep]at h;lia
 |.ins _ _,_,h,_=>by rw[Dt.dep]at h;lia
 |.dct _,_,h,_=>by rw[Dt.dep]at h;lia
 |.lst ds,e,h,h'=>by
  rw[Dt.dep]at h;cases e with
  |lst es=>rw[Dt.dep]at h';rw[conv,conv,L2.Dat.eq,Dt.eq];exact conv_eqL (by lia) (by lia)
  |scr _=>rw[Dt.dep]at h';lia
  |exc _ _ _=>rw[Dt.dep]at h';lia
  |fn _ _=>rw[Dt.dep]at h';lia
  |dtt _ _=>rw[Dt.dep]at h';lia
  |loc _ _=>rw[Dt.dep]at h';lia
  |ins _ _=>rw[Dt.dep]at h';lia
  |dct _=>rw[Dt.dep]at h';lia
  |_=>simp[conv,L2.Dat.eq,Dt.eq]
 |.tup ds,e,h,h'=>by
  rw[Dt.dep]at h;cases e with
  |tup es=>rw[Dt.dep]at h';rw[conv,conv,L2.Dat.eq,Dt.eq];exact conv_eqL (by lia) (by lia)
  |scr _=>rw[Dt.dep]at h';lia
  |exc _ _ _=>rw[Dt.dep]at h';lia
  |fn _ _=>rw[Dt.dep]at h';lia
  |dtt _ _=>rw[Dt.dep]at h';lia
  |loc _ _=>rw[Dt.dep]at h';lia
  |ins _ _=>rw[Dt.dep]at h';lia
  |dct _=>rw[Dt.dep]at h';lia
  |_=>simp[conv,L2.Dat.eq,Dt.eq]
 |.non,e,_,h'=>by
  cases e with
  |scr _=>rw[Dt.dep]at h';lia
  |exc _ _ _=>rw[Dt.dep]at h';lia
  |fn _ _=>rw[Dt.dep]at h';lia
  |dtt _ _=>rw[Dt.dep]at h';lia
  |loc _ _=>rw[Dt.dep]at h';lia
  |ins _ _=>rw[Dt.dep]at h';lia
  |dct _=>rw[Dt.dep]at h';lia
  |_=>simp[conv,L2.Dat.eq,Dt.eq]
 |.bl _,e,_,h'=>by
  cases e with
  |scr _=>rw[Dt.dep]at h';lia
  |exc _ _ _=>rw[Dt.dep]at h';lia
  |fn _ _=>rw[Dt.dep]at h';lia
  |dtt _ _=>rw[Dt.dep]at h';lia
  |loc _ _=>rw[Dt.dep]at h';lia
  |ins _ _=>rw[Dt.dep]at h';lia
  |dct _=>rw[Dt.dep]at h';lia
  |_=>simp[conv,L2.Dat.eq,Dt.eq]
 |.int _,e,_,h'=>by
  cases e with
  |scr _=>rw[Dt.dep]at h';lia
  |exc _ _ _=>rw[Dt.dep]at h';lia
  |fn _ _=>rw[Dt.dep]at h';lia
  |dtt _ _=>rw[Dt.dep]at h';lia
  |loc _ _=>rw[Dt.dep]at h';lia
  |ins _ _=>rw[Dt.dep]at h';lia
  |dct _=>rw[Dt.dep]at h';lia
  |_=>simp[conv,L2.Dat.eq,Dt.eq]
 |.str _,e,_,h'=>by
  cases e with
  |scr _=>rw[Dt.dep]at h';lia
  |exc _ _ _=>rw[Dt.dep]at h';lia
  |fn _ _=>rw[Dt.dep]at h';lia
  |dtt _ _=>rw[Dt.dep]at h';lia
  |loc _ _=>rw[Dt.dep]at h';lia
  |ins _ _=>rw[Dt.dep]at h';lia
  |dct _=>rw[Dt.dep]at h';lia
  |_=>simp[conv,L2.Dat.eq,Dt.eq]
theorem conv_eqL:∀{ds es:List Dt},Dt.depL ds<=40->Dt.depL es<=40->L2.Dat.eqL (convL ds) (convL es)=Dt.eqL ds es
 |[],[],_,_=>by simp[convL,L2.Dat.eqL,Dt.eqL]
 |[],_::_,_,_=>by simp[convL,L2.Dat.eqL,Dt.eqL]
 |_::_,[],_,_=>by simp[convL,L2.Dat.eqL,Dt.eqL]
 |d::r,e::t,h,h'=>by
  rw[Dt.depL]at h h';rw[convL,convL,L2.Dat.eqL,Dt.eqL,zME (by lia) (by lia),conv_eqL (by lia) (by lia)]
end
theorem zCH{G:Hp}:∀{ds:List Dt}{xs:List V}{q:Nat}{d:Dt}{x:V},RepL G ds xs->ds[q]?=some d->xs[q]?=some x->Rep G d x
 |[],_,_,_,_,_,h,_=>by simp at h
 |d::r,xs,0,e,y,h,h1,h2=>by
  obtain⟨x,t,rfl,a,b⟩:=h;simp at h1 h2;subst h1;subst h2;exact a
 |d::r,xs,q+1,e,y,h,h1,h2=>by
  obtain⟨x,t,rfl,a,b⟩:=h;exact zCH b (by simpa using h1) (by simpa using h2)
theorem zE3{G:Hp}:∀{ds:List Dt}{xs:List V},xs.length=ds.length->(∀(q:Nat)(d:Dt)(x:V),ds[q]?=some d->xs[q]?=some x->Rep G d x)->RepL G ds xs
 |[],[],_,_=>rfl
 |[],_::_,h,_=>by simp at h
 |_::_,[],h,_=>by simp at h
 |d::r,x::t,h,k=>⟨x,t,rfl,k 0 d x rfl rfl,zE3 (by simpa using h) fun q e y h1 h2=>k (q+1) e y (by simpa using h1) (by simpa using h2)⟩
theorem zFB{n:Nat}:∀{ds:List Dt},Dt.depL ds<=n->∀{q:Nat}{d:Dt},ds[q]?=some d->d.dep<=n
 |[],_,_,_,h=>by simp at h
 |e::r,h,0,d,h1=>by simp at h1;subst h1;rw[Dt.depL]at h;lia
 |e::r,h,q+1,d,h1=>by rw[Dt.depL]at h;exact zFB (ds:=r) (by lia) (q:=q) (by simpa using h1)
structure Kids(P:(Addr->Prop)->Dt->V->Prop)(S:Addr->Prop)(a:Addr)(ds:List Dt)(xs:List V)(T:Nat->Addr->Prop):Prop where
 len:xs.length=ds.length
 own:∀(q:Nat)(d:Dt)(x:V),ds[q]?=some d->xs[q]?=some x->P (T q) d x
 top:S a
 out:∀q,¬T q a
 dis:∀q r b,T q b->T r b->q=r
 sub:∀q b,T q b->S b
def Own(G H:Hp):Nat->(Addr->Prop)->Dt->V->Prop
 |0,_,d,v=>Rep G d v
 |n+1,S,d,v=>match d with
  |.lst ds=>∃a xs T,v=.ref a/\H a=some (.lst xs)/\Kids (Own G H n) S a ds xs T
  |.tup ds=>∃a xs T,v=.ref a/\H a=some (.tup xs)/\Kids (Own G H n) S a ds xs T
  |.dct kvs=>∃a,v=.ref a/\H a=some (.dK (kvs.map fun p=>(p.1,swV p.2)))/\S a
  |.dtt ks ds=>∃a T0 e0 xs T,v=.ref a/\H a=some (.dT T0 e0 (kzip ks xs))/\ks.length=ds.length/\KeyT G T0 ks/\Kids (Own G H n) S a ds xs T
  |.loc a d=>v=.ref a/\Own G H n S d v
  |d=>Rep G d v
theorem Kids.imp{P P':(Addr->Prop)->Dt->V->Prop}{S S':Addr->Prop}{a:Addr}{ds:List Dt}{xs:List V}{T:Nat->Addr->Prop}(k:Kids P S a ds xs T)
  (h:∀q d x,ds[q]?=some d->P (T q) d x->P' (T q) d x) (hs:∀b,S b->S' b):Kids P' S' a ds xs T:=
 ⟨k.len,fun q d x h1 h2=>h q d x h1 (k.own q d x h1 h2),hs _ k.top,k.out,k.dis,fun q b t=>hs _ (k.sub q b t)⟩
theorem Own.mono{G G' H H':Hp}(sG:Same G G')(sH:Same H H'):∀{n:Nat}{S:Addr->Prop}{d:Dt}{v:V},Own G H n S d v->Own G' H' n S d v
 |0,S,d,v,h=>Rep.mono sG h
 |n+1,S,d,v,h=>by
  cases d with
  |lst ds=>obtain⟨a,xs,T,e,ha,k⟩:=h;exact⟨a,xs,T,e,sH _ _ ha,k.imp (fun _ _ _ _ p=>Own.mono sG sH p) fun _ z=>z⟩
  |tup ds=>obtain⟨a,xs,T,e,ha,k⟩:=h;exact⟨a,xs,T,e,sH _ _ ha,k.imp (fun _ _ _ _ p=>Own.mono sG sH p) fun _ z=>z⟩
  |dct kvs=>obtain⟨a,e,ha,hs⟩:=h;exact⟨a,e,sH _ _ ha,hs⟩
  |dtt ks ds=>obtain⟨a,T0,e0,xs,T,e,ha,hl,ht,k⟩:=h;exact⟨a,T0,e0,xs,T,e,sH _ _ ha,hl,ht.mono sG,k.imp (fun _ _ _ _ p=>Own.mono sG sH p) fun _ z=>z⟩
  |loc a d=>exact⟨h.1,Own.mono sG sH h.2⟩
  |_=>exact Rep.mono sG h
theorem Own.sub{G H:Hp}:∀{n:Nat}{S S':Addr->Prop}{d:Dt}{v:V},Own G H n S d v->(∀b,S b->S' b)->Own G H n S' d v
 |0,_,_,_,_,h,_=>h
 |n+1,S,S',d,v,h,hs=>by
  cases d with
  |lst ds=>obtain⟨a,xs,T,e,ha,k⟩:=h;exact⟨a,xs,T,e,ha,k.imp (fun _ _ _ _ p=>p) hs⟩
  |tup ds=>obtain⟨a,xs,T,e,ha,k⟩:=h;exact⟨a,xs,T,e,ha,k.imp (fun _ _ _ _ p=>p) hs⟩
  |dct kvs=>obtain⟨a,e,ha,h2⟩:=h;exact⟨a,e,ha,hs _ h2⟩
  |dtt ks ds=>obtain⟨a,T0,e0,xs,T,e,ha,hl,ht,k⟩:=h;exact⟨a,T0,e0,xs,T,e,ha,hl,ht,k.imp (fun _ _ _ _ p=>p) hs⟩
  |loc a d=>exact⟨h.1,Own.sub h.2 hs⟩
  |_=>exact h
theorem Own.rep{G H J:Hp}(sG:Same G J):∀{n:Nat}{S:Addr->Prop}{d:Dt}{v:V},Own G H n S d v->(∀a o,S a->H a=some o->J a=some o)->Rep J d v
 |0,S,d,v,h,_=>Rep.mono sG h
 |n+1,S,d,v,h,hj=>by
  cases d with
  |lst ds=>obtain⟨a,xs,T,e,ha,k⟩:=h;exact⟨a,xs,e,hj _ _ k.top ha,zE3 k.len fun q d x h1 h2=>Own.rep sG (k.own q d x h1 h2) fun b o t hb=>hj b o (k.sub q b t) hb⟩
  |tup ds=>obtain⟨a,xs,T,e,ha,k⟩:=h;exact⟨a,xs,e,hj _ _ k.top ha,zE3 k.len fun q d x h1 h2=>Own.rep sG (k.own q d x h1 h2) fun b o t hb=>hj b o (k.sub q b t) hb⟩
  |dct kvs=>obtain⟨a,e,ha,hs⟩:=h;exact⟨a,e,hj _ _ hs ha⟩
  |dtt ks ds=>obtain⟨a,T0,e0,xs,T,e,ha,hl,ht,k⟩:=h;exact⟨a,T0,e0,xs,e,hj _ _ k.top ha,hl,ht.mono sG,zE3 k.len fun q d x h1 h2=>Own.rep sG (k.own q d x h1 h2) fun b o t hb=>hj b o (k.sub q b t) hb⟩
  |loc a d=>exact⟨h.1,Own.rep sG h.2 hj⟩
  |_=>exact Rep.mono sG h
theorem Own.at{G G2 H:Hp}:∀{n k:Nat}{S:Addr->Prop}{d:Dt}{v:V},Own G H n S d v->d.dep<=n->d.dep<=k->n<1000->Own G2 H k S d v
 |n,k,S,d,v,h,hn,hk,hz=>by
  cases d with
  |lst ds=>
   rw[Dt.dep]at hn hk;cases n with
   |zero=>lia
   |succ n=>
    cases k with
    |zero=>lia
    |succ k=>
     obtain⟨a,xs,T,e,ha,kd⟩:=h;refine⟨a,xs,T,e,ha,kd.imp (fun q d x h1 p=>?_) fun _ z=>z⟩;exact Own.at p (zFB (by lia) h1) (zFB (by lia) h1) (by lia)
  |tup ds=>
   rw[Dt.dep]at hn hk;cases n with
   |zero=>lia
   |succ n=>
    cases k with
    |zero=>lia
    |succ k=>
     obtain⟨a,xs,T,e,ha,kd⟩:=h;refine⟨a,xs,T,e,ha,kd.imp (fun q d x h1 p=>?_) fun _ z=>z⟩;exact Own.at p (zFB (by lia) h1) (zFB (by lia) h1) (by lia)
  |non=>cases n<;>cases k<;>exact h
  |bl b=>cases n<;>cases k<;>exact h
  |int i=>cases n<;>cases k<;>exact h
  |str x=>cases n<;>cases k<;>exact h
  |scr ns=>rw[Dt.dep]at hn;lia
  |exc _ _ _=>rw[Dt.dep]at hn;lia
  |fn _ _=>rw[Dt.dep]at hn;lia
  |dtt _ _=>rw[Dt.dep]at hn;lia
  |loc _ _=>rw[Dt.dep]at hn;lia
  |ins _ _=>rw[Dt.dep]at hn;lia
  |dct _=>rw[Dt.dep]at hn;lia
termination_by n=>n
theorem Own.scalar{G H G2 H2:Hp}{n k:Nat}{S S2:Addr->Prop}{d:Dt}{v:V}(h:Own G H n S d v)(hd:d.dep=0):Own G2 H2 k S2 d v:=by
 cases d with
 |lst ds=>rw[Dt.dep]at hd;lia
 |tup ds=>rw[Dt.dep]at hd;lia
 |non=>cases n<;>cases k<;>exact h
 |bl b=>cases n<;>cases k<;>exact h
 |int i=>cases n<;>cases k<;>exact h
 |str x=>cases n<;>cases k<;>exact h
 |scr ns=>rw[Dt.dep]at hd;lia
 |exc _ _ _=>rw[Dt.dep]at hd;lia
 |fn _ _=>rw[Dt.dep]at hd;lia
 |dtt _ _=>rw[Dt.dep]at hd;lia
 |loc _ _=>rw[Dt.dep]at hd;lia
 |ins _ _=>rw[Dt.dep]at hd;lia
 |dct _=>rw[Dt.dep]at hd;lia
theorem zPV{G H:Hp}{n:Nat}{S:Addr->Prop}{d:Dt}{v:V}(h:Rep G d v)(hd:d.dep=0):Own G H n S d v:=Own.scalar (n:=0) (G:=G) (H:=H) (S:=S) h hd
theorem Own.upd{G H:Hp}{p:Addr}{o:HO}:∀{n:Nat}{S:Addr->Prop}{d:Dt}{v:V},Own G H n S d v->¬S p->Own G (upd H p o) n S d v
 |0,S,d,v,h,_=>h
 |n+1,S,d,v,h,hp=>by
  cases d with
  |lst ds=>
   obtain⟨a,xs,T,e,ha,k⟩:=h;have hap:a≠p:=fun z=>hp (z▸k.top)
   exact⟨a,xs,T,e,(zAJ hap).trans ha,k.imp (fun q _ _ _ w=>Own.upd w fun z=>hp (k.sub q _ z)) fun _ z=>z⟩
  |tup ds=>
   obtain⟨a,xs,T,e,ha,k⟩:=h;have hap:a≠p:=fun z=>hp (z▸k.top)
   exact⟨a,xs,T,e,(zAJ hap).trans ha,k.imp (fun q _ _ _ w=>Own.upd w fun z=>hp (k.sub q _ z)) fun _ z=>z⟩
  |dct kvs=>
   obtain⟨a,e,ha,hs⟩:=h;have hap:a≠p:=fun z=>hp (z▸hs)
   exact⟨a,e,(zAJ hap).trans ha,hs⟩
  |dtt ks ds=>
   obtain⟨a,T0,e0,xs,T,e,ha,hl,ht,k⟩:=h;have hap:a≠p:=fun z=>hp (z▸k.top)
   exact⟨a,T0,e0,xs,T,e,(zAJ hap).trans ha,hl,ht,k.imp (fun q _ _ _ w=>Own.upd w fun z=>hp (k.sub q _ z)) fun _ z=>z⟩
  |loc a d=>exact⟨h.1,Own.upd h.2 hp⟩
  |_=>exact h
structure Ext(G H G' H':Hp):Prop where
 g:Same G G'
 h:Same H H'
 in':Same G' H'
 old:∀b,H b≠none->G' b=G b
theorem Ext.refl{G H:Hp}(s:Same G H):Ext G H G H:=⟨Same.refl _,Same.refl _,s,fun _ _=>rfl⟩
theorem _root_.L2.Same.some{H H':Hp}(s:Same H H'){b:Addr}(h:H b≠qEw):H' b≠qEw:=by
 cases e:H b with
 |none=>exact absurd e h
 |some o=>rw[s _ _ e];simp
theorem Ext.trans{G H G1 H1 G2 H2:Hp}(a:Ext G H G1 H1)(b:Ext G1 H1 G2 H2):Ext G H G2 H2:=
 ⟨a.g.trans b.g,a.h.trans b.h,b.in',fun c hc=>(b.old c (a.h.some hc)).trans (a.old c hc)⟩
structure Fr(G H G' H':Hp)(S:Addr->Prop):Prop where
 ext:Ext G H G' H'
 new:∀a,S a->H a=none/\G' a=none/\H' a≠none
open Classical in
noncomputable def over(G H:Hp)(S:Addr->Prop):Hp:=fun b=>if S b then H b else G b
theorem zF6{G H:Hp}{S:Addr->Prop}{a:Addr}(h:S a):over G H S a=H a:=by unfold over;rw[if_pos h]
theorem zCC{G H:Hp}{S:Addr->Prop}{a:Addr}(h:¬S a):over G H S a=G a:=by unfold over;rw[if_neg h]
theorem zE6{G H:Hp}{S:Addr->Prop}(s:Same G H):Same G (over G H S)/\Same (over G H S) H:=by
 constructor
 ·intro b o e
  by_cases z:S b
  ·rw[zF6 z];exact s _ _ e
  ·rw[zCC z];exact e
 ·intro b o e
  by_cases z:S b
  ·rw[zF6 z]at e;exact e
  ·rw[zCC z]at e;exact s _ _ e
theorem Fr.frz{G H G' H':Hp}{S:Addr->Prop}{n:Nat}{d:Dt}{v:V}(f:Fr G H G' H' S)(o:Own G' H' n S d v):Ext G H (over G' H' S) H'/\Rep (over G' H' S) d v:=by
 obtain⟨s1,s2⟩:=zE6 (S:=S) f.ext.in';refine⟨⟨f.ext.g.trans s1,f.ext.h,s2,fun b hb=>?_⟩,o.rep s1 fun a u ha e=>by rw[zF6 ha];exact e⟩;have z:¬S b:=fun z=>hb (f.new b z).1
 rw[zCC z];exact f.ext.old b hb
structure View(G:Hp)(σ:St)(ρ:Rh):Prop where
 len:ρ.length=σ.length
 «at»:∀(i:Nat)(d:Dt),ρ[i]?=some (some d)->∃v,σ[i]?=some (some v)/\Rep G d v
 tab:Same (tabK Kc.K) G
theorem View.mono{G G':Hp}{σ:St}{ρ:Rh}(s:Same G G')(h:View G σ ρ):View G' σ ρ:=⟨h.len,fun i d e=>let⟨v,a,b⟩:=h.at i d e;⟨v,a,Rep.mono s b⟩,h.tab.trans s⟩
def XRep(mg:Str->Option Value)(x:Xn)(c:Value)(da:Option Addr)(G H:Hp):Prop:=
 ∃e C,c=.ref e/\G e=some (xo e (.ref C) da)/\clK Kc.K x.cls=some C/\((da=none/\x.f = "")\/∃a gs w,da=some a/\G a=some (.xd gs)/\gs.lookup x.f=some w/\Rep G x.d w)
def PostE(mg:Str->Option Value)(E:XK)(G H:Hp)(n:Nat)(r:R Dt)(Q:VK):Prop:=match r with
 |none=>False
 |some (.error x)=>∀c da G' H',Ext G H G' H'->XRep mg x c da G' H'->E c da H'
 |some (.ok d)=>∀v G' H' S,Fr G H G' H' S->Own G' H' n S d v->Q v H'
def PostT(mg:Str->Option Value)(E:XK)(G H:Hp)(r:R Bool)(Q:Bool->Hp->Prop):Prop:=match r with
 |none=>False
 |some (.error x)=>∀c da G' H',Ext G H G' H'->XRep mg x c da G' H'->E c da H'
 |some (.ok b)=>∀H',Same H H'->Q b H'
structure OwnA(G H:Hp)(n:Nat)(S:Addr->Prop)(ds:List Dt)(xs:List V)(T:Nat->Addr->Prop):Prop where
 len:xs.length=ds.length
 own:∀(q:Nat)(d:Dt)(x:V),ds[q]?=some d->xs[q]?=some x->Own G H n (T q) d x
 dis:∀q r b,T q b->T r b->q=r
 sub:∀q b,T q b->S b
def zZR(mg:Str->Option Value)(E:XK)(G H:Hp)(n:Nat)(r:R (List Dt))(Q:List V->Hp->Prop):Prop:=match r with
 |none=>False
 |some (.error x)=>∀c da G' H',Ext G H G' H'->XRep mg x c da G' H'->E c da H'
 |some (.ok ds)=>∀vs G' H' S T,Fr G H G' H' S->OwnA G' H' n S ds vs T->Q vs H'
def DE(mg:Str->Option Value)(E:XK)(t:TE)(m:EM)(n:Nat):Prop:=∀(G H:Hp)(σ:St)(ρ:Rh)(Q:VK),Same G H->View G σ ρ->PostE mg E G H n (m ρ) Q->t σ H Q
def DT(mg:Str->Option Value)(E:XK)(t:TT)(m:TM):Prop:=∀(G H:Hp)(σ:St)(ρ:Rh)(Q:Bool->Hp->Prop),Same G H->View G σ ρ->PostT mg E G H (m ρ) Q->t σ H Q
def DA(mg:Str->Option Value)(E:XK)(t:TA)(m:AM)(n:Nat):Prop:=∀(G H:Hp)(σ:St)(ρ:Rh)(Q:List V->Hp->Prop),Same G H->View G σ ρ->zZR mg E G H n (m ρ) Q->t σ H Q
structure Err(mg:Str->Option Value)(E:XK)(G H:Hp){β:Type}(P:R β->Prop):Prop where
 no:P none->False
 er:∀x,P (some (.error x))->∀c da G' H',Ext G H G' H'->XRep mg x c da G' H'->E c da H'
theorem Ext.same{G H H':Hp}(s:Same G H)(h:Same H H'):Ext G H G H':=⟨Same.refl _,h,s.trans h,fun _ _=>rfl⟩
theorem Err.from{mg:Str->Option Value}{E:XK}{G H G' H':Hp}{β:Type}{P:R β->Prop}(e:Err mg E G H P)(x:Ext G H G' H'):Err mg E G' H' P:=⟨e.no,fun y p c da G2 H2 z w=>e.er y p c da G2 H2 (x.trans z) w⟩
section
variable{mg:Str->Option Value}{E:XK}{n:Nat}
theorem errE{G H:Hp}{Q:VK}:Err mg E G H (fun r=>PostE mg E G H n r Q):=⟨fun h=>h,fun _ h=>h⟩
theorem errT{G H:Hp}{Q:Bool->Hp->Prop}:Err mg E G H (fun r=>PostT mg E G H r Q):=⟨fun h=>h,fun _ h=>h⟩
theorem errA{G H:Hp}{Q:List V->Hp->Prop}:Err mg E G H (fun r=>zZR mg E G H n r Q):=⟨fun h=>h,fun _ h=>h⟩
theorem DE.step{β:Type}{t:TE}{m:EM}(D:DE mg E t m n){G H:Hp}{σ:St}{ρ:Rh}{Q:VK}{P:R β->Prop}{f:Dt->R β}(hE:Err mg E G H P)(s:Same G H)(w:View G σ ρ)(p:P (zA4 (m ρ) f))
  (h:∀d v G' H' S,m ρ=okR d->Fr G H G' H' S->Own G' H' n S d v->P (f d)->Q v H'):t σ H Q:=by
 refine D G H σ ρ Q s w ?_;cases e:m ρ with
 |none=>rw[e]at p;exact hE.no p
 |some r=>
  rw[e]at p;cases r with
  |error x=>exact hE.er x p
  |ok d=>exact fun v G' H' S fr o=>h d v G' H' S e fr o p
theorem DT.step{β:Type}{t:TT}{m:TM}(D:DT mg E t m){G H:Hp}{σ:St}{ρ:Rh}{Q:Bool->Hp->Prop}{P:R β->Prop}{f:Bool->R β}(hE:Err mg E G H P)(s:Same G H)(w:View G σ ρ)(p:P (zA4 (m ρ) f))
  (h:∀b H',m ρ=okR b->Same H H'->P (f b)->Q b H'):t σ H Q:=by
 refine D G H σ ρ Q s w ?_;cases e:m ρ with
 |none=>rw[e]at p;exact hE.no p
 |some r=>
  rw[e]at p;cases r with
  |error x=>exact hE.er x p
  |ok b=>exact fun H' sH=>h b H' e sH p
theorem DA.step{β:Type}{t:TA}{m:AM}(D:DA mg E t m n){G H:Hp}{σ:St}{ρ:Rh}{Q:List V->Hp->Prop}{P:R β->Prop}{f:List Dt->R β}(hE:Err mg E G H P)(s:Same G H)(w:View G σ ρ)(p:P (zA4 (m ρ) f))
  (h:∀ds vs G' H' S T,m ρ=okR ds->Fr G H G' H' S->OwnA G' H' n S ds vs T->P (f ds)->Q vs H'):t σ H Q:=by
 refine D G H σ ρ Q s w ?_;cases e:m ρ with
 |none=>rw[e]at p;exact hE.no p
 |some r=>
  rw[e]at p;cases r with
  |error x=>exact hE.er x p
  |ok ds=>exact fun vs G' H' S T fr o=>h ds vs G' H' S T e fr o p
theorem PostE.from{G H G' H':Hp}{Q:VK}{r:R Dt}(p:PostE mg E G H n r Q)(x:Ext G H G' H'):PostE mg E G' H' n r Q:=by
 cases r with
 |none=>exact p
 |some r=>
  cases r with
  |error y=>exact fun c da G2 H2 z w=>p c da G2 H2 (x.trans z) w
  |ok d=>
   exact fun v G2 H2 S fr o=>p v G2 H2 S ⟨x.trans fr.ext,fun a ha=>⟨x.h.free (fr.new a ha).1,(fr.new a ha).2⟩⟩ o
theorem PostT.from{G H G' H':Hp}{Q:Bool->Hp->Prop}{r:R Bool}(p:PostT mg E G H r Q)(x:Ext G H G' H'):PostT mg E G' H' r Q:=by
 cases r with
 |none=>exact p
 |some r=>
  cases r with
  |error y=>exact fun c da G2 H2 z w=>p c da G2 H2 (x.trans z) w
  |ok d=>exact fun H2 s=>p H2 (x.h.trans s)
theorem Fr.from{G H G1 H1 G2 H2:Hp}{S:Addr->Prop}(x:Ext G H G1 H1)(f:Fr G1 H1 G2 H2 S):Fr G H G2 H2 S:=⟨x.trans f.ext,fun a ha=>⟨x.h.free (f.new a ha).1,(f.new a ha).2⟩⟩
theorem PostE.val{G H G' H':Hp}{d:Dt}{v:V}{Q:VK}(p:PostE mg E G H n (okR d) Q)(x:Ext G H G' H')(hd:d.dep=0)(h:Rep G' d v):Q v H':=
 p v G' H' (fun _=>False) ⟨x,fun _ z=>z.elim⟩ (zPV h hd)
theorem PostE.kept{G H G' H':Hp}{d:Dt}{v:V}{Q:VK}(p:PostE mg E G H 0 (okR d) Q)(x:Ext G H G' H')(h:Rep G' d v):Q v H':=
 p v G' H' (fun _=>False) ⟨x,fun _ z=>z.elim⟩ h
theorem zAM{t:TE}{m:EM}{n:Nat}(D:DE mg E t m n):DE mg E t m 0:=by
 intro G H σ ρ Q s w p;refine D G H σ ρ Q s w ?_;cases e:m ρ with
 |none=>rw[e]at p;exact p
 |some r=>
  rw[e]at p;cases r with
  |error x=>exact p
  |ok d=>
   intro v G' H' S fr o;obtain⟨x,r⟩:=fr.frz o;exact PostE.kept p x r
end
end
section
variable[Kc]{mg:Str->Option Value}{E:XK}{n k l:Nat}{ta tb tc:TE}{ma mb mc:EM}
theorem zA7{i:Int}:DE mg E (tC (.int i)) (Mi.eC (.int i)) n:=fun G H σ ρ Q s w p=>PostE.val p (Ext.refl s) rfl rfl
theorem zWT{b:Bool}:DE mg E (tC (.bl b)) (Mi.eC (.bl b)) n:=fun G H σ ρ Q s w p=>PostE.val p (Ext.refl s) rfl rfl
theorem zNO:DE mg E (tC .non) (Mi.eC .non) n:=fun G H σ ρ Q s w p=>PostE.val p (Ext.refl s) rfl rfl
theorem zEB{x:Str}:DE mg E (tC (.str x)) (Mi.eC (.str x)) n:=fun G H σ ρ Q s w p=>PostE.val p (Ext.refl s) rfl rfl
theorem de_v(i:Nat):DE mg E (vM i) (Mi.eV i) 0:=by
 intro G H σ ρ Q s w p;unfold Mi.eV at p;cases e:ρ[i]? with
 |none=>rw[e]at p;exact p.elim
 |some o=>
  rw[e]at p;cases o with
  |none=>exact p.elim
  |some d=>
   obtain⟨v,h1,h2⟩:=w.at i d e;unfold vM;rw[h1];exact PostE.kept p (Ext.refl s) h2
def ROp(r:R2)(f:Dt->Dt->Option Dt)(n:Nat):Prop:=∀(mg:Str->Option Value)(E:XK)(G H:Hp)(d e:Dt)(x y:V)(Q:VK),Same G H->Rep G d x->Rep G e y->PostE mg E G H n (optR (f d e)) Q->r x y H Q
theorem zAH{r:R2}{f:Dt->Dt->Option Dt}(hr:ROp r f n)(A:DE mg E ta ma k)(B:DE mg E tb mb l):DE mg E (tOp r ta tb) (Mi.eB f ma mb) n:=by
 intro G H σ ρ Q s w p;refine(zAM A).step errE s w p fun d v G1 H1 S _ fr o p1=>?_
 refine(zAM B).step (errE.from fr.ext) fr.ext.in' (w.mono fr.ext.g) p1 fun e u G2 H2 S2 _ fr2 o2 p2=>?_
 exact hr mg E G2 H2 d e v u Q fr2.ext.in' (Rep.mono fr2.ext.g o) o2 (PostE.from p2 (fr.ext.trans fr2.ext))
def ROp1(r:V->Hp->VK->Prop)(f:Dt->Option Dt)(n:Nat):Prop:=∀(mg:Str->Option Value)(E:XK)(G H:Hp)(d:Dt)(x:V)(Q:VK),Same G H->Rep G d x->PostE mg E G H n (optR (f d)) Q->r x H Q
theorem zTA{r:V->Hp->VK->Prop}{f:Dt->Option Dt}(hr:ROp1 r f n)(A:DE mg E ta ma k):DE mg E (tUn r ta) (Mi.eU f ma) n:=by
 intro G H σ ρ Q s w p;refine(zAM A).step errE s w p fun d v G1 H1 S _ fr o p1=>?_
 exact hr mg E G1 H1 d v Q fr.ext.in' o (PostE.from p1 fr.ext)
theorem de_and(A:DE mg E ta ma k)(B:DE mg E tb mb n):DE mg E (fun σ H Q=>ta σ H fun x H1=>match x with | .bl c=>if c=true then tb σ H1 Q else Q (.bl false) H1|_=>False) (Mi.eAnd ma mb) n:=by
 intro G H σ ρ Q s w p;refine(zAM A).step errE s w p fun d v G1 H1 S _ fr o p1=>?_
 cases d with
 |bl b=>
  cases(show v=.bl b from o)
  cases b with
  |true=>exact B G1 H1 σ ρ Q fr.ext.in' (w.mono fr.ext.g) (PostE.from p1 fr.ext)
  |false=>exact PostE.val (PostE.from p1 fr.ext) (Ext.refl fr.ext.in') rfl rfl
 |_=>exact p1.elim
theorem zUL{tA:TT}{c:TM}(C:DT mg E tA c)(A:DE mg E ta ma n)(B:DE mg E tb mb n):DE mg E (tIf tA ta tb) (Mi.eIf c ma mb) n:=by
 intro G H σ ρ Q s w p;refine C.step errE s w p fun b H' _ sH p1=>?_
 have p2:=PostE.from p1 (Ext.same s sH);cases b with
 |true=>exact A G H' σ ρ Q (s.trans sH) w p2
 |false=>exact B G H' σ ρ Q (s.trans sH) w p2
theorem dt_b(A:DE mg E ta ma k):DT mg E (fun σ H Q=>ta σ H fun z H3=>match z with | .bl k=>Q k H3|_=>False) (Mi.tB ma):=by
 intro G H σ ρ Q s w p;refine(zAM A).step errT s w p fun d v G1 H1 S _ fr o p1=>?_
 cases d with
 |bl b=>
  cases(show v=.bl b from o)
  exact p1 H1 fr.ext.h
 |_=>exact p1.elim
theorem dt_m(A:DE mg E ta ma k):DT mg E (bM ta) (Mi.tM ma):=by
 intro G H σ ρ Q s w p;refine(zAM A).step errT s w p fun d v G1 H1 S _ fr o p1=>?_
 cases d with
 |bl b=>cases(show v=.bl b from o);exact p1 H1 fr.ext.h
 |int b=>cases(show v=.int b from o);exact p1 H1 fr.ext.h
 |non=>cases(show v=.non from o);exact p1 H1 fr.ext.h
 |_=>exact p1.elim
variable{tA tB:TT}{cA cB:TM}
theorem zFY(A:DT mg E tA cA)(B:DT mg E tB cB):DT mg E (L2.tAnd tA tB) (Mi.tAn cA cB):=by
 intro G H σ ρ Q s w p;refine A.step errT s w p fun b H' _ sH p1=>?_
 cases b with
 |true=>exact B G H' σ ρ Q (s.trans sH) w (PostT.from p1 (Ext.same s sH))
 |false=>exact p1 H' sH
theorem zQY(A:DT mg E tA cA)(B:DT mg E tB cB):DT mg E (L2.tOr tA tB) (Mi.tOr cA cB):=by
 intro G H σ ρ Q s w p;refine A.step errT s w p fun b H' _ sH p1=>?_
 cases b with
 |false=>exact B G H' σ ρ Q (s.trans sH) w (PostT.from p1 (Ext.same s sH))
 |true=>exact p1 H' sH
theorem zL8(A:DT mg E tA cA):DT mg E (L2.tNot tA) (Mi.tNo cA):=by
 intro G H σ ρ Q s w p;exact A.step errT s w p fun b H' _ sH p1=>p1 H' sH
theorem zNM:DT mg E L2.tYes Mi.tYes:=fun G H σ ρ Q s w p=>p H (Same.refl _)
variable{t:TA}{m:AM}
theorem zA6:DA mg E tNil Mi.aNil n:=fun G H σ ρ Q s w p=>p [] G H (fun _=>False) (fun _ _=>False) ⟨Ext.refl s,fun _ z=>z.elim⟩ ⟨rfl,fun q d x h=>by simp at h,fun _ _ _ z=>z.elim,fun _ _ z=>z.elim⟩
theorem zA2(A:DE mg E ta ma n)(B:DA mg E t m n):DA mg E (zCV ta t) (Mi.aCons ma m) n:=by
 intro G H σ ρ Q s w p;refine A.step errA s w p fun d v G1 H1 S1 _ fr o p1=>?_
 refine B.step (errA.from fr.ext) fr.ext.in' (w.mono fr.ext.g) p1 fun ds vs G2 H2 S2 T2 _ fr2 o2 p2=>?_
 refine p2 (v::vs) G2 H2 (fun a=>S1 a\/S2 a) (fun q=>match q with|0=>S1|q+1=>T2 q) ⟨fr.ext.trans fr2.ext,fun a ha=>?_⟩ ⟨by simp[o2.len],fun q d' x h1 h2=>?_,fun q r b h1 h2=>?_,fun q b h=>?_⟩
 ·rcases ha with ha|ha
  ·obtain⟨n1,n2,n3⟩:=fr.new a ha;exact⟨n1,(fr2.ext.old a n3).trans n2,fr2.ext.h.some n3⟩
  ·obtain⟨n1,n2,n3⟩:=fr2.new a ha;exact⟨fr.ext.h.free n1,n2,n3⟩
 ·cases q with
  |zero=>simp at h1 h2;subst h1;subst h2;exact o.mono fr2.ext.g fr2.ext.h
  |succ q=>exact o2.own q d' x (by simpa using h1) (by simpa using h2)
 ·have ap:∀r b,S1 b->T2 r b->False:=fun r b h1 h2=>(fr.new b h1).2.2 (fr2.new b (o2.sub r b h2)).1
  cases q with
  |zero=>
   cases r with
   |zero=>rfl
   |succ r=>exact(ap r b h1 h2).elim
  |succ q=>
   cases r with
   |zero=>exact(ap q b h2 h1).elim
   |succ r=>rw[o2.dis q r b h1 h2]
 ·cases q with
  |zero=>exact .inl h
  |succ q=>exact .inr (o2.sub q b h)
theorem OwnA.repL{G H:Hp}{S:Addr->Prop}{ds:List Dt}{vs:List V}{T:Nat->Addr->Prop}(o:OwnA G H 0 S ds vs T):RepL G ds vs:=zE3 o.len fun q d x h1 h2=>o.own q d x h1 h2
theorem big'{n:Nat}(h:n<=100000):n<=sizeLine:=qCo (L2.big h)
theorem Fr.add{G H G' H':Hp}{S:Addr->Prop}(f:Fr G H G' H' S){p:Addr}(hp:H' p=none)(o:HO):Fr G H G' (upd H' p o) (fun a=>a=p\/S a):=by
 have sn:=L2.same_new hp o;refine⟨⟨f.ext.g,f.ext.h.trans sn,f.ext.in'.trans sn,f.ext.old⟩,fun a ha=>?_⟩
 rcases ha with rfl|ha
 ·exact⟨f.ext.h.free hp,f.ext.in'.free hp,by rw[zAF];simp⟩
 ·obtain⟨n1,n2,n3⟩:=f.new a ha;exact⟨n1,n2,sn.some n3⟩
theorem OwnA.kids{G' H':Hp}{S:Addr->Prop}{ds:List Dt}{vs:List V}{T:Nat->Addr->Prop}(o:OwnA G' H' n S ds vs T)(hn:∀a,S a->H' a≠none){p:Addr}(hp:H' p=none)(ob:HO) :
  Kids (Own G' (upd H' p ob) n) (fun a=>a=p\/S a) p ds vs T:=
 ⟨o.len,fun q d x h1 h2=>(o.own q d x h1 h2).mono (Same.refl _) (L2.same_new hp ob),.inl rfl,fun q z=>hn p (o.sub q p z) hp,o.dis,fun q b z=>.inr (o.sub q b z)⟩
theorem zBA(A:DA mg E t m n):DE mg E (tLst t) (Mi.eLst m) (n+1):=by
 intro G H σ ρ Q s w p;refine A.step errE s w p fun ds vs G1 H1 S T _ fr o p1=>?_
 by_cases hz:ds.length<=100000
 ·rw[if_pos hz]at p1;refine⟨by rw[o.len];exact big' hz,fun a ha=>?_⟩;exact p1 (.ref a) G1 _ _ (fr.add ha _) ⟨a,vs,T,rfl,zAF,o.kids (fun b hb=>(fr.new b hb).2.2) ha _⟩
 ·rw[if_neg hz]at p1;exact p1.elim
theorem zCG(A:DA mg E t m n):DE mg E (tTup t) (Mi.eTup m) (n+1):=by
 intro G H σ ρ Q s w p;refine A.step errE s w p fun ds vs G1 H1 S T _ fr o p1=>?_
 by_cases hz:ds.length<=100000
 ·rw[if_pos hz]at p1;refine⟨by rw[o.len];exact big' hz,fun a ha=>?_⟩;exact p1 (.ref a) G1 _ _ (fr.add ha _) ⟨a,vs,T,rfl,zAF,o.kids (fun b hb=>(fr.new b hb).2.2) ha _⟩
 ·rw[if_neg hz]at p1;exact p1.elim
theorem PostE.lst{G H G' H':Hp}{ds:List Dt}{xs:List V}{Q:VK}(p:PostE mg E G H 1 (okR (.lst ds)) Q)(x:Ext G H G' H')(r:RepL G' ds xs){a:Addr}(ha:H' a=none):Q (.ref a) (upd H' a (.lst xs)):=by
 have fr:Fr G H G' H' (fun _=>False):=⟨x,fun _ z=>z.elim⟩
 refine p (.ref a) G' _ _ (fr.add ha (.lst xs)) ⟨a,xs,fun _ _=>False,rfl,zAF,⟨r.length,fun q d y h1 h2=>zCH r h1 h2,.inl rfl,fun _ z=>z,fun _ _ _ z=>z.elim,fun _ _ z=>z.elim⟩⟩
def CBi(r:List V->Hp->VK->Prop)(f:List Dt->Option Dt)(n:Nat):Prop:=∀(mg:Str->Option Value)(E:XK)(G H:Hp)(ds:List Dt)(vs:List V)(Q:VK),Same G H->RepL G ds vs->PostE mg E G H n (optR (f ds)) Q->r vs H Q
theorem zCB{r:List V->Hp->VK->Prop}{f:List Dt->Option Dt}(hr:CBi r f n)(A:DA mg E t m 0):DE mg E (tCB r t) (Mi.eBi f m) n:=by
 intro G H σ ρ Q s w p;refine A.step errE s w p fun ds vs G1 H1 S T _ fr o p1=>?_
 exact hr mg E G1 H1 ds vs Q fr.ext.in' o.repL (PostE.from p1 fr.ext)
def spM(mg:Str->Option Value)(L:Nat)(f:FM):Sp:=fun vs H Q E=>∃G ds,Same (tabK Kc.K) G/\Same G H/\RepL G ds vs/\PostE mg E G H L (f ds) Q
theorem zAQ{f:FM}(A:DA mg E t m 0):DE mg E (zF3 (spM mg n f) [] E t) (Mi.eCall f m) n:=by
 intro G H σ ρ Q s w p;refine A.step errE s w p fun ds vs G1 H1 S T _ fr o p1=>?_
 exact⟨G1,ds,w.tab.trans fr.ext.g,fr.ext.in',by rw[qBq];exact o.repL,PostE.from p1 fr.ext⟩
theorem zPK{G H:Hp}{o:Option Dt}{Q:VK}{d:Dt}{v:V}(s:Same G H)(p:PostE mg E G H n (optR o) Q)(e:o=some d)(hd:d.dep=0)(h:Rep G d v):Q v H:=by
 subst e;exact PostE.val p (Ext.refl s) hd h
theorem zBU:ROp zY7 Mi.addD 1:=by
 intro mg E G H d e x y Q s h1 h2 p;cases d with
 |int i=>
  cases e with
  |int j=>cases(show x=.int i from h1);cases(show y=.int j from h2);exact zPK s p rfl rfl rfl
  |_=>exact p.elim
 |str i=>
  cases e with
  |str j=>
   cases(show x=.str i from h1);cases(show y=.str j from h2)
   rw[Mi.addD]at p
   by_cases hz:i.length+j.length<=100000
   ·rw[if_pos hz]at p;exact⟨big' hz,PostE.val p (Ext.refl s) rfl rfl⟩
   ·rw[if_neg hz]at p;exact p.elim
  |_=>exact p.elim
 |lst ds=>
  cases e with
  |lst es=>
   obtain⟨a,xs,rfl,ha,ra⟩:=h1;obtain⟨b,ys,rfl,hb,rb⟩:=h2;rw[Mi.addD]at p
   by_cases hz:ds.length+es.length<=100000
   ·rw[if_pos hz]at p;refine⟨xs,ys,s _ _ ha,s _ _ hb,by rw[ra.length,rb.length];exact big' hz,fun q hq=>?_⟩;refine PostE.lst p (Ext.refl s) (zE3 (by simp[ra.length,rb.length]) fun j d' x' e1 e2=>?_) hq
    by_cases hj:j<ds.length
    ·rw[qA7 hj]at e1;rw[qA7 (by rw[ra.length];exact hj)]at e2;exact zCH ra e1 e2
    ·rw[qAb (by lia)]at e1;rw[qAb (by rw[ra.length];lia),ra.length]at e2;exact zCH rb e1 e2
   ·rw[if_neg hz]at p;exact p.elim
  |_=>exact p.elim
 |_=>exact p.elim
theorem zPI:ROp zXZ Mi.subD n:=by
 intro mg E G H d e x y Q s h1 h2 p;cases d with
 |int i=>
  cases e with
  |int j=>cases(show x=.int i from h1);cases(show y=.int j from h2);exact zPK s p rfl rfl rfl
  |_=>exact p.elim
 |_=>exact p.elim
theorem zCN:ROp zY3 Mi.mulD n:=by
 intro mg E G H d e x y Q s h1 h2 p;cases d with
 |int i=>
  cases e with
  |int j=>
   cases(show x=.int i from h1);cases(show y=.int j from h2)
   rw[Mi.mulD]at p
   split at p
   ·rename_i hz;exact⟨hz,PostE.val p (Ext.refl s) rfl rfl⟩
   ·exact p.elim
  |_=>exact p.elim
 |_=>exact p.elim
theorem zFK:ROp zY6 Mi.divD n:=by
 intro mg E G H d e x y Q s h1 h2 p;cases d with
 |int i=>
  cases e with
  |int j=>
   cases(show x=.int i from h1);cases(show y=.int j from h2)
   rw[Mi.divD]at p
   split at p
   ·rename_i hz;exact⟨hz,PostE.val p (Ext.refl s) rfl rfl⟩
   ·exact p.elim
  |_=>exact p.elim
 |_=>exact p.elim
theorem zC3:ROp zY4 Mi.modD n:=by
 intro mg E G H d e x y Q s h1 h2 p;cases d with
 |int i=>
  cases e with
  |int j=>
   cases(show x=.int i from h1);cases(show y=.int j from h2)
   rw[Mi.modD]at p
   split at p
   ·rename_i hz;exact⟨hz,PostE.val p (Ext.refl s) rfl rfl⟩
   ·exact p.elim
  |_=>exact p.elim
 |_=>exact p.elim
theorem zMV:ROp1 zY2 Mi.negD n:=by
 intro mg E G H d x Q s h1 p;cases d with
 |int i=>cases(show x=.int i from h1);exact zPK s p rfl rfl rfl
 |_=>exact p.elim
theorem zK9{q:Int->Int->Bool}:ROp (zVH q) (Mi.cmpD q) n:=by
 intro mg E G H d e x y Q s h1 h2 p;cases d with
 |int i=>
  cases e with
  |int j=>cases(show x=.int i from h1);cases(show y=.int j from h2);exact zPK s p rfl rfl rfl
  |_=>exact p.elim
 |_=>exact p.elim
theorem zUD{G H:Hp}{d e:Dt}{x y:V}{Q:VK}{ng:Bool}(s:Same G H)(h1:Rep G d x)(h2:Rep G e y)(hd:d.dep<=40)(he:e.dep<=40)(q:Q (.bl (if ng then !Dt.eq d e else Dt.eq d e)) H) :
  ∃d' e',L2.Rep H d' x/\L2.Rep H e' y/\d'.dep<=40/\Q (.bl (if ng then !L2.Dat.eq d' e' else L2.Dat.eq d' e')) H:=
 ⟨conv d,conv e,zEN hd (Rep.mono s h1),zEN he (Rep.mono s h2),qAl (zFZ hd) hd,by rw[zME hd he];exact q⟩
theorem zGG{α:Type}[DecidableEq α](a b:α):(a==b)=decide (a=b):=by
 by_cases h:a=b
 ·subst h;simp
 ·simp[h]
theorem zIQ{G:Hp}{d:Dt}{i:Int}(h:Rep G d (.int i)):d=.int i:=by
 cases d with
 |int k=>cases h;rfl
 |non=>cases h
 |bl _=>cases h
 |str _=>cases h
 |lst _=>obtain⟨_,_,z,_⟩:=h;cases z
 |tup _=>obtain⟨_,_,z,_⟩:=h;cases z
 |scr _=>obtain⟨_,z,_⟩:=h;cases z
 |exc _ _ _=>obtain⟨_,_,_,z,_⟩:=h;cases z
 |fn _ _=>obtain⟨_,z,_⟩:=h;cases z
 |dtt _ _=>obtain⟨_,_,_,_,z,_⟩:=h;cases z
 |loc _ _=>obtain⟨z,_⟩:=h;cases z
 |ins _ _=>obtain⟨_,_,_,z,_⟩:=h;cases z
 |dct _=>obtain⟨_,z,_⟩:=h;cases z
theorem zIP{G:Hp}{d:Dt}{i:Str}(h:Rep G d (.str i)):d=.str i:=by
 cases d with
 |str k=>cases h;rfl
 |non=>cases h
 |bl _=>cases h
 |int _=>cases h
 |lst _=>obtain⟨_,_,z,_⟩:=h;cases z
 |tup _=>obtain⟨_,_,z,_⟩:=h;cases z
 |scr _=>obtain⟨_,z,_⟩:=h;cases z
 |exc _ _ _=>obtain⟨_,_,_,z,_⟩:=h;cases z
 |fn _ _=>obtain⟨_,z,_⟩:=h;cases z
 |dtt _ _=>obtain⟨_,_,_,_,z,_⟩:=h;cases z
 |loc _ _=>obtain⟨z,_⟩:=h;cases z
 |ins _ _=>obtain⟨_,_,_,z,_⟩:=h;cases z
 |dct _=>obtain⟨_,z,_⟩:=h;cases z
theorem zMX{G:Hp}{d:Dt}{i:Bool}(h:Rep G d (.bl i)):d=.bl i:=by
 cases d with
 |bl k=>cases h;rfl
 |non=>cases h
 |str _=>cases h
 |int _=>cases h
 |lst _=>obtain⟨_,_,z,_⟩:=h;cases z
 |tup _=>obtain⟨_,_,z,_⟩:=h;cases z
 |scr _=>obtain⟨_,z,_⟩:=h;cases z
 |exc _ _ _=>obtain⟨_,_,_,z,_⟩:=h;cases z
 |fn _ _=>obtain⟨_,z,_⟩:=h;cases z
 |dtt _ _=>obtain⟨_,_,_,_,z,_⟩:=h;cases z
 |loc _ _=>obtain⟨z,_⟩:=h;cases z
 |ins _ _=>obtain⟨_,_,_,z,_⟩:=h;cases z
 |dct _=>obtain⟨_,z,_⟩:=h;cases z
theorem zK8:ROp rEqU Mi.eqD n:=by
 intro mg E G H d e x y Q s h1 h2 p;unfold Mi.eqD at p
 split at p
 ·rename_i hz
  have q:Q (.bl (Dt.eq d e)) H:=PostE.val p (Ext.refl s) rfl rfl;have g:=zUD (ng:=false) (Q:=Q) s h1 h2 hz.1 hz.2 q;unfold rEqU
  split
  ·rw[zIQ h1,zIQ h2,Dt.eq,zGG]at q;exact q
  ·rw[zIP h1,zIP h2,Dt.eq,zGG]at q;exact q
  ·rw[zMX h1,zMX h2,Dt.eq,zGG]at q;exact q
  ·exact g
 ·exact p.elim
theorem zO2:ROp rNeU Mi.neD n:=by
 intro mg E G H d e x y Q s h1 h2 p;unfold Mi.neD at p
 split at p
 ·rename_i hz
  have q:Q (.bl (!Dt.eq d e)) H:=PostE.val p (Ext.refl s) rfl rfl;have g:=zUD (ng:=true) (Q:=Q) s h1 h2 hz.1 hz.2 q;unfold rNeU
  split
  ·rw[zIQ h1,zIQ h2,Dt.eq,zGG]at q;exact q
  ·rw[zIP h1,zIP h2,Dt.eq,zGG]at q;exact q
  ·rw[zMX h1,zMX h2,Dt.eq,zGG]at q;exact q
  ·exact g
 ·exact p.elim
theorem zNJ{G:Hp}{d:Dt}{x:V}(h:Rep G d x):decide (x=.non)=Mi.isNonD d:=by
 cases d with
 |non=>cases h;rfl
 |bl _=>cases h;rfl
 |int _=>cases h;rfl
 |str _=>cases h;rfl
 |lst _=>obtain⟨_,_,rfl,_⟩:=h;rfl
 |tup _=>obtain⟨_,_,rfl,_⟩:=h;rfl
 |scr _=>obtain⟨_,rfl,_⟩:=h;rfl
 |exc _ _ _=>obtain⟨_,_,_,rfl,_⟩:=h;rfl
 |fn _ _=>obtain⟨_,rfl,_⟩:=h;rfl
 |dtt _ _=>obtain⟨_,_,_,_,rfl,_⟩:=h;rfl
 |loc _ _=>obtain⟨rfl,_⟩:=h;rfl
 |ins _ _=>obtain⟨_,_,_,rfl,_⟩:=h;rfl
 |dct _=>obtain⟨_,rfl,_⟩:=h;rfl
theorem zaB:ROp (fun x y H Q=>y=.non/\Q (.bl (decide (x=.non))) H) Mi.isD n:=by
 intro mg E G H d e x y Q s h1 h2 p;cases e with
 |non=>exact⟨h2,by rw[zNJ h1];exact PostE.val p (Ext.refl s) rfl rfl⟩
 |_=>exact p.elim
theorem zVC:ROp (fun x y H Q=>y=.non/\Q (.bl (!decide (x=.non))) H) Mi.isntD n:=by
 intro mg E G H d e x y Q s h1 h2 p;cases e with
 |non=>exact⟨h2,by rw[zNJ h1];exact PostE.val p (Ext.refl s) rfl rfl⟩
 |_=>exact p.elim
theorem zNH(n:Nat)(i:Int):Mi.ixA n i=ixN n i:=rfl
theorem zQI{α:Type}(xs:List α)(i:Int):Mi.itA xs i=atI xs i:=rfl
theorem zUN{G:Hp}{ds:List Dt}{xs:List V}{i:Int}{d:Dt}(r:RepL G ds xs)(h:Mi.itA ds i=some d):∃x,atI xs i=some x/\Rep G d x:=by
 rw[zQI]at h;unfold atI at h ⊢;rw[r.length];cases e:ixN ds.length i with
 |none=>rw[e]at h;cases h
 |some j=>
  rw[e]at h;have h':ds[j]?=some d:=h;have hj:j<xs.length:=by rw[r.length];exact(qA2.mp h').1
  exact⟨xs[j],by simp[hj],zCH r h' (by simp[hj])⟩
theorem zBR:ROp (rIxU Kc.K) Mi.ixD 0:=by
 intro mg E G H d e x y Q s h1 h2 p;cases e with
 |int i=>
  cases(show y=.int i from h2)
  cases d with
  |lst ds=>
   obtain⟨a,xs,rfl,ha,ra⟩:=h1;cases er:Mi.itA ds i with
   |none=>rw[Mi.ixD,er]at p;exact p.elim
   |some c=>
    rw[Mi.ixD,er]at p;obtain⟨v,e1,r1⟩:=zUN ra er;exact⟨xs,v,.inl (SqL.of (s _ _ ha)),e1,PostE.kept p (Ext.refl s) r1⟩
  |tup ds=>
   obtain⟨a,xs,rfl,ha,ra⟩:=h1;cases er:Mi.itA ds i with
   |none=>rw[Mi.ixD,er]at p;exact p.elim
   |some c=>
    rw[Mi.ixD,er]at p;obtain⟨v,e1,r1⟩:=zUN ra er;exact⟨xs,v,.inr (SqT.of (s _ _ ha)),e1,PostE.kept p (Ext.refl s) r1⟩
  |scr ns=>
   obtain⟨a,rfl,ha⟩:=h1;cases er:Mi.itA ns i with
   |none=>rw[Mi.ixD,er]at p;exact p.elim
   |some c=>
    rw[Mi.ixD,er]at p;refine⟨ns.map V.int,.int c,(zFI s ha).old,?_,PostE.kept p (Ext.refl s) rfl⟩;rw[zQI]at er;unfold atI at er ⊢;rw[qAp];cases e:ixN ns.length i with
    |none=>rw[e]at er;cases er
    |some j=>
     rw[e]at er;have er':ns[j]?=some c:=er
     show(ns.map V.int)[j]?=some (.int c)
     rw[qAf,er'];rfl
  |str z=>
   cases(show x=.str z from h1)
   rw[Mi.ixD]at p
   by_cases hz:z.length<=100000
   ·rw[if_pos hz]at p;cases er:Mi.itA z.cps.toList i with
    |none=>rw[er]at p;exact p.elim
    |some c=>rw[er]at p;exact⟨c,big' hz,er,PostE.kept p (Ext.refl s) rfl⟩
   ·rw[if_neg hz]at p;exact p.elim
  |_=>exact p.elim
 |_=>cases d<;>exact p.elim
theorem zGO{G:Hp}{d:Dt}{vs:List V}(h:RepL G [d] vs):∃x,vs=[x]/\Rep G d x:=by
 obtain⟨x,q,rfl,a,b⟩:=h
 cases(show q=[] from b)
 exact⟨x,rfl,a⟩
theorem zXU{G:Hp}{d e:Dt}{vs:List V}(h:RepL G [d,e] vs):∃x y,vs=[x,y]/\Rep G d x/\Rep G e y:=by
 obtain⟨x,q,rfl,a,b⟩:=h;obtain⟨y,rfl,c⟩:=zGO b;exact⟨x,y,rfl,a,c⟩
theorem zD8:CBi (zVE Kc.K) Mi.lenD n:=by
 intro mg E G H ds vs Q s h p;cases ds with
 |nil=>exact p.elim
 |cons a0 r0=>
  cases r0 with
  |cons _ _=>cases a0<;>exact p.elim
  |nil=>
   cases a0 with
   |lst es=>
    obtain⟨x,rfl,a,xs,rfl,ha,ra⟩:=zGO h;exact⟨xs,.inl (SqL.of (s _ _ ha)),by rw[ra.length];exact PostE.val p (Ext.refl s) rfl rfl⟩
   |tup es=>
    obtain⟨x,rfl,a,xs,rfl,ha,ra⟩:=zGO h;exact⟨xs,.inr (SqT.of (s _ _ ha)),by rw[ra.length];exact PostE.val p (Ext.refl s) rfl rfl⟩
   |scr ns=>
    obtain⟨x,rfl,a,rfl,ha⟩:=zGO h;refine⟨ns.map V.int,(zFI s ha).old,?_⟩;rw[qAp];exact PostE.val p (Ext.refl s) rfl rfl
   |str z=>
    obtain⟨x,rfl,hx⟩:=zGO h
    cases(show x=.str z from hx)
    rw[Mi.lenD]at p
    by_cases hz:z.length<=100000
    ·rw[if_pos hz]at p;exact⟨big' hz,PostE.val p (Ext.refl s) rfl rfl⟩
    ·rw[if_neg hz]at p;exact p.elim
   |_=>exact p.elim
theorem zCX{G:Hp}:∀(ns:List Int),RepL G (ns.map Dt.int) (ns.map V.int)
 |[]=>rfl
 |_::r=>⟨_,_,rfl,rfl,zCX r⟩
theorem zHQ:CBi (zI1 Kc.K) Mi.listD 1:=by
 intro mg E G H ds vs Q s h p;cases ds with
 |nil=>exact p.elim
 |cons a0 r0=>
  cases r0 with
  |cons _ _=>cases a0<;>exact p.elim
  |nil=>
   cases a0 with
   |lst es=>
    obtain⟨x,rfl,a,xs,rfl,ha,ra⟩:=zGO h;exact .inl ⟨xs,.inl (SqL.of (s _ _ ha)),fun l hl=>PostE.lst p (Ext.refl s) ra hl⟩
   |tup es=>
    obtain⟨x,rfl,a,xs,rfl,ha,ra⟩:=zGO h;exact .inl ⟨xs,.inr (SqT.of (s _ _ ha)),fun l hl=>PostE.lst p (Ext.refl s) ra hl⟩
   |scr ns=>
    obtain⟨x,rfl,a,rfl,ha⟩:=zGO h;exact .inl ⟨ns.map V.int,(zFI s ha).old,fun l hl=>PostE.lst p (Ext.refl s) (zCX ns) hl⟩
   |_=>exact p.elim
theorem zS3{G:Hp}(lo:Int)(k:Nat):RepL G (Mi.nums lo k) (zH9 lo k):=by
 unfold Mi.nums zH9;refine zE3 (by simp) fun q d x h1 h2=>?_
 rw[qAf]at h1 h2;cases e:(qAg k)[q]? with
 |none=>rw[e]at h1;cases h1
 |some j=>rw[e]at h1 h2;cases h1;cases h2;rfl
theorem zLB{K:qA1}(A:DA mg E t m 0):DE mg E (tCB (zI1 K) (zCV (tCB zPL t) tNil)) (Mi.eBi Mi.rangeD m) 1:=by
 intro G H σ ρ Q s w p;refine A.step errE s w p fun ds vs G1 H1 S T _ fr o p1=>?_
 have p2:=PostE.from p1 fr.ext;have r:=o.repL;have s1:=fr.ext.in';have fin:∀(lo hi:Int),(-4611686018427387904<=lo/\lo<4611686018427387904/\-4611686018427387904<=hi/\hi<4611686018427387904)->hi-lo<=100000->PostE mg E G1 H1 1 (okR (.lst (Mi.nums lo (hi-lo).toNat))) Q ->
   ∀q,H1 q=none->zI1 K [.ref q] (upd H1 q (.rng lo hi)) Q:=by
  intro lo hi hb hz pp q hq;refine .inr ⟨lo,hi,zAF,⟨by lia,by lia,by lia,by lia⟩,by lia,fun l hl=>?_⟩;have sn:=L2.same_new hq (.rng lo hi);exact PostE.lst pp (Ext.same s1 sn) (zS3 lo _) hl
 cases ds with
 |nil=>exact p2.elim
 |cons a0 r0=>
  cases a0 with
  |int i=>
   cases r0 with
   |nil=>
    obtain⟨x,rfl,hx⟩:=zGO r
    cases(show x=.int i from hx)
    rw[Mi.rangeD]at p2
    split at p2
    ·rename_i hz
     intro q hq;refine fin 0 i ⟨by decide,by decide,hz.1.1,hz.1.2⟩ (by lia) ?_ q hq;rw[Int.sub_zero];exact p2
    ·exact p2.elim
   |cons b0 r1=>
    cases r1 with
    |cons _ _=>cases b0<;>exact p2.elim
    |nil=>
     cases b0 with
     |int j=>
      obtain⟨x,y,rfl,hx,hy⟩:=zXU r
      cases(show x=.int i from hx)
      cases(show y=.int j from hy)
      rw[Mi.rangeD]at p2
      split at p2
      ·rename_i hz
       exact fun q hq=>fin i j hz.1 hz.2 p2 q hq
      ·exact p2.elim
     |_=>exact p2.elim
  |_=>rcases r0 with _|⟨_,_|_⟩<;>exact p2.elim
theorem za4{G H:Hp}{d:Dt}{x:V}(s:Same G H)(h:Rep G d x)(hd:Mi.tyD d≠""):zGY H x=some (Mi.tyD d):=by
 cases d with
 |non=>cases h;rfl
 |bl _=>cases h;rfl
 |int _=>cases h;rfl
 |str _=>cases h;rfl
 |lst _=>obtain⟨a,xs,rfl,ha,_⟩:=h;unfold zGY;dsimp only;rw[s _ _ ha];rfl
 |tup _=>obtain⟨a,xs,rfl,ha,_⟩:=h;unfold zGY;dsimp only;rw[s _ _ ha];rfl
 |scr _=>exact absurd rfl hd
 |exc _ _ _=>exact absurd rfl hd
 |fn _ _=>exact absurd rfl hd
 |dtt _ _=>exact absurd rfl hd
 |loc _ _=>exact absurd rfl hd
 |ins _ _=>exact absurd rfl hd
 |dct _=>exact absurd rfl hd
theorem zLC{nm:String}(hn:nm∈["int","bool","str","list","tuple","dict"])(A:DE mg E ta ma k):DE mg E (tCB zY5 (zCV ta (zCV (tC (.ty nm)) tNil))) (Mi.eIsi nm ma) n:=by
 intro G H σ ρ Q s w p;refine(zAM A).step errE s w p fun d v G1 H1 S _ fr o p1=>?_
 have p2:=PostE.from p1 fr.ext;unfold Mi.isiD at p2
 split at p2
 ·exact p2.elim
 ·rename_i hd
  exact⟨Mi.tyD d,za4 fr.ext.in' o hd,hn,PostE.val p2 (Ext.refl fr.ext.in') rfl rfl⟩
end
section
variable[Kc]
def ItOk(J:It)(G:Hp)(ds:List Dt):Prop:=∀(i:Nat)(G1 H1:Hp),Same G G1->Same G1 H1->(i<ds.length->J.go i H1)/\(ds.length<=i->J.stop i H1)/\∀x H2 d,ds[i]?=some d->J.yld i H1 x H2->∃G2,Ext G1 H1 G2 H2/\Rep G2 d x
noncomputable def zRL(ind:Bool)(G:Hp):Hp:=if ind=true then(fun _=>none)else G
def zZQ(mg:Str->Option Value)(E:XK)(G H:Hp)(ind:Bool)(r:R (List Dt))(Q:It->Hp->Prop):Prop:=match r with
 |none=>False
 |some (.error x)=>∀c da G' H',Ext G H G' H'->XRep mg x c da G' H'->E c da H'
 |some (.ok ds)=>∀J G' H',Ext G H G' H'->ItOk J (zRL ind G') ds->Q J H'
def DI(mg:Str->Option Value)(E:XK)(t:TI)(m:IM)(ind:Bool):Prop:=∀(G H:Hp)(σ:St)(ρ:Rh)(Q:It->Hp->Prop),Same G H->View G σ ρ->zZQ mg E G H ind (m ρ) Q->t σ H Q
section
variable{mg:Str->Option Value}{E:XK}{n k l:Nat}{ta te:TE}{ma me:EM}{t:TA}{m:AM}{ind:Bool}
theorem errI{G H:Hp}{Q:It->Hp->Prop}:Err mg E G H (fun r=>zZQ mg E G H ind r Q):=⟨fun h=>h,fun _ h=>h⟩
theorem errB{G H:Hp}{α β:Type}{P:R β->Prop}(e:Err mg E G H P)(g:α->R β):Err mg E G H (fun r=>P (zA4 r g)):=⟨fun h=>e.no h,fun x h=>e.er x h⟩
theorem DI.step{β:Type}{t:TI}{m:IM}(D:DI mg E t m ind){G H:Hp}{σ:St}{ρ:Rh}{Q:It->Hp->Prop}{P:R β->Prop}{f:List Dt->R β}(hE:Err mg E G H P)(s:Same G H)(w:View G σ ρ)(p:P (zA4 (m ρ) f))
  (h:∀ds J G' H',m ρ=okR ds->Ext G H G' H'->ItOk J (zRL ind G') ds->P (f ds)->Q J H'):t σ H Q:=by
 refine D G H σ ρ Q s w ?_;cases e:m ρ with
 |none=>rw[e]at p;exact hE.no p
 |some r=>
  rw[e]at p;cases r with
  |error x=>exact hE.er x p
  |ok ds=>exact fun J G' H' x i=>h ds J G' H' e x i p
theorem zU8{K:qA1}{G:Hp}{a:Addr}{xs:List V}{ds:List Dt}(ha:SqL K G a xs)(r:RepL G ds xs):ItOk (Itl K a) G ds:=by
 intro i G1 H1 s1 s2;have hS:SqL K H1 a xs:=(s1.trans s2).seq ha;refine⟨fun hi=>⟨xs,xs[i]'(by rw[r.length];exact hi),hS,by simp⟩,fun hi=>⟨xs,hS,by rw[r.length];exact hi⟩,fun x H2 d hd hy=>?_⟩;obtain⟨rfl,hy⟩:=hy;exact⟨G1,Ext.refl s2,Rep.mono s1 (zCH r hd (hy xs hS))⟩
theorem zU6{K:qA1}{G:Hp}{a:Addr}{xs:List V}{ds:List Dt}(ha:SqT K G a xs)(r:RepL G ds xs):ItOk (Itt K a) G ds:=by
 intro i G1 H1 s1 s2;have hS:SqT K H1 a xs:=zK7 (s1.trans s2) ha;refine⟨fun hi=>⟨xs,xs[i]'(by rw[r.length];exact hi),hS,by simp⟩,fun hi=>⟨xs,hS,by rw[r.length];exact hi⟩,fun x H2 d hd hy=>?_⟩;obtain⟨rfl,hy⟩:=hy;exact⟨G1,Ext.refl s2,Rep.mono s1 (zCH r hd (hy xs hS))⟩
theorem zZ3{G:Hp}(lo:Int)(k:Nat):ItOk (Itr lo k) G (Mi.nums lo k):=by
 intro i G1 H1 s1 s2;have hl:(Mi.nums lo k).length=k:=by simp[Mi.nums]
 refine⟨fun hi=>by rw[hl]at hi;exact hi,fun hi=>by rw[hl]at hi;exact hi,fun x H2 d hd hy=>?_⟩;obtain⟨rfl,rfl⟩:=hy;refine⟨G1,Ext.refl s2,?_⟩;unfold Mi.nums at hd;rw[qAf]at hd;cases e:(qAg k)[i]? with
 |none=>rw[e]at hd;cases hd
 |some j=>
  rw[e]at hd;cases hd;have hj:j=i:=by
   obtain⟨h1,h2⟩:=qA2.mp e;rw[qDj]at h2;exact h2.symm
  subst hj;rfl
theorem zHZ(A:DA mg E t m 0):DI mg E (zZ6 t) (Mi.iR1 m) true:=by
 intro G H σ ρ Q s w p;refine A.step errI s w p fun ds vs G1 H1 S T _ fr o p1=>?_
 have r:=o.repL;cases ds with
 |nil=>exact qA8 p1
 |cons hd1 tl1=>
  cases hd1 with
  |int j=>
   cases tl1 with
   |nil=>
    obtain⟨x,rfl,hx⟩:=zGO r
    cases(show x=.int j from hx)
    dsimp only at p1
    split at p1
    ·rename_i hz
     exact⟨j,rfl,by lia,by lia,p1 _ G1 H1 fr.ext (zZ3 0 _)⟩
    ·exact p1.elim
   |cons _ _=>exact qA8 p1
  |_=>exact qA8 p1
theorem Ext.new{G H:Hp}(s:Same G H){T:Addr}(hT:H T=none)(o:HO):Ext G H (upd G T o) (upd H T o):=by
 refine⟨L2.same_new (s.free hT) o,L2.same_new hT o,fun b u e=>?_,fun b hb=>zAJ fun z=>hb (z▸hT)⟩
 by_cases z:b=T
 ·subst z;rw[zAF]at e ⊢;exact e
 ·rw[zAJ z]at e ⊢;exact s _ _ e
noncomputable def zH0:St->List (Nat×V)->St
 |σ,[]=>σ
 |σ,(i,v)::r=>zH0 (σ.set i (some v)) r
inductive BsRep(G:Hp):List (Nat×Dt)->List (Nat×V)->Prop
 |nil:BsRep G [] []
 |cons {i d v bs ws}:Rep G d v->BsRep G bs ws->BsRep G ((i,d)::bs) ((i,v)::ws)
theorem View.set{G:Hp}{σ:St}{ρ:Rh}{i:Nat}{d:Dt}{v:V}(w:View G σ ρ)(r:Rep G d v):View G (σ.set i (some v)) (ρ.set i (some d)):=by
 refine⟨by simp[w.len],fun j e h=>?_,w.tab⟩;have hj:j<ρ.length:=by
  have:=(qA2.mp h).1
  simpa using this
 by_cases z:i=j
 ·subst z;rw[qA9 hj]at h;cases h;exact⟨v,qA9 (by rw[<- w.len];exact hj),r⟩
 ·rw[qAa z]at h;obtain⟨u,h1,h2⟩:=w.at j e h;exact⟨u,by rw[qAa z];exact h1,h2⟩
theorem View.sets{G:Hp}{bs ws}(h:BsRep G bs ws):∀{σ:St}{ρ:Rh},View G σ ρ->View G (zH0 σ ws) (zAT ρ bs):=by
 induction h with
 |nil=>exact fun w=>w
 |cons r _ ih=>exact fun w=>ih (w.set r)
def TgOk(g:TG)(tg:Tg):Prop:=∀(G H:Hp)(σ:St)(d:Dt)(x:V)(bs:List (Nat×Dt))(Q:St->Hp->Prop),Same G H->Rep G d x->zAS tg d=some bs->(∀ws,BsRep G bs ws->Q (zH0 σ ws) H)->g x σ H Q
def zTH(g:TGs)(is:List Nat):Prop:=∀(G H:Hp)(σ:St)(ds:List Dt)(xs:List V)(Q:St->Hp->Prop),RepL G ds xs->ds.length=is.length->(∀ws,BsRep G (is.zip ds) ws->Q (zH0 σ ws) H)->g xs σ H Q
theorem zC2(i:Nat):TgOk (zGC i) (.one i):=by
 intro G H σ d x bs Q s r e h;cases e;exact h [(i,x)] (.cons r .nil)
theorem zLQ:zTH gNil []:=by
 intro G H σ ds xs Q r hl h;cases ds with
 |nil=>cases(show xs=[] from r);exact⟨rfl,h [] .nil⟩
 |cons _ _=>simp at hl
theorem zEG(i:Nat){g:TGs}{is:List Nat}(hg:zTH g is):zTH (zZ7 (zGC i) g) (i::is):=by
 intro G H σ ds xs Q r hl h;cases ds with
 |nil=>simp at hl
 |cons d ds=>
  obtain⟨x,q,rfl,a,b⟩:=r;exact⟨x,q,rfl,hg G H _ ds q Q b (by simpa using hl) fun ws hw=>h ((i,x)::ws) (.cons a hw)⟩
theorem zP4{K:qA1}{g:TGs}{is:List Nat}{k:Nat}(hg:zTH g is)(hk:is.length=k):TgOk (gTup K k g) (.tup is):=by
 intro G H σ d x bs Q s r e h;cases d with
 |tup ds=>
  obtain⟨a,xs,rfl,ha,ra⟩:=r;rw[zAS]at e
  by_cases hz:ds.length=is.length
  ·rw[if_pos hz]at e;cases e;exact⟨a,xs,rfl,SqT.of (s _ _ ha),by rw[ra.length,hz,hk],hg G H σ ds xs Q ra hz h⟩
  ·rw[if_neg hz]at e;cases e
 |_=>simp[zAS]at e
theorem zK6:∀(ws:List (Nat×V))(σ own:St),(∀p∈ws,σ.length<=p.1)->∃own':St,own'.length=own.length/\zH0 (σ++own) ws=σ++own'
 |[],σ,own,_=>⟨own,rfl,rfl⟩
 |(i,v)::r,σ,own,h=>by
  have hi:σ.length<=i:=h (i,v) (by simp);rw[zH0,List.set_append_right _ _ hi];obtain⟨o,h1,h2⟩:=zK6 r σ (own.set (i-σ.length) (some v)) fun p hp=>h p (by simp[hp])
  exact⟨o,by rw[h1,qDb],h2⟩
theorem BsRep.idx{G:Hp}{bs ws}(h:BsRep G bs ws):ws.map (·.1)=bs.map (·.1):=by
 induction h with
 |nil=>rfl
 |cons _ _ ih=>simp[ih]
theorem zRJ{tg:Tg}{d:Dt}{bs:List (Nat×Dt)}(h:zAS tg d=some bs):∀i∈bs.map (·.1),i∈tg.idx:=by
 cases tg with
 |one i=>cases h;simp[Tg.idx]
 |tup is=>
  cases d with
  |tup ds=>
   rw[zAS]at h
   split at h
   ·cases h;intro i hi;obtain⟨p,hp,e⟩:=qB6.mp hi;rw[<- e];obtain⟨a,b⟩:=p;exact(qCa hp).1
   ·cases h
  |_=>simp[zAS]at h
theorem zHO{wi:TI}{g:TG}{tif:TT}{it:IM}{tg:Tg}{c:TM}(I:DI mg E wi it ind)(hT:TgOk g tg)(C:DT mg E tif c)(B:DE mg E te me n):DE mg E (zV4 wi k g tif te) (Mi.eComp it k tg c me) (n+1):=by
 intro G H σ ρ Q s w p;refine I.step errE s w p fun ds J G1 H1 _ x1 io p1=>?_
 by_cases hz:ds.length<=100000/\(tg.idx.all fun i=>decide (ρ.length<=i))=true
 case neg=>rw[if_neg hz]at p1;exact p1.elim
 rw[if_pos hz]at p1;obtain⟨hz,hix⟩:=hz;have hb1:Same (zRL ind G1) G1:=by
  unfold zRL
  split
  ·exact fun b o e=>by cases e
  ·exact Same.refl _
 refine⟨fun i m acc H'=>m=ds.length-i/\i<=ds.length/\∃G' as S T,Fr G H G' H' S/\Same G1 G'/\OwnA G' H' n S as acc T/\as.length<=i/\PostE mg E G H (n+1) (zA4 (Mi.compGo ρ k tg c me (ds.drop i) as) fun es=>okR (.lst es)) Q,
  ⟨_,rfl,qAk _,G1,[],fun _=>False,fun _ _=>False,⟨x1,fun _ z=>z.elim⟩,Same.refl _,⟨rfl,fun q d x h=>by simp at h,fun _ _ _ z=>z.elim,fun _ _ z=>z.elim⟩,qA6 _,by rw[qGf];exact p1⟩,?_⟩
 rintro i m acc H' ⟨rfl,hi,G',as,S,T,fr,sg,o,hl,p⟩
 obtain⟨j1,j2,j3⟩:=io i G' H' (hb1.trans sg) fr.ext.in'
 by_cases hlt:i<ds.length
 ·refine .inr ⟨j1 hlt,by rw[o.len];exact L2.big (by lia),fun acc' H''=>ds.length-(i+1)=ds.length-(i+1)/\i+1<=ds.length/\∃G' as S T,Fr G H G' H'' S/\Same G1 G'/\OwnA G' H'' n S as acc' T/\as.length<=i+1/\PostE mg E G H (n+1) (zA4 (Mi.compGo ρ k tg c me (ds.drop (i+1)) as) fun es=>okR (.lst es)) Q,
   fun acc' H'' q=>⟨ds.length-(i+1),by lia,q⟩,fun x H2 hy=>?_⟩
  have hd:ds[i]?=some ds[i]:=qA4 hlt;obtain⟨G2,x2,r2⟩:=j3 x H2 ds[i] hd hy;rw[qBy hlt,Mi.compGo]at p;cases eb:zAS tg ds[i]with
  |none=>rw[eb]at p;exact p.elim
  |some bs=>
   rw[eb]at p;dsimp only at p;refine hT G2 H2 _ _ x bs _ x2.in' r2 eb fun ws hb=>?_
   have hsl:∀q∈ws,σ.length<=q.1:=fun q hq=>by
    have h1:q.1∈bs.map (·.1):=by rw[<- hb.idx];exact List.mem_map_of_mem hq
    have h2:=qD2.mp hix q.1 (zRJ eb q.1 h1);rw[<- w.len];exact of_decide_eq_true h2
   obtain⟨own,ho1,ho2⟩:=zK6 ws σ (qA5 k none) hsl;refine⟨own,by rw[ho1,qCz],ho2,?_⟩;have x02:=fr.ext.trans x2;have w2:View G2 (zH0 (σ++qA5 k none) ws) (zAT (ρ++qA5 k none) bs):=by
    refine View.sets hb ⟨by simp[w.len],fun j d h=>?_,w.tab.trans x02.g⟩
    by_cases hj:j<ρ.length
    ·rw[qA7 hj]at h;obtain⟨v,a,b⟩:=w.at j d h;exact⟨v,by rw[qA7 (by rw[<- w.len];exact hj)];exact a,Rep.mono x02.g b⟩
    ·rw[qAb (by lia),qBf]at h
     split at h<;>cases h
   refine C.step ((errB errE _).from x02) x2.in' w2 p fun b H3 _ s3 p3=>?_
   have x3:Ext G2 H2 G2 H3:=Ext.same x2.in' s3;have x03:=x02.trans x3;have newS:∀a,S a->H a=none/\G2 a=none/\H3 a≠none:=fun a ha=>by
    obtain⟨n1,n2,n3⟩:=fr.new a ha;exact⟨n1,(x2.old a n3).trans n2,s3.some (x2.h.some n3)⟩
   have own3:OwnA G2 H3 n S as acc T:=⟨o.len,fun q d y h1 h2=>(o.own q d y h1 h2).mono x2.g (x2.h.trans s3),o.dis,o.sub⟩
   cases b with
   |false=>exact⟨rfl,hlt,G2,as,S,T,⟨x03,newS⟩,sg.trans x2.g,own3,by lia,p3⟩
   |true=>
    refine B.step ((errB errE _).from x03) x3.in' w2 p3 fun e v G4 H4 S4 _ fr4 o4 p4=>?_
    have ap:∀q b,T q b->S4 b->False:=fun q b h1 h2=>(newS b (o.sub q b h1)).2.2 (fr4.new b h2).1
    refine⟨rfl,hlt,G4,as++[e],fun a=>S a\/S4 a,fun q b=>(q<as.length/\T q b)\/(q=as.length/\S4 b),⟨x03.trans fr4.ext,fun a ha=>?_⟩,sg.trans (x2.g.trans fr4.ext.g),⟨by simp[o.len],fun q d y h1 h2=>?_,fun q r b h1 h2=>?_,fun q b h=>?_⟩,by simp;lia,p4⟩
    ·rcases ha with ha|ha
     ·obtain⟨n1,n2,n3⟩:=newS a ha;exact⟨n1,(fr4.ext.old a n3).trans n2,fr4.ext.h.some n3⟩
     ·obtain⟨n1,n2,n3⟩:=fr4.new a ha;exact⟨x03.h.free n1,n2,n3⟩
    ·by_cases hq:q<as.length
     ·rw[qA7 hq]at h1;rw[qA7 (by rw[o.len];exact hq)]at h2;exact((own3.own q d y h1 h2).mono fr4.ext.g fr4.ext.h).sub fun b z=>.inl ⟨hq,z⟩
     ·rw[qAb (by lia)]at h1;rw[qAb (by rw[o.len];lia),o.len]at h2;have hq0:q-as.length=0:=by
       have:=(qA2.mp h1).1
       simp at this;lia
      rw[hq0]at h1 h2;simp at h1 h2;subst h1;subst h2;exact o4.sub fun b z=>.inr ⟨by lia,z⟩
    ·rcases h1 with⟨a1,t1⟩|⟨a1,t1⟩<;>rcases h2 with⟨a2,t2⟩|⟨a2,t2⟩
     ·exact o.dis q r b t1 t2
     ·exact(ap q b t1 t2).elim
     ·exact(ap r b t2 t1).elim
     ·lia
    ·rcases h with⟨_,z⟩|⟨_,z⟩
     ·exact .inl (o.sub q b z)
     ·exact .inr z
 ·have e:i=ds.length:=by lia
  subst e;refine .inl ⟨j2 (qA6 _),fun D hD=>?_⟩;rw[qE4,Mi.compGo]at p;exact p (.ref D) G' _ _ (fr.add hD _) ⟨D,acc,T,rfl,zAF,o.kids (fun b hb=>(fr.new b hb).2.2) hD _⟩
end
end
section
variable[Kc]
structure Sat(G0 H0 S0:Hp)(σ:St)(ρ:Ro)(G H:Hp)(As:Nat->Addr->Prop):Prop where
 ext:Ext G0 H0 G H
 stb:Same S0 G
 tab:Same (tabK Kc.K) G0
 len:ρ.length=σ.length
 «at»:∀(i:Nat)(d:Dt)(n:Nat),ρ[i]?=some (some (d,n))->∃v,σ[i]?=some (some v)/\Own G H n (As i) d v
 dis:∀i j a,As i a->As j a->i=j
 new:∀i a,As i a->H0 a=none/\G a=none/\H a≠none
section
variable{G0 H0 S0:Hp}{σ:St}{ρ:Ro}{G H:Hp}{As:Nat->Addr->Prop}
theorem Sat.grow(a:Sat G0 H0 S0 σ ρ G H As){H':Hp}(s:Same H H'):Sat G0 H0 S0 σ ρ G H' As:=
 ⟨a.ext.trans (Ext.same a.ext.in' s),a.stb,a.tab,a.len,fun i d n e=>let⟨v,h1,h2⟩:=a.at i d n e;⟨v,h1,h2.mono (Same.refl _) s⟩,a.dis,fun i b h=>let⟨n1,n2,n3⟩:=a.new i b h;⟨n1,n2,s.some n3⟩⟩
theorem Sat.wider(a:Sat G0 H0 S0 σ ρ G H As){G' H':Hp}(x:Ext G H G' H'):Sat G0 H0 S0 σ ρ G' H' As:=
 ⟨a.ext.trans x,a.stb.trans x.g,a.tab,a.len,fun i d n e=>let⟨v,h1,h2⟩:=a.at i d n e;⟨v,h1,h2.mono x.g x.h⟩,a.dis,fun i b h=>let⟨n1,n2,n3⟩:=a.new i b h;⟨n1,(x.old b n3).trans n2,x.h.some n3⟩⟩
theorem Sat.full(a:Sat G0 H0 S0 σ ρ G H As):∃J,Ext G0 H0 J H/\Same G J/\View J σ (full ρ):=by
 obtain⟨s1,s2⟩:=zE6 (S:=fun b=>∃i,As i b) a.ext.in';refine⟨over G H fun b=>∃i,As i b,⟨a.ext.g.trans s1,a.ext.h,s2,fun b hb=>?_⟩,s1,by simp[Mi.full,a.len],fun i d e=>?_,a.tab.trans (a.ext.g.trans s1)⟩
 ·have z:¬ ∃i,As i b:=fun⟨i,z⟩=>hb (a.new i b z).1
  rw[zCC z];exact a.ext.old b hb
 ·unfold Mi.full at e;rw[qAf]at e;cases e1:ρ[i]? with
  |none=>rw[e1]at e;cases e
  |some o=>
   rw[e1]at e;cases o with
   |none=>cases e
   |some sl=>
    obtain⟨d',n⟩:=sl;cases e;obtain⟨v,h1,h2⟩:=a.at i _ n e1;exact⟨v,h1,h2.rep s1 fun b o hb e=>by rw[zF6 ⟨i,hb⟩];exact e⟩
theorem Sat.put(a:Sat G0 H0 S0 σ ρ G H As){i n:Nat}{d:Dt}{v:V}{S:Addr->Prop}(o:Own G H n S d v)(hS:∀b,S b->H0 b=none/\G b=none/\H b≠none)(hd:∀j b,j≠i->As j b->S b->False) :
  Sat G0 H0 S0 (σ.set i (some v)) (ρ.set i (some (d,n))) G H (fun j=>if j=i then S else As j):=by
 refine⟨a.ext,a.stb,a.tab,by simp[a.len],fun j e k h=>?_,fun j l b h1 h2=>?_,fun j b h=>?_⟩
 ·have hj:j<ρ.length:=by
   have:=(qA2.mp h).1
   simpa using this
  by_cases z:i=j
  ·subst z;rw[qA9 hj]at h;cases h;exact⟨v,qA9 (by rw[<- a.len];exact hj),by rw[if_pos rfl];exact o⟩
  ·rw[qAa z]at h;obtain⟨u,h1,h2⟩:=a.at j e k h;exact⟨u,by rw[qAa z];exact h1,by rw[if_neg (fun q=>z q.symm)];exact h2⟩
 ·try dsimp only at h1 h2
  by_cases z1:j=i
  ·by_cases z2:l=i
   ·rw[z1,z2]
   ·rw[if_pos z1]at h1;rw[if_neg z2]at h2;exact(hd l b z2 h2 h1).elim
  ·by_cases z2:l=i
   ·rw[if_neg z1]at h1;rw[if_pos z2]at h2;exact(hd j b z1 h1 h2).elim
   ·rw[if_neg z1]at h1;rw[if_neg z2]at h2;exact a.dis j l b h1 h2
 ·try dsimp only at h
  by_cases z1:j=i
  ·rw[if_pos z1]at h;exact hS b h
  ·rw[if_neg z1]at h;exact a.new j b h
theorem Sat.set(a:Sat G0 H0 S0 σ ρ G H As){H':Hp}{i n:Nat}{d:Dt}{v:V}{S:Addr->Prop}(s:Same H H')(o:Own G H' n S d v)(hS:∀b,S b->H b=none/\G b=none/\H' b≠none) :
  Sat G0 H0 S0 (σ.set i (some v)) (ρ.set i (some (d,n))) G H' (fun j=>if j=i then S else As j):=
 (a.grow s).put o (fun b hb=>⟨a.ext.h.free (hS b hb).1,(hS b hb).2⟩) fun j b _ h1 h2=>(a.new j b h1).2.2 (hS b h2).1
theorem Sat.frz1(a:Sat G0 H0 S0 σ ρ G H As)(i:Nat):∃G1 As1,Sat G0 H0 S0 σ (Mi.frz1 i ρ) G1 H As1:=by
 unfold Mi.frz1;cases e1:ρ[i]? with
 |none=>exact⟨G,As,a⟩
 |some o=>
  cases o with
  |none=>exact⟨G,As,a⟩
  |some sl=>
   obtain⟨d,n⟩:=sl;dsimp only;obtain⟨v,h1,h2⟩:=a.at i d n e1;obtain⟨s1,s2⟩:=zE6 (S:=As i) a.ext.in';have x:Ext G0 H0 (over G H (As i)) H:=⟨a.ext.g.trans s1,a.ext.h,s2,fun b hb=>by
    have z:¬As i b:=fun z=>hb (a.new i b z).1
    rw[zCC z];exact a.ext.old b hb⟩
   have hv:(σ.set i (some v))=σ:=by
    have hi:i<σ.length:=(qA2.mp h1).1;have he:=(qA2.mp h1).2;rw[<- he,List.set_getElem_self]
   have b:Sat G0 H0 S0 σ (ρ.set i (some (d,0))) (over G H (As i)) H (fun j b=>j≠i/\As j b):=by
    refine⟨x,a.stb.trans s1,a.tab,by simp[a.len],fun j e k h=>?_,fun j l b p q=>a.dis j l b p.2 q.2,fun j b p=>?_⟩
    ·have hj:j<ρ.length:=by
      have:=(qA2.mp h).1
      simpa using this
     by_cases z:i=j
     ·subst z;rw[qA9 hj]at h;cases h;exact⟨v,h1,h2.rep s1 fun b o hb e=>by rw[zF6 hb];exact e⟩
     ·rw[qAa z]at h;obtain⟨u,q1,q2⟩:=a.at j e k h;exact⟨u,q1,(q2.mono s1 (Same.refl _)).sub fun b hb=>⟨fun q=>z q.symm,hb⟩⟩
    ·obtain⟨n1,n2,n3⟩:=a.new j b p.2;have z:¬As i b:=fun z=>p.1 (a.dis j i b p.2 z)
     exact⟨n1,by rw[zCC z];exact n2,n3⟩
   exact⟨_,_,b⟩
theorem Sat.frzAt:∀(vs:List Nat){ρ:Ro}{G:Hp}{As:Nat->Addr->Prop},Sat G0 H0 S0 σ ρ G H As->∃G1 As1,Sat G0 H0 S0 σ (Mi.frzAt vs ρ) G1 H As1
 |[],_,_,_,a=>⟨_,_,a⟩
 |i::r,_,_,_,a=>by
  obtain⟨G1,As1,b⟩:=a.frz1 i;exact Sat.frzAt r b
theorem Sat.frz(a:Sat G0 H0 S0 σ ρ G H As):View G σ (Mi.frz ρ):=by
 refine⟨by simp[Mi.frz,a.len],fun i d e=>?_,a.tab.trans a.ext.g⟩;unfold Mi.frz at e;rw[qAf]at e;cases e1:ρ[i]? with
 |none=>rw[e1]at e;cases e
 |some o=>
  rw[e1]at e;cases o with
  |none=>cases e
  |some sl=>
   obtain⟨d',n⟩:=sl;obtain⟨v,h1,h2⟩:=a.at i d' n e1;simp only[qB8,qH1]at e
   split at e
   ·rename_i hz
    cases e
    rcases hz with hz|hz
    ·subst hz;exact⟨v,h1,h2⟩
    ·exact⟨v,h1,Own.scalar (k:=0) (G2:=G) (H2:=H) (S2:=fun _=>False) h2 hz⟩
   ·cases e
theorem Sat.store(a:Sat G0 H0 S0 σ ρ G H As){i n:Nat}{d:Dt}{v:V}{p:Addr}{o:HO}{S:Addr->Prop}(hp:As i p)(hv:σ[i]?=some (some v))(w:Own G (upd H p o) n S d v)
  (hS:∀b,S b->As i b\/(H0 b=none/\G b=none/\H b≠none/\∀j,¬As j b)):Sat G0 H0 S0 σ (ρ.set i (some (d,n))) G (upd H p o) (fun j=>if j=i then S else As j):=by
 obtain⟨p1,p2,p3⟩:=a.new i p hp;have hn:∀b,H b≠none->upd H p o b≠none:=fun b hb=>by
  by_cases z:b=p
  ·subst z;rw[zAF];simp
  ·rw[zAJ z];exact hb
 refine⟨⟨a.ext.g,L2.Same.upd a.ext.h p1 o,L2.Same.upd a.ext.in' p2 o,a.ext.old⟩,a.stb,a.tab,by simp[a.len],fun j e k h=>?_,fun j l b h1 h2=>?_,fun j b h=>?_⟩
 ·have hj:j<ρ.length:=by
   have:=(qA2.mp h).1
   simpa using this
  by_cases z:i=j
  ·subst z;rw[qA9 hj]at h;cases h;exact⟨v,hv,by rw[if_pos rfl];exact w⟩
  ·rw[qAa z]at h;obtain⟨u,h1,h2⟩:=a.at j e k h;exact⟨u,h1,by rw[if_neg (fun q=>z q.symm)];exact h2.upd fun q=>z (a.dis i j p hp q)⟩
 ·have key:∀j b,j≠i->As j b->S b->False:=fun j b hj h1 h2=>by
   rcases hS b h2 with q|⟨_,_,_,q⟩
   ·exact hj (a.dis j i b h1 q)
   ·exact q j h1
  try dsimp only at h1 h2
  by_cases z1:j=i
  ·by_cases z2:l=i
   ·rw[z1,z2]
   ·rw[if_pos z1]at h1;rw[if_neg z2]at h2;exact(key l b z2 h2 h1).elim
  ·by_cases z2:l=i
   ·rw[if_neg z1]at h1;rw[if_pos z2]at h2;exact(key j b z1 h1 h2).elim
   ·rw[if_neg z1]at h1;rw[if_neg z2]at h2;exact a.dis j l b h1 h2
 ·try dsimp only at h
  by_cases z1:j=i
  ·rw[if_pos z1]at h
   rcases hS b h with q|⟨q1,q2,q3,_⟩
   ·obtain⟨n1,n2,n3⟩:=a.new i b q;exact⟨n1,n2,hn b n3⟩
   ·exact⟨q1,q2,hn b q3⟩
  ·rw[if_neg z1]at h;obtain⟨n1,n2,n3⟩:=a.new j b h;exact⟨n1,n2,hn b n3⟩
end
def zDY(mg:Str->Option Value)(E:XK)(G0 H0 S0:Hp)(L:Nat)(r:R Out)(D:Ends):Prop:=match r with
 |none=>False
 |some (.error x)=>∀c da G' H',Ext G0 H0 G' H'->XRep mg x c da G' H'->E c da H'
 |some (.ok (.nx ρ))=>∀σ G H As,Sat G0 H0 S0 σ ρ G H As->D.nx σ H
 |some (.ok (.bk ρ))=>∀σ G H As,Sat G0 H0 S0 σ ρ G H As->D.bk σ H
 |some (.ok (.ct ρ))=>∀σ G H As,Sat G0 H0 S0 σ ρ G H As->D.ct σ H
 |some (.ok (.rt d))=>∀v G H S,Fr G0 H0 G H S->Own G H L S d v->D.rt v H
def DS(mg:Str->Option Value)(E:XK)(L:Nat)(t:TS)(m:SM):Prop:=∀(G0 H0 S0:Hp)(σ:St)(ρ:Ro)(G H:Hp)(As:Nat->Addr->Prop)(D:Ends),Sat G0 H0 S0 σ ρ G H As->zDY mg E G0 H0 S0 L (m ρ) D->t D σ H
section
variable{mg:Str->Option Value}{E:XK}{L n k l:Nat}{te ta tb:TE}{e ea eb:EM}{t u:TS}{m m':SM}
theorem errS{G0 H0 S0:Hp}{D:Ends}:Err mg E G0 H0 (fun r=>zDY mg E G0 H0 S0 L r D):=⟨fun h=>h,fun _ h=>h⟩
theorem zC7:DS mg E L zXI Mi.sNil:=fun G0 H0 S0 σ ρ G H As D a p=>p σ G H As a
theorem zAC(A:DS mg E L t m)(B:DS mg E L u m'):DS mg E L (tSeq t u) (Mi.sSeq m m'):=by
 intro G0 H0 S0 σ ρ G H As D a p;refine A G0 H0 S0 σ ρ G H As _ a ?_;unfold Mi.sSeq at p;cases e:m ρ with
 |none=>rw[e]at p;exact p
 |some r=>
  rw[e]at p;cases r with
  |error x=>exact p
  |ok o=>
   cases o with
   |nx ρ'=>exact fun σ' G' H' As' a'=>B G0 H0 S0 σ' ρ' G' H' As' D a' p
   |rt d=>exact p
   |bk ρ'=>exact p
   |ct ρ'=>exact p
theorem zDG{tc:TT}{c:TM}(C:DT mg E tc c)(A:DS mg E L t m)(B:DS mg E L u m'):DS mg E L (tIfS tc t u) (Mi.sIf c m m'):=by
 intro G0 H0 S0 σ ρ G H As D a p;obtain⟨J,x,s,w⟩:=a.full;refine C.step (errS.from x) x.in' w p fun b H' _ sH p1=>?_
 cases b with
 |true=>exact A G0 H0 S0 σ ρ G H' As D (a.grow sH) p1
 |false=>exact B G0 H0 S0 σ ρ G H' As D (a.grow sH) p1
theorem zJJ(A:DE mg E te e n):DS mg E L (zG6 te) (Mi.sDrop e):=by
 intro G0 H0 S0 σ ρ G H As D a p;obtain⟨J,x,s,w⟩:=a.full;refine A.step (errS.from x) x.in' w p fun d v G1 H1 S _ fr o p1=>?_
 exact p1 σ G H1 As (a.grow fr.ext.h)
theorem whole{G0 H0 S0:Hp}{σ:St}{ρ:Ro}{G H J G1 H1:Hp}{As:Nat->Addr->Prop}{S:Addr->Prop}{d:Dt}{v:V}(a:Sat G0 H0 S0 σ ρ G H As)(s:Same G J)(fr:Fr J H G1 H1 S)(o:Own G1 H1 n S d v)(hn:n<1000)(hd:d.dep<=n)(hk:d.dep<=k) :
  Own G H1 k S d v/\∀b,S b->H b=none/\G b=none/\H1 b≠none:=
 ⟨o.at hd hk hn,fun b hb=>let⟨n1,n2,n3⟩:=fr.new b hb;⟨n1,a.ext.in'.free n1,n3⟩⟩
theorem zAL{i:Nat}(vs:List Nat)(A:DE mg E te e n)(hn:n<1000:=by decide):DS mg E L (tAsg te (zGC i)) (Mi.sSet i n vs e):=by
 intro G0 H0 S0 σ ρ G H As D a p;obtain⟨J,x,s,w⟩:=a.full;unfold Mi.sSet at p;cases ee:e (full ρ)with
 |none=>rw[ee]at p;exact p.elim
 |some r=>
  cases r with
  |error y=>exact A.step (errS.from x) x.in' w p fun d v G1 H1 S e1 fr o p1=>by rw[ee]at e1;cases e1
  |ok d=>
   by_cases hd:d.dep<=n
   ·refine A.step (errS.from x) x.in' w p fun d' v G1 H1 S e1 fr o p1=>?_
    rw[ee]at e1;cases e1;rw[if_pos hd]at p1;obtain⟨q1,q2⟩:=whole (k:=n) a s fr o hn hd hd;exact p1 _ G H1 _ (a.set fr.ext.h q1 q2)
   ·rw[ee]at p;have p':zDY mg E G0 H0 S0 L (zA4 (e (frz (frzAt vs ρ))) fun d'=>okR (.nx ((frzAt vs ρ).set i (some (d',n))))) D:=by
     have p2:zDY mg E G0 H0 S0 L (if d.dep<=n then okR (.nx (ρ.set i (some (d,n))))else zA4 (e (frz (frzAt vs ρ))) fun d'=>okR (.nx ((frzAt vs ρ).set i (some (d',n))))) D:=p;rw[if_neg hd]at p2;exact p2
    obtain⟨G1,As1,a1⟩:=Sat.frzAt vs a;refine A.step (errS.from a1.ext) a1.ext.in' a1.frz p' fun d' v G2 H2 S _ fr o p1=>?_
    exact p1 _ G2 H2 _ ((a1.wider fr.ext).put o (fun b hb=>let⟨n1,n2,n3⟩:=fr.new b hb;⟨a1.ext.h.free n1,n2,n3⟩) fun j b _ h1 h2=>(a1.new j b h1).2.2 (fr.new b h2).1)
theorem zBY(vs:List Nat)(A:DE mg E te e n)(hn:n<1000:=by decide):DS mg E L (tRet te) (Mi.sRet L n vs e):=by
 intro G0 H0 S0 σ ρ G H As D a p;obtain⟨J,x,s,w⟩:=a.full;unfold Mi.sRet at p;cases ee:e (full ρ)with
 |none=>rw[ee]at p;exact p.elim
 |some r=>
  cases r with
  |error y=>exact A.step (errS.from x) x.in' w p fun d v G1 H1 S e1 fr o p1=>by rw[ee]at e1;cases e1
  |ok d=>
   by_cases hd:d.dep<=n/\d.dep<=L
   ·refine A.step (errS.from x) x.in' w p fun d' v G1 H1 S e1 fr o p1=>?_
    rw[ee]at e1;cases e1;rw[if_pos hd]at p1;exact p1 v G1 H1 S (Fr.from x fr) (o.at hd.1 hd.2 hn)
   ·rw[ee]at p;have p2:zDY mg E G0 H0 S0 L (if d.dep<=n/\d.dep<=L then okR (.rt d)else if n=L then zA4 (e (frz (frzAt vs ρ))) fun d'=>okR (.rt d')else none) D:=p;rw[if_neg hd]at p2
    by_cases hl:n=L
    ·rw[if_pos hl]at p2;subst hl;obtain⟨G1,As1,a1⟩:=Sat.frzAt vs a;refine A.step (errS.from a1.ext) a1.ext.in' a1.frz p2 fun d' v G2 H2 S _ fr o p1=>?_
     exact p1 v G2 H2 S (Fr.from a1.ext fr) o
    ·rw[if_neg hl]at p2;exact p2.elim
theorem zCK(i:Nat):DS mg E L (tRet (vM i)) (Mi.sRetV L i):=by
 intro G0 H0 S0 σ ρ G H As D a p;unfold Mi.sRetV at p;cases e1:ρ[i]? with
 |none=>rw[e1]at p;exact p.elim
 |some o=>
  rw[e1]at p;cases o with
  |none=>exact p.elim
  |some sl=>
   obtain⟨d,k⟩:=sl;obtain⟨v,h1,h2⟩:=a.at i d k e1;show vM i σ H D.rt;unfold vM;rw[h1];dsimp only at p
   split at p
   ·rename_i hz
    rcases hz with hz|hz|hz
    ·subst hz;exact p v G H (As i) ⟨a.ext,fun b hb=>a.new i b hb⟩ h2
    ·subst hz;obtain⟨s1,s2⟩:=zE6 (S:=As i) a.ext.in';refine p v (over G H (As i)) H (fun _=>False) ⟨⟨a.ext.g.trans s1,a.ext.h,s2,fun b hb=>?_⟩,fun _ z=>z.elim⟩ (h2.rep s1 fun b o hb e=>by rw[zF6 hb];exact e);have z:¬As i b:=fun z=>hb (a.new i b z).1
     rw[zCC z];exact a.ext.old b hb
    ·exact p v G H (As i) ⟨a.ext,fun b hb=>a.new i b hb⟩ (h2.at hz.1 hz.2.1 hz.2.2)
   ·exact p.elim
theorem Sat.puts{G0 H0 S0 G H:Hp}{bs:List (Nat×Dt)}{ws:List (Nat×V)}(h:BsRep G bs ws):∀{σ:St}{ρ:Ro}{As:Nat->Addr->Prop},Sat G0 H0 S0 σ ρ G H As->∃As',Sat G0 H0 S0 (zH0 σ ws) (zAV ρ bs) G H As':=by
 induction h with
 |nil=>exact fun a=>⟨_,a⟩
 |cons r _ ih=>exact fun a=>ih (a.put (n:=0) (S:=fun _=>False) r (fun _ z=>z.elim) fun _ _ _ _ z=>z.elim)
theorem zR0{g:TG}{is:List Nat}(vs:List Nat)(hT:TgOk g (.tup is))(A:DE mg E te e n):DS mg E L (tAsg te g) (Mi.sUnp is vs e):=by
 intro G0 H0 S0 σ ρ G H As D a p;obtain⟨G1,As1,a1⟩:=Sat.frzAt vs a;refine(zAM A).step (errS.from a1.ext) a1.ext.in' a1.frz p fun d v G2 H2 S _ fr o p1=>?_
 cases eb:zAS (.tup is) d with
 |none=>rw[eb]at p1;exact p1.elim
 |some bs=>
  rw[eb]at p1;refine hT G2 H2 σ d v bs _ fr.ext.in' o eb fun ws hw=>?_
  obtain⟨As',a2⟩:=Sat.puts hw (a1.wider fr.ext);exact p1 _ G2 H2 As' a2
theorem zLA(i:Nat)(A:DE mg E te e n)(hn:n<1000:=by decide):DS mg E L (zG6 (tML appM (vM i) (zCV te tNil))) (Mi.sApp i n e):=by
 intro G0 H0 S0 σ ρ G H As D a p;obtain⟨J,x,s,w⟩:=a.full;unfold Mi.sApp at p;cases e1:ρ[i]? with
 |none=>rw[e1]at p;exact p.elim
 |some o=>
  rw[e1]at p
  match o,e1,p with
  |none,_,p=>exact p.elim
  |some (.lst ds,k+1),e1,p=>
   obtain⟨v,h1,q,xs,T,rfl,hq,kd⟩:=a.at i _ _ e1;unfold zG6 tML vM;rw[h1];refine⟨xs,hq,?_⟩;refine A.step (errS.from x) x.in' w p fun d y G1 H1 S _ fr o p1=>?_
   split at p1
   ·rename_i hz
    obtain⟨q1,q2⟩:=whole (k:=k) a s fr o hn hz.2.1 hz.2.2;refine⟨xs,fr.ext.h _ _ hq,by rw[kd.len];exact L2.big (by lia),?_⟩;have hp:=kd.top;have a1:=a.grow fr.ext.h;have nS:¬S q:=fun z=>(a.new i q hp).2.2 (q2 q z).1
    have ap:∀r b,T r b->S b->False:=fun r b h1 h2=>(a.new i b (kd.sub r b h1)).2.2 (q2 b h2).1
    refine p1 σ G _ _ (a1.store (S:=fun b=>As i b\/S b) hp h1 ⟨q,_,fun r b=>(r<ds.length/\T r b)\/(r=ds.length/\S b),rfl,zAF,⟨by simp[kd.len],fun r d' z g1 g2=>?_,.inl hp,fun r z=>?_,fun r r' b z1 z2=>?_,fun r b z=>?_⟩⟩ fun b z=>?_)
    ·by_cases hr:r<ds.length
     ·rw[qA7 hr]at g1;rw[qA7 (by rw[kd.len];exact hr)]at g2;exact(((kd.own r d' z g1 g2).mono (Same.refl _) fr.ext.h).upd (kd.out r)).sub fun b z=>.inl ⟨hr,z⟩
     ·rw[qAb (by lia)]at g1;rw[qAb (by rw[kd.len];lia),kd.len]at g2;have hq0:r-ds.length=0:=by
       have:=(qA2.mp g1).1
       simp at this;lia
      rw[hq0]at g1 g2;simp at g1 g2;subst g1;subst g2;exact(q1.upd nS).sub fun b z=>.inr ⟨by lia,z⟩
    ·rcases z with⟨_,z⟩|⟨_,z⟩
     ·exact kd.out r z
     ·exact nS z
    ·rcases z1 with⟨c1,t1⟩|⟨c1,t1⟩<;>rcases z2 with⟨c2,t2⟩|⟨c2,t2⟩
     ·exact kd.dis r r' b t1 t2
     ·exact(ap r b t1 t2).elim
     ·exact(ap r' b t2 t1).elim
     ·lia
    ·rcases z with⟨_,z⟩|⟨_,z⟩
     ·exact .inl (kd.sub r b z)
     ·exact .inr z
    ·rcases z with z|z
     ·exact .inl z
     ·obtain⟨n1,n2,n3⟩:=q2 b z;exact .inr ⟨a.ext.h.free n1,n2,n3,fun j y=>(a.new j b y).2.2 n1⟩
   ·exact p1.elim
  |some (.lst ds,0),_,p=>exact p.elim
  |some (.non,_),_,p=>exact p.elim
  |some (.bl _,_),_,p=>exact p.elim
  |some (.int _,_),_,p=>exact p.elim
  |some (.str _,_),_,p=>exact p.elim
  |some (.tup _,_),_,p=>exact p.elim
  |some (.scr _,_),_,p=>exact p.elim
  |some (.exc _ _ _,_),_,p=>exact p.elim
  |some (.fn _ _,_),_,p=>exact p.elim
  |some (.dtt _ _,_),_,p=>exact p.elim
  |some (.loc _ _,_),_,p=>exact p.elim
  |some (.ins _ _,_),_,p=>exact p.elim
  |some (.dct _,_),_,p=>exact p.elim
theorem Kids.pop{P:(Addr->Prop)->Dt->V->Prop}{S:Addr->Prop}{a:Addr}{ds:List Dt}{xs:List V}{T:Nat->Addr->Prop}(k:Kids P S a ds xs T)(q:Nat) :
  Kids P (fun b=>S b/\¬T q b) a (ds.eraseIdx q) (xs.eraseIdx q) (fun r=>if r<q then T r else T (r+1)):=by
 refine⟨by rw[qEm,qEm,k.len],fun r d x h1 h2=>?_,⟨k.top,k.out q⟩,fun r=>?_,fun r r' b z1 z2=>?_,fun r b z=>?_⟩
 ·rw[List.getElem?_eraseIdx]at h1 h2
  try dsimp only
  by_cases hr:r<q
  ·rw[if_pos hr]at h1 h2 ⊢;exact k.own r d x h1 h2
  ·rw[if_neg hr]at h1 h2 ⊢;exact k.own (r+1) d x h1 h2
 ·try dsimp only
  split
  ·exact k.out _
  ·exact k.out _
 ·try dsimp only at z1 z2
  by_cases h1:r<q<;>by_cases h2:r'<q
  ·rw[if_pos h1]at z1;rw[if_pos h2]at z2;exact k.dis _ _ b z1 z2
  ·rw[if_pos h1]at z1;rw[if_neg h2]at z2;have:=k.dis _ _ b z1 z2;lia
  ·rw[if_neg h1]at z1;rw[if_pos h2]at z2;have:=k.dis _ _ b z1 z2;lia
  ·rw[if_neg h1]at z1;rw[if_neg h2]at z2;have:=k.dis _ _ b z1 z2;lia
 ·try dsimp only at z
  by_cases h1:r<q
  ·rw[if_pos h1]at z;exact⟨k.sub _ b z,fun w=>by have:=k.dis _ _ b z w;lia⟩
  ·rw[if_neg h1]at z;exact⟨k.sub _ b z,fun w=>by have:=k.dis _ _ b z w;lia⟩
theorem zPU{G H:Hp}{p:Addr}{o:HO}{S:Addr->Prop}{a:Addr}{ds:List Dt}{xs:List V}{T:Nat->Addr->Prop}(k:Kids (Own G H n) S a ds xs T)(hp:∀q,¬T q p):Kids (Own G (upd H p o) n) S a ds xs T:=
 ⟨k.len,fun q d x h1 h2=>(k.own q d x h1 h2).upd (hp q),k.top,k.out,k.dis,k.sub⟩
theorem zUH(j i:Nat)(A:DE mg E te e n):DS mg E L (tAsg (tML popM (vM i) (zCV te tNil)) (zGC j)) (Mi.sPop j i e):=by
 intro G0 H0 S0 σ ρ G H As D a p;obtain⟨J,x,s,w⟩:=a.full;unfold Mi.sPop at p;cases e1:ρ[i]? with
 |none=>rw[e1]at p;exact p.elim
 |some o=>
  rw[e1]at p
  match o,e1,p with
  |none,_,p=>exact p.elim
  |some (.lst ds,k+1),e1,p=>
   obtain⟨v,h1,q,xs,T,rfl,hq,kd⟩:=a.at i _ _ e1;unfold tAsg tML vM;rw[h1];refine⟨xs,hq,?_⟩;refine(zAM A).step (errS.from x) x.in' w p fun d y G1 H1 S _ fr o p1=>?_
   cases d with
   |int z=>
    cases(show y=.int z from o)
    dsimp only at p1;cases ei:Mi.ixA ds.length z with
    |none=>rw[ei]at p1;exact p1.elim
    |some c=>
     rw[ei]at p1;dsimp only at p1;cases ec:ds[c]? with
     |none=>rw[ec]at p1;exact p1.elim
     |some dc=>
      rw[ec]at p1;dsimp only at p1
      split at p1
      ·rename_i hz
       rw[zNH]at ei;obtain⟨g1,g2,g3,g4⟩:=zJD ei;have hc:c<xs.length:=by rw[kd.len];exact g2
       have hx:xs[c]?=some xs[c]:=qA4 hc;refine⟨xs,c,xs[c],fr.ext.h _ _ hq,⟨by lia,by lia⟩,by rw[kd.len];exact g1,hx,?_⟩;have a1:=a.grow fr.ext.h;have kd1:Kids (Own G H1 k) (As i) q ds xs T:=kd.imp (fun _ _ _ _ w=>w.mono (Same.refl _) fr.ext.h) fun _ z=>z
       have a2:=a1.store (o:=.lst (xs.eraseIdx c)) (n:=k+1) (d:=.lst (ds.eraseIdx c)) (S:=fun b=>As i b/\¬T c b) kd.top h1 ⟨q,_,_,rfl,zAF,zPU (kd1.pop c) fun r=>by split<;>exact kd.out _⟩ fun b z=>.inl z.1
       refine p1 _ G _ _ (a2.put (S:=T c) ((kd1.own c dc _ ec hx).upd (kd.out c)) (fun b hb=>?_) fun l b hl z1 z2=>?_)
       ·obtain⟨n1,n2,n3⟩:=a1.new i b (kd.sub c b hb);refine⟨n1,n2,?_⟩;rw[zAJ (fun z:b=q=>kd.out c (z▸hb))];exact n3
       ·try dsimp only at z1
        by_cases z:l=i
        ·rw[if_pos z]at z1;exact z1.2 z2
        ·rw[if_neg z]at z1;exact z (a.dis l i b z1 (kd.sub c b z2))
      ·exact p1.elim
   |_=>exact p1.elim
  |some (.lst ds,0),_,p=>exact p.elim
  |some (.non,_),_,p=>exact p.elim
  |some (.bl _,_),_,p=>exact p.elim
  |some (.int _,_),_,p=>exact p.elim
  |some (.str _,_),_,p=>exact p.elim
  |some (.tup _,_),_,p=>exact p.elim
  |some (.scr _,_),_,p=>exact p.elim
  |some (.exc _ _ _,_),_,p=>exact p.elim
  |some (.fn _ _,_),_,p=>exact p.elim
  |some (.dtt _ _,_),_,p=>exact p.elim
  |some (.loc _ _,_),_,p=>exact p.elim
  |some (.ins _ _,_),_,p=>exact p.elim
  |some (.dct _,_),_,p=>exact p.elim
end
end
section
variable[Kc]{mg:Str->Option Value}{E:XK}{L n k l:Nat}{te ta tb:TE}{e ea eb:EM}{t u:TS}{m m':SM}
theorem Kids.set{G H:Hp}{S:Addr->Prop}{a p:Addr}{ds:List Dt}{xs:List V}{T:Nat->Addr->Prop}{S':Addr->Prop}{d:Dt}{v:V}{o:HO}(k:Kids (Own G H n) S a ds xs T)(q:Nat)(w:Own G (upd H p o) n S' d v)(hp:∀r,r≠q->¬T r p)(ha:¬S' a)
  (hd:∀r b,r≠q->T r b->S' b->False):Kids (Own G (upd H p o) n) (fun b=>S b\/S' b) a (ds.set q d) (xs.set q v) (fun r b=>if r=q then S' b else T r b):=by
 refine⟨by simp[k.len],fun r d' x h1 h2=>?_,.inl k.top,fun r=>?_,fun r r' b z1 z2=>?_,fun r b z=>?_⟩
 ·by_cases z:q=r
  ·subst z;have h:q<ds.length:=by
    have:=(qA2.mp h1).1
    simpa using this
   rw[qA9 h]at h1;rw[qA9 (by rw[k.len];exact h)]at h2;cases h1;cases h2;exact w.sub fun b hb=>by rw[if_pos rfl];exact hb
  ·rw[qAa z]at h1 h2;exact((k.own r d' x h1 h2).upd (hp r fun y=>z y.symm)).sub fun b hb=>by rw[if_neg (fun y=>z y.symm)];exact hb
 ·try dsimp only
  split
  ·exact ha
  ·exact k.out _
 ·try dsimp only at z1 z2
  by_cases h1:r=q<;>by_cases h2:r'=q
  ·rw[h1,h2]
  ·rw[if_pos h1]at z1;rw[if_neg h2]at z2;exact(hd r' b h2 z2 z1).elim
  ·rw[if_neg h1]at z1;rw[if_pos h2]at z2;exact(hd r b h1 z1 z2).elim
  ·rw[if_neg h1]at z1;rw[if_neg h2]at z2;exact k.dis _ _ b z1 z2
 ·try dsimp only at z
  by_cases h1:r=q
  ·rw[if_pos h1]at z;exact .inr z
  ·rw[if_neg h1]at z;exact .inl (k.sub _ b z)
theorem zHM(i:Nat){n1:Nat}{t1 t2:TE}{e1 e2:EM}(A:DE mg E t1 e1 n1)(B:DE mg E t2 e2 n)(hn:n<1000:=by decide):DS mg E L (tAsg t2 (gSub (vM i) t1 setM)) (Mi.sItem i n e1 e2):=by
 intro G0 H0 S0 σ ρ G H As D a p;obtain⟨J,x,s,w⟩:=a.full;refine B.step (errS.from x) x.in' w p fun d y G1 H1 S _ fr o p1=>?_
 cases er:ρ[i]? with
 |none=>rw[er]at p1;exact p1.elim
 |some sl=>
  rw[er]at p1
  match sl,er,p1 with
  |none,_,p=>exact p.elim
  |some (.lst ds,k+1),er,p1=>
   obtain⟨v,h1,q,xs,T,rfl,hq,kd⟩:=a.at i _ _ er;unfold gSub vM;rw[h1];have x1:Ext J H J H1:=Ext.same x.in' fr.ext.h;refine(zAM A).step (errS.from (x.trans x1)) x1.in' w p1 fun z u G2 H2 S2 _ fr2 o2 p2=>?_
   cases z with
   |int z=>
    cases(show u=.int z from o2)
    try dsimp only at p2
    cases ei:Mi.ixA ds.length z with
    |none=>rw[ei]at p2;exact p2.elim
    |some c=>
     rw[ei]at p2
     try dsimp only at p2
     split at p2
     ·rename_i hz
      rw[zNH]at ei;obtain⟨q1,q2⟩:=whole (k:=k) a s fr o hn hz.1 hz.2;have sH:=fr.ext.h.trans fr2.ext.h;refine⟨xs,c,sH _ _ hq,by rw[kd.len];exact ei,?_⟩;have a1:=a.grow sH;have nS:¬S q:=fun z=>(a.new i q kd.top).2.2 (q2 q z).1
      have kd1:Kids (Own G H2 k) (As i) q ds xs T:=kd.imp (fun _ _ _ _ w=>w.mono (Same.refl _) sH) fun _ z=>z
      refine p2 σ G _ _ (a1.store (S:=fun b=>As i b\/S b) kd.top h1 ⟨q,_,_,rfl,zAF,kd1.set c ((q1.mono (Same.refl _) fr2.ext.h).upd nS) (fun r _=>kd.out r) nS fun r b _ z1 z2=>(a.new i b (kd.sub r b z1)).2.2 (q2 b z2).1⟩ fun b z=>?_)
      rcases z with z|z
      ·exact .inl z
      ·obtain⟨n1,n2,n3⟩:=q2 b z;exact .inr ⟨a.ext.h.free n1,n2,fr2.ext.h.some n3,fun j y=>(a.new j b y).2.2 n1⟩
     ·exact p2.elim
   |_=>exact p2.elim
  |some (.lst ds,0),_,p=>exact p.elim
  |some (.non,_),_,p=>exact p.elim
  |some (.bl _,_),_,p=>exact p.elim
  |some (.int _,_),_,p=>exact p.elim
  |some (.str _,_),_,p=>exact p.elim
  |some (.tup _,_),_,p=>exact p.elim
  |some (.scr _,_),_,p=>exact p.elim
  |some (.exc _ _ _,_),_,p=>exact p.elim
  |some (.fn _ _,_),_,p=>exact p.elim
  |some (.dtt _ _,_),_,p=>exact p.elim
  |some (.loc _ _,_),_,p=>exact p.elim
  |some (.ins _ _,_),_,p=>exact p.elim
  |some (.dct _,_),_,p=>exact p.elim
theorem zL9(j i:Nat)(A:DE mg E te e n):DS mg E L (zG6 (tML appM (vM j) (zCV (tML popM (vM i) (zCV te tNil)) tNil))) (Mi.sAppPop j i e):=by
 intro G0 H0 S0 σ ρ G H As D a p;obtain⟨J,x,s,w⟩:=a.full;unfold Mi.sAppPop at p;cases f1:ρ[j]? with
 |none=>rw[f1]at p;exact p.elim
 |some oj=>
  rw[f1]at p
  match oj,f1,p with
  |none,_,p=>exact p.elim
  |some (.lst es,l+1),f1,p=>
   cases e1:ρ[i]? with
   |none=>rw[e1]at p;exact p.elim
   |some o=>
    rw[e1]at p
    match o,e1,p with
    |none,_,p=>exact p.elim
    |some (.lst ds,k+1),e1,p=>
     obtain⟨v',g1,q',ys,T',rfl,hq',kd'⟩:=a.at j _ _ f1;obtain⟨v,h1,q,xs,T,rfl,hq,kd⟩:=a.at i _ _ e1;unfold zG6 tML zCV vM;rw[g1];refine⟨ys,hq',?_⟩;dsimp only;rw[h1];refine⟨xs,hq,?_⟩;refine(zAM A).step (errS.from x) x.in' w p fun d y G1 H1 S _ fr o p1=>?_
     cases d with
     |int z=>
      cases(show y=.int z from o)
      try dsimp only at p1
      cases ei:Mi.ixA ds.length z with
      |none=>rw[ei]at p1;exact p1.elim
      |some c=>
       rw[ei]at p1
       try dsimp only at p1
       cases ec:ds[c]? with
       |none=>rw[ec]at p1;exact p1.elim
       |some dc=>
        rw[ec]at p1
        try dsimp only at p1
        split at p1
        ·rename_i hz
         obtain⟨hij,hz1,hz2,hlv⟩:=hz;rw[zNH]at ei;obtain⟨b1,b2,b3,b4⟩:=zJD ei;have hc:c<xs.length:=by rw[kd.len];exact b2
         have hx:xs[c]?=some xs[c]:=qA4 hc;refine⟨xs,c,xs[c],fr.ext.h _ _ hq,⟨by lia,by lia⟩,by rw[kd.len];exact b1,hx,?_⟩;have a1:=a.grow fr.ext.h;have kd1:Kids (Own G H1 k) (As i) q ds xs T:=kd.imp (fun _ _ _ _ w=>w.mono (Same.refl _) fr.ext.h) fun _ z=>z
         have hqq:q'≠q:=fun z=>hij (a.dis i j q kd.top (z▸kd'.top))
         have hjq:¬As j q:=fun z=>hij (a.dis i j q kd.top z)
         have kd1':Kids (Own G (upd H1 q (.lst (xs.eraseIdx c))) l) (As j) q' es ys T':=zPU (kd'.imp (fun _ _ _ _ w=>w.mono (Same.refl _) fr.ext.h) fun _ z=>z) fun r z=>hjq (kd'.sub r q z)
         refine⟨ys,by rw[zAJ hqq];exact fr.ext.h _ _ hq',by rw[kd'.len];exact L2.big (by lia),?_⟩;have a2:=a1.store (o:=.lst (xs.eraseIdx c)) (n:=k+1) (d:=.lst (ds.eraseIdx c)) (S:=fun b=>As i b/\¬T c b) kd.top h1 ⟨q,_,_,rfl,zAF,zPU (kd1.pop c) fun r=>by split<;>exact kd.out _⟩ fun b z=>.inl z.1
         have wc:Own G (upd H1 q (.lst (xs.eraseIdx c))) l (T c) dc xs[c]:=by
          have w0:=(kd1.own c dc _ ec hx).upd (o:=.lst (xs.eraseIdx c)) (kd.out c)
          rcases hlv with z|⟨z1,z2,z3⟩
          ·subst z;exact w0
          ·exact w0.at z1 z2 z3
         have nT:¬T c q':=fun z=>hij (a.dis i j q' (kd.sub c q' z) kd'.top)
         have ap:∀r b,T' r b->T c b->False:=fun r b z1 z2=>hij (a.dis i j b (kd.sub c b z2) (kd'.sub r b z1))
         have e3:(if j=i then fun b=>As i b/\¬T c b else As j)=As j:=if_neg (fun z=>hij z.symm);have hp:(fun l=>if l=i then fun b=>As i b/\¬T c b else As l) j q':=by
          show(if j=i then fun b=>As i b/\¬T c b else As j) q'
          rw[e3];exact kd'.top
         refine p1 σ G _ _ (a2.store (i:=j) (p:=q') (S:=fun b=>As j b\/T c b) (n:=l+1) (d:=.lst (es++[dc])) (v:=.ref q') (o:=.lst (ys++[xs[c]])) hp g1
          ⟨q',_,fun r b=>(r<es.length/\T' r b)\/(r=es.length/\T c b),rfl,zAF,⟨by simp[kd'.len],fun r d' z f1 f2=>?_,.inl kd'.top,fun r z=>?_,fun r r' b z1 z2=>?_,fun r b z=>?_⟩⟩ fun b z=>?_)
         ·by_cases hr:r<es.length
          ·rw[qA7 hr]at f1;rw[qA7 (by rw[kd'.len];exact hr)]at f2;exact((kd1'.own r d' z f1 f2).upd (kd'.out r)).sub fun b z=>.inl ⟨hr,z⟩
          ·rw[qAb (by lia)]at f1;rw[qAb (by rw[kd'.len];lia),kd'.len]at f2;have hq0:r-es.length=0:=by
            have:=(qA2.mp f1).1
            simp at this;lia
           rw[hq0]at f1 f2;simp at f1 f2;subst f1;subst f2;exact(wc.upd nT).sub fun b z=>.inr ⟨by lia,z⟩
         ·rcases z with⟨_,z⟩|⟨_,z⟩
          ·exact kd'.out r z
          ·exact nT z
         ·rcases z1 with⟨c1,t1⟩|⟨c1,t1⟩<;>rcases z2 with⟨c2,t2⟩|⟨c2,t2⟩
          ·exact kd'.dis r r' b t1 t2
          ·exact(ap r b t1 t2).elim
          ·exact(ap r' b t2 t1).elim
          ·lia
         ·rcases z with⟨_,z⟩|⟨_,z⟩
          ·exact .inl (kd'.sub r b z)
          ·exact .inr z
         ·rcases z with z|z
          ·refine .inl ?_
           show(if j=i then fun b=>As i b/\¬T c b else As j) b
           rw[e3];exact z
          ·obtain⟨n1,n2,n3⟩:=a1.new i b (kd.sub c b z);refine .inr ⟨n1,n2,?_,fun r y=>?_⟩
           ·rw[zAJ (fun y:b=q=>kd.out c (y▸z))];exact n3
           ·have y':(if r=i then fun b=>As i b/\¬T c b else As r) b:=y
            by_cases hr:r=i
            ·rw[if_pos hr]at y';exact y'.2 z
            ·rw[if_neg hr]at y';exact hr (a.dis r i b y' (kd.sub c b z))
        ·exact p1.elim
     |_=>exact p1.elim
    |some (.lst ds,0),_,p=>exact p.elim
    |some (.non,_),_,p=>exact p.elim
    |some (.bl _,_),_,p=>exact p.elim
    |some (.int _,_),_,p=>exact p.elim
    |some (.str _,_),_,p=>exact p.elim
    |some (.tup _,_),_,p=>exact p.elim
    |some (.scr _,_),_,p=>exact p.elim
    |some (.exc _ _ _,_),_,p=>exact p.elim
    |some (.fn _ _,_),_,p=>exact p.elim
    |some (.dtt _ _,_),_,p=>exact p.elim
    |some (.loc _ _,_),_,p=>exact p.elim
    |some (.ins _ _,_),_,p=>exact p.elim
    |some (.dct _,_),_,p=>exact p.elim
  |some (.lst ds,0),_,p=>exact p.elim
  |some (.non,_),_,p=>exact p.elim
  |some (.bl _,_),_,p=>exact p.elim
  |some (.int _,_),_,p=>exact p.elim
  |some (.str _,_),_,p=>exact p.elim
  |some (.tup _,_),_,p=>exact p.elim
  |some (.scr _,_),_,p=>exact p.elim
  |some (.exc _ _ _,_),_,p=>exact p.elim
  |some (.fn _ _,_),_,p=>exact p.elim
  |some (.dtt _ _,_),_,p=>exact p.elim
  |some (.loc _ _,_),_,p=>exact p.elim
  |some (.ins _ _,_),_,p=>exact p.elim
  |some (.dct _,_),_,p=>exact p.elim
theorem zUC{G0 H0 S0:Hp}{D:Ends}{g:TG}{tg:Tg}{J:It}{ds:List Dt}{GJ:Hp}(hT:TgOk g tg)(B:DS mg E L t m)(io:ItOk J GJ ds){σ:St}{ρ:Ro}{G H:Hp}{As:Nat->Addr->Prop}(a:Sat G0 H0 S0 σ ρ G H As)(sJ:Same GJ G)
  (p:zDY mg E G0 H0 S0 L (Mi.forGo tg m ds ρ) D):zS0 g t D σ J H:=by
 refine⟨fun i c σ H=>c=ds.length-i/\i<=ds.length/\∃ρ G As,Sat G0 H0 S0 σ ρ G H As/\Same GJ G/\zDY mg E G0 H0 S0 L (Mi.forGo tg m (ds.drop i) ρ) D,
  ⟨_,rfl,qAk _,ρ,G,As,a,sJ,by rw[qGf];exact p⟩,?_⟩
 rintro i c σ H ⟨rfl,hi,ρ,G,As,a,sJ,p⟩
 obtain⟨j1,j2,j3⟩:=io i G H sJ a.ext.in'
 by_cases hlt:i<ds.length
 ·refine .inr ⟨j1 hlt,fun σ' H'=>i+1<=ds.length/\∃ρ G As,Sat G0 H0 S0 σ' ρ G H' As/\Same GJ G/\zDY mg E G0 H0 S0 L (Mi.forGo tg m (ds.drop (i+1)) ρ) D,fun σ' H' q=>⟨ds.length-(i+1),by lia,rfl,q⟩,fun x H2 hy=>?_⟩;have hd:ds[i]?=some ds[i]:=qA4 hlt;obtain⟨G2,x2,r2⟩:=j3 x H2 ds[i] hd hy;rw[qBy hlt,Mi.forGo]at p;cases eb:zAS tg ds[i]with
  |none=>rw[eb]at p;exact p.elim
  |some bs=>
   rw[eb]at p
   try dsimp only at p
   refine hT G2 H2 _ _ x bs _ x2.in' r2 eb fun ws hb=>?_
   obtain⟨As2,a2⟩:=Sat.puts hb (a.wider x2);have a3:Sat G0 H0 GJ (zH0 σ ws) (zAV ρ bs) G2 H2 As2:=⟨a2.ext,sJ.trans x2.g,a2.tab,a2.len,a2.at,a2.dis,a2.new⟩
   have key:∀(S1:Hp),Same S0 S1->Same GJ S1->Sat G0 H0 S1 (zH0 σ ws) (zAV ρ bs) G2 H2 As2->t { D with nx:=fun σ' H'=>i+1<=ds.length/\∃ρ G As,Sat G0 H0 S0 σ' ρ G H' As/\Same GJ G/\zDY mg E G0 H0 S0 L (Mi.forGo tg m (ds.drop (i+1)) ρ) D,ct:=fun σ' H'=>i+1<=ds.length/\∃ρ G As,Sat G0 H0 S0 σ' ρ G H' As/\Same GJ G/\zDY mg E G0 H0 S0 L (Mi.forGo tg m (ds.drop (i+1)) ρ) D,bk:=D.nx } (zH0 σ ws) H2:=by
    intro S1 s1 s2 a4;refine B G0 H0 S1 _ _ G2 H2 As2 _ a4 ?_;have back:∀{σ':St}{ρ':Ro}{G' H':Hp}{As':Nat->Addr->Prop},Sat G0 H0 S1 σ' ρ' G' H' As'->Sat G0 H0 S0 σ' ρ' G' H' As'/\Same GJ G':=fun a5=>⟨⟨a5.ext,s1.trans a5.stb,a5.tab,a5.len,a5.at,a5.dis,a5.new⟩,s2.trans a5.stb⟩
    cases em:m (zAV ρ bs)with
    |none=>rw[em]at p;exact p
    |some r=>
     rw[em]at p;cases r with
     |error y=>exact p
     |ok o=>
      cases o with
      |nx ρ'=>exact fun σ' G' H' As' a5=>⟨hlt,ρ',G',As',(back a5).1,(back a5).2,p⟩
      |ct ρ'=>exact fun σ' G' H' As' a5=>⟨hlt,ρ',G',As',(back a5).1,(back a5).2,p⟩
      |bk ρ'=>exact fun σ' G' H' As' a5=>p σ' G' H' As' (back a5).1
      |rt d=>exact p
   exact key G2 a2.stb (sJ.trans x2.g) ⟨a2.ext,Same.refl _,a2.tab,a2.len,a2.at,a2.dis,a2.new⟩
 ·have e:i=ds.length:=by lia
  subst e;rw[qE4,Mi.forGo]at p;exact .inl ⟨j2 (qA6 _),p σ G H As a⟩
theorem zGK{wi:TI}{it:IM}{g:TG}{tg:Tg}(vs:List Nat){ind:Bool}(I:DI mg E wi it ind)(hT:TgOk g tg)(B:DS mg E L t m):DS mg E L (fun D σ H=>wi σ H (zS0 g t D σ)) (Mi.sFor vs it tg m):=by
 intro G0 H0 S0 σ ρ G H As D a p;obtain⟨G1,As1,a1⟩:=Sat.frzAt vs a;refine I.step (errS.from a1.ext) a1.ext.in' a1.frz p fun ds J G2 H2 _ x2 io p1=>?_
 refine zUC hT B io (a1.wider x2) ?_ p1;unfold zRL
 split
 ·exact fun b o e=>by cases e
 ·exact Same.refl _
theorem zFA{wi:TI}{it:IM}{i:Nat}(I:DI mg E wi it true)(B:DS mg E L t m):DS mg E L (fun D σ H=>wi σ H (zS0 (zGC i) t D σ)) (Mi.sForR it i m):=by
 intro G0 H0 S0 σ ρ G H As D a p;obtain⟨J,x,s,w⟩:=a.full;refine I.step (errS.from x) x.in' w p fun ds J G2 H2 _ x2 io p1=>?_
 exact zUC (zC2 i) B io (a.grow x2.h) (fun b o e=>by cases e) p1
theorem zZW{G0 H0 S0:Hp}{D:Ends}{tc:TT}{c:TM}(C:DT mg E tc c)(B:DS mg E L t m)(N:Nat){σ:St}{ρ:Ro}{G H:Hp}{As:Nat->Addr->Prop}(a:Sat G0 H0 S0 σ ρ G H As)(p:zDY mg E G0 H0 S0 L (Mi.whGo c m N ρ) D):zP6 tc t D σ H:=by
 refine⟨fun i σ H=>∃ρ G As,Sat G0 H0 S0 σ ρ G H As/\zDY mg E G0 H0 S0 L (Mi.whGo c m i ρ) D,⟨N,ρ,G,As,a,p⟩,?_⟩
 rintro i σ H ⟨ρ,G,As,a,p⟩
 cases i with
 |zero=>exact p.elim
 |succ i=>
  obtain⟨J,x,s,w⟩:=a.full;rw[Mi.whGo]at p;refine C.step (errS.from x) x.in' w p fun b H' _ sH p1=>?_
  cases b with
  |false=>exact p1 σ G H' As (a.grow sH)
  |true=>
   rw[if_pos rfl];refine⟨fun σ' H'=>∃ρ G As,Sat G0 H0 S0 σ' ρ G H' As/\zDY mg E G0 H0 S0 L (Mi.whGo c m i ρ) D,fun σ' H' q=>⟨i,qFi i,q⟩,?_⟩;refine B G0 H0 S0 σ ρ G H' As _ (a.grow sH) ?_;rw[if_pos rfl]at p1;cases em:m ρ with
   |none=>rw[em]at p1;exact p1
   |some r=>
    rw[em]at p1;cases r with
    |error y=>exact p1
    |ok o=>
     cases o with
     |nx ρ'=>exact fun σ' G' H' As' a5=>⟨ρ',G',As',a5,p1⟩
     |ct ρ'=>exact fun σ' G' H' As' a5=>⟨ρ',G',As',a5,p1⟩
     |bk ρ'=>exact fun σ' G' H' As' a5=>p1 σ' G' H' As' a5
     |rt d=>exact p1
theorem zJI{tc:TT}{c:TM}(C:DT mg E tc c)(B:DS mg E L t m):DS mg E L (zP6 tc t) (Mi.sWhile c m):=fun G0 H0 S0 σ ρ G H As D a p=>zZW C B _ a p
theorem dz(A:DE mg E te e 0):DE mg E te e 0:=A
theorem zIN{P N:Nat}{vs:List V}{H:Hp}{Q:VK}{E:XK}(h:spM mg L (Mi.runF P N m) vs H Q E):vs.length=P:=by
 obtain⟨G,ds,_,s,r,p⟩:=h;rw[r.length];unfold Mi.runF at p
 split at p
 ·rename_i h;exact h
 ·exact p.elim
theorem zBB{P:Nat}{N:List Str}{vs:List V}{H:Hp}{Q:VK}(B:DS mg E L t m)(h:spM mg L (Mi.runF P N.length m) vs H Q E):t { nx:=fun _ H'=>Q .non H',rt:=Q } (L2.start N vs) H:=by
 obtain⟨G,ds,tb,s,r,p⟩:=h;unfold Mi.runF at p
 split at p
 ·refine B G H G _ (Mi.startO N.length ds) G H (fun _ _=>False) _ ⟨Ext.refl s,Same.refl _,tb,?_,fun i d n e=>?_,fun _ _ _ z=>z.elim,fun _ _ z=>z.elim⟩ ?_
  ·unfold Mi.startO L2.start;simp[r.length]
  ·unfold Mi.startO at e
   by_cases hi:i<ds.length
   ·rw[qA7 (by simpa using hi),qAf]at e;cases e1:ds[i]? with
    |none=>rw[e1]at e;cases e
    |some d'=>
     rw[e1]at e;cases e;have hv:vs[i]?=some (vs[i]'(by rw[r.length];exact hi)):=by simp
     refine⟨vs[i]'(by rw[r.length];exact hi),?_,zCH r e1 hv⟩;unfold L2.start;rw[qA7 (by simpa[r.length]using hi),qAf,hv];rfl
   ·rw[qAb (by simpa using hi),qBf]at e
    split at e<;>cases e
  ·cases em:m (Mi.startO N.length ds)with
   |none=>rw[em]at p;exact p
   |some r=>
    rw[em]at p;cases r with
    |error y=>exact p
    |ok o=>
     cases o with
     |nx ρ'=>exact fun σ' G' H' As' a=>PostE.val (d:=.non) p a.ext rfl rfl
     |rt d=>exact p
     |bk ρ'=>exact p.elim
     |ct ρ'=>exact p.elim
 ·exact p.elim
end
end L3
namespace L2
open PySem PySem.Spec PyProof.Rows
section
variable{X:Cx}
end
end L2
namespace L3
open PySem PySem.Spec
open L2 hiding Rep RepL
open Mi (Dt Xn R okR zA4 optR zA1 zAA zAE zA8 zAD Rh Sl Ro EM TM AM FM IM SM OM Tg Out zAS zAT zAV full frz frz1 frzAt)
section
variable[Kc]{mg:Str->Option Value}{E:XK}{L n k l:Nat}{te ta tb:TE}{e ea eb:EM}{t u:TS}{m m':SM}
theorem zM8{G:Hp}{d:Dt}{v:V}(h:Rep G d v)(hd:d.dep=0):zGD v=true:=(zEN (by lia) h).flat (qFz.mp (qAl (zFZ (by lia)) (qEg hd)))
theorem zQT{G:Hp}{d e:Dt}{v u:V}(h:Rep G d v)(h':Rep G e u)(hd:d.dep=0)(he:e.dep=0):eqV v u=Dt.eq d e:=by
 rw[<- zME (by lia) (by lia)];exact(zEN (by lia) h).flatEq (zEN (by lia) h') (qFz.mp (qAl (zFZ (by lia)) (qEg hd))) (qFz.mp (qAl (zFZ (by lia)) (qEg he)))
theorem zWD{G:Hp}{d:Dt}{v:V}(h:Rep G d v)(hd:d.dep=0):∀{ds:List Dt}{vs:List V},RepL G ds vs->Dt.depL ds=0->vs.all zGD=true/\inV v vs=ds.any fun y=>Dt.eq y d
 |[],vs,r,_=>by cases(show vs=[] from r);exact⟨rfl,rfl⟩
 |e::ds,vs,r,hz=>by
  obtain⟨x,q,rfl,a,b⟩:=r;rw[Dt.depL]at hz;obtain⟨h1,h2⟩:=zWD h hd b (by lia);have he:e.dep=0:=by lia
  refine⟨by simp[zM8 a he,h1],?_⟩;unfold inV at h2 ⊢;rw[qCf,qCf,h2,zQT a h he hd]
theorem zaC{ng:Bool}:ROp (rInU Kc.K ng) (Mi.inD ng) n:=by
 intro mg E G H d e x y Q s h1 h2 p;cases e with
 |lst ys=>
  obtain⟨a,vs,rfl,ha,r⟩:=h2;unfold Mi.inD Mi.hasD at p;dsimp only at p
  by_cases hz:d.dep=0/\Dt.depL ys=0
  ·rw[if_pos hz]at p;obtain⟨g1,g2⟩:=zWD h1 hz.1 r hz.2;refine⟨vs,.inl (SqL.of (s _ _ ha)),zM8 h1 hz.1,g1,?_⟩;rw[g2];exact PostE.val p (Ext.refl s) rfl rfl
  ·rw[if_neg hz]at p;exact p.elim
 |tup ys=>
  obtain⟨a,vs,rfl,ha,r⟩:=h2;unfold Mi.inD Mi.hasD at p;dsimp only at p
  by_cases hz:d.dep=0/\Dt.depL ys=0
  ·rw[if_pos hz]at p;obtain⟨g1,g2⟩:=zWD h1 hz.1 r hz.2;refine⟨vs,.inr (SqT.of (s _ _ ha)),zM8 h1 hz.1,g1,?_⟩;rw[g2];exact PostE.val p (Ext.refl s) rfl rfl
  ·rw[if_neg hz]at p;exact p.elim
 |str z=>
  cases(show y=.str z from h2)
  cases d with
  |str w=>
   cases(show x=.str w from h1)
   obtain⟨⟨wl⟩⟩:=w;cases wl with
   |nil=>exact qA8 p
   |cons c tl1=>
    cases tl1 with
    |nil=>
     have p':PostE mg E G H n (okR (.bl (if ng=true then !decide (c∈z.cps.toList)else decide (c∈z.cps.toList)))) Q:=p;have q:=PostE.val (v:=.bl (if ng=true then !decide (c∈z.cps.toList)else decide (c∈z.cps.toList))) p' (Ext.refl s) rfl rfl;rw[<- StrLaws.found_one z c]at q;exact q
    |cons _ _=>exact qA8 p
  |_=>exact p.elim
 |_=>exact p.elim
end
section
variable[Kc]{mg:Str->Option Value}{E:XK}{L n k l:Nat}{te ta tb:TE}{e ea eb ma:EM}{t:TA}{m:AM}
theorem zZ2{G:Hp}(z:Str):ItOk (Its z) G (Mi.signsD z):=by
 intro i G1 H1 s1 s2;have hl:(Mi.signsD z).length=z.cps.size:=by simp[Mi.signsD]
 refine⟨fun hi=>by rw[hl]at hi;exact hi,fun hi=>by rw[hl]at hi;exact hi,fun x H2 d hd hy=>?_⟩;obtain⟨rfl,c,hc,rfl⟩:=hy;refine⟨G1,Ext.refl s2,?_⟩;unfold Mi.signsD at hd;rw[qAf]at hd;have hc':z.cps.toList[i]?=some c:=by simpa using hc
 rw[hc']at hd;cases hd;rfl
theorem zEX(A:DE mg E ta ma k):DI mg E (iAny Kc.K ta) (Mi.iSq ma) false:=by
 intro G H σ ρ Q s w p;refine(zAM A).step errI s w p fun d v G1 H1 S _ fr o p1=>?_
 cases d with
 |lst ds=>
  obtain⟨a,xs,rfl,ha,r⟩:=o;exact .inl ⟨⟨xs,SqL.of (fr.ext.in' _ _ ha)⟩,p1 _ G1 H1 fr.ext (zU8 (SqL.of ha) r)⟩
 |tup ds=>
  obtain⟨a,xs,rfl,ha,r⟩:=o;exact .inr ⟨⟨xs,SqT.of (fr.ext.in' _ _ ha)⟩,p1 _ G1 H1 fr.ext (zU6 (SqT.of ha) r)⟩
 |scr ns=>
  obtain⟨a,rfl,ha⟩:=o
  rcases ha.old with ha|ha
  ·exact .inl ⟨⟨_,fr.ext.in'.seq ha⟩,p1 _ G1 H1 fr.ext (zU8 ha (zCX ns))⟩
  ·exact .inr ⟨⟨_,zK7 fr.ext.in' ha⟩,p1 _ G1 H1 fr.ext (zU6 ha (zCX ns))⟩
 |str z=>
  cases(show v=.str z from o)
  exact p1 _ G1 H1 fr.ext (zZ2 z)
 |_=>exact p1.elim
end
end L3
namespace L2
open PySem PySem.Spec PyProof.Rows
section
variable{X:Cx}{e m1:Expr}{te ts:TE}{pos p2:Pos}
end
end L2
namespace L2
open PySem
end L2
namespace L3
open PySem PySem.Spec
open L2 hiding Rep RepL
open Mi (Dt FM okR)
def sp0(K:qA1)(mg:Str->Option Value)(L:Nat)(f:FM):Sp:=fun vs H Q _=>@spM ⟨K⟩ mg L f vs H Q E0
end L3
namespace Mi
open PySem
noncomputable section
def noE{α:Type}(r:R α):R α:=match r with
 |some (.ok a)=>okR a
 |_=>none
def eCallN(f:FM)(am:AM):EM:=fun ρ=>zA4 (am ρ) fun ds=>noE (f ds)
def eMkX(c f:Str)(am:AM):EM:=fun ρ=>zA4 (am ρ) fun ds=>match ds with
 |[d]=>okR (.exc c f d)
 |_=>none
def sRaise(c f:Str)(am:AM):SM:=fun r=>zA4 (am (full r)) fun ds=>match ds with
 |[d]=>some (.error ⟨c,f,d⟩)
 |_=>none
def sRaise0(c:Str)(am:AM):SM:=fun r=>zA4 (am (full r)) fun ds=>@ite _ (ds.length<=1000) (qA3 _) (some (.error ⟨c,"",.non⟩)) none
def eAtX(hs:List Str)(f:Str)(a:EM):EM:=fun ρ=>zA4 (a ρ) fun d=>match d with
 |.exc c g x=>if c∈hs/\g=f then okR x else none
 |_=>none
def eIsX(ys ns:List Str)(a:EM):EM:=fun ρ=>zA4 (a ρ) fun d=>match d with
 |.exc c _ _=>if c∈ys then okR (.bl true)else if c∈ns then okR (.bl false)else none
 |_=>none
noncomputable def goneO(i:Nat):Out->Out
 |.nx r=>.nx (r.set i none)
 |.rt d=>.rt d
 |.bk r=>.bk (r.set i none)
 |.ct r=>.ct (r.set i none)
def sTry(vs:List Nat)(j:Option Nat)(e:EM)(hs:List Str)(i:Nat)(s:SM):SM:=fun r=>match e (frz (frzAt vs r))with
 |none=>none
 |some (.ok d)=>okR (.nx (match j with|none=>frzAt vs r|some j=>(frzAt vs r).set j (some (d,0))))
 |some (.error x)=>if x.cls∈hs then zA4 (s ((frzAt vs r).set i (some (.exc x.cls x.f x.d,0)))) fun o=>okR (goneO i o)else none
end
end Mi
namespace L3
open PySem PySem.Spec
open L2 hiding Rep RepL
open Mi (Dt Xn R okR zA4 optR zA1 zAA zAE zA8 zAD Rh Sl Ro EM TM AM FM IM SM OM Tg Out zAS zAT zAV full frz frz1 frzAt)
section
variable[Kc]{mg:Str->Option Value}{E:XK}{L n k l:Nat}{te ta tb:TE}{e ea eb ma:EM}{t:TA}{m:AM}
theorem zTB{f:FM}(A:DA mg E t m 0):DE mg E (zF3 (spM mg n f) [] E0 t) (Mi.eCallN f m) n:=by
 intro G H σ ρ Q s w p;refine A.step errE s w p fun ds vs G1 H1 S T _ fr o p1=>?_
 refine⟨G1,ds,w.tab.trans fr.ext.g,fr.ext.in',by rw[qBq];exact o.repL,?_⟩;have p2:=PostE.from p1 fr.ext;cases e:f ds with
 |none=>rw[e]at p2;exact p2
 |some r=>
  rw[e]at p2;cases r with
  |error x=>exact p2.elim
  |ok d=>exact p2
def zGZ(K:qA1)(f:Str):Sp:=fun vs H Q _=>∃e C y,vs=[.ref e,y]/\H e=some (xn e (.ref C) none)/\PySem.W.xcIn K C=true/\XSet K C f/\∀d,H d=none->d≠e->Q .non (upd (upd H d (.xd [(f,y)])) e (xn e (.ref C) (some d)))
theorem madeX{G H:Hp}{a e C:Addr}{f:Str}{y:V}{d:Dt}{o:HO}(s:Same G H)(ha:H a=none)(he:H e=none)(hne:a≠e)(r:Rep G d y) :
  Ext G H (upd (upd G a (.xd [(f,y)])) e o) (upd (upd H a (.xd [(f,y)])) e o)/\Rep (upd (upd G a (.xd [(f,y)])) e o) d y:=by
 have sg:Same G (upd (upd G a (.xd [(f,y)])) e o):=fun b u hb=>by
  have h1:b≠e:=fun z=>by rw[z]at hb;rw[s _ _ hb]at he;cases he
  have h2:b≠a:=fun z=>by rw[z]at hb;rw[s _ _ hb]at ha;cases ha
  rw[zAJ h1,zAJ h2];exact hb
 have sh:Same H (upd (upd H a (.xd [(f,y)])) e o):=fun b u hb=>by
  have h1:b≠e:=fun z=>by rw[z,he]at hb;cases hb
  have h2:b≠a:=fun z=>by rw[z,ha]at hb;cases hb
  rw[zAJ h1,zAJ h2];exact hb
 refine⟨⟨sg,sh,fun b u hb=>?_,fun b hb=>?_⟩,Rep.mono sg r⟩
 ·by_cases h1:b=e
  ·rw[h1,zAF]at hb;rw[h1,zAF];exact hb
  ·rw[zAJ h1]at hb;rw[zAJ h1]
   by_cases h2:b=a
   ·rw[h2,zAF]at hb;rw[h2,zAF];exact hb
   ·rw[zAJ h2]at hb;rw[zAJ h2];exact s _ _ hb
 ·have h1:b≠e:=fun z=>hb (by rw[z];exact he)
  have h2:b≠a:=fun z=>hb (by rw[z];exact ha)
  rw[zAJ h1,zAJ h2]
theorem zXV{G:Hp}{ds:List Dt}{vs:List V}(r:RepL G ds vs){d:Dt}(h:ds=[d]):∃y,vs=[y]/\Rep G d y:=by
 subst h;obtain⟨x,q,rfl,a,b⟩:=r
 cases(show q=[] from b)
 exact⟨x,rfl,a⟩
theorem zT6{c f:Str}{C:Addr}{E':XK}(hC:clK Kc.K c=some C)(hx:PySem.W.xcIn Kc.K C=true)(hs:XSet Kc.K C f)(A:DA mg E t m 0):DS mg E L (zMQ Kc.K E (zMR C (zGZ Kc.K f) E' t)) (Mi.sRaise c f m):=by
 intro G0 H0 S0 σ ρ G H As D a p;obtain⟨J,x,s,w⟩:=a.full;refine A.step (errS.from x) x.in' w p fun ds vs G1 H1 S T _ fr o p1=>?_
 cases ds with
 |nil=>exact qA8 p1
 |cons d tl1=>
  cases tl1 with
  |nil=>
   obtain⟨y,rfl,r⟩:=zXV o.repL rfl;refine⟨by show 1<=sizeLine;decide,fun e he=>⟨e,C,y,rfl,zAF,hx,hs,fun b hb hne=>⟨rfl,e,C,some b,rfl,zAF,hx,?_⟩⟩⟩;have hb':H1 b=none:=by rw[zAJ hne]at hb;exact hb
   have hu:upd (upd (upd (upd H1 e (xn e (.ref C) none)) b (.xd [(f,y)])) e (xn e (.ref C) (some b))) e (xo e (.ref C) (some b))=upd (upd H1 b (.xd [(f,y)])) e (xo e (.ref C) (some b)):=by
    funext z
    by_cases h1:z=e
    ·rw[h1,zAF,zAF]
    ·rw[zAJ h1,zAJ h1,zAJ h1]
     by_cases h2:z=b
     ·rw[h2,zAF,zAF]
     ·rw[zAJ h2,zAJ h2,zAJ h1]
   rw[hu];obtain⟨x2,r'⟩:=madeX (C:=C) (f:=f) (o:=xo e (.ref C) (some b)) fr.ext.in' hb' he hne r;exact p1 (.ref e) (some b) _ _ ((x.trans fr.ext).trans x2) ⟨e,C,rfl,zAF,hC,.inr ⟨b,_,y,rfl,by rw[zAJ hne,zAF],by simp[qDc],r'⟩⟩
  |cons _ _=>exact qA8 p1
theorem Sat.del{G0 H0 S0:Hp}{σ:St}{ρ:Ro}{G H:Hp}{As:Nat->Addr->Prop}(a:Sat G0 H0 S0 σ ρ G H As)(i:Nat):Sat G0 H0 S0 (σ.set i none) (ρ.set i none) G H As:=by
 refine⟨a.ext,a.stb,a.tab,by simp[a.len],fun j d n e=>?_,a.dis,a.new⟩
 by_cases z:i=j
 ·subst z;have hj:i<ρ.length:=by
   have:=(qA2.mp e).1
   simpa using this
  rw[qA9 hj]at e;cases e
 ·rw[qAa z]at e;rw[qAa z];exact a.at j d n e
theorem zQP{G0 H0 S0:Hp}{i:Nat}{r:R Out}{D:Ends}(p:zDY mg E G0 H0 S0 L (zA4 r fun o=>okR (Mi.goneO i o)) D):zDY mg E G0 H0 S0 L r (zSX i D):=by
 cases r with
 |none=>exact p
 |some r=>
  cases r with
  |error x=>exact p
  |ok o=>
   cases o with
   |nx ρ=>exact fun σ G H As a=>p _ G H As (a.del i)
   |rt d=>exact p
   |bk ρ=>exact fun σ G H As a=>p _ G H As (a.del i)
   |ct ρ=>exact fun σ G H As a=>p _ G H As (a.del i)
theorem zZC{te:XK->TE}{hs:List Str}{c:Value}{i:Nat}{ts:TS}{sm:SM}(j:Option Nat)(vs:List Nat)(hh:∀c'∈hs,∃C,clK Kc.K c'=some C/\qCl Kc.K (.ref C) c=some true)(A:∀E',DE mg E' (te E') e 0)(B:DS mg E L ts sm) :
  DS mg E L (zTO Kc.K c i (fun D E' σ H=>te (E' σ) σ H (fun v H1=>match j with|none=>D.nx σ H1|some j=>D.nx (σ.set j (some v)) H1)) ts) (Mi.sTry vs j e hs i sm):=by
 intro G0 H0 S0 σ ρ G H As D a p;obtain⟨G1,As1,a1⟩:=Sat.frzAt vs a;unfold Mi.sTry at p;refine(A _) G1 H σ (frz (frzAt vs ρ)) _ a1.ext.in' a1.frz ?_;cases ee:e (frz (frzAt vs ρ))with
 |none=>rw[ee]at p;exact p
 |some r=>
  rw[ee]at p;cases r with
  |ok d=>
   intro v G2 H2 S fr o;cases j with
   |none=>exact p σ G1 H2 As1 (a1.grow fr.ext.h)
   |some j=>exact p _ G2 H2 _ ((a1.wider fr.ext).put (i:=j) (S:=fun _=>False) (n:=0) (d:=d) (v:=v) o (fun _ z=>z.elim) (fun _ _ _ _ z=>z.elim))
  |error x=>
   by_cases hm:x.cls∈hs
   ·have p':zDY mg E G0 H0 S0 L (zA4 (sm ((frzAt vs ρ).set i (some (.exc x.cls x.f x.d,0)))) fun o=>okR (Mi.goneO i o)) D:=by
     have p2:zDY mg E G0 H0 S0 L (if x.cls∈hs then zA4 (sm ((frzAt vs ρ).set i (some (.exc x.cls x.f x.d,0)))) fun o=>okR (Mi.goneO i o)else none) D:=p;rw[if_pos hm]at p2;exact p2
    intro c' da G2 H2 x2 hX;obtain⟨e',C,rfl,h1,h2,h3⟩:=hX;obtain⟨C',hc1,hc2⟩:=hh _ hm;rw[h2]at hc1;cases hc1;refine⟨e',.ref C,rfl,x2.in' _ _ h1,hc2,?_⟩;exact B G0 H0 S0 _ _ G2 H2 _ (zSX i D) ((a1.wider x2).put (i:=i) (S:=fun _=>False) (n:=0) (d:=.exc x.cls x.f x.d) (v:=.ref e') ⟨e',C,da,rfl,.inr h1,h2,h3⟩ (fun _ z=>z.elim) (fun _ _ _ _ z=>z.elim)) (zQP p')
   ·have p2:zDY mg E G0 H0 S0 L (if x.cls∈hs then zA4 (sm ((frzAt vs ρ).set i (some (.exc x.cls x.f x.d,0)))) fun o=>okR (Mi.goneO i o)else none) D:=p;rw[if_neg hm]at p2;exact p2.elim
theorem zIC{f:Str}{hs:List Str}(hf:∀c∈hs,∃C,clK Kc.K c=some C/\Xc.XIs Kc.K C/\qAi Kc.K (.ref C) f=some none)(A:DE mg E ta ma k)(hne:f≠"":=by decide):DE mg E (zTU Kc.K ta f) (Mi.eAtX hs f ma) 0:=by
 intro G H σ ρ Q s w p;refine(zAM A).step errE s w p fun d v G1 H1 S _ fr o p1=>?_
 cases d with
 |exc c g x=>
  obtain⟨e,C,da,rfl,hx,hc,r⟩:=o;dsimp only at p1
  split at p1
  ·rename_i hg
   obtain⟨hm,rfl⟩:=hg;obtain⟨C',hc',c1,c2⟩:=hf c hm;rw[hc]at hc';cases hc'
   rcases r with⟨_,z⟩|⟨a,gs,y,rfl,h1,h2,h3⟩
   ·exact absurd z hne
   ·exact⟨e,C,a,gs,y,rfl,hx.imp (fun z=>fr.ext.in' _ _ z) fun z=>fr.ext.in' _ _ z,fr.ext.in' _ _ h1,c1,c2,h2,PostE.kept p1 fr.ext h3⟩
  ·exact p1.elim
 |_=>exact p1.elim
noncomputable def kitV(K:qA1)(C:Addr):V->Option Bool
 |.ref c=>qBb K (.ref C) (.ref c)
 |.ty n=>qBb K (.ref C) (.type n)
 |_=>none
theorem zZ4{ys ns:List Str}{ρ:Rh}{P:V->Hp->(V->Hp->Prop)->Prop}{b0:Addr->Bool->Prop}{G H:Hp}{σ:St}{Q:VK}(hy:∀c∈ys,∃C,clK Kc.K c=some C/\Xc.XIs Kc.K C/\b0 C true)(hn:∀c∈ns,∃C,clK Kc.K c=some C/\Xc.XIs Kc.K C/\b0 C false)(A:DE mg E ta ma k)(s:Same G H)(w:View G σ ρ)
  (p:PostE mg E G H 0 (Mi.eIsX ys ns ma ρ) Q) (h:∀e C d G1 H1 b,Ext G H G1 H1->isX H1 e C d->(∀a,d=some a->∃fs,H1 a=some (.xd fs))->Xc.XIs Kc.K C->b0 C b->(∀G2 H2,Ext G1 H1 G2 H2->Q (.bl b) H2)->P (.ref e) H1 Q):ta σ H fun x H1=>P x H1 Q:=by
 refine(zAM A).step errE s w p fun d v G1 H1 S _ fr o p1=>?_
 cases d with
 |exc c g x=>
  obtain⟨e,C,da,rfl,hx,hc,r⟩:=o;have hx':isX H1 e C da:=hx.imp (fun z=>fr.ext.in' _ _ z) fun z=>fr.ext.in' _ _ z
  have hd:∀a,da=some a->∃fs,H1 a=some (.xd fs):=fun a ea=>by
   rcases r with⟨z,_⟩|⟨a',gs,y,z,h1,_⟩
   ·rw[z]at ea;cases ea
   ·rw[z]at ea;cases ea;exact⟨gs,fr.ext.in' _ _ h1⟩
  dsimp only at p1
  split at p1
  ·rename_i hm
   obtain⟨C',hc',c1,c2⟩:=hy c hm;rw[hc]at hc';cases hc';exact h e C da G1 H1 true fr.ext hx' hd c1 c2 fun G2 H2 x2=>PostE.val p1 (fr.ext.trans x2) rfl rfl
  ·split at p1
   ·rename_i hm
    obtain⟨C',hc',c1,c2⟩:=hn c hm;rw[hc]at hc';cases hc';exact h e C da G1 H1 false fr.ext hx' hd c1 c2 fun G2 H2 x2=>PostE.val p1 (fr.ext.trans x2) rfl rfl
   ·exact p1.elim
 |_=>exact p1.elim
theorem zEY{ys ns:List Str}{y:V}(hy:∀c∈ys,∃C,clK Kc.K c=some C/\Xc.XIs Kc.K C/\kitV Kc.K C y=some true)(hn:∀c∈ns,∃C,clK Kc.K c=some C/\Xc.XIs Kc.K C/\kitV Kc.K C y=some false)(A:DE mg E ta ma k) :
  DE mg E (tCB (zVF Kc.K) (zCV ta (zCV (tC y) tNil))) (Mi.eIsX ys ns ma) 0:=by
 intro G H σ ρ Q s w p;refine zZ4 (P:=fun x H1 Q=>zVF Kc.K [x,y] H1 Q) (b0:=fun C b=>kitV Kc.K C y=some b) hy hn A s w p fun e C d G1 H1 b x1 hx hd c1 c2 q=>?_
 refine⟨e,C,d,y,b,rfl,hx,hd,c1,q G1 H1 (Ext.refl x1.in'),?_⟩;cases y with
 |ref c=>exact .inl ⟨c,rfl,c2⟩
 |ty n=>exact .inr (.inl ⟨n,rfl,c2⟩)
 |_=>cases c2
end
section
variable{K:qA1}{C D:Addr}{dd:Option Addr}{cd:ClassData}{sl:Array (Option Value)}{b:Bool}
def xcD(C:Addr)(cd:ClassData)(sl:Array (Option Value)):Bool:=match cd.mro,sl.toList with
 |.ref C'::bm,[_,_,_,_,some (.builtin n),_]=>C'==C && !cd.hasDel&&PySem.W.excTail bm&&n == "ValueError.__new__" && cd.hasDict
 |_,_=>false
theorem zLP(h:K.lookup C=some ⟨.type "type",dd,.cls cd,sl⟩)(h':xcD C cd sl=true):PySem.W.xcIn K C=true:=by
 unfold PySem.W.xcIn;rw[h];exact h'
theorem zVR(h:qBn K C=some cd)(h':PySem.W.excTail cd.mro=true):PySem.W.excOver K C=true:=by
 unfold PySem.W.excOver;rw[h];exact h'
theorem zHF(h1:qBn K D=some cd)(h2:qBz K (.ref D)=some (.type "type"))(h3:qAt K (.ref C) (.ref D)=some b):PySem.W.kitCls K (.ref C) (.ref D)=some b:=by
 show(if((qBn K D).isSome&&qBz K (.ref D)==some (.type "type"))=true then qAt K (.ref C) (.ref D)else none)=some b
 rw[h1,h2,if_pos (by rw[qDi,Bool.true_and];exact beq_self_eq_true _)];exact h3
theorem zND(h1:qBn K D=some cd)(h2:qBz K (.ref D)=some (.type "type"))(h3:qAt K (.ref C) (.ref D)=some true):qBb K (.ref C) (.ref D)=some true:=by
 unfold qBb
 split
 ·rfl
 ·exact zHF h1 h2 h3
theorem zGR(h1:qBn K D=some cd)(h2:qBz K (.ref D)=some (.type "type"))(h3:qAt K (.ref C) (.ref D)=some false)(ne:(C==D)=false):qBb K (.ref C) (.ref D)=some false:=by
 unfold qBb
 split
 ·rename_i z
  have:C=D:=qL3 (beq_iff_eq.mp z)
  rw[this,beq_self_eq_true]at ne;cases ne
 ·exact zHF h1 h2 h3
theorem zHE(h3:qAt K (.ref C) (.type "ValueError")=some true):qBb K (.ref C) (.type "ValueError")=some true:=by
 unfold qBb
 split
 ·rfl
 ·show(if PySem.W.kitMeta "ValueError" = true then qAt K (.ref C) (.type "ValueError")else none)=some true
  rw[if_pos (by decide +kernel)];exact h3
theorem zHL(h0:qAt K (.ref D) (.type "BaseException")=some true)(h1:qBn K D=some cd)(h2:qBz K (.ref D)=some (.type "type"))(h3:qAt K (.ref C) (.ref D)=some true):qCl K (.ref C) (.ref D)=some true:=by
 unfold qCl;rw[h0,if_pos (beq_self_eq_true _)];exact zHF h1 h2 h3
end
structure XCls(K:qA1)(mg:Str->Option Value)(c:Str)(C:Addr):Prop where
 cl:clK K c=some C
 gm:mg c=some (.ref C)
 is:Xc.XIs K C
structure XIni(P:qH9)(w:World)(K:qA1)(mg:Str->Option Value)(base:Heap)(c f:Str)(C:Addr):Prop extends XCls K mg c C where
 kp:qAv K (.ref C)=true
 st:XSet K C f
 fa:qAi K (.ref C) f=some none
 ini:∃fI fd ps,qAi K (.ref C) "__init__" = some (some (.ref fI))/\qEf K (.ref fI)=true/\FnOk P w K mg base (CXe P w) 1 fI fd ps (zGZ K f)/\Binds K fd ps []
theorem zYD{X:Cx}{c f:Str}{C:Addr}{k:Nat}{E:XK}{e:Expr}{es:List Expr}{t:TA}{p pos:Pos}(h:XIni X.prog X.w X.K X.mg X.base c f C)(hr:Room k X.A)(hk:2<=k)(hf:Flies X E)(hg:Gl X c)(ha:PA X (e::es) t)(hdb:(c==("__debug__":Str))=false:=by decide)
  (he:starEach (e::es) X.env=(false,eval e X.env)::starEach es X.env:=by rfl) (hpl:(backTo pos (starEach es X.env)).any (·.1)=false:=by rfl):PE X (.Call (.Name c p) (e::es) [] pos) (zMR C (zGZ X.K f) E t):=by
 obtain⟨fI,fd,ps,h1,h2,F,hb⟩:=h.ini;exact zSE h.is.xc h1 h2 F (hr.mono hk) hb hf.passes hg h.gm h.kp ha hdb he hpl
theorem zSU{K:qA1}{f a0 a1:Str}{vs:List V}{H:Hp}{Q:VK}{E:XK}(h:zGZ K f vs H Q E) :
  tSeq (zG6 (zTT K (zCV (tVar 0) (zCV (tVar 1) tNil)))) (zTV K (tVar 0) (tVar 1) f) { nx:=fun _ H'=>Q .non H',rt:=Q } (start [a0,a1] vs) H:=by
 obtain⟨e,C,y,rfl,he,hx,hs,q⟩:=h;exact⟨.ref e,rfl,y,rfl,e,C,none,[y],rfl,he,hx,(by show 1<=sizeLine;decide),y,rfl,.ref e,rfl,e,C,rfl,he,hs,q⟩
theorem zSV{K:qA1}{f:Str}{ps:List Str}(hp:ps.length=2):∀vs H Q E,zGZ K f vs H Q E->vs.length=ps.length:=by
 rintro vs H Q E ⟨e,C,y,rfl,_⟩
 rw[hp];rfl
theorem zES{K:qA1}{c:Str}{C:Addr}(h:qBe K qHc c=some (some (.ref C))):clK K c=some C:=by unfold clK;rw[h]
theorem zEC:qHy "ValueError" = some (.type "ValueError"):=by decide +kernel
theorem zaS:qE0 (.builtin "ValueError.__init__")=true:=by decide +kernel
noncomputable def zaR:Stmt->Stmt
 |.ClassDef _ _ _ body _ _ _ _ _ _ _=>body.getD 0 (.Pass ⟨0,0,0,0⟩)
 |s=>s
theorem zPW{P:qH9}{w:World}{K:qA1}{mg:Str->Option Value}{base:Heap}{N:List Str}{qual:Str}{scope:Scope}{f:Addr}{cd:Value}{A:qHb}{outer:List Env}{s:qH6}{H:Hp}{E:XK} :
  qKr (model P w) (A.deeper (qEx qual scope s.heap.objs.size f cd)) (qEx qual scope s.heap.objs.size f cd) (cxOf (CXe P w) P w K mg base N qual scope f cd A outer s H E).xe:=PassesOwn.leaving
def spE(K:qA1)(mg:Str->Option Value)(L:Nat)(f:Mi.FM):Sp:=fun vs H Q E=>@spM ⟨K⟩ mg L f vs H Q E
section
variable[Kc]{mg:Str->Option Value}{E:XK}{L n k l:Nat}{te ta tb:TE}{e ea eb ma:EM}{t:TA}{m:AM}
theorem zGU{f:FM}{E':XK}(A:DA mg E t m 0):DE mg E (zF3 (sp0 Kc.K mg n f) [] E' t) (Mi.eCallN f m) n:=zTB A
theorem zDR{f:FM}(A:DA mg E t m 0):DE mg E (zF3 (spE Kc.K mg n f) [] E t) (Mi.eCall f m) n:=zAQ A
theorem zR2{P:qH9}{w:World}{base:Heap}{c f:Str}{C:Addr}{E':XK}(h:XIni P w Kc.K mg base c f C)(A:DA mg E t m 0):DS mg E L (zMQ Kc.K E (zMR C (zGZ Kc.K f) E' t)) (Mi.sRaise c f m):=zT6 h.cl h.is.xc h.st A
end
def zI0(K:qA1):Sp:=fun vs H Q _=>∃(a:Addr)(ns:List Int),vs=[.ref a]/\Same (tabK K) H/\SqL K H a (ns.map V.int)/\ns.length<=63/\(∀i∈ns,i.natAbs.log2<2 ^ 20)/\∀H',Same (tabK K) H'->Q (.bl true) H'
theorem zSP{K:qA1}{mg:Str->Option Value}{L:Nat}{f:FM}(hf:∀ns:List Int,ns.length<=63->(∀i∈ns,i.natAbs.log2<2 ^ 20)->f [.scr ns]=okR (.bl true)):∀vs H Q E,zI0 K vs H Q E->sp0 K mg L f vs H Q E:=by
 letI:Kc:=⟨K⟩
 rintro vs H Q E ⟨a,ns,rfl,tb,hS,hl,hw,q⟩
 refine⟨H,[.scr ns],tb,Same.refl _,⟨_,_,rfl,⟨a,rfl,.inl hS⟩,rfl⟩,?_⟩;rw[hf ns hl hw];intro v G' H' S fr o
 cases(show v=.bl true by cases L<;>exact o)
 exact q H' (tb.trans fr.ext.h)
end L3
namespace L2
open PySem PySem.Spec PyProof.Rows
section
variable{X:Cx}{pins:List (Addr×Obj)}{σ:List (Option V)}{H:Hp}{s:qH6}
end
end L2
namespace Mi
open PySem
section
variable(ρ:Rh)(r:Ro)(a b c:EM)(s t:SM)(q q':TM)(am:AM)
@[simp] theorem x_eC(d:Dt):eC d ρ=okR d:=rfl
@[simp] theorem x_eV(i:Nat):eV i ρ=match ρ[i]? with|some (some d)=>okR d|_=>none:=rfl
@[simp] theorem x_eB(f:Dt->Dt->Option Dt):eB f a b ρ=zA4 (a ρ) fun x=>zA4 (b ρ) fun y=>optR (f x y):=rfl
@[simp] theorem x_eU(f:Dt->Option Dt):eU f a ρ=zA4 (a ρ) fun x=>optR (f x):=rfl
@[simp] theorem zC8:aNil ρ=okR []:=rfl
@[simp] theorem zB8:aCons a am ρ=zA4 (a ρ) fun x=>zA4 (am ρ) fun xs=>okR (x::xs):=rfl
@[simp] theorem zG4(f:FM):eCall f am ρ=zA4 (am ρ) f:=rfl
@[simp] theorem zJX(f:List Dt->Option Dt):eBi f am ρ=zA4 (am ρ) fun xs=>optR (f xs):=rfl
@[simp] theorem zTM:eLst am ρ=zA4 (am ρ) fun xs=>@ite _ (xs.length<=100000) (qA3 _) (okR (.lst xs)) none:=rfl
@[simp] theorem zX5:eTup am ρ=zA4 (am ρ) fun xs=>@ite _ (xs.length<=100000) (qA3 _) (okR (.tup xs)) none:=rfl
@[simp] theorem x_eIsi(n:String):eIsi n a ρ=zA4 (a ρ) fun x=>optR (isiD n x):=rfl
@[simp] theorem x_eAnd:eAnd a b ρ=zA4 (a ρ) fun x=>match x with | .bl k=>if k=true then b ρ else okR (.bl false)|_=>none:=rfl
@[simp] theorem x_eOr:eOr a b ρ=zA4 (a ρ) fun x=>match x with | .bl k=>if k=true then okR (.bl true)else b ρ|_=>none:=rfl
@[simp] theorem x_eNot:eNot a ρ=zA4 (a ρ) fun x=>match x with | .bl k=>okR (.bl (!k))|_=>none:=rfl
@[simp] theorem x_eChain(f g:Dt->Dt->Option Dt):zZA f g a b c ρ=zA4 (a ρ) fun x=>zA4 (b ρ) fun y=>zA4 (optR (f x y)) fun z=>match z with | .bl k=>if k=true then zA4 (c ρ) fun w=>optR (g y w)else okR (.bl false)|_=>none:=rfl
@[simp] theorem x_eIf:eIf q a b ρ=zA4 (q ρ) fun k=>if k=true then a ρ else b ρ:=rfl
@[simp] theorem x_tB:tB a ρ=zA4 (a ρ) fun x=>match x with | .bl k=>okR k|_=>none:=rfl
@[simp] theorem x_tM:tM a ρ=zA4 (a ρ) fun x=>match x with | .bl k=>okR k | .int i=>okR (i != 0) | .non=>okR false|_=>none:=rfl
@[simp] theorem zX4:tAn q q' ρ=zA4 (q ρ) fun k=>if k=true then q' ρ else okR false:=rfl
@[simp] theorem zX3:tOr q q' ρ=zA4 (q ρ) fun k=>if k=true then okR true else q' ρ:=rfl
@[simp] theorem zZU:tNo q ρ=zA4 (q ρ) fun k=>okR (!k):=rfl
@[simp] theorem zX2:tYes ρ=okR true:=rfl
@[simp] theorem zTL:sNil r=okR (.nx r):=rfl
@[simp] theorem zFF:sSeq s t r=zA4 (s r) fun o=>match o with | .nx ρ'=>t ρ'|o=>okR o:=rfl
@[simp] theorem zJW:sIf q s t r=zA4 (q (full r)) fun k=>if k=true then s r else t r:=rfl
@[simp] theorem zUR:sDrop a r=zA4 (a (full r)) fun _=>okR (.nx r):=rfl
@[simp] theorem x_sBreak:zXR r=okR (.bk r):=rfl
@[simp] theorem x_sCont:zaA r=okR (.ct r):=rfl
@[simp] theorem x_sNever:zXP r=none:=rfl
@[simp] theorem x_sRetN:za9 r=okR (.rt .non):=rfl
@[simp] theorem zFE(i n:Nat)(vs:List Nat):sSet i n vs a r=zA4 (a (full r)) fun d=>if d.dep<=n then okR (.nx (r.set i (some (d,n))))else zA4 (a (frz (frzAt vs r))) fun d'=>okR (.nx ((frzAt vs r).set i (some (d',n)))):=rfl
@[simp] theorem zOU(L n:Nat)(vs:List Nat):sRet L n vs a r=zA4 (a (full r)) fun d=>if d.dep<=n/\d.dep<=L then okR (.rt d)else if n=L then zA4 (a (frz (frzAt vs r))) fun d'=>okR (.rt d')else none:=rfl
@[simp] theorem x_sRetV(L i:Nat):sRetV L i r=match r[i]? with|some (some (d,k))=>if k=L\/L=0\/(d.dep<=k/\d.dep<=L/\k<1000)then okR (.rt d)else none|_=>none:=rfl
@[simp] theorem zBF:full []=[]:=rfl
@[simp] theorem zB3(o:Option Sl)(r:Ro):full (o::r)=o.map Prod.fst::full r:=rfl
@[simp] theorem x_frz_nil:frz []=[]:=rfl
@[simp] theorem x_frz_none(r:Ro):frz (none::r)=none::frz r:=rfl
@[simp] theorem x_frz_some(d:Dt)(n:Nat)(r:Ro):frz (some (d,n)::r)=(if n=0\/d.dep=0 then some d else none)::frz r:=rfl
@[simp] theorem x_frzAt_nil(r:Ro):frzAt [] r=r:=rfl
@[simp] theorem x_frzAt_cons(i:Nat)(v:List Nat)(r:Ro):frzAt (i::v) r=frzAt v (frz1 i r):=rfl
@[simp] theorem x_frz1(i:Nat)(r:Ro):frz1 i r=match r[i]? with|some (some (d,_))=>r.set i (some (d,0))|_=>r:=rfl
@[simp] theorem x_startO(n:Nat)(ds:List Dt):startO n ds=ds.map (fun d=>some (d,0))++qA5 (n-ds.length) none:=rfl
@[simp] theorem x_runF(P n:Nat)(ds:List Dt):runF P n s ds=if ds.length=P then zA4 (s (startO n ds)) endF else none:=rfl
@[simp] theorem x_end1(r:Ro):endF (.nx r)=okR .non:=rfl
@[simp] theorem x_end2(d:Dt):endF (.rt d)=okR d:=rfl
end
@[simp] theorem zXA(i j:Int):addD (.int i) (.int j)=some (.int (i+j)):=rfl
@[simp] theorem zX9(i j:Str):addD (.str i) (.str j)=@ite _ (i.length+j.length<=100000) (qA3 _) (some (.str (i++j))) none:=rfl
@[simp] theorem v_addL(i j:List Dt):addD (.lst i) (.lst j)=@ite _ (i.length+j.length<=100000) (qA3 _) (some (.lst (i++j))) none:=rfl
@[simp] theorem zZY(i j:Int):subD (.int i) (.int j)=some (.int (i-j)):=rfl
@[simp] theorem zGN(i j:Int):mulD (.int i) (.int j)=@ite _ (((-18446744073709551616<i/\i<18446744073709551616)\/(-18446744073709551616<j/\j<18446744073709551616))\/i.natAbs.log2+j.natAbs.log2<=67108864) (qA3 _) (some (.int (i*j))) none:=rfl
@[simp] theorem v_div(i j:Int):divD (.int i) (.int j)=@ite _ (0<j/\j<1000000000000000000000000) (qA3 _) (some (.int (i/j))) none:=rfl
@[simp] theorem zUZ(i j:Int):modD (.int i) (.int j)=if 0<j then some (.int (i%j))else none:=rfl
@[simp] theorem v_pow(i j:Int):powD (.int i) (.int j)=@ite _ (0<=j/\j<=1000000/\i.natAbs<18446744073709551616) (qA3 _) (some (.int (i ^ j.toNat))) none:=rfl
@[simp] theorem v_neg(i:Int):negD (.int i)=some (.int (-i)):=rfl
@[simp] theorem v_cmp(p:Int->Int->Bool)(i j:Int):cmpD p (.int i) (.int j)=some (.bl (p i j)):=rfl
@[simp] theorem v_eq(x y:Dt):eqD x y=if x.dep<=40/\y.dep<=40 then some (.bl (Dt.eq x y))else none:=rfl
@[simp] theorem v_ne(x y:Dt):neD x y=if x.dep<=40/\y.dep<=40 then some (.bl (!Dt.eq x y))else none:=rfl
@[simp] theorem v_is(x:Dt):isD x .non=some (.bl (isNonD x)):=rfl
@[simp] theorem v_isnt(x:Dt):isntD x .non=some (.bl (!isNonD x)):=rfl
@[simp] theorem v_isN1:isNonD .non=true:=rfl
@[simp] theorem v_isN2(i:Int):isNonD (.int i)=false:=rfl
@[simp] theorem v_isN3(i:List Dt):isNonD (.lst i)=false:=rfl
@[simp] theorem v_isN4(i:List Dt):isNonD (.tup i)=false:=rfl
@[simp] theorem v_isN5(i:Str):isNonD (.str i)=false:=rfl
@[simp] theorem v_isN6(i:Bool):isNonD (.bl i)=false:=rfl
@[simp] theorem za0(xs:List Dt)(i:Int):ixD (.lst xs) (.int i)=itA xs i:=rfl
@[simp] theorem v_ixT(xs:List Dt)(i:Int):ixD (.tup xs) (.int i)=itA xs i:=rfl
@[simp] theorem v_ixS(ns:List Int)(i:Int):ixD (.scr ns) (.int i)=(itA ns i).map .int:=rfl
@[simp] theorem v_lenL(xs:List Dt):lenD [.lst xs]=some (.int xs.length):=rfl
@[simp] theorem v_lenT(xs:List Dt):lenD [.tup xs]=some (.int xs.length):=rfl
@[simp] theorem v_lenS(ns:List Int):lenD [.scr ns]=some (.int ns.length):=rfl
@[simp] theorem v_listL(xs:List Dt):listD [.lst xs]=some (.lst xs):=rfl
@[simp] theorem v_listT(xs:List Dt):listD [.tup xs]=some (.lst xs):=rfl
@[simp] theorem v_listS(ns:List Int):listD [.scr ns]=some (.lst (ns.map .int)):=rfl
theorem zUY{j:Int}(h0:0<=j)(h1:j<=100000):rangeD [.int j]=some (.lst (nums 0 j.toNat)):=by
 show(@ite _ ((-4611686018427387904<=j/\j<4611686018427387904)/\j<=100000) (qA3 _) (some (Dt.lst (nums 0 j.toNat))) none)=_
 rw[if_pos ⟨⟨by lia,by lia⟩,h1⟩]
@[simp] theorem v_dn:Dt.non.dep=0:=rfl
@[simp] theorem v_db(b:Bool):(Dt.bl b).dep=0:=rfl
@[simp] theorem v_di(b:Int):(Dt.int b).dep=0:=rfl
@[simp] theorem v_ds(b:Str):(Dt.str b).dep=0:=rfl
@[simp] theorem v_dS(b:List Int):(Dt.scr b).dep=1000:=by rw[Dt.dep]
@[simp] theorem v_dl(xs:List Dt):(Dt.lst xs).dep=Dt.depL xs+1:=by rw[Dt.dep]
@[simp] theorem v_dt(xs:List Dt):(Dt.tup xs).dep=Dt.depL xs+1:=by rw[Dt.dep]
@[simp] theorem v_dnil:Dt.depL []=0:=by rw[Dt.depL]
@[simp] theorem zIM(x:Dt)(r:List Dt):Dt.depL (x::r)=max x.dep (Dt.depL r):=by rw[Dt.depL]
@[simp] theorem v_e1(i j:Int):Dt.eq (.int i) (.int j)=decide (i=j):=by rw[Dt.eq];by_cases h:i=j<;>simp[h]
@[simp] theorem v_e2(i j:Str):Dt.eq (.str i) (.str j)=decide (i=j):=by rw[Dt.eq];by_cases h:i=j<;>simp[h]
@[simp] theorem v_e3(i j:Bool):Dt.eq (.bl i) (.bl j)=decide (i=j):=by rw[Dt.eq];by_cases h:i=j<;>simp[h]
@[simp] theorem v_e4(i j:List Dt):Dt.eq (.lst i) (.lst j)=Dt.eqL i j:=by rw[Dt.eq]
@[simp] theorem v_e5(i j:List Dt):Dt.eq (.tup i) (.tup j)=Dt.eqL i j:=by rw[Dt.eq]
@[simp] theorem v_e6:Dt.eq .non .non=true:=by rw[Dt.eq]
@[simp] theorem zHN:∀(ns:List Int),Dt.depL (ns.map Dt.int)=0
 |[]=>by simp
 |n::r=>by rw[qAn,zIM,zHN r];rfl
@[simp] theorem zT9:∀(xs ys:List Dt),Dt.depL (xs++ys)=max (Dt.depL xs) (Dt.depL ys)
 |[],ys=>by simp
 |x::r,ys=>by rw[qE3,zIM,zIM,zT9 r ys];exact(Nat.max_assoc _ _ _).symm
@[simp] theorem zGT:∀(ns ms:List Int),Dt.eqL (ns.map Dt.int) (ms.map Dt.int)=decide (ns=ms)
 |[],[]=>by simp[Dt.eqL]
 |[],_::_=>by simp[Dt.eqL]
 |_::_,[]=>by simp[Dt.eqL]
 |n::r,m::q=>by rw[qAn,qAn,Dt.eqL,zGT r q,v_e1];simp
theorem zL1{α:Type}{xs:List α}{i:Int}{j:Nat}{v:α}(e:i=(j:Int))(h:xs[j]?=some v):itA xs i=some v:=by
 have hj:j<xs.length:=(qA2.mp h).1;subst e;unfold itA ixA;rw[if_pos (by lia),if_pos (by lia)]
 simpa using h
theorem zNG{n:Nat}{i:Int}(h0:0<=i)(h1:i<n):ixA n i=some i.toNat:=by
 unfold ixA;rw[if_pos h0,if_pos h1]
theorem zSR{ns:List Int}{i:Int}(h0:0<=i)(h1:i<ns.length):itA (ns.map Dt.int) i=some (.int (ns.getD i.toNat 0)):=by
 refine zL1 (j:=i.toNat) (by lia) ?_;rw[qAf,qA0,qA4 (by lia)];rfl
theorem zW9{ns:List Int}{i:Int}(h0:0<=i)(h1:i<ns.length):itA ns i=some (ns.getD i.toNat 0):=by
 refine zL1 (j:=i.toNat) (by lia) ?_;rw[qA0,qA4 (by lia)];rfl
@[simp] theorem set_int(ns:List Int)(i:Nat)(x:Int):(ns.map Dt.int).set i (.int x)=(ns.set i x).map Dt.int:=by rw[qDk]
theorem zNQ{ρ:Rh}{k:Nat}{tg:Tg}{c:TM}{e:EM}(f:Dt->Dt):∀(ds acc:List Dt),(∀d∈ds,∃bs,zAS tg d=some bs/\c (zAT (ρ++qA5 k none) bs)=okR true/\e (zAT (ρ++qA5 k none) bs)=okR (f d))->compGo ρ k tg c e ds acc=okR (acc++ds.map f)
 |[],acc,_=>by simp[compGo]
 |d::ds,acc,h=>by
  obtain⟨bs,h1,h2,h3⟩:=h d (by simp);rw[compGo,h1];simp only;rw[h2,zA1,if_pos rfl,h3,zA1,zNQ f ds (acc++[f d]) fun d hd=>h d (by simp[hd])];simp
theorem zDS{ρ:Rh}{k:Nat}{tg:Tg}{c:TM}{e:EM}(p:Dt->Bool)(f:Dt->Dt):∀(ds acc:List Dt),(∀d∈ds,∃bs,zAS tg d=some bs/\c (zAT (ρ++qA5 k none) bs)=okR (p d)/\(p d=true->e (zAT (ρ++qA5 k none) bs)=okR (f d)))->compGo ρ k tg c e ds acc=okR (acc++(ds.filter p).map f)
 |[],acc,_=>by simp[compGo]
 |d::ds,acc,h=>by
  obtain⟨bs,h1,h2,h3⟩:=h d (by simp);rw[compGo,h1];simp only;rw[h2,zA1];cases hp:p d with
  |true=>
   rw[if_pos rfl,h3 hp,zA1,zDS p f ds (acc++[f d]) fun d hd=>h d (by simp[hd])];simp[hp]
  |false=>
   rw[if_neg (by decide),zDS p f ds acc fun d hd=>h d (by simp[hd])];simp[hp]
theorem zM7{tg:Tg}{b:SM}(Pv:Nat->Ro->Prop):∀(ds:List Dt)(i:Nat)(r:Ro),Pv i r->(∀(j:Nat)(d:Dt)(r:Ro),ds[j]?=some d->Pv (i+j) r->∃bs r',zAS tg d=some bs/\b (zAV r bs)=okR (.nx r')/\Pv (i+j+1) r') ->
  ∃r',forGo tg b ds r=okR (.nx r')/\Pv (i+ds.length) r'
 |[],i,r,h,_=>⟨r,by simp[forGo],by simpa using h⟩
 |d::ds,i,r,h,hs=>by
  obtain⟨bs,r1,h1,h2,h3⟩:=hs 0 d r (by simp) (by simpa using h);obtain⟨r2,h4,h5⟩:=zM7 Pv ds (i+1) r1 (by simpa using h3) fun j e r he hp=>by
   have:=hs (j+1) e r (by simpa using he) (by rw[show i+(j+1)=i+1+j by lia];exact hp)
   rw[show i+1+j+1=i+(j+1)+1 by lia];exact this
  refine⟨r2,?_,by rw[qBj,show i+(ds.length+1)=i+1+ds.length by lia];exact h5⟩;rw[forGo,h1];simp only;rw[h2,zA1];exact h4
theorem zJZ{c:TM}{b:SM}(Pv:Ro->Prop)(μ:Ro->Nat)(Rv:Ro->Prop)(hc:∀r,Pv r->(c (full r)=okR false/\Rv r)\/(c (full r)=okR true/\∃r',b r=okR (.nx r')/\Pv r'/\μ r'<μ r)) :
  ∀(m:Nat)(r:Ro),Pv r->μ r<m->∃r',whGo c b m r=okR (.nx r')/\Rv r'
 |0,r,_,h=>by lia
 |m+1,r,h,hm=>by
  rw[whGo]
  rcases hc r h with⟨h1,h2⟩|⟨h1,r1,h2,h3,h4⟩
  ·rw[h1,zA1,if_neg (by decide)];exact⟨r,rfl,h2⟩
  ·rw[h1,zA1,if_pos rfl,h2,zA1];exact zJZ Pv μ Rv hc m r1 h3 (by lia)
theorem zO0{c:TM}{b:SM}(Pv:Ro->Prop)(μ:Ro->Nat)(Rv:Ro->Prop){r:Ro}(h0:Pv r)(hm:μ r<1000000)(hc:∀r,Pv r->(c (full r)=okR false/\Rv r)\/(c (full r)=okR true/\∃r',b r=okR (.nx r')/\Pv r'/\μ r'<μ r)):∃r',sWhile c b r=okR (.nx r')/\Rv r':=
 zJZ Pv μ Rv hc WN r h0 (by rw[zZO];exact hm)
section
variable(ρ:Rh)(r:Ro)(a:EM)(am:AM)(s:SM)
@[simp] theorem x_noE_ok{α:Type}(x:α):noE (okR x)=okR x:=rfl
@[simp] theorem x_noE_none{α:Type}:noE (none:R α)=none:=rfl
@[simp] theorem x_noE_err{α:Type}(e:Xn):noE (some (.error e):R α)=none:=rfl
@[simp] theorem x_eCallN(f:FM):eCallN f am ρ=zA4 (am ρ) fun ds=>noE (f ds):=rfl
@[simp] theorem x_eMkX(c f:Str):eMkX c f am ρ=zA4 (am ρ) fun ds=>match ds with|[d]=>okR (.exc c f d)|_=>none:=rfl
@[simp] theorem x_sRaise(c f:Str):sRaise c f am r=zA4 (am (full r)) fun ds=>match ds with|[d]=>some (.error ⟨c,f,d⟩)|_=>none:=rfl
@[simp] theorem x_eAtX(hs:List Str)(f:Str):eAtX hs f a ρ=zA4 (a ρ) fun d=>match d with | .exc c g x=>if c∈hs/\g=f then okR x else none|_=>none:=rfl
@[simp] theorem x_eIsX(ys ns:List Str):eIsX ys ns a ρ=zA4 (a ρ) fun d=>match d with | .exc c _ _=>if c∈ys then okR (.bl true)else if c∈ns then okR (.bl false)else none|_=>none:=rfl
@[simp] theorem x_gone_nx(i:Nat):goneO i (.nx r)=.nx (r.set i none):=rfl
@[simp] theorem x_gone_rt(i:Nat)(d:Dt):goneO i (.rt d)=.rt d:=rfl
theorem zV8{vs:List Nat}{j:Option Nat}{hs:List Str}{i:Nat}{d:Dt}(h:a (frz (frzAt vs r))=okR d):sTry vs j a hs i s r=okR (.nx (match j with|none=>frzAt vs r|some j=>(frzAt vs r).set j (some (d,0)))):=by
 unfold sTry;rw[h];rfl
theorem zV9{vs:List Nat}{j:Option Nat}{hs:List Str}{i:Nat}{x:Xn}(h:a (frz (frzAt vs r))=some (.error x))(hm:x.cls∈hs):sTry vs j a hs i s r=zA4 (s ((frzAt vs r).set i (some (.exc x.cls x.f x.d,0)))) fun o=>okR (goneO i o):=by
 unfold sTry;rw[h];exact if_pos hm
end
example (d:Dt):True:=trivial
end Mi
namespace L2
open PySem PySem.Spec PyProof.Rows
section
variable{X:Cx}
noncomputable def zXX:R2:=fun x y H Q=>match x,y with
 |.int i,.int j=>Q (.int (qIg i j)) H
 |_,_=>False
theorem za3:OpR X (binaryOp .BitXor) zXX:=by
 intro pins s σ H x y v u Q I rx ry h;cases x<;>cases y<;>first
  |exact zYG pins s σ H _ _ v u Q I rx ry ⟨_,_,rfl,rfl,h⟩
  |exact qA8 h
def zY0:R2:=fun x y H Q=>match x,y with
 |.ref l,.int k=>∃xs,H l=some (.lst xs)/\(-(2 ^ 63)<=k/\k<2 ^ 63)/\xs.length*k.toNat<=sizeLine/\∀p,H p=none->Q (.ref p) (upd H p (.lst (qA5 k.toNat xs).flatten))
 |_,_=>False
theorem zXD:OpR X (binaryOp .Mult) zY0:=by
 intro pins s σ H x y v u Q I rx ry h;cases x<;>cases y<;>first
  |(obtain⟨xs,h1,h2,h3,h4⟩:=h;exact zYI pins s σ H _ _ v u Q I rx ry ⟨_,_,xs,rfl,rfl,h1,h2.1,h2.2,h3,h4⟩)
  |exact qA8 h
def extM:V->List V->Hp->VK->Prop:=fun x vs H Q=>match x,vs with
 |.ref l,[.ref b]=>∃xs zs,H l=some (.lst xs)/\H b=some (.lst zs)/\xs.length+zs.length<=sizeLine/\Q .non (upd H l (.lst (xs++zs)))
 |_,_=>False
theorem zW2:MtR X "list.extend" extM:=by
 intro pins s σ H x vs v us Q I rx rv h;cases x with
 |ref l=>
  cases vs with
  |nil=>exact qA8 h
  |cons hd1 tl1=>
   cases hd1 with
   |ref b=>
    cases tl1 with
    |nil=>
     obtain⟨xs,zs,h1,h2,h3,h4⟩:=h;exact zQ7 pins s σ H _ _ v us Q I rx rv ⟨l,b,xs,zs,rfl,rfl,h1,h2,h3,h4⟩
    |cons _ _=>exact qA8 h
   |_=>exact qA8 h
 |_=>exact qA8 h
end
section
variable{X:Cx}{K:qA1}
end
end L2
namespace Mi
open PySem
noncomputable section
noncomputable def xorD:Dt->Dt->Option Dt
 |.int i,.int j=>some (.int (qIg i j))
 |_,_=>none
noncomputable def repD:Dt->Dt->Option Dt
 |.lst xs,.int k=>@ite _ ((-4611686018427387904<=k/\k<4611686018427387904)/\xs.length*k.toNat<=100000) (qA3 _) (some (.lst (qA5 k.toNat xs).flatten)) none
 |_,_=>none
def tL(a:EM):TM:=fun ρ=>zA4 (a ρ) fun x=>match x with
 |.bl k=>okR k
 |.int i=>okR (i != 0)
 |.non=>okR false
 |.lst xs=>okR (!xs.isEmpty)
 |.tup xs=>okR (!xs.isEmpty)
 |_=>none
def iRv(e:AM):IM:=fun ρ=>zA4 (e ρ) fun vs=>match vs with
 |[.lst xs]=>okR xs.reverse
 |_=>none
noncomputable def intsD:List Dt->Option (List Int)
 |[]=>some []
 |.int i::r=>(intsD r).map (i::·)
 |_::_=>none
def eMl(f:List Dt->List Dt->Option Dt)(a:EM)(am:AM):EM:=fun ρ=>zA4 (a ρ) fun x=>match x with
 |.lst xs=>zA4 (am ρ) fun ds=>optR (f xs ds)
 |_=>none
def sExt(i n:Nat)(e:EM):SM:=fun ρ=>match ρ[i]? with
 |some (some (.lst ds,k+1))=>zA4 (e (full ρ)) fun d=>match d with
  |.lst es=>@ite _ (ds.length+es.length<=100000/\Dt.depL es<=n/\Dt.depL es<=k) (qA3 _) (okR (.nx (ρ.set i (some (.lst (ds++es),k+1))))) none
  |_=>none
 |_=>none
noncomputable def low(i:Nat)(ρ:Ro):Ro:=match ρ[i]? with
 |some (some (.lst ds,_+1))=>ρ.set i (some (.lst ds,1))
 |_=>ρ
def sAppF(i:Nat)(vs:List Nat)(e:EM):SM:=fun ρ=>match(frzAt vs (low i ρ))[i]? with
 |some (some (.lst ds,1))=>zA4 (e (frz (frzAt vs (low i ρ)))) fun d=>@ite _ (ds.length<=100000) (qA3 _) (okR (.nx ((frzAt vs (low i ρ)).set i (some (.lst (ds++[d]),1))))) none
 |_=>none
def sItemF(i:Nat)(vs:List Nat)(e1 e2:EM):SM:=fun ρ=>zA4 (e2 (frz (frzAt vs (low i ρ)))) fun d=>match(frzAt vs (low i ρ))[i]? with
 |some (some (.lst ds,1))=>zA4 (e1 (full (frzAt vs (low i ρ)))) fun z=>match z with
  |.int z=>match ixA ds.length z with
   |some q=>okR (.nx ((frzAt vs (low i ρ)).set i (some (.lst (ds.set q d),1))))
   |none=>none
  |_=>none
 |_=>none
end
end Mi
namespace L3
open PySem PySem.Spec
open L2 hiding Rep RepL
open Mi (Dt Xn R okR zA4 optR zA1 zAA zAE zA8 zAD Rh Sl Ro EM TM AM FM IM SM Tg Out zAS zAT zAV full frz frz1 frzAt)
section
variable[Kc]{mg:Str->Option Value}{E:XK}{L n k l:Nat}{te ta tb:TE}{e ea eb ma:EM}{t:TA}{m:AM}
theorem zXT:ROp zXX Mi.xorD n:=by
 intro mg E G H d e x y Q s h1 h2 p;cases d with
 |int i=>
  cases e with
  |int j=>cases(show x=.int i from h1);cases(show y=.int j from h2);exact zPK s p rfl rfl rfl
  |_=>exact p.elim
 |_=>exact p.elim
theorem zS4{G:Hp}{ds es:List Dt}{xs ys:List V}(ra:RepL G ds xs)(rb:RepL G es ys):RepL G (ds++es) (xs++ys):=by
 refine zE3 (by simp[ra.length,rb.length]) fun j d' x' e1 e2=>?_
 by_cases hj:j<ds.length
 ·rw[qA7 hj]at e1;rw[qA7 (by rw[ra.length];exact hj)]at e2;exact zCH ra e1 e2
 ·rw[qAb (by lia)]at e1;rw[qAb (by rw[ra.length];lia),ra.length]at e2;exact zCH rb e1 e2
theorem zMY{G:Hp}{ds:List Dt}{xs:List V}(r:RepL G ds xs):∀k:Nat,RepL G (qA5 k ds).flatten (qA5 k xs).flatten
 |0=>rfl
 |k+1=>by rw[qBd,qBd,qBp,qBp];exact zS4 r (zMY r k)
theorem zTW:ROp zY0 Mi.repD 1:=by
 intro mg E G H d e x y Q s h1 h2 p;cases d with
 |lst ds=>
  cases e with
  |int j=>
   obtain⟨a,xs,rfl,ha,ra⟩:=h1
   cases(show y=.int j from h2)
   rw[Mi.repD]at p
   split at p
   ·rename_i hz
    exact⟨xs,s _ _ ha,⟨by lia,by lia⟩,by rw[ra.length];exact big' hz.2,fun q hq=>PostE.lst p (Ext.refl s) (zMY ra _) hq⟩
   ·exact p.elim
  |_=>exact p.elim
 |_=>exact p.elim
theorem zL5{G:Hp}:∀{ds:List Dt}{ns:List Int}{xs:List V},Mi.intsD ds=some ns->RepL G ds xs->xs=ns.map V.int
 |[],ns,xs,h,r=>by cases h;exact r
 |d::q,ns,xs,h,r=>by
  cases d with
  |int i=>
   rw[Mi.intsD]at h;cases e:Mi.intsD q with
   |none=>rw[e]at h;cases h
   |some ms=>
    rw[e]at h;cases h;obtain⟨x,t,rfl,a,b⟩:=r
    cases(show x=.int i from a)
    rw[zL5 e b];rfl
  |_=>cases h
end
section
variable[Kc]{G0 H0 S0:Hp}{σ:St}{ρ:Ro}{G H:Hp}{As:Nat->Addr->Prop}
theorem Sat.low(a:Sat G0 H0 S0 σ ρ G H As)(i:Nat):∃G1 As1,Sat G0 H0 S0 σ (Mi.low i ρ) G1 H As1:=by
 unfold Mi.low
 split
 ·rename_i ds k e1
  obtain⟨v,h1,q,xs,T,rfl,hq,kd⟩:=a.at i _ _ e1;obtain⟨s1,s2⟩:=zE6 (S:=fun b=>∃r,T r b) a.ext.in';have ui:∀b,(∃r,T r b)->As i b:=fun b ⟨r,z⟩=>kd.sub r b z
  have x:Ext G0 H0 (over G H fun b=>∃r,T r b) H:=⟨a.ext.g.trans s1,a.ext.h,s2,fun b hb=>by
   have z:¬ ∃r,T r b:=fun z=>hb (a.new i b (ui b z)).1
   rw[zCC z];exact a.ext.old b hb⟩
  refine⟨over G H fun b=>∃r,T r b,fun j b=>As j b/\¬ ∃r,T r b,x,a.stb.trans s1,a.tab,by simp[a.len],fun j e n h=>?_,fun j l b p q=>a.dis j l b p.1 q.1,fun j b p=>?_⟩
  ·have hj:j<ρ.length:=by
    have:=(qA2.mp h).1
    simpa using this
   by_cases z:i=j
   ·subst z;rw[qA9 hj]at h;cases h;exact⟨.ref q,h1,q,xs,fun _ _=>False,rfl,hq,⟨kd.len,fun r d x g1 g2=>(kd.own r d x g1 g2).rep s1 fun b o hb e=>by rw[zF6 ⟨r,hb⟩];exact e,⟨kd.top,fun⟨r,z⟩=>kd.out r z⟩,fun _ z=>z,fun _ _ _ z=>z.elim,fun _ _ z=>z.elim⟩⟩
   ·rw[qAa z]at h;obtain⟨u,q1,q2⟩:=a.at j e n h;exact⟨u,q1,(q2.mono s1 (Same.refl _)).sub fun b hb=>⟨hb,fun w=>z (a.dis i j b (ui b w) hb)⟩⟩
  ·obtain⟨n1,n2,n3⟩:=a.new j b p.1;exact⟨n1,by rw[zCC p.2];exact n2,n3⟩
 ·exact⟨G,As,a⟩
end
section
variable[Kc]{mg:Str->Option Value}{E:XK}{L n k l:Nat}{te ta tb:TE}{e ea eb ma:EM}{t:TA}{m:AM}
theorem zJK(i:Nat)(vs:List Nat)(A:DE mg E te e n):DS mg E L (zG6 (tML appM (vM i) (zCV te tNil))) (Mi.sAppF i vs e):=by
 intro G0 H0 S0 σ ρ G H As D a p;obtain⟨G1,As1,a1⟩:=a.low i;obtain⟨G2,As2,a2⟩:=Sat.frzAt vs a1;unfold Mi.sAppF at p
 generalize hρ:frzAt vs (Mi.low i ρ)=ρ2 at p a2
 split at p
 ·rename_i ds e1
  obtain⟨v,h1,q,xs,T,rfl,hq,kd⟩:=a2.at i _ _ e1;unfold zG6 tML vM;rw[h1];refine⟨xs,hq,?_⟩;refine(zAM A).step (errS.from a2.ext) a2.ext.in' a2.frz p fun d y G3 H3 S _ fr o p1=>?_
  split at p1
  ·rename_i hz
   refine⟨xs,fr.ext.h _ _ hq,by rw[kd.len];exact L2.big (by lia),?_⟩;have a3:=a2.wider fr.ext;have kd1:Kids (Own G3 H3 0) (As2 i) q ds xs T:=kd.imp (fun _ _ _ _ w=>w.mono fr.ext.g fr.ext.h) fun _ z=>z
   refine p1 σ G3 _ _ (a3.store (S:=As2 i) kd.top h1 ⟨q,_,fun _ _=>False,rfl,zAF,⟨by simp[kd.len],fun r d' z g1 g2=>?_,kd.top,fun _ z=>z,fun _ _ _ z=>z.elim,fun _ _ z=>z.elim⟩⟩ fun b z=>.inl z)
   by_cases hr:r<ds.length
   ·rw[qA7 hr]at g1;rw[qA7 (by rw[kd.len];exact hr)]at g2;exact kd1.own r d' z g1 g2
   ·rw[qAb (by lia)]at g1;rw[qAb (by rw[kd.len];lia),kd.len]at g2;have hq0:r-ds.length=0:=by
     have:=(qA2.mp g1).1
     simp at this;lia
    rw[hq0]at g1 g2;simp at g1 g2;subst g1;subst g2;exact o
  ·exact p1.elim
 ·exact p.elim
theorem zT7(i:Nat)(vs:List Nat){n1:Nat}{t1 t2:TE}{e1 e2:EM}(A:DE mg E t1 e1 n1)(B:DE mg E t2 e2 n):DS mg E L (tAsg t2 (gSub (vM i) t1 setM)) (Mi.sItemF i vs e1 e2):=by
 intro G0 H0 S0 σ ρ G H As D a p;obtain⟨G1,As1,a1⟩:=a.low i;obtain⟨G2,As2,a2⟩:=Sat.frzAt vs a1;unfold Mi.sItemF at p
 generalize hρ:frzAt vs (Mi.low i ρ)=ρ2 at p a2
 refine(zAM B).step (errS.from a2.ext) a2.ext.in' a2.frz p fun d y G3 H3 S _ fr o p1=>?_
 have a3:=a2.wider fr.ext
 split at p1
 ·rename_i ds er
  obtain⟨v,h1,q,xs,T,rfl,hq,kd⟩:=a3.at i _ _ er;unfold gSub vM;rw[h1];obtain⟨J,x,s,w⟩:=a3.full;refine(zAM A).step (errS.from x) x.in' w p1 fun z u G4 H4 S2 ee fr2 o2 p2=>?_
  split at p2
  ·rename_i z
   cases(show u=.int z from o2)
   split at p2
   ·rename_i c ei
    rw[zNH]at ei;refine⟨xs,c,fr2.ext.h _ _ hq,by rw[kd.len];exact ei,?_⟩;have a4:=a3.grow fr2.ext.h;refine p2 σ G3 _ _ (a4.store (S:=As2 i) kd.top h1 ⟨q,_,fun _ _=>False,rfl,zAF,⟨by simp[kd.len],fun r d' z' g1 g2=>?_,kd.top,fun _ z=>z,fun _ _ _ z=>z.elim,fun _ _ z=>z.elim⟩⟩ fun b z=>.inl z)
    by_cases hr:c=r
    ·subst hr;have hc:c<ds.length:=by
      have:=(qA2.mp g1).1
      simpa using this
     rw[qA9 hc]at g1;rw[qA9 (by rw[kd.len];exact hc)]at g2;cases g1;cases g2;exact o
    ·rw[qAa hr]at g1 g2;exact kd.own r d' z' g1 g2
   ·exact p2.elim
  ·exact p2.elim
 ·exact p1.elim
theorem zZD(i:Nat)(A:DE mg E te e (n+1))(hn:n<1000:=by decide):DS mg E L (zG6 (tML extM (vM i) (zCV te tNil))) (Mi.sExt i n e):=by
 intro G0 H0 S0 σ ρ G H As D a p;obtain⟨J,x,s,w⟩:=a.full;unfold Mi.sExt at p
 split at p
 ·rename_i ds k e1
  obtain⟨v,h1,q,xs,T,rfl,hq,kd⟩:=a.at i _ _ e1;unfold zG6 tML vM;rw[h1];refine⟨xs,hq,?_⟩;refine A.step (errS.from x) x.in' w p fun d y G1 H1 S _ fr o p1=>?_
  split at p1
  ·rename_i es
   obtain⟨b0,zs,T2,rfl,hb0,kd2⟩:=o
   split at p1
   ·rename_i hz
    refine⟨xs,zs,fr.ext.h _ _ hq,hb0,by rw[kd.len,kd2.len];exact big' (by lia),?_⟩;have hp:=kd.top;have a1:=a.grow fr.ext.h;have q2:∀b,S b->H b=none/\G b=none/\H1 b≠none:=fun b hb=>let⟨n1,n2,n3⟩:=fr.new b hb;⟨n1,a.ext.in'.free n1,n3⟩
    have nS:∀r,¬T2 r q:=fun r z=>(a.new i q hp).2.2 (q2 q (kd2.sub r q z)).1
    have ap:∀r r' b,T r b->T2 r' b->False:=fun r r' b h1 h2=>(a.new i b (kd.sub r b h1)).2.2 (q2 b (kd2.sub r' b h2)).1
    refine p1 σ G _ _ (a1.store (S:=fun b=>As i b\/∃r,T2 r b) hp h1 ⟨q,_,fun r b=>(r<ds.length/\T r b)\/(ds.length<=r/\T2 (r-ds.length) b),rfl,zAF,⟨by simp[kd.len,kd2.len],fun r d' z g1 g2=>?_,.inl hp,fun r z=>?_,fun r r' b z1 z2=>?_,fun r b z=>?_⟩⟩ fun b z=>?_)
    ·by_cases hr:r<ds.length
     ·rw[qA7 hr]at g1;rw[qA7 (by rw[kd.len];exact hr)]at g2;exact(((kd.own r d' z g1 g2).mono (Same.refl _) fr.ext.h).upd (kd.out r)).sub fun b z=>.inl ⟨hr,z⟩
     ·rw[qAb (by lia)]at g1;rw[qAb (by rw[kd.len];lia),kd.len]at g2;exact(((kd2.own _ d' z g1 g2).at (zFB hz.2.1 g1) (zFB hz.2.2 g1) hn).upd (nS _)).sub fun b z=>.inr ⟨by lia,z⟩
    ·rcases z with⟨_,z⟩|⟨_,z⟩
     ·exact kd.out r z
     ·exact nS _ z
    ·rcases z1 with⟨c1,t1⟩|⟨c1,t1⟩<;>rcases z2 with⟨c2,t2⟩|⟨c2,t2⟩
     ·exact kd.dis r r' b t1 t2
     ·exact(ap _ _ b t1 t2).elim
     ·exact(ap _ _ b t2 t1).elim
     ·have:=kd2.dis _ _ b t1 t2;lia
    ·rcases z with⟨_,z⟩|⟨_,z⟩
     ·exact .inl (kd.sub r b z)
     ·exact .inr ⟨_,z⟩
    ·rcases z with z|⟨r,z⟩
     ·exact .inl z
     ·obtain⟨n1,n2,n3⟩:=q2 b (kd2.sub r b z);exact .inr ⟨a.ext.h.free n1,n2,n3,fun j y=>(a.new j b y).2.2 n1⟩
   ·exact p1.elim
  ·exact p1.elim
 ·exact p.elim
end
structure XNo(K:qA1)(mg:Str->Option Value)(c:Str)(C:Addr):Prop extends XCls K mg c C where
 kp:qAv K (.ref C)=true
 ini:qAi K (.ref C) "__init__" = some (some (.builtin "ValueError.__init__"))
theorem zYE{X:Cx}{c:Str}{C:Addr}{e:Expr}{es:List Expr}{t:TA}{p pos:Pos}(h:XNo X.K X.mg c C)(hg:Gl X c)(ha:PA X (e::es) t)(hdb:(c==("__debug__":Str))=false:=by decide)
  (he:starEach (e::es) X.env=(false,eval e X.env)::starEach es X.env:=by rfl) (hpl:(backTo pos (starEach es X.env)).any (·.1)=false:=by rfl):PE X (.Call (.Name c p) (e::es) [] pos) (zLR C t):=
 zPQ h.is.xc h.ini hg h.gm h.kp ha hdb he hpl
section
variable[Kc]{mg:Str->Option Value}{E:XK}{L n k l:Nat}{te ta tb:TE}{e ea eb ma:EM}{t:TA}{m:AM}
theorem zR3{c:Str}{C:Addr}(h:XNo Kc.K mg c C)(A:DA mg E t m 0):DS mg E L (zMQ Kc.K E (zLR C t)) (Mi.sRaise0 c m):=by
 intro G0 H0 S0 σ ρ G H As D a p;obtain⟨J,x,s,w⟩:=a.full;refine A.step (errS.from x) x.in' w p fun ds vs G1 H1 S T _ fr o p1=>?_
 split at p1
 ·rename_i hz
  refine⟨by rw[o.len];exact big' (by lia),fun e he=>⟨e,C,none,rfl,zAF,h.is.xc,?_⟩⟩;have hu:upd (upd H1 e (xn e (.ref C) none)) e (xo e (.ref C) none)=upd H1 e (xo e (.ref C) none):=by
   funext z
   by_cases h1:z=e
   ·rw[h1,zAF,zAF]
   ·rw[zAJ h1,zAJ h1,zAJ h1]
  rw[hu];exact p1 (.ref e) none _ _ ((x.trans fr.ext).trans (Ext.new fr.ext.in' he _)) ⟨e,C,rfl,zAF,h.cl,.inl ⟨rfl,rfl⟩⟩
 ·exact p1.elim
def KTup(K:qA1)(a:Addr)(ns:List Int):Prop:=KTP K a (ns.map V.int)
theorem zWR{a:Addr}{ns:List Int}(h:KTup Kc.K a ns):DE mg E (tC (.ref a)) (Mi.eC (.scr ns)) 0:=by
 intro G H σ ρ Q s w p;exact PostE.kept p (Ext.refl s) ⟨a,rfl,.inr h⟩
end
theorem zW6{K:qA1}{a:Addr}{o:Obj}{its:Array Value}{n:Nat}{ns:List Int}(h:K.lookup a=some o)(h1:o.cls=.type "tuple")(h2:o.data=.seq its n)(h3:its.size<=sizeLine)(h4:Vals (ns.map V.int) its.toList)(hne:ns≠[]:=by decide):KTup K a ns:=
 ⟨fun z=>hne (List.map_eq_nil_iff.mp z),o,its,n,h,h1,h2,h3,h4⟩
section
variable[Kc]{G0 H0 S0:Hp}{σ:St}{ρ:Ro}{G H:Hp}{As:Nat->Addr->Prop}
end
section
variable[Kc]{mg:Str->Option Value}{E:XK}{L n k l:Nat}{te ta tb:TE}{e ea eb ma:EM}{t:TA}{m:AM}
end
end L3
namespace L2
open PySem PySem.Spec PyProof.Rows
section
variable{X:Cx}
noncomputable def zXM(z:Str):List V:=z.cps.toList.map fun c=>.str ⟨#[c]⟩
def rListX(K:qA1):List V->Hp->VK->Prop:=fun vs H Q=>match vs with
 |[.str z]=>z.length<=sizeLine/\∀l,H l=none->Q (.ref l) (upd H l (.lst (zXM z)))
 |_=>zI1 K vs H Q
def rSumU:List V->Hp->VK->Prop:=fun vs H Q=>match vs with
 |[.ref a]=>∃ns:List Int,H a=some (.lst (ns.map V.int))/\ns.length<=100000/\(∀n∈ns,-1000000<=n/\n<=1000000)/\Q (.int ns.sum) H
 |_=>False
def zTX:List V->Hp->VK->Prop:=fun vs H Q=>match vs with
 |[.ref a]=>(∃ns:List Int,H a=some (.lst (ns.map V.int))/\ns.length<64/\∀ms:List Int,ms.Perm ns->ms.Pairwise (·<=·)->∀l,H l=none->Q (.ref l) (upd H l (.lst (ms.map V.int)))) \/
   ∃zs:List Str,H a=some (.lst (zs.map V.str))/\zs.length<64/\∀ys:List Str,ys.Perm zs->sortedS ys=true->∀l,H l=none->Q (.ref l) (upd H l (.lst (ys.map V.str)))
 |_=>False
theorem zL4:∀{ns:List Int}{vs:List Value},qKd vs ns->Vals (ns.map V.int) vs
 |_,_,.nil=>.nil
 |_,_,.cons n t h=>.cons ⟨t,rfl⟩ (zL4 h)
theorem zK4:∀{ns:List Str}{vs:List Value},StrsAre vs ns->Vals (ns.map V.str) vs
 |_,_,.nil=>.nil
 |_,_,.cons n t h=>.cons ⟨t,rfl⟩ (zK4 h)
theorem zNF:zDZ X (.builtin "sorted") zTX:=by
 intro pins s σ H vs us Q I r h;cases vs with
 |nil=>exact qA8 h
 |cons hd1 tl1=>
  cases hd1 with
  |ref a=>
   cases tl1 with
   |nil=>
    obtain⟨u,rfl,rx⟩:=zK1 r;cases rx
    rcases h with⟨ns,ha,hz,q⟩|⟨zs,ha,hz,q⟩
    ·obtain⟨its,rv,hl⟩:=zB0 I.hok ha;have hlen:=rv.length;rw[qAp]at hlen;refine sorted_ints hl (zL3 rv) (by lia) fun out ms h1 h2 h3=>?_
     obtain⟨e,he⟩:=sortedAll_at s.heap its out;have hz':ms.length<=sizeLine:=by rw[h2.length_eq,qHr];lia
     exact⟨.ref _,_,I.laid (t':=s.toks) (o:=.lst (ms.map V.int)) (fun b o q=>sortedAll_old q) (qBx _) ⟨by rw[qAp];exact hz',out.toList,e,zL4 h1,by simpa[seqObj]using he⟩,rfl,q ms h2 h3 _ (I.hok.fresh (qBx _))⟩
    ·obtain⟨its,rv,hl⟩:=zB0 I.hok ha;have hlen:=rv.length;rw[qAp]at hlen;refine sorted_strs hl (zK3 rv) (by lia) fun out ms h1 h2 h3=>?_
     obtain⟨e,he⟩:=sortedAll_at s.heap its out;have hz':ms.length<=sizeLine:=by rw[h2.length_eq,qHr];lia
     exact⟨.ref _,_,I.laid (t':=s.toks) (o:=.lst (ms.map V.str)) (fun b o q=>sortedAll_old q) (qBx _) ⟨by rw[qAp];exact hz',out.toList,e,zK4 h1,by simpa[seqObj]using he⟩,rfl,q ms h2 h3 _ (I.hok.fresh (qBx _))⟩
   |cons _ _=>exact qA8 h
  |_=>exact qA8 h
end
section
variable{X:Cx}{K:qA1}
end
section
variable{X:Cx}{m:Str}{k:Nat}{E:XK}{o:Expr}{ta:TE}{apos pos:Pos}{tb:List (Addr×Sp)}
end
end L2
namespace Mi
open PySem
noncomputable section
def listXD(ds:List Dt):Option Dt:=match ds with
 |[.str z]=>@ite _ (z.length<=100000) (qA3 _) (some (.lst (signsD z))) none
 |ds=>listD ds
def sumD:List Dt->Option Dt
 |[.lst ds]=>match intsD ds with
  |some ns=>@ite _ (ns.length<=100000/\∀n∈ns,-1000000<=n/\n<=1000000) (qA3 _) (some (.int ns.sum)) none
  |none=>none
 |_=>none
noncomputable def sortI(ns:List Int):List Int:=ns.mergeSort fun a b=>decide (a<=b)
def sortD:List Dt->Option Dt
 |[.lst ds]=>match intsD ds with
  |some ns=>@ite _ (ns.length<64) (qA3 _) (some (.lst ((sortI ns).map .int))) none
  |none=>none
 |_=>none
end
end Mi
namespace L3
open PySem PySem.Spec
open L2 hiding Rep RepL
open Mi (Dt Xn R okR zA4 optR zA1 zAA zAE zA8 zAD Rh Sl Ro EM TM AM FM IM SM Tg Out zAS zAT zAV full frz frz1 frzAt)
section
variable[Kc]{mg:Str->Option Value}{E:XK}{L n k l:Nat}{te ta tb:TE}{e ea eb ma:EM}{t:TA}{m:AM}
theorem zSJ{r:List V->Hp->VK->Prop}{f:List Dt->Option Dt}(h0:∀ds,(∀es,ds≠[.lst es])->f ds=none)(h1:∀es,Mi.intsD es=none->f [.lst es]=none)
  (h2:∀(mg:Str->Option Value)(E:XK)(G H:Hp)(a:Addr)(es:List Dt)(ns:List Int)(Q:VK),Same G H->Mi.intsD es=some ns->H a=some (.lst (ns.map V.int))->PostE mg E G H n (optR (f [.lst es])) Q->r [.ref a] H Q):CBi r f n:=by
 intro mg E G H ds vs Q s h p
 by_cases hd:∃es,ds=[.lst es]
 ·obtain⟨es,rfl⟩:=hd;obtain⟨x,rfl,a,xs,rfl,ha,ra⟩:=zGO h;cases ei:Mi.intsD es with
  |none=>rw[h1 es ei]at p;exact p.elim
  |some ns=>exact h2 mg E G H a es ns Q s ei (by rw[s _ _ ha,zL5 ei ra]) p
 ·rw[h0 ds fun es z=>hd ⟨es,z⟩]at p;exact p.elim
theorem zVW{f:List Dt->Option Dt}(h1:f []=none)(h2:∀d,(∀es,d≠.lst es)->f [d]=none)(h3:∀a b r,f (a::b::r)=none):∀ds,(∀es,ds≠[.lst es])->f ds=none:=by
 intro ds h
 match ds,h with
 |[],_=>exact h1
 |[d],h=>exact h2 d fun es z=>h es (by rw[z])
 |a::b::r,_=>exact h3 a b r
theorem zNY(ns:List Int):(Mi.sortI ns).Perm ns:=List.mergeSort_perm ns _
theorem zPD(ns:List Int):(Mi.sortI ns).Pairwise (·<=·):=by
 have:=List.pairwise_mergeSort (le:=fun a b:Int=>decide (a<=b)) (fun a b c h1 h2=>by simp at h1 h2 ⊢;lia) (fun a b=>by simp;lia) ns
 exact this.imp fun h=>by simpa using h
theorem zRE:CBi zTX Mi.sortD 1:=by
 refine zSJ (zVW rfl (fun d h=>by cases d<;>first|rfl|exact absurd rfl (h _)) fun a b r=>by cases a<;>rfl) (fun es h=>by rw[Mi.sortD,h]) fun mg E G H a es ns Q s ei ha p=>?_
 rw[Mi.sortD,ei]at p;dsimp only at p
 split at p
 ·rename_i hz
  refine .inl ⟨ns,ha,hz,fun ms h1 h2 l hl=>?_⟩
  have:ms=Mi.sortI ns:=PySem.W.lks_uniq (h1.trans (zNY ns).symm) h2 (zPD ns)
  subst this;exact PostE.lst p (Ext.refl s) (zCX _) hl
 ·exact p.elim
end
end L3
namespace L2
open PySem PySem.Spec PyProof.Rows
structure RoomH(k:Nat)(A:qHb):Prop where
 dp:A.depth+3*k+5<recursionLimit
 un:A.units+16*k+200<cLine
theorem RoomH.mono{j k:Nat}{A:qHb}(r:RoomH k A)(h:j<=k):RoomH j A:=⟨by have:=r.dp;lia,by have:=r.un;lia⟩
theorem RoomH.deeper{k:Nat}{A:qHb}(r:RoomH (k+1) A)(env:Env):RoomH k (A.deeper env):=
 ⟨by have:=r.dp;show A.depth+1+3*k+5<_;lia,by have:=r.un;show A.units+3+16*k+200<_;lia⟩
theorem RoomH.units{k:Nat}{A:qHb}(r:RoomH k A):A.units+64<cLine:=by have:=r.un;lia
structure FnOkH(P:qH9)(w:World)(K:qA1)(mg:Str->Option Value)(base:Heap)(k:Nat)(f:Addr)(fd:qHo)(ps:List Str)(sp:Sp):Prop where
 len:∀vs H Q E,sp vs H Q E->vs.length=ps.length
 run:∀(A:qHb)(outer:List Env)(s:qH6)(H:Hp)(args:Args)(us:List Value)(vs:List V)(Q:VK)(E:XK),RoomH k A->Env0 P w K mg base A outer s H->qK5 s fd args (ps.zip us)->Vals vs us->sp vs H Q E ->
  qIj (model P w) A (.call (.ref f) args) (CR CX0 outer P w H s Q E) s
noncomputable def zRD(P:qH9)(w:World)(K:qA1)(mg:Str->Option Value)(base:Heap)(N:List Str)(qual:Str)(scope:Scope)(f:Addr)(cd:Value)(A:qHb)(outer:List Env)(s:qH6)(H:Hp)(E:XK):Cx where
 prog:=P
 w:=w
 K:=K
 mg:=mg
 base:=base
 A:=A.deeper (envOfC qual scope s.heap.objs.size f cd)
 N:=N
 s₀:=s
 H₀:=H
 env:=envOfC qual scope s.heap.objs.size f cd
 outer:=outer
 stack:=envOfC qual scope s.heap.objs.size f cd::outer
 ex:=[]
 calm:=false
 fn:=fun _=>true
 pn:=[]
 xe:=fun _ _=>False
theorem zOH{P:qH9}{w:World}{K:qA1}{mg:Str->Option Value}{base:Heap}{N ps:List Str}{qual:Str}{scope:Scope}{f:Addr}{cd:Value}{A:qHb}{outer:List Env}{s s1:qH6}{H:Hp}{E:XK}{us:List Value}{vs:List V}
  (S:FnScope N ps scope) (e0:Env0 P w K mg base A outer s H) (hl:vs.length=ps.length) (r:Vals vs us)
  (x:InCallC s s.heap.objs.size (bindL (envOfC qual scope s.heap.objs.size f cd).kindOf (ps.zip us) fun _=>none) (cellsFrom (s.heap.objs.size+1) scope.names []) (bindC (envOfC qual scope s.heap.objs.size f cd).kindOf (ps.zip us) fun _=>none) s1) :
  Inv (zRD P w K mg base N qual scope f cd A outer s H E) [] (start N vs) H s1:=by
 have e1:Env0 P w K mg base { A with handled:=none } outer s H:=⟨e0.frames,e0.mod,e0.bs,e0.bsz,e0.funs,e0.frf,e0.hok,e0.bare⟩
 have I:=zL2 (CX:=CX0) (N:=N) (E:=E) S rfl e1 hl r x;have ok:=I.ok;exact⟨⟨ok.mod,ok.kind,ok.glob,ok.blt,ok.above,ok.inj,ok.has,ok.cab,fun z=>qFj z,qJu e0.frames,ok.stk,ok.exf,ok.bs,ok.bsz,ok.noex,ok.exfs,ok.funs,ok.frf⟩,I.os,I.bare,I.base,I.loc,I.cell,I.free,I.freeC,I.pin,I.hok,I.len⟩
theorem zZ8{P:qH9}{w:World}{K:qA1}{mg:Str->Option Value}{base:Heap}{k:Nat}{f:Addr}{name qual:Str}{params:Arguments}{body:List Stmt}{scope:Scope}{dV kV doc pm cdv ct oc:Value}{an od:Option Addr}
  {osl:Array (Option Value)} {N ps:List Str} {sp:Sp} (lk:K.lookup f=some ⟨oc,od,.func (qAz name qual params body scope dV kV doc pm an cdv ct),osl⟩) (hcd:qBo K cdv qual=true) (S:FnScope N ps scope)
  (len:∀vs H Q E,sp vs H Q E->vs.length=ps.length)
  (hbody:∀(A:qHb)(outer:List Env)(s:qH6)(H:Hp)(vs:List V)(Q:VK)(E:XK),RoomH k (A.deeper (envOfC qual scope s.heap.objs.size f cdv))->sp vs H Q E ->
   ∃t,PSs (zRD P w K mg base N qual scope f cdv A outer s H E) body t/\t { nx:=fun _ H'=>Q .non H',rt:=Q } (start N vs) H) :
  FnOkH P w K mg base (k+1) f (qAz name qual params body scope dV kV doc pm an cdv ct) ps sp:=by
 refine⟨len,fun A outer s H args us vs Q E hr e0 hb r hsp=>?_⟩;have hl:=len _ _ _ _ hsp;have KX:K.In s.heap:=e0.mod.kin.keeps fun b o e=>(e0.bs b o e).1
 have lim:s.heap.NoLimit:=e0.mod.nolimit.keeps fun b o e=>(e0.bs b o e).1
 have hkind:∀y∈ps.zip us,scope.names.lookup y.1=some .local\/(scope.names.lookup y.1=some .cell/\((cellsFrom (s.heap.objs.size+1) scope.names []).lookup y.1).isSome=true):=fun⟨n,v⟩ hy=>by
  rcases S.par n (qCa hy).1 with q|q
  ·exact .inl q
  ·exact .inr ⟨q,qC7 _ _ _ (.inl q)⟩
 refine qJm (by have:=hr.dp;lia) (KX _ _ lk) rfl S.co S.gen rfl (qEz KX hcd) (hb _ _ _ _ ?_);refine qIu S.kind hkind fun env he s1 x=>?_
 subst he;refine⟨lim.keeps x.toInCall.keep,codeAny_func ?_⟩;obtain⟨t,ht,hq⟩:=hbody A outer s H vs Q E (hr.deeper _) hsp;have I:Inv (zRD P w K mg base N qual scope f cdv A outer s H E) [] (start N vs) H s1:=zOH S e0 hl r x;refine wpAny_mono (ht [] s1 (start N vs) H _ I hq) (fun fl s' hs=>?_) fun e s' hs=>hs.elim
 have fin:∀{σ':St}{H':Hp}{v:V}{u:Value},Inv (zRD P w K mg base N qual scope f cdv A outer s H E) [] σ' H' s'->RelV v u->Q v H'->CE outer P w H s Q u s':=
  fun{σ' H' v u} J rv q=>⟨v,H',J.os,J.bare,J.base,J.hok,rv,q⟩
 cases fl with
 |ret u=>
  obtain⟨v,σ',H',J,rv,q⟩:=hs;exact fin J rv q
 |next=>
  obtain⟨σ',H',J,q⟩:=hs;exact fin (v:=V.non) (u:=qHj) J rfl q
 |brk=>
  obtain⟨_,_,_,q⟩:=hs;exact qA8 q
 |cont=>
  obtain⟨_,_,_,q⟩:=hs;exact qA8 q
def HasH(P:qH9)(w:World)(K:qA1)(mg:Str->Option Value)(base:Heap)(x:Str)(k:Nat)(ps:List Str)(sp:Sp):Prop:=
 ∃f fd,FnOkH P w K mg base k f fd ps sp/\mg x=some (.ref f)/\qAv K (.ref f)=true/\Binds K fd ps []
theorem Def.okH{P:qH9}{w:World}{K:qA1}{mg:Str->Option Value}{base:Heap}{x:Str}{st:Stmt}{N ps:List Str}{k:Nat}{sp:Sp}(D:Def K mg x st)(S:FnScope N ps (zA9 st))
  (hb:∀(kV doc pm:Value)(an:Option Addr)(cdv ct:Value)(us:List Value),us.length=ps.length->qJc (qAz x x (zBS st) (zB1 st) (zA9 st) .none kV doc pm an cdv ct) ⟨us,[]⟩=pure (ps.zip us))
  (len:∀vs H Q E,sp vs H Q E->vs.length=ps.length)
  (hbody:∀(f:Addr)(cdv:Value)(A:qHb)(outer:List Env)(s:qH6)(H:Hp)(vs:List V)(Q:VK)(E:XK),RoomH k (A.deeper (envOfC x (zA9 st) s.heap.objs.size f cdv))->sp vs H Q E ->
   ∃t,PSs (zRD P w K mg base N x (zA9 st) f cdv A outer s H E) (zB1 st) t/\t { nx:=fun _ H'=>Q .non H',rt:=Q } (start N vs) H):HasH P w K mg base x (k+1) ps sp:=by
 obtain⟨f,fd,F,m⟩:=D;have hbi:=F.binds hb;have kp:=F.kp;obtain⟨oc,od,kV,doc,pm,an,cdv,ct,osl,rfl,lk,hcd⟩:=F.ex;exact⟨f,_,zZ8 lk hcd S len fun A outer s H vs Q E hr h=>hbody f cdv A outer s H vs Q E hr h,m,kp,hbi⟩
section
variable{X:Cx}{x:Str}{j k:Nat}{ps:List Str}{sp:Sp}{e:Expr}{es:List Expr}{t:TA}{p pos:Pos}
theorem zYF(h:HasH X.prog X.w X.K X.mg X.base x j ps sp)(hjk:j<=k)(hr:RoomH k X.A)(hg:Gl X x)(ha:PA X (e::es) t)(hdb:(x==("__debug__":Str))=false:=by decide)
  (he:starEach (e::es) X.env=(false,eval e X.env)::starEach es X.env:=by rfl) (hpl:(backTo pos (starEach es X.env)).any (·.1)=false:=by rfl):PE X (.Call (.Name x p) (e::es) [] pos) (zF3 sp [] E0 t):=by
 obtain⟨f,fd,F,m,kp,b⟩:=h;intro pins s σ H Q I h;refine qHp (zDQ I hg m ?_ hdb);refine qC8 (h₀:=X.base) I.ok.mod.kin kp (thn (ha pos pins s σ H _ I h) fun us s1 ⟨vs,H1,I1,r,q⟩=>⟨I1.kIn,?_⟩) he hpl;have r2:Vals (vs++[]) (us++[]):=r.append .nil;have hl:(us++[]).length=ps.length:=by rw[<- r2.length];exact F.len _ _ _ _ q
 refine wpAny_call (codeAny_mono (F.run X.A X.stack s1 H1 ⟨us,[]⟩ (us++[]) (vs++[]) Q E0 (hr.mono hjk) I1.env0 (b s1 us I1.kIn hl) r2 q) fun r s' hq=>?_);cases r with
 |error e=>exact qA8 hq
 |ok fl=>
  cases fl with
  |ret u=>exact I1.after hq
  |next=>exact qA8 hq
  |brk=>exact qA8 hq
  |cont=>exact qA8 hq
end
theorem Room.toM{k:Nat}{A:qHb}{h:Option Value}(r:Room k A):RoomH k (A.mark h):=⟨r.dp,r.un⟩
section
variable{X:Cx}{x:Str}{C:Addr}{p pos:Pos}
end
def spIns(K:qA1)(fl:List Str):Sp:=fun vs H Q _=>∃(x C dx:Addr)(ys:List V),vs=.ref x::ys/\ys.length=fl.length/\H x=some (.ins C dx [])/\Cls K C/\(∀f∈fl,zZS K C f)/\Q .non (upd H x (.ins C dx (fl.zip ys)))
section
variable{X:Cx}{m:Str}{k:Nat}{E:XK}{o e:Expr}{es:List Expr}{ta:TE}{t:TA}{apos pos:Pos}{tb:List (Addr×Sp)}
end
section
variable{X:Cx}{m:Str}{k:Nat}{o e:Expr}{es:List Expr}{ta:TE}{t:TA}{apos pos:Pos}{tb:List (Addr×Sp)}
end
section
variable{prog:qH9}{w:World}{A:qHb}{E:Value->qH6->Prop}{s:qH6}
end
section
variable{X:Cx}{pos:Pos}
end
section
variable{prog:qH9}{w:World}{A:qHb}{E:Value->qH6->Prop}{s:qH6}
end
section
variable{prog:qH9}{w:World}{A:qHb}{R:qKh->qH6->Prop}{I:Addr}{fp wr:List Addr}{G:Array qIf->Array qIf->Prop}{n:Nat}{St:Nat->qH6->Prop}{led:Bool}{z:Str}
end
section
variable{prog:qH9}{w:World}{A:qHb}{E:Value->qH6->Prop}{s:qH6}
end
section
variable{X:Cx}{pins:List (Addr×Obj)}{σ:List (Option V)}{H:Hp}{s:qH6}
end
section
variable{prog:qH9}{w:World}{A:qHb}{E:Value->qH6->Prop}{s:qH6}{T:String}{r:Addr}{fp:List Addr}{n:Nat}{P:Nat->Value->Prop}{St:Nat->Heap->Prop}
end
section
variable{prog:qH9}{w:World}{A:qHb}{E:Value->qH6->Prop}{s:qH6}{x:Str}{t:Tok}
end
section
variable{X:Cx}{tg:Expr}
end
section
variable{prog:qH9}{w:World}{A:qHb}{E:Value->qH6->Prop}{s:qH6}
end
section
variable{X:Cx}
end
section
variable{prog:qH9}{w:World}{A:qHb}{E:Value->qH6->Prop}{s:qH6}
end
section
variable{X:Cx}
end
section
variable{prog:qH9}{w:World}{A:qHb}{E:Value->qH6->Prop}{s:qH6}
end
section
variable{prog:qH9}{w:World}{A:qHb}{R:qKh->qH6->Prop}{I:Addr}{fp wr:List Addr}{G:Array qIf->Array qIf->Prop}{n:Nat}{St:Nat->qH6->Prop}{led:Bool}{items:Array Value}{ns:List Int}
end
section
variable{prog:qH9}{w:World}{A:qHb}{E:Value->qH6->Prop}{s:qH6}
end
section
variable{X:Cx}{pins:List (Addr×Obj)}{σ:List (Option V)}{H:Hp}{s:qH6}
end
section
variable{prog:qH9}{w:World}{A:qHb}{E:Value->qH6->Prop}{s:qH6}
end
section
variable{X:Cx}{K:qA1}
end
section
variable{X:Cx}{e m1:Expr}{te ts:TE}{pos p2:Pos}
end
section
variable{prog:qH9}{w:World}{A:qHb}{R:qKh->qH6->Prop}{I:Addr}{fp wr:List Addr}{G:Array qIf->Array qIf->Prop}{n:Nat}{St:Nat->qH6->Prop}{led:Bool}{items:Array Value}{zs:List Str}
end
end L2
namespace L3
open PySem PySem.Spec
open L2 hiding Rep RepL
open Mi (Dt Xn R okR zA4 optR zA1 zAA zAE zA8 zAD Rh Sl Ro EM TM AM FM IM SM OM Tg Out zAS zAT zAV full frz frz1 frzAt)
section
variable{X:Cx}{c:Str}{fl:List Str}{C:Addr}{k:Nat}{E:XK}{e:Expr}{es:List Expr}{t:TA}{p pos:Pos}
end
section
variable[Kc]{mg:Str->Option Value}{E:XK}{L n k l:Nat}{te ta tb:TE}{e ea eb ma:EM}{t:TA}{m:AM}
end
section
variable[Kc]{mg:Str->Option Value}{E:XK}{L n k l:Nat}
end
section
variable[Kc]{mg:Str->Option Value}{E:XK}{L n k l:Nat}{te ta tb:TE}{e ea eb ma:EM}{t:TA}{m:AM}
end
section
variable[Kc]{mg:Str->Option Value}{E:XK}{L n k l:Nat}
end
section
variable[Kc]{mg:Str->Option Value}{E:XK}{L n k l:Nat}{te:TE}{e:EM}
section
variable{G0 H0 S0:Hp}{σ:St}{ρ:Ro}{G H:Hp}{As:Nat->Addr->Prop}
end
end
section
variable[Kc]{mg:Str->Option Value}{E:XK}{L n k l:Nat}{te ta tb tx td:TE}{e ea eb ex ed ma:EM}{t:TA}{m:AM}
end
section
variable[Kc]{mg:Str->Option Value}{E:XK}{L n k l:Nat}
end
section
variable[Kc]{mg:Str->Option Value}{E:XK}{L n k l:Nat}{te ta tb:TE}{e ea eb ma:EM}{t:TA}{m:AM}
end
end L3
namespace L3
open PySem PySem.Spec
open PyProof.Rows (risingS sortedS ltCps_eq)
open L2 hiding Rep RepL
open Mi (Dt Xn R okR zA4 optR zA1 zAA zAE zA8 zAD Rh Sl Ro EM TM AM FM IM SM OM Tg Out zAS zAT zAV full frz frz1 frzAt)
section
variable[Kc]{mg:Str->Option Value}{E:XK}{L n k l:Nat}{te ta tb:TE}{e ea eb ma:EM}{t:TA}{m:AM}
end
section
variable[Kc]{mg:Str->Option Value}{E:XK}{L n k l:Nat}{t:TA}{m:AM}
end
section
variable[Kc]{mg:Str->Option Value}{E:XK}{L n k l:Nat}{te ta td:TE}{e ea ed:EM}
end
end L3
namespace L3
open PySem PySem.Spec
open L2 hiding Rep RepL
open Mi (Dt Xn R okR zA4 optR zA1 zAA zAE zA8 zAD Rh Sl Ro EM TM AM FM IM SM Tg Out zAS zAT zAV full frz frz1 frzAt)
section
variable[Kc]{mg:Str->Option Value}{E:XK}{L n n1:Nat}{t1 t2:TE}{e1 e2:EM}
end
section
variable[Kc]{mg:Str->Option Value}{E:XK}{L n:Nat}{te:TE}{e:EM}
end
end L3
namespace L2
open PySem PySem.Spec
structure Dr(p:Prop):Prop where
 h:p
section
variable{X:Cx}
theorem zCE{st:Stmt}{rest:List Stmt}{t u:TS}(h1:Dr (PS X st t))(h2:Dr (PSs X rest u)):Dr (PSs X (st::rest) (tSeq t u)):=⟨zA5 h1.h h2.h⟩
theorem zQZ{st:Stmt}{t:TS}(h1:Dr (PS X st t)):Dr (PSs X [st] t):=⟨zAG h1.h⟩
theorem zWK{pos:Pos}{i:Nat}{x:Str}{e:Expr}{te:TE}{pos':Pos}(hN:X.N.Nodup)(hi:X.N[i]?=some x)(hx:Loc X.env.scope x)(he:Dr (PE X e te))(hs:qIs e (some (.Name x pos')) pos.line X.env=pure false:=by rfl)(hf:X.fn x=true\/X.env.scope.names.lookup x=some .local:=by first|exact .inl rfl|exact .inr rfl|assumption) :
  Dr (PS X (.Assign [.Name x pos'] e pos) (tAsg te (zGC i))):=⟨zTZ hN hi hx he.h hs hf⟩
theorem zZI{a b:Expr}{ta tb:TE}{pos:Pos}{r:R2}(hr:IxR X r)(ha:Dr (PE X a ta))(hb:Dr (PE X b tb))(hp:zRO b):Dr (PE X (a.Subscript b pos) (tOp r ta tb)):=⟨zBM hr ha.h hb.h hp⟩
theorem zWQ{es:List Expr}{t:TA}{pos:Pos}(h:Dr (PA X es t)):Dr (PE X (.List es pos) (tLst t)):=⟨zB9 h.h⟩
theorem zC0{e:Expr}{es:List Expr}{te:TE}{t:TA}(h1:Dr (PE X e te))(h2:Dr (PA X es t))(hs:starEach (e::es) X.env=(false,eval e X.env)::starEach es X.env:=by rfl):Dr (PA X (e::es) (zCV te t)):=⟨zA0 h1.h h2.h hs⟩
theorem zJL:Dr (PA X [] tNil):=⟨zA3⟩
theorem zCL{i:Int}{j:Nat}{pos:Pos}:Dr (PE X (.Constant (.int i) j pos) (tC (.int i))):=⟨zAB⟩
end
end L2
namespace L2
open PySem PySem.Spec PyProof.Rows
section
variable{X:Cx}{pins:List (Addr×Obj)}{σ:List (Option V)}{H:Hp}{s:qH6}
end
section
variable{X:Cx}
theorem zMB{es:List Expr}{t:TA}{x1:Nat}{pos:Pos}(h:Dr (PA X es t)):Dr (PE X (.Tuple es x1 pos) (tTup t)):=⟨zCY h.h⟩
end
end L2
namespace Mi
open PySem
noncomputable section
noncomputable def kyD:Dt->Option (Sum Int Str)
 |.int i=>some (.inl i)
 |.str x=>some (.inr x)
 |_=>none
noncomputable def swD:Dt->Option Sw
 |.non=>some .non
 |.bl b=>some (.bl b)
 |.int i=>some (.int i)
 |.str x=>some (.str x)
 |_=>none
noncomputable def swT:Sw->Dt
 |.non=>.non
 |.bl b=>.bl b
 |.int i=>.int i
 |.str x=>.str x
noncomputable def getW(kvs:List (Sum Int Str×Sw))(k:Sum Int Str):Option Sw:=(kvs.find? fun p=>decide (p.1=k)).map (·.2)
noncomputable def putW(kvs:List (Sum Int Str×Sw))(k:Sum Int Str)(v:Sw):List (Sum Int Str×Sw):=
 if(kvs.any fun p=>decide (p.1=k))=true then kvs.map (fun p=>if p.1=k then(p.1,v)else p)else kvs++[(k,v)]
def eDct0:EM:=fun _=>okR (.dct [])
def dinD(ng:Bool)(x y:Dt):Option Dt:=match y with
 |.dct kvs=>match kyD x with
  |some k=>some (.bl (if ng=true then !(getW kvs k).isSome else(getW kvs k).isSome))
  |none=>none
 |_=>none
def eDGet(d k x:EM):EM:=fun ρ=>zA4 (d ρ) fun D=>match D with
 |.dct kvs=>zA4 (k ρ) fun y=>zA4 (x ρ) fun z=>match kyD y with
  |some q=>if z.dep=0 then okR (match getW kvs q with|some w=>swT w|none=>z)else none
  |none=>none
 |_=>none
def sDput(i:Nat)(e1 e2:EM):SM:=fun ρ=>zA4 (e2 (full ρ)) fun v=>match ρ[i]? with
 |some (some (.dct kvs,k+1))=>zA4 (e1 (full ρ)) fun y=>match kyD y,swD v with
  |some q,some u=>@ite _ (kvs.length<=100000) (qA3 _) (okR (.nx (ρ.set i (some (.dct (putW kvs q u),k+1))))) none
  |_,_=>none
 |_=>none
def pairsD:List Dt->Option (List (Sum Int Str×Sw))
 |[]=>some []
 |.tup [a,b]::r=>match kyD a,swD b,pairsD r with
  |some k,some v,some q=>some ((k,v)::q)
  |_,_,_=>none
 |_::_=>none
def sDupd(i:Nat)(e:EM):SM:=fun ρ=>match ρ[i]? with
 |some (some (.dct kvs,k+1))=>zA4 (e (full ρ)) fun d=>match d with
  |.lst ds=>match pairsD ds with
   |some ps=>@ite _ (kvs.length+ps.length<=50000) (qA3 _) (okR (.nx (ρ.set i (some (.dct (ps.foldl (fun m p=>putW m p.1 p.2) kvs),k+1))))) none
   |none=>none
  |_=>none
 |_=>none
end
end Mi
namespace PySem
open Sem (wp)
theorem zKU:typeLookup (.type "list") "keys" = pure none:=by rw[typeLookup_type,builtinLookup_eq_fast];kernel_rfl
theorem zKP{prog:qH9}{w:World}{A:qHb}{E:Value->qH6->Prop}{s:qH6}{a:Addr}{o:Obj}{xs:Array Value}{k:Nat}{Q:Option Value->qH6->Prop}
  (hx:s.heap.get? a=some o) (hc:o.cls=.type "list") (hdat:o.data=.seq xs k) (hd:o.dict=none) (hA:A.handled=none)
  (h:∀h' tk,(∀b ob,s.heap.get? b=some ob->h'.get? b=some ob)->Q none { s with heap:=h',toks:=tk }) :
  wpAny (model prog w) A (getAttr? (.ref a) "keys") Q E s:=by
 obtain⟨c,dct,dat,sl⟩:=o;simp only at hc hdat hd;subst hc hdat hd;obtain⟨hp,g,d,tk,os⟩:=s;have hT:∀tk',(⟨hp,g,d,tk',os⟩:qH6).TypeIs (.ref a) "list":=fun _=>⟨_,hx,rfl⟩
 have f1:=sub_AttributeError;have f3:=qI8.lookup;have f4:=qI8.bind (.ref a);have f5:=am_list_getattr_none;unfold getAttr? getAttrBy? getAttrBy
 repeat (any_goals (first|assumption|exact hT _|((with_reducible show wpAny _ _ (call (qHl "list.__getattribute__") _ _) _ _ _);refine call_meets qI8 (hT _) am_entry_list_getattribute (F.args_list_getattribute_2 _ _) (meets_getattribute_miss_list a xs k sl "keys" _ zKU (by decide +kernel) (by size_fits)) ⟨hx,hA,fun h' tk' e hx'=>?_⟩)|wp_step))
 obtain⟨t',u',he⟩:=hx'.there;have hTe:(⟨h',g,d,tk',os⟩:qH6).TypeIs (.ref e) "AttributeError":=⟨_,he,rfl⟩
 show wpAny _ _ (getattributeRaised _ _ _ _ _ _ _) _ _ _;unfold getattributeRaised
 repeat (any_goals (first|assumption|wp_step))
 exact h h' tk' hx'.keeps
theorem zEA:entryFor table "dict.update.loop" = some qK8.«dict.update.loop»:=entryFor_of_tree (by kernel_rfl)
theorem zC4:plainId "dict.update.loop" = true:=by decide +kernel
section
variable{prog:qH9}{w:World}{A:qHb}{K:Type}[DecidableEq K]{knd:KeyKind prog w K}
def zRP(knd:KeyKind prog w K)(h:Heap)(v:Value)(p:K×Value):Prop:=∃t o n key,v=.ref t/\h.get? t=some o/\o.cls=.type "tuple"/\o.data=.seq #[key,p.2] n/\knd.is p.1 key=true
theorem zRU{R:qKh->qH6->Prop}(hh:A.handled=none){d l it:Addr}(hdl:d≠l)(hdi:d≠it)(hli:l≠it){items:Array Value}(ps:List (K×Value))(hps:ps.length=items.size)(result:Value) :
  ∀(n i:Nat)(s:qH6)(kvs:List (K×Value)),items.size-i=n->i<=items.size->kvs.length+n<=100000->s.heap.DictOf knd d kvs->s.heap.IsListIter it l i->s.heap.IsList l items ->
  (∀(j:Nat) v p,items[j]?=some v->ps[j]?=some p->zRP knd s.heap v p) ->
  (∀h' tk,h'.DictOf knd d ((ps.drop i).foldl (fun m p=>stored m p.1 p.2) kvs)->(∀b o,b≠d->b≠it->s.heap.get? b=some o->h'.get? b=some o)->(∃o,h'.get? d=some o)->R (.ok (.ret result)) { s with heap:=h',toks:=tk }) ->
  qIj (model prog w) A (.builtin "dict.update.loop" ⟨[.ref d,.ref it,rawInt i,result],[]⟩) R s:=by
 intro n
 induction n with
 |zero=>
  intro i s kvs hn hi hz hd hit hl hp hR;have hin:i=items.size:=by lia
  refine codeAny_builtin zEA ?_;rw[qJv zC4 _];show wpAny _ A.in1 (pyNext (.ref it) >>= _) _ _ s;refine wpAny_bind (wpAny_pyNext_list_end hh hit hl (by rw[hin];simp) fun h' hx=>?_);show wpAny _ A.in1 (Builtin.Dict.addKeywords d [] >>= _) _ _ _;refine wpAny_bind (wpAny_of_eq (a:=()) rfl ?_);have hd':h'.DictOf knd d kvs:=by
   obtain⟨o,es,ep,ho,r⟩:=hd;exact⟨o,es,ep,hx _ _ hdi ho,r⟩
  refine wpAny_pure (hR h' s.toks ?_ (fun b o _ hb e=>hx b o hb e) ?_)
  ·rw[hin,<- hps,qE4];exact hd'
  ·obtain⟨o,es,ep,ho,r⟩:=hd';exact⟨o,ho⟩
 |succ n ih=>
  intro i s kvs hn hi hz hd hit hl hp hR;have hlt:i<items.size:=by lia
  have hx:items[i]?=some items[i]:=qDm hlt;have hpi:ps[i]?=some (ps[i]'(by lia)):=qA4 (by lia);obtain⟨t,o,m,key,e1,e2,e3,e4,e5⟩:=hp i _ _ hx hpi;refine codeAny_builtin zEA ?_;rw[qJv zC4 _];show wpAny _ A.in1 (pyNext (.ref it) >>= _) _ _ s;refine wpAny_bind (wpAny_pyNext_list_item hit hl hx fun h1 hit1 hs1=>?_);rw[e1];obtain⟨oi,hoi,hci,hdi'⟩:=id hit;have hti:t≠it:=fun z=>by
   rw[z,hoi]at e2;cases e2;rw[hci]at e3;exact absurd e3 (by decide)
  have htd:t≠d:=fun z=>by
   obtain⟨od,es,ep,ho,hex,hdd,_⟩:=hd;rw[z,ho]at e2;cases e2;rw[hdd]at e4;cases e4
  have e2':h1.get? t=some o:=(hs1.2 t hti).trans e2;have hd1:h1.DictOf knd d kvs:=by
   obtain⟨o,es,ep,ho,r⟩:=hd;exact⟨o,es,ep,(hs1.2 d hdi).trans ho,r⟩
  show wpAny _ A.in1 (holding [.ref t] _ >>= _) _ _ _;refine wpAny_bind (wpAny_holding ?_);refine wpAny_bind (wpAny_tryCatch ?_);unfold Builtin.Dict.pairItems;refine wpAny_bind (wpAny_typeOf (T:="tuple") ⟨o,e2',e3⟩ ?_);rw[if_pos (by decide)];refine wpAny_bind (wpAny_seqItems e2' e4 ?_);refine wpAny_pure ?_;show wpAny _ A.in1 (holding [key,(ps[i]'(by lia)).2] (dictSet d key (ps[i]'(by lia)).2)) _ _ _;refine wpAny_holding (wpAny_dictSet_pairs e5 hd1 (fun h2 hd2 hs2=>?_) (by rw[qHr];lia));refine wpAny_pure ⟨plainId_quiet zC4 _,?_⟩;have hit2:h2.IsListIter it l (i+1):=hit1.at fun o e=>(hs2.2 it hdi.symm).trans e
  have hl2:h2.IsList l items:=hl.at fun o e=>(hs2.2 l hdl.symm).trans ((hs1.2 l hli).trans e)
  have kp:∀b o,b≠d->b≠it->s.heap.get? b=some o->h2.get? b=some o:=fun b o hb hb2 e=>(hs2.2 b hb).trans ((hs1.2 b hb2).trans e)
  refine ih (i+1) _ (stored kvs (ps[i]'(by lia)).1 (ps[i]'(by lia)).2) (by lia) hlt ?_ hd2 hit2 hl2 (fun j v p h1 h2=>?_) fun h' tk hd' hk he=>?_
  ·have:=stored_length_le kvs (ps[i]'(by lia)).1 (ps[i]'(by lia)).2
   lia
  ·obtain⟨t',o',m',key',f1,f2,f3,f4,f5⟩:=hp j v p h1 h2;refine⟨t',o',m',key',f1,kp _ _ (fun z=>?_) (fun z=>?_) f2,f3,f4,f5⟩
   ·obtain⟨od,es,ep,ho,hex,hdd,_⟩:=hd;rw[z,ho]at f2;cases f2;rw[hdd]at f4;cases f4
   ·rw[z,hoi]at f2;cases f2;rw[hci]at f3;exact absurd f3 (by decide)
  ·refine hR h' tk ?_ (fun b o hb hb2 e=>hk b o hb hb2 (kp b o hb hb2 e)) he;rw[qBy (show i<ps.length by lia)];exact hd'
theorem zRV{E:Value->qH6->Prop}{s:qH6}{Q:Value->qH6->Prop}(hh:A.handled=none){d l:Addr}(hdl:d≠l){kvs:List (K×Value)}{items:Array Value}(ps:List (K×Value))(hps:ps.length=items.size)(hz:kvs.length+items.size<=100000)
  (hd:s.heap.DictOf knd d kvs) {o:Obj} {n:Nat} (ho:s.heap.get? l=some o) (hc:o.cls=.type "list") (hod:o.dict=none) (hdat:o.data=.seq items n)
  (hp:∀(j:Nat) v p,items[j]?=some v->ps[j]?=some p->zRP knd s.heap v p)
  (hQ:∀h' tk,h'.DictOf knd d (ps.foldl (fun m p=>stored m p.1 p.2) kvs)->(∀b o,b≠d->s.heap.get? b=some o->h'.get? b=some o)->(∃o,h'.get? d=some o)->Q .none { s with heap:=h',toks:=tk }) :
  wpAny (model prog w) A (call (.builtin "dict.update") [.ref d,.ref l]) Q E s:=by
 refine wpAny_call (codeAny_call_builtin qKa.plain F.entry_dict_update (qKa.check _ _ _ _ _ _ _ _ hd.typeIs (F.args_dict_update_2 _ _) ?_));unfold qK8.«dict.update»;refine wpAny_bind ?_;unfold Builtin.Dict.selfAndRest;refine wpAny_bind (wpAny_notOrdered_dict hd.typeIs ?_);show wpAny _ _ (pure (d,[qHa l])) _ _ s;refine wpAny_pure ?_;show wpAny _ A.in1 (qJe "dict.update" d (.ref l) [] .none) _ _ s;unfold qJe;refine wpAny_bind (wpAny_typeOf (T:="list") ⟨o,ho,hc⟩ ?_);rw[if_pos (by decide)];refine wpAny_bind (zKP ho hc hdat hod hh fun h1 tk1 hk1=>?_);show wpAny _ A.in1 (rule _ >>= fun _=>pyIter (.ref l) >>= _) _ _ _;refine wpAny_bind (wpAny_rule ?_);have hl1:h1.IsList l items:=⟨o,hk1 _ _ ho,hc,n,hdat⟩
 refine wpAny_bind (wpAny_pyIter_list hl1 ?_);have hd1:h1.DictOf knd d kvs:=by
  obtain⟨o,es,ep,ho,r⟩:=hd;exact⟨o,es,ep,hk1 _ _ ho,r⟩
 have hdl1:d<h1.objs.size:=by
  obtain⟨o,es,ep,ho,r⟩:=hd1;exact qH8 ho
 have hll1:l<h1.objs.size:=qH8 (hk1 _ _ ho);refine wpAny_pure ⟨plainId_quiet zC4 _,?_⟩;refine zRU (knd:=knd) (l:=l) (it:=h1.objs.size) (items:=items) hh hdl (qAo hdl1) (qAo hll1) ps hps .none items.size 0 _ kvs rfl (qAk _) hz ?_ ⟨_,qHf _ rfl,rfl,rfl⟩ (hl1.at fun o e=>qH7 _ e) (fun j v p a1 a2=>?_) fun h' tk hd' hk he=>?_
 ·obtain⟨o,es,ep,ho,r⟩:=hd1;exact⟨o,es,ep,qH7 _ ho,r⟩
 ·obtain⟨t',o',m',key',f1,f2,f3⟩:=hp j v p a1 a2;exact⟨t',o',m',key',f1,qH7 _ (hk1 _ _ f2),f3⟩
 ·exact hQ h' tk hd' (fun b o hb e=>hk b o hb (qAo (qH8 (hk1 _ _ e))) (qH7 _ (hk1 _ _ e))) he
end
end PySem
namespace L2
open PySem PySem.Spec PyProof.Rows
section
variable{X:Cx}
noncomputable def tMD(r:V->List V->Hp->VK->Prop)(to:TE)(t:TA):TE:=fun σ H Q=>to σ H fun x H1=>match x with
 |.ref p=>(∃kvs,H1 p=some (.dK kvs))/\t σ H1 fun vs H2=>r x vs H2 Q
 |_=>False
variable{o e:Expr}{es:List Expr}{to:TE}{t:TA}{name:Str}{apos cpos:Pos}{T id:String}{r:V->List V->Hp->VK->Prop}
theorem zaE(pa:PlainAttrs "dict")(slot:Slot "dict" name id)(hty:typeOf (.builtin id)=pure (.type "method_descriptor"))(hm:MtR X id r)(ho:PE X o to)(ha:PA X (e::es) t)
  (hbase:qIm o name X.env (eval o X.env)=eval o X.env:=by rfl)
  (hfew:((backTo cpos (starEach (e::es) X.env)).all (fun x=>!x.1)&&(backToKw cpos (keywordEach [] X.env)).all (fun x=>x.1.isSome)
   && decide ((e::es).length+([]:List qKc).length+(if([]:List qKc).isEmpty then 0 else 1)<30))=true:=by rfl)
  (hline:(apos.endLine==cpos.line)=true:=by rfl) (hs:starEach (e::es) X.env=(false,eval e X.env)::starEach es X.env:=by rfl) (hplain:(backTo cpos (starEach es X.env)).any (·.1)=false:=by rfl) :
  PE X (.Call (.Attribute o name apos) (e::es) [] cpos) (tMD r to t):=by
 intro pins s σ H Q I h;refine qJj hbase hfew hline rfl (thn (ho pins s σ H _ I h) fun v s1 z0=>?_);obtain⟨x,H1,I1,r1,q1⟩:=z0;cases x with
 |ref p=>?_
 |_=>exact qA8 q1
 obtain⟨⟨kvs,hx⟩,q1⟩:=q1;cases r1;obtain⟨h1,h2,_⟩:=zU9 I1 (.inl ⟨kvs,.inl hx⟩);refine⟨"dict",id,pa,slot,hty,h1,h2,?_⟩;have hA:=ha cpos pins s1 σ H1 _ I1 q1;rw[hs]at hA ⊢;refine qId (by show(false||(backTo cpos (starEach es X.env)).any (·.1))=false;rw[hplain]<;>rfl) (qIk ?_);exact thn hA fun us s2 ⟨vs,H2,I2,r2,q2⟩=>hm pins s2 σ H2 (.ref p) vs _ us Q I2 rfl r2 q2
def zWZ(H:Hp)(x:V)(p:Key×V):Prop:=∃t,x=.ref t/\H t=some (.tup [kV p.1,p.2])
def updM:V->List V->Hp->VK->Prop:=fun x vs H Q=>match x,vs with
 |.ref d,[.ref l]=>∃(kvs:List (Key×V))(xs:List V)(ps:List (Key×V)),H d=some (.dK kvs)/\H l=some (.lst xs)/\xs.length=ps.length/\(∀(j:Nat) x p,xs[j]?=some x->ps[j]?=some p->zWZ H x p)/\kvs.length+ps.length<=50000 /\
   Q .non (upd H d (.dK (ps.foldl (fun m p=>putK m p.1 p.2) kvs)))
 |_,_=>False
theorem zQB:∀{ps:List (Key×V)}{qs:List (Key×Value)}{kvs:List (Key×V)}{vs:List (Key×Value)},KV kvs vs->qIx (fun(p:Key×V)(q:Key×Value)=>p.1=q.1/\RelV p.2 q.2) ps qs->KV (ps.foldl (fun m p=>putK m p.1 p.2) kvs) (qs.foldl (fun m p=>stored m p.1 p.2) vs)
 |_,_,_,_,r,.nil=>r
 |p::ps,q::qs,kvs,vs,r,.cons ⟨e,rp⟩ t=>by
  simp only[qEb];rw[<- e];exact zQB (r.put p.1 rp) t
theorem zVJ(kvs:List (Key×V)):∀ps:List (Key×V),(ps.foldl (fun m p=>putK m p.1 p.2) kvs).length<=kvs.length+ps.length:=by
 intro ps
 induction ps generalizing kvs with
 |nil=>exact qA6 _
 |cons p r ih=>
  have h1:=ih (putK kvs p.1 p.2);have h2:=zDP kvs p.1 p.2;simp only[qEb,qBj]
  lia
theorem zN5{pins:List (Addr×Obj)}{σ:List (Option V)}{H:Hp}{s:qH6}(I:Inv X pins σ H s):∀{xs:List V}{us:List Value}{ps:List (Key×V)},Vals xs us->xs.length=ps.length->(∀(j:Nat) x p,xs[j]?=some x->ps[j]?=some p->zWZ H x p) ->
  ∃qs:List (Key×Value),qIx (fun(p:Key×V)(q:Key×Value)=>p.1=q.1/\RelV p.2 q.2) ps qs/\qs.length=us.length/\∀(j:Nat) u q,us[j]?=some u->qs[j]?=some q->zRP (zD0 X.prog X.w) s.heap u q
 |_,_,[],.nil,_,_=>⟨[],.nil,rfl,fun j u q h=>by simp at h⟩
 |x::xs,u::us,p::ps,.cons r t,hl,h=>by
  obtain⟨qs,h1,h2,h3⟩:=zN5 I (ps:=ps) t (by simpa using hl) fun j x p a b=>h (j+1) x p (by simpa using a) (by simpa using b)
  obtain⟨a,rfl,ha⟩:=h 0 x p rfl rfl;cases r;obtain⟨its,rv,pl,_⟩:=I.tuple (SqT.of ha);obtain⟨key,val,rfl,rk,rval⟩:=zUW rv;obtain⟨o,ho,hc,n,hd⟩:=pl;refine⟨(p.1,val)::qs,.cons ⟨rfl,rval⟩ h1,by simp[h2],fun j u q a1 a2=>?_⟩;cases j with
  |zero=>
   simp at a1 a2;subst a1 a2;exact⟨a,o,n,key,rfl,ho,hc,hd,zQD rk⟩
  |succ j=>exact h3 j u q (by simpa using a1) (by simpa using a2)
 |[],[],_::_,.nil,hl,_=>by simp at hl
 |_::_,_::_,[],.cons _ _,hl,_=>by simp at hl
theorem zTC{pins:List (Addr×Obj)}{σ:List (Option V)}{H:Hp}{s:qH6}{a:Addr}{h':Heap}{t':Nat}{ob:HO}(I:Inv X pins σ H s)(mu:Mut (H a))(hs:∀b o,b≠a->s.heap.get? b=some o->h'.get? b=some o)(he:∃q,h'.get? a=some q)(new:ObjOk X.prog X.w (upd H a ob) h' a ob) :
  Inv X pins σ (upd H a ob) { s with heap:=h',toks:=t' }:=I.write (x:=a) (e:=a) mu (.inl rfl) hs he new
theorem zW1(hc:X.calm=true):MtR X "dict.update" updM:=by
 intro pins s σ H x vs v us Q I rx rv h;cases x with
 |ref d=>
  cases vs with
  |nil=>exact qA8 h
  |cons hd1 tl1=>
   cases hd1 with
   |ref l=>
    cases tl1 with
    |nil=>
     obtain⟨kvs,xs,ps,hd,hl,hlen,hp,hz,q⟩:=h;cases rx;obtain⟨u,rfl,ru⟩:=zK1 rv;cases ru;obtain⟨z,hds,ws,rel,dd⟩:=zZF I.hok hd;obtain⟨z2,its,n,r,_,e⟩:=I.lstM hl;have hil:=r.length;have hdl:d≠l:=fun z=>by rw[z,hl]at hd;cases hd
     obtain⟨qs,h1,h2,h3⟩:=zN5 I r hlen hp;have hpq:=qIl h1;have hrl:=rel.length;refine zRV (knd:=zD0 X.prog X.w) (I.ok.hd hc) hdl qs (by simp[h2]) (by simp;lia) dd e rfl rfl rfl (fun j v p a1 a2=>h3 j v p (by simpa using a1) a2) fun h' tk hd' hk he=>?_
     have hfl:=zVJ kvs ps;exact⟨.non,_,zTC I (by rw[hd];exact qC6) hk he (zUJ (by rw[qHr];lia) hds (zQB rel h1) hd'),rfl,q⟩
    |cons _ _=>exact qA8 h
   |_=>exact qA8 h
 |_=>exact qA8 h
end
section
variable{X:Cx}{e m1:Expr}{te ts:TE}{pos p2:Pos}
theorem zQU{b:List Stmt}{t:TS}{R:TS->Prop}(h:Dr (PSs X b t))(r:R t):∃t,PSs X b t/\R t:=⟨t,h.h,r⟩
theorem zJM{xs es:List Expr}{x1:Nat}{p:Pos}{te:TE}{t:TA}(h1:Dr (PE X (.Tuple xs x1 p) te))(h2:Dr (PA X es t)):Dr (PA X (.Tuple xs x1 p::es) (zCV te t)):=⟨zA0 h1.h h2.h rfl⟩
end
section
variable{prog:qH9}{w:World}{A:qHb}{E:Value->qH6->Prop}{s:qH6}
end
section
variable{X:Cx}{o:Expr}{td:TE}{p apos cpos pos:Pos}
end
end L2
namespace L3
open PySem PySem.Spec
open L2 hiding Rep RepL
open Mi (Dt Xn R okR zA4 optR zA1 zAA zAE zA8 zAD Rh Sl Ro EM TM AM FM IM SM OM Tg Out zAS zAT zAV full frz frz1 frzAt)
abbrev wk(kvs:List (Sum Int Str×Mi.Sw)):List (Key×V):=kvs.map fun p=>(p.1,swV p.2)
theorem zUX(kvs:List (Sum Int Str×Mi.Sw))(k:Key):valV (wk kvs) k=(Mi.getW kvs k).map swV:=by
 unfold valV Mi.getW wk
 induction kvs with
 |nil=>rfl
 |cons p r ih=>
  simp only[qAn,qBr]
  by_cases h:p.1=k
  ·simp[h]
  ·simp only[h,decide_false];exact ih
theorem zY9(kvs:List (Sum Int Str×Mi.Sw))(k:Key)(u:Mi.Sw):putK (wk kvs) k (swV u)=wk (Mi.putW kvs k u):=by
 unfold putK Mi.putW wk;have e:(kvs.map fun p=>((p.1,swV p.2):Key×V)).any (fun kv=>decide (kv.1=k))=kvs.any fun p=>decide (p.1=k):=by
  rw[List.any_map];rfl
 rw[e]
 split
 ·rw[qB9,qB9];refine qBs fun p _=>?_
  by_cases h:p.1=k
  ·simp[h]
  ·simp[h]
 ·simp
theorem zY8(ps:List (Sum Int Str×Mi.Sw)):∀kvs:List (Sum Int Str×Mi.Sw),(wk ps).foldl (fun m p=>putK m p.1 p.2) (wk kvs)=wk (ps.foldl (fun m p=>Mi.putW m p.1 p.2) kvs):=by
 induction ps with
 |nil=>intro kvs;rfl
 |cons p r ih=>
  intro kvs
  show(wk r).foldl (fun m p=>putK m p.1 p.2) (putK (wk kvs) p.1 (swV p.2))=_
  rw[zY9,ih];rfl
section
variable[Kc]{mg:Str->Option Value}{E:XK}{L n k l:Nat}{te ta tb tx td:TE}{e ea eb ex ed ma:EM}{t:TA}{m:AM}
theorem ky_rep{G:Hp}{d:Dt}{v:V}{q:Sum Int Str}(h:Rep G d v)(e:Mi.kyD d=some q):v=kV q:=by
 cases d with
 |int i=>cases e;exact h
 |str x=>cases e;exact h
 |_=>cases e
theorem sw_rep{G:Hp}{d:Dt}{v:V}{u:Mi.Sw}(h:Rep G d v)(e:Mi.swD d=some u):v=swV u:=by
 cases d with
 |non=>cases e;exact h
 |bl _=>cases e;exact h
 |int i=>cases e;exact h
 |str x=>cases e;exact h
 |_=>cases e
theorem zVD{G:Hp}(u:Mi.Sw):Rep G (Mi.swT u) (swV u):=by cases u<;>rfl
theorem zWO(u:Mi.Sw):(Mi.swT u).dep=0:=by cases u<;>rfl
theorem zMC:DE mg E zTQ Mi.eDct0 1:=by
 intro G H σ ρ Q s w p a ha;have fr:Fr G H G H (fun _=>False):=⟨Ext.refl s,fun _ z=>z.elim⟩
 exact p (.ref a) G _ _ (fr.add ha (.dK [])) ⟨a,rfl,zAF,.inl rfl⟩
theorem dt_B(A:DE mg E te e k):DT mg E (L2.tB te) (Mi.tB e):=by
 intro G H σ ρ Q s w p;refine(zAM A).step errT s w p fun d v G1 H1 S _ fr o p1=>?_
 cases d with
 |bl b=>
  cases(show v=.bl b from o)
  exact⟨b,rfl,p1 H1 fr.ext.h⟩
 |_=>exact p1.elim
theorem de_din(A:DE mg E ta ea k)(B:DE mg E tb eb l):DE mg E (tDIn ta tb) (Mi.eB (Mi.dinD false) ea eb) n:=by
 intro G H σ ρ Q s w p;refine(zAM A).step errE s w p fun d v G1 H1 S _ fr o p1=>?_
 refine(zAM B).step (errE.from fr.ext) fr.ext.in' (w.mono fr.ext.g) p1 fun e u G2 H2 S2 _ fr2 o2 p2=>?_
 cases e with
 |dct kvs=>
  obtain⟨a,rfl,ha⟩:=o2;have p3:PostE mg E G H n (optR (match Mi.kyD d with|some k=>some (.bl (if false=true then !(Mi.getW kvs k).isSome else(Mi.getW kvs k).isSome))|none=>none)) Q:=p2;cases ek:Mi.kyD d with
  |none=>rw[ek]at p3;exact p3.elim
  |some q=>
   rw[ek]at p3;cases ky_rep o ek;refine⟨a,_,rfl,DGet.k (fr2.ext.in' _ _ ha),?_⟩;rw[zUX,qCg];exact PostE.val (PostE.from p3 (fr.ext.trans fr2.ext)) (Ext.refl fr2.ext.in') rfl rfl
 |_=>exact p2.elim
theorem zRA(A:DE mg E ta ea k)(B:DE mg E tb eb l):DE mg E (zLT ta tb) (Mi.eB (Mi.dinD true) ea eb) n:=by
 intro G H σ ρ Q s w p;refine(zAM A).step errE s w p fun d v G1 H1 S _ fr o p1=>?_
 refine(zAM B).step (errE.from fr.ext) fr.ext.in' (w.mono fr.ext.g) p1 fun e u G2 H2 S2 _ fr2 o2 p2=>?_
 cases e with
 |dct kvs=>
  obtain⟨a,rfl,ha⟩:=o2;have p3:PostE mg E G H n (optR (match Mi.kyD d with|some k=>some (.bl (if true=true then !(Mi.getW kvs k).isSome else(Mi.getW kvs k).isSome))|none=>none)) Q:=p2;cases ek:Mi.kyD d with
  |none=>rw[ek]at p3;exact p3.elim
  |some q=>
   rw[ek]at p3;cases ky_rep o ek;refine⟨a,_,rfl,DGet.k (fr2.ext.in' _ _ ha),?_⟩;rw[zUX,qCg];exact PostE.val (PostE.from p3 (fr.ext.trans fr2.ext)) (Ext.refl fr2.ext.in') rfl rfl
 |_=>exact p2.elim
theorem zWS(D:DE mg E td ed k)(A:DE mg E ta ea l){j:Nat}(X:DE mg E tx ex j):DE mg E (zTR td ta tx) (Mi.eDGet ed ea ex) n:=by
 intro G H σ ρ Q s w p;refine(zAM D).step errE s w p fun d v G1 H1 S _ fr o p1=>?_
 cases d with
 |dct kvs=>
  obtain⟨a,rfl,ha⟩:=o;refine⟨a,rfl,.inl ⟨_,.inl (fr.ext.in' _ _ ha)⟩,?_⟩;have p1':PostE mg E G H n (zA4 (ea ρ) fun y=>zA4 (ex ρ) fun z=>match Mi.kyD y with|some q=>if z.dep=0 then okR (match Mi.getW kvs q with|some w=>Mi.swT w|none=>z)else none|none=>none) Q:=p1;refine(zAM A).step (errE.from fr.ext) fr.ext.in' (w.mono fr.ext.g) p1' fun y u G2 H2 S2 _ fr2 o2 p2=>?_
  have x2:=fr.ext.trans fr2.ext;refine(zAM X).step (errE.from x2) fr2.ext.in' (w.mono x2.g) p2 fun z u3 G3 H3 S3 _ fr3 o3 p3=>?_
  cases ek:Mi.kyD y with
  |none=>rw[ek]at p3;exact p3.elim
  |some q=>
   rw[ek]at p3;cases ky_rep o2 ek;dsimp only at p3
   split at p3
   ·rename_i hz
    have ha3:=(x2.trans fr3.ext).in';refine⟨_,DGet.k (fr3.ext.h _ _ (fr2.ext.h _ _ (fr.ext.in' _ _ ha))),?_⟩;rw[zUX];have p4:=PostE.from p3 (x2.trans fr3.ext);cases eg:Mi.getW kvs q with
    |none=>
     rw[eg]at p4;exact PostE.val p4 (Ext.refl fr3.ext.in') hz o3
    |some u=>
     rw[eg]at p4;exact PostE.val p4 (Ext.refl fr3.ext.in') (zWO u) (zVD u)
   ·exact p3.elim
 |_=>exact p1.elim
theorem zR4(i:Nat){n1 n2:Nat}{t1 t2:TE}{e1 e2:EM}(A:DE mg E t1 e1 n1)(B:DE mg E t2 e2 n2):DS mg E L (zXQ (vM i) t1 t2) (Mi.sDput i e1 e2):=by
 intro G0 H0 S0 σ ρ G H As D a p;obtain⟨J,x,s,w⟩:=a.full;refine(zAM B).step (errS.from x) x.in' w p fun d y G1 H1 S _ fr o p1=>?_
 cases er:ρ[i]? with
 |none=>rw[er]at p1;exact p1.elim
 |some sl=>
  rw[er]at p1
  match sl,er,p1 with
  |none,_,p=>exact p.elim
  |some (.dct kvs,k+1),er,p1=>
   obtain⟨v,h1,q,rfl,hq,hs⟩:=a.at i _ _ er;unfold vM;rw[h1];have x1:Ext J H J H1:=Ext.same x.in' fr.ext.h;refine(zAM A).step (errS.from (x.trans x1)) x1.in' w p1 fun z u G2 H2 S2 _ fr2 o2 p2=>?_
   cases ek:Mi.kyD z with
   |none=>rw[ek]at p2;exact p2.elim
   |some c=>
    cases ev:Mi.swD d with
    |none=>rw[ek,ev]at p2;exact p2.elim
    |some uu=>
     rw[ek,ev]at p2;dsimp only at p2
     split at p2
     ·rename_i hz
      cases ky_rep o2 ek;cases sw_rep o ev;have sH:=fr.ext.h.trans fr2.ext.h;have a1:=a.grow sH;refine⟨q,_,rfl,DPut.k (sH _ _ hq) (by rw[qAp,qHr];lia),?_⟩;rw[zY9];exact p2 σ G _ _ (a1.store (o:=.dK (wk (Mi.putW kvs c uu))) (n:=k+1) (d:=.dct (Mi.putW kvs c uu)) (S:=As i) hs h1 ⟨q,rfl,zAF,hs⟩ fun b z=>.inl z)
     ·exact p2.elim
  |some (.dct _,0),_,p=>exact p.elim
  |some (.lst _,_),_,p=>exact p.elim
  |some (.non,_),_,p=>exact p.elim
  |some (.bl _,_),_,p=>exact p.elim
  |some (.int _,_),_,p=>exact p.elim
  |some (.str _,_),_,p=>exact p.elim
  |some (.tup _,_),_,p=>exact p.elim
  |some (.scr _,_),_,p=>exact p.elim
  |some (.exc _ _ _,_),_,p=>exact p.elim
  |some (.fn _ _,_),_,p=>exact p.elim
  |some (.dtt _ _,_),_,p=>exact p.elim
  |some (.loc _ _,_),_,p=>exact p.elim
  |some (.ins _ _,_),_,p=>exact p.elim
theorem zKF{G:Hp}:∀{ds:List Dt}{xs:List V}{ps:List (Sum Int Str×Mi.Sw)},Mi.pairsD ds=some ps->RepL G ds xs->xs.length=(wk ps).length/\∀(j:Nat) x p,xs[j]?=some x->(wk ps)[j]?=some p->zWZ G x p
 |[],xs,ps,h,r=>by
  cases h;cases r;exact⟨rfl,fun j x p h=>by simp at h⟩
 |.tup [a,b]::ds,xs,ps,h,r=>by
  unfold Mi.pairsD at h;cases ea:Mi.kyD a with
  |none=>rw[ea]at h;cases h
  |some q=>
   cases eb:Mi.swD b with
   |none=>rw[ea,eb]at h;cases h
   |some u=>
    cases er:Mi.pairsD ds with
    |none=>rw[ea,eb,er]at h;cases h
    |some ps'=>
     rw[ea,eb,er]at h;cases h;obtain⟨x,xs',rfl,hx,hr⟩:=r;obtain⟨i1,i2⟩:=zKF er hr;refine⟨by simp at i1 ⊢;exact i1,fun j y p h1 h2=>?_⟩;cases j with
     |zero=>
      simp at h1 h2;subst h1 h2;obtain⟨t,ys,rfl,ht,hy⟩:=hx;obtain⟨y1,y2,rfl,g1,g2⟩:=zXU hy;cases ky_rep g1 ea;cases sw_rep g2 eb;exact⟨t,rfl,ht⟩
     |succ j=>exact i2 j y p (by simpa using h1) (by simpa using h2)
 |.tup []::ds,_,_,h,_=>by cases h
 |.tup [_]::ds,_,_,h,_=>by cases h
 |.tup (_::_::_::_)::ds,_,_,h,_=>by cases h
 |.lst _::ds,_,_,h,_=>by cases h
 |.non::ds,_,_,h,_=>by cases h
 |.bl _::ds,_,_,h,_=>by cases h
 |.int _::ds,_,_,h,_=>by cases h
 |.str _::ds,_,_,h,_=>by cases h
 |.scr _::ds,_,_,h,_=>by cases h
 |.exc _ _ _::ds,_,_,h,_=>by cases h
 |.fn _ _::ds,_,_,h,_=>by cases h
 |.dtt _ _::ds,_,_,h,_=>by cases h
 |.loc _ _::ds,_,_,h,_=>by cases h
 |.ins _ _::ds,_,_,h,_=>by cases h
 |.dct _::ds,_,_,h,_=>by cases h
theorem zWL(i:Nat)(A:DE mg E te e n):DS mg E L (zG6 (tMD updM (vM i) (zCV te tNil))) (Mi.sDupd i e):=by
 intro G0 H0 S0 σ ρ G H As D a p;obtain⟨J,x,s,w⟩:=a.full;unfold Mi.sDupd at p
 split at p
 ·rename_i kvs k e1
  obtain⟨v,h1,q,rfl,hq,hs⟩:=a.at i _ _ e1;unfold zG6 tMD vM;rw[h1];refine⟨⟨_,hq⟩,?_⟩;refine(zAM A).step (errS.from x) x.in' w p fun d y G1 H1 S ee fr o p1=>?_
  split at p1
  ·rename_i ds
   split at p1
   ·rename_i ps ep
    split at p1
    ·rename_i hz
     obtain⟨b0,xs,rfl,hb0,rr⟩:=o;obtain⟨i1,i2⟩:=zKF ep rr;have a1:=a.grow fr.ext.h;refine⟨wk kvs,xs,wk ps,fr.ext.h _ _ hq,fr.ext.in' _ _ hb0,i1,fun j x p g1 g2=>?_,by simpa using hz,?_⟩
     ·obtain⟨t,e1,e2⟩:=i2 j x p g1 g2;exact⟨t,e1,fr.ext.in' _ _ e2⟩
     ·rw[zY8];exact p1 σ G _ _ (a1.store (o:=.dK (wk (ps.foldl (fun m p=>Mi.putW m p.1 p.2) kvs))) (n:=k+1) (d:=.dct (ps.foldl (fun m p=>Mi.putW m p.1 p.2) kvs)) (S:=As i) hs h1 ⟨q,rfl,zAF,hs⟩ fun b z=>.inl z)
    ·exact p1.elim
   ·exact p1.elim
  ·exact p1.elim
 ·exact p.elim
end
end L3
namespace Mi
open PySem
noncomputable section
def sRetIx(L i:Nat)(e:EM):SM:=fun ρ=>match ρ[i]? with
 |some (some (.lst ds,k+1))=>zA4 (e (full ρ)) fun z=>match z with
  |.int z=>match itA ds z with
   |some d=>if k=L then okR (.rt d)else none
   |none=>none
  |_=>none
 |_=>none
end
end Mi
namespace L3
open PySem PySem.Spec PyProof.Rows
open L2 hiding Rep RepL
open Mi (Dt R Rh EM TM SM AM IM Xn Sl Ro Out okR zA4 optR full frz frzAt)
section
variable[Kc]{mg:Str->Option Value}{E:XK}{n L:Nat}{te ta tb:TE}{e:EM}{m m':SM}
theorem zT5{tA:TT}{c:TM}(C:DT mg E tA c)(A:DS mg E L (tRet ta) m)(B:DS mg E L (tRet tb) m'):DS mg E L (tRet (tIf tA ta tb)) (Mi.sIf c m m'):=zDG C A B
theorem zNN(i:Nat)(A:DE mg E te e 0):DS mg E L (tRet (tOp (rIxU Kc.K) (vM i) te)) (Mi.sRetIx L i e):=by
 intro G0 H0 S0 σ ρ G H As D a p;obtain⟨J,x,s,w⟩:=a.full;unfold Mi.sRetIx at p;cases e1:ρ[i]? with
 |none=>rw[e1]at p;exact p.elim
 |some o=>
  rw[e1]at p
  match o,e1,p with
  |none,_,p=>exact p.elim
  |some (.lst ds,k+1),e1,p=>
   obtain⟨v,h1,q,xs,T,rfl,hq,kd⟩:=a.at i _ _ e1;show tOp (rIxU Kc.K) (vM i) te σ H D.rt;unfold tOp vM;rw[h1];refine A.step (errS.from x) x.in' w p fun d y G1 H1 S _ fr o p1=>?_
   cases d with
   |int z=>
    cases(show y=.int z from o)
    dsimp only at p1;cases er:Mi.itA ds z with
    |none=>rw[er]at p1;exact p1.elim
    |some c=>
     rw[er]at p1;dsimp only at p1
     by_cases hk:k=L
     ·rw[if_pos hk]at p1;subst hk;rw[zQI]at er;unfold atI at er;cases ej:ixN ds.length z with
      |none=>rw[ej]at er;cases er
      |some j=>
       rw[ej]at er;have h':ds[j]?=some c:=er;have hj:j<xs.length:=by rw[kd.len];exact(qA2.mp h').1
       have hx:xs[j]?=some xs[j]:=qA4 hj;refine⟨xs,xs[j],.inl (SqL.of (fr.ext.h _ _ hq)),?_,p1 _ G H1 (T j) ⟨a.ext.trans (Ext.same a.ext.in' fr.ext.h),fun b hb=>?_⟩ ((kd.own j c _ h' hx).mono (Same.refl _) fr.ext.h)⟩
       ·unfold atI;rw[kd.len,ej];exact hx
       ·obtain⟨n1,n2,n3⟩:=a.new i b (kd.sub j b hb);exact⟨n1,n2,fr.ext.h.some n3⟩
     ·rw[if_neg hk]at p1;exact p1.elim
   |_=>exact p1.elim
  |some (.lst _,0),_,p=>exact p.elim
  |some (.non,_),_,p=>exact p.elim
  |some (.bl _,_),_,p=>exact p.elim
  |some (.int _,_),_,p=>exact p.elim
  |some (.str _,_),_,p=>exact p.elim
  |some (.tup _,_),_,p=>exact p.elim
  |some (.scr _,_),_,p=>exact p.elim
  |some (.exc _ _ _,_),_,p=>exact p.elim
  |some (.fn _ _,_),_,p=>exact p.elim
  |some (.dtt _ _,_),_,p=>exact p.elim
  |some (.loc _ _,_),_,p=>exact p.elim
  |some (.ins _ _,_),_,p=>exact p.elim
  |some (.dct _,_),_,p=>exact p.elim
end
end L3
namespace L2
open PySem
theorem uw1{P:List Value->Prop}(h:∀a,P [a]):∀us:List Value,us.length=1->P us
 |[a],_=>h a
theorem uw2{P:List Value->Prop}(h:∀a b,P [a,b]):∀us:List Value,us.length=2->P us
 |a::us,hl=>uw1 (P:=fun us=>P (a::us)) (h a) us (qEh hl)
theorem uw3{P:List Value->Prop}(h:∀a b c,P [a,b,c]):∀us:List Value,us.length=3->P us
 |a::us,hl=>uw2 (P:=fun us=>P (a::us)) (h a) us (qEh hl)
theorem uw4{P:List Value->Prop}(h:∀a b c d,P [a,b,c,d]):∀us:List Value,us.length=4->P us
 |a::us,hl=>uw3 (P:=fun us=>P (a::us)) (h a) us (qEh hl)
theorem uw5{P:List Value->Prop}(h:∀a b c d e,P [a,b,c,d,e]):∀us:List Value,us.length=5->P us
 |a::us,hl=>uw4 (P:=fun us=>P (a::us)) (h a) us (qEh hl)
theorem oi{p q:Prop}(h:p\/q:=by first|exact qGu rfl|exact qFt rfl):p\/q:=h
end L2
namespace L3
open PySem PySem.Spec
open L2 hiding Rep RepL
open Mi (Dt Xn R okR zA4 optR zA1 zAA zAE zA8 zAD Rh Sl Ro EM TM AM FM IM SM Tg Out zAS zAT zAV full frz frz1 frzAt)
section
variable[Kc]
theorem Own.keep{G H H':Hp}:∀{n:Nat}{S:Addr->Prop}{d:Dt}{v:V},Own G H n S d v->(∀b o,S b->H b=some o->H' b=some o)->Own G H' n S d v
 |0,S,d,v,h,_=>h
 |n+1,S,d,v,h,hp=>by
  cases d with
  |lst ds=>obtain⟨a,xs,T,e,ha,k⟩:=h;exact⟨a,xs,T,e,hp _ _ k.top ha,k.imp (fun q _ _ _ w=>Own.keep w fun b o z=>hp b o (k.sub q _ z)) fun _ z=>z⟩
  |tup ds=>obtain⟨a,xs,T,e,ha,k⟩:=h;exact⟨a,xs,T,e,hp _ _ k.top ha,k.imp (fun q _ _ _ w=>Own.keep w fun b o z=>hp b o (k.sub q _ z)) fun _ z=>z⟩
  |dct kvs=>obtain⟨a,e,ha,hs⟩:=h;exact⟨a,e,hp _ _ hs ha,hs⟩
  |dtt ks ds=>obtain⟨a,T0,e0,xs,T,e,ha,hl,ht,k⟩:=h;exact⟨a,T0,e0,xs,T,e,hp _ _ k.top ha,hl,ht,k.imp (fun q _ _ _ w=>Own.keep w fun b o z=>hp b o (k.sub q _ z)) fun _ z=>z⟩
  |loc a d=>exact⟨h.1,Own.keep h.2 hp⟩
  |_=>exact h
section
variable{G0 H0 S0:Hp}{σ:St}{ρ:Ro}{G H:Hp}{As:Nat->Addr->Prop}
end
variable{mg:Str->Option Value}{E:XK}{L n k l:Nat}{te ta tb:TE}{e ea eb ma:EM}{t:TA}{m:AM}
end
section
variable[Kc]
section
variable{G H:Hp}{cl:Addr}{co:Obj}
mutual
theorem Rep.del(hc:G cl=some (cel co)):∀{d:Dt}{v:V},d.dep<=40->Rep G d v->Rep (del G cl) d v
 |.non,_,_,h=>h
 |.bl _,_,_,h=>h
 |.int _,_,_,h=>h
 |.str _,_,_,h=>h
 |.lst ds,_,hd,h=>by
  obtain⟨a,xs,e,e',r⟩:=h;exact⟨a,xs,e,(zUK (zO8 e' hc (by simp))).trans e',RepL.del hc (by rw[Dt.dep]at hd;lia) r⟩
 |.tup ds,_,hd,h=>by
  obtain⟨a,xs,e,e',r⟩:=h;exact⟨a,xs,e,(zUK (zO8 e' hc (by simp))).trans e',RepL.del hc (by rw[Dt.dep]at hd;lia) r⟩
 |.scr _,_,h,_=>by rw[Dt.dep]at h;lia
 |.exc _ _ _,_,h,_=>by rw[Dt.dep]at h;lia
 |.ins _ _,_,h,_=>by rw[Dt.dep]at h;lia
 |.dct _,_,h,_=>by rw[Dt.dep]at h;lia
 |.fn _ _,_,h,_=>by rw[Dt.dep]at h;lia
 |.dtt _ _,_,h,_=>by rw[Dt.dep]at h;lia
 |.loc _ _,_,h,_=>by rw[Dt.dep]at h;lia
theorem RepL.del(hc:G cl=some (cel co)):∀{ds:List Dt}{xs:List V},Dt.depL ds<=40->RepL G ds xs->RepL (del G cl) ds xs
 |[],_,_,h=>h
 |d::r,_,hd,h=>by
  rw[Dt.depL]at hd;obtain⟨x,q,e,a,b⟩:=h;exact⟨x,q,e,Rep.del hc (by lia) a,RepL.del hc (by lia) b⟩
end
end
variable{mg:Str->Option Value}{E:XK}{n:Nat}
end
end L3
namespace L3
open PySem PyProof.Rows
open L2 hiding Rep RepL
theorem fsc{N P:List Str}{sc:Scope}(a:sc.kind=.function:=by rfl)(b:sc.isCoroutine=false:=by rfl)(c:sc.isGenerator=false:=by rfl)(d:N.Nodup:=by decide +kernel)(e:N.take P.length=P:=by rfl)
  (f:∀x∈P,sc.names.lookup x=some .local\/sc.names.lookup x=some .cell:=by decide +kernel) (g:∀y∈sc.names,y.2≠.free:=by decide +kernel):FnScope N P sc:=⟨a,b,c,d,e,f,g⟩
section
variable{P:qH9}{w:World}{K:qA1}{mg:Str->Option Value}{base:Heap}{x:Str}{st:Stmt}{N ps:List Str}{k:Nat}{sp:Sp}
theorem dfM{L n:Nat}{m:Mi.SM}(D:Def K mg x st)(S:FnScope N ps (zA9 st))
  (hb:∀(kV doc pm:Value)(an:Option Addr)(cdv ct:Value)(us:List Value),us.length=ps.length->qJc (qAz x x (zBS st) (zB1 st) (zA9 st) .none kV doc pm an cdv ct) ⟨us,[]⟩=pure (ps.zip us))
  (hbody:∀{f:Addr}{cdv:Value}{A:qHb}{outer:List Env}{s:qH6}{H:Hp}{vs:List V}{Q:VK}{E:XK},Room k (A.deeper (envOfC x (zA9 st) s.heap.objs.size f cdv))->(A.deeper (envOfC x (zA9 st) s.heap.objs.size f cdv)).units+64<cLine->sp0 K mg L (Mi.runF ps.length n m) vs H Q E ->
   ∃t,PSs (cxOf CX0 P w K mg base N x (zA9 st) f cdv A outer s H E).nox (zB1 st) t/\t { nx:=fun _ H'=>Q .non H',rt:=Q } (start N vs) H):Has P w K mg base x (k+1) ps (sp0 K mg L (Mi.runF ps.length n m)):=
 D.ok S hb (fun _ _ _ _ h=>@zIN ⟨K⟩ _ _ _ _ _ _ _ _ _ h) fun _ _ _ _ _ _ _ _ _ hr h=>hbody hr hr.units h
theorem dfX{L n:Nat}{m:Mi.SM}(D:Def K mg x st)(S:FnScope N ps (zA9 st))
  (hb:∀(kV doc pm:Value)(an:Option Addr)(cdv ct:Value)(us:List Value),us.length=ps.length->qJc (qAz x x (zBS st) (zB1 st) (zA9 st) .none kV doc pm an cdv ct) ⟨us,[]⟩=pure (ps.zip us))
  (hbody:∀{f:Addr}{cdv:Value}{A:qHb}{outer:List Env}{s:qH6}{H:Hp}{vs:List V}{Q:VK}{E:XK},Room k (A.deeper (envOfC x (zA9 st) s.heap.objs.size f cdv))->(A.deeper (envOfC x (zA9 st) s.heap.objs.size f cdv)).units+64<cLine->spE K mg L (Mi.runF ps.length n m) vs H Q E ->
   ∃t,PSs (cxOf (CXe P w) P w K mg base N x (zA9 st) f cdv A outer s H E) (zB1 st) t/\t { nx:=fun _ H'=>Q .non H',rt:=Q } (start N vs) H):HasX P w K mg base x (k+1) ps (spE K mg L (Mi.runF ps.length n m)):=
 D.okX S hb (fun _ _ _ _ h=>@zIN ⟨K⟩ _ _ _ _ _ _ _ _ _ h) fun _ _ _ _ _ _ _ _ _ hr h=>hbody hr hr.units h
theorem mkD{K:qA1}{h:Heap}{mg:Str->Option Value}{nm:Str}{st:Stmt}{f:Addr}{oc kV dc pm cd ct:Value}{od an:Option Addr}{sl:Array (Option Value)}(X:K.In h)(G:h.Ns qHc mg)(a:qBe K qHc nm=some (some (.ref f)))(l:K.lookup f=some ⟨oc,od,.func (qAz nm nm (zBS st) (zB1 st) (zA9 st) .none kV dc pm an cd ct),sl⟩)(c:qBo K cd nm=true)(k:qAv K (.ref f)=true):Def K mg nm st:=⟨f,_,zQR (st:=st) l c k,qBv X G a⟩
end
section
variable{X:Cx}{pos:Pos}
theorem pgn(i:Nat){x:Str}(hN:decide X.N.Nodup=true:=by kernel_rfl)(hi:X.N[i]?=some x:=by rfl)(hx:Loc X.env.scope x:=by exact oi)(hf:X.fn x=true\/X.env.scope.names.lookup x=some .local:=by first|exact .inl rfl|exact .inr rfl|assumption):PG X (.Name x pos) (zGC i):=zB6 (of_decide_eq_true hN) hi hx hf
theorem pst(i:Nat){x:Str}{e:Expr}{te:TE}{pos':Pos}(hN:X.N.Nodup)(he:PE X e te)(hi:X.N[i]?=some x:=by rfl)(hx:Loc X.env.scope x:=by exact oi)(hs:qIs e (some (.Name x pos')) pos.line X.env=pure false:=by rfl)(hf:X.fn x=true\/X.env.scope.names.lookup x=some .local:=by first|exact .inl rfl|exact .inr rfl|assumption):PS X (.Assign [.Name x pos'] e pos) (tAsg te (zGC i)):=zTZ hN hi hx he hs hf
end
section
variable{P:qH9}{w:World}{K:qA1}{mg:Str->Option Value}{base:Heap}{x:Str}{st:Stmt}{N ps:List Str}{k:Nat}{sp:Sp}{T:Addr}
end
end L3
namespace L3
open PySem PySem.Spec
open L2 hiding Rep RepL
open Mi (Dt okR)
section
variable[Kc]{mg:Str->Option Value}{E:XK}{L:Nat}
end
section
variable[Kc]{n:Nat}
end
end L3
namespace L3
open PySem PySem.Spec PyProof.Rows
open L2 hiding Rep RepL
structure Tabs(K:qA1)(ts:List Addr):Prop where
 no:∀P∈ts,K.lookup P=none
 «in»:∀x∈makers,∀P,codP K x=some P->(lamK K x).isSome=true->P∈ts/\∃c,qE5 K c P=true
theorem zK2{K:qA1}{ts:List Addr}(T:Tabs K ts){P:Addr}{u:HO}(h:tabK K P=some u):P∈ts/\(∃q,u=.lam q)/\∃c,qE5 K c P=true:=by
 unfold tabK at h;cases e:makers.find? fun x=>codP K x==some P&&(lamK K x).isSome with
 |none=>rw[e]at h;cases h
 |some x=>
  rw[e]at h;cases h;have h1:=List.mem_of_find?_eq_some e;have h2:=qG0 e;simp only[qBi,beq_iff_eq]at h2;obtain⟨a,b⟩:=T.in x h1 P h2.1 h2.2;exact⟨a,⟨_,rfl⟩,b⟩
theorem zQA{P:qH9}{w:World}{K:qA1}{mg mb:Str->Option Value}{CX:CXT}{k:Nat}{fa a:Addr}{fd:qHo}{x:Str}{sp:Sp}{s₁:qH6}{vs:List Value}{ns:List Int}{ts:List Addr}
  (KX:K.In s₁.heap) (hT:∀P∈ts,s₁.heap.get? P=some (qEr #[])) (T:Tabs K ts) (hns:s₁.heap.Ns qHc mg) (hb:s₁.heap.Ns qIn mb) (hbb:∀x:Str,x≠"__name__"->mb x=qHy x) (hlim:s₁.heap.NoLimit)
  (hbm:∃bm ob,mg "__builtins__" = some (.ref bm)/\bm≠qIn/\s₁.heap.get? bm=some ob/\ob.cls=.type "module"/\ob.dict=some qIn/\ob.data=.plain) (hg:s₁.gens=#[])
  (ha:s₁.heap.get? a=some { cls:=.type "list",data:=.seq vs.toArray }) (hi:qKd vs ns) (hl:ns.length<=sizeLine) (hr:Room k qK9)
  (F:∀base:Heap,K.In base->base.Ns qHc mg->FnOk P w K mg base CX k fa fd [x] sp) (hbind:∀(s:qH6)(u:Value),qK5 s fd ⟨[u],[]⟩ [(x,u)])
  (hsp:∀H:Hp,Same (tabK K) H->SqL K H a (ns.map V.int)->sp [.ref a] H (fun v H'=>v=.bl true/\Same (tabK K) H') fun _ _ _=>False)
  (hCX:∀H e s',CX [] H s₁ (fun _ _ _=>False) e s'->False) :
  qIj (model P w) qK9 (.call (.ref fa) ⟨[.ref a],[]⟩) (fun r s'=>r=.ok (.ret (.bool true))/\OldK s₁.heap s'.heap/\s'.os=s₁.os/\qJa s'.gens) s₁:=by
 have rv:=zK0 hi;have lenV:=hi.length;have tabO:∀{b:Addr}{u:HO},tabK K b=some u->s₁.heap.get? b=some (qEr #[]):=fun e=>hT _ (zK2 T e).1
 have core:∀H:Hp,(∀b u,H b=some u->(b=a/\∃o xs,u=.frz o (.lst xs))\/tabK K b=some u)->Same (tabK K) H->SqL K H a (ns.map V.int)->HOk P w H s₁.heap->(∀b,H b≠none->K.lookup b=none) ->
   qIj (model P w) qK9 (.call (.ref fa) ⟨[.ref a],[]⟩) (fun r s'=>r=.ok (.ret (.bool true))/\OldK s₁.heap s'.heap/\s'.os=s₁.os/\qJa s'.gens) s₁:=by
  intro H hO hTab hS hok hK;have base_of:∀{b:Addr}{o:Obj},s₁.heap.get? b=some o->H b=none->(hidT s₁.heap H).get? b=some o:=fun e n=>zSW e n
  have noA:∀{b:Addr}{o:Obj},s₁.heap.get? b=some o->(∀v,o.data≠.fields v)->(∀v n,o.data≠.seq v n)->H b=none:=fun{b o} e d1 d2=>by
   cases q:H b with
   |none=>rfl
   |some u=>
    rcases hO b u q with⟨z,_⟩|z
    ·subst z;rw[ha]at e;cases e;exact absurd rfl (d2 _ _)
    ·rw[tabO z]at e;cases e;exact absurd rfl (d1 _)
  have nsK:∀{b:Addr}{m:Str->Option Value},s₁.heap.Ns b m->(hidT s₁.heap H).Ns b m:=fun{b m} ⟨o,es,ep,e,d,r⟩=>⟨o,es,ep,base_of e (noA e (fun v z=>by rw[d]at z;cases z) fun v n z=>by rw[d]at z;cases z),d,r⟩
  have hKb:K.In (hidT s₁.heap H):=fun b o e=>base_of (KX b o e) (by
   cases q:H b with
   |none=>rfl
   |some u=>rw[hK b (by rw[q];simp)]at e;cases e)
  have hM:Mod K mg (hidT s₁.heap H):=⟨hKb,nsK hns,⟨mb,nsK hb,hbb⟩,let⟨mc,h1,h2⟩:=hlim;⟨mc,nsK h1,h2⟩,let⟨bm,ob,e1,e2,e3,e4,e5,e6⟩:=hbm;⟨bm,ob,e1,e2,base_of e3 (noA e3 (fun v z=>by rw[e6]at z;cases z) fun v n z=>by rw[e6]at z;cases z),e4,e5,e6⟩⟩
  have e0:Env0 P w K mg (hidT s₁.heap H) qK9 [] s₁ H:=⟨rfl,hM,fun b o e=>zVY e,qEg (zQL _ _),trivial,fun b hb=>absurd (show b∈([]:List Addr) from hb) (by simp),hok,.of_eq hg⟩
  refine codeAny_mono ((F _ hKb (nsK hns)).run qK9 [] s₁ H ⟨[.ref a],[]⟩ [.ref a] [.ref a] _ _ hr e0 (hbind s₁ (.ref a)) (.cons rfl .nil) (hsp H hTab hS)) fun r s' h=>?_
  cases r with
  |error e=>exact(hCX H e s' h).elim
  |ok fl=>
   cases fl with
   |next=>exact qA8 h
   |brk=>exact qA8 h
   |cont=>exact qA8 h
   |ret u=>
    obtain⟨v,H',os,bare,un,hok',r',q,qT⟩:=h;subst q;obtain rfl:u=qJ2 true:=r';refine⟨rfl,⟨fun b o e=>?_,fun b o e=>un.there b o e (by simp)⟩,os,bare⟩;cases q:H b with
    |none=>exact .inl (un.keep b o e q (by intro z;exact absurd (show b∈([]:List Addr) from z) (by simp)) (by simp))
    |some u=>
     rcases hO b u q with⟨_,ob,xs,rfl⟩|z
     ·have z2:=un.frzs b ob _ q;obtain⟨e1,_⟩:=hok b _ q;obtain⟨e2,_⟩:=hok' b _ z2;rw[e]at e1;cases e1;exact .inl e2
     ·obtain⟨hts,⟨qq,rfl⟩,c,hc⟩:=zK2 T z;obtain⟨ps,e2,_⟩:=hok' b _ (qT _ _ z);have e3:=hT b hts;rw[e3]at e;cases e;exact .inr (.inl ⟨((PySem.W.codeHd_of_K KX hc).tab e3).isCodeTable,rfl,#[],ps,rfl,by rw[e2];simp⟩)
 have tOk:∀{H:Hp}{b:Addr}{u:HO},tabK K b=some u->ObjOk P w H s₁.heap b u:=fun{H b u} z=>by
  obtain⟨hts,⟨q,rfl⟩,_⟩:=zK2 T z;exact⟨#[],hT b hts,trivial,fun pos cv y=>by simp[codeAmong]at y⟩
 have nta:tabK K a=none:=by
  cases z:tabK K a with
  |none=>rfl
  |some u=>have:=tabO z;rw[ha]at this;cases this
 cases hk:K.lookup a with
 |some o=>
  have e:=KX a o hk;rw[ha]at e;cases e;exact core (tabK K) (fun b u z=>.inr z) (Same.refl _) (.inr ⟨_,vs.toArray,_,hk,rfl,rfl,rfl,by rw[qAd,lenV];exact hl,by simpa using rv⟩) (fun b u z=>tOk z) fun b z=>by
   cases y:tabK K b with
   |none=>exact absurd y z
   |some u=>exact T.no b (zK2 T y).1
 |none=>
  refine core (upd (tabK K) a (.frz { cls:=.type "list",data:=.seq vs.toArray } (.lst (ns.map V.int)))) (fun b u z=>?_) (fun b u z=>?_) (.inl (.inr ⟨{ cls:=.type "list",data:=.seq vs.toArray },zAF⟩)) (fun b u z=>?_) fun b z=>?_
  ·by_cases hb:b=a
   ·subst hb;rw[zAF]at z;cases z;exact .inl ⟨rfl,_,_,rfl⟩
   ·rw[zAJ hb]at z;exact .inr z
  ·rw[zAJ (zAW z nta)];exact z
  ·by_cases hb:b=a
   ·subst hb;rw[zAF]at z;cases z;exact⟨ha,by rw[qAp];exact hl,vs,_,rv,ha⟩
   ·rw[zAJ hb]at z;exact tOk z
  ·by_cases hb:b=a
   ·subst hb;exact hk
   ·rw[zAJ hb]at z;cases y:tabK K b with
    |none=>exact absurd y z
    |some u=>exact T.no b (zK2 T y).1
theorem zRS{l:qDd}{n k:Nat}{q:qH9}{loose:List Str}{XP:(Str->Option Value)->Heap->Prop}{YP:World->Heap->Prop}{d:DefRec}{K:Params->qA1}{CX:World->CXT}{sp:World->Sp}{x:Str}{ts:List Addr}
  (hn:l.most=some n) (hn2:n<=sizeLine) (hdf:d.params.defaults=[]) (hr:Room k qK9)
  (hY:∀(w:World)(h:Heap),YP w h->(K w.params).In h/\∀P∈ts,h.get? P=some (qEr #[]))
  (F:∀(w:World)(mg:Str->Option Value)(fa:Addr)(h:Heap),(K w.params).In h->h.Ns qHc mg->mg d.name=some (.ref fa) ->
   Tabs (K w.params) ts/\∃fd:qHo,(∀(s:qH6)(u:Value),qK5 s fd ⟨[u],[]⟩ [(x,u)]) /\
    ∀base:Heap,(K w.params).In base->base.Ns qHc mg->FnOk l.prog w (K w.params) mg base (CX w) k fa fd [x] (sp w))
  (hsp:∀(w:World)(H:Hp)(a:Addr)(ns:List Int),ns.length<=n->(∀i∈ns,i.natAbs.log2<2 ^ 20)->Same (tabK (K w.params)) H->SqL (K w.params) H a (ns.map V.int)->sp w [.ref a] H (fun v H'=>v=.bl true/\Same (tabK (K w.params)) H') fun _ _ _=>False)
  (hCX:∀(w:World)(H:Hp)(s:qH6)(e:Value)(s':qH6),CX w [] H s (fun _ _ _=>False) e s'->False) :
  qF0 q loose XP YP l.row.toRowW d [] (fun f vs=>qFb f vs):=by
 refine Att.attach_callW hn hdf fun w s₀ s₁ mg mb fa o pm cd doc a vs ns G Y ho hd hcd hmg hobj hints hlen hw hg=>?_
 obtain⟨KX,hT⟩:=hY w _ Y;obtain⟨T,fd,hb,hF⟩:=F w mg fa _ KX G.T.g hmg;exact zQA KX hT T G.T.g G.T.b G.T.builtins G.T.nolimit G.T.bmain hg hobj hints (qAl hlen hn2) hr hF hb (fun H hO hS=>hsp w H a ns hlen hw hO hS) fun H e s'=>hCX w H s₁ e s'
end L3
namespace L3
open PySem PyProof.Rows
open L2 hiding Rep RepL
structure Mk1(K:qA1)(ts:List Addr)(x:Str)(r:Option Addr):Prop where
 cod:codP K x=r
 lam:(lamK K x).isSome=r.isSome
 hd:∀P,r=some P->P∈ts/\∃c,qE5 K c P=true
theorem mk1_none{K:qA1}{ts:List Addr}{x:Str}(a:qBe K qHc x=some none):Mk1 K ts x none:=
 ⟨by unfold codP;rw[a],by unfold lamK;rw[a];rfl,fun _ z=>by cases z⟩
structure Tb(K:qA1)(ts:List Addr)(r1 r2 r3:Option Addr):Prop where
 m1:Mk1 K ts "turned_at" r1
 m2:Mk1 K ts "exchanged_at" r2
 m3:Mk1 K ts "pivoted" r3
section
variable{K:qA1}{ts:List Addr}{r1 r2 r3:Option Addr}
theorem Tb.tabs(T:Tb K ts r1 r2 r3)(no:∀P∈ts,K.lookup P=none):Tabs K ts:=⟨no,fun x hx P h _=>by
 unfold makers at hx;simp only[qAj,qBl,or_false]at hx
 rcases hx with rfl|rfl|rfl
 ·exact T.m1.hd P (T.m1.cod.symm.trans h)
 ·exact T.m2.hd P (T.m2.cod.symm.trans h)
 ·exact T.m3.hd P (T.m3.cod.symm.trans h)⟩
end
def TbE(K:qA1)(ts:List Addr):Prop:=∃r1 r2 r3,Tb K ts r1 r2 r3
theorem walk_of0{l:qDd}{n k:Nat}{q:qH9}{loose:List Str}{XP:(Str->Option Value)->Heap->Prop}{YP:World->Heap->Prop}{d:DefRec}{K:Params->qA1}{x:Str}
  (hn:l.most=some n) (h63:n<=63) (hdf:d.params.defaults=[]) (hr:Room k qK9) (hY:∀(w:World)(h:Heap),YP w h->(K w.params).In h)
  (F:∀(w:World)(mg:Str->Option Value)(fa:Addr)(h:Heap),(K w.params).In h->h.Ns qHc mg->mg d.name=some (.ref fa) ->
   TbE (K w.params) []/\∃fd:qHo,(∀(s:qH6)(u:Value),qK5 s fd ⟨[u],[]⟩ [(x,u)]) /\
    ∀base:Heap,(K w.params).In base->base.Ns qHc mg->FnOk l.prog w (K w.params) mg base CX0 k fa fd [x] (zI0 (K w.params))) :
  qF0 q loose XP YP l.row.toRowW d [] (fun f vs=>qFb f vs):=
 zRS (K:=K) (ts:=[]) (CX:=fun _=>CX0) (sp:=fun w=>zI0 (K w.params)) hn (qAl h63 (by decide)) hdf hr (fun w h Y=>⟨hY w h Y,fun P z=>absurd z (by simp)⟩)
  (fun w mg fa h KX G hm=>let⟨⟨_,_,_,T⟩,r⟩:=F w mg fa h KX G hm;⟨T.tabs fun P z=>absurd z (by simp),r⟩)
  (fun _ _ a ns hl hw hT hS=>⟨a,ns,rfl,hT,hS,qAl hl h63,hw,fun _ z=>⟨rfl,z⟩⟩) fun _ _ _ _ _ z=>z
end L3
namespace L3
open PySem PySem.Spec
open L2 hiding Rep RepL
section
variable[Kc]{mg:Str->Option Value}{E:XK}{L:Nat}
end
end L3
namespace L3
open PySem PySem.Spec
open L2 hiding Rep RepL
open Mi (Dt EM FM okR)
end L3
namespace L3
open PySem PySem.Spec
open L2 hiding Rep RepL
open Mi (Dt Xn R okR zA4 optR zA1 zAA zAE zA8 zAD Rh Sl Ro EM TM AM FM IM SM Tg Out full frz frz1 frzAt)
section
variable[Kc]{mg:Str->Option Value}{E:XK}{L:Nat}{tA tB:TT}{A B:TM}
end
end L3
namespace Mi
open PySem
noncomputable def lamF(n:Nat)(e:EM):FM:=fun ds=>if ds.length=n then e (ds.map some)else none
end Mi
noncomputable section
namespace Mi
end Mi
end
namespace L2
open PySem PySem.Spec PyProof.Rows
section
variable{X:Cx}
end
end L2
namespace L3
open PySem PySem.Spec
open L2 hiding Rep RepL
open Mi (Dt Xn R okR zA4 optR zA1 zAA zAE zA8 zAD Rh Sl Ro EM TM AM FM IM SM OM Tg Out zAS zAT zAV full frz frz1 frzAt)
section
variable[Kc]{mg:Str->Option Value}{E:XK}{n k:Nat}{te:TE}{e:EM}
end
end L3
noncomputable section
namespace Mi
end Mi
end
namespace Mi
open PySem
noncomputable section
end
noncomputable section
end
end Mi
namespace L2
open PySem PySem.Spec PyProof.Rows
section
variable{prog:qH9}{w:World}{A:qHb}{E:Value->qH6->Prop}{s:qH6}
end
section
variable{P:qH9}{w:World}{K:qA1}{tg:Expr}
variable{X:Cx}
end
def zXO(td ty tv:TE):TS:=fun D σ H=>tv σ H fun v H1=>td σ H1 fun x H2=>ty σ H2 fun y H3=>∃a T e0 kvs k b,x=.ref a/\H3 a=some (.dT T e0 kvs)/\y=.ref b/\TupK H3 b k/\kvs.length<sizeLine /\
 ∀e1,D.nx σ (upd H3 a (.dT (fun c=>T c\/c=b) e1 (putK kvs k v)))
section
variable{X:Cx}{pins:List (Addr×Obj)}{σ:St}{H:Hp}{s:qH6}{a b:Addr}{v:V}{r:Value}{A:qHb}{E:Value->qH6->Prop}
theorem zP5{T:Addr->Prop}{e0:Nat}{kvs:List (List KeyN×V)}{k:List KeyN}{Q:Unit->qH6->Prop}(hu:A.units+1<cLine)(I:Inv X pins σ H s)(e:H a=some (.dT T e0 kvs))(eb:TupK H b k)(l:kvs.length<sizeLine)(rv:RelV v r)
  (h:∀e1 s',Inv X pins σ (upd H a (.dT (fun c=>T c\/c=b) e1 (putK kvs k v))) s'->Q () s'):wpAny (model X.prog X.w) A (setItem (.ref a) (.ref b) r) Q E s:=by
 obtain⟨z,hd,xs,rel,dd⟩:=zZB I.hok e;have hz:xs.length<=sizeLine:=by rw[<- qIl rel];exact z
 have hl:(putK kvs k v).length<=sizeLine:=by have:=zDP kvs k v;omega
 refine wpAny_setItem_heap (hsz:=hz) (tupleKind_room_in1 hu) (zI8 I.hok eb) dd fun h' dd' hs=>?_
 obtain⟨q,es,ep,hq,h2,h3,h4,_,h5⟩:=dd';refine h ep _ (zMD I (by rw[e];exact qC6) hs ⟨q,hq⟩ ⟨hl,hd,_,(rel.put k eb rv).keeps fun c ys ec=>?_,q,es,ep,hq,h2,h3,h4,h5,rfl⟩);rw[zAJ (zO8 ec e (fun z=>nomatch z))];exact ec
theorem zVL{X:Cx}{o i value:Expr}{td ty tv:TE}{pos pos':Pos}(hu:X.A.units+1<cLine)(ho:PE X o td)(hi:PE X i ty)(hv:PE X value tv)(hs:qIs value (some (.Subscript o i pos')) pos.line X.env=pure false) :
  PS X (.Assign [.Subscript o i pos'] value pos) (zXO td ty tv):=by
 intro pins s σ H D I h;refine qJi (thn (hv pins s σ H _ I h) fun r s1 ⟨v,H1,I1,rv,q1⟩=>thn (ho pins s1 σ H1 _ I1 q1) fun u s2 ⟨x,H2,I2,rx,q2⟩=>thn (hi pins s2 σ H2 _ I2 q2) fun iv s3 z0=>?_) hs;obtain⟨y,H3,I3,ry,a,T,e0,kvs,k,b,ex,hq,ey,eb,hl,q3⟩:=z0;subst ex ey
 cases(show u=qHa a from rx)
 cases(show iv=qHa b from ry)
 exact zP5 hu I3 hq eb hl rv fun e1 s4 I4=>⟨σ,_,I4,q3 e1⟩
def zTP(tk tv:TE):TE:=fun σ H Q=>∀p,H p=none->tk σ (upd H p (.dT (fun _=>False) 0 [])) fun x H1=>tv σ H1 fun y H2=>∃b k,x=.ref b/\TupK H2 b k/\H2 p=some (.dT (fun _=>False) 0 []) /\
 ∀e1,Q (.ref p) (upd H2 p (.dT (fun c=>False\/c=b) e1 (putK [] k y)))
theorem zSG{X:Cx}{pos:Pos}{k v:Expr}{tk tv:TE}(hu:X.A.units+1<cLine)(hk:PE X k tk)(hv:PE X v tv):PE X (.Dict [some k] [v] pos) (zTP tk tv):=by
 intro pins s σ H Q I q;have hn:=I.hok.fresh (qA6 s.heap.objs.size);have I1:=I.laid (a:=s.heap.objs.size) (o:=.dT (fun _=>False) 0 []) (h':=s.heap.push { cls:=.type "dict",data:=.dict #[] }) (t':=s.toks) (fun _ _ q=>qH7 _ q) (qA6 _) (zT3 s.heap I.big);have hp:PPs X pos [some k] [v] [(tk,tv)]:=zSB hk hv zVN;have q1:zP7 [(tk,tv)] σ (upd H s.heap.objs.size (.dT (fun _=>False) 0 [])) (fun ps H2=>match ps with
   |[(x,y)]=>∃b k,x=.ref b/\TupK H2 b k/\H2 s.heap.objs.size=some (.dT (fun _=>False) 0 []) /\
    ∀e1,Q (.ref s.heap.objs.size) (upd H2 s.heap.objs.size (.dT (fun c=>False\/c=b) e1 (putK [] k y)))
   |_=>False):=q _ hn
 unfold eval;refine wpAny_bind (wpAny_standAt ?_);have e:(evalEachOpt [some k] X.env).zip (qH0 (fun v=>do let x <- v;qKq pos;pure x) (evalEach [v] X.env))=qH0 (fun p=>(some p.1,p.2)) (pairTrees [some k] [v] X.env pos):=rfl;rw[e,dictDisplay_pairs _ (by intro z;cases z) (by exact(by decide:(1:Nat)<17))];refine wpAny_bind ?_;unfold subDict;refine wpAny_bind (wpAny_alloc ?_);refine wpAny_bind (wpAny_holding ?_);rw[if_pos (by exact(by decide:(1:Nat)<=15))];refine wpAny_bind (thn (hp pins _ σ _ _ I1 q1) fun vs s2 z0=>?_);obtain⟨ps,H2,I2,rel,q2⟩:=z0;cases rel with
 |nil=>exact q2.elim
 |@cons a u as us h t=>
  cases t with
  |cons _ _=>exact q2.elim
  |nil=>
   obtain⟨x,y⟩:=a;obtain⟨u1,u2⟩:=u;obtain⟨b,kk,rfl,eb,e2,q3⟩:=q2;obtain⟨r1,r2⟩:=h
   cases(show u1=qHa b from r1)
   refine wpAny_holding ?_;obtain⟨z,hd,xs,rel,dd⟩:=zZB I2.hok e2;cases rel;rw[qFu];refine wpAny_bind (wpAny_bind (wpAny_bind (wpAny_dictSet_heap (knd:=tupleKind (mixN X.prog X.w)) (show X.A.units<cLine by omega) (zI8 I2.hok eb) dd (fun h' dd' hs=>?_) (qAk _))));obtain⟨qo,es,ep,hq,h2,h3,h4,_,h5⟩:=dd';refine wpAny_pure ?_;show wpAny _ _ (forIn [] _ _) _ _ _;rw[qGe];refine wpAny_pure (wpAny_pure (wpAny_pure (wpAny_pure ⟨.ref s.heap.objs.size,_,zMD (ob:=.dT (fun c=>False\/c=b) ep (putK [] kk y)) I2 (by rw[e2];exact qC6) hs ⟨qo,hq⟩ ⟨?_,hd,_,(KT.put (T:=fun _=>False) .nil kk eb r2).keeps fun c ys ec=>?_,qo,es,ep,hq,h2,h3,h4,h5,rfl⟩,rfl,q3 ep⟩)))
   ·have:=zDP ([]:List (List KeyN×V)) kk y;rw[qHr];simp at this ⊢;omega
   ·rw[zAJ (zO8 ec e2 (fun z=>nomatch z))];exact ec
end
section
variable{prog:qH9}{w:World}{A:qHb}{E:Value->qH6->Prop}{s:qH6}
end
section
variable{X:Cx}{pins:List (Addr×Obj)}{σ:List (Option V)}{H:Hp}{s:qH6}
end
end L2
namespace Mi
open PySem
noncomputable section
noncomputable def kNo:Sw->Option (Sum Int Str)
 |.non=>none
 |.bl b=>some (.inl (if b then 1 else 0))
 |.int i=>some (.inl i)
 |.str x=>some (.inr x)
abbrev kNs(k:List Sw):List (Option (Sum Int Str)):=k.map kNo
def swsD:List Dt->Option (List Sw)
 |[]=>some []
 |d::r=>match swD d,swsD r with
  |some a,some q=>some (a::q)
  |_,_=>none
def kyU:Dt->Option (List Sw)
 |.tup ds=>swsD ds
 |_=>none
noncomputable def posT(ks:List (List Sw))(k:List Sw):Option Nat:=ks.findIdx? fun q=>decide (kNs q=kNs k)
def getT(ks:List (List Sw))(ds:List Dt)(k:List Sw):Option Dt:=match posT ks k with
 |some j=>ds[j]?
 |none=>none
noncomputable def noB1:Sw->Bool
 |.bl _=>false
 |_=>true
def noBs(ks:List (List Sw)):Bool:=ks.all fun k=>k.all noB1
def fitT(ks:List (List Sw))(k:List Sw):Bool:=(posT ks k).isNone || !noBs ks||k.all noB1
def putKs(ks:List (List Sw))(k:List Sw):List (List Sw):=match posT ks k with
 |some _=>ks
 |none=>ks++[k]
def putDs(ks:List (List Sw))(ds:List Dt)(k:List Sw)(v:Dt):List Dt:=match posT ks k with
 |some j=>ds.set j v
 |none=>ds++[v]
def eTOne(k v:EM):EM:=fun ρ=>zA4 (k ρ) fun y=>zA4 (v ρ) fun z=>match kyU y with
 |some q=>okR (.dtt [q] [z])
 |none=>none
def dinT(ng:Bool)(x y:Dt):Option Dt:=match y with
 |.dtt ks _=>match kyU x with
  |some k=>some (.bl (if ng=true then !(posT ks k).isSome else(posT ks k).isSome))
  |none=>none
 |_=>none
def eTGet(d k x:EM):EM:=fun ρ=>zA4 (d ρ) fun D=>match D with
 |.dtt ks ds=>zA4 (k ρ) fun y=>zA4 (x ρ) fun z=>match kyU y with
  |some q=>okR (match getT ks ds q with|some w=>w|none=>z)
  |none=>none
 |_=>none
def eTIx(d k:EM):EM:=fun ρ=>zA4 (d ρ) fun D=>match D with
 |.dtt ks ds=>zA4 (k ρ) fun y=>match kyU y with
  |some q=>optR (getT ks ds q)
  |none=>none
 |_=>none
def putGo(i n:Nat)(e1:EM)(ρ:Ro)(ρ':Rh)(v:Dt):R Ro:=match ρ[i]? with
 |some (some (.dtt ks ds,k+1))=>zA4 (e1 ρ') fun y=>match kyU y with
  |some q=>@ite _ (v.dep<=n/\v.dep<=k/\ks.length<=100000/\fitT ks q=true) (qA3 _) (okR (ρ.set i (some (.dtt (putKs ks q) (putDs ks ds q v),k+1)))) none
  |none=>none
 |_=>none
def sRetTIx(L i:Nat)(e:EM):SM:=fun ρ=>match ρ[i]? with
 |some (some (.dtt ks ds,k+1))=>zA4 (e (full ρ)) fun y=>match kyU y with
  |some q=>match getT ks ds q with
   |some d=>if k=L then okR (.rt d)else none
   |none=>none
  |none=>none
 |_=>none
noncomputable def tupD:List Dt->Option Dt
 |[.lst xs]=>some (.tup xs)
 |_=>none
end
noncomputable section
def eVL(i:Nat):EM:=fun ρ=>match ρ[i]? with
 |some (some (.loc _ d))=>okR d
 |_=>none
inductive OutM where
 |nx (ρ:Ro)|rt (ρ:Ro) (d:Dt)|rv (ρ:Ro) (i:Nat)
abbrev SMM:=Ro->R OutM
def mLift(s:SM):SMM:=fun ρ=>zA4 (s ρ) fun o=>match o with
 |.nx ρ'=>okR (.nx ρ')
 |_=>none
def mSeq(a b:SMM):SMM:=fun ρ=>zA4 (a ρ) fun o=>match o with
 |.nx ρ'=>b ρ'
 |o=>okR o
def mRetV(i:Nat):SMM:=fun ρ=>match ρ[i]? with
 |some (some _)=>okR (.rv ρ i)
 |_=>none
noncomputable def heldAt(i0 k a:Nat)(ρ:Ro):Option Dt:=match ρ[i0]? with
 |some (some (.loc b d,l))=>if b=a/\l=k+1 then some d else none
 |_=>none
def endM(L i0 k a:Nat):OutM->R (Dt×Dt)
 |.nx ρ=>optR ((heldAt i0 k a ρ).map fun d0=>(.non,d0))
 |.rt ρ d=>optR ((heldAt i0 k a ρ).map fun d0=>(d,d0))
 |.rv ρ i=>match ρ[i]? with
  |some (some (d,l))=>if l=L/\i≠i0 then optR ((heldAt i0 k a ρ).map fun d0=>(d,d0))else none
  |_=>none
def startM(N i0 k a:Nat)(ds:List Dt):Ro:=match ds[i0]? with
 |some d0=>(startO N ds).set i0 (some (.loc a d0,k+1))
 |none=>[]
def runM(L P N i0 k:Nat)(m:SMM)(a:Nat)(ds:List Dt):R (Dt×Dt):=if ds.length=P/\i0<P then zA4 (m (startM N i0 k a ds)) (endM L i0 k a)else none
abbrev FW:=List Dt->R (Dt×Dt)
noncomputable def uniM(f:Nat->FW):FW:=fun ds=>@ite _ (∀a,f a ds=f 0 ds) (qA3 _) (f 0 ds) none
theorem zV0{f:Nat->FW}{ds:List Dt}{r:R (Dt×Dt)}(h:∀a,f a ds=r):uniM f ds=r:=by
 unfold uniM;rw[if_pos fun a=>(h a).trans (h 0).symm];exact h 0
noncomputable def zZ5:Dt->Bool
 |.lst _=>true
 |.dtt _ _=>true
 |_=>false
def sCallW2(j i k L:Nat)(vs:List Nat)(e e':EM)(f:FW):SM:=fun ρ=>match(frzAt vs ρ)[i]? with
 |some (some (d0,l))=>if l=k/\i≠j/\zZ5 d0=true then zA4 (e (frz (frzAt vs ρ))) fun c=>zA4 (e' (frz (frzAt vs ρ))) fun c'=>zA4 (f [c,c',d0]) fun r=>okR (.nx (((frzAt vs ρ).set i (some (r.2,k))).set j (some (r.1,L))))else none
 |_=>none
end
end Mi
namespace Mp
open Mi PySem
end Mp
namespace L3
open PySem PySem.Spec
open L2 hiding Rep RepL
open Mi (Dt Xn R okR zA4 optR zA1 zAA zAE zA8 zAD Rh Sl Ro EM TM AM FM IM SM OM Tg Out zAS zAT zAV full frz frz1 frzAt)
section
variable[Kc]{mg:Str->Option Value}{E:XK}{n k:Nat}{te:TE}{e:EM}
end
section
variable[Kc]{mg:Str->Option Value}{E:XK}{L n k:Nat}{te:TE}{e:EM}{t:TS}{m:SM}
end
end L3
namespace Mp
end Mp
namespace L2
open PySem PySem.Spec PyProof.Rows
def zXY(K:qA1):List V->Hp->VK->Prop:=fun xs H Q=>∃p ys,xs=[.ref p]/\((SqL K H p ys/\∀l,H l=none->Q (.ref l) (upd H l (.tup ys)))\/(SqT K H p ys/\Q (.ref p) H))
theorem zI9{X:Cx}{K:qA1}(hK:X.K=K:=by rfl):zDZ X (.type "tuple") (zXY K):=hK▸zJP
end L2
namespace L3
open PySem PySem.Spec
open L2 hiding Rep RepL
open Mi (Dt Xn R okR zA4 optR zA1 zAA zAE zA8 zAD Rh Sl Ro EM TM AM FM IM SM OM Tg Out zAS zAT zAV full frz frz1 frzAt)
theorem zJC(k:List Mi.Sw):k.map kNw=Mi.kNs k:=qBs fun w _=>by cases w<;>rfl
theorem zQ6:noBw=Mi.noB1:=by funext w;cases w<;>rfl
theorem zYQ(ks:List (List Mi.Sw)):noBk ks=Mi.noBs ks:=by unfold noBk Mi.noBs;rw[zQ6]
theorem zW0(k:List Mi.Sw):k.all noBw=k.all Mi.noB1:=by rw[zQ6]
theorem zP9[Kc]{G:Hp}:∀{ds:List Dt}{xs:List V}{q:List Mi.Sw},RepL G ds xs->Mi.swsD ds=some q->xs=q.map swV
 |[],_,q,h,e=>by cases e;exact h
 |d::ds,_,q,h,e=>by
  obtain⟨x,r,rfl,h1,h2⟩:=h;unfold Mi.swsD at e;cases e1:Mi.swD d with
  |none=>rw[e1]at e;cases e
  |some a=>
   cases e2:Mi.swsD ds with
   |none=>rw[e1,e2]at e;cases e
   |some b=>
    rw[e1,e2]at e;cases e;rw[zP9 h2 e2]
    have:x=swV a:=by
     cases d with
     |non=>cases e1;exact h1
     |bl _=>cases e1;exact h1
     |int _=>cases e1;exact h1
     |str _=>cases e1;exact h1
     |_=>cases e1
    rw[this];rfl
theorem zaM(q:List Mi.Sw):KsOf (q.map swV) (q.map kNw):=by
 induction q with
 |nil=>exact .nil
 |cons w r ih=>exact .cons (by cases w<;>rfl) ih
theorem zQ4{q:List Mi.Sw}(h:q.all noBw=true):∀y∈q.map swV,isBl y=false:=by
 intro y hy;obtain⟨w,hw,rfl⟩:=qB6.mp hy
 have:=qD2.mp h w hw
 cases w<;>first|rfl|cases this
theorem zFQ{ks:List (List Mi.Sw)}{k:List Mi.Sw}{j:Nat}(h:Mi.posT ks k=some j):∃q,ks[j]?=some q/\Mi.kNs q=Mi.kNs k:=by
 unfold Mi.posT at h;obtain⟨h1,h2,_⟩:=List.findIdx?_eq_some_iff_getElem.mp h;exact⟨ks[j],qA4 h1,by simpa using h2⟩
theorem zKD{ks:List (List Mi.Sw)}{k:List Mi.Sw}(h:Mi.posT ks k=none):∀q∈ks,Mi.kNs q≠Mi.kNs k:=by
 unfold Mi.posT at h;intro q hq
 have:=List.findIdx?_eq_none_iff.mp h q hq
 simpa using this
theorem zP0(k:List Mi.Sw):∀(ks:List (List Mi.Sw))(xs:List V),ks.length=xs.length->valV (kzip ks xs) (k.map kNw)=(Mi.posT ks k).bind fun j=>xs[j]?
 |[],[],_=>rfl
 |[],_::_,h=>by simp at h
 |_::_,[],h=>by simp at h
 |q::ks,x::xs,h=>by
  have ih:=zP0 k ks xs (by simpa using h);unfold valV kzip at ih ⊢;unfold Mi.posT at ih ⊢;simp only[qAn,List.zip_cons_cons,qBr,qF1];rw[zJC q,zJC k]
  by_cases e:Mi.kNs q=Mi.kNs k
  ·simp[e]
  ·simp only[e,decide_false];rw[zJC k]at ih;rw[ih];cases List.findIdx? (fun q=>decide (Mi.kNs q=Mi.kNs k)) ks<;>simp
section
variable[Kc]{mg:Str->Option Value}{E:XK}{L n k l:Nat}{te ta tb tx td tk tv:TE}{e ea eb ex ed mk mv:EM}{t:TA}{m:AM}
theorem zI6{G:Hp}{d:Dt}{v:V}{q:List Mi.Sw}(h:Rep G d v)(e:Mi.kyU d=some q):∃b,v=.ref b/\G b=some (.tup (q.map swV)):=by
 cases d with
 |tup ds=>
  obtain⟨a,xs,rfl,ha,r⟩:=h;exact⟨a,rfl,by rw[ha,zP9 r e]⟩
 |_=>cases e
theorem zG5{H:Hp}{b:Addr}{q:List Mi.Sw}(h:H b=some (.tup (q.map swV))):TupK H b (q.map kNw):=⟨_,h,zaM q⟩
theorem zWP(K:DE mg E tk mk k)(V:DE mg E tv mv n):DE mg E (zTP tk tv) (Mi.eTOne mk mv) (n+1):=by
 intro G H σ ρ Q s w p pa hp;have sn:=L2.same_new hp (.dT (fun _=>False) 0 []);have x0:Ext G H G _:=Ext.same s sn;refine(zAM K).step (errE.from x0) x0.in' w p fun d u G1 H1 S _ fr o p1=>?_
 refine V.step ((errE.from x0).from fr.ext) fr.ext.in' (w.mono fr.ext.g) p1 fun z v2 G2 H2 S2 _ fr2 o2 p2=>?_
 cases ek:Mi.kyU d with
 |none=>rw[ek]at p2;exact p2.elim
 |some q=>
  rw[ek]at p2;obtain⟨b,rfl,hb⟩:=zI6 (Rep.mono fr2.ext.g o) ek;have x2:=x0.trans (fr.ext.trans fr2.ext);have hpa:H2 pa=some (.dT (fun _=>False) 0 []):=fr2.ext.h _ _ (fr.ext.h _ _ zAF);have gpa:G2 pa=none:=by
   rw[(fr.ext.trans fr2.ext).old pa (by rw[zAF];simp)];exact s.free hp
  have nS2:¬S2 pa:=fun z=>by
   have:=(fr2.new pa z).1
   rw[fr.ext.h _ _ zAF]at this;cases this
  refine⟨b,q.map kNw,rfl,zG5 (fr2.ext.in' _ _ hb),hpa,fun e1=>?_⟩;refine p2 (.ref pa) G2 _ (fun a=>a=pa\/S2 a) ⟨⟨x2.g,fun c o hc=>?_,fun c o hc=>?_,x2.old⟩,fun a ha=>?_⟩ ⟨pa,_,e1,[v2],fun r c=>r=0/\S2 c,rfl,zAF,rfl,⟨by simp,fun c hc=>?_⟩,⟨rfl,fun r d' x' h1 h2=>?_,.inl rfl,fun r z=>nS2 z.2,fun r r' c z1 z2=>by rw[z1.1,z2.1],fun r c z=>.inr z.2⟩⟩
  ·have:c≠pa:=fun z=>by rw[z,hp]at hc;cases hc
   rw[zAJ this];exact x2.h _ _ hc
  ·have:c≠pa:=fun z=>by rw[z,gpa]at hc;cases hc
   rw[zAJ this];exact x2.in' _ _ hc
  ·rcases ha with rfl|ha
   ·exact⟨hp,gpa,by rw[zAF];simp⟩
   ·obtain⟨n1,n2,n3⟩:=fr2.new a ha;refine⟨(sn.trans fr.ext.h).free n1,n2,?_⟩
    by_cases z:a=pa
    ·subst z;rw[zAF];simp
    ·rw[zAJ z];exact n3
  ·rcases hc with hc|rfl
   ·exact hc.elim
   ·exact⟨_,hb,fun hn=>zQ4 (by simpa[noBk]using hn)⟩
  ·cases r with
   |zero=>
    simp at h1 h2;subst h1 h2;exact(o2.upd nS2).sub fun c hc=>⟨rfl,hc⟩
   |succ r=>simp at h1
theorem de_tin(A:DE mg E ta ea k)(B:DE mg E tb eb l):DE mg E (tDIn ta tb) (Mi.eB (Mi.dinT false) ea eb) n:=by
 intro G H σ ρ Q s w p;refine(zAM A).step errE s w p fun d v G1 H1 S _ fr o p1=>?_
 refine(zAM B).step (errE.from fr.ext) fr.ext.in' (w.mono fr.ext.g) p1 fun e u G2 H2 S2 _ fr2 o2 p2=>?_
 cases e with
 |dtt ks ds=>
  obtain⟨a,T,e0,xs,rfl,ha,hl,ht,r⟩:=o2;have p3:PostE mg E G H n (optR (match Mi.kyU d with|some k=>some (.bl (if false=true then !(Mi.posT ks k).isSome else(Mi.posT ks k).isSome))|none=>none)) Q:=p2;cases ek:Mi.kyU d with
  |none=>rw[ek]at p3;exact p3.elim
  |some q=>
   rw[ek]at p3;obtain⟨b,rfl,hb⟩:=zI6 (Rep.mono fr2.ext.g o) ek;refine⟨a,_,rfl,DGet.t (fr2.ext.in' _ _ ha) (zG5 (fr2.ext.in' _ _ hb)),?_⟩;have hx:ks.length=xs.length:=by rw[r.length];exact hl
   have e:(valV (kzip ks xs) (q.map kNw)).isSome=(Mi.posT ks q).isSome:=by
    rw[zP0 q ks xs hx];cases ej:Mi.posT ks q with
    |none=>rfl
    |some j=>
     obtain⟨q',h1,_⟩:=zFQ ej;have hj:j<xs.length:=by rw[<- hx];exact(qA2.mp h1).1
     show(xs[j]?).isSome=true
     rw[qA4 hj];rfl
   rw[e];exact PostE.val (PostE.from p3 (fr.ext.trans fr2.ext)) (Ext.refl fr2.ext.in') rfl rfl
 |_=>exact p2.elim
theorem zR9(A:DE mg E ta ea k)(B:DE mg E tb eb l):DE mg E (zLT ta tb) (Mi.eB (Mi.dinT true) ea eb) n:=by
 intro G H σ ρ Q s w p;refine(zAM A).step errE s w p fun d v G1 H1 S _ fr o p1=>?_
 refine(zAM B).step (errE.from fr.ext) fr.ext.in' (w.mono fr.ext.g) p1 fun e u G2 H2 S2 _ fr2 o2 p2=>?_
 cases e with
 |dtt ks ds=>
  obtain⟨a,T,e0,xs,rfl,ha,hl,ht,r⟩:=o2;have p3:PostE mg E G H n (optR (match Mi.kyU d with|some k=>some (.bl (if true=true then !(Mi.posT ks k).isSome else(Mi.posT ks k).isSome))|none=>none)) Q:=p2;cases ek:Mi.kyU d with
  |none=>rw[ek]at p3;exact p3.elim
  |some q=>
   rw[ek]at p3;obtain⟨b,rfl,hb⟩:=zI6 (Rep.mono fr2.ext.g o) ek;refine⟨a,_,rfl,DGet.t (fr2.ext.in' _ _ ha) (zG5 (fr2.ext.in' _ _ hb)),?_⟩;have hx:ks.length=xs.length:=by rw[r.length];exact hl
   have e:(valV (kzip ks xs) (q.map kNw)).isSome=(Mi.posT ks q).isSome:=by
    rw[zP0 q ks xs hx];cases ej:Mi.posT ks q with
    |none=>rfl
    |some j=>
     obtain⟨q',h1,_⟩:=zFQ ej;have hj:j<xs.length:=by rw[<- hx];exact(qA2.mp h1).1
     show(xs[j]?).isSome=true
     rw[qA4 hj];rfl
   rw[e];exact PostE.val (PostE.from p3 (fr.ext.trans fr2.ext)) (Ext.refl fr2.ext.in') rfl rfl
 |_=>exact p2.elim
theorem zWF{G:Hp}{ks:List (List Mi.Sw)}{ds:List Dt}{xs:List V}{q:List Mi.Sw}(hl:ks.length=ds.length)(r:RepL G ds xs) :
  (Mi.getT ks ds q=none->valV (kzip ks xs) (q.map kNw)=none)/\∀d,Mi.getT ks ds q=some d->∃x,valV (kzip ks xs) (q.map kNw)=some x/\Rep G d x:=by
 have hx:ks.length=xs.length:=by rw[r.length];exact hl
 rw[zP0 q ks xs hx];unfold Mi.getT;cases ej:Mi.posT ks q with
 |none=>exact⟨fun _=>rfl,fun d z=>nomatch z⟩
 |some j=>
  obtain⟨q',h1,_⟩:=zFQ ej;have hj:j<ks.length:=(qA2.mp h1).1;have e1:ds[j]?=some (ds[j]'(by omega)):=qA4 _;have e2:xs[j]?=some (xs[j]'(by omega)):=qA4 _;refine⟨fun z=>?_,fun d z=>⟨_,e2,zCH r z e2⟩⟩;have z':ds[j]?=none:=z;rw[e1]at z';cases z'
theorem zZH(D:DE mg E td ed k)(A:DE mg E ta ea l):DE mg E (zP8 td ta) (Mi.eTIx ed ea) 0:=by
 intro G H σ ρ Q s w p;refine(zAM D).step errE s w p fun d v G1 H1 S _ fr o p1=>?_
 cases d with
 |dtt ks ds=>
  obtain⟨a,T,e0,xs,rfl,ha,hl,ht,r⟩:=o;have p1':PostE mg E G H 0 (zA4 (ea ρ) fun y=>match Mi.kyU y with|some q=>optR (Mi.getT ks ds q)|none=>none) Q:=p1;refine(zAM A).step (errE.from fr.ext) fr.ext.in' (w.mono fr.ext.g) p1' fun y u G2 H2 S2 _ fr2 o2 p2=>?_
  cases ek:Mi.kyU y with
  |none=>rw[ek]at p2;exact p2.elim
  |some q=>
   rw[ek]at p2;obtain⟨b,rfl,hb⟩:=zI6 o2 ek;cases eg:Mi.getT ks ds q with
   |none=>dsimp only at p2;rw[eg]at p2;exact p2.elim
   |some c=>
    dsimp only at p2;rw[eg]at p2;obtain⟨x,h1,h2⟩:=(zWF hl r).2 c eg;refine⟨a,x,rfl,?_,PostE.kept (PostE.from p2 (fr.ext.trans fr2.ext)) (Ext.refl fr2.ext.in') (Rep.mono fr2.ext.g h2)⟩;rw[<- h1];exact DGet.t (fr2.ext.h _ _ (fr.ext.in' _ _ ha)) (zG5 (fr2.ext.in' _ _ hb))
 |_=>exact p1.elim
theorem zIH:CBi (zXY Kc.K) Mi.tupD 1:=by
 intro mg E G H ds vs Q s h p;cases ds with
 |nil=>exact p.elim
 |cons a0 r0=>
  cases r0 with
  |cons _ _=>cases a0<;>exact p.elim
  |nil=>
   cases a0 with
   |lst es=>
    obtain⟨x,rfl,a,xs,rfl,ha,ra⟩:=zGO h;refine⟨a,xs,rfl,.inl ⟨SqL.of (s _ _ ha),fun l hl=>?_⟩⟩;have fr:Fr G H G H (fun _=>False):=⟨Ext.refl s,fun _ z=>z.elim⟩
    exact p (.ref l) G _ _ (fr.add hl (.tup xs)) ⟨l,xs,fun _ _=>False,rfl,zAF,⟨ra.length,fun q d y h1 h2=>zCH ra h1 h2,.inl rfl,fun _ z=>z,fun _ _ _ z=>z.elim,fun _ _ z=>z.elim⟩⟩
   |_=>exact p.elim
end
theorem zS8{ks:List (List Mi.Sw)}{xs:List V}{k:List Mi.Sw}{y:V}(hl:ks.length=xs.length)(h:Mi.posT ks k=none):putK (kzip ks xs) (k.map kNw) y=kzip (ks++[k]) (xs++[y]):=by
 unfold putK;have e:((kzip ks xs).any fun kv=>decide (kv.1=k.map kNw))=false:=by
  rw[qF5]
  rintro⟨a,b⟩ hm hd
  have ha:=(qCa hm).1;obtain⟨q,hq,rfl⟩:=qB6.mp ha
  have:=zKD h q hq
  rw[<- zJC,<- zJC]at this;exact this (by simpa using hd)
 rw[e,if_neg (by simp)];unfold kzip;rw[qBc,List.zip_append (by simpa using hl)];rfl
theorem zS7{ks:List (List Mi.Sw)}{xs:List V}{k:List Mi.Sw}{y:V}{j:Nat}(hl:ks.length=xs.length)(hn:(ks.map fun k=>k.map kNw).Nodup)(h:Mi.posT ks k=some j):putK (kzip ks xs) (k.map kNw) y=kzip ks (xs.set j y):=by
 obtain⟨q,hq,hk⟩:=zFQ h;rw[<- zJC,<- zJC]at hk;have hj:j<ks.length:=(qA2.mp hq).1;have hqj:ks[j]=q:=(qA2.mp hq).2;unfold putK;have e:((kzip ks xs).any fun kv=>decide (kv.1=k.map kNw))=true:=by
  rw[qD3];refine⟨((ks.map fun k=>k.map kNw)[j]'(by simpa using hj),xs[j]'(by omega)),?_,?_⟩
  ·unfold kzip;rw[List.mem_iff_getElem];exact⟨j,by simp;omega,by simp⟩
  ·simp[hqj,hk]
 rw[e,if_pos rfl];unfold kzip
 apply qFk
 ·simp
 ·intro i h1 h2;have hi:i<ks.length:=by simp at h1;omega
  simp only[qFl,List.getElem_zip]
  by_cases hij:i=j
  ·subst hij;rw[if_pos (by rw[hqj];exact hk)];simp
  ·have hne:¬(ks[i].map kNw=k.map kNw):=fun z=>by
    have z2:(ks.map fun k=>k.map kNw)[i]'(by simpa using hi)=(ks.map fun k=>k.map kNw)[j]'(by simpa using hj):=by
     simp only[qFl];rw[z,hqj,hk]
    exact hij ((qFe hn).mp z2)
   rw[if_neg hne];rw[List.getElem_set_ne (fun z=>hij z.symm)]
theorem zPA:∀{es:List Dt}{c:List Mi.Sw},Mi.swsD es=some c->Dt.depL es=0
 |[],_,_=>rfl
 |d::es,c,ek=>by
  unfold Mi.swsD at ek;cases g1:Mi.swD d with
  |none=>rw[g1]at ek;cases ek
  |some a1=>
   cases g2:Mi.swsD es with
   |none=>rw[g1,g2]at ek;cases ek
   |some b1=>
    rw[Dt.depL,zPA g2];cases d<;>first|rfl|cases g1
section
variable[Kc]{mg:Str->Option Value}{E:XK}{L n k l:Nat}{te ta tb tx td t1 t2:TE}{e ea eb ex ed e1 e2:EM}{u:TS}{m m':SM}
theorem Kids.snoc{G H:Hp}{S:Addr->Prop}{a p:Addr}{ds:List Dt}{xs:List V}{T:Nat->Addr->Prop}{S':Addr->Prop}{d:Dt}{v:V}{o:HO}(kd:Kids (Own G H n) S a ds xs T)(w:Own G (upd H p o) n S' d v)(hp:∀r,¬T r p)(ha:¬S' a)
  (hd:∀r b,T r b->S' b->False):Kids (Own G (upd H p o) n) (fun b=>S b\/S' b) a (ds++[d]) (xs++[v]) (fun r b=>(r<ds.length/\T r b)\/(r=ds.length/\S' b)):=by
 refine⟨by simp[kd.len],fun r d' z g1 g2=>?_,.inl kd.top,fun r z=>?_,fun r r' b z1 z2=>?_,fun r b z=>?_⟩
 ·by_cases hr:r<ds.length
  ·rw[qA7 hr]at g1;rw[qA7 (by rw[kd.len];exact hr)]at g2;exact((kd.own r d' z g1 g2).upd (hp r)).sub fun b z=>.inl ⟨hr,z⟩
  ·rw[qAb (by lia)]at g1;rw[qAb (by rw[kd.len];lia),kd.len]at g2;have hq0:r-ds.length=0:=by
    have:=(qA2.mp g1).1
    simp at this;lia
   rw[hq0]at g1 g2;simp at g1 g2;subst g1;subst g2;exact w.sub fun b z=>.inr ⟨by lia,z⟩
 ·rcases z with⟨_,z⟩|⟨_,z⟩
  ·exact kd.out r z
  ·exact ha z
 ·rcases z1 with⟨c1,t1⟩|⟨c1,t1⟩<;>rcases z2 with⟨c2,t2⟩|⟨c2,t2⟩
  ·exact kd.dis r r' b t1 t2
  ·exact(hd r b t1 t2).elim
  ·exact(hd r' b t2 t1).elim
  ·lia
 ·rcases z with⟨_,z⟩|⟨_,z⟩
  ·exact .inl (kd.sub r b z)
  ·exact .inr z
theorem zSQ{G G' H:Hp}{T:Addr->Prop}{ks:List (List Mi.Sw)}{q:List Mi.Sw}{b:Addr}(s:Same G G')(ht:KeyT G T ks)(hb:G' b=some (.tup (q.map swV)))(hf:Mi.fitT ks q=true):KeyT G' (fun c=>T c\/c=b) (Mi.putKs ks q):=by
 unfold Mi.putKs;cases ep:Mi.posT ks q with
 |some j=>
  dsimp only;refine⟨ht.1,fun c hc=>?_⟩
  rcases hc with hc|rfl
  ·obtain⟨ys,h1,h2⟩:=ht.2 c hc;exact⟨ys,s _ _ h1,h2⟩
  ·refine⟨_,hb,fun hn=>zQ4 ?_⟩;unfold Mi.fitT at hf;rw[ep,<- zYQ,hn]at hf;rw[zW0]
   simpa using hf
 |none=>
  dsimp only;refine⟨?_,fun c hc=>?_⟩
  ·rw[qBc,qDq];refine⟨ht.1,by simp,fun a ha b hb=>?_⟩;obtain⟨q',hq',rfl⟩:=qB6.mp ha;simp at hb;subst hb;rw[zJC,zJC];exact zKD ep q' hq'
  ·rcases hc with hc|rfl
   ·obtain⟨ys,h1,h2⟩:=ht.2 c hc;refine⟨ys,s _ _ h1,fun hn=>h2 ?_⟩;unfold noBk at hn ⊢;rw[qG1]at hn;simp at hn ⊢;exact hn.1
   ·refine⟨_,hb,fun hn=>zQ4 ?_⟩;unfold noBk at hn;rw[qG1]at hn;simp at hn ⊢;exact hn.2
theorem zR1(i:Nat)(A:DE mg E te e l):DS mg E L (tRet (zP8 (vM i) te)) (Mi.sRetTIx L i e):=by
 intro G0 H0 S0 σ ρ G H As D a p;obtain⟨J,x,s,w⟩:=a.full;unfold Mi.sRetTIx at p
 split at p
 ·rename_i ks ds k e1
  obtain⟨v,h1,q,T0,e0,xs,T,rfl,hq,hl,ht,kd⟩:=a.at i _ _ e1;show zP8 (vM i) te σ H D.rt;unfold zP8 vM;rw[h1];refine(zAM A).step (errS.from x) x.in' w p fun d y G1 H1 S _ fr o p1=>?_
  split at p1
  ·rename_i c ek
   split at p1
   ·rename_i d' eg
    by_cases hk:k=L
    ·rw[if_pos hk]at p1;subst hk;obtain⟨b,rfl,hb⟩:=zI6 o ek;have hx:ks.length=xs.length:=by rw[kd.len];exact hl
     unfold Mi.getT at eg;cases ej:Mi.posT ks c with
     |none=>rw[ej]at eg;cases eg
     |some j=>
      rw[ej]at eg;have h':ds[j]?=some d':=eg;have hj:j<xs.length:=by rw[kd.len];exact(qA2.mp h').1
      have hxj:xs[j]?=some xs[j]:=qA4 hj;refine⟨q,xs[j],rfl,?_,p1 _ G H1 (T j) ⟨a.ext.trans (Ext.same a.ext.in' fr.ext.h),fun b hb=>?_⟩ ((kd.own j d' _ h' hxj).mono (Same.refl _) fr.ext.h)⟩
      ·have e5:valV (kzip ks xs) (c.map kNw)=some xs[j]:=by
        rw[zP0 c ks xs hx,ej];exact hxj
       rw[<- e5];exact DGet.t (fr.ext.h _ _ hq) (zG5 (fr.ext.in' _ _ hb))
      ·obtain⟨n1,n2,n3⟩:=a.new i b (kd.sub j b hb);exact⟨n1,n2,fr.ext.h.some n3⟩
    ·rw[if_neg hk]at p1;exact p1.elim
   ·exact p1.elim
  ·exact p1.elim
 ·exact p.elim
end
end L3
namespace L3
open PySem PySem.Spec PyProof.Rows
open L2 hiding Rep RepL
open Mi (Dt Xn R okR zA4 optR zA1 zAA zAE zA8 zAD Rh Sl Ro EM TM AM FM IM SM OM Tg Out zAS zAT zAV full frz frz1 frzAt)
section
variable[Kc]{mg:Str->Option Value}{E:XK}{L n k l:Nat}{te ta tb:TE}{e ea eb ma:EM}{t:TA}{m:AM}
end
end L3
namespace L3
open PySem PySem.Spec
open L2 hiding Rep RepL
open Mi (Dt Xn R okR zA4 optR zA1 zAA zAE zA8 zAD Rh Sl Ro EM TM AM FM IM SM OM Tg Out zAS zAT zAV full frz frz1 frzAt OutM SMM FW)
section
variable[Kc]{mg:Str->Option Value}{E:XK}{L n k l:Nat}{te ta tb tx td t1 t2:TE}{e ea eb ex ed e1 e2:EM}{t u:TS}{m m':SMM}{s:SM}
theorem zZG(i:Nat):DE mg E (vM i) (Mi.eVL i) 0:=by
 intro G H σ ρ Q s w p;unfold Mi.eVL at p
 split at p
 ·rename_i q d e
  obtain⟨v,h1,h2⟩:=w.at i _ e;unfold vM;rw[h1];exact PostE.kept p (Ext.refl s) h2.2
 ·exact p.elim
def zaX(mg:Str->Option Value)(E:XK)(G0 H0 S0:Hp)(r:R OutM)(D:Ends):Prop:=match r with
 |none=>False
 |some (.error x)=>∀c da G' H',Ext G0 H0 G' H'->XRep mg x c da G' H'->E c da H'
 |some (.ok (.nx ρ))=>∀σ G H As,Sat G0 H0 S0 σ ρ G H As->D.nx σ H
 |some (.ok (.rt ρ d))=>∀σ v G H As,Sat G0 H0 S0 σ ρ G H As->d.dep=0->Rep G d v->D.rt v H
 |some (.ok (.rv ρ i))=>∀σ v G H As,Sat G0 H0 S0 σ ρ G H As->σ[i]?=some (some v)->D.rt v H
def DM(mg:Str->Option Value)(E:XK)(t:TS)(m:SMM):Prop:=∀(G0 H0 S0:Hp)(σ:St)(ρ:Ro)(G H:Hp)(As:Nat->Addr->Prop)(D:Ends),Sat G0 H0 S0 σ ρ G H As->zaX mg E G0 H0 S0 (m ρ) D->t D σ H
theorem zR5(A:DS mg E L t s):DM mg E t (Mi.mLift s):=by
 intro G0 H0 S0 σ ρ G H As D a p;refine A G0 H0 S0 σ ρ G H As D a ?_;unfold Mi.mLift at p;cases e:s ρ with
 |none=>rw[e]at p;exact p
 |some r=>
  rw[e]at p;cases r with
  |error x=>exact p
  |ok o=>cases o<;>first|exact p|exact p.elim
theorem zUI(A:DM mg E t m)(B:DM mg E u m'):DM mg E (tSeq t u) (Mi.mSeq m m'):=by
 intro G0 H0 S0 σ ρ G H As D a p;refine A G0 H0 S0 σ ρ G H As _ a ?_;unfold Mi.mSeq at p;cases e:m ρ with
 |none=>rw[e]at p;exact p
 |some r=>
  rw[e]at p;cases r with
  |error x=>exact p
  |ok o=>
   cases o with
   |nx ρ'=>exact fun σ' G' H' As' a'=>B G0 H0 S0 σ' ρ' G' H' As' D a' p
   |rt ρ' d=>exact p
   |rv ρ' i=>exact p
theorem zWM(i:Nat):DM mg E (tRet (vM i)) (Mi.mRetV i):=by
 intro G0 H0 S0 σ ρ G H As D a p;show vM i σ H D.rt;unfold vM;unfold Mi.mRetV at p
 split at p
 ·rename_i sl er
  obtain⟨d,n⟩:=sl;obtain⟨v,h1,_⟩:=a.at i d n er;rw[h1];exact p σ v G H As a h1
 ·exact p.elim
open Classical in
noncomputable def cutH(H:Hp)(S:Addr->Prop):Hp:=fun b=>if S b then none else H b
theorem zUM{H:Hp}{S:Addr->Prop}{b:Addr}(h:S b):cutH H S b=none:=by unfold cutH;rw[if_pos h]
theorem zGE{H:Hp}{S:Addr->Prop}{b:Addr}(h:¬S b):cutH H S b=H b:=by unfold cutH;rw[if_neg h]
theorem zTD{H:Hp}{S:Addr->Prop}{b:Addr}{o:HO}(h:cutH H S b=some o):¬S b/\H b=some o:=by
 by_cases z:S b
 ·rw[zUM z]at h;cases h
 ·rw[zGE z]at h;exact⟨z,h⟩
def zTK(mg:Str->Option Value)(E:XK)(G H0:Hp)(k L:Nat)(v0:V)(r:R (Dt×Dt))(Q:VK):Prop:=match r with
 |none=>False
 |some (.error x)=>∀c da G' H',Ext G H0 G' H'->XRep mg x c da G' H'->E c da H'
 |some (.ok (d,d0))=>∀v G' H' S0 S1,Ext G H0 G' H'->Own G' H' k S0 d0 v0->Own G' H' L S1 d v->(∀b,S0 b\/S1 b->H0 b=none/\G' b=none/\H' b≠none)->(∀b,S0 b->S1 b->False)->Q v H'
def spW(mg:Str->Option Value)(i0 k L:Nat)(f:FW):Sp:=fun vs H Q E=>∃(G:Hp)(S:Addr->Prop)(ds:List Dt)(p:Addr)(d0:Dt),Same (tabK Kc.K) G/\Same G H/\(∀b,S b->G b=none/\H b≠none)/\vs.length=ds.length /\
 (∀i d v,i≠i0->ds[i]?=some d->vs[i]?=some v->Rep G d v)/\vs[i0]?=some (.ref p)/\ds[i0]?=some d0/\Own G H k S d0 (.ref p)/\zTK mg E G (cutH H S) k L (.ref p) (f ds) Q
theorem zV7{i0 P N:Nat}{vs:List V}{H:Hp}{Q:VK}{E:XK}(h:spW mg i0 k L (Mi.uniM (Mi.runM L P N i0 k m)) vs H Q E):vs.length=P:=by
 obtain⟨G,S,ds,p,d0,_,_,_,hl,_,_,_,_,q⟩:=h;rw[hl];unfold Mi.uniM at q
 split at q
 ·unfold Mi.runM at q
  split at q
  ·rename_i h;exact h.1
  ·exact q.elim
 ·exact q.elim
theorem zM6{G0 H0 S0:Hp}{σ:St}{ρ:Ro}{G H:Hp}{As:Nat->Addr->Prop}{i0 p:Nat}{d0:Dt}(a:Sat G0 H0 S0 σ ρ G H As)(h:Mi.heldAt i0 k p ρ=some d0):Own G H k (As i0) d0 (.ref p):=by
 unfold Mi.heldAt at h
 split at h
 ·rename_i b d l e
  split at h
  ·rename_i hz
   cases h;obtain⟨rfl,rfl⟩:=hz;obtain⟨v,_,h2,h3⟩:=a.at i0 _ _ e;rw[h2]at h3;exact h3
  ·cases h
 ·cases h
theorem zVA{i0 P:Nat}{N:List Str}{vs:List V}{H:Hp}{Q:VK}(B:DM mg E t m)(h:spW mg i0 k L (Mi.uniM (Mi.runM L P N.length i0 k m)) vs H Q E):t { nx:=fun _ H'=>Q .non H',rt:=Q } (L2.start N vs) H:=by
 obtain⟨G,S,ds,p,d0,tb,sG,hS,hl,hr,hp,hd0,o0,q⟩:=h;unfold Mi.uniM at q
 split at q
 ·rename_i hu
  rw[<- hu p]at q;unfold Mi.runM at q
  split at q
  ·rename_i hP
   have e0:Mi.startM N.length i0 k p ds=(Mi.startO N.length ds).set i0 (some (.loc p d0,k+1)):=by unfold Mi.startM;rw[hd0]
   have hi0:i0<ds.length:=(qA2.mp hd0).1;have a:Sat G (cutH H S) G (L2.start N vs) (Mi.startM N.length i0 k p ds) G H (fun i b=>i=i0/\S b):=by
    rw[e0];refine⟨⟨Same.refl _,fun b o e=>(zTD e).2,sG,fun _ _=>rfl⟩,Same.refl _,tb,?_,fun i d n e=>?_,fun i j a h1 h2=>by rw[h1.1,h2.1],fun i b h=>⟨zUM h.2,hS b h.2⟩⟩
    ·unfold Mi.startO L2.start;simp[hl]
    ·by_cases hi:i0=i
     ·subst hi;rw[qA9 (by unfold Mi.startO;simp;omega)]at e;cases e;refine⟨.ref p,?_,rfl,o0.sub fun b hb=>⟨rfl,hb⟩⟩;unfold L2.start;rw[qA7 (by simp[hl];exact hi0),qAf,hp];rfl
     ·rw[qAa hi]at e;unfold Mi.startO at e
      by_cases hi2:i<ds.length
      ·rw[qA7 (by simpa using hi2),qAf]at e;cases e1:ds[i]? with
       |none=>rw[e1]at e;cases e
       |some d'=>
        rw[e1]at e;cases e;have hv:vs[i]?=some (vs[i]'(by rw[hl];exact hi2)):=by simp
        refine⟨vs[i]'(by rw[hl];exact hi2),?_,hr i _ _ (fun z=>hi z.symm) e1 hv⟩;unfold L2.start;rw[qA7 (by simpa[hl]using hi2),qAf,hv];rfl
      ·rw[qAb (by simpa using hi2),qBf]at e
       split at e<;>cases e
   refine B G (cutH H S) G _ _ G H _ _ a ?_;cases em:m (Mi.startM N.length i0 k p ds)with
   |none=>rw[em]at q;exact q
   |some r=>
    rw[em]at q;cases r with
    |error y=>exact q
    |ok o=>
     cases o with
     |nx ρ'=>
      intro σ' G' H' As' a';have q':zTK mg E G (cutH H S) k L (.ref p) (optR ((Mi.heldAt i0 k p ρ').map fun d0=>(.non,d0))) Q:=q;cases eh:Mi.heldAt i0 k p ρ' with
      |none=>rw[eh]at q';exact q'.elim
      |some d1=>
       rw[eh]at q';exact q' .non G' H' (As' i0) (fun _=>False) a'.ext (zM6 a' eh) (zPV rfl rfl) (fun b hb=>hb.elim (a'.new i0 b) fun z=>z.elim) fun _ _ z=>z
     |rt ρ' d=>
      intro σ' v G' H' As' a' hd rd;have q':zTK mg E G (cutH H S) k L (.ref p) (optR ((Mi.heldAt i0 k p ρ').map fun d0=>(d,d0))) Q:=q;cases eh:Mi.heldAt i0 k p ρ' with
      |none=>rw[eh]at q';exact q'.elim
      |some d1=>
       rw[eh]at q';exact q' v G' H' (As' i0) (fun _=>False) a'.ext (zM6 a' eh) (zPV rd hd) (fun b hb=>hb.elim (a'.new i0 b) fun z=>z.elim) fun _ _ z=>z
     |rv ρ' i=>
      intro σ' v G' H' As' a' hv;have q':zTK mg E G (cutH H S) k L (.ref p) (match ρ'[i]? with
       |some (some (d,l))=>if l=L/\i≠i0 then optR ((Mi.heldAt i0 k p ρ').map fun d0=>(d,d0))else none
       |_=>none) Q:=q
      split at q'
      ·rename_i d l er
       split at q'
       ·rename_i hz
        obtain⟨rfl,hne⟩:=hz;cases eh:Mi.heldAt i0 k p ρ' with
        |none=>rw[eh]at q';exact q'.elim
        |some d1=>
         rw[eh]at q';obtain⟨v',hv',ov⟩:=a'.at i _ _ er;rw[hv]at hv';cases hv';exact q' v G' H' (As' i0) (As' i) a'.ext (zM6 a' eh) ov (fun b hb=>hb.elim (a'.new i0 b) (a'.new i b)) fun b z1 z2=>hne (a'.dis _ _ b z2 z1)
       ·exact q'.elim
      ·exact q'.elim
  ·exact q.elim
 ·exact q.elim
theorem Sat.swap{G0 H0 S0:Hp}{σ:St}{ρ:Ro}{G H G' H':Hp}{As:Nat->Addr->Prop}{i K:Nat}{D:Dt}{v:V}{S:Addr->Prop}(a:Sat G0 H0 S0 σ ρ G H As)(x:Ext G (cutH H (As i)) G' H')(hv:σ[i]?=some (some v))(o:Own G' H' K S D v)
  (hS:∀b,S b->cutH H (As i) b=none/\G' b=none/\H' b≠none):Sat G0 H0 S0 σ (ρ.set i (some (D,K))) G' H' (fun j=>if j=i then S else As j):=by
 have inH:∀j b,j≠i->As j b->cutH H (As i) b=H b:=fun j b hj h=>zGE fun z=>hj (a.dis j i b h z)
 have h0:∀b,H0 b≠none->cutH H (As i) b=H b:=fun b hb=>zGE fun z=>hb (a.new i b z).1
 refine⟨⟨a.ext.g.trans x.g,fun b ob e=>?_,x.in',fun b hb=>?_⟩,a.stb.trans x.g,a.tab,by simp[a.len],fun j e n h=>?_,fun j l b h1 h2=>?_,fun j b h=>?_⟩
 ·exact x.h _ _ ((h0 b (by rw[e];simp)).trans (a.ext.h _ _ e))
 ·rw[x.old b (by rw[h0 b hb];exact a.ext.h.some hb)];exact a.ext.old b hb
 ·have hj:j<ρ.length:=by
   have:=(qA2.mp h).1
   simpa using this
  by_cases z:i=j
  ·subst z;rw[qA9 hj]at h;cases h;exact⟨v,hv,by rw[if_pos rfl];exact o⟩
  ·rw[qAa z]at h;obtain⟨u,h1,h2⟩:=a.at j e n h;refine⟨u,h1,?_⟩;rw[if_neg (fun q=>z q.symm)];exact(Own.keep h2 fun b ob hb e=>(inH j b (fun q=>z q.symm) hb).trans e).mono x.g x.h
 ·have key:∀j b,j≠i->As j b->S b->False:=fun j b hj h1 h2=>by
   have:=(hS b h2).1
   rw[inH j b hj h1]at this;exact(a.new j b h1).2.2 this
  try dsimp only at h1 h2
  by_cases z1:j=i
  ·by_cases z2:l=i
   ·rw[z1,z2]
   ·rw[if_pos z1]at h1;rw[if_neg z2]at h2;exact(key l b z2 h2 h1).elim
  ·by_cases z2:l=i
   ·rw[if_neg z1]at h1;rw[if_pos z2]at h2;exact(key j b z1 h1 h2).elim
   ·rw[if_neg z1]at h1;rw[if_neg z2]at h2;exact a.dis j l b h1 h2
 ·try dsimp only at h
  by_cases z1:j=i
  ·rw[if_pos z1]at h;obtain⟨n1,n2,n3⟩:=hS b h;refine⟨?_,n2,n3⟩
   by_cases z:As i b
   ·exact(a.new i b z).1
   ·rw[zGE z]at n1;exact a.ext.h.free n1
  ·rw[if_neg z1]at h;obtain⟨n1,n2,n3⟩:=a.new j b h;have e:=inH j b z1 h;refine⟨n1,?_,x.h.some (by rw[e];exact n3)⟩;rw[x.old b (by rw[e];exact n3)];exact n2
theorem zVQ{G H:Hp}{S:Addr->Prop}{d:Dt}{v:V}(h:Own G H (k+1) S d v)(hd:(∃ds,d=.lst ds)\/∃ks ds,d=.dtt ks ds):∃p,v=.ref p:=by
 rcases hd with⟨ds,rfl⟩|⟨ks,ds,rfl⟩
 ·obtain⟨a,_,_,e,_⟩:=h;exact⟨a,e⟩
 ·obtain⟨a,_,_,_,_,e,_⟩:=h;exact⟨a,e⟩
end
end L3
namespace L2
open PySem PySem.Spec PyProof.Rows
structure FunD(K:qA1)(x qual:Str)(st:Stmt)(f:Addr)(fd:qHo):Prop where
 ex:∃(oc:Value)(od:Option Addr)(dt:Addr)(kV doc pm:Value)(an:Option Addr)(cdv ct:Value)(osl:Array (Option Value))(ot:Obj)(n:Nat),
  fd=qAz x qual (zBS st) (zB1 st) (zA9 st) (.ref dt) kV doc pm an cdv ct/\K.lookup f=some ⟨oc,od,.func fd,osl⟩/\qBo K cdv qual=true/\K.lookup dt=some ot/\ot.data=.seq #[.none] n
 kp:qAv K (.ref f)=true
def DefD(K:qA1)(mg:Str->Option Value)(x:Str)(st:Stmt):Prop:=∃f fd,FunD K x x st f fd/\mg x=some (.ref f)
section
variable{P:qH9}{w:World}{K:qA1}{mg:Str->Option Value}{base:Heap}{x:Str}{k:Nat}{a b:Str}{N:List Str}{sp:Sp}{st:Stmt}
end
section
variable{X:Cx}{x:Str}{j k:Nat}{ps:List Str}{sp:Sp}{e:Expr}{es:List Expr}{t:TA}{p pos:Pos}{E:XK}
end
theorem mkDD{K:qA1}{h:Heap}{mg:Str->Option Value}{nm:Str}{st:Stmt}{f dt:Addr}{oc kV dc pm cd ct:Value}{od an:Option Addr}{sl:Array (Option Value)}{ot:Obj}{n:Nat}(X:K.In h)(G:h.Ns qHc mg)(a:qBe K qHc nm=some (some (.ref f)))
  (l:K.lookup f=some ⟨oc,od,.func (qAz nm nm (zBS st) (zB1 st) (zA9 st) (.ref dt) kV dc pm an cd ct),sl⟩) (c:qBo K cd nm=true) (k:qAv K (.ref f)=true) (l2:K.lookup dt=some ot) (e:ot.data=.seq #[.none] n):DefD K mg nm st:=
 ⟨f,_,⟨⟨oc,od,dt,kV,dc,pm,an,cd,ct,sl,ot,n,rfl,l,c,l2,e⟩,k⟩,qBv X G a⟩
end L2
namespace L3
open PySem PySem.Spec
open L2 hiding Rep RepL
open Mi (Dt Xn R okR zA4 optR zA1 zAA zAE zA8 zAD Rh Sl Ro EM TM AM FM IM SM OM Tg Out zAS zAT zAV full frz frz1 frzAt FW)
section
variable[Kc]{mg:Str->Option Value}{E:XK}{n:Nat}{t:TA}{m:AM}
end
def spW0(K:qA1)(mg:Str->Option Value)(i0 k L:Nat)(f:FW):Sp:=fun vs H Q _=>@spW ⟨K⟩ mg i0 k L f vs H Q E0
end L3
namespace L3
open PySem PySem.Spec PyProof.Rows
open L2 hiding Rep RepL
section
variable{P:qH9}{w:World}{K:qA1}{mg:Str->Option Value}{base:Heap}{x:Str}{st:Stmt}{N ps:List Str}{k:Nat}
theorem dfW{L n i0 j:Nat}{m:Mi.SMM}(D:Def K mg x st)(S:FnScope N ps (zA9 st))
  (hb:∀(kV doc pm:Value)(an:Option Addr)(cdv ct:Value)(us:List Value),us.length=ps.length->qJc (qAz x x (zBS st) (zB1 st) (zA9 st) .none kV doc pm an cdv ct) ⟨us,[]⟩=pure (ps.zip us))
  (hbody:∀{f:Addr}{cdv:Value}{A:qHb}{outer:List Env}{s:qH6}{H:Hp}{vs:List V}{Q:VK}{E:XK},Room k (A.deeper (envOfC x (zA9 st) s.heap.objs.size f cdv))->(A.deeper (envOfC x (zA9 st) s.heap.objs.size f cdv)).units+64<cLine->spW0 K mg i0 j L (Mi.uniM (Mi.runM L ps.length n i0 j m)) vs H Q E ->
   ∃t,PSs (cxOf CX0 P w K mg base N x (zA9 st) f cdv A outer s H E).nox (zB1 st) t/\t { nx:=fun _ H'=>Q .non H',rt:=Q } (start N vs) H):Has P w K mg base x (k+1) ps (spW0 K mg i0 j L (Mi.uniM (Mi.runM L ps.length n i0 j m))):=
 D.ok S hb (fun _ _ _ _ h=>@zV7 ⟨K⟩ _ _ _ _ _ _ _ _ _ _ _ h) fun _ _ _ _ _ _ _ _ _ hr h=>hbody hr hr.units h
end
end L3
namespace Mi
open PySem
noncomputable section
def sTputL(i n:Nat)(e1 e2:EM):SM:=fun ρ=>zA4 (e2 (full ρ)) fun v=>match ρ[i]? with
 |some (some (.loc p (.dtt ks ds),k+2))=>zA4 (e1 (full ρ)) fun y=>match kyU y with
  |some q=>@ite _ (v.dep<=n/\v.dep<=k/\ks.length<=100000/\fitT ks q=true) (qA3 _) (okR (.nx (ρ.set i (some (.loc p (.dtt (putKs ks q) (putDs ks ds q v)),k+2))))) none
  |none=>none
 |_=>none
noncomputable def noW(f:FW):FW:=fun ds=>match f ds with
 |some (.ok r)=>some (.ok r)
 |_=>none
def sCallW2N(j i k L:Nat)(vs:List Nat)(e e':EM)(f:FW):SM:=sCallW2 j i k L vs e e' (noW f)
end
end Mi
namespace L3
open PySem PySem.Spec PyProof.Rows
open L2 hiding Rep RepL
open Mi (Dt Xn R okR zA4 optR zA1 zAA zAE zA8 zAD Rh Sl Ro EM TM AM FM IM SM OM Tg Out zAS zAT zAV full frz frz1 frzAt FW SMM OutM)
section
variable[Kc]{mg:Str->Option Value}{E:XK}{L n k l:Nat}{te ta tb t1 t2:TE}{e ea eb e1 e2:EM}
theorem zT4(i:Nat)(A:DE mg E t1 e1 l)(B:DE mg E t2 e2 n)(hl1:1<=l:=by decide)(hl2:l<1000:=by decide)(hn:n<1000:=by decide):DS mg E L (zXO (vM i) t1 t2) (Mi.sTputL i n e1 e2):=by
 intro G0 H0 S0 σ ρ G H As D a p;obtain⟨J,x,s,w⟩:=a.full;refine B.step (errS.from x) x.in' w p fun d y G1 H1 S _ fr o p1=>?_
 have x1:Ext J H J H1:=Ext.same x.in' fr.ext.h;have sH:Same H H1:=fr.ext.h;have oS:d.dep<=n->∀k,d.dep<=k->Own G H1 k S d y:=fun hd k hk=>o.at hd hk hn
 have nS:∀b,S b->H b=none/\G b=none/\H1 b≠none:=fun b hb=>let⟨n1,n2,n3⟩:=fr.new b hb;⟨n1,a.ext.in'.free n1,n3⟩
 split at p1
 ·rename_i pl ks ds k er
  have hat:=a.at i _ _ er;obtain⟨v,h1,hpl,q,T0,e0,xs,T,hv,hq,hl,ht,kd⟩:=hat;subst hv;unfold vM;rw[h1];refine A.step (errS.from (x.trans x1)) x1.in' w p1 fun z u G2 H2 S2 _ fr2 o2 p2=>?_
  cases ek:Mi.kyU z with
  |none=>rw[ek]at p2;exact p2.elim
  |some c=>
   rw[ek]at p2;dsimp only at p2
   split at p2
   ·rename_i hz
    have hzd:z.dep<=1:=by
     cases z with
     |tup es=>
      rw[Dt.dep,zPA (show Mi.swsD es=some c from ek)];exact qA6 _
     |_=>cases ek
    have nS2:∀b,S2 b->H1 b=none/\G b=none/\H2 b≠none:=fun b hb=>by
     obtain⟨n1,n2,n3⟩:=fr2.new b hb;exact⟨n1,a.ext.in'.free (sH.free n1),n3⟩
    have a0:=a.grow sH;have frk:Fr G H1 G H2 S2:=⟨Ext.same a0.ext.in' fr2.ext.h,nS2⟩
    have ok:Own G H2 1 S2 z u:=o2.at (qAl hzd hl1) hzd hl2;obtain⟨xE,rK⟩:=frk.frz ok;obtain⟨b,rfl,hb⟩:=zI6 rK ek;have a1:=a0.wider xE;have hx:ks.length=xs.length:=by rw[kd.len];exact hl
    have hq2:H2 q=some (.dT T0 e0 (kzip ks xs)):=xE.h _ _ (sH _ _ hq);refine⟨q,T0,e0,kzip ks xs,c.map kNw,b,rfl,hq2,rfl,zG5 (xE.in' _ _ hb),?_,fun ep=>?_⟩
    ·have:(kzip ks xs).length=ks.length:=by simp[kzip,hx]
     rw[this,qHr];lia
    have q1:=oS hz.1 k hz.2.1;have q1':Own (over G H2 S2) H2 k S d y:=q1.mono xE.g xE.h;have nSq:¬S q:=fun z=>(a.new i q kd.top).2.2 (nS q z).1
    have apart:∀r b,T r b->S b->False:=fun r b z1 z2=>(a.new i b (kd.sub r b z1)).2.2 (nS b z2).1
    have kd1:Kids (Own (over G H2 S2) H2 k) (As i) q ds xs T:=kd.imp (fun _ _ _ _ w=>w.mono xE.g (sH.trans xE.h)) fun _ z=>z
    have kT:=zSQ (H:=H) xE.g ht hb hz.2.2.2;have hS:∀b,(As i b\/S b)->As i b\/(H0 b=none/\over G H2 S2 b=none/\H2 b≠none/\∀j,¬As j b):=fun b z=>by
     rcases z with z|z
     ·exact .inl z
     ·obtain⟨n1,n2,n3⟩:=nS b z;refine .inr ⟨a.ext.h.free n1,?_,xE.h.some n3,fun j y=>(a.new j b y).2.2 n1⟩;rw[zCC fun z2=>n3 (nS2 b z2).1];exact n2
    have key:Sat G0 H0 S0 σ (ρ.set i (some (.loc pl (.dtt (Mi.putKs ks c) (Mi.putDs ks ds c d)),k+2))) (over G H2 S2) (upd H2 q (.dT (fun c=>T0 c\/c=b) ep (putK (kzip ks xs) (c.map kNw) y))) (fun j=>if j=i then(fun b=>As i b\/S b)else As j):=by
     refine a1.store (S:=fun b=>As i b\/S b) kd.top h1 ?_ hS;unfold Mi.putDs;cases ep':Mi.posT ks c with
     |none=>
      dsimp only;have e3:Mi.putKs ks c=ks++[c]:=by unfold Mi.putKs;rw[ep']
      rw[e3]at kT ⊢;exact⟨hpl,q,_,ep,_,_,rfl,by rw[zAF,zS8 hx ep'],by simp[hl],kT,kd1.snoc (q1'.upd nSq) kd.out nSq apart⟩
     |some j=>
      dsimp only;have e3:Mi.putKs ks c=ks:=by unfold Mi.putKs;rw[ep']
      rw[e3]at kT ⊢;exact⟨hpl,q,_,ep,_,_,rfl,by rw[zAF,zS7 hx ht.1 ep'],by simp[hl],kT,kd1.set j (q1'.upd nSq) (fun r _=>kd.out r) nSq fun r b _=>apart r b⟩
    exact p2 σ _ _ _ key
   ·exact p2.elim
 ·exact p1.elim
theorem zTE{G0 H0 S0:Hp}{σ:L2.St}{ρ:Ro}{G H:Hp}{As:Nat->Addr->Prop}{i i0:Nat}{p:Addr}{d0:Dt}{f:FW}{ds:List Dt}{vs:List V}{Q:VK}{β:Type}{P:R β->Prop}{g:Dt×Dt->R β}(a:Sat G0 H0 S0 σ ρ G H As)(hE:Err mg E G0 H0 P)
  (o0:Own G H k (As i) d0 (.ref p)) (hl:vs.length=ds.length) (hr:∀i d v,i≠i0->ds[i]?=some d->vs[i]?=some v->Rep G d v) (hp:vs[i0]?=some (.ref p)) (hd:ds[i0]?=some d0) (pq:P (zA4 (Mi.noW f ds) g))
  (fin:∀r v G' H' S S1,Ext G (cutH H (As i)) G' H'->Own G' H' k S r.2 (.ref p)->Own G' H' L S1 r.1 v->(∀b,S b\/S1 b->cutH H (As i) b=none/\G' b=none/\H' b≠none)->(∀b,S b->S1 b->False)->P (g r)->Q v H') :
  spW mg i0 k L f vs H Q E0:=by
 refine⟨G,As i,ds,p,d0,a.tab.trans a.ext.g,a.ext.in',fun b hb=>(a.new i b hb).2,hl,hr,hp,hd,o0,?_⟩;unfold Mi.noW at pq;cases ef:f ds with
 |none=>rw[ef]at pq;exact hE.no pq
 |some r=>
  rw[ef]at pq;cases r with
  |error x=>exact(hE.no pq).elim
  |ok r=>
   obtain⟨d,d1⟩:=r;exact fun v G' H' S S1 xt oS o1 hS hdis=>fin (d,d1) v G' H' S S1 xt oS o1 hS hdis pq
theorem zON{E':XK}(j i:Nat)(vs:List Nat){f:FW}(A:DE mg E ta ea n){n':Nat}(B:DE mg E tb eb n'):DS mg E l (tAsg (zF3 (spW0 Kc.K mg 2 (k+1) L f) [] E' (zCV ta (zCV tb (zCV (vM i) tNil)))) (zGC j)) (Mi.sCallW2N j i (k+1) L vs ea eb f):=by
 intro G0 H0 S0 σ ρ G H As D a0 p;obtain⟨Gz,Asz,a⟩:=Sat.frzAt vs a0;unfold Mi.sCallW2N Mi.sCallW2 at p
 split at p
 ·rename_i d0 l' er
  split at p
  ·rename_i hz
   obtain⟨rfl,hij,hbox⟩:=hz;obtain⟨v0,h1,o0⟩:=a.at i _ _ er;have hr:∃p,v0=.ref p:=zVQ o0 (by cases d0<;>first|exact .inl ⟨_,rfl⟩|exact .inr ⟨_,_,rfl⟩|cases hbox);obtain⟨q,rfl⟩:=hr;unfold tAsg zF3 zCV tNil vM;refine(zAM A).step (errS.from a.ext) a.ext.in' a.frz p fun c u G1 H1 S _ fr oA p1=>?_
   refine(zAM B).step ((errS.from a.ext).from fr.ext) fr.ext.in' (a.frz.mono fr.ext.g) p1 fun c' u' G2 H2 S2 _ fr2 oB p2=>?_
   have xE:=fr.ext.trans fr2.ext;have a1:=a.wider xE;have o1:=o0.mono xE.g xE.h;rw[h1]
   try dsimp only
   rw[qBq];refine zTE (P:=fun r=>zDY mg E G0 H0 S0 l r D) (ds:=[c,c',d0]) a1 errS o1 rfl (fun i d v hi g1 g2=>?_) rfl rfl p2 fun r v G' H' S' S1 xt oS oV hS hdis p3=>?_
   ·match i,hi,g1,g2 with
    |0,_,g1,g2=>simp at g1 g2;subst g1 g2;exact Rep.mono fr2.ext.g oA
    |1,_,g1,g2=>simp at g1 g2;subst g1 g2;exact oB
    |2,hi,_,_=>exact absurd rfl hi
    |_+3,_,g1,_=>simp at g1
   have a2:=a1.swap xt h1 oS fun b hb=>hS b (.inl hb)
   refine p3 _ G' H' _ (a2.put (i:=j) oV (fun b hb=>?_) fun r b hr h1 h2=>?_)
   ·obtain⟨n1,n2,n3⟩:=hS b (.inr hb);refine⟨?_,n2,n3⟩
    by_cases z:Asz i b
    ·exact(a1.new i b z).1
    ·rw[zGE z]at n1;exact a1.ext.h.free n1
   ·try dsimp only at h1
    by_cases z:r=i
    ·rw[if_pos z]at h1;exact hdis b h1 h2
    ·rw[if_neg z]at h1;have n1:=(hS b (.inr h2)).1;rw[zGE fun y=>z (a1.dis r i b h1 y)]at n1;exact(a1.new r b h1).2.2 n1
  ·exact p.elim
 ·exact p.elim
end
end L3
namespace L2
open PySem PySem.Spec PyProof.Rows
theorem zTY{X:Cx}{pos:Pos}{c:Expr}{a b:List Stmt}{tc:TT}{u u':TSX}(hc:PT X.nox c tc)(ha:PSxs X a u)(hb:PSxs X b u'):PSx X (.If c a b pos) (fun D E σ H=>tc σ H fun k H1=>if k=true then u D E σ H1 else u' D E σ H1):=by
 intro pins s σ H D E I h;refine wpAny_If (wpAny_mono (hc pins s σ H _ (I.wish _) h) (fun d s1 z0=>?_) fun _ _ z=>qA8 z);obtain⟨H1,I1,q1⟩:=z0;cases d with
 |true=>exact ha pins s1 σ H1 D E I1.unwish q1
 |false=>exact hb pins s1 σ H1 D E I1.unwish q1
end L2
namespace Mi
open PySem
section
variable(ρ:Rh)(r:Ro)(a:EM)(am:AM)
@[simp] theorem x_tL:tL a ρ=zA4 (a ρ) fun x=>match x with | .bl k=>okR k | .int i=>okR (i != 0) | .non=>okR false | .lst xs=>okR (!xs.isEmpty) | .tup xs=>okR (!xs.isEmpty)|_=>none:=rfl
@[simp] theorem x_eMl(f:List Dt->List Dt->Option Dt):eMl f a am ρ=zA4 (a ρ) fun x=>match x with | .lst xs=>zA4 (am ρ) fun ds=>optR (f xs ds)|_=>none:=rfl
@[simp] theorem x_iRv:iRv am ρ=zA4 (am ρ) fun vs=>match vs with|[.lst xs]=>okR xs.reverse|_=>none:=rfl
@[simp] theorem v_xor(i j:Int):xorD (.int i) (.int j)=some (.int (qIg i j)):=rfl
@[simp] theorem zZZ(xs:List Dt)(k:Int):repD (.lst xs) (.int k)=@ite _ ((-4611686018427387904<=k/\k<4611686018427387904)/\xs.length*k.toNat<=100000) (qA3 _) (some (.lst (qA5 k.toNat xs).flatten)) none:=rfl
end
end Mi
namespace Mp
open Mi PySem
theorem zKN(n:Nat):nums 0 n=((qAg n).map fun i:Nat=>(i:Int)).map Dt.int:=by
 unfold nums;rw[qB9];exact qBs fun i _=>by simp
theorem zMT(ms:List Int)(q:Nat)(v:Int):(ms.map Dt.int).set q (.int v)=(ms.set q v).map Dt.int:=by
 rw[qDk]
theorem zOL(ms:List Int)(q:Nat):(ms.map Dt.int).eraseIdx q=(ms.eraseIdx q).map Dt.int:=by
 induction ms generalizing q with
 |nil=>rfl
 |cons a r ih=>
  cases q with
  |zero=>rfl
  |succ q=>simp[ih]
theorem zN2{r:Ro}{j i l:Nat}{ls:List Int}{e:EM}{z:Int}(h:r[i]?=some (some (.lst (ls.map .int),l+1)))(he:e (full r)=okR (.int z))(h0:0<=z)(h1:z<ls.length)(hij:i≠j)(hle:ls.length<=1000000) :
  sPop j i e r=okR (.nx ((r.set i (some (.lst ((ls.eraseIdx z.toNat).map .int),l+1))).set j (some (.int (ls.getD z.toNat 0),l)))):=by
 have hi:ixA (ls.map Dt.int).length z=some z.toNat:=zNG h0 (by simpa using h1);have hg:(ls.map Dt.int)[z.toNat]?=some (.int (ls.getD z.toNat 0)):=by
  have:z.toNat<ls.length:=by lia
  rw[qAf,qA4 this,qA0,qA4 this];rfl
 unfold sPop;rw[h];dsimp only;rw[he,zA1];dsimp only;rw[hi];dsimp only;rw[hg];dsimp only;rw[if_pos ⟨hij,by simpa using hle⟩,zOL]
theorem zFW{r:Ro}{i n l:Nat}{ls:List Int}{e1 e2:EM}{z v:Int}(h:r[i]?=some (some (.lst (ls.map .int),l+1)))(he2:e2 (full r)=okR (.int v))(he1:e1 (full r)=okR (.int z))(h0:0<=z)(h1:z<ls.length) :
  sItem i n e1 e2 r=okR (.nx (r.set i (some (.lst ((ls.set z.toNat v).map .int),l+1)))):=by
 have hi:ixA (ls.map Dt.int).length z=some z.toNat:=zNG h0 (by simpa using h1);unfold sItem;rw[he2,zA1,h];dsimp only;rw[he1,zA1];dsimp only;rw[hi];dsimp only;rw[if_pos ⟨qAk _,qAk _⟩,zMT]
end Mp
namespace Mi
open PySem
@[simp] theorem okR_inj{α:Type}{a b:α}:okR a=okR b↔a=b:=⟨fun h=>by cases h;rfl,fun h=>by rw[h]⟩
@[simp] theorem zMM(vs:List Nat)(it:IM)(tg:Tg)(b:SM)(r:Ro):sFor vs it tg b r=zA4 (it (frz (frzAt vs r))) fun ds=>forGo tg b ds (frzAt vs r):=rfl
@[simp] theorem zF1(it:IM)(i:Nat)(b:SM)(r:Ro):sForR it i b r=zA4 (it (full r)) fun ds=>forGo (.one i) b ds r:=rfl
@[simp] theorem x_iSq(e:EM)(ρ:Rh):iSq e ρ=zA4 (e ρ) fun d=>match d with | .lst xs=>okR xs | .tup xs=>okR xs | .scr ns=>okR (ns.map .int) | .str z=>okR (signsD z)|_=>none:=rfl
@[simp] theorem x_iEn(e:AM)(ρ:Rh):iEn e ρ=zA4 (e ρ) fun vs=>match vs with|[.lst xs]=>okR (zWI 0 xs)|_=>none:=rfl
@[simp] theorem x_iZi(e:AM)(ρ:Rh):iZi e ρ=zA4 (e ρ) fun vs=>match vs with|[.lst xs,.lst ys]=>okR (zipD xs ys)|_=>none:=rfl
theorem zIJ{e:AM}{ρ:Rh}{n:Nat}(h:e ρ=okR [.int n])(hn:n<=100000):iR1 e ρ=okR (nums 0 n):=by
 unfold iR1;rw[h,zA1];dsimp only;rw[if_pos (by lia)];simp
theorem zKN(n:Nat):nums 0 n=((qAg n).map fun i:Nat=>(i:Int)).map Dt.int:=by
 unfold nums;rw[qB9];exact qBs fun i _=>by simp
theorem zJ4(n:Nat):nums 0 n=(qAg n).map fun i:Nat=>Dt.int (i:Int):=by
 unfold nums;exact qBs fun i _=>by simp
def nxR(x:R Out)(P:Ro->Prop):Prop:=match x with
 |some (.ok (.nx r))=>P r
 |_=>False
@[simp] theorem x_nxR(r:Ro)(P:Ro->Prop):nxR (okR (.nx r)) P=P r:=rfl
theorem zCI{x:R Out}{P:Ro->Prop}(h:nxR x P):∃r',x=okR (.nx r')/\P r':=by
 unfold nxR at h
 split at h
 ·exact⟨_,rfl,h⟩
 ·exact h.elim
theorem zAK{x:R Out}{P:Ro->Prop}{r:Ro}(h:x=okR (.nx r))(hp:P r):nxR x P:=by rw[h];exact hp
theorem zRQ{i n:Nat}{e:EM}{r:Ro}{ds:List Dt}{k:Nat}{d:Dt}(h:r[i]?=some (some (.lst ds,k+1)))(he:e (full r)=okR d)(h1:ds.length<=100000)(h2:d.dep<=n)(h3:d.dep<=k):sApp i n e r=okR (.nx (r.set i (some (.lst (ds++[d]),k+1)))):=by
 unfold sApp;rw[h];dsimp only;rw[he,zA1,if_pos ⟨h1,h2,h3⟩]
theorem zKQ{i j:Int}(h:-18446744073709551616<i)(h':i<18446744073709551616):mulD (.int i) (.int j)=some (.int (i*j)):=by
 rw[zGN,if_pos (.inl (.inl ⟨h,h'⟩))]
theorem zO9{i j:Int}(h:-18446744073709551616<j)(h':j<18446744073709551616):mulD (.int i) (.int j)=some (.int (i*j)):=by
 rw[zGN,if_pos (.inl (.inr ⟨h,h'⟩))]
theorem zID{ρ:Rh}{c:TM}{e:EM}{i:Nat}(g:Nat->Dt)(n:Nat)(hc:c=tYes)(hi:i=ρ.length)(h:∀k,k<n->e (ρ++[some (.int (k:Nat))])=okR (g k))(it:IM)(hit:it ρ=okR (nums 0 n))(hn:n<=100000):eComp it 1 (.one i) c e ρ=okR (.lst ((qAg n).map g)):=by
 subst hc hi;unfold eComp;rw[hit,zA1,if_pos ⟨by simpa[nums]using hn,by simp[Tg.idx]⟩];rw[zNQ (fun d=>match d with | .int k=>g k.toNat|_=>.non) _ [] fun d hd=>?_]
 ·rw[zA1,zJ4,qB9];simp only[qFr]
  congr 2
 ·rw[zJ4]at hd;obtain⟨k,hk,rfl⟩:=qB6.mp hd;refine⟨_,rfl,rfl,?_⟩
  have:zAT (ρ++qA5 1 none) [(ρ.length,Dt.int (k:Int))]=ρ++[some (.int (k:Nat))]:=by
   simp[zAT]
  rw[this]
  simpa using h k (by simpa using hk)
theorem zIE{ρ:Rh}{c:TM}{e:EM}{i:Nat}{β:Type}(en:β->Dt)(g:β->Dt)(ns:List β)(hc:c=tYes)(hi:i=ρ.length)(h:∀k,k∈ns->e (ρ++[some (en k)])=okR (g k))(it:IM)(hit:it ρ=okR (ns.map en))(hn:ns.length<=100000):eComp it 1 (.one i) c e ρ=okR (.lst (ns.map g)):=by
 subst hc hi;unfold eComp;rw[hit,zA1,if_pos ⟨by simpa using hn,by simp[Tg.idx]⟩]
 have:∀(ns:List β)(acc:List Dt),(∀k,k∈ns->e (ρ++[some (en k)])=okR (g k))->compGo ρ 1 (.one ρ.length) tYes e (ns.map en) acc=okR (acc++ns.map g):=by
  intro ns
  induction ns with
  |nil=>intro acc _;simp[compGo]
  |cons d r ih=>
   intro acc h;rw[qAn,compGo];have e1:zAT (ρ++qA5 1 none) [(ρ.length,en d)]=ρ++[some (en d)]:=by simp[zAT]
   show zA4 (tYes _) _=_;simp only[zX2,zA1,if_true];show zA4 (e (zAT (ρ++qA5 1 none) [(ρ.length,en d)])) _=_;rw[e1,h d (by simp),zA1,ih _ fun k hk=>h k (by simp[hk])];simp
 rw[this ns [] h,zA1];simp
theorem zBT{a b:SM}{r:Ro}{X:R Out}(h:∀bb:SM,bb=b->nxR (a r) fun r1=>bb r1=X):sSeq a b r=X:=by
 obtain⟨r1,h1,h2⟩:=zCI (h b rfl);unfold sSeq;rw[h1,zA1];exact h2
theorem zBL{a b:SM}{r:Ro}{P:Ro->Prop}(h:∀bb:SM,bb=b->nxR (a r) fun r1=>nxR (bb r1) P):nxR (sSeq a b r) P:=by
 obtain⟨r1,h1,h2⟩:=zCI (h b rfl);unfold sSeq;rw[h1,zA1];exact h2
theorem zBE{P n:Nat}{b:SM}{ds:List Dt}{d:Dt}(h:ds.length=P)(hb:b (startO n ds)=okR (.rt d)):runF P n b ds=okR d:=by
 unfold runF;rw[if_pos h,hb];rfl
theorem zM1{j n:Nat}{b:SM}{r:Ro}{X:Ro->Prop}(Pv:Nat->Ro->Prop)(h:Pv 0 r)(hs:∀k,k<n->∀r,Pv k r->nxR (b (r.set j (some (.int (k:Nat),0)))) (Pv (k+1)))(hK:∀r',Pv n r'->X r'):nxR (forGo (.one j) b (nums 0 n) r) X:=by
 obtain⟨r',h1,h2⟩:∃r',forGo (.one j) b (nums 0 n) r=okR (.nx r')/\Pv n r':=by
  obtain⟨r',h1,h2⟩:=zM7 (tg:=.one j) (b:=b) Pv (nums 0 n) 0 r h fun k d r hd hp=>by
   rw[zJ4,qAf]at hd;cases e:(qAg n)[k]? with
   |none=>rw[e]at hd;cases hd
   |some q=>
    rw[e]at hd;cases hd;obtain⟨h1,h2⟩:=qA2.mp e;rw[qDj]at h2;subst h2;rw[qCr]at hp;obtain⟨r',g1,g2⟩:=zCI (hs k (by simpa using h1) r hp);exact⟨_,r',rfl,g1,by rw[qCr];exact g2⟩
  exact⟨r',h1,by simpa[nums]using h2⟩
 rw[h1];exact hK r' h2
theorem zF7{γ:Type}{j:Nat}{b:SM}{r:Ro}{X:Ro->Prop}(en:γ->Dt)(ns:List γ)(Pv:Nat->Ro->Prop)(h:Pv 0 r)(hs:∀k x,ns[k]?=some x->∀r,Pv k r->nxR (b (r.set j (some (en x,0)))) (Pv (k+1)))(hK:∀r',Pv ns.length r'->X r'):nxR (forGo (.one j) b (ns.map en) r) X:=by
 obtain⟨r',h1,h2⟩:=zM7 (tg:=.one j) (b:=b) Pv (ns.map en) 0 r h fun k d r hd hp=>by
  rw[qAf]at hd;cases e:ns[k]? with
  |none=>rw[e]at hd;cases hd
  |some q=>
   rw[e]at hd;cases hd;rw[qCr]at hp;obtain⟨r',g1,g2⟩:=zCI (hs k q e r hp);exact⟨_,r',rfl,g1,by rw[qCr];exact g2⟩
 rw[h1];exact hK r' (by simpa using h2)
theorem zN8{c:TM}{b:SM}{r:Ro}{X:Ro->Prop}(Pv:Ro->Prop)(μ:Ro->Nat)(Rv:Ro->Prop)(h0:Pv r)(hm:μ r<1000000)(hc:∀r,Pv r->(c (full r)=okR false/\Rv r)\/(c (full r)=okR true/\nxR (b r) fun r'=>Pv r'/\μ r'<μ r))(hK:∀r',Rv r'->X r'):nxR (sWhile c b r) X:=by
 obtain⟨r',h1,h2⟩:=zO0 Pv μ Rv h0 hm fun r hr=>(hc r hr).imp (fun z=>z) fun z=>⟨z.1,zCI z.2⟩
 rw[h1];exact hK r' h2
theorem zKR:∀(a b:List Char),a.map qH2=b.map qH2->a=b
 |[],[],_=>rfl
 |[],_::_,h=>by simp at h
 |_::_,[],h=>by simp at h
 |x::r,y::q,h=>by
  simp only[qAn,List.cons.injEq]at h;rw[zKR r q h.2]
  have:x=y:=Char.toNat_inj.mp h.1
  rw[this]
@[simp] theorem str_inj(a b:String):(Str.ofString a=Str.ofString b)↔a=b:=by
 constructor
 ·intro h;rw[qJk,qJk]at h;simp only[Str.mk.injEq,List.toArray_inj]at h
  have:=zKR _ _ (by simpa using h)
  exact String.toList_inj.mp this
 ·intro h;rw[h]
section
variable(ρ:Rh)(a:EM)(am:AM)(lo hi:OM)
@[simp] theorem x_eSl:eSl a lo hi ρ=zA4 (a ρ) fun x=>zA4 (lo ρ) fun l=>zA4 (hi ρ) fun h=>optR (slD x l h):=rfl
@[simp] theorem x_oNo:oNo ρ=okR none:=rfl
@[simp] theorem x_oE:oE a ρ=zA4 (a ρ) fun d=>match d with | .int i=>okR (some i)|_=>none:=rfl
@[simp] theorem x_eMt(f:Dt->List Dt->Option Dt):eMt f a am ρ=zA4 (a ρ) fun x=>if zQK x=true then zA4 (am ρ) fun xs=>optR (f x xs)else none:=rfl
@[simp] theorem v_isStr(z:Str):zQK (.str z)=true:=rfl
end
@[simp] theorem v_slL(xs:List Dt)(l h:Option Int):slD (.lst xs) l h=some (.lst (cutA xs l h)):=rfl
@[simp] theorem v_slS(z:Str)(l h:Option Int):slD (.str z) l h=@ite _ (z.length<=100000) (qA3 _) (some (.str ⟨(cutA z.cps.toList l h).toArray⟩)) none:=rfl
@[simp] theorem v_ixSt(z:Str)(i:Int):ixD (.str z) (.int i)=@ite _ (z.length<=100000) (qA3 _) ((itA z.cps.toList i).map fun c=>.str ⟨#[c]⟩) none:=rfl
@[simp] theorem v_lenSt(z:Str):lenD [.str z]=@ite _ (z.length<=100000) (qA3 _) (some (.int z.length)) none:=rfl
@[simp] theorem v_count1(z:Str)(c:Nat):zZK (.str z) [.str ⟨#[c]⟩]=some (.int (z.cps.toList.count c:Nat)):=rfl
@[simp] theorem v_in1(ng:Bool)(z:Str)(c:Nat):inD ng (.str ⟨#[c]⟩) (.str z)=some (.bl (if ng=true then !decide (c∈z.cps.toList)else decide (c∈z.cps.toList))):=rfl
@[simp] theorem v_find1(z:Str)(c:Nat):zaU (.str z) [.str ⟨#[c]⟩]=some (.int (match posC c z.cps.toList with|some i=>(i:Int)|none=>-1)):=rfl
theorem zV6(a b:Str):(a++b).cps.toList=a.cps.toList++b.cps.toList:=by
 show(Str.mk (a.cps++b.cps)).cps.toList=_
 simp
theorem zW5(z:Str):z.length=z.cps.toList.length:=by
 unfold Str.length;simp
theorem zU1(l:List Nat):(Str.mk l.toArray).length=l.length:=by rw[zW5]
end Mi
namespace Mp
open Mi PySem
theorem sg{i n:Nat}{vs:List Nat}{e:EM}{b:SM}{r:Ro}{d:Dt}{X:R Out}(he:e (full r)=okR d)(hd:d.dep<=n)(h:b (r.set i (some (d,n)))=X):sSeq (sSet i n vs e) b r=X:=by
 rw[zFF,zFE,he,zA1,if_pos hd,zA1];exact h
theorem sgf{i n:Nat}{vs:List Nat}{e:EM}{b:SM}{r:Ro}{d:Dt}{X:R Out}(he:e (full r)=okR d)(hd:¬d.dep<=n)(he2:e (frz (frzAt vs r))=okR d)(h:b ((frzAt vs r).set i (some (d,n)))=X):sSeq (sSet i n vs e) b r=X:=by
 rw[zFF,zFE,he,zA1,if_neg hd,he2,zA1,zA1];exact h
theorem sp{c:TM}{a b:SM}{r:Ro}{X:R Out}(hc:c (full r)=okR false)(h:b r=X):sSeq (sIf c a sNil) b r=X:=by
 rw[zFF,zJW,hc,zA1,if_neg (by simp),zTL,zA1];exact h
theorem st{c:TM}{a b:SM}{r r':Ro}{X:R Out}(hc:c (full r)=okR true)(ha:a r=okR (.nx r'))(h:b r'=X):sSeq (sIf c a sNil) b r=X:=by
 rw[zFF,zJW,hc,zA1,if_pos rfl,ha,zA1];exact h
theorem su{is vs:List Nat}{e:EM}{b:SM}{r:Ro}{ds:List Dt}{X:R Out}(he:e (frz (frzAt vs r))=okR (.tup ds))(hl:ds.length=is.length)(h:b (zAV (frzAt vs r) (is.zip ds))=X):sSeq (sUnp is vs e) b r=X:=by
 rw[zFF];unfold sUnp;rw[he,zA1,zAS,if_pos hl];exact h
theorem c2{m:FM}{e1 e2:EM}{ρ:Rh}{d1 d2:Dt}{X:R Dt}(h1:e1 ρ=okR d1)(h2:e2 ρ=okR d2)(h:m [d1,d2]=X):eCall m (aCons e1 (aCons e2 aNil)) ρ=X:=by
 simp only[zG4,zB8,zC8,h1,h2,zA1];exact h
theorem c1{m:FM}{e1:EM}{ρ:Rh}{d1:Dt}{X:R Dt}(h1:e1 ρ=okR d1)(h:m [d1]=X):eCall m (aCons e1 aNil) ρ=X:=by
 simp only[zG4,zB8,zC8,h1,zA1];exact h
theorem c4{m:FM}{e1 e2 e3 e4:EM}{ρ:Rh}{d1 d2 d3 d4:Dt}{X:R Dt}(h1:e1 ρ=okR d1)(h2:e2 ρ=okR d2)(h3:e3 ρ=okR d3)(h4:e4 ρ=okR d4)(h:m [d1,d2,d3,d4]=X):eCall m (aCons e1 (aCons e2 (aCons e3 (aCons e4 aNil)))) ρ=X:=by
 simp only[zG4,zB8,zC8,h1,h2,h3,h4,zA1];exact h
theorem b2{o:Dt->Dt->Option Dt}{e1 e2:EM}{ρ:Rh}{d1 d2 d:Dt}(h1:e1 ρ=okR d1)(h2:e2 ρ=okR d2)(h:o d1 d2=some d):eB o e1 e2 ρ=okR d:=by
 rw[x_eB,h1,zA1,h2,zA1,h];rfl
theorem bi1{o:List Dt->Option Dt}{e1:EM}{ρ:Rh}{d1 d:Dt}(h1:e1 ρ=okR d1)(h:o [d1]=some d):eBi o (aCons e1 aNil) ρ=okR d:=by
 simp only[zJX,zB8,zC8,h1,zA1,h];rfl
theorem el2{e1 e2:EM}{ρ:Rh}{d1 d2:Dt}(h1:e1 ρ=okR d1)(h2:e2 ρ=okR d2):eLst (aCons e1 (aCons e2 aNil)) ρ=okR (.lst [d1,d2]):=by simp[h1,h2]
theorem el1{e1:EM}{ρ:Rh}{d1:Dt}(h1:e1 ρ=okR d1):eLst (aCons e1 aNil) ρ=okR (.lst [d1]):=by simp[h1]
theorem tb1{e:EM}{ρ:Rh}{k:Bool}(h:e ρ=okR (.bl k)):tB e ρ=okR k:=by rw[x_tB,h,zA1]
theorem tm1{e:EM}{ρ:Rh}{k:Bool}(h:e ρ=okR (.bl k)):tM e ρ=okR k:=by rw[x_tM,h,zA1]
theorem tn1{t:TM}{ρ:Rh}{k:Bool}(h:t ρ=okR k):tNo t ρ=okR (!k):=by rw[zZU,h,zA1]
theorem to0{t t':TM}{ρ:Rh}{k:Bool}(h:t ρ=okR false)(h':t' ρ=okR k):Mi.tOr t t' ρ=okR k:=by rw[zX3,h,zA1,if_neg (by simp),h']
theorem to1{t t':TM}{ρ:Rh}(h:t ρ=okR true):Mi.tOr t t' ρ=okR true:=by rw[zX3,h,zA1,if_pos rfl]
theorem ta1{t t':TM}{ρ:Rh}{k:Bool}(h:t ρ=okR true)(h':t' ρ=okR k):tAn t t' ρ=okR k:=by rw[zX4,h,zA1,if_pos rfl,h']
theorem ta0{t t':TM}{ρ:Rh}(h:t ρ=okR false):tAn t t' ρ=okR false:=by rw[zX4,h,zA1,if_neg (by simp)]
theorem ss{i n:Nat}{vs:List Nat}{e:EM}{r:Ro}{d:Dt}(he:e (full r)=okR d)(hd:d.dep<=n):sSet i n vs e r=okR (.nx (r.set i (some (d,n)))):=by
 rw[zFE,he,zA1,if_pos hd]
theorem sr{L n:Nat}{vs:List Nat}{e:EM}{r:Ro}{d:Dt}(he:e (full r)=okR d)(hd:d.dep<=n/\d.dep<=L):sRet L n vs e r=okR (.rt d):=by
 rw[zOU,he,zA1,if_pos hd]
theorem tl{k k':Bool}{x:Option Dt}(h:x=some (.bl k))(e:k=k'):x=some (.bl k'):=e▸h
theorem sf{c:TM}{a:SM}{r:Ro}(hc:c (full r)=okR false):sIf c a sNil r=okR (.nx r):=by
 rw[zJW,hc,zA1,if_neg (by simp),zTL]
theorem et2{e1 e2:EM}{ρ:Rh}{d1 d2:Dt}(h1:e1 ρ=okR d1)(h2:e2 ρ=okR d2):eTup (aCons e1 (aCons e2 aNil)) ρ=okR (.tup [d1,d2]):=by simp[h1,h2]
theorem eqi{e1 e2:EM}{ρ:Rh}{a b:Int}{k:Bool}(h1:e1 ρ=okR (.int a))(h2:e2 ρ=okR (.int b))(h:decide (a=b)=k):tB (eB eqD e1 e2) ρ=okR k:=by
 refine tb1 (b2 h1 h2 ?_);rw[<- h];simp[Dt.eq];rfl
theorem nei{e1 e2:EM}{ρ:Rh}{a b:Int}{k:Bool}(h1:e1 ρ=okR (.int a))(h2:e2 ρ=okR (.int b))(h:(!decide (a=b))=k):tB (eB neD e1 e2) ρ=okR k:=by
 refine tb1 (b2 h1 h2 ?_);rw[<- h];simp[Dt.eq];rfl
theorem sx{c:TM}{a b:SM}{r:Ro}{d:Dt}(hc:c (full r)=okR true)(ha:a r=okR (.rt d)):sSeq (sIf c a sNil) b r=okR (.rt d):=by
 rw[zFF,zJW,hc,zA1,if_pos rfl,ha,zA1]
theorem mdi{i j k:Int}(h:0<j)(e:i%j=k):modD (.int i) (.int j)=some (.int k):=by rw[<- e];exact if_pos h
theorem dvi{i j:Int}(h:0<j/\j<1000000000000000000000000):divD (.int i) (.int j)=some (.int (i/j)):=@if_pos _ (qA3 _) h _ _ _
theorem c3{m:FM}{e1 e2 e3:EM}{ρ:Rh}{d1 d2 d3:Dt}{X:R Dt}(h1:e1 ρ=okR d1)(h2:e2 ρ=okR d2)(h3:e3 ρ=okR d3)(h:m [d1,d2,d3]=X):eCall m (aCons e1 (aCons e2 (aCons e3 aNil))) ρ=X:=by
 simp only[zG4,zB8,zC8,h1,h2,h3,zA1];exact h
theorem ned{e1 e2:EM}{ρ:Rh}{x y:Dt}{b k:Bool}(h1:e1 ρ=okR x)(h2:e2 ρ=okR y)(d1:x.dep<=40)(d2:y.dep<=40)(h:Dt.eq x y=b)(hk:(!b)=k):tB (eB neD e1 e2) ρ=okR k:=by
 refine tb1 (b2 h1 h2 ?_);unfold neD;rw[if_pos ⟨d1,d2⟩,h,hk]
theorem sq{c:TM}{r:Ro}{b:Bool}(hc:c (full r)=okR true):sIf c (sRet 0 0 [] (eC (.bl b))) sNil r=okR (.rt (.bl b)):=by
 rw[zJW,hc,zA1,if_pos rfl];exact sr rfl ⟨qA6 0,qA6 0⟩
theorem sk{c:TM}{a b:SM}{r:Ro}{X:R Out}(hc:c (full r)=okR true)(ha:a r=X):sIf c a b r=X:=by
 rw[zJW,hc,zA1,if_pos rfl];exact ha
theorem el0{ρ:Rh}:eLst aNil ρ=okR (.lst []):=by simp
theorem sw{s t:SM}{r r':Ro}{X:R Out}(h:s r=okR (.nx r'))(h2:t r'=X):sSeq s t r=X:=by rw[zFF,h,zA1];exact h2
theorem if1{c:TM}{a b:EM}{ρ:Rh}{X:R Dt}(hc:c ρ=okR true)(h:a ρ=X):eIf c a b ρ=X:=by unfold eIf;rw[hc,zA1,if_pos rfl];exact h
theorem if0{c:TM}{a b:EM}{ρ:Rh}{X:R Dt}(hc:c ρ=okR false)(h:b ρ=X):eIf c a b ρ=X:=by unfold eIf;rw[hc,zA1,if_neg qAc];exact h
theorem v1{i:Nat}{ρ:Rh}{d:Dt}(h:ρ[i]?=some (some d)):eV i ρ=okR d:=by rw[x_eV,h]
theorem al0{e:EM}{ρ:Rh}{d:Dt}(h:e ρ=okR d):aCons e aNil ρ=okR [d]:=by rw[zB8,h];rfl
theorem adi{a b c:Int}(h:a+b=c):addD (.int a) (.int b)=some (.int c):=by rw[<- h];rfl
theorem k1{d d':Dt}{ρ:Rh}(h:d=d'):eC d ρ=okR d':=by rw[<- h];rfl
theorem cmi{p:Int->Int->Bool}{a b:Int}{k:Bool}(h:p a b=k):cmpD p (.int a) (.int b)=some (.bl k):=by rw[<- h];rfl
noncomputable def rowD(r:List Int):Dt:=.lst (r.map .int)
def mat(A:List (List Int)):Dt:=.lst (A.map rowD)
noncomputable def tab(n:Nat)(f:Nat->Nat->Int):List (List Int):=(qAg n).map fun i=>(qAg n).map fun j=>f i j
@[simp] theorem zAZ(r:List Int):(rowD r).dep=1:=by simp[rowD]
@[simp] theorem lenR(r:List Int):lenD [rowD r]=some (.int r.length):=by
 show some (Dt.int ((r.map Dt.int).length:Int))=_;rw[qAp]
@[simp] theorem listR(r:List Int):listD [rowD r]=some (rowD r):=rfl
@[simp] theorem lenM(A:List (List Int)):lenD [mat A]=some (.int A.length):=by
 show some (Dt.int ((A.map rowD).length:Int))=_;rw[qAp]
theorem zQV(a b:List Int):Dt.eq (rowD a) (rowD b)=decide (a=b):=by
 unfold rowD;rw[v_e4,zGT]
theorem zNP{ρ:Rh}{e:EM}{it:IM}{i n:Nat}(g:Nat->Int)(hi:i=ρ.length)(hn:n<=1000)(h1:it ρ=okR (nums 0 n))(h:∀a,a<n->e (ρ++[some (.int (a:Nat))])=okR (.int (g a))):eComp it 1 (.one i) tYes e ρ=okR (rowD ((qAg n).map g)):=by
 rw[zID (fun b=>.int (g b)) n rfl hi (fun b hb=>h b hb) it h1 (by lia)];unfold rowD;rw[qB9];rfl
def Bit(x:Int):Prop:=x=0\/x=1
def RowN(n:Nat)(r:List Int):Prop:=r.length=n/\∀x∈r,Bit x
theorem zaQ(r:List Int)(i:Nat)(h:i<r.length):ixD (rowD r) (.int (i:Int))=some (.int (r.getD i 0)):=by
 have:=zSR (ns:=r) (i:=(i:Int)) (by lia) (by lia)
 rw[qCh]at this;exact this
theorem addR(a b:List Int)(h:a.length+b.length<=100000):addD (rowD a) (rowD b)=some (rowD (a++b)):=by
 show(@ite _ ((a.map Dt.int).length+(b.map Dt.int).length<=100000) (qA3 _) (some (Dt.lst (a.map Dt.int++b.map Dt.int))) none)=_
 rw[if_pos (by simpa using h)];unfold rowD;simp
theorem zaT{ds:List Dt}(h:∀d∈ds,d.dep=0):Dt.depL ds=0:=by
 induction ds with
 |nil=>simp
 |cons a r ih=>rw[zIM,h a (by simp),ih fun d hd=>h d (by simp[hd])];rfl
theorem zLO{r:Ro}{j i k l:Nat}{e:EM}{z:Int}{ds es:List Dt}{c:Dt}(hi:r[i]?=some (some (.lst ds,k+1)))(hj:r[j]?=some (some (.lst es,l+1)))(he:e (full r)=okR (.int z))(h0:0<=z)(h1:z<ds.length)(hc:ds[z.toNat]?=some c)(hf:c.dep=0)(hij:i≠j)(hz:ds.length<=1000)(hz2:es.length<=1000)(hk:k<1000) :
  sAppPop j i e r=okR (.nx ((r.set i (some (.lst (ds.eraseIdx z.toNat),k+1))).set j (some (.lst (es++[c]),l+1)))):=by
 unfold sAppPop;rw[hj,hi];dsimp only;rw[he,zA1];dsimp only;rw[zNG h0 h1];dsimp only;rw[hc];dsimp only;rw[if_pos ⟨hij,by lia,by lia,.inr ⟨by lia,by lia,hk⟩⟩]
noncomputable def zYV(i:Nat)(r:Ro):Nat:=match r[i]? with
 |some (some (Dt.lst lf,_))=>lf.length
 |_=>0
noncomputable def numL(ks:List Nat):List Int:=ks.map fun k:Nat=>(k:Int)
theorem zCJ{ks:List Nat}{n a:Nat}(hk:∀k∈ks,k<n)(ha:a<ks.length):ks.getD a 0<n:=by
 refine hk _ ?_;rw[qA0,qA4 ha];simp
noncomputable def sub(ks:List Nat)(f:Nat->Nat->Int):Nat->Nat->Int:=fun a b=>f (ks.getD a 0) (ks.getD b 0)
noncomputable def sgn(c:Nat):Dt:=.str ⟨#[c]⟩
theorem zSZ(cs:List Nat):∀d∈cs.map sgn,d.dep=0:=by
 intro d hd;obtain⟨c,_,rfl⟩:=qB6.mp hd;rfl
@[simp] theorem depL_sgn(cs:List Nat):Dt.depL (cs.map sgn)=0:=zaT (zSZ cs)
theorem zI4{α:Type}[DecidableEq α]:∀(l1 l2:List α),l1.Nodup->(∀x∈l1,x∈l2)->l1.length<=l2.length
 |[],_,_,_=>by simp
 |a::r,l2,h,hs=>by
  have ha:=hs a (by simp);rw[qB4]at h
  have:=zI4 r (l2.erase a) h.2 fun x hx=>(qEn (fun z:x=a=>h.1 (by rw[<- z];exact hx))).mpr (hs x (by simp[hx]))
  rw[qDr ha]at this
  have:=qE8 ha
  simp
  lia
theorem zQH{r:Ro}{i m l a:Nat}{xs:List Int}{v:Int}{e1 e2:EM}(h:r[i]?=some (some (rowD xs,l+1)))(h2:e2 (full r)=okR (.int v))(h1:e1 (full r)=okR (.int (a:Nat)))(ha:a<xs.length):sItem i m e1 e2 r=okR (.nx (r.set i (some (rowD (xs.set a v),l+1)))):=by
 unfold sItem;rw[h2,zA1,h];show zA4 (e1 (full r)) _=_;rw[h1,zA1];dsimp only;rw[zNG (by lia) (by simp;lia)];dsimp only;rw[if_pos ⟨qAk _,qAk _⟩,qCh];unfold rowD;rw[qDk]
theorem zHI(ks:List Nat)(a:Nat)(h:a<ks.length):ixD (rowD (numL ks)) (.int (a:Int))=some (.int (ks.getD a 0:Nat)):=by
 have i1:=zaQ (numL ks) a (by simp[numL];exact h);rw[show(numL ks).getD a 0=((ks.getD a 0:Nat):Int) by
  unfold numL;simp[qA0,qA4 h]]at i1
 exact i1
theorem zMW(n:Nat)(hn:n<=10000):repD (.lst [.int 0]) (.int (n:Int))=some (rowD (qA5 n 0)):=by
 rw[zZZ,if_pos (by simp;lia)]
 have:∀m:Nat,(qA5 m [Dt.int 0]).flatten=qA5 m (Dt.int 0):=by
  intro m
  induction m with
  |zero=>rfl
  |succ m ih=>rw[qBd,qBp,ih];rfl
 rw[qCh,this];unfold rowD;rw[List.map_replicate]
end Mp
namespace FW
structure NetL(ns:List Int)(n:Nat):Prop where
 len:ns.length=n
 tie:∀i:Nat,i<n->∃j:Nat,j<n/\j≠i/\ns[i]?=some (j:Int)/\ns[j]?=some (i:Int)
structure Part(left:List Nat)(ns:List Int)(n:Nat):Prop where
 len:ns.length=n
 nd:left.Nodup
 lt:∀i∈left,i<n
 ev:left.length%2=0
 tie:∀i:Nat,i<n->i∉left->∃j:Nat,j<n/\j∉left/\j≠i/\ns[i]?=some (j:Int)/\ns[j]?=some (i:Int)
theorem Part.start(n:Nat)(h:n%2=0):Part (qAg n) (qA5 n 0) n:=
 ⟨by simp,qFm,fun i hi=>qBw.mp hi,by simpa using h,fun i hi hn=>absurd (qBw.mpr hi) hn⟩
theorem Part.done{ns:List Int}{n:Nat}(h:Part [] ns n):NetL ns n:=⟨h.len,fun i hi=>by
 obtain⟨j,h1,_,h2,h3,h4⟩:=h.tie i hi (by simp);exact⟨j,h1,h2,h3,h4⟩⟩
theorem zHA{l:List Nat}{k:Nat}{x:Nat}:x∈l.eraseIdx k->x∈l:=fun h=>List.mem_of_mem_eraseIdx h
theorem zFT:∀{l:List Nat}{k:Nat}{b:Nat},l.Nodup->l[k]?=some b->b∉l.eraseIdx k
 |[],_,_,_,h=>by simp at h
 |a::r,0,b,nd,h=>by
  simp at h;subst h
  simpa using(qB4.mp nd).1
 |a::r,k+1,b,nd,h=>by
  obtain⟨h1,h2⟩:=qB4.mp nd;have h':r[k]?=some b:=by simpa using h
  intro hm;simp only[qCt]at hm
  rcases qAj.mp hm with e|hm
  ·subst e;exact h1 (qB5 h')
  ·exact zFT h2 h' hm
theorem zGJ:∀{l:List Nat}{k:Nat}{b x:Nat},l[k]?=some b->x∈l->x≠b->x∈l.eraseIdx k
 |[],_,_,_,h,_,_=>by simp at h
 |a::r,0,b,x,h,hx,hne=>by
  simp at h;subst h
  rcases qAj.mp hx with e|hx
  ·exact absurd e hne
  ·simpa using hx
 |a::r,k+1,b,x,h,hx,hne=>by
  have h':r[k]?=some b:=by simpa using h
  simp only[qCt]
  rcases qAj.mp hx with e|hx
  ·exact qAj.mpr (.inl e)
  ·exact qAj.mpr (.inr (zGJ h' hx hne))
theorem len_erase{l:List Nat}{k:Nat}(h:k<l.length):(l.eraseIdx k).length+1=l.length:=by
 rw[List.length_eraseIdx_of_lt h];lia
theorem Part.turn{a b k:Nat}{l:List Nat}{ns:List Int}{n:Nat}(h:Part (a::l) ns n)(hb:l[k]?=some b):Part (l.eraseIdx k) ((ns.set a (b:Int)).set b (a:Int)) n:=by
 obtain⟨ha,nd⟩:=qB4.mp h.nd;have hk:k<l.length:=(qA2.mp hb).1;have hbl:b∈l:=qB5 hb;have hab:a≠b:=fun e=>ha (e▸hbl)
 have han:a<n:=h.lt a (by simp);have hbn:b<n:=h.lt b (by simp[hbl]);have hl:=h.len;refine⟨by simp[hl],nd.sublist (List.eraseIdx_sublist l k),fun i hi=>h.lt i (qAq _ (zHA hi)),?_,fun i hi hn=>?_⟩
 ·have e:=h.ev
  have:=len_erase hk
  simp at e
  lia
 ·have nb:b∉l.eraseIdx k:=zFT nd hb;have na:a∉l.eraseIdx k:=fun z=>ha (zHA z)
  by_cases e1:i=a
  ·subst e1;refine⟨b,hbn,nb,fun z=>hab z.symm,?_,?_⟩
   ·rw[qAa (fun z=>hab z.symm),qA9 (by lia)]
   ·rw[qA9 (by simp[hl];lia)]
  ·by_cases e2:i=b
   ·subst e2;refine⟨a,han,na,hab,?_,?_⟩
    ·rw[qA9 (by simp[hl];lia)]
    ·rw[qAa (fun z=>hab z.symm),qA9 (by lia)]
   ·have hi':i∉a::l:=fun z=>by
     rcases qAj.mp z with z|z
     ·exact e1 z
     ·exact hn (zGJ hb z e2)
    obtain⟨j,hj,hjl,hji,g1,g2⟩:=h.tie i hi hi';have ja:j≠a:=fun z=>hjl (by simp[z])
    have jb:j≠b:=fun z=>hjl (by simp[z,hbl])
    refine⟨j,hj,fun z=>hjl (qAq _ (zHA z)),hji,?_,?_⟩
    ·rw[qAa (fun z=>e2 z.symm),qAa (fun z=>e1 z.symm)];exact g1
    ·rw[qAa (fun z=>jb z.symm),qAa (fun z=>ja z.symm)];exact g2
end FW
namespace Mp
open Mi PySem
theorem zSN{P:Nat->Prop}:∀(n:Nat),P n->∃p,p<=n/\P p/\∀q,q<p->¬P q:=by
 intro n
 induction n using qG2 with
 |ind n ih=>
  intro h
  by_cases hq:∃q,q<n/\P q
  ·obtain⟨q,h1,h2⟩:=hq;obtain⟨p,h3,h4,h5⟩:=ih q h1 h2;exact⟨p,by lia,h4,h5⟩
  ·exact⟨n,qA6 _,h,fun q h1 h2=>hq ⟨q,h1,h2⟩⟩
noncomputable def itr(f:Nat->Nat):Nat->Nat->Nat
 |0,x=>x
 |k+1,x=>f (itr f k x)
theorem zD7{f:Nat->Nat}{M:Nat}(hf:∀x,x<M->f x<M){x:Nat}(hx:x<M):∀k,itr f k x<M
 |0=>hx
 |k+1=>hf _ (zD7 hf hx k)
theorem zJF{f:Nat->Nat}{M:Nat}(hf:∀x,x<M->f x<M)(hi:∀x y,x<M->y<M->f x=f y->x=y){x:Nat}(hx:x<M):∀i d,itr f i x=itr f (i+d) x->itr f d x=x
 |0,d,h=>by rw[qCr]at h;exact h.symm
 |i+1,d,h=>by
  rw[show i+1+d=(i+d)+1 by lia]at h;exact zJF hf hi hx i d (hi _ _ (zD7 hf hx i) (zD7 hf hx (i+d)) h)
theorem zKO:∀l:List Nat,¬l.Nodup->∃i j,i<j/\j<l.length/\l.getD i 0=l.getD j 0
 |[],h=>absurd qEq h
 |a::l,h=>by
  by_cases ha:a∈l
  ·obtain⟨j,hj,e⟩:=qC5 ha;exact⟨0,j+1,by lia,by simp;lia,by simp[hj,e]⟩
  ·have:¬l.Nodup:=fun hn=>h (qB4.mpr ⟨ha,hn⟩)
   obtain⟨i,j,h1,h2,h3⟩:=zKO l this;exact⟨i+1,j+1,by lia,by simp;lia,by simpa using h3⟩
theorem zFU:∀{a b:List Nat},a.Nodup->(∀x∈a,x∈b)->a.length<=b.length
 |[],b,_,_=>by simp
 |x::a,b,hn,h=>by
  obtain⟨h1,h2⟩:=qB4.mp hn;have hx:=h x (by simp)
  have:=zFU (b:=b.erase x) h2 fun y hy=>by
   have hne:y≠x:=fun z=>h1 (z▸hy)
   exact(qEn hne).mpr (h y (by simp[hy]))
  rw[qDr hx]at this
  have:=qE8 hx
  simp only[qBj]
  lia
theorem zGF{f:Nat->Nat}{M:Nat}(hf:∀x,x<M->f x<M)(hi:∀x y,x<M->y<M->f x=f y->x=y){x:Nat}(hx:x<M):∃p,1<=p/\p<=M/\itr f p x=x/\∀q,1<=q->q<p->itr f q x≠x:=by
 have hn:¬((qAg (M+1)).map fun k=>itr f k x).Nodup:=fun hn=>by
  have:=zFU (b:=qAg M) hn fun y hy=>by
   obtain⟨k,_,rfl⟩:=qB6.mp hy;exact qBw.mpr (zD7 hf hx k)
  simp at this
  lia
 obtain⟨i,j,h1,h2,h3⟩:=zKO _ hn;simp at h2;have e:itr f i x=itr f j x:=by
  simpa[show i<M+1 by lia,h2]using h3
 have hb:itr f (j-i) x=x:=zJF hf hi hx i (j-i) (by rw[show i+(j-i)=j by lia];exact e);obtain⟨p,h4,h5,h6⟩:=zSN (P:=fun p=>1<=p/\itr f p x=x) (j-i) ⟨by lia,hb⟩;exact⟨p,h5.1,by lia,h5.2,fun q h7 h8 h9=>h6 q h8 ⟨h7,h9⟩⟩
noncomputable def jn(cs:List Nat)(e:Nat):Nat:=e/4*4+(e%4^^^(cs.getD (e/4) 0+1))
theorem xor4:∀s,s<4->∀w,w<3->(s^^^(w+1))<4/\((s^^^(w+1))^^^(w+1))=s:=by decide
theorem zCS{cs:List Nat}{n e:Nat}(hl:cs.length=n)(hw:∀c∈cs,c<3)(he:e<4*n):jn cs e<4*n/\jn cs (jn cs e)=e:=by
 have hc:cs.getD (e/4) 0<3:=zCJ hw (by lia);obtain⟨h1,h2⟩:=xor4 (e%4) (by lia) _ hc;have hq:jn cs e/4=e/4:=by unfold jn;omega
 have hr:jn cs e%4=(e%4^^^(cs.getD (e/4) 0+1)):=by unfold jn;omega
 refine⟨by unfold jn;lia,?_⟩;show jn cs e/4*4+(jn cs e%4^^^(cs.getD (jn cs e/4) 0+1))=e;rw[hq,hr,h2]
 lia
noncomputable def nt(ts:List Nat)(e:Nat):Nat:=ts.getD e 0
structure NetN(ts:List Nat)(M:Nat):Prop where
 len:ts.length=M
 lt:∀e,e<M->nt ts e<M
 inv:∀e,e<M->nt ts (nt ts e)=e
def stp(ts cs:List Nat)(e:Nat):Nat:=nt ts (jn cs e)
theorem zE1{ts cs:List Nat}{n:Nat}(hN:NetN ts (4*n))(hl:cs.length=n)(hw:∀c∈cs,c<3):(∀x,x<4*n->stp ts cs x<4*n)/\∀x y,x<4*n->y<4*n->stp ts cs x=stp ts cs y->x=y:=by
 refine⟨fun x hx=>hN.lt _ (zCS hl hw hx).1,fun x y hx hy e=>?_⟩;have h1:=congrArg (nt ts) e;unfold stp at h1;rw[hN.inv _ (zCS hl hw hx).1,hN.inv _ (zCS hl hw hy).1]at h1;have h2:=congrArg (jn cs) h1;rw[(zCS hl hw hx).2,(zCS hl hw hy).2]at h2;exact h2
def orb(ts cs:List Nat)(e:Nat)(k:Nat):List Nat:=(qAg k).flatMap fun i=>[itr (stp ts cs) i e,jn cs (itr (stp ts cs) i e)]
theorem zEK(ts cs:List Nat)(e k:Nat):orb ts cs e (k+1)=orb ts cs e k++[itr (stp ts cs) k e,jn cs (itr (stp ts cs) k e)]:=by
 unfold orb;rw[qDe,List.flatMap_append];simp
theorem zDM(ts cs:List Nat)(e:Nat):∀k,(orb ts cs e k).length=2*k
 |0=>rfl
 |k+1=>by rw[zEK,qAy,zDM ts cs e k];simp;lia
end Mp
namespace Mp
noncomputable section
open Mi PySem
def zMH:SM:=(sRet 0 0 [0] (eB divD (eBi lenD (aCons (eV 0) aNil)) (eC (.int 4))))
def zDO:FM:=runF 1 1 zMH
def zF0:SM:=(sSeq (sSet 2 0 [1] (eB mulD (eC (.int 7919)) (eB addD (eV 1) (eC (.int 1)))))
 (sSeq (sIf (tB (eB (cmpD fun i j=>decide (i<j)) (eV 1) (eBi lenD (aCons (eV 0) aNil)))) (sSet 2 1 [2,0,1] (eB addD (eV 2) (eB ixD (eV 0) (eV 1)))) sNil)
 (sRet 0 0 [2] (eB modD (eB mulD (eB modD (eB mulD (eB modD (eV 2) (eC (.int 1000000000039))) (eC (.int 48271))) (eC (.int 2147483647))) (eC (.int 69621))) (eC (.int 2147483629))))))
def zAI:FM:=runF 2 3 zF0
def zDV:SM:=(sSeq (sSet 3 1 [6,2] (eComp (iR1 (aCons (eB mulD (eC (.int 2)) (eV 2)) aNil)) 1 (.one 7) Mi.tYes (eB divD (eV 7) (eC (.int 2)))))
 (sSeq (sSet 4 0 [0,1] (eB modD (eCall zAI (aCons (eV 0) (aCons (eV 1) aNil))) (eC (.int 1000003))))
 (sSeq (sSet 5 9 [] (eLst aNil))
 (sSeq (sForR (iR1 (aCons (eB mulD (eC (.int 2)) (eV 2)) aNil)) 6 (sSeq (sSet 4 0 [4,0,6,1] (eB modD (eB addD (eB mulD (eV 4) (eC (.int 48271))) (eCall zAI (aCons (eV 0) (aCons (eB addD (eB addD (eV 1) (eC (.int 1))) (eV 6)) aNil)))) (eC (.int 2147483647))))
 (sAppPop 5 3 (eB modD (eB divD (eV 4) (eC (.int 16))) (eBi lenD (aCons (eV 3) aNil))))))
 (sRetV 9 5)))))
def zCP:FM:=runF 3 7 zDV
def zDE:SM:=(sSeq (sSet 3 1 [2] (eBi rangeD (aCons (eB mulD (eC (.int 4)) (eV 2)) aNil)))
 (sSeq (sSet 4 1 [2] (eB repD (eLst (aCons (eC (.int 0)) aNil)) (eB mulD (eC (.int 4)) (eV 2))))
 (sSeq (sSet 5 0 [0,1] (eB modD (eCall zAI (aCons (eV 0) (aCons (eV 1) aNil))) (eC (.int 1000003))))
 (sSeq (sForR (iR1 (aCons (eB mulD (eC (.int 2)) (eV 2)) aNil)) 6 (sSeq (sSet 5 0 [5,0,6,1] (eB modD (eB addD (eB mulD (eV 5) (eC (.int 48271))) (eCall zAI (aCons (eV 0) (aCons (eB addD (eB addD (eV 1) (eC (.int 1))) (eV 6)) aNil)))) (eC (.int 2147483647))))
 (sSeq (sPop 7 3 (eC (.int 0)))
 (sSeq (sPop 8 3 (eB modD (eB divD (eV 5) (eC (.int 16))) (eBi lenD (aCons (eV 3) aNil))))
 (sSeq (sItem 4 0 (eV 7) (eV 8))
 (sItem 4 0 (eV 8) (eV 7)))))))
 (sRetV 1 4)))))
def zDD:FM:=runF 3 9 zDE
def zDX:SM:=(sSeq (sSet 2 0 [0,1] (eB ixD (eLst (aCons (eTup (aCons (eC (.int 1)) (aCons (eC (.int 0)) (aCons (eC (.int 3)) (aCons (eC (.int 2)) aNil))))) (aCons (eTup (aCons (eC (.int 2)) (aCons (eC (.int 3)) (aCons (eC (.int 0)) (aCons (eC (.int 1)) aNil))))) (aCons (eTup (aCons (eC (.int 3)) (aCons (eC (.int 2)) (aCons (eC (.int 1)) (aCons (eC (.int 0)) aNil))))) aNil)))) (eB ixD (eV 0) (eB divD (eV 1) (eC (.int 4))))))
 (sRet 1 1 [1,2] (eB addD (eB subD (eV 1) (eB modD (eV 1) (eC (.int 4)))) (eB ixD (eV 2) (eB modD (eV 1) (eC (.int 4)))))))
def zCQ:FM:=runF 2 3 zDX
def zEF:SM:=(sSeq (sSet 3 9 [] (eLst aNil))
 (sSeq (sSet 4 0 [2] (eV 2))
 (sSeq (sWhile (Mi.tOr (tB (eB eqD (eV 3) (eLst aNil))) (tB (eB neD (eV 4) (eV 2)))) (sSeq (sApp 3 0 (eV 4))
 (sSeq (sApp 3 1 (eCall zCQ (aCons (eV 1) (aCons (eV 4) aNil))))
 (sSet 4 0 [0,3] (eB ixD (eV 0) (eB ixD (eV 3) (eU negD (eC (.int 1)))))))))
 (sRetV 9 3))))
def zD5:FM:=runF 3 5 zEF
def zDW:SM:=(sSeq (sSet 2 1 [] eDct0)
 (sSeq (sSet 3 9 [] (eLst aNil))
 (sSeq (sForR (iR1 (aCons (eBi lenD (aCons (eV 0) aNil)) aNil)) 4 (sIf (tB (eB (dinD true) (eV 4) (eV 2))) (sSeq (sSet 5 9 [0,1,4] (eCall zD5 (aCons (eV 0) (aCons (eV 1) (aCons (eV 4) aNil)))))
 (sSeq (sFor [5] (iSq (eV 5)) (.one 6) (sDput 2 (eV 6) (eC (.bl true))))
 (sAppF 3 [5] (eV 5)))) sNil))
 (sRetV 1 3))))
def zAP:FM:=runF 2 7 zDW
def zGL:SM:=(sSeq (sSet 3 1 [0] (eBi listD (aCons (eV 0) aNil)))
 (sSeq (sItem 3 0 (eV 1) (eV 2))
 (sRetV 1 3)))
def m_changed_at:FM:=runF 3 4 zGL
def zJS:SM:=(sRet 0 0 [1,0] (eB xorD (eV 1) (eB addD (eV 0) (eC (.int 1)))))
def zJA:FM:=runF 2 2 zJS
def zED:SM:=(sSeq (sSet 2 0 [1] (eB divD (eV 1) (eC (.int 4))))
 (sRet 1 1 [2,0,1] (eB addD (eB mulD (eV 2) (eC (.int 4))) (eCall zJA (aCons (eB ixD (eV 0) (eV 2)) (aCons (eB modD (eV 1) (eC (.int 4))) aNil))))))
def zBO:FM:=runF 2 3 zED
def zGH:SM:=(sSeq (sSet 3 1 [2,1] (eLst (aCons (eV 2) (aCons (eCall zBO (aCons (eV 1) (aCons (eV 2) aNil))) aNil))))
 (sSeq (sWhile (tB (eB neD (eB ixD (eV 0) (eB ixD (eV 3) (eU negD (eC (.int 1))))) (eV 2))) (sSeq (sSet 4 0 [0,3] (eB ixD (eV 0) (eB ixD (eV 3) (eU negD (eC (.int 1))))))
 (sExt 3 0 (eLst (aCons (eV 4) (aCons (eCall zBO (aCons (eV 1) (aCons (eV 4) aNil))) aNil))))))
 (sRetV 1 3)))
def zDF:FM:=runF 3 5 zGH
def zFD:SM:=(sSeq (sSet 2 9 [] (eLst aNil))
 (sSeq (sSet 3 1 [] eDct0)
 (sSeq (sForR (iR1 (aCons (eBi lenD (aCons (eV 0) aNil)) aNil)) 4 (sIf (tB (eB (dinD true) (eV 4) (eV 3))) (sSeq (sSet 5 1 [0,1,4] (eCall zDF (aCons (eV 0) (aCons (eV 1) (aCons (eV 4) aNil)))))
 (sSeq (sAppF 2 [5] (eV 5))
 (sDupd 3 (eComp (iSq (eV 5)) 1 (.one 6) Mi.tYes (eTup (aCons (eV 6) (aCons (eC (.bl true)) aNil))))))) sNil))
 (sRetV 1 2))))
def zDN:FM:=runF 2 6 zFD
def zD4:SM:=(sSeq (sSet 2 1 [0] (eB repD (eLst (aCons (eC (.int 0)) aNil)) (eB mulD (eC (.int 2)) (eBi lenD (aCons (eV 0) aNil)))))
 (sSeq (sSet 3 9 [] (eLst aNil))
 (sSeq (sSet 4 1 [] eDct0)
 (sSeq (sFor [0] (iSq (eV 0)) (.one 5) (sSeq (sApp 3 1 (eTup (aCons (eV 5) (aCons (eDGet (eV 4) (eV 5) (eC (.int 0))) aNil))))
 (sDput 4 (eV 5) (eC (.int 2)))))
 (sSeq (sForR (iR1 (aCons (eBi lenD (aCons (eV 0) aNil)) aNil)) 6 (sSeq (sUnp [5,7] [3,6] (eB ixD (eV 3) (eB subD (eV 6) (eC (.int 1)))))
 (sSeq (sUnp [8,9] [3,6] (eB ixD (eV 3) (eV 6)))
 (sSeq (sSet 10 1 [5,1,7] (eB addD (eB mulD (eC (.int 4)) (eV 5)) (eB ixD (eB ixD (eV 1) (eV 5)) (eB addD (eV 7) (eC (.int 1))))))
 (sSeq (sSet 11 1 [8,9,1] (eB addD (eB mulD (eC (.int 4)) (eV 8)) (eB ixD (eB ixD (eV 1) (eV 8)) (eV 9))))
 (sSeq (sItem 2 0 (eV 10) (eV 11))
 (sItem 2 0 (eV 11) (eV 10))))))))
 (sRetV 1 2))))))
def zD1:FM:=runF 2 12 zD4
def zEE:SM:=(sSeq (sSet 2 9 [] (eLst aNil))
 (sSeq (sForR (iR1 (aCons (eV 1) aNil)) 3 (sSeq (sSet 4 1 [] (eLst (aCons (eC (.int 0)) (aCons (eC (.int 1)) (aCons (eC (.int 2)) (aCons (eC (.int 3)) aNil))))))
 (sSeq (sSet 5 1 [3,0] (eB addD (eB modD (eB mulD (eB divD (eV 0) (eB addD (eV 3) (eC (.int 1)))) (eC (.int 48271))) (eC (.int 1000003))) (eV 3)))
 (sSeq (sSet 6 9 [] (eLst aNil))
 (sSeq (sFor [] (iSq (eTup (aCons (eC (.int 4)) (aCons (eC (.int 3)) (aCons (eC (.int 2)) (aCons (eC (.int 1)) aNil)))))) (.one 7) (sSeq (sAppPop 6 4 (eB modD (eV 5) (eV 7)))
 (sSet 5 0 [5,7] (eB divD (eV 5) (eV 7)))))
 (sAppF 2 [6] (eV 6)))))))
 (sRetV 1 2)))
def zE7:FM:=runF 2 8 zEE
def zG2:SM:=(sRet 0 0 [0,1] (eBi lenD (aCons (eCall zDN (aCons (eV 0) (aCons (eV 1) aNil))) aNil)))
def zC5:FM:=runF 2 2 zG2
def zDU:SM:=(sSeq (sSet 2 0 [0,1] (eCallN zC5 (aCons (eV 0) (aCons (eV 1) aNil))))
 (sIf (tB (eB neD (eV 2) (eC (.int 1)))) (sRaise "NoOne" "many" (aCons (eV 2) aNil)) sNil))
def zAY:FM:=runF 2 3 zDU
def zMI:SM:=(sSeq (sSet 1 9 [] (eLst aNil))
 (sSeq (sFor [0] (iSq (eV 0)) (.one 2) (sSeq (sSet 3 1 [2] (eBi sortD (aCons (eLst (aCons (eB ixD (eV 2) (eC (.int 0))) (aCons (eB ixD (eV 2) (eC (.int 1))) aNil))) aNil)))
 (sSeq (sIf (tB (eB (inD true) (eC (.int 0)) (eV 3))) (sSet 3 1 [2] (eBi sortD (aCons (eLst (aCons (eB ixD (eV 2) (eC (.int 2))) (aCons (eB ixD (eV 2) (eC (.int 3))) aNil))) aNil))) sNil)
 (sApp 1 0 (eB subD (eB ixD (eV 3) (eC (.int 1))) (eC (.int 1)))))))
 (sRetV 9 1)))
def zF8:FM:=runF 1 4 zMI
def zG3:SM:=(sSeq (sSet 2 9 [0,1] (eCall zCP (aCons (eV 0) (aCons (eC (.int 2)) (aCons (eV 1) aNil)))))
 (sSeq (sSet 3 1 [1,0] (eCall zE7 (aCons (eCall zAI (aCons (eV 0) (aCons (eC (.int 1)) aNil))) (aCons (eV 1) aNil))))
 (sRet 1 1 [2,3] (eTup (aCons (eCall zD1 (aCons (eV 2) (aCons (eV 3) aNil))) (aCons (eCall zF8 (aCons (eV 3) aNil)) aNil))))))
def zC6:FM:=runF 2 4 zG3
def zFC:SM:=(sSeq (sSet 3 2 [1,2] (eComp (iSq (eC (.scr [0,1,2]))) 1 (.one 4) (tB (eB neD (eV 4) (eB ixD (eV 1) (eV 2)))) (eCall m_changed_at (aCons (eV 1) (aCons (eV 2) (aCons (eV 4) aNil))))))
 (sIf (tB (eB eqD (eCall zC5 (aCons (eV 0) (aCons (eB ixD (eV 3) (eC (.int 0))) aNil))) (eC (.int 1)))) (sRetIx 1 3 (eC (.int 0))) (sRetIx 1 3 (eC (.int 1)))))
def zBN:FM:=runF 3 4 zFC
def zD9:SM:=(sSeq (sDrop (eCall zAY (aCons (eV 0) (aCons (eV 1) aNil))))
 (sRet 1 1 [0,1,2] (eCallN zBN (aCons (eV 0) (aCons (eV 1) (aCons (eV 2) aNil))))))
def zAU:FM:=runF 3 3 zD9
def zTG:SM:=(sSeq (sDrop (eCall zAY (aCons (eV 0) (aCons (eV 1) aNil))))
 (sSeq (sSet 3 2 [1] (eLst (aCons (eBi listD (aCons (eV 1) aNil)) aNil)))
 (sSeq (sFor [2] (iSq (eV 2)) (.one 4) (sApp 3 1 (eCallN zBN (aCons (eV 0) (aCons (eB ixD (eV 3) (eU negD (eC (.int 1)))) (aCons (eV 4) aNil))))))
 (sRetV 2 3))))
def zEM:FM:=runF 3 5 zTG
def zHS:SMM:=(mSeq (mLift (sSet 3 1 [] (eLst aNil)))
 (mSeq (mLift (sFor [1] (iSq (eV 1)) (.one 4) (sForR (iR1 (aCons (eBi lenD (aCons (eV 4) aNil)) aNil)) 5 (sSeq (sSet 6 1 [0,4,5] (eCall zBN (aCons (eV 0) (aCons (eV 4) (aCons (eV 5) aNil)))))
 (sIf (tB (eB (dinT true) (eBi tupD (aCons (eV 6) aNil)) (eVL 2))) (sSeq (sTputL 2 1 (eBi tupD (aCons (eV 6) aNil)) (eB addD (eTIx (eVL 2) (eBi tupD (aCons (eV 4) aNil))) (eLst (aCons (eV 5) aNil))))
 (sAppF 3 [6] (eV 6))) sNil)))))
 (mRetV 3)))
def zCA:FW:=uniM (runM 1 3 7 2 2 zHS)
def zJR:SM:=(sSeq (sIf (tB (eB (cmpD fun i j=>decide (j<i)) (eCallN zDO (aCons (eV 0) aNil)) (eC (.int 6)))) (sRaise0 "TooMany" (aCons (eC (.str "ways are told for nets of at most six places")) aNil)) sNil)
 (sSeq (sDrop (eCall zAY (aCons (eV 0) (aCons (eV 1) aNil))))
 (sSeq (sDrop (eCall zAY (aCons (eV 0) (aCons (eV 2) aNil))))
 (sSeq (sSet 3 2 [1] (eTOne (eBi tupD (aCons (eV 1) aNil)) (eLst aNil)))
 (sSeq (sSet 4 1 [1] (eLst (aCons (eV 1) aNil)))
 (sSeq (sWhile (tB (eB (dinT true) (eBi tupD (aCons (eV 2) aNil)) (eV 3))) (sCallW2N 4 3 2 1 [0,4] (eV 0) (eV 4) zCA))
 (sRetTIx 1 3 (eBi tupD (aCons (eV 2) aNil)))))))))
def zB7:FM:=runF 3 5 zJR
def zD3:SM:=(sSeq (sIf (Mi.tOr (tNo (tM (eIsX ["RoundError","NoOne","TooMany"] [] (eV 0)))) (tAn (tM (eIsX ["TooMany"] ["RoundError","NoOne"] (eV 0))) (tM (eIsX ["NoOne"] ["RoundError","TooMany"] (eV 0))))) (sRet 1 1 [] (eTup (aCons (eC (.str "other")) (aCons (eC (.int 0)) aNil)))) sNil)
 (sSeq (sIf (tM (eIsX ["TooMany"] ["RoundError","NoOne"] (eV 0))) (sRet 1 1 [] (eTup (aCons (eC (.str "many")) (aCons (eC (.int 0)) aNil)))) sNil)
 (sSeq (sIf (tAn (tM (eIsX ["NoOne"] ["RoundError","TooMany"] (eV 0))) (tAn (tM (eIsi "int" (eAtX ["NoOne"] "many" (eV 0)))) (tNo (tM (eIsi "bool" (eAtX ["NoOne"] "many" (eV 0))))))) (sRet 1 1 [0] (eTup (aCons (eC (.str "rounds")) (aCons (eAtX ["NoOne"] "many" (eV 0)) aNil)))) sNil)
 (sRet 1 1 [] (eTup (aCons (eC (.str "other")) (aCons (eC (.int 0)) aNil)))))))
def zAR:FM:=runF 1 1 zD3
def zHT:SM:=(sSeq (sSet 5 0 [] (eC .non))
 (sSeq (sTry [0,5,1,2,4,3] (some 5) (eIf (tB (eB eqD (eV 0) (eC (.int 0)))) (eCall zAU (aCons (eV 1) (aCons (eV 2) (aCons (eV 4) aNil)))) (eIf (tB (eB eqD (eV 0) (eC (.int 1)))) (eCall zEM (aCons (eV 1) (aCons (eV 2) (aCons (eLst (aCons (eV 4) (aCons (eV 4) aNil))) aNil)))) (eCall zB7 (aCons (eV 1) (aCons (eV 2) (aCons (eV 3) aNil)))))) ["RoundError","NoOne","TooMany"] 6 (sSet 5 1 [6] (eCall zAR (aCons (eV 6) aNil))))
 (sRetV 0 5)))
def zB4:FM:=runF 5 7 zHT
def zJT:SM:=(sSeq (sIf (tAn (tB (eB eqD (eV 0) (eC (.int 2)))) (tB (eB (cmpD fun i j=>decide (j<i)) (eBi lenD (aCons (eV 1) aNil)) (eC (.int 24))))) (sRet 1 1 [] (eTup (aCons (eC (.str "many")) (aCons (eC (.int 0)) aNil)))) sNil)
 (sSeq (sSet 4 1 [2] (eLst (aCons (eV 2) aNil)))
 (sSeq (sIf (tB (eB eqD (eV 0) (eC (.int 2)))) (sSet 4 1 [2,3] (eLst (aCons (eV 2) (aCons (eV 3) aNil)))) sNil)
 (sSeq (sFor [4] (iSq (eV 4)) (.one 5) (sSeq (sSet 6 0 [1,5] (eBi lenD (aCons (eCall zAP (aCons (eV 1) (aCons (eV 5) aNil))) aNil)))
 (sIf (tB (eB (cmpD fun i j=>decide (j<i)) (eV 6) (eC (.int 1)))) (sRet 1 1 [6] (eTup (aCons (eC (.str "rounds")) (aCons (eV 6) aNil)))) sNil)))
 (sRet 1 1 [] (eC .non))))))
def zCR:FM:=runF 4 7 zJT
def zRM:SM:=(sSeq (sSet 1 1 [0] (eB addD (eC (.int 1)) (eB modD (eCall zAI (aCons (eV 0) (aCons (eC (.int 0)) aNil))) (eC (.int 8)))))
 (sSeq (sSet 2 1 [0,1] (eCall zDD (aCons (eV 0) (aCons (eC (.int 2)) (aCons (eV 1) aNil)))))
 (sSeq (sSet 3 2 [0,1] (eComp (iR1 (aCons (eC (.int 2)) aNil)) 1 (.one 11) Mi.tYes (eComp (iR1 (aCons (eV 1) aNil)) 1 (.one 12) Mi.tYes (eB modD (eCall zAI (aCons (eV 0) (aCons (eB addD (eB addD (eC (.int 20)) (eB mulD (eC (.int 10)) (eV 11))) (eV 12)) aNil))) (eC (.int 3))))))
 (sSeq (sIf (tB (eB eqD (eB modD (eB divD (eCall zAI (aCons (eV 0) (aCons (eC (.int 0)) aNil))) (eC (.int 8))) (eC (.int 2))) (eC (.int 1)))) (sSeq (sUnp [2,4] [0,1] (eCall zC6 (aCons (eV 0) (aCons (eV 1) aNil))))
 (sItemF 3 [4] (eB modD (eCall zAI (aCons (eV 0) (aCons (eC (.int 50)) aNil))) (eC (.int 2))) (eV 4))) sNil)
 (sSeq (sSet 5 0 [1,0] (eB modD (eCall zAI (aCons (eV 0) (aCons (eC (.int 51)) aNil))) (eV 1)))
 (sSeq (sSet 6 1 [] (eLst (aCons (eC (.int 0)) (aCons (eC (.int 1)) aNil))))
 (sSeq (sIf (Mi.tOr (tB (eB neD (eV 1) (eC (.int 6)))) (tB (eB (cmpD fun i j=>decide (j<i)) (eB addD (eBi lenD (aCons (eCall zAP (aCons (eV 2) (aCons (eB ixD (eV 3) (eC (.int 0))) aNil))) aNil)) (eBi lenD (aCons (eCall zAP (aCons (eV 2) (aCons (eB ixD (eV 3) (eC (.int 1))) aNil))) aNil))) (eC (.int 2))))) (sSet 6 1 [] (eLst (aCons (eC (.int 0)) (aCons (eC (.int 1)) (aCons (eC (.int 2)) aNil))))) sNil)
 (sSeq (sSet 7 2 [3] (eLst (aCons (eBi listD (aCons (eB ixD (eV 3) (eC (.int 0))) aNil)) (aCons (eBi listD (aCons (eB ixD (eV 3) (eC (.int 1))) aNil)) aNil))))
 (sSeq (sFor [6] (iSq (eV 6)) (.one 8) (sSeq (sSet 9 1 [8,2,3] (eCall zCR (aCons (eV 8) (aCons (eV 2) (aCons (eB ixD (eV 3) (eC (.int 0))) (aCons (eB ixD (eV 3) (eC (.int 1))) aNil))))))
 (sSeq (sSet 10 0 [8,5,2,7] (eCall zB4 (aCons (eV 8) (aCons (eBi listD (aCons (eV 2) aNil)) (aCons (eB ixD (eV 7) (eC (.int 0))) (aCons (eB ixD (eV 7) (eC (.int 1))) (aCons (eV 5) aNil)))))))
 (sIf (Mi.tOr (tAn (tB (eB isD (eV 9) (eC .non))) (tNo (tM (eIsi "list" (eV 10))))) (tAn (tB (eB isntD (eV 9) (eC .non))) (tB (eB neD (eV 10) (eV 9))))) (sRet 0 0 [] (eC (.bl false))) sNil))))
 (sRet 0 0 [7,3] (eB eqD (eV 7) (eV 3))))))))))))
def zKS:FM:=runF 1 11 zRM
end
end Mp
namespace Mp
open Mi PySem
theorem bx4:∀s:Nat,s<4->∀w:Nat,w<3->qIg (s:Int) ((w:Int)+1)=((s^^^(w+1):Nat):Int):=by decide
theorem zM5{w s:Nat}(hw:w<3)(hs:s<4):zJA [.int (w:Int),.int (s:Int)]=okR (.int ((s^^^(w+1):Nat):Int)):=by
 refine zBE rfl ?_;show zJS [some (.int (w:Int),0),some (.int (s:Int),0)]=_;unfold zJS;simp[bx4 s hs w hw]
theorem zHH{cs:List Nat}{n e:Nat}(hl:cs.length=n)(hn:n<=1000)(hw:∀c∈cs,c<3)(he:e<4*n):zBO [rowD (numL cs),.int (e:Int)]=okR (.int (jn cs e:Nat)):=by
 have hx:=zHI cs (e/4) (by lia);have hc:cs.getD (e/4) 0<3:=zCJ hw (by lia);have hj:=zM5 hc (show e%4<4 by lia);have e1:(e:Int)/4=((e/4:Nat):Int):=by lia
 have e2:(e:Int)%4=((e%4:Nat):Int):=by lia
 refine zBE rfl ?_;show zED [some (rowD (numL cs),0),some (.int (e:Int),0),none]=_;unfold zED
 generalize rowD (numL cs)=C at hx ⊢
 refine zBT fun bb hb=>zAK (r:=[some (C,0),some (.int (e:Int),0),some (.int ((e/4:Nat):Int),0)]) (by simp) ?_
 subst hb;have m1:mulD (.int ((e/4:Nat):Int)) (.int 4)=some (.int (((e/4:Nat):Int)*4)):=zO9 (by lia) (by lia);have hm:modD (.int (e:Int)) (.int 4)=some (.int ((e%4:Nat):Int)):=by simp
 have ejn:((e/4:Nat):Int)*4+((e%4^^^(cs.getD (e/4) 0+1):Nat):Int)=((jn cs e:Nat):Int):=by unfold jn;lia
 generalize((e/4:Nat):Int)=q at *
 generalize((e%4:Nat):Int)=r at *
 simp only[zOU,x_eB,x_eV,x_eC,zG4,zB8,zC8,zB3,zBF,qB8,qBt,qB1,qAu,zA1,m1,hm,hx,hj,zA8,zXA,ejn];simp
theorem zXN:∀w:Nat,w<3->∀s:Nat,s<4->itA [Dt.tup [.int 1,.int 0,.int 3,.int 2],Dt.tup [.int 2,.int 3,.int 0,.int 1],Dt.tup [.int 3,.int 2,.int 1,.int 0]] (w:Int)=some (Dt.tup ((qAg 4).map fun s:Nat=>Dt.int ((s^^^(w+1):Nat):Int))):=by
 intro w hw s hs
 match w,hw with
 |0,_=>rfl
 |1,_=>rfl
 |2,_=>rfl
theorem zKV{cs:List Nat}{n e:Nat}(hl:cs.length=n)(hn:n<=1000)(hw:∀c∈cs,c<3)(he:e<4*n):zCQ [rowD (numL cs),.int (e:Int)]=okR (.int (jn cs e:Nat)):=by
 have hx:=zHI cs (e/4) (by lia);have hc:cs.getD (e/4) 0<3:=zCJ hw (by lia);have h3:=zXN _ hc (e%4) (by lia);have e1:(e:Int)/4=((e/4:Nat):Int):=by lia
 have e2:(e:Int)%4=((e%4:Nat):Int):=by lia
 generalize hT:Dt.tup ((qAg 4).map fun s:Nat=>Dt.int ((s^^^(cs.getD (e/4) 0+1):Nat):Int))=T at h3
 have h4:ixD T (.int ((e%4:Nat):Int))=some (.int ((e%4^^^(cs.getD (e/4) 0+1):Nat):Int)):=by
  rw[<- hT];refine zL1 (j:=e%4) rfl ?_;rw[qAf,qDf (by lia)];rfl
 have hTd:T.dep=1:=by rw[<- hT];rfl
 refine zBE rfl ?_;show zDX [some (rowD (numL cs),0),some (.int (e:Int),0),none]=_;unfold zDX
 generalize rowD (numL cs)=C at hx ⊢
 have hdv:divD (.int (e:Int)) (.int 4)=some (.int ((e/4:Nat):Int)):=by simp
 have hm:modD (.int (e:Int)) (.int 4)=some (.int ((e%4:Nat):Int)):=by simp
 refine zBT fun bb hb=>zAK (r:=[some (C,0),some (.int (e:Int),0),some (T,0)]) (by
  rw[<- e1]at hx;have h3':ixD (.lst [Dt.tup [.int 1,.int 0,.int 3,.int 2],Dt.tup [.int 2,.int 3,.int 0,.int 1],Dt.tup [.int 3,.int 2,.int 1,.int 0]]) (.int ((cs.getD (e/4) 0:Nat):Int))=some T:=h3;simp[hx,h3',hTd,-qA0,-za0]) ?_
 subst hb;have ejn:(e:Int)-((e%4:Nat):Int)+((e%4^^^(cs.getD (e/4) 0+1):Nat):Int)=((jn cs e:Nat):Int):=by unfold jn;lia
 generalize((e%4:Nat):Int)=r at *
 simp only[zOU,x_eB,x_eV,x_eC,zB3,zBF,qB8,qBt,qB1,qAu,zA1,hm,h4,zA8,zXA,zZY,ejn];simp
theorem zQE{l:List Nat}{x:Nat}:ixD (rowD (numL (l++[x]))) (.int (-1))=some (.int (x:Int)):=by
 show itA ((numL (l++[x])).map Dt.int) (-1)=_;unfold itA ixA;simp[numL];rw[if_pos (by lia)];simp;rw[show(-1+((l.length:Int)+1)).toNat=l.length by lia];simp
theorem zG8{ts cs:List Nat}{n e:Nat}(hN:NetN ts (4*n))(hl:cs.length=n)(hn:n<=100)(hw:∀c∈cs,c<3)(he:e<4*n){p:Nat}(p1:1<=p)(p2:p<=4*n)(p3:itr (stp ts cs) p e=e)(p4:∀q,1<=q->q<p->itr (stp ts cs) q e≠e) :
  zDF [rowD (numL ts),rowD (numL cs),.int (e:Int)]=okR (rowD (numL (orb ts cs e p))):=by
 obtain⟨st1,_⟩:=zE1 hN hl hw;have hlt:∀k,itr (stp ts cs) k e<4*n:=zD7 st1 he;have hjn:∀k,zBO [rowD (numL cs),.int ((itr (stp ts cs) k e:Nat):Int)]=okR (.int (jn cs (itr (stp ts cs) k e):Nat)):=fun k=>zHH hl (by lia) hw (hlt k)
 have hnt:∀k,ixD (rowD (numL ts)) (.int ((jn cs (itr (stp ts cs) k e):Nat):Int))=some (.int ((itr (stp ts cs) (k+1) e:Nat):Int)):=fun k=>zHI ts _ (by rw[hN.len];exact(zCS hl hw (hlt k)).1)
 have hlast:∀k,ixD (rowD (numL (orb ts cs e (k+1)))) (.int (-1))=some (.int ((jn cs (itr (stp ts cs) k e):Nat):Int)):=fun k=>by
  rw[zEK,show orb ts cs e k++[itr (stp ts cs) k e,jn cs (itr (stp ts cs) k e)]=(orb ts cs e k++[itr (stp ts cs) k e])++[jn cs (itr (stp ts cs) k e)] by simp];exact zQE
 have hdr:∀k,(rowD (numL (orb ts cs e k))).dep=1:=fun k=>zAZ _
 have hext:∀k:Nat,k<=1000->∀o4,sExt 3 0 (eLst (aCons (eV 4) (aCons (eCall zBO (aCons (eV 1) (aCons (eV 4) aNil))) aNil))) [some (rowD (numL ts),0),some (rowD (numL cs),0),some (.int (e:Int),0),some (rowD (numL (orb ts cs e (k+1))),1),some (.int ((itr (stp ts cs) (k+1) e:Nat):Int),o4)]=okR (.nx [some (rowD (numL ts),0),some (rowD (numL cs),0),some (.int (e:Int),0),some (rowD (numL (orb ts cs e (k+2))),1),some (.int ((itr (stp ts cs) (k+1) e:Nat):Int),o4)]):=by
  intro k hk o4;have hj:=hjn (k+1);have ol:=zDM ts cs e (k+1);have es:=zEK ts cs e (k+1)
  generalize rowD (numL cs)=C at hj ⊢
  generalize rowD (numL ts)=T
  generalize hx:itr (stp ts cs) (k+1) e=x at hj es ⊢
  generalize hy:jn cs x=y at hj es ⊢
  rw[show k+1+1=k+2 from rfl]at es;rw[es];unfold rowD numL sExt;simp[hj,ol]
  lia
 have key:zGH [some (rowD (numL ts),0),some (rowD (numL cs),0),some (.int (e:Int),0),none,none]=okR (.rt (rowD (numL (orb ts cs e p)))):=by
  unfold zGH;have h0:=hjn 0;refine zBT fun bb hb=>zAK (r:=[some (rowD (numL ts),0),some (rowD (numL cs),0),some (.int (e:Int),0),some (rowD (numL (orb ts cs e 1)),1),none]) (by
   have eo:rowD (numL (orb ts cs e 1))=.lst [.int (e:Int),.int ((jn cs e:Nat):Int)]:=rfl
   replace h0:zBO [rowD (numL cs),.int (e:Int)]=okR (.int ((jn cs e:Nat):Int)):=h0
   rw[eo]
   generalize rowD (numL cs)=C at h0 ⊢
   generalize rowD (numL ts)=T
   simp[h0]) ?_
  subst hb;refine zBT fun bb hb=>?_
  refine zN8 (fun r=>∃k o4,k+1<=p/\r=[some (rowD (numL ts),0),some (rowD (numL cs),0),some (.int (e:Int),0),some (rowD (numL (orb ts cs e (k+1))),1),o4]) (fun r=>1000-zYV 3 r) (fun r=>∃o4,r=[some (rowD (numL ts),0),some (rowD (numL cs),0),some (.int (e:Int),0),some (rowD (numL (orb ts cs e p)),1),o4]) ⟨0,none,by lia,rfl⟩ ?_ ?_ ?_
  ·exact qC9 (qH3 _ _) (by lia)
  ·rintro r ⟨k,o4,hk,rfl⟩
   have c1:=hlast k;have c2:=hnt k;have hx1:itr (stp ts cs) (k+1) e=e↔k+1=p:=by
    constructor
    ·intro h
     by_cases hkp:k+1=p
     ·exact hkp
     ·exact absurd h (p4 (k+1) (by lia) (by lia))
    ·intro h;rw[h];exact p3
   have hcond:(tB (eB neD (eB ixD (eV 0) (eB ixD (eV 3) (eU negD (eC (.int 1))))) (eV 2))) (full [some (rowD (numL ts),0),some (rowD (numL cs),0),some (.int (e:Int),0),some (rowD (numL (orb ts cs e (k+1))),1),o4])=okR (decide (¬k+1=p)):=by
    have hd:decide (((itr (stp ts cs) (k+1) e:Nat):Int)=(e:Int))=decide (k+1=p):=by
     by_cases h:k+1=p
     ·have:=hx1.mpr h
      rw[this];simp[h]
     ·have:¬itr (stp ts cs) (k+1) e=e:=fun z=>h (hx1.mp z)
      simp[h]
      lia
    generalize rowD (numL (orb ts cs e (k+1)))=Z at c1 ⊢
    generalize rowD (numL cs)=C
    generalize rowD (numL ts)=T at c2 ⊢
    simp[c1,c2,hd]
   rw[hcond]
   by_cases hkp:k+1=p
   ·refine .inl ⟨by simp[hkp],o4,?_⟩;rw[hkp]
   ·refine .inr ⟨by simp[hkp],?_⟩;refine zBL fun bb hb=>zAK (r:=[some (rowD (numL ts),0),some (rowD (numL cs),0),some (.int (e:Int),0),some (rowD (numL (orb ts cs e (k+1))),1),some (.int ((itr (stp ts cs) (k+1) e:Nat):Int),0)]) (by
     generalize rowD (numL (orb ts cs e (k+1)))=Z at c1 ⊢
     generalize rowD (numL cs)=C
     generalize rowD (numL ts)=T at c2 ⊢
     simp[c1,c2]) ?_
    subst hb;refine zAK (hext k (by lia) 0) ⟨⟨k+1,_,by lia,rfl⟩,?_⟩;have l1:=zDM ts cs e (k+1);have l2:=zDM ts cs e (k+2);show 1000-((numL (orb ts cs e (k+2))).map Dt.int).length<1000-((numL (orb ts cs e (k+1))).map Dt.int).length;simp[numL,l1,l2]
    lia
  ·rintro r ⟨o4,rfl⟩
   subst hb
   have:=hdr p
   generalize rowD (numL (orb ts cs e p))=Z at this ⊢
   generalize rowD (numL cs)=C
   generalize rowD (numL ts)=T
   simp[this]
 exact zBE rfl key
theorem zM4{ts cs:List Nat}{n e:Nat}(hN:NetN ts (4*n))(hl:cs.length=n)(hn:n<=100)(hw:∀c∈cs,c<3)(he:e<4*n){p:Nat}(p1:1<=p)(p2:p<=4*n)(p3:itr (stp ts cs) p e=e)(p4:∀q,1<=q->q<p->itr (stp ts cs) q e≠e) :
  zD5 [rowD (numL ts),rowD (numL cs),.int (e:Int)]=okR (rowD (numL (orb ts cs e p))):=by
 obtain⟨st1,_⟩:=zE1 hN hl hw;have hlt:∀k,itr (stp ts cs) k e<4*n:=zD7 st1 he;have hjn:∀k,zCQ [rowD (numL cs),.int ((itr (stp ts cs) k e:Nat):Int)]=okR (.int (jn cs (itr (stp ts cs) k e):Nat)):=fun k=>zKV hl (by lia) hw (hlt k)
 have hnt:∀k,ixD (rowD (numL ts)) (.int ((jn cs (itr (stp ts cs) k e):Nat):Int))=some (.int ((itr (stp ts cs) (k+1) e:Nat):Int)):=fun k=>zHI ts _ (by rw[hN.len];exact(zCS hl hw (hlt k)).1)
 have hlast:∀k,ixD (rowD (numL (orb ts cs e (k+1)))) (.int (-1))=some (.int ((jn cs (itr (stp ts cs) k e):Nat):Int)):=fun k=>by
  rw[zEK,show orb ts cs e k++[itr (stp ts cs) k e,jn cs (itr (stp ts cs) k e)]=(orb ts cs e k++[itr (stp ts cs) k e])++[jn cs (itr (stp ts cs) k e)] by simp];exact zQE
 have key:zEF [some (rowD (numL ts),0),some (rowD (numL cs),0),some (.int (e:Int),0),none,none]=okR (.rt (rowD (numL (orb ts cs e p)))):=by
  unfold zEF;refine zBT fun bb hb=>zAK (r:=[some (rowD (numL ts),0),some (rowD (numL cs),0),some (.int (e:Int),0),some (rowD (numL (orb ts cs e 0)),9),none]) (by
   have eo:rowD (numL (orb ts cs e 0))=.lst []:=rfl;rw[eo]
   generalize rowD (numL cs)=C
   generalize rowD (numL ts)=T
   simp) ?_
  subst hb;refine zBT fun bb hb=>zAK (r:=[some (rowD (numL ts),0),some (rowD (numL cs),0),some (.int (e:Int),0),some (rowD (numL (orb ts cs e 0)),9),some (.int ((itr (stp ts cs) 0 e:Nat):Int),0)]) (by
   show _=okR (Out.nx [some (rowD (numL ts),0),some (rowD (numL cs),0),some (.int (e:Int),0),some (rowD (numL (orb ts cs e 0)),9),some (.int (e:Int),0)])
   generalize rowD (numL (orb ts cs e 0))=Z
   generalize rowD (numL cs)=C
   generalize rowD (numL ts)=T
   simp) ?_
  subst hb;refine zBT fun bb hb=>?_
  refine zN8 (fun r=>∃k,k<=p/\r=[some (rowD (numL ts),0),some (rowD (numL cs),0),some (.int (e:Int),0),some (rowD (numL (orb ts cs e k)),9),some (.int ((itr (stp ts cs) k e:Nat):Int),0)]) (fun r=>1000-zYV 3 r) (fun r=>∃o4,r=[some (rowD (numL ts),0),some (rowD (numL cs),0),some (.int (e:Int),0),some (rowD (numL (orb ts cs e p)),9),o4]) ⟨0,by lia,rfl⟩ ?_ ?_ ?_
  ·exact qC9 (qH3 _ _) (by lia)
  ·rintro r ⟨k,hk,rfl⟩
   have hcond:(Mi.tOr (tB (eB eqD (eV 3) (eLst aNil))) (tB (eB neD (eV 4) (eV 2)))) (full [some (rowD (numL ts),0),some (rowD (numL cs),0),some (.int (e:Int),0),some (rowD (numL (orb ts cs e k)),9),some (.int ((itr (stp ts cs) k e:Nat):Int),0)])=okR (decide (¬k=p)):=by
    have hq:=zQV (numL (orb ts cs e k)) []
    replace hq:Dt.eq (rowD (numL (orb ts cs e k))) (.lst [])=decide (numL (orb ts cs e k)=[]):=hq
    have hd:=zAZ (numL (orb ts cs e k))
    by_cases h0:k=0
    ·have h1:(numL (orb ts cs e k)=[])=True:=by subst h0;exact eq_true rfl
     have h2:¬k=p:=by lia
     generalize rowD (numL (orb ts cs e k))=Z at hq hd ⊢
     generalize rowD (numL cs)=C
     generalize rowD (numL ts)=T
     simp[hq,hd,h1,h2]
    ·have hol:=zDM ts cs e k;have h1:(numL (orb ts cs e k)=[])=False:=eq_false fun z=>by
      have:=congrArg qFq z
      simp[numL,hol]at this
      lia
     have h2:((itr (stp ts cs) k e:Nat):Int)=(e:Int)↔k=p:=by
      constructor
      ·intro h
       by_cases hkp:k=p
       ·exact hkp
       ·exact absurd (by lia) (p4 k (by lia) (by lia))
      ·intro h;rw[h,p3]
     generalize rowD (numL (orb ts cs e k))=Z at hq hd ⊢
     generalize rowD (numL cs)=C
     generalize rowD (numL ts)=T
     simp[hq,hd,h1,h2]
   rw[hcond]
   by_cases hkp:k=p
   ·subst hkp;exact .inl ⟨by simp,_,rfl⟩
   ·refine .inr ⟨by simp[hkp],?_⟩;have ol:=zDM ts cs e k;have hx:=hlt k;refine zBL fun bb hb=>zAK (zRQ (i:=3) (k:=8) (ds:=(numL (orb ts cs e k)).map Dt.int) (d:=.int ((itr (stp ts cs) k e:Nat):Int)) rfl rfl (by simp[numL,ol];lia) (qAk _) (qAk _)) ?_
    subst hb;show nxR (sSeq _ _ [some (rowD (numL ts),0),some (rowD (numL cs),0),some (.int (e:Int),0),some (.lst ((numL (orb ts cs e k)).map Dt.int++[.int ((itr (stp ts cs) k e:Nat):Int)]),9),some (.int ((itr (stp ts cs) k e:Nat):Int),0)]) _;refine zBL fun bb hb=>zAK (zRQ (i:=3) (k:=8) (ds:=(numL (orb ts cs e k)).map Dt.int++[.int ((itr (stp ts cs) k e:Nat):Int)]) (d:=.int ((jn cs (itr (stp ts cs) k e):Nat):Int)) rfl ?_ (by simp[numL,ol];lia) (qAk _) (qAk _)) ?_
    ·have hj:=hjn k
     generalize rowD (numL cs)=C at hj ⊢
     generalize rowD (numL ts)=T
     generalize((numL (orb ts cs e k)).map Dt.int++[.int ((itr (stp ts cs) k e:Nat):Int)])=Z
     simp[hj]
    subst hb;have eo:(Dt.lst ((numL (orb ts cs e k)).map Dt.int++[.int ((itr (stp ts cs) k e:Nat):Int)]++[.int ((jn cs (itr (stp ts cs) k e):Nat):Int)]))=rowD (numL (orb ts cs e (k+1))):=by
     rw[zEK];simp[rowD,numL]
    show nxR (sSet 4 0 [0,3] _ [some (rowD (numL ts),0),some (rowD (numL cs),0),some (.int (e:Int),0),some (.lst ((numL (orb ts cs e k)).map Dt.int++[.int ((itr (stp ts cs) k e:Nat):Int)]++[.int ((jn cs (itr (stp ts cs) k e):Nat):Int)]),9),some (.int ((itr (stp ts cs) k e:Nat):Int),0)]) _;rw[eo];have c1:=hlast k;have c2:=hnt k;refine zAK (r:=[some (rowD (numL ts),0),some (rowD (numL cs),0),some (.int (e:Int),0),some (rowD (numL (orb ts cs e (k+1))),9),some (.int ((itr (stp ts cs) (k+1) e:Nat):Int),0)]) (by
     generalize rowD (numL (orb ts cs e (k+1)))=Z at c1 ⊢
     generalize rowD (numL cs)=C
     generalize rowD (numL ts)=T at c2 ⊢
     simp[c1,c2]) ⟨⟨k+1,by lia,rfl⟩,?_⟩
    have l2:=zDM ts cs e (k+1);show 1000-((numL (orb ts cs e (k+1))).map Dt.int).length<1000-((numL (orb ts cs e k)).map Dt.int).length;simp[numL,ol,l2]
    lia
  ·rintro r ⟨o4,rfl⟩
   subst hb
   have:=zAZ (numL (orb ts cs e p))
   generalize rowD (numL (orb ts cs e p))=Z at this ⊢
   generalize rowD (numL cs)=C
   generalize rowD (numL ts)=T
   simp[this]
 exact zBE rfl key
abbrev Kv:=List (Sum Int Str×Sw)
def zCO(D:Kv)(l:List Nat):Kv:=l.foldl (fun(m:Kv)(x:Nat)=>putW m (.inl (x:Int)) (.bl true)) D
theorem zMZ(D:Kv)(k:Sum Int Str)(v:Sw):(putW D k v).length<=D.length+1:=by
 unfold putW
 split
 ·simp
 ·simp
theorem zNC(l:List Nat):∀D:Kv,(zCO D l).length<=D.length+l.length:=by
 induction l with
 |nil=>intro D;exact qA6 _
 |cons x r ih=>
  intro D;have h1:=ih (putW D (.inl (x:Int)) (.bl true));have h2:=zMZ D (.inl (x:Int)) (.bl true)
  show(zCO (putW D (.inl (x:Int)) (.bl true)) r).length<=_
  simp only[qBj]
  lia
def rdS(f:Nat->List Nat):Nat->List (List Nat)×Kv
 |0=>([],[])
 |k+1=>if(getW (rdS f k).2 (.inl (k:Int))).isSome=true then rdS f k else((rdS f k).1++[f k],zCO (rdS f k).2 (f k))
theorem zIS{f:Nat->List Nat}{B:Nat}(hf:∀k,(f k).length<=B):∀k,(rdS f k).1.length<=k/\(rdS f k).2.length<=k*B
 |0=>by simp[rdS]
 |k+1=>by
  obtain⟨h1,h2⟩:=zIS hf k;have hb:=hf k;have hm:=zNC (f k) (rdS f k).2;unfold rdS
  split
  ·exact⟨by lia,by rw[qDh];lia⟩
  ·exact⟨by simp;lia,by show(zCO (rdS f k).2 (f k)).length<=_;rw[qDh];lia⟩
def rowsD(R:List (List Nat)):Dt:=.lst (R.map fun l=>rowD (numL l))
theorem zMU:∀R:List (List Nat),Dt.depL (R.map fun l=>rowD (numL l))<=1
 |[]=>by simp[Dt.depL]
 |l::R=>by
  have h:=zMU R
  have:=zAZ (numL l)
  simp only[qAn];rw[Dt.depL]
  lia
theorem zH2(R:List (List Nat)):(rowsD R).dep<=2:=by
 have:=zMU R
 unfold rowsD;rw[Dt.dep]
 lia
theorem zHU{r:Ro}{i v:Nat}{R:List (List Nat)}{l:List Nat}{lv lx:Nat}{e:EM}(hi:r[i]?=some (some (rowsD R,lv+1)))(hv:r[v]?=some (some (rowD (numL l),lx)))(hne:v≠i)(he:∀ρ:Rh,ρ[v]?=some (some (rowD (numL l)))->e ρ=okR (rowD (numL l)))(hz:R.length<=1000) :
  sAppF i [v] e r=okR (.nx (((r.set i (some (rowsD R,1))).set v (some (rowD (numL l),0))).set i (some (rowsD (R++[l]),1)))):=by
 have hil:i<r.length:=by
  have:=(qA2.mp hi).1
  exact this
 have hvl:v<r.length:=(qA2.mp hv).1;have h1:low i r=r.set i (some (rowsD R,1)):=by
  unfold low;rw[hi];rfl
 have h2:frzAt [v] (r.set i (some (rowsD R,1)))=(r.set i (some (rowsD R,1))).set v (some (rowD (numL l),0)):=by
  show frz1 v _=_;unfold frz1;rw[qAa (qC1 hne),hv]
 unfold sAppF;rw[h1,h2];have h3:((r.set i (some (rowsD R,1))).set v (some (rowD (numL l),0)))[i]?=some (some (rowsD R,1)):=by
  rw[qAa hne,qA9 hil]
 rw[h3];have h4:(frz ((r.set i (some (rowsD R,1))).set v (some (rowD (numL l),0))))[v]?=some (some (rowD (numL l))):=by
  unfold frz;rw[qAf,qA9 (by simpa using hvl)];simp
 show zA4 (e _) _=_;rw[he _ h4,zA1,if_pos (by simp;lia)]
 congr 5
 simp[rowsD]
theorem zH6:∀(l:List Nat),pairsD (l.map fun x:Nat=>Dt.tup [.int (x:Int),.bl true])=some (l.map fun x:Nat=>((qCv (x:Int):Sum Int Str),Sw.bl true))
 |[]=>rfl
 |x::l=>by
  simp only[qAn];unfold pairsD;rw[zH6 l];rfl
theorem zOJ(l:List Nat)(D:Kv):(l.map fun x:Nat=>((qCv (x:Int):Sum Int Str),Sw.bl true)).foldl (fun m p=>putW m p.1 p.2) D=zCO D l:=by
 unfold zCO;rw[List.foldl_map]
theorem zH3{ts cs:List Nat}{n:Nat}(hN:NetN ts (4*n))(hn:n<=30){f:Nat->List Nat}(hf:∀k,(f k).length<=8*n)
  (hr:∀e,e<4*n->zDF [rowD (numL ts),rowD (numL cs),.int (e:Int)]=okR (rowD (numL (f e)))) :
  zDN [rowD (numL ts),rowD (numL cs)]=okR (rowsD (rdS f (4*n)).1):=by
 have hlen:lenD [rowD (numL ts)]=some (.int ((4*n:Nat):Int)):=by
  show some (Dt.int (((numL ts).map Dt.int).length:Int))=_;rw[qAp];unfold numL;rw[qAp,hN.len]
 have key:zFD [some (rowD (numL ts),0),some (rowD (numL cs),0),none,none,none,none]=okR (.rt (rowsD (rdS f (4*n)).1)):=by
  unfold zFD;refine zBT fun bb hb=>zAK (r:=[some (rowD (numL ts),0),some (rowD (numL cs),0),some (.lst [],9),none,none,none]) (by
   generalize rowD (numL cs)=C
   generalize rowD (numL ts)=T
   simp) ?_
  subst hb;refine zBT fun bb hb=>zAK (r:=[some (rowD (numL ts),0),some (rowD (numL cs),0),some (.lst [],9),some (.dct [],1),none,none]) rfl ?_
  subst hb;refine zBT fun bb hb=>?_
  rw[zF1,show iR1 (aCons (eBi lenD (aCons (eV 0) aNil)) aNil) (full [some (rowD (numL ts),0),some (rowD (numL cs),0),some (.lst [],9),some (.dct [],1),none,none])=okR (nums 0 (4*n)) from zIJ (n:=4*n) (by
   generalize rowD (numL cs)=C
   generalize rowD (numL ts)=T at hlen ⊢
   simp only[zB8,zC8,zJX,x_eV,zB3,zBF,qB8,qBt,qAu,zA1,hlen,zA8]) (by lia),zA1]
  refine zM1 (fun k r=>∃lv o4 o5,(lv=0\/(lv=8/\(rdS f k).1=[]))/\r=[some (rowD (numL ts),0),some (rowD (numL cs),0),some (rowsD (rdS f k).1,lv+1),some (.dct (rdS f k).2,1),o4,o5]) ⟨8,none,none,.inr ⟨rfl,rfl⟩,rfl⟩ (fun k hk r hr=>?_) fun r hr=>?_
  ·obtain⟨lv,o4,o5,hlv,rfl⟩:=hr;obtain⟨l1,l2⟩:=zIS hf k;have hfk:=hf k;show nxR (sIf _ _ _ [some (rowD (numL ts),0),some (rowD (numL cs),0),some (rowsD (rdS f k).1,lv+1),some (.dct (rdS f k).2,1),some (.int (k:Int),0),o5]) _;have hrk:=hr k hk;have hcond:(tB (eB (dinD true) (eV 4) (eV 3))) (full [some (rowD (numL ts),0),some (rowD (numL cs),0),some (rowsD (rdS f k).1,lv+1),some (.dct (rdS f k).2,1),some (.int (k:Int),0),o5])=okR (!(getW (rdS f k).2 (.inl (k:Int))).isSome):=rfl;unfold sIf;rw[hcond,zA1]
   by_cases hg:(getW (rdS f k).2 (.inl (k:Int))).isSome=true
   ·rw[hg];have e1:rdS f (k+1)=rdS f k:=by rw[rdS,if_pos hg]
    refine zAK (r:=[some (rowD (numL ts),0),some (rowD (numL cs),0),some (rowsD (rdS f k).1,lv+1),some (.dct (rdS f k).2,1),some (.int (k:Int),0),o5]) rfl ⟨lv,_,_,?_,by rw[e1]⟩;rw[e1];exact hlv
   ·have hg':(getW (rdS f k).2 (.inl (k:Int))).isSome=false:=by simpa using hg
    have e1:rdS f (k+1)=((rdS f k).1++[f k],zCO (rdS f k).2 (f k)):=by rw[rdS,if_neg hg]
    rw[hg'];rw[if_pos (by rfl)];have hdl:=zAZ (numL (f k));refine zBL fun bb hb=>zAK (r:=[some (rowD (numL ts),0),some (rowD (numL cs),0),some (rowsD (rdS f k).1,lv+1),some (.dct (rdS f k).2,1),some (.int (k:Int),0),some (rowD (numL (f k)),1)]) (by
     generalize rowD (numL (f k))=Z at hrk hdl ⊢
     generalize rowD (numL cs)=C at hrk ⊢
     generalize rowD (numL ts)=T at hrk ⊢
     generalize rowsD (rdS f k).1=RR
     generalize Dt.dct (rdS f k).2=DD
     simp[hrk,hdl]) ?_
    subst hb;refine zBL fun bb hb=>zAK (zHU (i:=2) (v:=5) (R:=(rdS f k).1) (l:=f k) (lv:=lv) (lx:=1) rfl rfl (by decide) (fun ρ hρ=>by show(match ρ[5]? with|some (some d)=>okR d|_=>none)=_;rw[hρ]) (by lia)) ?_
    subst hb;show nxR (sDupd 3 _ [some (rowD (numL ts),0),some (rowD (numL cs),0),some (rowsD ((rdS f k).1++[f k]),1),some (.dct (rdS f k).2,1),some (.int (k:Int),0),some (rowD (numL (f k)),0)]) _;have hc:eComp (iSq (eV 5)) 1 (.one 6) Mi.tYes (eTup (aCons (eV 6) (aCons (eC (.bl true)) aNil))) (full [some (rowD (numL ts),0),some (rowD (numL cs),0),some (rowsD ((rdS f k).1++[f k]),1),some (.dct (rdS f k).2,1),some (.int (k:Int),0),some (rowD (numL (f k)),0)])=okR (.lst ((f k).map fun x:Nat=>Dt.tup [.int (x:Int),.bl true])):=by
     refine zIE (ρ:=full [some (rowD (numL ts),0),some (rowD (numL cs),0),some (rowsD ((rdS f k).1++[f k]),1),some (.dct (rdS f k).2,1),some (.int (k:Int),0),some (rowD (numL (f k)),0)]) (c:=tYes) (i:=6) (fun x:Nat=>Dt.int (x:Int)) (fun x:Nat=>Dt.tup [.int (x:Int),.bl true]) (f k) rfl rfl (fun x _=>?_) _ ?_ (by lia)
     ·generalize rowD (numL (f k))=Z
      generalize rowD (numL cs)=C
      generalize rowD (numL ts)=T
      generalize rowsD ((rdS f k).1++[f k])=RR
      generalize Dt.dct (rdS f k).2=DD
      simp
     ·show okR ((numL (f k)).map Dt.int)=_;unfold numL;rw[qB9];rfl
    refine zAK (r:=[some (rowD (numL ts),0),some (rowD (numL cs),0),some (rowsD ((rdS f k).1++[f k]),1),some (.dct (zCO (rdS f k).2 (f k)),1),some (.int (k:Int),0),some (rowD (numL (f k)),0)]) ?_ ⟨0,_,_,.inl rfl,by rw[e1]⟩;show zA4 (eComp _ _ _ _ _ _) _=_;rw[hc,zA1];dsimp only;rw[zH6];dsimp only;have h8:(rdS f k).2.length<=120*240:=qAl l2 (qEs (by lia) (by lia));rw[if_pos (by rw[qAp];lia),zOJ];rfl
  ·obtain⟨lv,o4,o5,hlv,rfl⟩:=hr;subst hb;have hd:=zH2 (rdS f (4*n)).1
   rcases hlv with rfl|⟨rfl,he⟩
   ·generalize rowsD (rdS f (4*n)).1=RR at hd ⊢
    generalize rowD (numL cs)=C
    generalize rowD (numL ts)=T
    simp
   ·rw[he];show sRetV 1 2 [some (rowD (numL ts),0),some (rowD (numL cs),0),some (.lst [],9),some (.dct (rdS f (4*n)).2,1),o4,o5]=okR (.rt (.lst []))
    generalize rowD (numL cs)=C
    generalize rowD (numL ts)=T
    simp
 exact zBE rfl key
theorem zKT{ts cs:List Nat}{n:Nat}(hN:NetN ts (4*n))(hn:n<=30){f:Nat->List Nat}(hf:∀k,(f k).length<=8*n)
  (hr:∀e,e<4*n->zD5 [rowD (numL ts),rowD (numL cs),.int (e:Int)]=okR (rowD (numL (f e)))) :
  zAP [rowD (numL ts),rowD (numL cs)]=okR (rowsD (rdS f (4*n)).1):=by
 have hlen:lenD [rowD (numL ts)]=some (.int ((4*n:Nat):Int)):=by
  show some (Dt.int (((numL ts).map Dt.int).length:Int))=_;rw[qAp];unfold numL;rw[qAp,hN.len]
 have key:zDW [some (rowD (numL ts),0),some (rowD (numL cs),0),none,none,none,none,none]=okR (.rt (rowsD (rdS f (4*n)).1)):=by
  unfold zDW;refine zBT fun bb hb=>zAK (r:=[some (rowD (numL ts),0),some (rowD (numL cs),0),some (.dct [],1),none,none,none,none]) rfl ?_
  subst hb;refine zBT fun bb hb=>zAK (r:=[some (rowD (numL ts),0),some (rowD (numL cs),0),some (.dct [],1),some (.lst [],9),none,none,none]) (by
   generalize rowD (numL cs)=C
   generalize rowD (numL ts)=T
   simp) ?_
  subst hb;refine zBT fun bb hb=>?_
  rw[zF1,show iR1 (aCons (eBi lenD (aCons (eV 0) aNil)) aNil) (full [some (rowD (numL ts),0),some (rowD (numL cs),0),some (.dct [],1),some (.lst [],9),none,none,none])=okR (nums 0 (4*n)) from zIJ (n:=4*n) (by
   generalize rowD (numL cs)=C
   generalize rowD (numL ts)=T at hlen ⊢
   simp only[zB8,zC8,zJX,x_eV,zB3,zBF,qB8,qBt,qAu,zA1,hlen,zA8]) (by lia),zA1]
  refine zM1 (fun k r=>∃lv o4 o5 o6,(lv=0\/(lv=8/\(rdS f k).1=[]))/\r=[some (rowD (numL ts),0),some (rowD (numL cs),0),some (.dct (rdS f k).2,1),some (rowsD (rdS f k).1,lv+1),o4,o5,o6]) ⟨8,none,none,none,.inr ⟨rfl,rfl⟩,rfl⟩ (fun k hk r hr=>?_) fun r hr=>?_
  ·obtain⟨lv,o4,o5,o6,hlv,rfl⟩:=hr;obtain⟨l1,l2⟩:=zIS hf k;have hfk:=hf k;show nxR (sIf _ _ _ [some (rowD (numL ts),0),some (rowD (numL cs),0),some (.dct (rdS f k).2,1),some (rowsD (rdS f k).1,lv+1),some (.int (k:Int),0),o5,o6]) _;have hrk:=hr k hk;have hcond:(tB (eB (dinD true) (eV 4) (eV 2))) (full [some (rowD (numL ts),0),some (rowD (numL cs),0),some (.dct (rdS f k).2,1),some (rowsD (rdS f k).1,lv+1),some (.int (k:Int),0),o5,o6])=okR (!(getW (rdS f k).2 (.inl (k:Int))).isSome):=rfl;unfold sIf;rw[hcond,zA1]
   by_cases hg:(getW (rdS f k).2 (.inl (k:Int))).isSome=true
   ·rw[hg];have e1:rdS f (k+1)=rdS f k:=by rw[rdS,if_pos hg]
    refine zAK (r:=[some (rowD (numL ts),0),some (rowD (numL cs),0),some (.dct (rdS f k).2,1),some (rowsD (rdS f k).1,lv+1),some (.int (k:Int),0),o5,o6]) rfl ⟨lv,_,_,_,?_,by rw[e1]⟩;rw[e1];exact hlv
   ·have hg':(getW (rdS f k).2 (.inl (k:Int))).isSome=false:=by simpa using hg
    have e1:rdS f (k+1)=((rdS f k).1++[f k],zCO (rdS f k).2 (f k)):=by rw[rdS,if_neg hg]
    rw[hg'];rw[if_pos (by rfl)];have hdl:=zAZ (numL (f k));have h8:(rdS f k).2.length<=120*240:=qAl l2 (qEs (by lia) (by lia));refine zBL fun bb hb=>zAK (r:=[some (rowD (numL ts),0),some (rowD (numL cs),0),some (.dct (rdS f k).2,1),some (rowsD (rdS f k).1,lv+1),some (.int (k:Int),0),some (rowD (numL (f k)),9),o6]) (by
     generalize rowD (numL (f k))=Z at hrk hdl ⊢
     generalize rowD (numL cs)=C at hrk ⊢
     generalize rowD (numL ts)=T at hrk ⊢
     generalize rowsD (rdS f k).1=RR
     generalize Dt.dct (rdS f k).2=DD
     simp[hrk,hdl]) ?_
    subst hb;have hfor:nxR (sFor [5] (iSq (eV 5)) (.one 6) (sDput 2 (eV 6) (eC (.bl true))) [some (rowD (numL ts),0),some (rowD (numL cs),0),some (.dct (rdS f k).2,1),some (rowsD (rdS f k).1,lv+1),some (.int (k:Int),0),some (rowD (numL (f k)),9),o6]) (fun r=>∃o6,r=[some (rowD (numL ts),0),some (rowD (numL cs),0),some (.dct (zCO (rdS f k).2 (f k)),1),some (rowsD (rdS f k).1,lv+1),some (.int (k:Int),0),some (rowD (numL (f k)),0),o6]):=by
     rw[zMM];show nxR (zA4 (okR ((numL (f k)).map Dt.int)) fun ds=>forGo (.one 6) (sDput 2 (eV 6) (eC (.bl true))) ds [some (rowD (numL ts),0),some (rowD (numL cs),0),some (.dct (rdS f k).2,1),some (rowsD (rdS f k).1,lv+1),some (.int (k:Int),0),some (rowD (numL (f k)),0),o6]) _;rw[zA1,show(numL (f k)).map Dt.int=(f k).map fun x:Nat=>Dt.int (x:Int) by unfold numL;rw[qB9];rfl];refine zF7 (fun x:Nat=>Dt.int (x:Int)) (f k) (fun j r=>∃o6,r=[some (rowD (numL ts),0),some (rowD (numL cs),0),some (.dct (zCO (rdS f k).2 ((f k).take j)),1),some (rowsD (rdS f k).1,lv+1),some (.int (k:Int),0),some (rowD (numL (f k)),0),o6]) ⟨o6,rfl⟩ (fun j x hx r hr=>?_) fun r hr=>?_
     ·obtain⟨o6,rfl⟩:=hr;have hjl:j<(f k).length:=(qA2.mp hx).1;have hxe:(f k)[j]=x:=(qA2.mp hx).2;have e2:zCO (rdS f k).2 ((f k).take (j+1))=putW (zCO (rdS f k).2 ((f k).take j)) (.inl (x:Int)) (.bl true):=by
       rw[qB7 hjl,hxe];unfold zCO;rw[qDs];rfl
      have hml:=zNC ((f k).take j) (rdS f k).2;have htl:((f k).take j).length<=(f k).length:=by rw[qE1];lia
      refine zAK (r:=[some (rowD (numL ts),0),some (rowD (numL cs),0),some (.dct (zCO (rdS f k).2 ((f k).take (j+1))),1),some (rowsD (rdS f k).1,lv+1),some (.int (k:Int),0),some (rowD (numL (f k)),0),some (.int (x:Int),0)]) ?_ ⟨_,rfl⟩;rw[e2]
      show(@ite _ ((zCO (rdS f k).2 ((f k).take j)).length<=100000) (qA3 _) _ _:R Out)=_
      rw[if_pos (by lia)];rfl
     ·obtain⟨o6,rfl⟩:=hr;exact⟨o6,by rw[qE6]⟩
    refine zBL fun bb hb=>?_
    obtain⟨r',g1,o6',rfl⟩:=zCI hfor;refine zAK g1 ?_;subst hb;refine zAK (zHU (i:=3) (v:=5) (R:=(rdS f k).1) (l:=f k) (lv:=lv) (lx:=0) rfl rfl (by decide) (fun ρ hρ=>by show(match ρ[5]? with|some (some d)=>okR d|_=>none)=_;rw[hρ]) (by lia)) ⟨0,some (.int (k:Int),0),some (rowD (numL (f k)),0),o6',.inl rfl,?_⟩;rw[e1];rfl
  ·obtain⟨lv,o4,o5,o6,hlv,rfl⟩:=hr;subst hb
   rcases hlv with rfl|⟨rfl,he⟩
   ·generalize rowsD (rdS f (4*n)).1=RR
    generalize rowD (numL cs)=C
    generalize rowD (numL ts)=T
    simp
   ·rw[he];show sRetV 1 3 [some (rowD (numL ts),0),some (rowD (numL cs),0),some (.dct (rdS f (4*n)).2,1),some (.lst [],9),o4,o5,o6]=okR (.rt (.lst []))
    generalize rowD (numL cs)=C
    generalize rowD (numL ts)=T
    simp
 exact zBE rfl key
noncomputable def zDT(n:Nat):List Nat:=(qAg (2*n)).map (· / 2)
theorem zOT(n:Nat):zDT (n+1)=zDT n++[n,n]:=by
 unfold zDT;rw[show 2*(n+1)=2*n+1+1 by lia,qDe,qDe,qBc,qBc];have h1:2*n/2=n:=by lia
 have h2:(2*n+1)/2=n:=by lia
 simp[h1,h2]
theorem zHR:∀n v,(zDT n).count v=if v<n then 2 else 0
 |0,v=>by simp[zDT]
 |n+1,v=>by
  rw[zOT,qCi,zHR n v]
  by_cases h:v=n
  ·subst h;simp
  ·have:[n,n].count v=0:=qF2.mpr (by simp[h])
   rw[this]
   by_cases h2:v<n
   ·rw[if_pos h2,if_pos (by lia)]
   ·rw[if_neg h2,if_neg (by lia)]
structure Twice(n:Nat)(row:List Nat):Prop where
 len:row.length=2*n
 cnt:∀v,row.count v=if v<n then 2 else 0
theorem zRX{n:Nat}{row:List Nat}(h:row.Perm (zDT n)):Twice n row:=
 ⟨by rw[h.length_eq];simp[zDT],fun v=>by rw[h.count_eq,zHR]⟩
section
variable{n:Nat}{row:List Nat}(t:Twice n row)
include t
theorem Twice.mem(v:Nat):v∈row↔v<n:=by
 rw[<- qDl,t.cnt v]
 split<;>lia
theorem Twice.le1{a:Nat}(h:a<row.length):(row.take a).count (row.getD a 0)<=1:=by
 have h1:=t.cnt (row.getD a 0);have hg:row.getD a 0=row[a]:=by rw[qA0,qA4 h];rfl
 have h2:row.count (row.getD a 0)=(row.take a).count (row.getD a 0)+(row.drop a).count (row.getD a 0):=by
  rw[<- qCi,qEi]
 rw[qBy h,hg,List.count_cons_self]at h2;rw[hg]at h1 ⊢
 split at h1<;>lia
end
noncomputable def addB:List Int->List Int->List Int
 |a::r,b::s=>(a+b)%2::addB r s
 |_,_=>[]
noncomputable def dot:List Int->List Int->Int
 |a::r,b::x=>a*b+dot r x
 |_,_=>0
def Ker(A:List (List Int))(x:List Int):Prop:=∀r∈A,dot r x%2=0
noncomputable def ent(A:List (List Int))(i k:Nat):Int:=(A.getD i []).getD k 0
def oth(A:List (List Int))(c:Nat)(lead:List Int):List (List Int):=A.map fun r=>if r.getD c 0=1 then addB r lead else r
section
variable{A:List (List Int)}{c t m:Nat}(hm:∀r∈A,RowN m r)(ht:t<A.length)(hc:c<=t)(hl:ent A t c=1)(hcm:c<m)
include hm ht in
include hm ht hc in
include ht hc in
include hm ht hc in
end
def zaW(A:List (List Int))(c:Nat):Prop:=∀i k,i<A.length->k<c->ent A i k=if i=k then 1 else 0
theorem zDS{ρ:Rh}{c:TM}{e:EM}{i:Nat}{β:Type}(en:β->Dt)(g:β->Dt)(f:β->Bool)(ns:List β)(hi:i=ρ.length)(hc:∀k,k∈ns->c (ρ++[some (en k)])=okR (f k))(h:∀k,k∈ns->f k=true->e (ρ++[some (en k)])=okR (g k))(it:IM)(hit:it ρ=okR (ns.map en))(hn:ns.length<=100000):eComp it 1 (.one i) c e ρ=okR (.lst ((ns.filter f).map g)):=by
 subst hi;unfold eComp;rw[hit,zA1,if_pos ⟨by simpa using hn,by simp[Tg.idx]⟩];have go:∀(l:List β)(acc:List Dt),(∀k∈l,k∈ns)->compGo ρ 1 (.one ρ.length) c e (l.map en) acc=okR (acc++(l.filter f).map g):=by
  intro l
  induction l with
  |nil=>intro acc _;simp[compGo]
  |cons a r ih=>
   intro acc hl;have h1:=hc a (hl a (by simp));have h2:=h a (hl a (by simp));have ih':=fun acc=>ih acc fun k hk=>hl k (by simp[hk])
   have es:zAT (ρ++qA5 1 none) [(ρ.length,en a)]=ρ++[some (en a)]:=by
    simp[zAT]
   rw[qAn,compGo];show zA4 (c (zAT (ρ++qA5 1 none) [(ρ.length,en a)])) _=_;rw[es,h1,zA1];cases hf:f a with
   |true=>
    rw[if_pos rfl];rw[h2 hf,zA1,ih',List.filter_cons_of_pos hf];simp
   |false=>
    rw[if_neg (by simp),ih',List.filter_cons_of_neg (by simp[hf])]
 rw[go _ _ fun k hk=>hk,zA1];simp
noncomputable def za2(n i:Nat):List Int:=(qAg n).map fun j=>if j=i then 1 else 0
def aug(n:Nat)(T:List (List Int)):List (List Int):=(qAg n).map fun i=>T.getD i []++za2 n i
structure Un(n:Nat)(T A:List (List Int))(c:Nat):Prop where
 len:A.length=n
 rows:∀r∈A,RowN (n+n) r
 unit:zaW A c
 ker:∀x,(∀y∈x,Bit y)->(Ker A x↔Ker (aug n T) x)
def eiR(x:R Out)(P:Ro->Prop)(Q:Dt->Prop):Prop:=(∃r,x=okR (.nx r)/\P r)\/∃d,x=okR (.rt d)/\Q d
theorem zF9{x:R Out}{P:Ro->Prop}{Q:Dt->Prop}(h:nxR x P):eiR x P Q:=.inl (zCI h)
theorem zCW{a b:SM}{r:Ro}{P P':Ro->Prop}{Q:Dt->Prop}(h:eiR (a r) P Q)(hb:∀r',P r'->eiR (b r') P' Q):eiR (sSeq a b r) P' Q:=by
 unfold sSeq
 rcases h with⟨r',e,h'⟩|⟨d,e,hq⟩
 ·rw[e,zA1];exact hb r' h'
 ·rw[e,zA1];exact .inr ⟨d,rfl,hq⟩
theorem zG1(ns:List Int)(k:Int)(h0:0<=k)(h1:k<1000):∃c:Int,0<=c/\c<2147483629/\zAI [.scr ns,.int k]=okR (.int c):=by
 unfold zAI zF0;have m1:mulD (.int 7919) (.int (k+1))=some (.int (7919*(k+1))):=zKQ (by lia) (by lia)
 by_cases hk:k<ns.length
 ·refine⟨(7919*(k+1)+ns.getD k.toNat 0)%1000000000039*48271%2147483647*69621%2147483629,by lia,by lia,?_⟩;simp[hk,zW9 h0 hk,m1,-zGN,zO9]
 ·refine⟨7919*(k+1)%1000000000039*48271%2147483647*69621%2147483629,by lia,by lia,?_⟩;simp[hk,m1,-zGN,zO9]
theorem zIB{α β:Type}(f:α->β):∀(l:List α)(i:Nat),(l.map f).eraseIdx i=(l.eraseIdx i).map f
 |[],_=>rfl
 |a::r,0=>rfl
 |a::r,i+1=>by simp[zIB f r i]
theorem zH5{α:Type}:∀(l:List α){i:Nat}(h:i<l.length),l.Perm (l[i]::l.eraseIdx i)
 |a::r,0,_=>qEt _
 |a::r,i+1,h=>by
  have:=zH5 r (i:=i) (by simpa using h)
  exact(this.cons a).trans (List.Perm.swap _ _ _)
theorem zS2(ns:List Int)(n:Nat)(h1:1<=n)(hn:n<=10):∃row,Twice n row/\zCP [.scr ns,.int 2,.int (n:Int)]=okR (rowD (numL row)):=by
 suffices h:eiR (zDV [some (.scr ns,0),some (.int 2,0),some (.int (n:Int),0),none,none,none,none]) (fun _=>False) (fun d=>∃row,d=rowD (numL row)/\Twice n row) by
  rcases h with⟨_,_,z⟩|⟨d,h1,row,rfl,h2⟩
  ·exact z.elim
  ·exact⟨row,h2,zBE rfl h1⟩
 have m0:mulD (.int 2) (.int (n:Int))=some (.int ((2*n:Nat):Int)):=by
  rw[zKQ (by lia) (by lia)]
  congr 2
 unfold zDV;refine zCW (P:=fun r=>r=[some (.scr ns,0),some (.int 2,0),some (.int (n:Int),0),some (rowD (numL (zDT n)),1),none,none,none]) (zF9 ?_) ?_
 ·have hc:eComp (iR1 (aCons (eB mulD (eC (.int 2)) (eV 2)) aNil)) 1 (.one 7) Mi.tYes (eB divD (eV 7) (eC (.int 2))) [some (.scr ns),some (.int 2),some (.int (n:Int)),none,none,none,none]=okR (rowD (numL (zDT n))):=by
   have:=zNP (ρ:=[some (.scr ns),some (.int 2),some (.int (n:Int)),none,none,none,none]) (e:=eB divD (eV 7) (eC (.int 2))) (it:=iR1 (aCons (eB mulD (eC (.int 2)) (eV 2)) aNil)) (i:=7) (n:=2*n) (fun k=>((k/2:Nat):Int)) rfl (by lia) (zIJ (by simp[m0,-zGN]) (by lia)) fun a h=>by simp
   rw[this];unfold zDT numL;rw[qB9];rfl
  simp[hc]
 rintro r rfl
 obtain⟨c0,a0,b0,e0⟩:=zG1 ns 2 (by lia) (by lia);refine zCW (P:=fun r=>r=[some (.scr ns,0),some (.int 2,0),some (.int (n:Int),0),some (rowD (numL (zDT n)),1),some (.int (c0%1000003),0),none,none]) (zF9 (by simp[e0])) ?_
 rintro r rfl
 refine zCW (P:=fun r=>r=[some (.scr ns,0),some (.int 2,0),some (.int (n:Int),0),some (rowD (numL (zDT n)),1),some (.int (c0%1000003),0),some (rowD (numL []),9),none]) (zF9 (by simp;rfl)) ?_
 rintro r rfl
 refine zCW (P:=fun r=>∃row left:List Nat,∃w:Int,∃l4 o6,r=[some (.scr ns,0),some (.int 2,0),some (.int (n:Int),0),some (rowD (numL left),1),some (.int w,l4),some (rowD (numL row),9),o6]/\(row++left).Perm (zDT n)/\row.length=2*n) (zF9 ?_) ?_
 ·rw[zF1,zIJ (n:=2*n) (by simp[m0,-zGN]) (by lia),zA1];refine zM1 (fun k r=>∃row left:List Nat,∃w:Int,∃l4 o6,r=[some (.scr ns,0),some (.int 2,0),some (.int (n:Int),0),some (rowD (numL left),1),some (.int w,l4),some (rowD (numL row),9),o6]/\(row++left).Perm (zDT n)/\row.length=k) ⟨[],zDT n,_,_,_,rfl,qEt _,rfl⟩ (fun k hk r hr=>?_) fun r h=>h
  obtain⟨row,left,w,l4,o6,rfl,hp,hl⟩:=hr;have hll:left.length=2*n-k:=by
   have:=hp.length_eq
   rw[qAy,show(zDT n).length=2*n by simp[zDT]]at this
   lia
  obtain⟨c,a,b,e⟩:=zG1 ns (3+(k:Int)) (by lia) (by lia);have m1:mulD (.int w) (.int 48271)=some (.int (w*48271)):=zO9 (by lia) (by lia);refine zBL fun bb hb=>?_
  refine zAK (r:=[some (.scr ns,0),some (.int 2,0),some (.int (n:Int),0),some (rowD (numL left),1),some (.int ((w*48271+c)%2147483647),0),some (rowD (numL row),9),some (.int (k:Nat),0)]) (by simp[m1,e,-zGN]) ?_
  generalize(w*48271+c)%2147483647=w2
  subst hb;have hlp:0<left.length:=by lia
  have z0:=qDg (w2/16) (show((left.length:Nat):Int)≠0 by lia);have z1:=qCu (w2/16) (show(0:Int)<((left.length:Nat):Int) by lia);have hnl:(numL left).length=left.length:=by simp[numL]
  have hmod:modD (.int (w2/16)) (.int (left.length:Int))=some (.int (w2/16%(left.length:Int))):=by simp[hlp]
  have he:eB modD (eB divD (eV 4) (eC (.int 16))) (eBi lenD (aCons (eV 3) aNil)) (full [some (.scr ns,0),some (.int 2,0),some (.int (n:Int),0),some (rowD (numL left),1),some (.int w2,0),some (rowD (numL row),9),some (.int (k:Nat),0)])=okR (.int (w2/16%(left.length:Int))):=by
   simp only[zB3,zBF,qB8,x_eB,x_eV,x_eC,zJX,zB8,zC8,qB1,qAu,zA1,lenR,hnl,zA8];simp[hmod,-zUZ]
  generalize w2/16%(left.length:Int)=z at *
  have hzt:z.toNat<left.length:=by lia
  refine zAK (zLO (i:=3) (j:=5) (k:=0) (l:=8) (ds:=(numL left).map Dt.int) (es:=(numL row).map Dt.int) (c:=.int (left.getD z.toNat 0:Nat)) rfl rfl he z0 (by simp[numL];lia) (by simp[numL,qA4 hzt,qA0]) (by simp) (by lia) (by simp[numL];lia) (by simp[numL];lia) (by lia)) ⟨row++[left.getD z.toNat 0],left.eraseIdx z.toNat,w2,0,some (.int (k:Nat),0),?_,?_,by simp[hl]⟩
  ·have e1:Dt.lst (((numL left).map Dt.int).eraseIdx z.toNat)=rowD (numL (left.eraseIdx z.toNat)):=by
    unfold rowD numL;rw[zIB,zIB]
   have e2:Dt.lst ((numL row).map Dt.int++[.int (left.getD z.toNat 0:Nat)])=rowD (numL (row++[left.getD z.toNat 0])):=by
    unfold rowD numL;simp[-qA0]
   rw[e1,e2];rfl
  ·refine qG3 ?_ hp;rw[qC2];refine qEj row ?_;rw[qEk];have hg:left.getD z.toNat 0=left[z.toNat]:=by rw[qA0,qA4 hzt];rfl
   rw[hg];exact(zH5 left hzt).symm
 rintro r ⟨row,left,w,l4,o6,rfl,hp,hl⟩
 have hle:left=[]:=by
  have:=hp.length_eq
  rw[qAy,show(zDT n).length=2*n by simp[zDT]]at this;exact qAx (by lia)
 subst hle;rw[qBq]at hp;exact .inr ⟨rowD (numL row),by simp[sRetV],row,rfl,zRX hp⟩
theorem za5{ns:List Int}{M:Nat}(h:FW.NetL ns M):∃ts:List Nat,numL ts=ns/\NetN ts M:=by
 have key:∀i,i<M->∃j:Nat,j<M/\ns[i]?=some (j:Int)/\ns[j]?=some (i:Int):=fun i hi=>by
  obtain⟨j,h1,_,h2,h3⟩:=h.tie i hi;exact⟨j,h1,h2,h3⟩
 have hnt:∀(i j:Nat),ns[i]?=some (j:Int)->nt (ns.map Int.toNat) i=j:=fun i j h1=>by
  unfold nt;rw[qA0,qAf,h1];rfl
 refine⟨ns.map Int.toNat,?_,⟨by simp[h.len],fun i hi=>?_,fun i hi=>?_⟩⟩
 ·unfold numL;rw[qB9];refine Eq.trans (qBs fun x hx=>?_) (List.map_id ns);obtain⟨i,hi,e⟩:=qC5 hx;obtain⟨j,_,h2,_⟩:=key i (by rw[<- h.len];exact hi);rw[qA4 hi,e]at h2;simp at h2;rw[h2];rfl
 ·obtain⟨j,h1,h2,_⟩:=key i hi;rw[hnt i j h2];exact h1
 ·obtain⟨j,h1,h2,h3⟩:=key i hi;rw[hnt i j h2,hnt j i h3]
theorem zJU(ns:List Int)(n:Nat)(h1:1<=n)(hn:n<=20):∃ms,FW.NetL ms (4*n)/\zDD [.scr ns,.int 2,.int (n:Int)]=okR (rowD ms):=by
 suffices h:eiR (zDE [some (.scr ns,0),some (.int 2,0),some (.int (n:Int),0),none,none,none,none,none,none]) (fun _=>False) (fun d=>∃ms,d=rowD ms/\FW.NetL ms (4*n)) by
  rcases h with⟨_,_,z⟩|⟨d,h1,ms,rfl,h2⟩
  ·exact z.elim
  ·exact⟨ms,h2,zBE rfl h1⟩
 have m0:mulD (.int 4) (.int (n:Int))=some (.int ((4*n:Nat):Int)):=by
  rw[zKQ (by lia) (by lia)]
  congr 2
 have m2:mulD (.int 2) (.int (n:Int))=some (.int ((2*n:Nat):Int)):=by
  rw[zKQ (by lia) (by lia)]
  congr 2
 have hra:rangeD [.int ((4*n:Nat):Int)]=some (rowD (numL (qAg (4*n)))):=by
  rw[zUY (by lia) (by lia),show(((4*n:Nat):Int)).toNat=4*n by lia,zKN];rfl
 have hrp:=zMW (4*n) (by lia);unfold zDE;refine zCW (P:=fun r=>r=[some (.scr ns,0),some (.int 2,0),some (.int (n:Int),0),some (rowD (numL (qAg (4*n))),1),none,none,none,none,none]) (zF9 ?_) ?_
 ·have hd:=zAZ (numL (qAg (4*n)))
  generalize rowD (numL (qAg (4*n)))=Z at hra hd ⊢
  simp only[zFE,zB3,zBF,qB8,qBt,zJX,zB8,zC8,x_eB,x_eC,x_eV,qB1,qAu,zA1,m0,zA8,hra];rw[if_pos (by lia)];exact zAK rfl rfl
 rintro r rfl
 refine zCW (P:=fun r=>r=[some (.scr ns,0),some (.int 2,0),some (.int (n:Int),0),some (rowD (numL (qAg (4*n))),1),some (rowD (qA5 (4*n) 0),1),none,none,none,none]) (zF9 ?_) ?_
 ·generalize rowD (numL (qAg (4*n)))=Z
  have hd:=zAZ (qA5 (4*n) 0)
  generalize rowD (qA5 (4*n) 0)=Y at hrp hd ⊢
  simp only[zFE,zB3,zBF,qB8,qBt,zTM,zB8,zC8,x_eB,x_eC,x_eV,qB1,qAu,zA1,m0,zA8];rw[if_pos (by simp),zA1,hrp,zA8,zA1,if_pos (by lia)];exact zAK rfl rfl
 rintro r rfl
 obtain⟨c0,a0,b0,e0⟩:=zG1 ns 2 (by lia) (by lia);refine zCW (P:=fun r=>r=[some (.scr ns,0),some (.int 2,0),some (.int (n:Int),0),some (rowD (numL (qAg (4*n))),1),some (rowD (qA5 (4*n) 0),1),some (.int (c0%1000003),0),none,none,none]) (zF9 ?_) ?_
 ·generalize rowD (numL (qAg (4*n)))=Z
  generalize rowD (qA5 (4*n) 0)=Y
  simp[e0]
 rintro r rfl
 refine zCW (P:=fun r=>∃left:List Nat,∃ms:List Int,∃o5 o6 o7 o8,r=[some (.scr ns,0),some (.int 2,0),some (.int (n:Int),0),some (rowD (numL left),1),some (rowD ms,1),o5,o6,o7,o8]/\FW.Part left ms (4*n)/\left.length+2*(2*n)=4*n) (zF9 ?_) ?_
 ·have hit:iR1 (aCons (eB mulD (eC (.int 2)) (eV 2)) aNil) (full [some (.scr ns,0),some (.int 2,0),some (.int (n:Int),0),some (rowD (numL (qAg (4*n))),1),some (rowD (qA5 (4*n) 0),1),some (.int (c0%1000003),0),none,none,none])=okR (nums 0 (2*n)):=zIJ (n:=2*n) (by
   generalize rowD (numL (qAg (4*n)))=Z
   generalize rowD (qA5 (4*n) 0)=Y
   simp[m2,-zGN]) (by lia)
  rw[zF1,hit,zA1];refine zM1 (fun k r=>∃left:List Nat,∃ms:List Int,∃w:Int,∃o6 o7 o8,r=[some (.scr ns,0),some (.int 2,0),some (.int (n:Int),0),some (rowD (numL left),1),some (rowD ms,1),some (.int w,0),o6,o7,o8]/\FW.Part left ms (4*n)/\left.length+2*k=4*n) ⟨_,_,_,_,_,_,rfl,FW.Part.start (4*n) (by lia),by simp⟩ (fun k hk r hr=>?_) fun r hr=>?_
  ·obtain⟨left,ms,w,o6,o7,o8,rfl,hP,hll⟩:=hr
   match left,hll,hP with
   |[],hll,_=>simp at hll;lia
   |[x],hll,hP=>have:=hP.ev;simp at this
   |x::y::l,hll,hP=>
    obtain⟨c,a,b,e⟩:=zG1 ns (3+(k:Int)) (by lia) (by lia);have m1:mulD (.int w) (.int 48271)=some (.int (w*48271)):=zO9 (by lia) (by lia);simp only[qBj]at hll;refine zBL fun bb hb=>?_
    refine zAK (r:=[some (.scr ns,0),some (.int 2,0),some (.int (n:Int),0),some (rowD (numL (x::y::l)),1),some (rowD ms,1),some (.int ((w*48271+c)%2147483647),0),some (.int (k:Nat),0),o7,o8]) (by
     generalize rowD (numL (x::y::l))=Z
     generalize rowD ms=Y
     simp[m1,e,-zGN]) ?_
    generalize(w*48271+c)%2147483647=w2
    subst hb;have hx:=hP.lt x (by simp);have hml:=hP.len;have g0:(numL (x::y::l)).getD 0 0=(x:Int):=rfl;refine zBL fun bb hb=>?_
    refine zAK (r:=[some (.scr ns,0),some (.int 2,0),some (.int (n:Int),0),some (rowD (numL (y::l)),1),some (rowD ms,1),some (.int w2,0),some (.int (k:Nat),0),some (.int (x:Int),0),o8]) (zN2 (i:=3) (j:=7) (l:=0) (ls:=numL (x::y::l)) (z:=0) rfl rfl (by lia) (by simp[numL];lia) (by lia) (by simp[numL];lia)) ?_;subst hb;have hnl:(numL (y::l)).length=l.length+1:=by simp[numL]
    obtain⟨z,hz⟩:∃z,w2/16%((l.length+1:Nat):Int)=z:=⟨_,rfl⟩
    have z0:0<=z:=by rw[<- hz];exact qDg _ (by lia)
    have z1:z<((l.length+1:Nat):Int):=by rw[<- hz];exact qCu _ (by lia)
    have hmod:modD (.int (w2/16)) (.int ((l.length+1:Nat):Int))=some (.int z):=by
     rw[<- hz]
     have:((l.length+1:Nat):Int)≠0:=by lia
     simp only[zUZ];rw[if_pos]
     lia
    have he:eB modD (eB divD (eV 5) (eC (.int 16))) (eBi lenD (aCons (eV 3) aNil)) (full [some (.scr ns,0),some (.int 2,0),some (.int (n:Int),0),some (rowD (numL (y::l)),1),some (rowD ms,1),some (.int w2,0),some (.int (k:Nat),0),some (.int (x:Int),0),o8])=okR (.int z):=by
     simp only[zB3,zBF,qB8,x_eB,x_eV,x_eC,zJX,zB8,zC8,qB1,qAu,zA1,lenR,hnl,zA8];rw[show(((l.length+1:Nat)):Int)=(l.length:Int)+1 by lia]at hmod;simp[hmod,-zUZ]
    have hzt:z.toNat<(y::l).length:=by simp;lia
    obtain⟨b',hb'⟩:∃b',(y::l)[z.toNat]?=some b':=⟨_,qA4 hzt⟩
    have gz:(numL (y::l)).getD z.toNat 0=(b':Int):=by
     unfold numL;rw[qA0,qAf,hb'];rfl
    have hbl:=hP.lt b' (by have:=qB5 hb';simp at this ⊢;exact .inr this);have her:(numL (y::l)).eraseIdx z.toNat=numL ((y::l).eraseIdx z.toNat):=zIB _ _ _;refine zBL fun bb hb=>?_
    have hpop:=zN2 (i:=3) (j:=8) (l:=0) (ls:=numL (y::l)) (z:=z) (r:=[some (.scr ns,0),some (.int 2,0),some (.int (n:Int),0),some (rowD (numL (y::l)),1),some (rowD ms,1),some (.int w2,0),some (.int (k:Nat),0),some (.int (x:Int),0),o8]) rfl he z0 (by rw[hnl];exact z1) (by lia) (by rw[hnl];lia);rw[gz,her]at hpop;refine zAK (r:=[some (.scr ns,0),some (.int 2,0),some (.int (n:Int),0),some (rowD (numL ((y::l).eraseIdx z.toNat)),1),some (rowD ms,1),some (.int w2,0),some (.int (k:Nat),0),some (.int (x:Int),0),some (.int (b':Int),0)]) hpop ?_;subst hb;have hT:=FW.Part.turn (a:=x) (b:=b') (k:=z.toNat) (l:=y::l) hP hb';have s4:=zFW (i:=4) (n:=0) (l:=0) (ls:=ms) (e1:=eV 7) (e2:=eV 8) (z:=(x:Int)) (v:=(b':Int)) (r:=[some (.scr ns,0),some (.int 2,0),some (.int (n:Int),0),some (rowD (numL ((y::l).eraseIdx z.toNat)),1),some (rowD ms,1),some (.int w2,0),some (.int (k:Nat),0),some (.int (x:Int),0),some (.int (b':Int),0)]) rfl rfl rfl (by lia) (by lia);have s5:=zFW (i:=4) (n:=0) (l:=0) (ls:=ms.set x (b':Int)) (e1:=eV 8) (e2:=eV 7) (z:=(b':Int)) (v:=(x:Int)) (r:=[some (.scr ns,0),some (.int 2,0),some (.int (n:Int),0),some (rowD (numL ((y::l).eraseIdx z.toNat)),1),some (rowD (ms.set x (b':Int)),1),some (.int w2,0),some (.int (k:Nat),0),some (.int (x:Int),0),some (.int (b':Int),0)]) rfl rfl rfl (by lia) (by rw[qDb];lia);rw[qCh]at s4 s5;refine zBL fun bb hb=>zAK s4 ?_
    subst hb;refine zAK s5 ⟨(y::l).eraseIdx z.toNat,(ms.set x (b':Int)).set b' (x:Int),w2,_,_,_,rfl,hT,?_⟩
    have:=FW.len_erase hzt
    simp only[qBj]at this
    lia
  ·obtain⟨left,ms,w,o6,o7,o8,rfl,hP,hll⟩:=hr;exact⟨left,ms,_,_,_,_,rfl,hP,hll⟩
 rintro r ⟨left,ms,o5,o6,o7,o8,rfl,hP,hll⟩
 have hle:left=[]:=qAx (by lia);subst hle;refine .inr ⟨rowD ms,?_,ms,rfl,hP.done⟩
 generalize rowD (numL [])=Z
 generalize rowD ms=Y
 simp[sRetV]
structure Seats(R:List (List Nat))(n:Nat):Prop where
 len:R.length=n
 per:∀l∈R,l.Perm [0,1,2,3]
theorem zPE{c n k:Int}{R:List (List Nat)}{lv l5:Nat}{h0:Int}{o7:Option Sl} :
  nxR (sFor [] (iSq (eTup (aCons (eC (.int 4)) (aCons (eC (.int 3)) (aCons (eC (.int 2)) (aCons (eC (.int 1)) aNil)))))) (.one 7) (sSeq (sAppPop 6 4 (eB modD (eV 5) (eV 7)))
   (sSet 5 0 [5,7] (eB divD (eV 5) (eV 7)))) [some (.int c,0),some (.int n,0),some (rowsD R,lv),some (.int k,0),some (rowD (numL [0,1,2,3]),1),some (.int h0,l5),some (rowD (numL []),9),o7])
   (fun r=>∃so:List Nat,∃o4 o5 o7,r=[some (.int c,0),some (.int n,0),some (rowsD R,lv),some (.int k,0),o4,o5,some (rowD (numL so),9),o7]/\so.Perm [0,1,2,3]):=by
 generalize rowsD R=RR
 have hi:∀ρ:Rh,iSq (eTup (aCons (eC (.int 4)) (aCons (eC (.int 3)) (aCons (eC (.int 2)) (aCons (eC (.int 1)) aNil))))) ρ=okR (([4,3,2,1]:List Nat).map fun m:Nat=>Dt.int (m:Int)):=fun ρ=>by simp
 rw[zMM,hi];show nxR (zA4 (okR (([4,3,2,1]:List Nat).map fun m:Nat=>Dt.int (m:Int))) fun ds=>forGo (.one 7) _ ds [some (.int c,0),some (.int n,0),some (RR,lv),some (.int k,0),some (rowD (numL [0,1,2,3]),1),some (.int h0,l5),some (rowD (numL []),9),o7]) _;rw[zA1];refine zF7 (fun m:Nat=>Dt.int (m:Int)) [4,3,2,1] (fun j r=>∃so left:List Nat,∃h:Int,∃l5 o7,r=[some (.int c,0),some (.int n,0),some (RR,lv),some (.int k,0),some (rowD (numL left),1),some (.int h,l5),some (rowD (numL so),9),o7]/\(so++left).Perm [0,1,2,3]/\so.length=j) ⟨[],[0,1,2,3],_,_,_,rfl,qEt _,rfl⟩ (fun j m hm r hr=>?_) fun r hr=>?_
 ·obtain⟨so,left,h,l5,o7,rfl,hp,hl⟩:=hr;have hmj:m+j=4:=by
   match j,hm with
   |0,hm=>cases hm;rfl
   |1,hm=>cases hm;rfl
   |2,hm=>cases hm;rfl
   |3,hm=>cases hm;rfl
   |j+4,hm=>simp at hm
  have hj4:j<4:=by
   have:=(qA2.mp hm).1
   simpa using this
  have hll:left.length=m:=by
   have:=hp.length_eq
   simp at this
   lia
  have z0:=qDg h (show((m:Nat):Int)≠0 by lia);have z1:=qCu h (show(0:Int)<((m:Nat):Int) by lia);have hm0:¬(m:Int)=0:=by lia
  have hmp:0<m:=by lia
  obtain⟨z,hz⟩:∃z,h%(m:Int)=z:=⟨_,rfl⟩
  rw[hz]at z0 z1;have he:eB modD (eV 5) (eV 7) (full [some (.int c,0),some (.int n,0),some (RR,lv),some (.int k,0),some (rowD (numL left),1),some (.int h,l5),some (rowD (numL so),9),some (.int (m:Int),0)])=okR (.int z):=by
   generalize rowD (numL left)=Z
   generalize rowD (numL so)=Y
   simp[hmp,hz]
  have hzt:z.toNat<left.length:=by lia
  show nxR (sSeq _ _ [some (.int c,0),some (.int n,0),some (RR,lv),some (.int k,0),some (rowD (numL left),1),some (.int h,l5),some (rowD (numL so),9),some (.int (m:Int),0)]) _;have e1:Dt.lst (((numL left).map Dt.int).eraseIdx z.toNat)=rowD (numL (left.eraseIdx z.toNat)):=by
   unfold rowD numL;rw[zIB,zIB]
  have e2:Dt.lst ((numL so).map Dt.int++[.int (left.getD z.toNat 0:Nat)])=rowD (numL (so++[left.getD z.toNat 0])):=by
   unfold rowD numL;simp[-qA0]
  have hap:=zLO (r:=[some (.int c,0),some (.int n,0),some (RR,lv),some (.int k,0),some (rowD (numL left),1),some (.int h,l5),some (rowD (numL so),9),some (.int (m:Int),0)]) (i:=4) (j:=6) (k:=0) (l:=8) (ds:=(numL left).map Dt.int) (es:=(numL so).map Dt.int) (c:=.int (left.getD z.toNat 0:Nat)) rfl rfl he z0 (by simp[numL];lia) (by simp[numL,qA4 hzt,qA0]) (by simp) (by lia) (by simp[numL];lia) (by simp[numL];lia) (by lia);rw[e1,e2]at hap;refine zBL fun bb hb=>zAK hap ?_
  subst hb;refine zAK (r:=[some (.int c,0),some (.int n,0),some (RR,lv),some (.int k,0),some (rowD (numL (left.eraseIdx z.toNat)),1),some (.int (h/(m:Int)),0),some (rowD (numL (so++[left.getD z.toNat 0])),9),some (.int (m:Int),0)]) ?_ ⟨so++[left.getD z.toNat 0],left.eraseIdx z.toNat,_,_,_,rfl,?_,by simp[hl]⟩
  ·show sSet 5 0 [5,7] (eB divD (eV 5) (eV 7)) [some (.int c,0),some (.int n,0),some (RR,lv),some (.int k,0),some (rowD (numL (left.eraseIdx z.toNat)),1),some (.int h,l5),some (rowD (numL (so++[left.getD z.toNat 0])),9),some (.int (m:Int),0)]=_
   generalize rowD (numL (left.eraseIdx z.toNat))=Z
   generalize rowD (numL (so++[left.getD z.toNat 0]))=Y
   have hm3:(m:Int)<1000000000000000000000000:=by lia
   simp[hmp,hm3]
  ·refine qG3 ?_ hp;rw[qC2];refine qEj so ?_;rw[qEk];have hg:left.getD z.toNat 0=left[z.toNat]:=by rw[qA0,qA4 hzt];rfl
   rw[hg];exact(zH5 left hzt).symm
 ·obtain⟨so,left,h,l5,o7,rfl,hp,hl⟩:=hr;have hle:left=[]:=by
   have:=hp.length_eq
   simp at this;exact qAx (by simp at hl;lia)
  subst hle;rw[qBq]at hp;exact⟨so,_,_,_,rfl,hp⟩
theorem zNZ(c:Int)(n:Nat)(n1:1<=n)(n9:n<=100):∃R,Seats R n/\zE7 [.int c,.int (n:Int)]=okR (rowsD R):=by
 suffices h:eiR (zEE [some (.int c,0),some (.int (n:Int),0),none,none,none,none,none,none]) (fun _=>False) (fun d=>∃R,d=rowsD R/\Seats R n) by
  rcases h with⟨_,_,z⟩|⟨d,h1,R,rfl,h2⟩
  ·exact z.elim
  ·exact⟨R,h2,zBE rfl h1⟩
 unfold zEE;refine zCW (P:=fun r=>r=[some (.int c,0),some (.int (n:Int),0),some (rowsD [],9),none,none,none,none,none]) (zF9 (by simp;rfl)) ?_
 rintro r rfl
 refine zCW (P:=fun r=>∃R,∃lv o3 o4 o5 o6 o7,r=[some (.int c,0),some (.int (n:Int),0),some (rowsD R,lv+1),o3,o4,o5,o6,o7]/\Seats R n/\(lv=0\/n=0)) (zF9 ?_) ?_
 ·have hit:iR1 (aCons (eV 1) aNil) (full [some (.int c,0),some (.int (n:Int),0),some (rowsD [],9),none,none,none,none,none])=okR (nums 0 n):=zIJ (n:=n) (by
   generalize rowsD []=Z
   simp) (by lia)
  rw[zF1,hit,zA1];refine zM1 (fun k r=>∃R,∃lv o3 o4 o5 o6 o7,r=[some (.int c,0),some (.int (n:Int),0),some (rowsD R,lv+1),o3,o4,o5,o6,o7]/\Seats R k/\(lv=0\/k=0)) ⟨[],8,none,none,none,none,none,rfl,⟨rfl,fun l h=>by cases h⟩,.inr rfl⟩ (fun k hk r hr=>?_) fun r hr=>hr
  obtain⟨R,lv,o3,o4,o5,o6,o7,rfl,hS,hlv⟩:=hr;show nxR (sSeq _ _ [some (.int c,0),some (.int (n:Int),0),some (rowsD R,lv+1),some (.int (k:Nat),0),o4,o5,o6,o7]) _;refine zBL fun bb hb=>zAK (r:=[some (.int c,0),some (.int (n:Int),0),some (rowsD R,lv+1),some (.int (k:Nat),0),some (rowD (numL [0,1,2,3]),1),o5,o6,o7]) (by
   generalize rowsD R=Z
   simp
   rfl) ?_
  subst hb;have m1:∀x:Int,mulD (.int x) (.int 48271)=some (.int (x*48271)):=fun x=>zO9 (by lia) (by lia)
  have hk1:¬(k:Int)+1=0:=by lia
  refine zBL fun bb hb=>zAK (r:=[some (.int c,0),some (.int (n:Int),0),some (rowsD R,lv+1),some (.int (k:Nat),0),some (rowD (numL [0,1,2,3]),1),some (.int (c/((k:Int)+1)*48271%1000003+(k:Int)),1),o6,o7]) (by
   generalize rowsD R=Z
   generalize rowD (numL [0,1,2,3])=Y
   have hk2:(0:Int)<(k:Int)+1:=by lia
   have hk3:(k:Int)+1<1000000000000000000000000:=by lia
   simp[m1,hk1,hk2,hk3,-zGN]) ?_
  subst hb;refine zBL fun bb hb=>zAK (r:=[some (.int c,0),some (.int (n:Int),0),some (rowsD R,lv+1),some (.int (k:Nat),0),some (rowD (numL [0,1,2,3]),1),some (.int (c/((k:Int)+1)*48271%1000003+(k:Int)),1),some (rowD (numL []),9),o7]) (by
   generalize rowsD R=Z
   generalize rowD (numL [0,1,2,3])=Y
   simp
   rfl) ?_
  subst hb;obtain⟨r',g1,so,o4',o5',o7',rfl,hp⟩:=zCI (zPE (c:=c) (n:=(n:Int)) (k:=(k:Nat)) (R:=R) (lv:=lv+1) (l5:=1) (h0:=c/((k:Int)+1)*48271%1000003+(k:Int)) (o7:=o7));refine zBL fun bb hb=>zAK g1 ?_
  subst hb;have hRl:=hS.len;refine zAK (zHU (i:=2) (v:=6) (R:=R) (l:=so) (lv:=lv) (lx:=9) rfl rfl (by decide) (fun ρ hρ=>by show(match ρ[6]? with|some (some d)=>okR d|_=>none)=_;rw[hρ]) (by lia)) ⟨R++[so],0,some (.int (k:Nat),0),o4',o5',some (rowD (numL so),0),o7',rfl,⟨by simp[hRl],fun l hl=>?_⟩,.inl rfl⟩
  rcases qAw.mp hl with h|h
  ·exact hS.per l h
  ·simp at h;subst h;exact hp
 rintro r ⟨R,lv,o3,o4,o5,o6,o7,rfl,hS,hlv⟩
 have:lv=0:=by lia
 subst this;refine .inr ⟨rowsD R,?_,R,rfl,hS⟩
 generalize rowsD R=Z
 simp[sRetV]
theorem zBG{l:List Nat}(h:l.Perm [0,1,2,3]):l.length=4/\(∀i,i<4->l.getD i 0<4)/\(∀i j,i<4->j<4->l.getD i 0=l.getD j 0->i=j)/\∀s,s<4->∃i,i<4/\l.getD i 0=s:=by
 have hl:l.length=4:=h.length_eq;have hn:l.Nodup:=h.nodup_iff.mpr (by decide);have hg:∀i (hi:i<l.length),l.getD i 0=l[i]:=fun i hi=>by rw[qA0,qA4 hi];rfl
 refine⟨hl,fun i hi=>?_,fun i j hi hj e=>?_,fun s hs=>?_⟩
 ·rw[hg i (by lia)]
  have:l[i]'(by lia)∈[0,1,2,3]:=h.mem_iff.mp (qD5 _)
  simp at this
  lia
 ·rw[hg i (by lia),hg j (by lia)]at e;have hp:=List.pairwise_iff_getElem.mp hn
  rcases qDt i j with z|z|z
  ·exact absurd e (hp i j (by lia) (by lia) z)
  ·exact z
  ·exact absurd e.symm (hp j i (by lia) (by lia) z)
 ·have:s∈l:=h.mem_iff.mpr (by simp;lia)
  obtain⟨i,hi,e⟩:=qC5 this;exact⟨i,by lia,by rw[hg i hi,e]⟩
noncomputable def atN(row:List Nat)(k:Nat):Nat:=if row.getD k 0∈row.take k then 2 else 0
noncomputable def SE(R:List (List Nat))(p i:Nat):Nat:=4*p+(R.getD p []).getD i 0
def inE(R:List (List Nat))(row:List Nat)(k:Nat):Nat:=SE R (row.getD k 0) (atN row k)
def ouE(R:List (List Nat))(row:List Nat)(k:Nat):Nat:=SE R (row.getD k 0) (atN row k+1)
noncomputable def prv(N k:Nat):Nat:=if k=0 then N-1 else k-1
theorem zDI(row:List Nat)(k:Nat):atN row k=0\/atN row k=2:=by unfold atN;split<;>simp
section
variable{R:List (List Nat)}{row:List Nat}{n:Nat}(hS:Seats R n)(tw:Twice n row)
include hS
theorem zDK{p:Nat}(hp:p<n):(R.getD p []).Perm [0,1,2,3]:=by
 have:=hS.len
 rw[qA0,qA4 (by lia)];exact hS.per _ (qD5 _)
theorem zZP{p i:Nat}(hp:p<n)(hi:i<4):SE R p i<4*n:=by
 have:=(zBG (zDK hS hp)).2.1 i hi
 unfold SE
 lia
theorem zRN{p p' i i':Nat}(hp:p<n)(hp':p'<n)(hi:i<4)(hi':i'<4)(e:SE R p i=SE R p' i'):p=p'/\i=i':=by
 have h1:=(zBG (zDK hS hp)).2.1 i hi;have h2:=(zBG (zDK hS hp')).2.1 i' hi';unfold SE at e
 have:p=p':=by lia
 subst this;exact⟨rfl,(zBG (zDK hS hp)).2.2.1 i i' hi hi' (by lia)⟩
include tw
omit hS in
theorem zE2{k:Nat}(hk:k<2*n):row.getD k 0<n:=by
 have:=tw.len
 refine(tw.mem _).mp ?_;rw[qA0,qA4 (by lia)];exact qD5 _
omit hS in
theorem zZM{k k':Nat}(h:k<k')(hk':k'<2*n)(e:row.getD k 0=row.getD k' 0):atN row k≠atN row k':=by
 have hl:=tw.len;have hg:row.getD k 0=row[k]'(by lia):=by rw[qA0,qA4 (by lia)];rfl
 have h2:row.getD k' 0∈row.take k':=by
  rw[<- e,hg];exact qCm.mpr ⟨k,by lia,rfl⟩
 have e2:atN row k'=2:=if_pos h2;intro h3;have h4:row.getD k 0∈row.take k:=by
  rw[e2]at h3;unfold atN at h3
  split at h3
  ·assumption
  ·lia
 have h5:=tw.le1 (a:=k') (by lia);rw[<- e]at h5;have h6:(row.take (k+1)).count (row.getD k 0)<=(row.take k').count (row.getD k 0):=by
  refine qGy _ ?_;rw[show row.take (k+1)=(row.take k').take (k+1) by rw[List.take_take];congr 1;lia];exact qF8 _ _
 rw[qB7 (show k<row.length by lia),qCi,<- hg]at h6;have h7:0<(row.take k).count (row.getD k 0):=qDl.mpr h4;simp at h6;simp only[qA0]at h5 h7
 lia
omit hS in
theorem zUO{j k:Nat}(hj:j<2*n)(hk:k<2*n)(e:row.getD j 0=row.getD k 0)(e2:atN row j=atN row k):j=k:=by
 rcases qDt j k with z|z|z
 ·exact absurd e2 (zZM tw z hk e)
 ·exact z
 ·exact absurd e2.symm (zZM tw z hj e.symm)
theorem zL6{k:Nat}(hk:k<2*n):inE R row k<4*n:=zZP hS (zE2 tw hk) (by rcases zDI row k with h|h<;>lia)
theorem zN6{k:Nat}(hk:k<2*n):ouE R row k<4*n:=zZP hS (zE2 tw hk) (by rcases zDI row k with h|h<;>lia)
theorem zWE{j k:Nat}(hj:j<2*n)(hk:k<2*n)(e:inE R row j=inE R row k):j=k:=by
 obtain⟨h1,h2⟩:=zRN hS (zE2 tw hj) (zE2 tw hk) (by rcases zDI row j with h|h<;>lia) (by rcases zDI row k with h|h<;>lia) e;exact zUO tw hj hk h1 h2
theorem zVS{j k:Nat}(hj:j<2*n)(hk:k<2*n)(e:ouE R row j=ouE R row k):j=k:=by
 obtain⟨h1,h2⟩:=zRN hS (zE2 tw hj) (zE2 tw hk) (by rcases zDI row j with h|h<;>lia) (by rcases zDI row k with h|h<;>lia) e;exact zUO tw hj hk h1 (by lia)
theorem zFX{j k:Nat}(hj:j<2*n)(hk:k<2*n):inE R row j≠ouE R row k:=fun e=>by
 obtain⟨h1,h2⟩:=zRN hS (zE2 tw hj) (zE2 tw hk) (by rcases zDI row j with h|h<;>lia) (by rcases zDI row k with h|h<;>lia) e
 rcases zDI row j with h|h<;>rcases zDI row k with h'|h'<;>lia
omit hS in
theorem zNL{p:Nat}(hp:p<n):(∃k,k<2*n/\row.getD k 0=p/\atN row k=0)/\∃k,k<2*n/\row.getD k 0=p/\atN row k=2:=by
 have hl:=tw.len;have hm:p∈row:=(tw.mem p).mpr hp;have hi:row.idxOf p<row.length:=List.idxOf_lt_length_of_mem hm;have hg:row[row.idxOf p]=p:=List.getElem_idxOf hi;have hgd:row.getD (row.idxOf p) 0=p:=by rw[qA0,qA4 hi,hg];rfl
 have hnt:p∉row.take (row.idxOf p):=fun h=>by
  obtain⟨j,hj,e⟩:=qCm.mp h
  have:row.idxOf p<=j:=by
   by_cases z:j<row.idxOf p
   ·have:=List.not_of_lt_findIdx (p:=fun x=>x==p) (xs:=row) (i:=j) z
    simp at this;exact absurd e this
   ·lia
  lia
 refine⟨⟨row.idxOf p,by lia,hgd,by unfold atN;rw[hgd,if_neg hnt]⟩,?_⟩;have hc:=tw.cnt p;rw[if_pos hp,<- qEi (row.idxOf p+1) row,qCi]at hc;rw[qB7 hi,qCi,hg,qF2.mpr hnt]at hc;simp at hc;have h1:p∈row.drop (row.idxOf p+1):=qDl.mp (by lia);obtain⟨i,hi2,e⟩:=qC5 h1;rw[List.getElem_drop]at e;simp at hi2;have hgd2:row.getD (row.idxOf p+1+i) 0=p:=by rw[qA0,qA4 (by lia),e];rfl
 refine⟨row.idxOf p+1+i,by lia,hgd2,?_⟩;unfold atN;rw[hgd2,if_pos];exact qCm.mpr ⟨row.idxOf p,by lia,hg⟩
def Tied(R:List (List Nat))(row:List Nat)(n k:Nat)(ms:List Int):Prop:=ms.length=4*n/\∀j,j<k->ms[ouE R row (prv (2*n) j)]?=some ((inE R row j:Nat):Int)/\ms[inE R row j]?=some ((ouE R row (prv (2*n) j):Nat):Int)
omit hS tw in
theorem zKC{N k:Nat}(h:k<N):prv N k<N:=by unfold prv;split<;>lia
omit hS tw in
theorem zVM{N j k:Nat}(hj:j<N)(hk:k<N)(e:prv N j=prv N k):j=k:=by unfold prv at e;split at e<;>split at e<;>lia
theorem zP3{k:Nat}{ms:List Int}(hk:k<2*n)(h:Tied R row n k ms):Tied R row n (k+1) ((ms.set (ouE R row (prv (2*n) k)) ((inE R row k:Nat):Int)).set (inE R row k) ((ouE R row (prv (2*n) k):Nat):Int)):=by
 obtain⟨h1,h2⟩:=h;have hpk:=zKC hk;have a1:=zL6 hS tw hk;have a2:=zN6 hS tw hpk;have ne:=zFX hS tw hk hpk;refine⟨by simp[h1],fun j hj=>?_⟩
 by_cases z:j=k
 ·subst z;rw[qAa ne,qA9 (by lia),qA9 (by simp;lia)];exact⟨rfl,rfl⟩
 ·have hjk:j<k:=by lia
  have hpj:=zKC (show j<2*n by lia);obtain⟨g1,g2⟩:=h2 j hjk;rw[qAa (zFX hS tw hk hpj),qAa (fun e=>z (zVM (by lia) hk (zVS hS tw hpj hpk e.symm))),g1,
   qAa (fun e=>z (zWE hS tw (by lia) hk e.symm)),qAa (fun e=>zFX hS tw (show j<2*n by lia) hpk e.symm),g2]
  exact⟨rfl,rfl⟩
theorem zRZ{ms:List Int}(h:Tied R row n (2*n) ms):FW.NetL ms (4*n):=by
 obtain⟨h1,h2⟩:=h;refine⟨h1,fun i hi=>?_⟩;have hp:i/4<n:=by lia
 obtain⟨j,hj,ej⟩:=(zBG (zDK hS hp)).2.2.2 (i%4) (by lia);have hiS:i=SE R (i/4) j:=by unfold SE;lia
 obtain⟨⟨k0,b0,c0,d0⟩,k2,b2,c2,d2⟩:=zNL tw hp;have key:∃k,k<2*n/\(i=inE R row k\/i=ouE R row k):=by
  rcases(show j=0\/j=1\/j=2\/j=3 by lia)with z|z|z|z
  ·exact⟨k0,b0,.inl (by unfold inE;rw[c0,d0];subst z;exact hiS)⟩
  ·exact⟨k0,b0,.inr (by unfold ouE;rw[c0,d0];subst z;exact hiS)⟩
  ·exact⟨k2,b2,.inl (by unfold inE;rw[c2,d2];subst z;exact hiS)⟩
  ·exact⟨k2,b2,.inr (by unfold ouE;rw[c2,d2];subst z;exact hiS)⟩
 obtain⟨k,hk,e|e⟩:=key
 ·obtain⟨g1,g2⟩:=h2 k hk;refine⟨ouE R row (prv (2*n) k),zN6 hS tw (zKC hk),fun z=>zFX hS tw hk (zKC hk) (by rw[z,e]),by rw[e];exact g2,by rw[e];exact g1⟩
 ·obtain⟨q,hq,eq⟩:∃q,q<2*n/\prv (2*n) q=k:=by
   by_cases z:k+1=2*n
   ·exact⟨0,by lia,by unfold prv;simp;lia⟩
   ·exact⟨k+1,by lia,by unfold prv;simp⟩
  obtain⟨g1,g2⟩:=h2 q hq;rw[eq]at g1 g2;exact⟨inE R row q,zL6 hS tw hq,fun z=>zFX hS tw hq hk (by rw[z,e]),by rw[e];exact g1,by rw[e];exact g2⟩
end
theorem zNK(D:Kv)(k q:Sum Int Str)(v:Sw):getW (putW D k v) q=if q=k then some v else getW D q:=by
 unfold putW getW
 by_cases h:(D.any fun p=>decide (p.1=k))=true
 ·rw[if_pos h,List.find?_map];have e:((fun p:Sum Int Str×Sw=>decide (p.1=q))∘fun p=>if p.1=k then(p.1,v)else p)=fun p:Sum Int Str×Sw=>decide (p.1=q):=by
   funext p
   show decide ((if p.1=k then(p.1,v)else p).1=q)=decide (p.1=q)
   split<;>rfl
  rw[e];cases hf:D.find? fun p:Sum Int Str×Sw=>decide (p.1=q)with
  |none=>
   have hq:¬q=k:=fun z=>by
    subst z;obtain⟨x,hx,hd⟩:=qD3.mp h
    have:=qF3.mp hf x hx
    exact this hd
   rw[if_neg hq];rfl
  |some x=>
   have hx:x.1=q:=by have:=qG0 hf;simpa using this
   by_cases hq:q=k
   ·rw[if_pos hq];simp[hx,hq]
   ·rw[if_neg hq];simp[hx,hq]
 ·rw[if_neg h,List.find?_append];have hn:∀x∈D,¬x.1=k:=fun x hx e=>h (qD3.mpr ⟨x,hx,by simpa using e⟩)
  by_cases hq:q=k
  ·subst hq
   have:(D.find? fun p:Sum Int Str×Sw=>decide (p.1=q))=none:=qF3.mpr fun x hx=>by simpa using hn x hx
   rw[this,if_pos rfl];simp
  ·have hk:¬k=q:=fun z=>hq z.symm
   rw[if_neg hq];cases D.find? fun p:Sum Int Str×Sw=>decide (p.1=q)with
   |none=>simp[hk]
   |some x=>simp
def stoodT(l:List Nat):Kv:=l.foldl (fun(m:Kv)(x:Nat)=>putW m (.inl (x:Int)) (.int 2)) []
theorem zG7(l:List Nat)(x:Nat):stoodT (l++[x])=putW (stoodT l) (.inl (x:Int)) (.int 2):=by unfold stoodT;rw[qDs];rfl
theorem zMS{α:Type}{P:List α->Prop}(h0:P [])(hs:∀l x,P l->P (l++[x]))(l:List α):P l:=by
 have key:∀m:List α,P m.reverse:=fun m=>by
  induction m with
  |nil=>exact h0
  |cons a m ih=>rw[List.reverse_cons];exact hs _ _ ih
 have:=key l.reverse
 rwa [List.reverse_reverse]at this
theorem zPC(q:Nat)(l:List Nat):getW (stoodT l) (.inl (q:Int))=if q∈l then some (.int 2)else none:=by
 refine zMS (P:=fun l=>getW (stoodT l) (.inl (q:Int))=if q∈l then some (.int 2)else none) (by simp[stoodT,getW]) (fun l x ih=>?_) l;rw[zG7,zNK,ih]
 by_cases hx:q=x
 ·subst hx;simp
 ·have:¬(qCv (q:Int):Sum Int Str)=.inl (x:Int):=fun e=>hx (by injection e with e;lia)
  rw[if_neg this];simp[hx]
theorem zPB(l:List Nat):(stoodT l).length<=l.length:=by
 refine zMS (P:=fun l=>(stoodT l).length<=l.length) (by simp[stoodT]) (fun l x ih=>?_) l;rw[zG7]
 have:=zMZ (stoodT l) (.inl (x:Int)) (.int 2)
 simp
 lia
def insT(row:List Nat)(k:Nat):Dt:=.tup [.int ((row.getD k 0:Nat):Int),.int ((atN row k:Nat):Int)]
def insL(row:List Nat)(k:Nat):Dt:=.lst ((qAg k).map (insT row))
theorem zUA{row:List Nat}{N k:Nat}(hk:k<N):ixD (insL row N) (.int (k:Int))=some (insT row k):=by
 refine zL1 (j:=k) rfl ?_;rw[qAf,qDf hk];rfl
theorem zWB{row:List Nat}{N k:Nat}(hk:k<N):ixD (insL row N) (.int ((k:Int)-1))=some (insT row (prv N k)):=by
 by_cases z:k=0
 ·subst z;have hq:ixA ((qAg N).map (insT row)).length (((0:Nat):Int)-1)=some (N-1):=by
   rw[qAp,List.length_range];unfold ixA;simp
   lia
  show itA ((qAg N).map (insT row)) (((0:Nat):Int)-1)=_;unfold itA;rw[hq]
  show((qAg N).map (insT row))[N-1]?=_
  rw[qAf,qDf (by lia)];rfl
 ·rw[show(k:Int)-1=((k-1:Nat):Int) by lia,zUA (by lia)];unfold prv;rw[if_neg z]
theorem zPH{R:List (List Nat)}{p:Nat}(hp:p<R.length):ixD (rowsD R) (.int (p:Int))=some (rowD (numL (R.getD p []))):=by
 refine zL1 (j:=p) rfl ?_;rw[qAf,qA0,qA4 hp];rfl
theorem zST{row:List Nat}{RR N:Dt}(hz:row.length<=100)(hR:RR.dep<=1000) :
  nxR (sFor [0] (iSq (eV 0)) (.one 5) (sSeq (sApp 3 1 (eTup (aCons (eV 5) (aCons (eDGet (eV 4) (eV 5) (eC (.int 0))) aNil)))) (sDput 4 (eV 5) (eC (.int 2)))) [some (rowD (numL row),0),some (RR,0),some (N,1),some (.lst [],9),some (.dct [],1),none,none,none,none,none,none,none])
   (fun r=>∃o4 o5,r=[some (rowD (numL row),0),some (RR,0),some (N,1),some (insL row row.length,9),o4,o5,none,none,none,none,none,none]):=by
 have hi:iSq (eV 0) (frz (frzAt [0] [some (rowD (numL row),0),some (RR,0),some (N,1),some (.lst [],9),some (.dct [],1),none,none,none,none,none,none,none]))=okR (row.map fun m:Nat=>Dt.int (m:Int)):=by
  show okR ((numL row).map Dt.int)=_;unfold numL;rw[qB9];rfl
 rw[zMM,hi,zA1];show nxR (forGo (.one 5) _ _ [some (rowD (numL row),0),some (RR,0),some (N,1),some (.lst [],9),some (.dct [],1),none,none,none,none,none,none,none]) _;refine zF7 (fun m:Nat=>Dt.int (m:Int)) row (fun j r=>∃o5,r=[some (rowD (numL row),0),some (RR,0),some (N,1),some (insL row j,9),some (.dct (stoodT (row.take j)),1),o5,none,none,none,none,none,none]) ⟨_,rfl⟩ (fun j x hx r hr=>?_) fun r hr=>?_
 ·obtain⟨o5,rfl⟩:=hr;have hjl:j<row.length:=(qA2.mp hx).1;have hxe:row[j]=x:=(qA2.mp hx).2;have hgd:row.getD j 0=x:=by rw[qA0,hx];rfl
  have hget:(match getW (stoodT (row.take j)) (.inl (x:Int))with|some w=>swT w|none=>Dt.int 0)=.int ((atN row j:Nat):Int):=by
   rw[zPC];unfold atN;rw[hgd]
   by_cases hm:x∈row.take j
   ·rw[if_pos hm,if_pos hm];rfl
   ·rw[if_neg hm,if_neg hm];rfl
  have hsl:=zPB (row.take j);rw[qE1]at hsl;have hins:insL row (j+1)=.lst ((qAg j).map (insT row)++[insT row j]):=by
   unfold insL;rw[qDe,qBc];rfl
  show nxR (sSeq _ _ [some (rowD (numL row),0),some (RR,0),some (N,1),some (insL row j,9),some (.dct (stoodT (row.take j)),1),some (.int (x:Int),0),none,none,none,none,none,none]) _;refine zBL fun bb hb=>zAK (r:=[some (rowD (numL row),0),some (RR,0),some (N,1),some (insL row (j+1),9),some (.dct (stoodT (row.take j)),1),some (.int (x:Int),0),none,none,none,none,none,none]) ?_ ?_
  ·have hev:eTup (aCons (eV 5) (aCons (eDGet (eV 4) (eV 5) (eC (.int 0))) aNil)) (full [some (rowD (numL row),0),some (RR,0),some (N,1),some (insL row j,9),some (.dct (stoodT (row.take j)),1),some (.int (x:Int),0),none,none,none,none,none,none])=okR (insT row j):=by
    have h2:eDGet (eV 4) (eV 5) (eC (.int 0)) (full [some (rowD (numL row),0),some (RR,0),some (N,1),some (insL row j,9),some (.dct (stoodT (row.take j)),1),some (.int (x:Int),0),none,none,none,none,none,none])=okR (.int ((atN row j:Nat):Int)):=by
     show(if(Dt.int 0).dep=0 then okR (match getW (stoodT (row.take j)) (.inl (x:Int))with|some w=>swT w|none=>Dt.int 0)else none)=_
     rw[hget];rfl
    generalize eDGet (eV 4) (eV 5) (eC (.int 0))=ee at h2 ⊢
    generalize insL row j=I at h2 ⊢
    generalize rowD (numL row)=Z at h2 ⊢
    generalize Dt.dct (stoodT (row.take j))=DD at h2 ⊢
    simp only[zB3,zBF,qB8,qBt]at h2 ⊢;simp only[zX5,zB8,zC8,x_eV,qB1,qAu,h2,zA1];unfold insT;rw[hgd];simp
   show zA4 (eTup (aCons (eV 5) (aCons (eDGet (eV 4) (eV 5) (eC (.int 0))) aNil)) (full [some (rowD (numL row),0),some (RR,0),some (N,1),some (insL row j,9),some (.dct (stoodT (row.take j)),1),some (.int (x:Int),0),none,none,none,none,none,none])) (fun d=>@ite _ (((qAg j).map (insT row)).length<=100000/\d.dep<=1/\d.dep<=8) (qA3 _) (okR (Out.nx [some (rowD (numL row),0),some (RR,0),some (N,1),some (.lst ((qAg j).map (insT row)++[d]),9),some (.dct (stoodT (row.take j)),1),some (.int (x:Int),0),none,none,none,none,none,none])) none)=_;rw[hev,zA1];have hd:(insT row j).dep=1:=rfl;rw[if_pos ⟨by simp;lia,by lia,by lia⟩,hins]
  ·subst hb;refine zAK (r:=[some (rowD (numL row),0),some (RR,0),some (N,1),some (insL row (j+1),9),some (.dct (stoodT (row.take (j+1))),1),some (.int (x:Int),0),none,none,none,none,none,none]) ?_ ⟨_,rfl⟩;rw[qB7 hjl,hxe,zG7]
   show(@ite _ ((stoodT (row.take j)).length<=100000) (qA3 _) _ _:R Out)=_
   rw[if_pos (by lia)];rfl
 ·obtain⟨o5,rfl⟩:=hr;exact⟨_,_,rfl⟩
noncomputable def frzS(o:Option Sl):Option Dt:=match o with
 |some (d,n)=>if n=0\/d.dep=0 then some d else none
 |none=>none
theorem zQS(o:Option Sl)(r:Ro):frz (o::r)=frzS o::frz r:=rfl
theorem zUB(d:Dt):frzS (some (d,0))=some d:=by simp[frzS]
theorem zOR{R:List (List Nat)}{row:List Nat}{n k l3:Nat}{ms:List Int}{o4 o5 o7 o8 o9 o10 o11:Option Sl}(hS:Seats R n)(tw:Twice n row)(hz:n<=50)(hk:k<2*n)(h:Tied R row n k ms) :
  nxR (sSeq (sUnp [5,7] [3,6] (eB ixD (eV 3) (eB subD (eV 6) (eC (.int 1)))))
 (sSeq (sUnp [8,9] [3,6] (eB ixD (eV 3) (eV 6)))
 (sSeq (sSet 10 1 [5,1,7] (eB addD (eB mulD (eC (.int 4)) (eV 5)) (eB ixD (eB ixD (eV 1) (eV 5)) (eB addD (eV 7) (eC (.int 1))))))
 (sSeq (sSet 11 1 [8,9,1] (eB addD (eB mulD (eC (.int 4)) (eV 8)) (eB ixD (eB ixD (eV 1) (eV 8)) (eV 9))))
 (sSeq (sItem 2 0 (eV 10) (eV 11))
 (sItem 2 0 (eV 11) (eV 10)))))) [some (rowD (numL row),0),some (rowsD R,0),some (rowD ms,1),some (insL row (2*n),l3),o4,o5,some (.int (k:Nat),0),o7,o8,o9,o10,o11])
  (fun r=>∃ms:List Int,∃l3 o4 o5 o6 o7 o8 o9 o10 o11,r=[some (rowD (numL row),0),some (rowsD R,0),some (rowD ms,1),some (insL row (2*n),l3),o4,o5,o6,o7,o8,o9,o10,o11]/\Tied R row n (k+1) ms):=by
 have hpk:=zKC hk;have i1:=zWB (row:=row) hk;have i2:=zUA (row:=row) hk;have p1:=zE2 tw hpk;have p2:=zE2 tw hk;have hRl:=hS.len;have x1:=zPH (R:=R) (p:=row.getD (prv (2*n) k) 0) (by lia);have x2:=zPH (R:=R) (p:=row.getD k 0) (by lia);have f1:=(zBG (zDK hS p1)).1;have f2:=(zBG (zDK hS p2)).1;have a1:=zDI row (prv (2*n) k);have a2:=zDI row k;have y1:=zHI (R.getD (row.getD (prv (2*n) k) 0) []) (atN row (prv (2*n) k)+1) (by lia);have y2:=zHI (R.getD (row.getD k 0) []) (atN row k) (by lia);have l1:=zN6 hS tw hpk;have l2:=zL6 hS tw hk;have hst:=zP3 hS tw hk h;have hml:=h.1;have s1:=zFW (i:=2) (n:=0) (l:=0) (ls:=ms) (e1:=eV 10) (e2:=eV 11) (z:=(ouE R row (prv (2*n) k):Nat)) (v:=((inE R row k:Nat):Int)) (r:=[some (rowD (numL row),0),some (rowsD R,0),some (rowD ms,1),some (insL row (2*n),0),o4,some (.int ((row.getD (prv (2*n) k) 0:Nat):Int),0),some (.int (k:Nat),0),some (.int ((atN row (prv (2*n) k):Nat):Int),0),some (.int ((row.getD k 0:Nat):Int),0),some (.int ((atN row k:Nat):Int),0),some (.int ((ouE R row (prv (2*n) k):Nat):Int),1),some (.int ((inE R row k:Nat):Int),1)]) rfl rfl rfl (by lia) (by lia);have s2:=zFW (i:=2) (n:=0) (l:=0) (ls:=ms.set (ouE R row (prv (2*n) k)) ((inE R row k:Nat):Int)) (e1:=eV 11) (e2:=eV 10) (z:=(inE R row k:Nat)) (v:=((ouE R row (prv (2*n) k):Nat):Int)) (r:=[some (rowD (numL row),0),some (rowsD R,0),some (rowD (ms.set (ouE R row (prv (2*n) k)) ((inE R row k:Nat):Int)),1),some (insL row (2*n),0),o4,some (.int ((row.getD (prv (2*n) k) 0:Nat):Int),0),some (.int (k:Nat),0),some (.int ((atN row (prv (2*n) k):Nat):Int),0),some (.int ((row.getD k 0:Nat):Int),0),some (.int ((atN row k:Nat):Int),0),some (.int ((ouE R row (prv (2*n) k):Nat):Int),1),some (.int ((inE R row k:Nat):Int),1)]) rfl rfl rfl (by lia) (by rw[qDb];lia);rw[qCh]at s1 s2;have e1:4*((row.getD (prv (2*n) k) 0:Nat):Int)+(((R.getD (row.getD (prv (2*n) k) 0) []).getD (atN row (prv (2*n) k)+1) 0:Nat):Int)=((ouE R row (prv (2*n) k):Nat):Int):=by unfold ouE SE;lia
 have e2:4*((row.getD k 0:Nat):Int)+(((R.getD (row.getD k 0) []).getD (atN row k) 0:Nat):Int)=((inE R row k:Nat):Int):=by unfold inE SE;lia
 unfold insT at i1 i2;have mm1:mulD (.int 4) (.int ((row.getD (prv (2*n) k) 0:Nat):Int))=some (.int (4*((row.getD (prv (2*n) k) 0:Nat):Int))):=zKQ (by lia) (by lia);have mm2:mulD (.int 4) (.int ((row.getD k 0:Nat):Int))=some (.int (4*((row.getD k 0:Nat):Int))):=zKQ (by lia) (by lia);rw[show((atN row (prv (2*n) k)+1:Nat):Int)=((atN row (prv (2*n) k):Nat):Int)+1 by lia]at y1
 generalize((ouE R row (prv (2*n) k):Nat):Int)=OU at *
 generalize((inE R row k:Nat):Int)=IN at *
 generalize(((R.getD (row.getD (prv (2*n) k) 0) []).getD (atN row (prv (2*n) k)+1) 0:Nat):Int)=U1 at *
 generalize(((R.getD (row.getD k 0) []).getD (atN row k) 0:Nat):Int)=U2 at *
 generalize((row.getD (prv (2*n) k) 0:Nat):Int)=P1 at *
 generalize((row.getD k 0:Nat):Int)=P2 at *
 generalize((atN row (prv (2*n) k):Nat):Int)=A1 at *
 generalize((atN row k:Nat):Int)=A2 at *
 generalize rowD (numL (R.getD (row.getD (prv (2*n) k) 0) []))=Y1 at *
 generalize rowD (numL (R.getD (row.getD k 0) []))=Y2 at *
 refine zBL fun bb hb=>zAK (r:=[some (rowD (numL row),0),some (rowsD R,0),some (rowD ms,1),some (insL row (2*n),0),o4,some (.int P1,0),some (.int (k:Nat),0),some (.int A1,0),o8,o9,o10,o11]) (by
  generalize rowD (numL row)=Z1
  generalize rowsD R=Z2
  generalize rowD ms=Z3
  generalize insL row (2*n)=Z4 at i1 ⊢
  unfold sUnp;simp[i1,zAS,zAV,zQS,zUB]) ?_
 subst hb;refine zBL fun bb hb=>zAK (r:=[some (rowD (numL row),0),some (rowsD R,0),some (rowD ms,1),some (insL row (2*n),0),o4,some (.int P1,0),some (.int (k:Nat),0),some (.int A1,0),some (.int P2,0),some (.int A2,0),o10,o11]) (by
  generalize rowD (numL row)=Z1
  generalize rowsD R=Z2
  generalize rowD ms=Z3
  generalize insL row (2*n)=Z4 at i2 ⊢
  unfold sUnp;simp[i2,zAS,zAV,zQS,zUB]) ?_
 subst hb;refine zBL fun bb hb=>zAK (r:=[some (rowD (numL row),0),some (rowsD R,0),some (rowD ms,1),some (insL row (2*n),0),o4,some (.int P1,0),some (.int (k:Nat),0),some (.int A1,0),some (.int P2,0),some (.int A2,0),some (.int OU,1),o11]) (by
  generalize rowD (numL row)=Z1
  generalize rowsD R=Z2 at x1 x2 ⊢
  generalize rowD ms=Z3
  generalize insL row (2*n)=Z4
  simp[mm1,x1,y1,e1,-zGN]) ?_
 subst hb;refine zBL fun bb hb=>zAK (r:=[some (rowD (numL row),0),some (rowsD R,0),some (rowD ms,1),some (insL row (2*n),0),o4,some (.int P1,0),some (.int (k:Nat),0),some (.int A1,0),some (.int P2,0),some (.int A2,0),some (.int OU,1),some (.int IN,1)]) (by
  generalize rowD (numL row)=Z1
  generalize rowsD R=Z2 at x1 x2 ⊢
  generalize rowD ms=Z3
  generalize insL row (2*n)=Z4
  simp[mm2,x2,y2,e2,-zGN]) ?_
 subst hb;refine zBL fun bb hb=>zAK s1 ?_
 subst hb;exact zAK s2 ⟨_,_,_,_,_,_,_,_,_,_,rfl,hst⟩
theorem zOS{R:List (List Nat)}{row:List Nat}{n:Nat}(hS:Seats R n)(tw:Twice n row)(hz:n<=50):∃ms:List Int,Tied R row n (2*n) ms/\zD1 [rowD (numL row),rowsD R]=okR (rowD ms):=by
 have hrl:=tw.len
 suffices h:eiR (zD4 [some (rowD (numL row),0),some (rowsD R,0),none,none,none,none,none,none,none,none,none,none]) (fun _=>False) (fun d=>∃ms,d=rowD ms/\Tied R row n (2*n) ms) by
  rcases h with⟨_,_,z⟩|⟨d,h1,ms,rfl,h2⟩
  ·exact z.elim
  ·exact⟨ms,h2,zBE rfl h1⟩
 have hlen:lenD [rowD (numL row)]=some (.int ((2*n:Nat):Int)):=by
  rw[lenR];simp[numL,hrl]
 have m2:mulD (.int 2) (.int ((2*n:Nat):Int))=some (.int ((4*n:Nat):Int)):=by
  rw[zKQ (by lia) (by lia)]
  congr 2
  lia
 have hrp:=zMW (4*n) (by lia);have hd:=zAZ (qA5 (4*n) 0);have hrd:(rowsD R).dep<=1000:=by have:=zH2 R;lia
 unfold zD4;refine zCW (P:=fun r=>r=[some (rowD (numL row),0),some (rowsD R,0),some (rowD (qA5 (4*n) 0),1),none,none,none,none,none,none,none,none,none]) (zF9 ?_) ?_
 ·generalize rowD (numL row)=Z at hlen ⊢
  generalize rowsD R=X
  generalize rowD (qA5 (4*n) 0)=Y at hrp hd ⊢
  simp only[zFE,zB3,zBF,qB8,qBt,zTM,zB8,zC8,x_eB,zJX,x_eC,x_eV,qB1,qAu,zA1,hlen,m2,zA8];rw[if_pos (by simp),zA1,hrp,zA8,zA1,if_pos (by lia)];exact zAK rfl rfl
 rintro r rfl
 refine zCW (P:=fun r=>r=[some (rowD (numL row),0),some (rowsD R,0),some (rowD (qA5 (4*n) 0),1),some (.lst [],9),none,none,none,none,none,none,none,none]) (zF9 ?_) ?_
 ·generalize rowD (numL row)=Z
  generalize rowsD R=X
  generalize rowD (qA5 (4*n) 0)=Y
  simp
 rintro r rfl
 refine zCW (P:=fun r=>r=[some (rowD (numL row),0),some (rowsD R,0),some (rowD (qA5 (4*n) 0),1),some (.lst [],9),some (.dct [],1),none,none,none,none,none,none,none]) (zF9 ?_) ?_
 ·exact zAK rfl rfl
 rintro r rfl
 refine zCW (zF9 (zST (by lia) hrd)) ?_
 rintro r ⟨o4,o5,rfl⟩
 rw[hrl];refine zCW (P:=fun r=>∃ms:List Int,∃l3 o4 o5 o6 o7 o8 o9 o10 o11,r=[some (rowD (numL row),0),some (rowsD R,0),some (rowD ms,1),some (insL row (2*n),l3),o4,o5,o6,o7,o8,o9,o10,o11]/\Tied R row n (2*n) ms) (zF9 ?_) ?_
 ·have hit:iR1 (aCons (eBi lenD (aCons (eV 0) aNil)) aNil) (full [some (rowD (numL row),0),some (rowsD R,0),some (rowD (qA5 (4*n) 0),1),some (insL row (2*n),9),o4,o5,none,none,none,none,none,none])=okR (nums 0 (2*n)):=zIJ (n:=2*n) (by
   generalize rowD (numL row)=Z at hlen ⊢
   simp only[zB3,qB8,zJX,zB8,zC8,x_eV,qAu,zA1,hlen,zA8]) (by lia)
  rw[zF1,hit,zA1];refine zM1 (fun k r=>∃ms:List Int,∃l3 o4 o5 o6 o7 o8 o9 o10 o11,r=[some (rowD (numL row),0),some (rowsD R,0),some (rowD ms,1),some (insL row (2*n),l3),o4,o5,o6,o7,o8,o9,o10,o11]/\Tied R row n k ms) ⟨qA5 (4*n) 0,_,_,_,_,_,_,_,_,_,rfl,by simp,fun j hj=>by lia⟩ (fun k hk r hr=>?_) fun r hr=>hr
  obtain⟨ms,l3,o4,o5,o6,o7,o8,o9,o10,o11,rfl,hT⟩:=hr;exact zOR hS tw hz hk hT
 rintro r ⟨ms,l3,o4,o5,o6,o7,o8,o9,o10,o11,rfl,hT⟩
 refine .inr ⟨rowD ms,?_,ms,rfl,hT⟩
 generalize rowD (numL row)=Z
 generalize rowsD R=X
 generalize rowD ms=Y
 generalize insL row (2*n)=W
 simp[sRetV]
theorem zX1:∀s,s<4->∀w,w<3->(s^^^(w+1))≠s:=by decide
theorem zaP{cs:List Nat}{n e:Nat}(hl:cs.length=n)(hw:∀c∈cs,c<3)(he:e<4*n):jn cs e≠e:=fun h=>by
 have hc:cs.getD (e/4) 0<3:=zCJ hw (by lia);have h1:=zX1 (e%4) (by lia) _ hc;unfold jn at h
 lia
theorem zQF(f:Nat->Nat)(x p:Nat):∀k,itr f (k+p) x=itr f k (itr f p x)
 |0=>by rw[qCr];rfl
 |k+1=>by rw[show k+1+p=(k+p)+1 by lia];show f (itr f (k+p) x)=_;rw[zQF f x p k];rfl
section
variable{ts cs:List Nat}{n e:Nat}(hN:NetN ts (4*n))(hne:∀x,x<4*n->nt ts x≠x)(hl:cs.length=n)(hw:∀c∈cs,c<3)(he:e<4*n)
include hN hne hl hw he
theorem zQ5:∀d j,itr (stp ts cs) (j+d) e≠jn cs (itr (stp ts cs) j e):=by
 obtain⟨st1,_⟩:=zE1 hN hl hw;have hlt:∀k,itr (stp ts cs) k e<4*n:=zD7 st1 he;intro d
 induction d using qG2 with
 |ind d ih=>
  intro j h
  match d,ih,h with
  |0,_,h=>exact zaP hl hw (hlt j) h.symm
  |1,_,h=>
   have:itr (stp ts cs) (j+1) e=nt ts (jn cs (itr (stp ts cs) j e)):=rfl
   rw[this]at h;exact hne _ (zCS hl hw (hlt j)).1 h
  |d+2,ih,h=>
   have h1:itr (stp ts cs) (j+(d+2)) e=nt ts (jn cs (itr (stp ts cs) (j+1+d) e)):=by
    rw[show j+(d+2)=(j+1+d)+1 by lia];rfl
   rw[h1]at h;have h2:=congrArg (nt ts) h;rw[hN.inv _ (zCS hl hw (hlt _)).1]at h2;have h3:=congrArg (jn cs) h2;rw[(zCS hl hw (hlt _)).2]at h3;exact ih d (by lia) (j+1) h3
variable{p:Nat}(p3:itr (stp ts cs) p e=e)(p4:∀q,1<=q->q<p->itr (stp ts cs) q e≠e)
include p3 p4
theorem zJE{i j:Nat}(hi:i<j)(hj:j<p):itr (stp ts cs) i e≠itr (stp ts cs) j e:=fun h=>by
 obtain⟨st1,st2⟩:=zE1 hN hl hw
 have:=zJF st1 st2 he i (j-i) (by rw[show i+(j-i)=j by lia];exact h)
 exact p4 (j-i) (by lia) (by lia) this
theorem zNI{i j:Nat}(hi:i<p)(hj:j<p):itr (stp ts cs) i e≠jn cs (itr (stp ts cs) j e):=fun h=>by
 by_cases z:j<=i
 ·exact zQ5 hN hne hl hw he (i-j) j (by rw[show j+(i-j)=i by lia];exact h)
 ·have h1:itr (stp ts cs) (i+p) e=itr (stp ts cs) i e:=by rw[zQF,p3]
  exact zQ5 hN hne hl hw he (i+p-j) j (by rw[show j+(i+p-j)=i+p by lia,h1];exact h)
theorem zYZ{i j:Nat}(hi:i<j)(hj:j<p):jn cs (itr (stp ts cs) i e)≠jn cs (itr (stp ts cs) j e):=fun h=>by
 obtain⟨st1,st2⟩:=zE1 hN hl hw;have hlt:∀k,itr (stp ts cs) k e<4*n:=zD7 st1 he;have h3:=congrArg (jn cs) h;rw[(zCS hl hw (hlt _)).2,(zCS hl hw (hlt _)).2]at h3;exact zJE hN hne hl hw he p3 p4 hi hj h3
omit hN hne hl hw he p3 p4 in
theorem orb_mem{k x:Nat}:x∈orb ts cs e k↔∃i,i<k/\(x=itr (stp ts cs) i e\/x=jn cs (itr (stp ts cs) i e)):=by
 unfold orb;simp[qFn]
theorem zKG:∀k,k<=p->(orb ts cs e k).Nodup
 |0,_=>qEq
 |k+1,hk=>by
  rw[zEK];refine qDq.mpr ⟨zKG k (by lia),?_,fun x hx y hy hxy=>?_⟩
  ·refine qB4.mpr ⟨fun h=>?_,by simp⟩;simp at h;exact zNI hN hne hl hw he p3 p4 (by lia) (by lia) h
  ·subst hxy;obtain⟨i,hi,e1|e1⟩:=orb_mem.mp hx
   ·simp at hy
    rcases hy with e2|e2
    ·exact zJE hN hne hl hw he p3 p4 hi (by lia) (e1.symm.trans e2)
    ·exact zNI hN hne hl hw he p3 p4 (by lia) (by lia) (e1.symm.trans e2)
   ·simp at hy
    rcases hy with e2|e2
    ·exact zNI hN hne hl hw he p3 p4 (by lia) (by lia) (e2.symm.trans e1)
    ·exact zYZ hN hne hl hw he p3 p4 hi (by lia) (e1.symm.trans e2)
end
theorem zTN{ns:List Int}{M:Nat}(h:FW.NetL ns M):∃ts:List Nat,numL ts=ns/\NetN ts M/\∀x,x<M->nt ts x≠x:=by
 obtain⟨ts,e,hN⟩:=za5 h;refine⟨ts,e,hN,fun x hx=>?_⟩;obtain⟨j,h1,h2,h3,_⟩:=h.tie x hx;rw[<- e]at h3;unfold numL at h3;rw[qAf]at h3;unfold nt;rw[qA0];cases hq:ts[x]? with
 |none=>rw[hq]at h3;cases h3
 |some y=>
  rw[hq]at h3;simp at h3;simp
  lia
theorem zXK{z:Str}{l:List Nat}(h:z.cps.toList=l):z=⟨l.toArray⟩:=by
 cases z with
 |mk a=>subst h;simp
theorem add_str{a b:List Nat}(h:a.length+b.length<=1000):addD (.str ⟨a.toArray⟩) (.str ⟨b.toArray⟩)=some (.str ⟨(a++b).toArray⟩):=by
 rw[zX9,if_pos (by rw[zU1,zU1];lia)]
 congr 2
 exact zXK (by rw[zV6])
theorem zJ9(x:Nat):∀(l:List Nat)(D:Kv),(getW (zCO D l) (.inl (x:Int))).isSome=true↔(getW D (.inl (x:Int))).isSome=true\/x∈l
 |[],D=>by simp[zCO]
 |y::l,D=>by
  show(getW (zCO (putW D (.inl (y:Int)) (.bl true)) l) (.inl (x:Int))).isSome=true↔_
  rw[zJ9 x l,zNK]
  by_cases h:x=y
  ·subst h;simp
  ·have:¬(qCv (x:Int):Sum Int Str)=.inl (y:Int):=fun e=>h (by injection e with e;lia)
   rw[if_neg this];simp[h]
theorem zE4(f:Nat->List Nat)(x:Nat):∀k,(getW (rdS f k).2 (.inl (x:Int))).isSome=true↔∃l∈(rdS f k).1,x∈l
 |0=>by simp[rdS,getW]
 |k+1=>by
  by_cases h:(getW (rdS f k).2 (.inl (k:Int))).isSome=true
  ·have e:rdS f (k+1)=rdS f k:=by rw[rdS,if_pos h]
   rw[e];exact zE4 f x k
  ·have e:rdS f (k+1)=((rdS f k).1++[f k],zCO (rdS f k).2 (f k)):=by rw[rdS,if_neg h]
   rw[e]
   show(getW (zCO (rdS f k).2 (f k)) (.inl (x:Int))).isSome=true↔∃l∈(rdS f k).1++[f k],x∈l
   rw[zJ9,zE4 f x k];constructor
   ·rintro(⟨l,h1,h2⟩|h1)
    ·exact⟨l,by simp[h1],h2⟩
    ·exact⟨f k,by simp,h1⟩
   ·rintro⟨l,h1,h2⟩
    rcases qAw.mp h1 with h3|h3
    ·exact .inl ⟨l,h3,h2⟩
    ·simp at h3;subst h3;exact .inr h2
theorem zFM(f:Nat->List Nat):∀k,(∀e,e<k->e∈f e)->∀e,e<k->(getW (rdS f k).2 (.inl (e:Int))).isSome=true
 |0,_,e,he=>by lia
 |k+1,hf,e,he=>by
  by_cases h:(getW (rdS f k).2 (.inl (k:Int))).isSome=true
  ·have e1:rdS f (k+1)=rdS f k:=by rw[rdS,if_pos h]
   rw[e1]
   by_cases z:e=k
   ·subst z;exact h
   ·exact zFM f k (fun e he=>hf e (by lia)) e (by lia)
  ·have e1:rdS f (k+1)=((rdS f k).1++[f k],zCO (rdS f k).2 (f k)):=by rw[rdS,if_neg h]
   rw[e1]
   show(getW (zCO (rdS f k).2 (f k)) (.inl (e:Int))).isSome=true
   rw[zJ9]
   by_cases z:e=k
   ·subst z;exact .inr (hf e (by lia))
   ·exact .inl (zFM f k (fun e he=>hf e (by lia)) e (by lia))
theorem zIT(f:Nat->List Nat):∀k,∃t,(rdS f (k+1)).1=f 0::t
 |0=>⟨[],by simp[rdS,getW]⟩
 |k+1=>by
  obtain⟨t,ht⟩:=zIT f k
  by_cases h:(getW (rdS f (k+1)).2 (.inl ((k+1:Nat):Int))).isSome=true
  ·have e:rdS f (k+1+1)=rdS f (k+1):=by rw[rdS,if_pos h]
   exact⟨t,by rw[e];exact ht⟩
  ·have e:rdS f (k+1+1)=((rdS f (k+1)).1++[f (k+1)],zCO (rdS f (k+1)).2 (f (k+1))):=by rw[rdS,if_neg h]
   exact⟨t++[f (k+1)],by rw[e];show(rdS f (k+1)).1++[f (k+1)]=_;rw[ht];rfl⟩
structure Rnds(ts cs:List Nat)(n:Nat)(RR:List (List Nat)):Prop where
 prog:zDN [rowD (numL ts),rowD (numL cs)]=okR (rowsD RR)
 law:zAP [rowD (numL ts),rowD (numL cs)]=okR (rowsD RR)
 pos:1<=RR.length
 le:RR.length<=4*n
 one:RR.length=1->∃F:List Nat,zDF [rowD (numL ts),rowD (numL cs),.int 0]=okR (rowD (numL F))/\F.length=4*n/\∀x∈F,x<4*n
theorem rnds{ts cs:List Nat}{n:Nat}(n1:1<=n)(hn:n<=30)(hN:NetN ts (4*n))(hne:∀x,x<4*n->nt ts x≠x)(hl:cs.length=n)(hw:∀c∈cs,c<3):∃RR,Rnds ts cs n RR:=by
 obtain⟨st1,st2⟩:=zE1 hN hl hw;have hp:∀e,∃p,e<4*n->1<=p/\p<=4*n/\itr (stp ts cs) p e=e/\∀q,1<=q->q<p->itr (stp ts cs) q e≠e:=fun e=>by
  by_cases he:e<4*n
  ·obtain⟨p,h⟩:=zGF st1 st2 he;exact⟨p,fun _=>h⟩
  ·exact⟨0,fun z=>absurd z he⟩
 obtain⟨P,hP⟩:∃P:Nat->Nat,∀e,e<4*n->1<=P e/\P e<=4*n/\itr (stp ts cs) (P e) e=e/\∀q,1<=q->q<P e->itr (stp ts cs) q e≠e:=⟨fun e=>qD6 (hp e),fun e=>qCc (hp e)⟩
 obtain⟨f,hf⟩:∃f:Nat->List Nat,∀e,f e=if e<4*n then orb ts cs e (P e)else[]:=⟨_,fun _=>rfl⟩
 have hfo:∀e,e<4*n->f e=orb ts cs e (P e):=fun e he=>by rw[hf e,if_pos he]
 have hlt:∀e,e<4*n->∀k,itr (stp ts cs) k e<4*n:=fun e he=>zD7 st1 he
 have hfl:∀k,(f k).length<=8*n:=fun k=>by
  by_cases hk:k<4*n
  ·rw[hfo k hk,zDM]
   have:=(hP k hk).2.1
   lia
  ·rw[hf k,if_neg hk];simp
 have hfm:∀e,e<4*n->e∈f e:=fun e he=>by
  rw[hfo e he];exact orb_mem.mpr ⟨0,(hP e he).1,.inl rfl⟩
 have r1:=zH3 (cs:=cs) hN hn hfl fun e he=>by
  rw[hfo e he];obtain⟨h1,h2,h3,h4⟩:=hP e he;exact zG8 hN hl (by lia) hw he h1 h2 h3 h4
 have r2:=zKT (cs:=cs) hN hn hfl fun e he=>by
  rw[hfo e he];obtain⟨h1,h2,h3,h4⟩:=hP e he;exact zM4 hN hl (by lia) hw he h1 h2 h3 h4
 obtain⟨t,ht⟩:=zIT f (4*n-1);rw[show 4*n-1+1=4*n by lia]at ht;refine⟨(rdS f (4*n)).1,r1,r2,by rw[ht];simp,(zIS hfl (4*n)).1,fun h1=>?_⟩;have h0:0<4*n:=by lia
 obtain⟨a1,a2,a3,a4⟩:=hP 0 h0;have hall:∀x,x<4*n->x∈f 0:=fun x hx=>by
  obtain⟨l,b1,b2⟩:=(zE4 f x (4*n)).mp (zFM f (4*n) hfm x hx);rw[ht]at h1 b1
  have:t=[]:=qAx (by simp at h1;simpa using h1)
  subst this;simp at b1;subst b1;exact b2
 have hin:∀x∈f 0,x<4*n:=fun x hx=>by
  rw[hfo 0 h0]at hx;obtain⟨i,hi,e|e⟩:=orb_mem.mp hx
  ·rw[e];exact hlt 0 h0 i
  ·rw[e];exact(zCS hl hw (hlt 0 h0 i)).1
 have hnd:(f 0).Nodup:=by rw[hfo 0 h0];exact zKG hN hne hl hw h0 a3 a4 _ (qA6 _)
 have b1:=zFU (a:=f 0) (b:=qAg (4*n)) hnd fun x hx=>qBw.mpr (hin x hx)
 have b2:=zFU (a:=qAg (4*n)) (b:=f 0) qFm fun x hx=>hall x (qBw.mp hx)
 simp at b1 b2;refine⟨f 0,?_,by lia,hin⟩;rw[hfo 0 h0];exact zG8 hN hl (by lia) hw h0 a1 a2 a3 a4
structure Clo(ts cs:List Nat)(n:Nat)(S:Nat->Prop):Prop where
 jn:∀x,x<4*n->S x->S (jn cs x)
 nt:∀x,x<4*n->S x->S (nt ts x)
def OneAt(ts cs:List Nat)(n b:Nat):Prop:=∀S:Nat->Prop,Clo ts cs n S->S b->∀x,x<4*n->S x
theorem Clo.neg{ts cs:List Nat}{n:Nat}{S:Nat->Prop}(hN:NetN ts (4*n))(hl:cs.length=n)(hw:∀c∈cs,c<3)(h:Clo ts cs n S):Clo ts cs n fun x=>¬S x where
 jn:=fun x hx hs z=>hs (by
  have:=h.jn _ (zCS hl hw hx).1 z
  rw[(zCS hl hw hx).2]at this;exact this)
 nt:=fun x hx hs z=>hs (by
  have:=h.nt _ (hN.lt x hx) z
  rw[hN.inv x hx]at this;exact this)
theorem OneAt.any{ts cs:List Nat}{n b:Nat}(hN:NetN ts (4*n))(hl:cs.length=n)(hw:∀c∈cs,c<3)(h:OneAt ts cs n b){a:Nat}(ha:a<4*n):OneAt ts cs n a:=fun S hS hsa x hx=>by
 by_cases hb:S b
 ·exact h S hS hb x hx
 ·exact absurd hsa (h _ (hS.neg hN hl hw) hb a ha)
theorem zU7{ts cs:List Nat}{n:Nat}{S:Nat->Prop}(hN:NetN ts (4*n))(hl:cs.length=n)(hw:∀c∈cs,c<3)(h:Clo ts cs n S){a:Nat}(ha:a<4*n)(hs:S a):∀k,S (itr (stp ts cs) k a)
 |0=>hs
 |k+1=>by
  have hlt:=zD7 (zE1 hN hl hw).1 ha k;exact h.nt _ (zCS hl hw hlt).1 (h.jn _ hlt (zU7 hN hl hw h ha hs k))
section
variable{ts cs:List Nat}{n a p:Nat}(hN:NetN ts (4*n))(hl:cs.length=n)(hw:∀c∈cs,c<3)(ha:a<4*n)(p1:1<=p)(p3:itr (stp ts cs) p a=a)
include hN hl hw ha p1 p3
theorem zPY:Clo ts cs n fun x=>x∈orb ts cs a p where
 jn:=fun x hx h=>by
  have hlt:∀k,itr (stp ts cs) k a<4*n:=zD7 (zE1 hN hl hw).1 ha;obtain⟨i,hi,e|e⟩:=orb_mem.mp h
  ·exact orb_mem.mpr ⟨i,hi,.inr (by rw[e])⟩
  ·exact orb_mem.mpr ⟨i,hi,.inl (by rw[e,(zCS hl hw (hlt i)).2])⟩
 nt:=fun x hx h=>by
  have hlt:∀k,itr (stp ts cs) k a<4*n:=zD7 (zE1 hN hl hw).1 ha;obtain⟨i,hi,e|e⟩:=orb_mem.mp h
  ·obtain⟨j,hj,ej⟩:∃j,j<p/\itr (stp ts cs) (j+1) a=itr (stp ts cs) i a:=by
    by_cases z:i=0
    ·exact⟨p-1,by lia,by rw[show p-1+1=p by lia,p3,z];rfl⟩
    ·exact⟨i-1,by lia,by rw[show i-1+1=i by lia]⟩
   refine orb_mem.mpr ⟨j,hj,.inr ?_⟩;rw[e,<- ej];exact hN.inv _ (zCS hl hw (hlt j)).1
  ·by_cases z:i+1=p
   ·refine orb_mem.mpr ⟨0,by lia,.inl ?_⟩;rw[e];show itr (stp ts cs) (i+1) a=a;rw[z,p3]
   ·exact orb_mem.mpr ⟨i+1,by lia,.inl (by rw[e];rfl)⟩
end
theorem zPJ{f:Nat->List Nat}{M:Nat}(h:∀x,x<M->x∈f 0):∀k,k+1<=M->(rdS f (k+1)).1=[f 0]
 |0,_=>by simp[rdS,getW]
 |k+1,hk=>by
  have ih:=zPJ h k (by lia);have hg:(getW (rdS f (k+1)).2 (.inl ((k+1:Nat):Int))).isSome=true:=(zE4 f (k+1) (k+1)).mpr ⟨f 0,by rw[ih];simp,h _ (by lia)⟩;have e:rdS f (k+1+1)=rdS f (k+1):=by rw[rdS,if_pos hg]
  rw[e];exact ih
theorem zO3{ts cs:List Nat}{n:Nat}(n1:1<=n)(hn:n<=30)(hN:NetN ts (4*n))(hne:∀x,x<4*n->nt ts x≠x)(hl:cs.length=n)(hw:∀c∈cs,c<3):∃RR,Rnds ts cs n RR/\(RR.length=1↔OneAt ts cs n 0):=by
 obtain⟨RR,hR⟩:=rnds n1 hn hN hne hl hw;refine⟨RR,hR,?_⟩;obtain⟨st1,st2⟩:=zE1 hN hl hw;have hp:∀e,∃p,e<4*n->1<=p/\p<=4*n/\itr (stp ts cs) p e=e/\∀q,1<=q->q<p->itr (stp ts cs) q e≠e:=fun e=>by
  by_cases he:e<4*n
  ·obtain⟨p,h⟩:=zGF st1 st2 he;exact⟨p,fun _=>h⟩
  ·exact⟨0,fun z=>absurd z he⟩
 obtain⟨P,hP⟩:∃P:Nat->Nat,∀e,e<4*n->1<=P e/\P e<=4*n/\itr (stp ts cs) (P e) e=e/\∀q,1<=q->q<P e->itr (stp ts cs) q e≠e:=⟨fun e=>qD6 (hp e),fun e=>qCc (hp e)⟩
 obtain⟨f,hf⟩:∃f:Nat->List Nat,∀e,f e=if e<4*n then orb ts cs e (P e)else[]:=⟨_,fun _=>rfl⟩
 have hfo:∀e,e<4*n->f e=orb ts cs e (P e):=fun e he=>by rw[hf e,if_pos he]
 have hfl:∀k,(f k).length<=8*n:=fun k=>by
  by_cases hk:k<4*n
  ·rw[hfo k hk,zDM]
   have:=(hP k hk).2.1
   lia
  ·rw[hf k,if_neg hk];simp
 have hfm:∀e,e<4*n->e∈f e:=fun e he=>by
  rw[hfo e he];exact orb_mem.mpr ⟨0,(hP e he).1,.inl rfl⟩
 have r1:=zH3 (cs:=cs) hN hn hfl fun e he=>by
  rw[hfo e he];obtain⟨h1,h2,h3,h4⟩:=hP e he;exact zG8 hN hl (by lia) hw he h1 h2 h3 h4
 have hlen:RR.length=(rdS f (4*n)).1.length:=by
  have:=hR.prog.symm.trans r1
  injection this with this
  injection this with this
  unfold rowsD at this
  injection this with this
  simpa using congrArg qFq this
 have h0:0<4*n:=by lia
 obtain⟨a1,a2,a3,a4⟩:=hP 0 h0;obtain⟨t,ht⟩:=zIT f (4*n-1);rw[show 4*n-1+1=4*n by lia]at ht;rw[hlen];constructor
 ·intro h1 S hS hs x hx;obtain⟨l,b1,b2⟩:=(zE4 f x (4*n)).mp (zFM f (4*n) hfm x hx);rw[ht]at h1 b1
  have:t=[]:=qAx (by simp at h1;simpa using h1)
  subst this;simp at b1;subst b1;rw[hfo 0 h0]at b2;have hin:=zU7 hN hl hw hS h0 hs;obtain⟨i,hi,e|e⟩:=orb_mem.mp b2
  ·rw[e];exact hin i
  ·rw[e];exact hS.jn _ (zD7 st1 h0 i) (hin i)
 ·intro h;have hall:=h _ (zPY hN hl hw h0 a1 a3) (orb_mem.mpr ⟨0,a1,.inl rfl⟩)
  have:=zPJ (f:=f) (M:=4*n) (fun x hx=>by rw[hfo 0 h0];exact hall x hx) (4*n-1) (by lia)
  rw[show 4*n-1+1=4*n by lia]at this;rw[this];rfl
theorem zX8:∀c,c<3->∀v,v<3->v≠c->∃u,u<3/\u≠c/\u≠v/\((v+1)^^^(c+1))=u+1/\((u+1)^^^(c+1))=v+1/\((c+1)^^^(v+1))=u+1/\((u+1)^^^(v+1))=c+1/\((c+1)^^^(u+1))=v+1/\((v+1)^^^(u+1))=c+1/\∀w,w<3->w=c\/w=v\/w=u:=by
 intro c hc v hv h
 rcases(show c=0\/c=1\/c=2 by lia)with rfl|rfl|rfl<;>rcases(show v=0\/v=1\/v=2 by lia)with rfl|rfl|rfl
 all_goals first
  |exact absurd rfl h
  |exact⟨0,by decide,by decide,by decide,by decide,by decide,by decide,by decide,by decide,by decide,by decide⟩
  |exact⟨1,by decide,by decide,by decide,by decide,by decide,by decide,by decide,by decide,by decide,by decide⟩
  |exact⟨2,by decide,by decide,by decide,by decide,by decide,by decide,by decide,by decide,by decide,by decide⟩
theorem zOF{cs:List Nat}{q s:Nat}(hs:s<4):jn cs (4*q+s)=q*4+(s^^^(cs.getD q 0+1)):=by
 unfold jn;rw[show(4*q+s)/4=q by lia,show(4*q+s)%4=s by lia]
theorem zFV{cs:List Nat}{q s w:Nat}(hq:q<cs.length)(hs:s<4):jn (cs.set q w) (4*q+s)=4*q+(s^^^(w+1)):=by
 rw[zOF hs,qA0,qA9 hq];show q*4+(s^^^(w+1))=_
 lia
theorem zE8{cs:List Nat}{q x w:Nat}(h:x/4≠q):jn (cs.set q w) x=jn cs x:=by
 unfold jn;rw[qA0,qAa (qC1 h),<- qA0]
theorem zIO{cs:List Nat}{q w:Nat}(hw:∀c∈cs,c<3)(h:w<3):∀c∈cs.set q w,c<3:=fun c hc=>by
 rcases List.mem_or_eq_of_mem_set hc with z|z
 ·exact hw c z
 ·lia
theorem zMP{ts cs:List Nat}{n q:Nat}(hN:NetN ts (4*n))(hne:∀x,x<4*n->nt ts x≠x)(hl:cs.length=n)(hw:∀c∈cs,c<3)(h1:OneAt ts cs n 0)(hq:q<n) :
  ∃v,v<3/\v≠cs.getD q 0/\OneAt ts (cs.set q v) n 0/\∀w,w<3->w≠cs.getD q 0->w≠v->¬OneAt ts (cs.set q w) n 0:=by
 obtain⟨c,hce⟩:∃c,cs.getD q 0=c:=⟨_,rfl⟩
 have hc:c<3:=by rw[<- hce];exact zCJ hw (by lia)
 rw[hce];have hqa:4*q+0<4*n:=by lia
 obtain⟨st1,st2⟩:=zE1 hN hl hw;obtain⟨p,p1,p2,p3,p4⟩:=zGF st1 st2 hqa;obtain⟨x,hx⟩:∃x:Nat->Nat,∀k,itr (stp ts cs) k (4*q+0)=x k:=⟨_,fun _=>rfl⟩
 have x0:x 0=4*q+0:=(hx 0).symm;have hlt:∀k,x k<4*n:=fun k=>by rw[<- hx];exact zD7 st1 hqa k
 have xs:∀k,x (k+1)=nt ts (jn cs (x k)):=fun k=>by rw[<- hx,<- hx];rfl
 have xn:∀k,nt ts (x (k+1))=jn cs (x k):=fun k=>by rw[xs];exact hN.inv _ (zCS hl hw (hlt k)).1
 have jj:∀k,jn cs (jn cs (x k))=x k:=fun k=>(zCS hl hw (hlt k)).2
 have dis:∀i j,i<p->j<p->x i=x j->i=j:=fun i j hi hj e=>by
  rw[<- hx,<- hx]at e
  rcases qDt i j with z|z|z
  ·exact absurd e (zJE hN hne hl hw hqa p3 p4 z hj)
  ·exact z
  ·exact absurd e.symm (zJE hN hne hl hw hqa p3 p4 z hi)
 have xj:∀i j,i<p->j<p->x i≠jn cs (x j):=fun i j hi hj e=>by
  rw[<- hx,<- hx]at e;exact zNI hN hne hl hw hqa p3 p4 hi hj e
 have hb:jn cs (x 0)=4*q+(c+1):=by
  rw[x0,zOF (by lia),hce];rw[Nat.zero_xor]
  lia
 have hall:∀y,y<4*n->∃i,i<p/\(y=x i\/y=jn cs (x i)):=fun y hy=>by
  have:=(h1.any hN hl hw hqa) _ (zPY hN hl hw hqa p1 p3) (orb_mem.mpr ⟨0,p1,.inl rfl⟩) y hy
  obtain⟨i,hi,e⟩:=orb_mem.mp this;rw[hx]at e;exact⟨i,hi,e⟩
 obtain⟨m,v,m1,mp,hv,hvc,hxm⟩:∃m v,1<=m/\m<p/\v<3/\v≠c/\x m=4*q+(v+1):=by
  obtain⟨v0,g1,g2⟩:∃v0,v0<3/\v0≠c:=by
   by_cases z:c=0
   ·exact⟨1,by lia,by lia⟩
   ·exact⟨0,by lia,by lia⟩
  obtain⟨u,u1,u2,u3,e1,_⟩:=zX8 c hc v0 g1 g2;obtain⟨m,hm,e|e⟩:=hall (4*q+(v0+1)) (by lia)
  ·refine⟨m,v0,?_,hm,g1,g2,e.symm⟩
   rcases qF4 m with z|z
   ·rw[z,x0]at e;lia
   ·exact z
  ·have e2:x m=4*q+(u+1):=by
    rw[<- jj m,<- e,zOF (by lia),hce,e1]
    lia
   refine⟨m,u,?_,hm,u1,u2,e2⟩
   rcases qF4 m with z|z
   ·rw[z,x0]at e2;lia
   ·exact z
 obtain⟨u,u1,u2,u3,e1,e2,e3,e4,e5,e6,hcov⟩:=zX8 c hc v hv hvc;have hjm:jn cs (x m)=4*q+(u+1):=by
  rw[hxm,zOF (by lia),hce,e1]
  lia
 have hoff:∀k,k<p->k≠0->k≠m->x k/4≠q:=fun k hk k0 km hz=>by
  obtain⟨s,hs,es⟩:∃s,s<4/\x k=4*q+s:=⟨x k%4,by lia,by lia⟩
  rcases(show s=0\/s-1<3/\s=s-1+1 by lia)with z|⟨z1,z2⟩
  ·exact k0 (dis k 0 hk (by lia) (by rw[es,x0,z]))
  ·rcases hcov _ z1 with z|z|z
   ·exact xj k 0 hk (by lia) (by rw[es,hb,z2,z])
   ·exact km (dis k m hk mp (by rw[es,hxm,z2,z]))
   ·exact xj k m hk mp (by rw[es,hjm,z2,z])
 have hjq:∀k,jn cs (x k)/4=x k/4:=fun k=>by
  have hc:cs.getD (x k/4) 0<3:=zCJ hw (by have:=hlt k;lia)
  have:=(xor4 (x k%4) (by lia) _ hc).1
  unfold jn;omega
 have hlv:∀w,(cs.set q w).length=n:=fun w=>by simp[hl]
 refine⟨v,hv,hvc,?_,fun w w1 w2 w3=>?_⟩
 ·have hwv:=zIO (q:=q) hw hv;refine OneAt.any (b:=4*q+(c+1)) hN (hlv v) hwv (fun S hS hs y hy=>?_) (by lia);have hS1:∀k,k<m->S (jn cs (x k)):=fun k=>by
   induction k with
   |zero=>intro _;rw[hb];exact hs
   |succ k ih=>
    intro hk;have a1:=hS.nt _ (zCS hl hw (hlt k)).1 (ih (by lia));rw[<- xs]at a1;have a2:=hS.jn _ (hlt _) a1;rw[zE8 (hoff (k+1) (by lia) (by lia) (by lia))]at a2;exact a2
  have hSm:S (x m):=by
   have:=hS.nt _ (zCS hl hw (hlt (m-1))).1 (hS1 (m-1) (by lia))
   rw[<- xs,show m-1+1=m by lia]at this;exact this
  have hSa:S (x 0):=by
   have:=hS.jn _ (hlt m) hSm
   rw[hxm,zFV (by lia) (by lia),Nat.xor_self]at this;rw[x0];exact this
  have hSj:S (jn cs (x m)):=by
   have:=hS.jn _ (by lia) hs
   rw[zFV (by lia) (by lia),e3]at this;rw[hjm];exact this
  have hS2:∀d,m+d<p->S (jn cs (x (m+d))):=fun d=>by
   induction d with
   |zero=>intro _;exact hSj
   |succ d ih=>
    intro hk;have a1:=hS.nt _ (zCS hl hw (hlt (m+d))).1 (ih (by lia));rw[<- xs]at a1;have a2:=hS.jn _ (hlt _) a1;rw[zE8 (hoff (m+d+1) (by lia) (by lia) (by lia))]at a2;exact a2
  have hSe:∀k,k<p->S (jn cs (x k)):=fun k hk=>by
   by_cases z:k<m
   ·exact hS1 k z
   ·have:=hS2 (k-m) (by lia)
    rw[show m+(k-m)=k by lia]at this;exact this
  obtain⟨i,hi,e|e⟩:=hall y hy
  ·rw[e]
   by_cases z0:i=0
   ·rw[z0];exact hSa
   by_cases zm:i=m
   ·rw[zm];exact hSm
   have:=hS.jn _ (zCS hl hw (hlt i)).1 (hSe i hi)
   rw[zE8 (by rw[hjq];exact hoff i hi z0 zm),jj]at this;exact this
  ·rw[e];exact hSe i hi
 ·have hwu:w=u:=by
   rcases hcov w w1 with z|z|z
   ·exact absurd z w2
   ·exact absurd z w3
   ·exact z
  subst hwu;intro hO;have hww:=zIO (q:=q) hw u1;have hO':=hO.any hN (hlv w) hww (a:=4*q+(c+1)) (by lia);have hA:Clo ts (cs.set q w) n fun y=>∃k,k<m/\(y=jn cs (x k)\/y=x (k+1)):=by
   refine⟨fun y hy hs=>?_,fun y hy hs=>?_⟩
   ·obtain⟨k,hk,e|e⟩:=hs
    ·by_cases z:k=0
     ·refine⟨m-1,by lia,.inr ?_⟩;rw[e,z,hb,zFV (by lia) (by lia),e5,show m-1+1=m by lia,hxm]
     ·refine⟨k-1,by lia,.inr ?_⟩;rw[e,zE8 (by rw[hjq];exact hoff k (by lia) z (by lia)),jj,show k-1+1=k by lia]
    ·by_cases z:k+1=m
     ·refine⟨0,by lia,.inl ?_⟩;rw[e,z,hxm,zFV (by lia) (by lia),e6,hb]
     ·refine⟨k+1,by lia,.inl ?_⟩;rw[e,zE8 (hoff (k+1) (by lia) (by lia) z)]
   ·obtain⟨k,hk,e|e⟩:=hs
    ·exact⟨k,hk,.inr (by rw[e,xs])⟩
    ·exact⟨k,hk,.inl (by rw[e,xn])⟩
  obtain⟨k,hk,e|e⟩:=hO' _ hA ⟨0,by lia,.inl hb.symm⟩ (x 0) (hlt 0)
  ·exact xj 0 k (by lia) (by lia) e
  ·have:=dis 0 (k+1) (by lia) (by lia) e
   lia
noncomputable def wyOf(l:List Nat):Nat:=if l.getD 0 0=0\/l.getD 1 0=0 then max (l.getD 0 0) (l.getD 1 0)-1 else max (l.getD 2 0) (l.getD 3 0)-1
theorem zXL:∀a:Nat,a<4->∀b:Nat,b<4->sortD [.lst [.int (a:Int),.int (b:Int)]]=some (.lst [.int ((min a b:Nat):Int),.int ((max a b:Nat):Int)]):=by
 intro a ha b hb;have h:∀a:Nat,a<4->∀b:Nat,b<4->sortI [(a:Int),(b:Int)]=[((min a b:Nat):Int),((max a b:Nat):Int)]:=by
  intro a ha b hb
  by_cases h:a<=b
  ·rw[Nat.min_eq_left h,Nat.max_eq_right h];simp[sortI,qGg,qCs,qH4,h]
  ·rw[Nat.min_eq_right (by lia),Nat.max_eq_left (by lia)];simp[sortI,qGg,qCs,qH4,h]
 show(@ite _ (([(a:Int),(b:Int)]:List Int).length<64) (qA3 _) (some (Dt.lst ((sortI [(a:Int),(b:Int)]).map .int))) none)=_
 rw[if_pos (by simp),h a ha b hb];rfl
theorem zX7:∀a:Nat,a<4->∀b:Nat,b<4->a≠b->(a=0\/b=0)->max a b-1+1=(a^^^b)/\max a b-1<3:=by decide
theorem zX6:∀a:Nat,a<4->∀b:Nat,b<4->(a^^^(a^^^b))=b:=by decide
theorem zZV:∀a:Nat,a<4->∀b:Nat,b<4->∀c:Nat,c<4->∀d:Nat,d<4->(a≠b/\a≠c/\a≠d/\b≠c/\b≠d/\c≠d)->(a^^^b)=(c^^^d):=by
 intro a ha b hb
 rcases(show a=0\/a=1\/a=2\/a=3 by lia)with rfl|rfl|rfl|rfl<;>rcases(show b=0\/b=1\/b=2\/b=3 by lia)with rfl|rfl|rfl|rfl<;>decide
theorem zOV{l:List Nat}(h:l.Perm [0,1,2,3]):l.getD 0 0<4/\l.getD 1 0<4/\l.getD 2 0<4/\l.getD 3 0<4/\l.getD 0 0≠l.getD 1 0/\l.getD 0 0≠l.getD 2 0/\l.getD 0 0≠l.getD 3 0/\l.getD 1 0≠l.getD 2 0/\l.getD 1 0≠l.getD 3 0/\l.getD 2 0≠l.getD 3 0:=by
 obtain⟨h4,hlt,hinj,_⟩:=zBG h;exact⟨hlt 0 (by lia),hlt 1 (by lia),hlt 2 (by lia),hlt 3 (by lia),fun e=>absurd (hinj 0 1 (by lia) (by lia) e) (by lia),fun e=>absurd (hinj 0 2 (by lia) (by lia) e) (by lia),fun e=>absurd (hinj 0 3 (by lia) (by lia) e) (by lia),fun e=>absurd (hinj 1 2 (by lia) (by lia) e) (by lia),fun e=>absurd (hinj 1 3 (by lia) (by lia) e) (by lia),fun e=>absurd (hinj 2 3 (by lia) (by lia) e) (by lia)⟩
theorem zMN{l:List Nat}(h:l.Perm [0,1,2,3]):wyOf l<3/\(l.getD 0 0^^^(wyOf l+1))=l.getD 1 0/\(l.getD 2 0^^^(wyOf l+1))=l.getD 3 0:=by
 obtain⟨a4,b4,c4,d4,n1,n2,n3,n4,n5,n6⟩:=zOV h;have e:=zZV _ a4 _ b4 _ c4 _ d4 ⟨n1,n2,n3,n4,n5,n6⟩;have key:wyOf l+1=(l.getD 0 0^^^l.getD 1 0)/\wyOf l<3:=by
  unfold wyOf
  by_cases z:l.getD 0 0=0\/l.getD 1 0=0
  ·rw[if_pos z];exact zX7 _ a4 _ b4 n1 z
  ·rw[if_neg z,e];exact zX7 _ c4 _ d4 n6 (by lia)
 refine⟨key.2,by rw[key.1];exact zX6 _ a4 _ b4,by rw[key.1,e];exact zX6 _ c4 _ d4⟩
theorem has2(a b:Nat):inD true (.int 0) (.lst [.int (a:Int),.int (b:Int)])=some (.bl (!(decide (a=0)||decide (b=0)))):=by
 have e:∀a:Nat,Dt.eq (.int (a:Int)) (.int 0)=decide (a=0):=fun a=>by
  show decide ((a:Int)=0)=_
  by_cases h:a=0<;>simp[h]
 have e':∀a:Nat,Dt.eq (.int 0) (.int (a:Int))=decide (a=0):=fun a=>by
  show decide ((0:Int)=(a:Int))=_
  by_cases h:a=0
  ·simp[h]
  ·simp[h];lia
 simp[inD,hasD,e,e']
theorem zOW{R:List (List Nat)}{n:Nat}(hS:Seats R n)(hn:n<=100):zF8 [rowsD R]=okR (rowD (numL (R.map wyOf))):=by
 have hRl:=hS.len;have d2:∀x y:Int,(Dt.lst [.int x,.int y]).dep<=1:=fun x y=>qA6 1
 refine zBE rfl (sg el0 (by simp) (zBT fun bb hb=>?_));rw[zMM];show nxR (zA4 (okR (R.map fun l=>rowD (numL l))) _) _;rw[zA1];refine zF7 (fun l:List Nat=>rowD (numL l)) R (fun j r=>∃o2 o3,r=[some (rowsD R,0),some (rowD (numL ((R.take j).map wyOf)),9),o2,o3]) ⟨_,_,rfl⟩ (fun j l hj r hr=>?_) fun r hr=>?_
 ·obtain⟨o2,o3,rfl⟩:=hr;obtain⟨hjl,hje⟩:=qA2.mp hj;have hp:=hS.per l (by rw[<- hje];exact qD5 _);have l4:l.length=4:=hp.length_eq;obtain⟨a4,b4,c4,d4,n1,n2,n3,n4,n5,n6⟩:=zOV hp;have x0:=zHI l 0 (by lia);have x1:=zHI l 1 (by lia);have x2:=zHI l 2 (by lia);have x3:=zHI l 3 (by lia);have s1:=zXL _ a4 _ b4;have s2:=zXL _ c4 _ d4;have i1:=has2 (min (l.getD 0 0) (l.getD 1 0)) (max (l.getD 0 0) (l.getD 1 0));have hw:wyOf l=if l.getD 0 0=0\/l.getD 1 0=0 then max (l.getD 0 0) (l.getD 1 0)-1 else max (l.getD 2 0) (l.getD 3 0)-1:=rfl
  have htk:(R.take (j+1)).map wyOf=(R.take j).map wyOf++[wyOf l]:=by
   rw[qB7 hjl,hje];simp
  have hlen:((R.take j).map wyOf).length<=100:=by simp;lia
  have fin:∀p q:Nat,1<=q->wyOf l=q-1->sApp 1 0 (eB subD (eB ixD (eV 3) (eC (.int 1))) (eC (.int 1))) [some (rowsD R,0),some (rowD (numL ((R.take j).map wyOf)),9),some (rowD (numL l),0),some (.lst [.int (p:Int),.int (q:Int)],1)]=okR (.nx [some (rowsD R,0),some (rowD (numL ((R.take (j+1)).map wyOf)),9),some (rowD (numL l),0),some (.lst [.int (p:Int),.int (q:Int)],1)]):=fun p q q1 hq=>by
   have e2:rowD (numL ((R.take (j+1)).map wyOf))=.lst ((numL ((R.take j).map wyOf)).map Dt.int++[.int (wyOf l:Nat)]):=by
    rw[htk];unfold rowD numL;simp
   rw[e2];refine zRQ (k:=8) (ds:=(numL ((R.take j).map wyOf)).map Dt.int) (d:=.int ((wyOf l:Nat):Int)) rfl (b2 (d1:=.int (q:Int)) (b2 rfl rfl rfl) rfl ?_) (by simp[numL];lia) (qAk _) (qAk _);rw[hq,show((q-1:Nat):Int)=(q:Int)-1 by lia];rfl
  generalize l.getD 0 0=a at a4 b4 x0 s1 i1 hw n1
  generalize l.getD 1 0=b at b4 x1 s1 i1 hw n1
  generalize l.getD 2 0=c at c4 x2 s2 hw n6
  generalize l.getD 3 0=d at d4 x3 s2 hw n6
  by_cases z:a=0\/b=0
  ·have hz:min a b=0:=by lia
   rw[hz]at i1;exact zAK (sg (bi1 (el2 (b2 rfl rfl x0) (b2 rfl rfl x1)) s1) (d2 _ _) (sp (tb1 (b2 rfl rfl (by rw[hz];exact i1))) (fin _ _ (by lia) (by rw[hw,if_pos z])))) ⟨_,_,rfl⟩
  ·have h1:¬min a b=0:=by lia
   have h2:¬max a b=0:=by lia
   rw[decide_eq_false h1,decide_eq_false h2]at i1;exact zAK (sg (bi1 (el2 (b2 rfl rfl x0) (b2 rfl rfl x1)) s1) (d2 _ _) (st (tb1 (b2 rfl rfl i1)) (ss (bi1 (el2 (b2 rfl rfl x2) (b2 rfl rfl x3)) s2) (d2 _ _)) (fin _ _ (by lia) (by rw[hw,if_neg z])))) ⟨_,_,rfl⟩
 ·obtain⟨o2,o3,rfl⟩:=hr;subst hb;rw[qE6];rfl
theorem zFJ(R:List (List Nat))(hz:R.length<=1000):lenD [rowsD R]=some (.int (R.length:Int)):=by
 show lenD [.lst (R.map fun l=>rowD (numL l))]=_;simp
section
variable{ts cs:List Nat}{n:Nat}{RR:List (List Nat)}(h:Rnds ts cs n RR)(hn:n<=8)
include h hn
theorem zHB:zC5 [rowD (numL ts),rowD (numL cs)]=okR (.int (RR.length:Int)):=by
 have hle:=h.le;have h1:=h.prog;have h2:=zFJ RR (by lia);unfold zC5 zG2
 generalize rowD (numL ts)=T at h1 ⊢
 generalize rowD (numL cs)=C at h1 ⊢
 generalize rowsD RR=Z at h1 h2
 simp[startO,h1,h2]
theorem zH4(h1:RR.length=1):zAY [rowD (numL ts),rowD (numL cs)]=okR .non:=by
 have hm:=zHB h hn;rw[h1]at hm;unfold zAY zDU
 generalize rowD (numL ts)=T at hm ⊢
 generalize rowD (numL cs)=C at hm ⊢
 simp[startO,hm]
theorem zFL(h1:¬RR.length=1):zAY [rowD (numL ts),rowD (numL cs)]=some (.error ⟨"NoOne","many",.int (RR.length:Int)⟩):=by
 have hm:=zHB h hn;have h1':¬(RR.length:Int)=1:=by lia
 unfold zAY zDU
 generalize rowD (numL ts)=T at hm ⊢
 generalize rowD (numL cs)=C at hm ⊢
 generalize(RR.length:Int)=M at hm h1' ⊢
 simp[startO,hm,h1',sRaise]
end
section
variable{R:List (List Nat)}{row:List Nat}{n:Nat}(hS:Seats R n)(tw:Twice n row)
include hS tw
theorem zT1{i:Nat}(hi:i<4*n):∃k,k<2*n/\(i=inE R row k\/i=ouE R row k):=by
 have hp:i/4<n:=by lia
 obtain⟨j,hj,ej⟩:=(zBG (zDK hS hp)).2.2.2 (i%4) (by lia);have hiS:i=SE R (i/4) j:=by unfold SE;lia
 obtain⟨⟨k0,b0,c0,d0⟩,k2,b2,c2,d2⟩:=zNL tw hp
 rcases(show j=0\/j=1\/j=2\/j=3 by lia)with z|z|z|z
 ·exact⟨k0,b0,.inl (by unfold inE;rw[c0,d0];subst z;exact hiS)⟩
 ·exact⟨k0,b0,.inr (by unfold ouE;rw[c0,d0];subst z;exact hiS)⟩
 ·exact⟨k2,b2,.inl (by unfold inE;rw[c2,d2];subst z;exact hiS)⟩
 ·exact⟨k2,b2,.inr (by unfold ouE;rw[c2,d2];subst z;exact hiS)⟩
theorem zYY{k:Nat}(hk:k<2*n):jn (R.map wyOf) (inE R row k)=ouE R row k:=by
 have hp:=zE2 tw hk;have hperm:=zDK hS hp;obtain⟨_,j1,j2⟩:=zMN hperm;have hlt:=(zBG hperm).2.1;have hg:(R.map wyOf).getD (row.getD k 0) 0=wyOf (R.getD (row.getD k 0) []):=by
  have:=hS.len
  rw[qA0,qA0 (l:=R),qAf,qA4 (by lia)];rfl
 unfold inE ouE SE
 rcases zDI row k with h|h
 ·rw[h,zOF (hlt 0 (by lia)),hg,j1,qCr];lia
 ·rw[h,zOF (hlt 2 (by lia)),hg,j2];show _=4*row.getD k 0+(R.getD (row.getD k 0) []).getD 3 0;lia
theorem zRH{ts:List Nat}(hN:NetN ts (4*n))(n1:1<=n)(hT:Tied R row n (2*n) (numL ts)):(R.map wyOf).length=n/\(∀c∈R.map wyOf,c<3)/\OneAt ts (R.map wyOf) n 0:=by
 have hl:(R.map wyOf).length=n:=by simp[hS.len]
 have hw:∀c∈R.map wyOf,c<3:=fun c hc=>by
  obtain⟨l,h1,rfl⟩:=qB6.mp hc;exact(zMN (hS.per l h1)).1
 refine⟨hl,hw,OneAt.any (b:=inE R row 0) hN hl hw (fun S hSc hs x hx=>?_) (by lia)⟩;have hnt:∀j,j<2*n->nt ts (ouE R row (prv (2*n) j))=inE R row j:=fun j hj=>by
  have:=(hT.2 j hj).1
  unfold numL at this;rw[qAf]at this;unfold nt;rw[qA0];cases hq:ts[ouE R row (prv (2*n) j)]? with
  |none=>rw[hq]at this;cases this
  |some y=>
   rw[hq]at this;simp at this;simp
   lia
 have key:∀k,k<2*n->S (inE R row k)/\S (ouE R row k):=fun k=>by
  induction k with
  |zero=>
   intro hk;refine⟨hs,?_⟩;rw[<- zYY hS tw hk];exact hSc.jn _ (zL6 hS tw hk) hs
  |succ k ih=>
   intro hk;have h1:=hSc.nt _ (zN6 hS tw (show k<2*n by lia)) (ih (by lia)).2;have h2:=hnt (k+1) hk;rw[show prv (2*n) (k+1)=k by unfold prv;simp]at h2;rw[h2]at h1;refine⟨h1,?_⟩;rw[<- zYY hS tw hk];exact hSc.jn _ (zL6 hS tw hk) h1
 obtain⟨k,hk,e|e⟩:=zT1 hS tw hx
 ·rw[e];exact(key k hk).1
 ·rw[e];exact(key k hk).2
end
theorem zJO{cs:List Nat}{p w:Nat}(hp:p<cs.length):m_changed_at [rowD (numL cs),.int (p:Int),.int (w:Int)]=okR (rowD (numL (cs.set p w))):=by
 have hs:numL (cs.set p w)=(numL cs).set p (w:Int):=by unfold numL;rw[qDk]
 unfold m_changed_at zGL;refine zBE rfl (zBT fun bb hb=>?_);refine zAK (r:=[some (rowD (numL cs),0),some (.int (p:Int),0),some (.int (w:Int),0),some (rowD (numL cs),1)]) (by simp[startO]) ?_;subst hb;refine zBT fun bb hb=>zAK (zQH (i:=3) (l:=0) (a:=p) (xs:=numL cs) (v:=(w:Int)) rfl rfl rfl (by simp[numL];exact hp)) ?_
 subst hb;rw[hs]
 generalize rowD ((numL cs).set p (w:Int))=Z
 generalize rowD (numL cs)=Y
 simp[sRetV]
structure Tn(ts cs:List Nat)(n q v:Nat)(L:Nat->List (List Nat)):Prop where
 hq:q<n
 hv:v<3
 ne:v≠cs.getD q 0
 rn:∀w,w<3->Rnds ts (cs.set q w) n (L w)
 own:(L (cs.getD q 0)).length=1
 one:(L v).length=1
 two:∀w,w<3->w≠cs.getD q 0->w≠v->¬(L w).length=1
theorem za6{ts cs:List Nat}{n q v:Nat}(n1:1<=n)(hn:n<=8)(hN:NetN ts (4*n))(hne:∀x,x<4*n->nt ts x≠x)(hl:cs.length=n)(hw:∀c∈cs,c<3)(h1:OneAt ts cs n 0)(hq:q<n)(v3:v<3)(vc:v≠cs.getD q 0)(o1:OneAt ts (cs.set q v) n 0)(o2:∀w,w<3->w≠cs.getD q 0->w≠v->¬OneAt ts (cs.set q w) n 0):∃L,Tn ts cs n q v L:=by
 have hr:∀w,∃RR,w<3->Rnds ts (cs.set q w) n RR/\(RR.length=1↔OneAt ts (cs.set q w) n 0):=fun w=>by
  by_cases h:w<3
  ·obtain⟨RR,h⟩:=zO3 n1 (by lia) hN hne (cs:=cs.set q w) (by simp[hl]) (zIO hw h);exact⟨RR,fun _=>h⟩
  ·exact⟨[],fun z=>absurd z h⟩
 obtain⟨L,hL⟩:∃L:Nat->List (List Nat),∀w,w<3->Rnds ts (cs.set q w) n (L w)/\((L w).length=1↔OneAt ts (cs.set q w) n 0):=⟨fun w=>qD6 (hr w),fun w=>qCc (hr w)⟩
 have hc3:cs.getD q 0<3:=zCJ hw (by lia);have hsame:cs.set q (cs.getD q 0)=cs:=by
  rw[qA0,qA4 (show q<cs.length by lia)];simp
 refine⟨L,hq,v3,vc,fun w h=>(hL w h).1,?_,(hL v v3).2.mpr o1,fun w h a b c=>o2 w h a b ((hL w h).2.mp c)⟩;refine(hL _ hc3).2.mpr ?_;rw[hsame];exact h1
section
variable{ts cs:List Nat}{n q v:Nat}{L:Nat->List (List Nat)}(h:Tn ts cs n q v L)(hn:n<=8)(hl:cs.length=n)(hw:∀c∈cs,c<3)
include h hn hl hw
end
theorem zPZ(ns:List Int)(n:Nat)(n1:1<=n)(hn:n<=8):∃(R:List (List Nat))(row ts:List Nat),Seats R n/\Twice n row/\Tied R row n (2*n) (numL ts)/\NetN ts (4*n)/\(∀x,x<4*n->nt ts x≠x)/\zCP [.scr ns,.int 2,.int (n:Int)]=okR (rowD (numL row))/\zC6 [.scr ns,.int (n:Int)]=okR (.tup [rowD (numL ts),rowD (numL (R.map wyOf))]):=by
 obtain⟨row,tw,hrow⟩:=zS2 ns n n1 (by lia);obtain⟨c1,_,_,hc1⟩:=zG1 ns 1 (by lia) (by lia);obtain⟨R,hS,hseats⟩:=zNZ c1 n n1 (by lia);obtain⟨ms,hT,hbuilt⟩:=zOS hS tw (by lia);obtain⟨ts,e,hN,hne⟩:=zTN (zRZ hS tw hT);subst e;have hways:=zOW hS (by lia);refine⟨R,row,ts,hS,tw,hT,hN,hne,hrow,?_⟩;have d1:=zAZ (numL row);have d2:=zH2 R;have d3:=zAZ (numL ts);have d4:=zAZ (numL (R.map wyOf))
 generalize rowD (numL (R.map wyOf))=W at hways d4 ⊢
 generalize rowD (numL ts)=T at hbuilt d3 ⊢
 generalize rowD (numL row)=RW at hrow hbuilt d1
 generalize rowsD R=RR at hseats hbuilt hways d2
 unfold zC6 zG3;refine zBE rfl (zBT fun bb hb=>zAK (r:=[some (.scr ns,0),some (.int (n:Int),0),some (RW,9),none]) (by simp[startO,hrow,d1]) ?_);subst hb
 by_cases hd:RR.dep<=1
 ·refine zBT fun bb hb=>zAK (r:=[some (.scr ns,0),some (.int (n:Int),0),some (RW,9),some (RR,1)]) (by simp[hc1,hseats,hd]) ?_
  subst hb;simp[hbuilt,hways,d3,d4]
 ·refine zBT fun bb hb=>zAK (r:=[some (.scr ns,0),some (.int (n:Int),0),some (RW,9),some (RR,1)]) (by simp[hc1,hseats,hd]) ?_
  subst hb;simp[hbuilt,hways,d3,d4]
section
variable{ts cs:List Nat}{n q v:Nat}{L:Nat->List (List Nat)}(h:Tn ts cs n q v L)(hn:n<=8)(hl:cs.length=n)(hw:∀c∈cs,c<3)
include h hn hl hw
theorem zE0:zBN [rowD (numL ts),rowD (numL cs),.int (q:Int)]=okR (rowD (numL (cs.set q v))):=by
 have hq:=h.hq;have hc3:cs.getD q 0<3:=zCJ hw (by lia);have hixq:=zHI cs q (by lia);obtain⟨c,hc⟩:∃c,cs.getD q 0=c:=⟨_,rfl⟩
 rw[hc]at hixq hc3;have hcomp:∀T:Dt,eComp (iSq (eC (.scr [0,1,2]))) 1 (.one 4) (tB (eB neD (eV 4) (eB ixD (eV 1) (eV 2)))) (eCall m_changed_at (aCons (eV 1) (aCons (eV 2) (aCons (eV 4) aNil)))) [some T,some (rowD (numL cs)),some (.int (q:Int)),none]=okR (rowsD ((([0,1,2]:List Nat).filter fun w=>decide (w≠c)).map fun w=>cs.set q w)):=fun T=>by
  have:=zDS (ρ:=[some T,some (rowD (numL cs)),some (.int (q:Int)),none]) (c:=tB (eB neD (eV 4) (eB ixD (eV 1) (eV 2)))) (e:=eCall m_changed_at (aCons (eV 1) (aCons (eV 2) (aCons (eV 4) aNil)))) (i:=4) (fun w:Nat=>Dt.int (w:Int)) (fun w:Nat=>rowD (numL (cs.set q w))) (fun w=>decide (w≠c)) [0,1,2] rfl (fun w _=>by
   have hd:decide ((w:Int)=(c:Int))=decide (w=c):=by
    by_cases z:w=c
    ·simp[z]
    ·simp[z];lia
   generalize rowD (numL cs)=C at hixq ⊢
   simp[hixq,hd]) (fun w _ _=>by
   have hch:=zJO (cs:=cs) (p:=q) (w:=w) (by lia)
   generalize rowD (numL cs)=C at hch ⊢
   simp[hch]) (iSq (eC (.scr [0,1,2]))) (by simp) (by simp)
  rw[this];unfold rowsD;rw[qB9];rfl
 obtain⟨w1,w2,hf,h12⟩:∃w1 w2:Nat,(([0,1,2]:List Nat).filter fun w=>decide (w≠c))=[w1,w2]/\w1<3/\w2<3/\w1≠c/\w2≠c/\w1≠w2/\∀w,w<3->w≠c->w=w1\/w=w2:=by
  rcases(show c=0\/c=1\/c=2 by lia)with rfl|rfl|rfl
  ·exact⟨1,2,by decide,by lia,by lia,by lia,by lia,by lia,fun w=>by lia⟩
  ·exact⟨0,2,by decide,by lia,by lia,by lia,by lia,by lia,fun w=>by lia⟩
  ·exact⟨0,1,by decide,by lia,by lia,by lia,by lia,by lia,fun w=>by lia⟩
 obtain⟨a1,a2,b1,b2,b3,hor⟩:=h12;have hcT:=hcomp (rowD (numL ts));rw[hf]at hcT;have hm:=zHB (h.rn w1 a1) hn;have g0:ixD (rowsD [cs.set q w1,cs.set q w2]) (.int 0)=some (rowD (numL (cs.set q w1))):=rfl;have r0:∀A B C:Option Sl,sRetIx 1 3 (eC (.int 0)) [A,B,C,some (rowsD [cs.set q w1,cs.set q w2],2)]=okR (.rt (rowD (numL (cs.set q w1)))):=fun _ _ _=>rfl
 have r1:∀A B C:Option Sl,sRetIx 1 3 (eC (.int 1)) [A,B,C,some (rowsD [cs.set q w1,cs.set q w2],2)]=okR (.rt (rowD (numL (cs.set q w2)))):=fun _ _ _=>rfl
 have hdd:(rowsD [cs.set q w1,cs.set q w2]).dep=2:=by
  have d1:=zAZ (numL (cs.set q w1));have d2:=zAZ (numL (cs.set q w2));show Dt.dep (.lst [rowD (numL (cs.set q w1)),rowD (numL (cs.set q w2))])=2;simp[d1,d2]
 have key:zFC [some (rowD (numL ts),0),some (rowD (numL cs),0),some (.int (q:Int),0),none]=okR (.rt (rowD (numL (cs.set q v)))):=by
  unfold zFC;refine zBT fun bb hb=>zAK (r:=[some (rowD (numL ts),0),some (rowD (numL cs),0),some (.int (q:Int),0),some (rowsD [cs.set q w1,cs.set q w2],2)]) ?_ ?_
  ·replace hcT:eComp (iSq (eC (.scr [0,1,2]))) 1 (.one 4) (tB (eB neD (eV 4) (eB ixD (eV 1) (eV 2)))) (eCall m_changed_at (aCons (eV 1) (aCons (eV 2) (aCons (eV 4) aNil)))) [some (rowD (numL ts)),some (rowD (numL cs)),some (.int (q:Int)),none]=okR (rowsD [cs.set q w1,cs.set q w2]):=hcT
   generalize eComp (iSq (eC (.scr [0,1,2]))) 1 (.one 4) (tB (eB neD (eV 4) (eB ixD (eV 1) (eV 2)))) (eCall m_changed_at (aCons (eV 1) (aCons (eV 2) (aCons (eV 4) aNil))))=CC at hcT ⊢
   generalize rowD (numL ts)=T at hcT ⊢
   generalize rowD (numL cs)=C at hcT ⊢
   generalize rowsD [cs.set q w1,cs.set q w2]=Z at hcT hdd ⊢
   simp[hcT,hdd]
  ·subst hb;have hvo:=hor v h.hv (by rw[<- hc];exact h.ne);have r0':=r0 (some (rowD (numL ts),0)) (some (rowD (numL cs),0)) (some (.int (q:Int),0));have r1':=r1 (some (rowD (numL ts),0)) (some (rowD (numL cs),0)) (some (.int (q:Int),0))
   generalize sRetIx 1 3 (eC (.int 0))=S0 at r0' ⊢
   generalize sRetIx 1 3 (eC (.int 1))=S1 at r1' ⊢
   generalize rowsD [cs.set q w1,cs.set q w2]=Z at g0 hdd r0' r1' ⊢
   by_cases hv1:v=w1
   ·rw[<- hv1]at hm g0 r0';rw[h.one]at hm
    generalize rowD (numL (cs.set q v))=V at hm g0 r0' ⊢
    generalize rowD (numL ts)=T at hm r0' ⊢
    generalize rowD (numL cs)=C at r0' ⊢
    simp[g0,hm,r0']
   ·have hv2:v=w2:=by lia
    have h1n:¬((L w1).length:Int)=1:=by
     have:=h.two w1 a1 (by rw[hc];exact b1) (by lia)
     lia
    rw[<- hv2]at r1'
    generalize rowD (numL (cs.set q v))=V at r1' ⊢
    generalize rowD (numL (cs.set q w1))=V1 at hm g0
    generalize((L w1).length:Int)=LL at hm h1n
    generalize rowD (numL ts)=T at hm r1' ⊢
    generalize rowD (numL cs)=C at r1' ⊢
    simp[g0,hm,h1n,r1']
 exact zBE rfl key
theorem zF2:zAU [rowD (numL ts),rowD (numL cs),.int (q:Int)]=okR (rowD (numL (cs.set q v))):=by
 have hq:=h.hq;have hc3:cs.getD q 0<3:=zCJ hw (by lia);have hsame:cs.set q (cs.getD q 0)=cs:=by
  rw[qA0,qA4 (show q<cs.length by lia)];simp
 have hR:=h.rn _ hc3;rw[hsame]at hR;have hr:=zH4 hR hn h.own;have ht:=zE0 h hn hl hw;have hd:=zAZ (numL (cs.set q v));unfold zAU zD9
 generalize rowD (numL ts)=T at hr ht ⊢
 generalize rowD (numL cs)=C at hr ht ⊢
 generalize rowD (numL (cs.set q v))=V at ht hd ⊢
 refine zBE rfl (zBT fun bb hb=>zAK (r:=[some (T,0),some (C,0),some (.int (q:Int),0)]) (by simp[startO,hr,sDrop]) ?_);subst hb;simp[ht,hd]
end
structure Ch1(ts:List Nat)(n:Nat)(C:List Nat):Prop where
 len:C.length=n
 lt:∀c∈C,c<3
 one:OneAt ts C n 0
noncomputable def tV(ts:List Nat)(n:Nat)(C:List Nat)(q:Nat):Nat:=Classical.epsilon fun v=>v<3/\v≠C.getD q 0/\OneAt ts (C.set q v) n 0
noncomputable def tF(ts:List Nat)(n:Nat)(C:List Nat)(q:Nat):List Nat:=C.set q (tV ts n C q)
structure NetO(ts:List Nat)(n:Nat):Prop where
 n1:1<=n
 n8:n<=8
 net:NetN ts (4*n)
 ne:∀x,x<4*n->nt ts x≠x
section
variable{ts:List Nat}{n:Nat}(N:NetO ts n)
include N
theorem zLS{C:List Nat}{q:Nat}(h:Ch1 ts n C)(hq:q<n):(∃L,Tn ts C n q (tV ts n C q) L)/\Ch1 ts n (tF ts n C q)/\tF ts n (tF ts n C q) q=C:=by
 obtain⟨v,v3,vc,o1,o2⟩:=zMP N.net N.ne h.len h.lt h.one hq;have hs:tV ts n C q<3/\tV ts n C q≠C.getD q 0/\OneAt ts (C.set q (tV ts n C q)) n 0:=qE9 (p:=fun v=>v<3/\v≠C.getD q 0/\OneAt ts (C.set q v) n 0) ⟨v,v3,vc,o1⟩;have hv:tV ts n C q=v:=qCn fun z=>o2 _ hs.1 hs.2.1 z hs.2.2
 have c2:Ch1 ts n (tF ts n C q):=⟨by unfold tF;simp[h.len],by unfold tF;exact zIO h.lt hs.1,by unfold tF;exact hs.2.2⟩
 refine⟨?_,c2,?_⟩
 ·rw[hv];exact za6 N.n1 N.n8 N.net N.ne h.len h.lt h.one hq v3 vc o1 o2
 ·have hgv:(tF ts n C q).getD q 0=v:=by
   unfold tF;rw[hv,qA0,qA9 (by rw[h.len];exact hq)];rfl
  have hsame:(tF ts n C q).set q (C.getD q 0)=C:=by
   unfold tF;rw[List.set_set,qA0,qA4 (show q<C.length by rw[h.len];exact hq)];simp
  obtain⟨v',a1,a2,a3,a4⟩:=zMP N.net N.ne c2.len c2.lt c2.one hq;have hs2:tV ts n (tF ts n C q) q<3/\tV ts n (tF ts n C q) q≠(tF ts n C q).getD q 0/\OneAt ts ((tF ts n C q).set q (tV ts n (tF ts n C q) q)) n 0:=qE9 (p:=fun w=>w<3/\w≠(tF ts n C q).getD q 0/\OneAt ts ((tF ts n C q).set q w) n 0) ⟨v',a1,a2,a3⟩;have hc3:C.getD q 0<3:=zCJ h.lt (by rw[h.len];exact hq);have e1:v'=C.getD q 0:=qCn fun z=>a4 (C.getD q 0) hc3 (by rw[hgv];exact qC1 vc) (qC1 z) (by rw[hsame];exact h.one)
  have e2:tV ts n (tF ts n C q) q=v':=qCn fun z=>a4 _ hs2.1 hs2.2.1 z hs2.2.2
  show(tF ts n C q).set q (tV ts n (tF ts n C q) q)=C
  rw[e2,e1,hsame]
noncomputable def wkF(ts:List Nat)(n:Nat)(C:List Nat)(ps:List Nat):List Nat:=ps.foldl (tF ts n) C
abbrev Vd(n:Nat)(ps:List Nat):Prop:=∀q∈ps,q<n
theorem zUS:∀(ps:List Nat){C:List Nat},Ch1 ts n C->Vd n ps->Ch1 ts n (wkF ts n C ps)
 |[],_,h,_=>h
 |q::r,C,h,v=>zUS r (zLS N h (v q (qBa ..))).2.1 fun x hx=>v x (qAq _ hx)
omit N in
theorem zJY(C:List Nat)(a b:List Nat):wkF ts n C (a++b)=wkF ts n (wkF ts n C a) b:=by unfold wkF;rw[qDs]
end
structure BI(ts:List Nat)(n:Nat)(o:List Nat)(k:Nat)(L:List (List Nat×List Nat))(E:List (List Nat)):Prop where
 ok:∀p∈L,wkF ts n o p.2=p.1/\p.2.length<=k/\Vd n p.2
 nd:(L.map (·.1)).Nodup
 all:∀ps,Vd n ps->ps.length<=k->∃w,(wkF ts n o ps,w)∈L/\w.length<=ps.length
 e1:∀C∈E,∃w,(C,w)∈L/\w.length=k
 e2:∀p∈L,p.2.length=k->p.1∈E
structure MI(ts:List Nat)(n:Nat)(o:List Nat)(k:Nat)(L L':List (List Nat×List Nat))(B:List (List Nat))(D:List Nat->Nat->Prop):Prop where
 new:∃M,L'=L++M/\(∀p∈M,wkF ts n o p.2=p.1/\p.2.length=k+1/\Vd n p.2)/\B=M.map (·.1)
 nd:(L'.map (·.1)).Nodup
 done:∀C q,D C q->∃w,(tF ts n C q,w)∈L'
section
variable{ts:List Nat}{n:Nat}{o:List Nat}{k:Nat}{L L':List (List Nat×List Nat)}{E B:List (List Nat)}
theorem zNB(b:BI ts n o k L E):MI ts n o k L L [] fun _ _=>False:=⟨⟨[],by simp,by simp,rfl⟩,b.nd,fun _ _ h=>h.elim⟩
theorem zYS{D:List Nat->Nat->Prop}{C:List Nat}{q:Nat}(m:MI ts n o k L L' B D)(h:∃w,(tF ts n C q,w)∈L'):MI ts n o k L L' B fun X p=>D X p\/(X=C/\p=q):=
 ⟨m.new,m.nd,fun X p hp=>by
  rcases hp with h1|⟨rfl,rfl⟩
  ·exact m.done X p h1
  ·exact h⟩
theorem zYT{D:List Nat->Nat->Prop}{C w:List Nat}{q:Nat}(m:MI ts n o k L L' B D)(b:BI ts n o k L E)(hw:(C,w)∈L)(hk:w.length=k)(hq:q<n)(h:tF ts n C q∉L'.map (·.1)):MI ts n o k L (L'++[(tF ts n C q,w++[q])]) (B++[tF ts n C q]) fun X p=>D X p\/(X=C/\p=q):=by
 obtain⟨M,e1,e2,e3⟩:=m.new;have hb:=b.ok _ hw;refine⟨⟨M++[(tF ts n C q,w++[q])],by rw[e1,qC2],fun p hp=>?_,by rw[e3];simp⟩,?_,fun X p hp=>?_⟩
 ·rcases qAw.mp hp with z|z
  ·exact e2 p z
  ·rw[qB0.mp z];refine⟨?_,by simp[hk],fun x hx=>?_⟩
   ·dsimp only;rw[zJY,hb.1];rfl
   ·rcases qAw.mp hx with y|y
    ·exact hb.2.2 x y
    ·rw[qB0.mp y];exact hq
 ·rw[qBc,qDq];refine⟨m.nd,by simp,fun a ha c hc=>?_⟩;simp at hc;subst hc;intro z;exact h (z▸ha)
 ·rcases hp with h1|⟨rfl,rfl⟩
  ·obtain⟨w',z⟩:=m.done X p h1;exact⟨w',qBh _ z⟩
  ·exact⟨_,qAm _ (qB0.mpr rfl)⟩
theorem zYU{D:List Nat->Nat->Prop}(m:MI ts n o k L L' B D)(b:BI ts n o k L E)(hD:∀C∈E,∀q,q<n->D C q):BI ts n o (k+1) L' B:=by
 obtain⟨M,e1,e2,e3⟩:=m.new;have len:∀p∈L',p.2.length<=k+1:=fun p hp=>by
  rw[e1]at hp
  rcases qAw.mp hp with z|z
  ·have:=(b.ok p z).2.1;omega
  ·have:=(e2 p z).2.1;omega
 refine⟨fun p hp=>?_,m.nd,fun ps v hl=>?_,fun C hC=>?_,fun p hp hk=>?_⟩
 ·refine⟨?_,len p hp,?_⟩
  ·rw[e1]at hp
   rcases qAw.mp hp with z|z
   ·exact(b.ok p z).1
   ·exact(e2 p z).1
  ·rw[e1]at hp
   rcases qAw.mp hp with z|z
   ·exact(b.ok p z).2.2
   ·exact(e2 p z).2.2
 ·have inL:∀p,p∈L->p∈L':=fun p hp=>by rw[e1];exact qBh _ hp
  by_cases hk:ps.length<=k
  ·obtain⟨w,h1,h2⟩:=b.all ps v hk;exact⟨w,inL _ h1,h2⟩
  ·have hne:ps≠[]:=fun z=>by rw[z]at hk;simp at hk
   obtain⟨qs,p,rfl⟩:∃qs p,ps=qs++[p]:=⟨ps.dropLast,ps.getLast hne,(List.dropLast_concat_getLast hne).symm⟩
   simp at hl hk;have vq:Vd n qs:=fun x hx=>v x (qBh _ hx)
   have hp:p<n:=v p (qAm _ (qB0.mpr rfl));obtain⟨w,h1,h2⟩:=b.all qs vq (by omega);have hX:wkF ts n o (qs++[p])=tF ts n (wkF ts n o qs) p:=by rw[zJY];rfl
   rw[hX]
   by_cases hwk:w.length=k
   ·obtain⟨w',z⟩:=m.done _ p (hD _ (b.e2 _ h1 hwk) p hp);exact⟨w',z,by have:=len _ z;simp at this ⊢;omega⟩
   ·have hwo:=b.ok _ h1;obtain⟨w',z1,z2⟩:=b.all (w++[p]) (fun x hx=>by
     rcases qAw.mp hx with y|y
     ·exact hwo.2.2 x y
     ·rw[qB0.mp y];exact hp) (by have:=hwo.2.1;simp at this ⊢;omega)
    have:wkF ts n o (w++[p])=tF ts n (wkF ts n o qs) p:=by
     rw[zJY,hwo.1];rfl
    rw[this]at z1;exact⟨w',inL _ z1,by simp at z2 ⊢;omega⟩
 ·rw[e3]at hC;obtain⟨p,hp,rfl⟩:=qB6.mp hC;exact⟨p.2,by rw[e1];exact qAm _ hp,(e2 p hp).2.1⟩
 ·rw[e1]at hp
  rcases qAw.mp hp with z|z
  ·have:=(b.ok p z).2.1;omega
  ·rw[e3];exact qB6.mpr ⟨p,z,rfl⟩
theorem zTF:BI ts n o 0 [(o,[])] [o]:=⟨fun p hp=>by rw[qB0.mp hp];exact⟨rfl,qA6 0,fun _ h=>by simp at h⟩,by simp,fun ps _ h=>by
  have:ps=[]:=qAx (by omega)
  subst this;exact⟨[],by simp[wkF],qA6 _⟩,fun C hC=>by rw[qB0.mp hC];exact⟨[],by simp,rfl⟩,fun p hp _=>by rw[qB0.mp hp];simp⟩
end
abbrev Wl:Type:=List (List Nat×List Nat)
abbrev kC(C:List Nat):List Sw:=C.map fun c:Nat=>Sw.int (c:Int)
abbrev wyD(L:Wl):Dt:=.dtt (L.map fun p=>kC p.1) (L.map fun p=>rowD (numL p.2))
theorem zU5{C D:List Nat}(h:kNs (kC C)=kNs (kC D)):C=D:=by
 unfold kNs kC at h;rw[qB9,qB9]at h;refine List.map_inj_right (f:=fun c:Nat=>(some (qCv (c:Int)):Option (Sum Int Str))) (fun a b e=>?_) |>.mp h
 injection e with e
 injection e with e
 omega
theorem kyC(C:List Nat):kyU (.tup ((numL C).map Dt.int))=some (kC C):=by
 show swsD _=_
 induction C with
 |nil=>rfl
 |cons a r ih=>
  show(match swD (.int (a:Int)),swsD ((numL r).map Dt.int)with|some a,some q=>some (a::q)|_,_=>none)=_
  rw[ih];rfl
theorem zKE(q:List Sw)(ks:List (List Sw))(k:List Sw):posT (q::ks) k=if kNs q=kNs k then some 0 else(posT ks k).map (·+1):=by
 unfold posT;rw[qF1]
 by_cases h:kNs q=kNs k
 ·rw[if_pos h,if_pos (by simpa using h)]
 ·rw[if_neg h,if_neg (by simpa using h)]
theorem zYB(L:Wl)(C:List Nat):(posT (L.map fun p=>kC p.1) (kC C)).isSome=decide (C∈L.map (·.1)):=by
 induction L with
 |nil=>rfl
 |cons p r ih=>
  rw[qAn,zKE]
  by_cases h:p.1=C
  ·subst h;simp
  ·rw[if_neg fun z=>h (zU5 z)]
   have:(C∈(p::r).map (·.1))↔C∈r.map (·.1):=by simp[show ¬C=p.1 from fun z=>h z.symm]
   simp only[qCg,ih,this]
theorem zQQ{C w:List Nat}:∀{L:Wl},(L.map (·.1)).Nodup->(C,w)∈L->getT (L.map fun p=>kC p.1) (L.map fun p=>rowD (numL p.2)) (kC C)=some (rowD (numL w))
 |[],_,h=>by simp at h
 |p::r,hn,h=>by
  rw[qAn]at hn;have hn':=qB4.mp hn;unfold getT;rw[qAn,zKE]
  rcases qAj.mp h with rfl|h
  ·rw[if_pos rfl];rfl
  ·have hne:¬p.1=C:=fun z=>hn'.1 (by rw[z];exact qB6.mpr ⟨_,h,rfl⟩)
   rw[if_neg fun z=>hne (zU5 z)];have ih:=zQQ hn'.2 h;unfold getT at ih;cases e:posT (r.map fun p=>kC p.1) (kC C)with
   |none=>rw[e]at ih;cases ih
   |some j=>rw[e]at ih;simpa using ih
theorem zWN(L:Wl)(C:List Nat):dinT true (.tup ((numL C).map Dt.int)) (wyD L)=some (.bl (!decide (C∈L.map (·.1)))):=by
 show(match kyU (.tup ((numL C).map Dt.int))with|some k=>some (Dt.bl (if true=true then !(posT (L.map fun p:List Nat×List Nat=>kC p.1) k).isSome else(posT (L.map fun p:List Nat×List Nat=>kC p.1) k).isSome))|none=>none)=_
 rw[kyC];dsimp only;rw[if_pos rfl,zYB]
theorem zV3{r:Ro}{a:Nat}{L:Wl}{C w:List Nat}{e1 e2:EM}(hr:r[2]?=some (some (.loc a (wyD L),3)))(h1:e1 (full r)=okR (.tup ((numL C).map Dt.int)))(h2:e2 (full r)=okR (rowD (numL w)))(hC:C∉L.map (·.1))(hL:L.length<=50000):sTputL 2 1 e1 e2 r=okR (.nx (r.set 2 (some (.loc a (wyD (L++[(C,w)])),3)))):=by
 have hp:posT (L.map fun p=>kC p.1) (kC C)=none:=by
  have:=zYB L C
  rw[decide_eq_false hC]at this;exact Option.isNone_iff_eq_none.mp (by simpa using this)
 unfold sTputL;rw[h2,zA1,hr];dsimp only;rw[h1,zA1,kyC];dsimp only;have hd:(rowD (numL w)).dep<=1:=by rw[zAZ];exact qA6 1
 have hfit:fitT (L.map fun p=>kC p.1) (kC C)=true:=by unfold fitT;rw[hp];rfl
 have hpk:putKs (L.map fun p=>kC p.1) (kC C)=(L++[(C,w)]).map fun p=>kC p.1:=by unfold putKs;rw[hp,qBc];rfl
 have hpd:putDs (L.map fun p=>kC p.1) (L.map fun p=>rowD (numL p.2)) (kC C) (rowD (numL w))=(L++[(C,w)]).map fun p=>rowD (numL p.2):=by unfold putDs;rw[hp,qBc];rfl
 rw[@if_pos _ (qA3 _) ⟨hd,hd,by simp;omega,hfit⟩,hpk,hpd]
theorem za7{d k:EM}{ρ:Rh}{L:Wl}{C w:List Nat}(h1:d ρ=okR (wyD L))(h2:k ρ=okR (.tup ((numL C).map Dt.int)))(hn:(L.map (·.1)).Nodup)(h:(C,w)∈L):eTIx d k ρ=okR (rowD (numL w)):=by
 unfold eTIx;rw[h1,zA1];dsimp only;rw[h2,zA1,kyC];dsimp only;rw[zQQ hn h];rfl
theorem zZN{r:Ro}{B:List (List Nat)}{C:List Nat}(hr:r=[r.getD 0 none,r.getD 1 none,r.getD 2 none,some (rowsD B,1),r.getD 4 none,r.getD 5 none,some (rowD (numL C),1)])(hB:B.length<=50000):sAppF 3 [6] (eV 6) r=okR (.nx [r.getD 0 none,r.getD 1 none,r.getD 2 none,some (rowsD (B++[C]),1),r.getD 4 none,r.getD 5 none,some (rowD (numL C),0)]):=by
 rw[hr]
 generalize r.getD 0 none=a0
 generalize r.getD 1 none=a1
 generalize r.getD 2 none=a2
 generalize r.getD 4 none=a4
 generalize r.getD 5 none=a5
 unfold sAppF;show zA4 (okR (rowD (numL C))) _=_;rw[zA1,@if_pos _ (qA3 _) (by simp;omega)];show okR (Out.nx [a0,a1,a2,some (.lst ((B.map fun l=>rowD (numL l))++[rowD (numL C)]),1),a4,a5,some (rowD (numL C),0)])=_;unfold rowsD;rw[qBc];rfl
theorem zXB{σ A:Type}(R:σ->A->Ro->Prop)(Pv:Nat->σ->Prop){j n:Nat}{b:SM}{s0:σ}(h0:Pv 0 s0)
  (step:∀k,k<n->∀s,Pv k s->∃s',Pv (k+1) s'/\∀a r,R s a r->∃r',b (r.set j (some (.int (k:Nat),0)))=okR (.nx r')/\R s' a r') :
  ∃s',Pv n s'/\∀a r,R s0 a r->∃r',forGo (.one j) b (nums 0 n) r=okR (.nx r')/\R s' a r':=by
 have h1:∀x:Nat×σ,∃s',x.1<n->Pv x.1 x.2->Pv (x.1+1) s'/\∀a r,R x.2 a r->∃r',b (r.set j (some (.int (x.1:Nat),0)))=okR (.nx r')/\R s' a r':=fun x=>by
  by_cases h:x.1<n/\Pv x.1 x.2
  ·obtain⟨s',hs⟩:=step x.1 h.1 x.2 h.2;exact⟨s',fun _ _=>hs⟩
  ·exact⟨s0,fun a c=>absurd ⟨a,c⟩ h⟩
 obtain⟨F,hF⟩:=qDz h1
 let sq:Nat->σ:=fun k=>Nat.rec s0 (fun k s=>F (k,s)) k
 have hp:∀k,k<=n->Pv k (sq k):=fun k=>by
  induction k with
  |zero=>exact fun _=>h0
  |succ k ih=>exact fun h=>(hF (k,sq k) (by show k<n;omega) (ih (by omega))).1
 refine⟨sq n,hp n (qA6 _),fun a r hr=>?_⟩;obtain⟨r',e,hr'⟩:=zCI (zM1 (n:=n) (X:=fun r=>R (sq n) a r) (fun k r=>R (sq k) a r) hr (fun k hk r hr=>by
  obtain⟨r',e,h⟩:=(hF (k,sq k) hk (hp k (by omega))).2 a r hr;exact zAK e h) fun r h=>h)
 exact⟨r',e,hr'⟩
theorem zT2{σ A γ:Type}(R:σ->A->Ro->Prop)(Pv:Nat->σ->Prop){j:Nat}{b:SM}{s0:σ}(en:γ->Dt)(xs:List γ)(h0:Pv 0 s0)
  (step:∀k x,xs[k]?=some x->∀s,Pv k s->∃s',Pv (k+1) s'/\∀a r,R s a r->∃r',b (r.set j (some (en x,0)))=okR (.nx r')/\R s' a r') :
  ∃s',Pv xs.length s'/\∀a r,R s0 a r->∃r',forGo (.one j) b (xs.map en) r=okR (.nx r')/\R s' a r':=by
 have h1:∀x:Nat×σ,∃s',∀y,xs[x.1]?=some y->Pv x.1 x.2->Pv (x.1+1) s'/\∀a r,R x.2 a r->∃r',b (r.set j (some (en y,0)))=okR (.nx r')/\R s' a r':=fun x=>by
  by_cases h:Pv x.1 x.2
  ·cases e:xs[x.1]? with
   |none=>exact⟨s0,fun y z=>by cases z⟩
   |some y=>
    obtain⟨s',hs⟩:=step x.1 y e x.2 h;exact⟨s',fun y' z _=>by cases z;exact hs⟩
  ·exact⟨s0,fun y _ c=>absurd c h⟩
 obtain⟨F,hF⟩:=qDz h1
 let sq:Nat->σ:=fun k=>Nat.rec s0 (fun k s=>F (k,s)) k
 have hp:∀k,k<=xs.length->Pv k (sq k):=fun k=>by
  induction k with
  |zero=>exact fun _=>h0
  |succ k ih=>exact fun h=>(hF (k,sq k) _ (qA4 (show k<xs.length by omega)) (ih (by omega))).1
 refine⟨sq xs.length,hp _ (qA6 _),fun a r hr=>?_⟩;obtain⟨r',e,hr'⟩:=zCI (zF7 en xs (X:=fun r=>R (sq xs.length) a r) (fun k r=>R (sq k) a r) hr (fun k x hx r hr=>by
  obtain⟨r',e,h⟩:=(hF (k,sq k) x hx (hp k (by have:=(qA2.mp hx).1;omega))).2 a r hr;exact zAK e h) fun r h=>h)
 exact⟨r',e,hr'⟩
noncomputable abbrev edB:SM:=sSeq (sSet 6 1 [0,4,5] (eCall zBN (aCons (eV 0) (aCons (eV 4) (aCons (eV 5) aNil)))))
 (sIf (tB (eB (dinT true) (eBi tupD (aCons (eV 6) aNil)) (eVL 2))) (sSeq (sTputL 2 1 (eBi tupD (aCons (eV 6) aNil)) (eB addD (eTIx (eVL 2) (eBi tupD (aCons (eV 4) aNil))) (eLst (aCons (eV 5) aNil))))
 (sAppF 3 [6] (eV 6))) sNil)
abbrev eds(T Ed:Dt)(a:Nat)(L:Wl)(B:List (List Nat))(o4 o5 o6:Option Sl):Ro:=[some (T,0),some (Ed,0),some (.loc a (wyD L),3),some (rowsD B,1),o4,o5,o6]
section
variable{ts:List Nat}{n:Nat}(N:NetO ts n){o:List Nat}{k:Nat}{L L':Wl}{E B:List (List Nat)}
include N
theorem zWJ{D:List Nat->Nat->Prop}{C w:List Nat}{q:Nat}(b:BI ts n o k L E)(m:MI ts n o k L L' B D)(hC:Ch1 ts n C)(hw:(C,w)∈L)(hwk:w.length=k)(hq:q<n)(hL:L'.length<=40000)(hk:k<=100) :
  ∃L2 B2,MI ts n o k L L2 B2 (fun X p=>D X p\/(X=C/\p=q))/\L2.length<=L'.length+1/\∀(a:Nat)(Ed:Dt)(o6:Option Sl),∃p6,edB (eds (rowD (numL ts)) Ed a L' B (some (rowD (numL C),0)) (some (.int (q:Int),0)) o6)=okR (.nx (eds (rowD (numL ts)) Ed a L2 B2 (some (rowD (numL C),0)) (some (.int (q:Int),0)) p6)):=by
 obtain⟨⟨TL,htn⟩,hC2,_⟩:=zLS N hC hq;have ht:=zE0 htn N.n8 hC.len hC.lt;rw[show C.set q (tV ts n C q)=tF ts n C q from rfl]at ht;obtain⟨M,e1,e2,e3⟩:=m.new;have hBL:B.length<=L'.length:=by rw[e3,e1];simp
 have hwL:(C,w)∈L':=by rw[e1];exact qBh _ hw
 have hadd:addD (rowD (numL w)) (.lst [.int (q:Int)])=some (rowD (numL (w++[q]))):=by
  have:=addR (numL w) [(q:Int)] (by simp[numL];omega)
  have e:rowD (numL (w++[q]))=rowD (numL w++[(q:Int)]):=by unfold numL;simp
  rw[e,<- this];rfl
 have hdep:(rowD (numL (tF ts n C q))).dep<=1:=by rw[zAZ];exact qA6 1
 have hset:∀(a:Nat)(Ed:Dt)(o6:Option Sl),sSet 6 1 [0,4,5] (eCall zBN (aCons (eV 0) (aCons (eV 4) (aCons (eV 5) aNil)))) (eds (rowD (numL ts)) Ed a L' B (some (rowD (numL C),0)) (some (.int (q:Int),0)) o6)=okR (.nx (eds (rowD (numL ts)) Ed a L' B (some (rowD (numL C),0)) (some (.int (q:Int),0)) (some (rowD (numL (tF ts n C q)),1)))):=fun a Ed o6=>ss (c3 rfl rfl rfl ht) hdep
 have hin:=zWN L' (tF ts n C q)
 by_cases z:tF ts n C q∈L'.map (·.1)
 ·rw[decide_eq_true z]at hin;obtain⟨p,hp,hp1⟩:=qB6.mp z;refine⟨L',B,zYS m ⟨p.2,by rw[<- hp1];exact hp⟩,by omega,fun a Ed o6=>⟨some (rowD (numL (tF ts n C q)),1),?_⟩⟩;exact sw (hset a Ed o6) (sf (tb1 (b2 (bi1 rfl rfl) rfl hin)))
 ·rw[decide_eq_false z]at hin;refine⟨L'++[(tF ts n C q,w++[q])],B++[tF ts n C q],zYT m b hw hwk hq z,by simp,fun a Ed o6=>⟨some (rowD (numL (tF ts n C q)),0),?_⟩⟩;refine sw (hset a Ed o6) ?_;rw[zJW,tb1 (b2 (bi1 (d1:=rowD (numL (tF ts n C q))) rfl rfl) rfl hin),zA1,if_pos (by decide)];refine sw (zV3 (a:=a) (L:=L') (C:=tF ts n C q) (w:=w++[q]) rfl (bi1 (d1:=rowD (numL (tF ts n C q))) rfl rfl) (b2 (za7 (L:=L') (C:=C) (w:=w) rfl (bi1 (d1:=rowD (numL C)) rfl rfl) m.nd hwL) (el1 rfl) hadd) z (by omega)) ?_;exact zZN (B:=B) (C:=tF ts n C q) rfl (by omega)
theorem zQW(b:BI ts n o k L E)(hE:∀C∈E,Ch1 ts n C)(hk:k<=100)(hL:L.length+E.length*n<=40000)(hEl:E.length<=1000):∃L2 E2,BI ts n o (k+1) L2 E2/\E2.length<=L2.length/\zCA [rowD (numL ts),rowsD E,wyD L]=okR (rowsD E2,wyD L2):=by
 have n8:=N.n8;have step:∀j C,E[j]?=some C->∀s:Wl×List (List Nat),((fun j s=>MI ts n o k L s.1 s.2 (fun X p=>(∃i,i<j/\E[i]?=some X)/\p<n)/\s.1.length<=L.length+j*n):Nat->Wl×List (List Nat)->Prop) j s->∃s',((fun j s=>MI ts n o k L s.1 s.2 (fun X p=>(∃i,i<j/\E[i]?=some X)/\p<n)/\s.1.length<=L.length+j*n):Nat->Wl×List (List Nat)->Prop) (j+1) s'/\∀(a:Nat)(r:Ro),((fun s a r=>∃o4 o5 o6,r=eds (rowD (numL ts)) (rowsD E) a s.1 s.2 o4 o5 o6):Wl×List (List Nat)->Nat->Ro->Prop) s a r->∃r',sForR (iR1 (aCons (eBi lenD (aCons (eV 4) aNil)) aNil)) 5 edB (r.set 4 (some (rowD (numL C),0)))=okR (.nx r')/\((fun s a r=>∃o4 o5 o6,r=eds (rowD (numL ts)) (rowsD E) a s.1 s.2 o4 o5 o6):Wl×List (List Nat)->Nat->Ro->Prop) s' a r':=fun j C hj s hs=>by
  obtain⟨L1,B1⟩:=s;obtain⟨m,hl1⟩:=hs;dsimp only at m hl1;have hCE:=qB5 hj;have hC:=hE C hCE;obtain⟨w,hw,hwk⟩:=b.e1 C hCE;have hjl:j<E.length:=(qA2.mp hj).1;have hjn:j*n+n<=E.length*n:=by rw[<- qDh];exact Nat.mul_le_mul_right n hjl
  have hlen:lenD [rowD (numL C)]=some (.int (n:Int)):=by simp[rowD,lenD,numL,hC.len]
  have ust:∀p,p<n->∀s:Wl×List (List Nat),((fun p s=>MI ts n o k L s.1 s.2 (fun X q=>((∃i,i<j/\E[i]?=some X)/\q<n)\/(X=C/\q<p))/\s.1.length<=L.length+j*n+p):Nat->Wl×List (List Nat)->Prop) p s->∃s',((fun p s=>MI ts n o k L s.1 s.2 (fun X q=>((∃i,i<j/\E[i]?=some X)/\q<n)\/(X=C/\q<p))/\s.1.length<=L.length+j*n+p):Nat->Wl×List (List Nat)->Prop) (p+1) s'/\∀(a:Nat)(r:Ro),((fun s a r=>∃o5 o6,r=eds (rowD (numL ts)) (rowsD E) a s.1 s.2 (some (rowD (numL C),0)) o5 o6):Wl×List (List Nat)->Nat->Ro->Prop) s a r->∃r',edB (r.set 5 (some (.int (p:Nat),0)))=okR (.nx r')/\((fun s a r=>∃o5 o6,r=eds (rowD (numL ts)) (rowsD E) a s.1 s.2 (some (rowD (numL C),0)) o5 o6):Wl×List (List Nat)->Nat->Ro->Prop) s' a r':=fun p hp s hs=>by
   obtain⟨L4,B4⟩:=s;obtain⟨m4,hl4⟩:=hs;dsimp only at m4 hl4;obtain⟨L5,B5,m5,hl5,hr5⟩:=zWJ N b m4 hC hw hwk hp (by omega) hk;refine⟨(L5,B5),⟨⟨m5.new,m5.nd,fun X q h=>m5.done X q ?_⟩,by dsimp only;omega⟩,fun a r hr=>?_⟩
   ·rcases h with h|⟨h1,h2⟩
    ·exact .inl (.inl h)
    ·by_cases y:q=p
     ·exact .inr ⟨h1,y⟩
     ·exact .inl (.inr ⟨h1,by omega⟩)
   ·obtain⟨o5,o6,rfl⟩:=hr;obtain⟨p6,e⟩:=hr5 a (rowsD E) o6;exact⟨_,e,_,_,rfl⟩
  obtain⟨⟨L3,B3⟩,⟨m3,hl3⟩,hr3⟩:=zXB (σ:=Wl×List (List Nat)) (A:=Nat) (fun s a r=>∃o5 o6,r=eds (rowD (numL ts)) (rowsD E) a s.1 s.2 (some (rowD (numL C),0)) o5 o6) (fun p s=>MI ts n o k L s.1 s.2 (fun X q=>((∃i,i<j/\E[i]?=some X)/\q<n)\/(X=C/\q<p))/\s.1.length<=L.length+j*n+p) (j:=5) (n:=n) (b:=edB) (s0:=(L1,B1)) ⟨⟨m.new,m.nd,fun X q h=>by
     rcases h with h|h
     ·exact m.done X q h
     ·omega⟩,by dsimp only;omega⟩ ust
  refine⟨(L3,B3),⟨⟨m3.new,m3.nd,fun X q h=>m3.done X q ?_⟩,by dsimp only at hl3 ⊢;rw[qDh];omega⟩,fun a r hr=>?_⟩
  ·obtain⟨⟨i,hi,e⟩,hq⟩:=h
   by_cases y:i=j
   ·subst y;rw[hj]at e;exact .inr ⟨(qB2 e).symm,hq⟩
   ·exact .inl ⟨⟨i,by omega,e⟩,hq⟩
  ·obtain⟨o4,o5,o6,rfl⟩:=hr;obtain⟨r',e,p5,p6,rfl⟩:=hr3 a (eds (rowD (numL ts)) (rowsD E) a L1 B1 (some (rowD (numL C),0)) o5 o6) ⟨o5,o6,rfl⟩;refine⟨eds (rowD (numL ts)) (rowsD E) a L3 B3 (some (rowD (numL C),0)) p5 p6,?_,_,_,_,rfl⟩;rw[zF1];show zA4 (iR1 (aCons (eBi lenD (aCons (eV 4) aNil)) aNil) (full (eds (rowD (numL ts)) (rowsD E) a L1 B1 (some (rowD (numL C),0)) o5 o6))) _=_;rw[zIJ (n:=n) (al0 (bi1 rfl hlen)) (by omega),zA1];exact e
 obtain⟨⟨L2,B⟩,⟨m,hl2⟩,hrun⟩:=zT2 (σ:=Wl×List (List Nat)) (A:=Nat) (fun s a r=>∃o4 o5 o6,r=eds (rowD (numL ts)) (rowsD E) a s.1 s.2 o4 o5 o6) (fun j s=>MI ts n o k L s.1 s.2 (fun X p=>(∃i,i<j/\E[i]?=some X)/\p<n)/\s.1.length<=L.length+j*n) (j:=4) (b:=sForR (iR1 (aCons (eBi lenD (aCons (eV 4) aNil)) aNil)) 5 edB) (s0:=(L,[])) (fun l=>rowD (numL l)) E ⟨⟨(zNB b).new,(zNB b).nd,fun C q h=>by obtain⟨⟨i,hi,_⟩,_⟩:=h;omega⟩,by dsimp only;omega⟩ step;have hb:BI ts n o (k+1) L2 B:=zYU m b fun C hC q hq=>by
  obtain⟨i,hi,e⟩:=qC5 hC;exact⟨⟨i,hi,by rw[qA4 hi,e]⟩,hq⟩
 refine⟨L2,B,hb,(by obtain⟨M,q1,_,q3⟩:=m.new;dsimp only at q1 q3;rw[q1,q3];simp),zV0 fun a=>?_⟩;unfold runM;rw[if_pos ⟨rfl,by decide⟩];rw[show startM 7 2 2 a [rowD (numL ts),rowsD E,wyD L]=[some (rowD (numL ts),0),some (rowsD E,0),some (.loc a (wyD L),3),none,none,none,none] from rfl];obtain⟨r',e,o4,o5,o6,rfl⟩:=hrun a (eds (rowD (numL ts)) (rowsD E) a L [] none none none) ⟨none,none,none,rfl⟩;have h1:sSet 3 1 [] (eLst aNil) [some (rowD (numL ts),0),some (rowsD E,0),some (.loc a (wyD L),3),none,none,none,none]=okR (.nx (eds (rowD (numL ts)) (rowsD E) a L [] none none none)):=ss el0 (qA6 1);have h2:sFor [1] (iSq (eV 1)) (.one 4) (sForR (iR1 (aCons (eBi lenD (aCons (eV 4) aNil)) aNil)) 5 edB) (eds (rowD (numL ts)) (rowsD E) a L [] none none none)=okR (.nx (eds (rowD (numL ts)) (rowsD E) a L2 B o4 o5 o6)):=by
  unfold sFor;rw[show iSq (eV 1) (frz (frzAt [1] (eds (rowD (numL ts)) (rowsD E) a L [] none none none)))=okR (E.map fun l=>rowD (numL l)) from rfl,zA1];exact e
 unfold zHS mSeq mLift;rw[h1,zA1];dsimp only;rw[zA1];dsimp only;rw[h2,zA1];dsimp only;rw[zA1];dsimp only;show zA4 (okR (.rv (eds (rowD (numL ts)) (rowsD E) a L2 B o4 o5 o6) 3)) (endM 1 2 2 a)=_;rw[zA1]
 show(if(1:Nat)=1/\(3:Nat)≠2 then optR ((heldAt 2 2 a (eds (rowD (numL ts)) (rowsD E) a L2 B o4 o5 o6)).map fun d0=>(rowsD B,d0))else none)=_
 rw[if_pos (by decide)];show optR ((if a=a/\(3:Nat)=2+1 then some (wyD L2)else none).map fun d0=>(rowsD B,d0))=_;rw[if_pos ⟨rfl,rfl⟩];rfl
end
section
variable{ts cs:List Nat}{n:Nat}(hN:NetN ts (4*n))(hl:cs.length=n)(hw:∀c∈cs,c<3)
include hN hl hw
omit hN hl hw in
omit hN hl hw in
end
noncomputable def bP(P:Prop):Bool:=@decide P (qA3 P)
noncomputable def cnt(M:Nat)(r:Nat->Nat->Prop):Nat:=(qAg M).countP fun x=>bP (∀y,y<x->¬r y x)
structure Named(ts:List Nat)(n:Nat)(g:Nat->Nat):Prop where
 tie:∀e,e<4*n->g (e/4)=g (nt ts e/4)
 min:∀(P:Nat->Prop),(∀e,e<4*n->(P (e/4)↔P (nt ts e/4)))->∀p p',p<n->p'<n->g p=g p'->P p->P p'
section
variable{ts:List Nat}{n:Nat}{g:Nat->Nat}(hN:NetN ts (4*n))(hne:∀x,x<4*n->nt ts x≠x)(hg:Named ts n g)
include hN hne hg
end
noncomputable def allC:Nat->List (List Nat)
 |0=>[[]]
 |n+1=>(allC n).flatMap fun c=>[0::c,1::c,2::c]
theorem zNS:∀{n:Nat}{C:List Nat},C.length=n->(∀c∈C,c<3)->C∈allC n
 |0,C,h,_=>by
  have:C=[]:=qAx h
  subst this;simp[allC]
 |n+1,[],h,_=>by simp at h
 |n+1,a::r,h,hw=>by
  have ih:=zNS (n:=n) (C:=r) (by simpa using h) fun c hc=>hw c (qAq _ hc)
  have ha:=hw a (qBa ..);refine qFn.mpr ⟨r,ih,?_⟩
  have:a=0\/a=1\/a=2:=by omega
  rcases this with rfl|rfl|rfl<;>simp
theorem zNT:∀n,(allC n).length=3 ^ n
 |0=>rfl
 |n+1=>by
  rw[allC]
  have:∀L:List (List Nat),(L.flatMap fun c=>[0::c,1::c,2::c]).length=3*L.length:=fun L=>by
   induction L with
   |nil=>rfl
   |cons a r ih=>rw[List.flatMap_cons,qAy,ih];simp;omega
  rw[this,zNT n,Nat.pow_succ];omega
theorem cnA1{m:FM}{e1:EM}{ρ:Rh}{d1 d:Dt}(h1:e1 ρ=okR d1)(h:m [d1]=okR d):eCallN m (aCons e1 aNil) ρ=okR d:=by
 unfold eCallN;rw[zB8,h1,zA1,zC8,zA1,zA1,h];rfl
theorem cnA3{m:FM}{e1 e2 e3:EM}{ρ:Rh}{d1 d2 d3 d:Dt}(h1:e1 ρ=okR d1)(h2:e2 ρ=okR d2)(h3:e3 ρ=okR d3)(h:m [d1,d2,d3]=okR d):eCallN m (aCons e1 (aCons e2 (aCons e3 aNil))) ρ=okR d:=by
 unfold eCallN;rw[zB8,h1,zA1,zB8,h2,zA1,zB8,h3,zA1,zC8,zA1,zA1,zA1,zA1,h];rfl
theorem dr1{e:EM}{r:Ro}{d:Dt}(h:e (full r)=okR d):sDrop e r=okR (.nx r):=by rw[zUR,h,zA1]
section
variable{ts:List Nat}{n:Nat}(N:NetO ts n){o:List Nat}
include N
theorem zRK{k:Nat}{L:Wl}{E:List (List Nat)}(h6:n<=6)(ho:Ch1 ts n o)(b:BI ts n o k L E):L.length<=729/\∀C∈E,Ch1 ts n C:=by
 have hc:∀p∈L,Ch1 ts n p.1:=fun p hp=>by
  have:=b.ok p hp
  rw[<- this.1];exact zUS N _ ho this.2.2
 refine⟨?_,fun C hC=>?_⟩
 ·have h1:=zI4 (L.map (·.1)) (allC n) b.nd fun C hC=>by
   obtain⟨p,hp,rfl⟩:=qB6.mp hC;exact zNS (hc p hp).len (hc p hp).lt
  rw[qAp,zNT]at h1
  have:3 ^ n<=3 ^ 6:=Nat.pow_le_pow_right (by omega) h6
  omega
 ·obtain⟨w,hw,_⟩:=b.e1 C hC;exact hc _ hw
theorem zIR{C:List Nat}(h:Ch1 ts n C):zAY [rowD (numL ts),rowD (numL C)]=okR .non:=by
 obtain⟨RR,h1,h2⟩:=zO3 N.n1 (by have:=N.n8;omega) N.net N.ne h.len h.lt;exact zH4 h1 N.n8 (h2.mpr h.one)
abbrev ways(T O P:Dt)(L:Wl)(E:List (List Nat)):Ro:=[some (T,0),some (O,0),some (P,0),some (wyD L,2),some (rowsD E,1)]
noncomputable abbrev wbC:TM:=tB (eB (dinT true) (eBi tupD (aCons (eV 2) aNil)) (eV 3))
noncomputable abbrev wbB:SM:=sCallW2N 4 3 2 1 [0,4] (eV 0) (eV 4) zCA
theorem zZX{p:List Nat}(h6:n<=6)(ho:Ch1 ts n o){ps:List Nat}(hv:Vd n ps)(hps:wkF ts n o ps=p)(h9:ps.length<=50):∀(d k M:Nat)(L:Wl)(E:List (List Nat)),k+d=ps.length->d<M->BI ts n o k L E->E.length<=1000->∃k' L' E',BI ts n o k' L' E'/\p∈L'.map (·.1)/\whGo wbC wbB M (ways (rowD (numL ts)) (rowD (numL o)) (rowD (numL p)) L E)=okR (.nx (ways (rowD (numL ts)) (rowD (numL o)) (rowD (numL p)) L' E')):=by
 have stop:∀(k M:Nat)(L:Wl)(E:List (List Nat)),0<M->BI ts n o k L E->p∈L.map (·.1)->∃k' L' E',BI ts n o k' L' E'/\p∈L'.map (·.1)/\whGo wbC wbB M (ways (rowD (numL ts)) (rowD (numL o)) (rowD (numL p)) L E)=okR (.nx (ways (rowD (numL ts)) (rowD (numL o)) (rowD (numL p)) L' E')):=fun k M L E hM b hp=>by
  obtain⟨M,rfl⟩:∃M',M=M'+1:=⟨M-1,by omega⟩
  refine⟨k,L,E,b,hp,?_⟩;have hin:=zWN L p;rw[decide_eq_true hp]at hin;rw[whGo,show wbC (full (ways (rowD (numL ts)) (rowD (numL o)) (rowD (numL p)) L E))=okR (!true) from tb1 (b2 (bi1 (d1:=rowD (numL p)) rfl rfl) rfl hin),zA1,if_neg (by decide)]
 intro d
 induction d with
 |zero=>
  intro k M L E hk hM b hE;obtain⟨w,hw,_⟩:=b.all ps hv (by omega);rw[hps]at hw;exact stop k M L E (by omega) b (qB6.mpr ⟨_,hw,rfl⟩)
 |succ d ih=>
  intro k M L E hk hM b hE
  by_cases hp:p∈L.map (·.1)
  ·exact stop k M L E (by omega) b hp
  ·obtain⟨M,rfl⟩:∃M',M=M'+1:=⟨M-1,by omega⟩
   obtain⟨s1,s2⟩:=zRK N h6 ho b;have hEn:E.length*n<=1000*6:=qEs hE h6;obtain⟨L2,E2,b2',hEL,hrun⟩:=zQW N b s2 (by omega) (by omega) hE;obtain⟨s3,_⟩:=zRK N h6 ho b2';have hE2:E2.length<=1000:=by omega
   obtain⟨k',L',E',q1,q2,q3⟩:=ih (k+1) M L2 E2 (by omega) (by omega) b2' hE2;refine⟨k',L',E',q1,q2,?_⟩;have hin:=zWN L p;rw[decide_eq_false hp]at hin;rw[whGo,show wbC (full (ways (rowD (numL ts)) (rowD (numL o)) (rowD (numL p)) L E))=okR (!false) from tb1 (b2 (bi1 (d1:=rowD (numL p)) rfl rfl) rfl hin),zA1,if_pos (by decide)];have hb:wbB (ways (rowD (numL ts)) (rowD (numL o)) (rowD (numL p)) L E)=okR (.nx (ways (rowD (numL ts)) (rowD (numL o)) (rowD (numL p)) L2 E2)):=by
    unfold wbB sCallW2N sCallW2
    show(if(2:Nat)=2/\(3:Nat)≠4/\zZ5 (wyD L)=true then zA4 (okR (rowD (numL ts))) (fun c=>zA4 (okR (rowsD E)) fun c'=>zA4 (noW zCA [c,c',wyD L]) _)else none)=_
    rw[if_pos ⟨rfl,by decide,rfl⟩,zA1,zA1]
    have:noW zCA [rowD (numL ts),rowsD E,wyD L]=okR (rowsD E2,wyD L2):=by unfold noW;rw[hrun];rfl
    rw[this,zA1];rfl
   rw[hb,zA1];exact q3
theorem zRR{p:List Nat}(h6:n<=6)(ho:Ch1 ts n o)(hp:Ch1 ts n p){ps:List Nat}(hv:Vd n ps)(hps:wkF ts n o ps=p)(h9:ps.length<=50):∃w,Vd n w/\wkF ts n o w=p/\(∀qs,Vd n qs->wkF ts n o qs=p->w.length<=qs.length)/\zB7 [rowD (numL ts),rowD (numL o),rowD (numL p)]=okR (rowD (numL w)):=by
 obtain⟨k,L,E,b,hpL,hrun⟩:=zZX N h6 ho hv hps h9 ps.length 0 WN [(o,[])] [o] (by omega) (by rw[zZO];omega) zTF (by simp);obtain⟨⟨p',w⟩,hpw,hpe⟩:=qB6.mp hpL;dsimp only at hpe;subst hpe;obtain⟨q1,q2,q3⟩:=b.ok _ hpw;dsimp only at q1 q2 q3;have hl:(numL ts).length=4*n:=by simp[numL,N.net.len]
 have hpi:zDO [rowD (numL ts)]=okR (.int (n:Int)):=by
  have e:eB divD (eBi lenD (aCons (eV 0) aNil)) (eC (.int 4)) (full (startO 1 [rowD (numL ts)]))=okR (.int (n:Int)):=by
   refine b2 (bi1 (d1:=rowD (numL ts)) (d:=.int ((4*n:Nat):Int)) rfl (by simp[rowD,lenD,numL,N.net.len])) rfl ?_;rw[dvi (by decide)]
   congr 2
   omega
  exact zBE rfl (sr e ⟨qAk _,qAk _⟩)
 refine⟨w,q3,q1,fun qs vq hq=>?_,?_⟩
 ·by_cases hk:qs.length<=k
  ·obtain⟨w',z1,z2⟩:=b.all qs vq hk;rw[hq]at z1;have g1:=zQQ b.nd hpw;have g2:=zQQ b.nd z1;rw[g1]at g2;have e:rowD (numL w)=rowD (numL w'):=qB2 g2
   have:w.length=w'.length:=by
    have h3:=congrArg (fun d:Dt=>match d with | .lst xs=>xs.length|_=>0) e
    simpa[rowD,numL]using h3
   omega
  ·omega
 ·refine zBE rfl (sp (tb1 (b2 (cnA1 rfl hpi) rfl (cmi (decide_eq_false (by omega))))) ?_);refine sw (dr1 (c2 rfl rfl (zIR N ho))) (sw (dr1 (c2 rfl rfl (zIR N hp))) ?_);refine sw (r':=[some (rowD (numL ts),0),some (rowD (numL o),0),some (rowD (numL p'),0),some (wyD [(o,[])],2),none]) ?_ (sw (r':=ways (rowD (numL ts)) (rowD (numL o)) (rowD (numL p')) [(o,[])] [o]) ?_ (sw hrun ?_))
  ·have he:∀ρ:Rh,ρ[1]?=some (some (rowD (numL o)))->eTOne (eBi tupD (aCons (eV 1) aNil)) (eLst aNil) ρ=okR (wyD [(o,[])]):=fun ρ h=>by
    unfold eTOne;rw[bi1 (d1:=rowD (numL o)) (d:=.tup ((numL o).map Dt.int)) (v1 h) rfl,zA1,el0,zA1,kyC];rfl
   rw[zFE,he _ rfl,zA1,if_neg (by show ¬1000<=2;decide),he _ rfl,zA1];rfl
  ·have he:∀ρ:Rh,ρ[1]?=some (some (rowD (numL o)))->eLst (aCons (eV 1) aNil) ρ=okR (rowsD [o]):=fun ρ h=>el1 (v1 h)
   rw[zFE,he _ rfl,zA1,if_neg (by show ¬Dt.depL [rowD (numL o)]+1<=1;have:(rowD (numL o)).dep=1:=zAZ _;simp[Dt.depL,this]),he _ rfl,zA1];rfl
  ·unfold sRetTIx;show zA4 (eBi tupD (aCons (eV 2) aNil) _) _=_;rw[bi1 (d1:=rowD (numL p')) (d:=.tup ((numL p').map Dt.int)) rfl rfl,zA1,kyC];dsimp only;rw[zQQ b.nd hpw];dsimp only;rw[if_pos rfl]
noncomputable def onW(ts:List Nat)(n:Nat)(C:List Nat):List Nat->List (List Nat)
 |[]=>[C]
 |q::r=>C::onW ts n (tF ts n C q) r
omit N in
theorem zSK(ps:List Nat)(q:Nat):∀C,onW ts n C (ps++[q])=onW ts n C ps++[tF ts n (wkF ts n C ps) q]:=by
 induction ps with
 |nil=>intro C;rfl
 |cons a r ih=>intro C;show C::onW ts n (tF ts n C a) (r++[q])=_;rw[ih];rfl
omit N in
theorem zN7:∀(ps:List Nat)(C:List Nat),∃A,onW ts n C ps=A++[wkF ts n C ps]
 |[],C=>⟨[],rfl⟩
 |q::r,C=>by
  obtain⟨A,h⟩:=zN7 r (tF ts n C q);exact⟨C::A,by show C::onW ts n (tF ts n C q) r=_;rw[h];rfl⟩
omit N in
theorem zQ0:∀(ps:List Nat)(C:List Nat),(onW ts n C ps).length=ps.length+1
 |[],_=>rfl
 |q::r,C=>by show(onW ts n (tF ts n C q) r).length+1=_;rw[zQ0 r];rfl
omit N in
theorem zYW{ds:List Dt}{d:Dt}:itA (ds++[d]) (-1)=some d:=by
 unfold itA ixA;rw[if_neg (by decide),if_pos (by simp;omega)]
 have:(-1+((ds++[d]).length:Int)).toNat=ds.length:=by simp;omega
 rw[this];simp
theorem zO6{C:List Nat}(hC:Ch1 ts n C){ps:List Nat}(hv:Vd n ps)(h9:ps.length<=50):zEM [rowD (numL ts),rowD (numL C),rowD (numL ps)]=okR (rowsD (onW ts n C ps)):=by
 have dr:∀A:List (List Nat),(rowsD A).dep<=2:=fun A=>by
  show Dt.depL (A.map fun l=>rowD (numL l))+1<=2
  have:Dt.depL (A.map fun l=>rowD (numL l))<=1:=by
   induction A with
   |nil=>exact qAk _
   |cons a r ih=>
    show max (rowD (numL a)).dep (Dt.depL (r.map fun l=>rowD (numL l)))<=1
    have:(rowD (numL a)).dep=1:=zAZ _
    omega
  omega
 have main:nxR (sFor [2] (iSq (eV 2)) (.one 4) (sApp 3 1 (eCallN zBN (aCons (eV 0) (aCons (eB ixD (eV 3) (eU negD (eC (.int 1)))) (aCons (eV 4) aNil))))) [some (rowD (numL ts),0),some (rowD (numL C),0),some (rowD (numL ps),0),some (rowsD [C],2),none]) fun r=>∃o4,r=[some (rowD (numL ts),0),some (rowD (numL C),0),some (rowD (numL ps),0),some (rowsD (onW ts n C ps),2),o4]:=by
  unfold sFor;rw[show iSq (eV 2) (frz (frzAt [2] [some (rowD (numL ts),0),some (rowD (numL C),0),some (rowD (numL ps),0),some (rowsD [C],2),none]))=okR ((numL ps).map Dt.int) from rfl,zA1];rw[show(numL ps).map Dt.int=ps.map fun q:Nat=>Dt.int (q:Int) by unfold numL;rw[qB9];rfl];show nxR (forGo (.one 4) _ (ps.map fun q:Nat=>Dt.int (q:Int)) [some (rowD (numL ts),0),some (rowD (numL C),0),some (rowD (numL ps),0),some (rowsD [C],2),none]) _;refine zF7 (fun q:Nat=>Dt.int (q:Int)) ps (fun k r=>∃o4,r=[some (rowD (numL ts),0),some (rowD (numL C),0),some (rowD (numL ps),0),some (rowsD (onW ts n C (ps.take k)),2),o4]) ⟨none,rfl⟩ (fun k q hk r hr=>?_) fun r hr=>?_
  ·obtain⟨o4,rfl⟩:=hr;have vt:Vd n (ps.take k):=fun x hx=>hv x (List.mem_of_mem_take hx)
   have hq:q<n:=hv q (qB5 hk);have hX:=zUS N (ps.take k) hC vt;obtain⟨⟨TL,htn⟩,_,_⟩:=zLS N hX hq;have ho:=zE0 htn N.n8 hX.len hX.lt;rw[show(wkF ts n C (ps.take k)).set q (tV ts n (wkF ts n C (ps.take k)) q)=tF ts n (wkF ts n C (ps.take k)) q from rfl]at ho;obtain⟨A,hA⟩:=zN7 (ts:=ts) (n:=n) (ps.take k) C;have hlen:=zQ0 (ts:=ts) (n:=n) (ps.take k) C;have hlast:ixD (rowsD (onW ts n C (ps.take k))) (.int (-1))=some (rowD (numL (wkF ts n C (ps.take k)))):=by
    show itA ((onW ts n C (ps.take k)).map fun l=>rowD (numL l)) (-1)=_;rw[hA,qBc];exact zYW
   refine zAK (zRQ (ds:=(onW ts n C (ps.take k)).map fun l=>rowD (numL l)) (k:=1) (d:=rowD (numL (tF ts n (wkF ts n C (ps.take k)) q))) rfl (cnA3 rfl (b2 rfl rfl hlast) rfl ho) (by simp[hlen];omega) (by rw[zAZ];exact qA6 1) (by rw[zAZ];exact qA6 1)) ⟨some (.int (q:Int),0),?_⟩;have ht:ps.take (k+1)=ps.take k++[q]:=by rw[List.take_add_one,hk];rfl
   rw[ht,zSK];unfold rowsD;rw[qBc];rfl
  ·obtain⟨o4,rfl⟩:=hr;rw[qE6];exact⟨o4,rfl⟩
 obtain⟨r,hr,o4,rfl⟩:=zCI main;refine zBE rfl (sw (dr1 (c2 rfl rfl (zIR N hC))) (sg (d:=rowsD [C]) (el1 (bi1 rfl rfl)) (dr _) (sw hr rfl)))
end
section
variable{ts:List Nat}{n:Nat}(N:NetO ts n)
include N
theorem zXJ{C:List Nat}{q:Nat}(h:Ch1 ts n C)(hq:q<n):(tF ts n C q).getD q 0≠C.getD q 0/\(tF ts n C q).getD q 0<3/\∀i,i≠q->(tF ts n C q).getD i 0=C.getD i 0:=by
 obtain⟨⟨L,t⟩,c2,_⟩:=zLS N h hq;have e:(tF ts n C q).getD q 0=tV ts n C q:=by
  unfold tF;rw[qA0,qA9 (by rw[h.len];exact hq)];rfl
 refine⟨by rw[e];exact t.ne,by rw[e];exact t.hv,fun i hi=>?_⟩;unfold tF;rw[qA0,qA0,qAa (qC1 hi)]
theorem zKX:∀(k:Nat),k<=n->∀A B:List Nat,Ch1 ts n A->Ch1 ts n B->(∀i,k<=i->i<n->A.getD i 0=B.getD i 0)->∃ps,Vd n ps/\ps.length<=2*k/\wkF ts n A ps=B
 |0,_,A,B,ha,hb,h=>by
  refine⟨[],fun _ z=>by simp at z,qA6 _,?_⟩;show A=B;refine qFk (by rw[ha.len,hb.len]) fun i h1 h2=>?_
  have:=h i (qAk _) (by rw[<- ha.len];exact h1)
  rw[qA0,qA0,qA4 h1,qA4 h2]at this;exact this
 |k+1,hk,A,B,ha,hb,h=>by
  have hkn:k<n:=hk;have one:∀X Y:List Nat,(∀i,k+1<=i->i<n->X.getD i 0=A.getD i 0)->(∀i,k+1<=i->i<n->Y.getD i 0=B.getD i 0)->X.getD k 0=Y.getD k 0->∀i,k<=i->i<n->X.getD i 0=Y.getD i 0:=fun X Y hx hy hxy i h1 h2=>by
   by_cases z:i=k
   ·rw[z];exact hxy
   ·rw[hx i (by omega) h2,hy i (by omega) h2];exact h i (by omega) h2
  by_cases e:A.getD k 0=B.getD k 0
  ·obtain⟨ps,h1,h2,h3⟩:=zKX k (by omega) A B ha hb (one A B (fun _ _ _=>rfl) (fun _ _ _=>rfl) e);exact⟨ps,h1,by omega,h3⟩
  ·obtain⟨a1,a2,a3⟩:=zXJ N ha hkn;obtain⟨b1,b2,b3⟩:=zXJ N hb hkn;obtain⟨_,ca,_⟩:=zLS N ha hkn;obtain⟨_,cb,eb⟩:=zLS N hb hkn;have A3:A.getD k 0<3:=zCJ ha.lt (by rw[ha.len];exact hkn);have B3:B.getD k 0<3:=zCJ hb.lt (by rw[hb.len];exact hkn)
   by_cases e1:(tF ts n A k).getD k 0=B.getD k 0
   ·obtain⟨ps,h1,h2,h3⟩:=zKX k (by omega) _ B ca hb (one _ B (fun i hi _=>a3 i (by omega)) (fun _ _ _=>rfl) e1);refine⟨k::ps,fun x hx=>?_,by simp;omega,h3⟩
    rcases qAj.mp hx with rfl|hx
    ·exact hkn
    ·exact h1 x hx
   ·by_cases e2:A.getD k 0=(tF ts n B k).getD k 0
    ·obtain⟨ps,h1,h2,h3⟩:=zKX k (by omega) A _ ha cb (one A _ (fun _ _ _=>rfl) (fun i hi _=>b3 i (by omega)) e2);refine⟨ps++[k],fun x hx=>?_,by simp;omega,?_⟩
     ·rcases qAw.mp hx with hx|hx
      ·exact h1 x hx
      ·rw[qB0.mp hx];exact hkn
     ·rw[zJY,h3];exact eb
    ·have e3:(tF ts n A k).getD k 0=(tF ts n B k).getD k 0:=by omega
     obtain⟨ps,h1,h2,h3⟩:=zKX k (by omega) _ _ ca cb (one _ _ (fun i hi _=>a3 i (by omega)) (fun i hi _=>b3 i (by omega)) e3);refine⟨(k::ps)++[k],fun x hx=>?_,by simp;omega,?_⟩
     ·rcases qAw.mp hx with hx|hx
      ·rcases qAj.mp hx with rfl|hx
       ·exact hkn
       ·exact h1 x hx
      ·rw[qB0.mp hx];exact hkn
     ·rw[zJY];show wkF ts n (wkF ts n (tF ts n A k) ps) [k]=B;rw[h3];exact eb
theorem led{A B:List Nat}(ha:Ch1 ts n A)(hb:Ch1 ts n B):∃ps,Vd n ps/\ps.length<=2*n/\wkF ts n A ps=B:=
 zKX N n (qA6 _) A B ha hb fun i h1 h2=>by omega
end
theorem se{s t:SM}{r:Ro}{x:Xn}(h:s r=some (.error x)):sSeq s t r=some (.error x):=by rw[zFF,h];rfl
theorem zH1{P n:Nat}{b:SM}{ds:List Dt}{x:Xn}(hl:ds.length=P)(h:b (startO n ds)=some (.error x)):runF P n b ds=some (.error x):=by
 unfold runF;rw[if_pos hl,h];rfl
theorem dre{e:EM}{r:Ro}{x:Xn}(h:e (full r)=some (.error x)):sDrop e r=some (.error x):=by unfold sDrop;rw[h];rfl
theorem fgn{j:Nat}{b:SM}{d:Dt}{ds:List Dt}{r r':Ro}{X:R Out}(h:b (r.set j (some (d,0)))=okR (.nx r'))(h2:forGo (.one j) b ds r'=X):forGo (.one j) b (d::ds) r=X:=by
 rw[forGo];show zA4 (b (r.set j (some (d,0)))) _=_;rw[h,zA1];exact h2
theorem fgr{j:Nat}{b:SM}{d x:Dt}{ds:List Dt}{r:Ro}(h:b (r.set j (some (d,0)))=okR (.rt x)):forGo (.one j) b (d::ds) r=okR (.rt x):=by
 rw[forGo];show zA4 (b (r.set j (some (d,0)))) _=_;rw[h];rfl
theorem swr{s t:SM}{r:Ro}{d:Dt}(h:s r=okR (.rt d)):sSeq s t r=okR (.rt d):=by rw[zFF,h];rfl
noncomputable def dueD(k n a b:Nat):Dt:=if k=2/\6<n then .tup [.str "many",.int 0]else if 1<a then .tup [.str "rounds",.int (a:Int)]else if k=2/\1<b then .tup [.str "rounds",.int (b:Int)]else .non
noncomputable abbrev du66:SM:=(sSeq (sSet 6 0 [1,5] (eBi lenD (aCons (eCall zAP (aCons (eV 1) (aCons (eV 5) aNil))) aNil)))
 (sIf (tB (eB (cmpD fun i j=>decide (j<i)) (eV 6) (eC (.int 1)))) (sRet 1 1 [6] (eTup (aCons (eC (.str "rounds")) (aCons (eV 6) aNil)))) sNil))
noncomputable abbrev as66:EM:=(eIf (tB (eB eqD (eV 0) (eC (.int 0)))) (eCall zAU (aCons (eV 1) (aCons (eV 2) (aCons (eV 4) aNil)))) (eIf (tB (eB eqD (eV 0) (eC (.int 1)))) (eCall zEM (aCons (eV 1) (aCons (eV 2) (aCons (eLst (aCons (eV 4) (aCons (eV 4) aNil))) aNil)))) (eCall zB7 (aCons (eV 1) (aCons (eV 2) (aCons (eV 3) aNil))))))
section
variable{ts:List Nat}{n:Nat}(N:NetO ts n){C D:List Nat}{R1 R2:List (List Nat)}(h1:Rnds ts C n R1)(h2:Rnds ts D n R2)
include N
theorem zIW:zDO [rowD (numL ts)]=okR (.int (n:Int)):=by
 have e:eB divD (eBi lenD (aCons (eV 0) aNil)) (eC (.int 4)) (full (startO 1 [rowD (numL ts)]))=okR (.int (n:Int)):=by
  refine b2 (bi1 (d1:=rowD (numL ts)) (d:=.int ((4*n:Nat):Int)) rfl (by simp[rowD,lenD,numL,N.net.len])) rfl ?_;rw[dvi (by decide)]
  congr 2
  omega
 exact zBE rfl (sr e ⟨qAk _,qAk _⟩)
include h1
theorem zP1(h:¬R1.length=1)(q:Nat):zAU [rowD (numL ts),rowD (numL C),.int (q:Int)]=some (.error ⟨"NoOne","many",.int (R1.length:Int)⟩):=
 zH1 rfl (se (dre (c2 rfl rfl (zFL h1 N.n8 h))))
theorem zOY(h:¬R1.length=1)(P:Dt):zEM [rowD (numL ts),rowD (numL C),P]=some (.error ⟨"NoOne","many",.int (R1.length:Int)⟩):=
 zH1 rfl (se (dre (c2 rfl rfl (zFL h1 N.n8 h))))
omit h1 in
theorem zOX(h:6<n)(O P:Dt):zB7 [rowD (numL ts),O,P]=some (.error ⟨"TooMany","",.non⟩):=by
 refine zH1 rfl (se ?_);rw[zJW,tb1 (b2 (cnA1 rfl (zIW N)) rfl (cmi (k:=true) (decide_eq_true (by omega)))),zA1,if_pos rfl];unfold sRaise0;rw[al0 rfl,zA1,@if_pos _ (qA3 _) (by simp)]
theorem zUV(h6:n<=6)(h:¬R1.length=1)(P:Dt):zB7 [rowD (numL ts),rowD (numL C),P]=some (.error ⟨"NoOne","many",.int (R1.length:Int)⟩):=by
 refine zH1 rfl (sp (tb1 (b2 (cnA1 rfl (zIW N)) rfl (cmi (decide_eq_false (by omega))))) ?_);exact se (dre (c2 rfl rfl (zFL h1 N.n8 h)))
include h2
theorem zUU(h6:n<=6)(h:R1.length=1)(h':¬R2.length=1):zB7 [rowD (numL ts),rowD (numL C),rowD (numL D)]=some (.error ⟨"NoOne","many",.int (R2.length:Int)⟩):=by
 refine zH1 rfl (sp (tb1 (b2 (cnA1 rfl (zIW N)) rfl (cmi (decide_eq_false (by omega))))) ?_);refine sw (dr1 (c2 rfl rfl (zH4 h1 N.n8 h))) ?_;exact se (dre (c2 rfl rfl (zFL h2 N.n8 h')))
omit h1 h2 N in
theorem zI7:zAR [.exc "TooMany" "" .non]=okR (.tup [.str "many",.int 0]):=by
 unfold zAR zD3;simp[startO,eIsX]
omit h1 h2 N in
theorem zKY(M:Int):zAR [.exc "NoOne" "many" (.int M)]=okR (.tup [.str "rounds",.int M]):=by
 have hi:isiD "int" (.int M)=some (.bl true):=rfl;have hb:isiD "bool" (.int M)=some (.bl false):=rfl;unfold zAR zD3;simp[startO,eIsX,eAtX,hi,hb]
theorem zaV(k:Nat):zCR [.int (k:Int),rowD (numL ts),rowD (numL C),rowD (numL D)]=okR (dueD k n R1.length R2.length):=by
 have l1:=zFJ R1 (by have:=h1.le;have:=N.n8;omega);have l2:=zFJ R2 (by have:=h2.le;have:=N.n8;omega);have q1:=h1.law;have q2:=h2.law;have lt:lenD [rowD (numL ts)]=some (.int ((4*n:Nat):Int)):=by simp[rowD,lenD,numL,N.net.len]
 have e1:eBi lenD (aCons (eV 1) aNil) (full (startO 7 [.int (k:Int),rowD (numL ts),rowD (numL C),rowD (numL D)]))=okR (.int ((4*n:Nat):Int)):=bi1 rfl lt;have hk:∀ρ:Rh,ρ[0]?=some (some (.int (k:Int)))->tB (eB eqD (eV 0) (eC (.int 2))) ρ=okR (decide (k=2)):=fun ρ h=>eqi (v1 h) rfl (by simp only[decide_eq_decide];omega)
 by_cases z:k=2/\6<n
 ·unfold dueD;rw[if_pos z];refine zBE rfl (sx (ta1 (by rw[hk _ rfl,decide_eq_true z.1]) (tb1 (b2 e1 rfl (cmi (k:=true) (decide_eq_true (by omega)))))) (sr (et2 rfl rfl) ⟨by decide,by decide⟩))
 unfold dueD;rw[if_neg z];have c0:tAn (tB (eB eqD (eV 0) (eC (.int 2)))) (tB (eB (cmpD fun i j=>decide (j<i)) (eBi lenD (aCons (eV 1) aNil)) (eC (.int 24)))) (full (startO 7 [.int (k:Int),rowD (numL ts),rowD (numL C),rowD (numL D)]))=okR false:=by
  by_cases y:k=2
  ·exact ta1 (by rw[hk _ rfl,decide_eq_true y]) (tb1 (b2 e1 rfl (cmi (decide_eq_false (by omega)))))
  ·exact ta0 (by rw[hk _ rfl,decide_eq_false y])
 refine zBE rfl (sp c0 ?_);have dl:∀A B:List Nat,¬(Dt.lst [rowD (numL A),rowD (numL B)]).dep<=1:=fun A B=>by
  show ¬Dt.depL [rowD (numL A),rowD (numL B)]+1<=1
  have:(rowD (numL A)).dep=1:=zAZ _
  simp[Dt.depL,this]
 have dl1:∀A:List Nat,¬(Dt.lst [rowD (numL A)]).dep<=1:=fun A=>by
  show ¬Dt.depL [rowD (numL A)]+1<=1
  have:(rowD (numL A)).dep=1:=zAZ _
  simp[Dt.depL,this]
 have body1:∀(X:List Nat)(RR:List (List Nat))(S4:Dt)(o6:Option Sl),zAP [rowD (numL ts),rowD (numL X)]=okR (rowsD RR)->lenD [rowsD RR]=some (.int (RR.length:Int))->1<RR.length->du66 [some (.int (k:Int),0),some (rowD (numL ts),0),some (rowD (numL C),0),some (rowD (numL D),0),some (S4,0),some (rowD (numL X),0),o6]=okR (.rt (.tup [.str "rounds",.int (RR.length:Int)])):=fun X RR S4 o6 q l y=>by
  refine sg (bi1 (c2 rfl rfl q) l) (qAk _) ?_;exact sk (tb1 (b2 rfl rfl (cmi (k:=true) (decide_eq_true (by omega))))) (sr (et2 rfl rfl) ⟨qA6 1,qA6 1⟩)
 have body0:∀(X:List Nat)(RR:List (List Nat))(S4:Dt)(o6:Option Sl),zAP [rowD (numL ts),rowD (numL X)]=okR (rowsD RR)->lenD [rowsD RR]=some (.int (RR.length:Int))->¬1<RR.length->du66 [some (.int (k:Int),0),some (rowD (numL ts),0),some (rowD (numL C),0),some (rowD (numL D),0),some (S4,0),some (rowD (numL X),0),o6]=okR (.nx [some (.int (k:Int),0),some (rowD (numL ts),0),some (rowD (numL C),0),some (rowD (numL D),0),some (S4,0),some (rowD (numL X),0),some (.int (RR.length:Int),0)]):=fun X RR S4 o6 q l y=>by
  refine sg (bi1 (c2 rfl rfl q) l) (qAk _) ?_;exact sf (tb1 (b2 rfl rfl (cmi (k:=false) (decide_eq_false (by omega)))))
 refine sgf (el1 rfl) (dl1 C) (el1 rfl) ?_;have last:∀r:Ro,sRet 1 1 [] (eC .non) r=okR (.rt .non):=fun r=>sr rfl ⟨qAk _,qAk _⟩
 by_cases y:k=2
 ·refine st (by rw[hk _ rfl,decide_eq_true y]) (by rw[zFE,el2 rfl rfl,zA1,if_neg (dl C D),el2 rfl rfl,zA1]) ?_;show sSeq (sFor [4] (iSq (eV 4)) (.one 5) du66) _ [some (.int (k:Int),0),some (rowD (numL ts),0),some (rowD (numL C),0),some (rowD (numL D),0),some (.lst [rowD (numL C),rowD (numL D)],1),none,none]=_
  by_cases z1:1<R1.length
  ·rw[if_pos z1];exact swr (show forGo (.one 5) du66 [rowD (numL C),rowD (numL D)] [some (.int (k:Int),0),some (rowD (numL ts),0),some (rowD (numL C),0),some (rowD (numL D),0),some (.lst [rowD (numL C),rowD (numL D)],0),none,none]=_ from fgr (body1 C R1 _ _ q1 l1 z1))
  ·rw[if_neg z1]
   by_cases z2:1<R2.length
   ·rw[if_pos ⟨y,z2⟩];exact swr (show forGo (.one 5) du66 [rowD (numL C),rowD (numL D)] [some (.int (k:Int),0),some (rowD (numL ts),0),some (rowD (numL C),0),some (rowD (numL D),0),some (.lst [rowD (numL C),rowD (numL D)],0),none,none]=_ from fgn (body0 C R1 _ _ q1 l1 z1) (fgr (body1 D R2 _ _ q2 l2 z2)))
   ·rw[if_neg fun z=>z2 z.2];exact sw (show forGo (.one 5) du66 [rowD (numL C),rowD (numL D)] [some (.int (k:Int),0),some (rowD (numL ts),0),some (rowD (numL C),0),some (rowD (numL D),0),some (.lst [rowD (numL C),rowD (numL D)],0),none,none]=_ from fgn (body0 C R1 _ _ q1 l1 z1) (fgn (body0 D R2 _ _ q2 l2 z2) rfl)) (last _)
 ·refine sp (by rw[hk _ rfl,decide_eq_false y]) ?_;show sSeq (sFor [4] (iSq (eV 4)) (.one 5) du66) _ [some (.int (k:Int),0),some (rowD (numL ts),0),some (rowD (numL C),0),some (rowD (numL D),0),some (.lst [rowD (numL C)],1),none,none]=_
  by_cases z1:1<R1.length
  ·rw[if_pos z1];exact swr (show forGo (.one 5) du66 [rowD (numL C)] [some (.int (k:Int),0),some (rowD (numL ts),0),some (rowD (numL C),0),some (rowD (numL D),0),some (.lst [rowD (numL C)],0),none,none]=_ from fgr (body1 C R1 _ _ q1 l1 z1))
  ·rw[if_neg z1,if_neg fun z=>y z.1];exact sw (show forGo (.one 5) du66 [rowD (numL C)] [some (.int (k:Int),0),some (rowD (numL ts),0),some (rowD (numL C),0),some (rowD (numL D),0),some (.lst [rowD (numL C)],0),none,none]=_ from fgn (body0 C R1 _ _ q1 l1 z1) rfl) (last _)
theorem zWX(o1:R1.length=1↔OneAt ts C n 0)(o2:R2.length=1↔OneAt ts D n 0)(hC:C.length=n)(hC3:∀c∈C,c<3)(hD:D.length=n)(hD3:∀c∈D,c<3){k q:Nat}(hk:k<3)(hq:q<n):∃d,(dueD k n R1.length R2.length=.non->∃xs,d=.lst xs)/\(dueD k n R1.length R2.length≠.non->d=dueD k n R1.length R2.length)/\zB4 [.int (k:Int),rowD (numL ts),rowD (numL C),rowD (numL D),.int (q:Int)]=okR d:=by
 have p1:=h1.pos;have p2:=h2.pos;have hk0:∀ρ:Rh,ρ[0]?=some (some (.int (k:Int)))->tB (eB eqD (eV 0) (eC (.int 0))) ρ=okR (decide (k=0)):=fun ρ h=>eqi (v1 h) rfl (by simp only[decide_eq_decide];omega)
 have hk1:∀ρ:Rh,ρ[0]?=some (some (.int (k:Int)))->tB (eB eqD (eV 0) (eC (.int 1))) ρ=okR (decide (k=1)):=fun ρ h=>eqi (v1 h) rfl (by simp only[decide_eq_decide];omega)
 have ok:∀d,as66 [some (.int (k:Int)),some (rowD (numL ts)),some (rowD (numL C)),some (rowD (numL D)),some (.int (q:Int)),some .non,none]=okR d->zB4 [.int (k:Int),rowD (numL ts),rowD (numL C),rowD (numL D),.int (q:Int)]=okR d:=fun d h=>by
  refine zBE rfl (sg (d:=.non) rfl (qAk _) ?_);refine sw (zV8 _ _ _ (show as66 (frz (frzAt [0,5,1,2,4,3] [some (.int (k:Int),0),some (rowD (numL ts),0),some (rowD (numL C),0),some (rowD (numL D),0),some (.int (q:Int),0),some (.non,0),none]))=okR d from h)) ?_;show sRetV 0 5 [some (.int (k:Int),0),some (rowD (numL ts),0),some (rowD (numL C),0),some (rowD (numL D),0),some (.int (q:Int),0),some (d,0),none]=_;unfold sRetV
  show(if(0:Nat)=0\/_ then okR (Out.rt d)else none)=_
  rw[if_pos (.inl rfl)]
 have er:∀c f x d,c∈(["RoundError","NoOne","TooMany"]:List Str)->d.dep<=1->zAR [.exc c f x]=okR d->as66 [some (.int (k:Int)),some (rowD (numL ts)),some (rowD (numL C)),some (rowD (numL D)),some (.int (q:Int)),some .non,none]=some (.error ⟨c,f,x⟩)->zB4 [.int (k:Int),rowD (numL ts),rowD (numL C),rowD (numL D),.int (q:Int)]=okR d:=fun c f x d hc hd hkd h=>by
  refine zBE rfl (sg (d:=.non) rfl (qAk _) ?_);refine sw (r':=[some (.int (k:Int),0),some (rowD (numL ts),0),some (rowD (numL C),0),some (rowD (numL D),0),some (.int (q:Int),0),some (d,1),none]) ?_ ?_
  ·show sTry [0,5,1,2,4,3] (some 5) as66 ["RoundError","NoOne","TooMany"] 6 (sSet 5 1 [6] (eCall zAR (aCons (eV 6) aNil))) [some (.int (k:Int),0),some (rowD (numL ts),0),some (rowD (numL C),0),some (rowD (numL D),0),some (.int (q:Int),0),some (.non,0),none]=_;rw[zV9 _ _ _ (show as66 (frz (frzAt [0,5,1,2,4,3] [some (.int (k:Int),0),some (rowD (numL ts),0),some (rowD (numL C),0),some (rowD (numL D),0),some (.int (q:Int),0),some (.non,0),none]))=some (.error ⟨c,f,x⟩) from h) hc];show zA4 (sSet 5 1 [6] (eCall zAR (aCons (eV 6) aNil)) [some (.int (k:Int),0),some (rowD (numL ts),0),some (rowD (numL C),0),some (rowD (numL D),0),some (.int (q:Int),0),some (.non,0),some (.exc c f x,0)]) _=_;rw[ss (c1 rfl hkd) hd,zA1];rfl
  show sRetV 0 5 [some (.int (k:Int),0),some (rowD (numL ts),0),some (rowD (numL C),0),some (rowD (numL D),0),some (.int (q:Int),0),some (d,1),none]=_;unfold sRetV
  show(if(1:Nat)=0\/(0:Nat)=0\/_ then okR (Out.rt d)else none)=_
  rw[if_pos (.inr (.inl rfl))]
 have er1:∀a:Nat,as66 [some (.int (k:Int)),some (rowD (numL ts)),some (rowD (numL C)),some (rowD (numL D)),some (.int (q:Int)),some .non,none]=some (.error ⟨"NoOne","many",.int (a:Int)⟩)->zB4 [.int (k:Int),rowD (numL ts),rowD (numL C),rowD (numL D),.int (q:Int)]=okR (.tup [.str "rounds",.int (a:Int)]):=fun a h=>er _ _ _ _ (by simp) (qA6 1) (zKY _) h
 have nn:∀(x:Str)(i:Int),(Dt.tup [.str x,.int i]=.non->∃xs,Dt.tup [.str x,.int i]=.lst xs):=fun _ _ z=>by cases z
 have k0:k=0\/k=1\/k=2:=by omega
 by_cases y1:R1.length=1
 ·have c1:Ch1 ts n C:=⟨hC,hC3,o1.mp y1⟩
  rcases k0 with rfl|rfl|rfl
  ·have e:dueD 0 n R1.length R2.length=.non:=by unfold dueD;rw[if_neg (by omega),if_neg (by omega),if_neg (by omega)]
   rw[e];obtain⟨⟨TL,htn⟩,_,_⟩:=zLS N c1 hq;have t:=zF2 htn N.n8 hC hC3;exact⟨_,fun _=>⟨_,rfl⟩,fun z=>absurd rfl z,ok _ (if1 (by rw[hk0 _ rfl];rfl) (c3 rfl rfl rfl t))⟩
  ·have e:dueD 1 n R1.length R2.length=.non:=by unfold dueD;rw[if_neg (by omega),if_neg (by omega),if_neg (by omega)]
   rw[e];have t:=zO6 N c1 (ps:=[q,q]) (fun x hx=>by simp at hx;omega) (by simp);exact⟨_,fun _=>⟨_,rfl⟩,fun z=>absurd rfl z,ok _ (if0 (by rw[hk0 _ rfl];rfl) (if1 (by rw[hk1 _ rfl];rfl) (c3 rfl rfl (el2 rfl rfl) t)))⟩
  ·by_cases h6:6<n
   ·have e:dueD 2 n R1.length R2.length=.tup [.str "many",.int 0]:=by unfold dueD;rw[if_pos ⟨rfl,h6⟩]
    rw[e];refine⟨_,nn _ _,fun _=>rfl,er "TooMany" "" .non _ (by simp) (qA6 1) zI7 (if0 (by rw[hk0 _ rfl];rfl) (if0 (by rw[hk1 _ rfl];rfl) (c3 rfl rfl rfl (zOX N h6 _ _))))⟩
   ·by_cases y2:R2.length=1
    ·have c2:Ch1 ts n D:=⟨hD,hD3,o2.mp y2⟩
     have e:dueD 2 n R1.length R2.length=.non:=by unfold dueD;rw[if_neg (by omega),if_neg (by omega),if_neg (by omega)]
     rw[e];obtain⟨ps,hv,hl,hps⟩:=led N c1 c2;obtain⟨w,_,_,_,t⟩:=zRR N (by omega) c1 c2 hv hps (by omega);exact⟨_,fun _=>⟨_,rfl⟩,fun z=>absurd rfl z,ok _ (if0 (by rw[hk0 _ rfl];rfl) (if0 (by rw[hk1 _ rfl];rfl) (c3 rfl rfl rfl t)))⟩
    ·have e:dueD 2 n R1.length R2.length=.tup [.str "rounds",.int (R2.length:Int)]:=by unfold dueD;rw[if_neg (by omega),if_neg (by omega),if_pos ⟨rfl,by omega⟩]
     rw[e];exact⟨_,nn _ _,fun _=>rfl,er1 _ (if0 (by rw[hk0 _ rfl];rfl) (if0 (by rw[hk1 _ rfl];rfl) (c3 rfl rfl rfl (zUU N h1 h2 (by omega) y1 y2))))⟩
 ·by_cases h6:k=2/\6<n
  ·have e:dueD k n R1.length R2.length=.tup [.str "many",.int 0]:=by unfold dueD;rw[if_pos h6]
   rw[e];refine⟨_,nn _ _,fun _=>rfl,er "TooMany" "" .non _ (by simp) (qA6 1) zI7 (if0 (by rw[hk0 _ rfl,decide_eq_false (by omega)]) (if0 (by rw[hk1 _ rfl,decide_eq_false (by omega)]) (c3 rfl rfl rfl (zOX N h6.2 _ _))))⟩
  ·have e:dueD k n R1.length R2.length=.tup [.str "rounds",.int (R1.length:Int)]:=by unfold dueD;rw[if_neg h6,if_pos (by omega)]
   rw[e];refine⟨_,nn _ _,fun _=>rfl,er1 _ ?_⟩
   rcases k0 with rfl|rfl|rfl
   ·exact if1 (by rw[hk0 _ rfl];rfl) (c3 rfl rfl rfl (zP1 N h1 y1 q))
   ·exact if0 (by rw[hk0 _ rfl];rfl) (if1 (by rw[hk1 _ rfl];rfl) (c3 rfl rfl (el2 rfl rfl) (zOY N h1 y1 _)))
   ·exact if0 (by rw[hk0 _ rfl];rfl) (if0 (by rw[hk1 _ rfl];rfl) (c3 rfl rfl rfl (zUV N h1 (by omega) y1 _)))
end
section
abbrev s66(ns:List Int)(n:Nat)(T CC:Dt)(l1 l2 l3 l5 l7:Nat)(p:Nat)(o4:Option Sl)(K HH:Dt)(o8 o9 o10:Option Sl):Ro:=[some (.scr ns,0),some (.int (n:Int),l1),some (T,l2),some (CC,l3),o4,some (.int (p:Int),l5),some (K,0),some (HH,l7),o8,o9,o10]
noncomputable abbrev lp66:SM:=(sSeq (sSet 9 1 [8,2,3] (eCall zCR (aCons (eV 8) (aCons (eV 2) (aCons (eB ixD (eV 3) (eC (.int 0))) (aCons (eB ixD (eV 3) (eC (.int 1))) aNil))))))
 (sSeq (sSet 10 0 [8,5,2,7] (eCall zB4 (aCons (eV 8) (aCons (eBi listD (aCons (eV 2) aNil)) (aCons (eB ixD (eV 7) (eC (.int 0))) (aCons (eB ixD (eV 7) (eC (.int 1))) (aCons (eV 5) aNil)))))))
 (sIf (Mi.tOr (tAn (tB (eB isD (eV 9) (eC .non))) (tNo (tM (eIsi "list" (eV 10))))) (tAn (tB (eB isntD (eV 9) (eC .non))) (tB (eB neD (eV 10) (eV 9))))) (sRet 0 0 [] (eC (.bl false))) sNil)))
theorem c5{m:FM}{e1 e2 e3 e4 e5:EM}{ρ:Rh}{d1 d2 d3 d4 d5:Dt}{X:R Dt}(h1:e1 ρ=okR d1)(h2:e2 ρ=okR d2)(h3:e3 ρ=okR d3)(h4:e4 ρ=okR d4)(h5:e5 ρ=okR d5)(h:m [d1,d2,d3,d4,d5]=X):eCall m (aCons e1 (aCons e2 (aCons e3 (aCons e4 (aCons e5 aNil))))) ρ=X:=by
 simp only[zG4,zB8,zC8,h1,h2,h3,h4,h5,zA1];exact h
theorem zQX(k n a b:Nat):dueD k n a b=.non\/∃(x:Str)(i:Int),dueD k n a b=.tup [.str x,.int i]:=by
 unfold dueD
 split
 ·exact .inr ⟨_,_,rfl⟩
 ·split
  ·exact .inr ⟨_,_,rfl⟩
  ·split
   ·exact .inr ⟨_,_,rfl⟩
   ·exact .inl rfl
set_option maxHeartbeats 4000000 in
theorem zXF{ns:List Int}{ts C D:List Nat}{n:Nat}(N:NetO ts n)(hC:C.length=n)(hC3:∀c∈C,c<3)(hD:D.length=n)(hD3:∀c∈D,c<3){k p:Nat}(hk:k<3)(hp:p<n){l1 l2 l3 l5 l7:Nat}{o4 o9 o10:Option Sl}{K:Dt} :
  nxR (lp66 (s66 ns n (rowD (numL ts)) (rowsD [C,D]) l1 l2 l3 l5 l7 p o4 K (rowsD [C,D]) (some (.int (k:Int),0)) o9 o10)) fun r=>∃l2 l3 l5 l7 o8 o9 o10,r=s66 ns n (rowD (numL ts)) (rowsD [C,D]) l1 l2 l3 l5 l7 p o4 K (rowsD [C,D]) o8 o9 o10:=by
 obtain⟨R1,h1,o1⟩:=zO3 N.n1 (by have:=N.n8;omega) N.net N.ne hC hC3;obtain⟨R2,h2,o2⟩:=zO3 N.n1 (by have:=N.n8;omega) N.net N.ne hD hD3;obtain⟨d,q1,q2,hask⟩:=zWX N h1 h2 o1 o2 hC hC3 hD hD3 hk hp;have hdue:=zaV N h1 h2 k;obtain⟨U,hU⟩:∃U,dueD k n R1.length R2.length=U:=⟨_,rfl⟩
 have hUc:=zQX k n R1.length R2.length;rw[hU]at q1 q2 hdue hUc;have dU:U.dep<=1:=by
  rcases hUc with rfl|⟨x,i,rfl⟩
  ·exact qAk _
  ·exact qA6 1
 have dd:¬d.dep<=0:=by
  rcases hUc with e|⟨x,i,e⟩
  ·obtain⟨xs,rfl⟩:=q1 e;show ¬Dt.depL xs+1<=0;omega
  ·rw[q2 (by rw[e];intro z;cases z),e];show ¬1<=0;omega
 refine zAK (r:=s66 ns n (rowD (numL ts)) (rowsD [C,D]) l1 0 l3 0 0 p o4 K (rowsD [C,D]) (some (.int (k:Int),0)) (some (U,1)) (some (d,0))) ?_ ⟨_,_,_,_,_,_,_,rfl⟩;refine sg (c4 rfl rfl rfl rfl hdue) dU ?_;refine sgf (c5 rfl (bi1 rfl rfl) rfl rfl rfl hask) dd (c5 rfl (bi1 rfl rfl) rfl rfl rfl hask) ?_;refine sf ?_
 rcases hUc with e|⟨x,i,e⟩
 ·obtain⟨xs,rfl⟩:=q1 e;subst e;exact to0 (ta1 (tb1 (b2 rfl rfl rfl)) (tn1 (tm1 (k:=true) rfl))) (ta0 (tb1 (b2 rfl rfl rfl)))
 ·have hd:=q2 (by rw[e];intro z;cases z);subst hd;subst e;refine to0 (ta0 (tb1 (b2 rfl rfl rfl))) (ta1 (tb1 (b2 rfl rfl rfl)) (ned rfl rfl ?_ ?_ (b:=true) ?_ rfl))
  ·show 1<=40;omega
  ·show 1<=40;omega
  ·show(Dt.eq (.str x) (.str x)&&(Dt.eq (.int i) (.int i)&&true))=true
   simp[Dt.eq]
set_option maxHeartbeats 4000000 in
theorem zSO(ns:List Int)(hl:ns.length<=63)(hw:∀i∈ns,i.natAbs.log2<2 ^ 20):zKS [.scr ns]=okR (.bl true):=by
 obtain⟨c0,a0,b0,e0⟩:=zG1 ns 0 (by omega) (by omega);obtain⟨n,hn⟩:∃n:Nat,1+c0%8=(n:Int):=⟨(1+c0%8).toNat,by omega⟩
 have n1:1<=n:=by omega
 have n8:n<=8:=by omega
 obtain⟨g,hg⟩:∃g:Nat->Nat->Nat,∀k i,k<2->i<100->g k i<3/\∃c,zAI [.scr ns,.int (20+10*(k:Int)+(i:Int))]=okR (.int c)/\c%3=((g k i:Nat):Int):=by
  have h:∀k i:Nat,∃z:Nat,k<2->i<100->z<3/\∃c,zAI [.scr ns,.int (20+10*(k:Int)+(i:Int))]=okR (.int c)/\c%3=(z:Int):=fun k i=>by
   by_cases hi:k<2/\i<100
   ·obtain⟨c,a,b,e⟩:=zG1 ns (20+10*(k:Int)+(i:Int)) (by omega) (by omega);exact⟨(c%3).toNat,fun _ _=>⟨by omega,c,e,by omega⟩⟩
   ·exact⟨0,fun h1 h2=>absurd ⟨h1,h2⟩ hi⟩
  exact⟨fun k i=>qD6 (h k i),fun k i=>qCc (h k i)⟩
 obtain⟨cf,hcf⟩:∃cf:Nat->List Nat,∀k,cf k=(qAg n).map (g k):=⟨_,fun _=>rfl⟩
 have hcl:∀k,(cf k).length=n:=fun k=>by rw[hcf];simp
 have hc3:∀k,k<2->∀c∈cf k,c<3:=fun k hk c hc=>by
  rw[hcf]at hc;obtain⟨i,hi,rfl⟩:=qB6.mp hc;exact(hg k i hk (by have:=qBw.mp hi;omega)).1
 obtain⟨ms0,hM0,hany⟩:=zJU ns n n1 (by omega);obtain⟨ts0,e0',N0,ne0⟩:=zTN hM0;subst e0';have hR1:∀(ρ:Rh)(m:Nat)(e:EM),e ρ=okR (.int (m:Int))->m<=100->iR1 (aCons e aNil) ρ=okR (nums 0 m):=fun ρ m e h hm=>zIJ (n:=m) (al0 h) (by omega)
 have hchs:∀T:Dt,eComp (iR1 (aCons (eC (.int 2)) aNil)) 1 (.one 11) Mi.tYes (eComp (iR1 (aCons (eV 1) aNil)) 1 (.one 12) Mi.tYes (eB modD (eCall zAI (aCons (eV 0) (aCons (eB addD (eB addD (eC (.int 20)) (eB mulD (eC (.int 10)) (eV 11))) (eV 12)) aNil))) (eC (.int 3)))) [some (.scr ns),some (.int (n:Int)),some T,none,none,none,none,none,none,none,none]=okR (rowsD [cf 0,cf 1]):=fun T=>by
  refine zIE (fun k:Nat=>Dt.int (k:Int)) (fun k=>rowD (numL (cf k))) [0,1] rfl rfl (fun k hk=>?_) _ (hR1 _ 2 _ rfl (by omega)) (by simp);have hk2:k<2:=by simp at hk;omega
  have:=zNP (ρ:=[some (.scr ns),some (.int (n:Int)),some T,none,none,none,none,none,none,none,none]++[some (.int (k:Int))]) (e:=eB modD (eCall zAI (aCons (eV 0) (aCons (eB addD (eB addD (eC (.int 20)) (eB mulD (eC (.int 10)) (eV 11))) (eV 12)) aNil))) (eC (.int 3))) (it:=iR1 (aCons (eV 1) aNil)) (i:=12) (n:=n) (fun i=>((g k i:Nat):Int)) rfl (by omega) (hR1 _ n _ rfl (by omega)) fun i hi=>by
   obtain⟨_,c,q1,q2⟩:=hg k i hk2 (by omega);refine b2 (c2 rfl (b2 (b2 rfl (b2 rfl rfl (zKQ (by omega) (by omega))) rfl) rfl rfl) q1) rfl (mdi (by omega) q2)
  rw[this,hcf];unfold numL;rw[qB9];rfl
 have dep2:∀A B:List Nat,(rowsD [A,B]).dep<=2:=fun A B=>by
  show Dt.depL [rowD (numL A),rowD (numL B)]+1<=2;have h1:(rowD (numL A)).dep=1:=zAZ _;have h2:(rowD (numL B)).dep=1:=zAZ _;simp[Dt.depL,h1,h2]
 obtain⟨c5,_,_,e5⟩:=zG1 ns 50 (by omega) (by omega);obtain⟨c6,_,_,e6⟩:=zG1 ns 51 (by omega) (by omega);obtain⟨p,hp⟩:∃p:Nat,c6%(n:Int)=(p:Int):=⟨(c6%(n:Int)).toNat,by have:=qDg c6 (show(n:Int)≠0 by omega);omega⟩
 have pn:p<n:=by have:=qCu c6 (show(0:Int)<(n:Int) by omega);omega
 obtain⟨ts,C,D,l1,l2,l3,o4,NO,hC,hC3,hD,hD3,hrun⟩:∃(ts C D:List Nat)(l1 l2 l3:Nat)(o4:Option Sl),NetO ts n/\C.length=n/\(∀c∈C,c<3)/\D.length=n/\(∀c∈D,c<3)/\sIf (tB (eB eqD (eB modD (eB divD (eCall zAI (aCons (eV 0) (aCons (eC (.int 0)) aNil))) (eC (.int 8))) (eC (.int 2))) (eC (.int 1)))) (sSeq (sUnp [2,4] [0,1] (eCall zC6 (aCons (eV 0) (aCons (eV 1) aNil))))
   (sItemF 3 [4] (eB modD (eCall zAI (aCons (eV 0) (aCons (eC (.int 50)) aNil))) (eC (.int 2))) (eV 4))) sNil [some (.scr ns,0),some (.int (n:Int),1),some (rowD (numL ts0),1),some (rowsD [cf 0,cf 1],2),none,none,none,none,none,none,none]=okR (.nx [some (.scr ns,0),some (.int (n:Int),l1),some (rowD (numL ts),l2),some (rowsD [C,D],l3),o4,none,none,none,none,none,none]):=by
  have hcond:∀k,decide (c0/8%2=1)=k->tB (eB eqD (eB modD (eB divD (eCall zAI (aCons (eV 0) (aCons (eC (.int 0)) aNil))) (eC (.int 8))) (eC (.int 2))) (eC (.int 1))) (full [some (.scr ns,0),some (.int (n:Int),1),some (rowD (numL ts0),1),some (rowsD [cf 0,cf 1],2),none,none,none,none,none,none,none])=okR k:=fun k h=>eqi (b2 (b2 (c2 rfl rfl e0) rfl (dvi (by decide))) rfl (mdi (by omega) rfl)) rfl h
  by_cases hb:c0/8%2=1
  ·obtain⟨R,row,ts,hS,tw,hTi,hN,hne,_,hone⟩:=zPZ ns n n1 n8;obtain⟨w1,w2,_⟩:=zRH hS tw hN n1 hTi;obtain⟨W,hW⟩:∃W,R.map wyOf=W:=⟨_,rfl⟩
   rw[hW]at w1 w2 hone;have z2:c5%2=0\/c5%2=1:=by omega
   have item:∀(z:Nat)(CC:List (List Nat)),c5%2=(z:Int)->z<2->(([rowD (numL (cf 0)),rowD (numL (cf 1))].set z (rowD (numL W)))=CC.map fun l=>rowD (numL l))->sItemF 3 [4] (eB modD (eCall zAI (aCons (eV 0) (aCons (eC (.int 50)) aNil))) (eC (.int 2))) (eV 4) [some (.scr ns,0),some (.int (n:Int),0),some (rowD (numL ts),0),some (rowsD [cf 0,cf 1],2),some (rowD (numL W),0),none,none,none,none,none,none]=okR (.nx [some (.scr ns,0),some (.int (n:Int),0),some (rowD (numL ts),0),some (rowsD CC,1),some (rowD (numL W),0),none,none,none,none,none,none]):=fun z CC hz hz2 hs=>by
    unfold sItemF;show zA4 (okR (rowD (numL W))) _=_;rw[zA1];show zA4 (eB modD (eCall zAI (aCons (eV 0) (aCons (eC (.int 50)) aNil))) (eC (.int 2)) [some (.scr ns),some (.int (n:Int)),some (rowD (numL ts)),some (rowsD [cf 0,cf 1]),some (rowD (numL W)),none,none,none,none,none,none]) _=_;rw[b2 (c2 rfl rfl e5) rfl (mdi (by omega) hz),zA1]
    show(match ixA 2 (z:Int)with
     |some q=>okR (Out.nx (_:Ro))
     |none=>none)=_
    have:ixA 2 (z:Int)=some z:=by unfold ixA;rw[if_pos (by omega),if_pos (by omega)];simp
    rw[this];show okR (Out.nx [some (.scr ns,0),some (.int (n:Int),0),some (rowD (numL ts),0),some (.lst ([rowD (numL (cf 0)),rowD (numL (cf 1))].set z (rowD (numL W))),1),some (rowD (numL W),0),none,none,none,none,none,none])=_;rw[hs];rfl
   rcases z2 with hz|hz
   ·refine⟨ts,W,cf 1,0,0,1,some (rowD (numL W),0),⟨n1,n8,hN,hne⟩,w1,w2,hcl 1,hc3 1 (by omega),?_⟩;refine sk (hcond true (decide_eq_true hb)) (su (c2 rfl rfl hone) rfl ?_);exact item 0 [W,cf 1] hz (by omega) rfl
   ·refine⟨ts,cf 0,W,0,0,1,some (rowD (numL W),0),⟨n1,n8,hN,hne⟩,hcl 0,hc3 0 (by omega),w1,w2,?_⟩;refine sk (hcond true (decide_eq_true hb)) (su (c2 rfl rfl hone) rfl ?_);exact item 1 [cf 0,W] hz (by omega) rfl
  ·exact⟨ts0,cf 0,cf 1,1,1,2,none,⟨n1,n8,N0,ne0⟩,hcl 0,hc3 0 (by omega),hcl 1,hc3 1 (by omega),sf (hcond false (decide_eq_false hb))⟩
 obtain⟨R1,h1,_⟩:=zO3 n1 (by omega) NO.net NO.ne hC hC3;obtain⟨R2,h2,_⟩:=zO3 n1 (by omega) NO.net NO.ne hD hD3;have le1:=zFJ R1 (by have:=h1.le;omega);have le2:=zFJ R2 (by have:=h2.le;omega);have nd:Dt.dep (.int (n:Int))<=1:=qAk _;refine zBE rfl (sg (d:=.int (n:Int)) (b2 rfl (b2 (c2 rfl rfl e0) rfl (mdi (by omega) rfl)) (adi hn)) nd ?_);refine sg (c3 rfl rfl rfl hany) (by rw[zAZ];exact qA6 1) ?_;refine sg (hchs _) (dep2 _ _) ?_;refine sw hrun ?_;refine sg (b2 (c2 rfl rfl e6) rfl (mdi (by omega) hp)) (qAk _) ?_;refine sg (el2 rfl rfl) (qA6 1) ?_;obtain⟨ks,hks,hrk⟩:∃ks:List Nat,(∀k∈ks,k<3)/\sIf (Mi.tOr (tB (eB neD (eV 1) (eC (.int 6)))) (tB (eB (cmpD fun i j=>decide (j<i)) (eB addD (eBi lenD (aCons (eCall zAP (aCons (eV 2) (aCons (eB ixD (eV 3) (eC (.int 0))) aNil))) aNil)) (eBi lenD (aCons (eCall zAP (aCons (eV 2) (aCons (eB ixD (eV 3) (eC (.int 1))) aNil))) aNil))) (eC (.int 2))))) (sSet 6 1 [] (eLst (aCons (eC (.int 0)) (aCons (eC (.int 1)) (aCons (eC (.int 2)) aNil))))) sNil [some (.scr ns,0),some (.int (n:Int),l1),some (rowD (numL ts),l2),some (rowsD [C,D],l3),o4,some (.int (p:Int),0),some (.lst [.int 0,.int 1],1),none,none,none,none]=okR (.nx [some (.scr ns,0),some (.int (n:Int),l1),some (rowD (numL ts),l2),some (rowsD [C,D],l3),o4,some (.int (p:Int),0),some (.lst (ks.map fun k:Nat=>.int (k:Int)),1),none,none,none,none]):=by
  have el3:∀ρ:Rh,eLst (aCons (eC (.int 0)) (aCons (eC (.int 1)) (aCons (eC (.int 2)) aNil))) ρ=okR (.lst [.int 0,.int 1,.int 2]):=fun ρ=>by simp
  have hc:∀ρ:Rh,ρ[1]?=some (some (.int (n:Int)))->ρ[2]?=some (some (rowD (numL ts)))->ρ[3]?=some (some (rowsD [C,D]))->∃k,Mi.tOr (tB (eB neD (eV 1) (eC (.int 6)))) (tB (eB (cmpD fun i j=>decide (j<i)) (eB addD (eBi lenD (aCons (eCall zAP (aCons (eV 2) (aCons (eB ixD (eV 3) (eC (.int 0))) aNil))) aNil)) (eBi lenD (aCons (eCall zAP (aCons (eV 2) (aCons (eB ixD (eV 3) (eC (.int 1))) aNil))) aNil))) (eC (.int 2)))) ρ=okR k:=fun ρ r1 r2 r3=>by
   by_cases z:(n:Int)=6
   ·exact⟨_,to0 (nei (v1 r1) rfl (by rw[decide_eq_true z];rfl)) (tb1 (b2 (b2 (bi1 (c2 (v1 r2) (b2 (v1 r3) rfl rfl) h1.law) le1) (bi1 (c2 (v1 r2) (b2 (v1 r3) rfl rfl) h2.law) le2) rfl) rfl rfl))⟩
   ·exact⟨true,to1 (nei (v1 r1) rfl (by rw[decide_eq_false z];rfl))⟩
  obtain⟨k,hk⟩:=hc (full [some (.scr ns,0),some (.int (n:Int),l1),some (rowD (numL ts),l2),some (rowsD [C,D],l3),o4,some (.int (p:Int),0),some (.lst [.int 0,.int 1],1),none,none,none,none]) rfl rfl rfl;cases k with
  |true=>exact⟨[0,1,2],by simp,sk hk (ss (el3 _) (qA6 1))⟩
  |false=>exact⟨[0,1],by simp,sf hk⟩
 refine sw hrk ?_;refine sg (d:=rowsD [C,D]) (el2 (bi1 rfl rfl) (bi1 rfl rfl)) (dep2 _ _) ?_;have loop:nxR (sFor [6] (iSq (eV 6)) (.one 8) lp66 (s66 ns n (rowD (numL ts)) (rowsD [C,D]) l1 l2 l3 0 2 p o4 (.lst (ks.map fun k:Nat=>.int (k:Int))) (rowsD [C,D]) none none none |>.set 6 (some (.lst (ks.map fun k:Nat=>.int (k:Int)),1)))) fun r=>∃l2 l3 l5 l7 o8 o9 o10,r=s66 ns n (rowD (numL ts)) (rowsD [C,D]) l1 l2 l3 l5 l7 p o4 (.lst (ks.map fun k:Nat=>.int (k:Int))) (rowsD [C,D]) o8 o9 o10:=by
  show nxR (forGo (.one 8) lp66 (ks.map fun k:Nat=>Dt.int (k:Int)) (s66 ns n (rowD (numL ts)) (rowsD [C,D]) l1 l2 l3 0 2 p o4 (.lst (ks.map fun k:Nat=>.int (k:Int))) (rowsD [C,D]) none none none)) _;refine zF7 (fun k:Nat=>Dt.int (k:Int)) ks (fun _ r=>∃l2 l3 l5 l7 o8 o9 o10,r=s66 ns n (rowD (numL ts)) (rowsD [C,D]) l1 l2 l3 l5 l7 p o4 (.lst (ks.map fun k:Nat=>.int (k:Int))) (rowsD [C,D]) o8 o9 o10) ⟨_,_,_,_,_,_,_,rfl⟩ (fun j k hj r hr=>?_) fun r hr=>hr
  obtain⟨l2,l3,l5,l7,o8,o9,o10,rfl⟩:=hr;exact zXF NO hC hC3 hD hD3 (hks k (qB5 hj)) pn
 obtain⟨r,hr,m2,m3,m5,m7,o8,o9,o10,rfl⟩:=zCI loop;refine sw hr ?_;have he:Dt.eq (rowsD [C,D]) (rowsD [C,D])=true:=by
  have h1:Dt.eq (rowD (numL C)) (rowD (numL C))=true:=by rw[zQV];simp
  have h2:Dt.eq (rowD (numL D)) (rowD (numL D))=true:=by rw[zQV];simp
  show(Dt.eq (rowD (numL C)) (rowD (numL C))&&(Dt.eq (rowD (numL D)) (rowD (numL D))&&Dt.eqL [] []))=true
  rw[h1,h2];rfl
 refine sr (d:=.bl true) (b2 rfl rfl ?_) ⟨qAk _,qAk _⟩;unfold eqD;rw[if_pos ⟨qAl (dep2 _ _) (by omega),qAl (dep2 _ _) (by omega)⟩,he]
end
end Mp
set_option maxHeartbeats 4000000
namespace Q66
open PySem PyProof.Rows
open L2 hiding Rep RepL
open L3
open Mp
noncomputable def top(i:Nat):Stmt:=qDo.main.body.getD i (.Pass ⟨0,0,0,0⟩)
theorem S__law_cell:FnScope ["_law_script","_law_k","_law_cell_here"] ["_law_script","_law_k"] (zA9 (top 25)):=fsc
theorem S__law_any_net:FnScope ["_law_script","_law_at","_law_n","_law_left","_law_net","_law_number","_law_k","_law_one_here","_law_other"] ["_law_script","_law_at","_law_n"] (zA9 (top 30)):=fsc
theorem zGM:FnScope ["_law_e"] ["_law_e"] (zA9 (top 35)):=fsc
theorem zTJ:FnScope ["way","seat"] ["way","seat"] (zA9 (top 7)):=fsc
theorem S_joined_end:FnScope ["choice","end","place"] ["choice","end"] (zA9 (top 17)):=fsc
theorem S_round_of:FnScope ["net","choice","end","ends","come"] ["net","choice","end"] (zA9 (top 13)):=fsc
theorem S_rounds_of:FnScope ["net","choice","rounds","passed","end","ends"] ["net","choice"] (zA9 (top 14)):=fsc
theorem zJV:FnScope ["net","choice"] ["net","choice"] (zA9 (top 15)):=fsc
theorem S_refuse_many:FnScope ["net","choice","many"] ["net","choice"] (zA9 (top 16)):=fsc
theorem S_changed_at:FnScope ["choice","place","way","changed"] ["choice","place","way"] (zA9 (top 8)):=fsc
theorem S_turned:FnScope ["net","choice","place","others"] ["net","choice","place"] (zA9 (top 22)):=fsc
theorem zHV:FnScope ["net","choice","place"] ["net","choice","place"] (zA9 (top 19)):=fsc
theorem S_walked:FnScope ["net","choice","places","choices","place"] ["net","choice","places"] (zA9 (top 21)):=fsc
theorem S_next_edge:FnScope ["net","edge","ways","beyond","choice","place","come"] ["net","edge","ways"] (zA9 (top 23)):=fsc
theorem zML:FnScope ["net"] ["net"] (zA9 (top 11)):=fsc
theorem S_way_between:FnScope ["net","one","other","ways","edge"] ["net","one","other"] (zA9 (top 20)):=fsc
theorem S__law_asked:FnScope ["_law_kind","_law_net","_law_one_here","_law_other","_law_place","_law_found","_law_e"] ["_law_kind","_law_net","_law_one_here","_law_other","_law_place"] (zA9 (top 36)):=fsc
theorem S__law_joined:FnScope ["_law_choice","_law_end","_law_seats_here"] ["_law_choice","_law_end"] (zA9 (top 31)):=fsc
theorem S__law_round:FnScope ["_law_net","_law_choice","_law_end","_law_found","_law_here"] ["_law_net","_law_choice","_law_end"] (zA9 (top 32)):=fsc
theorem S__law_rounds:FnScope ["_law_net","_law_choice","_law_met","_law_found","_law_end","_law_ends","_law_one_here"] ["_law_net","_law_choice"] (zA9 (top 33)):=fsc
theorem S__law_due:FnScope ["_law_kind","_law_net","_law_one_here","_law_other","_law_some","_law_choice","_law_many"] ["_law_kind","_law_net","_law_one_here","_law_other"] (zA9 (top 37)):=fsc
theorem S__law_built:FnScope ["_law_row_here","_law_seats_here","_law_net","_law_ins","_law_stood","_law_place","_law_k","_law_at","_law_there","_law_to","_law_out","_law_into"] ["_law_row_here","_law_seats_here"] (zA9 (top 28)):=fsc
theorem S__law_row:FnScope ["_law_script","_law_at","_law_n","_law_left","_law_number","_law_row_here","_law_k"] ["_law_script","_law_at","_law_n"] (zA9 (top 26)):=fsc
theorem S__law_seats:FnScope ["_law_cell_here","_law_n","_law_seats_here","_law_place","_law_left","_law_here","_law_some","_law_many"] ["_law_cell_here","_law_n"] (zA9 (top 27)):=fsc
theorem S__law_ways:FnScope ["_law_seats_here","_law_found","_law_some","_law_pair"] ["_law_seats_here"] (zA9 (top 29)):=fsc
theorem S__law_one:FnScope ["_law_script","_law_n","_law_row_here","_law_seats_here"] ["_law_script","_law_n"] (zA9 (top 34)):=fsc
theorem S_law:FnScope ["_law_script","_law_n","_law_net","_law_choices","_law_along","_law_place","_law_kinds_here","_law_handed","_law_kind","_law_due_here","_law_found"] ["_law_script"] (zA9 (top 38)):=fsc
section
variable{P:qH9}{w:World}{K:qA1}{mg:Str->Option Value}{base:Heap}
abbrev zEH:Stmt:=zaR (top 2)
theorem zTI:FnScope ["self","many"] ["self","many"] (zA9 zEH):=⟨rfl,rfl,rfl,by decide +kernel,rfl,by decide +kernel,by decide +kernel⟩
theorem zIY{f:Addr}{fd:qHo}(F:Fun K "__init__" "NoOne.__init__" zEH f fd){B:Addr}(hB:XBase K B)(hm:mg "RoundError" = some (.ref B)):FnOk P w K mg base (CXe P w) 1 f fd ["self","many"] (zGZ K "many"):=by
 refine F.okX (k:=0) zTI (zSV rfl) (fun cdv A outer s H vs Q E hr h=>?_);exact⟨_,zA5 (zBH (zSI hB rfl hm (zA0 (pv 0) (zA0 (pv 1) zA3)))) (zAG (zSA (pv 0) (pv 1) rfl)),zSU h⟩
structure Bd(K:qA1)(mg:Str->Option Value):Prop where
 d0:Def K mg "_law_cell" (top 25)
 d1:Def K mg "_law_any_net" (top 30)
 d2:Def K mg "_law_kinds" (top 35)
 d3:Def K mg "joined" (top 7)
 d4:Def K mg "joined_end" (top 17)
 d5:Def K mg "round_of" (top 13)
 d6:Def K mg "rounds_of" (top 14)
 d7:Def K mg "many_rounds" (top 15)
 d8:Def K mg "refuse_many" (top 16)
 d9:Def K mg "changed_at" (top 8)
 d10:Def K mg "turned" (top 22)
 d11:Def K mg "turned_choice" (top 19)
 d12:Def K mg "walked" (top 21)
 d13:Def K mg "next_edge" (top 23)
 d14:Def K mg "places_in" (top 11)
 d15:Def K mg "way_between" (top 20)
 d16:Def K mg "_law_asked" (top 36)
 d17:Def K mg "_law_joined" (top 31)
 d18:Def K mg "_law_round" (top 32)
 d19:Def K mg "_law_rounds" (top 33)
 d20:Def K mg "_law_due" (top 37)
 d21:Def K mg "_law_built" (top 28)
 d22:Def K mg "_law_row" (top 26)
 d23:Def K mg "_law_seats" (top 27)
 d24:Def K mg "_law_ways" (top 29)
 d25:Def K mg "_law_one" (top 34)
 e0:mg "ValueError" = none
 e1:mg "bool" = none
 e2:mg "int" = none
 e3:mg "isinstance" = none
 e4:mg "len" = none
 e5:mg "list" = none
 e6:mg "range" = none
 e7:mg "sorted" = none
 e8:mg "tuple" = none
structure Bn(P:qH9)(w:World)(K:qA1)(mg:Str->Option Value)(base:Heap):Type where
 S:Bd K mg
 a_NoOne:Addr
 a_TooMany:Addr
 u_SEATS:Value
 u_ALL_WAYS:Addr
 u_MOST_CHOSEN:Value
 a_RoundError:Addr
 n_NoOne:XCls K mg "NoOne" a_NoOne
 n_TooMany:XCls K mg "TooMany" a_TooMany
 q0:(∀c∈(["NoOne"]:List Str),∃C,clK K c=some C/\Xc.XIs K C/\qAi K (.ref C) "many" = some none)
 q1:(∀c∈(["NoOne"]:List Str),∃C,clK K c=some C/\Xc.XIs K C/\kitV K C (V.ref a_NoOne)=some true)/\(∀c∈(["RoundError","TooMany"]:List Str),∃C,clK K c=some C/\Xc.XIs K C/\kitV K C (V.ref a_NoOne)=some false)
 q2:(∀c∈(["TooMany"]:List Str),∃C,clK K c=some C/\Xc.XIs K C/\kitV K C (V.ref a_TooMany)=some true)/\(∀c∈(["RoundError","NoOne"]:List Str),∃C,clK K c=some C/\Xc.XIs K C/\kitV K C (V.ref a_TooMany)=some false)
 q3:(∀c∈(["RoundError","NoOne","TooMany"]:List Str),∃C,clK K c=some C/\Xc.XIs K C/\kitV K C (V.ty "ValueError")=some true)/\(∀c∈([]:List Str),∃C,clK K c=some C/\Xc.XIs K C/\kitV K C (V.ty "ValueError")=some false)
 c_SEATS:RelV (V.int 4) u_SEATS/\mg "SEATS" = some u_SEATS
 x_NoOne:XIni P w K mg base "NoOne" "many" a_NoOne
 c_ALL_WAYS:KTup K u_ALL_WAYS [0,1,2]/\mg "ALL_WAYS" = some (.ref u_ALL_WAYS)
 c_MOST_CHOSEN:RelV (V.int 6) u_MOST_CHOSEN/\mg "MOST_CHOSEN" = some u_MOST_CHOSEN
 z_TooMany:XNo K mg "TooMany" a_TooMany
 n_RoundError:XCls K mg "RoundError" a_RoundError
 q4:(∀c∈(["RoundError","NoOne","TooMany"]:List Str),∃C,clK K c=some C/\qCl K (.ref C) (.ref a_RoundError)=some true)
variable(B:Bn P w K mg base)
include B
theorem zB2:Has P w K mg base "_law_cell" 1 ["_law_script","_law_k"] (sp0 K mg 0 zAI):=by
 letI:Kc:=⟨K⟩
 exact dfM B.S.d0 S__law_cell (fun _ _ _ _ _ _=>uw2 fun _ _=>rfl) fun hr hu h=>⟨_,(zA5 (pst 2 S__law_cell.nd (zAO zCM zAB (zAO zDA (pn 1) zAB)))
   (zA5 (zDL (zDB u_lt (pn 1) (zAN (zD6 (K:=K)) rfl B.S.e4 qI3 (zA0 (pn 0) zA3)) (zBX _)) (zAG (pst 2 S__law_cell.nd (zAO zDA (pn 2) (zBM (zBK (K:=K)) (pn 0) (pn 1) (fun _ _=>rfl))))) zBD)
   (zAG (zAX (zAO zDJ (zAO zCM (zAO zDJ (zAO zCM (zAO zDJ (pn 2) zAB) zAB) zAB) zAB) zAB))))),(zBB (zAC (zAL (n:=0) [1] (zAH zCN (dz zA7) (zAH zBU (de_v 1) (dz zA7))))
   (zAC (zDG (dt_b (dz (zAH zK9 (de_v 1) (dz (zCB zD8 (zA2 (de_v 0) zA6)))))) (zAL (n:=1) [2,0,1] (zAH zBU (de_v 2) (zAH zBR (de_v 0) (de_v 1)))) zC7)
   (zBY (n:=0) [2] (zAH zC3 (dz (zAH zCN (dz (zAH zC3 (dz (zAH zCN (dz (zAH zC3 (de_v 2) (dz zA7))) (dz zA7))) (dz zA7))) (dz zA7))) (dz zA7))))) h)⟩
theorem zH8:Has P w K mg base "_law_any_net" 2 ["_law_script","_law_at","_law_n"] (sp0 K mg 1 zDD):=by
 letI:Kc:=⟨K⟩
 exact dfM B.S.d1 S__law_any_net (fun _ _ _ _ _ _=>uw3 fun _ _ _=>rfl) fun hr hu h=>⟨_,(zA5 (pst 3 S__law_any_net.nd (zBC (zGB (K:=K) rfl) rfl B.S.e5 qJ8 (zA0 (zBC zW7 rfl B.S.e6 boot_range (zA0 (zAO zCM zAB (pn 2)) zA3)) zA3)))
   (zA5 (pst 4 S__law_any_net.nd (zAO zXD (zB9 (zA0 zAB zA3)) (zAO zCM zAB (pn 2))))
   (zA5 (pst 5 S__law_any_net.nd (zAO zDJ (zBJ (zB2 B) (by decide) hr rfl (zA0 (pn 0) (zA0 (pn 1) zA3))) zAB))
   (zA5 (zC1 qHg rfl (zBW rfl B.S.e6 (zA0 (zAO zCM zAB (pn 2)) zA3)) (zB6 (i:=6) S__law_any_net.nd rfl oi) (zA5 (pst 5 S__law_any_net.nd (zAO zDJ (zAO zDA (zAO zCM (pn 5) zAB) (zBJ (zB2 B) (by decide) hr rfl (zA0 (pn 0) (zA0 (zAO zDA (zAO zDA (pn 1) zAB) (pn 6)) zA3)))) zAB))
   (zA5 (pst 7 S__law_any_net.nd (zEQ qAh qCd qCe zJ6 (pn 3) (zA0 zAB zA3)))
   (zA5 (pst 8 S__law_any_net.nd (zEQ qAh qCd qCe zJ6 (pn 3) (zA0 (zAO zDJ (zAO zFH (pn 5) zAB) (zAN (zD6 (K:=K)) rfl B.S.e4 qI3 (zA0 (pn 3) zA3))) zA3)))
   (zA5 (zFP (pn 8) (zI3 (pn 4) (pn 7) zNU))
   (zAG (zFP (pn 7) (zI3 (pn 4) (pn 8) zNU))))))))
   (zAG (zAX (pn 4))))))),(zBB (zAC (zAL (n:=1) [2] (zLB (zA2 (zAH zCN (dz zA7) (de_v 2)) zA6)))
   (zAC (zAL (n:=1) [2] (zAH zTW (zBA (n:=0) (zA2 zA7 zA6)) (dz (zAH zCN (dz zA7) (de_v 2)))))
   (zAC (zAL (n:=0) [0,1] (zAH zC3 (zAQ (zA2 (de_v 0) (zA2 (de_v 1) zA6))) (dz zA7)))
   (zAC (zFA (zHZ (zA2 (zAH zCN (dz zA7) (de_v 2)) zA6)) (zAC (zAL (n:=0) [5,0,6,1] (zAH zC3 (zAH zBU (dz (zAH zCN (de_v 5) (dz zA7))) (zAQ (zA2 (de_v 0) (zA2 (zAM (zAH zBU (zAH zBU (de_v 1) (dz zA7)) (de_v 6))) zA6)))) (dz zA7)))
   (zAC (zUH 7 3 (dz zA7))
   (zAC (zUH 8 3 (dz (zAH zC3 (dz (zAH zFK (de_v 5) (dz zA7))) (dz (zCB zD8 (zA2 (de_v 3) zA6))))))
   (zAC (zHM 4 (n:=0) (de_v 7) (de_v 8))
   (zHM 4 (n:=0) (de_v 8) (de_v 7)))))))
   (zCK 4))))) h)⟩
theorem ok__law_kinds:Has P w K mg base "_law_kinds" 1 ["_law_e"] (sp0 K mg 1 zAR):=by
 letI:Kc:=⟨K⟩
 exact dfM B.S.d2 zGM (fun _ _ _ _ _ _=>uw1 fun _=>rfl) fun hr hu h=>⟨_,(zA5 (zDL (pt_w (zPM (zKB (pt_m (zAN zBZ rfl B.S.e3 qHh (zA0 (pn 0) (zA0 (zF5 (v:=.ty "ValueError") rfl B.S.e0 zEC rfl) zA3))))) (zKA (pt_w (zFN (pt_m (zAN zBZ rfl B.S.e3 qHh (zA0 (pn 0) (zA0 (zGI rfl B.n_TooMany.gm) zA3)))) (zF4 (pt_m (zAN zBZ rfl B.S.e3 qHh (zA0 (pn 0) (zA0 (zGI rfl B.n_NoOne.gm) zA3)))))))))) (zAG (zAX (zCY (zA0 zE5 (zA0 zAB zA3))))) zBD)
   (zA5 (zDL (pt_m (zAN zBZ rfl B.S.e3 qHh (zA0 (pn 0) (zA0 (zGI rfl B.n_TooMany.gm) zA3)))) (zAG (zAX (zCY (zA0 zE5 (zA0 zAB zA3))))) zBD)
   (zA5 (zDL (pt_w (zFN (pt_m (zAN zBZ rfl B.S.e3 qHh (zA0 (pn 0) (zA0 (zGI rfl B.n_NoOne.gm) zA3)))) (zFN (pt_m (zAN zCF rfl B.S.e3 qHh (zA0 (zEJ (pn 0) rfl) (zA0 (zF5 (v:=.ty "int") rfl B.S.e2 boot_int rfl) zA3)))) (zF4 (zKB (pt_m (zAN zCF rfl B.S.e3 qHh (zA0 (zEJ (pn 0) rfl) (zA0 (zF5 (v:=.ty "bool") rfl B.S.e1 boot_bool rfl) zA3))))))))) (zAG (zAX (zCY (zA0 zE5 (zA0 (zEJ (pn 0) rfl) zA3))))) zBD)
   (zAG (zAX (zCY (zA0 zE5 (zA0 zAB zA3)))))))),(zBB (zAC (zDG (zQY (zL8 (dt_m (zEY B.q3.1 B.q3.2 (de_v 0)))) (zFY (dt_m (zEY B.q2.1 B.q2.2 (de_v 0))) (dt_m (zEY B.q1.1 B.q1.2 (de_v 0))))) (zBY (n:=1) [] (zCG (n:=0) (zA2 zEB (zA2 zA7 zA6)))) zC7)
   (zAC (zDG (dt_m (zEY B.q2.1 B.q2.2 (de_v 0))) (zBY (n:=1) [] (zCG (n:=0) (zA2 zEB (zA2 zA7 zA6)))) zC7)
   (zAC (zDG (zFY (dt_m (zEY B.q1.1 B.q1.2 (de_v 0))) (zFY (dt_m (dz (zLC (by decide) (zIC B.q0 (de_v 0))))) (zL8 (dt_m (dz (zLC (by decide) (zIC B.q0 (de_v 0)))))))) (zBY (n:=1) [0] (zCG (n:=0) (zA2 zEB (zA2 (zIC B.q0 (de_v 0)) zA6)))) zC7)
   (zBY (n:=1) [] (zCG (n:=0) (zA2 zEB (zA2 zA7 zA6))))))) h)⟩
theorem zHY:HasH P w K mg base "_law_kinds" 1 ["_law_e"] (sp0 K mg 1 zAR):=by
 letI:Kc:=⟨K⟩
 refine B.S.d2.okH zGM (fun _ _ _ _ _ _=>uw1 fun _=>rfl) (fun vs H Q E h=>zIN h) (fun f cdv A outer s H vs Q E hr h=>?_);have hu:=hr.units;exact⟨_,(zA5 (zDL (pt_w (zPM (zKB (pt_m (zAN zBZ rfl B.S.e3 qHh (zA0 (pn 0) (zA0 (zF5 (v:=.ty "ValueError") rfl B.S.e0 zEC rfl) zA3))))) (zKA (pt_w (zFN (pt_m (zAN zBZ rfl B.S.e3 qHh (zA0 (pn 0) (zA0 (zGI rfl B.n_TooMany.gm) zA3)))) (zF4 (pt_m (zAN zBZ rfl B.S.e3 qHh (zA0 (pn 0) (zA0 (zGI rfl B.n_NoOne.gm) zA3)))))))))) (zAG (zAX (zCY (zA0 zE5 (zA0 zAB zA3))))) zBD)
   (zA5 (zDL (pt_m (zAN zBZ rfl B.S.e3 qHh (zA0 (pn 0) (zA0 (zGI rfl B.n_TooMany.gm) zA3)))) (zAG (zAX (zCY (zA0 zE5 (zA0 zAB zA3))))) zBD)
   (zA5 (zDL (pt_w (zFN (pt_m (zAN zBZ rfl B.S.e3 qHh (zA0 (pn 0) (zA0 (zGI rfl B.n_NoOne.gm) zA3)))) (zFN (pt_m (zAN zCF rfl B.S.e3 qHh (zA0 (zEJ (pn 0) rfl) (zA0 (zF5 (v:=.ty "int") rfl B.S.e2 boot_int rfl) zA3)))) (zF4 (zKB (pt_m (zAN zCF rfl B.S.e3 qHh (zA0 (zEJ (pn 0) rfl) (zA0 (zF5 (v:=.ty "bool") rfl B.S.e1 boot_bool rfl) zA3))))))))) (zAG (zAX (zCY (zA0 zE5 (zA0 (zEJ (pn 0) rfl) zA3))))) zBD)
   (zAG (zAX (zCY (zA0 zE5 (zA0 zAB zA3)))))))),zBB (zAC (zDG (zQY (zL8 (dt_m (zEY B.q3.1 B.q3.2 (de_v 0)))) (zFY (dt_m (zEY B.q2.1 B.q2.2 (de_v 0))) (dt_m (zEY B.q1.1 B.q1.2 (de_v 0))))) (zBY (n:=1) [] (zCG (n:=0) (zA2 zEB (zA2 zA7 zA6)))) zC7)
   (zAC (zDG (dt_m (zEY B.q2.1 B.q2.2 (de_v 0))) (zBY (n:=1) [] (zCG (n:=0) (zA2 zEB (zA2 zA7 zA6)))) zC7)
   (zAC (zDG (zFY (dt_m (zEY B.q1.1 B.q1.2 (de_v 0))) (zFY (dt_m (dz (zLC (by decide) (zIC B.q0 (de_v 0))))) (zL8 (dt_m (dz (zLC (by decide) (zIC B.q0 (de_v 0)))))))) (zBY (n:=1) [0] (zCG (n:=0) (zA2 zEB (zA2 (zIC B.q0 (de_v 0)) zA6)))) zC7)
   (zBY (n:=1) [] (zCG (n:=0) (zA2 zEB (zA2 zA7 zA6))))))) h⟩
theorem zQ2:Has P w K mg base "joined" 1 ["way","seat"] (sp0 K mg 0 zJA):=by
 letI:Kc:=⟨K⟩
 exact dfM B.S.d3 zTJ (fun _ _ _ _ _ _=>uw2 fun _ _=>rfl) fun hr hu h=>⟨_,(zAG (zAX (zAO za3 (pn 1) (zAO zDA (pn 0) zAB)))),(zBB (zBY (n:=0) [1,0] (zAH zXT (de_v 1) (zAH zBU (de_v 0) (dz zA7)))) h)⟩
theorem zFS:Has P w K mg base "joined_end" 2 ["choice","end"] (sp0 K mg 1 zBO):=by
 letI:Kc:=⟨K⟩
 exact dfM B.S.d4 S_joined_end (fun _ _ _ _ _ _=>uw2 fun _ _=>rfl) fun hr hu h=>⟨_,(zA5 (pst 2 S_joined_end.nd (zAO zFH (pn 1) (zGA rfl B.c_SEATS.2 B.c_SEATS.1)))
   (zAG (zAX (zAO zDA (zAO zCM (pn 2) (zGA rfl B.c_SEATS.2 B.c_SEATS.1)) (zBJ (zQ2 B) (by decide) hr rfl (zA0 (zBM (zBK (K:=K)) (pn 0) (pn 2) (fun _ _=>rfl)) (zA0 (zAO zDJ (pn 1) (zGA rfl B.c_SEATS.2 B.c_SEATS.1)) zA3))))))),(zBB (zAC (zAL (n:=0) [1] (zAH zFK (de_v 1) (dz zA7)))
   (zBY (n:=1) [2,0,1] (zAH zBU (dz (zAH zCN (de_v 2) (dz zA7))) (zAQ (zA2 (zAH zBR (de_v 0) (de_v 2)) (zA2 (zAH zC3 (de_v 1) (dz zA7)) zA6)))))) h)⟩
theorem zLX:Has P w K mg base "round_of" 3 ["net","choice","end"] (sp0 K mg 1 zDF):=by
 letI:Kc:=⟨K⟩
 exact dfM B.S.d5 S_round_of (fun _ _ _ _ _ _=>uw3 fun _ _ _=>rfl) fun hr hu h=>⟨_,(zA5 (pst 3 S_round_of.nd (zB9 (zA0 (pn 2) (zA0 (zBJ (zFS B) (by decide) hr rfl (zA0 (pn 1) (zA0 (pn 2) zA3))) zA3))))
   (zA5 (zIV qHg (zDB (u_ne hu) (zBM (zBK (K:=K)) (pn 0) (zBM (zBK (K:=K)) (pn 3) (zSD zRW zAB) (fun _ _=>rfl)) (fun _ _=>rfl)) (pn 2) (zBX _)) (zA5 (pst 4 S_round_of.nd (zBM (zBK (K:=K)) (pn 0) (zBM (zBK (K:=K)) (pn 3) (zSD zRW zAB) (fun _ _=>rfl)) (fun _ _=>rfl)))
   (zAG (zBH (zEQ qAh PySem.F.slot_list_extend PySem.F.type_list_extend zW2 (pn 3) (zA0 (zB9 (zA0 (pn 4) (zA0 (zBJ (zFS B) (by decide) hr rfl (zA0 (pn 1) (zA0 (pn 4) zA3))) zA3))) zA3))))))
   (zAG (zAX (pn 3))))),(zBB (zAC (zAL (n:=1) [2,1] (zBA (n:=0) (zA2 (de_v 2) (zA2 (zAM (zAQ (zA2 (de_v 1) (zA2 (de_v 2) zA6)))) zA6))))
   (zAC (zJI (dt_b (dz (zAH zO2 (zAH zBR (de_v 0) (zAH zBR (de_v 3) (dz (zTA zMV (dz zA7))))) (de_v 2)))) (zAC (zAL (n:=0) [0,3] (zAH zBR (de_v 0) (zAH zBR (de_v 3) (dz (zTA zMV (dz zA7))))))
   (zZD 3 (n:=0) (zBA (n:=0) (zA2 (de_v 4) (zA2 (zAM (zAQ (zA2 (de_v 1) (zA2 (de_v 4) zA6)))) zA6))))))
   (zCK 3))) h)⟩
theorem zKJ:Has P w K mg base "rounds_of" 4 ["net","choice"] (sp0 K mg 1 zDN):=by
 letI:Kc:=⟨K⟩
 exact dfM B.S.d6 S_rounds_of (fun _ _ _ _ _ _=>uw2 fun _ _=>rfl) fun hr hu h=>⟨_,(zA5 (pst 2 S_rounds_of.nd (zB9 zA3))
   (zA5 (pst 3 S_rounds_of.nd zIX)
   (zA5 (zC1 qHg rfl (zBW rfl B.S.e6 (zA0 (zAN (zD6 (K:=K)) rfl B.S.e4 qI3 (zA0 (pn 0) zA3)) zA3)) (zB6 (i:=4) S_rounds_of.nd rfl oi) (zAG (zDL (zN0 (zFR (zHK hr) (pn 4) (pn 3))) (zA5 (pst 5 S_rounds_of.nd (zBJ (zLX B) (by decide) hr rfl (zA0 (pn 0) (zA0 (pn 1) (zA0 (pn 4) zA3)))))
   (zA5 (zBH (zEQ qAh qAr qAs zCZ (pn 2) (zA0 (pn 5) zA3)))
   (zAG (zBH (zaE qDx PySem.F.slot_dict_update PySem.F.type_dict_update (zW1 rfl) (pn 3) (zA0 (zPS rfl (cn ["0","1","2","3","4","5","met"] 1 (by kernel_rfl)) (zET (K:=K) (pn 5)) (fun _ _ _ _=>(pgn 6)) (fun _ _ _ _=>zIU) (fun _ _ _ _=>(zCY (zA0 (pn 6) (zA0 zVP zA3))))) zA3)))))) zBD)))
   (zAG (zAX (pn 2)))))),(zBB (zAC (zAL (n:=9) [] (zBA (n:=8) zA6))
   (zAC (zAL (n:=1) [] zMC)
   (zAC (zFA (zHZ (zA2 (zCB zD8 (zA2 (de_v 0) zA6)) zA6)) (zDG (dt_B (dz (zRA (de_v 4) (de_v 3)))) (zAC (zAL (n:=1) [0,1,4] (zAQ (zA2 (de_v 0) (zA2 (de_v 1) (zA2 (de_v 4) zA6)))))
   (zAC (zJK 2 [5] (de_v 5))
   (zWL 3 (zHO (n:=1) (zEX (de_v 5)) (zC2 6) zNM (zCG (n:=0) (zA2 (de_v 6) (zA2 zWT zA6))))))) zC7))
   (zCK 2)))) h)⟩
theorem zEU:Has P w K mg base "many_rounds" 5 ["net","choice"] (sp0 K mg 0 zC5):=by
 letI:Kc:=⟨K⟩
 exact dfM B.S.d7 zJV (fun _ _ _ _ _ _=>uw2 fun _ _=>rfl) fun hr hu h=>⟨_,(zAG (zAX (zAN (zD6 (K:=K)) rfl B.S.e4 qI3 (zA0 (zBJ (zKJ B) (by decide) hr rfl (zA0 (pn 0) (zA0 (pn 1) zA3))) zA3)))),(zBB (zBY (n:=0) [0,1] (zCB zD8 (zA2 (zAM (zAQ (zA2 (de_v 0) (zA2 (de_v 1) zA6)))) zA6))) h)⟩
theorem zCD:HasX P w K mg base "refuse_many" 6 ["net","choice"] (spE K mg 0 zAY):=by
 letI:Kc:=⟨K⟩
 exact dfX B.S.d8 S_refuse_many (fun _ _ _ _ _ _=>uw2 fun _ _=>rfl) fun hr hu h=>⟨_,(zA5 (pst 2 S_refuse_many.nd (zBJ (zEU B) (by decide) hr rfl (zA0 (pn 0) (zA0 (pn 1) zA3))))
   (zAG (zDL (zDB (u_ne hu) (pn 2) zAB (zBX _)) (zAG (zN1 (zYD B.x_NoOne hr (by decide) zD2 rfl (zA0 (pn 2) zA3)) zD2 rfl)) zBD))),(zBB (zAC (zAL (n:=0) [0,1] (zGU (zA2 (de_v 0) (zA2 (de_v 1) zA6))))
   (zDG (dt_b (dz (zAH zO2 (de_v 2) (dz zA7)))) (zR2 B.x_NoOne (zA2 (de_v 2) zA6)) zC7)) h)⟩
theorem zIZ:Has P w K mg base "changed_at" 1 ["choice","place","way"] (sp0 K mg 1 m_changed_at):=by
 letI:Kc:=⟨K⟩
 exact dfM B.S.d9 S_changed_at (fun _ _ _ _ _ _=>uw3 fun _ _ _=>rfl) fun hr hu h=>⟨_,(zA5 (pst 3 S_changed_at.nd (zBC (zGB (K:=K) rfl) rfl B.S.e5 qJ8 (zA0 (pn 0) zA3)))
   (zA5 (zFP (pn 2) (zI3 (pn 3) (pn 1) zNU))
   (zAG (zAX (pn 3))))),(zBB (zAC (zAL (n:=1) [0] (zCB zHQ (zA2 (de_v 0) zA6)))
   (zAC (zHM 3 (n:=0) (de_v 1) (de_v 2))
   (zCK 3))) h)⟩
theorem zH7:Has P w K mg base "turned" 6 ["net","choice","place"] (sp0 K mg 1 zBN):=by
 letI:Kc:=⟨K⟩
 exact dfM B.S.d10 S_turned (fun _ _ _ _ _ _=>uw3 fun _ _ _=>rfl) fun hr hu h=>⟨_,(zA5 (zG9 (i:=3) S_turned.nd rfl oi rfl (cn ["0","choice","place","3","way"] 1 (by kernel_rfl)) (zET (K:=K) (zGA (v:=.ref B.u_ALL_WAYS) rfl B.c_ALL_WAYS.2 rfl)) (fun _ _ _ _=>(pgn 4)) (fun _ _ _ _=>zVK (zDB (u_ne hu) (pn 4) (zBM (zBK (K:=K)) (pn 1) (pn 2) (fun _ _=>rfl)) (zBX _))) (fun _ _ _ _=>(zBJ (zIZ B) (by decide) hr rfl (zA0 (pn 1) (zA0 (pn 2) (zA0 (pn 4) zA3))))))
   (zAG (zAX (zSF (zDB (u_eq hu) (zBJ (zEU B) (by decide) hr rfl (zA0 (pn 0) (zA0 (zBM (zBK (K:=K)) (pn 3) zAB (fun _ _=>rfl)) zA3))) zAB (zBX _)) (zBM (zBK (K:=K)) (pn 3) zAB (fun _ _=>rfl)) (zBM (zBK (K:=K)) (pn 3) zAB (fun _ _=>rfl)))))),(zBB (zAC (zAL (n:=2) [1,2] (zHO (n:=1) (zEX (zWR B.c_ALL_WAYS.1)) (zC2 4) (dt_b (dz (zAH zO2 (de_v 4) (zAH zBR (de_v 1) (de_v 2))))) (zAQ (zA2 (de_v 1) (zA2 (de_v 2) (zA2 (de_v 4) zA6))))))
   (zT5 (dt_b (dz (zAH zK8 (zAQ (zA2 (de_v 0) (zA2 (zAH zBR (de_v 3) (dz zA7)) zA6))) (dz zA7)))) (zNN 3 (dz zA7)) (zNN 3 (dz zA7)))) h)⟩
theorem zGP:HasX P w K mg base "turned_choice" 7 ["net","choice","place"] (spE K mg 1 zAU):=by
 letI:Kc:=⟨K⟩
 exact dfX B.S.d11 zHV (fun _ _ _ _ _ _=>uw3 fun _ _ _=>rfl) fun hr hu h=>⟨_,(zA5 (zBH (zN4 (zCD B) (by decide) hr zD2 rfl (zA0 (pn 0) (zA0 (pn 1) zA3))))
   (zAG (zAX (zBJ (zH7 B) (by decide) hr rfl (zA0 (pn 0) (zA0 (pn 1) (zA0 (pn 2) zA3))))))),(zBB (zAC (zJJ (zDR (zA2 (de_v 0) (zA2 (de_v 1) zA6))))
   (zBY (n:=1) [0,1,2] (zGU (zA2 (de_v 0) (zA2 (de_v 1) (zA2 (de_v 2) zA6)))))) h)⟩
theorem zQ1:HasX P w K mg base "walked" 7 ["net","choice","places"] (spE K mg 2 zEM):=by
 letI:Kc:=⟨K⟩
 exact dfX B.S.d12 S_walked (fun _ _ _ _ _ _=>uw3 fun _ _ _=>rfl) fun hr hu h=>⟨_,(zA5 (zBH (zN4 (zCD B) (by decide) hr zD2 rfl (zA0 (pn 0) (zA0 (pn 1) zA3))))
   (zA5 (pst 3 S_walked.nd (zB9 (zA0 (zBC (zGB (K:=K) rfl) rfl B.S.e5 qJ8 (zA0 (pn 1) zA3)) zA3)))
   (zA5 (zC1 zPW rfl (zET (K:=K) (pn 2)) (zB6 (i:=4) S_walked.nd rfl oi) (zAG (zBH (zEQ qAh qAr qAs zCZ (pn 3) (zA0 (zBJ (zH7 B) (by decide) hr rfl (zA0 (pn 0) (zA0 (zBM (zBK (K:=K)) (pn 3) (zSD zRW zAB) (fun _ _=>rfl)) (zA0 (pn 4) zA3)))) zA3)))))
   (zAG (zAX (pn 3)))))),(zBB (zAC (zJJ (zDR (zA2 (de_v 0) (zA2 (de_v 1) zA6))))
   (zAC (zAL (n:=2) [1] (zBA (n:=1) (zA2 (zCB zHQ (zA2 (de_v 1) zA6)) zA6)))
   (zAC (zGK [2] (zEX (de_v 2)) (zC2 4) (zLA 3 (n:=1) (zGU (zA2 (de_v 0) (zA2 (zAH zBR (de_v 3) (dz (zTA zMV (dz zA7)))) (zA2 (de_v 4) zA6))))))
   (zCK 3)))) h)⟩
theorem zKL:Has P w K mg base "next_edge" 7 ["net","edge","ways"] (spW0 K mg 2 2 1 zCA):=by
 letI:Kc:=⟨K⟩
 exact dfW B.S.d13 S_next_edge (fun _ _ _ _ _ _=>uw3 fun _ _ _=>rfl) fun hr hu h=>⟨_,(zA5 (pst 3 S_next_edge.nd (zB9 zA3))
   (zA5 (zC1 qHg rfl (zET (K:=K) (pn 1)) (zB6 (i:=4) S_next_edge.nd rfl oi) (zAG (zC1 qHg rfl (zBW rfl B.S.e6 (zA0 (zAN (zD6 (K:=K)) rfl B.S.e4 qI3 (zA0 (pn 4) zA3)) zA3)) (zB6 (i:=5) S_next_edge.nd rfl oi) (zA5 (pst 6 S_next_edge.nd (zBJ (zH7 B) (by decide) hr rfl (zA0 (pn 0) (zA0 (pn 4) (zA0 (pn 5) zA3)))))
   (zAG (zDL (zN0 (zFR (zHK hr) (zBC (zI9 (K:=K)) rfl B.S.e8 qJ9 (zA0 (pn 6) zA3)) (pn 2))) (zA5 (zVL (zHK hr) (pn 2) (zBC (zI9 (K:=K)) rfl B.S.e8 qJ9 (zA0 (pn 6) zA3)) (zAO zDA (zPR (zHK hr) (pn 2) (zBC (zI9 (K:=K)) rfl B.S.e8 qJ9 (zA0 (pn 4) zA3)) (fun _ _=>rfl)) (zB9 (zA0 (pn 5) zA3))) rfl)
   (zAG (zBH (zEQ qAh qAr qAs zCZ (pn 3) (zA0 (pn 6) zA3))))) zBD))))))
   (zAG (zAX (pn 3))))),(zVA (zUI (zR5 (L:=0) (zAL (n:=1) [] (zBA (n:=0) zA6)))
   (zUI (zR5 (L:=0) (zGK [1] (zEX (de_v 1)) (zC2 4) (zFA (zHZ (zA2 (zCB zD8 (zA2 (de_v 4) zA6)) zA6)) (zAC (zAL (n:=1) [0,4,5] (zAQ (zA2 (de_v 0) (zA2 (de_v 4) (zA2 (de_v 5) zA6)))))
   (zDG (dt_B (dz (zR9 (zCB zIH (zA2 (de_v 6) zA6)) (zZG 2)))) (zAC (zT4 2 (zCB zIH (zA2 (de_v 6) zA6)) (n:=1) (zAH zBU (zZH (zZG 2) (zCB zIH (zA2 (de_v 4) zA6))) (zBA (n:=0) (zA2 (de_v 5) zA6))))
   (zJK 3 [6] (de_v 6))) zC7)))))
   (zWM 3))) h)⟩
theorem zKK:Has P w K mg base "places_in" 1 ["net"] (sp0 K mg 0 zDO):=by
 letI:Kc:=⟨K⟩
 exact dfM B.S.d14 zML (fun _ _ _ _ _ _=>uw1 fun _=>rfl) fun hr hu h=>⟨_,(zAG (zAX (zAO zFH (zAN (zD6 (K:=K)) rfl B.S.e4 qI3 (zA0 (pn 0) zA3)) (zGA rfl B.c_SEATS.2 B.c_SEATS.1)))),(zBB (zBY (n:=0) [0] (zAH zFK (dz (zCB zD8 (zA2 (de_v 0) zA6))) (dz zA7))) h)⟩
theorem zHW:HasX P w K mg base "way_between" 8 ["net","one","other"] (spE K mg 1 zB7):=by
 letI:Kc:=⟨K⟩
 exact dfX B.S.d15 S_way_between (fun _ _ _ _ _ _=>uw3 fun _ _ _=>rfl) fun hr hu h=>⟨_,(zA5 (zDL (zDB u_gt (zBJ (zKK B) (by decide) hr rfl (zA0 (pn 0) zA3)) (zGA rfl B.c_MOST_CHOSEN.2 B.c_MOST_CHOSEN.1) (zBX _)) (zAG (zN1 (zYE B.z_TooMany rfl (zA0 zE5 zA3)) zD2 rfl)) zBD)
   (zA5 (zBH (zN4 (zCD B) (by decide) hr zD2 rfl (zA0 (pn 0) (zA0 (pn 1) zA3))))
   (zA5 (zBH (zN4 (zCD B) (by decide) hr zD2 rfl (zA0 (pn 0) (zA0 (pn 2) zA3))))
   (zA5 (pst 3 S_way_between.nd (zSG (zHK hr) (zBC (zI9 (K:=K)) rfl B.S.e8 qJ9 (zA0 (pn 1) zA3)) (zB9 zA3)))
   (zA5 (pst 4 S_way_between.nd (zB9 (zA0 (pn 1) zA3)))
   (zA5 (zIV zPW (zN0 (zFR (zHK hr) (zBC (zI9 (K:=K)) rfl B.S.e8 qJ9 (zA0 (pn 2) zA3)) (pn 3))) (zAG (pst 4 S_way_between.nd (zBJ (zKL B) (by decide) hr rfl (zA0 (pn 0) (zA0 (pn 4) (zA0 (pn 3) zA3)))))))
   (zAG (zAX (zPR (zHK hr) (pn 3) (zBC (zI9 (K:=K)) rfl B.S.e8 qJ9 (zA0 (pn 2) zA3)) (fun _ _=>rfl)))))))))),(zBB (zAC (zDG (dt_b (dz (zAH zK9 (zGU (zA2 (de_v 0) zA6)) (dz zA7)))) (zR3 B.z_TooMany (zA2 zEB zA6)) zC7)
   (zAC (zJJ (zDR (zA2 (de_v 0) (zA2 (de_v 1) zA6))))
   (zAC (zJJ (zDR (zA2 (de_v 0) (zA2 (de_v 2) zA6))))
   (zAC (zAL (n:=2) [1] (zWP (n:=1) (zCB zIH (zA2 (de_v 1) zA6)) (zBA (n:=0) zA6)))
   (zAC (zAL (n:=1) [1] (zBA (n:=0) (zA2 (de_v 1) zA6)))
   (zAC (zJI (dt_B (dz (zR9 (zCB zIH (zA2 (de_v 2) zA6)) (de_v 3)))) (zON (k:=1) 4 3 [0,4] (de_v 0) (de_v 4)))
   (zR1 3 (zCB zIH (zA2 (de_v 2) zA6))))))))) h)⟩
theorem zJ3:Has P w K mg base "_law_asked" 9 ["_law_kind","_law_net","_law_one_here","_law_other","_law_place"] (sp0 K mg 0 zB4):=by
 letI:Kc:=⟨K⟩
 exact dfM B.S.d16 S__law_asked (fun _ _ _ _ _ _=>uw5 fun _ _ _ _ _=>rfl) fun hr hu h=>⟨_,(zA5 (pst 5 S__law_asked.nd zN3)
   (zA5 (zS9 (i:=6) (zFO (zTY (zDB (u_eq hu) (pn 0) zAB (zBX _)) (zFO (zLU (i:=5) S__law_asked.nd rfl oi (zPP (zGP B) (by decide) hr rfl (zA0 (pn 1) (zA0 (pn 2) (zA0 (pn 4) zA3)))))) (zFO (zTY (zDB (u_eq hu) (pn 0) zAB (zBX _)) (zFO (zLU (i:=5) S__law_asked.nd rfl oi (zPP (zQ1 B) (by decide) hr rfl (zA0 (pn 1) (zA0 (pn 2) (zA0 (zB9 (zA0 (pn 4) (zA0 (pn 4) zA3))) zA3)))))) (zFO (zLU (i:=5) S__law_asked.nd rfl oi (zPP (zHW B) (by decide) hr rfl (zA0 (pn 1) (zA0 (pn 2) (zA0 (pn 3) zA3)))))))))) ⟨rfl,rfl⟩ (qGu B.n_RoundError.gm) rfl S__law_asked.nd rfl rfl (fun _=>(zAG (pst 5 S__law_asked.nd (zYF (zHY B) (by decide) hr.toM rfl (zA0 (pn 6) zA3))))))
   (zAG (zAX (pn 5))))),(zBB (zAC (zAL (n:=0) [] zNO)
   (zAC (zZC (te:=fun E'=>(tIf _ (zF3 (spE K mg 1 zAU) [] E' _) (tIf _ (zF3 (spE K mg 2 zEM) [] E' _) (zF3 (spE K mg 1 zB7) [] E' _)))) (some 5) [0,5,1,2,4,3] B.q4 (fun _=>(zUL (dt_b (dz (zAH zK8 (de_v 0) (dz zA7)))) (zAM (n:=1) (zDR (zA2 (de_v 1) (zA2 (de_v 2) (zA2 (de_v 4) zA6))))) (zUL (dt_b (dz (zAH zK8 (de_v 0) (dz zA7)))) (zAM (n:=2) (zDR (zA2 (de_v 1) (zA2 (de_v 2) (zA2 (zAM (zBA (n:=0) (zA2 (de_v 4) (zA2 (de_v 4) zA6)))) zA6))))) (zAM (n:=1) (zDR (zA2 (de_v 1) (zA2 (de_v 2) (zA2 (de_v 3) zA6)))))))) (zAL (n:=1) [6] (zAQ (zA2 (de_v 6) zA6))))
   (zCK 5))) h)⟩
theorem zHX:Has P w K mg base "_law_joined" 1 ["_law_choice","_law_end"] (sp0 K mg 1 zCQ):=by
 letI:Kc:=⟨K⟩
 exact dfM B.S.d17 S__law_joined (fun _ _ _ _ _ _=>uw2 fun _ _=>rfl) fun hr hu h=>zQU (zCE (zWK (i:=2) S__law_joined.nd rfl oi (zZI (zBK (K:=K)) (zWQ (zJM (zMB (zC0 zCL (zC0 zCL (zC0 zCL (zC0 zCL zJL))))) (zJM (zMB (zC0 zCL (zC0 zCL (zC0 zCL (zC0 zCL zJL))))) (zJM (zMB (zC0 zCL (zC0 zCL (zC0 zCL (zC0 zCL zJL))))) zJL)))) ⟨(zBM (zBK (K:=K)) (pn 0) (zAO zFH (pn 1) zAB) (fun _ _=>rfl))⟩ (fun _ _=>rfl)))
   (zQZ ⟨(zAX (zAO zDA (zAO zV1 (pn 1) (zAO zDJ (pn 1) zAB)) (zBM (zBK (K:=K)) (pn 2) (zAO zDJ (pn 1) zAB) (fun _ _=>rfl))))⟩)) (zBB (zAC (zAL (n:=0) [0,1] (zAH zBR (zBA (n:=1) (zA2 (zCG (n:=0) (zA2 zA7 (zA2 zA7 (zA2 zA7 (zA2 zA7 zA6))))) (zA2 (zCG (n:=0) (zA2 zA7 (zA2 zA7 (zA2 zA7 (zA2 zA7 zA6))))) (zA2 (zCG (n:=0) (zA2 zA7 (zA2 zA7 (zA2 zA7 (zA2 zA7 zA6))))) zA6)))) (zAH zBR (de_v 0) (dz (zAH zFK (de_v 1) (dz zA7))))))
   (zBY (n:=1) [1,2] (zAH zBU (dz (zAH zPI (de_v 1) (dz (zAH zC3 (de_v 1) (dz zA7))))) (zAH zBR (de_v 2) (dz (zAH zC3 (de_v 1) (dz zA7))))))) h)
theorem zJ1:Has P w K mg base "_law_round" 2 ["_law_net","_law_choice","_law_end"] (sp0 K mg 9 zD5):=by
 letI:Kc:=⟨K⟩
 exact dfM B.S.d18 S__law_round (fun _ _ _ _ _ _=>uw3 fun _ _ _=>rfl) fun hr hu h=>⟨_,(zA5 (pst 3 S__law_round.nd (zB9 zA3))
   (zA5 (pst 4 S__law_round.nd (pn 2))
   (zA5 (zIV qHg (pt_w (zPM (zDB (u_eq hu) (pn 3) (zB9 zA3) (zBX _)) (zKA (zDB (u_ne hu) (pn 4) (pn 2) (zBX _))))) (zA5 (zBH (zEQ qAh qAr qAs zCZ (pn 3) (zA0 (pn 4) zA3)))
   (zA5 (zBH (zEQ qAh qAr qAs zCZ (pn 3) (zA0 (zBJ (zHX B) (by decide) hr rfl (zA0 (pn 1) (zA0 (pn 4) zA3))) zA3)))
   (zAG (pst 4 S__law_round.nd (zBM (zBK (K:=K)) (pn 0) (zBM (zBK (K:=K)) (pn 3) (zSD zRW zAB) (fun _ _=>rfl)) (fun _ _=>rfl)))))))
   (zAG (zAX (pn 3)))))),(zBB (zAC (zAL (n:=9) [] (zBA (n:=8) zA6))
   (zAC (zAL (n:=0) [2] (de_v 2))
   (zAC (zJI (zQY (dt_b (dz (zAH zK8 (de_v 3) (zBA (n:=8) zA6)))) (dt_b (dz (zAH zO2 (de_v 4) (de_v 2))))) (zAC (zLA 3 (n:=0) (de_v 4))
   (zAC (zLA 3 (n:=1) (zAQ (zA2 (de_v 1) (zA2 (de_v 4) zA6))))
   (zAL (n:=0) [0,3] (zAH zBR (de_v 0) (zAH zBR (de_v 3) (dz (zTA zMV (dz zA7)))))))))
   (zCK 3)))) h)⟩
theorem zDC:Has P w K mg base "_law_rounds" 3 ["_law_net","_law_choice"] (sp0 K mg 1 zAP):=by
 letI:Kc:=⟨K⟩
 exact dfM B.S.d19 S__law_rounds (fun _ _ _ _ _ _=>uw2 fun _ _=>rfl) fun hr hu h=>⟨_,(zA5 (pst 2 S__law_rounds.nd zIX)
   (zA5 (pst 3 S__law_rounds.nd (zB9 zA3))
   (zA5 (zC1 qHg rfl (zBW rfl B.S.e6 (zA0 (zAN (zD6 (K:=K)) rfl B.S.e4 qI3 (zA0 (pn 0) zA3)) zA3)) (zB6 (i:=4) S__law_rounds.nd rfl oi) (zAG (zDL (zN0 (zFR (zHK hr) (pn 4) (pn 2))) (zA5 (pst 5 S__law_rounds.nd (zBJ (zJ1 B) (by decide) hr rfl (zA0 (pn 0) (zA0 (pn 1) (zA0 (pn 4) zA3)))))
   (zA5 (zC1 qHg rfl (zET (K:=K) (pn 5)) (zB6 (i:=6) S__law_rounds.nd rfl oi) (zAG (zPN (zHK hr) (pn 2) (pn 6) zVP rfl)))
   (zAG (zBH (zEQ qAh qAr qAs zCZ (pn 3) (zA0 (pn 5) zA3)))))) zBD)))
   (zAG (zAX (pn 3)))))),(zBB (zAC (zAL (n:=1) [] zMC)
   (zAC (zAL (n:=9) [] (zBA (n:=8) zA6))
   (zAC (zFA (zHZ (zA2 (zCB zD8 (zA2 (de_v 0) zA6)) zA6)) (zDG (dt_B (dz (zRA (de_v 4) (de_v 2)))) (zAC (zAL (n:=9) [0,1,4] (zAQ (zA2 (de_v 0) (zA2 (de_v 1) (zA2 (de_v 4) zA6)))))
   (zAC (zGK [5] (zEX (de_v 5)) (zC2 6) (zR4 2 (de_v 6) (dz zWT)))
   (zJK 3 [5] (de_v 5)))) zC7))
   (zCK 3)))) h)⟩
theorem zM0:Has P w K mg base "_law_due" 4 ["_law_kind","_law_net","_law_one_here","_law_other"] (sp0 K mg 1 zCR):=by
 letI:Kc:=⟨K⟩
 exact dfM B.S.d20 S__law_due (fun _ _ _ _ _ _=>uw4 fun _ _ _ _=>rfl) fun hr hu h=>⟨_,(zA5 (zDL (pt_w (zFN (zDB (u_eq hu) (pn 0) zAB (zBX _)) (zF4 (zDB u_gt (zAN (zD6 (K:=K)) rfl B.S.e4 qI3 (zA0 (pn 1) zA3)) zAB (zBX _))))) (zAG (zAX (zCY (zA0 zE5 (zA0 zAB zA3))))) zBD)
   (zA5 (pst 4 S__law_due.nd (zB9 (zA0 (pn 2) zA3)))
   (zA5 (zDL (zDB (u_eq hu) (pn 0) zAB (zBX _)) (zAG (pst 4 S__law_due.nd (zB9 (zA0 (pn 2) (zA0 (pn 3) zA3))))) zBD)
   (zA5 (zC1 qHg rfl (zET (K:=K) (pn 4)) (zB6 (i:=5) S__law_due.nd rfl oi) (zA5 (pst 6 S__law_due.nd (zAN (zD6 (K:=K)) rfl B.S.e4 qI3 (zA0 (zBJ (zDC B) (by decide) hr rfl (zA0 (pn 1) (zA0 (pn 5) zA3))) zA3)))
   (zAG (zDL (zDB u_gt (pn 6) zAB (zBX _)) (zAG (zAX (zCY (zA0 zE5 (zA0 (pn 6) zA3))))) zBD))))
   (zAG (zAX zN3)))))),(zBB (zAC (zDG (zFY (dt_b (dz (zAH zK8 (de_v 0) (dz zA7)))) (dt_b (dz (zAH zK9 (dz (zCB zD8 (zA2 (de_v 1) zA6))) (dz zA7))))) (zBY (n:=1) [] (zCG (n:=0) (zA2 zEB (zA2 zA7 zA6)))) zC7)
   (zAC (zAL (n:=1) [2] (zBA (n:=0) (zA2 (de_v 2) zA6)))
   (zAC (zDG (dt_b (dz (zAH zK8 (de_v 0) (dz zA7)))) (zAL (n:=1) [2,3] (zBA (n:=0) (zA2 (de_v 2) (zA2 (de_v 3) zA6)))) zC7)
   (zAC (zGK [4] (zEX (de_v 4)) (zC2 5) (zAC (zAL (n:=0) [1,5] (zCB zD8 (zA2 (zAM (zAQ (zA2 (de_v 1) (zA2 (de_v 5) zA6)))) zA6)))
   (zDG (dt_b (dz (zAH zK9 (de_v 6) (dz zA7)))) (zBY (n:=1) [6] (zCG (n:=0) (zA2 zEB (zA2 (de_v 6) zA6)))) zC7)))
   (zBY (n:=1) [] zNO))))) h)⟩
theorem zJ2:Has P w K mg base "_law_built" 1 ["_law_row_here","_law_seats_here"] (sp0 K mg 1 zD1):=by
 letI:Kc:=⟨K⟩
 exact dfM B.S.d21 S__law_built (fun _ _ _ _ _ _=>uw2 fun _ _=>rfl) fun hr hu h=>⟨_,(zA5 (pst 2 S__law_built.nd (zAO zXD (zB9 (zA0 zAB zA3)) (zAO zCM zAB (zAN (zD6 (K:=K)) rfl B.S.e4 qI3 (zA0 (pn 0) zA3)))))
   (zA5 (pst 3 S__law_built.nd (zB9 zA3))
   (zA5 (pst 4 S__law_built.nd zIX)
   (zA5 (zC1 qHg rfl (zET (K:=K) (pn 0)) (zB6 (i:=5) S__law_built.nd rfl oi) (zA5 (zBH (zEQ qAh qAr qAs zCZ (pn 3) (zA0 (zCY (zA0 (pn 5) (zA0 (zSH (zHK hr) (pn 4) (pn 5) zAB ⟨rfl,rfl,rfl,rfl⟩) zA3))) zA3)))
   (zAG (zPN (zHK hr) (pn 4) (pn 5) zAB rfl))))
   (zA5 (zC1 qHg rfl (zBW rfl B.S.e6 (zA0 (zAN (zD6 (K:=K)) rfl B.S.e4 qI3 (zA0 (pn 0) zA3)) zA3)) (zB6 (i:=6) S__law_built.nd rfl oi) (zA5 (zFP (zBM (zBK (K:=K)) (pn 3) (zAO zV1 (pn 6) zAB) (fun _ _=>rfl)) (zLW (K:=K) rfl (zEI (zB6 (i:=5) S__law_built.nd rfl oi) (zEI (zB6 (i:=7) S__law_built.nd rfl oi) zLV))))
   (zA5 (zFP (zBM (zBK (K:=K)) (pn 3) (pn 6) (fun _ _=>rfl)) (zLW (K:=K) rfl (zEI (zB6 (i:=8) S__law_built.nd rfl oi) (zEI (zB6 (i:=9) S__law_built.nd rfl oi) zLV))))
   (zA5 (pst 10 S__law_built.nd (zAO zDA (zAO zCM zAB (pn 5)) (zBM (zBK (K:=K)) (zBM (zBK (K:=K)) (pn 1) (pn 5) (fun _ _=>rfl)) (zAO zDA (pn 7) zAB) (fun _ _=>rfl))))
   (zA5 (pst 11 S__law_built.nd (zAO zDA (zAO zCM zAB (pn 8)) (zBM (zBK (K:=K)) (zBM (zBK (K:=K)) (pn 1) (pn 8) (fun _ _=>rfl)) (pn 9) (fun _ _=>rfl))))
   (zA5 (zFP (pn 11) (zI3 (pn 2) (pn 10) zNU))
   (zAG (zFP (pn 10) (zI3 (pn 2) (pn 11) zNU)))))))))
   (zAG (zAX (pn 2)))))))),(zBB (zAC (zAL (n:=1) [0] (zAH zTW (zBA (n:=0) (zA2 zA7 zA6)) (dz (zAH zCN (dz zA7) (dz (zCB zD8 (zA2 (de_v 0) zA6)))))))
   (zAC (zAL (n:=9) [] (zBA (n:=8) zA6))
   (zAC (zAL (n:=1) [] zMC)
   (zAC (zGK [0] (zEX (de_v 0)) (zC2 5) (zAC (zLA 3 (n:=1) (zCG (n:=0) (zA2 (de_v 5) (zA2 (zWS (de_v 4) (de_v 5) (dz zA7)) zA6))))
   (zR4 4 (de_v 5) (dz zA7))))
   (zAC (zFA (zHZ (zA2 (zCB zD8 (zA2 (de_v 0) zA6)) zA6)) (zAC (zR0 [3,6] (zP4 (zEG 5 (zEG 7 zLQ)) rfl) (zAH zBR (de_v 3) (dz (zAH zPI (de_v 6) (dz zA7)))))
   (zAC (zR0 [3,6] (zP4 (zEG 8 (zEG 9 zLQ)) rfl) (zAH zBR (de_v 3) (de_v 6)))
   (zAC (zAL (n:=1) [5,1,7] (zAH zBU (dz (zAH zCN (dz zA7) (de_v 5))) (zAH zBR (zAH zBR (de_v 1) (de_v 5)) (zAH zBU (de_v 7) (dz zA7)))))
   (zAC (zAL (n:=1) [8,9,1] (zAH zBU (dz (zAH zCN (dz zA7) (de_v 8))) (zAH zBR (zAH zBR (de_v 1) (de_v 8)) (de_v 9))))
   (zAC (zHM 2 (n:=0) (de_v 10) (de_v 11))
   (zHM 2 (n:=0) (de_v 11) (de_v 10))))))))
   (zCK 2)))))) h)⟩
theorem zLY:Has P w K mg base "_law_row" 2 ["_law_script","_law_at","_law_n"] (sp0 K mg 9 zCP):=by
 letI:Kc:=⟨K⟩
 exact dfM B.S.d22 S__law_row (fun _ _ _ _ _ _=>uw3 fun _ _ _=>rfl) fun hr hu h=>⟨_,(zA5 (zG9 (i:=3) S__law_row.nd rfl oi rfl (cn ["0","1","2","3","4","5","6","_law_k"] 1 (by kernel_rfl)) (zBW rfl B.S.e6 (zA0 (zAO zCM zAB (pn 2)) zA3)) (fun _ _ _ _=>(pgn 7)) (fun _ _ _ _=>zIU) (fun _ _ _ _=>(zAO zFH (pn 7) zAB)))
   (zA5 (pst 4 S__law_row.nd (zAO zDJ (zBJ (zB2 B) (by decide) hr rfl (zA0 (pn 0) (zA0 (pn 1) zA3))) zAB))
   (zA5 (pst 5 S__law_row.nd (zB9 zA3))
   (zA5 (zC1 qHg rfl (zBW rfl B.S.e6 (zA0 (zAO zCM zAB (pn 2)) zA3)) (zB6 (i:=6) S__law_row.nd rfl oi) (zA5 (pst 4 S__law_row.nd (zAO zDJ (zAO zDA (zAO zCM (pn 4) zAB) (zBJ (zB2 B) (by decide) hr rfl (zA0 (pn 0) (zA0 (zAO zDA (zAO zDA (pn 1) zAB) (pn 6)) zA3)))) zAB))
   (zAG (zBH (zEQ qAh qAr qAs zCZ (pn 5) (zA0 (zEQ qAh qCd qCe zJ6 (pn 3) (zA0 (zAO zDJ (zAO zFH (pn 4) zAB) (zAN (zD6 (K:=K)) rfl B.S.e4 qI3 (zA0 (pn 3) zA3))) zA3)) zA3))))))
   (zAG (zAX (pn 5))))))),(zBB (zAC (zAL (n:=1) [6,2] (zHO (n:=0) (zHZ (zA2 (zAH zCN (dz zA7) (de_v 2)) zA6)) (zC2 7) zNM (zAH zFK (de_v 7) (dz zA7))))
   (zAC (zAL (n:=0) [0,1] (zAH zC3 (zAQ (zA2 (de_v 0) (zA2 (de_v 1) zA6))) (dz zA7)))
   (zAC (zAL (n:=9) [] (zBA (n:=8) zA6))
   (zAC (zFA (zHZ (zA2 (zAH zCN (dz zA7) (de_v 2)) zA6)) (zAC (zAL (n:=0) [4,0,6,1] (zAH zC3 (zAH zBU (dz (zAH zCN (de_v 4) (dz zA7))) (zAQ (zA2 (de_v 0) (zA2 (zAM (zAH zBU (zAH zBU (de_v 1) (dz zA7)) (de_v 6))) zA6)))) (dz zA7)))
   (zL9 5 3 (dz (zAH zC3 (dz (zAH zFK (de_v 4) (dz zA7))) (dz (zCB zD8 (zA2 (de_v 3) zA6))))))))
   (zCK 5))))) h)⟩
theorem zJ0:Has P w K mg base "_law_seats" 1 ["_law_cell_here","_law_n"] (sp0 K mg 1 zE7):=by
 letI:Kc:=⟨K⟩
 exact dfM B.S.d23 S__law_seats (fun _ _ _ _ _ _=>uw2 fun _ _=>rfl) fun hr hu h=>⟨_,(zA5 (pst 2 S__law_seats.nd (zB9 zA3))
   (zA5 (zC1 qHg rfl (zBW rfl B.S.e6 (zA0 (pn 1) zA3)) (zB6 (i:=3) S__law_seats.nd rfl oi) (zA5 (pst 4 S__law_seats.nd (zB9 (zA0 zAB (zA0 zAB (zA0 zAB (zA0 zAB zA3))))))
   (zA5 (pst 5 S__law_seats.nd (zAO zDA (zAO zDJ (zAO zCM (zAO zFH (pn 0) (zAO zDA (pn 3) zAB)) zAB) zAB) (pn 3)))
   (zA5 (pst 6 S__law_seats.nd (zB9 zA3))
   (zA5 (zC1 qHg rfl (zET (K:=K) (zCY (zA0 zAB (zA0 zAB (zA0 zAB (zA0 zAB zA3)))))) (zB6 (i:=7) S__law_seats.nd rfl oi) (zA5 (zBH (zEQ qAh qAr qAs zCZ (pn 6) (zA0 (zEQ qAh qCd qCe zJ6 (pn 4) (zA0 (zAO zDJ (pn 5) (pn 7)) zA3)) zA3)))
   (zAG (pst 5 S__law_seats.nd (zAO zFH (pn 5) (pn 7))))))
   (zAG (zBH (zEQ qAh qAr qAs zCZ (pn 2) (zA0 (pn 6) zA3)))))))))
   (zAG (zAX (pn 2))))),(zBB (zAC (zAL (n:=9) [] (zBA (n:=8) zA6))
   (zAC (zFA (zHZ (zA2 (de_v 1) zA6)) (zAC (zAL (n:=1) [] (zBA (n:=0) (zA2 zA7 (zA2 zA7 (zA2 zA7 (zA2 zA7 zA6))))))
   (zAC (zAL (n:=1) [3,0] (zAH zBU (dz (zAH zC3 (dz (zAH zCN (dz (zAH zFK (de_v 0) (zAH zBU (de_v 3) (dz zA7)))) (dz zA7))) (dz zA7))) (de_v 3)))
   (zAC (zAL (n:=9) [] (zBA (n:=8) zA6))
   (zAC (zGK [] (zEX (zCG (n:=0) (zA2 zA7 (zA2 zA7 (zA2 zA7 (zA2 zA7 zA6)))))) (zC2 7) (zAC (zL9 6 4 (dz (zAH zC3 (de_v 5) (de_v 7))))
   (zAL (n:=0) [5,7] (zAH zFK (de_v 5) (de_v 7)))))
   (zJK 2 [6] (de_v 6)))))))
   (zCK 2))) h)⟩
theorem zKM:Has P w K mg base "_law_ways" 1 ["_law_seats_here"] (sp0 K mg 9 zF8):=by
 letI:Kc:=⟨K⟩
 exact dfM B.S.d24 S__law_ways (fun _ _ _ _ _ _=>uw1 fun _=>rfl) fun hr hu h=>⟨_,(zA5 (pst 1 S__law_ways.nd (zB9 zA3))
   (zA5 (zC1 qHg rfl (zET (K:=K) (pn 0)) (zB6 (i:=2) S__law_ways.nd rfl oi) (zA5 (pst 3 S__law_ways.nd (zAN zNF rfl B.S.e7 boot_sorted (zA0 (zB9 (zA0 (zBM (zBK (K:=K)) (pn 2) zAB (fun _ _=>rfl)) (zA0 (zBM (zBK (K:=K)) (pn 2) zAB (fun _ _=>rfl)) zA3))) zA3)))
   (zA5 (zDL (zDB (zV2 (K:=K)) zAB (pn 3) rfl) (zAG (pst 3 S__law_ways.nd (zAN zNF rfl B.S.e7 boot_sorted (zA0 (zB9 (zA0 (zBM (zBK (K:=K)) (pn 2) zAB (fun _ _=>rfl)) (zA0 (zBM (zBK (K:=K)) (pn 2) zAB (fun _ _=>rfl)) zA3))) zA3)))) zBD)
   (zAG (zBH (zEQ qAh qAr qAs zCZ (pn 1) (zA0 (zAO zV1 (zBM (zBK (K:=K)) (pn 3) zAB (fun _ _=>rfl)) zAB) zA3)))))))
   (zAG (zAX (pn 1))))),(zBB (zAC (zAL (n:=9) [] (zBA (n:=8) zA6))
   (zAC (zGK [0] (zEX (de_v 0)) (zC2 2) (zAC (zAL (n:=1) [2] (zCB zRE (zA2 (zAM (zBA (n:=0) (zA2 (zAH zBR (de_v 2) (dz zA7)) (zA2 (zAH zBR (de_v 2) (dz zA7)) zA6)))) zA6)))
   (zAC (zDG (dt_b (dz (zAH zaC (dz zA7) (de_v 3)))) (zAL (n:=1) [2] (zCB zRE (zA2 (zAM (zBA (n:=0) (zA2 (zAH zBR (de_v 2) (dz zA7)) (zA2 (zAH zBR (de_v 2) (dz zA7)) zA6)))) zA6))) zC7)
   (zLA 1 (n:=0) (zAH zPI (zAH zBR (de_v 3) (dz zA7)) (dz zA7))))))
   (zCK 1))) h)⟩
theorem zLZ:Has P w K mg base "_law_one" 3 ["_law_script","_law_n"] (sp0 K mg 1 zC6):=by
 letI:Kc:=⟨K⟩
 exact dfM B.S.d25 S__law_one (fun _ _ _ _ _ _=>uw2 fun _ _=>rfl) fun hr hu h=>⟨_,(zA5 (pst 2 S__law_one.nd (zBJ (zLY B) (by decide) hr rfl (zA0 (pn 0) (zA0 zAB (zA0 (pn 1) zA3)))))
   (zA5 (pst 3 S__law_one.nd (zBJ (zJ0 B) (by decide) hr rfl (zA0 (zBJ (zB2 B) (by decide) hr rfl (zA0 (pn 0) (zA0 zAB zA3))) (zA0 (pn 1) zA3))))
   (zAG (zAX (zCY (zA0 (zBJ (zJ2 B) (by decide) hr rfl (zA0 (pn 2) (zA0 (pn 3) zA3))) (zA0 (zBJ (zKM B) (by decide) hr rfl (zA0 (pn 3) zA3)) zA3))))))),(zBB (zAC (zAL (n:=9) [0,1] (zAQ (zA2 (de_v 0) (zA2 zA7 (zA2 (de_v 1) zA6)))))
   (zAC (zAL (n:=1) [1,0] (zAQ (zA2 (zAQ (zA2 (de_v 0) (zA2 zA7 zA6))) (zA2 (de_v 1) zA6))))
   (zBY (n:=1) [2,3] (zCG (n:=0) (zA2 (zAM (zAQ (zA2 (de_v 2) (zA2 (de_v 3) zA6)))) (zA2 (zAM (zAQ (zA2 (de_v 3) zA6))) zA6)))))) h)⟩
theorem zYP{f:Addr}{fd:qHo}(F:Fun K "law" "law" (top 38) f fd):FnOk P w K mg base CX0 10 f fd ["_law_script"] (zI0 K):=by
 letI:Kc:=⟨K⟩
 refine(F.ok S_law (sp:=sp0 K mg 0 zKS) (fun vs H Q E h=>zIN h) (fun cdv A outer s H vs Q E hr h=>?_)).imp (zSP zSO);have hu:=hr.units;exact zQU (zCE ⟨(pst 1 S_law.nd (zAO zDA zAB (zAO zDJ (zBJ (zB2 B) (by decide) hr rfl (zA0 (pn 0) (zA0 zAB zA3))) zAB)))⟩
   (zCE ⟨(pst 2 S_law.nd (zBJ (zH8 B) (by decide) hr rfl (zA0 (pn 0) (zA0 zAB (zA0 (pn 1) zA3)))))⟩
   (zCE ⟨(zG9 (i:=3) S_law.nd rfl oi rfl (cn ["_law_script","_law_n","2","3","4","5","6","7","8","9","10","_law_k"] 1 (by kernel_rfl)) (zBW rfl B.S.e6 (zA0 zAB zA3)) (fun _ _ _ _=>(pgn 11)) (fun _ _ _ _=>zIU) (fun _ _ _ _=>(zPS rfl (cn ["_law_script","1","2","3","4","5","6","7","8","9","10","_law_k","_law_at"] 1 (by kernel_rfl)) (zBW rfl B.S.e6 (zA0 (pn 1) zA3)) (fun _ _ _ _=>(pgn 12)) (fun _ _ _ _=>zIU) (fun _ _ _ _=>(zAO zDJ (zBJ (zB2 B) (by decide) hr rfl (zA0 (pn 0) (zA0 (zAO zDA (zAO zDA zAB (zAO zCM zAB (pn 11))) (pn 12)) zA3))) zAB)))))⟩
   (zCE ⟨(zDL (zDB (u_eq hu) (zAO zDJ (zAO zFH (zBJ (zB2 B) (by decide) hr rfl (zA0 (pn 0) (zA0 zAB zA3))) zAB) zAB) zAB (zBX _)) (zA5 (zFP (zBJ (zLZ B) (by decide) hr rfl (zA0 (pn 0) (zA0 (pn 1) zA3))) (zLW (K:=K) rfl (zEI (zB6 (i:=2) S_law.nd rfl oi) (zEI (zB6 (i:=4) S_law.nd rfl oi) zLV))))
   (zAG (zFP (pn 4) (zI3 (pn 3) (zAO zDJ (zBJ (zB2 B) (by decide) hr rfl (zA0 (pn 0) (zA0 zAB zA3))) zAB) zNU)))) zBD)⟩
   (zCE ⟨(pst 5 S_law.nd (zAO zDJ (zBJ (zB2 B) (by decide) hr rfl (zA0 (pn 0) (zA0 zAB zA3))) (pn 1)))⟩
   (zCE ⟨(pst 6 S_law.nd (zB9 (zA0 zAB (zA0 zAB zA3))))⟩
   (zCE ⟨(zDL (pt_w (zPM (zDB (u_ne hu) (pn 1) zAB (zBX _)) (zKA (zDB u_gt (zAO zDA (zAN (zD6 (K:=K)) rfl B.S.e4 qI3 (zA0 (zBJ (zDC B) (by decide) hr rfl (zA0 (pn 2) (zA0 (zBM (zBK (K:=K)) (pn 3) zAB (fun _ _=>rfl)) zA3))) zA3)) (zAN (zD6 (K:=K)) rfl B.S.e4 qI3 (zA0 (zBJ (zDC B) (by decide) hr rfl (zA0 (pn 2) (zA0 (zBM (zBK (K:=K)) (pn 3) zAB (fun _ _=>rfl)) zA3))) zA3))) zAB (zBX _))))) (zAG (pst 6 S_law.nd (zB9 (zA0 zAB (zA0 zAB (zA0 zAB zA3)))))) zBD)⟩
   (zCE ⟨(pst 7 S_law.nd (zB9 (zA0 (zBC (zGB (K:=K) rfl) rfl B.S.e5 qJ8 (zA0 (zBM (zBK (K:=K)) (pn 3) zAB (fun _ _=>rfl)) zA3)) (zA0 (zBC (zGB (K:=K) rfl) rfl B.S.e5 qJ8 (zA0 (zBM (zBK (K:=K)) (pn 3) zAB (fun _ _=>rfl)) zA3)) zA3))))⟩
   (zCE ⟨(zC1 qHg rfl (zET (K:=K) (pn 6)) (zB6 (i:=8) S_law.nd rfl oi) (zA5 (pst 9 S_law.nd (zBJ (zM0 B) (by decide) hr rfl (zA0 (pn 8) (zA0 (pn 2) (zA0 (zBM (zBK (K:=K)) (pn 3) zAB (fun _ _=>rfl)) (zA0 (zBM (zBK (K:=K)) (pn 3) zAB (fun _ _=>rfl)) zA3))))))
   (zA5 (pst 10 S_law.nd (zBJ (zJ3 B) (by decide) hr rfl (zA0 (pn 8) (zA0 (zBC (zGB (K:=K) rfl) rfl B.S.e5 qJ8 (zA0 (pn 2) zA3)) (zA0 (zBM (zBK (K:=K)) (pn 7) zAB (fun _ _=>rfl)) (zA0 (zBM (zBK (K:=K)) (pn 7) zAB (fun _ _=>rfl)) (zA0 (pn 5) zA3)))))))
   (zAG (zDL (pt_w (zPM (pt_w (zFN (zDB zYL (pn 9) zN3 (zBX _)) (zF4 (zKB (pt_m (zAN zCF rfl B.S.e3 qHh (zA0 (pn 10) (zA0 (zF5 (v:=.ty "list") rfl B.S.e5 qJ8 rfl) zA3)))))))) (zKA (pt_w (zFN (zDB zVT (pn 9) zN3 (zBX _)) (zF4 (zDB (u_ne hu) (pn 10) (pn 9) (zBX _)))))))) (zAG (zAX zVP)) zBD)))))⟩
   (zQZ ⟨(zAX (zVO (u_eq hu) (pn 7) (pn 3) (zBX _)))⟩)))))))))) (zBB (zAC (zAL (n:=1) [0] (zAH zBU (dz zA7) (dz (zAH zC3 (zAQ (zA2 (de_v 0) (zA2 zA7 zA6))) (dz zA7)))))
   (zAC (zAL (n:=1) [0,1] (zAQ (zA2 (de_v 0) (zA2 zA7 (zA2 (de_v 1) zA6)))))
   (zAC (zAL (n:=2) [0,1] (zHO (n:=1) (zHZ (zA2 zA7 zA6)) (zC2 11) zNM (zHO (n:=0) (zHZ (zA2 (de_v 1) zA6)) (zC2 12) zNM (zAH zC3 (zAQ (zA2 (de_v 0) (zA2 (zAM (zAH zBU (zAH zBU (dz zA7) (dz (zAH zCN (dz zA7) (de_v 11)))) (de_v 12))) zA6))) (dz zA7)))))
   (zAC (zDG (dt_b (dz (zAH zK8 (dz (zAH zC3 (dz (zAH zFK (zAQ (zA2 (de_v 0) (zA2 zA7 zA6))) (dz zA7))) (dz zA7))) (dz zA7)))) (zAC (zR0 [0,1] (zP4 (zEG 2 (zEG 4 zLQ)) rfl) (zAQ (zA2 (de_v 0) (zA2 (de_v 1) zA6))))
   (zT7 3 [4] (dz (zAH zC3 (zAQ (zA2 (de_v 0) (zA2 zA7 zA6))) (dz zA7))) (de_v 4))) zC7)
   (zAC (zAL (n:=0) [1,0] (zAH zC3 (zAQ (zA2 (de_v 0) (zA2 zA7 zA6))) (de_v 1)))
   (zAC (zAL (n:=1) [] (zBA (n:=0) (zA2 zA7 (zA2 zA7 zA6))))
   (zAC (zDG (zQY (dt_b (dz (zAH zO2 (de_v 1) (dz zA7)))) (dt_b (dz (zAH zK9 (zAH zBU (dz (zCB zD8 (zA2 (zAM (zAQ (zA2 (de_v 2) (zA2 (zAH zBR (de_v 3) (dz zA7)) zA6)))) zA6))) (dz (zCB zD8 (zA2 (zAM (zAQ (zA2 (de_v 2) (zA2 (zAH zBR (de_v 3) (dz zA7)) zA6)))) zA6)))) (dz zA7))))) (zAL (n:=1) [] (zBA (n:=0) (zA2 zA7 (zA2 zA7 (zA2 zA7 zA6))))) zC7)
   (zAC (zAL (n:=2) [3] (zBA (n:=1) (zA2 (zCB zHQ (zA2 (zAH zBR (de_v 3) (dz zA7)) zA6)) (zA2 (zCB zHQ (zA2 (zAH zBR (de_v 3) (dz zA7)) zA6)) zA6))))
   (zAC (zGK [6] (zEX (de_v 6)) (zC2 8) (zAC (zAL (n:=1) [8,2,3] (zAQ (zA2 (de_v 8) (zA2 (de_v 2) (zA2 (zAH zBR (de_v 3) (dz zA7)) (zA2 (zAH zBR (de_v 3) (dz zA7)) zA6))))))
   (zAC (zAL (n:=0) [8,5,2,7] (zAQ (zA2 (de_v 8) (zA2 (zAM (zCB zHQ (zA2 (de_v 2) zA6))) (zA2 (zAH zBR (de_v 7) (dz zA7)) (zA2 (zAH zBR (de_v 7) (dz zA7)) (zA2 (de_v 5) zA6)))))))
   (zDG (zQY (zFY (dt_b (dz (zAH zaB (de_v 9) (dz zNO)))) (zL8 (dt_m (dz (zLC (by decide) (de_v 10)))))) (zFY (dt_b (dz (zAH zVC (de_v 9) (dz zNO)))) (dt_b (dz (zAH zO2 (de_v 10) (de_v 9)))))) (zBY (n:=0) [] zWT) zC7))))
   (zBY (n:=0) [7,3] (zAH zK8 (de_v 7) (de_v 3)))))))))))) h)
end
theorem all_mk{l:qDd}{w:World}{K:qA1}{h:Heap}{mg:Str->Option Value}{fa f26 f27 a_RoundError a_NoOne a_TooMany:Addr}{dd_RoundError dd_NoOne dd_TooMany:Option Addr}{cd_RoundError cd_NoOne cd_TooMany:ClassData}{sl_RoundError sl_NoOne sl_TooMany:Array (Option Value)}(X:K.In h)(G:h.Ns qHc mg)(hfa:mg "law" = some (.ref fa))
  {od26 an26 od27 an27:Option Addr} {sl26 sl27:Array (Option Value)} {oc26 kV26 dc26 pm26 cd26 ct26 oc27 kV27 dc27 pm27 cd27 ct27:Value} {t1 t2:Tok} {ut0:Addr} {ud0:Option Addr} {un0:Nat} {us0:Array (Option Value)} {tu0_0 tu0_1 tu0_2:Tok}
  (S:Bd K mg)
  (a26:qBe K qHc "law" = some (some (.ref f26)))
  (l26:K.lookup f26=some ⟨oc26,od26,.func (qAz "law" "law" (zBS (top 38)) (zB1 (top 38)) (zA9 (top 38)) .none kV26 dc26 pm26 an26 cd26 ct26),sl26⟩)
  (c26:qBo K cd26 "law" = true)
  (k26:qAv K (.ref f26)=true)
  (y0:qBe K qHc "ALL_WAYS" = some (some (.ref ut0)))
  (yl0:K.lookup ut0=some ⟨.type "tuple",ud0,.seq #[.int 0 tu0_0,.int 1 tu0_1,.int 2 tu0_2] un0,us0⟩)
  (y1:qBe K qHc "MOST_CHOSEN" = some (some (.int 6 t1)))
  (y2:qBe K qHc "SEATS" = some (some (.int 4 t2)))
  (xa_RoundError:qBe K qHc "RoundError" = some (some (.ref a_RoundError)))
  (xl_RoundError:K.lookup a_RoundError=some ⟨.type "type",dd_RoundError,.cls cd_RoundError,sl_RoundError⟩)
  (xd_RoundError:xcD a_RoundError cd_RoundError sl_RoundError=true)
  (xn_RoundError:qBn K a_RoundError=some cd_RoundError)
  (xo_RoundError:PySem.W.excTail cd_RoundError.mro=true)
  (xt_RoundError:qBz K (.ref a_RoundError)=some (.type "type"))
  (xg_RoundError:qAi K (.ref a_RoundError) "__getattribute__" = some (some (.builtin "BaseException.__getattribute__")))
  (xh_RoundError:qAi K (.ref a_RoundError) "__getattr__" = some none)
  (xj_RoundError:qCw K a_RoundError=true)
  (xm_RoundError:qAi K (.ref a_RoundError) "__class__" = some (some (.builtin "object.__class__")))
  (xp_RoundError:qDu K a_RoundError (.type "object")=some true)
  (xv_RoundError:qAt K (.ref a_RoundError) (.type "ValueError")=some true)
  (xw_RoundError:qAt K (.ref a_RoundError) (.type "BaseException")=some true)
  (xa_NoOne:qBe K qHc "NoOne" = some (some (.ref a_NoOne)))
  (xl_NoOne:K.lookup a_NoOne=some ⟨.type "type",dd_NoOne,.cls cd_NoOne,sl_NoOne⟩)
  (xd_NoOne:xcD a_NoOne cd_NoOne sl_NoOne=true)
  (xn_NoOne:qBn K a_NoOne=some cd_NoOne)
  (xo_NoOne:PySem.W.excTail cd_NoOne.mro=true)
  (xt_NoOne:qBz K (.ref a_NoOne)=some (.type "type"))
  (xg_NoOne:qAi K (.ref a_NoOne) "__getattribute__" = some (some (.builtin "BaseException.__getattribute__")))
  (xh_NoOne:qAi K (.ref a_NoOne) "__getattr__" = some none)
  (xj_NoOne:qCw K a_NoOne=true)
  (xm_NoOne:qAi K (.ref a_NoOne) "__class__" = some (some (.builtin "object.__class__")))
  (xp_NoOne:qDu K a_NoOne (.type "object")=some true)
  (xv_NoOne:qAt K (.ref a_NoOne) (.type "ValueError")=some true)
  (xw_NoOne:qAt K (.ref a_NoOne) (.type "BaseException")=some true)
  (xa_TooMany:qBe K qHc "TooMany" = some (some (.ref a_TooMany)))
  (xl_TooMany:K.lookup a_TooMany=some ⟨.type "type",dd_TooMany,.cls cd_TooMany,sl_TooMany⟩)
  (xd_TooMany:xcD a_TooMany cd_TooMany sl_TooMany=true)
  (xn_TooMany:qBn K a_TooMany=some cd_TooMany)
  (xo_TooMany:PySem.W.excTail cd_TooMany.mro=true)
  (xt_TooMany:qBz K (.ref a_TooMany)=some (.type "type"))
  (xg_TooMany:qAi K (.ref a_TooMany) "__getattribute__" = some (some (.builtin "BaseException.__getattribute__")))
  (xh_TooMany:qAi K (.ref a_TooMany) "__getattr__" = some none)
  (xj_TooMany:qCw K a_TooMany=true)
  (xm_TooMany:qAi K (.ref a_TooMany) "__class__" = some (some (.builtin "object.__class__")))
  (xp_TooMany:qDu K a_TooMany (.type "object")=some true)
  (xv_TooMany:qAt K (.ref a_TooMany) (.type "ValueError")=some true)
  (xw_TooMany:qAt K (.ref a_TooMany) (.type "BaseException")=some true)
  (ycg:qCx K (.builtin "object.__class__") "__get__" = some (some (.builtin "getset_descriptor.__get__")))
  (yct:qFp K (.builtin "object.__class__")=some true)
  (zk_TooMany:qAv K (.ref a_TooMany)=true)
  (zi_TooMany:qAi K (.ref a_TooMany) "__init__" = some (some (.builtin "ValueError.__init__")))
  (xc_NoOne:qAi K (.ref a_NoOne) "__setattr__" = some (some (.builtin "object.__setattr__")))
  (xq_NoOne:qFy K a_NoOne "many" = some none)
  (xr_NoOne:qAi K (.ref a_NoOne) "many" = some none)
  (xs_NoOne:qAv K (.ref a_NoOne)=true)
  (xi_NoOne:qAi K (.ref a_NoOne) "__init__" = some (some (.ref f27)))
  (xf_NoOne:qEf K (.ref f27)=true)
  (l27:K.lookup f27=some ⟨oc27,od27,.func (qAz "__init__" "NoOne.__init__" (zBS zEH) (zB1 zEH) (zA9 zEH) .none kV27 dc27 pm27 an27 cd27 ct27),sl27⟩)
  (c27:qBo K cd27 "NoOne.__init__" = true)
  (k27:qAv K (.ref f27)=true)
  (wg_RoundError:qCx K (.ref a_RoundError) "__getattribute__" = some (some (.builtin "type.__getattribute__")))
  (wr_RoundError:qFw K a_RoundError (.type "type")=true)
  (wf_RoundError:qFx K (.ref a_RoundError) (.type "type") "__init__" = some (.val (.builtin "ValueError.__init__")))
  (q0_NoOne:qAi K (.ref a_NoOne) "many" = some none)
  (s_NoOne_NoOne:qAt K (.ref a_NoOne) (.ref a_NoOne)=some true)
  (s_RoundError_NoOne:qAt K (.ref a_RoundError) (.ref a_NoOne)=some false)
  (e_RoundError_NoOne:(a_RoundError==a_NoOne)=false)
  (s_TooMany_NoOne:qAt K (.ref a_TooMany) (.ref a_NoOne)=some false)
  (e_TooMany_NoOne:(a_TooMany==a_NoOne)=false)
  (s_TooMany_TooMany:qAt K (.ref a_TooMany) (.ref a_TooMany)=some true)
  (s_RoundError_TooMany:qAt K (.ref a_RoundError) (.ref a_TooMany)=some false)
  (e_RoundError_TooMany:(a_RoundError==a_TooMany)=false)
  (s_NoOne_TooMany:qAt K (.ref a_NoOne) (.ref a_TooMany)=some false)
  (e_NoOne_TooMany:(a_NoOne==a_TooMany)=false)
  (s_RoundError_RoundError:qAt K (.ref a_RoundError) (.ref a_RoundError)=some true)
  (s_NoOne_RoundError:qAt K (.ref a_NoOne) (.ref a_RoundError)=some true)
  (s_TooMany_RoundError:qAt K (.ref a_TooMany) (.ref a_RoundError)=some true)
  :∃fd:qHo,(∀(s:qH6)(v:Value),qK5 s fd ⟨[v],[]⟩ [("_law_script",v)])/\∀base:Heap,K.In base->base.Ns qHc mg->FnOk l.prog w K mg base CX0 10 fa fd ["_law_script"] (zI0 K):=by
 have e:=hfa.symm.trans (qBv X G a26);cases e;have c_ALL_WAYS:KTup K ut0 [0,1,2]/\mg "ALL_WAYS" = some (.ref ut0):=⟨zW6 yl0 rfl rfl (by show 3<=sizeLine;decide) ((.cons ⟨_,rfl⟩ (.cons ⟨_,rfl⟩ (.cons ⟨_,rfl⟩ .nil)))),qBv X G y0⟩
 have c_MOST_CHOSEN:RelV (V.int 6) (.int 6 t1)/\mg "MOST_CHOSEN" = some (.int 6 t1):=⟨⟨_,rfl⟩,qBv X G y1⟩
 have c_SEATS:RelV (V.int 4) (.int 4 t2)/\mg "SEATS" = some (.int 4 t2):=⟨⟨_,rfl⟩,qBv X G y2⟩
 have i_RoundError:Xc.XIs K a_RoundError:=⟨zLP xl_RoundError xd_RoundError,xg_RoundError,xh_RoundError,xj_RoundError,xm_RoundError,ycg,yct,xp_RoundError⟩
 have i_NoOne:Xc.XIs K a_NoOne:=⟨zLP xl_NoOne xd_NoOne,xg_NoOne,xh_NoOne,xj_NoOne,xm_NoOne,ycg,yct,xp_NoOne⟩
 have i_TooMany:Xc.XIs K a_TooMany:=⟨zLP xl_TooMany xd_TooMany,xg_TooMany,xh_TooMany,xj_TooMany,xm_TooMany,ycg,yct,xp_TooMany⟩
 have n_RoundError:XCls K mg "RoundError" a_RoundError:=⟨zES xa_RoundError,qBv X G xa_RoundError,i_RoundError⟩
 have n_NoOne:XCls K mg "NoOne" a_NoOne:=⟨zES xa_NoOne,qBv X G xa_NoOne,i_NoOne⟩
 have n_TooMany:XCls K mg "TooMany" a_TooMany:=⟨zES xa_TooMany,qBv X G xa_TooMany,i_TooMany⟩
 have z_TooMany:XNo K mg "TooMany" a_TooMany:=⟨n_TooMany,zk_TooMany,zi_TooMany⟩
 have w_RoundError:XBase K a_RoundError:=⟨wg_RoundError,wr_RoundError,wf_RoundError,zaS⟩
 have q0:(∀c∈(["NoOne"]:List Str),∃C,clK K c=some C/\Xc.XIs K C/\qAi K (.ref C) "many" = some none):=by
  intro c h;simp only[qAj,qBl,or_false]at h;subst h;exact⟨a_NoOne,zES xa_NoOne,i_NoOne,q0_NoOne⟩
 have q1_y:(∀c∈(["NoOne"]:List Str),∃C,clK K c=some C/\Xc.XIs K C/\kitV K C (V.ref a_NoOne)=some true):=by
  intro c h;simp only[qAj,qBl,or_false]at h;subst h;exact⟨a_NoOne,zES xa_NoOne,i_NoOne,(zND xn_NoOne xt_NoOne s_NoOne_NoOne)⟩
 have q1_n:(∀c∈(["RoundError","TooMany"]:List Str),∃C,clK K c=some C/\Xc.XIs K C/\kitV K C (V.ref a_NoOne)=some false):=by
  intro c h;simp only[qAj,qBl,or_false]at h
  rcases h with rfl|rfl
  ·exact⟨a_RoundError,zES xa_RoundError,i_RoundError,(zGR xn_NoOne xt_NoOne s_RoundError_NoOne e_RoundError_NoOne)⟩
  ·exact⟨a_TooMany,zES xa_TooMany,i_TooMany,(zGR xn_NoOne xt_NoOne s_TooMany_NoOne e_TooMany_NoOne)⟩
 have q1:(∀c∈(["NoOne"]:List Str),∃C,clK K c=some C/\Xc.XIs K C/\kitV K C (V.ref a_NoOne)=some true)/\(∀c∈(["RoundError","TooMany"]:List Str),∃C,clK K c=some C/\Xc.XIs K C/\kitV K C (V.ref a_NoOne)=some false):=⟨q1_y,q1_n⟩
 have q2_y:(∀c∈(["TooMany"]:List Str),∃C,clK K c=some C/\Xc.XIs K C/\kitV K C (V.ref a_TooMany)=some true):=by
  intro c h;simp only[qAj,qBl,or_false]at h;subst h;exact⟨a_TooMany,zES xa_TooMany,i_TooMany,(zND xn_TooMany xt_TooMany s_TooMany_TooMany)⟩
 have q2_n:(∀c∈(["RoundError","NoOne"]:List Str),∃C,clK K c=some C/\Xc.XIs K C/\kitV K C (V.ref a_TooMany)=some false):=by
  intro c h;simp only[qAj,qBl,or_false]at h
  rcases h with rfl|rfl
  ·exact⟨a_RoundError,zES xa_RoundError,i_RoundError,(zGR xn_TooMany xt_TooMany s_RoundError_TooMany e_RoundError_TooMany)⟩
  ·exact⟨a_NoOne,zES xa_NoOne,i_NoOne,(zGR xn_TooMany xt_TooMany s_NoOne_TooMany e_NoOne_TooMany)⟩
 have q2:(∀c∈(["TooMany"]:List Str),∃C,clK K c=some C/\Xc.XIs K C/\kitV K C (V.ref a_TooMany)=some true)/\(∀c∈(["RoundError","NoOne"]:List Str),∃C,clK K c=some C/\Xc.XIs K C/\kitV K C (V.ref a_TooMany)=some false):=⟨q2_y,q2_n⟩
 have q3_y:(∀c∈(["RoundError","NoOne","TooMany"]:List Str),∃C,clK K c=some C/\Xc.XIs K C/\kitV K C (V.ty "ValueError")=some true):=by
  intro c h;simp only[qAj,qBl,or_false]at h
  rcases h with rfl|rfl|rfl
  ·exact⟨a_RoundError,zES xa_RoundError,i_RoundError,(zHE xv_RoundError)⟩
  ·exact⟨a_NoOne,zES xa_NoOne,i_NoOne,(zHE xv_NoOne)⟩
  ·exact⟨a_TooMany,zES xa_TooMany,i_TooMany,(zHE xv_TooMany)⟩
 have q3_n:(∀c∈([]:List Str),∃C,clK K c=some C/\Xc.XIs K C/\kitV K C (V.ty "ValueError")=some false):=by
  intro c h;simp only[qAj,qBl,or_false]at h
 have q3:(∀c∈(["RoundError","NoOne","TooMany"]:List Str),∃C,clK K c=some C/\Xc.XIs K C/\kitV K C (V.ty "ValueError")=some true)/\(∀c∈([]:List Str),∃C,clK K c=some C/\Xc.XIs K C/\kitV K C (V.ty "ValueError")=some false):=⟨q3_y,q3_n⟩
 have q4:(∀c∈(["RoundError","NoOne","TooMany"]:List Str),∃C,clK K c=some C/\qCl K (.ref C) (.ref a_RoundError)=some true):=by
  intro c h;simp only[qAj,qBl,or_false]at h
  rcases h with rfl|rfl|rfl
  ·exact⟨a_RoundError,zES xa_RoundError,zHL xw_RoundError xn_RoundError xt_RoundError s_RoundError_RoundError⟩
  ·exact⟨a_NoOne,zES xa_NoOne,zHL xw_RoundError xn_RoundError xt_RoundError s_NoOne_RoundError⟩
  ·exact⟨a_TooMany,zES xa_TooMany,zHL xw_RoundError xn_RoundError xt_RoundError s_TooMany_RoundError⟩
 refine⟨qAz "law" "law" (zBS (top 38)) (zB1 (top 38)) (zA9 (top 38)) .none kV26 dc26 pm26 an26 cd26 ct26,fun s v=>.of_eq rfl,fun base _ _=>?_⟩;have F_NoOne:=zQR (x:="__init__") (qual:="NoOne.__init__") (st:=zEH) l27 c27 k27;have x_NoOne:XIni l.prog w K mg base "NoOne" "many" a_NoOne:=⟨n_NoOne,xs_NoOne,⟨xc_NoOne,zVR xn_NoOne xo_NoOne,xq_NoOne,xj_NoOne⟩,xr_NoOne,f27,_,["self","many"],xi_NoOne,xf_NoOne,zIY F_NoOne w_RoundError n_RoundError.gm,F_NoOne.binds (fun _ _ _ _ _ _=>uw2 fun _ _=>rfl)⟩
 exact zYP ⟨S,_,_,_,_,_,_,n_NoOne,n_TooMany,q0,q1,q2,q3,c_SEATS,x_NoOne,c_ALL_WAYS,c_MOST_CHOSEN,z_TooMany,n_RoundError,q4⟩ (zQR (st:=(top 38)) l26 c26 k26)
theorem walk{l:qDd}{q:qH9}{loose:List Str}{XP:(Str->Option Value)->Heap->Prop}{d:DefRec}{K:Params->qA1}{YP:World->Heap->Prop}(hn:l.most=some 63)(hdf:d.params.defaults=[])(hY:∀(w:World) (h:Heap),YP w h->(K w.params).In h)
  (F:∀(w:World)(mg:Str->Option Value)(fa:Addr)(h:Heap),(K w.params).In h->h.Ns qHc mg->mg d.name=some (.ref fa) ->
   TbE (K w.params) []/\∃fd:qHo,(∀(s:qH6)(u:Value),qK5 s fd ⟨[u],[]⟩ [("_law_script",u)])/\∀base:Heap,(K w.params).In base->base.Ns qHc mg->FnOk l.prog w (K w.params) mg base CX0 10 fa fd ["_law_script"] (zI0 (K w.params))) :
  qF0 q loose XP YP l.row.toRowW d [] (fun f vs=>qFb f vs):=
 L3.walk_of0 (n:=63) (k:=10) (x:="_law_script") hn (by decide) hdf ⟨rfl,by decide,by decide⟩ hY F
end Q66
open PySem PySem.W PyProof.Rows
set_option maxRecDepth 100000 in
set_option maxHeartbeats 0 in
theorem PySem.Challenge.cw_fourway_k66_turnings_refused_holds : PySem.Challenge.rw_fourway_k66_turnings_refused.Holds := by
 refine hdZ.2 ?_;dsimp only[hdZ]
 k_fill
 refine Q66.walk (l:=qC0) rfl rfl (fun w h Y=>PySem.W.kIn_of Y) ?F
 case F=>
  intro w mg fa h KX G hmg;have T:L3.Tb (L2.KOf KX) [] none none none:=by
   dsimp only[L2.KOf];exact⟨L3.mk1_none (by k_is),L3.mk1_none (by k_is),L3.mk1_none (by k_is)⟩
  refine' ⟨⟨_,_,_,T⟩,Q66.all_mk KX G hmg (by constructor<;>first|exact L3.mkD KX G (by k_is) (by k_is) (by k_is) (by k_is)|exact PySem.W.mg_none_of KX G (by k_is)|exact L2.mkDD KX G (by k_is) (by k_is) (by k_is) (by k_is) (by k_is) (by rfl)) (by k_is) (by k_is) (by k_is) (by k_is) (by k_is) (by k_is) (by k_is) (by k_is) (by k_is) (by k_is) (by rfl) (by k_is) (by rfl) (by k_is) (by k_is) (by k_is) (by k_is) (by k_is) (by k_is) (by k_is) (by k_is) (by k_is) (by k_is) (by rfl) (by k_is) (by rfl) (by k_is) (by k_is) (by k_is) (by k_is) (by k_is) (by k_is) (by k_is) (by k_is) (by k_is) (by k_is) (by rfl) (by k_is) (by rfl) (by k_is) (by k_is) (by k_is) (by k_is) (by k_is) (by k_is) (by k_is) (by k_is) (by k_is) (by k_is) (by k_is) (by k_is) (by k_is) (by k_is) (by k_is) (by k_is) (by k_is) (by k_is) (by k_is) (by k_is) (by k_is) (by k_is) (by k_is) (by k_is) (by k_is) (by k_is) (by k_is) (by rfl) (by k_is) (by rfl) (by k_is) (by k_is) (by rfl) (by k_is) (by rfl) (by k_is) (by k_is) (by k_is)⟩
