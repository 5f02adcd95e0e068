import PyProof.Rows.All
import Wide.All
import OpenK.AllK
import Wide.FinOn
import Lean
import PyProof.EqAt
import PyProof.EqKinds
import PyProof.TupleCall
import PyProof.NeKinds
import KE.KLam
import KE.KNestM
import PySem.Challenge.RW_fourway_k72_whole_any_order
set_option Elab.async false
set_option linter.all false
set_option maxRecDepth 100000
open Array renaming getElem?_eq_some_iff->qBi,getElem?_toList->qCd,getElem?_eq_getElem->qCl,length_toList->qD7,getElem?_eq_none->qEb,toList->qH9
open Bool renaming false_ne_true->qAa,and_eq_true->qBu,false_eq_true->qC9,and_false->qCx,eq_iff_iff->qD8,and_true->qDz,or_true->qEi,or_eq_true->qFz,or_false->qH2
open Char renaming toNat->qHl
open Classical renaming propDecidable->qA1,axiomOfChoice->qE2
open False renaming elim->qAf
open ForInStep renaming yield->qCf
open Function renaming comp_def->qDr
open Int renaming toNat_natCast->qBa,emod_nonneg->qBl,emod_lt_of_pos->qCa,ediv_one->qFm,mul_one->qHe
open List renaming getD_eq_getElem?_getD->qA0,replicate->qA3,getElem?_eq_some_iff->qA4,getElem?_eq_getElem->qA5,range->qA7,getElem?_append_left->qA8,mem_cons_of_mem->qA9,mem_map->qAb,getElem?_append_right->qAc,mem_cons->qAd,getElem?_map->qAe,size_toArray->qAg,mem_cons_self->qAi,map_cons->qAj,getElem?_set_self->qAk,getElem?_set_ne->qAl,length_map->qAm,map_map->qAo,nodup_cons->qAp,mem_append_right->qAq,mem_singleton->qAr,map_congr_left->qAs,append_assoc->qAu,mem_of_getElem?->qAw,getElem_mem->qAx,length_append->qAy,replicate_succ->qAz,mem_append->qB0,length_cons->qB1,mem_flatMap->qB5,ext_getElem->qB9,mem_filter->qBb,getElem?_replicate->qBc,eraseIdx_cons_succ->qBd,lookup_cons->qBe,all_eq_true->qBf,take_succ_eq_append_getElem->qBh,flatten_cons->qBj,contains_cons->qBm,getElem?_cons_succ->qBn,getElem?_cons_zero->qBo,flatMap_cons->qBq,append_nil->qBr,map_append->qBs,length_eraseIdx_of_lt->qBt,nodup_range->qBv,getElem_range->qBx,foldl_cons->qC1,find?_cons->qC2,nodup_append->qC3,eq_nil_of_length_eq_zero->qC6,nil_append->qCe,getElem?_eq_none->qCj,mem_range->qCk,take_length->qCm,getElem_map->qCn,of_mem_zip->qCq,count_eq_zero->qCs,eraseIdxIfInBounds_toArray->qCv,lookup->qCw,length_replicate->qCy,any_eq_true->qD0,cons_append->qD1,not_mem_nil->qD2,mem_append_left->qD3,mem_iff_getElem->qD4,mem_of_mem_tail->qD5,filterMap_cons->qD6,length->qD9,length_set->qDa,drop_zero->qDe,drop_eq_getElem_cons->qDf,mem_or_eq_of_mem_set->qDh,foldl_nil->qDi,exists_mem_of_ne_nil->qDj,length_erase_of_mem->qDo,cons->qDp,length_range->qDq,foldl_append->qDs,eq_of_mem_replicate->qDt,sum_cons->qE0,length_eq_zero_iff->qE1,getElem_inj->qE4,length_take->qE5,filter_cons->qE6,flatMap_nil->qE9,getElem_cons_succ->qEc,take_of_length_le->qEd,length_pos_of_mem->qEe,length_singleton->qEg,map_set->qEh,count_cons->qEk,length_eraseIdx->qEl,mem_erase_of_ne->qEm,nodup_nil->qEp,map_eq_nil_iff->qEw,getElem?_range->qEx,getElem_of_mem->qEy,flatMap_append->qEz,length_pos_iff->qF0,mem_filterMap->qF1,findIdx?_cons->qF7,find?_eq_none->qF8,any_eq_false->qFa,reverse_cons->qFh,getElem?_set->qFi,drop_length->qFt,perm_middle->qFu,forIn_cons->qFy,range_succ->qG0,find?_some->qG1,all_append->qG2,filter_map->qG4,forIn_nil->qGi,foldl->qGx,all_cons->qH3,nil_perm->qH6,perm_nil->qH7,map_nil->qHa,filter->qHf,map->qHj,drop->qHn,take->qHo
open List.Pairwise renaming nil->qFe,imp_of_mem->qH0
open List.Perm renaming append_left->qCg,cons->qEr,refl->qEs,swap->qGj
open List.cons renaming injEq->qG3
open Nat renaming le_refl->qA6,lt_of_lt_of_le->qAh,le_trans->qAn,zero_le->qAt,ne_of_lt->qAv,zero_add->qBp,lt_irrefl->qBw,ne_of_gt->qCb,le_of_lt->qCo,le_antisymm->qCr,lt_of_le_of_lt->qDd,le_succ->qDx,le_of_eq->qEj,pow_le_pow_right->qEn,mul_assoc->qF9,lt_succ_of_lt->qFf,mul_comm->qFk,min_self->qFl,pow_succ->qFo,le_add_right->qFr,lt_succ_self->qFs,log2_two_pow->qFv,max_eq_right->qFw,one_mul->qG5,max_eq_left->qG6,max_assoc->qH5,pow_zero->qHc,add_zero->qHd,pow_add->qHg
open Nat.succ renaming inj->qHb
open Ne renaming symm->qC8
open Option renaming isSome_iff_exists->qDn,getD_some->qE7,none->qEu,isSome_some->qF4,getD_none->qFq,map->qGy
open Option.some renaming inj->qB3,injEq->qHk
open Or renaming inr->qHh,inl->qHm
open Prod renaming fst->qHi
open PyProof.Rows renaming callWith_type1->qCc,envOfC->qEv,callWith_builtin1->qFj,preSum_getD->qGz,slot_tuple_getitem->qIv,boot_list->qIx,boot_range->qJb,boot_isinstance->qJh,AllBare->qJw,subscriptTail_builtinR->qK1,IntsAre->qKo,boot_tuple->qL2,Subscript_->qLn
open PySem renaming mem_of_lookup->qC4,call->qFg,KeyKind->qH1,Within->qH8,Shared->qHp,Program->qHr,Around->qHv,mainGlobals->qHx,wpAny_loadPart_at->qI2,FuncData->qI6,boot_len->qI7,wpAny_passesOwn->qId,wpAny_isSubtype_exc->qIf,sysModules->qIi,NameKind->qIj,sizeLine_eq->qIn,strIterType->qIo,bootBuiltins->qIq,wpAny_Call_Name_kw->qIu,IsRangeIter->qIy,foldedSetIterable->qIz,GenState->qJ0,codeAny->qJ4,builtinsNs->qJa,wpAny_execs_nil->qJd,wpAny_ite_split->qJf,ExcBaseFacts->qJo,firstArgMember->qJq,behindInMarks->qJx,plainId_quiet->qJy,Paired->qJz,wpAny_pyIter_rangeiter->qK0,codeAny_builtin->qK8,bindArgs->qKb,callerA->qKq,swapsWith->qKs,Result->qKt,wpAny_assign_Name->qKv,wpAny_truthy_bool->qKw,BindsTo->qKy,slot_list_getitem->qKz,seqIndex_neg->qL3,PassesOwn->qLa,seqIndex?->qLb,seqIndex_of->qLc,Builtin->qLg,wpAny_Name->qLm,standAt->qLq,Keyword->qLr
open PySem.Challenge renaming rw_fourway_k72_whole_any_order->qC0,pw_fourway_k72_whole_any_order->qDk
open PySem.EqMixed renaming eq_bool_str->qGa,eq_str_bool->qGb,ne_bool_str->qGf,ne_str_bool->qGg,eq_int_str->qGo,eq_str_int->qGq,ne_int_str->qGu,ne_str_int->qGw
open PySem.EqNone renaming eq_none_none->qG7,eq_none_bool->qG8,eq_bool_none->qG9,ne_none_none->qGc,ne_none_bool->qGd,ne_bool_none->qGe,eq_none_int->qGl,eq_none_str->qGm,eq_int_none->qGn,eq_str_none->qGp,ne_none_int->qGr,ne_none_str->qGs,ne_int_none->qGt,ne_str_none->qGv
open PySem.F renaming plainAttrs_list->qB6,plain_extend_loop->qBk,slot_list_pop->qBy,type_list_pop->qBz,slot_range_reversed->qCh,slot_range_iterator_length_hint->qCi,slot_range_iterator_next->qCt,slot_dict_get->qCz,plain_reversed_new->qDc,entry_extend_loop->qDg,slot_list_append->qDu,type_list_append->qDv,args_dict_get_3->qDy,entry_dict_get->qEa,slot_dict_keyiterator_next->qI3,slot_NoneType_hash->qIk,args_dict_keyiterator_next_1->qJ2,slot_bool_hash->qJ3,entry_dict_keyiterator_next->qJ5,entry_list_pop->qL6,slot_dict_iter->qL9,slot_list_pop->qLd,slot_int_rmul->qLe
open PySem.W renaming Frag->qA2,findIn->qB2,keepIn->qB4,fnOf->qB7,kia_one->qB8,nsIn->qBg,mg_of->qC5,codeIn->qC7,cellsFrom_some->qCu,OpenLaw->qDb,methodObj->qDl,hasDictIn->qDm,subIn->qE3,codeHdIn->qE8,instObj->qEf,lookIn->qEo,tabObj->qEq,mroIn->qF2,callWith_K->qF3,clsIn->qF5,WalkO->qF6,specialIn->qFb,kitx_list->qFc,kitx_dict->qFd,envX->qFn,plainGet->qFp,takesIn->qFx,kitOne->qGh,typeIn->qGk,Looks->qH4
open Sum renaming inl->qDw,inr->qEt
open True renaming intro->qCp
set_option compiler.extract_closed false
set_option genSizeOf false
set_option genSizeOfSpec false
set_option bootstrap.genMatcherCode false
open PySem.Around renaming under_plainId->qJ6
open PySem.Builtin renaming bitXor->qJ1
open PySem.Builtin.Dict renaming showsAll->qK9
open PySem.Builtin.Dict_items renaming ownsTuple->qJ8
open PySem.Builtin.Int renaming intBits->qIp,intTooBig->qK7
open PySem.Builtin.List renaming listTooLong->qI5,listExtendWith->qI9,listLengthHint->qJe,listSameRef->qJv,listItems->qK3
open PySem.Builtin.Range renaming rangeSize->qIe,rangeFitsLong->qJg,rangeFields->qLl
open PySem.Builtin.Slice renaming slicePlaces->qIc,sliceAdjust->qIm,sliceApplied->qJj,sliceFields->qLk
open PySem.Builtin.Str renaming strSliceIndices->qI8
open PySem.Builtin.Tuple renaming tupleItemsOf->qLi,tupleIsExact->qLj
open PySem.Calls renaming Name_function_global->qJi,spliced_cons->qJn,callWith_builtin->qK2,evalArgs_plain->qKf,spliced_nil->qKx
open PySem.Code renaming quiet_builtin->qKu
open PySem.EntryCells renaming newEntry->qKp
open PySem.Heap renaming get?_push_of_some->qHq,lt_size->qHs,get?_push_size->qHt,get?_update_other->qHu,get?_update_self->qI0,size_push->qIg,get?_none_of_le->qIl,SameBut->qJm,MadeExcOf->qJp
open PySem.Heap.IsSliceOf renaming new->qLw
open PySem.Heap.SameBut renaming update->qKr
open PySem.NameKind renaming free->qHz,cell->qIa
open PySem.Obj renaming mapFields->qI1,data_mapFields->qIb,isFreed_of_fields->qIh,mapSeq->qIr,cls_mapFields->qL1
open PySem.Paired renaming length->qIt
open PySem.PassesOwn renaming never->qI4
open PySem.SeqAt renaming EqAt->qJt,RcNeAt->qL4,RcAt->qLo
open PySem.SeqAt.EqAt renaming of_refs->qIw,same->qJc,int_str->qJk,str_int->qJl,none_bool->qKc,bool_none->qKd,bool_bool->qKe,none_int->qKg,none_str->qKh,bool_int->qKi,bool_str->qKj,int_none->qKk,int_bool->qKl,str_none->qKm,str_bool->qKn
open PySem.SeqAt.RcAt renaming lists_lengths->qJu,list_tuple->qK5,tuple_list->qK6,tuples->qL0,lists->qL7
open PySem.Str renaming ofString->qIs,ofString_eq_toList->qK4
open PySem.Txt renaming slice->qLs
open PySem.Value renaming ref->qHw,none->qHy,builtin->qJ7,type->qJ9,int->qJr,str->qJs,bool->qKa,isStrOf->qLp,isInt->qLu,float->qLv
open PySem.W.WData renaming layableAll->qL8,int->qLf,weightAll->qLh,weight->qLt
open PySem.W.WShape renaming has->qLx
open PySem.pickOrder renaming go->qL5
noncomputable section
set_option maxHeartbeats 0 in
def hdZ:PSigma fun H:Prop=>H->PySem.Challenge.rw_fourway_k72_whole_any_order.Holds:=by
 refine' ⟨_,fun x=>?go⟩
 case' go=>w_on;o_law;refine' And.left (b:=_) ⟨?main,And.intro ?hl ?hc⟩
 case main=>
  k_head
  case hw=>w_witness2
 case hc=>exact x
 case hl=>intro w;unfold PySem.W.openEnds PySem.W.fencedOpening PySem.W.topFrom;rewrite[PySem.W.Fast.te10274390034422433532,PySem.W.Fast.te14289696077712309145,PySem.W.Fast.te14082659384304107361,PySem.W.Fast.te4187177175401517315,PySem.W.Fast.te1435165496053646825,PySem.W.Fast.te14364793385576792824];kernel_rfl
namespace L2
open PySem PySem.Spec PyProof.Rows
abbrev Key:=Sum Int Str
noncomputable def zGP:Key->Value->Bool
 |.inl k,v=>qLu k v
 |.inr x,v=>qLp x v
noncomputable def keyH(w:World):Key->Int
 |.inl k=>hashInt k
 |.inr x=>hashStr w x
theorem zAU:∀{k:Key}{v:Value},zGP k v=true->(∃i t,k=qDw i/\v=qJr i t)\/(∃x t,k=qEt x/\v=qJs x t)
 |.inl i,v,h=>by
  obtain⟨t,e⟩:=Value.isInt_shape (k:=i) (v:=v) h;exact .inl ⟨i,t,rfl,e⟩
 |.inr x,v,h=>by
  obtain⟨t,e⟩:=Value.isStrOf_shape (x:=x) (v:=v) h;exact .inr ⟨x,t,rfl,e⟩
theorem zI0(i:Int)(t:Tok):zGP (.inl i) (.int i t)=true:=by simp[zGP,qLu]
theorem zHZ(x:Str)(t:Tok):zGP (.inr x) (.str x t)=true:=by simp[zGP,qLp]
theorem zKG(a b:Int):decide ((qDw a:Key)=qDw b)=(a==b):=by
 by_cases e:a=b
 ·subst e;simp
 ·have h:¬(qDw a:Key)=qDw b:=fun q=>e (Sum.inl.inj q)
  rw[decide_eq_false h];exact(beq_eq_false_iff_ne.mpr e).symm
theorem zRD(a b:Str):decide ((qEt a:Key)=qEt b)=decide (a=b):=by
 by_cases e:a=b
 ·subst e;simp
 ·have h:¬(qEt a:Key)=qEt b:=fun q=>e (Sum.inr.inj q)
  rw[decide_eq_false h,decide_eq_false e]
theorem zRF(a:Int)(b:Str):decide ((qDw a:Key)=qEt b)=false:=decide_eq_false (fun q=>nomatch q)
theorem zRE(a:Str)(b:Int):decide ((qEt a:Key)=qDw b)=false:=decide_eq_false (fun q=>nomatch q)
def zDF(prog:qHr)(w:World):qH1 prog w Key where
 is:=zGP
 hash:=keyH w
 inj:=fun v a b ha hb=>by
  rcases zAU ha with⟨i,t,rfl,rfl⟩|⟨x,t,rfl,rfl⟩
  ·rcases zAU hb with⟨j,u,rfl,e⟩|⟨y,u,rfl,e⟩
   ·injection e with e1 _;rw[e1]
   ·exact nomatch e
  ·rcases zAU hb with⟨j,u,rfl,e⟩|⟨y,u,rfl,e⟩
   ·exact nomatch e
   ·injection e with e1 _;rw[e1]
 byValue:=fun k v h=>by
  rcases zAU h with⟨i,t,rfl,rfl⟩|⟨x,t,rfl,rfl⟩<;>rfl
 pyHash:=fun hv h=>by
  rcases zAU hv with⟨i,t,rfl,rfl⟩|⟨x,t,rfl,rfl⟩
  ·exact wpAny_pyHash_int h
  ·exact wpAny_pyHash_str h
 eqBool:=fun hu hv h=>by
  rcases zAU hu with⟨i,t,rfl,rfl⟩|⟨x,t,rfl,rfl⟩
  ·rcases zAU hv with⟨j,u,rfl,rfl⟩|⟨y,u,rfl,rfl⟩
   ·rw[zKG]at h;exact wpAny_eqBool_int h
   ·rw[zRF]at h;exact qJk i t y u _ _ _ _ h
  ·rcases zAU hv with⟨j,u,rfl,rfl⟩|⟨y,u,rfl,rfl⟩
   ·rw[zRE]at h;exact qJl x t j u _ _ _ _ h
   ·rw[zRD]at h;exact wpAny_eqBool_str h
 «strs»:=fun k x t v h=>by
  rcases zAU h with⟨i,u,rfl,e⟩|⟨y,u,rfl,e⟩
  ·exact nomatch e
  ·injection e with e1 _
   subst e1;cases v<;>rfl
theorem zJ4(prog:qHr)(w:World)(i:Int)(t:Tok):(zDF prog w).is (.inl i) (.int i t)=true:=zI0 i t
theorem zJ3(prog:qHr)(w:World)(x:Str)(t:Tok):(zDF prog w).is (.inr x) (.str x t)=true:=zHZ x t
abbrev KeyN:=Option Key
noncomputable def zIF(b:Bool):Int:=if b then 1 else 0
def zF2:KeyN->Value->Bool
 |none,.none=>true
 |some (.inl i),.bool b=>i==zIF b
 |some k,v=>zGP k v
 |_,_=>false
def zYO(w:World):KeyN->Int
 |none=>4238894112
 |some k=>keyH w k
theorem zB3:∀{k:KeyN}{v:Value},zF2 k v=true->(k=none/\v=qHy)\/(∃b,k=some (qDw (zIF b))/\v=qKa b)\/(∃i t,k=some (qDw i)/\v=qJr i t)\/(∃x t,k=some (qEt x)/\v=qJs x t)
 |none,v,h=>by
  cases v<;>first|exact .inl ⟨rfl,rfl⟩|exact nomatch h
 |some (.inl i),v,h=>by
  by_cases hb:∃b,v=.bool b
  ·obtain⟨b,rfl⟩:=hb;have e:i=zIF b:=by simpa[zF2]using h
   subst e;exact .inr (.inl ⟨b,rfl,rfl⟩)
  ·have h':zGP (.inl i) v=true:=by
    cases v<;>first|exact h|exact absurd ⟨_,rfl⟩ hb
   rcases zAU h' with⟨j,t,e1,e2⟩|⟨x,t,e1,e2⟩
   ·exact .inr (.inr (.inl ⟨j,t,by rw[e1],e2⟩))
   ·cases e1
 |some (.inr x),v,h=>by
  have h':zGP (.inr x) v=true:=by
   cases v<;>exact h
  rcases zAU h' with⟨j,t,e1,e2⟩|⟨y,t,e1,e2⟩
  ·cases e1
  ·exact .inr (.inr (.inr ⟨y,t,by rw[e1],e2⟩))
theorem zLN(i:Int)(t:Tok):zF2 (some (.inl i)) (.int i t)=true:=zI0 i t
theorem zLM(x:Str)(t:Tok):zF2 (some (.inr x)) (.str x t)=true:=zHZ x t
theorem zNO(b:Bool):zF2 (some (.inl (zIF b))) (.bool b)=true:=by simp[zF2]
theorem zNW{prog:qHr}{w:World}{A:qHv}{E:Value->qHp->Prop}{s:qHp}{Q:Int->qHp->Prop}(h:Q 4238894112 { s with toks:=s.toks+1 }):wpAny (model prog w) A (pyHash .none) Q E s:=by
 unfold pyHash;have hT:s.TypeIs .none "NoneType":=rfl;refine wpAny_bind ?_;rw[cRoomFor,if_neg (by exact qAa)];refine wpAny_pure ?_;refine wpAny_bind (wpAny_specialOf hT qIk.lookup ?_);show wpAny _ _ (if(some (qJ7 "NoneType.__hash__")==some qHy)=true then _ else _) Q E s;rw[if_neg (by rw[beq_builtin_none];exact qAa)];refine wpAny_bind (wpAny_specialOf hT qIk.lookup ?_);show wpAny _ _ (callSpecialIfBoundUnlessNone? .none "__hash__" _ >>= _) Q E s;refine wpAny_bind (wpAny_callSpecialIfBoundUnlessNone?_slot hT qIk
  (wpAny_call_entry qIk hT F.entry_NoneType_hash
   (show wpAny _ _ (do ret (<- mkInt 0xFCA86420)) _ _ s from wpAny_ret_mkInt ?_) (F.args_NoneType_hash_1 _)))
 exact wpAny_pure h
theorem zNX{prog:qHr}{w:World}{A:qHv}{E:Value->qHp->Prop}{s:qHp}{b:Bool}{Q:Int->qHp->Prop}(h:Q (hashInt (zIF b)) { s with toks:=s.toks+1 }):wpAny (model prog w) A (pyHash (.bool b)) Q E s:=by
 unfold pyHash;have hT:s.TypeIs (.bool b) "bool":=rfl;refine wpAny_bind ?_;rw[cRoomFor,if_neg (by exact qAa)];refine wpAny_pure ?_;refine wpAny_bind (wpAny_specialOf hT qJ3.lookup ?_);show wpAny _ _ (if(some (qJ7 "int.__hash__")==some qHy)=true then _ else _) Q E s;rw[if_neg (by rw[beq_builtin_none];exact qAa)];refine wpAny_bind (wpAny_specialOf hT qJ3.lookup ?_);show wpAny _ _ (callSpecialIfBoundUnlessNone? (.bool b) "__hash__" _ >>= _) Q E s;refine wpAny_bind (wpAny_callSpecialIfBoundUnlessNone?_slot hT qJ3
  (wpAny_call_entry qJ3 hT entry_int_hash
   (show wpAny _ _ (do ret (<- mkInt (rawHash (zIF b)))) _ _ s by cases b<;>exact wpAny_ret_mkInt (wpAny_pure h)) (args_int_hash _)))
theorem eqN(a b:KeyN):decide (a=b)=match a,b with|none,none=>true|some x,some y=>decide (x=y)|_,_=>false:=by
 cases a<;>cases b<;>simp
def mixN(prog:qHr)(w:World):qH1 prog w KeyN where
 is:=zF2
 hash:=zYO w
 inj:=fun v a b ha hb=>by
  rcases zB3 ha with⟨rfl,rfl⟩|⟨x,rfl,rfl⟩|⟨i,t,rfl,rfl⟩|⟨x,t,rfl,rfl⟩<;>rcases zB3 hb with⟨rfl,e⟩|⟨y,rfl,e⟩|⟨j,u,rfl,e⟩|⟨y,u,rfl,e⟩<;>first|rfl|(cases e;done)|(cases e;rfl)
 byValue:=fun k v h=>by
  rcases zB3 h with⟨rfl,rfl⟩|⟨x,rfl,rfl⟩|⟨i,t,rfl,rfl⟩|⟨x,t,rfl,rfl⟩<;>rfl
 pyHash:=fun hv h=>by
  rcases zB3 hv with⟨rfl,rfl⟩|⟨x,rfl,rfl⟩|⟨i,t,rfl,rfl⟩|⟨x,t,rfl,rfl⟩
  ·exact zNW h
  ·exact zNX h
  ·exact wpAny_pyHash_int h
  ·exact wpAny_pyHash_str h
 eqBool:=fun hu hv h=>by
  rw[eqN]at h
  rcases zB3 hu with⟨rfl,rfl⟩|⟨x,rfl,rfl⟩|⟨i,t,rfl,rfl⟩|⟨x,t,rfl,rfl⟩<;>rcases zB3 hv with⟨rfl,rfl⟩|⟨y,rfl,rfl⟩|⟨j,u,rfl,rfl⟩|⟨y,u,rfl,rfl⟩
  ·exact qJc _ _ _ _ _ h
  ·exact qKc _ _ _ _ _ h
  ·exact qKg _ _ _ _ _ _ h
  ·exact qKh _ _ _ _ _ _ h
  ·exact qKd _ _ _ _ _ h
  ·refine qKe _ _ _ _ _ _ ?_;cases x<;>cases y<;>exact h
  ·refine qKi _ _ _ _ _ _ _ ?_;dsimp only at h;rw[zKG]at h;exact h
  ·exact qKj _ _ _ _ _ _ _ h
  ·exact qKk _ _ _ _ _ _ h
  ·refine qKl _ _ _ _ _ _ _ ?_;dsimp only at h;rw[zKG]at h;exact h
  ·dsimp only at h;rw[zKG]at h;exact wpAny_eqBool_int h
  ·dsimp only at h;rw[zRF]at h;exact qJk _ _ _ _ _ _ _ _ h
  ·exact qKm _ _ _ _ _ _ h
  ·exact qKn _ _ _ _ _ _ _ h
  ·dsimp only at h;rw[zRE]at h;exact qJl _ _ _ _ _ _ _ _ h
  ·dsimp only at h;rw[zRD]at h;exact wpAny_eqBool_str h
 «strs»:=fun k x t v h=>by
  rcases zB3 h with⟨rfl,e⟩|⟨x,rfl,e⟩|⟨i,u,rfl,e⟩|⟨y,u,rfl,e⟩
  ·exact nomatch e
  ·exact nomatch e
  ·exact nomatch e
  ·injection e with e1 _
   subst e1;cases v<;>rfl
inductive V where
 |non|bl (b:Bool)|int (i:Int)|str (x:Str)|byt (b:Array UInt8)|flt (b:UInt64)|ref (a:Addr)|ty (n:String)
 deriving DecidableEq
noncomputable def RelV:V->Value->Prop
 |.non,u=>u=qHy
 |.bl b,u=>u=qKa b
 |.int i,u=>∃t,u=qJr i t
 |.str x,u=>∃t,u=qJs x t
 |.byt b,u=>∃t,u=Value.bytes b t
 |.flt b,u=>∃t,u=qLv b t
 |.ref a,u=>u=qHw a
 |.ty n,u=>u=qJ9 n
abbrev Vals:List V->List Value->Prop:=qJz RelV
theorem Vals.length{xs:List V}{us:List Value}(r:Vals xs us):xs.length=us.length:=qIt r
theorem Vals.get:∀{xs:List V}{us:List Value}{i:Nat}{x:V},Vals xs us->xs[i]?=some x->∃u,us[i]?=some u/\RelV x u
 |_,_,_,_,.nil,e=>by simp at e
 |_,_,0,_,.cons r _,e=>by simp at e;subst e;exact⟨_,rfl,r⟩
 |_,_,i+1,x,.cons _ t,e=>by
  obtain⟨u,h1,h2⟩:=Vals.get (i:=i) (x:=x) t (by simpa using e);exact⟨u,by simpa using h1,h2⟩
theorem Vals.set{x:V}{u:Value}(r:RelV x u):∀{xs:List V}{us:List Value}(i:Nat),Vals xs us->Vals (xs.set i x) (us.set i u)
 |_,_,_,.nil=>.nil
 |_,_,0,.cons _ t=>.cons r t
 |_,_,i+1,.cons q t=>.cons q (Vals.set r i t)
theorem Vals.append:∀{xs ys:List V}{us ws:List Value},Vals xs us->Vals ys ws->Vals (xs++ys) (us++ws)
 |_,_,_,_,.nil,s=>s
 |_,_,_,_,.cons r t,s=>.cons r (Vals.append t s)
theorem Vals.take:∀{xs:List V}{us:List Value}(n:Nat),Vals xs us->Vals (xs.take n) (us.take n)
 |_,_,0,_=>.nil
 |_,_,_+1,.nil=>.nil
 |_,_,n+1,.cons r t=>.cons r (Vals.take n t)
theorem Vals.drop:∀{xs:List V}{us:List Value}(n:Nat),Vals xs us->Vals (xs.drop n) (us.drop n)
 |_,_,0,r=>r
 |_,_,_+1,.nil=>.nil
 |_,_,n+1,.cons _ t=>Vals.drop n t
def RelO:Option V->Option Value->Prop
 |some v,some u=>RelV v u
 |none,none=>True
 |_,_=>False
def KV{κ:Type}:List (κ×V)->List (κ×Value)->Prop:=qJz fun(p:κ×V)(q:κ×Value)=>p.1=q.1/\RelV p.2 q.2
noncomputable def kV:Key->V
 |.inl i=>.int i
 |.inr x=>.str x
def vN:V->Option KeyN
 |.non=>some none
 |.bl b=>some (some (.inl (zIF b)))
 |.int i=>some (some (.inl i))
 |.str x=>some (some (.inr x))
 |_=>none
abbrev KsOf:List V->List KeyN->Prop:=qJz fun v k=>vN v=some k
inductive HO where
 |lst (xs:List V)
 |tup (xs:List V)
 |dK (kvs:List (Key×V))|dT (T:Addr->Prop) (e0:Nat) (kvs:List (List KeyN×V))
 |set (S:Int->Bool) (n:Nat)
 |ins (C dx:Addr) (fs:List (Str×V))
 |own (x:Addr)
 |xd (fs:List (Str×V))
 |met (f x:Addr)
 |rng (lo hi:Int)
 |frz (o:Obj) (u:HO)
 |tbl (ps:Array Value)
 |lam (q:Str)
 |fn (o:Obj) (q:Str)
 |ext (φ:Heap->Prop)
abbrev Hp:=Addr->Option HO
noncomputable def upd(H:Hp)(a:Addr)(o:HO):Hp:=fun b=>if b=a then some o else H b
theorem zAE{H:Hp}{a:Addr}{o:HO}:upd H a o a=some o:=by unfold upd;rw[if_pos rfl]
theorem zAF{H:Hp}{a b:Addr}{o:HO}(h:b≠a):upd H a o b=H b:=by unfold upd;rw[if_neg h]
theorem zLH{H:Hp}{a b:Addr}{o u:HO}(h:H a=some o)(h':H b=some u)(d:o≠u):a≠b:=by
 intro e;subst e;rw[h]at h';exact d (qB3 h')
theorem zAH{H:Hp}{a b:Addr}{o:HO}(h:H a=some o)(h':H b=none):a≠b:=by
 intro e;subst e;rw[h]at h';cases h'
def TupK(H:Hp)(b:Addr)(k:List KeyN):Prop:=∃vs,H b=some (.tup vs)/\KsOf vs k
theorem TupK.keeps{H H':Hp}{b:Addr}{k:List KeyN}(x:TupK H b k)(ht:∀b xs,H b=some (.tup xs)->H' b=some (.tup xs)):TupK H' b k:=let⟨vs,e,r⟩:=x;⟨vs,ht _ _ e,r⟩
def CodR(o:Obj)(q:Str):Prop:=∃vs t,o.data=.fields vs/\vs[1]?=some (.str q t)
section
variable(P:qHr)(w:World)
def ObjOk(H:Hp)(h:Heap)(a:Addr):HO->Prop
 |.lst xs=>xs.length<=sizeLine/\∃(its:List Value)(n:Nat),Vals xs its/\h.get? a=some { cls:=.type "list",data:=.seq its.toArray n }
 |.tup xs=>xs.length<=sizeLine/\∃its:List Value,Vals xs its/\IsTup h a its.toArray
 |.dK kvs=>kvs.length<=sizeLine/\(a==qIi)=false/\∃vs,KV kvs vs/\h.DictOf (zDF P w) a vs
 |.dT T e0 kvs=>kvs.length<=sizeLine/\(a==qIi)=false/\∃xs:List (List KeyN×Addr×Value),
   qJz (fun(p:List KeyN×V)(q:List KeyN×Addr×Value)=>p.1=q.1/\(TupK H q.2.1 p.1/\T q.2.1)/\RelV p.2 q.2.2) kvs xs /\
   ∃o es ep,h.get? a=some o/\o.ExactDict/\o.data=.dict es ep/\es.toList=xs.map (entryOfKey (tupleKind (mixN P w)))/\(xs.map (·.1)).Nodup/\ep=e0
 |.set S n=>h.SetOf (intKind P w) a S n
 |.ins C dx fs=>H dx=some (.own a)/\fs.length<=1000/\dx≠a/\h.get? a=some (qEf C dx) /\
   ∃mA,h.Ns1 dx mA/\(∀f,RelO (fs.lookup f) (mA f))/\qH8 mA (fs.map (·.1))
 |.own _=>∃o,h.get? a=some o
 |.xd fs=>∃mA,h.Ns1 a mA/\∀f,RelO (fs.lookup f) (mA f)
 |.rng lo hi=>∃t u v,h.get? a=some { cls:=.type "range",data:=.fields #[.int lo t,.int hi u,.int 1 v] }
 |.frz o u=>h.get? a=some o/\ObjOk H h a u
 |.tbl ps=>h.get? a=some { cls:=.none,data:=.fields ps }
 |.lam q=>∃ps:Array Value,h.get? a=some { cls:=.none,data:=.fields ps }/\TriplesOk ps.toList/\∀pos cv,codeAmong pos ps.toList=some cv->∃c oc u,cv=.ref c/\H c=some (.frz oc u)/\CodR oc q
 |.fn o q=>h.get? a=some o/\∃fd c oc u,o.data=.func fd/\fd.code=.ref c/\H c=some (.frz oc u)/\CodR oc q
 |.met f x=>h.get? a=some (qDl (.ref f) (.ref x))
 |.ext φ=>φ h/\(∃o,h.get? a=some o)/\∀h1 h2:Heap,φ h1->(∀o,h1.get? a=some o->h2.get? a=some o)->φ h2
def HOk(H:Hp)(h:Heap):Prop:=∀a o,H a=some o->ObjOk P w H h a o
end
section
variable{P:qHr}{w:World}{H H':Hp}{h h':Heap}{a:Addr}{o:HO}
theorem ObjOk.lt(x:ObjOk P w H h a o):a<h.objs.size:=by
 cases o with
 |lst xs=>obtain⟨_,_,_,_,e⟩:=x;exact qHs e
 |tup xs=>obtain⟨_,_,_,p⟩:=x;exact p.lt
 |dK kvs=>obtain⟨_,_,_,_,o,_,_,e,_⟩:=x;exact qHs e
 |dT T e0 kvs=>obtain⟨_,_,_,_,o,_,_,e,_⟩:=x;exact qHs e
 |set S n=>obtain⟨o,_,_,_,e,_⟩:=x;exact qHs e
 |ins C dx fs=>obtain⟨_,_,_,e,_⟩:=x;exact qHs e
 |own y=>obtain⟨_,e⟩:=x;exact qHs e
 |xd fs=>obtain⟨_,⟨_,_,_,e,_⟩,_⟩:=x;exact qHs e
 |rng lo hi=>obtain⟨_,_,_,e⟩:=x;exact qHs e
 |frz ob u=>obtain⟨e,_⟩:=x;exact qHs e
 |tbl ps=>exact qHs (show h.get? a=some _ from x)
 |lam q=>obtain⟨_,e,_⟩:=x;exact qHs e
 |fn ob q=>obtain⟨e,_⟩:=x;exact qHs e
 |met f y=>exact qHs (show h.get? a=some _ from x)
 |ext φ=>obtain⟨_,⟨_,e⟩,_⟩:=x;exact qHs e
theorem qJz.mapP{α β:Type}{F G:α->β->Prop}:∀{l₁:List α}{l₂:List β},qJz F l₁ l₂->(∀a b,F a b->G a b)->qJz G l₁ l₂
 |_,_,.nil,_=>.nil
 |_,_,.cons r t,f=>.cons (f _ _ r) (qJz.mapP t f)
theorem ObjOk.stay(x:ObjOk P w H h a o)(k:∀b u,(b=a\/H b=some (.own a))->h.get? b=some u->h'.get? b=some u)
  (ho:∀b,H b=some (.own a)->H' b=some (.own a)) (ht:∀b xs,H b=some (.tup xs)->H' b=some (.tup xs)) (hf:∀b o u,H b=some (.frz o u)->(∃vs,o.data=.fields vs)->H' b=some (.frz o u)):ObjOk P w H' h' a o:=by
 induction o with
 |lst xs=>obtain⟨z,its,n,r,e⟩:=x;exact⟨z,its,n,r,k _ _ (.inl rfl) e⟩
 |tup xs=>obtain⟨z,its,r,ob,e,c⟩:=x;exact⟨z,its,r,ob,k _ _ (.inl rfl) e,c⟩
 |dK kvs=>obtain⟨z,y,vs,r,ob,es,ep,e,c⟩:=x;exact⟨z,y,vs,r,ob,es,ep,k _ _ (.inl rfl) e,c⟩
 |dT T e0 kvs=>
  obtain⟨z,y,xs,r,ob,es,ep,e,c⟩:=x;exact⟨z,y,xs,qJz.mapP r fun p q z=>⟨z.1,⟨z.2.1.1.keeps ht,z.2.1.2⟩,z.2.2⟩,ob,es,ep,k _ _ (.inl rfl) e,c⟩
 |set S n=>obtain⟨ob,es,ep,t,e,c⟩:=x;exact⟨ob,es,ep,t,k _ _ (.inl rfl) e,c⟩
 |ins C dx fs=>
  obtain⟨d,z,ne,e,mA,⟨od,es,ep,e2,c⟩,r⟩:=x;exact⟨ho _ d,z,ne,k _ _ (.inl rfl) e,mA,⟨od,es,ep,k _ _ (.inr d) e2,c⟩,r⟩
 |own y=>obtain⟨ob,e⟩:=x;exact⟨ob,k _ _ (.inl rfl) e⟩
 |xd fs=>obtain⟨mA,⟨od,es,ep,e,c⟩,r⟩:=x;exact⟨mA,⟨od,es,ep,k _ _ (.inl rfl) e,c⟩,r⟩
 |rng lo hi=>obtain⟨t,u,v,e⟩:=x;exact⟨t,u,v,k _ _ (.inl rfl) e⟩
 |frz ob u ih=>obtain⟨e,q⟩:=x;exact⟨k _ _ (.inl rfl) e,ih q⟩
 |tbl ps=>
  have e:h.get? a=some { cls:=.none,data:=.fields ps }:=x;show h'.get? a=some { cls:=.none,data:=.fields ps };exact k a _ (.inl rfl) e
 |lam q=>
  obtain⟨ps,e,t,r⟩:=x;exact⟨ps,k _ _ (.inl rfl) e,t,fun pos cv z=>let⟨c,oc,u,e1,e2,e3⟩:=r pos cv z;⟨c,oc,u,e1,hf _ _ _ e2 (let⟨vs,_,d,_⟩:=e3;⟨vs,d⟩),e3⟩⟩
 |fn ob q=>
  obtain⟨e,fd,c,oc,u,e1,e2,e3,e4⟩:=x;exact⟨k _ _ (.inl rfl) e,fd,c,oc,u,e1,e2,hf _ _ _ e3 (let⟨vs,_,d,_⟩:=e4;⟨vs,d⟩),e4⟩
 |met f y=>
  have e:h.get? a=some (qDl (.ref f) (.ref y)):=x;show h'.get? a=some (qDl (.ref f) (.ref y));exact k a _ (.inl rfl) e
 |ext φ=>obtain⟨p,⟨o,e⟩,st⟩:=x;exact⟨st _ _ p fun o q=>k _ _ (.inl rfl) q,⟨o,k _ _ (.inl rfl) e⟩,st⟩
theorem HOk.lt(x:HOk P w H h)(e:H a=some o):a<h.objs.size:=(x a o e).lt
theorem HOk.fresh(x:HOk P w H h)(e:h.objs.size<=a):H a=none:=by
 cases q:H a with
 |none=>rfl
 |some u=>exact absurd (qAh (x.lt q) e) (qBw _)
theorem HOk.kept(x:HOk P w H h)(k:∀b u,h.get? b=some u->h'.get? b=some u):HOk P w H h':=fun a o e=>
 (x a o e).stay (fun b u _ q=>k b u q) (fun _ q=>q) (fun _ _ q=>q) fun _ _ _ q _=>q
theorem HOk.laid(x:HOk P w H h)(k:∀b u,h.get? b=some u->h'.get? b=some u)(hp:h.objs.size<=a)(new:ObjOk P w (upd H a o) h' a o):HOk P w (upd H a o) h':=fun b u e=>by
 have hn:=x.fresh hp
 by_cases hb:b=a
 ·subst hb;rw[zAE]at e;cases e;exact new
 ·rw[zAF hb]at e;exact(x b u e).stay (fun c v _ q=>k c v q) (fun c q=>by rw[zAF (zAH q hn)];exact q) (fun c xs q=>by rw[zAF (zAH q hn)];exact q) fun c _ _ q _=>by rw[zAF (zAH q hn)];exact q
end
def Rd(H:Hp)(a:Addr)(u:HO):Prop:=H a=some u\/∃o,H a=some (.frz o u)
theorem Rd.ok{P:qHr}{w:World}{H:Hp}{h:Heap}{a:Addr}{u:HO}(r:Rd H a u)(x:HOk P w H h):ObjOk P w H h a u:=by
 rcases r with r|⟨o,r⟩
 ·exact x a u r
 ·obtain⟨_,q⟩:=x a _ r;exact q
noncomputable def Mut:Option HO->Prop
 |some (.lst _)=>True
 |some (.dK _)=>True
 |some (.dT _ _ _)=>True
 |some (.set _ _)=>True
 |some (.ins _ _ _)=>True
 |some (.ext _)=>True
 |some (.lam _)=>True
 |_=>False
section
variable{P:qHr}{w:World}{H:Hp}{h h':Heap}{x e:Addr}{o':HO}
theorem HOk.write(ok:HOk P w H h)(mu:Mut (H x))(he:e=x\/H e=some (.own x))(k:∀b u,b≠e->h.get? b=some u->h'.get? b=some u)(heo:∃u,h'.get? e=some u)
  (new:ObjOk P w (upd H x o') h' x o'):HOk P w (upd H x o') h':=fun b u q=>by
 have nown:∀c y,H c=some (.own y)->c≠x:=fun c y r z=>by subst z;rw[r]at mu;exact mu
 have ntup:∀c xs,H c=some (.tup xs)->c≠x:=fun c xs r z=>by subst z;rw[r]at mu;exact mu
 have nfrz:∀c o v,H c=some (.frz o v)->c≠x:=fun c o v r z=>by subst z;rw[r]at mu;exact mu
 by_cases hb:b=x
 ·subst hb;rw[zAE]at q;cases q;exact new
 ·rw[zAF hb]at q
  by_cases hbe:b=e
  ·have q':H b=some (.own x):=by
    rcases he with z|z
    ·exact absurd (hbe.trans z) hb
    ·rw[hbe];exact z
   rw[q]at q';cases q';obtain⟨v,hv⟩:=heo;exact⟨v,by rw[hbe];exact hv⟩
  ·refine(ok b u q).stay (fun c v hc r=>k c v ?_ r) (fun c r=>by rw[zAF (nown c b r)];exact r) (fun c xs r=>by rw[zAF (ntup c xs r)];exact r) fun c o v r _=>by rw[zAF (nfrz c o v r)];exact r
   rcases hc with rfl|hc
   ·exact hbe
   ·rintro rfl
    rcases he with z|z
    ·exact nown c b hc z
    ·rw[hc]at z;cases z;exact hb rfl
end
structure Un(fs ex:List Addr)(H H':Hp)(h h':Heap):Prop where
 keep:∀b o,h.get? b=some o->H b=none->b∉fs->b∉ex->h'.get? b=some o
 slot:∀b o,h.get? b=some o->H b=none->b∈fs->b∉ex->∃sl,h'.get? b=some { o with slots:=sl }
 free:∀b o,h.get? b=some o->H b=none->b∉ex->H' b=none
 there:∀b o,h.get? b=some o->b∉ex->∃o',h'.get? b=some o'
 tups:∀b xs,H b=some (.tup xs)->H' b=some (.tup xs)
 frzs:∀b o u,H b=some (.frz o u)->H' b=some (.frz o u)
 tbls:∀b ps,H b=some (.tbl ps)->∃more,H' b=some (.tbl (ps++more))
section
variable{fs fs' ex ex':List Addr}{H H1 H2:Hp}{h h1 h2 h':Heap}{a x e:Addr}{o:HO}
theorem Un.any(u:Un fs ex H H1 h h1){b:Addr}{ob:Obj}(q:h.get? b=some ob)(n:H b=none)(hx:b∉ex):∃sl,h1.get? b=some { ob with slots:=sl }:=by
 by_cases hb:b∈fs
 ·exact u.slot b ob q n hb hx
 ·exact⟨ob.slots,u.keep b ob q n hb hx⟩
theorem Un.kept(k:∀b u,h.get? b=some u->h'.get? b=some u):Un fs ex H H h h':=
 ⟨fun b ob q _ _ _=>k b ob q,fun b ob q _ _ _=>⟨ob.slots,k b ob q⟩,fun _ _ _ n _=>n,fun b ob q _=>⟨ob,k b ob q⟩,fun _ _ q=>q,fun _ _ _ q=>q,fun _ ps q=>⟨#[],by rw[q];simp⟩⟩
theorem Un.refl:Un fs ex H H h h:=Un.kept fun _ _ q=>q
theorem Un.laid(k:∀b u,h.get? b=some u->h'.get? b=some u)(hp:h.objs.size<=a)(hn:H a=none):Un fs ex H (upd H a o) h h' where
 keep:=fun b u q _ _ _=>k b u q
 slot:=fun b u q _ _ _=>⟨u.slots,k b u q⟩
 free:=fun b u q n _=>by rw[zAF (qAv (qAh (qHs q) hp))];exact n
 there:=fun b u q _=>⟨u,k b u q⟩
 tups:=fun b xs q=>by rw[zAF (zAH q hn)];exact q
 frzs:=fun b u xs q=>by rw[zAF (zAH q hn)];exact q
 tbls:=fun b ps q=>⟨#[],by rw[zAF (zAH q hn),q];simp⟩
theorem Un.write(mu:Mut (H x))(he:e=x\/H e=some (.own x))(k:∀b u,b≠e->h.get? b=some u->h'.get? b=some u)(heo:∃u,h'.get? e=some u):Un fs ex H (upd H x o) h h':=by
 have hx:∀b,H b=none->b≠x:=fun b n z=>by subst z;rw[n]at mu;exact mu
 have hb:∀b,H b=none->b≠e:=fun b n z=>by
  subst z
  rcases he with r|r
  ·exact hx b n r
  ·rw[n]at r;cases r
 have hm:∀b u,H b=some u->¬Mut (some u)->b≠x:=fun b u q nm z=>by subst z;rw[q]at mu;exact nm mu
 refine⟨fun b u q n _ _=>k b u (hb b n) q,fun b u q n _ _=>⟨u.slots,k b u (hb b n) q⟩,fun b u q n _=>by rw[zAF (hx b n)];exact n,fun b u q _=>?_,
  fun b xs q=>by rw[zAF (hm b _ q fun z=>z)];exact q,fun b u xs q=>by rw[zAF (hm b _ q fun z=>z)];exact q,fun b ps q=>⟨#[],by rw[zAF (hm b _ q fun z=>z),q];simp⟩⟩
 by_cases hbe:b=e
 ·subst hbe;exact heo
 ·exact⟨u,k b u hbe q⟩
end
noncomputable def trk(h:Heap)(H:Hp):List Addr:=(qA7 h.objs.size).filter fun a=>(H a).isSome
def hidT(h:Heap)(H:Hp):Heap:=PySem.W.hideAll h (trk h H)
theorem zNV(h:Heap)(H:Hp):(hidT h H).objs.size=h.objs.size:=PySem.W.hideAll_size _ _
theorem zQA{h:Heap}{H:Hp}{b:Addr}{o:Obj}(e:h.get? b=some o)(n:H b=none):(hidT h H).get? b=some o:=
 PySem.W.hideAll_get _ e fun hm=>by
  have q:(H b).isSome=true:=(qBb.mp hm).2;rw[n]at q;simp at q
theorem zSW{h:Heap}{H:Hp}{b:Addr}{o:Obj}(e:(hidT h H).get? b=some o):h.get? b=some o/\H b=none:=by
 have e':h.get? b=some o:=PySem.W.of_hideAll (trk h H) e;refine⟨e',?_⟩;cases q:H b with
 |none=>rfl
 |some x=>
  have hm:b∈trk h H:=qBb.mpr ⟨qCk.mpr (qHs e'),by simp[q]⟩;have z:(hidT h H).get? b=none:=PySem.W.hideAll_none (trk h H) hm;rw[z]at e;cases e
noncomputable def zU1(g h:Heap)(L:Addr):List (Addr×Obj):=(qA7 h.objs.size).filterMap fun a=>if a=L\/(g.get? a).isSome=true then none else(h.get? a).map fun o=>(a,o)
def rest(g h:Heap)(L d:Addr):List (Addr×Obj):=(zU1 g h L).filter fun p=>decide (p.1≠d)
structure Mod(K:qA2)(mg:Str->Option Value)(base:Heap):Prop where
 kin:K.In base
 glob:base.Ns qHx mg
 blt:∃mb,base.Ns qJa mb/\∀x:Str,x≠"__name__"->mb x=qIq x
 nolimit:base.NoLimit
 bm:∃bm ob,mg "__builtins__" = some (.ref bm)/\bm≠qJa/\base.get? bm=some ob/\ob.cls=.type "module"/\ob.dict=some qJa/\ob.data=.plain
structure Cx where
 prog:qHr
 w:World
 K:qA2
 mg:Str->Option Value
 base:Heap
 A:qHv
 N:List Str
 s₀:qHp
 H₀:Hp
 env:Env
 outer:List Env
 stack:List Env
 ex:List Addr
 fn:Str->Bool
 calm:Bool
 pn:List (Addr×Obj)
 xe:Value->qHp->Prop
noncomputable def frs(l:List Env):List Addr:=l.filterMap (·.frame)
abbrev Cx.fs(X:Cx):List Addr:=frs X.outer
def Vis(sc:Scope)(x:Str):Prop:=sc.names.lookup x=some .local\/sc.names.lookup x=some .cell\/sc.names.lookup x=some .free
def Loc(sc:Scope)(x:Str):Prop:=sc.names.lookup x=some .local\/sc.names.lookup x=some .cell
def Look(env:Env)(h:Heap)(m:Str->Option Value)(x:Str)(u:Value):Prop:=
 (env.kindOf x=some .local/\m x=some u)\/((env.kindOf x=some .cell\/env.kindOf x=some .free)/\∃c,env.cells.lookup x=some c/\h.IsCell c (some u))
structure Cx.Ok(X:Cx):Prop where
 mod:Mod X.K X.mg X.base
 kind:X.env.scope.kind=.function
 glob:X.env.globals=qHx
 blt:X.env.builtins=qJa
 above:X.s₀.heap.objs.size<=X.env.locals
 inj:∀x y c,X.env.cells.lookup x=some c->X.env.cells.lookup y=some c->x=y
 has:∀x,(X.env.kindOf x=some .cell\/X.env.kindOf x=some .free)->∃c,X.env.cells.lookup x=some c
 cab:∀x c,X.fn x=true->X.env.cells.lookup x=some c->X.s₀.heap.objs.size<=c
 hd:X.calm=true->X.A.handled=none
 frames:X.A.frames=some X.stack
 stk:X.stack=X.outer\/(X.stack=X.env::X.outer/\X.env.frame=some X.env.locals)
 exf:∀b∈X.ex,b≠X.env.locals/\∀x c,X.env.cells.lookup x=some c->c≠b
 bs:∀b o,X.base.get? b=some o->X.s₀.heap.get? b=some o/\X.H₀ b=none
 bsz:X.base.objs.size<=X.s₀.heap.objs.size
 noex:∀b o,X.base.get? b=some o->b∉X.ex
 exfs:∀b∈X.ex,b∉X.fs
 funs:X.s₀.heap.FunFrames X.base X.outer
 frf:∀b∈X.fs,X.H₀ b=none
structure Inv(X:Cx)(pins:List (Addr×Obj))(σ:List (Option V))(H:Hp)(s:qHp):Prop where
 ok:X.Ok
 os:s.os=X.s₀.os
 bare:qJw s.gens
 base:Un X.fs X.ex X.H₀ H X.s₀.heap s.heap
 loc:∃m,s.heap.Ns X.env.locals m/\∀(i:Nat)(x:Str)(v:V),X.N[i]?=some x->σ[i]?=some (some v)->Vis X.env.scope x->∃u,RelV v u/\Look X.env s.heap m x u
 cell:∀x c,X.env.cells.lookup x=some c->∃v,s.heap.IsCell c v
 free:H X.env.locals=none
 freeC:∀x c,X.env.cells.lookup x=some c->H c=none
 pin:∀p∈X.pn++pins,s.heap.get? p.1=some p.2/\H p.1=none/\p.1≠X.env.locals/\p.1∉X.fs/\∀v,p.2.data≠.cell v
 hok:HOk X.prog X.w H s.heap
 len:σ.length=X.N.length
section
variable{X:Cx}{pins:List (Addr×Obj)}{σ:List (Option V)}{H H':Hp}{s:qHp}{h':Heap}
theorem Cx.Ok.nofr(ok:X.Ok){b:Addr}{o:Obj}(e:X.base.get? b=some o):b∉X.fs:=fun hb=>by
 have:=(ok.funs.mem hb).1
 rw[e]at this;cases this
theorem Inv.bs(I:Inv X pins σ H s):∀b o,X.base.get? b=some o->s.heap.get? b=some o/\H b=none:=fun b o e=>
 ⟨I.base.keep b o (I.ok.bs b o e).1 (I.ok.bs b o e).2 (I.ok.nofr e) (I.ok.noex b o e),I.base.free b o (I.ok.bs b o e).1 (I.ok.bs b o e).2 (I.ok.noex b o e)⟩
theorem Inv.bk(I:Inv X pins σ H s):∀b o,X.base.get? b=some o->s.heap.get? b=some o:=fun b o e=>(I.bs b o e).1
theorem Inv.mod(I:Inv X pins σ H s):Mod X.K X.mg X.base:=I.ok.mod
theorem Inv.kIn(I:Inv X pins σ H s):X.K.In s.heap:=I.ok.mod.kin.keeps I.bk
theorem Inv.fr(I:Inv X pins σ H s):∃m,Fr X.base X.env.locals s.heap m:=
 let⟨m,hn,_⟩:=I.loc
 ⟨m,hn,I.bk,qAn I.ok.bsz I.ok.above⟩
theorem Inv.lt(I:Inv X pins σ H s):X.env.locals<s.heap.objs.size:=let⟨_,hn,_⟩:=I.loc;hn.lt
theorem Inv.sz(I:Inv X pins σ H s):X.s₀.heap.objs.size<=s.heap.objs.size:=qAn I.ok.above (qCo I.lt)
theorem Inv.nofs(I:Inv X pins σ H s){a:Addr}(h:s.heap.objs.size<=a):a∉X.fs:=fun hb=>by
 obtain⟨_,o,ho,_⟩:=I.ok.funs.mem hb;exact absurd (qAh (qHs ho) (qAn I.sz h)) (qBw _)
theorem Inv.cne(I:Inv X pins σ H s):∀x c,X.env.cells.lookup x=some c->c≠X.env.locals:=fun x c e z=>by
 obtain⟨v,o,ho,hd⟩:=I.cell x c e;obtain⟨m,⟨o',es,ep,ho',hd',_⟩,_⟩:=I.loc;rw[z,ho']at ho;cases ho;rw[hd']at hd;cases hd
theorem Inv.funs(I:Inv X pins σ H s):s.heap.FunFrames X.base X.outer:=by
 have all:∀(l:List Env),(∀b∈frs l,b∈X.fs)->X.s₀.heap.FunFrames X.base l->s.heap.FunFrames X.base l:=by
  intro l
  induction l with
  |nil=>intro _ _;trivial
  |cons env r ih=>
   intro hs hl;obtain⟨hk,⟨L,o,hf,hn,ho,hd⟩,hr⟩:=hl;have hL:L∈X.fs:=hs L (by unfold frs;rw[qD6,hf];exact qAi);obtain⟨sl,e⟩:=I.base.slot L o ho (I.ok.frf L hL) hL fun z=>I.ok.exfs L z hL
   exact⟨hk,⟨L,_,hf,hn,e,hd⟩,ih (fun b hb=>hs b (by unfold frs;rw[qD6,hf];exact qA9 _ hb)) hr⟩
 exact all X.outer (fun _ hb=>hb) I.ok.funs
theorem Inv.stack(I:Inv X pins σ H s):s.heap.FunFrames X.base X.stack:=by
 rcases I.ok.stk with e|⟨e,hf⟩
 ·rw[e];exact I.funs
 ·rw[e];obtain⟨m,hn,_⟩:=I.loc;refine .cons (by rw[I.ok.kind];decide) hf hn ?_ I.funs;exact qIl (qAn I.ok.bsz I.ok.above)
theorem Inv.stkSub(I:Inv X pins σ H s):∀b∈frs X.stack,b∈X.env.locals::X.fs:=fun b hb=>by
 rcases I.ok.stk with e|⟨e,hf⟩
 ·rw[e]at hb;exact qA9 _ hb
 ·rw[e]at hb;unfold frs at hb;rw[qD6,hf]at hb;exact hb
theorem Inv.stkFree(I:Inv X pins σ H s):∀b∈frs X.stack,H b=none:=fun b hb=>by
 rcases qAd.mp (I.stkSub b hb)with e|hb
 ·rw[e];exact I.free
 ·obtain⟨_,o,ho,_⟩:=I.ok.funs.mem hb;exact I.base.free b o ho (I.ok.frf b hb) fun z=>I.ok.exfs b z hb
theorem Inv.step{g':Array qJ0}{t':Nat}{d':Drawn}{ch:List Addr}(I:Inv X pins σ H s)
  (hch:∀b∈ch,(b∈X.ex\/X.s₀.heap.objs.size<=b)/\b≠X.env.locals/\(∀x c,X.env.cells.lookup x=some c->c≠b)/\∀p∈X.pn++pins,p.1≠b)
  (keep:∀b o,b≠X.env.locals->b∉X.fs->b∉ch->s.heap.get? b=some o->H b=none->h'.get? b=some o)
  (slot:∀b o,b≠X.env.locals->b∈X.fs->b∉ch->s.heap.get? b=some o->H b=none->∃sl,h'.get? b=some { o with slots:=sl }) (free:∀b o,b∉ch->s.heap.get? b=some o->H b=none->H' b=none)
  (there:∀b o,b∉ch->s.heap.get? b=some o->∃o',h'.get? b=some o')
  (tups:∀b xs,H b=some (.tup xs)->H' b=some (.tup xs)) (frzs:∀b o u,H b=some (.frz o u)->H' b=some (.frz o u)) (tbls:∀b ps,H b=some (.tbl ps)->∃more,H' b=some (.tbl (ps++more)))
  (ns:∀m,s.heap.Ns X.env.locals m->h'.Ns X.env.locals m) (hok:HOk X.prog X.w H' h') (hg:qJw g') :
  Inv X pins σ H' { s with heap:=h',gens:=g',drawn:=d',toks:=t' }:=by
 have neL:∀b o,X.s₀.heap.get? b=some o->b≠X.env.locals:=fun b o e=>qAv (qAh (qHs e) I.ok.above)
 have neC:∀b o,X.s₀.heap.get? b=some o->b∉X.ex->b∉ch:=fun b o e hx hb=>by
  rcases(hch b hb).1 with z|z
  ·exact hx z
  ·exact absurd (qAh (qHs e) z) (qBw _)
 have cellK:∀x c,X.env.cells.lookup x=some c->∀v,s.heap.IsCell c v->h'.IsCell c v:=fun x c e v ⟨o,ho,hd⟩=>by
  have nch:c∉ch:=fun z=>(hch c z).2.2.1 x c e rfl
  by_cases hc:c∈X.fs
  ·obtain⟨sl,q⟩:=slot c o (I.cne x c e) hc nch ho (I.freeC x c e);exact⟨_,q,hd⟩
  ·exact⟨o,keep c o (I.cne x c e) hc nch ho (I.freeC x c e),hd⟩
 refine⟨I.ok,I.os,hg,⟨fun b o e n hb hx=>?_,fun b o e n hb hx=>?_,fun b o e n hx=>?_,fun b o e hx=>?_,fun b xs e=>tups b xs (I.base.tups b xs e),fun b o xs e=>frzs b o xs (I.base.frzs b o xs e),fun b ps e=>?_⟩,?_,fun x c e=>?_,?_,fun x c e=>?_,fun p hp=>?_,hok,I.len⟩
 ·exact keep b o (neL b o e) hb (neC b o e hx) (I.base.keep b o e n hb hx) (I.base.free b o e n hx)
 ·obtain⟨sl,e1⟩:=I.base.slot b o e n hb hx;obtain⟨sl',e2⟩:=slot b _ (neL b o e) hb (neC b o e hx) e1 (I.base.free b o e n hx);exact⟨sl',e2⟩
 ·obtain⟨o',e1⟩:=I.base.there b o e hx;exact free b o' (neC b o e hx) e1 (I.base.free b o e n hx)
 ·obtain⟨o',e1⟩:=I.base.there b o e hx;exact there b o' (neC b o e hx) e1
 ·obtain⟨m1,e1⟩:=I.base.tbls b ps e;obtain⟨m2,e2⟩:=tbls b _ e1;exact⟨m1++m2,by rw[e2,Array.append_assoc]⟩
 ·obtain⟨m,hn,hl⟩:=I.loc;refine⟨m,ns m hn,fun i x v e1 e2 e3=>?_⟩;obtain⟨u,r,l⟩:=hl i x v e1 e2 e3;refine⟨u,r,?_⟩
  rcases l with l|⟨k,c,e,z⟩
  ·exact .inl l
  ·exact .inr ⟨k,c,e,cellK x c e _ z⟩
 ·obtain⟨v,z⟩:=I.cell x c e;exact⟨v,cellK x c e v z⟩
 ·obtain⟨m,⟨o,_,_,ho,_⟩,_⟩:=I.loc;exact free _ o (fun z=>(hch _ z).2.1 rfl) ho I.free
 ·obtain⟨v,o,ho,hd⟩:=I.cell x c e;exact free c o (fun z=>(hch c z).2.2.1 x c e rfl) ho (I.freeC x c e)
 ·obtain⟨e,n,ne,nf,d⟩:=I.pin p hp;have nch:p.1∉ch:=fun z=>(hch p.1 z).2.2.2 p hp rfl
  exact⟨keep p.1 p.2 ne nf nch e n,free p.1 p.2 nch e n,ne,nf,d⟩
theorem Inv.un{t':Nat}(I:Inv X pins σ H s)(u:Un X.fs [] H H' s.heap h')(hok:HOk X.prog X.w H' h'):Inv X pins σ H' { s with heap:=h',toks:=t' }:=by
 obtain⟨m,⟨o,es,ep,ho,r⟩,_⟩:=id I.loc;obtain⟨sl,hL⟩:=u.any ho I.free (by simp);exact I.step (g':=s.gens) (d':=s.drawn) (ch:=[]) (fun _ z=>nomatch z) (fun b o _ hb _ e n=>u.keep b o e n hb (by simp)) (fun b o _ hb _ e n=>u.slot b o e n hb (by simp)) (fun b o _ e n=>u.free b o e n (by simp)) (fun b o _ e=>u.there b o e (by simp)) u.tups u.frzs u.tbls (fun m' hm=>by
  obtain⟨o',es',ep',ho',r'⟩:=hm;rw[ho]at ho';cases ho';exact⟨_,es',ep',hL,r'⟩) hok I.bare
theorem Inv.call{g':Array qJ0}{t':Nat}{d':Drawn}{ch:List Addr}(I:Inv X pins σ H s)(u:Un (frs X.stack) ch H H' s.heap h')(hok:HOk X.prog X.w H' h')(hg:qJw g')
  (hch:∀b∈ch,(b∈X.ex\/X.s₀.heap.objs.size<=b)/\b≠X.env.locals/\(∀x c,X.env.cells.lookup x=some c->c≠b)/\∀p∈X.pn++pins,p.1≠b) :
  Inv X pins σ H' { s with heap:=h',gens:=g',drawn:=d',toks:=t' }:=by
 obtain⟨m,⟨o,es,ep,ho,r⟩,_⟩:=id I.loc;obtain⟨sl,hL⟩:=u.any ho I.free fun z=>(hch _ z).2.1 rfl
 exact I.step (ch:=ch) hch (fun b o hL hb hc e n=>u.keep b o e n (fun z=>(qAd.mp (I.stkSub b z)).elim hL hb) hc) (fun b o _ _ hc e n=>u.any e n hc) (fun b o hc e n=>u.free b o e n hc) (fun b o hc e=>u.there b o e hc) u.tups u.frzs u.tbls (fun m' hm=>by
  obtain⟨o',es',ep',ho',r'⟩:=hm;rw[ho]at ho';cases ho';exact⟨_,es',ep',hL,r'⟩) hok hg
theorem Inv.turned{t':Nat}{it:Addr}(I:Inv X pins σ H s)(k:∀b o,b≠it->s.heap.get? b=some o->h'.get? b=some o)(hn:H it=none)(hL:it≠X.env.locals)
  (h1:it∈X.ex\/X.s₀.heap.objs.size<=it) (h2:∀x c,X.env.cells.lookup x=some c->c≠it) (h3:∀p∈X.pn++pins,p.1≠it):Inv X pins σ H { s with heap:=h',toks:=t' }:=by
 have nit:∀b u,H b=some u->b≠it:=fun b u e z=>by rw[z,hn]at e;cases e
 refine I.step (g':=s.gens) (d':=s.drawn) (ch:=[it]) (fun b hb=>?_) (fun b o _ _ hc e _=>k b o (fun z=>hc (by simp[z])) e) (fun b o _ _ hc e _=>⟨o.slots,k b o (fun z=>hc (by simp[z])) e⟩) (fun _ _ _ _ n=>n)
  (fun b o hc e=>⟨o,k b o (fun z=>hc (by simp[z])) e⟩) (fun _ _ e=>e) (fun _ _ _ e=>e) (fun b ps e=>⟨#[],by rw[e];simp⟩) (fun m hm=>?_) (fun b u e=>?_) I.bare
 ·have e:b=it:=by simpa using hb
  subst e;exact⟨h1,hL,h2,h3⟩
 ·obtain⟨o,es,ep,ho,r⟩:=hm;exact⟨o,es,ep,k _ o (qC8 hL) ho,r⟩
 ·refine(I.hok b u e).stay (fun c v hc q=>k c v ?_ q) (fun _ q=>q) (fun _ _ q=>q) fun _ _ _ q _=>q
  rcases hc with z|z
  ·rw[z];exact nit b u e
  ·exact nit c _ z
theorem Inv.tok(I:Inv X pins σ H s)(t:Nat):Inv X pins σ H { s with toks:=t }:=I.un (h':=s.heap) (t':=t) Un.refl I.hok
theorem Inv.kept{t':Nat}(I:Inv X pins σ H s)(k:∀b u,s.heap.get? b=some u->h'.get? b=some u):Inv X pins σ H { s with heap:=h',toks:=t' }:=I.un (Un.kept k) (I.hok.kept k)
theorem Inv.laid{a:Addr}{o:HO}{t':Nat}(I:Inv X pins σ H s)(k:∀b u,s.heap.get? b=some u->h'.get? b=some u)(hp:s.heap.objs.size<=a)(new:ObjOk X.prog X.w (upd H a o) h' a o) :
  Inv X pins σ (upd H a o) { s with heap:=h',toks:=t' }:=I.un (Un.laid k hp (I.hok.fresh hp)) (I.hok.laid k hp new)
theorem Inv.write{x e:Addr}{o:HO}{t':Nat}(I:Inv X pins σ H s)(mu:Mut (H x))(he:e=x\/H e=some (.own x))(k:∀b u,b≠e->s.heap.get? b=some u->h'.get? b=some u)(heo:∃u,h'.get? e=some u)
  (new:ObjOk X.prog X.w (upd H x o) h' x o):Inv X pins σ (upd H x o) { s with heap:=h',toks:=t' }:=I.un (Un.write mu he k heo) (I.hok.write mu he k heo new)
theorem Inv.weak{σ':List (Option V)}(I:Inv X pins σ H s)(hl:σ'.length=σ.length)(w:∀(i:Nat) v,σ'[i]?=some (some v)->σ[i]?=some (some v)):Inv X pins σ' H s:=
 ⟨I.ok,I.os,I.bare,I.base,let⟨m,hn,hl'⟩:=I.loc;⟨m,hn,fun i x v e1 e2 e3=>hl' i x v e1 (w i v e2) e3⟩,I.cell,I.free,I.freeC,I.pin,I.hok,hl.trans I.len⟩
theorem Inv.pins_of{pins':List (Addr×Obj)}(I:Inv X pins σ H s)(h:∀p∈pins',s.heap.get? p.1=some p.2/\H p.1=none/\p.1≠X.env.locals/\p.1∉X.fs/\∀v,p.2.data≠.cell v):Inv X pins' σ H s:=
 ⟨I.ok,I.os,I.bare,I.base,I.loc,I.cell,I.free,I.freeC,fun p hp=>(qB0.mp hp).elim (fun z=>I.pin p (qD3 _ z)) (h p),I.hok,I.len⟩
theorem zKD{N:List Str}(hN:N.Nodup){i j:Nat}{x:Str}(a:N[i]?=some x)(b:N[j]?=some x):i=j:=by
 obtain⟨h1,e1⟩:=qA4.mp a;obtain⟨h2,e2⟩:=qA4.mp b;exact(qE4 hN).mp (e1.trans e2.symm)
theorem zHF{M:Model}{A:qHv}{E:Value->qHp->Prop}{i:Nat}{x:Str}{v:V}{u:Value}{Q:Unit->qHp->Prop}(I:Inv X pins σ H s)(hN:X.N.Nodup)(hi:X.N[i]?=some x)(hx:Loc X.env.scope x)(r:RelV v u)
  (h:∀s',Inv X pins (σ.set i (some v)) H s'->(∃a,qJm a s.heap s'.heap/\(a=X.env.locals\/X.env.cells.lookup x=some a))->Q () s') (hf:X.fn x=true\/X.env.scope.names.lookup x=some .local:=by first|exact .inl rfl|exact .inr rfl|assumption):wpAny M A (storeName X.env x u) Q E s:=by
 obtain⟨m,hn,hl⟩:=id I.loc;have hcls:(X.env.scope.kind==.class||(X.env.scope.kind==.module&&X.env.locals != X.env.globals))=false:=by rw[I.ok.kind];rfl
 have hiσ:i<σ.length:=by rw[I.len];exact(qA4.mp hi).1
 have cne:=I.cne;have tracked:∀{a:Addr}{h':Heap},(∃o,s.heap.get? a=some o/\H a=none)->qJm a s.heap h'->HOk X.prog X.w H h':=fun{a h'} ha hs b ob e=>by
  obtain⟨_,_,hfree⟩:=ha;refine(I.hok b ob e).stay (fun c w' hc q=>(hs.2 c ?_).trans q) (fun _ q=>q) (fun _ _ q=>q) fun _ _ _ q _=>q
  rintro rfl
  rcases hc with rfl|hc
  ·rw[hfree]at e;cases e
  ·rw[hfree]at hc;cases hc
 rcases hx with hk|hk
 ·refine wpAny_storeName_local hk hn (fun h' hn' hs=>?_) hcls;obtain⟨oL,_,_,hoL,_⟩:=id hn;refine h _ ⟨I.ok,I.os,I.bare,⟨fun b o e n hb hx=>?_,fun b o e n hb hx=>?_,I.base.free,fun b o e hx=>?_,I.base.tups,I.base.frzs,I.base.tbls⟩,⟨_,hn',fun j y v' e1 e2 e3=>?_⟩,fun y c e=>?_,I.free,I.freeC,fun p hp=>?_,tracked ⟨oL,hoL,I.free⟩ hs,by simpa using I.len⟩ ⟨_,hs,.inl rfl⟩
  ·exact(hs.2 b (qAv (qAh (qHs e) I.ok.above))).trans (I.base.keep b o e n hb hx)
  ·obtain⟨sl,e1⟩:=I.base.slot b o e n hb hx;exact⟨sl,(hs.2 b (qAv (qAh (qHs e) I.ok.above))).trans e1⟩
  ·obtain⟨o',e1⟩:=I.base.there b o e hx;exact⟨o',(hs.2 b (qAv (qAh (qHs e) I.ok.above))).trans e1⟩
  ·by_cases hj:j=i
   ·subst hj;rw[hi]at e1;cases e1;rw[qAk hiσ]at e2;cases e2;exact⟨u,r,.inl ⟨hk,by simp⟩⟩
   ·rw[qAl (qC8 hj)]at e2;obtain⟨u',r',q⟩:=hl j y v' e1 e2 e3;refine⟨u',r',?_⟩
    rcases q with⟨k,e⟩|⟨k,c,e,z⟩
    ·refine .inl ⟨k,?_⟩
     have:y≠x:=fun e=>hj (zKD hN e1 (e▸hi))
     simp[this,e]
    ·exact .inr ⟨k,c,e,z.sameBut hs (cne y c e)⟩
  ·obtain⟨w',z⟩:=I.cell y c e;exact⟨w',z.sameBut hs (cne y c e)⟩
  ·obtain⟨e,n,ne,nf,d⟩:=I.pin p hp;exact⟨(hs.2 p.1 ne).trans e,n,ne,nf,d⟩
 ·have hfn:X.fn x=true:=by
   rcases hf with z|z
   ·exact z
   ·rw[z]at hk;cases hk
  obtain⟨c,hc⟩:=I.ok.has x (.inl hk);obtain⟨w',z⟩:=I.cell x c hc;refine wpAny_storeName_cell I.ok.kind hk hc z (fun h' hc' hs=>?_);obtain⟨oc,hoc,hocd⟩:=id z;refine h { s with heap:=h' } ⟨I.ok,I.os,I.bare,⟨fun b o e n hb hx=>?_,fun b o e n hb hx=>?_,I.base.free,fun b o e hx=>?_,I.base.tups,I.base.frzs,I.base.tbls⟩,⟨m,hn.sameBut hs (qC8 (cne x c hc)),fun j y v' e1 e2 e3=>?_⟩,fun y c' e=>?_,I.free,I.freeC,fun p hp=>?_,tracked ⟨oc,hoc,I.freeC x c hc⟩ hs,by simpa using I.len⟩ ⟨c,hs,.inr hc⟩
  ·exact(hs.2 b (qAv (qAh (qHs e) (I.ok.cab x c hfn hc)))).trans (I.base.keep b o e n hb hx)
  ·obtain⟨sl,e1⟩:=I.base.slot b o e n hb hx;exact⟨sl,(hs.2 b (qAv (qAh (qHs e) (I.ok.cab x c hfn hc)))).trans e1⟩
  ·obtain⟨o',e1⟩:=I.base.there b o e hx;exact⟨o',(hs.2 b (qAv (qAh (qHs e) (I.ok.cab x c hfn hc)))).trans e1⟩
  ·by_cases hj:j=i
   ·subst hj;rw[hi]at e1;cases e1;rw[qAk hiσ]at e2;cases e2;exact⟨u,r,.inr ⟨.inl hk,c,hc,hc'⟩⟩
   ·rw[qAl (qC8 hj)]at e2;obtain⟨u',r',q⟩:=hl j y v' e1 e2 e3;refine⟨u',r',?_⟩
    rcases q with q|⟨k,c',e,z'⟩
    ·exact .inl q
    ·refine .inr ⟨k,c',e,z'.sameBut hs ?_⟩
     rintro rfl
     exact hj (zKD hN e1 (I.ok.inj _ _ _ e hc▸hi))
  ·by_cases hcc:c'=c
   ·subst hcc;exact⟨_,hc'⟩
   ·obtain⟨w2,z2⟩:=I.cell y c' e;exact⟨w2,z2.sameBut hs hcc⟩
  ·obtain⟨e,n,ne,nf,d⟩:=I.pin p hp;refine⟨(hs.2 p.1 ?_).trans e,n,ne,nf,d⟩;intro q;rw[q,hoc]at e;have q':oc=p.2:=qB3 e;exact d w' (by rw[<- q'];exact hocd)
theorem zJX{M:Model}{A:qHv}{E:Value->qHp->Prop}{i:Nat}{x:Str}{v:V}{u:Value}{Q:Unit->qHp->Prop}(I:Inv X pins σ H s)(hN:X.N.Nodup)(hi:X.N[i]?=some x)(hx:Loc X.env.scope x)(r:RelV v u)
  (h:∀s',Inv X pins (σ.set i (some v)) H s'->Q () s') (hf:X.fn x=true\/X.env.scope.names.lookup x=some .local:=by first|exact .inl rfl|exact .inr rfl|assumption):wpAny M A (storeName X.env x u) Q E s:=
 zHF I hN hi hx r (fun s' I' _=>h s' I') hf
theorem Inv.call'{s':qHp}{ch:List Addr}(I:Inv X pins σ H s)(ho:s'.os=s.os)(u:Un (frs X.stack) ch H H' s.heap s'.heap)(hok:HOk X.prog X.w H' s'.heap)(hg:qJw s'.gens)
  (hch:∀b∈ch,(b∈X.ex\/X.s₀.heap.objs.size<=b)/\b≠X.env.locals/\(∀x c,X.env.cells.lookup x=some c->c≠b)/\∀p∈X.pn++pins,p.1≠b):Inv X pins σ H' s':=by
 obtain⟨h',g',d',t',o'⟩:=s';have e:o'=s.os:=ho;subst e;exact I.call (g':=g') (t':=t') (d':=d') u hok hg hch
end
abbrev XK:=Value->Option Addr->Hp->Prop
abbrev St:=List (Option V)
abbrev VK:=V->Hp->Prop
abbrev TE:=St->Hp->VK->Prop
abbrev TT:=St->Hp->(Bool->Hp->Prop)->Prop
abbrev TA:=St->Hp->(List V->Hp->Prop)->Prop
structure Ends where
 nx:St->Hp->Prop
 rt:VK
 bk:St->Hp->Prop:=fun _ _=>False
 ct:St->Hp->Prop:=fun _ _=>False
abbrev TS:=Ends->St->Hp->Prop
def EP(X:Cx)(pins:List (Addr×Obj))(σ:St)(Q:VK)(u:Value)(s':qHp):Prop:=∃v H',Inv X pins σ H' s'/\RelV v u/\Q v H'
def TP(X:Cx)(pins:List (Addr×Obj))(σ:St)(Q:Bool->Hp->Prop)(b:Bool)(s':qHp):Prop:=∃H',Inv X pins σ H' s'/\Q b H'
def AP(X:Cx)(pins:List (Addr×Obj))(σ:St)(Q:List V->Hp->Prop)(us:List Value)(s':qHp):Prop:=∃vs H',Inv X pins σ H' s'/\Vals vs us/\Q vs H'
def SP(X:Cx)(pins:List (Addr×Obj))(D:Ends)(f:Flow)(s':qHp):Prop:=
 match f with
 |.next=>∃σ' H',Inv X pins σ' H' s'/\D.nx σ' H'
 |.brk=>∃σ' H',Inv X pins σ' H' s'/\D.bk σ' H'
 |.cont=>∃σ' H',Inv X pins σ' H' s'/\D.ct σ' H'
 |.ret u=>∃v σ' H',Inv X pins σ' H' s'/\RelV v u/\D.rt v H'
def PE(X:Cx)(e:Expr)(t:TE):Prop:=
 ∀(pins:List (Addr×Obj))(s:qHp)(σ:St)(H:Hp)(Q:VK),Inv X pins σ H s->t σ H Q->wpAny (model X.prog X.w) X.A (eval e X.env) (EP X pins σ Q) X.xe s
def PT(X:Cx)(e:Expr)(t:TT):Prop:=
 ∀(pins:List (Addr×Obj))(s:qHp)(σ:St)(H:Hp)(Q:Bool->Hp->Prop),Inv X pins σ H s->t σ H Q->wpAny (model X.prog X.w) X.A (isTrue e X.env (eval e X.env)) (TP X pins σ Q) X.xe s
def PW(X:Cx)(e:Expr)(t:TT):Prop:=
 ∀(whole:Sem Value)(pins:List (Addr×Obj))(s:qHp)(σ:St)(H:Hp)(Q:Bool->Hp->Prop),Inv X pins σ H s->t σ H Q->wpAny (model X.prog X.w) X.A (isTrue e X.env whole) (TP X pins σ Q) X.xe s
theorem PW.pt{X:Cx}{e:Expr}{t:TT}(h:PW X e t):PT X e t:=h _
def PA(X:Cx)(es:List Expr)(t:TA):Prop:=
 ∀(pos:Pos)(pins:List (Addr×Obj))(s:qHp)(σ:St)(H:Hp)(Q:List V->Hp->Prop),Inv X pins σ H s->t σ H Q->wpAny (model X.prog X.w) X.A (spliced (backTo pos (starEach es X.env))) (AP X pins σ Q) X.xe s
def PS(X:Cx)(st:Stmt)(t:TS):Prop:=
 ∀(pins:List (Addr×Obj))(s:qHp)(σ:St)(H:Hp)(D:Ends),Inv X pins σ H s->t D σ H->wpAny (model X.prog X.w) X.A (exec st X.env) (SP X pins D) X.xe s
def PSs(X:Cx)(st:List Stmt)(t:TS):Prop:=
 ∀(pins:List (Addr×Obj))(s:qHp)(σ:St)(H:Hp)(D:Ends),Inv X pins σ H s->t D σ H->wpAny (model X.prog X.w) X.A (execs st X.env) (SP X pins D) X.xe s
theorem thn{α:Type}{t:Sem α}{Q Q':α->qHp->Prop}{M:Model}{A:qHv}{E:Value->qHp->Prop}{s:qHp}(h:wpAny M A t Q E s)(hQ:∀a s,Q a s->Q' a s):wpAny M A t Q' E s:=wpAny_mono h hQ fun _ _ x=>x
section
variable{X:Cx}
noncomputable def tVar(i:Nat):TE:=fun σ H Q=>∃v,σ[i]?=some (some v)/\Q v H
noncomputable def tC(v:V):TE:=fun _ H Q=>Q v H
theorem zVL{i:Nat}{x:Str}{pos:Pos}(hN:X.N[i]?=some x)(hv:Vis X.env.scope x)(hd:(x==("__debug__":Str))=false:=by decide)(hcd:(x==("__classdict__":Str))=false:=by decide):PE X (.Name x pos) (tVar i):=by
 intro pins s σ H Q I h;obtain⟨v,e,h⟩:=h;obtain⟨m,hn,hl⟩:=I.loc;obtain⟨u,r,l⟩:=hl i x v hN e hv;have fin:EP X pins σ Q u s:=⟨v,H,I,r,h⟩
 rcases l with⟨hk,hm⟩|⟨hk,c,hc,hcell⟩
 ·exact qLm (wpAny_loadName_local I.ok.kind hk hn hm fin) hd
 ·rcases hk with hk|hk
  ·exact qLm (wpAny_loadName_cell I.ok.kind hk hc hcell fin) hd
  ·exact qLm (wpAny_loadName_free I.ok.kind hk hc hcell fin hcd) hd
theorem zAD{i j pos}:PE X (.Constant (.int i) j pos) (tC (.int i)):=fun _ _ _ H _ I h=>wpAny_Constant_int ⟨.int i,H,I.tok _,⟨_,rfl⟩,h⟩
theorem zLE{b j pos}:PE X (.Constant (.bool b) j pos) (tC (.bl b)):=fun _ _ _ H _ I h=>Constant_bool ⟨.bl b,H,I,rfl,h⟩
theorem zK9{j pos}:PE X (.Constant .none j pos) (tC .non):=fun _ _ _ H _ I h=>Constant_none ⟨.non,H,I,rfl,h⟩
theorem zVM{x j pos}:PE X (.Constant (.str x) j pos) (tC (.str x)):=fun _ _ _ H _ I h=>Calls.Constant_str ⟨.str x,H,I.tok _,⟨_,rfl⟩,h⟩
def Gl(X:Cx)(x:Str):Prop:=X.env.kindOf x=some .globalImplicit
theorem zJ6{E:Value->qHp->Prop}{pins:List (Addr×Obj)}{s:qHp}{σ:St}{H:Hp}{x:Str}{u:Value}{pos:Pos}{Q:Value->qHp->Prop}(I:Inv X pins σ H s)(hg:Gl X x)(hm:X.mg x=some u)(h:Q u s)
  (hd:(x==("__debug__":Str))=false:=by decide):wpAny (model X.prog X.w) X.A (eval (.Name x pos) X.env) Q E s:=
 qJi I.ok.kind hg (Calls.loadGlobal_global (by rw[I.ok.glob];exact I.mod.glob.keeps I.bk) hm h) hd
theorem zHX{E:Value->qHp->Prop}{pins:List (Addr×Obj)}{s:qHp}{σ:St}{H:Hp}{x:Str}{u:Value}{pos:Pos}{Q:Value->qHp->Prop}(I:Inv X pins σ H s)(hg:Gl X x)(hm:X.mg x=none)(hv:qIq x=some u)(h:Q u s)
  (hn:x≠"__name__":=by decide) (hd:(x==("__debug__":Str))=false:=by decide):wpAny (model X.prog X.w) X.A (eval (.Name x pos) X.env) Q E s:=by
 obtain⟨mb,h1,h2⟩:=I.mod.blt;exact qJi I.ok.kind hg (Calls.loadGlobal_builtin (by rw[I.ok.glob];exact I.mod.glob.keeps I.bk) hm (by rw[I.ok.blt];exact h1.keeps I.bk) ((h2 x hn).trans hv) h) hd
theorem zDX{x:Str}{v:V}{u:Value}{pos:Pos}(hg:Gl X x)(hm:X.mg x=some u)(r:RelV v u)(hd:(x==("__debug__":Str))=false:=by decide):PE X (.Name x pos) (tC v):=
 fun _ _ _ H _ I h=>zJ6 I hg hm ⟨v,H,I,r,h⟩ hd
theorem zGH{x:Str}{v:V}{u:Value}{pos:Pos}(hg:Gl X x)(hm:X.mg x=none)(hv:qIq x=some u)(r:RelV v u)(hn:x≠"__name__":=by decide)(hd:(x==("__debug__":Str))=false:=by decide):PE X (.Name x pos) (tC v):=
 fun _ _ _ H _ I h=>zHX I hg hm hv ⟨v,H,I,r,h⟩ hn hd
variable{a b:Expr}{ta tb:TE}{pos:Pos}
noncomputable def tB(t:TE):TT:=fun σ H Q=>t σ H fun x H1=>∃c,x=.bl c/\Q c H1
variable{tA tB':TT}{rest:List Expr}
noncomputable def tAnd(t u:TT):TT:=fun σ H Q=>t σ H fun c H1=>if c=true then u σ H1 Q else Q false H1
noncomputable def tOr(t u:TT):TT:=fun σ H Q=>t σ H fun c H1=>if c=true then Q true H1 else u σ H1 Q
noncomputable def tNot(t:TT):TT:=fun σ H Q=>t σ H fun c H1=>Q (!c) H1
theorem zSL(ha:PT X a tA):PW X (.BoolOp .And [a] pos) tA:=by
 intro wh pins s σ H Q I h;refine isTrue_and (thn (ha pins s σ H Q I h) fun c s1 e=>?_);cases c with
 |true=>exact isTrue_and_nil e
 |false=>exact e
theorem zFS(ha:PT X a tA):PW X (.BoolOp .Or [a] pos) tA:=by
 intro wh pins s σ H Q I h;refine isTrue_or (thn (ha pins s σ H Q I h) fun c s1 e=>?_);cases c with
 |false=>exact isTrue_or_nil e
 |true=>exact e
theorem zVH(ha:PT X a tA)(hb:PW X (.BoolOp .And (b::rest) pos) tB'):PW X (.BoolOp .And (a::b::rest) pos) (tAnd tA tB'):=by
 intro wh pins s σ H Q I h;refine isTrue_and (thn (ha pins s σ H _ I h) fun c s1 z0=>?_);obtain⟨H1,I1,q1⟩:=z0;cases c with
 |true=>exact hb wh pins s1 σ H1 Q I1 q1
 |false=>exact⟨H1,I1,q1⟩
theorem zHM(ha:PT X a tA)(hb:PW X (.BoolOp .Or (b::rest) pos) tB'):PW X (.BoolOp .Or (a::b::rest) pos) (tOr tA tB'):=by
 intro wh pins s σ H Q I h;refine isTrue_or (thn (ha pins s σ H _ I h) fun c s1 z0=>?_);obtain⟨H1,I1,q1⟩:=z0;cases c with
 |true=>exact⟨H1,I1,q1⟩
 |false=>exact hb wh pins s1 σ H1 Q I1 q1
theorem zHO(ha:PT X a tA):PT X (.UnaryOp .Not a pos) (tNot tA):=by
 intro pins s σ H Q I h;exact isTrue_not (ha pins s σ H (fun c H1=>Q (!c) H1) I h)
noncomputable def tIf(t:TT)(ta tb:TE):TE:=fun σ H Q=>t σ H fun c H1=>if c=true then ta σ H1 Q else tb σ H1 Q
theorem zKA{c:Expr}(hc:PT X c tA)(ha:PE X a ta)(hb:PE X b tb):PE X (.IfExp c a b pos) (tIf tA ta tb):=by
 intro pins s σ H Q I h;refine wpAny_IfExp (thn (hc pins s σ H _ I h) fun d s1 z0=>?_);obtain⟨H1,I1,q1⟩:=z0;cases d with
 |true=>exact ha pins s1 σ H1 Q I1 q1
 |false=>exact hb pins s1 σ H1 Q I1 q1
end
def SqL(K:qA2)(H:Hp)(a:Addr)(xs:List V):Prop:=
 Rd H a (.lst xs) \/
  ∃(o:Obj)(its:Array Value)(n:Nat),K.lookup a=some o/\o.cls=.type "list"/\o.dict=none/\o.data=.seq its n/\its.size<=sizeLine/\Vals xs its.toList
def SqT(K:qA2)(H:Hp)(a:Addr)(xs:List V):Prop:=
 Rd H a (.tup xs) \/
  ∃(o:Obj)(its:Array Value)(n:Nat),K.lookup a=some o/\o.cls=.type "tuple"/\o.data=.seq its n/\its.size<=sizeLine/\Vals xs its.toList
noncomputable def absV:Value->Option V
 |.none=>some .non
 |.bool b=>some (.bl b)
 |.int i _=>some (.int i)
 |.str x _=>some (.str x)
 |.bytes b _=>some (.byt b)
 |.float b _=>some (.flt b)
 |.ref a=>some (.ref a)
 |.type n=>some (.ty n)
 |_=>none
theorem RelV.abs{x:V}{u:Value}(r:RelV x u):absV u=some x:=by
 cases x with
 |non=>cases r;rfl
 |bl _=>cases r;rfl
 |int _=>obtain⟨t,rfl⟩:=r;rfl
 |str _=>obtain⟨t,rfl⟩:=r;rfl
 |byt _=>obtain⟨t,rfl⟩:=r;rfl
 |flt _=>obtain⟨t,rfl⟩:=r;rfl
 |ref _=>cases r;rfl
 |ty _=>cases r;rfl
theorem RelV.inj{x y:V}{u:Value}(r:RelV x u)(q:RelV y u):x=y:=qB3 (r.abs.symm.trans q.abs)
theorem Vals.inj:∀{xs ys:List V}{us:List Value},Vals xs us->Vals ys us->xs=ys
 |_,_,_,.nil,.nil=>rfl
 |_,_,_,.cons r t,.cons r' t'=>by rw[r.inj r',Vals.inj t t']
section
variable{X:Cx}{pins:List (Addr×Obj)}{σ:St}{H:Hp}{s:qHp}{a:Addr}{xs ys:List V}
theorem SqL.of{K:qA2}(h:H a=some (.lst xs)):SqL K H a xs:=.inl (.inl h)
theorem SqT.of{K:qA2}(h:H a=some (.tup xs)):SqT K H a xs:=.inl (.inl h)
theorem Inv.list(I:Inv X pins σ H s)(h:SqL X.K H a xs):∃its:List Value,Vals xs its/\PlainL s.heap a its.toArray/\xs.length<=sizeLine:=by
 rcases h with h|⟨o,its,n,hk,hc,hd,hs,hz,r⟩
 ·obtain⟨z,its,n,r,e⟩:=h.ok I.hok;exact⟨its,r,⟨_,n,e,rfl,rfl,rfl⟩,z⟩
 ·refine⟨its.toList,r,⟨o,n,I.kIn a o hk,hc,hd,by simpa using hs⟩,?_⟩;have e:=r.length;simp only[qD7]at e;omega
theorem Inv.tuple(I:Inv X pins σ H s)(h:SqT X.K H a xs):∃its:List Value,Vals xs its/\IsTup s.heap a its.toArray/\xs.length<=sizeLine:=by
 rcases h with h|⟨o,its,n,hk,hc,hs,hz,r⟩
 ·obtain⟨z,its,r,p⟩:=h.ok I.hok;exact⟨its,r,p,z⟩
 ·refine⟨its.toList,r,⟨o,I.kIn a o hk,hc,n,by simpa using hs⟩,?_⟩;have e:=r.length;simp only[qD7]at e;omega
theorem Inv.list_inj(I:Inv X pins σ H s)(h:SqL X.K H a xs)(h':SqL X.K H a ys):xs=ys:=by
 obtain⟨its,r,⟨o,n,e,_,_,d⟩,_⟩:=I.list h;obtain⟨its',r',⟨o',n',e',_,_,d'⟩,_⟩:=I.list h';rw[e]at e';cases e';rw[d]at d'
 injection d' with d1 _
 have:its=its':=by simpa using congrArg qH9 d1
 subst this;exact r.inj r'
theorem Inv.tuple_inj(I:Inv X pins σ H s)(h:SqT X.K H a xs)(h':SqT X.K H a ys):xs=ys:=by
 obtain⟨its,r,⟨o,e,_,n,d⟩,_⟩:=I.tuple h;obtain⟨its',r',⟨o',e',_,n',d'⟩,_⟩:=I.tuple h';rw[e]at e';cases e';rw[d]at d'
 injection d' with d1 _
 have:its=its':=by simpa using congrArg qH9 d1
 subst this;exact r.inj r'
end
abbrev Cx.wish(X:Cx)(E:Value->qHp->Prop):Cx:={ X with xe:=E }
abbrev Cx.nox(X:Cx):Cx:=X.wish fun _ _=>False
theorem Cx.Ok.wish{X:Cx}(ok:X.Ok)(E:Value->qHp->Prop):(X.wish E).Ok:=
 ⟨ok.mod,ok.kind,ok.glob,ok.blt,ok.above,ok.inj,ok.has,ok.cab,ok.hd,ok.frames,ok.stk,ok.exf,ok.bs,ok.bsz,ok.noex,ok.exfs,ok.funs,ok.frf⟩
theorem Cx.Ok.unwish{X:Cx}{E:Value->qHp->Prop}(ok:(X.wish E).Ok):X.Ok:=
 ⟨ok.mod,ok.kind,ok.glob,ok.blt,ok.above,ok.inj,ok.has,ok.cab,ok.hd,ok.frames,ok.stk,ok.exf,ok.bs,ok.bsz,ok.noex,ok.exfs,ok.funs,ok.frf⟩
section
variable{X:Cx}{pins:List (Addr×Obj)}{σ:St}{H:Hp}{s:qHp}{E:Value->qHp->Prop}
theorem Inv.wish(I:Inv X pins σ H s)(E:Value->qHp->Prop):Inv (X.wish E) pins σ H s:=⟨I.ok.wish E,I.os,I.bare,I.base,I.loc,I.cell,I.free,I.freeC,I.pin,I.hok,I.len⟩
theorem Inv.unwish(I:Inv (X.wish E) pins σ H s):Inv X pins σ H s:=⟨I.ok.unwish,I.os,I.bare,I.base,I.loc,I.cell,I.free,I.freeC,I.pin,I.hok,I.len⟩
theorem SP.unwish{D:Ends}{f:Flow}{s':qHp}(h:SP (X.wish E) pins D f s'):SP X pins D f s':=by
 cases f with
 |next=>obtain⟨σ',H',I,q⟩:=h;exact⟨σ',H',I.unwish,q⟩
 |brk=>obtain⟨σ',H',I,q⟩:=h;exact⟨σ',H',I.unwish,q⟩
 |cont=>obtain⟨σ',H',I,q⟩:=h;exact⟨σ',H',I.unwish,q⟩
 |ret u=>obtain⟨v,σ',H',I,r,q⟩:=h;exact⟨v,σ',H',I.unwish,r,q⟩
theorem PSs.nox{st:List Stmt}{t:TS}(h:PSs X.nox st t):PSs X st t:=fun pins s σ H D I hw=>
 wpAny_mono (h pins s σ H D (I.wish _) hw) (fun _ _ q=>q.unwish) fun _ _ z=>qAf z
end
section
variable{X:Cx}{st:Stmt}{rest:List Stmt}{t u:TS}{e:Expr}{te:TE}{pos:Pos}
noncomputable def zUI:TS:=fun D σ H=>D.nx σ H
noncomputable def tSeq(t u:TS):TS:=fun D σ H=>t { D with nx:=u D } σ H
theorem zBL:PSs X [] zUI:=fun _ _ σ H _ I h=>qJd ⟨σ,H,I,h⟩
theorem zA9(h1:PS X st t)(h2:PSs X rest u):PSs X (st::rest) (tSeq t u):=by
 intro pins s σ H D I h;refine wpAny_execs_cons (thn (h1 pins s σ H { D with nx:=u D } I h) fun f s1 q=>?_);cases f with
 |next=>
  obtain⟨σ',H',I',q⟩:=q;exact h2 pins s1 σ' H' D I' q
 |ret v=>exact q
 |brk=>exact q
 |cont=>exact q
theorem zAI(h1:PS X st t):PSs X [st] t:=by
 intro pins s σ H D I h;refine wpAny_execs_cons (thn (h1 pins s σ H D I h) fun f s1 q=>?_);cases f with
 |next=>exact qJd q
 |ret v=>exact q
 |brk=>exact q
 |cont=>exact q
theorem Inv.quiet{pins:List (Addr×Obj)}{σ:St}{H:Hp}{s:qHp}(I:Inv X pins σ H s):interactive X.env=false:=by simp[interactive,I.ok.kind]
noncomputable def zMA(te:TE):TS:=fun D σ H=>te σ H fun _ H1=>D.nx σ H1
theorem zMT(he:PE X e te)(hs:qKs e none pos.line X.env=pure false:=by rfl):PS X (.Expr e pos) (zMA te):=by
 intro pins s σ H D I h;exact wpAny_Expr_any (thn (he pins s σ H _ I h) fun v s1 ⟨x,H1,I1,r1,q1⟩=>⟨σ,H1,I1,q1⟩) I.quiet hs
noncomputable def tRet(te:TE):TS:=fun D σ H=>te σ H D.rt
theorem zB5(he:PE X e te):PS X (.Return (some e) pos) (tRet te):=by
 intro pins s σ H D I h;exact wpAny_Return_some (thn (he pins s σ H _ I h) fun v s1 ⟨x,H1,I1,r1,q1⟩=>⟨x,σ,H1,I1,r1,q1⟩)
noncomputable def tIfS(c:TT)(t u:TS):TS:=fun D σ H=>c σ H fun b H1=>if b=true then t D σ H1 else u D σ H1
theorem zEH{c:Expr}{a b:List Stmt}{tc:TT}(hc:PT X c tc)(ha:PSs X a t)(hb:PSs X b u):PS X (.If c a b pos) (tIfS tc t u):=by
 intro pins s σ H D I h;refine wpAny_If (thn (hc pins s σ H _ I h) fun d s1 z0=>?_);obtain⟨H1,I1,q1⟩:=z0;cases d with
 |true=>exact ha pins s1 σ H1 D I1 q1
 |false=>exact hb pins s1 σ H1 D I1 q1
end
abbrev TG:=V->St->Hp->(St->Hp->Prop)->Prop
def PG(X:Cx)(target:Expr)(t:TG):Prop:=
 ∀(pins:List (Addr×Obj))(s:qHp)(σ:St)(H:Hp)(v:V)(u:Value)(Q:St->Hp->Prop),Inv X pins σ H s->RelV v u->t v σ H Q ->
  wpAny (model X.prog X.w) X.A (assign target X.env u) (fun _ s'=>∃σ' H',Inv X pins σ' H' s'/\Q σ' H') X.xe s
abbrev TSet:=V->V->V->Hp->(Hp->Prop)->Prop
def PSet(X:Cx)(t:TSet):Prop:=
 ∀(pins:List (Addr×Obj))(s:qHp)(σ:St)(H:Hp)(o i v:V)(ov iv u:Value)(Q:Hp->Prop),Inv X pins σ H s->RelV o ov->RelV i iv->RelV v u->t o i v H Q ->
  wpAny (model X.prog X.w) X.A (setItem ov iv u) (fun _ s'=>∃H',Inv X pins σ H' s'/\Q H') X.xe s
section
variable{X:Cx}{pos:Pos}
noncomputable def zE2(i:Nat):TG:=fun v σ H Q=>Q (σ.set i (some v)) H
theorem zC2{i:Nat}{x:Str}(hN:X.N.Nodup)(hi:X.N[i]?=some x)(hx:Loc X.env.scope x)(hf:X.fn x=true\/X.env.scope.names.lookup x=some .local:=by first|exact .inl rfl|exact .inr rfl|assumption):PG X (.Name x pos) (zE2 i):=by
 intro pins s σ H v u Q I r h;exact qKv (zJX I hN hi hx r (fun s' I'=>⟨_,H,I',h⟩) hf)
noncomputable def gSub(to ti:TE)(t:TSet):TG:=fun v σ H Q=>to σ H fun o H1=>ti σ H1 fun i H2=>t o i v H2 fun H3=>Q σ H3
theorem zE9{o i:Expr}{to ti:TE}{t:TSet}(ho:PE X o to)(hi:PE X i ti)(hs:PSet X t)
  (ha:∀v,assign (.Subscript o i pos) X.env v=(do
   let ov <- holding [v] (eval o X.env)
   let iv <- holding [v,ov] (eval i X.env)
   qLq pos
   holding [v,ov,iv] (setItem ov iv v)
   release [v,ov,iv] []):=by intro _;rfl):PG X (.Subscript o i pos) (gSub to ti t):=by
 intro pins s σ H v u Q I r h;rw[ha];refine wpAny_bind (wpAny_holding (thn (ho pins s σ H _ I h) fun ov s1 z0=>?_));obtain⟨x,H1,I1,r1,q1⟩:=z0;refine wpAny_bind (wpAny_holding (thn (hi pins s1 σ H1 _ I1 q1) fun iv s2 z0=>?_));obtain⟨y,H2,I2,r2,q2⟩:=z0;refine wpAny_bind (wpAny_standAt (wpAny_bind (wpAny_holding (thn (hs pins s2 σ H2 x y v ov iv u _ I2 r1 r2 r q2) fun _ s3 z0=>?_))));obtain⟨H3,I3,q3⟩:=z0;exact wpAny_release ⟨σ,H3,I3,q3⟩
noncomputable def tAsg(te:TE)(g:TG):TS:=fun D σ H=>te σ H fun x H1=>g x σ H1 D.nx
theorem zE8{tg e:Expr}{te:TE}{g:TG}(he:PE X e te)(hg:PG X tg g)(hs:swapsWithSole [tg] e pos.line X.env=pure false:=by rfl)(hw:swappedStores [tg] e X.env=pure none:=by rfl)
  (h1:(assignEach [tg] X.env).map (·.2)=[assign tg X.env]:=by rfl):PS X (.Assign [tg] e pos) (tAsg te g):=by
 intro pins s σ H D I h;refine wpAny_Assign_stores (thn (he pins s σ H _ I h) fun v s1 z0=>?_) hs hw;obtain⟨x,H1,I1,r1,q1⟩:=z0;rw[h1];exact thn (hg pins s1 σ H1 x v _ I1 r1 q1) fun _ s2 q=>q
theorem zVI{i:Nat}{x:Str}{e:Expr}{te:TE}{pos':Pos}(hN:X.N.Nodup)(hi:X.N[i]?=some x)(hx:Loc X.env.scope x)(he:PE X e te)(hs:qKs e (some (.Name x pos')) pos.line X.env=pure false:=by rfl)(hf:X.fn x=true\/X.env.scope.names.lookup x=some .local:=by first|exact .inl rfl|exact .inr rfl|assumption) :
  PS X (.Assign [.Name x pos'] e pos) (tAsg te (zE2 i)):=by
 intro pins s σ H D I h;refine wpAny_Assign_Name (thn (he pins s σ H _ I h) fun v s1 z0=>?_) hs;obtain⟨y,H1,I1,r1,q1⟩:=z0;exact zJX I1 hN hi hx r1 (fun s2 I2=>⟨_,H1,I2,q1⟩) hf
noncomputable def zM7(c:TT)(tb:TS):TS:=fun D σ H=>∃W:Nat->St->Hp->Prop,(∃m,W m σ H)/\∀m σ H,W m σ H ->
 c σ H fun b H1=>if b=true then ∃N:St->Hp->Prop,(∀σ' H',N σ' H'->∃m',m'<m/\W m' σ' H')/\tb { D with nx:=N,ct:=N,bk:=D.nx } σ H1 else D.nx σ H1
theorem zPM{c:Expr}{body:List Stmt}{tc:TT}{tb:TS}(hp:qLa (model X.prog X.w) X.A X.env X.xe)(hc:PT X c tc)(hb:PSs X body tb):PS X (.While c body [] pos) (zM7 tc tb):=by
 intro pins s σ H D I h;obtain⟨W,⟨m0,w0⟩,turn⟩:=h;refine wpAny_While (codeAny_whileLoop (fun n s'=>∃σ' H',Inv X pins σ' H' s'/\W n σ' H') ?_ m0 ⟨σ,H,I,w0⟩)
 rintro n s1 ⟨σ1,H1,I1,w1⟩
 refine qId hp (thn (hc pins s1 σ1 H1 _ I1 (turn n σ1 H1 w1)) fun b s2 z0=>?_);obtain⟨H2,I2,q2⟩:=z0;cases b with
 |true=>
  obtain⟨N,hN,q2⟩:=q2;rw[if_pos rfl];refine qId hp (thn (hb pins s2 σ1 H2 _ I2 q2) fun f s3 q3=>?_);cases f with
  |next=>
   obtain⟨σ3,H3,I3,n3⟩:=q3;obtain⟨m',hm,w3⟩:=hN σ3 H3 n3;exact⟨m',hm,σ3,H3,I3,w3⟩
  |cont=>
   obtain⟨σ3,H3,I3,n3⟩:=q3;obtain⟨m',hm,w3⟩:=hN σ3 H3 n3;exact⟨m',hm,σ3,H3,I3,w3⟩
  |brk=>exact q3
  |ret v=>exact q3
 |false=>
  rw[if_neg qAa];exact qJd ⟨σ1,H2,I2,q2⟩
end
structure It where
 go:Nat->Hp->Prop
 yld:Nat->Hp->V->Hp->Prop
 stop:Nat->Hp->Prop
def FpOk(X:Cx)(pins:List (Addr×Obj))(H:Hp)(b:Addr):Prop:=
 H b=none/\b≠X.env.locals/\b∉X.fs/\(b∈X.ex\/X.s₀.heap.objs.size<=b)/\(∀x c,X.env.cells.lookup x=some c->c≠b)/\∀p∈X.pn++pins,p.1≠b
theorem Inv.fpOk{X:Cx}{pins:List (Addr×Obj)}{σ:St}{H H':Hp}{s:qHp}{b:Addr}(I:Inv X pins σ H s)(hb:s.heap.objs.size<=b)(hn:H' b=none):FpOk X pins H' b:=by
 refine⟨hn,qCb (qAh I.lt hb),I.nofs hb,.inr (qAn I.sz hb),fun x c e z=>?_,fun p hp z=>?_⟩
 ·obtain⟨v,q⟩:=I.cell x c e;exact absurd (qAh q.lt (by rw[z];exact hb)) (qBw _)
 ·exact absurd (qAh (qHs (I.pin p hp).1) (by rw[z];exact hb)) (qBw _)
structure Turn(P:qHr)(w:World)(K:qA2)(tg:Expr)(J:It)(fp:List Addr)(it:Addr)(tn:Nat->Heap->Prop):Prop where
 mem:it∈fp
 obj:∀i h,tn i h->∀b∈fp,∃o,h.get? b=some o/\∀v,o.data≠.cell v
 keep:∀i h h',tn i h->(∀b∈fp,∀o,h.get? b=some o->h'.get? b=some o)->tn i h'
 item:∀(X:Cx),X.prog=P->X.w=w->X.K=K->X.calm=true->∀(i:Nat)(pins:List (Addr×Obj))(s:qHp)(σ:St)(H:Hp)(E:Value->qHp->Prop),Inv X pins σ H s->(∀b∈fp,FpOk X pins H b)->tn i s.heap->J.go i H ->
  wpAny (model P w) X.A (pyNext (.ref it)) (fun r s1=>∃u,r=some u /\
   wpAny (model P w) X.A (letOwnedTupleGo tg (.ref it) u) (fun _ s2=>∃x H',Inv X pins σ H' s2/\RelV x u/\J.yld i H x H'/\tn (i+1) s2.heap/\∀b∈fp,H' b=none) E s1) E s
 done:∀(X:Cx),X.prog=P->X.w=w->X.K=K->X.calm=true->∀(i:Nat)(pins:List (Addr×Obj))(s:qHp)(σ:St)(H:Hp)(E:Value->qHp->Prop),Inv X pins σ H s->(∀b∈fp,FpOk X pins H b)->tn i s.heap->J.stop i H ->
  wpAny (model P w) X.A (pyNext (.ref it)) (fun r s1=>r=none/\Inv X pins σ H s1) E s
 self:∀(A:qHv)(i:Nat)(s:qHp)(Q:Value->qHp->Prop)(E:Value->qHp->Prop),tn i s.heap->Q (.ref it) s->wpAny (model P w) A (pyIter (.ref it)) Q E s
abbrev TI:=St->Hp->(It->Hp->Prop)->Prop
def PIE(X:Cx)(pins:List (Addr×Obj))(σ:St)(tg:Expr)(R:It->Hp->Prop)(itv:Value)(s2:qHp):Prop:=
 ∃(it:Addr)(fp:List Addr)(tn:Nat->Heap->Prop)(J:It)(H':Hp),itv=.ref it/\Inv X pins σ H' s2/\Turn X.prog X.w X.K tg J fp it tn/\tn 0 s2.heap/\(∀b∈fp,FpOk X pins H' b)/\R J H'
def PI(X:Cx)(tg iter:Expr)(wi:TI):Prop:=
 ∀(pins:List (Addr×Obj))(s:qHp)(σ:St)(H:Hp)(R:It->Hp->Prop),Inv X pins σ H s->wi σ H R ->
  wpAny (model X.prog X.w) X.A (eval iter X.env) (fun v s1=>wpAny (model X.prog X.w) X.A (pyIter v) (PIE X pins σ tg R) X.xe s1) X.xe s
theorem zNY{M:Model}{A:qHv}{E:Value->qHp->Prop}{s:qHp}{tg:Expr}{it:Addr}{u:Value}{o:Obj}{n:String}{vs:Array Value}{Q:Unit->qHp->Prop}(ho:s.heap.get? it=some o)(hc:o.cls=.type n)(hd:o.data=.fields vs)
  (hn:["enumerate","zip","dict_itemiterator","dict_reverseitemiterator","odict_iterator","itertools.zip_longest","itertools.pairwise"].contains n=false) (hQ:Q () s):wpAny M A (letOwnedTupleGo tg (.ref it) u) Q E s:=by
 unfold letOwnedTupleGo;cases tg<;>first
  |exact wpAny_pure hQ
  |(cases u<;>first
    |exact wpAny_pure hQ
    |(refine wpAny_bind (wpAny_load ho ?_)
      rw[hc,hd];show wpAny M A (if(["enumerate","zip","dict_itemiterator","dict_reverseitemiterator","odict_iterator","itertools.zip_longest","itertools.pairwise"].contains n&&vs[0]?==some (rawInt _))=true then _ else _) Q E s;rw[if_neg (by intro h;rw[hn,Bool.false_and]at h;cases h)];exact wpAny_pure hQ))
noncomputable def Itl(K:qA2)(a:Addr):It:=
 ⟨fun i H=>∃xs x,SqL K H a xs/\xs[i]?=some x,fun i H x H'=>H'=H/\∀xs,SqL K H a xs->xs[i]?=some x,fun i H=>∃xs,SqL K H a xs/\xs.length<=i⟩
noncomputable def Itt(K:qA2)(a:Addr):It:=
 ⟨fun i H=>∃xs x,SqT K H a xs/\xs[i]?=some x,fun i H x H'=>H'=H/\∀xs,SqT K H a xs->xs[i]?=some x,fun i H=>∃xs,SqT K H a xs/\xs.length<=i⟩
noncomputable def Itr(lo:Int)(n:Nat):It:=⟨fun i _=>i<n,fun i H x H'=>H'=H/\x=.int (lo+i),fun i _=>n<=i⟩
theorem zM4{P:qHr}{w:World}{K:qA2}{tg:Expr}(a it:Addr):Turn P w K tg (Itl K a) [it] it (fun i h=>h.IsListIter it a i) where
 mem:=by simp
 obj:=fun i h st b hb=>by
  have e:b=it:=by simpa using hb
  subst e;obtain⟨o,e,c,d⟩:=st;exact⟨o,e,fun v z=>by rw[d]at z;cases z⟩
 keep:=fun i h h' st k=>st.at fun o e=>k it (by simp) o e
 item:=by
  intro X hP hw hK hc i pins s σ H E I hf st hg;subst hP hw hK;obtain⟨xs,x,hq,hx⟩:=hg;obtain⟨its,rv,p,hz⟩:=I.list hq;obtain⟨u,hu,ru⟩:=rv.get hx;obtain⟨f0,f1,f2,f3,f4,f5⟩:=hf it (by simp);refine wpAny_pyNext_list_item st p.isList (x:=u) (by simpa using hu) fun h' st' sb=>?_
  have I1:Inv X pins σ H { s with heap:=h' }:=I.turned (t':=s.toks) (fun b o hb e=>(sb.2 b hb).trans e) f0 f1 f3 f4 f5;obtain⟨o,e,c,d⟩:=id st';exact⟨u,rfl,zNY (s:={ s with heap:=h' }) e c d (by decide) ⟨x,H,I1,ru,⟨rfl,fun ys hy=>by rw[I.list_inj hy hq];exact hx⟩,st',fun b hb=>(hf b hb).1⟩⟩
 done:=by
  intro X hP hw hK hc i pins s σ H E I hf st hg;subst hP hw hK;obtain⟨xs,hq,hx⟩:=hg;obtain⟨its,rv,p,hz⟩:=I.list hq;obtain⟨f0,f1,f2,f3,f4,f5⟩:=hf it (by simp);have hl:=rv.length;exact wpAny_pyNext_list_end (I.ok.hd hc) st p.isList (by simp;omega) fun h' eb=>⟨rfl,I.turned (t':=s.toks) (fun b o hb e=>eb b o hb e) f0 f1 f3 f4 f5⟩
 self:=fun _ _ _ _ _ st h=>wpAny_pyIter_listiter st h
theorem zL5{P:qHr}{w:World}{K:qA2}{tg:Expr}(a it:Addr):Turn P w K tg (Itt K a) [it] it (fun i h=>h.IsTupleIter it a i) where
 mem:=by simp
 obj:=fun i h st b hb=>by
  have e:b=it:=by simpa using hb
  subst e;obtain⟨o,e,c,d⟩:=st;exact⟨o,e,fun v z=>by rw[d]at z;cases z⟩
 keep:=fun i h h' st k=>st.at fun o e=>k it (by simp) o e
 item:=by
  intro X hP hw hK hc i pins s σ H E I hf st hg;subst hP hw hK;obtain⟨xs,x,hq,hx⟩:=hg;obtain⟨its,rv,p,hz⟩:=I.tuple hq;obtain⟨u,hu,ru⟩:=rv.get hx;obtain⟨f0,f1,f2,f3,f4,f5⟩:=hf it (by simp);refine wpAny_pyNext_tuple_item st (show s.heap.IsTuple a its.toArray from p) (x:=u) (by simpa using hu) fun h' st' sb=>?_
  have I1:Inv X pins σ H { s with heap:=h' }:=I.turned (t':=s.toks) (fun b o hb e=>(sb.2 b hb).trans e) f0 f1 f3 f4 f5;obtain⟨o,e,c,d⟩:=id st';exact⟨u,rfl,zNY (s:={ s with heap:=h' }) e c d (by decide) ⟨x,H,I1,ru,⟨rfl,fun ys hy=>by rw[I.tuple_inj hy hq];exact hx⟩,st',fun b hb=>(hf b hb).1⟩⟩
 done:=by
  intro X hP hw hK hc i pins s σ H E I hf st hg;subst hP hw hK;obtain⟨xs,hq,hx⟩:=hg;obtain⟨its,rv,p,hz⟩:=I.tuple hq;obtain⟨f0,f1,f2,f3,f4,f5⟩:=hf it (by simp);have hl:=rv.length;exact wpAny_pyNext_tuple_end (I.ok.hd hc) st (show s.heap.IsTuple a its.toArray from p) (by simp;omega) fun h' eb=>⟨rfl,I.turned (t':=s.toks) (fun b o hb e=>eb b o hb e) f0 f1 f3 f4 f5⟩
 self:=fun _ _ _ _ _ st h=>wpAny_pyIter_tupleiter st h
theorem zL6{P:qHr}{w:World}{K:qA2}{tg:Expr}(it:Addr)(lo:Int)(n:Nat):Turn P w K tg (Itr lo n) [it] it (fun i h=>qIy h it (lo+(i:Nat)*1) ((n:Int)-(i:Nat)) 1) where
 mem:=by simp
 obj:=fun i h st b hb=>by
  have e:b=it:=by simpa using hb
  subst e;exact⟨_,st,fun v z=>by
   have z':Data.fields _=Data.cell v:=z;cases z'⟩
 keep:=fun i h h' st k=>k it (by simp) _ st
 item:=by
  intro X hP hw hK hc i pins s σ H E I hf st hg;subst hP hw hK;obtain⟨f0,f1,f2,f3,f4,f5⟩:=hf it (by simp);have W:=Walks.range (prog:=X.prog) (w:=X.w) (I.ok.hd hc) it lo 1 n;refine W.item i s _ _ hg st fun v h' tk hv st' kk=>?_
  obtain⟨t,rfl⟩:=hv;have I1:Inv X pins σ H { s with heap:=h',toks:=tk }:=I.turned (fun b o hb e=>kk b o (by simpa using hb) e) f0 f1 f3 f4 f5;refine⟨_,rfl,zNY (s:={ s with heap:=h',toks:=tk }) (n:="range_iterator") st' rfl rfl (by decide) ⟨.int (lo+i),H,I1,⟨t,?_⟩,⟨rfl,rfl⟩,st',fun b hb=>(hf b hb).1⟩⟩;rw[qHe]
 done:=by
  intro X hP hw hK hc i pins s σ H E I hf st hg;subst hP hw hK;obtain⟨f0,f1,f2,f3,f4,f5⟩:=hf it (by simp);exact wpAny_pyNext_range_end (I.ok.hd hc) st (by have:n<=i:=hg;omega) fun h' eb=>⟨rfl,I.turned (t':=s.toks) (fun b o hb e=>eb b o hb e) f0 f1 f3 f4 f5⟩
 self:=fun _ _ _ _ _ st h=>qK0 st h
section
variable{X:Cx}{tg:Expr}
theorem zK4{pins:List (Addr×Obj)}{σ:St}{H:Hp}{s:qHp}{R:It->Hp->Prop}{E:Value->qHp->Prop}{lo hi:Int}{t u v:Tok}{tk:Nat}(I:Inv X pins σ H s)(h1:-(2 ^ 62)<=lo)(h2:lo<2 ^ 62)(h3:-(2 ^ 62)<=hi)(h4:hi<2 ^ 62)
  (q:R (Itr lo (hi-lo).toNat) H):wpAny (model X.prog X.w) X.A (pyIter (.ref s.heap.objs.size)) (PIE X pins σ tg R) E { s with heap:=s.heap.push { cls:=.type "range",data:=.fields #[.int lo t,.int hi u,.int 1 v] },toks:=tk }:=by
 refine wpAny_pyIter_range (IsRange.new ..) (small_one h1 h2 h3 h4) ?_;have I1:Inv X pins σ H { s with heap:=s.heap.push { cls:=.type "range",data:=.fields #[.int lo t,.int hi u,.int 1 v] },toks:=tk }:=I.kept fun b o e=>qHq _ e
 refine⟨(s.heap.push { cls:=.type "range",data:=.fields #[.int lo t,.int hi u,.int 1 v] }).objs.size,[(s.heap.push { cls:=.type "range",data:=.fields #[.int lo t,.int hi u,.int 1 v] }).objs.size],_,_,H,rfl,
  I1.kept (t':=tk) fun b o e=>qHq _ e,zL6 _ lo (hi-lo).toNat,?_,fun b hb=>?_,q⟩
 ·have e1:lo+((0:Nat):Int)*1=lo:=by simp
  have e2:(((hi-lo).toNat:Nat):Int)-((0:Nat):Int)=qIe lo hi 1:=by rw[rangeSize_one];split<;>omega
  show qIy _ _ (lo+((0:Nat):Int)*1) ((((hi-lo).toNat:Nat):Int)-((0:Nat):Int)) 1;rw[e1,e2];exact qHt _ rfl
 ·have e:b=(s.heap.push { cls:=.type "range",data:=.fields #[.int lo t,.int hi u,.int 1 v] }).objs.size:=by simpa using hb
  subst e;exact I1.fpOk (qA6 _) (I1.hok.fresh (qA6 _))
def zWM(ta:TA):TI:=fun σ H R=>ta σ H fun vs H1=>∃j:Int,vs=[.int j]/\-(2 ^ 62)<=j/\j<2 ^ 62/\R (Itr 0 j.toNat) H1
def zWL(ta:TA):TI:=fun σ H R=>ta σ H fun vs H1=>∃i j:Int,vs=[.int i,.int j]/\(-(2 ^ 62)<=i/\i<2 ^ 62/\-(2 ^ 62)<=j/\j<2 ^ 62)/\R (Itr i (j-i).toNat) H1
theorem zCO{a:Expr}{ta:TA}{p pos:Pos}(hg:Gl X "range")(hm:X.mg "range" = none)(ha:PA X [a] ta)(hs:starEach [a] X.env=[(false,eval a X.env)]:=by rfl):PI X tg (.Call (.Name "range" p) [a] [] pos) (zWM ta):=by
 intro pins s σ H R I h;refine Call_ (zHX I hg hm qJb (qCc (thn (ha pos pins s σ H _ I h) fun us s1 z0=>?_) hs rfl));obtain⟨vs,H1,I1,r1,q1⟩:=z0;obtain⟨j,e,q1,q2,q⟩:=q1;subst e;cases r1 with
 |cons r rr=>
  cases rr;obtain⟨t,rfl⟩:=r;exact call_range_1 (zK4 I1 (by omega) (by omega) q1 q2 (by simpa using q))
theorem zMZ{a b:Expr}{ta:TA}{p pos:Pos}(hg:Gl X "range")(hm:X.mg "range" = none)(ha:PA X [a,b] ta)(hs:starEach [a,b] X.env=[(false,eval a X.env),(false,eval b X.env)]:=by rfl)(hs2:starEach [b] X.env=[(false,eval b X.env)]:=by rfl) :
  PI X tg (.Call (.Name "range" p) [a,b] [] pos) (zWL ta):=by
 intro pins s σ H R I h;refine Call_ (zHX I hg hm qJb (qCc (thn (ha pos pins s σ H _ I h) fun us s1 z0=>?_) (by rw[hs,hs2]) (by rw[hs2];rfl)));obtain⟨vs,H1,I1,r1,q1⟩:=z0;obtain⟨i,j,e,⟨q1,q2,q3,q4⟩,q⟩:=q1;subst e;cases r1 with
 |cons r rr=>
  cases rr with
  |cons r' rr=>
   cases rr;obtain⟨t,rfl⟩:=r;obtain⟨t',rfl⟩:=r';exact call_range_2 (zK4 I1 q1 q2 q3 q4 q)
noncomputable def tFor(wi:TI)(g:TG)(tb:TS):TS:=fun D σ H=>wi σ H fun J H1=>∃W:Nat->Nat->St->Hp->Prop,(∃m,W 0 m σ H1)/\∀i m σ H,W i m σ H ->
 (J.stop i H/\D.nx σ H)\/(J.go i H/\∃N:St->Hp->Prop,(∀σ' H',N σ' H'->∃m',m'<m/\W (i+1) m' σ' H')/\∀x H',J.yld i H x H'->g x σ H' fun σ2 H2=>tb { D with nx:=N,ct:=N,bk:=D.nx } σ2 H2)
noncomputable def zFT(fp:List Addr)(h:Heap):List (Addr×Obj):=fp.filterMap fun b=>(h.get? b).map fun o=>(b,o)
theorem zD0{fp:List Addr}{h:Heap}{b:Addr}{o:Obj}(hb:b∈fp)(e:h.get? b=some o):(b,o)∈zFT fp h:=qF1.mpr ⟨b,hb,by rw[e];rfl⟩
theorem zNA{fp:List Addr}{h:Heap}{p:Addr×Obj}(hp:p∈zFT fp h):p.1∈fp/\h.get? p.1=some p.2:=by
 obtain⟨b,hb,e⟩:=qF1.mp hp;cases q:h.get? b with
 |none=>rw[q]at e;cases e
 |some o=>
  rw[q]at e;have e':(b,o)=p:=qB3 e;subst e';exact⟨hb,q⟩
theorem Inv.pinned{pins:List (Addr×Obj)}{σ:St}{H:Hp}{s:qHp}{fp:List Addr}(I:Inv X pins σ H s)(hf:∀b∈fp,FpOk X pins H b)(ho:∀b∈fp,∃o,s.heap.get? b=some o/\∀v,o.data≠.cell v):Inv X (pins++zFT fp s.heap) σ H s:=
 I.pins_of fun p hp=>(qB0.mp hp).elim (fun z=>I.pin p (qAq _ z)) fun z=>by
  obtain⟨hb,e⟩:=zNA z;obtain⟨f0,f1,f2,_⟩:=hf p.1 hb;obtain⟨o,e',d⟩:=ho p.1 hb;rw[e]at e';cases e';exact⟨e,f0,f1,f2,d⟩
theorem Inv.unpinned{pins pl:List (Addr×Obj)}{σ:St}{H:Hp}{s:qHp}(I:Inv X (pins++pl) σ H s):Inv X pins σ H s:=I.pins_of fun p hp=>I.pin p (qAq _ (qD3 _ hp))
theorem zVJ{iter:Expr}{body:List Stmt}{wi:TI}{g:TG}{tb:TS}{pos:Pos}(hp:qLa (model X.prog X.w) X.A X.env X.xe)(hc:X.calm=true)(hi:PI X tg iter wi)(hg:PG X tg g)(hb:PSs X body tb)
  (hs:∀x,qIz iter X.env x=pure x:=by intro _;rfl):PS X (.For tg iter body [] pos) (tFor wi g tb):=by
 intro pins s σ H D I h;refine wpAny_For (thn (hi pins s σ H _ I h) fun v s1 h1=>thn h1 fun itv s2 h2=>?_) hs;obtain⟨it,fp,tn,J,H2,e,I2,T,st2,f2,W,⟨m0,w0⟩,turn⟩:=h2;subst e;have stat:∀{H':Hp},(∀b∈fp,H' b=none)->∀b∈fp,FpOk X pins H' b:=fun hn b hb=>⟨hn b hb,(f2 b hb).2⟩
 refine codeAny_forLoop_any (fun n s'=>∃i σ' H',Inv X pins σ' H' s'/\tn i s'.heap/\(∀b∈fp,H' b=none)/\W i n σ' H') ?_ m0 ⟨0,σ,H2,I2,st2,fun b hb=>(f2 b hb).1,w0⟩
 rintro n s3 ⟨i,σ3,H3,I3,st3,fr3,w3⟩
 rcases turn i n σ3 H3 w3 with⟨stop,qn⟩|⟨go,N,hN,step⟩
 ·refine qId hp (thn (T.done X rfl rfl rfl hc i pins s3 σ3 H3 X.xe I3 (stat fr3) st3 stop) fun r s4 z0=>?_);obtain⟨hr,I4⟩:=z0;subst hr;exact qJd ⟨σ3,H3,I4,qn⟩
 ·refine qId hp (thn (T.item X rfl rfl rfl hc i pins s3 σ3 H3 X.xe I3 (stat fr3) st3 go) fun r s4 z0=>?_);obtain⟨u,hr,h4⟩:=z0;subst hr;refine qId hp (thn h4 fun _ s5 z0=>?_);obtain⟨x,H5,I5,r5,y5,st5,fr5⟩:=z0;have I5':=I5.pinned (stat fr5) (T.obj _ _ st5);refine qId hp (thn (hg _ s5 σ3 H5 x u _ I5' r5 (step x H5 y5)) fun _ s6 z0=>?_);obtain⟨σ6,H6,I6,q6⟩:=z0;refine qId hp (thn (hb _ s6 σ6 H6 _ I6 q6) fun f s7 q7=>?_);have again:∀{σ7:St}{H7:Hp},Inv X (pins++zFT fp s5.heap) σ7 H7 s7->N σ7 H7->∃m,m<n/\∃i σ' H',Inv X pins σ' H' s7/\tn i s7.heap/\(∀b∈fp,H' b=none)/\W i m σ' H':=fun{σ7 H7} I7 n7=>by
   obtain⟨m',hm,w7⟩:=hN σ7 H7 n7;refine⟨m',hm,i+1,σ7,H7,I7.unpinned,T.keep _ _ _ st5 fun b hb o e=>(I7.pin (b,o) (qAq _ (qAq _ (zD0 hb e)))).1,fun b hb=>?_,w7⟩;obtain⟨o,e,d⟩:=T.obj _ _ st5 b hb;exact(I7.pin (b,o) (qAq _ (qAq _ (zD0 hb e)))).2.1
  cases f with
  |next=>obtain⟨σ7,H7,I7,n7⟩:=q7;exact again I7 n7
  |cont=>obtain⟨σ7,H7,I7,n7⟩:=q7;exact again I7 n7
  |brk=>obtain⟨σ7,H7,I7,q7⟩:=q7;exact⟨σ7,H7,I7.unpinned,q7⟩
  |ret v=>obtain⟨x7,σ7,H7,I7,r7,q7⟩:=q7;exact⟨x7,σ7,H7,I7.unpinned,r7,q7⟩
end
abbrev R2:=V->V->Hp->VK->Prop
def OpR(X:Cx)(f:Value->Value->Sem Value)(r:R2):Prop:=
 ∀(pins:List (Addr×Obj))(s:qHp)(σ:St)(H:Hp)(x y:V)(v u:Value)(Q:VK),Inv X pins σ H s->RelV x v->RelV y u->r x y H Q ->
  wpAny (model X.prog X.w) X.A (f v u) (EP X pins σ Q) X.xe s
def UnR(X:Cx)(f:Value->Sem Value)(r:V->Hp->VK->Prop):Prop:=
 ∀(pins:List (Addr×Obj))(s:qHp)(σ:St)(H:Hp)(x:V)(v:Value)(Q:VK),Inv X pins σ H s->RelV x v->r x H Q ->
  wpAny (model X.prog X.w) X.A (f v) (EP X pins σ Q) X.xe s
def zBU(X:Cx)(f:Value)(r:List V->Hp->VK->Prop):Prop:=
 ∀(pins:List (Addr×Obj))(s:qHp)(σ:St)(H:Hp)(xs:List V)(us:List Value)(Q:VK),Inv X pins σ H s->Vals xs us->r xs H Q ->
  wpAny (model X.prog X.w) X.A (call f us) (EP X pins σ Q) X.xe s
def TruR(X:Cx)(r:V->Hp->(Bool->Hp->Prop)->Prop):Prop:=
 ∀(pins:List (Addr×Obj))(s:qHp)(σ:St)(H:Hp)(x:V)(v:Value)(Q:Bool->Hp->Prop),Inv X pins σ H s->RelV x v->r x H Q ->
  wpAny (model X.prog X.w) X.A (truthy v) (TP X pins σ Q) X.xe s
noncomputable def tOp(r:R2)(ta tb:TE):TE:=fun σ H Q=>ta σ H fun x H1=>tb σ H1 fun y H2=>r x y H2 Q
noncomputable def tUn(r:V->Hp->VK->Prop)(ta:TE):TE:=fun σ H Q=>ta σ H fun x H1=>r x H1 Q
noncomputable def rI(C:Int->Int->Prop)(g:Int->Int->V):R2:=fun x y H Q=>∃i j,x=.int i/\y=.int j/\C i j/\Q (g i j) H
noncomputable def rI0(g:Int->Int->V):R2:=fun x y H Q=>∃i j,x=.int i/\y=.int j/\Q (g i j) H
def rU(g:Int->V):V->Hp->VK->Prop:=fun x H Q=>∃i,x=.int i/\Q (g i) H
section
variable{X:Cx}{a b c:Expr}{ta tb tc:TE}{pos:Pos}
theorem binT(ha:PE X a ta)(hb:PE X b tb){pins:List (Addr×Obj)}{s:qHp}{σ:St}{H:Hp}{R:V->V->Hp->Prop}(I:Inv X pins σ H s)
  (h:ta σ H fun x H1=>tb σ H1 fun y H2=>R x y H2) {Q:Value->qHp->Prop} {f:Value->Value->Sem Value}
  (hf:∀v u s2 x y H2,Inv X pins σ H2 s2->RelV x v->RelV y u->R x y H2->wpAny (model X.prog X.w) X.A (f v u) Q X.xe s2) :
  wpAny (model X.prog X.w) X.A (eval a X.env) (fun v s₁=>wpAny (model X.prog X.w) X.A (eval b X.env) (fun u s₂=>wpAny (model X.prog X.w) X.A (f v u) Q X.xe s₂) X.xe s₁) X.xe s:=by
 refine thn (ha pins s σ H _ I h) fun v s1 z0=>?_
 obtain⟨x,H1,I1,r1,q1⟩:=z0;refine thn (hb pins s1 σ H1 _ I1 q1) fun u s2 z0=>?_
 obtain⟨y,H2,I2,r2,q2⟩:=z0;exact hf v u s2 x y H2 I2 r1 r2 q2
theorem zAL{op:Operator}{r:R2}(ho:OpR X (binaryOp op) r)(ha:PE X a ta)(hb:PE X b tb):PE X (.BinOp a op b pos) (tOp r ta tb):=by
 intro pins s σ H Q I h;exact wpAny_BinOp (binT ha hb I h fun v u s2 x y H2 I2 rx ry q=>ho pins s2 σ H2 x y v u Q I2 rx ry q)
theorem zYA{op:UnaryOp}{r:V->Hp->VK->Prop}(ho:UnR X (unaryOp op) r)(ha:PE X a ta):PE X (.UnaryOp op a pos) (tUn r ta):=by
 intro pins s σ H Q I h;exact UnaryOp_ (thn (ha pins s σ H _ I h) fun v s1 ⟨x,H1,I1,r1,q1⟩=>ho pins s1 σ H1 x v Q I1 r1 q1)
theorem opI{f:Value->Value->Sem Value}{C:Int->Int->Prop}{g:Int->Int->Int}
  (rule:∀(i j:Int)(t u:Tok)(s:qHp)(Q:Value->qHp->Prop)(E:Value->qHp->Prop),C i j->Q (.int (g i j) s.toks) { s with toks:=s.toks+1 }->wpAny (model X.prog X.w) X.A (f (.int i t) (.int j u)) Q E s) :
  OpR X f (rI C fun i j=>.int (g i j)):=by
 intro pins s σ H x y v u Q I rx ry h;obtain⟨i,j,rfl,rfl,hc,q⟩:=h;obtain⟨t,rfl⟩:=rx;obtain⟨t',rfl⟩:=ry;exact rule i j t t' s _ _ hc ⟨.int (g i j),H,I.tok _,⟨_,rfl⟩,q⟩
theorem opI0{f:Value->Value->Sem Value}{g:Int->Int->Int}
  (rule:∀(i j:Int)(t u:Tok)(s:qHp)(Q:Value->qHp->Prop)(E:Value->qHp->Prop),Q (.int (g i j) s.toks) { s with toks:=s.toks+1 }->wpAny (model X.prog X.w) X.A (f (.int i t) (.int j u)) Q E s) :
  OpR X f (rI0 fun i j=>.int (g i j)):=by
 intro pins s σ H x y v u Q I rx ry h;obtain⟨i,j,rfl,rfl,q⟩:=h;obtain⟨t,rfl⟩:=rx;obtain⟨t',rfl⟩:=ry;exact rule i j t t' s _ _ ⟨.int (g i j),H,I.tok _,⟨_,rfl⟩,q⟩
theorem opB0{f:Value->Value->Sem Value}{g:Int->Int->Bool}
  (rule:∀(i j:Int)(t u:Tok)(s:qHp)(Q:Value->qHp->Prop)(E:Value->qHp->Prop),Q (.bool (g i j)) s->wpAny (model X.prog X.w) X.A (f (.int i t) (.int j u)) Q E s) :
  OpR X f (rI0 fun i j=>.bl (g i j)):=by
 intro pins s σ H x y v u Q I rx ry h;obtain⟨i,j,rfl,rfl,q⟩:=h;obtain⟨t,rfl⟩:=rx;obtain⟨t',rfl⟩:=ry;exact rule i j t t' s _ _ ⟨.bl (g i j),H,I,rfl,q⟩
def CPow(i j:Int):Prop:=0<=j/\j<=1000000/\i.natAbs<2 ^ 64
def CMul(i j:Int):Prop:=(-(2 ^ 64)<i/\i<2 ^ 64)\/(-(2 ^ 64)<j/\j<2 ^ 64)
theorem CMul.ok{i j:Int}(h:CMul i j):IntMulOk i j:=by
 rcases h with⟨h1,h2⟩|⟨h1,h2⟩
 ·exact .of_left (intBits_le_64 h1 h2)
 ·exact .of_right (intBits_le_64 h1 h2)
theorem zW0:OpR X (binaryOp .Add) (rI0 fun i j=>.int (i+j)):=opI0 fun _ _ _ _ _ _ _ q=>add_int q
theorem zVS:OpR X (binaryOp .Sub) (rI0 fun i j=>.int (i-j)):=opI0 fun _ _ _ _ _ _ _ q=>sub_int q
theorem zVW:OpR X (binaryOp .Mod) (rI (fun _ j=>0<j) fun i j=>.int (i%j)):=opI fun i j _ _ _ _ _ hc q=>by
 have h1:(0:Int)<j:=hc;exact mod_int' (by omega) (by rw[Int.fmod_eq_emod_of_nonneg i (by omega)];exact q)
theorem zVU:OpR X (binaryOp .Pow) (rI CPow fun i j=>.int (i ^ j.toNat)):=opI fun _ _ _ _ _ _ _ hc q=>pow_int_small hc.1 hc.2.1 hc.2.2 q
theorem zVR:OpR X (binaryOp .BitXor) (rI0 fun i j=>.int (qJ1 i j)):=opI0 fun _ _ _ _ _ _ _ q=>xor_int q
theorem unI{f:Value->Sem Value}{g:Int->Int}
  (rule:∀(i:Int)(t:Tok)(s:qHp)(Q:Value->qHp->Prop)(E:Value->qHp->Prop),Q (.int (g i) s.toks) { s with toks:=s.toks+1 }->wpAny (model X.prog X.w) X.A (f (.int i t)) Q E s) :
  UnR X f (rU fun i=>.int (g i)):=by
 intro pins s σ H x v Q I rx h;obtain⟨i,rfl,q⟩:=h;obtain⟨t,rfl⟩:=rx;exact rule i t s _ _ ⟨.int (g i),H,I.tok _,⟨_,rfl⟩,q⟩
theorem zUC:UnR X (unaryOp .USub) (rU fun i=>.int (-i)):=unI fun _ _ _ _ _ q=>neg_int q
end
noncomputable def scal:V->V->Bool
 |.non,.non=>true | .non,.int _=>true | .int _,.non=>true | .non,.bl _=>true | .bl _,.non=>true | .non,.str _=>true | .str _,.non=>true
 |.int _,.int _=>true | .bl _,.bl _=>true | .str _,.str _=>true | .byt _,.byt _=>true
 |.int _,.str _=>true | .str _,.int _=>true | .bl _,.str _=>true | .str _,.bl _=>true
 |_,_=>false
def rEq:R2:=fun x y H Q=>scal x y=true/\Q (.bl (decide (x=y))) H
def rNe:R2:=fun x y H Q=>scal x y=true/\Q (.bl (!decide (x=y))) H
theorem zOH{i j:Int}:decide (V.int i=V.int j)=(i==j):=by
 rw[qD8];simp
theorem dec_bl{i j:Bool}:decide (V.bl i=V.bl j)=(i==j):=by
 rw[qD8];simp
theorem zOG{i j:Str}:decide (V.str i=V.str j)=(i==j):=by
 rw[qD8];simp
theorem zOI{i j:Array UInt8}:decide (V.byt i=V.byt j)=(i.toList==j.toList):=by
 rw[qD8];cases i;cases j;simp
section
variable{X:Cx}{a b c:Expr}{ta tb tc:TE}{pos:Pos}
theorem fin_bl{pins:List (Addr×Obj)}{σ:St}{H:Hp}{s:qHp}{Q:VK}{k k':Bool}(I:Inv X pins σ H s)(q:Q (.bl k) H)(e:k=k'):EP X pins σ Q (.bool k') s:=by
 subst e;exact⟨.bl k,H,I,rfl,q⟩
theorem zYF:OpR X (compareOp .Eq) rEq:=by
 intro pins s σ H x y v u Q I rx ry h;obtain⟨hs,q⟩:=h;cases x with
 |non=>
  cases rx;cases y with
  |non=>cases ry;exact qG7 (fin_bl I q (by simp))
  |bl j=>cases ry;exact qG8 (fin_bl I q (by simp))
  |int j=>obtain⟨t',rfl⟩:=ry;exact qGl (fin_bl I q (by simp))
  |str j=>obtain⟨t',rfl⟩:=ry;exact qGm (fin_bl I q (by simp))
  |_=>exact absurd (show false=true from hs) qAa
 |bl i=>
  cases rx;cases y with
  |non=>cases ry;exact qG9 (fin_bl I q (by simp))
  |bl j=>cases ry;exact eq_bool (fin_bl I q dec_bl)
  |str j=>obtain⟨t',rfl⟩:=ry;exact qGa (fin_bl I q (by simp))
  |_=>exact absurd (show false=true from hs) qAa
 |int i=>
  obtain⟨t,rfl⟩:=rx;cases y with
  |non=>cases ry;exact qGn (fin_bl I q (by simp))
  |int j=>obtain⟨t',rfl⟩:=ry;exact eq_int (fin_bl I q zOH)
  |str j=>obtain⟨t',rfl⟩:=ry;exact qGo (fin_bl I q (by simp))
  |_=>exact absurd (show false=true from hs) qAa
 |str i=>
  obtain⟨t,rfl⟩:=rx;cases y with
  |non=>cases ry;exact qGp (fin_bl I q (by simp))
  |bl j=>cases ry;exact qGb (fin_bl I q (by simp))
  |int j=>obtain⟨t',rfl⟩:=ry;exact qGq (fin_bl I q (by simp))
  |str j=>obtain⟨t',rfl⟩:=ry;exact eq_str (fin_bl I q zOG)
  |_=>exact absurd (show false=true from hs) qAa
 |byt i=>
  obtain⟨t,rfl⟩:=rx;cases y with
  |byt j=>obtain⟨t',rfl⟩:=ry;exact PySem.W.eq_bytes (fin_bl I q zOI)
  |_=>exact absurd (show false=true from hs) qAa
 |_=>cases y<;>exact absurd (show false=true from hs) qAa
theorem zYC:OpR X (compareOp .NotEq) rNe:=by
 intro pins s σ H x y v u Q I rx ry h;obtain⟨hs,q⟩:=h;cases x with
 |non=>
  cases rx;cases y with
  |non=>cases ry;exact qGc (fin_bl I q (by simp))
  |bl j=>cases ry;exact qGd (fin_bl I q (by simp))
  |int j=>obtain⟨t',rfl⟩:=ry;exact qGr (fin_bl I q (by simp))
  |str j=>obtain⟨t',rfl⟩:=ry;exact qGs (fin_bl I q (by simp))
  |_=>exact absurd (show false=true from hs) qAa
 |bl i=>
  cases rx;cases y with
  |non=>cases ry;exact qGe (fin_bl I q (by simp))
  |bl j=>cases ry;exact ne_bool (fin_bl I q (congrArg not dec_bl))
  |str j=>obtain⟨t',rfl⟩:=ry;exact qGf (fin_bl I q (by simp))
  |_=>exact absurd (show false=true from hs) qAa
 |int i=>
  obtain⟨t,rfl⟩:=rx;cases y with
  |non=>cases ry;exact qGt (fin_bl I q (by simp))
  |int j=>obtain⟨t',rfl⟩:=ry;exact ne_int (fin_bl I q (congrArg not zOH))
  |str j=>obtain⟨t',rfl⟩:=ry;exact qGu (fin_bl I q (by simp))
  |_=>exact absurd (show false=true from hs) qAa
 |str i=>
  obtain⟨t,rfl⟩:=rx;cases y with
  |non=>cases ry;exact qGv (fin_bl I q (by simp))
  |bl j=>cases ry;exact qGg (fin_bl I q (by simp))
  |int j=>obtain⟨t',rfl⟩:=ry;exact qGw (fin_bl I q (by simp))
  |str j=>obtain⟨t',rfl⟩:=ry;exact ne_str (fin_bl I q (congrArg not zOG))
  |_=>exact absurd (show false=true from hs) qAa
 |byt i=>
  obtain⟨t,rfl⟩:=rx;cases y with
  |byt j=>obtain⟨t',rfl⟩:=ry;exact PySem.W.ne_bytes (fin_bl I q (congrArg not zOI))
  |_=>exact absurd (show false=true from hs) qAa
 |_=>cases y<;>exact absurd (show false=true from hs) qAa
theorem zYD:OpR X (compareOp .Lt) (rI0 fun i j=>.bl (decide (i<j))):=opB0 fun _ _ _ _ _ _ _ q=>lt_int q
theorem zYE:OpR X (compareOp .Gt) (rI0 fun i j=>.bl (decide (j<i))):=opB0 fun _ _ _ _ _ _ _ q=>gt_int q
theorem zVX:OpR X (compareOp .Is) (fun x y H Q=>y=.non/\Q (.bl (decide (x=.non))) H):=by
 intro pins s σ H x y v u Q I rx ry h;obtain⟨rfl,q⟩:=h;cases ry;refine is_none_gen (fin_bl I q ?_);cases x<;>first
  |(cases rx;rfl)
  |(obtain⟨t,rfl⟩:=rx;rfl)
theorem zBC(b:Expr){op:CmpOp}(h:op≠.In:=by decide)(h2:op≠.NotIn:=by decide):qJx op b=false:=by
 have e1:(op==CmpOp.In)=false:=by cases op<;>first|rfl|exact absurd rfl h
 have e2:(op==CmpOp.NotIn)=false:=by cases op<;>first|rfl|exact absurd rfl h2
 cases b<;>simp[qJx,e1,e2]
theorem zSQ{op:CmpOp}{r:R2}(ho:OpR X (compareOp op) r)(ha:PE X a ta)(hb:PE X b tb)(hm:qJx op b=false):PE X (.Compare a [op] [b] pos) (tOp r ta tb):=by
 intro pins s σ H Q I h;exact wpAny_Compare1 (binT ha hb I h fun v u s2 x y H2 I2 rx ry q=>ho pins s2 σ H2 x y v u Q I2 rx ry q) hm
def TruV(K:qA2)(x:V)(H:Hp)(k:Bool):Prop:=
 match x with
 |.non=>k=false
 |.bl b=>k=b
 |.int i=>k=(i != 0)
 |.str y=>y.length<=sizeLine/\k=((y.length:Int) != 0)
 |.byt y=>y.size<=sizeLine/\k=((y.size:Int) != 0)
 |.ref p=>(∃xs,SqL K H p xs/\k = !xs.isEmpty)\/(∃xs,SqT K H p xs/\k = !xs.isEmpty)\/∃kvs,H p=some (.dK kvs)/\k = !kvs.isEmpty
 |_=>False
theorem zLO{κ:Type}{kvs:List (κ×V)}{vs:List (κ×Value)}(r:KV kvs vs):(!vs.isEmpty) = !kvs.isEmpty:=by
 cases r<;>rfl
theorem zG0{xs:List V}{its:List Value}(r:Vals xs its):(!its.toArray.isEmpty) = !xs.isEmpty:=by
 cases r<;>simp
theorem zEE:(sizeLine:Nat)<2 ^ 63:=by rw[qIn];decide
theorem zUE:TruR X (fun x H Q=>∃k,TruV X.K x H k/\Q k H):=by
 intro pins s σ H x v Q I rx h;obtain⟨k,e,q⟩:=h;have hl:=zEE;have hs:sizeLine=16777216:=qIn;cases x with
 |non=>
  cases rx;have e':k=false:=e;subst e';exact truthy_none ⟨H,I,q⟩
 |bl b=>
  cases rx;have e':k=b:=e;subst e';exact qKw ⟨H,I,q⟩
 |int i=>
  obtain⟨t,rfl⟩:=rx;have e':k=(i != 0):=e;subst e';exact PySem.P.truthy_int ⟨H,I,q⟩
 |str y=>
  obtain⟨t,rfl⟩:=rx;obtain⟨hy,e'⟩:y.length<=sizeLine/\k=((y.length:Int) != 0):=e;subst e';exact PySem.P.truthy_str (by omega) ⟨H,I.tok _,q⟩
 |byt y=>
  obtain⟨t,rfl⟩:=rx;obtain⟨hy,e'⟩:y.size<=sizeLine/\k=((y.size:Int) != 0):=e;subst e';exact PySem.W.truthy_bytes (by omega) ⟨H,I.tok _,q⟩
 |ref p=>
  cases rx;have e':(∃xs,SqL X.K H p xs/\k = !xs.isEmpty)\/(∃xs,SqT X.K H p xs/\k = !xs.isEmpty)\/∃kvs,H p=some (.dK kvs)/\k = !kvs.isEmpty:=e
  rcases e' with⟨xs,hx,e'⟩|⟨xs,hx,e'⟩|⟨kvs,hx,e'⟩
  ·subst e';obtain⟨its,r,pl,hz⟩:=I.list hx;have hlen:=r.length;exact wpAny_truthy_list pl.isList (by simp only[qAg];omega) ⟨H,I.tok _,by rw[zG0 r];exact q⟩
  ·subst e';obtain⟨its,r,pl,hz⟩:=I.tuple hx;have hlen:=r.length;exact truthy_tuple pl (by simp only[qAg];omega) ⟨H,I.tok _,by rw[zG0 r];exact q⟩
  ·subst e';obtain⟨hz,hS,vs,r,m⟩:kvs.length<=sizeLine/\(p==qIi)=false/\∃vs,KV kvs vs/\s.heap.DictOf (zDF X.prog X.w) p vs:=I.hok p _ hx;have hlen:kvs.length=vs.length:=qIt r;exact wpAny_truthy_dict hS m (by omega) ⟨H,I.tok _,by rw[zLO r];exact q⟩
 |_=>exact(show False from e).elim
theorem zLG:OpR X (binaryOp .Add) (fun x y H Q=>∃i j,x=.str i/\y=.str j/\i.length+j.length<=sizeLine/\Q (.str (i++j)) H):=by
 intro pins s σ H x y v u Q I rx ry h;obtain⟨i,j,rfl,rfl,hz,q⟩:=h;obtain⟨t,rfl⟩:=rx;obtain⟨t',rfl⟩:=ry;exact add_str (fun t' tk=>⟨.str (i++j),H,I.tok _,⟨_,rfl⟩,q⟩) hz
theorem zFH{x:V}{us:List Value}(r:Vals [x] us):∃u,us=[u]/\RelV x u:=by
 cases r with
 |cons r1 r2=>cases r2;exact⟨_,rfl,r1⟩
theorem zP6{x y:V}{us:List Value}(r:Vals [x,y] us):∃u w',us=[u,w']/\RelV x u/\RelV y w':=by
 cases r with
 |cons r1 r2=>
  cases r2 with
  |cons r3 r4=>cases r4;exact⟨_,_,rfl,r1,r3⟩
theorem zIA(hc:X.calm=true):zBU X (.builtin "max") (fun xs H Q=>∃i j,xs=[.int i,.int j]/\Q (.int (if j>i then j else i)) H):=by
 intro pins s σ H xs us Q I r h;obtain⟨i,j,rfl,q⟩:=h;obtain⟨u,w',rfl,⟨t,rfl⟩,⟨t',rfl⟩⟩:=zP6 r;refine max_two_ints (I.ok.hd hc) fun h' tk k=>⟨_,H,I.kept k,?_,q⟩
 by_cases hj:j>i
 ·rw[if_pos hj,if_pos hj];exact⟨_,rfl⟩
 ·rw[if_neg hj,if_neg hj];exact⟨_,rfl⟩
theorem zOU(hc:X.calm=true):zBU X (.builtin "min") (fun xs H Q=>∃i j,xs=[.int i,.int j]/\Q (.int (if j<i then j else i)) H):=by
 intro pins s σ H xs us Q I r h;obtain⟨i,j,rfl,q⟩:=h;obtain⟨u,w',rfl,⟨t,rfl⟩,⟨t',rfl⟩⟩:=zP6 r;refine min_two_ints (I.ok.hd hc) fun h' tk k=>⟨_,H,I.kept k,?_,q⟩
 by_cases hj:j<i
 ·rw[if_pos hj,if_pos hj];exact⟨_,rfl⟩
 ·rw[if_neg hj,if_neg hj];exact⟨_,rfl⟩
end
structure ObjM(h:Heap)(x dx C:Addr)(mA:Str->Option Value):Prop where
 obj:h.get? x=some (qEf C dx)
 ns:h.Ns1 dx mA
 ne:dx≠x
theorem zNJ{h:Heap}{dx:Addr}{mA:Str->Option Value}(n:h.Ns1 dx mA):∃od,h.get? dx=some od/\∀name,qEo name od=some (mA name):=by
 obtain⟨o,es,ep,ho,hd,hk,_,hm⟩:=n;refine⟨o,ho,fun name=>?_⟩;have e:=hm name;unfold nsFind findBy at e;rw[<- Array.find?_toList]at e;unfold qEo;rw[hd];dsimp only
 split
 ·rename_i y q
  rw[q]at e;exact congrArg some e
 ·rename_i q
  rw[q]at e;have a:es.toList.any (·.refKey)=false:=by
   rw[qFa];intro y hy;obtain⟨z,t,hkey⟩:=hk y (Array.mem_toList_iff.mp hy);simp[DictEntry.refKey,hkey]
  have a':¬es.toList.any (·.refKey)=true:=by rw[a];exact qAa
  rw[if_neg a'];exact congrArg some e
theorem ObjM.look{h:Heap}{x dx C:Addr}{mA:Str->Option Value}(I:ObjM h x dx C mA):∃od,PySem.W.InstAt h x (qEf C dx) C (some od)/\∀name,qEo name od=some (mA name):=
 let⟨od,ho,hl⟩:=zNJ I.ns
 ⟨od,⟨I.obj,rfl,rfl,ho⟩,hl⟩
section
variable{prog:qHr}{w:World}{A:qHv}{E:Value->qHp->Prop}{s:qHp}{K:qA2}{x dx C f:Addr}{mA:Str->Option Value}{name:Str}{v:Value}
end
theorem RelO.some_of{v:V}{o:Option Value}(r:RelO (some v) o):∃u,o=some u/\RelV v u:=by
 cases o with
 |none=>exact(show False from r).elim
 |some u=>exact⟨u,rfl,r⟩
section
variable{P:qHr}{w:World}{H H':Hp}{h h':Heap}{a C dx:Addr}{fs fs':List (Str×V)}
theorem zTF(hok:HOk P w H h)(e:H a=some (.ins C dx fs)):∃mA,ObjM h a dx C mA/\(∀f,RelO (fs.lookup f) (mA f))/\qH8 mA (fs.map (·.1))/\fs.length<=1000/\H dx=some (.own a):=by
 obtain⟨d,z,ne,ob,mA,n,r,q⟩:=(show ObjOk P w H h a (.ins C dx fs) from hok a _ e)
 exact⟨mA,⟨ob,n,ne⟩,r,q,z,d⟩
end
structure Cls(K:qA2)(C:Addr):Prop where
 pg:qFp K C Str.empty=true
 hd:qDm K C=true
 po:PySem.W.plainOver K C=true
 sa:qB2 K (.ref C) "__setattr__" = some (some (.builtin "object.__setattr__"))
theorem Cls.get{K:qA2}{C:Addr}(c:Cls K C)(f:Str):qFp K C f=true:=c.pg
def zXJ(K:qA2)(C:Addr)(f:Str):Prop:=qB2 K (.ref C) f=some none
section
variable{X:Cx}{pins:List (Addr×Obj)}{σ:St}{H:Hp}{s:qHp}{a C dx:Addr}{fs:List (Str×V)}{f:Str}{v:V}{A:qHv}{E:Value->qHp->Prop}
end
section
variable{X:Cx}{o e value:Expr}{f:Str}{pos pos' tpos:Pos}{ta tv:TE}
end
section
variable{X:Cx}{pins:List (Addr×Obj)}{σ:St}{H:Hp}{s:qHp}{A:qHv}{E:Value->qHp->Prop}{Q:Value->qHp->Prop}{c:Value}{b:Bool}
inductive TyOf(K:qA2)(H:Hp):V->Value->Prop where
 |non:TyOf K H .non (.type "NoneType")
 |bl (x:Bool):TyOf K H (.bl x) (.type "bool")
 |int (i:Int):TyOf K H (.int i) (.type "int")
 |str (x:Str):TyOf K H (.str x) (.type "str")
 |flt (x:UInt64):TyOf K H (.flt x) (.type "float")
 |lst {a:Addr} {xs:List V} (e:H a=some (.lst xs)):TyOf K H (.ref a) (.type "list")
 |frz {a:Addr} {o:Obj} {xs:List V} (e:H a=some (.frz o (.lst xs))):TyOf K H (.ref a) (.type "list")
 |tup {a:Addr} {xs:List V} (e:H a=some (.tup xs)):TyOf K H (.ref a) (.type "tuple")
 |dK {a:Addr} {kvs:List (Key×V)} (e:H a=some (.dK kvs)):TyOf K H (.ref a) (.type "dict")
 |dT {a:Addr} {T:Addr->Prop} {e0:Nat} {kvs:List (List KeyN×V)} (e:H a=some (.dT T e0 kvs)):TyOf K H (.ref a) (.type "dict")
 |ins {a C dx:Addr} {fs:List (Str×V)} (e:H a=some (.ins C dx fs)) (cl:Cls K C) (ha:qB2 K (.ref C) "__class__" = some (some (.builtin "object.__class__")))
   (hn:qFb K (.builtin "object.__class__") "__get__" = some (some (.builtin "getset_descriptor.__get__"))) (htk:qFx K (.builtin "object.__class__")=some true)
   (hm:qF2 K C (.type "object")=some true):TyOf K H (.ref a) (.ref C)
theorem zNR{x:V}{u t:Value}(I:Inv X pins σ H s)(rx:RelV x u)(ty:TyOf X.K H x t)(e:qGh X.K t c=some b)(h:∀tk,Q (.bool b) { s with toks:=tk }) :
  wpAny (model X.prog X.w) A (call (.builtin "isinstance") [u,c]) Q E s:=by
 cases ty with
 |non=>cases(show u=qHy from rx);exact qB8 PySem.W.kitx_none I.kIn qCp e (fun z=>nomatch z) h
 |bl y=>cases(show u=qKa y from rx);exact qB8 PySem.W.kitx_bool I.kIn qCp e (fun z=>nomatch z) h
 |int i=>obtain⟨t,q⟩:=(show ∃t,u=qJr i t from rx);cases q;exact qB8 PySem.W.kitx_int I.kIn qCp e (fun z=>nomatch z) h
 |str y=>obtain⟨t,q⟩:=(show ∃t,u=qJs y t from rx);cases q;exact qB8 PySem.W.kitx_str I.kIn qCp e (fun z=>nomatch z) h
 |flt y=>obtain⟨t,q⟩:=(show ∃t,u=qLv y t from rx);cases q;exact qB8 PySem.W.kitx_float I.kIn qCp e (fun z=>nomatch z) h
 |@lst a xs ea=>
  cases(show u=qHw a from rx)
  obtain⟨_,_,n,_,h1⟩:=(show ObjOk X.prog X.w H s.heap a (.lst xs) from I.hok a _ ea)
  exact qB8 qFc I.kIn ⟨_,h1,rfl⟩ e (fun z=>nomatch z) h
 |@frz a ob xs ea=>
  cases(show u=qHw a from rx)
  obtain⟨_,_,_,n,_,h1⟩:=(show ObjOk X.prog X.w H s.heap a (.frz ob (.lst xs)) from I.hok a _ ea)
  exact qB8 qFc I.kIn ⟨_,h1,rfl⟩ e (fun z=>nomatch z) h
 |@tup a xs ea=>
  cases(show u=qHw a from rx)
  obtain⟨_,_,_,p⟩:=(show ObjOk X.prog X.w H s.heap a (.tup xs) from I.hok a _ ea)
  obtain⟨o,h1,h2,_⟩:=p;exact qB8 PySem.W.kitx_tuple I.kIn ⟨o,h1,h2⟩ e (fun z=>nomatch z) h
 |@dK a kvs ea=>
  cases(show u=qHw a from rx)
  obtain⟨_,_,vs,_,p⟩:=(show ObjOk X.prog X.w H s.heap a (.dK kvs) from I.hok a _ ea)
  obtain⟨o,es,ep,h1,h2,_⟩:=p;exact qB8 qFd I.kIn ⟨o,h1,h2.1⟩ e (fun z=>nomatch z) h
 |@dT a T e0 kvs ea=>
  cases(show u=qHw a from rx)
  obtain⟨_,_,xs,_,o,es,ep,h1,h2,_⟩:=(show ObjOk X.prog X.w H s.heap a (.dT T e0 kvs) from I.hok a _ ea)
  exact qB8 qFd I.kIn ⟨o,h1,h2.1⟩ e (fun z=>nomatch z) h
 |@ins a C dx fs ea cl ha hn htk hm=>
  cases(show u=qHw a from rx)
  obtain⟨mA,O,_⟩:=zTF I.hok ea;obtain⟨od,J,_⟩:=O.look;exact qB8 (PySem.W.kitx_own (cl.get _) cl.hd ha hn htk hm) I.kIn J e (fun z=>nomatch z) h
end
structure Room(k:Nat)(A:qHv):Prop where
 hd:A.handled=none
 dp:A.depth+3*k+5<recursionLimit
 un:A.units+16*k+200<cLine
theorem Room.mono{j k:Nat}{A:qHv}(r:Room k A)(h:j<=k):Room j A:=⟨r.hd,by have:=r.dp;omega,by have:=r.un;omega⟩
theorem Room.deeper{k:Nat}{A:qHv}(r:Room (k+1) A)(env:Env):Room k (A.deeper env):=
 ⟨r.hd,by have:=r.dp;show A.depth+1+3*k+5<_;omega,by have:=r.un;show A.units+3+16*k+200<_;omega⟩
theorem Room.depth{k:Nat}{A:qHv}(r:Room k A):A.depth<recursionLimit:=by have:=r.dp;omega
theorem Room.units{k:Nat}{A:qHv}(r:Room k A):A.units+64<cLine:=by have:=r.un;omega
noncomputable def tNil:TA:=fun _ H Q=>Q [] H
noncomputable def zD3(ta:TE)(tr:TA):TA:=fun σ H Q=>ta σ H fun x H1=>tr σ H1 fun xs H2=>Q (x::xs) H2
section
variable{X:Cx}{e:Expr}{es:List Expr}{te:TE}{t:TA}{pos:Pos}
theorem zA8:PA X [] tNil:=fun _ _ _ _ H Q I h=>qKx ⟨[],H,I,.nil,h⟩
theorem zA2(ha:PE X e te)(hr:PA X es t)(hs:starEach (e::es) X.env=(false,eval e X.env)::starEach es X.env:=by rfl):PA X (e::es) (zD3 te t):=by
 intro pos pins s σ H Q I h;rw[hs];show wpAny _ _ (spliced ((false,eval e X.env)::backTo pos (starEach es X.env))) _ _ s;refine qJn (thn (ha pins s σ H _ I h) fun u s1 z0=>?_);obtain⟨x,H1,I1,r1,q1⟩:=z0;exact thn (hr pos pins s1 σ H1 _ I1 q1) fun us s2 ⟨xs,H2,I2,r2,q2⟩=>⟨x::xs,H2,I2,.cons r1 r2,q2⟩
def tLst(t:TA):TE:=fun σ H Q=>t σ H fun xs H1=>xs.length<=sizeLine/\∀p,H1 p=none->Q (.ref p) (upd H1 p (.lst xs))
theorem zCP(h:PA X es t):PE X (.List es pos) (tLst t):=by
 intro pins s σ H Q I hq;refine wpAny_List_spliced (thn (h pos pins s σ H _ I hq) fun us s1 ⟨xs,H1,I1,r,z,q⟩=>⟨by rw[<- r.length];exact z,?_⟩);have hf:H1 s1.heap.objs.size=none:=I1.hok.fresh (qA6 _);refine⟨.ref s1.heap.objs.size,upd H1 s1.heap.objs.size (.lst xs),I1.laid (t':=s1.toks) (fun b u e=>qHq _ e) (qA6 _) ?_,rfl,q _ hf⟩;exact⟨z,us,0,r,qHt _ rfl⟩
end
abbrev Sp:=List V->Hp->VK->XK->Prop
abbrev CXT:=List Env->Hp->qHp->XK->Value->qHp->Prop
structure Env0(P:qHr)(w:World)(K:qA2)(mg:Str->Option Value)(base:Heap)(A:qHv)(outer:List Env)(s:qHp)(H:Hp):Prop where
 frames:A.frames=some outer
 mod:Mod K mg base
 bs:∀b o,base.get? b=some o->s.heap.get? b=some o/\H b=none
 bsz:base.objs.size<=s.heap.objs.size
 funs:s.heap.FunFrames base outer
 frf:∀b∈frs outer,H b=none
 hok:HOk P w H s.heap
 bare:qJw s.gens
def CE(outer:List Env)(P:qHr)(w:World)(H:Hp)(s:qHp)(Q:VK)(u:Value)(s':qHp):Prop:=
 ∃v H',s'.os=s.os/\qJw s'.gens/\Un (frs outer) [] H H' s.heap s'.heap/\HOk P w H' s'.heap/\RelV v u/\Q v H'
def CR(CX:CXT)(outer:List Env)(P:qHr)(w:World)(H:Hp)(s:qHp)(Q:VK)(E:XK)(r:qKt)(s':qHp):Prop:=
 match r with
 |.ok (.ret u)=>CE outer P w H s Q u s'
 |.ok _=>False
 |.error e=>CX outer H s E e s'
structure FnOk(P:qHr)(w:World)(K:qA2)(mg:Str->Option Value)(base:Heap)(CX:CXT)(k:Nat)(f:Addr)(fd:qI6)(ps:List Str)(sp:Sp):Prop where
 len:∀vs H Q E,sp vs H Q E->vs.length=ps.length
 run:∀(A:qHv)(outer:List Env)(s:qHp)(H:Hp)(args:Args)(us:List Value)(vs:List V)(Q:VK)(E:XK),Room k A->Env0 P w K mg base A outer s H->qKy s fd args (ps.zip us)->Vals vs us->sp vs H Q E ->
  qJ4 (model P w) A (.call (.ref f) args) (CR CX outer P w H s Q E) s
theorem FnOk.imp{P:qHr}{w:World}{K:qA2}{mg:Str->Option Value}{base:Heap}{CX:CXT}{k:Nat}{f:Addr}{fd:qI6}{ps:List Str}{sp sp':Sp}(F:FnOk P w K mg base CX k f fd ps sp)
  (h:∀vs H Q E,sp' vs H Q E->sp vs H Q E):FnOk P w K mg base CX k f fd ps sp':=
 ⟨fun vs H Q E q=>F.len vs H Q E (h _ _ _ _ q),fun A outer s H args us vs Q E hr he hb hv hs=>F.run A outer s H args us vs Q E hr he hb hv (h _ _ _ _ hs)⟩
section
variable{X:Cx}{pins:List (Addr×Obj)}{σ:St}{H:Hp}{s s':qHp}
theorem Inv.env0(I:Inv X pins σ H s):Env0 X.prog X.w X.K X.mg X.base X.A X.stack s H:=
 ⟨I.ok.frames,I.ok.mod,I.bs,qAn I.ok.bsz I.sz,I.stack,I.stkFree,I.hok,I.bare⟩
theorem Inv.after{Q:VK}{u:Value}(I:Inv X pins σ H s)(h:CE X.stack X.prog X.w H s Q u s'):EP X pins σ Q u s':=by
 obtain⟨v,H',os,bare,un,hok,r,q⟩:=h;obtain⟨hh,g,d,t,os'⟩:=s';obtain rfl:os'=s.os:=os;exact⟨v,H',I.call (h':=hh) (g':=g) (d':=d) (t':=t) (ch:=[]) un hok bare (fun b z=>absurd z (by simp)),r,q⟩
end
noncomputable def zDJ(sp:Sp)(dvs:List V)(E:XK)(t:TA):TE:=fun σ H Q=>t σ H fun vs H1=>sp (vs++dvs) H1 Q E
def Binds(K:qA2)(fd:qI6)(ps:List Str)(ds:List Value):Prop:=
 ∀(s:qHp)(us:List Value),K.In s.heap->(us++ds).length=ps.length->qKy s fd ⟨us,[]⟩ (ps.zip (us++ds))
theorem Binds.all{K:qA2}{fd:qI6}{ps:List Str}(h:∀us:List Value,us.length=ps.length->qKb fd ⟨us,[]⟩=pure (ps.zip us)):Binds K fd ps []:=fun s us _ hl=>by
 rw[qBr]at hl ⊢;exact .of_eq (h us hl)
def zL1(CX:CXT)(X:Cx)(E:XK):Prop:=∀(pins:List (Addr×Obj))(σ:St)(H:Hp)(s:qHp)(e:Value)(s':qHp),Inv X pins σ H s->CX X.stack H s E e s'->X.xe e s'
section
variable{X:Cx}{CX:CXT}{k:Nat}{f C:Addr}{fd:qI6}{ps:List Str}{sp:Sp}{dvs:List V}{ds:List Value}{E:XK}{x m:Str}{p pos apos:Pos}{e o:Expr}{es:List Expr}{ta:TE}{t:TA}
theorem zUT{pins:List (Addr×Obj)}{σ:St}{H:Hp}{s:qHp}{Q:VK}{us:List Value}{vs:List V}(F:FnOk X.prog X.w X.K X.mg X.base CX k f fd ps sp)(hr:Room k X.A)(hb:Binds X.K fd ps ds)(hd:Vals dvs ds)(hx:zL1 CX X E)
  (I:Inv X pins σ H s) (r:Vals vs us) (h:sp (vs++dvs) H Q E):wpAny (model X.prog X.w) X.A (call (.ref f) us) (EP X pins σ Q) X.xe s:=by
 have r2:Vals (vs++dvs) (us++ds):=r.append hd;have hl:(us++ds).length=ps.length:=by rw[<- r2.length];exact F.len _ _ _ _ h
 refine wpAny_call (codeAny_mono (F.run X.A X.stack s H ⟨us,[]⟩ (us++ds) (vs++dvs) Q E hr I.env0 (hb s us I.kIn hl) r2 h) fun r s' hq=>?_);cases r with
 |error e=>exact hx pins σ H s e s' I hq
 |ok fl=>
  cases fl with
  |ret u=>exact I.after hq
  |next=>exact qAf hq
  |brk=>exact qAf hq
  |cont=>exact qAf hq
theorem zJ0(F:FnOk X.prog X.w X.K X.mg X.base CX k f fd ps sp)(hr:Room k X.A)(hg:Gl X x)(hm:X.mg x=some (.ref f))(hk:qB4 X.K (.ref f)=true)(hb:Binds X.K fd ps ds)(hd:Vals dvs ds)(hx:zL1 CX X E)
  (ha:PA X (e::es) t) (hdb:(x==("__debug__":Str))=false:=by decide) (he:starEach (e::es) X.env=(false,eval e X.env)::starEach es X.env:=by rfl) (hpl:(backTo pos (starEach es X.env)).any (·.1)=false:=by rfl) :
  PE X (.Call (.Name x p) (e::es) [] pos) (zDJ sp dvs E t):=by
 intro pins s σ H Q I h;refine qIu (zJ6 I hg hm ?_ hdb);refine qF3 (h₀:=X.base) I.ok.mod.kin hk (thn (ha pos pins s σ H _ I h) fun us s1 ⟨vs,H1,I1,r,q⟩=>⟨I1.kIn,?_⟩) he hpl;exact zUT F hr hb hd hx I1 r q
end
section
variable{X:Cx}{CX:CXT}{k:Nat}{f C:Addr}{fd:qI6}{ps ks:List Str}{sp:Sp}{E:XK}{x m:Str}{p pos apos kpos:Pos}{e o:Expr}{es:List Expr}{kws:List qLr}{te ta:TE}{t tk:TA}{nm:Option Str}
variable{g:List Value->List Value->List Value}{gV:List V->List V->List V}
end
structure FnScope(N P:List Str)(sc:Scope):Prop where
 kind:sc.kind=.function
 co:sc.isCoroutine=false
 gen:sc.isGenerator=false
 nd:N.Nodup
 pre:N.take P.length=P
 par:∀x∈P,sc.names.lookup x=some .local\/sc.names.lookup x=some .cell
 nofree:∀y∈sc.names,y.2≠.free
theorem zIG{kindOf:Str->Option qIj}{x:Str}:∀{binds:List (Str×Value)}{m:Str->Option Value},(∀v,(x,v)∉binds)->bindL kindOf binds m x=m x
 |[],_,_=>rfl
 |(n,v)::r,m,h=>by
  unfold bindL;rw[zIG fun w hw=>h w (qA9 _ hw)]
  split
  ·have:x≠n:=by rintro rfl;exact h v qAi
   simp[this]
  ·rfl
theorem zII{kindOf:Str->Option qIj}{x:Str}:∀{binds:List (Str×Value)}{m:Str->Option Value},(∀v,(x,v)∉binds)->bindC kindOf binds m x=m x
 |[],_,_=>rfl
 |(n,v)::r,m,h=>by
  unfold bindC;rw[zII fun w hw=>h w (qA9 _ hw)]
  split
  ·rfl
  ·have:x≠n:=by rintro rfl;exact h v qAi
   simp[this]
theorem zIH{kindOf:Str->Option qIj}{x:Str}{v:Value}:∀{P:List Str}{vs:List Value}{i:Nat}{m:Str->Option Value},P.Nodup->P[i]?=some x->vs[i]?=some v->kindOf x=some .local ->
  bindL kindOf (P.zip vs) m x=some v
 |[],_,_,_,_,h,_,_=>by simp at h
 |_::_,[],_,_,_,_,h,_=>by simp at h
 |p::P,w::vs,0,m,nd,h1,h2,hk=>by
  simp at h1 h2;subst h1;subst h2;show bindL kindOf ((p,w)::P.zip vs) m p=_;unfold bindL;rw[zIG fun v hv=>(qAp.mp nd).1 (qCq hv).1,if_pos hk];simp
 |p::P,w::vs,i+1,m,nd,h1,h2,hk=>by
  show bindL kindOf ((p,w)::P.zip vs) m x=_;unfold bindL;exact zIH (i:=i) (qAp.mp nd).2 (by simpa using h1) (by simpa using h2) hk
theorem zIJ{kindOf:Str->Option qIj}{x:Str}{v:Value}:∀{P:List Str}{vs:List Value}{i:Nat}{m:Str->Option Value},P.Nodup->P[i]?=some x->vs[i]?=some v->kindOf x≠some .local ->
  bindC kindOf (P.zip vs) m x=some v
 |[],_,_,_,_,h,_,_=>by simp at h
 |_::_,[],_,_,_,_,h,_=>by simp at h
 |p::P,w::vs,0,m,nd,h1,h2,hk=>by
  simp at h1 h2;subst h1;subst h2;show bindC kindOf ((p,w)::P.zip vs) m p=_;unfold bindC;rw[zII fun v hv=>(qAp.mp nd).1 (qCq hv).1,if_neg hk];simp
 |p::P,w::vs,i+1,m,nd,h1,h2,hk=>by
  show bindC kindOf ((p,w)::P.zip vs) m x=_;unfold bindC;exact zIJ (i:=i) (qAp.mp nd).2 (by simpa using h1) (by simpa using h2) hk
noncomputable def start(N:List Str)(vs:List V):St:=vs.map some++qA3 (N.length-vs.length) none
noncomputable def cxOf(CX:CXT)(P:qHr)(w:World)(K:qA2)(mg:Str->Option Value)(base:Heap)(N:List Str)(qual:Str)(scope:Scope)(f:Addr)(cd:Value)(A:qHv)(outer:List Env)(s:qHp)(H:Hp)(E:XK):Cx where
 prog:=P
 w:=w
 K:=K
 mg:=mg
 base:=base
 A:=A.deeper (envOfC qual scope s.heap.objs.size f cd)
 N:=N
 s₀:=s
 H₀:=H
 env:=envOfC qual scope s.heap.objs.size f cd
 outer:=outer
 stack:=envOfC qual scope s.heap.objs.size f cd::outer
 ex:=[]
 calm:=true
 fn:=fun _=>true
 pn:=[]
 xe:=fun e s'=>wpAny (model P w) (A.deeper (envOfC qual scope s.heap.objs.size f cd)) (leaving (envOfC qual scope s.heap.objs.size f cd) e) (fun _ s''=>CX outer H s E e s'') (fun e' s''=>CX outer H s E e' s'') s'
theorem zKW{sc:Scope}{n:Nat}{x:Str}(h:sc.names.lookup x=some .cell):∃c,(cellsFrom n sc.names []).lookup x=some c:=by
 have q:=qCu sc.names n [] (.inl h);exact qDn.mp q
theorem zNT{CX:CXT}{P:qHr}{w:World}{K:qA2}{mg:Str->Option Value}{base:Heap}{N ps:List Str}{qual:Str}{scope:Scope}{f:Addr}{cd:Value}{A:qHv}{outer:List Env}{s s1:qHp}{H:Hp}{E:XK}{us:List Value}{vs:List V}
  (S:FnScope N ps scope) (hd:A.handled=none) (e0:Env0 P w K mg base A outer s H) (hl:vs.length=ps.length) (r:Vals vs us)
  (x:InCallC s s.heap.objs.size (bindL (envOfC qual scope s.heap.objs.size f cd).kindOf (ps.zip us) fun _=>none) (cellsFrom (s.heap.objs.size+1) scope.names []) (bindC (envOfC qual scope s.heap.objs.size f cd).kindOf (ps.zip us) fun _=>none) s1) :
  Inv (cxOf CX P w K mg base N qual scope f cd A outer s H E) [] (start N vs) H s1:=by
 have hpl:ps.length<=N.length:=by have:=congrArg qD9 S.pre;rw[qE5]at this;omega
 obtain⟨h1,tk,rfl,hk⟩:=x.done;have noA:∀b:Addr,b∉(cxOf CX P w K mg base N qual scope f cd A outer s H E).ex:=fun b z=>absurd (show b∈([]:List Addr) from z) (by simp)
 refine⟨⟨e0.mod,S.kind,rfl,rfl,qA6 _,fun y z c h1 h2=>?_,fun y hy=>?_,fun y c _ h=>?_,fun _=>hd,Around.frames_deeper e0.frames,.inr ⟨rfl,rfl⟩,fun b z=>absurd z (noA b),e0.bs,e0.bsz,fun b _ _=>noA b,fun b z=>absurd z (noA b),e0.funs,e0.frf⟩,
  rfl,e0.bare,Un.kept hk,⟨_,x.toInCall.ns,fun i y v h1 h2 h3=>?_⟩,fun y c h=>⟨_,x.cell y c h⟩,e0.hok.fresh (qA6 _),fun y c h=>?_,fun p hp=>absurd (show p∈([]:List (Addr×Obj)) from hp) (by simp),e0.hok.kept hk,?_⟩
 ·exact name_of_addr x.apart (qC4 h1) (qC4 h2)
 ·have hy:scope.names.lookup y=some .cell\/scope.names.lookup y=some .free:=hy
  rcases hy with hy|hy
  ·exact zKW hy
  ·exact absurd rfl (S.nofree _ (qC4 hy))
 ·exact qCo (x.above y c (qC4 h))
 ·have hi:i<vs.length:=by
   unfold start at h2
   by_cases hi:i<vs.length
   ·exact hi
   ·rw[qAc (by simpa using hi)]at h2;rw[qBc]at h2
    split at h2<;>cases h2
  have ha:vs[i]?=some v:=by
   unfold start at h2;rw[qA8 (by simpa using hi),qAe]at h2;cases e:vs[i]? with
   |none=>rw[e]at h2;cases h2
   |some a=>rw[e]at h2;cases h2;rfl
  obtain⟨u,hu,rv⟩:=r.get ha;have hp:ps[i]?=some y:=by
   rw[<- S.pre,List.getElem?_take_of_lt (by omega)];exact h1
  have ndP:ps.Nodup:=by rw[<- S.pre];exact S.nd.sublist (List.take_sublist _ _)
  refine⟨u,rv,?_⟩
  rcases S.par y (qAw hp)with k|k
  ·exact .inl ⟨k,zIH ndP hp hu k⟩
  ·obtain⟨c,e⟩:=zKW (n:=s.heap.objs.size+1) k;refine .inr ⟨.inl k,c,e,?_⟩;have q:=x.cell y c e;rw[zIJ ndP hp hu (by show scope.names.lookup y≠_;rw[k];decide)]at q;exact q
 ·exact e0.hok.fresh (qCo (x.above y c (qC4 h)))
 ·unfold start;show _=N.length;rw[qAy,qAm,qCy];omega
theorem zWQ{CX:CXT}{P:qHr}{w:World}{K:qA2}{mg:Str->Option Value}{base:Heap}{k:Nat}{f:Addr}{name qual:Str}{params:Arguments}{body:List Stmt}{scope:Scope}{dV kV doc pm cdv ct oc:Value}{an od:Option Addr}
  {osl:Array (Option Value)} {N ps:List Str} {sp:Sp} (lk:K.lookup f=some ⟨oc,od,.func (qB7 name qual params body scope dV kV doc pm an cdv ct),osl⟩) (hcd:qC7 K cdv qual=true) (S:FnScope N ps scope)
  (len:∀vs H Q E,sp vs H Q E->vs.length=ps.length)
  (hbody:∀(A:qHv)(outer:List Env)(s:qHp)(H:Hp)(vs:List V)(Q:VK)(E:XK),Room k (A.deeper (envOfC qual scope s.heap.objs.size f cdv))->sp vs H Q E ->
   ∃t,PSs (cxOf CX P w K mg base N qual scope f cdv A outer s H E) body t/\t { nx:=fun _ H'=>Q .non H',rt:=Q } (start N vs) H) :
  FnOk P w K mg base CX (k+1) f (qB7 name qual params body scope dV kV doc pm an cdv ct) ps sp:=by
 refine⟨len,fun A outer s H args us vs Q E hr e0 hb r hsp=>?_⟩;have hl:=len _ _ _ _ hsp;have KX:K.In s.heap:=e0.mod.kin.keeps fun b o e=>(e0.bs b o e).1
 have lim:s.heap.NoLimit:=e0.mod.nolimit.keeps fun b o e=>(e0.bs b o e).1
 have hkind:∀y∈ps.zip us,scope.names.lookup y.1=some .local\/(scope.names.lookup y.1=some .cell/\((cellsFrom (s.heap.objs.size+1) scope.names []).lookup y.1).isSome=true):=fun⟨n,v⟩ hy=>by
  rcases S.par n (qCq hy).1 with q|q
  ·exact .inl q
  ·exact .inr ⟨q,qCu _ _ _ (.inl q)⟩
 refine codeAny_call_function hr.depth (KX _ _ lk) rfl S.co S.gen rfl (PySem.W.codeRec_of KX hcd) (hb _ _ _ _ ?_);refine wpAny_newFunctionEnv_cells S.kind hkind fun env he s1 x=>?_
 subst he;refine⟨lim.keeps x.toInCall.keep,codeAny_func ?_⟩;obtain⟨t,ht,hq⟩:=hbody A outer s H vs Q E (hr.deeper _) hsp;have I:Inv (cxOf CX P w K mg base N qual scope f cdv A outer s H E) [] (start N vs) H s1:=zNT S hr.hd e0 hl r x;refine wpAny_mono (ht [] s1 (start N vs) H _ I hq) (fun fl s' hs=>?_) fun e s' hs=>hs
 have fin:∀{σ':St}{H':Hp}{v:V}{u:Value},Inv (cxOf CX P w K mg base N qual scope f cdv A outer s H E) [] σ' H' s'->RelV v u->Q v H'->CE outer P w H s Q u s':=
  fun{σ' H' v u} J rv q=>⟨v,H',J.os,J.bare,J.base,J.hok,rv,q⟩
 cases fl with
 |ret u=>
  obtain⟨v,σ',H',J,rv,q⟩:=hs;exact fin J rv q
 |next=>
  obtain⟨σ',H',J,q⟩:=hs;exact fin (v:=V.non) (u:=qHy) J rfl q
 |brk=>
  obtain⟨_,_,_,q⟩:=hs;exact qAf q
 |cont=>
  obtain⟨_,_,_,q⟩:=hs;exact qAf q
section
variable{X:Cx}{x:Str}{p pos:Pos}{e:Expr}{es:List Expr}{t:TA}{id T:String}{r:List V->Hp->VK->Prop}
noncomputable def tCB(r:List V->Hp->VK->Prop)(t:TA):TE:=fun σ H Q=>t σ H fun vs H1=>r vs H1 Q
theorem zAJ(hc:zBU X (.builtin id) r)(hg:Gl X x)(hm:X.mg x=none)(hv:qIq x=some (.builtin id))(ha:PA X (e::es) t)(hn:x≠"__name__":=by decide)(hdb:(x==("__debug__":Str))=false:=by decide)
  (he:starEach (e::es) X.env=(false,eval e X.env)::starEach es X.env:=by rfl) (hpl:(backTo pos (starEach es X.env)).any (·.1)=false:=by rfl):PE X (.Call (.Name x p) (e::es) [] pos) (tCB r t):=by
 intro pins s σ H Q I h;refine qIu (zHX I hg hm hv ?_ hn hdb);exact qFj (thn (ha pos pins s σ H _ I h) fun us s1 ⟨vs,H1,I1,r1,q1⟩=>hc pins s1 σ H1 vs us Q I1 r1 q1) he hpl
theorem zAP(hc:zBU X (.type T) r)(hg:Gl X x)(hm:X.mg x=none)(hv:qIq x=some (.type T))(ha:PA X (e::es) t)(hn:x≠"__name__":=by decide)(hdb:(x==("__debug__":Str))=false:=by decide)
  (he:starEach (e::es) X.env=(false,eval e X.env)::starEach es X.env:=by rfl) (hpl:(backTo pos (starEach es X.env)).any (·.1)=false:=by rfl):PE X (.Call (.Name x p) (e::es) [] pos) (tCB r t):=by
 intro pins s σ H Q I h;refine qIu (zHX I hg hm hv ?_ hn hdb);exact qCc (thn (ha pos pins s σ H _ I h) fun us s1 ⟨vs,H1,I1,r1,q1⟩=>hc pins s1 σ H1 vs us Q I1 r1 q1) he hpl
end
section
variable{X:Cx}{K:qA2}
end
end L2
namespace Mi
end Mi
namespace PySem
open PyProof.Rows
end PySem
namespace Mi
open PySem
noncomputable section
end
noncomputable section
end
noncomputable section
end
noncomputable section
end
noncomputable section
end
noncomputable section
end
noncomputable section
end
noncomputable section
end
noncomputable section
end
noncomputable section
end
noncomputable section
end
noncomputable section
end
noncomputable section
end
noncomputable section
end
noncomputable section
end
noncomputable section
end
end Mi
namespace PySem
open Builtin Builtin.Str PySem.Spec
end PySem
namespace HT
open PySem PyProof.Rows
section
open PySem.SeqAt
open PySem.AutoSeq1 (wpAny_loadPart')
open PySem.MeetsSeq PySem.MeetsSeq2 PySem.MeetsSeq3
end
section
variable{prog:qHr}{w:World}{A:qHv}{E:Value->qHp->Prop}{s:qHp}
noncomputable def sIx(n d:Nat):Option Int->Nat
 |none=>d
 |some v=>if v<0 then(v+(n:Int)).toNat else min v.toNat n
end
end HT
namespace L2
open PySem PySem.Spec PyProof.Rows
abbrev TO:=St->Hp->(Option Int->Hp->Prop)->Prop
def PO(X:Cx)(e:Option Expr)(t:TO):Prop:=
 ∀(pins:List (Addr×Obj))(s:qHp)(σ:St)(H:Hp)(Q:Option Int->Hp->Prop),Inv X pins σ H s->t σ H Q ->
  wpAny (model X.prog X.w) X.A (evalPart e X.env) (fun u s'=>∃o H',Inv X pins σ H' s'/\IsPart u o/\Q o H') X.xe s
noncomputable def zM9:TO:=fun _ H Q=>Q none H
noncomputable def zUH(t:TE):TO:=fun σ H Q=>t σ H fun x H1=>∃i,x=.int i/\Q (some i) H1
section
variable{X:Cx}{e:Expr}{te:TE}{lo hi:Option Expr}{tl th:TO}{pos p2:Pos}
theorem zMW:PO X none zM9:=by
 intro pins s σ H Q I h;rw[evalPart_none];exact wpAny_pure ⟨none,H,I,.none,h⟩
theorem zMV(h:PE X e te):PO X (some e) (zUH te):=by
 intro pins s σ H Q I hw;rw[evalPart_some];refine thn (h pins s σ H _ I hw) fun u s1 z0=>?_
 obtain⟨x,H1,I1,r1,q1⟩:=z0;obtain⟨i,rfl,q⟩:=q1;obtain⟨t,rfl⟩:=r1;exact⟨some i,H1,I1,.int i t,q⟩
def SlR(X:Cx)(r:V->Option Int->Option Int->Hp->VK->Prop):Prop:=
 ∀(pins:List (Addr×Obj))(s:qHp)(σ:St)(H:Hp)(x:V)(v vl vu:Value)(lo hi:Option Int)(sl:Addr)(Q:VK),Inv X pins σ H s->RelV x v->s.heap.IsSliceOf sl vl vu .none->IsPart vl lo->IsPart vu hi->r x lo hi H Q ->
  ∃T id,typeLookup (.type T) "__getitem__" = pure (some (.builtin id))/\s.TypeIs v T/\wpAny (model X.prog X.w) X.A (getItem v (.ref sl)) (EP X pins σ Q) X.xe s
noncomputable def tSl(r:V->Option Int->Option Int->Hp->VK->Prop)(te:TE)(tl th:TO):TE:=fun σ H Q=>te σ H fun x H1=>tl σ H1 fun l H2=>th σ H2 fun u H3=>r x l u H3 Q
theorem zK8{r:V->Option Int->Option Int->Hp->VK->Prop}(hr:SlR X r)(he:PE X e te)(hl:PO X lo tl)(hu:PO X hi th):PE X (.Subscript e (.Slice lo hi none p2) pos) (tSl r te tl th):=by
 intro pins s σ H Q I h;refine qLn (thn (he pins s σ H _ I h) fun v s1 z0=>?_);obtain⟨x,H1,I1,r1,q1⟩:=z0;refine wpAny_Slice (thn (hl pins s1 σ H1 _ I1 q1) fun vl s2 ⟨l,H2,I2,pl,q2⟩=>thn (hu pins s2 σ H2 _ I2 q2) fun vu s3 ⟨u,H3,I3,pu,q3⟩=>?_);rw[evalPart_none];refine wpAny_pure ?_;have I4:Inv X pins σ H3 { s3 with heap:=s3.heap.push { cls:=.type "slice",data:=.fields #[vl,vu,.none] } }:=I3.kept (t':=s3.toks) fun b ob q=>qHq _ q
 obtain⟨T,id,hT,ht,hg⟩:=hr pins { s3 with heap:=s3.heap.push { cls:=.type "slice",data:=.fields #[vl,vu,.none] } } σ H3 x v vl vu l u s3.heap.objs.size Q I4 r1 (qLw ..) pl pu q3;show wpAny (model X.prog X.w) X.A (subscriptTail e (.Slice lo hi none p2) v (.ref s3.heap.objs.size)) (EP X pins σ Q) X.xe { s3 with heap:=s3.heap.push { cls:=.type "slice",data:=.fields #[vl,vu,.none] } };exact tail_any (ops:=[.ref s3.heap.objs.size,v]) ht hT hg (by with_unfolding_all rfl)
def cutV(xs:List V)(lo hi:Option Int):List V:=(xs.drop (HT.sIx xs.length 0 lo)).take (HT.sIx xs.length xs.length hi-HT.sIx xs.length 0 lo)
theorem zJG(xs:List V)(lo hi:Option Int):(cutV xs lo hi).length<=xs.length:=by
 unfold cutV;rw[qE5,List.length_drop];omega
end
noncomputable def ixN(n:Nat)(i:Int):Option Nat:=if 0<=i then(if i<n then some i.toNat else none)else if -(n:Int)<=i then some (i+n).toNat else none
def atI{α:Type}(xs:List α)(i:Int):Option α:=(ixN xs.length i).bind fun j=>xs[j]?
theorem zGR{n:Nat}{i:Int}{j:Nat}(h:ixN n i=some j):qLb i n=some j/\j<n/\-(n:Int)<=i/\i<n:=by
 unfold ixN at h
 by_cases h0:0<=i
 ·rw[if_pos h0]at h
  by_cases h1:i<n
  ·rw[if_pos h1]at h;have e:i.toNat=j:=qB3 h;exact⟨by rw[qLc h0 h1,e],by omega,by omega,h1⟩
  ·rw[if_neg h1]at h;cases h
 ·rw[if_neg h0]at h
  by_cases h1:-(n:Int)<=i
  ·rw[if_pos h1]at h;have e:(i+n).toNat=j:=qB3 h;exact⟨by rw[qL3 (by omega) h1,e],by omega,h1,by omega⟩
  ·rw[if_neg h1]at h;cases h
theorem zJS{α:Type}{xs:List α}{i:Int}{v:α}(h:atI xs i=some v):∃j,qLb i xs.length=some j/\xs[j]?=some v/\j<xs.length/\-(xs.length:Int)<=i/\i<xs.length:=by
 unfold atI at h;cases e:ixN xs.length i with
 |none=>rw[e]at h;cases h
 |some j=>
  rw[e]at h;obtain⟨h1,h2,h3,h4⟩:=zGR e;exact⟨j,h1,h,h2,h3,h4⟩
def zU3(b:Expr):Prop:=∀o i,subscripted b false o i=operate [o,i] (getItem o i)
def IxR(X:Cx)(r:R2):Prop:=
 ∀(value slice:Expr)(pins:List (Addr×Obj))(s:qHp)(σ:St)(H:Hp)(x y:V)(v u:Value)(Q:VK),Inv X pins σ H s->RelV x v->RelV y u->r x y H Q ->
  subscripted slice false v u=operate [v,u] (getItem v u)->wpAny (model X.prog X.w) X.A (subscriptTail value slice v u) (EP X pins σ Q) X.xe s
def MtR(X:Cx)(id:String)(r:V->List V->Hp->VK->Prop):Prop:=
 ∀(pins:List (Addr×Obj))(s:qHp)(σ:St)(H:Hp)(x:V)(xs:List V)(v:Value)(us:List Value)(Q:VK),Inv X pins σ H s->RelV x v->Vals xs us->r x xs H Q ->
  wpAny (model X.prog X.w) X.A (call (.builtin id) (v::us)) (EP X pins σ Q) X.xe s
section
variable{X:Cx}{a b:Expr}{ta tb:TE}{pos:Pos}
theorem zDE{r:R2}(hr:IxR X r)(ha:PE X a ta)(hb:PE X b tb)(hs:zU3 b):PE X (.Subscript a b pos) (tOp r ta tb):=by
 intro pins s σ H Q I h;exact qLn (binT ha hb I h fun v u s2 x y H2 I2 rx ry q=>hr a b pins s2 σ H2 x y v u Q I2 rx ry q (hs _ _))
def rIxL(K:qA2):R2:=fun x y H Q=>∃p xs i v,x=.ref p/\y=.int i/\SqL K H p xs/\atI xs i=some v/\Q v H
def rIxT(K:qA2):R2:=fun x y H Q=>∃p xs i v,x=.ref p/\y=.int i/\SqT K H p xs/\atI xs i=some v/\Q v H
def rIxS:R2:=fun x y H Q=>∃z i c,x=.str z/\y=.int i/\z.length<=sizeLine/\atI z.cps.toList i=some c/\Q (.str ⟨#[c]⟩) H
theorem zT9:IxR X (rIxL X.K):=by
 intro value slice pins s σ H x y v u Q I rx ry h hs;obtain⟨p,xs,i,z,rfl,rfl,hq,he,q⟩:=h;cases rx;obtain⟨t,rfl⟩:=ry;obtain⟨its,r,pl,hz⟩:=I.list hq;obtain⟨j,h1,h2,h3,h4,h5⟩:=zJS he;obtain⟨w,ew,rw'⟩:=r.get h2;have hl:=r.length;have hn:=zEE;have fin:EP X pins σ Q w s:=⟨z,H,I,rw',q⟩
 by_cases h0:0<=i
 ·have hj:i.toNat=j:=by
   rw[qLc h0 h5]at h1;exact qB3 h1
  exact item_listR pl.isList h0 (by omega) (by rw[hj];simpa using ew) fin hs
 ·have hj:(i+(its.toArray.size:Int)).toNat=j:=by
   rw[qL3 (by omega) h4]at h1;rw[qAg,<- hl];exact qB3 h1
  exact qK1 (x:=w) pl.isList.typeIs qKz.lookup
   (wpAny_getItem_list_neg (Q:=fun r s'=>r=w/\EP X pins σ Q r s') pl.isList (by omega) (by rw[qAg]<;>omega) (by omega) (by rw[hj];simpa using ew) ⟨rfl,fin⟩) hs
theorem zWG:IxR X (rIxT X.K):=by
 intro value slice pins s σ H x y v u Q I rx ry h hs;obtain⟨p,xs,i,z,rfl,rfl,hq,he,q⟩:=h;cases rx;obtain⟨t,rfl⟩:=ry;obtain⟨its,r,pl,hz⟩:=I.tuple hq;obtain⟨j,h1,h2,h3,h4,h5⟩:=zJS he;obtain⟨w,ew,rw'⟩:=r.get h2;have hl:=r.length;have hn:=zEE;have fin:EP X pins σ Q w s:=⟨z,H,I,rw',q⟩
 exact qK1 (x:=w) pl.typeIs qIv.lookup
  (getItem_tuple (j:=j) (Q:=fun r s'=>r=w/\EP X pins σ Q r s') pl (by omega) (by omega) (by rw[qAg,<- hl];exact h1) (by simpa using ew) ⟨rfl,fin⟩) hs
theorem zWH:IxR X rIxS:=by
 intro value slice pins s σ H x y v u Q I rx ry h hs;obtain⟨z,i,c,rfl,rfl,hz,he,q⟩:=h;obtain⟨t,rfl⟩:=rx;obtain⟨t',rfl⟩:=ry;obtain⟨j,h1,h2,h3,h4,h5⟩:=zJS he;have hl:z.cps.toList.length=z.length:=by simp[Str.length]
 rw[hl]at h1 h4 h5;have hn:=zEE;exact tail_any (typeIs_str s z t) slot_str_getitem.lookup (getItem_str (c:=c) (by
  have e1:decide (i < -(2 ^ 63:Int))=false:=decide_eq_false (by omega);have e2:decide (i>=2 ^ 63)=false:=decide_eq_false (by omega);rw[e1,e2,qH2]) (by rw[h1];simpa using h2) ⟨.str ⟨#[c]⟩,H,I.tok _,⟨_,rfl⟩,q⟩) hs
theorem zLJ(its:List Value)(n j:Nat)(u:Value):qIr (·.setIfInBounds j u) { cls:=.type "list",data:=.seq its.toArray n }={ cls:=.type "list",data:=.seq (its.set j u).toArray n }:=by
 simp[qIr]
theorem Inv.lst{pins:List (Addr×Obj)}{σ:St}{H:Hp}{s:qHp}{p:Addr}{xs:List V}(I:Inv X pins σ H s)(h:H p=some (.lst xs)) :
  ∃(its:List Value)(n:Nat),Vals xs its/\s.heap.get? p=some { cls:=.type "list",data:=.seq its.toArray n }/\xs.length<=sizeLine:=by
 obtain⟨z,its,n,r,e⟩:=I.hok p _ h;exact⟨its,n,r,e,z⟩
theorem Inv.lstUpd{pins:List (Addr×Obj)}{σ:St}{H:Hp}{s:qHp}{p:Addr}{xs ys:List V}{its its':List Value}{n n':Nat}{f:Obj->Obj}(I:Inv X pins σ H s)(h:H p=some (.lst xs))
  (ho:s.heap.get? p=some { cls:=.type "list",data:=.seq its.toArray n }) (hf:f { cls:=.type "list",data:=.seq its.toArray n }={ cls:=.type "list",data:=.seq its'.toArray n' }) (r:Vals ys its') (hz:ys.length<=sizeLine) (t:Nat) :
  Inv X pins σ (upd H p (.lst ys)) { s with heap:=s.heap.update p f,toks:=t }:=by
 have e:(s.heap.update p f).get? p=some { cls:=.type "list",data:=.seq its'.toArray n' }:=by
  rw[qI0 f ho (by rw[hf]<;>rfl),hf]
 refine I.write (x:=p) (e:=p) (by rw[h];trivial) (.inl rfl) (fun b u hb q=>(qHu _ _ (qC8 hb)).trans q) ⟨_,e⟩ ?_;exact⟨hz,its',n',r,e⟩
def zY7:V->V->V->Hp->(Hp->Prop)->Prop:=fun o i v H Q=>∃p xs k j,o=.ref p/\i=.int k/\H p=some (.lst xs)/\ixN xs.length k=some j/\Q (upd H p (.lst (xs.set j v)))
theorem zPC:PSet X zY7:=by
 intro pins s σ H o i v ov iv u Q I ro ri rv h;obtain⟨p,xs,k,j,rfl,rfl,hp,hj,q⟩:=h;cases ro;obtain⟨t,rfl⟩:=ri;obtain⟨its,n,r,ho,hz⟩:=I.lst hp;obtain⟨h1,h2,h3,h4⟩:=zGR hj;have hl:=r.length;have hn:=zEE;have I':Inv X pins σ (upd H p (.lst (xs.set j v))) { s with heap:=s.heap.update p (qIr (·.setIfInBounds j u)) }:=
  I.lstUpd hp ho (zLJ its n j u) (r.set rv j) (by rw[qDa];exact hz) s.toks
 by_cases h0:0<=k
 ·have hk:k.toNat=j:=by
   rw[qLc h0 h4]at h1;exact qB3 h1
  exact PySem.W.ki_setAt ho h0 (by omega) (by rw[qAg,<- hl];exact h4) (by rw[hk];exact⟨_,I',q⟩)
 ·have hk:(k+(its.toArray.size:Int)).toNat=j:=by
   rw[qL3 (by omega) h3]at h1;rw[qAg,<- hl];exact qB3 h1
  exact PySem.W.ki_setBack ho (by omega) (by rw[qAg,<- hl];exact h3) (by omega) (by rw[hk];exact⟨_,I',q⟩)
theorem zHG(lo hi:Option Int)(n:Nat):(sliceBounds lo hi none n).1=((HT.sIx n 0 lo:Nat):Int)/\(sliceBounds lo hi none n).2.1=((HT.sIx n n hi:Nat):Int)/\(sliceBounds lo hi none n).2.2=1:=by
 refine⟨?_,?_,rfl⟩
 ·cases lo with
  |none=>simp[sliceBounds,HT.sIx]
  |some i=>
   simp only[sliceBounds,HT.sIx,qFq,show(1:Int)>0 by decide,if_true]
   by_cases h:i<0
   ·simp only[h,if_true]<;>omega
   ·simp only[h,if_false]<;>omega
 ·cases hi with
  |none=>simp[sliceBounds,HT.sIx]
  |some i=>
   simp only[sliceBounds,HT.sIx,qFq,show(1:Int)>0 by decide,if_true]
   by_cases h:i<0
   ·simp only[h,if_true]<;>omega
   ·simp only[h,if_false]<;>omega
theorem zGC(its:List Value)(lo hi:Option Int):slicePick its.toArray lo hi none=((its.drop (HT.sIx its.length 0 lo)).take (HT.sIx its.length its.length hi-HT.sIx its.length 0 lo)).toArray:=by
 obtain⟨h1,h2,h3⟩:=zHG lo hi its.toArray.size;unfold slicePick;rw[h1,h2,h3];simp only[sliceRange_one,pick_run,qAg]<;>rfl
def rSlL(K:qA2):V->Option Int->Option Int->Hp->VK->Prop:=fun x lo hi H Q=>∃a xs,x=.ref a/\SqL K H a xs/\∀p,H p=none->Q (.ref p) (upd H p (.lst (cutV xs lo hi)))
theorem zMF:SlR X (rSlL X.K):=by
 intro pins s σ H x v vl vu lo hi sl Q I rx hs pl pu h;obtain⟨a,xs,rfl,hx,q⟩:=h;cases rx;obtain⟨its,r,ht,hz⟩:=I.list hx;have hlen:=r.length;refine⟨"list",_,qKz.lookup,ht.isList.typeIs,?_⟩;refine wpAny_getItem_list_slice ht.isList hs pl pu .none (by simp) ?_ (by rw[qAg]<;>omega);rw[zGC,<- hlen];refine⟨.ref s.heap.objs.size,_,I.laid (t':=s.toks) (o:=.lst (cutV xs lo hi)) (fun b ob q=>qHq _ q) (qA6 _) ?_,rfl,q _ (I.hok.fresh (qA6 _))⟩;exact⟨qAn (zJG xs lo hi) hz,_,0,(r.drop (HT.sIx xs.length 0 lo)).take (HT.sIx xs.length xs.length hi-HT.sIx xs.length 0 lo),qHt _ rfl⟩
noncomputable def zTL:V->Bool
 |.non=>true
 |.bl _=>true
 |.int _=>true
 |.str _=>true
 |_=>false
noncomputable def eqV:V->V->Bool
 |.non,.non=>true
 |.bl a,.bl b=>a==b
 |.bl a,.int b=>(if a then 1 else 0)==b
 |.int a,.bl b=>a==(if b then 1 else 0)
 |.int a,.int b=>a==b
 |.str a,.str b=>a==b
 |_,_=>false
theorem zWS{A:qHv}{s:qHp}{y x:V}{u v:Value}(ry:RelV y u)(rx:RelV x v)(fy:zTL y=true)(fx:zTL x=true):qJt A s u v (eqV y x):=by
 cases y with
 |non=>
  cases ry;cases x with
  |non=>cases rx;exact qJc _
  |bl b=>cases rx;exact qKc b
  |int b=>obtain⟨t,rfl⟩:=rx;exact qKg b t
  |str b=>obtain⟨t,rfl⟩:=rx;exact qKh b t
  |_=>exact absurd (show false=true from fx) qAa
 |bl a=>
  cases ry;cases x with
  |non=>cases rx;exact qKd a
  |bl b=>cases rx;exact qKe a b
  |int b=>obtain⟨t,rfl⟩:=rx;exact qKi a b t
  |str b=>obtain⟨t,rfl⟩:=rx;exact qKj a b t
  |_=>exact absurd (show false=true from fx) qAa
 |int a=>
  obtain⟨t',rfl⟩:=ry;cases x with
  |non=>cases rx;exact qKk a t'
  |bl b=>cases rx;exact qKl a t' b
  |int b=>obtain⟨t,rfl⟩:=rx;exact SeqAt.EqAt.int_int a t' b t
  |str b=>obtain⟨t,rfl⟩:=rx;exact qJk a t' b t
  |_=>exact absurd (show false=true from fx) qAa
 |str a=>
  obtain⟨t',rfl⟩:=ry;cases x with
  |non=>cases rx;exact qKm a t'
  |bl b=>cases rx;exact qKn a t' b
  |int b=>obtain⟨t,rfl⟩:=rx;exact qJl a t' b t
  |str b=>obtain⟨t,rfl⟩:=rx;exact SeqAt.EqAt.str_str a t' b t
  |_=>exact absurd (show false=true from fx) qAa
 |_=>exact absurd (show false=true from fy) qAa
theorem zID:zBU X (.builtin "len") (fun xs H Q=>∃p ys,xs=[.ref p]/\(SqL X.K H p ys\/SqT X.K H p ys)/\Q (.int ys.length) H):=by
 intro pins s σ H xs us Q I r h;obtain⟨p,ys,rfl,hq,q⟩:=h;obtain⟨u,rfl,rx⟩:=zFH r;cases rx;have hn:=zEE
 rcases hq with hq|hq
 ·obtain⟨its,r',pl,hz⟩:=I.list hq;have hlen:=r'.length;exact Calls.call_len_list pl.isList (by simp only[qAg]<;>omega) ⟨.int ys.length,H,I.tok _,⟨s.toks+1,by rw[qAg,hlen]⟩,q⟩
 ·obtain⟨its,r',pl,hz⟩:=I.tuple hq;have hlen:=r'.length;exact len_tuple pl (by simp only[qAg]<;>omega) ⟨.int ys.length,H,I.tok _,⟨s.toks+1,by rw[qAg,hlen]⟩,q⟩
theorem zIC:zBU X (.builtin "len") (fun xs H Q=>∃z,xs=[.str z]/\z.length<=sizeLine/\Q (.int z.length) H):=by
 intro pins s σ H xs us Q I r h;obtain⟨z,rfl,hz,q⟩:=h;obtain⟨u,rfl,t,rfl⟩:=zFH r;have hn:=zEE;exact len_str (by omega) ⟨.int z.length,H,I.tok _,⟨_,rfl⟩,q⟩
theorem zIB:zBU X (.type "list") (fun xs H Q=>∃p ys,xs=[.ref p]/\(SqL X.K H p ys\/SqT X.K H p ys)/\∀l,H l=none->Q (.ref l) (upd H l (.lst ys))):=by
 intro pins s σ H xs us Q I r h;obtain⟨p,ys,rfl,hq,q⟩:=h;obtain⟨u,rfl,rx⟩:=zFH r;cases rx;have fin:∀(its:List Value),Vals ys its->ys.length<=sizeLine->∀(h':Heap)(c':Nat),(∀b o',s.heap.get? b=some o'->h'.get? b=some o') ->
   h'.get? s.heap.objs.size=some { cls:=.type "list",dict:=none,data:=.seq its.toArray c',slots:=#[] }->EP X pins σ Q (.ref s.heap.objs.size) { s with heap:=h' }:=fun its r' hz h' c' kp e=>
  ⟨.ref s.heap.objs.size,_,I.laid (t':=s.toks) kp (qA6 _) (show ObjOk X.prog X.w _ h' _ (.lst ys) from⟨hz,its,c',r',e⟩),rfl,q _ (I.hok.fresh (qA6 _))⟩
 rcases hq with hq|hq
 ·obtain⟨its,r',pl,hz⟩:=I.list hq;have hlen:=r'.length;obtain⟨o,ho,hc,n,hd⟩:=pl.isList;exact call_list_seq p (.inl rfl) ho hc hd (fun h' c' kp e=>fin its r' hz h' c' kp e) (by simp only[qAg]<;>omega)
 ·obtain⟨its,r',pl,hz⟩:=I.tuple hq;have hlen:=r'.length;obtain⟨o,ho,hc,n,hd⟩:=pl;exact call_list_seq p (.inr rfl) ho hc hd (fun h' c' kp e=>fin its r' hz h' c' kp e) (by simp only[qAg]<;>omega)
theorem zH0:zBU X (.type "tuple") (fun xs H Q=>∃p ys,xs=[.ref p]/\((SqL X.K H p ys/\∀l,H l=none->Q (.ref l) (upd H l (.tup ys)))\/(SqT X.K H p ys/\Q (.ref p) H))):=by
 intro pins s σ H xs us Q I r h;obtain⟨p,ys,rfl,h⟩:=h;obtain⟨u,rfl,rx⟩:=zFH r;cases rx
 rcases h with⟨hq,q⟩|⟨hq,q⟩
 ·obtain⟨its,r',pl,hz⟩:=I.list hq;have hlen:=r'.length;refine call_tuple_list pl.isList (fun h' kp=>?_) (by simp only[qAg]<;>omega);have I1:Inv X pins σ H { s with heap:=h' }:=I.kept (t':=s.toks) kp;have I2:Inv X pins σ (upd H h'.objs.size (.tup ys)) { s with heap:=h'.push { cls:=.type "tuple",data:=.seq its.toArray } }:=
   I1.laid (t':=s.toks) (fun b o e=>qHq _ e) (qA6 _) (show ObjOk X.prog X.w _ _ _ (.tup ys) from⟨hz,its,r',IsTup.new _ _⟩)
  exact⟨.ref h'.objs.size,_,I2,rfl,q _ (I1.hok.fresh (qA6 _))⟩
 ·obtain⟨its,r',pl,hz⟩:=I.tuple hq;exact call_tuple_same pl ⟨.ref p,H,I,rfl,q⟩
def tyV(K:qA2)(T:String)(x:V)(H:Hp):Prop:=match x with
 |.str _=>T = "str"
 |.int _=>T = "int"
 |.ref p=>(T = "list"/\∃xs,SqL K H p xs)\/(T = "tuple"/\∃o,K.lookup p=some o/\o.cls=.type "tuple"/\o.dict=none) \/
   (T = "dict"/\((∃kvs,H p=some (.dK kvs))\/∃T e0 kvs,H p=some (.dT T e0 kvs)))\/(T = "set"/\∃S n,H p=some (.set S n))
 |_=>False
theorem zUD{pins:List (Addr×Obj)}{σ:St}{H:Hp}{s:qHp}{T:String}{x:V}{v:Value}(I:Inv X pins σ H s)(r:RelV x v)(ty:tyV X.K T x H) :
  s.TypeIs v T/\∀a,v=.ref a->∃ob,s.heap.get? a=some ob/\ob.dict=none:=by
 cases x with
 |str z=>
  obtain⟨t,rfl⟩:=r
  cases(show T = "str" from ty)
  exact⟨typeIs_str s z t,fun _ e=>nomatch e⟩
 |int i=>
  obtain⟨t,rfl⟩:=r
  cases(show T = "int" from ty)
  exact⟨typeIs_int s i t,fun _ e=>nomatch e⟩
 |ref p=>
  cases r
  rcases ty with⟨rfl,xs,hq⟩|⟨rfl,o,hk,hc,hd⟩|⟨rfl,hk⟩|⟨rfl,S,n,hk⟩
  ·obtain⟨its,_,pl,_⟩:=I.list hq;refine⟨pl.isList.typeIs,fun a e=>?_⟩;cases e;obtain⟨o,n,e,c,hd,_⟩:=pl;exact⟨o,e,hd⟩
  ·refine⟨⟨o,I.kIn p o hk,hc⟩,fun a e=>?_⟩;cases e;exact⟨o,I.kIn _ o hk,hd⟩
  ·have z:∃o,s.heap.get? p=some o/\o.ExactDict:=by
    rcases hk with⟨kvs,hk⟩|⟨_,_,kvs,hk⟩
    ·obtain⟨_,_,_,_,o,_,_,e,ex,_⟩:=I.hok p _ hk;exact⟨o,e,ex⟩
    ·obtain⟨_,_,_,_,o,_,_,e,ex,_⟩:=I.hok p _ hk;exact⟨o,e,ex⟩
   obtain⟨o,e,ex⟩:=z;refine⟨⟨o,e,ex.1⟩,fun a e2=>?_⟩;cases e2;exact⟨o,e,ex.2.1⟩
  ·obtain⟨o,_,_,_,e,ex,_⟩:=I.hok p _ hk;refine⟨⟨o,e,ex.1⟩,fun a e2=>?_⟩;cases e2;exact⟨o,e,ex.2.1⟩
 |_=>exact qAf ty
variable{o e:Expr}{es:List Expr}{to:TE}{t:TA}{name:Str}{apos cpos:Pos}{T id:String}{r:V->List V->Hp->VK->Prop}
end
def MtM(X:Cx)(id:String)(r:V->List V->Hp->VK->Prop):Prop:=
 ∀(pins:List (Addr×Obj))(s:qHp)(σ:St)(H:Hp)(x:V)(xs:List V)(v:Value)(us:List Value)(Q:VK),Inv X pins σ H s->RelV x v->Vals xs us->r x xs H Q ->
  wpAny (model X.prog X.w) X.A (call (.builtin id) (v::us)) (EP X pins σ Q) X.xe s
theorem Vals.one:∀{x:V}{us:List Value},Vals [x] us->∃u,us=[u]/\RelV x u
 |_,_,.cons r .nil=>⟨_,rfl,r⟩
theorem Vals.zero:∀{us:List Value},Vals [] us->us=[]
 |_,.nil=>rfl
theorem Vals.dropLast{xs:List V}{us:List Value}(h:Vals xs us):Vals xs.dropLast us.dropLast:=by
 induction h with
 |nil=>exact .nil
 |cons r t ih=>
  cases t with
  |nil=>exact .nil
  |cons q t'=>exact .cons r ih
theorem Vals.eraseIdx:∀{xs:List V}{us:List Value}(i:Nat),Vals xs us->Vals (xs.eraseIdx i) (us.eraseIdx i)
 |_,_,_,.nil=>.nil
 |_,_,0,.cons _ t=>t
 |_,_,i+1,.cons r t=>.cons r (Vals.eraseIdx i t)
theorem Vals.rep{xs:List V}{us:List Value}(h:Vals xs us):∀k:Nat,Vals (qA3 k xs).flatten (qA3 k us).flatten
 |0=>.nil
 |k+1=>by
  rw[qAz,qAz,qBj,qBj];exact Vals.append h (Vals.rep h k)
theorem zLQ{α:Type}(l:List α):l.eraseIdx (l.length-1)=l.dropLast:=by
 induction l with
 |nil=>rfl
 |cons a r ih=>
  cases r with
  |nil=>rfl
  |cons b r=>
   have e:(a::b::r).length-1=((b::r).length-1)+1:=by
    have h1:(a::b::r).length=r.length+2:=rfl;have h2:(b::r).length=r.length+1:=rfl;omega
   rw[e,qBd,ih]
   all_goals rfl
theorem len_erase{α:Type}:∀(l:List α)(i:Nat),(l.eraseIdx i).length<=l.length
 |[],_=>qA6 _
 |_::_,0=>qDx _
 |_::r,i+1=>Nat.succ_le_succ (len_erase r i)
theorem zI2(its:List Value):∀(k:Nat)(acc:List Value),
  qGx (fun x1 x2=>x1++x2) acc.toArray (qA3 k its.toArray)=(acc++(qA3 k its).flatten).toArray
 |0,acc=>by simp
 |k+1,acc=>by
  have e:acc.toArray++its.toArray=(acc++its).toArray:=by simp
  have e2:(acc++its)++(qA3 k its).flatten=acc++(qA3 (k+1) its).flatten:=by
   rw[qAz,qBj,qAu]
  rw[<- e2,<- zI2 its k (acc++its),<- e,qAz,qC1]
section
variable{X:Cx}{pins:List (Addr×Obj)}{σ:St}{H:Hp}{s:qHp}{l b:Addr}{xs ys zs:List V}
theorem Inv.lset{its its':List Value}{n:Nat}{f:Array Value->Array Value}{t':Nat}(I:Inv X pins σ H s)(hH:H l=some (.lst xs))
  (e:s.heap.get? l=some { cls:=.type "list",data:=.seq its.toArray n }) (hf:f its.toArray=its'.toArray) (hv:Vals ys its') (hz:ys.length<=sizeLine) :
  Inv X pins σ (upd H l (.lst ys)) { s with heap:=s.heap.update l (qIr f),toks:=t' }:=by
 have q:=PySem.IsL.update e f;rw[hf]at q;refine I.write (x:=l) (e:=l) (by rw[hH];exact trivial) (.inl rfl) (fun b' u hb hu=>(qHu s.heap (qIr f) (qC8 hb)).trans hu) ⟨_,q⟩ ?_;exact⟨hz,its',_,hv,q⟩
theorem Inv.lnew{its:List Value}{t':Nat}(I:Inv X pins σ H s)(hv:Vals ys its)(hz:ys.length<=sizeLine) :
  Inv X pins σ (upd H s.heap.objs.size (.lst ys)) { s with heap:=s.heap.push { cls:=.type "list",data:=.seq its.toArray },toks:=t' }:=
 I.laid (fun _ _ q=>qHq _ q) (qA6 _) ⟨hz,its,0,hv,qHt _ rfl⟩
theorem Inv.fresh(I:Inv X pins σ H s):H s.heap.objs.size=none:=I.hok.fresh (qA6 _)
theorem Inv.lstM(I:Inv X pins σ H s)(hH:H l=some (.lst xs)):xs.length<=sizeLine/\∃(its:List Value)(n:Nat),Vals xs its/\xs.length=its.length/\s.heap.get? l=some { cls:=.type "list",data:=.seq its.toArray n }:=by
 obtain⟨z,its,n,r,e⟩:=I.hok l _ hH;exact⟨z,its,n,r,r.length,e⟩
theorem zPV{n:Nat}(h:n<=sizeLine):qI5 n=false:=by
 unfold qI5;exact decide_eq_false (by omega)
end
section
variable{X:Cx}
def zSJ:V->List V->Hp->VK->Prop:=fun x vs H Q=>∃l xs y,x=.ref l/\vs=[y]/\H l=some (.lst xs)/\xs.length<sizeLine/\Q .non (upd H l (.lst (xs++[y])))
theorem zNG:MtM X "list.append" zSJ:=by
 intro pins s σ H x vs v us Q I rx rv h;obtain⟨l,xs,y,rfl,rfl,hH,hz,q⟩:=h;cases rx;obtain⟨u,rfl,ru⟩:=rv.one;obtain⟨z,its,n,r,hl,e⟩:=I.lstM hH;refine call_meets F.slot_list_append ⟨_,e,rfl⟩ F.entry_list_append (F.args_list_append_2 _ _) (PySem.list_append l its.toArray n u (by rw[qAg];omega)) ⟨e,?_⟩;refine⟨.non,_,I.lset (its':=its++[u]) hH e (by simp) (r.append (.cons ru .nil)) ?_,rfl,q⟩;rw[qAy,qEg];omega
def rPop:V->List V->Hp->VK->Prop:=fun x vs H Q=>∃l xs y,x=.ref l/\vs=[]/\H l=some (.lst xs)/\xs[xs.length-1]?=some y/\Q y (upd H l (.lst xs.dropLast))
theorem zW5:MtM X "list.pop" rPop:=by
 intro pins s σ H x vs v us Q I rx rv h;obtain⟨l,xs,y,rfl,rfl,hH,hy,q⟩:=h;cases rx;have hus:=rv.zero;subst hus;obtain⟨z,its,n,r,hl,e⟩:=I.lstM hH;obtain⟨u,hu,ru⟩:=r.get hy;have hy':its.toArray[its.toArray.size-1]?=some u:=by
  show its.toArray[its.length-1]?=some u;rw[<- qCd,<- hl];exact hu
 refine call_meets qLd ⟨_,e,rfl⟩ qL6 (F.args_list_pop_1 _) (MeetsSeq.list_pop_last l its.toArray n u hy' (by rw[qAg];omega)) ⟨e,?_⟩;refine⟨y,_,I.lset (its':=its.dropLast) hH e ?_ r.dropLast ?_,ru,q⟩
 ·show its.toArray.eraseIdxIfInBounds (its.toArray.size-1)=its.dropLast.toArray;rw[qAg,qCv,zLQ]
 ·rw[List.length_dropLast];omega
def zV9:V->List V->Hp->VK->Prop:=fun x vs H Q=>∃l xs i k y,x=.ref l/\vs=[.int i]/\H l=some (.lst xs)/\-(2 ^ 63)<=i/\i<2 ^ 63/\qLb i xs.length=some k/\xs[k]?=some y/\Q y (upd H l (.lst (xs.eraseIdx k)))
theorem zPY:MtM X "list.pop" zV9:=by
 intro pins s σ H x vs v us Q I rx rv h;obtain⟨l,xs,i,k,y,rfl,rfl,hH,h1,h2,hk,hy,q⟩:=h;cases rx;obtain⟨u,rfl,ru⟩:=rv.one;obtain⟨t,rfl⟩:=ru;obtain⟨z,its,n,r,hl,e⟩:=I.lstM hH;obtain⟨w,hw,rw'⟩:=r.get hy;refine call_meets qLd ⟨_,e,rfl⟩ qL6 (F.args_list_pop_2 _ _)
  (MeetsSeq.list_pop_at l its.toArray n i t k w (fitsIndex_both h1 h2) (by rw[qAg,<- hl];exact hk) (by rw[<- qCd];exact hw) (by rw[qAg];omega)) ⟨e,?_⟩
 refine⟨y,_,I.lset (its':=its.eraseIdx k) hH e ?_ (r.eraseIdx k) ?_,rw',q⟩
 ·show its.toArray.eraseIdxIfInBounds k=(its.eraseIdx k).toArray;rw[qCv]
 ·have:=len_erase xs k
  omega
def rCat:R2:=fun x y H Q=>∃l b xs zs,x=.ref l/\y=.ref b/\H l=some (.lst xs)/\H b=some (.lst zs)/\xs.length+zs.length<=sizeLine/\∀p,H p=none->Q (.ref p) (upd H p (.lst (xs++zs)))
theorem zVZ:OpR X (binaryOp .Add) rCat:=by
 intro pins s σ H x y v u Q I rx ry h;obtain⟨l,b,xs,zs,rfl,rfl,hH,hB,hz,q⟩:=h;cases rx;cases ry;obtain⟨z,its,n,r,hl,e⟩:=I.lstM hH;obtain⟨z2,its2,n2,r2,hl2,e2⟩:=I.lstM hB;refine PySem.P.add_list e e2 ?_ (by rw[qAg,qAg];omega);have ea:its.toArray++its2.toArray=(its++its2).toArray:=by simp
 rw[ea];exact⟨.ref _,_,I.lnew (t':=s.toks) (r.append r2) (by rw[qAy];omega),rfl,q _ I.fresh⟩
def rRep:R2:=fun x y H Q=>∃l k xs,x=.ref l/\y=.int k/\H l=some (.lst xs)/\-(2 ^ 63)<=k/\k<2 ^ 63/\xs.length*k.toNat<=sizeLine /\
 ∀p,H p=none->Q (.ref p) (upd H p (.lst (qA3 k.toNat xs).flatten))
theorem zT3{α:Type}(xs:List α)(k:Nat):(qA3 k xs).flatten.length=k*xs.length:=by
 induction k with
 |zero=>simp
 |succ k ih=>rw[qAz,qBj,qAy,ih,Nat.succ_mul,Nat.add_comm]
theorem zVT:OpR X (binaryOp .Mult) rRep:=by
 intro pins s σ H x y v u Q I rx ry h;obtain⟨l,k,xs,rfl,rfl,hH,h1,h2,hz,q⟩:=h;cases rx;obtain⟨t,rfl⟩:=ry;obtain⟨z,its,n,r,hl,e⟩:=I.lstM hH;have hlen:its.toArray.size*k.toNat<=sizeLine:=by rw[qAg,<- hl];exact hz
 have hcap:¬its.toArray.size*k.toNat>(2 ^ 63-1)/8:=by
  have:(sizeLine:Nat)<=(2 ^ 63-1)/8:=by decide
  omega
 have hfit:¬(!Builtin.List.listFitsIndex k)=true:=by
  rw[fitsIndex_both h1 h2];exact qAa
 have hlong:¬qI5 (its.toArray.size*k.toNat)=true:=by
  rw[zPV hlen];exact qAa
 have hnew:qGx (fun x1 x2=>x1++x2) #[] (qA3 (if its.toArray.isEmpty=true then 0 else k.toNat) its.toArray)=(qA3 k.toNat its).flatten.toArray:=by
  have f0:∀m:Nat,qGx (fun x1 x2=>x1++x2) #[] (qA3 m its.toArray)=(qA3 m its).flatten.toArray:=fun m=>by
   have:=zI2 its m []
   rw[qCe]at this;exact this
  rw[f0];cases its with
  |nil=>simp
  |cons a r'=>rw[if_neg (by simp)]
 refine wpAny_binaryOp_repeat_ref (T:="list") (U:="int") (by decide) ⟨_,e,rfl⟩ (fun s'=>typeIs_int s' k t) noFill_list_mul F.fills_int_mul qLe repeat_list F.slot_int_index.lookup
  (call_meets qLe (typeIs_int s k t) F.entry_int_rmul (F.args_int_rmul_2 _ _) (int___rmul___int_list k t l its.toArray n)
   ⟨e,rfl,⟨_,e,rfl⟩,call_meets F.slot_list_mul ⟨_,e,rfl⟩ F.entry_list_mul (F.args_list_mul_2 _ _) (AutoListH.list___mul___list_int_3 l its.toArray n k t hfit hcap hlong) ⟨e,?_⟩⟩)
 rw[hnew];exact⟨.ref _,_,I.lnew (t':=s.toks) (r.rep k.toNat) (by rw[zT3,qFk];exact hz),rfl,q _ I.fresh⟩
end
section
variable{prog:qHr}{w:World}{A:qHv}{E:Value->qHp->Prop}{s:qHp}
end
section
variable{X:Cx}
end
section
variable{κ:Type}[DecidableEq κ]
noncomputable def valV(kvs:List (κ×V))(k:κ):Option V:=(kvs.find? fun kv=>decide (kv.1=k)).map (·.2)
noncomputable def putK(kvs:List (κ×V))(k:κ)(v:V):List (κ×V):=
 if(kvs.any fun kv=>decide (kv.1=k))=true then kvs.map (fun kv=>if kv.1=k then(kv.1,v)else kv)else kvs++[(k,v)]
noncomputable def zWZ(kvs:List (κ×V))(k:κ):List (κ×V):=kvs.filter fun kv=>decide (kv.1≠k)
theorem zG8{p:κ×V}{r:List (κ×V)}{k:κ}(e:p.1=k):valV (p::r) k=some p.2:=by simp[valV,qC2,e]
theorem zG9{p:κ×V}{r:List (κ×V)}{k:κ}(e:¬p.1=k):valV (p::r) k=valV r k:=by simp[valV,qC2,e]
theorem zJV(k:κ):∀kvs:List (κ×V),(kvs.any fun kv=>decide (kv.1=k))=(valV kvs k).isSome
 |[]=>rfl
 |p::r=>by
  rw[List.any_cons]
  by_cases e:p.1=k
  ·simp only[zG8 e,decide_eq_true e,Bool.true_or,qF4]
  ·rw[zG9 e,decide_eq_false e,Bool.false_or];exact zJV k r
theorem zF1(kvs:List (κ×V))(k:κ)(v:V):(putK kvs k v).length<=kvs.length+1:=by
 unfold putK
 split
 ·rw[qAm];omega
 ·rw[qAy,qB1,List.length_nil];omega
theorem RelO.isSome_eq{o:Option V}{u:Option Value}(r:RelO o u):o.isSome=u.isSome:=by
 cases o with
 |none=>cases u with
  |none=>rfl
  |some _=>exact(show False from r).elim
 |some _=>cases u with
  |none=>exact(show False from r).elim
  |some _=>rfl
theorem RelO.getD{o:Option V}{u:Option Value}{d:V}{d':Value}(r:RelO o u)(rd:RelV d d'):RelV (o.getD d) (u.getD d'):=by
 cases o with
 |none=>cases u with
  |none=>exact rd
  |some _=>exact(show False from r).elim
 |some _=>cases u with
  |none=>exact(show False from r).elim
  |some _=>exact r
theorem KV.val{kvs:List (κ×V)}{vs:List (κ×Value)}(r:KV kvs vs)(k:κ):RelO (valV kvs k) (valueAt vs k):=by
 unfold KV at r
 induction r with
 |nil=>exact qCp
 |@cons p q ps qs h t ih=>
  obtain⟨h1,h2⟩:=h
  by_cases e:p.1=k
  ·have e':q.1=k:=h1.symm.trans e;have b:valueAt (q::qs) k=some q.2:=by simp[valueAt,qC2,e']
   rw[zG8 e,b];exact h2
  ·have e':¬q.1=k:=fun z=>e (h1.trans z)
   have b:valueAt (q::qs) k=valueAt qs k:=by simp[valueAt,qC2,e']
   rw[zG9 e,b];exact ih
theorem KV.drop{kvs:List (κ×V)}{vs:List (κ×Value)}(r:KV kvs vs)(k:κ):KV (zWZ kvs k) (without vs k):=by
 unfold KV at r ⊢;unfold zWZ without
 induction r with
 |nil=>exact .nil
 |@cons p q ps qs h t ih=>
  obtain⟨h1,h2⟩:=h;rw[qE6,qE6]
  by_cases e:p.1=k
  ·have a:¬decide (p.1≠k)=true:=by simp[e]
   have b:¬decide (q.1≠k)=true:=by simp[h1.symm.trans e]
   rw[if_neg a,if_neg b];exact ih
  ·have e':¬q.1=k:=fun z=>e (h1.trans z)
   have a:decide (p.1≠k)=true:=by simp[e]
   have b:decide (q.1≠k)=true:=by simp[e']
   rw[if_pos a,if_pos b];exact .cons ⟨h1,h2⟩ ih
end
theorem zWB{P:qHr}{w:World}{k:Key}{u:Value}(r:RelV (kV k) u):(zDF P w).is k u=true:=by
 cases k with
 |inl i=>obtain⟨t,e⟩:=(show ∃t,u=qJr i t from r);subst e;exact zJ4 P w i t
 |inr x=>obtain⟨t,e⟩:=(show ∃t,u=qJs x t from r);subst e;exact zJ3 P w x t
theorem zXQ{P:qHr}{w:World}{v:V}{k:KeyN}{u:Value}(e:vN v=some k)(r:RelV v u):(mixN P w).is k u=true:=by
 cases v with
 |non=>cases e;cases(show u=qHy from r);rfl
 |bl b=>cases e;cases(show u=qKa b from r);exact zNO b
 |int i=>cases e;obtain⟨t,z⟩:=(show ∃t,u=qJr i t from r);subst z;exact zLN i t
 |str x=>cases e;obtain⟨t,z⟩:=(show ∃t,u=qJs x t from r);subst z;exact zLM x t
 |_=>exact nomatch e
theorem zNQ{P:qHr}{w:World}{vs:List V}{ks:List KeyN}(q:KsOf vs ks):∀{us:List Value},Vals vs us->ItemsAre (mixN P w) ks us:=by
 induction q with
 |nil=>intro us r;cases r;exact .nil
 |cons h t ih=>
  intro us r;cases r with
  |cons h' t'=>exact .cons (zXQ h h') (ih t')
abbrev KT(H:Hp)(T:Addr->Prop):List (List KeyN×V)->List (List KeyN×Addr×Value)->Prop:=qJz fun p q=>p.1=q.1/\(TupK H q.2.1 p.1/\T q.2.1)/\RelV p.2 q.2.2
theorem KT.val{H:Hp}{T:Addr->Prop}{kvs:List (List KeyN×V)}{xs:List (List KeyN×Addr×Value)}(r:KT H T kvs xs)(k:List KeyN):RelO (valV kvs k) ((atKey xs k).map (·.2)):=by
 induction r with
 |nil=>exact qCp
 |@cons p q ps qs h t ih=>
  obtain⟨h1,_,h2⟩:=h
  by_cases e:p.1=k
  ·have e':q.1=k:=h1.symm.trans e;have b:atKey (q::qs) k=some q.2:=by simp[atKey,qC2,e']
   rw[zG8 e,b];exact h2
  ·have e':¬q.1=k:=fun z=>e (h1.trans z)
   have b:atKey (q::qs) k=atKey qs k:=by simp[atKey,qC2,e']
   rw[zG9 e,b];exact ih
theorem KT.repl{H:Hp}{T:Addr->Prop}{kvs:List (List KeyN×V)}{xs:List (List KeyN×Addr×Value)}(r:KT H T kvs xs)(k:List KeyN){y:V}{u:Value}(ry:RelV y u) :
  KT H T (kvs.map fun kv=>if kv.1=k then(kv.1,y)else kv) (xs.map (putAt k u)):=by
 induction r with
 |nil=>exact .nil
 |@cons p q ps qs h t ih=>
  rw[qAj,qAj];refine .cons ?_ ih;obtain⟨h1,h2,h3⟩:=h;unfold putAt
  by_cases e:p.1=k
  ·rw[if_pos e,if_pos (h1.symm.trans e)];exact⟨h1,h2,ry⟩
  ·rw[if_neg e,if_neg (fun z=>e (h1.trans z))];exact⟨h1,h2,h3⟩
theorem KT.wk{H:Hp}{T T':Addr->Prop}{kvs:List (List KeyN×V)}{xs:List (List KeyN×Addr×Value)}(r:KT H T kvs xs)(h:∀c,T c->T' c):KT H T' kvs xs:=qJz.mapP r fun _ _ z=>⟨z.1,⟨z.2.1.1,h _ z.2.1.2⟩,z.2.2⟩
theorem KT.put{H:Hp}{T:Addr->Prop}{kvs:List (List KeyN×V)}{xs:List (List KeyN×Addr×Value)}(r:KT H T kvs xs)(k:List KeyN){b:Addr}{y:V}{u:Value}(hb:TupK H b k)(ry:RelV y u) :
  KT H (fun c=>T c\/c=b) (putK kvs k y) (storedH xs k b u):=by
 have e:(kvs.any fun kv=>decide (kv.1=k))=(atKey xs k).isSome:=by
  rw[zJV,(r.val k).isSome_eq,Option.isSome_map]
 unfold putK storedH;rw[e]
 by_cases q:(atKey xs k).isSome=true
 ·rw[if_pos q,if_pos q];exact(r.repl k ry).wk fun _ z=>.inl z
 ·rw[if_neg q,if_neg q];exact Paired.snoc (KT.wk (T':=fun c=>T c\/c=b) r fun _ z=>qHm z) ⟨rfl,⟨hb,qHh rfl⟩,ry⟩
theorem KT.keeps{H H':Hp}{T:Addr->Prop}{kvs:List (List KeyN×V)}{xs:List (List KeyN×Addr×Value)}(r:KT H T kvs xs)(ht:∀b ys,H b=some (.tup ys)->H' b=some (.tup ys)):KT H' T kvs xs:=
 qJz.mapP r fun _ _ z=>⟨z.1,⟨z.2.1.1.keeps ht,z.2.1.2⟩,z.2.2⟩
section
variable{P:qHr}{w:World}{H:Hp}{h:Heap}{a:Addr}
theorem zV1{u:HO}(ok:HOk P w H h)(e:Rd H a u):ObjOk P w H h a u:=e.ok ok
theorem zQK{kvs:List (Key×V)}(ok:HOk P w H h)(e:Rd H a (.dK kvs)):kvs.length<=sizeLine/\(a==qIi)=false/\∃vs,KV kvs vs/\h.DictOf (zDF P w) a vs:=
 show ObjOk P w H h a (.dK kvs) from zV1 ok e
theorem zHY{ks:List KeyN}(ok:HOk P w H h)(e:TupK H a ks):(tupleKind (mixN P w)).is h ks a:=by
 obtain⟨vs,e,q⟩:=e;obtain⟨_,its,r,o,h1,h2,n,h3⟩:=(show ObjOk P w H h a (.tup vs) from ok a _ e)
 exact⟨o,its.toArray,n,h1,h2,h3,by simpa using zNQ q r⟩
theorem zO8{T:Addr->Prop}{e0:Nat}{kvs:List (List KeyN×V)}(ok:HOk P w H h)(e:Rd H a (.dT T e0 kvs)):kvs.length<=sizeLine/\(a==qIi)=false /\
  ∃xs,KT H T kvs xs/\h.DictOfH (tupleKind (mixN P w)) a xs:=by
 obtain⟨z,y,xs,r,o,es,ep,h1,h2,h3,h4,h5⟩:=(show ObjOk P w H h a (.dT T e0 kvs) from zV1 ok e)
 refine⟨z,y,xs,r,o,es,ep,h1,h2,h3,h4,fun x hx=>?_,h5.1⟩;have all:∀{l:List (List KeyN×V)}{m:List (List KeyN×Addr×Value)},KT H T l m->∀x∈m,(tupleKind (mixN P w)).is h x.1 x.2.1:=by
  intro l m q
  induction q with
  |nil=>intro x hx;exact nomatch hx
  |@cons p q ps qs hq t ih=>
   intro x hx
   rcases qAd.mp hx with e|hx
   ·subst e;exact zHY ok (by rw[<- hq.1];exact hq.2.1.1)
   ·exact ih x hx
 exact all r x hx
theorem zWW{T:Addr->Prop}{e0:Nat}{kvs:List (List KeyN×V)}(ok:HOk P w H h)(e:H a=some (.dT T e0 kvs)):kvs.length<=sizeLine/\(a==qIi)=false /\
  ∃xs,KT H T kvs xs/\h.DictOfH (tupleKind (mixN P w)) a xs:=zO8 ok (.inl e)
end
def DGet(H:Hp)(a:Addr)(y:V)(r:Option V):Prop:=
 (∃kvs k,Rd H a (.dK kvs)/\y=kV k/\r=valV kvs k)\/∃T e0 kvs k b,Rd H a (.dT T e0 kvs)/\y=.ref b/\TupK H b k/\r=valV kvs k
theorem DGet.t{H:Hp}{a b:Addr}{T:Addr->Prop}{e0:Nat}{kvs:List (List KeyN×V)}{k:List KeyN}(e:H a=some (.dT T e0 kvs))(eb:TupK H b k):DGet H a (.ref b) (valV kvs k):=.inr ⟨T,e0,kvs,k,b,.inl e,rfl,eb,rfl⟩
section
variable{X:Cx}{pins:List (Addr×Obj)}{σ:St}{H:Hp}{s:qHp}{a:Addr}{y v:V}{u r:Value}{o:Option V}{A:qHv}{E:Value->qHp->Prop}
theorem Inv.big(I:Inv X pins σ H s):qIi<s.heap.objs.size:=by
 have h:qHx<s.heap.objs.size:=(I.mod.glob.keeps I.bk).lt;exact Nat.lt_trans (by decide) h
theorem zOL{Q:Value->qHp->Prop}(hu:A.units+1<cLine)(I:Inv X pins σ H s)(g:DGet H a y (some v))(ry:RelV y u)(h:∀w' s',Inv X pins σ H s'->RelV v w'->Q w' s') :
  wpAny (model X.prog X.w) A (getItem (.ref a) u) Q E s:=by
 rcases g with⟨kvs,k,e,ey,l⟩|⟨T,e0,kvs,k,b,e,ey,eb,l⟩
 ·subst ey;obtain⟨z,hd,vs,rel,dd⟩:=zQK I.hok e;obtain⟨w',hw,rw'⟩:=RelO.some_of (v:=v) (o:=valueAt vs k) (by rw[l];exact rel.val k);exact wpAny_getItem_of (zWB ry) dd.mapOf hw (h w' _ (I.tok _) rw')
 ·subst ey
  cases(show u=qHw b from ry)
  obtain⟨z,hd,xs,rel,dd⟩:=zO8 I.hok e;obtain⟨w',hw,rw'⟩:=RelO.some_of (v:=v) (o:=(atKey xs k).map (·.2)) (by rw[l];exact rel.val k);obtain⟨p,hp,hp2⟩:=Option.map_eq_some_iff.mp hw;refine wpAny_getItem_heap (tupleKind_room_in1 hu) (zHY I.hok eb) dd hp ?_;rw[hp2];exact h w' _ (I.tok _) rw'
theorem zOK{h':Heap}{t':Nat}{ob:HO}(I:Inv X pins σ H s)(mu:Mut (H a))(hs:qJm a s.heap h')(he:∃q,h'.get? a=some q)(new:ObjOk X.prog X.w (upd H a ob) h' a ob) :
  Inv X pins σ (upd H a ob) { s with heap:=h',toks:=t' }:=
 I.write (x:=a) (e:=a) mu (.inl rfl) (fun b q hb z=>(hs.2 b hb).trans z) he new
end
section
variable{X:Cx}{pins:List (Addr×Obj)}{σ:St}{H:Hp}{s:qHp}{a:Addr}{kvs:List (Key×V)}{k:Key}{u:Value}{A:qHv}{E:Value->qHp->Prop}
end
def NoSl(i:Expr):Prop:=∀ov iv,subscripted i false ov iv=operate [ov,iv] (getItem ov iv)
theorem zS7{prog:qHr}{w:World}{A:qHv}{E:Value->qHp->Prop}{s:qHp}{env:Env}{value slice:Expr}{pos:Pos}{T id:String}{Q:Value->qHp->Prop}
  (hl:typeLookup (.type T) "__getitem__" = pure (some (.builtin id))) (hs:NoSl slice)
  (h:wpAny (model prog w) A (eval value env) (fun o s₁=>wpAny (model prog w) A (eval slice env) (fun i s₂=>s₂.TypeIs o T/\wpAny (model prog w) A (getItem o i) Q E s₂) E s₁) E s) :
  wpAny (model prog w) A (eval (.Subscript value slice pos) env) Q E s:=by
 refine qLn (wpAny_mono h (fun o s₁ h₁=>wpAny_mono h₁ (fun i s₂ h₂=>?_) fun _ _ x=>x) fun _ _ x=>x);obtain⟨hT,h₂⟩:=h₂;unfold subscriptTail;refine wpAny_bind ?_;rw[getitemInPython_of_ne hT.not_modules];refine wpAny_bind (wpAny_specialOf hT hl ?_);have fin:wpAny (model prog w) A (subscripted slice false o i) (fun r s₃=>wpAny (model prog w) A (letTemporaryGo value o r >>= fun _=>pure r) Q E s₃) E s₂:=by
  rw[hs o i];exact wpAny_operating (wpAny_mono h₂ (fun r s₃ h₃=>wpAny_bind (wpAny_letTemporaryGo (wpAny_pure h₃))) fun _ _ x=>x)
 first
  |exact wpAny_pure (wpAny_bind fin)
  |exact wpAny_bind (wpAny_pure (wpAny_bind fin))
  |exact wpAny_bind fin
theorem zJE{X:Cx}{pins:List (Addr×Obj)}{σ:St}{H:Hp}{s:qHp}{a:Addr}{y:V}{o:Option V}(I:Inv X pins σ H s)(g:DGet H a y o):s.TypeIs (.ref a) "dict":=by
 rcases g with⟨kvs,k,e,_,_⟩|⟨T,e0,kvs,k,b,e,_,_,_⟩
 ·obtain⟨_,_,vs,_,dd⟩:=zQK I.hok e;exact dd.typeIs
 ·obtain⟨_,_,xs,_,dd⟩:=zO8 I.hok e;exact dd.typeIs
noncomputable def zMB(td ty:TE):TE:=fun σ H Q=>td σ H fun x H1=>ty σ H1 fun y H2=>∃a v,x=.ref a/\DGet H2 a y (some v)/\Q v H2
noncomputable def tDIn(ty td:TE):TE:=fun σ H Q=>ty σ H fun y H1=>td σ H1 fun x H2=>∃a o,x=.ref a/\DGet H2 a y o/\Q (.bl o.isSome) H2
section
variable{X:Cx}{o i e value:Expr}{pos pos' tpos:Pos}{td ty tv:TE}
theorem zN1(hu:X.A.units+1<cLine)(ho:PE X o td)(hi:PE X i ty)(hs:NoSl i):PE X (.Subscript o i pos) (zMB td ty):=by
 intro pins s σ H Q I h;refine zS7 PySem.F.slot_dict_getitem.lookup hs (thn (ho pins s σ H _ I h) fun u s1 ⟨x,H1,I1,rx,q1⟩=>thn (hi pins s1 σ H1 _ I1 q1) fun iv s2 ⟨y,H2,I2,ry,a,v,ex,g,q2⟩=>?_);subst ex;obtain rfl:u=qHw a:=rx;exact⟨zJE I2 g,zOL hu I2 g ry fun w' s3 I3 rw'=>⟨v,H2,I3,rw',q2⟩⟩
end
theorem zKO{P:qHr}{w:World}{H:Hp}(h:Heap)(hb:qIi<h.objs.size):ObjOk P w H (h.push { cls:=.type "dict",data:=.dict #[] }) h.objs.size (.dT (fun _=>False) 0 []):=
 ⟨qAt _,beq_eq_false_iff_ne.mpr (qC8 (qAv hb)),[],.nil,_,#[],0,qHt _ rfl,⟨rfl,rfl,rfl⟩,rfl,rfl,qEp,rfl⟩
def zR0:TE:=fun _ H Q=>∀p,H p=none->Q (.ref p) (upd H p (.dT (fun _=>False) 0 []))
section
variable{X:Cx}{pos:Pos}
theorem zPP:PE X (.Dict [] [] pos) zR0:=fun pins s σ H Q I h=>
 wpAny_Dict_empty ⟨.ref s.heap.objs.size,_,I.laid (a:=s.heap.objs.size) (o:=.dT (fun _=>False) 0 []) (t':=s.toks) (fun _ _ q=>qHq _ q) (qA6 _) (zKO s.heap I.big),rfl,h _ (I.hok.fresh (qA6 _))⟩
end
noncomputable def zM8:List (TE×TE)->St->Hp->(List (V×V)->Hp->Prop)->Prop
 |[],_,H,Q=>Q [] H
 |(tk,tv)::r,σ,H,Q=>tk σ H fun x H1=>tv σ H1 fun y H2=>zM8 r σ H2 fun ps H3=>Q ((x,y)::ps) H3
abbrev VV:List (V×V)->List (Value×Value)->Prop:=qJz fun p q=>RelV p.1 q.1/\RelV p.2 q.2
def PPs(X:Cx)(pos:Pos)(keys:List (Option Expr))(values:List Expr)(trs:List (TE×TE)):Prop:=
 ∀(pins:List (Addr×Obj))(s:qHp)(σ:St)(H:Hp)(Q:List (V×V)->Hp->Prop),Inv X pins σ H s->zM8 trs σ H Q ->
  wpAny (model X.prog X.w) X.A (evalPairs (pairTrees keys values X.env pos)) (fun vs s'=>∃ps H',Inv X pins σ H' s'/\VV ps vs/\Q ps H') X.xe s
theorem zSO{X:Cx}{pos:Pos}:PPs X pos [] [] []:=fun pins s σ H Q I h=>pairTrees_nil_walk ⟨[],H,I,.nil,h⟩
theorem zPO{X:Cx}{pos:Pos}{k v:Expr}{ks:List (Option Expr)}{vs:List Expr}{tk tv:TE}{trs:List (TE×TE)}(hk:PE X k tk)(hv:PE X v tv)(hr:PPs X pos ks vs trs) :
  PPs X pos (some k::ks) (v::vs) ((tk,tv)::trs):=fun pins s σ H Q I h=>
 pairTrees_cons_walk (thn (hk pins s σ H _ I h) fun u s1 ⟨x,H1,I1,rx,q1⟩=>thn (hv pins s1 σ H1 _ I1 q1) fun w2 s2 ⟨y,H2,I2,ry,q2⟩=>
  thn (hr pins s2 σ H2 _ I2 q2) fun ws s3 ⟨ps,H3,I3,rel,q3⟩=>⟨(x,y)::ps,H3,I3,.cons ⟨rx,ry⟩ rel,q3⟩)
structure M2(X:Cx)(o:Expr)(m:Str)(apos:Pos)(e f:Expr)(cpos:Pos):Prop where
 base:attributeBase o m X.env (eval o X.env)=eval o X.env
 few:((backTo cpos (starEach [e,f] X.env)).all (fun x=>!x.1)&&(backToKw cpos (keywordEach [] X.env)).all (fun x=>x.1.isSome)
  && decide (([e,f]:List Expr).length+([]:List qLr).length+(if([]:List qLr).isEmpty then 0 else 1)<30))=true
 line:(apos.endLine==cpos.line)=true
 trees:backTo cpos (starEach [e,f] X.env)=[(false,eval e X.env),(false,eval f X.env)]
def IsD(H:Hp)(a:Addr):Prop:=(∃kvs,Rd H a (.dK kvs))\/∃T e0 kvs,Rd H a (.dT T e0 kvs)
theorem zWK{X:Cx}{pins:List (Addr×Obj)}{σ:St}{H:Hp}{s:qHp}{a:Addr}(I:Inv X pins σ H s)(d:IsD H a) :
  s.TypeIs (.ref a) "dict"/\(∀b,qHw a=.ref b->∃ob,s.heap.get? b=some ob/\ob.dict=none)/\(a==qIi)=false:=by
 rcases d with⟨kvs,e⟩|⟨_,_,kvs,e⟩
 ·obtain⟨_,hd,vs,_,dd⟩:=zQK I.hok e;refine⟨dd.typeIs,fun b q=>?_,hd⟩;cases q;obtain⟨ob,_,_,h1,h2,_⟩:=dd;exact⟨ob,h1,h2.2.1⟩
 ·obtain⟨_,hd,xs,_,dd⟩:=zO8 I.hok e;refine⟨dd.typeIs,fun b q=>?_,hd⟩;cases q;obtain⟨ob,_,_,h1,h2,_⟩:=dd;exact⟨ob,h1,h2.2.1⟩
section
variable{X:Cx}{pins:List (Addr×Obj)}{σ:St}{H:Hp}{s:qHp}{a:Addr}{y d:V}{u r:Value}{o:Option V}{A:qHv}{E:Value->qHp->Prop}
theorem zX8{Q:Value->qHp->Prop}(hu:A.units+1<cLine)(I:Inv X pins σ H s)(g:DGet H a y o)(ry:RelV y u)(rd:RelV d r)(h:∀w' s',Inv X pins σ H s'->RelV (o.getD d) w'->Q w' s') :
  wpAny (model X.prog X.w) A (call (.builtin "dict.get") [.ref a,u,r]) Q E s:=by
 rcases g with⟨kvs,k,e,ey,l⟩|⟨T,e0,kvs,k,b,e,ey,eb,l⟩
 ·subst ey;obtain⟨z,hd,vs,rel,dd⟩:=zQK I.hok e;refine call_meetsIn qCz dd.typeIs qEa (qDy _ _ _) (meets_dict_get_default (zDF X.prog X.w) a (zWB ry) hd r) ⟨_,dd.mapOf,h _ _ (I.tok _) ?_⟩;rw[l];exact(rel.val k).getD rd
 ·subst ey
  cases(show u=qHw b from ry)
  obtain⟨z,hd,xs,rel,dd⟩:=zO8 I.hok e;refine call_meetsIn qCz dd.typeIs qEa (qDy _ _ _) (meetsH_dict_get_default (tupleKind (mixN X.prog X.w)) a b hd r) ⟨tupleKind_room_in1 hu,k,xs,zHY I.hok eb,dd,h _ _ (I.tok _) ?_⟩;rw[l];exact(rel.val k).getD rd
end
noncomputable def zR1(td ty tx:TE):TE:=fun σ H Q=>td σ H fun x H1=>∃a,x=.ref a/\IsD H1 a/\ty σ H1 fun y H2=>tx σ H2 fun z H3=>∃o,DGet H3 a y o/\Q (o.getD z) H3
section
variable{X:Cx}{o e f:Expr}{apos cpos:Pos}{td ty tx:TE}
theorem zPR(hu:X.A.units+1<cLine)(ho:PE X o td)(he:PE X e ty)(hf:PE X f tx)(m:M2 X o "get" apos e f cpos):PE X (.Call (.Attribute o "get" apos) [e,f] [] cpos) (zR1 td ty tx):=by
 intro pins s σ H Q I h;refine wpAny_Call_method m.base m.few m.line PySem.F.plainAttrs_dict qCz PySem.F.type_dict_get (thn (ho pins s σ H _ I h) fun u s1 z0=>?_);obtain⟨x,H1,I1,rx,a,ex,d,q1⟩:=z0;subst ex;obtain rfl:u=qHw a:=rx;obtain⟨t1,t2,_⟩:=zWK I1 d;refine⟨t1,t2,?_⟩;rw[m.trees];refine qK2 rfl (qKf (qJn (thn (he pins s1 σ H1 _ I1 q1) fun iv s2 ⟨y,H2,I2,ry,q2⟩=>
  qJn (thn (hf pins s2 σ H2 _ I2 q2) fun fv s3 ⟨z,H3,I3,rz,ov,g,q3⟩=>qKx ?_))))
 exact zX8 hu I3 g ry rz fun w' s4 I4 rw'=>⟨_,H3,I4,rw',q3⟩
end
section
variable{X:Cx}{pins:List (Addr×Obj)}{σ:St}{H:Hp}{s:qHp}{a:Addr}{kvs:List (Key×V)}{A:qHv}{E:Value->qHp->Prop}
end
section
variable{X:Cx}{pins:List (Addr×Obj)}{σ:St}{H:Hp}{s:qHp}{a:Addr}{y:V}{u:Value}{A:qHv}{E:Value->qHp->Prop}
end
end L2
namespace Att
open PySem PySem.W PySem.Calls PyProof.Rows
theorem zF6{P:Params}{h:Heap}:∀(ns:List Int)(vs:List Value),WellAll P h vs (ns.map qLf)->qKo vs ns:=by
 intro ns
 induction ns with
 |nil=>
  intro vs w;rw[qHa]at w;cases w;exact .nil
 |cons n ns ih=>
  intro vs w;rw[qAj]at w;cases w with
  |cons a b=>
   cases a;exact .cons _ _ (ih _ b)
theorem zMI{l:OpenLaw}{n:Nat}(hn:l.most=some n){P:Params}{h:Heap}{args:List WData}{vals:List Value}
  (hpre:l.row.toRowW.claim.pre args=true) (hwl:WellAll P h vals args) :
  ∃a vs ns,vals=[qHw a]/\args=[WData.list (ns.map qLf)]/\h.get? a=some { cls:=.type "list",data:=.seq vs.toArray }/\qKo vs ns/\ns.length<=n:=by
 have hsh:WShape.hasAll [] args [.list .int]=true:=(pre_splitW hpre).1;have hc:l.pre.holds [] { args:=args }=true:=(pre_splitW hpre).2;obtain⟨d,r,rfl,h1,h2⟩:=hasAllW_cons hsh;obtain rfl:=hasAllW_nil h2;obtain⟨xs,rfl,h3⟩:=hasW_list h1;obtain⟨ns,rfl⟩:=items_int h3;have hlen:ns.length<=n:=by
  unfold OpenLaw.pre at hc;have h4:(WTm.not (.lt (.lit (.int (n:Int))) (.len (.arg 0)))).holds [] { args:=[.list (ns.map .int)] }=true:=by
   have h4:=(holds_andW hc).1;rw[hn]at h4;exact h4
  have h5:=condW_of h4 (w_not (w_lt w_lit (w_len_list (w_arg rfl))));rw[qAm]at h5;refine Nat.le_of_not_lt fun q=>?_
  have q':(n:Int)<((ns.length:Nat):Int):=by omega
  first
   |(rw[decide_eq_true q']at h5;exact absurd h5 (by decide))
   |(simp at h5;omega)
 cases hwl with
 |cons w1 w2=>
  cases w2;cases w1 with
  |list ho hall=>exact⟨_,_,ns,rfl,rfl,ho,zF6 ns _ hall,hlen⟩
theorem zMU(l:OpenLaw)(args:List WData):l.row.toRowW.claim.post args (.bool true) args=true:=
 postW_of (r:=l.row.toRowW) (X:=(true==true))
  (show qLx [] (.bool true) .bool=true by first|rfl|decide|simp[qLx,WShape.arms,WShape.armsAll])
  (show(WTm.eq .res (.lit (.bool true))).value [] { args:=args,res:=some (.bool true),after:=args }=some (.bool (true==true)) from w_eq_bool (w_res rfl) w_lit) rfl
section
variable{prog:qHr}{w:World}{A:qHv}{E:Value->qHp->Prop}{s:qHp}{K:Frag}
end
end Att
namespace L2
open PySem PySem.Spec PyProof.Rows
theorem zHC:∀{vs:List Value}{ns:List Int},qKo vs ns->Vals (ns.map V.int) vs
 |_,_,.nil=>.nil
 |_,_,.cons n t h=>.cons ⟨t,rfl⟩ (zHC h)
abbrev KOf{K:qA2}{h:Heap}(_:K.In h):qA2:=K
noncomputable def zAV(s:Stmt):Arguments:=match s with
 |.FunctionDef _ a _ _ _ _ _ _ _ _=>a
 |_=>{ posonlyargs:=[],args:=[],vararg:=none,kwonlyargs:=[],kw_defaults:=[],kwarg:=none,defaults:=[] }
noncomputable def zAX(s:Stmt):List Stmt:=match s with
 |.FunctionDef _ _ b _ _ _ _ _ _ _=>b
 |_=>[]
noncomputable def zAA(s:Stmt):Scope:=match s with
 |.FunctionDef _ _ _ _ _ _ sc _ _ _=>sc
 |_=>{ kind:=.function,names:=[],isGenerator:=false,isCoroutine:=false }
abbrev CX0:CXT:=fun _ _ _ _ _ _=>False
abbrev E0:XK:=fun _ _ _=>False
theorem zYB{X:Cx}:zL1 CX0 X E0:=fun _ _ _ _ _ _ _ h=>h.elim
structure Fun(K:qA2)(x qual:Str)(st:Stmt)(f:Addr)(fd:qI6):Prop where
 ex:∃(oc:Value)(od:Option Addr)(kV doc pm:Value)(an:Option Addr)(cdv ct:Value)(osl:Array (Option Value)),
  fd=qB7 x qual (zAV st) (zAX st) (zAA st) .none kV doc pm an cdv ct/\K.lookup f=some ⟨oc,od,.func fd,osl⟩/\qC7 K cdv qual=true
 kp:qB4 K (.ref f)=true
section
variable{P:qHr}{w:World}{K:qA2}{mg:Str->Option Value}{base:Heap}
theorem Fun.ok{x qual:Str}{st:Stmt}{f:Addr}{fd:qI6}{N ps:List Str}{k:Nat}{sp:Sp}(F:Fun K x qual st f fd)(S:FnScope N ps (zAA st))(len:∀vs H Q E,sp vs H Q E->vs.length=ps.length)
  (hbody:∀(cdv:Value)(A:qHv)(outer:List Env)(s:qHp)(H:Hp)(vs:List V)(Q:VK)(E:XK),Room k (A.deeper (envOfC qual (zAA st) s.heap.objs.size f cdv))->sp vs H Q E ->
   ∃t,PSs (cxOf CX0 P w K mg base N qual (zAA st) f cdv A outer s H E).nox (zAX st) t/\t { nx:=fun _ H'=>Q .non H',rt:=Q } (start N vs) H):FnOk P w K mg base CX0 (k+1) f fd ps sp:=by
 obtain⟨oc,od,kV,doc,pm,an,cdv,ct,osl,rfl,lk,hcd⟩:=F.ex;refine zWQ lk hcd S len fun A outer s H vs Q E hr hsp=>?_
 obtain⟨t,h,q⟩:=hbody cdv A outer s H vs Q E hr hsp;exact⟨t,h.nox,q⟩
theorem Fun.binds{x qual:Str}{st:Stmt}{f:Addr}{fd:qI6}{ps:List Str}(F:Fun K x qual st f fd)
  (h:∀(kV doc pm:Value)(an:Option Addr)(cdv ct:Value)(us:List Value),us.length=ps.length->qKb (qB7 x qual (zAV st) (zAX st) (zAA st) .none kV doc pm an cdv ct) ⟨us,[]⟩=pure (ps.zip us)):Binds K fd ps []:=by
 obtain⟨oc,od,kV,doc,pm,an,cdv,ct,osl,rfl,lk,hcd⟩:=F.ex;exact .all (h kV doc pm an cdv ct)
theorem zRM{x qual:Str}{st:Stmt}{f:Addr}{oc:Value}{od an:Option Addr}{osl:Array (Option Value)}{kV doc pm cdv ct:Value}(l:K.lookup f=some ⟨oc,od,.func (qB7 x qual (zAV st) (zAX st) (zAA st) .none kV doc pm an cdv ct),osl⟩)
  (c:qC7 K cdv qual=true) (k:qB4 K (.ref f)=true):Fun K x qual st f (qB7 x qual (zAV st) (zAX st) (zAA st) .none kV doc pm an cdv ct):=⟨⟨oc,od,kV,doc,pm,an,cdv,ct,osl,rfl,l,c⟩,k⟩
end
theorem zNU{A:qHv}{k:Nat}(hr:Room k A):A.units+1<cLine:=qDd (Nat.add_le_add_left (by decide:1<=64) _) hr.units
section
variable{X:Cx}
end
def Same(H H':Hp):Prop:=∀b o,H b=some o->H' b=some o
theorem Same.refl(H:Hp):Same H H:=fun _ _ h=>h
theorem Same.trans{H H1 H2:Hp}(a:Same H H1)(b:Same H1 H2):Same H H2:=fun c o h=>b c o (a c o h)
theorem Same.free{H H':Hp}(e:Same H H'){l:Addr}(h:H' l=qEu):H l=qEu:=by
 cases q:H l with
 |none=>rfl
 |some o=>
  rw[e l o q]at h;cases h
theorem Same.seq{K:qA2}{H H':Hp}{a:Addr}{xs:List V}(e:Same H H')(h:SqL K H a xs):SqL K H' a xs:=by
 rcases h with(h|⟨o,h⟩)|h
 ·exact .inl (.inl (e _ _ h))
 ·exact .inl (.inr ⟨o,e _ _ h⟩)
 ·exact .inr h
section
variable{κ:Type}[DecidableEq κ]
end
theorem asN{a b:Nat}(h:a<b):a<b:=h
theorem asL{a b:Nat}(h:a<=b):a<=b:=h
theorem asE{a b:Nat}(h:a=b):a=b:=h
noncomputable def clos(cells:List (Str×Addr)):List (Str×qIj)->List (Str×Addr)->List (Str×Addr)
 |[],acc=>acc
 |(n,k)::r,acc=>if k==.free then clos cells r ((n,(cells.lookup n).getD 0)::acc)else clos cells r acc
theorem zD2(cells:List (Str×Addr)):∀(names:List (Str×qIj))(acc:List (Str×Addr)),clos cells names acc=clos cells names []++acc
 |[],_=>rfl
 |(n,k)::r,acc=>by
  unfold clos
  split
  ·rw[zD2 cells r (_::acc),zD2 cells r [_],qAu];rfl
  ·exact zD2 cells r acc
theorem zEO{cells:List (Str×Addr)}{x:Str}{c:Addr}:∀{names:List (Str×qIj)},(x,c)∈clos cells names []->(x,qHz)∈names/\c=(cells.lookup x).getD 0
 |[],h=>by simp[clos]at h
 |(n,k)::r,h=>by
  unfold clos at h
  split at h
  ·rename_i hk
   rw[zD2]at h
   rcases qB0.mp h with h|h
   ·obtain⟨h1,h2⟩:=zEO h;exact⟨qA9 _ h1,h2⟩
   ·have e:=qAr.mp h
    injection e with e1 e2
    subst e1;have hk':k=.free:=by simpa using hk
    subst hk';exact⟨qAi,e2⟩
  ·obtain⟨h1,h2⟩:=zEO h;exact⟨qA9 _ h1,h2⟩
theorem zGZ{cells:List (Str×Addr)}{x:Str}:∀{names:List (Str×qIj)},(x,qHz)∈names->(x,(cells.lookup x).getD 0)∈clos cells names []
 |[],h=>by simp at h
 |(n,k)::r,h=>by
  unfold clos
  rcases qAd.mp h with e|h
  ·injection e with e1 e2
   subst e1;subst e2;rw[if_pos (by rfl),zD2];exact qAq _ (by simp)
  ·split
   ·rw[zD2];exact qD3 _ (zGZ h)
   ·exact zGZ h
theorem zB4:∀(names:List (Str×qIj))(n:Nat)(acc:List (Str×Addr)),cellsFrom n names acc=cellsFrom n names []++acc
 |[],_,_=>rfl
 |(x,k)::r,n,acc=>by
  unfold cellsFrom
  split
  ·rw[zB4 r (n+1) (_::acc),zB4 r (n+1) [_],qAu];rfl
  ·exact zB4 r n acc
theorem zBR{x:Str}{c:Addr}:∀{names:List (Str×qIj)}{n:Nat},(x,c)∈cellsFrom n names []->(x,qIa)∈names
 |[],_,h=>by simp[cellsFrom]at h
 |(y,k)::r,n,h=>by
  unfold cellsFrom at h
  split at h
  ·rename_i hk
   rw[zB4]at h
   rcases qB0.mp h with h|h
   ·exact qA9 _ (zBR h)
   ·have e:=qAr.mp h
    injection e with e1 e2
    subst e1;have hk':k=.cell:=by simpa using hk
    subst hk';exact qAi
  ·exact qA9 _ (zBR h)
theorem zBG{α:Type}{x:Str}{a:α}:∀{l:List (Str×α)},(l.map (·.1)).Nodup->(x,a)∈l->l.lookup x=some a
 |[],_,h=>by simp at h
 |(y,b)::r,nd,h=>by
  have nd':(y::r.map (·.1)).Nodup:=nd;obtain⟨h1,h2⟩:=qAp.mp nd'
  rcases qAd.mp h with e|hm
  ·injection e with e1 e2
   subst e1;subst e2;rw[qBe,beq_self_eq_true]
  ·have hne:(x==y)=false:=by
    rw[beq_eq_false_iff_ne]
    rintro rfl
    exact h1 (qAb.mpr ⟨(x,a),hm,rfl⟩)
   rw[qBe,hne];exact zBG h2 hm
theorem zDA{α:Type}{x:Str}:∀{l:List (Str×α)},(∀a,(x,a)∉l)->l.lookup x=none
 |[],_=>rfl
 |(y,b)::r,h=>by
  have hne:(x==y)=false:=by
   rw[beq_eq_false_iff_ne]
   rintro rfl
   exact h b qAi
  rw[qBe,hne];exact zDA fun a m=>h a (qA9 _ m)
theorem zD9{α:Type}{x:Str}{a:α}:∀{l:List (Str×α)},(x,a)∈l->∃b,l.lookup x=some b
 |[],h=>by simp at h
 |(y,b)::r,h=>by
  rw[qBe];cases e:x==y with
  |true=>exact⟨b,rfl⟩
  |false=>
   rcases qAd.mp h with q|q
   ·injection q with q1 _
    subst q1;rw[beq_self_eq_true]at e;cases e
   ·exact zD9 q
theorem zFW{α:Type}{x:Str}:∀(l k:List (Str×α)),(l++k).lookup x=(l.lookup x).or (k.lookup x)
 |[],k=>by simp
 |(y,b)::r,k=>by
  show qCw x ((y,b)::(r++k))=_;rw[qBe,qBe];cases x==y with
  |true=>rfl
  |false=>exact zFW r k
def zXK(sc:Scope)(env:Env):Prop:=∀x,(x,qHz)∈sc.names->env.kindOf x=some .cell\/env.kindOf x=some .free
theorem zDU{sc:Scope}{env:Env}(h:∀x,(x,qHz)∈sc.names->∃c,env.cells.lookup x=some c):closureFor sc env=pure (clos env.cells sc.names []):=by
 have go:∀(names:List (Str×qIj))(acc:List (Str×Addr)),(∀x,(x,qHz)∈names->∃c,env.cells.lookup x=some c) ->
   (forIn names acc fun(x:Str×qIj)(cs:List (Str×Addr))=>(match x with|(name,kind)=>if(kind==qHz)=true then(do let c <- cellOf env name;pure (qCf ((name,c)::cs)))else pure (qCf cs):Sem (ForInStep (List (Str×Addr)))))=pure (clos env.cells names acc):=by
  intro names
  induction names with
  |nil=>intro acc _;rfl
  |cons p r ih=>
   intro acc hn;obtain⟨n,k⟩:=p;have hr:∀x,(x,qHz)∈r->∃c,env.cells.lookup x=some c:=fun x hx=>hn x (qA9 _ hx)
   rw[qFy];unfold clos
   by_cases hk:(k==qHz)=true
   ·have hk':k=.free:=by simpa using hk
    subst hk';obtain⟨c,hc⟩:=hn n qAi;have e:cellOf env n=pure c:=by unfold cellOf;rw[hc]
    rw[if_pos (by rfl)];simp only[if_pos (show(qHz==qHz)=true from rfl),e,hc,qE7,pure_bind];exact ih _ hr
   ·rw[if_neg hk];simp only[if_neg hk,pure_bind];exact ih _ hr
 unfold closureFor;have q:=go sc.names [] h
 first
  |(rw[show(forIn sc.names ([]:List (Str×Addr)) _:Sem (List (Str×Addr)))=_ from q];rfl)
  |(refine(congrArg (fun z=>z >>= pure) q).trans ?_;rfl)
  |(simp only[q];rfl)
  |exact q
def zD1(sc:Scope)(C:Addr)(env:Env):Env:=
 { scope:=relabel sc env,locals:=C,globals:=env.globals,cells:=cellsFrom (C+1) sc.names (clos env.cells sc.names []),qual:=env.qual,func:=none,code:=env.code,frame:=env.frame,builtins:=env.builtins }
theorem zDH{M:Model}{A:qHv}{E:Value->qHp->Prop}{s:qHp}{sc:Scope}{env:Env}{cl:List (Str×Addr)}{Q:Env->qHp->Prop}
  (hQ:Q { scope:=sc,locals:=s.heap.objs.size,globals:=env.globals,cells:=cellsFrom (s.heap.objs.size+1) sc.names cl,qual:=env.qual,func:=none,code:=env.code,frame:=env.frame,builtins:=env.builtins }
   { s with heap:=pushCells (s.heap.push { cls:=.type "dict",data:=.dict #[] }) sc.names }) :
  wpAny M A (newFunctionEnv sc env.globals cl [] env.qual none .none (some env)) Q E s:=by
 simp only[newFunctionEnv,qF4,if_true];refine wpAny_bind (wpAny_alloc ?_);refine wpAny_bind (wpAny_layCells _ (fun name kind cells=>by cases hkc:kind==qIa<;>simp[hkc]) _ _ _ _ ?_);rw[show({ s with heap:=s.heap.push { cls:=.type "dict",data:=.dict #[] } }:qHp).heap.objs.size=s.heap.objs.size+1 from qIg ..];refine wpAny_bind ?_;rw[qGi];exact wpAny_pure (wpAny_pure hQ)
def zC8(X:Cx)(N':List Str)(sc:Scope)(C:Addr)(s:qHp)(H:Hp)(fp:List Addr):Cx:=
 { X with N:=N',s₀:=s,H₀:=H,env:=zD1 sc C X.env,outer:=X.stack,stack:=X.stack,ex:=fp,fn:=fun x=>sc.names.lookup x==some .cell,pn:=[],xe:=fun _ _=>False }
def PTs(X:Cx)(ifs:List Expr)(t:TT):Prop:=
 ∀(pins:List (Addr×Obj))(s:qHp)(σ:St)(H:Hp)(Q:Bool->Hp->Prop),Inv X pins σ H s->t σ H Q ->
  wpAny (model X.prog X.w) X.A (forIn ifs true fun c r=>if r=true then do let ok <- isTrue c X.env (eval c X.env);pure (qCf ok)else pure (qCf r)) (TP X pins σ Q) X.xe s
noncomputable def tYes:TT:=fun _ H Q=>Q true H
theorem zGG{X:Cx}:PTs X [] tYes:=fun _ _ _ H _ I h=>wpAny_tests_nil ⟨H,I,h⟩
structure CompNames(N N':List Str)(k:Nat)(sc:Scope)(env:Env):Prop where
 kind:sc.kind=.function
 nd:(sc.names.map (·.1)).Nodup
 len:N'.length=N.length+k
 old:∀(i:Nat)(x:Str),N'[i]?=some x->i<N.length->(x,qHz)∈sc.names/\N[i]?=some x\/sc.names.lookup x=none
 free:zXK sc env
theorem zB6{sc:Scope}{env:Env}{x:Str}{k:qIj}:∀{names:List (Str×qIj)},
  (names.map fun(n,k)=>if(k==qHz&&env.scope.kind==.function&&env.kindOf n==some .cell)then(n,qIa)else(n,k)).lookup x=some k ->
  names.lookup x=some k\/(names.lookup x=some .free/\k=.cell)
 |[],h=>by simp at h
 |(n,j)::r,h=>by
  have ih:=@zB6 sc env x k r;rw[qAj]at h;rw[qBe]
  by_cases hc:(j==qHz&&env.scope.kind==.function&&env.kindOf n==some .cell)=true
  ·have h':qCw x ((n,qIa)::(r.map fun(n,k)=>if(k==qHz&&env.scope.kind==.function&&env.kindOf n==some .cell)then(n,qIa)else(n,k)))=some k:=by
    rw[<- h];simp only[if_pos hc]
   rw[qBe]at h';cases e:x==n with
   |true=>
    rw[e]at h';have hk:k=.cell:=(qB3 h').symm;have hj:j=.free:=by
     simp only[qBu,beq_iff_eq]at hc;exact hc.1.1
    subst hj;exact .inr ⟨rfl,hk⟩
   |false=>
    rw[e]at h';exact ih h'
  ·have h':qCw x ((n,j)::(r.map fun(n,k)=>if(k==qHz&&env.scope.kind==.function&&env.kindOf n==some .cell)then(n,qIa)else(n,k)))=some k:=by
    rw[<- h];simp only[if_neg hc]
   rw[qBe]at h';cases e:x==n with
   |true=>rw[e]at h';exact .inl h'
   |false=>rw[e]at h';exact ih h'
section
variable{X:Cx}{N':List Str}{k:Nat}{sc:Scope}{pins:List (Addr×Obj)}{σ:St}{H:Hp}{s:qHp}
theorem zLT{C:Addr}{x:Str}{c:Addr}(nd:(sc.names.map (·.1)).Nodup)(h:(zD1 sc C X.env).cells.lookup x=some c) :
  ((x,c)∈cellsFrom (C+1) sc.names []/\(x,qIa)∈sc.names)\/((x,qHz)∈sc.names/\c=(X.env.cells.lookup x).getD 0):=by
 have m:=mem_of_lookup h;have m':(x,c)∈cellsFrom (C+1) sc.names (clos X.env.cells sc.names []):=m;rw[zB4]at m'
 rcases qB0.mp m' with z|z
 ·exact .inl ⟨z,zBR z⟩
 ·exact .inr (zEO z)
theorem zDB{C:Addr}{x:Str}(nd:(sc.names.map (·.1)).Nodup)(h:(x,qHz)∈sc.names):(zD1 sc C X.env).cells.lookup x=some ((X.env.cells.lookup x).getD 0):=by
 show(cellsFrom (C+1) sc.names (clos X.env.cells sc.names [])).lookup x=_
 rw[zB4,zFW,zDA (fun a m=>?_),Option.none_or]
 ·obtain⟨b,hb⟩:=zD9 (zGZ (cells:=X.env.cells) h)
  have:=(zEO (mem_of_lookup hb)).2
  rw[hb,this]
 ·have e1:=zBG nd (zBR m);rw[zBG nd h]at e1;cases e1
theorem zQ8(I:Inv X pins σ H s)(hc:X.calm=true)(S:CompNames X.N N' k sc X.env){fp:List Addr}(hf:∀b∈fp,FpOk X pins H b)(hfo:∀b∈fp,∃o,s.heap.get? b=some o)
  {s4:qHp} {D C:Addr} (eD:D=s.heap.objs.size) (eC:C=s.heap.objs.size+1)
  (e4:s4={ s with heap:=pushCells ((s.heap.push { cls:=.type "list",data:=.seq #[] 0 }).push { cls:=.type "dict",data:=.dict #[] }) sc.names }) :
  Inv (zC8 X N' sc C s H fp) [(D,{ cls:=.type "list",data:=.seq #[] 0 })] (σ++qA3 k none) H s4/\∀b∈fp,FpOk (zC8 X N' sc C s H fp) [(D,{ cls:=.type "list",data:=.seq #[] 0 })] H b:=by
 subst eD eC e4
 generalize hh1:s.heap.push { cls:=.type "list",data:=.seq #[] 0 }=h1
 generalize hh2:h1.push { cls:=.type "dict",data:=.dict #[] }=h2
 have sz1:h1.objs.size=s.heap.objs.size+1:=by rw[<- hh1];exact qIg ..
 have sz2:h2.objs.size=s.heap.objs.size+2:=by rw[<- hh2,qIg,sz1]
 have k1:∀b o,s.heap.get? b=some o->h1.get? b=some o:=fun b o e=>by rw[<- hh1];exact qHq _ e
 have k2:∀b o,h1.get? b=some o->h2.get? b=some o:=fun b o e=>by rw[<- hh2];exact qHq _ e
 have k3:∀b o,h2.get? b=some o->(pushCells h2 sc.names).get? b=some o:=pushCells_keeps sc.names h2;have kk:∀b o,s.heap.get? b=some o->(pushCells h2 sc.names).get? b=some o:=fun b o e=>k3 b o (k2 b o (k1 b o e))
 have own:CellsOk (pushCells h2 sc.names) h2.objs.size (cellsFrom h2.objs.size sc.names []):=cellsFrom_ok sc.names h2 h2.objs.size [] ⟨fun _ _ hm=>(nomatch hm),qFe⟩ (qA6 _);have eC1:s.heap.objs.size+1+1=h2.objs.size:=by rw[sz2]
 have freeCell:∀x,(x,qHz)∈sc.names->∃c,X.env.cells.lookup x=some c:=fun x hx=>I.ok.has x (S.free x hx)
 have cells:∀x c,(zD1 sc (s.heap.objs.size+1) X.env).cells.lookup x=some c ->
   ((x,c)∈cellsFrom h2.objs.size sc.names []/\(x,qIa)∈sc.names/\(pushCells h2 sc.names).IsCell c none/\h2.objs.size<=c)\/((x,qHz)∈sc.names/\X.env.cells.lookup x=some c):=fun x c e=>by
  rcases zLT S.nd e with⟨m,q⟩|⟨m,q⟩
  ·rw[eC1]at m;exact .inl ⟨m,q,(own.empty x c m).1,(own.empty x c m).2⟩
  ·obtain⟨c',hc'⟩:=freeCell x m;rw[hc',qE7]at q;subst q;exact .inr ⟨m,hc'⟩
 have old:∀x c,X.env.cells.lookup x=some c->c<s.heap.objs.size:=fun x c e=>by
  obtain⟨v,q⟩:=I.cell x c e;exact q.lt
 have fpl:∀b∈fp,b<s.heap.objs.size:=fun b hb=>by
  obtain⟨o,e⟩:=hfo b hb;exact qHs e
 have hCn:H (s.heap.objs.size+1)=none:=I.hok.fresh (qDx _);have hDn:H s.heap.objs.size=none:=I.hok.fresh (qA6 _);have nofs:∀a,s.heap.objs.size<=a->a∉frs X.stack:=fun a ha hb=>by
  rcases qAd.mp (I.stkSub a hb)with e|hb
  ·have t1:=asN I.lt;have t2:=asE e;have t3:=asL ha
   lia
  ·exact I.nofs ha hb
 have fin:∀b∈fp,b∉frs X.stack:=fun b hb z=>by
  obtain⟨f0,f1,f2,f3,f4,f5⟩:=hf b hb
  rcases qAd.mp (I.stkSub b z)with e|z
  ·exact f1 e
  ·exact f2 z
 have ok:(zC8 X N' sc (s.heap.objs.size+1) s H fp).Ok:=by
  refine⟨I.ok.mod,S.kind,I.ok.glob,I.ok.blt,qDx _,?_,?_,?_,I.ok.hd,I.ok.frames,.inl rfl,?_,I.bs,qAn I.ok.bsz I.sz,?_,fin,I.stack,I.stkFree⟩
  ·intro x y c hx hy
   rcases cells x c hx with⟨m1,_,_,g1⟩|⟨m1,g1⟩<;>rcases cells y c hy with⟨m2,_,_,g2⟩|⟨m2,g2⟩
   ·exact name_of_addr own.apart m1 m2
   ·exact absurd (qAh (old y c g2) (qAn (by rw[sz2];exact qFr _ _) g1)) (qBw _)
   ·exact absurd (qAh (old x c g1) (qAn (by rw[sz2];exact qFr _ _) g2)) (qBw _)
   ·exact I.ok.inj x y c g1 g2
  ·intro x hx;have hx:(relabel sc X.env).names.lookup x=some .cell\/(relabel sc X.env).names.lookup x=some .free:=hx;have two:sc.names.lookup x=some .cell\/sc.names.lookup x=some .free:=by
    rcases hx with hx|hx
    ·rcases zB6 (sc:=sc) hx with q|⟨q,_⟩
     ·exact .inl q
     ·exact .inr q
    ·rcases zB6 (sc:=sc) hx with q|⟨_,q⟩
     ·exact .inr q
     ·cases q
   rcases two with q|q
   ·have:=qCu sc.names (s.heap.objs.size+1+1) (clos X.env.cells sc.names []) (.inl q)
    exact qDn.mp this
   ·exact⟨_,zDB S.nd (mem_of_lookup q)⟩
  ·intro x c hx e;have hx:(sc.names.lookup x==some qIa)=true:=hx;have hx':sc.names.lookup x=some .cell:=by simpa using hx
   rcases cells x c e with⟨_,_,_,g⟩|⟨m,_⟩
   ·show s.heap.objs.size<=c
    lia
   ·rw[zBG S.nd m]at hx';cases hx'
  ·intro b hb;refine⟨?_,fun x c e z=>?_⟩
   ·exact qAv (qFf (fpl b hb))
   ·rcases cells x c e with⟨_,_,_,g⟩|⟨_,g⟩
    ·have t1:=asN (fpl b hb);have t2:=asL g;have t3:=asE z
     lia
    ·exact(hf b hb).2.2.2.2.1 x c g z
  ·intro b o e hb
   rcases(hf b hb).2.2.2.1 with z|z
   ·exact I.ok.noex b o e z
   ·exact absurd (qAh (qHs e) (qAn I.ok.bsz z)) (qBw _)
 have ns:(pushCells h2 sc.names).Ns (s.heap.objs.size+1) fun _=>none:=by
  have q:h2.Ns h1.objs.size fun _=>none:=by rw[<- hh2];exact Heap.Ns.new h1 (.type "dict")
  rw[sz1]at q;exact q.keeps k3
 have hD1:h1.get? s.heap.objs.size=some { cls:=.type "list",data:=.seq #[] 0 }:=by rw[<- hh1];exact qHt _ rfl
 refine⟨⟨ok,rfl,I.bare,Un.kept kk,⟨_,ns,?_⟩,?_,hCn,?_,?_,I.hok.kept kk,?_⟩,?_⟩
 ·intro i x v h1 h2 h3;have hi:i<X.N.length:=by
   rw[<- I.len]
   by_cases hi:i<σ.length
   ·exact hi
   ·rw[qAc (by lia),qBc]at h2
    split at h2<;>cases h2
  have h2':σ[i]?=some (some v):=by
   rw[qA8 (by rw[I.len];exact hi)]at h2;exact h2
  have h1:N'[i]?=some x:=h1
  rcases S.old i x h1 hi with⟨m,e⟩|e
  ·obtain⟨mm,hn,hl⟩:=I.loc;have hv:Vis X.env.scope x:=(S.free x m).elim (fun z=>.inr (.inl z)) fun z=>.inr (.inr z)
   obtain⟨u,r,l⟩:=hl i x v e h2' hv;refine⟨u,r,?_⟩
   rcases l with⟨z,_⟩|⟨_,c,hc,hcell⟩
   ·rcases S.free x m with z'|z'<;>rw[z]at z'<;>cases z'
   ·refine .inr ⟨?_,c,?_,hcell.keeps kk⟩
    ·have hv3:(relabel sc X.env).names.lookup x=some .local\/(relabel sc X.env).names.lookup x=some .cell\/(relabel sc X.env).names.lookup x=some .free:=h3
     rcases hv3 with q|q|q
     ·rcases zB6 (sc:=sc) q with q|⟨_,q⟩
      ·rw[zBG S.nd m]at q;cases q
      ·cases q
     ·exact .inl q
     ·exact .inr q
    ·have q:=zDB (X:=X) (C:=s.heap.objs.size+1) S.nd m;rw[hc,qE7]at q;exact q
  ·exfalso
   have hv3:(relabel sc X.env).names.lookup x=some .local\/(relabel sc X.env).names.lookup x=some .cell\/(relabel sc X.env).names.lookup x=some .free:=h3
   rcases hv3 with q|q|q<;>rcases zB6 (sc:=sc) q with q|⟨q,_⟩<;>rw[e]at q<;>cases q
 ·intro x c e
  rcases cells x c e with⟨_,_,g,_⟩|⟨_,g⟩
  ·exact⟨_,g⟩
  ·obtain⟨v,q⟩:=I.cell x c g;exact⟨v,q.keeps kk⟩
 ·intro x c e
  rcases cells x c e with⟨_,_,_,g⟩|⟨_,g⟩
  ·exact I.hok.fresh (by lia)
  ·exact I.freeC x c g
 ·intro p hp;have hp':p=(s.heap.objs.size,{ cls:=.type "list",data:=.seq #[] 0 }):=by
   have:p∈([]++[(s.heap.objs.size,({ cls:=.type "list",data:=.seq #[] 0 }:Obj))]:List (Addr×Obj)):=hp
   simpa using this
  subst hp';refine⟨k3 _ _ (k2 _ _ hD1),hDn,?_,nofs _ (qA6 _),fun v z=>by cases z⟩;show s.heap.objs.size≠s.heap.objs.size+1
  lia
 ·show(σ++qA3 k none).length=N'.length
  rw[qAy,qCy,I.len,S.len]
 ·intro b hb;obtain⟨f0,f1,f2,f3,f4,f5⟩:=hf b hb;refine⟨f0,(ok.exf b hb).1,fin b hb,.inl hb,fun x c e=>(ok.exf b hb).2 x c e,fun p hp=>?_⟩;have hp':p=(s.heap.objs.size,{ cls:=.type "list",data:=.seq #[] 0 }):=by
   have:p∈([]++[(s.heap.objs.size,({ cls:=.type "list",data:=.seq #[] 0 }:Obj))]:List (Addr×Obj)):=hp
   simpa using this
  subst hp';exact qCb (fpl b hb)
end
theorem zD5{prog:qHr}{w:World}{A:qHv}{R:qKt->qHp->Prop}{s:qHp}{elt target iter:Expr}{ifs:List Expr}{scope:Scope}{pos:Pos}{it acc:Value}{env:Env}(I:Nat->qHp->Prop)
  (turn:∀n s,I n s->wpAny (model prog w) A (pyNext it) (fun r s₁=>match r with
   |none=>R (.ok .next) s₁
   |some v=>wpAny (model prog w) A (letOwnedTupleGo target it v) (fun _ s₂'=>wpAny (model prog w) A (assign target env v) (fun _ s₂=>
     wpAny (model prog w) A (forIn ifs true fun c r=>if r=true then do let ok <- isTrue c env (eval c env);pure (qCf ok)else pure (qCf r)) (fun ok s₃=>
      if ok=true then wpAny (model prog w) A (eval elt env) (fun x s₄=>
       wpAny (model prog w) A (call (.builtin "list.append") [acc,x]) (fun _ s₅=>∃m,m<n/\I m s₅) (fun _ _=>False) s₄) (fun _ _=>False) s₃
      else ∃m,m<n/\I m s₃) (fun _ _=>False) s₂) (fun _ _=>False) s₂') (fun _ _=>False) s₁) (fun _ _=>False) s)
  (n:Nat) (h:I n s) :
  qJ4 (model prog w) A (.compLoop (.ListComp elt [⟨target,iter,ifs,0⟩] scope pos) 0 it acc env) R s:=by
 refine codeAny_loop rfl I (fun n s hI=>?_) n h;show wpAny _ A ((compTurn (.ListComp elt [⟨target,iter,ifs,0⟩] scope pos) 0 it acc env).onRaise (fun x=>do noteFrame x env;theTreesLotGoes x)) _ _ s;refine wpAny_noted ?_;rw[compTurn_list];refine wpAny_bind (wpAny_standAt (wpAny_bind (wpAny_mono (turn n s hI) (fun r s₁ h₁=>?_) fun _ _ z=>z.elim)));cases r with
 |none=>exact wpAny_pure h₁
 |some v=>
  refine wpAny_bind (wpAny_mono h₁ (fun _ s₂' h₂'=>?_) fun _ _ z=>z.elim);refine wpAny_bind (wpAny_mono h₂' (fun _ s₂ h₂=>wpAny_bind (wpAny_mono h₂ (fun ok s₃ h₃=>?_) fun _ _ z=>z.elim)) fun _ _ z=>z.elim);cases ok with
  |false=>exact wpAny_pure ⟨rfl,h₃⟩
  |true=>
   exact wpAny_bind (wpAny_bind (wpAny_mono h₃ (fun x s₄ h₄=>wpAny_bind (wpAny_mono h₄ (fun _ s₅ h₅=>wpAny_pure (wpAny_pure ⟨rfl,h₅⟩)) fun _ _ z=>z.elim)) fun _ _ z=>z.elim))
def zUJ(k:Nat)(g:TG)(tif:TT)(te:TE)(σ:St)(Q:VK)(J:It)(H1:Hp):Prop:=∃W:Nat->Nat->List V->Hp->Prop,(∃m,W 0 m [] H1)/\∀i m acc H,W i m acc H ->
 (J.stop i H/\∀D,H D=none->Q (.ref D) (upd H D (.lst acc))) \/
 (J.go i H/\acc.length<sizeLine/\∃N:List V->Hp->Prop,(∀acc' H',N acc' H'->∃m',m'<m/\W (i+1) m' acc' H')/\∀x H',J.yld i H x H'->g x (σ++qA3 k none) H' fun σ2 H2=>∃own:St,own.length=k/\σ2=σ++own/\tif σ2 H2 fun b H3=>if b=true then te σ2 H3 fun v H4=>N (acc++[v]) H4 else N acc H3)
noncomputable def zS5(wi:TI)(k:Nat)(g:TG)(tif:TT)(te:TE):TE:=fun σ H Q=>wi σ H (zUJ k g tif te σ Q)
theorem HOk.track{P:qHr}{w:World}{H:Hp}{h:Heap}{a:Addr}{o:HO}(x:HOk P w H h)(hn:H a=none)(new:ObjOk P w (upd H a o) h a o):HOk P w (upd H a o) h:=fun b u e=>by
 by_cases hb:b=a
 ·subst hb;rw[zAE]at e;cases e;exact new
 ·rw[zAF hb]at e;exact(x b u e).stay (fun c v _ q=>q) (fun c q=>by rw[zAF (zAH q hn)];exact q) (fun c xs q=>by rw[zAF (zAH q hn)];exact q) fun c _ _ q _=>by rw[zAF (zAH q hn)];exact q
section
variable{X:Cx}{N':List Str}{k:Nat}{sc:Scope}{tg iter elt:Expr}{ifs:List Expr}{wi:TI}{g:TG}{tif:TT}{te:TE}{pos:Pos}
theorem zG4{pins:List (Addr×Obj)}{σ:St}{H2:Hp}{s2:qHp}{Q:VK}{RR:Value->Addr->qKt->qHp->Prop}{E:Value->qHp->Prop}(hc:X.calm=true)(S:CompNames X.N N' k sc X.env)
  (hg:∀C s H fp,PG (zC8 X N' sc C s H fp) tg g) (hif:∀C s H fp,PTs (zC8 X N' sc C s H fp) ifs tif) (he:∀C s H fp,PE (zC8 X N' sc C s H fp) elt te)
  {it:Addr} {fp:List Addr} {tn:Nat->Heap->Prop} {J:It} (I2:Inv X pins σ H2 s2) (T:Turn X.prog X.w X.K tg J fp it tn) (st2:tn 0 s2.heap) (f2:∀b∈fp,FpOk X pins H2 b)
  {W:Nat->Nat->List V->Hp->Prop} {m0:Nat} (w0:W 0 m0 [] H2)
  (turn:∀i m acc H,W i m acc H->(J.stop i H/\∀D,H D=none->Q (.ref D) (upd H D (.lst acc))) \/
   (J.go i H/\acc.length<sizeLine/\∃N:List V->Hp->Prop,(∀acc' H',N acc' H'->∃m',m'<m/\W (i+1) m' acc' H')/\∀x H',J.yld i H x H'->g x (σ++qA3 k none) H' fun σ2 H2=>∃own:St,own.length=k/\σ2=σ++own/\tif σ2 H2 fun b H3=>if b=true then te σ2 H3 fun v H4=>N (acc++[v]) H4 else N acc H3))
  (hRR:∀D C s' H',D<C->s2.heap.objs.size<=D->(∃m,s'.heap.Ns C m)->H' C=none->C∉frs X.stack->Inv X pins σ H' s'->Q (.ref D) H'->RR (.ref D) C (.ok .next) s') :
  wpAny (model X.prog X.w) X.A (newList []) (fun acc s₃=>wpAny (model X.prog X.w) X.A (newFunctionEnv sc X.env.globals (clos X.env.cells sc.names []) [] X.env.qual none .none (some X.env)) (fun cenv s₄=>
   qJ4 (model X.prog X.w) X.A (.compStart (.ListComp elt [⟨tg,iter,ifs,0⟩] sc pos) 0 (.ref it) acc { cenv with scope:=relabel sc X.env }) (RR acc cenv.locals) s₄) E s₃) E s2:=by
 refine wpAny_newObj_type (zDH ?_);show qJ4 _ _ (.compStart _ 0 (.ref it) (.ref s2.heap.objs.size) _) _ _;have szp:(s2.heap.push { cls:=.type "list",dict:=none,data:=.seq ([]:List Value).toArray }).objs.size=s2.heap.objs.size+1:=qIg ..;obtain⟨I4,F4⟩:=zQ8 (s4:={ s2 with heap:=pushCells ((s2.heap.push { cls:=.type "list",data:=.seq #[] 0 }).push { cls:=.type "dict",data:=.dict #[] }) sc.names }) I2 hc S f2 (fun b hb=>let⟨o,e,_⟩:=T.obj 0 _ st2 b hb;⟨o,e⟩) rfl rfl rfl
 generalize hC:(s2.heap.push { cls:=.type "list",dict:=none,data:=.seq ([]:List Value).toArray }).objs.size=C at *
 have eC:C=s2.heap.objs.size+1:=szp;rw[<- eC]at I4 F4
 generalize hs4:({ s2 with heap:=pushCells ((s2.heap.push { cls:=.type "list",data:=.seq #[] 0 }).push { cls:=.type "dict",data:=.dict #[] }) sc.names }:qHp)=s4 at I4 F4
 have kk:∀b o,s2.heap.get? b=some o->s4.heap.get? b=some o:=fun b o e=>by
  rw[<- hs4];exact pushCells_keeps sc.names _ b o (qHq _ (qHq _ e))
 have st4:tn 0 s4.heap:=T.keep 0 _ _ st2 fun b _ o e=>kk b o e
 generalize hX':zC8 X N' sc C s2 H2 fp=X' at I4 F4
 have henv:X'.env=zD1 sc C X.env:=by rw[<- hX'];rfl
 have xprog:X'.prog=X.prog:=by rw[<- hX'];rfl
 have xw:X'.w=X.w:=by rw[<- hX'];rfl
 have xK:X'.K=X.K:=by rw[<- hX'];rfl
 have xcalm:X'.calm=true:=by rw[<- hX'];exact hc
 have xA:X'.A=X.A:=by rw[<- hX'];rfl
 have xpn:X'.pn=[]:=by rw[<- hX'];rfl
 have xxe:X'.xe=fun _ _=>False:=by rw[<- hX'];rfl
 have xs0:X'.s₀=s2:=by rw[<- hX'];rfl
 have xH0:X'.H₀=H2:=by rw[<- hX'];rfl
 have xfs:X'.fs=frs X.stack:=by rw[<- hX'];rfl
 have xex:X'.ex=fp:=by rw[<- hX'];rfl
 have hgX:PG X' tg g:=by rw[<- hX'];exact hg C s2 H2 fp
 have hifX:PTs X' ifs tif:=by rw[<- hX'];exact hif C s2 H2 fp
 have heX:PE X' elt te:=by rw[<- hX'];exact he C s2 H2 fp
 have locC:X'.env.locals=C:=by rw[henv];rfl
 generalize hDd:s2.heap.objs.size=D at *
 have loop:qJ4 (model X.prog X.w) X.A (.compLoop (.ListComp elt [⟨tg,iter,ifs,0⟩] sc pos) 0 (.ref it) (.ref D) (zD1 sc C X.env)) (RR (.ref D) C) s4:=by
  refine zD5 (fun n s'=>∃i H' acc its nn,Inv X' [] (σ++qA3 k none) H' s'/\tn i s'.heap/\(∀b∈fp,H' b=none)/\H' D=none/\W i n acc H'/\acc.length<=sizeLine/\Vals acc its/\s'.heap.get? D=some { cls:=.type "list",data:=.seq its.toArray nn }) ?_ m0 ?_
  ·rintro n s5 ⟨i,H5,acc,its,nn,I5,st5,fr5,hD5,w5,hz5,rv5,hL5⟩
   have hDlt:D<C:=by rw[eC];exact qFs _
   have pinD:Inv X' [(D,{ cls:=.type "list",data:=.seq its.toArray nn })] (σ++qA3 k none) H5 s5:=I5.pins_of fun p hp=>by
    have hp':p=(D,{ cls:=.type "list",data:=.seq its.toArray nn }):=by simpa using hp
    subst hp';refine⟨hL5,hD5,?_,?_,fun v z=>by cases z⟩
    ·rw[locC];exact qAv hDlt
    ·have q:=(I4.pin (D,{ cls:=.type "list",data:=.seq #[] 0 }) (by simp)).2.2.2.1;exact q
   have fpD:∀{H':Hp}{oo:Obj},(∀b∈fp,H' b=none)->∀b∈fp,FpOk X' [(D,oo)] H' b:=fun{H' oo} hn b hb=>by
    obtain⟨f0,f1,f2,f3,f4,f5⟩:=F4 b hb;refine⟨hn b hb,f1,f2,f3,f4,fun p hp=>?_⟩;have hp':p=(D,oo):=by
     rw[xpn]at hp
     simpa using hp
    subst hp';exact f5 (D,{ cls:=.type "list",data:=.seq #[] 0 }) (by simp)
   rcases turn i n acc H5 w5 with⟨stop,q⟩|⟨go,hlt,N,hN,step⟩
   ·have dn:=T.done X' xprog xw xK xcalm i _ s5 _ H5 (fun _ _=>False) pinD (fpD fr5) st5 stop;rw[xA]at dn;refine thn dn fun r s6 z0=>?_
    obtain⟨hr,I6⟩:=z0;subst hr;show RR (.ref D) C (.ok .next) s6;have hL6:=(I6.pin (D,{ cls:=.type "list",data:=.seq its.toArray nn }) (by simp)).1;have un6:Un (frs X.stack) fp H2 H5 s2.heap s6.heap:=by
     have:=I6.base
     rw[xs0,xH0,xfs,xex]at this;exact this
    have hok6:HOk X.prog X.w H5 s6.heap:=by
     have:=I6.hok
     rw[xprog,xw]at this;exact this
    have hDno:s2.heap.get? D=none:=qIl (by rw[hDd];exact qA6 _);have un7:Un (frs X.stack) fp H2 (upd H5 D (.lst acc)) s2.heap s6.heap:=
     ⟨un6.keep,un6.slot,fun b o e n hx=>by
       have hb:b≠D:=by rintro rfl;rw[hDno]at e;cases e
       rw[zAF hb];exact un6.free b o e n hx,un6.there,
      fun b xs e=>by
       have e':=un6.tups b xs e;rw[zAF (zAH e' hD5)];exact e',
      fun b o u e=>by
       have e':=un6.frzs b o u e;rw[zAF (zAH e' hD5)];exact e',
      fun b ps e=>by
       obtain⟨more,e'⟩:=un6.tbls b ps e;exact⟨more,by rw[zAF (zAH e' hD5)];exact e'⟩⟩
    have hok7:HOk X.prog X.w (upd H5 D (.lst acc)) s6.heap:=hok6.track hD5 ⟨hz5,its,nn,rv5,hL6⟩;have os6:s6.os=s2.os:=by have:=I6.os;rw[xs0]at this;exact this
    have I7:Inv X pins σ (upd H5 D (.lst acc)) s6:=I2.call' os6 un7 hok7 I6.bare fun b hb=>by
     obtain⟨f0,f1,f2,f3,f4,f5⟩:=f2 b hb;exact⟨f3,f1,f4,f5⟩
    obtain⟨mm,hn,_⟩:=I6.loc;rw[locC]at hn;have hC5:H5 C=none:=by have:=I6.free;rw[locC]at this;exact this
    refine hRR D C s6 (upd H5 D (.lst acc)) hDlt (qA6 _) ⟨mm,hn⟩ ?_ ?_ I7 (q D hD5)
    ·rw[zAF (qCb hDlt)];exact hC5
    ·intro hb
     rcases qAd.mp (I2.stkSub C hb)with e|hb
     ·have t1:=asN I2.lt;have t2:=asE e;rw[hDd]at t1;have t3:=asN hDlt
      lia
     ·exact I2.nofs (by rw[hDd];exact qCo hDlt) hb
   ·have itm:=T.item X' xprog xw xK xcalm i _ s5 _ H5 (fun _ _=>False) pinD (fpD fr5) st5 go;rw[xA]at itm;refine thn itm fun r s6 z0=>?_
    obtain⟨u,hr,h6⟩:=z0;subst hr;refine thn h6 fun _ s7 z0=>?_
    obtain⟨x,H7,I7,r7,y7,st7,fr7⟩:=z0;have I7':Inv X' ([(D,{ cls:=.type "list",data:=.seq its.toArray nn })]++zFT fp s7.heap) (σ++qA3 k none) H7 s7:=I7.pinned (fpD fr7) (T.obj _ _ st7);have asg:=hgX _ s7 _ H7 x u _ I7' r7 (step x H7 y7);rw[xprog,xw,xA,henv,xxe]at asg;refine thn asg fun _ s8 z0=>?_
    obtain⟨σ8,H8,I8,own,hown,hσ8,q8⟩:=z0;have weak:∀{pl:List (Addr×Obj)}{H':Hp}{s':qHp},Inv X' pl σ8 H' s'->Inv X' [] (σ++qA3 k none) H' s':=fun{pl H' s'} J'=>by
     have J0:Inv X' [] σ8 H' s':=J'.pins_of (fun p hp=>by simp at hp);refine J0.weak (by rw[hσ8];simp[hown]) fun j v hj=>?_
     rw[hσ8]
     by_cases hjl:j<σ.length
     ·rw[qA8 hjl]at hj ⊢;exact hj
     ·rw[qAc (by lia),qBc]at hj
      split at hj<;>cases hj
    have tst:=hifX _ s8 σ8 H8 _ I8 q8;rw[xprog,xw,xA,henv,xxe]at tst;refine thn tst fun b s9 z0=>?_
    obtain⟨H9,I9,q9⟩:=z0;have pin9:∀{σ':St}{H':Hp}{s':qHp},Inv X' ([(D,{ cls:=.type "list",data:=.seq its.toArray nn })]++zFT fp s7.heap) σ' H' s' ->
      s'.heap.get? D=some { cls:=.type "list",data:=.seq its.toArray nn }/\H' D=none/\tn (i+1) s'.heap/\(∀b∈fp,H' b=none):=fun{σ' H' s'} J'=>by
     have a1:=J'.pin (D,{ cls:=.type "list",data:=.seq its.toArray nn }) (by simp);refine⟨a1.1,a1.2.1,T.keep _ _ _ st7 fun b hb o e=>(J'.pin (b,o) (qAq _ (qAq _ (zD0 hb e)))).1,fun b hb=>?_⟩;obtain⟨o,e,d⟩:=T.obj _ _ st7 b hb;exact(J'.pin (b,o) (qAq _ (qAq _ (zD0 hb e)))).2.1
    cases b with
    |false=>
     rw[if_neg qAa];rw[if_neg qAa]at q9;obtain⟨m',hm,w9⟩:=hN _ _ q9;obtain⟨p1,p2,p3,p4⟩:=pin9 I9;exact⟨m',hm,i+1,H9,acc,its,nn,weak I9,p3,p4,p2,w9,hz5,rv5,p1⟩
    |true=>
     rw[if_pos rfl];rw[if_pos rfl]at q9;have ev:=heX _ s9 σ8 H9 _ I9 q9;rw[xprog,xw,xA,henv,xxe]at ev;refine thn ev fun y s10 z0=>?_
     obtain⟨v,H10,I10,r10,n10⟩:=z0;obtain⟨m',hm,w10⟩:=hN _ _ n10;obtain⟨p1,p2,p3,p4⟩:=pin9 I10;have hlen:its.length=acc.length:=rv5.length.symm;refine wpAny_list_append_plain (items:=its.toArray) ⟨nn,p1⟩ (fun h' hl' hs'=>?_) (by simp only[qAg];lia);have hDfp:D∉fp:=fun hb=>(F4 D hb).2.2.2.2.2 (D,{ cls:=.type "list",data:=.seq #[] 0 }) (by simp) rfl
     have I11:Inv X' [] (σ++qA3 k none) H10 { s10 with heap:=h' }:=by
      have J0:Inv X' [] (σ++qA3 k none) H10 s10:=weak I10;refine J0.turned (t':=s10.toks) (it:=D) (fun b o hb e=>(hs'.2 b hb).trans e) p2 ?_ (.inr ?_) (fun x c e z=>?_) (fun p hp=>?_)
      ·rw[locC];exact qAv hDlt
      ·rw[xs0,hDd];exact qA6 _
      ·obtain⟨v',q⟩:=J0.cell x c e;obtain⟨o,ho,hd⟩:=q;rw[z,p1]at ho;cases ho;cases hd
      ·rw[xpn]at hp;simp at hp
     obtain⟨n',hk⟩:=hl';have hk':h'.get? D=some { cls:=.type "list",data:=.seq (its++[y]).toArray n' }:=by rw[hk];simp
     refine⟨m',hm,i+1,H10,acc++[v],its++[y],n',I11,T.keep _ _ _ p3 fun b hb o e=>(hs'.2 b (fun z=>hDfp (z▸hb))).trans e,p4,p2,w10,?_,rv5.append (.cons r10 .nil),hk'⟩;rw[qAy,qEg]
     lia
  ·refine⟨0,H2,[],[],0,I4.pins_of (fun p hp=>by simp at hp),st4,fun b hb=>(f2 b hb).1,I2.hok.fresh (by rw[hDd];exact qA6 _),w0,qAt _,.nil,?_⟩;exact(I4.pin (D,{ cls:=.type "list",data:=.seq #[] 0 }) (by simp)).1
 exact codeAny_compStart_list loop (T.self _ 0 _ _ _ st4 loop)
theorem zIZ(hc:X.calm=true)(S:CompNames X.N N' k sc X.env)(hi:PI X tg iter wi)
  (hg:∀C s H fp,PG (zC8 X N' sc C s H fp) tg g) (hif:∀C s H fp,PTs (zC8 X N' sc C s H fp) ifs tif) (he:∀C s H fp,PE (zC8 X N' sc C s H fp) elt te)
  (hs:∀x,qIz iter X.env x=pure x:=by intro _;rfl):PE X (.ListComp elt [⟨tg,iter,ifs,0⟩] sc pos) (zS5 wi k g tif te):=by
 intro pins s σ H Q I h;rw[eval_ListComp];have hfree:∀x,(x,qHz)∈sc.names->∃c,X.env.cells.lookup x=some c:=fun x hx=>I.ok.has x (S.free x hx)
 refine wpAny_comprehension_free (use:=none) rfl hs (zDU hfree) S.kind (fun x hx hl=>?_) ?_
 ·obtain⟨n,kd⟩:=x;dsimp only at hl ⊢;subst hl;exact zBG S.nd hx
 ·refine thn (hi pins s σ H _ I h) fun v s1 h1=>thn h1 fun itv s2 h2=>?_
  obtain⟨it,fp,tn,J,H2,e,I2,T,st2,f2,W,⟨m0,w0⟩,turn⟩:=h2;subst e;refine zG4 (RR:=fun acc C=>compPost (model X.prog X.w) X.A X.xe none (EP X pins σ Q) acc C) hc S hg hif he I2 T st2 f2 w0 turn ?_;intro D C s' H' hDC hD hn hCn hCf I' q;obtain⟨m,hn⟩:=hn;refine⟨m,hn,fun h' hs'=>⟨.ref D,H',?_,rfl,q⟩⟩;have hCb:s2.heap.objs.size<=C:=qCo (qDd hD hDC);refine I'.turned (t':=s'.toks) (it:=C) (fun b o hb e=>(hs'.2 b hb).trans e) hCn ?_ (.inr (qAn I2.sz hCb)) (fun x c e z=>?_) (fun p hp z=>?_)
  ·exact qCb (qAh I2.lt hCb)
  ·obtain⟨v,q⟩:=I2.cell x c e;exact absurd z (qAv (qAh q.lt hCb))
  ·exact absurd z (qAv (qAh (qHs (I2.pin p hp).1) hCb))
theorem zLD{i:Nat}{x:Str}{pos' spos:Pos}(hN:X.N.Nodup)(hi':X.N[i]?=some x)(hx:Loc X.env.scope x)(hc:X.calm=true)(S:CompNames X.N N' k sc X.env)(hi:PI X tg iter wi)
  (hg:∀C s H fp,PG (zC8 X N' sc C s H fp) tg g) (hif:∀C s H fp,PTs (zC8 X N' sc C s H fp) ifs tif) (he:∀C s H fp,PE (zC8 X N' sc C s H fp) elt te)
  (hsw:qKs (.ListComp elt [⟨tg,iter,ifs,0⟩] sc pos) (some (.Name x pos')) spos.line X.env=pure true:=by rfl)
  (hs:∀x,qIz iter X.env x=pure x:=by intro _;rfl) (hf:X.fn x=true\/X.env.scope.names.lookup x=some .local:=by first|exact .inl rfl|exact .inr rfl|assumption) :
  PS X (.Assign [.Name x pos'] (.ListComp elt [⟨tg,iter,ifs,0⟩] sc pos) spos) (tAsg (zS5 wi k g tif te) (zE2 i)):=by
 intro pins s σ H Dn I h;rw[exec_Assign_Name_used _ _ _ _ hsw];refine wpAny_bind (wpAny_standAt (wpAny_bind ?_));show wpAny _ X.A (do let _ <- comprehension (.ListComp elt [⟨tg,iter,ifs,0⟩] sc pos) sc X.env _ (newList []) false (eval iter X.env) (some (assign (.Name x pos') X.env))) _ _ s;have hfree:∀x,(x,qHz)∈sc.names->∃c,X.env.cells.lookup x=some c:=fun x hx=>I.ok.has x (S.free x hx)
 refine wpAny_bind (wpAny_mono (wpAny_comprehension_free (use:=some (assign (.Name x pos') X.env)) (Q:=fun _ s'=>SP X pins Dn .next s') rfl hs (zDU hfree) S.kind (fun x hx hl=>?_) ?_)
  (fun _ s' hq=>wpAny_pure (wpAny_pure hq)) fun _ _ e=>e)
 ·obtain⟨n,kd⟩:=x;dsimp only at hl ⊢;subst hl;exact zBG S.nd hx
 ·refine thn (hi pins s σ H _ I h) fun v s1 h1=>thn h1 fun itv s2 h2=>?_
  obtain⟨it,fp,tn,J,H2,e,I2,T,st2,f2,W,⟨m0,w0⟩,turn⟩:=h2;subst e;refine zG4 (Q:=fun v H'=>zE2 i v σ H' Dn.nx) (RR:=fun acc C=>compPost (model X.prog X.w) X.A X.xe (some (assign (.Name x pos') X.env)) (fun _ s'=>SP X pins Dn .next s') acc C) hc S hg hif he I2 T st2 f2 w0 turn ?_;intro D C s' H' hDC hD hn hCn hCf I' q;obtain⟨m,hn⟩:=hn;show wpAny _ _ (assign (.Name x pos') X.env (.ref D)) _ _ _;have hCb:s2.heap.objs.size<=C:=qCo (qDd hD hDC);have hCL:C≠X.env.locals:=qCb (qAh I2.lt hCb);have hCc:∀x c,X.env.cells.lookup x=some c->c≠C:=fun x c e z=>by
   obtain⟨v,q⟩:=I2.cell x c e;exact absurd z (qAv (qAh q.lt hCb))
  refine qKv (zHF (v:=.ref D) I' hN hi' hx rfl (fun s'' I'' ⟨a,sb,ha⟩=>?_) hf);have hCa:C≠a:=by
   rcases ha with e|e
   ·rw[e];exact hCL
   ·exact fun z=>hCc x a e z.symm
  refine⟨m,hn.sameBut sb hCa,fun h' hs'=>⟨_,H',?_,q⟩⟩;refine I''.turned (t':=s''.toks) (it:=C) (fun b o hb e=>(hs'.2 b hb).trans e) hCn hCL (.inr (qAn I2.sz hCb)) hCc (fun p hp z=>?_);exact absurd z (qAv (qAh (qHs (I2.pin p hp).1) hCb))
def zPA(g:TG)(tb:TS)(D:Ends)(σ:St)(J:It)(H1:Hp):Prop:=∃W:Nat->Nat->St->Hp->Prop,(∃m,W 0 m σ H1)/\∀i m σ H,W i m σ H ->
 (J.stop i H/\D.nx σ H)\/(J.go i H/\∃N:St->Hp->Prop,(∀σ' H',N σ' H'->∃m',m'<m/\W (i+1) m' σ' H')/\∀x H',J.yld i H x H'->g x σ H' fun σ2 H2=>tb { D with nx:=N,ct:=N,bk:=D.nx } σ2 H2)
theorem zC9{body:List Stmt}{tb:TS}(hp:qLa (model X.prog X.w) X.A X.env X.xe)(hc:X.calm=true)(hi:PI X tg iter wi)(hg:PG X tg g)(hb:PSs X body tb)
  (hs:∀x,qIz iter X.env x=pure x:=by intro _;rfl):PS X (.For tg iter body [] pos) (fun D σ H=>wi σ H (zPA g tb D σ)):=zVJ hp hc hi hg hb hs
end
inductive Dat where
 |non|bl (b:Bool)|int (i:Int)|str (x:Str)|lst (xs:List Dat)|tup (xs:List Dat)
mutual
def Dat.dep:Dat->Nat
 |.lst xs=>Dat.depL xs+1
 |.tup xs=>Dat.depL xs+1
 |_=>0
def Dat.depL:List Dat->Nat
 |[]=>0
 |x::r=>max x.dep (Dat.depL r)
end
mutual
def Dat.eq:Dat->Dat->Bool
 |.non,.non=>true
 |.bl a,.bl b=>a==b
 |.bl a,.int b=>(if a then 1 else 0)==b
 |.int a,.bl b=>a==(if b then 1 else 0)
 |.int a,.int b=>a==b
 |.str a,.str b=>a==b
 |.lst xs,.lst ys=>Dat.eqL xs ys
 |.tup xs,.tup ys=>Dat.eqL xs ys
 |_,_=>false
def Dat.eqL:List Dat->List Dat->Bool
 |[],[]=>true
 |x::r,y::q=>Dat.eq x y&&Dat.eqL r q
 |_,_=>false
end
mutual
def Rep(H:Hp):Dat->V->Prop
 |.non,v=>v=.non
 |.bl b,v=>v=.bl b
 |.int i,v=>v=.int i
 |.str x,v=>v=.str x
 |.lst ds,v=>∃a xs,v=.ref a/\H a=some (.lst xs)/\RepL H ds xs
 |.tup ds,v=>∃a xs,v=.ref a/\H a=some (.tup xs)/\RepL H ds xs
def RepL(H:Hp):List Dat->List V->Prop
 |[],xs=>xs=[]
 |d::r,xs=>∃x q,xs=x::q/\Rep H d x/\RepL H r q
end
mutual
theorem Rep.mono{H H':Hp}(s:Same H H'):∀{d:Dat}{v:V},Rep H d v->Rep H' d v
 |.non,_,h=>h
 |.bl _,_,h=>h
 |.int _,_,h=>h
 |.str _,_,h=>h
 |.lst _,_,h=>by obtain⟨a,xs,e,e',r⟩:=h;exact⟨a,xs,e,s _ _ e',RepL.mono s r⟩
 |.tup _,_,h=>by obtain⟨a,xs,e,e',r⟩:=h;exact⟨a,xs,e,s _ _ e',RepL.mono s r⟩
theorem RepL.mono{H H':Hp}(s:Same H H'):∀{ds:List Dat}{xs:List V},RepL H ds xs->RepL H' ds xs
 |[],_,h=>h
 |_::_,_,h=>by obtain⟨x,q,e,r,t⟩:=h;exact⟨x,q,e,Rep.mono s r,RepL.mono s t⟩
end
mutual
theorem Rep.inj{H:Hp}:∀{d e:Dat}{v:V},Rep H d v->Rep H e v->d=e
 |.non,e,v,h,h'=>by cases h;cases e<;>first|rfl|(cases h';done)|(obtain⟨a,xs,z,_⟩:=h';cases z)
 |.bl b,e,v,h,h'=>by cases h;cases e<;>first|(cases h';rfl)|(cases h';done)|(obtain⟨a,xs,z,_⟩:=h';cases z)
 |.int b,e,v,h,h'=>by cases h;cases e<;>first|(cases h';rfl)|(cases h';done)|(obtain⟨a,xs,z,_⟩:=h';cases z)
 |.str b,e,v,h,h'=>by cases h;cases e<;>first|(cases h';rfl)|(cases h';done)|(obtain⟨a,xs,z,_⟩:=h';cases z)
 |.lst ds,e,v,h,h'=>by
  obtain⟨a,xs,rfl,ha,q⟩:=h;cases e with
  |lst es=>
   obtain⟨b,ys,z,hb,q'⟩:=h';cases z;rw[ha]at hb;cases hb;rw[RepL.inj q q']
  |tup es=>
   obtain⟨b,ys,z,hb,q'⟩:=h';cases z;rw[ha]at hb;cases hb
  |_=>cases h'
 |.tup ds,e,v,h,h'=>by
  obtain⟨a,xs,rfl,ha,q⟩:=h;cases e with
  |tup es=>
   obtain⟨b,ys,z,hb,q'⟩:=h';cases z;rw[ha]at hb;cases hb;rw[RepL.inj q q']
  |lst es=>
   obtain⟨b,ys,z,hb,q'⟩:=h';cases z;rw[ha]at hb;cases hb
  |_=>cases h'
theorem RepL.inj{H:Hp}:∀{ds es:List Dat}{xs:List V},RepL H ds xs->RepL H es xs->ds=es
 |[],[],_,_,_=>rfl
 |[],_::_,_,h,h'=>by cases h;obtain⟨x,q,e,_⟩:=h';cases e
 |_::_,[],_,h,h'=>by cases h';obtain⟨x,q,e,_⟩:=h;cases e
 |d::r,e::t,_,h,h'=>by
  obtain⟨x,q,rfl,r1,t1⟩:=h;obtain⟨x',q',z,r2,t2⟩:=h';cases z;rw[Rep.inj r1 r2,RepL.inj t1 t2]
end
mutual
theorem Dat.eq_refl:∀d:Dat,Dat.eq d d=true
 |.non=>by simp[Dat.eq]
 |.bl _=>by simp[Dat.eq]
 |.int _=>by simp[Dat.eq]
 |.str _=>by simp[Dat.eq]
 |.lst xs=>by rw[Dat.eq];exact Dat.eqL_refl xs
 |.tup xs=>by rw[Dat.eq];exact Dat.eqL_refl xs
theorem Dat.eqL_refl:∀ds:List Dat,Dat.eqL ds ds=true
 |[]=>by simp[Dat.eqL]
 |d::r=>by rw[Dat.eqL,Dat.eq_refl d,Dat.eqL_refl r];rfl
end
theorem RepL.length{H:Hp}:∀{ds:List Dat}{xs:List V},RepL H ds xs->xs.length=ds.length
 |[],_,h=>by cases h;rfl
 |_::_,_,h=>by obtain⟨x,q,e,r,t⟩:=h;subst e;simp[RepL.length t]
theorem Dat.eqL_len:∀{xs ys:List Dat},xs.length≠ys.length->Dat.eqL xs ys=false
 |[],[],h=>absurd rfl h
 |[],_::_,_=>by simp[Dat.eqL]
 |_::_,[],_=>by simp[Dat.eqL]
 |x::r,y::q,h=>by
  rw[Dat.eqL,Dat.eqL_len (fun e=>h (by simp[e])),qCx]
theorem Dat.eqL_all:∀{xs ys:List Dat},xs.length=ys.length->∀(e:Nat->Bool),(∀j (h1:j<xs.length) (h2:j<ys.length),e j=Dat.eq xs[j] ys[j])->(qA7 xs.length).all e=Dat.eqL xs ys
 |[],[],_,_,_=>by simp[Dat.eqL]
 |[],_::_,h,_,_=>by simp at h
 |_::_,[],h,_,_=>by simp at h
 |x::r,y::q,h,e,he=>by
  have hl:r.length=q.length:=by simpa using h
  rw[qB1,List.range_succ_eq_map,qH3,Dat.eqL,he 0 (by simp) (by simp)]
  have:=Dat.eqL_all (xs:=r) (ys:=q) hl (fun j=>e (j+1)) (fun j h1 h2=>by
   rw[he (j+1) (by simpa using h1) (by simpa using h2)];simp)
  rw[<- this,List.all_map];rfl
theorem RepL.get{H:Hp}:∀{ds:List Dat}{xs:List V}{i:Nat}{x:V},RepL H ds xs->xs[i]?=some x->∃d,ds[i]?=some d/\Rep H d x
 |[],_,_,_,h,e=>by cases h;simp at e
 |d::_,_,0,_,h,e=>by obtain⟨x,q,e1,r,t⟩:=h;subst e1;simp at e;subst e;exact⟨d,rfl,r⟩
 |_::_,_,i+1,_,h,e=>by
  obtain⟨x,q,e1,r,t⟩:=h;subst e1;obtain⟨d',h1,h2⟩:=RepL.get (i:=i) t (by simpa using e);exact⟨d',by simpa using h1,h2⟩
theorem Dat.depL_mem{d:Dat}:∀{ds:List Dat},d∈ds->d.dep<=Dat.depL ds
 |_::_,h=>by
  rw[Dat.depL]
  rcases qAd.mp h with rfl|h
  ·exact Nat.le_max_left _ _
  ·exact qAn (Dat.depL_mem h) (Nat.le_max_right _ _)
section
variable{P:qHr}{w:World}{H:Hp}
theorem zCT(A:qHv):A.in1.units=A.units+1:=rfl
theorem zAR{s:qHp}{a:Addr}{xs:List V}(ok:HOk P w H s.heap)(h:H a=some (.lst xs)):∃its:List Value,Vals xs its/\s.heap.IsList a its.toArray:=by
 obtain⟨_,its,n,r,e⟩:=ok a _ h;exact⟨its,r,⟨_,e,rfl,n,rfl⟩⟩
theorem zB0{s:qHp}{a:Addr}{xs:List V}(ok:HOk P w H s.heap)(h:H a=some (.tup xs)):∃its:List Value,Vals xs its/\s.heap.IsTuple a its.toArray:=by
 obtain⟨_,its,r,e⟩:=ok a _ h;exact⟨its,r,e⟩
theorem Rep.flat{d:Dat}{v:V}(h:Rep H d v)(hf:d.dep=0):zTL v=true:=by
 cases d with
 |non=>cases h;rfl
 |bl _=>cases h;rfl
 |int _=>cases h;rfl
 |str _=>cases h;rfl
 |lst _=>simp[Dat.dep]at hf
 |tup _=>simp[Dat.dep]at hf
theorem Rep.flatEq{d e:Dat}{v u:V}(h:Rep H d v)(h':Rep H e u)(hf:d.dep=0)(hf':e.dep=0):eqV v u=Dat.eq d e:=by
 cases d<;>cases e<;>first
  |(simp[Dat.dep]at hf;done)
  |(simp[Dat.dep]at hf';done)
  |(cases h;cases h';simp[eqV,Dat.eq];done)
theorem zQH:∀(n:Nat){d e:Dat}{v u:V}{x y:Value}{A:qHv}{s:qHp},d.dep<=n->HOk P w H s.heap->Rep H d v->Rep H e u->RelV v x->RelV u y->A.units+n<cLine->qJt A s x y (Dat.eq d e):=by
 intro n
 induction n with
 |zero=>
  intro d e v u x y A s hd ok h1 h2 r1 r2 hu;have f1:=h1.flat (by lia)
  by_cases he:e.dep=0
  ·have f2:=h2.flat he
   have:=zWS (A:=A) (s:=s) r1 r2 f1 f2
   rw[h1.flatEq h2 (by lia) he]at this;exact this
  ·have hu':A.units<cLine:=by lia
   cases e with
   |lst ys=>
    obtain⟨a,xs,rfl,ha,_⟩:=h2;obtain⟨its,_,hl⟩:=zAR ok ha;cases r2;cases d with
    |non=>cases h1;cases r1;exact SeqAt.EqAt.none_list hl hu'
    |bl b=>cases h1;cases r1;exact SeqAt.EqAt.bool_list b hl hu'
    |int i=>cases h1;obtain⟨t,rfl⟩:=r1;exact SeqAt.EqAt.int_list i t hl hu'
    |str z=>cases h1;obtain⟨t,rfl⟩:=r1;exact SeqAt.EqAt.str_list z t hl hu'
    |lst _=>simp[Dat.dep]at hd
    |tup _=>simp[Dat.dep]at hd
   |tup ys=>
    obtain⟨a,xs,rfl,ha,_⟩:=h2;obtain⟨its,_,hl⟩:=zB0 ok ha;cases r2;cases d with
    |non=>cases h1;cases r1;exact SeqAt.EqAt.none_tuple hl hu'
    |bl b=>cases h1;cases r1;exact SeqAt.EqAt.bool_tuple b hl hu'
    |int i=>cases h1;obtain⟨t,rfl⟩:=r1;exact SeqAt.EqAt.int_tuple i t hl hu'
    |str z=>cases h1;obtain⟨t,rfl⟩:=r1;exact SeqAt.EqAt.str_tuple z t hl hu'
    |lst _=>simp[Dat.dep]at hd
    |tup _=>simp[Dat.dep]at hd
   |_=>simp[Dat.dep]at he
 |succ n ih=>
  intro d e v u x y A s hd ok h1 h2 r1 r2 hu
  by_cases hd0:d.dep<=n
  ·exact ih hd0 ok h1 h2 r1 r2 (by lia)
  have hu':A.units<cLine:=by lia
  have pairs:∀{ds es:List Dat}{xs ys:List V}{its its2:List Value},Dat.depL ds<=n->RepL H ds xs->RepL H es ys->Vals xs its->Vals ys its2->∀j (h1:j<its.toArray.size) (h2:j<its2.toArray.size),
    qJt A.in1 s its.toArray[j] its2.toArray[j] (Dat.eq (ds.getD j .non) (es.getD j .non)):=by
   intro ds es xs ys its its2 hdl q1 q2 v1 v2 j j1 j2;have l1:j<xs.length:=by have:=v1.length;simp at j1;lia
   have l2:j<ys.length:=by have:=v2.length;simp at j2;lia
   obtain⟨d',e1,p1⟩:=q1.get (i:=j) (x:=xs[j]) (by simp[l1]);obtain⟨e',e2,p2⟩:=q2.get (i:=j) (x:=ys[j]) (by simp[l2]);obtain⟨w1,g1,z1⟩:=v1.get (i:=j) (x:=xs[j]) (by simp[l1]);obtain⟨w2,g2,z2⟩:=v2.get (i:=j) (x:=ys[j]) (by simp[l2]);have k1:its.toArray[j]=w1:=by
    obtain⟨_,k⟩:=qA4.mp g1
    simpa using k
   have k2:its2.toArray[j]=w2:=by
    obtain⟨_,k⟩:=qA4.mp g2
    simpa using k
   rw[k1,k2,qA0,qA0,e1,e2];exact ih (qAn (Dat.depL_mem (qAw e1)) hdl) ok p1 p2 z1 z2 (by rw[zCT];lia)
  cases d with
  |lst ds=>
   have hdl:Dat.depL ds<=n:=by rw[Dat.dep]at hd;lia
   obtain⟨a,xs,rfl,ha,q1⟩:=h1;obtain⟨its,v1,hl1⟩:=zAR ok ha;cases r1;cases e with
   |non=>cases h2;cases r2;exact SeqAt.EqAt.list_none hl1 hu'
   |bl b=>cases h2;cases r2;exact SeqAt.EqAt.list_bool b hl1 hu'
   |int i=>cases h2;obtain⟨t,rfl⟩:=r2;exact SeqAt.EqAt.list_int i t hl1 hu'
   |str z=>cases h2;obtain⟨t,rfl⟩:=r2;exact SeqAt.EqAt.list_str z t hl1 hu'
   |tup es=>
    obtain⟨b,ys,rfl,hb,q2⟩:=h2;obtain⟨its2,v2,hl2⟩:=zB0 ok hb;cases r2;exact qIw (zLH ha hb (fun z=>nomatch z)) (qK5 hl1 hl2 hu')
   |lst es=>
    obtain⟨b,ys,rfl,hb,q2⟩:=h2;obtain⟨its2,v2,hl2⟩:=zAR ok hb;cases r2;have len1:its.toArray.size=ds.length:=by have:=v1.length;have:=q1.length;simp;lia
    have len2:its2.toArray.size=es.length:=by have:=v2.length;have:=q2.length;simp;lia
    show qJt A s (.ref a) (.ref b) (Dat.eqL ds es)
    by_cases hne:a=b
    ·
     subst hne;rw[ha]at hb;cases hb;have same:Dat.eqL ds es=true:=by
      rw[RepL.inj q1 q2];exact Dat.eqL_refl _
     rw[same];exact qJc _
    ·refine qIw hne ?_
     by_cases hs:ds.length=es.length
     ·have:=qL7 (A:=A) (s:=s) hl1 hl2 (by rw[len1,len2,hs]) hu' (pairs hdl q1 q2 v1 v2)
      rw[len1,Dat.eqL_all hs _ (fun j h1 h2=>by rw[qA0,qA0];simp[h1,h2])]at this;exact this
     ·rw[Dat.eqL_len hs];exact qJu hl1 hl2 (by rw[len1,len2];simpa using hs) hu'
  |tup ds=>
   have hdl:Dat.depL ds<=n:=by rw[Dat.dep]at hd;lia
   obtain⟨a,xs,rfl,ha,q1⟩:=h1;obtain⟨its,v1,hl1⟩:=zB0 ok ha;cases r1;cases e with
   |non=>cases h2;cases r2;exact SeqAt.EqAt.tuple_none hl1 hu'
   |bl b=>cases h2;cases r2;exact SeqAt.EqAt.tuple_bool b hl1 hu'
   |int i=>cases h2;obtain⟨t,rfl⟩:=r2;exact SeqAt.EqAt.tuple_int i t hl1 hu'
   |str z=>cases h2;obtain⟨t,rfl⟩:=r2;exact SeqAt.EqAt.tuple_str z t hl1 hu'
   |lst es=>
    obtain⟨b,ys,rfl,hb,q2⟩:=h2;obtain⟨its2,v2,hl2⟩:=zAR ok hb;cases r2;exact qIw (zLH ha hb (fun z=>nomatch z)) (qK6 hl1 hl2 hu')
   |tup es=>
    obtain⟨b,ys,rfl,hb,q2⟩:=h2;obtain⟨its2,v2,hl2⟩:=zB0 ok hb;cases r2;have len1:its.toArray.size=ds.length:=by have:=v1.length;have:=q1.length;simp;lia
    have len2:its2.toArray.size=es.length:=by have:=v2.length;have:=q2.length;simp;lia
    show qJt A s (.ref a) (.ref b) (Dat.eqL ds es)
    by_cases hne:a=b
    ·subst hne;rw[ha]at hb;cases hb;have same:Dat.eqL ds es=true:=by
      rw[RepL.inj q1 q2];exact Dat.eqL_refl _
     rw[same];exact qJc _
    ·refine qIw hne ?_
     have:=qL0 (A:=A) (s:=s) hl1 hl2 hu' (pairs hdl q1 q2 v1 v2)
     by_cases hs:ds.length=es.length
     ·rw[len1,len2,<- hs,qFl,beq_self_eq_true,qDz,Dat.eqL_all hs _ (fun j h1 h2=>by rw[qA0,qA0];simp[h1,h2])]at this;exact this
     ·rw[len1,len2,show(ds.length==es.length)=false by simpa using hs,qCx]at this;rw[Dat.eqL_len hs];exact this
  |_=>simp[Dat.dep]at hd0
theorem zEL{n:Nat}{A:qHv}{s:qHp}(ok:HOk P w H s.heap){ds es:List Dat}{xs ys:List V}{its its2:List Value}(hdl:Dat.depL ds<=n)(hu:A.units+n<cLine)(q1:RepL H ds xs)(q2:RepL H es ys)(v1:Vals xs its)(v2:Vals ys its2) :
  ∀j (h1:j<its.toArray.size) (h2:j<its2.toArray.size),qJt A s its.toArray[j] its2.toArray[j] (Dat.eq (ds.getD j .non) (es.getD j .non)):=by
 intro j j1 j2;have l1:j<xs.length:=by have:=v1.length;simp at j1;lia
 have l2:j<ys.length:=by have:=v2.length;simp at j2;lia
 obtain⟨d',e1,p1⟩:=q1.get (i:=j) (x:=xs[j]) (by simp[l1]);obtain⟨e',e2,p2⟩:=q2.get (i:=j) (x:=ys[j]) (by simp[l2]);obtain⟨w1,g1,z1⟩:=v1.get (i:=j) (x:=xs[j]) (by simp[l1]);obtain⟨w2,g2,z2⟩:=v2.get (i:=j) (x:=ys[j]) (by simp[l2]);have k1:its.toArray[j]=w1:=by
  obtain⟨_,k⟩:=qA4.mp g1
  simpa using k
 have k2:its2.toArray[j]=w2:=by
  obtain⟨_,k⟩:=qA4.mp g2
  simpa using k
 rw[k1,k2,qA0,qA0,e1,e2];exact zQH n (qAn (Dat.depL_mem (qAw e1)) hdl) ok p1 p2 z1 z2 hu
theorem zPJ(n:Nat){d e:Dat}{v u:V}{x y:Value}{A:qHv}{s:qHp}(hd:d.dep<=n)(ok:HOk P w H s.heap)(h1:Rep H d v)(h2:Rep H e u)(r1:RelV v x)(r2:RelV u y)(hu:A.units+n<cLine):qLo A s x y (Dat.eq d e):=by
 have hu':A.units<cLine:=by lia
 cases d with
 |non=>
  cases h1;cases r1;cases e with
  |non=>
   cases h2;cases r2;exact SeqAt.RcAt.none_none
  |bl b=>
   cases h2;cases r2;exact SeqAt.RcAt.none_bool b
  |int b=>
   cases h2;obtain⟨t2,rfl⟩:=r2;exact SeqAt.RcAt.none_int b t2
  |str b=>
   cases h2;obtain⟨t2,rfl⟩:=r2;exact SeqAt.RcAt.none_str b t2
  |lst es=>
   obtain⟨p2,ys,rfl,hb,q2⟩:=h2;obtain⟨its2,v2,hl2⟩:=zAR ok hb;cases r2;exact SeqAt.RcAt.none_list hl2 hu'
  |tup es=>
   obtain⟨p2,ys,rfl,hb,q2⟩:=h2;obtain⟨its2,v2,hl2⟩:=zB0 ok hb;cases r2;exact SeqAt.RcAt.none_tuple hl2 hu'
 |bl a=>
  cases h1;cases r1;cases e with
  |non=>
   cases h2;cases r2;exact SeqAt.RcAt.bool_none a
  |bl b=>
   cases h2;cases r2;exact SeqAt.RcAt.bool_bool a b
  |int b=>
   cases h2;obtain⟨t2,rfl⟩:=r2;exact SeqAt.RcAt.bool_int a b t2
  |str b=>
   cases h2;obtain⟨t2,rfl⟩:=r2;exact SeqAt.RcAt.bool_str a b t2
  |lst es=>
   obtain⟨p2,ys,rfl,hb,q2⟩:=h2;obtain⟨its2,v2,hl2⟩:=zAR ok hb;cases r2;exact SeqAt.RcAt.bool_list a hl2 hu'
  |tup es=>
   obtain⟨p2,ys,rfl,hb,q2⟩:=h2;obtain⟨its2,v2,hl2⟩:=zB0 ok hb;cases r2;exact SeqAt.RcAt.bool_tuple a hl2 hu'
 |int a=>
  cases h1;obtain⟨t1,rfl⟩:=r1;cases e with
  |non=>
   cases h2;cases r2;exact SeqAt.RcAt.int_none a t1
  |bl b=>
   cases h2;cases r2;exact SeqAt.RcAt.int_bool a t1 b
  |int b=>
   cases h2;obtain⟨t2,rfl⟩:=r2;exact SeqAt.RcAt.int_int a t1 b t2
  |str b=>
   cases h2;obtain⟨t2,rfl⟩:=r2;exact SeqAt.RcAt.int_str a t1 b t2
  |lst es=>
   obtain⟨p2,ys,rfl,hb,q2⟩:=h2;obtain⟨its2,v2,hl2⟩:=zAR ok hb;cases r2;exact SeqAt.RcAt.int_list a t1 hl2 hu'
  |tup es=>
   obtain⟨p2,ys,rfl,hb,q2⟩:=h2;obtain⟨its2,v2,hl2⟩:=zB0 ok hb;cases r2;exact SeqAt.RcAt.int_tuple a t1 hl2 hu'
 |str a=>
  cases h1;obtain⟨t1,rfl⟩:=r1;cases e with
  |non=>
   cases h2;cases r2;exact SeqAt.RcAt.str_none a t1
  |bl b=>
   cases h2;cases r2;exact SeqAt.RcAt.str_bool a t1 b
  |int b=>
   cases h2;obtain⟨t2,rfl⟩:=r2;exact SeqAt.RcAt.str_int a t1 b t2
  |str b=>
   cases h2;obtain⟨t2,rfl⟩:=r2;exact SeqAt.RcAt.str_str a t1 b t2
  |lst es=>
   obtain⟨p2,ys,rfl,hb,q2⟩:=h2;obtain⟨its2,v2,hl2⟩:=zAR ok hb;cases r2;exact SeqAt.RcAt.str_list a t1 hl2 hu'
  |tup es=>
   obtain⟨p2,ys,rfl,hb,q2⟩:=h2;obtain⟨its2,v2,hl2⟩:=zB0 ok hb;cases r2;exact SeqAt.RcAt.str_tuple a t1 hl2 hu'
 |lst ds=>
  have hdl:Dat.depL ds+1<=n:=by rw[Dat.dep]at hd;exact hd
  obtain⟨p,xs,rfl,ha,q1⟩:=h1;obtain⟨its,v1,hl1⟩:=zAR ok ha;cases r1;cases e with
  |non=>
   cases h2;cases r2;exact SeqAt.RcAt.list_none hl1 hu'
  |bl b=>
   cases h2;cases r2;exact SeqAt.RcAt.list_bool b hl1 hu'
  |int b=>
   cases h2;obtain⟨t2,rfl⟩:=r2;exact SeqAt.RcAt.list_int b t2 hl1 hu'
  |str b=>
   cases h2;obtain⟨t2,rfl⟩:=r2;exact SeqAt.RcAt.list_str b t2 hl1 hu'
  |lst es=>
   obtain⟨p2,ys,rfl,hb,q2⟩:=h2;obtain⟨its2,v2,hl2⟩:=zAR ok hb;cases r2;have len1:its.toArray.size=ds.length:=by have:=v1.length;have:=q1.length;simp;lia
   have len2:its2.toArray.size=es.length:=by have:=v2.length;have:=q2.length;simp;lia
   show qLo A s (.ref p) (.ref p2) (Dat.eqL ds es)
   by_cases hs:ds.length=es.length
   ·have:=qL7 (A:=A) (s:=s) hl1 hl2 (by rw[len1,len2,hs]) hu' (zEL ok (by lia) (by rw[zCT];lia:A.in1.units+(n-1)<cLine) q1 q2 v1 v2)
    rw[len1,Dat.eqL_all hs _ (fun j h1 h2=>by rw[qA0,qA0];simp[h1,h2])]at this;exact this
   ·rw[Dat.eqL_len hs];exact qJu hl1 hl2 (by rw[len1,len2];simpa using hs) hu'
  |tup es=>
   obtain⟨p2,ys,rfl,hb,q2⟩:=h2;obtain⟨its2,v2,hl2⟩:=zB0 ok hb;cases r2;exact qK5 hl1 hl2 hu'
 |tup ds=>
  have hdl:Dat.depL ds+1<=n:=by rw[Dat.dep]at hd;exact hd
  obtain⟨p,xs,rfl,ha,q1⟩:=h1;obtain⟨its,v1,hl1⟩:=zB0 ok ha;cases r1;cases e with
  |non=>
   cases h2;cases r2;exact SeqAt.RcAt.tuple_none hl1 hu'
  |bl b=>
   cases h2;cases r2;exact SeqAt.RcAt.tuple_bool b hl1 hu'
  |int b=>
   cases h2;obtain⟨t2,rfl⟩:=r2;exact SeqAt.RcAt.tuple_int b t2 hl1 hu'
  |str b=>
   cases h2;obtain⟨t2,rfl⟩:=r2;exact SeqAt.RcAt.tuple_str b t2 hl1 hu'
  |lst es=>
   obtain⟨p2,ys,rfl,hb,q2⟩:=h2;obtain⟨its2,v2,hl2⟩:=zAR ok hb;cases r2;exact qK6 hl1 hl2 hu'
  |tup es=>
   obtain⟨p2,ys,rfl,hb,q2⟩:=h2;obtain⟨its2,v2,hl2⟩:=zB0 ok hb;cases r2;have len1:its.toArray.size=ds.length:=by have:=v1.length;have:=q1.length;simp;lia
   have len2:its2.toArray.size=es.length:=by have:=v2.length;have:=q2.length;simp;lia
   show qLo A s (.ref p) (.ref p2) (Dat.eqL ds es)
   have:=qL0 (A:=A) (s:=s) hl1 hl2 hu' (zEL ok (by lia) (by rw[zCT];lia:A.in1.units+(n-1)<cLine) q1 q2 v1 v2)
   by_cases hs:ds.length=es.length
   ·rw[len1,len2,<- hs,qFl,beq_self_eq_true,qDz,Dat.eqL_all hs _ (fun j h1 h2=>by rw[qA0,qA0];simp[h1,h2])]at this;exact this
   ·rw[len1,len2,show(ds.length==es.length)=false by simpa using hs,qCx]at this;rw[Dat.eqL_len hs];exact this
theorem zLB(n:Nat){d e:Dat}{v u:V}{x y:Value}{A:qHv}{s:qHp}(hd:d.dep<=n)(ok:HOk P w H s.heap)(h1:Rep H d v)(h2:Rep H e u)(r1:RelV v x)(r2:RelV u y)(hu:A.units+n<cLine):qL4 A s x y (!Dat.eq d e):=by
 have hu':A.units<cLine:=by lia
 cases d with
 |non=>
  cases h1;cases r1;cases e with
  |non=>
   cases h2;cases r2;exact SeqAt.RcNeAt.none_none
  |bl b=>
   cases h2;cases r2;exact SeqAt.RcNeAt.none_bool b
  |int b=>
   cases h2;obtain⟨t2,rfl⟩:=r2;exact SeqAt.RcNeAt.none_int b t2
  |str b=>
   cases h2;obtain⟨t2,rfl⟩:=r2;exact SeqAt.RcNeAt.none_str b t2
  |lst es=>
   obtain⟨p2,ys,rfl,hb,q2⟩:=h2;obtain⟨its2,v2,hl2⟩:=zAR ok hb;cases r2;exact SeqAt.RcNeAt.none_list hl2 hu'
  |tup es=>
   obtain⟨p2,ys,rfl,hb,q2⟩:=h2;obtain⟨its2,v2,hl2⟩:=zB0 ok hb;cases r2;exact SeqAt.RcNeAt.none_tuple hl2 hu'
 |bl a=>
  cases h1;cases r1;cases e with
  |non=>
   cases h2;cases r2;exact SeqAt.RcNeAt.bool_none a
  |bl b=>
   cases h2;cases r2;exact SeqAt.RcNeAt.bool_bool a b
  |int b=>
   cases h2;obtain⟨t2,rfl⟩:=r2;exact SeqAt.RcNeAt.bool_int a b t2
  |str b=>
   cases h2;obtain⟨t2,rfl⟩:=r2;exact SeqAt.RcNeAt.bool_str a b t2
  |lst es=>
   obtain⟨p2,ys,rfl,hb,q2⟩:=h2;obtain⟨its2,v2,hl2⟩:=zAR ok hb;cases r2;exact SeqAt.RcNeAt.bool_list a hl2 hu'
  |tup es=>
   obtain⟨p2,ys,rfl,hb,q2⟩:=h2;obtain⟨its2,v2,hl2⟩:=zB0 ok hb;cases r2;exact SeqAt.RcNeAt.bool_tuple a hl2 hu'
 |int a=>
  cases h1;obtain⟨t1,rfl⟩:=r1;cases e with
  |non=>
   cases h2;cases r2;exact SeqAt.RcNeAt.int_none a t1
  |bl b=>
   cases h2;cases r2;exact SeqAt.RcNeAt.int_bool a t1 b
  |int b=>
   cases h2;obtain⟨t2,rfl⟩:=r2;exact SeqAt.RcNeAt.int_int a t1 b t2
  |str b=>
   cases h2;obtain⟨t2,rfl⟩:=r2;exact SeqAt.RcNeAt.int_str a t1 b t2
  |lst es=>
   obtain⟨p2,ys,rfl,hb,q2⟩:=h2;obtain⟨its2,v2,hl2⟩:=zAR ok hb;cases r2;exact SeqAt.RcNeAt.int_list a t1 hl2 hu'
  |tup es=>
   obtain⟨p2,ys,rfl,hb,q2⟩:=h2;obtain⟨its2,v2,hl2⟩:=zB0 ok hb;cases r2;exact SeqAt.RcNeAt.int_tuple a t1 hl2 hu'
 |str a=>
  cases h1;obtain⟨t1,rfl⟩:=r1;cases e with
  |non=>
   cases h2;cases r2;exact SeqAt.RcNeAt.str_none a t1
  |bl b=>
   cases h2;cases r2;exact SeqAt.RcNeAt.str_bool a t1 b
  |int b=>
   cases h2;obtain⟨t2,rfl⟩:=r2;exact SeqAt.RcNeAt.str_int a t1 b t2
  |str b=>
   cases h2;obtain⟨t2,rfl⟩:=r2;exact SeqAt.RcNeAt.str_str a t1 b t2
  |lst es=>
   obtain⟨p2,ys,rfl,hb,q2⟩:=h2;obtain⟨its2,v2,hl2⟩:=zAR ok hb;cases r2;exact SeqAt.RcNeAt.str_list a t1 hl2 hu'
  |tup es=>
   obtain⟨p2,ys,rfl,hb,q2⟩:=h2;obtain⟨its2,v2,hl2⟩:=zB0 ok hb;cases r2;exact SeqAt.RcNeAt.str_tuple a t1 hl2 hu'
 |lst ds=>
  have hdl:Dat.depL ds+1<=n:=by rw[Dat.dep]at hd;exact hd
  obtain⟨p,xs,rfl,ha,q1⟩:=h1;obtain⟨its,v1,hl1⟩:=zAR ok ha;cases r1;cases e with
  |non=>
   cases h2;cases r2;exact SeqAt.RcNeAt.list_none hl1 hu'
  |bl b=>
   cases h2;cases r2;exact SeqAt.RcNeAt.list_bool b hl1 hu'
  |int b=>
   cases h2;obtain⟨t2,rfl⟩:=r2;exact SeqAt.RcNeAt.list_int b t2 hl1 hu'
  |str b=>
   cases h2;obtain⟨t2,rfl⟩:=r2;exact SeqAt.RcNeAt.list_str b t2 hl1 hu'
  |lst es=>
   obtain⟨p2,ys,rfl,hb,q2⟩:=h2;obtain⟨its2,v2,hl2⟩:=zAR ok hb;cases r2;have len1:its.toArray.size=ds.length:=by have:=v1.length;have:=q1.length;simp;lia
   have len2:its2.toArray.size=es.length:=by have:=v2.length;have:=q2.length;simp;lia
   show qL4 A s (.ref p) (.ref p2) (!Dat.eqL ds es)
   by_cases hs:ds.length=es.length
   ·have:=SeqAt.RcNeAt.lists (A:=A) (s:=s) hl1 hl2 (by rw[len1,len2,hs]) hu' (zEL ok (by lia) (by rw[zCT];lia:A.in1.units+(n-1)<cLine) q1 q2 v1 v2)
    rw[len1,Dat.eqL_all hs _ (fun j h1 h2=>by rw[qA0,qA0];simp[h1,h2])]at this;exact this
   ·rw[Dat.eqL_len hs];exact SeqAt.RcNeAt.lists_lengths hl1 hl2 (by rw[len1,len2];simpa using hs) hu'
  |tup es=>
   obtain⟨p2,ys,rfl,hb,q2⟩:=h2;obtain⟨its2,v2,hl2⟩:=zB0 ok hb;cases r2;exact SeqAt.RcNeAt.list_tuple hl1 hl2 hu'
 |tup ds=>
  have hdl:Dat.depL ds+1<=n:=by rw[Dat.dep]at hd;exact hd
  obtain⟨p,xs,rfl,ha,q1⟩:=h1;obtain⟨its,v1,hl1⟩:=zB0 ok ha;cases r1;cases e with
  |non=>
   cases h2;cases r2;exact SeqAt.RcNeAt.tuple_none hl1 hu'
  |bl b=>
   cases h2;cases r2;exact SeqAt.RcNeAt.tuple_bool b hl1 hu'
  |int b=>
   cases h2;obtain⟨t2,rfl⟩:=r2;exact SeqAt.RcNeAt.tuple_int b t2 hl1 hu'
  |str b=>
   cases h2;obtain⟨t2,rfl⟩:=r2;exact SeqAt.RcNeAt.tuple_str b t2 hl1 hu'
  |lst es=>
   obtain⟨p2,ys,rfl,hb,q2⟩:=h2;obtain⟨its2,v2,hl2⟩:=zAR ok hb;cases r2;exact SeqAt.RcNeAt.tuple_list hl1 hl2 hu'
  |tup es=>
   obtain⟨p2,ys,rfl,hb,q2⟩:=h2;obtain⟨its2,v2,hl2⟩:=zB0 ok hb;cases r2;have len1:its.toArray.size=ds.length:=by have:=v1.length;have:=q1.length;simp;lia
   have len2:its2.toArray.size=es.length:=by have:=v2.length;have:=q2.length;simp;lia
   show qL4 A s (.ref p) (.ref p2) (!Dat.eqL ds es)
   have:=SeqAt.RcNeAt.tuples (A:=A) (s:=s) hl1 hl2 hu' (zEL ok (by lia) (by rw[zCT];lia:A.in1.units+(n-1)<cLine) q1 q2 v1 v2)
   by_cases hs:ds.length=es.length
   ·rw[len1,len2,<- hs,qFl,beq_self_eq_true,qDz,Dat.eqL_all hs _ (fun j h1 h2=>by rw[qA0,qA0];simp[h1,h2])]at this;exact this
   ·rw[len1,len2,show(ds.length==es.length)=false by simpa using hs,qCx]at this;rw[Dat.eqL_len hs];exact this
end
section
variable{X:Cx}
noncomputable def rEqD:R2:=fun x y H Q=>∃d e,Rep H d x/\Rep H e y/\d.dep<=40/\Q (.bl (Dat.eq d e)) H
noncomputable def rNeD:R2:=fun x y H Q=>∃d e,Rep H d x/\Rep H e y/\d.dep<=40/\Q (.bl (!Dat.eq d e)) H
theorem zVY(hu:X.A.units+64<cLine):OpR X (compareOp .Eq) rEqD:=by
 intro pins s σ H x y v u Q I rx ry h;obtain⟨d,e,h1,h2,hd,q⟩:=h;exact zPJ 40 hd I.hok h1 h2 rx ry (by lia) _ _ _ _ ⟨.bl _,H,I,rfl,q⟩
theorem zVV(hu:X.A.units+64<cLine):OpR X (compareOp .NotEq) rNeD:=by
 intro pins s σ H x y v u Q I rx ry h;obtain⟨d,e,h1,h2,hd,q⟩:=h;exact zLB 40 hd I.hok h1 h2 rx ry (by lia) _ _ _ _ ⟨.bl _,H,I,rfl,q⟩
noncomputable def zER(H:Hp):V->Option String
 |.non=>some "NoneType"
 |.bl _=>some "bool"
 |.int _=>some "int"
 |.str _=>some "str"
 |.ref a=>match H a with
  |some (.lst _)=>some "list"
  |some (.tup _)=>some "tuple"
  |some (.dK _)=>some "dict"
  |_=>none
 |_=>none
noncomputable def zTE(T n:String):Bool:=T==n||(T == "bool" && n == "int")
theorem zJK:zBU X (.builtin "isinstance") (fun vs H Q=>∃x n T,vs=[x,.ty n]/\zER H x=some T/\n∈["int","bool","str","list","tuple","dict"]/\Q (.bl (zTE T n)) H):=by
 intro pins s σ H vs us Q I r h;obtain⟨x,n,T,rfl,ht,hn,q⟩:=h;obtain⟨u,w',rfl,rx,rn⟩:=zP6 r
 cases(show w'=qJ9 n from rn)
 have key:∃t,TyOf X.K H x t/\t=.type T:=by
  cases x with
  |non=>cases ht;exact⟨_,.non,rfl⟩
  |bl b=>cases ht;exact⟨_,.bl b,rfl⟩
  |int b=>cases ht;exact⟨_,.int b,rfl⟩
  |str b=>cases ht;exact⟨_,.str b,rfl⟩
  |ref a=>
   unfold zER at ht;dsimp only at ht;cases e:H a with
   |none=>rw[e]at ht;cases ht
   |some o=>
    rw[e]at ht;cases o with
    |lst xs=>cases ht;exact⟨_,.lst e,rfl⟩
    |tup xs=>cases ht;exact⟨_,.tup e,rfl⟩
    |dK xs=>cases ht;exact⟨_,.dK e,rfl⟩
    |_=>cases ht
  |_=>cases ht
 obtain⟨t,ty,rfl⟩:=key;have hT:T∈["NoneType","bool","int","str","list","tuple","dict"]:=by
  cases x with
  |non=>cases ht;decide
  |bl b=>cases ht;decide
  |int b=>cases ht;decide
  |str b=>cases ht;decide
  |ref a=>
   unfold zER at ht;dsimp only at ht;cases e:H a with
   |none=>rw[e]at ht;cases ht
   |some o=>
    rw[e]at ht;cases o with
    |lst xs=>cases ht;decide
    |tup xs=>cases ht;decide
    |dK xs=>cases ht;decide
    |_=>cases ht
  |_=>cases ht
 have e:qGh X.K (.type T) (.type n)=some (zTE T n):=by
  simp only[qAd,List.mem_nil_iff,or_false]at hT hn
  rcases hT with rfl|rfl|rfl|rfl|rfl|rfl|rfl<;>rcases hn with rfl|rfl|rfl|rfl|rfl|rfl<;>rfl
 exact zNR I rx ty e fun tk=>⟨.bl _,H,I.tok tk,rfl,q⟩
noncomputable def zCB(lo:Int)(n:Nat):List V:=(qA7 n).map fun i=>.int (lo+(i:Nat))
theorem zEQ:∀{xs:List V}{its:List Value},xs.length=its.length->(∀(j:Nat)(x:V)(v:Value),xs[j]?=some x->its[j]?=some v->RelV x v)->Vals xs its
 |[],[],_,_=>.nil
 |[],_::_,h,_=>by simp at h
 |_::_,[],h,_=>by simp at h
 |x::xs,v::its,h,g=>.cons (g 0 x v rfl rfl) (zEQ (by simpa using h) fun j y u e1 e2=>g (j+1) y u (by simpa using e1) (by simpa using e2))
theorem zM0{lo:Int}{n:Nat}{its:List Value}(hl:its.length=n)(h:∀(j:Nat) (v:Value),its[j]?=some v->∃t,v=qJr (lo+(j:Int)*1) t):Vals (zCB lo n) its:=by
 refine zEQ (by simp[zCB,hl]) fun j x v e1 e2=>?_
 unfold zCB at e1;rw[qAe]at e1;cases e:(qA7 n)[j]? with
 |none=>rw[e]at e1;cases e1
 |some i=>
  rw[e]at e1;cases e1;have hi:i=j:=by
   obtain⟨h1,h2⟩:=qA4.mp e;rw[qBx]at h2;exact h2.symm
  subst hi;obtain⟨t,ht⟩:=h i v e2;exact⟨t,by rw[ht,qHe]⟩
theorem zOT:zBU X (.type "range") (fun vs H Q=>∃j:Int,vs=[.int j]/\∀p,H p=none->Q (.ref p) (upd H p (.rng 0 j))):=by
 intro pins s σ H vs us Q I r h;obtain⟨j,rfl,q⟩:=h;obtain⟨u,rfl,rx⟩:=zFH r;obtain⟨t,rfl⟩:=rx;exact call_range_1 ⟨.ref _,_,I.laid (o:=.rng 0 j) (fun b o e=>qHq _ e) (qA6 _) ⟨_,_,_,qHt _ rfl⟩,rfl,q _ I.fresh⟩
theorem zOS:zBU X (.type "range") (fun vs H Q=>∃i j:Int,vs=[.int i,.int j]/\∀p,H p=none->Q (.ref p) (upd H p (.rng i j))):=by
 intro pins s σ H vs us Q I r h;obtain⟨i,j,rfl,q⟩:=h;obtain⟨u,u',rfl,rx,rx'⟩:=zP6 r;obtain⟨t,rfl⟩:=rx;obtain⟨t',rfl⟩:=rx';exact call_range_2 ⟨.ref _,_,I.laid (o:=.rng i j) (fun b o e=>qHq _ e) (qA6 _) ⟨_,_,_,qHt _ rfl⟩,rfl,q _ I.fresh⟩
theorem zH1(hc:X.calm=true):zBU X (.type "list") (fun vs H Q=>∃p lo hi,vs=[.ref p]/\H p=some (.rng lo hi)/\(-(2 ^ 62)<=lo/\lo<2 ^ 62/\-(2 ^ 62)<=hi/\hi<2 ^ 62)/\hi-lo<=1000000/\∀l,H l=none->Q (.ref l) (upd H l (.lst (zCB lo (hi-lo).toNat)))):=by
 intro pins s σ H vs us Q I r h;obtain⟨p,lo,hi,rfl,hp,⟨b1,b2,b3,b4⟩,hz,q⟩:=h;obtain⟨u,rfl,rx⟩:=zFH r;cases rx;obtain⟨t,u,v,e⟩:=(show ObjOk X.prog X.w H s.heap p (.rng lo hi) from I.hok p _ hp)
 have hn:qIe lo hi 1=(((hi-lo).toNat:Nat):Int):=by rw[rangeSize_one];split<;>lia
 refine call_list_range (n:=(hi-lo).toNat) (I.ok.hd hc) e (small_one b1 b2 b3 b4) hn (by lia) fun h' tk acc' c' hk hS hacc=>?_
 have rv:Vals (zCB lo (hi-lo).toNat) acc'.toList:=zM0 (by simpa using hacc.1) fun j v hj=>hacc.2 j v (by simpa using hj)
 refine⟨.ref _,_,I.laid (o:=.lst (zCB lo (hi-lo).toNat)) hk (qA6 _) ⟨?_,acc'.toList,c',rv,by simpa using hS⟩,rfl,q _ I.fresh⟩;have hl:(zCB lo (hi-lo).toNat).length=(hi-lo).toNat:=by simp[zCB]
 rw[hl,qIn]
 lia
def zSK:R2:=fun x y H Q=>match x,y with
 |.int i,.int j=>Q (.int (i+j)) H
 |.str i,.str j=>i.length+j.length<=sizeLine/\Q (.str (i++j)) H
 |.ref l,.ref b=>∃xs zs,H l=some (.lst xs)/\H b=some (.lst zs)/\xs.length+zs.length<=sizeLine/\∀p,H p=none->Q (.ref p) (upd H p (.lst (xs++zs)))
 |_,_=>False
theorem zCL:OpR X (binaryOp .Add) zSK:=by
 intro pins s σ H x y v u Q I rx ry h;cases x<;>cases y<;>first
  |exact zW0 pins s σ H _ _ v u Q I rx ry ⟨_,_,rfl,rfl,h⟩
  |exact zLG pins s σ H _ _ v u Q I rx ry ⟨_,_,rfl,rfl,h.1,h.2⟩
  |(obtain⟨xs,zs,h1,h2,h3,h4⟩:=h;exact zVZ pins s σ H _ _ v u Q I rx ry ⟨_,_,xs,zs,rfl,rfl,h1,h2,h3,h4⟩)
  |exact qAf h
noncomputable def rMulU:R2:=fun x y H Q=>match x,y with
 |.int i,.int j=>CMul i j/\Q (.int (i*j)) H
 |_,_=>False
noncomputable def zV5:R2:=fun x y H Q=>match x,y with
 |.int i,.int j=>Q (.int (i-j)) H
 |_,_=>False
theorem zXT:OpR X (binaryOp .Sub) zV5:=by
 intro pins s σ H x y v u Q I rx ry h;cases x<;>cases y<;>first
  |exact zVS pins s σ H _ _ v u Q I rx ry ⟨_,_,rfl,rfl,h⟩
  |exact qAf h
noncomputable def zVD:R2:=fun x y H Q=>match x,y with
 |.int i,.int j=>0<j/\Q (.int (i%j)) H
 |_,_=>False
theorem zDI:OpR X (binaryOp .Mod) zVD:=by
 intro pins s σ H x y v u Q I rx ry h;cases x<;>cases y<;>first
  |exact zVW pins s σ H _ _ v u Q I rx ry ⟨_,_,rfl,rfl,h.1,h.2⟩
  |exact qAf h
noncomputable def zV8:R2:=fun x y H Q=>match x,y with
 |.int i,.int j=>CPow i j/\Q (.int (i ^ j.toNat)) H
 |_,_=>False
theorem zXV:OpR X (binaryOp .Pow) zV8:=by
 intro pins s σ H x y v u Q I rx ry h;cases x<;>cases y<;>first
  |exact zVU pins s σ H _ _ v u Q I rx ry ⟨_,_,rfl,rfl,h.1,h.2⟩
  |exact qAf h
def zVA:V->Hp->VK->Prop:=fun x H Q=>match x with
 |.int i=>Q (.int (-i)) H
 |_=>False
theorem zXW:UnR X (unaryOp .USub) zVA:=by
 intro pins s σ H x v Q I rx h;cases x<;>first
  |exact zUC pins s σ H _ v Q I rx ⟨_,rfl,h⟩
  |exact qAf h
noncomputable def zSI(p:Int->Int->Bool):R2:=fun x y H Q=>match x,y with
 |.int i,.int j=>Q (.bl (p i j)) H
 |_,_=>False
theorem u_lt:OpR X (compareOp .Lt) (zSI fun i j=>decide (i<j)):=by
 intro pins s σ H x y v u Q I rx ry h;cases x<;>cases y<;>first
  |exact zYD pins s σ H _ _ v u Q I rx ry ⟨_,_,rfl,rfl,h⟩
  |exact qAf h
theorem u_gt:OpR X (compareOp .Gt) (zSI fun i j=>decide (j<i)):=by
 intro pins s σ H x y v u Q I rx ry h;cases x<;>cases y<;>first
  |exact zYE pins s σ H _ _ v u Q I rx ry ⟨_,_,rfl,rfl,h⟩
  |exact qAf h
def rEqU:R2:=fun x y H Q=>match x,y with
 |.int i,.int j=>Q (.bl (decide (i=j))) H
 |.str i,.str j=>Q (.bl (decide (i=j))) H
 |.bl i,.bl j=>Q (.bl (decide (i=j))) H
 |x,y=>rEqD x y H Q
def rNeU:R2:=fun x y H Q=>match x,y with
 |.int i,.int j=>Q (.bl (!decide (i=j))) H
 |.str i,.str j=>Q (.bl (!decide (i=j))) H
 |.bl i,.bl j=>Q (.bl (!decide (i=j))) H
 |x,y=>rNeD x y H Q
theorem u_eq(hu:X.A.units+64<cLine):OpR X (compareOp .Eq) rEqU:=by
 intro pins s σ H x y v u Q I rx ry h;cases x<;>cases y<;>first
  |(refine zYF pins s σ H _ _ v u Q I rx ry ⟨rfl,?_⟩;have h':=h;simp only[rEqU]at h';simpa using h')
  |exact zVY hu pins s σ H _ _ v u Q I rx ry h
theorem u_ne(hu:X.A.units+64<cLine):OpR X (compareOp .NotEq) rNeU:=by
 intro pins s σ H x y v u Q I rx ry h;cases x<;>cases y<;>first
  |(refine zYC pins s σ H _ _ v u Q I rx ry ⟨rfl,?_⟩;have h':=h;simp only[rNeU]at h';simpa using h')
  |exact zVV hu pins s σ H _ _ v u Q I rx ry h
def rIxU(K:qA2):R2:=fun x y H Q=>match x,y with
 |.str z,.int i=>∃c,z.length<=sizeLine/\atI z.cps.toList i=some c/\Q (.str ⟨#[c]⟩) H
 |.ref p,.int i=>∃xs v,(SqL K H p xs\/SqT K H p xs)/\atI xs i=some v/\Q v H
 |_,_=>False
theorem u_ix:IxR X (rIxU X.K):=by
 intro value slice pins s σ H x y v u Q I rx ry h hs;cases x<;>cases y<;>first
  |(obtain⟨c,h1,h2,h3⟩:=h;exact zWH value slice pins s σ H _ _ v u Q I rx ry ⟨_,_,c,rfl,rfl,h1,h2,h3⟩ hs)
  |(obtain⟨xs,w,h1|h1,h2,h3⟩:=h
    ·exact zT9 value slice pins s σ H _ _ v u Q I rx ry ⟨_,xs,_,w,rfl,rfl,h1,h2,h3⟩ hs
    ·exact zWG value slice pins s σ H _ _ v u Q I rx ry ⟨_,xs,_,w,rfl,rfl,h1,h2,h3⟩ hs)
  |exact qAf h
def zSH(K:qA2):List V->Hp->VK->Prop:=fun vs H Q=>match vs with
 |[.str z]=>z.length<=sizeLine/\Q (.int z.length) H
 |[.ref p]=>∃xs,(SqL K H p xs\/SqT K H p xs)/\Q (.int xs.length) H
 |_=>False
theorem zYQ:zBU X (.builtin "len") (zSH X.K):=by
 intro pins s σ H vs us Q I r h;cases vs with
 |nil=>exact qAf h
 |cons hd1 tl1=>
  cases hd1 with
  |str z=>
   cases tl1 with
   |nil=>
    exact zIC pins s σ H _ us Q I r ⟨z,rfl,h.1,h.2⟩
   |cons _ _=>exact qAf h
  |ref p=>
   cases tl1 with
   |nil=>
    obtain⟨xs,h1,h2⟩:=h;exact zID pins s σ H _ us Q I r ⟨p,xs,rfl,h1,h2⟩
   |cons _ _=>exact qAf h
  |_=>exact qAf h
def zFR(K:qA2):List V->Hp->VK->Prop:=fun vs H Q=>match vs with
 |[.ref p]=>(∃xs,(SqL K H p xs\/SqT K H p xs)/\∀l,H l=none->Q (.ref l) (upd H l (.lst xs))) \/
   ∃lo hi,H p=some (.rng lo hi)/\(-(2 ^ 62)<=lo/\lo<2 ^ 62/\-(2 ^ 62)<=hi/\hi<2 ^ 62)/\hi-lo<=1000000/\∀l,H l=none->Q (.ref l) (upd H l (.lst (zCB lo (hi-lo).toNat)))
 |_=>False
theorem zWA(hc:X.calm=true):zBU X (.type "list") (zFR X.K):=by
 intro pins s σ H vs us Q I r h;cases vs with
 |nil=>exact qAf h
 |cons hd1 tl1=>
  cases hd1 with
  |ref p=>
   cases tl1 with
   |nil=>
    rcases h with⟨xs,h1,h2⟩|⟨lo,hi,h1,h2,h3,h4⟩
    ·exact zIB pins s σ H _ us Q I r ⟨p,xs,rfl,h1,h2⟩
    ·exact zH1 hc pins s σ H _ us Q I r ⟨p,lo,hi,rfl,h1,h2,h3,h4⟩
   |cons _ _=>exact qAf h
  |_=>exact qAf h
def zIX:List V->Hp->VK->Prop:=fun vs H Q=>match vs with
 |[.int j]=>∀p,H p=none->Q (.ref p) (upd H p (.rng 0 j))
 |[.int i,.int j]=>∀p,H p=none->Q (.ref p) (upd H p (.rng i j))
 |_=>False
theorem zF3:zBU X (.type "range") zIX:=by
 intro pins s σ H vs us Q I r h
 match vs,h with
 |[.int j],h=>exact zOT pins s σ H _ us Q I r ⟨j,rfl,h⟩
 |[.int i,.int j],h=>exact zOS pins s σ H _ us Q I r ⟨i,j,rfl,h⟩
def zVF:List V->Hp->VK->Prop:=fun vs H Q=>match vs with
 |[x,.ty n]=>∃T,zER H x=some T/\n∈["int","bool","str","list","tuple","dict"]/\Q (.bl (zTE T n)) H
 |_=>False
theorem zBZ:zBU X (.builtin "isinstance") zVF:=by
 intro pins s σ H vs us Q I r h;cases vs with
 |nil=>exact qAf h
 |cons x tl1=>
  cases tl1 with
  |nil=>exact qAf h
  |cons hd2 tl2=>
   cases hd2 with
   |ty n=>
    cases tl2 with
    |nil=>
     obtain⟨T,h1,h2,h3⟩:=h;exact zJK pins s σ H _ us Q I r ⟨x,n,T,rfl,h1,h2,h3⟩
    |cons _ _=>exact qAf h
   |_=>exact qAf h
end
noncomputable def zI8(N N':List Str)(k:Nat)(sc esc:Scope):Bool:=
 (sc.kind==.function)&&decide ((sc.names.map (·.1)).Nodup)&&(N'.length==N.length+k) &&
 ((qA7 N.length).all fun i=>match N'[i]? with
  |none=>true
  |some x=>(sc.names.lookup x==none)||(sc.names.any (fun p=>p.1==x&&p.2==.free)&&N[i]?==some x)) &&
 (sc.names.all fun p=>p.2 != .free||esc.names.lookup p.1==some .cell||esc.names.lookup p.1==some .free)
theorem cn{X:Cx}{sc:Scope}(N':List Str)(k:Nat)(h:zI8 X.N N' k sc X.env.scope=true):CompNames X.N N' k sc X.env:=by
 unfold zI8 at h;simp only[qBu,decide_eq_true_eq,beq_iff_eq]at h;obtain⟨⟨⟨⟨h1,h2⟩,h3⟩,h4⟩,h5⟩:=h;refine⟨h1,h2,h3,fun i x e hi=>?_,fun x hx=>?_⟩
 ·have q:=qBf.mp h4 i (qCk.mpr hi);rw[e]at q;simp only[qFz,qBu,beq_iff_eq,qD0]at q
  rcases q with q|⟨⟨p,hp,e1,e2⟩,e3⟩
  ·exact .inr q
  ·obtain⟨y,kk⟩:=p;dsimp only at e1 e2;subst e1;subst e2;exact .inl ⟨hp,e3⟩
 ·have q:=qBf.mp h5 _ hx;simp only[qFz,bne_iff_ne,ne_eq,not_true_eq_false,false_or,beq_iff_eq]at q;exact q
theorem PE.imp{X:Cx}{e:Expr}{t t':TE}(h:PE X e t)(i:∀σ H Q,t' σ H Q->t σ H Q):PE X e t':=fun pins s σ H Q I q=>h pins s σ H Q I (i σ H Q q)
noncomputable def vM(i:Nat):TE:=fun σ H Q=>match σ[i]? with
 |some (some v)=>Q v H
 |_=>False
theorem pn{X:Cx}(i:Nat){x:Str}{pos:Pos}(hN:X.N[i]?=some x:=by rfl)(hv:Vis X.env.scope x:=by first|exact qHm rfl|exact qHh (qHm rfl)|exact qHh (qHh rfl))(hd:(x==("__debug__":Str))=false:=by decide)
  (hcd:(x==("__classdict__":Str))=false:=by decide):PE X (.Name x pos) (vM i):=(zVL hN hv hd hcd).imp fun σ H Q h=>by
 unfold vM at h;cases e:σ[i]? with
 |none=>rw[e]at h;exact qAf h
 |some w=>
  rw[e]at h;cases w with
  |none=>exact qAf h
  |some v=>exact⟨v,e,h⟩
noncomputable def bM(t:TE):TT:=fun σ H Q=>t σ H fun x H'=>match x with
 |.bl k=>Q k H'
 |.int i=>Q (i != 0) H'
 |.non=>Q false H'
 |_=>False
section
variable{X:Cx}{a b c:Expr}{ta tb tc:TE}{tA tB:TT}{rest:List Expr}{pos:Pos}
theorem zUF{K:qA2}{x:V}{H:Hp}{Q:Bool->Hp->Prop}(h:match x with | .bl k=>Q k H | .int i=>Q (i != 0) H | .non=>Q false H|_=>False):∃k,TruV K x H k/\Q k H:=by
 cases x with
 |bl k=>exact⟨k,rfl,h⟩
 |int i=>exact⟨_,rfl,h⟩
 |non=>exact⟨_,rfl,h⟩
 |_=>exact qAf h
theorem pt_m(ha:PE X a ta)(he:∀whole,isTrue a X.env whole=(do let v <- whole;qLq a.pos;holding [v] (truthy v)):=by intro _;rfl):PT X a (bM ta):=by
 intro pins s σ H Q I h;refine isTrue_plain (thn (ha pins s σ H _ I h) fun v s1 z0=>?_) (he _);obtain⟨x,H1,I1,r1,q1⟩:=z0;exact thn (zUE pins s1 σ H1 x v Q I1 r1 (zUF q1)) fun _ _ q=>q
theorem zCJ{op:CmpOp}{r:R2}(ho:OpR X (compareOp op) r)(ha:PE X a ta)(hb:PE X b tb)(hm:qJx op b=false):PT X (.Compare a [op] [b] pos) (fun σ H Q=>ta σ H fun x H1=>tb σ H1 fun y H2=>r x y H2 fun z H3=>match z with | .bl k=>Q k H3|_=>False):=by
 intro pins s σ H Q I h;refine wpAny_isTrue_Compare1 (thn (ha pins s σ H _ I h) fun v s1 ⟨x,H1,I1,r1,q1⟩=>thn (hb pins s1 σ H1 _ I1 q1) fun u s2 ⟨y,H2,I2,r2,q2⟩=>
  thn (ho pins s2 σ H2 x y v u _ I2 r1 r2 q2) fun d s3 ⟨z,H3,I3,r3,q3⟩=>?_) hm
 cases z with
 |bl k=>cases r3;exact qKw ⟨H3,I3,q3⟩
 |_=>exact qAf q3
def setM:V->V->V->Hp->(Hp->Prop)->Prop:=fun o i v H Q=>match o,i with
 |.ref p,.int k=>∃xs j,H p=some (.lst xs)/\ixN xs.length k=some j/\Q (upd H p (.lst (xs.set j v)))
 |_,_=>False
theorem zHD:PSet X setM:=by
 intro pins s σ H o i v ov iv u Q I ro ri rv h;cases o<;>cases i<;>first
  |(obtain⟨xs,j,h1,h2,h3⟩:=h;exact zPC pins s σ H _ _ v ov iv u Q I ro ri rv ⟨_,xs,_,j,rfl,rfl,h1,h2,h3⟩)
  |exact qAf h
def appM:V->List V->Hp->VK->Prop:=fun x vs H Q=>match x,vs with
 |.ref l,[y]=>∃xs,H l=some (.lst xs)/\xs.length<sizeLine/\Q .non (upd H l (.lst (xs++[y])))
 |_,_=>False
theorem zNH:MtR X "list.append" appM:=by
 intro pins s σ H x vs v us Q I rx rv h;cases x with
 |ref l=>
  cases vs with
  |nil=>exact qAf h
  |cons y t=>
   cases t with
   |nil=>
    obtain⟨xs,h1,h2,h3⟩:=h;exact zNG pins s σ H _ _ v us Q I rx rv ⟨l,xs,y,rfl,rfl,h1,h2,h3⟩
   |cons _ _=>exact qAf h
 |_=>exact qAf h
def popM:V->List V->Hp->VK->Prop:=fun x vs H Q=>match x,vs with
 |.ref l,[.int i]=>∃xs k y,H l=some (.lst xs)/\(-(2 ^ 63)<=i/\i<2 ^ 63)/\qLb i xs.length=some k/\xs[k]?=some y/\Q y (upd H l (.lst (xs.eraseIdx k)))
 |.ref l,[]=>∃xs y,H l=some (.lst xs)/\xs[xs.length-1]?=some y/\Q y (upd H l (.lst xs.dropLast))
 |_,_=>False
theorem zEZ:MtR X "list.pop" popM:=by
 intro pins s σ H x vs v us Q I rx rv h;cases x with
 |ref l=>
  cases vs with
  |nil=>
   obtain⟨xs,y,h1,h2,h3⟩:=h;exact zW5 pins s σ H _ _ v us Q I rx rv ⟨l,xs,y,rfl,rfl,h1,h2,h3⟩
  |cons y t=>
   cases y with
   |int i=>
    cases t with
    |nil=>
     obtain⟨xs,k,y,h1,h2,h3,h4,h5⟩:=h;exact zPY pins s σ H _ _ v us Q I rx rv ⟨l,xs,i,k,y,rfl,rfl,h1,h2.1,h2.2,h3,h4,h5⟩
    |cons _ _=>exact qAf h
   |_=>exact qAf h
 |_=>exact qAf h
end
theorem pt_w{X:Cx}{e:Expr}{t:TT}(h:PW X e t):PT X e t:=h.pt
def Has(P:qHr)(w:World)(K:qA2)(mg:Str->Option Value)(base:Heap)(x:Str)(k:Nat)(ps:List Str)(sp:Sp):Prop:=
 ∃f fd,FnOk P w K mg base CX0 k f fd ps sp/\mg x=some (.ref f)/\qB4 K (.ref f)=true/\Binds K fd ps []
def Def(K:qA2)(mg:Str->Option Value)(x:Str)(st:Stmt):Prop:=∃f fd,Fun K x x st f fd/\mg x=some (.ref f)
section
variable{X:Cx}{x:Str}{j k:Nat}{ps:List Str}{sp:Sp}{e:Expr}{es:List Expr}{t:TA}{p pos:Pos}
theorem zD4(h:Has X.prog X.w X.K X.mg X.base x j ps sp)(hjk:j<=k)(hr:Room k X.A)(hg:Gl X x)(ha:PA X (e::es) t)(hdb:(x==("__debug__":Str))=false:=by decide)
  (he:starEach (e::es) X.env=(false,eval e X.env)::starEach es X.env:=by rfl) (hpl:(backTo pos (starEach es X.env)).any (·.1)=false:=by rfl):PE X (.Call (.Name x p) (e::es) [] pos) (zDJ sp [] E0 t):=by
 obtain⟨f,fd,G,m,kp,b⟩:=h;exact zJ0 G (hr.mono hjk) hg m kp b .nil zYB ha hdb he hpl
end
section
variable{P:qHr}{w:World}{K:qA2}{mg:Str->Option Value}{base:Heap}
theorem Def.ok{x:Str}{st:Stmt}{N ps:List Str}{k:Nat}{sp:Sp}(D:Def K mg x st)(S:FnScope N ps (zAA st))
  (hb:∀(kV doc pm:Value)(an:Option Addr)(cdv ct:Value)(us:List Value),us.length=ps.length->qKb (qB7 x x (zAV st) (zAX st) (zAA st) .none kV doc pm an cdv ct) ⟨us,[]⟩=pure (ps.zip us))
  (len:∀vs H Q E,sp vs H Q E->vs.length=ps.length)
  (hbody:∀(f:Addr)(cdv:Value)(A:qHv)(outer:List Env)(s:qHp)(H:Hp)(vs:List V)(Q:VK)(E:XK),Room k (A.deeper (envOfC x (zAA st) s.heap.objs.size f cdv))->sp vs H Q E ->
   ∃t,PSs (cxOf CX0 P w K mg base N x (zAA st) f cdv A outer s H E).nox (zAX st) t/\t { nx:=fun _ H'=>Q .non H',rt:=Q } (start N vs) H):Has P w K mg base x (k+1) ps sp:=by
 obtain⟨f,fd,F,m⟩:=D;exact⟨f,fd,F.ok S len (fun cdv A outer s H vs Q E hr h=>hbody f cdv A outer s H vs Q E hr h),m,F.kp,F.binds hb⟩
end
section
variable{X:Cx}{pins:List (Addr×Obj)}{σ:St}{H:Hp}{s:qHp}
def Ite(K:qA2)(a:Addr):It:=
 ⟨fun i H=>∃xs x,SqL K H a xs/\xs[i]?=some x,fun i H x H'=>∃T y,x=.ref T/\H T=none/\H'=upd H T (.tup [.int i,y])/\∀xs,SqL K H a xs->xs[i]?=some y,fun i H=>∃xs,SqL K H a xs/\xs.length<=i⟩
def iEnum(K:qA2)(tl:TA):TI:=fun σ H R=>tl σ H fun vs H1=>match vs with
 |[.ref a]=>(∃xs,SqL K H1 a xs)/\R (Ite K a) H1
 |_=>False
end
section
variable{X:Cx}{K:qA2}
theorem zB9(hK:X.K=K:=by rfl):zBU X (.builtin "len") (zSH K):=hK▸zYQ
theorem zDG(hc:X.calm=true)(hK:X.K=K:=by rfl):zBU X (.type "list") (zFR K):=hK▸zWA hc
theorem zDC(hK:X.K=K:=by rfl):IxR X (rIxU K):=hK▸u_ix
noncomputable def tML(r:V->List V->Hp->VK->Prop)(to:TE)(t:TA):TE:=fun σ H Q=>to σ H fun x H1=>match x with
 |.ref p=>∃xs,H1 p=some (.lst xs)/\t σ H1 fun vs H2=>r x vs H2 Q
 |_=>False
variable{o e:Expr}{es:List Expr}{to:TE}{t:TA}{name:Str}{apos cpos:Pos}{T id:String}{r:V->List V->Hp->VK->Prop}
theorem zIY(pa:PlainAttrs "list")(slot:Slot "list" name id)(hty:typeOf (.builtin id)=pure (.type "method_descriptor"))(hm:MtR X id r)(ho:PE X o to)(ha:PA X (e::es) t)
  (hbase:attributeBase o name X.env (eval o X.env)=eval o X.env:=by rfl)
  (hfew:((backTo cpos (starEach (e::es) X.env)).all (fun x=>!x.1)&&(backToKw cpos (keywordEach [] X.env)).all (fun x=>x.1.isSome)
   && decide ((e::es).length+([]:List qLr).length+(if([]:List qLr).isEmpty then 0 else 1)<30))=true:=by rfl)
  (hline:(apos.endLine==cpos.line)=true:=by rfl) (hs:starEach (e::es) X.env=(false,eval e X.env)::starEach es X.env:=by rfl) (hplain:(backTo cpos (starEach es X.env)).any (·.1)=false:=by rfl) :
  PE X (.Call (.Attribute o name apos) (e::es) [] cpos) (tML r to t):=by
 intro pins s σ H Q I h;refine wpAny_Call_method_late hbase hfew hline rfl (thn (ho pins s σ H _ I h) fun v s1 z0=>?_);obtain⟨x,H1,I1,r1,q1⟩:=z0;cases x with
 |ref p=>?_
 |_=>exact qAf q1
 obtain⟨xs,hx,q1⟩:=q1;obtain⟨h1,h2⟩:=zUD (T:="list") I1 r1 (.inl ⟨rfl,xs,SqL.of hx⟩);refine⟨"list",id,pa,slot,hty,h1,h2,?_⟩;have hA:=ha cpos pins s1 σ H1 _ I1 q1;rw[hs]at hA ⊢;refine qK2 (by show(false||(backTo cpos (starEach es X.env)).any (·.1))=false;rw[hplain]<;>rfl) (qKf ?_);exact thn hA fun us s2 ⟨vs,H2,I2,r2,q2⟩=>hm pins s2 σ H2 (.ref p) vs v us Q I2 r1 r2 q2
end
theorem same_new{H:Hp}{p:Addr}(h:H p=none)(o:HO):Same H (upd H p o):=fun b u q=>by rw[zAF (zAH q h)];exact q
theorem Same.upd{H H':Hp}{p:Addr}(s:Same H H')(h:H p=none)(o:HO):Same H (upd H' p o):=fun b u q=>by rw[zAF (zAH q h)];exact s b u q
theorem zC5{H:Hp}:∀(ns:List Int),RepL H (ns.map Dat.int) (ns.map V.int)
 |[]=>rfl
 |n::r=>⟨.int n,r.map V.int,rfl,rfl,zC5 r⟩
theorem zFC:∀(ns:List Int),Dat.depL (ns.map Dat.int)=0
 |[]=>rfl
 |n::r=>by
  rw[qAj,Dat.depL,zFC r];rfl
theorem zEM:∀(ns ms:List Int),Dat.eqL (ns.map Dat.int) (ms.map Dat.int)=decide (ns=ms)
 |[],[]=>by simp[Dat.eqL]
 |[],_::_=>by simp[Dat.eqL]
 |_::_,[]=>by simp[Dat.eqL]
 |n::r,m::q=>by
  rw[qAj,qAj,Dat.eqL,zEM r q,Dat.eq]
  by_cases h:n=m
  ·subst h;simp
  ·simp[h]
theorem zJY{ns:List Int}{i:Nat}{x:Int}:(ns.map V.int).set i (.int x)=(ns.set i x).map V.int:=by
 rw[qEh]
theorem big{n:Nat}(h:n<=100000):n<sizeLine:=by rw[qIn];lia
theorem zF5:∀{ns:List Int}{vs:List Value},Vals (ns.map V.int) vs->qKo vs ns
 |[],_,.nil=>.nil
 |n::r,_,.cons h t=>by
  obtain⟨tk,rfl⟩:=h;exact .cons n tk (zF5 t)
section
variable{X:Cx}
end
end L2
namespace Mi
open PySem
noncomputable section
inductive Sv where
 |i (n:Int)|s (x:Str)
inductive Sw where
 |non|bl (b:Bool)|int (i:Int)|str (x:Str)
inductive Dt where
 |non|bl (b:Bool)|int (i:Int)|str (x:Str)|lst (xs:List Dt)|tup (xs:List Dt)|scr (ns:List Int)|exc (c f:Str) (d:Dt)|ins (c:Str) (fs:List (Str×Sv))|dct (kvs:List (Sum Int Str×Sw))|fn (x:Str) (d:Dt)|dtt (ks:List (List Sw)) (xs:List Dt)|loc (a:Nat) (d:Dt)
mutual
def Dt.dep:Dt->Nat
 |.lst xs=>Dt.depL xs+1
 |.tup xs=>Dt.depL xs+1
 |.scr _=>1000
 |.exc _ _ _=>1000
 |.fn _ _=>1000
 |.dtt _ _=>1000
 |.loc _ _=>1000
 |.ins _ _=>1000
 |.dct _=>1000
 |_=>0
def Dt.depL:List Dt->Nat
 |[]=>0
 |x::r=>max x.dep (Dt.depL r)
end
mutual
def Dt.eq:Dt->Dt->Bool
 |.non,.non=>true
 |.bl a,.bl b=>a==b
 |.bl a,.int b=>(if a then 1 else 0)==b
 |.int a,.bl b=>a==(if b then 1 else 0)
 |.int a,.int b=>a==b
 |.str a,.str b=>a==b
 |.lst xs,.lst ys=>Dt.eqL xs ys
 |.tup xs,.tup ys=>Dt.eqL xs ys
 |_,_=>false
def Dt.eqL:List Dt->List Dt->Bool
 |[],[]=>true
 |x::r,y::q=>Dt.eq x y&&Dt.eqL r q
 |_,_=>false
end
structure Xn where
 cls:Str
 f:Str
 d:Dt
abbrev R(α:Type):=Option (Except Xn α)
noncomputable def okR{α:Type}(a:α):R α:=some (.ok a)
noncomputable def zA1{α β:Type}(x:R α)(f:α->R β):R β:=match x with
 |none=>none
 |some (.error e)=>some (.error e)
 |some (.ok a)=>f a
def optR{α:Type}(o:Option α):R α:=match o with
 |none=>none
 |some a=>okR a
@[simp] theorem zA0{α β:Type}(a:α)(f:α->R β):zA1 (okR a) f=f a:=rfl
@[simp] theorem zA4{α β:Type}(f:α->R β):zA1 none f=none:=rfl
@[simp] theorem zA7{α β:Type}(e:Xn)(f:α->R β):zA1 (some (.error e)) f=some (.error e):=rfl
@[simp] theorem zA5{α:Type}(a:α):optR (some a)=okR a:=rfl
@[simp] theorem zA6{α:Type}:optR (none:Option α)=none:=rfl
abbrev Rh:=List (Option Dt)
abbrev Sl:=Dt×Nat
abbrev Ro:=List (Option Sl)
abbrev EM:=Rh->R Dt
abbrev TM:=Rh->R Bool
abbrev AM:=Rh->R (List Dt)
abbrev FM:=List Dt->R Dt
noncomputable def ixA(n:Nat)(i:Int):Option Nat:=if 0<=i then(if i<n then some i.toNat else none)else if -(n:Int)<=i then some (i+n).toNat else none
def itA{α:Type}(xs:List α)(i:Int):Option α:=(ixA xs.length i).bind fun j=>xs[j]?
noncomputable def addD:Dt->Dt->Option Dt
 |.int i,.int j=>some (.int (i+j))
 |.str i,.str j=>@ite _ (i.length+j.length<=100000) (qA1 _) (some (.str (i++j))) none
 |.lst xs,.lst ys=>@ite _ (xs.length+ys.length<=100000) (qA1 _) (some (.lst (xs++ys))) none
 |_,_=>none
noncomputable def subD:Dt->Dt->Option Dt
 |.int i,.int j=>some (.int (i-j))
 |_,_=>none
noncomputable def mulD:Dt->Dt->Option Dt
 |.int i,.int j=>@ite _ (((-18446744073709551616<i/\i<18446744073709551616)\/(-18446744073709551616<j/\j<18446744073709551616))\/i.natAbs.log2+j.natAbs.log2<=67108864) (qA1 _) (some (.int (i*j))) none
 |_,_=>none
noncomputable def divD:Dt->Dt->Option Dt
 |.int i,.int j=>@ite _ (0<j/\j<1000000000000000000000000) (qA1 _) (some (.int (i/j))) none
 |_,_=>none
noncomputable def modD:Dt->Dt->Option Dt
 |.int i,.int j=>if 0<j then some (.int (i%j))else none
 |_,_=>none
noncomputable def powD:Dt->Dt->Option Dt
 |.int i,.int j=>@ite _ (0<=j/\j<=1000000/\i.natAbs<18446744073709551616) (qA1 _) (some (.int (i ^ j.toNat))) none
 |_,_=>none
noncomputable def negD:Dt->Option Dt
 |.int i=>some (.int (-i))
 |_=>none
noncomputable def cmpD(p:Int->Int->Bool):Dt->Dt->Option Dt
 |.int i,.int j=>some (.bl (p i j))
 |_,_=>none
noncomputable def eqD(x y:Dt):Option Dt:=if x.dep<=40/\y.dep<=40 then some (.bl (Dt.eq x y))else none
noncomputable def neD(x y:Dt):Option Dt:=if x.dep<=40/\y.dep<=40 then some (.bl (!Dt.eq x y))else none
noncomputable def isNonD:Dt->Bool
 |.non=>true
 |_=>false
def isD(x y:Dt):Option Dt:=match y with
 |.non=>some (.bl (isNonD x))
 |_=>none
noncomputable def zYR(x y:Dt):Option Dt:=match y with
 |.non=>some (.bl (!isNonD x))
 |_=>none
def ixD:Dt->Dt->Option Dt
 |.lst xs,.int i=>itA xs i
 |.tup xs,.int i=>itA xs i
 |.scr ns,.int i=>(itA ns i).map .int
 |.str z,.int i=>@ite _ (z.length<=100000) (qA1 _) ((itA z.cps.toList i).map fun c=>.str ⟨#[c]⟩) none
 |_,_=>none
noncomputable def lenD:List Dt->Option Dt
 |[.lst xs]=>some (.int xs.length)
 |[.tup xs]=>some (.int xs.length)
 |[.scr ns]=>some (.int ns.length)
 |[.str z]=>@ite _ (z.length<=100000) (qA1 _) (some (.int z.length)) none
 |_=>none
noncomputable def listD:List Dt->Option Dt
 |[.lst xs]=>some (.lst xs)
 |[.tup xs]=>some (.lst xs)
 |[.scr ns]=>some (.lst (ns.map .int))
 |_=>none
noncomputable def nums(lo:Int)(n:Nat):List Dt:=(qA7 n).map fun i:Nat=>.int (lo+(i:Int))
def rangeD:List Dt->Option Dt
 |[.int j]=>@ite _ ((-4611686018427387904<=j/\j<4611686018427387904)/\j<=100000) (qA1 _) (some (.lst (nums 0 j.toNat))) none
 |[.int i,.int j]=>@ite _ ((-4611686018427387904<=i/\i<4611686018427387904/\-4611686018427387904<=j/\j<4611686018427387904)/\j-i<=100000) (qA1 _) (some (.lst (nums i (j-i).toNat))) none
 |_=>none
noncomputable def tyD:Dt->String
 |.non=>"NoneType"
 |.bl _=>"bool"
 |.int _=>"int"
 |.str _=>"str"
 |.lst _=>"list"
 |.tup _=>"tuple"
 |.scr _=>""
 |.exc _ _ _=>""
 |.fn _ _=>""
 |.dtt _ _=>""
 |.loc _ _=>""
 |.ins _ _=>""
 |.dct _=>""
def isiD(n:String)(x:Dt):Option Dt:=if tyD x = "" then none else some (.bl (tyD x==n||(tyD x == "bool" && n == "int")))
noncomputable def zXF:List Dt->Option (List Bool)
 |[]=>some []
 |.bl b::r=>(zXF r).map (b::·)
 |_::_=>none
noncomputable def maxD:List Dt->Option Dt
 |[.int i,.int j]=>some (.int (if j>i then j else i))
 |_=>none
noncomputable def minD:List Dt->Option Dt
 |[.int i,.int j]=>some (.int (if j<i then j else i))
 |_=>none
noncomputable def absD:List Dt->Option Dt
 |[.int i]=>some (.int (if i<0 then -i else i))
 |_=>none
noncomputable def hasD(x:Dt)(ys:List Dt):Option Bool:=if x.dep=0/\Dt.depL ys=0 then some (ys.any fun y=>Dt.eq y x)else none
def inD(ng:Bool)(x y:Dt):Option Dt:=match y with
 |.lst ys=>(hasD x ys).map fun b=>.bl (if ng=true then !b else b)
 |.tup ys=>(hasD x ys).map fun b=>.bl (if ng=true then !b else b)
 |.str z=>match x with
  |.str y=>match y.cps.toList with
   |[c]=>some (.bl (if ng=true then !decide (c∈z.cps.toList)else decide (c∈z.cps.toList)))
   |_=>none
  |_=>none
 |_=>none
noncomputable def cutIx(n d:Nat):Option Int->Nat
 |none=>d
 |some v=>if v<0 then(v+(n:Int)).toNat else min v.toNat n
def cutA{α:Type}(xs:List α)(lo hi:Option Int):List α:=(xs.drop (cutIx xs.length 0 lo)).take (cutIx xs.length xs.length hi-cutIx xs.length 0 lo)
def slD:Dt->Option Int->Option Int->Option Dt
 |.lst xs,lo,hi=>some (.lst (cutA xs lo hi))
 |.str z,lo,hi=>@ite _ (z.length<=100000) (qA1 _) (some (.str ⟨(cutA z.cps.toList lo hi).toArray⟩)) none
 |_,_,_=>none
abbrev OM:=Rh->R (Option Int)
def oNo:OM:=fun _=>okR none
def oE(e:Rh->R Dt):OM:=fun ρ=>zA1 (e ρ) fun d=>match d with
 |.int i=>okR (some i)
 |_=>none
def eSl(a:Rh->R Dt)(lo hi:OM):Rh->R Dt:=fun ρ=>zA1 (a ρ) fun x=>zA1 (lo ρ) fun l=>zA1 (hi ρ) fun h=>optR (slD x l h)
noncomputable def posC(c:Nat):List Nat->Option Nat
 |[]=>none
 |x::r=>if x=c then some 0 else(posC c r).map (·+1)
def zWR(x:Dt)(ys:List Dt):Option Dt:=match x,ys with
 |.str z,[.str y]=>match y.cps.toList with
  |[c]=>some (.int (match posC c z.cps.toList with|some i=>(i:Int)|none=>-1))
  |_=>none
 |_,_=>none
noncomputable def zRW(x:Dt)(ys:List Dt):Option Dt:=match x,ys with
 |.str z,[.str y]=>match y.cps.toList with
  |[c]=>some (.int (z.cps.toList.count c:Nat))
  |_=>none
 |_,_=>none
noncomputable def zNS:Dt->Bool
 |.str _=>true
 |_=>false
def eMt(f:Dt->List Dt->Option Dt)(a:Rh->R Dt)(am:Rh->R (List Dt)):Rh->R Dt:=fun ρ=>zA1 (a ρ) fun x=>if zNS x=true then zA1 (am ρ) fun xs=>optR (f x xs)else none
noncomputable def signsD(z:Str):List Dt:=z.cps.toList.map fun c=>.str ⟨#[c]⟩
def eC(d:Dt):EM:=fun _=>okR d
def eV(i:Nat):EM:=fun ρ=>match ρ[i]? with
 |some (some d)=>okR d
 |_=>none
def eB(f:Dt->Dt->Option Dt)(a b:EM):EM:=fun ρ=>zA1 (a ρ) fun x=>zA1 (b ρ) fun y=>optR (f x y)
def eU(f:Dt->Option Dt)(a:EM):EM:=fun ρ=>zA1 (a ρ) fun x=>optR (f x)
def eAnd(a b:EM):EM:=fun ρ=>zA1 (a ρ) fun x=>match x with
 |.bl k=>if k=true then b ρ else okR (.bl false)
 |_=>none
def eOr(a b:EM):EM:=fun ρ=>zA1 (a ρ) fun x=>match x with
 |.bl k=>if k=true then okR (.bl true)else b ρ
 |_=>none
def eNot(a:EM):EM:=fun ρ=>zA1 (a ρ) fun x=>match x with
 |.bl k=>okR (.bl (!k))
 |_=>none
def zWV(p q:Dt->Dt->Option Dt)(a b c:EM):EM:=fun ρ=>zA1 (a ρ) fun x=>zA1 (b ρ) fun y=>zA1 (optR (p x y)) fun z=>match z with
 |.bl k=>if k=true then zA1 (c ρ) fun w=>optR (q y w)else okR (.bl false)
 |_=>none
def eIf(c:TM)(a b:EM):EM:=fun ρ=>zA1 (c ρ) fun k=>if k=true then a ρ else b ρ
def aNil:AM:=fun _=>okR []
def aCons(e:EM)(r:AM):AM:=fun ρ=>zA1 (e ρ) fun x=>zA1 (r ρ) fun xs=>okR (x::xs)
def eLst(a:AM):EM:=fun ρ=>zA1 (a ρ) fun xs=>@ite _ (xs.length<=100000) (qA1 _) (okR (.lst xs)) none
def eTup(a:AM):EM:=fun ρ=>zA1 (a ρ) fun xs=>@ite _ (xs.length<=100000) (qA1 _) (okR (.tup xs)) none
def eCall(f:FM)(a:AM):EM:=fun ρ=>zA1 (a ρ) f
def eBi(f:List Dt->Option Dt)(a:AM):EM:=fun ρ=>zA1 (a ρ) fun xs=>optR (f xs)
def eIsi(n:String)(a:EM):EM:=fun ρ=>zA1 (a ρ) fun x=>optR (isiD n x)
def tB(a:EM):TM:=fun ρ=>zA1 (a ρ) fun x=>match x with
 |.bl k=>okR k
 |_=>none
def tM(a:EM):TM:=fun ρ=>zA1 (a ρ) fun x=>match x with
 |.bl k=>okR k
 |.int i=>okR (i != 0)
 |.non=>okR false
 |_=>none
def tAn(a b:TM):TM:=fun ρ=>zA1 (a ρ) fun k=>if k=true then b ρ else okR false
def tOr(a b:TM):TM:=fun ρ=>zA1 (a ρ) fun k=>if k=true then okR true else b ρ
def tNo(a:TM):TM:=fun ρ=>zA1 (a ρ) fun k=>okR (!k)
def tYes:TM:=fun _=>okR true
abbrev IM:=Rh->R (List Dt)
def iSq(e:EM):IM:=fun ρ=>zA1 (e ρ) fun d=>match d with
 |.lst xs=>okR xs
 |.tup xs=>okR xs
 |.scr ns=>okR (ns.map .int)
 |.str z=>okR (signsD z)
 |_=>none
def iR1(e:AM):IM:=fun ρ=>zA1 (e ρ) fun vs=>match vs with
 |[.int j]=>@ite _ (-4611686018427387904<=j/\j<4611686018427387904) (qA1 _) (okR (nums 0 j.toNat)) none
 |_=>none
def iR2(e:AM):IM:=fun ρ=>zA1 (e ρ) fun vs=>match vs with
 |[.int i,.int j]=>@ite _ (-4611686018427387904<=i/\i<4611686018427387904/\-4611686018427387904<=j/\j<4611686018427387904) (qA1 _) (okR (nums i (j-i).toNat)) none
 |_=>none
noncomputable def zTP(n:Nat):List Dt->List Dt
 |[]=>[]
 |x::r=>.tup [.int n,x]::zTP (n+1) r
def iEn(e:AM):IM:=fun ρ=>zA1 (e ρ) fun vs=>match vs with
 |[.lst xs]=>okR (zTP 0 xs)
 |_=>none
noncomputable def zipD:List Dt->List Dt->List Dt
 |x::r,y::q=>.tup [x,y]::zipD r q
 |_,_=>[]
def iZi(e:AM):IM:=fun ρ=>zA1 (e ρ) fun vs=>match vs with
 |[.lst xs,.lst ys]=>okR (zipD xs ys)
 |_=>none
inductive Tg where
 |one (i:Nat)
 |tup (is:List Nat)
noncomputable def zAN:Tg->Dt->Option (List (Nat×Dt))
 |.one i,d=>some [(i,d)]
 |.tup is,.tup ds=>if ds.length=is.length then some (is.zip ds)else none
 |.tup _,_=>none
noncomputable def Tg.idx:Tg->List Nat
 |.one i=>[i]
 |.tup is=>is
noncomputable def zAO:Rh->List (Nat×Dt)->Rh
 |ρ,[]=>ρ
 |ρ,(i,d)::r=>zAO (ρ.set i (some d)) r
noncomputable def zAQ:Ro->List (Nat×Dt)->Ro
 |ρ,[]=>ρ
 |ρ,(i,d)::r=>zAQ (ρ.set i (some (d,0))) r
def compGo(ρ:Rh)(k:Nat)(tg:Tg)(c:TM)(e:EM):List Dt->List Dt->R (List Dt)
 |[],acc=>okR acc
 |d::ds,acc=>match zAN tg d with
  |none=>none
  |some bs=>zA1 (c (zAO (ρ++qA3 k none) bs)) fun b=>if b=true then zA1 (e (zAO (ρ++qA3 k none) bs)) fun x=>compGo ρ k tg c e ds (acc++[x])else compGo ρ k tg c e ds acc
def eComp(it:IM)(k:Nat)(tg:Tg)(c:TM)(e:EM):EM:=fun ρ=>zA1 (it ρ) fun ds=>@ite _ (ds.length<=100000/\(tg.idx.all fun i=>decide (ρ.length<=i))=true) (qA1 _) (zA1 (compGo ρ k tg c e ds []) fun es=>okR (.lst es)) none
inductive Out where
 |nx (ρ:Ro)|rt (d:Dt)|bk (ρ:Ro)|ct (ρ:Ro)
abbrev SM:=Ro->R Out
noncomputable def full(ρ:Ro):Rh:=ρ.map fun o=>o.map qHi
noncomputable def frz(ρ:Ro):Rh:=ρ.map fun o=>match o with
 |some (d,n)=>if n=0\/d.dep=0 then some d else none
 |none=>none
noncomputable def frz1(i:Nat)(ρ:Ro):Ro:=match ρ[i]? with
 |some (some (d,_))=>ρ.set i (some (d,0))
 |_=>ρ
def frzAt:List Nat->Ro->Ro
 |[],ρ=>ρ
 |i::r,ρ=>frzAt r (frz1 i ρ)
def sNil:SM:=fun ρ=>okR (.nx ρ)
def sSeq(a b:SM):SM:=fun ρ=>zA1 (a ρ) fun o=>match o with
 |.nx ρ'=>b ρ'
 |o=>okR o
noncomputable def zUQ:SM:=fun _=>none
def zUR:SM:=fun ρ=>okR (.bk ρ)
def zY5:SM:=fun ρ=>okR (.ct ρ)
def sIf(c:TM)(a b:SM):SM:=fun ρ=>zA1 (c (full ρ)) fun k=>if k=true then a ρ else b ρ
def zY3(e:EM):SM:=fun ρ=>zA1 (e (full ρ)) fun _=>okR (.nx ρ)
def sSet(i n:Nat)(vs:List Nat)(e:EM):SM:=fun ρ=>zA1 (e (full ρ)) fun d=>
 if d.dep<=n then okR (.nx (ρ.set i (some (d,n))))else zA1 (e (frz (frzAt vs ρ))) fun d'=>okR (.nx ((frzAt vs ρ).set i (some (d',n))))
def sRet(L n:Nat)(vs:List Nat)(e:EM):SM:=fun ρ=>zA1 (e (full ρ)) fun d=>
 if d.dep<=n/\d.dep<=L then okR (.rt d)else if n=L then zA1 (e (frz (frzAt vs ρ))) fun d'=>okR (.rt d')else none
def zY1:SM:=fun _=>okR (.rt .non)
def sRetV(L i:Nat):SM:=fun ρ=>match ρ[i]? with
 |some (some (d,k))=>if k=L\/L=0\/(d.dep<=k/\d.dep<=L/\k<1000)then okR (.rt d)else none
 |_=>none
def sApp(i n:Nat)(e:EM):SM:=fun ρ=>match ρ[i]? with
 |some (some (.lst ds,k+1))=>zA1 (e (full ρ)) fun d=>@ite _ (ds.length<=100000/\d.dep<=n/\d.dep<=k) (qA1 _) (okR (.nx (ρ.set i (some (.lst (ds++[d]),k+1))))) none
 |_=>none
def sPop(j i:Nat)(e:EM):SM:=fun ρ=>match ρ[i]? with
 |some (some (.lst ds,k+1))=>zA1 (e (full ρ)) fun d=>match d with
  |.int z=>match ixA ds.length z with
   |some q=>match ds[q]? with
    |some c=>@ite _ (i≠j/\ds.length<=1000000) (qA1 _) (okR (.nx ((ρ.set i (some (.lst (ds.eraseIdx q),k+1))).set j (some (c,k))))) none
    |none=>none
   |none=>none
  |_=>none
 |_=>none
def sAppPop(j i:Nat)(e:EM):SM:=fun ρ=>match ρ[j]?,ρ[i]? with
 |some (some (.lst es,l+1)),some (some (.lst ds,k+1))=>zA1 (e (full ρ)) fun d=>match d with
  |.int z=>match ixA ds.length z with
   |some q=>match ds[q]? with
    |some c=>@ite _ (i≠j/\ds.length<=1000000/\es.length<=100000/\(k=l\/(c.dep<=k/\c.dep<=l/\k<1000))) (qA1 _) (okR (.nx ((ρ.set i (some (.lst (ds.eraseIdx q),k+1))).set j (some (.lst (es++[c]),l+1))))) none
    |none=>none
   |none=>none
  |_=>none
 |_,_=>none
def sItem(i n:Nat)(e1 e2:EM):SM:=fun ρ=>zA1 (e2 (full ρ)) fun d=>match ρ[i]? with
 |some (some (.lst ds,k+1))=>zA1 (e1 (full ρ)) fun z=>match z with
  |.int z=>match ixA ds.length z with
   |some q=>if d.dep<=n/\d.dep<=k then okR (.nx (ρ.set i (some (.lst (ds.set q d),k+1))))else none
   |none=>none
  |_=>none
 |_=>none
def forGo(tg:Tg)(b:SM):List Dt->SM
 |[],ρ=>okR (.nx ρ)
 |d::ds,ρ=>match zAN tg d with
  |none=>none
  |some bs=>zA1 (b (zAQ ρ bs)) fun o=>match o with
   |.nx ρ'=>forGo tg b ds ρ'
   |.ct ρ'=>forGo tg b ds ρ'
   |.bk ρ'=>okR (.nx ρ')
   |.rt d=>okR (.rt d)
def sFor(vs:List Nat)(it:IM)(tg:Tg)(b:SM):SM:=fun ρ=>zA1 (it (frz (frzAt vs ρ))) fun ds=>forGo tg b ds (frzAt vs ρ)
def sForR(it:IM)(i:Nat)(b:SM):SM:=fun ρ=>zA1 (it (full ρ)) fun ds=>forGo (.one i) b ds ρ
def whGo(c:TM)(b:SM):Nat->SM
 |0,_=>none
 |m+1,ρ=>zA1 (c (full ρ)) fun k=>if k=true then zA1 (b ρ) fun o=>match o with
   |.nx ρ'=>whGo c b m ρ'
   |.ct ρ'=>whGo c b m ρ'
   |.bk ρ'=>okR (.nx ρ')
   |.rt d=>okR (.rt d)
  else okR (.nx ρ)
noncomputable def WNs:{ n:Nat // n=1000000 }:=Classical.choice ⟨⟨1000000,rfl⟩⟩
noncomputable def WN:Nat:=WNs.val
theorem zZ3:WN=1000000:=WNs.property
def sWhile(c:TM)(b:SM):SM:=fun ρ=>whGo c b WN ρ
noncomputable def startO(n:Nat)(ds:List Dt):Ro:=ds.map (fun d=>some (d,0))++qA3 (n-ds.length) none
def endF:Out->R Dt
 |.nx _=>okR .non
 |.rt d=>okR d
 |_=>none
def runF(P n:Nat)(b:SM):FM:=fun ds=>if ds.length=P then zA1 (b (startO n ds)) endF else none
end
end Mi
namespace L2
open PySem PySem.Spec PyProof.Rows
theorem zRU(n d:Nat)(o:Option Int)(hd:d<=n):HT.sIx n d o<=n:=by
 cases o with
 |none=>exact hd
 |some v=>
  show(if v<0 then(v+(n:Int)).toNat else min v.toNat n)<=n
  split<;>lia
theorem zLP(lo hi:Option Int)(n:Nat):qI8 lo hi 1 n=(qA7 (HT.sIx n n hi-HT.sIx n 0 lo)).map fun k=>HT.sIx n 0 lo+k:=by
 unfold qI8 sliceRange;have c1:∀(o:Option Int)(d:Nat),(match o with|none=>(d:Int)|some i=>(if(1:Int)>0 then max 0 (min (if i<0 then i+(n:Int)else i) n)else max (-1) (min (if i<0 then i+(n:Int)else i) (n-1))))=((HT.sIx n d o:Nat):Int):=by
  intro o d;cases o with
  |none=>rfl
  |some v=>
   show _=(((if v<0 then(v+(n:Int)).toNat else min v.toNat n:Nat)):Int)
   dsimp only;rw[if_pos (by decide)]
   split<;>lia
 dsimp only;rw[if_pos (show(1:Int)>0 by decide),if_pos (show(1:Int)>0 by decide),if_pos (show(1:Int)>0 by decide)];have e1:=c1 lo 0;have e2:=c1 hi n;rw[show((0:Nat):Int)=0 by rfl]at e1;have h1:∀a b:Int,a=((HT.sIx n 0 lo:Nat):Int)->b=((HT.sIx n n hi:Nat):Int)->(qA7 ((if a<b then(b-a+1-1)/1 else 0).toNat)).map (fun k:Nat=>(a+1*(k:Int)).toNat)=(qA7 (HT.sIx n n hi-HT.sIx n 0 lo)).map fun k=>HT.sIx n 0 lo+k:=by
  intro a b ha hb;subst ha hb;have e:(if((HT.sIx n 0 lo:Nat):Int)<((HT.sIx n n hi:Nat):Int)then(((HT.sIx n n hi:Nat):Int)-((HT.sIx n 0 lo:Nat):Int)+1-1)/1 else 0).toNat=HT.sIx n n hi-HT.sIx n 0 lo:=by
   split
   ·rw[qFm];lia
   ·lia
  rw[e];refine qAs fun k _=>?_
  lia
 exact h1 _ _ e1 e2
theorem zMX:∀(xs:List Nat)(a k:Nat),a+k<=xs.length->((qA7 k).map fun j=>a+j).filterMap (xs[·]?)=(xs.drop a).take k:=by
 intro xs a k h
 induction k with
 |zero=>simp
 |succ k ih=>
  rw[qG0,qBs,List.filterMap_append,ih (by lia),List.take_add_one]
  congr 1
  have:a+k<xs.length:=by lia
  simp[List.getElem?_drop,this]
theorem zPB(z:Str)(lo hi:Option Int):qLs z lo hi=⟨(Mi.cutA z.cps.toList lo hi).toArray⟩:=by
 obtain⟨⟨xs⟩⟩:=z;have hl:(⟨⟨xs⟩⟩:Str).length=xs.length:=rfl;unfold qLs;rw[zLP,hl];have e0:∀o d,Mi.cutIx xs.length d o=HT.sIx xs.length d o:=fun o d=>by cases o<;>rfl
 have hb:=zRU xs.length xs.length hi (qA6 _);have ha:=zRU xs.length 0 lo (qAt _);have hc:Mi.cutA xs lo hi=(xs.drop (HT.sIx xs.length 0 lo)).take (HT.sIx xs.length xs.length hi-HT.sIx xs.length 0 lo):=by
  unfold Mi.cutA;rw[e0,e0]
 show _=(⟨(Mi.cutA xs lo hi).toArray⟩:Str)
 rw[hc]
 split
 ·rename_i h
  have h':HT.sIx xs.length xs.length hi-HT.sIx xs.length 0 lo=xs.length:=by simpa using h
  have a0:HT.sIx xs.length 0 lo=0:=by lia
  rw[h',a0,qDe,qCm]
 ·by_cases hle:HT.sIx xs.length 0 lo<=HT.sIx xs.length xs.length hi
  ·have:=zMX xs (HT.sIx xs.length 0 lo) (HT.sIx xs.length xs.length hi-HT.sIx xs.length 0 lo) (by lia)
   rw[<- this];simp
  ·rw[show HT.sIx xs.length xs.length hi-HT.sIx xs.length 0 lo=0 by lia];simp
section
variable{X:Cx}
def rSlU(K:qA2):V->Option Int->Option Int->Hp->VK->Prop:=fun x lo hi H Q=>match x with
 |.str z=>z.length<=sizeLine/\Q (.str ⟨(Mi.cutA z.cps.toList lo hi).toArray⟩) H
 |.ref a=>∃xs,SqL K H a xs/\∀p,H p=none->Q (.ref p) (upd H p (.lst (cutV xs lo hi)))
 |_=>False
theorem zN2{v:Value}{o:Option Int}(h:IsPart v o):∃l:Option (Int×Tok),v=partValue l/\l.map (·.1)=o:=by
 cases h with
 |none=>exact⟨none,rfl,rfl⟩
 |int i t=>exact⟨some (i,t),rfl,rfl⟩
theorem u_sl{K:qA2}(hK:X.K=K:=by rfl):SlR X (rSlU K):=by
 subst hK;intro pins s σ H x v vl vu lo hi sl Q I rx hs pl pu h;cases x with
 |ref a=>
  obtain⟨xs,h1,h2⟩:=h;exact zMF pins s σ H _ v vl vu lo hi sl Q I rx hs pl pu ⟨a,xs,rfl,h1,h2⟩
 |str z=>
  obtain⟨hz,q⟩:=h;obtain⟨t,rfl⟩:=rx;obtain⟨l,rfl,el⟩:=zN2 pl;obtain⟨u,rfl,eu⟩:=zN2 pu;obtain⟨o,g1,g2,g3⟩:=hs;refine⟨"str",_,F.slot_str_getitem.lookup,typeIs_str _ _ _,wpAny_getItem_str_slice (l:=l) (u:=u) (st:=none) ⟨o,g1,g2,g3⟩ rfl ?_⟩;have hp:(if((1:Int)==1&&(qI8 lo hi 1 z.length).length==z.length)=true then Made.val (.str z t)else Made.str ⟨((qI8 lo hi 1 z.length).filterMap (z.cps[·]?)).toArray⟩).post (EP X pins σ Q) s:=by
   refine post_val_or_str ⟨qAn (Txt.slice_le z lo hi) hz,fun t' k=>?_⟩;refine⟨.str (qLs z lo hi),H,I.tok _,⟨_,rfl⟩,?_⟩;rw[zPB];exact q
  unfold sliceMade slicePicked;rw[el,eu];exact hp
 |_=>exact qAf h
end
noncomputable def Its(z:Str):It:=⟨fun i _=>i<z.cps.size,fun i H x H'=>H'=H/\∃c,z.cps[i]?=some c/\x=.str ⟨#[c]⟩,fun i _=>z.cps.size<=i⟩
theorem zP9{P:qHr}{w:World}{K:qA2}{tg:Expr}(z:Str)(t:Tok)(it:Addr)(ty:String)(hty:ty=qIo z):Turn P w K tg (Its z) [it] it (fun i h=>h.IsStrIter it ty z t i) where
 mem:=by simp
 obj:=fun i h st b hb=>by
  have e:b=it:=by simpa using hb
  subst e;obtain⟨o,e,c,d⟩:=st;exact⟨o,e,fun v z=>by rw[d]at z;cases z⟩
 keep:=fun i h h' st k=>by obtain⟨o,ho,r⟩:=st;exact⟨o,k it (by simp) o ho,r⟩
 item:=by
  intro X hP hw hK hc i pins s σ H E I hf st hg;subst hP hw hK;have hi:i<z.cps.size:=hg;have hx:z.cps[i]?=some z.cps[i]:=qCl hi;obtain⟨f0,f1,f2,f3,f4,f5⟩:=hf it (by simp);have fin:∀h',h'.IsStrIter it ty z t (i+1)->qJm it s.heap h'->∃u,some (qJs ⟨#[z.cps[i]]⟩ s.toks)=some u/\wpAny (model X.prog X.w) X.A (letOwnedTupleGo tg (.ref it) u) (fun _ s2=>∃x H',Inv X pins σ H' s2/\RelV x u/\(Its z).yld i H x H'/\s2.heap.IsStrIter it ty z t (i+1)/\∀b∈[it],H' b=none) E { s with heap:=h',toks:=s.toks+1 }:=by
   intro h' st' sb;have I1:Inv X pins σ H { s with heap:=h',toks:=s.toks+1 }:=I.turned (t':=s.toks+1) (fun b o hb e=>(sb.2 b hb).trans e) f0 f1 f3 f4 f5;obtain⟨o,e,c,d⟩:=id st';refine⟨_,rfl,zNY (s:={ s with heap:=h',toks:=s.toks+1 }) e c d ?_ ⟨.str ⟨#[z.cps[i]]⟩,H,I1,⟨_,rfl⟩,⟨rfl,_,hx,rfl⟩,st',fun b hb=>(hf b hb).1⟩⟩;rw[hty];unfold qIo;split<;>decide
  cases ha:z.cps.all (· < 128)
  ·have e:ty = "str_iterator":=by rw[hty];unfold qIo;rw[ha];rfl
   subst e;exact wpAny_pyNext_wide_item st hx fun h' a b=>fin h' a b
  ·have e:ty = "str_ascii_iterator":=by rw[hty];unfold qIo;rw[ha];rfl
   subst e;exact wpAny_pyNext_ascii_item st hx fun h' a b=>fin h' a b
 done:=by
  intro X hP hw hK hc i pins s σ H E I hf st hg;subst hP hw hK;have hx:z.cps[i]?=none:=qEb hg;obtain⟨f0,f1,f2,f3,f4,f5⟩:=hf it (by simp);have fin:∀h',Heap.ExtBut it s.heap h'->(none:Option Value)=none/\Inv X pins σ H { s with heap:=h' }:=fun h' eb=>⟨rfl,I.turned (t':=s.toks) (fun b o hb e=>eb b o hb e) f0 f1 f3 f4 f5⟩
  cases ha:z.cps.all (· < 128)
  ·have e:ty = "str_iterator":=by rw[hty];unfold qIo;rw[ha];rfl
   subst e;exact wpAny_pyNext_wide_end (I.ok.hd hc) st hx fun h' a=>fin h' a
  ·have e:ty = "str_ascii_iterator":=by rw[hty];unfold qIo;rw[ha];rfl
   subst e;exact wpAny_pyNext_ascii_end (I.ok.hd hc) st hx fun h' a=>fin h' a
 self:=fun A i s Q E st h=>by
  cases ha:z.cps.all (· < 128)
  ·have e:ty = "str_iterator":=by rw[hty];unfold qIo;rw[ha];rfl
   subst e;exact wpAny_pyIter_striter_wide st h
  ·have e:ty = "str_ascii_iterator":=by rw[hty];unfold qIo;rw[ha];rfl
   subst e;exact wpAny_pyIter_striter_ascii st h
section
variable{X:Cx}
def iAny(K:qA2)(tl:TE):TI:=fun σ H R=>tl σ H fun x H1=>match x with
 |.ref a=>(∃xs,SqL K H1 a xs)/\R (Itl K a) H1\/(∃xs,SqT K H1 a xs)/\R (Itt K a) H1
 |.str z=>R (Its z) H1
 |_=>False
theorem zFU{K:qA2}{tg l:Expr}{tl:TE}(hl:PE X l tl)(hK:X.K=K:=by rfl):PI X tg l (iAny K tl):=by
 subst hK;intro pins s σ H R I h;refine thn (hl pins s σ H _ I h) fun v s1 z0=>?_
 obtain⟨x,H1,I1,r1,q1⟩:=z0;cases x with
 |ref a=>
  cases r1
  rcases q1 with⟨⟨xs,hq⟩,q⟩|⟨⟨xs,hq⟩,q⟩
  ·obtain⟨its,rv,p,hz⟩:=I1.list hq;refine wpAny_pyIter_list p.isList ?_;refine⟨s1.heap.objs.size,[s1.heap.objs.size],_,_,H1,rfl,I1.kept (t':=s1.toks) fun b o e=>qHq _ e,zM4 a _,⟨_,qHt _ rfl,rfl,rfl⟩,fun b hb=>?_,q⟩;have e:b=s1.heap.objs.size:=by simpa using hb
   subst e;exact I1.fpOk (qA6 _) (I1.hok.fresh (qA6 _))
  ·obtain⟨its,rv,p,hz⟩:=I1.tuple hq;refine wpAny_pyIter_tuple (show s1.heap.IsTuple a its.toArray from p) ?_;refine⟨s1.heap.objs.size,[s1.heap.objs.size],_,_,H1,rfl,I1.kept (t':=s1.toks) fun b o e=>qHq _ e,zL5 a _,⟨_,qHt _ rfl,rfl,rfl⟩,fun b hb=>?_,q⟩;have e:b=s1.heap.objs.size:=by simpa using hb
   subst e;exact I1.fpOk (qA6 _) (I1.hok.fresh (qA6 _))
 |str z=>
  obtain⟨t,rfl⟩:=r1;refine wpAny_pyIter_strU ?_;refine⟨s1.heap.objs.size,[s1.heap.objs.size],_,_,H1,rfl,I1.kept (t':=s1.toks) fun b o e=>qHq _ e,zP9 z t _ _ rfl,⟨_,qHt _ rfl,rfl,rfl⟩,fun b hb=>?_,q1⟩;have e:b=s1.heap.objs.size:=by simpa using hb
  subst e;exact I1.fpOk (qA6 _) (I1.hok.fresh (qA6 _))
 |_=>exact qAf q1
end
def XO(e:Addr)(C:Value)(d:Option Addr)(h:Heap):Prop:=∃oe vs,h.get? e=some oe/\oe.cls=C/\oe.dict=d/\oe.data=.fields vs/\1<vs.size
abbrev xo(e:Addr)(C:Value)(d:Option Addr):HO:=.ext (XO e C d)
def Fl(n:Nat)(e:Addr)(C:Value)(d:Option Addr)(mk:Value)(H:Hp)(h:Heap):Prop:=
 ∃oe vs T oT ts,h.get? e=some oe/\oe.cls=C/\oe.dict=d/\oe.data=.fields vs/\vs[1]?=some (.ref T)/\n<=T/\T≠e/\H T=none/\h.get? T=some oT/\oT.data=.fields ts/\ts[3]?=some mk
def Fly(n:Nat)(e:Addr)(C:Value)(d:Option Addr)(H:Hp)(h:Heap):Prop:=
 H e=some (xo e C d)/\((∃oe vs,h.get? e=some oe/\oe.cls=C/\oe.dict=d/\oe.data=.fields vs/\vs[1]?=some .none)\/Fl n e C d .none H h)
def Held(n:Nat)(e:Addr)(C:Value)(d:Option Addr)(L:Addr)(H:Hp)(h:Heap):Prop:=H e=some (xo e C d)/\Fl n e C d (rawInt L) H h
theorem Fly.mono{n n':Nat}{e:Addr}{C:Value}{d:Option Addr}{H:Hp}{h:Heap}(x:Fly n e C d H h)(hn:n'<=n):Fly n' e C d H h:=by
 obtain⟨a,b|⟨oe,vs,T,oT,ts,h1,h2,h3,h4,h5,h6,h7⟩⟩:=x
 ·exact⟨a,.inl b⟩
 ·exact⟨a,.inr ⟨oe,vs,T,oT,ts,h1,h2,h3,h4,h5,qAn hn h6,h7⟩⟩
structure Nt(n:Nat)(fs ch:List Addr)(e:Addr)(H:Hp)(h h':Heap):Prop where
 keep:∀b o,h.get? b=some o->b≠e->b∉fs->b∉ch->h'.get? b=some o
 slot:∀b o,h.get? b=some o->b≠e->b∉ch->∃sl,h'.get? b=some { o with slots:=sl }
 there:∀b o,h.get? b=some o->∃o',h'.get? b=some o'
 old:∀b∈ch,n<=b/\H b=none/\∃o vs,h.get? b=some o/\o.data=.fields vs
section
variable{M:Model}{A:qHv}{E:Value->qHp->Prop}{s:qHp}{n:Nat}{e L:Addr}{C:Value}{d:Option Addr}{H:Hp}{base:Heap}{env:Env}{outer:List Env}
theorem zRR{oe:Obj}{vs:Array Value}{head:Value}{hadNext:Bool}{Q:Unit->qHp->Prop}
  (hfr:A.frames=some (env::outer)) (hl:s.heap.FunFrames base (env::outer)) (hf:env.frame=some L)
  (he:s.heap.get? e=some oe) (hc:oe.cls=C) (hdi:oe.dict=d) (hd:oe.data=.fields vs) (hsz:1<vs.size) (hn:n<=s.heap.objs.size) (hH:∀b,s.heap.objs.size<=b->H b=none)
  (h:∀h',(∀b o,s.heap.get? b=some o->b≠e->b∉frs (env::outer)->h'.get? b=some o)->(∀b o,s.heap.get? b=some o->b≠e->∃sl,h'.get? b=some { o with slots:=sl }) ->
   (∃o',h'.get? e=some o')->Fl n e C d (rawInt L) H h'->Q () { s with heap:=h' }) :
  wpAny M A (do let a <- frameOf env;let pl <- entryPlaceOf L hadNext;let b <- qKp head a .none (rawInt L) .none pl;setField (.ref e) 1 b) Q E s:=by
 have hene:e∉(env::outer).filterMap (·.frame):=fun hm=>by
  obtain⟨_,o,ho,hnf⟩:=hl.mem hm;rw[he]at ho;injection ho with ho;subst ho;exact hnf vs hd
 refine wpAny_bind (wpAny_frameOf_fun hfr hl hf fun h₁ hs₁=>?_);refine wpAny_bind (wpAny_entryPlaceOf fun pl hpl=>?_);unfold qKp newFields;refine wpAny_bind (wpAny_newObj_type ?_ (hpl.sizeOk5 _ _ _ _ _));have he₁:h₁.get? e=some oe:=(hs₁.2.1 e hene).trans he;have he₂:=qHq (h:=h₁) { cls:=.type "traceback",dict:=none,data:=.fields ([head,.ref L,.none,rawInt L,.none]++(if pl.isEmpty then qA3 6 qHy else pl)).toArray } he₁;have hTe:h₁.objs.size≠e:=qCb (qHs he₁);have hd₃:=qIb hd (·.setIfInBounds 1 (qHw h₁.objs.size));have he₃:=qI0 (qI1 (·.setIfInBounds 1 (qHw h₁.objs.size))) he₂ (qIh hd₃);have hT₃:=(qHu (h₁.push { cls:=.type "traceback",dict:=none,data:=.fields ([head,.ref L,.none,rawInt L,.none]++(if pl.isEmpty then qA3 6 qHy else pl)).toArray })
  (qI1 (·.setIfInBounds 1 (qHw h₁.objs.size))) (qC8 hTe)).trans (qHt h₁ rfl)
 have keep:∀b o,b≠e->h₁.get? b=some o ->
   ((h₁.push { cls:=.type "traceback",dict:=none,data:=.fields ([head,.ref L,.none,rawInt L,.none]++(if pl.isEmpty then qA3 6 qHy else pl)).toArray }).update e (qI1 (·.setIfInBounds 1 (qHw h₁.objs.size)))).get? b=some o:=
  fun b o hbe hb=>by
   rw[qHu _ _ (qC8 hbe)];exact qHq _ hb
 have hsz1:h₁.objs.size=s.heap.objs.size:=hs₁.1;refine wpAny_setField he₂ hd hsz (h _ (fun b o hb hbe hbf=>keep b o hbe ((hs₁.2.1 b hbf).trans hb)) (fun b o hb hbe=>?_) ⟨_,he₃⟩ ?_)
 ·obtain⟨sl,e1⟩:=hs₁.2.2 b o hb;exact⟨sl,keep b _ hbe e1⟩
 ·have hdo:∀(o:Obj) f,(qI1 f o).dict=o.dict:=fun o f=>by unfold qI1;split<;>rfl
  exact⟨_,_,h₁.objs.size,_,_,he₃,(qL1 _ _).trans hc,(hdo _ _).trans hdi,hd₃,by simp[hsz],by rw[hsz1];exact hn,hTe,hH _ (by rw[hsz1];exact qA6 _),hT₃,rfl,
   by first|(simp;done)|(rcases hpl with rfl|⟨_,_,_,_,_,_,_,rfl⟩<;>simp)⟩
theorem zSY{Q:Unit->qHp->Prop}(hfr:A.frames=some (env::outer))(hl:s.heap.FunFrames base (env::outer))(hf:env.frame=some L)(x:Fly n e C d H s.heap)(hn:n<=s.heap.objs.size)(hH:∀b,s.heap.objs.size<=b->H b=none)
  (h:∀h' ch,Nt n (frs (env::outer)) ch e H s.heap h'->Held n e C d L H h'->Q () { s with heap:=h' }):wpAny M A (noteFrame (.ref e) env) Q E s:=by
 obtain⟨hx,⟨oe,vs,he,hc,hdi,hd,h1⟩|⟨oe,vs,T,oT,ts,he,hc,hdi,hd,h1,hnT,hTe,hHT,hT,hdT,h3⟩⟩:=x
 ·unfold noteFrame;simp only[hf];refine wpAny_bind (wpAny_field he hd h1 ?_);rw[if_neg (by decide)];refine zRR hfr hl hf he hc hdi hd (qBi.mp h1).1 hn hH fun h' k1 k2 k3 k4=>?_
  refine h h' [] ⟨fun b o hb hbe hbf _=>k1 b o hb hbe hbf,fun b o hb hbe _=>k2 b o hb hbe,fun b o hb=>?_,fun b hb=>nomatch hb⟩ ⟨hx,k4⟩
  by_cases z:b=e
  ·rw[z];exact k3
  ·obtain⟨sl,q⟩:=k2 b o hb z;exact⟨_,q⟩
 ·unfold noteFrame;simp only[hf];refine wpAny_bind (wpAny_field he hd h1 ?_);rw[if_pos (show(qHw T != qHy)=true from by simp)];refine wpAny_bind (wpAny_field hT hdT h3 ?_);rw[if_neg (show ¬((qHy==rawInt L)=true) from by simp[rawInt])];refine wpAny_bind (wpAny_setField hT hdT (qBi.mp h3).1 ?_);have other:∀b,b≠T->(s.heap.update T (qI1 (·.setIfInBounds 3 qHy))).get? b=s.heap.get? b:=fun b hb=>qHu _ _ (qC8 hb)
  have noRecord:∀b o,s.heap.get? b=some o->(∀vs,o.data≠.fields vs)->b≠T:=fun b o hb hnf q=>by
   rw[q,hT]at hb;injection hb with hb;subst hb;exact hnf ts hdT
  have hl1:=hl.of_keeps (h':=s.heap.update T (qI1 (·.setIfInBounds 3 qHy))) fun b o hb hnf=>⟨o,(other b (noRecord b o hb hnf)).trans hb,rfl⟩
  have hself:=qI0 (qI1 (·.setIfInBounds 3 qHy)) hT (qIh (qIb hdT _));have hsz:(s.heap.update T (qI1 (·.setIfInBounds 3 qHy))).objs.size=s.heap.objs.size:=by simp
  refine zRR (s:={ s with heap:=s.heap.update T (qI1 (·.setIfInBounds 3 qHy)) }) hfr hl1 hf ((other e (qC8 hTe)).trans he) hc hdi hd (qBi.mp h1).1 (by rw[hsz];exact hn) (by rw[hsz];exact hH) fun h' k1 k2 k3 k4=>?_
  have nT:∀b,b∉[T]->b≠T:=fun b hb z=>hb (by simp[z])
  refine h h' [T] ⟨fun b o hb hbe hbf hc=>k1 b o ((other b (nT b hc)).trans hb) hbe hbf,fun b o hb hbe hc=>k2 b o ((other b (nT b hc)).trans hb) hbe,fun b o hb=>?_,fun b hb=>?_⟩ ⟨hx,k4⟩
  ·by_cases z:b=e
   ·rw[z];exact k3
   ·by_cases z':b=T
    ·rw[z'];obtain⟨sl,q⟩:=k2 T _ hself hTe;exact⟨_,q⟩
    ·obtain⟨sl,q⟩:=k2 b o ((other b z').trans hb) z;exact⟨_,q⟩
  ·obtain rfl:b=T:=by simpa using hb
   exact⟨hnT,hHT,oT,ts,hT,hdT⟩
theorem zT2{Q:Unit->qHp->Prop}{fs:List Addr}{mk:Value}(x:Fl n e C d mk H s.heap)
  (h:∀h' ch,Nt n fs ch e H s.heap h'->Fl n e C d .none H h'->Q () { s with heap:=h' }):wpAny M A (setFlight (.ref e) none) Q E s:=by
 obtain⟨oe,vs,T,oT,ts,he,hc,hdi,hd,h1,hnT,hTe,hHT,hT,hdT,h3⟩:=x;have hsz3:3<ts.size:=(qBi.mp h3).1;have other:∀b,b≠T->(s.heap.update T (qI1 (·.setIfInBounds 3 ((none:Option Addr).elim qHy fun f=>rawInt f)))).get? b=s.heap.get? b:=
  fun b hb=>qHu _ _ (qC8 hb)
 have hself:=qI0 (qI1 (·.setIfInBounds 3 ((none:Option Addr).elim qHy fun f=>rawInt f))) hT (qIh (qIb hdT _));have nT:∀b,b∉[T]->b≠T:=fun b hb z=>hb (by simp[z])
 unfold setFlight;refine wpAny_bind (wpAny_field he hd h1 ?_);rw[if_pos (show(qHw T != qHy)=true from by simp)];refine wpAny_setField hT hdT hsz3 (h _ [T] ⟨fun b o hb _ _ hc=>(other b (nT b hc)).trans hb,fun b o hb _ hc=>⟨o.slots,(other b (nT b hc)).trans hb⟩,fun b o hb=>?_,fun b hb=>?_⟩ ?_)
 ·by_cases z:b=T
  ·rw[z];exact⟨_,hself⟩
  ·exact⟨o,(other b z).trans hb⟩
 ·obtain rfl:b=T:=by simpa using hb
  exact⟨hnT,hHT,oT,ts,hT,hdT⟩
 ·exact⟨oe,vs,T,_,_,(other e (qC8 hTe)).trans he,hc,hdi,hd,h1,hnT,hTe,hHT,hself,qIb hdT _,by simp[hsz3]⟩
end
section
variable{X:Cx}{pins:List (Addr×Obj)}{σ:St}{H:Hp}{s:qHp}{n:Nat}{e:Addr}{C:Value}{d:Option Addr}{A:qHv}{E:Value->qHp->Prop}{fs ch:List Addr}{h h':Heap}
theorem Nt.hok{P:qHr}{w:World}(t:Nt n fs ch e H h h')(k:HOk P w H h)(he:H e=some (xo e C d))(hfs:∀b∈fs,H b=none)(f:XO e C d h'):HOk P w H h':=fun a o ha=>by
 by_cases z:a=e
 ·subst z;rw[he]at ha;cases ha;obtain⟨oe,vs,h1,r⟩:=id f;exact⟨f,⟨oe,h1⟩,(k a _ he).2.2⟩
 ·refine(k a o ha).stay (fun b u hb q=>?_) (fun _ q=>q) (fun _ _ q=>q) fun _ _ _ q _=>q
  have hb':H b≠none:=by
   rcases hb with rfl|hb
   ·rw[ha];exact fun z=>by cases z
   ·rw[hb];exact fun z=>by cases z
  have hbe:b≠e:=by
   rcases hb with rfl|hb
   ·exact z
   ·intro y;rw[y,he]at hb;cases hb
  exact t.keep b u q hbe (fun y=>hb' (hfs b y)) fun y=>hb' (t.old b y).2.1
theorem Fl.xo{mk:Value}(f:Fl n e C d mk H h):XO e C d h:=by
 obtain⟨oe,vs,T,oT,ts,h1,h2,h3,h4,h5,_⟩:=f;exact⟨oe,vs,h1,h2,h3,h4,(qBi.mp h5).1⟩
theorem Nt.un(t:Nt n fs ch e H h h')(he:H e=some (xo e C d)):Un fs ch H H h h':=
 ⟨fun b o q hn hf hc=>t.keep b o q (fun z=>by rw[z,he]at hn;cases hn) hf hc,fun b o q hn _ hc=>t.slot b o q (fun z=>by rw[z,he]at hn;cases hn) hc,fun _ _ _ hn _=>hn,fun b o q _=>t.there b o q,fun _ _ q=>q,fun _ _ _ q=>q,fun b ps q=>⟨#[],by simpa using q⟩⟩
theorem Inv.noted(I:Inv X pins σ H s)(t:Nt n (frs X.stack) ch e H s.heap h')(he:H e=some (xo e C d))(f:XO e C d h')(hn:X.s₀.heap.objs.size<=n)(hp:∀p∈X.pn++pins,p.1<n):Inv X pins σ H { s with heap:=h' }:=by
 refine I.call' rfl (t.un he) (t.hok I.hok he I.stkFree f) I.bare fun b hb=>?_
 obtain⟨h1,h2,o,vs,h3,h4⟩:=t.old b hb;refine⟨.inr (qAn hn h1),?_,?_,fun p hp' z=>?_⟩
 ·intro z;obtain⟨m,⟨o',es,ep,ho',hd',_⟩,_⟩:=I.loc;rw[z,ho']at h3;cases h3;rw[hd']at h4;cases h4
 ·intro x c hx z;obtain⟨v,o',ho',hd'⟩:=I.cell x c hx;rw[<- z,ho']at h3;cases h3;rw[hd']at h4;cases h4
 ·have:=hp p hp'
  rw[z]at this;exact absurd h1 (Nat.not_le_of_lt this)
theorem zPU{Q:Unit->qHp->Prop}{M:Model}(I:Inv X pins σ H s)(hA:A.frames=some X.stack)(hs:X.stack=X.env::X.outer/\X.env.frame=some X.env.locals)(x:Fly n e C d H s.heap)(hn:X.s₀.heap.objs.size<=n)(hn':n<=s.heap.objs.size)
  (hp:∀p∈X.pn++pins,p.1<n) (h:∀s',Inv X pins σ H s'->Held n e C d X.env.locals H s'.heap->Q () s'):wpAny M A (noteFrame (.ref e) X.env) Q E s:=by
 have hst:=I.stack;rw[hs.1]at hA hst;refine zSY hA hst hs.2 x hn' (fun b hb=>I.hok.fresh hb) fun h' ch t y=>h _ (I.noted (ch:=ch) (by rw[hs.1];exact t) x.1 y.2.xo hn hp) y
theorem zPZ{Q:Unit->qHp->Prop}{M:Model}{mk:Value}(I:Inv X pins σ H s)(hx:H e=some (xo e C d))(x:Fl n e C d mk H s.heap)(hn:X.s₀.heap.objs.size<=n)
  (hp:∀p∈X.pn++pins,p.1<n) (h:∀s',Inv X pins σ H s'->Fl n e C d .none H s'.heap->Q () s'):wpAny M A (setFlight (.ref e) none) Q E s:=
 zT2 (fs:=frs X.stack) x fun h' ch t y=>h _ (I.noted t hx y.xo hn hp) y
theorem zNL{Q:Unit->qHp->Prop}{M:Model}(I:Inv X pins σ H s)(hA:A.frames=some X.stack)(hs:X.stack=X.env::X.outer/\X.env.frame=some X.env.locals)(x:Fly n e C d H s.heap)(hn:X.s₀.heap.objs.size<=n)(hn':n<=s.heap.objs.size)
  (hp:∀p∈X.pn++pins,p.1<n) (h:∀s',Inv X pins σ H s'->Fly n e C d H s'.heap->Q () s'):wpAny M A (leaving X.env (.ref e)) Q E s:=by
 unfold leaving;exact wpAny_bind (zPU I hA hs x hn hn' hp fun s1 I1 y=>zPZ I1 y.1 y.2 hn hp fun s2 I2 z=>h s2 I2 ⟨y.1,.inr z⟩)
end
def CXe(P:qHr)(w:World):CXT:=fun outer H s E x s'=>∃e C d H',x=.ref e/\s'.os=s.os/\qJw s'.gens/\Un (frs outer) [] H H' s.heap s'.heap/\HOk P w H' s'.heap/\Fly s.heap.objs.size e C d H' s'.heap/\s.heap.objs.size<=s'.heap.objs.size/\E x d H'
section
variable{X:Cx}{pins:List (Addr×Obj)}{σ:St}{H:Hp}{s s':qHp}{E E':XK}
theorem Inv.pinlt(I:Inv X pins σ H s):∀p∈X.pn++pins,p.1<s.heap.objs.size:=fun p hp=>qHs (I.pin p hp).1
def XP(X:Cx)(pins:List (Addr×Obj))(σ:St)(E:XK)(x:Value)(s':qHp):Prop:=∃n e C d H',x=.ref e/\Inv X pins σ H' s'/\Fly n e C d H' s'.heap/\X.s₀.heap.objs.size<=n/\n<=s'.heap.objs.size/\(∀p∈X.pn++pins,p.1<n)/\E x d H'
theorem Inv.flown{x:Value}(I:Inv X pins σ H s)(h:CXe X.prog X.w X.stack H s E x s'):XP X pins σ E x s':=by
 obtain⟨e,C,d,H',rfl,ho,hb,u,hk,f,hz,q⟩:=h;exact⟨_,e,C,d,H',rfl,I.call' ho u hk hb (fun b z=>absurd z (by simp)),f,I.sz,hz,I.pinlt,q⟩
end
section
variable{P:qHr}{w:World}{K:qA2}{mg:Str->Option Value}{base:Heap}{N:List Str}{qual:Str}{scope:Scope}{f:Addr}{cd:Value}{A:qHv}{outer:List Env}{s:qHp}{H:Hp}{E E':XK}
theorem zU4{pins:List (Addr×Obj)}{σ:St}{x:Value}{s':qHp}(hE:∀C d H',E' C d H'->E C d H')
  (h:XP (cxOf (CXe P w) P w K mg base N qual scope f cd A outer s H E) pins σ E' x s'):(cxOf (CXe P w) P w K mg base N qual scope f cd A outer s H E).xe x s':=by
 obtain⟨n,e,C,d,H',rfl,I,fl,hn,hz,hp,q⟩:=h;refine zNL I I.ok.frames ⟨rfl,rfl⟩ fl hn hz hp fun s2 I2 f2=>?_
 exact⟨e,C,d,H',rfl,I2.os,I2.bare,I2.base,I2.hok,f2.mono hn,I2.sz,hE _ _ _ q⟩
end
abbrev TEX:=St->Hp->VK->XK->Prop
abbrev TSX:=Ends->(St->XK)->St->Hp->Prop
section
variable{X:Cx}{k:Nat}{f:Addr}{fd:qI6}{ps:List Str}{sp:Sp}{dvs:List V}{ds:List Value}{x:Str}{p pos:Pos}{e:Expr}{es:List Expr}{t:TA}{te:TE}{tx:TEX}{st:Stmt}{rest:List Stmt}{u u':TSX}
variable{pins:List (Addr×Obj)}{σ:St}{H:Hp}{s:qHp}{a:Addr}
end
end L2
namespace PySem.W
open PySem PySem.Calls PyProof.Rows Builtin Builtin.ObjectAttr
noncomputable def excTail:List Value->Bool
 |.ref _::r=>excTail r
 |[.type a,.type b,.type c,.type d]=>a == "ValueError" && b == "Exception" && c == "BaseException" && d == "object"
 |_=>false
theorem zJD{a b c d:String}(e:excTail [.type a,.type b,.type c,.type d]=true):a = "ValueError"/\b = "Exception"/\c = "BaseException"/\d = "object":=by
 simp only[excTail,qBu,beq_iff_eq]at e;exact⟨e.1.1.1,e.1.1.2,e.1.2,e.2⟩
theorem zDR:∀{l:List Value},excTail l=true->∃as:List Addr,l=as.map qHw++[.type "ValueError",.type "Exception",.type "BaseException",.type "object"]
 |.ref a::r,e=>by
  obtain⟨as,rfl⟩:=zDR (l:=r) e;exact⟨a::as,rfl⟩
 |[.type a,.type b,.type c,.type d],e=>by
  obtain⟨rfl,rfl,rfl,rfl⟩:=zJD e;exact⟨[],rfl⟩
def excOver(K:Frag)(C:Addr):Bool:=(clsIn K C).any fun cd=>excTail cd.mro
section
variable{prog:qHr}{w:World}{A:qHv}{s:qHp}{K:Frag}{x C:Addr}{R:qKt->qHp->Prop}
end
end PySem.W
namespace PySem.W
open PySem
def xcIn(K:Frag)(C:Addr):Bool:=match K.lookup C with
 |some ⟨.type "type",_,.cls cd,sl⟩=>(match cd.mro,sl.toList with
  |.ref C'::bm,[_,_,_,_,some (.builtin n),_]=>C'==C && !cd.hasDel&&excTail bm&&n == "ValueError.__new__" && cd.hasDict
  |_,_=>false)
 |_=>false
theorem xc_cls{K:Frag}{h:Heap}{C:Addr}(X:K.In h)(q:xcIn K C=true):∃nm qn N bs bm hdct sn sub ab col dd k0 k1 k2 k3 k5,
  h.get? C=some (excClassObj nm qn C N bs bm hdct sn sub ab col dd k0 k1 k2 k3 k5 "ValueError.__new__")/\excTail bm=true:=by
 unfold xcIn at q
 split at q
 ·rename_i dd cd sl ho
  split at q
  ·rename_i C' bm k0 k1 k2 k3 n k5 hm hs
   simp only[qBu,beq_iff_eq,Bool.not_eq_true']at q;obtain⟨⟨⟨⟨rfl,hdel⟩,hb⟩,hn⟩,hd⟩:=q;subst hn;obtain⟨nm,bs,mro,ns,qn,hd',sn,sub,ab,col,del⟩:=cd;dsimp only at hm hdel;subst hm hdel;have hsl:sl=#[k0,k1,k2,k3,some (.builtin "ValueError.__new__"),k5]:=by
    obtain⟨l⟩:=sl;simp only at hs;rw[hs]
   subst hsl;exact⟨nm,qn,ns,bs,bm,hd',sn,sub,ab,col,dd,k0,k1,k2,k3,k5,X _ _ ho,hb⟩
  ·cases q
 ·cases q
theorem exc_con{l:List Value}{T:String}{b:Bool}(e:excTail l=true)(hb:List.contains [qJ9 "ValueError",.type "Exception",.type "BaseException",.type "object"] (.type T)=b):l.contains (.type T)=b:=by
 obtain⟨as,rfl⟩:=zDR e;clear e
 induction as with
 |nil=>exact hb
 |cons a r ih=>rw[qAj,qD1,qBm,ih];rfl
end PySem.W
namespace PySem.Xc
open PySem
section
variable{M:Model}{prog:qHr}{w:World}{A:qHv}{E:Value->qHp->Prop}{h:Heap}{g:Array qJ0}{d:Drawn}{t:Nat}{os:OsState}{R:qKt->qHp->Prop}
variable{nm q:Str}{C N:Addr}{bs bm bmB:List Value}{hdct:Bool}{sn:List Str}{sub:List Value}{ab:Bool}{col:Option Bool}{dd:Option Addr}{k0 k1 k2 k3 k5:Option Value}{B newId initId:String}
theorem zLV(F:qJo B newId initId bmB)(hB:bm.contains (.type B)=true){rest:List Value}{Q:Unit->qHp->Prop}(hC:h.get? C=some (excClassObj nm q C N bs bm hdct sn sub ab col dd k0 k1 k2 k3 k5 newId))
  (hq:Q () ⟨h,g,d,t,os⟩):wpAny M A (checkBuiltinCall newId ⟨.ref C::rest,[]⟩) Q E ⟨h,g,d,t,os⟩:=by
 have hcont:(qHw C::bm).contains (.type B)=true:=by rw[qBm,hB,qEi]
 have hstar:=F.noStar;simp only[checkBuiltinCall,F.newKind,F.newSplit,F.newRow]
 repeat (first|refine qI2 hC ?_|(refine qIf hC ?_;rw[hcont])|refine wpAny_staticBase_exc hC ?_|refine wpAny_madeBy_exc hC ?_|simp only[bne_self_eq_false,qC9,if_false]|wp_step)
 exact hq
theorem zON(F:qJo B newId initId bmB)(hB:bm.contains (.type B)=true)(hA:bm.contains (.type "AttributeError")=false)(hN:bm.contains (.type "NameError")=false){rest:List Value}(hC:h.get? C=some (excClassObj nm q C N bs bm hdct sn sub ab col dd k0 k1 k2 k3 k5 newId))
  (hq:R (.ok (.ret (.ref (h.objs.size+1)))) ⟨(h.push { cls:=.type "tuple",data:=.seq rest.toArray }).push
   { cls:=.ref C,data:=.fields #[.ref h.objs.size,.none,.none,.none,.bool false,.none] },g,d,t,os⟩) (hrest:rest.length<=sizeLine) :
  qJ4 (model prog w) A (.builtin newId ⟨.ref C::rest,[]⟩) R ⟨h,g,d,t,os⟩:=by
 have hends:=F.ends;have hcB:(qHw C::bm).contains (.type B)=true:=by rw[qBm,hB,qEi]
 have hcA:(qHw C::bm).contains (.type "AttributeError")=false:=by rw[qBm,hA];rfl
 have hcN:(qHw C::bm).contains (.type "NameError")=false:=by rw[qBm,hN];rfl
 refine codeAny_builtinAt F.entry ?_;unfold qLg.«BaseException.__new__»;refine wpAt_bind ?_;show wpAt _ _ _ (stack >>= _) _ _ _;refine wpAt_bind (wpAt_stack fun p below=>wpAt_of_wpAny ?_)
 wp_walk
 refine wpAt_of_wpAny ?_;rw[F.owner]
 repeat (first|with_reducible refine wpAny_madeHere_exc F.canon hC ?_|with_reducible refine qI2 hC ?_|(with_reducible refine qIf hC ?_;first|rw[hcB]|rw[hcA]|rw[hcN])|wp_step)
 show R _ _;rw[qIg];exact hq
theorem zJI(F:qJo B newId initId bmB)(hB:bm.contains (.type B)=true){e:Addr}{oe:Obj}{rest:List Value}{Q:Unit->qHp->Prop}{newId':String}
  (hC:h.get? C=some (excClassObj nm q C N bs bm hdct sn sub ab col dd k0 k1 k2 k3 k5 newId')) (he:h.get? e=some oe) (hcls:oe.cls=.ref C) (hq:Q () ⟨h,g,d,t,os⟩) :
  wpAny M A (checkBuiltinCall initId ⟨.ref e::rest,[]⟩) Q E ⟨h,g,d,t,os⟩:=by
 have hcB:(qHw C::bm).contains (.type B)=true:=by rw[qBm,hB,qEi]
 have hshort:=F.noStar;simp only[checkBuiltinCall,F.initKind,F.initSplit,F.initRow]
 repeat (first|(with_reducible refine qI2 he ?_;rw[hcls])|with_reducible refine qI2 hC ?_|(with_reducible refine qIf hC ?_;rw[hcB])|wp_step)
 refine wpAny_onRaise ?_;rw[show ∀(a b:String)(n:Nat),Bind.check ⟨.positional,"*",B,.self,[⟨"args",.varPos,false⟩]⟩ a b n (qHj (fun x=>x.fst) ({ pos:=qHw e::rest }:Args).kw)=pure () from
  fun a b n=>check_star_args _ _ _ _ _ _]
 exact wpAny_pure hq
theorem zL4(F:qJo B newId initId bmB)(hB:bm.contains (.type B)=true)(hA:bm.contains (.type "AttributeError")=false)(hN:bm.contains (.type "NameError")=false){rest:List Value}{Q:Fin->qHp->Prop}
  (hC:h.get? C=some (excClassObj nm q C N bs bm hdct sn sub ab col dd k0 k1 k2 k3 k5 newId)) (hi:qH4 (model prog w) h (typeLookup (.ref C) "__init__") (some (.builtin initId)))
  (hq:∀h' e,qJp h h' e (.ref C) rest->h.objs.size<=e->Q (.done (.ret (.ref e))) ⟨h',g,d,t,os⟩) (hrest:rest.length<=sizeLine) :
  wpAny (model prog w) A (qLg.«type.__call__» ⟨.ref C::rest,[]⟩) Q E ⟨h,g,d,t,os⟩:=by
 repeat (first|with_reducible refine qI2 hC ?_|with_reducible refine wpAny_madeBy_exc hC ?_|wp_step)
 refine codeAny_call_builtin_code (qKu _ F.quiet) (zLV F hB hC ?_);refine zON F hB hA hN hC ?_ hrest;show wpAny _ _ _ _ _ _;have hC₁:=qHq { cls:=.ref C,data:=.fields #[.ref h.objs.size,.none,.none,.none,.bool false,.none] }
  (qHq { cls:=.type "tuple",data:=.seq rest.toArray } hC)
 have hi₁:=hi.keeps (h':=(h.push { cls:=.type "tuple",data:=.seq rest.toArray }).push { cls:=.ref C,data:=.fields #[.ref h.objs.size,.none,.none,.none,.bool false,.none] }) fun b o e=>qHq _ (qHq _ e)
 have hget:((h.push { cls:=.type "tuple",data:=.seq rest.toArray }).push
   { cls:=.ref C,data:=.fields #[.ref h.objs.size,.none,.none,.none,.bool false,.none] }).get? (h.objs.size+1)=some
   { cls:=.ref C,data:=.fields #[.ref h.objs.size,.none,.none,.none,.bool false,.none] }:=by heap_get
 have hcC:(qHw C::bm).contains (.ref C)=true:=by simp
 unfold isInstance
 repeat (first|with_reducible refine qI2 hget ?_|(with_reducible refine qIf hC₁ ?_;rw[hcC])|wp_step)
 show wpAny _ _ (typeLookup (.ref C) _) _ _ _;refine hi₁.here ?_;refine wpAny_holding (wpAny_bind (wpAny_of_eq (F.init.bind _) ?_));refine wpAny_bind (wpAny_call (codeAny_call_builtin F.init.plain F.initEntry (zJI F hB hC₁ hget rfl ?_)))
 wp_walk
 refine hq _ _ ⟨fun b o hb=>?_,qIl (qDx _),h.objs.size+2,?_,qIl (by lia),?_⟩ (qDx _)
 ·rw[qHu _ _ (qCb (qFf (qHs hb)))];exact qHq _ (qHq _ (qHq _ hb))
 ·rw[qI0 _ (qHq _ hget) rfl];simp only[qIg];rfl
 ·rw[qHu _ _ (show h.objs.size+1≠h.objs.size+2 by lia)];exact Heap.get?_push_at (by simp only[qIg]) rfl
theorem callX(F:qJo B newId initId bmB)(hB:bm.contains (.type B)=true)(hA:bm.contains (.type "AttributeError")=false)(hN:bm.contains (.type "NameError")=false){rest:List Value}{Q:Value->qHp->Prop}
  (hC:h.get? C=some (excClassObj nm q C N bs bm hdct sn sub ab col dd k0 k1 k2 k3 k5 newId)) (hi:qH4 (model prog w) h (typeLookup (.ref C) "__init__") (some (.builtin initId)))
  (hq:∀h' e,qJp h h' e (.ref C) rest->h.objs.size<=e->Q (.ref e) ⟨h',g,d,t,os⟩) (hrest:rest.length<=sizeLine) :
  wpAny (model prog w) A (call (.ref C) rest) Q E ⟨h,g,d,t,os⟩:=by
 have f1:=tc_lookup;have f2:=tc_bind (.ref C);have hT:(⟨h,g,d,t,os⟩:qHp).TypeIs (.ref C) "type":=⟨_,hC,rfl⟩
 refine wpAny_call (codeAny_of_tree ?_);show wpAny _ _ (callAny (.ref C) _) _ _ _
 repeat (any_goals (first|assumption|with_reducible refine qI2 hC ?_|wp_step))
 refine⟨rfl,?_⟩;refine codeAny_call_builtin_at (qKu _ (by decide +kernel)) entry_typeCall (wpAny_check_type_call_sub hC (zL4 (hrest:=hrest) F hB hA hN hC hi fun h' e hm hz=>?_));exact hq h' e hm hz
end
section
variable{M:Model}{A:qHv}{E:Value->qHp->Prop}{s:qHp}{env:Env}
variable{nm q:Str}{C N:Addr}{bs bm:List Value}{hdct:Bool}{sn:List Str}{sub:List Value}{ab:Bool}{col:Option Bool}{dd:Option Addr}{k0 k1 k2 k3 k5:Option Value}{newId:String}
theorem raiseX{x:Sem Value}{Q:Flow->qHp->Prop}(hh:A.handled=none)
  (h:wpAny M A x (fun v s₁=>∃e t di nm q C N bs bm hdct sn sub ab col dd k0 k1 k2 k3 k5 newId,v=.ref e/\s₁.heap.get? C=some (excClassObj nm q C N bs bm hdct sn sub ab col dd k0 k1 k2 k3 k5 newId)/\bm.contains (.type "BaseException")=true /\
   s₁.heap.get? e=some { cls:=.ref C,dict:=di,data:=.fields #[.ref t,.none,.none,.none,.bool false,.none] }/\E (.ref e) s₁) E s) :
  wpAny M A (raiseStmt env (some x) none) Q E s:=by
 unfold raiseStmt;refine wpAny_bind (wpAny_mono h (fun v s₁ h₁=>?_) fun _ _ x=>x);obtain⟨e,t,di,nm,q,C,N,bs,bm,hdct,sn,sub,ab,col,dd,k0,k1,k2,k3,k5,newId,rfl,hC,hbase,he,hE⟩:=h₁;have hcB:(qHw C::bm).contains (.type "BaseException")=true:=by rw[qBm,hbase,qEi]
 obtain⟨hp,g,d,tk,os⟩:=s₁
 repeat (first|with_reducible refine qI2 he ?_|with_reducible refine qI2 hC ?_|(with_reducible refine qIf hC ?_;rw[hcB])|wp_step)
 exact wpAny_raiseNew_none hh hE
theorem RaiseX{x:Expr}{pos:Pos}{Q:Flow->qHp->Prop}(hh:A.handled=none)
  (h:wpAny M A (eval x env) (fun v s₁=>∃e t di nm q C N bs bm hdct sn sub ab col dd k0 k1 k2 k3 k5 newId,v=.ref e/\s₁.heap.get? C=some (excClassObj nm q C N bs bm hdct sn sub ab col dd k0 k1 k2 k3 k5 newId)/\bm.contains (.type "BaseException")=true /\
   s₁.heap.get? e=some { cls:=.ref C,dict:=di,data:=.fields #[.ref t,.none,.none,.none,.bool false,.none] }/\E (.ref e) s₁) E s) :
  wpAny M A (exec (.Raise (some x) none pos) env) Q E s:=by
 rw[arm_exec_Raise]
 first
  |exact wpAny_bind (wpAny_standAt (raiseX hh (wpAny_bind (wpAny_mono h (fun v s₁ h₁=>wpAny_bind (wpAny_standAt (wpAny_pure h₁))) fun _ _ x=>x))))
  |(simp only[evalOpt,qGy];exact wpAny_bind (wpAny_standAt (raiseX hh (wpAny_bind (wpAny_mono h (fun v s₁ h₁=>wpAny_bind (wpAny_standAt (wpAny_pure h₁))) fun _ _ x=>x)))))
  |(show wpAny M A (do qLq pos;raiseStmt env (some (do let v <- eval x env;qLq pos;pure v)) none) Q E s;exact wpAny_bind (wpAny_standAt (raiseX hh (wpAny_bind (wpAny_mono h (fun v s₁ h₁=>wpAny_bind (wpAny_standAt (wpAny_pure h₁))) fun _ _ x=>x)))))
end
section
open PySem.W
variable{prog:qHr}{w:World}{A:qHv}{E:Value->qHp->Prop}{K:Frag}{x C:Addr}{ox:Obj}{od:Option Obj}{name:Str}{expr fill:Bool}{h:Heap}{g:Array qJ0}{d:Drawn}{t:Nat}{os:OsState}
end
end PySem.Xc
namespace L2
open PySem PySem.Spec PyProof.Rows
def XN(e:Addr)(C:Value)(d:Option Addr)(h:Heap):Prop:=∃t1,h.get? e=some { cls:=C,dict:=d,data:=.fields #[.ref t1,.none,.none,.none,.bool false,.none] }
abbrev xn(e:Addr)(C:Value)(d:Option Addr):HO:=.ext (XN e C d)
theorem zS2{e:Addr}{C:Value}{d:Option Addr}(h1 h2:Heap)(x:XN e C d h1)(k:∀o,h1.get? e=some o->h2.get? e=some o):XN e C d h2:=let⟨t1,a⟩:=x;⟨t1,k _ a⟩
theorem zS1{e:Addr}{C:Value}{d:Option Addr}(h1 h2:Heap)(x:XO e C d h1)(k:∀o,h1.get? e=some o->h2.get? e=some o):XO e C d h2:=let⟨oe,vs,a,r⟩:=x;⟨oe,vs,k _ a,r⟩
theorem zYH{P:qHr}{w:World}{H:Hp}{h:Heap}{e:Addr}{C:Value}{d:Option Addr}(x:XN e C d h):ObjOk P w H h e (xn e C d):=⟨x,let⟨t1,a⟩:=x;⟨_,a⟩,zS2⟩
theorem zYG{P:qHr}{w:World}{H:Hp}{h:Heap}{e:Addr}{C:Value}{d:Option Addr}(x:XO e C d h):ObjOk P w H h e (xo e C d):=⟨x,let⟨oe,vs,a,_⟩:=x;⟨_,a⟩,zS1⟩
section
variable{X:Cx}{pins:List (Addr×Obj)}{σ:St}{H:Hp}{s:qHp}{k:Nat}{f C:Addr}{fd:qI6}{ps:List Str}{sp:Sp}{x:Str}{p pos:Pos}{e:Expr}{es:List Expr}{t:TA}{te:TE}
def zIT(C:Addr)(t:TA):TE:=fun σ H Q=>t σ H fun vs H1=>vs.length<=sizeLine/\∀e,H1 e=none->Q (.ref e) (upd H1 e (xn e (.ref C) none))
theorem Inv.madeX{h':Heap}{e:Addr}{us:List Value}(I:Inv X pins σ H s)(m:qJp s.heap h' e (.ref C) us)(hs:s.heap.objs.size<=e):H e=none/\Inv X pins σ (upd H e (xn e (.ref C) none)) { s with heap:=h' }:=by
 obtain⟨t1,h1,_⟩:=m.there;exact⟨I.hok.fresh hs,I.laid (t':=s.toks) m.keeps hs (zYH ⟨t1,h1⟩)⟩
theorem zL8{Q:VK}{us:List Value}{vs:List V}(hc:PySem.W.xcIn X.K C=true)(hi:qB2 X.K (.ref C) "__init__" = some (some (.builtin "ValueError.__init__")))
  (I:Inv X pins σ H s) (r:Vals vs us) (hz:vs.length<=sizeLine) (h:∀e,H e=none->Q (.ref e) (upd H e (xn e (.ref C) none))):wpAny (model X.prog X.w) X.A (call (.ref C) us) (EP X pins σ Q) X.xe s:=by
 obtain⟨nm,qn,N,bs,bm,hdct,sn,sub,ab,col,dd,k0,k1,k2,k3,k5,hC,ht⟩:=PySem.W.xc_cls I.kIn hc;have hus:us.length<=sizeLine:=by rw[<- r.length];exact hz
 have key:∀h' e,qJp s.heap h' e (.ref C) us->s.heap.objs.size<=e->EP X pins σ Q (.ref e) { s with heap:=h' }:=by
  intro h' e m hs;obtain⟨he,I2⟩:=I.madeX m hs;exact⟨.ref e,_,I2,rfl,h e he⟩
 have hK:=PySem.W.looks_findIn (M:=model X.prog X.w) I.kIn hi;obtain⟨hh,g,d,tk,os⟩:=s;exact Xc.callX PySem.F.excBase_ValueError (PySem.W.exc_con ht (by decide)) (PySem.W.exc_con ht (by decide)) (PySem.W.exc_con ht (by decide)) hC hK key hus
theorem zN0(hc:PySem.W.xcIn X.K C=true)(hi:qB2 X.K (.ref C) "__init__" = some (some (.builtin "ValueError.__init__")))(hg:Gl X x)(hm:X.mg x=some (.ref C))(hk:qB4 X.K (.ref C)=true)
  (ha:PA X (e::es) t) (hdb:(x==("__debug__":Str))=false:=by decide) (he:starEach (e::es) X.env=(false,eval e X.env)::starEach es X.env:=by rfl) (hpl:(backTo pos (starEach es X.env)).any (·.1)=false:=by rfl) :
  PE X (.Call (.Name x p) (e::es) [] pos) (zIT C t):=by
 intro pins s σ H Q I h;refine qIu (zJ6 I hg hm ?_ hdb);refine qF3 (h₀:=X.base) I.ok.mod.kin hk (thn (ha pos pins s σ H _ I h) fun us s1 ⟨vs,H1,I1,r,z,q⟩=>⟨I1.kIn,?_⟩) he hpl;exact zL8 hc hi I1 r z q
theorem Inv.xn{e:Addr}{d:Option Addr}{Cv:Value}(I:Inv X pins σ H s)(h:H e=some (xn e Cv d)):XN e Cv d s.heap:=(I.hok e _ h).1
theorem XN.xo{h:Heap}{e:Addr}{d:Option Addr}{Cv:Value}(x:XN e Cv d h):XO e Cv d h:=let⟨t1,a⟩:=x;⟨_,_,a,rfl,rfl,rfl,by simp⟩
theorem Inv.raised{e:Addr}{d:Option Addr}(I:Inv X pins σ H s)(h:H e=some (L2.xn e (.ref C) d))(E:XK)(q:E (.ref e) d (upd H e (xo e (.ref C) d))):XP X pins σ E (.ref e) s:=by
 have x:=I.xn h;obtain⟨t1,a⟩:=id x;have I':Inv X pins σ (upd H e (xo e (.ref C) d)) s:=I.write (t':=s.toks) (h':=s.heap) (e:=e) (by rw[h];trivial) (.inl rfl) (fun _ _ _ q=>q) ⟨_,a⟩ (zYG x.xo);exact⟨s.heap.objs.size,e,.ref C,d,_,rfl,I',⟨zAE,.inl ⟨_,_,a,rfl,rfl,rfl,rfl⟩⟩,I.sz,qA6 _,I.pinlt,q⟩
def Flies(X:Cx)(E:XK):Prop:=∀(pins:List (Addr×Obj))(σ:St)(x:Value)(s':qHp),XP X pins σ E x s'->X.xe x s'
theorem Flies.passes{E:XK}(h:Flies X E):zL1 (CXe X.prog X.w) X E:=fun pins σ H s x s' I q=>h pins σ x s' (I.flown q)
def zQY(K:qA2)(E:XK)(te:TE):TS:=fun _ σ H=>te σ H fun v H1=>∃e C d,v=.ref e/\H1 e=some (L2.xn e (.ref C) d)/\PySem.W.xcIn K C=true/\E (.ref e) d (upd H1 e (xo e (.ref C) d))
theorem zPN{E:XK}(he:PE X e te)(hf:Flies X E)(hc:X.calm=true):PS X (.Raise (some e) none pos) (zQY X.K E te):=by
 intro pins s σ H D I h;refine Xc.RaiseX (I.ok.hd hc) (thn (he pins s σ H _ I h) fun v s1 z0=>?_);obtain⟨y,H1,I1,ry,a,C,d,ey,ha,hx,q⟩:=z0;subst ey;cases ry;obtain⟨t1,hg⟩:=I1.xn ha;obtain⟨nm,qn,N,bs,bm,hdct,sn,sub,ab,col,dd,k0,k1,k2,k3,k5,hC,ht⟩:=PySem.W.xc_cls I1.kIn hx;exact⟨a,t1,d,nm,qn,C,N,bs,bm,hdct,sn,sub,ab,col,dd,k0,k1,k2,k3,k5,_,rfl,hC,PySem.W.exc_con ht (by decide),hg,hf pins σ _ _ (I1.raised ha E q)⟩
structure XSet(K:qA2)(C:Addr)(f:Str):Prop where
 st:qB2 K (.ref C) "__setattr__" = some (some (.builtin "object.__setattr__"))
 ov:PySem.W.excOver K C=true
 tk:PySem.W.takerIn K C f=some none
 hd:(qF5 K C).any (·.hasDict)=true
end
section
variable{X:Cx}{pins:List (Addr×Obj)}{σ:St}{H:Hp}{s:qHp}{C e d:Addr}{f:Str}{pos:Pos}{ta:TE}
def isX(H:Hp)(e C:Addr)(d:Option Addr):Prop:=H e=some (xn e (.ref C) d)\/H e=some (xo e (.ref C) d)
end
def HasX(P:qHr)(w:World)(K:qA2)(mg:Str->Option Value)(base:Heap)(x:Str)(k:Nat)(ps:List Str)(sp:Sp):Prop:=
 ∃f fd,FnOk P w K mg base (CXe P w) k f fd ps sp/\mg x=some (.ref f)/\qB4 K (.ref f)=true/\Binds K fd ps []
section
variable{P:qHr}{w:World}{K:qA2}{mg:Str->Option Value}{base:Heap}{x:Str}{k:Nat}{ps N:List Str}{sp sp':Sp}{st:Stmt}
theorem zO4{qual:Str}{scope:Scope}{f:Addr}{cd:Value}{A:qHv}{outer:List Env}{s:qHp}{H:Hp}{E:XK}:Flies (cxOf (CXe P w) P w K mg base N qual scope f cd A outer s H E) E:=fun _ _ _ _ h=>zU4 (fun _ _ _ z=>z) h
end
section
variable{X:Cx}{x:Str}{j k:Nat}{ps:List Str}{sp:Sp}{e:Expr}{es:List Expr}{t:TA}{p pos:Pos}{E:XK}
theorem zRO:Flies X E0:=fun _ _ _ _ z0=>by
 obtain⟨_,_,_,_,_,_,_,_,_,_,_,h⟩:=z0;exact h.elim
theorem zVO(h:HasX X.prog X.w X.K X.mg X.base x j ps sp)(hjk:j<=k)(hr:Room k X.A)(hf:Flies X E)(hg:Gl X x)(ha:PA X (e::es) t)(hdb:(x==("__debug__":Str))=false:=by decide)
  (he:starEach (e::es) X.env=(false,eval e X.env)::starEach es X.env:=by rfl) (hpl:(backTo pos (starEach es X.env)).any (·.1)=false:=by rfl):PE X (.Call (.Name x p) (e::es) [] pos) (zDJ sp [] E t):=by
 obtain⟨f,fd,G,m,kp,b⟩:=h;exact zJ0 G (hr.mono hjk) hg m kp b .nil hf.passes ha hdb he hpl
end
end L2
namespace PySem.Xc
open PySem PySem.W
section
variable{prog:qHr}{w:World}{A:qHv}{E:Value->qHp->Prop}{K:Frag}{x C:Addr}{ox:Obj}{od:Option Obj}{name:Str}{expr fill:Bool}{h:Heap}{g:Array qJ0}{d:Drawn}{t:Nat}{os:OsState}
end
structure XIs(K:Frag)(C:Addr):Prop where
 xc:xcIn K C=true
 ga:findIn K (.ref C) "__getattribute__" = some (some (.builtin "BaseException.__getattribute__"))
 gg:findIn K (.ref C) "__getattr__" = some none
 hd:hasDictIn K C=true
 ca:findIn K (.ref C) "__class__" = some (some (.builtin "object.__class__"))
 cg:specialIn K (.builtin "object.__class__") "__get__" = some (some (.builtin "getset_descriptor.__get__"))
 ct:takesIn K (.builtin "object.__class__")=some true
 mo:mroIn K C (.type "object")=some true
end PySem.Xc
namespace Att
open PySem PySem.W PySem.Calls PyProof.Rows
theorem zS4{ns:List Int}(h:qLh (ns.map qLf)<=2 ^ 20):∀i∈ns,i.natAbs.log2<2 ^ 20:=by
 induction ns with
 |nil=>intro i hi;cases hi
 |cons n r ih=>
  rw[qAj,qLh]at h;intro i hi
  rcases qAd.mp hi with rfl|hi
  ·rw[qLt]at h
   split at h
   ·rename_i z
    have:i=0:=beq_iff_eq.mp z
    subst this
    decide
   ·lia
  ·exact ih (by lia) i hi
theorem attach_callW{l:OpenLaw}{n:Nat}{q:qHr}{loose:List Str}{XP:(Str->Option Value)->Heap->Prop}{YP:World->Heap->Prop}{d:DefRec}
  (hn:l.most=some n) (hdf:d.params.defaults=[])
  (call:∀(w:World)(s₀ s₁:qHp)(mg mb:Str->Option Value)(fa:Addr)(o:Obj)(pm cd doc:Value)(a:Addr)(vs:List Value)(ns:List Int),
   Ground q loose [] XP w s₀ mg mb s₁.heap->YP w s₁.heap ->
   s₁.heap.get? fa=some o->o.data=.func (docDef d.name d.params d.body d.scope pm cd doc)->s₁.heap.CodeRec cd d.name->mg d.name=some (.ref fa) ->
   s₁.heap.get? a=some { cls:=.type "list",data:=.seq vs.toArray }->qKo vs ns->ns.length<=n->(∀i∈ns,i.natAbs.log2<2 ^ 20)->s₁.gens=#[] ->
   qJ4 (model l.prog w) qKq (.call (.ref fa) ⟨[.ref a],[]⟩) (fun r s'=>r=.ok (.ret (.bool true))/\OldK s₁.heap s'.heap/\s'.os=s₁.os/\qJw s'.gens) s₁) :
  WalkO q loose XP YP l.row.toRowW d [] (fun f vs=>qFg f vs):=by
 intro w s₀ s₁ mg mb G Y fa o pm cd doc dV kV ho hd hcd hD hmg hg args vals as hpre hlay hrd hwl hlo;obtain rfl:dV=.none:=Dflts.none hD hdf;obtain rfl:kV=.none:=Dflts.noKw hD;obtain⟨a,vs,ns,rfl,rfl,hobj,hints,hlen⟩:=zMI hn hpre hwl;have hw:∀i∈ns,i.natAbs.log2<2 ^ 20:=by
  have hl:qL8 [WData.list (ns.map qLf)]=true:=hlay;simp only[qL8,qH3,List.all_nil,qDz,WData.layable,qBu,decide_eq_true_eq]at hl;exact zS4 (by have:=hl.2;rw[qLt]at this;exact this)
 refine enter_call (codeAny_mono (call w s₀ s₁ mg mb fa o pm cd doc a vs ns G Y ho (fd_plain hd) hcd hmg hobj hints hlen hw hg) fun r s' hq=>?_);obtain⟨rfl,h2,h3,h4⟩:=hq;exact⟨.inl ⟨.bool true,.bool true,[],rfl,fun _=>rfl,.bool true,zMU l _,fun _=>⟨qFe,fun _ hm=>(nomatch hm)⟩⟩,h2,h3,h4⟩
end Att
namespace L2
open PySem PySem.Spec PyProof.Rows
def MulOk(i j:Int):Prop:=((-(2 ^ 64)<i/\i<2 ^ 64)\/(-(2 ^ 64)<j/\j<2 ^ 64))\/i.natAbs.log2+j.natAbs.log2<=67108864
theorem zOW(i:Int):qIp i<=i.natAbs.log2+1:=by
 unfold qIp
 split<;>lia
theorem MulOk.ok{i j:Int}(h:MulOk i j):IntMulOk i j:=by
 rcases h with h|h
 ·exact CMul.ok h
 ·unfold IntMulOk;have h1:=zOW i;have h2:=zOW j;have h3:qK7 ((qIp i:Int)+(qIp j:Int))=false:=by
   unfold qK7
   have:(bitsLine:Int)=134217728:=by decide
   rw[this];simp only[gt_iff_lt,decide_eq_false_iff_not,Int.not_lt]
   lia
  rw[h3,qCx];exact qAa
section
variable{X:Cx}
noncomputable def zVC:R2:=fun x y H Q=>match x,y with
 |.int i,.int j=>MulOk i j/\Q (.int (i*j)) H
 |_,_=>False
theorem zST:OpR X (binaryOp .Mult) (rI MulOk fun i j=>.int (i*j)):=opI fun _ _ _ _ _ _ _ hc q=>mul_int q hc.ok
theorem zBS:OpR X (binaryOp .Mult) zVC:=by
 intro pins s σ H x y v u Q I rx ry h;cases x<;>cases y<;>first
  |exact zST pins s σ H _ _ v u Q I rx ry ⟨_,_,rfl,rfl,h.1,h.2⟩
  |exact qAf h
noncomputable def zVG:R2:=fun x y H Q=>match x,y with
 |.int i,.int j=>(0<j/\j<1000000000000000000000000)/\Q (.int (i/j)) H
 |_,_=>False
theorem log2_lt{n:Nat}(h:n<1000000000000000000000000):n.log2<9000:=by
 by_cases z:n=0
 ·subst z;decide
 ·have h2:n<2 ^ 80:=by lia
  have:=(Nat.log2_lt z).mpr h2
  lia
theorem zSU:OpR X (binaryOp .FloorDiv) (rI (fun _ j=>0<j/\j<1000000000000000000000000) fun i j=>.int (i/j)):=opI fun i j _ _ _ _ _ hc q=>by
 have h1:(0:Int)<j:=hc.1;have h2:j<1000000000000000000000000:=hc.2;exact floordiv_int (by lia) (by rw[Int.fdiv_eq_ediv_of_nonneg i (by lia)];exact q) (.inl (PyProof.noPylong_of_log2 (log2_lt (by lia))))
theorem zFN:OpR X (binaryOp .FloorDiv) zVG:=by
 intro pins s σ H x y v u Q I rx ry h;cases x<;>cases y<;>first
  |exact zSU pins s σ H _ _ v u Q I rx ry ⟨_,_,rfl,rfl,h.1,h.2⟩
  |exact qAf h
end
noncomputable def del(H:Hp)(a:Addr):Hp:=fun b=>if b=a then none else H b
theorem zRS{H:Hp}{a b:Addr}(h:b≠a):del H a b=H b:=by unfold del;rw[if_neg h]
abbrev cel(co:Obj):HO:=.frz co (.ext fun _=>True)
section
variable{P:qHr}{w:World}{H H':Hp}{h h':Heap}{a:Addr}{co:Obj}{fs:List Addr}
end
abbrev lamO(q:Str)(params:Arguments)(body:Expr)(scope:Scope)(clos:List (Str×Addr))(pm cdv ctv:Value):Obj:=
 { cls:=.type "function",data:=.func (PySem.W.kla_fn "<lambda>" q params body scope clos pm cdv ctv) }
section
variable{X:Cx}
end
section
variable{X:Cx}{k:Nat}{f cl:Addr}{fd:qI6}{ps:List Str}{sp:Sp}{x nm:Str}{p pos:Pos}{e:Expr}{es:List Expr}{t:TA}{i:Nat}
end
def cxLam(X:Cx)(N:List Str)(q:Str)(scope:Scope)(f:Addr)(cd:Value)(clos:List (Str×Addr))(s:qHp)(H:Hp):Cx where
 prog:=X.prog
 w:=X.w
 K:=X.K
 mg:=X.mg
 base:=X.base
 A:=X.A.deeper (qFn q scope s.heap.objs.size f cd clos)
 N:=N
 s₀:=s
 H₀:=H
 env:=qFn q scope s.heap.objs.size f cd clos
 outer:=X.stack
 stack:=qFn q scope s.heap.objs.size f cd clos::X.stack
 ex:=[]
 fn:=fun _=>false
 calm:=true
 pn:=[]
 xe:=fun _ _=>False
section
variable{X:Cx}{pins:List (Addr×Obj)}{σ:St}{H:Hp}{s:qHp}{Q:VK}{us:List Value}{vs:List V}{f cl:Addr}{q nm:Str}{params:Arguments}{body:Expr}{scope:Scope}{pm cdv ctv:Value}{co:Obj}{val:Value}{v:V}{ps:List Str}
end
section
variable{X:Cx}{i:Nat}{x:Str}{p pos:Pos}{e:Expr}{es:List Expr}{t:TA}{r:Addr->List V->Hp->VK->Prop}
end
end L2
namespace L3
open PySem PySem.Spec
open L2 hiding Rep RepL
open Mi (Dt Xn R okR zA1 optR zA0 zA4 zA7 zA5 zA6 Rh Sl Ro EM TM AM FM IM SM Tg Out zAN zAO zAQ full frz frz1 frzAt)
section
class Kc where
 K:qA2
variable[Kc]
noncomputable def clK(K:qA2)(c:Str):Option Addr:=match qBg K qHx c with
 |some (some (.ref C))=>some C
 |_=>none
def KTP(K:qA2)(a:Addr)(xs:List V):Prop:=xs≠[]/\∃(o:Obj)(its:Array Value)(n:Nat),K.lookup a=some o/\o.cls=.type "tuple"/\o.data=.seq its n/\its.size<=sizeLine/\Vals xs its.toList
theorem KTP.t{K:qA2}{H:Hp}{a:Addr}{xs:List V}(h:KTP K a xs):SqT K H a xs:=.inr h.2
def SqR(K:qA2)(H:Hp)(a:Addr)(xs:List V):Prop:=SqL K H a xs\/KTP K a xs
theorem SqR.old{K:qA2}{H:Hp}{a:Addr}{xs:List V}(h:SqR K H a xs):SqL K H a xs\/SqT K H a xs:=h.imp_right fun z=>z.t
theorem zHI{K:qA2}{H H':Hp}{a:Addr}{xs:List V}(e:Same H H')(h:SqT K H a xs):SqT K H' a xs:=by
 rcases h with(h|⟨o,h⟩)|h
 ·exact .inl (.inl (e _ _ h))
 ·exact .inl (.inr ⟨o,e _ _ h⟩)
 ·exact .inr h
theorem zDL{K:qA2}{H H':Hp}{a:Addr}{xs:List V}(e:Same H H')(h:SqR K H a xs):SqR K H' a xs:=h.imp_left fun z=>e.seq z
noncomputable def svV:Mi.Sv->V
 |.i n=>.int n
 |.s x=>.str x
noncomputable def swV:Mi.Sw->V
 |.non=>.non
 |.bl b=>.bl b
 |.int i=>.int i
 |.str x=>.str x
def kNw:Mi.Sw->KeyN
 |.non=>none
 |.bl b=>some (.inl (zIF b))
 |.int i=>some (.inl i)
 |.str x=>some (.inr x)
noncomputable def noBw:Mi.Sw->Bool
 |.bl _=>false
 |_=>true
def noBk(ks:List (List Mi.Sw)):Bool:=ks.all fun k=>k.all noBw
noncomputable def isBl:V->Bool
 |.bl _=>true
 |_=>false
def KeyT(H:Hp)(T:Addr->Prop)(ks:List (List Mi.Sw)):Prop:=(ks.map fun k=>k.map kNw).Nodup/\∀c,T c->∃ys,H c=some (.tup ys)/\(noBk ks=true->∀y∈ys,isBl y=false)
theorem KeyT.mono{H H':Hp}{T:Addr->Prop}{ks:List (List Mi.Sw)}(s:Same H H')(h:KeyT H T ks):KeyT H' T ks:=⟨h.1,fun c t=>let⟨ys,e,n⟩:=h.2 c t;⟨ys,s _ _ e,n⟩⟩
abbrev kzip(ks:List (List Mi.Sw))(xs:List V):List (List KeyN×V):=(ks.map fun k=>k.map kNw).zip xs
noncomputable def zTN:Expr->Option (Arguments×Expr×Scope×Str)
 |.Call _ [_,.Lambda ps b sc _] _ _=>match sc.names.find? fun p=>p.2==.free with
  |some (x,_)=>some (ps,b,sc,x)
  |none=>none
 |_=>none
def zXZ:Stmt->Option (Arguments×Expr×Scope×Str)
 |.Return (some e) _=>zTN e
 |.Assign _ e _=>zTN e
 |.If _ (_::.Return (some e) _::_) _ _=>zTN e
 |_=>none
def zYL(l:List Stmt):Option (Arguments×Expr×Scope×Str):=l.findSome? zXZ
def lamK(K:qA2)(x:Str):Option (Arguments×Expr×Scope×Str):=match qBg K qHx x with
 |some (some (.ref f))=>match K.lookup f with
  |some o=>match o.data with
   |.func fd=>match fd.body with
    |.stmts b=>zYL b
    |_=>none
   |_=>none
  |none=>none
 |_=>none
noncomputable def lamQ(x:Str):Str:=x ++ ".<locals>." ++ "<lambda>"
noncomputable def codP(K:qA2)(x:Str):Option Addr:=match qBg K qHx x with
 |some (some (.ref f))=>match K.lookup f with
  |some o=>match o.data with
   |.func fd=>match fd.code with
    |.ref c=>match K.lookup c with
     |some o=>match o.data with
      |.fields vs=>match(vs[11]?:Option Value)with
       |some (.ref P)=>some P
       |_=>none
      |_=>none
     |none=>none
    |_=>none
   |_=>none
  |none=>none
 |_=>none
noncomputable def makers:List Str:=["turned_at","exchanged_at","pivoted"]
def tabK(K:qA2):Hp:=fun P=>(makers.find? fun x=>codP K x==some P&&(lamK K x).isSome).map fun x=>.lam (lamQ x)
mutual
def Rep(H:Hp):Dt->V->Prop
 |.non,v=>v=.non
 |.bl b,v=>v=.bl b
 |.int i,v=>v=.int i
 |.str x,v=>v=.str x
 |.lst ds,v=>∃a xs,v=.ref a/\H a=some (.lst xs)/\RepL H ds xs
 |.tup ds,v=>∃a xs,v=.ref a/\H a=some (.tup xs)/\RepL H ds xs
 |.scr ns,v=>∃a,v=.ref a/\SqR Kc.K H a (ns.map V.int)
 |.exc c f d,v=>∃e C da,v=.ref e/\isX H e C da/\clK Kc.K c=some C/\((da=none/\f = "")\/∃a gs w,da=some a/\H a=some (.xd gs)/\gs.lookup f=some w/\Rep H d w)
 |.ins c fs,v=>∃a C dx,v=.ref a/\clK Kc.K c=some C/\H a=some (.ins C dx (fs.map fun p=>(p.1,svV p.2)))
 |.dct kvs,v=>∃a,v=.ref a/\H a=some (.dK (kvs.map fun p=>(p.1,swV p.2)))
 |.fn x d,v=>∃f,v=.ref f/\∃L cl pm cdv ctv co val w,lamK Kc.K x=some L/\H f=some (.fn (lamO (lamQ x) L.1 L.2.1 L.2.2.1 [(L.2.2.2,cl)] pm cdv ctv) (lamQ x))/\H cl=some (cel co)/\co.data=.cell (some val)/\RelV w val/\Rep H d w
 |.dtt ks ds,v=>∃a T e0 xs,v=.ref a/\H a=some (.dT T e0 (kzip ks xs))/\ks.length=ds.length/\KeyT H T ks/\RepL H ds xs
 |.loc a d,v=>v=.ref a/\Rep H d v
def RepL(H:Hp):List Dt->List V->Prop
 |[],xs=>xs=[]
 |d::r,xs=>∃x q,xs=x::q/\Rep H d x/\RepL H r q
end
mutual
theorem Rep.mono{H H':Hp}(s:Same H H'):∀{d:Dt}{v:V},Rep H d v->Rep H' d v
 |.non,_,h=>h
 |.bl _,_,h=>h
 |.int _,_,h=>h
 |.str _,_,h=>h
 |.lst _,_,h=>by obtain⟨a,xs,e,e',r⟩:=h;exact⟨a,xs,e,s _ _ e',RepL.mono s r⟩
 |.tup _,_,h=>by obtain⟨a,xs,e,e',r⟩:=h;exact⟨a,xs,e,s _ _ e',RepL.mono s r⟩
 |.scr _,_,h=>by obtain⟨a,e,e'⟩:=h;exact⟨a,e,zDL s e'⟩
 |.exc _ _ _,_,h=>by
  obtain⟨a,C,da,e,e',hc,r⟩:=h;refine⟨a,C,da,e,e'.imp (fun z=>s _ _ z) fun z=>s _ _ z,hc,r.imp (fun z=>z) ?_⟩
  rintro⟨b,gs,w,h1,h2,h3,h4⟩
  exact⟨b,gs,w,h1,s _ _ h2,h3,Rep.mono s h4⟩
 |.ins _ _,_,h=>by obtain⟨a,C,dx,e,hc,h1⟩:=h;exact⟨a,C,dx,e,hc,s _ _ h1⟩
 |.dct _,_,h=>by obtain⟨a,e,h1⟩:=h;exact⟨a,e,s _ _ h1⟩
 |.fn _ _,_,h=>by obtain⟨f,e,L,cl,pm,cdv,ctv,co,val,w,h1,h2,h3,h4,h5,h6⟩:=h;exact⟨f,e,L,cl,pm,cdv,ctv,co,val,w,h1,s _ _ h2,s _ _ h3,h4,h5,Rep.mono s h6⟩
 |.dtt _ _,_,h=>by obtain⟨a,T,e0,xs,e,e',hl,ht,r⟩:=h;exact⟨a,T,e0,xs,e,s _ _ e',hl,ht.mono s,RepL.mono s r⟩
 |.loc _ _,_,h=>⟨h.1,Rep.mono s h.2⟩
theorem RepL.mono{H H':Hp}(s:Same H H'):∀{ds:List Dt}{xs:List V},RepL H ds xs->RepL H' ds xs
 |[],_,h=>h
 |_::_,_,h=>by obtain⟨x,q,e,r,t⟩:=h;exact⟨x,q,e,Rep.mono s r,RepL.mono s t⟩
end
theorem RepL.length{H:Hp}:∀{ds:List Dt}{xs:List V},RepL H ds xs->xs.length=ds.length
 |[],_,h=>by cases h;rfl
 |_::_,_,h=>by obtain⟨x,q,e,r,t⟩:=h;subst e;simp[RepL.length t]
mutual
def conv:Dt->L2.Dat
 |.non=>.non
 |.bl b=>.bl b
 |.int i=>.int i
 |.str x=>.str x
 |.lst ds=>.lst (convL ds)
 |.tup ds=>.tup (convL ds)
 |.scr _=>.non
 |.exc _ _ _=>.non
 |.fn _ _=>.non
 |.dtt _ _=>.non
 |.loc _ _=>.non
 |.ins _ _=>.non
 |.dct _=>.non
def convL:List Dt->List L2.Dat
 |[]=>[]
 |d::r=>conv d::convL r
end
mutual
theorem zKU:∀{d:Dt},d.dep<=40->(conv d).dep<=d.dep
 |.non,_=>qA6 _
 |.bl _,_=>qA6 _
 |.int _,_=>qA6 _
 |.str _,_=>qA6 _
 |.lst ds,h=>by rw[Dt.dep]at h ⊢;rw[conv,L2.Dat.dep];have:=conv_depL (ds:=ds) (by lia);lia
 |.tup ds,h=>by rw[Dt.dep]at h ⊢;rw[conv,L2.Dat.dep];have:=conv_depL (ds:=ds) (by lia);lia
 |.scr _,h=>by rw[Dt.dep]at h;lia
 |.exc _ _ _,h=>by rw[Dt.dep]at h;lia
 |.fn _ _,h=>by rw[Dt.dep]at h;lia
 |.dtt _ _,h=>by rw[Dt.dep]at h;lia
 |.loc _ _,h=>by rw[Dt.dep]at h;lia
 |.ins _ _,h=>by rw[Dt.dep]at h;lia
 |.dct _,h=>by rw[Dt.dep]at h;lia
theorem conv_depL:∀{ds:List Dt},Dt.depL ds<=40->L2.Dat.depL (convL ds)<=Dt.depL ds
 |[],_=>qA6 _
 |d::r,h=>by
  rw[Dt.depL]at h ⊢;rw[convL,L2.Dat.depL];have h1:=zKU (d:=d) (by lia);have h2:=conv_depL (ds:=r) (by lia)
  lia
end
mutual
theorem zGX{H:Hp}:∀{d:Dt}{v:V},d.dep<=40->Rep H d v->L2.Rep H (conv d) v
 |.non,_,_,h=>h
 |.bl _,_,_,h=>h
 |.int _,_,_,h=>h
 |.str _,_,_,h=>h
 |.lst ds,_,hd,h=>by obtain⟨a,xs,e,e',r⟩:=h;exact⟨a,xs,e,e',conv_repL (by rw[Dt.dep]at hd;lia) r⟩
 |.tup ds,_,hd,h=>by obtain⟨a,xs,e,e',r⟩:=h;exact⟨a,xs,e,e',conv_repL (by rw[Dt.dep]at hd;lia) r⟩
 |.scr _,_,h,_=>by rw[Dt.dep]at h;lia
 |.exc _ _ _,_,h,_=>by rw[Dt.dep]at h;lia
 |.fn _ _,_,h,_=>by rw[Dt.dep]at h;lia
 |.dtt _ _,_,h,_=>by rw[Dt.dep]at h;lia
 |.loc _ _,_,h,_=>by rw[Dt.dep]at h;lia
 |.ins _ _,_,h,_=>by rw[Dt.dep]at h;lia
 |.dct _,_,h,_=>by rw[Dt.dep]at h;lia
theorem conv_repL{H:Hp}:∀{ds:List Dt}{xs:List V},Dt.depL ds<=40->RepL H ds xs->L2.RepL H (convL ds) xs
 |[],_,_,h=>h
 |d::r,_,hd,h=>by
  rw[Dt.depL]at hd;obtain⟨x,q,e,a,b⟩:=h;exact⟨x,q,e,zGX (by lia) a,conv_repL (by lia) b⟩
end
mutual
theorem zOM:∀{d e:Dt},d.dep<=40->e.dep<=40->L2.Dat.eq (conv d) (conv e)=Dt.eq d e
 |.scr _,_,h,_=>by rw[Dt.dep]at h;lia
 |.exc _ _ _,_,h,_=>by rw[Dt.dep]at h;lia
 |.fn _ _,_,h,_=>by rw[Dt.dep]at h;lia
 |.dtt _ _,_,h,_=>by rw[Dt.dep]at h;lia
 |.loc _ _,_,h,_=>by rw[Dt.dep]at h;lia
 |.ins _ _,_,h,_=>by rw[Dt.dep]at h;lia
 |.dct _,_,h,_=>by rw[Dt.dep]at h;lia
 |.lst ds,e,h,h'=>by
  rw[Dt.dep]at h;cases e with
  |lst es=>rw[Dt.dep]at h';rw[conv,conv,L2.Dat.eq,Dt.eq];exact conv_eqL (by lia) (by lia)
  |scr _=>rw[Dt.dep]at h';lia
  |exc _ _ _=>rw[Dt.dep]at h';lia
  |fn _ _=>rw[Dt.dep]at h';lia
  |dtt _ _=>rw[Dt.dep]at h';lia
  |loc _ _=>rw[Dt.dep]at h';lia
  |ins _ _=>rw[Dt.dep]at h';lia
  |dct _=>rw[Dt.dep]at h';lia
  |_=>simp[conv,L2.Dat.eq,Dt.eq]
 |.tup ds,e,h,h'=>by
  rw[Dt.dep]at h;cases e with
  |tup es=>rw[Dt.dep]at h';rw[conv,conv,L2.Dat.eq,Dt.eq];exact conv_eqL (by lia) (by lia)
  |scr _=>rw[Dt.dep]at h';lia
  |exc _ _ _=>rw[Dt.dep]at h';lia
  |fn _ _=>rw[Dt.dep]at h';lia
  |dtt _ _=>rw[Dt.dep]at h';lia
  |loc _ _=>rw[Dt.dep]at h';lia
  |ins _ _=>rw[Dt.dep]at h';lia
  |dct _=>rw[Dt.dep]at h';lia
  |_=>simp[conv,L2.Dat.eq,Dt.eq]
 |.non,e,_,h'=>by
  cases e with
  |scr _=>rw[Dt.dep]at h';lia
  |exc _ _ _=>rw[Dt.dep]at h';lia
  |fn _ _=>rw[Dt.dep]at h';lia
  |dtt _ _=>rw[Dt.dep]at h';lia
  |loc _ _=>rw[Dt.dep]at h';lia
  |ins _ _=>rw[Dt.dep]at h';lia
  |dct _=>rw[Dt.dep]at h';lia
  |_=>simp[conv,L2.Dat.eq,Dt.eq]
 |.bl _,e,_,h'=>by
  cases e with
  |scr _=>rw[Dt.dep]at h';lia
  |exc _ _ _=>rw[Dt.dep]at h';lia
  |fn _ _=>rw[Dt.dep]at h';lia
  |dtt _ _=>rw[Dt.dep]at h';lia
  |loc _ _=>rw[Dt.dep]at h';lia
  |ins _ _=>rw[Dt.dep]at h';lia
  |dct _=>rw[Dt.dep]at h';lia
  |_=>simp[conv,L2.Dat.eq,Dt.eq]
 |.int _,e,_,h'=>by
  cases e with
  |scr _=>rw[Dt.dep]at h';lia
  |exc _ _ _=>rw[Dt.dep]at h';lia
  |fn _ _=>rw[Dt.dep]at h';lia
  |dtt _ _=>rw[Dt.dep]at h';lia
  |loc _ _=>rw[Dt.dep]at h';lia
  |ins _ _=>rw[Dt.dep]at h';lia
  |dct _=>rw[Dt.dep]at h';lia
  |_=>simp[conv,L2.Dat.eq,Dt.eq]
 |.str _,e,_,h'=>by
  cases e with
  |scr _=>rw[Dt.dep]at h';lia
  |exc _ _ _=>rw[Dt.dep]at h';lia
  |fn _ _=>rw[Dt.dep]at h';lia
  |dtt _ _=>rw[Dt.dep]at h';lia
  |loc _ _=>rw[Dt.dep]at h';lia
  |ins _ _=>rw[Dt.dep]at h';lia
  |dct _=>rw[Dt.dep]at h';lia
  |_=>simp[conv,L2.Dat.eq,Dt.eq]
theorem conv_eqL:∀{ds es:List Dt},Dt.depL ds<=40->Dt.depL es<=40->L2.Dat.eqL (convL ds) (convL es)=Dt.eqL ds es
 |[],[],_,_=>by simp[convL,L2.Dat.eqL,Dt.eqL]
 |[],_::_,_,_=>by simp[convL,L2.Dat.eqL,Dt.eqL]
 |_::_,[],_,_=>by simp[convL,L2.Dat.eqL,Dt.eqL]
 |d::r,e::t,h,h'=>by
  rw[Dt.depL]at h h';rw[convL,convL,L2.Dat.eqL,Dt.eqL,zOM (by lia) (by lia),conv_eqL (by lia) (by lia)]
end
theorem zBF{G:Hp}:∀{ds:List Dt}{xs:List V}{q:Nat}{d:Dt}{x:V},RepL G ds xs->ds[q]?=some d->xs[q]?=some x->Rep G d x
 |[],_,_,_,_,_,h,_=>by simp at h
 |d::r,xs,0,e,y,h,h1,h2=>by
  obtain⟨x,t,rfl,a,b⟩:=h;simp at h1 h2;subst h1;subst h2;exact a
 |d::r,xs,q+1,e,y,h,h1,h2=>by
  obtain⟨x,t,rfl,a,b⟩:=h;exact zBF b (by simpa using h1) (by simpa using h2)
theorem zCN{G:Hp}:∀{ds:List Dt}{xs:List V},xs.length=ds.length->(∀(q:Nat)(d:Dt)(x:V),ds[q]?=some d->xs[q]?=some x->Rep G d x)->RepL G ds xs
 |[],[],_,_=>rfl
 |[],_::_,h,_=>by simp at h
 |_::_,[],h,_=>by simp at h
 |d::r,x::t,h,k=>⟨x,t,rfl,k 0 d x rfl rfl,zCN (by simpa using h) fun q e y h1 h2=>k (q+1) e y (by simpa using h1) (by simpa using h2)⟩
theorem zFB{n:Nat}:∀{ds:List Dt},Dt.depL ds<=n->∀{q:Nat}{d:Dt},ds[q]?=some d->d.dep<=n
 |[],_,_,_,h=>by simp at h
 |e::r,h,0,d,h1=>by simp at h1;subst h1;rw[Dt.depL]at h;lia
 |e::r,h,q+1,d,h1=>by rw[Dt.depL]at h;exact zFB (ds:=r) (by lia) (q:=q) (by simpa using h1)
theorem Rep.scalar{G G2:Hp}{d:Dt}{v:V}(h:Rep G d v)(hd:d.dep=0):Rep G2 d v:=by
 cases d with
 |lst ds=>rw[Dt.dep]at hd;lia
 |tup ds=>rw[Dt.dep]at hd;lia
 |scr ns=>rw[Dt.dep]at hd;lia
 |exc _ _ _=>rw[Dt.dep]at hd;lia
 |fn _ _=>rw[Dt.dep]at hd;lia
 |dtt _ _=>rw[Dt.dep]at hd;lia
 |loc _ _=>rw[Dt.dep]at hd;lia
 |ins _ _=>rw[Dt.dep]at hd;lia
 |dct _=>rw[Dt.dep]at hd;lia
 |_=>exact h
structure Kids(P:(Addr->Prop)->Dt->V->Prop)(S:Addr->Prop)(a:Addr)(ds:List Dt)(xs:List V)(T:Nat->Addr->Prop):Prop where
 len:xs.length=ds.length
 own:∀(q:Nat)(d:Dt)(x:V),ds[q]?=some d->xs[q]?=some x->P (T q) d x
 top:S a
 out:∀q,¬T q a
 dis:∀q r b,T q b->T r b->q=r
 sub:∀q b,T q b->S b
def Own(G H:Hp):Nat->(Addr->Prop)->Dt->V->Prop
 |0,_,d,v=>Rep G d v
 |n+1,S,d,v=>match d with
  |.lst ds=>∃a xs T,v=.ref a/\H a=some (.lst xs)/\Kids (Own G H n) S a ds xs T
  |.tup ds=>∃a xs T,v=.ref a/\H a=some (.tup xs)/\Kids (Own G H n) S a ds xs T
  |.dct kvs=>∃a,v=.ref a/\H a=some (.dK (kvs.map fun p=>(p.1,swV p.2)))/\S a
  |.dtt ks ds=>∃a T0 e0 xs T,v=.ref a/\H a=some (.dT T0 e0 (kzip ks xs))/\ks.length=ds.length/\KeyT G T0 ks/\Kids (Own G H n) S a ds xs T
  |.loc a d=>v=.ref a/\Own G H n S d v
  |d=>Rep G d v
theorem Kids.imp{P P':(Addr->Prop)->Dt->V->Prop}{S S':Addr->Prop}{a:Addr}{ds:List Dt}{xs:List V}{T:Nat->Addr->Prop}(k:Kids P S a ds xs T)
  (h:∀q d x,ds[q]?=some d->P (T q) d x->P' (T q) d x) (hs:∀b,S b->S' b):Kids P' S' a ds xs T:=
 ⟨k.len,fun q d x h1 h2=>h q d x h1 (k.own q d x h1 h2),hs _ k.top,k.out,k.dis,fun q b t=>hs _ (k.sub q b t)⟩
theorem Own.mono{G G' H H':Hp}(sG:Same G G')(sH:Same H H'):∀{n:Nat}{S:Addr->Prop}{d:Dt}{v:V},Own G H n S d v->Own G' H' n S d v
 |0,S,d,v,h=>Rep.mono sG h
 |n+1,S,d,v,h=>by
  cases d with
  |lst ds=>obtain⟨a,xs,T,e,ha,k⟩:=h;exact⟨a,xs,T,e,sH _ _ ha,k.imp (fun _ _ _ _ p=>Own.mono sG sH p) fun _ z=>z⟩
  |tup ds=>obtain⟨a,xs,T,e,ha,k⟩:=h;exact⟨a,xs,T,e,sH _ _ ha,k.imp (fun _ _ _ _ p=>Own.mono sG sH p) fun _ z=>z⟩
  |dct kvs=>obtain⟨a,e,ha,hs⟩:=h;exact⟨a,e,sH _ _ ha,hs⟩
  |dtt ks ds=>obtain⟨a,T0,e0,xs,T,e,ha,hl,ht,k⟩:=h;exact⟨a,T0,e0,xs,T,e,sH _ _ ha,hl,ht.mono sG,k.imp (fun _ _ _ _ p=>Own.mono sG sH p) fun _ z=>z⟩
  |loc a d=>exact⟨h.1,Own.mono sG sH h.2⟩
  |_=>exact Rep.mono sG h
theorem Own.sub{G H:Hp}:∀{n:Nat}{S S':Addr->Prop}{d:Dt}{v:V},Own G H n S d v->(∀b,S b->S' b)->Own G H n S' d v
 |0,_,_,_,_,h,_=>h
 |n+1,S,S',d,v,h,hs=>by
  cases d with
  |lst ds=>obtain⟨a,xs,T,e,ha,k⟩:=h;exact⟨a,xs,T,e,ha,k.imp (fun _ _ _ _ p=>p) hs⟩
  |tup ds=>obtain⟨a,xs,T,e,ha,k⟩:=h;exact⟨a,xs,T,e,ha,k.imp (fun _ _ _ _ p=>p) hs⟩
  |dct kvs=>obtain⟨a,e,ha,h2⟩:=h;exact⟨a,e,ha,hs _ h2⟩
  |dtt ks ds=>obtain⟨a,T0,e0,xs,T,e,ha,hl,ht,k⟩:=h;exact⟨a,T0,e0,xs,T,e,ha,hl,ht,k.imp (fun _ _ _ _ p=>p) hs⟩
  |loc a d=>exact⟨h.1,Own.sub h.2 hs⟩
  |_=>exact h
theorem Own.rep{G H J:Hp}(sG:Same G J):∀{n:Nat}{S:Addr->Prop}{d:Dt}{v:V},Own G H n S d v->(∀a o,S a->H a=some o->J a=some o)->Rep J d v
 |0,S,d,v,h,_=>Rep.mono sG h
 |n+1,S,d,v,h,hj=>by
  cases d with
  |lst ds=>obtain⟨a,xs,T,e,ha,k⟩:=h;exact⟨a,xs,e,hj _ _ k.top ha,zCN k.len fun q d x h1 h2=>Own.rep sG (k.own q d x h1 h2) fun b o t hb=>hj b o (k.sub q b t) hb⟩
  |tup ds=>obtain⟨a,xs,T,e,ha,k⟩:=h;exact⟨a,xs,e,hj _ _ k.top ha,zCN k.len fun q d x h1 h2=>Own.rep sG (k.own q d x h1 h2) fun b o t hb=>hj b o (k.sub q b t) hb⟩
  |dct kvs=>obtain⟨a,e,ha,hs⟩:=h;exact⟨a,e,hj _ _ hs ha⟩
  |dtt ks ds=>obtain⟨a,T0,e0,xs,T,e,ha,hl,ht,k⟩:=h;exact⟨a,T0,e0,xs,e,hj _ _ k.top ha,hl,ht.mono sG,zCN k.len fun q d x h1 h2=>Own.rep sG (k.own q d x h1 h2) fun b o t hb=>hj b o (k.sub q b t) hb⟩
  |loc a d=>exact⟨h.1,Own.rep sG h.2 hj⟩
  |_=>exact Rep.mono sG h
theorem Own.at{G G2 H:Hp}:∀{n k:Nat}{S:Addr->Prop}{d:Dt}{v:V},Own G H n S d v->d.dep<=n->d.dep<=k->n<1000->Own G2 H k S d v
 |n,k,S,d,v,h,hn,hk,hz=>by
  cases d with
  |lst ds=>
   rw[Dt.dep]at hn hk;cases n with
   |zero=>lia
   |succ n=>
    cases k with
    |zero=>lia
    |succ k=>
     obtain⟨a,xs,T,e,ha,kd⟩:=h;refine⟨a,xs,T,e,ha,kd.imp (fun q d x h1 p=>?_) fun _ z=>z⟩;exact Own.at p (zFB (by lia) h1) (zFB (by lia) h1) (by lia)
  |tup ds=>
   rw[Dt.dep]at hn hk;cases n with
   |zero=>lia
   |succ n=>
    cases k with
    |zero=>lia
    |succ k=>
     obtain⟨a,xs,T,e,ha,kd⟩:=h;refine⟨a,xs,T,e,ha,kd.imp (fun q d x h1 p=>?_) fun _ z=>z⟩;exact Own.at p (zFB (by lia) h1) (zFB (by lia) h1) (by lia)
  |non=>cases n<;>cases k<;>exact h
  |bl b=>cases n<;>cases k<;>exact h
  |int i=>cases n<;>cases k<;>exact h
  |str x=>cases n<;>cases k<;>exact h
  |scr ns=>rw[Dt.dep]at hn;lia
  |exc _ _ _=>rw[Dt.dep]at hn;lia
  |fn _ _=>rw[Dt.dep]at hn;lia
  |dtt _ _=>rw[Dt.dep]at hn;lia
  |loc _ _=>rw[Dt.dep]at hn;lia
  |ins _ _=>rw[Dt.dep]at hn;lia
  |dct _=>rw[Dt.dep]at hn;lia
termination_by n=>n
theorem Own.scalar{G H G2 H2:Hp}{n k:Nat}{S S2:Addr->Prop}{d:Dt}{v:V}(h:Own G H n S d v)(hd:d.dep=0):Own G2 H2 k S2 d v:=by
 cases d with
 |lst ds=>rw[Dt.dep]at hd;lia
 |tup ds=>rw[Dt.dep]at hd;lia
 |non=>cases n<;>cases k<;>exact h
 |bl b=>cases n<;>cases k<;>exact h
 |int i=>cases n<;>cases k<;>exact h
 |str x=>cases n<;>cases k<;>exact h
 |scr ns=>rw[Dt.dep]at hd;lia
 |exc _ _ _=>rw[Dt.dep]at hd;lia
 |fn _ _=>rw[Dt.dep]at hd;lia
 |dtt _ _=>rw[Dt.dep]at hd;lia
 |loc _ _=>rw[Dt.dep]at hd;lia
 |ins _ _=>rw[Dt.dep]at hd;lia
 |dct _=>rw[Dt.dep]at hd;lia
theorem zKB{G H:Hp}{n:Nat}{S:Addr->Prop}{d:Dt}{v:V}(h:Rep G d v)(hd:d.dep=0):Own G H n S d v:=Own.scalar (n:=0) (G:=G) (H:=H) (S:=S) h hd
theorem Own.upd{G H:Hp}{p:Addr}{o:HO}:∀{n:Nat}{S:Addr->Prop}{d:Dt}{v:V},Own G H n S d v->¬S p->Own G (upd H p o) n S d v
 |0,S,d,v,h,_=>h
 |n+1,S,d,v,h,hp=>by
  cases d with
  |lst ds=>
   obtain⟨a,xs,T,e,ha,k⟩:=h;have hap:a≠p:=fun z=>hp (z▸k.top)
   exact⟨a,xs,T,e,(zAF hap).trans ha,k.imp (fun q _ _ _ w=>Own.upd w fun z=>hp (k.sub q _ z)) fun _ z=>z⟩
  |tup ds=>
   obtain⟨a,xs,T,e,ha,k⟩:=h;have hap:a≠p:=fun z=>hp (z▸k.top)
   exact⟨a,xs,T,e,(zAF hap).trans ha,k.imp (fun q _ _ _ w=>Own.upd w fun z=>hp (k.sub q _ z)) fun _ z=>z⟩
  |dct kvs=>
   obtain⟨a,e,ha,hs⟩:=h;have hap:a≠p:=fun z=>hp (z▸hs)
   exact⟨a,e,(zAF hap).trans ha,hs⟩
  |dtt ks ds=>
   obtain⟨a,T0,e0,xs,T,e,ha,hl,ht,k⟩:=h;have hap:a≠p:=fun z=>hp (z▸k.top)
   exact⟨a,T0,e0,xs,T,e,(zAF hap).trans ha,hl,ht,k.imp (fun q _ _ _ w=>Own.upd w fun z=>hp (k.sub q _ z)) fun _ z=>z⟩
  |loc a d=>exact⟨h.1,Own.upd h.2 hp⟩
  |_=>exact h
structure Ext(G H G' H':Hp):Prop where
 g:Same G G'
 h:Same H H'
 in':Same G' H'
 old:∀b,H b≠none->G' b=G b
theorem Ext.refl{G H:Hp}(s:Same G H):Ext G H G H:=⟨Same.refl _,Same.refl _,s,fun _ _=>rfl⟩
theorem _root_.L2.Same.some{H H':Hp}(s:Same H H'){b:Addr}(h:H b≠qEu):H' b≠qEu:=by
 cases e:H b with
 |none=>exact absurd e h
 |some o=>rw[s _ _ e];simp
theorem Ext.trans{G H G1 H1 G2 H2:Hp}(a:Ext G H G1 H1)(b:Ext G1 H1 G2 H2):Ext G H G2 H2:=
 ⟨a.g.trans b.g,a.h.trans b.h,b.in',fun c hc=>(b.old c (a.h.some hc)).trans (a.old c hc)⟩
structure Fr(G H G' H':Hp)(S:Addr->Prop):Prop where
 ext:Ext G H G' H'
 new:∀a,S a->H a=none/\G' a=none/\H' a≠none
open Classical in
noncomputable def over(G H:Hp)(S:Addr->Prop):Hp:=fun b=>if S b then H b else G b
theorem zDY{G H:Hp}{S:Addr->Prop}{a:Addr}(h:S a):over G H S a=H a:=by unfold over;rw[if_pos h]
theorem zBX{G H:Hp}{S:Addr->Prop}{a:Addr}(h:¬S a):over G H S a=G a:=by unfold over;rw[if_neg h]
theorem zDN{G H:Hp}{S:Addr->Prop}(s:Same G H):Same G (over G H S)/\Same (over G H S) H:=by
 constructor
 ·intro b o e
  by_cases z:S b
  ·rw[zDY z];exact s _ _ e
  ·rw[zBX z];exact e
 ·intro b o e
  by_cases z:S b
  ·rw[zDY z]at e;exact e
  ·rw[zBX z]at e;exact s _ _ e
theorem Fr.frz{G H G' H':Hp}{S:Addr->Prop}{n:Nat}{d:Dt}{v:V}(f:Fr G H G' H' S)(o:Own G' H' n S d v):Ext G H (over G' H' S) H'/\Rep (over G' H' S) d v:=by
 obtain⟨s1,s2⟩:=zDN (S:=S) f.ext.in';refine⟨⟨f.ext.g.trans s1,f.ext.h,s2,fun b hb=>?_⟩,o.rep s1 fun a u ha e=>by rw[zDY ha];exact e⟩;have z:¬S b:=fun z=>hb (f.new b z).1
 rw[zBX z];exact f.ext.old b hb
structure View(G:Hp)(σ:St)(ρ:Rh):Prop where
 len:ρ.length=σ.length
 «at»:∀(i:Nat)(d:Dt),ρ[i]?=some (some d)->∃v,σ[i]?=some (some v)/\Rep G d v
 tab:Same (tabK Kc.K) G
theorem View.mono{G G':Hp}{σ:St}{ρ:Rh}(s:Same G G')(h:View G σ ρ):View G' σ ρ:=⟨h.len,fun i d e=>let⟨v,a,b⟩:=h.at i d e;⟨v,a,Rep.mono s b⟩,h.tab.trans s⟩
def XRep(mg:Str->Option Value)(x:Xn)(c:Value)(da:Option Addr)(G H:Hp):Prop:=
 ∃e C,c=.ref e/\G e=some (xo e (.ref C) da)/\clK Kc.K x.cls=some C/\((da=none/\x.f = "")\/∃a gs w,da=some a/\G a=some (.xd gs)/\gs.lookup x.f=some w/\Rep G x.d w)
def PostE(mg:Str->Option Value)(E:XK)(G H:Hp)(n:Nat)(r:R Dt)(Q:VK):Prop:=match r with
 |none=>False
 |some (.error x)=>∀c da G' H',Ext G H G' H'->XRep mg x c da G' H'->E c da H'
 |some (.ok d)=>∀v G' H' S,Fr G H G' H' S->Own G' H' n S d v->Q v H'
def PostT(mg:Str->Option Value)(E:XK)(G H:Hp)(r:R Bool)(Q:Bool->Hp->Prop):Prop:=match r with
 |none=>False
 |some (.error x)=>∀c da G' H',Ext G H G' H'->XRep mg x c da G' H'->E c da H'
 |some (.ok b)=>∀H',Same H H'->Q b H'
structure OwnA(G H:Hp)(n:Nat)(S:Addr->Prop)(ds:List Dt)(xs:List V)(T:Nat->Addr->Prop):Prop where
 len:xs.length=ds.length
 own:∀(q:Nat)(d:Dt)(x:V),ds[q]?=some d->xs[q]?=some x->Own G H n (T q) d x
 dis:∀q r b,T q b->T r b->q=r
 sub:∀q b,T q b->S b
def zXI(mg:Str->Option Value)(E:XK)(G H:Hp)(n:Nat)(r:R (List Dt))(Q:List V->Hp->Prop):Prop:=match r with
 |none=>False
 |some (.error x)=>∀c da G' H',Ext G H G' H'->XRep mg x c da G' H'->E c da H'
 |some (.ok ds)=>∀vs G' H' S T,Fr G H G' H' S->OwnA G' H' n S ds vs T->Q vs H'
def DE(mg:Str->Option Value)(E:XK)(t:TE)(m:EM)(n:Nat):Prop:=∀(G H:Hp)(σ:St)(ρ:Rh)(Q:VK),Same G H->View G σ ρ->PostE mg E G H n (m ρ) Q->t σ H Q
def DT(mg:Str->Option Value)(E:XK)(t:TT)(m:TM):Prop:=∀(G H:Hp)(σ:St)(ρ:Rh)(Q:Bool->Hp->Prop),Same G H->View G σ ρ->PostT mg E G H (m ρ) Q->t σ H Q
def DA(mg:Str->Option Value)(E:XK)(t:TA)(m:AM)(n:Nat):Prop:=∀(G H:Hp)(σ:St)(ρ:Rh)(Q:List V->Hp->Prop),Same G H->View G σ ρ->zXI mg E G H n (m ρ) Q->t σ H Q
structure Err(mg:Str->Option Value)(E:XK)(G H:Hp){β:Type}(P:R β->Prop):Prop where
 no:P none->False
 er:∀x,P (some (.error x))->∀c da G' H',Ext G H G' H'->XRep mg x c da G' H'->E c da H'
theorem Ext.same{G H H':Hp}(s:Same G H)(h:Same H H'):Ext G H G H':=⟨Same.refl _,h,s.trans h,fun _ _=>rfl⟩
theorem Err.from{mg:Str->Option Value}{E:XK}{G H G' H':Hp}{β:Type}{P:R β->Prop}(e:Err mg E G H P)(x:Ext G H G' H'):Err mg E G' H' P:=⟨e.no,fun y p c da G2 H2 z w=>e.er y p c da G2 H2 (x.trans z) w⟩
section
variable{mg:Str->Option Value}{E:XK}{n:Nat}
theorem errE{G H:Hp}{Q:VK}:Err mg E G H (fun r=>PostE mg E G H n r Q):=⟨fun h=>h,fun _ h=>h⟩
theorem errT{G H:Hp}{Q:Bool->Hp->Prop}:Err mg E G H (fun r=>PostT mg E G H r Q):=⟨fun h=>h,fun _ h=>h⟩
theorem errA{G H:Hp}{Q:List V->Hp->Prop}:Err mg E G H (fun r=>zXI mg E G H n r Q):=⟨fun h=>h,fun _ h=>h⟩
theorem DE.step{β:Type}{t:TE}{m:EM}(D:DE mg E t m n){G H:Hp}{σ:St}{ρ:Rh}{Q:VK}{P:R β->Prop}{f:Dt->R β}(hE:Err mg E G H P)(s:Same G H)(w:View G σ ρ)(p:P (zA1 (m ρ) f))
  (h:∀d v G' H' S,m ρ=okR d->Fr G H G' H' S->Own G' H' n S d v->P (f d)->Q v H'):t σ H Q:=by
 refine D G H σ ρ Q s w ?_;cases e:m ρ with
 |none=>rw[e]at p;exact hE.no p
 |some r=>
  rw[e]at p;cases r with
  |error x=>exact hE.er x p
  |ok d=>exact fun v G' H' S fr o=>h d v G' H' S e fr o p
theorem DT.step{β:Type}{t:TT}{m:TM}(D:DT mg E t m){G H:Hp}{σ:St}{ρ:Rh}{Q:Bool->Hp->Prop}{P:R β->Prop}{f:Bool->R β}(hE:Err mg E G H P)(s:Same G H)(w:View G σ ρ)(p:P (zA1 (m ρ) f))
  (h:∀b H',m ρ=okR b->Same H H'->P (f b)->Q b H'):t σ H Q:=by
 refine D G H σ ρ Q s w ?_;cases e:m ρ with
 |none=>rw[e]at p;exact hE.no p
 |some r=>
  rw[e]at p;cases r with
  |error x=>exact hE.er x p
  |ok b=>exact fun H' sH=>h b H' e sH p
theorem DA.step{β:Type}{t:TA}{m:AM}(D:DA mg E t m n){G H:Hp}{σ:St}{ρ:Rh}{Q:List V->Hp->Prop}{P:R β->Prop}{f:List Dt->R β}(hE:Err mg E G H P)(s:Same G H)(w:View G σ ρ)(p:P (zA1 (m ρ) f))
  (h:∀ds vs G' H' S T,m ρ=okR ds->Fr G H G' H' S->OwnA G' H' n S ds vs T->P (f ds)->Q vs H'):t σ H Q:=by
 refine D G H σ ρ Q s w ?_;cases e:m ρ with
 |none=>rw[e]at p;exact hE.no p
 |some r=>
  rw[e]at p;cases r with
  |error x=>exact hE.er x p
  |ok ds=>exact fun vs G' H' S T fr o=>h ds vs G' H' S T e fr o p
theorem PostE.from{G H G' H':Hp}{Q:VK}{r:R Dt}(p:PostE mg E G H n r Q)(x:Ext G H G' H'):PostE mg E G' H' n r Q:=by
 cases r with
 |none=>exact p
 |some r=>
  cases r with
  |error y=>exact fun c da G2 H2 z w=>p c da G2 H2 (x.trans z) w
  |ok d=>
   exact fun v G2 H2 S fr o=>p v G2 H2 S ⟨x.trans fr.ext,fun a ha=>⟨x.h.free (fr.new a ha).1,(fr.new a ha).2⟩⟩ o
theorem PostT.from{G H G' H':Hp}{Q:Bool->Hp->Prop}{r:R Bool}(p:PostT mg E G H r Q)(x:Ext G H G' H'):PostT mg E G' H' r Q:=by
 cases r with
 |none=>exact p
 |some r=>
  cases r with
  |error y=>exact fun c da G2 H2 z w=>p c da G2 H2 (x.trans z) w
  |ok d=>exact fun H2 s=>p H2 (x.h.trans s)
theorem Fr.from{G H G1 H1 G2 H2:Hp}{S:Addr->Prop}(x:Ext G H G1 H1)(f:Fr G1 H1 G2 H2 S):Fr G H G2 H2 S:=⟨x.trans f.ext,fun a ha=>⟨x.h.free (f.new a ha).1,(f.new a ha).2⟩⟩
theorem PostE.val{G H G' H':Hp}{d:Dt}{v:V}{Q:VK}(p:PostE mg E G H n (okR d) Q)(x:Ext G H G' H')(hd:d.dep=0)(h:Rep G' d v):Q v H':=
 p v G' H' (fun _=>False) ⟨x,fun _ z=>z.elim⟩ (zKB h hd)
theorem PostE.kept{G H G' H':Hp}{d:Dt}{v:V}{Q:VK}(p:PostE mg E G H 0 (okR d) Q)(x:Ext G H G' H')(h:Rep G' d v):Q v H':=
 p v G' H' (fun _=>False) ⟨x,fun _ z=>z.elim⟩ h
theorem zAS{t:TE}{m:EM}{n:Nat}(D:DE mg E t m n):DE mg E t m 0:=by
 intro G H σ ρ Q s w p;refine D G H σ ρ Q s w ?_;cases e:m ρ with
 |none=>rw[e]at p;exact p
 |some r=>
  rw[e]at p;cases r with
  |error x=>exact p
  |ok d=>
   intro v G' H' S fr o;obtain⟨x,r⟩:=fr.frz o;exact PostE.kept p x r
end
end
section
variable[Kc]{mg:Str->Option Value}{E:XK}{n k l:Nat}{ta tb tc:TE}{ma mb mc:EM}
theorem zAB{i:Int}:DE mg E (tC (.int i)) (Mi.eC (.int i)) n:=fun G H σ ρ Q s w p=>PostE.val p (Ext.refl s) rfl rfl
theorem zLS{b:Bool}:DE mg E (tC (.bl b)) (Mi.eC (.bl b)) n:=fun G H σ ρ Q s w p=>PostE.val p (Ext.refl s) rfl rfl
theorem zKR:DE mg E (tC .non) (Mi.eC .non) n:=fun G H σ ρ Q s w p=>PostE.val p (Ext.refl s) rfl rfl
theorem zX4{x:Str}:DE mg E (tC (.str x)) (Mi.eC (.str x)) n:=fun G H σ ρ Q s w p=>PostE.val p (Ext.refl s) rfl rfl
theorem de_v(i:Nat):DE mg E (vM i) (Mi.eV i) 0:=by
 intro G H σ ρ Q s w p;unfold Mi.eV at p;cases e:ρ[i]? with
 |none=>rw[e]at p;exact p.elim
 |some o=>
  rw[e]at p;cases o with
  |none=>exact p.elim
  |some d=>
   obtain⟨v,h1,h2⟩:=w.at i d e;unfold vM;rw[h1];exact PostE.kept p (Ext.refl s) h2
def ROp(r:R2)(f:Dt->Dt->Option Dt)(n:Nat):Prop:=∀(mg:Str->Option Value)(E:XK)(G H:Hp)(d e:Dt)(x y:V)(Q:VK),Same G H->Rep G d x->Rep G e y->PostE mg E G H n (optR (f d e)) Q->r x y H Q
theorem zAG{r:R2}{f:Dt->Dt->Option Dt}(hr:ROp r f n)(A:DE mg E ta ma k)(B:DE mg E tb mb l):DE mg E (tOp r ta tb) (Mi.eB f ma mb) n:=by
 intro G H σ ρ Q s w p;refine(zAS A).step errE s w p fun d v G1 H1 S _ fr o p1=>?_
 refine(zAS B).step (errE.from fr.ext) fr.ext.in' (w.mono fr.ext.g) p1 fun e u G2 H2 S2 _ fr2 o2 p2=>?_
 exact hr mg E G2 H2 d e v u Q fr2.ext.in' (Rep.mono fr2.ext.g o) o2 (PostE.from p2 (fr.ext.trans fr2.ext))
def ROp1(r:V->Hp->VK->Prop)(f:Dt->Option Dt)(n:Nat):Prop:=∀(mg:Str->Option Value)(E:XK)(G H:Hp)(d:Dt)(x:V)(Q:VK),Same G H->Rep G d x->PostE mg E G H n (optR (f d)) Q->r x H Q
theorem zZ0{r:V->Hp->VK->Prop}{f:Dt->Option Dt}(hr:ROp1 r f n)(A:DE mg E ta ma k):DE mg E (tUn r ta) (Mi.eU f ma) n:=by
 intro G H σ ρ Q s w p;refine(zAS A).step errE s w p fun d v G1 H1 S _ fr o p1=>?_
 exact hr mg E G1 H1 d v Q fr.ext.in' o (PostE.from p1 fr.ext)
theorem de_and(A:DE mg E ta ma k)(B:DE mg E tb mb n):DE mg E (fun σ H Q=>ta σ H fun x H1=>match x with | .bl c=>if c=true then tb σ H1 Q else Q (.bl false) H1|_=>False) (Mi.eAnd ma mb) n:=by
 intro G H σ ρ Q s w p;refine(zAS A).step errE s w p fun d v G1 H1 S _ fr o p1=>?_
 cases d with
 |bl b=>
  cases(show v=.bl b from o)
  cases b with
  |true=>exact B G1 H1 σ ρ Q fr.ext.in' (w.mono fr.ext.g) (PostE.from p1 fr.ext)
  |false=>exact PostE.val (PostE.from p1 fr.ext) (Ext.refl fr.ext.in') rfl rfl
 |_=>exact p1.elim
theorem zRT{tA:TT}{c:TM}(C:DT mg E tA c)(A:DE mg E ta ma n)(B:DE mg E tb mb n):DE mg E (tIf tA ta tb) (Mi.eIf c ma mb) n:=by
 intro G H σ ρ Q s w p;refine C.step errE s w p fun b H' _ sH p1=>?_
 have p2:=PostE.from p1 (Ext.same s sH);cases b with
 |true=>exact A G H' σ ρ Q (s.trans sH) w p2
 |false=>exact B G H' σ ρ Q (s.trans sH) w p2
theorem dt_b(A:DE mg E ta ma k):DT mg E (fun σ H Q=>ta σ H fun z H3=>match z with | .bl k=>Q k H3|_=>False) (Mi.tB ma):=by
 intro G H σ ρ Q s w p;refine(zAS A).step errT s w p fun d v G1 H1 S _ fr o p1=>?_
 cases d with
 |bl b=>
  cases(show v=.bl b from o)
  exact p1 H1 fr.ext.h
 |_=>exact p1.elim
theorem dt_m(A:DE mg E ta ma k):DT mg E (bM ta) (Mi.tM ma):=by
 intro G H σ ρ Q s w p;refine(zAS A).step errT s w p fun d v G1 H1 S _ fr o p1=>?_
 cases d with
 |bl b=>cases(show v=.bl b from o);exact p1 H1 fr.ext.h
 |int b=>cases(show v=.int b from o);exact p1 H1 fr.ext.h
 |non=>cases(show v=.non from o);exact p1 H1 fr.ext.h
 |_=>exact p1.elim
variable{tA tB:TT}{cA cB:TM}
theorem zWX(A:DT mg E tA cA)(B:DT mg E tB cB):DT mg E (L2.tAnd tA tB) (Mi.tAn cA cB):=by
 intro G H σ ρ Q s w p;refine A.step errT s w p fun b H' _ sH p1=>?_
 cases b with
 |true=>exact B G H' σ ρ Q (s.trans sH) w (PostT.from p1 (Ext.same s sH))
 |false=>exact p1 H' sH
theorem zI4(A:DT mg E tA cA)(B:DT mg E tB cB):DT mg E (L2.tOr tA tB) (Mi.tOr cA cB):=by
 intro G H σ ρ Q s w p;refine A.step errT s w p fun b H' _ sH p1=>?_
 cases b with
 |false=>exact B G H' σ ρ Q (s.trans sH) w (PostT.from p1 (Ext.same s sH))
 |true=>exact p1 H' sH
theorem zI5(A:DT mg E tA cA):DT mg E (L2.tNot tA) (Mi.tNo cA):=by
 intro G H σ ρ Q s w p;exact A.step errT s w p fun b H' _ sH p1=>p1 H' sH
theorem zKN:DT mg E L2.tYes Mi.tYes:=fun G H σ ρ Q s w p=>p H (Same.refl _)
variable{t:TA}{m:AM}
theorem zAC:DA mg E tNil Mi.aNil n:=fun G H σ ρ Q s w p=>p [] G H (fun _=>False) (fun _ _=>False) ⟨Ext.refl s,fun _ z=>z.elim⟩ ⟨rfl,fun q d x h=>by simp at h,fun _ _ _ z=>z.elim,fun _ _ z=>z.elim⟩
theorem zA3(A:DE mg E ta ma n)(B:DA mg E t m n):DA mg E (zD3 ta t) (Mi.aCons ma m) n:=by
 intro G H σ ρ Q s w p;refine A.step errA s w p fun d v G1 H1 S1 _ fr o p1=>?_
 refine B.step (errA.from fr.ext) fr.ext.in' (w.mono fr.ext.g) p1 fun ds vs G2 H2 S2 T2 _ fr2 o2 p2=>?_
 refine p2 (v::vs) G2 H2 (fun a=>S1 a\/S2 a) (fun q=>match q with|0=>S1|q+1=>T2 q) ⟨fr.ext.trans fr2.ext,fun a ha=>?_⟩ ⟨by simp[o2.len],fun q d' x h1 h2=>?_,fun q r b h1 h2=>?_,fun q b h=>?_⟩
 ·rcases ha with ha|ha
  ·obtain⟨n1,n2,n3⟩:=fr.new a ha;exact⟨n1,(fr2.ext.old a n3).trans n2,fr2.ext.h.some n3⟩
  ·obtain⟨n1,n2,n3⟩:=fr2.new a ha;exact⟨fr.ext.h.free n1,n2,n3⟩
 ·cases q with
  |zero=>simp at h1 h2;subst h1;subst h2;exact o.mono fr2.ext.g fr2.ext.h
  |succ q=>exact o2.own q d' x (by simpa using h1) (by simpa using h2)
 ·have ap:∀r b,S1 b->T2 r b->False:=fun r b h1 h2=>(fr.new b h1).2.2 (fr2.new b (o2.sub r b h2)).1
  cases q with
  |zero=>
   cases r with
   |zero=>rfl
   |succ r=>exact(ap r b h1 h2).elim
  |succ q=>
   cases r with
   |zero=>exact(ap q b h2 h1).elim
   |succ r=>rw[o2.dis q r b h1 h2]
 ·cases q with
  |zero=>exact .inl h
  |succ q=>exact .inr (o2.sub q b h)
theorem OwnA.repL{G H:Hp}{S:Addr->Prop}{ds:List Dt}{vs:List V}{T:Nat->Addr->Prop}(o:OwnA G H 0 S ds vs T):RepL G ds vs:=zCN o.len fun q d x h1 h2=>o.own q d x h1 h2
theorem big'{n:Nat}(h:n<=100000):n<=sizeLine:=qCo (L2.big h)
theorem Fr.add{G H G' H':Hp}{S:Addr->Prop}(f:Fr G H G' H' S){p:Addr}(hp:H' p=none)(o:HO):Fr G H G' (upd H' p o) (fun a=>a=p\/S a):=by
 have sn:=L2.same_new hp o;refine⟨⟨f.ext.g,f.ext.h.trans sn,f.ext.in'.trans sn,f.ext.old⟩,fun a ha=>?_⟩
 rcases ha with rfl|ha
 ·exact⟨f.ext.h.free hp,f.ext.in'.free hp,by rw[zAE];simp⟩
 ·obtain⟨n1,n2,n3⟩:=f.new a ha;exact⟨n1,n2,sn.some n3⟩
theorem OwnA.kids{G' H':Hp}{S:Addr->Prop}{ds:List Dt}{vs:List V}{T:Nat->Addr->Prop}(o:OwnA G' H' n S ds vs T)(hn:∀a,S a->H' a≠none){p:Addr}(hp:H' p=none)(ob:HO) :
  Kids (Own G' (upd H' p ob) n) (fun a=>a=p\/S a) p ds vs T:=
 ⟨o.len,fun q d x h1 h2=>(o.own q d x h1 h2).mono (Same.refl _) (L2.same_new hp ob),.inl rfl,fun q z=>hn p (o.sub q p z) hp,o.dis,fun q b z=>.inr (o.sub q b z)⟩
theorem zCU(A:DA mg E t m n):DE mg E (tLst t) (Mi.eLst m) (n+1):=by
 intro G H σ ρ Q s w p;refine A.step errE s w p fun ds vs G1 H1 S T _ fr o p1=>?_
 by_cases hz:ds.length<=100000
 ·rw[if_pos hz]at p1;refine⟨by rw[o.len];exact big' hz,fun a ha=>?_⟩;exact p1 (.ref a) G1 _ _ (fr.add ha _) ⟨a,vs,T,rfl,zAE,o.kids (fun b hb=>(fr.new b hb).2.2) ha _⟩
 ·rw[if_neg hz]at p1;exact p1.elim
theorem PostE.lst{G H G' H':Hp}{ds:List Dt}{xs:List V}{Q:VK}(p:PostE mg E G H 1 (okR (.lst ds)) Q)(x:Ext G H G' H')(r:RepL G' ds xs){a:Addr}(ha:H' a=none):Q (.ref a) (upd H' a (.lst xs)):=by
 have fr:Fr G H G' H' (fun _=>False):=⟨x,fun _ z=>z.elim⟩
 refine p (.ref a) G' _ _ (fr.add ha (.lst xs)) ⟨a,xs,fun _ _=>False,rfl,zAE,⟨r.length,fun q d y h1 h2=>zBF r h1 h2,.inl rfl,fun _ z=>z,fun _ _ _ z=>z.elim,fun _ _ z=>z.elim⟩⟩
def CBi(r:List V->Hp->VK->Prop)(f:List Dt->Option Dt)(n:Nat):Prop:=∀(mg:Str->Option Value)(E:XK)(G H:Hp)(ds:List Dt)(vs:List V)(Q:VK),Same G H->RepL G ds vs->PostE mg E G H n (optR (f ds)) Q->r vs H Q
theorem zB7{r:List V->Hp->VK->Prop}{f:List Dt->Option Dt}(hr:CBi r f n)(A:DA mg E t m 0):DE mg E (tCB r t) (Mi.eBi f m) n:=by
 intro G H σ ρ Q s w p;refine A.step errE s w p fun ds vs G1 H1 S T _ fr o p1=>?_
 exact hr mg E G1 H1 ds vs Q fr.ext.in' o.repL (PostE.from p1 fr.ext)
def spM(mg:Str->Option Value)(L:Nat)(f:FM):Sp:=fun vs H Q E=>∃G ds,Same (tabK Kc.K) G/\Same G H/\RepL G ds vs/\PostE mg E G H L (f ds) Q
theorem zBM{f:FM}(A:DA mg E t m 0):DE mg E (zDJ (spM mg n f) [] E t) (Mi.eCall f m) n:=by
 intro G H σ ρ Q s w p;refine A.step errE s w p fun ds vs G1 H1 S T _ fr o p1=>?_
 exact⟨G1,ds,w.tab.trans fr.ext.g,fr.ext.in',by rw[qBr];exact o.repL,PostE.from p1 fr.ext⟩
theorem zMP{G H:Hp}{o:Option Dt}{Q:VK}{d:Dt}{v:V}(s:Same G H)(p:PostE mg E G H n (optR o) Q)(e:o=some d)(hd:d.dep=0)(h:Rep G d v):Q v H:=by
 subst e;exact PostE.val p (Ext.refl s) hd h
theorem zBO:ROp zSK Mi.addD 1:=by
 intro mg E G H d e x y Q s h1 h2 p;cases d with
 |int i=>
  cases e with
  |int j=>cases(show x=.int i from h1);cases(show y=.int j from h2);exact zMP s p rfl rfl rfl
  |_=>exact p.elim
 |str i=>
  cases e with
  |str j=>
   cases(show x=.str i from h1);cases(show y=.str j from h2)
   rw[Mi.addD]at p
   by_cases hz:i.length+j.length<=100000
   ·rw[if_pos hz]at p;exact⟨big' hz,PostE.val p (Ext.refl s) rfl rfl⟩
   ·rw[if_neg hz]at p;exact p.elim
  |_=>exact p.elim
 |lst ds=>
  cases e with
  |lst es=>
   obtain⟨a,xs,rfl,ha,ra⟩:=h1;obtain⟨b,ys,rfl,hb,rb⟩:=h2;rw[Mi.addD]at p
   by_cases hz:ds.length+es.length<=100000
   ·rw[if_pos hz]at p;refine⟨xs,ys,s _ _ ha,s _ _ hb,by rw[ra.length,rb.length];exact big' hz,fun q hq=>?_⟩;refine PostE.lst p (Ext.refl s) (zCN (by simp[ra.length,rb.length]) fun j d' x' e1 e2=>?_) hq
    by_cases hj:j<ds.length
    ·rw[qA8 hj]at e1;rw[qA8 (by rw[ra.length];exact hj)]at e2;exact zBF ra e1 e2
    ·rw[qAc (by lia)]at e1;rw[qAc (by rw[ra.length];lia),ra.length]at e2;exact zBF rb e1 e2
   ·rw[if_neg hz]at p;exact p.elim
  |_=>exact p.elim
 |_=>exact p.elim
theorem zUV:ROp zV5 Mi.subD n:=by
 intro mg E G H d e x y Q s h1 h2 p;cases d with
 |int i=>
  cases e with
  |int j=>cases(show x=.int i from h1);cases(show y=.int j from h2);exact zMP s p rfl rfl rfl
  |_=>exact p.elim
 |_=>exact p.elim
theorem zBT:ROp zVC Mi.mulD n:=by
 intro mg E G H d e x y Q s h1 h2 p;cases d with
 |int i=>
  cases e with
  |int j=>
   cases(show x=.int i from h1);cases(show y=.int j from h2)
   rw[Mi.mulD]at p
   split at p
   ·rename_i hz;exact⟨hz,PostE.val p (Ext.refl s) rfl rfl⟩
   ·exact p.elim
  |_=>exact p.elim
 |_=>exact p.elim
theorem zFP:ROp zVG Mi.divD n:=by
 intro mg E G H d e x y Q s h1 h2 p;cases d with
 |int i=>
  cases e with
  |int j=>
   cases(show x=.int i from h1);cases(show y=.int j from h2)
   rw[Mi.divD]at p
   split at p
   ·rename_i hz;exact⟨hz,PostE.val p (Ext.refl s) rfl rfl⟩
   ·exact p.elim
  |_=>exact p.elim
 |_=>exact p.elim
theorem zBW:ROp zVD Mi.modD n:=by
 intro mg E G H d e x y Q s h1 h2 p;cases d with
 |int i=>
  cases e with
  |int j=>
   cases(show x=.int i from h1);cases(show y=.int j from h2)
   rw[Mi.modD]at p
   split at p
   ·rename_i hz;exact⟨hz,PostE.val p (Ext.refl s) rfl rfl⟩
   ·exact p.elim
  |_=>exact p.elim
 |_=>exact p.elim
theorem zUW:ROp zV8 Mi.powD n:=by
 intro mg E G H d e x y Q s h1 h2 p;cases d with
 |int i=>
  cases e with
  |int j=>
   cases(show x=.int i from h1);cases(show y=.int j from h2)
   rw[Mi.powD]at p
   split at p
   ·rename_i hz;exact⟨hz,PostE.val p (Ext.refl s) rfl rfl⟩
   ·exact p.elim
  |_=>exact p.elim
 |_=>exact p.elim
theorem zUX:ROp1 zVA Mi.negD n:=by
 intro mg E G H d x Q s h1 p;cases d with
 |int i=>cases(show x=.int i from h1);exact zMP s p rfl rfl rfl
 |_=>exact p.elim
theorem zE7{q:Int->Int->Bool}:ROp (zSI q) (Mi.cmpD q) n:=by
 intro mg E G H d e x y Q s h1 h2 p;cases d with
 |int i=>
  cases e with
  |int j=>cases(show x=.int i from h1);cases(show y=.int j from h2);exact zMP s p rfl rfl rfl
  |_=>exact p.elim
 |_=>exact p.elim
theorem zRP{G H:Hp}{d e:Dt}{x y:V}{Q:VK}{ng:Bool}(s:Same G H)(h1:Rep G d x)(h2:Rep G e y)(hd:d.dep<=40)(he:e.dep<=40)(q:Q (.bl (if ng then !Dt.eq d e else Dt.eq d e)) H) :
  ∃d' e',L2.Rep H d' x/\L2.Rep H e' y/\d'.dep<=40/\Q (.bl (if ng then !L2.Dat.eq d' e' else L2.Dat.eq d' e')) H:=
 ⟨conv d,conv e,zGX hd (Rep.mono s h1),zGX he (Rep.mono s h2),qAn (zKU hd) hd,by rw[zOM hd he];exact q⟩
theorem zE5{α:Type}[DecidableEq α](a b:α):(a==b)=decide (a=b):=by
 by_cases h:a=b
 ·subst h;simp
 ·simp[h]
theorem zGF{G:Hp}{d:Dt}{i:Int}(h:Rep G d (.int i)):d=.int i:=by
 cases d with
 |int k=>cases h;rfl
 |non=>cases h
 |bl _=>cases h
 |str _=>cases h
 |lst _=>obtain⟨_,_,z,_⟩:=h;cases z
 |tup _=>obtain⟨_,_,z,_⟩:=h;cases z
 |scr _=>obtain⟨_,z,_⟩:=h;cases z
 |exc _ _ _=>obtain⟨_,_,_,z,_⟩:=h;cases z
 |fn _ _=>obtain⟨_,z,_⟩:=h;cases z
 |dtt _ _=>obtain⟨_,_,_,_,z,_⟩:=h;cases z
 |loc _ _=>obtain⟨z,_⟩:=h;cases z
 |ins _ _=>obtain⟨_,_,_,z,_⟩:=h;cases z
 |dct _=>obtain⟨_,z,_⟩:=h;cases z
theorem zGE{G:Hp}{d:Dt}{i:Str}(h:Rep G d (.str i)):d=.str i:=by
 cases d with
 |str k=>cases h;rfl
 |non=>cases h
 |bl _=>cases h
 |int _=>cases h
 |lst _=>obtain⟨_,_,z,_⟩:=h;cases z
 |tup _=>obtain⟨_,_,z,_⟩:=h;cases z
 |scr _=>obtain⟨_,z,_⟩:=h;cases z
 |exc _ _ _=>obtain⟨_,_,_,z,_⟩:=h;cases z
 |fn _ _=>obtain⟨_,z,_⟩:=h;cases z
 |dtt _ _=>obtain⟨_,_,_,_,z,_⟩:=h;cases z
 |loc _ _=>obtain⟨z,_⟩:=h;cases z
 |ins _ _=>obtain⟨_,_,_,z,_⟩:=h;cases z
 |dct _=>obtain⟨_,z,_⟩:=h;cases z
theorem zK1{G:Hp}{d:Dt}{i:Bool}(h:Rep G d (.bl i)):d=.bl i:=by
 cases d with
 |bl k=>cases h;rfl
 |non=>cases h
 |str _=>cases h
 |int _=>cases h
 |lst _=>obtain⟨_,_,z,_⟩:=h;cases z
 |tup _=>obtain⟨_,_,z,_⟩:=h;cases z
 |scr _=>obtain⟨_,z,_⟩:=h;cases z
 |exc _ _ _=>obtain⟨_,_,_,z,_⟩:=h;cases z
 |fn _ _=>obtain⟨_,z,_⟩:=h;cases z
 |dtt _ _=>obtain⟨_,_,_,_,z,_⟩:=h;cases z
 |loc _ _=>obtain⟨z,_⟩:=h;cases z
 |ins _ _=>obtain⟨_,_,_,z,_⟩:=h;cases z
 |dct _=>obtain⟨_,z,_⟩:=h;cases z
theorem zL9:ROp rEqU Mi.eqD n:=by
 intro mg E G H d e x y Q s h1 h2 p;unfold Mi.eqD at p
 split at p
 ·rename_i hz
  have q:Q (.bl (Dt.eq d e)) H:=PostE.val p (Ext.refl s) rfl rfl;have g:=zRP (ng:=false) (Q:=Q) s h1 h2 hz.1 hz.2 q;unfold rEqU
  split
  ·rw[zGF h1,zGF h2,Dt.eq,zE5]at q;exact q
  ·rw[zGE h1,zGE h2,Dt.eq,zE5]at q;exact q
  ·rw[zK1 h1,zK1 h2,Dt.eq,zE5]at q;exact q
  ·exact g
 ·exact p.elim
theorem zPF:ROp rNeU Mi.neD n:=by
 intro mg E G H d e x y Q s h1 h2 p;unfold Mi.neD at p
 split at p
 ·rename_i hz
  have q:Q (.bl (!Dt.eq d e)) H:=PostE.val p (Ext.refl s) rfl rfl;have g:=zRP (ng:=true) (Q:=Q) s h1 h2 hz.1 hz.2 q;unfold rNeU
  split
  ·rw[zGF h1,zGF h2,Dt.eq,zE5]at q;exact q
  ·rw[zGE h1,zGE h2,Dt.eq,zE5]at q;exact q
  ·rw[zK1 h1,zK1 h2,Dt.eq,zE5]at q;exact q
  ·exact g
 ·exact p.elim
theorem zQ7{G:Hp}{d:Dt}{x:V}(h:Rep G d x):decide (x=.non)=Mi.isNonD d:=by
 cases d with
 |non=>cases h;rfl
 |bl _=>cases h;rfl
 |int _=>cases h;rfl
 |str _=>cases h;rfl
 |lst _=>obtain⟨_,_,rfl,_⟩:=h;rfl
 |tup _=>obtain⟨_,_,rfl,_⟩:=h;rfl
 |scr _=>obtain⟨_,rfl,_⟩:=h;rfl
 |exc _ _ _=>obtain⟨_,_,_,rfl,_⟩:=h;rfl
 |fn _ _=>obtain⟨_,rfl,_⟩:=h;rfl
 |dtt _ _=>obtain⟨_,_,_,_,rfl,_⟩:=h;rfl
 |loc _ _=>obtain⟨rfl,_⟩:=h;rfl
 |ins _ _=>obtain⟨_,_,_,rfl,_⟩:=h;rfl
 |dct _=>obtain⟨_,rfl,_⟩:=h;rfl
theorem zY6:ROp (fun x y H Q=>y=.non/\Q (.bl (decide (x=.non))) H) Mi.isD n:=by
 intro mg E G H d e x y Q s h1 h2 p;cases e with
 |non=>exact⟨h2,by rw[zQ7 h1];exact PostE.val p (Ext.refl s) rfl rfl⟩
 |_=>exact p.elim
theorem zKJ(n:Nat)(i:Int):Mi.ixA n i=ixN n i:=rfl
theorem zRK{α:Type}(xs:List α)(i:Int):Mi.itA xs i=atI xs i:=rfl
theorem zS0{G:Hp}{ds:List Dt}{xs:List V}{i:Int}{d:Dt}(r:RepL G ds xs)(h:Mi.itA ds i=some d):∃x,atI xs i=some x/\Rep G d x:=by
 rw[zRK]at h;unfold atI at h ⊢;rw[r.length];cases e:ixN ds.length i with
 |none=>rw[e]at h;cases h
 |some j=>
  rw[e]at h;have h':ds[j]?=some d:=h;have hj:j<xs.length:=by rw[r.length];exact(qA4.mp h').1
  exact⟨xs[j],by simp[hj],zBF r h' (by simp[hj])⟩
theorem zDD:ROp (rIxU Kc.K) Mi.ixD 0:=by
 intro mg E G H d e x y Q s h1 h2 p;cases e with
 |int i=>
  cases(show y=.int i from h2)
  cases d with
  |lst ds=>
   obtain⟨a,xs,rfl,ha,ra⟩:=h1;cases er:Mi.itA ds i with
   |none=>rw[Mi.ixD,er]at p;exact p.elim
   |some c=>
    rw[Mi.ixD,er]at p;obtain⟨v,e1,r1⟩:=zS0 ra er;exact⟨xs,v,.inl (SqL.of (s _ _ ha)),e1,PostE.kept p (Ext.refl s) r1⟩
  |tup ds=>
   obtain⟨a,xs,rfl,ha,ra⟩:=h1;cases er:Mi.itA ds i with
   |none=>rw[Mi.ixD,er]at p;exact p.elim
   |some c=>
    rw[Mi.ixD,er]at p;obtain⟨v,e1,r1⟩:=zS0 ra er;exact⟨xs,v,.inr (SqT.of (s _ _ ha)),e1,PostE.kept p (Ext.refl s) r1⟩
  |scr ns=>
   obtain⟨a,rfl,ha⟩:=h1;cases er:Mi.itA ns i with
   |none=>rw[Mi.ixD,er]at p;exact p.elim
   |some c=>
    rw[Mi.ixD,er]at p;refine⟨ns.map V.int,.int c,(zDL s ha).old,?_,PostE.kept p (Ext.refl s) rfl⟩;rw[zRK]at er;unfold atI at er ⊢;rw[qAm];cases e:ixN ns.length i with
    |none=>rw[e]at er;cases er
    |some j=>
     rw[e]at er;have er':ns[j]?=some c:=er
     show(ns.map V.int)[j]?=some (.int c)
     rw[qAe,er'];rfl
  |str z=>
   cases(show x=.str z from h1)
   rw[Mi.ixD]at p
   by_cases hz:z.length<=100000
   ·rw[if_pos hz]at p;cases er:Mi.itA z.cps.toList i with
    |none=>rw[er]at p;exact p.elim
    |some c=>rw[er]at p;exact⟨c,big' hz,er,PostE.kept p (Ext.refl s) rfl⟩
   ·rw[if_neg hz]at p;exact p.elim
  |_=>exact p.elim
 |_=>cases d<;>exact p.elim
theorem zDW{G:Hp}{d:Dt}{vs:List V}(h:RepL G [d] vs):∃x,vs=[x]/\Rep G d x:=by
 obtain⟨x,q,rfl,a,b⟩:=h
 cases(show q=[] from b)
 exact⟨x,rfl,a⟩
theorem zSG{G:Hp}{d e:Dt}{vs:List V}(h:RepL G [d,e] vs):∃x y,vs=[x,y]/\Rep G d x/\Rep G e y:=by
 obtain⟨x,q,rfl,a,b⟩:=h;obtain⟨y,rfl,c⟩:=zDW b;exact⟨x,y,rfl,a,c⟩
theorem zBA:CBi (zSH Kc.K) Mi.lenD n:=by
 intro mg E G H ds vs Q s h p;cases ds with
 |nil=>exact p.elim
 |cons a0 r0=>
  cases r0 with
  |cons _ _=>cases a0<;>exact p.elim
  |nil=>
   cases a0 with
   |lst es=>
    obtain⟨x,rfl,a,xs,rfl,ha,ra⟩:=zDW h;exact⟨xs,.inl (SqL.of (s _ _ ha)),by rw[ra.length];exact PostE.val p (Ext.refl s) rfl rfl⟩
   |tup es=>
    obtain⟨x,rfl,a,xs,rfl,ha,ra⟩:=zDW h;exact⟨xs,.inr (SqT.of (s _ _ ha)),by rw[ra.length];exact PostE.val p (Ext.refl s) rfl rfl⟩
   |scr ns=>
    obtain⟨x,rfl,a,rfl,ha⟩:=zDW h;refine⟨ns.map V.int,(zDL s ha).old,?_⟩;rw[qAm];exact PostE.val p (Ext.refl s) rfl rfl
   |str z=>
    obtain⟨x,rfl,hx⟩:=zDW h
    cases(show x=.str z from hx)
    rw[Mi.lenD]at p
    by_cases hz:z.length<=100000
    ·rw[if_pos hz]at p;exact⟨big' hz,PostE.val p (Ext.refl s) rfl rfl⟩
    ·rw[if_neg hz]at p;exact p.elim
   |_=>exact p.elim
theorem zC5{G:Hp}:∀(ns:List Int),RepL G (ns.map Dt.int) (ns.map V.int)
 |[]=>rfl
 |_::r=>⟨_,_,rfl,rfl,zC5 r⟩
theorem zJJ:CBi (zFR Kc.K) Mi.listD 1:=by
 intro mg E G H ds vs Q s h p;cases ds with
 |nil=>exact p.elim
 |cons a0 r0=>
  cases r0 with
  |cons _ _=>cases a0<;>exact p.elim
  |nil=>
   cases a0 with
   |lst es=>
    obtain⟨x,rfl,a,xs,rfl,ha,ra⟩:=zDW h;exact .inl ⟨xs,.inl (SqL.of (s _ _ ha)),fun l hl=>PostE.lst p (Ext.refl s) ra hl⟩
   |tup es=>
    obtain⟨x,rfl,a,xs,rfl,ha,ra⟩:=zDW h;exact .inl ⟨xs,.inr (SqT.of (s _ _ ha)),fun l hl=>PostE.lst p (Ext.refl s) ra hl⟩
   |scr ns=>
    obtain⟨x,rfl,a,rfl,ha⟩:=zDW h;exact .inl ⟨ns.map V.int,(zDL s ha).old,fun l hl=>PostE.lst p (Ext.refl s) (zC5 ns) hl⟩
   |_=>exact p.elim
theorem zK0{G:Hp}(lo:Int)(k:Nat):RepL G (Mi.nums lo k) (zCB lo k):=by
 unfold Mi.nums zCB;refine zCN (by simp) fun q d x h1 h2=>?_
 rw[qAe]at h1 h2;cases e:(qA7 k)[q]? with
 |none=>rw[e]at h1;cases h1
 |some j=>rw[e]at h1 h2;cases h1;cases h2;rfl
theorem zC0{K:qA2}(A:DA mg E t m 0):DE mg E (tCB (zFR K) (zD3 (tCB zIX t) tNil)) (Mi.eBi Mi.rangeD m) 1:=by
 intro G H σ ρ Q s w p;refine A.step errE s w p fun ds vs G1 H1 S T _ fr o p1=>?_
 have p2:=PostE.from p1 fr.ext;have r:=o.repL;have s1:=fr.ext.in';have fin:∀(lo hi:Int),(-4611686018427387904<=lo/\lo<4611686018427387904/\-4611686018427387904<=hi/\hi<4611686018427387904)->hi-lo<=100000->PostE mg E G1 H1 1 (okR (.lst (Mi.nums lo (hi-lo).toNat))) Q ->
   ∀q,H1 q=none->zFR K [.ref q] (upd H1 q (.rng lo hi)) Q:=by
  intro lo hi hb hz pp q hq;refine .inr ⟨lo,hi,zAE,⟨by lia,by lia,by lia,by lia⟩,by lia,fun l hl=>?_⟩;have sn:=L2.same_new hq (.rng lo hi);exact PostE.lst pp (Ext.same s1 sn) (zK0 lo _) hl
 cases ds with
 |nil=>exact p2.elim
 |cons a0 r0=>
  cases a0 with
  |int i=>
   cases r0 with
   |nil=>
    obtain⟨x,rfl,hx⟩:=zDW r
    cases(show x=.int i from hx)
    rw[Mi.rangeD]at p2
    split at p2
    ·rename_i hz
     intro q hq;refine fin 0 i ⟨by decide,by decide,hz.1.1,hz.1.2⟩ (by lia) ?_ q hq;rw[Int.sub_zero];exact p2
    ·exact p2.elim
   |cons b0 r1=>
    cases r1 with
    |cons _ _=>cases b0<;>exact p2.elim
    |nil=>
     cases b0 with
     |int j=>
      obtain⟨x,y,rfl,hx,hy⟩:=zSG r
      cases(show x=.int i from hx)
      cases(show y=.int j from hy)
      rw[Mi.rangeD]at p2
      split at p2
      ·rename_i hz
       exact fun q hq=>fin i j hz.1 hz.2 p2 q hq
      ·exact p2.elim
     |_=>exact p2.elim
  |_=>rcases r0 with _|⟨_,_|_⟩<;>exact p2.elim
theorem zXX{G H:Hp}{d:Dt}{x:V}(s:Same G H)(h:Rep G d x)(hd:Mi.tyD d≠""):zER H x=some (Mi.tyD d):=by
 cases d with
 |non=>cases h;rfl
 |bl _=>cases h;rfl
 |int _=>cases h;rfl
 |str _=>cases h;rfl
 |lst _=>obtain⟨a,xs,rfl,ha,_⟩:=h;unfold zER;dsimp only;rw[s _ _ ha];rfl
 |tup _=>obtain⟨a,xs,rfl,ha,_⟩:=h;unfold zER;dsimp only;rw[s _ _ ha];rfl
 |scr _=>exact absurd rfl hd
 |exc _ _ _=>exact absurd rfl hd
 |fn _ _=>exact absurd rfl hd
 |dtt _ _=>exact absurd rfl hd
 |loc _ _=>exact absurd rfl hd
 |ins _ _=>exact absurd rfl hd
 |dct _=>exact absurd rfl hd
theorem zKS{nm:String}(hn:nm∈["int","bool","str","list","tuple","dict"])(A:DE mg E ta ma k):DE mg E (tCB zVF (zD3 ta (zD3 (tC (.ty nm)) tNil))) (Mi.eIsi nm ma) n:=by
 intro G H σ ρ Q s w p;refine(zAS A).step errE s w p fun d v G1 H1 S _ fr o p1=>?_
 have p2:=PostE.from p1 fr.ext;unfold Mi.isiD at p2
 split at p2
 ·exact p2.elim
 ·rename_i hd
  exact⟨Mi.tyD d,zXX fr.ext.in' o hd,hn,PostE.val p2 (Ext.refl fr.ext.in') rfl rfl⟩
end
section
variable[Kc]
def ItOk(J:It)(G:Hp)(ds:List Dt):Prop:=∀(i:Nat)(G1 H1:Hp),Same G G1->Same G1 H1->(i<ds.length->J.go i H1)/\(ds.length<=i->J.stop i H1)/\∀x H2 d,ds[i]?=some d->J.yld i H1 x H2->∃G2,Ext G1 H1 G2 H2/\Rep G2 d x
noncomputable def zOZ(ind:Bool)(G:Hp):Hp:=if ind=true then(fun _=>none)else G
def zXH(mg:Str->Option Value)(E:XK)(G H:Hp)(ind:Bool)(r:R (List Dt))(Q:It->Hp->Prop):Prop:=match r with
 |none=>False
 |some (.error x)=>∀c da G' H',Ext G H G' H'->XRep mg x c da G' H'->E c da H'
 |some (.ok ds)=>∀J G' H',Ext G H G' H'->ItOk J (zOZ ind G') ds->Q J H'
def DI(mg:Str->Option Value)(E:XK)(t:TI)(m:IM)(ind:Bool):Prop:=∀(G H:Hp)(σ:St)(ρ:Rh)(Q:It->Hp->Prop),Same G H->View G σ ρ->zXH mg E G H ind (m ρ) Q->t σ H Q
section
variable{mg:Str->Option Value}{E:XK}{n k l:Nat}{ta te:TE}{ma me:EM}{t:TA}{m:AM}{ind:Bool}
theorem errI{G H:Hp}{Q:It->Hp->Prop}:Err mg E G H (fun r=>zXH mg E G H ind r Q):=⟨fun h=>h,fun _ h=>h⟩
theorem errB{G H:Hp}{α β:Type}{P:R β->Prop}(e:Err mg E G H P)(g:α->R β):Err mg E G H (fun r=>P (zA1 r g)):=⟨fun h=>e.no h,fun x h=>e.er x h⟩
theorem DI.step{β:Type}{t:TI}{m:IM}(D:DI mg E t m ind){G H:Hp}{σ:St}{ρ:Rh}{Q:It->Hp->Prop}{P:R β->Prop}{f:List Dt->R β}(hE:Err mg E G H P)(s:Same G H)(w:View G σ ρ)(p:P (zA1 (m ρ) f))
  (h:∀ds J G' H',m ρ=okR ds->Ext G H G' H'->ItOk J (zOZ ind G') ds->P (f ds)->Q J H'):t σ H Q:=by
 refine D G H σ ρ Q s w ?_;cases e:m ρ with
 |none=>rw[e]at p;exact hE.no p
 |some r=>
  rw[e]at p;cases r with
  |error x=>exact hE.er x p
  |ok ds=>exact fun J G' H' x i=>h ds J G' H' e x i p
theorem zRJ{K:qA2}{G:Hp}{a:Addr}{xs:List V}{ds:List Dt}(ha:SqL K G a xs)(r:RepL G ds xs):ItOk (Itl K a) G ds:=by
 intro i G1 H1 s1 s2;have hS:SqL K H1 a xs:=(s1.trans s2).seq ha;refine⟨fun hi=>⟨xs,xs[i]'(by rw[r.length];exact hi),hS,by simp⟩,fun hi=>⟨xs,hS,by rw[r.length];exact hi⟩,fun x H2 d hd hy=>?_⟩;obtain⟨rfl,hy⟩:=hy;exact⟨G1,Ext.refl s2,Rep.mono s1 (zBF r hd (hy xs hS))⟩
theorem zRH{K:qA2}{G:Hp}{a:Addr}{xs:List V}{ds:List Dt}(ha:SqT K G a xs)(r:RepL G ds xs):ItOk (Itt K a) G ds:=by
 intro i G1 H1 s1 s2;have hS:SqT K H1 a xs:=zHI (s1.trans s2) ha;refine⟨fun hi=>⟨xs,xs[i]'(by rw[r.length];exact hi),hS,by simp⟩,fun hi=>⟨xs,hS,by rw[r.length];exact hi⟩,fun x H2 d hd hy=>?_⟩;obtain⟨rfl,hy⟩:=hy;exact⟨G1,Ext.refl s2,Rep.mono s1 (zBF r hd (hy xs hS))⟩
theorem zRI{G:Hp}(lo:Int)(k:Nat):ItOk (Itr lo k) G (Mi.nums lo k):=by
 intro i G1 H1 s1 s2;have hl:(Mi.nums lo k).length=k:=by simp[Mi.nums]
 refine⟨fun hi=>by rw[hl]at hi;exact hi,fun hi=>by rw[hl]at hi;exact hi,fun x H2 d hd hy=>?_⟩;obtain⟨rfl,rfl⟩:=hy;refine⟨G1,Ext.refl s2,?_⟩;unfold Mi.nums at hd;rw[qAe]at hd;cases e:(qA7 k)[i]? with
 |none=>rw[e]at hd;cases hd
 |some j=>
  rw[e]at hd;cases hd;have hj:j=i:=by
   obtain⟨h1,h2⟩:=qA4.mp e;rw[qBx]at h2;exact h2.symm
  subst hj;rfl
theorem zOF(A:DA mg E t m 0):DI mg E (zWM t) (Mi.iR1 m) true:=by
 intro G H σ ρ Q s w p;refine A.step errI s w p fun ds vs G1 H1 S T _ fr o p1=>?_
 have r:=o.repL;cases ds with
 |nil=>exact qAf p1
 |cons hd1 tl1=>
  cases hd1 with
  |int j=>
   cases tl1 with
   |nil=>
    obtain⟨x,rfl,hx⟩:=zDW r
    cases(show x=.int j from hx)
    dsimp only at p1
    split at p1
    ·rename_i hz
     exact⟨j,rfl,by lia,by lia,p1 _ G1 H1 fr.ext (zRI 0 _)⟩
    ·exact p1.elim
   |cons _ _=>exact qAf p1
  |_=>exact qAf p1
theorem zYY(A:DA mg E t m 0):DI mg E (zWL t) (Mi.iR2 m) true:=by
 intro G H σ ρ Q s w p;refine A.step errI s w p fun ds vs G1 H1 S T _ fr o p1=>?_
 have r:=o.repL;cases ds with
 |nil=>exact p1.elim
 |cons a0 r0=>
  cases a0 with
  |int i=>
   cases r0 with
   |nil=>exact p1.elim
   |cons b0 r1=>
    cases r1 with
    |cons _ _=>cases b0<;>exact p1.elim
    |nil=>
     cases b0 with
     |int j=>
      obtain⟨x,y,rfl,hx,hy⟩:=zSG r
      cases(show x=.int i from hx)
      cases(show y=.int j from hy)
      dsimp only at p1
      split at p1
      ·rename_i hz
       exact⟨i,j,rfl,⟨by lia,by lia,by lia,by lia⟩,p1 _ G1 H1 fr.ext (zRI i _)⟩
      ·exact p1.elim
     |_=>exact p1.elim
  |_=>rcases r0 with _|⟨_,_|_⟩<;>exact p1.elim
theorem Ext.new{G H:Hp}(s:Same G H){T:Addr}(hT:H T=none)(o:HO):Ext G H (upd G T o) (upd H T o):=by
 refine⟨L2.same_new (s.free hT) o,L2.same_new hT o,fun b u e=>?_,fun b hb=>zAF fun z=>hb (z▸hT)⟩
 by_cases z:b=T
 ·subst z;rw[zAE]at e ⊢;exact e
 ·rw[zAF z]at e ⊢;exact s _ _ e
noncomputable def zFI:St->List (Nat×V)->St
 |σ,[]=>σ
 |σ,(i,v)::r=>zFI (σ.set i (some v)) r
inductive BsRep(G:Hp):List (Nat×Dt)->List (Nat×V)->Prop
 |nil:BsRep G [] []
 |cons {i d v bs ws}:Rep G d v->BsRep G bs ws->BsRep G ((i,d)::bs) ((i,v)::ws)
theorem View.set{G:Hp}{σ:St}{ρ:Rh}{i:Nat}{d:Dt}{v:V}(w:View G σ ρ)(r:Rep G d v):View G (σ.set i (some v)) (ρ.set i (some d)):=by
 refine⟨by simp[w.len],fun j e h=>?_,w.tab⟩;have hj:j<ρ.length:=by
  have:=(qA4.mp h).1
  simpa using this
 by_cases z:i=j
 ·subst z;rw[qAk hj]at h;cases h;exact⟨v,qAk (by rw[<- w.len];exact hj),r⟩
 ·rw[qAl z]at h;obtain⟨u,h1,h2⟩:=w.at j e h;exact⟨u,by rw[qAl z];exact h1,h2⟩
theorem View.sets{G:Hp}{bs ws}(h:BsRep G bs ws):∀{σ:St}{ρ:Rh},View G σ ρ->View G (zFI σ ws) (zAO ρ bs):=by
 induction h with
 |nil=>exact fun w=>w
 |cons r _ ih=>exact fun w=>ih (w.set r)
def TgOk(g:TG)(tg:Tg):Prop:=∀(G H:Hp)(σ:St)(d:Dt)(x:V)(bs:List (Nat×Dt))(Q:St->Hp->Prop),Same G H->Rep G d x->zAN tg d=some bs->(∀ws,BsRep G bs ws->Q (zFI σ ws) H)->g x σ H Q
theorem zC1(i:Nat):TgOk (zE2 i) (.one i):=by
 intro G H σ d x bs Q s r e h;cases e;exact h [(i,x)] (.cons r .nil)
theorem zHH:∀(ws:List (Nat×V))(σ own:St),(∀p∈ws,σ.length<=p.1)->∃own':St,own'.length=own.length/\zFI (σ++own) ws=σ++own'
 |[],σ,own,_=>⟨own,rfl,rfl⟩
 |(i,v)::r,σ,own,h=>by
  have hi:σ.length<=i:=h (i,v) (by simp);rw[zFI,List.set_append_right _ _ hi];obtain⟨o,h1,h2⟩:=zHH r σ (own.set (i-σ.length) (some v)) fun p hp=>h p (by simp[hp])
  exact⟨o,by rw[h1,qDa],h2⟩
theorem BsRep.idx{G:Hp}{bs ws}(h:BsRep G bs ws):ws.map (·.1)=bs.map (·.1):=by
 induction h with
 |nil=>rfl
 |cons _ _ ih=>simp[ih]
theorem zOY{tg:Tg}{d:Dt}{bs:List (Nat×Dt)}(h:zAN tg d=some bs):∀i∈bs.map (·.1),i∈tg.idx:=by
 cases tg with
 |one i=>cases h;simp[Tg.idx]
 |tup is=>
  cases d with
  |tup ds=>
   rw[zAN]at h
   split at h
   ·cases h;intro i hi;obtain⟨p,hp,e⟩:=qAb.mp hi;rw[<- e];obtain⟨a,b⟩:=p;exact(qCq hp).1
   ·cases h
  |_=>simp[zAN]at h
theorem zGV{wi:TI}{g:TG}{tif:TT}{it:IM}{tg:Tg}{c:TM}(I:DI mg E wi it ind)(hT:TgOk g tg)(C:DT mg E tif c)(B:DE mg E te me n):DE mg E (zS5 wi k g tif te) (Mi.eComp it k tg c me) (n+1):=by
 intro G H σ ρ Q s w p;refine I.step errE s w p fun ds J G1 H1 _ x1 io p1=>?_
 by_cases hz:ds.length<=100000/\(tg.idx.all fun i=>decide (ρ.length<=i))=true
 case neg=>rw[if_neg hz]at p1;exact p1.elim
 rw[if_pos hz]at p1;obtain⟨hz,hix⟩:=hz;have hb1:Same (zOZ ind G1) G1:=by
  unfold zOZ
  split
  ·exact fun b o e=>by cases e
  ·exact Same.refl _
 refine⟨fun i m acc H'=>m=ds.length-i/\i<=ds.length/\∃G' as S T,Fr G H G' H' S/\Same G1 G'/\OwnA G' H' n S as acc T/\as.length<=i/\PostE mg E G H (n+1) (zA1 (Mi.compGo ρ k tg c me (ds.drop i) as) fun es=>okR (.lst es)) Q,
  ⟨_,rfl,qAt _,G1,[],fun _=>False,fun _ _=>False,⟨x1,fun _ z=>z.elim⟩,Same.refl _,⟨rfl,fun q d x h=>by simp at h,fun _ _ _ z=>z.elim,fun _ _ z=>z.elim⟩,qA6 _,by rw[qDe];exact p1⟩,?_⟩
 rintro i m acc H' ⟨rfl,hi,G',as,S,T,fr,sg,o,hl,p⟩
 obtain⟨j1,j2,j3⟩:=io i G' H' (hb1.trans sg) fr.ext.in'
 by_cases hlt:i<ds.length
 ·refine .inr ⟨j1 hlt,by rw[o.len];exact L2.big (by lia),fun acc' H''=>ds.length-(i+1)=ds.length-(i+1)/\i+1<=ds.length/\∃G' as S T,Fr G H G' H'' S/\Same G1 G'/\OwnA G' H'' n S as acc' T/\as.length<=i+1/\PostE mg E G H (n+1) (zA1 (Mi.compGo ρ k tg c me (ds.drop (i+1)) as) fun es=>okR (.lst es)) Q,
   fun acc' H'' q=>⟨ds.length-(i+1),by lia,q⟩,fun x H2 hy=>?_⟩
  have hd:ds[i]?=some ds[i]:=qA5 hlt;obtain⟨G2,x2,r2⟩:=j3 x H2 ds[i] hd hy;rw[qDf hlt,Mi.compGo]at p;cases eb:zAN tg ds[i]with
  |none=>rw[eb]at p;exact p.elim
  |some bs=>
   rw[eb]at p;dsimp only at p;refine hT G2 H2 _ _ x bs _ x2.in' r2 eb fun ws hb=>?_
   have hsl:∀q∈ws,σ.length<=q.1:=fun q hq=>by
    have h1:q.1∈bs.map (·.1):=by rw[<- hb.idx];exact List.mem_map_of_mem hq
    have h2:=qBf.mp hix q.1 (zOY eb q.1 h1);rw[<- w.len];exact of_decide_eq_true h2
   obtain⟨own,ho1,ho2⟩:=zHH ws σ (qA3 k none) hsl;refine⟨own,by rw[ho1,qCy],ho2,?_⟩;have x02:=fr.ext.trans x2;have w2:View G2 (zFI (σ++qA3 k none) ws) (zAO (ρ++qA3 k none) bs):=by
    refine View.sets hb ⟨by simp[w.len],fun j d h=>?_,w.tab.trans x02.g⟩
    by_cases hj:j<ρ.length
    ·rw[qA8 hj]at h;obtain⟨v,a,b⟩:=w.at j d h;exact⟨v,by rw[qA8 (by rw[<- w.len];exact hj)];exact a,Rep.mono x02.g b⟩
    ·rw[qAc (by lia),qBc]at h
     split at h<;>cases h
   refine C.step ((errB errE _).from x02) x2.in' w2 p fun b H3 _ s3 p3=>?_
   have x3:Ext G2 H2 G2 H3:=Ext.same x2.in' s3;have x03:=x02.trans x3;have newS:∀a,S a->H a=none/\G2 a=none/\H3 a≠none:=fun a ha=>by
    obtain⟨n1,n2,n3⟩:=fr.new a ha;exact⟨n1,(x2.old a n3).trans n2,s3.some (x2.h.some n3)⟩
   have own3:OwnA G2 H3 n S as acc T:=⟨o.len,fun q d y h1 h2=>(o.own q d y h1 h2).mono x2.g (x2.h.trans s3),o.dis,o.sub⟩
   cases b with
   |false=>exact⟨rfl,hlt,G2,as,S,T,⟨x03,newS⟩,sg.trans x2.g,own3,by lia,p3⟩
   |true=>
    refine B.step ((errB errE _).from x03) x3.in' w2 p3 fun e v G4 H4 S4 _ fr4 o4 p4=>?_
    have ap:∀q b,T q b->S4 b->False:=fun q b h1 h2=>(newS b (o.sub q b h1)).2.2 (fr4.new b h2).1
    refine⟨rfl,hlt,G4,as++[e],fun a=>S a\/S4 a,fun q b=>(q<as.length/\T q b)\/(q=as.length/\S4 b),⟨x03.trans fr4.ext,fun a ha=>?_⟩,sg.trans (x2.g.trans fr4.ext.g),⟨by simp[o.len],fun q d y h1 h2=>?_,fun q r b h1 h2=>?_,fun q b h=>?_⟩,by simp;lia,p4⟩
    ·rcases ha with ha|ha
     ·obtain⟨n1,n2,n3⟩:=newS a ha;exact⟨n1,(fr4.ext.old a n3).trans n2,fr4.ext.h.some n3⟩
     ·obtain⟨n1,n2,n3⟩:=fr4.new a ha;exact⟨x03.h.free n1,n2,n3⟩
    ·by_cases hq:q<as.length
     ·rw[qA8 hq]at h1;rw[qA8 (by rw[o.len];exact hq)]at h2;exact((own3.own q d y h1 h2).mono fr4.ext.g fr4.ext.h).sub fun b z=>.inl ⟨hq,z⟩
     ·rw[qAc (by lia)]at h1;rw[qAc (by rw[o.len];lia),o.len]at h2;have hq0:q-as.length=0:=by
       have:=(qA4.mp h1).1
       simp at this;lia
      rw[hq0]at h1 h2;simp at h1 h2;subst h1;subst h2;exact o4.sub fun b z=>.inr ⟨by lia,z⟩
    ·rcases h1 with⟨a1,t1⟩|⟨a1,t1⟩<;>rcases h2 with⟨a2,t2⟩|⟨a2,t2⟩
     ·exact o.dis q r b t1 t2
     ·exact(ap q b t1 t2).elim
     ·exact(ap r b t2 t1).elim
     ·lia
    ·rcases h with⟨_,z⟩|⟨_,z⟩
     ·exact .inl (o.sub q b z)
     ·exact .inr z
 ·have e:i=ds.length:=by lia
  subst e;refine .inl ⟨j2 (qA6 _),fun D hD=>?_⟩;rw[qFt,Mi.compGo]at p;exact p (.ref D) G' _ _ (fr.add hD _) ⟨D,acc,T,rfl,zAE,o.kids (fun b hb=>(fr.new b hb).2.2) hD _⟩
end
end
section
variable[Kc]
structure Sat(G0 H0 S0:Hp)(σ:St)(ρ:Ro)(G H:Hp)(As:Nat->Addr->Prop):Prop where
 ext:Ext G0 H0 G H
 stb:Same S0 G
 tab:Same (tabK Kc.K) G0
 len:ρ.length=σ.length
 «at»:∀(i:Nat)(d:Dt)(n:Nat),ρ[i]?=some (some (d,n))->∃v,σ[i]?=some (some v)/\Own G H n (As i) d v
 dis:∀i j a,As i a->As j a->i=j
 new:∀i a,As i a->H0 a=none/\G a=none/\H a≠none
section
variable{G0 H0 S0:Hp}{σ:St}{ρ:Ro}{G H:Hp}{As:Nat->Addr->Prop}
theorem Sat.grow(a:Sat G0 H0 S0 σ ρ G H As){H':Hp}(s:Same H H'):Sat G0 H0 S0 σ ρ G H' As:=
 ⟨a.ext.trans (Ext.same a.ext.in' s),a.stb,a.tab,a.len,fun i d n e=>let⟨v,h1,h2⟩:=a.at i d n e;⟨v,h1,h2.mono (Same.refl _) s⟩,a.dis,fun i b h=>let⟨n1,n2,n3⟩:=a.new i b h;⟨n1,n2,s.some n3⟩⟩
theorem Sat.wider(a:Sat G0 H0 S0 σ ρ G H As){G' H':Hp}(x:Ext G H G' H'):Sat G0 H0 S0 σ ρ G' H' As:=
 ⟨a.ext.trans x,a.stb.trans x.g,a.tab,a.len,fun i d n e=>let⟨v,h1,h2⟩:=a.at i d n e;⟨v,h1,h2.mono x.g x.h⟩,a.dis,fun i b h=>let⟨n1,n2,n3⟩:=a.new i b h;⟨n1,(x.old b n3).trans n2,x.h.some n3⟩⟩
theorem Sat.full(a:Sat G0 H0 S0 σ ρ G H As):∃J,Ext G0 H0 J H/\Same G J/\View J σ (full ρ):=by
 obtain⟨s1,s2⟩:=zDN (S:=fun b=>∃i,As i b) a.ext.in';refine⟨over G H fun b=>∃i,As i b,⟨a.ext.g.trans s1,a.ext.h,s2,fun b hb=>?_⟩,s1,by simp[Mi.full,a.len],fun i d e=>?_,a.tab.trans (a.ext.g.trans s1)⟩
 ·have z:¬ ∃i,As i b:=fun⟨i,z⟩=>hb (a.new i b z).1
  rw[zBX z];exact a.ext.old b hb
 ·unfold Mi.full at e;rw[qAe]at e;cases e1:ρ[i]? with
  |none=>rw[e1]at e;cases e
  |some o=>
   rw[e1]at e;cases o with
   |none=>cases e
   |some sl=>
    obtain⟨d',n⟩:=sl;cases e;obtain⟨v,h1,h2⟩:=a.at i _ n e1;exact⟨v,h1,h2.rep s1 fun b o hb e=>by rw[zDY ⟨i,hb⟩];exact e⟩
theorem Sat.put(a:Sat G0 H0 S0 σ ρ G H As){i n:Nat}{d:Dt}{v:V}{S:Addr->Prop}(o:Own G H n S d v)(hS:∀b,S b->H0 b=none/\G b=none/\H b≠none)(hd:∀j b,j≠i->As j b->S b->False) :
  Sat G0 H0 S0 (σ.set i (some v)) (ρ.set i (some (d,n))) G H (fun j=>if j=i then S else As j):=by
 refine⟨a.ext,a.stb,a.tab,by simp[a.len],fun j e k h=>?_,fun j l b h1 h2=>?_,fun j b h=>?_⟩
 ·have hj:j<ρ.length:=by
   have:=(qA4.mp h).1
   simpa using this
  by_cases z:i=j
  ·subst z;rw[qAk hj]at h;cases h;exact⟨v,qAk (by rw[<- a.len];exact hj),by rw[if_pos rfl];exact o⟩
  ·rw[qAl z]at h;obtain⟨u,h1,h2⟩:=a.at j e k h;exact⟨u,by rw[qAl z];exact h1,by rw[if_neg (fun q=>z q.symm)];exact h2⟩
 ·try dsimp only at h1 h2
  by_cases z1:j=i
  ·by_cases z2:l=i
   ·rw[z1,z2]
   ·rw[if_pos z1]at h1;rw[if_neg z2]at h2;exact(hd l b z2 h2 h1).elim
  ·by_cases z2:l=i
   ·rw[if_neg z1]at h1;rw[if_pos z2]at h2;exact(hd j b z1 h1 h2).elim
   ·rw[if_neg z1]at h1;rw[if_neg z2]at h2;exact a.dis j l b h1 h2
 ·try dsimp only at h
  by_cases z1:j=i
  ·rw[if_pos z1]at h;exact hS b h
  ·rw[if_neg z1]at h;exact a.new j b h
theorem Sat.set(a:Sat G0 H0 S0 σ ρ G H As){H':Hp}{i n:Nat}{d:Dt}{v:V}{S:Addr->Prop}(s:Same H H')(o:Own G H' n S d v)(hS:∀b,S b->H b=none/\G b=none/\H' b≠none) :
  Sat G0 H0 S0 (σ.set i (some v)) (ρ.set i (some (d,n))) G H' (fun j=>if j=i then S else As j):=
 (a.grow s).put o (fun b hb=>⟨a.ext.h.free (hS b hb).1,(hS b hb).2⟩) fun j b _ h1 h2=>(a.new j b h1).2.2 (hS b h2).1
theorem Sat.frz1(a:Sat G0 H0 S0 σ ρ G H As)(i:Nat):∃G1 As1,Sat G0 H0 S0 σ (Mi.frz1 i ρ) G1 H As1:=by
 unfold Mi.frz1;cases e1:ρ[i]? with
 |none=>exact⟨G,As,a⟩
 |some o=>
  cases o with
  |none=>exact⟨G,As,a⟩
  |some sl=>
   obtain⟨d,n⟩:=sl;dsimp only;obtain⟨v,h1,h2⟩:=a.at i d n e1;obtain⟨s1,s2⟩:=zDN (S:=As i) a.ext.in';have x:Ext G0 H0 (over G H (As i)) H:=⟨a.ext.g.trans s1,a.ext.h,s2,fun b hb=>by
    have z:¬As i b:=fun z=>hb (a.new i b z).1
    rw[zBX z];exact a.ext.old b hb⟩
   have hv:(σ.set i (some v))=σ:=by
    have hi:i<σ.length:=(qA4.mp h1).1;have he:=(qA4.mp h1).2;rw[<- he,List.set_getElem_self]
   have b:Sat G0 H0 S0 σ (ρ.set i (some (d,0))) (over G H (As i)) H (fun j b=>j≠i/\As j b):=by
    refine⟨x,a.stb.trans s1,a.tab,by simp[a.len],fun j e k h=>?_,fun j l b p q=>a.dis j l b p.2 q.2,fun j b p=>?_⟩
    ·have hj:j<ρ.length:=by
      have:=(qA4.mp h).1
      simpa using this
     by_cases z:i=j
     ·subst z;rw[qAk hj]at h;cases h;exact⟨v,h1,h2.rep s1 fun b o hb e=>by rw[zDY hb];exact e⟩
     ·rw[qAl z]at h;obtain⟨u,q1,q2⟩:=a.at j e k h;exact⟨u,q1,(q2.mono s1 (Same.refl _)).sub fun b hb=>⟨fun q=>z q.symm,hb⟩⟩
    ·obtain⟨n1,n2,n3⟩:=a.new j b p.2;have z:¬As i b:=fun z=>p.1 (a.dis j i b p.2 z)
     exact⟨n1,by rw[zBX z];exact n2,n3⟩
   exact⟨_,_,b⟩
theorem Sat.frzAt:∀(vs:List Nat){ρ:Ro}{G:Hp}{As:Nat->Addr->Prop},Sat G0 H0 S0 σ ρ G H As->∃G1 As1,Sat G0 H0 S0 σ (Mi.frzAt vs ρ) G1 H As1
 |[],_,_,_,a=>⟨_,_,a⟩
 |i::r,_,_,_,a=>by
  obtain⟨G1,As1,b⟩:=a.frz1 i;exact Sat.frzAt r b
theorem Sat.frz(a:Sat G0 H0 S0 σ ρ G H As):View G σ (Mi.frz ρ):=by
 refine⟨by simp[Mi.frz,a.len],fun i d e=>?_,a.tab.trans a.ext.g⟩;unfold Mi.frz at e;rw[qAe]at e;cases e1:ρ[i]? with
 |none=>rw[e1]at e;cases e
 |some o=>
  rw[e1]at e;cases o with
  |none=>cases e
  |some sl=>
   obtain⟨d',n⟩:=sl;obtain⟨v,h1,h2⟩:=a.at i d' n e1;simp only[Option.map_some,qHk]at e
   split at e
   ·rename_i hz
    cases e
    rcases hz with hz|hz
    ·subst hz;exact⟨v,h1,h2⟩
    ·exact⟨v,h1,Own.scalar (k:=0) (G2:=G) (H2:=H) (S2:=fun _=>False) h2 hz⟩
   ·cases e
theorem Sat.store(a:Sat G0 H0 S0 σ ρ G H As){i n:Nat}{d:Dt}{v:V}{p:Addr}{o:HO}{S:Addr->Prop}(hp:As i p)(hv:σ[i]?=some (some v))(w:Own G (upd H p o) n S d v)
  (hS:∀b,S b->As i b\/(H0 b=none/\G b=none/\H b≠none/\∀j,¬As j b)):Sat G0 H0 S0 σ (ρ.set i (some (d,n))) G (upd H p o) (fun j=>if j=i then S else As j):=by
 obtain⟨p1,p2,p3⟩:=a.new i p hp;have hn:∀b,H b≠none->upd H p o b≠none:=fun b hb=>by
  by_cases z:b=p
  ·subst z;rw[zAE];simp
  ·rw[zAF z];exact hb
 refine⟨⟨a.ext.g,L2.Same.upd a.ext.h p1 o,L2.Same.upd a.ext.in' p2 o,a.ext.old⟩,a.stb,a.tab,by simp[a.len],fun j e k h=>?_,fun j l b h1 h2=>?_,fun j b h=>?_⟩
 ·have hj:j<ρ.length:=by
   have:=(qA4.mp h).1
   simpa using this
  by_cases z:i=j
  ·subst z;rw[qAk hj]at h;cases h;exact⟨v,hv,by rw[if_pos rfl];exact w⟩
  ·rw[qAl z]at h;obtain⟨u,h1,h2⟩:=a.at j e k h;exact⟨u,h1,by rw[if_neg (fun q=>z q.symm)];exact h2.upd fun q=>z (a.dis i j p hp q)⟩
 ·have key:∀j b,j≠i->As j b->S b->False:=fun j b hj h1 h2=>by
   rcases hS b h2 with q|⟨_,_,_,q⟩
   ·exact hj (a.dis j i b h1 q)
   ·exact q j h1
  try dsimp only at h1 h2
  by_cases z1:j=i
  ·by_cases z2:l=i
   ·rw[z1,z2]
   ·rw[if_pos z1]at h1;rw[if_neg z2]at h2;exact(key l b z2 h2 h1).elim
  ·by_cases z2:l=i
   ·rw[if_neg z1]at h1;rw[if_pos z2]at h2;exact(key j b z1 h1 h2).elim
   ·rw[if_neg z1]at h1;rw[if_neg z2]at h2;exact a.dis j l b h1 h2
 ·try dsimp only at h
  by_cases z1:j=i
  ·rw[if_pos z1]at h
   rcases hS b h with q|⟨q1,q2,q3,_⟩
   ·obtain⟨n1,n2,n3⟩:=a.new i b q;exact⟨n1,n2,hn b n3⟩
   ·exact⟨q1,q2,hn b q3⟩
  ·rw[if_neg z1]at h;obtain⟨n1,n2,n3⟩:=a.new j b h;exact⟨n1,n2,hn b n3⟩
end
def zCK(mg:Str->Option Value)(E:XK)(G0 H0 S0:Hp)(L:Nat)(r:R Out)(D:Ends):Prop:=match r with
 |none=>False
 |some (.error x)=>∀c da G' H',Ext G0 H0 G' H'->XRep mg x c da G' H'->E c da H'
 |some (.ok (.nx ρ))=>∀σ G H As,Sat G0 H0 S0 σ ρ G H As->D.nx σ H
 |some (.ok (.bk ρ))=>∀σ G H As,Sat G0 H0 S0 σ ρ G H As->D.bk σ H
 |some (.ok (.ct ρ))=>∀σ G H As,Sat G0 H0 S0 σ ρ G H As->D.ct σ H
 |some (.ok (.rt d))=>∀v G H S,Fr G0 H0 G H S->Own G H L S d v->D.rt v H
def DS(mg:Str->Option Value)(E:XK)(L:Nat)(t:TS)(m:SM):Prop:=∀(G0 H0 S0:Hp)(σ:St)(ρ:Ro)(G H:Hp)(As:Nat->Addr->Prop)(D:Ends),Sat G0 H0 S0 σ ρ G H As->zCK mg E G0 H0 S0 L (m ρ) D->t D σ H
section
variable{mg:Str->Option Value}{E:XK}{L n k l:Nat}{te ta tb:TE}{e ea eb:EM}{t u:TS}{m m':SM}
theorem errS{G0 H0 S0:Hp}{D:Ends}:Err mg E G0 H0 (fun r=>zCK mg E G0 H0 S0 L r D):=⟨fun h=>h,fun _ h=>h⟩
theorem zCI:DS mg E L zUI Mi.sNil:=fun G0 H0 S0 σ ρ G H As D a p=>p σ G H As a
theorem zAK(A:DS mg E L t m)(B:DS mg E L u m'):DS mg E L (tSeq t u) (Mi.sSeq m m'):=by
 intro G0 H0 S0 σ ρ G H As D a p;refine A G0 H0 S0 σ ρ G H As _ a ?_;unfold Mi.sSeq at p;cases e:m ρ with
 |none=>rw[e]at p;exact p
 |some r=>
  rw[e]at p;cases r with
  |error x=>exact p
  |ok o=>
   cases o with
   |nx ρ'=>exact fun σ' G' H' As' a'=>B G0 H0 S0 σ' ρ' G' H' As' D a' p
   |rt d=>exact p
   |bk ρ'=>exact p
   |ct ρ'=>exact p
theorem zFA{tc:TT}{c:TM}(C:DT mg E tc c)(A:DS mg E L t m)(B:DS mg E L u m'):DS mg E L (tIfS tc t u) (Mi.sIf c m m'):=by
 intro G0 H0 S0 σ ρ G H As D a p;obtain⟨J,x,s,w⟩:=a.full;refine C.step (errS.from x) x.in' w p fun b H' _ sH p1=>?_
 cases b with
 |true=>exact A G0 H0 S0 σ ρ G H' As D (a.grow sH) p1
 |false=>exact B G0 H0 S0 σ ρ G H' As D (a.grow sH) p1
theorem whole{G0 H0 S0:Hp}{σ:St}{ρ:Ro}{G H J G1 H1:Hp}{As:Nat->Addr->Prop}{S:Addr->Prop}{d:Dt}{v:V}(a:Sat G0 H0 S0 σ ρ G H As)(s:Same G J)(fr:Fr J H G1 H1 S)(o:Own G1 H1 n S d v)(hn:n<1000)(hd:d.dep<=n)(hk:d.dep<=k) :
  Own G H1 k S d v/\∀b,S b->H b=none/\G b=none/\H1 b≠none:=
 ⟨o.at hd hk hn,fun b hb=>let⟨n1,n2,n3⟩:=fr.new b hb;⟨n1,a.ext.in'.free n1,n3⟩⟩
theorem zAT{i:Nat}(vs:List Nat)(A:DE mg E te e n)(hn:n<1000:=by decide):DS mg E L (tAsg te (zE2 i)) (Mi.sSet i n vs e):=by
 intro G0 H0 S0 σ ρ G H As D a p;obtain⟨J,x,s,w⟩:=a.full;unfold Mi.sSet at p;cases ee:e (full ρ)with
 |none=>rw[ee]at p;exact p.elim
 |some r=>
  cases r with
  |error y=>exact A.step (errS.from x) x.in' w p fun d v G1 H1 S e1 fr o p1=>by rw[ee]at e1;cases e1
  |ok d=>
   by_cases hd:d.dep<=n
   ·refine A.step (errS.from x) x.in' w p fun d' v G1 H1 S e1 fr o p1=>?_
    rw[ee]at e1;cases e1;rw[if_pos hd]at p1;obtain⟨q1,q2⟩:=whole (k:=n) a s fr o hn hd hd;exact p1 _ G H1 _ (a.set fr.ext.h q1 q2)
   ·rw[ee]at p;have p':zCK mg E G0 H0 S0 L (zA1 (e (frz (frzAt vs ρ))) fun d'=>okR (.nx ((frzAt vs ρ).set i (some (d',n))))) D:=by
     have p2:zCK mg E G0 H0 S0 L (if d.dep<=n then okR (.nx (ρ.set i (some (d,n))))else zA1 (e (frz (frzAt vs ρ))) fun d'=>okR (.nx ((frzAt vs ρ).set i (some (d',n))))) D:=p;rw[if_neg hd]at p2;exact p2
    obtain⟨G1,As1,a1⟩:=Sat.frzAt vs a;refine A.step (errS.from a1.ext) a1.ext.in' a1.frz p' fun d' v G2 H2 S _ fr o p1=>?_
    exact p1 _ G2 H2 _ ((a1.wider fr.ext).put o (fun b hb=>let⟨n1,n2,n3⟩:=fr.new b hb;⟨a1.ext.h.free n1,n2,n3⟩) fun j b _ h1 h2=>(a1.new j b h1).2.2 (fr.new b h2).1)
theorem zC7(vs:List Nat)(A:DE mg E te e n)(hn:n<1000:=by decide):DS mg E L (tRet te) (Mi.sRet L n vs e):=by
 intro G0 H0 S0 σ ρ G H As D a p;obtain⟨J,x,s,w⟩:=a.full;unfold Mi.sRet at p;cases ee:e (full ρ)with
 |none=>rw[ee]at p;exact p.elim
 |some r=>
  cases r with
  |error y=>exact A.step (errS.from x) x.in' w p fun d v G1 H1 S e1 fr o p1=>by rw[ee]at e1;cases e1
  |ok d=>
   by_cases hd:d.dep<=n/\d.dep<=L
   ·refine A.step (errS.from x) x.in' w p fun d' v G1 H1 S e1 fr o p1=>?_
    rw[ee]at e1;cases e1;rw[if_pos hd]at p1;exact p1 v G1 H1 S (Fr.from x fr) (o.at hd.1 hd.2 hn)
   ·rw[ee]at p;have p2:zCK mg E G0 H0 S0 L (if d.dep<=n/\d.dep<=L then okR (.rt d)else if n=L then zA1 (e (frz (frzAt vs ρ))) fun d'=>okR (.rt d')else none) D:=p;rw[if_neg hd]at p2
    by_cases hl:n=L
    ·rw[if_pos hl]at p2;subst hl;obtain⟨G1,As1,a1⟩:=Sat.frzAt vs a;refine A.step (errS.from a1.ext) a1.ext.in' a1.frz p2 fun d' v G2 H2 S _ fr o p1=>?_
     exact p1 v G2 H2 S (Fr.from a1.ext fr) o
    ·rw[if_neg hl]at p2;exact p2.elim
theorem zF9(i:Nat):DS mg E L (tRet (vM i)) (Mi.sRetV L i):=by
 intro G0 H0 S0 σ ρ G H As D a p;unfold Mi.sRetV at p;cases e1:ρ[i]? with
 |none=>rw[e1]at p;exact p.elim
 |some o=>
  rw[e1]at p;cases o with
  |none=>exact p.elim
  |some sl=>
   obtain⟨d,k⟩:=sl;obtain⟨v,h1,h2⟩:=a.at i d k e1;show vM i σ H D.rt;unfold vM;rw[h1];dsimp only at p
   split at p
   ·rename_i hz
    rcases hz with hz|hz|hz
    ·subst hz;exact p v G H (As i) ⟨a.ext,fun b hb=>a.new i b hb⟩ h2
    ·subst hz;obtain⟨s1,s2⟩:=zDN (S:=As i) a.ext.in';refine p v (over G H (As i)) H (fun _=>False) ⟨⟨a.ext.g.trans s1,a.ext.h,s2,fun b hb=>?_⟩,fun _ z=>z.elim⟩ (h2.rep s1 fun b o hb e=>by rw[zDY hb];exact e);have z:¬As i b:=fun z=>hb (a.new i b z).1
     rw[zBX z];exact a.ext.old b hb
    ·exact p v G H (As i) ⟨a.ext,fun b hb=>a.new i b hb⟩ (h2.at hz.1 hz.2.1 hz.2.2)
   ·exact p.elim
theorem Sat.puts{G0 H0 S0 G H:Hp}{bs:List (Nat×Dt)}{ws:List (Nat×V)}(h:BsRep G bs ws):∀{σ:St}{ρ:Ro}{As:Nat->Addr->Prop},Sat G0 H0 S0 σ ρ G H As->∃As',Sat G0 H0 S0 (zFI σ ws) (zAQ ρ bs) G H As':=by
 induction h with
 |nil=>exact fun a=>⟨_,a⟩
 |cons r _ ih=>exact fun a=>ih (a.put (n:=0) (S:=fun _=>False) r (fun _ z=>z.elim) fun _ _ _ _ z=>z.elim)
theorem zWY(i:Nat)(A:DE mg E te e n)(hn:n<1000:=by decide):DS mg E L (zMA (tML appM (vM i) (zD3 te tNil))) (Mi.sApp i n e):=by
 intro G0 H0 S0 σ ρ G H As D a p;obtain⟨J,x,s,w⟩:=a.full;unfold Mi.sApp at p;cases e1:ρ[i]? with
 |none=>rw[e1]at p;exact p.elim
 |some o=>
  rw[e1]at p
  match o,e1,p with
  |none,_,p=>exact p.elim
  |some (.lst ds,k+1),e1,p=>
   obtain⟨v,h1,q,xs,T,rfl,hq,kd⟩:=a.at i _ _ e1;unfold zMA tML vM;rw[h1];refine⟨xs,hq,?_⟩;refine A.step (errS.from x) x.in' w p fun d y G1 H1 S _ fr o p1=>?_
   split at p1
   ·rename_i hz
    obtain⟨q1,q2⟩:=whole (k:=k) a s fr o hn hz.2.1 hz.2.2;refine⟨xs,fr.ext.h _ _ hq,by rw[kd.len];exact L2.big (by lia),?_⟩;have hp:=kd.top;have a1:=a.grow fr.ext.h;have nS:¬S q:=fun z=>(a.new i q hp).2.2 (q2 q z).1
    have ap:∀r b,T r b->S b->False:=fun r b h1 h2=>(a.new i b (kd.sub r b h1)).2.2 (q2 b h2).1
    refine p1 σ G _ _ (a1.store (S:=fun b=>As i b\/S b) hp h1 ⟨q,_,fun r b=>(r<ds.length/\T r b)\/(r=ds.length/\S b),rfl,zAE,⟨by simp[kd.len],fun r d' z g1 g2=>?_,.inl hp,fun r z=>?_,fun r r' b z1 z2=>?_,fun r b z=>?_⟩⟩ fun b z=>?_)
    ·by_cases hr:r<ds.length
     ·rw[qA8 hr]at g1;rw[qA8 (by rw[kd.len];exact hr)]at g2;exact(((kd.own r d' z g1 g2).mono (Same.refl _) fr.ext.h).upd (kd.out r)).sub fun b z=>.inl ⟨hr,z⟩
     ·rw[qAc (by lia)]at g1;rw[qAc (by rw[kd.len];lia),kd.len]at g2;have hq0:r-ds.length=0:=by
       have:=(qA4.mp g1).1
       simp at this;lia
      rw[hq0]at g1 g2;simp at g1 g2;subst g1;subst g2;exact(q1.upd nS).sub fun b z=>.inr ⟨by lia,z⟩
    ·rcases z with⟨_,z⟩|⟨_,z⟩
     ·exact kd.out r z
     ·exact nS z
    ·rcases z1 with⟨c1,t1⟩|⟨c1,t1⟩<;>rcases z2 with⟨c2,t2⟩|⟨c2,t2⟩
     ·exact kd.dis r r' b t1 t2
     ·exact(ap r b t1 t2).elim
     ·exact(ap r' b t2 t1).elim
     ·lia
    ·rcases z with⟨_,z⟩|⟨_,z⟩
     ·exact .inl (kd.sub r b z)
     ·exact .inr z
    ·rcases z with z|z
     ·exact .inl z
     ·obtain⟨n1,n2,n3⟩:=q2 b z;exact .inr ⟨a.ext.h.free n1,n2,n3,fun j y=>(a.new j b y).2.2 n1⟩
   ·exact p1.elim
  |some (.lst ds,0),_,p=>exact p.elim
  |some (.non,_),_,p=>exact p.elim
  |some (.bl _,_),_,p=>exact p.elim
  |some (.int _,_),_,p=>exact p.elim
  |some (.str _,_),_,p=>exact p.elim
  |some (.tup _,_),_,p=>exact p.elim
  |some (.scr _,_),_,p=>exact p.elim
  |some (.exc _ _ _,_),_,p=>exact p.elim
  |some (.fn _ _,_),_,p=>exact p.elim
  |some (.dtt _ _,_),_,p=>exact p.elim
  |some (.loc _ _,_),_,p=>exact p.elim
  |some (.ins _ _,_),_,p=>exact p.elim
  |some (.dct _,_),_,p=>exact p.elim
theorem Kids.pop{P:(Addr->Prop)->Dt->V->Prop}{S:Addr->Prop}{a:Addr}{ds:List Dt}{xs:List V}{T:Nat->Addr->Prop}(k:Kids P S a ds xs T)(q:Nat) :
  Kids P (fun b=>S b/\¬T q b) a (ds.eraseIdx q) (xs.eraseIdx q) (fun r=>if r<q then T r else T (r+1)):=by
 refine⟨by rw[qEl,qEl,k.len],fun r d x h1 h2=>?_,⟨k.top,k.out q⟩,fun r=>?_,fun r r' b z1 z2=>?_,fun r b z=>?_⟩
 ·rw[List.getElem?_eraseIdx]at h1 h2
  try dsimp only
  by_cases hr:r<q
  ·rw[if_pos hr]at h1 h2 ⊢;exact k.own r d x h1 h2
  ·rw[if_neg hr]at h1 h2 ⊢;exact k.own (r+1) d x h1 h2
 ·try dsimp only
  split
  ·exact k.out _
  ·exact k.out _
 ·try dsimp only at z1 z2
  by_cases h1:r<q<;>by_cases h2:r'<q
  ·rw[if_pos h1]at z1;rw[if_pos h2]at z2;exact k.dis _ _ b z1 z2
  ·rw[if_pos h1]at z1;rw[if_neg h2]at z2;have:=k.dis _ _ b z1 z2;lia
  ·rw[if_neg h1]at z1;rw[if_pos h2]at z2;have:=k.dis _ _ b z1 z2;lia
  ·rw[if_neg h1]at z1;rw[if_neg h2]at z2;have:=k.dis _ _ b z1 z2;lia
 ·try dsimp only at z
  by_cases h1:r<q
  ·rw[if_pos h1]at z;exact⟨k.sub _ b z,fun w=>by have:=k.dis _ _ b z w;lia⟩
  ·rw[if_neg h1]at z;exact⟨k.sub _ b z,fun w=>by have:=k.dis _ _ b z w;lia⟩
theorem zN3{G H:Hp}{p:Addr}{o:HO}{S:Addr->Prop}{a:Addr}{ds:List Dt}{xs:List V}{T:Nat->Addr->Prop}(k:Kids (Own G H n) S a ds xs T)(hp:∀q,¬T q p):Kids (Own G (upd H p o) n) S a ds xs T:=
 ⟨k.len,fun q d x h1 h2=>(k.own q d x h1 h2).upd (hp q),k.top,k.out,k.dis,k.sub⟩
theorem zKP(j i:Nat)(A:DE mg E te e n):DS mg E L (tAsg (tML popM (vM i) (zD3 te tNil)) (zE2 j)) (Mi.sPop j i e):=by
 intro G0 H0 S0 σ ρ G H As D a p;obtain⟨J,x,s,w⟩:=a.full;unfold Mi.sPop at p;cases e1:ρ[i]? with
 |none=>rw[e1]at p;exact p.elim
 |some o=>
  rw[e1]at p
  match o,e1,p with
  |none,_,p=>exact p.elim
  |some (.lst ds,k+1),e1,p=>
   obtain⟨v,h1,q,xs,T,rfl,hq,kd⟩:=a.at i _ _ e1;unfold tAsg tML vM;rw[h1];refine⟨xs,hq,?_⟩;refine(zAS A).step (errS.from x) x.in' w p fun d y G1 H1 S _ fr o p1=>?_
   cases d with
   |int z=>
    cases(show y=.int z from o)
    dsimp only at p1;cases ei:Mi.ixA ds.length z with
    |none=>rw[ei]at p1;exact p1.elim
    |some c=>
     rw[ei]at p1;dsimp only at p1;cases ec:ds[c]? with
     |none=>rw[ec]at p1;exact p1.elim
     |some dc=>
      rw[ec]at p1;dsimp only at p1
      split at p1
      ·rename_i hz
       rw[zKJ]at ei;obtain⟨g1,g2,g3,g4⟩:=zGR ei;have hc:c<xs.length:=by rw[kd.len];exact g2
       have hx:xs[c]?=some xs[c]:=qA5 hc;refine⟨xs,c,xs[c],fr.ext.h _ _ hq,⟨by lia,by lia⟩,by rw[kd.len];exact g1,hx,?_⟩;have a1:=a.grow fr.ext.h;have kd1:Kids (Own G H1 k) (As i) q ds xs T:=kd.imp (fun _ _ _ _ w=>w.mono (Same.refl _) fr.ext.h) fun _ z=>z
       have a2:=a1.store (o:=.lst (xs.eraseIdx c)) (n:=k+1) (d:=.lst (ds.eraseIdx c)) (S:=fun b=>As i b/\¬T c b) kd.top h1 ⟨q,_,_,rfl,zAE,zN3 (kd1.pop c) fun r=>by split<;>exact kd.out _⟩ fun b z=>.inl z.1
       refine p1 _ G _ _ (a2.put (S:=T c) ((kd1.own c dc _ ec hx).upd (kd.out c)) (fun b hb=>?_) fun l b hl z1 z2=>?_)
       ·obtain⟨n1,n2,n3⟩:=a1.new i b (kd.sub c b hb);refine⟨n1,n2,?_⟩;rw[zAF (fun z:b=q=>kd.out c (z▸hb))];exact n3
       ·try dsimp only at z1
        by_cases z:l=i
        ·rw[if_pos z]at z1;exact z1.2 z2
        ·rw[if_neg z]at z1;exact z (a.dis l i b z1 (kd.sub c b z2))
      ·exact p1.elim
   |_=>exact p1.elim
  |some (.lst ds,0),_,p=>exact p.elim
  |some (.non,_),_,p=>exact p.elim
  |some (.bl _,_),_,p=>exact p.elim
  |some (.int _,_),_,p=>exact p.elim
  |some (.str _,_),_,p=>exact p.elim
  |some (.tup _,_),_,p=>exact p.elim
  |some (.scr _,_),_,p=>exact p.elim
  |some (.exc _ _ _,_),_,p=>exact p.elim
  |some (.fn _ _,_),_,p=>exact p.elim
  |some (.dtt _ _,_),_,p=>exact p.elim
  |some (.loc _ _,_),_,p=>exact p.elim
  |some (.ins _ _,_),_,p=>exact p.elim
  |some (.dct _,_),_,p=>exact p.elim
end
end
section
variable[Kc]{mg:Str->Option Value}{E:XK}{L n k l:Nat}{te ta tb:TE}{e ea eb:EM}{t u:TS}{m m':SM}
theorem Kids.set{G H:Hp}{S:Addr->Prop}{a p:Addr}{ds:List Dt}{xs:List V}{T:Nat->Addr->Prop}{S':Addr->Prop}{d:Dt}{v:V}{o:HO}(k:Kids (Own G H n) S a ds xs T)(q:Nat)(w:Own G (upd H p o) n S' d v)(hp:∀r,r≠q->¬T r p)(ha:¬S' a)
  (hd:∀r b,r≠q->T r b->S' b->False):Kids (Own G (upd H p o) n) (fun b=>S b\/S' b) a (ds.set q d) (xs.set q v) (fun r b=>if r=q then S' b else T r b):=by
 refine⟨by simp[k.len],fun r d' x h1 h2=>?_,.inl k.top,fun r=>?_,fun r r' b z1 z2=>?_,fun r b z=>?_⟩
 ·by_cases z:q=r
  ·subst z;have h:q<ds.length:=by
    have:=(qA4.mp h1).1
    simpa using this
   rw[qAk h]at h1;rw[qAk (by rw[k.len];exact h)]at h2;cases h1;cases h2;exact w.sub fun b hb=>by rw[if_pos rfl];exact hb
  ·rw[qAl z]at h1 h2;exact((k.own r d' x h1 h2).upd (hp r fun y=>z y.symm)).sub fun b hb=>by rw[if_neg (fun y=>z y.symm)];exact hb
 ·try dsimp only
  split
  ·exact ha
  ·exact k.out _
 ·try dsimp only at z1 z2
  by_cases h1:r=q<;>by_cases h2:r'=q
  ·rw[h1,h2]
  ·rw[if_pos h1]at z1;rw[if_neg h2]at z2;exact(hd r' b h2 z2 z1).elim
  ·rw[if_neg h1]at z1;rw[if_pos h2]at z2;exact(hd r b h1 z1 z2).elim
  ·rw[if_neg h1]at z1;rw[if_neg h2]at z2;exact k.dis _ _ b z1 z2
 ·try dsimp only at z
  by_cases h1:r=q
  ·rw[if_pos h1]at z;exact .inr z
  ·rw[if_neg h1]at z;exact .inl (k.sub _ b z)
theorem zGT(i:Nat){n1:Nat}{t1 t2:TE}{e1 e2:EM}(A:DE mg E t1 e1 n1)(B:DE mg E t2 e2 n)(hn:n<1000:=by decide):DS mg E L (tAsg t2 (gSub (vM i) t1 setM)) (Mi.sItem i n e1 e2):=by
 intro G0 H0 S0 σ ρ G H As D a p;obtain⟨J,x,s,w⟩:=a.full;refine B.step (errS.from x) x.in' w p fun d y G1 H1 S _ fr o p1=>?_
 cases er:ρ[i]? with
 |none=>rw[er]at p1;exact p1.elim
 |some sl=>
  rw[er]at p1
  match sl,er,p1 with
  |none,_,p=>exact p.elim
  |some (.lst ds,k+1),er,p1=>
   obtain⟨v,h1,q,xs,T,rfl,hq,kd⟩:=a.at i _ _ er;unfold gSub vM;rw[h1];have x1:Ext J H J H1:=Ext.same x.in' fr.ext.h;refine(zAS A).step (errS.from (x.trans x1)) x1.in' w p1 fun z u G2 H2 S2 _ fr2 o2 p2=>?_
   cases z with
   |int z=>
    cases(show u=.int z from o2)
    try dsimp only at p2
    cases ei:Mi.ixA ds.length z with
    |none=>rw[ei]at p2;exact p2.elim
    |some c=>
     rw[ei]at p2
     try dsimp only at p2
     split at p2
     ·rename_i hz
      rw[zKJ]at ei;obtain⟨q1,q2⟩:=whole (k:=k) a s fr o hn hz.1 hz.2;have sH:=fr.ext.h.trans fr2.ext.h;refine⟨xs,c,sH _ _ hq,by rw[kd.len];exact ei,?_⟩;have a1:=a.grow sH;have nS:¬S q:=fun z=>(a.new i q kd.top).2.2 (q2 q z).1
      have kd1:Kids (Own G H2 k) (As i) q ds xs T:=kd.imp (fun _ _ _ _ w=>w.mono (Same.refl _) sH) fun _ z=>z
      refine p2 σ G _ _ (a1.store (S:=fun b=>As i b\/S b) kd.top h1 ⟨q,_,_,rfl,zAE,kd1.set c ((q1.mono (Same.refl _) fr2.ext.h).upd nS) (fun r _=>kd.out r) nS fun r b _ z1 z2=>(a.new i b (kd.sub r b z1)).2.2 (q2 b z2).1⟩ fun b z=>?_)
      rcases z with z|z
      ·exact .inl z
      ·obtain⟨n1,n2,n3⟩:=q2 b z;exact .inr ⟨a.ext.h.free n1,n2,fr2.ext.h.some n3,fun j y=>(a.new j b y).2.2 n1⟩
     ·exact p2.elim
   |_=>exact p2.elim
  |some (.lst ds,0),_,p=>exact p.elim
  |some (.non,_),_,p=>exact p.elim
  |some (.bl _,_),_,p=>exact p.elim
  |some (.int _,_),_,p=>exact p.elim
  |some (.str _,_),_,p=>exact p.elim
  |some (.tup _,_),_,p=>exact p.elim
  |some (.scr _,_),_,p=>exact p.elim
  |some (.exc _ _ _,_),_,p=>exact p.elim
  |some (.fn _ _,_),_,p=>exact p.elim
  |some (.dtt _ _,_),_,p=>exact p.elim
  |some (.loc _ _,_),_,p=>exact p.elim
  |some (.ins _ _,_),_,p=>exact p.elim
  |some (.dct _,_),_,p=>exact p.elim
theorem zOC(j i:Nat)(A:DE mg E te e n):DS mg E L (zMA (tML appM (vM j) (zD3 (tML popM (vM i) (zD3 te tNil)) tNil))) (Mi.sAppPop j i e):=by
 intro G0 H0 S0 σ ρ G H As D a p;obtain⟨J,x,s,w⟩:=a.full;unfold Mi.sAppPop at p;cases f1:ρ[j]? with
 |none=>rw[f1]at p;exact p.elim
 |some oj=>
  rw[f1]at p
  match oj,f1,p with
  |none,_,p=>exact p.elim
  |some (.lst es,l+1),f1,p=>
   cases e1:ρ[i]? with
   |none=>rw[e1]at p;exact p.elim
   |some o=>
    rw[e1]at p
    match o,e1,p with
    |none,_,p=>exact p.elim
    |some (.lst ds,k+1),e1,p=>
     obtain⟨v',g1,q',ys,T',rfl,hq',kd'⟩:=a.at j _ _ f1;obtain⟨v,h1,q,xs,T,rfl,hq,kd⟩:=a.at i _ _ e1;unfold zMA tML zD3 vM;rw[g1];refine⟨ys,hq',?_⟩;dsimp only;rw[h1];refine⟨xs,hq,?_⟩;refine(zAS A).step (errS.from x) x.in' w p fun d y G1 H1 S _ fr o p1=>?_
     cases d with
     |int z=>
      cases(show y=.int z from o)
      try dsimp only at p1
      cases ei:Mi.ixA ds.length z with
      |none=>rw[ei]at p1;exact p1.elim
      |some c=>
       rw[ei]at p1
       try dsimp only at p1
       cases ec:ds[c]? with
       |none=>rw[ec]at p1;exact p1.elim
       |some dc=>
        rw[ec]at p1
        try dsimp only at p1
        split at p1
        ·rename_i hz
         obtain⟨hij,hz1,hz2,hlv⟩:=hz;rw[zKJ]at ei;obtain⟨b1,b2,b3,b4⟩:=zGR ei;have hc:c<xs.length:=by rw[kd.len];exact b2
         have hx:xs[c]?=some xs[c]:=qA5 hc;refine⟨xs,c,xs[c],fr.ext.h _ _ hq,⟨by lia,by lia⟩,by rw[kd.len];exact b1,hx,?_⟩;have a1:=a.grow fr.ext.h;have kd1:Kids (Own G H1 k) (As i) q ds xs T:=kd.imp (fun _ _ _ _ w=>w.mono (Same.refl _) fr.ext.h) fun _ z=>z
         have hqq:q'≠q:=fun z=>hij (a.dis i j q kd.top (z▸kd'.top))
         have hjq:¬As j q:=fun z=>hij (a.dis i j q kd.top z)
         have kd1':Kids (Own G (upd H1 q (.lst (xs.eraseIdx c))) l) (As j) q' es ys T':=zN3 (kd'.imp (fun _ _ _ _ w=>w.mono (Same.refl _) fr.ext.h) fun _ z=>z) fun r z=>hjq (kd'.sub r q z)
         refine⟨ys,by rw[zAF hqq];exact fr.ext.h _ _ hq',by rw[kd'.len];exact L2.big (by lia),?_⟩;have a2:=a1.store (o:=.lst (xs.eraseIdx c)) (n:=k+1) (d:=.lst (ds.eraseIdx c)) (S:=fun b=>As i b/\¬T c b) kd.top h1 ⟨q,_,_,rfl,zAE,zN3 (kd1.pop c) fun r=>by split<;>exact kd.out _⟩ fun b z=>.inl z.1
         have wc:Own G (upd H1 q (.lst (xs.eraseIdx c))) l (T c) dc xs[c]:=by
          have w0:=(kd1.own c dc _ ec hx).upd (o:=.lst (xs.eraseIdx c)) (kd.out c)
          rcases hlv with z|⟨z1,z2,z3⟩
          ·subst z;exact w0
          ·exact w0.at z1 z2 z3
         have nT:¬T c q':=fun z=>hij (a.dis i j q' (kd.sub c q' z) kd'.top)
         have ap:∀r b,T' r b->T c b->False:=fun r b z1 z2=>hij (a.dis i j b (kd.sub c b z2) (kd'.sub r b z1))
         have e3:(if j=i then fun b=>As i b/\¬T c b else As j)=As j:=if_neg (fun z=>hij z.symm);have hp:(fun l=>if l=i then fun b=>As i b/\¬T c b else As l) j q':=by
          show(if j=i then fun b=>As i b/\¬T c b else As j) q'
          rw[e3];exact kd'.top
         refine p1 σ G _ _ (a2.store (i:=j) (p:=q') (S:=fun b=>As j b\/T c b) (n:=l+1) (d:=.lst (es++[dc])) (v:=.ref q') (o:=.lst (ys++[xs[c]])) hp g1
          ⟨q',_,fun r b=>(r<es.length/\T' r b)\/(r=es.length/\T c b),rfl,zAE,⟨by simp[kd'.len],fun r d' z f1 f2=>?_,.inl kd'.top,fun r z=>?_,fun r r' b z1 z2=>?_,fun r b z=>?_⟩⟩ fun b z=>?_)
         ·by_cases hr:r<es.length
          ·rw[qA8 hr]at f1;rw[qA8 (by rw[kd'.len];exact hr)]at f2;exact((kd1'.own r d' z f1 f2).upd (kd'.out r)).sub fun b z=>.inl ⟨hr,z⟩
          ·rw[qAc (by lia)]at f1;rw[qAc (by rw[kd'.len];lia),kd'.len]at f2;have hq0:r-es.length=0:=by
            have:=(qA4.mp f1).1
            simp at this;lia
           rw[hq0]at f1 f2;simp at f1 f2;subst f1;subst f2;exact(wc.upd nT).sub fun b z=>.inr ⟨by lia,z⟩
         ·rcases z with⟨_,z⟩|⟨_,z⟩
          ·exact kd'.out r z
          ·exact nT z
         ·rcases z1 with⟨c1,t1⟩|⟨c1,t1⟩<;>rcases z2 with⟨c2,t2⟩|⟨c2,t2⟩
          ·exact kd'.dis r r' b t1 t2
          ·exact(ap r b t1 t2).elim
          ·exact(ap r' b t2 t1).elim
          ·lia
         ·rcases z with⟨_,z⟩|⟨_,z⟩
          ·exact .inl (kd'.sub r b z)
          ·exact .inr z
         ·rcases z with z|z
          ·refine .inl ?_
           show(if j=i then fun b=>As i b/\¬T c b else As j) b
           rw[e3];exact z
          ·obtain⟨n1,n2,n3⟩:=a1.new i b (kd.sub c b z);refine .inr ⟨n1,n2,?_,fun r y=>?_⟩
           ·rw[zAF (fun y:b=q=>kd.out c (y▸z))];exact n3
           ·have y':(if r=i then fun b=>As i b/\¬T c b else As r) b:=y
            by_cases hr:r=i
            ·rw[if_pos hr]at y';exact y'.2 z
            ·rw[if_neg hr]at y';exact hr (a.dis r i b y' (kd.sub c b z))
        ·exact p1.elim
     |_=>exact p1.elim
    |some (.lst ds,0),_,p=>exact p.elim
    |some (.non,_),_,p=>exact p.elim
    |some (.bl _,_),_,p=>exact p.elim
    |some (.int _,_),_,p=>exact p.elim
    |some (.str _,_),_,p=>exact p.elim
    |some (.tup _,_),_,p=>exact p.elim
    |some (.scr _,_),_,p=>exact p.elim
    |some (.exc _ _ _,_),_,p=>exact p.elim
    |some (.fn _ _,_),_,p=>exact p.elim
    |some (.dtt _ _,_),_,p=>exact p.elim
    |some (.loc _ _,_),_,p=>exact p.elim
    |some (.ins _ _,_),_,p=>exact p.elim
    |some (.dct _,_),_,p=>exact p.elim
  |some (.lst ds,0),_,p=>exact p.elim
  |some (.non,_),_,p=>exact p.elim
  |some (.bl _,_),_,p=>exact p.elim
  |some (.int _,_),_,p=>exact p.elim
  |some (.str _,_),_,p=>exact p.elim
  |some (.tup _,_),_,p=>exact p.elim
  |some (.scr _,_),_,p=>exact p.elim
  |some (.exc _ _ _,_),_,p=>exact p.elim
  |some (.fn _ _,_),_,p=>exact p.elim
  |some (.dtt _ _,_),_,p=>exact p.elim
  |some (.loc _ _,_),_,p=>exact p.elim
  |some (.ins _ _,_),_,p=>exact p.elim
  |some (.dct _,_),_,p=>exact p.elim
theorem zRN{G0 H0 S0:Hp}{D:Ends}{g:TG}{tg:Tg}{J:It}{ds:List Dt}{GJ:Hp}(hT:TgOk g tg)(B:DS mg E L t m)(io:ItOk J GJ ds){σ:St}{ρ:Ro}{G H:Hp}{As:Nat->Addr->Prop}(a:Sat G0 H0 S0 σ ρ G H As)(sJ:Same GJ G)
  (p:zCK mg E G0 H0 S0 L (Mi.forGo tg m ds ρ) D):zPA g t D σ J H:=by
 refine⟨fun i c σ H=>c=ds.length-i/\i<=ds.length/\∃ρ G As,Sat G0 H0 S0 σ ρ G H As/\Same GJ G/\zCK mg E G0 H0 S0 L (Mi.forGo tg m (ds.drop i) ρ) D,
  ⟨_,rfl,qAt _,ρ,G,As,a,sJ,by rw[qDe];exact p⟩,?_⟩
 rintro i c σ H ⟨rfl,hi,ρ,G,As,a,sJ,p⟩
 obtain⟨j1,j2,j3⟩:=io i G H sJ a.ext.in'
 by_cases hlt:i<ds.length
 ·refine .inr ⟨j1 hlt,fun σ' H'=>i+1<=ds.length/\∃ρ G As,Sat G0 H0 S0 σ' ρ G H' As/\Same GJ G/\zCK mg E G0 H0 S0 L (Mi.forGo tg m (ds.drop (i+1)) ρ) D,fun σ' H' q=>⟨ds.length-(i+1),by lia,rfl,q⟩,fun x H2 hy=>?_⟩;have hd:ds[i]?=some ds[i]:=qA5 hlt;obtain⟨G2,x2,r2⟩:=j3 x H2 ds[i] hd hy;rw[qDf hlt,Mi.forGo]at p;cases eb:zAN tg ds[i]with
  |none=>rw[eb]at p;exact p.elim
  |some bs=>
   rw[eb]at p
   try dsimp only at p
   refine hT G2 H2 _ _ x bs _ x2.in' r2 eb fun ws hb=>?_
   obtain⟨As2,a2⟩:=Sat.puts hb (a.wider x2);have a3:Sat G0 H0 GJ (zFI σ ws) (zAQ ρ bs) G2 H2 As2:=⟨a2.ext,sJ.trans x2.g,a2.tab,a2.len,a2.at,a2.dis,a2.new⟩
   have key:∀(S1:Hp),Same S0 S1->Same GJ S1->Sat G0 H0 S1 (zFI σ ws) (zAQ ρ bs) G2 H2 As2->t { D with nx:=fun σ' H'=>i+1<=ds.length/\∃ρ G As,Sat G0 H0 S0 σ' ρ G H' As/\Same GJ G/\zCK mg E G0 H0 S0 L (Mi.forGo tg m (ds.drop (i+1)) ρ) D,ct:=fun σ' H'=>i+1<=ds.length/\∃ρ G As,Sat G0 H0 S0 σ' ρ G H' As/\Same GJ G/\zCK mg E G0 H0 S0 L (Mi.forGo tg m (ds.drop (i+1)) ρ) D,bk:=D.nx } (zFI σ ws) H2:=by
    intro S1 s1 s2 a4;refine B G0 H0 S1 _ _ G2 H2 As2 _ a4 ?_;have back:∀{σ':St}{ρ':Ro}{G' H':Hp}{As':Nat->Addr->Prop},Sat G0 H0 S1 σ' ρ' G' H' As'->Sat G0 H0 S0 σ' ρ' G' H' As'/\Same GJ G':=fun a5=>⟨⟨a5.ext,s1.trans a5.stb,a5.tab,a5.len,a5.at,a5.dis,a5.new⟩,s2.trans a5.stb⟩
    cases em:m (zAQ ρ bs)with
    |none=>rw[em]at p;exact p
    |some r=>
     rw[em]at p;cases r with
     |error y=>exact p
     |ok o=>
      cases o with
      |nx ρ'=>exact fun σ' G' H' As' a5=>⟨hlt,ρ',G',As',(back a5).1,(back a5).2,p⟩
      |ct ρ'=>exact fun σ' G' H' As' a5=>⟨hlt,ρ',G',As',(back a5).1,(back a5).2,p⟩
      |bk ρ'=>exact fun σ' G' H' As' a5=>p σ' G' H' As' (back a5).1
      |rt d=>exact p
   exact key G2 a2.stb (sJ.trans x2.g) ⟨a2.ext,Same.refl _,a2.tab,a2.len,a2.at,a2.dis,a2.new⟩
 ·have e:i=ds.length:=by lia
  subst e;rw[qFt,Mi.forGo]at p;exact .inl ⟨j2 (qA6 _),p σ G H As a⟩
theorem zI6{wi:TI}{it:IM}{g:TG}{tg:Tg}(vs:List Nat){ind:Bool}(I:DI mg E wi it ind)(hT:TgOk g tg)(B:DS mg E L t m):DS mg E L (fun D σ H=>wi σ H (zPA g t D σ)) (Mi.sFor vs it tg m):=by
 intro G0 H0 S0 σ ρ G H As D a p;obtain⟨G1,As1,a1⟩:=Sat.frzAt vs a;refine I.step (errS.from a1.ext) a1.ext.in' a1.frz p fun ds J G2 H2 _ x2 io p1=>?_
 refine zRN hT B io (a1.wider x2) ?_ p1;unfold zOZ
 split
 ·exact fun b o e=>by cases e
 ·exact Same.refl _
theorem zGU{wi:TI}{it:IM}{i:Nat}(I:DI mg E wi it true)(B:DS mg E L t m):DS mg E L (fun D σ H=>wi σ H (zPA (zE2 i) t D σ)) (Mi.sForR it i m):=by
 intro G0 H0 S0 σ ρ G H As D a p;obtain⟨J,x,s,w⟩:=a.full;refine I.step (errS.from x) x.in' w p fun ds J G2 H2 _ x2 io p1=>?_
 exact zRN (zC1 i) B io (a.grow x2.h) (fun b o e=>by cases e) p1
theorem zXO{G0 H0 S0:Hp}{D:Ends}{tc:TT}{c:TM}(C:DT mg E tc c)(B:DS mg E L t m)(N:Nat){σ:St}{ρ:Ro}{G H:Hp}{As:Nat->Addr->Prop}(a:Sat G0 H0 S0 σ ρ G H As)(p:zCK mg E G0 H0 S0 L (Mi.whGo c m N ρ) D):zM7 tc t D σ H:=by
 refine⟨fun i σ H=>∃ρ G As,Sat G0 H0 S0 σ ρ G H As/\zCK mg E G0 H0 S0 L (Mi.whGo c m i ρ) D,⟨N,ρ,G,As,a,p⟩,?_⟩
 rintro i σ H ⟨ρ,G,As,a,p⟩
 cases i with
 |zero=>exact p.elim
 |succ i=>
  obtain⟨J,x,s,w⟩:=a.full;rw[Mi.whGo]at p;refine C.step (errS.from x) x.in' w p fun b H' _ sH p1=>?_
  cases b with
  |false=>exact p1 σ G H' As (a.grow sH)
  |true=>
   rw[if_pos rfl];refine⟨fun σ' H'=>∃ρ G As,Sat G0 H0 S0 σ' ρ G H' As/\zCK mg E G0 H0 S0 L (Mi.whGo c m i ρ) D,fun σ' H' q=>⟨i,qFs i,q⟩,?_⟩;refine B G0 H0 S0 σ ρ G H' As _ (a.grow sH) ?_;rw[if_pos rfl]at p1;cases em:m ρ with
   |none=>rw[em]at p1;exact p1
   |some r=>
    rw[em]at p1;cases r with
    |error y=>exact p1
    |ok o=>
     cases o with
     |nx ρ'=>exact fun σ' G' H' As' a5=>⟨ρ',G',As',a5,p1⟩
     |ct ρ'=>exact fun σ' G' H' As' a5=>⟨ρ',G',As',a5,p1⟩
     |bk ρ'=>exact fun σ' G' H' As' a5=>p1 σ' G' H' As' a5
     |rt d=>exact p1
theorem zQI{tc:TT}{c:TM}(C:DT mg E tc c)(B:DS mg E L t m):DS mg E L (zM7 tc t) (Mi.sWhile c m):=fun G0 H0 S0 σ ρ G H As D a p=>zXO C B _ a p
theorem dz(A:DE mg E te e 0):DE mg E te e 0:=A
theorem zIV{P N:Nat}{vs:List V}{H:Hp}{Q:VK}{E:XK}(h:spM mg L (Mi.runF P N m) vs H Q E):vs.length=P:=by
 obtain⟨G,ds,_,s,r,p⟩:=h;rw[r.length];unfold Mi.runF at p
 split at p
 ·rename_i h;exact h
 ·exact p.elim
theorem zC4{P:Nat}{N:List Str}{vs:List V}{H:Hp}{Q:VK}(B:DS mg E L t m)(h:spM mg L (Mi.runF P N.length m) vs H Q E):t { nx:=fun _ H'=>Q .non H',rt:=Q } (L2.start N vs) H:=by
 obtain⟨G,ds,tb,s,r,p⟩:=h;unfold Mi.runF at p
 split at p
 ·refine B G H G _ (Mi.startO N.length ds) G H (fun _ _=>False) _ ⟨Ext.refl s,Same.refl _,tb,?_,fun i d n e=>?_,fun _ _ _ z=>z.elim,fun _ _ z=>z.elim⟩ ?_
  ·unfold Mi.startO L2.start;simp[r.length]
  ·unfold Mi.startO at e
   by_cases hi:i<ds.length
   ·rw[qA8 (by simpa using hi),qAe]at e;cases e1:ds[i]? with
    |none=>rw[e1]at e;cases e
    |some d'=>
     rw[e1]at e;cases e;have hv:vs[i]?=some (vs[i]'(by rw[r.length];exact hi)):=by simp
     refine⟨vs[i]'(by rw[r.length];exact hi),?_,zBF r e1 hv⟩;unfold L2.start;rw[qA8 (by simpa[r.length]using hi),qAe,hv];rfl
   ·rw[qAc (by simpa using hi),qBc]at e
    split at e<;>cases e
  ·cases em:m (Mi.startO N.length ds)with
   |none=>rw[em]at p;exact p
   |some r=>
    rw[em]at p;cases r with
    |error y=>exact p
    |ok o=>
     cases o with
     |nx ρ'=>exact fun σ' G' H' As' a=>PostE.val (d:=.non) p a.ext rfl rfl
     |rt d=>exact p
     |bk ρ'=>exact p.elim
     |ct ρ'=>exact p.elim
 ·exact p.elim
end
end L3
namespace L2
open PySem PySem.Spec PyProof.Rows
section
variable{X:Cx}
end
section
variable{X:Cx}{e m1:Expr}{te ts:TE}{pos p2:Pos}
end
section
variable{prog:qHr}{w:World}{A:qHv}{E:Value->qHp->Prop}{s:qHp}
end
section
variable{X:Cx}{pins:List (Addr×Obj)}{σ:List (Option V)}{H:Hp}{s:qHp}
end
section
variable{prog:qHr}{w:World}{A:qHv}{E:Value->qHp->Prop}{s:qHp}
end
section
variable{X:Cx}{pins:List (Addr×Obj)}{σ:List (Option V)}{H:Hp}{s:qHp}
end
section
variable{X:Cx}
variable{o e:Expr}{es:List Expr}{to:TE}{t:TA}{name:Str}{apos cpos:Pos}{T id:String}{r:V->List V->Hp->VK->Prop}
end
section
variable{X:Cx}{pins:List (Addr×Obj)}{σ:List (Option V)}{H:Hp}{s:qHp}
end
section
variable{X:Cx}
end
section
variable{X:Cx}{tg:Expr}
end
section
variable{prog:qHr}{w:World}{A:qHv}{E:Value->qHp->Prop}{s:qHp}
end
section
variable{X:Cx}
end
section
variable{prog:qHr}{w:World}{A:qHv}{E:Value->qHp->Prop}{s:qHp}
end
section
variable{X:Cx}
end
section
variable{prog:qHr}{w:World}{A:qHv}{E:Value->qHp->Prop}{s:qHp}
end
section
variable{X:Cx}{o:Expr}{td:TE}{p apos cpos pos:Pos}
end
section
variable{prog:qHr}{w:World}{A:qHv}{E:Value->qHp->Prop}{s:qHp}
end
section
variable{X:Cx}{pins:List (Addr×Obj)}{σ:List (Option V)}{H:Hp}{s:qHp}
end
section
variable{prog:qHr}{w:World}{A:qHv}{E:Value->qHp->Prop}{s:qHp}
end
section
variable{X:Cx}{K:qA2}
end
section
variable{X:Cx}{e m1:Expr}{te ts:TE}{pos p2:Pos}
end
section
variable{X:Cx}{pins:List (Addr×Obj)}{σ:List (Option V)}{H:Hp}{s:qHp}
end
section
variable{X:Cx}
end
end L2
namespace L3
open PySem PySem.Spec
open L2 hiding Rep RepL
open Mi (Dt Xn R okR zA1 optR zA0 zA4 zA7 zA5 zA6 Rh Sl Ro EM TM AM FM IM SM OM Tg Out zAN zAO zAQ full frz frz1 frzAt)
section
variable[Kc]{mg:Str->Option Value}{E:XK}{L n k l:Nat}{te ta tb:TE}{e ea eb:EM}{t u:TS}{m m':SM}
theorem zRY{f:List Dt->Option Dt}{g:Int->Int->Int}{r:List V->Hp->VK->Prop}(hr:∀i j H Q,Q (.int (g i j)) H->r [.int i,.int j] H Q)(hf:∀i j,f [.int i,.int j]=some (.int (g i j)))(hn:∀ds,(∀i j,ds≠[.int i,.int j])->f ds=none):CBi r f n:=by
 intro mg E G H ds vs Q s h p
 by_cases hd:∃i j,ds=[.int i,.int j]
 ·obtain⟨i,j,rfl⟩:=hd;obtain⟨x,y,rfl,hx,hy⟩:=zSG h
  cases(show x=.int i from hx)
  cases(show y=.int j from hy)
  rw[hf]at p;exact hr i j H Q (PostE.val p (Ext.refl s) rfl rfl)
 ·rw[hn ds fun i j e=>hd ⟨i,j,e⟩]at p;exact p.elim
theorem zJW{f:List Dt->Option Dt}(h1:f []=none)(h2:∀x,f [x]=none)(h3:∀x y z r,f (x::y::z::r)=none)(h4:∀x y,(∀i j,[x,y]≠[.int i,.int j])->f [x,y]=none):∀ds,(∀i j,ds≠[.int i,.int j])->f ds=none:=by
 intro ds h
 match ds,h with
 |[],_=>exact h1
 |[x],_=>exact h2 x
 |[x,y],h=>exact h4 x y h
 |x::y::z::r,_=>exact h3 x y z r
theorem zRZ:CBi (fun xs H Q=>∃i j,xs=[.int i,.int j]/\Q (.int (if j>i then j else i)) H) Mi.maxD n:=
 zRY (g:=fun i j=>if j>i then j else i) (fun i j H Q q=>⟨i,j,rfl,q⟩) (fun _ _=>rfl) (zJW rfl (fun x=>by cases x<;>rfl) (fun x y z r=>by cases x<;>cases y<;>rfl) (fun x y h=>by cases x<;>cases y<;>first|rfl|exact absurd rfl (h _ _)))
theorem zXE:CBi (fun xs H Q=>∃i j,xs=[.int i,.int j]/\Q (.int (if j<i then j else i)) H) Mi.minD n:=
 zRY (g:=fun i j=>if j<i then j else i) (fun i j H Q q=>⟨i,j,rfl,q⟩) (fun _ _=>rfl) (zJW rfl (fun x=>by cases x<;>rfl) (fun x y z r=>by cases x<;>cases y<;>rfl) (fun x y h=>by cases x<;>cases y<;>first|rfl|exact absurd rfl (h _ _)))
def DO(mg:Str->Option Value)(E:XK)(t:TO)(m:OM):Prop:=∀(G H:Hp)(σ:St)(ρ:Rh)(Q:Option Int->Hp->Prop),Same G H->View G σ ρ ->
 (match m ρ with
  |none=>False
  |some (.error x)=>∀c da G' H',Ext G H G' H'->XRep mg x c da G' H'->E c da H'
  |some (.ok o)=>∀H',Same H H'->Q o H')->t σ H Q
theorem DO.step{β:Type}{t:TO}{m:OM}(D:DO mg E t m){G H:Hp}{σ:St}{ρ:Rh}{Q:Option Int->Hp->Prop}{P:R β->Prop}{f:Option Int->R β}(hE:Err mg E G H P)(s:Same G H)(w:View G σ ρ)(p:P (zA1 (m ρ) f))
  (h:∀b H',m ρ=okR b->Same H H'->P (f b)->Q b H'):t σ H Q:=by
 refine D G H σ ρ Q s w ?_;cases e:m ρ with
 |none=>rw[e]at p;exact hE.no p
 |some r=>
  rw[e]at p;cases r with
  |error x=>exact hE.er x p
  |ok b=>exact fun H' sH=>h b H' e sH p
theorem zX0:DO mg E zM9 Mi.oNo:=fun G H σ ρ Q s w p=>p H (Same.refl _)
theorem do_e(A:DE mg E te e k):DO mg E (zUH te) (Mi.oE e):=by
 intro G H σ ρ Q s w p;unfold Mi.oE at p;refine(zAS A).step (P:=fun r=>match r with
  |none=>False
  |some (.error x)=>∀c da G' H',Ext G H G' H'->XRep mg x c da G' H'->E c da H'
  |some (.ok o)=>∀H',Same H H'->Q o H') ⟨fun h=>h,fun _ h=>h⟩ s w p fun d v G1 H1 S _ fr o p1=>?_
 cases d with
 |int i=>exact⟨i,o,p1 H1 fr.ext.h⟩
 |_=>exact p1.elim
theorem zKT(n d:Nat)(o:Option Int):Mi.cutIx n d o=HT.sIx n d o:=by cases o<;>rfl
theorem zHL{G:Hp}:∀{ds:List Dt}{xs:List V}(i:Nat),RepL G ds xs->RepL G (ds.drop i) (xs.drop i)
 |ds,xs,0,r=>by simpa using r
 |[],xs,i+1,r=>by cases(show xs=[] from r);exact rfl
 |d::ds,xs,i+1,r=>by
  obtain⟨x,q,rfl,a,b⟩:=r;exact zHL i b
theorem zHK{G:Hp}:∀{ds:List Dt}{xs:List V}(i:Nat),RepL G ds xs->RepL G (ds.take i) (xs.take i)
 |ds,xs,0,r=>by simp;exact rfl
 |[],xs,i+1,r=>by cases(show xs=[] from r);exact rfl
 |d::ds,xs,i+1,r=>by
  obtain⟨x,q,rfl,a,b⟩:=r;exact⟨x,_,rfl,a,zHK i b⟩
theorem zPI{G:Hp}{ds:List Dt}{xs:List V}(r:RepL G ds xs)(lo hi:Option Int):RepL G (Mi.cutA ds lo hi) (cutV xs lo hi):=by
 unfold Mi.cutA cutV;rw[zKT,zKT,r.length];exact zHK _ (zHL _ r)
def RSl(r:V->Option Int->Option Int->Hp->VK->Prop)(n:Nat):Prop:=∀(mg:Str->Option Value)(E:XK)(G H:Hp)(d:Dt)(x:V)(lo hi:Option Int)(Q:VK),Same G H->Rep G d x->PostE mg E G H n (optR (Mi.slD d lo hi)) Q->r x lo hi H Q
theorem zX6{r:V->Option Int->Option Int->Hp->VK->Prop}{tl th:TO}{ml mh:OM}(hr:RSl r n)(A:DE mg E te e k)(B:DO mg E tl ml)(C:DO mg E th mh):DE mg E (tSl r te tl th) (Mi.eSl e ml mh) n:=by
 intro G H σ ρ Q s w p;refine(zAS A).step errE s w p fun d v G1 H1 S _ fr o p1=>?_
 refine B.step (errE.from fr.ext) fr.ext.in' (w.mono fr.ext.g) p1 fun lo H2 _ s2 p2=>?_
 have x2:=fr.ext.trans (Ext.same fr.ext.in' s2);refine C.step (errE.from x2) x2.in' (w.mono fr.ext.g) p2 fun hi H3 _ s3 p3=>?_
 have x3:=x2.trans (Ext.same x2.in' s3);exact hr mg E G1 H3 d v lo hi Q x3.in' o (PostE.from p3 x3)
end
section
variable[Kc]{mg:Str->Option Value}{E:XK}{L n k l:Nat}{te ta tb:TE}{e ea eb ma:EM}{t:TA}{m:AM}
theorem rs_u:RSl (rSlU Kc.K) 1:=by
 intro mg E G H d x lo hi Q s h p;cases d with
 |lst ds=>
  obtain⟨a,xs,rfl,ha,r⟩:=h;exact⟨xs,SqL.of (s _ _ ha),fun q hq=>PostE.lst p (Ext.refl s) (zPI r lo hi) hq⟩
 |str z=>
  cases(show x=.str z from h)
  rw[Mi.slD]at p
  by_cases hz:z.length<=100000
  ·rw[if_pos hz]at p;exact⟨big' hz,PostE.val p (Ext.refl s) rfl rfl⟩
  ·rw[if_neg hz]at p;exact p.elim
 |_=>exact p.elim
theorem zZ1{tl th:TO}{ml mh:OM}(A:DE mg E te e k)(B:DO mg E tl ml)(C:DO mg E th mh):DE mg E (tSl (rSlU Kc.K) te tl th) (Mi.eSl e ml mh) 1:=zX6 rs_u A B C
theorem zWI{G:Hp}(z:Str):ItOk (Its z) G (Mi.signsD z):=by
 intro i G1 H1 s1 s2;have hl:(Mi.signsD z).length=z.cps.size:=by simp[Mi.signsD]
 refine⟨fun hi=>by rw[hl]at hi;exact hi,fun hi=>by rw[hl]at hi;exact hi,fun x H2 d hd hy=>?_⟩;obtain⟨rfl,c,hc,rfl⟩:=hy;refine⟨G1,Ext.refl s2,?_⟩;unfold Mi.signsD at hd;rw[qAe]at hd;have hc':z.cps.toList[i]?=some c:=by simpa using hc
 rw[hc']at hd;cases hd;rfl
theorem zG2(A:DE mg E ta ma k):DI mg E (iAny Kc.K ta) (Mi.iSq ma) false:=by
 intro G H σ ρ Q s w p;refine(zAS A).step errI s w p fun d v G1 H1 S _ fr o p1=>?_
 cases d with
 |lst ds=>
  obtain⟨a,xs,rfl,ha,r⟩:=o;exact .inl ⟨⟨xs,SqL.of (fr.ext.in' _ _ ha)⟩,p1 _ G1 H1 fr.ext (zRJ (SqL.of ha) r)⟩
 |tup ds=>
  obtain⟨a,xs,rfl,ha,r⟩:=o;exact .inr ⟨⟨xs,SqT.of (fr.ext.in' _ _ ha)⟩,p1 _ G1 H1 fr.ext (zRH (SqT.of ha) r)⟩
 |scr ns=>
  obtain⟨a,rfl,ha⟩:=o
  rcases ha.old with ha|ha
  ·exact .inl ⟨⟨_,fr.ext.in'.seq ha⟩,p1 _ G1 H1 fr.ext (zRJ ha (zC5 ns))⟩
  ·exact .inr ⟨⟨_,zHI fr.ext.in' ha⟩,p1 _ G1 H1 fr.ext (zRH ha (zC5 ns))⟩
 |str z=>
  cases(show v=.str z from o)
  exact p1 _ G1 H1 fr.ext (zWI z)
 |_=>exact p1.elim
end
end L3
namespace L2
open PySem PySem.Spec
structure Dr(p:Prop):Prop where
 h:p
section
variable{X:Cx}
theorem zBJ{st:Stmt}{rest:List Stmt}{t u:TS}(h1:Dr (PS X st t))(h2:Dr (PSs X rest u)):Dr (PSs X (st::rest) (tSeq t u)):=⟨zA9 h1.h h2.h⟩
theorem zTR{st:Stmt}{t:TS}(h1:Dr (PS X st t)):Dr (PSs X [st] t):=⟨zAI h1.h⟩
end
end L2
namespace L2
open PySem PySem.Spec PyProof.Rows
section
variable{X:Cx}{e m1:Expr}{te ts:TE}{pos p2:Pos}
theorem zTM{b:List Stmt}{t:TS}{R:TS->Prop}(h:Dr (PSs X b t))(r:R t):∃t,PSs X b t/\R t:=⟨t,h.h,r⟩
end
end L2
namespace L2
open PySem
end L2
namespace L3
open PySem PySem.Spec
open L2 hiding Rep RepL
open Mi (Dt FM okR)
def sp0(K:qA2)(mg:Str->Option Value)(L:Nat)(f:FM):Sp:=fun vs H Q _=>@spM ⟨K⟩ mg L f vs H Q E0
end L3
namespace Mi
open PySem
noncomputable section
def noE{α:Type}(r:R α):R α:=match r with
 |some (.ok a)=>okR a
 |_=>none
def eCallN(f:FM)(am:AM):EM:=fun ρ=>zA1 (am ρ) fun ds=>noE (f ds)
def eMkX(c f:Str)(am:AM):EM:=fun ρ=>zA1 (am ρ) fun ds=>match ds with
 |[d]=>okR (.exc c f d)
 |_=>none
def zR4(c f:Str)(am:AM):SM:=fun r=>zA1 (am (full r)) fun ds=>match ds with
 |[d]=>some (.error ⟨c,f,d⟩)
 |_=>none
def sRaise0(c:Str)(am:AM):SM:=fun r=>zA1 (am (full r)) fun ds=>@ite _ (ds.length<=1000) (qA1 _) (some (.error ⟨c,"",.non⟩)) none
def eAtX(hs:List Str)(f:Str)(a:EM):EM:=fun ρ=>zA1 (a ρ) fun d=>match d with
 |.exc c g x=>if c∈hs/\g=f then okR x else none
 |_=>none
def eIsX(ys ns:List Str)(a:EM):EM:=fun ρ=>zA1 (a ρ) fun d=>match d with
 |.exc c _ _=>if c∈ys then okR (.bl true)else if c∈ns then okR (.bl false)else none
 |_=>none
noncomputable def zWP(i:Nat):Out->Out
 |.nx r=>.nx (r.set i none)
 |.rt d=>.rt d
 |.bk r=>.bk (r.set i none)
 |.ct r=>.ct (r.set i none)
end
end Mi
namespace L3
open PySem PySem.Spec
open L2 hiding Rep RepL
open Mi (Dt Xn R okR zA1 optR zA0 zA4 zA7 zA5 zA6 Rh Sl Ro EM TM AM FM IM SM OM Tg Out zAN zAO zAQ full frz frz1 frzAt)
section
variable[Kc]{mg:Str->Option Value}{E:XK}{L n k l:Nat}{te ta tb:TE}{e ea eb ma:EM}{t:TA}{m:AM}
theorem zQN{f:FM}(A:DA mg E t m 0):DE mg E (zDJ (spM mg n f) [] E0 t) (Mi.eCallN f m) n:=by
 intro G H σ ρ Q s w p;refine A.step errE s w p fun ds vs G1 H1 S T _ fr o p1=>?_
 refine⟨G1,ds,w.tab.trans fr.ext.g,fr.ext.in',by rw[qBr];exact o.repL,?_⟩;have p2:=PostE.from p1 fr.ext;cases e:f ds with
 |none=>rw[e]at p2;exact p2
 |some r=>
  rw[e]at p2;cases r with
  |error x=>exact p2.elim
  |ok d=>exact p2
def spInit(K:qA2)(f:Str):Sp:=fun vs H Q _=>∃e C y,vs=[.ref e,y]/\H e=some (xn e (.ref C) none)/\PySem.W.xcIn K C=true/\XSet K C f/\∀d,H d=none->d≠e->Q .non (upd (upd H d (.xd [(f,y)])) e (xn e (.ref C) (some d)))
end
section
variable{K:qA2}{C D:Addr}{dd:Option Addr}{cd:ClassData}{sl:Array (Option Value)}{b:Bool}
def xcD(C:Addr)(cd:ClassData)(sl:Array (Option Value)):Bool:=match cd.mro,sl.toList with
 |.ref C'::bm,[_,_,_,_,some (.builtin n),_]=>C'==C && !cd.hasDel&&PySem.W.excTail bm&&n == "ValueError.__new__" && cd.hasDict
 |_,_=>false
theorem zLZ(h:K.lookup C=some ⟨.type "type",dd,.cls cd,sl⟩)(h':xcD C cd sl=true):PySem.W.xcIn K C=true:=by
 unfold PySem.W.xcIn;rw[h];exact h'
end
structure XCls(K:qA2)(mg:Str->Option Value)(c:Str)(C:Addr):Prop where
 cl:clK K c=some C
 gm:mg c=some (.ref C)
 is:Xc.XIs K C
theorem zXA{K:qA2}{c:Str}{C:Addr}(h:qBg K qHx c=some (some (.ref C))):clK K c=some C:=by unfold clK;rw[h]
theorem zSS{P:qHr}{w:World}{K:qA2}{mg:Str->Option Value}{base:Heap}{N:List Str}{qual:Str}{scope:Scope}{f:Addr}{cd:Value}{A:qHv}{outer:List Env}{s:qHp}{H:Hp}{E:XK} :
  qLa (model P w) (A.deeper (qEv qual scope s.heap.objs.size f cd)) (qEv qual scope s.heap.objs.size f cd) (cxOf (CXe P w) P w K mg base N qual scope f cd A outer s H E).xe:=PassesOwn.leaving
def spE(K:qA2)(mg:Str->Option Value)(L:Nat)(f:Mi.FM):Sp:=fun vs H Q E=>@spM ⟨K⟩ mg L f vs H Q E
section
variable[Kc]{mg:Str->Option Value}{E:XK}{L n k l:Nat}{te ta tb:TE}{e ea eb ma:EM}{t:TA}{m:AM}
theorem zGW{f:FM}{E':XK}(A:DA mg E t m 0):DE mg E (zDJ (sp0 Kc.K mg n f) [] E' t) (Mi.eCallN f m) n:=zQN A
theorem zQO{f:FM}(A:DA mg E t m 0):DE mg E (zDJ (spE Kc.K mg n f) [] E t) (Mi.eCall f m) n:=zBM A
end
def zFO(K:qA2):Sp:=fun vs H Q _=>∃(a:Addr)(ns:List Int),vs=[.ref a]/\Same (tabK K) H/\SqL K H a (ns.map V.int)/\ns.length<=63/\(∀i∈ns,i.natAbs.log2<2 ^ 20)/\∀H',Same (tabK K) H'->Q (.bl true) H'
theorem zQ3{K:qA2}{mg:Str->Option Value}{L:Nat}{f:FM}(hf:∀ns:List Int,ns.length<=63->(∀i∈ns,i.natAbs.log2<2 ^ 20)->f [.scr ns]=okR (.bl true)):∀vs H Q E,zFO K vs H Q E->sp0 K mg L f vs H Q E:=by
 letI:Kc:=⟨K⟩
 rintro vs H Q E ⟨a,ns,rfl,tb,hS,hl,hw,q⟩
 refine⟨H,[.scr ns],tb,Same.refl _,⟨_,_,rfl,⟨a,rfl,.inl hS⟩,rfl⟩,?_⟩;rw[hf ns hl hw];intro v G' H' S fr o
 cases(show v=.bl true by cases L<;>exact o)
 exact q H' (tb.trans fr.ext.h)
end L3
namespace Mi
open PySem
section
variable(ρ:Rh)(r:Ro)(a b c:EM)(s t:SM)(q q':TM)(am:AM)
@[simp] theorem x_eC(d:Dt):eC d ρ=okR d:=rfl
@[simp] theorem x_eV(i:Nat):eV i ρ=match ρ[i]? with|some (some d)=>okR d|_=>none:=rfl
@[simp] theorem x_eB(f:Dt->Dt->Option Dt):eB f a b ρ=zA1 (a ρ) fun x=>zA1 (b ρ) fun y=>optR (f x y):=rfl
@[simp] theorem x_eU(f:Dt->Option Dt):eU f a ρ=zA1 (a ρ) fun x=>optR (f x):=rfl
@[simp] theorem zCH:aNil ρ=okR []:=rfl
@[simp] theorem zBB:aCons a am ρ=zA1 (a ρ) fun x=>zA1 (am ρ) fun xs=>okR (x::xs):=rfl
@[simp] theorem zIS(f:FM):eCall f am ρ=zA1 (am ρ) f:=rfl
@[simp] theorem zU9(f:List Dt->Option Dt):eBi f am ρ=zA1 (am ρ) fun xs=>optR (f xs):=rfl
@[simp] theorem x_eLst:eLst am ρ=zA1 (am ρ) fun xs=>@ite _ (xs.length<=100000) (qA1 _) (okR (.lst xs)) none:=rfl
@[simp] theorem x_eTup:eTup am ρ=zA1 (am ρ) fun xs=>@ite _ (xs.length<=100000) (qA1 _) (okR (.tup xs)) none:=rfl
@[simp] theorem x_eIsi(n:String):eIsi n a ρ=zA1 (a ρ) fun x=>optR (isiD n x):=rfl
@[simp] theorem x_eAnd:eAnd a b ρ=zA1 (a ρ) fun x=>match x with | .bl k=>if k=true then b ρ else okR (.bl false)|_=>none:=rfl
@[simp] theorem x_eOr:eOr a b ρ=zA1 (a ρ) fun x=>match x with | .bl k=>if k=true then okR (.bl true)else b ρ|_=>none:=rfl
@[simp] theorem x_eNot:eNot a ρ=zA1 (a ρ) fun x=>match x with | .bl k=>okR (.bl (!k))|_=>none:=rfl
@[simp] theorem x_eChain(f g:Dt->Dt->Option Dt):zWV f g a b c ρ=zA1 (a ρ) fun x=>zA1 (b ρ) fun y=>zA1 (optR (f x y)) fun z=>match z with | .bl k=>if k=true then zA1 (c ρ) fun w=>optR (g y w)else okR (.bl false)|_=>none:=rfl
@[simp] theorem x_eIf:eIf q a b ρ=zA1 (q ρ) fun k=>if k=true then a ρ else b ρ:=rfl
@[simp] theorem x_tB:tB a ρ=zA1 (a ρ) fun x=>match x with | .bl k=>okR k|_=>none:=rfl
@[simp] theorem x_tM:tM a ρ=zA1 (a ρ) fun x=>match x with | .bl k=>okR k | .int i=>okR (i != 0) | .non=>okR false|_=>none:=rfl
@[simp] theorem zU7:tAn q q' ρ=zA1 (q ρ) fun k=>if k=true then q' ρ else okR false:=rfl
@[simp] theorem zU6:tOr q q' ρ=zA1 (q ρ) fun k=>if k=true then okR true else q' ρ:=rfl
@[simp] theorem zXL:tNo q ρ=zA1 (q ρ) fun k=>okR (!k):=rfl
@[simp] theorem zU5:tYes ρ=okR true:=rfl
@[simp] theorem zQW:sNil r=okR (.nx r):=rfl
@[simp] theorem zD6:sSeq s t r=zA1 (s r) fun o=>match o with | .nx ρ'=>t ρ'|o=>okR o:=rfl
@[simp] theorem zL2:sIf q s t r=zA1 (q (full r)) fun k=>if k=true then s r else t r:=rfl
@[simp] theorem x_sDrop:zY3 a r=zA1 (a (full r)) fun _=>okR (.nx r):=rfl
@[simp] theorem x_sBreak:zUR r=okR (.bk r):=rfl
@[simp] theorem x_sCont:zY5 r=okR (.ct r):=rfl
@[simp] theorem x_sNever:zUQ r=none:=rfl
@[simp] theorem x_sRetN:zY1 r=okR (.rt .non):=rfl
@[simp] theorem zFM(i n:Nat)(vs:List Nat):sSet i n vs a r=zA1 (a (full r)) fun d=>if d.dep<=n then okR (.nx (r.set i (some (d,n))))else zA1 (a (frz (frzAt vs r))) fun d'=>okR (.nx ((frzAt vs r).set i (some (d',n)))):=rfl
@[simp] theorem zU8(L n:Nat)(vs:List Nat):sRet L n vs a r=zA1 (a (full r)) fun d=>if d.dep<=n/\d.dep<=L then okR (.rt d)else if n=L then zA1 (a (frz (frzAt vs r))) fun d'=>okR (.rt d')else none:=rfl
@[simp] theorem x_sRetV(L i:Nat):sRetV L i r=match r[i]? with|some (some (d,k))=>if k=L\/L=0\/(d.dep<=k/\d.dep<=L/\k<1000)then okR (.rt d)else none|_=>none:=rfl
@[simp] theorem x_full_nil:full []=[]:=rfl
@[simp] theorem x_full_cons(o:Option Sl)(r:Ro):full (o::r)=o.map qHi::full r:=rfl
@[simp] theorem x_frz_nil:frz []=[]:=rfl
@[simp] theorem x_frz_none(r:Ro):frz (none::r)=none::frz r:=rfl
@[simp] theorem x_frz_some(d:Dt)(n:Nat)(r:Ro):frz (some (d,n)::r)=(if n=0\/d.dep=0 then some d else none)::frz r:=rfl
@[simp] theorem x_frzAt_nil(r:Ro):frzAt [] r=r:=rfl
@[simp] theorem x_frzAt_cons(i:Nat)(v:List Nat)(r:Ro):frzAt (i::v) r=frzAt v (frz1 i r):=rfl
@[simp] theorem x_frz1(i:Nat)(r:Ro):frz1 i r=match r[i]? with|some (some (d,_))=>r.set i (some (d,0))|_=>r:=rfl
@[simp] theorem x_startO(n:Nat)(ds:List Dt):startO n ds=ds.map (fun d=>some (d,0))++qA3 (n-ds.length) none:=rfl
@[simp] theorem x_runF(P n:Nat)(ds:List Dt):runF P n s ds=if ds.length=P then zA1 (s (startO n ds)) endF else none:=rfl
@[simp] theorem x_end1(r:Ro):endF (.nx r)=okR .non:=rfl
@[simp] theorem x_end2(d:Dt):endF (.rt d)=okR d:=rfl
end
@[simp] theorem v_add(i j:Int):addD (.int i) (.int j)=some (.int (i+j)):=rfl
@[simp] theorem zUB(i j:Str):addD (.str i) (.str j)=@ite _ (i.length+j.length<=100000) (qA1 _) (some (.str (i++j))) none:=rfl
@[simp] theorem v_addL(i j:List Dt):addD (.lst i) (.lst j)=@ite _ (i.length+j.length<=100000) (qA1 _) (some (.lst (i++j))) none:=rfl
@[simp] theorem v_sub(i j:Int):subD (.int i) (.int j)=some (.int (i-j)):=rfl
@[simp] theorem zUA(i j:Int):mulD (.int i) (.int j)=@ite _ (((-18446744073709551616<i/\i<18446744073709551616)\/(-18446744073709551616<j/\j<18446744073709551616))\/i.natAbs.log2+j.natAbs.log2<=67108864) (qA1 _) (some (.int (i*j))) none:=rfl
@[simp] theorem v_div(i j:Int):divD (.int i) (.int j)=@ite _ (0<j/\j<1000000000000000000000000) (qA1 _) (some (.int (i/j))) none:=rfl
@[simp] theorem v_mod(i j:Int):modD (.int i) (.int j)=if 0<j then some (.int (i%j))else none:=rfl
@[simp] theorem v_pow(i j:Int):powD (.int i) (.int j)=@ite _ (0<=j/\j<=1000000/\i.natAbs<18446744073709551616) (qA1 _) (some (.int (i ^ j.toNat))) none:=rfl
@[simp] theorem v_neg(i:Int):negD (.int i)=some (.int (-i)):=rfl
@[simp] theorem v_cmp(p:Int->Int->Bool)(i j:Int):cmpD p (.int i) (.int j)=some (.bl (p i j)):=rfl
@[simp] theorem v_eq(x y:Dt):eqD x y=if x.dep<=40/\y.dep<=40 then some (.bl (Dt.eq x y))else none:=rfl
@[simp] theorem v_ne(x y:Dt):neD x y=if x.dep<=40/\y.dep<=40 then some (.bl (!Dt.eq x y))else none:=rfl
@[simp] theorem v_is(x:Dt):isD x .non=some (.bl (isNonD x)):=rfl
@[simp] theorem v_isnt(x:Dt):zYR x .non=some (.bl (!isNonD x)):=rfl
@[simp] theorem v_isN1:isNonD .non=true:=rfl
@[simp] theorem v_isN2(i:Int):isNonD (.int i)=false:=rfl
@[simp] theorem v_isN3(i:List Dt):isNonD (.lst i)=false:=rfl
@[simp] theorem v_isN4(i:List Dt):isNonD (.tup i)=false:=rfl
@[simp] theorem v_isN5(i:Str):isNonD (.str i)=false:=rfl
@[simp] theorem v_isN6(i:Bool):isNonD (.bl i)=false:=rfl
@[simp] theorem v_ixL(xs:List Dt)(i:Int):ixD (.lst xs) (.int i)=itA xs i:=rfl
@[simp] theorem v_ixT(xs:List Dt)(i:Int):ixD (.tup xs) (.int i)=itA xs i:=rfl
@[simp] theorem v_ixS(ns:List Int)(i:Int):ixD (.scr ns) (.int i)=(itA ns i).map .int:=rfl
@[simp] theorem v_lenL(xs:List Dt):lenD [.lst xs]=some (.int xs.length):=rfl
@[simp] theorem v_lenT(xs:List Dt):lenD [.tup xs]=some (.int xs.length):=rfl
@[simp] theorem v_lenS(ns:List Int):lenD [.scr ns]=some (.int ns.length):=rfl
@[simp] theorem v_listL(xs:List Dt):listD [.lst xs]=some (.lst xs):=rfl
@[simp] theorem v_listT(xs:List Dt):listD [.tup xs]=some (.lst xs):=rfl
@[simp] theorem v_listS(ns:List Int):listD [.scr ns]=some (.lst (ns.map .int)):=rfl
theorem zM2{j:Int}(h0:0<=j)(h1:j<=100000):rangeD [.int j]=some (.lst (nums 0 j.toNat)):=by
 show(@ite _ ((-4611686018427387904<=j/\j<4611686018427387904)/\j<=100000) (qA1 _) (some (Dt.lst (nums 0 j.toNat))) none)=_
 rw[if_pos ⟨⟨by lia,by lia⟩,h1⟩]
@[simp] theorem v_dn:Dt.non.dep=0:=rfl
@[simp] theorem v_db(b:Bool):(Dt.bl b).dep=0:=rfl
@[simp] theorem v_di(b:Int):(Dt.int b).dep=0:=rfl
@[simp] theorem v_ds(b:Str):(Dt.str b).dep=0:=rfl
@[simp] theorem v_dS(b:List Int):(Dt.scr b).dep=1000:=by rw[Dt.dep]
@[simp] theorem v_dl(xs:List Dt):(Dt.lst xs).dep=Dt.depL xs+1:=by rw[Dt.dep]
@[simp] theorem v_dt(xs:List Dt):(Dt.tup xs).dep=Dt.depL xs+1:=by rw[Dt.dep]
@[simp] theorem v_dnil:Dt.depL []=0:=by rw[Dt.depL]
@[simp] theorem zGA(x:Dt)(r:List Dt):Dt.depL (x::r)=max x.dep (Dt.depL r):=by rw[Dt.depL]
@[simp] theorem v_e1(i j:Int):Dt.eq (.int i) (.int j)=decide (i=j):=by rw[Dt.eq];by_cases h:i=j<;>simp[h]
@[simp] theorem v_e2(i j:Str):Dt.eq (.str i) (.str j)=decide (i=j):=by rw[Dt.eq];by_cases h:i=j<;>simp[h]
@[simp] theorem v_e3(i j:Bool):Dt.eq (.bl i) (.bl j)=decide (i=j):=by rw[Dt.eq];by_cases h:i=j<;>simp[h]
@[simp] theorem v_e4(i j:List Dt):Dt.eq (.lst i) (.lst j)=Dt.eqL i j:=by rw[Dt.eq]
@[simp] theorem v_e5(i j:List Dt):Dt.eq (.tup i) (.tup j)=Dt.eqL i j:=by rw[Dt.eq]
@[simp] theorem v_e6:Dt.eq .non .non=true:=by rw[Dt.eq]
@[simp] theorem zFC:∀(ns:List Int),Dt.depL (ns.map Dt.int)=0
 |[]=>by simp
 |n::r=>by rw[qAj,zGA,zFC r];rfl
@[simp] theorem zQM:∀(xs ys:List Dt),Dt.depL (xs++ys)=max (Dt.depL xs) (Dt.depL ys)
 |[],ys=>by simp
 |x::r,ys=>by rw[qD1,zGA,zGA,zQM r ys];exact(qH5 _ _ _).symm
@[simp] theorem zEM:∀(ns ms:List Int),Dt.eqL (ns.map Dt.int) (ms.map Dt.int)=decide (ns=ms)
 |[],[]=>by simp[Dt.eqL]
 |[],_::_=>by simp[Dt.eqL]
 |_::_,[]=>by simp[Dt.eqL]
 |n::r,m::q=>by rw[qAj,qAj,Dt.eqL,zEM r q,v_e1];simp
theorem zFZ{α:Type}{xs:List α}{i:Int}{j:Nat}{v:α}(e:i=(j:Int))(h:xs[j]?=some v):itA xs i=some v:=by
 have hj:j<xs.length:=(qA4.mp h).1;subst e;unfold itA ixA;rw[if_pos (by lia),if_pos (by lia)]
 simpa using h
theorem zKI{n:Nat}{i:Int}(h0:0<=i)(h1:i<n):ixA n i=some i.toNat:=by
 unfold ixA;rw[if_pos h0,if_pos h1]
theorem zKL{ns:List Int}{i:Int}(h0:0<=i)(h1:i<ns.length):itA (ns.map Dt.int) i=some (.int (ns.getD i.toNat 0)):=by
 refine zFZ (j:=i.toNat) (by lia) ?_;rw[qAe,qA0,qA5 (by lia)];rfl
theorem zTD{ns:List Int}{i:Int}(h0:0<=i)(h1:i<ns.length):itA ns i=some (ns.getD i.toNat 0):=by
 refine zFZ (j:=i.toNat) (by lia) ?_;rw[qA0,qA5 (by lia)];rfl
@[simp] theorem set_int(ns:List Int)(i:Nat)(x:Int):(ns.map Dt.int).set i (.int x)=(ns.set i x).map Dt.int:=by rw[qEh]
theorem zGY{ρ:Rh}{k:Nat}{tg:Tg}{c:TM}{e:EM}(f:Dt->Dt):∀(ds acc:List Dt),(∀d∈ds,∃bs,zAN tg d=some bs/\c (zAO (ρ++qA3 k none) bs)=okR true/\e (zAO (ρ++qA3 k none) bs)=okR (f d))->compGo ρ k tg c e ds acc=okR (acc++ds.map f)
 |[],acc,_=>by simp[compGo]
 |d::ds,acc,h=>by
  obtain⟨bs,h1,h2,h3⟩:=h d (by simp);rw[compGo,h1];simp only;rw[h2,zA0,if_pos rfl,h3,zA0,zGY f ds (acc++[f d]) fun d hd=>h d (by simp[hd])];simp
theorem zE3{tg:Tg}{b:SM}(Pv:Nat->Ro->Prop):∀(ds:List Dt)(i:Nat)(r:Ro),Pv i r->(∀(j:Nat)(d:Dt)(r:Ro),ds[j]?=some d->Pv (i+j) r->∃bs r',zAN tg d=some bs/\b (zAQ r bs)=okR (.nx r')/\Pv (i+j+1) r') ->
  ∃r',forGo tg b ds r=okR (.nx r')/\Pv (i+ds.length) r'
 |[],i,r,h,_=>⟨r,by simp[forGo],by simpa using h⟩
 |d::ds,i,r,h,hs=>by
  obtain⟨bs,r1,h1,h2,h3⟩:=hs 0 d r (by simp) (by simpa using h);obtain⟨r2,h4,h5⟩:=zE3 Pv ds (i+1) r1 (by simpa using h3) fun j e r he hp=>by
   have:=hs (j+1) e r (by simpa using he) (by rw[show i+(j+1)=i+1+j by lia];exact hp)
   rw[show i+1+j+1=i+(j+1)+1 by lia];exact this
  refine⟨r2,?_,by rw[qB1,show i+(ds.length+1)=i+1+ds.length by lia];exact h5⟩;rw[forGo,h1];simp only;rw[h2,zA0];exact h4
theorem zHA{c:TM}{b:SM}(Pv:Ro->Prop)(μ:Ro->Nat)(Rv:Ro->Prop)(hc:∀r,Pv r->(c (full r)=okR false/\Rv r)\/(c (full r)=okR true/\∃r',b r=okR (.nx r')/\Pv r'/\μ r'<μ r)) :
  ∀(m:Nat)(r:Ro),Pv r->μ r<m->∃r',whGo c b m r=okR (.nx r')/\Rv r'
 |0,r,_,h=>by lia
 |m+1,r,h,hm=>by
  rw[whGo]
  rcases hc r h with⟨h1,h2⟩|⟨h1,r1,h2,h3,h4⟩
  ·rw[h1,zA0,if_neg (by decide)];exact⟨r,rfl,h2⟩
  ·rw[h1,zA0,if_pos rfl,h2,zA0];exact zHA Pv μ Rv hc m r1 h3 (by lia)
theorem zL7{c:TM}{b:SM}(Pv:Ro->Prop)(μ:Ro->Nat)(Rv:Ro->Prop){r:Ro}(h0:Pv r)(hm:μ r<1000000)(hc:∀r,Pv r->(c (full r)=okR false/\Rv r)\/(c (full r)=okR true/\∃r',b r=okR (.nx r')/\Pv r'/\μ r'<μ r)):∃r',sWhile c b r=okR (.nx r')/\Rv r':=
 zHA Pv μ Rv hc WN r h0 (by rw[zZ3];exact hm)
section
variable(ρ:Rh)(r:Ro)(a:EM)(am:AM)(s:SM)
@[simp] theorem x_noE_ok{α:Type}(x:α):noE (okR x)=okR x:=rfl
@[simp] theorem x_noE_none{α:Type}:noE (none:R α)=none:=rfl
@[simp] theorem x_noE_err{α:Type}(e:Xn):noE (some (.error e):R α)=none:=rfl
@[simp] theorem zJU(f:FM):eCallN f am ρ=zA1 (am ρ) fun ds=>noE (f ds):=rfl
@[simp] theorem x_eMkX(c f:Str):eMkX c f am ρ=zA1 (am ρ) fun ds=>match ds with|[d]=>okR (.exc c f d)|_=>none:=rfl
@[simp] theorem x_sRaise(c f:Str):zR4 c f am r=zA1 (am (full r)) fun ds=>match ds with|[d]=>some (.error ⟨c,f,d⟩)|_=>none:=rfl
@[simp] theorem x_eAtX(hs:List Str)(f:Str):eAtX hs f a ρ=zA1 (a ρ) fun d=>match d with | .exc c g x=>if c∈hs/\g=f then okR x else none|_=>none:=rfl
@[simp] theorem x_eIsX(ys ns:List Str):eIsX ys ns a ρ=zA1 (a ρ) fun d=>match d with | .exc c _ _=>if c∈ys then okR (.bl true)else if c∈ns then okR (.bl false)else none|_=>none:=rfl
@[simp] theorem x_gone_nx(i:Nat):zWP i (.nx r)=.nx (r.set i none):=rfl
@[simp] theorem x_gone_rt(i:Nat)(d:Dt):zWP i (.rt d)=.rt d:=rfl
end
example (d:Dt):True:=trivial
end Mi
namespace L2
open PySem PySem.Spec PyProof.Rows
section
variable{X:Cx}
noncomputable def zV2:R2:=fun x y H Q=>match x,y with
 |.int i,.int j=>Q (.int (qJ1 i j)) H
 |_,_=>False
theorem zXS:OpR X (binaryOp .BitXor) zV2:=by
 intro pins s σ H x y v u Q I rx ry h;cases x<;>cases y<;>first
  |exact zVR pins s σ H _ _ v u Q I rx ry ⟨_,_,rfl,rfl,h⟩
  |exact qAf h
def zV7:R2:=fun x y H Q=>match x,y with
 |.ref l,.int k=>∃xs,H l=some (.lst xs)/\(-(2 ^ 63)<=k/\k<2 ^ 63)/\xs.length*k.toNat<=sizeLine/\∀p,H p=none->Q (.ref p) (upd H p (.lst (qA3 k.toNat xs).flatten))
 |_,_=>False
theorem zP8:OpR X (binaryOp .Mult) zV7:=by
 intro pins s σ H x y v u Q I rx ry h;cases x<;>cases y<;>first
  |(obtain⟨xs,h1,h2,h3,h4⟩:=h;exact zVT pins s σ H _ _ v u Q I rx ry ⟨_,_,xs,rfl,rfl,h1,h2.1,h2.2,h3,h4⟩)
  |exact qAf h
end
section
variable{X:Cx}{K:qA2}
end
end L2
namespace Mi
open PySem
noncomputable section
noncomputable def xorD:Dt->Dt->Option Dt
 |.int i,.int j=>some (.int (qJ1 i j))
 |_,_=>none
noncomputable def repD:Dt->Dt->Option Dt
 |.lst xs,.int k=>@ite _ ((-4611686018427387904<=k/\k<4611686018427387904)/\xs.length*k.toNat<=100000) (qA1 _) (some (.lst (qA3 k.toNat xs).flatten)) none
 |_,_=>none
def tL(a:EM):TM:=fun ρ=>zA1 (a ρ) fun x=>match x with
 |.bl k=>okR k
 |.int i=>okR (i != 0)
 |.non=>okR false
 |.lst xs=>okR (!xs.isEmpty)
 |.tup xs=>okR (!xs.isEmpty)
 |_=>none
def iRv(e:AM):IM:=fun ρ=>zA1 (e ρ) fun vs=>match vs with
 |[.lst xs]=>okR xs.reverse
 |_=>none
noncomputable def intsD:List Dt->Option (List Int)
 |[]=>some []
 |.int i::r=>(intsD r).map (i::·)
 |_::_=>none
def eMl(f:List Dt->List Dt->Option Dt)(a:EM)(am:AM):EM:=fun ρ=>zA1 (a ρ) fun x=>match x with
 |.lst xs=>zA1 (am ρ) fun ds=>optR (f xs ds)
 |_=>none
def sExt(i n:Nat)(e:EM):SM:=fun ρ=>match ρ[i]? with
 |some (some (.lst ds,k+1))=>zA1 (e (full ρ)) fun d=>match d with
  |.lst es=>@ite _ (ds.length+es.length<=100000/\Dt.depL es<=n/\Dt.depL es<=k) (qA1 _) (okR (.nx (ρ.set i (some (.lst (ds++es),k+1))))) none
  |_=>none
 |_=>none
noncomputable def low(i:Nat)(ρ:Ro):Ro:=match ρ[i]? with
 |some (some (.lst ds,_+1))=>ρ.set i (some (.lst ds,1))
 |_=>ρ
def zUS(i:Nat)(vs:List Nat)(e:EM):SM:=fun ρ=>match(frzAt vs (low i ρ))[i]? with
 |some (some (.lst ds,1))=>zA1 (e (frz (frzAt vs (low i ρ)))) fun d=>@ite _ (ds.length<=100000) (qA1 _) (okR (.nx ((frzAt vs (low i ρ)).set i (some (.lst (ds++[d]),1))))) none
 |_=>none
end
end Mi
namespace L3
open PySem PySem.Spec
open L2 hiding Rep RepL
open Mi (Dt Xn R okR zA1 optR zA0 zA4 zA7 zA5 zA6 Rh Sl Ro EM TM AM FM IM SM Tg Out zAN zAO zAQ full frz frz1 frzAt)
section
variable[Kc]{mg:Str->Option Value}{E:XK}{L n k l:Nat}{te ta tb:TE}{e ea eb ma:EM}{t:TA}{m:AM}
theorem zUU:ROp zV2 Mi.xorD n:=by
 intro mg E G H d e x y Q s h1 h2 p;cases d with
 |int i=>
  cases e with
  |int j=>cases(show x=.int i from h1);cases(show y=.int j from h2);exact zMP s p rfl rfl rfl
  |_=>exact p.elim
 |_=>exact p.elim
theorem zK3{G:Hp}{ds es:List Dt}{xs ys:List V}(ra:RepL G ds xs)(rb:RepL G es ys):RepL G (ds++es) (xs++ys):=by
 refine zCN (by simp[ra.length,rb.length]) fun j d' x' e1 e2=>?_
 by_cases hj:j<ds.length
 ·rw[qA8 hj]at e1;rw[qA8 (by rw[ra.length];exact hj)]at e2;exact zBF ra e1 e2
 ·rw[qAc (by lia)]at e1;rw[qAc (by rw[ra.length];lia),ra.length]at e2;exact zBF rb e1 e2
theorem zK2{G:Hp}{ds:List Dt}{xs:List V}(r:RepL G ds xs):∀k:Nat,RepL G (qA3 k ds).flatten (qA3 k xs).flatten
 |0=>rfl
 |k+1=>by rw[qAz,qAz,qBj,qBj];exact zK3 r (zK2 r k)
theorem zJZ:ROp zV7 Mi.repD 1:=by
 intro mg E G H d e x y Q s h1 h2 p;cases d with
 |lst ds=>
  cases e with
  |int j=>
   obtain⟨a,xs,rfl,ha,ra⟩:=h1
   cases(show y=.int j from h2)
   rw[Mi.repD]at p
   split at p
   ·rename_i hz
    exact⟨xs,s _ _ ha,⟨by lia,by lia⟩,by rw[ra.length];exact big' hz.2,fun q hq=>PostE.lst p (Ext.refl s) (zK2 ra _) hq⟩
   ·exact p.elim
  |_=>exact p.elim
 |_=>exact p.elim
theorem zPH{G:Hp}{ds:List Dt}{xs:List V}(r:RepL G ds xs):RepL G ds.reverse xs.reverse:=by
 induction ds generalizing xs with
 |nil=>cases r;rfl
 |cons d q ih=>
  obtain⟨x,t,rfl,a,b⟩:=r;rw[qFh,qFh];exact zK3 (ih b) ⟨x,[],rfl,a,rfl⟩
theorem zI1{G:Hp}:∀{ds:List Dt}{ns:List Int}{xs:List V},Mi.intsD ds=some ns->RepL G ds xs->xs=ns.map V.int
 |[],ns,xs,h,r=>by cases h;exact r
 |d::q,ns,xs,h,r=>by
  cases d with
  |int i=>
   rw[Mi.intsD]at h;cases e:Mi.intsD q with
   |none=>rw[e]at h;cases h
   |some ms=>
    rw[e]at h;cases h;obtain⟨x,t,rfl,a,b⟩:=r
    cases(show x=.int i from a)
    rw[zI1 e b];rfl
  |_=>cases h
end
section
variable[Kc]{G0 H0 S0:Hp}{σ:St}{ρ:Ro}{G H:Hp}{As:Nat->Addr->Prop}
end
section
variable[Kc]{mg:Str->Option Value}{E:XK}{L n k l:Nat}{te ta tb:TE}{e ea eb ma:EM}{t:TA}{m:AM}
end
structure XNo(K:qA2)(mg:Str->Option Value)(c:Str)(C:Addr):Prop extends XCls K mg c C where
 kp:qB4 K (.ref C)=true
 ini:qB2 K (.ref C) "__init__" = some (some (.builtin "ValueError.__init__"))
theorem zVN{X:Cx}{c:Str}{C:Addr}{e:Expr}{es:List Expr}{t:TA}{p pos:Pos}(h:XNo X.K X.mg c C)(hg:Gl X c)(ha:PA X (e::es) t)(hdb:(c==("__debug__":Str))=false:=by decide)
  (he:starEach (e::es) X.env=(false,eval e X.env)::starEach es X.env:=by rfl) (hpl:(backTo pos (starEach es X.env)).any (·.1)=false:=by rfl):PE X (.Call (.Name c p) (e::es) [] pos) (zIT C t):=
 zN0 h.is.xc h.ini hg h.gm h.kp ha hdb he hpl
section
variable[Kc]{mg:Str->Option Value}{E:XK}{L n k l:Nat}{te ta tb:TE}{e ea eb ma:EM}{t:TA}{m:AM}
theorem zOB{c:Str}{C:Addr}(h:XNo Kc.K mg c C)(A:DA mg E t m 0):DS mg E L (zQY Kc.K E (zIT C t)) (Mi.sRaise0 c m):=by
 intro G0 H0 S0 σ ρ G H As D a p;obtain⟨J,x,s,w⟩:=a.full;refine A.step (errS.from x) x.in' w p fun ds vs G1 H1 S T _ fr o p1=>?_
 split at p1
 ·rename_i hz
  refine⟨by rw[o.len];exact big' (by lia),fun e he=>⟨e,C,none,rfl,zAE,h.is.xc,?_⟩⟩;have hu:upd (upd H1 e (xn e (.ref C) none)) e (xo e (.ref C) none)=upd H1 e (xo e (.ref C) none):=by
   funext z
   by_cases h1:z=e
   ·rw[h1,zAE,zAE]
   ·rw[zAF h1,zAF h1,zAF h1]
  rw[hu];exact p1 (.ref e) none _ _ ((x.trans fr.ext).trans (Ext.new fr.ext.in' he _)) ⟨e,C,rfl,zAE,h.cl,.inl ⟨rfl,rfl⟩⟩
 ·exact p1.elim
def KTup(K:qA2)(a:Addr)(ns:List Int):Prop:=KTP K a (ns.map V.int)
theorem zTV{a:Addr}{ns:List Int}(h:KTup Kc.K a ns):DE mg E (tC (.ref a)) (Mi.eC (.scr ns)) 0:=by
 intro G H σ ρ Q s w p;exact PostE.kept p (Ext.refl s) ⟨a,rfl,.inr h⟩
end
theorem zT5{K:qA2}{a:Addr}{o:Obj}{its:Array Value}{n:Nat}{ns:List Int}(h:K.lookup a=some o)(h1:o.cls=.type "tuple")(h2:o.data=.seq its n)(h3:its.size<=sizeLine)(h4:Vals (ns.map V.int) its.toList)(hne:ns≠[]:=by decide):KTup K a ns:=
 ⟨fun z=>hne (qEw.mp z),o,its,n,h,h1,h2,h3,h4⟩
end L3
namespace L2
open PySem PySem.Spec PyProof.Rows
section
variable{X:Cx}
noncomputable def zUN(z:Str):List V:=z.cps.toList.map fun c=>.str ⟨#[c]⟩
def rListX(K:qA2):List V->Hp->VK->Prop:=fun vs H Q=>match vs with
 |[.str z]=>z.length<=sizeLine/\∀l,H l=none->Q (.ref l) (upd H l (.lst (zUN z)))
 |_=>zFR K vs H Q
def zV4:List V->Hp->VK->Prop:=fun vs H Q=>match vs with
 |[.ref a]=>∃ns:List Int,H a=some (.lst (ns.map V.int))/\ns.length<=100000/\(∀n∈ns,-1000000<=n/\n<=1000000)/\Q (.int ns.sum) H
 |_=>False
theorem zR3:∀(ns:List Int),(∀n∈ns,-1000000<=n/\n<=1000000)->-(ns.length*1000000:Int)<=ns.sum/\ns.sum<=(ns.length*1000000:Int)
 |[],_=>by simp
 |n::r,h=>by
  have h1:=zR3 r fun m hm=>h m (by simp[hm])
  have h2:=h n (by simp);simp only[qE0,qB1]
  lia
theorem zYP(hc:X.calm=true):zBU X (.builtin "sum") zV4:=by
 intro pins s σ H vs us Q I r h;cases vs with
 |nil=>exact qAf h
 |cons hd1 tl1=>
  cases hd1 with
  |ref a=>
   cases tl1 with
   |nil=>
    obtain⟨ns,ha,hz,hb,q⟩:=h;obtain⟨u,rfl,rx⟩:=zFH r;cases rx;obtain⟨its,rv,hl⟩:=zAR I.hok ha;have hi:qKo its ns:=zF5 rv;obtain⟨xs,e⟩:=hi.allInts.items;have en:numsOf its=ns:=hi.numsOf;have en2:numsOf (intItems xs).toList=ns:=by rw[<- e];exact en
    rw[nums_intItems]at en2;have hl':s.heap.IsList a (intItems xs):=by rw[<- e];exact hl
    have hx:∀j,numAt xs j=ns.getD j 0:=fun j=>by rw[numAt_eq,en2]
    have hps:∀j,preSum (numAt xs) j=(ns.take j).sum:=fun j=>by
     rw[show numAt xs=fun i=>ns.getD i 0 from funext hx];exact qGz ns j
    have hxl:xs.size=ns.length:=by rw[<- en2];simp
    refine sum_intList (I.ok.hd hc) hl' (fun j hj=>?_) fun h' tk t' hk=>?_
    ·have hj':j<ns.length:=by lia
     rw[hx,hps];have b1:=hb (ns.getD j 0) (by rw[qA0,qA5 hj'];simp);have b2:=zR3 (ns.take (j+1)) fun m hm=>hb m (List.mem_of_mem_take hm)
     have b3:(ns.take (j+1)).length<=100000:=by rw[qE5];lia
     constructor<;>constructor<;>lia
    ·rw[hps,hxl,qCm];exact⟨.int _,H,I.kept (t':=tk) hk,⟨_,rfl⟩,q⟩
   |cons _ _=>exact qAf h
  |_=>exact qAf h
end
section
variable{X:Cx}{K:qA2}
end
section
variable{X:Cx}{x:Str}{j k:Nat}{ps:List Str}{sp:Sp}{e:Expr}{es:List Expr}{t:TA}{p pos:Pos}
end
section
variable{X:Cx}{m:Str}{k:Nat}{o e:Expr}{es:List Expr}{ta:TE}{t:TA}{apos pos:Pos}{tb:List (Addr×Sp)}
end
section
variable{prog:qHr}{w:World}{A:qHv}{E:Value->qHp->Prop}{s:qHp}
end
section
variable{X:Cx}{pos:Pos}
end
section
variable{prog:qHr}{w:World}{A:qHv}{R:qKt->qHp->Prop}{I:Addr}{fp wr:List Addr}{G:Array qJ0->Array qJ0->Prop}{n:Nat}{St:Nat->qHp->Prop}{led:Bool}{z:Str}
end
section
variable{prog:qHr}{w:World}{A:qHv}{E:Value->qHp->Prop}{s:qHp}
end
section
variable{prog:qHr}{w:World}{A:qHv}{R:qKt->qHp->Prop}{I:Addr}{fp wr:List Addr}{G:Array qJ0->Array qJ0->Prop}{n:Nat}{St:Nat->qHp->Prop}{led:Bool}{items:Array Value}{ns:List Int}
end
section
variable{prog:qHr}{w:World}{A:qHv}{R:qKt->qHp->Prop}{I:Addr}{fp wr:List Addr}{G:Array qJ0->Array qJ0->Prop}{n:Nat}{St:Nat->qHp->Prop}{led:Bool}{items:Array Value}{zs:List Str}
end
section
variable{X:Cx}{m:Str}{k:Nat}{E:XK}{o:Expr}{ta:TE}{apos pos:Pos}{tb:List (Addr×Sp)}
end
end L2
namespace L3
open PySem PySem.Spec
open L2 hiding Rep RepL
open Mi (Dt Xn R okR zA1 optR zA0 zA4 zA7 zA5 zA6 Rh Sl Ro EM TM AM FM IM SM OM Tg Out zAN zAO zAQ full frz frz1 frzAt)
section
variable{X:Cx}{c:Str}{fl:List Str}{C:Addr}{k:Nat}{E:XK}{e:Expr}{es:List Expr}{t:TA}{p pos:Pos}
end
section
variable[Kc]{mg:Str->Option Value}{E:XK}{L n k l:Nat}{te ta tb:TE}{e ea eb ma:EM}{t:TA}{m:AM}
end
section
variable[Kc]{mg:Str->Option Value}{E:XK}{L n k l:Nat}
end
abbrev wk(kvs:List (Sum Int Str×Mi.Sw)):List (Key×V):=kvs.map fun p=>(p.1,swV p.2)
section
variable[Kc]{mg:Str->Option Value}{E:XK}{L n k l:Nat}{te ta tb tx td:TE}{e ea eb ex ed ma:EM}{t:TA}{m:AM}
end
section
variable[Kc]{mg:Str->Option Value}{E:XK}{L n k l:Nat}{te ta tb:TE}{e ea eb ma:EM}{t:TA}{m:AM}
end
section
variable[Kc]{mg:Str->Option Value}{E:XK}{L n k l:Nat}
end
section
variable[Kc]{mg:Str->Option Value}{E:XK}{L n k l:Nat}{te:TE}{e:EM}
section
variable{G0 H0 S0:Hp}{σ:St}{ρ:Ro}{G H:Hp}{As:Nat->Addr->Prop}
end
end
section
variable[Kc]{mg:Str->Option Value}{E:XK}{L n k l:Nat}{te ta tb tx td:TE}{e ea eb ex ed ma:EM}{t:TA}{m:AM}
end
section
variable[Kc]{mg:Str->Option Value}{E:XK}{L n k l:Nat}
end
section
variable[Kc]{mg:Str->Option Value}{E:XK}{L n k l:Nat}{te ta tb:TE}{e ea eb ma:EM}{t:TA}{m:AM}
end
end L3
namespace L3
open PySem PySem.Spec
open PyProof.Rows (risingS sortedS ltCps_eq)
open L2 hiding Rep RepL
open Mi (Dt Xn R okR zA1 optR zA0 zA4 zA7 zA5 zA6 Rh Sl Ro EM TM AM FM IM SM OM Tg Out zAN zAO zAQ full frz frz1 frzAt)
section
variable[Kc]{mg:Str->Option Value}{E:XK}{L n k l:Nat}{te ta tb:TE}{e ea eb ma:EM}{t:TA}{m:AM}
end
section
variable[Kc]{mg:Str->Option Value}{E:XK}{L n k l:Nat}{t:TA}{m:AM}
end
section
variable[Kc]{mg:Str->Option Value}{E:XK}{L n k l:Nat}{te ta td:TE}{e ea ed:EM}
end
end L3
namespace L3
open PySem PySem.Spec
open L2 hiding Rep RepL
open Mi (Dt Xn R okR zA1 optR zA0 zA4 zA7 zA5 zA6 Rh Sl Ro EM TM AM FM IM SM Tg Out zAN zAO zAQ full frz frz1 frzAt)
section
variable[Kc]{G0 H0 S0:Hp}{σ:St}{ρ:Ro}{G H:Hp}{As:Nat->Addr->Prop}
end
section
variable[Kc]{mg:Str->Option Value}{E:XK}{L n k l:Nat}{te ta tb:TE}{e ea eb ma:EM}{t:TA}{m:AM}
end
section
variable[Kc]{mg:Str->Option Value}{E:XK}{L n n1:Nat}{t1 t2:TE}{e1 e2:EM}
end
section
variable[Kc]{mg:Str->Option Value}{E:XK}{L n:Nat}{te:TE}{e:EM}
end
end L3
namespace Mi
open PySem
noncomputable section
def listXD(ds:List Dt):Option Dt:=match ds with
 |[.str z]=>@ite _ (z.length<=100000) (qA1 _) (some (.lst (signsD z))) none
 |ds=>listD ds
def sumD:List Dt->Option Dt
 |[.lst ds]=>match intsD ds with
  |some ns=>@ite _ (ns.length<=100000/\∀n∈ns,-1000000<=n/\n<=1000000) (qA1 _) (some (.int ns.sum)) none
  |none=>none
 |_=>none
noncomputable def zY0(ns:List Int):List Int:=ns.mergeSort fun a b=>decide (a<=b)
end
end Mi
namespace L3
open PySem PySem.Spec
open L2 hiding Rep RepL
open Mi (Dt Xn R okR zA1 optR zA0 zA4 zA7 zA5 zA6 Rh Sl Ro EM TM AM FM IM SM Tg Out zAN zAO zAQ full frz frz1 frzAt)
section
variable[Kc]{mg:Str->Option Value}{E:XK}{L n k l:Nat}{te ta tb:TE}{e ea eb ma:EM}{t:TA}{m:AM}
theorem zKC{r:List V->Hp->VK->Prop}{f:List Dt->Option Dt}(h0:∀ds,(∀es,ds≠[.lst es])->f ds=none)(h1:∀es,Mi.intsD es=none->f [.lst es]=none)
  (h2:∀(mg:Str->Option Value)(E:XK)(G H:Hp)(a:Addr)(es:List Dt)(ns:List Int)(Q:VK),Same G H->Mi.intsD es=some ns->H a=some (.lst (ns.map V.int))->PostE mg E G H n (optR (f [.lst es])) Q->r [.ref a] H Q):CBi r f n:=by
 intro mg E G H ds vs Q s h p
 by_cases hd:∃es,ds=[.lst es]
 ·obtain⟨es,rfl⟩:=hd;obtain⟨x,rfl,a,xs,rfl,ha,ra⟩:=zDW h;cases ei:Mi.intsD es with
  |none=>rw[h1 es ei]at p;exact p.elim
  |some ns=>exact h2 mg E G H a es ns Q s ei (by rw[s _ _ ha,zI1 ei ra]) p
 ·rw[h0 ds fun es z=>hd ⟨es,z⟩]at p;exact p.elim
theorem zN6{f:List Dt->Option Dt}(h1:f []=none)(h2:∀d,(∀es,d≠.lst es)->f [d]=none)(h3:∀a b r,f (a::b::r)=none):∀ds,(∀es,ds≠[.lst es])->f ds=none:=by
 intro ds h
 match ds,h with
 |[],_=>exact h1
 |[d],h=>exact h2 d fun es z=>h es (by rw[z])
 |a::b::r,_=>exact h3 a b r
theorem zXD:CBi zV4 Mi.sumD n:=by
 refine zKC (zN6 rfl (fun d h=>by cases d<;>first|rfl|exact absurd rfl (h _)) fun a b r=>by cases a<;>rfl) (fun es h=>by rw[Mi.sumD,h]) fun mg E G H a es ns Q s ei ha p=>?_
 rw[Mi.sumD,ei]at p;dsimp only at p
 split at p
 ·rename_i hz
  exact⟨ns,ha,hz.1,hz.2,PostE.val p (Ext.refl s) rfl rfl⟩
 ·exact p.elim
end
end L3
namespace Mi
open PySem
noncomputable section
noncomputable def revD:Dt->Dt->Option Dt
 |.str z,.int j=>@ite _ (j = -1/\z.length<=100000) (qA1 _) (some (.str ⟨z.cps.toList.reverse.toArray⟩)) none
 |_,_=>none
end
noncomputable section
noncomputable def svD:Dt->Option Sv
 |.int i=>some (.i i)
 |.str x=>some (.s x)
 |_=>none
def svsD:List Dt->Option (List Sv)
 |[]=>some []
 |d::r=>match svD d,svsD r with
  |some v,some vs=>some (v::vs)
  |_,_=>none
noncomputable def dSv:Sv->Dt
 |.i n=>.int n
 |.s x=>.str x
def eNew(c:Str)(fl:List Str)(am:AM):EM:=fun ρ=>zA1 (am ρ) fun ds=>match svsD ds with
 |some vs=>if vs.length=fl.length then okR (.ins c (fl.zip vs))else none
 |none=>none
def zWT(c:Str):EM:=fun _=>okR (.ins c [])
def eFld(hs:List Str)(f:Str)(e:EM):EM:=fun ρ=>zA1 (e ρ) fun d=>match d with
 |.ins c fs=>if c∈hs then(match fs.lookup f with|some v=>okR (dSv v)|none=>none)else none
 |_=>none
def zYV(tb:List (Str×FM))(m:Str)(e:EM)(am:AM):EM:=fun ρ=>zA1 (e ρ) fun d=>match d with
 |.ins c fs=>match tb.lookup c with
  |some g=>match fs.lookup m with
   |none=>zA1 (am ρ) fun ds=>g (d::ds)
   |some _=>none
  |none=>none
 |_=>none
def eIsO(ys ns:List Str)(e:EM):EM:=fun ρ=>zA1 (e ρ) fun d=>match d with
 |.ins c _=>if c∈ys then okR (.bl true)else if c∈ns then okR (.bl false)else none
 |_=>none
end
noncomputable section
def zYK(c:Nat)(l:List Nat):Option Nat:=(posC c l.reverse).map fun i=>l.length-1-i
def zV0(x:Dt)(ys:List Dt):Option Dt:=match x,ys with
 |.str z,[.str y]=>match y.cps.toList with
  |[c]=>some (.int (match zYK c z.cps.toList with|some i=>(i:Int)|none=>-1))
  |_=>none
 |_,_=>none
end
noncomputable section
def sadD(x y:Dt):Option Dt:=match x,y with
 |.tup as,.tup bs=>match intsD as,intsD bs with
  |some ns,some ms=>@ite _ (ns≠[]/\ms≠[]/\ns.length+ms.length<64) (qA1 _) (some (.lst ((zY0 (ns++ms)).map .int))) none
  |_,_=>none
 |_,_=>none
end
end Mi
namespace L2
open PySem PySem.Spec PyProof.Rows
section
variable{X:Cx}{x:Str}{C:Addr}{p pos:Pos}
end
def spIns(K:qA2)(fl:List Str):Sp:=fun vs H Q _=>∃(x C dx:Addr)(ys:List V),vs=.ref x::ys/\ys.length=fl.length/\H x=some (.ins C dx [])/\Cls K C/\(∀f∈fl,zXJ K C f)/\Q .non (upd H x (.ins C dx (fl.zip ys)))
section
variable{X:Cx}{m:Str}{k:Nat}{E:XK}{o e:Expr}{es:List Expr}{ta:TE}{t:TA}{apos pos:Pos}{tb:List (Addr×Sp)}
end
section
variable{prog:qHr}{w:World}{A:qHv}{E:Value->qHp->Prop}{s:qHp}
theorem zG1{α:Type}:∀(l:List α){i:Nat}(h:i<l.length),(l[i]::l.eraseIdx i).Perm l
 |a::r,0,h=>by simp
 |a::r,i+1,h=>by
  have:=zG1 r (i:=i) (by simpa using h)
  simp only[qEc,qBd];exact(qGj _ _ _).trans (this.cons a)
theorem zMY{α:Type}(next:Nat->Nat):∀(fuel k:Nat)(left:List α)(out:Array α),left.length=fuel->(qL5 next fuel k left out).toList.Perm (out.toList++left)
 |0,k,left,out,hl=>by
  have e:left=[]:=qE1.mp hl;subst e;simp[qL5]
 |fuel+1,k,left,out,hl=>by
  unfold qL5;have hi:next k%left.length<left.length:=Nat.mod_lt _ (by lia)
  have hget:left[next k%left.length]?=some (left[next k%left.length]'hi):=qA5 hi;rw[hget];dsimp only;refine(zMY next fuel (k+1) _ _ (by rw[qBt hi];lia)).trans ?_;rw[Array.toList_push,qAu];exact qCg _ (zG1 left hi)
theorem zEV(next:Nat->Nat){α:Type}(xs:Array α):(pickOrder next xs).toList.Perm xs.toList:=by
 have:=zMY next xs.size 0 xs.toList #[] (by simp)
 unfold pickOrder
 simpa using this
end
structure Walk1(prog:qHr)(w:World)(A:qHv)(I:Addr)(fp:List Addr)(n:Nat)(P:Nat->Value->Prop)(St:Nat->Heap->Prop):Prop where
 me:I∈fp
 frame:∀i h h',St i h->(∀b∈fp,∀o,h.get? b=some o->h'.get? b=some o)->St i h'
 item:∀i (s:qHp) (Q:Option Value->qHp->Prop) (E:Value->qHp->Prop),i<n->St i s.heap ->
  (∀v h' tk,P i v->St (i+1) h'->(∀b o,b≠I->s.heap.get? b=some o->h'.get? b=some o)->Q (some v) { s with heap:=h',toks:=tk })->wpAny (model prog w) A (pyNext (.ref I)) Q E s
 done:∀(s:qHp)(Q:Option Value->qHp->Prop)(E:Value->qHp->Prop),St n s.heap ->
  (∀h' tk,(∀b o,b≠I->s.heap.get? b=some o->h'.get? b=some o)->(∃u,h'.get? I=some u)->Q none { s with heap:=h',toks:=tk })->wpAny (model prog w) A (pyNext (.ref I)) Q E s
 self:∀i (s:qHp) (Q:Value->qHp->Prop) (E:Value->qHp->Prop),St i s.heap->Q (.ref I) s->wpAny (model prog w) A (pyIter (.ref I)) Q E s
theorem zL3{prog:qHr}{w:World}{A:qHv}{I:Addr}{fp:List Addr}{n:Nat}{P:Nat->Value->Prop}{St:Nat->Heap->Prop}{R:qKt->qHp->Prop}(W:Walk1 prog w A.in1 I fp n P St)(hn:n<=sizeLine)(S:Addr)(hSf:S∉fp)(res:Value) :
  ∀(k i:Nat)(s:qHp)(acc:Array Value)(c:Nat),n-i=k->i<=n->St i s.heap->s.heap.get? S=some { cls:=.type "list",dict:=none,data:=.seq acc c,slots:=#[] }->ItemsOf P acc i ->
  (∀h' tk acc' c',(∀b o,b≠S->b≠I->s.heap.get? b=some o->h'.get? b=some o)->(∃u,h'.get? I=some u)->h'.get? S=some { cls:=.type "list",dict:=none,data:=.seq acc' c',slots:=#[] }->ItemsOf P acc' n->R (.ok (.ret res)) { s with heap:=h',toks:=tk }) ->
  qJ4 (model prog w) A (.builtin "list.extend.loop" ⟨[.ref S,.ref I,res],[]⟩) R s:=by
 have hSI:S≠I:=fun h=>hSf (h▸W.me)
 intro k
 induction k with
 |zero=>
  intro i s acc c hk hi hst hS hacc hR;have hin:i=n:=by lia
  subst hin;refine qK8 qDg ?_;rw[qJ6 qBk _];show wpAny _ A.in1 (pyNext (.ref I) >>= _) _ _ s;refine wpAny_bind (W.done s _ _ hst fun h' tk hk hu=>?_);exact wpAny_pure (hR h' tk acc c (fun b o _ hb e=>hk b o hb e) hu (hk S _ hSI hS) hacc)
 |succ k ih=>
  intro i s acc c hk hi hst hS hacc hR;have hlt:i<n:=by lia
  refine qK8 qDg ?_;rw[qJ6 qBk _];show wpAny _ A.in1 (pyNext (.ref I) >>= _) _ _ s;refine wpAny_bind (W.item i s _ _ hlt hst fun v h1 t1 hP hst' hk1=>?_);have hS':=hk1 S _ hSI hS;show wpAny _ A.in1 (updateSeq S (·.push v) >>= _) _ _ _;refine wpAny_bind ?_;refine wpAny_updateSeq hS' rfl (wpAny_pure ⟨qJy qBk _,ih (i+1) _ (acc.push v) _ (by lia) hlt (W.frame _ h1 _ hst' fun b hb o e=>?_) (qI0 _ hS' rfl) (hacc.push hP) fun h'' tk acc' c' hk2 hu hS'' hacc'=>?_⟩)
   (by rw[hacc.1];lia) (by show(acc.push v).size<=sizeLine+1;rw[Array.size_push,hacc.1];lia)
  ·exact(qHu _ _ (fun h:S=b=>hSf (by rw[h];exact hb))).trans e
  ·refine hR h'' tk acc' c' (fun b o hb hb2 e=>hk2 b o hb hb2 ?_) hu hS'' hacc';exact(qHu _ _ (qC8 hb)).trans (hk1 b o hb2 e)
structure Once(prog:qHr)(w:World)(T:String)(r:Addr)(fp:List Addr)(n:Nat)(P:Nat->Value->Prop)(St:Nat->Heap->Prop):Prop where
 ty:∀(s:qHp) i,St i s.heap->s.TypeIs (.ref r) T
 nl:(qJ9 T==qJ9 "list")=false
 nt:(qJ9 T==qJ9 "tuple")=false
 me:r∈fp
 hint:∀(A:qHv)(E:Value->qHp->Prop)(s:qHp)(Q:Bool->qHp->Prop),A.handled=none->St 0 s.heap->(∀b tk,Q b { s with toks:=tk })->wpAny (model prog w) A (qJe (.ref r)) Q E s
 walk:∀(A:qHv),A.handled=none->Walk1 prog w A r fp n P St
section
variable{prog:qHr}{w:World}{A:qHv}{E:Value->qHp->Prop}{s:qHp}{T:String}{r:Addr}{fp:List Addr}{n:Nat}{P:Nat->Value->Prop}{St:Nat->Heap->Prop}
theorem zJ1{R:qKt->qHp->Prop}(K:Once prog w T r fp n P St)(hh:A.handled=none)(st:St 0 s.heap)(S:Addr)(hSf:S∉fp)(res:Value)(c₀:Nat)(hS:s.heap.get? S=some { cls:=.type "list",data:=.seq #[] c₀ })
  (hR:∀h' tk acc' c',(∀b o,b≠S->b≠r->s.heap.get? b=some o->h'.get? b=some o)->(∃u,h'.get? r=some u)->h'.get? S=some { cls:=.type "list",dict:=none,data:=.seq acc' c',slots:=#[] }->ItemsOf P acc' n->R (.ok (.ret res)) { s with heap:=h',toks:=tk }) (hn:n<=sizeLine) :
  wpAny (model prog w) A.in1 (qI9 (.ref S) (.ref r) res)
   (fun fin s'=>match fin with | .done f=>R (.ok f) s' | .again c'=>c'.quiet=true/\qJ4 (model prog w) A c' R s') (fun e s'=>R (.error e) s') s:=by
 have W:=K.walk A.in1 hh;have hSr:S≠r:=fun z=>hSf (z▸K.me)
 have key:∀(h:Heap)(c₁ tk:Nat),St 0 h->(∀b o,b≠S->s.heap.get? b=some o->h.get? b=some o) ->
   h.get? S=some { cls:=.type "list",data:=.seq #[] c₁ }->qJ4 (model prog w) A (.builtin "list.extend.loop" ⟨[.ref S,.ref r,res],[]⟩) R { s with heap:=h,toks:=tk }:=by
  intro h c₁ tk hst hk hS₁;refine zL3 W hn S hSf res n 0 _ #[] c₁ rfl (qAt _) hst hS₁ (ItemsOf.nil _) fun h' tk' acc' c' hm hu hS' hacc=>?_
  exact hR h' tk' acc' c' (fun b o hb hb2 e=>hm b o hb hb2 (hk b o hb e)) hu hS' hacc
 unfold qI9;refine wpAny_bind (wpAny_typeOf (T:=T) (K.ty s 0 st) ?_);have h1:qJv (.ref S) (.ref r)=false:=by simp[qJv,hSr]
 simp only[h1,K.nl,K.nt,qH2,qC9,if_false];refine wpAny_bind (W.self 0 s _ _ st ?_);refine wpAny_bind (wpAny_holding (K.hint _ _ _ _ hh st fun b tk=>?_));refine qJf (fun _=>?_) (fun _=>wpAny_pure ⟨qJy qBk _,key _ c₀ _ st (fun b o _ e=>e) hS⟩);refine wpAny_bind (wpAny_rule ?_);refine wpAny_bind ?_;show wpAny _ _ (updateSeq S (·.push .none) >>= fun _=>updateSeq S (·.pop)) _ _ _;refine wpAny_bind (wpAny_updateSeq hS rfl ?_);have hS₂:=qI0 (qIr (·.push qHy)) hS rfl;refine wpAny_updateSeq (hz:=by seq_fits) hS₂ rfl ?_;have hS₃:=qI0 (qIr (·.pop)) hS₂ rfl;refine wpAny_pure ⟨qJy qBk _,key _ _ _ ?_ (fun b o hb e=>?_) hS₃⟩
 ·refine W.frame 0 _ _ st fun b hb o e=>?_
  have hbS:b≠S:=fun h=>hSf (h▸hb)
  exact(qHu _ _ (qC8 hbS)).trans ((qHu _ _ (qC8 hbS)).trans e)
 ·exact(qHu _ _ (qC8 hb)).trans ((qHu _ _ (qC8 hb)).trans e)
theorem zN7{Q:Value->qHp->Prop}(K:Once prog w T r fp n P St)(hh:A.handled=none)(st:St 0 s.heap)(hfp:∀b∈fp,b<s.heap.objs.size)(hn:n<=sizeLine)
  (hQ:∀h' tk acc' c',(∀b o,b≠r->s.heap.get? b=some o->h'.get? b=some o)->(∃u,h'.get? r=some u)->h'.get? s.heap.objs.size=some { cls:=.type "list",dict:=none,data:=.seq acc' c',slots:=#[] }->ItemsOf P acc' n->Q (.ref s.heap.objs.size) { s with heap:=h',toks:=tk }) :
  wpAny (model prog w) A (call (.type "list") [.ref r]) Q E s:=by
 refine callType_codes (Q₁:=fun obj s₁=>obj=.ref s.heap.objs.size/\s₁={ s with heap:=s.heap.push { cls:=.type "list",data:=.seq #[] } }) PySem.F.called_list (PySem.F.typeCall_list_1 _) PySem.F.entry_list_init (code_list_new _ ⟨rfl,rfl⟩) fun obj s₁ h₁=>?_
 obtain⟨rfl,rfl⟩:=h₁;have hS:(s.heap.push { cls:=.type "list",data:=.seq #[] }).get? s.heap.objs.size=some { cls:=.type "list",data:=.seq #[] }:=qHt _ rfl;have hSf:s.heap.objs.size∉fp:=fun hm=>qBw _ (hfp _ hm)
 refine⟨⟨_,hS,rfl⟩,PySem.F.args_list_init_2 _ _,?_⟩
 generalize hg:s.heap.push { cls:=.type "list",data:=.seq #[] }=g at hS ⊢
 show wpAny _ _ (do let old <- qK3 (.ref s.heap.objs.size);Builtin.List.listUpdate (.ref s.heap.objs.size) (fun _=>#[]);letGo old.toList.reverse;qI9 (.ref s.heap.objs.size) (.ref r) .none) _ _ _;refine wpAny_bind ?_;unfold qK3;refine wpAny_bind (wpAny_seqItems hS rfl (wpAny_pure ?_));show wpAny _ _ (updateSeq s.heap.objs.size (fun _=>#[]) >>= fun _=>letGo (#[]:Array Value).toList.reverse >>= fun _=>qI9 (.ref s.heap.objs.size) (.ref r) .none) _ _ _;refine wpAny_bind (wpAny_updateSeq hS rfl ?_);have hS₂:=qI0 (qIr (fun _=>(#[]:Array Value))) hS rfl;have oth:∀b o,b≠s.heap.objs.size->s.heap.get? b=some o->(g.update s.heap.objs.size (qIr (fun _=>(#[]:Array Value)))).get? b=some o:=
  fun b o hb e=>(qHu _ _ (qC8 hb)).trans (by rw[<- hg];exact qHq _ e)
 refine wpAny_bind (wpAny_letGo ?_);refine zJ1 (A:=A.in1) K hh ((K.walk A hh).frame 0 _ _ st fun b hb o e=>oth b o (qAv (hfp b hb)) e) _ hSf .none _ hS₂ (fun h' tk acc' c' hk hu hS' hacc=>?_) hn;exact⟨rfl,hQ h' tk acc' c' (fun b o hb e=>hk b o (qAv (qHs e)) hb (oth b o (qAv (qHs e)) e)) hu hS' hacc⟩
end
section
variable{prog:qHr}{w:World}{A:qHv}{E:Value->qHp->Prop}{s:qHp}{x:Str}{t:Tok}
end
noncomputable def zEF(p:Addr):HO:=.ext fun h=>∃o,h.get? p=some o
section
variable{X:Cx}{pins:List (Addr×Obj)}{σ:List (Option V)}{H:Hp}{s:qHp}
theorem Inv.spent{p:Addr}{h':Heap}{t':Nat}(I:Inv X pins σ H s)(mu:Mut (H p))(k:∀b u,b≠p->s.heap.get? b=some u->h'.get? b=some u)(hp:∃u,h'.get? p=some u) :
  Inv X pins σ (upd H p (zEF p)) { s with heap:=h',toks:=t' }:=
 I.write mu (.inl rfl) k hp ⟨hp,hp,fun h1 h2 z f=>let⟨o,e⟩:=z;⟨o,f o e⟩⟩
theorem Inv.walked{p l:Addr}{h':Heap}{t':Nat}{o:HO}(I:Inv X pins σ H s)(mu:Mut (H p))(hl:s.heap.objs.size<=l)(k:∀b u,b≠p->s.heap.get? b=some u->h'.get? b=some u)(hp:∃u,h'.get? p=some u)
  (new:ObjOk X.prog X.w (upd (upd H p (zEF p)) l o) h' l o):Inv X pins σ (upd (upd H p (zEF p)) l o) { s with heap:=h',toks:=t' }:=by
 have hn:H l=none:=I.hok.fresh hl;have hpl:l≠p:=fun z=>by subst z;rw[hn]at mu;exact mu
 have w:Un X.fs [] H (upd H p (zEF p)) s.heap h':=Un.write mu (.inl rfl) k hp;have hn2:upd H p (zEF p) l=none:=by rw[zAF hpl];exact hn
 refine I.un ⟨w.keep,w.slot,fun b u q n x=>?_,w.there,fun b xs q=>?_,fun b u xs q=>?_,fun b ps q=>?_⟩ fun b u e=>?_
 ·rw[zAF (qAv (qAh (qHs q) hl))];exact w.free b u q n x
 ·rw[zAF (zAH q hn)];exact w.tups b xs q
 ·rw[zAF (zAH q hn)];exact w.frzs b u xs q
 ·rw[zAF (zAH q hn)];exact w.tbls b ps q
 ·by_cases hb:b=l
  ·subst hb;rw[zAE]at e;cases e;exact new
  ·rw[zAF hb]at e;have h0:HOk X.prog X.w (upd H p (zEF p)) h':=I.hok.write mu (.inl rfl) k hp ⟨hp,hp,fun h1 h2 z f=>let⟨o,e⟩:=z;⟨o,f o e⟩⟩;exact(h0 b u e).stay (fun c v _ q=>q) (fun c q=>by rw[zAF (zAH q hn2)];exact q) (fun c xs q=>by rw[zAF (zAH q hn2)];exact q) fun c _ _ q _=>by rw[zAF (zAH q hn2)];exact q
theorem zM1:∀{xs:List V}{us:List Value},us.length=xs.length->(∀(j:Nat)(u:Value)(x:V),us[j]?=some u->xs[j]?=some x->RelV x u)->Vals xs us
 |[],[],_,_=>.nil
 |x::xs,u::us,e,h=>.cons (h 0 u x rfl rfl) (zM1 (by simpa using e) fun j u' x' h1 h2=>h (j+1) u' x' (by simpa using h1) (by simpa using h2))
 |[],_::_,e,_=>by simp at e
 |_::_,[],e,_=>by simp at e
theorem zFL:qIq "reversed" = some (.type "reversed"):=by decide +kernel
end
end L2
namespace Mi
open PySem
noncomputable section
noncomputable def ded:List Nat->List Nat
 |[]=>[]
 |a::r=>if a∈ded r then ded r else a::ded r
def sosL(l:List Nat):List Nat:=(ded l).mergeSort fun a b=>decide (a<=b)
end
noncomputable section
noncomputable def kyD:Dt->Option (Sum Int Str)
 |.int i=>some (.inl i)
 |.str x=>some (.inr x)
 |_=>none
noncomputable def swD:Dt->Option Sw
 |.non=>some .non
 |.bl b=>some (.bl b)
 |.int i=>some (.int i)
 |.str x=>some (.str x)
 |_=>none
noncomputable def swT:Sw->Dt
 |.non=>.non
 |.bl b=>.bl b
 |.int i=>.int i
 |.str x=>.str x
noncomputable def getW(kvs:List (Sum Int Str×Sw))(k:Sum Int Str):Option Sw:=(kvs.find? fun p=>decide (p.1=k)).map (·.2)
noncomputable def putW(kvs:List (Sum Int Str×Sw))(k:Sum Int Str)(v:Sw):List (Sum Int Str×Sw):=
 if(kvs.any fun p=>decide (p.1=k))=true then kvs.map (fun p=>if p.1=k then(p.1,v)else p)else kvs++[(k,v)]
def zWU:EM:=fun _=>okR (.dct [])
def dinD(ng:Bool)(x y:Dt):Option Dt:=match y with
 |.dct kvs=>match kyD x with
  |some k=>some (.bl (if ng=true then !(getW kvs k).isSome else(getW kvs k).isSome))
  |none=>none
 |_=>none
def zY4(i:Nat)(e1 e2:EM):SM:=fun ρ=>zA1 (e2 (full ρ)) fun v=>match ρ[i]? with
 |some (some (.dct kvs,k+1))=>zA1 (e1 (full ρ)) fun y=>match kyD y,swD v with
  |some q,some u=>@ite _ (kvs.length<=100000) (qA1 _) (okR (.nx (ρ.set i (some (.dct (putW kvs q u),k+1))))) none
  |_,_=>none
 |_=>none
def zR9:List Dt->Option (List (Sum Int Str×Sw))
 |[]=>some []
 |.tup [a,b]::r=>match kyD a,swD b,zR9 r with
  |some k,some v,some q=>some ((k,v)::q)
  |_,_,_=>none
 |_::_=>none
def zY2(i:Nat)(e:EM):SM:=fun ρ=>match ρ[i]? with
 |some (some (.dct kvs,k+1))=>zA1 (e (full ρ)) fun d=>match d with
  |.lst ds=>match zR9 ds with
   |some ps=>@ite _ (kvs.length+ps.length<=50000) (qA1 _) (okR (.nx (ρ.set i (some (.dct (ps.foldl (fun m p=>putW m p.1 p.2) kvs),k+1))))) none
   |none=>none
  |_=>none
 |_=>none
end
noncomputable section
def sRetIx(L i:Nat)(e:EM):SM:=fun ρ=>match ρ[i]? with
 |some (some (.lst ds,k+1))=>zA1 (e (full ρ)) fun z=>match z with
  |.int z=>match itA ds z with
   |some d=>if k=L then okR (.rt d)else none
   |none=>none
  |_=>none
 |_=>none
noncomputable def botI:List Int->Int
 |[]=>0
 |[x]=>x
 |x::y::r=>min x (botI (y::r))
def minL:List Dt->Option Dt
 |[.lst ds]=>match intsD ds with
  |some (n::ns)=>some (.int (botI (n::ns)))
  |_=>none
 |_=>none
end
end Mi
namespace L2
open PySem PySem.Spec PyProof.Rows
section
variable{X:Cx}
def zVE:List V->Hp->VK->Prop:=fun vs H Q=>match vs with
 |[.ref a]=>∃ns:List Int,H a=some (.lst (ns.map V.int))/\0<ns.length/\∀M,M∈ns->(∀a,a∈ns->M<=a)->Q (.int M) H
 |_=>False
theorem zW9(hc:X.calm=true):zBU X (.builtin "min") zVE:=by
 intro pins s σ H vs us Q I r h;cases vs with
 |nil=>exact qAf h
 |cons hd1 tl1=>
  cases hd1 with
  |ref a=>
   cases tl1 with
   |nil=>
    obtain⟨ns,ha,hz,q⟩:=h;obtain⟨u,rfl,rx⟩:=zFH r;cases rx;obtain⟨its,rv,hl⟩:=zAR I.hok ha;have hi:qKo its ns:=zF5 rv;obtain⟨xs,e⟩:=hi.allInts.items;have en2:numsOf (intItems xs).toList=ns:=by rw[<- e];exact hi.numsOf
    rw[nums_intItems]at en2;have hl':s.heap.IsList a (intItems xs):=by rw[<- e];exact hl
    have hxl:xs.size=ns.length:=by rw[<- en2];simp
    refine min_intList (I.ok.hd hc) hl' (by lia) fun v h' tk hv hk=>?_
    obtain⟨t,rfl⟩:=intItems_at hv;obtain⟨h1,h2⟩:=argBest_lt (numAt xs) (xs.size-1);refine⟨.int _,H,I.kept (t':=tk) hk,⟨_,rfl⟩,q _ ?_ fun b hb=>?_⟩
    ·rw[numAt_eq,en2];exact getD_mem (by lia)
    ·rw[<- en2]at hb;obtain⟨j,hj,rfl⟩:=mem_getD hb;rw[qAm,qD7]at hj;rw[<- numAt_eq];exact h2 j (by lia)
   |cons _ _=>exact qAf h
  |_=>exact qAf h
end
end L2
namespace L2
open PySem
theorem uw1{P:List Value->Prop}(h:∀a,P [a]):∀us:List Value,us.length=1->P us
 |[a],_=>h a
theorem uw2{P:List Value->Prop}(h:∀a b,P [a,b]):∀us:List Value,us.length=2->P us
 |a::us,hl=>uw1 (P:=fun us=>P (a::us)) (h a) us (qHb hl)
theorem uw3{P:List Value->Prop}(h:∀a b c,P [a,b,c]):∀us:List Value,us.length=3->P us
 |a::us,hl=>uw2 (P:=fun us=>P (a::us)) (h a) us (qHb hl)
theorem oi{p q:Prop}(h:p\/q:=by first|exact qHm rfl|exact qHh rfl):p\/q:=h
end L2
namespace L3
open PySem PySem.Spec PyProof.Rows
open L2 hiding Rep RepL
open Mi (Dt R Rh EM TM SM AM IM Xn Sl Ro Out okR zA1 optR full frz frzAt)
section
variable[Kc]{mg:Str->Option Value}{E:XK}{n L:Nat}{te ta tb:TE}{e:EM}{m m':SM}
theorem zIE:∀(ns:List Int)(M:Int),M∈ns->(∀a,a∈ns->M<=a)->Mi.botI ns=M
 |[],M,h,_=>by cases h
 |[x],M,h,_=>by simp at h;rw[h];rfl
 |x::y::r,M,h,hb=>by
  have hx:=hb x (by simp);show min x (Mi.botI (y::r))=M
  rcases qAd.mp h with rfl|h
  ·have key:∀(l:List Int),l≠[]->(∀a,a∈l->M<=a)->M<=Mi.botI l:=by
    intro l
    induction l with
    |nil=>intro h;exact absurd rfl h
    |cons a q ih=>
     intro _ hb;cases q with
     |nil=>exact hb a (by simp)
     |cons b q=>
      have h1:=ih (by simp) fun c hc=>hb c (by simp[hc])
      have h2:=hb a (by simp);show M<=min a (Mi.botI (b::q))
      lia
   have:=key (y::r) (by simp) fun a ha=>hb a (by simp[ha])
   lia
  ·rw[zIE (y::r) M h fun a ha=>hb a (by simp[ha])]
   lia
theorem zTZ:CBi zVE Mi.minL n:=by
 refine zKC (zN6 rfl (fun d h=>by cases d<;>first|rfl|exact absurd rfl (h _)) fun a b r=>by cases a<;>rfl) (fun es h=>by rw[Mi.minL,h]) fun mg E G H a es ns Q s ei ha p=>?_
 rw[Mi.minL,ei]at p;cases ns with
 |nil=>exact p.elim
 |cons q ns=>
  refine⟨q::ns,ha,by simp,fun M h1 h2=>?_⟩;rw[<- zIE _ M h1 h2];exact PostE.val p (Ext.refl s) rfl rfl
end
end L3
namespace L3
open PySem PySem.Spec
open L2 hiding Rep RepL
open Mi (Dt Xn R okR zA1 optR zA0 zA4 zA7 zA5 zA6 Rh Sl Ro EM TM AM FM IM SM Tg Out zAN zAO zAQ full frz frz1 frzAt)
section
variable[Kc]
theorem Own.keep{G H H':Hp}:∀{n:Nat}{S:Addr->Prop}{d:Dt}{v:V},Own G H n S d v->(∀b o,S b->H b=some o->H' b=some o)->Own G H' n S d v
 |0,S,d,v,h,_=>h
 |n+1,S,d,v,h,hp=>by
  cases d with
  |lst ds=>obtain⟨a,xs,T,e,ha,k⟩:=h;exact⟨a,xs,T,e,hp _ _ k.top ha,k.imp (fun q _ _ _ w=>Own.keep w fun b o z=>hp b o (k.sub q _ z)) fun _ z=>z⟩
  |tup ds=>obtain⟨a,xs,T,e,ha,k⟩:=h;exact⟨a,xs,T,e,hp _ _ k.top ha,k.imp (fun q _ _ _ w=>Own.keep w fun b o z=>hp b o (k.sub q _ z)) fun _ z=>z⟩
  |dct kvs=>obtain⟨a,e,ha,hs⟩:=h;exact⟨a,e,hp _ _ hs ha,hs⟩
  |dtt ks ds=>obtain⟨a,T0,e0,xs,T,e,ha,hl,ht,k⟩:=h;exact⟨a,T0,e0,xs,T,e,hp _ _ k.top ha,hl,ht,k.imp (fun q _ _ _ w=>Own.keep w fun b o z=>hp b o (k.sub q _ z)) fun _ z=>z⟩
  |loc a d=>exact⟨h.1,Own.keep h.2 hp⟩
  |_=>exact h
section
variable{G0 H0 S0:Hp}{σ:St}{ρ:Ro}{G H:Hp}{As:Nat->Addr->Prop}
end
variable{mg:Str->Option Value}{E:XK}{L n k l:Nat}{te ta tb:TE}{e ea eb ma:EM}{t:TA}{m:AM}
end
section
variable[Kc]
section
variable{G H:Hp}{cl:Addr}{co:Obj}
mutual
theorem Rep.del(hc:G cl=some (cel co)):∀{d:Dt}{v:V},d.dep<=40->Rep G d v->Rep (del G cl) d v
 |.non,_,_,h=>h
 |.bl _,_,_,h=>h
 |.int _,_,_,h=>h
 |.str _,_,_,h=>h
 |.lst ds,_,hd,h=>by
  obtain⟨a,xs,e,e',r⟩:=h;exact⟨a,xs,e,(zRS (zLH e' hc (by simp))).trans e',RepL.del hc (by rw[Dt.dep]at hd;lia) r⟩
 |.tup ds,_,hd,h=>by
  obtain⟨a,xs,e,e',r⟩:=h;exact⟨a,xs,e,(zRS (zLH e' hc (by simp))).trans e',RepL.del hc (by rw[Dt.dep]at hd;lia) r⟩
 |.scr _,_,h,_=>by rw[Dt.dep]at h;lia
 |.exc _ _ _,_,h,_=>by rw[Dt.dep]at h;lia
 |.ins _ _,_,h,_=>by rw[Dt.dep]at h;lia
 |.dct _,_,h,_=>by rw[Dt.dep]at h;lia
 |.fn _ _,_,h,_=>by rw[Dt.dep]at h;lia
 |.dtt _ _,_,h,_=>by rw[Dt.dep]at h;lia
 |.loc _ _,_,h,_=>by rw[Dt.dep]at h;lia
theorem RepL.del(hc:G cl=some (cel co)):∀{ds:List Dt}{xs:List V},Dt.depL ds<=40->RepL G ds xs->RepL (del G cl) ds xs
 |[],_,_,h=>h
 |d::r,_,hd,h=>by
  rw[Dt.depL]at hd;obtain⟨x,q,e,a,b⟩:=h;exact⟨x,q,e,Rep.del hc (by lia) a,RepL.del hc (by lia) b⟩
end
end
variable{mg:Str->Option Value}{E:XK}{n:Nat}
end
end L3
namespace L3
open PySem PyProof.Rows
open L2 hiding Rep RepL
theorem fsc{N P:List Str}{sc:Scope}(a:sc.kind=.function:=by rfl)(b:sc.isCoroutine=false:=by rfl)(c:sc.isGenerator=false:=by rfl)(d:N.Nodup:=by decide +kernel)(e:N.take P.length=P:=by rfl)
  (f:∀x∈P,sc.names.lookup x=some .local\/sc.names.lookup x=some .cell:=by decide +kernel) (g:∀y∈sc.names,y.2≠.free:=by decide +kernel):FnScope N P sc:=⟨a,b,c,d,e,f,g⟩
section
variable{P:qHr}{w:World}{K:qA2}{mg:Str->Option Value}{base:Heap}{x:Str}{st:Stmt}{N ps:List Str}{k:Nat}{sp:Sp}
theorem dfM{L n:Nat}{m:Mi.SM}(D:Def K mg x st)(S:FnScope N ps (zAA st))
  (hb:∀(kV doc pm:Value)(an:Option Addr)(cdv ct:Value)(us:List Value),us.length=ps.length->qKb (qB7 x x (zAV st) (zAX st) (zAA st) .none kV doc pm an cdv ct) ⟨us,[]⟩=pure (ps.zip us))
  (hbody:∀{f:Addr}{cdv:Value}{A:qHv}{outer:List Env}{s:qHp}{H:Hp}{vs:List V}{Q:VK}{E:XK},Room k (A.deeper (envOfC x (zAA st) s.heap.objs.size f cdv))->(A.deeper (envOfC x (zAA st) s.heap.objs.size f cdv)).units+64<cLine->sp0 K mg L (Mi.runF ps.length n m) vs H Q E ->
   ∃t,PSs (cxOf CX0 P w K mg base N x (zAA st) f cdv A outer s H E).nox (zAX st) t/\t { nx:=fun _ H'=>Q .non H',rt:=Q } (start N vs) H):Has P w K mg base x (k+1) ps (sp0 K mg L (Mi.runF ps.length n m)):=
 D.ok S hb (fun _ _ _ _ h=>@zIV ⟨K⟩ _ _ _ _ _ _ _ _ _ h) fun _ _ _ _ _ _ _ _ _ hr h=>hbody hr hr.units h
theorem mkD{K:qA2}{h:Heap}{mg:Str->Option Value}{nm:Str}{st:Stmt}{f:Addr}{oc kV dc pm cd ct:Value}{od an:Option Addr}{sl:Array (Option Value)}(X:K.In h)(G:h.Ns qHx mg)(a:qBg K qHx nm=some (some (.ref f)))(l:K.lookup f=some ⟨oc,od,.func (qB7 nm nm (zAV st) (zAX st) (zAA st) .none kV dc pm an cd ct),sl⟩)(c:qC7 K cd nm=true)(k:qB4 K (.ref f)=true):Def K mg nm st:=⟨f,_,zRM (st:=st) l c k,qC5 X G a⟩
end
section
variable{X:Cx}{pos:Pos}
theorem pgn(i:Nat){x:Str}(hN:decide X.N.Nodup=true:=by kernel_rfl)(hi:X.N[i]?=some x:=by rfl)(hx:Loc X.env.scope x:=by exact oi)(hf:X.fn x=true\/X.env.scope.names.lookup x=some .local:=by first|exact .inl rfl|exact .inr rfl|assumption):PG X (.Name x pos) (zE2 i):=zC2 (of_decide_eq_true hN) hi hx hf
theorem pst(i:Nat){x:Str}{e:Expr}{te:TE}{pos':Pos}(hN:X.N.Nodup)(he:PE X e te)(hi:X.N[i]?=some x:=by rfl)(hx:Loc X.env.scope x:=by exact oi)(hs:qKs e (some (.Name x pos')) pos.line X.env=pure false:=by rfl)(hf:X.fn x=true\/X.env.scope.names.lookup x=some .local:=by first|exact .inl rfl|exact .inr rfl|assumption):PS X (.Assign [.Name x pos'] e pos) (tAsg te (zE2 i)):=zVI hN hi hx he hs hf
end
section
variable{P:qHr}{w:World}{K:qA2}{mg:Str->Option Value}{base:Heap}{x:Str}{st:Stmt}{N ps:List Str}{k:Nat}{sp:Sp}{T:Addr}
end
end L3
namespace L3
open PySem PySem.Spec
open L2 hiding Rep RepL
open Mi (Dt okR)
section
variable[Kc]{mg:Str->Option Value}{E:XK}{L:Nat}
end
section
variable[Kc]{n:Nat}
end
end L3
namespace L3
open PySem PySem.Spec PyProof.Rows
open L2 hiding Rep RepL
structure Tabs(K:qA2)(ts:List Addr):Prop where
 no:∀P∈ts,K.lookup P=none
 «in»:∀x∈makers,∀P,codP K x=some P->(lamK K x).isSome=true->P∈ts/\∃c,qE8 K c P=true
theorem zHE{K:qA2}{ts:List Addr}(T:Tabs K ts){P:Addr}{u:HO}(h:tabK K P=some u):P∈ts/\(∃q,u=.lam q)/\∃c,qE8 K c P=true:=by
 unfold tabK at h;cases e:makers.find? fun x=>codP K x==some P&&(lamK K x).isSome with
 |none=>rw[e]at h;cases h
 |some x=>
  rw[e]at h;cases h;have h1:=List.mem_of_find?_eq_some e;have h2:=qG1 e;simp only[qBu,beq_iff_eq]at h2;obtain⟨a,b⟩:=T.in x h1 P h2.1 h2.2;exact⟨a,⟨_,rfl⟩,b⟩
theorem zNM{P:qHr}{w:World}{K:qA2}{mg mb:Str->Option Value}{CX:CXT}{k:Nat}{fa a:Addr}{fd:qI6}{x:Str}{sp:Sp}{s₁:qHp}{vs:List Value}{ns:List Int}{ts:List Addr}
  (KX:K.In s₁.heap) (hT:∀P∈ts,s₁.heap.get? P=some (qEq #[])) (T:Tabs K ts) (hns:s₁.heap.Ns qHx mg) (hb:s₁.heap.Ns qJa mb) (hbb:∀x:Str,x≠"__name__"->mb x=qIq x) (hlim:s₁.heap.NoLimit)
  (hbm:∃bm ob,mg "__builtins__" = some (.ref bm)/\bm≠qJa/\s₁.heap.get? bm=some ob/\ob.cls=.type "module"/\ob.dict=some qJa/\ob.data=.plain) (hg:s₁.gens=#[])
  (ha:s₁.heap.get? a=some { cls:=.type "list",data:=.seq vs.toArray }) (hi:qKo vs ns) (hl:ns.length<=sizeLine) (hr:Room k qKq)
  (F:∀base:Heap,K.In base->base.Ns qHx mg->FnOk P w K mg base CX k fa fd [x] sp) (hbind:∀(s:qHp)(u:Value),qKy s fd ⟨[u],[]⟩ [(x,u)])
  (hsp:∀H:Hp,Same (tabK K) H->SqL K H a (ns.map V.int)->sp [.ref a] H (fun v H'=>v=.bl true/\Same (tabK K) H') fun _ _ _=>False)
  (hCX:∀H e s',CX [] H s₁ (fun _ _ _=>False) e s'->False) :
  qJ4 (model P w) qKq (.call (.ref fa) ⟨[.ref a],[]⟩) (fun r s'=>r=.ok (.ret (.bool true))/\OldK s₁.heap s'.heap/\s'.os=s₁.os/\qJw s'.gens) s₁:=by
 have rv:=zHC hi;have lenV:=hi.length;have tabO:∀{b:Addr}{u:HO},tabK K b=some u->s₁.heap.get? b=some (qEq #[]):=fun e=>hT _ (zHE T e).1
 have core:∀H:Hp,(∀b u,H b=some u->(b=a/\∃o xs,u=.frz o (.lst xs))\/tabK K b=some u)->Same (tabK K) H->SqL K H a (ns.map V.int)->HOk P w H s₁.heap->(∀b,H b≠none->K.lookup b=none) ->
   qJ4 (model P w) qKq (.call (.ref fa) ⟨[.ref a],[]⟩) (fun r s'=>r=.ok (.ret (.bool true))/\OldK s₁.heap s'.heap/\s'.os=s₁.os/\qJw s'.gens) s₁:=by
  intro H hO hTab hS hok hK;have base_of:∀{b:Addr}{o:Obj},s₁.heap.get? b=some o->H b=none->(hidT s₁.heap H).get? b=some o:=fun e n=>zQA e n
  have noA:∀{b:Addr}{o:Obj},s₁.heap.get? b=some o->(∀v,o.data≠.fields v)->(∀v n,o.data≠.seq v n)->H b=none:=fun{b o} e d1 d2=>by
   cases q:H b with
   |none=>rfl
   |some u=>
    rcases hO b u q with⟨z,_⟩|z
    ·subst z;rw[ha]at e;cases e;exact absurd rfl (d2 _ _)
    ·rw[tabO z]at e;cases e;exact absurd rfl (d1 _)
  have nsK:∀{b:Addr}{m:Str->Option Value},s₁.heap.Ns b m->(hidT s₁.heap H).Ns b m:=fun{b m} ⟨o,es,ep,e,d,r⟩=>⟨o,es,ep,base_of e (noA e (fun v z=>by rw[d]at z;cases z) fun v n z=>by rw[d]at z;cases z),d,r⟩
  have hKb:K.In (hidT s₁.heap H):=fun b o e=>base_of (KX b o e) (by
   cases q:H b with
   |none=>rfl
   |some u=>rw[hK b (by rw[q];simp)]at e;cases e)
  have hM:Mod K mg (hidT s₁.heap H):=⟨hKb,nsK hns,⟨mb,nsK hb,hbb⟩,let⟨mc,h1,h2⟩:=hlim;⟨mc,nsK h1,h2⟩,let⟨bm,ob,e1,e2,e3,e4,e5,e6⟩:=hbm;⟨bm,ob,e1,e2,base_of e3 (noA e3 (fun v z=>by rw[e6]at z;cases z) fun v n z=>by rw[e6]at z;cases z),e4,e5,e6⟩⟩
  have e0:Env0 P w K mg (hidT s₁.heap H) qKq [] s₁ H:=⟨rfl,hM,fun b o e=>zSW e,qEj (zNV _ _),trivial,fun b hb=>absurd (show b∈([]:List Addr) from hb) (by simp),hok,.of_eq hg⟩
  refine codeAny_mono ((F _ hKb (nsK hns)).run qKq [] s₁ H ⟨[.ref a],[]⟩ [.ref a] [.ref a] _ _ hr e0 (hbind s₁ (.ref a)) (.cons rfl .nil) (hsp H hTab hS)) fun r s' h=>?_
  cases r with
  |error e=>exact(hCX H e s' h).elim
  |ok fl=>
   cases fl with
   |next=>exact qAf h
   |brk=>exact qAf h
   |cont=>exact qAf h
   |ret u=>
    obtain⟨v,H',os,bare,un,hok',r',q,qT⟩:=h;subst q;obtain rfl:u=qKa true:=r';refine⟨rfl,⟨fun b o e=>?_,fun b o e=>un.there b o e (by simp)⟩,os,bare⟩;cases q:H b with
    |none=>exact .inl (un.keep b o e q (by intro z;exact absurd (show b∈([]:List Addr) from z) (by simp)) (by simp))
    |some u=>
     rcases hO b u q with⟨_,ob,xs,rfl⟩|z
     ·have z2:=un.frzs b ob _ q;obtain⟨e1,_⟩:=hok b _ q;obtain⟨e2,_⟩:=hok' b _ z2;rw[e]at e1;cases e1;exact .inl e2
     ·obtain⟨hts,⟨qq,rfl⟩,c,hc⟩:=zHE T z;obtain⟨ps,e2,_⟩:=hok' b _ (qT _ _ z);have e3:=hT b hts;rw[e3]at e;cases e;exact .inr (.inl ⟨((PySem.W.codeHd_of_K KX hc).tab e3).isCodeTable,rfl,#[],ps,rfl,by rw[e2];simp⟩)
 have tOk:∀{H:Hp}{b:Addr}{u:HO},tabK K b=some u->ObjOk P w H s₁.heap b u:=fun{H b u} z=>by
  obtain⟨hts,⟨q,rfl⟩,_⟩:=zHE T z;exact⟨#[],hT b hts,trivial,fun pos cv y=>by simp[codeAmong]at y⟩
 have nta:tabK K a=none:=by
  cases z:tabK K a with
  |none=>rfl
  |some u=>have:=tabO z;rw[ha]at this;cases this
 cases hk:K.lookup a with
 |some o=>
  have e:=KX a o hk;rw[ha]at e;cases e;exact core (tabK K) (fun b u z=>.inr z) (Same.refl _) (.inr ⟨_,vs.toArray,_,hk,rfl,rfl,rfl,by rw[qAg,lenV];exact hl,by simpa using rv⟩) (fun b u z=>tOk z) fun b z=>by
   cases y:tabK K b with
   |none=>exact absurd y z
   |some u=>exact T.no b (zHE T y).1
 |none=>
  refine core (upd (tabK K) a (.frz { cls:=.type "list",data:=.seq vs.toArray } (.lst (ns.map V.int)))) (fun b u z=>?_) (fun b u z=>?_) (.inl (.inr ⟨{ cls:=.type "list",data:=.seq vs.toArray },zAE⟩)) (fun b u z=>?_) fun b z=>?_
  ·by_cases hb:b=a
   ·subst hb;rw[zAE]at z;cases z;exact .inl ⟨rfl,_,_,rfl⟩
   ·rw[zAF hb]at z;exact .inr z
  ·rw[zAF (zAH z nta)];exact z
  ·by_cases hb:b=a
   ·subst hb;rw[zAE]at z;cases z;exact⟨ha,by rw[qAm];exact hl,vs,_,rv,ha⟩
   ·rw[zAF hb]at z;exact tOk z
  ·by_cases hb:b=a
   ·subst hb;exact hk
   ·rw[zAF hb]at z;cases y:tabK K b with
    |none=>exact absurd y z
    |some u=>exact T.no b (zHE T y).1
theorem zP5{l:qDb}{n k:Nat}{q:qHr}{loose:List Str}{XP:(Str->Option Value)->Heap->Prop}{YP:World->Heap->Prop}{d:DefRec}{K:Params->qA2}{CX:World->CXT}{sp:World->Sp}{x:Str}{ts:List Addr}
  (hn:l.most=some n) (hn2:n<=sizeLine) (hdf:d.params.defaults=[]) (hr:Room k qKq)
  (hY:∀(w:World)(h:Heap),YP w h->(K w.params).In h/\∀P∈ts,h.get? P=some (qEq #[]))
  (F:∀(w:World)(mg:Str->Option Value)(fa:Addr)(h:Heap),(K w.params).In h->h.Ns qHx mg->mg d.name=some (.ref fa) ->
   Tabs (K w.params) ts/\∃fd:qI6,(∀(s:qHp)(u:Value),qKy s fd ⟨[u],[]⟩ [(x,u)]) /\
    ∀base:Heap,(K w.params).In base->base.Ns qHx mg->FnOk l.prog w (K w.params) mg base (CX w) k fa fd [x] (sp w))
  (hsp:∀(w:World)(H:Hp)(a:Addr)(ns:List Int),ns.length<=n->(∀i∈ns,i.natAbs.log2<2 ^ 20)->Same (tabK (K w.params)) H->SqL (K w.params) H a (ns.map V.int)->sp w [.ref a] H (fun v H'=>v=.bl true/\Same (tabK (K w.params)) H') fun _ _ _=>False)
  (hCX:∀(w:World)(H:Hp)(s:qHp)(e:Value)(s':qHp),CX w [] H s (fun _ _ _=>False) e s'->False) :
  qF6 q loose XP YP l.row.toRowW d [] (fun f vs=>qFg f vs):=by
 refine Att.attach_callW hn hdf fun w s₀ s₁ mg mb fa o pm cd doc a vs ns G Y ho hd hcd hmg hobj hints hlen hw hg=>?_
 obtain⟨KX,hT⟩:=hY w _ Y;obtain⟨T,fd,hb,hF⟩:=F w mg fa _ KX G.T.g hmg;exact zNM KX hT T G.T.g G.T.b G.T.builtins G.T.nolimit G.T.bmain hg hobj hints (qAn hlen hn2) hr hF hb (fun H hO hS=>hsp w H a ns hlen hw hO hS) fun H e s'=>hCX w H s₁ e s'
end L3
namespace L3
open PySem PyProof.Rows
open L2 hiding Rep RepL
structure Mk1(K:qA2)(ts:List Addr)(x:Str)(r:Option Addr):Prop where
 cod:codP K x=r
 lam:(lamK K x).isSome=r.isSome
 hd:∀P,r=some P->P∈ts/\∃c,qE8 K c P=true
theorem mk1_none{K:qA2}{ts:List Addr}{x:Str}(a:qBg K qHx x=some none):Mk1 K ts x none:=
 ⟨by unfold codP;rw[a],by unfold lamK;rw[a];rfl,fun _ z=>by cases z⟩
structure Tb(K:qA2)(ts:List Addr)(r1 r2 r3:Option Addr):Prop where
 m1:Mk1 K ts "turned_at" r1
 m2:Mk1 K ts "exchanged_at" r2
 m3:Mk1 K ts "pivoted" r3
section
variable{K:qA2}{ts:List Addr}{r1 r2 r3:Option Addr}
theorem Tb.tabs(T:Tb K ts r1 r2 r3)(no:∀P∈ts,K.lookup P=none):Tabs K ts:=⟨no,fun x hx P h _=>by
 unfold makers at hx;simp only[qAd,qD2,or_false]at hx
 rcases hx with rfl|rfl|rfl
 ·exact T.m1.hd P (T.m1.cod.symm.trans h)
 ·exact T.m2.hd P (T.m2.cod.symm.trans h)
 ·exact T.m3.hd P (T.m3.cod.symm.trans h)⟩
end
def TbE(K:qA2)(ts:List Addr):Prop:=∃r1 r2 r3,Tb K ts r1 r2 r3
theorem walk_of0{l:qDb}{n k:Nat}{q:qHr}{loose:List Str}{XP:(Str->Option Value)->Heap->Prop}{YP:World->Heap->Prop}{d:DefRec}{K:Params->qA2}{x:Str}
  (hn:l.most=some n) (h63:n<=63) (hdf:d.params.defaults=[]) (hr:Room k qKq) (hY:∀(w:World)(h:Heap),YP w h->(K w.params).In h)
  (F:∀(w:World)(mg:Str->Option Value)(fa:Addr)(h:Heap),(K w.params).In h->h.Ns qHx mg->mg d.name=some (.ref fa) ->
   TbE (K w.params) []/\∃fd:qI6,(∀(s:qHp)(u:Value),qKy s fd ⟨[u],[]⟩ [(x,u)]) /\
    ∀base:Heap,(K w.params).In base->base.Ns qHx mg->FnOk l.prog w (K w.params) mg base CX0 k fa fd [x] (zFO (K w.params))) :
  qF6 q loose XP YP l.row.toRowW d [] (fun f vs=>qFg f vs):=
 zP5 (K:=K) (ts:=[]) (CX:=fun _=>CX0) (sp:=fun w=>zFO (K w.params)) hn (qAn h63 (by decide)) hdf hr (fun w h Y=>⟨hY w h Y,fun P z=>absurd z (by simp)⟩)
  (fun w mg fa h KX G hm=>let⟨⟨_,_,_,T⟩,r⟩:=F w mg fa h KX G hm;⟨T.tabs fun P z=>absurd z (by simp),r⟩)
  (fun _ _ a ns hl hw hT hS=>⟨a,ns,rfl,hT,hS,qAn hl h63,hw,fun _ z=>⟨rfl,z⟩⟩) fun _ _ _ _ _ z=>z
end L3
namespace L3
open PySem PySem.Spec
open L2 hiding Rep RepL
section
variable[Kc]{mg:Str->Option Value}{E:XK}{L:Nat}
end
end L3
namespace L3
open PySem PySem.Spec
open L2 hiding Rep RepL
open Mi (Dt EM FM okR)
end L3
namespace L3
open PySem PySem.Spec
open L2 hiding Rep RepL
open Mi (Dt Xn R okR zA1 optR zA0 zA4 zA7 zA5 zA6 Rh Sl Ro EM TM AM FM IM SM OM Tg Out zAN zAO zAQ full frz frz1 frzAt)
section
variable[Kc]{mg:Str->Option Value}{E:XK}{L n k l:Nat}{te ta tb:TE}{e ea eb ma:EM}{t:TA}{m:AM}
theorem zMJ{H:Hp}{p:Addr}(h:H p=none)(o u:HO):L2.Same H (upd (upd H p o) p u):=fun b w q=>by
 have hb:b≠p:=fun z=>by rw[z,h]at q;cases q
 rw[zAF hb,zAF hb];exact q
end
end L3
namespace L3
open PySem PySem.Spec
open L2 hiding Rep RepL
open Mi (Dt Xn R okR zA1 optR zA0 zA4 zA7 zA5 zA6 Rh Sl Ro EM TM AM FM IM SM Tg Out full frz frz1 frzAt)
section
variable[Kc]{mg:Str->Option Value}{E:XK}{L:Nat}{tA tB:TT}{A B:TM}
end
end L3
namespace Mi
open PySem
noncomputable def lamF(n:Nat)(e:EM):FM:=fun ds=>if ds.length=n then e (ds.map some)else none
end Mi
namespace PySem
open Sem (wp)
section
variable{prog:qHr}{w:World}{A:qHv}{K:Type}[DecidableEq K]{knd:KeyKind prog w K}
end
end PySem
noncomputable section
namespace Mi
noncomputable def slZ:Dt->Option Int->Option Int->Option Dt
 |.scr ns,none,some b=>@ite _ ((ns.length:Int)<=b) (qA1 _) (some (.scr ns)) none
 |_,_,_=>none
def eSlZ(a:EM)(lo hi:OM):EM:=fun ρ=>zA1 (a ρ) fun x=>zA1 (lo ρ) fun l=>zA1 (hi ρ) fun h=>optR (slZ x l h)
end Mi
end
namespace L2
open PySem PySem.Spec PyProof.Rows
section
variable{X:Cx}
theorem zU2{n:Nat}{b:Int}(h:(n:Int)<=b):qIm none (some b) 1 (n:Int)=(0,(n:Int)):=by
 unfold qIm;have h1:¬((1:Int)<0):=by decide
 have h2:¬(b<0):=by omega
 simp only[h1,h2,if_false]
 congr 1
 omega
theorem zSP(n:Nat):qIc 0 (n:Int) 1=n:=by
 unfold qIc;have h1:(1:Int)>0:=by decide
 simp only[h1,if_true,qFm]
 split<;>omega
theorem zUP{prog:qHr}{w:World}{A:qHv}{E:Value->qHp->Prop}{s:qHp}{sl:Addr}{n:Nat}{b:Int}{u:Tok}{Q:Int×Int×Nat->qHp->Prop}(hs:s.heap.IsSliceOf sl .none (.int b u) .none)(hb:(n:Int)<=b)(h:Q (0,1,n) s):wpAny (model prog w) A (qJj (.ref sl) (pure (n:Int))) Q E s:=by
 obtain⟨os,hos,hcs,hds⟩:=id hs;unfold qJj qLk;refine wpAny_bind (wpAny_bind (wpAny_field hos hds (x:=.none) rfl (wpAny_bind (wpAny_field hos hds (x:=.int b u) rfl (wpAny_bind (wpAny_field hos hds (x:=.none) rfl (wpAny_pure ?_)))))));refine wpAny_bind (slicePart_none ?_);show wpAny _ _ (if((1:Int)==0)=true then _ else _) _ _ s;rw[if_neg (by decide)];refine wpAny_bind (slicePart_none (wpAny_bind (slicePart_int (wpAny_bind (wpAny_pure ?_)))));show wpAny _ _ (match qIm none (some b) 1 (n:Int)with|(lo,hi)=>pure (lo,(1:Int),qIc lo hi 1)) _ _ s;rw[zU2 hb];show wpAny _ _ (pure ((0:Int),(1:Int),qIc (0:Int) (n:Int) 1)) _ _ s;rw[zSP];exact wpAny_pure h
theorem zTI{prog:qHr}{w:World}{A:qHv}{E:Value->qHp->Prop}{s:qHp}{t sl:Addr}{items:Array Value}{b:Int}{u:Tok}{Q:Value->qHp->Prop}(ht:IsTup s.heap t items)(hs:s.heap.IsSliceOf sl .none (.int b u) .none)(hb:(items.size:Int)<=b)(h:Q (.ref t) s) :
  wpAny (model prog w) A (getItem (.ref t) (.ref sl)) Q E s:=by
 obtain⟨os,hos,hcs,hds⟩:=id hs;have hTs:s.TypeIs (.ref sl) "slice":=⟨os,hos,hcs⟩
 unfold getItem
 try with_reducible refine wpAny_holding ?_
 first|refine wpAny_bind (wpAny_pure ?_)|skip
 refine wpAny_bind (wpAny_sequenceKey ht.typeIs (by decide) ?_);refine wpAny_bind (wpAny_callSpecial?_slot (name:=qIs "__getitem__") ht.typeIs qIv
  (wpAny_call_entry qIv ht.typeIs entry_tuple_getitem ?_ (args_tuple_getitem _ _)))
 show wpAny _ _ (qLi (.ref t) >>= _) _ _ s;refine wpAny_bind (tupleItemsOf_ ht ?_);refine wpAny_bind (wpAny_typeOf hTs ?_);rw[if_pos (by decide)];refine wpAny_bind (zUP hs hb ?_);show wpAny _ _ (if((0:Int)==0&&(1:Int)==1&&items.size==items.size)=true then _ else _) _ _ s;rw[if_pos (by simp)];unfold qLj;refine wpAny_bind (wpAny_bind (wpAny_typeOf ht.typeIs (wpAny_pure ?_)));rw[if_pos (by decide)];refine wpAny_bind (wpAny_rule ?_);exact wpAny_pure ⟨_,rfl,wpAny_pure h⟩
def rSlZ(K:qA2):V->Option Int->Option Int->Hp->VK->Prop:=fun x lo hi H Q=>∃a xs b,x=.ref a/\lo=none/\hi=some b/\(xs.length:Int)<=b/\((SqL K H a xs/\∀p,H p=none->Q (.ref p) (upd H p (.lst xs)))\/(SqT K H a xs/\Q (.ref a) H))
theorem zTX{xs:List V}{b:Int}(h:(xs.length:Int)<=b):cutV xs none (some b)=xs:=by
 unfold cutV HT.sIx
 have:¬b<0:=by omega
 simp only[this,if_false,qDe,Nat.sub_zero];exact qEd (by omega)
theorem zXU{K:qA2}(hK:X.K=K:=by rfl):SlR X (rSlZ K):=by
 subst hK;intro pins s σ H x v vl vu lo hi sl Q I rx hs pl pu h;obtain⟨a,xs,b,rfl,rfl,rfl,hb,h|⟨h,q⟩⟩:=h
 ·refine zMF pins s σ H _ v vl vu none (some b) sl Q I rx hs pl pu ⟨a,xs,rfl,h.1,fun p hp=>?_⟩;rw[zTX hb];exact h.2 p hp
 ·cases rx;cases pl;cases pu;obtain⟨its,r,ht,hz⟩:=I.tuple h;have hlen:=r.length;refine⟨"tuple",_,qIv.lookup,ht.typeIs,zTI ht hs (by rw[qAg,<- hlen];exact hb) ⟨.ref a,H,I,rfl,q⟩⟩
end
end L2
namespace L3
open PySem PySem.Spec
open L2 hiding Rep RepL
open Mi (Dt Xn R okR zA1 optR zA0 zA4 zA7 zA5 zA6 Rh Sl Ro EM TM AM FM IM SM OM Tg Out zAN zAO zAQ full frz frz1 frzAt)
section
variable[Kc]{mg:Str->Option Value}{E:XK}{n k:Nat}{te:TE}{e:EM}
theorem zX5{tl th:TO}{ml mh:OM}(A:DE mg E te e k)(B:DO mg E tl ml)(C:DO mg E th mh):DE mg E (tSl (rSlZ Kc.K) te tl th) (Mi.eSlZ e ml mh) 0:=by
 intro G H σ ρ Q s w p;refine(zAS A).step errE s w p fun d v G1 H1 S _ fr o p1=>?_
 refine B.step (errE.from fr.ext) fr.ext.in' (w.mono fr.ext.g) p1 fun lo H2 _ s2 p2=>?_
 have x2:=fr.ext.trans (Ext.same fr.ext.in' s2);refine C.step (errE.from x2) x2.in' (w.mono fr.ext.g) p2 fun hi H3 _ s3 p3=>?_
 have x3:=x2.trans (Ext.same x2.in' s3);have p4:=PostE.from p3 x3;cases d with
 |scr ns=>
  cases lo with
  |some _=>exact p4.elim
  |none=>
   cases hi with
   |none=>exact p4.elim
   |some b=>
    rw[Mi.slZ]at p4
    by_cases hb:(ns.length:Int)<=b
    ·rw[if_pos hb]at p4;obtain⟨a,rfl,ha⟩:=o;refine⟨a,ns.map V.int,b,rfl,rfl,rfl,by rw[qAm];exact hb,?_⟩
     rcases ha with ha|hk
     ·exact .inl ⟨x3.in'.seq ha,fun q hq=>PostE.kept p4 (Ext.new x3.in' hq _) ⟨q,rfl,.inl (SqL.of zAE)⟩⟩
     ·exact .inr ⟨hk.t,PostE.kept p4 (Ext.refl x3.in') ⟨a,rfl,.inr hk⟩⟩
    ·rw[if_neg hb]at p4;exact p4.elim
 |_=>exact p4.elim
end
end L3
noncomputable section
namespace Mi
end Mi
end
namespace Mi
open PySem
noncomputable section
end
end Mi
namespace L2
open PySem PySem.Spec PyProof.Rows
section
variable{prog:qHr}{w:World}{A:qHv}{E:Value->qHp->Prop}{s:qHp}
theorem zQ5{d:Addr}{o:Obj}{es:Array DictEntry}{ep:Nat}{Q:Value->qHp->Prop}(hd:(d==qIi)=false)(ho:s.heap.get? d=some o)(hc:o.ExactDict)(hdat:o.data=.dict es ep)
  (hQ:Q (.ref s.heap.objs.size) { s with heap:=s.heap.push { cls:=.type "dict_keyiterator",data:=.fields #[.ref d,.int 0 0,.int es.size 0,.int ep 0] } }) :
  wpAny (model prog w) A (pyIter (.ref d)) Q E s:=by
 have hT:s.TypeIs (.ref d) "dict":=⟨o,ho,hc.1⟩
 refine wpAny_pyIter_slot hT qL9 (wpAny_call_entry qL9 hT F.entry_dict_iter ?_ (F.args_dict_iter_1 _));unfold qLg.«dict.__iter__» Builtin.Dict.dictSlotNone;refine wpAny_bind (wpAny_bind (wpAny_notOrdered_dict hT (wpAny_pure ?_)));show wpAny _ _ (qK9 d >>= _) _ _ s;unfold qK9;rw[if_neg (by rw[hd];exact qAa)];refine wpAny_bind (wpAny_pure (wpAny_bind (wpAny_dictEntries ho hdat (wpAny_bind (wpAny_dictEpoch ho hdat ?_)))));refine wpAny_bind (wpAny_newObj_type (wpAny_pure ⟨_,rfl,"dict_keyiterator",_,⟨_,qHt _ rfl,rfl⟩,qI3.lookup,?_⟩))
 simpa[rawInt]using hQ
theorem zPW{it d:Addr}{o:Obj}{es:Array DictEntry}{i ep:Nat}{Q:Option Value->qHp->Prop}(hit:s.heap.IsKeyIter it d i es.size ep)(ho:s.heap.get? d=some o)(hdat:o.data=.dict es ep)(hlt:i<es.size)
  (hQ:∀h',h'.IsKeyIter it d (i+1) es.size ep->qJm it s.heap h'->Q (some es[i].key) { s with heap:=h' }) :
  wpAny (model prog w) A (pyNext (.ref it)) Q E s:=by
 obtain⟨oi,hoi,hci,hdi⟩:=id hit;unfold pyNext;refine wpAny_bind (wpAny_attempt (wpAny_callSpecial?_slot (name:=qIs "__next__") hit.typeIs qI3
  (wpAny_call_entry qI3 hit.typeIs qJ5 ?_ (qJ2 _))))
 refine wpAny_bind (wpAny_pure (wpAny_bind (wpAny_bind ?_)))
 first|refine wpAny_bind (wpAny_typeNameOfWhole_keyiter hit.typeIs (wpAny_pure ?_))|refine wpAny_bind (wpAny_typeNameOf_keyiter hit.typeIs (wpAny_pure ?_))
 refine wpAny_bind (wpAny_fieldsOf hoi hdi ?_);simp only[show qJ8 "dict_keyiterator" = false by decide,qC9,if_false];show wpAny _ _ (if(qHw d==qHy)=true then _ else _) _ _ s;rw[if_neg (show ¬((qHw d==qHy)=true) from qAa)];refine wpAny_bind (wpAny_pure (wpAny_bind (wpAny_dictEntries ho hdat ?_)));rw[if_neg (by simp)];refine wpAny_bind (wpAny_pure (wpAny_bind (wpAny_dictEpoch ho hdat ?_)));rw[if_neg (by simp)];refine wpAny_pure ?_;simp only[show ¬((i:Int)<0) from by omega,if_false,qBa,qCl hlt];refine wpAny_bind ?_
 first|refine wpAny_bind (wpAny_typeNameOfWhole_keyiter hit.typeIs (wpAny_pure ?_))|refine wpAny_bind (wpAny_typeNameOf_keyiter hit.typeIs (wpAny_pure ?_))
 refine wpAny_bind (wpAny_isOneOf_keyiter hit.typeIs ?_);show wpAny _ _ (setField (.ref it) 1 (rawInt ((i:Int)+1)) >>= _) _ _ s;refine wpAny_bind (wpAny_setField hoi hdi (by simp) ?_);have hit':(s.heap.update it (qI1 (·.setIfInBounds 1 (rawInt ((i:Int)+1))))).IsKeyIter it d (i+1) es.size ep:=
  ⟨_,qI0 _ hoi (qIh (qIb hdi _)),(qL1 ..).trans hci,by rw[qIb hdi];simp[rawInt]⟩
 refine wpAny_bind (wpAny_holding ?_);refine wpAny_bind (wpAny_isOneOf_keyiter (s:={ s with heap:=s.heap.update it (qI1 (·.setIfInBounds 1 (rawInt ((i:Int)+1)))) }) hit'.typeIs ?_);exact wpAny_pure (wpAny_pure ⟨_,rfl,wpAny_pure (hQ _ hit' (qKr ..))⟩)
theorem zTQ{it d:Addr}{o:Obj}{es:Array DictEntry}{i ep:Nat}{Q:Option Value->qHp->Prop}(hh:A.handled=none)(hit:s.heap.IsKeyIter it d i es.size ep)(ho:s.heap.get? d=some o)(hdat:o.data=.dict es ep)(hge:es.size<=i)
  (hQ:∀h',Heap.ExtBut it s.heap h'->Q none { s with heap:=h' }):wpAny (model prog w) A (pyNext (.ref it)) Q E s:=by
 obtain⟨oi,hoi,hci,hdi⟩:=id hit;unfold pyNext;refine wpAny_bind (wpAny_attempt (wpAny_callSpecial?_slot (name:=qIs "__next__") hit.typeIs qI3
  (wpAny_call_entry qI3 hit.typeIs qJ5 ?_ (qJ2 _))))
 refine wpAny_bind (wpAny_pure (wpAny_bind (wpAny_bind ?_)))
 first|refine wpAny_bind (wpAny_typeNameOfWhole_keyiter hit.typeIs (wpAny_pure ?_))|refine wpAny_bind (wpAny_typeNameOf_keyiter hit.typeIs (wpAny_pure ?_))
 refine wpAny_bind (wpAny_fieldsOf hoi hdi ?_);simp only[show qJ8 "dict_keyiterator" = false by decide,qC9,if_false];show wpAny _ _ (if(qHw d==qHy)=true then _ else _) _ _ s;rw[if_neg (show ¬((qHw d==qHy)=true) from qAa)];refine wpAny_bind (wpAny_pure (wpAny_bind (wpAny_dictEntries ho hdat ?_)));rw[if_neg (by simp)];refine wpAny_bind (wpAny_pure (wpAny_bind (wpAny_dictEpoch ho hdat ?_)));rw[if_neg (by simp)];refine wpAny_pure ?_;simp only[show ¬((i:Int)<0) from by omega,if_false,qBa,qEb hge];refine wpAny_bind ?_
 first|refine wpAny_bind (wpAny_typeNameOfWhole_keyiter hit.typeIs (wpAny_pure ?_))|refine wpAny_bind (wpAny_typeNameOf_keyiter hit.typeIs (wpAny_pure ?_))
 show wpAny _ _ (setField (.ref it) 0 .none >>= _) _ _ s;refine wpAny_bind (wpAny_setField hoi hdi (by simp) ?_);show wpAny _ _ (newExc (.type "StopIteration") [] >>= _) _ _ _;refine wpAny_bind ?_;simp only[newExc,newTuple];refine wpAny_bind (wpAny_newObj_type ?_ (by size_fits));refine wpAny_bind (m:=qJq _ _) (wpAny_of_eq (a:=qHy) (by first|rfl|(simp only[qJq];rfl)) ?_);refine wpAny_newObj_type ?_ (by size_fits);simp only[raiseNew];refine wpAny_bind (wpAny_handled ?_);rw[show A.in1.handled=none from hh];refine wpAny_bind (wpAny_pure (wpAny_throw ?_));refine wpAny_bind (wpAny_isInstance (T:="StopIteration") (b:=true) ⟨_,qHt _ rfl,rfl⟩ isSubtype_stop ?_);exact wpAny_pure (hQ _ (((qKr ..).extBut.push _).push _))
end
noncomputable def Itd(a:Addr)(e0 n:Nat):It:=
 ⟨fun i H=>i<n/\∃T kvs,H a=some (.dT T e0 kvs)/\kvs.length=n,
  fun i H x H'=>H'=H/\∀T kvs,H a=some (.dT T e0 kvs)->kvs.length=n->∃b p,x=.ref b/\kvs[i]?=some p/\TupK H b p.1/\T b,
  fun i H=>n<=i/\∃T kvs,H a=some (.dT T e0 kvs)/\kvs.length=n⟩
theorem zYM{H:Hp}{T:Addr->Prop}{kvs:List (List KeyN×V)}{xs:List (List KeyN×Addr×Value)}(r:KT H T kvs xs):∀{i:Nat}{q:List KeyN×Addr×Value},xs[i]?=some q->∃p,kvs[i]?=some p/\TupK H q.2.1 p.1/\T q.2.1:=by
 induction r with
 |nil=>intro i q h;simp at h
 |@cons p q ps qs h t ih=>
  intro i c e;cases i with
  |zero=>simp at e;subst e;exact⟨p,rfl,h.2.1⟩
  |succ i=>simp at e;obtain⟨p',h1,h2⟩:=ih e;exact⟨p',by simpa using h1,h2⟩
section
variable{P:qHr}{w:World}{K:qA2}{tg:Expr}
theorem zM5(a it:Addr)(e0 n:Nat):Turn P w K tg (Itd a e0 n) [it] it (fun i h=>h.IsKeyIter it a i n e0) where
 mem:=by simp
 obj:=fun i h st b hb=>by
  have e:b=it:=by simpa using hb
  subst e;obtain⟨o,e,c,d⟩:=st;exact⟨o,e,fun v z=>by rw[d]at z;cases z⟩
 keep:=fun i h h' st k=>by
  obtain⟨o,e,c,d⟩:=st;exact⟨o,k it (by simp) o e,c,d⟩
 item:=by
  intro X hP hw hK hc i pins s σ H E I hf st hg;subst hP hw hK;obtain⟨hi,T,kvs,hq,hn⟩:=hg;obtain⟨z,y,xs,r,o,es,ep,h1,h2,h3,h4,h5,rfl⟩:=(show ObjOk X.prog X.w H s.heap a (.dT T e0 kvs) from I.hok a _ hq)
  have hl:=qIt r;have hes:es.size=n:=by
   have:=congrArg qD9 h4
   simp at this;omega
  subst hes;obtain⟨f0,f1,f2,f3,f4,f5⟩:=hf it (by simp);refine zPW st h1 h3 hi fun h' st' sb=>?_
  have I1:Inv X pins σ H { s with heap:=h' }:=I.turned (t':=s.toks) (fun b o hb e=>(sb.2 b hb).trans e) f0 f1 f3 f4 f5;obtain⟨o',e',c',d'⟩:=id st';have hx:xs[i]?=some (xs[i]'(by omega)):=qA5 (by omega);obtain⟨p,hp,htk,hT⟩:=zYM r hx;have hk:es[i].key=.ref (xs[i]'(by omega)).2.1:=by
   have h6:es.toList[i]?=some es[i]:=by rw[qCd];exact qCl hi
   rw[h4,qAe,hx]at h6;simp at h6;rw[<- h6];rfl
  refine⟨es[i].key,rfl,zNY (s:={ s with heap:=h' }) e' c' d' (by decide) ⟨.ref (xs[i]'(by omega)).2.1,H,I1,by rw[hk];rfl,⟨rfl,fun T2 kvs2 q2 _=>?_⟩,st',fun b hb=>(hf b hb).1⟩⟩;rw[hq]at q2;cases q2;exact⟨_,p,rfl,hp,htk,hT⟩
 done:=by
  intro X hP hw hK hc i pins s σ H E I hf st hg;subst hP hw hK;obtain⟨hi,T,kvs,hq,hn⟩:=hg;obtain⟨z,y,xs,r,o,es,ep,h1,h2,h3,h4,h5,rfl⟩:=(show ObjOk X.prog X.w H s.heap a (.dT T e0 kvs) from I.hok a _ hq)
  have hl:=qIt r;have hes:es.size=n:=by
   have:=congrArg qD9 h4
   simp at this;omega
  subst hes;obtain⟨f0,f1,f2,f3,f4,f5⟩:=hf it (by simp);exact zTQ (I.ok.hd hc) st h1 h3 hi fun h' eb=>⟨rfl,I.turned (t':=s.toks) (fun b o hb e=>eb b o hb e) f0 f1 f3 f4 f5⟩
 self:=fun A i s Q E st h=>by
  obtain⟨o,e,c,d⟩:=st;exact wpAny_pyIter_keyiter ⟨o,e,c,d⟩ h
variable{X:Cx}
def iDct(tl:TE):TI:=fun σ H R=>tl σ H fun x H1=>∃a T e0 kvs,x=.ref a/\H1 a=some (.dT T e0 kvs)/\R (Itd a e0 kvs.length) H1
theorem zVK{l:Expr}{tl:TE}(hl:PE X l tl):PI X tg l (iDct tl):=by
 intro pins s σ H R I h;refine thn (hl pins s σ H _ I h) fun v s1 z0=>?_
 obtain⟨x,H1,I1,r1,q1⟩:=z0;obtain⟨a,T,e0,kvs,e,hq,q⟩:=q1;subst e;cases r1;obtain⟨z,y,xs,r,o,es,ep,h1,h2,h3,h4,h5,rfl⟩:=(show ObjOk X.prog X.w H1 s1.heap a (.dT T e0 kvs) from I1.hok a _ hq)
 have hl:=qIt r;have hes:es.size=kvs.length:=by
  have:=congrArg qD9 h4
  simp at this;omega
 refine zQ5 y h1 h2 h3 ?_;refine⟨s1.heap.objs.size,[s1.heap.objs.size],_,_,H1,rfl,I1.kept (t':=s1.toks) fun b o e=>qHq _ e,zM5 a _ _ _,⟨_,qHt _ rfl,rfl,by rw[<- hes];rfl⟩,fun b hb=>?_,q⟩;have e:b=s1.heap.objs.size:=by simpa using hb
 subst e;exact I1.fpOk (qA6 _) (I1.hok.fresh (qA6 _))
end
def zSA(td ty tv:TE):TS:=fun D σ H=>tv σ H fun v H1=>td σ H1 fun x H2=>ty σ H2 fun y H3=>∃a T e0 kvs k b,x=.ref a/\H3 a=some (.dT T e0 kvs)/\y=.ref b/\TupK H3 b k/\kvs.length<sizeLine /\
 ∀e1,D.nx σ (upd H3 a (.dT (fun c=>T c\/c=b) e1 (putK kvs k v)))
section
variable{X:Cx}{pins:List (Addr×Obj)}{σ:St}{H:Hp}{s:qHp}{a b:Addr}{v:V}{r:Value}{A:qHv}{E:Value->qHp->Prop}
theorem zM6{T:Addr->Prop}{e0:Nat}{kvs:List (List KeyN×V)}{k:List KeyN}{Q:Unit->qHp->Prop}(hu:A.units+1<cLine)(I:Inv X pins σ H s)(e:H a=some (.dT T e0 kvs))(eb:TupK H b k)(l:kvs.length<sizeLine)(rv:RelV v r)
  (h:∀e1 s',Inv X pins σ (upd H a (.dT (fun c=>T c\/c=b) e1 (putK kvs k v))) s'->Q () s'):wpAny (model X.prog X.w) A (setItem (.ref a) (.ref b) r) Q E s:=by
 obtain⟨z,hd,xs,rel,dd⟩:=zWW I.hok e;have hz:xs.length<=sizeLine:=by rw[<- qIt rel];exact z
 have hl:(putK kvs k v).length<=sizeLine:=by have:=zF1 kvs k v;omega
 refine wpAny_setItem_heap (hsz:=hz) (tupleKind_room_in1 hu) (zHY I.hok eb) dd fun h' dd' hs=>?_
 obtain⟨q,es,ep,hq,h2,h3,h4,_,h5⟩:=dd';refine h ep _ (zOK I (by rw[e];exact qCp) hs ⟨q,hq⟩ ⟨hl,hd,_,(rel.put k eb rv).keeps fun c ys ec=>?_,q,es,ep,hq,h2,h3,h4,h5,rfl⟩);rw[zAF (zLH ec e (fun z=>nomatch z))];exact ec
theorem zSN{X:Cx}{o i value:Expr}{td ty tv:TE}{pos pos':Pos}(hu:X.A.units+1<cLine)(ho:PE X o td)(hi:PE X i ty)(hv:PE X value tv)(hs:qKs value (some (.Subscript o i pos')) pos.line X.env=pure false) :
  PS X (.Assign [.Subscript o i pos'] value pos) (zSA td ty tv):=by
 intro pins s σ H D I h;refine wpAny_Assign_Subscript (thn (hv pins s σ H _ I h) fun r s1 ⟨v,H1,I1,rv,q1⟩=>thn (ho pins s1 σ H1 _ I1 q1) fun u s2 ⟨x,H2,I2,rx,q2⟩=>thn (hi pins s2 σ H2 _ I2 q2) fun iv s3 z0=>?_) hs;obtain⟨y,H3,I3,ry,a,T,e0,kvs,k,b,ex,hq,ey,eb,hl,q3⟩:=z0;subst ex ey
 cases(show u=qHw a from rx)
 cases(show iv=qHw b from ry)
 exact zM6 hu I3 hq eb hl rv fun e1 s4 I4=>⟨σ,_,I4,q3 e1⟩
def zQZ(tk tv:TE):TE:=fun σ H Q=>∀p,H p=none->tk σ (upd H p (.dT (fun _=>False) 0 [])) fun x H1=>tv σ H1 fun y H2=>∃b k,x=.ref b/\TupK H2 b k/\H2 p=some (.dT (fun _=>False) 0 []) /\
 ∀e1,Q (.ref p) (upd H2 p (.dT (fun c=>False\/c=b) e1 (putK [] k y)))
theorem zPQ{X:Cx}{pos:Pos}{k v:Expr}{tk tv:TE}(hu:X.A.units+1<cLine)(hk:PE X k tk)(hv:PE X v tv):PE X (.Dict [some k] [v] pos) (zQZ tk tv):=by
 intro pins s σ H Q I q;have hn:=I.hok.fresh (qA6 s.heap.objs.size);have I1:=I.laid (a:=s.heap.objs.size) (o:=.dT (fun _=>False) 0 []) (h':=s.heap.push { cls:=.type "dict",data:=.dict #[] }) (t':=s.toks) (fun _ _ q=>qHq _ q) (qA6 _) (zKO s.heap I.big);have hp:PPs X pos [some k] [v] [(tk,tv)]:=zPO hk hv zSO;have q1:zM8 [(tk,tv)] σ (upd H s.heap.objs.size (.dT (fun _=>False) 0 [])) (fun ps H2=>match ps with
   |[(x,y)]=>∃b k,x=.ref b/\TupK H2 b k/\H2 s.heap.objs.size=some (.dT (fun _=>False) 0 []) /\
    ∀e1,Q (.ref s.heap.objs.size) (upd H2 s.heap.objs.size (.dT (fun c=>False\/c=b) e1 (putK [] k y)))
   |_=>False):=q _ hn
 unfold eval;refine wpAny_bind (wpAny_standAt ?_);have e:(evalEachOpt [some k] X.env).zip (qHj (fun v=>do let x <- v;qLq pos;pure x) (evalEach [v] X.env))=qHj (fun p=>(some p.1,p.2)) (pairTrees [some k] [v] X.env pos):=rfl;rw[e,dictDisplay_pairs _ (by intro z;cases z) (by exact(by decide:(1:Nat)<17))];refine wpAny_bind ?_;unfold subDict;refine wpAny_bind (wpAny_alloc ?_);refine wpAny_bind (wpAny_holding ?_);rw[if_pos (by exact(by decide:(1:Nat)<=15))];refine wpAny_bind (thn (hp pins _ σ _ _ I1 q1) fun vs s2 z0=>?_);obtain⟨ps,H2,I2,rel,q2⟩:=z0;cases rel with
 |nil=>exact q2.elim
 |@cons a u as us h t=>
  cases t with
  |cons _ _=>exact q2.elim
  |nil=>
   obtain⟨x,y⟩:=a;obtain⟨u1,u2⟩:=u;obtain⟨b,kk,rfl,eb,e2,q3⟩:=q2;obtain⟨r1,r2⟩:=h
   cases(show u1=qHw b from r1)
   refine wpAny_holding ?_;obtain⟨z,hd,xs,rel,dd⟩:=zWW I2.hok e2;cases rel;rw[qFy];refine wpAny_bind (wpAny_bind (wpAny_bind (wpAny_dictSet_heap (knd:=tupleKind (mixN X.prog X.w)) (show X.A.units<cLine by omega) (zHY I2.hok eb) dd (fun h' dd' hs=>?_) (qAt _))));obtain⟨qo,es,ep,hq,h2,h3,h4,_,h5⟩:=dd';refine wpAny_pure ?_;show wpAny _ _ (forIn [] _ _) _ _ _;rw[qGi];refine wpAny_pure (wpAny_pure (wpAny_pure (wpAny_pure ⟨.ref s.heap.objs.size,_,zOK (ob:=.dT (fun c=>False\/c=b) ep (putK [] kk y)) I2 (by rw[e2];exact qCp) hs ⟨qo,hq⟩ ⟨?_,hd,_,(KT.put (T:=fun _=>False) .nil kk eb r2).keeps fun c ys ec=>?_,qo,es,ep,hq,h2,h3,h4,h5,rfl⟩,rfl,q3 ep⟩)))
   ·have:=zF1 ([]:List (List KeyN×V)) kk y;rw[qIn];simp at this ⊢;omega
   ·rw[zAF (zLH ec e2 (fun z=>nomatch z))];exact ec
end
end L2
namespace Mi
open PySem
noncomputable section
noncomputable def kNo:Sw->Option (Sum Int Str)
 |.non=>none
 |.bl b=>some (.inl (if b then 1 else 0))
 |.int i=>some (.inl i)
 |.str x=>some (.inr x)
abbrev kNs(k:List Sw):List (Option (Sum Int Str)):=k.map kNo
def swsD:List Dt->Option (List Sw)
 |[]=>some []
 |d::r=>match swD d,swsD r with
  |some a,some q=>some (a::q)
  |_,_=>none
def kyU:Dt->Option (List Sw)
 |.tup ds=>swsD ds
 |_=>none
noncomputable def posT(ks:List (List Sw))(k:List Sw):Option Nat:=ks.findIdx? fun q=>decide (kNs q=kNs k)
def getT(ks:List (List Sw))(ds:List Dt)(k:List Sw):Option Dt:=match posT ks k with
 |some j=>ds[j]?
 |none=>none
noncomputable def noB1:Sw->Bool
 |.bl _=>false
 |_=>true
def noBs(ks:List (List Sw)):Bool:=ks.all fun k=>k.all noB1
def fitT(ks:List (List Sw))(k:List Sw):Bool:=(posT ks k).isNone || !noBs ks||k.all noB1
def putKs(ks:List (List Sw))(k:List Sw):List (List Sw):=match posT ks k with
 |some _=>ks
 |none=>ks++[k]
def putDs(ks:List (List Sw))(ds:List Dt)(k:List Sw)(v:Dt):List Dt:=match posT ks k with
 |some j=>ds.set j v
 |none=>ds++[v]
def eDtt0:EM:=fun _=>okR (.dtt [] [])
def eTOne(k v:EM):EM:=fun ρ=>zA1 (k ρ) fun y=>zA1 (v ρ) fun z=>match kyU y with
 |some q=>okR (.dtt [q] [z])
 |none=>none
def dinT(ng:Bool)(x y:Dt):Option Dt:=match y with
 |.dtt ks _=>match kyU x with
  |some k=>some (.bl (if ng=true then !(posT ks k).isSome else(posT ks k).isSome))
  |none=>none
 |_=>none
def eTGet(d k x:EM):EM:=fun ρ=>zA1 (d ρ) fun D=>match D with
 |.dtt ks ds=>zA1 (k ρ) fun y=>zA1 (x ρ) fun z=>match kyU y with
  |some q=>okR (match getT ks ds q with|some w=>w|none=>z)
  |none=>none
 |_=>none
def eTIx(d k:EM):EM:=fun ρ=>zA1 (d ρ) fun D=>match D with
 |.dtt ks ds=>zA1 (k ρ) fun y=>match kyU y with
  |some q=>optR (getT ks ds q)
  |none=>none
 |_=>none
def putGo(i n:Nat)(e1:EM)(ρ:Ro)(ρ':Rh)(v:Dt):R Ro:=match ρ[i]? with
 |some (some (.dtt ks ds,k+1))=>zA1 (e1 ρ') fun y=>match kyU y with
  |some q=>@ite _ (v.dep<=n/\v.dep<=k/\ks.length<=100000/\fitT ks q=true) (qA1 _) (okR (ρ.set i (some (.dtt (putKs ks q) (putDs ks ds q v),k+1)))) none
  |none=>none
 |_=>none
def sTput(i n:Nat)(e1 e2:EM):SM:=fun ρ=>zA1 (e2 (full ρ)) fun v=>zA1 (putGo i n e1 ρ (full ρ) v) fun ρ2=>okR (.nx ρ2)
def sTmpPut(j i n:Nat)(e e1 e2:EM):SM:=fun ρ=>if i=j then none else zA1 (e (full ρ)) fun a=>zA1 (e2 ((full ρ).set j (some a))) fun v=>zA1 (putGo i n e1 ρ ((full ρ).set j (some a)) v) fun ρ2=>okR (.nx (ρ2.set j none))
def sRetTIx(L i:Nat)(e:EM):SM:=fun ρ=>match ρ[i]? with
 |some (some (.dtt ks ds,k+1))=>zA1 (e (full ρ)) fun y=>match kyU y with
  |some q=>match getT ks ds q with
   |some d=>if k=L then okR (.rt d)else none
   |none=>none
  |none=>none
 |_=>none
noncomputable def tupD:List Dt->Option Dt
 |[.lst xs]=>some (.tup xs)
 |_=>none
def iDk(e:EM):IM:=fun ρ=>zA1 (e ρ) fun d=>match d with
 |.dtt ks ds=>if noBs ks=true/\ks.length=ds.length then okR (ks.map fun k=>.tup (k.map swT))else none
 |_=>none
end
noncomputable section
def eVL(i:Nat):EM:=fun ρ=>match ρ[i]? with
 |some (some (.loc _ d))=>okR d
 |_=>none
def sItemL(i n:Nat)(e1 e2:EM):SM:=fun ρ=>zA1 (e2 (full ρ)) fun d=>match ρ[i]? with
 |some (some (.loc p (.lst ds),k+2))=>zA1 (e1 (full ρ)) fun z=>match z with
  |.int z=>match ixA ds.length z with
   |some q=>if d.dep<=n/\d.dep<=k then okR (.nx (ρ.set i (some (.loc p (.lst (ds.set q d)),k+2))))else none
   |none=>none
  |_=>none
 |_=>none
inductive OutM where
 |nx (ρ:Ro)|rt (ρ:Ro) (d:Dt)|rv (ρ:Ro) (i:Nat)
abbrev SMM:=Ro->R OutM
def mLift(s:SM):SMM:=fun ρ=>zA1 (s ρ) fun o=>match o with
 |.nx ρ'=>okR (.nx ρ')
 |_=>none
def mSeq(a b:SMM):SMM:=fun ρ=>zA1 (a ρ) fun o=>match o with
 |.nx ρ'=>b ρ'
 |o=>okR o
def mIf(c:TM)(a b:SMM):SMM:=fun ρ=>zA1 (c (full ρ)) fun k=>if k=true then a ρ else b ρ
def mRet(e:EM):SMM:=fun ρ=>zA1 (e (full ρ)) fun d=>if d.dep=0 then okR (.rt ρ d)else none
noncomputable def heldAt(i0 k a:Nat)(ρ:Ro):Option Dt:=match ρ[i0]? with
 |some (some (.loc b d,l))=>if b=a/\l=k+1 then some d else none
 |_=>none
def endM(L i0 k a:Nat):OutM->R (Dt×Dt)
 |.nx ρ=>optR ((heldAt i0 k a ρ).map fun d0=>(.non,d0))
 |.rt ρ d=>optR ((heldAt i0 k a ρ).map fun d0=>(d,d0))
 |.rv ρ i=>match ρ[i]? with
  |some (some (d,l))=>if l=L/\i≠i0 then optR ((heldAt i0 k a ρ).map fun d0=>(d,d0))else none
  |_=>none
def startM(N i0 k a:Nat)(ds:List Dt):Ro:=match ds[i0]? with
 |some d0=>(startO N ds).set i0 (some (.loc a d0,k+1))
 |none=>[]
def runM(L P N i0 k:Nat)(m:SMM)(a:Nat)(ds:List Dt):R (Dt×Dt):=if ds.length=P/\i0<P then zA1 (m (startM N i0 k a ds)) (endM L i0 k a)else none
abbrev FW:=List Dt->R (Dt×Dt)
noncomputable def uniM(f:Nat->FW):FW:=fun ds=>@ite _ (∀a,f a ds=f 0 ds) (qA1 _) (f 0 ds) none
theorem zM3{f:Nat->FW}{ds:List Dt}{r:R (Dt×Dt)}(h:∀a,f a ds=r):uniM f ds=r:=by
 unfold uniM;rw[if_pos fun a=>(h a).trans (h 0).symm];exact h 0
noncomputable def zYS:Dt->Bool
 |.lst _=>true
 |.dtt _ _=>true
 |_=>false
def sCallW(j i k L:Nat)(am:AM)(f:FW):SM:=fun ρ=>match ρ[i]? with
 |some (some (d0,l))=>if l=k/\i≠j/\zYS d0=true then zA1 (am (frz ρ)) fun es=>zA1 (f (d0::es)) fun r=>okR (.nx ((ρ.set i (some (r.2,k))).set j (some (r.1,L))))else none
 |_=>none
def sAddW(j i k:Nat)(am:AM)(f:FW):SM:=fun ρ=>match ρ[i]?,ρ[j]? with
 |some (some (.loc p d0,l)),some (some (.int s,_))=>if l=k+1/\i≠j then zA1 (am (frz ρ)) fun es=>zA1 (f (d0::es)) fun r=>match r.1 with
  |.int c=>okR (.nx ((ρ.set i (some (.loc p r.2,k+1))).set j (some (.int (s+c),0))))
  |_=>none else none
 |_,_=>none
def eCallD(f:FM)(a:AM):EM:=fun ρ=>zA1 (a ρ) fun xs=>f (xs++[.non])
end
end Mi
namespace Mp
open Mi PySem
noncomputable def wrd(ls row:List Nat):List Nat:=row.map fun p=>ls.getD p 0
structure Twice(n:Nat)(row:List Nat):Prop where
 len:row.length=2*n
 cnt:∀v,row.count v=if v<n then 2 else 0
section
variable{n:Nat}{row:List Nat}(t:Twice n row)
include t
end
end Mp
namespace Mp
noncomputable def ords(row:List Nat):List Nat:=row.foldl (fun o p=>if p∈o then o else o++[p]) []
noncomputable def puts(S:List (Nat×Int))(N:List Int):List Int:=S.foldl (fun N p=>N.set p.1 p.2) N
def inA(row:List Nat)(a:Nat):Nat:=4*(ords row).idxOf (row.getD a 0)+2*(row.take a).count (row.getD a 0)
def tieP(row:List Nat)(a:Nat):List (Nat×Int):=[(inA row ((a+row.length-1)%row.length)+1,(inA row a:Int)),(inA row a,((inA row ((a+row.length-1)%row.length)+1:Nat):Int))]
noncomputable def sh(s:Nat)(cs:List Nat):List Nat:=cs.drop s++cs.take s
def wr(cs:List Nat):List Nat:=cs.map fun c=>97+(ords cs).idxOf c
end Mp
namespace L2
open PySem PySem.Spec PyProof.Rows
def zV3(K:qA2):List V->Hp->VK->Prop:=fun xs H Q=>∃p ys,xs=[.ref p]/\((SqL K H p ys/\∀l,H l=none->Q (.ref l) (upd H l (.tup ys)))\/(SqT K H p ys/\Q (.ref p) H))
theorem zKH{X:Cx}{K:qA2}(hK:X.K=K:=by rfl):zBU X (.type "tuple") (zV3 K):=hK▸zH0
end L2
namespace L3
open PySem PySem.Spec
open L2 hiding Rep RepL
open Mi (Dt Xn R okR zA1 optR zA0 zA4 zA7 zA5 zA6 Rh Sl Ro EM TM AM FM IM SM OM Tg Out zAN zAO zAQ full frz frz1 frzAt)
section
variable[Kc]{mg:Str->Option Value}{E:XK}{n k:Nat}{te:TE}{e:EM}
end
theorem zGQ(k:List Mi.Sw):k.map kNw=Mi.kNs k:=qAs fun w _=>by cases w<;>rfl
theorem zND:noBw=Mi.noB1:=by funext w;cases w<;>rfl
theorem zRB(ks:List (List Mi.Sw)):noBk ks=Mi.noBs ks:=by unfold noBk Mi.noBs;rw[zND]
theorem zSZ(k:List Mi.Sw):k.all noBw=k.all Mi.noB1:=by rw[zND]
theorem zMC[Kc]{G:Hp}:∀{ds:List Dt}{xs:List V}{q:List Mi.Sw},RepL G ds xs->Mi.swsD ds=some q->xs=q.map swV
 |[],_,q,h,e=>by cases e;exact h
 |d::ds,_,q,h,e=>by
  obtain⟨x,r,rfl,h1,h2⟩:=h;unfold Mi.swsD at e;cases e1:Mi.swD d with
  |none=>rw[e1]at e;cases e
  |some a=>
   cases e2:Mi.swsD ds with
   |none=>rw[e1,e2]at e;cases e
   |some b=>
    rw[e1,e2]at e;cases e;rw[zMC h2 e2]
    have:x=swV a:=by
     cases d with
     |non=>cases e1;exact h1
     |bl _=>cases e1;exact h1
     |int _=>cases e1;exact h1
     |str _=>cases e1;exact h1
     |_=>cases e1
    rw[this];rfl
theorem zYN(q:List Mi.Sw):KsOf (q.map swV) (q.map kNw):=by
 induction q with
 |nil=>exact .nil
 |cons w r ih=>exact .cons (by cases w<;>rfl) ih
theorem zNC{q:List Mi.Sw}(h:q.all noBw=true):∀y∈q.map swV,isBl y=false:=by
 intro y hy;obtain⟨w,hw,rfl⟩:=qAb.mp hy
 have:=qBf.mp h w hw
 cases w<;>first|rfl|cases this
theorem zU0{ys:List V}{q:List Mi.Sw}(h:KsOf ys (q.map kNw))(hn:∀y∈ys,isBl y=false)(hq:q.all noBw=true):ys=q.map swV:=by
 induction q generalizing ys with
 |nil=>cases h;rfl
 |cons w r ih=>
  cases h with
  |cons h1 h2=>
   rename_i y ys
   have e1:=hn y (qAi ..);have hq':=qBf.mp hq;have e2:=hq' w (qAi ..);rw[ih h2 (fun z hz=>hn z (qA9 _ hz)) (qBf.mpr fun z hz=>hq' z (qA9 _ hz))]
   have:y=swV w:=by
    cases y<;>cases w<;>first|(simp[isBl]at e1;done)|(simp[noBw]at e2;done)|(cases h1;rfl)|cases h1
   rw[this];rfl
theorem zEU{ks:List (List Mi.Sw)}{k:List Mi.Sw}{j:Nat}(h:Mi.posT ks k=some j):∃q,ks[j]?=some q/\Mi.kNs q=Mi.kNs k:=by
 unfold Mi.posT at h;obtain⟨h1,h2,_⟩:=List.findIdx?_eq_some_iff_getElem.mp h;exact⟨ks[j],qA5 h1,by simpa using h2⟩
theorem zHP{ks:List (List Mi.Sw)}{k:List Mi.Sw}(h:Mi.posT ks k=none):∀q∈ks,Mi.kNs q≠Mi.kNs k:=by
 unfold Mi.posT at h;intro q hq
 have:=List.findIdx?_eq_none_iff.mp h q hq
 simpa using this
theorem zP7(k:List Mi.Sw):∀(ks:List (List Mi.Sw))(xs:List V),ks.length=xs.length->valV (kzip ks xs) (k.map kNw)=(Mi.posT ks k).bind fun j=>xs[j]?
 |[],[],_=>rfl
 |[],_::_,h=>by simp at h
 |_::_,[],h=>by simp at h
 |q::ks,x::xs,h=>by
  have ih:=zP7 k ks xs (by simpa using h);unfold valV kzip at ih ⊢;unfold Mi.posT at ih ⊢;simp only[qAj,List.zip_cons_cons,qC2,qF7];rw[zGQ q,zGQ k]
  by_cases e:Mi.kNs q=Mi.kNs k
  ·simp[e]
  ·simp only[e,decide_false];rw[zGQ k]at ih;rw[ih];cases List.findIdx? (fun q=>decide (Mi.kNs q=Mi.kNs k)) ks<;>simp
section
variable[Kc]{mg:Str->Option Value}{E:XK}{L n k l:Nat}{te ta tb tx td tk tv:TE}{e ea eb ex ed mk mv:EM}{t:TA}{m:AM}
theorem zFX{G:Hp}{d:Dt}{v:V}{q:List Mi.Sw}(h:Rep G d v)(e:Mi.kyU d=some q):∃b,v=.ref b/\G b=some (.tup (q.map swV)):=by
 cases d with
 |tup ds=>
  obtain⟨a,xs,rfl,ha,r⟩:=h;exact⟨a,rfl,by rw[ha,zMC r e]⟩
 |_=>cases e
theorem zDV{H:Hp}{b:Addr}{q:List Mi.Sw}(h:H b=some (.tup (q.map swV))):TupK H b (q.map kNw):=⟨_,h,zYN q⟩
theorem zTW:DE mg E zR0 Mi.eDtt0 (n+1):=by
 intro G H σ ρ Q s w p a ha;have fr:Fr G H G H (fun _=>False):=⟨Ext.refl s,fun _ z=>z.elim⟩
 exact p (.ref a) G _ _ (fr.add ha (.dT (fun _=>False) 0 [])) ⟨a,fun _=>False,0,[],fun _ _=>False,rfl,zAE,rfl,⟨qEp,fun _ z=>z.elim⟩,⟨rfl,fun q d x h=>by simp at h,.inl rfl,fun _ z=>z,fun _ _ _ z=>z.elim,fun _ _ z=>z.elim⟩⟩
theorem zTT(K:DE mg E tk mk k)(V:DE mg E tv mv n):DE mg E (zQZ tk tv) (Mi.eTOne mk mv) (n+1):=by
 intro G H σ ρ Q s w p pa hp;have sn:=L2.same_new hp (.dT (fun _=>False) 0 []);have x0:Ext G H G _:=Ext.same s sn;refine(zAS K).step (errE.from x0) x0.in' w p fun d u G1 H1 S _ fr o p1=>?_
 refine V.step ((errE.from x0).from fr.ext) fr.ext.in' (w.mono fr.ext.g) p1 fun z v2 G2 H2 S2 _ fr2 o2 p2=>?_
 cases ek:Mi.kyU d with
 |none=>rw[ek]at p2;exact p2.elim
 |some q=>
  rw[ek]at p2;obtain⟨b,rfl,hb⟩:=zFX (Rep.mono fr2.ext.g o) ek;have x2:=x0.trans (fr.ext.trans fr2.ext);have hpa:H2 pa=some (.dT (fun _=>False) 0 []):=fr2.ext.h _ _ (fr.ext.h _ _ zAE);have gpa:G2 pa=none:=by
   rw[(fr.ext.trans fr2.ext).old pa (by rw[zAE];simp)];exact s.free hp
  have nS2:¬S2 pa:=fun z=>by
   have:=(fr2.new pa z).1
   rw[fr.ext.h _ _ zAE]at this;cases this
  refine⟨b,q.map kNw,rfl,zDV (fr2.ext.in' _ _ hb),hpa,fun e1=>?_⟩;refine p2 (.ref pa) G2 _ (fun a=>a=pa\/S2 a) ⟨⟨x2.g,fun c o hc=>?_,fun c o hc=>?_,x2.old⟩,fun a ha=>?_⟩ ⟨pa,_,e1,[v2],fun r c=>r=0/\S2 c,rfl,zAE,rfl,⟨by simp,fun c hc=>?_⟩,⟨rfl,fun r d' x' h1 h2=>?_,.inl rfl,fun r z=>nS2 z.2,fun r r' c z1 z2=>by rw[z1.1,z2.1],fun r c z=>.inr z.2⟩⟩
  ·have:c≠pa:=fun z=>by rw[z,hp]at hc;cases hc
   rw[zAF this];exact x2.h _ _ hc
  ·have:c≠pa:=fun z=>by rw[z,gpa]at hc;cases hc
   rw[zAF this];exact x2.in' _ _ hc
  ·rcases ha with rfl|ha
   ·exact⟨hp,gpa,by rw[zAE];simp⟩
   ·obtain⟨n1,n2,n3⟩:=fr2.new a ha;refine⟨(sn.trans fr.ext.h).free n1,n2,?_⟩
    by_cases z:a=pa
    ·subst z;rw[zAE];simp
    ·rw[zAF z];exact n3
  ·rcases hc with hc|rfl
   ·exact hc.elim
   ·exact⟨_,hb,fun hn=>zNC (by simpa[noBk]using hn)⟩
  ·cases r with
   |zero=>
    simp at h1 h2;subst h1 h2;exact(o2.upd nS2).sub fun c hc=>⟨rfl,hc⟩
   |succ r=>simp at h1
theorem de_tin(A:DE mg E ta ea k)(B:DE mg E tb eb l):DE mg E (tDIn ta tb) (Mi.eB (Mi.dinT false) ea eb) n:=by
 intro G H σ ρ Q s w p;refine(zAS A).step errE s w p fun d v G1 H1 S _ fr o p1=>?_
 refine(zAS B).step (errE.from fr.ext) fr.ext.in' (w.mono fr.ext.g) p1 fun e u G2 H2 S2 _ fr2 o2 p2=>?_
 cases e with
 |dtt ks ds=>
  obtain⟨a,T,e0,xs,rfl,ha,hl,ht,r⟩:=o2;have p3:PostE mg E G H n (optR (match Mi.kyU d with|some k=>some (.bl (if false=true then !(Mi.posT ks k).isSome else(Mi.posT ks k).isSome))|none=>none)) Q:=p2;cases ek:Mi.kyU d with
  |none=>rw[ek]at p3;exact p3.elim
  |some q=>
   rw[ek]at p3;obtain⟨b,rfl,hb⟩:=zFX (Rep.mono fr2.ext.g o) ek;refine⟨a,_,rfl,DGet.t (fr2.ext.in' _ _ ha) (zDV (fr2.ext.in' _ _ hb)),?_⟩;have hx:ks.length=xs.length:=by rw[r.length];exact hl
   have e:(valV (kzip ks xs) (q.map kNw)).isSome=(Mi.posT ks q).isSome:=by
    rw[zP7 q ks xs hx];cases ej:Mi.posT ks q with
    |none=>rfl
    |some j=>
     obtain⟨q',h1,_⟩:=zEU ej;have hj:j<xs.length:=by rw[<- hx];exact(qA4.mp h1).1
     show(xs[j]?).isSome=true
     rw[qA5 hj];rfl
   rw[e];exact PostE.val (PostE.from p3 (fr.ext.trans fr2.ext)) (Ext.refl fr2.ext.in') rfl rfl
 |_=>exact p2.elim
theorem zJC{G:Hp}{ks:List (List Mi.Sw)}{ds:List Dt}{xs:List V}{q:List Mi.Sw}(hl:ks.length=ds.length)(r:RepL G ds xs) :
  (Mi.getT ks ds q=none->valV (kzip ks xs) (q.map kNw)=none)/\∀d,Mi.getT ks ds q=some d->∃x,valV (kzip ks xs) (q.map kNw)=some x/\Rep G d x:=by
 have hx:ks.length=xs.length:=by rw[r.length];exact hl
 rw[zP7 q ks xs hx];unfold Mi.getT;cases ej:Mi.posT ks q with
 |none=>exact⟨fun _=>rfl,fun d z=>nomatch z⟩
 |some j=>
  obtain⟨q',h1,_⟩:=zEU ej;have hj:j<ks.length:=(qA4.mp h1).1;have e1:ds[j]?=some (ds[j]'(by omega)):=qA5 _;have e2:xs[j]?=some (xs[j]'(by omega)):=qA5 _;refine⟨fun z=>?_,fun d z=>⟨_,e2,zBF r z e2⟩⟩;have z':ds[j]?=none:=z;rw[e1]at z';cases z'
theorem zX3(D:DE mg E td ed k)(A:DE mg E ta ea l):DE mg E (zMB td ta) (Mi.eTIx ed ea) 0:=by
 intro G H σ ρ Q s w p;refine(zAS D).step errE s w p fun d v G1 H1 S _ fr o p1=>?_
 cases d with
 |dtt ks ds=>
  obtain⟨a,T,e0,xs,rfl,ha,hl,ht,r⟩:=o;have p1':PostE mg E G H 0 (zA1 (ea ρ) fun y=>match Mi.kyU y with|some q=>optR (Mi.getT ks ds q)|none=>none) Q:=p1;refine(zAS A).step (errE.from fr.ext) fr.ext.in' (w.mono fr.ext.g) p1' fun y u G2 H2 S2 _ fr2 o2 p2=>?_
  cases ek:Mi.kyU y with
  |none=>rw[ek]at p2;exact p2.elim
  |some q=>
   rw[ek]at p2;obtain⟨b,rfl,hb⟩:=zFX o2 ek;cases eg:Mi.getT ks ds q with
   |none=>dsimp only at p2;rw[eg]at p2;exact p2.elim
   |some c=>
    dsimp only at p2;rw[eg]at p2;obtain⟨x,h1,h2⟩:=(zJC hl r).2 c eg;refine⟨a,x,rfl,?_,PostE.kept (PostE.from p2 (fr.ext.trans fr2.ext)) (Ext.refl fr2.ext.in') (Rep.mono fr2.ext.g h2)⟩;rw[<- h1];exact DGet.t (fr2.ext.h _ _ (fr.ext.in' _ _ ha)) (zDV (fr2.ext.in' _ _ hb))
 |_=>exact p1.elim
theorem zTU(D:DE mg E td ed k)(A:DE mg E ta ea l){j:Nat}(X:DE mg E tx ex j):DE mg E (zR1 td ta tx) (Mi.eTGet ed ea ex) 0:=by
 intro G H σ ρ Q s w p;refine(zAS D).step errE s w p fun d v G1 H1 S _ fr o p1=>?_
 cases d with
 |dtt ks ds=>
  obtain⟨a,T,e0,xs,rfl,ha,hl,ht,r⟩:=o;refine⟨a,rfl,.inr ⟨_,_,_,.inl (fr.ext.in' _ _ ha)⟩,?_⟩;have p1':PostE mg E G H 0 (zA1 (ea ρ) fun y=>zA1 (ex ρ) fun z=>match Mi.kyU y with|some q=>okR (match Mi.getT ks ds q with|some w=>w|none=>z)|none=>none) Q:=p1;refine(zAS A).step (errE.from fr.ext) fr.ext.in' (w.mono fr.ext.g) p1' fun y u G2 H2 S2 _ fr2 o2 p2=>?_
  have x2:=fr.ext.trans fr2.ext;refine(zAS X).step (errE.from x2) fr2.ext.in' (w.mono x2.g) p2 fun z u3 G3 H3 S3 _ fr3 o3 p3=>?_
  cases ek:Mi.kyU y with
  |none=>rw[ek]at p3;exact p3.elim
  |some q=>
   rw[ek]at p3;obtain⟨b,rfl,hb⟩:=zFX (Rep.mono fr3.ext.g o2) ek;dsimp only at p3;refine⟨_,DGet.t (fr3.ext.h _ _ (fr2.ext.h _ _ (fr.ext.in' _ _ ha))) (zDV (fr3.ext.in' _ _ hb)),?_⟩;have p4:=PostE.from p3 (x2.trans fr3.ext);cases eg:Mi.getT ks ds q with
   |none=>
    rw[eg]at p4;rw[(zJC hl r).1 eg];exact PostE.kept p4 (Ext.refl fr3.ext.in') o3
   |some c=>
    rw[eg]at p4;obtain⟨x,h1,h2⟩:=(zJC hl r).2 c eg;rw[h1];exact PostE.kept p4 (Ext.refl fr3.ext.in') (Rep.mono (fr2.ext.g.trans fr3.ext.g) h2)
 |_=>exact p1.elim
theorem zKX:CBi (zV3 Kc.K) Mi.tupD 1:=by
 intro mg E G H ds vs Q s h p;cases ds with
 |nil=>exact p.elim
 |cons a0 r0=>
  cases r0 with
  |cons _ _=>cases a0<;>exact p.elim
  |nil=>
   cases a0 with
   |lst es=>
    obtain⟨x,rfl,a,xs,rfl,ha,ra⟩:=zDW h;refine⟨a,xs,rfl,.inl ⟨SqL.of (s _ _ ha),fun l hl=>?_⟩⟩;have fr:Fr G H G H (fun _=>False):=⟨Ext.refl s,fun _ z=>z.elim⟩
    exact p (.ref l) G _ _ (fr.add hl (.tup xs)) ⟨l,xs,fun _ _=>False,rfl,zAE,⟨ra.length,fun q d y h1 h2=>zBF ra h1 h2,.inl rfl,fun _ z=>z,fun _ _ _ z=>z.elim,fun _ _ z=>z.elim⟩⟩
   |_=>exact p.elim
theorem rep_key{G:Hp}:∀(q:List Mi.Sw),RepL G (q.map Mi.swT) (q.map swV)
 |[]=>rfl
 |w::r=>⟨swV w,r.map swV,rfl,by cases w<;>rfl,rep_key r⟩
theorem zWJ{G:Hp}{a:Addr}{T:Addr->Prop}{e0:Nat}{ks:List (List Mi.Sw)}{xs:List V}(hl:ks.length=xs.length)(ha:G a=some (.dT T e0 (kzip ks xs)))(ht:KeyT G T ks)(hn:noBk ks=true) :
  ItOk (Itd a e0 (kzip ks xs).length) G (ks.map fun k=>.tup (k.map Mi.swT)):=by
 have hz:(kzip ks xs).length=ks.length:=by simp[kzip,hl]
 intro i G1 H1 s1 s2;have hS:=s2 _ _ (s1 _ _ ha);refine⟨fun hi=>⟨by rw[hz];simpa using hi,T,_,hS,rfl⟩,fun hi=>⟨by rw[hz];simpa using hi,T,_,hS,rfl⟩,fun x H2 d hd hy=>?_⟩;obtain⟨rfl,hy⟩:=hy;obtain⟨b,p,rfl,hp,⟨ys,hb,hk⟩,hT⟩:=hy T _ hS rfl;obtain⟨ys',hb',hno⟩:=ht.2 b hT;have e1:H2 b=some (.tup ys'):=s2 _ _ (s1 _ _ hb');rw[hb]at e1;cases e1;rw[qAe]at hd;cases ek:ks[i]? with
 |none=>rw[ek]at hd;cases hd
 |some kk=>
  rw[ek]at hd;cases hd;have hp':=hp;unfold kzip at hp';have hi:i<ks.length:=(qA4.mp ek).1;have e3:p.1=kk.map kNw:=by
   have h1:=qA4.mp hp;obtain⟨hi1,rfl⟩:=h1;have h2:=qA4.mp ek;obtain⟨hi2,rfl⟩:=h2;simp[kzip]
  rw[e3]at hk;have hkk:kk.all noBw=true:=qBf.mp hn kk (qAw ek);rw[zU0 hk (hno hn) hkk]at hb';exact⟨G1,Ext.refl s2,b,_,rfl,s1 _ _ hb',rep_key kk⟩
theorem zYZ(A:DE mg E ta ea k):DI mg E (iDct ta) (Mi.iDk ea) false:=by
 intro G H σ ρ Q s w p;refine(zAS A).step errI s w p fun d v G1 H1 S _ fr o p1=>?_
 cases d with
 |dtt ks ds=>
  obtain⟨a,T,e0,xs,rfl,ha,hl,ht,r⟩:=o;dsimp only at p1
  split at p1
  ·rename_i hz
   exact⟨a,T,e0,_,rfl,fr.ext.in' _ _ ha,p1 _ G1 H1 fr.ext (zWJ (by rw[r.length];exact hl) ha ht (by rw[zRB];exact hz.1))⟩
  ·exact p1.elim
 |_=>exact p1.elim
end
theorem zPL{ks:List (List Mi.Sw)}{xs:List V}{k:List Mi.Sw}{y:V}(hl:ks.length=xs.length)(h:Mi.posT ks k=none):putK (kzip ks xs) (k.map kNw) y=kzip (ks++[k]) (xs++[y]):=by
 unfold putK;have e:((kzip ks xs).any fun kv=>decide (kv.1=k.map kNw))=false:=by
  rw[qFa]
  rintro⟨a,b⟩ hm hd
  have ha:=(qCq hm).1;obtain⟨q,hq,rfl⟩:=qAb.mp ha
  have:=zHP h q hq
  rw[<- zGQ,<- zGQ]at this;exact this (by simpa using hd)
 rw[e,if_neg (by simp)];unfold kzip;rw[qBs,List.zip_append (by simpa using hl)];rfl
theorem zPK{ks:List (List Mi.Sw)}{xs:List V}{k:List Mi.Sw}{y:V}{j:Nat}(hl:ks.length=xs.length)(hn:(ks.map fun k=>k.map kNw).Nodup)(h:Mi.posT ks k=some j):putK (kzip ks xs) (k.map kNw) y=kzip ks (xs.set j y):=by
 obtain⟨q,hq,hk⟩:=zEU h;rw[<- zGQ,<- zGQ]at hk;have hj:j<ks.length:=(qA4.mp hq).1;have hqj:ks[j]=q:=(qA4.mp hq).2;unfold putK;have e:((kzip ks xs).any fun kv=>decide (kv.1=k.map kNw))=true:=by
  rw[qD0];refine⟨((ks.map fun k=>k.map kNw)[j]'(by simpa using hj),xs[j]'(by omega)),?_,?_⟩
  ·unfold kzip;rw[qD4];exact⟨j,by simp;omega,by simp⟩
  ·simp[hqj,hk]
 rw[e,if_pos rfl];unfold kzip
 apply qB9
 ·simp
 ·intro i h1 h2;have hi:i<ks.length:=by simp at h1;omega
  simp only[qCn,List.getElem_zip]
  by_cases hij:i=j
  ·subst hij;rw[if_pos (by rw[hqj];exact hk)];simp
  ·have hne:¬(ks[i].map kNw=k.map kNw):=fun z=>by
    have z2:(ks.map fun k=>k.map kNw)[i]'(by simpa using hi)=(ks.map fun k=>k.map kNw)[j]'(by simpa using hj):=by
     simp only[qCn];rw[z,hqj,hk]
    exact hij ((qE4 hn).mp z2)
   rw[if_neg hne];rw[List.getElem_set_ne (fun z=>hij z.symm)]
theorem zMD:∀{es:List Dt}{c:List Mi.Sw},Mi.swsD es=some c->Dt.depL es=0
 |[],_,_=>rfl
 |d::es,c,ek=>by
  unfold Mi.swsD at ek;cases g1:Mi.swD d with
  |none=>rw[g1]at ek;cases ek
  |some a1=>
   cases g2:Mi.swsD es with
   |none=>rw[g1,g2]at ek;cases ek
   |some b1=>
    rw[Dt.depL,zMD g2];cases d<;>first|rfl|cases g1
section
variable[Kc]{mg:Str->Option Value}{E:XK}{L n k l:Nat}{te ta tb tx td t1 t2:TE}{e ea eb ex ed e1 e2:EM}{u:TS}{m m':SM}
theorem Kids.snoc{G H:Hp}{S:Addr->Prop}{a p:Addr}{ds:List Dt}{xs:List V}{T:Nat->Addr->Prop}{S':Addr->Prop}{d:Dt}{v:V}{o:HO}(kd:Kids (Own G H n) S a ds xs T)(w:Own G (upd H p o) n S' d v)(hp:∀r,¬T r p)(ha:¬S' a)
  (hd:∀r b,T r b->S' b->False):Kids (Own G (upd H p o) n) (fun b=>S b\/S' b) a (ds++[d]) (xs++[v]) (fun r b=>(r<ds.length/\T r b)\/(r=ds.length/\S' b)):=by
 refine⟨by simp[kd.len],fun r d' z g1 g2=>?_,.inl kd.top,fun r z=>?_,fun r r' b z1 z2=>?_,fun r b z=>?_⟩
 ·by_cases hr:r<ds.length
  ·rw[qA8 hr]at g1;rw[qA8 (by rw[kd.len];exact hr)]at g2;exact((kd.own r d' z g1 g2).upd (hp r)).sub fun b z=>.inl ⟨hr,z⟩
  ·rw[qAc (by lia)]at g1;rw[qAc (by rw[kd.len];lia),kd.len]at g2;have hq0:r-ds.length=0:=by
    have:=(qA4.mp g1).1
    simp at this;lia
   rw[hq0]at g1 g2;simp at g1 g2;subst g1;subst g2;exact w.sub fun b z=>.inr ⟨by lia,z⟩
 ·rcases z with⟨_,z⟩|⟨_,z⟩
  ·exact kd.out r z
  ·exact ha z
 ·rcases z1 with⟨c1,t1⟩|⟨c1,t1⟩<;>rcases z2 with⟨c2,t2⟩|⟨c2,t2⟩
  ·exact kd.dis r r' b t1 t2
  ·exact(hd r b t1 t2).elim
  ·exact(hd r' b t2 t1).elim
  ·lia
 ·rcases z with⟨_,z⟩|⟨_,z⟩
  ·exact .inl (kd.sub r b z)
  ·exact .inr z
theorem Sat.forgetT{G0 H0 S0:Hp}{σ:St}{ρ:Ro}{G H:Hp}{As:Nat->Addr->Prop}(a:Sat G0 H0 S0 σ ρ G H As)(j:Nat)(v:V):Sat G0 H0 S0 (σ.set j (some v)) (ρ.set j none) G H As:=by
 refine⟨a.ext,a.stb,a.tab,by simp[a.len],fun i d n h=>?_,a.dis,a.new⟩
 by_cases z:j=i
 ·subst z;have hj:j<ρ.length:=by
   have:=(qA4.mp h).1
   simpa using this
  rw[qAk hj]at h;cases h
 ·rw[qAl z]at h ⊢;exact a.at i d n h
theorem zQ4{G G' H:Hp}{T:Addr->Prop}{ks:List (List Mi.Sw)}{q:List Mi.Sw}{b:Addr}(s:Same G G')(ht:KeyT G T ks)(hb:G' b=some (.tup (q.map swV)))(hf:Mi.fitT ks q=true):KeyT G' (fun c=>T c\/c=b) (Mi.putKs ks q):=by
 unfold Mi.putKs;cases ep:Mi.posT ks q with
 |some j=>
  dsimp only;refine⟨ht.1,fun c hc=>?_⟩
  rcases hc with hc|rfl
  ·obtain⟨ys,h1,h2⟩:=ht.2 c hc;exact⟨ys,s _ _ h1,h2⟩
  ·refine⟨_,hb,fun hn=>zNC ?_⟩;unfold Mi.fitT at hf;rw[ep,<- zRB,hn]at hf;rw[zSZ]
   simpa using hf
 |none=>
  dsimp only;refine⟨?_,fun c hc=>?_⟩
  ·rw[qBs,qC3];refine⟨ht.1,by simp,fun a ha b hb=>?_⟩;obtain⟨q',hq',rfl⟩:=qAb.mp ha;simp at hb;subst hb;rw[zGQ,zGQ];exact zHP ep q' hq'
  ·rcases hc with hc|rfl
   ·obtain⟨ys,h1,h2⟩:=ht.2 c hc;refine⟨ys,s _ _ h1,fun hn=>h2 ?_⟩;unfold noBk at hn ⊢;rw[qG2]at hn;simp at hn ⊢;exact hn.1
   ·refine⟨_,hb,fun hn=>zNC ?_⟩;unfold noBk at hn;rw[qG2]at hn;simp at hn ⊢;exact hn.2
theorem zR8{G0 H0 S0:Hp}{σ σ':St}{ρ:Ro}{ρ':Rh}{G H J H1:Hp}{As:Nat->Addr->Prop}{S:Addr->Prop}{d:Dt}{y:V}{D:Ends}{i:Nat}{f:Ro->R Out}(a:Sat G0 H0 S0 σ ρ G H As)(A:DE mg E t1 e1 l)(hl1:1<=l)(hl2:l<1000)
  (x:Ext G0 H0 J H1) (sH:Same H H1) (hs:σ'[i]?=σ[i]?) (w:View J σ' ρ')
  (o:d.dep<=n->d.dep<=k->True) (oS:d.dep<=n->∀k,d.dep<=k->Own G H1 k S d y) (nS:∀b,S b->H b=none/\G b=none/\H1 b≠none)
  (p:zCK mg E G0 H0 S0 L (zA1 (Mi.putGo i n e1 ρ ρ' d) f) D)
  (fin:∀ρ2 G2 H2 As2,Sat G0 H0 S0 σ ρ2 G2 H2 As2->zCK mg E G0 H0 S0 L (f ρ2) D->D.nx σ' H2) :
  (vM i σ' H1 fun x H2=>t1 σ' H2 fun y' H3=>∃a T e0 kvs k b,x=.ref a/\H3 a=some (.dT T e0 kvs)/\y'=.ref b/\TupK H3 b k/\kvs.length<sizeLine /\
   ∀e1,D.nx σ' (upd H3 a (.dT (fun c=>T c\/c=b) e1 (putK kvs k y)))):=by
 unfold Mi.putGo at p;cases er:ρ[i]? with
 |none=>rw[er]at p;exact p.elim
 |some sl=>
  rw[er]at p
  match sl,er,p with
  |none,_,p=>exact p.elim
  |some (.dtt ks ds,k+1),er,p=>
   obtain⟨v,h1,q,T0,e0,xs,T,rfl,hq,hl,ht,kd⟩:=a.at i _ _ er;unfold vM;rw[hs,h1];have p':zCK mg E G0 H0 S0 L (zA1 (e1 ρ') fun y=>zA1 (match Mi.kyU y with
    |some q=>@ite _ (d.dep<=n/\d.dep<=k/\ks.length<=100000/\Mi.fitT ks q=true) (qA1 _) (okR (ρ.set i (some (.dtt (Mi.putKs ks q) (Mi.putDs ks ds q d),k+1)))) none
    |none=>none) f) D:=by
    cases ee:e1 ρ' with
    |none=>rw[ee]at p;exact p
    |some r=>cases r<;>(rw[ee]at p;exact p)
   refine A.step (errS.from x) x.in' w p' fun z u G2 H2 S2 _ fr2 o2 p2=>?_
   cases ek:Mi.kyU z with
   |none=>rw[ek]at p2;exact p2.elim
   |some c=>
    rw[ek]at p2;dsimp only at p2
    split at p2
    ·rename_i hz
     have hzd:z.dep<=1:=by
      cases z with
      |tup es=>
       rw[Dt.dep,zMD (show Mi.swsD es=some c from ek)];exact qA6 _
      |_=>cases ek
     have nS2:∀b,S2 b->H1 b=none/\G b=none/\H2 b≠none:=fun b hb=>by
      obtain⟨n1,n2,n3⟩:=fr2.new b hb;exact⟨n1,a.ext.in'.free (sH.free n1),n3⟩
     have a0:=a.grow sH;have frk:Fr G H1 G H2 S2:=⟨Ext.same a0.ext.in' fr2.ext.h,nS2⟩
     have ok:Own G H2 1 S2 z u:=o2.at (qAn hzd hl1) hzd hl2;obtain⟨xE,rK⟩:=frk.frz ok;obtain⟨b,rfl,hb⟩:=zFX rK ek;have a1:=a0.wider xE;have hx:ks.length=xs.length:=by rw[kd.len];exact hl
     have hq2:H2 q=some (.dT T0 e0 (kzip ks xs)):=xE.h _ _ (sH _ _ hq);refine⟨q,T0,e0,kzip ks xs,c.map kNw,b,rfl,hq2,rfl,zDV (xE.in' _ _ hb),?_,fun ep=>?_⟩
     ·have:(kzip ks xs).length=ks.length:=by simp[kzip,hx]
      rw[this,qIn];lia
     have q1:=oS hz.1 k hz.2.1;have q1':Own (over G H2 S2) H2 k S d y:=q1.mono xE.g xE.h;have nSq:¬S q:=fun z=>(a.new i q kd.top).2.2 (nS q z).1
     have apart:∀r b,T r b->S b->False:=fun r b z1 z2=>(a.new i b (kd.sub r b z1)).2.2 (nS b z2).1
     have kd1:Kids (Own (over G H2 S2) H2 k) (As i) q ds xs T:=kd.imp (fun _ _ _ _ w=>w.mono xE.g (sH.trans xE.h)) fun _ z=>z
     have kT:=zQ4 (H:=H) xE.g ht hb hz.2.2.2;have hS:∀b,(As i b\/S b)->As i b\/(H0 b=none/\over G H2 S2 b=none/\H2 b≠none/\∀j,¬As j b):=fun b z=>by
      rcases z with z|z
      ·exact .inl z
      ·obtain⟨n1,n2,n3⟩:=nS b z;refine .inr ⟨a.ext.h.free n1,?_,xE.h.some n3,fun j y=>(a.new j b y).2.2 n1⟩;rw[zBX fun z2=>n3 (nS2 b z2).1];exact n2
     have key:Sat G0 H0 S0 σ (ρ.set i (some (.dtt (Mi.putKs ks c) (Mi.putDs ks ds c d),k+1))) (over G H2 S2) (upd H2 q (.dT (fun c=>T0 c\/c=b) ep (putK (kzip ks xs) (c.map kNw) y))) (fun j=>if j=i then(fun b=>As i b\/S b)else As j):=by
      refine a1.store (S:=fun b=>As i b\/S b) kd.top h1 ?_ hS;unfold Mi.putDs;cases ep':Mi.posT ks c with
      |none=>
       dsimp only;have e3:Mi.putKs ks c=ks++[c]:=by unfold Mi.putKs;rw[ep']
       rw[e3]at kT ⊢;exact⟨q,_,ep,_,_,rfl,by rw[zAE,zPL hx ep'],by simp[hl],kT,kd1.snoc (q1'.upd nSq) kd.out nSq apart⟩
      |some j=>
       dsimp only;have e3:Mi.putKs ks c=ks:=by unfold Mi.putKs;rw[ep']
       rw[e3]at kT ⊢;exact⟨q,_,ep,_,_,rfl,by rw[zAE,zPK hx ht.1 ep'],by simp[hl],kT,kd1.set j (q1'.upd nSq) (fun r _=>kd.out r) nSq fun r b _=>apart r b⟩
     exact fin _ _ _ _ key p2
    ·exact p2.elim
  |some (.dtt ds _,0),_,p=>exact p.elim
  |some (.lst ds,_),_,p=>exact p.elim
  |some (.non,_),_,p=>exact p.elim
  |some (.bl _,_),_,p=>exact p.elim
  |some (.int _,_),_,p=>exact p.elim
  |some (.str _,_),_,p=>exact p.elim
  |some (.tup _,_),_,p=>exact p.elim
  |some (.scr _,_),_,p=>exact p.elim
  |some (.exc _ _ _,_),_,p=>exact p.elim
  |some (.fn _ _,_),_,p=>exact p.elim
  |some (.loc _ _,_),_,p=>exact p.elim
  |some (.ins _ _,_),_,p=>exact p.elim
  |some (.dct _,_),_,p=>exact p.elim
theorem ds_tput(i:Nat)(A:DE mg E t1 e1 l)(B:DE mg E t2 e2 n)(hl1:1<=l:=by decide)(hl2:l<1000:=by decide)(hn:n<1000:=by decide):DS mg E L (zSA (vM i) t1 t2) (Mi.sTput i n e1 e2):=by
 intro G0 H0 S0 σ ρ G H As D a p;obtain⟨J,x,s,w⟩:=a.full;refine B.step (errS.from x) x.in' w p fun d y G1 H1 S _ fr o p1=>?_
 have x1:Ext J H J H1:=Ext.same x.in' fr.ext.h;exact zR8 (k:=0) a A hl1 hl2 (x.trans x1) fr.ext.h rfl w (fun _ _=>trivial) (fun hd k hk=>o.at hd hk hn) (fun b hb=>let⟨n1,n2,n3⟩:=fr.new b hb;⟨n1,a.ext.in'.free n1,n3⟩) p1 fun ρ2 G2 H2 As2 a2 p2=>p2 σ G2 H2 As2 a2
theorem zO9(j i:Nat)(C:DE mg E te e 0)(A:DE mg E t1 e1 l)(B:DE mg E t2 e2 n)(hl1:1<=l:=by decide)(hl2:l<1000:=by decide)(hn:n<1000:=by decide):DS mg E L (tSeq (tAsg te (zE2 j)) (zSA (vM i) t1 t2)) (Mi.sTmpPut j i n e e1 e2):=by
 intro G0 H0 S0 σ ρ G H As D a p;unfold Mi.sTmpPut at p
 by_cases hij:i=j
 ·rw[if_pos hij]at p;exact p.elim
 rw[if_neg hij]at p;obtain⟨J,x,s,w⟩:=a.full;refine C.step (errS.from x) x.in' w p fun c v0 G1 H1 S1 _ fr o p1=>?_
 have x1:=x.trans fr.ext;have w1:View G1 (σ.set j (some v0)) ((full ρ).set j (some c)):=(w.mono fr.ext.g).set o;refine B.step (errS.from x1) x1.in' w1 p1 fun d y G2 H2 S _ fr2 o2 p2=>?_
 have x2:Ext G1 H1 G1 H2:=Ext.same fr.ext.in' fr2.ext.h;exact zR8 (k:=0) a A hl1 hl2 (x1.trans x2) (fr.ext.h.trans fr2.ext.h) (qAl fun z=>hij z.symm) w1 (fun _ _=>trivial) (fun hd k hk=>o2.at hd hk hn)
  (fun b hb=>let⟨n1,n2,n3⟩:=fr2.new b hb;⟨fr.ext.h.free n1,a.ext.in'.free (fr.ext.h.free n1),n3⟩) p2 fun ρ2 G2 H2 As2 a2 p3=>p3 _ G2 H2 As2 (a2.forgetT j v0)
theorem zOA(i:Nat)(A:DE mg E te e l):DS mg E L (tRet (zMB (vM i) te)) (Mi.sRetTIx L i e):=by
 intro G0 H0 S0 σ ρ G H As D a p;obtain⟨J,x,s,w⟩:=a.full;unfold Mi.sRetTIx at p
 split at p
 ·rename_i ks ds k e1
  obtain⟨v,h1,q,T0,e0,xs,T,rfl,hq,hl,ht,kd⟩:=a.at i _ _ e1;show zMB (vM i) te σ H D.rt;unfold zMB vM;rw[h1];refine(zAS A).step (errS.from x) x.in' w p fun d y G1 H1 S _ fr o p1=>?_
  split at p1
  ·rename_i c ek
   split at p1
   ·rename_i d' eg
    by_cases hk:k=L
    ·rw[if_pos hk]at p1;subst hk;obtain⟨b,rfl,hb⟩:=zFX o ek;have hx:ks.length=xs.length:=by rw[kd.len];exact hl
     unfold Mi.getT at eg;cases ej:Mi.posT ks c with
     |none=>rw[ej]at eg;cases eg
     |some j=>
      rw[ej]at eg;have h':ds[j]?=some d':=eg;have hj:j<xs.length:=by rw[kd.len];exact(qA4.mp h').1
      have hxj:xs[j]?=some xs[j]:=qA5 hj;refine⟨q,xs[j],rfl,?_,p1 _ G H1 (T j) ⟨a.ext.trans (Ext.same a.ext.in' fr.ext.h),fun b hb=>?_⟩ ((kd.own j d' _ h' hxj).mono (Same.refl _) fr.ext.h)⟩
      ·have e5:valV (kzip ks xs) (c.map kNw)=some xs[j]:=by
        rw[zP7 c ks xs hx,ej];exact hxj
       rw[<- e5];exact DGet.t (fr.ext.h _ _ hq) (zDV (fr.ext.in' _ _ hb))
      ·obtain⟨n1,n2,n3⟩:=a.new i b (kd.sub j b hb);exact⟨n1,n2,fr.ext.h.some n3⟩
    ·rw[if_neg hk]at p1;exact p1.elim
   ·exact p1.elim
  ·exact p1.elim
 ·exact p.elim
end
end L3
namespace L3
open PySem PySem.Spec
open L2 hiding Rep RepL
open Mi (Dt Xn R okR zA1 optR zA0 zA4 zA7 zA5 zA6 Rh Sl Ro EM TM AM FM IM SM OM Tg Out zAN zAO zAQ full frz frz1 frzAt OutM SMM FW)
section
variable[Kc]{mg:Str->Option Value}{E:XK}{L n k l:Nat}{te ta tb tx td t1 t2:TE}{e ea eb ex ed e1 e2:EM}{t u:TS}{m m':SMM}{s:SM}
theorem zX2(i:Nat):DE mg E (vM i) (Mi.eVL i) 0:=by
 intro G H σ ρ Q s w p;unfold Mi.eVL at p
 split at p
 ·rename_i q d e
  obtain⟨v,h1,h2⟩:=w.at i _ e;unfold vM;rw[h1];exact PostE.kept p (Ext.refl s) h2.2
 ·exact p.elim
theorem zEN(i:Nat){n1:Nat}(A:DE mg E t1 e1 n1)(B:DE mg E t2 e2 n)(hn:n<1000:=by decide):DS mg E L (tAsg t2 (gSub (vM i) t1 setM)) (Mi.sItemL i n e1 e2):=by
 intro G0 H0 S0 σ ρ G H As D a p;obtain⟨J,x,s,w⟩:=a.full;refine B.step (errS.from x) x.in' w p fun d y G1 H1 S _ fr o p1=>?_
 split at p1
 ·rename_i pl ds k er
  obtain⟨v,h1,hpl,q,xs,T,hv,hq,kd⟩:=a.at i _ _ er;subst hv;unfold gSub vM;rw[h1];have x1:Ext J H J H1:=Ext.same x.in' fr.ext.h;refine(zAS A).step (errS.from (x.trans x1)) x1.in' w p1 fun z u G2 H2 S2 _ fr2 o2 p2=>?_
  cases z with
  |int z=>
   cases(show u=.int z from o2)
   try dsimp only at p2
   cases ei:Mi.ixA ds.length z with
   |none=>rw[ei]at p2;exact p2.elim
   |some c=>
    rw[ei]at p2
    try dsimp only at p2
    split at p2
    ·rename_i hz
     rw[zKJ]at ei;obtain⟨q1,q2⟩:=whole (k:=k) a s fr o hn hz.1 hz.2;have sH:=fr.ext.h.trans fr2.ext.h;refine⟨xs,c,sH _ _ hq,by rw[kd.len];exact ei,?_⟩;have a1:=a.grow sH;have nS:¬S q:=fun z=>(a.new i q kd.top).2.2 (q2 q z).1
     have kd1:Kids (Own G H2 k) (As i) q ds xs T:=kd.imp (fun _ _ _ _ w=>w.mono (Same.refl _) sH) fun _ z=>z
     refine p2 σ G _ _ (a1.store (S:=fun b=>As i b\/S b) kd.top h1 ⟨hpl,q,_,_,rfl,zAE,kd1.set c ((q1.mono (Same.refl _) fr2.ext.h).upd nS) (fun r _=>kd.out r) nS fun r b _ z1 z2=>(a.new i b (kd.sub r b z1)).2.2 (q2 b z2).1⟩ fun b z=>?_)
     rcases z with z|z
     ·exact .inl z
     ·obtain⟨n1,n2,n3⟩:=q2 b z;exact .inr ⟨a.ext.h.free n1,n2,fr2.ext.h.some n3,fun j y=>(a.new j b y).2.2 n1⟩
    ·exact p2.elim
  |_=>exact p2.elim
 ·exact p1.elim
def zXG(mg:Str->Option Value)(E:XK)(G0 H0 S0:Hp)(r:R OutM)(D:Ends):Prop:=match r with
 |none=>False
 |some (.error x)=>∀c da G' H',Ext G0 H0 G' H'->XRep mg x c da G' H'->E c da H'
 |some (.ok (.nx ρ))=>∀σ G H As,Sat G0 H0 S0 σ ρ G H As->D.nx σ H
 |some (.ok (.rt ρ d))=>∀σ v G H As,Sat G0 H0 S0 σ ρ G H As->d.dep=0->Rep G d v->D.rt v H
 |some (.ok (.rv ρ i))=>∀σ v G H As,Sat G0 H0 S0 σ ρ G H As->σ[i]?=some (some v)->D.rt v H
def DM(mg:Str->Option Value)(E:XK)(t:TS)(m:SMM):Prop:=∀(G0 H0 S0:Hp)(σ:St)(ρ:Ro)(G H:Hp)(As:Nat->Addr->Prop)(D:Ends),Sat G0 H0 S0 σ ρ G H As->zXG mg E G0 H0 S0 (m ρ) D->t D σ H
theorem errM{G0 H0 S0:Hp}{D:Ends}:Err mg E G0 H0 (fun r=>zXG mg E G0 H0 S0 r D):=⟨fun h=>h,fun _ h=>h⟩
theorem zCE(A:DS mg E L t s):DM mg E t (Mi.mLift s):=by
 intro G0 H0 S0 σ ρ G H As D a p;refine A G0 H0 S0 σ ρ G H As D a ?_;unfold Mi.mLift at p;cases e:s ρ with
 |none=>rw[e]at p;exact p
 |some r=>
  rw[e]at p;cases r with
  |error x=>exact p
  |ok o=>cases o<;>first|exact p|exact p.elim
theorem zDS(A:DM mg E t m)(B:DM mg E u m'):DM mg E (tSeq t u) (Mi.mSeq m m'):=by
 intro G0 H0 S0 σ ρ G H As D a p;refine A G0 H0 S0 σ ρ G H As _ a ?_;unfold Mi.mSeq at p;cases e:m ρ with
 |none=>rw[e]at p;exact p
 |some r=>
  rw[e]at p;cases r with
  |error x=>exact p
  |ok o=>
   cases o with
   |nx ρ'=>exact fun σ' G' H' As' a'=>B G0 H0 S0 σ' ρ' G' H' As' D a' p
   |rt ρ' d=>exact p
   |rv ρ' i=>exact p
theorem zYX{tc:TT}{c:TM}(C:DT mg E tc c)(A:DM mg E t m)(B:DM mg E u m'):DM mg E (tIfS tc t u) (Mi.mIf c m m'):=by
 intro G0 H0 S0 σ ρ G H As D a p;obtain⟨J,x,s,w⟩:=a.full;refine C.step (errM.from x) x.in' w p fun b H' _ sH p1=>?_
 cases b with
 |true=>exact A G0 H0 S0 σ ρ G H' As D (a.grow sH) p1
 |false=>exact B G0 H0 S0 σ ρ G H' As D (a.grow sH) p1
theorem zOE(A:DE mg E te e n):DM mg E (tRet te) (Mi.mRet e):=by
 intro G0 H0 S0 σ ρ G H As D a p;obtain⟨J,x,s,w⟩:=a.full;refine(zAS A).step (errM.from x) x.in' w p fun d v G1 H1 S _ fr o p1=>?_
 split at p1
 ·rename_i hd
  exact p1 σ v G H1 As (a.grow fr.ext.h) hd (Rep.scalar o hd)
 ·exact p1.elim
open Classical in
noncomputable def cutH(H:Hp)(S:Addr->Prop):Hp:=fun b=>if S b then none else H b
theorem zRV{H:Hp}{S:Addr->Prop}{b:Addr}(h:S b):cutH H S b=none:=by unfold cutH;rw[if_pos h]
theorem zCV{H:Hp}{S:Addr->Prop}{b:Addr}(h:¬S b):cutH H S b=H b:=by unfold cutH;rw[if_neg h]
theorem zQQ{H:Hp}{S:Addr->Prop}{b:Addr}{o:HO}(h:cutH H S b=some o):¬S b/\H b=some o:=by
 by_cases z:S b
 ·rw[zRV z]at h;cases h
 ·rw[zCV z]at h;exact⟨z,h⟩
def zQV(mg:Str->Option Value)(E:XK)(G H0:Hp)(k L:Nat)(v0:V)(r:R (Dt×Dt))(Q:VK):Prop:=match r with
 |none=>False
 |some (.error x)=>∀c da G' H',Ext G H0 G' H'->XRep mg x c da G' H'->E c da H'
 |some (.ok (d,d0))=>∀v G' H' S0 S1,Ext G H0 G' H'->Own G' H' k S0 d0 v0->Own G' H' L S1 d v->(∀b,S0 b\/S1 b->H0 b=none/\G' b=none/\H' b≠none)->(∀b,S0 b->S1 b->False)->Q v H'
def spW(mg:Str->Option Value)(i0 k L:Nat)(f:FW):Sp:=fun vs H Q E=>∃(G:Hp)(S:Addr->Prop)(ds:List Dt)(p:Addr)(d0:Dt),Same (tabK Kc.K) G/\Same G H/\(∀b,S b->G b=none/\H b≠none)/\vs.length=ds.length /\
 (∀i d v,i≠i0->ds[i]?=some d->vs[i]?=some v->Rep G d v)/\vs[i0]?=some (.ref p)/\ds[i0]?=some d0/\Own G H k S d0 (.ref p)/\zQV mg E G (cutH H S) k L (.ref p) (f ds) Q
theorem zS9{i0 P N:Nat}{vs:List V}{H:Hp}{Q:VK}{E:XK}(h:spW mg i0 k L (Mi.uniM (Mi.runM L P N i0 k m)) vs H Q E):vs.length=P:=by
 obtain⟨G,S,ds,p,d0,_,_,_,hl,_,_,_,_,q⟩:=h;rw[hl];unfold Mi.uniM at q
 split at q
 ·unfold Mi.runM at q
  split at q
  ·rename_i h;exact h.1
  ·exact q.elim
 ·exact q.elim
theorem zJA{G0 H0 S0:Hp}{σ:St}{ρ:Ro}{G H:Hp}{As:Nat->Addr->Prop}{i0 p:Nat}{d0:Dt}(a:Sat G0 H0 S0 σ ρ G H As)(h:Mi.heldAt i0 k p ρ=some d0):Own G H k (As i0) d0 (.ref p):=by
 unfold Mi.heldAt at h
 split at h
 ·rename_i b d l e
  split at h
  ·rename_i hz
   cases h;obtain⟨rfl,rfl⟩:=hz;obtain⟨v,_,h2,h3⟩:=a.at i0 _ _ e;rw[h2]at h3;exact h3
  ·cases h
 ·cases h
theorem zMK{i0 P:Nat}{N:List Str}{vs:List V}{H:Hp}{Q:VK}(B:DM mg E t m)(h:spW mg i0 k L (Mi.uniM (Mi.runM L P N.length i0 k m)) vs H Q E):t { nx:=fun _ H'=>Q .non H',rt:=Q } (L2.start N vs) H:=by
 obtain⟨G,S,ds,p,d0,tb,sG,hS,hl,hr,hp,hd0,o0,q⟩:=h;unfold Mi.uniM at q
 split at q
 ·rename_i hu
  rw[<- hu p]at q;unfold Mi.runM at q
  split at q
  ·rename_i hP
   have e0:Mi.startM N.length i0 k p ds=(Mi.startO N.length ds).set i0 (some (.loc p d0,k+1)):=by unfold Mi.startM;rw[hd0]
   have hi0:i0<ds.length:=(qA4.mp hd0).1;have a:Sat G (cutH H S) G (L2.start N vs) (Mi.startM N.length i0 k p ds) G H (fun i b=>i=i0/\S b):=by
    rw[e0];refine⟨⟨Same.refl _,fun b o e=>(zQQ e).2,sG,fun _ _=>rfl⟩,Same.refl _,tb,?_,fun i d n e=>?_,fun i j a h1 h2=>by rw[h1.1,h2.1],fun i b h=>⟨zRV h.2,hS b h.2⟩⟩
    ·unfold Mi.startO L2.start;simp[hl]
    ·by_cases hi:i0=i
     ·subst hi;rw[qAk (by unfold Mi.startO;simp;omega)]at e;cases e;refine⟨.ref p,?_,rfl,o0.sub fun b hb=>⟨rfl,hb⟩⟩;unfold L2.start;rw[qA8 (by simp[hl];exact hi0),qAe,hp];rfl
     ·rw[qAl hi]at e;unfold Mi.startO at e
      by_cases hi2:i<ds.length
      ·rw[qA8 (by simpa using hi2),qAe]at e;cases e1:ds[i]? with
       |none=>rw[e1]at e;cases e
       |some d'=>
        rw[e1]at e;cases e;have hv:vs[i]?=some (vs[i]'(by rw[hl];exact hi2)):=by simp
        refine⟨vs[i]'(by rw[hl];exact hi2),?_,hr i _ _ (fun z=>hi z.symm) e1 hv⟩;unfold L2.start;rw[qA8 (by simpa[hl]using hi2),qAe,hv];rfl
      ·rw[qAc (by simpa using hi2),qBc]at e
       split at e<;>cases e
   refine B G (cutH H S) G _ _ G H _ _ a ?_;cases em:m (Mi.startM N.length i0 k p ds)with
   |none=>rw[em]at q;exact q
   |some r=>
    rw[em]at q;cases r with
    |error y=>exact q
    |ok o=>
     cases o with
     |nx ρ'=>
      intro σ' G' H' As' a';have q':zQV mg E G (cutH H S) k L (.ref p) (optR ((Mi.heldAt i0 k p ρ').map fun d0=>(.non,d0))) Q:=q;cases eh:Mi.heldAt i0 k p ρ' with
      |none=>rw[eh]at q';exact q'.elim
      |some d1=>
       rw[eh]at q';exact q' .non G' H' (As' i0) (fun _=>False) a'.ext (zJA a' eh) (zKB rfl rfl) (fun b hb=>hb.elim (a'.new i0 b) fun z=>z.elim) fun _ _ z=>z
     |rt ρ' d=>
      intro σ' v G' H' As' a' hd rd;have q':zQV mg E G (cutH H S) k L (.ref p) (optR ((Mi.heldAt i0 k p ρ').map fun d0=>(d,d0))) Q:=q;cases eh:Mi.heldAt i0 k p ρ' with
      |none=>rw[eh]at q';exact q'.elim
      |some d1=>
       rw[eh]at q';exact q' v G' H' (As' i0) (fun _=>False) a'.ext (zJA a' eh) (zKB rd hd) (fun b hb=>hb.elim (a'.new i0 b) fun z=>z.elim) fun _ _ z=>z
     |rv ρ' i=>
      intro σ' v G' H' As' a' hv;have q':zQV mg E G (cutH H S) k L (.ref p) (match ρ'[i]? with
       |some (some (d,l))=>if l=L/\i≠i0 then optR ((Mi.heldAt i0 k p ρ').map fun d0=>(d,d0))else none
       |_=>none) Q:=q
      split at q'
      ·rename_i d l er
       split at q'
       ·rename_i hz
        obtain⟨rfl,hne⟩:=hz;cases eh:Mi.heldAt i0 k p ρ' with
        |none=>rw[eh]at q';exact q'.elim
        |some d1=>
         rw[eh]at q';obtain⟨v',hv',ov⟩:=a'.at i _ _ er;rw[hv]at hv';cases hv';exact q' v G' H' (As' i0) (As' i) a'.ext (zJA a' eh) ov (fun b hb=>hb.elim (a'.new i0 b) (a'.new i b)) fun b z1 z2=>hne (a'.dis _ _ b z2 z1)
       ·exact q'.elim
      ·exact q'.elim
  ·exact q.elim
 ·exact q.elim
theorem Sat.swap{G0 H0 S0:Hp}{σ:St}{ρ:Ro}{G H G' H':Hp}{As:Nat->Addr->Prop}{i K:Nat}{D:Dt}{v:V}{S:Addr->Prop}(a:Sat G0 H0 S0 σ ρ G H As)(x:Ext G (cutH H (As i)) G' H')(hv:σ[i]?=some (some v))(o:Own G' H' K S D v)
  (hS:∀b,S b->cutH H (As i) b=none/\G' b=none/\H' b≠none):Sat G0 H0 S0 σ (ρ.set i (some (D,K))) G' H' (fun j=>if j=i then S else As j):=by
 have inH:∀j b,j≠i->As j b->cutH H (As i) b=H b:=fun j b hj h=>zCV fun z=>hj (a.dis j i b h z)
 have h0:∀b,H0 b≠none->cutH H (As i) b=H b:=fun b hb=>zCV fun z=>hb (a.new i b z).1
 refine⟨⟨a.ext.g.trans x.g,fun b ob e=>?_,x.in',fun b hb=>?_⟩,a.stb.trans x.g,a.tab,by simp[a.len],fun j e n h=>?_,fun j l b h1 h2=>?_,fun j b h=>?_⟩
 ·exact x.h _ _ ((h0 b (by rw[e];simp)).trans (a.ext.h _ _ e))
 ·rw[x.old b (by rw[h0 b hb];exact a.ext.h.some hb)];exact a.ext.old b hb
 ·have hj:j<ρ.length:=by
   have:=(qA4.mp h).1
   simpa using this
  by_cases z:i=j
  ·subst z;rw[qAk hj]at h;cases h;exact⟨v,hv,by rw[if_pos rfl];exact o⟩
  ·rw[qAl z]at h;obtain⟨u,h1,h2⟩:=a.at j e n h;refine⟨u,h1,?_⟩;rw[if_neg (fun q=>z q.symm)];exact(Own.keep h2 fun b ob hb e=>(inH j b (fun q=>z q.symm) hb).trans e).mono x.g x.h
 ·have key:∀j b,j≠i->As j b->S b->False:=fun j b hj h1 h2=>by
   have:=(hS b h2).1
   rw[inH j b hj h1]at this;exact(a.new j b h1).2.2 this
  try dsimp only at h1 h2
  by_cases z1:j=i
  ·by_cases z2:l=i
   ·rw[z1,z2]
   ·rw[if_pos z1]at h1;rw[if_neg z2]at h2;exact(key l b z2 h2 h1).elim
  ·by_cases z2:l=i
   ·rw[if_neg z1]at h1;rw[if_pos z2]at h2;exact(key j b z1 h1 h2).elim
   ·rw[if_neg z1]at h1;rw[if_neg z2]at h2;exact a.dis j l b h1 h2
 ·try dsimp only at h
  by_cases z1:j=i
  ·rw[if_pos z1]at h;obtain⟨n1,n2,n3⟩:=hS b h;refine⟨?_,n2,n3⟩
   by_cases z:As i b
   ·exact(a.new i b z).1
   ·rw[zCV z]at n1;exact a.ext.h.free n1
  ·rw[if_neg z1]at h;obtain⟨n1,n2,n3⟩:=a.new j b h;have e:=inH j b z1 h;refine⟨n1,?_,x.h.some (by rw[e];exact n3)⟩;rw[x.old b (by rw[e];exact n3)];exact n2
theorem zOV{G0 H0 S0:Hp}{σ:St}{ρ:Ro}{G H:Hp}{As:Nat->Addr->Prop}{i i0:Nat}{p:Addr}{d0:Dt}{f:FW}{ds:List Dt}{vs:List V}{Q:VK}{β:Type}{P:R β->Prop}{g:Dt×Dt->R β}(a:Sat G0 H0 S0 σ ρ G H As)(hE:Err mg E G0 H0 P)
  (o0:Own G H k (As i) d0 (.ref p)) (hl:vs.length=ds.length) (hr:∀i d v,i≠i0->ds[i]?=some d->vs[i]?=some v->Rep G d v) (hp:vs[i0]?=some (.ref p)) (hd:ds[i0]?=some d0) (pq:P (zA1 (f ds) g))
  (fin:∀r v G' H' S S1,Ext G (cutH H (As i)) G' H'->Own G' H' k S r.2 (.ref p)->Own G' H' L S1 r.1 v->(∀b,S b\/S1 b->cutH H (As i) b=none/\G' b=none/\H' b≠none)->(∀b,S b->S1 b->False)->P (g r)->Q v H') :
  spW mg i0 k L f vs H Q E:=by
 refine⟨G,As i,ds,p,d0,a.tab.trans a.ext.g,a.ext.in',fun b hb=>(a.new i b hb).2,hl,hr,hp,hd,o0,?_⟩;cases ef:f ds with
 |none=>rw[ef]at pq;exact hE.no pq
 |some r=>
  rw[ef]at pq;cases r with
  |error x=>
   intro c da G' H' xt xr;refine hE.er x pq c da G' H' ⟨a.ext.g.trans xt.g,fun b ob e=>?_,xt.in',fun b hb=>?_⟩ xr
   ·have h0:cutH H (As i) b=H b:=zCV fun z=>by
     have:=(a.new i b z).1
     rw[e]at this;cases this
    exact xt.h _ _ (h0.trans (a.ext.h _ _ e))
   ·have h0:cutH H (As i) b=H b:=zCV fun z=>hb (a.new i b z).1
    rw[xt.old b (by rw[h0];exact a.ext.h.some hb)];exact a.ext.old b hb
  |ok r=>
   obtain⟨d,d1⟩:=r;exact fun v G' H' S S1 xt oS o1 hS hdis=>fin (d,d1) v G' H' S S1 xt oS o1 hS hdis pq
theorem zMO{G:Hp}{ds:List Dt}{vs:List V}(r:RepL G ds vs){d0:Dt}{v0:V}:∀i d v,i≠0->(d0::ds)[i]?=some d->(v0::vs)[i]?=some v->Rep G d v:=fun i d v hi h1 h2=>by
 cases i with
 |zero=>exact absurd rfl hi
 |succ i=>exact zBF r (by simpa using h1) (by simpa using h2)
theorem zSR{G H:Hp}{S:Addr->Prop}{d:Dt}{v:V}(h:Own G H (k+1) S d v)(hd:(∃ds,d=.lst ds)\/∃ks ds,d=.dtt ks ds):∃p,v=.ref p:=by
 rcases hd with⟨ds,rfl⟩|⟨ks,ds,rfl⟩
 ·obtain⟨a,_,_,e,_⟩:=h;exact⟨a,e⟩
 ·obtain⟨a,_,_,_,_,e,_⟩:=h;exact⟨a,e⟩
theorem zQJ(j i:Nat){t:TA}{am:AM}{f:FW}(A:DA mg E t am 0):DS mg E l (tAsg (zDJ (spW mg 0 (k+1) L f) [] E (zD3 (vM i) t)) (zE2 j)) (Mi.sCallW j i (k+1) L am f):=by
 intro G0 H0 S0 σ ρ G H As D a p;unfold Mi.sCallW at p
 split at p
 ·rename_i d0 l' er
  split at p
  ·rename_i hz
   obtain⟨rfl,hij,hbox⟩:=hz;obtain⟨v0,h1,o0⟩:=a.at i _ _ er;unfold tAsg zDJ zD3 vM;rw[h1];refine A.step (errS.from a.ext) a.ext.in' a.frz p fun es vs G1 H1 S T _ fr oA p1=>?_
   have xE:=fr.ext;have rA:=oA.repL;have a1:=a.wider xE;have o1:=o0.mono xE.g xE.h;have hr:∃p,v0=.ref p:=zSR o0 (by cases d0<;>first|exact .inl ⟨_,rfl⟩|exact .inr ⟨_,_,rfl⟩|cases hbox)
   ·obtain⟨q,rfl⟩:=hr;dsimp only;rw[qBr];refine zOV (P:=fun r=>zCK mg E G0 H0 S0 l r D) (ds:=d0::es) a1 errS o1 (by simp[rA.length]) (zMO rA) rfl rfl p1 fun r v G' H' S' S1 xt oS oV hS hdis p2=>?_
    have a2:=a1.swap xt h1 oS fun b hb=>hS b (.inl hb)
    refine p2 _ G' H' _ (a2.put (i:=j) oV (fun b hb=>?_) fun r b hr h1 h2=>?_)
    ·obtain⟨n1,n2,n3⟩:=hS b (.inr hb);refine⟨?_,n2,n3⟩
     by_cases z:As i b
     ·exact(a1.new i b z).1
     ·rw[zCV z]at n1;exact a1.ext.h.free n1
    ·try dsimp only at h1
     by_cases z:r=i
     ·rw[if_pos z]at h1;exact hdis b h1 h2
     ·rw[if_neg z]at h1;have n1:=(hS b (.inr h2)).1;rw[zCV fun y=>z (a1.dis r i b h1 y)]at n1;exact(a1.new r b h1).2.2 n1
  ·exact p.elim
 ·exact p.elim
theorem zTS(j i:Nat){t:TA}{am:AM}{f:FW}(A:DA mg E t am 0):DS mg E l (tAsg (tOp zSK (vM j) (zDJ (spW mg 0 k 0 f) [] E (zD3 (vM i) t))) (zE2 j)) (Mi.sAddW j i k am f):=by
 intro G0 H0 S0 σ ρ G H As D a p;unfold Mi.sAddW at p
 split at p
 ·rename_i q d0 l' s' n' er ej
  split at p
  ·rename_i hz
   obtain⟨rfl,hij⟩:=hz;obtain⟨v0,h1,rfl,o0⟩:=a.at i _ _ er;obtain⟨vj,hj1,oj⟩:=a.at j _ _ ej
   have:vj=.int s':=by cases n'<;>exact oj
   subst this;unfold tAsg tOp zDJ zD3 vM;rw[hj1]
   try dsimp only
   rw[h1];refine A.step (errS.from a.ext) a.ext.in' a.frz p fun es vs G1 H1 S T _ fr oA p1=>?_
   have xE:=fr.ext;have rA:=oA.repL;have a1:=a.wider xE;have o1:=o0.mono xE.g xE.h
   try dsimp only
   rw[qBr];refine zOV (P:=fun r=>zCK mg E G0 H0 S0 l r D) (ds:=d0::es) a1 errS o1 (by simp[rA.length]) (zMO rA) rfl rfl p1 fun r v G' H' S' S1 xt oS oV hS hdis p2=>?_
   split at p2
   ·rename_i c ec
    rw[ec]at oV
    cases(show v=.int c from oV)
    have a2:=a1.swap (K:=k+1) (D:=.loc q r.2) xt h1 ⟨rfl,oS⟩ fun b hb=>hS b (.inl hb)
    exact p2 _ G' H' _ (a2.put (i:=j) (S:=fun _=>False) (zKB (n:=0) rfl rfl) (fun b hb=>hb.elim) fun r b hr h1 h2=>h2)
   ·exact p2.elim
  ·exact p.elim
 ·exact p.elim
end
end L3
namespace L2
open PySem PySem.Spec PyProof.Rows
structure FunD(K:qA2)(x qual:Str)(st:Stmt)(f:Addr)(fd:qI6):Prop where
 ex:∃(oc:Value)(od:Option Addr)(dt:Addr)(kV doc pm:Value)(an:Option Addr)(cdv ct:Value)(osl:Array (Option Value))(ot:Obj)(n:Nat),
  fd=qB7 x qual (zAV st) (zAX st) (zAA st) (.ref dt) kV doc pm an cdv ct/\K.lookup f=some ⟨oc,od,.func fd,osl⟩/\qC7 K cdv qual=true/\K.lookup dt=some ot/\ot.data=.seq #[.none] n
 kp:qB4 K (.ref f)=true
def DefD(K:qA2)(mg:Str->Option Value)(x:Str)(st:Stmt):Prop:=∃f fd,FunD K x x st f fd/\mg x=some (.ref f)
def HasD(P:qHr)(w:World)(K:qA2)(mg:Str->Option Value)(base:Heap)(x:Str)(k:Nat)(ps:List Str)(sp:Sp):Prop:=
 ∃f fd,FnOk P w K mg base (CXe P w) k f fd ps sp/\mg x=some (.ref f)/\qB4 K (.ref f)=true/\Binds K fd ps []/\Binds K fd ps [.none]
theorem zOX{K:qA2}{fd:qI6}{a b:Str}{dt:Addr}{ot:Obj}{n:Nat}(hd:fd.defaults=.ref dt)(hk:K.lookup dt=some ot)(ho:ot.data=.seq #[.none] n)(h1:fd.params.posonlyargs=[])(h2:fd.params.args.map (·.arg)=[a,b])(h3:fd.params.kwonlyargs=[])(h4:fd.params.vararg=none)(h5:fd.params.kwarg=none)(hab:a≠b) :
  Binds K fd [a,b] []/\Binds K fd [a,b] [.none]:=by
 have hba:(b==a)=false:=by simpa using fun z=>hab z.symm
 have hab':(a==b)=false:=by simpa using hab
 constructor
 ·intro s us hK hl
  match us,hl with
  |[u,v],_=>
   intro M A E Q q;unfold qKb;dsimp only;rw[h1,h2,h3,h4,h5,hd];refine wpAny_bind (wpAny_pure ?_);dsimp only;refine wpAny_bind (wpAny_seqItems (hK dt ot hk) ho ?_);simp[qCw,hab',hba,qHf,List.zip,qHn,qHo];exact wpAny_pure q
 ·intro s us hK hl;obtain⟨u,rfl⟩:∃u,us=[u]:=by
   match us,hl with
   |[u],_=>exact⟨u,rfl⟩
   |[],hl=>simp at hl
   |_::_::_,hl=>simp at hl
  ·intro M A E Q q;unfold qKb;dsimp only;rw[h1,h2,h3,h4,h5,hd];refine wpAny_bind (wpAny_pure ?_);dsimp only;refine wpAny_bind (wpAny_seqItems (hK dt ot hk) ho ?_);simp[qCw,hab',hba,qHf,List.zip,qHn,qHo];exact wpAny_pure q
section
variable{P:qHr}{w:World}{K:qA2}{mg:Str->Option Value}{base:Heap}{x:Str}{k:Nat}{a b:Str}{N:List Str}{sp:Sp}{st:Stmt}
theorem DefD.okX(D:DefD K mg x st)(S:FnScope N [a,b] (zAA st))(h1:(zAV st).posonlyargs=[])(h2:(zAV st).args.map (·.arg)=[a,b])(h3:(zAV st).kwonlyargs=[])(h4:(zAV st).vararg=none)(h5:(zAV st).kwarg=none)(hab:a≠b)
  (len:∀vs H Q E,sp vs H Q E->vs.length=[a,b].length)
  (hbody:∀(f:Addr)(cdv:Value)(A:qHv)(outer:List Env)(s:qHp)(H:Hp)(vs:List V)(Q:VK)(E:XK),Room k (A.deeper (envOfC x (zAA st) s.heap.objs.size f cdv))->sp vs H Q E ->
   ∃t,PSs (cxOf (CXe P w) P w K mg base N x (zAA st) f cdv A outer s H E) (zAX st) t/\t { nx:=fun _ H'=>Q .non H',rt:=Q } (start N vs) H):HasD P w K mg base x (k+1) [a,b] sp:=by
 obtain⟨f,fd,F,m⟩:=D;obtain⟨oc,od,dt,kV,doc,pm,an,cdv,ct,osl,ot,n,rfl,lk,hcd,hk,ho⟩:=F.ex;obtain⟨b1,b2⟩:=zOX (K:=K) (fd:=qB7 x x (zAV st) (zAX st) (zAA st) (.ref dt) kV doc pm an cdv ct) rfl hk ho h1 h2 h3 h4 h5 hab;exact⟨f,_,zWQ lk hcd S len fun A outer s H vs Q E hr hsp=>hbody f cdv A outer s H vs Q E hr hsp,m,F.kp,b1,b2⟩
end
section
variable{X:Cx}{x:Str}{j k:Nat}{ps:List Str}{sp:Sp}{e:Expr}{es:List Expr}{t:TA}{p pos:Pos}{E:XK}
theorem HasD.full{P:qHr}{w:World}{K:qA2}{mg:Str->Option Value}{base:Heap}(h:HasD P w K mg base x j ps sp):HasX P w K mg base x j ps sp:=let⟨f,fd,G,m,kp,b,_⟩:=h;⟨f,fd,G,m,kp,b⟩
theorem zVP(h:HasD X.prog X.w X.K X.mg X.base x j ps sp)(hjk:j<=k)(hr:Room k X.A)(hf:Flies X E)(hg:Gl X x)(ha:PA X (e::es) t)(hdb:(x==("__debug__":Str))=false:=by decide)
  (he:starEach (e::es) X.env=(false,eval e X.env)::starEach es X.env:=by rfl) (hpl:(backTo pos (starEach es X.env)).any (·.1)=false:=by rfl):PE X (.Call (.Name x p) (e::es) [] pos) (zDJ sp [.non] E t):=by
 obtain⟨f,fd,G,m,kp,_,b⟩:=h;exact zJ0 G (hr.mono hjk) hg m kp b (.cons rfl .nil) hf.passes ha hdb he hpl
end
theorem mkDD{K:qA2}{h:Heap}{mg:Str->Option Value}{nm:Str}{st:Stmt}{f dt:Addr}{oc kV dc pm cd ct:Value}{od an:Option Addr}{sl:Array (Option Value)}{ot:Obj}{n:Nat}(X:K.In h)(G:h.Ns qHx mg)(a:qBg K qHx nm=some (some (.ref f)))
  (l:K.lookup f=some ⟨oc,od,.func (qB7 nm nm (zAV st) (zAX st) (zAA st) (.ref dt) kV dc pm an cd ct),sl⟩) (c:qC7 K cd nm=true) (k:qB4 K (.ref f)=true) (l2:K.lookup dt=some ot) (e:ot.data=.seq #[.none] n):DefD K mg nm st:=
 ⟨f,_,⟨⟨oc,od,dt,kV,dc,pm,an,cd,ct,sl,ot,n,rfl,l,c,l2,e⟩,k⟩,qC5 X G a⟩
end L2
namespace L3
open PySem PySem.Spec
open L2 hiding Rep RepL
open Mi (Dt Xn R okR zA1 optR zA0 zA4 zA7 zA5 zA6 Rh Sl Ro EM TM AM FM IM SM OM Tg Out zAN zAO zAQ full frz frz1 frzAt FW)
section
variable[Kc]{mg:Str->Option Value}{E:XK}{n:Nat}{t:TA}{m:AM}
theorem zFQ{G:Hp}:∀{ds:List Dt}{vs:List V}{d:Dt}{v:V},RepL G ds vs->Rep G d v->RepL G (ds++[d]) (vs++[v])
 |[],_,d,v,h,r=>by cases h;exact⟨v,[],rfl,r,rfl⟩
 |_::_,_,d,v,h,r=>by obtain⟨x,q,rfl,h1,h2⟩:=h;exact⟨x,_,rfl,h1,zFQ h2 r⟩
theorem zQP{f:FM}(A:DA mg E t m 0):DE mg E (zDJ (spM mg n f) [.non] E t) (Mi.eCallD f m) n:=by
 intro G H σ ρ Q s w p;refine A.step errE s w p fun ds vs G1 H1 S T _ fr o p1=>?_
 exact⟨G1,ds++[.non],w.tab.trans fr.ext.g,fr.ext.in',zFQ (d:=.non) (v:=.non) o.repL rfl,PostE.from p1 fr.ext⟩
theorem zOJ{f:FM}(A:DA mg E t m 0):DE mg E (zDJ (spE Kc.K mg n f) [.non] E t) (Mi.eCallD f m) n:=zQP A
end
def spW0(K:qA2)(mg:Str->Option Value)(i0 k L:Nat)(f:FW):Sp:=fun vs H Q _=>@spW ⟨K⟩ mg i0 k L f vs H Q E0
end L3
namespace L2
open PySem PySem.Spec PyProof.Rows
theorem zMN:typeLookup (.type "range_iterator") "__len__" = pure none:=by rw[typeLookup_type,builtinLookup_eq_fast];kernel_rfl
theorem zLA:isSubtype (.type "range_iterator") (.type "reversed")=pure false:=by rw[isSubtype_type];kernel_rfl
noncomputable def zPG(n:Int):Obj:={ cls:=.type "range_iterator",data:=.fields #[rawInt (n-1),rawInt n,rawInt (-1)] }
section
variable{prog:qHr}{w:World}{A:qHv}{E:Value->qHp->Prop}{s:qHp}
theorem zSE{r:Addr}{n:Int}{t u v:Tok}{Q:Value->qHp->Prop}(h0:0<=n)(hn:n<=1000000)(hr:IsRange s.heap r 0 n 1 t u v)
  (h:Q (.ref s.heap.objs.size) { s with heap:=s.heap.push (zPG n) }):wpAny (model prog w) A (call (.builtin "range.__reversed__") [.ref r]) Q E s:=by
 have hT:s.TypeIs (.ref r) "range":=⟨_,hr,rfl⟩
 have hsz:qIe 0 n 1=n:=by
  unfold qIe;rw[if_pos (by decide)]
  split
  ·rw[qFm];lia
  ·lia
 have hf:∀i:Int,-1000001<=i->i<=1000000->qJg i=true:=fun i a b=>by
  unfold qJg;simp
  lia
 refine wpAny_call_entry qCh hT PySem.F.entry_range_reversed ?_ (PySem.F.args_range_reversed_1 _);unfold qLg.«range.__reversed__»;refine wpAny_bind (wpAny_of_eq (a:=qHw r) rfl ?_);refine wpAny_bind ?_;unfold qLl;refine wpAny_bind (wpAny_field hr rfl (x:=.int 0 t) rfl ?_);refine wpAny_bind (wpAny_of_eq (a:=some 0) (by first|rfl|kernel_rfl) ?_);refine wpAny_bind (wpAny_field hr rfl (x:=.int n u) rfl ?_);refine wpAny_bind (wpAny_of_eq (a:=some n) (by first|rfl|kernel_rfl) ?_);refine wpAny_bind (wpAny_field hr rfl (x:=.int 1 v) rfl ?_);refine wpAny_bind (wpAny_of_eq (a:=some 1) (by first|rfl|kernel_rfl) ?_);refine wpAny_pure ?_;dsimp only;rw[hsz,hf 0 (by decide) (by decide),hf n (by lia) hn,hf 1 (by decide) (by decide),hf (-1) (by decide) (by decide),hf (0-1) (by decide) (by decide)];simp only[Bool.and_self,Bool.not_true,qC9,if_false,if_true,ite_true,ite_false];refine wpAny_bind ?_;show wpAny _ _ (newObj (.type "range_iterator") (.fields #[rawInt (0+(n-1)*1),rawInt n,rawInt (-1)])) _ _ _;rw[show(0:Int)+(n-1)*1=n-1 by lia];exact wpAny_newObj_type (wpAny_pure ⟨_,rfl,h⟩)
theorem zUY{r:Addr}{n:Int}{t u v:Tok}{Q₁:Value->qHp->Prop}(h0:0<=n)(hn:n<=1000000)(hr:IsRange s.heap r 0 n 1 t u v)
  (h:Q₁ (.ref s.heap.objs.size) { s with heap:=s.heap.push (zPG n) }) :
  qJ4 (model prog w) A (.call (.builtin "reversed.__new__") ⟨[.type "reversed",.ref r],[]⟩) (wants Q₁ E) s:=by
 have hT:s.TypeIs (.ref r) "range":=⟨_,hr,rfl⟩
 refine codeAny_of_tree ?_;show wpAny _ A.in1 (do checkBuiltinCall "reversed.__new__" ⟨[.type "reversed",.ref r],[]⟩;again (.builtin "reversed.__new__" ⟨[.type "reversed",.ref r],[]⟩)) _ _ s;refine wpAny_bind (wpAny_of_eq (PySem.F.newCall_reversed_1 _) (wpAny_pure ⟨qJy qDc _,qK8 PySem.F.entry_reversed_new ?_⟩));rw[qJ6 qDc _];unfold qLg.«reversed.__new__»;refine wpAny_bind (wpAny_of_eq (newClass_reversed _) ?_)
 try dsimp only
 refine wpAny_bind (wpAny_of_eq (a:=()) (by first|rfl|kernel_rfl) ?_);refine wpAny_bind (wpAny_of_eq (a:=()) (by first|rfl|kernel_rfl) ?_)
 try dsimp only
 refine wpAny_bind (wpAny_specialOf hT qCh.lookup ?_)
 try dsimp only
 refine wpAny_bind (wpAny_of_eq (qCh.bind _) ?_)
 try dsimp only
 first
 |rw[if_neg (show ¬((qJ7 "range.__reversed__" == qHy)=true) from qAa)]
 |(show wpAny _ _ (if(qJ7 "range.__reversed__" == qHy)=true then _ else _) _ _ _;rw[if_neg (show ¬((qJ7 "range.__reversed__" == qHy)=true) from qAa)])
 refine wpAny_bind (wpAny_rule ?_);refine wpAny_bind (m:=runValue (.call (.builtin "range.__reversed__") ⟨[.ref r],[]⟩)) (show wpAny _ _ (call (.builtin "range.__reversed__") [.ref r]) _ _ _ from zSE h0 hn hr ?_)
 first
 |exact wpAny_pure h
 |exact wpAny_bind (wpAny_pure (wpAny_pure h))
theorem zSF{r:Addr}{n:Int}{t u v:Tok}{Q:Value->qHp->Prop}(h0:0<=n)(hn:n<=1000000)(hr:IsRange s.heap r 0 n 1 t u v)
  (h:Q (.ref s.heap.objs.size) { s with heap:=s.heap.push (zPG n) }):wpAny (model prog w) A (call (.type "reversed") [.ref r]) Q E s:=by
 refine callType_other (U:="range_iterator") (Q₁:=fun obj s₁=>obj=.ref s.heap.objs.size/\s₁={ s with heap:=s.heap.push (zPG n) }) (by decide +kernel) PySem.F.create_reversed ⟨_,_,PySem.F.mro_reversed⟩ PySem.F.made_reversed zLA (PySem.F.typeCall_reversed_1 _) (zUY h0 hn hr ⟨rfl,rfl⟩) ?_
 rintro obj s₁ ⟨rfl,rfl⟩
 exact⟨⟨_,qHt _ rfl,rfl⟩,h⟩
theorem zUZ{it:Addr}{x left step:Int}{Q:Option Value->qHp->Prop}(hh:A.handled=none)(hit:qIy s.heap it x left step)(hleft:left<=0)
  (hQ:∀h',(∀b o,s.heap.get? b=some o->h'.get? b=some o)->Q none { s with heap:=h' }):wpAny (model prog w) A (pyNext (.ref it)) Q E s:=by
 have hT:s.TypeIs (.ref it) "range_iterator":=⟨_,hit,rfl⟩
 unfold pyNext;refine wpAny_bind (wpAny_attempt (wpAny_callSpecial?_slot (name:=qIs "__next__") hT qCt
  (wpAny_call_entry qCt hT PySem.F.entry_range_iterator_next ?_ (PySem.F.args_range_iterator_next_1 _))))
 show wpAny _ _ (field (.ref it) 0 >>= _) _ _ s;refine wpAny_bind (wpAny_field hit rfl (x:=rawInt x) rfl ?_);show wpAny _ _ (field (.ref it) 1 >>= _) _ _ s;refine wpAny_bind (wpAny_field hit rfl (x:=rawInt left) rfl ?_);show wpAny _ _ (field (.ref it) 2 >>= _) _ _ s;refine wpAny_bind (wpAny_field hit rfl (x:=rawInt step) rfl ?_);show wpAny _ _ (if left<=0 then _ else _) _ _ s;rw[if_pos hleft];refine wpAny_bind (wpAny_rule ?_);refine wpAny_bind ?_;show wpAny _ _ (newExc (.type "StopIteration") [] >>= _) _ _ _;refine wpAny_bind ?_;simp only[newExc,newTuple];refine wpAny_bind (wpAny_newObj_type ?_ (by size_fits));refine wpAny_bind (m:=qJq _ _) (wpAny_of_eq (a:=qHy) (by first|rfl|(simp only[qJq];rfl)) ?_);refine wpAny_newObj_type ?_ (by size_fits);simp only[raiseNew];refine wpAny_bind (wpAny_handled ?_);rw[show A.in1.handled=none from hh];refine wpAny_bind (wpAny_pure (wpAny_throw ?_));refine wpAny_bind (wpAny_isInstance (T:="StopIteration") (b:=true) ⟨_,qHt _ rfl,rfl⟩ isSubtype_stop ?_);exact wpAny_pure (hQ _ fun b o e=>qHq _ (qHq _ e))
theorem zSV{I:Addr}{n:Nat}(hn:n<=1000000) :
  Once prog w "range_iterator" I [I] n (fun i v=>∃t,v=.int ((n:Int)-1-(i:Int)) t) (fun i h=>i<=n/\qIy h I ((n:Int)-1-(i:Int)) ((n:Int)-(i:Int)) (-1)) where
 ty:=fun s i st=>⟨_,st.2,rfl⟩
 nl:=by decide
 nt:=by decide
 me:=by simp
 hint:=fun A E s Q hh st hQ=>by
  have hl:=zEE;have hT:s.TypeIs (.ref I) "range_iterator":=⟨_,st.2,rfl⟩
  have ho:=st.2;unfold qJe;refine wpAny_bind (wpAny_specialOf hT zMN ?_);show wpAny _ _ (specialOf (qHw I) (qIs "__length_hint__") >>= _) _ _ _;refine wpAny_bind (wpAny_specialOf hT qCi.lookup ?_)
  generalize hid:("range_iterator.__length_hint__":String)=id0
  wp_delta
  rw[show splitId id0=some ("range_iterator","__length_hint__") from by subst hid;decide +kernel];subst hid;refine wpAny_bind (wpAny_isInstance (T:="range_iterator") (b:=true) hT (by rw[isSubtype_type];kernel_rfl) ?_);refine qJf (fun hab=>absurd hab (by decide)) (fun _=>?_);refine qJf (fun _=>?_) (fun hab=>absurd (by decide +kernel) hab);refine qJf (fun _=>?_) (fun hab=>absurd (by decide +kernel) hab);refine wpAny_bind (wpAny_call_entry qCi hT PySem.F.entry_range_iterator_length_hint ?_ (PySem.F.args_range_iterator_length_hint_1 _));unfold qLg.«range_iterator.__length_hint__»;refine wpAny_bind (wpAny_of_eq (a:=qHw I) rfl ?_);refine wpAny_bind (wpAny_field ho rfl (x:=rawInt ((n:Int)-((0:Nat):Int))) rfl ?_);show wpAny _ _ (retInt ((n:Int)-((0:Nat):Int))) _ _ _;refine wpAny_bind (wpAny_mkInt (wpAny_pure ⟨_,rfl,?_⟩));have hL:qI5 ((n:Int)-((0:Nat):Int)).toNat=false:=by unfold qI5;simp;rw[qIn];lia
  refine wpAny_bind (wpAny_of_eq (a:=some ((n:Int)-((0:Nat):Int))) (by first|rfl|kernel_rfl) ?_);dsimp only;rw[hL];exact wpAny_pure (hQ _ _)
 walk:=fun A hh=>{
  me:=by simp
  frame:=fun i h h' st hk=>⟨st.1,hk I (by simp) _ st.2⟩
  item:=fun i s Q E hi st hQ=>by
   refine wpAny_pyNext_range_item st.2 (by lia) fun h' hit' hs'=>?_
   rw[show(n:Int)-1-(i:Int) + -1=(n:Int)-1-((i+1:Nat):Int) by lia,show(n:Int)-(i:Int)-1=(n:Int)-((i+1:Nat):Int) by lia]at hit';exact hQ _ h' _ ⟨_,rfl⟩ ⟨hi,hit'⟩ fun b o hb eo=>hs'.extBut b o hb eo
  done:=fun s Q E st hQ=>zUZ hh st.2 (by lia) fun h' he'=>hQ h' s.toks (fun b o _ eo=>he' b o eo) ⟨_,he' _ _ st.2⟩
  self:=fun i s Q E st hQ=>qK0 st.2 hQ }
end
noncomputable def riHO(p:Addr)(n:Nat):HO:=.ext fun h=>qIy h p ((n:Int)-1) (n:Int) (-1)
section
variable{X:Cx}{pins:List (Addr×Obj)}{σ:List (Option V)}{H:Hp}{s:qHp}
def zV6:List V->Hp->VK->Prop:=fun vs H Q=>match vs with
 |[.ref a]=>∃n:Nat,H a=some (.rng 0 (n:Int))/\n<=1000000/\∀p,H p=none->Q (.ref p) (upd H p (riHO p n))
 |_=>False
theorem zW8:zBU X (.type "reversed") zV6:=by
 intro pins s σ H vs us Q I r h
 match vs,r,h with
 |[.ref a],r,h=>
  obtain⟨n,ha,hn,q⟩:=h;obtain⟨u,rfl,rx⟩:=zFH r;cases rx;obtain⟨t,u,v,e⟩:=(show ObjOk X.prog X.w H s.heap a (.rng 0 (n:Int)) from I.hok a _ ha)
  refine zSF (n:=(n:Int)) (by lia) (by lia) e ?_;exact⟨.ref _,_,I.laid (t':=s.toks) (o:=riHO s.heap.objs.size n) (fun b o e=>qHq _ e) (qA6 _) ⟨qHt _ rfl,⟨_,qHt _ rfl⟩,fun h1 h2 z f=>f _ z⟩,rfl,q _ I.fresh⟩
def zR7:List V->Hp->VK->Prop:=fun vs H Q=>match vs with
 |[.ref p]=>∃n:Nat,H p=some (riHO p n)/\n<=10000/\∀l,upd H p (zEF p) l=none->Q (.ref l) (upd (upd H p (zEF p)) l (.lst (zCB 0 n).reverse))
 |_=>False
theorem zT6(hc:X.calm=true):zBU X (.type "list") zR7:=by
 intro pins s σ H vs us Q I r h
 match vs,r,h with
 |[.ref p],r,h=>
  obtain⟨n,hp,hn,q⟩:=h;obtain⟨u,rfl,rx⟩:=zFH r;cases rx;have hok:ObjOk X.prog X.w H s.heap p (riHO p n):=I.hok p _ hp;have hit:qIy s.heap p ((n:Int)-1) (n:Int) (-1):=hok.1;have hpl:p<s.heap.objs.size:=hok.lt;have mu:Mut (H p):=by rw[hp];trivial
  have hz:n<=sizeLine:=by rw[qIn];lia
  have st:0<=n/\qIy s.heap p ((n:Int)-1-((0:Nat):Int)) ((n:Int)-((0:Nat):Int)) (-1):=⟨qAt _,by simpa using hit⟩
  refine zN7 (zSV (I:=p) (n:=n) (by lia)) (I.ok.hd hc) st (fun b hb=>by rw[qAr.mp hb];exact hpl) hz fun h' tk acc' c' hk hu hl hi=>?_
  have hsl:(zCB 0 n).length=n:=by simp[zCB]
  have hv:Vals (zCB 0 n).reverse acc'.toList:=by
   refine zM1 (by simp[hi.1,hsl]) fun j u x h1 h2=>?_
   have hj:j<(zCB 0 n).length:=by have:=(qA4.mp h2).1;simpa using this
   obtain⟨t,rfl⟩:=hi.2 j u (by rw[<- qCd];exact h1);rw[List.getElem?_reverse hj,hsl]at h2;rw[hsl]at hj
   have:x=.int ((n:Int)-1-(j:Int)):=by
    have e:(zCB 0 n)[n-1-j]?=some (V.int ((n:Int)-1-(j:Int))):=by
     unfold zCB;rw[qAe,qEx (by lia)];simp
     lia
    rw[e]at h2;exact(qB3 h2).symm
   subst this;exact⟨t,rfl⟩
  have hl0:H s.heap.objs.size=none:=I.fresh;exact⟨.ref _,_,I.walked (t':=tk) (o:=.lst (zCB 0 n).reverse) mu (qA6 _) (fun b o hb e=>hk b o hb e) hu ⟨by simpa[hsl]using hz,acc'.toList,c',hv,by simpa using hl⟩,rfl,q _ (by rw[zAF (qCb hpl)];exact hl0)⟩
end
end L2
namespace L3
open PySem PySem.Spec PyProof.Rows
open L2 hiding Rep RepL
section
variable{P:qHr}{w:World}{K:qA2}{mg:Str->Option Value}{base:Heap}{x:Str}{st:Stmt}{N ps:List Str}{k:Nat}
theorem dfW{L n i0 j:Nat}{m:Mi.SMM}(D:Def K mg x st)(S:FnScope N ps (zAA st))
  (hb:∀(kV doc pm:Value)(an:Option Addr)(cdv ct:Value)(us:List Value),us.length=ps.length->qKb (qB7 x x (zAV st) (zAX st) (zAA st) .none kV doc pm an cdv ct) ⟨us,[]⟩=pure (ps.zip us))
  (hbody:∀{f:Addr}{cdv:Value}{A:qHv}{outer:List Env}{s:qHp}{H:Hp}{vs:List V}{Q:VK}{E:XK},Room k (A.deeper (envOfC x (zAA st) s.heap.objs.size f cdv))->(A.deeper (envOfC x (zAA st) s.heap.objs.size f cdv)).units+64<cLine->spW0 K mg i0 j L (Mi.uniM (Mi.runM L ps.length n i0 j m)) vs H Q E ->
   ∃t,PSs (cxOf CX0 P w K mg base N x (zAA st) f cdv A outer s H E).nox (zAX st) t/\t { nx:=fun _ H'=>Q .non H',rt:=Q } (start N vs) H):Has P w K mg base x (k+1) ps (spW0 K mg i0 j L (Mi.uniM (Mi.runM L ps.length n i0 j m))):=
 D.ok S hb (fun _ _ _ _ h=>@zS9 ⟨K⟩ _ _ _ _ _ _ _ _ _ _ _ h) fun _ _ _ _ _ _ _ _ _ hr h=>hbody hr hr.units h
theorem dfD{a b:Str}{L n:Nat}{m:Mi.SM}(D:DefD K mg x st)(S:FnScope N [a,b] (zAA st))(h1:(zAV st).posonlyargs=[])(h2:(zAV st).args.map (·.arg)=[a,b])(h3:(zAV st).kwonlyargs=[])(h4:(zAV st).vararg=none)(h5:(zAV st).kwarg=none)(hab:a≠b)
  (hbody:∀{f:Addr}{cdv:Value}{A:qHv}{outer:List Env}{s:qHp}{H:Hp}{vs:List V}{Q:VK}{E:XK},Room k (A.deeper (envOfC x (zAA st) s.heap.objs.size f cdv))->(A.deeper (envOfC x (zAA st) s.heap.objs.size f cdv)).units+64<cLine->spE K mg L (Mi.runF 2 n m) vs H Q E ->
   ∃t,PSs (cxOf (CXe P w) P w K mg base N x (zAA st) f cdv A outer s H E) (zAX st) t/\t { nx:=fun _ H'=>Q .non H',rt:=Q } (start N vs) H):HasD P w K mg base x (k+1) [a,b] (spE K mg L (Mi.runF 2 n m)):=
 D.okX S h1 h2 h3 h4 h5 hab (fun _ _ _ _ h=>@zIV ⟨K⟩ _ _ _ _ _ _ _ _ _ h) fun _ _ _ _ _ _ _ _ _ hr h=>hbody hr hr.units h
end
end L3
namespace L3
open PySem PySem.Spec
open L2 hiding Rep RepL
open Mi (Dt Xn R okR zA1 optR zA0 zA4 zA7 zA5 zA6 Rh Sl Ro EM TM AM FM IM SM OM Tg Out zAN zAO zAQ full frz frz1 frzAt)
section
variable[Kc]{mg:Str->Option Value}{E:XK}{L n k:Nat}{te:TE}{e:EM}{t:TS}{m:SM}
end
end L3
namespace Mi
open PySem
noncomputable section
def rvrD:List Dt->Option Dt
 |[.int j]=>@ite _ (0<=j/\j<=1000) (qA1 _) (some (.lst (nums 0 j.toNat).reverse)) none
 |_=>none
end
end Mi
namespace L3
open PySem PySem.Spec PyProof.Rows
open L2 hiding Rep RepL
open Mi (Dt Xn R okR zA1 optR zA0 zA4 zA7 zA5 zA6 Rh Sl Ro EM TM AM FM IM SM OM Tg Out zAN zAO zAQ full frz frz1 frzAt)
section
variable[Kc]{mg:Str->Option Value}{E:XK}{L n k l:Nat}{te ta tb:TE}{e ea eb ma:EM}{t:TA}{m:AM}
theorem zX7(A:DA mg E t m 0):DE mg E (tCB zR7 (zD3 (tCB zV6 (zD3 (tCB zIX t) tNil)) tNil)) (Mi.eBi Mi.rvrD m) 1:=by
 intro G H σ ρ Q s w p;refine A.step errE s w p fun ds vs G1 H1 S T _ fr o p1=>?_
 have p2:=PostE.from p1 fr.ext;have r:=o.repL;have s1:=fr.ext.in';cases ds with
 |nil=>exact p2.elim
 |cons a0 r0=>
  cases a0 with
  |int i=>
   cases r0 with
   |nil=>
    obtain⟨x,rfl,hx⟩:=zDW r
    cases(show x=.int i from hx)
    rw[Mi.rvrD]at p2
    split at p2
    ·rename_i hz
     obtain⟨n,rfl⟩:∃n:Nat,i=(n:Int):=⟨i.toNat,by lia⟩
     intro q hq;refine⟨n,zAE,by lia,fun p hp=>⟨n,zAE,by lia,fun l hl=>?_⟩⟩;have sn:=L2.same_new hq (.rng 0 (n:Int));rw[qBa]at p2;exact PostE.lst p2 (Ext.same s1 (fun b u e=>zMJ hp _ _ b u (sn b u e))) (zPH (zK0 0 _)) hl
    ·exact p2.elim
   |cons _ _=>exact p2.elim
  |_=>exact p2.elim
end
end L3
namespace Mp
open Mi PySem
theorem zEX(n:Nat):nums 0 n=((qA7 n).map fun i:Nat=>(i:Int)).map Dt.int:=by
 unfold nums;rw[qAo];exact qAs fun i _=>by simp
theorem zJY(ms:List Int)(q:Nat)(v:Int):(ms.map Dt.int).set q (.int v)=(ms.set q v).map Dt.int:=by
 rw[qEh]
theorem zLR(ms:List Int)(q:Nat):(ms.map Dt.int).eraseIdx q=(ms.eraseIdx q).map Dt.int:=by
 induction ms generalizing q with
 |nil=>rfl
 |cons a r ih=>
  cases q with
  |zero=>rfl
  |succ q=>simp[ih]
theorem zEK{r:Ro}{j i l:Nat}{ls:List Int}{e:EM}{z:Int}(h:r[i]?=some (some (.lst (ls.map .int),l+1)))(he:e (full r)=okR (.int z))(h0:0<=z)(h1:z<ls.length)(hij:i≠j)(hle:ls.length<=1000000) :
  sPop j i e r=okR (.nx ((r.set i (some (.lst ((ls.eraseIdx z.toNat).map .int),l+1))).set j (some (.int (ls.getD z.toNat 0),l)))):=by
 have hi:ixA (ls.map Dt.int).length z=some z.toNat:=zKI h0 (by simpa using h1);have hg:(ls.map Dt.int)[z.toNat]?=some (.int (ls.getD z.toNat 0)):=by
  have:z.toNat<ls.length:=by lia
  rw[qAe,qA5 this,qA0,qA5 this];rfl
 unfold sPop;rw[h];dsimp only;rw[he,zA0];dsimp only;rw[hi];dsimp only;rw[hg];dsimp only;rw[if_pos ⟨hij,by simpa using hle⟩,zLR]
theorem zDQ{r:Ro}{i n l:Nat}{ls:List Int}{e1 e2:EM}{z v:Int}(h:r[i]?=some (some (.lst (ls.map .int),l+1)))(he2:e2 (full r)=okR (.int v))(he1:e1 (full r)=okR (.int z))(h0:0<=z)(h1:z<ls.length) :
  sItem i n e1 e2 r=okR (.nx (r.set i (some (.lst ((ls.set z.toNat v).map .int),l+1)))):=by
 have hi:ixA (ls.map Dt.int).length z=some z.toNat:=zKI h0 (by simpa using h1);unfold sItem;rw[he2,zA0,h];dsimp only;rw[he1,zA0];dsimp only;rw[hi];dsimp only;rw[if_pos ⟨qAt _,qAt _⟩,zJY]
def fm(cs:List Nat)(s:Nat)(b:Bool):List Nat:=if b=true then(sh s cs).reverse else sh s cs
end Mp
namespace Mi
open PySem
section
variable(ρ:Rh)(r:Ro)(a:EM)(am:AM)
@[simp] theorem x_tL:tL a ρ=zA1 (a ρ) fun x=>match x with | .bl k=>okR k | .int i=>okR (i != 0) | .non=>okR false | .lst xs=>okR (!xs.isEmpty) | .tup xs=>okR (!xs.isEmpty)|_=>none:=rfl
@[simp] theorem x_eMl(f:List Dt->List Dt->Option Dt):eMl f a am ρ=zA1 (a ρ) fun x=>match x with | .lst xs=>zA1 (am ρ) fun ds=>optR (f xs ds)|_=>none:=rfl
@[simp] theorem x_iRv:iRv am ρ=zA1 (am ρ) fun vs=>match vs with|[.lst xs]=>okR xs.reverse|_=>none:=rfl
@[simp] theorem v_xor(i j:Int):xorD (.int i) (.int j)=some (.int (qJ1 i j)):=rfl
@[simp] theorem zXP(xs:List Dt)(k:Int):repD (.lst xs) (.int k)=@ite _ ((-4611686018427387904<=k/\k<4611686018427387904)/\xs.length*k.toNat<=100000) (qA1 _) (some (.lst (qA3 k.toNat xs).flatten)) none:=rfl
end
@[simp] theorem okR_inj{α:Type}{a b:α}:okR a=okR b↔a=b:=⟨fun h=>by cases h;rfl,fun h=>by rw[h]⟩
@[simp] theorem x_sFor(vs:List Nat)(it:IM)(tg:Tg)(b:SM)(r:Ro):sFor vs it tg b r=zA1 (it (frz (frzAt vs r))) fun ds=>forGo tg b ds (frzAt vs r):=rfl
@[simp] theorem zIR(it:IM)(i:Nat)(b:SM)(r:Ro):sForR it i b r=zA1 (it (full r)) fun ds=>forGo (.one i) b ds r:=rfl
@[simp] theorem x_iSq(e:EM)(ρ:Rh):iSq e ρ=zA1 (e ρ) fun d=>match d with | .lst xs=>okR xs | .tup xs=>okR xs | .scr ns=>okR (ns.map .int) | .str z=>okR (signsD z)|_=>none:=rfl
@[simp] theorem x_iEn(e:AM)(ρ:Rh):iEn e ρ=zA1 (e ρ) fun vs=>match vs with|[.lst xs]=>okR (zTP 0 xs)|_=>none:=rfl
@[simp] theorem x_iZi(e:AM)(ρ:Rh):iZi e ρ=zA1 (e ρ) fun vs=>match vs with|[.lst xs,.lst ys]=>okR (zipD xs ys)|_=>none:=rfl
theorem zS3{e:AM}{ρ:Rh}{n:Nat}(h:e ρ=okR [.int n])(hn:n<=100000):iR1 e ρ=okR (nums 0 n):=by
 unfold iR1;rw[h,zA0];dsimp only;rw[if_pos (by lia)];simp
theorem zEX(n:Nat):nums 0 n=((qA7 n).map fun i:Nat=>(i:Int)).map Dt.int:=by
 unfold nums;rw[qAo];exact qAs fun i _=>by simp
theorem zCA(n:Nat):nums 0 n=(qA7 n).map fun i:Nat=>Dt.int (i:Int):=by
 unfold nums;exact qAs fun i _=>by simp
def nxR(x:R Out)(P:Ro->Prop):Prop:=match x with
 |some (.ok (.nx r))=>P r
 |_=>False
@[simp] theorem x_nxR(r:Ro)(P:Ro->Prop):nxR (okR (.nx r)) P=P r:=rfl
theorem zC3{x:R Out}{P:Ro->Prop}(h:nxR x P):∃r',x=okR (.nx r')/\P r':=by
 unfold nxR at h
 split at h
 ·exact⟨_,rfl,h⟩
 ·exact h.elim
theorem zAY{x:R Out}{P:Ro->Prop}{r:Ro}(h:x=okR (.nx r))(hp:P r):nxR x P:=by rw[h];exact hp
theorem zLI{i j:Int}(h:-18446744073709551616<i)(h':i<18446744073709551616):mulD (.int i) (.int j)=some (.int (i*j)):=by
 rw[zUA,if_pos (.inl (.inl ⟨h,h'⟩))]
theorem zNF{i j:Int}(h:-18446744073709551616<j)(h':j<18446744073709551616):mulD (.int i) (.int j)=some (.int (i*j)):=by
 rw[zUA,if_pos (.inl (.inr ⟨h,h'⟩))]
theorem zG3{ρ:Rh}{c:TM}{e:EM}{i:Nat}{β:Type}(en:β->Dt)(g:β->Dt)(ns:List β)(hc:c=tYes)(hi:i=ρ.length)(h:∀k,k∈ns->e (ρ++[some (en k)])=okR (g k))(it:IM)(hit:it ρ=okR (ns.map en))(hn:ns.length<=100000):eComp it 1 (.one i) c e ρ=okR (.lst (ns.map g)):=by
 subst hc hi;unfold eComp;rw[hit,zA0,if_pos ⟨by simpa using hn,by simp[Tg.idx]⟩]
 have:∀(ns:List β)(acc:List Dt),(∀k,k∈ns->e (ρ++[some (en k)])=okR (g k))->compGo ρ 1 (.one ρ.length) tYes e (ns.map en) acc=okR (acc++ns.map g):=by
  intro ns
  induction ns with
  |nil=>intro acc _;simp[compGo]
  |cons d r ih=>
   intro acc h;rw[qAj,compGo];have e1:zAO (ρ++qA3 1 none) [(ρ.length,en d)]=ρ++[some (en d)]:=by simp[zAO]
   show zA1 (tYes _) _=_;simp only[zU5,zA0,if_true];show zA1 (e (zAO (ρ++qA3 1 none) [(ρ.length,en d)])) _=_;rw[e1,h d (by simp),zA0,ih _ fun k hk=>h k (by simp[hk])];simp
 rw[this ns [] h,zA0];simp
theorem zMH{a b:SM}{r:Ro}{X:R Out}(h:∀bb:SM,bb=b->nxR (a r) fun r1=>bb r1=X):sSeq a b r=X:=by
 obtain⟨r1,h1,h2⟩:=zC3 (h b rfl);unfold sSeq;rw[h1,zA0];exact h2
theorem zDK{a b:SM}{r:Ro}{P:Ro->Prop}(h:∀bb:SM,bb=b->nxR (a r) fun r1=>nxR (bb r1) P):nxR (sSeq a b r) P:=by
 obtain⟨r1,h1,h2⟩:=zC3 (h b rfl);unfold sSeq;rw[h1,zA0];exact h2
theorem zD7{P n:Nat}{b:SM}{ds:List Dt}{d:Dt}(h:ds.length=P)(hb:b (startO n ds)=okR (.rt d)):runF P n b ds=okR d:=by
 unfold runF;rw[if_pos h,hb];rfl
theorem zSX{j n:Nat}{b:SM}{r:Ro}{X:Ro->Prop}(Pv:Nat->Ro->Prop)(h:Pv 0 r)(hs:∀k,k<n->∀r,Pv k r->nxR (b (r.set j (some (.int (k:Nat),0)))) (Pv (k+1)))(hK:∀r',Pv n r'->X r'):nxR (forGo (.one j) b (nums 0 n) r) X:=by
 obtain⟨r',h1,h2⟩:∃r',forGo (.one j) b (nums 0 n) r=okR (.nx r')/\Pv n r':=by
  obtain⟨r',h1,h2⟩:=zE3 (tg:=.one j) (b:=b) Pv (nums 0 n) 0 r h fun k d r hd hp=>by
   rw[zCA,qAe]at hd;cases e:(qA7 n)[k]? with
   |none=>rw[e]at hd;cases hd
   |some q=>
    rw[e]at hd;cases hd;obtain⟨h1,h2⟩:=qA4.mp e;rw[qBx]at h2;subst h2;rw[qBp]at hp;obtain⟨r',g1,g2⟩:=zC3 (hs k (by simpa using h1) r hp);exact⟨_,r',rfl,g1,by rw[qBp];exact g2⟩
  exact⟨r',h1,by simpa[nums]using h2⟩
 rw[h1];exact hK r' h2
theorem zNB{γ:Type}{j:Nat}{b:SM}{r:Ro}{X:Ro->Prop}(en:γ->Dt)(ns:List γ)(Pv:Nat->Ro->Prop)(h:Pv 0 r)(hs:∀k x,ns[k]?=some x->∀r,Pv k r->nxR (b (r.set j (some (en x,0)))) (Pv (k+1)))(hK:∀r',Pv ns.length r'->X r'):nxR (forGo (.one j) b (ns.map en) r) X:=by
 obtain⟨r',h1,h2⟩:=zE3 (tg:=.one j) (b:=b) Pv (ns.map en) 0 r h fun k d r hd hp=>by
  rw[qAe]at hd;cases e:ns[k]? with
  |none=>rw[e]at hd;cases hd
  |some q=>
   rw[e]at hd;cases hd;rw[qBp]at hp;obtain⟨r',g1,g2⟩:=zC3 (hs k q e r hp);exact⟨_,r',rfl,g1,by rw[qBp];exact g2⟩
 rw[h1];exact hK r' (by simpa using h2)
theorem zPT{c:TM}{b:SM}{r:Ro}{X:Ro->Prop}(Pv:Ro->Prop)(μ:Ro->Nat)(Rv:Ro->Prop)(h0:Pv r)(hm:μ r<1000000)(hc:∀r,Pv r->(c (full r)=okR false/\Rv r)\/(c (full r)=okR true/\nxR (b r) fun r'=>Pv r'/\μ r'<μ r))(hK:∀r',Rv r'->X r'):nxR (sWhile c b r) X:=by
 obtain⟨r',h1,h2⟩:=zL7 Pv μ Rv h0 hm fun r hr=>(hc r hr).imp (fun z=>z) fun z=>⟨z.1,zC3 z.2⟩
 rw[h1];exact hK r' h2
theorem zHU:∀(a b:List Char),a.map qHl=b.map qHl->a=b
 |[],[],_=>rfl
 |[],_::_,h=>by simp at h
 |_::_,[],h=>by simp at h
 |x::r,y::q,h=>by
  simp only[qAj,qG3]at h;rw[zHU r q h.2]
  have:x=y:=Char.toNat_inj.mp h.1
  rw[this]
@[simp] theorem str_inj(a b:String):(qIs a=qIs b)↔a=b:=by
 constructor
 ·intro h;rw[qK4,qK4]at h;simp only[Str.mk.injEq,List.toArray_inj]at h
  have:=zHU _ _ (by simpa using h)
  exact String.toList_inj.mp this
 ·intro h;rw[h]
section
variable(ρ:Rh)(a:EM)(am:AM)(lo hi:OM)
@[simp] theorem zXN:eSl a lo hi ρ=zA1 (a ρ) fun x=>zA1 (lo ρ) fun l=>zA1 (hi ρ) fun h=>optR (slD x l h):=rfl
@[simp] theorem zXM:oNo ρ=okR none:=rfl
@[simp] theorem x_oE:oE a ρ=zA1 (a ρ) fun d=>match d with | .int i=>okR (some i)|_=>none:=rfl
@[simp] theorem x_eMt(f:Dt->List Dt->Option Dt):eMt f a am ρ=zA1 (a ρ) fun x=>if zNS x=true then zA1 (am ρ) fun xs=>optR (f x xs)else none:=rfl
@[simp] theorem v_isStr(z:Str):zNS (.str z)=true:=rfl
end
@[simp] theorem v_slL(xs:List Dt)(l h:Option Int):slD (.lst xs) l h=some (.lst (cutA xs l h)):=rfl
@[simp] theorem v_slS(z:Str)(l h:Option Int):slD (.str z) l h=@ite _ (z.length<=100000) (qA1 _) (some (.str ⟨(cutA z.cps.toList l h).toArray⟩)) none:=rfl
@[simp] theorem v_ixSt(z:Str)(i:Int):ixD (.str z) (.int i)=@ite _ (z.length<=100000) (qA1 _) ((itA z.cps.toList i).map fun c=>.str ⟨#[c]⟩) none:=rfl
@[simp] theorem v_lenSt(z:Str):lenD [.str z]=@ite _ (z.length<=100000) (qA1 _) (some (.int z.length)) none:=rfl
@[simp] theorem v_count1(z:Str)(c:Nat):zRW (.str z) [.str ⟨#[c]⟩]=some (.int (z.cps.toList.count c:Nat)):=rfl
@[simp] theorem v_in1(ng:Bool)(z:Str)(c:Nat):inD ng (.str ⟨#[c]⟩) (.str z)=some (.bl (if ng=true then !decide (c∈z.cps.toList)else decide (c∈z.cps.toList))):=rfl
@[simp] theorem v_find1(z:Str)(c:Nat):zWR (.str z) [.str ⟨#[c]⟩]=some (.int (match posC c z.cps.toList with|some i=>(i:Int)|none=>-1)):=rfl
theorem zQR{α:Type}(xs:List α)(k:Nat):cutA xs (some (k:Int)) none=xs.drop k:=by
 unfold cutA cutIx;dsimp only;rw[if_neg (by lia)]
 by_cases h:k<=xs.length
 ·rw[show min (k:Int).toNat xs.length=k by lia];exact qEd (by simp)
 ·rw[show min (k:Int).toNat xs.length=xs.length by lia];simp
  lia
theorem zS8(a b:Str):(a++b).cps.toList=a.cps.toList++b.cps.toList:=by
 show(Str.mk (a.cps++b.cps)).cps.toList=_
 simp
theorem zT4(z:Str):z.length=z.cps.toList.length:=by
 unfold Str.length;simp
theorem zNK(l:List Nat):(Str.mk l.toArray).length=l.length:=by rw[zT4]
end Mi
namespace Mp
open Mi PySem
theorem sg{i n:Nat}{vs:List Nat}{e:EM}{b:SM}{r:Ro}{d:Dt}{X:R Out}(he:e (full r)=okR d)(hd:d.dep<=n)(h:b (r.set i (some (d,n)))=X):sSeq (sSet i n vs e) b r=X:=by
 rw[zD6,zFM,he,zA0,if_pos hd,zA0];exact h
theorem sgf{i n:Nat}{vs:List Nat}{e:EM}{b:SM}{r:Ro}{d:Dt}{X:R Out}(he:e (full r)=okR d)(hd:¬d.dep<=n)(he2:e (frz (frzAt vs r))=okR d)(h:b ((frzAt vs r).set i (some (d,n)))=X):sSeq (sSet i n vs e) b r=X:=by
 rw[zD6,zFM,he,zA0,if_neg hd,he2,zA0,zA0];exact h
theorem sp{c:TM}{a b:SM}{r:Ro}{X:R Out}(hc:c (full r)=okR false)(h:b r=X):sSeq (sIf c a sNil) b r=X:=by
 rw[zD6,zL2,hc,zA0,if_neg (by simp),zQW,zA0];exact h
theorem st{c:TM}{a b:SM}{r r':Ro}{X:R Out}(hc:c (full r)=okR true)(ha:a r=okR (.nx r'))(h:b r'=X):sSeq (sIf c a sNil) b r=X:=by
 rw[zD6,zL2,hc,zA0,if_pos rfl,ha,zA0];exact h
theorem c2{m:FM}{e1 e2:EM}{ρ:Rh}{d1 d2:Dt}{X:R Dt}(h1:e1 ρ=okR d1)(h2:e2 ρ=okR d2)(h:m [d1,d2]=X):eCall m (aCons e1 (aCons e2 aNil)) ρ=X:=by
 simp only[zIS,zBB,zCH,h1,h2,zA0];exact h
theorem c1{m:FM}{e1:EM}{ρ:Rh}{d1:Dt}{X:R Dt}(h1:e1 ρ=okR d1)(h:m [d1]=X):eCall m (aCons e1 aNil) ρ=X:=by
 simp only[zIS,zBB,zCH,h1,zA0];exact h
theorem b2{o:Dt->Dt->Option Dt}{e1 e2:EM}{ρ:Rh}{d1 d2 d:Dt}(h1:e1 ρ=okR d1)(h2:e2 ρ=okR d2)(h:o d1 d2=some d):eB o e1 e2 ρ=okR d:=by
 rw[x_eB,h1,zA0,h2,zA0,h];rfl
theorem bi1{o:List Dt->Option Dt}{e1:EM}{ρ:Rh}{d1 d:Dt}(h1:e1 ρ=okR d1)(h:o [d1]=some d):eBi o (aCons e1 aNil) ρ=okR d:=by
 simp only[zU9,zBB,zCH,h1,zA0,h];rfl
theorem el1{e1:EM}{ρ:Rh}{d1:Dt}(h1:e1 ρ=okR d1):eLst (aCons e1 aNil) ρ=okR (.lst [d1]):=by simp[h1]
theorem tb1{e:EM}{ρ:Rh}{k:Bool}(h:e ρ=okR (.bl k)):tB e ρ=okR k:=by rw[x_tB,h,zA0]
theorem tm1{e:EM}{ρ:Rh}{k:Bool}(h:e ρ=okR (.bl k)):tM e ρ=okR k:=by rw[x_tM,h,zA0]
theorem tn1{t:TM}{ρ:Rh}{k:Bool}(h:t ρ=okR k):tNo t ρ=okR (!k):=by rw[zXL,h,zA0]
theorem to0{t t':TM}{ρ:Rh}{k:Bool}(h:t ρ=okR false)(h':t' ρ=okR k):Mi.tOr t t' ρ=okR k:=by rw[zU6,h,zA0,if_neg (by simp),h']
theorem to1{t t':TM}{ρ:Rh}(h:t ρ=okR true):Mi.tOr t t' ρ=okR true:=by rw[zU6,h,zA0,if_pos rfl]
theorem ta1{t t':TM}{ρ:Rh}{k:Bool}(h:t ρ=okR true)(h':t' ρ=okR k):tAn t t' ρ=okR k:=by rw[zU7,h,zA0,if_pos rfl,h']
theorem ta0{t t':TM}{ρ:Rh}(h:t ρ=okR false):tAn t t' ρ=okR false:=by rw[zU7,h,zA0,if_neg (by simp)]
theorem ss{i n:Nat}{vs:List Nat}{e:EM}{r:Ro}{d:Dt}(he:e (full r)=okR d)(hd:d.dep<=n):sSet i n vs e r=okR (.nx (r.set i (some (d,n)))):=by
 rw[zFM,he,zA0,if_pos hd]
theorem sr{L n:Nat}{vs:List Nat}{e:EM}{r:Ro}{d:Dt}(he:e (full r)=okR d)(hd:d.dep<=n/\d.dep<=L):sRet L n vs e r=okR (.rt d):=by
 rw[zU8,he,zA0,if_pos hd]
theorem tl{k k':Bool}{x:Option Dt}(h:x=some (.bl k))(e:k=k'):x=some (.bl k'):=e▸h
theorem bi2{o:List Dt->Option Dt}{e1 e2:EM}{ρ:Rh}{d1 d2 d:Dt}(h1:e1 ρ=okR d1)(h2:e2 ρ=okR d2)(h:o [d1,d2]=some d):eBi o (aCons e1 (aCons e2 aNil)) ρ=okR d:=by
 simp only[zU9,zBB,zCH,h1,h2,zA0,h];rfl
theorem sl1{a b:EM}{ρ:Rh}{x d:Dt}{i:Int}(h1:a ρ=okR x)(h2:b ρ=okR (.int i))(h:slD x (some i) none=some d):eSl a (oE b) oNo ρ=okR d:=by
 rw[zXN,h1,zA0,x_oE,h2,zA0,zA0,zXM,zA0,h];rfl
theorem sf{c:TM}{a:SM}{r:Ro}(hc:c (full r)=okR false):sIf c a sNil r=okR (.nx r):=by
 rw[zL2,hc,zA0,if_neg (by simp),zQW]
theorem eqi{e1 e2:EM}{ρ:Rh}{a b:Int}{k:Bool}(h1:e1 ρ=okR (.int a))(h2:e2 ρ=okR (.int b))(h:decide (a=b)=k):tB (eB eqD e1 e2) ρ=okR k:=by
 refine tb1 (b2 h1 h2 ?_);rw[<- h];simp[Dt.eq];rfl
theorem nei{e1 e2:EM}{ρ:Rh}{a b:Int}{k:Bool}(h1:e1 ρ=okR (.int a))(h2:e2 ρ=okR (.int b))(h:(!decide (a=b))=k):tB (eB neD e1 e2) ρ=okR k:=by
 refine tb1 (b2 h1 h2 ?_);rw[<- h];simp[Dt.eq];rfl
theorem sx{c:TM}{a b:SM}{r:Ro}{d:Dt}(hc:c (full r)=okR true)(ha:a r=okR (.rt d)):sSeq (sIf c a sNil) b r=okR (.rt d):=by
 rw[zD6,zL2,hc,zA0,if_pos rfl,ha,zA0]
theorem mdi{i j k:Int}(h:0<j)(e:i%j=k):modD (.int i) (.int j)=some (.int k):=by rw[<- e];exact if_pos h
theorem dvi{i j:Int}(h:0<j/\j<1000000000000000000000000):divD (.int i) (.int j)=some (.int (i/j)):=@if_pos _ (qA1 _) h _ _ _
theorem c3{m:FM}{e1 e2 e3:EM}{ρ:Rh}{d1 d2 d3:Dt}{X:R Dt}(h1:e1 ρ=okR d1)(h2:e2 ρ=okR d2)(h3:e3 ρ=okR d3)(h:m [d1,d2,d3]=X):eCall m (aCons e1 (aCons e2 (aCons e3 aNil))) ρ=X:=by
 simp only[zIS,zBB,zCH,h1,h2,h3,zA0];exact h
theorem ned{e1 e2:EM}{ρ:Rh}{x y:Dt}{b k:Bool}(h1:e1 ρ=okR x)(h2:e2 ρ=okR y)(d1:x.dep<=40)(d2:y.dep<=40)(h:Dt.eq x y=b)(hk:(!b)=k):tB (eB neD e1 e2) ρ=okR k:=by
 refine tb1 (b2 h1 h2 ?_);unfold neD;rw[if_pos ⟨d1,d2⟩,h,hk]
theorem sw{s t:SM}{r r':Ro}{X:R Out}(h:s r=okR (.nx r'))(h2:t r'=X):sSeq s t r=X:=by rw[zD6,h,zA0];exact h2
theorem nsw{s t:SM}{r r':Ro}{P:Ro->Prop}(h:s r=okR (.nx r'))(h2:nxR (t r') P):nxR (sSeq s t r) P:=by rw[zD6,h,zA0];exact h2
theorem v1{i:Nat}{ρ:Rh}{d:Dt}(h:ρ[i]?=some (some d)):eV i ρ=okR d:=by rw[x_eV,h]
theorem al0{e:EM}{ρ:Rh}{d:Dt}(h:e ρ=okR d):aCons e aNil ρ=okR [d]:=by rw[zBB,h];rfl
theorem adi{a b c:Int}(h:a+b=c):addD (.int a) (.int b)=some (.int c):=by rw[<- h];rfl
theorem sbi{a b c:Int}(h:a-b=c):subD (.int a) (.int b)=some (.int c):=by rw[<- h];rfl
theorem k1{d d':Dt}{ρ:Rh}(h:d=d'):eC d ρ=okR d':=by rw[<- h];rfl
theorem cmi{p:Int->Int->Bool}{a b:Int}{k:Bool}(h:p a b=k):cmpD p (.int a) (.int b)=some (.bl k):=by rw[<- h];rfl
noncomputable def rowD(r:List Int):Dt:=.lst (r.map .int)
def mat(A:List (List Int)):Dt:=.lst (A.map rowD)
noncomputable def tab(n:Nat)(f:Nat->Nat->Int):List (List Int):=(qA7 n).map fun i=>(qA7 n).map fun j=>f i j
def Bits(n:Nat)(f:Nat->Nat->Int):Prop:=∀i j,i<n->j<n->f i j=0\/f i j=1
def Sym(n:Nat)(f:Nat->Nat->Int):Prop:=∀i j,i<n->j<n->f i j=f j i
@[simp] theorem zBE(r:List Int):(rowD r).dep=1:=by simp[rowD]
@[simp] theorem lenR(r:List Int):lenD [rowD r]=some (.int r.length):=by
 show some (Dt.int ((r.map Dt.int).length:Int))=_;rw[qAm]
@[simp] theorem listR(r:List Int):listD [rowD r]=some (rowD r):=rfl
@[simp] theorem lenM(A:List (List Int)):lenD [mat A]=some (.int A.length):=by
 show some (Dt.int ((A.map rowD).length:Int))=_;rw[qAm]
theorem zRQ(a b:List Int):Dt.eq (rowD a) (rowD b)=decide (a=b):=by
 unfold rowD;rw[v_e4,zEM]
def Bit(x:Int):Prop:=x=0\/x=1
def RowN(n:Nat)(r:List Int):Prop:=r.length=n/\∀x∈r,Bit x
theorem zTA(r:List Int)(i:Nat)(h:i<r.length):ixD (rowD r) (.int (i:Int))=some (.int (r.getD i 0)):=by
 have:=zKL (ns:=r) (i:=(i:Int)) (by lia) (by lia)
 rw[qBa]at this;exact this
noncomputable def sumN(n:Nat)(f:Nat->Int):Int:=((qA7 n).map f).sum
theorem zYT{ds:List Dt}(h:∀d∈ds,d.dep=0):Dt.depL ds=0:=by
 induction ds with
 |nil=>simp
 |cons a r ih=>rw[zGA,h a (by simp),ih fun d hd=>h d (by simp[hd])];rfl
theorem zP2{r:Ro}{j i k l:Nat}{e:EM}{z:Int}{ds es:List Dt}{c:Dt}(hi:r[i]?=some (some (.lst ds,k+1)))(hj:r[j]?=some (some (.lst es,l+1)))(he:e (full r)=okR (.int z))(h0:0<=z)(h1:z<ds.length)(hc:ds[z.toNat]?=some c)(hf:c.dep=0)(hij:i≠j)(hz:ds.length<=1000)(hz2:es.length<=1000)(hk:k<1000) :
  sAppPop j i e r=okR (.nx ((r.set i (some (.lst (ds.eraseIdx z.toNat),k+1))).set j (some (.lst (es++[c]),l+1)))):=by
 unfold sAppPop;rw[hj,hi];dsimp only;rw[he,zA0];dsimp only;rw[zKI h0 h1];dsimp only;rw[hc];dsimp only;rw[if_pos ⟨hij,by lia,by lia,.inr ⟨by lia,by lia,hk⟩⟩]
noncomputable def zW7(i:Nat)(r:Ro):Nat:=match r[i]? with
 |some (some (Dt.lst lf,_))=>lf.length
 |_=>0
noncomputable def numL(ks:List Nat):List Int:=ks.map fun k:Nat=>(k:Int)
theorem zTJ{ks:List Nat}{n a:Nat}(hk:∀k∈ks,k<n)(ha:a<ks.length):ks.getD a 0<n:=by
 refine hk _ ?_;rw[qA0,qA5 ha];simp
noncomputable def sub(ks:List Nat)(f:Nat->Nat->Int):Nat->Nat->Int:=fun a b=>f (ks.getD a 0) (ks.getD b 0)
noncomputable def sgn(c:Nat):Dt:=.str ⟨#[c]⟩
theorem zQG(cs:List Nat):∀d∈cs.map sgn,d.dep=0:=by
 intro d hd;obtain⟨c,_,rfl⟩:=qAb.mp hd;rfl
@[simp] theorem depL_sgn(cs:List Nat):Dt.depL (cs.map sgn)=0:=zYT (zQG cs)
theorem zGD(n:Nat)(hn:n<=10000):repD (.lst [.int 0]) (.int (n:Int))=some (rowD (qA3 n 0)):=by
 rw[zXP,if_pos (by simp;lia)]
 have:∀m:Nat,(qA3 m [Dt.int 0]).flatten=qA3 m (Dt.int 0):=by
  intro m
  induction m with
  |zero=>rfl
  |succ m ih=>rw[qAz,qBj,ih];rfl
 rw[qBa,this];unfold rowD;rw[List.map_replicate]
def lawS(row:List Nat)(k:Nat):List (Nat×Int):=((qA7 k).map fun k=>tieP row ((k+1)%row.length)).flatten
def zZ5(ls row:List Nat):Prop:=∀x∈row,∀y∈row,ls.getD x 0=ls.getD y 0->x=y
theorem zQ0{cs:List Nat}(h:cs.length<=1000):lenD [.str ⟨cs.toArray⟩]=some (.int (cs.length:Int)):=by
 have:=zNK cs
 simp[lenD,this]
 try lia
noncomputable def addB:List Int->List Int->List Int
 |a::r,b::s=>(a+b)%2::addB r s
 |_,_=>[]
noncomputable def dot:List Int->List Int->Int
 |a::r,b::x=>a*b+dot r x
 |_,_=>0
def Ker(A:List (List Int))(x:List Int):Prop:=∀r∈A,dot r x%2=0
noncomputable def ent(A:List (List Int))(i k:Nat):Int:=(A.getD i []).getD k 0
theorem getD_mem{α:Type}{l:List α}{d:α}{i:Nat}(h:i<l.length):l.getD i d∈l:=by
 rw[qA0,qA5 h];simp
theorem zQF{α:Type}{l:List α}{d a:α}{i j:Nat}(h:i<l.length):(l.set i a).getD j d=if i=j then a else l.getD j d:=by
 simp only[qA0,qFi]
 by_cases z:i=j
 ·subst z;simp[h]
 ·simp[z]
theorem mem_getD{α:Type}{l:List α}{d x:α}(h:x∈l):∃i,i<l.length/\l.getD i d=x:=by
 obtain⟨i,hi,rfl⟩:=qD4.mp h;exact⟨i,hi,by simp[qA0,qA5 hi]⟩
def oth(A:List (List Int))(c:Nat)(lead:List Int):List (List Int):=A.map fun r=>if r.getD c 0=1 then addB r lead else r
section
variable{A:List (List Int)}{c t m:Nat}(hm:∀r∈A,RowN m r)(ht:t<A.length)(hc:c<=t)(hl:ent A t c=1)(hcm:c<m)
include hm ht in
include hm ht hc in
include ht hc in
include hm ht hc in
end
def zZ4(A:List (List Int))(c:Nat):Prop:=∀i k,i<A.length->k<c->ent A i k=if i=k then 1 else 0
theorem zSC{n p:Nat}{x:List Int}{v:Int}(hx:RowN n x)(hv:Bit v):RowN n (x.set p v):=
 ⟨by simp[hx.1],fun y hy=>(qDh hy).elim (hx.2 y) fun z=>z▸hv⟩
theorem zMM{n k:Nat}{x:List Int}(hx:RowN n x):Bit (x.getD k 0):=by
 by_cases h:k<x.length
 ·exact hx.2 _ (getD_mem h)
 ·left;simp[qA0,qCj (by lia:x.length<=k)]
theorem zHJ{n:Nat}{a:List Int}(h:a.length=n):a=(qA7 n).map fun j=>a.getD j 0:=by
 apply qB9
 ·simp[h]
 ·intro i h1 h2;simp[qA0,qA5 h1]
noncomputable def zXR(n i:Nat):List Int:=(qA7 n).map fun j=>if j=i then 1 else 0
def aug(n:Nat)(T:List (List Int)):List (List Int):=(qA7 n).map fun i=>T.getD i []++zXR n i
structure Un(n:Nat)(T A:List (List Int))(c:Nat):Prop where
 len:A.length=n
 rows:∀r∈A,RowN (n+n) r
 unit:zZ4 A c
 ker:∀x,(∀y∈x,Bit y)->(Ker A x↔Ker (aug n T) x)
def eiR(x:R Out)(P:Ro->Prop)(Q:Dt->Prop):Prop:=(∃r,x=okR (.nx r)/\P r)\/∃d,x=okR (.rt d)/\Q d
theorem zF8{x:R Out}{P:Ro->Prop}{Q:Dt->Prop}(h:nxR x P):eiR x P Q:=.inl (zC3 h)
theorem zCM{a b:SM}{r:Ro}{P P':Ro->Prop}{Q:Dt->Prop}(h:eiR (a r) P Q)(hb:∀r',P r'->eiR (b r') P' Q):eiR (sSeq a b r) P' Q:=by
 unfold sSeq
 rcases h with⟨r',e,h'⟩|⟨d,e,hq⟩
 ·rw[e,zA0];exact hb r' h'
 ·rw[e,zA0];exact .inr ⟨d,rfl,hq⟩
theorem zO7{α β:Type}(f:α->β):∀(l:List α)(i:Nat),(l.map f).eraseIdx i=(l.eraseIdx i).map f
 |[],_=>rfl
 |a::r,0=>rfl
 |a::r,i+1=>by simp[zO7 f r i]
theorem zUM{z:Str}{l:List Nat}(h:z.cps.toList=l):z=⟨l.toArray⟩:=by
 cases z with
 |mk a=>subst h;simp
theorem add_str{a b:List Nat}(h:a.length+b.length<=1000):addD (.str ⟨a.toArray⟩) (.str ⟨b.toArray⟩)=some (.str ⟨(a++b).toArray⟩):=by
 rw[zUB,if_pos (by rw[zNK,zNK];lia)]
 congr 2
 exact zUM (by rw[zS8])
theorem zEV{α:Type}:∀(l:List α){i:Nat}(h:i<l.length),l.Perm (l[i]::l.eraseIdx i)
 |a::r,0,h=>by simp
 |a::r,i+1,h=>by
  have:=zEV r (i:=i) (by simpa using h)
  simp only[qEc,qBd];exact(this.cons a).trans (qGj _ _ _)
@[simp] theorem x_eNew0(c:Str)(ρ:Rh):zWT c ρ=okR (.ins c []):=rfl
@[simp] theorem x_eNew(c:Str)(fl:List Str)(am:AM)(ρ:Rh):eNew c fl am ρ=zA1 (am ρ) fun ds=>match svsD ds with
 |some vs=>if vs.length=fl.length then okR (.ins c (fl.zip vs))else none
 |none=>none:=rfl
@[simp] theorem x_eFld(hs:List Str)(f:Str)(e:EM)(ρ:Rh):eFld hs f e ρ=zA1 (e ρ) fun d=>match d with
 |.ins c fs=>if c∈hs then(match fs.lookup f with|some v=>okR (dSv v)|none=>none)else none
 |_=>none:=rfl
@[simp] theorem x_eMeth(tb:List (Str×FM))(m:Str)(e:EM)(am:AM)(ρ:Rh):zYV tb m e am ρ=zA1 (e ρ) fun d=>match d with
 |.ins c fs=>match tb.lookup c with
  |some g=>match fs.lookup m with
   |none=>zA1 (am ρ) fun ds=>g (d::ds)
   |some _=>none
  |none=>none
 |_=>none:=rfl
@[simp] theorem x_eIsO(ys ns:List Str)(e:EM)(ρ:Rh):eIsO ys ns e ρ=zA1 (e ρ) fun d=>match d with
 |.ins c _=>if c∈ys then okR (.bl true)else if c∈ns then okR (.bl false)else none
 |_=>none:=rfl
@[simp] theorem v_dins(c:Str)(fs:List (Str×Sv)):(Dt.ins c fs).dep=1000:=rfl
theorem len1(x:Nat):lenD [sgn x]=some (.int 1):=zQ0 (cs:=[x]) (by simp)
end Mp
namespace FW
structure NetL(ns:List Int)(n:Nat):Prop where
 len:ns.length=n
 tie:∀i:Nat,i<n->∃j:Nat,j<n/\j≠i/\ns[i]?=some (j:Int)/\ns[j]?=some (i:Int)
structure Part(left:List Nat)(ns:List Int)(n:Nat):Prop where
 len:ns.length=n
 nd:left.Nodup
 lt:∀i∈left,i<n
 ev:left.length%2=0
 tie:∀i:Nat,i<n->i∉left->∃j:Nat,j<n/\j∉left/\j≠i/\ns[i]?=some (j:Int)/\ns[j]?=some (i:Int)
theorem Part.start(n:Nat)(h:n%2=0):Part (qA7 n) (qA3 n 0) n:=
 ⟨by simp,qBv,fun i hi=>qCk.mp hi,by simpa using h,fun i hi hn=>absurd (qCk.mpr hi) hn⟩
theorem Part.done{ns:List Int}{n:Nat}(h:Part [] ns n):NetL ns n:=⟨h.len,fun i hi=>by
 obtain⟨j,h1,_,h2,h3,h4⟩:=h.tie i hi (by simp);exact⟨j,h1,h2,h3,h4⟩⟩
theorem zF0{l:List Nat}{k:Nat}{x:Nat}:x∈l.eraseIdx k->x∈l:=fun h=>List.mem_of_mem_eraseIdx h
theorem zDO:∀{l:List Nat}{k:Nat}{b:Nat},l.Nodup->l[k]?=some b->b∉l.eraseIdx k
 |[],_,_,_,h=>by simp at h
 |a::r,0,b,nd,h=>by
  simp at h;subst h
  simpa using(qAp.mp nd).1
 |a::r,k+1,b,nd,h=>by
  obtain⟨h1,h2⟩:=qAp.mp nd;have h':r[k]?=some b:=by simpa using h
  intro hm;simp only[qBd]at hm
  rcases qAd.mp hm with e|hm
  ·subst e;exact h1 (qAw h')
  ·exact zDO h2 h' hm
theorem zEC:∀{l:List Nat}{k:Nat}{b x:Nat},l[k]?=some b->x∈l->x≠b->x∈l.eraseIdx k
 |[],_,_,_,h,_,_=>by simp at h
 |a::r,0,b,x,h,hx,hne=>by
  simp at h;subst h
  rcases qAd.mp hx with e|hx
  ·exact absurd e hne
  ·simpa using hx
 |a::r,k+1,b,x,h,hx,hne=>by
  have h':r[k]?=some b:=by simpa using h
  simp only[qBd]
  rcases qAd.mp hx with e|hx
  ·exact qAd.mpr (.inl e)
  ·exact qAd.mpr (.inr (zEC h' hx hne))
theorem len_erase{l:List Nat}{k:Nat}(h:k<l.length):(l.eraseIdx k).length+1=l.length:=by
 rw[qBt h];lia
theorem Part.turn{a b k:Nat}{l:List Nat}{ns:List Int}{n:Nat}(h:Part (a::l) ns n)(hb:l[k]?=some b):Part (l.eraseIdx k) ((ns.set a (b:Int)).set b (a:Int)) n:=by
 obtain⟨ha,nd⟩:=qAp.mp h.nd;have hk:k<l.length:=(qA4.mp hb).1;have hbl:b∈l:=qAw hb;have hab:a≠b:=fun e=>ha (e▸hbl)
 have han:a<n:=h.lt a (by simp);have hbn:b<n:=h.lt b (by simp[hbl]);have hl:=h.len;refine⟨by simp[hl],nd.sublist (List.eraseIdx_sublist l k),fun i hi=>h.lt i (qA9 _ (zF0 hi)),?_,fun i hi hn=>?_⟩
 ·have e:=h.ev
  have:=len_erase hk
  simp at e
  lia
 ·have nb:b∉l.eraseIdx k:=zDO nd hb;have na:a∉l.eraseIdx k:=fun z=>ha (zF0 z)
  by_cases e1:i=a
  ·subst e1;refine⟨b,hbn,nb,fun z=>hab z.symm,?_,?_⟩
   ·rw[qAl (fun z=>hab z.symm),qAk (by lia)]
   ·rw[qAk (by simp[hl];lia)]
  ·by_cases e2:i=b
   ·subst e2;refine⟨a,han,na,hab,?_,?_⟩
    ·rw[qAk (by simp[hl];lia)]
    ·rw[qAl (fun z=>hab z.symm),qAk (by lia)]
   ·have hi':i∉a::l:=fun z=>by
     rcases qAd.mp z with z|z
     ·exact e1 z
     ·exact hn (zEC hb z e2)
    obtain⟨j,hj,hjl,hji,g1,g2⟩:=h.tie i hi hi';have ja:j≠a:=fun z=>hjl (by simp[z])
    have jb:j≠b:=fun z=>hjl (by simp[z,hbl])
    refine⟨j,hj,fun z=>hjl (qA9 _ (zF0 z)),hji,?_,?_⟩
    ·rw[qAl (fun z=>e2 z.symm),qAl (fun z=>e1 z.symm)];exact g1
    ·rw[qAl (fun z=>jb z.symm),qAl (fun z=>ja z.symm)];exact g2
end FW
namespace Mp
open Mi PySem
theorem zQ1{P:Nat->Prop}:∀(n:Nat),P n->∃p,p<=n/\P p/\∀q,q<p->¬P q:=by
 intro n
 induction n using Nat.strongRecOn with
 |ind n ih=>
  intro h
  by_cases hq:∃q,q<n/\P q
  ·obtain⟨q,h1,h2⟩:=hq;obtain⟨p,h3,h4,h5⟩:=ih q h1 h2;exact⟨p,by lia,h4,h5⟩
  ·exact⟨n,qA6 _,h,fun q h1 h2=>hq ⟨q,h1,h2⟩⟩
noncomputable def itr(f:Nat->Nat):Nat->Nat->Nat
 |0,x=>x
 |k+1,x=>f (itr f k x)
theorem zFY{f:Nat->Nat}{M:Nat}(hf:∀x,x<M->f x<M){x:Nat}(hx:x<M):∀k,itr f k x<M
 |0=>hx
 |k+1=>hf _ (zFY hf hx k)
theorem zKK{f:Nat->Nat}{M:Nat}(hf:∀x,x<M->f x<M)(hi:∀x y,x<M->y<M->f x=f y->x=y){x:Nat}(hx:x<M):∀i d,itr f i x=itr f (i+d) x->itr f d x=x
 |0,d,h=>by rw[qBp]at h;exact h.symm
 |i+1,d,h=>by
  rw[show i+1+d=(i+d)+1 by lia]at h;exact zKK hf hi hx i d (hi _ _ (zFY hf hx i) (zFY hf hx (i+d)) h)
theorem zHR:∀l:List Nat,¬l.Nodup->∃i j,i<j/\j<l.length/\l.getD i 0=l.getD j 0
 |[],h=>absurd qEp h
 |a::l,h=>by
  by_cases ha:a∈l
  ·obtain⟨j,hj,e⟩:=qEy ha;exact⟨0,j+1,by lia,by simp;lia,by simp[hj,e]⟩
  ·have:¬l.Nodup:=fun hn=>h (qAp.mpr ⟨ha,hn⟩)
   obtain⟨i,j,h1,h2,h3⟩:=zHR l this;exact⟨i+1,j+1,by lia,by simp;lia,by simpa using h3⟩
theorem zHS:∀{a b:List Nat},a.Nodup->(∀x∈a,x∈b)->a.length<=b.length
 |[],b,_,_=>by simp
 |x::a,b,hn,h=>by
  obtain⟨h1,h2⟩:=qAp.mp hn;have hx:=h x (by simp)
  have:=zHS (b:=b.erase x) h2 fun y hy=>by
   have hne:y≠x:=fun z=>h1 (z▸hy)
   exact(qEm hne).mpr (h y (by simp[hy]))
  rw[qDo hx]at this
  have:=qEe hx
  simp only[qB1]
  lia
theorem zLU{f:Nat->Nat}{M:Nat}(hf:∀x,x<M->f x<M)(hi:∀x y,x<M->y<M->f x=f y->x=y){x:Nat}(hx:x<M):∃p,1<=p/\p<=M/\itr f p x=x/\∀q,1<=q->q<p->itr f q x≠x:=by
 have hn:¬((qA7 (M+1)).map fun k=>itr f k x).Nodup:=fun hn=>by
  have:=zHS (b:=qA7 M) hn fun y hy=>by
   obtain⟨k,_,rfl⟩:=qAb.mp hy;exact qCk.mpr (zFY hf hx k)
  simp at this
  lia
 obtain⟨i,j,h1,h2,h3⟩:=zHR _ hn;simp at h2;have e:itr f i x=itr f j x:=by
  simpa[show i<M+1 by lia,h2]using h3
 have hb:itr f (j-i) x=x:=zKK hf hi hx i (j-i) (by rw[show i+(j-i)=j by lia];exact e);obtain⟨p,h4,h5,h6⟩:=zQ1 (P:=fun p=>1<=p/\itr f p x=x) (j-i) ⟨by lia,hb⟩;exact⟨p,h5.1,by lia,h5.2,fun q h7 h8 h9=>h6 q h8 ⟨h7,h9⟩⟩
noncomputable def jn(cs:List Nat)(e:Nat):Nat:=e/4*4+(e%4^^^(cs.getD (e/4) 0+1))
theorem xor4:∀s,s<4->∀w,w<3->(s^^^(w+1))<4/\((s^^^(w+1))^^^(w+1))=s:=by decide
theorem zEJ{cs:List Nat}{n e:Nat}(hl:cs.length=n)(hw:∀c∈cs,c<3)(he:e<4*n):jn cs e<4*n/\jn cs (jn cs e)=e:=by
 have hc:cs.getD (e/4) 0<3:=zTJ hw (by lia);obtain⟨h1,h2⟩:=xor4 (e%4) (by lia) _ hc;have hq:jn cs e/4=e/4:=by unfold jn;omega
 have hr:jn cs e%4=(e%4^^^(cs.getD (e/4) 0+1)):=by unfold jn;omega
 refine⟨by unfold jn;lia,?_⟩;show jn cs e/4*4+(jn cs e%4^^^(cs.getD (jn cs e/4) 0+1))=e;rw[hq,hr,h2]
 lia
noncomputable def nt(ts:List Nat)(e:Nat):Nat:=ts.getD e 0
structure NetN(ts:List Nat)(M:Nat):Prop where
 len:ts.length=M
 lt:∀e,e<M->nt ts e<M
 inv:∀e,e<M->nt ts (nt ts e)=e
def stp(ts cs:List Nat)(e:Nat):Nat:=nt ts (jn cs e)
theorem zME{ts cs:List Nat}{n:Nat}(hN:NetN ts (4*n))(hl:cs.length=n)(hw:∀c∈cs,c<3):(∀x,x<4*n->stp ts cs x<4*n)/\∀x y,x<4*n->y<4*n->stp ts cs x=stp ts cs y->x=y:=by
 refine⟨fun x hx=>hN.lt _ (zEJ hl hw hx).1,fun x y hx hy e=>?_⟩;have h1:=congrArg (nt ts) e;unfold stp at h1;rw[hN.inv _ (zEJ hl hw hx).1,hN.inv _ (zEJ hl hw hy).1]at h1;have h2:=congrArg (jn cs) h1;rw[(zEJ hl hw hx).2,(zEJ hl hw hy).2]at h2;exact h2
def orb(ts cs:List Nat)(e:Nat)(k:Nat):List Nat:=(qA7 k).flatMap fun i=>[itr (stp ts cs) i e,jn cs (itr (stp ts cs) i e)]
theorem zPS(ts cs:List Nat)(e k:Nat):orb ts cs e (k+1)=orb ts cs e k++[itr (stp ts cs) k e,jn cs (itr (stp ts cs) k e)]:=by
 unfold orb;rw[qG0,qEz];simp
theorem zN5(ts cs:List Nat)(e:Nat):∀k,(orb ts cs e k).length=2*k
 |0=>rfl
 |k+1=>by rw[zPS,qAy,zN5 ts cs e k];simp;lia
abbrev Kv:=List (Sum Int Str×Sw)
def zHT(D:Kv)(l:List Nat):Kv:=l.foldl (fun(m:Kv)(x:Nat)=>putW m (.inl (x:Int)) (.bl true)) D
def rdS(f:Nat->List Nat):Nat->List (List Nat)×Kv
 |0=>([],[])
 |k+1=>if(getW (rdS f k).2 (.inl (k:Int))).isSome=true then rdS f k else((rdS f k).1++[f k],zHT (rdS f k).2 (f k))
def rowsD(R:List (List Nat)):Dt:=.lst (R.map fun l=>rowD (numL l))
theorem zXY{ns:List Int}{M:Nat}(h:FW.NetL ns M):∃ts:List Nat,numL ts=ns/\NetN ts M:=by
 have key:∀i,i<M->∃j:Nat,j<M/\ns[i]?=some (j:Int)/\ns[j]?=some (i:Int):=fun i hi=>by
  obtain⟨j,h1,_,h2,h3⟩:=h.tie i hi;exact⟨j,h1,h2,h3⟩
 have hnt:∀(i j:Nat),ns[i]?=some (j:Int)->nt (ns.map Int.toNat) i=j:=fun i j h1=>by
  unfold nt;rw[qA0,qAe,h1];rfl
 refine⟨ns.map Int.toNat,?_,⟨by simp[h.len],fun i hi=>?_,fun i hi=>?_⟩⟩
 ·unfold numL;rw[qAo];refine Eq.trans (qAs fun x hx=>?_) (List.map_id ns);obtain⟨i,hi,e⟩:=qEy hx;obtain⟨j,_,h2,_⟩:=key i (by rw[<- h.len];exact hi);rw[qA5 hi,e]at h2;simp at h2;rw[h2];rfl
 ·obtain⟨j,h1,h2,_⟩:=key i hi;rw[hnt i j h2];exact h1
 ·obtain⟨j,h1,h2,h3⟩:=key i hi;rw[hnt i j h2,hnt j i h3]
structure Seats(R:List (List Nat))(n:Nat):Prop where
 len:R.length=n
 per:∀l∈R,l.Perm [0,1,2,3]
section
variable{R:List (List Nat)}{row:List Nat}{n:Nat}(hS:Seats R n)(tw:Twice n row)
include hS
include tw
omit hS in
omit hS in
omit hS in
omit hS in
omit hS tw in
omit hS tw in
end
theorem zQE(D:Kv)(k q:Sum Int Str)(v:Sw):getW (putW D k v) q=if q=k then some v else getW D q:=by
 unfold putW getW
 by_cases h:(D.any fun p=>decide (p.1=k))=true
 ·rw[if_pos h,List.find?_map];have e:((fun p:Sum Int Str×Sw=>decide (p.1=q))∘fun p=>if p.1=k then(p.1,v)else p)=fun p:Sum Int Str×Sw=>decide (p.1=q):=by
   funext p
   show decide ((if p.1=k then(p.1,v)else p).1=q)=decide (p.1=q)
   split<;>rfl
  rw[e];cases hf:D.find? fun p:Sum Int Str×Sw=>decide (p.1=q)with
  |none=>
   have hq:¬q=k:=fun z=>by
    subst z;obtain⟨x,hx,hd⟩:=qD0.mp h
    have:=qF8.mp hf x hx
    exact this hd
   rw[if_neg hq];rfl
  |some x=>
   have hx:x.1=q:=by have:=qG1 hf;simpa using this
   by_cases hq:q=k
   ·rw[if_pos hq];simp[hx,hq]
   ·rw[if_neg hq];simp[hx,hq]
 ·rw[if_neg h,List.find?_append];have hn:∀x∈D,¬x.1=k:=fun x hx e=>h (qD0.mpr ⟨x,hx,by simpa using e⟩)
  by_cases hq:q=k
  ·subst hq
   have:(D.find? fun p:Sum Int Str×Sw=>decide (p.1=q))=none:=qF8.mpr fun x hx=>by simpa using hn x hx
   rw[this,if_pos rfl];simp
  ·have hk:¬k=q:=fun z=>hq z.symm
   rw[if_neg hq];cases D.find? fun p:Sum Int Str×Sw=>decide (p.1=q)with
   |none=>simp[hk]
   |some x=>simp
section
variable{ts cs:List Nat}{n e:Nat}(hN:NetN ts (4*n))(hne:∀x,x<4*n->nt ts x≠x)(hl:cs.length=n)(hw:∀c∈cs,c<3)(he:e<4*n)
include hN hne hl hw he
variable{p:Nat}(p3:itr (stp ts cs) p e=e)(p4:∀q,1<=q->q<p->itr (stp ts cs) q e≠e)
include p3 p4
omit hN hne hl hw he p3 p4 in
theorem orb_mem{k x:Nat}:x∈orb ts cs e k↔∃i,i<k/\(x=itr (stp ts cs) i e\/x=jn cs (itr (stp ts cs) i e)):=by
 unfold orb;simp[qB5]
end
theorem zQX{ns:List Int}{M:Nat}(h:FW.NetL ns M):∃ts:List Nat,numL ts=ns/\NetN ts M/\∀x,x<M->nt ts x≠x:=by
 obtain⟨ts,e,hN⟩:=zXY h;refine⟨ts,e,hN,fun x hx=>?_⟩;obtain⟨j,h1,h2,h3,_⟩:=h.tie x hx;rw[<- e]at h3;unfold numL at h3;rw[qAe]at h3;unfold nt;rw[qA0];cases hq:ts[x]? with
 |none=>rw[hq]at h3;cases h3
 |some y=>
  rw[hq]at h3;simp at h3;simp
  lia
theorem zGM(x:Nat):∀(l:List Nat)(D:Kv),(getW (zHT D l) (.inl (x:Int))).isSome=true↔(getW D (.inl (x:Int))).isSome=true\/x∈l
 |[],D=>by simp[zHT]
 |y::l,D=>by
  show(getW (zHT (putW D (.inl (y:Int)) (.bl true)) l) (.inl (x:Int))).isSome=true↔_
  rw[zGM x l,zQE]
  by_cases h:x=y
  ·subst h;simp
  ·have:¬(qDw (x:Int):Sum Int Str)=.inl (y:Int):=fun e=>h (by injection e with e;lia)
   rw[if_neg this];simp[h]
theorem zDM(f:Nat->List Nat)(x:Nat):∀k,(getW (rdS f k).2 (.inl (x:Int))).isSome=true↔∃l∈(rdS f k).1,x∈l
 |0=>by simp[rdS,getW]
 |k+1=>by
  by_cases h:(getW (rdS f k).2 (.inl (k:Int))).isSome=true
  ·have e:rdS f (k+1)=rdS f k:=by rw[rdS,if_pos h]
   rw[e];exact zDM f x k
  ·have e:rdS f (k+1)=((rdS f k).1++[f k],zHT (rdS f k).2 (f k)):=by rw[rdS,if_neg h]
   rw[e]
   show(getW (zHT (rdS f k).2 (f k)) (.inl (x:Int))).isSome=true↔∃l∈(rdS f k).1++[f k],x∈l
   rw[zGM,zDM f x k];constructor
   ·rintro(⟨l,h1,h2⟩|h1)
    ·exact⟨l,by simp[h1],h2⟩
    ·exact⟨f k,by simp,h1⟩
   ·rintro⟨l,h1,h2⟩
    rcases qB0.mp h1 with h3|h3
    ·exact .inl ⟨l,h3,h2⟩
    ·simp at h3;subst h3;exact .inr h2
theorem zET(f:Nat->List Nat):∀k,(∀e,e<k->e∈f e)->∀e,e<k->(getW (rdS f k).2 (.inl (e:Int))).isSome=true
 |0,_,e,he=>by lia
 |k+1,hf,e,he=>by
  by_cases h:(getW (rdS f k).2 (.inl (k:Int))).isSome=true
  ·have e1:rdS f (k+1)=rdS f k:=by rw[rdS,if_pos h]
   rw[e1]
   by_cases z:e=k
   ·subst z;exact h
   ·exact zET f k (fun e he=>hf e (by lia)) e (by lia)
  ·have e1:rdS f (k+1)=((rdS f k).1++[f k],zHT (rdS f k).2 (f k)):=by rw[rdS,if_neg h]
   rw[e1]
   show(getW (zHT (rdS f k).2 (f k)) (.inl (e:Int))).isSome=true
   rw[zGM]
   by_cases z:e=k
   ·subst z;exact .inr (hf e (by lia))
   ·exact .inl (zET f k (fun e he=>hf e (by lia)) e (by lia))
def rowW(cs:List Nat):List Nat:=cs.map fun c=>(ords cs).idxOf c
structure Wd(n:Nat)(cs:List Nat):Prop where
 tw:Twice n (rowW cs)
 wr:wrd (ords cs) (rowW cs)=cs
 ap:zZ5 (ords cs) (rowW cs)
 od:ords (rowW cs)=qA7 n
 ol:(ords cs).length=n
 len:cs.length=2*n
noncomputable def zN(n:Nat):List Int:=qA3 (4*n) 0
def tsW(n:Nat)(row:List Nat):List Nat:=(qA7 (4*n)).map fun e=>((puts (lawS row row.length) (zN n)).getD e 0).toNat
section
variable{n:Nat}{row:List Nat}(t:Twice n row)
include t
end
noncomputable def cbW(c ls O:List Nat):List Nat:=O.map fun x=>c.getD (ls.idxOf x) 0
theorem jn4(c:List Nat){p s:Nat}(hs:s<4):jn c (4*p+s)=4*p+(s^^^(c.getD p 0+1)):=by
 unfold jn;rw[show(4*p+s)/4=p by lia,show(4*p+s)%4=s by lia]
 lia
section
variable{ts C':List Nat}{n:Nat}(hN:NetN ts (4*n))(hne:∀x,x<4*n->nt ts x≠x)(hl:C'.length=n)(hw:∀c∈C',c<3)(hn:n<=10)(n1:1<=n)
include hN hne hl hw hn n1
end
noncomputable def allv:Nat->List (List Int)
 |0=>[[]]
 |n+1=>(allv n).map (qDp 0)++(allv n).map (qDp 1)
theorem zKZ:∀n,(allv n).length=2 ^ n
 |0=>rfl
 |n+1=>by simp[allv,zKZ n];lia
theorem zC6{α β:Type}{l:List α}{f:α->β}(h:l.Nodup)(hi:∀x∈l,∀y∈l,f x=f y->x=y):(l.map f).Nodup:=by
 unfold List.Nodup;rw[List.pairwise_map];exact qH0 (fun{a b} ha hb hab z=>hab (hi a ha b hb z)) h
theorem zE6:∀n,(allv n).Nodup
 |0=>by simp[allv]
 |n+1=>by
  have ih:=zE6 n;rw[allv,qC3];refine⟨zC6 ih fun x _ y _ h=>by simpa using h,zC6 ih fun x _ y _ h=>by simpa using h,fun a ha b hb=>?_⟩;obtain⟨x,_,rfl⟩:=qAb.mp ha;obtain⟨y,_,rfl⟩:=qAb.mp hb;simp
theorem allv_mem:∀{n:Nat}{x:List Int},x∈allv n↔RowN n x
 |0,x=>by
  simp only[allv,qAr];constructor
  ·rintro rfl;exact⟨rfl,fun y hy=>by simp at hy⟩
  ·rintro⟨h,_⟩;exact qC6 h
 |n+1,x=>by
  rw[allv,qB0];constructor
  ·rintro(h|h)
   all_goals
    obtain⟨y,hy,rfl⟩:=qAb.mp h
    have:=allv_mem.mp hy
    refine⟨by simp[this.1],fun z hz=>?_⟩
    rcases qAd.mp hz with rfl|hz
    ·simp[Bit]
    ·exact this.2 z hz
  ·rintro⟨h1,h2⟩
   cases x with
   |nil=>simp at h1
   |cons a r=>
    have hr:r∈allv n:=allv_mem.mpr ⟨by simpa using h1,fun z hz=>h2 z (by simp[hz])⟩
    rcases h2 a (by simp)with rfl|rfl
    ·exact .inl (qAb.mpr ⟨r,hr,rfl⟩)
    ·exact .inr (qAb.mpr ⟨r,hr,rfl⟩)
theorem zEY{α:Type}[DecidableEq α]:∀(l1 l2:List α),l1.Nodup->(∀x∈l1,x∈l2)->l1.length<=l2.length
 |[],_,_,_=>by simp
 |a::r,l2,h,hs=>by
  have ha:=hs a (by simp);rw[qAp]at h
  have:=zEY r (l2.erase a) h.2 fun x hx=>(qEm (fun z:x=a=>h.1 (by rw[<- z];exact hx))).mpr (hs x (by simp[hx]))
  rw[qDo ha]at this
  have:=qEe ha
  simp
  lia
noncomputable def cnt(n:Nat)(P:List Int->Prop):Nat:=by
 classical exact((allv n).filter fun x=>decide (P x)).length
theorem zOQ(n:Nat):cnt n (fun _=>True)=2 ^ n:=by
 unfold cnt;rw[List.filter_eq_self.mpr (by simp),zKZ]
theorem zCW{n:Nat}{P Q:List Int->Prop}(h:∀x,RowN n x->(P x↔Q x)):cnt n P=cnt n Q:=by
 unfold cnt
 congr 1
 refine List.filter_congr fun x hx=>?_
 have:=h x (allv_mem.mp hx)
 simp[this]
theorem zRX{n:Nat}{P Q:List Int->Prop}(f:List Int->List Int)(hf:∀x,RowN n x->P x->RowN n (f x)/\Q (f x))(hi:∀x y,RowN n x->RowN n y->f x=f y->x=y):cnt n P<=cnt n Q:=by
 classical
 unfold cnt;have h1:(((allv n).filter fun x=>decide (P x)).map f).Nodup:=zC6 ((zE6 n).filter _) fun x hx y hy=>hi x y (allv_mem.mp (qBb.mp hx).1) (allv_mem.mp (qBb.mp hy).1)
 have h2:=zEY _ ((allv n).filter fun x=>decide (Q x)) h1 fun z hz=>by
  obtain⟨x,hx,rfl⟩:=qAb.mp hz;obtain⟨g1,g2⟩:=qBb.mp hx;obtain⟨k1,k2⟩:=hf x (allv_mem.mp g1) (by simpa using g2);exact qBb.mpr ⟨allv_mem.mpr k1,by simpa using k2⟩
 rw[qAm]at h2;exact h2
theorem zOO{n:Nat}(P E:List Int->Prop):cnt n P=cnt n (fun x=>P x/\E x)+cnt n (fun x=>P x/\¬E x):=by
 classical
 unfold cnt
 generalize allv n=l
 induction l with
 |nil=>simp
 |cons a r ih=>
  simp only[qE6]
  by_cases h1:P a
  ·by_cases h2:E a
   ·simp[h1,h2,ih];lia
   ·simp[h1,h2,ih];lia
  ·simp[h1,ih]
noncomputable def flp(p:Nat)(x:List Int):List Int:=x.set p (1-x.getD p 0)
theorem zO2{n p:Nat}{x:List Int}(h:RowN n x):RowN n (flp p x):=zSC h (by rcases zMM (k:=p) h with z|z<;>rw[z]<;>simp[Bit])
theorem zGS{n p:Nat}{x:List Int}(h:RowN n x)(hp:p<n)(k:Nat):(flp p x).getD k 0=if p=k then 1-x.getD p 0 else x.getD k 0:=zQF (by rw[h.1];exact hp)
theorem zSD{n:Nat}{x y:List Int}(hx:x.length=n)(hy:y.length=n)(h:∀k,k<n->x.getD k 0=y.getD k 0):x=y:=by
 rw[zHJ hx,zHJ hy];exact qAs fun k hk=>h k (by simpa using hk)
theorem zO3{n p:Nat}(hp:p<n){x y:List Int}(hx:RowN n x)(hy:RowN n y)(h:flp p x=flp p y):x=y:=by
 refine zSD hx.1 hy.1 fun k hk=>?_
 have e:(flp p x).getD k 0=(flp p y).getD k 0:=by rw[h]
 rw[zGS hx hp,zGS hy hp]at e
 by_cases z:p=k
 ·subst z;rw[if_pos rfl,if_pos rfl]at e;lia
 ·rw[if_neg z,if_neg z]at e;exact e
theorem zQT{n p:Nat}(hp:p<n)(P E:List Int->Prop)(h1:∀x,RowN n x->P x->P (flp p x))(h2:∀x,RowN n x->(E (flp p x)↔¬E x)):cnt n P=2*cnt n (fun x=>P x/\E x):=by
 have a:=zOO (n:=n) P E;have b:cnt n (fun x=>P x/\E x)<=cnt n (fun x=>P x/\¬E x):=zRX (flp p) (fun x hx h=>⟨zO2 hx,h1 x hx h.1,fun z=>(h2 x hx).mp z h.2⟩) fun x y hx hy=>zO3 hp hx hy
 have c:cnt n (fun x=>P x/\¬E x)<=cnt n (fun x=>P x/\E x):=zRX (flp p) (fun x hx h=>⟨zO2 hx,h1 x hx h.1,(h2 x hx).mpr h.2⟩) fun x y hx hy=>zO3 hp hx hy
 lia
def Ev(n:Nat)(g:Nat->Int)(x:List Int):Prop:=sumN n (fun k=>g k*x.getD k 0)%2=0
def KerF(n:Nat)(f:Nat->Nat->Int)(x:List Int):Prop:=∀a,a<n->Ev n (f a) x
section
variable{n i j:Nat}{f:Nat->Nat->Int}(hb:Bits n f)(hi:i<n)(hj:j<n)(hij:i≠j)
include hi in
include hi hij in
include hb hi hj hij in
include hb hi hj hij in
end
noncomputable def fst1:List Int->Nat
 |[]=>0
 |a::r=>if a=1 then 0 else fst1 r+1
section
variable{n:Nat}
def Lds(ls:List (List Int)):Prop:=ls.Pairwise fun l s=>s.getD (fst1 l) 0=0
end
theorem zKV{n:Nat}:∀{ks:List Nat},ks.Nodup->(∀k∈ks,k<n)->cnt n (fun x=>∀k∈ks,x.getD k 0=0)*2 ^ ks.length=2 ^ n
 |[],_,_=>by
  rw[zCW (Q:=fun _=>True) fun x _=>⟨fun _=>trivial,fun _ r hr=>by simp at hr⟩,zOQ];simp
 |a::r,hd,hk=>by
  rw[qAp]at hd;have ha:=hk a (by simp);have ih:=zKV (n:=n) (ks:=r) hd.2 fun k hk'=>hk k (by simp[hk'])
  have hh:=zQT ha (fun x=>∀k∈r,x.getD k 0=0) (fun x=>x.getD a 0=0) (fun x hx h k hk'=>by
   rw[zGS hx ha,if_neg fun z=>hd.1 (by rw[z];exact hk')];exact h k hk') fun x hx=>by
   rw[zGS hx ha,if_pos rfl]
   rcases zMM (k:=a) hx with w|w<;>rw[w]<;>simp
  have hc:cnt n (fun x=>∀k∈a::r,x.getD k 0=0)=cnt n (fun x=>(∀k∈r,x.getD k 0=0)/\x.getD a 0=0):=zCW fun x _=>⟨fun h=>⟨fun s hs=>h s (by simp[hs]),h a (by simp)⟩,fun h s hs=>(qAd.mp hs).elim (fun z=>by rw[z];exact h.2) (h.1 s)⟩
  rw[hc,qB1,qFo,<- ih,hh];rw[qFk (2 ^ r.length) 2,<- qF9,qFk _ 2]
section
variable{n p q:Nat}{T A:List (List Int)}{ps:List (List Int×Nat)}
end
noncomputable def ext1(ws:List Int)(c:List Int):List (List Int):=ws.map fun w=>c++[w]
def lng(ws:List Int)(A:List (List Int)):List (List Int):=(A.map (ext1 ws)).flatten
def chW(ws:List Int):Nat->List (List Int)
 |0=>[[]]
 |n+1=>lng ws (chW ws n)
noncomputable def dg(v:Nat->Int)(q:Nat)(ks:List Nat)(g:Nat->Nat->Int):Nat->Nat->Int:=fun a b=>if a=b/\a<q then v (ks.getD a 0)else g a b
noncomputable def kept(n:Nat)(c:List Int):List Nat:=(qA7 n).filter fun k=>decide (c.getD k 0≠0)
def cpF(n:Nat)(c:List Int)(f:Nat->Nat->Int):Nat->Nat->Int:=dg (fun k=>if c.getD k 0=1 then 1 else 0) (kept n c).length (kept n c) (sub (kept n c) f)
theorem zE4{n m:Nat}{P Q:List Int->Prop}(f:List Int->List Int)(hf:∀x,RowN n x->P x->RowN m (f x)/\Q (f x))(hi:∀x y,RowN n x->P x->RowN n y->P y->f x=f y->x=y):cnt n P<=cnt m Q:=by
 classical
 unfold cnt;have h1:(((allv n).filter fun x=>decide (P x)).map f).Nodup:=zC6 ((zE6 n).filter _) fun x hx y hy=>by
  obtain⟨a1,a2⟩:=qBb.mp hx;obtain⟨b1,b2⟩:=qBb.mp hy;exact hi x y (allv_mem.mp a1) (by simpa using a2) (allv_mem.mp b1) (by simpa using b2)
 have h2:=zEY _ ((allv m).filter fun x=>decide (Q x)) h1 fun z hz=>by
  obtain⟨x,hx,rfl⟩:=qAb.mp hz;obtain⟨g1,g2⟩:=qBb.mp hx;obtain⟨k1,k2⟩:=hf x (allv_mem.mp g1) (by simpa using g2);exact qBb.mpr ⟨allv_mem.mpr k1,by simpa using k2⟩
 rw[qAm]at h2;exact h2
theorem zQS{m:Nat}{P:List Int->Prop}:cnt (m+1) (fun z=>P z.tail)=2*cnt m P:=by
 classical
 unfold cnt;rw[allv,List.filter_append,qAy,qG4,qG4,qAm,qAm];have e:∀b:Int,((fun z:List Int=>decide (P z.tail))∘qDp b)=fun x=>decide (P x):=fun b=>rfl
 rw[e,e]
 lia
structure Cst(ts C:List Nat)(n:Nat)(F:Nat->Int):Prop where
 hb:∀e,Bit (F e)
 hn:∀e,e<4*n->F (nt ts e)=F e
 hj:∀e,e<4*n->F (jn C e)=F e
theorem zWC{C:List Nat}{p n:Nat}{F:Nat->Int}(hp:p<n)(hw:C.getD p 0<3):(∀e,e<4*n->e/4=p->F (jn C e)=F e)↔(C.getD p 0=0->F (4*p)=F (4*p+1)/\F (4*p+2)=F (4*p+3))/\(C.getD p 0=1->F (4*p)=F (4*p+2)/\F (4*p+1)=F (4*p+3))/\(C.getD p 0=2->F (4*p)=F (4*p+3)/\F (4*p+1)=F (4*p+2)):=by
 have hs:∀s,s<4->jn C (4*p+s)=4*p+(s^^^(C.getD p 0+1)):=fun s h=>jn4 C h
 generalize C.getD p 0=w at hw hs
 constructor
 ·intro h;have g:∀s,s<4->F (4*p+(s^^^(w+1)))=F (4*p+s):=fun s hs4=>by rw[<- hs s hs4];exact h _ (by lia) (by lia)
  have hw':w=0\/w=1\/w=2:=by lia
  rcases hw' with rfl|rfl|rfl
  ·exact⟨fun _=>⟨(g 0 (by lia)).symm,(g 2 (by lia)).symm⟩,fun z=>by lia,fun z=>by lia⟩
  ·exact⟨fun z=>by lia,fun _=>⟨(g 0 (by lia)).symm,(g 1 (by lia)).symm⟩,fun z=>by lia⟩
  ·exact⟨fun z=>by lia,fun z=>by lia,fun _=>⟨(g 0 (by lia)).symm,(g 1 (by lia)).symm⟩⟩
 ·intro h e he hep;have hw':w=0\/w=1\/w=2:=by lia
  have hs4:e%4=0\/e%4=1\/e%4=2\/e%4=3:=by lia
  have ee:e=4*p+e%4:=by lia
  rw[ee,hs _ (by lia)]
  rcases hw' with rfl|rfl|rfl
  ·obtain⟨a,b⟩:=h.1 rfl
   rcases hs4 with z|z|z|z<;>rw[z]
   ·exact a.symm
   ·exact a
   ·exact b.symm
   ·exact b
  ·obtain⟨a,b⟩:=h.2.1 rfl
   rcases hs4 with z|z|z|z<;>rw[z]
   ·exact a.symm
   ·exact b.symm
   ·exact a
   ·exact b
  ·obtain⟨a,b⟩:=h.2.2 rfl
   rcases hs4 with z|z|z|z<;>rw[z]
   ·exact a.symm
   ·exact b.symm
   ·exact b
   ·exact a
section
variable{n:Nat}{cs:List Nat}(w:Wd n cs)(h2:∀x∈cs,cs.count x=2)
include w h2
end
section
variable{n:Nat}{cs c:List Nat}(w:Wd n cs)(h2:∀x∈cs,cs.count x=2)(n1:1<=n)(hc:c.length=n)(hw:∀x∈c,x<3)(hsl:(sosL cs).length=n)
include w h2 n1 hc hw hsl
end
section
variable{n:Nat}{cs c:List Nat}{F:Nat->Int}(w:Wd n cs)(h2:∀x∈cs,cs.count x=2)(n1:1<=n)(hc:c.length=n)(hw:∀x∈c,x<3)(hsl:(sosL cs).length=n)(hF:Cst (tsW n (rowW cs)) (cbW c (sosL cs) (ords cs)) n F)
include w h2 n1 hc hw hsl hF
end
section
variable{ts C:List Nat}{n:Nat}(hN:NetN ts (4*n))(hl:C.length=n)(hw:∀c∈C,c<3)
include hN hl hw
theorem zLF{e p x:Nat}(he:e<4*n)(p1:1<=p)(p3:itr (stp ts C) p e=e)(hx:x∈orb ts C e p):nt ts x∈orb ts C e p/\jn C x∈orb ts C e p/\x<4*n:=by
 obtain⟨st1,_⟩:=zME hN hl hw;have lt:∀j,itr (stp ts C) j e<4*n:=zFY st1 he;obtain⟨i,hi,rfl|rfl⟩:=orb_mem.mp hx
 ·refine⟨?_,orb_mem.mpr ⟨i,hi,.inr rfl⟩,lt i⟩;cases i with
  |zero=>
   refine orb_mem.mpr ⟨p-1,by lia,.inr ?_⟩;have h:itr (stp ts C) (p-1+1) e=e:=by rw[show p-1+1=p by lia];exact p3
   show nt ts e=_
   conv=>lhs;rw[<- h]
   exact hN.inv _ (zEJ hl hw (lt (p-1))).1
  |succ j=>exact orb_mem.mpr ⟨j,by lia,.inr (hN.inv _ (zEJ hl hw (lt j)).1)⟩
 ·refine⟨?_,orb_mem.mpr ⟨i,hi,.inl (zEJ hl hw (lt i)).2⟩,(zEJ hl hw (lt i)).1⟩
  by_cases z:i+1=p
  ·refine orb_mem.mpr ⟨0,by lia,.inl ?_⟩;show itr (stp ts C) (i+1) e=e;rw[z];exact p3
  ·exact orb_mem.mpr ⟨i+1,by lia,.inl rfl⟩
theorem zTY{F:Nat->Int}(hF:Cst ts C n F){e p x:Nat}(he:e<4*n)(hx:x∈orb ts C e p):F x=F e:=by
 obtain⟨st1,_⟩:=zME hN hl hw;have lt:∀j,itr (stp ts C) j e<4*n:=zFY st1 he;have hi:∀j,F (itr (stp ts C) j e)=F e:=fun j=>by
  induction j with
  |zero=>rfl
  |succ j ih=>
   show F (nt ts (jn C (itr (stp ts C) j e)))=_;rw[hF.hn _ (zEJ hl hw (lt j)).1,hF.hj _ (lt j),ih]
 obtain⟨i,_,rfl|rfl⟩:=orb_mem.mp hx
 ·exact hi i
 ·rw[hF.hj _ (lt i),hi i]
end
theorem zES(f:Nat->List Nat):∀k r,r<(rdS f k).1.length->∃e,e<k/\(rdS f k).1.getD r []=f e/\∀i,i<r->e∉(rdS f k).1.getD i []
 |0,r,h=>by simp[rdS]at h
 |k+1,r,h=>by
  by_cases hg:(getW (rdS f k).2 (.inl (k:Int))).isSome=true
  ·have e:rdS f (k+1)=rdS f k:=by rw[rdS,if_pos hg]
   rw[e]at h ⊢;obtain⟨x,h1,h2⟩:=zES f k r h;exact⟨x,by lia,h2⟩
  ·have e:(rdS f (k+1)).1=(rdS f k).1++[f k]:=by rw[rdS,if_neg hg]
   rw[e]at h ⊢;have gl:∀i,i<(rdS f k).1.length->((rdS f k).1++[f k]).getD i []=(rdS f k).1.getD i []:=fun i hi=>by
    rw[qA0,qA8 hi,qA0]
   by_cases z:r<(rdS f k).1.length
   ·obtain⟨x,h1,h2,h3⟩:=zES f k r z;refine⟨x,by lia,by rw[gl r z];exact h2,fun i hi=>?_⟩;rw[gl i (by lia)];exact h3 i hi
   ·have hr:r=(rdS f k).1.length:=by simp at h;lia
    subst hr;refine⟨k,by lia,?_,fun i hi hm=>?_⟩
    ·rw[qA0,qAc (qA6 _)];simp
    ·rw[gl i hi]at hm;exact hg ((zDM f k k).mpr ⟨_,getD_mem hi,hm⟩)
noncomputable def rI(R:List (List Nat))(e:Nat):Nat:=(R.map fun l=>decide (e∈l)).idxOf true
theorem zK5{R:List (List Nat)}{e e':Nat}(h:∀l∈R,e∈l↔e'∈l):rI R e=rI R e':=by
 unfold rI
 congr 1
 exact qAs fun l hl=>by simp[h l hl]
theorem zMQ:∀{R:List (List Nat)}{r e:Nat},r<R.length->e∈R.getD r []->(∀i,i<r->e∉R.getD i [])->rI R e=r
 |[],r,e,h,_,_=>by simp at h
 |l::R,0,e,_,hm,_=>by
  have:e∈l:=hm
  simp[rI,this]
 |l::R,r+1,e,h,hm,hn=>by
  have h0:e∉l:=hn 0 (by lia);have ih:=zMQ (R:=R) (r:=r) (e:=e) (by simpa using h) hm fun i hi=>hn (i+1) (by lia)
  unfold rI at ih ⊢;rw[qAj,decide_eq_false h0,List.idxOf_cons]
  show(bif false==true then 0 else _)=_
  rw[show((false==true)=false) from rfl,cond_false,ih]
section
variable{n:Nat}{cs c:List Nat}(w:Wd n cs)
include w
end
section
variable{n:Nat}{cs c:List Nat}{F:Nat->Int}(w:Wd n cs)(h2:∀x∈cs,cs.count x=2)(n1:1<=n)(hc:c.length=n)(hw:∀x∈c,x<3)(hsl:(sosL cs).length=n)(hF:Cst (tsW n (rowW cs)) (cbW c (sosL cs) (ords cs)) n F)
include w h2 n1 hc hw hsl hF
end
section
variable{n:Nat}{cs c:List Nat}(w:Wd n cs)(h2:∀x∈cs,cs.count x=2)(n1:1<=n)(hc:c.length=n)(hw:∀x∈c,x<3)(hsl:(sosL cs).length=n)
include w h2 n1 hc hw hsl
end
theorem zCZ{m:Nat}{x y:List Int}(hx:RowN m x)(hy:RowN m y)(h:∀r,r<m->x.getD r 0=y.getD r 0):x=y:=by
 have h1:=hx.1;have h2:=hy.1;refine qB9 (by lia) fun i g1 g2=>?_
 have:=h i (by lia)
 rw[qA0,qA5 g1,qA0,qA5 g2]at this;exact this
theorem zBI{m:Nat}{x:List Int}(hx:RowN m x)(r:Nat):Bit (x.getD r 0):=by
 rw[qA0];cases h:x[r]? with
 |none=>exact .inl rfl
 |some y=>exact hx.2 y (qAw h)
structure Hds(ts C:List Nat)(n:Nat)(R:List (List Nat))(hd:Nat->Nat):Prop where
 lt:∀r,r<R.length->hd r<4*n
 mem:∀r,r<R.length->hd r∈R.getD r []
 fst:∀r,r<R.length->∀i,i<r->hd r∉R.getD i []
 same:∀r,r<R.length->∀e,e∈R.getD r []->∀F,Cst ts C n F->F e=F (hd r)
 cls:∀r,r<R.length->∀e,e∈R.getD r []->nt ts e∈R.getD r []/\jn C e∈R.getD r []
 cov:∀e,e<4*n->∃r,r<R.length/\e∈R.getD r []
section
variable{ts C:List Nat}{n:Nat}(hN:NetN ts (4*n))(hl:C.length=n)(hw:∀c∈C,c<3)
include hN hl hw
theorem zQB{f:Nat->List Nat}{g:Nat->Nat}(hf:∀e,e<4*n->f e=orb ts C e (g e)/\1<=g e/\g e<=4*n/\itr (stp ts C) (g e) e=e/\∀q,1<=q->q<g e->itr (stp ts C) q e≠e):∃hd,Hds ts C n (rdS f (4*n)).1 hd:=by
 have h1:∀r:Nat,∃e,r<(rdS f (4*n)).1.length->e<4*n/\(rdS f (4*n)).1.getD r []=f e/\∀i,i<r->e∉(rdS f (4*n)).1.getD i []:=fun r=>by
  by_cases h:r<(rdS f (4*n)).1.length
  ·obtain⟨e,he⟩:=zES f (4*n) r h;exact⟨e,fun _=>he⟩
  ·exact⟨0,fun z=>absurd z h⟩
 obtain⟨hd,hh⟩:=qE2 h1;have self:∀e,e<4*n->e∈f e:=fun e he=>by
  obtain⟨a,b,_⟩:=hf e he;rw[a];exact orb_mem.mpr ⟨0,by lia,.inl rfl⟩
 refine⟨hd,fun r h=>(hh r h).1,fun r h=>?_,fun r h=>(hh r h).2.2,fun r h e he F hF=>?_,fun r h e he=>?_,fun e he=>?_⟩
 ·obtain⟨a,b,_⟩:=hh r h;rw[b];exact self _ a
 ·obtain⟨a,b,_⟩:=hh r h;rw[b,(hf _ a).1]at he;exact zTY hN hl hw hF a he
 ·obtain⟨a,b,_⟩:=hh r h;obtain⟨q0,q1,_,q3,_⟩:=hf _ a;rw[b,q0]at he ⊢;obtain⟨c1,c2,_⟩:=zLF hN hl hw a q1 q3 he;exact⟨c1,c2⟩
 ·obtain⟨l,hm,hx⟩:=(zDM f e (4*n)).mp (zET f (4*n) self e he);obtain⟨r,hr,rfl⟩:=mem_getD (d:=[]) hm;exact⟨r,hr,hx⟩
variable{R:List (List Nat)}{hd:Nat->Nat}(H:Hds ts C n R hd)
include H
theorem zTH{F G:Nat->Int}(hF:Cst ts C n F)(hG:Cst ts C n G)(h:∀r,r<R.length->F (hd r)=G (hd r)){e:Nat}(he:e<4*n):F e=G e:=by
 obtain⟨r,hr,hm⟩:=H.cov e he;rw[H.same r hr e hm F hF,H.same r hr e hm G hG,h r hr]
theorem zJB{x:List Int}(hx:RowN R.length x):Cst ts C n (fun e=>x.getD (rI R e) 0)/\∀r,r<R.length->x.getD (rI R (hd r)) 0=x.getD r 0:=by
 refine⟨⟨fun e=>zBI hx _,fun e he=>?_,fun e he=>?_⟩,fun r hr=>?_⟩
 ·show x.getD (rI R (nt ts e)) 0=_;rw[zK5 (e:=nt ts e) (e':=e) fun l hm=>?_];obtain⟨r,hr,rfl⟩:=mem_getD (d:=[]) hm;refine⟨fun h=>?_,fun h=>(H.cls r hr _ h).1⟩
  have:=(H.cls r hr _ h).1
  rw[hN.inv e he]at this;exact this
 ·show x.getD (rI R (jn C e)) 0=_;rw[zK5 (e:=jn C e) (e':=e) fun l hm=>?_];obtain⟨r,hr,rfl⟩:=mem_getD (d:=[]) hm;refine⟨fun h=>?_,fun h=>(H.cls r hr _ h).2⟩
  have:=(H.cls r hr _ h).2
  rw[(zEJ hl hw he).2]at this;exact this
 ·rw[zMQ hr (H.mem r hr) (H.fst r hr)]
end
theorem zWO{α:Type}{x:List α}{a e:Nat}{u d:α}(ha:a<x.length):(x.set a u).getD e d=if e=a then u else x.getD e d:=by
 rw[qA0,qA0,qFi]
 by_cases h:a=e
 ·subst h;simp[ha]
 ·have:¬e=a:=fun z=>h z.symm
  simp[h,this]
theorem zQC{α:Type}{x:List α}{a b e:Nat}{u v d:α}(ha:a<x.length)(hb:b<x.length):((x.set a u).set b v).getD e d=if e=b then v else if e=a then u else x.getD e d:=by
 rw[zWO (by simpa using hb),zWO ha]
theorem zBV{n:Nat}{x:List Int}{a:Nat}{u:Int}(hx:RowN n x)(hu:Bit u):RowN n (x.set a u):=
 ⟨by simp[hx.1],fun y hy=>(qDh hy).elim (hx.2 y) fun z=>z▸hu⟩
abbrev Ty:=List (Option Nat)
noncomputable def jE(t:Ty)(a b:Nat):Ty×Nat:=if(t.getD a none).getD 0=b then((t.set a none).set b none,1)else((((t.set a none).set b none).set ((t.getD a none).getD 0) (some ((t.getD b none).getD 0))).set ((t.getD b none).getD 0) (some ((t.getD a none).getD 0)),0)
structure Mt(M:Nat)(t:Ty):Prop where
 len:t.length=M
 inv:∀e f,t.getD e none=some f->f<M/\f≠e/\t.getD f none=some e
theorem Mt.lt{M:Nat}{t:Ty}(h:Mt M t){e f:Nat}(he:t.getD e none=some f):e<M:=((h.inv f e (h.inv e f he).2.2)).1
def InvT(M:Nat)(t:Ty)(x:List Int):Prop:=∀e,e<M->(t.getD e none=none->x.getD e 0=0)/\∀f,t.getD e none=some f->x.getD f 0=x.getD e 0
def InJ(Js:List (Nat×Nat))(x:List Int):Prop:=∀p∈Js,x.getD p.1 0=x.getD p.2 0
section
variable{M:Nat}{t:Ty}{a b far near:Nat}(h:Mt M t)(ha:t.getD a none=some far)(hb:t.getD b none=some near)(hab:a≠b)
include h ha hb hab
theorem zJ9:(far=b->(jE t a b).2=1/\∀e,(jE t a b).1.getD e none=if e=b then none else if e=a then none else t.getD e none) /\
  (far≠b->(jE t a b).2=0/\∀e,(jE t a b).1.getD e none=if e=near then some far else if e=far then some near else if e=b then none else if e=a then none else t.getD e none):=by
 have la:=h.lt ha;have lb:=h.lt hb;have lf:=(h.inv a far ha).1;have ln:=(h.inv b near hb).1;have hl:=h.len;refine⟨fun z=>?_,fun z=>?_⟩
 ·have e1:jE t a b=((t.set a none).set b none,1):=by unfold jE;rw[ha];exact if_pos z
  rw[e1];exact⟨rfl,fun e=>zQC (by omega) (by omega)⟩
 ·have e1:jE t a b=((((t.set a none).set b none).set far (some near)).set near (some far),0):=by unfold jE;rw[ha,hb];exact if_neg z
  rw[e1];refine⟨rfl,fun e=>?_⟩;dsimp only;rw[zQC (by simp;omega) (by simp;omega),zQC (by omega) (by omega)]
theorem zWE:(jE t a b).1.length=M:=by
 unfold jE
 split<;>simp[h.len]
theorem zO5:far≠a/\near≠b/\(far≠b->near≠a/\far≠near)/\(far=b->near=a):=by
 obtain⟨_,f1,f2⟩:=h.inv a far ha;obtain⟨_,n1,n2⟩:=h.inv b near hb;refine⟨f1,n1,fun z=>⟨fun y=>?_,fun y=>?_⟩,fun z=>?_⟩
 ·subst y;rw[ha]at n2;cases n2;exact z rfl
 ·subst y;rw[f2]at n2;cases n2;exact hab rfl
 ·subst z;rw[hb]at f2;cases f2;rfl
theorem zT8:Mt M (jE t a b).1:=by
 refine⟨zWE h ha hb hab,fun e f he=>?_⟩;obtain⟨f1,n1,f2,f3⟩:=zO5 h ha hb hab;have lf:=(h.inv a far ha).1;have ln:=(h.inv b near hb).1
 by_cases z:far=b
 ·obtain⟨_,g⟩:=(zJ9 h ha hb hab).1 z;rw[g]at he ⊢;have hna:=f3 z
  by_cases e1:e=b
  ·rw[if_pos e1]at he;cases he
  ·rw[if_neg e1]at he
   by_cases e2:e=a
   ·rw[if_pos e2]at he;cases he
   ·rw[if_neg e2]at he;obtain⟨q1,q2,q3⟩:=h.inv e f he;refine⟨q1,q2,?_⟩;rw[if_neg (fun y=>?_),if_neg (fun y=>?_)]
    ·exact q3
    ·subst y;rw[ha]at q3;cases q3;exact e1 z
    ·subst y;rw[hb]at q3;cases q3;exact e2 hna
 ·obtain⟨_,g⟩:=(zJ9 h ha hb hab).2 z;obtain⟨f4,f5⟩:=f2 z;rw[g]at he ⊢
  by_cases e1:e=near
  ·rw[if_pos e1]at he;cases he;subst e1;exact⟨lf,f5,by rw[if_neg f5,if_pos rfl]⟩
  ·rw[if_neg e1]at he
   by_cases e2:e=far
   ·rw[if_pos e2]at he;cases he;subst e2;exact⟨ln,fun y=>e1 y.symm,by rw[if_pos rfl]⟩
   ·rw[if_neg e2]at he
    by_cases e3:e=b
    ·rw[if_pos e3]at he;cases he
    ·rw[if_neg e3]at he
     by_cases e4:e=a
     ·rw[if_pos e4]at he;cases he
     ·rw[if_neg e4]at he;obtain⟨q1,q2,q3⟩:=h.inv e f he;refine⟨q1,q2,?_⟩;have r1:f≠near:=fun y=>by
       subst y
       have:=(h.inv b f hb).2.2
       rw[this]at q3;cases q3;exact e3 rfl
      have r2:f≠far:=fun y=>by
       subst y
       have:=(h.inv a f ha).2.2
       rw[this]at q3;cases q3;exact e4 rfl
      have r3:f≠b:=fun y=>by subst y;rw[hb]at q3;cases q3;exact e1 rfl
      have r4:f≠a:=fun y=>by subst y;rw[ha]at q3;cases q3;exact e2 rfl
      rw[if_neg r1,if_neg r2,if_neg r3,if_neg r4];exact q3
theorem zJ8(e:Nat):(jE t a b).1.getD e none=none↔e=a\/e=b\/t.getD e none=none:=by
 obtain⟨f1,n1,f2,f3⟩:=zO5 h ha hb hab;have hf:=(h.inv a far ha).2.2;have hn:=(h.inv b near hb).2.2
 by_cases z:far=b
 ·obtain⟨_,g⟩:=(zJ9 h ha hb hab).1 z;rw[g]
  by_cases e1:e=b
  ·simp[-qA0,e1]
  ·by_cases e2:e=a
   ·simp[-qA0,e2]
   ·simp[-qA0,e1,e2]
 ·obtain⟨_,g⟩:=(zJ9 h ha hb hab).2 z;obtain⟨f4,f5⟩:=f2 z;rw[g]
  by_cases e1:e=near
  ·subst e1;simp[-qA0,hn,f4,n1]
  ·by_cases e2:e=far
   ·subst e2;simp[-qA0,e1,hf,f1,z]
   ·by_cases e3:e=b
    ·simp[-qA0,e1,e2,e3];rw[if_neg (fun y=>n1 y.symm),if_neg (fun y=>z y.symm)]
    ·by_cases e4:e=a
     ·simp[-qA0,e4];rw[if_neg (fun y=>f4 y.symm),if_neg (fun y=>f1 y.symm)]
     ·simp[-qA0,e1,e2,e3,e4]
theorem zRG{Js:List (Nat×Nat)}(hJ:∀p∈Js,(p.1≠a/\p.1≠b)/\p.2≠a/\p.2≠b) :
  cnt M (fun x=>InvT M t x/\InJ ((a,b)::Js) x)=2 ^ (jE t a b).2*cnt M (fun x=>InvT M (jE t a b).1 x/\InJ Js x):=by
 obtain⟨f1,n1,f2,f3⟩:=zO5 h ha hb hab;have la:=h.lt ha;have lb:=h.lt hb;have lf:=(h.inv a far ha).1;have ln:=(h.inv b near hb).1;have hf:=(h.inv a far ha).2.2;have hn:=(h.inv b near hb).2.2;have gx:∀{x:List Int}{u v:Int}{e:Nat},x.length=M->((x.set a u).set b v).getD e 0=if e=b then v else if e=a then u else x.getD e 0:=fun hx=>zQC (by omega) (by omega)
 have jx:∀{x:List Int}{u v:Int},x.length=M->(InJ Js ((x.set a u).set b v)↔InJ Js x):=fun{x u v} hx=>by
  unfold InJ;refine⟨fun q p hp=>?_,fun q p hp=>?_⟩
  ·obtain⟨⟨h1,h2⟩,h3,h4⟩:=hJ p hp
   have:=q p hp
   rw[gx hx,gx hx,if_neg h2,if_neg h1,if_neg h4,if_neg h3]at this;exact this
  ·obtain⟨⟨h1,h2⟩,h3,h4⟩:=hJ p hp;rw[gx hx,gx hx,if_neg h2,if_neg h1,if_neg h4,if_neg h3];exact q p hp
 have oth:∀{e f:Nat},e≠far->e≠near->t.getD e none=some f->f≠a/\f≠b:=fun{e f} h1 h2 he=>by
  have q:=(h.inv e f he).2.2;exact⟨fun z=>by subst z;rw[ha]at q;cases q;exact h1 rfl,fun z=>by subst z;rw[hb]at q;cases q;exact h2 rfl⟩
 by_cases z:far=b
 ·have hna:=f3 z;obtain⟨c1,g⟩:=(zJ9 h ha hb hab).1 z;rw[c1,Nat.pow_one,<- zQS];have inv':∀{x:List Int}{u:Int},x.length=M->InvT M (jE t a b).1 x->InvT M t ((x.set a u).set b u):=fun{x u} hx q e he=>by
   refine⟨fun z1=>?_,fun f z1=>?_⟩
   ·have e1:e≠b:=fun y=>by subst y;rw[hb]at z1;cases z1
    have e2:e≠a:=fun y=>by subst y;rw[ha]at z1;cases z1
    rw[gx hx,if_neg e1,if_neg e2];exact(q e he).1 (by rw[g,if_neg e1,if_neg e2];exact z1)
   ·rw[gx hx,gx hx]
    by_cases e1:e=b
    ·subst e1;rw[hb]at z1;cases z1;rw[hna,if_neg hab,if_pos rfl,if_pos rfl]
    ·by_cases e2:e=a
     ·subst e2;rw[ha]at z1;cases z1;rw[if_pos z,if_neg e1,if_pos rfl]
     ·obtain⟨r1,r2⟩:=oth (e:=e) (by rw[z];exact e1) (by rw[hna];exact e2) z1;rw[if_neg e1,if_neg e2,if_neg r2,if_neg r1];exact(q e he).2 f (by rw[g,if_neg e1,if_neg e2];exact z1)
  refine qCr (zE4 (fun x=>x.getD a 0::(x.set a 0).set b 0) (fun x hx ⟨p1,p2⟩=>⟨?_,?_,?_⟩) fun x y hx ⟨p1,p2⟩ hy ⟨r1,r2⟩ e=>?_) (zE4 (fun w=>(w.tail.set a (w.getD 0 0)).set b (w.getD 0 0)) (fun w hw ⟨p1,p2⟩=>?_) fun w v hw ⟨p1,p2⟩ hv ⟨r1,r2⟩ e=>?_)
  ·refine⟨by simp[hx.1],fun y hy=>?_⟩
   rcases qAd.mp hy with rfl|hy
   ·exact zBI hx a
   ·exact(zBV (zBV hx (.inl rfl)) (.inl rfl)).2 y hy
  ·intro e he
   show(_->((x.set a 0).set b 0).getD e 0=0)/\∀f,_->((x.set a 0).set b 0).getD f 0=((x.set a 0).set b 0).getD e 0
   rw[g,gx hx.1]
   by_cases e1:e=b
   ·simp[e1]
   ·by_cases e2:e=a
    ·simp[e2]
    ·rw[if_neg e1,if_neg e2,if_neg e1,if_neg e2];refine⟨(p1 e he).1,fun f z1=>?_⟩;obtain⟨r1,r2⟩:=oth (e:=e) (by rw[z];exact e1) (by rw[hna];exact e2) z1;rw[gx hx.1,if_neg r2,if_neg r1];exact(p1 e he).2 f z1
  ·exact(jx hx.1).mpr fun p hp=>p2 p (qA9 _ hp)
  ·injection e with e1 e2
   have xab:=p2 _ (qAi ..);have yab:=r2 _ (qAi ..);refine zCZ hx hy fun r hr=>?_
   have e3:((x.set a 0).set b 0).getD r 0=((y.set a 0).set b 0).getD r 0:=by rw[e2]
   rw[gx hx.1,gx hy.1]at e3
   by_cases q1:r=b
   ·subst q1;exact xab.symm.trans (e1.trans yab)
   ·by_cases q2:r=a
    ·subst q2;exact e1
    ·rw[if_neg q1,if_neg q2,if_neg q1,if_neg q2]at e3;exact e3
  ·have hw':RowN M w.tail:=⟨by simp[hw.1],fun y hy=>hw.2 y (qD5 hy)⟩
   refine⟨zBV (zBV hw' (zBI hw 0)) (zBI hw 0),inv' hw'.1 p1,fun p hp=>?_⟩
   rcases qAd.mp hp with rfl|hp
   ·show((w.tail.set a _).set b _).getD a 0=((w.tail.set a _).set b _).getD b 0
    rw[gx hw'.1,gx hw'.1,if_neg hab,if_pos rfl,if_pos rfl]
   ·exact(jx hw'.1).mpr p2 p hp
  ·have hw':RowN M w.tail:=⟨by simp[hw.1],fun y hy=>hw.2 y (qD5 hy)⟩
   have hv':RowN M v.tail:=⟨by simp[hv.1],fun y hy=>hv.2 y (qD5 hy)⟩
   have e3:∀r,((w.tail.set a (w.getD 0 0)).set b (w.getD 0 0)).getD r 0=((v.tail.set a (v.getD 0 0)).set b (v.getD 0 0)).getD r 0:=fun r=>by rw[e]
   have e0:w.getD 0 0=v.getD 0 0:=by
    have:=e3 b
    rw[gx hw'.1,gx hv'.1,if_pos rfl,if_pos rfl]at this;exact this
   have et:w.tail=v.tail:=zCZ hw' hv' fun r hr=>by
    have:=e3 r
    rw[gx hw'.1,gx hv'.1]at this
    by_cases q1:r=b
    ·subst q1;rw[(p1 r hr).1 (by rw[g,if_pos rfl]),(r1 r hr).1 (by rw[g,if_pos rfl])]
    ·by_cases q2:r=a
     ·subst q2;rw[(p1 r hr).1 (by rw[g,if_neg q1,if_pos rfl]),(r1 r hr).1 (by rw[g,if_neg q1,if_pos rfl])]
     ·rw[if_neg q1,if_neg q2,if_neg q1,if_neg q2]at this;exact this
   match w,v,hw.1,hv.1,e0,et with
   |[],_,z1,_,_,_=>simp at z1
   |_::_,[],_,z2,_,_=>simp at z2
   |c::w,c'::v,_,_,e0,et=>simp at e0 et;rw[e0,et]
 ·obtain⟨c1,g⟩:=(zJ9 h ha hb hab).2 z;obtain⟨f4,f5⟩:=f2 z;rw[c1,qHc,qG5];refine qCr (zE4 (fun x=>(x.set a 0).set b 0) (fun x hx ⟨p1,p2⟩=>⟨zBV (zBV hx (.inl rfl)) (.inl rfl),?_,?_⟩) fun x y hx ⟨p1,p2⟩ hy ⟨r1,r2⟩ e=>?_) (zE4 (fun x=>(x.set a (x.getD far 0)).set b (x.getD far 0)) (fun x hx ⟨p1,p2⟩=>⟨zBV (zBV hx (zBI hx _)) (zBI hx _),?_,?_⟩) fun x y hx ⟨p1,p2⟩ hy ⟨r1,r2⟩ e=>?_)
  ·have xab:x.getD a 0=x.getD b 0:=p2 _ (qAi ..);have xfa:=(p1 a la).2 far ha;have xnb:=(p1 b lb).2 near hb;intro e he;rw[g,gx hx.1]
   by_cases e1:e=near
   ·subst e1;refine⟨fun y=>?_,fun f y=>?_⟩
    ·rw[if_pos rfl]at y;cases y
    ·rw[if_pos rfl]at y;cases y;rw[gx hx.1,if_neg z,if_neg f1,if_neg n1,if_neg f4];rw[xfa,xnb,xab]
   ·rw[if_neg e1]
    by_cases e2:e=far
    ·subst e2;refine⟨fun y=>?_,fun f y=>?_⟩
     ·rw[if_pos rfl]at y;cases y
     ·rw[if_pos rfl]at y;cases y;rw[gx hx.1,if_neg n1,if_neg f4,if_neg z,if_neg f1];rw[xfa,xnb,xab]
    ·rw[if_neg e2]
     by_cases e3:e=b
     ·simp[e3]
     ·by_cases e4:e=a
      ·simp[e4]
      ·rw[if_neg e3,if_neg e4,if_neg e3,if_neg e4];refine⟨(p1 e he).1,fun f z1=>?_⟩;obtain⟨q1,q2⟩:=oth e2 e1 z1;rw[gx hx.1,if_neg q2,if_neg q1];exact(p1 e he).2 f z1
  ·exact(jx hx.1).mpr fun p hp=>p2 p (qA9 _ hp)
  ·have xab:x.getD a 0=x.getD b 0:=p2 _ (qAi ..);have yab:y.getD a 0=y.getD b 0:=r2 _ (qAi ..);have xfa:=(p1 a la).2 far ha;have yfa:=(r1 a la).2 far ha;have e3:∀r,((x.set a 0).set b 0).getD r 0=((y.set a 0).set b 0).getD r 0:=fun r=>by rw[e]
   have ef:=e3 far;rw[gx hx.1,gx hy.1,if_neg z,if_neg f1,if_neg z,if_neg f1]at ef;refine zCZ hx hy fun r hr=>?_
   have er:=e3 r;rw[gx hx.1,gx hy.1]at er
   by_cases q1:r=b
   ·subst q1;rw[<- xab,<- yab,<- xfa,<- yfa];exact ef
   ·by_cases q2:r=a
    ·subst q2;rw[<- xfa,<- yfa];exact ef
    ·rw[if_neg q1,if_neg q2,if_neg q1,if_neg q2]at er;exact er
  ·have xnf:x.getD near 0=x.getD far 0:=(p1 far lf).2 near (by rw[g,if_neg f5,if_pos rfl]);intro e he;rw[gx hx.1];refine⟨fun z1=>?_,fun f z1=>?_⟩
   ·have e1:e≠b:=fun y=>by subst y;rw[hb]at z1;cases z1
    have e2:e≠a:=fun y=>by subst y;rw[ha]at z1;cases z1
    have e3:e≠far:=fun y=>by subst y;rw[hf]at z1;cases z1
    have e4:e≠near:=fun y=>by subst y;rw[hn]at z1;cases z1
    rw[if_neg e1,if_neg e2];exact(p1 e he).1 (by rw[g,if_neg e4,if_neg e3,if_neg e1,if_neg e2];exact z1)
   ·rw[gx hx.1]
    by_cases e1:e=b
    ·subst e1;rw[hb]at z1;cases z1;rw[if_neg n1,if_neg f4,if_pos rfl,xnf]
    ·by_cases e2:e=a
     ·subst e2;rw[ha]at z1;cases z1;rw[if_neg z,if_neg f1,if_neg e1,if_pos rfl]
     ·by_cases e3:e=far
      ·subst e3;rw[hf]at z1;cases z1;rw[if_neg hab,if_pos rfl,if_neg e1,if_neg e2]
      ·by_cases e4:e=near
       ·subst e4;rw[hn]at z1;cases z1;rw[if_pos rfl,if_neg e1,if_neg e2,xnf]
       ·obtain⟨q1,q2⟩:=oth e3 e4 z1;rw[if_neg q2,if_neg q1,if_neg e1,if_neg e2];exact(p1 e he).2 f (by rw[g,if_neg e4,if_neg e3,if_neg e1,if_neg e2];exact z1)
  ·intro p hp
   rcases qAd.mp hp with rfl|hp
   ·show((x.set a _).set b _).getD a 0=((x.set a _).set b _).getD b 0
    rw[gx hx.1,gx hx.1,if_neg hab,if_pos rfl,if_pos rfl]
   ·exact(jx hx.1).mpr p2 p hp
  ·have e3:∀r,((x.set a (x.getD far 0)).set b (x.getD far 0)).getD r 0=((y.set a (y.getD far 0)).set b (y.getD far 0)).getD r 0:=fun r=>by rw[e]
   refine zCZ hx hy fun r hr=>?_
   have er:=e3 r;rw[gx hx.1,gx hy.1]at er
   by_cases q1:r=b
   ·subst q1;have g1:(jE t a r).1.getD r none=none:=by rw[g,if_neg (fun y=>n1 y.symm),if_neg (fun y=>z y.symm),if_pos rfl]
    rw[(p1 r hr).1 g1,(r1 r hr).1 g1]
   ·by_cases q2:r=a
    ·subst q2;have g1:(jE t r b).1.getD r none=none:=by rw[g,if_neg (fun y=>f4 y.symm),if_neg (fun y=>f1 y.symm),if_neg q1,if_pos rfl]
     rw[(p1 r hr).1 g1,(r1 r hr).1 g1]
    ·rw[if_neg q1,if_neg q2,if_neg q1,if_neg q2]at er;exact er
end
noncomputable def sa9(w:Nat):Nat:=if w=0 then 2 else 1
noncomputable def sb9(w:Nat):Nat:=if w=2 then 2 else 3
def jP(t:Ty)(p w:Nat):Ty×Nat:=((jE (jE t (4*p) (4*p+(w+1))).1 (4*p+sa9 w) (4*p+sb9 w)).1,(jE t (4*p) (4*p+(w+1))).2+(jE (jE t (4*p) (4*p+(w+1))).1 (4*p+sa9 w) (4*p+sb9 w)).2)
def pr9(p w:Nat):List (Nat×Nat):=[(4*p,4*p+(w+1)),(4*p+sa9 w,4*p+sb9 w)]
theorem zIW:∀w,w<3->sa9 w<4/\sb9 w<4/\sa9 w≠sb9 w/\sa9 w≠0/\sb9 w≠0/\sa9 w≠w+1/\sb9 w≠w+1/\∀s,s<4->s=0\/s=w+1\/s=sa9 w\/s=sb9 w:=by decide
theorem zWD{M:Nat}{t:Ty}{p w:Nat}(h:Mt M t)(hal:∀s,s<4->t.getD (4*p+s) none≠none)(hw:w<3) :
  Mt M (jP t p w).1/\(∀e,(jP t p w).1.getD e none=none↔e/4=p\/t.getD e none=none)/\∀Js:List (Nat×Nat),(∀q∈Js,q.1/4≠p/\q.2/4≠p) ->
   cnt M (fun x=>InvT M t x/\InJ (pr9 p w++Js) x)=2 ^ (jP t p w).2*cnt M (fun x=>InvT M (jP t p w).1 x/\InJ Js x):=by
 obtain⟨a1,a2,a3,a4,a5,a6,a7,a8⟩:=zIW w hw;have some_of:∀{o:Option Nat},o≠none->∃f,o=some f:=fun{o} ho=>by cases o with|none=>exact absurd rfl ho|some f=>exact⟨f,rfl⟩
 obtain⟨f,hf⟩:=some_of (hal 0 (by omega));obtain⟨g,hg⟩:=some_of (hal (w+1) (by omega));rw[qHd]at hf;have n1:4*p≠4*p+(w+1):=by omega
 have m1:=zT8 h hf hg n1;have d1:=zJ8 h hf hg n1;have al:∀s,s<4->s≠0->s≠w+1->(jE t (4*p) (4*p+(w+1))).1.getD (4*p+s) none≠none:=fun s hs h0 h1 z=>by
  rcases(d1 _).mp z with z|z|z
  ·omega
  ·omega
  ·exact hal s hs z
 obtain⟨f',hf'⟩:=some_of (al (sa9 w) a1 a4 a6);obtain⟨g',hg'⟩:=some_of (al (sb9 w) a2 a5 a7);have n2:4*p+sa9 w≠4*p+sb9 w:=by omega
 refine⟨zT8 m1 hf' hg' n2,fun e=>?_,fun Js hJ=>?_⟩
 ·show(jE (jE t (4*p) (4*p+(w+1))).1 (4*p+sa9 w) (4*p+sb9 w)).1.getD e none=none↔_
  rw[zJ8 m1 hf' hg' n2,d1];constructor
  ·rintro(z|z|z|z|z)
   ·left;omega
   ·left;omega
   ·left;omega
   ·left;omega
   ·exact .inr z
  ·rintro(z|z)
   ·have:=a8 (e%4) (by omega)
    rcases this with y|y|y|y
    ·right;right;left;omega
    ·right;right;right;left;omega
    ·left;omega
    ·right;left;omega
   ·exact .inr (.inr (.inr (.inr z)))
 ·have e1:=zRG h hf hg n1 (Js:=(4*p+sa9 w,4*p+sb9 w)::Js) fun q hq=>by
   rcases qAd.mp hq with rfl|hq
   ·dsimp only;omega
   ·obtain⟨q1,q2⟩:=hJ q hq;omega
  have e2:=zRG m1 hf' hg' n2 (Js:=Js) fun q hq=>by
   obtain⟨q1,q2⟩:=hJ q hq;omega
  show cnt M (fun x=>InvT M t x/\InJ ((4*p,4*p+(w+1))::(4*p+sa9 w,4*p+sb9 w)::Js) x)=_;rw[e1,e2];show _=2 ^ ((jE t (4*p) (4*p+(w+1))).2+(jE (jE t (4*p) (4*p+(w+1))).1 (4*p+sa9 w) (4*p+sb9 w)).2)*_;rw[qHg,qF9];rfl
def runP(t:Ty):List (Nat×Nat)->Ty×Nat
 |[]=>(t,0)
 |q::r=>((runP (jP t q.1 q.2).1 r).1,(jP t q.1 q.2).2+(runP (jP t q.1 q.2).1 r).2)
theorem zML{M:Nat}:∀(ps:List (Nat×Nat)){t:Ty},Mt M t->(ps.map (·.1)).Nodup->(∀q∈ps,q.2<3/\∀s,s<4->t.getD (4*q.1+s) none≠none) ->
  Mt M (runP t ps).1/\(∀e,(runP t ps).1.getD e none=none↔e/4∈ps.map (·.1)\/t.getD e none=none) /\
   cnt M (fun x=>InvT M t x/\InJ (ps.flatMap fun q=>pr9 q.1 q.2) x)=2 ^ (runP t ps).2*cnt M (fun x=>InvT M (runP t ps).1 x)
 |[],t,h,_,_=>⟨h,fun e=>by simp[runP],by
   show _=2 ^ 0*_;rw[qHc,qG5];exact zCW fun x _=>⟨fun z=>z.1,fun z=>⟨z,fun p hp=>by simp at hp⟩⟩⟩
 |q::r,t,h,hn,ha=>by
  obtain⟨hw,hal⟩:=ha q (qAi ..);obtain⟨m1,d1,c1⟩:=zWD h hal hw;rw[qAj,qAp]at hn;obtain⟨m2,d2,c2⟩:=zML r m1 hn.2 fun z hz=>by
   obtain⟨z1,z2⟩:=ha z (qA9 _ hz);refine⟨z1,fun s hs y=>?_⟩
   rcases(d1 _).mp y with y|y
   ·exact hn.1 (qAb.mpr ⟨z,hz,by omega⟩)
   ·exact z2 s hs y
  refine⟨m2,fun e=>?_,?_⟩
  ·show(runP (jP t q.1 q.2).1 r).1.getD e none=none↔_
   rw[d2,d1,qAj,qAd];constructor
   ·rintro(z|z|z)
    ·exact .inl (.inr z)
    ·exact .inl (.inl z)
    ·exact .inr z
   ·rintro((z|z)|z)
    ·exact .inr (.inl z)
    ·exact .inl z
    ·exact .inr (.inr z)
  ·rw[qBq,c1 _ fun z hz=>?_,c2]
   ·show _=2 ^ ((jP t q.1 q.2).2+(runP (jP t q.1 q.2).1 r).2)*_;rw[qHg,qF9];rfl
   ·obtain⟨y,hy,hz⟩:=qB5.mp hz;have hne:y.1≠q.1:=fun e=>hn.1 (qAb.mpr ⟨y,hy,e⟩)
    obtain⟨a1,a2,_⟩:=zIW y.2 (ha y (qA9 _ hy)).1;have hy3:=(ha y (qA9 _ hy)).1;unfold pr9 at hz
    rcases qAd.mp hz with rfl|hz
    ·dsimp only;omega
    ·rw[qAr]at hz;subst hz;dsimp only;omega
noncomputable def KN(ts C:List Nat)(n:Nat):Nat:=cnt (4*n) (fun x=>Cst ts C n (fun e=>x.getD e 0))
theorem zRC{ts:List Nat}{M:Nat}(hN:NetN ts M)(hne:∀x,x<M->nt ts x≠x):Mt M (ts.map some):=by
 have g:∀e,e<M->(ts.map some).getD e none=some (nt ts e):=fun e he=>by
  have:e<ts.length:=by rw[hN.len];exact he
  unfold nt;simp[this]
 refine⟨by simp[hN.len],fun e f he=>?_⟩
 by_cases hM:e<M
 ·rw[g e hM]at he;cases he;refine⟨hN.lt e hM,hne e hM,?_⟩;rw[g _ (hN.lt e hM),hN.inv e hM]
 ·have:¬e<ts.length:=by rw[hN.len];exact hM
  rw[qA0,qCj (by simp;omega)]at he;cases he
theorem zDP{ts:List Nat}{M:Nat}(hN:NetN ts M){e:Nat}(he:e<M):(ts.map some).getD e none=some (nt ts e):=by
 have:e<ts.length:=by rw[hN.len];exact he
 unfold nt;simp[this]
theorem zPD{ts C:List Nat}{n:Nat}{ps:List (Nat×Nat)}(hN:NetN ts (4*n))(hne:∀x,x<4*n->nt ts x≠x)(hl:C.length=n)(hw:∀c∈C,c<3)(hp:(ps.map (·.1)).Perm (qA7 n))(hC:∀q∈ps,q.2=C.getD q.1 0) :
  2 ^ (runP (ts.map some) ps).2=KN ts C n/\(runP (ts.map some) ps).1=qA3 (4*n) none:=by
 have hin:∀q∈ps,q.1<n:=fun q hq=>by
  have:=hp.mem_iff.mp (qAb.mpr ⟨q,hq,rfl⟩)
  simpa using this
 have hm:=zRC hN hne;have hw3:∀q∈ps,q.2<3:=fun q hq=>by
  rw[hC q hq];have hlt:=hin q hq;rw[qA0,qA5 (by omega)];exact hw _ (qAx _)
 obtain⟨m1,d1,c1⟩:=zML ps hm (hp.nodup_iff.mpr qBv) fun q hq=>⟨hw3 q hq,fun s hs z=>by
  rw[zDP hN (by have:=hin q hq;omega)]at z;cases z⟩
 have dead:∀e,e<4*n->(runP (ts.map some) ps).1.getD e none=none:=fun e he=>(d1 e).mpr (.inl (hp.mem_iff.mpr (by simp;omega)))
 have hrep:(runP (ts.map some) ps).1=qA3 (4*n) none:=by
  refine qB9 (by simp[m1.len]) fun i h1 h2=>?_
  have:=dead i (by rw[<- m1.len];exact h1)
  rw[qA0,qA5 h1]at this;simp at this ⊢;exact this
 refine⟨?_,hrep⟩;have one:cnt (4*n) (fun x=>InvT (4*n) (runP (ts.map some) ps).1 x)=1:=by
  have z:=zKV (n:=4*n) (ks:=qA7 (4*n)) qBv fun k hk=>by simpa using hk
  rw[qDq]at z;have z1:cnt (4*n) (fun x=>∀k∈qA7 (4*n),x.getD k 0=0)=1:=Nat.eq_of_mul_eq_mul_right (Nat.pow_pos (n:=4*n) (show 0<2 by decide)) (by rw[z,qG5]);rw[<- z1];refine zCW fun x _=>⟨fun h k hk=>(h k (by simpa using hk)).1 (dead k (by simpa using hk)),fun h e he=>⟨fun _=>h e (by simpa using he),fun f hf=>?_⟩⟩
  rw[dead e he]at hf;cases hf
 rw[one,Nat.mul_one]at c1;rw[<- c1];unfold KN;refine zCW fun x hx=>⟨fun⟨h1,h2⟩=>⟨fun e=>zBI hx e,fun e he=>?_,fun e he=>?_⟩,fun h=>⟨fun e he=>⟨fun z=>?_,fun f hf=>?_⟩,fun p hp'=>?_⟩⟩
 ·exact(h1 e he).2 _ (zDP hN he)
 ·have hpl:e/4<n:=by omega
  obtain⟨q,hq,hq1⟩:=qAb.mp (hp.mem_iff.mpr (by simpa using hpl:e/4∈qA7 n));have hcw:C.getD (e/4) 0<3:=by rw[<- hq1,<- hC q hq];exact hw3 q hq
  refine(zWC (F:=fun e=>x.getD e 0) hpl hcw).mpr ?_ e he rfl;have p1:=h2 (4*q.1,4*q.1+(q.2+1)) (qB5.mpr ⟨q,hq,by simp[pr9]⟩);have p2:=h2 (4*q.1+sa9 q.2,4*q.1+sb9 q.2) (qB5.mpr ⟨q,hq,by simp[pr9]⟩);rw[hq1,hC q hq,hq1]at p1 p2;dsimp only at p1 p2 ⊢;refine⟨fun z=>?_,fun z=>?_,fun z=>?_⟩<;>(rw[z]at p1 p2;exact⟨p1,p2⟩)
 ·rw[zDP hN he]at z;cases z
 ·rw[zDP hN he]at hf;cases hf;exact h.hn e he
 ·obtain⟨q,hq,hz⟩:=qB5.mp hp';have hpl:=hin q hq;have hcw:C.getD q.1 0<3:=by rw[<- hC q hq];exact hw3 q hq
  obtain⟨j0,j1,j2⟩:=(zWC (F:=fun e=>x.getD e 0) hpl hcw).mp fun e he _=>h.hj e he
  rw[<- hC q hq]at j0 j1 j2;have h3:=hw3 q hq;have c3:q.2=0\/q.2=1\/q.2=2:=by omega
  unfold pr9 at hz
  rcases c3 with c|c|c<;>rw[c]at hz
  ·obtain⟨k1,k2⟩:=j0 c
   rcases qAd.mp hz with rfl|hz
   ·exact k1
   ·rw[qAr]at hz;subst hz;exact k2
  ·obtain⟨k1,k2⟩:=j1 c
   rcases qAd.mp hz with rfl|hz
   ·exact k1
   ·rw[qAr]at hz;subst hz;exact k2
  ·obtain⟨k1,k2⟩:=j2 c
   rcases qAd.mp hz with rfl|hz
   ·exact k1
   ·rw[qAr]at hz;subst hz;exact k2
abbrev Ad:=List (Ty×List Nat)
noncomputable def putA:Ad->Ty->List Nat->Ad
 |[],k,xs=>[(k,xs)]
 |q::r,k,xs=>if q.1=k then(q.1,q.2++xs)::r else q::putA r k xs
noncomputable def allA(L:Ad):List (Ty×Nat):=L.flatMap fun q=>q.2.map fun c=>(q.1,c)
theorem zEP(k:Ty)(xs:List Nat):∀L:Ad,(allA (putA L k xs)).Perm (allA L++xs.map fun c=>(k,c))
 |[]=>by simp[putA,allA]
 |q::r=>by
  unfold putA
  split
  ·rename_i h
   subst h
   show((q.2++xs).map (fun c=>(q.1,c))++allA r).Perm ((q.2.map fun c=>(q.1,c))++allA r++xs.map fun c=>(q.1,c))
   rw[qBs,qAu,qAu];exact qCg _ List.perm_append_comm
  ·show((q.2.map fun c=>(q.1,c))++allA (putA r k xs)).Perm ((q.2.map fun c=>(q.1,c))++allA r++xs.map fun c=>(k,c))
   rw[qAu];exact qCg _ (zEP k xs r)
theorem zHN(k:Ty)(xs:List Nat):∀L:Ad,(putA L k xs).map (·.1)=if k∈L.map (·.1)then L.map (·.1)else L.map (·.1)++[k]
 |[]=>by simp[putA]
 |q::r=>by
  unfold putA
  by_cases h:q.1=k
  ·rw[if_pos h];simp[h]
  ·have h':¬k=q.1:=fun z=>h z.symm
   rw[if_neg h,qAj,zHN k xs r]
   by_cases h2:k∈r.map (·.1)
   ·rw[if_pos h2,if_pos (by rw[qAj];exact qA9 _ h2)];rfl
   ·rw[if_neg h2,if_neg (by simp only[qAj,qAd,not_or];exact⟨h',h2⟩)];rfl
theorem zLC{k:Ty}{xs:List Nat}{L:Ad}(h:(L.map (·.1)).Nodup):((putA L k xs).map (·.1)).Nodup:=by
 rw[zHN]
 split
 ·exact h
 ·rename_i z
  rw[qC3];exact⟨h,by simp,fun a ha b hb=>by simp at hb;subst hb;exact fun y=>z (y▸ha)⟩
theorem zMR{k:Ty}{xs:List Nat}(hx:xs≠[]):∀{L:Ad},(∀q∈L,q.2≠[])->∀q∈putA L k xs,q.2≠[]
 |[],_,q,hq=>by simp[putA]at hq;subst hq;exact hx
 |z::r,h,q,hq=>by
  unfold putA at hq
  split at hq
  ·rcases qAd.mp hq with rfl|hq
   ·simp[hx]
   ·exact h q (qA9 _ hq)
  ·rcases qAd.mp hq with rfl|hq
   ·exact h _ (qAi ..)
   ·exact zMR hx (fun q hq=>h q (qA9 _ hq)) q hq
def putw(p:Nat)(q:Ty×List Nat)(acc:Ad)(w:Nat):Ad:=putA acc (jP q.1 p w).1 (q.2.map (·+(jP q.1 p w).2))
def stpw(p:Nat)(acc:Ad)(q:Ty×List Nat):Ad:=[0,1,2].foldl (putw p q) acc
def stepA(L:Ad)(p:Nat):Ad:=L.foldl (stpw p) []
abbrev nxt9(p:Nat)(z:Ty×Nat):List (Ty×Nat):=[0,1,2].map fun w=>((jP z.1 p w).1,z.2+(jP z.1 p w).2)
theorem zI3{α β:Type}(a b c:α->β):∀xs:List α,(xs.map a++(xs.map b++xs.map c)).Perm (xs.flatMap fun x=>[a x,b x,c x])
 |[]=>by simp
 |x::xs=>by
  have ih:=zI3 a b c xs;simp only[qAj,qD1,qBq,qCe];refine qEr _ ?_;refine(qFu (l₁:=xs.map a) (a:=b x) (l₂:=xs.map b++c x::xs.map c)).trans (qEr _ ?_);have e:(xs.map a++(xs.map b++c x::xs.map c)).Perm (c x::(xs.map a++(xs.map b++xs.map c))):=by
   rw[<- qAu,<- qAu];exact qFu
  exact e.trans (qEr _ ih)
theorem zP3(p:Nat)(acc:Ad)(q:Ty×List Nat):(allA (stpw p acc q)).Perm (allA acc++(q.2.map fun c=>(q.1,c)).flatMap (nxt9 p)):=by
 unfold stpw;simp only[qC1,qDi];refine(zEP _ _ _).trans ?_;refine((zEP _ _ _).append_right _).trans ?_;refine(((zEP _ _ _).append_right _).append_right _).trans ?_;rw[qAu,qAu];refine qCg _ ?_;rw[qAo,qAo,qAo,List.flatMap_map];exact zI3 (fun c=>((jP q.1 p 0).1,c+(jP q.1 p 0).2)) (fun c=>((jP q.1 p 1).1,c+(jP q.1 p 1).2)) (fun c=>((jP q.1 p 2).1,c+(jP q.1 p 2).2)) q.2
theorem zIQ(p:Nat):∀(L acc:Ad),(allA (L.foldl (stpw p) acc)).Perm (allA acc++(allA L).flatMap (nxt9 p))
 |[],acc=>by simp[allA]
 |q::r,acc=>by
  rw[qC1];refine(zIQ p r _).trans ?_;refine((zP3 p acc q).append_right _).trans ?_
  show(allA acc++(q.2.map fun c=>(q.1,c)).flatMap (nxt9 p)++(allA r).flatMap (nxt9 p)).Perm (allA acc++((q.2.map fun c=>(q.1,c))++allA r).flatMap (nxt9 p))
  rw[qEz,qAu]
theorem zIP(L:Ad)(p:Nat):(allA (stepA L p)).Perm ((allA L).flatMap (nxt9 p)):=by
 have:=zIQ p L []
 unfold stepA;rw[show allA []=[] from rfl,qCe]at this;exact this
structure Gd(L:Ad):Prop where
 nd:(L.map (·.1)).Nodup
 ne:∀q∈L,q.2≠[]
theorem zO0{L:Ad}{k:Ty}{xs:List Nat}(h:Gd L)(hx:xs≠[]):Gd (putA L k xs):=⟨zLC h.nd,zMR hx h.ne⟩
theorem zTK{p:Nat}{acc:Ad}{q:Ty×List Nat}(h:Gd acc)(hq:q.2≠[]):Gd (stpw p acc q):=by
 have m:∀c:Nat,q.2.map (·+c)≠[]:=fun c=>by simpa using hq
 exact zO0 (zO0 (zO0 h (m _)) (m _)) (m _)
theorem zO1{p:Nat}:∀{L acc:Ad},(∀q∈L,q.2≠[])->Gd acc->Gd (L.foldl (stpw p) acc)
 |[],_,_,h=>h
 |q::r,acc,hL,h=>zO1 (L:=r) (fun z hz=>hL z (qA9 _ hz)) (zTK h (hL q (qAi ..)))
theorem zNZ{L:Ad}{p:Nat}(h:Gd L):Gd (stepA L p):=zO1 h.ne ⟨by simp,fun q hq=>by simp at hq⟩
noncomputable def allW:List Nat->List (List (Nat×Nat))
 |[]=>[[]]
 |p::r=>[0,1,2].flatMap fun w=>(allW r).map ((p,w)::·)
theorem zL0:∀(o:List Nat)(L:Ad),(allA (o.foldl stepA L)).Perm ((allA L).flatMap fun z=>(allW o).map fun ps=>((runP z.1 ps).1,z.2+(runP z.1 ps).2))
 |[],L=>by
  simp[allW,runP]
 |p::r,L=>by
  rw[qC1];refine(zL0 r _).trans ?_;refine((zIP L p).flatMap_right _).trans ?_;rw[List.flatMap_assoc];refine List.Perm.of_eq ?_
  congr 1
  funext z
  simp only[nxt9,qAj,qHa,qBq,qE9,qBr,allW,qBs,qAo];simp only[qDr,runP,Nat.add_assoc]
theorem zRL:∀(o:List Nat){L:Ad},Gd L->Gd (o.foldl stepA L)
 |[],_,h=>h
 |p::r,L,h=>zRL r (zNZ h)
theorem allW_mem:∀{o:List Nat}{ps:List (Nat×Nat)},ps∈allW o↔ps.map (·.1)=o/\∀q∈ps,q.2<3
 |[],ps=>by
  simp only[allW,qAr];exact⟨fun h=>by subst h;simp,fun h=>by simpa using h.1⟩
 |p::r,ps=>by
  simp only[allW,qB5,qAb];constructor
  ·rintro⟨w,hw,qs,hq,rfl⟩
   obtain⟨h1,h2⟩:=allW_mem.mp hq;refine⟨by simp[h1],fun q hq=>?_⟩
   rcases qAd.mp hq with rfl|hq
   ·simp at hw;show w<3;omega
   ·exact h2 q hq
  ·rintro⟨h1,h2⟩
   match ps,h1,h2 with
   |[],h1,_=>simp at h1
   |q::qs,h1,h2=>
    simp at h1;have hq:=h2 q (qAi ..);refine⟨q.2,by simp;omega,qs,allW_mem.mpr ⟨h1.2,fun z hz=>h2 z (qA9 _ hz)⟩,?_⟩;rw[<- h1.1]
theorem zG6:∀o:List Nat,(allW o).Nodup
 |[]=>by simp[allW]
 |p::r=>by
  have ih:=zG6 r;have inj:∀w:Nat,((allW r).map ((p,w)::·)).Nodup:=fun w=>zC6 ih fun x _ y _ e=>by simpa using e
  simp only[allW,qBq,qE9,qBr];have ne:∀{w v:Nat},w≠v->∀a∈(allW r).map ((p,w)::·),∀b∈(allW r).map ((p,v)::·),a≠b:=fun{w v} h a ha b hb e=>by
   obtain⟨x,_,rfl⟩:=qAb.mp ha;obtain⟨y,_,rfl⟩:=qAb.mp hb;simp at e;exact h e.1
  rw[qC3,qC3];refine⟨inj 0,⟨inj 1,inj 2,ne (by decide)⟩,fun a ha b hb=>?_⟩
  rcases qB0.mp hb with hb|hb
  ·exact ne (by decide) a ha b hb
  ·exact ne (by decide) a ha b hb
noncomputable def toC(n:Nat)(ps:List (Nat×Nat)):List Nat:=(qA7 n).map fun p=>(ps.lookup p).getD 0
theorem zCS:∀{ps:List (Nat×Nat)},(ps.map (·.1)).Nodup->∀q∈ps,ps.lookup q.1=some q.2
 |[],_,q,hq=>by simp at hq
 |z::r,hn,q,hq=>by
  rw[qAj,qAp]at hn
  rcases qAd.mp hq with rfl|hq
  ·simp[qCw]
  ·have:(q.1==z.1)=false:=by
    simpa using fun e=>hn.1 (qAb.mpr ⟨q,hq,e⟩)
   simp[qCw,this];exact zCS hn.2 q hq
noncomputable def chA:Nat->List (List Nat)
 |0=>[[]]
 |n+1=>(chA n).flatMap fun c=>[c++[0],c++[1],c++[2]]
theorem chA_mem:∀{n:Nat}{c:List Nat},c∈chA n↔c.length=n/\∀w∈c,w<3
 |0,c=>by
  simp only[chA,qAr];exact⟨fun h=>by subst h;simp,fun h=>by simpa using h.1⟩
 |n+1,c=>by
  simp only[chA,qB5];constructor
  ·rintro⟨d,hd,hc⟩
   obtain⟨h1,h2⟩:=chA_mem.mp hd;simp at hc
   have:∃w,w<3/\c=d++[w]:=by
    rcases hc with rfl|rfl|rfl
    ·exact⟨0,by decide,rfl⟩
    ·exact⟨1,by decide,rfl⟩
    ·exact⟨2,by decide,rfl⟩
   obtain⟨w,hw,rfl⟩:=this;refine⟨by simp[h1],fun v hv=>?_⟩
   rcases qB0.mp hv with hv|hv
   ·exact h2 v hv
   ·simp at hv;omega
  ·rintro⟨h1,h2⟩
   have hne:c≠[]:=fun z=>by rw[z]at h1;simp at h1
   have e:=List.dropLast_concat_getLast hne;have hl:=h2 _ (List.getLast_mem hne);refine⟨c.dropLast,chA_mem.mpr ⟨by simp[h1],fun w hw=>h2 w (List.dropLast_subset _ hw)⟩,?_⟩
   generalize c.getLast hne=w at e hl
   generalize c.dropLast=d at e
   subst e
   have:w=0\/w=1\/w=2:=by omega
   rcases this with rfl|rfl|rfl<;>simp
theorem zI9:∀n,(chA n).Nodup
 |0=>by simp[chA]
 |n+1=>by
  have ih:=zI9 n;have g:∀l:List (List Nat),l.Nodup->(l.flatMap fun c=>[c++[0],c++[1],c++[2]]).Nodup:=by
   intro l
   induction l with
   |nil=>intro _;simp
   |cons c l ih2=>
    intro h;rw[qAp]at h;rw[qBq,qC3];refine⟨by simp,ih2 h.2,fun a ha b hb e=>?_⟩;subst e;obtain⟨d,hd,hb⟩:=qB5.mp hb;have k:∀{x y:List Nat}{u v:Nat},x++[u]=y++[v]->x=y:=fun{x y u v} e=>by
     have:=congrArg List.dropLast e
     simpa using this
    have:c=d:=by
     simp at ha hb
     rcases ha with rfl|rfl|rfl<;>rcases hb with z|z|z<;>exact k z
    exact h.1 (this▸hd)
  exact g _ ih
theorem zGB{n:Nat}{o:List Nat}(ho:o.Perm (qA7 n)):((allW o).map (toC n)).Perm (chA n):=by
 have hn:o.Nodup:=ho.nodup_iff.mpr qBv;refine(List.perm_ext_iff_of_nodup (zC6 (zG6 o) fun x hx y hy e=>?_) (zI9 n)).mpr fun c=>?_
 ·obtain⟨x1,_⟩:=allW_mem.mp hx;obtain⟨y1,_⟩:=allW_mem.mp hy;have lk:∀p∈o,x.lookup p=y.lookup p:=fun p hp=>by
   have hpn:p<n:=by simpa using ho.mem_iff.mp hp
   have:=congrArg (fun l=>l[p]?) e
   simp[toC,hpn]at this;have hx':p∈x.map (·.1):=x1▸hp;have hy':p∈y.map (·.1):=y1▸hp;obtain⟨q,hq,rfl⟩:=qAb.mp hx';obtain⟨z,hz,hzq⟩:=qAb.mp hy';rw[zCS (x1▸hn) q hq]at this ⊢;rw[<- hzq]at this ⊢;rw[zCS (y1▸hn) z hz]at this ⊢
   simpa using this
  have len:x.length=y.length:=by
   have:=congrArg qD9 (x1.trans y1.symm)
   simpa using this
  refine qB9 len fun i h1 h2=>?_
  have f1:x[i].1=y[i].1:=by
   have:=congrArg (fun l:List Nat=>l[i]?) (x1.trans y1.symm)
   simp[h1,h2]at this;exact this
  have f2:=lk x[i].1 (x1▸qAb.mpr ⟨x[i],qAx _,rfl⟩);rw[zCS (x1▸hn) _ (qAx h1),f1,zCS (y1▸hn) _ (qAx h2)]at f2;exact Prod.ext f1 (by simpa using f2)
 ·rw[chA_mem,qAb];constructor
  ·rintro⟨ps,hp,rfl⟩
   obtain⟨h1,h2⟩:=allW_mem.mp hp;refine⟨by simp[toC],fun w hw=>?_⟩;obtain⟨p,hpn,rfl⟩:=qAb.mp hw
   have:p∈ps.map (·.1):=h1▸ho.mem_iff.mpr hpn
   obtain⟨q,hq,rfl⟩:=qAb.mp this;rw[zCS (h1▸hn) q hq];exact h2 q hq
  ·rintro⟨h1,h2⟩
   have hm:(o.map fun p=>(p,c.getD p 0)).map (·.1)=o:=by simp[qAo,qDr]
   refine⟨o.map fun p=>(p,c.getD p 0),allW_mem.mpr ⟨hm,fun q hq=>?_⟩,?_⟩
   ·obtain⟨p,hp,rfl⟩:=qAb.mp hq;have hpn:p<n:=by simpa using ho.mem_iff.mp hp
    show c.getD p 0<3;rw[qA0,qA5 (by omega)];exact h2 _ (qAx _)
   ·refine qB9 (by simp[toC,h1]) fun i g1 g2=>?_
    simp[toC]at g1;have hio:i∈o:=ho.mem_iff.mpr (by simpa using g1)
    have:=zCS (ps:=o.map fun p=>(p,c.getD p 0)) (by rw[hm];exact hn) (i,c.getD i 0) (qAb.mpr ⟨i,hio,rfl⟩)
    simp only[toC,qCn,qBx];dsimp only at this;rw[this];simp[g2]
noncomputable def rN(ts:List Nat)(n:Nat)(C:List Nat):Nat:=Nat.log2 (KN ts C n)
theorem zR5{ts:List Nat}{n:Nat}{o:List Nat}{ps:List (Nat×Nat)}(hN:NetN ts (4*n))(hne:∀x,x<4*n->nt ts x≠x)(ho:o.Perm (qA7 n))(hp:ps∈allW o):runP (ts.map some) ps=(qA3 (4*n) none,rN ts n (toC n ps)):=by
 obtain⟨h1,h2⟩:=allW_mem.mp hp;have hn:o.Nodup:=ho.nodup_iff.mpr qBv;have hc:=chA_mem.mp ((zGB ho).mem_iff.mp (qAb.mpr ⟨ps,hp,rfl⟩));obtain⟨e1,e2⟩:=zPD (C:=toC n ps) (ps:=ps) hN hne hc.1 hc.2 (h1▸ho) fun q hq=>by
  have hq1:q.1<n:=by
   have:=ho.mem_iff.mp (h1▸qAb.mpr ⟨q,hq,rfl⟩)
   simpa using this
  have:=zCS (h1▸hn) q hq
  simp[toC,hq1,this]
 refine Prod.ext e2 ?_;show _=Nat.log2 (KN ts (toC n ps) n);rw[<- e1,qFv]
theorem zSB{ts:List Nat}{n:Nat}{o:List Nat}(hN:NetN ts (4*n))(hne:∀x,x<4*n->nt ts x≠x)(ho:o.Perm (qA7 n)):∃cs,o.foldl stepA [(ts.map some,[0])]=[(qA3 (4*n) none,cs)]/\cs.Perm ((chA n).map (rN ts n)):=by
 have g:=zRL o (L:=[(ts.map some,[0])]) ⟨by simp,by simp⟩;have a:=zL0 o [(ts.map some,[0])];have e0:allA [(ts.map some,[0])]=[(ts.map some,0)]:=rfl;rw[e0,qBq,qE9,qBr]at a;have e1:((allW o).map fun ps=>((runP (ts.map some) ps).1,0+(runP (ts.map some) ps).2))=(allW o).map fun ps=>(qA3 (4*n) none,rN ts n (toC n ps)):=qAs fun ps hp=>by rw[zR5 hN hne ho hp];simp
 rw[e1]at a;have a2:(allA (o.foldl stepA [(ts.map some,[0])])).Perm (((chA n).map (rN ts n)).map fun c=>(qA3 (4*n) none,c)):=by
  refine a.trans ?_
  have:=((zGB ho).map (rN ts n)).map fun c=>((qA3 (4*n) none:Ty),c)
  rw[qAo,qAo]at this;exact this
 generalize o.foldl stepA [(ts.map some,[0])]=L at g a2
 have keys:∀q∈L,q.1=qA3 (4*n) none:=fun q hq=>by
  have hne:=g.ne q hq;obtain⟨c,hc⟩:=qDj _ hne
  have:(q.1,c)∈allA L:=qB5.mpr ⟨q,hq,qAb.mpr ⟨c,hc,rfl⟩⟩
  obtain⟨d,_,e⟩:=qAb.mp (a2.mem_iff.mp this);exact(congrArg qHi e).symm
 match L,g,a2,keys with
 |[],_,a2,_=>
  have h3:=a2.length_eq
  have:(chA n)≠[]:=fun z=>by
   have:=chA_mem (n:=n) (c:=qA3 n 0)
   rw[z]at this;simp at this
  simp[allA]at h3;exact absurd (qE1.mp h3.symm) this
 |[q],_,a2,keys=>
  have hk:=keys q (qAi ..);refine⟨q.2,by rw[<- hk],?_⟩;have h4:allA [q]=q.2.map fun c=>(q.1,c):=by simp[allA]
  rw[h4,hk]at a2
  have:=a2.map Prod.snd
  simpa[qAo,qDr]using this
 |q::z::r,g,_,keys=>
  have h5:=g.nd;rw[qAj,qAj,keys q (by simp),keys z (by simp)]at h5;simp at h5
noncomputable def mxL(cs:List Nat):Nat:=cs.foldr max 0
def hst(cs:List Nat):List Int:=if cs=[]then[]else(qA7 (mxL cs+1)).map fun k=>((cs.count k:Nat):Int)
theorem zT0(a b:List Nat):mxL (a++b)=max (mxL a) (mxL b):=by
 induction a with
 |nil=>simp[mxL]
 |cons x r ih=>
  show max x (mxL (r++b))=max (max x (mxL r)) (mxL b);rw[ih,qH5]
theorem zFV{cs:List Nat}{c:Nat}(h:c∈cs):c<=mxL cs:=by
 induction cs with
 |nil=>simp at h
 |cons x r ih=>
  simp[mxL]at ih ⊢
  rcases qAd.mp h with rfl|h
  ·omega
  ·have:=ih h;omega
theorem zE0{cs:List Nat}(h:cs≠[]):mxL cs∈cs:=by
 induction cs with
 |nil=>exact absurd rfl h
 |cons x r ih=>
  show max x (mxL r)∈x::r
  by_cases hr:r=[]
  ·subst hr;simp[mxL]
  ·have:=ih hr
   by_cases hx:mxL r<=x
   ·rw[qG6 hx];exact qAi ..
   ·rw[qFw (by omega)];exact qA9 _ this
theorem zPX{a b:List Nat}(h:a.Perm b):mxL a=mxL b:=by
 by_cases ha:a=[]
 ·subst ha;rw[qH6.mp h]
 ·have hb:b≠[]:=fun z=>by subst z;exact ha (qH7.mp h)
  exact qCr (zFV (h.mem_iff.mp (zE0 ha))) (zFV (h.mem_iff.mpr (zE0 hb)))
theorem zQ9{a b:List Nat}(h:a.Perm b):hst a=hst b:=by
 unfold hst
 by_cases ha:a=[]
 ·subst ha;rw[qH6.mp h]
 ·have hb:b≠[]:=fun z=>by subst z;exact ha (qH7.mp h)
  rw[if_neg ha,if_neg hb,zPX h];exact qAs fun k _=>by rw[h.count_eq]
theorem zE1{cs:List Nat}(h:cs≠[]):(hst cs).length=mxL cs+1:=by unfold hst;rw[if_neg h];simp
theorem zF7{cs:List Nat}(h:cs≠[])(k:Nat):(hst cs).getD k 0=((cs.count k:Nat):Int):=by
 unfold hst;rw[if_neg h]
 by_cases hk:k<mxL cs+1
 ·simp[hk]
 ·have:cs.count k=0:=qCs.mpr fun z=>hk (by have:=zFV z;omega)
  rw[qA0,qCj (by simp;omega),this];rfl
noncomputable def sumL(a b:List Int):List Int:=(qA7 (max a.length b.length)).map fun k=>a.getD k 0+b.getD k 0
theorem zS6{a b:List Nat}(hb:b≠[]):sumL (hst a) (hst b)=hst (a++b):=by
 have hab:a++b≠[]:=by simp[hb]
 by_cases ha:a=[]
 ·subst ha;unfold sumL;rw[show hst []=[] from rfl,qCe];refine qB9 (by simp) fun i h1 h2=>?_
  have e:(hst b)[i]=(hst b).getD i 0:=by simp[h2]
  rw[e,qCn,qBx];simp
 ·unfold sumL;rw[zE1 ha,zE1 hb];refine qB9 (by rw[qAm,qDq,zE1 hab,zT0];omega) fun i h1 h2=>?_
  have e:(hst (a++b))[i]=(hst (a++b)).getD i 0:=by simp[h2]
  rw[e,zF7 hab,qCn,zF7 ha,zF7 hb,qBx,List.count_append]
  push_cast
  rfl
theorem zOP(b:List Nat)(c k:Nat):(b.map (·+c)).count (k+c)=b.count k:=by
 induction b with
 |nil=>rfl
 |cons x r ih=>
  rw[qAj,qEk,qEk,ih]
  by_cases h:x=k
  ·subst h;simp
  ·simp[h]
theorem zMG{b:List Nat}(hb:b≠[])(c:Nat):qA3 c (0:Int)++hst b=hst (b.map (·+c)):=by
 have hb':b.map (·+c)≠[]:=by simpa using hb
 have hm:mxL (b.map (·+c))=mxL b+c:=by
  have h1:=zE0 hb';obtain⟨x,hx,hx2⟩:=qAb.mp h1;have h2:=zFV hx;have h3:mxL b+c<=mxL (b.map (·+c)):=zFV (qAb.mpr ⟨_,zE0 hb,rfl⟩);omega
 refine qB9 (by simp[zE1 hb,zE1 hb',hm];omega) fun i h1 h2=>?_
 have e:(hst (b.map (·+c)))[i]=(hst (b.map (·+c))).getD i 0:=by simp[h2]
 rw[e,zF7 hb']
 by_cases hi:i<c
 ·rw[List.getElem_append_left (by simpa using hi)]
  have:(b.map (·+c)).count i=0:=qCs.mpr fun z=>by
   obtain⟨x,_,hx⟩:=qAb.mp z;omega
  simp[this]
 ·rw[List.getElem_append_right (by simpa using hi)];have e2:∀h,(hst b)[i-(qA3 c (0:Int)).length]'h=(hst b).getD (i-c) 0:=fun h=>by simp at h ⊢;simp[h]
  rw[e2,zF7 hb]
  congr 1
  have:i=i-c+c:=by omega
  conv=>rhs;rw[this]
  exact(zOP b c (i-c)).symm
noncomputable def zW4(n:Nat)(f:Nat->Nat->Int)(p:Nat):List Nat:=(qA7 n).filter fun k=>decide (f p k=1) && !decide ((k:Int)=(p:Int))
noncomputable def chg(f:Nat->Nat->Int)(b:Nat->Nat->Bool):Nat->Nat->Int:=fun i j=>if b i j=true then 1-f i j else f i j
def pvA(n:Nat)(f:Nat->Nat->Int)(v:Nat):Nat->Nat->Int:=chg f fun i j=>decide (i∈zW4 n f v)&&decide (j∈zW4 n f v)
noncomputable def off(a:Nat->Int)(u:Nat):Nat->Int:=fun i=>if i=u then 0 else a i
noncomputable def exB(a b:Nat->Int)(i j:Nat):Bool:=(decide (a i=1)||decide (b i=1))&&((decide (a j=1)||decide (b j=1)) && !(decide (a i=a j)&&decide (b i=b j)))
noncomputable def swq(n u v:Nat):List Nat:=((qA7 n).set u v).set v u
def sdA(f:Nat->Nat->Int)(u v:Nat)(w:Nat):Nat->Int:=off (off (f w) u) v
def pvB(n:Nat)(f:Nat->Nat->Int)(u v:Nat):Nat->Nat->Int:=sub (swq n u v) (chg f (exB (sdA f u v u) (sdA f u v v)))
section
variable{n:Nat}{cs c:List Nat}(w:Wd n cs)(n1:1<=n)(hn:n<=10)(hc:c.length=n)(hsl:(sosL cs).length=n)
include w n1 hn hc hsl
end
end Mp
namespace Mp
noncomputable section
open Mi PySem
def zFD:SM:=(sRet 0 0 [0] (eB divD (eBi lenD (aCons (eV 0) aNil)) (eC (.int 4))))
def zB1:FM:=runF 1 1 zFD
def zCF:SM:=(sSeq (sIf (Mi.tOr (tNo (tM (eIsi "list" (eV 0)))) (tB (eB neD (eBi lenD (aCons (eV 0) aNil)) (eBi lenD (aCons (eV 1) aNil))))) (sRet 0 0 [] (eC (.bl false))) sNil)
 (sSeq (sFor [0] (iSq (eV 0)) (.one 2) (sIf (Mi.tOr (tNo (tM (eIsi "int" (eV 2)))) (tM (eIsi "bool" (eV 2)))) (sRet 0 0 [] (eC (.bl false))) sNil))
 (sRet 0 0 [0,1] (eB eqD (eV 0) (eV 1)))))
def zBP:FM:=runF 2 3 zCF
def zP0:SM:=(sSeq (sSet 2 0 [1,0] (eB modD (eV 1) (eBi lenD (aCons (eV 0) aNil))))
 (sRet 1 1 [0,2] (eB addD (eSl (eV 0) (oE (eV 2)) oNo) (eSl (eV 0) oNo (oE (eV 2))))))
def zNI:FM:=runF 2 3 zP0
def zH7:SM:=(sRet 0 0 [1] (eB revD (eV 1) (eU negD (eC (.int 1)))))
def m_Mirror_done:FM:=runF 2 2 zH7
def zIN:SM:=(sRet 0 0 [1,0] (eCallN zNI (aCons (eV 1) (aCons (eFld ["Shift"] "by" (eV 0)) aNil))))
def m_Shift_done:FM:=runF 2 2 zIN
def zH3:SM:=(sSeq (sIf (Mi.tOr (tB (eB neD (eBi lenD (aCons (eV 1) aNil)) (eC (.int 1)))) (tB (eB (inD true) (eV 1) (eV 0)))) (zR4 "NoLetter" "letter" (aCons (eV 1) aNil)) sNil)
 (sRet 0 0 [1,0] (eMt zWR (eV 0) (aCons (eV 1) aNil))))
def zGN:FM:=runF 2 2 zH3
def zJM:SM:=(sRet 1 1 [0,1] (eTup (aCons (eCall zGN (aCons (eV 0) (aCons (eV 1) aNil))) (aCons (eMt zV0 (eV 0) (aCons (eV 1) aNil)) aNil))))
def zCD:FM:=runF 2 2 zJM
def zJO:SM:=(sSeq (sSet 2 1 [1,0] (eCall zCD (aCons (eV 1) (aCons (eFld ["Turn"] "letter" (eV 0)) aNil))))
 (sSeq (sSet 3 1 [2] (eB addD (eB ixD (eV 2) (eC (.int 0))) (eC (.int 1))))
 (sRet 0 0 [1,3,2] (eB addD (eB addD (eSl (eV 1) oNo (oE (eV 3))) (eB revD (eSl (eV 1) (oE (eV 3)) (oE (eB ixD (eV 2) (eC (.int 1))))) (eU negD (eC (.int 1))))) (eSl (eV 1) (oE (eB ixD (eV 2) (eC (.int 1)))) oNo)))))
def m_Turn_done:FM:=runF 2 4 zJO
def zLX:SM:=(sSeq (sSet 3 1 [0,1] (eCall zCD (aCons (eV 0) (aCons (eV 1) aNil))))
 (sRet 0 0 [2,0,3] (eB eqD (eMt zRW (eSl (eV 0) (oE (eB addD (eB ixD (eV 3) (eC (.int 0))) (eC (.int 1)))) (oE (eB ixD (eV 3) (eC (.int 1))))) (aCons (eV 2) aNil)) (eC (.int 1)))))
def zLL:FM:=runF 3 4 zLX
def zJN:SM:=(sSeq (sSet 2 1 [0,1] (eSl (eV 0) (oE (eB addD (eB ixD (eV 1) (eC (.int 0))) (eC (.int 1)))) (oE (eB ixD (eV 1) (eC (.int 1))))))
 (sSeq (sSet 3 1 [0,1] (eSl (eV 0) (oE (eB ixD (eV 1) (eC (.int 1)))) (oE (eB addD (eB ixD (eV 1) (eC (.int 2))) (eC (.int 1))))))
 (sSeq (sSet 4 1 [0,1] (eSl (eV 0) (oE (eB addD (eB ixD (eV 1) (eC (.int 2))) (eC (.int 1)))) (oE (eB ixD (eV 1) (eC (.int 3))))))
 (sRet 1 1 [2,0,3,4,1] (eB addD (eB addD (eB addD (eB addD (eSl (eV 0) oNo (oE (eB addD (eB ixD (eV 1) (eC (.int 0))) (eC (.int 1))))) (eV 4)) (eV 3)) (eV 2)) (eSl (eV 0) (oE (eB ixD (eV 1) (eC (.int 3)))) oNo))))))
def zJ5:FM:=runF 2 5 zJN
def zJQ:SM:=(sSeq (sSet 2 1 [1,0] (eB sadD (eCall zCD (aCons (eV 1) (aCons (eFld ["Swap"] "one" (eV 0)) aNil))) (eCall zCD (aCons (eV 1) (aCons (eFld ["Swap"] "other" (eV 0)) aNil)))))
 (sSeq (sIf (tNo (tM (eCall zLL (aCons (eV 1) (aCons (eFld ["Swap"] "one" (eV 0)) (aCons (eFld ["Swap"] "other" (eV 0)) aNil)))))) (sRaise0 "NoCross" (aCons (eC (.str "the letters do not cross in the word")) aNil)) sNil)
 (sRet 0 0 [1,2] (eCallN zJ5 (aCons (eV 1) (aCons (eV 2) aNil))))))
def m_Swap_done:FM:=runF 2 3 zJQ
def zH6:SM:=(sSeq (sSet 2 0 [0,1] (eB ixD (eLst (aCons (eTup (aCons (eC (.int 1)) (aCons (eC (.int 0)) (aCons (eC (.int 3)) (aCons (eC (.int 2)) aNil))))) (aCons (eTup (aCons (eC (.int 2)) (aCons (eC (.int 3)) (aCons (eC (.int 0)) (aCons (eC (.int 1)) aNil))))) (aCons (eTup (aCons (eC (.int 3)) (aCons (eC (.int 2)) (aCons (eC (.int 1)) (aCons (eC (.int 0)) aNil))))) aNil)))) (eB ixD (eV 0) (eB divD (eV 1) (eC (.int 4))))))
 (sRet 1 1 [1,2] (eB addD (eB subD (eV 1) (eB modD (eV 1) (eC (.int 4)))) (eB ixD (eV 2) (eB modD (eV 1) (eC (.int 4)))))))
def zGO:FM:=runF 2 3 zH6
def zIL:SM:=(sSeq (sSet 3 9 [] (eLst aNil))
 (sSeq (sSet 4 0 [2] (eV 2))
 (sSeq (sWhile (Mi.tOr (tB (eB eqD (eV 3) (eLst aNil))) (tB (eB neD (eV 4) (eV 2)))) (sSeq (sApp 3 0 (eV 4))
 (sSeq (sApp 3 1 (eCall zGO (aCons (eV 1) (aCons (eV 4) aNil))))
 (sSet 4 0 [0,3] (eB ixD (eV 0) (eB ixD (eV 3) (eU negD (eC (.int 1)))))))))
 (sRetV 9 3))))
def zHW:FM:=runF 3 5 zIL
def zH5:SM:=(sSeq (sSet 2 1 [] zWU)
 (sSeq (sSet 3 9 [] (eLst aNil))
 (sSeq (sForR (iR1 (aCons (eBi lenD (aCons (eV 0) aNil)) aNil)) 4 (sIf (tB (eB (dinD true) (eV 4) (eV 2))) (sSeq (sSet 5 9 [0,1,4] (eCall zHW (aCons (eV 0) (aCons (eV 1) (aCons (eV 4) aNil)))))
 (sSeq (sFor [5] (iSq (eV 5)) (.one 6) (zY4 2 (eV 6) (eC (.bl true))))
 (zUS 3 [5] (eV 5)))) sNil))
 (sRetV 1 3))))
def m__law_rounds:FM:=runF 2 7 zH5
def zH2:SM:=(sRet 0 0 [1,0] (eB xorD (eV 1) (eB addD (eV 0) (eC (.int 1)))))
def zBY:FM:=runF 2 2 zH2
def zIK:SM:=(sSeq (sSet 2 0 [1] (eB divD (eV 1) (eC (.int 4))))
 (sRet 1 1 [2,0,1] (eB addD (eB mulD (eV 2) (eC (.int 4))) (eCall zBY (aCons (eB ixD (eV 0) (eV 2)) (aCons (eB modD (eV 1) (eC (.int 4))) aNil))))))
def zED:FM:=runF 2 3 zIK
def zLW:SM:=(sSeq (sSet 3 1 [2,1] (eLst (aCons (eV 2) (aCons (eCall zED (aCons (eV 1) (aCons (eV 2) aNil))) aNil))))
 (sSeq (sWhile (tB (eB neD (eB ixD (eV 0) (eB ixD (eV 3) (eU negD (eC (.int 1))))) (eV 2))) (sSeq (sSet 4 0 [0,3] (eB ixD (eV 0) (eB ixD (eV 3) (eU negD (eC (.int 1))))))
 (sExt 3 0 (eLst (aCons (eV 4) (aCons (eCall zED (aCons (eV 1) (aCons (eV 4) aNil))) aNil))))))
 (sRetV 1 3)))
def zLK:FM:=runF 3 5 zLW
def zJL:SM:=(sSeq (sSet 2 9 [] (eLst aNil))
 (sSeq (sSet 3 1 [] zWU)
 (sSeq (sForR (iR1 (aCons (eBi lenD (aCons (eV 0) aNil)) aNil)) 4 (sIf (tB (eB (dinD true) (eV 4) (eV 3))) (sSeq (sSet 5 1 [0,1,4] (eCall zLK (aCons (eV 0) (aCons (eV 1) (aCons (eV 4) aNil)))))
 (sSeq (zUS 2 [5] (eV 5))
 (zY2 3 (eComp (iSq (eV 5)) 1 (.one 6) Mi.tYes (eTup (aCons (eV 6) (aCons (eC (.bl true)) aNil))))))) sNil))
 (sRetV 1 2))))
def m_rounds_of:FM:=runF 2 6 zJL
def zH8:SM:=(sRet 0 0 [] (zWT "Mirror"))
def m_Mirror_back:FM:=runF 1 1 zH8
def zIO:SM:=(sRet 0 0 [0] (eNew "Shift" ["by"] (aCons (eU negD (eFld ["Shift"] "by" (eV 0))) aNil)))
def m_Shift_back:FM:=runF 1 1 zIO
def zJR:SM:=(sRet 0 0 [0] (eNew "Swap" ["one","other"] (aCons (eFld ["Swap"] "one" (eV 0)) (aCons (eFld ["Swap"] "other" (eV 0)) aNil))))
def m_Swap_back:FM:=runF 1 1 zJR
def zJP:SM:=(sRet 0 0 [0] (eNew "Turn" ["letter"] (aCons (eFld ["Turn"] "letter" (eV 0)) aNil)))
def m_Turn_back:FM:=runF 1 1 zJP
def zH4:SM:=(sSeq (sIf (tM (eIsO ["Turn"] ["Change","Swap","Mirror","Shift"] (eV 0))) (sRet 1 1 [0] (eTup (aCons (eC (.str "turn")) (aCons (eFld ["Turn"] "letter" (eV 0)) aNil)))) sNil)
 (sSeq (sIf (tM (eIsO ["Swap"] ["Change","Turn","Mirror","Shift"] (eV 0))) (sRet 1 1 [0] (eTup (aCons (eC (.str "swap")) (aCons (eFld ["Swap"] "one" (eV 0)) (aCons (eFld ["Swap"] "other" (eV 0)) aNil))))) sNil)
 (sSeq (sIf (tM (eIsO ["Mirror"] ["Change","Turn","Swap","Shift"] (eV 0))) (sRet 1 1 [] (eTup (aCons (eC (.str "mirror")) aNil))) sNil)
 (sSeq (sIf (tM (eIsO ["Shift"] ["Change","Turn","Swap","Mirror"] (eV 0))) (sRet 1 1 [0] (eTup (aCons (eC (.str "shift")) (aCons (eFld ["Shift"] "by" (eV 0)) aNil)))) sNil)
 (sRet 1 1 [] (eTup (aCons (eC (.str "none")) aNil)))))))
def m__law_values:FM:=runF 1 1 zH4
def zFG:SM:=(sSeq (sSet 2 9 [] (eLst aNil))
 (sSeq (sForR (iR1 (aCons (eBi maxD (aCons (eV 1) (aCons (eBi minD (aCons (eC (.int 63)) (aCons (eBi lenD (aCons (eV 0) aNil)) aNil))) aNil))) aNil)) 3 (sSeq (sSet 4 1 [3] (eB addD (eB mulD (eC (.int 7)) (eV 3)) (eC (.int 3))))
 (sSeq (sIf (tB (eB (cmpD fun i j=>decide (j<i)) (eBi lenD (aCons (eV 0) aNil)) (eC (.int 0)))) (sSet 4 0 [0,3] (eB modD (eB ixD (eV 0) (eB modD (eV 3) (eBi lenD (aCons (eV 0) aNil)))) (eC (.int 1000003)))) sNil)
 (sSeq (sSet 5 0 [4,3] (eB modD (eB mulD (eB modD (eB addD (eB mulD (eB addD (eV 4) (eC (.int 1))) (eC (.int 48271))) (eB mulD (eB mulD (eV 3) (eV 3)) (eC (.int 7919)))) (eC (.int 1000000007))) (eC (.int 40692))) (eC (.int 2147483399))))
 (sApp 2 1 (eB addD (eB mulD (eV 5) (eC (.int 2147483647))) (eB modD (eB addD (eB mulD (eV 5) (eC (.int 69621))) (eV 3)) (eC (.int 2147483647)))))))))
 (sRetV 9 2)))
def zBD:FM:=runF 2 6 zFG
def zIM:SM:=(sSeq (sIf (Mi.tOr (tB (eB eqD (eBi lenD (aCons (eV 0) aNil)) (eC (.int 0)))) (tB (eB eqD (eB modD (eB ixD (eV 0) (eC (.int 0))) (eC (.int 2))) (eC (.int 0))))) (sRet 1 9 [0,1] (eCall zBD (aCons (eV 0) (aCons (eV 1) aNil)))) sNil)
 (sSeq (sSet 2 1 [0] (eComp (iSq (eSlZ (eV 0) oNo (oE (eC (.int 63))))) 1 (.one 3) Mi.tYes (eB modD (eV 3) (eB powD (eC (.int 10)) (eC (.int 60))))))
 (sRet 1 1 [2,1] (eB addD (eV 2) (eB repD (eLst (aCons (eC (.int 0)) aNil)) (eB subD (eV 1) (eBi lenD (aCons (eV 2) aNil))))))))
def zCR:FM:=runF 2 3 zIM
def zCG:SM:=(sSeq (sSet 2 1 [1] (eBi rangeD (aCons (eB mulD (eC (.int 4)) (eV 1)) aNil)))
 (sSeq (sSet 3 1 [1] (eB repD (eLst (aCons (eC (.int 0)) aNil)) (eB mulD (eC (.int 4)) (eV 1))))
 (sSeq (sForR (iR1 (aCons (eB mulD (eC (.int 2)) (eV 1)) aNil)) 4 (sSeq (sPop 5 2 (eC (.int 0)))
 (sSeq (sSet 6 0 [0,4] (eB divD (eB ixD (eV 0) (eB modD (eV 4) (eBi lenD (aCons (eV 0) aNil)))) (eB addD (eC (.int 1)) (eB divD (eV 4) (eBi lenD (aCons (eV 0) aNil))))))
 (sSeq (sPop 7 2 (eB modD (eV 6) (eBi lenD (aCons (eV 2) aNil))))
 (sSeq (sItem 3 0 (eV 5) (eV 7))
 (sItem 3 0 (eV 7) (eV 5)))))))
 (sRetV 1 3))))
def zBQ:FM:=runF 2 8 zCG
def zFE:SMM:=(mSeq (mLift (sSet 3 0 [0,1] (eB ixD (eVL 0) (eV 1))))
 (mSeq (mLift (sSet 4 0 [0,2] (eB ixD (eVL 0) (eV 2))))
 (mSeq (mLift (sItemL 0 0 (eV 1) (eC .non)))
 (mSeq (mLift (sItemL 0 0 (eV 2) (eC .non)))
 (mSeq (mIf (tB (eB eqD (eV 3) (eV 2))) (mRet (eC (.int 1))) (mLift sNil))
 (mSeq (mLift (sItemL 0 0 (eV 3) (eV 4)))
 (mSeq (mLift (sItemL 0 0 (eV 4) (eV 3)))
 (mRet (eC (.int 0))))))))))
def zAW:FW:=uniM (runM 0 3 5 0 1 zFE)
def zEG:SMM:=(mSeq (mLift (sSet 3 0 [] (eC (.int 0))))
 (mSeq (mLift (sForR (iR1 (aCons (eC (.int 4)) aNil)) 4 (sSeq (sSet 5 0 [2,4] (eCall zBY (aCons (eV 2) (aCons (eV 4) aNil))))
 (sIf (tB (eB (cmpD fun i j=>decide (i<j)) (eV 4) (eV 5))) (sAddW 3 0 1 (aCons (eB addD (eB mulD (eV 1) (eC (.int 4))) (eV 4)) (aCons (eB addD (eB mulD (eV 1) (eC (.int 4))) (eV 5)) aNil)) zAW) sNil))))
 (mRet (eV 3))))
def zB2:FW:=uniM (runM 0 3 6 0 1 zEG)
def zG5:SM:=(sRet 0 0 [1,0] (eIf (tB (eB (cmpD fun i j=>decide (i<j)) (eV 1) (eBi lenD (aCons (eV 0) aNil)))) (eB ixD (eV 0) (eV 1)) (eC (.int 0))))
def zBH:FM:=runF 2 2 zG5
def zKY:SM:=(sSeq (sSet 2 0 [0,1] (eBi maxD (aCons (eBi lenD (aCons (eV 0) aNil)) (aCons (eBi lenD (aCons (eV 1) aNil)) aNil))))
 (sRet 2 2 [0,1,2] (eComp (iR1 (aCons (eV 2) aNil)) 1 (.one 3) Mi.tYes (eB addD (eCall zBH (aCons (eV 0) (aCons (eV 3) aNil))) (eCall zBH (aCons (eV 1) (aCons (eV 3) aNil)))))))
def zCC:FM:=runF 2 3 zKY
def zCX:SM:=(sSeq (sSet 2 2 [] eDtt0)
 (sSeq (sFor [0] (iDk (eV 0)) (.one 3) (sFor [] (iSq (eC (.scr [0,1,2]))) (.one 4) (sSeq (sSet 5 1 [3] (eBi listD (aCons (eV 3) aNil)))
 (sSeq (sCallW 6 5 1 0 (aCons (eV 1) (aCons (eV 4) aNil)) zB2)
 (sTmpPut 7 2 2 (eTGet (eV 2) (eBi tupD (aCons (eV 5) aNil)) (eLst aNil)) (eBi tupD (aCons (eV 5) aNil)) (eCall zCC (aCons (eV 7) (aCons (eB addD (eB repD (eLst (aCons (eC (.int 0)) aNil)) (eV 6)) (eTIx (eV 0) (eV 3))) aNil))))))))
 (sRetV 2 2)))
def zAM:FM:=runF 2 8 zCX
def zFF:SM:=(sSeq (sIf (tB (eB (cmpD fun i j=>decide (j<i)) (eCallN zB1 (aCons (eV 0) aNil)) (eC (.int 6)))) (sRaise0 "TooMany" (aCons (eC (.str "counts are told of nets of at most six places")) aNil)) sNil)
 (sSeq (sSet 2 0 [1,0] (eIf (tB (eB isD (eV 1) (eC .non))) (eBi rangeD (aCons (eCallN zB1 (aCons (eV 0) aNil)) aNil)) (eV 1)))
 (sSeq (sSet 3 2 [0] (eTOne (eBi tupD (aCons (eV 0) aNil)) (eLst (aCons (eC (.int 1)) aNil))))
 (sSeq (sFor [2] (iSq (eV 2)) (.one 4) (sSet 3 2 [3,4] (eCallN zAM (aCons (eV 3) (aCons (eV 4) aNil)))))
 (sRetTIx 1 3 (eBi tupD (aCons (eComp (iSq (eV 0)) 1 (.one 5) Mi.tYes (eC .non)) aNil)))))))
def zB8:FM:=runF 2 5 zFF
def zBN:SM:=(sSeq (sSet 2 1 [1] (eBi rangeD (aCons (eB mulD (eC (.int 4)) (eV 1)) aNil)))
 (sSeq (sSet 3 1 [1] (eB repD (eLst (aCons (eC (.int 0)) aNil)) (eB mulD (eC (.int 4)) (eV 1))))
 (sSeq (sForR (iR1 (aCons (eB mulD (eC (.int 2)) (eV 1)) aNil)) 4 (sSeq (sPop 5 2 (eC (.int 0)))
 (sSeq (sPop 6 2 (eB modD (eV 0) (eBi lenD (aCons (eV 2) aNil))))
 (sSeq (sSet 0 0 [0,2] (eB divD (eV 0) (eB addD (eBi lenD (aCons (eV 2) aNil)) (eC (.int 1)))))
 (sSeq (sItem 3 0 (eV 5) (eV 6))
 (sItem 3 0 (eV 6) (eV 5)))))))
 (sRetV 1 3))))
def zAZ:FM:=runF 2 7 zBN
def zCY:SM:=(sSeq (sSet 2 1 [0] (eBi rangeD (aCons (eV 0) aNil)))
 (sSeq (sSet 3 9 [] (eLst aNil))
 (sSeq (sWhile (tB (eB (cmpD fun i j=>decide (j<i)) (eBi lenD (aCons (eV 2) aNil)) (eC (.int 0)))) (sSeq (sAppPop 3 2 (eB modD (eV 1) (eBi lenD (aCons (eV 2) aNil))))
 (sSet 1 0 [1,2] (eB divD (eV 1) (eB addD (eBi lenD (aCons (eV 2) aNil)) (eC (.int 1)))))))
 (sRetV 9 3))))
def zBK:FM:=runF 2 4 zCY
def zP1:SM:=(sSeq (sSet 1 1 [0] (eCall zCR (aCons (eV 0) (aCons (eC (.int 16)) aNil))))
 (sSeq (sSet 2 1 [1] (eB addD (eC (.int 1)) (eB modD (eB divD (eB ixD (eV 1) (eC (.int 0))) (eC (.int 2))) (eC (.int 6)))))
 (sSeq (sSet 3 1 [2,1] (eCall zBQ (aCons (eSl (eV 1) (oE (eC (.int 4))) oNo) (aCons (eV 2) aNil))))
 (sSeq (sIf (tAn (tB (eB (cmpD fun i j=>decide (j<i)) (eBi lenD (aCons (eV 0) aNil)) (eC (.int 0)))) (tB (eB eqD (eB modD (eB ixD (eV 0) (eC (.int 0))) (eC (.int 2))) (eC (.int 1))))) (sSet 3 1 [2,1] (eCall zAZ (aCons (eB ixD (eV 1) (eC (.int 4))) (aCons (eV 2) aNil)))) sNil)
 (sSeq (sSet 4 1 [3] (eCallD zB8 (aCons (eV 3) aNil)))
 (sSeq (sIf (Mi.tOr (tNo (tM (eIsi "list" (eV 4)))) (Mi.tOr (tNo (tM (eCall zBP (aCons (eV 4) (aCons (eBi listD (aCons (eV 4) aNil)) aNil))))) (tB (eB neD (eBi sumD (aCons (eV 4) aNil)) (eB ixD (eLst (aCons (eC (.int 1)) (aCons (eC (.int 3)) (aCons (eC (.int 9)) (aCons (eC (.int 27)) (aCons (eC (.int 81)) (aCons (eC (.int 243)) (aCons (eC (.int 729)) aNil)))))))) (eV 2)))))) (sRet 0 0 [] (eC (.bl false))) sNil)
 (sSeq (sIf (Mi.tOr (tB (eB (cmpD fun i j=>decide (i<j)) (eBi minL (aCons (eV 4) aNil)) (eC (.int 0)))) (Mi.tOr (tB (eB neD (eB ixD (eV 4) (eC (.int 0))) (eC (.int 0)))) (tB (eB eqD (eB ixD (eV 4) (eU negD (eC (.int 1)))) (eC (.int 0)))))) (sRet 0 0 [] (eC (.bl false))) sNil)
 (sSeq (sSet 5 1 [2,1] (eB addD (eComp (iR2 (aCons (eC (.int 1)) (aCons (eC (.int 4)) aNil))) 1 (.one 8) Mi.tYes (eCall zBK (aCons (eV 2) (aCons (eB ixD (eV 1) (eV 8)) aNil)))) (eLst (aCons (eBi rvrD (aCons (eV 2) aNil)) aNil))))
 (sSeq (sIf (tB (eB (cmpD fun i j=>decide (j<i)) (eV 2) (eC (.int 5)))) (sSet 5 1 [5,1] (eLst (aCons (eB ixD (eV 5) (eB modD (eB ixD (eV 1) (eC (.int 1))) (eC (.int 4)))) aNil))) sNil)
 (sSeq (sFor [5] (iSq (eV 5)) (.one 6) (sSeq (sSet 7 1 [6] (eBi listD (aCons (eV 6) aNil)))
 (sIf (Mi.tOr (tNo (tM (eCall zBP (aCons (eCall zB8 (aCons (eV 3) (aCons (eV 7) aNil))) (aCons (eV 4) aNil))))) (tB (eB neD (eV 7) (eV 6)))) (sRet 0 0 [] (eC (.bl false))) sNil)))
 (sRet 0 0 [] (eC (.bl true)))))))))))))
def zHV:FM:=runF 1 8 zP1
end
end Mp
namespace Mp
open Mi PySem
theorem bx4:∀s:Nat,s<4->∀w:Nat,w<3->qJ1 (s:Int) ((w:Int)+1)=((s^^^(w+1):Nat):Int):=by decide
theorem zJ7{w s:Nat}(hw:w<3)(hs:s<4):zBY [.int (w:Int),.int (s:Int)]=okR (.int ((s^^^(w+1):Nat):Int)):=by
 refine zD7 rfl ?_;show zH2 [some (.int (w:Int),0),some (.int (s:Int),0)]=_;unfold zH2;simp[bx4 s hs w hw]
noncomputable def oD:Option Nat->Dt
 |none=>.non
 |some k=>.int (k:Nat)
abbrev tyR(t:Ty):List Dt:=t.map oD
theorem zKQ(o:Option Nat):(oD o).dep=0:=by cases o<;>rfl
theorem zJF:∀t:Ty,Dt.depL (tyR t)=0
 |[]=>rfl
 |o::r=>by show Dt.depL (oD o::tyR r)=0;rw[Dt.depL,zKQ,zJF r];rfl
theorem zX1(t:Ty):(Dt.lst (tyR t)).dep=1/\(Dt.tup (tyR t)).dep=1:=⟨by rw[Dt.dep,zJF],by rw[Dt.dep,zJF]⟩
theorem zWF{t:Ty}{a:Nat}(h:a<t.length):ixD (.lst (tyR t)) (.int (a:Int))=some (oD (t.getD a none)):=by
 show itA (tyR t) (a:Int)=_;refine zFZ (j:=a) rfl ?_;simp[h]
theorem zUO(t:Ty)(a:Nat)(o:Option Nat):(tyR t).set a (oD o)=tyR (t.set a o):=by
 show(t.map oD).set a (oD o)=(t.set a o).map oD
 rw[qEh]
theorem mnx{s:SM}{m:SMM}{ρ ρ':Ro}(h:s ρ=okR (.nx ρ')):mSeq (mLift s) m ρ=m ρ':=by
 unfold mSeq mLift;rw[h];rfl
theorem zQ6{i n k p:Nat}{e1 e2:EM}{t:Ty}{ρ:Ro}{a:Nat}{o:Option Nat}(hr:ρ[i]?=some (some (.loc p (.lst (tyR t)),k+2)))(h2:e2 (full ρ)=okR (oD o))(h1:e1 (full ρ)=okR (.int (a:Int)))(ha:a<t.length) :
  sItemL i n e1 e2 ρ=okR (.nx (ρ.set i (some (.loc p (.lst (tyR (t.set a o))),k+2)))):=by
 unfold sItemL;rw[h2,zA0,hr];dsimp only;rw[h1,zA0];dsimp only;rw[zKI (n:=(tyR t).length) (by omega) (by simpa using ha)];dsimp only;rw[zKQ,if_pos ⟨qAt _,qAt _⟩]
 have:(a:Int).toNat=a:=rfl
 rw[this,zUO]
theorem eqo(o:Option Nat)(b:Nat):eqD (oD o) (.int (b:Int))=some (.bl (decide (o=some b))):=by
 cases o with
 |none=>simp[oD,eqD,Dt.dep,Dt.eq]
 |some a=>
  simp[oD,eqD,Dt.dep,Dt.eq];omega
theorem mend{l:Nat}{ρ:Ro}{X d:Dt}{e:EM}(h0:ρ[0]?=some (some (.loc l X,2)))(he:e (full ρ)=okR d)(hd:d.dep=0):zA1 (mRet e ρ) (endM 0 0 1 l)=okR (d,X):=by
 unfold mRet;rw[he,zA0,if_pos hd,zA0];unfold endM heldAt;dsimp only;rw[h0];dsimp only;rw[if_pos ⟨rfl,rfl⟩];rfl
theorem zFK{M:Nat}{t:Ty}{a b far near:Nat}(h:Mt M t)(ha:t.getD a none=some far)(hb:t.getD b none=some near)(hab:a≠b):zAW [.lst (tyR t),.int (a:Int),.int (b:Int)]=okR (.int ((jE t a b).2:Int),.lst (tyR (jE t a b).1)):=by
 have la:=h.lt ha;have lb:=h.lt hb;have lf:=(h.inv a far ha).1;have ln:=(h.inv b near hb).1;have hl:=h.len;refine zM3 fun l=>?_
 unfold runM;rw[if_pos ⟨rfl,by decide⟩];have e0:startM 5 0 1 l [.lst (tyR t),.int (a:Int),.int (b:Int)]=[some (.loc l (.lst (tyR t)),2),some (.int (a:Int),0),some (.int (b:Int),0),none,none]:=rfl;rw[e0];unfold zFE;rw[mnx (ρ':=[some (.loc l (.lst (tyR t)),2),some (.int (a:Int),0),some (.int (b:Int),0),some (oD (some far),0),none]) (ss (b2 rfl rfl (by rw[zWF (by omega),ha])) (qEj (zKQ _)))];rw[mnx (ρ':=[some (.loc l (.lst (tyR t)),2),some (.int (a:Int),0),some (.int (b:Int),0),some (oD (some far),0),some (oD (some near),0)]) (ss (b2 rfl rfl (by rw[zWF (by omega),hb])) (qEj (zKQ _)))];rw[mnx (zQ6 (o:=none) (t:=t) (k:=0) rfl rfl rfl (by omega))];rw[mnx (zQ6 (o:=none) (t:=t.set a none) (k:=0) rfl rfl rfl (by simp;omega))];have tb:tB (eB eqD (eV 3) (eV 2)) (full [some (.loc l (.lst (tyR ((t.set a none).set b none))),2),some (.int (a:Int),0),some (.int (b:Int),0),some (oD (some far),0),some (oD (some near),0)])=okR (decide (some far=some b)):=tb1 (b2 (d1:=oD (some far)) (d2:=.int (b:Int)) rfl rfl (eqo (some far) b));have j:=zJ9 h ha hb hab
 by_cases z:far=b
 ·have e1:jE t a b=((t.set a none).set b none,1):=by unfold jE;rw[ha];exact if_pos z
  rw[e1];unfold mSeq mIf;dsimp only[List.set];rw[tb,zA0,if_pos (by simp[z])];show zA1 (mRet (eC (.int 1)) _) _=_;exact mend rfl rfl rfl
 ·have e1:jE t a b=((((t.set a none).set b none).set far (some near)).set near (some far),0):=by unfold jE;rw[ha,hb];exact if_neg z
  rw[e1];have em:∀m:SMM,mSeq (mIf (tB (eB eqD (eV 3) (eV 2))) (mRet (eC (.int 1))) (mLift sNil)) m ([some (.loc l (.lst (tyR ((t.set a none).set b none))),2),some (.int (a:Int),0),some (.int (b:Int),0),some (oD (some far),0),some (oD (some near),0)])=m ([some (.loc l (.lst (tyR ((t.set a none).set b none))),2),some (.int (a:Int),0),some (.int (b:Int),0),some (oD (some far),0),some (oD (some near),0)]):=fun m=>by
   unfold mSeq mIf;rw[tb,zA0,if_neg (by simp[z])];rfl
  dsimp only[List.set];rw[em];rw[mnx (zQ6 (o:=some near) (t:=(t.set a none).set b none) (a:=far) (k:=0) rfl rfl rfl (by simp;omega))];rw[mnx (zQ6 (o:=some far) (t:=((t.set a none).set b none).set far (some near)) (a:=near) (k:=0) rfl rfl rfl (by simp;omega))];exact mend rfl rfl rfl
theorem addW{M:Nat}{t:Ty}{a b far near l c:Nat}{s:Int}{ρ:Ro}{e1 e2:EM}(h:Mt M t)(ha:t.getD a none=some far)(hb:t.getD b none=some near)(hab:a≠b)(h0:ρ[0]?=some (some (.loc l (.lst (tyR t)),2)))(h3:ρ[3]?=some (some (.int s,c)))
  (q1:e1 (frz ρ)=okR (.int (a:Int))) (q2:e2 (frz ρ)=okR (.int (b:Int))):sAddW 3 0 1 (aCons e1 (aCons e2 aNil)) zAW ρ=okR (.nx ((ρ.set 0 (some (.loc l (.lst (tyR (jE t a b).1)),2))).set 3 (some (.int (s+(jE t a b).2),0)))):=by
 unfold sAddW;rw[h0,h3];dsimp only;rw[if_pos ⟨rfl,by decide⟩,zBB,q1,zA0,zBB,q2,zA0,zCH,zA0,zA0,zA0,zFK h ha hb hab,zA0]
theorem zP4:∀w,w<3->∀s,s<4->(s<(s^^^(w+1))↔s=0\/s=sa9 w)/\(s=0->(s^^^(w+1))=w+1)/\(s=sa9 w->(s^^^(w+1))=sb9 w):=by decide
theorem zF4{M:Nat}{t:Ty}{p w:Nat}(h:Mt M t)(hal:∀s,s<4->t.getD (4*p+s) none≠none)(hw:w<3):zB2 [.lst (tyR t),.int (p:Int),.int (w:Int)]=okR (.int ((jP t p w).2:Int),.lst (tyR (jP t p w).1)):=by
 obtain⟨a1,a2,a3,a4,a5,a6,a7,a8⟩:=zIW w hw;have some_of:∀{o:Option Nat},o≠none->∃f,o=some f:=fun{o} ho=>by cases o with|none=>exact absurd rfl ho|some f=>exact⟨f,rfl⟩
 obtain⟨f,hf⟩:=some_of (hal 0 (by omega));obtain⟨g,hg⟩:=some_of (hal (w+1) (by omega));rw[qHd]at hf;have n1:4*p≠4*p+(w+1):=by omega
 have m1:=zT8 h hf hg n1;have d1:=zJ8 h hf hg n1;have al:∀s,s<4->s≠0->s≠w+1->(jE t (4*p) (4*p+(w+1))).1.getD (4*p+s) none≠none:=fun s hs h0 h1 z=>by
  rcases(d1 _).mp z with z|z|z
  ·omega
  ·omega
  ·exact hal s hs z
 obtain⟨f',hf'⟩:=some_of (al (sa9 w) a1 a4 a6);obtain⟨g',hg'⟩:=some_of (al (sb9 w) a2 a5 a7);have n2:4*p+sa9 w≠4*p+sb9 w:=by omega
 refine zM3 fun l=>?_
 unfold runM;rw[if_pos ⟨rfl,by decide⟩];have e0:startM 6 0 1 l [.lst (tyR t),.int (p:Int),.int (w:Int)]=[some (.loc l (.lst (tyR t)),2),some (.int (p:Int),0),some (.int (w:Int),0),none,none,none]:=rfl;rw[e0];unfold zEG;rw[mnx (ρ':=[some (.loc l (.lst (tyR t)),2),some (.int (p:Int),0),some (.int (w:Int),0),some (.int 0,0),none,none]) rfl]
 let T:Nat->Ty:=fun k=>if k=0 then t else if k<=sa9 w then(jE t (4*p) (4*p+(w+1))).1 else(jP t p w).1
 let Cn:Nat->Nat:=fun k=>if k=0 then 0 else if k<=sa9 w then(jE t (4*p) (4*p+(w+1))).2 else(jP t p w).2
 have hbody:∀(j:Nat)(d:Dt)(r:Ro),(nums 0 4)[j]?=some d->(∃x y,r=[some (.loc l (.lst (tyR (T (0+j)))),2),some (.int (p:Int),0),some (.int (w:Int),0),some (.int (Cn (0+j):Int),0),x,y]) ->
   ∃bs r',zAN (.one 4) d=some bs/\(sSeq (sSet 5 0 [2,4] (eCall zBY (aCons (eV 2) (aCons (eV 4) aNil)))) (sIf (tB (eB (cmpD fun i j=>decide (i<j)) (eV 4) (eV 5))) (sAddW 3 0 1 (aCons (eB addD (eB mulD (eV 1) (eC (.int 4))) (eV 4)) (aCons (eB addD (eB mulD (eV 1) (eC (.int 4))) (eV 5)) aNil)) zAW) sNil)) (zAQ r bs)=okR (.nx r')/\∃x y,r'=[some (.loc l (.lst (tyR (T (0+j+1)))),2),some (.int (p:Int),0),some (.int (w:Int),0),some (.int (Cn (0+j+1):Int),0),x,y]:=by
  rintro s d r hd ⟨x,y,rfl⟩
  rw[zCA,qAe]at hd;have hs:s<4:=by
   cases hq:(qA7 4)[s]? with
   |none=>rw[hq]at hd;cases hd
   |some q=>simpa using(qA4.mp hq).1
  have hd':d=.int (s:Int):=by
   rw[qEx hs]at hd;simp at hd;exact hd.symm
  subst hd';rw[qBp];refine⟨[(4,.int (s:Int))],?_⟩;obtain⟨x1,x2,x3⟩:=zP4 w hw s hs;have hset:zAQ [some (.loc l (.lst (tyR (T s))),2),some (.int (p:Int),0),some (.int (w:Int),0),some (.int (Cn s:Int),0),x,y] [(4,.int (s:Int))]=[some (.loc l (.lst (tyR (T s))),2),some (.int (p:Int),0),some (.int (w:Int),0),some (.int (Cn s:Int),0),some (.int (s:Int),0),y]:=rfl;rw[hset];have hst:∀{X:R Out},(sIf (tB (eB (cmpD fun i j=>decide (i<j)) (eV 4) (eV 5))) (sAddW 3 0 1 (aCons (eB addD (eB mulD (eV 1) (eC (.int 4))) (eV 4)) (aCons (eB addD (eB mulD (eV 1) (eC (.int 4))) (eV 5)) aNil)) zAW) sNil) [some (.loc l (.lst (tyR (T s))),2),some (.int (p:Int),0),some (.int (w:Int),0),some (.int (Cn s:Int),0),some (.int (s:Int),0),some (.int ((s^^^(w+1):Nat):Int),0)]=X->(sSeq (sSet 5 0 [2,4] (eCall zBY (aCons (eV 2) (aCons (eV 4) aNil)))) (sIf (tB (eB (cmpD fun i j=>decide (i<j)) (eV 4) (eV 5))) (sAddW 3 0 1 (aCons (eB addD (eB mulD (eV 1) (eC (.int 4))) (eV 4)) (aCons (eB addD (eB mulD (eV 1) (eC (.int 4))) (eV 5)) aNil)) zAW) sNil)) [some (.loc l (.lst (tyR (T s))),2),some (.int (p:Int),0),some (.int (w:Int),0),some (.int (Cn s:Int),0),some (.int (s:Int),0),y]=X:=fun hX=>sg (c2 rfl rfl (zJ7 hw hs)) (qA6 0) hX
  have cmp:tB (eB (cmpD fun i j=>decide (i<j)) (eV 4) (eV 5)) (full [some (.loc l (.lst (tyR (T s))),2),some (.int (p:Int),0),some (.int (w:Int),0),some (.int (Cn s:Int),0),some (.int (s:Int),0),some (.int ((s^^^(w+1):Nat):Int),0)])=okR (decide ((s:Int)<((s^^^(w+1):Nat):Int))):=tb1 (b2 rfl rfl rfl)
  by_cases hlt:s<(s^^^(w+1))
  ·have go:∀{a b far near:Nat}{t0:Ty},Mt M t0->T s=t0->a=4*p+s->b=4*p+(s^^^(w+1))->t0.getD a none=some far->t0.getD b none=some near->a≠b->T (s+1)=(jE t0 a b).1->Cn (s+1)=Cn s+(jE t0 a b).2 ->
     ∃r',zAN (.one 4) (.int (s:Int))=some [(4,.int (s:Int))]/\(sSeq (sSet 5 0 [2,4] (eCall zBY (aCons (eV 2) (aCons (eV 4) aNil)))) (sIf (tB (eB (cmpD fun i j=>decide (i<j)) (eV 4) (eV 5))) (sAddW 3 0 1 (aCons (eB addD (eB mulD (eV 1) (eC (.int 4))) (eV 4)) (aCons (eB addD (eB mulD (eV 1) (eC (.int 4))) (eV 5)) aNil)) zAW) sNil)) [some (.loc l (.lst (tyR (T s))),2),some (.int (p:Int),0),some (.int (w:Int),0),some (.int (Cn s:Int),0),some (.int (s:Int),0),y]=okR (.nx r')/\∃x y,r'=[some (.loc l (.lst (tyR (T (s+1)))),2),some (.int (p:Int),0),some (.int (w:Int),0),some (.int (Cn (s+1):Int),0),x,y]:=by
    intro a b far near t0 hM hTs ea eb qa qb qab hT1 hC1;refine⟨_,rfl,hst ?_,some (.int (s:Int),0),some (.int ((s^^^(w+1):Nat):Int),0),rfl⟩;have hmul:∀(v:Int)(q:Nat)(z:EM)(ρ:Rh),z ρ=okR (.int v)->ρ[1]?=some (some (.int (p:Int)))->v=(q:Int)->eB addD (eB mulD (eV 1) (eC (.int 4))) z ρ=okR (.int ((4*p+q:Nat):Int)):=fun v q z ρ hz h1 hv=>by
     have e1:eV 1 ρ=okR (.int (p:Int)):=by unfold eV;rw[h1]
     refine b2 (b2 e1 rfl (d:=.int ((p:Int)*4)) ?_) hz ?_
     ·show mulD _ _=_;unfold mulD;dsimp only;rw[if_pos (.inl (.inr ⟨by decide,by decide⟩))]
     ·show some (Dt.int ((p:Int)*4+v))=_;rw[hv]
      congr 2
      push_cast
      omega
    have hadd:=addW (l:=l) (s:=(Cn s:Int)) (c:=0) (ρ:=[some (.loc l (.lst (tyR t0)),2),some (.int (p:Int),0),some (.int (w:Int),0),some (.int (Cn s:Int),0),some (.int (s:Int),0),some (.int ((s^^^(w+1):Nat):Int),0)]) (e1:=eB addD (eB mulD (eV 1) (eC (.int 4))) (eV 4)) (e2:=eB addD (eB mulD (eV 1) (eC (.int 4))) (eV 5)) hM qa qb qab rfl rfl (by rw[ea];exact hmul _ s _ _ rfl rfl rfl) (by rw[eb];exact hmul _ (s^^^(w+1)) _ _ rfl rfl rfl);rw[zL2,cmp,zA0,if_pos (by simpa using(by exact_mod_cast hlt:(s:Int)<((s^^^(w+1):Nat):Int)))];rw[hTs,hadd,hT1,hC1];simp
   rcases x1.mp hlt with z|z
   ·refine go (a:=4*p) (b:=4*p+(w+1)) (t0:=t) h (by show(if s=0 then _ else _)=_;rw[if_pos z]) (by omega) (by rw[x2 z]) hf hg n1 ?_ ?_
    ·show(if s+1=0 then _ else if s+1<=sa9 w then _ else _)=_
     rw[if_neg (by omega),if_pos (by omega)]
    ·show(if s+1=0 then _ else if s+1<=sa9 w then _ else _)=(if s=0 then _ else _)+_
     rw[if_neg (by omega),if_pos (by omega),if_pos z,qBp]
   ·have s0:s≠0:=by omega
    refine go (a:=4*p+sa9 w) (b:=4*p+sb9 w) (t0:=(jE t (4*p) (4*p+(w+1))).1) m1 (by show(if s=0 then _ else if s<=sa9 w then _ else _)=_;rw[if_neg s0,if_pos (by omega)]) (by rw[z]) (by rw[x3 z]) hf' hg' n2 ?_ ?_
    ·show(if s+1=0 then _ else if s+1<=sa9 w then _ else _)=_
     rw[if_neg (by omega),if_neg (by omega)];rfl
    ·show(if s+1=0 then _ else if s+1<=sa9 w then _ else _)=(if s=0 then _ else if s<=sa9 w then _ else _)+_
     rw[if_neg (by omega),if_neg (by omega),if_neg s0,if_pos (by omega)];rfl
  ·have hn1:s≠0/\s≠sa9 w:=⟨fun z=>hlt (x1.mpr (.inl z)),fun z=>hlt (x1.mpr (.inr z))⟩
   refine⟨_,rfl,hst (sf (cmp.trans (by rw[decide_eq_false (by omega)]))),some (.int (s:Int),0),some (.int ((s^^^(w+1):Nat):Int),0),?_⟩;have eT:T (s+1)=T s:=by
    show(if s+1=0 then _ else if s+1<=sa9 w then _ else _)=(if s=0 then _ else if s<=sa9 w then _ else _)
    rw[if_neg (by omega),if_neg hn1.1]
    by_cases q:s<=sa9 w
    ·rw[if_pos (by omega),if_pos q]
    ·rw[if_neg (by omega),if_neg q]
   have eC':Cn (s+1)=Cn s:=by
    show(if s+1=0 then _ else if s+1<=sa9 w then _ else _)=(if s=0 then _ else if s<=sa9 w then _ else _)
    rw[if_neg (by omega),if_neg hn1.1]
    by_cases q:s<=sa9 w
    ·rw[if_pos (by omega),if_pos q]
    ·rw[if_neg (by omega),if_neg q]
   rw[eT,eC']
 obtain⟨r,hr,x,y,hx⟩:=zE3 (fun k r=>∃x y,r=[some (.loc l (.lst (tyR (T k))),2),some (.int (p:Int),0),some (.int (w:Int),0),some (.int (Cn k:Int),0),x,y]) (nums 0 4) 0 [some (.loc l (.lst (tyR t)),2),some (.int (p:Int),0),some (.int (w:Int),0),some (.int 0,0),none,none] ⟨none,none,rfl⟩ hbody
 ·have hlen:0+(nums 0 4).length=4:=rfl;rw[hlen]at hx;have hT4:T 4=(jP t p w).1:=by show(if(4:Nat)=0 then _ else if 4<=sa9 w then _ else _)=_;rw[if_neg (by decide),if_neg (by omega)]
  have hC4:Cn 4=(jP t p w).2:=by show(if(4:Nat)=0 then _ else if 4<=sa9 w then _ else _)=_;rw[if_neg (by decide),if_neg (by omega)]
  rw[hT4,hC4]at hx;have hR:sForR (iR1 (aCons (eC (.int 4)) aNil)) 4 (sSeq (sSet 5 0 [2,4] (eCall zBY (aCons (eV 2) (aCons (eV 4) aNil)))) (sIf (tB (eB (cmpD fun i j=>decide (i<j)) (eV 4) (eV 5))) (sAddW 3 0 1 (aCons (eB addD (eB mulD (eV 1) (eC (.int 4))) (eV 4)) (aCons (eB addD (eB mulD (eV 1) (eC (.int 4))) (eV 5)) aNil)) zAW) sNil)) [some (.loc l (.lst (tyR t)),2),some (.int (p:Int),0),some (.int (w:Int),0),some (.int 0,0),none,none]=okR (.nx r):=by
   unfold sForR
   have:iR1 (aCons (eC (.int 4)) aNil) (full [some (.loc l (.lst (tyR t)),2),some (.int (p:Int),0),some (.int (w:Int),0),some (.int 0,0),none,none])=okR (nums 0 4):=by simp[iR1]
   rw[this,zA0];exact hr
  rw[mnx hR,hx];exact mend rfl rfl rfl
theorem zDT(ls:List Int)(k:Nat)(hl:ls.length<=1000):zBH [rowD ls,.int (k:Int)]=okR (.int (ls.getD k 0)):=by
 have hlen:lenD [rowD ls]=some (.int (ls.length:Int)):=by simp[rowD,lenD]
 unfold zBH zG5 runF;rw[if_pos (show([_,_]:List Dt).length=2 from rfl)];have key:eIf (tB (eB (cmpD fun i j=>decide (i<j)) (eV 1) (eBi lenD (aCons (eV 0) aNil)))) (eB ixD (eV 0) (eV 1)) (eC (.int 0)) (full (startO 2 [rowD ls,.int (k:Int)]))=okR (.int (ls.getD k 0)):=by
  unfold eIf;rw[tb1 (b2 (d1:=.int (k:Int)) (d2:=.int (ls.length:Int)) rfl (bi1 rfl hlen) rfl),zA0]
  by_cases h:k<ls.length
  ·rw[if_pos (by simpa using(by exact_mod_cast h:(k:Int)<ls.length))];refine b2 (d1:=rowD ls) (d2:=.int (k:Int)) rfl rfl ?_;show itA (ls.map Dt.int) (k:Int)=_;refine zFZ (j:=k) rfl ?_;simp[h]
  ·rw[if_neg (by simpa using h)];simp[h]
 rw[sr key ⟨qAt _,qAt _⟩,zA0];rfl
theorem zIU{a b:List Int}(ha:a.length<=1000)(hb:b.length<=1000):zCC [rowD a,rowD b]=okR (rowD (sumL a b)):=by
 unfold zCC zKY runF;rw[if_pos (show([_,_]:List Dt).length=2 from rfl)];have e0:startO 3 [rowD a,rowD b]=[some (rowD a,0),some (rowD b,0),none]:=rfl;have hmx:maxD [.int (a.length:Int),.int (b.length:Int)]=some (.int ((max a.length b.length:Nat):Int)):=by
  show some (Dt.int (if(b.length:Int)>a.length then(b.length:Int)else a.length))=_
  congr 2
  split<;>omega
 rw[e0,sg (bi2 (bi1 (d1:=rowD a) (d:=.int (a.length:Int)) rfl (by simp[rowD,lenD])) (bi1 (d1:=rowD b) (d:=.int (b.length:Int)) rfl (by simp[rowD,lenD])) hmx) (qA6 0) rfl];have hdep:(rowD (sumL a b)).dep<=2:=by
  show Dt.depL ((sumL a b).map Dt.int)+1<=2
  have:∀l:List Int,Dt.depL (l.map Dt.int)=0:=fun l=>by
   induction l with
   |nil=>rfl
   |cons x r ih=>show max 0 (Dt.depL (r.map Dt.int))=0;rw[ih];rfl
  rw[this];omega
 have hc:eComp (iR1 (aCons (eV 2) aNil)) 1 (.one 3) Mi.tYes (eB addD (eCall zBH (aCons (eV 0) (aCons (eV 3) aNil))) (eCall zBH (aCons (eV 1) (aCons (eV 3) aNil)))) (full [some (rowD a,0),some (rowD b,0),some (.int ((max a.length b.length:Nat):Int),0)])=okR (rowD (sumL a b)):=by
  unfold eComp;have hi:iR1 (aCons (eV 2) aNil) (full [some (rowD a,0),some (rowD b,0),some (.int ((max a.length b.length:Nat):Int),0)])=okR (nums 0 (max a.length b.length)):=by
   unfold iR1;rw[zBB,show eV 2 (full [some (rowD a,0),some (rowD b,0),some (.int ((max a.length b.length:Nat):Int),0)])=okR (.int ((max a.length b.length:Nat):Int)) from rfl,zA0,zCH,zA0,zA0];dsimp only;rw[if_pos ⟨by omega,by omega⟩];rfl
  rw[hi,zA0,if_pos ⟨by simp[nums];omega,by rfl⟩];rw[zGY (f:=fun d=>match d with | .int i=>.int (a.getD i.toNat 0+b.getD i.toNat 0)|_=>.non) _ _ fun d hd=>?_,zA0]
  ·congr 1
   unfold rowD sumL;rw[qCe,zCA,qAo,qAo];rfl
  ·rw[zCA]at hd;obtain⟨k,hk,rfl⟩:=qAb.mp hd;refine⟨_,rfl,rfl,?_⟩;exact b2 (c2 (d1:=rowD a) (d2:=.int (k:Int)) rfl rfl (zDT a k ha)) (c2 (d1:=rowD b) (d2:=.int (k:Int)) rfl rfl (zDT b k hb)) rfl
 have e9:[some (rowD a,0),some (rowD b,0),none].set 2 (some (Dt.int ((max a.length b.length:Nat):Int),0))=[some (rowD a,0),some (rowD b,0),some (.int ((max a.length b.length:Nat):Int),0)]:=rfl;rw[e9,sr hc ⟨hdep,hdep⟩,zA0];rfl
noncomputable def oS:Option Nat->Sw
 |none=>.non
 |some k=>.int (k:Nat)
abbrev kSw(t:Ty):List Sw:=t.map oS
abbrev keyA(L:Ad):List (List Sw):=L.map fun q=>kSw q.1
abbrev valA(L:Ad):List Dt:=L.map fun q=>rowD (hst q.2)
abbrev dctA(L:Ad):Dt:=.dtt (keyA L) (valA L)
theorem zR2:∀t:Ty,swsD (tyR t)=some (kSw t)
 |[]=>rfl
 |o::r=>by
  show swsD (oD o::tyR r)=_;unfold swsD;rw[zR2 r];cases o<;>rfl
theorem zNN(t:Ty):kyU (.tup (tyR t))=some (kSw t):=zR2 t
theorem zW2{a b:Option Nat}(h:kNo (oS a)=kNo (oS b)):a=b:=by
 cases a<;>cases b
 ·rfl
 ·cases h
 ·cases h
 ·rename_i x y
  have:(x:Int)=y:=by simpa[kNo,oS]using h
  have:x=y:=by omega
  rw[this]
theorem zNP:∀{s t:Ty},kNs (kSw s)=kNs (kSw t)->s=t
 |[],[],_=>rfl
 |[],_::_,h=>by simp at h
 |_::_,[],h=>by simp at h
 |a::s,b::t,h=>by
  simp only[qAj,qG3]at h;rw[zW2 h.1,zNP h.2]
noncomputable def findA:Ad->Ty->Option (List Nat)
 |[],_=>none
 |q::r,k=>if q.1=k then some q.2 else findA r k
theorem zK7(q:List Sw)(ks:List (List Sw))(k:List Sw):posT (q::ks) k=if kNs q=kNs k then some 0 else(posT ks k).map (·+1):=by
 unfold posT;rw[qF7]
 by_cases h:kNs q=kNs k
 ·simp[h]
 ·simp[h]
theorem zQD(k:Ty):∀L:Ad,getT (keyA L) (valA L) (kSw k)=(findA L k).map fun ys=>rowD (hst ys)
 |[]=>rfl
 |q::r=>by
  have ih:=zQD k r;unfold getT at ih ⊢;rw[show keyA (q::r)=kSw q.1::keyA r from rfl,zK7,findA]
  by_cases h:q.1=k
  ·rw[if_pos (by rw[h]),if_pos h];rfl
  ·rw[if_neg fun z=>h (zNP z),if_neg h,<- ih];cases posT (keyA r) (kSw k)<;>rfl
theorem zSM(k:Ty)(xs:List Nat):∀L:Ad,putKs (keyA L) (kSw k)=keyA (putA L k xs)/\putDs (keyA L) (valA L) (kSw k) (rowD (hst ((findA L k).getD []++xs)))=valA (putA L k xs)
 |[]=>⟨rfl,rfl⟩
 |q::r=>by
  obtain⟨i1,i2⟩:=zSM k xs r;unfold putKs at i1;unfold putDs at i2;unfold putKs putDs;rw[show keyA (q::r)=kSw q.1::keyA r from rfl,zK7,findA]
  by_cases h:q.1=k
  ·have e:putA (q::r) k xs=(q.1,q.2++xs)::r:=by rw[putA,if_pos h]
   rw[if_pos (by rw[h]),if_pos h,e];exact⟨rfl,rfl⟩
  ·have e:putA (q::r) k xs=q::putA r k xs:=by rw[putA,if_neg h]
   rw[if_neg fun z=>h (zNP z),if_neg h,e];cases ep:posT (keyA r) (kSw k)with
   |none=>
    rw[ep]at i1 i2;dsimp only[qGy]at i1 i2 ⊢;exact⟨congrArg (qDp (kSw q.1)) i1,congrArg (qDp (rowD (hst q.2))) i2⟩
   |some j=>
    rw[ep]at i1 i2;dsimp only[qGy]at i1 i2 ⊢;exact⟨congrArg (qDp (kSw q.1)) i1,congrArg (qDp (rowD (hst q.2))) i2⟩
theorem zRA(t:Ty):(kSw t).all noB1=true:=by
 rw[qBf];intro w hw;obtain⟨o,_,rfl⟩:=qAb.mp hw;cases o<;>rfl
theorem zYI(L:Ad):noBs (keyA L)=true:=by
 unfold noBs;rw[qBf];intro k hk;obtain⟨q,_,rfl⟩:=qAb.mp hk;exact zRA q.1
theorem zYU(L:Ad)(k:Ty):fitT (keyA L) (kSw k)=true:=by unfold fitT;rw[zRA];simp
theorem zUK(t:Ty):(kSw t).map swT=tyR t:=by
 rw[qAo];exact qAs fun o _=>by cases o<;>rfl
theorem zKM{L:Ad}(h:(L.map (·.1)).Nodup){q:Ty×List Nat}(hq:q∈L):findA L q.1=some q.2:=by
 induction L with
 |nil=>simp at hq
 |cons z r ih=>
  rw[qAj,qAp]at h;rw[findA]
  rcases qAd.mp hq with rfl|hq
  ·rw[if_pos rfl]
  ·rw[if_neg fun e:z.1=q.1=>h.1 (by rw[e];exact qAb.mpr ⟨q,hq,rfl⟩)];exact ih h.2 hq
theorem zQL(l:List Int):(rowD l).dep=1:=by
 show Dt.depL (l.map Dt.int)+1=1
 have:∀l:List Int,Dt.depL (l.map Dt.int)=0:=fun l=>by
  induction l with
  |nil=>rfl
  |cons x r ih=>show max 0 (Dt.depL (r.map Dt.int))=0;rw[ih];rfl
 rw[this]
theorem zG7{M:Nat}{L acc:Ad}{q:Ty×List Nat}{p w:Nat}{x5 x6 x7:Option (Dt×Nat)}(hq:findA L q.1=some q.2)(hne:q.2≠[])(hm:Mt M q.1)(hal:∀s,s<4->q.1.getD (4*p+s) none≠none)(hw:w<3)(hb:∀c∈q.2,c<=100)(hacc:∀z∈acc,∀c∈z.2,c<=200)(hlen:acc.length<=100000) :
  ∃y5 y6,(sSeq (sSet 5 1 [3] (eBi listD (aCons (eV 3) aNil))) (sSeq (sCallW 6 5 1 0 (aCons (eV 1) (aCons (eV 4) aNil)) zB2) (sTmpPut 7 2 2 (eTGet (eV 2) (eBi tupD (aCons (eV 5) aNil)) (eLst aNil)) (eBi tupD (aCons (eV 5) aNil)) (eCall zCC (aCons (eV 7) (aCons (eB addD (eB repD (eLst (aCons (eC (.int 0)) aNil)) (eV 6)) (eTIx (eV 0) (eV 3))) aNil))))))
   [some (dctA L,0),some (.int (p:Int),0),some (dctA acc,2),some (.tup (tyR q.1),0),some (.int (w:Int),0),x5,x6,x7]=okR (.nx [some (dctA L,0),some (.int (p:Int),0),some (dctA (putw p q acc w),2),some (.tup (tyR q.1),0),some (.int (w:Int),0),y5,y6,none]):=by
 refine⟨some (.lst (tyR (jP q.1 p w).1),1),some (.int ((jP q.1 p w).2:Int),0),?_⟩;refine sg (bi1 (d1:=.tup (tyR q.1)) (d:=.lst (tyR q.1)) rfl rfl) (qEj (zX1 _).1) ?_;rw[zD6];have hcall:sCallW 6 5 1 0 (aCons (eV 1) (aCons (eV 4) aNil)) zB2 ([some (dctA L,0),some (.int (p:Int),0),some (dctA acc,2),some (.tup (tyR q.1),0),some (.int (w:Int),0),some (.lst (tyR q.1),1),x6,x7])=okR (.nx ([some (dctA L,0),some (.int (p:Int),0),some (dctA acc,2),some (.tup (tyR q.1),0),some (.int (w:Int),0),some (.lst (tyR (jP q.1 p w).1),1),some (.int ((jP q.1 p w).2:Int),0),x7])):=by
  unfold sCallW;dsimp only[qBn,qBo];rw[if_pos ⟨rfl,by decide,rfl⟩];have hargs:aCons (eV 1) (aCons (eV 4) aNil) (frz [some (dctA L,0),some (.int (p:Int),0),some (dctA acc,2),some (.tup (tyR q.1),0),some (.int (w:Int),0),some (.lst (tyR q.1),1),x6,x7])=okR [.int (p:Int),.int (w:Int)]:=rfl;rw[hargs,zA0,zF4 hm hal hw,zA0];rfl
 show zA1 (sCallW 6 5 1 0 (aCons (eV 1) (aCons (eV 4) aNil)) zB2 ([some (dctA L,0),some (.int (p:Int),0),some (dctA acc,2),some (.tup (tyR q.1),0),some (.int (w:Int),0),some (.lst (tyR q.1),1),x6,x7])) _=_;rw[hcall,zA0];dsimp only;unfold sTmpPut;rw[if_neg (by decide)];have c2b:(jP q.1 p w).2<=2:=by
  have:∀(t:Ty)(a b:Nat),(jE t a b).2<=1:=fun t a b=>by unfold jE;split<;>simp
  have h1:=this q.1 (4*p) (4*p+(w+1));have h2:=this (jE q.1 (4*p) (4*p+(w+1))).1 (4*p+sa9 w) (4*p+sb9 w);show _+_<=2;omega
 generalize hc:(jP q.1 p w).2=c at c2b
 generalize ht:(jP q.1 p w).1=t'
 have key5:∀(z:Option (Dt×Nat)),eBi tupD (aCons (eV 5) aNil) (full [some (dctA L,0),some (.int (p:Int),0),some (dctA acc,2),some (.tup (tyR q.1),0),some (.int (w:Int),0),some (.lst (tyR t'),1),some (.int (c:Int),0),z])=okR (.tup (tyR t')):=fun z=>bi1 (d1:=.lst (tyR t')) rfl rfl
 have hget:eTGet (eV 2) (eBi tupD (aCons (eV 5) aNil)) (eLst aNil) (full [some (dctA L,0),some (.int (p:Int),0),some (dctA acc,2),some (.tup (tyR q.1),0),some (.int (w:Int),0),some (.lst (tyR t'),1),some (.int (c:Int),0),x7])=okR (rowD (hst ((findA acc t').getD []))):=by
  unfold eTGet;rw[show eV 2 (full [some (dctA L,0),some (.int (p:Int),0),some (dctA acc,2),some (.tup (tyR q.1),0),some (.int (w:Int),0),some (.lst (tyR t'),1),some (.int (c:Int),0),x7])=okR (dctA acc) from rfl,zA0];dsimp only;rw[key5,zA0,show eLst aNil (full [some (dctA L,0),some (.int (p:Int),0),some (dctA acc,2),some (.tup (tyR q.1),0),some (.int (w:Int),0),some (.lst (tyR t'),1),some (.int (c:Int),0),x7])=okR (.lst []) by simp,zA0,zNN];dsimp only;rw[zQD];cases findA acc t'<;>rfl
 rw[hget,zA0];have hset:(full [some (dctA L,0),some (.int (p:Int),0),some (dctA acc,2),some (.tup (tyR q.1),0),some (.int (w:Int),0),some (.lst (tyR t'),1),some (.int (c:Int),0),x7]).set 7 (some (rowD (hst ((findA acc t').getD []))))=full [some (dctA L,0),some (.int (p:Int),0),some (dctA acc,2),some (.tup (tyR q.1),0),some (.int (w:Int),0),some (.lst (tyR t'),1),some (.int (c:Int),0),some (rowD (hst ((findA acc t').getD [])),0)]:=rfl;rw[hset];have mxb:∀{cs:List Nat}{B:Nat},(∀x∈cs,x<=B)->(hst cs).length<=B+1:=fun{cs B} h=>by
  by_cases z:cs=[]
  ·subst z;exact qAt _
  ·rw[zE1 z];have:=h _ (zE0 z);omega
 have hold:(hst ((findA acc t').getD [])).length<=1000:=by
  have hf:∀(l:Ad),(∀z∈l,∀c∈z.2,c<=200)->(∀x∈(findA l t').getD [],x<=200):=fun l=>by
   induction l with
   |nil=>intro _ x hx;simp[findA]at hx
   |cons z r ih=>
    intro h;rw[findA]
    by_cases e:z.1=t'
    ·rw[if_pos e];exact h z (qAi ..)
    ·rw[if_neg e];exact ih fun y hy=>h y (qA9 _ hy)
  have:=mxb (hf acc hacc)
  omega
 have hrow:eB addD (eB repD (eLst (aCons (eC (.int 0)) aNil)) (eV 6)) (eTIx (eV 0) (eV 3)) (full [some (dctA L,0),some (.int (p:Int),0),some (dctA acc,2),some (.tup (tyR q.1),0),some (.int (w:Int),0),some (.lst (tyR t'),1),some (.int (c:Int),0),some (rowD (hst ((findA acc t').getD [])),0)])=okR (rowD (hst (q.2.map (·+c)))):=by
  refine b2 (d1:=rowD (qA3 c 0)) (d2:=rowD (hst q.2)) (b2 (d1:=.lst [.int 0]) (d2:=.int (c:Int)) (el1 rfl) rfl ?_) ?_ ?_
  ·rw[zGD c (by omega)]
  ·unfold eTIx;rw[show eV 0 (full [some (dctA L,0),some (.int (p:Int),0),some (dctA acc,2),some (.tup (tyR q.1),0),some (.int (w:Int),0),some (.lst (tyR t'),1),some (.int (c:Int),0),some (rowD (hst ((findA acc t').getD [])),0)])=okR (dctA L) from rfl,zA0];dsimp only;rw[show eV 3 (full [some (dctA L,0),some (.int (p:Int),0),some (dctA acc,2),some (.tup (tyR q.1),0),some (.int (w:Int),0),some (.lst (tyR t'),1),some (.int (c:Int),0),some (rowD (hst ((findA acc t').getD [])),0)])=okR (.tup (tyR q.1)) from rfl,zA0,zNN];dsimp only;rw[zQD,hq];rfl
  ·have:=mxb hb
   unfold rowD addD;dsimp only;rw[if_pos (by simp;omega),<- qBs,zMG hne]
 have hrl:(hst (q.2.map (·+c))).length<=1000:=by
  have:=mxb (cs:=q.2.map (·+c)) (B:=102) fun x hx=>by
   obtain⟨y,hy,rfl⟩:=qAb.mp hx
   have:=hb y hy
   omega
  omega
 have hsum:eCall zCC (aCons (eV 7) (aCons (eB addD (eB repD (eLst (aCons (eC (.int 0)) aNil)) (eV 6)) (eTIx (eV 0) (eV 3))) aNil)) (full [some (dctA L,0),some (.int (p:Int),0),some (dctA acc,2),some (.tup (tyR q.1),0),some (.int (w:Int),0),some (.lst (tyR t'),1),some (.int (c:Int),0),some (rowD (hst ((findA acc t').getD [])),0)])=okR (rowD (hst ((findA acc t').getD []++q.2.map (·+c)))):=by
  refine c2 rfl hrow ?_;rw[zIU hold hrl,zS6 (by simpa using hne)]
 rw[hsum,zA0];unfold putGo;dsimp only[qBn,qBo];rw[key5,zA0,zNN];dsimp only;rw[zQL,if_pos ⟨by decide,by decide,by simpa using hlen,zYU acc t'⟩,zA0,(zSM t' (q.2.map (·+c)) acc).1,(zSM t' (q.2.map (·+c)) acc).2];unfold putw;rw[hc,ht];rfl
theorem zK6(k:Ty)(xs:List Nat):∀L:Ad,(putA L k xs).length<=L.length+1
 |[]=>by simp[putA]
 |q::r=>by
  unfold putA
  split
  ·simp
  ·have:=zK6 k xs r
   simp only[qB1];omega
theorem zMS{B:Nat}{k:Ty}{xs:List Nat}(hx:∀c∈xs,c<=B):∀{L:Ad},(∀z∈L,∀c∈z.2,c<=B)->∀z∈putA L k xs,∀c∈z.2,c<=B
 |[],_,z,hz=>by simp[putA]at hz;subst hz;exact hx
 |q::r,h,z,hz=>by
  unfold putA at hz
  split at hz
  ·rcases qAd.mp hz with rfl|hz
   ·intro c hc
    rcases qB0.mp hc with hc|hc
    ·exact h _ (qAi ..) c hc
    ·exact hx c hc
   ·exact h z (qA9 _ hz)
  ·rcases qAd.mp hz with rfl|hz
   ·exact h _ (qAi ..)
   ·exact zMS hx (fun z hz=>h z (qA9 _ hz)) z hz
theorem zT7(t:Ty)(p w:Nat):(jP t p w).2<=2:=by
 have:∀(t:Ty)(a b:Nat),(jE t a b).2<=1:=fun t a b=>by unfold jE;split<;>simp
 have h1:=this t (4*p) (4*p+(w+1));have h2:=this (jE t (4*p) (4*p+(w+1))).1 (4*p+sa9 w) (4*p+sb9 w);show _+_<=2;omega
noncomputable abbrev wayB:SM:=sSeq (sSet 5 1 [3] (eBi listD (aCons (eV 3) aNil))) (sSeq (sCallW 6 5 1 0 (aCons (eV 1) (aCons (eV 4) aNil)) zB2) (sTmpPut 7 2 2 (eTGet (eV 2) (eBi tupD (aCons (eV 5) aNil)) (eLst aNil)) (eBi tupD (aCons (eV 5) aNil)) (eCall zCC (aCons (eV 7) (aCons (eB addD (eB repD (eLst (aCons (eC (.int 0)) aNil)) (eV 6)) (eTIx (eV 0) (eV 3))) aNil)))))
theorem zHB{M:Nat}{L acc:Ad}{q:Ty×List Nat}{p:Nat}{x4 x5 x6 x7:Option (Dt×Nat)}(hq:findA L q.1=some q.2)(hne:q.2≠[])(hm:Mt M q.1)(hal:∀s,s<4->q.1.getD (4*p+s) none≠none)(hb:∀c∈q.2,c<=100)(hacc:∀z∈acc,∀c∈z.2,c<=200)(hlen:acc.length<=10000) :
  (∃y4 y5 y6,sFor [] (iSq (eC (.scr [0,1,2]))) (.one 4) wayB [some (dctA L,0),some (.int (p:Int),0),some (dctA acc,2),some (.tup (tyR q.1),0),x4,x5,x6,x7]=okR (.nx [some (dctA L,0),some (.int (p:Int),0),some (dctA (stpw p acc q),2),some (.tup (tyR q.1),0),y4,y5,y6,none])) /\
   (∀z∈stpw p acc q,∀c∈z.2,c<=200)/\(stpw p acc q).length<=acc.length+3:=by
 have bd:∀(a:Ad)(w:Nat),(∀z∈a,∀c∈z.2,c<=200)->∀z∈putw p q a w,∀c∈z.2,c<=200:=fun a w ha=>zMS (fun c hc=>by
  obtain⟨d,hd,rfl⟩:=qAb.mp hc
  have:=hb d hd
  have:=zT7 q.1 p w
  omega) ha
 have ln:∀(a:Ad)(w:Nat),(putw p q a w).length<=a.length+1:=fun a w=>zK6 _ _ _
 have b1:=bd acc 0 hacc;have l1:=ln acc 0;have b2':=bd _ 1 b1;have l2:=ln (putw p q acc 0) 1;have b3:=bd _ 2 b2';have l3:=ln (putw p q (putw p q acc 0) 1) 2;refine⟨?_,b3,by show(putw p q (putw p q (putw p q acc 0) 1) 2).length<=_;omega⟩;obtain⟨u5,u6,e1⟩:=zG7 (x5:=x5) (x6:=x6) (x7:=x7) hq hne hm hal (w:=0) (by decide) hb hacc (by omega);obtain⟨v5,v6,e2⟩:=zG7 (x5:=u5) (x6:=u6) (x7:=none) hq hne hm hal (w:=1) (by decide) hb b1 (by omega);obtain⟨w5,w6,e3⟩:=zG7 (x5:=v5) (x6:=v6) (x7:=none) hq hne hm hal (w:=2) (by decide) hb b2' (by omega);refine⟨some (.int (2:Nat),0),w5,w6,?_⟩;unfold sFor;rw[show iSq (eC (.scr [0,1,2])) (frz (frzAt [] [some (dctA L,0),some (.int (p:Int),0),some (dctA acc,2),some (.tup (tyR q.1),0),x4,x5,x6,x7]))=okR [.int (0:Nat),.int (1:Nat),.int (2:Nat)] from rfl,zA0];show forGo (.one 4) wayB [.int (0:Nat),.int (1:Nat),.int (2:Nat)] [some (dctA L,0),some (.int (p:Int),0),some (dctA acc,2),some (.tup (tyR q.1),0),x4,x5,x6,x7]=_;rw[forGo];show zA1 (wayB [some (dctA L,0),some (.int (p:Int),0),some (dctA acc,2),some (.tup (tyR q.1),0),some (.int (0:Nat),0),x5,x6,x7]) _=_;rw[show wayB _=_ from e1,zA0];dsimp only;rw[forGo];show zA1 (wayB [some (dctA L,0),some (.int (p:Int),0),some (dctA (putw p q acc 0),2),some (.tup (tyR q.1),0),some (.int (1:Nat),0),u5,u6,none]) _=_;rw[show wayB _=_ from e2,zA0];dsimp only;rw[forGo];show zA1 (wayB [some (dctA L,0),some (.int (p:Int),0),some (dctA (putw p q (putw p q acc 0) 1),2),some (.tup (tyR q.1),0),some (.int (2:Nat),0),v5,v6,none]) _=_;rw[show wayB _=_ from e3,zA0];dsimp only;rw[forGo];rfl
theorem zH9{M:Nat}{L:Ad}{p:Nat}(hg:Gd L)(hz:∀q∈L,Mt M q.1/\(∀s,s<4->q.1.getD (4*p+s) none≠none)/\∀c∈q.2,c<=100)(hlen:L.length<=1000):zAM [dctA L,.int (p:Int)]=okR (dctA (stepA L p))/\(stepA L p).length<=3*L.length:=by
 have tk:∀i,i<=L.length->(∀z∈(L.take i).foldl (stpw p) [],∀c∈z.2,c<=200)/\((L.take i).foldl (stpw p) []).length<=3*i:=by
  intro i
  induction i with
  |zero=>intro _;simp
  |succ i ih=>
   intro hi;obtain⟨h1,h2⟩:=ih (by omega);have hlt:i<L.length:=by omega
   rw[qBh hlt,qDs,qC1,qDi];obtain⟨g1,g2,g3⟩:=hz L[i] (qAx _);obtain⟨_,k1,k2⟩:=zHB (L:=L) (x4:=none) (x5:=none) (x6:=none) (x7:=none) (zKM hg.nd (qAx hlt)) (hg.ne _ (qAx hlt)) g1 g2 g3 h1 (by omega);exact⟨k1,by omega⟩
 refine⟨?_,by have:=(tk L.length (qA6 _)).2;rw[qCm]at this;exact this⟩;unfold zAM zCX runF;rw[if_pos (show([_,_]:List Dt).length=2 from rfl)];rw[show startO 8 [dctA L,.int (p:Int)]=[some (dctA L,0),some (.int (p:Int),0),none,none,none,none,none,none] from rfl];rw[sgf (d:=dctA []) rfl (by show ¬(1000<=2);decide) rfl rfl];show zA1 (sSeq (sFor [0] (iDk (eV 0)) (.one 3) (sFor [] (iSq (eC (.scr [0,1,2]))) (.one 4) wayB)) (sRetV 2 2) [some (dctA L,0),some (.int (p:Int),0),some (dctA [],2),none,none,none,none,none]) endF=_;obtain⟨r,hr,x3,x4,x5,x6,x7,hx⟩:=zE3 (tg:=.one 3) (b:=sFor [] (iSq (eC (.scr [0,1,2]))) (.one 4) wayB) (fun i r=>∃x3 x4 x5 x6 x7,r=[some (dctA L,0),some (.int (p:Int),0),some (dctA ((L.take i).foldl (stpw p) []),2),x3,x4,x5,x6,x7]) (L.map fun q=>.tup (tyR q.1)) 0 [some (dctA L,0),some (.int (p:Int),0),some (dctA [],2),none,none,none,none,none] ⟨_,_,_,_,_,rfl⟩ (by
  rintro j d r hd ⟨x3,x4,x5,x6,x7,rfl⟩
  rw[qBp]at *;rw[qAe]at hd;have hj:j<L.length:=by
   cases hq:L[j]? with
   |none=>rw[hq]at hd;cases hd
   |some q=>exact(qA4.mp hq).1
  rw[qA5 hj]at hd;cases hd;obtain⟨h1,h2⟩:=tk j (by omega);obtain⟨g1,g2,g3⟩:=hz L[j] (qAx _);obtain⟨⟨y4,y5,y6,e⟩,_,_⟩:=zHB (L:=L) (x4:=x4) (x5:=x5) (x6:=x6) (x7:=x7) (zKM hg.nd (qAx hj)) (hg.ne _ (qAx hj)) g1 g2 g3 h1 (by omega);refine⟨_,_,rfl,e,some (.tup (tyR L[j].1),0),y4,y5,y6,none,?_⟩;rw[qBh hj,qDs,qC1,qDi])
 have hk:iDk (eV 0) (frz (frzAt [0] [some (dctA L,0),some (.int (p:Int),0),some (dctA [],2),none,none,none,none,none]))=okR (L.map fun q=>.tup (tyR q.1)):=by
  unfold iDk;rw[show eV 0 (frz (frzAt [0] [some (dctA L,0),some (.int (p:Int),0),some (dctA [],2),none,none,none,none,none]))=okR (dctA L) from rfl,zA0];dsimp only;rw[if_pos ⟨zYI L,by simp⟩,qAo]
  congr 1
  exact qAs fun q _=>by show Dt.tup ((kSw q.1).map swT)=_;rw[zUK]
 rw[zD6];unfold sFor at hr ⊢;rw[hk,zA0];show zA1 (zA1 (forGo (.one 3) (sFor [] (iSq (eC (.scr [0,1,2]))) (.one 4) wayB) (L.map fun q=>.tup (tyR q.1)) [some (dctA L,0),some (.int (p:Int),0),some (dctA [],2),none,none,none,none,none]) _) endF=_;unfold sFor;rw[hr,zA0];dsimp only;rw[hx,qBp,qAm,qCm];rfl
abbrev rowN(l:List Nat):Dt:=rowD (l.map fun k:Nat=>(k:Int))
theorem zW3(ts:List Nat):(ts.map fun k:Nat=>(k:Int)).map Dt.int=tyR (ts.map some):=by
 show _=(ts.map some).map oD;rw[qAo,qAo];rfl
structure Iv(n j:Nat)(o:List Nat)(L:Ad):Prop where
 gd:Gd L
 st:∀z∈allA L,Mt (4*n) z.1/\(∀e,e<4*n->(z.1.getD e none=none↔e/4∈o.take j))/\z.2<=2*j
 len:L.length<=3 ^ j
theorem zTB{ts:List Nat}{n:Nat}{o:List Nat}(hN:NetN ts (4*n))(hne:∀x,x<4*n->nt ts x≠x):Iv n 0 o [(ts.map some,[0])]:=by
 refine⟨⟨by simp,by simp⟩,fun z hz=>?_,by simp⟩
 have:z=(ts.map some,0):=by simpa[allA]using hz
 subst this;refine⟨zRC hN hne,fun e he=>?_,by simp⟩
 show(ts.map some).getD e none=none↔_
 rw[zDP hN he];simp
theorem zTC{n j:Nat}{o:List Nat}{L:Ad}(h:Iv n j o L)(hj:j<o.length)(hnd:o.Nodup)(hin:∀p∈o,p<n)(hj6:j<=6):zAM [dctA L,.int ((o[j]:Nat):Int)]=okR (dctA (stepA L o[j]))/\Iv n (j+1) o (stepA L o[j]):=by
 have hp:=hin _ (qAx hj);have hnot:o[j]∉o.take j:=fun z=>by
  obtain⟨i,hi,e⟩:=qD4.mp z;rw[List.getElem_take]at e
  have:=(qE4 hnd).mp e
  simp at hi;omega
 have alive:∀z∈allA L,∀s,s<4->z.1.getD (4*o[j]+s) none≠none:=fun z hz s hs y=>by
  have:=((h.st z hz).2.1 (4*o[j]+s) (by omega)).mp y
  rw[show(4*o[j]+s)/4=o[j] by omega]at this;exact hnot this
 have hall:∀q∈L,∀c∈q.2,(q.1,c)∈allA L:=fun q hq c hc=>qB5.mpr ⟨q,hq,qAb.mpr ⟨c,hc,rfl⟩⟩
 have hL:L.length<=1000:=by
  have:=h.len
  have h2:3 ^ j<=3 ^ 6:=qEn (by decide) hj6;have h3:(3:Nat) ^ 6=729:=by decide
  omega
 obtain⟨e1,e2⟩:=zH9 (M:=4*n) (p:=o[j]) h.gd (fun q hq=>by
  obtain⟨c,hc⟩:=qDj _ (h.gd.ne q hq);have hm:=hall q hq c hc;refine⟨(h.st _ hm).1,alive _ hm,fun d hd=>?_⟩
  have:=(h.st _ (hall q hq d hd)).2.2
  dsimp only at this
  omega) hL
 refine⟨e1,zNZ h.gd,fun z hz=>?_,?_⟩
 ·have hz':=(zIP L o[j]).mem_iff.mp hz;obtain⟨y,hy,hz2⟩:=qB5.mp hz';obtain⟨w,hw,rfl⟩:=qAb.mp hz2;have hw3:w<3:=by simp at hw;omega
  obtain⟨q1,q2,q3⟩:=h.st y hy;obtain⟨m1,d1,_⟩:=zWD q1 (alive y hy) hw3;refine⟨m1,fun e he=>?_,?_⟩
  ·show(jP y.1 o[j] w).1.getD e none=none↔_
   rw[d1,q2 e he,qBh hj,qB0,qAr];exact Or.comm
  ·have:=zT7 y.1 o[j] w
   show y.2+(jP y.1 o[j] w).2<=_;omega
 ·have:=h.len
  rw[qFo];omega
theorem zFJ{l:List Int}(hl:l.length<=1000):zB1 [rowD l]=okR (.int ((l.length/4:Nat):Int)):=by
 unfold zB1 zFD runF;rw[if_pos (show([_]:List Dt).length=1 from rfl)]
 have:eB divD (eBi lenD (aCons (eV 0) aNil)) (eC (.int 4)) (full (startO 1 [rowD l]))=okR (.int ((l.length/4:Nat):Int)):=by
  refine b2 (bi1 (d1:=rowD l) (d:=.int (l.length:Int)) rfl (by simp[rowD,lenD])) rfl ?_;unfold divD;dsimp only;rw[if_pos ⟨by decide,by decide⟩]
  congr 2
 rw[sr this ⟨qAt _,qAt _⟩,zA0];rfl
theorem zI7{ts:List Nat}{n:Nat}{o:List Nat}{od:Dt}(hN:NetN ts (4*n))(hne:∀x,x<4*n->nt ts x≠x)(hn:n<=6)(ho:o.Perm (qA7 n))(hod:(od=.non/\o=qA7 n)\/od=rowN o):zB8 [rowN ts,od]=okR (rowD (hst ((chA n).map (rN ts n)))):=by
 have hlt:(ts.map fun k:Nat=>(k:Int)).length=4*n:=by simp[hN.len]
 have hol:o.length=n:=by rw[ho.length_eq];simp
 have hpl:zB1 [rowN ts]=okR (.int (n:Int)):=by
  rw[zFJ (by omega),hlt]
  congr 3
  omega
 obtain⟨cs,hcs,hperm⟩:=zSB hN hne ho;unfold zB8 zFF runF;rw[if_pos (show([_,_]:List Dt).length=2 from rfl)];rw[show startO 5 [rowN ts,od]=[some (rowN ts,0),some (od,0),none,none,none] from rfl];have hcN:∀(ρ:Rh),ρ[0]?=some (some (rowN ts))->eCallN zB1 (aCons (eV 0) aNil) ρ=okR (.int (n:Int)):=fun ρ h=>by
  have e1:eV 0 ρ=okR (rowN ts):=by unfold eV;rw[h]
  simp only[zJU,zBB,zCH,e1,zA0,hpl];rfl
 rw[sp (tb1 (b2 (d1:=.int (n:Int)) (d2:=.int 6) (hcN _ rfl) rfl (by show some (Dt.bl (decide ((6:Int)<n)))=some (.bl false);rw[decide_eq_false (by omega)]))) rfl];have hplaces:∀ρ:Rh,ρ[0]?=some (some (rowN ts))->ρ[1]?=some (some od)->eIf (tB (eB isD (eV 1) (eC .non))) (eBi rangeD (aCons (eCallN zB1 (aCons (eV 0) aNil)) aNil)) (eV 1) ρ=okR (rowN o):=fun ρ h0 h1=>by
  have e1:eV 1 ρ=okR od:=by unfold eV;rw[h1]
  unfold eIf
  rcases hod with⟨rfl,rfl⟩|rfl
  ·rw[tb1 (b2 e1 rfl (d:=.bl true) rfl),zA0,if_pos rfl];refine bi1 (hcN ρ h0) ?_;unfold rangeD;dsimp only;rw[if_pos ⟨⟨by omega,by omega⟩,by omega⟩]
   congr 1
   unfold rowN rowD;rw[show((n:Int)).toNat=n from rfl,zCA,qAo];rfl
  ·rw[tb1 (b2 e1 rfl (d:=.bl false) rfl),zA0,if_neg (by decide)];exact e1
 rw[sgf (d:=rowN o) (hplaces _ rfl rfl) (by rw[zBE];decide) (hplaces _ rfl rfl) rfl];have hone:∀ρ:Rh,ρ[0]?=some (some (rowN ts))->eTOne (eBi tupD (aCons (eV 0) aNil)) (eLst (aCons (eC (.int 1)) aNil)) ρ=okR (dctA [(ts.map some,[0])]):=fun ρ h0=>by
  have e1:eV 0 ρ=okR (rowN ts):=by unfold eV;rw[h0]
  unfold eTOne;rw[bi1 (d:=.tup (tyR (ts.map some))) e1 (by show some (Dt.tup _)=_;rw[zW3]),zA0,el1 rfl,zA0,zNN];rfl
 rw[sgf (d:=dctA [(ts.map some,[0])]) (hone _ rfl) (by show ¬(1000<=2);decide) (hone _ rfl) rfl];show zA1 (sSeq (sFor [2] (iSq (eV 2)) (.one 4) (sSet 3 2 [3,4] (eCallN zAM (aCons (eV 3) (aCons (eV 4) aNil))))) (sRetTIx 1 3 (eBi tupD (aCons (eComp (iSq (eV 0)) 1 (.one 5) Mi.tYes (eC .non)) aNil))) [some (rowN ts,0),some (od,0),some (rowN o,0),some (dctA [(ts.map some,[0])],2),none]) endF=_;have hnd:o.Nodup:=ho.nodup_iff.mpr qBv;have hin:∀p∈o,p<n:=fun p hp=>by simpa using ho.mem_iff.mp hp
 obtain⟨r,hr,x,hx,_⟩:=zE3 (tg:=.one 4) (b:=sSet 3 2 [3,4] (eCallN zAM (aCons (eV 3) (aCons (eV 4) aNil)))) (fun j r=>∃x,r=[some (rowN ts,0),some (od,0),some (rowN o,0),some (dctA ((o.take j).foldl stepA [(ts.map some,[0])]),2),x]/\Iv n j o ((o.take j).foldl stepA [(ts.map some,[0])])) (o.map fun p=>Dt.int ((p:Nat):Int)) 0 [some (rowN ts,0),some (od,0),some (rowN o,0),some (dctA [(ts.map some,[0])],2),none] ⟨none,rfl,zTB hN hne⟩ (by
  rintro j d r hd ⟨x,rfl,hiv⟩
  rw[qBp]at *;rw[qAe]at hd;have hj:j<o.length:=by
   cases hq:o[j]? with
   |none=>rw[hq]at hd;cases hd
   |some q=>exact(qA4.mp hq).1
  rw[qA5 hj]at hd;cases hd;obtain⟨e1,e2⟩:=zTC hiv hj hnd hin (by omega);have ef:(o.take (j+1)).foldl stepA [(ts.map some,[0])]=stepA ((o.take j).foldl stepA [(ts.map some,[0])]) o[j]:=by
   rw[qBh hj,qDs,qC1,qDi]
  have hcw:∀ρ:Rh,ρ[3]?=some (some (dctA ((o.take j).foldl stepA [(ts.map some,[0])])))->ρ[4]?=some (some (.int ((o[j]:Nat):Int)))->eCallN zAM (aCons (eV 3) (aCons (eV 4) aNil)) ρ=okR (dctA (stepA ((o.take j).foldl stepA [(ts.map some,[0])]) o[j])):=fun ρ h3 h4=>by
   have f3:eV 3 ρ=okR (dctA ((o.take j).foldl stepA [(ts.map some,[0])])):=by unfold eV;rw[h3]
   have f4:eV 4 ρ=okR (.int ((o[j]:Nat):Int)):=by unfold eV;rw[h4]
   simp only[zJU,zBB,zCH,f3,f4,zA0,e1];rfl
  refine⟨_,[some (rowN ts,0),some (od,0),some (rowN o,0),some (dctA (stepA ((o.take j).foldl stepA [(ts.map some,[0])]) o[j]),2),some (.int ((o[j]:Nat):Int),0)],rfl,?_,some (.int ((o[j]:Nat):Int),0),?_,?_⟩
  ·show sSet 3 2 [3,4] _ [some (rowN ts,0),some (od,0),some (rowN o,0),some (dctA ((o.take j).foldl stepA [(ts.map some,[0])]),2),some (.int ((o[j]:Nat):Int),0)]=_;rw[zFM,hcw _ rfl rfl,zA0,if_neg (by show ¬(1000<=2);decide),hcw _ rfl rfl,zA0];rfl
  ·rw[ef]
  ·rw[ef];exact e2)
 have hF:sFor [2] (iSq (eV 2)) (.one 4) (sSet 3 2 [3,4] (eCallN zAM (aCons (eV 3) (aCons (eV 4) aNil)))) [some (rowN ts,0),some (od,0),some (rowN o,0),some (dctA [(ts.map some,[0])],2),none]=okR (.nx r):=by
  unfold sFor;rw[show iSq (eV 2) (frz (frzAt [2] [some (rowN ts,0),some (od,0),some (rowN o,0),some (dctA [(ts.map some,[0])],2),none]))=okR (o.map fun p=>Dt.int ((p:Nat):Int)) by
   show okR ((o.map fun k:Nat=>(k:Int)).map Dt.int)=_;rw[qAo];rfl,zA0]
  exact hr
 rw[zD6,hF,zA0];dsimp only;rw[hx,qBp,qAm,qCm,hcs];have hkey:eBi tupD (aCons (eComp (iSq (eV 0)) 1 (.one 5) Mi.tYes (eC .non)) aNil) (full [some (rowN ts,0),some (od,0),some (rowN o,0),some (dctA [(qA3 (4*n) none,cs)],2),x])=okR (.tup (tyR (qA3 (4*n) none))):=by
  refine bi1 (d1:=.lst (tyR (qA3 (4*n) none))) ?_ rfl;unfold eComp;rw[show iSq (eV 0) (full [some (rowN ts,0),some (od,0),some (rowN o,0),some (dctA [(qA3 (4*n) none,cs)],2),x])=okR ((ts.map fun k:Nat=>(k:Int)).map Dt.int) from rfl,zA0,if_pos ⟨by rw[qAm,hlt];omega,by rfl⟩];rw[zGY (f:=fun _=>.non) _ _ fun d _=>⟨_,rfl,rfl,rfl⟩,zA0]
  congr 2
  rw[qCe,qAo];refine qB9 (by simp[hN.len]) fun i h1 h2=>?_
  simp[oD]
 have hret:sRetTIx 1 3 (eBi tupD (aCons (eComp (iSq (eV 0)) 1 (.one 5) Mi.tYes (eC .non)) aNil)) [some (rowN ts,0),some (od,0),some (rowN o,0),some (dctA [(qA3 (4*n) none,cs)],2),x]=okR (.rt (rowD (hst cs))):=by
  unfold sRetTIx;dsimp only[qBn,qBo];rw[hkey,zA0,zNN];dsimp only;rw[zQD]
  show(match(findA [(qA3 (4*n) none,cs)] (qA3 (4*n) none)).map fun ys=>rowD (hst ys)with|some d=>if 1=1 then okR (Out.rt d)else none|none=>none)=_
  rw[findA,if_pos rfl];rfl
 rw[hret,zA0,<- zQ9 hperm];rfl
noncomputable def rst(m:Nat)(g:Nat->Nat->Int):Nat:=(cnt m (KerF m g)).log2
noncomputable def rv(ws:List Int)(n:Nat)(f:Nat->Nat->Int):List Nat:=(chW ws n).map fun c=>rst (kept n c).length (cpF n c f)
noncomputable def mx(rs:List Nat):Nat:=rs.foldr max 0
theorem zT1:∀{rs:List Nat}{x:Nat},x∈rs->x<=mx rs
 |a::r,x,h=>by
  show x<=max a (mx r)
  rcases qAd.mp h with rfl|h
  ·omega
  ·have:=zT1 h;omega
theorem zKE:∀{rs:List Nat},rs≠[]->mx rs∈rs
 |[a],_=>by show max a 0∈_;simp
 |a::b::r,_=>by
  have:=zKE (rs:=b::r) (by simp)
  show max a (mx (b::r))∈_
  rcases Nat.le_total a (mx (b::r))with h|h
  ·rw[qFw h];exact qA9 _ this
  ·rw[qG6 h];simp
theorem zKF{rs:List Nat}{B:Nat}(h:∀x∈rs,x<=B):mx rs<=B:=by
 cases rs with
 |nil=>exact qAt _
 |cons a r=>exact h _ (zKE (by simp))
def cv(rs:List Nat):List Int:=(qA7 (mx rs+1)).map fun k=>((rs.count k:Nat):Int)
theorem zTG{ts C:List Nat}{n:Nat}{R:List (List Nat)}{hd:Nat->Nat}(hN:NetN ts (4*n))(hl:C.length=n)(hw:∀c∈C,c<3)(H:Hds ts C n R hd):KN ts C n=2 ^ R.length:=by
 rw[<- zOQ R.length];unfold KN;refine qCr (zE4 (fun x=>(qA7 R.length).map fun r=>x.getD (hd r) 0) (fun x hx hc=>⟨⟨by simp,fun y hy=>?_⟩,trivial⟩) fun x y hx hcx hy hcy e=>?_) (zE4 (fun z=>(qA7 (4*n)).map fun e=>z.getD (rI R e) 0) (fun z hz _=>⟨⟨by simp,fun y hy=>?_⟩,?_⟩) fun x y hx _ hy _ e=>?_)
 ·obtain⟨r,_,rfl⟩:=qAb.mp hy;exact zBI hx _
 ·refine zCZ hx hy fun r hr=>?_
  refine zTH hN hl hw H hcx hcy (fun q hq=>?_) hr
  have:=congrArg (fun l:List Int=>l.getD q 0) e
  simp[hq]at this
  simpa using this
 ·obtain⟨r,_,rfl⟩:=qAb.mp hy;exact zBI hz _
 ·obtain⟨c,_⟩:=zJB hN hl hw H hz;have g:∀e,e<4*n->((qA7 (4*n)).map fun e=>z.getD (rI R e) 0).getD e 0=z.getD (rI R e) 0:=fun e he=>by simp[he]
  refine⟨fun e=>?_,fun e he=>?_,fun e he=>?_⟩
  ·by_cases he:e<4*n
   ·rw[g e he];exact zBI hz _
   ·rw[qA0,qCj (by simp;omega)];exact .inl rfl
  ·rw[g _ (hN.lt e he),g e he];exact c.hn e he
  ·rw[g _ (zEJ hl hw he).1,g e he];exact c.hj e he
 ·refine zCZ hx hy fun r hr=>?_
  have h1:=(zJB hN hl hw H hx).2 r hr;have h2:=(zJB hN hl hw H hy).2 r hr
  have:=congrArg (fun l:List Int=>l.getD (hd r) 0) e
  have hlt:=H.lt r hr;simp[hlt]at this;rw[<- h1,<- h2]
  simpa using this
theorem zNE(cs:List Int)(n:Nat)(hn:n<=20)(hc:0<cs.length)(hcl:cs.length<=1000):∃ms,FW.NetL ms (4*n)/\zBQ [rowD cs,.int (n:Int)]=okR (rowD ms):=by
 suffices h:eiR (zCG [some (rowD cs,0),some (.int (n:Int),0),none,none,none,none,none,none]) (fun _=>False) (fun d=>∃ms,d=rowD ms/\FW.NetL ms (4*n)) by
  rcases h with⟨_,_,z⟩|⟨d,h1,ms,rfl,h2⟩
  ·exact z.elim
  ·exact⟨ms,h2,zD7 rfl h1⟩
 have m0:mulD (.int 4) (.int (n:Int))=some (.int ((4*n:Nat):Int)):=by
  rw[zLI (by lia) (by lia)]
  congr 2
 have m2:mulD (.int 2) (.int (n:Int))=some (.int ((2*n:Nat):Int)):=by
  rw[zLI (by lia) (by lia)]
  congr 2
 have hra:rangeD [.int ((4*n:Nat):Int)]=some (rowD (numL (qA7 (4*n)))):=by
  rw[zM2 (by lia) (by lia),show(((4*n:Nat):Int)).toNat=4*n by lia,zEX];rfl
 have hrp:=zGD (4*n) (by lia);have hlc:lenD [rowD cs]=some (.int (cs.length:Int)):=by simp[rowD,lenD]
 unfold zCG;refine zCM (P:=fun r=>r=[some (rowD cs,0),some (.int (n:Int),0),some (rowD (numL (qA7 (4*n))),1),none,none,none,none,none]) (zF8 ?_) ?_
 ·rw[ss (d:=rowD (numL (qA7 (4*n)))) (bi1 (b2 rfl rfl m0) hra) (by rw[zBE];exact qA6 _)];exact zAY rfl rfl
 rintro r rfl
 refine zCM (P:=fun r=>r=[some (rowD cs,0),some (.int (n:Int),0),some (rowD (numL (qA7 (4*n))),1),some (rowD (qA3 (4*n) 0),1),none,none,none,none]) (zF8 ?_) ?_
 ·rw[ss (d:=rowD (qA3 (4*n) 0)) (b2 (el1 rfl) (b2 rfl rfl m0) hrp) (by rw[zBE];exact qA6 _)];exact zAY rfl rfl
 rintro r rfl
 refine zCM (P:=fun r=>∃left:List Nat,∃ms:List Int,∃o4 o5 o6 o7,r=[some (rowD cs,0),some (.int (n:Int),0),some (rowD (numL left),1),some (rowD ms,1),o4,o5,o6,o7]/\FW.Part left ms (4*n)/\left.length+2*(2*n)=4*n) (zF8 ?_) ?_
 ·have hit:iR1 (aCons (eB mulD (eC (.int 2)) (eV 1)) aNil) (full [some (rowD cs,0),some (.int (n:Int),0),some (rowD (numL (qA7 (4*n))),1),some (rowD (qA3 (4*n) 0),1),none,none,none,none])=okR (nums 0 (2*n)):=zS3 (n:=2*n) (by
   rw[zBB,b2 (d:=.int ((2*n:Nat):Int)) rfl rfl m2,zA0,zCH,zA0]) (by lia)
  rw[zIR,hit,zA0];refine zSX (fun k r=>∃left:List Nat,∃ms:List Int,∃o4 o5 o6 o7,r=[some (rowD cs,0),some (.int (n:Int),0),some (rowD (numL left),1),some (rowD ms,1),o4,o5,o6,o7]/\FW.Part left ms (4*n)/\left.length+2*k=4*n) ⟨_,_,_,_,_,_,rfl,FW.Part.start (4*n) (by lia),by simp⟩ (fun k hk r hr=>?_) fun r hr=>?_
  ·obtain⟨left,ms,o4,o5,o6,o7,rfl,hP,hll⟩:=hr
   match left,hll,hP with
   |[],hll,_=>simp at hll;lia
   |[x],hll,hP=>have:=hP.ev;simp at this
   |x::y::l,hll,hP=>
    simp only[qB1]at hll;have hx:=hP.lt x (by simp);have hml:=hP.len;have g0:(numL (x::y::l)).getD 0 0=(x:Int):=rfl;refine zDK fun bb hb=>?_
    refine zAY (r:=[some (rowD cs,0),some (.int (n:Int),0),some (rowD (numL (y::l)),1),some (rowD ms,1),some (.int (k:Nat),0),some (.int (x:Int),0),o6,o7]) (zEK (i:=2) (j:=5) (l:=0) (ls:=numL (x::y::l)) (z:=0) rfl rfl (by lia) (by simp[numL];lia) (by lia) (by simp[numL];lia)) ?_;subst hb;have q0:=qBl (k:Int) (show((cs.length:Nat):Int)≠0 by omega);have q1:=qCa (k:Int) (show(0:Int)<((cs.length:Nat):Int) by omega);have i1:ixD (rowD cs) (.int ((k:Int)%(cs.length:Int)))=some (.int (cs.getD ((k:Int)%(cs.length:Int)).toNat 0)):=zKL q0 q1;have d0:divD (.int (k:Int)) (.int (cs.length:Int))=some (.int ((k:Int)/(cs.length:Int))):=by
     unfold divD;dsimp only;rw[if_pos ⟨by omega,by omega⟩]
    have d00:(0:Int)<=(k:Int)/(cs.length:Int):=Int.ediv_nonneg (by omega) (by omega);have d01:(k:Int)/(cs.length:Int)<=k:=Int.ediv_le_self _ (by omega);have md:modD (.int (k:Int)) (.int (cs.length:Int))=some (.int ((k:Int)%(cs.length:Int))):=by
     unfold modD;dsimp only;rw[if_pos (by omega)]
    generalize(k:Int)/(cs.length:Int)=dv at d0 d00 d01
    generalize(k:Int)%(cs.length:Int)=rm at md i1
    generalize cs.getD rm.toNat 0=cl at i1
    have d1:divD (.int cl) (.int (1+dv))=some (.int (cl/(1+dv))):=by
     unfold divD;dsimp only;rw[if_pos ⟨by omega,by omega⟩]
    refine zDK fun bb hb=>?_
    refine zAY (r:=[some (rowD cs,0),some (.int (n:Int),0),some (rowD (numL (y::l)),1),some (rowD ms,1),some (.int (k:Nat),0),some (.int (x:Int),0),some (.int (cl/(1+dv)),0),o7]) (ss (b2 (b2 rfl (b2 rfl (bi1 rfl hlc) md) i1) (b2 rfl (b2 rfl (bi1 rfl hlc) d0) rfl) d1) (qA6 0)) ?_;subst hb
    generalize cl/(1+dv)=w2
    have hnl:(numL (y::l)).length=l.length+1:=by simp[numL]
    obtain⟨z,hz⟩:∃z,w2%((l.length+1:Nat):Int)=z:=⟨_,rfl⟩
    have z0:0<=z:=by rw[<- hz];exact qBl _ (by lia)
    have z1:z<((l.length+1:Nat):Int):=by rw[<- hz];exact qCa _ (by lia)
    have hmod:modD (.int w2) (.int ((l.length+1:Nat):Int))=some (.int z):=by
     rw[<- hz];unfold modD;dsimp only;rw[if_pos (by omega)]
    have hly:lenD [rowD (numL (y::l))]=some (.int ((l.length+1:Nat):Int)):=by simp[rowD,lenD,numL]
    have he:eB modD (eV 6) (eBi lenD (aCons (eV 2) aNil)) (full [some (rowD cs,0),some (.int (n:Int),0),some (rowD (numL (y::l)),1),some (rowD ms,1),some (.int (k:Nat),0),some (.int (x:Int),0),some (.int w2,0),o7])=okR (.int z):=b2 rfl (bi1 rfl hly) hmod;have hzt:z.toNat<(y::l).length:=by simp;lia
    obtain⟨b',hb'⟩:∃b',(y::l)[z.toNat]?=some b':=⟨_,qA5 hzt⟩
    have gz:(numL (y::l)).getD z.toNat 0=(b':Int):=by
     unfold numL;rw[qA0,qAe,hb'];rfl
    have hbl:=hP.lt b' (by have:=qAw hb';simp at this ⊢;exact .inr this);have her:(numL (y::l)).eraseIdx z.toNat=numL ((y::l).eraseIdx z.toNat):=zO7 _ _ _;refine zDK fun bb hb=>?_
    have hpop:=zEK (i:=2) (j:=7) (l:=0) (ls:=numL (y::l)) (z:=z) (r:=[some (rowD cs,0),some (.int (n:Int),0),some (rowD (numL (y::l)),1),some (rowD ms,1),some (.int (k:Nat),0),some (.int (x:Int),0),some (.int w2,0),o7]) rfl he z0 (by rw[hnl];exact z1) (by lia) (by rw[hnl];lia);rw[gz,her]at hpop;refine zAY (r:=[some (rowD cs,0),some (.int (n:Int),0),some (rowD (numL ((y::l).eraseIdx z.toNat)),1),some (rowD ms,1),some (.int (k:Nat),0),some (.int (x:Int),0),some (.int w2,0),some (.int (b':Int),0)]) hpop ?_;subst hb;have hT:=FW.Part.turn (a:=x) (b:=b') (k:=z.toNat) (l:=y::l) hP hb';have s4:=zDQ (i:=3) (n:=0) (l:=0) (ls:=ms) (e1:=eV 5) (e2:=eV 7) (z:=(x:Int)) (v:=(b':Int)) (r:=[some (rowD cs,0),some (.int (n:Int),0),some (rowD (numL ((y::l).eraseIdx z.toNat)),1),some (rowD ms,1),some (.int (k:Nat),0),some (.int (x:Int),0),some (.int w2,0),some (.int (b':Int),0)]) rfl rfl rfl (by lia) (by lia);have s5:=zDQ (i:=3) (n:=0) (l:=0) (ls:=ms.set x (b':Int)) (e1:=eV 7) (e2:=eV 5) (z:=(b':Int)) (v:=(x:Int)) (r:=[some (rowD cs,0),some (.int (n:Int),0),some (rowD (numL ((y::l).eraseIdx z.toNat)),1),some (rowD (ms.set x (b':Int)),1),some (.int (k:Nat),0),some (.int (x:Int),0),some (.int w2,0),some (.int (b':Int),0)]) rfl rfl rfl (by lia) (by rw[qDa];lia);rw[qBa]at s4 s5;refine zDK fun bb hb=>zAY s4 ?_
    subst hb;refine zAY s5 ⟨(y::l).eraseIdx z.toNat,(ms.set x (b':Int)).set b' (x:Int),_,_,_,_,rfl,hT,?_⟩
    have:=FW.len_erase hzt
    simp only[qB1]at this
    lia
  ·obtain⟨left,ms,o4,o5,o6,o7,rfl,hP,hll⟩:=hr;exact⟨left,ms,_,_,_,_,rfl,hP,hll⟩
 rintro r ⟨left,ms,o4,o5,o6,o7,rfl,hP,hll⟩
 have hle:left=[]:=qC6 (by lia);subst hle;refine .inr ⟨rowD ms,?_,ms,rfl,hP.done⟩;unfold sRetV;dsimp only[qBn,qBo];rw[if_pos (.inl rfl)]
theorem zYJ(cs:List Int)(n:Nat)(hn:n<=20)(hc:0<cs.length)(hcl:cs.length<=1000):∃ts,NetN ts (4*n)/\(∀x,x<4*n->nt ts x≠x)/\zBQ [rowD cs,.int (n:Int)]=okR (rowN ts):=by
 obtain⟨ms,h1,h2⟩:=zNE cs n hn hc hcl;obtain⟨ts,rfl,h3,h4⟩:=zQX h1;exact⟨ts,h3,h4,h2⟩
theorem zWN{rs:List Nat}(h:rs≠[]):hst rs=cv rs:=by
 unfold hst cv;rw[if_neg h]
 have:mxL rs=mx rs:=qCr (zT1 (zE0 h)) (zFV (zKE h))
 rw[this]
theorem zY8{ts C:List Nat}{n:Nat}(hN:NetN ts (4*n))(hne:∀x,x<4*n->nt ts x≠x)(hc:C∈chA n):rN ts n C<=2*n:=by
 have hp:=(zGB (qEs (qA7 n))).mem_iff.mpr hc;obtain⟨ps,h1,rfl⟩:=qAb.mp hp
 have:=zR5 hN hne (qEs (qA7 n)) h1
 have h2:rN ts n (toC n ps)=(runP (ts.map some) ps).2:=by rw[this]
 rw[h2];have h3:∀(ps:List (Nat×Nat))(t:Ty),(runP t ps).2<=2*ps.length:=fun ps=>by
  induction ps with
  |nil=>intro t;exact qA6 _
  |cons q r ih=>
   intro t
   have:=ih (jP t q.1 q.2).1
   have:=zT7 t q.1 q.2
   show(jP t q.1 q.2).2+(runP (jP t q.1 q.2).1 r).2<=_
   simp only[qB1];omega
 have h4:=h3 ps (ts.map some);have h5:ps.length=n:=by
  have:=congrArg qD9 (allW_mem.mp h1).1
  simpa using this
 rw[h5]at h4;exact h4
theorem zN4{ts C:List Nat}{n:Nat}(hN:NetN ts (4*n))(hl:C.length=n)(hw:∀c∈C,c<3):∃(f:Nat->List Nat)(g:Nat->Nat),(∀e,e<4*n->f e=orb ts C e (g e)/\1<=g e/\g e<=4*n/\itr (stp ts C) (g e) e=e/\∀q,1<=q->q<g e->itr (stp ts C) q e≠e)/\∀k,(f k).length<=8*n:=by
 obtain⟨s1,s2⟩:=zME hN hl hw;have hg:∀e:Nat,∃p,e<4*n->1<=p/\p<=4*n/\itr (stp ts C) p e=e/\∀q,1<=q->q<p->itr (stp ts C) q e≠e:=fun e=>by
  by_cases he:e<4*n
  ·obtain⟨p,h⟩:=zLU s1 s2 he;exact⟨p,fun _=>h⟩
  ·exact⟨0,fun z=>absurd z he⟩
 obtain⟨g,hg⟩:=qE2 hg;have h1:∀e,e<4*n->(if e<4*n then orb ts C e (g e)else[])=orb ts C e (g e):=fun e he=>if_pos he
 refine⟨fun e=>if e<4*n then orb ts C e (g e)else[],g,fun e he=>⟨h1 e he,hg e he⟩,fun k=>?_⟩
 show(if k<4*n then orb ts C k (g k)else[]).length<=_
 by_cases z:k<4*n
 ·rw[h1 k z,zN5]
  have:=(hg k z).2.1
  lia
 ·rw[if_neg z];exact qAt _
section
variable{n:Nat}{cs c:List Nat}(w:Wd n cs)(n1:1<=n)(hn:n<=10)(hc:c.length=n)(hw:∀x∈c,x<3)(hsl:(sosL cs).length=n)
include w n1 hn hc hw hsl
end
theorem zXB(n:Nat):chA n≠[]:=fun z=>by
 have:=chA_mem (n:=n) (c:=qA3 n 0)
 rw[z]at this;exact qD2 (this.mpr ⟨by simp,fun w hw=>by rw[qDt hw];decide⟩)
theorem zOR:∀n,(chA n).length=3 ^ n
 |0=>rfl
 |n+1=>by
  rw[chA]
  have:∀L:List (List Nat),(L.flatMap fun c=>[c++[0],c++[1],c++[2]]).length=3*L.length:=fun L=>by
   induction L with
   |nil=>rfl
   |cons a r ih=>rw[qBq,qAy,ih];simp;omega
  rw[this,zOR n,qFo];omega
theorem zJH{rs:List Nat}{m:Nat}(h:∀x∈rs,x<m):((qA7 m).map fun k=>((rs.count k:Nat):Int)).sum=(rs.length:Nat):=by
 induction rs with
 |nil=>
  have:∀l:List Nat,(l.map fun k=>((([]:List Nat).count k:Nat):Int)).sum=0:=fun l=>by
   induction l with
   |nil=>rfl
   |cons a r ih=>rw[qAj,qE0,ih];rfl
  exact this _
 |cons a r ih=>
  have ih':=ih fun x hx=>h x (qA9 _ hx)
  have ha:=h a (qAi ..);have key:∀l:List Nat,l.Nodup->(l.map fun k=>(((a::r).count k:Nat):Int)).sum=(l.map fun k=>((r.count k:Nat):Int)).sum+if a∈l then 1 else 0:=fun l=>by
   induction l with
   |nil=>intro _;rfl
   |cons b t ih=>
    intro hn;have hn':=qAp.mp hn;rw[qAj,qE0,ih hn'.2,qAj,qE0,qEk]
    by_cases hab:a=b
    ·subst hab;simp[hn'.1];omega
    ·have:(a==b)=false:=by simpa using hab
     simp[hab]
     split<;>omega
  rw[key _ qBv,ih',if_pos (qCk.mpr ha)];simp
theorem zX9(rs:List Nat):(cv rs).sum=(rs.length:Nat):=zJH fun x hx=>Nat.lt_succ_of_le (zT1 hx)
theorem zUL{rs:List Nat}(h:∀x∈rs,x<=1000)(hl:rs.length<=1000):sumD [rowD (cv rs)]=some (.int (rs.length:Nat)):=by
 have hm:=zKF h;have e:intsD ((cv rs).map Dt.int)=some (cv rs):=by
  induction cv rs with
  |nil=>rfl
  |cons a r ih=>rw[qAj];unfold intsD;rw[ih];rfl
 show(match intsD ((cv rs).map Dt.int)with
  |some ns=>@ite _ (ns.length<=100000/\∀n∈ns,-1000000<=n/\n<=1000000) (qA1 _) (some (Dt.int ns.sum)) none
  |none=>none)=_
 rw[e];dsimp only;refine(@if_pos _ (qA1 _) ⟨by simp[cv];omega,fun x hx=>?_⟩ _ _ _).trans ?_
 ·rw[zX9]
 ·obtain⟨k,_,rfl⟩:=qAb.mp hx
  have:=List.count_le_length (a:=k) (l:=rs)
  omega
def GdA(n:Nat)(f:Nat->Nat->Int)(v:Nat):Prop:=v<n/\f v v=1
def GdB(n:Nat)(f:Nat->Nat->Int)(u v:Nat):Prop:=u<n/\v<n/\u≠v/\f u v=1/\f u u=0/\f v v=0
inductive Du(n:Nat)(f:Nat->Nat->Int):List Int->Option (Nat->Nat->Int)->Prop where
 |one {v:Nat} (h:GdA n f v):Du n f [(v:Int)] (some (pvA n f v))
 |two {u v:Nat} (h:GdB n f u v):Du n f [(u:Int),(v:Int)] (some (pvB n f u v))
 |no {l:List Int} (h1:∀v:Nat,l=[(v:Int)]->¬GdA n f v) (h2:∀u v:Nat,l=[(u:Int),(v:Int)]->¬GdB n f u v):Du n f l none
theorem oo:(("other":Str)==("one":Str))=false:=by decide +kernel
noncomputable def fv(P0 P1 P2 P3 P4:List Nat)(a b c d:Nat):List Nat:=P0++a::(P1++b::(P2++c::(P3++d::P4)))
section
variable{P0 P1 P2 P3 P4:List Nat}{a b c d x y:Nat}
noncomputable def q0(P0:List Nat):Nat:=P0.length
noncomputable def q1(P0 P1:List Nat):Nat:=P0.length+1+P1.length
noncomputable def q2(P0 P1 P2:List Nat):Nat:=P0.length+1+P1.length+1+P2.length
noncomputable def q3(P0 P1 P2 P3:List Nat):Nat:=P0.length+1+P1.length+1+P2.length+1+P3.length
end
section
variable{cs u v:List Nat}
end
section
variable{P0 P1 P2 P3 P4:List Nat}{a b c d x y:Nat}
end
theorem app4{r:Ro}{i n k:Nat}{e:EM}{ds:List Dt}{d:Dt}(h:r[i]?=some (some (.lst ds,k+1)))(he:e (full r)=okR d)(hl:ds.length<=100000)(h1:d.dep<=n)(h2:d.dep<=k):sApp i n e r=okR (.nx (r.set i (some (.lst (ds++[d]),k+1)))):=by
 unfold sApp;rw[h];dsimp only;rw[he,zA0];exact if_pos ⟨hl,h1,h2⟩
theorem st4{c:TM}{a:SM}{r:Ro}{X:R Out}(hc:c (full r)=okR true)(ha:a r=X):sIf c a sNil r=X:=by
 rw[zL2,hc,zA0,if_pos rfl,ha]
noncomputable def sh4(b:Int):Dt:=.ins "Shift" [("by",.i b)]
theorem n1:(("Swap":Str)==("Turn":Str))=false:=by decide +kernel
theorem n2:(("Mirror":Str)==("Turn":Str))=false:=by decide +kernel
theorem n3:(("Mirror":Str)==("Swap":Str))=false:=by decide +kernel
theorem n6:(("Shift":Str)==("Mirror":Str))=false:=by decide +kernel
theorem m1:(("done":Str)==("letter":Str))=false:=by decide +kernel
theorem m2:(("done":Str)==("one":Str))=false:=by decide +kernel
theorem m3:(("done":Str)==("other":Str))=false:=by decide +kernel
theorem o1:(("other":Str)==("one":Str))=false:=by decide +kernel
section
variable{P0 P1 P2 P3 P4:List Nat}{a b x y:Nat}
end
theorem cmpl{ns:List Int}{ρ:Rh}{i:Nat}(h:ρ[i]?=some (some (.scr ns))):eBi lenD (aCons (eV i) aNil) ρ=okR (.int (ns.length:Int)):=bi1 (v1 h) rfl
theorem ixS{ns:List Int}{k:Nat}(h:k<ns.length):ixD (.scr ns) (.int (k:Int))=some (.int (ns.getD k 0)):=by
 have:=zTD (ns:=ns) (i:=(k:Int)) (by lia) (by lia)
 rw[qBa]at this
 show(itA ns (k:Int)).map Dt.int=_
 rw[this];rfl
theorem zO6{α β:Type}(f:α->β):∀(l:List α)(q:Nat),(l.map f).eraseIdx q=(l.eraseIdx q).map f
 |[],_=>rfl
 |_::_,0=>rfl
 |a::r,q+1=>by rw[qAj,qBd,zO6 f r q];rfl
theorem zW6(L:Nat)(hL:L<=63)(ns:List Int)(hl:ns.length<=63):∃cl:List Int,zBD [.scr ns,.int (L:Int)]=okR (rowD cl)/\L<=cl.length/\cl.length<=63/\∀c∈cl,0<=c:=by
 have hmin:minD [.int 63,.int (ns.length:Int)]=some (.int (ns.length:Int)):=by
  show some (Dt.int (if(ns.length:Int)<63 then(ns.length:Int)else 63))=_
  split
  ·rfl
  ·rw[show(63:Int)=(ns.length:Int) by lia]
 have hmax:maxD [.int (L:Int),.int (ns.length:Int)]=some (.int ((max L ns.length:Nat):Int)):=by
  show some (Dt.int (if(ns.length:Int)>(L:Int)then(ns.length:Int)else(L:Int)))=_;rw[show(if(ns.length:Int)>(L:Int)then(ns.length:Int)else(L:Int))=((max L ns.length:Nat):Int) by split<;>lia]
 have hm1:L<=max L ns.length:=by lia
 have hm2:max L ns.length<=63:=by lia
 generalize max L ns.length=m at hmax hm1 hm2
 suffices key:nxR (sForR (iR1 (aCons (eBi maxD (aCons (eV 1) (aCons (eBi minD (aCons (eC (.int 63)) (aCons (eBi lenD (aCons (eV 0) aNil)) aNil))) aNil))) aNil)) 3 (sSeq (sSet 4 1 [3] (eB addD (eB mulD (eC (.int 7)) (eV 3)) (eC (.int 3))))
 (sSeq (sIf (tB (eB (cmpD fun i j=>decide (j<i)) (eBi lenD (aCons (eV 0) aNil)) (eC (.int 0)))) (sSet 4 0 [0,3] (eB modD (eB ixD (eV 0) (eB modD (eV 3) (eBi lenD (aCons (eV 0) aNil)))) (eC (.int 1000003)))) sNil)
 (sSeq (sSet 5 0 [4,3] (eB modD (eB mulD (eB modD (eB addD (eB mulD (eB addD (eV 4) (eC (.int 1))) (eC (.int 48271))) (eB mulD (eB mulD (eV 3) (eV 3)) (eC (.int 7919)))) (eC (.int 1000000007))) (eC (.int 40692))) (eC (.int 2147483399))))
 (sApp 2 1 (eB addD (eB mulD (eV 5) (eC (.int 2147483647))) (eB modD (eB addD (eB mulD (eV 5) (eC (.int 69621))) (eV 3)) (eC (.int 2147483647)))))))) [some (.scr ns,0),some (.int (L:Int),0),some (.lst [],8+1),none,none,none]) (fun r=>∃(l:List Int)(o3 o4 o5:Option Sl),l.length=m/\(∀c∈l,0<=c)/\r=[some (.scr ns,0),some (.int (L:Int),0),some (.lst (l.map .int),8+1),o3,o4,o5]) by
  obtain⟨r',g,l,o3,o4,o5,h1,h2,rfl⟩:=zC3 key;refine⟨l,zD7 rfl (sg (d:=.lst []) (by simp) (by decide) (sw g ?_)),by lia,by lia,h2⟩;show sRetV 9 2 [some (.scr ns,0),some (.int (L:Int),0),some (.lst (l.map .int),8+1),o3,o4,o5]=_;simp[rowD]
 rw[zIR,zS3 (n:=m) (al0 (bi2 rfl (bi2 rfl (bi1 rfl rfl) hmin) hmax)) (by lia),zA0];refine zSX (fun k r=>∃(l:List Int)(o3 o4 o5:Option Sl),l.length=k/\(∀c∈l,0<=c)/\r=[some (.scr ns,0),some (.int (L:Int),0),some (.lst (l.map .int),8+1),o3,o4,o5]) ⟨[],none,none,none,rfl,fun c hc=>by simp at hc,rfl⟩ (fun k hk r hr=>?_) fun r hr=>hr
 obtain⟨l,o3,o4,o5,hlk,hl0,rfl⟩:=hr;refine nsw (ss (b2 (b2 rfl rfl (zLI (by decide) (by decide))) rfl (adi rfl)) (qAt _)) ?_;obtain⟨c,lv,hc,hif⟩:∃(c:Int)(lv:Nat),0<=c/\sIf (tB (eB (cmpD fun i j=>decide (j<i)) (eBi lenD (aCons (eV 0) aNil)) (eC (.int 0)))) (sSet 4 0 [0,3] (eB modD (eB ixD (eV 0) (eB modD (eV 3) (eBi lenD (aCons (eV 0) aNil)))) (eC (.int 1000003)))) sNil [some (.scr ns,0),some (.int (L:Int),0),some (.lst (l.map .int),8+1),some (.int (k:Nat),0),some (.int (7*(k:Int)+3),1),o5]=okR (.nx [some (.scr ns,0),some (.int (L:Int),0),some (.lst (l.map .int),8+1),some (.int (k:Nat),0),some (.int c,lv),o5]):=by
  by_cases h:0<ns.length
  ·have a1:=qBl (k:Int) (show(ns.length:Int)≠0 by lia);have a2:=qCa (k:Int) (show(0:Int)<ns.length by lia);obtain⟨q,hq⟩:∃q:Nat,(k:Int)%(ns.length:Int)=(q:Int):=⟨((k:Int)%(ns.length:Int)).toNat,by lia⟩
   refine⟨ns.getD q 0%1000003,0,qBl _ (by decide),st4 (tb1 (b2 (cmpl rfl) rfl (cmi (decide_eq_true (show(0:Int)<ns.length by lia))))) (ss (b2 (b2 rfl (b2 rfl (cmpl rfl) (mdi (by lia) hq)) (ixS (by lia))) rfl (mdi (by decide) rfl)) (qA6 0))⟩
  ·exact⟨7*(k:Int)+3,1,by lia,sf (tb1 (b2 (cmpl rfl) rfl (cmi (decide_eq_false (show ¬(0:Int)<ns.length by lia)))))⟩
 refine nsw hif ?_;have h1:mulD (.int (k:Int)) (.int (k:Int))=some (.int ((k:Int)*k)):=zLI (by lia) (by lia);refine nsw (ss (b2 (b2 (b2 (b2 (b2 (b2 rfl rfl (adi rfl)) rfl (zNF (by decide) (by decide))) (b2 (b2 rfl rfl h1) rfl (zNF (by decide) (by decide))) (adi rfl)) rfl (mdi (by decide) rfl)) rfl (zNF (by decide) (by decide))) rfl (mdi (by decide) rfl)) (qA6 0)) ?_;have hf:0<=((c+1)*48271+(k:Int)*k*7919)%1000000007*40692%2147483399:=qBl _ (by decide)
 generalize((c+1)*48271+(k:Int)*k*7919)%1000000007*40692%2147483399=f at hf
 refine zAY (app4 (d:=.int (f*2147483647+(f*69621+(k:Int))%2147483647)) rfl (b2 (b2 rfl rfl (zNF (by decide) (by decide))) (b2 (b2 (b2 rfl rfl (zNF (by decide) (by decide))) rfl (adi rfl)) rfl (mdi (by decide) rfl)) (adi rfl)) (by simp;lia) (qAt _) (qAt _)) ⟨l++[f*2147483647+(f*69621+(k:Int))%2147483647],_,_,_,by simp;lia,fun z hz=>?_,by rw[qBs];rfl⟩
 rcases qB0.mp hz with h|h
 ·exact hl0 z h
 ·rw[qAr]at h
  have:=qBl (f*69621+(k:Int)) (show(2147483647:Int)≠0 by decide)
  lia
theorem zXC(L:Nat)(hL:L<=63)(ns:List Int)(hl:ns.length<=63):∃cl:List Int,zCR [.scr ns,.int (L:Int)]=okR (rowD cl)/\L<=cl.length/\cl.length<=63/\∀c∈cl,0<=c:=by
 obtain⟨cm,em,m1,m2,m3⟩:=zW6 L hL ns hl;have hrm:sRet 1 9 [0,1] (eCall zBD (aCons (eV 0) (aCons (eV 1) aNil))) [some (.scr ns,0),some (.int (L:Int),0),none]=okR (.rt (rowD cm)):=sr (c2 rfl rfl em) ⟨by rw[zBE];decide,by rw[zBE];decide⟩
 by_cases h0:ns.length=0
 ·exact⟨cm,zD7 rfl (sx (to1 (eqi (cmpl rfl) rfl (decide_eq_true (by lia)))) hrm),m1,m2,m3⟩
 ·have x0:tB (eB eqD (eBi lenD (aCons (eV 0) aNil)) (eC (.int 0))) (full [some (.scr ns,0),some (.int (L:Int),0),none])=okR false:=eqi (cmpl rfl) rfl (decide_eq_false (by lia))
  by_cases h1:ns.getD 0 0%2=0
  ·exact⟨cm,zD7 rfl (sx (to0 x0 (eqi (b2 (b2 rfl rfl (ixS (k:=0) (by lia))) rfl (mdi (by decide) rfl)) rfl (decide_eq_true h1))) hrm),m1,m2,m3⟩
  ·obtain⟨T,hT,hpw⟩:∃T:Int,0<T/\powD (.int 10) (.int 60)=some (.int T):=⟨10 ^ (60:Int).toNat,by decide,@if_pos _ (qA1 _) ⟨by decide,by decide,by decide⟩ _ _ _⟩
   have hit:∀o:Option Dt,iSq (eSlZ (eV 0) oNo (oE (eC (.int 63)))) [some (.scr ns),some (.int (L:Int)),o]=okR (ns.map Dt.int):=fun o=>by
    show zA1 (optR (slZ (.scr ns) none (some 63))) _=_;rw[show slZ (.scr ns) none (some 63)=some (.scr ns) from @if_pos _ (qA1 _) (show(ns.length:Int)<=63 by lia) _ _ _];rfl
   have hc:eComp (iSq (eSlZ (eV 0) oNo (oE (eC (.int 63))))) 1 (.one 3) Mi.tYes (eB modD (eV 3) (eB powD (eC (.int 10)) (eC (.int 60)))) [some (.scr ns),some (.int (L:Int)),none]=okR (rowD (ns.map (·%T))):=by
    refine(zG3 Dt.int (fun x=>Dt.int (x%T)) ns rfl rfl (fun x _=>b2 rfl (b2 rfl rfl hpw) (mdi hT rfl)) _ (hit none) (by lia)).trans ?_;unfold rowD;rw[qAo];rfl
   have hrep:repD (.lst [.int 0]) (.int ((L:Int)-((ns.map (·%T)).length:Int)))=some (rowD (qA3 (L-ns.length) 0)):=by
    rw[qAm];unfold repD;dsimp only;rw[if_pos ⟨⟨by lia,by lia⟩,by simp;lia⟩,show((L:Int)-(ns.length:Int)).toNat=L-ns.length by lia]
    have:∀m:Nat,(qA3 m [Dt.int 0]).flatten=(qA3 m (0:Int)).map Dt.int:=fun m=>by
     induction m with
     |zero=>rfl
     |succ m ih=>rw[qAz,qBj,ih,qAz];rfl
    rw[this];rfl
   have hadd:addD (rowD (ns.map (·%T))) (rowD (qA3 (L-ns.length) 0))=some (rowD (ns.map (·%T)++qA3 (L-ns.length) 0)):=by
    unfold rowD;rw[qBs];exact @if_pos _ (qA1 _) (by simp;lia) _ _ _
   refine⟨ns.map (·%T)++qA3 (L-ns.length) 0,zD7 rfl (sp (to0 x0 (eqi (b2 (b2 rfl rfl (ixS (k:=0) (by lia))) rfl (mdi (by decide) rfl)) rfl (decide_eq_false h1))) (sg hc (by rw[zBE];exact qA6 1) (sr (b2 rfl (b2 (el1 rfl) (b2 rfl (bi1 rfl (lenR _)) (sbi rfl)) hrep) hadd) ⟨by rw[zBE];exact qA6 1,by rw[zBE];exact qA6 1⟩))),by simp;lia,by simp;lia,fun c hc=>?_⟩
   rcases qB0.mp hc with h|h
   ·obtain⟨x,_,rfl⟩:=qAb.mp h;exact qBl _ (by lia)
   ·rw[qDt h];exact Int.le_refl 0
abbrev dst(c:Int)(n:Nat)(left:List Nat)(ms:List Int)(o4 o5 o6:Option Sl):Ro:=[some (.int c,0),some (.int (n:Int),0),some (rowD (numL left),1),some (rowD ms,1),o4,o5,o6]
theorem zOD(c0:Int)(n:Nat)(hn:n<=20):∃ms,FW.NetL ms (4*n)/\zAZ [.int c0,.int (n:Int)]=okR (rowD ms):=by
 suffices h:eiR (zBN [some (.int c0,0),some (.int (n:Int),0),none,none,none,none,none]) (fun _=>False) (fun d=>∃ms,d=rowD ms/\FW.NetL ms (4*n)) by
  rcases h with⟨_,_,z⟩|⟨d,h1,ms,rfl,h2⟩
  ·exact z.elim
  ·exact⟨ms,h2,zD7 rfl h1⟩
 have m0:mulD (.int 4) (.int (n:Int))=some (.int ((4*n:Nat):Int)):=by
  rw[zLI (by lia) (by lia)]
  congr 2
 have m2:mulD (.int 2) (.int (n:Int))=some (.int ((2*n:Nat):Int)):=by
  rw[zLI (by lia) (by lia)]
  congr 2
 have hra:rangeD [.int ((4*n:Nat):Int)]=some (rowD (numL (qA7 (4*n)))):=by
  rw[zM2 (by lia) (by lia),show(((4*n:Nat):Int)).toNat=4*n by lia,zEX];rfl
 have hrp:=zGD (4*n) (by lia);unfold zBN;refine zCM (P:=fun r=>r=[some (.int c0,0),some (.int (n:Int),0),some (rowD (numL (qA7 (4*n))),1),none,none,none,none]) (zF8 ?_) ?_
 ·rw[ss (d:=rowD (numL (qA7 (4*n)))) (bi1 (b2 rfl rfl m0) hra) (by rw[zBE];exact qA6 _)];exact zAY rfl rfl
 rintro r rfl
 refine zCM (P:=fun r=>r=dst c0 n (qA7 (4*n)) (qA3 (4*n) 0) none none none) (zF8 ?_) ?_
 ·rw[ss (d:=rowD (qA3 (4*n) 0)) (b2 (el1 rfl) (b2 rfl rfl m0) hrp) (by rw[zBE];exact qA6 _)];exact zAY rfl rfl
 rintro r rfl
 refine zCM (P:=fun r=>∃(c:Int)(left:List Nat)(ms:List Int)(o4 o5 o6:Option Sl),r=dst c n left ms o4 o5 o6/\FW.Part left ms (4*n)/\left.length+2*(2*n)=4*n) (zF8 ?_) ?_
 ·have hit:iR1 (aCons (eB mulD (eC (.int 2)) (eV 1)) aNil) (full (dst c0 n (qA7 (4*n)) (qA3 (4*n) 0) none none none))=okR (nums 0 (2*n)):=zS3 (n:=2*n) (by
   rw[zBB,b2 (d:=.int ((2*n:Nat):Int)) rfl rfl m2,zA0,zCH,zA0]) (by lia)
  rw[zIR,hit,zA0];refine zSX (fun k r=>∃(c:Int)(left:List Nat)(ms:List Int)(o4 o5 o6:Option Sl),r=dst c n left ms o4 o5 o6/\FW.Part left ms (4*n)/\left.length+2*k=4*n) ⟨_,_,_,_,_,_,rfl,FW.Part.start (4*n) (by lia),by simp⟩ (fun k hk r hr=>?_) fun r hr=>?_
  ·obtain⟨c,left,ms,o4,o5,o6,rfl,hP,hll⟩:=hr
   match left,hll,hP with
   |[],hll,_=>simp at hll;lia
   |[x],hll,hP=>have:=hP.ev;simp at this
   |x::y::l,hll,hP=>
    simp only[qB1]at hll;have hx:=hP.lt x (by simp);have hml:=hP.len;refine zDK fun bb hb=>?_
    refine zAY (r:=dst c n (y::l) ms (some (.int (k:Nat),0)) (some (.int (x:Int),0)) o6) (zEK (i:=2) (j:=5) (l:=0) (ls:=numL (x::y::l)) (z:=0) rfl rfl (by lia) (by simp[numL];lia) (by lia) (by simp[numL];lia)) ?_;subst hb;have hnl:(numL (y::l)).length=l.length+1:=by simp[numL]
    obtain⟨z,hz⟩:∃z,c%((l.length+1:Nat):Int)=z:=⟨_,rfl⟩
    have z0:0<=z:=by rw[<- hz];exact qBl _ (by lia)
    have z1:z<((l.length+1:Nat):Int):=by rw[<- hz];exact qCa _ (by lia)
    have hmod:modD (.int c) (.int ((l.length+1:Nat):Int))=some (.int z):=by
     rw[<- hz];unfold modD;dsimp only;rw[if_pos (by omega)]
    have hly:lenD [rowD (numL (y::l))]=some (.int ((l.length+1:Nat):Int)):=by simp[rowD,lenD,numL]
    have he:eB modD (eV 0) (eBi lenD (aCons (eV 2) aNil)) (full (dst c n (y::l) ms (some (.int (k:Nat),0)) (some (.int (x:Int),0)) o6))=okR (.int z):=b2 rfl (bi1 rfl hly) hmod;have hzt:z.toNat<(y::l).length:=by simp;lia
    obtain⟨b',hb'⟩:∃b',(y::l)[z.toNat]?=some b':=⟨_,qA5 hzt⟩
    have gz:(numL (y::l)).getD z.toNat 0=(b':Int):=by
     unfold numL;rw[qA0,qAe,hb'];rfl
    have hbl:=hP.lt b' (by have:=qAw hb';simp at this ⊢;exact .inr this);have her:(numL (y::l)).eraseIdx z.toNat=numL ((y::l).eraseIdx z.toNat):=zO7 _ _ _;refine zDK fun bb hb=>?_
    have hpop:=zEK (i:=2) (j:=6) (l:=0) (ls:=numL (y::l)) (z:=z) (r:=dst c n (y::l) ms (some (.int (k:Nat),0)) (some (.int (x:Int),0)) o6) rfl he z0 (by rw[hnl];exact z1) (by lia) (by rw[hnl];lia);rw[gz,her]at hpop;refine zAY (r:=dst c n ((y::l).eraseIdx z.toNat) ms (some (.int (k:Nat),0)) (some (.int (x:Int),0)) (some (.int (b':Int),0))) hpop ?_;subst hb;have hel:=FW.len_erase hzt;simp only[qB1]at hel;have hl2:lenD [rowD (numL ((y::l).eraseIdx z.toNat))]=some (.int (((y::l).eraseIdx z.toNat).length:Int)):=by simp[rowD,lenD,numL]
    refine zDK fun bb hb=>?_
    refine zAY (ss (b2 rfl (b2 (bi1 rfl hl2) rfl (adi rfl)) (dvi ⟨by lia,by lia⟩)) (qA6 0)) ?_;subst hb
    generalize c/(((y::l).eraseIdx z.toNat).length+1:Int)=c'
    have hT:=FW.Part.turn (a:=x) (b:=b') (k:=z.toNat) (l:=y::l) hP hb';have s4:=zDQ (i:=3) (n:=0) (l:=0) (ls:=ms) (e1:=eV 5) (e2:=eV 6) (z:=(x:Int)) (v:=(b':Int)) (r:=dst c' n ((y::l).eraseIdx z.toNat) ms (some (.int (k:Nat),0)) (some (.int (x:Int),0)) (some (.int (b':Int),0))) rfl rfl rfl (by lia) (by lia);have s5:=zDQ (i:=3) (n:=0) (l:=0) (ls:=ms.set x (b':Int)) (e1:=eV 6) (e2:=eV 5) (z:=(b':Int)) (v:=(x:Int)) (r:=dst c' n ((y::l).eraseIdx z.toNat) (ms.set x (b':Int)) (some (.int (k:Nat),0)) (some (.int (x:Int),0)) (some (.int (b':Int),0))) rfl rfl rfl (by lia) (by rw[qDa];lia);rw[qBa]at s4 s5;refine zDK fun bb hb=>zAY s4 ?_
    subst hb;refine zAY s5 ⟨c',(y::l).eraseIdx z.toNat,(ms.set x (b':Int)).set b' (x:Int),_,_,_,rfl,hT,?_⟩
    lia
  ·exact hr
 rintro r ⟨c,left,ms,o4,o5,o6,rfl,hP,hll⟩
 have hle:left=[]:=qC6 (by lia);subst hle;refine .inr ⟨rowD ms,?_,ms,rfl,hP.done⟩;unfold sRetV;dsimp only[qBn,qBo];rw[if_pos (.inl rfl)]
theorem zYW(c:Int)(n:Nat)(hn:n<=20):∃ts,NetN ts (4*n)/\(∀x,x<4*n->nt ts x≠x)/\zAZ [.int c,.int (n:Int)]=okR (rowN ts):=by
 obtain⟨ms,h1,h2⟩:=zOD c n hn;obtain⟨ts,rfl,h3,h4⟩:=zQX h1;exact⟨ts,h3,h4,h2⟩
theorem zUG{l:List Nat}(h:l≠[])(n:Int):∃q:Nat,∃hq:q<l.length,modD (.int n) (.int (l.length:Int))=some (.int (q:Int)):=by
 have hp:=qF0.mpr h;have h0:=qBl n (show(l.length:Int)≠0 by omega);have h1:=qCa n (show(0:Int)<(l.length:Int) by omega);exact⟨(n%(l.length:Int)).toNat,by omega,by simp[hp];omega⟩
theorem zTO{lf es A:List Nat}{q:Nat}(hq:q<lf.length)(h:(lf++es).Perm A):(lf.eraseIdx q++(es++[lf[q]])).Perm A:=by
 refine List.Perm.trans ?_ h;have h1:=zEV lf hq;rw[<- qAu];refine(List.perm_append_singleton _ _).trans ?_;rw[<- qD1];exact h1.symm.append_right es
abbrev iN(k:Nat):Dt:=.int (k:Int)
theorem zR6(l:List Nat):rowN l=.lst (l.map iN):=by
 show rowD (l.map fun k:Nat=>(k:Int))=_;unfold rowD;rw[qAo];rfl
theorem zCQ(n:Nat)(w:Int)(hn:n<=500):∃o:List Nat,zBK [.int (n:Int),.int w]=okR (rowN o)/\o.Perm (qA7 n):=by
 have hrg:rangeD [.int (n:Int)]=some (.lst ((qA7 n).map iN)):=by
  unfold rangeD;dsimp only;rw[if_pos ⟨⟨by omega,by omega⟩,by omega⟩]
  congr 1
  rw[show((n:Int)).toNat=n from rfl,zCA]
 have hlen:∀lf:List Nat,lf.length<=1000->lenD [.lst (lf.map iN)]=some (.int (lf.length:Int)):=fun lf h=>by simp[lenD]
 suffices h:eiR (zCY [some (.int (n:Int),0),some (.int w,0),none,none]) (fun _=>False) (fun d=>∃o:List Nat,d=.lst (o.map iN)/\o.Perm (qA7 n)) by
  rcases h with⟨_,_,z⟩|⟨d,h1,o,rfl,h2⟩
  ·exact z.elim
  ·exact⟨o,by rw[zR6];exact zD7 rfl h1,h2⟩
 have dli:∀l:List Nat,(Dt.lst (l.map iN)).dep<=1:=fun l=>by rw[<- zR6,zBE];exact qA6 1
 unfold zCY;refine zCM (P:=fun r=>r=[some (.int (n:Int),0),some (.int w,0),some (.lst ((qA7 n).map iN),1),none]) (zF8 ?_) ?_
 ·rw[ss (bi1 rfl hrg) (dli _)];exact zAY rfl rfl
 rintro r rfl
 refine zCM (P:=fun r=>r=[some (.int (n:Int),0),some (.int w,0),some (.lst ((qA7 n).map iN),1),some (.lst (([]:List Nat).map iN),9)]) (zF8 (by simp)) ?_
 rintro r rfl
 refine zCM (P:=fun r=>∃w:Int,∃es:List Nat,r=[some (.int (n:Int),0),some (.int w,0),some (.lst [],1),some (.lst (es.map iN),9)]/\es.Perm (qA7 n)) (zF8 ?_) ?_
 ·refine zPT (fun r=>∃w:Int,∃lf es:List Nat,r=[some (.int (n:Int),0),some (.int w,0),some (.lst (lf.map iN),1),some (.lst (es.map iN),9)]/\(lf++es).Perm (qA7 n)) (zW7 2) (fun r=>∃w:Int,∃es:List Nat,r=[some (.int (n:Int),0),some (.int w,0),some (.lst [],1),some (.lst (es.map iN),9)]/\es.Perm (qA7 n)) ⟨w,qA7 n,[],rfl,by simp⟩ (by simp[zW7];omega) ?_ fun r h=>h
  rintro r ⟨w,lf,es,rfl,q1⟩
  have hl1:=q1.length_eq;rw[qAy,qDq]at hl1
  by_cases hl:lf=[]
  ·subst hl;exact .inl ⟨tb1 (b2 (bi1 rfl (hlen [] (by simp))) rfl (cmi (by simp))),w,es,rfl,by simpa using q1⟩
  ·obtain⟨q,hq,hm⟩:=zUG hl w;have hpos:=qF0.mpr hl;refine .inr ⟨tb1 (b2 (bi1 rfl (hlen lf (by omega))) rfl (cmi (decide_eq_true (by omega)))),?_⟩;have hap:=zP2 (j:=3) (i:=2) (k:=0) (l:=8) (z:=(q:Int)) (ds:=lf.map iN) (es:=es.map iN) (c:=iN lf[q]) (e:=eB modD (eV 1) (eBi lenD (aCons (eV 2) aNil))) (r:=[some (.int (n:Int),0),some (.int w,0),some (.lst (lf.map iN),1),some (.lst (es.map iN),9)]) rfl rfl (b2 rfl (bi1 rfl (hlen lf (by omega))) hm) (by omega) (by simp;omega) (by simp[hq]) rfl (by decide) (by simp;omega) (by simp;omega) (by omega);have he2:(lf.map iN).eraseIdx (q:Int).toNat=(lf.eraseIdx q).map iN:=by rw[qBa];exact zO6 _ _ _
   rw[he2]at hap;refine zDK fun bb hb=>zAY hap ?_
   subst hb;have hle:(lf.eraseIdx q).length<=500:=by rw[qBt hq];omega
   refine zAY (ss (b2 rfl (b2 (bi1 rfl (hlen (lf.eraseIdx q) (by omega))) rfl (adi rfl)) (dvi ⟨by omega,by omega⟩)) (qA6 0)) ⟨⟨w/(((lf.eraseIdx q).length:Int)+1),lf.eraseIdx q,es++[lf[q]],by simp,zTO hq q1⟩,?_⟩
   show((lf.eraseIdx q).map iN).length<(lf.map iN).length
   simp[qBt hq];omega
 rintro r ⟨w,es,rfl,h⟩
 exact .inr ⟨_,by simp,es,rfl,h⟩
theorem zVB{ts C:List Nat}{n:Nat}(hN:NetN ts (4*n))(n1:1<=n)(hC:C∈chA n):1<=rN ts n C:=by
 have hc:=chA_mem.mp hC;obtain⟨f,g,hf,hfl⟩:=zN4 hN hc.1 hc.2;obtain⟨hd,H⟩:=zQB hN hc.1 hc.2 hf;have hpow:=zTG hN hc.1 hc.2 H;obtain⟨r,hr,_⟩:=H.cov 0 (by omega);unfold rN;rw[hpow,qFv];omega
theorem zPE(a:List Int)(hz:a.length<=10000):zBP [rowD a,rowD a]=okR (.bl true):=by
 suffices h:eiR (zCF [some (rowD a,0),some (rowD a,0),none]) (fun _=>False) (fun d=>d=.bl true) by
  rcases h with⟨_,_,z⟩|⟨d,h1,rfl⟩
  ·exact z.elim
  ·exact zD7 rfl h1
 have hl:isiD "list" (rowD a)=some (.bl true):=rfl;have hi:∀k,isiD "int" (.int k)=some (.bl true):=fun _=>rfl
 have hbo:∀k,isiD "bool" (.int k)=some (.bl false):=fun _=>rfl
 have he:=zRQ a a;unfold zCF;refine zCM (P:=fun r=>r=[some (rowD a,0),some (rowD a,0),none]) (zF8 (by simp[hl])) ?_
 rintro r rfl
 refine zCM (P:=fun r=>∃o2,r=[some (rowD a,0),some (rowD a,0),o2]) (zF8 ?_) ?_
 ·unfold sFor;rw[show iSq (eV 0) (frz (frzAt [0] [some (rowD a,0),some (rowD a,0),none]))=okR (a.map Dt.int) by simp[rowD],zA0];show nxR (forGo (.one 2) _ (a.map Dt.int) [some (rowD a,0),some (rowD a,0),none]) _;refine zNB Dt.int a (fun _ r=>∃o2,r=[some (rowD a,0),some (rowD a,0),o2]) ⟨none,rfl⟩ (fun q x hx r hr=>?_) fun r h=>h
  obtain⟨o2,rfl⟩:=hr;refine zAY (r:=[some (rowD a,0),some (rowD a,0),some (.int x,0)]) (by simp[hi,hbo]) ⟨_,rfl⟩
 rintro r ⟨o2,rfl⟩
 exact .inr ⟨.bl true,by simp[he],rfl⟩
theorem zY9{n:Nat}(n1:1<=n)(hn:n<=6){ρ:Rh}{e:EM}(he:e ρ=okR (.int (n:Int))):eB ixD (eLst (aCons (eC (.int 1)) (aCons (eC (.int 3)) (aCons (eC (.int 9)) (aCons (eC (.int 27)) (aCons (eC (.int 81)) (aCons (eC (.int 243)) (aCons (eC (.int 729)) aNil)))))))) e ρ=okR (.int ((3 ^ n:Nat):Int)):=by
 refine b2 (d1:=.lst [.int 1,.int 3,.int 9,.int 27,.int 81,.int 243,.int 729]) (by simp) he ?_
 have:n=1\/n=2\/n=3\/n=4\/n=5\/n=6:=by omega
 rcases this with rfl|rfl|rfl|rfl|rfl|rfl<;>exact zFZ (j:=_) rfl rfl
theorem zZ2:∀{l:List Int},l≠[]->(∀x∈l,0<=x)->∃b,0<=b/\minL [rowD l]=some (.int b):=fun{l} h h0=>by
 have e:∀l:List Int,intsD (l.map Dt.int)=some l:=fun l=>by
  induction l with
  |nil=>rfl
  |cons a r ih=>rw[qAj];unfold intsD;rw[ih];rfl
 have b:∀l:List Int,l≠[]->(∀x∈l,0<=x)->0<=botI l:=fun l=>by
  induction l with
  |nil=>intro z;exact absurd rfl z
  |cons a r ih=>
   intro _ h;cases r with
   |nil=>exact h a (by simp)
   |cons c t=>
    have h1:=h a (by simp);have h2:=ih (by simp) fun x hx=>h x (qA9 _ hx)
    show 0<=min a (botI (c::t));omega
 cases l with
 |nil=>exact absurd rfl h
 |cons a r=>
  refine⟨botI (a::r),b _ h h0,?_⟩
  show(match intsD ((a::r).map Dt.int)with
   |some (n::ns)=>some (Dt.int (botI (n::ns)))
   |_=>none)=_
  rw[e]
noncomputable abbrev ordE:EM:=eB addD (eComp (iR2 (aCons (eC (.int 1)) (aCons (eC (.int 4)) aNil))) 1 (.one 8) Mi.tYes (eCall zBK (aCons (eV 2) (aCons (eB ixD (eV 1) (eV 8)) aNil)))) (eLst (aCons (eBi rvrD (aCons (eV 2) aNil)) aNil))
theorem zVQ{n:Nat}{cl:List Int}(hn:n<=6)(hc:16<=cl.length):∃os:List (List Nat),os.length=4/\(∀o∈os,o.Perm (qA7 n))/\∀ρ:Rh,ρ.length=8->ρ[1]?=some (some (rowD cl))->ρ[2]?=some (some (.int (n:Int)))->ordE ρ=okR (.lst (os.map fun o=>rowN o)):=by
 obtain⟨o1,e1,p1⟩:=zCQ n (cl.getD 1 0) (by omega);obtain⟨o2,e2,p2⟩:=zCQ n (cl.getD 2 0) (by omega);obtain⟨o3,e3,p3⟩:=zCQ n (cl.getD 3 0) (by omega);refine⟨[o1,o2,o3,(qA7 n).reverse],rfl,fun o ho=>?_,fun ρ hρ h1 h2=>?_⟩
 ·simp only[qAd,qD2,or_false]at ho
  rcases ho with rfl|rfl|rfl|rfl
  ·exact p1
  ·exact p2
  ·exact p3
  ·exact List.reverse_perm _
 ·have rv:rvrD [.int (n:Int)]=some (rowN (qA7 n).reverse):=by
   unfold rvrD;dsimp only;refine(@if_pos _ (qA1 _) ⟨by omega,by omega⟩ _ _ _).trans ?_;rw[show((n:Int)).toNat=n from rfl,zCA];show some (Dt.lst _)=some (Dt.lst _);rw[qAo,List.map_reverse];rfl
  have it:iR2 (aCons (eC (.int 1)) (aCons (eC (.int 4)) aNil)) ρ=okR (([1,2,3]:List Nat).map fun k:Nat=>Dt.int (k:Int)):=by
   unfold iR2;rw[show aCons (eC (.int 1)) (aCons (eC (.int 4)) aNil) ρ=okR [.int 1,.int 4] from rfl,zA0];exact @if_pos _ (qA1 _) (by decide) _ _ _
  have el:∀k:Nat,k∈[1,2,3]->eCall zBK (aCons (eV 2) (aCons (eB ixD (eV 1) (eV 8)) aNil)) (ρ++[some (.int (k:Int))])=okR (rowN (if k=1 then o1 else if k=2 then o2 else o3)):=fun k hk=>by
   have v2:eV 2 (ρ++[some (.int (k:Int))])=okR (.int (n:Int)):=v1 (by rw[qA8 (by omega)];exact h2);have v1':eV 1 (ρ++[some (.int (k:Int))])=okR (rowD cl):=v1 (by rw[qA8 (by omega)];exact h1);have v8:eV 8 (ρ++[some (.int (k:Int))])=okR (.int (k:Int)):=v1 (by rw[qAc (by omega),hρ];rfl);have ix:∀k:Nat,k<16->ixD (rowD cl) (.int (k:Int))=some (.int (cl.getD k 0)):=fun k h=>zTA _ _ (by omega)
   simp only[qAd,qD2,or_false]at hk
   rcases hk with rfl|rfl|rfl
   ·exact c2 v2 (b2 v1' v8 (ix 1 (by decide))) e1
   ·exact c2 v2 (b2 v1' v8 (ix 2 (by decide))) e2
   ·exact c2 v2 (b2 v1' v8 (ix 3 (by decide))) e3
  have cm:=zG3 (c:=Mi.tYes) (i:=8) (fun k:Nat=>Dt.int (k:Int)) (fun k=>rowN (if k=1 then o1 else if k=2 then o2 else o3)) [1,2,3] rfl hρ.symm el _ it (by simp);refine b2 cm (el1 (bi1 (v1 h2) rv)) ?_;exact @if_pos _ (qA1 _) (by simp) _ _ _
theorem zQ2(ns:List Int)(hl:ns.length<=63)(hw:∀i∈ns,i.natAbs.log2<2 ^ 20):zHV [.scr ns]=okR (.bl true):=by
 obtain⟨cl,ec,c16,c63,cn⟩:=zXC 16 (by decide) ns hl;have cix:∀{k:Nat},k<cl.length->ixD (rowD cl) (.int (k:Int))=some (.int (cl.getD k 0)):=fun h=>zTA _ _ h
 have g0:=cn _ (getD_mem (d:=0) (show 0<cl.length by omega));obtain⟨n,hn⟩:∃n:Nat,1+cl.getD 0 0/2%6=(n:Int):=⟨(1+cl.getD 0 0/2%6).toNat,by omega⟩
 have n1:1<=n:=by omega
 have n6:n<=6:=by omega
 obtain⟨ts0,hN0,hne0,enet⟩:=zYJ (cl.drop 4) n (by omega) (by simp;omega) (by simp;omega);have s4:slD (rowD cl) (some 4) none=some (rowD (cl.drop 4)):=by
  show some (Dt.lst (cutA (cl.map Dt.int) (some ((4:Nat):Int)) none))=_;rw[zQR,<- List.map_drop];rfl
 obtain⟨ts,hif,hN,hne⟩:∃(ts:List Nat),(sIf (tAn (tB (eB (cmpD fun i j=>decide (j<i)) (eBi lenD (aCons (eV 0) aNil)) (eC (.int 0)))) (tB (eB eqD (eB modD (eB ixD (eV 0) (eC (.int 0))) (eC (.int 2))) (eC (.int 1))))) (sSet 3 1 [2,1] (eCall zAZ (aCons (eB ixD (eV 1) (eC (.int 4))) (aCons (eV 2) aNil)))) sNil) [some (.scr ns,0),some (rowD cl,1),some (.int (n:Int),1),some (rowN ts0,1),none,none,none,none]=okR (.nx [some (.scr ns,0),some (rowD cl,1),some (.int (n:Int),1),some (rowN ts,1),none,none,none,none])/\NetN ts (4*n)/\∀x,x<4*n->nt ts x≠x:=by
  by_cases h0:0<ns.length
  ·have t1:tB (eB (cmpD fun i j=>decide (j<i)) (eBi lenD (aCons (eV 0) aNil)) (eC (.int 0))) (full [some (.scr ns,0),some (rowD cl,1),some (.int (n:Int),1),some (rowN ts0,1),none,none,none,none])=okR true:=tb1 (b2 (cmpl rfl) rfl (cmi (decide_eq_true (show(0:Int)<ns.length by omega))));have t2:∀k,decide (ns.getD 0 0%2=1)=k->tB (eB eqD (eB modD (eB ixD (eV 0) (eC (.int 0))) (eC (.int 2))) (eC (.int 1))) (full [some (.scr ns,0),some (rowD cl,1),some (.int (n:Int),1),some (rowN ts0,1),none,none,none,none])=okR k:=fun k h=>eqi (b2 (b2 rfl rfl (ixS (k:=0) (by omega))) rfl (mdi (by decide) rfl)) rfl h
   by_cases h1:ns.getD 0 0%2=1
   ·obtain⟨ts,a,b,e⟩:=zYW (cl.getD 4 0) n (by omega);exact⟨ts,st4 (ta1 t1 (t2 true (decide_eq_true h1))) (ss (c2 (b2 rfl rfl (cix (k:=4) (by omega))) rfl e) (by rw[zBE];exact qA6 1)),a,b⟩
   ·exact⟨ts0,sf (ta1 t1 (t2 false (decide_eq_false h1))),hN0,hne0⟩
  ·exact⟨ts0,sf (ta0 (tb1 (b2 (cmpl rfl) rfl (cmi (decide_eq_false (show ¬(0:Int)<ns.length by omega)))))),hN0,hne0⟩
 have hct:∀od o,o.Perm (qA7 n)->((od=.non/\o=qA7 n)\/od=rowN o)->zB8 [rowN ts,od]=okR (rowD (hst ((chA n).map (rN ts n)))):=fun od o ho h=>zI7 hN hne n6 ho h
 have hne':(chA n).map (rN ts n)≠[]:=fun z=>zXB n (qEw.mp z)
 have hrl:((chA n).map (rN ts n)).length=3 ^ n:=by rw[qAm,zOR]
 have hle:∀x∈(chA n).map (rN ts n),1<=x/\x<=12:=fun x hx=>by
  obtain⟨C,hC,rfl⟩:=qAb.mp hx
  have:=zY8 hN hne hC
  exact⟨zVB hN n1 hC,by omega⟩
 have h729:3 ^ n<=729:=by
  have:3 ^ n<=3 ^ 6:=qEn (by omega) n6
  omega
 rw[zWN hne']at hct
 generalize(chA n).map (rN ts n)=rs at hct hne' hrl hle
 have hsum:=zUL (rs:=rs) (fun x hx=>by have:=hle x hx;omega) (by omega);rw[hrl]at hsum;have hmb:=zKF fun x hx=>(hle x hx).2
 have hmm:=zKE hne';have hm1:=(hle _ hmm).1;have hDl:(cv rs).length=mx rs+1:=by simp[cv]
 have hD0:(cv rs).getD 0 0=0:=by
  unfold cv;simp;exact qCs.mpr fun z=>by have:=hle _ z;omega
 have hDm:(cv rs).getD (mx rs) 0≠0:=by
  unfold cv;simp;exact fun z=>qCs.mp z hmm
 have hDp:∀x∈cv rs,0<=x:=fun x hx=>by
  obtain⟨k,_,rfl⟩:=qAb.mp hx;omega
 obtain⟨b,hb0,hbm⟩:=zZ2 (l:=cv rs) (by intro z;rw[z]at hDl;simp at hDl) hDp
 generalize cv rs=D at hct hsum hDl hD0 hDm hbm
 have sD:=zPE D (by omega);have dl:∀(l:List Int),(rowD l).dep<=1:=fun l=>by rw[zBE];exact qA6 1
 have hcD:∀ρ:Rh,ρ[3]?=some (some (rowN ts))->eCallD zB8 (aCons (eV 3) aNil) ρ=okR (rowD D):=fun ρ h=>by
  unfold eCallD;rw[zBB,v1 h,zA0,zCH,zA0,zA0];exact hct .non (qA7 n) (qEs _) (.inl ⟨rfl,rfl⟩)
 have hlast:ixD (rowD D) (.int (-1))=some (.int (D.getD (mx rs) 0)):=by
  show itA (D.map Dt.int) (-1)=_
  have:mx rs<D.length:=by omega
  unfold itA ixA;rw[qAm,hDl,if_neg (by omega),if_pos (by omega),show(-1+((mx rs+1:Nat):Int)).toNat=mx rs by omega]
  show(D.map Dt.int)[mx rs]?=_
  rw[qAe,qA0,qA5 this];rfl
 obtain⟨os,ol,op,oe⟩:=zVQ (n:=n) (cl:=cl) n6 c16;have hdep:∀os:List (List Nat),0<os.length->¬(Dt.lst (os.map fun o=>rowN o)).dep<=1:=fun os h=>by
  cases os with
  |nil=>simp at h
  |cons a t=>
   show ¬Dt.depL (rowN a::t.map fun o=>rowN o)+1<=1
   have:(rowN a).dep=1:=zBE _
   simp only[Dt.depL,this];omega
 refine zD7 rfl (sg (c2 rfl rfl ec) (dl _) (sg (b2 rfl (b2 (b2 (b2 rfl rfl (cix (k:=0) (by omega))) rfl (dvi (by decide))) rfl (mdi (by decide) rfl)) (adi hn)) (qAt _) (sg (c2 (sl1 rfl rfl s4) rfl enet) (dl _) (sw hif (sg (hcD _ rfl) (dl _) (sp (to0 (tn1 (k:=true) (tm1 rfl)) (to0 (tn1 (k:=true) (tm1 (c2 rfl (bi1 rfl rfl) sD))) (nei (bi1 rfl hsum) (zY9 n1 n6 rfl) (by simp)))) (sp (to0 (tb1 (b2 (bi1 rfl hbm) rfl (cmi (decide_eq_false (by omega))))) (to0 (nei (b2 rfl rfl (zTA D 0 (by omega))) rfl (by rw[hD0];rfl)) (eqi (b2 rfl rfl hlast) rfl (decide_eq_false hDm)))) ?_)))))));refine zMH fun bb hb=>?_
 have hset:nxR (sSet 5 1 [2,1] ordE [some (.scr ns,0),some (rowD cl,1),some (.int (n:Int),1),some (rowN ts,1),some (rowD D,1),none,none,none]) fun r=>r=[some (.scr ns,0),some (rowD cl,0),some (.int (n:Int),0),some (rowN ts,1),some (rowD D,1),some (.lst (os.map fun o=>rowN o),1),none,none]:=by
  rw[zFM,oe _ rfl rfl rfl,zA0,if_neg (hdep os (by omega)),oe _ rfl rfl rfl,zA0];exact zAY rfl rfl
 refine zAY (zC3 hset).choose_spec.1 ?_;rw[(zC3 hset).choose_spec.2];subst hb;refine zMH fun bb hb=>?_
 have hpick:nxR (sIf (tB (eB (cmpD fun i j=>decide (j<i)) (eV 2) (eC (.int 5)))) (sSet 5 1 [5,1] (eLst (aCons (eB ixD (eV 5) (eB modD (eB ixD (eV 1) (eC (.int 1))) (eC (.int 4)))) aNil))) sNil [some (.scr ns,0),some (rowD cl,0),some (.int (n:Int),0),some (rowN ts,1),some (rowD D,1),some (.lst (os.map fun o=>rowN o),1),none,none]) fun r=>∃(us:List (List Nat))(l:Nat),us.length<=4/\(∀o∈us,o.Perm (qA7 n))/\r=[some (.scr ns,0),some (rowD cl,0),some (.int (n:Int),0),some (rowN ts,1),some (rowD D,1),some (.lst (us.map fun o=>rowN o),l),none,none]:=by
  by_cases h5:5<n
  ·have g1:=cn _ (getD_mem (d:=0) (show 1<cl.length by omega));obtain⟨q,hq⟩:∃q:Nat,cl.getD 1 0%4=(q:Int):=⟨(cl.getD 1 0%4).toNat,by omega⟩
   have hq4:q<os.length:=by omega
   have he:∀ρ:Rh,ρ[1]?=some (some (rowD cl))->ρ[5]?=some (some (.lst (os.map fun o=>rowN o)))->eLst (aCons (eB ixD (eV 5) (eB modD (eB ixD (eV 1) (eC (.int 1))) (eC (.int 4)))) aNil) ρ=okR (.lst ([os[q]].map fun o=>rowN o)):=fun ρ h1 h2=>el1 (b2 (v1 h2) (b2 (b2 (v1 h1) rfl (cix (k:=1) (by omega))) rfl (mdi (by decide) hq)) (zFZ (j:=q) rfl (by rw[qAe,qA5 hq4];rfl)))
   rw[st4 (tb1 (b2 rfl rfl (cmi (decide_eq_true (show(5:Int)<n by omega))))) rfl,zFM,he _ rfl rfl,zA0,if_neg (hdep [os[q]] (by simp)),he _ rfl rfl,zA0];exact zAY rfl ⟨[os[q]],1,by simp,fun o ho=>by rw[qAr.mp ho];exact op _ (qAx hq4),rfl⟩
  ·exact zAY (sf (tb1 (b2 rfl rfl (cmi (decide_eq_false (show ¬(5:Int)<n by omega)))))) ⟨os,1,by omega,op,rfl⟩
 obtain⟨r,hr,us,l,ul,up,rfl⟩:=zC3 hpick;refine zAY hr ?_;subst hb;refine zMH fun bb hb=>?_
 unfold sFor;rw[show iSq (eV 5) (frz (frzAt [5] [some (.scr ns,0),some (rowD cl,0),some (.int (n:Int),0),some (rowN ts,1),some (rowD D,1),some (.lst (us.map fun o=>rowN o),l),none,none]))=okR (us.map fun o=>rowN o) from rfl,zA0];show nxR (forGo (.one 6) _ (us.map fun o=>rowN o) [some (.scr ns,0),some (rowD cl,0),some (.int (n:Int),0),some (rowN ts,1),some (rowD D,1),some (.lst (us.map fun o=>rowN o),0),none,none]) _;refine zNB (fun o=>rowN o) us (fun _ r=>∃(o6 o7:Option Sl),r=[some (.scr ns,0),some (rowD cl,0),some (.int (n:Int),0),some (rowN ts,1),some (rowD D,1),some (.lst (us.map fun o=>rowN o),0),o6,o7]) ⟨none,none,rfl⟩ (fun q o ho r hr=>?_) fun r hr=>?_
 ·obtain⟨o6,o7,rfl⟩:=hr;have hp:=up o (qAw ho);have hc:=hct (rowN o) o hp (.inr rfl);have heq:Dt.eq (rowN o) (rowN o)=true:=by rw[zRQ];simp
  refine zAY (sw (ss (d:=rowN o) (bi1 rfl rfl) (dl _)) (sf (to0 (tn1 (k:=true) (tm1 (c2 (c2 (d1:=rowN ts) (d2:=rowN o) rfl rfl hc) rfl sD))) (ned (x:=rowN o) (y:=rowN o) rfl rfl (qAn (dl _) (by decide)) (qAn (dl _) (by decide)) heq rfl)))) ⟨_,_,rfl⟩
 ·obtain⟨o6,o7,rfl⟩:=hr;subst hb;exact sr rfl ⟨qA6 0,qA6 0⟩
end Mp
set_option maxHeartbeats 4000000
namespace Q72
open PySem PyProof.Rows
open L2 hiding Rep RepL
open L3
open Mp
noncomputable def top(i:Nat):Stmt:=qDk.main.body.getD i (.Pass ⟨0,0,0,0⟩)
theorem S__law_mixed:FnScope ["_law_script","_law_least","_law_made","_law_k","_law_cell","_law_first"] ["_law_script","_law_least"] (zAA (top 18)):=fsc
theorem S__law_cells:FnScope ["_law_script","_law_least","_law_made"] ["_law_script","_law_least"] (zAA (top 19)):=fsc
theorem S__law_digit_net:FnScope ["_law_cell","_law_size","_law_ends","_law_net_here","_law_k","_law_one","_law_other"] ["_law_cell","_law_size"] (zAA (top 21)):=fsc
theorem S__law_net:FnScope ["_law_cells_here","_law_size","_law_ends","_law_net_here","_law_k","_law_one","_law_cell","_law_other"] ["_law_cells_here","_law_size"] (zAA (top 20)):=fsc
theorem S__law_order:FnScope ["_law_size","_law_cell","_law_left","_law_order_here"] ["_law_size","_law_cell"] (zAA (top 23)):=fsc
theorem S__law_row_is:FnScope ["_law_found","_law_due","_law_number"] ["_law_found","_law_due"] (zAA (top 22)):=fsc
theorem zJT:FnScope ["net"] ["net"] (zAA (top 5)):=fsc
theorem S_join_ends:FnScope ["ties","one","other","far","near"] ["ties","one","other"] (zAA (top 14)):=fsc
theorem zQU:FnScope ["way","seat"] ["way","seat"] (zAA (top 9)):=fsc
theorem S_join_place:FnScope ["ties","place","way","closed","seat","mate"] ["ties","place","way"] (zAA (top 13)):=fsc
theorem zLY:FnScope ["counts","k"] ["counts","k"] (zAA (top 16)):=fsc
theorem S_summed:FnScope ["one","other","longest"] ["one","other"] (zAA (top 15)):=fsc
theorem S_without_place:FnScope ["counted","place","left","ties","way","joint","closed","ahead"] ["counted","place"] (zAA (top 12)):=fsc
theorem S_counts_of:FnScope ["net","order","places","counted","place"] ["net","order"] (zAA (top 11)):=fsc
theorem S_law:FnScope ["_law_script","_law_cells_here","_law_size","_law_net_here","_law_due","_law_orders","_law_order_here","_law_handed"] ["_law_script"] (zAA (top 24)):=fsc
section
variable{P:qHr}{w:World}{K:qA2}{mg:Str->Option Value}{base:Heap}
structure Bd(K:qA2)(mg:Str->Option Value):Prop where
 d0:Def K mg "_law_mixed" (top 18)
 d1:Def K mg "_law_cells" (top 19)
 d2:Def K mg "_law_digit_net" (top 21)
 d3:Def K mg "_law_net" (top 20)
 d4:Def K mg "_law_order" (top 23)
 d5:Def K mg "_law_row_is" (top 22)
 d6:Def K mg "places_in" (top 5)
 d7:Def K mg "join_ends" (top 14)
 d8:Def K mg "joined" (top 9)
 d9:Def K mg "join_place" (top 13)
 d10:Def K mg "count_at" (top 16)
 d11:Def K mg "summed" (top 15)
 d12:Def K mg "without_place" (top 12)
 d13:DefD K mg "counts_of" (top 11)
 e0:mg "bool" = none
 e1:mg "int" = none
 e2:mg "isinstance" = none
 e3:mg "len" = none
 e4:mg "list" = none
 e5:mg "max" = none
 e6:mg "min" = none
 e7:mg "range" = none
 e8:mg "reversed" = none
 e9:mg "sum" = none
 e10:mg "tuple" = none
structure Bn(P:qHr)(w:World)(K:qA2)(mg:Str->Option Value)(base:Heap):Type where
 S:Bd K mg
 u_SEATS:Value
 u_ALL_WAYS:Addr
 a_TooMany:Addr
 u_MOST_CHOSEN:Value
 c_SEATS:RelV (V.int 4) u_SEATS/\mg "SEATS" = some u_SEATS
 c_ALL_WAYS:KTup K u_ALL_WAYS [0,1,2]/\mg "ALL_WAYS" = some (.ref u_ALL_WAYS)
 c_MOST_CHOSEN:RelV (V.int 6) u_MOST_CHOSEN/\mg "MOST_CHOSEN" = some u_MOST_CHOSEN
 z_TooMany:XNo K mg "TooMany" a_TooMany
variable(B:Bn P w K mg base)
include B
theorem zGK:Has P w K mg base "_law_mixed" 1 ["_law_script","_law_least"] (sp0 K mg 9 zBD):=by
 letI:Kc:=⟨K⟩
 exact dfM B.S.d0 S__law_mixed (fun _ _ _ _ _ _=>uw2 fun _ _=>rfl) fun hr hu h=>⟨_,(zA9 (pst 2 S__law_mixed.nd (zCP zA8))
   (zA9 (zC9 qI4 rfl (zCO rfl B.S.e7 (zA2 (zAJ (zIA rfl) rfl B.S.e5 boot_max (zA2 (pn 1) (zA2 (zAJ (zOU rfl) rfl B.S.e6 boot_min (zA2 zAD (zA2 (zAJ (zB9 (K:=K)) rfl B.S.e3 qI7 (zA2 (pn 0) zA8)) zA8))) zA8))) zA8)) (zC2 (i:=3) S__law_mixed.nd rfl oi) (zA9 (pst 4 S__law_mixed.nd (zAL zCL (zAL zBS zAD (pn 3)) zAD))
   (zA9 (zEH (zCJ u_gt (zAJ (zB9 (K:=K)) rfl B.S.e3 qI7 (zA2 (pn 0) zA8)) zAD (zBC _)) (zAI (pst 4 S__law_mixed.nd (zAL zDI (zDE (zDC (K:=K)) (pn 0) (zAL zDI (pn 3) (zAJ (zB9 (K:=K)) rfl B.S.e3 qI7 (zA2 (pn 0) zA8))) (fun _ _=>rfl)) zAD))) zBL)
   (zA9 (pst 5 S__law_mixed.nd (zAL zDI (zAL zBS (zAL zDI (zAL zCL (zAL zBS (zAL zCL (pn 4) zAD) zAD) (zAL zBS (zAL zBS (pn 3) (pn 3)) zAD)) zAD) zAD) zAD))
   (zAI (zMT (zIY qB6 qDu qDv zNH (pn 2) (zA2 (zAL zCL (zAL zBS (pn 5) zAD) (zAL zDI (zAL zCL (zAL zBS (pn 5) zAD) (pn 3)) zAD)) zA8))))))))
   (zAI (zB5 (pn 2))))),(zC4 (zAK (zAT (n:=9) [] (zCU (n:=8) zAC))
   (zAK (zGU (zOF (zA3 (zB7 zRZ (zA3 (de_v 1) (zA3 (zB7 zXE (zA3 zAB (zA3 (zB7 zBA (zA3 (de_v 0) zAC)) zAC))) zAC))) zAC)) (zAK (zAT (n:=1) [3] (zAG zBO (dz (zAG zBT (dz zAB) (de_v 3))) (dz zAB)))
   (zAK (zFA (dt_b (dz (zAG zE7 (dz (zB7 zBA (zA3 (de_v 0) zAC))) (dz zAB)))) (zAT (n:=0) [0,3] (zAG zBW (zAG zDD (de_v 0) (dz (zAG zBW (de_v 3) (dz (zB7 zBA (zA3 (de_v 0) zAC)))))) (dz zAB))) zCI)
   (zAK (zAT (n:=0) [4,3] (zAG zBW (dz (zAG zBT (dz (zAG zBW (zAG zBO (dz (zAG zBT (zAG zBO (de_v 4) (dz zAB)) (dz zAB))) (dz (zAG zBT (dz (zAG zBT (de_v 3) (de_v 3))) (dz zAB)))) (dz zAB))) (dz zAB))) (dz zAB)))
   (zWY 2 (n:=1) (zAG zBO (dz (zAG zBT (de_v 5) (dz zAB))) (dz (zAG zBW (zAG zBO (dz (zAG zBT (de_v 5) (dz zAB))) (de_v 3)) (dz zAB)))))))))
   (zF9 2))) h)⟩
theorem zGL:Has P w K mg base "_law_cells" 2 ["_law_script","_law_least"] (sp0 K mg 1 zCR):=by
 letI:Kc:=⟨K⟩
 exact dfM B.S.d1 S__law_cells (fun _ _ _ _ _ _=>uw2 fun _ _=>rfl) fun hr hu h=>⟨_,(zA9 (zEH (pt_w (zHM (zCJ (u_eq hu) (zAJ (zB9 (K:=K)) rfl B.S.e3 qI7 (zA2 (pn 0) zA8)) zAD (zBC _)) (zFS (zCJ (u_eq hu) (zAL zDI (zDE (zDC (K:=K)) (pn 0) zAD (fun _ _=>rfl)) zAD) zAD (zBC _))))) (zAI (zB5 (zD4 (zGK B) (by decide) hr rfl (zA2 (pn 0) (zA2 (pn 1) zA8))))) zBL)
   (zA9 (zLD (i:=2) S__law_cells.nd rfl oi rfl (cn ["0","1","2","_law_cell"] 1 (by kernel_rfl)) (zFU (K:=K) (zK8 (zXU (K:=K)) (pn 0) zMW (zMV zAD))) (fun _ _ _ _=>(pgn 3)) (fun _ _ _ _=>zGG) (fun _ _ _ _=>(zAL zDI (pn 3) (zAL zXV zAD zAD))))
   (zAI (zB5 (zAL zCL (pn 2) (zAL zP8 (zCP (zA2 zAD zA8)) (zAL zXT (pn 1) (zAJ (zB9 (K:=K)) rfl B.S.e3 qI7 (zA2 (pn 2) zA8))))))))),(zC4 (zAK (zFA (zI4 (dt_b (dz (zAG zL9 (dz (zB7 zBA (zA3 (de_v 0) zAC))) (dz zAB)))) (dt_b (dz (zAG zL9 (dz (zAG zBW (zAG zDD (de_v 0) (dz zAB)) (dz zAB))) (dz zAB))))) (zC7 (n:=9) [0,1] (zBM (zA3 (de_v 0) (zA3 (de_v 1) zAC)))) zCI)
   (zAK (zAT (n:=1) [0] (zGV (n:=0) (zG2 (zX5 (de_v 0) zX0 (do_e (dz zAB)))) (zC1 3) zKN (zAG zBW (de_v 3) (dz (zAG zUW (dz zAB) (dz zAB))))))
   (zC7 (n:=1) [2,1] (zAG zBO (de_v 2) (zAG zJZ (zCU (n:=0) (zA3 zAB zAC)) (dz (zAG zUV (de_v 1) (dz (zB7 zBA (zA3 (de_v 2) zAC)))))))))) h)⟩
theorem zDZ:Has P w K mg base "_law_digit_net" 1 ["_law_cell","_law_size"] (sp0 K mg 1 zAZ):=by
 letI:Kc:=⟨K⟩
 exact dfM B.S.d2 S__law_digit_net (fun _ _ _ _ _ _=>uw2 fun _ _=>rfl) fun hr hu h=>⟨_,(zA9 (pst 2 S__law_digit_net.nd (zAP (zDG (K:=K) rfl) rfl B.S.e4 qIx (zA2 (zAP zF3 rfl B.S.e7 qJb (zA2 (zAL zBS zAD (pn 1)) zA8)) zA8)))
   (zA9 (pst 3 S__law_digit_net.nd (zAL zP8 (zCP (zA2 zAD zA8)) (zAL zBS zAD (pn 1))))
   (zA9 (zC9 qI4 rfl (zCO rfl B.S.e7 (zA2 (zAL zBS zAD (pn 1)) zA8)) (zC2 (i:=4) S__law_digit_net.nd rfl oi) (zA9 (pst 5 S__law_digit_net.nd (zIY qB6 qBy qBz zEZ (pn 2) (zA2 zAD zA8)))
   (zA9 (pst 6 S__law_digit_net.nd (zIY qB6 qBy qBz zEZ (pn 2) (zA2 (zAL zDI (pn 0) (zAJ (zB9 (K:=K)) rfl B.S.e3 qI7 (zA2 (pn 2) zA8))) zA8)))
   (zA9 (pst 0 S__law_digit_net.nd (zAL zFN (pn 0) (zAL zCL (zAJ (zB9 (K:=K)) rfl B.S.e3 qI7 (zA2 (pn 2) zA8)) zAD)))
   (zA9 (zE8 (pn 6) (zE9 (pn 3) (pn 5) zHD))
   (zAI (zE8 (pn 5) (zE9 (pn 3) (pn 6) zHD))))))))
   (zAI (zB5 (pn 3)))))),(zC4 (zAK (zAT (n:=1) [1] (zC0 (zA3 (zAG zBT (dz zAB) (de_v 1)) zAC)))
   (zAK (zAT (n:=1) [1] (zAG zJZ (zCU (n:=0) (zA3 zAB zAC)) (dz (zAG zBT (dz zAB) (de_v 1)))))
   (zAK (zGU (zOF (zA3 (zAG zBT (dz zAB) (de_v 1)) zAC)) (zAK (zKP 5 2 (dz zAB))
   (zAK (zKP 6 2 (dz (zAG zBW (de_v 0) (dz (zB7 zBA (zA3 (de_v 2) zAC))))))
   (zAK (zAT (n:=0) [0,2] (zAG zFP (de_v 0) (zAG zBO (dz (zB7 zBA (zA3 (de_v 2) zAC))) (dz zAB))))
   (zAK (zGT 3 (n:=0) (de_v 5) (de_v 6))
   (zGT 3 (n:=0) (de_v 6) (de_v 5)))))))
   (zF9 3)))) h)⟩
theorem zJ2:Has P w K mg base "_law_net" 1 ["_law_cells_here","_law_size"] (sp0 K mg 1 zBQ):=by
 letI:Kc:=⟨K⟩
 exact dfM B.S.d3 S__law_net (fun _ _ _ _ _ _=>uw2 fun _ _=>rfl) fun hr hu h=>⟨_,(zA9 (pst 2 S__law_net.nd (zAP (zDG (K:=K) rfl) rfl B.S.e4 qIx (zA2 (zAP zF3 rfl B.S.e7 qJb (zA2 (zAL zBS zAD (pn 1)) zA8)) zA8)))
   (zA9 (pst 3 S__law_net.nd (zAL zP8 (zCP (zA2 zAD zA8)) (zAL zBS zAD (pn 1))))
   (zA9 (zC9 qI4 rfl (zCO rfl B.S.e7 (zA2 (zAL zBS zAD (pn 1)) zA8)) (zC2 (i:=4) S__law_net.nd rfl oi) (zA9 (pst 5 S__law_net.nd (zIY qB6 qBy qBz zEZ (pn 2) (zA2 zAD zA8)))
   (zA9 (pst 6 S__law_net.nd (zAL zFN (zDE (zDC (K:=K)) (pn 0) (zAL zDI (pn 4) (zAJ (zB9 (K:=K)) rfl B.S.e3 qI7 (zA2 (pn 0) zA8))) (fun _ _=>rfl)) (zAL zCL zAD (zAL zFN (pn 4) (zAJ (zB9 (K:=K)) rfl B.S.e3 qI7 (zA2 (pn 0) zA8))))))
   (zA9 (pst 7 S__law_net.nd (zIY qB6 qBy qBz zEZ (pn 2) (zA2 (zAL zDI (pn 6) (zAJ (zB9 (K:=K)) rfl B.S.e3 qI7 (zA2 (pn 2) zA8))) zA8)))
   (zA9 (zE8 (pn 7) (zE9 (pn 3) (pn 5) zHD))
   (zAI (zE8 (pn 5) (zE9 (pn 3) (pn 7) zHD))))))))
   (zAI (zB5 (pn 3)))))),(zC4 (zAK (zAT (n:=1) [1] (zC0 (zA3 (zAG zBT (dz zAB) (de_v 1)) zAC)))
   (zAK (zAT (n:=1) [1] (zAG zJZ (zCU (n:=0) (zA3 zAB zAC)) (dz (zAG zBT (dz zAB) (de_v 1)))))
   (zAK (zGU (zOF (zA3 (zAG zBT (dz zAB) (de_v 1)) zAC)) (zAK (zKP 5 2 (dz zAB))
   (zAK (zAT (n:=0) [0,4] (zAG zFP (zAG zDD (de_v 0) (dz (zAG zBW (de_v 4) (dz (zB7 zBA (zA3 (de_v 0) zAC)))))) (zAG zBO (dz zAB) (dz (zAG zFP (de_v 4) (dz (zB7 zBA (zA3 (de_v 0) zAC))))))))
   (zAK (zKP 7 2 (dz (zAG zBW (de_v 6) (dz (zB7 zBA (zA3 (de_v 2) zAC))))))
   (zAK (zGT 3 (n:=0) (de_v 5) (de_v 7))
   (zGT 3 (n:=0) (de_v 7) (de_v 5)))))))
   (zF9 3)))) h)⟩
theorem zGJ:Has P w K mg base "_law_order" 1 ["_law_size","_law_cell"] (sp0 K mg 9 zBK):=by
 letI:Kc:=⟨K⟩
 exact dfM B.S.d4 S__law_order (fun _ _ _ _ _ _=>uw2 fun _ _=>rfl) fun hr hu h=>⟨_,(zA9 (pst 2 S__law_order.nd (zAP (zDG (K:=K) rfl) rfl B.S.e4 qIx (zA2 (zAP zF3 rfl B.S.e7 qJb (zA2 (pn 0) zA8)) zA8)))
   (zA9 (pst 3 S__law_order.nd (zCP zA8))
   (zA9 (zPM qI4 (zCJ u_gt (zAJ (zB9 (K:=K)) rfl B.S.e3 qI7 (zA2 (pn 2) zA8)) zAD (zBC _)) (zA9 (zMT (zIY qB6 qDu qDv zNH (pn 3) (zA2 (zIY qB6 qBy qBz zEZ (pn 2) (zA2 (zAL zDI (pn 1) (zAJ (zB9 (K:=K)) rfl B.S.e3 qI7 (zA2 (pn 2) zA8))) zA8)) zA8)))
   (zAI (pst 1 S__law_order.nd (zAL zFN (pn 1) (zAL zCL (zAJ (zB9 (K:=K)) rfl B.S.e3 qI7 (zA2 (pn 2) zA8)) zAD))))))
   (zAI (zB5 (pn 3)))))),(zC4 (zAK (zAT (n:=1) [0] (zC0 (zA3 (de_v 0) zAC)))
   (zAK (zAT (n:=9) [] (zCU (n:=8) zAC))
   (zAK (zQI (dt_b (dz (zAG zE7 (dz (zB7 zBA (zA3 (de_v 2) zAC))) (dz zAB)))) (zAK (zOC 3 2 (dz (zAG zBW (de_v 1) (dz (zB7 zBA (zA3 (de_v 2) zAC))))))
   (zAT (n:=0) [1,2] (zAG zFP (de_v 1) (zAG zBO (dz (zB7 zBA (zA3 (de_v 2) zAC))) (dz zAB))))))
   (zF9 3)))) h)⟩
theorem zD8:Has P w K mg base "_law_row_is" 1 ["_law_found","_law_due"] (sp0 K mg 0 zBP):=by
 letI:Kc:=⟨K⟩
 exact dfM B.S.d5 S__law_row_is (fun _ _ _ _ _ _=>uw2 fun _ _=>rfl) fun hr hu h=>⟨_,(zA9 (zEH (pt_w (zHM (zHO (pt_m (zAJ zBZ rfl B.S.e2 qJh (zA2 (pn 0) (zA2 (zGH (v:=.ty "list") rfl B.S.e4 qIx rfl) zA8))))) (zFS (zCJ (u_ne hu) (zAJ (zB9 (K:=K)) rfl B.S.e3 qI7 (zA2 (pn 0) zA8)) (zAJ (zB9 (K:=K)) rfl B.S.e3 qI7 (zA2 (pn 1) zA8)) (zBC _))))) (zAI (zB5 zLE)) zBL)
   (zA9 (zC9 qI4 rfl (zFU (K:=K) (pn 0)) (zC2 (i:=2) S__law_row_is.nd rfl oi) (zAI (zEH (pt_w (zHM (zHO (pt_m (zAJ zBZ rfl B.S.e2 qJh (zA2 (pn 2) (zA2 (zGH (v:=.ty "int") rfl B.S.e1 boot_int rfl) zA8))))) (zFS (pt_m (zAJ zBZ rfl B.S.e2 qJh (zA2 (pn 2) (zA2 (zGH (v:=.ty "bool") rfl B.S.e0 boot_bool rfl) zA8))))))) (zAI (zB5 zLE)) zBL)))
   (zAI (zB5 (zSQ (u_eq hu) (pn 0) (pn 1) (zBC _)))))),(zC4 (zAK (zFA (zI4 (zI5 (dt_m (dz (zKS (by decide) (de_v 0))))) (dt_b (dz (zAG zPF (dz (zB7 zBA (zA3 (de_v 0) zAC))) (dz (zB7 zBA (zA3 (de_v 1) zAC))))))) (zC7 (n:=0) [] zLS) zCI)
   (zAK (zI6 [0] (zG2 (de_v 0)) (zC1 2) (zFA (zI4 (zI5 (dt_m (dz (zKS (by decide) (de_v 2))))) (dt_m (dz (zKS (by decide) (de_v 2))))) (zC7 (n:=0) [] zLS) zCI))
   (zC7 (n:=0) [0,1] (zAG zL9 (de_v 0) (de_v 1))))) h)⟩
theorem zEA:Has P w K mg base "places_in" 1 ["net"] (sp0 K mg 0 zB1):=by
 letI:Kc:=⟨K⟩
 exact dfM B.S.d6 zJT (fun _ _ _ _ _ _=>uw1 fun _=>rfl) fun hr hu h=>⟨_,(zAI (zB5 (zAL zFN (zAJ (zB9 (K:=K)) rfl B.S.e3 qI7 (zA2 (pn 0) zA8)) (zDX rfl B.c_SEATS.2 B.c_SEATS.1)))),(zC4 (zC7 (n:=0) [0] (zAG zFP (dz (zB7 zBA (zA3 (de_v 0) zAC))) (dz zAB))) h)⟩
theorem zHQ:Has P w K mg base "join_ends" 1 ["ties","one","other"] (spW0 K mg 0 1 0 zAW):=by
 letI:Kc:=⟨K⟩
 exact dfW B.S.d7 S_join_ends (fun _ _ _ _ _ _=>uw3 fun _ _ _=>rfl) fun hr hu h=>⟨_,(zA9 (pst 3 S_join_ends.nd (zDE (zDC (K:=K)) (pn 0) (pn 1) (fun _ _=>rfl)))
   (zA9 (pst 4 S_join_ends.nd (zDE (zDC (K:=K)) (pn 0) (pn 2) (fun _ _=>rfl)))
   (zA9 (zE8 zK9 (zE9 (pn 0) (pn 1) zHD))
   (zA9 (zE8 zK9 (zE9 (pn 0) (pn 2) zHD))
   (zA9 (zEH (zCJ (u_eq hu) (pn 3) (pn 2) (zBC _)) (zAI (zB5 zAD)) zBL)
   (zA9 (zE8 (pn 4) (zE9 (pn 0) (pn 3) zHD))
   (zA9 (zE8 (pn 3) (zE9 (pn 0) (pn 4) zHD))
   (zAI (zB5 zAD))))))))),(zMK (zDS (zCE (L:=0) (zAT (n:=0) [0,1] (zAG zDD (zX2 0) (de_v 1))))
   (zDS (zCE (L:=0) (zAT (n:=0) [0,2] (zAG zDD (zX2 0) (de_v 2))))
   (zDS (zCE (L:=0) (zEN 0 (n:=0) (de_v 1) zKR))
   (zDS (zCE (L:=0) (zEN 0 (n:=0) (de_v 2) zKR))
   (zDS (zYX (dt_b (dz (zAG zL9 (de_v 3) (de_v 2)))) (zOE (dz zAB)) (zCE (L:=0) zCI))
   (zDS (zCE (L:=0) (zEN 0 (n:=0) (de_v 3) (de_v 4)))
   (zDS (zCE (L:=0) (zEN 0 (n:=0) (de_v 4) (de_v 3)))
   (zOE (dz zAB))))))))) h)⟩
theorem zN9:Has P w K mg base "joined" 1 ["way","seat"] (sp0 K mg 0 zBY):=by
 letI:Kc:=⟨K⟩
 exact dfM B.S.d8 zQU (fun _ _ _ _ _ _=>uw2 fun _ _=>rfl) fun hr hu h=>⟨_,(zAI (zB5 (zAL zXS (pn 1) (zAL zCL (pn 0) zAD)))),(zC4 (zC7 (n:=0) [1,0] (zAG zUU (de_v 1) (zAG zBO (de_v 0) (dz zAB)))) h)⟩
theorem zGI:Has P w K mg base "join_place" 2 ["ties","place","way"] (spW0 K mg 0 1 0 zB2):=by
 letI:Kc:=⟨K⟩
 exact dfW B.S.d9 S_join_place (fun _ _ _ _ _ _=>uw3 fun _ _ _=>rfl) fun hr hu h=>⟨_,(zA9 (pst 3 S_join_place.nd zAD)
   (zA9 (zC9 qI4 rfl (zCO rfl B.S.e7 (zA2 (zDX rfl B.c_SEATS.2 B.c_SEATS.1) zA8)) (zC2 (i:=4) S_join_place.nd rfl oi) (zA9 (pst 5 S_join_place.nd (zD4 (zN9 B) (by decide) hr rfl (zA2 (pn 2) (zA2 (pn 4) zA8))))
   (zAI (zEH (zCJ u_lt (pn 4) (pn 5) (zBC _)) (zAI (pst 3 S_join_place.nd (zAL zCL (pn 3) (zD4 (zHQ B) (by decide) hr rfl (zA2 (pn 0) (zA2 (zAL zCL (zAL zBS (pn 1) (zDX rfl B.c_SEATS.2 B.c_SEATS.1)) (pn 4)) (zA2 (zAL zCL (zAL zBS (pn 1) (zDX rfl B.c_SEATS.2 B.c_SEATS.1)) (pn 5)) zA8))))))) zBL))))
   (zAI (zB5 (pn 3))))),(zMK (zDS (zCE (L:=0) (zAT (n:=0) [] zAB))
   (zDS (zCE (L:=0) (zGU (zOF (zA3 zAB zAC)) (zAK (zAT (n:=0) [2,4] (zBM (zA3 (de_v 2) (zA3 (de_v 4) zAC))))
   (zFA (dt_b (dz (zAG zE7 (de_v 4) (de_v 5)))) (zTS 3 0 (zA3 (zAS (zAG zBO (dz (zAG zBT (de_v 1) (dz zAB))) (de_v 4))) (zA3 (zAS (zAG zBO (dz (zAG zBT (de_v 1) (dz zAB))) (de_v 5))) zAC))) zCI))))
   (zOE (de_v 3)))) h)⟩
theorem zEW:Has P w K mg base "count_at" 1 ["counts","k"] (sp0 K mg 0 zBH):=by
 letI:Kc:=⟨K⟩
 exact dfM B.S.d10 zLY (fun _ _ _ _ _ _=>uw2 fun _ _=>rfl) fun hr hu h=>⟨_,(zAI (zB5 (zKA (zCJ u_lt (pn 1) (zAJ (zB9 (K:=K)) rfl B.S.e3 qI7 (zA2 (pn 0) zA8)) (zBC _)) (zDE (zDC (K:=K)) (pn 0) (pn 1) (fun _ _=>rfl)) zAD))),(zC4 (zC7 (n:=0) [1,0] (zRT (dt_b (dz (zAG zE7 (de_v 1) (dz (zB7 zBA (zA3 (de_v 0) zAC)))))) (zAG zDD (de_v 0) (de_v 1)) zAB)) h)⟩
theorem zN8:Has P w K mg base "summed" 2 ["one","other"] (sp0 K mg 2 zCC):=by
 letI:Kc:=⟨K⟩
 exact dfM B.S.d11 S_summed (fun _ _ _ _ _ _=>uw2 fun _ _=>rfl) fun hr hu h=>⟨_,(zA9 (pst 2 S_summed.nd (zAJ (zIA rfl) rfl B.S.e5 boot_max (zA2 (zAJ (zB9 (K:=K)) rfl B.S.e3 qI7 (zA2 (pn 0) zA8)) (zA2 (zAJ (zB9 (K:=K)) rfl B.S.e3 qI7 (zA2 (pn 1) zA8)) zA8))))
   (zAI (zB5 (zIZ rfl (cn ["one","other","2","k"] 1 (by kernel_rfl)) (zCO rfl B.S.e7 (zA2 (pn 2) zA8)) (fun _ _ _ _=>(pgn 3)) (fun _ _ _ _=>zGG) (fun _ _ _ _=>(zAL zCL (zD4 (zEW B) (by decide) hr rfl (zA2 (pn 0) (zA2 (pn 3) zA8))) (zD4 (zEW B) (by decide) hr rfl (zA2 (pn 1) (zA2 (pn 3) zA8))))))))),(zC4 (zAK (zAT (n:=0) [0,1] (zB7 zRZ (zA3 (zB7 zBA (zA3 (de_v 0) zAC)) (zA3 (zB7 zBA (zA3 (de_v 1) zAC)) zAC))))
   (zC7 (n:=2) [0,1,2] (zGV (n:=1) (zOF (zA3 (de_v 2) zAC)) (zC1 3) zKN (zAG zBO (zBM (zA3 (de_v 0) (zA3 (de_v 3) zAC))) (zBM (zA3 (de_v 1) (zA3 (de_v 3) zAC))))))) h)⟩
theorem zEI:Has P w K mg base "without_place" 3 ["counted","place"] (sp0 K mg 2 zAM):=by
 letI:Kc:=⟨K⟩
 exact dfM B.S.d12 S_without_place (fun _ _ _ _ _ _=>uw2 fun _ _=>rfl) fun hr hu h=>⟨_,(zA9 (pst 2 S_without_place.nd zPP)
   (zA9 (zC9 qI4 rfl (zVK (pn 0)) (zC2 (i:=3) S_without_place.nd rfl oi) (zAI (zC9 qI4 rfl (zFU (K:=K) (zDX (v:=.ref B.u_ALL_WAYS) rfl B.c_ALL_WAYS.2 rfl)) (zC2 (i:=4) S_without_place.nd rfl oi) (zA9 (pst 5 S_without_place.nd (zAP (zDG (K:=K) rfl) rfl B.S.e4 qIx (zA2 (pn 3) zA8)))
   (zA9 (pst 6 S_without_place.nd (zD4 (zGI B) (by decide) hr rfl (zA2 (pn 5) (zA2 (pn 1) (zA2 (pn 4) zA8)))))
   (zA9 (pst 7 S_without_place.nd (zPR (zNU hr) (pn 2) (zAP (zKH (K:=K)) rfl B.S.e10 qL2 (zA2 (pn 5) zA8)) (zCP zA8) ⟨rfl,rfl,rfl,rfl⟩))
   (zAI (zSN (zNU hr) (pn 2) (zAP (zKH (K:=K)) rfl B.S.e10 qL2 (zA2 (pn 5) zA8)) (zD4 (zN8 B) (by decide) hr rfl (zA2 (pn 7) (zA2 (zAL zCL (zAL zP8 (zCP (zA2 zAD zA8)) (pn 6)) (zN1 (zNU hr) (pn 0) (pn 3) (fun _ _=>rfl))) zA8))) rfl))))))))
   (zAI (zB5 (pn 2))))),(zC4 (zAK (zAT (n:=2) [] (zTW (n:=1)))
   (zAK (zI6 [0] (zYZ (de_v 0)) (zC1 3) (zI6 [] (zG2 (zTV B.c_ALL_WAYS.1)) (zC1 4) (zAK (zAT (n:=1) [3] (zB7 zJJ (zA3 (de_v 3) zAC)))
   (zAK (zQJ (k:=0) 6 5 (zA3 (de_v 1) (zA3 (de_v 4) zAC)))
   (zO9 7 2 (zTU (de_v 2) (zB7 zKX (zA3 (de_v 5) zAC)) (zCU (n:=8) zAC)) (zB7 zKX (zA3 (de_v 5) zAC)) (n:=2) (zBM (zA3 (de_v 7) (zA3 (zAS (zAG zBO (zAG zJZ (zCU (n:=0) (zA3 zAB zAC)) (de_v 6)) (zX3 (de_v 0) (de_v 3)))) zAC))))))))
   (zF9 2))) h)⟩
theorem zEB:HasD P w K mg base "counts_of" 4 ["net","order"] (spE K mg 1 zB8):=by
 letI:Kc:=⟨K⟩
 exact dfD B.S.d13 S_counts_of rfl rfl rfl rfl rfl (by decide) fun hr hu h=>⟨_,(zA9 (zEH (zCJ u_gt (zD4 (zEA B) (by decide) hr rfl (zA2 (pn 0) zA8)) (zDX rfl B.c_MOST_CHOSEN.2 B.c_MOST_CHOSEN.1) (zBC _)) (zAI (zPN (zVN B.z_TooMany rfl (zA2 zVM zA8)) zO4 rfl)) zBL)
   (zA9 (pst 2 S_counts_of.nd (zKA (zCJ zVX (pn 1) zK9 (zBC _)) (zAP (zDG (K:=K) rfl) rfl B.S.e4 qIx (zA2 (zAP zF3 rfl B.S.e7 qJb (zA2 (zD4 (zEA B) (by decide) hr rfl (zA2 (pn 0) zA8)) zA8)) zA8)) (pn 1)))
   (zA9 (pst 3 S_counts_of.nd (zPQ (zNU hr) (zAP (zKH (K:=K)) rfl B.S.e10 qL2 (zA2 (pn 0) zA8)) (zCP (zA2 zAD zA8))))
   (zA9 (zC9 zSS rfl (zFU (K:=K) (pn 2)) (zC2 (i:=4) S_counts_of.nd rfl oi) (zAI (pst 3 S_counts_of.nd (zD4 (zEI B) (by decide) hr rfl (zA2 (pn 3) (zA2 (pn 4) zA8))))))
   (zAI (zB5 (zN1 (zNU hr) (pn 3) (zAP (zKH (K:=K)) rfl B.S.e10 qL2 (zA2 (zIZ rfl (cn ["0","1","2","3","4","end"] 1 (by kernel_rfl)) (zFU (K:=K) (pn 0)) (fun _ _ _ _=>(pgn 5)) (fun _ _ _ _=>zGG) (fun _ _ _ _=>zK9)) zA8)) (fun _ _=>rfl)))))))),(zC4 (zAK (zFA (dt_b (dz (zAG zE7 (zGW (zA3 (de_v 0) zAC)) (dz zAB)))) (zOB B.z_TooMany (zA3 zX4 zAC)) zCI)
   (zAK (zAT (n:=0) [1,0] (zRT (dt_b (dz (zAG zY6 (de_v 1) (dz zKR)))) (zAS (zC0 (zA3 (zGW (zA3 (de_v 0) zAC)) zAC))) (de_v 1)))
   (zAK (zAT (n:=2) [0] (zTT (n:=1) (zB7 zKX (zA3 (de_v 0) zAC)) (zCU (n:=0) (zA3 zAB zAC))))
   (zAK (zI6 [2] (zG2 (de_v 2)) (zC1 4) (zAT (n:=2) [3,4] (zGW (zA3 (de_v 3) (zA3 (de_v 4) zAC)))))
   (zOA 3 (zB7 zKX (zA3 (zAS (zGV (n:=0) (zG2 (de_v 0)) (zC1 5) zKN zKR)) zAC))))))) h)⟩
theorem zW1{f:Addr}{fd:qI6}(F:Fun K "law" "law" (top 24) f fd):FnOk P w K mg base CX0 5 f fd ["_law_script"] (zFO K):=by
 letI:Kc:=⟨K⟩
 refine(F.ok S_law (sp:=sp0 K mg 0 zHV) (fun vs H Q E h=>zIV h) (fun cdv A outer s H vs Q E hr h=>?_)).imp (zQ3 zQ2);have hu:=hr.units;exact zTM (zBJ ⟨(pst 1 S_law.nd (zD4 (zGL B) (by decide) hr rfl (zA2 (pn 0) (zA2 zAD zA8))))⟩
   (zBJ ⟨(pst 2 S_law.nd (zAL zCL zAD (zAL zDI (zAL zFN (zDE (zDC (K:=K)) (pn 1) zAD (fun _ _=>rfl)) zAD) zAD)))⟩
   (zBJ ⟨(pst 3 S_law.nd (zD4 (zJ2 B) (by decide) hr rfl (zA2 (zK8 (u_sl (K:=K)) (pn 1) (zMV zAD) zMW) (zA2 (pn 2) zA8))))⟩
   (zBJ ⟨(zEH (pt_w (zVH (zCJ u_gt (zAJ (zB9 (K:=K)) rfl B.S.e3 qI7 (zA2 (pn 0) zA8)) zAD (zBC _)) (zSL (zCJ (u_eq hu) (zAL zDI (zDE (zDC (K:=K)) (pn 0) zAD (fun _ _=>rfl)) zAD) zAD (zBC _))))) (zAI (pst 3 S_law.nd (zD4 (zDZ B) (by decide) hr rfl (zA2 (zDE (zDC (K:=K)) (pn 1) zAD (fun _ _=>rfl)) (zA2 (pn 2) zA8))))) zBL)⟩
   (zBJ ⟨(pst 4 S_law.nd (zVP (zEB B) (by decide) hr zRO rfl (zA2 (pn 3) zA8)))⟩
   (zBJ ⟨(zEH (pt_w (zHM (zHO (pt_m (zAJ zBZ rfl B.S.e2 qJh (zA2 (pn 4) (zA2 (zGH (v:=.ty "list") rfl B.S.e4 qIx rfl) zA8))))) (zHM (zHO (pt_m (zD4 (zD8 B) (by decide) hr rfl (zA2 (pn 4) (zA2 (zAP (zDG (K:=K) rfl) rfl B.S.e4 qIx (zA2 (pn 4) zA8)) zA8))))) (zFS (zCJ (u_ne hu) (zAJ (zYP rfl) rfl B.S.e9 boot_sum (zA2 (pn 4) zA8)) (zDE (zDC (K:=K)) (zCP (zA2 zAD (zA2 zAD (zA2 zAD (zA2 zAD (zA2 zAD (zA2 zAD (zA2 zAD zA8)))))))) (pn 2) (fun _ _=>rfl)) (zBC _)))))) (zAI (zB5 zLE)) zBL)⟩
   (zBJ ⟨(zEH (pt_w (zHM (zCJ u_lt (zAJ (zW9 rfl) rfl B.S.e6 boot_min (zA2 (pn 4) zA8)) zAD (zBC _)) (zHM (zCJ (u_ne hu) (zDE (zDC (K:=K)) (pn 4) zAD (fun _ _=>rfl)) zAD (zBC _)) (zFS (zCJ (u_eq hu) (zDE (zDC (K:=K)) (pn 4) (zYA zXW zAD) (fun _ _=>rfl)) zAD (zBC _)))))) (zAI (zB5 zLE)) zBL)⟩
   (zBJ ⟨(pst 5 S_law.nd (zAL zCL (zIZ rfl (cn ["0","_law_cells_here","_law_size","3","4","5","6","7","_law_k"] 1 (by kernel_rfl)) (zMZ rfl B.S.e7 (zA2 zAD (zA2 zAD zA8))) (fun _ _ _ _=>(pgn 8)) (fun _ _ _ _=>zGG) (fun _ _ _ _=>(zD4 (zGJ B) (by decide) hr rfl (zA2 (pn 2) (zA2 (zDE (zDC (K:=K)) (pn 1) (pn 8) (fun _ _=>rfl)) zA8))))) (zCP (zA2 (zAP (zT6 rfl) rfl B.S.e4 qIx (zA2 (zAP zW8 rfl B.S.e8 zFL (zA2 (zAP zF3 rfl B.S.e7 qJb (zA2 (pn 2) zA8)) zA8)) zA8)) zA8))))⟩
   (zBJ ⟨(zEH (zCJ u_gt (pn 2) zAD (zBC _)) (zAI (pst 5 S_law.nd (zCP (zA2 (zDE (zDC (K:=K)) (pn 5) (zAL zDI (zDE (zDC (K:=K)) (pn 1) zAD (fun _ _=>rfl)) zAD) (fun _ _=>rfl)) zA8)))) zBL)⟩
   (zBJ ⟨(zC9 qI4 rfl (zFU (K:=K) (pn 5)) (zC2 (i:=6) S_law.nd rfl oi) (zA9 (pst 7 S_law.nd (zAP (zDG (K:=K) rfl) rfl B.S.e4 qIx (zA2 (pn 6) zA8)))
   (zAI (zEH (pt_w (zHM (zHO (pt_m (zD4 (zD8 B) (by decide) hr rfl (zA2 (zVO (HasD.full (zEB B)) (by decide) hr zRO rfl (zA2 (pn 3) (zA2 (pn 7) zA8))) (zA2 (pn 4) zA8))))) (zFS (zCJ (u_ne hu) (pn 7) (pn 6) (zBC _))))) (zAI (zB5 zLE)) zBL))))⟩
   (zTR ⟨(zB5 zLE)⟩))))))))))) (zC4 (zAK (zAT (n:=1) [0] (zBM (zA3 (de_v 0) (zA3 zAB zAC))))
   (zAK (zAT (n:=1) [1] (zAG zBO (dz zAB) (dz (zAG zBW (dz (zAG zFP (zAG zDD (de_v 1) (dz zAB)) (dz zAB))) (dz zAB)))))
   (zAK (zAT (n:=1) [2,1] (zBM (zA3 (zAS (zZ1 (de_v 1) (do_e (dz zAB)) zX0)) (zA3 (de_v 2) zAC))))
   (zAK (zFA (zWX (dt_b (dz (zAG zE7 (dz (zB7 zBA (zA3 (de_v 0) zAC))) (dz zAB)))) (dt_b (dz (zAG zL9 (dz (zAG zBW (zAG zDD (de_v 0) (dz zAB)) (dz zAB))) (dz zAB))))) (zAT (n:=1) [2,1] (zBM (zA3 (zAG zDD (de_v 1) (dz zAB)) (zA3 (de_v 2) zAC)))) zCI)
   (zAK (zAT (n:=1) [3] (zOJ (zA3 (de_v 3) zAC)))
   (zAK (zFA (zI4 (zI5 (dt_m (dz (zKS (by decide) (de_v 4))))) (zI4 (zI5 (dt_m (zBM (zA3 (de_v 4) (zA3 (zAS (zB7 zJJ (zA3 (de_v 4) zAC))) zAC))))) (dt_b (dz (zAG zPF (dz (zB7 zXD (zA3 (de_v 4) zAC))) (zAG zDD (zCU (n:=0) (zA3 zAB (zA3 zAB (zA3 zAB (zA3 zAB (zA3 zAB (zA3 zAB (zA3 zAB zAC)))))))) (de_v 2))))))) (zC7 (n:=0) [] zLS) zCI)
   (zAK (zFA (zI4 (dt_b (dz (zAG zE7 (dz (zB7 zTZ (zA3 (de_v 4) zAC))) (dz zAB)))) (zI4 (dt_b (dz (zAG zPF (zAG zDD (de_v 4) (dz zAB)) (dz zAB)))) (dt_b (dz (zAG zL9 (zAG zDD (de_v 4) (dz (zZ0 zUX (dz zAB)))) (dz zAB)))))) (zC7 (n:=0) [] zLS) zCI)
   (zAK (zAT (n:=1) [2,1] (zAG zBO (zGV (n:=9) (zYY (zA3 zAB (zA3 zAB zAC))) (zC1 8) zKN (zBM (zA3 (de_v 2) (zA3 (zAG zDD (de_v 1) (de_v 8)) zAC)))) (zCU (n:=1) (zA3 (zX7 (zA3 (de_v 2) zAC)) zAC))))
   (zAK (zFA (dt_b (dz (zAG zE7 (de_v 2) (dz zAB)))) (zAT (n:=1) [5,1] (zCU (n:=0) (zA3 (zAG zDD (de_v 5) (dz (zAG zBW (zAG zDD (de_v 1) (dz zAB)) (dz zAB)))) zAC))) zCI)
   (zAK (zI6 [5] (zG2 (de_v 5)) (zC1 6) (zAK (zAT (n:=1) [6] (zB7 zJJ (zA3 (de_v 6) zAC)))
   (zFA (zI4 (zI5 (dt_m (zBM (zA3 (zAS (zQO (zA3 (de_v 3) (zA3 (de_v 7) zAC)))) (zA3 (de_v 4) zAC))))) (dt_b (dz (zAG zPF (de_v 7) (de_v 6))))) (zC7 (n:=0) [] zLS) zCI)))
   (zC7 (n:=0) [] zLS))))))))))) h)
end
theorem all_mk{l:qDb}{w:World}{K:qA2}{h:Heap}{mg:Str->Option Value}{fa f14 a_RoundError a_TooMany:Addr}{dd_RoundError dd_TooMany:Option Addr}{cd_RoundError cd_TooMany:ClassData}{sl_RoundError sl_TooMany:Array (Option Value)}(X:K.In h)(G:h.Ns qHx mg)(hfa:mg "law" = some (.ref fa))
  {od14 an14:Option Addr} {sl14:Array (Option Value)} {oc14 kV14 dc14 pm14 cd14 ct14:Value} {t1 t2:Tok} {ut0:Addr} {ud0:Option Addr} {un0:Nat} {us0:Array (Option Value)} {tu0_0 tu0_1 tu0_2:Tok}
  (S:Bd K mg)
  (a14:qBg K qHx "law" = some (some (.ref f14)))
  (l14:K.lookup f14=some ⟨oc14,od14,.func (qB7 "law" "law" (zAV (top 24)) (zAX (top 24)) (zAA (top 24)) .none kV14 dc14 pm14 an14 cd14 ct14),sl14⟩)
  (c14:qC7 K cd14 "law" = true)
  (k14:qB4 K (.ref f14)=true)
  (y0:qBg K qHx "ALL_WAYS" = some (some (.ref ut0)))
  (yl0:K.lookup ut0=some ⟨.type "tuple",ud0,.seq #[.int 0 tu0_0,.int 1 tu0_1,.int 2 tu0_2] un0,us0⟩)
  (y1:qBg K qHx "MOST_CHOSEN" = some (some (.int 6 t1)))
  (y2:qBg K qHx "SEATS" = some (some (.int 4 t2)))
  (xa_RoundError:qBg K qHx "RoundError" = some (some (.ref a_RoundError)))
  (xl_RoundError:K.lookup a_RoundError=some ⟨.type "type",dd_RoundError,.cls cd_RoundError,sl_RoundError⟩)
  (xd_RoundError:xcD a_RoundError cd_RoundError sl_RoundError=true)
  (xn_RoundError:qF5 K a_RoundError=some cd_RoundError)
  (xo_RoundError:PySem.W.excTail cd_RoundError.mro=true)
  (xt_RoundError:qGk K (.ref a_RoundError)=some (.type "type"))
  (xg_RoundError:qB2 K (.ref a_RoundError) "__getattribute__" = some (some (.builtin "BaseException.__getattribute__")))
  (xh_RoundError:qB2 K (.ref a_RoundError) "__getattr__" = some none)
  (xj_RoundError:qDm K a_RoundError=true)
  (xm_RoundError:qB2 K (.ref a_RoundError) "__class__" = some (some (.builtin "object.__class__")))
  (xp_RoundError:qF2 K a_RoundError (.type "object")=some true)
  (xv_RoundError:qE3 K (.ref a_RoundError) (.type "ValueError")=some true)
  (xw_RoundError:qE3 K (.ref a_RoundError) (.type "BaseException")=some true)
  (xa_TooMany:qBg K qHx "TooMany" = some (some (.ref a_TooMany)))
  (xl_TooMany:K.lookup a_TooMany=some ⟨.type "type",dd_TooMany,.cls cd_TooMany,sl_TooMany⟩)
  (xd_TooMany:xcD a_TooMany cd_TooMany sl_TooMany=true)
  (xn_TooMany:qF5 K a_TooMany=some cd_TooMany)
  (xo_TooMany:PySem.W.excTail cd_TooMany.mro=true)
  (xt_TooMany:qGk K (.ref a_TooMany)=some (.type "type"))
  (xg_TooMany:qB2 K (.ref a_TooMany) "__getattribute__" = some (some (.builtin "BaseException.__getattribute__")))
  (xh_TooMany:qB2 K (.ref a_TooMany) "__getattr__" = some none)
  (xj_TooMany:qDm K a_TooMany=true)
  (xm_TooMany:qB2 K (.ref a_TooMany) "__class__" = some (some (.builtin "object.__class__")))
  (xp_TooMany:qF2 K a_TooMany (.type "object")=some true)
  (xv_TooMany:qE3 K (.ref a_TooMany) (.type "ValueError")=some true)
  (xw_TooMany:qE3 K (.ref a_TooMany) (.type "BaseException")=some true)
  (ycg:qFb K (.builtin "object.__class__") "__get__" = some (some (.builtin "getset_descriptor.__get__")))
  (yct:qFx K (.builtin "object.__class__")=some true)
  (zk_TooMany:qB4 K (.ref a_TooMany)=true)
  (zi_TooMany:qB2 K (.ref a_TooMany) "__init__" = some (some (.builtin "ValueError.__init__")))
  :∃fd:qI6,(∀(s:qHp)(v:Value),qKy s fd ⟨[v],[]⟩ [("_law_script",v)])/\∀base:Heap,K.In base->base.Ns qHx mg->FnOk l.prog w K mg base CX0 5 fa fd ["_law_script"] (zFO K):=by
 have e:=hfa.symm.trans (qC5 X G a14);cases e;have c_ALL_WAYS:KTup K ut0 [0,1,2]/\mg "ALL_WAYS" = some (.ref ut0):=⟨zT5 yl0 rfl rfl (by show 3<=sizeLine;decide) ((.cons ⟨_,rfl⟩ (.cons ⟨_,rfl⟩ (.cons ⟨_,rfl⟩ .nil)))),qC5 X G y0⟩
 have c_MOST_CHOSEN:RelV (V.int 6) (.int 6 t1)/\mg "MOST_CHOSEN" = some (.int 6 t1):=⟨⟨_,rfl⟩,qC5 X G y1⟩
 have c_SEATS:RelV (V.int 4) (.int 4 t2)/\mg "SEATS" = some (.int 4 t2):=⟨⟨_,rfl⟩,qC5 X G y2⟩
 have i_RoundError:Xc.XIs K a_RoundError:=⟨zLZ xl_RoundError xd_RoundError,xg_RoundError,xh_RoundError,xj_RoundError,xm_RoundError,ycg,yct,xp_RoundError⟩
 have i_TooMany:Xc.XIs K a_TooMany:=⟨zLZ xl_TooMany xd_TooMany,xg_TooMany,xh_TooMany,xj_TooMany,xm_TooMany,ycg,yct,xp_TooMany⟩
 have n_RoundError:XCls K mg "RoundError" a_RoundError:=⟨zXA xa_RoundError,qC5 X G xa_RoundError,i_RoundError⟩
 have n_TooMany:XCls K mg "TooMany" a_TooMany:=⟨zXA xa_TooMany,qC5 X G xa_TooMany,i_TooMany⟩
 have z_TooMany:XNo K mg "TooMany" a_TooMany:=⟨n_TooMany,zk_TooMany,zi_TooMany⟩
 refine⟨qB7 "law" "law" (zAV (top 24)) (zAX (top 24)) (zAA (top 24)) .none kV14 dc14 pm14 an14 cd14 ct14,fun s v=>.of_eq rfl,fun base _ _=>?_⟩;exact zW1 ⟨S,_,_,_,_,c_SEATS,c_ALL_WAYS,c_MOST_CHOSEN,z_TooMany⟩ (zRM (st:=(top 24)) l14 c14 k14)
theorem walk{l:qDb}{q:qHr}{loose:List Str}{XP:(Str->Option Value)->Heap->Prop}{d:DefRec}{K:Params->qA2}{YP:World->Heap->Prop}(hn:l.most=some 63)(hdf:d.params.defaults=[])(hY:∀(w:World) (h:Heap),YP w h->(K w.params).In h)
  (F:∀(w:World)(mg:Str->Option Value)(fa:Addr)(h:Heap),(K w.params).In h->h.Ns qHx mg->mg d.name=some (.ref fa) ->
   TbE (K w.params) []/\∃fd:qI6,(∀(s:qHp)(u:Value),qKy s fd ⟨[u],[]⟩ [("_law_script",u)])/\∀base:Heap,(K w.params).In base->base.Ns qHx mg->FnOk l.prog w (K w.params) mg base CX0 5 fa fd ["_law_script"] (zFO (K w.params))) :
  qF6 q loose XP YP l.row.toRowW d [] (fun f vs=>qFg f vs):=
 L3.walk_of0 (n:=63) (k:=5) (x:="_law_script") hn (by decide) hdf ⟨rfl,by decide,by decide⟩ hY F
end Q72
open PySem PySem.W PyProof.Rows
set_option maxRecDepth 100000 in
set_option maxHeartbeats 0 in
theorem PySem.Challenge.cw_fourway_k72_whole_any_order_holds : PySem.Challenge.rw_fourway_k72_whole_any_order.Holds := by
 refine hdZ.2 ?_;dsimp only[hdZ]
 k_fill
 refine Q72.walk (l:=qC0) rfl rfl (fun w h Y=>PySem.W.kIn_of Y) ?F
 case F=>
  intro w mg fa h KX G hmg;have T:L3.Tb (L2.KOf KX) [] none none none:=by
   dsimp only[L2.KOf];exact⟨L3.mk1_none (by k_is),L3.mk1_none (by k_is),L3.mk1_none (by k_is)⟩
  refine' ⟨⟨_,_,_,T⟩,Q72.all_mk KX G hmg (by constructor<;>first|exact L3.mkD KX G (by k_is) (by k_is) (by k_is) (by k_is)|exact PySem.W.mg_none_of KX G (by k_is)|exact L2.mkDD KX G (by k_is) (by k_is) (by k_is) (by k_is) (by k_is) (by rfl)) (by k_is) (by k_is) (by k_is) (by k_is) (by k_is) (by k_is) (by k_is) (by k_is) (by k_is) (by k_is) (by rfl) (by k_is) (by rfl) (by k_is) (by k_is) (by k_is) (by k_is) (by k_is) (by k_is) (by k_is) (by k_is) (by k_is) (by k_is) (by rfl) (by k_is) (by rfl) (by k_is) (by k_is) (by k_is) (by k_is) (by k_is) (by k_is) (by k_is) (by k_is) (by k_is) (by k_is) (by k_is) (by k_is)⟩
