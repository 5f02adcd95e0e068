import PyProof.Rows.All
import Wide.All
import OpenK.AllK
import Wide.FinOn
import Lean
import PyProof.EqAt
import PyProof.EqKinds
import PyProof.TupleCall
import PyProof.NeKinds
import KE.KLam
import KE.KNestM
import PySem.Challenge.RW_fourway_k68_all_sets_told
set_option Elab.async false
set_option linter.all false
set_option maxRecDepth 100000
open Array renaming getElem?_eq_some_iff->qBd,map_append->qCq,length_toList->qE8,toList_map->qF1,size_map->qFo,map_push->qFp,toList->qG5
open Bool renaming false_ne_true->qAb,and_eq_true->qBb,and_false->qCj,eq_iff_iff->qCu,false_eq_true->qD5,and_true->qDg,or_true->qDx,or_eq_true->qF7
open Char renaming toNat->qGe
open Classical renaming propDecidable->qA3
open Eq renaming trans->qF3
open False renaming elim->qA8
open ForInStep renaming yield->qBy
open Int renaming emod_lt_of_pos->qBw,emod_nonneg->qC1,toNat_natCast->qD9,mul_nonneg->qFq,mul_one->qGb
open List renaming getD_eq_getElem?_getD->qA0,getElem?_eq_some_iff->qA2,range->qA4,getElem?_eq_getElem->qA5,getElem?_set_self->qA6,replicate->qA7,getElem?_set_ne->qAa,getElem?_map->qAc,getElem?_append_left->qAd,getElem?_append_right->qAe,size_toArray->qAg,mem_cons->qAj,length_map->qAl,map_cons->qAn,mem_append_right->qAp,mem_map->qAq,mem_cons_of_mem->qAr,map_map->qAs,mem_filter->qAu,length_cons->qAv,map_congr_left->qAw,drop_eq_getElem_cons->qAy,mem_of_getElem?->qAz,length_append->qB0,getElem?_replicate->qB2,mem_append->qB4,contains_cons->qB8,getElem?_cons_succ->qB9,getElem?_cons_zero->qBa,lookup_cons->qBc,getD->qBe,mem_or_eq_of_mem_set->qBg,length_filter_le->qBi,mem_cons_self->qBj,eq_nil_of_length_eq_zero->qBl,not_mem_nil->qBm,length_replicate->qBo,mem_range->qBq,append_nil->qBx,set_append_right->qC0,mem_append_left->qC3,length_take->qC5,drop_length->qC6,ext_getElem->qC7,nodup_cons->qCa,all_cons->qCb,take_succ_eq_append_getElem->qCd,append_assoc->qCg,getElem?_set->qCi,drop_zero->qCk,set_getElem_self->qCl,set_set->qCm,getElem?_eq_none->qCn,filter_cons->qCp,getElem_mem->qCr,any_cons->qCs,filterMap_cons->qCt,of_mem_zip->qCv,forIn_cons->qCw,map_append->qCx,mem_singleton->qD3,getElem_range->qD4,forIn_nil->qD6,getElem?_take_of_lt->qD8,ext_getElem?->qDa,eq_of_mem_replicate->qDb,getElem_inj->qDj,length_drop->qDk,all_eq_true->qDn,take_length->qDo,range'_succ->qDr,range_succ_eq_map->qDs,length_singleton->qDw,mem_iff_getElem->qE0,pairwise_append->qE1,mem_of_mem_drop->qE2,range_eq_range'->qE3,range'->qEb,mem_filterMap->qEc,set_comm->qEg,drop->qEj,set_cons_succ->qEk,set_cons_zero->qEl,pairwise_cons->qEm,map_set->qEv,cons_append->qF0,length_set->qF5,lookup->qF6,range_succ->qF8,foldl_cons->qFa,all_map->qG6,length->qGc,cons->qGj
open List.Pairwise renaming nil->qCh,filter->qGa
open Nat renaming le_refl->qA9,lt_of_lt_of_le->qAf,zero_le->qAh,le_trans->qAi,ne_of_lt->qAm,le_of_lt->qB6,lt_succ_of_lt->qBf,ne_of_gt->qBn,lt_irrefl->qBt,le_succ->qBz,zero_add->qC9,min_eq_left->qCy,le_add_right->qDm,le_of_eq->qDy,pow_le_pow_right->qE4,lt_of_le_of_lt->qEe,min_self->qEt,lt_succ_self->qEz,le_zero->qF9,le_antisymm->qFb,sub_self->qG7,lt_or_ge->qG9
open Nat.succ renaming inj->qEw
open Ne renaming symm->qCo
open Option renaming isSome_iff_exists->qC8,map_some->qCc,map_none->qD1,getD_some->qDl,bind_some->qDp,map_eq_some_iff->qDt,none->qE9,isSome_some->qEd,getD_none->qEy,map->qGd
open Option.some renaming inj->qAk,injEq->qEr
open Or renaming inl->qGg,inr->qGh
open PyProof.Rows renaming callWith_type1->qB7,envOfC->qEa,callWith_builtin1->qEs,boot_isinstance->qH1,oneType'->qI0,AllBare->qI6,subscriptTail_builtinR->qIa,boot_list->qJ3,SortKind->qJg,IntsAre->qJs
open PySem renaming mem_of_lookup->qBu,Builtin->qEi,call->qEq,KeyKind->qG3,Within->qG4,Fin->qGi,Shared->qGk,Program->qGn,Around->qGo,mainGlobals->qGr,wpAny_loadPart_at->qGt,wpAny_loadPart'->qGv,sizeLine_eq->qGy,FuncData->qH2,wpAny_isSubtype_exc->qH4,wpAny_passesOwn->qH7,wpAny_Call_Name_kw->qHa,bootBuiltins->qHb,wpAny_execs_nil->qHc,NameKind->qHd,boot_len->qHe,strIterType->qHh,foldedSetIterable->qHo,GenState->qHp,builtinsNs->qHt,ExcBaseFacts->qHz,behindInMarks->qI8,wpAny_execs_cons->qI9,codeAny->qId,callerA->qIw,swapsWith->qJ0,bindArgs->qJ1,wpAny_assign_Name->qJ4,BindsTo->qJ5,slot_list_getitem->qJ6,wpAny_pyIter_enum->qJ8,Paired->qJa,seqIndex_neg->qJb,PassesOwn->qJh,Result->qJi,seqIndex_of->qJj,sysModules->qJn,wpAny_Name->qJo,standAt->qJr
open PySem.Challenge renaming rw_fourway_k68_all_sets_told->qBs,pw_fourway_k68_all_sets_told->qDe
open PySem.EqMixed renaming eq_bool_str->qFf,eq_str_bool->qFg,ne_bool_str->qFk,ne_str_bool->qFl,eq_int_str->qFu,eq_str_int->qFw,ne_int_str->qG0,ne_str_int->qG2
open PySem.EqNone renaming eq_none_none->qFc,eq_none_bool->qFd,eq_bool_none->qFe,ne_none_none->qFh,ne_none_bool->qFi,ne_bool_none->qFj,eq_none_int->qFr,eq_none_str->qFs,eq_int_none->qFt,eq_str_none->qFv,ne_none_int->qFx,ne_none_str->qFy,ne_int_none->qFz,ne_str_none->qG1
open PySem.F renaming slot_list_append->qDc,type_list_append->qDd,plainAttrs_list->qDi,slot_NoneType_hash->qHf,slot_bool_hash->qHs,excAttr_ValueError->qIl
open PySem.W renaming Frag->qA1,subIn->qAo,findIn->qAt,kia_one->qAx,keepIn->qB1,fnOf->qB3,kitOne->qB5,nsIn->qBh,clsIn->qBp,typeIn->qBr,codeIn->qBv,mg_of->qC2,exmOne->qC4,cellsFrom_some->qCe,hasDictIn->qCf,OpenLaw->qCz,callWith_K->qD2,methodObj->qD7,mroIn->qDf,codeHdIn->qDq,instObj->qDv,lookIn->qE5,tabObj->qE6,Looks->qEf,WalkO->qEh,specialIn->qEn,kitx_list->qEo,kitx_dict->qEp,envX->qEu,plainGet->qEx,takesIn->qF4,InstAt->qFm,notCls->qFn,kas_cmp->qI3,kas_item_eq->qJm,findIn->qJv
open PySem.W.Looks renaming ld->qGf
open StateT renaming run_bind->qD0,lift->qDh
open Std.Legacy renaming Range->qF2
open Std.Legacy.Range renaming forIn_eq_forIn_range'->qBk,size->qG8
open Sum renaming inl->qDu,inr->qE7
open True renaming intro->qDz
set_option compiler.extract_closed false
set_option genSizeOf false
set_option genSizeOfSpec false
set_option bootstrap.genMatcherCode false
set_option maxHeartbeats 4000000
open PyProof.Rows.SortSt renaming mk'->qH9
open PySem.Around renaming under_plainId->qIm
open PySem.Builtin renaming bitXor->qHq
open PySem.Builtin.Int renaming intBits->qHi,intTooBig->qIg
open PySem.Builtin.ObjectAttr renaming bindTo->qI2
open PySem.Builtin.Range renaming rangeSize->qI7
open PySem.Builtin.Str renaming strSliceIndices->qH3,occurrences->qHl
open PySem.Calls renaming Name_function_global->qHw,call_function_entry->qI4
open PySem.Code renaming quiet_builtin->qJ2
open PySem.EntryCells renaming newEntry->qIv
open PySem.Heap renaming get?_push_of_some->qGl,lt_size->qGm,get?_push_size->qGs,get?_update_other->qGu,get?_update_self->qH5,size_push->qH8,get?_none_of_le->qHg,MadeExcOf->qI1,SameBut->qIc,get?_update_ne->qIx,get?_push_ne->qJ9,size_update->qJf
open PySem.Heap.IsSliceOf renaming new->qJy
open PySem.NameKind renaming free->qGq,cell->qH6
open PySem.Obj renaming mapSeq->qGw,mapFields->qGz,data_mapFields->qHn,isFreed_of_fields->qHr
open PySem.Paired renaming length->qJq
open PySem.PassesOwn renaming never->qH0
open PySem.SeqAt renaming EqAt->qHu,RcNeAt->qJc,RcAt->qJp
open PySem.SeqAt.EqAt renaming of_refs->qHm,same->qHv,int_str->qHx,str_int->qHy,none_bool->qIi,bool_none->qIj,bool_bool->qIk,none_int->qIn,none_str->qIo,bool_int->qIp,bool_str->qIq,int_none->qIr,int_bool->qIs,str_none->qIt,str_bool->qIu
open PySem.SeqAt.RcAt renaming lists_lengths->qI5,list_tuple->qIe,tuple_list->qIf,tuples->qJ7,lists->qJd
open PySem.Str renaming ofString_eq_toList->qIb
open PySem.Txt renaming slice->qJu
open PySem.Value renaming ref->qGp,none->qGx,bool->qHj,builtin->qHk,type->qIh,int->qIy,str->qIz,float->qJx
open PySem.Value.ref renaming inj->qJt
open PySem.W.WData renaming layableAll->qJe,int->qJk,weightAll->qJl,weight->qJw
open PySem.W.WShape renaming has->qJz
noncomputable section
set_option maxHeartbeats 0 in
def hdZ:PSigma fun H:Prop=>H->PySem.Challenge.rw_fourway_k68_all_sets_told.Holds:=by
 refine' ⟨_,fun x=>?go⟩
 case' go=>w_on;o_law;refine' And.left (b:=_) ⟨?main,And.intro ?hl ?hc⟩
 case main=>
  k_head
  case hw=>w_witness2
 case hc=>exact x
 case hl=>intro w;unfold PySem.W.openEnds PySem.W.fencedOpening PySem.W.topFrom;rewrite[PySem.W.Fast.te10274390034422433532,PySem.W.Fast.te14289696077712309145,PySem.W.Fast.te14082659384304107361,PySem.W.Fast.te4187177175401517315,PySem.W.Fast.te1435165496053646825,PySem.W.Fast.te14364793385576792824];kernel_rfl
namespace L2
open PySem PySem.Spec PyProof.Rows
abbrev Key:=Sum Int Str
noncomputable def zNK:Key->Value->Bool
 |.inl k,v=>Value.isInt k v
 |.inr x,v=>Value.isStrOf x v
noncomputable def keyH(w:World):Key->Int
 |.inl k=>hashInt k
 |.inr x=>hashStr w x
theorem zB5:∀{k:Key}{v:Value},zNK k v=true->(∃i t,k=qDu i/\v=qIy i t)\/(∃x t,k=qE7 x/\v=qIz x t)
 |.inl i,v,h=>by
  obtain⟨t,e⟩:=Value.isInt_shape (k:=i) (v:=v) h;exact .inl ⟨i,t,rfl,e⟩
 |.inr x,v,h=>by
  obtain⟨t,e⟩:=Value.isStrOf_shape (x:=x) (v:=v) h;exact .inr ⟨x,t,rfl,e⟩
theorem zL1(a b:Int):decide ((qDu a:Key)=qDu b)=(a==b):=by
 by_cases e:a=b
 ·subst e;simp
 ·have h:¬(qDu a:Key)=qDu b:=fun q=>e (Sum.inl.inj q)
  rw[decide_eq_false h];exact(beq_eq_false_iff_ne.mpr e).symm
theorem zRE(a b:Str):decide ((qE7 a:Key)=qE7 b)=decide (a=b):=by
 by_cases e:a=b
 ·subst e;simp
 ·have h:¬(qE7 a:Key)=qE7 b:=fun q=>e (Sum.inr.inj q)
  rw[decide_eq_false h,decide_eq_false e]
theorem zRG(a:Int)(b:Str):decide ((qDu a:Key)=qE7 b)=false:=decide_eq_false (fun q=>nomatch q)
theorem zRF(a:Str)(b:Int):decide ((qE7 a:Key)=qDu b)=false:=decide_eq_false (fun q=>nomatch q)
def zNF(prog:qGn)(w:World):qG3 prog w Key where
 is:=zNK
 hash:=keyH w
 inj:=fun v a b ha hb=>by
  rcases zB5 ha with⟨i,t,rfl,rfl⟩|⟨x,t,rfl,rfl⟩
  ·rcases zB5 hb with⟨j,u,rfl,e⟩|⟨y,u,rfl,e⟩
   ·injection e with e1 _;rw[e1]
   ·exact nomatch e
  ·rcases zB5 hb with⟨j,u,rfl,e⟩|⟨y,u,rfl,e⟩
   ·exact nomatch e
   ·injection e with e1 _;rw[e1]
 byValue:=fun k v h=>by
  rcases zB5 h with⟨i,t,rfl,rfl⟩|⟨x,t,rfl,rfl⟩<;>rfl
 pyHash:=fun hv h=>by
  rcases zB5 hv with⟨i,t,rfl,rfl⟩|⟨x,t,rfl,rfl⟩
  ·exact wpAny_pyHash_int h
  ·exact wpAny_pyHash_str h
 eqBool:=fun hu hv h=>by
  rcases zB5 hu with⟨i,t,rfl,rfl⟩|⟨x,t,rfl,rfl⟩
  ·rcases zB5 hv with⟨j,u,rfl,rfl⟩|⟨y,u,rfl,rfl⟩
   ·rw[zL1]at h;exact wpAny_eqBool_int h
   ·rw[zRG]at h;exact qHx i t y u _ _ _ _ h
  ·rcases zB5 hv with⟨j,u,rfl,rfl⟩|⟨y,u,rfl,rfl⟩
   ·rw[zRF]at h;exact qHy x t j u _ _ _ _ h
   ·rw[zRE]at h;exact wpAny_eqBool_str h
 «strs»:=fun k x t v h=>by
  rcases zB5 h with⟨i,u,rfl,e⟩|⟨y,u,rfl,e⟩
  ·exact nomatch e
  ·injection e with e1 _
   subst e1;cases v<;>rfl
abbrev KeyN:=Option Key
noncomputable def zKD(b:Bool):Int:=if b then 1 else 0
def zNJ:KeyN->Value->Bool
 |none,.none=>true
 |some (.inl i),.bool b=>i==zKD b
 |some k,v=>zNK k v
 |_,_=>false
def zXA(w:World):KeyN->Int
 |none=>4238894112
 |some k=>keyH w k
theorem zBL:∀{k:KeyN}{v:Value},zNJ k v=true->(k=none/\v=qGx)\/(∃b,k=some (qDu (zKD b))/\v=qHj b)\/(∃i t,k=some (qDu i)/\v=qIy i t)\/(∃x t,k=some (qE7 x)/\v=qIz x t)
 |none,v,h=>by
  cases v<;>first|exact .inl ⟨rfl,rfl⟩|exact nomatch h
 |some (.inl i),v,h=>by
  by_cases hb:∃b,v=.bool b
  ·obtain⟨b,rfl⟩:=hb;have e:i=zKD b:=by simpa[zNJ]using h
   subst e;exact .inr (.inl ⟨b,rfl,rfl⟩)
  ·have h':zNK (.inl i) v=true:=by
    cases v<;>first|exact h|exact absurd ⟨_,rfl⟩ hb
   rcases zB5 h' with⟨j,t,e1,e2⟩|⟨x,t,e1,e2⟩
   ·exact .inr (.inr (.inl ⟨j,t,by rw[e1],e2⟩))
   ·cases e1
 |some (.inr x),v,h=>by
  have h':zNK (.inr x) v=true:=by
   cases v<;>exact h
  rcases zB5 h' with⟨j,t,e1,e2⟩|⟨y,t,e1,e2⟩
  ·cases e1
  ·exact .inr (.inr (.inr ⟨y,t,by rw[e1],e2⟩))
theorem zNV{prog:qGn}{w:World}{A:qGo}{E:Value->qGk->Prop}{s:qGk}{Q:Int->qGk->Prop}(h:Q 4238894112 { s with toks:=s.toks+1 }):wpAny (model prog w) A (pyHash .none) Q E s:=by
 unfold pyHash;have hT:s.TypeIs .none "NoneType":=rfl;refine wpAny_bind ?_;rw[cRoomFor,if_neg (by exact qAb)];refine wpAny_pure ?_;refine wpAny_bind (wpAny_specialOf hT qHf.lookup ?_);show wpAny _ _ (if(some (qHk "NoneType.__hash__")==some qGx)=true then _ else _) Q E s;rw[if_neg (by rw[beq_builtin_none];exact qAb)];refine wpAny_bind (wpAny_specialOf hT qHf.lookup ?_);show wpAny _ _ (callSpecialIfBoundUnlessNone? .none "__hash__" _ >>= _) Q E s;refine wpAny_bind (wpAny_callSpecialIfBoundUnlessNone?_slot hT qHf
  (wpAny_call_entry qHf hT F.entry_NoneType_hash
   (show wpAny _ _ (do ret (<- mkInt 0xFCA86420)) _ _ s from wpAny_ret_mkInt ?_) (F.args_NoneType_hash_1 _)))
 exact wpAny_pure h
theorem zNW{prog:qGn}{w:World}{A:qGo}{E:Value->qGk->Prop}{s:qGk}{b:Bool}{Q:Int->qGk->Prop}(h:Q (hashInt (zKD b)) { s with toks:=s.toks+1 }):wpAny (model prog w) A (pyHash (.bool b)) Q E s:=by
 unfold pyHash;have hT:s.TypeIs (.bool b) "bool":=rfl;refine wpAny_bind ?_;rw[cRoomFor,if_neg (by exact qAb)];refine wpAny_pure ?_;refine wpAny_bind (wpAny_specialOf hT qHs.lookup ?_);show wpAny _ _ (if(some (qHk "int.__hash__")==some qGx)=true then _ else _) Q E s;rw[if_neg (by rw[beq_builtin_none];exact qAb)];refine wpAny_bind (wpAny_specialOf hT qHs.lookup ?_);show wpAny _ _ (callSpecialIfBoundUnlessNone? (.bool b) "__hash__" _ >>= _) Q E s;refine wpAny_bind (wpAny_callSpecialIfBoundUnlessNone?_slot hT qHs
  (wpAny_call_entry qHs hT entry_int_hash
   (show wpAny _ _ (do ret (<- mkInt (rawHash (zKD b)))) _ _ s by cases b<;>exact wpAny_ret_mkInt (wpAny_pure h)) (args_int_hash _)))
theorem eqN(a b:KeyN):decide (a=b)=match a,b with|none,none=>true|some x,some y=>decide (x=y)|_,_=>false:=by
 cases a<;>cases b<;>simp
def mixN(prog:qGn)(w:World):qG3 prog w KeyN where
 is:=zNJ
 hash:=zXA w
 inj:=fun v a b ha hb=>by
  rcases zBL ha with⟨rfl,rfl⟩|⟨x,rfl,rfl⟩|⟨i,t,rfl,rfl⟩|⟨x,t,rfl,rfl⟩<;>rcases zBL hb with⟨rfl,e⟩|⟨y,rfl,e⟩|⟨j,u,rfl,e⟩|⟨y,u,rfl,e⟩<;>first|rfl|(cases e;done)|(cases e;rfl)
 byValue:=fun k v h=>by
  rcases zBL h with⟨rfl,rfl⟩|⟨x,rfl,rfl⟩|⟨i,t,rfl,rfl⟩|⟨x,t,rfl,rfl⟩<;>rfl
 pyHash:=fun hv h=>by
  rcases zBL hv with⟨rfl,rfl⟩|⟨x,rfl,rfl⟩|⟨i,t,rfl,rfl⟩|⟨x,t,rfl,rfl⟩
  ·exact zNV h
  ·exact zNW h
  ·exact wpAny_pyHash_int h
  ·exact wpAny_pyHash_str h
 eqBool:=fun hu hv h=>by
  rw[eqN]at h;rcases zBL hu with⟨rfl,rfl⟩|⟨x,rfl,rfl⟩|⟨i,t,rfl,rfl⟩|⟨x,t,rfl,rfl⟩<;>rcases zBL hv with⟨rfl,rfl⟩|⟨y,rfl,rfl⟩|⟨j,u,rfl,rfl⟩|⟨y,u,rfl,rfl⟩
  ·exact qHv _ _ _ _ _ h
  ·exact qIi _ _ _ _ _ h
  ·exact qIn _ _ _ _ _ _ h
  ·exact qIo _ _ _ _ _ _ h
  ·exact qIj _ _ _ _ _ h
  ·refine qIk _ _ _ _ _ _ ?_;cases x<;>cases y<;>exact h
  ·refine qIp _ _ _ _ _ _ _ ?_;dsimp only at h;rw[zL1]at h;exact h
  ·exact qIq _ _ _ _ _ _ _ h
  ·exact qIr _ _ _ _ _ _ h
  ·refine qIs _ _ _ _ _ _ _ ?_;dsimp only at h;rw[zL1]at h;exact h
  ·dsimp only at h;rw[zL1]at h;exact wpAny_eqBool_int h
  ·dsimp only at h;rw[zRG]at h;exact qHx _ _ _ _ _ _ _ _ h
  ·exact qIt _ _ _ _ _ _ h
  ·exact qIu _ _ _ _ _ _ _ h
  ·dsimp only at h;rw[zRF]at h;exact qHy _ _ _ _ _ _ _ _ h
  ·dsimp only at h;rw[zRE]at h;exact wpAny_eqBool_str h
 «strs»:=fun k x t v h=>by
  rcases zBL h with⟨rfl,e⟩|⟨x,rfl,e⟩|⟨i,u,rfl,e⟩|⟨y,u,rfl,e⟩
  ·exact nomatch e
  ·exact nomatch e
  ·exact nomatch e
  ·injection e with e1 _
   subst e1;cases v<;>rfl
inductive V where
 |non|bl (b:Bool)|int (i:Int)|str (x:Str)|byt (b:Array UInt8)|flt (b:UInt64)|ref (a:Addr)|ty (n:String)
 deriving DecidableEq
noncomputable def RelV:V->Value->Prop
 |.non,u=>u=qGx
 |.bl b,u=>u=qHj b
 |.int i,u=>∃t,u=qIy i t
 |.str x,u=>∃t,u=qIz x t
 |.byt b,u=>∃t,u=Value.bytes b t
 |.flt b,u=>∃t,u=qJx b t
 |.ref a,u=>u=qGp a
 |.ty n,u=>u=qIh n
abbrev Vals:List V->List Value->Prop:=qJa RelV
theorem Vals.length{xs:List V}{us:List Value}(r:Vals xs us):xs.length=us.length:=qJq r
theorem Vals.get:∀{xs:List V}{us:List Value}{i:Nat}{x:V},Vals xs us->xs[i]?=some x->∃u,us[i]?=some u/\RelV x u
 |_,_,_,_,.nil,e=>by simp at e
 |_,_,0,_,.cons r _,e=>by simp at e;subst e;exact⟨_,rfl,r⟩
 |_,_,i+1,x,.cons _ t,e=>by
  obtain⟨u,h1,h2⟩:=Vals.get (i:=i) (x:=x) t (by simpa using e);exact⟨u,by simpa using h1,h2⟩
theorem Vals.set{x:V}{u:Value}(r:RelV x u):∀{xs:List V}{us:List Value}(i:Nat),Vals xs us->Vals (xs.set i x) (us.set i u)
 |_,_,_,.nil=>.nil
 |_,_,0,.cons _ t=>.cons r t
 |_,_,i+1,.cons q t=>.cons q (Vals.set r i t)
theorem Vals.append:∀{xs ys:List V}{us ws:List Value},Vals xs us->Vals ys ws->Vals (xs++ys) (us++ws)
 |_,_,_,_,.nil,s=>s
 |_,_,_,_,.cons r t,s=>.cons r (Vals.append t s)
theorem Vals.take:∀{xs:List V}{us:List Value}(n:Nat),Vals xs us->Vals (xs.take n) (us.take n)
 |_,_,0,_=>.nil
 |_,_,_+1,.nil=>.nil
 |_,_,n+1,.cons r t=>.cons r (Vals.take n t)
theorem Vals.drop:∀{xs:List V}{us:List Value}(n:Nat),Vals xs us->Vals (xs.drop n) (us.drop n)
 |_,_,0,r=>r
 |_,_,_+1,.nil=>.nil
 |_,_,n+1,.cons _ t=>Vals.drop n t
def RelO:Option V->Option Value->Prop
 |some v,some u=>RelV v u
 |none,none=>True
 |_,_=>False
def KV{κ:Type}:List (κ×V)->List (κ×Value)->Prop:=qJa fun(p:κ×V)(q:κ×Value)=>p.1=q.1/\RelV p.2 q.2
noncomputable def kV:Key->V
 |.inl i=>.int i
 |.inr x=>.str x
def vN:V->Option KeyN
 |.non=>some none
 |.bl b=>some (some (.inl (zKD b)))
 |.int i=>some (some (.inl i))
 |.str x=>some (some (.inr x))
 |_=>none
abbrev KsOf:List V->List KeyN->Prop:=qJa fun v k=>vN v=some k
inductive HO where
 |lst (xs:List V)
 |tup (xs:List V)
 |dK (kvs:List (Key×V))|dT (T:Addr->Prop) (e0:Nat) (kvs:List (List KeyN×V))
 |set (S:Int->Bool) (n:Nat)
 |ins (C dx:Addr) (fs:List (Str×V))
 |own (x:Addr)
 |xd (fs:List (Str×V))
 |met (f x:Addr)
 |rng (lo hi:Int)
 |frz (o:Obj) (u:HO)
 |tbl (ps:Array Value)
 |lam (q:Str)
 |fn (o:Obj) (q:Str)
 |ext (φ:Heap->Prop)
abbrev Hp:=Addr->Option HO
noncomputable def upd(H:Hp)(a:Addr)(o:HO):Hp:=fun b=>if b=a then some o else H b
theorem zAM{H:Hp}{a:Addr}{o:HO}:upd H a o a=some o:=by unfold upd;rw[if_pos rfl]
theorem zAL{H:Hp}{a b:Addr}{o:HO}(h:b≠a):upd H a o b=H b:=by unfold upd;rw[if_neg h]
theorem zPR{H:Hp}{a b:Addr}{o u:HO}(h:H a=some o)(h':H b=some u)(d:o≠u):a≠b:=by
 intro e;subst e;rw[h]at h';exact d (qAk h')
theorem zAO{H:Hp}{a b:Addr}{o:HO}(h:H a=some o)(h':H b=none):a≠b:=by
 intro e;subst e;rw[h]at h';cases h'
def TupK(H:Hp)(b:Addr)(k:List KeyN):Prop:=∃vs,H b=some (.tup vs)/\KsOf vs k
theorem TupK.keeps{H H':Hp}{b:Addr}{k:List KeyN}(x:TupK H b k)(ht:∀b xs,H b=some (.tup xs)->H' b=some (.tup xs)):TupK H' b k:=let⟨vs,e,r⟩:=x;⟨vs,ht _ _ e,r⟩
def CodR(o:Obj)(q:Str):Prop:=∃vs t,o.data=.fields vs/\vs[1]?=some (.str q t)
section
variable(P:qGn)(w:World)
def ObjOk(H:Hp)(h:Heap)(a:Addr):HO->Prop
 |.lst xs=>xs.length<=sizeLine/\∃(its:List Value)(n:Nat),Vals xs its/\h.get? a=some { cls:=.type "list",data:=.seq its.toArray n }
 |.tup xs=>xs.length<=sizeLine/\∃its:List Value,Vals xs its/\IsTup h a its.toArray
 |.dK kvs=>kvs.length<=sizeLine/\(a==qJn)=false/\∃vs,KV kvs vs/\h.DictOf (zNF P w) a vs
 |.dT T e0 kvs=>kvs.length<=sizeLine/\(a==qJn)=false/\∃xs:List (List KeyN×Addr×Value),
   qJa (fun(p:List KeyN×V)(q:List KeyN×Addr×Value)=>p.1=q.1/\(TupK H q.2.1 p.1/\T q.2.1)/\RelV p.2 q.2.2) kvs xs /\
   ∃o es ep,h.get? a=some o/\o.ExactDict/\o.data=.dict es ep/\es.toList=xs.map (entryOfKey (tupleKind (mixN P w)))/\(xs.map (·.1)).Nodup/\ep=e0
 |.set S n=>h.SetOf (intKind P w) a S n
 |.ins C dx fs=>H dx=some (.own a)/\fs.length<=1000/\dx≠a/\h.get? a=some (qDv C dx) /\
   ∃mA,h.Ns1 dx mA/\(∀f,RelO (fs.lookup f) (mA f))/\qG4 mA (fs.map (·.1))
 |.own _=>∃o,h.get? a=some o
 |.xd fs=>∃mA,h.Ns1 a mA/\∀f,RelO (fs.lookup f) (mA f)
 |.rng lo hi=>∃t u v,h.get? a=some { cls:=.type "range",data:=.fields #[.int lo t,.int hi u,.int 1 v] }
 |.frz o u=>h.get? a=some o/\ObjOk H h a u
 |.tbl ps=>h.get? a=some { cls:=.none,data:=.fields ps }
 |.lam q=>∃ps:Array Value,h.get? a=some { cls:=.none,data:=.fields ps }/\TriplesOk ps.toList/\∀pos cv,codeAmong pos ps.toList=some cv->∃c oc u,cv=.ref c/\H c=some (.frz oc u)/\CodR oc q
 |.fn o q=>h.get? a=some o/\∃fd c oc u,o.data=.func fd/\fd.code=.ref c/\H c=some (.frz oc u)/\CodR oc q
 |.met f x=>h.get? a=some (qD7 (.ref f) (.ref x))
 |.ext φ=>φ h/\(∃o,h.get? a=some o)/\∀h1 h2:Heap,φ h1->(∀o,h1.get? a=some o->h2.get? a=some o)->φ h2
def HOk(H:Hp)(h:Heap):Prop:=∀a o,H a=some o->ObjOk P w H h a o
end
section
variable{P:qGn}{w:World}{H H':Hp}{h h':Heap}{a:Addr}{o:HO}
theorem ObjOk.lt(x:ObjOk P w H h a o):a<h.objs.size:=by
 cases o with
 |lst xs=>obtain⟨_,_,_,_,e⟩:=x;exact qGm e
 |tup xs=>obtain⟨_,_,_,p⟩:=x;exact p.lt
 |dK kvs=>obtain⟨_,_,_,_,o,_,_,e,_⟩:=x;exact qGm e
 |dT T e0 kvs=>obtain⟨_,_,_,_,o,_,_,e,_⟩:=x;exact qGm e
 |set S n=>obtain⟨o,_,_,_,e,_⟩:=x;exact qGm e
 |ins C dx fs=>obtain⟨_,_,_,e,_⟩:=x;exact qGm e
 |own y=>obtain⟨_,e⟩:=x;exact qGm e
 |xd fs=>obtain⟨_,⟨_,_,_,e,_⟩,_⟩:=x;exact qGm e
 |rng lo hi=>obtain⟨_,_,_,e⟩:=x;exact qGm e
 |frz ob u=>obtain⟨e,_⟩:=x;exact qGm e
 |tbl ps=>exact qGm (show h.get? a=some _ from x)
 |lam q=>obtain⟨_,e,_⟩:=x;exact qGm e
 |fn ob q=>obtain⟨e,_⟩:=x;exact qGm e
 |met f y=>exact qGm (show h.get? a=some _ from x)
 |ext φ=>obtain⟨_,⟨_,e⟩,_⟩:=x;exact qGm e
theorem qJa.mapP{α β:Type}{F G:α->β->Prop}:∀{l₁:List α}{l₂:List β},qJa F l₁ l₂->(∀a b,F a b->G a b)->qJa G l₁ l₂
 |_,_,.nil,_=>.nil
 |_,_,.cons r t,f=>.cons (f _ _ r) (qJa.mapP t f)
theorem ObjOk.stay(x:ObjOk P w H h a o)(k:∀b u,(b=a\/H b=some (.own a))->h.get? b=some u->h'.get? b=some u)
  (ho:∀b,H b=some (.own a)->H' b=some (.own a)) (ht:∀b xs,H b=some (.tup xs)->H' b=some (.tup xs)) (hf:∀b o u,H b=some (.frz o u)->(∃vs,o.data=.fields vs)->H' b=some (.frz o u)):ObjOk P w H' h' a o:=by
 induction o with
 |lst xs=>obtain⟨z,its,n,r,e⟩:=x;exact⟨z,its,n,r,k _ _ (.inl rfl) e⟩
 |tup xs=>obtain⟨z,its,r,ob,e,c⟩:=x;exact⟨z,its,r,ob,k _ _ (.inl rfl) e,c⟩
 |dK kvs=>obtain⟨z,y,vs,r,ob,es,ep,e,c⟩:=x;exact⟨z,y,vs,r,ob,es,ep,k _ _ (.inl rfl) e,c⟩
 |dT T e0 kvs=>
  obtain⟨z,y,xs,r,ob,es,ep,e,c⟩:=x;exact⟨z,y,xs,qJa.mapP r fun p q z=>⟨z.1,⟨z.2.1.1.keeps ht,z.2.1.2⟩,z.2.2⟩,ob,es,ep,k _ _ (.inl rfl) e,c⟩
 |set S n=>obtain⟨ob,es,ep,t,e,c⟩:=x;exact⟨ob,es,ep,t,k _ _ (.inl rfl) e,c⟩
 |ins C dx fs=>
  obtain⟨d,z,ne,e,mA,⟨od,es,ep,e2,c⟩,r⟩:=x;exact⟨ho _ d,z,ne,k _ _ (.inl rfl) e,mA,⟨od,es,ep,k _ _ (.inr d) e2,c⟩,r⟩
 |own y=>obtain⟨ob,e⟩:=x;exact⟨ob,k _ _ (.inl rfl) e⟩
 |xd fs=>obtain⟨mA,⟨od,es,ep,e,c⟩,r⟩:=x;exact⟨mA,⟨od,es,ep,k _ _ (.inl rfl) e,c⟩,r⟩
 |rng lo hi=>obtain⟨t,u,v,e⟩:=x;exact⟨t,u,v,k _ _ (.inl rfl) e⟩
 |frz ob u ih=>obtain⟨e,q⟩:=x;exact⟨k _ _ (.inl rfl) e,ih q⟩
 |tbl ps=>
  have e:h.get? a=some { cls:=.none,data:=.fields ps }:=x;show h'.get? a=some { cls:=.none,data:=.fields ps };exact k a _ (.inl rfl) e
 |lam q=>
  obtain⟨ps,e,t,r⟩:=x;exact⟨ps,k _ _ (.inl rfl) e,t,fun pos cv z=>let⟨c,oc,u,e1,e2,e3⟩:=r pos cv z;⟨c,oc,u,e1,hf _ _ _ e2 (let⟨vs,_,d,_⟩:=e3;⟨vs,d⟩),e3⟩⟩
 |fn ob q=>
  obtain⟨e,fd,c,oc,u,e1,e2,e3,e4⟩:=x;exact⟨k _ _ (.inl rfl) e,fd,c,oc,u,e1,e2,hf _ _ _ e3 (let⟨vs,_,d,_⟩:=e4;⟨vs,d⟩),e4⟩
 |met f y=>
  have e:h.get? a=some (qD7 (.ref f) (.ref y)):=x;show h'.get? a=some (qD7 (.ref f) (.ref y));exact k a _ (.inl rfl) e
 |ext φ=>obtain⟨p,⟨o,e⟩,st⟩:=x;exact⟨st _ _ p fun o q=>k _ _ (.inl rfl) q,⟨o,k _ _ (.inl rfl) e⟩,st⟩
theorem HOk.lt(x:HOk P w H h)(e:H a=some o):a<h.objs.size:=(x a o e).lt
theorem HOk.fresh(x:HOk P w H h)(e:h.objs.size<=a):H a=none:=by
 cases q:H a with
 |none=>rfl
 |some u=>exact absurd (qAf (x.lt q) e) (qBt _)
theorem HOk.kept(x:HOk P w H h)(k:∀b u,h.get? b=some u->h'.get? b=some u):HOk P w H h':=fun a o e=>
 (x a o e).stay (fun b u _ q=>k b u q) (fun _ q=>q) (fun _ _ q=>q) fun _ _ _ q _=>q
theorem HOk.laid(x:HOk P w H h)(k:∀b u,h.get? b=some u->h'.get? b=some u)(hp:h.objs.size<=a)(new:ObjOk P w (upd H a o) h' a o):HOk P w (upd H a o) h':=fun b u e=>by
 have hn:=x.fresh hp;by_cases hb:b=a
 ·subst hb;rw[zAM]at e;cases e;exact new
 ·rw[zAL hb]at e;exact(x b u e).stay (fun c v _ q=>k c v q) (fun c q=>by rw[zAL (zAO q hn)];exact q) (fun c xs q=>by rw[zAL (zAO q hn)];exact q) fun c _ _ q _=>by rw[zAL (zAO q hn)];exact q
end
def Rd(H:Hp)(a:Addr)(u:HO):Prop:=H a=some u\/∃o,H a=some (.frz o u)
theorem Rd.ok{P:qGn}{w:World}{H:Hp}{h:Heap}{a:Addr}{u:HO}(r:Rd H a u)(x:HOk P w H h):ObjOk P w H h a u:=by
 rcases r with r|⟨o,r⟩
 ·exact x a u r
 ·obtain⟨_,q⟩:=x a _ r;exact q
noncomputable def Mut:Option HO->Prop
 |some (.lst _)=>True
 |some (.dK _)=>True
 |some (.dT _ _ _)=>True
 |some (.set _ _)=>True
 |some (.ins _ _ _)=>True
 |some (.ext _)=>True
 |some (.lam _)=>True
 |_=>False
section
variable{P:qGn}{w:World}{H:Hp}{h h':Heap}{x e:Addr}{o':HO}
theorem HOk.write(ok:HOk P w H h)(mu:Mut (H x))(he:e=x\/H e=some (.own x))(k:∀b u,b≠e->h.get? b=some u->h'.get? b=some u)(heo:∃u,h'.get? e=some u)
  (new:ObjOk P w (upd H x o') h' x o'):HOk P w (upd H x o') h':=fun b u q=>by
 have nown:∀c y,H c=some (.own y)->c≠x:=fun c y r z=>by subst z;rw[r]at mu;exact mu
 have ntup:∀c xs,H c=some (.tup xs)->c≠x:=fun c xs r z=>by subst z;rw[r]at mu;exact mu
 have nfrz:∀c o v,H c=some (.frz o v)->c≠x:=fun c o v r z=>by subst z;rw[r]at mu;exact mu
 by_cases hb:b=x
 ·subst hb;rw[zAM]at q;cases q;exact new
 ·rw[zAL hb]at q
  by_cases hbe:b=e
  ·have q':H b=some (.own x):=by
    rcases he with z|z
    ·exact absurd (hbe.trans z) hb
    ·rw[hbe];exact z
   rw[q]at q';cases q';obtain⟨v,hv⟩:=heo;exact⟨v,by rw[hbe];exact hv⟩
  ·refine(ok b u q).stay (fun c v hc r=>k c v ?_ r) (fun c r=>by rw[zAL (nown c b r)];exact r) (fun c xs r=>by rw[zAL (ntup c xs r)];exact r) fun c o v r _=>by rw[zAL (nfrz c o v r)];exact r
   rcases hc with rfl|hc
   ·exact hbe
   ·rintro rfl
    rcases he with z|z
    ·exact nown c b hc z
    ·rw[hc]at z;cases z;exact hb rfl
end
structure Un(fs ex:List Addr)(H H':Hp)(h h':Heap):Prop where
 keep:∀b o,h.get? b=some o->H b=none->b∉fs->b∉ex->h'.get? b=some o
 slot:∀b o,h.get? b=some o->H b=none->b∈fs->b∉ex->∃sl,h'.get? b=some { o with slots:=sl }
 free:∀b o,h.get? b=some o->H b=none->b∉ex->H' b=none
 there:∀b o,h.get? b=some o->b∉ex->∃o',h'.get? b=some o'
 tups:∀b xs,H b=some (.tup xs)->H' b=some (.tup xs)
 frzs:∀b o u,H b=some (.frz o u)->H' b=some (.frz o u)
 tbls:∀b ps,H b=some (.tbl ps)->∃more,H' b=some (.tbl (ps++more))
section
variable{fs fs' ex ex':List Addr}{H H1 H2:Hp}{h h1 h2 h':Heap}{a x e:Addr}{o:HO}
theorem Un.any(u:Un fs ex H H1 h h1){b:Addr}{ob:Obj}(q:h.get? b=some ob)(n:H b=none)(hx:b∉ex):∃sl,h1.get? b=some { ob with slots:=sl }:=by
 by_cases hb:b∈fs
 ·exact u.slot b ob q n hb hx
 ·exact⟨ob.slots,u.keep b ob q n hb hx⟩
theorem Un.kept(k:∀b u,h.get? b=some u->h'.get? b=some u):Un fs ex H H h h':=
 ⟨fun b ob q _ _ _=>k b ob q,fun b ob q _ _ _=>⟨ob.slots,k b ob q⟩,fun _ _ _ n _=>n,fun b ob q _=>⟨ob,k b ob q⟩,fun _ _ q=>q,fun _ _ _ q=>q,fun _ ps q=>⟨#[],by rw[q];simp⟩⟩
theorem Un.refl:Un fs ex H H h h:=Un.kept fun _ _ q=>q
theorem Un.laid(k:∀b u,h.get? b=some u->h'.get? b=some u)(hp:h.objs.size<=a)(hn:H a=none):Un fs ex H (upd H a o) h h' where
 keep:=fun b u q _ _ _=>k b u q
 slot:=fun b u q _ _ _=>⟨u.slots,k b u q⟩
 free:=fun b u q n _=>by rw[zAL (qAm (qAf (qGm q) hp))];exact n
 there:=fun b u q _=>⟨u,k b u q⟩
 tups:=fun b xs q=>by rw[zAL (zAO q hn)];exact q
 frzs:=fun b u xs q=>by rw[zAL (zAO q hn)];exact q
 tbls:=fun b ps q=>⟨#[],by rw[zAL (zAO q hn),q];simp⟩
theorem Un.write(mu:Mut (H x))(he:e=x\/H e=some (.own x))(k:∀b u,b≠e->h.get? b=some u->h'.get? b=some u)(heo:∃u,h'.get? e=some u):Un fs ex H (upd H x o) h h':=by
 have hx:∀b,H b=none->b≠x:=fun b n z=>by subst z;rw[n]at mu;exact mu
 have hb:∀b,H b=none->b≠e:=fun b n z=>by
  subst z;rcases he with r|r
  ·exact hx b n r
  ·rw[n]at r;cases r
 have hm:∀b u,H b=some u->¬Mut (some u)->b≠x:=fun b u q nm z=>by subst z;rw[q]at mu;exact nm mu
 refine⟨fun b u q n _ _=>k b u (hb b n) q,fun b u q n _ _=>⟨u.slots,k b u (hb b n) q⟩,fun b u q n _=>by rw[zAL (hx b n)];exact n,fun b u q _=>?_,
  fun b xs q=>by rw[zAL (hm b _ q fun z=>z)];exact q,fun b u xs q=>by rw[zAL (hm b _ q fun z=>z)];exact q,fun b ps q=>⟨#[],by rw[zAL (hm b _ q fun z=>z),q];simp⟩⟩
 by_cases hbe:b=e
 ·subst hbe;exact heo
 ·exact⟨u,k b u hbe q⟩
end
noncomputable def trk(h:Heap)(H:Hp):List Addr:=(qA4 h.objs.size).filter fun a=>(H a).isSome
def hidT(h:Heap)(H:Hp):Heap:=PySem.W.hideAll h (trk h H)
theorem zNU(h:Heap)(H:Hp):(hidT h H).objs.size=h.objs.size:=PySem.W.hideAll_size _ _
theorem zQ4{h:Heap}{H:Hp}{b:Addr}{o:Obj}(e:h.get? b=some o)(n:H b=none):(hidT h H).get? b=some o:=
 PySem.W.hideAll_get _ e fun hm=>by
  have q:(H b).isSome=true:=(qAu.mp hm).2;rw[n]at q;simp at q
theorem zT0{h:Heap}{H:Hp}{b:Addr}{o:Obj}(e:(hidT h H).get? b=some o):h.get? b=some o/\H b=none:=by
 have e':h.get? b=some o:=PySem.W.of_hideAll (trk h H) e;refine⟨e',?_⟩;cases q:H b with
 |none=>rfl
 |some x=>
  have hm:b∈trk h H:=qAu.mpr ⟨qBq.mpr (qGm e'),by simp[q]⟩;have z:(hidT h H).get? b=none:=PySem.W.hideAll_none (trk h H) hm;rw[z]at e;cases e
noncomputable def zTT(g h:Heap)(L:Addr):List (Addr×Obj):=(qA4 h.objs.size).filterMap fun a=>if a=L\/(g.get? a).isSome=true then none else(h.get? a).map fun o=>(a,o)
def rest(g h:Heap)(L d:Addr):List (Addr×Obj):=(zTT g h L).filter fun p=>decide (p.1≠d)
structure Mod(K:qA1)(mg:Str->Option Value)(base:Heap):Prop where
 kin:K.In base
 glob:base.Ns qGr mg
 blt:∃mb,base.Ns qHt mb/\∀x:Str,x≠"__name__"->mb x=qHb x
 nolimit:base.NoLimit
 bm:∃bm ob,mg "__builtins__" = some (.ref bm)/\bm≠qHt/\base.get? bm=some ob/\ob.cls=.type "module"/\ob.dict=some qHt/\ob.data=.plain
structure Cx where
 prog:qGn
 w:World
 K:qA1
 mg:Str->Option Value
 base:Heap
 A:qGo
 N:List Str
 s₀:qGk
 H₀:Hp
 env:Env
 outer:List Env
 stack:List Env
 ex:List Addr
 fn:Str->Bool
 calm:Bool
 pn:List (Addr×Obj)
 xe:Value->qGk->Prop
noncomputable def frs(l:List Env):List Addr:=l.filterMap (·.frame)
abbrev Cx.fs(X:Cx):List Addr:=frs X.outer
def Vis(sc:Scope)(x:Str):Prop:=sc.names.lookup x=some .local\/sc.names.lookup x=some .cell\/sc.names.lookup x=some .free
def Loc(sc:Scope)(x:Str):Prop:=sc.names.lookup x=some .local\/sc.names.lookup x=some .cell
def Look(env:Env)(h:Heap)(m:Str->Option Value)(x:Str)(u:Value):Prop:=
 (env.kindOf x=some .local/\m x=some u)\/((env.kindOf x=some .cell\/env.kindOf x=some .free)/\∃c,env.cells.lookup x=some c/\h.IsCell c (some u))
structure Cx.Ok(X:Cx):Prop where
 mod:Mod X.K X.mg X.base
 kind:X.env.scope.kind=.function
 glob:X.env.globals=qGr
 blt:X.env.builtins=qHt
 above:X.s₀.heap.objs.size<=X.env.locals
 inj:∀x y c,X.env.cells.lookup x=some c->X.env.cells.lookup y=some c->x=y
 has:∀x,(X.env.kindOf x=some .cell\/X.env.kindOf x=some .free)->∃c,X.env.cells.lookup x=some c
 cab:∀x c,X.fn x=true->X.env.cells.lookup x=some c->X.s₀.heap.objs.size<=c
 hd:X.calm=true->X.A.handled=none
 frames:X.A.frames=some X.stack
 stk:X.stack=X.outer\/(X.stack=X.env::X.outer/\X.env.frame=some X.env.locals)
 exf:∀b∈X.ex,b≠X.env.locals/\∀x c,X.env.cells.lookup x=some c->c≠b
 bs:∀b o,X.base.get? b=some o->X.s₀.heap.get? b=some o/\X.H₀ b=none
 bsz:X.base.objs.size<=X.s₀.heap.objs.size
 noex:∀b o,X.base.get? b=some o->b∉X.ex
 exfs:∀b∈X.ex,b∉X.fs
 funs:X.s₀.heap.FunFrames X.base X.outer
 frf:∀b∈X.fs,X.H₀ b=none
structure Inv(X:Cx)(pins:List (Addr×Obj))(σ:List (Option V))(H:Hp)(s:qGk):Prop where
 ok:X.Ok
 os:s.os=X.s₀.os
 bare:qI6 s.gens
 base:Un X.fs X.ex X.H₀ H X.s₀.heap s.heap
 loc:∃m,s.heap.Ns X.env.locals m/\∀(i:Nat)(x:Str)(v:V),X.N[i]?=some x->σ[i]?=some (some v)->Vis X.env.scope x->∃u,RelV v u/\Look X.env s.heap m x u
 cell:∀x c,X.env.cells.lookup x=some c->∃v,s.heap.IsCell c v
 free:H X.env.locals=none
 freeC:∀x c,X.env.cells.lookup x=some c->H c=none
 pin:∀p∈X.pn++pins,s.heap.get? p.1=some p.2/\H p.1=none/\p.1≠X.env.locals/\p.1∉X.fs/\∀v,p.2.data≠.cell v
 hok:HOk X.prog X.w H s.heap
 len:σ.length=X.N.length
section
variable{X:Cx}{pins:List (Addr×Obj)}{σ:List (Option V)}{H H':Hp}{s:qGk}{h':Heap}
theorem Cx.Ok.nofr(ok:X.Ok){b:Addr}{o:Obj}(e:X.base.get? b=some o):b∉X.fs:=fun hb=>by
 have:=(ok.funs.mem hb).1;rw[e]at this;cases this
theorem Inv.bs(I:Inv X pins σ H s):∀b o,X.base.get? b=some o->s.heap.get? b=some o/\H b=none:=fun b o e=>
 ⟨I.base.keep b o (I.ok.bs b o e).1 (I.ok.bs b o e).2 (I.ok.nofr e) (I.ok.noex b o e),I.base.free b o (I.ok.bs b o e).1 (I.ok.bs b o e).2 (I.ok.noex b o e)⟩
theorem Inv.bk(I:Inv X pins σ H s):∀b o,X.base.get? b=some o->s.heap.get? b=some o:=fun b o e=>(I.bs b o e).1
theorem Inv.mod(I:Inv X pins σ H s):Mod X.K X.mg X.base:=I.ok.mod
theorem Inv.kIn(I:Inv X pins σ H s):X.K.In s.heap:=I.ok.mod.kin.keeps I.bk
theorem Inv.fr(I:Inv X pins σ H s):∃m,Fr X.base X.env.locals s.heap m:=
 let⟨m,hn,_⟩:=I.loc
 ⟨m,hn,I.bk,qAi I.ok.bsz I.ok.above⟩
theorem Inv.lt(I:Inv X pins σ H s):X.env.locals<s.heap.objs.size:=let⟨_,hn,_⟩:=I.loc;hn.lt
theorem Inv.sz(I:Inv X pins σ H s):X.s₀.heap.objs.size<=s.heap.objs.size:=qAi I.ok.above (qB6 I.lt)
theorem Inv.nofs(I:Inv X pins σ H s){a:Addr}(h:s.heap.objs.size<=a):a∉X.fs:=fun hb=>by
 obtain⟨_,o,ho,_⟩:=I.ok.funs.mem hb;exact absurd (qAf (qGm ho) (qAi I.sz h)) (qBt _)
theorem Inv.cne(I:Inv X pins σ H s):∀x c,X.env.cells.lookup x=some c->c≠X.env.locals:=fun x c e z=>by
 obtain⟨v,o,ho,hd⟩:=I.cell x c e;obtain⟨m,⟨o',es,ep,ho',hd',_⟩,_⟩:=I.loc;rw[z,ho']at ho;cases ho;rw[hd']at hd;cases hd
theorem Inv.funs(I:Inv X pins σ H s):s.heap.FunFrames X.base X.outer:=by
 have all:∀(l:List Env),(∀b∈frs l,b∈X.fs)->X.s₀.heap.FunFrames X.base l->s.heap.FunFrames X.base l:=by
  intro l;induction l with
  |nil=>intro _ _;trivial
  |cons env r ih=>
   intro hs hl;obtain⟨hk,⟨L,o,hf,hn,ho,hd⟩,hr⟩:=hl;have hL:L∈X.fs:=hs L (by unfold frs;rw[qCt,hf];exact qBj);obtain⟨sl,e⟩:=I.base.slot L o ho (I.ok.frf L hL) hL fun z=>I.ok.exfs L z hL
   exact⟨hk,⟨L,_,hf,hn,e,hd⟩,ih (fun b hb=>hs b (by unfold frs;rw[qCt,hf];exact qAr _ hb)) hr⟩
 exact all X.outer (fun _ hb=>hb) I.ok.funs
theorem Inv.stack(I:Inv X pins σ H s):s.heap.FunFrames X.base X.stack:=by
 rcases I.ok.stk with e|⟨e,hf⟩
 ·rw[e];exact I.funs
 ·rw[e];obtain⟨m,hn,_⟩:=I.loc;refine .cons (by rw[I.ok.kind];decide) hf hn ?_ I.funs;exact qHg (qAi I.ok.bsz I.ok.above)
theorem Inv.stkSub(I:Inv X pins σ H s):∀b∈frs X.stack,b∈X.env.locals::X.fs:=fun b hb=>by
 rcases I.ok.stk with e|⟨e,hf⟩
 ·rw[e]at hb;exact qAr _ hb
 ·rw[e]at hb;unfold frs at hb;rw[qCt,hf]at hb;exact hb
theorem Inv.stkFree(I:Inv X pins σ H s):∀b∈frs X.stack,H b=none:=fun b hb=>by
 rcases qAj.mp (I.stkSub b hb)with e|hb
 ·rw[e];exact I.free
 ·obtain⟨_,o,ho,_⟩:=I.ok.funs.mem hb;exact I.base.free b o ho (I.ok.frf b hb) fun z=>I.ok.exfs b z hb
theorem Inv.step{g':Array qHp}{t':Nat}{d':Drawn}{ch:List Addr}(I:Inv X pins σ H s)
  (hch:∀b∈ch,(b∈X.ex\/X.s₀.heap.objs.size<=b)/\b≠X.env.locals/\(∀x c,X.env.cells.lookup x=some c->c≠b)/\∀p∈X.pn++pins,p.1≠b)
  (keep:∀b o,b≠X.env.locals->b∉X.fs->b∉ch->s.heap.get? b=some o->H b=none->h'.get? b=some o)
  (slot:∀b o,b≠X.env.locals->b∈X.fs->b∉ch->s.heap.get? b=some o->H b=none->∃sl,h'.get? b=some { o with slots:=sl }) (free:∀b o,b∉ch->s.heap.get? b=some o->H b=none->H' b=none)
  (there:∀b o,b∉ch->s.heap.get? b=some o->∃o',h'.get? b=some o')
  (tups:∀b xs,H b=some (.tup xs)->H' b=some (.tup xs)) (frzs:∀b o u,H b=some (.frz o u)->H' b=some (.frz o u)) (tbls:∀b ps,H b=some (.tbl ps)->∃more,H' b=some (.tbl (ps++more)))
  (ns:∀m,s.heap.Ns X.env.locals m->h'.Ns X.env.locals m) (hok:HOk X.prog X.w H' h') (hg:qI6 g') :
  Inv X pins σ H' { s with heap:=h',gens:=g',drawn:=d',toks:=t' }:=by
 have neL:∀b o,X.s₀.heap.get? b=some o->b≠X.env.locals:=fun b o e=>qAm (qAf (qGm e) I.ok.above)
 have neC:∀b o,X.s₀.heap.get? b=some o->b∉X.ex->b∉ch:=fun b o e hx hb=>by
  rcases(hch b hb).1 with z|z
  ·exact hx z
  ·exact absurd (qAf (qGm e) z) (qBt _)
 have cellK:∀x c,X.env.cells.lookup x=some c->∀v,s.heap.IsCell c v->h'.IsCell c v:=fun x c e v ⟨o,ho,hd⟩=>by
  have nch:c∉ch:=fun z=>(hch c z).2.2.1 x c e rfl
  by_cases hc:c∈X.fs
  ·obtain⟨sl,q⟩:=slot c o (I.cne x c e) hc nch ho (I.freeC x c e);exact⟨_,q,hd⟩
  ·exact⟨o,keep c o (I.cne x c e) hc nch ho (I.freeC x c e),hd⟩
 refine⟨I.ok,I.os,hg,⟨fun b o e n hb hx=>?_,fun b o e n hb hx=>?_,fun b o e n hx=>?_,fun b o e hx=>?_,fun b xs e=>tups b xs (I.base.tups b xs e),fun b o xs e=>frzs b o xs (I.base.frzs b o xs e),fun b ps e=>?_⟩,?_,fun x c e=>?_,?_,fun x c e=>?_,fun p hp=>?_,hok,I.len⟩
 ·exact keep b o (neL b o e) hb (neC b o e hx) (I.base.keep b o e n hb hx) (I.base.free b o e n hx)
 ·obtain⟨sl,e1⟩:=I.base.slot b o e n hb hx;obtain⟨sl',e2⟩:=slot b _ (neL b o e) hb (neC b o e hx) e1 (I.base.free b o e n hx);exact⟨sl',e2⟩
 ·obtain⟨o',e1⟩:=I.base.there b o e hx;exact free b o' (neC b o e hx) e1 (I.base.free b o e n hx)
 ·obtain⟨o',e1⟩:=I.base.there b o e hx;exact there b o' (neC b o e hx) e1
 ·obtain⟨m1,e1⟩:=I.base.tbls b ps e;obtain⟨m2,e2⟩:=tbls b _ e1;exact⟨m1++m2,by rw[e2,Array.append_assoc]⟩
 ·obtain⟨m,hn,hl⟩:=I.loc;refine⟨m,ns m hn,fun i x v e1 e2 e3=>?_⟩;obtain⟨u,r,l⟩:=hl i x v e1 e2 e3;refine⟨u,r,?_⟩
  rcases l with l|⟨k,c,e,z⟩
  ·exact .inl l
  ·exact .inr ⟨k,c,e,cellK x c e _ z⟩
 ·obtain⟨v,z⟩:=I.cell x c e;exact⟨v,cellK x c e v z⟩
 ·obtain⟨m,⟨o,_,_,ho,_⟩,_⟩:=I.loc;exact free _ o (fun z=>(hch _ z).2.1 rfl) ho I.free
 ·obtain⟨v,o,ho,hd⟩:=I.cell x c e;exact free c o (fun z=>(hch c z).2.2.1 x c e rfl) ho (I.freeC x c e)
 ·obtain⟨e,n,ne,nf,d⟩:=I.pin p hp;have nch:p.1∉ch:=fun z=>(hch p.1 z).2.2.2 p hp rfl
  exact⟨keep p.1 p.2 ne nf nch e n,free p.1 p.2 nch e n,ne,nf,d⟩
theorem Inv.un{t':Nat}(I:Inv X pins σ H s)(u:Un X.fs [] H H' s.heap h')(hok:HOk X.prog X.w H' h'):Inv X pins σ H' { s with heap:=h',toks:=t' }:=by
 obtain⟨m,⟨o,es,ep,ho,r⟩,_⟩:=id I.loc;obtain⟨sl,hL⟩:=u.any ho I.free (by simp);exact I.step (g':=s.gens) (d':=s.drawn) (ch:=[]) (fun _ z=>nomatch z) (fun b o _ hb _ e n=>u.keep b o e n hb (by simp)) (fun b o _ hb _ e n=>u.slot b o e n hb (by simp)) (fun b o _ e n=>u.free b o e n (by simp)) (fun b o _ e=>u.there b o e (by simp)) u.tups u.frzs u.tbls (fun m' hm=>by
  obtain⟨o',es',ep',ho',r'⟩:=hm;rw[ho]at ho';cases ho';exact⟨_,es',ep',hL,r'⟩) hok I.bare
theorem Inv.call{g':Array qHp}{t':Nat}{d':Drawn}{ch:List Addr}(I:Inv X pins σ H s)(u:Un (frs X.stack) ch H H' s.heap h')(hok:HOk X.prog X.w H' h')(hg:qI6 g')
  (hch:∀b∈ch,(b∈X.ex\/X.s₀.heap.objs.size<=b)/\b≠X.env.locals/\(∀x c,X.env.cells.lookup x=some c->c≠b)/\∀p∈X.pn++pins,p.1≠b) :
  Inv X pins σ H' { s with heap:=h',gens:=g',drawn:=d',toks:=t' }:=by
 obtain⟨m,⟨o,es,ep,ho,r⟩,_⟩:=id I.loc;obtain⟨sl,hL⟩:=u.any ho I.free fun z=>(hch _ z).2.1 rfl
 exact I.step (ch:=ch) hch (fun b o hL hb hc e n=>u.keep b o e n (fun z=>(qAj.mp (I.stkSub b z)).elim hL hb) hc) (fun b o _ _ hc e n=>u.any e n hc) (fun b o hc e n=>u.free b o e n hc) (fun b o hc e=>u.there b o e hc) u.tups u.frzs u.tbls (fun m' hm=>by
  obtain⟨o',es',ep',ho',r'⟩:=hm;rw[ho]at ho';cases ho';exact⟨_,es',ep',hL,r'⟩) hok hg
theorem Inv.turned{t':Nat}{it:Addr}(I:Inv X pins σ H s)(k:∀b o,b≠it->s.heap.get? b=some o->h'.get? b=some o)(hn:H it=none)(hL:it≠X.env.locals)
  (h1:it∈X.ex\/X.s₀.heap.objs.size<=it) (h2:∀x c,X.env.cells.lookup x=some c->c≠it) (h3:∀p∈X.pn++pins,p.1≠it):Inv X pins σ H { s with heap:=h',toks:=t' }:=by
 have nit:∀b u,H b=some u->b≠it:=fun b u e z=>by rw[z,hn]at e;cases e
 refine I.step (g':=s.gens) (d':=s.drawn) (ch:=[it]) (fun b hb=>?_) (fun b o _ _ hc e _=>k b o (fun z=>hc (by simp[z])) e) (fun b o _ _ hc e _=>⟨o.slots,k b o (fun z=>hc (by simp[z])) e⟩) (fun _ _ _ _ n=>n)
  (fun b o hc e=>⟨o,k b o (fun z=>hc (by simp[z])) e⟩) (fun _ _ e=>e) (fun _ _ _ e=>e) (fun b ps e=>⟨#[],by rw[e];simp⟩) (fun m hm=>?_) (fun b u e=>?_) I.bare
 ·have e:b=it:=by simpa using hb
  subst e;exact⟨h1,hL,h2,h3⟩
 ·obtain⟨o,es,ep,ho,r⟩:=hm;exact⟨o,es,ep,k _ o (qCo hL) ho,r⟩
 ·refine(I.hok b u e).stay (fun c v hc q=>k c v ?_ q) (fun _ q=>q) (fun _ _ q=>q) fun _ _ _ q _=>q
  rcases hc with z|z
  ·rw[z];exact nit b u e
  ·exact nit c _ z
theorem Inv.tok(I:Inv X pins σ H s)(t:Nat):Inv X pins σ H { s with toks:=t }:=I.un (h':=s.heap) (t':=t) Un.refl I.hok
theorem Inv.kept{t':Nat}(I:Inv X pins σ H s)(k:∀b u,s.heap.get? b=some u->h'.get? b=some u):Inv X pins σ H { s with heap:=h',toks:=t' }:=I.un (Un.kept k) (I.hok.kept k)
theorem Inv.laid{a:Addr}{o:HO}{t':Nat}(I:Inv X pins σ H s)(k:∀b u,s.heap.get? b=some u->h'.get? b=some u)(hp:s.heap.objs.size<=a)(new:ObjOk X.prog X.w (upd H a o) h' a o) :
  Inv X pins σ (upd H a o) { s with heap:=h',toks:=t' }:=I.un (Un.laid k hp (I.hok.fresh hp)) (I.hok.laid k hp new)
theorem Inv.write{x e:Addr}{o:HO}{t':Nat}(I:Inv X pins σ H s)(mu:Mut (H x))(he:e=x\/H e=some (.own x))(k:∀b u,b≠e->s.heap.get? b=some u->h'.get? b=some u)(heo:∃u,h'.get? e=some u)
  (new:ObjOk X.prog X.w (upd H x o) h' x o):Inv X pins σ (upd H x o) { s with heap:=h',toks:=t' }:=I.un (Un.write mu he k heo) (I.hok.write mu he k heo new)
theorem Inv.weak{σ':List (Option V)}(I:Inv X pins σ H s)(hl:σ'.length=σ.length)(w:∀(i:Nat) v,σ'[i]?=some (some v)->σ[i]?=some (some v)):Inv X pins σ' H s:=
 ⟨I.ok,I.os,I.bare,I.base,let⟨m,hn,hl'⟩:=I.loc;⟨m,hn,fun i x v e1 e2 e3=>hl' i x v e1 (w i v e2) e3⟩,I.cell,I.free,I.freeC,I.pin,I.hok,hl.trans I.len⟩
theorem Inv.pins_of{pins':List (Addr×Obj)}(I:Inv X pins σ H s)(h:∀p∈pins',s.heap.get? p.1=some p.2/\H p.1=none/\p.1≠X.env.locals/\p.1∉X.fs/\∀v,p.2.data≠.cell v):Inv X pins' σ H s:=
 ⟨I.ok,I.os,I.bare,I.base,I.loc,I.cell,I.free,I.freeC,fun p hp=>(qB4.mp hp).elim (fun z=>I.pin p (qC3 _ z)) (h p),I.hok,I.len⟩
theorem zHN{N:List Str}(hN:N.Nodup){i j:Nat}{x:Str}(a:N[i]?=some x)(b:N[j]?=some x):i=j:=by
 obtain⟨h1,e1⟩:=qA2.mp a;obtain⟨h2,e2⟩:=qA2.mp b;exact(qDj hN).mp (e1.trans e2.symm)
theorem zID{M:Model}{A:qGo}{E:Value->qGk->Prop}{i:Nat}{x:Str}{v:V}{u:Value}{Q:Unit->qGk->Prop}(I:Inv X pins σ H s)(hN:X.N.Nodup)(hi:X.N[i]?=some x)(hx:Loc X.env.scope x)(r:RelV v u)
  (h:∀s',Inv X pins (σ.set i (some v)) H s'->(∃a,qIc a s.heap s'.heap/\(a=X.env.locals\/X.env.cells.lookup x=some a))->Q () s') (hf:X.fn x=true\/X.env.scope.names.lookup x=some .local:=by first|exact .inl rfl|exact .inr rfl|assumption):wpAny M A (storeName X.env x u) Q E s:=by
 obtain⟨m,hn,hl⟩:=id I.loc;have hcls:(X.env.scope.kind==.class||(X.env.scope.kind==.module&&X.env.locals != X.env.globals))=false:=by rw[I.ok.kind];rfl
 have hiσ:i<σ.length:=by rw[I.len];exact(qA2.mp hi).1
 have cne:=I.cne;have tracked:∀{a:Addr}{h':Heap},(∃o,s.heap.get? a=some o/\H a=none)->qIc a s.heap h'->HOk X.prog X.w H h':=fun{a h'} ha hs b ob e=>by
  obtain⟨_,_,hfree⟩:=ha;refine(I.hok b ob e).stay (fun c w' hc q=>(hs.2 c ?_).trans q) (fun _ q=>q) (fun _ _ q=>q) fun _ _ _ q _=>q
  rintro rfl
  rcases hc with rfl|hc
  ·rw[hfree]at e;cases e
  ·rw[hfree]at hc;cases hc
 rcases hx with hk|hk
 ·refine wpAny_storeName_local hk hn (fun h' hn' hs=>?_) hcls;obtain⟨oL,_,_,hoL,_⟩:=id hn;refine h _ ⟨I.ok,I.os,I.bare,⟨fun b o e n hb hx=>?_,fun b o e n hb hx=>?_,I.base.free,fun b o e hx=>?_,I.base.tups,I.base.frzs,I.base.tbls⟩,⟨_,hn',fun j y v' e1 e2 e3=>?_⟩,fun y c e=>?_,I.free,I.freeC,fun p hp=>?_,tracked ⟨oL,hoL,I.free⟩ hs,by simpa using I.len⟩ ⟨_,hs,.inl rfl⟩
  ·exact(hs.2 b (qAm (qAf (qGm e) I.ok.above))).trans (I.base.keep b o e n hb hx)
  ·obtain⟨sl,e1⟩:=I.base.slot b o e n hb hx;exact⟨sl,(hs.2 b (qAm (qAf (qGm e) I.ok.above))).trans e1⟩
  ·obtain⟨o',e1⟩:=I.base.there b o e hx;exact⟨o',(hs.2 b (qAm (qAf (qGm e) I.ok.above))).trans e1⟩
  ·by_cases hj:j=i
   ·subst hj;rw[hi]at e1;cases e1;rw[qA6 hiσ]at e2;cases e2;exact⟨u,r,.inl ⟨hk,by simp⟩⟩
   ·rw[qAa (qCo hj)]at e2;obtain⟨u',r',q⟩:=hl j y v' e1 e2 e3;refine⟨u',r',?_⟩
    rcases q with⟨k,e⟩|⟨k,c,e,z⟩
    ·refine .inl ⟨k,?_⟩
     have:y≠x:=fun e=>hj (zHN hN e1 (e▸hi))
     simp[this,e]
    ·exact .inr ⟨k,c,e,z.sameBut hs (cne y c e)⟩
  ·obtain⟨w',z⟩:=I.cell y c e;exact⟨w',z.sameBut hs (cne y c e)⟩
  ·obtain⟨e,n,ne,nf,d⟩:=I.pin p hp;exact⟨(hs.2 p.1 ne).trans e,n,ne,nf,d⟩
 ·have hfn:X.fn x=true:=by
   rcases hf with z|z
   ·exact z
   ·rw[z]at hk;cases hk
  obtain⟨c,hc⟩:=I.ok.has x (.inl hk);obtain⟨w',z⟩:=I.cell x c hc;refine wpAny_storeName_cell I.ok.kind hk hc z (fun h' hc' hs=>?_);obtain⟨oc,hoc,hocd⟩:=id z;refine h { s with heap:=h' } ⟨I.ok,I.os,I.bare,⟨fun b o e n hb hx=>?_,fun b o e n hb hx=>?_,I.base.free,fun b o e hx=>?_,I.base.tups,I.base.frzs,I.base.tbls⟩,⟨m,hn.sameBut hs (qCo (cne x c hc)),fun j y v' e1 e2 e3=>?_⟩,fun y c' e=>?_,I.free,I.freeC,fun p hp=>?_,tracked ⟨oc,hoc,I.freeC x c hc⟩ hs,by simpa using I.len⟩ ⟨c,hs,.inr hc⟩
  ·exact(hs.2 b (qAm (qAf (qGm e) (I.ok.cab x c hfn hc)))).trans (I.base.keep b o e n hb hx)
  ·obtain⟨sl,e1⟩:=I.base.slot b o e n hb hx;exact⟨sl,(hs.2 b (qAm (qAf (qGm e) (I.ok.cab x c hfn hc)))).trans e1⟩
  ·obtain⟨o',e1⟩:=I.base.there b o e hx;exact⟨o',(hs.2 b (qAm (qAf (qGm e) (I.ok.cab x c hfn hc)))).trans e1⟩
  ·by_cases hj:j=i
   ·subst hj;rw[hi]at e1;cases e1;rw[qA6 hiσ]at e2;cases e2;exact⟨u,r,.inr ⟨.inl hk,c,hc,hc'⟩⟩
   ·rw[qAa (qCo hj)]at e2;obtain⟨u',r',q⟩:=hl j y v' e1 e2 e3;refine⟨u',r',?_⟩
    rcases q with q|⟨k,c',e,z'⟩
    ·exact .inl q
    ·refine .inr ⟨k,c',e,z'.sameBut hs ?_⟩
     rintro rfl
     exact hj (zHN hN e1 (I.ok.inj _ _ _ e hc▸hi))
  ·by_cases hcc:c'=c
   ·subst hcc;exact⟨_,hc'⟩
   ·obtain⟨w2,z2⟩:=I.cell y c' e;exact⟨w2,z2.sameBut hs hcc⟩
  ·obtain⟨e,n,ne,nf,d⟩:=I.pin p hp;refine⟨(hs.2 p.1 ?_).trans e,n,ne,nf,d⟩;intro q;rw[q,hoc]at e;have q':oc=p.2:=qAk e;exact d w' (by rw[<- q'];exact hocd)
theorem zH7{M:Model}{A:qGo}{E:Value->qGk->Prop}{i:Nat}{x:Str}{v:V}{u:Value}{Q:Unit->qGk->Prop}(I:Inv X pins σ H s)(hN:X.N.Nodup)(hi:X.N[i]?=some x)(hx:Loc X.env.scope x)(r:RelV v u)
  (h:∀s',Inv X pins (σ.set i (some v)) H s'->Q () s') (hf:X.fn x=true\/X.env.scope.names.lookup x=some .local:=by first|exact .inl rfl|exact .inr rfl|assumption):wpAny M A (storeName X.env x u) Q E s:=
 zID I hN hi hx r (fun s' I' _=>h s' I') hf
theorem Inv.call'{s':qGk}{ch:List Addr}(I:Inv X pins σ H s)(ho:s'.os=s.os)(u:Un (frs X.stack) ch H H' s.heap s'.heap)(hok:HOk X.prog X.w H' s'.heap)(hg:qI6 s'.gens)
  (hch:∀b∈ch,(b∈X.ex\/X.s₀.heap.objs.size<=b)/\b≠X.env.locals/\(∀x c,X.env.cells.lookup x=some c->c≠b)/\∀p∈X.pn++pins,p.1≠b):Inv X pins σ H' s':=by
 obtain⟨h',g',d',t',o'⟩:=s';have e:o'=s.os:=ho;subst e;exact I.call (g':=g') (t':=t') (d':=d') u hok hg hch
end
abbrev XK:=Value->Option Addr->Hp->Prop
abbrev St:=List (Option V)
abbrev VK:=V->Hp->Prop
abbrev TE:=St->Hp->VK->Prop
abbrev TT:=St->Hp->(Bool->Hp->Prop)->Prop
abbrev TA:=St->Hp->(List V->Hp->Prop)->Prop
structure Ends where
 nx:St->Hp->Prop
 rt:VK
 bk:St->Hp->Prop:=fun _ _=>False
 ct:St->Hp->Prop:=fun _ _=>False
abbrev TS:=Ends->St->Hp->Prop
def EP(X:Cx)(pins:List (Addr×Obj))(σ:St)(Q:VK)(u:Value)(s':qGk):Prop:=∃v H',Inv X pins σ H' s'/\RelV v u/\Q v H'
def TP(X:Cx)(pins:List (Addr×Obj))(σ:St)(Q:Bool->Hp->Prop)(b:Bool)(s':qGk):Prop:=∃H',Inv X pins σ H' s'/\Q b H'
def AP(X:Cx)(pins:List (Addr×Obj))(σ:St)(Q:List V->Hp->Prop)(us:List Value)(s':qGk):Prop:=∃vs H',Inv X pins σ H' s'/\Vals vs us/\Q vs H'
def SP(X:Cx)(pins:List (Addr×Obj))(D:Ends)(f:Flow)(s':qGk):Prop:=
 match f with
 |.next=>∃σ' H',Inv X pins σ' H' s'/\D.nx σ' H'
 |.brk=>∃σ' H',Inv X pins σ' H' s'/\D.bk σ' H'
 |.cont=>∃σ' H',Inv X pins σ' H' s'/\D.ct σ' H'
 |.ret u=>∃v σ' H',Inv X pins σ' H' s'/\RelV v u/\D.rt v H'
def PE(X:Cx)(e:Expr)(t:TE):Prop:=
 ∀(pins:List (Addr×Obj))(s:qGk)(σ:St)(H:Hp)(Q:VK),Inv X pins σ H s->t σ H Q->wpAny (model X.prog X.w) X.A (eval e X.env) (EP X pins σ Q) X.xe s
def PT(X:Cx)(e:Expr)(t:TT):Prop:=
 ∀(pins:List (Addr×Obj))(s:qGk)(σ:St)(H:Hp)(Q:Bool->Hp->Prop),Inv X pins σ H s->t σ H Q->wpAny (model X.prog X.w) X.A (isTrue e X.env (eval e X.env)) (TP X pins σ Q) X.xe s
def PW(X:Cx)(e:Expr)(t:TT):Prop:=
 ∀(whole:Sem Value)(pins:List (Addr×Obj))(s:qGk)(σ:St)(H:Hp)(Q:Bool->Hp->Prop),Inv X pins σ H s->t σ H Q->wpAny (model X.prog X.w) X.A (isTrue e X.env whole) (TP X pins σ Q) X.xe s
theorem PW.pt{X:Cx}{e:Expr}{t:TT}(h:PW X e t):PT X e t:=h _
def PA(X:Cx)(es:List Expr)(t:TA):Prop:=
 ∀(pos:Pos)(pins:List (Addr×Obj))(s:qGk)(σ:St)(H:Hp)(Q:List V->Hp->Prop),Inv X pins σ H s->t σ H Q->wpAny (model X.prog X.w) X.A (spliced (backTo pos (starEach es X.env))) (AP X pins σ Q) X.xe s
def PS(X:Cx)(st:Stmt)(t:TS):Prop:=
 ∀(pins:List (Addr×Obj))(s:qGk)(σ:St)(H:Hp)(D:Ends),Inv X pins σ H s->t D σ H->wpAny (model X.prog X.w) X.A (exec st X.env) (SP X pins D) X.xe s
def PSs(X:Cx)(st:List Stmt)(t:TS):Prop:=
 ∀(pins:List (Addr×Obj))(s:qGk)(σ:St)(H:Hp)(D:Ends),Inv X pins σ H s->t D σ H->wpAny (model X.prog X.w) X.A (execs st X.env) (SP X pins D) X.xe s
theorem thn{α:Type}{t:Sem α}{Q Q':α->qGk->Prop}{M:Model}{A:qGo}{E:Value->qGk->Prop}{s:qGk}(h:wpAny M A t Q E s)(hQ:∀a s,Q a s->Q' a s):wpAny M A t Q' E s:=wpAny_mono h hQ fun _ _ x=>x
section
variable{X:Cx}
noncomputable def tVar(i:Nat):TE:=fun σ H Q=>∃v,σ[i]?=some (some v)/\Q v H
noncomputable def tC(v:V):TE:=fun _ H Q=>Q v H
theorem zV0{i:Nat}{x:Str}{pos:Pos}(hN:X.N[i]?=some x)(hv:Vis X.env.scope x)(hd:(x==("__debug__":Str))=false:=by decide)(hcd:(x==("__classdict__":Str))=false:=by decide):PE X (.Name x pos) (tVar i):=by
 intro pins s σ H Q I h;obtain⟨v,e,h⟩:=h;obtain⟨m,hn,hl⟩:=I.loc;obtain⟨u,r,l⟩:=hl i x v hN e hv;have fin:EP X pins σ Q u s:=⟨v,H,I,r,h⟩;rcases l with⟨hk,hm⟩|⟨hk,c,hc,hcell⟩
 ·exact qJo (wpAny_loadName_local I.ok.kind hk hn hm fin) hd
 ·rcases hk with hk|hk
  ·exact qJo (wpAny_loadName_cell I.ok.kind hk hc hcell fin) hd
  ·exact qJo (wpAny_loadName_free I.ok.kind hk hc hcell fin hcd) hd
theorem zAF{i j pos}:PE X (.Constant (.int i) j pos) (tC (.int i)):=fun _ _ _ H _ I h=>wpAny_Constant_int ⟨.int i,H,I.tok _,⟨_,rfl⟩,h⟩
theorem zJU{b j pos}:PE X (.Constant (.bool b) j pos) (tC (.bl b)):=fun _ _ _ H _ I h=>Constant_bool ⟨.bl b,H,I,rfl,h⟩
theorem zR7{j pos}:PE X (.Constant .none j pos) (tC .non):=fun _ _ _ H _ I h=>Constant_none ⟨.non,H,I,rfl,h⟩
theorem zV2{x j pos}:PE X (.Constant (.str x) j pos) (tC (.str x)):=fun _ _ _ H _ I h=>Calls.Constant_str ⟨.str x,H,I.tok _,⟨_,rfl⟩,h⟩
def Gl(X:Cx)(x:Str):Prop:=X.env.kindOf x=some .globalImplicit
theorem zEZ{E:Value->qGk->Prop}{pins:List (Addr×Obj)}{s:qGk}{σ:St}{H:Hp}{x:Str}{u:Value}{pos:Pos}{Q:Value->qGk->Prop}(I:Inv X pins σ H s)(hg:Gl X x)(hm:X.mg x=some u)(h:Q u s)
  (hd:(x==("__debug__":Str))=false:=by decide):wpAny (model X.prog X.w) X.A (eval (.Name x pos) X.env) Q E s:=
 qHw I.ok.kind hg (Calls.loadGlobal_global (by rw[I.ok.glob];exact I.mod.glob.keeps I.bk) hm h) hd
theorem zF6{E:Value->qGk->Prop}{pins:List (Addr×Obj)}{s:qGk}{σ:St}{H:Hp}{x:Str}{u:Value}{pos:Pos}{Q:Value->qGk->Prop}(I:Inv X pins σ H s)(hg:Gl X x)(hm:X.mg x=none)(hv:qHb x=some u)(h:Q u s)
  (hn:x≠"__name__":=by decide) (hd:(x==("__debug__":Str))=false:=by decide):wpAny (model X.prog X.w) X.A (eval (.Name x pos) X.env) Q E s:=by
 obtain⟨mb,h1,h2⟩:=I.mod.blt;exact qHw I.ok.kind hg (Calls.loadGlobal_builtin (by rw[I.ok.glob];exact I.mod.glob.keeps I.bk) hm (by rw[I.ok.blt];exact h1.keeps I.bk) ((h2 x hn).trans hv) h) hd
theorem zSS{x:Str}{v:V}{u:Value}{pos:Pos}(hg:Gl X x)(hm:X.mg x=some u)(r:RelV v u)(hd:(x==("__debug__":Str))=false:=by decide):PE X (.Name x pos) (tC v):=
 fun _ _ _ H _ I h=>zEZ I hg hm ⟨v,H,I,r,h⟩ hd
theorem zDZ{x:Str}{v:V}{u:Value}{pos:Pos}(hg:Gl X x)(hm:X.mg x=none)(hv:qHb x=some u)(r:RelV v u)(hn:x≠"__name__":=by decide)(hd:(x==("__debug__":Str))=false:=by decide):PE X (.Name x pos) (tC v):=
 fun _ _ _ H _ I h=>zF6 I hg hm hv ⟨v,H,I,r,h⟩ hn hd
variable{a b:Expr}{ta tb:TE}{pos:Pos}
noncomputable def tB(t:TE):TT:=fun σ H Q=>t σ H fun x H1=>∃c,x=.bl c/\Q c H1
variable{tA tB':TT}{rest:List Expr}
noncomputable def tAnd(t u:TT):TT:=fun σ H Q=>t σ H fun c H1=>if c=true then u σ H1 Q else Q false H1
noncomputable def tOr(t u:TT):TT:=fun σ H Q=>t σ H fun c H1=>if c=true then Q true H1 else u σ H1 Q
noncomputable def tNot(t:TT):TT:=fun σ H Q=>t σ H fun c H1=>Q (!c) H1
theorem zMU(ha:PT X a tA):PW X (.BoolOp .And [a] pos) tA:=by
 intro wh pins s σ H Q I h;refine isTrue_and (thn (ha pins s σ H Q I h) fun c s1 e=>?_);cases c with
 |true=>exact isTrue_and_nil e
 |false=>exact e
theorem zMT(ha:PT X a tA):PW X (.BoolOp .Or [a] pos) tA:=by
 intro wh pins s σ H Q I h;refine isTrue_or (thn (ha pins s σ H Q I h) fun c s1 e=>?_);cases c with
 |false=>exact isTrue_or_nil e
 |true=>exact e
theorem zR6(ha:PT X a tA)(hb:PW X (.BoolOp .And (b::rest) pos) tB'):PW X (.BoolOp .And (a::b::rest) pos) (tAnd tA tB'):=by
 intro wh pins s σ H Q I h;refine isTrue_and (thn (ha pins s σ H _ I h) fun c s1 z0=>?_);obtain⟨H1,I1,q1⟩:=z0;cases c with
 |true=>exact hb wh pins s1 σ H1 Q I1 q1
 |false=>exact⟨H1,I1,q1⟩
theorem zSQ(ha:PT X a tA)(hb:PW X (.BoolOp .Or (b::rest) pos) tB'):PW X (.BoolOp .Or (a::b::rest) pos) (tOr tA tB'):=by
 intro wh pins s σ H Q I h;refine isTrue_or (thn (ha pins s σ H _ I h) fun c s1 z0=>?_);obtain⟨H1,I1,q1⟩:=z0;cases c with
 |true=>exact⟨H1,I1,q1⟩
 |false=>exact hb wh pins s1 σ H1 Q I1 q1
theorem zGT(ha:PT X a tA):PT X (.UnaryOp .Not a pos) (tNot tA):=by
 intro pins s σ H Q I h;exact isTrue_not (ha pins s σ H (fun c H1=>Q (!c) H1) I h)
theorem zKX{op}{t:TE}(h:PE X a t):PE X (.BoolOp op [a] pos) t:=fun pins s σ H Q I hw=>BoolOp_one (h pins s σ H Q I hw)
noncomputable def tIf(t:TT)(ta tb:TE):TE:=fun σ H Q=>t σ H fun c H1=>if c=true then ta σ H1 Q else tb σ H1 Q
theorem zHH{c:Expr}(hc:PT X c tA)(ha:PE X a ta)(hb:PE X b tb):PE X (.IfExp c a b pos) (tIf tA ta tb):=by
 intro pins s σ H Q I h;refine wpAny_IfExp (thn (hc pins s σ H _ I h) fun d s1 z0=>?_);obtain⟨H1,I1,q1⟩:=z0;cases d with
 |true=>exact ha pins s1 σ H1 Q I1 q1
 |false=>exact hb pins s1 σ H1 Q I1 q1
end
def SqL(K:qA1)(H:Hp)(a:Addr)(xs:List V):Prop:=
 Rd H a (.lst xs) \/
  ∃(o:Obj)(its:Array Value)(n:Nat),K.lookup a=some o/\o.cls=.type "list"/\o.dict=none/\o.data=.seq its n/\its.size<=sizeLine/\Vals xs its.toList
def SqT(K:qA1)(H:Hp)(a:Addr)(xs:List V):Prop:=
 Rd H a (.tup xs) \/
  ∃(o:Obj)(its:Array Value)(n:Nat),K.lookup a=some o/\o.cls=.type "tuple"/\o.data=.seq its n/\its.size<=sizeLine/\Vals xs its.toList
noncomputable def absV:Value->Option V
 |.none=>some .non
 |.bool b=>some (.bl b)
 |.int i _=>some (.int i)
 |.str x _=>some (.str x)
 |.bytes b _=>some (.byt b)
 |.float b _=>some (.flt b)
 |.ref a=>some (.ref a)
 |.type n=>some (.ty n)
 |_=>none
theorem RelV.abs{x:V}{u:Value}(r:RelV x u):absV u=some x:=by
 cases x with
 |non=>cases r;rfl
 |bl _=>cases r;rfl
 |int _=>obtain⟨t,rfl⟩:=r;rfl
 |str _=>obtain⟨t,rfl⟩:=r;rfl
 |byt _=>obtain⟨t,rfl⟩:=r;rfl
 |flt _=>obtain⟨t,rfl⟩:=r;rfl
 |ref _=>cases r;rfl
 |ty _=>cases r;rfl
theorem RelV.inj{x y:V}{u:Value}(r:RelV x u)(q:RelV y u):x=y:=qAk (r.abs.symm.trans q.abs)
theorem Vals.inj:∀{xs ys:List V}{us:List Value},Vals xs us->Vals ys us->xs=ys
 |_,_,_,.nil,.nil=>rfl
 |_,_,_,.cons r t,.cons r' t'=>by rw[r.inj r',Vals.inj t t']
section
variable{X:Cx}{pins:List (Addr×Obj)}{σ:St}{H:Hp}{s:qGk}{a:Addr}{xs ys:List V}
theorem SqL.of{K:qA1}(h:H a=some (.lst xs)):SqL K H a xs:=.inl (.inl h)
theorem SqT.of{K:qA1}(h:H a=some (.tup xs)):SqT K H a xs:=.inl (.inl h)
theorem Inv.list(I:Inv X pins σ H s)(h:SqL X.K H a xs):∃its:List Value,Vals xs its/\PlainL s.heap a its.toArray/\xs.length<=sizeLine:=by
 rcases h with h|⟨o,its,n,hk,hc,hd,hs,hz,r⟩
 ·obtain⟨z,its,n,r,e⟩:=h.ok I.hok;exact⟨its,r,⟨_,n,e,rfl,rfl,rfl⟩,z⟩
 ·refine⟨its.toList,r,⟨o,n,I.kIn a o hk,hc,hd,by simpa using hs⟩,?_⟩;have e:=r.length;simp only[qE8]at e;omega
theorem Inv.tuple(I:Inv X pins σ H s)(h:SqT X.K H a xs):∃its:List Value,Vals xs its/\IsTup s.heap a its.toArray/\xs.length<=sizeLine:=by
 rcases h with h|⟨o,its,n,hk,hc,hs,hz,r⟩
 ·obtain⟨z,its,r,p⟩:=h.ok I.hok;exact⟨its,r,p,z⟩
 ·refine⟨its.toList,r,⟨o,I.kIn a o hk,hc,n,by simpa using hs⟩,?_⟩;have e:=r.length;simp only[qE8]at e;omega
theorem Inv.list_inj(I:Inv X pins σ H s)(h:SqL X.K H a xs)(h':SqL X.K H a ys):xs=ys:=by
 obtain⟨its,r,⟨o,n,e,_,_,d⟩,_⟩:=I.list h;obtain⟨its',r',⟨o',n',e',_,_,d'⟩,_⟩:=I.list h';rw[e]at e';cases e';rw[d]at d';injection d' with d1 _
 have:its=its':=by simpa using congrArg qG5 d1
 subst this;exact r.inj r'
theorem Inv.tuple_inj(I:Inv X pins σ H s)(h:SqT X.K H a xs)(h':SqT X.K H a ys):xs=ys:=by
 obtain⟨its,r,⟨o,e,_,n,d⟩,_⟩:=I.tuple h;obtain⟨its',r',⟨o',e',_,n',d'⟩,_⟩:=I.tuple h';rw[e]at e';cases e';rw[d]at d';injection d' with d1 _
 have:its=its':=by simpa using congrArg qG5 d1
 subst this;exact r.inj r'
end
abbrev Cx.wish(X:Cx)(E:Value->qGk->Prop):Cx:={ X with xe:=E }
abbrev Cx.nox(X:Cx):Cx:=X.wish fun _ _=>False
theorem Cx.Ok.wish{X:Cx}(ok:X.Ok)(E:Value->qGk->Prop):(X.wish E).Ok:=
 ⟨ok.mod,ok.kind,ok.glob,ok.blt,ok.above,ok.inj,ok.has,ok.cab,ok.hd,ok.frames,ok.stk,ok.exf,ok.bs,ok.bsz,ok.noex,ok.exfs,ok.funs,ok.frf⟩
theorem Cx.Ok.unwish{X:Cx}{E:Value->qGk->Prop}(ok:(X.wish E).Ok):X.Ok:=
 ⟨ok.mod,ok.kind,ok.glob,ok.blt,ok.above,ok.inj,ok.has,ok.cab,ok.hd,ok.frames,ok.stk,ok.exf,ok.bs,ok.bsz,ok.noex,ok.exfs,ok.funs,ok.frf⟩
section
variable{X:Cx}{pins:List (Addr×Obj)}{σ:St}{H:Hp}{s:qGk}{E:Value->qGk->Prop}
theorem Inv.wish(I:Inv X pins σ H s)(E:Value->qGk->Prop):Inv (X.wish E) pins σ H s:=⟨I.ok.wish E,I.os,I.bare,I.base,I.loc,I.cell,I.free,I.freeC,I.pin,I.hok,I.len⟩
theorem Inv.unwish(I:Inv (X.wish E) pins σ H s):Inv X pins σ H s:=⟨I.ok.unwish,I.os,I.bare,I.base,I.loc,I.cell,I.free,I.freeC,I.pin,I.hok,I.len⟩
theorem SP.unwish{D:Ends}{f:Flow}{s':qGk}(h:SP (X.wish E) pins D f s'):SP X pins D f s':=by
 cases f with
 |next=>obtain⟨σ',H',I,q⟩:=h;exact⟨σ',H',I.unwish,q⟩
 |brk=>obtain⟨σ',H',I,q⟩:=h;exact⟨σ',H',I.unwish,q⟩
 |cont=>obtain⟨σ',H',I,q⟩:=h;exact⟨σ',H',I.unwish,q⟩
 |ret u=>obtain⟨v,σ',H',I,r,q⟩:=h;exact⟨v,σ',H',I.unwish,r,q⟩
theorem PSs.nox{st:List Stmt}{t:TS}(h:PSs X.nox st t):PSs X st t:=fun pins s σ H D I hw=>
 wpAny_mono (h pins s σ H D (I.wish _) hw) (fun _ _ q=>q.unwish) fun _ _ z=>qA8 z
end
section
variable{X:Cx}{st:Stmt}{rest:List Stmt}{t u:TS}{e:Expr}{te:TE}{pos:Pos}
noncomputable def zUB:TS:=fun D σ H=>D.nx σ H
noncomputable def tSeq(t u:TS):TS:=fun D σ H=>t { D with nx:=u D } σ H
theorem zC7:PSs X [] zUB:=fun _ _ σ H _ I h=>qHc ⟨σ,H,I,h⟩
theorem zA9(h1:PS X st t)(h2:PSs X rest u):PSs X (st::rest) (tSeq t u):=by
 intro pins s σ H D I h;refine qI9 (thn (h1 pins s σ H { D with nx:=u D } I h) fun f s1 q=>?_);cases f with
 |next=>
  obtain⟨σ',H',I',q⟩:=q;exact h2 pins s1 σ' H' D I' q
 |ret v=>exact q
 |brk=>exact q
 |cont=>exact q
theorem zAI(h1:PS X st t):PSs X [st] t:=by
 intro pins s σ H D I h;refine qI9 (thn (h1 pins s σ H D I h) fun f s1 q=>?_);cases f with
 |next=>exact qHc q
 |ret v=>exact q
 |brk=>exact q
 |cont=>exact q
theorem Inv.quiet{pins:List (Addr×Obj)}{σ:St}{H:Hp}{s:qGk}(I:Inv X pins σ H s):interactive X.env=false:=by simp[interactive,I.ok.kind]
noncomputable def zLK(te:TE):TS:=fun D σ H=>te σ H fun _ H1=>D.nx σ H1
theorem zMW(he:PE X e te)(hs:qJ0 e none pos.line X.env=pure false:=by rfl):PS X (.Expr e pos) (zLK te):=by
 intro pins s σ H D I h;exact wpAny_Expr_any (thn (he pins s σ H _ I h) fun v s1 ⟨x,H1,I1,r1,q1⟩=>⟨σ,H1,I1,q1⟩) I.quiet hs
noncomputable def tRet(te:TE):TS:=fun D σ H=>te σ H D.rt
theorem zB7(he:PE X e te):PS X (.Return (some e) pos) (tRet te):=by
 intro pins s σ H D I h;exact wpAny_Return_some (thn (he pins s σ H _ I h) fun v s1 ⟨x,H1,I1,r1,q1⟩=>⟨x,σ,H1,I1,r1,q1⟩)
noncomputable def tIfS(c:TT)(t u:TS):TS:=fun D σ H=>c σ H fun b H1=>if b=true then t D σ H1 else u D σ H1
theorem zEA{c:Expr}{a b:List Stmt}{tc:TT}(hc:PT X c tc)(ha:PSs X a t)(hb:PSs X b u):PS X (.If c a b pos) (tIfS tc t u):=by
 intro pins s σ H D I h;refine wpAny_If (thn (hc pins s σ H _ I h) fun d s1 z0=>?_);obtain⟨H1,I1,q1⟩:=z0;cases d with
 |true=>exact ha pins s1 σ H1 D I1 q1
 |false=>exact hb pins s1 σ H1 D I1 q1
end
abbrev TG:=V->St->Hp->(St->Hp->Prop)->Prop
abbrev TGs:=List V->St->Hp->(St->Hp->Prop)->Prop
def PG(X:Cx)(target:Expr)(t:TG):Prop:=
 ∀(pins:List (Addr×Obj))(s:qGk)(σ:St)(H:Hp)(v:V)(u:Value)(Q:St->Hp->Prop),Inv X pins σ H s->RelV v u->t v σ H Q ->
  wpAny (model X.prog X.w) X.A (assign target X.env u) (fun _ s'=>∃σ' H',Inv X pins σ' H' s'/\Q σ' H') X.xe s
def PGs(X:Cx)(ts:List Expr)(t:TGs):Prop:=
 ∀(pins:List (Addr×Obj))(s:qGk)(σ:St)(H:Hp)(vs:List V)(us:List Value)(Q:St->Hp->Prop),Inv X pins σ H s->Vals vs us->t vs σ H Q ->
  wpAny (model X.prog X.w) X.A (assignInOrder ((assignEach ts X.env).map (·.2)) us) (fun _ s'=>∃σ' H',Inv X pins σ' H' s'/\Q σ' H') X.xe s
abbrev TSet:=V->V->V->Hp->(Hp->Prop)->Prop
def PSet(X:Cx)(t:TSet):Prop:=
 ∀(pins:List (Addr×Obj))(s:qGk)(σ:St)(H:Hp)(o i v:V)(ov iv u:Value)(Q:Hp->Prop),Inv X pins σ H s->RelV o ov->RelV i iv->RelV v u->t o i v H Q ->
  wpAny (model X.prog X.w) X.A (setItem ov iv u) (fun _ s'=>∃H',Inv X pins σ H' s'/\Q H') X.xe s
section
variable{X:Cx}{pos:Pos}
noncomputable def zEH(i:Nat):TG:=fun v σ H Q=>Q (σ.set i (some v)) H
theorem zCK{i:Nat}{x:Str}(hN:X.N.Nodup)(hi:X.N[i]?=some x)(hx:Loc X.env.scope x)(hf:X.fn x=true\/X.env.scope.names.lookup x=some .local:=by first|exact .inl rfl|exact .inr rfl|assumption):PG X (.Name x pos) (zEH i):=by
 intro pins s σ H v u Q I r h;exact qJ4 (zH7 I hN hi hx r (fun s' I'=>⟨_,H,I',h⟩) hf)
noncomputable def gNil:TGs:=fun vs σ H Q=>vs=[]/\Q σ H
noncomputable def zVU(t:TG)(u:TGs):TGs:=fun vs σ H Q=>∃v r,vs=v::r/\t v σ H fun σ' H'=>u r σ' H' Q
theorem zN2:PGs X [] gNil:=by
 intro pins s σ H vs us Q I r h;obtain⟨e,h⟩:=h;subst e;cases r;exact assignInOrder_nil ⟨σ,H,I,h⟩
theorem zFE{e:Expr}{es:List Expr}{t:TG}{u:TGs}(h1:PG X e t)(h2:PGs X es u)
  (hs:(assignEach (e::es) X.env).map (·.2)=assign e X.env::(assignEach es X.env).map (·.2):=by rfl):PGs X (e::es) (zVU t u):=by
 intro pins s σ H vs us Q I r h;obtain⟨v,vr,e1,h⟩:=h;subst e1;cases r with
 |cons r rr=>
  rw[hs];refine assignInOrder_cons (thn (h1 pins s σ H _ _ _ I r h) fun _ s1 z0=>?_);obtain⟨σ1,H1,I1,q1⟩:=z0;exact h2 pins s1 σ1 H1 _ _ Q I1 rr q1
noncomputable def gTup(K:qA1)(n:Nat)(t:TGs):TG:=fun v σ H Q=>∃a xs,v=.ref a/\SqT K H a xs/\xs.length=n/\t xs σ H Q
theorem zUY{es:List Expr}{k:Nat}{t:TGs}{n:Nat}(hc:X.calm=true)(h:PGs X es t)
  (hn:(assignEach es X.env).length=n:=by rfl) (hst:(assignEach es X.env).findIdx? (·.1)=none:=by rfl):PG X (.Tuple es k pos) (gTup X.K n t):=by
 intro pins s σ H v u Q I r hw;obtain⟨a,xs,e1,hq,hl,hw⟩:=hw;subst e1;cases r;obtain⟨its,rv,ht,hz⟩:=I.tuple hq;refine assign_Tuple_tuple (I.ok.hd hc) ht (by simp[hn,<- hl,rv.length]) hst fun h' hx=>?_
 have I1:Inv X pins σ H { s with heap:=h' }:=I.kept (t':=s.toks) fun b o e=>hx b o (qAm (qGm e)) e
 exact h pins _ σ H xs _ Q I1 (by simpa using rv) hw
noncomputable def gSub(to ti:TE)(t:TSet):TG:=fun v σ H Q=>to σ H fun o H1=>ti σ H1 fun i H2=>t o i v H2 fun H3=>Q σ H3
theorem zFW{o i:Expr}{to ti:TE}{t:TSet}(ho:PE X o to)(hi:PE X i ti)(hs:PSet X t)
  (ha:∀v,assign (.Subscript o i pos) X.env v=(do
   let ov <- holding [v] (eval o X.env)
   let iv <- holding [v,ov] (eval i X.env)
   qJr pos
   holding [v,ov,iv] (setItem ov iv v)
   release [v,ov,iv] []):=by intro _;rfl):PG X (.Subscript o i pos) (gSub to ti t):=by
 intro pins s σ H v u Q I r h;rw[ha];refine wpAny_bind (wpAny_holding (thn (ho pins s σ H _ I h) fun ov s1 z0=>?_));obtain⟨x,H1,I1,r1,q1⟩:=z0;refine wpAny_bind (wpAny_holding (thn (hi pins s1 σ H1 _ I1 q1) fun iv s2 z0=>?_));obtain⟨y,H2,I2,r2,q2⟩:=z0;refine wpAny_bind (wpAny_standAt (wpAny_bind (wpAny_holding (thn (hs pins s2 σ H2 x y v ov iv u _ I2 r1 r2 r q2) fun _ s3 z0=>?_))));obtain⟨H3,I3,q3⟩:=z0;exact wpAny_release ⟨σ,H3,I3,q3⟩
noncomputable def tAsg(te:TE)(g:TG):TS:=fun D σ H=>te σ H fun x H1=>g x σ H1 D.nx
theorem zFV{tg e:Expr}{te:TE}{g:TG}(he:PE X e te)(hg:PG X tg g)(hs:swapsWithSole [tg] e pos.line X.env=pure false:=by rfl)(hw:swappedStores [tg] e X.env=pure none:=by rfl)
  (h1:(assignEach [tg] X.env).map (·.2)=[assign tg X.env]:=by rfl):PS X (.Assign [tg] e pos) (tAsg te g):=by
 intro pins s σ H D I h;refine wpAny_Assign_stores (thn (he pins s σ H _ I h) fun v s1 z0=>?_) hs hw;obtain⟨x,H1,I1,r1,q1⟩:=z0;rw[h1];exact thn (hg pins s1 σ H1 x v _ I1 r1 q1) fun _ s2 q=>q
theorem zUV{i:Nat}{x:Str}{e:Expr}{te:TE}{pos':Pos}(hN:X.N.Nodup)(hi:X.N[i]?=some x)(hx:Loc X.env.scope x)(he:PE X e te)(hs:qJ0 e (some (.Name x pos')) pos.line X.env=pure false:=by rfl)(hf:X.fn x=true\/X.env.scope.names.lookup x=some .local:=by first|exact .inl rfl|exact .inr rfl|assumption) :
  PS X (.Assign [.Name x pos'] e pos) (tAsg te (zEH i)):=by
 intro pins s σ H D I h;refine wpAny_Assign_Name (thn (he pins s σ H _ I h) fun v s1 z0=>?_) hs;obtain⟨y,H1,I1,r1,q1⟩:=z0;exact zH7 I1 hN hi hx r1 (fun s2 I2=>⟨_,H1,I2,q1⟩) hf
noncomputable def zMG(c:TT)(tb:TS):TS:=fun D σ H=>∃W:Nat->St->Hp->Prop,(∃m,W m σ H)/\∀m σ H,W m σ H ->
 c σ H fun b H1=>if b=true then ∃N:St->Hp->Prop,(∀σ' H',N σ' H'->∃m',m'<m/\W m' σ' H')/\tb { D with nx:=N,ct:=N,bk:=D.nx } σ H1 else D.nx σ H1
theorem zPH{c:Expr}{body:List Stmt}{tc:TT}{tb:TS}(hp:qJh (model X.prog X.w) X.A X.env X.xe)(hc:PT X c tc)(hb:PSs X body tb):PS X (.While c body [] pos) (zMG tc tb):=by
 intro pins s σ H D I h;obtain⟨W,⟨m0,w0⟩,turn⟩:=h;refine wpAny_While (codeAny_whileLoop (fun n s'=>∃σ' H',Inv X pins σ' H' s'/\W n σ' H') ?_ m0 ⟨σ,H,I,w0⟩)
 rintro n s1 ⟨σ1,H1,I1,w1⟩
 refine qH7 hp (thn (hc pins s1 σ1 H1 _ I1 (turn n σ1 H1 w1)) fun b s2 z0=>?_);obtain⟨H2,I2,q2⟩:=z0;cases b with
 |true=>
  obtain⟨N,hN,q2⟩:=q2;rw[if_pos rfl];refine qH7 hp (thn (hb pins s2 σ1 H2 _ I2 q2) fun f s3 q3=>?_);cases f with
  |next=>
   obtain⟨σ3,H3,I3,n3⟩:=q3;obtain⟨m',hm,w3⟩:=hN σ3 H3 n3;exact⟨m',hm,σ3,H3,I3,w3⟩
  |cont=>
   obtain⟨σ3,H3,I3,n3⟩:=q3;obtain⟨m',hm,w3⟩:=hN σ3 H3 n3;exact⟨m',hm,σ3,H3,I3,w3⟩
  |brk=>exact q3
  |ret v=>exact q3
 |false=>
  rw[if_neg qAb];exact qHc ⟨σ1,H2,I2,q2⟩
end
structure It where
 go:Nat->Hp->Prop
 yld:Nat->Hp->V->Hp->Prop
 stop:Nat->Hp->Prop
def FpOk(X:Cx)(pins:List (Addr×Obj))(H:Hp)(b:Addr):Prop:=
 H b=none/\b≠X.env.locals/\b∉X.fs/\(b∈X.ex\/X.s₀.heap.objs.size<=b)/\(∀x c,X.env.cells.lookup x=some c->c≠b)/\∀p∈X.pn++pins,p.1≠b
theorem Inv.fpOk{X:Cx}{pins:List (Addr×Obj)}{σ:St}{H H':Hp}{s:qGk}{b:Addr}(I:Inv X pins σ H s)(hb:s.heap.objs.size<=b)(hn:H' b=none):FpOk X pins H' b:=by
 refine⟨hn,qBn (qAf I.lt hb),I.nofs hb,.inr (qAi I.sz hb),fun x c e z=>?_,fun p hp z=>?_⟩
 ·obtain⟨v,q⟩:=I.cell x c e;exact absurd (qAf q.lt (by rw[z];exact hb)) (qBt _)
 ·exact absurd (qAf (qGm (I.pin p hp).1) (by rw[z];exact hb)) (qBt _)
structure Turn(P:qGn)(w:World)(K:qA1)(tg:Expr)(J:It)(fp:List Addr)(it:Addr)(tn:Nat->Heap->Prop):Prop where
 mem:it∈fp
 obj:∀i h,tn i h->∀b∈fp,∃o,h.get? b=some o/\∀v,o.data≠.cell v
 keep:∀i h h',tn i h->(∀b∈fp,∀o,h.get? b=some o->h'.get? b=some o)->tn i h'
 item:∀(X:Cx),X.prog=P->X.w=w->X.K=K->X.calm=true->∀(i:Nat)(pins:List (Addr×Obj))(s:qGk)(σ:St)(H:Hp)(E:Value->qGk->Prop),Inv X pins σ H s->(∀b∈fp,FpOk X pins H b)->tn i s.heap->J.go i H ->
  wpAny (model P w) X.A (pyNext (.ref it)) (fun r s1=>∃u,r=some u /\
   wpAny (model P w) X.A (letOwnedTupleGo tg (.ref it) u) (fun _ s2=>∃x H',Inv X pins σ H' s2/\RelV x u/\J.yld i H x H'/\tn (i+1) s2.heap/\∀b∈fp,H' b=none) E s1) E s
 done:∀(X:Cx),X.prog=P->X.w=w->X.K=K->X.calm=true->∀(i:Nat)(pins:List (Addr×Obj))(s:qGk)(σ:St)(H:Hp)(E:Value->qGk->Prop),Inv X pins σ H s->(∀b∈fp,FpOk X pins H b)->tn i s.heap->J.stop i H ->
  wpAny (model P w) X.A (pyNext (.ref it)) (fun r s1=>r=none/\Inv X pins σ H s1) E s
 self:∀(A:qGo)(i:Nat)(s:qGk)(Q:Value->qGk->Prop)(E:Value->qGk->Prop),tn i s.heap->Q (.ref it) s->wpAny (model P w) A (pyIter (.ref it)) Q E s
abbrev TI:=St->Hp->(It->Hp->Prop)->Prop
def PIE(X:Cx)(pins:List (Addr×Obj))(σ:St)(tg:Expr)(R:It->Hp->Prop)(itv:Value)(s2:qGk):Prop:=
 ∃(it:Addr)(fp:List Addr)(tn:Nat->Heap->Prop)(J:It)(H':Hp),itv=.ref it/\Inv X pins σ H' s2/\Turn X.prog X.w X.K tg J fp it tn/\tn 0 s2.heap/\(∀b∈fp,FpOk X pins H' b)/\R J H'
def PI(X:Cx)(tg iter:Expr)(wi:TI):Prop:=
 ∀(pins:List (Addr×Obj))(s:qGk)(σ:St)(H:Hp)(R:It->Hp->Prop),Inv X pins σ H s->wi σ H R ->
  wpAny (model X.prog X.w) X.A (eval iter X.env) (fun v s1=>wpAny (model X.prog X.w) X.A (pyIter v) (PIE X pins σ tg R) X.xe s1) X.xe s
theorem zQ7{M:Model}{A:qGo}{E:Value->qGk->Prop}{s:qGk}{tg:Expr}{it:Addr}{u:Value}{o:Obj}{n:String}{vs:Array Value}{Q:Unit->qGk->Prop}(ho:s.heap.get? it=some o)(hc:o.cls=.type n)(hd:o.data=.fields vs)
  (hn:["enumerate","zip","dict_itemiterator","dict_reverseitemiterator","odict_iterator","itertools.zip_longest","itertools.pairwise"].contains n=false) (hQ:Q () s):wpAny M A (letOwnedTupleGo tg (.ref it) u) Q E s:=by
 unfold letOwnedTupleGo;cases tg<;>first
  |exact wpAny_pure hQ
  |(cases u<;>first
    |exact wpAny_pure hQ
    |(refine wpAny_bind (wpAny_load ho ?_)
      rw[hc,hd];show wpAny M A (if(["enumerate","zip","dict_itemiterator","dict_reverseitemiterator","odict_iterator","itertools.zip_longest","itertools.pairwise"].contains n&&vs[0]?==some (rawInt _))=true then _ else _) Q E s;rw[if_neg (by intro h;rw[hn,Bool.false_and]at h;cases h)];exact wpAny_pure hQ))
noncomputable def Itl(K:qA1)(a:Addr):It:=
 ⟨fun i H=>∃xs x,SqL K H a xs/\xs[i]?=some x,fun i H x H'=>H'=H/\∀xs,SqL K H a xs->xs[i]?=some x,fun i H=>∃xs,SqL K H a xs/\xs.length<=i⟩
noncomputable def Itt(K:qA1)(a:Addr):It:=
 ⟨fun i H=>∃xs x,SqT K H a xs/\xs[i]?=some x,fun i H x H'=>H'=H/\∀xs,SqT K H a xs->xs[i]?=some x,fun i H=>∃xs,SqT K H a xs/\xs.length<=i⟩
noncomputable def Itr(lo:Int)(n:Nat):It:=⟨fun i _=>i<n,fun i H x H'=>H'=H/\x=.int (lo+i),fun i _=>n<=i⟩
theorem zMD{P:qGn}{w:World}{K:qA1}{tg:Expr}(a it:Addr):Turn P w K tg (Itl K a) [it] it (fun i h=>h.IsListIter it a i) where
 mem:=by simp
 obj:=fun i h st b hb=>by
  have e:b=it:=by simpa using hb
  subst e;obtain⟨o,e,c,d⟩:=st;exact⟨o,e,fun v z=>by rw[d]at z;cases z⟩
 keep:=fun i h h' st k=>st.at fun o e=>k it (by simp) o e
 item:=by
  intro X hP hw hK hc i pins s σ H E I hf st hg;subst hP hw hK;obtain⟨xs,x,hq,hx⟩:=hg;obtain⟨its,rv,p,hz⟩:=I.list hq;obtain⟨u,hu,ru⟩:=rv.get hx;obtain⟨f0,f1,f2,f3,f4,f5⟩:=hf it (by simp);refine wpAny_pyNext_list_item st p.isList (x:=u) (by simpa using hu) fun h' st' sb=>?_
  have I1:Inv X pins σ H { s with heap:=h' }:=I.turned (t':=s.toks) (fun b o hb e=>(sb.2 b hb).trans e) f0 f1 f3 f4 f5;obtain⟨o,e,c,d⟩:=id st';exact⟨u,rfl,zQ7 (s:={ s with heap:=h' }) e c d (by decide) ⟨x,H,I1,ru,⟨rfl,fun ys hy=>by rw[I.list_inj hy hq];exact hx⟩,st',fun b hb=>(hf b hb).1⟩⟩
 done:=by
  intro X hP hw hK hc i pins s σ H E I hf st hg;subst hP hw hK;obtain⟨xs,hq,hx⟩:=hg;obtain⟨its,rv,p,hz⟩:=I.list hq;obtain⟨f0,f1,f2,f3,f4,f5⟩:=hf it (by simp);have hl:=rv.length;exact wpAny_pyNext_list_end (I.ok.hd hc) st p.isList (by simp;omega) fun h' eb=>⟨rfl,I.turned (t':=s.toks) (fun b o hb e=>eb b o hb e) f0 f1 f3 f4 f5⟩
 self:=fun _ _ _ _ _ st h=>wpAny_pyIter_listiter st h
theorem zLH{P:qGn}{w:World}{K:qA1}{tg:Expr}(a it:Addr):Turn P w K tg (Itt K a) [it] it (fun i h=>h.IsTupleIter it a i) where
 mem:=by simp
 obj:=fun i h st b hb=>by
  have e:b=it:=by simpa using hb
  subst e;obtain⟨o,e,c,d⟩:=st;exact⟨o,e,fun v z=>by rw[d]at z;cases z⟩
 keep:=fun i h h' st k=>st.at fun o e=>k it (by simp) o e
 item:=by
  intro X hP hw hK hc i pins s σ H E I hf st hg;subst hP hw hK;obtain⟨xs,x,hq,hx⟩:=hg;obtain⟨its,rv,p,hz⟩:=I.tuple hq;obtain⟨u,hu,ru⟩:=rv.get hx;obtain⟨f0,f1,f2,f3,f4,f5⟩:=hf it (by simp);refine wpAny_pyNext_tuple_item st (show s.heap.IsTuple a its.toArray from p) (x:=u) (by simpa using hu) fun h' st' sb=>?_
  have I1:Inv X pins σ H { s with heap:=h' }:=I.turned (t':=s.toks) (fun b o hb e=>(sb.2 b hb).trans e) f0 f1 f3 f4 f5;obtain⟨o,e,c,d⟩:=id st';exact⟨u,rfl,zQ7 (s:={ s with heap:=h' }) e c d (by decide) ⟨x,H,I1,ru,⟨rfl,fun ys hy=>by rw[I.tuple_inj hy hq];exact hx⟩,st',fun b hb=>(hf b hb).1⟩⟩
 done:=by
  intro X hP hw hK hc i pins s σ H E I hf st hg;subst hP hw hK;obtain⟨xs,hq,hx⟩:=hg;obtain⟨its,rv,p,hz⟩:=I.tuple hq;obtain⟨f0,f1,f2,f3,f4,f5⟩:=hf it (by simp);have hl:=rv.length;exact wpAny_pyNext_tuple_end (I.ok.hd hc) st (show s.heap.IsTuple a its.toArray from p) (by simp;omega) fun h' eb=>⟨rfl,I.turned (t':=s.toks) (fun b o hb e=>eb b o hb e) f0 f1 f3 f4 f5⟩
 self:=fun _ _ _ _ _ st h=>wpAny_pyIter_tupleiter st h
theorem zLI{P:qGn}{w:World}{K:qA1}{tg:Expr}(it:Addr)(lo:Int)(n:Nat):Turn P w K tg (Itr lo n) [it] it (fun i h=>IsRangeIter h it (lo+(i:Nat)*1) ((n:Int)-(i:Nat)) 1) where
 mem:=by simp
 obj:=fun i h st b hb=>by
  have e:b=it:=by simpa using hb
  subst e;exact⟨_,st,fun v z=>by
   have z':Data.fields _=Data.cell v:=z;cases z'⟩
 keep:=fun i h h' st k=>k it (by simp) _ st
 item:=by
  intro X hP hw hK hc i pins s σ H E I hf st hg;subst hP hw hK;obtain⟨f0,f1,f2,f3,f4,f5⟩:=hf it (by simp);have W:=Walks.range (prog:=X.prog) (w:=X.w) (I.ok.hd hc) it lo 1 n;refine W.item i s _ _ hg st fun v h' tk hv st' kk=>?_
  obtain⟨t,rfl⟩:=hv;have I1:Inv X pins σ H { s with heap:=h',toks:=tk }:=I.turned (fun b o hb e=>kk b o (by simpa using hb) e) f0 f1 f3 f4 f5;refine⟨_,rfl,zQ7 (s:={ s with heap:=h',toks:=tk }) (n:="range_iterator") st' rfl rfl (by decide) ⟨.int (lo+i),H,I1,⟨t,?_⟩,⟨rfl,rfl⟩,st',fun b hb=>(hf b hb).1⟩⟩;rw[qGb]
 done:=by
  intro X hP hw hK hc i pins s σ H E I hf st hg;subst hP hw hK;obtain⟨f0,f1,f2,f3,f4,f5⟩:=hf it (by simp);exact wpAny_pyNext_range_end (I.ok.hd hc) st (by have:n<=i:=hg;omega) fun h' eb=>⟨rfl,I.turned (t':=s.toks) (fun b o hb e=>eb b o hb e) f0 f1 f3 f4 f5⟩
 self:=fun _ _ _ _ _ st h=>wpAny_pyIter_rangeiter st h
section
variable{X:Cx}{tg:Expr}
theorem zKU{pins:List (Addr×Obj)}{σ:St}{H:Hp}{s:qGk}{R:It->Hp->Prop}{E:Value->qGk->Prop}{lo hi:Int}{t u v:Tok}{tk:Nat}(I:Inv X pins σ H s)(h1:-(2 ^ 62)<=lo)(h2:lo<2 ^ 62)(h3:-(2 ^ 62)<=hi)(h4:hi<2 ^ 62)
  (q:R (Itr lo (hi-lo).toNat) H):wpAny (model X.prog X.w) X.A (pyIter (.ref s.heap.objs.size)) (PIE X pins σ tg R) E { s with heap:=s.heap.push { cls:=.type "range",data:=.fields #[.int lo t,.int hi u,.int 1 v] },toks:=tk }:=by
 refine wpAny_pyIter_range (IsRange.new ..) (small_one h1 h2 h3 h4) ?_;have I1:Inv X pins σ H { s with heap:=s.heap.push { cls:=.type "range",data:=.fields #[.int lo t,.int hi u,.int 1 v] },toks:=tk }:=I.kept fun b o e=>qGl _ e
 refine⟨(s.heap.push { cls:=.type "range",data:=.fields #[.int lo t,.int hi u,.int 1 v] }).objs.size,[(s.heap.push { cls:=.type "range",data:=.fields #[.int lo t,.int hi u,.int 1 v] }).objs.size],_,_,H,rfl,
  I1.kept (t':=tk) fun b o e=>qGl _ e,zLI _ lo (hi-lo).toNat,?_,fun b hb=>?_,q⟩
 ·have e1:lo+((0:Nat):Int)*1=lo:=by simp
  have e2:(((hi-lo).toNat:Nat):Int)-((0:Nat):Int)=qI7 lo hi 1:=by rw[rangeSize_one];split<;>omega
  show IsRangeIter _ _ (lo+((0:Nat):Int)*1) ((((hi-lo).toNat:Nat):Int)-((0:Nat):Int)) 1;rw[e1,e2];exact qGs _ rfl
 ·have e:b=(s.heap.push { cls:=.type "range",data:=.fields #[.int lo t,.int hi u,.int 1 v] }).objs.size:=by simpa using hb
  subst e;exact I1.fpOk (qA9 _) (I1.hok.fresh (qA9 _))
def zVS(ta:TA):TI:=fun σ H R=>ta σ H fun vs H1=>∃j:Int,vs=[.int j]/\-(2 ^ 62)<=j/\j<2 ^ 62/\R (Itr 0 j.toNat) H1
def zVR(ta:TA):TI:=fun σ H R=>ta σ H fun vs H1=>∃i j:Int,vs=[.int i,.int j]/\(-(2 ^ 62)<=i/\i<2 ^ 62/\-(2 ^ 62)<=j/\j<2 ^ 62)/\R (Itr i (j-i).toNat) H1
theorem zAX{a:Expr}{ta:TA}{p pos:Pos}(hg:Gl X "range")(hm:X.mg "range" = none)(ha:PA X [a] ta)(hs:starEach [a] X.env=[(false,eval a X.env)]:=by rfl):PI X tg (.Call (.Name "range" p) [a] [] pos) (zVS ta):=by
 intro pins s σ H R I h;refine Call_ (zF6 I hg hm boot_range (qB7 (thn (ha pos pins s σ H _ I h) fun us s1 z0=>?_) hs rfl));obtain⟨vs,H1,I1,r1,q1⟩:=z0;obtain⟨j,e,q1,q2,q⟩:=q1;subst e;cases r1 with
 |cons r rr=>
  cases rr;obtain⟨t,rfl⟩:=r;exact call_range_1 (zKU I1 (by omega) (by omega) q1 q2 (by simpa using q))
theorem zN1{a b:Expr}{ta:TA}{p pos:Pos}(hg:Gl X "range")(hm:X.mg "range" = none)(ha:PA X [a,b] ta)(hs:starEach [a,b] X.env=[(false,eval a X.env),(false,eval b X.env)]:=by rfl)(hs2:starEach [b] X.env=[(false,eval b X.env)]:=by rfl) :
  PI X tg (.Call (.Name "range" p) [a,b] [] pos) (zVR ta):=by
 intro pins s σ H R I h;refine Call_ (zF6 I hg hm boot_range (qB7 (thn (ha pos pins s σ H _ I h) fun us s1 z0=>?_) (by rw[hs,hs2]) (by rw[hs2];rfl)));obtain⟨vs,H1,I1,r1,q1⟩:=z0;obtain⟨i,j,e,⟨q1,q2,q3,q4⟩,q⟩:=q1;subst e;cases r1 with
 |cons r rr=>
  cases rr with
  |cons r' rr=>
   cases rr;obtain⟨t,rfl⟩:=r;obtain⟨t',rfl⟩:=r';exact call_range_2 (zKU I1 q1 q2 q3 q4 q)
noncomputable def tFor(wi:TI)(g:TG)(tb:TS):TS:=fun D σ H=>wi σ H fun J H1=>∃W:Nat->Nat->St->Hp->Prop,(∃m,W 0 m σ H1)/\∀i m σ H,W i m σ H ->
 (J.stop i H/\D.nx σ H)\/(J.go i H/\∃N:St->Hp->Prop,(∀σ' H',N σ' H'->∃m',m'<m/\W (i+1) m' σ' H')/\∀x H',J.yld i H x H'->g x σ H' fun σ2 H2=>tb { D with nx:=N,ct:=N,bk:=D.nx } σ2 H2)
noncomputable def zGU(fp:List Addr)(h:Heap):List (Addr×Obj):=fp.filterMap fun b=>(h.get? b).map fun o=>(b,o)
theorem zDK{fp:List Addr}{h:Heap}{b:Addr}{o:Obj}(hb:b∈fp)(e:h.get? b=some o):(b,o)∈zGU fp h:=qEc.mpr ⟨b,hb,by rw[e];rfl⟩
theorem zNB{fp:List Addr}{h:Heap}{p:Addr×Obj}(hp:p∈zGU fp h):p.1∈fp/\h.get? p.1=some p.2:=by
 obtain⟨b,hb,e⟩:=qEc.mp hp;cases q:h.get? b with
 |none=>rw[q]at e;cases e
 |some o=>
  rw[q]at e;have e':(b,o)=p:=qAk e;subst e';exact⟨hb,q⟩
theorem Inv.pinned{pins:List (Addr×Obj)}{σ:St}{H:Hp}{s:qGk}{fp:List Addr}(I:Inv X pins σ H s)(hf:∀b∈fp,FpOk X pins H b)(ho:∀b∈fp,∃o,s.heap.get? b=some o/\∀v,o.data≠.cell v):Inv X (pins++zGU fp s.heap) σ H s:=
 I.pins_of fun p hp=>(qB4.mp hp).elim (fun z=>I.pin p (qAp _ z)) fun z=>by
  obtain⟨hb,e⟩:=zNB z;obtain⟨f0,f1,f2,_⟩:=hf p.1 hb;obtain⟨o,e',d⟩:=ho p.1 hb;rw[e]at e';cases e';exact⟨e,f0,f1,f2,d⟩
theorem Inv.unpinned{pins pl:List (Addr×Obj)}{σ:St}{H:Hp}{s:qGk}(I:Inv X (pins++pl) σ H s):Inv X pins σ H s:=I.pins_of fun p hp=>I.pin p (qAp _ (qC3 _ hp))
theorem zUW{iter:Expr}{body:List Stmt}{wi:TI}{g:TG}{tb:TS}{pos:Pos}(hp:qJh (model X.prog X.w) X.A X.env X.xe)(hc:X.calm=true)(hi:PI X tg iter wi)(hg:PG X tg g)(hb:PSs X body tb)
  (hs:∀x,qHo iter X.env x=pure x:=by intro _;rfl):PS X (.For tg iter body [] pos) (tFor wi g tb):=by
 intro pins s σ H D I h;refine wpAny_For (thn (hi pins s σ H _ I h) fun v s1 h1=>thn h1 fun itv s2 h2=>?_) hs;obtain⟨it,fp,tn,J,H2,e,I2,T,st2,f2,W,⟨m0,w0⟩,turn⟩:=h2;subst e;have stat:∀{H':Hp},(∀b∈fp,H' b=none)->∀b∈fp,FpOk X pins H' b:=fun hn b hb=>⟨hn b hb,(f2 b hb).2⟩
 refine codeAny_forLoop_any (fun n s'=>∃i σ' H',Inv X pins σ' H' s'/\tn i s'.heap/\(∀b∈fp,H' b=none)/\W i n σ' H') ?_ m0 ⟨0,σ,H2,I2,st2,fun b hb=>(f2 b hb).1,w0⟩
 rintro n s3 ⟨i,σ3,H3,I3,st3,fr3,w3⟩
 rcases turn i n σ3 H3 w3 with⟨stop,qn⟩|⟨go,N,hN,step⟩
 ·refine qH7 hp (thn (T.done X rfl rfl rfl hc i pins s3 σ3 H3 X.xe I3 (stat fr3) st3 stop) fun r s4 z0=>?_);obtain⟨hr,I4⟩:=z0;subst hr;exact qHc ⟨σ3,H3,I4,qn⟩
 ·refine qH7 hp (thn (T.item X rfl rfl rfl hc i pins s3 σ3 H3 X.xe I3 (stat fr3) st3 go) fun r s4 z0=>?_);obtain⟨u,hr,h4⟩:=z0;subst hr;refine qH7 hp (thn h4 fun _ s5 z0=>?_);obtain⟨x,H5,I5,r5,y5,st5,fr5⟩:=z0;have I5':=I5.pinned (stat fr5) (T.obj _ _ st5);refine qH7 hp (thn (hg _ s5 σ3 H5 x u _ I5' r5 (step x H5 y5)) fun _ s6 z0=>?_);obtain⟨σ6,H6,I6,q6⟩:=z0;refine qH7 hp (thn (hb _ s6 σ6 H6 _ I6 q6) fun f s7 q7=>?_);have again:∀{σ7:St}{H7:Hp},Inv X (pins++zGU fp s5.heap) σ7 H7 s7->N σ7 H7->∃m,m<n/\∃i σ' H',Inv X pins σ' H' s7/\tn i s7.heap/\(∀b∈fp,H' b=none)/\W i m σ' H':=fun{σ7 H7} I7 n7=>by
   obtain⟨m',hm,w7⟩:=hN σ7 H7 n7;refine⟨m',hm,i+1,σ7,H7,I7.unpinned,T.keep _ _ _ st5 fun b hb o e=>(I7.pin (b,o) (qAp _ (qAp _ (zDK hb e)))).1,fun b hb=>?_,w7⟩;obtain⟨o,e,d⟩:=T.obj _ _ st5 b hb;exact(I7.pin (b,o) (qAp _ (qAp _ (zDK hb e)))).2.1
  cases f with
  |next=>obtain⟨σ7,H7,I7,n7⟩:=q7;exact again I7 n7
  |cont=>obtain⟨σ7,H7,I7,n7⟩:=q7;exact again I7 n7
  |brk=>obtain⟨σ7,H7,I7,q7⟩:=q7;exact⟨σ7,H7,I7.unpinned,q7⟩
  |ret v=>obtain⟨x7,σ7,H7,I7,r7,q7⟩:=q7;exact⟨x7,σ7,H7,I7.unpinned,r7,q7⟩
end
abbrev R2:=V->V->Hp->VK->Prop
def OpR(X:Cx)(f:Value->Value->Sem Value)(r:R2):Prop:=
 ∀(pins:List (Addr×Obj))(s:qGk)(σ:St)(H:Hp)(x y:V)(v u:Value)(Q:VK),Inv X pins σ H s->RelV x v->RelV y u->r x y H Q ->
  wpAny (model X.prog X.w) X.A (f v u) (EP X pins σ Q) X.xe s
def zCT(X:Cx)(f:Value)(r:List V->Hp->VK->Prop):Prop:=
 ∀(pins:List (Addr×Obj))(s:qGk)(σ:St)(H:Hp)(xs:List V)(us:List Value)(Q:VK),Inv X pins σ H s->Vals xs us->r xs H Q ->
  wpAny (model X.prog X.w) X.A (call f us) (EP X pins σ Q) X.xe s
def TruR(X:Cx)(r:V->Hp->(Bool->Hp->Prop)->Prop):Prop:=
 ∀(pins:List (Addr×Obj))(s:qGk)(σ:St)(H:Hp)(x:V)(v:Value)(Q:Bool->Hp->Prop),Inv X pins σ H s->RelV x v->r x H Q ->
  wpAny (model X.prog X.w) X.A (truthy v) (TP X pins σ Q) X.xe s
noncomputable def tOp(r:R2)(ta tb:TE):TE:=fun σ H Q=>ta σ H fun x H1=>tb σ H1 fun y H2=>r x y H2 Q
noncomputable def rI(C:Int->Int->Prop)(g:Int->Int->V):R2:=fun x y H Q=>∃i j,x=.int i/\y=.int j/\C i j/\Q (g i j) H
noncomputable def rI0(g:Int->Int->V):R2:=fun x y H Q=>∃i j,x=.int i/\y=.int j/\Q (g i j) H
section
variable{X:Cx}{a b c:Expr}{ta tb tc:TE}{pos:Pos}
theorem binT(ha:PE X a ta)(hb:PE X b tb){pins:List (Addr×Obj)}{s:qGk}{σ:St}{H:Hp}{R:V->V->Hp->Prop}(I:Inv X pins σ H s)
  (h:ta σ H fun x H1=>tb σ H1 fun y H2=>R x y H2) {Q:Value->qGk->Prop} {f:Value->Value->Sem Value}
  (hf:∀v u s2 x y H2,Inv X pins σ H2 s2->RelV x v->RelV y u->R x y H2->wpAny (model X.prog X.w) X.A (f v u) Q X.xe s2) :
  wpAny (model X.prog X.w) X.A (eval a X.env) (fun v s₁=>wpAny (model X.prog X.w) X.A (eval b X.env) (fun u s₂=>wpAny (model X.prog X.w) X.A (f v u) Q X.xe s₂) X.xe s₁) X.xe s:=by
 refine thn (ha pins s σ H _ I h) fun v s1 z0=>?_
 obtain⟨x,H1,I1,r1,q1⟩:=z0;refine thn (hb pins s1 σ H1 _ I1 q1) fun u s2 z0=>?_
 obtain⟨y,H2,I2,r2,q2⟩:=z0;exact hf v u s2 x y H2 I2 r1 r2 q2
theorem zAR{op:Operator}{r:R2}(ho:OpR X (binaryOp op) r)(ha:PE X a ta)(hb:PE X b tb):PE X (.BinOp a op b pos) (tOp r ta tb):=by
 intro pins s σ H Q I h;exact wpAny_BinOp (binT ha hb I h fun v u s2 x y H2 I2 rx ry q=>ho pins s2 σ H2 x y v u Q I2 rx ry q)
theorem opI{f:Value->Value->Sem Value}{C:Int->Int->Prop}{g:Int->Int->Int}
  (rule:∀(i j:Int)(t u:Tok)(s:qGk)(Q:Value->qGk->Prop)(E:Value->qGk->Prop),C i j->Q (.int (g i j) s.toks) { s with toks:=s.toks+1 }->wpAny (model X.prog X.w) X.A (f (.int i t) (.int j u)) Q E s) :
  OpR X f (rI C fun i j=>.int (g i j)):=by
 intro pins s σ H x y v u Q I rx ry h;obtain⟨i,j,rfl,rfl,hc,q⟩:=h;obtain⟨t,rfl⟩:=rx;obtain⟨t',rfl⟩:=ry;exact rule i j t t' s _ _ hc ⟨.int (g i j),H,I.tok _,⟨_,rfl⟩,q⟩
theorem opI0{f:Value->Value->Sem Value}{g:Int->Int->Int}
  (rule:∀(i j:Int)(t u:Tok)(s:qGk)(Q:Value->qGk->Prop)(E:Value->qGk->Prop),Q (.int (g i j) s.toks) { s with toks:=s.toks+1 }->wpAny (model X.prog X.w) X.A (f (.int i t) (.int j u)) Q E s) :
  OpR X f (rI0 fun i j=>.int (g i j)):=by
 intro pins s σ H x y v u Q I rx ry h;obtain⟨i,j,rfl,rfl,q⟩:=h;obtain⟨t,rfl⟩:=rx;obtain⟨t',rfl⟩:=ry;exact rule i j t t' s _ _ ⟨.int (g i j),H,I.tok _,⟨_,rfl⟩,q⟩
theorem opB0{f:Value->Value->Sem Value}{g:Int->Int->Bool}
  (rule:∀(i j:Int)(t u:Tok)(s:qGk)(Q:Value->qGk->Prop)(E:Value->qGk->Prop),Q (.bool (g i j)) s->wpAny (model X.prog X.w) X.A (f (.int i t) (.int j u)) Q E s) :
  OpR X f (rI0 fun i j=>.bl (g i j)):=by
 intro pins s σ H x y v u Q I rx ry h;obtain⟨i,j,rfl,rfl,q⟩:=h;obtain⟨t,rfl⟩:=rx;obtain⟨t',rfl⟩:=ry;exact rule i j t t' s _ _ ⟨.bl (g i j),H,I,rfl,q⟩
def CMul(i j:Int):Prop:=(-(2 ^ 64)<i/\i<2 ^ 64)\/(-(2 ^ 64)<j/\j<2 ^ 64)
theorem CMul.ok{i j:Int}(h:CMul i j):IntMulOk i j:=by
 rcases h with⟨h1,h2⟩|⟨h1,h2⟩
 ·exact .of_left (intBits_le_64 h1 h2)
 ·exact .of_right (intBits_le_64 h1 h2)
theorem zVC:OpR X (binaryOp .Add) (rI0 fun i j=>.int (i+j)):=opI0 fun _ _ _ _ _ _ _ q=>add_int q
theorem zV7:OpR X (binaryOp .Sub) (rI0 fun i j=>.int (i-j)):=opI0 fun _ _ _ _ _ _ _ q=>sub_int q
theorem zV9:OpR X (binaryOp .Mod) (rI (fun _ j=>0<j) fun i j=>.int (i%j)):=opI fun i j _ _ _ _ _ hc q=>by
 have h1:(0:Int)<j:=hc;exact mod_int' (by omega) (by rw[Int.fmod_eq_emod_of_nonneg i (by omega)];exact q)
theorem zV6:OpR X (binaryOp .BitXor) (rI0 fun i j=>.int (qHq i j)):=opI0 fun _ _ _ _ _ _ _ q=>xor_int q
end
noncomputable def scal:V->V->Bool
 |.non,.non=>true | .non,.int _=>true | .int _,.non=>true | .non,.bl _=>true | .bl _,.non=>true | .non,.str _=>true | .str _,.non=>true
 |.int _,.int _=>true | .bl _,.bl _=>true | .str _,.str _=>true | .byt _,.byt _=>true
 |.int _,.str _=>true | .str _,.int _=>true | .bl _,.str _=>true | .str _,.bl _=>true
 |_,_=>false
def rEq:R2:=fun x y H Q=>scal x y=true/\Q (.bl (decide (x=y))) H
def rNe:R2:=fun x y H Q=>scal x y=true/\Q (.bl (!decide (x=y))) H
theorem zO8{i j:Int}:decide (V.int i=V.int j)=(i==j):=by
 rw[qCu];simp
theorem dec_bl{i j:Bool}:decide (V.bl i=V.bl j)=(i==j):=by
 rw[qCu];simp
theorem zO7{i j:Str}:decide (V.str i=V.str j)=(i==j):=by
 rw[qCu];simp
theorem zO9{i j:Array UInt8}:decide (V.byt i=V.byt j)=(i.toList==j.toList):=by
 rw[qCu];cases i;cases j;simp
section
variable{X:Cx}{a b c:Expr}{ta tb tc:TE}{pos:Pos}
theorem fin_bl{pins:List (Addr×Obj)}{σ:St}{H:Hp}{s:qGk}{Q:VK}{k k':Bool}(I:Inv X pins σ H s)(q:Q (.bl k) H)(e:k=k'):EP X pins σ Q (.bool k') s:=by
 subst e;exact⟨.bl k,H,I,rfl,q⟩
theorem zX4:OpR X (compareOp .Eq) rEq:=by
 intro pins s σ H x y v u Q I rx ry h;obtain⟨hs,q⟩:=h;cases x with
 |non=>
  cases rx;cases y with
  |non=>cases ry;exact qFc (fin_bl I q (by simp))
  |bl j=>cases ry;exact qFd (fin_bl I q (by simp))
  |int j=>obtain⟨t',rfl⟩:=ry;exact qFr (fin_bl I q (by simp))
  |str j=>obtain⟨t',rfl⟩:=ry;exact qFs (fin_bl I q (by simp))
  |_=>exact absurd (show false=true from hs) qAb
 |bl i=>
  cases rx;cases y with
  |non=>cases ry;exact qFe (fin_bl I q (by simp))
  |bl j=>cases ry;exact eq_bool (fin_bl I q dec_bl)
  |str j=>obtain⟨t',rfl⟩:=ry;exact qFf (fin_bl I q (by simp))
  |_=>exact absurd (show false=true from hs) qAb
 |int i=>
  obtain⟨t,rfl⟩:=rx;cases y with
  |non=>cases ry;exact qFt (fin_bl I q (by simp))
  |int j=>obtain⟨t',rfl⟩:=ry;exact eq_int (fin_bl I q zO8)
  |str j=>obtain⟨t',rfl⟩:=ry;exact qFu (fin_bl I q (by simp))
  |_=>exact absurd (show false=true from hs) qAb
 |str i=>
  obtain⟨t,rfl⟩:=rx;cases y with
  |non=>cases ry;exact qFv (fin_bl I q (by simp))
  |bl j=>cases ry;exact qFg (fin_bl I q (by simp))
  |int j=>obtain⟨t',rfl⟩:=ry;exact qFw (fin_bl I q (by simp))
  |str j=>obtain⟨t',rfl⟩:=ry;exact eq_str (fin_bl I q zO7)
  |_=>exact absurd (show false=true from hs) qAb
 |byt i=>
  obtain⟨t,rfl⟩:=rx;cases y with
  |byt j=>obtain⟨t',rfl⟩:=ry;exact PySem.W.eq_bytes (fin_bl I q zO9)
  |_=>exact absurd (show false=true from hs) qAb
 |_=>cases y<;>exact absurd (show false=true from hs) qAb
theorem zX1:OpR X (compareOp .NotEq) rNe:=by
 intro pins s σ H x y v u Q I rx ry h;obtain⟨hs,q⟩:=h;cases x with
 |non=>
  cases rx;cases y with
  |non=>cases ry;exact qFh (fin_bl I q (by simp))
  |bl j=>cases ry;exact qFi (fin_bl I q (by simp))
  |int j=>obtain⟨t',rfl⟩:=ry;exact qFx (fin_bl I q (by simp))
  |str j=>obtain⟨t',rfl⟩:=ry;exact qFy (fin_bl I q (by simp))
  |_=>exact absurd (show false=true from hs) qAb
 |bl i=>
  cases rx;cases y with
  |non=>cases ry;exact qFj (fin_bl I q (by simp))
  |bl j=>cases ry;exact ne_bool (fin_bl I q (congrArg not dec_bl))
  |str j=>obtain⟨t',rfl⟩:=ry;exact qFk (fin_bl I q (by simp))
  |_=>exact absurd (show false=true from hs) qAb
 |int i=>
  obtain⟨t,rfl⟩:=rx;cases y with
  |non=>cases ry;exact qFz (fin_bl I q (by simp))
  |int j=>obtain⟨t',rfl⟩:=ry;exact ne_int (fin_bl I q (congrArg not zO8))
  |str j=>obtain⟨t',rfl⟩:=ry;exact qG0 (fin_bl I q (by simp))
  |_=>exact absurd (show false=true from hs) qAb
 |str i=>
  obtain⟨t,rfl⟩:=rx;cases y with
  |non=>cases ry;exact qG1 (fin_bl I q (by simp))
  |bl j=>cases ry;exact qFl (fin_bl I q (by simp))
  |int j=>obtain⟨t',rfl⟩:=ry;exact qG2 (fin_bl I q (by simp))
  |str j=>obtain⟨t',rfl⟩:=ry;exact ne_str (fin_bl I q (congrArg not zO7))
  |_=>exact absurd (show false=true from hs) qAb
 |byt i=>
  obtain⟨t,rfl⟩:=rx;cases y with
  |byt j=>obtain⟨t',rfl⟩:=ry;exact PySem.W.ne_bytes (fin_bl I q (congrArg not zO9))
  |_=>exact absurd (show false=true from hs) qAb
 |_=>cases y<;>exact absurd (show false=true from hs) qAb
theorem zX2:OpR X (compareOp .Lt) (rI0 fun i j=>.bl (decide (i<j))):=opB0 fun _ _ _ _ _ _ _ q=>lt_int q
theorem zX3:OpR X (compareOp .Gt) (rI0 fun i j=>.bl (decide (j<i))):=opB0 fun _ _ _ _ _ _ _ q=>gt_int q
theorem zN7:OpR X (compareOp .In) (fun x y H Q=>∃i j,x=.str i/\y=.str j/\Q (.bl (!(qHl j i 0 j.length 1).isEmpty)) H):=by
 intro pins s σ H x y v u Q I rx ry h;obtain⟨i,j,rfl,rfl,q⟩:=h;obtain⟨t,rfl⟩:=rx;obtain⟨t',rfl⟩:=ry;exact in_str (fin_bl I q rfl)
theorem zSV:OpR X (compareOp .IsNot) (fun x y H Q=>y=.non/\Q (.bl (!decide (x=.non))) H):=by
 intro pins s σ H x y v u Q I rx ry h;obtain⟨rfl,q⟩:=h;cases ry;refine isnot_none_gen (fin_bl I q ?_);cases x<;>first
  |(cases rx;rfl)
  |(obtain⟨t,rfl⟩:=rx;rfl)
theorem zBB(b:Expr){op:CmpOp}(h:op≠.In:=by decide)(h2:op≠.NotIn:=by decide):qI8 op b=false:=by
 have e1:(op==CmpOp.In)=false:=by cases op<;>first|rfl|exact absurd rfl h
 have e2:(op==CmpOp.NotIn)=false:=by cases op<;>first|rfl|exact absurd rfl h2
 cases b<;>simp[qI8,e1,e2]
theorem zFX{op:CmpOp}{r:R2}(ho:OpR X (compareOp op) r)(ha:PE X a ta)(hb:PE X b tb)(hm:qI8 op b=false):PE X (.Compare a [op] [b] pos) (tOp r ta tb):=by
 intro pins s σ H Q I h;exact wpAny_Compare1 (binT ha hb I h fun v u s2 x y H2 I2 rx ry q=>ho pins s2 σ H2 x y v u Q I2 rx ry q) hm
def TruV(K:qA1)(x:V)(H:Hp)(k:Bool):Prop:=
 match x with
 |.non=>k=false
 |.bl b=>k=b
 |.int i=>k=(i != 0)
 |.str y=>y.length<=sizeLine/\k=((y.length:Int) != 0)
 |.byt y=>y.size<=sizeLine/\k=((y.size:Int) != 0)
 |.ref p=>(∃xs,SqL K H p xs/\k = !xs.isEmpty)\/(∃xs,SqT K H p xs/\k = !xs.isEmpty)\/∃kvs,H p=some (.dK kvs)/\k = !kvs.isEmpty
 |_=>False
theorem zM0{κ:Type}{kvs:List (κ×V)}{vs:List (κ×Value)}(r:KV kvs vs):(!vs.isEmpty) = !kvs.isEmpty:=by
 cases r<;>rfl
theorem zGW{xs:List V}{its:List Value}(r:Vals xs its):(!its.toArray.isEmpty) = !xs.isEmpty:=by
 cases r<;>simp
theorem zG0:(sizeLine:Nat)<2 ^ 63:=by rw[qGy];decide
theorem zQX:TruR X (fun x H Q=>∃k,TruV X.K x H k/\Q k H):=by
 intro pins s σ H x v Q I rx h;obtain⟨k,e,q⟩:=h;have hl:=zG0;have hs:sizeLine=16777216:=qGy;cases x with
 |non=>
  cases rx;have e':k=false:=e;subst e';exact truthy_none ⟨H,I,q⟩
 |bl b=>
  cases rx;have e':k=b:=e;subst e';exact wpAny_truthy_bool ⟨H,I,q⟩
 |int i=>
  obtain⟨t,rfl⟩:=rx;have e':k=(i != 0):=e;subst e';exact PySem.P.truthy_int ⟨H,I,q⟩
 |str y=>
  obtain⟨t,rfl⟩:=rx;obtain⟨hy,e'⟩:y.length<=sizeLine/\k=((y.length:Int) != 0):=e;subst e';exact PySem.P.truthy_str (by omega) ⟨H,I.tok _,q⟩
 |byt y=>
  obtain⟨t,rfl⟩:=rx;obtain⟨hy,e'⟩:y.size<=sizeLine/\k=((y.size:Int) != 0):=e;subst e';exact PySem.W.truthy_bytes (by omega) ⟨H,I.tok _,q⟩
 |ref p=>
  cases rx;have e':(∃xs,SqL X.K H p xs/\k = !xs.isEmpty)\/(∃xs,SqT X.K H p xs/\k = !xs.isEmpty)\/∃kvs,H p=some (.dK kvs)/\k = !kvs.isEmpty:=e
  rcases e' with⟨xs,hx,e'⟩|⟨xs,hx,e'⟩|⟨kvs,hx,e'⟩
  ·subst e';obtain⟨its,r,pl,hz⟩:=I.list hx;have hlen:=r.length;exact wpAny_truthy_list pl.isList (by simp only[qAg];omega) ⟨H,I.tok _,by rw[zGW r];exact q⟩
  ·subst e';obtain⟨its,r,pl,hz⟩:=I.tuple hx;have hlen:=r.length;exact truthy_tuple pl (by simp only[qAg];omega) ⟨H,I.tok _,by rw[zGW r];exact q⟩
  ·subst e';obtain⟨hz,hS,vs,r,m⟩:kvs.length<=sizeLine/\(p==qJn)=false/\∃vs,KV kvs vs/\s.heap.DictOf (zNF X.prog X.w) p vs:=I.hok p _ hx;have hlen:kvs.length=vs.length:=qJq r;exact wpAny_truthy_dict hS m (by omega) ⟨H,I.tok _,by rw[zM0 r];exact q⟩
 |_=>exact(show False from e).elim
theorem zLS:OpR X (binaryOp .Add) (fun x y H Q=>∃i j,x=.str i/\y=.str j/\i.length+j.length<=sizeLine/\Q (.str (i++j)) H):=by
 intro pins s σ H x y v u Q I rx ry h;obtain⟨i,j,rfl,rfl,hz,q⟩:=h;obtain⟨t,rfl⟩:=rx;obtain⟨t',rfl⟩:=ry;exact add_str (fun t' tk=>⟨.str (i++j),H,I.tok _,⟨_,rfl⟩,q⟩) hz
theorem zGK{x:V}{us:List Value}(r:Vals [x] us):∃u,us=[u]/\RelV x u:=by
 cases r with
 |cons r1 r2=>cases r2;exact⟨_,rfl,r1⟩
theorem zOT{x y:V}{us:List Value}(r:Vals [x,y] us):∃u w',us=[u,w']/\RelV x u/\RelV y w':=by
 cases r with
 |cons r1 r2=>
  cases r2 with
  |cons r3 r4=>cases r4;exact⟨_,_,rfl,r1,r3⟩
theorem zJ5(hc:X.calm=true):zCT X (.builtin "max") (fun xs H Q=>∃i j,xs=[.int i,.int j]/\Q (.int (if j>i then j else i)) H):=by
 intro pins s σ H xs us Q I r h;obtain⟨i,j,rfl,q⟩:=h;obtain⟨u,w',rfl,⟨t,rfl⟩,⟨t',rfl⟩⟩:=zOT r;refine max_two_ints (I.ok.hd hc) fun h' tk k=>⟨_,H,I.kept k,?_,q⟩
 by_cases hj:j>i
 ·rw[if_pos hj,if_pos hj];exact⟨_,rfl⟩
 ·rw[if_neg hj,if_neg hj];exact⟨_,rfl⟩
theorem zJ4(hc:X.calm=true):zCT X (.builtin "min") (fun xs H Q=>∃i j,xs=[.int i,.int j]/\Q (.int (if j<i then j else i)) H):=by
 intro pins s σ H xs us Q I r h;obtain⟨i,j,rfl,q⟩:=h;obtain⟨u,w',rfl,⟨t,rfl⟩,⟨t',rfl⟩⟩:=zOT r;refine min_two_ints (I.ok.hd hc) fun h' tk k=>⟨_,H,I.kept k,?_,q⟩
 by_cases hj:j<i
 ·rw[if_pos hj,if_pos hj];exact⟨_,rfl⟩
 ·rw[if_neg hj,if_neg hj];exact⟨_,rfl⟩
theorem zOG:zCT X (.type "int") (fun xs H Q=>(∃i,xs=[.int i]/\Q (.int i) H)\/∃k,xs=[.bl k]/\Q (.int (if k then 1 else 0)) H):=by
 intro pins s σ H xs us Q I r h;rcases h with⟨i,rfl,q⟩|⟨k,rfl,q⟩
 ·obtain⟨u,rfl,t,rfl⟩:=zGK r;exact call_int_int ⟨.int i,H,I,⟨_,rfl⟩,q⟩
 ·obtain⟨u,rfl,r1⟩:=zGK r;cases r1;exact call_int_bool ⟨.int (if k then 1 else 0),H,I.tok _,⟨_,rfl⟩,q⟩
end
structure ObjM(h:Heap)(x dx C:Addr)(mA:Str->Option Value):Prop where
 obj:h.get? x=some (qDv C dx)
 ns:h.Ns1 dx mA
 ne:dx≠x
theorem zIU{h:Heap}{dx:Addr}{mA:Str->Option Value}(n:h.Ns1 dx mA):∃od,h.get? dx=some od/\∀name,qE5 name od=some (mA name):=by
 obtain⟨o,es,ep,ho,hd,hk,_,hm⟩:=n;refine⟨o,ho,fun name=>?_⟩;have e:=hm name;unfold nsFind findBy at e;rw[<- Array.find?_toList]at e;unfold qE5;rw[hd];dsimp only
 split
 ·rename_i y q
  rw[q]at e;exact congrArg some e
 ·rename_i q
  rw[q]at e;have a:es.toList.any (·.refKey)=false:=by
   rw[List.any_eq_false];intro y hy;obtain⟨z,t,hkey⟩:=hk y (Array.mem_toList_iff.mp hy);simp[DictEntry.refKey,hkey]
  have a':¬es.toList.any (·.refKey)=true:=by rw[a];exact qAb
  rw[if_neg a'];exact congrArg some e
theorem ObjM.look{h:Heap}{x dx C:Addr}{mA:Str->Option Value}(I:ObjM h x dx C mA):∃od,qFm h x (qDv C dx) C (some od)/\∀name,qE5 name od=some (mA name):=
 let⟨od,ho,hl⟩:=zIU I.ns
 ⟨od,⟨I.obj,rfl,rfl,ho⟩,hl⟩
section
variable{prog:qGn}{w:World}{A:qGo}{E:Value->qGk->Prop}{s:qGk}{K:qA1}{x dx C f:Addr}{mA:Str->Option Value}{name:Str}{v:Value}
end
section
variable{P:qGn}{w:World}{H H':Hp}{h h':Heap}{a C dx:Addr}{fs fs':List (Str×V)}
theorem zTH(hok:HOk P w H h)(e:H a=some (.ins C dx fs)):∃mA,ObjM h a dx C mA/\(∀f,RelO (fs.lookup f) (mA f))/\qG4 mA (fs.map (·.1))/\fs.length<=1000/\H dx=some (.own a):=by
 obtain⟨d,z,ne,ob,mA,n,r,q⟩:=(show ObjOk P w H h a (.ins C dx fs) from hok a _ e)
 exact⟨mA,⟨ob,n,ne⟩,r,q,z,d⟩
end
structure Cls(K:qA1)(C:Addr):Prop where
 pg:qEx K C Str.empty=true
 hd:qCf K C=true
 po:PySem.W.plainOver K C=true
 sa:qAt K (.ref C) "__setattr__" = some (some (.builtin "object.__setattr__"))
theorem Cls.get{K:qA1}{C:Addr}(c:Cls K C)(f:Str):qEx K C f=true:=c.pg
def zOQ(K:qA1)(C:Addr)(f:Str):Prop:=qAt K (.ref C) f=some none
section
variable{X:Cx}{pins:List (Addr×Obj)}{σ:St}{H:Hp}{s:qGk}{a C dx:Addr}{fs:List (Str×V)}{f:Str}{v:V}{A:qGo}{E:Value->qGk->Prop}
end
section
variable{X:Cx}{o e value:Expr}{f:Str}{pos pos' tpos:Pos}{ta tv:TE}
end
section
variable{X:Cx}{pins:List (Addr×Obj)}{σ:St}{H:Hp}{s:qGk}{A:qGo}{E:Value->qGk->Prop}{Q:Value->qGk->Prop}{c:Value}{b:Bool}
inductive TyOf(K:qA1)(H:Hp):V->Value->Prop where
 |non:TyOf K H .non (.type "NoneType")
 |bl (x:Bool):TyOf K H (.bl x) (.type "bool")
 |int (i:Int):TyOf K H (.int i) (.type "int")
 |str (x:Str):TyOf K H (.str x) (.type "str")
 |flt (x:UInt64):TyOf K H (.flt x) (.type "float")
 |lst {a:Addr} {xs:List V} (e:H a=some (.lst xs)):TyOf K H (.ref a) (.type "list")
 |frz {a:Addr} {o:Obj} {xs:List V} (e:H a=some (.frz o (.lst xs))):TyOf K H (.ref a) (.type "list")
 |tup {a:Addr} {xs:List V} (e:H a=some (.tup xs)):TyOf K H (.ref a) (.type "tuple")
 |dK {a:Addr} {kvs:List (Key×V)} (e:H a=some (.dK kvs)):TyOf K H (.ref a) (.type "dict")
 |dT {a:Addr} {T:Addr->Prop} {e0:Nat} {kvs:List (List KeyN×V)} (e:H a=some (.dT T e0 kvs)):TyOf K H (.ref a) (.type "dict")
 |ins {a C dx:Addr} {fs:List (Str×V)} (e:H a=some (.ins C dx fs)) (cl:Cls K C) (ha:qAt K (.ref C) "__class__" = some (some (.builtin "object.__class__")))
   (hn:qEn K (.builtin "object.__class__") "__get__" = some (some (.builtin "getset_descriptor.__get__"))) (htk:qF4 K (.builtin "object.__class__")=some true)
   (hm:qDf K C (.type "object")=some true):TyOf K H (.ref a) (.ref C)
theorem zNQ{x:V}{u t:Value}(I:Inv X pins σ H s)(rx:RelV x u)(ty:TyOf X.K H x t)(e:qB5 X.K t c=some b)(h:∀tk,Q (.bool b) { s with toks:=tk }) :
  wpAny (model X.prog X.w) A (call (.builtin "isinstance") [u,c]) Q E s:=by
 cases ty with
 |non=>cases(show u=qGx from rx);exact qAx PySem.W.kitx_none I.kIn qDz e (fun z=>nomatch z) h
 |bl y=>cases(show u=qHj y from rx);exact qAx PySem.W.kitx_bool I.kIn qDz e (fun z=>nomatch z) h
 |int i=>obtain⟨t,q⟩:=(show ∃t,u=qIy i t from rx);cases q;exact qAx PySem.W.kitx_int I.kIn qDz e (fun z=>nomatch z) h
 |str y=>obtain⟨t,q⟩:=(show ∃t,u=qIz y t from rx);cases q;exact qAx PySem.W.kitx_str I.kIn qDz e (fun z=>nomatch z) h
 |flt y=>obtain⟨t,q⟩:=(show ∃t,u=qJx y t from rx);cases q;exact qAx PySem.W.kitx_float I.kIn qDz e (fun z=>nomatch z) h
 |@lst a xs ea=>
  cases(show u=qGp a from rx)
  obtain⟨_,_,n,_,h1⟩:=(show ObjOk X.prog X.w H s.heap a (.lst xs) from I.hok a _ ea)
  exact qAx qEo I.kIn ⟨_,h1,rfl⟩ e (fun z=>nomatch z) h
 |@frz a ob xs ea=>
  cases(show u=qGp a from rx)
  obtain⟨_,_,_,n,_,h1⟩:=(show ObjOk X.prog X.w H s.heap a (.frz ob (.lst xs)) from I.hok a _ ea)
  exact qAx qEo I.kIn ⟨_,h1,rfl⟩ e (fun z=>nomatch z) h
 |@tup a xs ea=>
  cases(show u=qGp a from rx)
  obtain⟨_,_,_,p⟩:=(show ObjOk X.prog X.w H s.heap a (.tup xs) from I.hok a _ ea)
  obtain⟨o,h1,h2,_⟩:=p;exact qAx PySem.W.kitx_tuple I.kIn ⟨o,h1,h2⟩ e (fun z=>nomatch z) h
 |@dK a kvs ea=>
  cases(show u=qGp a from rx)
  obtain⟨_,_,vs,_,p⟩:=(show ObjOk X.prog X.w H s.heap a (.dK kvs) from I.hok a _ ea)
  obtain⟨o,es,ep,h1,h2,_⟩:=p;exact qAx qEp I.kIn ⟨o,h1,h2.1⟩ e (fun z=>nomatch z) h
 |@dT a T e0 kvs ea=>
  cases(show u=qGp a from rx)
  obtain⟨_,_,xs,_,o,es,ep,h1,h2,_⟩:=(show ObjOk X.prog X.w H s.heap a (.dT T e0 kvs) from I.hok a _ ea)
  exact qAx qEp I.kIn ⟨o,h1,h2.1⟩ e (fun z=>nomatch z) h
 |@ins a C dx fs ea cl ha hn htk hm=>
  cases(show u=qGp a from rx)
  obtain⟨mA,O,_⟩:=zTH I.hok ea;obtain⟨od,J,_⟩:=O.look;exact qAx (PySem.W.kitx_own (cl.get _) cl.hd ha hn htk hm) I.kIn J e (fun z=>nomatch z) h
end
structure Room(k:Nat)(A:qGo):Prop where
 hd:A.handled=none
 dp:A.depth+3*k+5<recursionLimit
 un:A.units+16*k+200<cLine
theorem Room.mono{j k:Nat}{A:qGo}(r:Room k A)(h:j<=k):Room j A:=⟨r.hd,by have:=r.dp;omega,by have:=r.un;omega⟩
theorem Room.deeper{k:Nat}{A:qGo}(r:Room (k+1) A)(env:Env):Room k (A.deeper env):=
 ⟨r.hd,by have:=r.dp;show A.depth+1+3*k+5<_;omega,by have:=r.un;show A.units+3+16*k+200<_;omega⟩
theorem Room.depth{k:Nat}{A:qGo}(r:Room k A):A.depth<recursionLimit:=by have:=r.dp;omega
theorem Room.units{k:Nat}{A:qGo}(r:Room k A):A.units+64<cLine:=by have:=r.un;omega
noncomputable def tNil:TA:=fun _ H Q=>Q [] H
noncomputable def zFA(ta:TE)(tr:TA):TA:=fun σ H Q=>ta σ H fun x H1=>tr σ H1 fun xs H2=>Q (x::xs) H2
section
variable{X:Cx}{e:Expr}{es:List Expr}{te:TE}{t:TA}{pos:Pos}
theorem zA8:PA X [] tNil:=fun _ _ _ _ H Q I h=>Calls.spliced_nil ⟨[],H,I,.nil,h⟩
theorem zA1(ha:PE X e te)(hr:PA X es t)(hs:starEach (e::es) X.env=(false,eval e X.env)::starEach es X.env:=by rfl):PA X (e::es) (zFA te t):=by
 intro pos pins s σ H Q I h;rw[hs];show wpAny _ _ (spliced ((false,eval e X.env)::backTo pos (starEach es X.env))) _ _ s;refine Calls.spliced_cons (thn (ha pins s σ H _ I h) fun u s1 z0=>?_);obtain⟨x,H1,I1,r1,q1⟩:=z0;exact thn (hr pos pins s1 σ H1 _ I1 q1) fun us s2 ⟨xs,H2,I2,r2,q2⟩=>⟨x::xs,H2,I2,.cons r1 r2,q2⟩
def tTup(t:TA):TE:=fun σ H Q=>t σ H fun xs H1=>xs.length<=sizeLine/\∀p,H1 p=none->Q (.ref p) (upd H1 p (.tup xs))
def tLst(t:TA):TE:=fun σ H Q=>t σ H fun xs H1=>xs.length<=sizeLine/\∀p,H1 p=none->Q (.ref p) (upd H1 p (.lst xs))
theorem zV1{x1}(h:PA X es t):PE X (.Tuple es x1 pos) (tTup t):=by
 intro pins s σ H Q I hq;refine wpAny_Tuple_spliced (thn (h pos pins s σ H _ I hq) fun us s1 ⟨xs,H1,I1,r,z,q⟩=>⟨by rw[<- r.length];exact z,?_⟩);have hf:H1 s1.heap.objs.size=none:=I1.hok.fresh (qA9 _);refine⟨.ref s1.heap.objs.size,upd H1 s1.heap.objs.size (.tup xs),I1.laid (t':=s1.toks) (fun b u e=>qGl _ e) (qA9 _) ?_,rfl,q _ hf⟩;exact⟨z,us,r,⟨_,qGs _ rfl,rfl,_,rfl⟩⟩
theorem zDQ(h:PA X es t):PE X (.List es pos) (tLst t):=by
 intro pins s σ H Q I hq;refine wpAny_List_spliced (thn (h pos pins s σ H _ I hq) fun us s1 ⟨xs,H1,I1,r,z,q⟩=>⟨by rw[<- r.length];exact z,?_⟩);have hf:H1 s1.heap.objs.size=none:=I1.hok.fresh (qA9 _);refine⟨.ref s1.heap.objs.size,upd H1 s1.heap.objs.size (.lst xs),I1.laid (t':=s1.toks) (fun b u e=>qGl _ e) (qA9 _) ?_,rfl,q _ hf⟩;exact⟨z,us,0,r,qGs _ rfl⟩
end
abbrev Sp:=List V->Hp->VK->XK->Prop
abbrev CXT:=List Env->Hp->qGk->XK->Value->qGk->Prop
structure Env0(P:qGn)(w:World)(K:qA1)(mg:Str->Option Value)(base:Heap)(A:qGo)(outer:List Env)(s:qGk)(H:Hp):Prop where
 frames:A.frames=some outer
 mod:Mod K mg base
 bs:∀b o,base.get? b=some o->s.heap.get? b=some o/\H b=none
 bsz:base.objs.size<=s.heap.objs.size
 funs:s.heap.FunFrames base outer
 frf:∀b∈frs outer,H b=none
 hok:HOk P w H s.heap
 bare:qI6 s.gens
def CE(outer:List Env)(P:qGn)(w:World)(H:Hp)(s:qGk)(Q:VK)(u:Value)(s':qGk):Prop:=
 ∃v H',s'.os=s.os/\qI6 s'.gens/\Un (frs outer) [] H H' s.heap s'.heap/\HOk P w H' s'.heap/\RelV v u/\Q v H'
def CR(CX:CXT)(outer:List Env)(P:qGn)(w:World)(H:Hp)(s:qGk)(Q:VK)(E:XK)(r:qJi)(s':qGk):Prop:=
 match r with
 |.ok (.ret u)=>CE outer P w H s Q u s'
 |.ok _=>False
 |.error e=>CX outer H s E e s'
structure FnOk(P:qGn)(w:World)(K:qA1)(mg:Str->Option Value)(base:Heap)(CX:CXT)(k:Nat)(f:Addr)(fd:qH2)(ps:List Str)(sp:Sp):Prop where
 len:∀vs H Q E,sp vs H Q E->vs.length=ps.length
 run:∀(A:qGo)(outer:List Env)(s:qGk)(H:Hp)(args:Args)(us:List Value)(vs:List V)(Q:VK)(E:XK),Room k A->Env0 P w K mg base A outer s H->qJ5 s fd args (ps.zip us)->Vals vs us->sp vs H Q E ->
  qId (model P w) A (.call (.ref f) args) (CR CX outer P w H s Q E) s
theorem FnOk.imp{P:qGn}{w:World}{K:qA1}{mg:Str->Option Value}{base:Heap}{CX:CXT}{k:Nat}{f:Addr}{fd:qH2}{ps:List Str}{sp sp':Sp}(F:FnOk P w K mg base CX k f fd ps sp)
  (h:∀vs H Q E,sp' vs H Q E->sp vs H Q E):FnOk P w K mg base CX k f fd ps sp':=
 ⟨fun vs H Q E q=>F.len vs H Q E (h _ _ _ _ q),fun A outer s H args us vs Q E hr he hb hv hs=>F.run A outer s H args us vs Q E hr he hb hv (h _ _ _ _ hs)⟩
section
variable{X:Cx}{pins:List (Addr×Obj)}{σ:St}{H:Hp}{s s':qGk}
theorem Inv.env0(I:Inv X pins σ H s):Env0 X.prog X.w X.K X.mg X.base X.A X.stack s H:=
 ⟨I.ok.frames,I.ok.mod,I.bs,qAi I.ok.bsz I.sz,I.stack,I.stkFree,I.hok,I.bare⟩
theorem Inv.after{Q:VK}{u:Value}(I:Inv X pins σ H s)(h:CE X.stack X.prog X.w H s Q u s'):EP X pins σ Q u s':=by
 obtain⟨v,H',os,bare,un,hok,r,q⟩:=h;obtain⟨hh,g,d,t,os'⟩:=s';obtain rfl:os'=s.os:=os;exact⟨v,H',I.call (h':=hh) (g':=g) (d':=d) (t':=t) (ch:=[]) un hok bare (fun b z=>absurd z (by simp)),r,q⟩
end
noncomputable def zGL(sp:Sp)(dvs:List V)(E:XK)(t:TA):TE:=fun σ H Q=>t σ H fun vs H1=>sp (vs++dvs) H1 Q E
def Binds(K:qA1)(fd:qH2)(ps:List Str)(ds:List Value):Prop:=
 ∀(s:qGk)(us:List Value),K.In s.heap->(us++ds).length=ps.length->qJ5 s fd ⟨us,[]⟩ (ps.zip (us++ds))
theorem Binds.all{K:qA1}{fd:qH2}{ps:List Str}(h:∀us:List Value,us.length=ps.length->qJ1 fd ⟨us,[]⟩=pure (ps.zip us)):Binds K fd ps []:=fun s us _ hl=>by
 rw[qBx]at hl ⊢;exact .of_eq (h us hl)
def zLD(CX:CXT)(X:Cx)(E:XK):Prop:=∀(pins:List (Addr×Obj))(σ:St)(H:Hp)(s:qGk)(e:Value)(s':qGk),Inv X pins σ H s->CX X.stack H s E e s'->X.xe e s'
section
variable{X:Cx}{CX:CXT}{k:Nat}{f C:Addr}{fd:qH2}{ps:List Str}{sp:Sp}{dvs:List V}{ds:List Value}{E:XK}{x m:Str}{p pos apos:Pos}{e o:Expr}{es:List Expr}{ta:TE}{t:TA}
theorem zUI{pins:List (Addr×Obj)}{σ:St}{H:Hp}{s:qGk}{Q:VK}{us:List Value}{vs:List V}(F:FnOk X.prog X.w X.K X.mg X.base CX k f fd ps sp)(hr:Room k X.A)(hb:Binds X.K fd ps ds)(hd:Vals dvs ds)(hx:zLD CX X E)
  (I:Inv X pins σ H s) (r:Vals vs us) (h:sp (vs++dvs) H Q E):wpAny (model X.prog X.w) X.A (call (.ref f) us) (EP X pins σ Q) X.xe s:=by
 have r2:Vals (vs++dvs) (us++ds):=r.append hd;have hl:(us++ds).length=ps.length:=by rw[<- r2.length];exact F.len _ _ _ _ h
 refine wpAny_call (codeAny_mono (F.run X.A X.stack s H ⟨us,[]⟩ (us++ds) (vs++dvs) Q E hr I.env0 (hb s us I.kIn hl) r2 h) fun r s' hq=>?_);cases r with
 |error e=>exact hx pins σ H s e s' I hq
 |ok fl=>
  cases fl with
  |ret u=>exact I.after hq
  |next=>exact qA8 hq
  |brk=>exact qA8 hq
  |cont=>exact qA8 hq
theorem zN5(F:FnOk X.prog X.w X.K X.mg X.base CX k f fd ps sp)(hr:Room k X.A)(hg:Gl X x)(hm:X.mg x=some (.ref f))(hk:qB1 X.K (.ref f)=true)(hb:Binds X.K fd ps ds)(hd:Vals dvs ds)(hx:zLD CX X E)
  (ha:PA X (e::es) t) (hdb:(x==("__debug__":Str))=false:=by decide) (he:starEach (e::es) X.env=(false,eval e X.env)::starEach es X.env:=by rfl) (hpl:(backTo pos (starEach es X.env)).any (·.1)=false:=by rfl) :
  PE X (.Call (.Name x p) (e::es) [] pos) (zGL sp dvs E t):=by
 intro pins s σ H Q I h;refine qHa (zEZ I hg hm ?_ hdb);refine qD2 (h₀:=X.base) I.ok.mod.kin hk (thn (ha pos pins s σ H _ I h) fun us s1 ⟨vs,H1,I1,r,q⟩=>⟨I1.kIn,?_⟩) he hpl;exact zUI F hr hb hd hx I1 r q
end
section
variable{X:Cx}{CX:CXT}{k:Nat}{f C:Addr}{fd:qH2}{ps ks:List Str}{sp:Sp}{E:XK}{x m:Str}{p pos apos kpos:Pos}{e o:Expr}{es:List Expr}{kws:List Keyword}{te ta:TE}{t tk:TA}{nm:Option Str}
variable{g:List Value->List Value->List Value}{gV:List V->List V->List V}
end
structure FnScope(N P:List Str)(sc:Scope):Prop where
 kind:sc.kind=.function
 co:sc.isCoroutine=false
 gen:sc.isGenerator=false
 nd:N.Nodup
 pre:N.take P.length=P
 par:∀x∈P,sc.names.lookup x=some .local\/sc.names.lookup x=some .cell
 nofree:∀y∈sc.names,y.2≠.free
theorem zJA{kindOf:Str->Option qHd}{x:Str}:∀{binds:List (Str×Value)}{m:Str->Option Value},(∀v,(x,v)∉binds)->bindL kindOf binds m x=m x
 |[],_,_=>rfl
 |(n,v)::r,m,h=>by
  unfold bindL;rw[zJA fun w hw=>h w (qAr _ hw)]
  split
  ·have:x≠n:=by rintro rfl;exact h v qBj
   simp[this]
  ·rfl
theorem zJC{kindOf:Str->Option qHd}{x:Str}:∀{binds:List (Str×Value)}{m:Str->Option Value},(∀v,(x,v)∉binds)->bindC kindOf binds m x=m x
 |[],_,_=>rfl
 |(n,v)::r,m,h=>by
  unfold bindC;rw[zJC fun w hw=>h w (qAr _ hw)]
  split
  ·rfl
  ·have:x≠n:=by rintro rfl;exact h v qBj
   simp[this]
theorem zJB{kindOf:Str->Option qHd}{x:Str}{v:Value}:∀{P:List Str}{vs:List Value}{i:Nat}{m:Str->Option Value},P.Nodup->P[i]?=some x->vs[i]?=some v->kindOf x=some .local ->
  bindL kindOf (P.zip vs) m x=some v
 |[],_,_,_,_,h,_,_=>by simp at h
 |_::_,[],_,_,_,_,h,_=>by simp at h
 |p::P,w::vs,0,m,nd,h1,h2,hk=>by
  simp at h1 h2;subst h1;subst h2;show bindL kindOf ((p,w)::P.zip vs) m p=_;unfold bindL;rw[zJA fun v hv=>(qCa.mp nd).1 (qCv hv).1,if_pos hk];simp
 |p::P,w::vs,i+1,m,nd,h1,h2,hk=>by
  show bindL kindOf ((p,w)::P.zip vs) m x=_;unfold bindL;exact zJB (i:=i) (qCa.mp nd).2 (by simpa using h1) (by simpa using h2) hk
theorem zJD{kindOf:Str->Option qHd}{x:Str}{v:Value}:∀{P:List Str}{vs:List Value}{i:Nat}{m:Str->Option Value},P.Nodup->P[i]?=some x->vs[i]?=some v->kindOf x≠some .local ->
  bindC kindOf (P.zip vs) m x=some v
 |[],_,_,_,_,h,_,_=>by simp at h
 |_::_,[],_,_,_,_,h,_=>by simp at h
 |p::P,w::vs,0,m,nd,h1,h2,hk=>by
  simp at h1 h2;subst h1;subst h2;show bindC kindOf ((p,w)::P.zip vs) m p=_;unfold bindC;rw[zJC fun v hv=>(qCa.mp nd).1 (qCv hv).1,if_neg hk];simp
 |p::P,w::vs,i+1,m,nd,h1,h2,hk=>by
  show bindC kindOf ((p,w)::P.zip vs) m x=_;unfold bindC;exact zJD (i:=i) (qCa.mp nd).2 (by simpa using h1) (by simpa using h2) hk
noncomputable def start(N:List Str)(vs:List V):St:=vs.map some++qA7 (N.length-vs.length) none
noncomputable def cxOf(CX:CXT)(P:qGn)(w:World)(K:qA1)(mg:Str->Option Value)(base:Heap)(N:List Str)(qual:Str)(scope:Scope)(f:Addr)(cd:Value)(A:qGo)(outer:List Env)(s:qGk)(H:Hp)(E:XK):Cx where
 prog:=P
 w:=w
 K:=K
 mg:=mg
 base:=base
 A:=A.deeper (envOfC qual scope s.heap.objs.size f cd)
 N:=N
 s₀:=s
 H₀:=H
 env:=envOfC qual scope s.heap.objs.size f cd
 outer:=outer
 stack:=envOfC qual scope s.heap.objs.size f cd::outer
 ex:=[]
 calm:=true
 fn:=fun _=>true
 pn:=[]
 xe:=fun e s'=>wpAny (model P w) (A.deeper (envOfC qual scope s.heap.objs.size f cd)) (leaving (envOfC qual scope s.heap.objs.size f cd) e) (fun _ s''=>CX outer H s E e s'') (fun e' s''=>CX outer H s E e' s'') s'
theorem zL8{sc:Scope}{n:Nat}{x:Str}(h:sc.names.lookup x=some .cell):∃c,(cellsFrom n sc.names []).lookup x=some c:=by
 have q:=qCe sc.names n [] (.inl h);exact qC8.mp q
theorem zNS{CX:CXT}{P:qGn}{w:World}{K:qA1}{mg:Str->Option Value}{base:Heap}{N ps:List Str}{qual:Str}{scope:Scope}{f:Addr}{cd:Value}{A:qGo}{outer:List Env}{s s1:qGk}{H:Hp}{E:XK}{us:List Value}{vs:List V}
  (S:FnScope N ps scope) (hd:A.handled=none) (e0:Env0 P w K mg base A outer s H) (hl:vs.length=ps.length) (r:Vals vs us)
  (x:InCallC s s.heap.objs.size (bindL (envOfC qual scope s.heap.objs.size f cd).kindOf (ps.zip us) fun _=>none) (cellsFrom (s.heap.objs.size+1) scope.names []) (bindC (envOfC qual scope s.heap.objs.size f cd).kindOf (ps.zip us) fun _=>none) s1) :
  Inv (cxOf CX P w K mg base N qual scope f cd A outer s H E) [] (start N vs) H s1:=by
 have hpl:ps.length<=N.length:=by have:=congrArg qGc S.pre;rw[qC5]at this;omega
 obtain⟨h1,tk,rfl,hk⟩:=x.done;have noA:∀b:Addr,b∉(cxOf CX P w K mg base N qual scope f cd A outer s H E).ex:=fun b z=>absurd (show b∈([]:List Addr) from z) (by simp)
 refine⟨⟨e0.mod,S.kind,rfl,rfl,qA9 _,fun y z c h1 h2=>?_,fun y hy=>?_,fun y c _ h=>?_,fun _=>hd,Around.frames_deeper e0.frames,.inr ⟨rfl,rfl⟩,fun b z=>absurd z (noA b),e0.bs,e0.bsz,fun b _ _=>noA b,fun b z=>absurd z (noA b),e0.funs,e0.frf⟩,
  rfl,e0.bare,Un.kept hk,⟨_,x.toInCall.ns,fun i y v h1 h2 h3=>?_⟩,fun y c h=>⟨_,x.cell y c h⟩,e0.hok.fresh (qA9 _),fun y c h=>?_,fun p hp=>absurd (show p∈([]:List (Addr×Obj)) from hp) (by simp),e0.hok.kept hk,?_⟩
 ·exact name_of_addr x.apart (qBu h1) (qBu h2)
 ·have hy:scope.names.lookup y=some .cell\/scope.names.lookup y=some .free:=hy
  rcases hy with hy|hy
  ·exact zL8 hy
  ·exact absurd rfl (S.nofree _ (qBu hy))
 ·exact qB6 (x.above y c (qBu h))
 ·have hi:i<vs.length:=by
   unfold start at h2;by_cases hi:i<vs.length
   ·exact hi
   ·rw[qAe (by simpa using hi)]at h2;rw[qB2]at h2
    split at h2<;>cases h2
  have ha:vs[i]?=some v:=by
   unfold start at h2;rw[qAd (by simpa using hi),qAc]at h2;cases e:vs[i]? with
   |none=>rw[e]at h2;cases h2
   |some a=>rw[e]at h2;cases h2;rfl
  obtain⟨u,hu,rv⟩:=r.get ha;have hp:ps[i]?=some y:=by
   rw[<- S.pre,qD8 (by omega)];exact h1
  have ndP:ps.Nodup:=by rw[<- S.pre];exact S.nd.sublist (List.take_sublist _ _)
  refine⟨u,rv,?_⟩;rcases S.par y (qAz hp)with k|k
  ·exact .inl ⟨k,zJB ndP hp hu k⟩
  ·obtain⟨c,e⟩:=zL8 (n:=s.heap.objs.size+1) k;refine .inr ⟨.inl k,c,e,?_⟩;have q:=x.cell y c e;rw[zJD ndP hp hu (by show scope.names.lookup y≠_;rw[k];decide)]at q;exact q
 ·exact e0.hok.fresh (qB6 (x.above y c (qBu h)))
 ·unfold start;show _=N.length;rw[qB0,qAl,qBo];omega
theorem zVV{CX:CXT}{P:qGn}{w:World}{K:qA1}{mg:Str->Option Value}{base:Heap}{k:Nat}{f:Addr}{name qual:Str}{params:Arguments}{body:List Stmt}{scope:Scope}{dV kV doc pm cdv ct oc:Value}{an od:Option Addr}
  {osl:Array (Option Value)} {N ps:List Str} {sp:Sp} (lk:K.lookup f=some ⟨oc,od,.func (qB3 name qual params body scope dV kV doc pm an cdv ct),osl⟩) (hcd:qBv K cdv qual=true) (S:FnScope N ps scope)
  (len:∀vs H Q E,sp vs H Q E->vs.length=ps.length)
  (hbody:∀(A:qGo)(outer:List Env)(s:qGk)(H:Hp)(vs:List V)(Q:VK)(E:XK),Room k (A.deeper (envOfC qual scope s.heap.objs.size f cdv))->sp vs H Q E ->
   ∃t,PSs (cxOf CX P w K mg base N qual scope f cdv A outer s H E) body t/\t { nx:=fun _ H'=>Q .non H',rt:=Q } (start N vs) H) :
  FnOk P w K mg base CX (k+1) f (qB3 name qual params body scope dV kV doc pm an cdv ct) ps sp:=by
 refine⟨len,fun A outer s H args us vs Q E hr e0 hb r hsp=>?_⟩;have hl:=len _ _ _ _ hsp;have KX:K.In s.heap:=e0.mod.kin.keeps fun b o e=>(e0.bs b o e).1
 have lim:s.heap.NoLimit:=e0.mod.nolimit.keeps fun b o e=>(e0.bs b o e).1
 have hkind:∀y∈ps.zip us,scope.names.lookup y.1=some .local\/(scope.names.lookup y.1=some .cell/\((cellsFrom (s.heap.objs.size+1) scope.names []).lookup y.1).isSome=true):=fun⟨n,v⟩ hy=>by
  rcases S.par n (qCv hy).1 with q|q
  ·exact .inl q
  ·exact .inr ⟨q,qCe _ _ _ (.inl q)⟩
 refine codeAny_call_function hr.depth (KX _ _ lk) rfl S.co S.gen rfl (PySem.W.codeRec_of KX hcd) (hb _ _ _ _ ?_);refine wpAny_newFunctionEnv_cells S.kind hkind fun env he s1 x=>?_
 subst he;refine⟨lim.keeps x.toInCall.keep,codeAny_func ?_⟩;obtain⟨t,ht,hq⟩:=hbody A outer s H vs Q E (hr.deeper _) hsp;have I:Inv (cxOf CX P w K mg base N qual scope f cdv A outer s H E) [] (start N vs) H s1:=zNS S hr.hd e0 hl r x;refine wpAny_mono (ht [] s1 (start N vs) H _ I hq) (fun fl s' hs=>?_) fun e s' hs=>hs
 have fin:∀{σ':St}{H':Hp}{v:V}{u:Value},Inv (cxOf CX P w K mg base N qual scope f cdv A outer s H E) [] σ' H' s'->RelV v u->Q v H'->CE outer P w H s Q u s':=
  fun{σ' H' v u} J rv q=>⟨v,H',J.os,J.bare,J.base,J.hok,rv,q⟩
 cases fl with
 |ret u=>
  obtain⟨v,σ',H',J,rv,q⟩:=hs;exact fin J rv q
 |next=>
  obtain⟨σ',H',J,q⟩:=hs;exact fin (v:=V.non) (u:=qGx) J rfl q
 |brk=>
  obtain⟨_,_,_,q⟩:=hs;exact qA8 q
 |cont=>
  obtain⟨_,_,_,q⟩:=hs;exact qA8 q
section
variable{X:Cx}{x:Str}{p pos:Pos}{e:Expr}{es:List Expr}{t:TA}{id T:String}{r:List V->Hp->VK->Prop}
noncomputable def tCB(r:List V->Hp->VK->Prop)(t:TA):TE:=fun σ H Q=>t σ H fun vs H1=>r vs H1 Q
theorem zAN(hc:zCT X (.builtin id) r)(hg:Gl X x)(hm:X.mg x=none)(hv:qHb x=some (.builtin id))(ha:PA X (e::es) t)(hn:x≠"__name__":=by decide)(hdb:(x==("__debug__":Str))=false:=by decide)
  (he:starEach (e::es) X.env=(false,eval e X.env)::starEach es X.env:=by rfl) (hpl:(backTo pos (starEach es X.env)).any (·.1)=false:=by rfl):PE X (.Call (.Name x p) (e::es) [] pos) (tCB r t):=by
 intro pins s σ H Q I h;refine qHa (zF6 I hg hm hv ?_ hn hdb);exact qEs (thn (ha pos pins s σ H _ I h) fun us s1 ⟨vs,H1,I1,r1,q1⟩=>hc pins s1 σ H1 vs us Q I1 r1 q1) he hpl
theorem zEB(hc:zCT X (.type T) r)(hg:Gl X x)(hm:X.mg x=none)(hv:qHb x=some (.type T))(ha:PA X (e::es) t)(hn:x≠"__name__":=by decide)(hdb:(x==("__debug__":Str))=false:=by decide)
  (he:starEach (e::es) X.env=(false,eval e X.env)::starEach es X.env:=by rfl) (hpl:(backTo pos (starEach es X.env)).any (·.1)=false:=by rfl):PE X (.Call (.Name x p) (e::es) [] pos) (tCB r t):=by
 intro pins s σ H Q I h;refine qHa (zF6 I hg hm hv ?_ hn hdb);exact qB7 (thn (ha pos pins s σ H _ I h) fun us s1 ⟨vs,H1,I1,r1,q1⟩=>hc pins s1 σ H1 vs us Q I1 r1 q1) he hpl
end
end L2
namespace Mi
open PySem
end Mi
namespace Mi
end Mi
namespace PySem
open PyProof.Rows
end PySem
namespace Mi
open PySem
end Mi
namespace PySem
open Builtin Builtin.Str PySem.Spec
end PySem
namespace HT
open PySem PyProof.Rows
section
open PySem.SeqAt
open PySem.AutoSeq1 (wpAny_loadPart')
open PySem.MeetsSeq PySem.MeetsSeq2 PySem.MeetsSeq3
end
section
variable{prog:qGn}{w:World}{A:qGo}{E:Value->qGk->Prop}{s:qGk}
noncomputable def sIx(n d:Nat):Option Int->Nat
 |none=>d
 |some v=>if v<0 then(v+(n:Int)).toNat else min v.toNat n
end
end HT
namespace L2
open PySem PySem.Spec PyProof.Rows
abbrev TO:=St->Hp->(Option Int->Hp->Prop)->Prop
def PO(X:Cx)(e:Option Expr)(t:TO):Prop:=
 ∀(pins:List (Addr×Obj))(s:qGk)(σ:St)(H:Hp)(Q:Option Int->Hp->Prop),Inv X pins σ H s->t σ H Q ->
  wpAny (model X.prog X.w) X.A (evalPart e X.env) (fun u s'=>∃o H',Inv X pins σ H' s'/\IsPart u o/\Q o H') X.xe s
noncomputable def zMH:TO:=fun _ H Q=>Q none H
noncomputable def zUA(t:TE):TO:=fun σ H Q=>t σ H fun x H1=>∃i,x=.int i/\Q (some i) H1
section
variable{X:Cx}{e:Expr}{te:TE}{lo hi:Option Expr}{tl th:TO}{pos p2:Pos}
theorem zMZ:PO X none zMH:=by
 intro pins s σ H Q I h;rw[evalPart_none];exact wpAny_pure ⟨none,H,I,.none,h⟩
theorem zMY(h:PE X e te):PO X (some e) (zUA te):=by
 intro pins s σ H Q I hw;rw[evalPart_some];refine thn (h pins s σ H _ I hw) fun u s1 z0=>?_
 obtain⟨x,H1,I1,r1,q1⟩:=z0;obtain⟨i,rfl,q⟩:=q1;obtain⟨t,rfl⟩:=r1;exact⟨some i,H1,I1,.int i t,q⟩
def SlR(X:Cx)(r:V->Option Int->Option Int->Hp->VK->Prop):Prop:=
 ∀(pins:List (Addr×Obj))(s:qGk)(σ:St)(H:Hp)(x:V)(v vl vu:Value)(lo hi:Option Int)(sl:Addr)(Q:VK),Inv X pins σ H s->RelV x v->s.heap.IsSliceOf sl vl vu .none->IsPart vl lo->IsPart vu hi->r x lo hi H Q ->
  ∃T id,typeLookup (.type T) "__getitem__" = pure (some (.builtin id))/\s.TypeIs v T/\wpAny (model X.prog X.w) X.A (getItem v (.ref sl)) (EP X pins σ Q) X.xe s
noncomputable def tSl(r:V->Option Int->Option Int->Hp->VK->Prop)(te:TE)(tl th:TO):TE:=fun σ H Q=>te σ H fun x H1=>tl σ H1 fun l H2=>th σ H2 fun u H3=>r x l u H3 Q
theorem zKW{r:V->Option Int->Option Int->Hp->VK->Prop}(hr:SlR X r)(he:PE X e te)(hl:PO X lo tl)(hu:PO X hi th):PE X (.Subscript e (.Slice lo hi none p2) pos) (tSl r te tl th):=by
 intro pins s σ H Q I h;refine Subscript_ (thn (he pins s σ H _ I h) fun v s1 z0=>?_);obtain⟨x,H1,I1,r1,q1⟩:=z0;refine wpAny_Slice (thn (hl pins s1 σ H1 _ I1 q1) fun vl s2 ⟨l,H2,I2,pl,q2⟩=>thn (hu pins s2 σ H2 _ I2 q2) fun vu s3 ⟨u,H3,I3,pu,q3⟩=>?_);rw[evalPart_none];refine wpAny_pure ?_;have I4:Inv X pins σ H3 { s3 with heap:=s3.heap.push { cls:=.type "slice",data:=.fields #[vl,vu,.none] } }:=I3.kept (t':=s3.toks) fun b ob q=>qGl _ q
 obtain⟨T,id,hT,ht,hg⟩:=hr pins { s3 with heap:=s3.heap.push { cls:=.type "slice",data:=.fields #[vl,vu,.none] } } σ H3 x v vl vu l u s3.heap.objs.size Q I4 r1 (qJy ..) pl pu q3;show wpAny (model X.prog X.w) X.A (subscriptTail e (.Slice lo hi none p2) v (.ref s3.heap.objs.size)) (EP X pins σ Q) X.xe { s3 with heap:=s3.heap.push { cls:=.type "slice",data:=.fields #[vl,vu,.none] } };exact tail_any (ops:=[.ref s3.heap.objs.size,v]) ht hT hg (by with_unfolding_all rfl)
def cutV(xs:List V)(lo hi:Option Int):List V:=(xs.drop (HT.sIx xs.length 0 lo)).take (HT.sIx xs.length xs.length hi-HT.sIx xs.length 0 lo)
theorem zK7(xs:List V)(lo hi:Option Int):(cutV xs lo hi).length<=xs.length:=by
 unfold cutV;rw[qC5,qDk];omega
end
noncomputable def ixN(n:Nat)(i:Int):Option Nat:=if 0<=i then(if i<n then some i.toNat else none)else if -(n:Int)<=i then some (i+n).toNat else none
def atI{α:Type}(xs:List α)(i:Int):Option α:=(ixN xs.length i).bind fun j=>xs[j]?
theorem zNN{n:Nat}{i:Int}{j:Nat}(h:ixN n i=some j):seqIndex? i n=some j/\j<n/\-(n:Int)<=i/\i<n:=by
 unfold ixN at h;by_cases h0:0<=i
 ·rw[if_pos h0]at h
  by_cases h1:i<n
  ·rw[if_pos h1]at h;have e:i.toNat=j:=qAk h;exact⟨by rw[qJj h0 h1,e],by omega,by omega,h1⟩
  ·rw[if_neg h1]at h;cases h
 ·rw[if_neg h0]at h
  by_cases h1:-(n:Int)<=i
  ·rw[if_pos h1]at h;have e:(i+n).toNat=j:=qAk h;exact⟨by rw[qJb (by omega) h1,e],by omega,h1,by omega⟩
  ·rw[if_neg h1]at h;cases h
theorem zKF{α:Type}{xs:List α}{i:Int}{v:α}(h:atI xs i=some v):∃j,seqIndex? i xs.length=some j/\xs[j]?=some v/\j<xs.length/\-(xs.length:Int)<=i/\i<xs.length:=by
 unfold atI at h;cases e:ixN xs.length i with
 |none=>rw[e]at h;cases h
 |some j=>
  rw[e]at h;obtain⟨h1,h2,h3,h4⟩:=zNN e;exact⟨j,h1,h,h2,h3,h4⟩
def zTW(b:Expr):Prop:=∀o i,subscripted b false o i=operate [o,i] (getItem o i)
def IxR(X:Cx)(r:R2):Prop:=
 ∀(value slice:Expr)(pins:List (Addr×Obj))(s:qGk)(σ:St)(H:Hp)(x y:V)(v u:Value)(Q:VK),Inv X pins σ H s->RelV x v->RelV y u->r x y H Q ->
  subscripted slice false v u=operate [v,u] (getItem v u)->wpAny (model X.prog X.w) X.A (subscriptTail value slice v u) (EP X pins σ Q) X.xe s
def MtR(X:Cx)(id:String)(r:V->List V->Hp->VK->Prop):Prop:=
 ∀(pins:List (Addr×Obj))(s:qGk)(σ:St)(H:Hp)(x:V)(xs:List V)(v:Value)(us:List Value)(Q:VK),Inv X pins σ H s->RelV x v->Vals xs us->r x xs H Q ->
  wpAny (model X.prog X.w) X.A (call (.builtin id) (v::us)) (EP X pins σ Q) X.xe s
section
variable{X:Cx}{a b:Expr}{ta tb:TE}{pos:Pos}
theorem zBT{r:R2}(hr:IxR X r)(ha:PE X a ta)(hb:PE X b tb)(hs:zTW b):PE X (.Subscript a b pos) (tOp r ta tb):=by
 intro pins s σ H Q I h;exact Subscript_ (binT ha hb I h fun v u s2 x y H2 I2 rx ry q=>hr a b pins s2 σ H2 x y v u Q I2 rx ry q (hs _ _))
def rIxL(K:qA1):R2:=fun x y H Q=>∃p xs i v,x=.ref p/\y=.int i/\SqL K H p xs/\atI xs i=some v/\Q v H
def rIxT(K:qA1):R2:=fun x y H Q=>∃p xs i v,x=.ref p/\y=.int i/\SqT K H p xs/\atI xs i=some v/\Q v H
def rIxS:R2:=fun x y H Q=>∃z i c,x=.str z/\y=.int i/\z.length<=sizeLine/\atI z.cps.toList i=some c/\Q (.str ⟨#[c]⟩) H
theorem zTE:IxR X (rIxL X.K):=by
 intro value slice pins s σ H x y v u Q I rx ry h hs;obtain⟨p,xs,i,z,rfl,rfl,hq,he,q⟩:=h;cases rx;obtain⟨t,rfl⟩:=ry;obtain⟨its,r,pl,hz⟩:=I.list hq;obtain⟨j,h1,h2,h3,h4,h5⟩:=zKF he;obtain⟨w,ew,rw'⟩:=r.get h2;have hl:=r.length;have hn:=zG0;have fin:EP X pins σ Q w s:=⟨z,H,I,rw',q⟩;by_cases h0:0<=i
 ·have hj:i.toNat=j:=by
   rw[qJj h0 h5]at h1;exact qAk h1
  exact item_listR pl.isList h0 (by omega) (by rw[hj];simpa using ew) fin hs
 ·have hj:(i+(its.toArray.size:Int)).toNat=j:=by
   rw[qJb (by omega) h4]at h1;rw[qAg,<- hl];exact qAk h1
  exact qIa (x:=w) pl.isList.typeIs qJ6.lookup
   (wpAny_getItem_list_neg (Q:=fun r s'=>r=w/\EP X pins σ Q r s') pl.isList (by omega) (by rw[qAg]<;>omega) (by omega) (by rw[hj];simpa using ew) ⟨rfl,fin⟩) hs
theorem zVK:IxR X (rIxT X.K):=by
 intro value slice pins s σ H x y v u Q I rx ry h hs;obtain⟨p,xs,i,z,rfl,rfl,hq,he,q⟩:=h;cases rx;obtain⟨t,rfl⟩:=ry;obtain⟨its,r,pl,hz⟩:=I.tuple hq;obtain⟨j,h1,h2,h3,h4,h5⟩:=zKF he;obtain⟨w,ew,rw'⟩:=r.get h2;have hl:=r.length;have hn:=zG0;have fin:EP X pins σ Q w s:=⟨z,H,I,rw',q⟩;exact qIa (x:=w) pl.typeIs slot_tuple_getitem.lookup
  (getItem_tuple (j:=j) (Q:=fun r s'=>r=w/\EP X pins σ Q r s') pl (by omega) (by omega) (by rw[qAg,<- hl];exact h1) (by simpa using ew) ⟨rfl,fin⟩) hs
theorem zVM:IxR X rIxS:=by
 intro value slice pins s σ H x y v u Q I rx ry h hs;obtain⟨z,i,c,rfl,rfl,hz,he,q⟩:=h;obtain⟨t,rfl⟩:=rx;obtain⟨t',rfl⟩:=ry;obtain⟨j,h1,h2,h3,h4,h5⟩:=zKF he;have hl:z.cps.toList.length=z.length:=by simp[Str.length]
 rw[hl]at h1 h4 h5;have hn:=zG0;exact tail_any (typeIs_str s z t) slot_str_getitem.lookup (getItem_str (c:=c) (by
  have e1:decide (i < -(2 ^ 63:Int))=false:=decide_eq_false (by omega);have e2:decide (i>=2 ^ 63)=false:=decide_eq_false (by omega);rw[e1,e2,Bool.or_false]) (by rw[h1];simpa using h2) ⟨.str ⟨#[c]⟩,H,I.tok _,⟨_,rfl⟩,q⟩) hs
theorem zLY(its:List Value)(n j:Nat)(u:Value):qGw (·.setIfInBounds j u) { cls:=.type "list",data:=.seq its.toArray n }={ cls:=.type "list",data:=.seq (its.set j u).toArray n }:=by
 simp[qGw]
theorem Inv.lst{pins:List (Addr×Obj)}{σ:St}{H:Hp}{s:qGk}{p:Addr}{xs:List V}(I:Inv X pins σ H s)(h:H p=some (.lst xs)) :
  ∃(its:List Value)(n:Nat),Vals xs its/\s.heap.get? p=some { cls:=.type "list",data:=.seq its.toArray n }/\xs.length<=sizeLine:=by
 obtain⟨z,its,n,r,e⟩:=I.hok p _ h;exact⟨its,n,r,e,z⟩
theorem Inv.lstUpd{pins:List (Addr×Obj)}{σ:St}{H:Hp}{s:qGk}{p:Addr}{xs ys:List V}{its its':List Value}{n n':Nat}{f:Obj->Obj}(I:Inv X pins σ H s)(h:H p=some (.lst xs))
  (ho:s.heap.get? p=some { cls:=.type "list",data:=.seq its.toArray n }) (hf:f { cls:=.type "list",data:=.seq its.toArray n }={ cls:=.type "list",data:=.seq its'.toArray n' }) (r:Vals ys its') (hz:ys.length<=sizeLine) (t:Nat) :
  Inv X pins σ (upd H p (.lst ys)) { s with heap:=s.heap.update p f,toks:=t }:=by
 have e:(s.heap.update p f).get? p=some { cls:=.type "list",data:=.seq its'.toArray n' }:=by
  rw[qH5 f ho (by rw[hf]<;>rfl),hf]
 refine I.write (x:=p) (e:=p) (by rw[h];trivial) (.inl rfl) (fun b u hb q=>(qGu _ _ (qCo hb)).trans q) ⟨_,e⟩ ?_;exact⟨hz,its',n',r,e⟩
def zWY:V->V->V->Hp->(Hp->Prop)->Prop:=fun o i v H Q=>∃p xs k j,o=.ref p/\i=.int k/\H p=some (.lst xs)/\ixN xs.length k=some j/\Q (upd H p (.lst (xs.set j v)))
theorem zP5:PSet X zWY:=by
 intro pins s σ H o i v ov iv u Q I ro ri rv h;obtain⟨p,xs,k,j,rfl,rfl,hp,hj,q⟩:=h;cases ro;obtain⟨t,rfl⟩:=ri;obtain⟨its,n,r,ho,hz⟩:=I.lst hp;obtain⟨h1,h2,h3,h4⟩:=zNN hj;have hl:=r.length;have hn:=zG0;have I':Inv X pins σ (upd H p (.lst (xs.set j v))) { s with heap:=s.heap.update p (qGw (·.setIfInBounds j u)) }:=
  I.lstUpd hp ho (zLY its n j u) (r.set rv j) (by rw[qF5];exact hz) s.toks
 by_cases h0:0<=k
 ·have hk:k.toNat=j:=by
   rw[qJj h0 h4]at h1;exact qAk h1
  exact PySem.W.ki_setAt ho h0 (by omega) (by rw[qAg,<- hl];exact h4) (by rw[hk];exact⟨_,I',q⟩)
 ·have hk:(k+(its.toArray.size:Int)).toNat=j:=by
   rw[qJb (by omega) h3]at h1;rw[qAg,<- hl];exact qAk h1
  exact PySem.W.ki_setBack ho (by omega) (by rw[qAg,<- hl];exact h3) (by omega) (by rw[hk];exact⟨_,I',q⟩)
theorem zIE(lo hi:Option Int)(n:Nat):(sliceBounds lo hi none n).1=((HT.sIx n 0 lo:Nat):Int)/\(sliceBounds lo hi none n).2.1=((HT.sIx n n hi:Nat):Int)/\(sliceBounds lo hi none n).2.2=1:=by
 refine⟨?_,?_,rfl⟩
 ·cases lo with
  |none=>simp[sliceBounds,HT.sIx]
  |some i=>
   simp only[sliceBounds,HT.sIx,qEy,show(1:Int)>0 by decide,if_true]
   by_cases h:i<0
   ·simp only[h,if_true]<;>omega
   ·simp only[h,if_false]<;>omega
 ·cases hi with
  |none=>simp[sliceBounds,HT.sIx]
  |some i=>
   simp only[sliceBounds,HT.sIx,qEy,show(1:Int)>0 by decide,if_true]
   by_cases h:i<0
   ·simp only[h,if_true]<;>omega
   ·simp only[h,if_false]<;>omega
theorem zH8(its:List Value)(lo hi:Option Int):slicePick its.toArray lo hi none=((its.drop (HT.sIx its.length 0 lo)).take (HT.sIx its.length its.length hi-HT.sIx its.length 0 lo)).toArray:=by
 obtain⟨h1,h2,h3⟩:=zIE lo hi its.toArray.size;unfold slicePick;rw[h1,h2,h3];simp only[sliceRange_one,pick_run,qAg]<;>rfl
def rSlL(K:qA1):V->Option Int->Option Int->Hp->VK->Prop:=fun x lo hi H Q=>∃a xs,x=.ref a/\SqL K H a xs/\∀p,H p=none->Q (.ref p) (upd H p (.lst (cutV xs lo hi)))
theorem zS8:SlR X (rSlL X.K):=by
 intro pins s σ H x v vl vu lo hi sl Q I rx hs pl pu h;obtain⟨a,xs,rfl,hx,q⟩:=h;cases rx;obtain⟨its,r,ht,hz⟩:=I.list hx;have hlen:=r.length;refine⟨"list",_,qJ6.lookup,ht.isList.typeIs,?_⟩;refine wpAny_getItem_list_slice ht.isList hs pl pu .none (by simp) ?_ (by rw[qAg]<;>omega);rw[zH8,<- hlen];refine⟨.ref s.heap.objs.size,_,I.laid (t':=s.toks) (o:=.lst (cutV xs lo hi)) (fun b ob q=>qGl _ q) (qA9 _) ?_,rfl,q _ (I.hok.fresh (qA9 _))⟩;exact⟨qAi (zK7 xs lo hi) hz,_,0,(r.drop (HT.sIx xs.length 0 lo)).take (HT.sIx xs.length xs.length hi-HT.sIx xs.length 0 lo),qGs _ rfl⟩
noncomputable def zF0:V->Bool
 |.non=>true
 |.bl _=>true
 |.int _=>true
 |.str _=>true
 |_=>false
noncomputable def eqV:V->V->Bool
 |.non,.non=>true
 |.bl a,.bl b=>a==b
 |.bl a,.int b=>(if a then 1 else 0)==b
 |.int a,.bl b=>a==(if b then 1 else 0)
 |.int a,.int b=>a==b
 |.str a,.str b=>a==b
 |_,_=>false
theorem zRQ{A:qGo}{s:qGk}{y x:V}{u v:Value}(ry:RelV y u)(rx:RelV x v)(fy:zF0 y=true)(fx:zF0 x=true):qHu A s u v (eqV y x):=by
 cases y with
 |non=>
  cases ry;cases x with
  |non=>cases rx;exact qHv _
  |bl b=>cases rx;exact qIi b
  |int b=>obtain⟨t,rfl⟩:=rx;exact qIn b t
  |str b=>obtain⟨t,rfl⟩:=rx;exact qIo b t
  |_=>exact absurd (show false=true from fx) qAb
 |bl a=>
  cases ry;cases x with
  |non=>cases rx;exact qIj a
  |bl b=>cases rx;exact qIk a b
  |int b=>obtain⟨t,rfl⟩:=rx;exact qIp a b t
  |str b=>obtain⟨t,rfl⟩:=rx;exact qIq a b t
  |_=>exact absurd (show false=true from fx) qAb
 |int a=>
  obtain⟨t',rfl⟩:=ry;cases x with
  |non=>cases rx;exact qIr a t'
  |bl b=>cases rx;exact qIs a t' b
  |int b=>obtain⟨t,rfl⟩:=rx;exact SeqAt.EqAt.int_int a t' b t
  |str b=>obtain⟨t,rfl⟩:=rx;exact qHx a t' b t
  |_=>exact absurd (show false=true from fx) qAb
 |str a=>
  obtain⟨t',rfl⟩:=ry;cases x with
  |non=>cases rx;exact qIt a t'
  |bl b=>cases rx;exact qIu a t' b
  |int b=>obtain⟨t,rfl⟩:=rx;exact qHy a t' b t
  |str b=>obtain⟨t,rfl⟩:=rx;exact SeqAt.EqAt.str_str a t' b t
  |_=>exact absurd (show false=true from fx) qAb
 |_=>exact absurd (show false=true from fy) qAb
def eqU(x:V)(u:Value):Bool:=match u with
 |.none=>eqV .non x
 |.bool b=>eqV (.bl b) x
 |.int i _=>eqV (.int i) x
 |.str z _=>eqV (.str z) x
 |_=>false
theorem zRP{x y:V}{u:Value}(r:RelV y u)(f:zF0 y=true):eqU x u=eqV y x:=by
 cases y with
 |non=>cases r;rfl
 |bl b=>cases r;rfl
 |int i=>obtain⟨t,rfl⟩:=r;rfl
 |str z=>obtain⟨t,rfl⟩:=r;rfl
 |_=>exact absurd (show false=true from f) qAb
theorem zKG{x:V}:∀{xs:List V}{us:List Value},Vals xs us->xs.all zF0=true->us.any (eqU x)=xs.any fun y=>eqV y x
 |_,_,.nil,_=>rfl
 |y::xs,u::us,.cons r t,f=>by
  rw[qCb,qBb]at f;rw[qCs,qCs,zRP r f.1,zKG t f.2]
theorem zHO{A:qGo}{s:qGk}{x:V}{v:Value}(rx:RelV x v)(fx:zF0 x=true):∀{xs:List V}{us:List Value},Vals xs us->xs.all zF0=true->∀u∈us,qHu A s u v (eqU x u)
 |_,_,.nil,_=>fun u hu=>by cases hu
 |y::xs,u::us,.cons r t,f=>fun u' hu=>by
  rw[qCb,qBb]at f;rcases qAj.mp hu with rfl|hu
  ·rw[zRP r f.1];exact zRQ r rx f.1 fx
  ·exact zHO rx fx t f.2 u' hu
def inV(x:V)(xs:List V):Bool:=xs.any fun y=>eqV y x
def rIn(K:qA1)(neg:Bool):R2:=fun x y H Q=>∃p xs,y=.ref p/\(SqL K H p xs\/SqT K H p xs)/\zF0 x=true/\xs.all zF0=true/\Q (.bl (if neg then !inV x xs else inV x xs)) H
theorem zN8:OpR X (compareOp .In) (rIn X.K false):=by
 intro pins s σ H x y v u Q I rx ry h;obtain⟨p,xs,rfl,hq,fx,fs,q⟩:=h;cases ry;rcases hq with hq|hq
 ·obtain⟨its,r,pl,hz⟩:=I.list hq;refine SeqAt.in_listAt (eqU x) pl.isList (fun w hw=>zHO rx fx r fs w (by simpa using hw)) ⟨.bl _,H,I,rfl,?_⟩;rw[show its.toArray.any (eqU x)=its.any (eqU x) by simp,zKG r fs];exact q
 ·obtain⟨its,r,pl,hz⟩:=I.tuple hq;refine SeqAt.in_tupleAt (eqU x) pl (fun w hw=>zHO rx fx r fs w (by simpa using hw)) ⟨.bl _,H,I,rfl,?_⟩;rw[show its.toArray.any (eqU x)=its.any (eqU x) by simp,zKG r fs];exact q
theorem zJ8:zCT X (.builtin "len") (fun xs H Q=>∃p ys,xs=[.ref p]/\(SqL X.K H p ys\/SqT X.K H p ys)/\Q (.int ys.length) H):=by
 intro pins s σ H xs us Q I r h;obtain⟨p,ys,rfl,hq,q⟩:=h;obtain⟨u,rfl,rx⟩:=zGK r;cases rx;have hn:=zG0;rcases hq with hq|hq
 ·obtain⟨its,r',pl,hz⟩:=I.list hq;have hlen:=r'.length;exact Calls.call_len_list pl.isList (by simp only[qAg]<;>omega) ⟨.int ys.length,H,I.tok _,⟨s.toks+1,by rw[qAg,hlen]⟩,q⟩
 ·obtain⟨its,r',pl,hz⟩:=I.tuple hq;have hlen:=r'.length;exact len_tuple pl (by simp only[qAg]<;>omega) ⟨.int ys.length,H,I.tok _,⟨s.toks+1,by rw[qAg,hlen]⟩,q⟩
theorem zJ7:zCT X (.builtin "len") (fun xs H Q=>∃z,xs=[.str z]/\z.length<=sizeLine/\Q (.int z.length) H):=by
 intro pins s σ H xs us Q I r h;obtain⟨z,rfl,hz,q⟩:=h;obtain⟨u,rfl,t,rfl⟩:=zGK r;have hn:=zG0;exact len_str (by omega) ⟨.int z.length,H,I.tok _,⟨_,rfl⟩,q⟩
theorem zJ6:zCT X (.type "list") (fun xs H Q=>∃p ys,xs=[.ref p]/\(SqL X.K H p ys\/SqT X.K H p ys)/\∀l,H l=none->Q (.ref l) (upd H l (.lst ys))):=by
 intro pins s σ H xs us Q I r h;obtain⟨p,ys,rfl,hq,q⟩:=h;obtain⟨u,rfl,rx⟩:=zGK r;cases rx;have fin:∀(its:List Value),Vals ys its->ys.length<=sizeLine->∀(h':Heap)(c':Nat),(∀b o',s.heap.get? b=some o'->h'.get? b=some o') ->
   h'.get? s.heap.objs.size=some { cls:=.type "list",dict:=none,data:=.seq its.toArray c',slots:=#[] }->EP X pins σ Q (.ref s.heap.objs.size) { s with heap:=h' }:=fun its r' hz h' c' kp e=>
  ⟨.ref s.heap.objs.size,_,I.laid (t':=s.toks) kp (qA9 _) (show ObjOk X.prog X.w _ h' _ (.lst ys) from⟨hz,its,c',r',e⟩),rfl,q _ (I.hok.fresh (qA9 _))⟩
 rcases hq with hq|hq
 ·obtain⟨its,r',pl,hz⟩:=I.list hq;have hlen:=r'.length;obtain⟨o,ho,hc,n,hd⟩:=pl.isList;exact call_list_seq p (.inl rfl) ho hc hd (fun h' c' kp e=>fin its r' hz h' c' kp e) (by simp only[qAg]<;>omega)
 ·obtain⟨its,r',pl,hz⟩:=I.tuple hq;have hlen:=r'.length;obtain⟨o,ho,hc,n,hd⟩:=pl;exact call_list_seq p (.inr rfl) ho hc hd (fun h' c' kp e=>fin its r' hz h' c' kp e) (by simp only[qAg]<;>omega)
def tyV(K:qA1)(T:String)(x:V)(H:Hp):Prop:=match x with
 |.str _=>T = "str"
 |.int _=>T = "int"
 |.ref p=>(T = "list"/\∃xs,SqL K H p xs)\/(T = "tuple"/\∃o,K.lookup p=some o/\o.cls=.type "tuple"/\o.dict=none) \/
   (T = "dict"/\((∃kvs,H p=some (.dK kvs))\/∃T e0 kvs,H p=some (.dT T e0 kvs)))\/(T = "set"/\∃S n,H p=some (.set S n))
 |_=>False
theorem zU7{pins:List (Addr×Obj)}{σ:St}{H:Hp}{s:qGk}{T:String}{x:V}{v:Value}(I:Inv X pins σ H s)(r:RelV x v)(ty:tyV X.K T x H) :
  s.TypeIs v T/\∀a,v=.ref a->∃ob,s.heap.get? a=some ob/\ob.dict=none:=by
 cases x with
 |str z=>
  obtain⟨t,rfl⟩:=r;cases(show T = "str" from ty)
  exact⟨typeIs_str s z t,fun _ e=>nomatch e⟩
 |int i=>
  obtain⟨t,rfl⟩:=r;cases(show T = "int" from ty)
  exact⟨typeIs_int s i t,fun _ e=>nomatch e⟩
 |ref p=>
  cases r;rcases ty with⟨rfl,xs,hq⟩|⟨rfl,o,hk,hc,hd⟩|⟨rfl,hk⟩|⟨rfl,S,n,hk⟩
  ·obtain⟨its,_,pl,_⟩:=I.list hq;refine⟨pl.isList.typeIs,fun a e=>?_⟩;cases e;obtain⟨o,n,e,c,hd,_⟩:=pl;exact⟨o,e,hd⟩
  ·refine⟨⟨o,I.kIn p o hk,hc⟩,fun a e=>?_⟩;cases e;exact⟨o,I.kIn _ o hk,hd⟩
  ·have z:∃o,s.heap.get? p=some o/\o.ExactDict:=by
    rcases hk with⟨kvs,hk⟩|⟨_,_,kvs,hk⟩
    ·obtain⟨_,_,_,_,o,_,_,e,ex,_⟩:=I.hok p _ hk;exact⟨o,e,ex⟩
    ·obtain⟨_,_,_,_,o,_,_,e,ex,_⟩:=I.hok p _ hk;exact⟨o,e,ex⟩
   obtain⟨o,e,ex⟩:=z;refine⟨⟨o,e,ex.1⟩,fun a e2=>?_⟩;cases e2;exact⟨o,e,ex.2.1⟩
  ·obtain⟨o,_,_,_,e,ex,_⟩:=I.hok p _ hk;refine⟨⟨o,e,ex.1⟩,fun a e2=>?_⟩;cases e2;exact⟨o,e,ex.2.1⟩
 |_=>exact qA8 ty
variable{o e:Expr}{es:List Expr}{to:TE}{t:TA}{name:Str}{apos cpos:Pos}{T id:String}{r:V->List V->Hp->VK->Prop}
end
def MtM(X:Cx)(id:String)(r:V->List V->Hp->VK->Prop):Prop:=
 ∀(pins:List (Addr×Obj))(s:qGk)(σ:St)(H:Hp)(x:V)(xs:List V)(v:Value)(us:List Value)(Q:VK),Inv X pins σ H s->RelV x v->Vals xs us->r x xs H Q ->
  wpAny (model X.prog X.w) X.A (call (.builtin id) (v::us)) (EP X pins σ Q) X.xe s
theorem Vals.one:∀{x:V}{us:List Value},Vals [x] us->∃u,us=[u]/\RelV x u
 |_,_,.cons r .nil=>⟨_,rfl,r⟩
section
variable{X:Cx}{pins:List (Addr×Obj)}{σ:St}{H:Hp}{s:qGk}{l b:Addr}{xs ys zs:List V}
theorem Inv.lset{its its':List Value}{n:Nat}{f:Array Value->Array Value}{t':Nat}(I:Inv X pins σ H s)(hH:H l=some (.lst xs))
  (e:s.heap.get? l=some { cls:=.type "list",data:=.seq its.toArray n }) (hf:f its.toArray=its'.toArray) (hv:Vals ys its') (hz:ys.length<=sizeLine) :
  Inv X pins σ (upd H l (.lst ys)) { s with heap:=s.heap.update l (qGw f),toks:=t' }:=by
 have q:=PySem.IsL.update e f;rw[hf]at q;refine I.write (x:=l) (e:=l) (by rw[hH];exact trivial) (.inl rfl) (fun b' u hb hu=>(qGu s.heap (qGw f) (qCo hb)).trans hu) ⟨_,q⟩ ?_;exact⟨hz,its',_,hv,q⟩
theorem Inv.lnew{its:List Value}{t':Nat}(I:Inv X pins σ H s)(hv:Vals ys its)(hz:ys.length<=sizeLine) :
  Inv X pins σ (upd H s.heap.objs.size (.lst ys)) { s with heap:=s.heap.push { cls:=.type "list",data:=.seq its.toArray },toks:=t' }:=
 I.laid (fun _ _ q=>qGl _ q) (qA9 _) ⟨hz,its,0,hv,qGs _ rfl⟩
theorem Inv.fresh(I:Inv X pins σ H s):H s.heap.objs.size=none:=I.hok.fresh (qA9 _)
theorem Inv.lstM(I:Inv X pins σ H s)(hH:H l=some (.lst xs)):xs.length<=sizeLine/\∃(its:List Value)(n:Nat),Vals xs its/\xs.length=its.length/\s.heap.get? l=some { cls:=.type "list",data:=.seq its.toArray n }:=by
 obtain⟨z,its,n,r,e⟩:=I.hok l _ hH;exact⟨z,its,n,r,r.length,e⟩
end
section
variable{X:Cx}
def zSO:V->List V->Hp->VK->Prop:=fun x vs H Q=>∃l xs y,x=.ref l/\vs=[y]/\H l=some (.lst xs)/\xs.length<sizeLine/\Q .non (upd H l (.lst (xs++[y])))
theorem zND:MtM X "list.append" zSO:=by
 intro pins s σ H x vs v us Q I rx rv h;obtain⟨l,xs,y,rfl,rfl,hH,hz,q⟩:=h;cases rx;obtain⟨u,rfl,ru⟩:=rv.one;obtain⟨z,its,n,r,hl,e⟩:=I.lstM hH;refine call_meets F.slot_list_append ⟨_,e,rfl⟩ F.entry_list_append (F.args_list_append_2 _ _) (PySem.list_append l its.toArray n u (by rw[qAg];omega)) ⟨e,?_⟩;refine⟨.non,_,I.lset (its':=its++[u]) hH e (by simp) (r.append (.cons ru .nil)) ?_,rfl,q⟩;rw[qB0,qDw];omega
def rCat:R2:=fun x y H Q=>∃l b xs zs,x=.ref l/\y=.ref b/\H l=some (.lst xs)/\H b=some (.lst zs)/\xs.length+zs.length<=sizeLine/\∀p,H p=none->Q (.ref p) (upd H p (.lst (xs++zs)))
theorem zVB:OpR X (binaryOp .Add) rCat:=by
 intro pins s σ H x y v u Q I rx ry h;obtain⟨l,b,xs,zs,rfl,rfl,hH,hB,hz,q⟩:=h;cases rx;cases ry;obtain⟨z,its,n,r,hl,e⟩:=I.lstM hH;obtain⟨z2,its2,n2,r2,hl2,e2⟩:=I.lstM hB;refine PySem.P.add_list e e2 ?_ (by rw[qAg,qAg];omega);have ea:its.toArray++its2.toArray=(its++its2).toArray:=by simp
 rw[ea];exact⟨.ref _,_,I.lnew (t':=s.toks) (r.append r2) (by rw[qB0];omega),rfl,q _ I.fresh⟩
end
section
variable{prog:qGn}{w:World}{A:qGo}{E:Value->qGk->Prop}{s:qGk}
end
section
variable{X:Cx}
end
section
variable{κ:Type}[DecidableEq κ]
noncomputable def zW2(kvs:List (κ×V))(k:κ):List (κ×V):=kvs.filter fun kv=>decide (kv.1≠k)
theorem KV.drop{kvs:List (κ×V)}{vs:List (κ×Value)}(r:KV kvs vs)(k:κ):KV (zW2 kvs k) (without vs k):=by
 unfold KV at r ⊢;unfold zW2 without;induction r with
 |nil=>exact .nil
 |@cons p q ps qs h t ih=>
  obtain⟨h1,h2⟩:=h;rw[qCp,qCp];by_cases e:p.1=k
  ·have a:¬decide (p.1≠k)=true:=by simp[e]
   have b:¬decide (q.1≠k)=true:=by simp[h1.symm.trans e]
   rw[if_neg a,if_neg b];exact ih
  ·have e':¬q.1=k:=fun z=>e (h1.trans z)
   have a:decide (p.1≠k)=true:=by simp[e]
   have b:decide (q.1≠k)=true:=by simp[e']
   rw[if_pos a,if_pos b];exact .cons ⟨h1,h2⟩ ih
end
section
variable{P:qGn}{w:World}{H:Hp}{h:Heap}{a:Addr}
end
section
variable{X:Cx}{pins:List (Addr×Obj)}{σ:St}{H:Hp}{s:qGk}{a:Addr}{y v:V}{u r:Value}{o:Option V}{A:qGo}{E:Value->qGk->Prop}
end
section
variable{X:Cx}{pins:List (Addr×Obj)}{σ:St}{H:Hp}{s:qGk}{a:Addr}{kvs:List (Key×V)}{k:Key}{u:Value}{A:qGo}{E:Value->qGk->Prop}
end
section
variable{X:Cx}{o i e value:Expr}{pos pos' tpos:Pos}{td ty tv:TE}
end
section
variable{X:Cx}{pos:Pos}
end
section
variable{X:Cx}{pins:List (Addr×Obj)}{σ:St}{H:Hp}{s:qGk}{a:Addr}{y d:V}{u r:Value}{o:Option V}{A:qGo}{E:Value->qGk->Prop}
end
section
variable{X:Cx}{o e f:Expr}{apos cpos:Pos}{td ty tx:TE}
end
section
variable{X:Cx}{pins:List (Addr×Obj)}{σ:St}{H:Hp}{s:qGk}{a:Addr}{kvs:List (Key×V)}{A:qGo}{E:Value->qGk->Prop}
end
section
variable{X:Cx}{pins:List (Addr×Obj)}{σ:St}{H:Hp}{s:qGk}{a:Addr}{y:V}{u:Value}{A:qGo}{E:Value->qGk->Prop}
end
end L2
namespace Att
open PySem PySem.W PySem.Calls PyProof.Rows
theorem zG5{P:Params}{h:Heap}:∀(ns:List Int)(vs:List Value),WellAll P h vs (ns.map qJk)->qJs vs ns:=by
 intro ns;induction ns with
 |nil=>
  intro vs w;rw[List.map_nil]at w;cases w;exact .nil
 |cons n ns ih=>
  intro vs w;rw[qAn]at w;cases w with
  |cons a b=>
   cases a;exact .cons _ _ (ih _ b)
theorem zML{l:OpenLaw}{n:Nat}(hn:l.most=some n){P:Params}{h:Heap}{args:List WData}{vals:List Value}
  (hpre:l.row.toRowW.claim.pre args=true) (hwl:WellAll P h vals args) :
  ∃a vs ns,vals=[qGp a]/\args=[WData.list (ns.map qJk)]/\h.get? a=some { cls:=.type "list",data:=.seq vs.toArray }/\qJs vs ns/\ns.length<=n:=by
 have hsh:WShape.hasAll [] args [.list .int]=true:=(pre_splitW hpre).1;have hc:l.pre.holds [] { args:=args }=true:=(pre_splitW hpre).2;obtain⟨d,r,rfl,h1,h2⟩:=hasAllW_cons hsh;obtain rfl:=hasAllW_nil h2;obtain⟨xs,rfl,h3⟩:=hasW_list h1;obtain⟨ns,rfl⟩:=items_int h3;have hlen:ns.length<=n:=by
  unfold OpenLaw.pre at hc;have h4:(WTm.not (.lt (.lit (.int (n:Int))) (.len (.arg 0)))).holds [] { args:=[.list (ns.map .int)] }=true:=by
   have h4:=(holds_andW hc).1;rw[hn]at h4;exact h4
  have h5:=condW_of h4 (w_not (w_lt w_lit (w_len_list (w_arg rfl))));rw[qAl]at h5;refine Nat.le_of_not_lt fun q=>?_
  have q':(n:Int)<((ns.length:Nat):Int):=by omega
  first
   |(rw[decide_eq_true q']at h5;exact absurd h5 (by decide))
   |(simp at h5;omega)
 cases hwl with
 |cons w1 w2=>
  cases w2;cases w1 with
  |list ho hall=>exact⟨_,_,ns,rfl,rfl,ho,zG5 ns _ hall,hlen⟩
theorem zMX(l:OpenLaw)(args:List WData):l.row.toRowW.claim.post args (.bool true) args=true:=
 postW_of (r:=l.row.toRowW) (X:=(true==true))
  (show qJz [] (.bool true) .bool=true by first|rfl|decide|simp[qJz,WShape.arms,WShape.armsAll])
  (show(WTm.eq .res (.lit (.bool true))).value [] { args:=args,res:=some (.bool true),after:=args }=some (.bool (true==true)) from w_eq_bool (w_res rfl) w_lit) rfl
section
variable{prog:qGn}{w:World}{A:qGo}{E:Value->qGk->Prop}{s:qGk}{K:Frag}
end
end Att
namespace L2
open PySem PySem.Spec PyProof.Rows
theorem zIA:∀{vs:List Value}{ns:List Int},qJs vs ns->Vals (ns.map V.int) vs
 |_,_,.nil=>.nil
 |_,_,.cons n t h=>.cons ⟨t,rfl⟩ (zIA h)
abbrev KOf{K:qA1}{h:Heap}(_:K.In h):qA1:=K
noncomputable def zC3(s:Stmt):Arguments:=match s with
 |.FunctionDef _ a _ _ _ _ _ _ _ _=>a
 |_=>{ posonlyargs:=[],args:=[],vararg:=none,kwonlyargs:=[],kw_defaults:=[],kwarg:=none,defaults:=[] }
noncomputable def zBE(s:Stmt):List Stmt:=match s with
 |.FunctionDef _ _ b _ _ _ _ _ _ _=>b
 |_=>[]
noncomputable def zAB(s:Stmt):Scope:=match s with
 |.FunctionDef _ _ _ _ _ _ sc _ _ _=>sc
 |_=>{ kind:=.function,names:=[],isGenerator:=false,isCoroutine:=false }
abbrev CX0:CXT:=fun _ _ _ _ _ _=>False
abbrev E0:XK:=fun _ _ _=>False
theorem zX0{X:Cx}:zLD CX0 X E0:=fun _ _ _ _ _ _ _ h=>h.elim
structure Fun(K:qA1)(x qual:Str)(st:Stmt)(f:Addr)(fd:qH2):Prop where
 ex:∃(oc:Value)(od:Option Addr)(kV doc pm:Value)(an:Option Addr)(cdv ct:Value)(osl:Array (Option Value)),
  fd=qB3 x qual (zC3 st) (zBE st) (zAB st) .none kV doc pm an cdv ct/\K.lookup f=some ⟨oc,od,.func fd,osl⟩/\qBv K cdv qual=true
 kp:qB1 K (.ref f)=true
section
variable{P:qGn}{w:World}{K:qA1}{mg:Str->Option Value}{base:Heap}
theorem Fun.ok{x qual:Str}{st:Stmt}{f:Addr}{fd:qH2}{N ps:List Str}{k:Nat}{sp:Sp}(F:Fun K x qual st f fd)(S:FnScope N ps (zAB st))(len:∀vs H Q E,sp vs H Q E->vs.length=ps.length)
  (hbody:∀(cdv:Value)(A:qGo)(outer:List Env)(s:qGk)(H:Hp)(vs:List V)(Q:VK)(E:XK),Room k (A.deeper (envOfC qual (zAB st) s.heap.objs.size f cdv))->sp vs H Q E ->
   ∃t,PSs (cxOf CX0 P w K mg base N qual (zAB st) f cdv A outer s H E).nox (zBE st) t/\t { nx:=fun _ H'=>Q .non H',rt:=Q } (start N vs) H):FnOk P w K mg base CX0 (k+1) f fd ps sp:=by
 obtain⟨oc,od,kV,doc,pm,an,cdv,ct,osl,rfl,lk,hcd⟩:=F.ex;refine zVV lk hcd S len fun A outer s H vs Q E hr hsp=>?_
 obtain⟨t,h,q⟩:=hbody cdv A outer s H vs Q E hr hsp;exact⟨t,h.nox,q⟩
theorem Fun.binds{x qual:Str}{st:Stmt}{f:Addr}{fd:qH2}{ps:List Str}(F:Fun K x qual st f fd)
  (h:∀(kV doc pm:Value)(an:Option Addr)(cdv ct:Value)(us:List Value),us.length=ps.length->qJ1 (qB3 x qual (zC3 st) (zBE st) (zAB st) .none kV doc pm an cdv ct) ⟨us,[]⟩=pure (ps.zip us)):Binds K fd ps []:=by
 obtain⟨oc,od,kV,doc,pm,an,cdv,ct,osl,rfl,lk,hcd⟩:=F.ex;exact .all (h kV doc pm an cdv ct)
theorem zRK{x qual:Str}{st:Stmt}{f:Addr}{oc:Value}{od an:Option Addr}{osl:Array (Option Value)}{kV doc pm cdv ct:Value}(l:K.lookup f=some ⟨oc,od,.func (qB3 x qual (zC3 st) (zBE st) (zAB st) .none kV doc pm an cdv ct),osl⟩)
  (c:qBv K cdv qual=true) (k:qB1 K (.ref f)=true):Fun K x qual st f (qB3 x qual (zC3 st) (zBE st) (zAB st) .none kV doc pm an cdv ct):=⟨⟨oc,od,kV,doc,pm,an,cdv,ct,osl,rfl,l,c⟩,k⟩
end
section
variable{X:Cx}
end
def Same(H H':Hp):Prop:=∀b o,H b=some o->H' b=some o
theorem Same.refl(H:Hp):Same H H:=fun _ _ h=>h
theorem Same.trans{H H1 H2:Hp}(a:Same H H1)(b:Same H1 H2):Same H H2:=fun c o h=>b c o (a c o h)
theorem Same.free{H H':Hp}(e:Same H H'){l:Addr}(h:H' l=qE9):H l=qE9:=by
 cases q:H l with
 |none=>rfl
 |some o=>
  rw[e l o q]at h;cases h
theorem Same.seq{K:qA1}{H H':Hp}{a:Addr}{xs:List V}(e:Same H H')(h:SqL K H a xs):SqL K H' a xs:=by
 rcases h with(h|⟨o,h⟩)|h
 ·exact .inl (.inl (e _ _ h))
 ·exact .inl (.inr ⟨o,e _ _ h⟩)
 ·exact .inr h
section
variable{κ:Type}[DecidableEq κ]
end
theorem asN{a b:Nat}(h:a<b):a<b:=h
theorem asL{a b:Nat}(h:a<=b):a<=b:=h
theorem asE{a b:Nat}(h:a=b):a=b:=h
noncomputable def clos(cells:List (Str×Addr)):List (Str×qHd)->List (Str×Addr)->List (Str×Addr)
 |[],acc=>acc
 |(n,k)::r,acc=>if k==.free then clos cells r ((n,(cells.lookup n).getD 0)::acc)else clos cells r acc
theorem zDN(cells:List (Str×Addr)):∀(names:List (Str×qHd))(acc:List (Str×Addr)),clos cells names acc=clos cells names []++acc
 |[],_=>rfl
 |(n,k)::r,acc=>by
  unfold clos;split
  ·rw[zDN cells r (_::acc),zDN cells r [_],qCg];rfl
  ·exact zDN cells r acc
theorem zFK{cells:List (Str×Addr)}{x:Str}{c:Addr}:∀{names:List (Str×qHd)},(x,c)∈clos cells names []->(x,qGq)∈names/\c=(cells.lookup x).getD 0
 |[],h=>by simp[clos]at h
 |(n,k)::r,h=>by
  unfold clos at h;split at h
  ·rename_i hk
   rw[zDN]at h;rcases qB4.mp h with h|h
   ·obtain⟨h1,h2⟩:=zFK h;exact⟨qAr _ h1,h2⟩
   ·have e:=qD3.mp h
    injection e with e1 e2
    subst e1;have hk':k=.free:=by simpa using hk
    subst hk';exact⟨qBj,e2⟩
  ·obtain⟨h1,h2⟩:=zFK h;exact⟨qAr _ h1,h2⟩
theorem zHZ{cells:List (Str×Addr)}{x:Str}:∀{names:List (Str×qHd)},(x,qGq)∈names->(x,(cells.lookup x).getD 0)∈clos cells names []
 |[],h=>by simp at h
 |(n,k)::r,h=>by
  unfold clos;rcases qAj.mp h with e|h
  ·injection e with e1 e2
   subst e1;subst e2;rw[if_pos (by rfl),zDN];exact qAp _ (by simp)
  ·split
   ·rw[zDN];exact qC3 _ (zHZ h)
   ·exact zHZ h
theorem zBN:∀(names:List (Str×qHd))(n:Nat)(acc:List (Str×Addr)),cellsFrom n names acc=cellsFrom n names []++acc
 |[],_,_=>rfl
 |(x,k)::r,n,acc=>by
  unfold cellsFrom;split
  ·rw[zBN r (n+1) (_::acc),zBN r (n+1) [_],qCg];rfl
  ·exact zBN r n acc
theorem zCB{x:Str}{c:Addr}:∀{names:List (Str×qHd)}{n:Nat},(x,c)∈cellsFrom n names []->(x,qH6)∈names
 |[],_,h=>by simp[cellsFrom]at h
 |(y,k)::r,n,h=>by
  unfold cellsFrom at h;split at h
  ·rename_i hk
   rw[zBN]at h;rcases qB4.mp h with h|h
   ·exact qAr _ (zCB h)
   ·have e:=qD3.mp h
    injection e with e1 e2
    subst e1;have hk':k=.cell:=by simpa using hk
    subst hk';exact qBj
  ·exact qAr _ (zCB h)
theorem zC2{α:Type}{x:Str}{a:α}:∀{l:List (Str×α)},(l.map (·.1)).Nodup->(x,a)∈l->l.lookup x=some a
 |[],_,h=>by simp at h
 |(y,b)::r,nd,h=>by
  have nd':(y::r.map (·.1)).Nodup:=nd;obtain⟨h1,h2⟩:=qCa.mp nd';rcases qAj.mp h with e|hm
  ·injection e with e1 e2
   subst e1;subst e2;rw[qBc,beq_self_eq_true]
  ·have hne:(x==y)=false:=by
    rw[beq_eq_false_iff_ne]
    rintro rfl
    exact h1 (qAq.mpr ⟨(x,a),hm,rfl⟩)
   rw[qBc,hne];exact zC2 h2 hm
theorem zDT{α:Type}{x:Str}:∀{l:List (Str×α)},(∀a,(x,a)∉l)->l.lookup x=none
 |[],_=>rfl
 |(y,b)::r,h=>by
  have hne:(x==y)=false:=by
   rw[beq_eq_false_iff_ne]
   rintro rfl
   exact h b qBj
  rw[qBc,hne];exact zDT fun a m=>h a (qAr _ m)
theorem zDS{α:Type}{x:Str}{a:α}:∀{l:List (Str×α)},(x,a)∈l->∃b,l.lookup x=some b
 |[],h=>by simp at h
 |(y,b)::r,h=>by
  rw[qBc];cases e:x==y with
  |true=>exact⟨b,rfl⟩
  |false=>
   rcases qAj.mp h with q|q
   ·injection q with q1 _
    subst q1;rw[beq_self_eq_true]at e;cases e
   ·exact zDS q
theorem zGV{α:Type}{x:Str}:∀(l k:List (Str×α)),(l++k).lookup x=(l.lookup x).or (k.lookup x)
 |[],k=>by simp
 |(y,b)::r,k=>by
  show qF6 x ((y,b)::(r++k))=_;rw[qBc,qBc];cases x==y with
  |true=>rfl
  |false=>exact zGV r k
def zWG(sc:Scope)(env:Env):Prop:=∀x,(x,qGq)∈sc.names->env.kindOf x=some .cell\/env.kindOf x=some .free
theorem zEP{sc:Scope}{env:Env}(h:∀x,(x,qGq)∈sc.names->∃c,env.cells.lookup x=some c):closureFor sc env=pure (clos env.cells sc.names []):=by
 have go:∀(names:List (Str×qHd))(acc:List (Str×Addr)),(∀x,(x,qGq)∈names->∃c,env.cells.lookup x=some c) ->
   (forIn names acc fun(x:Str×qHd)(cs:List (Str×Addr))=>(match x with|(name,kind)=>if(kind==qGq)=true then(do let c <- cellOf env name;pure (qBy ((name,c)::cs)))else pure (qBy cs):Sem (ForInStep (List (Str×Addr)))))=pure (clos env.cells names acc):=by
  intro names;induction names with
  |nil=>intro acc _;rfl
  |cons p r ih=>
   intro acc hn;obtain⟨n,k⟩:=p;have hr:∀x,(x,qGq)∈r->∃c,env.cells.lookup x=some c:=fun x hx=>hn x (qAr _ hx)
   rw[qCw];unfold clos;by_cases hk:(k==qGq)=true
   ·have hk':k=.free:=by simpa using hk
    subst hk';obtain⟨c,hc⟩:=hn n qBj;have e:cellOf env n=pure c:=by unfold cellOf;rw[hc]
    rw[if_pos (by rfl)];simp only[if_pos (show(qGq==qGq)=true from rfl),e,hc,qDl,pure_bind];exact ih _ hr
   ·rw[if_neg hk];simp only[if_neg hk,pure_bind];exact ih _ hr
 unfold closureFor;have q:=go sc.names [] h
 first
  |(rw[show(forIn sc.names ([]:List (Str×Addr)) _:Sem (List (Str×Addr)))=_ from q];rfl)
  |(refine(congrArg (fun z=>z >>= pure) q).trans ?_;rfl)
  |(simp only[q];rfl)
  |exact q
def zDM(sc:Scope)(C:Addr)(env:Env):Env:=
 { scope:=relabel sc env,locals:=C,globals:=env.globals,cells:=cellsFrom (C+1) sc.names (clos env.cells sc.names []),qual:=env.qual,func:=none,code:=env.code,frame:=env.frame,builtins:=env.builtins }
theorem zE5{M:Model}{A:qGo}{E:Value->qGk->Prop}{s:qGk}{sc:Scope}{env:Env}{cl:List (Str×Addr)}{Q:Env->qGk->Prop}
  (hQ:Q { scope:=sc,locals:=s.heap.objs.size,globals:=env.globals,cells:=cellsFrom (s.heap.objs.size+1) sc.names cl,qual:=env.qual,func:=none,code:=env.code,frame:=env.frame,builtins:=env.builtins }
   { s with heap:=pushCells (s.heap.push { cls:=.type "dict",data:=.dict #[] }) sc.names }) :
  wpAny M A (newFunctionEnv sc env.globals cl [] env.qual none .none (some env)) Q E s:=by
 simp only[newFunctionEnv,qEd,if_true];refine wpAny_bind (wpAny_alloc ?_);refine wpAny_bind (wpAny_layCells _ (fun name kind cells=>by cases hkc:kind==qH6<;>simp[hkc]) _ _ _ _ ?_);rw[show({ s with heap:=s.heap.push { cls:=.type "dict",data:=.dict #[] } }:qGk).heap.objs.size=s.heap.objs.size+1 from qH8 ..];refine wpAny_bind ?_;rw[qD6];exact wpAny_pure (wpAny_pure hQ)
def zCQ(X:Cx)(N':List Str)(sc:Scope)(C:Addr)(s:qGk)(H:Hp)(fp:List Addr):Cx:=
 { X with N:=N',s₀:=s,H₀:=H,env:=zDM sc C X.env,outer:=X.stack,stack:=X.stack,ex:=fp,fn:=fun x=>sc.names.lookup x==some .cell,pn:=[],xe:=fun _ _=>False }
def PTs(X:Cx)(ifs:List Expr)(t:TT):Prop:=
 ∀(pins:List (Addr×Obj))(s:qGk)(σ:St)(H:Hp)(Q:Bool->Hp->Prop),Inv X pins σ H s->t σ H Q ->
  wpAny (model X.prog X.w) X.A (forIn ifs true fun c r=>if r=true then do let ok <- isTrue c X.env (eval c X.env);pure (qBy ok)else pure (qBy r)) (TP X pins σ Q) X.xe s
noncomputable def tYes:TT:=fun _ H Q=>Q true H
theorem zB0{X:Cx}:PTs X [] tYes:=fun _ _ _ H _ I h=>wpAny_tests_nil ⟨H,I,h⟩
theorem zEX{X:Cx}{c:Expr}{t:TT}(h:PT X c t):PTs X [c] t:=fun pins s σ H Q I q=>wpAny_tests_one (h pins s σ H Q I q)
structure CompNames(N N':List Str)(k:Nat)(sc:Scope)(env:Env):Prop where
 kind:sc.kind=.function
 nd:(sc.names.map (·.1)).Nodup
 len:N'.length=N.length+k
 old:∀(i:Nat)(x:Str),N'[i]?=some x->i<N.length->(x,qGq)∈sc.names/\N[i]?=some x\/sc.names.lookup x=none
 free:zWG sc env
theorem zBR{sc:Scope}{env:Env}{x:Str}{k:qHd}:∀{names:List (Str×qHd)},
  (names.map fun(n,k)=>if(k==qGq&&env.scope.kind==.function&&env.kindOf n==some .cell)then(n,qH6)else(n,k)).lookup x=some k ->
  names.lookup x=some k\/(names.lookup x=some .free/\k=.cell)
 |[],h=>by simp at h
 |(n,j)::r,h=>by
  have ih:=@zBR sc env x k r;rw[qAn]at h;rw[qBc];by_cases hc:(j==qGq&&env.scope.kind==.function&&env.kindOf n==some .cell)=true
  ·have h':qF6 x ((n,qH6)::(r.map fun(n,k)=>if(k==qGq&&env.scope.kind==.function&&env.kindOf n==some .cell)then(n,qH6)else(n,k)))=some k:=by
    rw[<- h];simp only[if_pos hc]
   rw[qBc]at h';cases e:x==n with
   |true=>
    rw[e]at h';have hk:k=.cell:=(qAk h').symm;have hj:j=.free:=by
     simp only[qBb,beq_iff_eq]at hc;exact hc.1.1
    subst hj;exact .inr ⟨rfl,hk⟩
   |false=>
    rw[e]at h';exact ih h'
  ·have h':qF6 x ((n,j)::(r.map fun(n,k)=>if(k==qGq&&env.scope.kind==.function&&env.kindOf n==some .cell)then(n,qH6)else(n,k)))=some k:=by
    rw[<- h];simp only[if_neg hc]
   rw[qBc]at h';cases e:x==n with
   |true=>rw[e]at h';exact .inl h'
   |false=>rw[e]at h';exact ih h'
section
variable{X:Cx}{N':List Str}{k:Nat}{sc:Scope}{pins:List (Addr×Obj)}{σ:St}{H:Hp}{s:qGk}
theorem zM3{C:Addr}{x:Str}{c:Addr}(nd:(sc.names.map (·.1)).Nodup)(h:(zDM sc C X.env).cells.lookup x=some c) :
  ((x,c)∈cellsFrom (C+1) sc.names []/\(x,qH6)∈sc.names)\/((x,qGq)∈sc.names/\c=(X.env.cells.lookup x).getD 0):=by
 have m:=mem_of_lookup h;have m':(x,c)∈cellsFrom (C+1) sc.names (clos X.env.cells sc.names []):=m;rw[zBN]at m';rcases qB4.mp m' with z|z
 ·exact .inl ⟨z,zCB z⟩
 ·exact .inr (zFK z)
theorem zDV{C:Addr}{x:Str}(nd:(sc.names.map (·.1)).Nodup)(h:(x,qGq)∈sc.names):(zDM sc C X.env).cells.lookup x=some ((X.env.cells.lookup x).getD 0):=by
 show(cellsFrom (C+1) sc.names (clos X.env.cells sc.names [])).lookup x=_;rw[zBN,zGV,zDT (fun a m=>?_),Option.none_or]
 ·obtain⟨b,hb⟩:=zDS (zHZ (cells:=X.env.cells) h)
  have:=(zFK (mem_of_lookup hb)).2;rw[hb,this]
 ·have e1:=zC2 nd (zCB m);rw[zC2 nd h]at e1;cases e1
theorem zQ3(I:Inv X pins σ H s)(hc:X.calm=true)(S:CompNames X.N N' k sc X.env){fp:List Addr}(hf:∀b∈fp,FpOk X pins H b)(hfo:∀b∈fp,∃o,s.heap.get? b=some o)
  {s4:qGk} {D C:Addr} (eD:D=s.heap.objs.size) (eC:C=s.heap.objs.size+1)
  (e4:s4={ s with heap:=pushCells ((s.heap.push { cls:=.type "list",data:=.seq #[] 0 }).push { cls:=.type "dict",data:=.dict #[] }) sc.names }) :
  Inv (zCQ X N' sc C s H fp) [(D,{ cls:=.type "list",data:=.seq #[] 0 })] (σ++qA7 k none) H s4/\∀b∈fp,FpOk (zCQ X N' sc C s H fp) [(D,{ cls:=.type "list",data:=.seq #[] 0 })] H b:=by
 subst eD eC e4;generalize hh1:s.heap.push { cls:=.type "list",data:=.seq #[] 0 }=h1;generalize hh2:h1.push { cls:=.type "dict",data:=.dict #[] }=h2;have sz1:h1.objs.size=s.heap.objs.size+1:=by rw[<- hh1];exact qH8 ..
 have sz2:h2.objs.size=s.heap.objs.size+2:=by rw[<- hh2,qH8,sz1]
 have k1:∀b o,s.heap.get? b=some o->h1.get? b=some o:=fun b o e=>by rw[<- hh1];exact qGl _ e
 have k2:∀b o,h1.get? b=some o->h2.get? b=some o:=fun b o e=>by rw[<- hh2];exact qGl _ e
 have k3:∀b o,h2.get? b=some o->(pushCells h2 sc.names).get? b=some o:=pushCells_keeps sc.names h2;have kk:∀b o,s.heap.get? b=some o->(pushCells h2 sc.names).get? b=some o:=fun b o e=>k3 b o (k2 b o (k1 b o e))
 have own:CellsOk (pushCells h2 sc.names) h2.objs.size (cellsFrom h2.objs.size sc.names []):=cellsFrom_ok sc.names h2 h2.objs.size [] ⟨fun _ _ hm=>(nomatch hm),qCh⟩ (qA9 _);have eC1:s.heap.objs.size+1+1=h2.objs.size:=by rw[sz2]
 have freeCell:∀x,(x,qGq)∈sc.names->∃c,X.env.cells.lookup x=some c:=fun x hx=>I.ok.has x (S.free x hx)
 have cells:∀x c,(zDM sc (s.heap.objs.size+1) X.env).cells.lookup x=some c ->
   ((x,c)∈cellsFrom h2.objs.size sc.names []/\(x,qH6)∈sc.names/\(pushCells h2 sc.names).IsCell c none/\h2.objs.size<=c)\/((x,qGq)∈sc.names/\X.env.cells.lookup x=some c):=fun x c e=>by
  rcases zM3 S.nd e with⟨m,q⟩|⟨m,q⟩
  ·rw[eC1]at m;exact .inl ⟨m,q,(own.empty x c m).1,(own.empty x c m).2⟩
  ·obtain⟨c',hc'⟩:=freeCell x m;rw[hc',qDl]at q;subst q;exact .inr ⟨m,hc'⟩
 have old:∀x c,X.env.cells.lookup x=some c->c<s.heap.objs.size:=fun x c e=>by
  obtain⟨v,q⟩:=I.cell x c e;exact q.lt
 have fpl:∀b∈fp,b<s.heap.objs.size:=fun b hb=>by
  obtain⟨o,e⟩:=hfo b hb;exact qGm e
 have hCn:H (s.heap.objs.size+1)=none:=I.hok.fresh (qBz _);have hDn:H s.heap.objs.size=none:=I.hok.fresh (qA9 _);have nofs:∀a,s.heap.objs.size<=a->a∉frs X.stack:=fun a ha hb=>by
  rcases qAj.mp (I.stkSub a hb)with e|hb
  ·have t1:=asN I.lt;have t2:=asE e;have t3:=asL ha
   lia
  ·exact I.nofs ha hb
 have fin:∀b∈fp,b∉frs X.stack:=fun b hb z=>by
  obtain⟨f0,f1,f2,f3,f4,f5⟩:=hf b hb;rcases qAj.mp (I.stkSub b z)with e|z
  ·exact f1 e
  ·exact f2 z
 have ok:(zCQ X N' sc (s.heap.objs.size+1) s H fp).Ok:=by
  refine⟨I.ok.mod,S.kind,I.ok.glob,I.ok.blt,qBz _,?_,?_,?_,I.ok.hd,I.ok.frames,.inl rfl,?_,I.bs,qAi I.ok.bsz I.sz,?_,fin,I.stack,I.stkFree⟩
  ·intro x y c hx hy
   rcases cells x c hx with⟨m1,_,_,g1⟩|⟨m1,g1⟩<;>rcases cells y c hy with⟨m2,_,_,g2⟩|⟨m2,g2⟩
   ·exact name_of_addr own.apart m1 m2
   ·exact absurd (qAf (old y c g2) (qAi (by rw[sz2];exact qDm _ _) g1)) (qBt _)
   ·exact absurd (qAf (old x c g1) (qAi (by rw[sz2];exact qDm _ _) g2)) (qBt _)
   ·exact I.ok.inj x y c g1 g2
  ·intro x hx;have hx:(relabel sc X.env).names.lookup x=some .cell\/(relabel sc X.env).names.lookup x=some .free:=hx;have two:sc.names.lookup x=some .cell\/sc.names.lookup x=some .free:=by
    rcases hx with hx|hx
    ·rcases zBR (sc:=sc) hx with q|⟨q,_⟩
     ·exact .inl q
     ·exact .inr q
    ·rcases zBR (sc:=sc) hx with q|⟨_,q⟩
     ·exact .inr q
     ·cases q
   rcases two with q|q
   ·have:=qCe sc.names (s.heap.objs.size+1+1) (clos X.env.cells sc.names []) (.inl q)
    exact qC8.mp this
   ·exact⟨_,zDV S.nd (mem_of_lookup q)⟩
  ·intro x c hx e;have hx:(sc.names.lookup x==some qH6)=true:=hx;have hx':sc.names.lookup x=some .cell:=by simpa using hx
   rcases cells x c e with⟨_,_,_,g⟩|⟨m,_⟩
   ·show s.heap.objs.size<=c
    lia
   ·rw[zC2 S.nd m]at hx';cases hx'
  ·intro b hb;refine⟨?_,fun x c e z=>?_⟩
   ·exact qAm (qBf (fpl b hb))
   ·rcases cells x c e with⟨_,_,_,g⟩|⟨_,g⟩
    ·have t1:=asN (fpl b hb);have t2:=asL g;have t3:=asE z
     lia
    ·exact(hf b hb).2.2.2.2.1 x c g z
  ·intro b o e hb
   rcases(hf b hb).2.2.2.1 with z|z
   ·exact I.ok.noex b o e z
   ·exact absurd (qAf (qGm e) (qAi I.ok.bsz z)) (qBt _)
 have ns:(pushCells h2 sc.names).Ns (s.heap.objs.size+1) fun _=>none:=by
  have q:h2.Ns h1.objs.size fun _=>none:=by rw[<- hh2];exact Heap.Ns.new h1 (.type "dict")
  rw[sz1]at q;exact q.keeps k3
 have hD1:h1.get? s.heap.objs.size=some { cls:=.type "list",data:=.seq #[] 0 }:=by rw[<- hh1];exact qGs _ rfl
 refine⟨⟨ok,rfl,I.bare,Un.kept kk,⟨_,ns,?_⟩,?_,hCn,?_,?_,I.hok.kept kk,?_⟩,?_⟩
 ·intro i x v h1 h2 h3;have hi:i<X.N.length:=by
   rw[<- I.len];by_cases hi:i<σ.length
   ·exact hi
   ·rw[qAe (by lia),qB2]at h2
    split at h2<;>cases h2
  have h2':σ[i]?=some (some v):=by
   rw[qAd (by rw[I.len];exact hi)]at h2;exact h2
  have h1:N'[i]?=some x:=h1;rcases S.old i x h1 hi with⟨m,e⟩|e
  ·obtain⟨mm,hn,hl⟩:=I.loc;have hv:Vis X.env.scope x:=(S.free x m).elim (fun z=>.inr (.inl z)) fun z=>.inr (.inr z)
   obtain⟨u,r,l⟩:=hl i x v e h2' hv;refine⟨u,r,?_⟩;rcases l with⟨z,_⟩|⟨_,c,hc,hcell⟩
   ·rcases S.free x m with z'|z'<;>rw[z]at z'<;>cases z'
   ·refine .inr ⟨?_,c,?_,hcell.keeps kk⟩
    ·have hv3:(relabel sc X.env).names.lookup x=some .local\/(relabel sc X.env).names.lookup x=some .cell\/(relabel sc X.env).names.lookup x=some .free:=h3
     rcases hv3 with q|q|q
     ·rcases zBR (sc:=sc) q with q|⟨_,q⟩
      ·rw[zC2 S.nd m]at q;cases q
      ·cases q
     ·exact .inl q
     ·exact .inr q
    ·have q:=zDV (X:=X) (C:=s.heap.objs.size+1) S.nd m;rw[hc,qDl]at q;exact q
  ·exfalso
   have hv3:(relabel sc X.env).names.lookup x=some .local\/(relabel sc X.env).names.lookup x=some .cell\/(relabel sc X.env).names.lookup x=some .free:=h3;rcases hv3 with q|q|q<;>rcases zBR (sc:=sc) q with q|⟨q,_⟩<;>rw[e]at q<;>cases q
 ·intro x c e
  rcases cells x c e with⟨_,_,g,_⟩|⟨_,g⟩
  ·exact⟨_,g⟩
  ·obtain⟨v,q⟩:=I.cell x c g;exact⟨v,q.keeps kk⟩
 ·intro x c e
  rcases cells x c e with⟨_,_,_,g⟩|⟨_,g⟩
  ·exact I.hok.fresh (by lia)
  ·exact I.freeC x c g
 ·intro p hp;have hp':p=(s.heap.objs.size,{ cls:=.type "list",data:=.seq #[] 0 }):=by
   have:p∈([]++[(s.heap.objs.size,({ cls:=.type "list",data:=.seq #[] 0 }:Obj))]:List (Addr×Obj)):=hp;simpa using this
  subst hp';refine⟨k3 _ _ (k2 _ _ hD1),hDn,?_,nofs _ (qA9 _),fun v z=>by cases z⟩;show s.heap.objs.size≠s.heap.objs.size+1
  lia
 ·show(σ++qA7 k none).length=N'.length
  rw[qB0,qBo,I.len,S.len]
 ·intro b hb;obtain⟨f0,f1,f2,f3,f4,f5⟩:=hf b hb;refine⟨f0,(ok.exf b hb).1,fin b hb,.inl hb,fun x c e=>(ok.exf b hb).2 x c e,fun p hp=>?_⟩;have hp':p=(s.heap.objs.size,{ cls:=.type "list",data:=.seq #[] 0 }):=by
   have:p∈([]++[(s.heap.objs.size,({ cls:=.type "list",data:=.seq #[] 0 }:Obj))]:List (Addr×Obj)):=hp;simpa using this
  subst hp';exact qBn (fpl b hb)
end
theorem zDO{prog:qGn}{w:World}{A:qGo}{R:qJi->qGk->Prop}{s:qGk}{elt target iter:Expr}{ifs:List Expr}{scope:Scope}{pos:Pos}{it acc:Value}{env:Env}(I:Nat->qGk->Prop)
  (turn:∀n s,I n s->wpAny (model prog w) A (pyNext it) (fun r s₁=>match r with
   |none=>R (.ok .next) s₁
   |some v=>wpAny (model prog w) A (letOwnedTupleGo target it v) (fun _ s₂'=>wpAny (model prog w) A (assign target env v) (fun _ s₂=>
     wpAny (model prog w) A (forIn ifs true fun c r=>if r=true then do let ok <- isTrue c env (eval c env);pure (qBy ok)else pure (qBy r)) (fun ok s₃=>
      if ok=true then wpAny (model prog w) A (eval elt env) (fun x s₄=>
       wpAny (model prog w) A (call (.builtin "list.append") [acc,x]) (fun _ s₅=>∃m,m<n/\I m s₅) (fun _ _=>False) s₄) (fun _ _=>False) s₃
      else ∃m,m<n/\I m s₃) (fun _ _=>False) s₂) (fun _ _=>False) s₂') (fun _ _=>False) s₁) (fun _ _=>False) s)
  (n:Nat) (h:I n s) :
  qId (model prog w) A (.compLoop (.ListComp elt [⟨target,iter,ifs,0⟩] scope pos) 0 it acc env) R s:=by
 refine codeAny_loop rfl I (fun n s hI=>?_) n h;show wpAny _ A ((compTurn (.ListComp elt [⟨target,iter,ifs,0⟩] scope pos) 0 it acc env).onRaise (fun x=>do noteFrame x env;theTreesLotGoes x)) _ _ s;refine wpAny_noted ?_;rw[compTurn_list];refine wpAny_bind (wpAny_standAt (wpAny_bind (wpAny_mono (turn n s hI) (fun r s₁ h₁=>?_) fun _ _ z=>z.elim)));cases r with
 |none=>exact wpAny_pure h₁
 |some v=>
  refine wpAny_bind (wpAny_mono h₁ (fun _ s₂' h₂'=>?_) fun _ _ z=>z.elim);refine wpAny_bind (wpAny_mono h₂' (fun _ s₂ h₂=>wpAny_bind (wpAny_mono h₂ (fun ok s₃ h₃=>?_) fun _ _ z=>z.elim)) fun _ _ z=>z.elim);cases ok with
  |false=>exact wpAny_pure ⟨rfl,h₃⟩
  |true=>
   exact wpAny_bind (wpAny_bind (wpAny_mono h₃ (fun x s₄ h₄=>wpAny_bind (wpAny_mono h₄ (fun _ s₅ h₅=>wpAny_pure (wpAny_pure ⟨rfl,h₅⟩)) fun _ _ z=>z.elim)) fun _ _ z=>z.elim))
def zMI(k:Nat)(g:TG)(tif:TT)(te:TE)(σ:St)(Q:VK)(J:It)(H1:Hp):Prop:=∃W:Nat->Nat->List V->Hp->Prop,(∃m,W 0 m [] H1)/\∀i m acc H,W i m acc H ->
 (J.stop i H/\∀D,H D=none->Q (.ref D) (upd H D (.lst acc))) \/
 (J.go i H/\acc.length<sizeLine/\∃N:List V->Hp->Prop,(∀acc' H',N acc' H'->∃m',m'<m/\W (i+1) m' acc' H')/\∀x H',J.yld i H x H'->g x (σ++qA7 k none) H' fun σ2 H2=>∃own:St,own.length=k/\σ2=σ++own/\tif σ2 H2 fun b H3=>if b=true then te σ2 H3 fun v H4=>N (acc++[v]) H4 else N acc H3)
noncomputable def zMJ(wi:TI)(k:Nat)(g:TG)(tif:TT)(te:TE):TE:=fun σ H Q=>wi σ H (zMI k g tif te σ Q)
theorem HOk.track{P:qGn}{w:World}{H:Hp}{h:Heap}{a:Addr}{o:HO}(x:HOk P w H h)(hn:H a=none)(new:ObjOk P w (upd H a o) h a o):HOk P w (upd H a o) h:=fun b u e=>by
 by_cases hb:b=a
 ·subst hb;rw[zAM]at e;cases e;exact new
 ·rw[zAL hb]at e;exact(x b u e).stay (fun c v _ q=>q) (fun c q=>by rw[zAL (zAO q hn)];exact q) (fun c xs q=>by rw[zAL (zAO q hn)];exact q) fun c _ _ q _=>by rw[zAL (zAO q hn)];exact q
section
variable{X:Cx}{N':List Str}{k:Nat}{sc:Scope}{tg iter elt:Expr}{ifs:List Expr}{wi:TI}{g:TG}{tif:TT}{te:TE}{pos:Pos}
theorem zH0{pins:List (Addr×Obj)}{σ:St}{H2:Hp}{s2:qGk}{Q:VK}{RR:Value->Addr->qJi->qGk->Prop}{E:Value->qGk->Prop}(hc:X.calm=true)(S:CompNames X.N N' k sc X.env)
  (hg:∀C s H fp,PG (zCQ X N' sc C s H fp) tg g) (hif:∀C s H fp,PTs (zCQ X N' sc C s H fp) ifs tif) (he:∀C s H fp,PE (zCQ X N' sc C s H fp) elt te)
  {it:Addr} {fp:List Addr} {tn:Nat->Heap->Prop} {J:It} (I2:Inv X pins σ H2 s2) (T:Turn X.prog X.w X.K tg J fp it tn) (st2:tn 0 s2.heap) (f2:∀b∈fp,FpOk X pins H2 b)
  {W:Nat->Nat->List V->Hp->Prop} {m0:Nat} (w0:W 0 m0 [] H2)
  (turn:∀i m acc H,W i m acc H->(J.stop i H/\∀D,H D=none->Q (.ref D) (upd H D (.lst acc))) \/
   (J.go i H/\acc.length<sizeLine/\∃N:List V->Hp->Prop,(∀acc' H',N acc' H'->∃m',m'<m/\W (i+1) m' acc' H')/\∀x H',J.yld i H x H'->g x (σ++qA7 k none) H' fun σ2 H2=>∃own:St,own.length=k/\σ2=σ++own/\tif σ2 H2 fun b H3=>if b=true then te σ2 H3 fun v H4=>N (acc++[v]) H4 else N acc H3))
  (hRR:∀D C s' H',D<C->s2.heap.objs.size<=D->(∃m,s'.heap.Ns C m)->H' C=none->C∉frs X.stack->Inv X pins σ H' s'->Q (.ref D) H'->RR (.ref D) C (.ok .next) s') :
  wpAny (model X.prog X.w) X.A (newList []) (fun acc s₃=>wpAny (model X.prog X.w) X.A (newFunctionEnv sc X.env.globals (clos X.env.cells sc.names []) [] X.env.qual none .none (some X.env)) (fun cenv s₄=>
   qId (model X.prog X.w) X.A (.compStart (.ListComp elt [⟨tg,iter,ifs,0⟩] sc pos) 0 (.ref it) acc { cenv with scope:=relabel sc X.env }) (RR acc cenv.locals) s₄) E s₃) E s2:=by
 refine wpAny_newObj_type (zE5 ?_);show qId _ _ (.compStart _ 0 (.ref it) (.ref s2.heap.objs.size) _) _ _;have szp:(s2.heap.push { cls:=.type "list",dict:=none,data:=.seq ([]:List Value).toArray }).objs.size=s2.heap.objs.size+1:=qH8 ..;obtain⟨I4,F4⟩:=zQ3 (s4:={ s2 with heap:=pushCells ((s2.heap.push { cls:=.type "list",data:=.seq #[] 0 }).push { cls:=.type "dict",data:=.dict #[] }) sc.names }) I2 hc S f2 (fun b hb=>let⟨o,e,_⟩:=T.obj 0 _ st2 b hb;⟨o,e⟩) rfl rfl rfl
 generalize hC:(s2.heap.push { cls:=.type "list",dict:=none,data:=.seq ([]:List Value).toArray }).objs.size=C at *;have eC:C=s2.heap.objs.size+1:=szp;rw[<- eC]at I4 F4;generalize hs4:({ s2 with heap:=pushCells ((s2.heap.push { cls:=.type "list",data:=.seq #[] 0 }).push { cls:=.type "dict",data:=.dict #[] }) sc.names }:qGk)=s4 at I4 F4
 have kk:∀b o,s2.heap.get? b=some o->s4.heap.get? b=some o:=fun b o e=>by
  rw[<- hs4];exact pushCells_keeps sc.names _ b o (qGl _ (qGl _ e))
 have st4:tn 0 s4.heap:=T.keep 0 _ _ st2 fun b _ o e=>kk b o e
 generalize hX':zCQ X N' sc C s2 H2 fp=X' at I4 F4;have henv:X'.env=zDM sc C X.env:=by rw[<- hX'];rfl
 have xprog:X'.prog=X.prog:=by rw[<- hX'];rfl
 have xw:X'.w=X.w:=by rw[<- hX'];rfl
 have xK:X'.K=X.K:=by rw[<- hX'];rfl
 have xcalm:X'.calm=true:=by rw[<- hX'];exact hc
 have xA:X'.A=X.A:=by rw[<- hX'];rfl
 have xpn:X'.pn=[]:=by rw[<- hX'];rfl
 have xxe:X'.xe=fun _ _=>False:=by rw[<- hX'];rfl
 have xs0:X'.s₀=s2:=by rw[<- hX'];rfl
 have xH0:X'.H₀=H2:=by rw[<- hX'];rfl
 have xfs:X'.fs=frs X.stack:=by rw[<- hX'];rfl
 have xex:X'.ex=fp:=by rw[<- hX'];rfl
 have hgX:PG X' tg g:=by rw[<- hX'];exact hg C s2 H2 fp
 have hifX:PTs X' ifs tif:=by rw[<- hX'];exact hif C s2 H2 fp
 have heX:PE X' elt te:=by rw[<- hX'];exact he C s2 H2 fp
 have locC:X'.env.locals=C:=by rw[henv];rfl
 generalize hDd:s2.heap.objs.size=D at *;have loop:qId (model X.prog X.w) X.A (.compLoop (.ListComp elt [⟨tg,iter,ifs,0⟩] sc pos) 0 (.ref it) (.ref D) (zDM sc C X.env)) (RR (.ref D) C) s4:=by
  refine zDO (fun n s'=>∃i H' acc its nn,Inv X' [] (σ++qA7 k none) H' s'/\tn i s'.heap/\(∀b∈fp,H' b=none)/\H' D=none/\W i n acc H'/\acc.length<=sizeLine/\Vals acc its/\s'.heap.get? D=some { cls:=.type "list",data:=.seq its.toArray nn }) ?_ m0 ?_
  ·rintro n s5 ⟨i,H5,acc,its,nn,I5,st5,fr5,hD5,w5,hz5,rv5,hL5⟩
   have hDlt:D<C:=by rw[eC];exact qEz _
   have pinD:Inv X' [(D,{ cls:=.type "list",data:=.seq its.toArray nn })] (σ++qA7 k none) H5 s5:=I5.pins_of fun p hp=>by
    have hp':p=(D,{ cls:=.type "list",data:=.seq its.toArray nn }):=by simpa using hp
    subst hp';refine⟨hL5,hD5,?_,?_,fun v z=>by cases z⟩
    ·rw[locC];exact qAm hDlt
    ·have q:=(I4.pin (D,{ cls:=.type "list",data:=.seq #[] 0 }) (by simp)).2.2.2.1;exact q
   have fpD:∀{H':Hp}{oo:Obj},(∀b∈fp,H' b=none)->∀b∈fp,FpOk X' [(D,oo)] H' b:=fun{H' oo} hn b hb=>by
    obtain⟨f0,f1,f2,f3,f4,f5⟩:=F4 b hb;refine⟨hn b hb,f1,f2,f3,f4,fun p hp=>?_⟩;have hp':p=(D,oo):=by
     rw[xpn]at hp;simpa using hp
    subst hp';exact f5 (D,{ cls:=.type "list",data:=.seq #[] 0 }) (by simp)
   rcases turn i n acc H5 w5 with⟨stop,q⟩|⟨go,hlt,N,hN,step⟩
   ·have dn:=T.done X' xprog xw xK xcalm i _ s5 _ H5 (fun _ _=>False) pinD (fpD fr5) st5 stop;rw[xA]at dn;refine thn dn fun r s6 z0=>?_
    obtain⟨hr,I6⟩:=z0;subst hr;show RR (.ref D) C (.ok .next) s6;have hL6:=(I6.pin (D,{ cls:=.type "list",data:=.seq its.toArray nn }) (by simp)).1;have un6:Un (frs X.stack) fp H2 H5 s2.heap s6.heap:=by
     have:=I6.base;rw[xs0,xH0,xfs,xex]at this;exact this
    have hok6:HOk X.prog X.w H5 s6.heap:=by
     have:=I6.hok;rw[xprog,xw]at this;exact this
    have hDno:s2.heap.get? D=none:=qHg (by rw[hDd];exact qA9 _);have un7:Un (frs X.stack) fp H2 (upd H5 D (.lst acc)) s2.heap s6.heap:=
     ⟨un6.keep,un6.slot,fun b o e n hx=>by
       have hb:b≠D:=by rintro rfl;rw[hDno]at e;cases e
       rw[zAL hb];exact un6.free b o e n hx,un6.there,
      fun b xs e=>by
       have e':=un6.tups b xs e;rw[zAL (zAO e' hD5)];exact e',
      fun b o u e=>by
       have e':=un6.frzs b o u e;rw[zAL (zAO e' hD5)];exact e',
      fun b ps e=>by
       obtain⟨more,e'⟩:=un6.tbls b ps e;exact⟨more,by rw[zAL (zAO e' hD5)];exact e'⟩⟩
    have hok7:HOk X.prog X.w (upd H5 D (.lst acc)) s6.heap:=hok6.track hD5 ⟨hz5,its,nn,rv5,hL6⟩;have os6:s6.os=s2.os:=by have:=I6.os;rw[xs0]at this;exact this
    have I7:Inv X pins σ (upd H5 D (.lst acc)) s6:=I2.call' os6 un7 hok7 I6.bare fun b hb=>by
     obtain⟨f0,f1,f2,f3,f4,f5⟩:=f2 b hb;exact⟨f3,f1,f4,f5⟩
    obtain⟨mm,hn,_⟩:=I6.loc;rw[locC]at hn;have hC5:H5 C=none:=by have:=I6.free;rw[locC]at this;exact this
    refine hRR D C s6 (upd H5 D (.lst acc)) hDlt (qA9 _) ⟨mm,hn⟩ ?_ ?_ I7 (q D hD5)
    ·rw[zAL (qBn hDlt)];exact hC5
    ·intro hb
     rcases qAj.mp (I2.stkSub C hb)with e|hb
     ·have t1:=asN I2.lt;have t2:=asE e;rw[hDd]at t1;have t3:=asN hDlt
      lia
     ·exact I2.nofs (by rw[hDd];exact qB6 hDlt) hb
   ·have itm:=T.item X' xprog xw xK xcalm i _ s5 _ H5 (fun _ _=>False) pinD (fpD fr5) st5 go;rw[xA]at itm;refine thn itm fun r s6 z0=>?_
    obtain⟨u,hr,h6⟩:=z0;subst hr;refine thn h6 fun _ s7 z0=>?_
    obtain⟨x,H7,I7,r7,y7,st7,fr7⟩:=z0;have I7':Inv X' ([(D,{ cls:=.type "list",data:=.seq its.toArray nn })]++zGU fp s7.heap) (σ++qA7 k none) H7 s7:=I7.pinned (fpD fr7) (T.obj _ _ st7);have asg:=hgX _ s7 _ H7 x u _ I7' r7 (step x H7 y7);rw[xprog,xw,xA,henv,xxe]at asg;refine thn asg fun _ s8 z0=>?_
    obtain⟨σ8,H8,I8,own,hown,hσ8,q8⟩:=z0;have weak:∀{pl:List (Addr×Obj)}{H':Hp}{s':qGk},Inv X' pl σ8 H' s'->Inv X' [] (σ++qA7 k none) H' s':=fun{pl H' s'} J'=>by
     have J0:Inv X' [] σ8 H' s':=J'.pins_of (fun p hp=>by simp at hp);refine J0.weak (by rw[hσ8];simp[hown]) fun j v hj=>?_
     rw[hσ8];by_cases hjl:j<σ.length
     ·rw[qAd hjl]at hj ⊢;exact hj
     ·rw[qAe (by lia),qB2]at hj
      split at hj<;>cases hj
    have tst:=hifX _ s8 σ8 H8 _ I8 q8;rw[xprog,xw,xA,henv,xxe]at tst;refine thn tst fun b s9 z0=>?_
    obtain⟨H9,I9,q9⟩:=z0;have pin9:∀{σ':St}{H':Hp}{s':qGk},Inv X' ([(D,{ cls:=.type "list",data:=.seq its.toArray nn })]++zGU fp s7.heap) σ' H' s' ->
      s'.heap.get? D=some { cls:=.type "list",data:=.seq its.toArray nn }/\H' D=none/\tn (i+1) s'.heap/\(∀b∈fp,H' b=none):=fun{σ' H' s'} J'=>by
     have a1:=J'.pin (D,{ cls:=.type "list",data:=.seq its.toArray nn }) (by simp);refine⟨a1.1,a1.2.1,T.keep _ _ _ st7 fun b hb o e=>(J'.pin (b,o) (qAp _ (qAp _ (zDK hb e)))).1,fun b hb=>?_⟩;obtain⟨o,e,d⟩:=T.obj _ _ st7 b hb;exact(J'.pin (b,o) (qAp _ (qAp _ (zDK hb e)))).2.1
    cases b with
    |false=>
     rw[if_neg qAb];rw[if_neg qAb]at q9;obtain⟨m',hm,w9⟩:=hN _ _ q9;obtain⟨p1,p2,p3,p4⟩:=pin9 I9;exact⟨m',hm,i+1,H9,acc,its,nn,weak I9,p3,p4,p2,w9,hz5,rv5,p1⟩
    |true=>
     rw[if_pos rfl];rw[if_pos rfl]at q9;have ev:=heX _ s9 σ8 H9 _ I9 q9;rw[xprog,xw,xA,henv,xxe]at ev;refine thn ev fun y s10 z0=>?_
     obtain⟨v,H10,I10,r10,n10⟩:=z0;obtain⟨m',hm,w10⟩:=hN _ _ n10;obtain⟨p1,p2,p3,p4⟩:=pin9 I10;have hlen:its.length=acc.length:=rv5.length.symm;refine wpAny_list_append_plain (items:=its.toArray) ⟨nn,p1⟩ (fun h' hl' hs'=>?_) (by simp only[qAg];lia);have hDfp:D∉fp:=fun hb=>(F4 D hb).2.2.2.2.2 (D,{ cls:=.type "list",data:=.seq #[] 0 }) (by simp) rfl
     have I11:Inv X' [] (σ++qA7 k none) H10 { s10 with heap:=h' }:=by
      have J0:Inv X' [] (σ++qA7 k none) H10 s10:=weak I10;refine J0.turned (t':=s10.toks) (it:=D) (fun b o hb e=>(hs'.2 b hb).trans e) p2 ?_ (.inr ?_) (fun x c e z=>?_) (fun p hp=>?_)
      ·rw[locC];exact qAm hDlt
      ·rw[xs0,hDd];exact qA9 _
      ·obtain⟨v',q⟩:=J0.cell x c e;obtain⟨o,ho,hd⟩:=q;rw[z,p1]at ho;cases ho;cases hd
      ·rw[xpn]at hp;simp at hp
     obtain⟨n',hk⟩:=hl';have hk':h'.get? D=some { cls:=.type "list",data:=.seq (its++[y]).toArray n' }:=by rw[hk];simp
     refine⟨m',hm,i+1,H10,acc++[v],its++[y],n',I11,T.keep _ _ _ p3 fun b hb o e=>(hs'.2 b (fun z=>hDfp (z▸hb))).trans e,p4,p2,w10,?_,rv5.append (.cons r10 .nil),hk'⟩;rw[qB0,qDw]
     lia
  ·refine⟨0,H2,[],[],0,I4.pins_of (fun p hp=>by simp at hp),st4,fun b hb=>(f2 b hb).1,I2.hok.fresh (by rw[hDd];exact qA9 _),w0,qAh _,.nil,?_⟩;exact(I4.pin (D,{ cls:=.type "list",data:=.seq #[] 0 }) (by simp)).1
 exact codeAny_compStart_list loop (T.self _ 0 _ _ _ st4 loop)
theorem zAY(hc:X.calm=true)(S:CompNames X.N N' k sc X.env)(hi:PI X tg iter wi)
  (hg:∀C s H fp,PG (zCQ X N' sc C s H fp) tg g) (hif:∀C s H fp,PTs (zCQ X N' sc C s H fp) ifs tif) (he:∀C s H fp,PE (zCQ X N' sc C s H fp) elt te)
  (hs:∀x,qHo iter X.env x=pure x:=by intro _;rfl):PE X (.ListComp elt [⟨tg,iter,ifs,0⟩] sc pos) (zMJ wi k g tif te):=by
 intro pins s σ H Q I h;rw[eval_ListComp];have hfree:∀x,(x,qGq)∈sc.names->∃c,X.env.cells.lookup x=some c:=fun x hx=>I.ok.has x (S.free x hx)
 refine wpAny_comprehension_free (use:=none) rfl hs (zEP hfree) S.kind (fun x hx hl=>?_) ?_
 ·obtain⟨n,kd⟩:=x;dsimp only at hl ⊢;subst hl;exact zC2 S.nd hx
 ·refine thn (hi pins s σ H _ I h) fun v s1 h1=>thn h1 fun itv s2 h2=>?_
  obtain⟨it,fp,tn,J,H2,e,I2,T,st2,f2,W,⟨m0,w0⟩,turn⟩:=h2;subst e;refine zH0 (RR:=fun acc C=>compPost (model X.prog X.w) X.A X.xe none (EP X pins σ Q) acc C) hc S hg hif he I2 T st2 f2 w0 turn ?_;intro D C s' H' hDC hD hn hCn hCf I' q;obtain⟨m,hn⟩:=hn;refine⟨m,hn,fun h' hs'=>⟨.ref D,H',?_,rfl,q⟩⟩;have hCb:s2.heap.objs.size<=C:=qB6 (qEe hD hDC);refine I'.turned (t':=s'.toks) (it:=C) (fun b o hb e=>(hs'.2 b hb).trans e) hCn ?_ (.inr (qAi I2.sz hCb)) (fun x c e z=>?_) (fun p hp z=>?_)
  ·exact qBn (qAf I2.lt hCb)
  ·obtain⟨v,q⟩:=I2.cell x c e;exact absurd z (qAm (qAf q.lt hCb))
  ·exact absurd z (qAm (qAf (qGm (I2.pin p hp).1) hCb))
theorem zCN{i:Nat}{x:Str}{pos' spos:Pos}(hN:X.N.Nodup)(hi':X.N[i]?=some x)(hx:Loc X.env.scope x)(hc:X.calm=true)(S:CompNames X.N N' k sc X.env)(hi:PI X tg iter wi)
  (hg:∀C s H fp,PG (zCQ X N' sc C s H fp) tg g) (hif:∀C s H fp,PTs (zCQ X N' sc C s H fp) ifs tif) (he:∀C s H fp,PE (zCQ X N' sc C s H fp) elt te)
  (hsw:qJ0 (.ListComp elt [⟨tg,iter,ifs,0⟩] sc pos) (some (.Name x pos')) spos.line X.env=pure true:=by rfl)
  (hs:∀x,qHo iter X.env x=pure x:=by intro _;rfl) (hf:X.fn x=true\/X.env.scope.names.lookup x=some .local:=by first|exact .inl rfl|exact .inr rfl|assumption) :
  PS X (.Assign [.Name x pos'] (.ListComp elt [⟨tg,iter,ifs,0⟩] sc pos) spos) (tAsg (zMJ wi k g tif te) (zEH i)):=by
 intro pins s σ H Dn I h;rw[exec_Assign_Name_used _ _ _ _ hsw];refine wpAny_bind (wpAny_standAt (wpAny_bind ?_));show wpAny _ X.A (do let _ <- comprehension (.ListComp elt [⟨tg,iter,ifs,0⟩] sc pos) sc X.env _ (newList []) false (eval iter X.env) (some (assign (.Name x pos') X.env))) _ _ s;have hfree:∀x,(x,qGq)∈sc.names->∃c,X.env.cells.lookup x=some c:=fun x hx=>I.ok.has x (S.free x hx)
 refine wpAny_bind (wpAny_mono (wpAny_comprehension_free (use:=some (assign (.Name x pos') X.env)) (Q:=fun _ s'=>SP X pins Dn .next s') rfl hs (zEP hfree) S.kind (fun x hx hl=>?_) ?_)
  (fun _ s' hq=>wpAny_pure (wpAny_pure hq)) fun _ _ e=>e)
 ·obtain⟨n,kd⟩:=x;dsimp only at hl ⊢;subst hl;exact zC2 S.nd hx
 ·refine thn (hi pins s σ H _ I h) fun v s1 h1=>thn h1 fun itv s2 h2=>?_
  obtain⟨it,fp,tn,J,H2,e,I2,T,st2,f2,W,⟨m0,w0⟩,turn⟩:=h2;subst e;refine zH0 (Q:=fun v H'=>zEH i v σ H' Dn.nx) (RR:=fun acc C=>compPost (model X.prog X.w) X.A X.xe (some (assign (.Name x pos') X.env)) (fun _ s'=>SP X pins Dn .next s') acc C) hc S hg hif he I2 T st2 f2 w0 turn ?_;intro D C s' H' hDC hD hn hCn hCf I' q;obtain⟨m,hn⟩:=hn;show wpAny _ _ (assign (.Name x pos') X.env (.ref D)) _ _ _;have hCb:s2.heap.objs.size<=C:=qB6 (qEe hD hDC);have hCL:C≠X.env.locals:=qBn (qAf I2.lt hCb);have hCc:∀x c,X.env.cells.lookup x=some c->c≠C:=fun x c e z=>by
   obtain⟨v,q⟩:=I2.cell x c e;exact absurd z (qAm (qAf q.lt hCb))
  refine qJ4 (zID (v:=.ref D) I' hN hi' hx rfl (fun s'' I'' ⟨a,sb,ha⟩=>?_) hf);have hCa:C≠a:=by
   rcases ha with e|e
   ·rw[e];exact hCL
   ·exact fun z=>hCc x a e z.symm
  refine⟨m,hn.sameBut sb hCa,fun h' hs'=>⟨_,H',?_,q⟩⟩;refine I''.turned (t':=s''.toks) (it:=C) (fun b o hb e=>(hs'.2 b hb).trans e) hCn hCL (.inr (qAi I2.sz hCb)) hCc (fun p hp z=>?_);exact absurd z (qAm (qAf (qGm (I2.pin p hp).1) hCb))
theorem zCR{lo:Int}{n:Nat}{σ:St}{H:Hp}{Q:VK}(Pv:Nat->List V->Hp->Prop)(h0:Pv 0 [] H)(hz:∀i acc H,i<n->Pv i acc H->acc.length<sizeLine)
  (hs:∀i acc H,i<n->Pv i acc H->g (.int (lo+i)) (σ++qA7 k none) H fun σ2 H2=>∃own:St,own.length=k/\σ2=σ++own/\tif σ2 H2 fun b H3=>if b=true then te σ2 H3 fun v H4=>Pv (i+1) (acc++[v]) H4 else Pv (i+1) acc H3)
  (hd:∀acc H,Pv n acc H->∀D,H D=none->Q (.ref D) (upd H D (.lst acc))) :
  zMI k g tif te σ Q (Itr lo n) H:=by
 refine⟨fun i m acc H=>m=n-i/\i<=n/\Pv i acc H,⟨n,by simp,qAh _,h0⟩,?_⟩
 rintro i m acc H ⟨rfl,hi,p⟩
 by_cases hlt:i<n
 ·refine .inr ⟨hlt,hz i acc H hlt p,Pv (i+1),fun acc' H' p'=>⟨n-(i+1),by lia,rfl,hlt,p'⟩,fun x H' y=>?_⟩;obtain⟨e,y⟩:=y;subst e y;exact hs i acc _ hlt p
 ·have e:i=n:=by lia
  subst e;exact .inl ⟨qA9 _,hd acc H p⟩
def zLJ(g:TG)(tb:TS)(D:Ends)(σ:St)(J:It)(H1:Hp):Prop:=∃W:Nat->Nat->St->Hp->Prop,(∃m,W 0 m σ H1)/\∀i m σ H,W i m σ H ->
 (J.stop i H/\D.nx σ H)\/(J.go i H/\∃N:St->Hp->Prop,(∀σ' H',N σ' H'->∃m',m'<m/\W (i+1) m' σ' H')/\∀x H',J.yld i H x H'->g x σ H' fun σ2 H2=>tb { D with nx:=N,ct:=N,bk:=D.nx } σ2 H2)
theorem zCW{body:List Stmt}{tb:TS}(hp:qJh (model X.prog X.w) X.A X.env X.xe)(hc:X.calm=true)(hi:PI X tg iter wi)(hg:PG X tg g)(hb:PSs X body tb)
  (hs:∀x,qHo iter X.env x=pure x:=by intro _;rfl):PS X (.For tg iter body [] pos) (fun D σ H=>wi σ H (zLJ g tb D σ)):=zUW hp hc hi hg hb hs
end
inductive Dat where
 |non|bl (b:Bool)|int (i:Int)|str (x:Str)|lst (xs:List Dat)|tup (xs:List Dat)
mutual
def Dat.dep:Dat->Nat
 |.lst xs=>Dat.depL xs+1
 |.tup xs=>Dat.depL xs+1
 |_=>0
def Dat.depL:List Dat->Nat
 |[]=>0
 |x::r=>max x.dep (Dat.depL r)
end
mutual
def Dat.eq:Dat->Dat->Bool
 |.non,.non=>true
 |.bl a,.bl b=>a==b
 |.bl a,.int b=>(if a then 1 else 0)==b
 |.int a,.bl b=>a==(if b then 1 else 0)
 |.int a,.int b=>a==b
 |.str a,.str b=>a==b
 |.lst xs,.lst ys=>Dat.eqL xs ys
 |.tup xs,.tup ys=>Dat.eqL xs ys
 |_,_=>false
def Dat.eqL:List Dat->List Dat->Bool
 |[],[]=>true
 |x::r,y::q=>Dat.eq x y&&Dat.eqL r q
 |_,_=>false
end
mutual
def Rep(H:Hp):Dat->V->Prop
 |.non,v=>v=.non
 |.bl b,v=>v=.bl b
 |.int i,v=>v=.int i
 |.str x,v=>v=.str x
 |.lst ds,v=>∃a xs,v=.ref a/\H a=some (.lst xs)/\RepL H ds xs
 |.tup ds,v=>∃a xs,v=.ref a/\H a=some (.tup xs)/\RepL H ds xs
def RepL(H:Hp):List Dat->List V->Prop
 |[],xs=>xs=[]
 |d::r,xs=>∃x q,xs=x::q/\Rep H d x/\RepL H r q
end
mutual
theorem Rep.mono{H H':Hp}(s:Same H H'):∀{d:Dat}{v:V},Rep H d v->Rep H' d v
 |.non,_,h=>h
 |.bl _,_,h=>h
 |.int _,_,h=>h
 |.str _,_,h=>h
 |.lst _,_,h=>by obtain⟨a,xs,e,e',r⟩:=h;exact⟨a,xs,e,s _ _ e',RepL.mono s r⟩
 |.tup _,_,h=>by obtain⟨a,xs,e,e',r⟩:=h;exact⟨a,xs,e,s _ _ e',RepL.mono s r⟩
theorem RepL.mono{H H':Hp}(s:Same H H'):∀{ds:List Dat}{xs:List V},RepL H ds xs->RepL H' ds xs
 |[],_,h=>h
 |_::_,_,h=>by obtain⟨x,q,e,r,t⟩:=h;exact⟨x,q,e,Rep.mono s r,RepL.mono s t⟩
end
mutual
theorem Rep.inj{H:Hp}:∀{d e:Dat}{v:V},Rep H d v->Rep H e v->d=e
 |.non,e,v,h,h'=>by cases h;cases e<;>first|rfl|(cases h';done)|(obtain⟨a,xs,z,_⟩:=h';cases z)
 |.bl b,e,v,h,h'=>by cases h;cases e<;>first|(cases h';rfl)|(cases h';done)|(obtain⟨a,xs,z,_⟩:=h';cases z)
 |.int b,e,v,h,h'=>by cases h;cases e<;>first|(cases h';rfl)|(cases h';done)|(obtain⟨a,xs,z,_⟩:=h';cases z)
 |.str b,e,v,h,h'=>by cases h;cases e<;>first|(cases h';rfl)|(cases h';done)|(obtain⟨a,xs,z,_⟩:=h';cases z)
 |.lst ds,e,v,h,h'=>by
  obtain⟨a,xs,rfl,ha,q⟩:=h;cases e with
  |lst es=>
   obtain⟨b,ys,z,hb,q'⟩:=h';cases z;rw[ha]at hb;cases hb;rw[RepL.inj q q']
  |tup es=>
   obtain⟨b,ys,z,hb,q'⟩:=h';cases z;rw[ha]at hb;cases hb
  |_=>cases h'
 |.tup ds,e,v,h,h'=>by
  obtain⟨a,xs,rfl,ha,q⟩:=h;cases e with
  |tup es=>
   obtain⟨b,ys,z,hb,q'⟩:=h';cases z;rw[ha]at hb;cases hb;rw[RepL.inj q q']
  |lst es=>
   obtain⟨b,ys,z,hb,q'⟩:=h';cases z;rw[ha]at hb;cases hb
  |_=>cases h'
theorem RepL.inj{H:Hp}:∀{ds es:List Dat}{xs:List V},RepL H ds xs->RepL H es xs->ds=es
 |[],[],_,_,_=>rfl
 |[],_::_,_,h,h'=>by cases h;obtain⟨x,q,e,_⟩:=h';cases e
 |_::_,[],_,h,h'=>by cases h';obtain⟨x,q,e,_⟩:=h;cases e
 |d::r,e::t,_,h,h'=>by
  obtain⟨x,q,rfl,r1,t1⟩:=h;obtain⟨x',q',z,r2,t2⟩:=h';cases z;rw[Rep.inj r1 r2,RepL.inj t1 t2]
end
mutual
theorem Dat.eq_refl:∀d:Dat,Dat.eq d d=true
 |.non=>by simp[Dat.eq]
 |.bl _=>by simp[Dat.eq]
 |.int _=>by simp[Dat.eq]
 |.str _=>by simp[Dat.eq]
 |.lst xs=>by rw[Dat.eq];exact Dat.eqL_refl xs
 |.tup xs=>by rw[Dat.eq];exact Dat.eqL_refl xs
theorem Dat.eqL_refl:∀ds:List Dat,Dat.eqL ds ds=true
 |[]=>by simp[Dat.eqL]
 |d::r=>by rw[Dat.eqL,Dat.eq_refl d,Dat.eqL_refl r];rfl
end
theorem RepL.length{H:Hp}:∀{ds:List Dat}{xs:List V},RepL H ds xs->xs.length=ds.length
 |[],_,h=>by cases h;rfl
 |_::_,_,h=>by obtain⟨x,q,e,r,t⟩:=h;subst e;simp[RepL.length t]
theorem Dat.eqL_len:∀{xs ys:List Dat},xs.length≠ys.length->Dat.eqL xs ys=false
 |[],[],h=>absurd rfl h
 |[],_::_,_=>by simp[Dat.eqL]
 |_::_,[],_=>by simp[Dat.eqL]
 |x::r,y::q,h=>by
  rw[Dat.eqL,Dat.eqL_len (fun e=>h (by simp[e])),qCj]
theorem Dat.eqL_all:∀{xs ys:List Dat},xs.length=ys.length->∀(e:Nat->Bool),(∀j (h1:j<xs.length) (h2:j<ys.length),e j=Dat.eq xs[j] ys[j])->(qA4 xs.length).all e=Dat.eqL xs ys
 |[],[],_,_,_=>by simp[Dat.eqL]
 |[],_::_,h,_,_=>by simp at h
 |_::_,[],h,_,_=>by simp at h
 |x::r,y::q,h,e,he=>by
  have hl:r.length=q.length:=by simpa using h
  rw[qAv,qDs,qCb,Dat.eqL,he 0 (by simp) (by simp)]
  have:=Dat.eqL_all (xs:=r) (ys:=q) hl (fun j=>e (j+1)) (fun j h1 h2=>by
   rw[he (j+1) (by simpa using h1) (by simpa using h2)];simp)
  rw[<- this,qG6];rfl
theorem RepL.get{H:Hp}:∀{ds:List Dat}{xs:List V}{i:Nat}{x:V},RepL H ds xs->xs[i]?=some x->∃d,ds[i]?=some d/\Rep H d x
 |[],_,_,_,h,e=>by cases h;simp at e
 |d::_,_,0,_,h,e=>by obtain⟨x,q,e1,r,t⟩:=h;subst e1;simp at e;subst e;exact⟨d,rfl,r⟩
 |_::_,_,i+1,_,h,e=>by
  obtain⟨x,q,e1,r,t⟩:=h;subst e1;obtain⟨d',h1,h2⟩:=RepL.get (i:=i) t (by simpa using e);exact⟨d',by simpa using h1,h2⟩
theorem Dat.depL_mem{d:Dat}:∀{ds:List Dat},d∈ds->d.dep<=Dat.depL ds
 |_::_,h=>by
  rw[Dat.depL];rcases qAj.mp h with rfl|h
  ·exact Nat.le_max_left _ _
  ·exact qAi (Dat.depL_mem h) (Nat.le_max_right _ _)
section
variable{P:qGn}{w:World}{H:Hp}
theorem zDG(A:qGo):A.in1.units=A.units+1:=rfl
theorem zAZ{s:qGk}{a:Addr}{xs:List V}(ok:HOk P w H s.heap)(h:H a=some (.lst xs)):∃its:List Value,Vals xs its/\s.heap.IsList a its.toArray:=by
 obtain⟨_,its,n,r,e⟩:=ok a _ h;exact⟨its,r,⟨_,e,rfl,n,rfl⟩⟩
theorem zBI{s:qGk}{a:Addr}{xs:List V}(ok:HOk P w H s.heap)(h:H a=some (.tup xs)):∃its:List Value,Vals xs its/\s.heap.IsTuple a its.toArray:=by
 obtain⟨_,its,r,e⟩:=ok a _ h;exact⟨its,r,e⟩
theorem Rep.flat{d:Dat}{v:V}(h:Rep H d v)(hf:d.dep=0):zF0 v=true:=by
 cases d with
 |non=>cases h;rfl
 |bl _=>cases h;rfl
 |int _=>cases h;rfl
 |str _=>cases h;rfl
 |lst _=>simp[Dat.dep]at hf
 |tup _=>simp[Dat.dep]at hf
theorem Rep.flatEq{d e:Dat}{v u:V}(h:Rep H d v)(h':Rep H e u)(hf:d.dep=0)(hf':e.dep=0):eqV v u=Dat.eq d e:=by
 cases d<;>cases e<;>first
  |(simp[Dat.dep]at hf;done)
  |(simp[Dat.dep]at hf';done)
  |(cases h;cases h';simp[eqV,Dat.eq];done)
theorem zQB:∀(n:Nat){d e:Dat}{v u:V}{x y:Value}{A:qGo}{s:qGk},d.dep<=n->HOk P w H s.heap->Rep H d v->Rep H e u->RelV v x->RelV u y->A.units+n<cLine->qHu A s x y (Dat.eq d e):=by
 intro n;induction n with
 |zero=>
  intro d e v u x y A s hd ok h1 h2 r1 r2 hu;have f1:=h1.flat (by lia)
  by_cases he:e.dep=0
  ·have f2:=h2.flat he
   have:=zRQ (A:=A) (s:=s) r1 r2 f1 f2;rw[h1.flatEq h2 (by lia) he]at this;exact this
  ·have hu':A.units<cLine:=by lia
   cases e with
   |lst ys=>
    obtain⟨a,xs,rfl,ha,_⟩:=h2;obtain⟨its,_,hl⟩:=zAZ ok ha;cases r2;cases d with
    |non=>cases h1;cases r1;exact SeqAt.EqAt.none_list hl hu'
    |bl b=>cases h1;cases r1;exact SeqAt.EqAt.bool_list b hl hu'
    |int i=>cases h1;obtain⟨t,rfl⟩:=r1;exact SeqAt.EqAt.int_list i t hl hu'
    |str z=>cases h1;obtain⟨t,rfl⟩:=r1;exact SeqAt.EqAt.str_list z t hl hu'
    |lst _=>simp[Dat.dep]at hd
    |tup _=>simp[Dat.dep]at hd
   |tup ys=>
    obtain⟨a,xs,rfl,ha,_⟩:=h2;obtain⟨its,_,hl⟩:=zBI ok ha;cases r2;cases d with
    |non=>cases h1;cases r1;exact SeqAt.EqAt.none_tuple hl hu'
    |bl b=>cases h1;cases r1;exact SeqAt.EqAt.bool_tuple b hl hu'
    |int i=>cases h1;obtain⟨t,rfl⟩:=r1;exact SeqAt.EqAt.int_tuple i t hl hu'
    |str z=>cases h1;obtain⟨t,rfl⟩:=r1;exact SeqAt.EqAt.str_tuple z t hl hu'
    |lst _=>simp[Dat.dep]at hd
    |tup _=>simp[Dat.dep]at hd
   |_=>simp[Dat.dep]at he
 |succ n ih=>
  intro d e v u x y A s hd ok h1 h2 r1 r2 hu;by_cases hd0:d.dep<=n
  ·exact ih hd0 ok h1 h2 r1 r2 (by lia)
  have hu':A.units<cLine:=by lia
  have pairs:∀{ds es:List Dat}{xs ys:List V}{its its2:List Value},Dat.depL ds<=n->RepL H ds xs->RepL H es ys->Vals xs its->Vals ys its2->∀j (h1:j<its.toArray.size) (h2:j<its2.toArray.size),
    qHu A.in1 s its.toArray[j] its2.toArray[j] (Dat.eq (ds.getD j .non) (es.getD j .non)):=by
   intro ds es xs ys its its2 hdl q1 q2 v1 v2 j j1 j2;have l1:j<xs.length:=by have:=v1.length;simp at j1;lia
   have l2:j<ys.length:=by have:=v2.length;simp at j2;lia
   obtain⟨d',e1,p1⟩:=q1.get (i:=j) (x:=xs[j]) (by simp[l1]);obtain⟨e',e2,p2⟩:=q2.get (i:=j) (x:=ys[j]) (by simp[l2]);obtain⟨w1,g1,z1⟩:=v1.get (i:=j) (x:=xs[j]) (by simp[l1]);obtain⟨w2,g2,z2⟩:=v2.get (i:=j) (x:=ys[j]) (by simp[l2]);have k1:its.toArray[j]=w1:=by
    obtain⟨_,k⟩:=qA2.mp g1;simpa using k
   have k2:its2.toArray[j]=w2:=by
    obtain⟨_,k⟩:=qA2.mp g2;simpa using k
   rw[k1,k2,qA0,qA0,e1,e2];exact ih (qAi (Dat.depL_mem (qAz e1)) hdl) ok p1 p2 z1 z2 (by rw[zDG];lia)
  cases d with
  |lst ds=>
   have hdl:Dat.depL ds<=n:=by rw[Dat.dep]at hd;lia
   obtain⟨a,xs,rfl,ha,q1⟩:=h1;obtain⟨its,v1,hl1⟩:=zAZ ok ha;cases r1;cases e with
   |non=>cases h2;cases r2;exact SeqAt.EqAt.list_none hl1 hu'
   |bl b=>cases h2;cases r2;exact SeqAt.EqAt.list_bool b hl1 hu'
   |int i=>cases h2;obtain⟨t,rfl⟩:=r2;exact SeqAt.EqAt.list_int i t hl1 hu'
   |str z=>cases h2;obtain⟨t,rfl⟩:=r2;exact SeqAt.EqAt.list_str z t hl1 hu'
   |tup es=>
    obtain⟨b,ys,rfl,hb,q2⟩:=h2;obtain⟨its2,v2,hl2⟩:=zBI ok hb;cases r2;exact qHm (zPR ha hb (fun z=>nomatch z)) (qIe hl1 hl2 hu')
   |lst es=>
    obtain⟨b,ys,rfl,hb,q2⟩:=h2;obtain⟨its2,v2,hl2⟩:=zAZ ok hb;cases r2;have len1:its.toArray.size=ds.length:=by have:=v1.length;have:=q1.length;simp;lia
    have len2:its2.toArray.size=es.length:=by have:=v2.length;have:=q2.length;simp;lia
    show qHu A s (.ref a) (.ref b) (Dat.eqL ds es);by_cases hne:a=b
    ·
     subst hne;rw[ha]at hb;cases hb;have same:Dat.eqL ds es=true:=by
      rw[RepL.inj q1 q2];exact Dat.eqL_refl _
     rw[same];exact qHv _
    ·refine qHm hne ?_
     by_cases hs:ds.length=es.length
     ·have:=qJd (A:=A) (s:=s) hl1 hl2 (by rw[len1,len2,hs]) hu' (pairs hdl q1 q2 v1 v2)
      rw[len1,Dat.eqL_all hs _ (fun j h1 h2=>by rw[qA0,qA0];simp[h1,h2])]at this;exact this
     ·rw[Dat.eqL_len hs];exact qI5 hl1 hl2 (by rw[len1,len2];simpa using hs) hu'
  |tup ds=>
   have hdl:Dat.depL ds<=n:=by rw[Dat.dep]at hd;lia
   obtain⟨a,xs,rfl,ha,q1⟩:=h1;obtain⟨its,v1,hl1⟩:=zBI ok ha;cases r1;cases e with
   |non=>cases h2;cases r2;exact SeqAt.EqAt.tuple_none hl1 hu'
   |bl b=>cases h2;cases r2;exact SeqAt.EqAt.tuple_bool b hl1 hu'
   |int i=>cases h2;obtain⟨t,rfl⟩:=r2;exact SeqAt.EqAt.tuple_int i t hl1 hu'
   |str z=>cases h2;obtain⟨t,rfl⟩:=r2;exact SeqAt.EqAt.tuple_str z t hl1 hu'
   |lst es=>
    obtain⟨b,ys,rfl,hb,q2⟩:=h2;obtain⟨its2,v2,hl2⟩:=zAZ ok hb;cases r2;exact qHm (zPR ha hb (fun z=>nomatch z)) (qIf hl1 hl2 hu')
   |tup es=>
    obtain⟨b,ys,rfl,hb,q2⟩:=h2;obtain⟨its2,v2,hl2⟩:=zBI ok hb;cases r2;have len1:its.toArray.size=ds.length:=by have:=v1.length;have:=q1.length;simp;lia
    have len2:its2.toArray.size=es.length:=by have:=v2.length;have:=q2.length;simp;lia
    show qHu A s (.ref a) (.ref b) (Dat.eqL ds es);by_cases hne:a=b
    ·subst hne;rw[ha]at hb;cases hb;have same:Dat.eqL ds es=true:=by
      rw[RepL.inj q1 q2];exact Dat.eqL_refl _
     rw[same];exact qHv _
    ·refine qHm hne ?_
     have:=qJ7 (A:=A) (s:=s) hl1 hl2 hu' (pairs hdl q1 q2 v1 v2);by_cases hs:ds.length=es.length
     ·rw[len1,len2,<- hs,qEt,beq_self_eq_true,qDg,Dat.eqL_all hs _ (fun j h1 h2=>by rw[qA0,qA0];simp[h1,h2])]at this;exact this
     ·rw[len1,len2,show(ds.length==es.length)=false by simpa using hs,qCj]at this;rw[Dat.eqL_len hs];exact this
  |_=>simp[Dat.dep]at hd0
theorem zFI{n:Nat}{A:qGo}{s:qGk}(ok:HOk P w H s.heap){ds es:List Dat}{xs ys:List V}{its its2:List Value}(hdl:Dat.depL ds<=n)(hu:A.units+n<cLine)(q1:RepL H ds xs)(q2:RepL H es ys)(v1:Vals xs its)(v2:Vals ys its2) :
  ∀j (h1:j<its.toArray.size) (h2:j<its2.toArray.size),qHu A s its.toArray[j] its2.toArray[j] (Dat.eq (ds.getD j .non) (es.getD j .non)):=by
 intro j j1 j2;have l1:j<xs.length:=by have:=v1.length;simp at j1;lia
 have l2:j<ys.length:=by have:=v2.length;simp at j2;lia
 obtain⟨d',e1,p1⟩:=q1.get (i:=j) (x:=xs[j]) (by simp[l1]);obtain⟨e',e2,p2⟩:=q2.get (i:=j) (x:=ys[j]) (by simp[l2]);obtain⟨w1,g1,z1⟩:=v1.get (i:=j) (x:=xs[j]) (by simp[l1]);obtain⟨w2,g2,z2⟩:=v2.get (i:=j) (x:=ys[j]) (by simp[l2]);have k1:its.toArray[j]=w1:=by
  obtain⟨_,k⟩:=qA2.mp g1;simpa using k
 have k2:its2.toArray[j]=w2:=by
  obtain⟨_,k⟩:=qA2.mp g2;simpa using k
 rw[k1,k2,qA0,qA0,e1,e2];exact zQB n (qAi (Dat.depL_mem (qAz e1)) hdl) ok p1 p2 z1 z2 hu
theorem zPB(n:Nat){d e:Dat}{v u:V}{x y:Value}{A:qGo}{s:qGk}(hd:d.dep<=n)(ok:HOk P w H s.heap)(h1:Rep H d v)(h2:Rep H e u)(r1:RelV v x)(r2:RelV u y)(hu:A.units+n<cLine):qJp A s x y (Dat.eq d e):=by
 have hu':A.units<cLine:=by lia
 cases d with
 |non=>
  cases h1;cases r1;cases e with
  |non=>
   cases h2;cases r2;exact SeqAt.RcAt.none_none
  |bl b=>
   cases h2;cases r2;exact SeqAt.RcAt.none_bool b
  |int b=>
   cases h2;obtain⟨t2,rfl⟩:=r2;exact SeqAt.RcAt.none_int b t2
  |str b=>
   cases h2;obtain⟨t2,rfl⟩:=r2;exact SeqAt.RcAt.none_str b t2
  |lst es=>
   obtain⟨p2,ys,rfl,hb,q2⟩:=h2;obtain⟨its2,v2,hl2⟩:=zAZ ok hb;cases r2;exact SeqAt.RcAt.none_list hl2 hu'
  |tup es=>
   obtain⟨p2,ys,rfl,hb,q2⟩:=h2;obtain⟨its2,v2,hl2⟩:=zBI ok hb;cases r2;exact SeqAt.RcAt.none_tuple hl2 hu'
 |bl a=>
  cases h1;cases r1;cases e with
  |non=>
   cases h2;cases r2;exact SeqAt.RcAt.bool_none a
  |bl b=>
   cases h2;cases r2;exact SeqAt.RcAt.bool_bool a b
  |int b=>
   cases h2;obtain⟨t2,rfl⟩:=r2;exact SeqAt.RcAt.bool_int a b t2
  |str b=>
   cases h2;obtain⟨t2,rfl⟩:=r2;exact SeqAt.RcAt.bool_str a b t2
  |lst es=>
   obtain⟨p2,ys,rfl,hb,q2⟩:=h2;obtain⟨its2,v2,hl2⟩:=zAZ ok hb;cases r2;exact SeqAt.RcAt.bool_list a hl2 hu'
  |tup es=>
   obtain⟨p2,ys,rfl,hb,q2⟩:=h2;obtain⟨its2,v2,hl2⟩:=zBI ok hb;cases r2;exact SeqAt.RcAt.bool_tuple a hl2 hu'
 |int a=>
  cases h1;obtain⟨t1,rfl⟩:=r1;cases e with
  |non=>
   cases h2;cases r2;exact SeqAt.RcAt.int_none a t1
  |bl b=>
   cases h2;cases r2;exact SeqAt.RcAt.int_bool a t1 b
  |int b=>
   cases h2;obtain⟨t2,rfl⟩:=r2;exact SeqAt.RcAt.int_int a t1 b t2
  |str b=>
   cases h2;obtain⟨t2,rfl⟩:=r2;exact SeqAt.RcAt.int_str a t1 b t2
  |lst es=>
   obtain⟨p2,ys,rfl,hb,q2⟩:=h2;obtain⟨its2,v2,hl2⟩:=zAZ ok hb;cases r2;exact SeqAt.RcAt.int_list a t1 hl2 hu'
  |tup es=>
   obtain⟨p2,ys,rfl,hb,q2⟩:=h2;obtain⟨its2,v2,hl2⟩:=zBI ok hb;cases r2;exact SeqAt.RcAt.int_tuple a t1 hl2 hu'
 |str a=>
  cases h1;obtain⟨t1,rfl⟩:=r1;cases e with
  |non=>
   cases h2;cases r2;exact SeqAt.RcAt.str_none a t1
  |bl b=>
   cases h2;cases r2;exact SeqAt.RcAt.str_bool a t1 b
  |int b=>
   cases h2;obtain⟨t2,rfl⟩:=r2;exact SeqAt.RcAt.str_int a t1 b t2
  |str b=>
   cases h2;obtain⟨t2,rfl⟩:=r2;exact SeqAt.RcAt.str_str a t1 b t2
  |lst es=>
   obtain⟨p2,ys,rfl,hb,q2⟩:=h2;obtain⟨its2,v2,hl2⟩:=zAZ ok hb;cases r2;exact SeqAt.RcAt.str_list a t1 hl2 hu'
  |tup es=>
   obtain⟨p2,ys,rfl,hb,q2⟩:=h2;obtain⟨its2,v2,hl2⟩:=zBI ok hb;cases r2;exact SeqAt.RcAt.str_tuple a t1 hl2 hu'
 |lst ds=>
  have hdl:Dat.depL ds+1<=n:=by rw[Dat.dep]at hd;exact hd
  obtain⟨p,xs,rfl,ha,q1⟩:=h1;obtain⟨its,v1,hl1⟩:=zAZ ok ha;cases r1;cases e with
  |non=>
   cases h2;cases r2;exact SeqAt.RcAt.list_none hl1 hu'
  |bl b=>
   cases h2;cases r2;exact SeqAt.RcAt.list_bool b hl1 hu'
  |int b=>
   cases h2;obtain⟨t2,rfl⟩:=r2;exact SeqAt.RcAt.list_int b t2 hl1 hu'
  |str b=>
   cases h2;obtain⟨t2,rfl⟩:=r2;exact SeqAt.RcAt.list_str b t2 hl1 hu'
  |lst es=>
   obtain⟨p2,ys,rfl,hb,q2⟩:=h2;obtain⟨its2,v2,hl2⟩:=zAZ ok hb;cases r2;have len1:its.toArray.size=ds.length:=by have:=v1.length;have:=q1.length;simp;lia
   have len2:its2.toArray.size=es.length:=by have:=v2.length;have:=q2.length;simp;lia
   show qJp A s (.ref p) (.ref p2) (Dat.eqL ds es);by_cases hs:ds.length=es.length
   ·have:=qJd (A:=A) (s:=s) hl1 hl2 (by rw[len1,len2,hs]) hu' (zFI ok (by lia) (by rw[zDG];lia:A.in1.units+(n-1)<cLine) q1 q2 v1 v2)
    rw[len1,Dat.eqL_all hs _ (fun j h1 h2=>by rw[qA0,qA0];simp[h1,h2])]at this;exact this
   ·rw[Dat.eqL_len hs];exact qI5 hl1 hl2 (by rw[len1,len2];simpa using hs) hu'
  |tup es=>
   obtain⟨p2,ys,rfl,hb,q2⟩:=h2;obtain⟨its2,v2,hl2⟩:=zBI ok hb;cases r2;exact qIe hl1 hl2 hu'
 |tup ds=>
  have hdl:Dat.depL ds+1<=n:=by rw[Dat.dep]at hd;exact hd
  obtain⟨p,xs,rfl,ha,q1⟩:=h1;obtain⟨its,v1,hl1⟩:=zBI ok ha;cases r1;cases e with
  |non=>
   cases h2;cases r2;exact SeqAt.RcAt.tuple_none hl1 hu'
  |bl b=>
   cases h2;cases r2;exact SeqAt.RcAt.tuple_bool b hl1 hu'
  |int b=>
   cases h2;obtain⟨t2,rfl⟩:=r2;exact SeqAt.RcAt.tuple_int b t2 hl1 hu'
  |str b=>
   cases h2;obtain⟨t2,rfl⟩:=r2;exact SeqAt.RcAt.tuple_str b t2 hl1 hu'
  |lst es=>
   obtain⟨p2,ys,rfl,hb,q2⟩:=h2;obtain⟨its2,v2,hl2⟩:=zAZ ok hb;cases r2;exact qIf hl1 hl2 hu'
  |tup es=>
   obtain⟨p2,ys,rfl,hb,q2⟩:=h2;obtain⟨its2,v2,hl2⟩:=zBI ok hb;cases r2;have len1:its.toArray.size=ds.length:=by have:=v1.length;have:=q1.length;simp;lia
   have len2:its2.toArray.size=es.length:=by have:=v2.length;have:=q2.length;simp;lia
   show qJp A s (.ref p) (.ref p2) (Dat.eqL ds es);have:=qJ7 (A:=A) (s:=s) hl1 hl2 hu' (zFI ok (by lia) (by rw[zDG];lia:A.in1.units+(n-1)<cLine) q1 q2 v1 v2)
   by_cases hs:ds.length=es.length
   ·rw[len1,len2,<- hs,qEt,beq_self_eq_true,qDg,Dat.eqL_all hs _ (fun j h1 h2=>by rw[qA0,qA0];simp[h1,h2])]at this;exact this
   ·rw[len1,len2,show(ds.length==es.length)=false by simpa using hs,qCj]at this;rw[Dat.eqL_len hs];exact this
theorem zLR(n:Nat){d e:Dat}{v u:V}{x y:Value}{A:qGo}{s:qGk}(hd:d.dep<=n)(ok:HOk P w H s.heap)(h1:Rep H d v)(h2:Rep H e u)(r1:RelV v x)(r2:RelV u y)(hu:A.units+n<cLine):qJc A s x y (!Dat.eq d e):=by
 have hu':A.units<cLine:=by lia
 cases d with
 |non=>
  cases h1;cases r1;cases e with
  |non=>
   cases h2;cases r2;exact SeqAt.RcNeAt.none_none
  |bl b=>
   cases h2;cases r2;exact SeqAt.RcNeAt.none_bool b
  |int b=>
   cases h2;obtain⟨t2,rfl⟩:=r2;exact SeqAt.RcNeAt.none_int b t2
  |str b=>
   cases h2;obtain⟨t2,rfl⟩:=r2;exact SeqAt.RcNeAt.none_str b t2
  |lst es=>
   obtain⟨p2,ys,rfl,hb,q2⟩:=h2;obtain⟨its2,v2,hl2⟩:=zAZ ok hb;cases r2;exact SeqAt.RcNeAt.none_list hl2 hu'
  |tup es=>
   obtain⟨p2,ys,rfl,hb,q2⟩:=h2;obtain⟨its2,v2,hl2⟩:=zBI ok hb;cases r2;exact SeqAt.RcNeAt.none_tuple hl2 hu'
 |bl a=>
  cases h1;cases r1;cases e with
  |non=>
   cases h2;cases r2;exact SeqAt.RcNeAt.bool_none a
  |bl b=>
   cases h2;cases r2;exact SeqAt.RcNeAt.bool_bool a b
  |int b=>
   cases h2;obtain⟨t2,rfl⟩:=r2;exact SeqAt.RcNeAt.bool_int a b t2
  |str b=>
   cases h2;obtain⟨t2,rfl⟩:=r2;exact SeqAt.RcNeAt.bool_str a b t2
  |lst es=>
   obtain⟨p2,ys,rfl,hb,q2⟩:=h2;obtain⟨its2,v2,hl2⟩:=zAZ ok hb;cases r2;exact SeqAt.RcNeAt.bool_list a hl2 hu'
  |tup es=>
   obtain⟨p2,ys,rfl,hb,q2⟩:=h2;obtain⟨its2,v2,hl2⟩:=zBI ok hb;cases r2;exact SeqAt.RcNeAt.bool_tuple a hl2 hu'
 |int a=>
  cases h1;obtain⟨t1,rfl⟩:=r1;cases e with
  |non=>
   cases h2;cases r2;exact SeqAt.RcNeAt.int_none a t1
  |bl b=>
   cases h2;cases r2;exact SeqAt.RcNeAt.int_bool a t1 b
  |int b=>
   cases h2;obtain⟨t2,rfl⟩:=r2;exact SeqAt.RcNeAt.int_int a t1 b t2
  |str b=>
   cases h2;obtain⟨t2,rfl⟩:=r2;exact SeqAt.RcNeAt.int_str a t1 b t2
  |lst es=>
   obtain⟨p2,ys,rfl,hb,q2⟩:=h2;obtain⟨its2,v2,hl2⟩:=zAZ ok hb;cases r2;exact SeqAt.RcNeAt.int_list a t1 hl2 hu'
  |tup es=>
   obtain⟨p2,ys,rfl,hb,q2⟩:=h2;obtain⟨its2,v2,hl2⟩:=zBI ok hb;cases r2;exact SeqAt.RcNeAt.int_tuple a t1 hl2 hu'
 |str a=>
  cases h1;obtain⟨t1,rfl⟩:=r1;cases e with
  |non=>
   cases h2;cases r2;exact SeqAt.RcNeAt.str_none a t1
  |bl b=>
   cases h2;cases r2;exact SeqAt.RcNeAt.str_bool a t1 b
  |int b=>
   cases h2;obtain⟨t2,rfl⟩:=r2;exact SeqAt.RcNeAt.str_int a t1 b t2
  |str b=>
   cases h2;obtain⟨t2,rfl⟩:=r2;exact SeqAt.RcNeAt.str_str a t1 b t2
  |lst es=>
   obtain⟨p2,ys,rfl,hb,q2⟩:=h2;obtain⟨its2,v2,hl2⟩:=zAZ ok hb;cases r2;exact SeqAt.RcNeAt.str_list a t1 hl2 hu'
  |tup es=>
   obtain⟨p2,ys,rfl,hb,q2⟩:=h2;obtain⟨its2,v2,hl2⟩:=zBI ok hb;cases r2;exact SeqAt.RcNeAt.str_tuple a t1 hl2 hu'
 |lst ds=>
  have hdl:Dat.depL ds+1<=n:=by rw[Dat.dep]at hd;exact hd
  obtain⟨p,xs,rfl,ha,q1⟩:=h1;obtain⟨its,v1,hl1⟩:=zAZ ok ha;cases r1;cases e with
  |non=>
   cases h2;cases r2;exact SeqAt.RcNeAt.list_none hl1 hu'
  |bl b=>
   cases h2;cases r2;exact SeqAt.RcNeAt.list_bool b hl1 hu'
  |int b=>
   cases h2;obtain⟨t2,rfl⟩:=r2;exact SeqAt.RcNeAt.list_int b t2 hl1 hu'
  |str b=>
   cases h2;obtain⟨t2,rfl⟩:=r2;exact SeqAt.RcNeAt.list_str b t2 hl1 hu'
  |lst es=>
   obtain⟨p2,ys,rfl,hb,q2⟩:=h2;obtain⟨its2,v2,hl2⟩:=zAZ ok hb;cases r2;have len1:its.toArray.size=ds.length:=by have:=v1.length;have:=q1.length;simp;lia
   have len2:its2.toArray.size=es.length:=by have:=v2.length;have:=q2.length;simp;lia
   show qJc A s (.ref p) (.ref p2) (!Dat.eqL ds es);by_cases hs:ds.length=es.length
   ·have:=SeqAt.RcNeAt.lists (A:=A) (s:=s) hl1 hl2 (by rw[len1,len2,hs]) hu' (zFI ok (by lia) (by rw[zDG];lia:A.in1.units+(n-1)<cLine) q1 q2 v1 v2)
    rw[len1,Dat.eqL_all hs _ (fun j h1 h2=>by rw[qA0,qA0];simp[h1,h2])]at this;exact this
   ·rw[Dat.eqL_len hs];exact SeqAt.RcNeAt.lists_lengths hl1 hl2 (by rw[len1,len2];simpa using hs) hu'
  |tup es=>
   obtain⟨p2,ys,rfl,hb,q2⟩:=h2;obtain⟨its2,v2,hl2⟩:=zBI ok hb;cases r2;exact SeqAt.RcNeAt.list_tuple hl1 hl2 hu'
 |tup ds=>
  have hdl:Dat.depL ds+1<=n:=by rw[Dat.dep]at hd;exact hd
  obtain⟨p,xs,rfl,ha,q1⟩:=h1;obtain⟨its,v1,hl1⟩:=zBI ok ha;cases r1;cases e with
  |non=>
   cases h2;cases r2;exact SeqAt.RcNeAt.tuple_none hl1 hu'
  |bl b=>
   cases h2;cases r2;exact SeqAt.RcNeAt.tuple_bool b hl1 hu'
  |int b=>
   cases h2;obtain⟨t2,rfl⟩:=r2;exact SeqAt.RcNeAt.tuple_int b t2 hl1 hu'
  |str b=>
   cases h2;obtain⟨t2,rfl⟩:=r2;exact SeqAt.RcNeAt.tuple_str b t2 hl1 hu'
  |lst es=>
   obtain⟨p2,ys,rfl,hb,q2⟩:=h2;obtain⟨its2,v2,hl2⟩:=zAZ ok hb;cases r2;exact SeqAt.RcNeAt.tuple_list hl1 hl2 hu'
  |tup es=>
   obtain⟨p2,ys,rfl,hb,q2⟩:=h2;obtain⟨its2,v2,hl2⟩:=zBI ok hb;cases r2;have len1:its.toArray.size=ds.length:=by have:=v1.length;have:=q1.length;simp;lia
   have len2:its2.toArray.size=es.length:=by have:=v2.length;have:=q2.length;simp;lia
   show qJc A s (.ref p) (.ref p2) (!Dat.eqL ds es);have:=SeqAt.RcNeAt.tuples (A:=A) (s:=s) hl1 hl2 hu' (zFI ok (by lia) (by rw[zDG];lia:A.in1.units+(n-1)<cLine) q1 q2 v1 v2)
   by_cases hs:ds.length=es.length
   ·rw[len1,len2,<- hs,qEt,beq_self_eq_true,qDg,Dat.eqL_all hs _ (fun j h1 h2=>by rw[qA0,qA0];simp[h1,h2])]at this;exact this
   ·rw[len1,len2,show(ds.length==es.length)=false by simpa using hs,qCj]at this;rw[Dat.eqL_len hs];exact this
end
section
variable{X:Cx}
noncomputable def rEqD:R2:=fun x y H Q=>∃d e,Rep H d x/\Rep H e y/\d.dep<=40/\Q (.bl (Dat.eq d e)) H
noncomputable def rNeD:R2:=fun x y H Q=>∃d e,Rep H d x/\Rep H e y/\d.dep<=40/\Q (.bl (!Dat.eq d e)) H
theorem zVA(hu:X.A.units+64<cLine):OpR X (compareOp .Eq) rEqD:=by
 intro pins s σ H x y v u Q I rx ry h;obtain⟨d,e,h1,h2,hd,q⟩:=h;exact zPB 40 hd I.hok h1 h2 rx ry (by lia) _ _ _ _ ⟨.bl _,H,I,rfl,q⟩
theorem zV8(hu:X.A.units+64<cLine):OpR X (compareOp .NotEq) rNeD:=by
 intro pins s σ H x y v u Q I rx ry h;obtain⟨d,e,h1,h2,hd,q⟩:=h;exact zLR 40 hd I.hok h1 h2 rx ry (by lia) _ _ _ _ ⟨.bl _,H,I,rfl,q⟩
noncomputable def zFP(H:Hp):V->Option String
 |.non=>some "NoneType"
 |.bl _=>some "bool"
 |.int _=>some "int"
 |.str _=>some "str"
 |.ref a=>match H a with
  |some (.lst _)=>some "list"
  |some (.tup _)=>some "tuple"
  |some (.dK _)=>some "dict"
  |_=>none
 |_=>none
noncomputable def zTG(T n:String):Bool:=T==n||(T == "bool" && n == "int")
theorem zKC:zCT X (.builtin "isinstance") (fun vs H Q=>∃x n T,vs=[x,.ty n]/\zFP H x=some T/\n∈["int","bool","str","list","tuple","dict"]/\Q (.bl (zTG T n)) H):=by
 intro pins s σ H vs us Q I r h;obtain⟨x,n,T,rfl,ht,hn,q⟩:=h;obtain⟨u,w',rfl,rx,rn⟩:=zOT r;cases(show w'=qIh n from rn)
 have key:∃t,TyOf X.K H x t/\t=.type T:=by
  cases x with
  |non=>cases ht;exact⟨_,.non,rfl⟩
  |bl b=>cases ht;exact⟨_,.bl b,rfl⟩
  |int b=>cases ht;exact⟨_,.int b,rfl⟩
  |str b=>cases ht;exact⟨_,.str b,rfl⟩
  |ref a=>
   unfold zFP at ht;dsimp only at ht;cases e:H a with
   |none=>rw[e]at ht;cases ht
   |some o=>
    rw[e]at ht;cases o with
    |lst xs=>cases ht;exact⟨_,.lst e,rfl⟩
    |tup xs=>cases ht;exact⟨_,.tup e,rfl⟩
    |dK xs=>cases ht;exact⟨_,.dK e,rfl⟩
    |_=>cases ht
  |_=>cases ht
 obtain⟨t,ty,rfl⟩:=key;have hT:T∈["NoneType","bool","int","str","list","tuple","dict"]:=by
  cases x with
  |non=>cases ht;decide
  |bl b=>cases ht;decide
  |int b=>cases ht;decide
  |str b=>cases ht;decide
  |ref a=>
   unfold zFP at ht;dsimp only at ht;cases e:H a with
   |none=>rw[e]at ht;cases ht
   |some o=>
    rw[e]at ht;cases o with
    |lst xs=>cases ht;decide
    |tup xs=>cases ht;decide
    |dK xs=>cases ht;decide
    |_=>cases ht
  |_=>cases ht
 have e:qB5 X.K (.type T) (.type n)=some (zTG T n):=by
  simp only[qAj,List.mem_nil_iff,or_false]at hT hn;rcases hT with rfl|rfl|rfl|rfl|rfl|rfl|rfl<;>rcases hn with rfl|rfl|rfl|rfl|rfl|rfl<;>rfl
 exact zNQ I rx ty e fun tk=>⟨.bl _,H,I.tok tk,rfl,q⟩
theorem zJP{prog:qGn}{w:World}{A:qGo}{bs:List Bool}:TruthOf prog w A (fun i v=>(bs.map qHj).toArray[i]?=some v) (fun i=>bs.getD i false):=by
 intro i v s Q E hv hq;have hv':(bs[i]?).map qHj=some v:=by simpa using hv
 cases e:bs[i]? with
 |none=>rw[e]at hv';cases hv'
 |some b=>
  rw[e]at hv';cases hv';dsimp only at hq;rw[qA0,e]at hq;exact wpAny_truthy_bool hq
theorem zGN:∀{bs:List Bool}{its:List Value},Vals (bs.map V.bl) its->its=bs.map qHj
 |[],_,.nil=>rfl
 |b::r,_,.cons h t=>by
  have h':_=qHj b:=h;rw[h',zGN t];rfl
theorem zLA:∀(bs:List Bool),(qA4 bs.length).all (fun i=>bs.getD i false)=bs.all id
 |[]=>rfl
 |b::r=>by
  rw[qAv,qDs,qCb,qCb,<- zLA r,qG6];rfl
theorem zQP(hc:X.calm=true):zCT X (.builtin "all") (fun vs H Q=>∃(a:Addr)(bs:List Bool),vs=[.ref a]/\H a=some (.lst (bs.map V.bl))/\Q (.bl (bs.all id)) H):=by
 intro pins s σ H vs us Q I r h;obtain⟨a,bs,rfl,ha,q⟩:=h;obtain⟨u,rfl,rx⟩:=zGK r;cases rx;obtain⟨its,rv,hl⟩:=zAZ I.hok ha;have e:=zGN rv;subst e;refine call_all_walk (wpAny_pyIter_list hl ?_);have hlt:a<s.heap.objs.size:=by obtain⟨o,ho,_⟩:=hl;exact qGm ho
 refine⟨s.heap.objs.size,_,_,_,_,_,fun i=>bs.getD i false,rfl,Walks.list (show X.A.in1.handled=none from I.ok.hd hc) s.heap.objs.size a (qAm hlt) _,
  ⟨⟨_,qGs _ rfl,rfl,rfl⟩,hl.at fun o e=>qGl _ e⟩,zJP,fun h' tk hk=>?_⟩
 refine⟨.bl _,H,I.kept (t':=tk) fun b o e=>hk b o ?_ (qGl _ e),rfl,?_⟩
 ·have:=qGm e
  simp only[qD3];exact qAm this
 ·have:(bs.map qHj).toArray.size=bs.length:=by simp
  rw[this,zLA];exact q
noncomputable def zHM(lo:Int)(n:Nat):List V:=(qA4 n).map fun i=>.int (lo+(i:Nat))
theorem zFM:∀{xs:List V}{its:List Value},xs.length=its.length->(∀(j:Nat)(x:V)(v:Value),xs[j]?=some x->its[j]?=some v->RelV x v)->Vals xs its
 |[],[],_,_=>.nil
 |[],_::_,h,_=>by simp at h
 |_::_,[],h,_=>by simp at h
 |x::xs,v::its,h,g=>.cons (g 0 x v rfl rfl) (zFM (by simpa using h) fun j y u e1 e2=>g (j+1) y u (by simpa using e1) (by simpa using e2))
theorem zMB{lo:Int}{n:Nat}{its:List Value}(hl:its.length=n)(h:∀(j:Nat) (v:Value),its[j]?=some v->∃t,v=qIy (lo+(j:Int)*1) t):Vals (zHM lo n) its:=by
 refine zFM (by simp[zHM,hl]) fun j x v e1 e2=>?_
 unfold zHM at e1;rw[qAc]at e1;cases e:(qA4 n)[j]? with
 |none=>rw[e]at e1;cases e1
 |some i=>
  rw[e]at e1;cases e1;have hi:i=j:=by
   obtain⟨h1,h2⟩:=qA2.mp e;rw[qD4]at h2;exact h2.symm
  subst hi;obtain⟨t,ht⟩:=h i v e2;exact⟨t,by rw[ht,qGb]⟩
theorem zI0(hc:X.calm=true):zCT X (.type "list") (fun vs H Q=>∃p lo hi,vs=[.ref p]/\H p=some (.rng lo hi)/\(-(2 ^ 62)<=lo/\lo<2 ^ 62/\-(2 ^ 62)<=hi/\hi<2 ^ 62)/\hi-lo<=1000000/\∀l,H l=none->Q (.ref l) (upd H l (.lst (zHM lo (hi-lo).toNat)))):=by
 intro pins s σ H vs us Q I r h;obtain⟨p,lo,hi,rfl,hp,⟨b1,b2,b3,b4⟩,hz,q⟩:=h;obtain⟨u,rfl,rx⟩:=zGK r;cases rx;obtain⟨t,u,v,e⟩:=(show ObjOk X.prog X.w H s.heap p (.rng lo hi) from I.hok p _ hp)
 have hn:qI7 lo hi 1=(((hi-lo).toNat:Nat):Int):=by rw[rangeSize_one];split<;>lia
 refine call_list_range (n:=(hi-lo).toNat) (I.ok.hd hc) e (small_one b1 b2 b3 b4) hn (by lia) fun h' tk acc' c' hk hS hacc=>?_
 have rv:Vals (zHM lo (hi-lo).toNat) acc'.toList:=zMB (by simpa using hacc.1) fun j v hj=>hacc.2 j v (by simpa using hj)
 refine⟨.ref _,_,I.laid (o:=.lst (zHM lo (hi-lo).toNat)) hk (qA9 _) ⟨?_,acc'.toList,c',rv,by simpa using hS⟩,rfl,q _ I.fresh⟩;have hl:(zHM lo (hi-lo).toNat).length=(hi-lo).toNat:=by simp[zHM]
 rw[hl,qGy];lia
def zSP:R2:=fun x y H Q=>match x,y with
 |.int i,.int j=>Q (.int (i+j)) H
 |.str i,.str j=>i.length+j.length<=sizeLine/\Q (.str (i++j)) H
 |.ref l,.ref b=>∃xs zs,H l=some (.lst xs)/\H b=some (.lst zs)/\xs.length+zs.length<=sizeLine/\∀p,H p=none->Q (.ref p) (upd H p (.lst (xs++zs)))
 |_,_=>False
theorem zBQ:OpR X (binaryOp .Add) zSP:=by
 intro pins s σ H x y v u Q I rx ry h;cases x<;>cases y<;>first
  |exact zVC pins s σ H _ _ v u Q I rx ry ⟨_,_,rfl,rfl,h⟩
  |exact zLS pins s σ H _ _ v u Q I rx ry ⟨_,_,rfl,rfl,h.1,h.2⟩
  |(obtain⟨xs,zs,h1,h2,h3,h4⟩:=h;exact zVB pins s σ H _ _ v u Q I rx ry ⟨_,_,xs,zs,rfl,rfl,h1,h2,h3,h4⟩)
  |exact qA8 h
noncomputable def rMulU:R2:=fun x y H Q=>match x,y with
 |.int i,.int j=>CMul i j/\Q (.int (i*j)) H
 |_,_=>False
noncomputable def zUP:R2:=fun x y H Q=>match x,y with
 |.int i,.int j=>Q (.int (i-j)) H
 |_,_=>False
theorem zU6:OpR X (binaryOp .Sub) zUP:=by
 intro pins s σ H x y v u Q I rx ry h;cases x<;>cases y<;>first
  |exact zV7 pins s σ H _ _ v u Q I rx ry ⟨_,_,rfl,rfl,h⟩
  |exact qA8 h
noncomputable def zUR:R2:=fun x y H Q=>match x,y with
 |.int i,.int j=>0<j/\Q (.int (i%j)) H
 |_,_=>False
theorem zCV:OpR X (binaryOp .Mod) zUR:=by
 intro pins s σ H x y v u Q I rx ry h;cases x<;>cases y<;>first
  |exact zV9 pins s σ H _ _ v u Q I rx ry ⟨_,_,rfl,rfl,h.1,h.2⟩
  |exact qA8 h
noncomputable def zSN(p:Int->Int->Bool):R2:=fun x y H Q=>match x,y with
 |.int i,.int j=>Q (.bl (p i j)) H
 |_,_=>False
theorem u_lt:OpR X (compareOp .Lt) (zSN fun i j=>decide (i<j)):=by
 intro pins s σ H x y v u Q I rx ry h;cases x<;>cases y<;>first
  |exact zX2 pins s σ H _ _ v u Q I rx ry ⟨_,_,rfl,rfl,h⟩
  |exact qA8 h
theorem u_gt:OpR X (compareOp .Gt) (zSN fun i j=>decide (j<i)):=by
 intro pins s σ H x y v u Q I rx ry h;cases x<;>cases y<;>first
  |exact zX3 pins s σ H _ _ v u Q I rx ry ⟨_,_,rfl,rfl,h⟩
  |exact qA8 h
def rEqU:R2:=fun x y H Q=>match x,y with
 |.int i,.int j=>Q (.bl (decide (i=j))) H
 |.str i,.str j=>Q (.bl (decide (i=j))) H
 |.bl i,.bl j=>Q (.bl (decide (i=j))) H
 |x,y=>rEqD x y H Q
def rNeU:R2:=fun x y H Q=>match x,y with
 |.int i,.int j=>Q (.bl (!decide (i=j))) H
 |.str i,.str j=>Q (.bl (!decide (i=j))) H
 |.bl i,.bl j=>Q (.bl (!decide (i=j))) H
 |x,y=>rNeD x y H Q
theorem u_eq(hu:X.A.units+64<cLine):OpR X (compareOp .Eq) rEqU:=by
 intro pins s σ H x y v u Q I rx ry h;cases x<;>cases y<;>first
  |(refine zX4 pins s σ H _ _ v u Q I rx ry ⟨rfl,?_⟩;have h':=h;simp only[rEqU]at h';simpa using h')
  |exact zVA hu pins s σ H _ _ v u Q I rx ry h
theorem u_ne(hu:X.A.units+64<cLine):OpR X (compareOp .NotEq) rNeU:=by
 intro pins s σ H x y v u Q I rx ry h;cases x<;>cases y<;>first
  |(refine zX1 pins s σ H _ _ v u Q I rx ry ⟨rfl,?_⟩;have h':=h;simp only[rNeU]at h';simpa using h')
  |exact zV8 hu pins s σ H _ _ v u Q I rx ry h
def rIxU(K:qA1):R2:=fun x y H Q=>match x,y with
 |.str z,.int i=>∃c,z.length<=sizeLine/\atI z.cps.toList i=some c/\Q (.str ⟨#[c]⟩) H
 |.ref p,.int i=>∃xs v,(SqL K H p xs\/SqT K H p xs)/\atI xs i=some v/\Q v H
 |_,_=>False
theorem u_ix:IxR X (rIxU X.K):=by
 intro value slice pins s σ H x y v u Q I rx ry h hs;cases x<;>cases y<;>first
  |(obtain⟨c,h1,h2,h3⟩:=h;exact zVM value slice pins s σ H _ _ v u Q I rx ry ⟨_,_,c,rfl,rfl,h1,h2,h3⟩ hs)
  |(obtain⟨xs,w,h1|h1,h2,h3⟩:=h
    ·exact zTE value slice pins s σ H _ _ v u Q I rx ry ⟨_,xs,_,w,rfl,rfl,h1,h2,h3⟩ hs
    ·exact zVK value slice pins s σ H _ _ v u Q I rx ry ⟨_,xs,_,w,rfl,rfl,h1,h2,h3⟩ hs)
  |exact qA8 h
def zSL(K:qA1):List V->Hp->VK->Prop:=fun vs H Q=>match vs with
 |[.str z]=>z.length<=sizeLine/\Q (.int z.length) H
 |[.ref p]=>∃xs,(SqL K H p xs\/SqT K H p xs)/\Q (.int xs.length) H
 |_=>False
theorem zXB:zCT X (.builtin "len") (zSL X.K):=by
 intro pins s σ H vs us Q I r h;cases vs with
 |nil=>exact qA8 h
 |cons hd1 tl1=>
  cases hd1 with
  |str z=>
   cases tl1 with
   |nil=>
    exact zJ7 pins s σ H _ us Q I r ⟨z,rfl,h.1,h.2⟩
   |cons _ _=>exact qA8 h
  |ref p=>
   cases tl1 with
   |nil=>
    obtain⟨xs,h1,h2⟩:=h;exact zJ8 pins s σ H _ us Q I r ⟨p,xs,rfl,h1,h2⟩
   |cons _ _=>exact qA8 h
  |_=>exact qA8 h
def zMS(K:qA1):List V->Hp->VK->Prop:=fun vs H Q=>match vs with
 |[.ref p]=>(∃xs,(SqL K H p xs\/SqT K H p xs)/\∀l,H l=none->Q (.ref l) (upd H l (.lst xs))) \/
   ∃lo hi,H p=some (.rng lo hi)/\(-(2 ^ 62)<=lo/\lo<2 ^ 62/\-(2 ^ 62)<=hi/\hi<2 ^ 62)/\hi-lo<=1000000/\∀l,H l=none->Q (.ref l) (upd H l (.lst (zHM lo (hi-lo).toNat)))
 |_=>False
theorem zVI(hc:X.calm=true):zCT X (.type "list") (zMS X.K):=by
 intro pins s σ H vs us Q I r h;cases vs with
 |nil=>exact qA8 h
 |cons hd1 tl1=>
  cases hd1 with
  |ref p=>
   cases tl1 with
   |nil=>
    rcases h with⟨xs,h1,h2⟩|⟨lo,hi,h1,h2,h3,h4⟩
    ·exact zJ6 pins s σ H _ us Q I r ⟨p,xs,rfl,h1,h2⟩
    ·exact zI0 hc pins s σ H _ us Q I r ⟨p,lo,hi,rfl,h1,h2,h3,h4⟩
   |cons _ _=>exact qA8 h
  |_=>exact qA8 h
def zUS:List V->Hp->VK->Prop:=fun vs H Q=>match vs with
 |[x,.ty n]=>∃T,zFP H x=some T/\n∈["int","bool","str","list","tuple","dict"]/\Q (.bl (zTG T n)) H
 |_=>False
theorem zBX:zCT X (.builtin "isinstance") zUS:=by
 intro pins s σ H vs us Q I r h;cases vs with
 |nil=>exact qA8 h
 |cons x tl1=>
  cases tl1 with
  |nil=>exact qA8 h
  |cons hd2 tl2=>
   cases hd2 with
   |ty n=>
    cases tl2 with
    |nil=>
     obtain⟨T,h1,h2,h3⟩:=h;exact zKC pins s σ H _ us Q I r ⟨x,n,T,rfl,h1,h2,h3⟩
    |cons _ _=>exact qA8 h
   |_=>exact qA8 h
def zUU:List V->Hp->VK->Prop:=fun vs H Q=>match vs with
 |[.ref a]=>∃bs:List Bool,H a=some (.lst (bs.map V.bl))/\Q (.bl (bs.all id)) H
 |_=>False
theorem zVJ(hc:X.calm=true):zCT X (.builtin "all") zUU:=by
 intro pins s σ H vs us Q I r h;cases vs with
 |nil=>exact qA8 h
 |cons hd1 tl1=>
  cases hd1 with
  |ref a=>
   cases tl1 with
   |nil=>
    obtain⟨bs,h1,h2⟩:=h;exact zQP hc pins s σ H _ us Q I r ⟨a,bs,rfl,h1,h2⟩
   |cons _ _=>exact qA8 h
  |_=>exact qA8 h
end
noncomputable def zJ1(N N':List Str)(k:Nat)(sc esc:Scope):Bool:=
 (sc.kind==.function)&&decide ((sc.names.map (·.1)).Nodup)&&(N'.length==N.length+k) &&
 ((qA4 N.length).all fun i=>match N'[i]? with
  |none=>true
  |some x=>(sc.names.lookup x==none)||(sc.names.any (fun p=>p.1==x&&p.2==.free)&&N[i]?==some x)) &&
 (sc.names.all fun p=>p.2 != .free||esc.names.lookup p.1==some .cell||esc.names.lookup p.1==some .free)
theorem cn{X:Cx}{sc:Scope}(N':List Str)(k:Nat)(h:zJ1 X.N N' k sc X.env.scope=true):CompNames X.N N' k sc X.env:=by
 unfold zJ1 at h;simp only[qBb,decide_eq_true_eq,beq_iff_eq]at h;obtain⟨⟨⟨⟨h1,h2⟩,h3⟩,h4⟩,h5⟩:=h;refine⟨h1,h2,h3,fun i x e hi=>?_,fun x hx=>?_⟩
 ·have q:=qDn.mp h4 i (qBq.mpr hi);rw[e]at q;simp only[qF7,qBb,beq_iff_eq,List.any_eq_true]at q
  rcases q with q|⟨⟨p,hp,e1,e2⟩,e3⟩
  ·exact .inr q
  ·obtain⟨y,kk⟩:=p;dsimp only at e1 e2;subst e1;subst e2;exact .inl ⟨hp,e3⟩
 ·have q:=qDn.mp h5 _ hx;simp only[qF7,bne_iff_ne,ne_eq,not_true_eq_false,false_or,beq_iff_eq]at q;exact q
theorem PE.imp{X:Cx}{e:Expr}{t t':TE}(h:PE X e t)(i:∀σ H Q,t' σ H Q->t σ H Q):PE X e t':=fun pins s σ H Q I q=>h pins s σ H Q I (i σ H Q q)
noncomputable def vM(i:Nat):TE:=fun σ H Q=>match σ[i]? with
 |some (some v)=>Q v H
 |_=>False
theorem pn{X:Cx}(i:Nat){x:Str}{pos:Pos}(hN:X.N[i]?=some x:=by rfl)(hv:Vis X.env.scope x:=by first|exact qGg rfl|exact qGh (qGg rfl)|exact qGh (qGh rfl))(hd:(x==("__debug__":Str))=false:=by decide)
  (hcd:(x==("__classdict__":Str))=false:=by decide):PE X (.Name x pos) (vM i):=(zV0 hN hv hd hcd).imp fun σ H Q h=>by
 unfold vM at h;cases e:σ[i]? with
 |none=>rw[e]at h;exact qA8 h
 |some w=>
  rw[e]at h;cases w with
  |none=>exact qA8 h
  |some v=>exact⟨v,e,h⟩
noncomputable def bM(t:TE):TT:=fun σ H Q=>t σ H fun x H'=>match x with
 |.bl k=>Q k H'
 |.int i=>Q (i != 0) H'
 |.non=>Q false H'
 |_=>False
section
variable{X:Cx}{a b c:Expr}{ta tb tc:TE}{tA tB:TT}{rest:List Expr}{pos:Pos}
theorem zU8{K:qA1}{x:V}{H:Hp}{Q:Bool->Hp->Prop}(h:match x with | .bl k=>Q k H | .int i=>Q (i != 0) H | .non=>Q false H|_=>False):∃k,TruV K x H k/\Q k H:=by
 cases x with
 |bl k=>exact⟨k,rfl,h⟩
 |int i=>exact⟨_,rfl,h⟩
 |non=>exact⟨_,rfl,h⟩
 |_=>exact qA8 h
theorem pt_m(ha:PE X a ta)(he:∀whole,isTrue a X.env whole=(do let v <- whole;qJr a.pos;holding [v] (truthy v)):=by intro _;rfl):PT X a (bM ta):=by
 intro pins s σ H Q I h;refine isTrue_plain (thn (ha pins s σ H _ I h) fun v s1 z0=>?_) (he _);obtain⟨x,H1,I1,r1,q1⟩:=z0;exact thn (zQX pins s1 σ H1 x v Q I1 r1 (zU8 q1)) fun _ _ q=>q
theorem zCD{op:CmpOp}{r:R2}(ho:OpR X (compareOp op) r)(ha:PE X a ta)(hb:PE X b tb)(hm:qI8 op b=false):PT X (.Compare a [op] [b] pos) (fun σ H Q=>ta σ H fun x H1=>tb σ H1 fun y H2=>r x y H2 fun z H3=>match z with | .bl k=>Q k H3|_=>False):=by
 intro pins s σ H Q I h;refine wpAny_isTrue_Compare1 (thn (ha pins s σ H _ I h) fun v s1 ⟨x,H1,I1,r1,q1⟩=>thn (hb pins s1 σ H1 _ I1 q1) fun u s2 ⟨y,H2,I2,r2,q2⟩=>
  thn (ho pins s2 σ H2 x y v u _ I2 r1 r2 q2) fun d s3 ⟨z,H3,I3,r3,q3⟩=>?_) hm
 cases z with
 |bl k=>cases r3;exact wpAny_truthy_bool ⟨H3,I3,q3⟩
 |_=>exact qA8 q3
theorem zPM(ha:PE X a ta)(hb:PE X (.BoolOp .And (b::rest) pos) tb):PE X (.BoolOp .And (a::b::rest) pos) (fun σ H Q=>ta σ H fun x H1=>match x with | .bl c=>if c=true then tb σ H1 Q else Q (.bl false) H1|_=>False):=by
 intro pins s σ H Q I h;refine BoolOp_and (thn (ha pins s σ H _ I h) fun v s1 z0=>?_);obtain⟨x,H1,I1,r1,q1⟩:=z0;cases x with
 |bl c=>
  cases r1;refine wpAny_truthy_bool ?_;cases c with
  |true=>exact hb pins s1 σ H1 Q I1 (by simpa using q1)
  |false=>exact⟨.bl false,H1,I1,rfl,by simpa using q1⟩
 |_=>exact qA8 q1
theorem zV3(ha:PE X a ta):PE X (.UnaryOp .Not a pos) (fun σ H Q=>ta σ H fun x H1=>match x with | .bl c=>Q (.bl (!c)) H1|_=>False):=by
 intro pins s σ H Q I h;refine UnaryOp_ (thn (ha pins s σ H _ I h) fun v s1 z0=>?_);obtain⟨x,H1,I1,r1,q1⟩:=z0;cases x with
 |bl c=>cases r1;exact not_of (wpAny_truthy_bool ⟨.bl (!c),H1,I1,rfl,q1⟩)
 |_=>exact qA8 q1
def setM:V->V->V->Hp->(Hp->Prop)->Prop:=fun o i v H Q=>match o,i with
 |.ref p,.int k=>∃xs j,H p=some (.lst xs)/\ixN xs.length k=some j/\Q (upd H p (.lst (xs.set j v)))
 |_,_=>False
theorem zJO:PSet X setM:=by
 intro pins s σ H o i v ov iv u Q I ro ri rv h;cases o<;>cases i<;>first
  |(obtain⟨xs,j,h1,h2,h3⟩:=h;exact zP5 pins s σ H _ _ v ov iv u Q I ro ri rv ⟨_,xs,_,j,rfl,rfl,h1,h2,h3⟩)
  |exact qA8 h
def appM:V->List V->Hp->VK->Prop:=fun x vs H Q=>match x,vs with
 |.ref l,[y]=>∃xs,H l=some (.lst xs)/\xs.length<sizeLine/\Q .non (upd H l (.lst (xs++[y])))
 |_,_=>False
theorem zNE:MtR X "list.append" appM:=by
 intro pins s σ H x vs v us Q I rx rv h;cases x with
 |ref l=>
  cases vs with
  |nil=>exact qA8 h
  |cons y t=>
   cases t with
   |nil=>
    obtain⟨xs,h1,h2,h3⟩:=h;exact zND pins s σ H _ _ v us Q I rx rv ⟨l,xs,y,rfl,rfl,h1,h2,h3⟩
   |cons _ _=>exact qA8 h
 |_=>exact qA8 h
end
theorem pt_w{X:Cx}{e:Expr}{t:TT}(h:PW X e t):PT X e t:=h.pt
def Has(P:qGn)(w:World)(K:qA1)(mg:Str->Option Value)(base:Heap)(x:Str)(k:Nat)(ps:List Str)(sp:Sp):Prop:=
 ∃f fd,FnOk P w K mg base CX0 k f fd ps sp/\mg x=some (.ref f)/\qB1 K (.ref f)=true/\Binds K fd ps []
def Def(K:qA1)(mg:Str->Option Value)(x:Str)(st:Stmt):Prop:=∃f fd,Fun K x x st f fd/\mg x=some (.ref f)
section
variable{X:Cx}{x:Str}{j k:Nat}{ps:List Str}{sp:Sp}{e:Expr}{es:List Expr}{t:TA}{p pos:Pos}
theorem zBO(h:Has X.prog X.w X.K X.mg X.base x j ps sp)(hjk:j<=k)(hr:Room k X.A)(hg:Gl X x)(ha:PA X (e::es) t)(hdb:(x==("__debug__":Str))=false:=by decide)
  (he:starEach (e::es) X.env=(false,eval e X.env)::starEach es X.env:=by rfl) (hpl:(backTo pos (starEach es X.env)).any (·.1)=false:=by rfl):PE X (.Call (.Name x p) (e::es) [] pos) (zGL sp [] E0 t):=by
 obtain⟨f,fd,G,m,kp,b⟩:=h;exact zN5 G (hr.mono hjk) hg m kp b .nil zX0 ha hdb he hpl
end
section
variable{P:qGn}{w:World}{K:qA1}{mg:Str->Option Value}{base:Heap}
theorem Def.ok{x:Str}{st:Stmt}{N ps:List Str}{k:Nat}{sp:Sp}(D:Def K mg x st)(S:FnScope N ps (zAB st))
  (hb:∀(kV doc pm:Value)(an:Option Addr)(cdv ct:Value)(us:List Value),us.length=ps.length->qJ1 (qB3 x x (zC3 st) (zBE st) (zAB st) .none kV doc pm an cdv ct) ⟨us,[]⟩=pure (ps.zip us))
  (len:∀vs H Q E,sp vs H Q E->vs.length=ps.length)
  (hbody:∀(f:Addr)(cdv:Value)(A:qGo)(outer:List Env)(s:qGk)(H:Hp)(vs:List V)(Q:VK)(E:XK),Room k (A.deeper (envOfC x (zAB st) s.heap.objs.size f cdv))->sp vs H Q E ->
   ∃t,PSs (cxOf CX0 P w K mg base N x (zAB st) f cdv A outer s H E).nox (zBE st) t/\t { nx:=fun _ H'=>Q .non H',rt:=Q } (start N vs) H):Has P w K mg base x (k+1) ps sp:=by
 obtain⟨f,fd,F,m⟩:=D;exact⟨f,fd,F.ok S len (fun cdv A outer s H vs Q E hr h=>hbody f cdv A outer s H vs Q E hr h),m,F.kp,F.binds hb⟩
end
section
variable{X:Cx}{pins:List (Addr×Obj)}{σ:St}{H:Hp}{s:qGk}
theorem Inv.turnedNew{h':Heap}{t':Nat}{fp:List Addr}{a:Addr}{o:HO}(I:Inv X pins σ H s)(hf:∀b∈fp,FpOk X pins H b)(k:∀b u,b∉fp->s.heap.get? b=some u->h'.get? b=some u)
  (hp:s.heap.objs.size<=a) (new:ObjOk X.prog X.w (upd H a o) h' a o):Inv X pins σ (upd H a o) { s with heap:=h',toks:=t' }:=by
 have hn:H a=none:=I.hok.fresh hp;have ne:∀b u,s.heap.get? b=some u->b≠a:=fun b u e=>qAm (qAf (qGm e) hp)
 have nfp:∀b u,H b=some u->b∉fp:=fun b u e z=>by rw[(hf b z).1]at e;cases e
 refine I.step (g':=s.gens) (d':=s.drawn) (ch:=fp) (fun b hb=>⟨(hf b hb).2.2.2.1,(hf b hb).2.1,(hf b hb).2.2.2.2.1,(hf b hb).2.2.2.2.2⟩) (fun b u _ _ hc e _=>k b u hc e) (fun b u _ _ hc e _=>⟨u.slots,k b u hc e⟩)
  (fun b u _ e n=>by rw[zAL (ne b u e)];exact n) (fun b u hc e=>⟨u,k b u hc e⟩) (fun b xs e=>by rw[zAL (zAO e hn)];exact e) (fun b u xs e=>by rw[zAL (zAO e hn)];exact e)
  (fun b ps e=>⟨#[],by rw[zAL (zAO e hn),e];simp⟩) (fun m hm=>?_) (fun b u e=>?_) I.bare
 ·obtain⟨u,es,ep,ho,r⟩:=hm;exact⟨u,es,ep,k _ u (fun z=>(hf _ z).2.1 rfl) ho,r⟩
 ·by_cases hb:b=a
  ·subst hb;rw[zAM]at e;cases e;exact new
  ·rw[zAL hb]at e;refine(I.hok b u e).stay (fun c v hc q=>k c v ?_ q) (fun c q=>by rw[zAL (zAO q hn)];exact q) (fun c xs q=>by rw[zAL (zAO q hn)];exact q) fun c _ _ q _=>by rw[zAL (zAO q hn)];exact q
   rcases hc with z|z
   ·rw[z];exact nfp b u e
   ·exact nfp c _ z
theorem Inv.turnedL{h':Heap}{t':Nat}{fp:List Addr}(I:Inv X pins σ H s)(hf:∀b∈fp,FpOk X pins H b)(k:∀b u,b∉fp->s.heap.get? b=some u->h'.get? b=some u):Inv X pins σ H { s with heap:=h',toks:=t' }:=by
 have nfp:∀b u,H b=some u->b∉fp:=fun b u e z=>by rw[(hf b z).1]at e;cases e
 refine I.step (g':=s.gens) (d':=s.drawn) (ch:=fp) (fun b hb=>⟨(hf b hb).2.2.2.1,(hf b hb).2.1,(hf b hb).2.2.2.2.1,(hf b hb).2.2.2.2.2⟩) (fun b u _ _ hc e _=>k b u hc e) (fun b u _ _ hc e _=>⟨u.slots,k b u hc e⟩)
  (fun b u _ e n=>n) (fun b u hc e=>⟨u,k b u hc e⟩) (fun b xs e=>e) (fun b u xs e=>e)
  (fun b ps e=>⟨#[],by rw[e];simp⟩) (fun m hm=>?_) (fun b u e=>?_) I.bare
 ·obtain⟨u,es,ep,ho,r⟩:=hm;exact⟨u,es,ep,k _ u (fun z=>(hf _ z).2.1 rfl) ho,r⟩
 ·refine(I.hok b u e).stay (fun c v hc q=>k c v ?_ q) (fun c q=>q) (fun c xs q=>q) fun c _ _ q _=>q
  rcases hc with z|z
  ·rw[z];exact nfp b u e
  ·exact nfp c _ z
def Ite(K:qA1)(a:Addr):It:=
 ⟨fun i H=>∃xs x,SqL K H a xs/\xs[i]?=some x,fun i H x H'=>∃T y,x=.ref T/\H T=none/\H'=upd H T (.tup [.int i,y])/\∀xs,SqL K H a xs->xs[i]?=some y,fun i H=>∃xs,SqL K H a xs/\xs.length<=i⟩
theorem zME{P:qGn}{w:World}{K:qA1}{ts:List Expr}{kk:Nat}{tp:Pos}(a e it:Addr)(hei:e≠it) :
  Turn P w K (.Tuple ts kk tp) (Ite K a) [e,it] e (fun i h=>(∃old,IsEnum h e it i old)/\h.IsListIter it a i) where
 mem:=by simp
 obj:=fun i h st b hb=>by
  rcases qAj.mp hb with z|z
  ·subst z;obtain⟨⟨old,he⟩,_⟩:=st;exact⟨_,he,fun v z=>by cases z⟩
  ·have z':b=it:=by simpa using z
   subst z';obtain⟨_,o,e,c,d⟩:=st;exact⟨o,e,fun v z=>by rw[d]at z;cases z⟩
 keep:=fun i h h' st k=>⟨by obtain⟨⟨old,he⟩,_⟩:=st;exact⟨old,k e (by simp) _ he⟩,st.2.at fun o x=>k it (by simp) o x⟩
 item:=by
  intro X hP hw hK hc i pins s σ H E I hf st hg;subst hP hw hK;obtain⟨xs,x,hq,hx⟩:=hg;obtain⟨its,rv,p,hz⟩:=I.list hq;obtain⟨u,hu,ru⟩:=rv.get hx;obtain⟨⟨old,he⟩,hit⟩:=st;refine wpAny_pyNext_enum_item he hit p.isList (x:=u) (by simpa using hu) hei fun h' ho hit' hT hsz hk=>?_
  refine⟨_,rfl,wpAny_letOwnedTupleGo_enum ho fun h'' he'' hs''=>?_⟩;have hTe:s.heap.objs.size≠e:=qBn (qGm he);have hTi:s.heap.objs.size≠it:=by obtain⟨o,ho',_⟩:=hit;exact qBn (qGm ho')
  have kk:∀b u,b∉[e,it]->s.heap.get? b=some u->h''.get? b=some u:=fun b u hb q=>by
   have b1:b≠e:=fun z=>hb (by simp[z])
   have b2:b≠it:=fun z=>hb (by simp[z])
   exact(hs''.2 b b1).trans (hk b u b1 b2 q)
  have hT'':=(hs''.2 _ hTe).trans hT;refine⟨.ref s.heap.objs.size,_,I.turnedNew (t':=s.toks+1) (o:=.tup [.int i,x]) hf kk (qA9 _) ⟨by show 2<=sizeLine;decide,[.int i s.toks,u],.cons ⟨_,rfl⟩ (.cons ru .nil),⟨_,hT'',rfl,_,rfl⟩⟩,rfl,
   ⟨_,x,rfl,I.fresh,rfl,fun ys hy=>by rw[I.list_inj hy hq];exact hx⟩,⟨⟨_,by simpa using he''⟩,hit'.at fun o x=>(hs''.2 it hei.symm).trans x⟩,fun b hb=>?_⟩
  have hbs:b<s.heap.objs.size:=by
   rcases qAj.mp hb with z|z
   ·rw[z];exact qGm he
   ·have z':b=it:=by simpa using z
    rw[z'];obtain⟨o,ho',_⟩:=hit;exact qGm ho'
  rw[zAL (qAm hbs)];exact(hf b hb).1
 done:=by
  intro X hP hw hK hc i pins s σ H E I hf st hg;subst hP hw hK;obtain⟨xs,hq,hx⟩:=hg;obtain⟨its,rv,p,hz⟩:=I.list hq;have hl:=rv.length;obtain⟨⟨old,he⟩,hit⟩:=st;exact wpAny_pyNext_enum_end (I.ok.hd hc) he hit p.isList (by simp;lia) fun h' eb=>⟨rfl,I.turnedL (t':=s.toks) hf fun b u hb q=>eb b u (fun z=>hb (by simp[z])) q⟩
 self:=fun _ _ _ _ _ st h=>by obtain⟨⟨old,he⟩,_⟩:=st;exact qJ8 he h
def zTK(K:qA1)(tl:TA):TI:=fun σ H R=>tl σ H fun vs H1=>match vs with
 |[.ref a]=>(∃xs,SqL K H1 a xs)/\R (Ite K a) H1
 |_=>False
theorem zSR{ts:List Expr}{kk:Nat}{tp p pos:Pos}{a:Expr}{ta:TA}(hg:Gl X "enumerate")(hm:X.mg "enumerate" = none)(ha:PA X [a] ta)(hs:starEach [a] X.env=[(false,eval a X.env)]:=by rfl) :
  PI X (.Tuple ts kk tp) (.Call (.Name "enumerate" p) [a] [] pos) (zTK X.K ta):=by
 intro pins s σ H R I h;refine Call_ (zF6 I hg hm boot_enumerate (qB7 (thn (ha pos pins s σ H _ I h) fun us s1 z0=>?_) hs rfl));obtain⟨vs,H1,I1,r1,q1⟩:=z0;cases vs with
 |nil=>exact qA8 q1
 |cons hd1 tl1=>
  cases hd1 with
  |ref l=>
   cases tl1 with
   |nil=>
    obtain⟨⟨xs,hq⟩,q⟩:=q1;obtain⟨u,rfl,rx⟩:=zGK r1;cases rx;obtain⟨its,rv,pl,hz⟩:=I1.list hq;refine call_enumerate_list pl.isList fun h' he hit hsz hk=>?_
    refine qJ8 he ?_;have hne:s1.heap.objs.size+1≠s1.heap.objs.size:=by lia
    refine⟨s1.heap.objs.size+1,[s1.heap.objs.size+1,s1.heap.objs.size],_,_,H1,rfl,I1.kept (t':=s1.toks) hk,zME l _ _ hne,⟨⟨_,he⟩,hit⟩,fun b hb=>?_,q⟩;have hb':s1.heap.objs.size<=b:=by
     rcases qAj.mp hb with z|z
     ·rw[z];exact qBz _
     ·have z':b=s1.heap.objs.size:=by simpa using z
      rw[z'];exact qA9 _
    exact I1.fpOk hb' (I1.hok.fresh hb')
   |cons _ _=>exact qA8 q1
  |_=>exact qA8 q1
end
section
variable{X:Cx}{K:qA1}
theorem zCF(hK:X.K=K:=by rfl):zCT X (.builtin "len") (zSL K):=hK▸zXB
theorem zK0(hc:X.calm=true)(hK:X.K=K:=by rfl):zCT X (.type "list") (zMS K):=hK▸zVI hc
theorem zBP(hK:X.K=K:=by rfl):IxR X (rIxU K):=hK▸u_ix
theorem zPK{ts:List Expr}{kk:Nat}{tp p pos:Pos}{a:Expr}{ta:TA}(hg:Gl X "enumerate")(hm:X.mg "enumerate" = none)(ha:PA X [a] ta)(hs:starEach [a] X.env=[(false,eval a X.env)]:=by rfl)(hK:X.K=K:=by rfl) :
  PI X (.Tuple ts kk tp) (.Call (.Name "enumerate" p) [a] [] pos) (zTK K ta):=hK▸zSR hg hm ha hs
theorem zN3{es:List Expr}{k:Nat}{t:TGs}{n:Nat}{pos:Pos}(hc:X.calm=true)(h:PGs X es t)
  (hn:(assignEach es X.env).length=n:=by rfl) (hst:(assignEach es X.env).findIdx? (·.1)=none:=by rfl) (hK:X.K=K:=by rfl):PG X (.Tuple es k pos) (gTup K n t):=hK▸zUY hc h hn hst
noncomputable def tML(r:V->List V->Hp->VK->Prop)(to:TE)(t:TA):TE:=fun σ H Q=>to σ H fun x H1=>match x with
 |.ref p=>∃xs,H1 p=some (.lst xs)/\t σ H1 fun vs H2=>r x vs H2 Q
 |_=>False
variable{o e:Expr}{es:List Expr}{to:TE}{t:TA}{name:Str}{apos cpos:Pos}{T id:String}{r:V->List V->Hp->VK->Prop}
theorem zV4(pa:PlainAttrs "list")(slot:Slot "list" name id)(hty:typeOf (.builtin id)=pure (.type "method_descriptor"))(hm:MtR X id r)(ho:PE X o to)(ha:PA X (e::es) t)
  (hbase:attributeBase o name X.env (eval o X.env)=eval o X.env:=by rfl)
  (hfew:((backTo cpos (starEach (e::es) X.env)).all (fun x=>!x.1)&&(backToKw cpos (keywordEach [] X.env)).all (fun x=>x.1.isSome)
   && decide ((e::es).length+([]:List Keyword).length+(if([]:List Keyword).isEmpty then 0 else 1)<30))=true:=by rfl)
  (hline:(apos.endLine==cpos.line)=true:=by rfl) (hs:starEach (e::es) X.env=(false,eval e X.env)::starEach es X.env:=by rfl) (hplain:(backTo cpos (starEach es X.env)).any (·.1)=false:=by rfl) :
  PE X (.Call (.Attribute o name apos) (e::es) [] cpos) (tML r to t):=by
 intro pins s σ H Q I h;refine wpAny_Call_method_late hbase hfew hline rfl (thn (ho pins s σ H _ I h) fun v s1 z0=>?_);obtain⟨x,H1,I1,r1,q1⟩:=z0;cases x with
 |ref p=>?_
 |_=>exact qA8 q1
 obtain⟨xs,hx,q1⟩:=q1;obtain⟨h1,h2⟩:=zU7 (T:="list") I1 r1 (.inl ⟨rfl,xs,SqL.of hx⟩);refine⟨"list",id,pa,slot,hty,h1,h2,?_⟩;have hA:=ha cpos pins s1 σ H1 _ I1 q1;rw[hs]at hA ⊢;refine Calls.callWith_builtin (by show(false||(backTo cpos (starEach es X.env)).any (·.1))=false;rw[hplain]<;>rfl) (Calls.evalArgs_plain ?_);exact thn hA fun us s2 ⟨vs,H2,I2,r2,q2⟩=>hm pins s2 σ H2 (.ref p) vs v us Q I2 r1 r2 q2
end
theorem same_new{H:Hp}{p:Addr}(h:H p=none)(o:HO):Same H (upd H p o):=fun b u q=>by rw[zAL (zAO q h)];exact q
theorem Same.upd{H H':Hp}{p:Addr}(s:Same H H')(h:H p=none)(o:HO):Same H (upd H' p o):=fun b u q=>by rw[zAL (zAO q h)];exact s b u q
theorem zCM{H:Hp}:∀(ns:List Int),RepL H (ns.map Dat.int) (ns.map V.int)
 |[]=>rfl
 |n::r=>⟨.int n,r.map V.int,rfl,rfl,zCM r⟩
theorem zEM:∀(ns:List Int),Dat.depL (ns.map Dat.int)=0
 |[]=>rfl
 |n::r=>by
  rw[qAn,Dat.depL,zEM r];rfl
theorem zEJ:∀(ns ms:List Int),Dat.eqL (ns.map Dat.int) (ms.map Dat.int)=decide (ns=ms)
 |[],[]=>by simp[Dat.eqL]
 |[],_::_=>by simp[Dat.eqL]
 |_::_,[]=>by simp[Dat.eqL]
 |n::r,m::q=>by
  rw[qAn,qAn,Dat.eqL,zEJ r q,Dat.eq];by_cases h:n=m
  ·subst h;simp
  ·simp[h]
theorem big{n:Nat}(h:n<=100000):n<sizeLine:=by rw[qGy];lia
section
variable{X:Cx}
def rInU(K:qA1)(neg:Bool):R2:=fun x y H Q=>match y with
 |.ref p=>∃xs,(SqL K H p xs\/SqT K H p xs)/\zF0 x=true/\xs.all zF0=true/\Q (.bl (if neg then !inV x xs else inV x xs)) H
 |.str j=>match x with
  |.str i=>Q (.bl (if neg then !(!(qHl j i 0 j.length 1).isEmpty)else !(qHl j i 0 j.length 1).isEmpty)) H
  |_=>False
 |_=>False
theorem u_in{K:qA1}(hK:X.K=K:=by rfl):OpR X (compareOp .In) (rInU K false):=by
 subst hK;intro pins s σ H x y v u Q I rx ry h;cases y with
 |ref p=>
  obtain⟨xs,h1,h2,h3,h4⟩:=h;exact zN8 pins s σ H _ _ v u Q I rx ry ⟨p,xs,rfl,h1,h2,h3,h4⟩
 |str j=>
  cases x with
  |str i=>exact zN7 pins s σ H _ _ v u Q I rx ry ⟨i,j,rfl,rfl,h⟩
  |_=>exact qA8 h
 |_=>exact qA8 h
end
theorem zJ0{K:qA1}{a:Addr}{xs:List V}{k:Nat}{g:TG}{tif:TT}{te:TE}{σ:St}{H:Hp}{Q:VK}(Pv:Nat->List V->Hp->Prop)(h0:Pv 0 [] H)(hl:∀i acc H,i<=xs.length->Pv i acc H->SqL K H a xs)(hz:∀i acc H,i<xs.length->Pv i acc H->acc.length<sizeLine)
  (hs:∀i x acc H T,xs[i]?=some x->Pv i acc H->H T=none->g (.ref T) (σ++qA7 k none) (upd H T (.tup [.int i,x])) fun σ2 H2=>∃own:St,own.length=k/\σ2=σ++own/\tif σ2 H2 fun b H3=>if b=true then te σ2 H3 fun v H4=>Pv (i+1) (acc++[v]) H4 else Pv (i+1) acc H3)
  (hd:∀acc H,Pv xs.length acc H->∀D,H D=none->Q (.ref D) (upd H D (.lst acc))):zMI k g tif te σ Q (Ite K a) H:=by
 refine⟨fun i m acc H=>m=xs.length-i/\i<=xs.length/\Pv i acc H,⟨xs.length,by simp,qAh _,h0⟩,?_⟩
 rintro i m acc H ⟨rfl,hi,p⟩
 have q:=hl i acc H hi p;by_cases hlt:i<xs.length
 ·refine .inr ⟨⟨xs,xs[i],q,by simp[hlt]⟩,hz i acc H hlt p,Pv (i+1),fun acc' H' p'=>⟨xs.length-(i+1),by lia,rfl,hlt,p'⟩,fun x H' y=>?_⟩;obtain⟨T,y,e1,e2,e3,e4⟩:=y;subst e1 e3;exact hs i y acc _ T (e4 xs q) p e2
 ·have e:i=xs.length:=by lia
  subst e;exact .inl ⟨⟨xs,q,qA9 _⟩,hd acc H p⟩
end L2
namespace Mi
open PySem
inductive Sv where
 |i (n:Int)|s (x:Str)
inductive Sw where
 |non|bl (b:Bool)|int (i:Int)|str (x:Str)
inductive Dt where
 |non|bl (b:Bool)|int (i:Int)|str (x:Str)|lst (xs:List Dt)|tup (xs:List Dt)|scr (ns:List Int)|exc (c f:Str) (d:Dt)|ins (c:Str) (fs:List (Str×Sv))|dct (kvs:List (Sum Int Str×Sw))|fn (x:Str) (d:Dt)|dtt (ks:List (List Sw)) (xs:List Dt)|loc (a:Nat) (d:Dt)|dsk (w:Str) (ws:List Str)|fnc (x:Str)|dcr (ks:List (Sum Int Str)) (ds:List Dt)
mutual
def Dt.dep:Dt->Nat
 |.lst xs=>Dt.depL xs+1
 |.tup xs=>Dt.depL xs+1
 |.scr _=>1000
 |.exc _ _ _=>1000
 |.fn _ _=>1000
 |.dtt _ _=>1000
 |.loc _ _=>1000
 |.dsk _ _=>1000
 |.fnc _=>1000
 |.dcr _ _=>1000
 |.ins _ _=>1000
 |.dct _=>1000
 |_=>0
def Dt.depL:List Dt->Nat
 |[]=>0
 |x::r=>max x.dep (Dt.depL r)
end
mutual
def Dt.eq:Dt->Dt->Bool
 |.non,.non=>true
 |.bl a,.bl b=>a==b
 |.bl a,.int b=>(if a then 1 else 0)==b
 |.int a,.bl b=>a==(if b then 1 else 0)
 |.int a,.int b=>a==b
 |.str a,.str b=>a==b
 |.lst xs,.lst ys=>Dt.eqL xs ys
 |.tup xs,.tup ys=>Dt.eqL xs ys
 |_,_=>false
def Dt.eqL:List Dt->List Dt->Bool
 |[],[]=>true
 |x::r,y::q=>Dt.eq x y&&Dt.eqL r q
 |_,_=>false
end
structure Xn where
 cls:Str
 f:Str
 d:Dt
abbrev R(α:Type):=Option (Except Xn α)
noncomputable def okR{α:Type}(a:α):R α:=some (.ok a)
noncomputable def zA3{α β:Type}(x:R α)(f:α->R β):R β:=match x with
 |none=>none
 |some (.error e)=>some (.error e)
 |some (.ok a)=>f a
def optR{α:Type}(o:Option α):R α:=match o with
 |none=>none
 |some a=>okR a
@[simp] theorem zA0{α β:Type}(a:α)(f:α->R β):zA3 (okR a) f=f a:=rfl
@[simp] theorem zA4{α β:Type}(f:α->R β):zA3 none f=none:=rfl
@[simp] theorem zA7{α β:Type}(e:Xn)(f:α->R β):zA3 (some (.error e)) f=some (.error e):=rfl
@[simp] theorem zA5{α:Type}(a:α):optR (some a)=okR a:=rfl
@[simp] theorem zA6{α:Type}:optR (none:Option α)=none:=rfl
abbrev Rh:=List (Option Dt)
abbrev Sl:=Dt×Nat
abbrev Ro:=List (Option Sl)
abbrev EM:=Rh->R Dt
abbrev TM:=Rh->R Bool
abbrev AM:=Rh->R (List Dt)
abbrev FM:=List Dt->R Dt
noncomputable def ixA(n:Nat)(i:Int):Option Nat:=if 0<=i then(if i<n then some i.toNat else none)else if -(n:Int)<=i then some (i+n).toNat else none
def itA{α:Type}(xs:List α)(i:Int):Option α:=(ixA xs.length i).bind fun j=>xs[j]?
noncomputable def addD:Dt->Dt->Option Dt
 |.int i,.int j=>some (.int (i+j))
 |.str i,.str j=>@ite _ (i.length+j.length<=100000) (qA3 _) (some (.str (i++j))) none
 |.lst xs,.lst ys=>@ite _ (xs.length+ys.length<=100000) (qA3 _) (some (.lst (xs++ys))) none
 |_,_=>none
noncomputable def subD:Dt->Dt->Option Dt
 |.int i,.int j=>some (.int (i-j))
 |_,_=>none
noncomputable def mulD:Dt->Dt->Option Dt
 |.int i,.int j=>@ite _ (((-18446744073709551616<i/\i<18446744073709551616)\/(-18446744073709551616<j/\j<18446744073709551616))\/i.natAbs.log2+j.natAbs.log2<=67108864) (qA3 _) (some (.int (i*j))) none
 |_,_=>none
noncomputable def divD:Dt->Dt->Option Dt
 |.int i,.int j=>@ite _ (0<j/\j<1000000000000000000000000) (qA3 _) (some (.int (i/j))) none
 |_,_=>none
noncomputable def modD:Dt->Dt->Option Dt
 |.int i,.int j=>if 0<j then some (.int (i%j))else none
 |_,_=>none
noncomputable def powD:Dt->Dt->Option Dt
 |.int i,.int j=>@ite _ (0<=j/\j<=1000000/\i.natAbs<18446744073709551616) (qA3 _) (some (.int (i ^ j.toNat))) none
 |_,_=>none
noncomputable def negD:Dt->Option Dt
 |.int i=>some (.int (-i))
 |_=>none
noncomputable def cmpD(p:Int->Int->Bool):Dt->Dt->Option Dt
 |.int i,.int j=>some (.bl (p i j))
 |_,_=>none
noncomputable def eqD(x y:Dt):Option Dt:=if x.dep<=40/\y.dep<=40 then some (.bl (Dt.eq x y))else none
noncomputable def neD(x y:Dt):Option Dt:=if x.dep<=40/\y.dep<=40 then some (.bl (!Dt.eq x y))else none
noncomputable def isNonD:Dt->Bool
 |.non=>true
 |_=>false
def isD(x y:Dt):Option Dt:=match y with
 |.non=>some (.bl (isNonD x))
 |_=>none
noncomputable def isntD(x y:Dt):Option Dt:=match y with
 |.non=>some (.bl (!isNonD x))
 |_=>none
def ixD:Dt->Dt->Option Dt
 |.lst xs,.int i=>itA xs i
 |.tup xs,.int i=>itA xs i
 |.scr ns,.int i=>(itA ns i).map .int
 |.str z,.int i=>@ite _ (z.length<=100000) (qA3 _) ((itA z.cps.toList i).map fun c=>.str ⟨#[c]⟩) none
 |_,_=>none
noncomputable def lenD:List Dt->Option Dt
 |[.lst xs]=>some (.int xs.length)
 |[.tup xs]=>some (.int xs.length)
 |[.scr ns]=>some (.int ns.length)
 |[.str z]=>@ite _ (z.length<=100000) (qA3 _) (some (.int z.length)) none
 |_=>none
noncomputable def listD:List Dt->Option Dt
 |[.lst xs]=>some (.lst xs)
 |[.tup xs]=>some (.lst xs)
 |[.scr ns]=>some (.lst (ns.map .int))
 |_=>none
noncomputable def nums(lo:Int)(n:Nat):List Dt:=(qA4 n).map fun i:Nat=>.int (lo+(i:Int))
noncomputable def tyD:Dt->String
 |.non=>"NoneType"
 |.bl _=>"bool"
 |.int _=>"int"
 |.str _=>"str"
 |.lst _=>"list"
 |.tup _=>"tuple"
 |.scr _=>""
 |.exc _ _ _=>""
 |.fn _ _=>""
 |.dtt _ _=>""
 |.loc _ _=>""
 |.dsk _ _=>""
 |.fnc _=>""
 |.dcr _ _=>""
 |.ins _ _=>""
 |.dct _=>""
def isiD(n:String)(x:Dt):Option Dt:=if tyD x = "" then none else some (.bl (tyD x==n||(tyD x == "bool" && n == "int")))
noncomputable def boolsD:List Dt->Option (List Bool)
 |[]=>some []
 |.bl b::r=>(boolsD r).map (b::·)
 |_::_=>none
def allD:List Dt->Option Dt
 |[.lst xs]=>(boolsD xs).map fun bs=>.bl (bs.all id)
 |_=>none
noncomputable def intD:List Dt->Option Dt
 |[.int i]=>some (.int i)
 |[.bl k]=>some (.int (if k=true then 1 else 0))
 |_=>none
noncomputable def maxD:List Dt->Option Dt
 |[.int i,.int j]=>some (.int (if j>i then j else i))
 |_=>none
noncomputable def minD:List Dt->Option Dt
 |[.int i,.int j]=>some (.int (if j<i then j else i))
 |_=>none
noncomputable def absD:List Dt->Option Dt
 |[.int i]=>some (.int (if i<0 then -i else i))
 |_=>none
noncomputable def hasD(x:Dt)(ys:List Dt):Option Bool:=if x.dep=0/\Dt.depL ys=0 then some (ys.any fun y=>Dt.eq y x)else none
def inD(ng:Bool)(x y:Dt):Option Dt:=match y with
 |.lst ys=>(hasD x ys).map fun b=>.bl (if ng=true then !b else b)
 |.tup ys=>(hasD x ys).map fun b=>.bl (if ng=true then !b else b)
 |.str z=>match x with
  |.str y=>match y.cps.toList with
   |[c]=>some (.bl (if ng=true then !decide (c∈z.cps.toList)else decide (c∈z.cps.toList)))
   |_=>none
  |_=>none
 |_=>none
noncomputable def cutIx(n d:Nat):Option Int->Nat
 |none=>d
 |some v=>if v<0 then(v+(n:Int)).toNat else min v.toNat n
def cutA{α:Type}(xs:List α)(lo hi:Option Int):List α:=(xs.drop (cutIx xs.length 0 lo)).take (cutIx xs.length xs.length hi-cutIx xs.length 0 lo)
def slD:Dt->Option Int->Option Int->Option Dt
 |.lst xs,lo,hi=>some (.lst (cutA xs lo hi))
 |.str z,lo,hi=>@ite _ (z.length<=100000) (qA3 _) (some (.str ⟨(cutA z.cps.toList lo hi).toArray⟩)) none
 |_,_,_=>none
abbrev OM:=Rh->R (Option Int)
def oNo:OM:=fun _=>okR none
def oE(e:Rh->R Dt):OM:=fun ρ=>zA3 (e ρ) fun d=>match d with
 |.int i=>okR (some i)
 |_=>none
def eSl(a:Rh->R Dt)(lo hi:OM):Rh->R Dt:=fun ρ=>zA3 (a ρ) fun x=>zA3 (lo ρ) fun l=>zA3 (hi ρ) fun h=>optR (slD x l h)
noncomputable def posC(c:Nat):List Nat->Option Nat
 |[]=>none
 |x::r=>if x=c then some 0 else(posC c r).map (·+1)
def zXD(x:Dt)(ys:List Dt):Option Dt:=match x,ys with
 |.str z,[.str y]=>match y.cps.toList with
  |[c]=>some (.int (match posC c z.cps.toList with|some i=>(i:Int)|none=>-1))
  |_=>none
 |_,_=>none
noncomputable def zW9(x:Dt)(ys:List Dt):Option Dt:=match x,ys with
 |.str z,[.str y]=>match y.cps.toList with
  |[c]=>some (.int (z.cps.toList.count c:Nat))
  |_=>none
 |_,_=>none
noncomputable def zNR:Dt->Bool
 |.str _=>true
 |_=>false
def eMt(f:Dt->List Dt->Option Dt)(a:Rh->R Dt)(am:Rh->R (List Dt)):Rh->R Dt:=fun ρ=>zA3 (a ρ) fun x=>if zNR x=true then zA3 (am ρ) fun xs=>optR (f x xs)else none
noncomputable def signsD(z:Str):List Dt:=z.cps.toList.map fun c=>.str ⟨#[c]⟩
def eC(d:Dt):EM:=fun _=>okR d
def eV(i:Nat):EM:=fun ρ=>match ρ[i]? with
 |some (some d)=>okR d
 |_=>none
def eB(f:Dt->Dt->Option Dt)(a b:EM):EM:=fun ρ=>zA3 (a ρ) fun x=>zA3 (b ρ) fun y=>optR (f x y)
def eU(f:Dt->Option Dt)(a:EM):EM:=fun ρ=>zA3 (a ρ) fun x=>optR (f x)
def eAnd(a b:EM):EM:=fun ρ=>zA3 (a ρ) fun x=>match x with
 |.bl k=>if k=true then b ρ else okR (.bl false)
 |_=>none
def eOr(a b:EM):EM:=fun ρ=>zA3 (a ρ) fun x=>match x with
 |.bl k=>if k=true then okR (.bl true)else b ρ
 |_=>none
def eNot(a:EM):EM:=fun ρ=>zA3 (a ρ) fun x=>match x with
 |.bl k=>okR (.bl (!k))
 |_=>none
def zVY(p q:Dt->Dt->Option Dt)(a b c:EM):EM:=fun ρ=>zA3 (a ρ) fun x=>zA3 (b ρ) fun y=>zA3 (optR (p x y)) fun z=>match z with
 |.bl k=>if k=true then zA3 (c ρ) fun w=>optR (q y w)else okR (.bl false)
 |_=>none
def eIf(c:TM)(a b:EM):EM:=fun ρ=>zA3 (c ρ) fun k=>if k=true then a ρ else b ρ
def aNil:AM:=fun _=>okR []
def aCons(e:EM)(r:AM):AM:=fun ρ=>zA3 (e ρ) fun x=>zA3 (r ρ) fun xs=>okR (x::xs)
def eLst(a:AM):EM:=fun ρ=>zA3 (a ρ) fun xs=>@ite _ (xs.length<=100000) (qA3 _) (okR (.lst xs)) none
def eTup(a:AM):EM:=fun ρ=>zA3 (a ρ) fun xs=>@ite _ (xs.length<=100000) (qA3 _) (okR (.tup xs)) none
def eCall(f:FM)(a:AM):EM:=fun ρ=>zA3 (a ρ) f
def eBi(f:List Dt->Option Dt)(a:AM):EM:=fun ρ=>zA3 (a ρ) fun xs=>optR (f xs)
def eIsi(n:String)(a:EM):EM:=fun ρ=>zA3 (a ρ) fun x=>optR (isiD n x)
def tB(a:EM):TM:=fun ρ=>zA3 (a ρ) fun x=>match x with
 |.bl k=>okR k
 |_=>none
def tM(a:EM):TM:=fun ρ=>zA3 (a ρ) fun x=>match x with
 |.bl k=>okR k
 |.int i=>okR (i != 0)
 |.non=>okR false
 |_=>none
def tAn(a b:TM):TM:=fun ρ=>zA3 (a ρ) fun k=>if k=true then b ρ else okR false
def tOr(a b:TM):TM:=fun ρ=>zA3 (a ρ) fun k=>if k=true then okR true else b ρ
def tNo(a:TM):TM:=fun ρ=>zA3 (a ρ) fun k=>okR (!k)
def tYes:TM:=fun _=>okR true
abbrev IM:=Rh->R (List Dt)
def iSq(e:EM):IM:=fun ρ=>zA3 (e ρ) fun d=>match d with
 |.lst xs=>okR xs
 |.tup xs=>okR xs
 |.scr ns=>okR (ns.map .int)
 |.str z=>okR (signsD z)
 |_=>none
def iR1(e:AM):IM:=fun ρ=>zA3 (e ρ) fun vs=>match vs with
 |[.int j]=>@ite _ (-4611686018427387904<=j/\j<4611686018427387904) (qA3 _) (okR (nums 0 j.toNat)) none
 |_=>none
def iR2(e:AM):IM:=fun ρ=>zA3 (e ρ) fun vs=>match vs with
 |[.int i,.int j]=>@ite _ (-4611686018427387904<=i/\i<4611686018427387904/\-4611686018427387904<=j/\j<4611686018427387904) (qA3 _) (okR (nums i (j-i).toNat)) none
 |_=>none
noncomputable def enumD(n:Nat):List Dt->List Dt
 |[]=>[]
 |x::r=>.tup [.int n,x]::enumD (n+1) r
def iEn(e:AM):IM:=fun ρ=>zA3 (e ρ) fun vs=>match vs with
 |[.lst xs]=>okR (enumD 0 xs)
 |_=>none
noncomputable def zipD:List Dt->List Dt->List Dt
 |x::r,y::q=>.tup [x,y]::zipD r q
 |_,_=>[]
def iZi(e:AM):IM:=fun ρ=>zA3 (e ρ) fun vs=>match vs with
 |[.lst xs,.lst ys]=>okR (zipD xs ys)
 |_=>none
inductive Tg where
 |one (i:Nat)
 |tup (is:List Nat)
noncomputable def bindT:Tg->Dt->Option (List (Nat×Dt))
 |.one i,d=>some [(i,d)]
 |.tup is,.tup ds=>if ds.length=is.length then some (is.zip ds)else none
 |.tup _,_=>none
noncomputable def Tg.idx:Tg->List Nat
 |.one i=>[i]
 |.tup is=>is
noncomputable def zAK:Rh->List (Nat×Dt)->Rh
 |ρ,[]=>ρ
 |ρ,(i,d)::r=>zAK (ρ.set i (some d)) r
noncomputable def zAP:Ro->List (Nat×Dt)->Ro
 |ρ,[]=>ρ
 |ρ,(i,d)::r=>zAP (ρ.set i (some (d,0))) r
def compGo(ρ:Rh)(k:Nat)(tg:Tg)(c:TM)(e:EM):List Dt->List Dt->R (List Dt)
 |[],acc=>okR acc
 |d::ds,acc=>match bindT tg d with
  |none=>none
  |some bs=>zA3 (c (zAK (ρ++qA7 k none) bs)) fun b=>if b=true then zA3 (e (zAK (ρ++qA7 k none) bs)) fun x=>compGo ρ k tg c e ds (acc++[x])else compGo ρ k tg c e ds acc
def eComp(it:IM)(k:Nat)(tg:Tg)(c:TM)(e:EM):EM:=fun ρ=>zA3 (it ρ) fun ds=>@ite _ (ds.length<=100000/\(tg.idx.all fun i=>decide (ρ.length<=i))=true) (qA3 _) (zA3 (compGo ρ k tg c e ds []) fun es=>okR (.lst es)) none
inductive Out where
 |nx (ρ:Ro)|rt (d:Dt)|bk (ρ:Ro)|ct (ρ:Ro)
abbrev SM:=Ro->R Out
noncomputable def full(ρ:Ro):Rh:=ρ.map fun o=>o.map Prod.fst
noncomputable def frz(ρ:Ro):Rh:=ρ.map fun o=>match o with
 |some (d,n)=>if n=0\/d.dep=0 then some d else none
 |none=>none
noncomputable def frz1(i:Nat)(ρ:Ro):Ro:=match ρ[i]? with
 |some (some (d,_))=>ρ.set i (some (d,0))
 |_=>ρ
def frzAt:List Nat->Ro->Ro
 |[],ρ=>ρ
 |i::r,ρ=>frzAt r (frz1 i ρ)
def sNil:SM:=fun ρ=>okR (.nx ρ)
def sSeq(a b:SM):SM:=fun ρ=>zA3 (a ρ) fun o=>match o with
 |.nx ρ'=>b ρ'
 |o=>okR o
noncomputable def zUF:SM:=fun _=>none
def zUG:SM:=fun ρ=>okR (.bk ρ)
def zWV:SM:=fun ρ=>okR (.ct ρ)
def sIf(c:TM)(a b:SM):SM:=fun ρ=>zA3 (c (full ρ)) fun k=>if k=true then a ρ else b ρ
def zWT(e:EM):SM:=fun ρ=>zA3 (e (full ρ)) fun _=>okR (.nx ρ)
def sSet(i n:Nat)(vs:List Nat)(e:EM):SM:=fun ρ=>zA3 (e (full ρ)) fun d=>
 if d.dep<=n then okR (.nx (ρ.set i (some (d,n))))else zA3 (e (frz (frzAt vs ρ))) fun d'=>okR (.nx ((frzAt vs ρ).set i (some (d',n))))
def sRet(L n:Nat)(vs:List Nat)(e:EM):SM:=fun ρ=>zA3 (e (full ρ)) fun d=>
 if d.dep<=n/\d.dep<=L then okR (.rt d)else if n=L then zA3 (e (frz (frzAt vs ρ))) fun d'=>okR (.rt d')else none
def zWR:SM:=fun _=>okR (.rt .non)
def sRetV(L i:Nat):SM:=fun ρ=>match ρ[i]? with
 |some (some (d,k))=>if k=L\/L=0\/(d.dep<=k/\d.dep<=L/\k<1000)then okR (.rt d)else none
 |_=>none
def sApp(i n:Nat)(e:EM):SM:=fun ρ=>match ρ[i]? with
 |some (some (.lst ds,k+1))=>zA3 (e (full ρ)) fun d=>@ite _ (ds.length<=100000/\d.dep<=n/\d.dep<=k) (qA3 _) (okR (.nx (ρ.set i (some (.lst (ds++[d]),k+1))))) none
 |_=>none
def sItem2(i n:Nat)(e0 e1 e2:EM):SM:=fun ρ=>zA3 (e2 (full ρ)) fun d=>match ρ[i]? with
 |some (some (.lst rs,k+2))=>zA3 (e0 (full ρ)) fun y=>match y with
  |.int y=>match ixA rs.length y with
   |some p=>match rs[p]? with
    |some (.lst ds)=>zA3 (e1 (full ρ)) fun z=>match z with
     |.int z=>match ixA ds.length z with
      |some q=>if d.dep<=n/\d.dep<=k then okR (.nx (ρ.set i (some (.lst (rs.set p (.lst (ds.set q d))),k+2))))else none
      |none=>none
     |_=>none
    |_=>none
   |none=>none
  |_=>none
 |_=>none
def forGo(tg:Tg)(b:SM):List Dt->SM
 |[],ρ=>okR (.nx ρ)
 |d::ds,ρ=>match bindT tg d with
  |none=>none
  |some bs=>zA3 (b (zAP ρ bs)) fun o=>match o with
   |.nx ρ'=>forGo tg b ds ρ'
   |.ct ρ'=>forGo tg b ds ρ'
   |.bk ρ'=>okR (.nx ρ')
   |.rt d=>okR (.rt d)
def sFor(vs:List Nat)(it:IM)(tg:Tg)(b:SM):SM:=fun ρ=>zA3 (it (frz (frzAt vs ρ))) fun ds=>forGo tg b ds (frzAt vs ρ)
def sForR(it:IM)(i:Nat)(b:SM):SM:=fun ρ=>zA3 (it (full ρ)) fun ds=>forGo (.one i) b ds ρ
def whGo(c:TM)(b:SM):Nat->SM
 |0,_=>none
 |m+1,ρ=>zA3 (c (full ρ)) fun k=>if k=true then zA3 (b ρ) fun o=>match o with
   |.nx ρ'=>whGo c b m ρ'
   |.ct ρ'=>whGo c b m ρ'
   |.bk ρ'=>okR (.nx ρ')
   |.rt d=>okR (.rt d)
  else okR (.nx ρ)
noncomputable def WNs:{ n:Nat // n=1000000 }:=Classical.choice ⟨⟨1000000,rfl⟩⟩
noncomputable def WN:Nat:=WNs.val
theorem zXM:WN=1000000:=WNs.property
def sWhile(c:TM)(b:SM):SM:=fun ρ=>whGo c b WN ρ
noncomputable def startO(n:Nat)(ds:List Dt):Ro:=ds.map (fun d=>some (d,0))++qA7 (n-ds.length) none
def endF:Out->R Dt
 |.nx _=>okR .non
 |.rt d=>okR d
 |_=>none
def runF(P n:Nat)(b:SM):FM:=fun ds=>if ds.length=P then zA3 (b (startO n ds)) endF else none
end Mi
namespace L2
open PySem PySem.Spec PyProof.Rows
theorem zRW(n d:Nat)(o:Option Int)(hd:d<=n):HT.sIx n d o<=n:=by
 cases o with
 |none=>exact hd
 |some v=>
  show(if v<0 then(v+(n:Int)).toNat else min v.toNat n)<=n
  split<;>lia
theorem zM1(lo hi:Option Int)(n:Nat):qH3 lo hi 1 n=(qA4 (HT.sIx n n hi-HT.sIx n 0 lo)).map fun k=>HT.sIx n 0 lo+k:=by
 unfold qH3 sliceRange;have c1:∀(o:Option Int)(d:Nat),(match o with|none=>(d:Int)|some i=>(if(1:Int)>0 then max 0 (min (if i<0 then i+(n:Int)else i) n)else max (-1) (min (if i<0 then i+(n:Int)else i) (n-1))))=((HT.sIx n d o:Nat):Int):=by
  intro o d;cases o with
  |none=>rfl
  |some v=>
   show _=(((if v<0 then(v+(n:Int)).toNat else min v.toNat n:Nat)):Int)
   dsimp only;rw[if_pos (by decide)]
   split<;>lia
 dsimp only;rw[if_pos (show(1:Int)>0 by decide),if_pos (show(1:Int)>0 by decide),if_pos (show(1:Int)>0 by decide)];have e1:=c1 lo 0;have e2:=c1 hi n;rw[show((0:Nat):Int)=0 by rfl]at e1;have h1:∀a b:Int,a=((HT.sIx n 0 lo:Nat):Int)->b=((HT.sIx n n hi:Nat):Int)->(qA4 ((if a<b then(b-a+1-1)/1 else 0).toNat)).map (fun k:Nat=>(a+1*(k:Int)).toNat)=(qA4 (HT.sIx n n hi-HT.sIx n 0 lo)).map fun k=>HT.sIx n 0 lo+k:=by
  intro a b ha hb;subst ha hb;have e:(if((HT.sIx n 0 lo:Nat):Int)<((HT.sIx n n hi:Nat):Int)then(((HT.sIx n n hi:Nat):Int)-((HT.sIx n 0 lo:Nat):Int)+1-1)/1 else 0).toNat=HT.sIx n n hi-HT.sIx n 0 lo:=by
   split
   ·rw[Int.ediv_one];lia
   ·lia
  rw[e];refine qAw fun k _=>?_
  lia
 exact h1 _ _ e1 e2
theorem zN0:∀(xs:List Nat)(a k:Nat),a+k<=xs.length->((qA4 k).map fun j=>a+j).filterMap (xs[·]?)=(xs.drop a).take k:=by
 intro xs a k h;induction k with
 |zero=>simp
 |succ k ih=>
  rw[qF8,qCx,List.filterMap_append,ih (by lia),List.take_add_one]
  congr 1;have:a+k<xs.length:=by lia
  simp[List.getElem?_drop,this]
theorem zP3(z:Str)(lo hi:Option Int):qJu z lo hi=⟨(Mi.cutA z.cps.toList lo hi).toArray⟩:=by
 obtain⟨⟨xs⟩⟩:=z;have hl:(⟨⟨xs⟩⟩:Str).length=xs.length:=rfl;unfold qJu;rw[zM1,hl];have e0:∀o d,Mi.cutIx xs.length d o=HT.sIx xs.length d o:=fun o d=>by cases o<;>rfl
 have hb:=zRW xs.length xs.length hi (qA9 _);have ha:=zRW xs.length 0 lo (qAh _);have hc:Mi.cutA xs lo hi=(xs.drop (HT.sIx xs.length 0 lo)).take (HT.sIx xs.length xs.length hi-HT.sIx xs.length 0 lo):=by
  unfold Mi.cutA;rw[e0,e0]
 show _=(⟨(Mi.cutA xs lo hi).toArray⟩:Str);rw[hc];split
 ·rename_i h
  have h':HT.sIx xs.length xs.length hi-HT.sIx xs.length 0 lo=xs.length:=by simpa using h
  have a0:HT.sIx xs.length 0 lo=0:=by lia
  rw[h',a0,qCk,qDo]
 ·by_cases hle:HT.sIx xs.length 0 lo<=HT.sIx xs.length xs.length hi
  ·have:=zN0 xs (HT.sIx xs.length 0 lo) (HT.sIx xs.length xs.length hi-HT.sIx xs.length 0 lo) (by lia)
   rw[<- this];simp
  ·rw[show HT.sIx xs.length xs.length hi-HT.sIx xs.length 0 lo=0 by lia];simp
section
variable{X:Cx}
def rSlU(K:qA1):V->Option Int->Option Int->Hp->VK->Prop:=fun x lo hi H Q=>match x with
 |.str z=>z.length<=sizeLine/\Q (.str ⟨(Mi.cutA z.cps.toList lo hi).toArray⟩) H
 |.ref a=>∃xs,SqL K H a xs/\∀p,H p=none->Q (.ref p) (upd H p (.lst (cutV xs lo hi)))
 |_=>False
theorem zN6{v:Value}{o:Option Int}(h:IsPart v o):∃l:Option (Int×Tok),v=partValue l/\l.map (·.1)=o:=by
 cases h with
 |none=>exact⟨none,rfl,rfl⟩
 |int i t=>exact⟨some (i,t),rfl,rfl⟩
theorem u_sl{K:qA1}(hK:X.K=K:=by rfl):SlR X (rSlU K):=by
 subst hK;intro pins s σ H x v vl vu lo hi sl Q I rx hs pl pu h;cases x with
 |ref a=>
  obtain⟨xs,h1,h2⟩:=h;exact zS8 pins s σ H _ v vl vu lo hi sl Q I rx hs pl pu ⟨a,xs,rfl,h1,h2⟩
 |str z=>
  obtain⟨hz,q⟩:=h;obtain⟨t,rfl⟩:=rx;obtain⟨l,rfl,el⟩:=zN6 pl;obtain⟨u,rfl,eu⟩:=zN6 pu;obtain⟨o,g1,g2,g3⟩:=hs;refine⟨"str",_,F.slot_str_getitem.lookup,typeIs_str _ _ _,wpAny_getItem_str_slice (l:=l) (u:=u) (st:=none) ⟨o,g1,g2,g3⟩ rfl ?_⟩;have hp:(if((1:Int)==1&&(qH3 lo hi 1 z.length).length==z.length)=true then Made.val (.str z t)else Made.str ⟨((qH3 lo hi 1 z.length).filterMap (z.cps[·]?)).toArray⟩).post (EP X pins σ Q) s:=by
   refine post_val_or_str ⟨qAi (Txt.slice_le z lo hi) hz,fun t' k=>?_⟩;refine⟨.str (qJu z lo hi),H,I.tok _,⟨_,rfl⟩,?_⟩;rw[zP3];exact q
  unfold sliceMade slicePicked;rw[el,eu];exact hp
 |_=>exact qA8 h
end
noncomputable def Its(z:Str):It:=⟨fun i _=>i<z.cps.size,fun i H x H'=>H'=H/\∃c,z.cps[i]?=some c/\x=.str ⟨#[c]⟩,fun i _=>z.cps.size<=i⟩
theorem zOY{P:qGn}{w:World}{K:qA1}{tg:Expr}(z:Str)(t:Tok)(it:Addr)(ty:String)(hty:ty=qHh z):Turn P w K tg (Its z) [it] it (fun i h=>h.IsStrIter it ty z t i) where
 mem:=by simp
 obj:=fun i h st b hb=>by
  have e:b=it:=by simpa using hb
  subst e;obtain⟨o,e,c,d⟩:=st;exact⟨o,e,fun v z=>by rw[d]at z;cases z⟩
 keep:=fun i h h' st k=>by obtain⟨o,ho,r⟩:=st;exact⟨o,k it (by simp) o ho,r⟩
 item:=by
  intro X hP hw hK hc i pins s σ H E I hf st hg;subst hP hw hK;have hi:i<z.cps.size:=hg;have hx:z.cps[i]?=some z.cps[i]:=Array.getElem?_eq_getElem hi;obtain⟨f0,f1,f2,f3,f4,f5⟩:=hf it (by simp);have fin:∀h',h'.IsStrIter it ty z t (i+1)->qIc it s.heap h'->∃u,some (qIz ⟨#[z.cps[i]]⟩ s.toks)=some u/\wpAny (model X.prog X.w) X.A (letOwnedTupleGo tg (.ref it) u) (fun _ s2=>∃x H',Inv X pins σ H' s2/\RelV x u/\(Its z).yld i H x H'/\s2.heap.IsStrIter it ty z t (i+1)/\∀b∈[it],H' b=none) E { s with heap:=h',toks:=s.toks+1 }:=by
   intro h' st' sb;have I1:Inv X pins σ H { s with heap:=h',toks:=s.toks+1 }:=I.turned (t':=s.toks+1) (fun b o hb e=>(sb.2 b hb).trans e) f0 f1 f3 f4 f5;obtain⟨o,e,c,d⟩:=id st';refine⟨_,rfl,zQ7 (s:={ s with heap:=h',toks:=s.toks+1 }) e c d ?_ ⟨.str ⟨#[z.cps[i]]⟩,H,I1,⟨_,rfl⟩,⟨rfl,_,hx,rfl⟩,st',fun b hb=>(hf b hb).1⟩⟩;rw[hty];unfold qHh;split<;>decide
  cases ha:z.cps.all (· < 128)
  ·have e:ty = "str_iterator":=by rw[hty];unfold qHh;rw[ha];rfl
   subst e;exact wpAny_pyNext_wide_item st hx fun h' a b=>fin h' a b
  ·have e:ty = "str_ascii_iterator":=by rw[hty];unfold qHh;rw[ha];rfl
   subst e;exact wpAny_pyNext_ascii_item st hx fun h' a b=>fin h' a b
 done:=by
  intro X hP hw hK hc i pins s σ H E I hf st hg;subst hP hw hK;have hx:z.cps[i]?=none:=Array.getElem?_eq_none hg;obtain⟨f0,f1,f2,f3,f4,f5⟩:=hf it (by simp);have fin:∀h',Heap.ExtBut it s.heap h'->(none:Option Value)=none/\Inv X pins σ H { s with heap:=h' }:=fun h' eb=>⟨rfl,I.turned (t':=s.toks) (fun b o hb e=>eb b o hb e) f0 f1 f3 f4 f5⟩
  cases ha:z.cps.all (· < 128)
  ·have e:ty = "str_iterator":=by rw[hty];unfold qHh;rw[ha];rfl
   subst e;exact wpAny_pyNext_wide_end (I.ok.hd hc) st hx fun h' a=>fin h' a
  ·have e:ty = "str_ascii_iterator":=by rw[hty];unfold qHh;rw[ha];rfl
   subst e;exact wpAny_pyNext_ascii_end (I.ok.hd hc) st hx fun h' a=>fin h' a
 self:=fun A i s Q E st h=>by
  cases ha:z.cps.all (· < 128)
  ·have e:ty = "str_iterator":=by rw[hty];unfold qHh;rw[ha];rfl
   subst e;exact wpAny_pyIter_striter_wide st h
  ·have e:ty = "str_ascii_iterator":=by rw[hty];unfold qHh;rw[ha];rfl
   subst e;exact wpAny_pyIter_striter_ascii st h
section
variable{X:Cx}
def iAny(K:qA1)(tl:TE):TI:=fun σ H R=>tl σ H fun x H1=>match x with
 |.ref a=>(∃xs,SqL K H1 a xs)/\R (Itl K a) H1\/(∃xs,SqT K H1 a xs)/\R (Itt K a) H1
 |.str z=>R (Its z) H1
 |_=>False
theorem zBW{K:qA1}{tg l:Expr}{tl:TE}(hl:PE X l tl)(hK:X.K=K:=by rfl):PI X tg l (iAny K tl):=by
 subst hK;intro pins s σ H R I h;refine thn (hl pins s σ H _ I h) fun v s1 z0=>?_
 obtain⟨x,H1,I1,r1,q1⟩:=z0;cases x with
 |ref a=>
  cases r1;rcases q1 with⟨⟨xs,hq⟩,q⟩|⟨⟨xs,hq⟩,q⟩
  ·obtain⟨its,rv,p,hz⟩:=I1.list hq;refine wpAny_pyIter_list p.isList ?_;refine⟨s1.heap.objs.size,[s1.heap.objs.size],_,_,H1,rfl,I1.kept (t':=s1.toks) fun b o e=>qGl _ e,zMD a _,⟨_,qGs _ rfl,rfl,rfl⟩,fun b hb=>?_,q⟩;have e:b=s1.heap.objs.size:=by simpa using hb
   subst e;exact I1.fpOk (qA9 _) (I1.hok.fresh (qA9 _))
  ·obtain⟨its,rv,p,hz⟩:=I1.tuple hq;refine wpAny_pyIter_tuple (show s1.heap.IsTuple a its.toArray from p) ?_;refine⟨s1.heap.objs.size,[s1.heap.objs.size],_,_,H1,rfl,I1.kept (t':=s1.toks) fun b o e=>qGl _ e,zLH a _,⟨_,qGs _ rfl,rfl,rfl⟩,fun b hb=>?_,q⟩;have e:b=s1.heap.objs.size:=by simpa using hb
   subst e;exact I1.fpOk (qA9 _) (I1.hok.fresh (qA9 _))
 |str z=>
  obtain⟨t,rfl⟩:=r1;refine wpAny_pyIter_strU ?_;refine⟨s1.heap.objs.size,[s1.heap.objs.size],_,_,H1,rfl,I1.kept (t':=s1.toks) fun b o e=>qGl _ e,zOY z t _ _ rfl,⟨_,qGs _ rfl,rfl,rfl⟩,fun b hb=>?_,q1⟩;have e:b=s1.heap.objs.size:=by simpa using hb
  subst e;exact I1.fpOk (qA9 _) (I1.hok.fresh (qA9 _))
 |_=>exact qA8 q1
end
def Itz(K:qA1)(a b:Addr):It:=
 ⟨fun i H=>∃xs ys x y,SqL K H a xs/\SqL K H b ys/\xs[i]?=some x/\ys[i]?=some y,fun i H v H'=>∃T x y,v=.ref T/\H T=none/\H'=upd H T (.tup [x,y])/\(∀xs,SqL K H a xs->xs[i]?=some x)/\∀ys,SqL K H b ys->ys[i]?=some y,
  fun i H=>∃xs ys,SqL K H a xs/\SqL K H b ys/\(xs.length<=i\/ys.length<=i)⟩
theorem zOX{P:qGn}{w:World}{K:qA1}{ts:List Expr}{kk:Nat}{tp:Pos}{a b z TI TO i1 i2:Addr}(D:ZipApart z TI TO i1 i2 a b) :
  Turn P w K (.Tuple ts kk tp) (Itz K a b) [z,TI,TO,i1,i2] z (fun i h=>IsZip h z TI TO .none/\IsPair h TI (.ref i1) (.ref i2)/\(∃x y,IsPair h TO x y)/\h.IsListIter i1 a i/\h.IsListIter i2 b i) where
 mem:=by simp
 obj:=fun i h st c hc=>by
  obtain⟨hz,hTI,⟨x,y,hTO⟩,h1,h2⟩:=st;have five:c=z\/c=TI\/c=TO\/c=i1\/c=i2:=by simpa using hc
  rcases five with e|e|e|e|e<;>subst e
  ·exact⟨_,hz,fun v q=>by cases q⟩
  ·exact⟨_,hTI,fun v q=>by cases q⟩
  ·exact⟨_,hTO,fun v q=>by cases q⟩
  ·obtain⟨o,e,_,d⟩:=h1;exact⟨o,e,fun v q=>by rw[d]at q;cases q⟩
  ·obtain⟨o,e,_,d⟩:=h2;exact⟨o,e,fun v q=>by rw[d]at q;cases q⟩
 keep:=fun i h h' st k=>by
  obtain⟨hz,hTI,⟨x,y,hTO⟩,h1,h2⟩:=st;exact⟨k z (by simp) _ hz,k TI (by simp) _ hTI,⟨x,y,k TO (by simp) _ hTO⟩,h1.at fun o e=>k i1 (by simp) o e,h2.at fun o e=>k i2 (by simp) o e⟩
 item:=by
  intro X hP hw hK hc i pins s σ H E I hf st hg;subst hP hw hK;obtain⟨xs,ys,x,y,hq1,hq2,hx,hy⟩:=hg;obtain⟨its1,rv1,p1,hz1⟩:=I.list hq1;obtain⟨its2,rv2,p2,hz2⟩:=I.list hq2;obtain⟨u1,hu1,ru1⟩:=rv1.get hx;obtain⟨u2,hu2,ru2⟩:=rv2.get hy;obtain⟨hz,hTI,⟨a0,b0,hTO⟩,h1,h2⟩:=st;refine wpAny_pyNext_zip_item D hz hTI hTO h1 h2 p1.isList p2.isList (x:=u1) (y:=u2) (by simpa using hu1) (by simpa using hu2) fun h' g1 g2 g3 g4 g5 g6 g7=>?_
  refine⟨_,rfl,wpAny_letOwnedTupleGo_zip g1 fun h'' hz'' hs''=>?_⟩;have lt:∀{c:Addr}{o:Obj},s.heap.get? c=some o->c<s.heap.objs.size:=fun e=>qGm e
  have hzs:=lt hz;have hTz:s.heap.objs.size≠z:=qBn hzs;have kk':∀c u,c∉[z,TI,TO,i1,i2]->s.heap.get? c=some u->h''.get? c=some u:=fun c u hc q=>by
   have c1:c≠z:=fun e=>hc (by simp[e])
   exact(hs''.2 c c1).trans (g7 c u c1 (fun e=>hc (by simp[e])) (fun e=>hc (by simp[e])) (fun e=>hc (by simp[e])) q)
  have hT'':=(hs''.2 _ hTz).trans g5;refine⟨.ref s.heap.objs.size,_,I.turnedNew (t':=s.toks) (o:=.tup [x,y]) hf kk' (qA9 _) ⟨by show 2<=sizeLine;decide,[u1,u2],.cons ru1 (.cons ru2 .nil),⟨_,hT'',rfl,_,rfl⟩⟩,rfl,
   ⟨_,x,y,rfl,I.fresh,rfl,fun zs hy=>by rw[I.list_inj hy hq1];exact hx,fun zs hy'=>by rw[I.list_inj hy' hq2];exact hy⟩,
   ⟨hz'',(hs''.2 _ D.TIz).trans (g7 TI _ D.TIz D.TITO D.TIi1 D.TIi2 hTI),⟨_,_,(hs''.2 _ D.TOz).trans g2⟩,g3.at fun o e=>(hs''.2 _ D.i1z).trans e,g4.at fun o e=>(hs''.2 _ D.i2z).trans e⟩,fun c hc=>?_⟩
  have hcs:c<s.heap.objs.size:=by
   have five:c=z\/c=TI\/c=TO\/c=i1\/c=i2:=by simpa using hc
   rcases five with e|e|e|e|e<;>subst e
   ·exact hzs
   ·exact lt hTI
   ·exact lt hTO
   ·obtain⟨o,e,_⟩:=h1;exact lt e
   ·obtain⟨o,e,_⟩:=h2;exact lt e
  rw[zAL (qAm hcs)];exact(hf c hc).1
 done:=by
  intro X hP hw hK hc i pins s σ H E I hf st hg;subst hP hw hK;obtain⟨xs,ys,hq1,hq2,hle⟩:=hg;obtain⟨its1,rv1,p1,hz1⟩:=I.list hq1;obtain⟨its2,rv2,p2,hz2⟩:=I.list hq2;have l1:=rv1.length;have l2:=rv2.length;obtain⟨hz,hTI,⟨a0,b0,hTO⟩,h1,h2⟩:=st;refine wpAny_pyNext_zip_end (I.ok.hd hc) D hz hTI hTO h1 h2 p1.isList p2.isList ?_ fun h' hk=>⟨rfl,I.turnedL (t':=s.toks) hf fun c u hc q=>hk c u (fun e=>hc (by simp[e])) (fun e=>hc (by simp[e])) (fun e=>hc (by simp[e])) (fun e=>hc (by simp[e])) q⟩
  rcases hle with q|q
  ·exact .inl (by simp;lia)
  ·exact .inr (by simp;lia)
 self:=fun _ _ _ _ _ st h=>wpAny_pyIter_zip st.1 h
section
variable{X:Cx}{K:qA1}
def iZip(K:qA1)(tl:TA):TI:=fun σ H R=>tl σ H fun vs H1=>match vs with
 |[.ref a,.ref b]=>(∃xs,SqL K H1 a xs)/\(∃ys,SqL K H1 b ys)/\R (Itz K a b) H1
 |_=>False
theorem zUX{ts:List Expr}{kk:Nat}{tp p pos:Pos}{a b:Expr}{ta:TA}(hg:Gl X "zip")(hm:X.mg "zip" = none)(ha:PA X [a,b] ta)(hs:starEach [a,b] X.env=(false,eval a X.env)::starEach [b] X.env:=by rfl)(hpl:(backTo pos (starEach [b] X.env)).any (·.1)=false:=by rfl)(hK:X.K=K:=by rfl) :
  PI X (.Tuple ts kk tp) (.Call (.Name "zip" p) [a,b] [] pos) (iZip K ta):=by
 subst hK;intro pins s σ H R I h;refine Call_ (zF6 I hg hm boot_zip (qB7 (thn (ha pos pins s σ H _ I h) fun us s1 z0=>?_) hs hpl));obtain⟨vs,H1,I1,r1,q1⟩:=z0;cases vs with
 |nil=>exact qA8 q1
 |cons hd1 tl1=>
  cases hd1 with
  |ref l1=>
   cases tl1 with
   |nil=>exact qA8 q1
   |cons hd2 tl2=>
    cases hd2 with
    |ref l2=>
     cases tl2 with
     |nil=>
      obtain⟨⟨xs,hq1⟩,⟨ys,hq2⟩,q⟩:=q1;obtain⟨u1,u2,rfl,rx,ry⟩:=zOT r1;cases rx;cases ry;obtain⟨its1,rv1,p1,hz1⟩:=I1.list hq1;obtain⟨its2,rv2,p2,hz2⟩:=I1.list hq2;have lt1:l1<s1.heap.objs.size:=by obtain⟨o,ho,_⟩:=p1.isList;exact qGm ho
      have lt2:l2<s1.heap.objs.size:=by obtain⟨o,ho,_⟩:=p2.isList;exact qGm ho
      refine call_zip_2 p1.isList p2.isList fun h' hz hTI hTO h1 h2 hsz hk=>?_
      refine wpAny_pyIter_zip hz ?_;refine⟨s1.heap.objs.size+4,[s1.heap.objs.size+4,s1.heap.objs.size+2,s1.heap.objs.size+3,s1.heap.objs.size,s1.heap.objs.size+1],_,_,H1,rfl,I1.kept (t':=s1.toks) hk,zOX (zipApart_new lt1 lt2),⟨hz,hTI,⟨_,_,hTO⟩,h1,h2⟩,fun c hc=>?_,q⟩;have hc':s1.heap.objs.size<=c:=by
       have five:c=s1.heap.objs.size+4\/c=s1.heap.objs.size+2\/c=s1.heap.objs.size+3\/c=s1.heap.objs.size\/c=s1.heap.objs.size+1:=by simpa using hc
       rcases five with e|e|e|e|e<;>rw[e]<;>first|exact qA9 _|exact qDm _ _
      exact I1.fpOk hc' (I1.hok.fresh hc')
     |cons _ _=>exact qA8 q1
    |_=>exact qA8 q1
  |_=>exact qA8 q1
end
def XO(e:Addr)(C:Value)(d:Option Addr)(h:Heap):Prop:=∃oe vs,h.get? e=some oe/\oe.cls=C/\oe.dict=d/\oe.data=.fields vs/\1<vs.size
abbrev xo(e:Addr)(C:Value)(d:Option Addr):HO:=.ext (XO e C d)
def Fl(n:Nat)(e:Addr)(C:Value)(d:Option Addr)(mk:Value)(H:Hp)(h:Heap):Prop:=
 ∃oe vs T oT ts,h.get? e=some oe/\oe.cls=C/\oe.dict=d/\oe.data=.fields vs/\vs[1]?=some (.ref T)/\n<=T/\T≠e/\H T=none/\h.get? T=some oT/\oT.data=.fields ts/\ts[3]?=some mk
def Fly(n:Nat)(e:Addr)(C:Value)(d:Option Addr)(H:Hp)(h:Heap):Prop:=
 H e=some (xo e C d)/\((∃oe vs,h.get? e=some oe/\oe.cls=C/\oe.dict=d/\oe.data=.fields vs/\vs[1]?=some .none)\/Fl n e C d .none H h)
def Held(n:Nat)(e:Addr)(C:Value)(d:Option Addr)(L:Addr)(H:Hp)(h:Heap):Prop:=H e=some (xo e C d)/\Fl n e C d (rawInt L) H h
theorem Fly.mono{n n':Nat}{e:Addr}{C:Value}{d:Option Addr}{H:Hp}{h:Heap}(x:Fly n e C d H h)(hn:n'<=n):Fly n' e C d H h:=by
 obtain⟨a,b|⟨oe,vs,T,oT,ts,h1,h2,h3,h4,h5,h6,h7⟩⟩:=x
 ·exact⟨a,.inl b⟩
 ·exact⟨a,.inr ⟨oe,vs,T,oT,ts,h1,h2,h3,h4,h5,qAi hn h6,h7⟩⟩
structure Nt(n:Nat)(fs ch:List Addr)(e:Addr)(H:Hp)(h h':Heap):Prop where
 keep:∀b o,h.get? b=some o->b≠e->b∉fs->b∉ch->h'.get? b=some o
 slot:∀b o,h.get? b=some o->b≠e->b∉ch->∃sl,h'.get? b=some { o with slots:=sl }
 there:∀b o,h.get? b=some o->∃o',h'.get? b=some o'
 old:∀b∈ch,n<=b/\H b=none/\∃o vs,h.get? b=some o/\o.data=.fields vs
section
variable{M:Model}{A:qGo}{E:Value->qGk->Prop}{s:qGk}{n:Nat}{e L:Addr}{C:Value}{d:Option Addr}{H:Hp}{base:Heap}{env:Env}{outer:List Env}
theorem zRR{oe:Obj}{vs:Array Value}{head:Value}{hadNext:Bool}{Q:Unit->qGk->Prop}
  (hfr:A.frames=some (env::outer)) (hl:s.heap.FunFrames base (env::outer)) (hf:env.frame=some L)
  (he:s.heap.get? e=some oe) (hc:oe.cls=C) (hdi:oe.dict=d) (hd:oe.data=.fields vs) (hsz:1<vs.size) (hn:n<=s.heap.objs.size) (hH:∀b,s.heap.objs.size<=b->H b=none)
  (h:∀h',(∀b o,s.heap.get? b=some o->b≠e->b∉frs (env::outer)->h'.get? b=some o)->(∀b o,s.heap.get? b=some o->b≠e->∃sl,h'.get? b=some { o with slots:=sl }) ->
   (∃o',h'.get? e=some o')->Fl n e C d (rawInt L) H h'->Q () { s with heap:=h' }) :
  wpAny M A (do let a <- frameOf env;let pl <- entryPlaceOf L hadNext;let b <- qIv head a .none (rawInt L) .none pl;setField (.ref e) 1 b) Q E s:=by
 have hene:e∉(env::outer).filterMap (·.frame):=fun hm=>by
  obtain⟨_,o,ho,hnf⟩:=hl.mem hm;rw[he]at ho;injection ho with ho;subst ho;exact hnf vs hd
 refine wpAny_bind (wpAny_frameOf_fun hfr hl hf fun h₁ hs₁=>?_);refine wpAny_bind (wpAny_entryPlaceOf fun pl hpl=>?_);unfold qIv newFields;refine wpAny_bind (wpAny_newObj_type ?_ (hpl.sizeOk5 _ _ _ _ _));have he₁:h₁.get? e=some oe:=(hs₁.2.1 e hene).trans he;have he₂:=qGl (h:=h₁) { cls:=.type "traceback",dict:=none,data:=.fields ([head,.ref L,.none,rawInt L,.none]++(if pl.isEmpty then qA7 6 qGx else pl)).toArray } he₁;have hTe:h₁.objs.size≠e:=qBn (qGm he₁);have hd₃:=qHn hd (·.setIfInBounds 1 (qGp h₁.objs.size));have he₃:=qH5 (qGz (·.setIfInBounds 1 (qGp h₁.objs.size))) he₂ (qHr hd₃);have hT₃:=(qGu (h₁.push { cls:=.type "traceback",dict:=none,data:=.fields ([head,.ref L,.none,rawInt L,.none]++(if pl.isEmpty then qA7 6 qGx else pl)).toArray })
  (qGz (·.setIfInBounds 1 (qGp h₁.objs.size))) (qCo hTe)).trans (qGs h₁ rfl)
 have keep:∀b o,b≠e->h₁.get? b=some o ->
   ((h₁.push { cls:=.type "traceback",dict:=none,data:=.fields ([head,.ref L,.none,rawInt L,.none]++(if pl.isEmpty then qA7 6 qGx else pl)).toArray }).update e (qGz (·.setIfInBounds 1 (qGp h₁.objs.size)))).get? b=some o:=
  fun b o hbe hb=>by
   rw[qGu _ _ (qCo hbe)];exact qGl _ hb
 have hsz1:h₁.objs.size=s.heap.objs.size:=hs₁.1;refine wpAny_setField he₂ hd hsz (h _ (fun b o hb hbe hbf=>keep b o hbe ((hs₁.2.1 b hbf).trans hb)) (fun b o hb hbe=>?_) ⟨_,he₃⟩ ?_)
 ·obtain⟨sl,e1⟩:=hs₁.2.2 b o hb;exact⟨sl,keep b _ hbe e1⟩
 ·have hdo:∀(o:Obj) f,(qGz f o).dict=o.dict:=fun o f=>by unfold qGz;split<;>rfl
  exact⟨_,_,h₁.objs.size,_,_,he₃,(Obj.cls_mapFields _ _).trans hc,(hdo _ _).trans hdi,hd₃,by simp[hsz],by rw[hsz1];exact hn,hTe,hH _ (by rw[hsz1];exact qA9 _),hT₃,rfl,
   by first|(simp;done)|(rcases hpl with rfl|⟨_,_,_,_,_,_,_,rfl⟩<;>simp)⟩
theorem zT2{Q:Unit->qGk->Prop}(hfr:A.frames=some (env::outer))(hl:s.heap.FunFrames base (env::outer))(hf:env.frame=some L)(x:Fly n e C d H s.heap)(hn:n<=s.heap.objs.size)(hH:∀b,s.heap.objs.size<=b->H b=none)
  (h:∀h' ch,Nt n (frs (env::outer)) ch e H s.heap h'->Held n e C d L H h'->Q () { s with heap:=h' }):wpAny M A (noteFrame (.ref e) env) Q E s:=by
 obtain⟨hx,⟨oe,vs,he,hc,hdi,hd,h1⟩|⟨oe,vs,T,oT,ts,he,hc,hdi,hd,h1,hnT,hTe,hHT,hT,hdT,h3⟩⟩:=x
 ·unfold noteFrame;simp only[hf];refine wpAny_bind (wpAny_field he hd h1 ?_);rw[if_neg (by decide)];refine zRR hfr hl hf he hc hdi hd (qBd.mp h1).1 hn hH fun h' k1 k2 k3 k4=>?_
  refine h h' [] ⟨fun b o hb hbe hbf _=>k1 b o hb hbe hbf,fun b o hb hbe _=>k2 b o hb hbe,fun b o hb=>?_,fun b hb=>nomatch hb⟩ ⟨hx,k4⟩
  by_cases z:b=e
  ·rw[z];exact k3
  ·obtain⟨sl,q⟩:=k2 b o hb z;exact⟨_,q⟩
 ·unfold noteFrame;simp only[hf];refine wpAny_bind (wpAny_field he hd h1 ?_);rw[if_pos (show(qGp T != qGx)=true from by simp)];refine wpAny_bind (wpAny_field hT hdT h3 ?_);rw[if_neg (show ¬((qGx==rawInt L)=true) from by simp[rawInt])];refine wpAny_bind (wpAny_setField hT hdT (qBd.mp h3).1 ?_);have other:∀b,b≠T->(s.heap.update T (qGz (·.setIfInBounds 3 qGx))).get? b=s.heap.get? b:=fun b hb=>qGu _ _ (qCo hb)
  have noRecord:∀b o,s.heap.get? b=some o->(∀vs,o.data≠.fields vs)->b≠T:=fun b o hb hnf q=>by
   rw[q,hT]at hb;injection hb with hb;subst hb;exact hnf ts hdT
  have hl1:=hl.of_keeps (h':=s.heap.update T (qGz (·.setIfInBounds 3 qGx))) fun b o hb hnf=>⟨o,(other b (noRecord b o hb hnf)).trans hb,rfl⟩
  have hself:=qH5 (qGz (·.setIfInBounds 3 qGx)) hT (qHr (qHn hdT _));have hsz:(s.heap.update T (qGz (·.setIfInBounds 3 qGx))).objs.size=s.heap.objs.size:=by simp
  refine zRR (s:={ s with heap:=s.heap.update T (qGz (·.setIfInBounds 3 qGx)) }) hfr hl1 hf ((other e (qCo hTe)).trans he) hc hdi hd (qBd.mp h1).1 (by rw[hsz];exact hn) (by rw[hsz];exact hH) fun h' k1 k2 k3 k4=>?_
  have nT:∀b,b∉[T]->b≠T:=fun b hb z=>hb (by simp[z])
  refine h h' [T] ⟨fun b o hb hbe hbf hc=>k1 b o ((other b (nT b hc)).trans hb) hbe hbf,fun b o hb hbe hc=>k2 b o ((other b (nT b hc)).trans hb) hbe,fun b o hb=>?_,fun b hb=>?_⟩ ⟨hx,k4⟩
  ·by_cases z:b=e
   ·rw[z];exact k3
   ·by_cases z':b=T
    ·rw[z'];obtain⟨sl,q⟩:=k2 T _ hself hTe;exact⟨_,q⟩
    ·obtain⟨sl,q⟩:=k2 b o ((other b z').trans hb) z;exact⟨_,q⟩
  ·obtain rfl:b=T:=by simpa using hb
   exact⟨hnT,hHT,oT,ts,hT,hdT⟩
theorem zT9{Q:Unit->qGk->Prop}{fs:List Addr}{mk:Value}(x:Fl n e C d mk H s.heap)
  (h:∀h' ch,Nt n fs ch e H s.heap h'->Fl n e C d .none H h'->Q () { s with heap:=h' }):wpAny M A (setFlight (.ref e) none) Q E s:=by
 obtain⟨oe,vs,T,oT,ts,he,hc,hdi,hd,h1,hnT,hTe,hHT,hT,hdT,h3⟩:=x;have hsz3:3<ts.size:=(qBd.mp h3).1;have other:∀b,b≠T->(s.heap.update T (qGz (·.setIfInBounds 3 ((none:Option Addr).elim qGx fun f=>rawInt f)))).get? b=s.heap.get? b:=
  fun b hb=>qGu _ _ (qCo hb)
 have hself:=qH5 (qGz (·.setIfInBounds 3 ((none:Option Addr).elim qGx fun f=>rawInt f))) hT (qHr (qHn hdT _));have nT:∀b,b∉[T]->b≠T:=fun b hb z=>hb (by simp[z])
 unfold setFlight;refine wpAny_bind (wpAny_field he hd h1 ?_);rw[if_pos (show(qGp T != qGx)=true from by simp)];refine wpAny_setField hT hdT hsz3 (h _ [T] ⟨fun b o hb _ _ hc=>(other b (nT b hc)).trans hb,fun b o hb _ hc=>⟨o.slots,(other b (nT b hc)).trans hb⟩,fun b o hb=>?_,fun b hb=>?_⟩ ?_)
 ·by_cases z:b=T
  ·rw[z];exact⟨_,hself⟩
  ·exact⟨o,(other b z).trans hb⟩
 ·obtain rfl:b=T:=by simpa using hb
  exact⟨hnT,hHT,oT,ts,hT,hdT⟩
 ·exact⟨oe,vs,T,_,_,(other e (qCo hTe)).trans he,hc,hdi,hd,h1,hnT,hTe,hHT,hself,qHn hdT _,by simp[hsz3]⟩
end
section
variable{X:Cx}{pins:List (Addr×Obj)}{σ:St}{H:Hp}{s:qGk}{n:Nat}{e:Addr}{C:Value}{d:Option Addr}{A:qGo}{E:Value->qGk->Prop}{fs ch:List Addr}{h h':Heap}
theorem Nt.hok{P:qGn}{w:World}(t:Nt n fs ch e H h h')(k:HOk P w H h)(he:H e=some (xo e C d))(hfs:∀b∈fs,H b=none)(f:XO e C d h'):HOk P w H h':=fun a o ha=>by
 by_cases z:a=e
 ·subst z;rw[he]at ha;cases ha;obtain⟨oe,vs,h1,r⟩:=id f;exact⟨f,⟨oe,h1⟩,(k a _ he).2.2⟩
 ·refine(k a o ha).stay (fun b u hb q=>?_) (fun _ q=>q) (fun _ _ q=>q) fun _ _ _ q _=>q
  have hb':H b≠none:=by
   rcases hb with rfl|hb
   ·rw[ha];exact fun z=>by cases z
   ·rw[hb];exact fun z=>by cases z
  have hbe:b≠e:=by
   rcases hb with rfl|hb
   ·exact z
   ·intro y;rw[y,he]at hb;cases hb
  exact t.keep b u q hbe (fun y=>hb' (hfs b y)) fun y=>hb' (t.old b y).2.1
theorem Fl.xo{mk:Value}(f:Fl n e C d mk H h):XO e C d h:=by
 obtain⟨oe,vs,T,oT,ts,h1,h2,h3,h4,h5,_⟩:=f;exact⟨oe,vs,h1,h2,h3,h4,(qBd.mp h5).1⟩
theorem Nt.un(t:Nt n fs ch e H h h')(he:H e=some (xo e C d)):Un fs ch H H h h':=
 ⟨fun b o q hn hf hc=>t.keep b o q (fun z=>by rw[z,he]at hn;cases hn) hf hc,fun b o q hn _ hc=>t.slot b o q (fun z=>by rw[z,he]at hn;cases hn) hc,fun _ _ _ hn _=>hn,fun b o q _=>t.there b o q,fun _ _ q=>q,fun _ _ _ q=>q,fun b ps q=>⟨#[],by simpa using q⟩⟩
theorem Inv.noted(I:Inv X pins σ H s)(t:Nt n (frs X.stack) ch e H s.heap h')(he:H e=some (xo e C d))(f:XO e C d h')(hn:X.s₀.heap.objs.size<=n)(hp:∀p∈X.pn++pins,p.1<n):Inv X pins σ H { s with heap:=h' }:=by
 refine I.call' rfl (t.un he) (t.hok I.hok he I.stkFree f) I.bare fun b hb=>?_
 obtain⟨h1,h2,o,vs,h3,h4⟩:=t.old b hb;refine⟨.inr (qAi hn h1),?_,?_,fun p hp' z=>?_⟩
 ·intro z;obtain⟨m,⟨o',es,ep,ho',hd',_⟩,_⟩:=I.loc;rw[z,ho']at h3;cases h3;rw[hd']at h4;cases h4
 ·intro x c hx z;obtain⟨v,o',ho',hd'⟩:=I.cell x c hx;rw[<- z,ho']at h3;cases h3;rw[hd']at h4;cases h4
 ·have:=hp p hp'
  rw[z]at this;exact absurd h1 (Nat.not_le_of_lt this)
theorem zKZ{Q:Unit->qGk->Prop}{M:Model}(I:Inv X pins σ H s)(hA:A.frames=some X.stack)(hs:X.stack=X.env::X.outer/\X.env.frame=some X.env.locals)(x:Fly n e C d H s.heap)(hn:X.s₀.heap.objs.size<=n)(hn':n<=s.heap.objs.size)
  (hp:∀p∈X.pn++pins,p.1<n) (h:∀s',Inv X pins σ H s'->Held n e C d X.env.locals H s'.heap->Q () s'):wpAny M A (noteFrame (.ref e) X.env) Q E s:=by
 have hst:=I.stack;rw[hs.1]at hA hst;refine zT2 hA hst hs.2 x hn' (fun b hb=>I.hok.fresh hb) fun h' ch t y=>h _ (I.noted (ch:=ch) (by rw[hs.1];exact t) x.1 y.2.xo hn hp) y
theorem zHP{Q:Unit->qGk->Prop}{M:Model}{mk:Value}(I:Inv X pins σ H s)(hx:H e=some (xo e C d))(x:Fl n e C d mk H s.heap)(hn:X.s₀.heap.objs.size<=n)
  (hp:∀p∈X.pn++pins,p.1<n) (h:∀s',Inv X pins σ H s'->Fl n e C d .none H s'.heap->Q () s'):wpAny M A (setFlight (.ref e) none) Q E s:=
 zT9 (fs:=frs X.stack) x fun h' ch t y=>h _ (I.noted t hx y.xo hn hp) y
theorem zNH{Q:Unit->qGk->Prop}{M:Model}(I:Inv X pins σ H s)(hA:A.frames=some X.stack)(hs:X.stack=X.env::X.outer/\X.env.frame=some X.env.locals)(x:Fly n e C d H s.heap)(hn:X.s₀.heap.objs.size<=n)(hn':n<=s.heap.objs.size)
  (hp:∀p∈X.pn++pins,p.1<n) (h:∀s',Inv X pins σ H s'->Fly n e C d H s'.heap->Q () s'):wpAny M A (leaving X.env (.ref e)) Q E s:=by
 unfold leaving;exact wpAny_bind (zKZ I hA hs x hn hn' hp fun s1 I1 y=>zHP I1 y.1 y.2 hn hp fun s2 I2 z=>h s2 I2 ⟨y.1,.inr z⟩)
end
def CXe(P:qGn)(w:World):CXT:=fun outer H s E x s'=>∃e C d H',x=.ref e/\s'.os=s.os/\qI6 s'.gens/\Un (frs outer) [] H H' s.heap s'.heap/\HOk P w H' s'.heap/\Fly s.heap.objs.size e C d H' s'.heap/\s.heap.objs.size<=s'.heap.objs.size/\E x d H'
section
variable{X:Cx}{pins:List (Addr×Obj)}{σ:St}{H:Hp}{s s':qGk}{E E':XK}
theorem Inv.pinlt(I:Inv X pins σ H s):∀p∈X.pn++pins,p.1<s.heap.objs.size:=fun p hp=>qGm (I.pin p hp).1
def XP(X:Cx)(pins:List (Addr×Obj))(σ:St)(E:XK)(x:Value)(s':qGk):Prop:=∃n e C d H',x=.ref e/\Inv X pins σ H' s'/\Fly n e C d H' s'.heap/\X.s₀.heap.objs.size<=n/\n<=s'.heap.objs.size/\(∀p∈X.pn++pins,p.1<n)/\E x d H'
theorem Inv.flown{x:Value}(I:Inv X pins σ H s)(h:CXe X.prog X.w X.stack H s E x s'):XP X pins σ E x s':=by
 obtain⟨e,C,d,H',rfl,ho,hb,u,hk,f,hz,q⟩:=h;exact⟨_,e,C,d,H',rfl,I.call' ho u hk hb (fun b z=>absurd z (by simp)),f,I.sz,hz,I.pinlt,q⟩
end
section
variable{P:qGn}{w:World}{K:qA1}{mg:Str->Option Value}{base:Heap}{N:List Str}{qual:Str}{scope:Scope}{f:Addr}{cd:Value}{A:qGo}{outer:List Env}{s:qGk}{H:Hp}{E E':XK}
theorem zTX{pins:List (Addr×Obj)}{σ:St}{x:Value}{s':qGk}(hE:∀C d H',E' C d H'->E C d H')
  (h:XP (cxOf (CXe P w) P w K mg base N qual scope f cd A outer s H E) pins σ E' x s'):(cxOf (CXe P w) P w K mg base N qual scope f cd A outer s H E).xe x s':=by
 obtain⟨n,e,C,d,H',rfl,I,fl,hn,hz,hp,q⟩:=h;refine zNH I I.ok.frames ⟨rfl,rfl⟩ fl hn hz hp fun s2 I2 f2=>?_
 exact⟨e,C,d,H',rfl,I2.os,I2.bare,I2.base,I2.hok,f2.mono hn,I2.sz,hE _ _ _ q⟩
end
abbrev TEX:=St->Hp->VK->XK->Prop
abbrev TSX:=Ends->(St->XK)->St->Hp->Prop
def PEx(X:Cx)(e:Expr)(t:TEX):Prop:=∀(pins:List (Addr×Obj))(s:qGk)(σ:St)(H:Hp)(Q:VK)(E:XK),Inv X pins σ H s->t σ H Q E->wpAny (model X.prog X.w) X.A (eval e X.env) (EP X pins σ Q) (XP X pins σ E) s
def PSx(X:Cx)(st:Stmt)(t:TSX):Prop:=∀(pins:List (Addr×Obj))(s:qGk)(σ:St)(H:Hp)(D:Ends)(E:St->XK),Inv X pins σ H s->t D E σ H->wpAny (model X.prog X.w) X.A (exec st X.env) (SP X pins D) (fun x s'=>∃σ',XP X pins σ' (E σ') x s') s
def PSxs(X:Cx)(st:List Stmt)(t:TSX):Prop:=∀(pins:List (Addr×Obj))(s:qGk)(σ:St)(H:Hp)(D:Ends)(E:St->XK),Inv X pins σ H s->t D E σ H->wpAny (model X.prog X.w) X.A (execs st X.env) (SP X pins D) (fun x s'=>∃σ',XP X pins σ' (E σ') x s') s
section
variable{X:Cx}{k:Nat}{f:Addr}{fd:qH2}{ps:List Str}{sp:Sp}{dvs:List V}{ds:List Value}{x:Str}{p pos:Pos}{e:Expr}{es:List Expr}{t:TA}{te:TE}{tx:TEX}{st:Stmt}{rest:List Stmt}{u u':TSX}
theorem zSC{pins:List (Addr×Obj)}{σ:St}{H:Hp}{s:qGk}{Q:VK}{E:XK}{us:List Value}{vs:List V}(F:FnOk X.prog X.w X.K X.mg X.base (CXe X.prog X.w) k f fd ps sp)(hr:Room k X.A)(hb:Binds X.K fd ps ds)(hd:Vals dvs ds)
  (I:Inv X pins σ H s) (r:Vals vs us) (h:sp (vs++dvs) H Q E):wpAny (model X.prog X.w) X.A (call (.ref f) us) (EP X pins σ Q) (XP X pins σ E) s:=by
 have r2:Vals (vs++dvs) (us++ds):=r.append hd;have hl:(us++ds).length=ps.length:=by rw[<- r2.length];exact F.len _ _ _ _ h
 refine wpAny_call (codeAny_mono (F.run X.A X.stack s H ⟨us,[]⟩ (us++ds) (vs++dvs) Q E hr I.env0 (hb s us I.kIn hl) r2 h) fun r s' hq=>?_);cases r with
 |error e=>exact I.flown hq
 |ok fl=>
  cases fl with
  |ret u=>exact I.after hq
  |next=>exact qA8 hq
  |brk=>exact qA8 hq
  |cont=>exact qA8 hq
theorem PA.nox{es:List Expr}{t:TA}{E:Value->qGk->Prop}{M:Model}(h:PA X.nox es t)(pos:Pos){pins:List (Addr×Obj)}{s:qGk}{σ:St}{H:Hp}{Q:List V->Hp->Prop}(I:Inv X pins σ H s)(q:t σ H Q) :
  wpAny (model X.prog X.w) X.A (spliced (backTo pos (starEach es X.env))) (AP X pins σ Q) E s:=
 wpAny_mono (h pos pins s σ H Q (I.wish _) q) (fun _ _ ⟨vs,H',I',r,q⟩=>⟨vs,H',I'.unwish,r,q⟩) fun _ _ z=>qA8 z
theorem zPL(F:FnOk X.prog X.w X.K X.mg X.base (CXe X.prog X.w) k f fd ps sp)(hr:Room k X.A)(hg:Gl X x)(hm:X.mg x=some (.ref f))(hk:qB1 X.K (.ref f)=true)(hb:Binds X.K fd ps ds)(hd:Vals dvs ds)
  (ha:PA X.nox (e::es) t) (hdb:(x==("__debug__":Str))=false:=by decide) (he:starEach (e::es) X.env=(false,eval e X.env)::starEach es X.env:=by rfl) (hpl:(backTo pos (starEach es X.env)).any (·.1)=false:=by rfl) :
  PEx X (.Call (.Name x p) (e::es) [] pos) (fun σ H Q E=>zGL sp dvs E t σ H Q):=by
 intro pins s σ H Q E I h;refine qHa (zEZ I hg hm ?_ hdb);refine qD2 (h₀:=X.base) I.ok.mod.kin hk (thn (PA.nox (M:=model X.prog X.w) ha pos I h) fun us s1 ⟨vs,H1,I1,r,q⟩=>⟨I1.kIn,?_⟩) he hpl;exact zSC F hr hb hd I1 r q
theorem zPG(he:PEx X e tx)(hs:qJ0 e none pos.line X.env=pure false:=by rfl):PSx X (.Expr e pos) (fun D E σ H=>tx σ H (fun _ H1=>D.nx σ H1) (E σ)):=by
 intro pins s σ H D E I h;exact wpAny_Expr_any (wpAny_mono (he pins s σ H _ _ I h) (fun v s1 ⟨x,H1,I1,r1,q1⟩=>⟨σ,H1,I1,q1⟩) fun x s1 q=>⟨σ,q⟩) I.quiet hs
theorem zPF(h1:PSx X st u):PSxs X [st] u:=by
 intro pins s σ H D E I h;refine qI9 (thn (h1 pins s σ H D E I h) fun f s1 q=>?_);cases f with
 |next=>exact qHc q
 |ret v=>exact q
 |brk=>exact q
 |cont=>exact q
abbrev Cx.hd(X:Cx)(e:Addr):Cx:={ X with A:=X.A.mark (some (.ref e)),calm:=false,xe:=fun _ _=>False }
theorem Cx.Ok.hd'{X:Cx}{e:Addr}(ok:X.Ok):(X.hd e).Ok:=
 ⟨ok.mod,ok.kind,ok.glob,ok.blt,ok.above,ok.inj,ok.has,ok.cab,fun z=>Bool.noConfusion z,ok.frames,ok.stk,ok.exf,ok.bs,ok.bsz,ok.noex,ok.exfs,ok.funs,ok.frf⟩
variable{pins:List (Addr×Obj)}{σ:St}{H:Hp}{s:qGk}{a:Addr}
theorem Inv.hd(I:Inv X pins σ H s)(a:Addr):Inv (X.hd a) pins σ H s:=⟨I.ok.hd',I.os,I.bare,I.base,I.loc,I.cell,I.free,I.freeC,I.pin,I.hok,I.len⟩
theorem Inv.unhd(ok:X.Ok)(I:Inv (X.hd a) pins σ H s):Inv X pins σ H s:=⟨ok,I.os,I.bare,I.base,I.loc,I.cell,I.free,I.freeC,I.pin,I.hok,I.len⟩
theorem Inv.gone{i:Nat}{x:Str}{h':Heap}{m:Str->Option Value}{v:Option Value}{t':Nat}(I:Inv X pins σ H s)(hN:X.N.Nodup)(hi:X.N[i]?=some x)(hk:X.env.scope.names.lookup x=some .local)
  (hm:∀(j:Nat)(y:Str)(w:V),X.N[j]?=some y->σ[j]?=some (some w)->Vis X.env.scope y->∃u,RelV w u/\Look X.env s.heap m y u) (hn:h'.Ns X.env.locals fun y=>if y=x then v else m y) (hs:qIc X.env.locals s.heap h'):Inv X pins (σ.set i none) H { s with heap:=h',toks:=t' }:=by
 have hiσ:i<σ.length:=by rw[I.len];exact(qA2.mp hi).1
 have cne:=I.cne;have oth:∀b,b≠X.env.locals->h'.get? b=s.heap.get? b:=fun b hb=>hs.2 b hb
 refine⟨I.ok,I.os,I.bare,⟨fun b o e n hb hx=>?_,fun b o e n hb hx=>?_,I.base.free,fun b o e hx=>?_,I.base.tups,I.base.frzs,I.base.tbls⟩,⟨_,hn,fun j y w e1 e2 e3=>?_⟩,fun y c e=>?_,I.free,I.freeC,fun p hp=>?_,fun b ob e=>?_,by simp[I.len]⟩
 ·exact(oth b (qAm (qAf (qGm e) I.ok.above))).trans (I.base.keep b o e n hb hx)
 ·obtain⟨sl,e1⟩:=I.base.slot b o e n hb hx;exact⟨sl,(oth b (qAm (qAf (qGm e) I.ok.above))).trans e1⟩
 ·obtain⟨o',e1⟩:=I.base.there b o e hx;exact⟨o',(oth b (qAm (qAf (qGm e) I.ok.above))).trans e1⟩
 ·by_cases hj:j=i
  ·subst hj;rw[qA6 hiσ]at e2;cases e2
  ·rw[qAa (qCo hj)]at e2;obtain⟨u',r',q⟩:=hm j y w e1 e2 e3;refine⟨u',r',?_⟩;have hy:y≠x:=fun e=>hj (zHN hN e1 (e▸hi))
   rcases q with⟨k,e⟩|⟨k,c,e,z⟩
   ·exact .inl ⟨k,by simp[hy,e]⟩
   ·exact .inr ⟨k,c,e,z.sameBut hs (cne y c e)⟩
 ·obtain⟨w',z⟩:=I.cell y c e;exact⟨w',z.sameBut hs (cne y c e)⟩
 ·obtain⟨e,n,ne,nf,d⟩:=I.pin p hp;exact⟨(oth p.1 ne).trans e,n,ne,nf,d⟩
 ·refine(I.hok b ob e).stay (fun c w' hc q=>(oth c ?_).trans q) (fun _ q=>q) (fun _ _ q=>q) fun _ _ _ q _=>q
  rintro rfl
  rcases hc with rfl|hc
  ·rw[I.free]at e;cases e
  ·rw[I.free]at hc;cases hc
theorem zHR{M:Model}{A:qGo}{E:Value->qGk->Prop}{Q:Unit->qGk->Prop}{i:Nat}{x:Str}{pos:Pos}(I:Inv X pins σ H s)(hN:X.N.Nodup)(hi:X.N[i]?=some x)(hk:X.env.scope.names.lookup x=some .local)
  (h:∀s',Inv X pins (σ.set i none) H s'->Q () s'):wpAny M A (do bindName X.env x .none;unbindBehindTheSuite X.env x pos) Q E s:=by
 obtain⟨m,hn,hl⟩:=id I.loc;refine wpAny_nameGoes_keeps hk hn (by rw[I.ok.kind];rfl) fun h' v hn' hs=>h _ (I.gone hN hi hk hl hn' hs)
noncomputable def zQ6(i:Nat)(D:Ends):Ends:={ nx:=fun σ H=>D.nx (σ.set i none) H,rt:=D.rt,bk:=fun σ H=>D.bk (σ.set i none) H,ct:=fun σ H=>D.ct (σ.set i none) H }
def zQZ(K:qA1)(c:Value)(i:Nat)(tb:TSX)(ts:TS):TS:=fun D σ H=>tb D (fun σ1 x d H1=>∃e C,x=.ref e/\H1 e=some (xo e C d)/\qC4 K C c=some true/\ts (zQ6 i D) (σ1.set i (some (.ref e))) H1) σ H
theorem zPI{body:List Stmt}{tb:TSX}{ts:TS}{c:Value}{cn x:Str}{i:Nat}{b₀:Stmt}{suite:List Stmt}{cp hp':Pos}(hb:PSxs X body tb)(hst:X.stack=X.env::X.outer/\X.env.frame=some X.env.locals)
  (hc:X.mg cn=some c\/(X.mg cn=none/\qHb cn=some c/\cn≠"__name__")) (hg:Gl X cn) (hN:X.N.Nodup) (hi:X.N[i]?=some x) (hk:X.env.scope.names.lookup x=some .local) (hsu:∀e,PSs (X.hd e) (b₀::suite) ts) (hdb:(cn==("__debug__":Str))=false:=by decide) :
  PS X (.Try body [.ExceptHandler (some (.Name cn cp)) (some x) (b₀::suite) hp'] [] [] pos) (zQZ X.K c i tb ts):=by
 intro pins s σ H D I h;refine wpAny_Try_except (wpAny_mono (hb pins s σ H _ _ I h) (fun f s1 q=>?_) fun y s1 z0=>?_)
 ·cases f with
  |next=>exact qHc q
  |ret v=>exact q
  |brk=>exact q
  |cont=>exact q
 ·obtain⟨σ1,n,e,C,d,H1,ey,I1,fl,hn,hn',hp,q0⟩:=z0;subst ey;obtain⟨e',C',ee,hC',hm,q⟩:=q0;cases ee;refine zKZ I1 I1.ok.frames hst fl hn hn' hp fun s2 I2 hh=>?_
  refine zHP I2 hh.1 hh.2 hn hp fun s3 I3 f3=>?_
  have I3h:=I3.hd e;have LT:qEf (model X.prog X.w) s3.heap (typeOf (.ref e)) C':=by
   obtain⟨oe,vs,he,hcl,_⟩:=(I3.hok e _ hC').1;subst hcl;exact(qGf he).andThen .now
  have ex:=PySem.W.exm_one (M:=model X.prog X.w) I3.kIn LT hm;have load:∀{Q:Value->qGk->Prop}{E:Value->qGk->Prop},Q c s3->wpAny (model X.prog X.w) (X.A.mark (some (.ref e))) (eval (.Name cn cp) X.env) Q E s3:=fun{Q E} hq=>by
   rcases hc with z|⟨z,z1,z2⟩
   ·exact zEZ (X:=X.hd e) I3h hg z hq hdb
   ·exact zF6 (X:=X.hd e) I3h hg z z1 hq z2 hdb
  refine wpAny_handleBy_cons (codeAny_handlers_test (load (ex.here ?_))) (by intro z;cases z);refine codeAny_handlers_suite_as (zHP I3h hh.1 f3 hn hp fun s4 I4 f4=>?_);refine zH7 (X:=X.hd e) (v:=.ref e) I4 hN hi (.inl hk) rfl (fun s5 I5=>?_) (.inr hk);refine wpAny_mono (hsu e pins s5 _ H1 (zQ6 i D) I5 q) (fun f s6 q6=>?_) fun _ _ z=>qA8 z
  cases f with
  |next=>obtain⟨σ',H',I',q'⟩:=q6;exact zHR (I'.unhd I1.ok) hN hi hk fun s7 I7=>⟨_,H',I7,q'⟩
  |brk=>obtain⟨σ',H',I',q'⟩:=q6;exact zHR (I'.unhd I1.ok) hN hi hk fun s7 I7=>⟨_,H',I7,q'⟩
  |cont=>obtain⟨σ',H',I',q'⟩:=q6;exact zHR (I'.unhd I1.ok) hN hi hk fun s7 I7=>⟨_,H',I7,q'⟩
  |ret u=>obtain⟨v,σ',H',I',r,q'⟩:=q6;exact zHR (I'.unhd I1.ok) hN hi hk fun s7 I7=>⟨v,_,H',I7,r,q'⟩
end
end L2
namespace PySem.W
open PySem PySem.Calls PyProof.Rows Builtin Builtin.ObjectAttr
noncomputable def excTail:List Value->Bool
 |.ref _::r=>excTail r
 |[.type a,.type b,.type c,.type d]=>a == "ValueError" && b == "Exception" && c == "BaseException" && d == "object"
 |_=>false
theorem zK3{a b c d:String}(e:excTail [.type a,.type b,.type c,.type d]=true):a = "ValueError"/\b = "Exception"/\c = "BaseException"/\d = "object":=by
 simp only[excTail,qBb,beq_iff_eq]at e;exact⟨e.1.1.1,e.1.1.2,e.1.2,e.2⟩
theorem zEI:∀{l:List Value},excTail l=true->∃as:List Addr,l=as.map qGp++[.type "ValueError",.type "Exception",.type "BaseException",.type "object"]
 |.ref a::r,e=>by
  obtain⟨as,rfl⟩:=zEI (l:=r) e;exact⟨a::as,rfl⟩
 |[.type a,.type b,.type c,.type d],e=>by
  obtain⟨rfl,rfl,rfl,rfl⟩:=zK3 e;exact⟨[],rfl⟩
def excOver(K:Frag)(C:Addr):Bool:=(clsIn K C).any fun cd=>excTail cd.mro
section
variable{prog:qGn}{w:World}{A:qGo}{s:qGk}{K:Frag}{x C:Addr}{R:qJi->qGk->Prop}
end
end PySem.W
namespace PySem.W
open PySem
def xcIn(K:Frag)(C:Addr):Bool:=match K.lookup C with
 |some ⟨.type "type",_,.cls cd,sl⟩=>(match cd.mro,sl.toList with
  |.ref C'::bm,[_,_,_,_,some (.builtin n),_]=>C'==C && !cd.hasDel&&excTail bm&&n == "ValueError.__new__" && cd.hasDict
  |_,_=>false)
 |_=>false
theorem xc_cls{K:Frag}{h:Heap}{C:Addr}(X:K.In h)(q:xcIn K C=true):∃nm qn N bs bm hdct sn sub ab col dd k0 k1 k2 k3 k5,
  h.get? C=some (excClassObj nm qn C N bs bm hdct sn sub ab col dd k0 k1 k2 k3 k5 "ValueError.__new__")/\excTail bm=true:=by
 unfold xcIn at q;split at q
 ·rename_i dd cd sl ho
  split at q
  ·rename_i C' bm k0 k1 k2 k3 n k5 hm hs
   simp only[qBb,beq_iff_eq,Bool.not_eq_true']at q;obtain⟨⟨⟨⟨rfl,hdel⟩,hb⟩,hn⟩,hd⟩:=q;subst hn;obtain⟨nm,bs,mro,ns,qn,hd',sn,sub,ab,col,del⟩:=cd;dsimp only at hm hdel;subst hm hdel;have hsl:sl=#[k0,k1,k2,k3,some (.builtin "ValueError.__new__"),k5]:=by
    obtain⟨l⟩:=sl;simp only at hs;rw[hs]
   subst hsl;exact⟨nm,qn,ns,bs,bm,hd',sn,sub,ab,col,dd,k0,k1,k2,k3,k5,X _ _ ho,hb⟩
  ·cases q
 ·cases q
theorem exc_con{l:List Value}{T:String}{b:Bool}(e:excTail l=true)(hb:List.contains [qIh "ValueError",.type "Exception",.type "BaseException",.type "object"] (.type T)=b):l.contains (.type T)=b:=by
 obtain⟨as,rfl⟩:=zEI e;clear e;induction as with
 |nil=>exact hb
 |cons a r ih=>rw[qAn,qF0,qB8,ih];rfl
end PySem.W
namespace PySem.Xc
open PySem
section
variable{M:Model}{prog:qGn}{w:World}{A:qGo}{E:Value->qGk->Prop}{h:Heap}{g:Array qHp}{d:Drawn}{t:Nat}{os:OsState}{R:qJi->qGk->Prop}
variable{nm q:Str}{C N:Addr}{bs bm bmB:List Value}{hdct:Bool}{sn:List Str}{sub:List Value}{ab:Bool}{col:Option Bool}{dd:Option Addr}{k0 k1 k2 k3 k5:Option Value}{B newId initId:String}
theorem zM5(F:qHz B newId initId bmB)(hB:bm.contains (.type B)=true){rest:List Value}{Q:Unit->qGk->Prop}(hC:h.get? C=some (excClassObj nm q C N bs bm hdct sn sub ab col dd k0 k1 k2 k3 k5 newId))
  (hq:Q () ⟨h,g,d,t,os⟩):wpAny M A (checkBuiltinCall newId ⟨.ref C::rest,[]⟩) Q E ⟨h,g,d,t,os⟩:=by
 have hcont:(qGp C::bm).contains (.type B)=true:=by rw[qB8,hB,qDx]
 have hstar:=F.noStar;simp only[checkBuiltinCall,F.newKind,F.newSplit,F.newRow]
 repeat (first|refine qGt hC ?_|(refine qH4 hC ?_;rw[hcont])|refine wpAny_staticBase_exc hC ?_|refine wpAny_madeBy_exc hC ?_|simp only[bne_self_eq_false,qD5,if_false]|wp_step)
 exact hq
theorem zOD(F:qHz B newId initId bmB)(hB:bm.contains (.type B)=true)(hA:bm.contains (.type "AttributeError")=false)(hN:bm.contains (.type "NameError")=false){rest:List Value}(hC:h.get? C=some (excClassObj nm q C N bs bm hdct sn sub ab col dd k0 k1 k2 k3 k5 newId))
  (hq:R (.ok (.ret (.ref (h.objs.size+1)))) ⟨(h.push { cls:=.type "tuple",data:=.seq rest.toArray }).push
   { cls:=.ref C,data:=.fields #[.ref h.objs.size,.none,.none,.none,.bool false,.none] },g,d,t,os⟩) (hrest:rest.length<=sizeLine) :
  qId (model prog w) A (.builtin newId ⟨.ref C::rest,[]⟩) R ⟨h,g,d,t,os⟩:=by
 have hends:=F.ends;have hcB:(qGp C::bm).contains (.type B)=true:=by rw[qB8,hB,qDx]
 have hcA:(qGp C::bm).contains (.type "AttributeError")=false:=by rw[qB8,hA];rfl
 have hcN:(qGp C::bm).contains (.type "NameError")=false:=by rw[qB8,hN];rfl
 refine codeAny_builtinAt F.entry ?_;unfold Builtin.«BaseException.__new__»;refine wpAt_bind ?_;show wpAt _ _ _ (stack >>= _) _ _ _;refine wpAt_bind (wpAt_stack fun p below=>wpAt_of_wpAny ?_)
 wp_walk
 refine wpAt_of_wpAny ?_;rw[F.owner]
 repeat (first|with_reducible refine wpAny_madeHere_exc F.canon hC ?_|with_reducible refine qGt hC ?_|(with_reducible refine qH4 hC ?_;first|rw[hcB]|rw[hcA]|rw[hcN])|wp_step)
 show R _ _;rw[qH8];exact hq
theorem zKA(F:qHz B newId initId bmB)(hB:bm.contains (.type B)=true){e:Addr}{oe:Obj}{rest:List Value}{Q:Unit->qGk->Prop}{newId':String}
  (hC:h.get? C=some (excClassObj nm q C N bs bm hdct sn sub ab col dd k0 k1 k2 k3 k5 newId')) (he:h.get? e=some oe) (hcls:oe.cls=.ref C) (hq:Q () ⟨h,g,d,t,os⟩) :
  wpAny M A (checkBuiltinCall initId ⟨.ref e::rest,[]⟩) Q E ⟨h,g,d,t,os⟩:=by
 have hcB:(qGp C::bm).contains (.type B)=true:=by rw[qB8,hB,qDx]
 have hshort:=F.noStar;simp only[checkBuiltinCall,F.initKind,F.initSplit,F.initRow]
 repeat (first|(with_reducible refine qGt he ?_;rw[hcls])|with_reducible refine qGt hC ?_|(with_reducible refine qH4 hC ?_;rw[hcB])|wp_step)
 refine wpAny_onRaise ?_;rw[show ∀(a b:String)(n:Nat),Bind.check ⟨.positional,"*",B,.self,[⟨"args",.varPos,false⟩]⟩ a b n (List.map (fun x=>x.fst) ({ pos:=qGp e::rest }:Args).kw)=pure () from
  fun a b n=>check_star_args _ _ _ _ _ _]
 exact wpAny_pure hq
theorem zLG(F:qHz B newId initId bmB)(hB:bm.contains (.type B)=true)(hA:bm.contains (.type "AttributeError")=false)(hN:bm.contains (.type "NameError")=false){rest:List Value}{Q:Fin->qGk->Prop}
  (hC:h.get? C=some (excClassObj nm q C N bs bm hdct sn sub ab col dd k0 k1 k2 k3 k5 newId)) (hi:qEf (model prog w) h (typeLookup (.ref C) "__init__") (some (.builtin initId)))
  (hq:∀h' e,qI1 h h' e (.ref C) rest->h.objs.size<=e->Q (.done (.ret (.ref e))) ⟨h',g,d,t,os⟩) (hrest:rest.length<=sizeLine) :
  wpAny (model prog w) A (Builtin.«type.__call__» ⟨.ref C::rest,[]⟩) Q E ⟨h,g,d,t,os⟩:=by
 repeat (first|with_reducible refine qGt hC ?_|with_reducible refine wpAny_madeBy_exc hC ?_|wp_step)
 refine codeAny_call_builtin_code (qJ2 _ F.quiet) (zM5 F hB hC ?_);refine zOD F hB hA hN hC ?_ hrest;show wpAny _ _ _ _ _ _;have hC₁:=qGl { cls:=.ref C,data:=.fields #[.ref h.objs.size,.none,.none,.none,.bool false,.none] }
  (qGl { cls:=.type "tuple",data:=.seq rest.toArray } hC)
 have hi₁:=hi.keeps (h':=(h.push { cls:=.type "tuple",data:=.seq rest.toArray }).push { cls:=.ref C,data:=.fields #[.ref h.objs.size,.none,.none,.none,.bool false,.none] }) fun b o e=>qGl _ (qGl _ e)
 have hget:((h.push { cls:=.type "tuple",data:=.seq rest.toArray }).push
   { cls:=.ref C,data:=.fields #[.ref h.objs.size,.none,.none,.none,.bool false,.none] }).get? (h.objs.size+1)=some
   { cls:=.ref C,data:=.fields #[.ref h.objs.size,.none,.none,.none,.bool false,.none] }:=by heap_get
 have hcC:(qGp C::bm).contains (.ref C)=true:=by simp
 unfold isInstance
 repeat (first|with_reducible refine qGt hget ?_|(with_reducible refine qH4 hC₁ ?_;rw[hcC])|wp_step)
 show wpAny _ _ (typeLookup (.ref C) _) _ _ _;refine hi₁.here ?_;refine wpAny_holding (wpAny_bind (wpAny_of_eq (F.init.bind _) ?_));refine wpAny_bind (wpAny_call (codeAny_call_builtin F.init.plain F.initEntry (zKA F hB hC₁ hget rfl ?_)))
 wp_walk
 refine hq _ _ ⟨fun b o hb=>?_,qHg (qBz _),h.objs.size+2,?_,qHg (by lia),?_⟩ (qBz _)
 ·rw[qGu _ _ (qBn (qBf (qGm hb)))];exact qGl _ (qGl _ (qGl _ hb))
 ·rw[qH5 _ (qGl _ hget) rfl];simp only[qH8];rfl
 ·rw[qGu _ _ (show h.objs.size+1≠h.objs.size+2 by lia)];exact Heap.get?_push_at (by simp only[qH8]) rfl
theorem callX(F:qHz B newId initId bmB)(hB:bm.contains (.type B)=true)(hA:bm.contains (.type "AttributeError")=false)(hN:bm.contains (.type "NameError")=false){rest:List Value}{Q:Value->qGk->Prop}
  (hC:h.get? C=some (excClassObj nm q C N bs bm hdct sn sub ab col dd k0 k1 k2 k3 k5 newId)) (hi:qEf (model prog w) h (typeLookup (.ref C) "__init__") (some (.builtin initId)))
  (hq:∀h' e,qI1 h h' e (.ref C) rest->h.objs.size<=e->Q (.ref e) ⟨h',g,d,t,os⟩) (hrest:rest.length<=sizeLine) :
  wpAny (model prog w) A (call (.ref C) rest) Q E ⟨h,g,d,t,os⟩:=by
 have f1:=tc_lookup;have f2:=tc_bind (.ref C);have hT:(⟨h,g,d,t,os⟩:qGk).TypeIs (.ref C) "type":=⟨_,hC,rfl⟩;refine wpAny_call (codeAny_of_tree ?_);show wpAny _ _ (callAny (.ref C) _) _ _ _
 repeat (any_goals (first|assumption|with_reducible refine qGt hC ?_|wp_step))
 refine⟨rfl,?_⟩;refine codeAny_call_builtin_at (qJ2 _ (by decide +kernel)) entry_typeCall (wpAny_check_type_call_sub hC (zLG (hrest:=hrest) F hB hA hN hC hi fun h' e hm hz=>?_));exact hq h' e hm hz
end
section
variable{M:Model}{A:qGo}{E:Value->qGk->Prop}{s:qGk}{env:Env}
variable{nm q:Str}{C N:Addr}{bs bm:List Value}{hdct:Bool}{sn:List Str}{sub:List Value}{ab:Bool}{col:Option Bool}{dd:Option Addr}{k0 k1 k2 k3 k5:Option Value}{newId:String}
theorem raiseX{x:Sem Value}{Q:Flow->qGk->Prop}(hh:A.handled=none)
  (h:wpAny M A x (fun v s₁=>∃e t di nm q C N bs bm hdct sn sub ab col dd k0 k1 k2 k3 k5 newId,v=.ref e/\s₁.heap.get? C=some (excClassObj nm q C N bs bm hdct sn sub ab col dd k0 k1 k2 k3 k5 newId)/\bm.contains (.type "BaseException")=true /\
   s₁.heap.get? e=some { cls:=.ref C,dict:=di,data:=.fields #[.ref t,.none,.none,.none,.bool false,.none] }/\E (.ref e) s₁) E s) :
  wpAny M A (raiseStmt env (some x) none) Q E s:=by
 unfold raiseStmt;refine wpAny_bind (wpAny_mono h (fun v s₁ h₁=>?_) fun _ _ x=>x);obtain⟨e,t,di,nm,q,C,N,bs,bm,hdct,sn,sub,ab,col,dd,k0,k1,k2,k3,k5,newId,rfl,hC,hbase,he,hE⟩:=h₁;have hcB:(qGp C::bm).contains (.type "BaseException")=true:=by rw[qB8,hbase,qDx]
 obtain⟨hp,g,d,tk,os⟩:=s₁
 repeat (first|with_reducible refine qGt he ?_|with_reducible refine qGt hC ?_|(with_reducible refine qH4 hC ?_;rw[hcB])|wp_step)
 exact wpAny_raiseNew_none hh hE
theorem RaiseX{x:Expr}{pos:Pos}{Q:Flow->qGk->Prop}(hh:A.handled=none)
  (h:wpAny M A (eval x env) (fun v s₁=>∃e t di nm q C N bs bm hdct sn sub ab col dd k0 k1 k2 k3 k5 newId,v=.ref e/\s₁.heap.get? C=some (excClassObj nm q C N bs bm hdct sn sub ab col dd k0 k1 k2 k3 k5 newId)/\bm.contains (.type "BaseException")=true /\
   s₁.heap.get? e=some { cls:=.ref C,dict:=di,data:=.fields #[.ref t,.none,.none,.none,.bool false,.none] }/\E (.ref e) s₁) E s) :
  wpAny M A (exec (.Raise (some x) none pos) env) Q E s:=by
 rw[arm_exec_Raise]
 first
  |exact wpAny_bind (wpAny_standAt (raiseX hh (wpAny_bind (wpAny_mono h (fun v s₁ h₁=>wpAny_bind (wpAny_standAt (wpAny_pure h₁))) fun _ _ x=>x))))
  |(simp only[evalOpt,qGd];exact wpAny_bind (wpAny_standAt (raiseX hh (wpAny_bind (wpAny_mono h (fun v s₁ h₁=>wpAny_bind (wpAny_standAt (wpAny_pure h₁))) fun _ _ x=>x)))))
  |(show wpAny M A (do qJr pos;raiseStmt env (some (do let v <- eval x env;qJr pos;pure v)) none) Q E s;exact wpAny_bind (wpAny_standAt (raiseX hh (wpAny_bind (wpAny_mono h (fun v s₁ h₁=>wpAny_bind (wpAny_standAt (wpAny_pure h₁))) fun _ _ x=>x)))))
end
section
open PySem.W
variable{prog:qGn}{w:World}{A:qGo}{E:Value->qGk->Prop}{K:Frag}{x C:Addr}{ox:Obj}{od:Option Obj}{name:Str}{expr fill:Bool}{h:Heap}{g:Array qHp}{d:Drawn}{t:Nat}{os:OsState}
theorem zOE{M:Model}{nameV:Value}{Q:Unit->qGk->Prop}(X:K.In h)(hc:xcIn K C=true)(I:InstAt h x ox C od)(hq:Q () ⟨h,g,d,t,os⟩):wpAny M A (checkBuiltinCall "BaseException.__getattribute__" ⟨[.ref x,nameV],[]⟩) Q E ⟨h,g,d,t,os⟩:=by
 obtain⟨nm,qn,N,bs,bm,hdct,sn,sub,ab,col,dd,k0,k1,k2,k3,k5,hC,ht⟩:=xc_cls X hc;have hk:builtinKind "BaseException.__getattribute__" = some .slot:=by decide +kernel
 have hsplit:splitId "BaseException.__getattribute__" = some ("BaseException","__getattribute__"):=by decide +kernel
 have hcB:(qGp C::bm).contains (.type "BaseException")=true:=by rw[qB8,exc_con ht (T:="BaseException") (b:=true) (by decide)];rfl
 have ha:=F.args_bexc_ga (.ref x) nameV;simp only[checkBuiltinCall,hk,hsplit];refine wpAny_bind ?_
 ·unfold isInstance;have hx:=I.at_;have hcl:=I.cls
  repeat (first|(with_reducible refine qGt hx ?_;rw[hcl])|(with_reducible refine qH4 hC ?_;rw[hcB])|wp_step)
  exact hq
end
end PySem.Xc
namespace L2
open PySem PySem.Spec PyProof.Rows
def XN(e:Addr)(C:Value)(d:Option Addr)(h:Heap):Prop:=∃t1,h.get? e=some { cls:=C,dict:=d,data:=.fields #[.ref t1,.none,.none,.none,.bool false,.none] }
abbrev xn(e:Addr)(C:Value)(d:Option Addr):HO:=.ext (XN e C d)
theorem zS4{e:Addr}{C:Value}{d:Option Addr}(h1 h2:Heap)(x:XN e C d h1)(k:∀o,h1.get? e=some o->h2.get? e=some o):XN e C d h2:=let⟨t1,a⟩:=x;⟨t1,k _ a⟩
theorem zS3{e:Addr}{C:Value}{d:Option Addr}(h1 h2:Heap)(x:XO e C d h1)(k:∀o,h1.get? e=some o->h2.get? e=some o):XO e C d h2:=let⟨oe,vs,a,r⟩:=x;⟨oe,vs,k _ a,r⟩
theorem zX6{P:qGn}{w:World}{H:Hp}{h:Heap}{e:Addr}{C:Value}{d:Option Addr}(x:XN e C d h):ObjOk P w H h e (xn e C d):=⟨x,let⟨t1,a⟩:=x;⟨_,a⟩,zS4⟩
theorem zX5{P:qGn}{w:World}{H:Hp}{h:Heap}{e:Addr}{C:Value}{d:Option Addr}(x:XO e C d h):ObjOk P w H h e (xo e C d):=⟨x,let⟨oe,vs,a,_⟩:=x;⟨_,a⟩,zS3⟩
section
variable{X:Cx}{pins:List (Addr×Obj)}{σ:St}{H:Hp}{s:qGk}{k:Nat}{f C:Addr}{fd:qH2}{ps:List Str}{sp:Sp}{x:Str}{p pos:Pos}{e:Expr}{es:List Expr}{t:TA}{te:TE}
def zJQ(C:Addr)(t:TA):TE:=fun σ H Q=>t σ H fun vs H1=>vs.length<=sizeLine/\∀e,H1 e=none->Q (.ref e) (upd H1 e (xn e (.ref C) none))
theorem Inv.madeX{h':Heap}{e:Addr}{us:List Value}(I:Inv X pins σ H s)(m:qI1 s.heap h' e (.ref C) us)(hs:s.heap.objs.size<=e):H e=none/\Inv X pins σ (upd H e (xn e (.ref C) none)) { s with heap:=h' }:=by
 obtain⟨t1,h1,_⟩:=m.there;exact⟨I.hok.fresh hs,I.laid (t':=s.toks) m.keeps hs (zX6 ⟨t1,h1⟩)⟩
theorem zLQ{Q:VK}{us:List Value}{vs:List V}(hc:PySem.W.xcIn X.K C=true)(hi:qAt X.K (.ref C) "__init__" = some (some (.builtin "ValueError.__init__")))
  (I:Inv X pins σ H s) (r:Vals vs us) (hz:vs.length<=sizeLine) (h:∀e,H e=none->Q (.ref e) (upd H e (xn e (.ref C) none))):wpAny (model X.prog X.w) X.A (call (.ref C) us) (EP X pins σ Q) X.xe s:=by
 obtain⟨nm,qn,N,bs,bm,hdct,sn,sub,ab,col,dd,k0,k1,k2,k3,k5,hC,ht⟩:=PySem.W.xc_cls I.kIn hc;have hus:us.length<=sizeLine:=by rw[<- r.length];exact hz
 have key:∀h' e,qI1 s.heap h' e (.ref C) us->s.heap.objs.size<=e->EP X pins σ Q (.ref e) { s with heap:=h' }:=by
  intro h' e m hs;obtain⟨he,I2⟩:=I.madeX m hs;exact⟨.ref e,_,I2,rfl,h e he⟩
 have hK:=PySem.W.looks_findIn (M:=model X.prog X.w) I.kIn hi;obtain⟨hh,g,d,tk,os⟩:=s;exact Xc.callX PySem.F.excBase_ValueError (PySem.W.exc_con ht (by decide)) (PySem.W.exc_con ht (by decide)) (PySem.W.exc_con ht (by decide)) hC hK key hus
theorem zN4(hc:PySem.W.xcIn X.K C=true)(hi:qAt X.K (.ref C) "__init__" = some (some (.builtin "ValueError.__init__")))(hg:Gl X x)(hm:X.mg x=some (.ref C))(hk:qB1 X.K (.ref C)=true)
  (ha:PA X (e::es) t) (hdb:(x==("__debug__":Str))=false:=by decide) (he:starEach (e::es) X.env=(false,eval e X.env)::starEach es X.env:=by rfl) (hpl:(backTo pos (starEach es X.env)).any (·.1)=false:=by rfl) :
  PE X (.Call (.Name x p) (e::es) [] pos) (zJQ C t):=by
 intro pins s σ H Q I h;refine qHa (zEZ I hg hm ?_ hdb);refine qD2 (h₀:=X.base) I.ok.mod.kin hk (thn (ha pos pins s σ H _ I h) fun us s1 ⟨vs,H1,I1,r,z,q⟩=>⟨I1.kIn,?_⟩) he hpl;exact zLQ hc hi I1 r z q
theorem Inv.xn{e:Addr}{d:Option Addr}{Cv:Value}(I:Inv X pins σ H s)(h:H e=some (xn e Cv d)):XN e Cv d s.heap:=(I.hok e _ h).1
theorem XN.xo{h:Heap}{e:Addr}{d:Option Addr}{Cv:Value}(x:XN e Cv d h):XO e Cv d h:=let⟨t1,a⟩:=x;⟨_,_,a,rfl,rfl,rfl,by simp⟩
theorem Inv.raised{e:Addr}{d:Option Addr}(I:Inv X pins σ H s)(h:H e=some (L2.xn e (.ref C) d))(E:XK)(q:E (.ref e) d (upd H e (xo e (.ref C) d))):XP X pins σ E (.ref e) s:=by
 have x:=I.xn h;obtain⟨t1,a⟩:=id x;have I':Inv X pins σ (upd H e (xo e (.ref C) d)) s:=I.write (t':=s.toks) (h':=s.heap) (e:=e) (by rw[h];trivial) (.inl rfl) (fun _ _ _ q=>q) ⟨_,a⟩ (zX5 x.xo);exact⟨s.heap.objs.size,e,.ref C,d,_,rfl,I',⟨zAM,.inl ⟨_,_,a,rfl,rfl,rfl,rfl⟩⟩,I.sz,qA9 _,I.pinlt,q⟩
def Flies(X:Cx)(E:XK):Prop:=∀(pins:List (Addr×Obj))(σ:St)(x:Value)(s':qGk),XP X pins σ E x s'->X.xe x s'
theorem Flies.passes{E:XK}(h:Flies X E):zLD (CXe X.prog X.w) X E:=fun pins σ H s x s' I q=>h pins σ x s' (I.flown q)
def zR0(K:qA1)(E:XK)(te:TE):TS:=fun _ σ H=>te σ H fun v H1=>∃e C d,v=.ref e/\H1 e=some (L2.xn e (.ref C) d)/\PySem.W.xcIn K C=true/\E (.ref e) d (upd H1 e (xo e (.ref C) d))
theorem zPJ{E:XK}(he:PE X e te)(hf:Flies X E)(hc:X.calm=true):PS X (.Raise (some e) none pos) (zR0 X.K E te):=by
 intro pins s σ H D I h;refine Xc.RaiseX (I.ok.hd hc) (thn (he pins s σ H _ I h) fun v s1 z0=>?_);obtain⟨y,H1,I1,ry,a,C,d,ey,ha,hx,q⟩:=z0;subst ey;cases ry;obtain⟨t1,hg⟩:=I1.xn ha;obtain⟨nm,qn,N,bs,bm,hdct,sn,sub,ab,col,dd,k0,k1,k2,k3,k5,hC,ht⟩:=PySem.W.xc_cls I1.kIn hx;exact⟨a,t1,d,nm,qn,C,N,bs,bm,hdct,sn,sub,ab,col,dd,k0,k1,k2,k3,k5,_,rfl,hC,PySem.W.exc_con ht (by decide),hg,hf pins σ _ _ (I1.raised ha E q)⟩
structure XSet(K:qA1)(C:Addr)(f:Str):Prop where
 st:qAt K (.ref C) "__setattr__" = some (some (.builtin "object.__setattr__"))
 ov:PySem.W.excOver K C=true
 tk:PySem.W.takerIn K C f=some none
 hd:(qBp K C).any (·.hasDict)=true
end
end L2
namespace PySem.Xc
open PySem PySem.W
section
variable{prog:qGn}{w:World}{A:qGo}{E:Value->qGk->Prop}{K:Frag}{x C:Addr}{ox:Obj}{od:Option Obj}{name:Str}{expr fill:Bool}{h:Heap}{g:Array qHp}{d:Drawn}{t:Nat}{os:OsState}
theorem zM4{Q:Option Value->qGk->Prop}(X:K.In h)(I:InstAt h x ox C od)(hc:xcIn K C=true)(hga:qJv K (.ref C) "__getattribute__" = some (some (.builtin "BaseException.__getattribute__")))(hgg:qJv K (.ref C) "__getattr__" = some none)
  (hf:findObj K C od "__class__" = some (.bind (.builtin "getset_descriptor.__get__") (.builtin "object.__class__"))) (hm:mroIn K C (.type "object")=some true) (hq:Q (some (.ref C)) ⟨h,g,d,t+1,os⟩):wpAny (model prog w) A (getAttr? (.ref x) "__class__") Q E ⟨h,g,d,t,os⟩:=by
 have f3:=qIl.ga.bind (.ref x);have hx2:(qHk "BaseException.__getattribute__" == qHk "object.__getattribute__")=false:=by decide +kernel
 have hx1:(onTheHeap (qGp C)&&qHk "BaseException.__getattribute__" == qHk "object.__getattribute__")=false:=by rw[hx2];rfl
 have L0:=I.type (M:=model prog w);have L1:=looks_findIn (M:=model prog w) X hga;have L2:=looks_findIn (M:=model prog w) X hgg;have hx:=I.at_;have hcl:=I.cls;unfold getAttr?
 repeat (any_goals (first|assumption|(with_reducible refine qGt hx ?_;rw[hcl])|with_reducible refine L1.at ?_|with_reducible refine L2.at ?_|wp_step))
 refine codeAny_call_builtin qIl.ga.plain F.entry_bexc_ga (zOE (h:=h) X hc I ?_);have L3:=looks_find (M:=model prog w) X I hf;unfold Builtin.«object.__getattribute__»;refine wpAny_bind (wpAny_pure (wpAny_bind (wpAny_pure (wpAny_bind (L0.at (wpAny_bind (L3.at ?_)))))));show wpAny _ _ (qI2 (.builtin "getset_descriptor.__get__") (.builtin "object.__class__") (.ref x) (.ref C)) _ _ _;unfold qI2;refine wpAny_bind (wpAny_holding (wpAny_call (class_get (s:=⟨h,g,d,t+1,os⟩) (ox:=ox) (od:=od) X I hm ?_)));exact wpAny_pure (handed_on rfl (wpAny_pure hq))
theorem zHT{a g:Value}(hc:(clsIn K C).isSome=true)(ha:qJv K (.ref C) name=some (some a))(hg:specialIn K a "__get__" = some (some g))(ht:takesIn K a=some true):findObj K C od name=some (.bind g a):=by
 obtain⟨cd,hc⟩:=qC8.mp hc;unfold findObj;rw[hc,qDp,ha,qDp];simp only[hg,qDp,ht]
end
structure XIs(K:Frag)(C:Addr):Prop where
 xc:xcIn K C=true
 ga:qJv K (.ref C) "__getattribute__" = some (some (.builtin "BaseException.__getattribute__"))
 gg:qJv K (.ref C) "__getattr__" = some none
 hd:hasDictIn K C=true
 ca:qJv K (.ref C) "__class__" = some (some (.builtin "object.__class__"))
 cg:specialIn K (.builtin "object.__class__") "__get__" = some (some (.builtin "getset_descriptor.__get__"))
 ct:takesIn K (.builtin "object.__class__")=some true
 mo:mroIn K C (.type "object")=some true
theorem kitx_exc{K:Frag}{x C:Addr}(c:XIs K C):KitX K (.ref x) (.ref C) (fun h=>∃ox od,InstAt h x ox C od) where
 ty:=fun _ _ _ ⟨_,_,I⟩=>I.type
 it:=fun _ _ X _=>by
  obtain⟨cdD,hcD,_⟩:=any_some c.hd;unfold clsIn at hcD;split at hcD
  ·rename_i c' d' cd' sl' ho
   intro A' Q' E' s' k q;unfold isType loadHead;exact wpAny_bind (wpAny_loadPart (k _ _ (X _ _ ho)) (wpAny_pure q))
  ·cases hcD
 ne:=fun h tp dd its n sl X htp=>by
  obtain⟨cdD,hcD,_⟩:=any_some c.hd;refine Bool.eq_false_iff.mpr fun q=>?_
  have e:C=tp:=qJt (beq_iff_eq.mp q);subst e;unfold clsIn at hcD;split at hcD
  ·rename_i c' d' cd' sl' ho
   have z:=(X _ _ ho).symm.trans htp;cases z
  ·cases hcD
 ca:=fun{_ _ _ _ _ s} X ⟨_,_,I⟩ k=>by
  obtain⟨cd,hc,_⟩:=any_some c.hd;obtain⟨h,g,d,t,os⟩:=s;exact zM4 X I c.xc c.ga c.gg (zHT (by rw[hc];rfl) c.ca c.cg c.ct) c.mo k
end PySem.Xc
namespace L2
open PySem PySem.Spec PyProof.Rows
section
variable{X:Cx}{pins:List (Addr×Obj)}{σ:St}{H:Hp}{s:qGk}{C e d:Addr}{f:Str}{pos:Pos}{ta:TE}
def isX(H:Hp)(e C:Addr)(d:Option Addr):Prop:=H e=some (xn e (.ref C) d)\/H e=some (xo e (.ref C) d)
theorem Inv.isX{d:Option Addr}(I:Inv X pins σ H s)(h:L2.isX H e C d):XO e (.ref C) d s.heap:=by
 rcases h with h|h
 ·exact(I.xn h).xo
 ·exact(I.hok e _ h).1
theorem Inv.instX0{d:Option Addr}(I:Inv X pins σ H s)(h:L2.isX H e C d)(hd:∀a,d=some a->∃fs,H a=some (.xd fs)):∃ox od,qFm s.heap e ox C od:=by
 obtain⟨oe,vs,h1,h2,h3,h4,_⟩:=I.isX h;have nc:qFn oe=true:=by unfold qFn;rw[h4]
 cases d with
 |none=>exact⟨oe,none,h1,h2,nc,by rw[h3];trivial⟩
 |some a=>
  obtain⟨fs,ha⟩:=hd a rfl;obtain⟨mA,hn,_⟩:=I.hok a _ ha;obtain⟨od,ho,_⟩:=zIU hn;exact⟨oe,some od,h1,h2,nc,by rw[h3];exact ho⟩
noncomputable def clsV:List V->Option (List Value)
 |[]=>some []
 |.ref a::r=>(clsV r).map (qGp a::·)
 |.ty n::r=>(clsV r).map (qIh n::·)
 |_::_=>none
theorem zK9:∀{xs:List V}{its us:List Value},clsV xs=some its->Vals xs us->us=its
 |[],_,_,h,.nil=>by cases h;rfl
 |.ref a::r,its,_,h,.cons q t=>by
  obtain⟨l,hl,rfl⟩:=qDt.mp (show(clsV r).map (qGp a::·)=some its from h);rw[zK9 hl t];cases q;rfl
 |.ty n::r,its,_,h,.cons q t=>by
  obtain⟨l,hl,rfl⟩:=qDt.mp (show(clsV r).map (qIh n::·)=some its from h);rw[zK9 hl t];cases q;rfl
def zSM(K:qA1):List V->Hp->VK->Prop:=fun vs H Q=>∃e C d y b,vs=[.ref e,y]/\L2.isX H e C d/\(∀a,d=some a->∃fs,H a=some (.xd fs))/\Xc.XIs K C/\Q (.bl b) H /\
 ((∃c,y=.ref c/\qB5 K (.ref C) (.ref c)=some b)\/(∃n,y=.ty n/\qB5 K (.ref C) (.type n)=some b)\/∃p xs its,y=.ref p/\H p=some (.tup xs)/\clsV xs=some its/\PySem.W.kitAny K (.ref C) its=some b)
theorem zGE:zCT X (.builtin "isinstance") (zSM X.K):=by
 intro pins s σ H vs us Q I r h;obtain⟨e,C,d,y,b,rfl,hx,hd,c,q,hy⟩:=h;cases r with
 |cons r1 r2=>
  cases r2 with
  |cons ry r3=>
   cases r3;cases r1;have P:=I.instX0 hx hd;rcases hy with⟨c',rfl,hk⟩|⟨n,rfl,hk⟩|⟨p,xs,its,rfl,hp,rv,hk⟩
   ·cases ry;exact qAx (Xc.kitx_exc c) I.kIn P hk (fun z=>nomatch z) fun tk=>⟨.bl b,H,I.tok tk,rfl,q⟩
   ·cases ry;exact qAx (Xc.kitx_exc c) I.kIn P hk (fun z=>nomatch z) fun tk=>⟨.bl b,H,I.tok tk,rfl,q⟩
   ·cases ry;obtain⟨_,us',r',ob,h1,h2,n,h3⟩:=I.hok p _ hp;obtain⟨oc,od,odt,osl⟩:=ob;dsimp only at h2 h3;subst h2 h3;rw[zK9 rv r']at h1;exact PySem.W.kia_tup (Xc.kitx_exc c) I.kIn P h1 hk (fun z=>nomatch z) fun tk=>⟨.bl b,H,I.tok tk,rfl,q⟩
end
def HasX(P:qGn)(w:World)(K:qA1)(mg:Str->Option Value)(base:Heap)(x:Str)(k:Nat)(ps:List Str)(sp:Sp):Prop:=
 ∃f fd,FnOk P w K mg base (CXe P w) k f fd ps sp/\mg x=some (.ref f)/\qB1 K (.ref f)=true/\Binds K fd ps []
section
variable{P:qGn}{w:World}{K:qA1}{mg:Str->Option Value}{base:Heap}{x:Str}{k:Nat}{ps N:List Str}{sp sp':Sp}{st:Stmt}
theorem Fun.okX{y qual:Str}{f:Addr}{fd:qH2}(F:Fun K y qual st f fd)(S:FnScope N ps (zAB st))(len:∀vs H Q E,sp vs H Q E->vs.length=ps.length)
  (hbody:∀(cdv:Value)(A:qGo)(outer:List Env)(s:qGk)(H:Hp)(vs:List V)(Q:VK)(E:XK),Room k (A.deeper (envOfC qual (zAB st) s.heap.objs.size f cdv))->sp vs H Q E ->
   ∃t,PSs (cxOf (CXe P w) P w K mg base N qual (zAB st) f cdv A outer s H E) (zBE st) t/\t { nx:=fun _ H'=>Q .non H',rt:=Q } (start N vs) H):FnOk P w K mg base (CXe P w) (k+1) f fd ps sp:=by
 obtain⟨oc,od,kV,doc,pm,an,cdv,ct,osl,rfl,lk,hcd⟩:=F.ex;exact zVV lk hcd S len fun A outer s H vs Q E hr hsp=>hbody cdv A outer s H vs Q E hr hsp
theorem Def.okX(D:Def K mg x st)(S:FnScope N ps (zAB st))
  (hb:∀(kV doc pm:Value)(an:Option Addr)(cdv ct:Value)(us:List Value),us.length=ps.length->qJ1 (qB3 x x (zC3 st) (zBE st) (zAB st) .none kV doc pm an cdv ct) ⟨us,[]⟩=pure (ps.zip us))
  (len:∀vs H Q E,sp vs H Q E->vs.length=ps.length)
  (hbody:∀(f:Addr)(cdv:Value)(A:qGo)(outer:List Env)(s:qGk)(H:Hp)(vs:List V)(Q:VK)(E:XK),Room k (A.deeper (envOfC x (zAB st) s.heap.objs.size f cdv))->sp vs H Q E ->
   ∃t,PSs (cxOf (CXe P w) P w K mg base N x (zAB st) f cdv A outer s H E) (zBE st) t/\t { nx:=fun _ H'=>Q .non H',rt:=Q } (start N vs) H):HasX P w K mg base x (k+1) ps sp:=by
 obtain⟨f,fd,F,m⟩:=D;exact⟨f,fd,F.okX S len (fun cdv A outer s H vs Q E hr h=>hbody f cdv A outer s H vs Q E hr h),m,F.kp,F.binds hb⟩
theorem zNZ{qual:Str}{scope:Scope}{f:Addr}{cd:Value}{A:qGo}{outer:List Env}{s:qGk}{H:Hp}{E:XK}:Flies (cxOf (CXe P w) P w K mg base N qual scope f cd A outer s H E) E:=fun _ _ _ _ h=>zTX (fun _ _ _ z=>z) h
end
section
variable{X:Cx}{x:Str}{j k:Nat}{ps:List Str}{sp:Sp}{e:Expr}{es:List Expr}{t:TA}{p pos:Pos}{E:XK}
theorem zRM:Flies X E0:=fun _ _ _ _ z0=>by
 obtain⟨_,_,_,_,_,_,_,_,_,_,_,h⟩:=z0;exact h.elim
theorem zR8(h:HasX X.prog X.w X.K X.mg X.base x j ps sp)(hjk:j<=k)(hr:Room k X.A)(hf:Flies X E)(hg:Gl X x)(ha:PA X (e::es) t)(hdb:(x==("__debug__":Str))=false:=by decide)
  (he:starEach (e::es) X.env=(false,eval e X.env)::starEach es X.env:=by rfl) (hpl:(backTo pos (starEach es X.env)).any (·.1)=false:=by rfl):PE X (.Call (.Name x p) (e::es) [] pos) (zGL sp [] E t):=by
 obtain⟨f,fd,G,m,kp,b⟩:=h;exact zN5 G (hr.mono hjk) hg m kp b .nil hf.passes ha hdb he hpl
theorem zUZ(h:HasX X.prog X.w X.K X.mg X.base x j ps sp)(hjk:j<=k)(hr:Room k X.A)(hg:Gl X x)(ha:PA X.nox (e::es) t)(hdb:(x==("__debug__":Str))=false:=by decide)
  (he:starEach (e::es) X.env=(false,eval e X.env)::starEach es X.env:=by rfl) (hpl:(backTo pos (starEach es X.env)).any (·.1)=false:=by rfl):PEx X (.Call (.Name x p) (e::es) [] pos) (fun σ H Q E=>zGL sp [] E t σ H Q):=by
 obtain⟨f,fd,G,m,kp,b⟩:=h;exact zPL G (hr.mono hjk) hg m kp b .nil ha hdb he hpl
theorem zR9{C:Addr}(hg:Gl X x)(hm:X.mg x=some (.ref C))(hdb:(x==("__debug__":Str))=false:=by decide):PE X (.Name x pos) (tC (.ref C)):=fun pins s σ H Q I h=>zEZ I hg hm ⟨.ref C,H,I,rfl,h⟩ hdb
end
end L2
namespace Att
open PySem PySem.W PySem.Calls PyProof.Rows
theorem zS5{ns:List Int}(h:qJl (ns.map qJk)<=2 ^ 20):∀i∈ns,i.natAbs.log2<2 ^ 20:=by
 induction ns with
 |nil=>intro i hi;cases hi
 |cons n r ih=>
  rw[qAn,qJl]at h;intro i hi;rcases qAj.mp hi with rfl|hi
  ·rw[qJw]at h
   split at h
   ·rename_i z
    have:i=0:=beq_iff_eq.mp z;subst this;decide
   ·lia
  ·exact ih (by lia) i hi
theorem attach_callW{l:OpenLaw}{n:Nat}{q:qGn}{loose:List Str}{XP:(Str->Option Value)->Heap->Prop}{YP:World->Heap->Prop}{d:DefRec}
  (hn:l.most=some n) (hdf:d.params.defaults=[])
  (call:∀(w:World)(s₀ s₁:qGk)(mg mb:Str->Option Value)(fa:Addr)(o:Obj)(pm cd doc:Value)(a:Addr)(vs:List Value)(ns:List Int),
   Ground q loose [] XP w s₀ mg mb s₁.heap->YP w s₁.heap ->
   s₁.heap.get? fa=some o->o.data=.func (docDef d.name d.params d.body d.scope pm cd doc)->s₁.heap.CodeRec cd d.name->mg d.name=some (.ref fa) ->
   s₁.heap.get? a=some { cls:=.type "list",data:=.seq vs.toArray }->qJs vs ns->ns.length<=n->(∀i∈ns,i.natAbs.log2<2 ^ 20)->s₁.gens=#[] ->
   qId (model l.prog w) qIw (.call (.ref fa) ⟨[.ref a],[]⟩) (fun r s'=>r=.ok (.ret (.bool true))/\OldK s₁.heap s'.heap/\s'.os=s₁.os/\qI6 s'.gens) s₁) :
  WalkO q loose XP YP l.row.toRowW d [] (fun f vs=>qEq f vs):=by
 intro w s₀ s₁ mg mb G Y fa o pm cd doc dV kV ho hd hcd hD hmg hg args vals as hpre hlay hrd hwl hlo;obtain rfl:dV=.none:=Dflts.none hD hdf;obtain rfl:kV=.none:=Dflts.noKw hD;obtain⟨a,vs,ns,rfl,rfl,hobj,hints,hlen⟩:=zML hn hpre hwl;have hw:∀i∈ns,i.natAbs.log2<2 ^ 20:=by
  have hl:qJe [WData.list (ns.map qJk)]=true:=hlay;simp only[qJe,qCb,List.all_nil,qDg,WData.layable,qBb,decide_eq_true_eq]at hl;exact zS5 (by have:=hl.2;rw[qJw]at this;exact this)
 refine enter_call (codeAny_mono (call w s₀ s₁ mg mb fa o pm cd doc a vs ns G Y ho (fd_plain hd) hcd hmg hobj hints hlen hw hg) fun r s' hq=>?_);obtain⟨rfl,h2,h3,h4⟩:=hq;exact⟨.inl ⟨.bool true,.bool true,[],rfl,fun _=>rfl,.bool true,zMX l _,fun _=>⟨qCh,fun _ hm=>(nomatch hm)⟩⟩,h2,h3,h4⟩
end Att
namespace L2
open PySem PySem.Spec PyProof.Rows
def MulOk(i j:Int):Prop:=((-(2 ^ 64)<i/\i<2 ^ 64)\/(-(2 ^ 64)<j/\j<2 ^ 64))\/i.natAbs.log2+j.natAbs.log2<=67108864
theorem zOH(i:Int):qHi i<=i.natAbs.log2+1:=by
 unfold qHi;split<;>lia
theorem MulOk.ok{i j:Int}(h:MulOk i j):IntMulOk i j:=by
 rcases h with h|h
 ·exact CMul.ok h
 ·unfold IntMulOk;have h1:=zOH i;have h2:=zOH j;have h3:qIg ((qHi i:Int)+(qHi j:Int))=false:=by
   unfold qIg;have:(bitsLine:Int)=134217728:=by decide
   rw[this];simp only[gt_iff_lt,decide_eq_false_iff_not,Int.not_lt];lia
  rw[h3,qCj];exact qAb
section
variable{X:Cx}
noncomputable def zUQ:R2:=fun x y H Q=>match x,y with
 |.int i,.int j=>MulOk i j/\Q (.int (i*j)) H
 |_,_=>False
theorem zSW:OpR X (binaryOp .Mult) (rI MulOk fun i j=>.int (i*j)):=opI fun _ _ _ _ _ _ _ hc q=>mul_int q hc.ok
theorem zGO:OpR X (binaryOp .Mult) zUQ:=by
 intro pins s σ H x y v u Q I rx ry h;cases x<;>cases y<;>first
  |exact zSW pins s σ H _ _ v u Q I rx ry ⟨_,_,rfl,rfl,h.1,h.2⟩
  |exact qA8 h
noncomputable def zUT:R2:=fun x y H Q=>match x,y with
 |.int i,.int j=>(0<j/\j<1000000000000000000000000)/\Q (.int (i/j)) H
 |_,_=>False
theorem log2_lt{n:Nat}(h:n<1000000000000000000000000):n.log2<9000:=by
 by_cases z:n=0
 ·subst z;decide
 ·have h2:n<2 ^ 80:=by lia
  have:=(Nat.log2_lt z).mpr h2;lia
theorem zSX:OpR X (binaryOp .FloorDiv) (rI (fun _ j=>0<j/\j<1000000000000000000000000) fun i j=>.int (i/j)):=opI fun i j _ _ _ _ _ hc q=>by
 have h1:(0:Int)<j:=hc.1;have h2:j<1000000000000000000000000:=hc.2;exact floordiv_int (by lia) (by rw[Int.fdiv_eq_ediv_of_nonneg i (by lia)];exact q) (.inl (PyProof.noPylong_of_log2 (log2_lt (by lia))))
theorem zFO:OpR X (binaryOp .FloorDiv) zUT:=by
 intro pins s σ H x y v u Q I rx ry h;cases x<;>cases y<;>first
  |exact zSX pins s σ H _ _ v u Q I rx ry ⟨_,_,rfl,rfl,h.1,h.2⟩
  |exact qA8 h
end
noncomputable def del(H:Hp)(a:Addr):Hp:=fun b=>if b=a then none else H b
theorem zRT{H:Hp}{a b:Addr}(h:b≠a):del H a b=H b:=by unfold del;rw[if_neg h]
abbrev cel(co:Obj):HO:=.frz co (.ext fun _=>True)
section
variable{P:qGn}{w:World}{H H':Hp}{h h':Heap}{a:Addr}{co:Obj}{fs:List Addr}
end
abbrev lamO(q:Str)(params:Arguments)(body:Expr)(scope:Scope)(clos:List (Str×Addr))(pm cdv ctv:Value):Obj:=
 { cls:=.type "function",data:=.func (PySem.W.kla_fn "<lambda>" q params body scope clos pm cdv ctv) }
section
variable{X:Cx}
end
section
variable{X:Cx}{k:Nat}{f cl:Addr}{fd:qH2}{ps:List Str}{sp:Sp}{x nm:Str}{p pos:Pos}{e:Expr}{es:List Expr}{t:TA}{i:Nat}
end
def cxLam(X:Cx)(N:List Str)(q:Str)(scope:Scope)(f:Addr)(cd:Value)(clos:List (Str×Addr))(s:qGk)(H:Hp):Cx where
 prog:=X.prog
 w:=X.w
 K:=X.K
 mg:=X.mg
 base:=X.base
 A:=X.A.deeper (qEu q scope s.heap.objs.size f cd clos)
 N:=N
 s₀:=s
 H₀:=H
 env:=qEu q scope s.heap.objs.size f cd clos
 outer:=X.stack
 stack:=qEu q scope s.heap.objs.size f cd clos::X.stack
 ex:=[]
 fn:=fun _=>false
 calm:=true
 pn:=[]
 xe:=fun _ _=>False
section
variable{X:Cx}{pins:List (Addr×Obj)}{σ:St}{H:Hp}{s:qGk}{Q:VK}{us:List Value}{vs:List V}{f cl:Addr}{q nm:Str}{params:Arguments}{body:Expr}{scope:Scope}{pm cdv ctv:Value}{co:Obj}{val:Value}{v:V}{ps:List Str}
end
section
variable{X:Cx}{i:Nat}{x:Str}{p pos:Pos}{e:Expr}{es:List Expr}{t:TA}{r:Addr->List V->Hp->VK->Prop}
end
end L2
namespace L3
open PySem PySem.Spec
open L2 hiding Rep RepL
open Mi (Dt Xn R okR zA3 optR zA0 zA4 zA7 zA5 zA6 Rh Sl Ro EM TM AM FM IM SM Tg Out bindT zAK zAP full frz frz1 frzAt)
section
class Kc where
 K:qA1
variable[Kc]
noncomputable def clK(K:qA1)(c:Str):Option Addr:=match qBh K qGr c with
 |some (some (.ref C))=>some C
 |_=>none
def KTP(K:qA1)(a:Addr)(xs:List V):Prop:=xs≠[]/\∃(o:Obj)(its:Array Value)(n:Nat),K.lookup a=some o/\o.cls=.type "tuple"/\o.data=.seq its n/\its.size<=sizeLine/\Vals xs its.toList
theorem KTP.t{K:qA1}{H:Hp}{a:Addr}{xs:List V}(h:KTP K a xs):SqT K H a xs:=.inr h.2
def SqR(K:qA1)(H:Hp)(a:Addr)(xs:List V):Prop:=SqL K H a xs\/KTP K a xs
theorem SqR.old{K:qA1}{H:Hp}{a:Addr}{xs:List V}(h:SqR K H a xs):SqL K H a xs\/SqT K H a xs:=h.imp_right fun z=>z.t
theorem zIG{K:qA1}{H H':Hp}{a:Addr}{xs:List V}(e:Same H H')(h:SqT K H a xs):SqT K H' a xs:=by
 rcases h with(h|⟨o,h⟩)|h
 ·exact .inl (.inl (e _ _ h))
 ·exact .inl (.inr ⟨o,e _ _ h⟩)
 ·exact .inr h
theorem zE7{K:qA1}{H H':Hp}{a:Addr}{xs:List V}(e:Same H H')(h:SqR K H a xs):SqR K H' a xs:=h.imp_left fun z=>e.seq z
noncomputable def svV:Mi.Sv->V
 |.i n=>.int n
 |.s x=>.str x
noncomputable def swV:Mi.Sw->V
 |.non=>.non
 |.bl b=>.bl b
 |.int i=>.int i
 |.str x=>.str x
def kNw:Mi.Sw->KeyN
 |.non=>none
 |.bl b=>some (.inl (zKD b))
 |.int i=>some (.inl i)
 |.str x=>some (.inr x)
noncomputable def noBw:Mi.Sw->Bool
 |.bl _=>false
 |_=>true
def noBk(ks:List (List Mi.Sw)):Bool:=ks.all fun k=>k.all noBw
noncomputable def isBl:V->Bool
 |.bl _=>true
 |_=>false
def KeyT(H:Hp)(T:Addr->Prop)(ks:List (List Mi.Sw)):Prop:=(ks.map fun k=>k.map kNw).Nodup/\∀c,T c->∃ys,H c=some (.tup ys)/\(noBk ks=true->∀y∈ys,isBl y=false)
theorem KeyT.mono{H H':Hp}{T:Addr->Prop}{ks:List (List Mi.Sw)}(s:Same H H')(h:KeyT H T ks):KeyT H' T ks:=⟨h.1,fun c t=>let⟨ys,e,n⟩:=h.2 c t;⟨ys,s _ _ e,n⟩⟩
abbrev kzip(ks:List (List Mi.Sw))(xs:List V):List (List KeyN×V):=(ks.map fun k=>k.map kNw).zip xs
noncomputable def zQA:Expr->Option (Arguments×Expr×Scope×Str)
 |.Call _ [_,.Lambda ps b sc _] _ _=>match sc.names.find? fun p=>p.2==.free with
  |some (x,_)=>some (ps,b,sc,x)
  |none=>none
 |.Call _ [_] [⟨_,.Lambda ps b sc _,_⟩] _=>match sc.names.find? fun p=>p.2==.free with
  |some (x,_)=>some (ps,b,sc,x)
  |none=>none
 |_=>none
def zWQ:Stmt->Option (Arguments×Expr×Scope×Str)
 |.Return (some e) _=>zQA e
 |.Assign _ e _=>zQA e
 |.If _ (.Assign _ e _::_) _ _=>zQA e
 |.If _ (_::.Return (some e) _::_) _ _=>zQA e
 |_=>none
def zX9(l:List Stmt):Option (Arguments×Expr×Scope×Str):=l.findSome? zWQ
def lamK(K:qA1)(x:Str):Option (Arguments×Expr×Scope×Str):=match qBh K qGr x with
 |some (some (.ref f))=>match K.lookup f with
  |some o=>match o.data with
   |.func fd=>match fd.body with
    |.stmts b=>zX9 b
    |_=>none
   |_=>none
  |none=>none
 |_=>none
noncomputable def lamQ(x:Str):Str:=x ++ ".<locals>." ++ "<lambda>"
noncomputable def codP(K:qA1)(x:Str):Option Addr:=match qBh K qGr x with
 |some (some (.ref f))=>match K.lookup f with
  |some o=>match o.data with
   |.func fd=>match fd.code with
    |.ref c=>match K.lookup c with
     |some o=>match o.data with
      |.fields vs=>match(vs[11]?:Option Value)with
       |some (.ref P)=>some P
       |_=>none
      |_=>none
     |none=>none
    |_=>none
   |_=>none
  |none=>none
 |_=>none
noncomputable def makers:List Str:=["turned_at","exchanged_at","pivoted","_law_beside"]
def tabK(K:qA1):Hp:=fun P=>(makers.find? fun x=>codP K x==some P&&(lamK K x).isSome).map fun x=>.lam (lamQ x)
def dskO(H:Hp)(w:Str)(ws:List Str)(a b C dx:Addr):Prop:=H a=some (.ins C dx [("word",.str w),("ahead",.ref b)])/\H b=some (.lst (ws.map V.str))
mutual
def Rep(H:Hp):Dt->V->Prop
 |.non,v=>v=.non
 |.bl b,v=>v=.bl b
 |.int i,v=>v=.int i
 |.str x,v=>v=.str x
 |.lst ds,v=>∃a xs,v=.ref a/\H a=some (.lst xs)/\RepL H ds xs
 |.tup ds,v=>∃a xs,v=.ref a/\H a=some (.tup xs)/\RepL H ds xs
 |.scr ns,v=>∃a,v=.ref a/\SqR Kc.K H a (ns.map V.int)
 |.exc c f d,v=>∃e C da,v=.ref e/\isX H e C da/\clK Kc.K c=some C/\((da=none/\f = "")\/∃a gs w,da=some a/\H a=some (.xd gs)/\gs.lookup f=some w/\Rep H d w)
 |.ins c fs,v=>∃a C dx,v=.ref a/\clK Kc.K c=some C/\H a=some (.ins C dx (fs.map fun p=>(p.1,svV p.2)))
 |.dct kvs,v=>∃a,v=.ref a/\H a=some (.dK (kvs.map fun p=>(p.1,swV p.2)))
 |.fn x d,v=>∃f,v=.ref f/\∃L cl pm cdv ctv co val w,lamK Kc.K x=some L/\H f=some (.fn (lamO (lamQ x) L.1 L.2.1 L.2.2.1 [(L.2.2.2,cl)] pm cdv ctv) (lamQ x))/\H cl=some (cel co)/\co.data=.cell (some val)/\RelV w val/\Rep H d w
 |.dtt ks ds,v=>∃a T e0 xs,v=.ref a/\H a=some (.dT T e0 (kzip ks xs))/\ks.length=ds.length/\KeyT H T ks/\RepL H ds xs
 |.loc a d,v=>v=.ref a/\Rep H d v
 |.dsk w ws,v=>∃a,v=.ref a/\∃b C dx,clK Kc.K "Desk" = some C/\dskO H w ws a b C dx
 |.fnc x,v=>∃a,v=.ref a/\clK Kc.K x=some a
 |.dcr ks ds,v=>∃a xs,v=.ref a/\H a=some (.dK (ks.zip xs))/\ks.length=ds.length/\RepL H ds xs
def RepL(H:Hp):List Dt->List V->Prop
 |[],xs=>xs=[]
 |d::r,xs=>∃x q,xs=x::q/\Rep H d x/\RepL H r q
end
mutual
theorem Rep.mono{H H':Hp}(s:Same H H'):∀{d:Dt}{v:V},Rep H d v->Rep H' d v
 |.non,_,h=>h
 |.bl _,_,h=>h
 |.int _,_,h=>h
 |.str _,_,h=>h
 |.lst _,_,h=>by obtain⟨a,xs,e,e',r⟩:=h;exact⟨a,xs,e,s _ _ e',RepL.mono s r⟩
 |.tup _,_,h=>by obtain⟨a,xs,e,e',r⟩:=h;exact⟨a,xs,e,s _ _ e',RepL.mono s r⟩
 |.scr _,_,h=>by obtain⟨a,e,e'⟩:=h;exact⟨a,e,zE7 s e'⟩
 |.exc _ _ _,_,h=>by
  obtain⟨a,C,da,e,e',hc,r⟩:=h;refine⟨a,C,da,e,e'.imp (fun z=>s _ _ z) fun z=>s _ _ z,hc,r.imp (fun z=>z) ?_⟩
  rintro⟨b,gs,w,h1,h2,h3,h4⟩
  exact⟨b,gs,w,h1,s _ _ h2,h3,Rep.mono s h4⟩
 |.ins _ _,_,h=>by obtain⟨a,C,dx,e,hc,h1⟩:=h;exact⟨a,C,dx,e,hc,s _ _ h1⟩
 |.dct _,_,h=>by obtain⟨a,e,h1⟩:=h;exact⟨a,e,s _ _ h1⟩
 |.fn _ _,_,h=>by obtain⟨f,e,L,cl,pm,cdv,ctv,co,val,w,h1,h2,h3,h4,h5,h6⟩:=h;exact⟨f,e,L,cl,pm,cdv,ctv,co,val,w,h1,s _ _ h2,s _ _ h3,h4,h5,Rep.mono s h6⟩
 |.dtt _ _,_,h=>by obtain⟨a,T,e0,xs,e,e',hl,ht,r⟩:=h;exact⟨a,T,e0,xs,e,s _ _ e',hl,ht.mono s,RepL.mono s r⟩
 |.loc _ _,_,h=>⟨h.1,Rep.mono s h.2⟩
 |.dsk _ _,_,h=>by obtain⟨a,e,b,C,dx,h1,h2,h3⟩:=h;exact⟨a,e,b,C,dx,h1,s _ _ h2,s _ _ h3⟩
 |.fnc _,_,h=>h
 |.dcr _ _,_,h=>by obtain⟨a,xs,e,h1,hl,r⟩:=h;exact⟨a,xs,e,s _ _ h1,hl,RepL.mono s r⟩
theorem RepL.mono{H H':Hp}(s:Same H H'):∀{ds:List Dt}{xs:List V},RepL H ds xs->RepL H' ds xs
 |[],_,h=>h
 |_::_,_,h=>by obtain⟨x,q,e,r,t⟩:=h;exact⟨x,q,e,Rep.mono s r,RepL.mono s t⟩
end
theorem RepL.length{H:Hp}:∀{ds:List Dt}{xs:List V},RepL H ds xs->xs.length=ds.length
 |[],_,h=>by cases h;rfl
 |_::_,_,h=>by obtain⟨x,q,e,r,t⟩:=h;subst e;simp[RepL.length t]
mutual
def conv:Dt->L2.Dat
 |.non=>.non
 |.bl b=>.bl b
 |.int i=>.int i
 |.str x=>.str x
 |.lst ds=>.lst (convL ds)
 |.tup ds=>.tup (convL ds)
 |.scr _=>.non
 |.exc _ _ _=>.non
 |.fn _ _=>.non
 |.dcr _ _=>.non
 |.dsk _ _=>.non
 |.fnc _=>.non
 |.dtt _ _=>.non
 |.loc _ _=>.non
 |.ins _ _=>.non
 |.dct _=>.non
def convL:List Dt->List L2.Dat
 |[]=>[]
 |d::r=>conv d::convL r
end
mutual
theorem zEN:∀{d:Dt},d.dep<=40->(conv d).dep<=d.dep
 |.non,_=>qA9 _
 |.bl _,_=>qA9 _
 |.int _,_=>qA9 _
 |.str _,_=>qA9 _
 |.lst ds,h=>by rw[Dt.dep]at h ⊢;rw[conv,L2.Dat.dep];have:=conv_depL (ds:=ds) (by lia);lia
 |.tup ds,h=>by rw[Dt.dep]at h ⊢;rw[conv,L2.Dat.dep];have:=conv_depL (ds:=ds) (by lia);lia
 |.scr _,h=>by rw[Dt.dep]at h;lia
 |.exc _ _ _,h=>by rw[Dt.dep]at h;lia
 |.fn _ _,h=>by rw[Dt.dep]at h;lia
 |.dcr _ _,h=>by rw[Dt.dep]at h;lia
 |.dsk _ _,h=>by rw[Dt.dep]at h;lia
 |.fnc _,h=>by rw[Dt.dep]at h;lia
 |.dtt _ _,h=>by rw[Dt.dep]at h;lia
 |.loc _ _,h=>by rw[Dt.dep]at h;lia
 |.ins _ _,h=>by rw[Dt.dep]at h;lia
 |.dct _,h=>by rw[Dt.dep]at h;lia
theorem conv_depL:∀{ds:List Dt},Dt.depL ds<=40->L2.Dat.depL (convL ds)<=Dt.depL ds
 |[],_=>qA9 _
 |d::r,h=>by
  rw[Dt.depL]at h ⊢;rw[convL,L2.Dat.depL];have h1:=zEN (d:=d) (by lia);have h2:=conv_depL (ds:=r) (by lia)
  lia
end
mutual
theorem zDL{H:Hp}:∀{d:Dt}{v:V},d.dep<=40->Rep H d v->L2.Rep H (conv d) v
 |.non,_,_,h=>h
 |.bl _,_,_,h=>h
 |.int _,_,_,h=>h
 |.str _,_,_,h=>h
 |.lst ds,_,hd,h=>by obtain⟨a,xs,e,e',r⟩:=h;exact⟨a,xs,e,e',conv_repL (by rw[Dt.dep]at hd;lia) r⟩
 |.tup ds,_,hd,h=>by obtain⟨a,xs,e,e',r⟩:=h;exact⟨a,xs,e,e',conv_repL (by rw[Dt.dep]at hd;lia) r⟩
 |.scr _,_,h,_=>by rw[Dt.dep]at h;lia
 |.exc _ _ _,_,h,_=>by rw[Dt.dep]at h;lia
 |.fn _ _,_,h,_=>by rw[Dt.dep]at h;lia
 |.dcr _ _,_,h,_=>by rw[Dt.dep]at h;lia
 |.dsk _ _,_,h,_=>by rw[Dt.dep]at h;lia
 |.fnc _,_,h,_=>by rw[Dt.dep]at h;lia
 |.dtt _ _,_,h,_=>by rw[Dt.dep]at h;lia
 |.loc _ _,_,h,_=>by rw[Dt.dep]at h;lia
 |.ins _ _,_,h,_=>by rw[Dt.dep]at h;lia
 |.dct _,_,h,_=>by rw[Dt.dep]at h;lia
theorem conv_repL{H:Hp}:∀{ds:List Dt}{xs:List V},Dt.depL ds<=40->RepL H ds xs->L2.RepL H (convL ds) xs
 |[],_,_,h=>h
 |d::r,_,hd,h=>by
  rw[Dt.depL]at hd;obtain⟨x,q,e,a,b⟩:=h;exact⟨x,q,e,zDL (by lia) a,conv_repL (by lia) b⟩
end
mutual
theorem zK8:∀{d e:Dt},d.dep<=40->e.dep<=40->L2.Dat.eq (conv d) (conv e)=Dt.eq d e
 |.scr _,_,h,_=>by rw[Dt.dep]at h;lia
 |.exc _ _ _,_,h,_=>by rw[Dt.dep]at h;lia
 |.fn _ _,_,h,_=>by rw[Dt.dep]at h;lia
 |.dcr _ _,_,h,_=>by rw[Dt.dep]at h;lia
 |.dsk _ _,_,h,_=>by rw[Dt.dep]at h;lia
 |.fnc _,_,h,_=>by rw[Dt.dep]at h;lia
 |.dtt _ _,_,h,_=>by rw[Dt.dep]at h;lia
 |.loc _ _,_,h,_=>by rw[Dt.dep]at h;lia
 |.ins _ _,_,h,_=>by rw[Dt.dep]at h;lia
 |.dct _,_,h,_=>by rw[Dt.dep]at h;lia
 |.lst ds,e,h,h'=>by
  rw[Dt.dep]at h;cases e with
  |lst es=>rw[Dt.dep]at h';rw[conv,conv,L2.Dat.eq,Dt.eq];exact conv_eqL (by lia) (by lia)
  |scr _=>rw[Dt.dep]at h';lia
  |exc _ _ _=>rw[Dt.dep]at h';lia
  |fn _ _=>rw[Dt.dep]at h';lia
  |dcr _ _=>rw[Dt.dep]at h';lia
  |dsk _ _=>rw[Dt.dep]at h';lia
  |fnc _=>rw[Dt.dep]at h';lia
  |dtt _ _=>rw[Dt.dep]at h';lia
  |loc _ _=>rw[Dt.dep]at h';lia
  |ins _ _=>rw[Dt.dep]at h';lia
  |dct _=>rw[Dt.dep]at h';lia
  |_=>simp[conv,L2.Dat.eq,Dt.eq]
 |.tup ds,e,h,h'=>by
  rw[Dt.dep]at h;cases e with
  |tup es=>rw[Dt.dep]at h';rw[conv,conv,L2.Dat.eq,Dt.eq];exact conv_eqL (by lia) (by lia)
  |scr _=>rw[Dt.dep]at h';lia
  |exc _ _ _=>rw[Dt.dep]at h';lia
  |fn _ _=>rw[Dt.dep]at h';lia
  |dcr _ _=>rw[Dt.dep]at h';lia
  |dsk _ _=>rw[Dt.dep]at h';lia
  |fnc _=>rw[Dt.dep]at h';lia
  |dtt _ _=>rw[Dt.dep]at h';lia
  |loc _ _=>rw[Dt.dep]at h';lia
  |ins _ _=>rw[Dt.dep]at h';lia
  |dct _=>rw[Dt.dep]at h';lia
  |_=>simp[conv,L2.Dat.eq,Dt.eq]
 |.non,e,_,h'=>by
  cases e with
  |scr _=>rw[Dt.dep]at h';lia
  |exc _ _ _=>rw[Dt.dep]at h';lia
  |fn _ _=>rw[Dt.dep]at h';lia
  |dcr _ _=>rw[Dt.dep]at h';lia
  |dsk _ _=>rw[Dt.dep]at h';lia
  |fnc _=>rw[Dt.dep]at h';lia
  |dtt _ _=>rw[Dt.dep]at h';lia
  |loc _ _=>rw[Dt.dep]at h';lia
  |ins _ _=>rw[Dt.dep]at h';lia
  |dct _=>rw[Dt.dep]at h';lia
  |_=>simp[conv,L2.Dat.eq,Dt.eq]
 |.bl _,e,_,h'=>by
  cases e with
  |scr _=>rw[Dt.dep]at h';lia
  |exc _ _ _=>rw[Dt.dep]at h';lia
  |fn _ _=>rw[Dt.dep]at h';lia
  |dcr _ _=>rw[Dt.dep]at h';lia
  |dsk _ _=>rw[Dt.dep]at h';lia
  |fnc _=>rw[Dt.dep]at h';lia
  |dtt _ _=>rw[Dt.dep]at h';lia
  |loc _ _=>rw[Dt.dep]at h';lia
  |ins _ _=>rw[Dt.dep]at h';lia
  |dct _=>rw[Dt.dep]at h';lia
  |_=>simp[conv,L2.Dat.eq,Dt.eq]
 |.int _,e,_,h'=>by
  cases e with
  |scr _=>rw[Dt.dep]at h';lia
  |exc _ _ _=>rw[Dt.dep]at h';lia
  |fn _ _=>rw[Dt.dep]at h';lia
  |dcr _ _=>rw[Dt.dep]at h';lia
  |dsk _ _=>rw[Dt.dep]at h';lia
  |fnc _=>rw[Dt.dep]at h';lia
  |dtt _ _=>rw[Dt.dep]at h';lia
  |loc _ _=>rw[Dt.dep]at h';lia
  |ins _ _=>rw[Dt.dep]at h';lia
  |dct _=>rw[Dt.dep]at h';lia
  |_=>simp[conv,L2.Dat.eq,Dt.eq]
 |.str _,e,_,h'=>by
  cases e with
  |scr _=>rw[Dt.dep]at h';lia
  |exc _ _ _=>rw[Dt.dep]at h';lia
  |fn _ _=>rw[Dt.dep]at h';lia
  |dcr _ _=>rw[Dt.dep]at h';lia
  |dsk _ _=>rw[Dt.dep]at h';lia
  |fnc _=>rw[Dt.dep]at h';lia
  |dtt _ _=>rw[Dt.dep]at h';lia
  |loc _ _=>rw[Dt.dep]at h';lia
  |ins _ _=>rw[Dt.dep]at h';lia
  |dct _=>rw[Dt.dep]at h';lia
  |_=>simp[conv,L2.Dat.eq,Dt.eq]
theorem conv_eqL:∀{ds es:List Dt},Dt.depL ds<=40->Dt.depL es<=40->L2.Dat.eqL (convL ds) (convL es)=Dt.eqL ds es
 |[],[],_,_=>by simp[convL,L2.Dat.eqL,Dt.eqL]
 |[],_::_,_,_=>by simp[convL,L2.Dat.eqL,Dt.eqL]
 |_::_,[],_,_=>by simp[convL,L2.Dat.eqL,Dt.eqL]
 |d::r,e::t,h,h'=>by
  rw[Dt.depL]at h h';rw[convL,convL,L2.Dat.eqL,Dt.eqL,zK8 (by lia) (by lia),conv_eqL (by lia) (by lia)]
end
theorem zBU{G:Hp}:∀{ds:List Dt}{xs:List V}{q:Nat}{d:Dt}{x:V},RepL G ds xs->ds[q]?=some d->xs[q]?=some x->Rep G d x
 |[],_,_,_,_,_,h,_=>by simp at h
 |d::r,xs,0,e,y,h,h1,h2=>by
  obtain⟨x,t,rfl,a,b⟩:=h;simp at h1 h2;subst h1;subst h2;exact a
 |d::r,xs,q+1,e,y,h,h1,h2=>by
  obtain⟨x,t,rfl,a,b⟩:=h;exact zBU b (by simpa using h1) (by simpa using h2)
theorem zD9{G:Hp}:∀{ds:List Dt}{xs:List V},xs.length=ds.length->(∀(q:Nat)(d:Dt)(x:V),ds[q]?=some d->xs[q]?=some x->Rep G d x)->RepL G ds xs
 |[],[],_,_=>rfl
 |[],_::_,h,_=>by simp at h
 |_::_,[],h,_=>by simp at h
 |d::r,x::t,h,k=>⟨x,t,rfl,k 0 d x rfl rfl,zD9 (by simpa using h) fun q e y h1 h2=>k (q+1) e y (by simpa using h1) (by simpa using h2)⟩
theorem zGC{n:Nat}:∀{ds:List Dt},Dt.depL ds<=n->∀{q:Nat}{d:Dt},ds[q]?=some d->d.dep<=n
 |[],_,_,_,h=>by simp at h
 |e::r,h,0,d,h1=>by simp at h1;subst h1;rw[Dt.depL]at h;lia
 |e::r,h,q+1,d,h1=>by rw[Dt.depL]at h;exact zGC (ds:=r) (by lia) (q:=q) (by simpa using h1)
structure Kids(P:(Addr->Prop)->Dt->V->Prop)(S:Addr->Prop)(a:Addr)(ds:List Dt)(xs:List V)(T:Nat->Addr->Prop):Prop where
 len:xs.length=ds.length
 own:∀(q:Nat)(d:Dt)(x:V),ds[q]?=some d->xs[q]?=some x->P (T q) d x
 top:S a
 out:∀q,¬T q a
 dis:∀q r b,T q b->T r b->q=r
 sub:∀q b,T q b->S b
def Own(G H:Hp):Nat->(Addr->Prop)->Dt->V->Prop
 |0,_,d,v=>Rep G d v
 |n+1,S,d,v=>match d with
  |.lst ds=>∃a xs T,v=.ref a/\H a=some (.lst xs)/\Kids (Own G H n) S a ds xs T
  |.tup ds=>∃a xs T,v=.ref a/\H a=some (.tup xs)/\Kids (Own G H n) S a ds xs T
  |.dct kvs=>∃a,v=.ref a/\H a=some (.dK (kvs.map fun p=>(p.1,swV p.2)))/\S a
  |.dtt ks ds=>∃a T0 e0 xs T,v=.ref a/\H a=some (.dT T0 e0 (kzip ks xs))/\ks.length=ds.length/\KeyT G T0 ks/\Kids (Own G H n) S a ds xs T
  |.loc a d=>v=.ref a/\Own G H n S d v
  |.dsk w ws=>∃a,v=.ref a/\∃b C dx,clK Kc.K "Desk" = some C/\dskO H w ws a b C dx/\S a/\S b
  |.dcr ks ds=>∃a xs,v=.ref a/\H a=some (.dK (ks.zip xs))/\ks.length=ds.length/\RepL G ds xs/\S a
  |d=>Rep G d v
theorem Kids.imp{P P':(Addr->Prop)->Dt->V->Prop}{S S':Addr->Prop}{a:Addr}{ds:List Dt}{xs:List V}{T:Nat->Addr->Prop}(k:Kids P S a ds xs T)
  (h:∀q d x,ds[q]?=some d->P (T q) d x->P' (T q) d x) (hs:∀b,S b->S' b):Kids P' S' a ds xs T:=
 ⟨k.len,fun q d x h1 h2=>h q d x h1 (k.own q d x h1 h2),hs _ k.top,k.out,k.dis,fun q b t=>hs _ (k.sub q b t)⟩
theorem Own.mono{G G' H H':Hp}(sG:Same G G')(sH:Same H H'):∀{n:Nat}{S:Addr->Prop}{d:Dt}{v:V},Own G H n S d v->Own G' H' n S d v
 |0,S,d,v,h=>Rep.mono sG h
 |n+1,S,d,v,h=>by
  cases d with
  |lst ds=>obtain⟨a,xs,T,e,ha,k⟩:=h;exact⟨a,xs,T,e,sH _ _ ha,k.imp (fun _ _ _ _ p=>Own.mono sG sH p) fun _ z=>z⟩
  |tup ds=>obtain⟨a,xs,T,e,ha,k⟩:=h;exact⟨a,xs,T,e,sH _ _ ha,k.imp (fun _ _ _ _ p=>Own.mono sG sH p) fun _ z=>z⟩
  |dct kvs=>obtain⟨a,e,ha,hs⟩:=h;exact⟨a,e,sH _ _ ha,hs⟩
  |dtt ks ds=>obtain⟨a,T0,e0,xs,T,e,ha,hl,ht,k⟩:=h;exact⟨a,T0,e0,xs,T,e,sH _ _ ha,hl,ht.mono sG,k.imp (fun _ _ _ _ p=>Own.mono sG sH p) fun _ z=>z⟩
  |loc a d=>exact⟨h.1,Own.mono sG sH h.2⟩
  |dsk w ws=>obtain⟨a,e,b,C,dx,h1,⟨h2,h3⟩,h4⟩:=h;exact⟨a,e,b,C,dx,h1,⟨sH _ _ h2,sH _ _ h3⟩,h4⟩
  |dcr ks ds=>obtain⟨a,xs,e,ha,hl,r,hs⟩:=h;exact⟨a,xs,e,sH _ _ ha,hl,RepL.mono sG r,hs⟩
  |_=>exact Rep.mono sG h
theorem Own.sub{G H:Hp}:∀{n:Nat}{S S':Addr->Prop}{d:Dt}{v:V},Own G H n S d v->(∀b,S b->S' b)->Own G H n S' d v
 |0,_,_,_,_,h,_=>h
 |n+1,S,S',d,v,h,hs=>by
  cases d with
  |lst ds=>obtain⟨a,xs,T,e,ha,k⟩:=h;exact⟨a,xs,T,e,ha,k.imp (fun _ _ _ _ p=>p) hs⟩
  |tup ds=>obtain⟨a,xs,T,e,ha,k⟩:=h;exact⟨a,xs,T,e,ha,k.imp (fun _ _ _ _ p=>p) hs⟩
  |dct kvs=>obtain⟨a,e,ha,h2⟩:=h;exact⟨a,e,ha,hs _ h2⟩
  |dtt ks ds=>obtain⟨a,T0,e0,xs,T,e,ha,hl,ht,k⟩:=h;exact⟨a,T0,e0,xs,T,e,ha,hl,ht,k.imp (fun _ _ _ _ p=>p) hs⟩
  |loc a d=>exact⟨h.1,Own.sub h.2 hs⟩
  |dsk w ws=>obtain⟨a,e,b,C,dx,h1,h2,h3,h4⟩:=h;exact⟨a,e,b,C,dx,h1,h2,hs _ h3,hs _ h4⟩
  |dcr ks ds=>obtain⟨a,xs,e,ha,hl,r,h2⟩:=h;exact⟨a,xs,e,ha,hl,r,hs _ h2⟩
  |_=>exact h
theorem Own.rep{G H J:Hp}(sG:Same G J):∀{n:Nat}{S:Addr->Prop}{d:Dt}{v:V},Own G H n S d v->(∀a o,S a->H a=some o->J a=some o)->Rep J d v
 |0,S,d,v,h,_=>Rep.mono sG h
 |n+1,S,d,v,h,hj=>by
  cases d with
  |lst ds=>obtain⟨a,xs,T,e,ha,k⟩:=h;exact⟨a,xs,e,hj _ _ k.top ha,zD9 k.len fun q d x h1 h2=>Own.rep sG (k.own q d x h1 h2) fun b o t hb=>hj b o (k.sub q b t) hb⟩
  |tup ds=>obtain⟨a,xs,T,e,ha,k⟩:=h;exact⟨a,xs,e,hj _ _ k.top ha,zD9 k.len fun q d x h1 h2=>Own.rep sG (k.own q d x h1 h2) fun b o t hb=>hj b o (k.sub q b t) hb⟩
  |dct kvs=>obtain⟨a,e,ha,hs⟩:=h;exact⟨a,e,hj _ _ hs ha⟩
  |dtt ks ds=>obtain⟨a,T0,e0,xs,T,e,ha,hl,ht,k⟩:=h;exact⟨a,T0,e0,xs,e,hj _ _ k.top ha,hl,ht.mono sG,zD9 k.len fun q d x h1 h2=>Own.rep sG (k.own q d x h1 h2) fun b o t hb=>hj b o (k.sub q b t) hb⟩
  |loc a d=>exact⟨h.1,Own.rep sG h.2 hj⟩
  |dsk w ws=>obtain⟨a,e,b,C,dx,h1,⟨h2,h3⟩,h4,h5⟩:=h;exact⟨a,e,b,C,dx,h1,hj _ _ h4 h2,hj _ _ h5 h3⟩
  |dcr ks ds=>obtain⟨a,xs,e,ha,hl,r,h2⟩:=h;exact⟨a,xs,e,hj _ _ h2 ha,hl,RepL.mono sG r⟩
  |_=>exact Rep.mono sG h
theorem Own.at{G G2 H:Hp}:∀{n k:Nat}{S:Addr->Prop}{d:Dt}{v:V},Own G H n S d v->d.dep<=n->d.dep<=k->n<1000->Own G2 H k S d v
 |n,k,S,d,v,h,hn,hk,hz=>by
  cases d with
  |lst ds=>
   rw[Dt.dep]at hn hk;cases n with
   |zero=>lia
   |succ n=>
    cases k with
    |zero=>lia
    |succ k=>
     obtain⟨a,xs,T,e,ha,kd⟩:=h;refine⟨a,xs,T,e,ha,kd.imp (fun q d x h1 p=>?_) fun _ z=>z⟩;exact Own.at p (zGC (by lia) h1) (zGC (by lia) h1) (by lia)
  |tup ds=>
   rw[Dt.dep]at hn hk;cases n with
   |zero=>lia
   |succ n=>
    cases k with
    |zero=>lia
    |succ k=>
     obtain⟨a,xs,T,e,ha,kd⟩:=h;refine⟨a,xs,T,e,ha,kd.imp (fun q d x h1 p=>?_) fun _ z=>z⟩;exact Own.at p (zGC (by lia) h1) (zGC (by lia) h1) (by lia)
  |non=>cases n<;>cases k<;>exact h
  |bl b=>cases n<;>cases k<;>exact h
  |int i=>cases n<;>cases k<;>exact h
  |str x=>cases n<;>cases k<;>exact h
  |scr ns=>rw[Dt.dep]at hn;lia
  |exc _ _ _=>rw[Dt.dep]at hn;lia
  |fn _ _=>rw[Dt.dep]at hn;lia
  |dcr _ _=>rw[Dt.dep]at hn;lia
  |dsk _ _=>rw[Dt.dep]at hn;lia
  |fnc _=>rw[Dt.dep]at hn;lia
  |dtt _ _=>rw[Dt.dep]at hn;lia
  |loc _ _=>rw[Dt.dep]at hn;lia
  |ins _ _=>rw[Dt.dep]at hn;lia
  |dct _=>rw[Dt.dep]at hn;lia
termination_by n=>n
theorem Own.scalar{G H G2 H2:Hp}{n k:Nat}{S S2:Addr->Prop}{d:Dt}{v:V}(h:Own G H n S d v)(hd:d.dep=0):Own G2 H2 k S2 d v:=by
 cases d with
 |lst ds=>rw[Dt.dep]at hd;lia
 |tup ds=>rw[Dt.dep]at hd;lia
 |non=>cases n<;>cases k<;>exact h
 |bl b=>cases n<;>cases k<;>exact h
 |int i=>cases n<;>cases k<;>exact h
 |str x=>cases n<;>cases k<;>exact h
 |scr ns=>rw[Dt.dep]at hd;lia
 |exc _ _ _=>rw[Dt.dep]at hd;lia
 |fn _ _=>rw[Dt.dep]at hd;lia
 |dcr _ _=>rw[Dt.dep]at hd;lia
 |dsk _ _=>rw[Dt.dep]at hd;lia
 |fnc _=>rw[Dt.dep]at hd;lia
 |dtt _ _=>rw[Dt.dep]at hd;lia
 |loc _ _=>rw[Dt.dep]at hd;lia
 |ins _ _=>rw[Dt.dep]at hd;lia
 |dct _=>rw[Dt.dep]at hd;lia
theorem zRB{G H:Hp}{n:Nat}{S:Addr->Prop}{d:Dt}{v:V}(h:Rep G d v)(hd:d.dep=0):Own G H n S d v:=Own.scalar (n:=0) (G:=G) (H:=H) (S:=S) h hd
theorem Own.upd{G H:Hp}{p:Addr}{o:HO}:∀{n:Nat}{S:Addr->Prop}{d:Dt}{v:V},Own G H n S d v->¬S p->Own G (upd H p o) n S d v
 |0,S,d,v,h,_=>h
 |n+1,S,d,v,h,hp=>by
  cases d with
  |lst ds=>
   obtain⟨a,xs,T,e,ha,k⟩:=h;have hap:a≠p:=fun z=>hp (z▸k.top)
   exact⟨a,xs,T,e,(zAL hap).trans ha,k.imp (fun q _ _ _ w=>Own.upd w fun z=>hp (k.sub q _ z)) fun _ z=>z⟩
  |tup ds=>
   obtain⟨a,xs,T,e,ha,k⟩:=h;have hap:a≠p:=fun z=>hp (z▸k.top)
   exact⟨a,xs,T,e,(zAL hap).trans ha,k.imp (fun q _ _ _ w=>Own.upd w fun z=>hp (k.sub q _ z)) fun _ z=>z⟩
  |dct kvs=>
   obtain⟨a,e,ha,hs⟩:=h;have hap:a≠p:=fun z=>hp (z▸hs)
   exact⟨a,e,(zAL hap).trans ha,hs⟩
  |dtt ks ds=>
   obtain⟨a,T0,e0,xs,T,e,ha,hl,ht,k⟩:=h;have hap:a≠p:=fun z=>hp (z▸k.top)
   exact⟨a,T0,e0,xs,T,e,(zAL hap).trans ha,hl,ht,k.imp (fun q _ _ _ w=>Own.upd w fun z=>hp (k.sub q _ z)) fun _ z=>z⟩
  |loc a d=>exact⟨h.1,Own.upd h.2 hp⟩
  |dsk w ws=>
   obtain⟨a,e,b,C,dx,h1,⟨h2,h3⟩,h4,h5⟩:=h;have h6:a≠p:=fun z=>hp (z▸h4)
   have h7:b≠p:=fun z=>hp (z▸h5)
   exact⟨a,e,b,C,dx,h1,⟨(zAL h6).trans h2,(zAL h7).trans h3⟩,h4,h5⟩
  |dcr ks ds=>
   obtain⟨a,xs,e,ha,hl,r,hs⟩:=h;have hap:a≠p:=fun z=>hp (z▸hs)
   exact⟨a,xs,e,(zAL hap).trans ha,hl,r,hs⟩
  |_=>exact h
structure Ext(G H G' H':Hp):Prop where
 g:Same G G'
 h:Same H H'
 in':Same G' H'
 old:∀b,H b≠none->G' b=G b
theorem Ext.refl{G H:Hp}(s:Same G H):Ext G H G H:=⟨Same.refl _,Same.refl _,s,fun _ _=>rfl⟩
theorem _root_.L2.Same.some{H H':Hp}(s:Same H H'){b:Addr}(h:H b≠qE9):H' b≠qE9:=by
 cases e:H b with
 |none=>exact absurd e h
 |some o=>rw[s _ _ e];simp
theorem Ext.trans{G H G1 H1 G2 H2:Hp}(a:Ext G H G1 H1)(b:Ext G1 H1 G2 H2):Ext G H G2 H2:=
 ⟨a.g.trans b.g,a.h.trans b.h,b.in',fun c hc=>(b.old c (a.h.some hc)).trans (a.old c hc)⟩
structure Fr(G H G' H':Hp)(S:Addr->Prop):Prop where
 ext:Ext G H G' H'
 new:∀a,S a->H a=none/\G' a=none/\H' a≠none
open Classical in
noncomputable def over(G H:Hp)(S:Addr->Prop):Hp:=fun b=>if S b then H b else G b
theorem zE0{G H:Hp}{S:Addr->Prop}{a:Addr}(h:S a):over G H S a=H a:=by unfold over;rw[if_pos h]
theorem zC9{G H:Hp}{S:Addr->Prop}{a:Addr}(h:¬S a):over G H S a=G a:=by unfold over;rw[if_neg h]
theorem zDB{G H:Hp}{S:Addr->Prop}(s:Same G H):Same G (over G H S)/\Same (over G H S) H:=by
 constructor
 ·intro b o e
  by_cases z:S b
  ·rw[zE0 z];exact s _ _ e
  ·rw[zC9 z];exact e
 ·intro b o e
  by_cases z:S b
  ·rw[zE0 z]at e;exact e
  ·rw[zC9 z]at e;exact s _ _ e
theorem Fr.frz{G H G' H':Hp}{S:Addr->Prop}{n:Nat}{d:Dt}{v:V}(f:Fr G H G' H' S)(o:Own G' H' n S d v):Ext G H (over G' H' S) H'/\Rep (over G' H' S) d v:=by
 obtain⟨s1,s2⟩:=zDB (S:=S) f.ext.in';refine⟨⟨f.ext.g.trans s1,f.ext.h,s2,fun b hb=>?_⟩,o.rep s1 fun a u ha e=>by rw[zE0 ha];exact e⟩;have z:¬S b:=fun z=>hb (f.new b z).1
 rw[zC9 z];exact f.ext.old b hb
structure View(G:Hp)(σ:St)(ρ:Rh):Prop where
 len:ρ.length=σ.length
 «at»:∀(i:Nat)(d:Dt),ρ[i]?=some (some d)->∃v,σ[i]?=some (some v)/\Rep G d v
 tab:Same (tabK Kc.K) G
theorem View.mono{G G':Hp}{σ:St}{ρ:Rh}(s:Same G G')(h:View G σ ρ):View G' σ ρ:=⟨h.len,fun i d e=>let⟨v,a,b⟩:=h.at i d e;⟨v,a,Rep.mono s b⟩,h.tab.trans s⟩
def XRep(mg:Str->Option Value)(x:Xn)(c:Value)(da:Option Addr)(G H:Hp):Prop:=
 ∃e C,c=.ref e/\G e=some (xo e (.ref C) da)/\clK Kc.K x.cls=some C/\((da=none/\x.f = "")\/∃a gs w,da=some a/\G a=some (.xd gs)/\gs.lookup x.f=some w/\Rep G x.d w)
def PostE(mg:Str->Option Value)(E:XK)(G H:Hp)(n:Nat)(r:R Dt)(Q:VK):Prop:=match r with
 |none=>False
 |some (.error x)=>∀c da G' H',Ext G H G' H'->XRep mg x c da G' H'->E c da H'
 |some (.ok d)=>∀v G' H' S,Fr G H G' H' S->Own G' H' n S d v->Q v H'
def PostT(mg:Str->Option Value)(E:XK)(G H:Hp)(r:R Bool)(Q:Bool->Hp->Prop):Prop:=match r with
 |none=>False
 |some (.error x)=>∀c da G' H',Ext G H G' H'->XRep mg x c da G' H'->E c da H'
 |some (.ok b)=>∀H',Same H H'->Q b H'
structure OwnA(G H:Hp)(n:Nat)(S:Addr->Prop)(ds:List Dt)(xs:List V)(T:Nat->Addr->Prop):Prop where
 len:xs.length=ds.length
 own:∀(q:Nat)(d:Dt)(x:V),ds[q]?=some d->xs[q]?=some x->Own G H n (T q) d x
 dis:∀q r b,T q b->T r b->q=r
 sub:∀q b,T q b->S b
def zWF(mg:Str->Option Value)(E:XK)(G H:Hp)(n:Nat)(r:R (List Dt))(Q:List V->Hp->Prop):Prop:=match r with
 |none=>False
 |some (.error x)=>∀c da G' H',Ext G H G' H'->XRep mg x c da G' H'->E c da H'
 |some (.ok ds)=>∀vs G' H' S T,Fr G H G' H' S->OwnA G' H' n S ds vs T->Q vs H'
def DE(mg:Str->Option Value)(E:XK)(t:TE)(m:EM)(n:Nat):Prop:=∀(G H:Hp)(σ:St)(ρ:Rh)(Q:VK),Same G H->View G σ ρ->PostE mg E G H n (m ρ) Q->t σ H Q
def DT(mg:Str->Option Value)(E:XK)(t:TT)(m:TM):Prop:=∀(G H:Hp)(σ:St)(ρ:Rh)(Q:Bool->Hp->Prop),Same G H->View G σ ρ->PostT mg E G H (m ρ) Q->t σ H Q
def DA(mg:Str->Option Value)(E:XK)(t:TA)(m:AM)(n:Nat):Prop:=∀(G H:Hp)(σ:St)(ρ:Rh)(Q:List V->Hp->Prop),Same G H->View G σ ρ->zWF mg E G H n (m ρ) Q->t σ H Q
structure Err(mg:Str->Option Value)(E:XK)(G H:Hp){β:Type}(P:R β->Prop):Prop where
 no:P none->False
 er:∀x,P (some (.error x))->∀c da G' H',Ext G H G' H'->XRep mg x c da G' H'->E c da H'
theorem Ext.same{G H H':Hp}(s:Same G H)(h:Same H H'):Ext G H G H':=⟨Same.refl _,h,s.trans h,fun _ _=>rfl⟩
theorem Err.from{mg:Str->Option Value}{E:XK}{G H G' H':Hp}{β:Type}{P:R β->Prop}(e:Err mg E G H P)(x:Ext G H G' H'):Err mg E G' H' P:=⟨e.no,fun y p c da G2 H2 z w=>e.er y p c da G2 H2 (x.trans z) w⟩
section
variable{mg:Str->Option Value}{E:XK}{n:Nat}
theorem errE{G H:Hp}{Q:VK}:Err mg E G H (fun r=>PostE mg E G H n r Q):=⟨fun h=>h,fun _ h=>h⟩
theorem errT{G H:Hp}{Q:Bool->Hp->Prop}:Err mg E G H (fun r=>PostT mg E G H r Q):=⟨fun h=>h,fun _ h=>h⟩
theorem errA{G H:Hp}{Q:List V->Hp->Prop}:Err mg E G H (fun r=>zWF mg E G H n r Q):=⟨fun h=>h,fun _ h=>h⟩
theorem DE.step{β:Type}{t:TE}{m:EM}(D:DE mg E t m n){G H:Hp}{σ:St}{ρ:Rh}{Q:VK}{P:R β->Prop}{f:Dt->R β}(hE:Err mg E G H P)(s:Same G H)(w:View G σ ρ)(p:P (zA3 (m ρ) f))
  (h:∀d v G' H' S,m ρ=okR d->Fr G H G' H' S->Own G' H' n S d v->P (f d)->Q v H'):t σ H Q:=by
 refine D G H σ ρ Q s w ?_;cases e:m ρ with
 |none=>rw[e]at p;exact hE.no p
 |some r=>
  rw[e]at p;cases r with
  |error x=>exact hE.er x p
  |ok d=>exact fun v G' H' S fr o=>h d v G' H' S e fr o p
theorem DT.step{β:Type}{t:TT}{m:TM}(D:DT mg E t m){G H:Hp}{σ:St}{ρ:Rh}{Q:Bool->Hp->Prop}{P:R β->Prop}{f:Bool->R β}(hE:Err mg E G H P)(s:Same G H)(w:View G σ ρ)(p:P (zA3 (m ρ) f))
  (h:∀b H',m ρ=okR b->Same H H'->P (f b)->Q b H'):t σ H Q:=by
 refine D G H σ ρ Q s w ?_;cases e:m ρ with
 |none=>rw[e]at p;exact hE.no p
 |some r=>
  rw[e]at p;cases r with
  |error x=>exact hE.er x p
  |ok b=>exact fun H' sH=>h b H' e sH p
theorem DA.step{β:Type}{t:TA}{m:AM}(D:DA mg E t m n){G H:Hp}{σ:St}{ρ:Rh}{Q:List V->Hp->Prop}{P:R β->Prop}{f:List Dt->R β}(hE:Err mg E G H P)(s:Same G H)(w:View G σ ρ)(p:P (zA3 (m ρ) f))
  (h:∀ds vs G' H' S T,m ρ=okR ds->Fr G H G' H' S->OwnA G' H' n S ds vs T->P (f ds)->Q vs H'):t σ H Q:=by
 refine D G H σ ρ Q s w ?_;cases e:m ρ with
 |none=>rw[e]at p;exact hE.no p
 |some r=>
  rw[e]at p;cases r with
  |error x=>exact hE.er x p
  |ok ds=>exact fun vs G' H' S T fr o=>h ds vs G' H' S T e fr o p
theorem PostE.from{G H G' H':Hp}{Q:VK}{r:R Dt}(p:PostE mg E G H n r Q)(x:Ext G H G' H'):PostE mg E G' H' n r Q:=by
 cases r with
 |none=>exact p
 |some r=>
  cases r with
  |error y=>exact fun c da G2 H2 z w=>p c da G2 H2 (x.trans z) w
  |ok d=>
   exact fun v G2 H2 S fr o=>p v G2 H2 S ⟨x.trans fr.ext,fun a ha=>⟨x.h.free (fr.new a ha).1,(fr.new a ha).2⟩⟩ o
theorem PostT.from{G H G' H':Hp}{Q:Bool->Hp->Prop}{r:R Bool}(p:PostT mg E G H r Q)(x:Ext G H G' H'):PostT mg E G' H' r Q:=by
 cases r with
 |none=>exact p
 |some r=>
  cases r with
  |error y=>exact fun c da G2 H2 z w=>p c da G2 H2 (x.trans z) w
  |ok d=>exact fun H2 s=>p H2 (x.h.trans s)
theorem Fr.from{G H G1 H1 G2 H2:Hp}{S:Addr->Prop}(x:Ext G H G1 H1)(f:Fr G1 H1 G2 H2 S):Fr G H G2 H2 S:=⟨x.trans f.ext,fun a ha=>⟨x.h.free (f.new a ha).1,(f.new a ha).2⟩⟩
theorem PostE.val{G H G' H':Hp}{d:Dt}{v:V}{Q:VK}(p:PostE mg E G H n (okR d) Q)(x:Ext G H G' H')(hd:d.dep=0)(h:Rep G' d v):Q v H':=
 p v G' H' (fun _=>False) ⟨x,fun _ z=>z.elim⟩ (zRB h hd)
theorem PostE.kept{G H G' H':Hp}{d:Dt}{v:V}{Q:VK}(p:PostE mg E G H 0 (okR d) Q)(x:Ext G H G' H')(h:Rep G' d v):Q v H':=
 p v G' H' (fun _=>False) ⟨x,fun _ z=>z.elim⟩ h
theorem zB2{t:TE}{m:EM}{n:Nat}(D:DE mg E t m n):DE mg E t m 0:=by
 intro G H σ ρ Q s w p;refine D G H σ ρ Q s w ?_;cases e:m ρ with
 |none=>rw[e]at p;exact p
 |some r=>
  rw[e]at p;cases r with
  |error x=>exact p
  |ok d=>
   intro v G' H' S fr o;obtain⟨x,r⟩:=fr.frz o;exact PostE.kept p x r
end
end
section
variable[Kc]{mg:Str->Option Value}{E:XK}{n k l:Nat}{ta tb tc:TE}{ma mb mc:EM}
theorem zAG{i:Int}:DE mg E (tC (.int i)) (Mi.eC (.int i)) n:=fun G H σ ρ Q s w p=>PostE.val p (Ext.refl s) rfl rfl
theorem zK6{b:Bool}:DE mg E (tC (.bl b)) (Mi.eC (.bl b)) n:=fun G H σ ρ Q s w p=>PostE.val p (Ext.refl s) rfl rfl
theorem zRV:DE mg E (tC .non) (Mi.eC .non) n:=fun G H σ ρ Q s w p=>PostE.val p (Ext.refl s) rfl rfl
theorem zW6{x:Str}:DE mg E (tC (.str x)) (Mi.eC (.str x)) n:=fun G H σ ρ Q s w p=>PostE.val p (Ext.refl s) rfl rfl
theorem de_v(i:Nat):DE mg E (vM i) (Mi.eV i) 0:=by
 intro G H σ ρ Q s w p;unfold Mi.eV at p;cases e:ρ[i]? with
 |none=>rw[e]at p;exact p.elim
 |some o=>
  rw[e]at p;cases o with
  |none=>exact p.elim
  |some d=>
   obtain⟨v,h1,h2⟩:=w.at i d e;unfold vM;rw[h1];exact PostE.kept p (Ext.refl s) h2
def ROp(r:R2)(f:Dt->Dt->Option Dt)(n:Nat):Prop:=∀(mg:Str->Option Value)(E:XK)(G H:Hp)(d e:Dt)(x y:V)(Q:VK),Same G H->Rep G d x->Rep G e y->PostE mg E G H n (optR (f d e)) Q->r x y H Q
theorem zAD{r:R2}{f:Dt->Dt->Option Dt}(hr:ROp r f n)(A:DE mg E ta ma k)(B:DE mg E tb mb l):DE mg E (tOp r ta tb) (Mi.eB f ma mb) n:=by
 intro G H σ ρ Q s w p;refine(zB2 A).step errE s w p fun d v G1 H1 S _ fr o p1=>?_
 refine(zB2 B).step (errE.from fr.ext) fr.ext.in' (w.mono fr.ext.g) p1 fun e u G2 H2 S2 _ fr2 o2 p2=>?_
 exact hr mg E G2 H2 d e v u Q fr2.ext.in' (Rep.mono fr2.ext.g o) o2 (PostE.from p2 (fr.ext.trans fr2.ext))
theorem zL4(A:DE mg E ta ma k)(B:DE mg E tb mb n):DE mg E (fun σ H Q=>ta σ H fun x H1=>match x with | .bl c=>if c=true then tb σ H1 Q else Q (.bl false) H1|_=>False) (Mi.eAnd ma mb) n:=by
 intro G H σ ρ Q s w p;refine(zB2 A).step errE s w p fun d v G1 H1 S _ fr o p1=>?_
 cases d with
 |bl b=>
  cases(show v=.bl b from o)
  cases b with
  |true=>exact B G1 H1 σ ρ Q fr.ext.in' (w.mono fr.ext.g) (PostE.from p1 fr.ext)
  |false=>exact PostE.val (PostE.from p1 fr.ext) (Ext.refl fr.ext.in') rfl rfl
 |_=>exact p1.elim
theorem zRU(A:DE mg E ta ma k):DE mg E (fun σ H Q=>ta σ H fun x H1=>match x with | .bl c=>Q (.bl (!c)) H1|_=>False) (Mi.eNot ma) n:=by
 intro G H σ ρ Q s w p;refine(zB2 A).step errE s w p fun d v G1 H1 S _ fr o p1=>?_
 cases d with
 |bl b=>
  cases(show v=.bl b from o)
  exact PostE.val (PostE.from p1 fr.ext) (Ext.refl fr.ext.in') rfl rfl
 |_=>exact p1.elim
theorem zOB{tA:TT}{c:TM}(C:DT mg E tA c)(A:DE mg E ta ma n)(B:DE mg E tb mb n):DE mg E (tIf tA ta tb) (Mi.eIf c ma mb) n:=by
 intro G H σ ρ Q s w p;refine C.step errE s w p fun b H' _ sH p1=>?_
 have p2:=PostE.from p1 (Ext.same s sH);cases b with
 |true=>exact A G H' σ ρ Q (s.trans sH) w p2
 |false=>exact B G H' σ ρ Q (s.trans sH) w p2
theorem dt_b(A:DE mg E ta ma k):DT mg E (fun σ H Q=>ta σ H fun z H3=>match z with | .bl k=>Q k H3|_=>False) (Mi.tB ma):=by
 intro G H σ ρ Q s w p;refine(zB2 A).step errT s w p fun d v G1 H1 S _ fr o p1=>?_
 cases d with
 |bl b=>
  cases(show v=.bl b from o)
  exact p1 H1 fr.ext.h
 |_=>exact p1.elim
theorem dt_m(A:DE mg E ta ma k):DT mg E (bM ta) (Mi.tM ma):=by
 intro G H σ ρ Q s w p;refine(zB2 A).step errT s w p fun d v G1 H1 S _ fr o p1=>?_
 cases d with
 |bl b=>cases(show v=.bl b from o);exact p1 H1 fr.ext.h
 |int b=>cases(show v=.int b from o);exact p1 H1 fr.ext.h
 |non=>cases(show v=.non from o);exact p1 H1 fr.ext.h
 |_=>exact p1.elim
variable{tA tB:TT}{cA cB:TM}
theorem zRS(A:DT mg E tA cA)(B:DT mg E tB cB):DT mg E (L2.tAnd tA tB) (Mi.tAn cA cB):=by
 intro G H σ ρ Q s w p;refine A.step errT s w p fun b H' _ sH p1=>?_
 cases b with
 |true=>exact B G H' σ ρ Q (s.trans sH) w (PostT.from p1 (Ext.same s sH))
 |false=>exact p1 H' sH
theorem zTL(A:DT mg E tA cA)(B:DT mg E tB cB):DT mg E (L2.tOr tA tB) (Mi.tOr cA cB):=by
 intro G H σ ρ Q s w p;refine A.step errT s w p fun b H' _ sH p1=>?_
 cases b with
 |false=>exact B G H' σ ρ Q (s.trans sH) w (PostT.from p1 (Ext.same s sH))
 |true=>exact p1 H' sH
theorem zGY(A:DT mg E tA cA):DT mg E (L2.tNot tA) (Mi.tNo cA):=by
 intro G H σ ρ Q s w p;exact A.step errT s w p fun b H' _ sH p1=>p1 H' sH
theorem zBA:DT mg E L2.tYes Mi.tYes:=fun G H σ ρ Q s w p=>p H (Same.refl _)
variable{t:TA}{m:AM}
theorem zAA:DA mg E tNil Mi.aNil n:=fun G H σ ρ Q s w p=>p [] G H (fun _=>False) (fun _ _=>False) ⟨Ext.refl s,fun _ z=>z.elim⟩ ⟨rfl,fun q d x h=>by simp at h,fun _ _ _ z=>z.elim,fun _ _ z=>z.elim⟩
theorem zA2(A:DE mg E ta ma n)(B:DA mg E t m n):DA mg E (zFA ta t) (Mi.aCons ma m) n:=by
 intro G H σ ρ Q s w p;refine A.step errA s w p fun d v G1 H1 S1 _ fr o p1=>?_
 refine B.step (errA.from fr.ext) fr.ext.in' (w.mono fr.ext.g) p1 fun ds vs G2 H2 S2 T2 _ fr2 o2 p2=>?_
 refine p2 (v::vs) G2 H2 (fun a=>S1 a\/S2 a) (fun q=>match q with|0=>S1|q+1=>T2 q) ⟨fr.ext.trans fr2.ext,fun a ha=>?_⟩ ⟨by simp[o2.len],fun q d' x h1 h2=>?_,fun q r b h1 h2=>?_,fun q b h=>?_⟩
 ·rcases ha with ha|ha
  ·obtain⟨n1,n2,n3⟩:=fr.new a ha;exact⟨n1,(fr2.ext.old a n3).trans n2,fr2.ext.h.some n3⟩
  ·obtain⟨n1,n2,n3⟩:=fr2.new a ha;exact⟨fr.ext.h.free n1,n2,n3⟩
 ·cases q with
  |zero=>simp at h1 h2;subst h1;subst h2;exact o.mono fr2.ext.g fr2.ext.h
  |succ q=>exact o2.own q d' x (by simpa using h1) (by simpa using h2)
 ·have ap:∀r b,S1 b->T2 r b->False:=fun r b h1 h2=>(fr.new b h1).2.2 (fr2.new b (o2.sub r b h2)).1
  cases q with
  |zero=>
   cases r with
   |zero=>rfl
   |succ r=>exact(ap r b h1 h2).elim
  |succ q=>
   cases r with
   |zero=>exact(ap q b h2 h1).elim
   |succ r=>rw[o2.dis q r b h1 h2]
 ·cases q with
  |zero=>exact .inl h
  |succ q=>exact .inr (o2.sub q b h)
theorem OwnA.repL{G H:Hp}{S:Addr->Prop}{ds:List Dt}{vs:List V}{T:Nat->Addr->Prop}(o:OwnA G H 0 S ds vs T):RepL G ds vs:=zD9 o.len fun q d x h1 h2=>o.own q d x h1 h2
theorem big'{n:Nat}(h:n<=100000):n<=sizeLine:=qB6 (L2.big h)
theorem Fr.add{G H G' H':Hp}{S:Addr->Prop}(f:Fr G H G' H' S){p:Addr}(hp:H' p=none)(o:HO):Fr G H G' (upd H' p o) (fun a=>a=p\/S a):=by
 have sn:=L2.same_new hp o;refine⟨⟨f.ext.g,f.ext.h.trans sn,f.ext.in'.trans sn,f.ext.old⟩,fun a ha=>?_⟩
 rcases ha with rfl|ha
 ·exact⟨f.ext.h.free hp,f.ext.in'.free hp,by rw[zAM];simp⟩
 ·obtain⟨n1,n2,n3⟩:=f.new a ha;exact⟨n1,n2,sn.some n3⟩
theorem OwnA.kids{G' H':Hp}{S:Addr->Prop}{ds:List Dt}{vs:List V}{T:Nat->Addr->Prop}(o:OwnA G' H' n S ds vs T)(hn:∀a,S a->H' a≠none){p:Addr}(hp:H' p=none)(ob:HO) :
  Kids (Own G' (upd H' p ob) n) (fun a=>a=p\/S a) p ds vs T:=
 ⟨o.len,fun q d x h1 h2=>(o.own q d x h1 h2).mono (Same.refl _) (L2.same_new hp ob),.inl rfl,fun q z=>hn p (o.sub q p z) hp,o.dis,fun q b z=>.inr (o.sub q b z)⟩
theorem zDU(A:DA mg E t m n):DE mg E (tLst t) (Mi.eLst m) (n+1):=by
 intro G H σ ρ Q s w p;refine A.step errE s w p fun ds vs G1 H1 S T _ fr o p1=>?_
 by_cases hz:ds.length<=100000
 ·rw[if_pos hz]at p1;refine⟨by rw[o.len];exact big' hz,fun a ha=>?_⟩;exact p1 (.ref a) G1 _ _ (fr.add ha _) ⟨a,vs,T,rfl,zAM,o.kids (fun b hb=>(fr.new b hb).2.2) ha _⟩
 ·rw[if_neg hz]at p1;exact p1.elim
theorem zW5(A:DA mg E t m n):DE mg E (tTup t) (Mi.eTup m) (n+1):=by
 intro G H σ ρ Q s w p;refine A.step errE s w p fun ds vs G1 H1 S T _ fr o p1=>?_
 by_cases hz:ds.length<=100000
 ·rw[if_pos hz]at p1;refine⟨by rw[o.len];exact big' hz,fun a ha=>?_⟩;exact p1 (.ref a) G1 _ _ (fr.add ha _) ⟨a,vs,T,rfl,zAM,o.kids (fun b hb=>(fr.new b hb).2.2) ha _⟩
 ·rw[if_neg hz]at p1;exact p1.elim
theorem PostE.lst{G H G' H':Hp}{ds:List Dt}{xs:List V}{Q:VK}(p:PostE mg E G H 1 (okR (.lst ds)) Q)(x:Ext G H G' H')(r:RepL G' ds xs){a:Addr}(ha:H' a=none):Q (.ref a) (upd H' a (.lst xs)):=by
 have fr:Fr G H G' H' (fun _=>False):=⟨x,fun _ z=>z.elim⟩
 refine p (.ref a) G' _ _ (fr.add ha (.lst xs)) ⟨a,xs,fun _ _=>False,rfl,zAM,⟨r.length,fun q d y h1 h2=>zBU r h1 h2,.inl rfl,fun _ z=>z,fun _ _ _ z=>z.elim,fun _ _ z=>z.elim⟩⟩
def CBi(r:List V->Hp->VK->Prop)(f:List Dt->Option Dt)(n:Nat):Prop:=∀(mg:Str->Option Value)(E:XK)(G H:Hp)(ds:List Dt)(vs:List V)(Q:VK),Same G H->RepL G ds vs->PostE mg E G H n (optR (f ds)) Q->r vs H Q
theorem zC8{r:List V->Hp->VK->Prop}{f:List Dt->Option Dt}(hr:CBi r f n)(A:DA mg E t m 0):DE mg E (tCB r t) (Mi.eBi f m) n:=by
 intro G H σ ρ Q s w p;refine A.step errE s w p fun ds vs G1 H1 S T _ fr o p1=>?_
 exact hr mg E G1 H1 ds vs Q fr.ext.in' o.repL (PostE.from p1 fr.ext)
def spM(mg:Str->Option Value)(L:Nat)(f:FM):Sp:=fun vs H Q E=>∃G ds,Same (tabK Kc.K) G/\Same G H/\RepL G ds vs/\PostE mg E G H L (f ds) Q
theorem zAS{f:FM}(A:DA mg E t m 0):DE mg E (zGL (spM mg n f) [] E t) (Mi.eCall f m) n:=by
 intro G H σ ρ Q s w p;refine A.step errE s w p fun ds vs G1 H1 S T _ fr o p1=>?_
 exact⟨G1,ds,w.tab.trans fr.ext.g,fr.ext.in',by rw[qBx];exact o.repL,PostE.from p1 fr.ext⟩
theorem zPD{G H:Hp}{o:Option Dt}{Q:VK}{d:Dt}{v:V}(s:Same G H)(p:PostE mg E G H n (optR o) Q)(e:o=some d)(hd:d.dep=0)(h:Rep G d v):Q v H:=by
 subst e;exact PostE.val p (Ext.refl s) hd h
theorem zB4:ROp zSP Mi.addD 1:=by
 intro mg E G H d e x y Q s h1 h2 p;cases d with
 |int i=>
  cases e with
  |int j=>cases(show x=.int i from h1);cases(show y=.int j from h2);exact zPD s p rfl rfl rfl
  |_=>exact p.elim
 |str i=>
  cases e with
  |str j=>
   cases(show x=.str i from h1);cases(show y=.str j from h2)
   rw[Mi.addD]at p;by_cases hz:i.length+j.length<=100000
   ·rw[if_pos hz]at p;exact⟨big' hz,PostE.val p (Ext.refl s) rfl rfl⟩
   ·rw[if_neg hz]at p;exact p.elim
  |_=>exact p.elim
 |lst ds=>
  cases e with
  |lst es=>
   obtain⟨a,xs,rfl,ha,ra⟩:=h1;obtain⟨b,ys,rfl,hb,rb⟩:=h2;rw[Mi.addD]at p;by_cases hz:ds.length+es.length<=100000
   ·rw[if_pos hz]at p;refine⟨xs,ys,s _ _ ha,s _ _ hb,by rw[ra.length,rb.length];exact big' hz,fun q hq=>?_⟩;refine PostE.lst p (Ext.refl s) (zD9 (by simp[ra.length,rb.length]) fun j d' x' e1 e2=>?_) hq
    by_cases hj:j<ds.length
    ·rw[qAd hj]at e1;rw[qAd (by rw[ra.length];exact hj)]at e2;exact zBU ra e1 e2
    ·rw[qAe (by lia)]at e1;rw[qAe (by rw[ra.length];lia),ra.length]at e2;exact zBU rb e1 e2
   ·rw[if_neg hz]at p;exact p.elim
  |_=>exact p.elim
 |_=>exact p.elim
theorem zR3:ROp zUP Mi.subD n:=by
 intro mg E G H d e x y Q s h1 h2 p;cases d with
 |int i=>
  cases e with
  |int j=>cases(show x=.int i from h1);cases(show y=.int j from h2);exact zPD s p rfl rfl rfl
  |_=>exact p.elim
 |_=>exact p.elim
theorem zGS:ROp zUQ Mi.mulD n:=by
 intro mg E G H d e x y Q s h1 h2 p;cases d with
 |int i=>
  cases e with
  |int j=>
   cases(show x=.int i from h1);cases(show y=.int j from h2)
   rw[Mi.mulD]at p;split at p
   ·rename_i hz;exact⟨hz,PostE.val p (Ext.refl s) rfl rfl⟩
   ·exact p.elim
  |_=>exact p.elim
 |_=>exact p.elim
theorem zFS:ROp zUT Mi.divD n:=by
 intro mg E G H d e x y Q s h1 h2 p;cases d with
 |int i=>
  cases e with
  |int j=>
   cases(show x=.int i from h1);cases(show y=.int j from h2)
   rw[Mi.divD]at p;split at p
   ·rename_i hz;exact⟨hz,PostE.val p (Ext.refl s) rfl rfl⟩
   ·exact p.elim
  |_=>exact p.elim
 |_=>exact p.elim
theorem zBY:ROp zUR Mi.modD n:=by
 intro mg E G H d e x y Q s h1 h2 p;cases d with
 |int i=>
  cases e with
  |int j=>
   cases(show x=.int i from h1);cases(show y=.int j from h2)
   rw[Mi.modD]at p;split at p
   ·rename_i hz;exact⟨hz,PostE.val p (Ext.refl s) rfl rfl⟩
   ·exact p.elim
  |_=>exact p.elim
 |_=>exact p.elim
theorem zDP{q:Int->Int->Bool}:ROp (zSN q) (Mi.cmpD q) n:=by
 intro mg E G H d e x y Q s h1 h2 p;cases d with
 |int i=>
  cases e with
  |int j=>cases(show x=.int i from h1);cases(show y=.int j from h2);exact zPD s p rfl rfl rfl
  |_=>exact p.elim
 |_=>exact p.elim
theorem zRN{G H:Hp}{d e:Dt}{x y:V}{Q:VK}{ng:Bool}(s:Same G H)(h1:Rep G d x)(h2:Rep G e y)(hd:d.dep<=40)(he:e.dep<=40)(q:Q (.bl (if ng then !Dt.eq d e else Dt.eq d e)) H) :
  ∃d' e',L2.Rep H d' x/\L2.Rep H e' y/\d'.dep<=40/\Q (.bl (if ng then !L2.Dat.eq d' e' else L2.Dat.eq d' e')) H:=
 ⟨conv d,conv e,zDL hd (Rep.mono s h1),zDL he (Rep.mono s h2),qAi (zEN hd) hd,by rw[zK8 hd he];exact q⟩
theorem zF2{α:Type}[DecidableEq α](a b:α):(a==b)=decide (a=b):=by
 by_cases h:a=b
 ·subst h;simp
 ·simp[h]
theorem zHB{G:Hp}{d:Dt}{i:Int}(h:Rep G d (.int i)):d=.int i:=by
 cases d with
 |int k=>cases h;rfl
 |non=>cases h
 |bl _=>cases h
 |str _=>cases h
 |lst _=>obtain⟨_,_,z,_⟩:=h;cases z
 |tup _=>obtain⟨_,_,z,_⟩:=h;cases z
 |scr _=>obtain⟨_,z,_⟩:=h;cases z
 |exc _ _ _=>obtain⟨_,_,_,z,_⟩:=h;cases z
 |fn _ _=>obtain⟨_,z,_⟩:=h;cases z
 |dcr _ _=>obtain⟨_,_,z,_⟩:=h;cases z
 |dsk _ _=>obtain⟨_,z,_⟩:=h;cases z
 |fnc _=>obtain⟨_,z,_⟩:=h;cases z
 |dtt _ _=>obtain⟨_,_,_,_,z,_⟩:=h;cases z
 |loc _ _=>obtain⟨z,_⟩:=h;cases z
 |ins _ _=>obtain⟨_,_,_,z,_⟩:=h;cases z
 |dct _=>obtain⟨_,z,_⟩:=h;cases z
theorem zHA{G:Hp}{d:Dt}{i:Str}(h:Rep G d (.str i)):d=.str i:=by
 cases d with
 |str k=>cases h;rfl
 |non=>cases h
 |bl _=>cases h
 |int _=>cases h
 |lst _=>obtain⟨_,_,z,_⟩:=h;cases z
 |tup _=>obtain⟨_,_,z,_⟩:=h;cases z
 |scr _=>obtain⟨_,z,_⟩:=h;cases z
 |exc _ _ _=>obtain⟨_,_,_,z,_⟩:=h;cases z
 |fn _ _=>obtain⟨_,z,_⟩:=h;cases z
 |dcr _ _=>obtain⟨_,_,z,_⟩:=h;cases z
 |dsk _ _=>obtain⟨_,z,_⟩:=h;cases z
 |fnc _=>obtain⟨_,z,_⟩:=h;cases z
 |dtt _ _=>obtain⟨_,_,_,_,z,_⟩:=h;cases z
 |loc _ _=>obtain⟨z,_⟩:=h;cases z
 |ins _ _=>obtain⟨_,_,_,z,_⟩:=h;cases z
 |dct _=>obtain⟨_,z,_⟩:=h;cases z
theorem zKQ{G:Hp}{d:Dt}{i:Bool}(h:Rep G d (.bl i)):d=.bl i:=by
 cases d with
 |bl k=>cases h;rfl
 |non=>cases h
 |str _=>cases h
 |int _=>cases h
 |lst _=>obtain⟨_,_,z,_⟩:=h;cases z
 |tup _=>obtain⟨_,_,z,_⟩:=h;cases z
 |scr _=>obtain⟨_,z,_⟩:=h;cases z
 |exc _ _ _=>obtain⟨_,_,_,z,_⟩:=h;cases z
 |fn _ _=>obtain⟨_,z,_⟩:=h;cases z
 |dcr _ _=>obtain⟨_,_,z,_⟩:=h;cases z
 |dsk _ _=>obtain⟨_,z,_⟩:=h;cases z
 |fnc _=>obtain⟨_,z,_⟩:=h;cases z
 |dtt _ _=>obtain⟨_,_,_,_,z,_⟩:=h;cases z
 |loc _ _=>obtain⟨z,_⟩:=h;cases z
 |ins _ _=>obtain⟨_,_,_,z,_⟩:=h;cases z
 |dct _=>obtain⟨_,z,_⟩:=h;cases z
theorem zEV:ROp rEqU Mi.eqD n:=by
 intro mg E G H d e x y Q s h1 h2 p;unfold Mi.eqD at p;split at p
 ·rename_i hz
  have q:Q (.bl (Dt.eq d e)) H:=PostE.val p (Ext.refl s) rfl rfl;have g:=zRN (ng:=false) (Q:=Q) s h1 h2 hz.1 hz.2 q;unfold rEqU;split
  ·rw[zHB h1,zHB h2,Dt.eq,zF2]at q;exact q
  ·rw[zHA h1,zHA h2,Dt.eq,zF2]at q;exact q
  ·rw[zKQ h1,zKQ h2,Dt.eq,zF2]at q;exact q
  ·exact g
 ·exact p.elim
theorem zUK:ROp rNeU Mi.neD n:=by
 intro mg E G H d e x y Q s h1 h2 p;unfold Mi.neD at p;split at p
 ·rename_i hz
  have q:Q (.bl (!Dt.eq d e)) H:=PostE.val p (Ext.refl s) rfl rfl;have g:=zRN (ng:=true) (Q:=Q) s h1 h2 hz.1 hz.2 q;unfold rNeU;split
  ·rw[zHB h1,zHB h2,Dt.eq,zF2]at q;exact q
  ·rw[zHA h1,zHA h2,Dt.eq,zF2]at q;exact q
  ·rw[zKQ h1,zKQ h2,Dt.eq,zF2]at q;exact q
  ·exact g
 ·exact p.elim
theorem zQ2{G:Hp}{d:Dt}{x:V}(h:Rep G d x):decide (x=.non)=Mi.isNonD d:=by
 cases d with
 |non=>cases h;rfl
 |bl _=>cases h;rfl
 |int _=>cases h;rfl
 |str _=>cases h;rfl
 |lst _=>obtain⟨_,_,rfl,_⟩:=h;rfl
 |tup _=>obtain⟨_,_,rfl,_⟩:=h;rfl
 |scr _=>obtain⟨_,rfl,_⟩:=h;rfl
 |exc _ _ _=>obtain⟨_,_,_,rfl,_⟩:=h;rfl
 |fn _ _=>obtain⟨_,rfl,_⟩:=h;rfl
 |dcr _ _=>obtain⟨_,_,rfl,_⟩:=h;rfl
 |dsk _ _=>obtain⟨_,rfl,_⟩:=h;rfl
 |fnc _=>obtain⟨_,rfl,_⟩:=h;rfl
 |dtt _ _=>obtain⟨_,_,_,_,rfl,_⟩:=h;rfl
 |loc _ _=>obtain⟨rfl,_⟩:=h;rfl
 |ins _ _=>obtain⟨_,_,_,rfl,_⟩:=h;rfl
 |dct _=>obtain⟨_,rfl,_⟩:=h;rfl
theorem zSD:ROp (fun x y H Q=>y=.non/\Q (.bl (!decide (x=.non))) H) Mi.isntD n:=by
 intro mg E G H d e x y Q s h1 h2 p;cases e with
 |non=>exact⟨h2,by rw[zQ2 h1];exact PostE.val p (Ext.refl s) rfl rfl⟩
 |_=>exact p.elim
theorem zIW(n:Nat)(i:Int):Mi.ixA n i=ixN n i:=rfl
theorem zNP{α:Type}(xs:List α)(i:Int):Mi.itA xs i=atI xs i:=rfl
theorem zS1{G:Hp}{ds:List Dt}{xs:List V}{i:Int}{d:Dt}(r:RepL G ds xs)(h:Mi.itA ds i=some d):∃x,atI xs i=some x/\Rep G d x:=by
 rw[zNP]at h;unfold atI at h ⊢;rw[r.length];cases e:ixN ds.length i with
 |none=>rw[e]at h;cases h
 |some j=>
  rw[e]at h;have h':ds[j]?=some d:=h;have hj:j<xs.length:=by rw[r.length];exact(qA2.mp h').1
  exact⟨xs[j],by simp[hj],zBU r h' (by simp[hj])⟩
theorem zC1:ROp (rIxU Kc.K) Mi.ixD 0:=by
 intro mg E G H d e x y Q s h1 h2 p;cases e with
 |int i=>
  cases(show y=.int i from h2)
  cases d with
  |lst ds=>
   obtain⟨a,xs,rfl,ha,ra⟩:=h1;cases er:Mi.itA ds i with
   |none=>rw[Mi.ixD,er]at p;exact p.elim
   |some c=>
    rw[Mi.ixD,er]at p;obtain⟨v,e1,r1⟩:=zS1 ra er;exact⟨xs,v,.inl (SqL.of (s _ _ ha)),e1,PostE.kept p (Ext.refl s) r1⟩
  |tup ds=>
   obtain⟨a,xs,rfl,ha,ra⟩:=h1;cases er:Mi.itA ds i with
   |none=>rw[Mi.ixD,er]at p;exact p.elim
   |some c=>
    rw[Mi.ixD,er]at p;obtain⟨v,e1,r1⟩:=zS1 ra er;exact⟨xs,v,.inr (SqT.of (s _ _ ha)),e1,PostE.kept p (Ext.refl s) r1⟩
  |scr ns=>
   obtain⟨a,rfl,ha⟩:=h1;cases er:Mi.itA ns i with
   |none=>rw[Mi.ixD,er]at p;exact p.elim
   |some c=>
    rw[Mi.ixD,er]at p;refine⟨ns.map V.int,.int c,(zE7 s ha).old,?_,PostE.kept p (Ext.refl s) rfl⟩;rw[zNP]at er;unfold atI at er ⊢;rw[qAl];cases e:ixN ns.length i with
    |none=>rw[e]at er;cases er
    |some j=>
     rw[e]at er;have er':ns[j]?=some c:=er;show(ns.map V.int)[j]?=some (.int c);rw[qAc,er'];rfl
  |str z=>
   cases(show x=.str z from h1)
   rw[Mi.ixD]at p;by_cases hz:z.length<=100000
   ·rw[if_pos hz]at p;cases er:Mi.itA z.cps.toList i with
    |none=>rw[er]at p;exact p.elim
    |some c=>rw[er]at p;exact⟨c,big' hz,er,PostE.kept p (Ext.refl s) rfl⟩
   ·rw[if_neg hz]at p;exact p.elim
  |_=>exact p.elim
 |_=>cases d<;>exact p.elim
theorem zE9{G:Hp}{d:Dt}{vs:List V}(h:RepL G [d] vs):∃x,vs=[x]/\Rep G d x:=by
 obtain⟨x,q,rfl,a,b⟩:=h;cases(show q=[] from b)
 exact⟨x,rfl,a⟩
theorem zSF{G:Hp}{d e:Dt}{vs:List V}(h:RepL G [d,e] vs):∃x y,vs=[x,y]/\Rep G d x/\Rep G e y:=by
 obtain⟨x,q,rfl,a,b⟩:=h;obtain⟨y,rfl,c⟩:=zE9 b;exact⟨x,y,rfl,a,c⟩
theorem zCG:CBi (zSL Kc.K) Mi.lenD n:=by
 intro mg E G H ds vs Q s h p;cases ds with
 |nil=>exact p.elim
 |cons a0 r0=>
  cases r0 with
  |cons _ _=>cases a0<;>exact p.elim
  |nil=>
   cases a0 with
   |lst es=>
    obtain⟨x,rfl,a,xs,rfl,ha,ra⟩:=zE9 h;exact⟨xs,.inl (SqL.of (s _ _ ha)),by rw[ra.length];exact PostE.val p (Ext.refl s) rfl rfl⟩
   |tup es=>
    obtain⟨x,rfl,a,xs,rfl,ha,ra⟩:=zE9 h;exact⟨xs,.inr (SqT.of (s _ _ ha)),by rw[ra.length];exact PostE.val p (Ext.refl s) rfl rfl⟩
   |scr ns=>
    obtain⟨x,rfl,a,rfl,ha⟩:=zE9 h;refine⟨ns.map V.int,(zE7 s ha).old,?_⟩;rw[qAl];exact PostE.val p (Ext.refl s) rfl rfl
   |str z=>
    obtain⟨x,rfl,hx⟩:=zE9 h;cases(show x=.str z from hx)
    rw[Mi.lenD]at p;by_cases hz:z.length<=100000
    ·rw[if_pos hz]at p;exact⟨big' hz,PostE.val p (Ext.refl s) rfl rfl⟩
    ·rw[if_neg hz]at p;exact p.elim
   |_=>exact p.elim
theorem zCM{G:Hp}:∀(ns:List Int),RepL G (ns.map Dt.int) (ns.map V.int)
 |[]=>rfl
 |_::r=>⟨_,_,rfl,rfl,zCM r⟩
theorem zKB:CBi (zMS Kc.K) Mi.listD 1:=by
 intro mg E G H ds vs Q s h p;cases ds with
 |nil=>exact p.elim
 |cons a0 r0=>
  cases r0 with
  |cons _ _=>cases a0<;>exact p.elim
  |nil=>
   cases a0 with
   |lst es=>
    obtain⟨x,rfl,a,xs,rfl,ha,ra⟩:=zE9 h;exact .inl ⟨xs,.inl (SqL.of (s _ _ ha)),fun l hl=>PostE.lst p (Ext.refl s) ra hl⟩
   |tup es=>
    obtain⟨x,rfl,a,xs,rfl,ha,ra⟩:=zE9 h;exact .inl ⟨xs,.inr (SqT.of (s _ _ ha)),fun l hl=>PostE.lst p (Ext.refl s) ra hl⟩
   |scr ns=>
    obtain⟨x,rfl,a,rfl,ha⟩:=zE9 h;exact .inl ⟨ns.map V.int,(zE7 s ha).old,fun l hl=>PostE.lst p (Ext.refl s) (zCM ns) hl⟩
   |_=>exact p.elim
theorem zWP{G H:Hp}{d:Dt}{x:V}(s:Same G H)(h:Rep G d x)(hd:Mi.tyD d≠""):zFP H x=some (Mi.tyD d):=by
 cases d with
 |non=>cases h;rfl
 |bl _=>cases h;rfl
 |int _=>cases h;rfl
 |str _=>cases h;rfl
 |lst _=>obtain⟨a,xs,rfl,ha,_⟩:=h;unfold zFP;dsimp only;rw[s _ _ ha];rfl
 |tup _=>obtain⟨a,xs,rfl,ha,_⟩:=h;unfold zFP;dsimp only;rw[s _ _ ha];rfl
 |scr _=>exact absurd rfl hd
 |exc _ _ _=>exact absurd rfl hd
 |fn _ _=>exact absurd rfl hd
 |dcr _ _=>exact absurd rfl hd
 |dsk _ _=>exact absurd rfl hd
 |fnc _=>exact absurd rfl hd
 |dtt _ _=>exact absurd rfl hd
 |loc _ _=>exact absurd rfl hd
 |ins _ _=>exact absurd rfl hd
 |dct _=>exact absurd rfl hd
theorem zGZ{nm:String}(hn:nm∈["int","bool","str","list","tuple","dict"])(A:DE mg E ta ma k):DE mg E (tCB zUS (zFA ta (zFA (tC (.ty nm)) tNil))) (Mi.eIsi nm ma) n:=by
 intro G H σ ρ Q s w p;refine(zB2 A).step errE s w p fun d v G1 H1 S _ fr o p1=>?_
 have p2:=PostE.from p1 fr.ext;unfold Mi.isiD at p2
 split at p2
 ·exact p2.elim
 ·rename_i hd
  exact⟨Mi.tyD d,zWP fr.ext.in' o hd,hn,PostE.val p2 (Ext.refl fr.ext.in') rfl rfl⟩
theorem zJ9{G:Hp}:∀{ds:List Dt}{bs:List Bool}{xs:List V},Mi.boolsD ds=some bs->RepL G ds xs->xs=bs.map V.bl
 |[],bs,xs,h,r=>by cases h;exact r
 |.bl b::ds,bs,xs,h,r=>by
  obtain⟨x,q,rfl,a,c⟩:=r;rw[Mi.boolsD]at h;cases e:Mi.boolsD ds with
  |none=>rw[e]at h;cases h
  |some cs=>
   rw[e]at h;cases h;rw[zJ9 e c,show x=.bl b from a];rfl
 |.non::_,_,_,h,_=>by simp[Mi.boolsD]at h
 |.int _::_,_,_,h,_=>by simp[Mi.boolsD]at h
 |.str _::_,_,_,h,_=>by simp[Mi.boolsD]at h
 |.lst _::_,_,_,h,_=>by simp[Mi.boolsD]at h
 |.tup _::_,_,_,h,_=>by simp[Mi.boolsD]at h
 |.scr _::_,_,_,h,_=>by simp[Mi.boolsD]at h
 |.exc _ _ _::_,_,_,h,_=>by simp[Mi.boolsD]at h
 |.fn _ _::_,_,_,h,_=>by simp[Mi.boolsD]at h
 |.dcr _ _::_,_,_,h,_=>by simp[Mi.boolsD]at h
 |.dsk _ _::_,_,_,h,_=>by simp[Mi.boolsD]at h
 |.fnc _::_,_,_,h,_=>by simp[Mi.boolsD]at h
 |.dtt _ _::_,_,_,h,_=>by simp[Mi.boolsD]at h
 |.loc _ _::_,_,_,h,_=>by simp[Mi.boolsD]at h
 |.ins _ _::_,_,_,h,_=>by simp[Mi.boolsD]at h
 |.dct _::_,_,_,h,_=>by simp[Mi.boolsD]at h
theorem zS0:CBi zUU Mi.allD n:=by
 intro mg E G H ds vs Q s h p;cases ds with
 |nil=>exact qA8 p
 |cons hd1 tl1=>
  cases hd1 with
  |lst es=>
   cases tl1 with
   |nil=>
    obtain⟨x,rfl,a,xs,rfl,ha,ra⟩:=zE9 h;rw[Mi.allD]at p;cases e:Mi.boolsD es with
    |none=>rw[e]at p;exact p.elim
    |some bs=>
     rw[e]at p;exact⟨bs,by rw[<- zJ9 e ra];exact s _ _ ha,PostE.val p (Ext.refl s) rfl rfl⟩
   |cons _ _=>exact qA8 p
  |_=>exact qA8 p
end
section
variable[Kc]
def ItOk(J:It)(G:Hp)(ds:List Dt):Prop:=∀(i:Nat)(G1 H1:Hp),Same G G1->Same G1 H1->(i<ds.length->J.go i H1)/\(ds.length<=i->J.stop i H1)/\∀x H2 d,ds[i]?=some d->J.yld i H1 x H2->∃G2,Ext G1 H1 G2 H2/\Rep G2 d x
noncomputable def zOJ(ind:Bool)(G:Hp):Hp:=if ind=true then(fun _=>none)else G
def zWE(mg:Str->Option Value)(E:XK)(G H:Hp)(ind:Bool)(r:R (List Dt))(Q:It->Hp->Prop):Prop:=match r with
 |none=>False
 |some (.error x)=>∀c da G' H',Ext G H G' H'->XRep mg x c da G' H'->E c da H'
 |some (.ok ds)=>∀J G' H',Ext G H G' H'->ItOk J (zOJ ind G') ds->Q J H'
def DI(mg:Str->Option Value)(E:XK)(t:TI)(m:IM)(ind:Bool):Prop:=∀(G H:Hp)(σ:St)(ρ:Rh)(Q:It->Hp->Prop),Same G H->View G σ ρ->zWE mg E G H ind (m ρ) Q->t σ H Q
section
variable{mg:Str->Option Value}{E:XK}{n k l:Nat}{ta te:TE}{ma me:EM}{t:TA}{m:AM}{ind:Bool}
theorem errI{G H:Hp}{Q:It->Hp->Prop}:Err mg E G H (fun r=>zWE mg E G H ind r Q):=⟨fun h=>h,fun _ h=>h⟩
theorem errB{G H:Hp}{α β:Type}{P:R β->Prop}(e:Err mg E G H P)(g:α->R β):Err mg E G H (fun r=>P (zA3 r g)):=⟨fun h=>e.no h,fun x h=>e.er x h⟩
theorem DI.step{β:Type}{t:TI}{m:IM}(D:DI mg E t m ind){G H:Hp}{σ:St}{ρ:Rh}{Q:It->Hp->Prop}{P:R β->Prop}{f:List Dt->R β}(hE:Err mg E G H P)(s:Same G H)(w:View G σ ρ)(p:P (zA3 (m ρ) f))
  (h:∀ds J G' H',m ρ=okR ds->Ext G H G' H'->ItOk J (zOJ ind G') ds->P (f ds)->Q J H'):t σ H Q:=by
 refine D G H σ ρ Q s w ?_;cases e:m ρ with
 |none=>rw[e]at p;exact hE.no p
 |some r=>
  rw[e]at p;cases r with
  |error x=>exact hE.er x p
  |ok ds=>exact fun J G' H' x i=>h ds J G' H' e x i p
theorem zRJ{K:qA1}{G:Hp}{a:Addr}{xs:List V}{ds:List Dt}(ha:SqL K G a xs)(r:RepL G ds xs):ItOk (Itl K a) G ds:=by
 intro i G1 H1 s1 s2;have hS:SqL K H1 a xs:=(s1.trans s2).seq ha;refine⟨fun hi=>⟨xs,xs[i]'(by rw[r.length];exact hi),hS,by simp⟩,fun hi=>⟨xs,hS,by rw[r.length];exact hi⟩,fun x H2 d hd hy=>?_⟩;obtain⟨rfl,hy⟩:=hy;exact⟨G1,Ext.refl s2,Rep.mono s1 (zBU r hd (hy xs hS))⟩
theorem zRH{K:qA1}{G:Hp}{a:Addr}{xs:List V}{ds:List Dt}(ha:SqT K G a xs)(r:RepL G ds xs):ItOk (Itt K a) G ds:=by
 intro i G1 H1 s1 s2;have hS:SqT K H1 a xs:=zIG (s1.trans s2) ha;refine⟨fun hi=>⟨xs,xs[i]'(by rw[r.length];exact hi),hS,by simp⟩,fun hi=>⟨xs,hS,by rw[r.length];exact hi⟩,fun x H2 d hd hy=>?_⟩;obtain⟨rfl,hy⟩:=hy;exact⟨G1,Ext.refl s2,Rep.mono s1 (zBU r hd (hy xs hS))⟩
theorem zRI{G:Hp}(lo:Int)(k:Nat):ItOk (Itr lo k) G (Mi.nums lo k):=by
 intro i G1 H1 s1 s2;have hl:(Mi.nums lo k).length=k:=by simp[Mi.nums]
 refine⟨fun hi=>by rw[hl]at hi;exact hi,fun hi=>by rw[hl]at hi;exact hi,fun x H2 d hd hy=>?_⟩;obtain⟨rfl,rfl⟩:=hy;refine⟨G1,Ext.refl s2,?_⟩;unfold Mi.nums at hd;rw[qAc]at hd;cases e:(qA4 k)[i]? with
 |none=>rw[e]at hd;cases hd
 |some j=>
  rw[e]at hd;cases hd;have hj:j=i:=by
   obtain⟨h1,h2⟩:=qA2.mp e;rw[qD4]at h2;exact h2.symm
  subst hj;rfl
theorem zD1(A:DA mg E t m 0):DI mg E (zVS t) (Mi.iR1 m) true:=by
 intro G H σ ρ Q s w p;refine A.step errI s w p fun ds vs G1 H1 S T _ fr o p1=>?_
 have r:=o.repL;cases ds with
 |nil=>exact qA8 p1
 |cons hd1 tl1=>
  cases hd1 with
  |int j=>
   cases tl1 with
   |nil=>
    obtain⟨x,rfl,hx⟩:=zE9 r;cases(show x=.int j from hx)
    dsimp only at p1;split at p1
    ·rename_i hz
     exact⟨j,rfl,by lia,by lia,p1 _ G1 H1 fr.ext (zRI 0 _)⟩
    ·exact p1.elim
   |cons _ _=>exact qA8 p1
  |_=>exact qA8 p1
theorem zXH(A:DA mg E t m 0):DI mg E (zVR t) (Mi.iR2 m) true:=by
 intro G H σ ρ Q s w p;refine A.step errI s w p fun ds vs G1 H1 S T _ fr o p1=>?_
 have r:=o.repL;cases ds with
 |nil=>exact p1.elim
 |cons a0 r0=>
  cases a0 with
  |int i=>
   cases r0 with
   |nil=>exact p1.elim
   |cons b0 r1=>
    cases r1 with
    |cons _ _=>cases b0<;>exact p1.elim
    |nil=>
     cases b0 with
     |int j=>
      obtain⟨x,y,rfl,hx,hy⟩:=zSF r;cases(show x=.int i from hx)
      cases(show y=.int j from hy)
      dsimp only at p1;split at p1
      ·rename_i hz
       exact⟨i,j,rfl,⟨by lia,by lia,by lia,by lia⟩,p1 _ G1 H1 fr.ext (zRI i _)⟩
      ·exact p1.elim
     |_=>exact p1.elim
  |_=>rcases r0 with _|⟨_,_|_⟩<;>exact p1.elim
theorem zIY:∀(ds:List Dt)(n:Nat),(Mi.enumD n ds).length=ds.length
 |[],_=>rfl
 |_::r,n=>by rw[Mi.enumD,qAv,qAv,zIY r]
theorem zIZ:∀(ds:List Dt)(n i:Nat)(d:Dt),(Mi.enumD n ds)[i]?=some d->∃e,ds[i]?=some e/\d=.tup [.int ((n+i:Nat):Int),e]
 |[],_,_,_,h=>by simp[Mi.enumD]at h
 |x::r,n,0,d,h=>by simp[Mi.enumD]at h;exact⟨x,by simp,by rw[<- h];rfl⟩
 |x::r,n,i+1,d,h=>by
  rw[Mi.enumD]at h;obtain⟨e,h1,h2⟩:=zIZ r (n+1) i d (by simpa using h);exact⟨e,by simpa using h1,by rw[h2,show n+1+i=n+(i+1) by lia]⟩
theorem Ext.new{G H:Hp}(s:Same G H){T:Addr}(hT:H T=none)(o:HO):Ext G H (upd G T o) (upd H T o):=by
 refine⟨L2.same_new (s.free hT) o,L2.same_new hT o,fun b u e=>?_,fun b hb=>zAL fun z=>hb (z▸hT)⟩
 by_cases z:b=T
 ·subst z;rw[zAM]at e ⊢;exact e
 ·rw[zAL z]at e ⊢;exact s _ _ e
theorem zVP{K:qA1}{G:Hp}{a:Addr}{xs:List V}{ds:List Dt}(ha:G a=some (.lst xs))(r:RepL G ds xs):ItOk (Ite K a) G (Mi.enumD 0 ds):=by
 intro i G1 H1 s1 s2;have hS:SqL K H1 a xs:=SqL.of (s2 _ _ (s1 _ _ ha));rw[zIY];refine⟨fun hi=>⟨xs,xs[i]'(by rw[r.length];exact hi),hS,by simp⟩,fun hi=>⟨xs,hS,by rw[r.length];exact hi⟩,fun x H2 d hd hy=>?_⟩;obtain⟨T,y,rfl,hT,rfl,hy⟩:=hy;obtain⟨e,h1,rfl⟩:=zIZ ds 0 i d hd;have x1:=Ext.new s2 hT (.tup [.int i,y]);refine⟨_,x1,T,_,rfl,zAM,_,_,rfl,?_,_,_,rfl,Rep.mono (s1.trans x1.g) (zBU r h1 (hy xs hS)),rfl⟩;show V.int (i:Int)=.int ((0+i:Nat):Int);rw[qC9]
theorem zXI{K:qA1}(A:DA mg E t m 0):DI mg E (zTK K t) (Mi.iEn m) false:=by
 intro G H σ ρ Q s w p;refine A.step errI s w p fun ds vs G1 H1 S T _ fr o p1=>?_
 have r:=o.repL;cases ds with
 |nil=>exact qA8 p1
 |cons hd1 tl1=>
  cases hd1 with
  |lst es=>
   cases tl1 with
   |nil=>
    obtain⟨x,rfl,a,xs,rfl,ha,ra⟩:=zE9 r;exact⟨⟨xs,SqL.of (fr.ext.in' _ _ ha)⟩,p1 _ G1 H1 fr.ext (zVP ha ra)⟩
   |cons _ _=>exact qA8 p1
  |_=>exact qA8 p1
noncomputable def zFQ:St->List (Nat×V)->St
 |σ,[]=>σ
 |σ,(i,v)::r=>zFQ (σ.set i (some v)) r
inductive BsRep(G:Hp):List (Nat×Dt)->List (Nat×V)->Prop
 |nil:BsRep G [] []
 |cons {i d v bs ws}:Rep G d v->BsRep G bs ws->BsRep G ((i,d)::bs) ((i,v)::ws)
theorem View.set{G:Hp}{σ:St}{ρ:Rh}{i:Nat}{d:Dt}{v:V}(w:View G σ ρ)(r:Rep G d v):View G (σ.set i (some v)) (ρ.set i (some d)):=by
 refine⟨by simp[w.len],fun j e h=>?_,w.tab⟩;have hj:j<ρ.length:=by
  have:=(qA2.mp h).1;simpa using this
 by_cases z:i=j
 ·subst z;rw[qA6 hj]at h;cases h;exact⟨v,qA6 (by rw[<- w.len];exact hj),r⟩
 ·rw[qAa z]at h;obtain⟨u,h1,h2⟩:=w.at j e h;exact⟨u,by rw[qAa z];exact h1,h2⟩
theorem View.sets{G:Hp}{bs ws}(h:BsRep G bs ws):∀{σ:St}{ρ:Rh},View G σ ρ->View G (zFQ σ ws) (zAK ρ bs):=by
 induction h with
 |nil=>exact fun w=>w
 |cons r _ ih=>exact fun w=>ih (w.set r)
def TgOk(g:TG)(tg:Tg):Prop:=∀(G H:Hp)(σ:St)(d:Dt)(x:V)(bs:List (Nat×Dt))(Q:St->Hp->Prop),Same G H->Rep G d x->bindT tg d=some bs->(∀ws,BsRep G bs ws->Q (zFQ σ ws) H)->g x σ H Q
def zQT(g:TGs)(is:List Nat):Prop:=∀(G H:Hp)(σ:St)(ds:List Dt)(xs:List V)(Q:St->Hp->Prop),RepL G ds xs->ds.length=is.length->(∀ws,BsRep G (is.zip ds) ws->Q (zFQ σ ws) H)->g xs σ H Q
theorem zAT(i:Nat):TgOk (zEH i) (.one i):=by
 intro G H σ d x bs Q s r e h;cases e;exact h [(i,x)] (.cons r .nil)
theorem zMF:zQT gNil []:=by
 intro G H σ ds xs Q r hl h;cases ds with
 |nil=>cases(show xs=[] from r);exact⟨rfl,h [] .nil⟩
 |cons _ _=>simp at hl
theorem zFC(i:Nat){g:TGs}{is:List Nat}(hg:zQT g is):zQT (zVU (zEH i) g) (i::is):=by
 intro G H σ ds xs Q r hl h;cases ds with
 |nil=>simp at hl
 |cons d ds=>
  obtain⟨x,q,rfl,a,b⟩:=r;exact⟨x,q,rfl,hg G H _ ds q Q b (by simpa using hl) fun ws hw=>h ((i,x)::ws) (.cons a hw)⟩
theorem zQY{K:qA1}{g:TGs}{is:List Nat}{k:Nat}(hg:zQT g is)(hk:is.length=k):TgOk (gTup K k g) (.tup is):=by
 intro G H σ d x bs Q s r e h;cases d with
 |tup ds=>
  obtain⟨a,xs,rfl,ha,ra⟩:=r;rw[bindT]at e;by_cases hz:ds.length=is.length
  ·rw[if_pos hz]at e;cases e;exact⟨a,xs,rfl,SqT.of (s _ _ ha),by rw[ra.length,hz,hk],hg G H σ ds xs Q ra hz h⟩
  ·rw[if_neg hz]at e;cases e
 |_=>simp[bindT]at e
theorem zIF:∀(ws:List (Nat×V))(σ own:St),(∀p∈ws,σ.length<=p.1)->∃own':St,own'.length=own.length/\zFQ (σ++own) ws=σ++own'
 |[],σ,own,_=>⟨own,rfl,rfl⟩
 |(i,v)::r,σ,own,h=>by
  have hi:σ.length<=i:=h (i,v) (by simp);rw[zFQ,qC0 _ _ hi];obtain⟨o,h1,h2⟩:=zIF r σ (own.set (i-σ.length) (some v)) fun p hp=>h p (by simp[hp])
  exact⟨o,by rw[h1,qF5],h2⟩
theorem BsRep.idx{G:Hp}{bs ws}(h:BsRep G bs ws):ws.map (·.1)=bs.map (·.1):=by
 induction h with
 |nil=>rfl
 |cons _ _ ih=>simp[ih]
theorem zOI{tg:Tg}{d:Dt}{bs:List (Nat×Dt)}(h:bindT tg d=some bs):∀i∈bs.map (·.1),i∈tg.idx:=by
 cases tg with
 |one i=>cases h;simp[Tg.idx]
 |tup is=>
  cases d with
  |tup ds=>
   rw[bindT]at h;split at h
   ·cases h;intro i hi;obtain⟨p,hp,e⟩:=qAq.mp hi;rw[<- e];obtain⟨a,b⟩:=p;exact(qCv hp).1
   ·cases h
  |_=>simp[bindT]at h
theorem zAU{wi:TI}{g:TG}{tif:TT}{it:IM}{tg:Tg}{c:TM}(I:DI mg E wi it ind)(hT:TgOk g tg)(C:DT mg E tif c)(B:DE mg E te me n):DE mg E (zMJ wi k g tif te) (Mi.eComp it k tg c me) (n+1):=by
 intro G H σ ρ Q s w p;refine I.step errE s w p fun ds J G1 H1 _ x1 io p1=>?_
 by_cases hz:ds.length<=100000/\(tg.idx.all fun i=>decide (ρ.length<=i))=true
 case neg=>rw[if_neg hz]at p1;exact p1.elim
 rw[if_pos hz]at p1;obtain⟨hz,hix⟩:=hz;have hb1:Same (zOJ ind G1) G1:=by
  unfold zOJ;split
  ·exact fun b o e=>by cases e
  ·exact Same.refl _
 refine⟨fun i m acc H'=>m=ds.length-i/\i<=ds.length/\∃G' as S T,Fr G H G' H' S/\Same G1 G'/\OwnA G' H' n S as acc T/\as.length<=i/\PostE mg E G H (n+1) (zA3 (Mi.compGo ρ k tg c me (ds.drop i) as) fun es=>okR (.lst es)) Q,
  ⟨_,rfl,qAh _,G1,[],fun _=>False,fun _ _=>False,⟨x1,fun _ z=>z.elim⟩,Same.refl _,⟨rfl,fun q d x h=>by simp at h,fun _ _ _ z=>z.elim,fun _ _ z=>z.elim⟩,qA9 _,by rw[qCk];exact p1⟩,?_⟩
 rintro i m acc H' ⟨rfl,hi,G',as,S,T,fr,sg,o,hl,p⟩
 obtain⟨j1,j2,j3⟩:=io i G' H' (hb1.trans sg) fr.ext.in';by_cases hlt:i<ds.length
 ·refine .inr ⟨j1 hlt,by rw[o.len];exact L2.big (by lia),fun acc' H''=>ds.length-(i+1)=ds.length-(i+1)/\i+1<=ds.length/\∃G' as S T,Fr G H G' H'' S/\Same G1 G'/\OwnA G' H'' n S as acc' T/\as.length<=i+1/\PostE mg E G H (n+1) (zA3 (Mi.compGo ρ k tg c me (ds.drop (i+1)) as) fun es=>okR (.lst es)) Q,
   fun acc' H'' q=>⟨ds.length-(i+1),by lia,q⟩,fun x H2 hy=>?_⟩
  have hd:ds[i]?=some ds[i]:=qA5 hlt;obtain⟨G2,x2,r2⟩:=j3 x H2 ds[i] hd hy;rw[qAy hlt,Mi.compGo]at p;cases eb:bindT tg ds[i]with
  |none=>rw[eb]at p;exact p.elim
  |some bs=>
   rw[eb]at p;dsimp only at p;refine hT G2 H2 _ _ x bs _ x2.in' r2 eb fun ws hb=>?_
   have hsl:∀q∈ws,σ.length<=q.1:=fun q hq=>by
    have h1:q.1∈bs.map (·.1):=by rw[<- hb.idx];exact List.mem_map_of_mem hq
    have h2:=qDn.mp hix q.1 (zOI eb q.1 h1);rw[<- w.len];exact of_decide_eq_true h2
   obtain⟨own,ho1,ho2⟩:=zIF ws σ (qA7 k none) hsl;refine⟨own,by rw[ho1,qBo],ho2,?_⟩;have x02:=fr.ext.trans x2;have w2:View G2 (zFQ (σ++qA7 k none) ws) (zAK (ρ++qA7 k none) bs):=by
    refine View.sets hb ⟨by simp[w.len],fun j d h=>?_,w.tab.trans x02.g⟩
    by_cases hj:j<ρ.length
    ·rw[qAd hj]at h;obtain⟨v,a,b⟩:=w.at j d h;exact⟨v,by rw[qAd (by rw[<- w.len];exact hj)];exact a,Rep.mono x02.g b⟩
    ·rw[qAe (by lia),qB2]at h
     split at h<;>cases h
   refine C.step ((errB errE _).from x02) x2.in' w2 p fun b H3 _ s3 p3=>?_
   have x3:Ext G2 H2 G2 H3:=Ext.same x2.in' s3;have x03:=x02.trans x3;have newS:∀a,S a->H a=none/\G2 a=none/\H3 a≠none:=fun a ha=>by
    obtain⟨n1,n2,n3⟩:=fr.new a ha;exact⟨n1,(x2.old a n3).trans n2,s3.some (x2.h.some n3)⟩
   have own3:OwnA G2 H3 n S as acc T:=⟨o.len,fun q d y h1 h2=>(o.own q d y h1 h2).mono x2.g (x2.h.trans s3),o.dis,o.sub⟩
   cases b with
   |false=>exact⟨rfl,hlt,G2,as,S,T,⟨x03,newS⟩,sg.trans x2.g,own3,by lia,p3⟩
   |true=>
    refine B.step ((errB errE _).from x03) x3.in' w2 p3 fun e v G4 H4 S4 _ fr4 o4 p4=>?_
    have ap:∀q b,T q b->S4 b->False:=fun q b h1 h2=>(newS b (o.sub q b h1)).2.2 (fr4.new b h2).1
    refine⟨rfl,hlt,G4,as++[e],fun a=>S a\/S4 a,fun q b=>(q<as.length/\T q b)\/(q=as.length/\S4 b),⟨x03.trans fr4.ext,fun a ha=>?_⟩,sg.trans (x2.g.trans fr4.ext.g),⟨by simp[o.len],fun q d y h1 h2=>?_,fun q r b h1 h2=>?_,fun q b h=>?_⟩,by simp;lia,p4⟩
    ·rcases ha with ha|ha
     ·obtain⟨n1,n2,n3⟩:=newS a ha;exact⟨n1,(fr4.ext.old a n3).trans n2,fr4.ext.h.some n3⟩
     ·obtain⟨n1,n2,n3⟩:=fr4.new a ha;exact⟨x03.h.free n1,n2,n3⟩
    ·by_cases hq:q<as.length
     ·rw[qAd hq]at h1;rw[qAd (by rw[o.len];exact hq)]at h2;exact((own3.own q d y h1 h2).mono fr4.ext.g fr4.ext.h).sub fun b z=>.inl ⟨hq,z⟩
     ·rw[qAe (by lia)]at h1;rw[qAe (by rw[o.len];lia),o.len]at h2;have hq0:q-as.length=0:=by
       have:=(qA2.mp h1).1;simp at this;lia
      rw[hq0]at h1 h2;simp at h1 h2;subst h1;subst h2;exact o4.sub fun b z=>.inr ⟨by lia,z⟩
    ·rcases h1 with⟨a1,t1⟩|⟨a1,t1⟩<;>rcases h2 with⟨a2,t2⟩|⟨a2,t2⟩
     ·exact o.dis q r b t1 t2
     ·exact(ap q b t1 t2).elim
     ·exact(ap r b t2 t1).elim
     ·lia
    ·rcases h with⟨_,z⟩|⟨_,z⟩
     ·exact .inl (o.sub q b z)
     ·exact .inr z
 ·have e:i=ds.length:=by lia
  subst e;refine .inl ⟨j2 (qA9 _),fun D hD=>?_⟩;rw[qC6,Mi.compGo]at p;exact p (.ref D) G' _ _ (fr.add hD _) ⟨D,acc,T,rfl,zAM,o.kids (fun b hb=>(fr.new b hb).2.2) hD _⟩
end
end
section
variable[Kc]
structure Sat(G0 H0 S0:Hp)(σ:St)(ρ:Ro)(G H:Hp)(As:Nat->Addr->Prop):Prop where
 ext:Ext G0 H0 G H
 stb:Same S0 G
 tab:Same (tabK Kc.K) G0
 len:ρ.length=σ.length
 «at»:∀(i:Nat)(d:Dt)(n:Nat),ρ[i]?=some (some (d,n))->∃v,σ[i]?=some (some v)/\Own G H n (As i) d v
 dis:∀i j a,As i a->As j a->i=j
 new:∀i a,As i a->H0 a=none/\G a=none/\H a≠none
section
variable{G0 H0 S0:Hp}{σ:St}{ρ:Ro}{G H:Hp}{As:Nat->Addr->Prop}
theorem Sat.grow(a:Sat G0 H0 S0 σ ρ G H As){H':Hp}(s:Same H H'):Sat G0 H0 S0 σ ρ G H' As:=
 ⟨a.ext.trans (Ext.same a.ext.in' s),a.stb,a.tab,a.len,fun i d n e=>let⟨v,h1,h2⟩:=a.at i d n e;⟨v,h1,h2.mono (Same.refl _) s⟩,a.dis,fun i b h=>let⟨n1,n2,n3⟩:=a.new i b h;⟨n1,n2,s.some n3⟩⟩
theorem Sat.wider(a:Sat G0 H0 S0 σ ρ G H As){G' H':Hp}(x:Ext G H G' H'):Sat G0 H0 S0 σ ρ G' H' As:=
 ⟨a.ext.trans x,a.stb.trans x.g,a.tab,a.len,fun i d n e=>let⟨v,h1,h2⟩:=a.at i d n e;⟨v,h1,h2.mono x.g x.h⟩,a.dis,fun i b h=>let⟨n1,n2,n3⟩:=a.new i b h;⟨n1,(x.old b n3).trans n2,x.h.some n3⟩⟩
theorem Sat.full(a:Sat G0 H0 S0 σ ρ G H As):∃J,Ext G0 H0 J H/\Same G J/\View J σ (full ρ):=by
 obtain⟨s1,s2⟩:=zDB (S:=fun b=>∃i,As i b) a.ext.in';refine⟨over G H fun b=>∃i,As i b,⟨a.ext.g.trans s1,a.ext.h,s2,fun b hb=>?_⟩,s1,by simp[Mi.full,a.len],fun i d e=>?_,a.tab.trans (a.ext.g.trans s1)⟩
 ·have z:¬ ∃i,As i b:=fun⟨i,z⟩=>hb (a.new i b z).1
  rw[zC9 z];exact a.ext.old b hb
 ·unfold Mi.full at e;rw[qAc]at e;cases e1:ρ[i]? with
  |none=>rw[e1]at e;cases e
  |some o=>
   rw[e1]at e;cases o with
   |none=>cases e
   |some sl=>
    obtain⟨d',n⟩:=sl;cases e;obtain⟨v,h1,h2⟩:=a.at i _ n e1;exact⟨v,h1,h2.rep s1 fun b o hb e=>by rw[zE0 ⟨i,hb⟩];exact e⟩
theorem Sat.put(a:Sat G0 H0 S0 σ ρ G H As){i n:Nat}{d:Dt}{v:V}{S:Addr->Prop}(o:Own G H n S d v)(hS:∀b,S b->H0 b=none/\G b=none/\H b≠none)(hd:∀j b,j≠i->As j b->S b->False) :
  Sat G0 H0 S0 (σ.set i (some v)) (ρ.set i (some (d,n))) G H (fun j=>if j=i then S else As j):=by
 refine⟨a.ext,a.stb,a.tab,by simp[a.len],fun j e k h=>?_,fun j l b h1 h2=>?_,fun j b h=>?_⟩
 ·have hj:j<ρ.length:=by
   have:=(qA2.mp h).1;simpa using this
  by_cases z:i=j
  ·subst z;rw[qA6 hj]at h;cases h;exact⟨v,qA6 (by rw[<- a.len];exact hj),by rw[if_pos rfl];exact o⟩
  ·rw[qAa z]at h;obtain⟨u,h1,h2⟩:=a.at j e k h;exact⟨u,by rw[qAa z];exact h1,by rw[if_neg (fun q=>z q.symm)];exact h2⟩
 ·try dsimp only at h1 h2
  by_cases z1:j=i
  ·by_cases z2:l=i
   ·rw[z1,z2]
   ·rw[if_pos z1]at h1;rw[if_neg z2]at h2;exact(hd l b z2 h2 h1).elim
  ·by_cases z2:l=i
   ·rw[if_neg z1]at h1;rw[if_pos z2]at h2;exact(hd j b z1 h1 h2).elim
   ·rw[if_neg z1]at h1;rw[if_neg z2]at h2;exact a.dis j l b h1 h2
 ·try dsimp only at h
  by_cases z1:j=i
  ·rw[if_pos z1]at h;exact hS b h
  ·rw[if_neg z1]at h;exact a.new j b h
theorem Sat.set(a:Sat G0 H0 S0 σ ρ G H As){H':Hp}{i n:Nat}{d:Dt}{v:V}{S:Addr->Prop}(s:Same H H')(o:Own G H' n S d v)(hS:∀b,S b->H b=none/\G b=none/\H' b≠none) :
  Sat G0 H0 S0 (σ.set i (some v)) (ρ.set i (some (d,n))) G H' (fun j=>if j=i then S else As j):=
 (a.grow s).put o (fun b hb=>⟨a.ext.h.free (hS b hb).1,(hS b hb).2⟩) fun j b _ h1 h2=>(a.new j b h1).2.2 (hS b h2).1
theorem Sat.frz1(a:Sat G0 H0 S0 σ ρ G H As)(i:Nat):∃G1 As1,Sat G0 H0 S0 σ (Mi.frz1 i ρ) G1 H As1:=by
 unfold Mi.frz1;cases e1:ρ[i]? with
 |none=>exact⟨G,As,a⟩
 |some o=>
  cases o with
  |none=>exact⟨G,As,a⟩
  |some sl=>
   obtain⟨d,n⟩:=sl;dsimp only;obtain⟨v,h1,h2⟩:=a.at i d n e1;obtain⟨s1,s2⟩:=zDB (S:=As i) a.ext.in';have x:Ext G0 H0 (over G H (As i)) H:=⟨a.ext.g.trans s1,a.ext.h,s2,fun b hb=>by
    have z:¬As i b:=fun z=>hb (a.new i b z).1
    rw[zC9 z];exact a.ext.old b hb⟩
   have hv:(σ.set i (some v))=σ:=by
    have hi:i<σ.length:=(qA2.mp h1).1;have he:=(qA2.mp h1).2;rw[<- he,qCl]
   have b:Sat G0 H0 S0 σ (ρ.set i (some (d,0))) (over G H (As i)) H (fun j b=>j≠i/\As j b):=by
    refine⟨x,a.stb.trans s1,a.tab,by simp[a.len],fun j e k h=>?_,fun j l b p q=>a.dis j l b p.2 q.2,fun j b p=>?_⟩
    ·have hj:j<ρ.length:=by
      have:=(qA2.mp h).1;simpa using this
     by_cases z:i=j
     ·subst z;rw[qA6 hj]at h;cases h;exact⟨v,h1,h2.rep s1 fun b o hb e=>by rw[zE0 hb];exact e⟩
     ·rw[qAa z]at h;obtain⟨u,q1,q2⟩:=a.at j e k h;exact⟨u,q1,(q2.mono s1 (Same.refl _)).sub fun b hb=>⟨fun q=>z q.symm,hb⟩⟩
    ·obtain⟨n1,n2,n3⟩:=a.new j b p.2;have z:¬As i b:=fun z=>p.1 (a.dis j i b p.2 z)
     exact⟨n1,by rw[zC9 z];exact n2,n3⟩
   exact⟨_,_,b⟩
theorem Sat.frzAt:∀(vs:List Nat){ρ:Ro}{G:Hp}{As:Nat->Addr->Prop},Sat G0 H0 S0 σ ρ G H As->∃G1 As1,Sat G0 H0 S0 σ (Mi.frzAt vs ρ) G1 H As1
 |[],_,_,_,a=>⟨_,_,a⟩
 |i::r,_,_,_,a=>by
  obtain⟨G1,As1,b⟩:=a.frz1 i;exact Sat.frzAt r b
theorem Sat.frz(a:Sat G0 H0 S0 σ ρ G H As):View G σ (Mi.frz ρ):=by
 refine⟨by simp[Mi.frz,a.len],fun i d e=>?_,a.tab.trans a.ext.g⟩;unfold Mi.frz at e;rw[qAc]at e;cases e1:ρ[i]? with
 |none=>rw[e1]at e;cases e
 |some o=>
  rw[e1]at e;cases o with
  |none=>cases e
  |some sl=>
   obtain⟨d',n⟩:=sl;obtain⟨v,h1,h2⟩:=a.at i d' n e1;simp only[qCc,qEr]at e;split at e
   ·rename_i hz
    cases e;rcases hz with hz|hz
    ·subst hz;exact⟨v,h1,h2⟩
    ·exact⟨v,h1,Own.scalar (k:=0) (G2:=G) (H2:=H) (S2:=fun _=>False) h2 hz⟩
   ·cases e
theorem Sat.store(a:Sat G0 H0 S0 σ ρ G H As){i n:Nat}{d:Dt}{v:V}{p:Addr}{o:HO}{S:Addr->Prop}(hp:As i p)(hv:σ[i]?=some (some v))(w:Own G (upd H p o) n S d v)
  (hS:∀b,S b->As i b\/(H0 b=none/\G b=none/\H b≠none/\∀j,¬As j b)):Sat G0 H0 S0 σ (ρ.set i (some (d,n))) G (upd H p o) (fun j=>if j=i then S else As j):=by
 obtain⟨p1,p2,p3⟩:=a.new i p hp;have hn:∀b,H b≠none->upd H p o b≠none:=fun b hb=>by
  by_cases z:b=p
  ·subst z;rw[zAM];simp
  ·rw[zAL z];exact hb
 refine⟨⟨a.ext.g,L2.Same.upd a.ext.h p1 o,L2.Same.upd a.ext.in' p2 o,a.ext.old⟩,a.stb,a.tab,by simp[a.len],fun j e k h=>?_,fun j l b h1 h2=>?_,fun j b h=>?_⟩
 ·have hj:j<ρ.length:=by
   have:=(qA2.mp h).1;simpa using this
  by_cases z:i=j
  ·subst z;rw[qA6 hj]at h;cases h;exact⟨v,hv,by rw[if_pos rfl];exact w⟩
  ·rw[qAa z]at h;obtain⟨u,h1,h2⟩:=a.at j e k h;exact⟨u,h1,by rw[if_neg (fun q=>z q.symm)];exact h2.upd fun q=>z (a.dis i j p hp q)⟩
 ·have key:∀j b,j≠i->As j b->S b->False:=fun j b hj h1 h2=>by
   rcases hS b h2 with q|⟨_,_,_,q⟩
   ·exact hj (a.dis j i b h1 q)
   ·exact q j h1
  try dsimp only at h1 h2
  by_cases z1:j=i
  ·by_cases z2:l=i
   ·rw[z1,z2]
   ·rw[if_pos z1]at h1;rw[if_neg z2]at h2;exact(key l b z2 h2 h1).elim
  ·by_cases z2:l=i
   ·rw[if_neg z1]at h1;rw[if_pos z2]at h2;exact(key j b z1 h1 h2).elim
   ·rw[if_neg z1]at h1;rw[if_neg z2]at h2;exact a.dis j l b h1 h2
 ·try dsimp only at h
  by_cases z1:j=i
  ·rw[if_pos z1]at h
   rcases hS b h with q|⟨q1,q2,q3,_⟩
   ·obtain⟨n1,n2,n3⟩:=a.new i b q;exact⟨n1,n2,hn b n3⟩
   ·exact⟨q1,q2,hn b q3⟩
  ·rw[if_neg z1]at h;obtain⟨n1,n2,n3⟩:=a.new j b h;exact⟨n1,n2,hn b n3⟩
end
def zCS(mg:Str->Option Value)(E:XK)(G0 H0 S0:Hp)(L:Nat)(r:R Out)(D:Ends):Prop:=match r with
 |none=>False
 |some (.error x)=>∀c da G' H',Ext G0 H0 G' H'->XRep mg x c da G' H'->E c da H'
 |some (.ok (.nx ρ))=>∀σ G H As,Sat G0 H0 S0 σ ρ G H As->D.nx σ H
 |some (.ok (.bk ρ))=>∀σ G H As,Sat G0 H0 S0 σ ρ G H As->D.bk σ H
 |some (.ok (.ct ρ))=>∀σ G H As,Sat G0 H0 S0 σ ρ G H As->D.ct σ H
 |some (.ok (.rt d))=>∀v G H S,Fr G0 H0 G H S->Own G H L S d v->D.rt v H
def DS(mg:Str->Option Value)(E:XK)(L:Nat)(t:TS)(m:SM):Prop:=∀(G0 H0 S0:Hp)(σ:St)(ρ:Ro)(G H:Hp)(As:Nat->Addr->Prop)(D:Ends),Sat G0 H0 S0 σ ρ G H As->zCS mg E G0 H0 S0 L (m ρ) D->t D σ H
section
variable{mg:Str->Option Value}{E:XK}{L n k l:Nat}{te ta tb:TE}{e ea eb:EM}{t u:TS}{m m':SM}
theorem errS{G0 H0 S0:Hp}{D:Ends}:Err mg E G0 H0 (fun r=>zCS mg E G0 H0 S0 L r D):=⟨fun h=>h,fun _ h=>h⟩
theorem zD4:DS mg E L zUB Mi.sNil:=fun G0 H0 S0 σ ρ G H As D a p=>p σ G H As a
theorem zAJ(A:DS mg E L t m)(B:DS mg E L u m'):DS mg E L (tSeq t u) (Mi.sSeq m m'):=by
 intro G0 H0 S0 σ ρ G H As D a p;refine A G0 H0 S0 σ ρ G H As _ a ?_;unfold Mi.sSeq at p;cases e:m ρ with
 |none=>rw[e]at p;exact p
 |some r=>
  rw[e]at p;cases r with
  |error x=>exact p
  |ok o=>
   cases o with
   |nx ρ'=>exact fun σ' G' H' As' a'=>B G0 H0 S0 σ' ρ' G' H' As' D a' p
   |rt d=>exact p
   |bk ρ'=>exact p
   |ct ρ'=>exact p
theorem zEK{tc:TT}{c:TM}(C:DT mg E tc c)(A:DS mg E L t m)(B:DS mg E L u m'):DS mg E L (tIfS tc t u) (Mi.sIf c m m'):=by
 intro G0 H0 S0 σ ρ G H As D a p;obtain⟨J,x,s,w⟩:=a.full;refine C.step (errS.from x) x.in' w p fun b H' _ sH p1=>?_
 cases b with
 |true=>exact A G0 H0 S0 σ ρ G H' As D (a.grow sH) p1
 |false=>exact B G0 H0 S0 σ ρ G H' As D (a.grow sH) p1
theorem whole{G0 H0 S0:Hp}{σ:St}{ρ:Ro}{G H J G1 H1:Hp}{As:Nat->Addr->Prop}{S:Addr->Prop}{d:Dt}{v:V}(a:Sat G0 H0 S0 σ ρ G H As)(s:Same G J)(fr:Fr J H G1 H1 S)(o:Own G1 H1 n S d v)(hn:n<1000)(hd:d.dep<=n)(hk:d.dep<=k) :
  Own G H1 k S d v/\∀b,S b->H b=none/\G b=none/\H1 b≠none:=
 ⟨o.at hd hk hn,fun b hb=>let⟨n1,n2,n3⟩:=fr.new b hb;⟨n1,a.ext.in'.free n1,n3⟩⟩
theorem zAQ{i:Nat}(vs:List Nat)(A:DE mg E te e n)(hn:n<1000:=by decide):DS mg E L (tAsg te (zEH i)) (Mi.sSet i n vs e):=by
 intro G0 H0 S0 σ ρ G H As D a p;obtain⟨J,x,s,w⟩:=a.full;unfold Mi.sSet at p;cases ee:e (full ρ)with
 |none=>rw[ee]at p;exact p.elim
 |some r=>
  cases r with
  |error y=>exact A.step (errS.from x) x.in' w p fun d v G1 H1 S e1 fr o p1=>by rw[ee]at e1;cases e1
  |ok d=>
   by_cases hd:d.dep<=n
   ·refine A.step (errS.from x) x.in' w p fun d' v G1 H1 S e1 fr o p1=>?_
    rw[ee]at e1;cases e1;rw[if_pos hd]at p1;obtain⟨q1,q2⟩:=whole (k:=n) a s fr o hn hd hd;exact p1 _ G H1 _ (a.set fr.ext.h q1 q2)
   ·rw[ee]at p;have p':zCS mg E G0 H0 S0 L (zA3 (e (frz (frzAt vs ρ))) fun d'=>okR (.nx ((frzAt vs ρ).set i (some (d',n))))) D:=by
     have p2:zCS mg E G0 H0 S0 L (if d.dep<=n then okR (.nx (ρ.set i (some (d,n))))else zA3 (e (frz (frzAt vs ρ))) fun d'=>okR (.nx ((frzAt vs ρ).set i (some (d',n))))) D:=p;rw[if_neg hd]at p2;exact p2
    obtain⟨G1,As1,a1⟩:=Sat.frzAt vs a;refine A.step (errS.from a1.ext) a1.ext.in' a1.frz p' fun d' v G2 H2 S _ fr o p1=>?_
    exact p1 _ G2 H2 _ ((a1.wider fr.ext).put o (fun b hb=>let⟨n1,n2,n3⟩:=fr.new b hb;⟨a1.ext.h.free n1,n2,n3⟩) fun j b _ h1 h2=>(a1.new j b h1).2.2 (fr.new b h2).1)
theorem zBJ(vs:List Nat)(A:DE mg E te e n)(hn:n<1000:=by decide):DS mg E L (tRet te) (Mi.sRet L n vs e):=by
 intro G0 H0 S0 σ ρ G H As D a p;obtain⟨J,x,s,w⟩:=a.full;unfold Mi.sRet at p;cases ee:e (full ρ)with
 |none=>rw[ee]at p;exact p.elim
 |some r=>
  cases r with
  |error y=>exact A.step (errS.from x) x.in' w p fun d v G1 H1 S e1 fr o p1=>by rw[ee]at e1;cases e1
  |ok d=>
   by_cases hd:d.dep<=n/\d.dep<=L
   ·refine A.step (errS.from x) x.in' w p fun d' v G1 H1 S e1 fr o p1=>?_
    rw[ee]at e1;cases e1;rw[if_pos hd]at p1;exact p1 v G1 H1 S (Fr.from x fr) (o.at hd.1 hd.2 hn)
   ·rw[ee]at p;have p2:zCS mg E G0 H0 S0 L (if d.dep<=n/\d.dep<=L then okR (.rt d)else if n=L then zA3 (e (frz (frzAt vs ρ))) fun d'=>okR (.rt d')else none) D:=p;rw[if_neg hd]at p2
    by_cases hl:n=L
    ·rw[if_pos hl]at p2;subst hl;obtain⟨G1,As1,a1⟩:=Sat.frzAt vs a;refine A.step (errS.from a1.ext) a1.ext.in' a1.frz p2 fun d' v G2 H2 S _ fr o p1=>?_
     exact p1 v G2 H2 S (Fr.from a1.ext fr) o
    ·rw[if_neg hl]at p2;exact p2.elim
theorem zHU(i:Nat):DS mg E L (tRet (vM i)) (Mi.sRetV L i):=by
 intro G0 H0 S0 σ ρ G H As D a p;unfold Mi.sRetV at p;cases e1:ρ[i]? with
 |none=>rw[e1]at p;exact p.elim
 |some o=>
  rw[e1]at p;cases o with
  |none=>exact p.elim
  |some sl=>
   obtain⟨d,k⟩:=sl;obtain⟨v,h1,h2⟩:=a.at i d k e1;show vM i σ H D.rt;unfold vM;rw[h1];dsimp only at p;split at p
   ·rename_i hz
    rcases hz with hz|hz|hz
    ·subst hz;exact p v G H (As i) ⟨a.ext,fun b hb=>a.new i b hb⟩ h2
    ·subst hz;obtain⟨s1,s2⟩:=zDB (S:=As i) a.ext.in';refine p v (over G H (As i)) H (fun _=>False) ⟨⟨a.ext.g.trans s1,a.ext.h,s2,fun b hb=>?_⟩,fun _ z=>z.elim⟩ (h2.rep s1 fun b o hb e=>by rw[zE0 hb];exact e);have z:¬As i b:=fun z=>hb (a.new i b z).1
     rw[zC9 z];exact a.ext.old b hb
    ·exact p v G H (As i) ⟨a.ext,fun b hb=>a.new i b hb⟩ (h2.at hz.1 hz.2.1 hz.2.2)
   ·exact p.elim
theorem Sat.puts{G0 H0 S0 G H:Hp}{bs:List (Nat×Dt)}{ws:List (Nat×V)}(h:BsRep G bs ws):∀{σ:St}{ρ:Ro}{As:Nat->Addr->Prop},Sat G0 H0 S0 σ ρ G H As->∃As',Sat G0 H0 S0 (zFQ σ ws) (zAP ρ bs) G H As':=by
 induction h with
 |nil=>exact fun a=>⟨_,a⟩
 |cons r _ ih=>exact fun a=>ih (a.put (n:=0) (S:=fun _=>False) r (fun _ z=>z.elim) fun _ _ _ _ z=>z.elim)
theorem zW1(i:Nat)(A:DE mg E te e n)(hn:n<1000:=by decide):DS mg E L (zLK (tML appM (vM i) (zFA te tNil))) (Mi.sApp i n e):=by
 intro G0 H0 S0 σ ρ G H As D a p;obtain⟨J,x,s,w⟩:=a.full;unfold Mi.sApp at p;cases e1:ρ[i]? with
 |none=>rw[e1]at p;exact p.elim
 |some o=>
  rw[e1]at p
  match o,e1,p with
  |none,_,p=>exact p.elim
  |some (.lst ds,k+1),e1,p=>
   obtain⟨v,h1,q,xs,T,rfl,hq,kd⟩:=a.at i _ _ e1;unfold zLK tML vM;rw[h1];refine⟨xs,hq,?_⟩;refine A.step (errS.from x) x.in' w p fun d y G1 H1 S _ fr o p1=>?_
   split at p1
   ·rename_i hz
    obtain⟨q1,q2⟩:=whole (k:=k) a s fr o hn hz.2.1 hz.2.2;refine⟨xs,fr.ext.h _ _ hq,by rw[kd.len];exact L2.big (by lia),?_⟩;have hp:=kd.top;have a1:=a.grow fr.ext.h;have nS:¬S q:=fun z=>(a.new i q hp).2.2 (q2 q z).1
    have ap:∀r b,T r b->S b->False:=fun r b h1 h2=>(a.new i b (kd.sub r b h1)).2.2 (q2 b h2).1
    refine p1 σ G _ _ (a1.store (S:=fun b=>As i b\/S b) hp h1 ⟨q,_,fun r b=>(r<ds.length/\T r b)\/(r=ds.length/\S b),rfl,zAM,⟨by simp[kd.len],fun r d' z g1 g2=>?_,.inl hp,fun r z=>?_,fun r r' b z1 z2=>?_,fun r b z=>?_⟩⟩ fun b z=>?_)
    ·by_cases hr:r<ds.length
     ·rw[qAd hr]at g1;rw[qAd (by rw[kd.len];exact hr)]at g2;exact(((kd.own r d' z g1 g2).mono (Same.refl _) fr.ext.h).upd (kd.out r)).sub fun b z=>.inl ⟨hr,z⟩
     ·rw[qAe (by lia)]at g1;rw[qAe (by rw[kd.len];lia),kd.len]at g2;have hq0:r-ds.length=0:=by
       have:=(qA2.mp g1).1;simp at this;lia
      rw[hq0]at g1 g2;simp at g1 g2;subst g1;subst g2;exact(q1.upd nS).sub fun b z=>.inr ⟨by lia,z⟩
    ·rcases z with⟨_,z⟩|⟨_,z⟩
     ·exact kd.out r z
     ·exact nS z
    ·rcases z1 with⟨c1,t1⟩|⟨c1,t1⟩<;>rcases z2 with⟨c2,t2⟩|⟨c2,t2⟩
     ·exact kd.dis r r' b t1 t2
     ·exact(ap r b t1 t2).elim
     ·exact(ap r' b t2 t1).elim
     ·lia
    ·rcases z with⟨_,z⟩|⟨_,z⟩
     ·exact .inl (kd.sub r b z)
     ·exact .inr z
    ·rcases z with z|z
     ·exact .inl z
     ·obtain⟨n1,n2,n3⟩:=q2 b z;exact .inr ⟨a.ext.h.free n1,n2,n3,fun j y=>(a.new j b y).2.2 n1⟩
   ·exact p1.elim
  |some (.lst ds,0),_,p=>exact p.elim
  |some (.non,_),_,p=>exact p.elim
  |some (.bl _,_),_,p=>exact p.elim
  |some (.int _,_),_,p=>exact p.elim
  |some (.str _,_),_,p=>exact p.elim
  |some (.tup _,_),_,p=>exact p.elim
  |some (.scr _,_),_,p=>exact p.elim
  |some (.exc _ _ _,_),_,p=>exact p.elim
  |some (.fn _ _,_),_,p=>exact p.elim
  |some (.dcr _ _,_),_,p=>exact p.elim
  |some (.dsk _ _,_),_,p=>exact p.elim
  |some (.fnc _,_),_,p=>exact p.elim
  |some (.dtt _ _,_),_,p=>exact p.elim
  |some (.loc _ _,_),_,p=>exact p.elim
  |some (.ins _ _,_),_,p=>exact p.elim
  |some (.dct _,_),_,p=>exact p.elim
end
end
section
variable[Kc]{mg:Str->Option Value}{E:XK}{L n k l:Nat}{te ta tb:TE}{e ea eb:EM}{t u:TS}{m m':SM}
theorem Kids.set{G H:Hp}{S:Addr->Prop}{a p:Addr}{ds:List Dt}{xs:List V}{T:Nat->Addr->Prop}{S':Addr->Prop}{d:Dt}{v:V}{o:HO}(k:Kids (Own G H n) S a ds xs T)(q:Nat)(w:Own G (upd H p o) n S' d v)(hp:∀r,r≠q->¬T r p)(ha:¬S' a)
  (hd:∀r b,r≠q->T r b->S' b->False):Kids (Own G (upd H p o) n) (fun b=>S b\/S' b) a (ds.set q d) (xs.set q v) (fun r b=>if r=q then S' b else T r b):=by
 refine⟨by simp[k.len],fun r d' x h1 h2=>?_,.inl k.top,fun r=>?_,fun r r' b z1 z2=>?_,fun r b z=>?_⟩
 ·by_cases z:q=r
  ·subst z;have h:q<ds.length:=by
    have:=(qA2.mp h1).1;simpa using this
   rw[qA6 h]at h1;rw[qA6 (by rw[k.len];exact h)]at h2;cases h1;cases h2;exact w.sub fun b hb=>by rw[if_pos rfl];exact hb
  ·rw[qAa z]at h1 h2;exact((k.own r d' x h1 h2).upd (hp r fun y=>z y.symm)).sub fun b hb=>by rw[if_neg (fun y=>z y.symm)];exact hb
 ·try dsimp only
  split
  ·exact ha
  ·exact k.out _
 ·try dsimp only at z1 z2
  by_cases h1:r=q<;>by_cases h2:r'=q
  ·rw[h1,h2]
  ·rw[if_pos h1]at z1;rw[if_neg h2]at z2;exact(hd r' b h2 z2 z1).elim
  ·rw[if_neg h1]at z1;rw[if_pos h2]at z2;exact(hd r b h1 z1 z2).elim
  ·rw[if_neg h1]at z1;rw[if_neg h2]at z2;exact k.dis _ _ b z1 z2
 ·try dsimp only at z
  by_cases h1:r=q
  ·rw[if_pos h1]at z;exact .inr z
  ·rw[if_neg h1]at z;exact .inl (k.sub _ b z)
theorem zRL{G0 H0 S0:Hp}{D:Ends}{g:TG}{tg:Tg}{J:It}{ds:List Dt}{GJ:Hp}(hT:TgOk g tg)(B:DS mg E L t m)(io:ItOk J GJ ds){σ:St}{ρ:Ro}{G H:Hp}{As:Nat->Addr->Prop}(a:Sat G0 H0 S0 σ ρ G H As)(sJ:Same GJ G)
  (p:zCS mg E G0 H0 S0 L (Mi.forGo tg m ds ρ) D):zLJ g t D σ J H:=by
 refine⟨fun i c σ H=>c=ds.length-i/\i<=ds.length/\∃ρ G As,Sat G0 H0 S0 σ ρ G H As/\Same GJ G/\zCS mg E G0 H0 S0 L (Mi.forGo tg m (ds.drop i) ρ) D,
  ⟨_,rfl,qAh _,ρ,G,As,a,sJ,by rw[qCk];exact p⟩,?_⟩
 rintro i c σ H ⟨rfl,hi,ρ,G,As,a,sJ,p⟩
 obtain⟨j1,j2,j3⟩:=io i G H sJ a.ext.in';by_cases hlt:i<ds.length
 ·refine .inr ⟨j1 hlt,fun σ' H'=>i+1<=ds.length/\∃ρ G As,Sat G0 H0 S0 σ' ρ G H' As/\Same GJ G/\zCS mg E G0 H0 S0 L (Mi.forGo tg m (ds.drop (i+1)) ρ) D,fun σ' H' q=>⟨ds.length-(i+1),by lia,rfl,q⟩,fun x H2 hy=>?_⟩;have hd:ds[i]?=some ds[i]:=qA5 hlt;obtain⟨G2,x2,r2⟩:=j3 x H2 ds[i] hd hy;rw[qAy hlt,Mi.forGo]at p;cases eb:bindT tg ds[i]with
  |none=>rw[eb]at p;exact p.elim
  |some bs=>
   rw[eb]at p
   try dsimp only at p
   refine hT G2 H2 _ _ x bs _ x2.in' r2 eb fun ws hb=>?_
   obtain⟨As2,a2⟩:=Sat.puts hb (a.wider x2);have a3:Sat G0 H0 GJ (zFQ σ ws) (zAP ρ bs) G2 H2 As2:=⟨a2.ext,sJ.trans x2.g,a2.tab,a2.len,a2.at,a2.dis,a2.new⟩;have key:∀(S1:Hp),Same S0 S1->Same GJ S1->Sat G0 H0 S1 (zFQ σ ws) (zAP ρ bs) G2 H2 As2->t { D with nx:=fun σ' H'=>i+1<=ds.length/\∃ρ G As,Sat G0 H0 S0 σ' ρ G H' As/\Same GJ G/\zCS mg E G0 H0 S0 L (Mi.forGo tg m (ds.drop (i+1)) ρ) D,ct:=fun σ' H'=>i+1<=ds.length/\∃ρ G As,Sat G0 H0 S0 σ' ρ G H' As/\Same GJ G/\zCS mg E G0 H0 S0 L (Mi.forGo tg m (ds.drop (i+1)) ρ) D,bk:=D.nx } (zFQ σ ws) H2:=by
    intro S1 s1 s2 a4;refine B G0 H0 S1 _ _ G2 H2 As2 _ a4 ?_;have back:∀{σ':St}{ρ':Ro}{G' H':Hp}{As':Nat->Addr->Prop},Sat G0 H0 S1 σ' ρ' G' H' As'->Sat G0 H0 S0 σ' ρ' G' H' As'/\Same GJ G':=fun a5=>⟨⟨a5.ext,s1.trans a5.stb,a5.tab,a5.len,a5.at,a5.dis,a5.new⟩,s2.trans a5.stb⟩
    cases em:m (zAP ρ bs)with
    |none=>rw[em]at p;exact p
    |some r=>
     rw[em]at p;cases r with
     |error y=>exact p
     |ok o=>
      cases o with
      |nx ρ'=>exact fun σ' G' H' As' a5=>⟨hlt,ρ',G',As',(back a5).1,(back a5).2,p⟩
      |ct ρ'=>exact fun σ' G' H' As' a5=>⟨hlt,ρ',G',As',(back a5).1,(back a5).2,p⟩
      |bk ρ'=>exact fun σ' G' H' As' a5=>p σ' G' H' As' (back a5).1
      |rt d=>exact p
   exact key G2 a2.stb (sJ.trans x2.g) ⟨a2.ext,Same.refl _,a2.tab,a2.len,a2.at,a2.dis,a2.new⟩
 ·have e:i=ds.length:=by lia
  subst e;rw[qC6,Mi.forGo]at p;exact .inl ⟨j2 (qA9 _),p σ G H As a⟩
theorem zW0{wi:TI}{it:IM}{g:TG}{tg:Tg}(vs:List Nat){ind:Bool}(I:DI mg E wi it ind)(hT:TgOk g tg)(B:DS mg E L t m):DS mg E L (fun D σ H=>wi σ H (zLJ g t D σ)) (Mi.sFor vs it tg m):=by
 intro G0 H0 S0 σ ρ G H As D a p;obtain⟨G1,As1,a1⟩:=Sat.frzAt vs a;refine I.step (errS.from a1.ext) a1.ext.in' a1.frz p fun ds J G2 H2 _ x2 io p1=>?_
 refine zRL hT B io (a1.wider x2) ?_ p1;unfold zOJ;split
 ·exact fun b o e=>by cases e
 ·exact Same.refl _
theorem zF1{wi:TI}{it:IM}{i:Nat}(I:DI mg E wi it true)(B:DS mg E L t m):DS mg E L (fun D σ H=>wi σ H (zLJ (zEH i) t D σ)) (Mi.sForR it i m):=by
 intro G0 H0 S0 σ ρ G H As D a p;obtain⟨J,x,s,w⟩:=a.full;refine I.step (errS.from x) x.in' w p fun ds J G2 H2 _ x2 io p1=>?_
 exact zRL (zAT i) B io (a.grow x2.h) (fun b o e=>by cases e) p1
theorem zWL{G0 H0 S0:Hp}{D:Ends}{tc:TT}{c:TM}(C:DT mg E tc c)(B:DS mg E L t m)(N:Nat){σ:St}{ρ:Ro}{G H:Hp}{As:Nat->Addr->Prop}(a:Sat G0 H0 S0 σ ρ G H As)(p:zCS mg E G0 H0 S0 L (Mi.whGo c m N ρ) D):zMG tc t D σ H:=by
 refine⟨fun i σ H=>∃ρ G As,Sat G0 H0 S0 σ ρ G H As/\zCS mg E G0 H0 S0 L (Mi.whGo c m i ρ) D,⟨N,ρ,G,As,a,p⟩,?_⟩
 rintro i σ H ⟨ρ,G,As,a,p⟩
 cases i with
 |zero=>exact p.elim
 |succ i=>
  obtain⟨J,x,s,w⟩:=a.full;rw[Mi.whGo]at p;refine C.step (errS.from x) x.in' w p fun b H' _ sH p1=>?_
  cases b with
  |false=>exact p1 σ G H' As (a.grow sH)
  |true=>
   rw[if_pos rfl];refine⟨fun σ' H'=>∃ρ G As,Sat G0 H0 S0 σ' ρ G H' As/\zCS mg E G0 H0 S0 L (Mi.whGo c m i ρ) D,fun σ' H' q=>⟨i,qEz i,q⟩,?_⟩;refine B G0 H0 S0 σ ρ G H' As _ (a.grow sH) ?_;rw[if_pos rfl]at p1;cases em:m ρ with
   |none=>rw[em]at p1;exact p1
   |some r=>
    rw[em]at p1;cases r with
    |error y=>exact p1
    |ok o=>
     cases o with
     |nx ρ'=>exact fun σ' G' H' As' a5=>⟨ρ',G',As',a5,p1⟩
     |ct ρ'=>exact fun σ' G' H' As' a5=>⟨ρ',G',As',a5,p1⟩
     |bk ρ'=>exact fun σ' G' H' As' a5=>p1 σ' G' H' As' a5
     |rt d=>exact p1
theorem zQC{tc:TT}{c:TM}(C:DT mg E tc c)(B:DS mg E L t m):DS mg E L (zMG tc t) (Mi.sWhile c m):=fun G0 H0 S0 σ ρ G H As D a p=>zWL C B _ a p
theorem dz(A:DE mg E te e 0):DE mg E te e 0:=A
theorem zJR{P N:Nat}{vs:List V}{H:Hp}{Q:VK}{E:XK}(h:spM mg L (Mi.runF P N m) vs H Q E):vs.length=P:=by
 obtain⟨G,ds,_,s,r,p⟩:=h;rw[r.length];unfold Mi.runF at p;split at p
 ·rename_i h;exact h
 ·exact p.elim
theorem zBK{P:Nat}{N:List Str}{vs:List V}{H:Hp}{Q:VK}(B:DS mg E L t m)(h:spM mg L (Mi.runF P N.length m) vs H Q E):t { nx:=fun _ H'=>Q .non H',rt:=Q } (L2.start N vs) H:=by
 obtain⟨G,ds,tb,s,r,p⟩:=h;unfold Mi.runF at p;split at p
 ·refine B G H G _ (Mi.startO N.length ds) G H (fun _ _=>False) _ ⟨Ext.refl s,Same.refl _,tb,?_,fun i d n e=>?_,fun _ _ _ z=>z.elim,fun _ _ z=>z.elim⟩ ?_
  ·unfold Mi.startO L2.start;simp[r.length]
  ·unfold Mi.startO at e
   by_cases hi:i<ds.length
   ·rw[qAd (by simpa using hi),qAc]at e;cases e1:ds[i]? with
    |none=>rw[e1]at e;cases e
    |some d'=>
     rw[e1]at e;cases e;have hv:vs[i]?=some (vs[i]'(by rw[r.length];exact hi)):=by simp
     refine⟨vs[i]'(by rw[r.length];exact hi),?_,zBU r e1 hv⟩;unfold L2.start;rw[qAd (by simpa[r.length]using hi),qAc,hv];rfl
   ·rw[qAe (by simpa using hi),qB2]at e
    split at e<;>cases e
  ·cases em:m (Mi.startO N.length ds)with
   |none=>rw[em]at p;exact p
   |some r=>
    rw[em]at p;cases r with
    |error y=>exact p
    |ok o=>
     cases o with
     |nx ρ'=>exact fun σ' G' H' As' a=>PostE.val (d:=.non) p a.ext rfl rfl
     |rt d=>exact p
     |bk ρ'=>exact p.elim
     |ct ρ'=>exact p.elim
 ·exact p.elim
end
end L3
namespace L2
open PySem PySem.Spec PyProof.Rows
section
variable{X:Cx}
end
section
variable{X:Cx}{K:qA1}
end
section
variable{X:Cx}
end
section
variable{prog:qGn}{w:World}{A:qGo}{E:Value->qGk->Prop}{s:qGk}
end
section
variable{X:Cx}{pins:List (Addr×Obj)}{σ:List (Option V)}{H:Hp}{s:qGk}
end
section
variable{prog:qGn}{w:World}{A:qGo}{E:Value->qGk->Prop}{s:qGk}
end
section
variable{X:Cx}{pins:List (Addr×Obj)}{σ:List (Option V)}{H:Hp}{s:qGk}
end
section
variable{X:Cx}
end
section
variable{X:Cx}{tg:Expr}
end
section
variable{prog:qGn}{w:World}{A:qGo}{E:Value->qGk->Prop}{s:qGk}
end
section
variable{X:Cx}
end
section
variable{prog:qGn}{w:World}{A:qGo}{E:Value->qGk->Prop}{s:qGk}
end
section
variable{X:Cx}
end
section
variable{prog:qGn}{w:World}{A:qGo}{E:Value->qGk->Prop}{s:qGk}
end
section
variable{X:Cx}{o:Expr}{td:TE}{p apos cpos pos:Pos}
end
section
variable{prog:qGn}{w:World}{A:qGo}{E:Value->qGk->Prop}{s:qGk}
end
section
variable{X:Cx}{pins:List (Addr×Obj)}{σ:List (Option V)}{H:Hp}{s:qGk}
end
section
variable{X:Cx}
end
end L2
namespace L3
open PySem PySem.Spec
open L2 hiding Rep RepL
open Mi (Dt Xn R okR zA3 optR zA0 zA4 zA7 zA5 zA6 Rh Sl Ro EM TM AM FM IM SM OM Tg Out bindT zAK zAP full frz frz1 frzAt)
section
variable[Kc]{mg:Str->Option Value}{E:XK}{L n k l:Nat}{te ta tb:TE}{e ea eb:EM}{t u:TS}{m m':SM}
theorem zWA:CBi (fun xs H Q=>(∃i,xs=[.int i]/\Q (.int i) H)\/∃k,xs=[.bl k]/\Q (.int (if k then 1 else 0)) H) Mi.intD n:=by
 intro mg E G H ds vs Q s h p;cases ds with
 |nil=>exact qA8 p
 |cons hd1 tl1=>
  cases hd1 with
  |int i=>
   cases tl1 with
   |nil=>
    obtain⟨x,rfl,hx⟩:=zE9 h;cases(show x=.int i from hx)
    exact .inl ⟨i,rfl,PostE.val p (Ext.refl s) rfl rfl⟩
   |cons _ _=>exact qA8 p
  |bl b=>
   cases tl1 with
   |nil=>
    obtain⟨x,rfl,hx⟩:=zE9 h;cases(show x=.bl b from hx)
    exact .inr ⟨b,rfl,PostE.val p (Ext.refl s) rfl rfl⟩
   |cons _ _=>exact qA8 p
  |_=>exact qA8 p
theorem zRX{f:List Dt->Option Dt}{g:Int->Int->Int}{r:List V->Hp->VK->Prop}(hr:∀i j H Q,Q (.int (g i j)) H->r [.int i,.int j] H Q)(hf:∀i j,f [.int i,.int j]=some (.int (g i j)))(hn:∀ds,(∀i j,ds≠[.int i,.int j])->f ds=none):CBi r f n:=by
 intro mg E G H ds vs Q s h p;by_cases hd:∃i j,ds=[.int i,.int j]
 ·obtain⟨i,j,rfl⟩:=hd;obtain⟨x,y,rfl,hx,hy⟩:=zSF h
  cases(show x=.int i from hx)
  cases(show y=.int j from hy)
  rw[hf]at p;exact hr i j H Q (PostE.val p (Ext.refl s) rfl rfl)
 ·rw[hn ds fun i j e=>hd ⟨i,j,e⟩]at p;exact p.elim
theorem zKM{f:List Dt->Option Dt}(h1:f []=none)(h2:∀x,f [x]=none)(h3:∀x y z r,f (x::y::z::r)=none)(h4:∀x y,(∀i j,[x,y]≠[.int i,.int j])->f [x,y]=none):∀ds,(∀i j,ds≠[.int i,.int j])->f ds=none:=by
 intro ds h
 match ds,h with
 |[],_=>exact h1
 |[x],_=>exact h2 x
 |[x,y],h=>exact h4 x y h
 |x::y::z::r,_=>exact h3 x y z r
theorem zRZ:CBi (fun xs H Q=>∃i j,xs=[.int i,.int j]/\Q (.int (if j>i then j else i)) H) Mi.maxD n:=
 zRX (g:=fun i j=>if j>i then j else i) (fun i j H Q q=>⟨i,j,rfl,q⟩) (fun _ _=>rfl) (zKM rfl (fun x=>by cases x<;>rfl) (fun x y z r=>by cases x<;>cases y<;>rfl) (fun x y h=>by cases x<;>cases y<;>first|rfl|exact absurd rfl (h _ _)))
theorem zRY:CBi (fun xs H Q=>∃i j,xs=[.int i,.int j]/\Q (.int (if j<i then j else i)) H) Mi.minD n:=
 zRX (g:=fun i j=>if j<i then j else i) (fun i j H Q q=>⟨i,j,rfl,q⟩) (fun _ _=>rfl) (zKM rfl (fun x=>by cases x<;>rfl) (fun x y z r=>by cases x<;>cases y<;>rfl) (fun x y h=>by cases x<;>cases y<;>first|rfl|exact absurd rfl (h _ _)))
theorem zK2{G:Hp}{d:Dt}{v:V}(h:Rep G d v)(hd:d.dep=0):zF0 v=true:=(zDL (by lia) h).flat (qF9.mp (qAi (zEN (by lia)) (qDy hd)))
theorem zO0{G:Hp}{d e:Dt}{v u:V}(h:Rep G d v)(h':Rep G e u)(hd:d.dep=0)(he:e.dep=0):eqV v u=Dt.eq d e:=by
 rw[<- zK8 (by lia) (by lia)];exact(zDL (by lia) h).flatEq (zDL (by lia) h') (qF9.mp (qAi (zEN (by lia)) (qDy hd))) (qF9.mp (qAi (zEN (by lia)) (qDy he)))
theorem zTI{G:Hp}{d:Dt}{v:V}(h:Rep G d v)(hd:d.dep=0):∀{ds:List Dt}{vs:List V},RepL G ds vs->Dt.depL ds=0->vs.all zF0=true/\inV v vs=ds.any fun y=>Dt.eq y d
 |[],vs,r,_=>by cases(show vs=[] from r);exact⟨rfl,rfl⟩
 |e::ds,vs,r,hz=>by
  obtain⟨x,q,rfl,a,b⟩:=r;rw[Dt.depL]at hz;obtain⟨h1,h2⟩:=zTI h hd b (by lia);have he:e.dep=0:=by lia
  refine⟨by simp[zK2 a he,h1],?_⟩;unfold inV at h2 ⊢;rw[qCs,qCs,h2,zO0 a h he hd]
theorem zWX{ng:Bool}:ROp (rInU Kc.K ng) (Mi.inD ng) n:=by
 intro mg E G H d e x y Q s h1 h2 p;cases e with
 |lst ys=>
  obtain⟨a,vs,rfl,ha,r⟩:=h2;unfold Mi.inD Mi.hasD at p;dsimp only at p;by_cases hz:d.dep=0/\Dt.depL ys=0
  ·rw[if_pos hz]at p;obtain⟨g1,g2⟩:=zTI h1 hz.1 r hz.2;refine⟨vs,.inl (SqL.of (s _ _ ha)),zK2 h1 hz.1,g1,?_⟩;rw[g2];exact PostE.val p (Ext.refl s) rfl rfl
  ·rw[if_neg hz]at p;exact p.elim
 |tup ys=>
  obtain⟨a,vs,rfl,ha,r⟩:=h2;unfold Mi.inD Mi.hasD at p;dsimp only at p;by_cases hz:d.dep=0/\Dt.depL ys=0
  ·rw[if_pos hz]at p;obtain⟨g1,g2⟩:=zTI h1 hz.1 r hz.2;refine⟨vs,.inr (SqT.of (s _ _ ha)),zK2 h1 hz.1,g1,?_⟩;rw[g2];exact PostE.val p (Ext.refl s) rfl rfl
  ·rw[if_neg hz]at p;exact p.elim
 |str z=>
  cases(show y=.str z from h2)
  cases d with
  |str w=>
   cases(show x=.str w from h1)
   obtain⟨⟨wl⟩⟩:=w;cases wl with
   |nil=>exact qA8 p
   |cons c tl1=>
    cases tl1 with
    |nil=>
     have p':PostE mg E G H n (okR (.bl (if ng=true then !decide (c∈z.cps.toList)else decide (c∈z.cps.toList)))) Q:=p;have q:=PostE.val (v:=.bl (if ng=true then !decide (c∈z.cps.toList)else decide (c∈z.cps.toList))) p' (Ext.refl s) rfl rfl;rw[<- StrLaws.found_one z c]at q;exact q
    |cons _ _=>exact qA8 p
  |_=>exact p.elim
 |_=>exact p.elim
def DO(mg:Str->Option Value)(E:XK)(t:TO)(m:OM):Prop:=∀(G H:Hp)(σ:St)(ρ:Rh)(Q:Option Int->Hp->Prop),Same G H->View G σ ρ ->
 (match m ρ with
  |none=>False
  |some (.error x)=>∀c da G' H',Ext G H G' H'->XRep mg x c da G' H'->E c da H'
  |some (.ok o)=>∀H',Same H H'->Q o H')->t σ H Q
theorem DO.step{β:Type}{t:TO}{m:OM}(D:DO mg E t m){G H:Hp}{σ:St}{ρ:Rh}{Q:Option Int->Hp->Prop}{P:R β->Prop}{f:Option Int->R β}(hE:Err mg E G H P)(s:Same G H)(w:View G σ ρ)(p:P (zA3 (m ρ) f))
  (h:∀b H',m ρ=okR b->Same H H'->P (f b)->Q b H'):t σ H Q:=by
 refine D G H σ ρ Q s w ?_;cases e:m ρ with
 |none=>rw[e]at p;exact hE.no p
 |some r=>
  rw[e]at p;cases r with
  |error x=>exact hE.er x p
  |ok b=>exact fun H' sH=>h b H' e sH p
theorem zW3:DO mg E zMH Mi.oNo:=fun G H σ ρ Q s w p=>p H (Same.refl _)
theorem do_e(A:DE mg E te e k):DO mg E (zUA te) (Mi.oE e):=by
 intro G H σ ρ Q s w p;unfold Mi.oE at p;refine(zB2 A).step (P:=fun r=>match r with
  |none=>False
  |some (.error x)=>∀c da G' H',Ext G H G' H'->XRep mg x c da G' H'->E c da H'
  |some (.ok o)=>∀H',Same H H'->Q o H') ⟨fun h=>h,fun _ h=>h⟩ s w p fun d v G1 H1 S _ fr o p1=>?_
 cases d with
 |int i=>exact⟨i,o,p1 H1 fr.ext.h⟩
 |_=>exact p1.elim
theorem zL6(n d:Nat)(o:Option Int):Mi.cutIx n d o=HT.sIx n d o:=by cases o<;>rfl
theorem zIJ{G:Hp}:∀{ds:List Dt}{xs:List V}(i:Nat),RepL G ds xs->RepL G (ds.drop i) (xs.drop i)
 |ds,xs,0,r=>by simpa using r
 |[],xs,i+1,r=>by cases(show xs=[] from r);exact rfl
 |d::ds,xs,i+1,r=>by
  obtain⟨x,q,rfl,a,b⟩:=r;exact zIJ i b
theorem zII{G:Hp}:∀{ds:List Dt}{xs:List V}(i:Nat),RepL G ds xs->RepL G (ds.take i) (xs.take i)
 |ds,xs,0,r=>by simp;exact rfl
 |[],xs,i+1,r=>by cases(show xs=[] from r);exact rfl
 |d::ds,xs,i+1,r=>by
  obtain⟨x,q,rfl,a,b⟩:=r;exact⟨x,_,rfl,a,zII i b⟩
theorem zP9{G:Hp}{ds:List Dt}{xs:List V}(r:RepL G ds xs)(lo hi:Option Int):RepL G (Mi.cutA ds lo hi) (cutV xs lo hi):=by
 unfold Mi.cutA cutV;rw[zL6,zL6,r.length];exact zII _ (zIJ _ r)
def RSl(r:V->Option Int->Option Int->Hp->VK->Prop)(n:Nat):Prop:=∀(mg:Str->Option Value)(E:XK)(G H:Hp)(d:Dt)(x:V)(lo hi:Option Int)(Q:VK),Same G H->Rep G d x->PostE mg E G H n (optR (Mi.slD d lo hi)) Q->r x lo hi H Q
theorem zW7{r:V->Option Int->Option Int->Hp->VK->Prop}{tl th:TO}{ml mh:OM}(hr:RSl r n)(A:DE mg E te e k)(B:DO mg E tl ml)(C:DO mg E th mh):DE mg E (tSl r te tl th) (Mi.eSl e ml mh) n:=by
 intro G H σ ρ Q s w p;refine(zB2 A).step errE s w p fun d v G1 H1 S _ fr o p1=>?_
 refine B.step (errE.from fr.ext) fr.ext.in' (w.mono fr.ext.g) p1 fun lo H2 _ s2 p2=>?_
 have x2:=fr.ext.trans (Ext.same fr.ext.in' s2);refine C.step (errE.from x2) x2.in' (w.mono fr.ext.g) p2 fun hi H3 _ s3 p3=>?_
 have x3:=x2.trans (Ext.same x2.in' s3);exact hr mg E G1 H3 d v lo hi Q x3.in' o (PostE.from p3 x3)
theorem zFJ(i:Nat){n0 n1:Nat}{t0 t1 t2:TE}{e0 e1 e2:EM}(Z:DE mg E t0 e0 n0)(A:DE mg E t1 e1 n1)(B:DE mg E t2 e2 n)(hn:n<1000:=by decide):DS mg E L (tAsg t2 (gSub (tOp (rIxU Kc.K) (vM i) t0) t1 setM)) (Mi.sItem2 i n e0 e1 e2):=by
 intro G0 H0 S0 σ ρ G H As D a p;obtain⟨J,x,s,w⟩:=a.full;refine B.step (errS.from x) x.in' w p fun d y G1 H1 S _ fr o p1=>?_
 cases er:ρ[i]? with
 |none=>rw[er]at p1;exact p1.elim
 |some sl=>
  rw[er]at p1
  match sl,er,p1 with
  |none,_,p=>exact p.elim
  |some (.lst rs,k+2),er,p1=>
   obtain⟨v,h1,q,xs,T,rfl,hq,kd⟩:=a.at i _ _ er;unfold gSub tOp vM;rw[h1];have x1:Ext J H J H1:=Ext.same x.in' fr.ext.h;refine(zB2 Z).step (errS.from (x.trans x1)) x1.in' w p1 fun z0 u0 G2 H2 S2 _ fr2 o2 p2=>?_
   cases z0 with
   |int y0=>
    cases(show u0=.int y0 from o2)
    dsimp only at p2;cases ei:Mi.ixA rs.length y0 with
    |none=>rw[ei]at p2;exact p2.elim
    |some c=>
     rw[ei]at p2;dsimp only at p2;cases erow:rs[c]? with
     |none=>rw[erow]at p2;exact p2.elim
     |some row=>
      rw[erow]at p2;cases row with
      |lst ds=>
       have hc:c<xs.length:=by rw[kd.len];exact(qA2.mp erow).1
       have hxc:xs[c]?=some xs[c]:=qA5 hc;obtain⟨qr,ys,U,er2,hqr,kr⟩:=kd.own c _ _ erow hxc;have sH2:=fr.ext.h.trans fr2.ext.h;refine⟨xs,xs[c],.inl (SqL.of (sH2 _ _ hq)),?_,?_⟩
       ·unfold atI;rw[kd.len,<- zIW,ei];exact hxc
       have x2:Ext J H J H2:=Ext.same x.in' sH2;refine(zB2 A).step (errS.from (x.trans x2)) x2.in' w p2 fun z u G3 H3 S3 _ fr3 o3 p3=>?_
       cases z with
       |int z=>
        cases(show u=.int z from o3)
        dsimp only at p3;cases ez:Mi.ixA ds.length z with
        |none=>rw[ez]at p3;exact p3.elim
        |some c2=>
         rw[ez]at p3;dsimp only at p3;split at p3
         ·rename_i hz
          rw[zIW]at ez;obtain⟨q1,q2⟩:=whole (k:=k) a s fr o hn hz.1 hz.2;have sH:=sH2.trans fr3.ext.h;rw[er2];refine⟨ys,c2,sH _ _ hqr,by rw[kr.len];exact ez,?_⟩;have a1:=a.grow sH;have tqr:T c qr:=kr.top;have iqr:As i qr:=kd.sub c qr tqr;have nS:¬S qr:=fun z=>(a.new i qr iqr).2.2 (q2 qr z).1
          have qne:q≠qr:=fun z=>kd.out c (z▸tqr)
          have fresh:∀b,As i b->S b->False:=fun b z1 z2=>(a.new i b z1).2.2 (q2 b z2).1
          have kr1:Kids (Own G H3 k) (T c) qr ds ys U:=kr.imp (fun _ _ _ _ w=>w.mono (Same.refl _) sH) fun _ z=>z
          have rowK:=kr1.set (p:=qr) (o:=.lst (ys.set c2 y)) c2 ((q1.mono (Same.refl _) (fr2.ext.h.trans fr3.ext.h)).upd nS) (fun r _=>kr.out r) nS (fun r b _ z1 z2=>fresh b (kd.sub c b (kr.sub r b z1)) z2);refine p3 σ G _ _ (a1.store (S:=fun b=>As i b\/S b) (d:=.lst (rs.set c (.lst (ds.set c2 d)))) (n:=k+2) (v:=.ref q) iqr h1 ⟨q,xs,fun r b=>if r=c then T c b\/S b else T r b,rfl,(zAL qne).trans (sH _ _ hq),⟨by simp[kd.len],fun r d' xr g1 g2=>?_,.inl kd.top,fun r=>?_,fun r r' b z1 z2=>?_,fun r b z=>?_⟩⟩ fun b z=>?_)
          ·by_cases hr:c=r
           ·subst hr;rw[qA6 (by rw[<- kd.len];exact hc)]at g1;cases g1;rw[hxc]at g2;cases g2;refine⟨qr,_,_,er2,zAM,rowK.imp (fun _ _ _ _ w=>w) fun b z=>?_⟩;rw[if_pos rfl];exact z
           ·rw[qAa hr]at g1;have nr:¬T r qr:=fun z=>hr (kd.dis c r qr tqr z)
            exact(((kd.own r d' xr g1 g2).mono (Same.refl _) sH).upd nr).sub fun b z=>by rw[if_neg (fun z=>hr z.symm)];exact z
          ·try dsimp only
           split
           ·exact fun z=>z.elim (kd.out c) fun z=>fresh q kd.top z
           ·exact kd.out r
          ·try dsimp only at z1 z2
           by_cases g1:r=c<;>by_cases g2:r'=c
           ·rw[g1,g2]
           ·rw[if_pos g1]at z1;rw[if_neg g2]at z2
            rcases z1 with z1|z1
            ·rw[g1];exact kd.dis c r' b z1 z2
            ·exact(fresh b (kd.sub r' b z2) z1).elim
           ·rw[if_neg g1]at z1;rw[if_pos g2]at z2
            rcases z2 with z2|z2
            ·rw[g2];exact kd.dis r c b z1 z2
            ·exact(fresh b (kd.sub r b z1) z2).elim
           ·rw[if_neg g1]at z1;rw[if_neg g2]at z2;exact kd.dis r r' b z1 z2
          ·try dsimp only at z
           by_cases g1:r=c
           ·rw[if_pos g1]at z
            rcases z with z|z
            ·exact .inl (kd.sub c b z)
            ·exact .inr z
           ·rw[if_neg g1]at z;exact .inl (kd.sub r b z)
          ·rcases z with z|z
           ·exact .inl z
           ·obtain⟨n1,n2,n3⟩:=q2 b z;exact .inr ⟨a.ext.h.free n1,n2,(fr2.ext.h.trans fr3.ext.h).some n3,fun j y=>(a.new j b y).2.2 n1⟩
         ·exact p3.elim
       |_=>exact p3.elim
      |_=>exact p2.elim
   |_=>exact p2.elim
  |some (.lst ds,0),_,p=>exact p.elim
  |some (.lst ds,1),_,p=>exact p.elim
  |some (.non,_),_,p=>exact p.elim
  |some (.bl _,_),_,p=>exact p.elim
  |some (.int _,_),_,p=>exact p.elim
  |some (.str _,_),_,p=>exact p.elim
  |some (.tup _,_),_,p=>exact p.elim
  |some (.scr _,_),_,p=>exact p.elim
  |some (.exc _ _ _,_),_,p=>exact p.elim
  |some (.fn _ _,_),_,p=>exact p.elim
  |some (.dcr _ _,_),_,p=>exact p.elim
  |some (.dsk _ _,_),_,p=>exact p.elim
  |some (.fnc _,_),_,p=>exact p.elim
  |some (.dtt _ _,_),_,p=>exact p.elim
  |some (.loc _ _,_),_,p=>exact p.elim
  |some (.ins _ _,_),_,p=>exact p.elim
  |some (.dct _,_),_,p=>exact p.elim
end
section
variable[Kc]{mg:Str->Option Value}{E:XK}{L n k l:Nat}{te ta tb:TE}{e ea eb ma:EM}{t:TA}{m:AM}
theorem rs_u:RSl (rSlU Kc.K) 1:=by
 intro mg E G H d x lo hi Q s h p;cases d with
 |lst ds=>
  obtain⟨a,xs,rfl,ha,r⟩:=h;exact⟨xs,SqL.of (s _ _ ha),fun q hq=>PostE.lst p (Ext.refl s) (zP9 r lo hi) hq⟩
 |str z=>
  cases(show x=.str z from h)
  rw[Mi.slD]at p;by_cases hz:z.length<=100000
  ·rw[if_pos hz]at p;exact⟨big' hz,PostE.val p (Ext.refl s) rfl rfl⟩
  ·rw[if_neg hz]at p;exact p.elim
 |_=>exact p.elim
theorem zW8{tl th:TO}{ml mh:OM}(A:DE mg E te e k)(B:DO mg E tl ml)(C:DO mg E th mh):DE mg E (tSl (rSlU Kc.K) te tl th) (Mi.eSl e ml mh) 1:=zW7 rs_u A B C
theorem zVO{G:Hp}(z:Str):ItOk (Its z) G (Mi.signsD z):=by
 intro i G1 H1 s1 s2;have hl:(Mi.signsD z).length=z.cps.size:=by simp[Mi.signsD]
 refine⟨fun hi=>by rw[hl]at hi;exact hi,fun hi=>by rw[hl]at hi;exact hi,fun x H2 d hd hy=>?_⟩;obtain⟨rfl,c,hc,rfl⟩:=hy;refine⟨G1,Ext.refl s2,?_⟩;unfold Mi.signsD at hd;rw[qAc]at hd;have hc':z.cps.toList[i]?=some c:=by simpa using hc
 rw[hc']at hd;cases hd;rfl
theorem zC5(A:DE mg E ta ma k):DI mg E (iAny Kc.K ta) (Mi.iSq ma) false:=by
 intro G H σ ρ Q s w p;refine(zB2 A).step errI s w p fun d v G1 H1 S _ fr o p1=>?_
 cases d with
 |lst ds=>
  obtain⟨a,xs,rfl,ha,r⟩:=o;exact .inl ⟨⟨xs,SqL.of (fr.ext.in' _ _ ha)⟩,p1 _ G1 H1 fr.ext (zRJ (SqL.of ha) r)⟩
 |tup ds=>
  obtain⟨a,xs,rfl,ha,r⟩:=o;exact .inr ⟨⟨xs,SqT.of (fr.ext.in' _ _ ha)⟩,p1 _ G1 H1 fr.ext (zRH (SqT.of ha) r)⟩
 |scr ns=>
  obtain⟨a,rfl,ha⟩:=o;rcases ha.old with ha|ha
  ·exact .inl ⟨⟨_,fr.ext.in'.seq ha⟩,p1 _ G1 H1 fr.ext (zRJ ha (zCM ns))⟩
  ·exact .inr ⟨⟨_,zIG fr.ext.in' ha⟩,p1 _ G1 H1 fr.ext (zRH ha (zCM ns))⟩
 |str z=>
  cases(show v=.str z from o)
  exact p1 _ G1 H1 fr.ext (zVO z)
 |_=>exact p1.elim
theorem zKK:∀(xs ys:List Dt),(Mi.zipD xs ys).length=min xs.length ys.length
 |[],ys=>by simp[Mi.zipD]
 |_::_,[]=>by simp[Mi.zipD]
 |x::r,y::q=>by rw[Mi.zipD,qAv,zKK r q,qAv,qAv];lia
theorem zKL:∀(xs ys:List Dt)(i:Nat)(d:Dt),(Mi.zipD xs ys)[i]?=some d->∃x y,xs[i]?=some x/\ys[i]?=some y/\d=.tup [x,y]
 |[],ys,_,_,h=>by simp[Mi.zipD]at h
 |_::_,[],_,_,h=>by simp[Mi.zipD]at h
 |x::r,y::q,0,d,h=>by simp[Mi.zipD]at h;exact⟨x,y,by simp,by simp,h.symm⟩
 |x::r,y::q,i+1,d,h=>by
  rw[Mi.zipD]at h;obtain⟨a,b,h1,h2,h3⟩:=zKL r q i d (by simpa using h);exact⟨a,b,by simpa using h1,by simpa using h2,h3⟩
theorem zVN{K:qA1}{G:Hp}{a b:Addr}{xs ys:List V}{ds es:List Dt}(ha:G a=some (.lst xs))(r:RepL G ds xs)(hb:G b=some (.lst ys))(r':RepL G es ys):ItOk (Itz K a b) G (Mi.zipD ds es):=by
 intro i G1 H1 s1 s2;have hS:SqL K H1 a xs:=SqL.of (s2 _ _ (s1 _ _ ha));have hS':SqL K H1 b ys:=SqL.of (s2 _ _ (s1 _ _ hb));have l1:=r.length;have l2:=r'.length;rw[zKK];refine⟨fun hi=>⟨xs,ys,xs[i]'(by lia),ys[i]'(by lia),hS,hS',by simp,by simp⟩,fun hi=>⟨xs,ys,hS,hS',by lia⟩,fun x H2 d hd hy=>?_⟩;obtain⟨T,u,v,rfl,hT,rfl,h1,h2⟩:=hy;obtain⟨p,q,g1,g2,rfl⟩:=zKL ds es i d hd;have x1:=Ext.new s2 hT (.tup [u,v]);exact⟨_,x1,T,_,rfl,zAM,_,_,rfl,Rep.mono (s1.trans x1.g) (zBU r g1 (h1 xs hS)),_,_,rfl,Rep.mono (s1.trans x1.g) (zBU r' g2 (h2 ys hS')),rfl⟩
theorem zW4(A:DA mg E t m 0):DI mg E (iZip Kc.K t) (Mi.iZi m) false:=by
 intro G H σ ρ Q s w p;refine A.step errI s w p fun ds vs G1 H1 S T _ fr o p1=>?_
 have r:=o.repL;cases ds with
 |nil=>exact p1.elim
 |cons a0 r0=>
  cases a0 with
  |lst xs=>
   cases r0 with
   |nil=>exact p1.elim
   |cons b0 r1=>
    cases r1 with
    |cons _ _=>cases b0<;>exact p1.elim
    |nil=>
     cases b0 with
     |lst ys=>
      obtain⟨x,y,rfl,⟨a,us,rfl,ha,ra⟩,⟨b,ws,rfl,hb,rb⟩⟩:=zSF r;exact⟨⟨us,SqL.of (fr.ext.in' _ _ ha)⟩,⟨ws,SqL.of (fr.ext.in' _ _ hb)⟩,p1 _ G1 H1 fr.ext (zVN ha ra hb rb)⟩
     |_=>exact p1.elim
  |_=>rcases r0 with _|⟨_,_|_⟩<;>exact p1.elim
end
end L3
namespace L2
open PySem PySem.Spec PyProof.Rows
section
variable{X:Cx}{e m1:Expr}{te ts:TE}{pos p2:Pos}
end
section
variable{X:Cx}
variable{o e:Expr}{es:List Expr}{to:TE}{t:TA}{name:Str}{apos cpos:Pos}{T id:String}{r:V->List V->Hp->VK->Prop}
end
section
variable{X:Cx}{e m1:Expr}{te ts:TE}{pos p2:Pos}
end
section
variable{prog:qGn}{w:World}{A:qGo}{E:Value->qGk->Prop}{s:qGk}
end
section
variable{X:Cx}{K:qA1}
end
section
variable{X:Cx}{e m1:Expr}{te ts:TE}{pos p2:Pos}
end
end L2
namespace L2
open PySem PySem.Spec
section
variable{X:Cx}
end
end L2
namespace L2
open PySem
end L2
namespace L3
open PySem PySem.Spec
open L2 hiding Rep RepL
open Mi (Dt FM okR)
def sp0(K:qA1)(mg:Str->Option Value)(L:Nat)(f:FM):Sp:=fun vs H Q _=>@spM ⟨K⟩ mg L f vs H Q E0
end L3
namespace Mi
open PySem
def noE{α:Type}(r:R α):R α:=match r with
 |some (.ok a)=>okR a
 |_=>none
def eCallN(f:FM)(am:AM):EM:=fun ρ=>zA3 (am ρ) fun ds=>noE (f ds)
def eMkX(c f:Str)(am:AM):EM:=fun ρ=>zA3 (am ρ) fun ds=>match ds with
 |[d]=>okR (.exc c f d)
 |_=>none
def zUE(c f:Str)(am:AM):SM:=fun r=>zA3 (am (full r)) fun ds=>match ds with
 |[d]=>some (.error ⟨c,f,d⟩)
 |_=>none
def sRaise0(c:Str)(am:AM):SM:=fun r=>zA3 (am (full r)) fun ds=>@ite _ (ds.length<=1000) (qA3 _) (some (.error ⟨c,"",.non⟩)) none
def eAtX(hs:List Str)(f:Str)(a:EM):EM:=fun ρ=>zA3 (a ρ) fun d=>match d with
 |.exc c g x=>if c∈hs/\g=f then okR x else none
 |_=>none
def eIsX(ys ns:List Str)(a:EM):EM:=fun ρ=>zA3 (a ρ) fun d=>match d with
 |.exc c _ _=>if c∈ys then okR (.bl true)else if c∈ns then okR (.bl false)else none
 |_=>none
noncomputable def goneO(i:Nat):Out->Out
 |.nx r=>.nx (r.set i none)
 |.rt d=>.rt d
 |.bk r=>.bk (r.set i none)
 |.ct r=>.ct (r.set i none)
def sTry(vs:List Nat)(j:Option Nat)(e:EM)(hs:List Str)(i:Nat)(s:SM):SM:=fun r=>match e (frz (frzAt vs r))with
 |none=>none
 |some (.ok d)=>okR (.nx (match j with|none=>frzAt vs r|some j=>(frzAt vs r).set j (some (d,0))))
 |some (.error x)=>if x.cls∈hs then zA3 (s ((frzAt vs r).set i (some (.exc x.cls x.f x.d,0)))) fun o=>okR (goneO i o)else none
end Mi
namespace L3
open PySem PySem.Spec
open L2 hiding Rep RepL
open Mi (Dt Xn R okR zA3 optR zA0 zA4 zA7 zA5 zA6 Rh Sl Ro EM TM AM FM IM SM OM Tg Out bindT zAK zAP full frz frz1 frzAt)
section
variable[Kc]{mg:Str->Option Value}{E:XK}{L n k l:Nat}{te ta tb:TE}{e ea eb ma:EM}{t:TA}{m:AM}
theorem zQI{f:FM}(A:DA mg E t m 0):DE mg E (zGL (spM mg n f) [] E0 t) (Mi.eCallN f m) n:=by
 intro G H σ ρ Q s w p;refine A.step errE s w p fun ds vs G1 H1 S T _ fr o p1=>?_
 refine⟨G1,ds,w.tab.trans fr.ext.g,fr.ext.in',by rw[qBx];exact o.repL,?_⟩;have p2:=PostE.from p1 fr.ext;cases e:f ds with
 |none=>rw[e]at p2;exact p2
 |some r=>
  rw[e]at p2;cases r with
  |error x=>exact p2.elim
  |ok d=>exact p2
def spInit(K:qA1)(f:Str):Sp:=fun vs H Q _=>∃e C y,vs=[.ref e,y]/\H e=some (xn e (.ref C) none)/\PySem.W.xcIn K C=true/\XSet K C f/\∀d,H d=none->d≠e->Q .non (upd (upd H d (.xd [(f,y)])) e (xn e (.ref C) (some d)))
theorem Sat.del{G0 H0 S0:Hp}{σ:St}{ρ:Ro}{G H:Hp}{As:Nat->Addr->Prop}(a:Sat G0 H0 S0 σ ρ G H As)(i:Nat):Sat G0 H0 S0 (σ.set i none) (ρ.set i none) G H As:=by
 refine⟨a.ext,a.stb,a.tab,by simp[a.len],fun j d n e=>?_,a.dis,a.new⟩
 by_cases z:i=j
 ·subst z;have hj:i<ρ.length:=by
   have:=(qA2.mp e).1;simpa using this
  rw[qA6 hj]at e;cases e
 ·rw[qAa z]at e;rw[qAa z];exact a.at j d n e
theorem zNX{G0 H0 S0:Hp}{i:Nat}{r:R Out}{D:Ends}(p:zCS mg E G0 H0 S0 L (zA3 r fun o=>okR (Mi.goneO i o)) D):zCS mg E G0 H0 S0 L r (zQ6 i D):=by
 cases r with
 |none=>exact p
 |some r=>
  cases r with
  |error x=>exact p
  |ok o=>
   cases o with
   |nx ρ=>exact fun σ G H As a=>p _ G H As (a.del i)
   |rt d=>exact p
   |bk ρ=>exact fun σ G H As a=>p _ G H As (a.del i)
   |ct ρ=>exact fun σ G H As a=>p _ G H As (a.del i)
theorem zVZ{te:XK->TE}{hs:List Str}{c:Value}{i:Nat}{ts:TS}{sm:SM}(j:Option Nat)(vs:List Nat)(hh:∀c'∈hs,∃C,clK Kc.K c'=some C/\qC4 Kc.K (.ref C) c=some true)(A:∀E',DE mg E' (te E') e 0)(B:DS mg E L ts sm) :
  DS mg E L (zQZ Kc.K c i (fun D E' σ H=>te (E' σ) σ H (fun v H1=>match j with|none=>D.nx σ H1|some j=>D.nx (σ.set j (some v)) H1)) ts) (Mi.sTry vs j e hs i sm):=by
 intro G0 H0 S0 σ ρ G H As D a p;obtain⟨G1,As1,a1⟩:=Sat.frzAt vs a;unfold Mi.sTry at p;refine(A _) G1 H σ (frz (frzAt vs ρ)) _ a1.ext.in' a1.frz ?_;cases ee:e (frz (frzAt vs ρ))with
 |none=>rw[ee]at p;exact p
 |some r=>
  rw[ee]at p;cases r with
  |ok d=>
   intro v G2 H2 S fr o;cases j with
   |none=>exact p σ G1 H2 As1 (a1.grow fr.ext.h)
   |some j=>exact p _ G2 H2 _ ((a1.wider fr.ext).put (i:=j) (S:=fun _=>False) (n:=0) (d:=d) (v:=v) o (fun _ z=>z.elim) (fun _ _ _ _ z=>z.elim))
  |error x=>
   by_cases hm:x.cls∈hs
   ·have p':zCS mg E G0 H0 S0 L (zA3 (sm ((frzAt vs ρ).set i (some (.exc x.cls x.f x.d,0)))) fun o=>okR (Mi.goneO i o)) D:=by
     have p2:zCS mg E G0 H0 S0 L (if x.cls∈hs then zA3 (sm ((frzAt vs ρ).set i (some (.exc x.cls x.f x.d,0)))) fun o=>okR (Mi.goneO i o)else none) D:=p;rw[if_pos hm]at p2;exact p2
    intro c' da G2 H2 x2 hX;obtain⟨e',C,rfl,h1,h2,h3⟩:=hX;obtain⟨C',hc1,hc2⟩:=hh _ hm;rw[h2]at hc1;cases hc1;refine⟨e',.ref C,rfl,x2.in' _ _ h1,hc2,?_⟩;exact B G0 H0 S0 _ _ G2 H2 _ (zQ6 i D) ((a1.wider x2).put (i:=i) (S:=fun _=>False) (n:=0) (d:=.exc x.cls x.f x.d) (v:=.ref e') ⟨e',C,da,rfl,.inr h1,h2,h3⟩ (fun _ z=>z.elim) (fun _ _ _ _ z=>z.elim)) (zNX p')
   ·have p2:zCS mg E G0 H0 S0 L (if x.cls∈hs then zA3 (sm ((frzAt vs ρ).set i (some (.exc x.cls x.f x.d,0)))) fun o=>okR (Mi.goneO i o)else none) D:=p;rw[if_neg hm]at p2;exact p2.elim
noncomputable def kitV(K:qA1)(C:Addr):V->Option Bool
 |.ref c=>qB5 K (.ref C) (.ref c)
 |.ty n=>qB5 K (.ref C) (.type n)
 |_=>none
theorem zVQ{ys ns:List Str}{ρ:Rh}{P:V->Hp->(V->Hp->Prop)->Prop}{b0:Addr->Bool->Prop}{G H:Hp}{σ:St}{Q:VK}(hy:∀c∈ys,∃C,clK Kc.K c=some C/\Xc.XIs Kc.K C/\b0 C true)(hn:∀c∈ns,∃C,clK Kc.K c=some C/\Xc.XIs Kc.K C/\b0 C false)(A:DE mg E ta ma k)(s:Same G H)(w:View G σ ρ)
  (p:PostE mg E G H 0 (Mi.eIsX ys ns ma ρ) Q) (h:∀e C d G1 H1 b,Ext G H G1 H1->isX H1 e C d->(∀a,d=some a->∃fs,H1 a=some (.xd fs))->Xc.XIs Kc.K C->b0 C b->(∀G2 H2,Ext G1 H1 G2 H2->Q (.bl b) H2)->P (.ref e) H1 Q):ta σ H fun x H1=>P x H1 Q:=by
 refine(zB2 A).step errE s w p fun d v G1 H1 S _ fr o p1=>?_
 cases d with
 |exc c g x=>
  obtain⟨e,C,da,rfl,hx,hc,r⟩:=o;have hx':isX H1 e C da:=hx.imp (fun z=>fr.ext.in' _ _ z) fun z=>fr.ext.in' _ _ z
  have hd:∀a,da=some a->∃fs,H1 a=some (.xd fs):=fun a ea=>by
   rcases r with⟨z,_⟩|⟨a',gs,y,z,h1,_⟩
   ·rw[z]at ea;cases ea
   ·rw[z]at ea;cases ea;exact⟨gs,fr.ext.in' _ _ h1⟩
  dsimp only at p1;split at p1
  ·rename_i hm
   obtain⟨C',hc',c1,c2⟩:=hy c hm;rw[hc]at hc';cases hc';exact h e C da G1 H1 true fr.ext hx' hd c1 c2 fun G2 H2 x2=>PostE.val p1 (fr.ext.trans x2) rfl rfl
  ·split at p1
   ·rename_i hm
    obtain⟨C',hc',c1,c2⟩:=hn c hm;rw[hc]at hc';cases hc';exact h e C da G1 H1 false fr.ext hx' hd c1 c2 fun G2 H2 x2=>PostE.val p1 (fr.ext.trans x2) rfl rfl
   ·exact p1.elim
 |_=>exact p1.elim
theorem zOA{ys ns:List Str}{y:V}(hy:∀c∈ys,∃C,clK Kc.K c=some C/\Xc.XIs Kc.K C/\kitV Kc.K C y=some true)(hn:∀c∈ns,∃C,clK Kc.K c=some C/\Xc.XIs Kc.K C/\kitV Kc.K C y=some false)(A:DE mg E ta ma k) :
  DE mg E (tCB (zSM Kc.K) (zFA ta (zFA (tC y) tNil))) (Mi.eIsX ys ns ma) 0:=by
 intro G H σ ρ Q s w p;refine zVQ (P:=fun x H1 Q=>zSM Kc.K [x,y] H1 Q) (b0:=fun C b=>kitV Kc.K C y=some b) hy hn A s w p fun e C d G1 H1 b x1 hx hd c1 c2 q=>?_
 refine⟨e,C,d,y,b,rfl,hx,hd,c1,q G1 H1 (Ext.refl x1.in'),?_⟩;cases y with
 |ref c=>exact .inl ⟨c,rfl,c2⟩
 |ty n=>exact .inr (.inl ⟨n,rfl,c2⟩)
 |_=>cases c2
end
section
variable{K:qA1}{C D:Addr}{dd:Option Addr}{cd:ClassData}{sl:Array (Option Value)}{b:Bool}
def xcD(C:Addr)(cd:ClassData)(sl:Array (Option Value)):Bool:=match cd.mro,sl.toList with
 |.ref C'::bm,[_,_,_,_,some (.builtin n),_]=>C'==C && !cd.hasDel&&PySem.W.excTail bm&&n == "ValueError.__new__" && cd.hasDict
 |_,_=>false
theorem zJL(h:K.lookup C=some ⟨.type "type",dd,.cls cd,sl⟩)(h':xcD C cd sl=true):PySem.W.xcIn K C=true:=by
 unfold PySem.W.xcIn;rw[h];exact h'
theorem zG2(h1:qBp K D=some cd)(h2:qBr K (.ref D)=some (.type "type"))(h3:qAo K (.ref C) (.ref D)=some b):PySem.W.kitCls K (.ref C) (.ref D)=some b:=by
 show(if((qBp K D).isSome&&qBr K (.ref D)==some (.type "type"))=true then qAo K (.ref C) (.ref D)else none)=some b
 rw[h1,h2,if_pos (by rw[qEd,Bool.true_and];exact beq_self_eq_true _)];exact h3
theorem zL0(h1:qBp K D=some cd)(h2:qBr K (.ref D)=some (.type "type"))(h3:qAo K (.ref C) (.ref D)=some true):qB5 K (.ref C) (.ref D)=some true:=by
 unfold qB5;split
 ·rfl
 ·exact zG2 h1 h2 h3
theorem zFG(h1:qBp K D=some cd)(h2:qBr K (.ref D)=some (.type "type"))(h3:qAo K (.ref C) (.ref D)=some false)(ne:(C==D)=false):qB5 K (.ref C) (.ref D)=some false:=by
 unfold qB5;split
 ·rename_i z
  have:C=D:=qJt (beq_iff_eq.mp z);rw[this,beq_self_eq_true]at ne;cases ne
 ·exact zG2 h1 h2 h3
theorem zG1(h3:qAo K (.ref C) (.type "ValueError")=some true):qB5 K (.ref C) (.type "ValueError")=some true:=by
 unfold qB5;split
 ·rfl
 ·show(if PySem.W.kitMeta "ValueError" = true then qAo K (.ref C) (.type "ValueError")else none)=some true
  rw[if_pos (by decide +kernel)];exact h3
theorem zG6(h0:qAo K (.ref D) (.type "BaseException")=some true)(h1:qBp K D=some cd)(h2:qBr K (.ref D)=some (.type "type"))(h3:qAo K (.ref C) (.ref D)=some true):qC4 K (.ref C) (.ref D)=some true:=by
 unfold qC4;rw[h0,if_pos (beq_self_eq_true _)];exact zG2 h1 h2 h3
end
structure XCls(K:qA1)(mg:Str->Option Value)(c:Str)(C:Addr):Prop where
 cl:clK K c=some C
 gm:mg c=some (.ref C)
 is:Xc.XIs K C
theorem zE3{K:qA1}{c:Str}{C:Addr}(h:qBh K qGr c=some (some (.ref C))):clK K c=some C:=by unfold clK;rw[h]
theorem zGF:qHb "ValueError" = some (.type "ValueError"):=by decide +kernel
theorem zST{P:qGn}{w:World}{K:qA1}{mg:Str->Option Value}{base:Heap}{N:List Str}{qual:Str}{scope:Scope}{f:Addr}{cd:Value}{A:qGo}{outer:List Env}{s:qGk}{H:Hp}{E:XK} :
  qJh (model P w) (A.deeper (qEa qual scope s.heap.objs.size f cd)) (qEa qual scope s.heap.objs.size f cd) (cxOf (CXe P w) P w K mg base N qual scope f cd A outer s H E).xe:=PassesOwn.leaving
def spE(K:qA1)(mg:Str->Option Value)(L:Nat)(f:Mi.FM):Sp:=fun vs H Q E=>@spM ⟨K⟩ mg L f vs H Q E
section
variable[Kc]{mg:Str->Option Value}{E:XK}{L n k l:Nat}{te ta tb:TE}{e ea eb ma:EM}{t:TA}{m:AM}
theorem zQJ{f:FM}{E':XK}(A:DA mg E t m 0):DE mg E (zGL (sp0 Kc.K mg n f) [] E' t) (Mi.eCallN f m) n:=zQI A
theorem zHW{f:FM}(A:DA mg E t m 0):DE mg E (zGL (spE Kc.K mg n f) [] E t) (Mi.eCall f m) n:=zAS A
end
def zGP(K:qA1):Sp:=fun vs H Q _=>∃(a:Addr)(ns:List Int),vs=[.ref a]/\Same (tabK K) H/\SqL K H a (ns.map V.int)/\ns.length<=63/\(∀i∈ns,i.natAbs.log2<2 ^ 20)/\∀H',Same (tabK K) H'->Q (.bl true) H'
theorem zPX{K:qA1}{mg:Str->Option Value}{L:Nat}{f:FM}(hf:∀ns:List Int,ns.length<=63->(∀i∈ns,i.natAbs.log2<2 ^ 20)->f [.scr ns]=okR (.bl true)):∀vs H Q E,zGP K vs H Q E->sp0 K mg L f vs H Q E:=by
 letI:Kc:=⟨K⟩
 rintro vs H Q E ⟨a,ns,rfl,tb,hS,hl,hw,q⟩
 refine⟨H,[.scr ns],tb,Same.refl _,⟨_,_,rfl,⟨a,rfl,.inl hS⟩,rfl⟩,?_⟩;rw[hf ns hl hw];intro v G' H' S fr o;cases(show v=.bl true by cases L<;>exact o)
 exact q H' (tb.trans fr.ext.h)
end L3
namespace Mi
open PySem
section
variable(ρ:Rh)(r:Ro)(a b c:EM)(s t:SM)(q q':TM)(am:AM)
@[simp] theorem x_eC(d:Dt):eC d ρ=okR d:=rfl
@[simp] theorem x_eV(i:Nat):eV i ρ=match ρ[i]? with|some (some d)=>okR d|_=>none:=rfl
@[simp] theorem x_eB(f:Dt->Dt->Option Dt):eB f a b ρ=zA3 (a ρ) fun x=>zA3 (b ρ) fun y=>optR (f x y):=rfl
@[simp] theorem x_eU(f:Dt->Option Dt):eU f a ρ=zA3 (a ρ) fun x=>optR (f x):=rfl
@[simp] theorem zI8:aNil ρ=okR []:=rfl
@[simp] theorem zES:aCons a am ρ=zA3 (a ρ) fun x=>zA3 (am ρ) fun xs=>okR (x::xs):=rfl
@[simp] theorem zJN(f:FM):eCall f am ρ=zA3 (am ρ) f:=rfl
@[simp] theorem zU3(f:List Dt->Option Dt):eBi f am ρ=zA3 (am ρ) fun xs=>optR (f xs):=rfl
@[simp] theorem x_eLst:eLst am ρ=zA3 (am ρ) fun xs=>@ite _ (xs.length<=100000) (qA3 _) (okR (.lst xs)) none:=rfl
@[simp] theorem x_eTup:eTup am ρ=zA3 (am ρ) fun xs=>@ite _ (xs.length<=100000) (qA3 _) (okR (.tup xs)) none:=rfl
@[simp] theorem x_eIsi(n:String):eIsi n a ρ=zA3 (a ρ) fun x=>optR (isiD n x):=rfl
@[simp] theorem x_eAnd:eAnd a b ρ=zA3 (a ρ) fun x=>match x with | .bl k=>if k=true then b ρ else okR (.bl false)|_=>none:=rfl
@[simp] theorem x_eOr:eOr a b ρ=zA3 (a ρ) fun x=>match x with | .bl k=>if k=true then okR (.bl true)else b ρ|_=>none:=rfl
@[simp] theorem x_eNot:eNot a ρ=zA3 (a ρ) fun x=>match x with | .bl k=>okR (.bl (!k))|_=>none:=rfl
@[simp] theorem x_eChain(f g:Dt->Dt->Option Dt):zVY f g a b c ρ=zA3 (a ρ) fun x=>zA3 (b ρ) fun y=>zA3 (optR (f x y)) fun z=>match z with | .bl k=>if k=true then zA3 (c ρ) fun w=>optR (g y w)else okR (.bl false)|_=>none:=rfl
@[simp] theorem x_eIf:eIf q a b ρ=zA3 (q ρ) fun k=>if k=true then a ρ else b ρ:=rfl
@[simp] theorem x_tB:tB a ρ=zA3 (a ρ) fun x=>match x with | .bl k=>okR k|_=>none:=rfl
@[simp] theorem x_tM:tM a ρ=zA3 (a ρ) fun x=>match x with | .bl k=>okR k | .int i=>okR (i != 0) | .non=>okR false|_=>none:=rfl
@[simp] theorem zTZ:tAn q q' ρ=zA3 (q ρ) fun k=>if k=true then q' ρ else okR false:=rfl
@[simp] theorem zWH:tOr q q' ρ=zA3 (q ρ) fun k=>if k=true then okR true else q' ρ:=rfl
@[simp] theorem zWI:tNo q ρ=zA3 (q ρ) fun k=>okR (!k):=rfl
@[simp] theorem zTY:tYes ρ=okR true:=rfl
@[simp] theorem zQW:sNil r=okR (.nx r):=rfl
@[simp] theorem zFL:sSeq s t r=zA3 (s r) fun o=>match o with | .nx ρ'=>t ρ'|o=>okR o:=rfl
@[simp] theorem zI7:sIf q s t r=zA3 (q (full r)) fun k=>if k=true then s r else t r:=rfl
@[simp] theorem x_sDrop:zWT a r=zA3 (a (full r)) fun _=>okR (.nx r):=rfl
@[simp] theorem x_sBreak:zUG r=okR (.bk r):=rfl
@[simp] theorem x_sCont:zWV r=okR (.ct r):=rfl
@[simp] theorem x_sNever:zUF r=none:=rfl
@[simp] theorem x_sRetN:zWR r=okR (.rt .non):=rfl
@[simp] theorem zI6(i n:Nat)(vs:List Nat):sSet i n vs a r=zA3 (a (full r)) fun d=>if d.dep<=n then okR (.nx (r.set i (some (d,n))))else zA3 (a (frz (frzAt vs r))) fun d'=>okR (.nx ((frzAt vs r).set i (some (d',n)))):=rfl
@[simp] theorem zU0(L n:Nat)(vs:List Nat):sRet L n vs a r=zA3 (a (full r)) fun d=>if d.dep<=n/\d.dep<=L then okR (.rt d)else if n=L then zA3 (a (frz (frzAt vs r))) fun d'=>okR (.rt d')else none:=rfl
@[simp] theorem x_sRetV(L i:Nat):sRetV L i r=match r[i]? with|some (some (d,k))=>if k=L\/L=0\/(d.dep<=k/\d.dep<=L/\k<1000)then okR (.rt d)else none|_=>none:=rfl
@[simp] theorem zLE:full []=[]:=rfl
@[simp] theorem zJM(o:Option Sl)(r:Ro):full (o::r)=o.map Prod.fst::full r:=rfl
@[simp] theorem x_frz_nil:frz []=[]:=rfl
@[simp] theorem x_frz_none(r:Ro):frz (none::r)=none::frz r:=rfl
@[simp] theorem x_frz_some(d:Dt)(n:Nat)(r:Ro):frz (some (d,n)::r)=(if n=0\/d.dep=0 then some d else none)::frz r:=rfl
@[simp] theorem x_frzAt_nil(r:Ro):frzAt [] r=r:=rfl
@[simp] theorem x_frzAt_cons(i:Nat)(v:List Nat)(r:Ro):frzAt (i::v) r=frzAt v (frz1 i r):=rfl
@[simp] theorem x_frz1(i:Nat)(r:Ro):frz1 i r=match r[i]? with|some (some (d,_))=>r.set i (some (d,0))|_=>r:=rfl
@[simp] theorem x_startO(n:Nat)(ds:List Dt):startO n ds=ds.map (fun d=>some (d,0))++qA7 (n-ds.length) none:=rfl
@[simp] theorem x_runF(P n:Nat)(ds:List Dt):runF P n s ds=if ds.length=P then zA3 (s (startO n ds)) endF else none:=rfl
@[simp] theorem x_end1(r:Ro):endF (.nx r)=okR .non:=rfl
@[simp] theorem x_end2(d:Dt):endF (.rt d)=okR d:=rfl
end
@[simp] theorem zWN(i j:Int):addD (.int i) (.int j)=some (.int (i+j)):=rfl
@[simp] theorem zU4(i j:Str):addD (.str i) (.str j)=@ite _ (i.length+j.length<=100000) (qA3 _) (some (.str (i++j))) none:=rfl
@[simp] theorem v_addL(i j:List Dt):addD (.lst i) (.lst j)=@ite _ (i.length+j.length<=100000) (qA3 _) (some (.lst (i++j))) none:=rfl
@[simp] theorem zWM(i j:Int):subD (.int i) (.int j)=some (.int (i-j)):=rfl
@[simp] theorem zOU(i j:Int):mulD (.int i) (.int j)=@ite _ (((-18446744073709551616<i/\i<18446744073709551616)\/(-18446744073709551616<j/\j<18446744073709551616))\/i.natAbs.log2+j.natAbs.log2<=67108864) (qA3 _) (some (.int (i*j))) none:=rfl
@[simp] theorem v_div(i j:Int):divD (.int i) (.int j)=@ite _ (0<j/\j<1000000000000000000000000) (qA3 _) (some (.int (i/j))) none:=rfl
@[simp] theorem v_mod(i j:Int):modD (.int i) (.int j)=if 0<j then some (.int (i%j))else none:=rfl
@[simp] theorem v_pow(i j:Int):powD (.int i) (.int j)=@ite _ (0<=j/\j<=1000000/\i.natAbs<18446744073709551616) (qA3 _) (some (.int (i ^ j.toNat))) none:=rfl
@[simp] theorem v_neg(i:Int):negD (.int i)=some (.int (-i)):=rfl
@[simp] theorem v_cmp(p:Int->Int->Bool)(i j:Int):cmpD p (.int i) (.int j)=some (.bl (p i j)):=rfl
@[simp] theorem v_eq(x y:Dt):eqD x y=if x.dep<=40/\y.dep<=40 then some (.bl (Dt.eq x y))else none:=rfl
@[simp] theorem v_ne(x y:Dt):neD x y=if x.dep<=40/\y.dep<=40 then some (.bl (!Dt.eq x y))else none:=rfl
@[simp] theorem v_is(x:Dt):isD x .non=some (.bl (isNonD x)):=rfl
@[simp] theorem v_isnt(x:Dt):isntD x .non=some (.bl (!isNonD x)):=rfl
@[simp] theorem v_isN1:isNonD .non=true:=rfl
@[simp] theorem v_isN2(i:Int):isNonD (.int i)=false:=rfl
@[simp] theorem v_isN3(i:List Dt):isNonD (.lst i)=false:=rfl
@[simp] theorem v_isN4(i:List Dt):isNonD (.tup i)=false:=rfl
@[simp] theorem v_isN5(i:Str):isNonD (.str i)=false:=rfl
@[simp] theorem v_isN6(i:Bool):isNonD (.bl i)=false:=rfl
@[simp] theorem v_ixL(xs:List Dt)(i:Int):ixD (.lst xs) (.int i)=itA xs i:=rfl
@[simp] theorem v_ixT(xs:List Dt)(i:Int):ixD (.tup xs) (.int i)=itA xs i:=rfl
@[simp] theorem v_ixS(ns:List Int)(i:Int):ixD (.scr ns) (.int i)=(itA ns i).map .int:=rfl
@[simp] theorem v_lenL(xs:List Dt):lenD [.lst xs]=some (.int xs.length):=rfl
@[simp] theorem v_lenT(xs:List Dt):lenD [.tup xs]=some (.int xs.length):=rfl
@[simp] theorem v_lenS(ns:List Int):lenD [.scr ns]=some (.int ns.length):=rfl
@[simp] theorem v_listL(xs:List Dt):listD [.lst xs]=some (.lst xs):=rfl
@[simp] theorem v_listT(xs:List Dt):listD [.tup xs]=some (.lst xs):=rfl
@[simp] theorem v_listS(ns:List Int):listD [.scr ns]=some (.lst (ns.map .int)):=rfl
@[simp] theorem v_dn:Dt.non.dep=0:=rfl
@[simp] theorem v_db(b:Bool):(Dt.bl b).dep=0:=rfl
@[simp] theorem v_di(b:Int):(Dt.int b).dep=0:=rfl
@[simp] theorem v_ds(b:Str):(Dt.str b).dep=0:=rfl
@[simp] theorem v_dS(b:List Int):(Dt.scr b).dep=1000:=by rw[Dt.dep]
@[simp] theorem v_dl(xs:List Dt):(Dt.lst xs).dep=Dt.depL xs+1:=by rw[Dt.dep]
@[simp] theorem v_dt(xs:List Dt):(Dt.tup xs).dep=Dt.depL xs+1:=by rw[Dt.dep]
@[simp] theorem v_dnil:Dt.depL []=0:=by rw[Dt.depL]
@[simp] theorem zFN(x:Dt)(r:List Dt):Dt.depL (x::r)=max x.dep (Dt.depL r):=by rw[Dt.depL]
@[simp] theorem v_e1(i j:Int):Dt.eq (.int i) (.int j)=decide (i=j):=by rw[Dt.eq];by_cases h:i=j<;>simp[h]
@[simp] theorem v_e2(i j:Str):Dt.eq (.str i) (.str j)=decide (i=j):=by rw[Dt.eq];by_cases h:i=j<;>simp[h]
@[simp] theorem v_e3(i j:Bool):Dt.eq (.bl i) (.bl j)=decide (i=j):=by rw[Dt.eq];by_cases h:i=j<;>simp[h]
@[simp] theorem v_e4(i j:List Dt):Dt.eq (.lst i) (.lst j)=Dt.eqL i j:=by rw[Dt.eq]
@[simp] theorem v_e5(i j:List Dt):Dt.eq (.tup i) (.tup j)=Dt.eqL i j:=by rw[Dt.eq]
@[simp] theorem v_e6:Dt.eq .non .non=true:=by rw[Dt.eq]
@[simp] theorem zEM:∀(ns:List Int),Dt.depL (ns.map Dt.int)=0
 |[]=>by simp
 |n::r=>by rw[qAn,zFN,zEM r];rfl
@[simp] theorem zQH:∀(xs ys:List Dt),Dt.depL (xs++ys)=max (Dt.depL xs) (Dt.depL ys)
 |[],ys=>by simp
 |x::r,ys=>by rw[qF0,zFN,zFN,zQH r ys];exact(Nat.max_assoc _ _ _).symm
@[simp] theorem zEJ:∀(ns ms:List Int),Dt.eqL (ns.map Dt.int) (ms.map Dt.int)=decide (ns=ms)
 |[],[]=>by simp[Dt.eqL]
 |[],_::_=>by simp[Dt.eqL]
 |_::_,[]=>by simp[Dt.eqL]
 |n::r,m::q=>by rw[qAn,qAn,Dt.eqL,zEJ r q,v_e1];simp
theorem zG3{α:Type}{xs:List α}{i:Int}{j:Nat}{v:α}(e:i=(j:Int))(h:xs[j]?=some v):itA xs i=some v:=by
 have hj:j<xs.length:=(qA2.mp h).1;subst e;unfold itA ixA;rw[if_pos (by lia),if_pos (by lia)]
 simpa using h
theorem zIV{n:Nat}{i:Int}(h0:0<=i)(h1:i<n):ixA n i=some i.toNat:=by
 unfold ixA;rw[if_pos h0,if_pos h1]
theorem zQ1{ns:List Int}{i:Int}(h0:0<=i)(h1:i<ns.length):itA (ns.map Dt.int) i=some (.int (ns.getD i.toNat 0)):=by
 refine zG3 (j:=i.toNat) (by lia) ?_;rw[qAc,qA0,qA5 (by lia)];rfl
theorem zTF{ns:List Int}{i:Int}(h0:0<=i)(h1:i<ns.length):itA ns i=some (ns.getD i.toNat 0):=by
 refine zG3 (j:=i.toNat) (by lia) ?_;rw[qA0,qA5 (by lia)];rfl
@[simp] theorem set_int(ns:List Int)(i:Nat)(x:Int):(ns.map Dt.int).set i (.int x)=(ns.set i x).map Dt.int:=by rw[qEv]
theorem zL7{ρ:Rh}{k:Nat}{tg:Tg}{c:TM}{e:EM}(f:Dt->Dt):∀(ds acc:List Dt),(∀d∈ds,∃bs,bindT tg d=some bs/\c (zAK (ρ++qA7 k none) bs)=okR true/\e (zAK (ρ++qA7 k none) bs)=okR (f d))->compGo ρ k tg c e ds acc=okR (acc++ds.map f)
 |[],acc,_=>by simp[compGo]
 |d::ds,acc,h=>by
  obtain⟨bs,h1,h2,h3⟩:=h d (by simp);rw[compGo,h1];simp only;rw[h2,zA0,if_pos rfl,h3,zA0,zL7 f ds (acc++[f d]) fun d hd=>h d (by simp[hd])];simp
theorem comp_filter{ρ:Rh}{k:Nat}{tg:Tg}{c:TM}{e:EM}(p:Dt->Bool)(f:Dt->Dt):∀(ds acc:List Dt),(∀d∈ds,∃bs,bindT tg d=some bs/\c (zAK (ρ++qA7 k none) bs)=okR (p d)/\(p d=true->e (zAK (ρ++qA7 k none) bs)=okR (f d)))->compGo ρ k tg c e ds acc=okR (acc++(ds.filter p).map f)
 |[],acc,_=>by simp[compGo]
 |d::ds,acc,h=>by
  obtain⟨bs,h1,h2,h3⟩:=h d (by simp);rw[compGo,h1];simp only;rw[h2,zA0];cases hp:p d with
  |true=>
   rw[if_pos rfl,h3 hp,zA0,comp_filter p f ds (acc++[f d]) fun d hd=>h d (by simp[hd])];simp[hp]
  |false=>
   rw[if_neg (by decide),comp_filter p f ds acc fun d hd=>h d (by simp[hd])];simp[hp]
theorem zK1{tg:Tg}{b:SM}(Pv:Nat->Ro->Prop):∀(ds:List Dt)(i:Nat)(r:Ro),Pv i r->(∀(j:Nat)(d:Dt)(r:Ro),ds[j]?=some d->Pv (i+j) r->∃bs r',bindT tg d=some bs/\b (zAP r bs)=okR (.nx r')/\Pv (i+j+1) r') ->
  ∃r',forGo tg b ds r=okR (.nx r')/\Pv (i+ds.length) r'
 |[],i,r,h,_=>⟨r,by simp[forGo],by simpa using h⟩
 |d::ds,i,r,h,hs=>by
  obtain⟨bs,r1,h1,h2,h3⟩:=hs 0 d r (by simp) (by simpa using h);obtain⟨r2,h4,h5⟩:=zK1 Pv ds (i+1) r1 (by simpa using h3) fun j e r he hp=>by
   have:=hs (j+1) e r (by simpa using he) (by rw[show i+(j+1)=i+1+j by lia];exact hp)
   rw[show i+1+j+1=i+(j+1)+1 by lia];exact this
  refine⟨r2,?_,by rw[qAv,show i+(ds.length+1)=i+1+ds.length by lia];exact h5⟩;rw[forGo,h1];simp only;rw[h2,zA0];exact h4
theorem zI9{c:TM}{b:SM}(Pv:Ro->Prop)(μ:Ro->Nat)(Rv:Ro->Prop)(hc:∀r,Pv r->(c (full r)=okR false/\Rv r)\/(c (full r)=okR true/\∃r',b r=okR (.nx r')/\Pv r'/\μ r'<μ r)) :
  ∀(m:Nat)(r:Ro),Pv r->μ r<m->∃r',whGo c b m r=okR (.nx r')/\Rv r'
 |0,r,_,h=>by lia
 |m+1,r,h,hm=>by
  rw[whGo];rcases hc r h with⟨h1,h2⟩|⟨h1,r1,h2,h3,h4⟩
  ·rw[h1,zA0,if_neg (by decide)];exact⟨r,rfl,h2⟩
  ·rw[h1,zA0,if_pos rfl,h2,zA0];exact zI9 Pv μ Rv hc m r1 h3 (by lia)
theorem zLP{c:TM}{b:SM}(Pv:Ro->Prop)(μ:Ro->Nat)(Rv:Ro->Prop){r:Ro}(h0:Pv r)(hm:μ r<1000000)(hc:∀r,Pv r->(c (full r)=okR false/\Rv r)\/(c (full r)=okR true/\∃r',b r=okR (.nx r')/\Pv r'/\μ r'<μ r)):∃r',sWhile c b r=okR (.nx r')/\Rv r':=
 zI9 Pv μ Rv hc WN r h0 (by rw[zXM];exact hm)
section
variable(ρ:Rh)(r:Ro)(a:EM)(am:AM)(s:SM)
@[simp] theorem x_noE_ok{α:Type}(x:α):noE (okR x)=okR x:=rfl
@[simp] theorem x_noE_none{α:Type}:noE (none:R α)=none:=rfl
@[simp] theorem x_noE_err{α:Type}(e:Xn):noE (some (.error e):R α)=none:=rfl
@[simp] theorem zOR(f:FM):eCallN f am ρ=zA3 (am ρ) fun ds=>noE (f ds):=rfl
@[simp] theorem x_eMkX(c f:Str):eMkX c f am ρ=zA3 (am ρ) fun ds=>match ds with|[d]=>okR (.exc c f d)|_=>none:=rfl
@[simp] theorem x_sRaise(c f:Str):zUE c f am r=zA3 (am (full r)) fun ds=>match ds with|[d]=>some (.error ⟨c,f,d⟩)|_=>none:=rfl
@[simp] theorem x_eAtX(hs:List Str)(f:Str):eAtX hs f a ρ=zA3 (a ρ) fun d=>match d with | .exc c g x=>if c∈hs/\g=f then okR x else none|_=>none:=rfl
@[simp] theorem x_eIsX(ys ns:List Str):eIsX ys ns a ρ=zA3 (a ρ) fun d=>match d with | .exc c _ _=>if c∈ys then okR (.bl true)else if c∈ns then okR (.bl false)else none|_=>none:=rfl
@[simp] theorem x_gone_nx(i:Nat):goneO i (.nx r)=.nx (r.set i none):=rfl
@[simp] theorem x_gone_rt(i:Nat)(d:Dt):goneO i (.rt d)=.rt d:=rfl
theorem zSB{vs:List Nat}{j:Option Nat}{hs:List Str}{i:Nat}{x:Xn}(h:a (frz (frzAt vs r))=some (.error x))(hm:x.cls∈hs):sTry vs j a hs i s r=zA3 (s ((frzAt vs r).set i (some (.exc x.cls x.f x.d,0)))) fun o=>okR (goneO i o):=by
 unfold sTry;rw[h];exact if_pos hm
end
example (d:Dt):True:=trivial
end Mi
namespace L3
open PySem PySem.Spec
open L2 hiding Rep RepL
open Mi (Dt Xn R okR zA3 optR zA0 zA4 zA7 zA5 zA6 Rh Sl Ro EM TM AM FM IM SM OM Tg Out bindT zAK zAP full frz frz1 frzAt)
section
variable{X:Cx}{c:Str}{fl:List Str}{C:Addr}{k:Nat}{E:XK}{e:Expr}{es:List Expr}{t:TA}{p pos:Pos}
end
section
variable[Kc]{mg:Str->Option Value}{E:XK}{L n k l:Nat}{te ta tb:TE}{e ea eb ma:EM}{t:TA}{m:AM}
end
section
variable[Kc]{mg:Str->Option Value}{E:XK}{L n k l:Nat}
end
section
variable[Kc]{mg:Str->Option Value}{E:XK}{L n k l:Nat}{te ta tb tx td:TE}{e ea eb ex ed ma:EM}{t:TA}{m:AM}
end
section
variable[Kc]{mg:Str->Option Value}{E:XK}{L n k l:Nat}{te ta tb:TE}{e ea eb ma:EM}{t:TA}{m:AM}
end
section
variable[Kc]{mg:Str->Option Value}{E:XK}{L n k l:Nat}
end
section
variable[Kc]{mg:Str->Option Value}{E:XK}{L n k l:Nat}{te:TE}{e:EM}
section
variable{G0 H0 S0:Hp}{σ:St}{ρ:Ro}{G H:Hp}{As:Nat->Addr->Prop}
end
end
section
variable[Kc]{mg:Str->Option Value}{E:XK}{L n k l:Nat}{te ta tb tx td:TE}{e ea eb ex ed ma:EM}{t:TA}{m:AM}
end
section
variable[Kc]{mg:Str->Option Value}{E:XK}{L n k l:Nat}
end
section
variable[Kc]{mg:Str->Option Value}{E:XK}{L n k l:Nat}{te ta tb:TE}{e ea eb ma:EM}{t:TA}{m:AM}
end
end L3
namespace L2
open PySem PySem.Spec PyProof.Rows
section
variable{X:Cx}
noncomputable def zUO:R2:=fun x y H Q=>match x,y with
 |.int i,.int j=>Q (.int (qHq i j)) H
 |_,_=>False
theorem zWO:OpR X (binaryOp .BitXor) zUO:=by
 intro pins s σ H x y v u Q I rx ry h;cases x<;>cases y<;>first
  |exact zV6 pins s σ H _ _ v u Q I rx ry ⟨_,_,rfl,rfl,h⟩
  |exact qA8 h
noncomputable def bL(K:qA1)(t:TE):TT:=fun σ H Q=>t σ H fun x H'=>match x with
 |.bl k=>Q k H'
 |.int i=>Q (i != 0) H'
 |.non=>Q false H'
 |.ref p=>∃xs,(SqL K H' p xs\/SqT K H' p xs)/\Q (!xs.isEmpty) H'
 |_=>False
theorem pt_l{K:qA1}{a:Expr}{ta:TE}(ha:PE X a ta)(he:∀whole,isTrue a X.env whole=(do let v <- whole;qJr a.pos;holding [v] (truthy v)):=by intro _;rfl)(hK:X.K=K:=by rfl):PT X a (bL K ta):=by
 subst hK;intro pins s σ H Q I h;refine isTrue_plain (thn (ha pins s σ H _ I h) fun v s1 z0=>?_) (he _);obtain⟨x,H1,I1,r1,q1⟩:=z0;refine thn (zQX pins s1 σ H1 x v Q I1 r1 ?_) fun _ _ q=>q
 cases x with
 |bl k=>exact⟨k,rfl,q1⟩
 |int i=>exact⟨_,rfl,q1⟩
 |non=>exact⟨_,rfl,q1⟩
 |ref p=>
  obtain⟨xs,h1|h1,h2⟩:=q1
  ·exact⟨_,.inl ⟨xs,h1,rfl⟩,h2⟩
  ·exact⟨_,.inr (.inl ⟨xs,h1,rfl⟩),h2⟩
 |_=>exact qA8 q1
end
section
variable{X:Cx}{K:qA1}
end
section
variable{X:Cx}{m:Str}{k:Nat}{o e:Expr}{es:List Expr}{ta:TE}{t:TA}{apos pos:Pos}{tb:List (Addr×Sp)}
end
section
variable{prog:qGn}{w:World}{A:qGo}{E:Value->qGk->Prop}{s:qGk}
end
section
variable{X:Cx}{pos:Pos}
end
section
variable{prog:qGn}{w:World}{A:qGo}{R:qJi->qGk->Prop}{I:Addr}{fp wr:List Addr}{G:Array qHp->Array qHp->Prop}{n:Nat}{St:Nat->qGk->Prop}{led:Bool}{z:Str}
end
section
variable{prog:qGn}{w:World}{A:qGo}{E:Value->qGk->Prop}{s:qGk}
end
section
variable{prog:qGn}{w:World}{A:qGo}{R:qJi->qGk->Prop}{I:Addr}{fp wr:List Addr}{G:Array qHp->Array qHp->Prop}{n:Nat}{St:Nat->qGk->Prop}{led:Bool}{items:Array Value}{ns:List Int}
end
section
variable{prog:qGn}{w:World}{A:qGo}{R:qJi->qGk->Prop}{I:Addr}{fp wr:List Addr}{G:Array qHp->Array qHp->Prop}{n:Nat}{St:Nat->qGk->Prop}{led:Bool}{items:Array Value}{zs:List Str}
end
section
variable{X:Cx}{m:Str}{k:Nat}{E:XK}{o:Expr}{ta:TE}{apos pos:Pos}{tb:List (Addr×Sp)}
end
end L2
namespace L3
open PySem PySem.Spec
open PyProof.Rows (risingS sortedS ltCps_eq)
open L2 hiding Rep RepL
open Mi (Dt Xn R okR zA3 optR zA0 zA4 zA7 zA5 zA6 Rh Sl Ro EM TM AM FM IM SM OM Tg Out bindT zAK zAP full frz frz1 frzAt)
section
variable[Kc]{mg:Str->Option Value}{E:XK}{L n k l:Nat}{te ta tb:TE}{e ea eb ma:EM}{t:TA}{m:AM}
end
section
variable[Kc]{mg:Str->Option Value}{E:XK}{L n k l:Nat}{t:TA}{m:AM}
end
section
variable[Kc]{mg:Str->Option Value}{E:XK}{L n k l:Nat}{te ta td:TE}{e ea ed:EM}
end
end L3
namespace L3
open PySem PySem.Spec
open L2 hiding Rep RepL
open Mi (Dt Xn R okR zA3 optR zA0 zA4 zA7 zA5 zA6 Rh Sl Ro EM TM AM FM IM SM Tg Out bindT zAK zAP full frz frz1 frzAt)
section
variable[Kc]{mg:Str->Option Value}{E:XK}{L n k l:Nat}{te ta tb:TE}{e ea eb ma:EM}{t:TA}{m:AM}
end
section
variable[Kc]{mg:Str->Option Value}{E:XK}{L n:Nat}{te:TE}{e:EM}
end
section
variable[Kc]
section
variable{G0 H0 S0:Hp}{σ:St}{ρ:Ro}{G H:Hp}{As:Nat->Addr->Prop}
end
variable{mg:Str->Option Value}{E:XK}{L n k l:Nat}{te ta tb:TE}{e ea eb ma:EM}{t:TA}{m:AM}
end
end L3
namespace L3
open PySem PySem.Spec PyProof.Rows
open L2 hiding Rep RepL
open Mi (Dt R Rh EM TM SM AM IM Xn Sl Ro Out okR zA3 optR full frz frzAt)
section
variable[Kc]{mg:Str->Option Value}{E:XK}{n L:Nat}{te ta tb:TE}{e:EM}{m m':SM}
end
end L3
namespace Mi
open PySem
noncomputable def xorD:Dt->Dt->Option Dt
 |.int i,.int j=>some (.int (qHq i j))
 |_,_=>none
noncomputable def repD:Dt->Dt->Option Dt
 |.lst xs,.int k=>@ite _ ((-4611686018427387904<=k/\k<4611686018427387904)/\xs.length*k.toNat<=100000) (qA3 _) (some (.lst (qA7 k.toNat xs).flatten)) none
 |_,_=>none
def tL(a:EM):TM:=fun ρ=>zA3 (a ρ) fun x=>match x with
 |.bl k=>okR k
 |.int i=>okR (i != 0)
 |.non=>okR false
 |.lst xs=>okR (!xs.isEmpty)
 |.tup xs=>okR (!xs.isEmpty)
 |_=>none
def iRv(e:AM):IM:=fun ρ=>zA3 (e ρ) fun vs=>match vs with
 |[.lst xs]=>okR xs.reverse
 |_=>none
noncomputable def intsD:List Dt->Option (List Int)
 |[]=>some []
 |.int i::r=>(intsD r).map (i::·)
 |_::_=>none
def eMl(f:List Dt->List Dt->Option Dt)(a:EM)(am:AM):EM:=fun ρ=>zA3 (a ρ) fun x=>match x with
 |.lst xs=>zA3 (am ρ) fun ds=>optR (f xs ds)
 |_=>none
def sExt(i n:Nat)(e:EM):SM:=fun ρ=>match ρ[i]? with
 |some (some (.lst ds,k+1))=>zA3 (e (full ρ)) fun d=>match d with
  |.lst es=>@ite _ (ds.length+es.length<=100000/\Dt.depL es<=n/\Dt.depL es<=k) (qA3 _) (okR (.nx (ρ.set i (some (.lst (ds++es),k+1))))) none
  |_=>none
 |_=>none
noncomputable def low(i:Nat)(ρ:Ro):Ro:=match ρ[i]? with
 |some (some (.lst ds,_+1))=>ρ.set i (some (.lst ds,1))
 |_=>ρ
def zUH(i:Nat)(vs:List Nat)(e:EM):SM:=fun ρ=>match(frzAt vs (low i ρ))[i]? with
 |some (some (.lst ds,1))=>zA3 (e (frz (frzAt vs (low i ρ)))) fun d=>@ite _ (ds.length<=100000) (qA3 _) (okR (.nx ((frzAt vs (low i ρ)).set i (some (.lst (ds++[d]),1))))) none
 |_=>none
def sItemF(i:Nat)(vs:List Nat)(e1 e2:EM):SM:=fun ρ=>zA3 (e2 (frz (frzAt vs (low i ρ)))) fun d=>match(frzAt vs (low i ρ))[i]? with
 |some (some (.lst ds,1))=>zA3 (e1 (full (frzAt vs (low i ρ)))) fun z=>match z with
  |.int z=>match ixA ds.length z with
   |some q=>okR (.nx ((frzAt vs (low i ρ)).set i (some (.lst (ds.set q d),1))))
   |none=>none
  |_=>none
 |_=>none
def sItemS(i:Nat)(e1 e2:EM):SM:=fun ρ=>match(low i ρ)[i]? with
 |some (some (.lst ds,1))=>zA3 (e2 (full (low i ρ))) fun y=>match y with
  |.int y=>match itA ds y with
   |some d=>zA3 (e1 (full (low i ρ))) fun z=>match z with
    |.int z=>match ixA ds.length z with
     |some q=>okR (.nx ((low i ρ).set i (some (.lst (ds.set q d),1))))
     |none=>none
    |_=>none
   |none=>none
  |_=>none
 |_=>none
end Mi
namespace L3
open PySem PySem.Spec
open L2 hiding Rep RepL
open Mi (Dt Xn R okR zA3 optR zA0 zA4 zA7 zA5 zA6 Rh Sl Ro EM TM AM FM IM SM Tg Out bindT zAK zAP full frz frz1 frzAt)
section
variable[Kc]{mg:Str->Option Value}{E:XK}{L n k l:Nat}{te ta tb:TE}{e ea eb ma:EM}{t:TA}{m:AM}
theorem zUJ:ROp zUO Mi.xorD n:=by
 intro mg E G H d e x y Q s h1 h2 p;cases d with
 |int i=>
  cases e with
  |int j=>cases(show x=.int i from h1);cases(show y=.int j from h2);exact zPD s p rfl rfl rfl
  |_=>exact p.elim
 |_=>exact p.elim
theorem zG4{G:Hp}{ds:List Dt}{xs:List V}(r:RepL G ds xs):(!xs.isEmpty) = !ds.isEmpty:=by
 have:=r.length;cases xs<;>cases ds<;>simp_all
theorem dt_l(A:DE mg E ta ma k):DT mg E (bL Kc.K ta) (Mi.tL ma):=by
 intro G H σ ρ Q s w p;refine(zB2 A).step errT s w p fun d v G1 H1 S _ fr o p1=>?_
 cases d with
 |bl b=>cases(show v=.bl b from o);exact p1 H1 fr.ext.h
 |int b=>cases(show v=.int b from o);exact p1 H1 fr.ext.h
 |non=>cases(show v=.non from o);exact p1 H1 fr.ext.h
 |lst ds=>
  obtain⟨a,xs,rfl,ha,r⟩:=o;refine⟨xs,.inl (SqL.of (fr.ext.in' _ _ ha)),?_⟩;rw[zG4 r];exact p1 H1 fr.ext.h
 |tup ds=>
  obtain⟨a,xs,rfl,ha,r⟩:=o;refine⟨xs,.inr (SqT.of (fr.ext.in' _ _ ha)),?_⟩;rw[zG4 r];exact p1 H1 fr.ext.h
 |_=>exact p1.elim
theorem zIX{G:Hp}:∀{ds:List Dt}{ns:List Int}{xs:List V},Mi.intsD ds=some ns->RepL G ds xs->xs=ns.map V.int
 |[],ns,xs,h,r=>by cases h;exact r
 |d::q,ns,xs,h,r=>by
  cases d with
  |int i=>
   rw[Mi.intsD]at h;cases e:Mi.intsD q with
   |none=>rw[e]at h;cases h
   |some ms=>
    rw[e]at h;cases h;obtain⟨x,t,rfl,a,b⟩:=r;cases(show x=.int i from a)
    rw[zIX e b];rfl
  |_=>cases h
end
section
variable[Kc]{G0 H0 S0:Hp}{σ:St}{ρ:Ro}{G H:Hp}{As:Nat->Addr->Prop}
theorem Sat.low(a:Sat G0 H0 S0 σ ρ G H As)(i:Nat):∃G1 As1,Sat G0 H0 S0 σ (Mi.low i ρ) G1 H As1:=by
 unfold Mi.low;split
 ·rename_i ds k e1
  obtain⟨v,h1,q,xs,T,rfl,hq,kd⟩:=a.at i _ _ e1;obtain⟨s1,s2⟩:=zDB (S:=fun b=>∃r,T r b) a.ext.in';have ui:∀b,(∃r,T r b)->As i b:=fun b ⟨r,z⟩=>kd.sub r b z
  have x:Ext G0 H0 (over G H fun b=>∃r,T r b) H:=⟨a.ext.g.trans s1,a.ext.h,s2,fun b hb=>by
   have z:¬ ∃r,T r b:=fun z=>hb (a.new i b (ui b z)).1
   rw[zC9 z];exact a.ext.old b hb⟩
  refine⟨over G H fun b=>∃r,T r b,fun j b=>As j b/\¬ ∃r,T r b,x,a.stb.trans s1,a.tab,by simp[a.len],fun j e n h=>?_,fun j l b p q=>a.dis j l b p.1 q.1,fun j b p=>?_⟩
  ·have hj:j<ρ.length:=by
    have:=(qA2.mp h).1;simpa using this
   by_cases z:i=j
   ·subst z;rw[qA6 hj]at h;cases h;exact⟨.ref q,h1,q,xs,fun _ _=>False,rfl,hq,⟨kd.len,fun r d x g1 g2=>(kd.own r d x g1 g2).rep s1 fun b o hb e=>by rw[zE0 ⟨r,hb⟩];exact e,⟨kd.top,fun⟨r,z⟩=>kd.out r z⟩,fun _ z=>z,fun _ _ _ z=>z.elim,fun _ _ z=>z.elim⟩⟩
   ·rw[qAa z]at h;obtain⟨u,q1,q2⟩:=a.at j e n h;exact⟨u,q1,(q2.mono s1 (Same.refl _)).sub fun b hb=>⟨hb,fun w=>z (a.dis i j b (ui b w) hb)⟩⟩
  ·obtain⟨n1,n2,n3⟩:=a.new j b p.1;exact⟨n1,by rw[zC9 p.2];exact n2,n3⟩
 ·exact⟨G,As,a⟩
end
section
variable[Kc]{mg:Str->Option Value}{E:XK}{L n k l:Nat}{te ta tb:TE}{e ea eb ma:EM}{t:TA}{m:AM}
theorem zQF(i:Nat)(vs:List Nat){n1:Nat}{t1 t2:TE}{e1 e2:EM}(A:DE mg E t1 e1 n1)(B:DE mg E t2 e2 n):DS mg E L (tAsg t2 (gSub (vM i) t1 setM)) (Mi.sItemF i vs e1 e2):=by
 intro G0 H0 S0 σ ρ G H As D a p;obtain⟨G1,As1,a1⟩:=a.low i;obtain⟨G2,As2,a2⟩:=Sat.frzAt vs a1;unfold Mi.sItemF at p;generalize hρ:frzAt vs (Mi.low i ρ)=ρ2 at p a2;refine(zB2 B).step (errS.from a2.ext) a2.ext.in' a2.frz p fun d y G3 H3 S _ fr o p1=>?_
 have a3:=a2.wider fr.ext;split at p1
 ·rename_i ds er
  obtain⟨v,h1,q,xs,T,rfl,hq,kd⟩:=a3.at i _ _ er;unfold gSub vM;rw[h1];obtain⟨J,x,s,w⟩:=a3.full;refine(zB2 A).step (errS.from x) x.in' w p1 fun z u G4 H4 S2 ee fr2 o2 p2=>?_
  split at p2
  ·rename_i z
   cases(show u=.int z from o2)
   split at p2
   ·rename_i c ei
    rw[zIW]at ei;refine⟨xs,c,fr2.ext.h _ _ hq,by rw[kd.len];exact ei,?_⟩;have a4:=a3.grow fr2.ext.h;refine p2 σ G3 _ _ (a4.store (S:=As2 i) kd.top h1 ⟨q,_,fun _ _=>False,rfl,zAM,⟨by simp[kd.len],fun r d' z' g1 g2=>?_,kd.top,fun _ z=>z,fun _ _ _ z=>z.elim,fun _ _ z=>z.elim⟩⟩ fun b z=>.inl z)
    by_cases hr:c=r
    ·subst hr;have hc:c<ds.length:=by
      have:=(qA2.mp g1).1;simpa using this
     rw[qA6 hc]at g1;rw[qA6 (by rw[kd.len];exact hc)]at g2;cases g1;cases g2;exact o
    ·rw[qAa hr]at g1 g2;exact kd.own r d' z' g1 g2
   ·exact p2.elim
  ·exact p2.elim
 ·exact p1.elim
theorem zQE(i:Nat){n1 n2:Nat}{t1 t2:TE}{e1 e2:EM}(A:DE mg E t1 e1 n1)(B:DE mg E t2 e2 n2):DS mg E L (tAsg (tOp (rIxU Kc.K) (vM i) t2) (gSub (vM i) t1 setM)) (Mi.sItemS i e1 e2):=by
 intro G0 H0 S0 σ ρ G H As D a p;obtain⟨G1,As1,a2⟩:=a.low i;unfold Mi.sItemS at p;generalize hρ:Mi.low i ρ=ρ2 at p a2;split at p
 ·rename_i ds er
  obtain⟨v,h1,q,xs,T,rfl,hq,kd⟩:=a2.at i _ _ er;unfold tAsg tOp vM;rw[h1];obtain⟨J,x,s,w⟩:=a2.full;refine(zB2 B).step (errS.from x) x.in' w p fun z u G4 H4 S2 ee fr2 o2 p2=>?_
  split at p2
  ·rename_i y
   cases(show u=.int y from o2)
   split at p2
   ·rename_i d ed
    have ed':=ed;unfold Mi.itA at ed;cases ej:Mi.ixA ds.length y with
    |none=>rw[ej]at ed;cases ed
    |some j=>
     rw[ej]at ed;have edj:ds[j]?=some d:=ed;have hj:j<xs.length:=by rw[kd.len];exact(qA2.mp edj).1
     refine⟨xs,xs[j],.inl (SqL.of (fr2.ext.h _ _ hq)),?_,?_⟩
     ·rw[<- zNP];unfold Mi.itA;rw[kd.len,ej];exact qA5 hj
     have a3:=a2.grow fr2.ext.h;obtain⟨J3,x3,s3,w3⟩:=a3.full;unfold gSub;dsimp only;rw[h1];refine(zB2 A).step (errS.from x3) x3.in' w3 p2 fun z u G5 H5 S3 ee3 fr3 o3 p3=>?_
     split at p3
     ·rename_i z
      cases(show u=.int z from o3)
      split at p3
      ·rename_i c ei
       rw[zIW]at ei;refine⟨xs,c,fr3.ext.h _ _ (fr2.ext.h _ _ hq),by rw[kd.len];exact ei,?_⟩;have a4:=a3.grow fr3.ext.h;refine p3 σ G1 _ _ (a4.store (S:=As1 i) kd.top h1 ⟨q,_,fun _ _=>False,rfl,zAM,⟨by simp[kd.len],fun r d' z' g1 g2=>?_,kd.top,fun _ z=>z,fun _ _ _ z=>z.elim,fun _ _ z=>z.elim⟩⟩ fun b z=>.inl z)
       by_cases hr:c=r
       ·subst hr;have hc:c<ds.length:=by
         have:=(qA2.mp g1).1;simpa using this
        rw[qA6 hc]at g1;rw[qA6 (by rw[kd.len];exact hc)]at g2;cases g1;cases g2;exact kd.own j d _ edj (qA5 hj)
       ·rw[qAa hr]at g1 g2;exact kd.own r d' z' g1 g2
      ·exact p3.elim
     ·exact p3.elim
   ·exact p2.elim
  ·exact p2.elim
 ·exact p.elim
end
structure XNo(K:qA1)(mg:Str->Option Value)(c:Str)(C:Addr):Prop extends XCls K mg c C where
 kp:qB1 K (.ref C)=true
 ini:qAt K (.ref C) "__init__" = some (some (.builtin "ValueError.__init__"))
theorem zV5{X:Cx}{c:Str}{C:Addr}{e:Expr}{es:List Expr}{t:TA}{p pos:Pos}(h:XNo X.K X.mg c C)(hg:Gl X c)(ha:PA X (e::es) t)(hdb:(c==("__debug__":Str))=false:=by decide)
  (he:starEach (e::es) X.env=(false,eval e X.env)::starEach es X.env:=by rfl) (hpl:(backTo pos (starEach es X.env)).any (·.1)=false:=by rfl):PE X (.Call (.Name c p) (e::es) [] pos) (zJQ C t):=
 zN4 h.is.xc h.ini hg h.gm h.kp ha hdb he hpl
section
variable[Kc]{mg:Str->Option Value}{E:XK}{L n k l:Nat}{te ta tb:TE}{e ea eb ma:EM}{t:TA}{m:AM}
theorem zO2{c:Str}{C:Addr}(h:XNo Kc.K mg c C)(A:DA mg E t m 0):DS mg E L (zR0 Kc.K E (zJQ C t)) (Mi.sRaise0 c m):=by
 intro G0 H0 S0 σ ρ G H As D a p;obtain⟨J,x,s,w⟩:=a.full;refine A.step (errS.from x) x.in' w p fun ds vs G1 H1 S T _ fr o p1=>?_
 split at p1
 ·rename_i hz
  refine⟨by rw[o.len];exact big' (by lia),fun e he=>⟨e,C,none,rfl,zAM,h.is.xc,?_⟩⟩;have hu:upd (upd H1 e (xn e (.ref C) none)) e (xo e (.ref C) none)=upd H1 e (xo e (.ref C) none):=by
   funext z;by_cases h1:z=e
   ·rw[h1,zAM,zAM]
   ·rw[zAL h1,zAL h1,zAL h1]
  rw[hu];exact p1 (.ref e) none _ _ ((x.trans fr.ext).trans (Ext.new fr.ext.in' he _)) ⟨e,C,rfl,zAM,h.cl,.inl ⟨rfl,rfl⟩⟩
 ·exact p1.elim
end
end L3
namespace Mi
open PySem
def sumD:List Dt->Option Dt
 |[.lst ds]=>match intsD ds with
  |some ns=>@ite _ (ns.length<=100000/\∀n∈ns,-1000000<=n/\n<=1000000) (qA3 _) (some (.int ns.sum)) none
  |none=>none
 |_=>none
noncomputable def topI:List Int->Int
 |[]=>0
 |[x]=>x
 |x::y::r=>max x (topI (y::r))
def maxL:List Dt->Option Dt
 |[.int i,.int j]=>some (.int (if j>i then j else i))
 |[.lst ds]=>match intsD ds with
  |some (n::ns)=>some (.int (topI (n::ns)))
  |_=>none
 |_=>none
def sPopD(i:Nat)(e:EM):SM:=fun ρ=>match ρ[i]? with
 |some (some (.lst ds,k+1))=>zA3 (e (full ρ)) fun d=>match d with
  |.int z=>match ixA ds.length z with
   |some q=>@ite _ (ds.length<=1000000) (qA3 _) (okR (.nx (ρ.set i (some (.lst (ds.eraseIdx q),k+1))))) none
   |none=>none
  |_=>none
 |_=>none
def sApp2(i n:Nat)(e0 e:EM):SM:=fun ρ=>match ρ[i]? with
 |some (some (.lst rs,k+2))=>zA3 (e0 (full ρ)) fun y=>match y with
  |.int y=>match ixA rs.length y with
   |some p=>match rs[p]? with
    |some (.lst ds)=>zA3 (e (full ρ)) fun d=>@ite _ (ds.length<=100000/\d.dep<=n/\d.dep<=k) (qA3 _) (okR (.nx (ρ.set i (some (.lst (rs.set p (.lst (ds++[d]))),k+2))))) none
    |_=>none
   |none=>none
  |_=>none
 |_=>none
noncomputable def addAll(c:Int):List Dt->Option (List Dt)
 |[]=>some []
 |.lst ds::r=>@ite _ (ds.length<=100000) (qA3 _) ((addAll c r).map (.lst (ds++[.int c])::·)) none
 |_::_=>none
def sForApp(i r:Nat)(c:Int):SM:=fun ρ=>match ρ[i]? with
 |some (some (.lst rs,k+2))=>match addAll c rs with
  |some rs'=>if i≠r/\r<ρ.length then okR (.nx ((ρ.set i (some (.lst rs',k+2))).set r none))else none
  |none=>none
 |_=>none
end Mi
namespace L2
open PySem PySem.Spec PyProof.Rows
section
variable{X:Cx}{x:Str}{j k:Nat}{ps:List Str}{sp:Sp}{e:Expr}{es:List Expr}{t:TA}{p pos:Pos}
end
section
variable{prog:qGn}{w:World}{A:qGo}{E:Value->qGk->Prop}{s:qGk}{T:String}{r:Addr}{fp:List Addr}{n:Nat}{P:Nat->Value->Prop}{St:Nat->Heap->Prop}
end
section
variable{prog:qGn}{w:World}{A:qGo}{E:Value->qGk->Prop}{s:qGk}{x:Str}{t:Tok}
end
end L2
namespace L3
open PySem PySem.Spec
open L2 hiding Rep RepL
open Mi (Dt Xn R okR zA3 optR zA0 zA4 zA7 zA5 zA6 Rh Sl Ro EM TM AM FM IM SM Tg Out bindT zAK zAP full frz frz1 frzAt)
section
variable[Kc]{mg:Str->Option Value}{E:XK}{L n k l:Nat}{te ta tb:TE}{e ea eb ma:EM}{t:TA}{m:AM}
theorem zSZ{f:List Dt->Option Dt}(h1:f []=none)(h2:∀d,(∀es,d≠.lst es)->f [d]=none)(h3:∀a b r,f (a::b::r)=none):∀ds,(∀es,ds≠[.lst es])->f ds=none:=by
 intro ds h
 match ds,h with
 |[],_=>exact h1
 |[d],h=>exact h2 d fun es z=>h es (by rw[z])
 |a::b::r,_=>exact h3 a b r
end
section
variable[Kc]{G0 H0 S0:Hp}{σ:St}{ρ:Ro}{G H:Hp}{As:Nat->Addr->Prop}
theorem Sat.forget(a:Sat G0 H0 S0 σ ρ G H As)(r:Nat)(v:V):Sat G0 H0 S0 (σ.set r (some v)) (ρ.set r none) G H As:=by
 refine⟨a.ext,a.stb,a.tab,by simp[a.len],fun j e k h=>?_,a.dis,a.new⟩
 by_cases z:r=j
 ·subst z;have hj:r<ρ.length:=by
   have:=(qA2.mp h).1;simpa using this
  rw[qA6 hj]at h;cases h
 ·rw[qAa z]at h;obtain⟨u,h1,h2⟩:=a.at j e k h;exact⟨u,by rw[qAa z];exact h1,h2⟩
theorem Sat.row(a:Sat G0 H0 S0 σ ρ G H As){i k c:Nat}{rs ds:List Dt}{q:Addr}(er:ρ[i]?=some (some (.lst rs,k+2)))(hv:σ[i]?=some (some (.ref q)))(ec:rs[c]?=some (.lst ds)) :
  ∃(xs:List V)(qr:Addr)(ys:List V),H q=some (.lst xs)/\xs.length=rs.length/\xs[c]?=some (.ref qr)/\H qr=some (.lst ys)/\ys.length=ds.length /\
   ∀(ds':List Dt)(ys':List V),ys'.length=ds'.length->(∀(r:Nat)(d:Dt)(z:V),ds'[r]?=some d->ys'[r]?=some z->(ds[r]?=some d/\ys[r]?=some z)\/(d.dep=0/\Rep G d z)) ->
    Sat G0 H0 S0 σ (ρ.set i (some (.lst (rs.set c (.lst ds')),k+2))) G (upd H qr (.lst ys')) As:=by
 obtain⟨v,h1,q',xs,T,rfl,hq,kd⟩:=a.at i _ _ er;rw[hv]at h1;cases h1;have hc:c<xs.length:=by rw[kd.len];exact(qA2.mp ec).1
 have hxc:xs[c]?=some xs[c]:=qA5 hc;obtain⟨qr,ys,U,er2,hqr,kr⟩:=kd.own c _ _ ec hxc;refine⟨xs,qr,ys,hq,kd.len,by rw[hxc,er2],hqr,kr.len,fun ds' ys' hl hs=>?_⟩;have tqr:T c qr:=kr.top;have iqr:As i qr:=kd.sub c qr tqr;have qne:q≠qr:=fun z=>kd.out c (z▸tqr)
 have b:=a.store (S:=As i) (p:=qr) (o:=.lst ys') (d:=.lst (rs.set c (.lst ds'))) (n:=k+2) (v:=.ref q) iqr hv ⟨q,xs,T,rfl,(zAL qne).trans hq,⟨by simp[kd.len],fun r d' xr g1 g2=>?_,kd.top,kd.out,kd.dis,kd.sub⟩⟩ fun b z=>.inl z
 ·refine⟨b.ext,b.stb,b.tab,b.len,fun j d n h=>?_,a.dis,fun j b' h=>?_⟩
  ·obtain⟨v,g1,g2⟩:=b.at j d n h;refine⟨v,g1,?_⟩
   by_cases z:j=i
   ·subst z;rw[if_pos rfl]at g2;exact g2
   ·rw[if_neg z]at g2;exact g2
  ·have:=b.new j b' (by
    by_cases z:j=i
    ·subst z;rw[if_pos rfl];exact h
    ·rw[if_neg z];exact h)
   exact this
 ·by_cases hr:c=r
  ·subst hr;rw[qA6 (by rw[<- kd.len];exact hc)]at g1;cases g1;rw[hxc]at g2;cases g2;refine⟨qr,ys',U,er2,zAM,⟨hl,fun r d z e1 e2=>?_,tqr,kr.out,kr.dis,kr.sub⟩⟩
   rcases hs r d z e1 e2 with⟨g3,g4⟩|⟨g3,g4⟩
   ·exact(kr.own r d z g3 g4).upd (kr.out r)
   ·exact zRB g4 g3
  ·rw[qAa hr]at g1;exact(kd.own r d' xr g1 g2).upd fun z=>hr (kd.dis c r qr tqr z)
end
section
variable[Kc]{mg:Str->Option Value}{E:XK}{L n k l:Nat}{te ta tb:TE}{e ea eb ma:EM}{t:TA}{m:AM}
theorem addAll_len{c:Int}:∀{rs rs':List Dt},Mi.addAll c rs=some rs'->rs'.length=rs.length
 |[],rs',h=>by cases h;rfl
 |d::r,rs',h=>by
  cases d with
  |lst ds=>
   rw[Mi.addAll]at h;split at h
   ·cases e:Mi.addAll c r with
    |none=>rw[e]at h;cases h
    |some q=>rw[e]at h;cases h;simp[addAll_len e]
   ·cases h
  |_=>cases h
theorem zJI{c:Int}:∀{rs rs':List Dt}{p:Nat},Mi.addAll c rs=some rs'->p<rs.length->∃ds,rs[p]?=some (.lst ds)/\rs'[p]?=some (.lst (ds++[.int c]))/\ds.length<=100000
 |[],rs',p,h,hp=>by simp at hp
 |d::r,rs',p,h,hp=>by
  cases d with
  |lst ds=>
   rw[Mi.addAll]at h;split at h
   ·rename_i hz
    cases e:Mi.addAll c r with
    |none=>rw[e]at h;cases h
    |some q=>
     rw[e]at h;cases h;cases p with
     |zero=>exact⟨ds,rfl,rfl,hz⟩
     |succ p=>exact zJI (p:=p) e (by simpa using hp)
   ·cases h
  |_=>cases h
theorem zO4(i r:Nat)(c:Int):DS mg E L (fun D σ H=>iAny Kc.K (vM i) σ H (zLJ (zEH r) (zLK (tML appM (vM r) (zFA (tC (.int c)) tNil))) D σ)) (Mi.sForApp i r c):=by
 intro G0 H0 S0 σ ρ G H As D a p;unfold Mi.sForApp at p;split at p
 ·rename_i rs k e1
  split at p
  ·rename_i rs' ea
   split at p
   ·rename_i hir
    obtain⟨v,h1,q,xs0,T0,rfl,hq0,kd0⟩:=a.at i _ _ e1;unfold iAny vM;rw[h1];refine .inl ⟨⟨xs0,SqL.of hq0⟩,?_⟩;have hil:i<ρ.length:=(qA2.mp e1).1;have hal:=addAll_len ea;refine⟨fun j cc σ H=>cc=rs.length-j/\j<=rs.length/\σ[i]?=some (some (.ref q))/\(j=0->σ.length=ρ.length)/\∃As,Sat G0 H0 S0 σ (if j=0 then ρ else(ρ.set i (some (.lst (rs'.take j++rs.drop j),k+2))).set r none) G H As,
     ⟨_,rfl,qAh _,h1,fun _=>a.len.symm,As,by rw[if_pos rfl];exact a⟩,?_⟩
    rintro j cc σ H ⟨rfl,hj,hv,hsl,As,a⟩
    have er:(if j=0 then ρ else(ρ.set i (some (.lst (rs'.take j++rs.drop j),k+2))).set r none)[i]?=some (some (.lst (rs'.take j++rs.drop j),k+2)):=by
     by_cases z:j=0
     ·subst z;rw[if_pos rfl];simpa using e1
     ·rw[if_neg z,qAa (fun y=>hir.1 y.symm),qA6 hil]
    obtain⟨v,h2,q',xs,T,e',hq,kd⟩:=a.at i _ _ er;rw[hv]at h2;cases h2;cases e';have hlen:(rs'.take j++rs.drop j).length=rs.length:=by simp[hal];lia
    by_cases hlt:j<rs.length
    ·obtain⟨ds,g1,g2,g3⟩:=zJI ea hlt;have ec:(rs'.take j++rs.drop j)[j]?=some (.lst ds):=by
      rw[qAe (by simp;lia)];simp[hal,qCy (qB6 hlt),g1]
     refine .inr ⟨⟨xs,xs[j]'(by rw[kd.len,hlen];exact hlt),SqL.of hq,by simp⟩,fun σ' H'=>j+1<=rs.length/\σ'[i]?=some (some (.ref q))/\(j+1=0->σ'.length=ρ.length)/\∃As,Sat G0 H0 S0 σ' (if j+1=0 then ρ else(ρ.set i (some (.lst (rs'.take (j+1)++rs.drop (j+1)),k+2))).set r none) G H' As,fun σ' H' y=>⟨rs.length-(j+1),by lia,rfl,y⟩,fun x H2 hy=>?_⟩;obtain⟨rfl,hy⟩:=hy;obtain⟨xs2,qr,ys,w1,w2,w3,w4,w5,w6⟩:=a.row er hv ec;have hx:=hy xs2 (SqL.of w1);rw[w3]at hx;cases hx;have hrl:r<σ.length:=by rw[<- a.len];by_cases z:j=0<;>simp[z,hir.2]
     show zLK (tML appM (vM r) (zFA (tC (.int c)) tNil)) _ (σ.set r (some (.ref qr))) _;unfold zLK tML vM;rw[qA6 hrl];refine⟨ys,w4,?_⟩;unfold zFA tC tNil;dsimp only;refine⟨ys,w4,by rw[w5];exact L2.big (by lia),?_⟩;have a2:=(w6 (ds++[.int c]) (ys++[.int c]) (by simp[w5]) fun u d z e3 e4=>by
      by_cases hu:u<ds.length
      ·rw[qAd hu]at e3;rw[qAd (by rw[w5];exact hu)]at e4;exact .inl ⟨e3,e4⟩
      ·rw[qAe (by lia)]at e3;rw[qAe (by rw[w5];lia),w5]at e4;have hq0:u-ds.length=0:=by
        have:=(qA2.mp e3).1;simp at this;lia
       rw[hq0]at e3 e4;simp at e3 e4;subst e3;subst e4;exact .inr ⟨rfl,rfl⟩).forget r (.ref qr)
     refine⟨hlt,by rw[qAa (fun y=>hir.1 y.symm)];exact hv,fun z=>by lia,As,?_⟩;rw[if_neg (by lia)];have eset:(rs'.take j++rs.drop j).set j (.lst (ds++[.int c]))=rs'.take (j+1)++rs.drop (j+1):=by
      have hj2:j<rs'.length:=by lia
      have gj:rs'[j]=.lst (ds++[.int c]):=by
       have:=qA5 hj2;rw[g2]at this;exact(qAk this).symm
      rw[qC0 _ _ (by simp;lia),qCd hj2,gj];simp only[qC5,qCy (qB6 hj2),qG7];rw[qCg]
      congr 1;rw[qAy hlt];rfl
     rw[eset]at a2;by_cases z:j=0
     ·subst z;rw[if_pos rfl]at a2;exact a2
     ·rw[if_neg z]at a2;have e5:(((ρ.set i (some (.lst (rs'.take j++rs.drop j),k+2))).set r none).set i (some (.lst (rs'.take (j+1)++rs.drop (j+1)),k+2))).set r none=(ρ.set i (some (.lst (rs'.take (j+1)++rs.drop (j+1)),k+2))).set r none:=by
       rw[qEg _ _ (fun y:r=i=>hir.1 y.symm),qCm,qCm]
      rw[e5]at a2;exact a2
    ·have ej:j=rs.length:=by lia
     subst ej;refine .inl ⟨⟨xs,SqL.of hq,by rw[kd.len,hlen];exact qA9 _⟩,?_⟩;have e6:rs'.take rs.length++rs.drop rs.length=rs':=by rw[<- hal,qDo,hal,qC6,qBx]
     by_cases z:rs.length=0
     ·rw[if_pos z]at a;have hrs:rs=[]:=qBl z;subst hrs
      have:rs'=[]:=qBl hal;subst this;have e7:ρ.set i (some (.lst [],k+2))=ρ:=by
       have:=(qA2.mp e1).2;rw[<- this,qCl]
      rw[e7]at p;refine p σ G H As ⟨a.ext,a.stb,a.tab,by simp[a.len],fun j d n h=>?_,a.dis,a.new⟩
      by_cases y:r=j
      ·subst y;rw[qA6 hir.2]at h;cases h
      ·rw[qAa y]at h;exact a.at j d n h
     ·rw[if_neg z,e6]at a;exact p σ G H As a
   ·exact p.elim
  ·exact p.elim
 ·exact p.elim
end
end L3
namespace Mi
open PySem
noncomputable def ded:List Nat->List Nat
 |[]=>[]
 |a::r=>if a∈ded r then ded r else a::ded r
def sosL(l:List Nat):List Nat:=(ded l).mergeSort fun a b=>decide (a<=b)
end Mi
namespace Mi
def rowSet(ρ:Rh)(r:Nat)(e1 e2:EM):Dt->Option Dt
 |.lst ds=>match e2 (ρ.set r (some (.lst ds)))with
  |some (.ok (.int v))=>match e1 (ρ.set r (some (.lst ds)))with
   |some (.ok (.int z))=>match ixA ds.length z with
    |some p=>some (.lst (ds.set p (.int v)))
    |none=>none
   |_=>none
  |_=>none
 |_=>none
def rowsSet(ρ:Rh)(r:Nat)(e1 e2:EM):List Dt->Option (List Dt)
 |[]=>some []
 |d::t=>match rowSet ρ r e1 e2 d with
  |some d'=>(rowsSet ρ r e1 e2 t).map (d'::·)
  |none=>none
def sForSet(i r:Nat)(e1 e2:EM):SM:=fun ρ=>match ρ[i]? with
 |some (some (.lst rs,k+2))=>match rowsSet ((full ρ).set i none) r e1 e2 rs with
  |some rs'=>if i≠r/\r<ρ.length then okR (.nx ((ρ.set i (some (.lst rs',k+2))).set r none))else none
  |none=>none
 |_=>none
end Mi
namespace L3
open PySem PySem.Spec
open L2 hiding Rep RepL
open Mi (Dt Xn R okR zA3 optR zA0 zA4 zA7 zA5 zA6 Rh Sl Ro EM TM AM FM IM SM Tg Out bindT zAK zAP full frz frz1 frzAt)
section
variable[Kc]{mg:Str->Option Value}{E:XK}{L n n1:Nat}{t1 t2:TE}{e1 e2:EM}
theorem rowsSet_len{ρ:Rh}{r:Nat}:∀{rs rs':List Dt},Mi.rowsSet ρ r e1 e2 rs=some rs'->rs'.length=rs.length
 |[],rs',h=>by cases h;rfl
 |d::t,rs',h=>by
  rw[Mi.rowsSet]at h;split at h
  ·cases e:Mi.rowsSet ρ r e1 e2 t with
   |none=>rw[e]at h;cases h
   |some q=>rw[e]at h;cases h;simp[rowsSet_len e]
  ·cases h
theorem zMO{ρ:Rh}{r:Nat}{d d':Dt}(h:Mi.rowSet ρ r e1 e2 d=some d'):∃ds v z p,d=.lst ds/\e2 (ρ.set r (some (.lst ds)))=okR (.int v)/\e1 (ρ.set r (some (.lst ds)))=okR (.int z)/\Mi.ixA ds.length z=some p/\d'=.lst (ds.set p (.int v)):=by
 cases d with
 |lst ds=>
  unfold Mi.rowSet at h;dsimp only at h;split at h
  ·rename_i v h2
   split at h
   ·rename_i z h1
    split at h
    ·rename_i p hp
     exact⟨ds,v,z,p,rfl,h2,h1,hp,(qAk h).symm⟩
    ·cases h
   ·cases h
  ·cases h
 |_=>cases h
theorem zGQ{ρ:Rh}{r:Nat}:∀{rs rs':List Dt}{p:Nat},Mi.rowsSet ρ r e1 e2 rs=some rs'->p<rs.length->∃d d',rs[p]?=some d/\rs'[p]?=some d'/\Mi.rowSet ρ r e1 e2 d=some d'
 |[],rs',p,h,hp=>by simp at hp
 |d::t,rs',p,h,hp=>by
  rw[Mi.rowsSet]at h;split at h
  ·rename_i d' hd
   cases e:Mi.rowsSet ρ r e1 e2 t with
   |none=>rw[e]at h;cases h
   |some q=>
    rw[e]at h;cases h;cases p with
    |zero=>exact⟨d,d',rfl,rfl,hd⟩
    |succ p=>exact zGQ (p:=p) e (by simpa using hp)
  ·cases h
theorem zO3(i r:Nat)(A:DE mg E t1 e1 n1)(B:DE mg E t2 e2 n):DS mg E L (fun D σ H=>iAny Kc.K (vM i) σ H (zLJ (zEH r) (tAsg t2 (gSub (vM r) t1 setM)) D σ)) (Mi.sForSet i r e1 e2):=by
 intro G0 H0 S0 σ ρ G H As D a p;unfold Mi.sForSet at p;split at p
 ·rename_i rs k e1'
  split at p
  ·rename_i rs' ea
   split at p
   ·rename_i hir
    obtain⟨v,h1,q,xs0,T0,rfl,hq0,kd0⟩:=a.at i _ _ e1';unfold iAny vM;rw[h1];refine .inl ⟨⟨xs0,SqL.of hq0⟩,?_⟩;have hil:i<ρ.length:=(qA2.mp e1').1;have hal:=rowsSet_len ea;refine⟨fun j cc σ H=>cc=rs.length-j/\j<=rs.length/\σ[i]?=some (some (.ref q))/\(j=0->σ.length=ρ.length)/\∃As,Sat G0 H0 S0 σ (if j=0 then ρ else(ρ.set i (some (.lst (rs'.take j++rs.drop j),k+2))).set r none) G H As,
     ⟨_,rfl,qAh _,h1,fun _=>a.len.symm,As,by rw[if_pos rfl];exact a⟩,?_⟩
    rintro j cc σ H ⟨rfl,hj,hv,hsl,As,a⟩
    generalize hρ:(if j=0 then ρ else(ρ.set i (some (.lst (rs'.take j++rs.drop j),k+2))).set r none)=ρj at a
    have er:ρj[i]?=some (some (.lst (rs'.take j++rs.drop j),k+2)):=by
     rw[<- hρ];by_cases z:j=0
     ·subst z;rw[if_pos rfl];simpa using e1'
     ·rw[if_neg z,qAa (fun y=>hir.1 y.symm),qA6 hil]
    have hfe:∀d,((full ρj).set i none).set r (some d)=((full ρ).set i none).set r (some d):=fun d=>by
     rw[<- hρ];by_cases z:j=0
     ·rw[if_pos z]
     ·rw[if_neg z];unfold Mi.full;rw[qEv,qEv,qEg _ _ (fun y:r=i=>hir.1 y.symm),qCm,qCm]
    obtain⟨v,h2,q',xs,T,e',hq,kd⟩:=a.at i _ _ er;rw[hv]at h2;cases h2;cases e';have hlen:(rs'.take j++rs.drop j).length=rs.length:=by simp[hal];lia
    by_cases hlt:j<rs.length
    ·obtain⟨d0,d1,g1,g2,g3⟩:=zGQ ea hlt;obtain⟨ds,vv,zz,pp,rfl,k2,k1,kp,rfl⟩:=zMO g3;have ec:(rs'.take j++rs.drop j)[j]?=some (.lst ds):=by
      rw[qAe (by simp;lia)];simp[hal,qCy (qB6 hlt),g1]
     refine .inr ⟨⟨xs,xs[j]'(by rw[kd.len,hlen];exact hlt),SqL.of hq,by simp⟩,fun σ' H'=>j+1<=rs.length/\σ'[i]?=some (some (.ref q))/\(j+1=0->σ'.length=ρ.length)/\∃As,Sat G0 H0 S0 σ' (if j+1=0 then ρ else(ρ.set i (some (.lst (rs'.take (j+1)++rs.drop (j+1)),k+2))).set r none) G H' As,fun σ' H' y=>⟨rs.length-(j+1),by lia,rfl,y⟩,fun x H2 hy=>?_⟩;obtain⟨rfl,hy⟩:=hy;obtain⟨xs2,qr,ys,w1,w2,w3,w4,w5,_⟩:=a.row er hv ec;have hx:=hy xs2 (SqL.of w1);rw[w3]at hx;cases hx;have hrl:r<σ.length:=by rw[<- a.len,<- hρ];by_cases z:j=0<;>simp[z,hir.2]
     obtain⟨J,xj,sj,wj⟩:=a.full;have rj:Rep J (.lst ds) (.ref qr):=by
      obtain⟨u,u1,u2⟩:=wj.at i (.lst (rs'.take j++rs.drop j)) (by unfold Mi.full;rw[qAc,er];rfl);rw[hv]at u1;cases u1;obtain⟨b,zs,z1,z2,z3⟩:=u2;cases z1;have z4:=xj.in' _ _ z2;rw[w1]at z4;cases z4;exact zBU z3 ec w3
     have wv:View J (σ.set r (some (.ref qr))) (((full ρ).set i none).set r (some (.lst ds))):=by
      rw[<- hfe];refine View.set ⟨by simp[wj.len],fun u d hu=>?_,wj.tab⟩ rj
      by_cases z:i=u
      ·subst z;rw[qA6 (by rw[wj.len];exact(qA2.mp hv).1)]at hu;cases hu
      ·rw[qAa z]at hu;exact wj.at u d hu
     show tAsg t2 (gSub (vM r) t1 setM) _ (σ.set r (some (.ref qr))) _;refine zB2 B J H2 _ _ _ xj.in' wv ?_;rw[k2];intro v2 G1 H1 S1 fr2 o2;cases(show v2=.int vv from o2)
     unfold gSub vM;rw[qA6 hrl];have x1:Ext J H2 J H1:=Ext.same xj.in' fr2.ext.h;refine zB2 A J H1 _ _ _ x1.in' wv ?_;rw[k1];intro v3 G3 H3 S3 fr3 o3;cases(show v3=.int zz from o3)
     have sH:=fr2.ext.h.trans fr3.ext.h;obtain⟨xs3,qr3,ys3,y1,y2,y3,y4,y5,y6⟩:=(a.grow sH).row er hv ec;have y7:=sH _ _ w1;rw[y1]at y7;cases y7;rw[w3]at y3;cases y3;have y8:=sH _ _ w4;rw[y4]at y8;cases y8;refine⟨ys,pp,y4,by rw[y5,<- zIW];exact kp,?_⟩;have a2:=(y6 (ds.set pp (.int vv)) (ys.set pp (.int vv)) (by simp[y5]) fun u d z e3 e4=>by
      by_cases hu:pp=u
      ·subst hu;have h3:=(qA2.mp e3).1;have h4:=(qA2.mp e4).1;rw[qA6 (by simpa using h3)]at e3;rw[qA6 (by simpa using h4)]at e4;cases e3;cases e4;exact .inr ⟨rfl,rfl⟩
      ·rw[qAa hu]at e3 e4;exact .inl ⟨e3,e4⟩).forget r (.ref qr)
     refine⟨hlt,by rw[qAa (fun y=>hir.1 y.symm)];exact hv,fun z=>by lia,As,?_⟩;rw[if_neg (by lia)];have eset:(rs'.take j++rs.drop j).set j (.lst (ds.set pp (.int vv)))=rs'.take (j+1)++rs.drop (j+1):=by
      have hj2:j<rs'.length:=by lia
      have gj:rs'[j]=.lst (ds.set pp (.int vv)):=by
       have:=qA5 hj2;rw[g2]at this;exact(qAk this).symm
      rw[qC0 _ _ (by simp;lia),qCd hj2,gj];simp only[qC5,qCy (qB6 hj2),qG7];rw[qCg]
      congr 1;rw[qAy hlt];rfl
     rw[eset]at a2;by_cases z:j=0
     ·subst z;rw[if_pos rfl]at hρ;subst hρ;exact a2
     ·rw[if_neg z]at hρ;subst hρ;have e5:(((ρ.set i (some (.lst (rs'.take j++rs.drop j),k+2))).set r none).set i (some (.lst (rs'.take (j+1)++rs.drop (j+1)),k+2))).set r none=(ρ.set i (some (.lst (rs'.take (j+1)++rs.drop (j+1)),k+2))).set r none:=by
       rw[qEg _ _ (fun y:r=i=>hir.1 y.symm),qCm,qCm]
      rw[e5]at a2;exact a2
    ·have ej:j=rs.length:=by lia
     subst ej;refine .inl ⟨⟨xs,SqL.of hq,by rw[kd.len,hlen];exact qA9 _⟩,?_⟩;have e6:rs'.take rs.length++rs.drop rs.length=rs':=by rw[<- hal,qDo,hal,qC6,qBx]
     by_cases z:rs.length=0
     ·rw[if_pos z]at hρ;subst hρ;have hrs:rs=[]:=qBl z;subst hrs
      have:rs'=[]:=qBl hal;subst this;have e7:ρ.set i (some (.lst [],k+2))=ρ:=by
       have:=(qA2.mp e1').2;rw[<- this,qCl]
      rw[e7]at p;refine p σ G H As ⟨a.ext,a.stb,a.tab,by simp[a.len],fun j d n h=>?_,a.dis,a.new⟩
      by_cases y:r=j
      ·subst y;rw[qA6 hir.2]at h;cases h
      ·rw[qAa y]at h;exact a.at j d n h
     ·rw[if_neg z,e6]at hρ;subst hρ;exact p σ G H As a
   ·exact p.elim
  ·exact p.elim
 ·exact p.elim
end
end L3
namespace Mi
open PySem
noncomputable def svD:Dt->Option Sv
 |.int i=>some (.i i)
 |.str x=>some (.s x)
 |_=>none
def svsD:List Dt->Option (List Sv)
 |[]=>some []
 |d::r=>match svD d,svsD r with
  |some v,some vs=>some (v::vs)
  |_,_=>none
noncomputable def dSv:Sv->Dt
 |.i n=>.int n
 |.s x=>.str x
def eNew(c:Str)(fl:List Str)(am:AM):EM:=fun ρ=>zA3 (am ρ) fun ds=>match svsD ds with
 |some vs=>if vs.length=fl.length then okR (.ins c (fl.zip vs))else none
 |none=>none
def zXF(c:Str):EM:=fun _=>okR (.ins c [])
def eFld(hs:List Str)(f:Str)(e:EM):EM:=fun ρ=>zA3 (e ρ) fun d=>match d with
 |.ins c fs=>if c∈hs then(match fs.lookup f with|some v=>okR (dSv v)|none=>none)else none
 |_=>none
def zXG(tb:List (Str×FM))(m:Str)(e:EM)(am:AM):EM:=fun ρ=>zA3 (e ρ) fun d=>match d with
 |.ins c fs=>match tb.lookup c with
  |some g=>match fs.lookup m with
   |none=>zA3 (am ρ) fun ds=>g (d::ds)
   |some _=>none
  |none=>none
 |_=>none
def eIsO(ys ns:List Str)(e:EM):EM:=fun ρ=>zA3 (e ρ) fun d=>match d with
 |.ins c _=>if c∈ys then okR (.bl true)else if c∈ns then okR (.bl false)else none
 |_=>none
noncomputable def kyD:Dt->Option (Sum Int Str)
 |.int i=>some (.inl i)
 |.str x=>some (.inr x)
 |_=>none
noncomputable def swD:Dt->Option Sw
 |.non=>some .non
 |.bl b=>some (.bl b)
 |.int i=>some (.int i)
 |.str x=>some (.str x)
 |_=>none
noncomputable def getW(kvs:List (Sum Int Str×Sw))(k:Sum Int Str):Option Sw:=(kvs.find? fun p=>decide (p.1=k)).map (·.2)
noncomputable def putW(kvs:List (Sum Int Str×Sw))(k:Sum Int Str)(v:Sw):List (Sum Int Str×Sw):=
 if(kvs.any fun p=>decide (p.1=k))=true then kvs.map (fun p=>if p.1=k then(p.1,v)else p)else kvs++[(k,v)]
def zVX:EM:=fun _=>okR (.dct [])
def dinD(ng:Bool)(x y:Dt):Option Dt:=match y with
 |.dct kvs=>match kyD x with
  |some k=>some (.bl (if ng=true then !(getW kvs k).isSome else(getW kvs k).isSome))
  |none=>none
 |_=>none
def zWU(i:Nat)(e1 e2:EM):SM:=fun ρ=>zA3 (e2 (full ρ)) fun v=>match ρ[i]? with
 |some (some (.dct kvs,k+1))=>zA3 (e1 (full ρ)) fun y=>match kyD y,swD v with
  |some q,some u=>@ite _ (kvs.length<=100000) (qA3 _) (okR (.nx (ρ.set i (some (.dct (putW kvs q u),k+1))))) none
  |_,_=>none
 |_=>none
def zRA:List Dt->Option (List (Sum Int Str×Sw))
 |[]=>some []
 |.tup [a,b]::r=>match kyD a,swD b,zRA r with
  |some k,some v,some q=>some ((k,v)::q)
  |_,_,_=>none
 |_::_=>none
def zWS(i:Nat)(e:EM):SM:=fun ρ=>match ρ[i]? with
 |some (some (.dct kvs,k+1))=>zA3 (e (full ρ)) fun d=>match d with
  |.lst ds=>match zRA ds with
   |some ps=>@ite _ (kvs.length+ps.length<=50000) (qA3 _) (okR (.nx (ρ.set i (some (.dct (ps.foldl (fun m p=>putW m p.1 p.2) kvs),k+1))))) none
   |none=>none
  |_=>none
 |_=>none
noncomputable def lamF(n:Nat)(e:EM):FM:=fun ds=>if ds.length=n then e (ds.map some)else none
end Mi
namespace L2
open PySem PySem.Spec PyProof.Rows
section
variable{X:Cx}{x:Str}{C:Addr}{p pos:Pos}
end
def spIns(K:qA1)(fl:List Str):Sp:=fun vs H Q _=>∃(x C dx:Addr)(ys:List V),vs=.ref x::ys/\ys.length=fl.length/\H x=some (.ins C dx [])/\Cls K C/\(∀f∈fl,zOQ K C f)/\Q .non (upd H x (.ins C dx (fl.zip ys)))
section
variable{X:Cx}{m:Str}{k:Nat}{E:XK}{o e:Expr}{es:List Expr}{ta:TE}{t:TA}{apos pos:Pos}{tb:List (Addr×Sp)}
end
section
variable{X:Cx}{pins:List (Addr×Obj)}{σ:List (Option V)}{H:Hp}{s:qGk}
theorem zBM(ns:List Int):(qA4 ns.length).map (fun i=>ns.getD i 0)=ns:=by
 refine qC7 (by simp) fun i h1 h2=>?_
 simp[h2]
end
section
variable{X:Cx}
end
end L2
namespace L2
open PySem
theorem uw1{P:List Value->Prop}(h:∀a,P [a]):∀us:List Value,us.length=1->P us
 |[a],_=>h a
theorem uw2{P:List Value->Prop}(h:∀a b,P [a,b]):∀us:List Value,us.length=2->P us
 |a::us,hl=>uw1 (P:=fun us=>P (a::us)) (h a) us (qEw hl)
theorem uw3{P:List Value->Prop}(h:∀a b c,P [a,b,c]):∀us:List Value,us.length=3->P us
 |a::us,hl=>uw2 (P:=fun us=>P (a::us)) (h a) us (qEw hl)
theorem uw4{P:List Value->Prop}(h:∀a b c d,P [a,b,c,d]):∀us:List Value,us.length=4->P us
 |a::us,hl=>uw3 (P:=fun us=>P (a::us)) (h a) us (qEw hl)
theorem oi{p q:Prop}(h:p\/q:=by first|exact qGg rfl|exact qGh rfl):p\/q:=h
end L2
namespace L3
open PySem PyProof.Rows
open L2 hiding Rep RepL
theorem fsc{N P:List Str}{sc:Scope}(a:sc.kind=.function:=by rfl)(b:sc.isCoroutine=false:=by rfl)(c:sc.isGenerator=false:=by rfl)(d:N.Nodup:=by decide +kernel)(e:N.take P.length=P:=by rfl)
  (f:∀x∈P,sc.names.lookup x=some .local\/sc.names.lookup x=some .cell:=by decide +kernel) (g:∀y∈sc.names,y.2≠.free:=by decide +kernel):FnScope N P sc:=⟨a,b,c,d,e,f,g⟩
section
variable{P:qGn}{w:World}{K:qA1}{mg:Str->Option Value}{base:Heap}{x:Str}{st:Stmt}{N ps:List Str}{k:Nat}{sp:Sp}
theorem dfM{L n:Nat}{m:Mi.SM}(D:Def K mg x st)(S:FnScope N ps (zAB st))
  (hb:∀(kV doc pm:Value)(an:Option Addr)(cdv ct:Value)(us:List Value),us.length=ps.length->qJ1 (qB3 x x (zC3 st) (zBE st) (zAB st) .none kV doc pm an cdv ct) ⟨us,[]⟩=pure (ps.zip us))
  (hbody:∀{f:Addr}{cdv:Value}{A:qGo}{outer:List Env}{s:qGk}{H:Hp}{vs:List V}{Q:VK}{E:XK},Room k (A.deeper (envOfC x (zAB st) s.heap.objs.size f cdv))->(A.deeper (envOfC x (zAB st) s.heap.objs.size f cdv)).units+64<cLine->sp0 K mg L (Mi.runF ps.length n m) vs H Q E ->
   ∃t,PSs (cxOf CX0 P w K mg base N x (zAB st) f cdv A outer s H E).nox (zBE st) t/\t { nx:=fun _ H'=>Q .non H',rt:=Q } (start N vs) H):Has P w K mg base x (k+1) ps (sp0 K mg L (Mi.runF ps.length n m)):=
 D.ok S hb (fun _ _ _ _ h=>@zJR ⟨K⟩ _ _ _ _ _ _ _ _ _ h) fun _ _ _ _ _ _ _ _ _ hr h=>hbody hr hr.units h
theorem dfX{L n:Nat}{m:Mi.SM}(D:Def K mg x st)(S:FnScope N ps (zAB st))
  (hb:∀(kV doc pm:Value)(an:Option Addr)(cdv ct:Value)(us:List Value),us.length=ps.length->qJ1 (qB3 x x (zC3 st) (zBE st) (zAB st) .none kV doc pm an cdv ct) ⟨us,[]⟩=pure (ps.zip us))
  (hbody:∀{f:Addr}{cdv:Value}{A:qGo}{outer:List Env}{s:qGk}{H:Hp}{vs:List V}{Q:VK}{E:XK},Room k (A.deeper (envOfC x (zAB st) s.heap.objs.size f cdv))->(A.deeper (envOfC x (zAB st) s.heap.objs.size f cdv)).units+64<cLine->spE K mg L (Mi.runF ps.length n m) vs H Q E ->
   ∃t,PSs (cxOf (CXe P w) P w K mg base N x (zAB st) f cdv A outer s H E) (zBE st) t/\t { nx:=fun _ H'=>Q .non H',rt:=Q } (start N vs) H):HasX P w K mg base x (k+1) ps (spE K mg L (Mi.runF ps.length n m)):=
 D.okX S hb (fun _ _ _ _ h=>@zJR ⟨K⟩ _ _ _ _ _ _ _ _ _ h) fun _ _ _ _ _ _ _ _ _ hr h=>hbody hr hr.units h
theorem mkD{K:qA1}{h:Heap}{mg:Str->Option Value}{nm:Str}{st:Stmt}{f:Addr}{oc kV dc pm cd ct:Value}{od an:Option Addr}{sl:Array (Option Value)}(X:K.In h)(G:h.Ns qGr mg)(a:qBh K qGr nm=some (some (.ref f)))(l:K.lookup f=some ⟨oc,od,.func (qB3 nm nm (zC3 st) (zBE st) (zAB st) .none kV dc pm an cd ct),sl⟩)(c:qBv K cd nm=true)(k:qB1 K (.ref f)=true):Def K mg nm st:=⟨f,_,zRK (st:=st) l c k,qC2 X G a⟩
end
section
variable{X:Cx}{pos:Pos}
theorem pgn(i:Nat){x:Str}(hN:decide X.N.Nodup=true:=by kernel_rfl)(hi:X.N[i]?=some x:=by rfl)(hx:Loc X.env.scope x:=by exact oi)(hf:X.fn x=true\/X.env.scope.names.lookup x=some .local:=by first|exact .inl rfl|exact .inr rfl|assumption):PG X (.Name x pos) (zEH i):=zCK (of_decide_eq_true hN) hi hx hf
theorem pst(i:Nat){x:Str}{e:Expr}{te:TE}{pos':Pos}(hN:X.N.Nodup)(he:PE X e te)(hi:X.N[i]?=some x:=by rfl)(hx:Loc X.env.scope x:=by exact oi)(hs:qJ0 e (some (.Name x pos')) pos.line X.env=pure false:=by rfl)(hf:X.fn x=true\/X.env.scope.names.lookup x=some .local:=by first|exact .inl rfl|exact .inr rfl|assumption):PS X (.Assign [.Name x pos'] e pos) (tAsg te (zEH i)):=zUV hN hi hx he hs hf
end
end L3
namespace L3
open PySem PySem.Spec
open L2 hiding Rep RepL
open Mi (Dt Xn R okR zA3 optR zA0 zA4 zA7 zA5 zA6 Rh Sl Ro EM TM AM FM IM SM Tg Out bindT zAK zAP full frz frz1 frzAt)
variable[Kc]
section
variable{G H:Hp}{cl:Addr}{co:Obj}
mutual
theorem Rep.del(hc:G cl=some (cel co)):∀{d:Dt}{v:V},d.dep<=40->Rep G d v->Rep (del G cl) d v
 |.non,_,_,h=>h
 |.bl _,_,_,h=>h
 |.int _,_,_,h=>h
 |.str _,_,_,h=>h
 |.lst ds,_,hd,h=>by
  obtain⟨a,xs,e,e',r⟩:=h;exact⟨a,xs,e,(zRT (zPR e' hc (by simp))).trans e',RepL.del hc (by rw[Dt.dep]at hd;lia) r⟩
 |.tup ds,_,hd,h=>by
  obtain⟨a,xs,e,e',r⟩:=h;exact⟨a,xs,e,(zRT (zPR e' hc (by simp))).trans e',RepL.del hc (by rw[Dt.dep]at hd;lia) r⟩
 |.scr _,_,h,_=>by rw[Dt.dep]at h;lia
 |.exc _ _ _,_,h,_=>by rw[Dt.dep]at h;lia
 |.ins _ _,_,h,_=>by rw[Dt.dep]at h;lia
 |.dct _,_,h,_=>by rw[Dt.dep]at h;lia
 |.fn _ _,_,h,_=>by rw[Dt.dep]at h;lia
 |.dcr _ _,_,h,_=>by rw[Dt.dep]at h;lia
 |.dsk _ _,_,h,_=>by rw[Dt.dep]at h;lia
 |.fnc _,_,h,_=>by rw[Dt.dep]at h;lia
 |.dtt _ _,_,h,_=>by rw[Dt.dep]at h;lia
 |.loc _ _,_,h,_=>by rw[Dt.dep]at h;lia
theorem RepL.del(hc:G cl=some (cel co)):∀{ds:List Dt}{xs:List V},Dt.depL ds<=40->RepL G ds xs->RepL (del G cl) ds xs
 |[],_,_,h=>h
 |d::r,_,hd,h=>by
  rw[Dt.depL]at hd;obtain⟨x,q,e,a,b⟩:=h;exact⟨x,q,e,Rep.del hc (by lia) a,RepL.del hc (by lia) b⟩
end
end
variable{mg:Str->Option Value}{E:XK}{n:Nat}
end L3
namespace L3
open PySem PySem.Spec
open L2 hiding Rep RepL
open Mi (Dt okR)
section
variable[Kc]{mg:Str->Option Value}{E:XK}{L:Nat}
end
section
variable[Kc]{n:Nat}
end
end L3
namespace L3
open PySem PyProof.Rows
open L2 hiding Rep RepL
section
variable{P:qGn}{w:World}{K:qA1}{mg:Str->Option Value}{base:Heap}{x:Str}{st:Stmt}{N ps:List Str}{k:Nat}{sp:Sp}{T:Addr}
end
end L3
namespace L3
open PySem PySem.Spec PyProof.Rows
open L2 hiding Rep RepL
structure Tabs(K:qA1)(ts:List Addr):Prop where
 no:∀P∈ts,K.lookup P=none
 «in»:∀x∈makers,∀P,codP K x=some P->(lamK K x).isSome=true->P∈ts/\∃c,qDq K c P=true
theorem zIC{K:qA1}{ts:List Addr}(T:Tabs K ts){P:Addr}{u:HO}(h:tabK K P=some u):P∈ts/\(∃q,u=.lam q)/\∃c,qDq K c P=true:=by
 unfold tabK at h;cases e:makers.find? fun x=>codP K x==some P&&(lamK K x).isSome with
 |none=>rw[e]at h;cases h
 |some x=>
  rw[e]at h;cases h;have h1:=List.mem_of_find?_eq_some e;have h2:=List.find?_some e;simp only[qBb,beq_iff_eq]at h2;obtain⟨a,b⟩:=T.in x h1 P h2.1 h2.2;exact⟨a,⟨_,rfl⟩,b⟩
theorem zNI{P:qGn}{w:World}{K:qA1}{mg mb:Str->Option Value}{CX:CXT}{k:Nat}{fa a:Addr}{fd:qH2}{x:Str}{sp:Sp}{s₁:qGk}{vs:List Value}{ns:List Int}{ts:List Addr}
  (KX:K.In s₁.heap) (hT:∀P∈ts,s₁.heap.get? P=some (qE6 #[])) (T:Tabs K ts) (hns:s₁.heap.Ns qGr mg) (hb:s₁.heap.Ns qHt mb) (hbb:∀x:Str,x≠"__name__"->mb x=qHb x) (hlim:s₁.heap.NoLimit)
  (hbm:∃bm ob,mg "__builtins__" = some (.ref bm)/\bm≠qHt/\s₁.heap.get? bm=some ob/\ob.cls=.type "module"/\ob.dict=some qHt/\ob.data=.plain) (hg:s₁.gens=#[])
  (ha:s₁.heap.get? a=some { cls:=.type "list",data:=.seq vs.toArray }) (hi:qJs vs ns) (hl:ns.length<=sizeLine) (hr:Room k qIw)
  (F:∀base:Heap,K.In base->base.Ns qGr mg->FnOk P w K mg base CX k fa fd [x] sp) (hbind:∀(s:qGk)(u:Value),qJ5 s fd ⟨[u],[]⟩ [(x,u)])
  (hsp:∀H:Hp,Same (tabK K) H->SqL K H a (ns.map V.int)->sp [.ref a] H (fun v H'=>v=.bl true/\Same (tabK K) H') fun _ _ _=>False)
  (hCX:∀H e s',CX [] H s₁ (fun _ _ _=>False) e s'->False) :
  qId (model P w) qIw (.call (.ref fa) ⟨[.ref a],[]⟩) (fun r s'=>r=.ok (.ret (.bool true))/\OldK s₁.heap s'.heap/\s'.os=s₁.os/\qI6 s'.gens) s₁:=by
 have rv:=zIA hi;have lenV:=hi.length;have tabO:∀{b:Addr}{u:HO},tabK K b=some u->s₁.heap.get? b=some (qE6 #[]):=fun e=>hT _ (zIC T e).1
 have core:∀H:Hp,(∀b u,H b=some u->(b=a/\∃o xs,u=.frz o (.lst xs))\/tabK K b=some u)->Same (tabK K) H->SqL K H a (ns.map V.int)->HOk P w H s₁.heap->(∀b,H b≠none->K.lookup b=none) ->
   qId (model P w) qIw (.call (.ref fa) ⟨[.ref a],[]⟩) (fun r s'=>r=.ok (.ret (.bool true))/\OldK s₁.heap s'.heap/\s'.os=s₁.os/\qI6 s'.gens) s₁:=by
  intro H hO hTab hS hok hK;have base_of:∀{b:Addr}{o:Obj},s₁.heap.get? b=some o->H b=none->(hidT s₁.heap H).get? b=some o:=fun e n=>zQ4 e n
  have noA:∀{b:Addr}{o:Obj},s₁.heap.get? b=some o->(∀v,o.data≠.fields v)->(∀v n,o.data≠.seq v n)->H b=none:=fun{b o} e d1 d2=>by
   cases q:H b with
   |none=>rfl
   |some u=>
    rcases hO b u q with⟨z,_⟩|z
    ·subst z;rw[ha]at e;cases e;exact absurd rfl (d2 _ _)
    ·rw[tabO z]at e;cases e;exact absurd rfl (d1 _)
  have nsK:∀{b:Addr}{m:Str->Option Value},s₁.heap.Ns b m->(hidT s₁.heap H).Ns b m:=fun{b m} ⟨o,es,ep,e,d,r⟩=>⟨o,es,ep,base_of e (noA e (fun v z=>by rw[d]at z;cases z) fun v n z=>by rw[d]at z;cases z),d,r⟩
  have hKb:K.In (hidT s₁.heap H):=fun b o e=>base_of (KX b o e) (by
   cases q:H b with
   |none=>rfl
   |some u=>rw[hK b (by rw[q];simp)]at e;cases e)
  have hM:Mod K mg (hidT s₁.heap H):=⟨hKb,nsK hns,⟨mb,nsK hb,hbb⟩,let⟨mc,h1,h2⟩:=hlim;⟨mc,nsK h1,h2⟩,let⟨bm,ob,e1,e2,e3,e4,e5,e6⟩:=hbm;⟨bm,ob,e1,e2,base_of e3 (noA e3 (fun v z=>by rw[e6]at z;cases z) fun v n z=>by rw[e6]at z;cases z),e4,e5,e6⟩⟩
  have e0:Env0 P w K mg (hidT s₁.heap H) qIw [] s₁ H:=⟨rfl,hM,fun b o e=>zT0 e,qDy (zNU _ _),trivial,fun b hb=>absurd (show b∈([]:List Addr) from hb) (by simp),hok,.of_eq hg⟩
  refine codeAny_mono ((F _ hKb (nsK hns)).run qIw [] s₁ H ⟨[.ref a],[]⟩ [.ref a] [.ref a] _ _ hr e0 (hbind s₁ (.ref a)) (.cons rfl .nil) (hsp H hTab hS)) fun r s' h=>?_
  cases r with
  |error e=>exact(hCX H e s' h).elim
  |ok fl=>
   cases fl with
   |next=>exact qA8 h
   |brk=>exact qA8 h
   |cont=>exact qA8 h
   |ret u=>
    obtain⟨v,H',os,bare,un,hok',r',q,qT⟩:=h;subst q;obtain rfl:u=qHj true:=r';refine⟨rfl,⟨fun b o e=>?_,fun b o e=>un.there b o e (by simp)⟩,os,bare⟩;cases q:H b with
    |none=>exact .inl (un.keep b o e q (by intro z;exact absurd (show b∈([]:List Addr) from z) (by simp)) (by simp))
    |some u=>
     rcases hO b u q with⟨_,ob,xs,rfl⟩|z
     ·have z2:=un.frzs b ob _ q;obtain⟨e1,_⟩:=hok b _ q;obtain⟨e2,_⟩:=hok' b _ z2;rw[e]at e1;cases e1;exact .inl e2
     ·obtain⟨hts,⟨qq,rfl⟩,c,hc⟩:=zIC T z;obtain⟨ps,e2,_⟩:=hok' b _ (qT _ _ z);have e3:=hT b hts;rw[e3]at e;cases e;exact .inr (.inl ⟨((PySem.W.codeHd_of_K KX hc).tab e3).isCodeTable,rfl,#[],ps,rfl,by rw[e2];simp⟩)
 have tOk:∀{H:Hp}{b:Addr}{u:HO},tabK K b=some u->ObjOk P w H s₁.heap b u:=fun{H b u} z=>by
  obtain⟨hts,⟨q,rfl⟩,_⟩:=zIC T z;exact⟨#[],hT b hts,trivial,fun pos cv y=>by simp[codeAmong]at y⟩
 have nta:tabK K a=none:=by
  cases z:tabK K a with
  |none=>rfl
  |some u=>have:=tabO z;rw[ha]at this;cases this
 cases hk:K.lookup a with
 |some o=>
  have e:=KX a o hk;rw[ha]at e;cases e;exact core (tabK K) (fun b u z=>.inr z) (Same.refl _) (.inr ⟨_,vs.toArray,_,hk,rfl,rfl,rfl,by rw[qAg,lenV];exact hl,by simpa using rv⟩) (fun b u z=>tOk z) fun b z=>by
   cases y:tabK K b with
   |none=>exact absurd y z
   |some u=>exact T.no b (zIC T y).1
 |none=>
  refine core (upd (tabK K) a (.frz { cls:=.type "list",data:=.seq vs.toArray } (.lst (ns.map V.int)))) (fun b u z=>?_) (fun b u z=>?_) (.inl (.inr ⟨{ cls:=.type "list",data:=.seq vs.toArray },zAM⟩)) (fun b u z=>?_) fun b z=>?_
  ·by_cases hb:b=a
   ·subst hb;rw[zAM]at z;cases z;exact .inl ⟨rfl,_,_,rfl⟩
   ·rw[zAL hb]at z;exact .inr z
  ·rw[zAL (zAO z nta)];exact z
  ·by_cases hb:b=a
   ·subst hb;rw[zAM]at z;cases z;exact⟨ha,by rw[qAl];exact hl,vs,_,rv,ha⟩
   ·rw[zAL hb]at z;exact tOk z
  ·by_cases hb:b=a
   ·subst hb;exact hk
   ·rw[zAL hb]at z;cases y:tabK K b with
    |none=>exact absurd y z
    |some u=>exact T.no b (zIC T y).1
theorem zOS{l:qCz}{n k:Nat}{q:qGn}{loose:List Str}{XP:(Str->Option Value)->Heap->Prop}{YP:World->Heap->Prop}{d:DefRec}{K:Params->qA1}{CX:World->CXT}{sp:World->Sp}{x:Str}{ts:List Addr}
  (hn:l.most=some n) (hn2:n<=sizeLine) (hdf:d.params.defaults=[]) (hr:Room k qIw)
  (hY:∀(w:World)(h:Heap),YP w h->(K w.params).In h/\∀P∈ts,h.get? P=some (qE6 #[]))
  (F:∀(w:World)(mg:Str->Option Value)(fa:Addr)(h:Heap),(K w.params).In h->h.Ns qGr mg->mg d.name=some (.ref fa) ->
   Tabs (K w.params) ts/\∃fd:qH2,(∀(s:qGk)(u:Value),qJ5 s fd ⟨[u],[]⟩ [(x,u)]) /\
    ∀base:Heap,(K w.params).In base->base.Ns qGr mg->FnOk l.prog w (K w.params) mg base (CX w) k fa fd [x] (sp w))
  (hsp:∀(w:World)(H:Hp)(a:Addr)(ns:List Int),ns.length<=n->(∀i∈ns,i.natAbs.log2<2 ^ 20)->Same (tabK (K w.params)) H->SqL (K w.params) H a (ns.map V.int)->sp w [.ref a] H (fun v H'=>v=.bl true/\Same (tabK (K w.params)) H') fun _ _ _=>False)
  (hCX:∀(w:World)(H:Hp)(s:qGk)(e:Value)(s':qGk),CX w [] H s (fun _ _ _=>False) e s'->False) :
  qEh q loose XP YP l.row.toRowW d [] (fun f vs=>qEq f vs):=by
 refine Att.attach_callW hn hdf fun w s₀ s₁ mg mb fa o pm cd doc a vs ns G Y ho hd hcd hmg hobj hints hlen hw hg=>?_
 obtain⟨KX,hT⟩:=hY w _ Y;obtain⟨T,fd,hb,hF⟩:=F w mg fa _ KX G.T.g hmg;exact zNI KX hT T G.T.g G.T.b G.T.builtins G.T.nolimit G.T.bmain hg hobj hints (qAi hlen hn2) hr hF hb (fun H hO hS=>hsp w H a ns hlen hw hO hS) fun H e s'=>hCX w H s₁ e s'
end L3
namespace L3
open PySem PyProof.Rows
open L2 hiding Rep RepL
structure Mk1(K:qA1)(ts:List Addr)(x:Str)(r:Option Addr):Prop where
 cod:codP K x=r
 lam:(lamK K x).isSome=r.isSome
 hd:∀P,r=some P->P∈ts/\∃c,qDq K c P=true
theorem mk1_none{K:qA1}{ts:List Addr}{x:Str}(a:qBh K qGr x=some none):Mk1 K ts x none:=
 ⟨by unfold codP;rw[a],by unfold lamK;rw[a];rfl,fun _ z=>by cases z⟩
structure Tb(K:qA1)(ts:List Addr)(r1 r2 r3 r4:Option Addr):Prop where
 m1:Mk1 K ts "turned_at" r1
 m2:Mk1 K ts "exchanged_at" r2
 m3:Mk1 K ts "pivoted" r3
 m4:Mk1 K ts "_law_beside" r4
section
variable{K:qA1}{ts:List Addr}{r1 r2 r3 r4:Option Addr}
theorem Tb.tabs(T:Tb K ts r1 r2 r3 r4)(no:∀P∈ts,K.lookup P=none):Tabs K ts:=⟨no,fun x hx P h _=>by
 unfold makers at hx;simp only[qAj,qBm,or_false]at hx;rcases hx with rfl|rfl|rfl|rfl
 ·exact T.m1.hd P (T.m1.cod.symm.trans h)
 ·exact T.m2.hd P (T.m2.cod.symm.trans h)
 ·exact T.m3.hd P (T.m3.cod.symm.trans h)
 ·exact T.m4.hd P (T.m4.cod.symm.trans h)⟩
end
def TbE(K:qA1)(ts:List Addr):Prop:=∃r1 r2 r3 r4,Tb K ts r1 r2 r3 r4
theorem walk_of0{l:qCz}{n k:Nat}{q:qGn}{loose:List Str}{XP:(Str->Option Value)->Heap->Prop}{YP:World->Heap->Prop}{d:DefRec}{K:Params->qA1}{x:Str}
  (hn:l.most=some n) (h63:n<=63) (hdf:d.params.defaults=[]) (hr:Room k qIw) (hY:∀(w:World)(h:Heap),YP w h->(K w.params).In h)
  (F:∀(w:World)(mg:Str->Option Value)(fa:Addr)(h:Heap),(K w.params).In h->h.Ns qGr mg->mg d.name=some (.ref fa) ->
   TbE (K w.params) []/\∃fd:qH2,(∀(s:qGk)(u:Value),qJ5 s fd ⟨[u],[]⟩ [(x,u)]) /\
    ∀base:Heap,(K w.params).In base->base.Ns qGr mg->FnOk l.prog w (K w.params) mg base CX0 k fa fd [x] (zGP (K w.params))) :
  qEh q loose XP YP l.row.toRowW d [] (fun f vs=>qEq f vs):=
 zOS (K:=K) (ts:=[]) (CX:=fun _=>CX0) (sp:=fun w=>zGP (K w.params)) hn (qAi h63 (by decide)) hdf hr (fun w h Y=>⟨hY w h Y,fun P z=>absurd z (by simp)⟩)
  (fun w mg fa h KX G hm=>let⟨⟨_,_,_,_,T⟩,r⟩:=F w mg fa h KX G hm;⟨T.tabs fun P z=>absurd z (by simp),r⟩)
  (fun _ _ a ns hl hw hT hS=>⟨a,ns,rfl,hT,hS,qAi hl h63,hw,fun _ z=>⟨rfl,z⟩⟩) fun _ _ _ _ _ z=>z
end L3
namespace L3
open PySem PySem.Spec
open L2 hiding Rep RepL
section
variable[Kc]{mg:Str->Option Value}{E:XK}{L:Nat}
end
end L3
namespace L3
open PySem PySem.Spec
open L2 hiding Rep RepL
open Mi (Dt EM FM okR)
end L3
namespace L3
open PySem PySem.Spec
open L2 hiding Rep RepL
open Mi (Dt Xn R okR zA3 optR zA0 zA4 zA7 zA5 zA6 Rh Sl Ro EM TM AM FM IM SM Tg Out full frz frz1 frzAt)
section
variable[Kc]{mg:Str->Option Value}{E:XK}{L:Nat}{tA tB:TT}{A B:TM}
end
end L3
namespace PySem
open Sem (wp)
section
variable{prog:qGn}{w:World}{A:qGo}{K:Type}[DecidableEq K]{knd:KeyKind prog w K}
end
end PySem
namespace Mi
end Mi
namespace L2
open PySem PySem.Spec PyProof.Rows
section
variable{X:Cx}
end
end L2
namespace L3
open PySem PySem.Spec
open L2 hiding Rep RepL
open Mi (Dt Xn R okR zA3 optR zA0 zA4 zA7 zA5 zA6 Rh Sl Ro EM TM AM FM IM SM OM Tg Out bindT zAK zAP full frz frz1 frzAt)
section
variable[Kc]{mg:Str->Option Value}{E:XK}{n k:Nat}{te:TE}{e:EM}
end
end L3
namespace Mi
end Mi
namespace L2
open PySem PySem.Spec PyProof.Rows
section
variable{prog:qGn}{w:World}{A:qGo}{E:Value->qGk->Prop}{s:qGk}
end
section
variable{P:qGn}{w:World}{K:qA1}{tg:Expr}
variable{X:Cx}
end
section
variable{X:Cx}{pins:List (Addr×Obj)}{σ:St}{H:Hp}{s:qGk}{a b:Addr}{v:V}{r:Value}{A:qGo}{E:Value->qGk->Prop}
end
structure FunD(K:qA1)(x qual:Str)(st:Stmt)(f:Addr)(fd:qH2):Prop where
 ex:∃(oc:Value)(od:Option Addr)(dt:Addr)(kV doc pm:Value)(an:Option Addr)(cdv ct:Value)(osl:Array (Option Value))(ot:Obj)(n:Nat),
  fd=qB3 x qual (zC3 st) (zBE st) (zAB st) (.ref dt) kV doc pm an cdv ct/\K.lookup f=some ⟨oc,od,.func fd,osl⟩/\qBv K cdv qual=true/\K.lookup dt=some ot/\ot.data=.seq #[.none] n
 kp:qB1 K (.ref f)=true
def DefD(K:qA1)(mg:Str->Option Value)(x:Str)(st:Stmt):Prop:=∃f fd,FunD K x x st f fd/\mg x=some (.ref f)
section
variable{P:qGn}{w:World}{K:qA1}{mg:Str->Option Value}{base:Heap}{x:Str}{k:Nat}{a b:Str}{N:List Str}{sp:Sp}{st:Stmt}
end
section
variable{X:Cx}{x:Str}{j k:Nat}{ps:List Str}{sp:Sp}{e:Expr}{es:List Expr}{t:TA}{p pos:Pos}{E:XK}
end
theorem mkDD{K:qA1}{h:Heap}{mg:Str->Option Value}{nm:Str}{st:Stmt}{f dt:Addr}{oc kV dc pm cd ct:Value}{od an:Option Addr}{sl:Array (Option Value)}{ot:Obj}{n:Nat}(X:K.In h)(G:h.Ns qGr mg)(a:qBh K qGr nm=some (some (.ref f)))
  (l:K.lookup f=some ⟨oc,od,.func (qB3 nm nm (zC3 st) (zBE st) (zAB st) (.ref dt) kV dc pm an cd ct),sl⟩) (c:qBv K cd nm=true) (k:qB1 K (.ref f)=true) (l2:K.lookup dt=some ot) (e:ot.data=.seq #[.none] n):DefD K mg nm st:=
 ⟨f,_,⟨⟨oc,od,dt,kV,dc,pm,an,cd,ct,sl,ot,n,rfl,l,c,l2,e⟩,k⟩,qC2 X G a⟩
section
variable{prog:qGn}{w:World}{A:qGo}{E:Value->qGk->Prop}{s:qGk}
end
section
variable{X:Cx}{pins:List (Addr×Obj)}{σ:List (Option V)}{H:Hp}{s:qGk}
end
section
variable{X:Cx}{i k:Nat}{x:Str}{p pos:Pos}{e:Expr}{es:List Expr}{t:TA}{tb:List (Addr×Sp×List V)}
end
section
variable{prog:qGn}{w:World}{A:qGo}{E:Value->qGk->Prop}{s:qGk}
end
section
variable{X:Cx}
end
section
variable{prog:qGn}{w:World}{A:qGo}{E:Value->qGk->Prop}{s:qGk}
end
section
variable{X:Cx}{pins:List (Addr×Obj)}{σ:List (Option V)}{H:Hp}{s:qGk}
end
section
variable{X:Cx}
end
section
variable{prog:qGn}{w:World}{A:qGo}{E:Value->qGk->Prop}{s:qGk}
end
section
variable{X:Cx}{pins:List (Addr×Obj)}{σ:St}{H:Hp}{s:qGk}
end
section
variable{X:Cx}{pins:List (Addr×Obj)}{σ:St}{H:Hp}{s:qGk}{Q:VK}{us:List Value}{vs:List V}{f cl:Addr}{q nm:Str}{params:Arguments}{body:Expr}{scope:Scope}{pm cdv ctv:Value}{co:Obj}{val:Value}{v:V}{ps:List Str}
end
section
variable{X:Cx}{x:Str}{p pos kp:Pos}{re le:Expr}{tr:TA}{tl:TE}{i:Nat}{R:Addr->List V->V->Hp->VK->Prop}
end
section
variable{prog:qGn}{w:World}{A:qGo}{E:Value->qGk->Prop}{s:qGk}
end
section
variable{X:Cx}{K:qA1}
end
section
variable{X:Cx}
end
end L2
namespace Mi
open PySem
inductive OutM where
 |nx (ρ:Ro)|rt (ρ:Ro) (d:Dt)|rv (ρ:Ro) (i:Nat)
abbrev SMM:=Ro->R OutM
abbrev FW:=List Dt->R (Dt×Dt)
inductive Cmd where
 |ans (d:Dt)|keep (w:Str)|undo|pop
inductive OutK where
 |nx (ρ:Ro)|cm (ρ:Ro) (c:Cmd)
abbrev SMK:=Ro->R OutK
abbrev FD:=Str->List Str->List Dt->R Cmd
end Mi
namespace Mp
open Mi PySem
end Mp
namespace L3
open PySem PySem.Spec
open L2 hiding Rep RepL
open Mi (Dt Xn R okR zA3 optR zA0 zA4 zA7 zA5 zA6 Rh Sl Ro EM TM AM FM IM SM OM Tg Out bindT zAK zAP full frz frz1 frzAt)
section
variable[Kc]{mg:Str->Option Value}{E:XK}{n k:Nat}{te:TE}{e:EM}
end
section
variable[Kc]{mg:Str->Option Value}{E:XK}{L n k l:Nat}{te ta tb tx td tk tv:TE}{e ea eb ex ed mk mv:EM}{t:TA}{m:AM}
end
section
variable[Kc]{mg:Str->Option Value}{E:XK}{L n k l:Nat}{te ta tb tx td t1 t2:TE}{e ea eb ex ed e1 e2:EM}{u:TS}{m m':SM}
end
section
variable[Kc]{mg:Str->Option Value}{E:XK}{L n k:Nat}{te:TE}{e:EM}{t:TS}{m:SM}
end
section
variable[Kc]{mg:Str->Option Value}{E:XK}{L n k l:Nat}{te ta tb:TE}{e ma mb:EM}{t:TA}{m:AM}
end
section
variable[Kc]{mg:Str->Option Value}{E:XK}{L n k l:Nat}{te ta tb:TE}{e ma mb:EM}{t:TS}{m:SM}
end
section
variable{P:qGn}{w:World}{K:qA1}{mg:Str->Option Value}{base:Heap}{x:Str}{st:Stmt}{N ps:List Str}{k:Nat}
open PyProof.Rows
end
section
variable[Kc]{n:Nat}
end
section
variable[Kc]{mg:Str->Option Value}{E:XK}{L n:Nat}{te:TE}{e:EM}
end
section
variable[Kc]{mg:Str->Option Value}{E:XK}{n k:Nat}{te:TE}{e:EM}
end
end L3
namespace L3
open PySem PySem.Spec
open L2 hiding Rep RepL
open Mi (Dt Xn R okR zA3 optR zA0 zA4 zA7 zA5 zA6 Rh Sl Ro EM TM AM FM IM SM OM Tg Out bindT zAK zAP full frz frz1 frzAt OutK SMK Cmd FD)
structure DkC(K:qA1)(C:Addr):Prop where
 cl:clK K "Desk" = some C
 c:Cls K C
 n1:zOQ K C "word"
 n2:zOQ K C "ahead"
def dput(H:Hp)(a b C dx:Addr)(w:Str)(ws:List Str):Hp:=upd (upd H b (.lst (ws.map V.str))) a (.ins C dx [("word",.str w),("ahead",.ref b)])
section
variable[Kc]{mg:Str->Option Value}{E:XK}{L n k l:Nat}{te ta tb:TE}{e ea eb:EM}{t u:TS}{m m':SMK}{s:SM}{fu:FD}
end
section
variable[Kc]{mg:Str->Option Value}{E:XK}{L n k l:Nat}{te ta tb:TE}{e ea eb:EM}{t u:TS}{m m':SMK}{ft fu:FD}
end
section
variable[Kc]{mg:Str->Option Value}{E:XK}{L n k l:Nat}{te ta tb:TE}{e ea eb:EM}{t u:TS}{ft fu:FD}
end
def spIniD(K:qA1):Sp:=fun vs H Q _=>∃(x C dx:Addr),vs=[.ref x]/\DkC K C/\H x=some (.ins C dx [])/\∀b,H b=none->Q .non (dput H x b C dx "aa" [])
section
variable[Kc]{mg:Str->Option Value}{E:XK}{L:Nat}
end
section
variable[Kc]{mg:Str->Option Value}{E:XK}{L n k l:Nat}{te ta tb:TE}{e ea eb:EM}{ft fu:FD}
end
end L3
namespace L2
open PySem PySem.Spec
section
variable{X:Cx}
end
end L2
namespace L3
open PySem PySem.Spec PyProof.Rows
open L2 hiding Rep RepL
open Mi (Dt Xn R okR zA3 optR zA0 zA4 zA7 zA5 zA6 Rh Sl Ro EM TM AM FM IM SM OM Tg Out bindT zAK zAP full frz frz1 frzAt FW)
section
variable[Kc]{mg:Str->Option Value}{E:XK}{L n k l:Nat}{te ta tb:TE}{e ea eb ma:EM}{t:TA}{m:AM}
end
end L3
namespace L3
open PySem PySem.Spec PyProof.Rows
open L2 hiding Rep RepL
open Mi (Dt Xn R okR zA3 optR zA0 zA4 zA7 zA5 zA6 Rh Sl Ro EM TM AM FM IM SM OM Tg Out bindT zAK zAP full frz frz1 frzAt)
section
variable[Kc]{mg:Str->Option Value}{E:XK}{L n k l:Nat}{te ta tb:TE}{e ea eb ma:EM}{t:TA}{m:AM}
end
section
variable[Kc]{mg:Str->Option Value}{E:XK}{n:Nat}{t:TA}{m:AM}
end
end L3
namespace FW
end FW
namespace L2
open PySem PySem.Spec PyProof.Rows
open PyProof.Rows.KTD (Rows TabOf datumAt inKeys kt_dictFind_strs)
section
variable{prog:qGn}{w:World}{A:qGo}{E:Value->qGk->Prop}{s:qGk}{a:Addr}{k:Str}{tk:Tok}
end
section
variable{X:Cx}{pins:List (Addr×Obj)}{σ:List (Option V)}{H:Hp}{s:qGk}{K:qA1}{D:List (Str×List Str)}
variable{o i:Expr}{pos:Pos}{ty:TE}{a:Addr}
end
end L2
namespace L2
open PySem PySem.Spec PyProof.Rows
open PyProof.Rows.KTD (Rows TabOf tabLook rowsLook strsLook rows_of_look strs_of_look)
section
variable{X:Cx}
end
end L2
namespace L3
open PySem PyProof.Rows
open L2 hiding Rep RepL
end L3
namespace L3
open PySem PySem.Spec PyProof.Rows
open L2 hiding Rep RepL
section
variable{P:qGn}{w:World}{K:qA1}{mg:Str->Option Value}{base:Heap}{x:Str}{st:Stmt}{N ps:List Str}{k:Nat}
end
end L3
namespace L3
open PySem PySem.Spec PyProof.Rows
open L2 hiding Rep RepL
open Mi (Dt Xn R okR zA3 optR zA0 zA4 zA7 zA5 zA6 Rh Sl Ro EM TM AM FM IM SM OM Tg Out bindT zAK zAP full frz frz1 frzAt FW SMM OutM)
section
variable[Kc]{mg:Str->Option Value}{E:XK}{L n k l:Nat}{te ta tb t1 t2:TE}{e ea eb e1 e2:EM}
end
end L3
namespace L3
open PySem PySem.Spec
open L2 hiding Rep RepL
end L3
namespace L3
open PySem PySem.Spec
open L2 hiding Rep RepL
open Mi (Dt Xn R okR zA3 optR zA0 zA4 zA7 zA5 zA6 Rh Sl Ro EM TM AM FM IM SM OM Tg Out bindT zAK zAP full frz frz1 frzAt FW)
section
variable[Kc]{mg:Str->Option Value}{E:XK}{n:Nat}{t:TA}{m:AM}
end
end L3
namespace L3
open PySem PySem.Spec
open L2 hiding Rep RepL
open Mi (Dt Xn R okR zA3 optR zA0 zA4 zA7 zA5 zA6 Rh Sl Ro EM TM AM FM IM SM OM Tg Out bindT zAK zAP full frz frz1 frzAt OutM SMM FW)
section
variable[Kc]{mg:Str->Option Value}{E:XK}{L n k l:Nat}{te ta tb tx td t1 t2:TE}{e ea eb ex ed e1 e2:EM}{t u:TS}{m m':SMM}{s:SM}
open Classical in
noncomputable def cutH(H:Hp)(S:Addr->Prop):Hp:=fun b=>if S b then none else H b
end
end L3
namespace L3
open PySem PySem.Spec
open L2 hiding Rep RepL
open Mi (Dt Xn R okR zA3 optR zA0 zA4 zA7 zA5 zA6 Rh Sl Ro EM TM AM FM IM SM OM Tg Out bindT zAK zAP full frz frz1 frzAt)
section
variable[Kc]{mg:Str->Option Value}{E:XK}{L n k l n0 n1 n2:Nat}{te ta tb tc td t1 t2:TE}{e ea eb ec ed e1 e2:EM}
end
end L3
namespace L3
open PySem PySem.Spec
open L2 hiding Rep RepL
open PyProof.Rows.KTD (datumAt inKeys)
open Mi (Dt Xn R okR zA3 optR zA0 zA4 zA7 zA5 zA6 Rh Sl Ro EM TM AM FM IM SM OM Tg Out bindT zAK zAP full frz frz1 frzAt)
section
variable[Kc]{mg:Str->Option Value}{E:XK}{L n k l:Nat}{te ta tb:TE}{e ea eb ma:EM}{D:List (Str×List Str)}
end
end L3
namespace L3
open PySem PySem.Spec
open PyProof.Rows (risingS sortedS ltCps_eq)
open L2 hiding Rep RepL
open Mi (Dt Xn R okR zA3 optR zA0 zA4 zA7 zA5 zA6 Rh Sl Ro EM TM AM FM IM SM OM Tg Out bindT zAK zAP full frz frz1 frzAt)
section
variable[Kc]{mg:Str->Option Value}{E:XK}{L n k l:Nat}{te ta tb:TE}{e ea eb ma:EM}{t:TA}{m:AM}
end
end L3
namespace Mp
end Mp
namespace S8
open PySem PySem.SeqAt
open AutoSeq1 (wpAny_loadPart')
open MeetsSeq MeetsSeq2 MeetsSeq3
noncomputable def ltL:List Int->List Int->Bool
 |[],[]=>false
 |[],_::_=>true
 |_::_,[]=>false
 |x::xs,y::ys=>if x=y then ltL xs ys else decide (x<y)
def IntV(vs:Array Value)(xs:List Int):Prop:=vs.size=xs.length/\∀j,j<xs.length->∃t,vs[j]?=some (.int (xs.getD j 0) t)
theorem zK5{xs:List Int}{i:Nat}(h:xs.length<=i):xs.drop i=[]:=List.drop_eq_nil_of_le h
theorem zK4{xs:List Int}{i:Nat}(h:i<xs.length):xs.drop i=xs.getD i 0::xs.drop (i+1):=by
 rw[qAy h,qA0,qA5 h];rfl
theorem zTA{l b:Addr}{vs us:Array Value}{xs ys:List Int}{n n2:Nat}{dd dd2:Option Addr}{sl sl2:Array (Option Value)}(hx:IntV vs xs)(hy:IntV us ys)(k:Nat) :
  ∀i:Nat,xs.length-i=k->i<=xs.length->i<=ys.length->Meets (Builtin.«list.__eq__.loop» ⟨[.ref l,.ref b,rawInt i,rawInt 0],[]⟩)
   (fun A R s=>s.heap.get? l=some { cls:=.type "list",dict:=dd,data:=.seq vs n,slots:=sl }/\s.heap.get? b=some { cls:=.type "list",dict:=dd2,data:=.seq us n2,slots:=sl2 } /\
    R (.ok (.ret (.bool (ltL (xs.drop i) (ys.drop i))))) s):=by
 obtain⟨hx1,hx2⟩:=hx;obtain⟨hy1,hy2⟩:=hy;induction k with
 |zero=>
  intro i hk h1 h2 prog w A R s h;obtain⟨hp,g,d,tk,os⟩:=s;obtain⟨hl,hb,h⟩:=h
  wp_walk using qGv hl,qGv hb
  have hi1:vs[((i:Nat):Int).toNat]?=none:=by simp;omega
  rw[hi1]
  wp_walk using qGv hl,qGv hb
  rw[zK5 (by omega)]at h;show R (.ok (.ret (.bool (decide (vs.size<us.size))))) _;have e:ltL [] (ys.drop i)=decide (vs.size<us.size):=by
   by_cases z:i<ys.length
   ·rw[zK4 z,decide_eq_true (by omega)];rfl
   ·rw[zK5 (by omega),decide_eq_false (by omega)];rfl
  rw[e]at h;exact h
 |succ k ih=>
  intro i hk h1 h2 prog w A R s h;obtain⟨hp,g,d,tk,os⟩:=s;obtain⟨hl,hb,h⟩:=h;obtain⟨t,ht⟩:=hx2 i (by omega);have hi1:vs[((i:Nat):Int).toNat]?=some (.int (xs.getD i 0) t):=ht;rw[zK4 (xs:=xs) (i:=i) (by omega)]at h
  wp_walk using qGv hl,qGv hb
  by_cases z:i<ys.length
  ·obtain⟨u,hu⟩:=hy2 i z;have hi2:us[((i:Nat):Int).toNat]?=some (.int (ys.getD i 0) u):=hu;rw[zK4 z]at h;rw[hi1,hi2];refine wpAny_bind (EqAt.int_int _ _ _ _ prog w _ _ ?_)
   by_cases q:xs.getD i 0=ys.getD i 0
   ·rw[q,beq_self_eq_true];unfold ltL at h;rw[if_pos q]at h
    wp_walk
    rw[show((i:Int)+1)=((i+1:Nat):Int) from rfl];exact⟨plainId_quiet plain_eq_loop _,codeAny_builtin entry_eq_loop (by
     rw[qIm plain_eq_loop _];exact ih (i+1) (by omega) (by omega) (by omega) prog w A R _ ⟨hl,hb,h⟩)⟩
   ·rw[beq_false_of_ne q];unfold ltL at h;rw[if_neg q]at h
    wp_walk using qGv hl,qGv hb
    rw[hi1,hi2];refine wpAny_bind (wpAny_lt_int ?_)
    wp_walk
    exact h
  ·have hi2:us[((i:Nat):Int).toNat]?=none:=by simp;omega
   rw[zK5 (xs:=ys) (by omega)]at h;rw[hi1,hi2]
   wp_walk using qGv hl,qGv hb
   show R (.ok (.ret (.bool (decide (vs.size<us.size))))) _;rw[decide_eq_false (by omega)];exact h
theorem zPU{l b:Addr}{vs us:Array Value}{xs ys:List Int}{n n2:Nat}{dd dd2:Option Addr}{sl sl2:Array (Option Value)}(hx:IntV vs xs)(hy:IntV us ys):Meets (Builtin.«list.__lt__» ⟨[.ref l,.ref b],[]⟩)
   (fun A R s=>s.heap.get? l=some { cls:=.type "list",dict:=dd,data:=.seq vs n,slots:=sl }/\s.heap.get? b=some { cls:=.type "list",dict:=dd2,data:=.seq us n2,slots:=sl2 } /\
    R (.ok (.ret (.bool (ltL xs ys)))) s):=by
 intro prog w A R s h;obtain⟨hp,g,d,tk,os⟩:=s;obtain⟨hl,hb,h⟩:=h;have f3:=AutoSeq1.sub_list_list
 wp_walk using qGv hl,qGv hb
 exact⟨plainId_quiet plain_eq_loop _,codeAny_builtin entry_eq_loop (by
  rw[qIm plain_eq_loop _];exact zTA hx hy _ 0 rfl (qAh _) (qAh _) prog w A R _ ⟨hl,hb,h⟩)⟩
section
open PyProof.Rows PySem.W
variable{prog:qGn}{w:World}{A:qGo}{E:Value->qGk->Prop}{s:qGk}
theorem zPZ{l b:Addr}{vs us:Array Value}{xs ys:List Int}{Q:Bool->qGk->Prop}(hu:A.units<cLine)(hl:s.heap.IsList l vs)(hb:s.heap.IsList b us)(hx:IntV vs xs)(hy:IntV us ys)(h:Q (ltL xs ys) s):wpAny (model prog w) A (keyLt' qI0 (.ref l) (.ref b)) Q E s:=by
 obtain⟨⟨cls,dd,data,sl⟩,ho,hc,n,hd⟩:=id hl;obtain⟨⟨cls2,dd2,data2,sl2⟩,ho2,hc2,n2,hd2⟩:=id hb;simp only at hc hd hc2 hd2;subst hc hd hc2 hd2;rw[keyLt'_oneType,oneLt'_eq];simp only[if_true];refine wpAny_bind (wpAny_cRoomFor hu ?_);refine wpAny_bind (wpAny_callSpecialIfBound?_slot (T:="list") ⟨_,ho,rfl⟩ F.slot_list_lt ?_);refine call_meets F.slot_list_lt ⟨_,ho,rfl⟩ F.entry_list_lt (F.args_list_lt_2 _ _) (zPU hx hy) ⟨ho,ho2,?_⟩;exact wpAny_truthy_bool h
end
end S8
namespace S8
open PySem PySem.W PyProof.Rows
noncomputable def galQ:Bool->Keyed->Array Keyed->Nat->Nat->Nat->StateT SortSt Sem (Option Nat):=sortPriv% PySem.Builtin.gallop
noncomputable def mlQ:Array Keyed->Array Keyed->StateT SortSt Sem (Array Keyed):=sortPriv% PySem.Builtin.mergeLo
noncomputable def mhQ:Array Keyed->Array Keyed->StateT SortSt Sem (Array Keyed):=sortPriv% PySem.Builtin.mergeHi
theorem zVT(lf:Bool)(ky:Keyed)(xs:Array Keyed)(b0 m h:Nat):galQ lf ky xs b0 m h=(do
  let far:Nat->StateT SortSt Sem (Option Bool):=fun j=>do
   let z <- elem' xs (b0+j)
   if lf then lt' z ky else return (<- lt' ky z).map (!·)
  let mut p:=0
  let mut q:=1
  let mut u:=0
  let mut v:=0
  let some r <- far h|return none
  if r then
   let top:=m-h
   for _ in [0:m] do
    if q>=top then break
    let some y <- far (h+q)|return none
    if !y then break
    p:=q
    q:=2*q+1
   u:=h+p+1
   v:=h+min q top
  else
   let top:=h+1
   for _ in [0:m] do
    if q>=top then break
    let some y <- far (h-q)|return none
    if y then break
    p:=q
    q:=2*q+1
   u:=h+1-min q top
   v:=h-p
  for _ in [0:m] do
   if u>=v then break
   let c:=u+(v-u)/2
   let some y <- far c|return none
   if y then u:=c+1 else v:=c
  return some v):=rfl
structure PS where
 p:Array Nat
 pd:Array (Nat×Nat×Nat)
 mg:Nat
abbrev PM:=StateT PS Option
section
variable(M:Model)(A:qGo)(E:Value->qGk->Prop)(s:qGk)(κ:qJg)(it:Array Keyed)(ans:Nat->Nat->Option Bool)
noncomputable def conc(ps:PS):SortSt:=qH9 κ (ps.p.map (kas_item it)) ps.pd ps.mg none
def Rel{α α':Type}(V:α->α'->Prop)(m:StateT SortSt Sem α)(n:PM α'):Prop:=∀ps a' ps',n.run ps=some (a',ps')->∃a,V a a'/\∀Q:α->SortSt->qGk->Prop,Q a (conc κ it ps') s->kasC M A E m Q (conc κ it ps) s
noncomputable def zWD{β β':Type}(V:β->β'->Prop):ForInStep β->ForInStep β'->Prop
 |.done b,.done b'=>V b b'
 |.yield b,.yield b'=>V b b'
 |_,_=>False
end
section
variable{M:Model}{A:qGo}{E:Value->qGk->Prop}{s:qGk}{κ:qJg}{it:Array Keyed}{ans:Nat->Nat->Option Bool}{α α' β β':Type}
theorem zAH{V:α->α'->Prop}{a:α}{a':α'}(h:V a a'):Rel M A E s κ it V (pure a) (pure a':PM α'):=by
 intro ps b ps' e;cases(qAk e);exact⟨a,h,fun Q q=>kasC_pure q⟩
theorem zAE{V:α->α'->Prop}{W:β->β'->Prop}{m:StateT SortSt Sem α}{n:PM α'}{f:α->StateT SortSt Sem β}{g:α'->PM β'}(h1:Rel M A E s κ it V m n)(h2:∀a a',V a a'->Rel M A E s κ it W (f a) (g a')):Rel M A E s κ it W (m >>= f) (n >>= g):=by
 intro ps b ps' e;rw[qD0]at e;cases hn:n.run ps with
 |none=>rw[hn]at e;cases e
 |some r=>
  obtain⟨a',ps1⟩:=r;rw[hn]at e;obtain⟨a,hv,k1⟩:=h1 ps a' ps1 hn;obtain⟨c,hw,k2⟩:=h2 a a' hv ps1 b ps' e;exact⟨c,hw,fun Q q=>kasC_bind (k1 _ (k2 Q q))⟩
theorem zDJ{V:α->α'->Prop}{m:StateT SortSt Sem α}{n:PM α'}(h:∀ps,n.run ps=none):Rel M A E s κ it V m n:=by
 intro ps b ps' e;rw[h]at e;cases e
theorem zBC{V:α->α'->Prop}{c:Prop}[Decidable c]{m1 m2:StateT SortSt Sem α}{n1 n2:PM α'}(h1:c->Rel M A E s κ it V m1 n1)(h2:¬c->Rel M A E s κ it V m2 n2):Rel M A E s κ it V (if c then m1 else m2) (if c then n1 else n2):=by
 by_cases h:c
 ·rw[if_pos h,if_pos h];exact h1 h
 ·rw[if_neg h,if_neg h];exact h2 h
theorem zKT{V:β->β'->Prop}{f:Nat->β->StateT SortSt Sem (ForInStep β)}{g:Nat->β'->PM (ForInStep β')}(h:∀x b b',V b b'->Rel M A E s κ it (zWD V) (f x b) (g x b')):∀(l:List Nat)(b:β)(b':β'),V b b'->Rel M A E s κ it V (forIn l b f) (forIn l b' g)
 |[],b,b',hb=>by
  rw[qD6,qD6];exact zAH hb
 |x::l,b,b',hb=>by
  rw[qCw,qCw];refine zAE (h x b b' hb) fun a a' ha=>?_
  cases a with
  |done c=>cases a' with
   |done c'=>exact zAH ha
   |yield c'=>exact ha.elim
  |yield c=>cases a' with
   |done c'=>exact ha.elim
   |yield c'=>exact zKT h l c c' ha
theorem zBS{V:β->β'->Prop}{a z:Nat}{b:β}{b':β'}{f:Nat->β->StateT SortSt Sem (ForInStep β)}{g:Nat->β'->PM (ForInStep β')}(hb:V b b')(h:∀x b b',V b b'->Rel M A E s κ it (zWD V) (f x b) (g x b')):Rel M A E s κ it V (forIn [a:z] b f) (forIn [a:z] b' g):=by
 rw[qBk,qBk];exact zKT h _ _ _ hb
theorem zEW:Rel M A E s κ it (fun a ps=>a=conc κ it ps) get (get:PM PS):=by
 intro ps b ps' e;cases(qAk e);exact⟨_,rfl,fun Q q=>kasC_get q⟩
theorem zDY{f:SortSt->SortSt}{g:PS->PS}(h:∀ps,f (conc κ it ps)=conc κ it (g ps)):Rel M A E s κ it (fun _ _=>True) (modify f:StateT SortSt Sem PUnit) (modify g:PM PUnit):=by
 intro ps b ps' e;cases(qAk e);exact⟨⟨⟩,trivial,fun Q q=>kasC_modify (by rw[h];exact q)⟩
theorem zPA{x:String}:Rel M A E s κ it (fun _ _=>True) (liftM (rule x:Sem Unit):StateT SortSt Sem Unit) (pure ():PM Unit):=by
 intro ps b ps' e;cases(qAk e);exact⟨(),trivial,fun Q q=>kasC_lift (wpAny_rule q)⟩
end
section
variable{prog:qGn}{w:World}{A:qGo}{E:Value->qGk->Prop}{s:qGk}{κ:qJg}{it:Array Keyed}{ans:Nat->Nat->Option Bool}{α α' β β':Type}
noncomputable def elP(p:Array Nat)(k:Nat):PM Nat:=match p[k]? with
 |some i=>pure i
 |none=>qDh none
theorem zF4(p:Array Nat)(k:Nat):Rel (model prog w) A E s κ it (fun a i=>a=kas_item it i) (elem' (p.map (kas_item it)) k) (elP p k):=by
 rw[elem'_eq,Array.getElem?_map];unfold elP;cases p[k]? with
 |none=>exact zDJ fun ps=>rfl
 |some i=>exact zAH rfl
noncomputable def aP(ans:Nat->Nat->Option Bool)(i j:Nat):PM (Option Bool):=match ans i j with
 |some b=>pure (some b)
 |none=>qDh none
theorem zKS(HC:∀i j b,ans i j=some b->∀C:Bool->qGk->Prop,C b s->qI3 prog w A κ it i j C s)(i j:Nat):Rel (model prog w) A E s κ it Eq (lt' (kas_item it i) (kas_item it j)) (aP ans i j):=by
 unfold aP;cases hb:ans i j with
 |none=>exact zDJ fun ps=>rfl
 |some b=>
 intro ps b' ps' e;cases(qAk e);refine⟨_,rfl,fun Q q=>?_⟩;rw[lt'_eq];refine kasC_bind (kasC_get ?_);refine kasC_bind (kasC_lift (wpAny_attempt (wpAny_mono (HC i j b hb (fun c s'=>c=b/\s'=s) ⟨rfl,rfl⟩) (fun c s' hc=>?_) fun _ _ hF=>hF.elim)));obtain⟨rfl,rfl⟩:=hc;exact kasC_pure q
def laP(ans:Nat->Nat->Option Bool)(i j:Nat):PM (Option Bool):=do
 let ps <- get
 let x <- elP ps.p i
 let y <- elP ps.p j
 aP ans x y
theorem zR5(HC:∀i j b,ans i j=some b->∀C:Bool->qGk->Prop,C b s->qI3 prog w A κ it i j C s)(i j:Nat):Rel (model prog w) A E s κ it Eq (ltAt' i j) (laP ans i j):=by
 rw[ltAt'_eq];unfold laP;refine zAE zEW fun a ps h=>?_
 subst h;refine zAE (zF4 _ _) fun x i hx=>?_
 refine zAE (zF4 _ _) fun y j hy=>?_
 subst hx hy;exact zKS HC i j
theorem zSI(i j:Nat):Rel (model prog w) A E s κ it (fun _ _=>True) (reverseSlice' i j) (modify fun ps=>{ ps with p:=kas_rev ps.p i j }):=by
 rw[reverseSlice'_eq];refine zDY fun ps=>?_
 show qH9 κ (mirror (ps.p.map (kas_item it)) i j ((j-i)/2)) ps.pd ps.mg none=qH9 κ ((mirror ps.p i j ((j-i)/2)).map (kas_item it)) ps.pd ps.mg none;congr 1;exact kas_swaps_map _ _ _ _ _
theorem zUL(k l:Nat):Rel (model prog w) A E s κ it (fun _ _=>True) (moveDown' k l) (modify fun ps=>{ ps with p:=bubble ps.p k (k-l) }):=by
 rw[moveDown'_eq];refine zDY fun ps=>?_
 show qH9 κ (bubble (ps.p.map (kas_item it)) k (k-l)) ps.pd ps.mg none=qH9 κ ((bubble ps.p k (k-l)).map (kas_item it)) ps.pd ps.mg none;congr 1;exact kas_swaps_map _ _ _ _ _
def binP(ans:Nat->Nat->Option Bool)(lo n ok:Nat):PM Bool:=do
 for k in [max ok 1:n] do
  let mut u:=0
  let mut v:=k
  for _ in [0:k] do
   if u>=v then break
   let c:=(u+v)/2
   let some y <- laP ans (lo+k) (lo+c)|return false
   if y then v:=c else u:=c+1
  modify fun ps=>{ ps with p:=bubble ps.p (lo+k) (lo+k-(lo+u)) }
 return true
theorem zSJ(HC:∀i j b,ans i j=some b->∀C:Bool->qGk->Prop,C b s->qI3 prog w A κ it i j C s)(lo n ok:Nat):Rel (model prog w) A E s κ it Eq (binarySort' lo n ok) (binP ans lo n ok):=by
 rw[binarySort'_eq];unfold binP;refine zAE (V:=Eq) (zBS rfl fun k b b' hb=>?_) fun b b' hb=>?_
 ·subst hb;refine zAE (V:=Eq) (zBS rfl fun _ c c' hc=>?_) fun c c' hc=>?_
  ·subst hc;dsimp only;refine zBC (fun _=>zAH rfl) fun _=>?_
   refine zAE (zR5 HC _ _) fun o o' ho=>?_
   subst ho;cases o with
   |none=>exact zAH rfl
   |some y=>
    dsimp only;refine zBC (fun _=>zAH rfl) fun _=>zAH rfl
  ·subst hc;obtain⟨r,u,v⟩:=c;cases r with
   |some r=>exact zAH rfl
   |none=>exact zAE (zUL _ _) fun _ _ _=>zAH rfl
 ·subst hb;obtain⟨r,_⟩:=b;cases r with
  |some r=>exact zAH rfl
  |none=>exact zAH rfl
noncomputable def ruP:PM Unit:=pure ()
def cr3(ans:Nat->Nat->Option Bool)(lo m k0:Nat):PM (Option Nat):=do
 modify fun ps=>{ ps with p:=kas_rev ps.p lo (lo+k0) }
 let mut k:=k0
 for _ in [k0:m] do
  let some y <- laP ans (lo+k) (lo+k-1)|return none
  if y then break
  k:=k+1
 return some k
def cr2(ans:Nat->Nat->Option Bool)(lo m k0:Nat):PM (Option Nat):=do
 ruP
 let mut k:=k0+1
 let mut q:=0
 for _ in [k0+1:m] do
  let some y <- laP ans (lo+k) (lo+k-1)|return none
  if y then
   if q>0 then modify fun ps=>{ ps with p:=kas_rev ps.p (lo+k-(q+1)) (lo+k) }
   q:=0
  else
   let some z <- laP ans (lo+k-1) (lo+k)|return none
   if z then break
   q:=q+1
  k:=k+1
 if q>0 then
  modify fun ps=>{ ps with p:=kas_rev ps.p (lo+k-(q+1)) (lo+k) }
  cr3 ans lo m k
 else cr3 ans lo m k
def crP(ans:Nat->Nat->Option Bool)(lo m:Nat):PM (Option Nat):=do
 let mut k:=1
 for _ in [1:m] do
  let some y <- laP ans (lo+k) (lo+k-1)|return none
  if y then break
  k:=k+1
 if k==m then return some k
 if k>1 then
  let some y <- laP ans lo (lo+k-1)|return none
  if y then return some k
  modify fun ps=>{ ps with p:=kas_rev ps.p lo (lo+k) }
  cr2 ans lo m k
 else cr2 ans lo m k
theorem zKR{x:String}:Rel (model prog w) A E s κ it (fun _ _=>True) (liftM (rule x:Sem Unit):StateT SortSt Sem Unit) ruP:=zPA
theorem zUN(HC:∀i j b,ans i j=some b->∀C:Bool->qGk->Prop,C b s->qI3 prog w A κ it i j C s)(lo m:Nat):Rel (model prog w) A E s κ it Eq (countRun' lo m) (crP ans lo m):=by
 rw[countRun'_eq];unfold crP cr2 cr3
 repeat' first
  |exact zAH rfl
  |refine zBC (fun _=>?_) fun _=>?_
  |(refine zAE (zR5 HC _ _) fun o o' ho=>?_;subst ho;cases o<;>dsimp only)
  |refine zAE (zSI _ _) fun _ _ _=>?_
  |refine zAE zKR fun _ _ _=>?_
  |(refine zAE (V:=Eq) (zBS rfl fun _ c c' hc=>?_) fun c c' hc=>?_<;>(subst hc;obtain⟨r,c⟩:=c;cases r<;>dsimp only))
def galP(ans:Nat->Nat->Option Bool)(lf:Bool)(ky:Nat)(xs:Array Nat)(b0 m h:Nat):PM (Option Nat):=do
  let far:Nat->PM (Option Bool):=fun j=>do
   let z <- elP xs (b0+j)
   if lf then aP ans z ky else return (<- aP ans ky z).map (!·)
  let mut p:=0
  let mut q:=1
  let mut u:=0
  let mut v:=0
  let some r <- far h|return none
  if r then
   let top:=m-h
   for _ in [0:m] do
    if q>=top then break
    let some y <- far (h+q)|return none
    if !y then break
    p:=q
    q:=2*q+1
   u:=h+p+1
   v:=h+min q top
  else
   let top:=h+1
   for _ in [0:m] do
    if q>=top then break
    let some y <- far (h-q)|return none
    if y then break
    p:=q
    q:=2*q+1
   u:=h+1-min q top
   v:=h-p
  for _ in [0:m] do
   if u>=v then break
   let c:=u+(v-u)/2
   let some y <- far c|return none
   if y then u:=c+1 else v:=c
  return some v
theorem zJT(HC:∀i j b,ans i j=some b->∀C:Bool->qGk->Prop,C b s->qI3 prog w A κ it i j C s)(lf:Bool)(ky:Nat)(xs:Array Nat)(b0 m h:Nat):Rel (model prog w) A E s κ it Eq (galQ lf (kas_item it ky) (xs.map (kas_item it)) b0 m h) (galP ans lf ky xs b0 m h):=by
 rw[zVT];unfold galP;have far:∀j,Rel (model prog w) A E s κ it Eq (do
   let z <- elem' (xs.map (kas_item it)) (b0+j)
   if lf then lt' z (kas_item it ky)else return (<- lt' (kas_item it ky) z).map (!·)) (do
   let z <- elP xs (b0+j)
   if lf then aP ans z ky else return (<- aP ans ky z).map (!·)):=fun j=>by
  refine zAE (zF4 _ _) fun z i hz=>?_
  subst hz;refine zBC (fun _=>zKS HC _ _) fun _=>?_
  exact zAE (zKS HC _ _) fun o o' ho=>by subst ho;exact zAH rfl
 dsimp only
 repeat' first
  |exact zAH rfl
  |refine zBC (fun _=>?_) fun _=>?_
  |(refine zAE (far _) fun o o' ho=>?_;subst ho;cases o<;>dsimp only)
  |(refine zAE (V:=Eq) (zBS rfl fun _ c c' hc=>?_) fun c c' hc=>?_<;>(subst hc;obtain⟨r,c⟩:=c;cases r<;>dsimp only))
end
abbrev zSA(st:SortSt)(g:Nat):SortSt:=qH9 (kindOf st) (arrOf st) (pendingOf st) g (failedOf st)
theorem zX8(x y:Array Keyed):mlQ x y=(do
  rule "list.sort.merge-lo"
  let t:=x.size+y.size
  let fin:Array Keyed->Nat->Nat->Array Keyed:=fun o i j=>o++x.extract i x.size++y.extract j y.size
  let fil:Array Keyed->Nat->Nat->Array Keyed:=fun o i j=>o++y.extract j y.size++x.extract i x.size
  let mut o:Array Keyed:=#[<- elem' y 0]
  let mut i:=0
  let mut j:=1
  if j==y.size then return fin o i j
  if i+1==x.size then return fil o i j
  let mut g:=gallopOf (<- get)
  for _ in [0:t] do
   let mut m:=0
   let mut n:=0
   for _ in [0:t] do
    let some c <- lt' (<- elem' y j) (<- elem' x i)|return fin o i j
    if c then
     o:=o.push (<- elem' y j);j:=j+1;n:=n+1;m:=0
     if j==y.size then return fin o i j
     if n>=g then break
    else
     o:=o.push (<- elem' x i);i:=i+1;m:=m+1;n:=0
     if i+1==x.size then return fil o i j
     if m>=g then break
   rule "list.sort.gallop"
   g:=g+1
   for _ in [0:t] do
    if g>1 then g:=g-1
    modify fun st=>zSA st g
    let some k <- galQ false (<- elem' y j) x i (x.size-i) 0|return fin o i j
    m:=k
    if k>0 then
     o:=o++x.extract i (i+k);i:=i+k
     if i+1==x.size then return fil o i j
     if i==x.size then return fin o i j
    o:=o.push (<- elem' y j);j:=j+1
    if j==y.size then return fin o i j
    let some k <- galQ true (<- elem' x i) y j (y.size-j) 0|return fin o i j
    n:=k
    if k>0 then
     o:=o++y.extract j (j+k);j:=j+k
     if j==y.size then return fin o i j
    o:=o.push (<- elem' x i);i:=i+1
    if i+1==x.size then return fil o i j
    if m<7&&n<7 then break
   g:=g+1
   modify fun st=>zSA st g
  unsupported "internal:list.sort.merge-bound"):=rfl
def mlP(ans:Nat->Nat->Option Bool)(x y:Array Nat):PM (Array Nat):=do
  ruP
  let t:=x.size+y.size
  let fin:Array Nat->Nat->Nat->Array Nat:=fun o i j=>o++x.extract i x.size++y.extract j y.size
  let fil:Array Nat->Nat->Nat->Array Nat:=fun o i j=>o++y.extract j y.size++x.extract i x.size
  let mut o:Array Nat:=#[<- elP y 0]
  let mut i:=0
  let mut j:=1
  if j==y.size then return fin o i j
  if i+1==x.size then return fil o i j
  let mut g:=(<- get).mg
  for _ in [0:t] do
   let mut m:=0
   let mut n:=0
   for _ in [0:t] do
    let some c <- aP ans (<- elP y j) (<- elP x i)|return fin o i j
    if c then
     o:=o.push (<- elP y j);j:=j+1;n:=n+1;m:=0
     if j==y.size then return fin o i j
     if n>=g then break
    else
     o:=o.push (<- elP x i);i:=i+1;m:=m+1;n:=0
     if i+1==x.size then return fil o i j
     if m>=g then break
   ruP
   g:=g+1
   for _ in [0:t] do
    if g>1 then g:=g-1
    modify fun st=>{ st with mg:=g }
    let some k <- galP ans false (<- elP y j) x i (x.size-i) 0|return fin o i j
    m:=k
    if k>0 then
     o:=o++x.extract i (i+k);i:=i+k
     if i+1==x.size then return fil o i j
     if i==x.size then return fin o i j
    o:=o.push (<- elP y j);j:=j+1
    if j==y.size then return fin o i j
    let some k <- galP ans true (<- elP x i) y j (y.size-j) 0|return fin o i j
    n:=k
    if k>0 then
     o:=o++y.extract j (j+k);j:=j+k
     if j==y.size then return fin o i j
    o:=o.push (<- elP x i);i:=i+1
    if i+1==x.size then return fil o i j
    if m<7&&n<7 then break
   g:=g+1
   modify fun st=>{ st with mg:=g }
  qDh none
section
variable{prog:qGn}{w:World}{A:qGo}{E:Value->qGk->Prop}{s:qGk}{κ:qJg}{it:Array Keyed}{ans:Nat->Nat->Option Bool}
theorem zO1{f:Nat->Keyed}{x:Array Nat}{i j:Nat}:(x.map f).extract i j=(x.extract i j).map f:=by simp
def Vm(it:Array Keyed){γ:Type}(c:Option (Array Keyed)×Array Keyed×γ)(c':Option (Array Nat)×Array Nat×γ):Prop:=c=(c'.1.map (Array.map (kas_item it)),c'.2.1.map (kas_item it),c'.2.2)
theorem zR4(g:Nat):Rel (model prog w) A E s κ it (fun _ _=>True) (modify fun st=>zSA st g) (modify fun st=>{ st with mg:=g }):=zDY fun ps=>rfl
theorem zUM(HC:∀i j b,ans i j=some b->∀C:Bool->qGk->Prop,C b s->qI3 prog w A κ it i j C s)(x y:Array Nat):Rel (model prog w) A E s κ it (fun a a'=>a=a'.map (kas_item it)) (mlQ (x.map (kas_item it)) (y.map (kas_item it))) (mlP ans x y):=by
 rw[zX8];unfold mlP;refine zAE zKR fun _ _ _=>?_
 dsimp only;simp only[qFo,zO1];refine zAE (zF4 _ _) fun z i hz=>?_
 subst hz;have e0:(#[kas_item it i]:Array Keyed)=(#[i]:Array Nat).map (kas_item it):=by simp
 rw[e0];refine zBC (fun _=>zAH ?_) fun _=>zBC (fun _=>zAH ?_) fun _=>?_
 ·simp only[qCq]
 ·simp only[qCq]
 refine zAE zEW fun a ps h=>?_
 subst h;refine zAE (V:=Vm it) (zBS rfl fun _ c c' hc=>?_) fun c c' hc=>?_
 ·unfold Vm at hc;subst hc;obtain⟨r,o,i,j,g⟩:=c';dsimp only;refine zAE (V:=Vm it) (zBS rfl fun _ c c' hc=>?_) fun c c' hc=>?_
  ·unfold Vm at hc;subst hc;obtain⟨r,o,i,j,m,n⟩:=c';dsimp only
   repeat' first
    |exact zAH (by show _=_;simp only[qCq,qFp,qCc,qD1])
    |refine zBC (fun _=>?_) fun _=>?_
    |(refine zAE (zF4 _ _) fun z i hz=>?_;subst hz)
    |(refine zAE (zKS HC _ _) fun q q' hq=>?_;subst hq;cases q<;>dsimp only)
  ·unfold Vm at hc;subst hc;obtain⟨r,o,i,j,m,n⟩:=c';cases r with
   |some r=>exact zAH rfl
   |none=>
    dsimp only[qD1];refine zAE zKR fun _ _ _=>?_
    refine zAE (V:=Vm it) (zBS rfl fun _ c c' hc=>?_) fun c c' hc=>?_
    ·unfold Vm at hc;subst hc;obtain⟨r,o,i,j,g,m,n⟩:=c';dsimp only
     repeat' first
      |exact zAH (by show _=_;simp only[qCq,qFp,qCc,qD1])
      |refine zBC (fun _=>?_) fun _=>?_
      |(refine zAE (zF4 _ _) fun z i hz=>?_;subst hz)
      |refine zAE (zR4 _) fun _ _ _=>?_
      |(refine zAE (zJT HC _ _ _ _ _ _) fun q q' hq=>?_;subst hq;cases q<;>dsimp only)
    ·unfold Vm at hc;subst hc;obtain⟨r,o,i,j,g,m,n⟩:=c';cases r with
     |some r=>exact zAH rfl
     |none=>exact zAE (zR4 _) fun _ _ _=>zAH rfl
 ·unfold Vm at hc;subst hc;obtain⟨r,o,i,j,g⟩:=c';cases r with
  |some r=>exact zAH rfl
  |none=>exact zDJ fun ps=>rfl
end
theorem zVH(i:Nat):mergeAt' i=(do
  let st <- get
  let(some (a,n,q),some (b,m,_)):=((pendingOf st)[i]?,(pendingOf st)[i+1]?)|unsupported "internal:list.sort.pending"
  set (setPending st (((pendingOf st).setIfInBounds i (a,n+m,q)).eraseIdxIfInBounds (i+1)))
  let some k <- galQ false (<- elem' (arrOf st) b) (arrOf st) a n 0|return false
  let(a,n):=(a+k,n-k)
  if n==0 then return true
  let some m <- galQ true (<- elem' (arrOf st) (a+n-1)) (arrOf st) b m (m-1)|return false
  if m==0 then return true
  let x:=(arrOf st).extract a b
  let y:=(arrOf st).extract b (b+m)
  let o <- if n<=m then mlQ x y else mhQ x y
  modify fun st=>setArr st (o.toList.zipIdx.foldl (fun r (p,j)=>r.setIfInBounds (a+j) p) (arrOf st))
  return (failedOf (<- get)).isNone):=rfl
def matP(ans:Nat->Nat->Option Bool)(i:Nat):PM Bool:=do
  let st <- get
  let(some (a,n,q),some (b,m,_)):=(st.pd[i]?,st.pd[i+1]?)|qDh none
  set { st with pd:=(st.pd.setIfInBounds i (a,n+m,q)).eraseIdxIfInBounds (i+1) }
  let some k <- galP ans false (<- elP st.p b) st.p a n 0|return false
  let(a,n):=(a+k,n-k)
  if n==0 then return true
  let some m <- galP ans true (<- elP st.p (a+n-1)) st.p b m (m-1)|return false
  if m==0 then return true
  let x:=st.p.extract a b
  let y:=st.p.extract b (b+m)
  let o <- if n<=m then mlP ans x y else qDh none
  modify fun st=>{ st with p:=o.toList.zipIdx.foldl (fun r (p,j)=>r.setIfInBounds (a+j) p) st.p }
  let _ <- get
  return true
section
variable{prog:qGn}{w:World}{A:qGo}{E:Value->qGk->Prop}{s:qGk}{κ:qJg}{it:Array Keyed}{ans:Nat->Nat->Option Bool}
theorem zSG{st:SortSt}{ps1:PS}(h:st=conc κ it ps1):Rel (model prog w) A E s κ it (fun _ _=>True) (set st:StateT SortSt Sem PUnit) (set ps1:PM PUnit):=by
 intro ps b ps' e;cases(qAk e);refine⟨⟨⟩,trivial,fun Q q=>?_⟩;subst h;unfold kasC;rw[StateT.run_set];exact wpAny_pure q
theorem zKN(f:Nat->Keyed)(a:Nat):∀(l:List (Nat×Nat))(r:Array Nat),(l.map fun p=>(f p.1,p.2)).foldl (fun r p=>r.setIfInBounds (a+p.2) p.1) (r.map f)=(l.foldl (fun r p=>r.setIfInBounds (a+p.2) p.1) r).map f
 |[],r=>rfl
 |p::l,r=>by
  rw[qAn,qFa,qFa,<- zKN f a l];congr 1;simp
theorem zMR(HC:∀i j b,ans i j=some b->∀C:Bool->qGk->Prop,C b s->qI3 prog w A κ it i j C s)(i:Nat):Rel (model prog w) A E s κ it Eq (mergeAt' i) (matP ans i):=by
 rw[zVH];unfold matP;refine zAE zEW fun st ps h=>?_
 subst h;have ha:arrOf (conc κ it ps)=ps.p.map (kas_item it):=rfl;have hp:pendingOf (conc κ it ps)=ps.pd:=rfl;rw[ha,hp];dsimp only;cases ps.pd[i]? with
 |none=>exact zDJ fun ps=>rfl
 |some u=>
  cases ps.pd[i+1]? with
  |none=>exact zDJ fun ps=>rfl
  |some v=>
   obtain⟨a,n,q⟩:=u;obtain⟨b,m,z⟩:=v;dsimp only;refine zAE (zSG rfl) fun _ _ _=>?_
   refine zAE (zF4 _ _) fun y k hy=>?_
   subst hy;refine zAE (zJT HC _ _ _ _ _ _) fun o o' ho=>?_
   subst ho;cases o with
   |none=>exact zAH rfl
   |some k=>
    dsimp only;refine zBC (fun _=>zAH rfl) fun _=>?_
    refine zAE (zF4 _ _) fun y k2 hy=>?_
    subst hy;refine zAE (zJT HC _ _ _ _ _ _) fun o o' ho=>?_
    subst ho;cases o with
    |none=>exact zAH rfl
    |some m2=>
     dsimp only;refine zBC (fun _=>zAH rfl) fun _=>?_
     rw[zO1,zO1];refine zBC (fun _=>?_) fun _=>zDJ fun ps=>rfl
     refine zAE (zUM HC _ _) fun o o' ho=>?_
     subst ho;refine zAE (zDY fun ps=>?_) fun _ _ _=>?_
     ·show qH9 κ _ ps.pd ps.mg none=qH9 κ _ ps.pd ps.mg none
      congr 1;rw[<- zKN (kas_item it) (a+k)];congr 1;rw[qF1];simp[List.zipIdx_map]
     ·refine zAE zEW fun st ps h=>?_
      subst h;exact zAH rfl
def runP(ans:Nat->Nat->Option Bool):PM Unit:=do
 let z:=(<- get).p.size
 let mr:=minRun' z z 0
 let mut lo:=0
 for _ in [0:z] do
  if lo>=z then break
  let some f <- crP ans lo (z-lo)|return
  let mut n:=f
  if n<mr then
   ruP
   let k:=min (z-lo) mr
   if !(<- binP ans lo k n)then return
   n:=k
  if let some (a,b,_):=(<- get).pd.back? then
   let pw:=power' z (2*a+b) (2*a+b+b+n) z
   for _ in [0:z] do
    let p:=(<- get).pd
    let some (_,_,q):=(if p.size>1 then p[p.size-2]? else none)|break
    if q<=pw then break
    if !(<- matP ans (p.size-2))then return
   modify fun ps=>{ ps with pd:=ps.pd.modify (ps.pd.size-1) fun(a,b,_)=>(a,b,pw) }
  modify fun ps=>{ ps with pd:=ps.pd.push (lo,n,0) }
  lo:=lo+n
 for _ in [0:z] do
  let p:=(<- get).pd
  if p.size<=1 then break
  let i:=p.size-2
  let bf:=if i>0 then p[i-1]?.map (·.2.1)else none
  let i:=if bf.any (· < (p[i+1]?.elim 0 (·.2.1)))then i-1 else i
  if !(<- matP ans i)then return
theorem zDA{α β β':Type}{W:β->β'->Prop}{m:StateT SortSt Sem α}{n:PM α}{f:α->StateT SortSt Sem β}{g:α->PM β'}(h1:Rel (model prog w) A E s κ it Eq m n)(h2:∀a,Rel (model prog w) A E s κ it W (f a) (g a)):Rel (model prog w) A E s κ it W (m >>= f) (n >>= g):=zAE h1 fun a a' h=>by subst h;exact h2 a
theorem zHC{β β':Type}{W:β->β'->Prop}{f:SortSt->StateT SortSt Sem β}{g:PS->PM β'}(h:∀ps,Rel (model prog w) A E s κ it W (f (conc κ it ps)) (g ps)):Rel (model prog w) A E s κ it W (get >>= f) (get >>= g):=zAE zEW fun a ps e=>by subst e;exact h ps
theorem zSH(HC:∀i j b,ans i j=some b->∀C:Bool->qGk->Prop,C b s->qI3 prog w A κ it i j C s):Rel (model prog w) A E s κ it Eq sortRuns' (runP ans):=by
 rw[sortRuns'_eq];unfold runP;refine zAE zEW fun st ps h=>?_
 subst h;have ha:(arrOf (conc κ it ps)).size=ps.p.size:=by show(ps.p.map _).size=_;simp
 rw[ha];dsimp only;refine zAE (V:=Eq) (zBS rfl fun _ c c' hc=>?_) fun c c' hc=>?_
 ·subst hc;obtain⟨r,lo⟩:=c;dsimp only;refine zBC (fun _=>zAH rfl) fun _=>?_
  refine zAE (zUN HC _ _) fun o o' ho=>?_
  subst ho;cases o with
  |none=>exact zAH rfl
  |some f=>
   dsimp only;refine zBC (fun _=>zAE zKR fun _ _ _=>zDA (zSJ HC _ _ _) fun o=>zBC (fun _=>zAH rfl) fun _=>?_) fun _=>?_
   all_goals
    refine zHC fun q=>?_
    have hp:pendingOf (conc κ it q)=q.pd:=rfl;rw[hp];rcases q.pd.back? with _|⟨a,b,z⟩<;>dsimp only
    ·exact zAE (zDY fun ps=>rfl) fun _ _ _=>zAH rfl
    ·refine zDA (zBS rfl fun _ c c' hc=>?_) fun c=>?_
     ·subst hc;refine zHC fun q=>?_
      have hp:pendingOf (conc κ it q)=q.pd:=rfl;rw[hp];rcases(if q.pd.size>1 then q.pd[q.pd.size-2]? else none)with _|⟨u,v,z⟩<;>dsimp only
      ·exact zAH rfl
      ·exact zBC (fun _=>zAH rfl) fun _=>zDA (zMR HC _) fun o=>zBC (fun _=>zAH rfl) fun _=>zAH rfl
     ·obtain⟨r,_⟩:=c;cases r with
      |some r=>exact zAH rfl
      |none=>exact zAE (zDY fun ps=>rfl) fun _ _ _=>zAE (zDY fun ps=>rfl) fun _ _ _=>zAH rfl
 ·subst hc;obtain⟨r,lo⟩:=c;cases r with
  |some r=>exact zAH rfl
  |none=>
   dsimp only;refine zDA (zBS rfl fun _ c c' hc=>?_) fun c=>?_
   ·subst hc;refine zHC fun q=>?_
    have hp:pendingOf (conc κ it q)=q.pd:=rfl;rw[hp];exact zBC (fun _=>zAH rfl) fun _=>zDA (zMR HC _) fun o=>zBC (fun _=>zAH rfl) fun _=>zAH rfl
   ·obtain⟨r,_⟩:=c;cases r with
    |some r=>exact zAH rfl
    |none=>exact zAH rfl
end
end S8
namespace Mp
noncomputable def ords(row:List Nat):List Nat:=row.foldl (fun o p=>if p∈o then o else o++[p]) []
noncomputable def sh(s:Nat)(cs:List Nat):List Nat:=cs.drop s++cs.take s
def wr(cs:List Nat):List Nat:=cs.map fun c=>97+(ords cs).idxOf c
end Mp
namespace Mp
open Mi PySem
noncomputable def wrd(ls row:List Nat):List Nat:=row.map fun p=>ls.getD p 0
end Mp
namespace S8
open PySem PySem.W PyProof.Rows PySem.SeqAt
section
variable{prog:qGn}{w:World}{A:qGo}{E:Value->qGk->Prop}{s:qGk}
theorem zM2{vs:List Value}:qH9 qI0 (vs.toArray.zip vs.toArray) #[] 7 none=conc qI0 (pairsOf vs) ⟨(qA4 vs.length).toArray,#[],7⟩:=by
 have e:=kas_range (pairsOf vs);rw[pairsOf_size]at e;show qH9 qI0 (pairsOf vs) #[] 7 none=qH9 qI0 ((qA4 vs.length).toArray.map (kas_item (pairsOf vs))) #[] 7 none;rw[e]
theorem zP1{a:Addr}{vs:List Value}{n:Nat}{P:qGi->qGk->Prop}{ans:Nat->Nat->Option Bool}{ps:PS}(ho:s.heap.get? a=some (seqObj "list" vs.toArray n))(h2:2<=vs.length)(hz:vs.length<=10000)
  (hk:∀h':Heap,(∀b o,b≠a->s.heap.get? b=some o->h'.get? b=some o)->(∀v∈vs,Looks (model prog w) h' (typeOf v) (.type "list"))/\∀i j b,ans i j=some b->∀C:Bool->qGk->Prop,C b { s with heap:=h' }->qI3 prog w A qI0 (pairsOf vs) i j C { s with heap:=h' })
  (hr:(runP ans).run ⟨(qA4 vs.length).toArray,#[],7⟩=some ((),ps)) (hps:ps.p.size=vs.length)
  (h:P (.done (.ret .none)) { s with heap:=sortedHeap s.heap a vs (ps.p.map fun i=>vs.getD i .none) }) :
  wpAny (model prog w) A (Builtin.«list.sort» ⟨[.ref a],[]⟩) P E s:=by
 rw[list_sort_plain];have ha:a<s.heap.objs.size:=qGm ho;refine wpAny_bind (listItems_at ho rfl ?_);refine wpAny_bind (listUpdate_at ho rfl ?_ (by rw[qAg,qGy];omega) (qAh _));obtain⟨e1,ho1⟩:∃e1,(s.heap.update a (qGw fun _=>#[])).get? a=some (seqObj "list" #[] e1):=⟨_,get?_update_seq ho fun _=>#[]⟩
 refine wpAny_bind (seqEpoch_at ho1 rfl ?_);refine wpAny_bind (wpAny_newTuple ?_ (by show vs.length<=_;rw[qGy];omega));refine wpAny_bind (wpAny_newList ?_ (qAh _));refine wpAny_holding ?_;have old:∀b o,b≠a->s.heap.get? b=some o->(((s.heap.update a (qGw fun _=>#[])).push (seqObj "tuple" vs.toArray 0)).push (seqObj "list" #[] 0)).get? b=some o:=fun b o hb q=>by
  refine qGl _ (qGl _ ?_);rw[qIx _ _ _ _ hb];exact q
 have ho6:(((s.heap.update a (qGw fun _=>#[])).push (seqObj "tuple" vs.toArray 0)).push (seqObj "list" #[] 0)).get? a=some (seqObj "list" #[] e1):=qGl _ (qGl _ ho1);show wpAny (model prog w) A _ P E { s with heap:=((s.heap.update a (qGw fun _=>#[])).push (seqObj "tuple" vs.toArray 0)).push (seqObj "list" #[] 0) };dsimp only;obtain⟨hT,HC⟩:=hk _ old;have hn2:¬vs.toArray.size<2:=by rw[qAg];omega
 rw[if_neg hn2,if_neg hn2];refine wpAny_bind (kas_kind h2 hT (by decide) (by decide) ?_);rw[zM2];obtain⟨_,_,run⟩:=zSH (E:=E) HC _ _ _ hr;refine wpAny_bind (wpAny_mono (run (fun _ st' s'=>st'=conc qI0 (pairsOf vs) ps/\s'={ s with heap:=((s.heap.update a (qGw fun _=>#[])).push (seqObj "tuple" vs.toArray 0)).push (seqObj "list" #[] 0) }) ⟨rfl,rfl⟩) ?_ fun _ _ e=>e)
 rintro⟨⟨⟩,st'⟩ s' ⟨rfl,rfl⟩
 dsimp only;have hout:(arrOf (conc qI0 (pairsOf vs) ps)).map (·.2)=ps.p.map fun i=>vs.getD i .none:=by
  show(ps.p.map (kas_item (pairsOf vs))).map (·.2)=_;rw[Array.map_map];congr 1;funext i;show(kas_item (pairsOf vs) i).2=_;rw[qJm]
 rw[hout];refine wpAny_bind (seqEpoch_at ho6 rfl ?_);refine wpAny_bind (listUpdate_at ho6 rfl ?_ (qAh _) (by rw[qFo,hps,qGy];omega));simp only[bne_self_eq_false,qD5,if_false];exact wpAny_pure h
def ansL(xss:List (List Int))(i j:Nat):Option Bool:=if i<xss.length/\j<xss.length then some (ltL (xss.getD i []) (xss.getD j []))else none
def zQV(h:Heap)(vs:List Value)(xss:List (List Int)):Prop:=vs.length=xss.length/\∀i,i<xss.length->∃r us,vs[i]?=some (.ref r)/\h.IsList r us/\IntV us (xss.getD i [])
theorem zP8{vs:List Value}{xss:List (List Int)}(hu:A.units<cLine)(R:zQV s.heap vs xss)(i j:Nat)(b:Bool)(hb:ansL xss i j=some b)(C:Bool->qGk->Prop)(h:C b s):qI3 prog w A qI0 (pairsOf vs) i j C s:=by
 unfold ansL at hb;split at hb
 ·rename_i hij
  cases hb;obtain⟨r,us,h1,h2,h3⟩:=R.2 i hij.1;obtain⟨r',us',h1',h2',h3'⟩:=R.2 j hij.2;have e1:(kas_item (pairsOf vs) i).1=.ref r:=by rw[qJm];simp[qBe,h1]
  have e2:(kas_item (pairsOf vs) j).1=.ref r':=by rw[qJm];simp[qBe,h1']
  unfold qI3;rw[e1,e2];exact zPZ hu h2 h2' h3 h3' h
 ·cases hb
theorem zLN{l:Addr}{vs:List Value}{xss:List (List Int)}{Q:Value->qGk->Prop}{ps:PS}(hl:s.heap.IsList l vs.toArray)(R:zQV s.heap vs xss)(h2:2<=vs.length)(hz:vs.length<=10000)(hu:A.in1.in1.units<cLine)
  (hr:(runP (ansL xss)).run ⟨(qA4 vs.length).toArray,#[],7⟩=some ((),ps)) (hps:ps.p.size=vs.length)
  (h:Q (.ref (s.heap.objs.size+1)) { s with heap:=sortedAll s.heap vs (ps.p.map fun i=>vs.getD i .none) }) :
  wpAny (model prog w) A (call (.builtin "sorted") [.ref l]) Q E s:=by
 refine qI4 kind_sorted plain_sorted entry_sorted (args_sorted1 _) ?_;unfold Builtin.«sorted»;refine wpAny_bind (m:=checkCount "sorted" 1 1 _) (wpAny_pure ?_);refine wpAny_bind (collect_list hl ?_ (by rw[qGy];omega));refine wpAny_bind (wpAny_newList ?_ (by rw[qGy];omega));have hsz:((s.heap.push (seqObj "list" #[] 0)).update s.heap.objs.size (qGw (·++vs.toArray))).objs.size=s.heap.objs.size+1:=by
  rw[qJf,size_push']
 have hoL:(((s.heap.push (seqObj "list" #[] 0)).update s.heap.objs.size (qGw (·++vs.toArray))).push (seqObj "list" vs.toArray 0)).get? (s.heap.objs.size+1)=some (seqObj "list" vs.toArray 0):=by
  rw[<- hsz];exact qGs _ rfl
 have keep:∀b o,s.heap.get? b=some o->(((s.heap.push (seqObj "list" #[] 0)).update s.heap.objs.size (qGw (·++vs.toArray))).push (seqObj "list" vs.toArray 0)).get? b=some o:=fun b o q=>by
  have hlt:b<s.heap.objs.size:=qGm q;rw[qJ9 _ _ _ (by rw[hsz];exact qAm (qBf hlt)),qIx _ _ _ _ (qAm hlt),qJ9 _ _ _ (qAm hlt)];exact q
 show wpAny _ _ _ _ _ { s with heap:=((s.heap.push (seqObj "list" #[] 0)).update s.heap.objs.size (qGw (·++vs.toArray))).push (seqObj "list" vs.toArray 0) };rw[hsz];refine wpAny_bind (wpAny_holding (wpAny_call_entry slot_list_sort ⟨_,hoL,rfl⟩ entry_list_sort (zP1 (ans:=ansL xss) hoL h2 hz (fun h' k=>?_) hr hps ⟨_,rfl,?_⟩) (args_list_sort _)))
 ·have R':zQV h' vs xss:=⟨R.1,fun i hi=>by
   obtain⟨r,us,h1,⟨o,ho,h2⟩,h3⟩:=R.2 i hi;exact⟨r,us,h1,⟨o,k _ _ (qAm (qBf (qGm ho))) (keep _ _ ho),h2⟩,h3⟩⟩
  refine⟨fun v hv=>?_,fun i j b hb C hC=>zP8 (s:={ s with heap:=h' }) hu R' i j b hb C hC⟩;obtain⟨i,hi,rfl⟩:=qE0.mp hv;obtain⟨r,us,h1,h2,h3⟩:=R'.2 i (by rw[<- R.1];exact hi);rw[qA5 hi]at h1;rw[qAk h1];obtain⟨o,ho,hc,_⟩:=h2;exact hc▸(Looks.ld ho).andThen .now
 ·exact wpAny_pure ⟨_,rfl,h⟩
end
end S8
namespace S8
open PySem PySem.W PyProof.Rows
def Ok{α:Type}(n:PM α)(P:PS->Prop)(Q:α->PS->Prop):Prop:=∀ps,P ps->∃a ps',n.run ps=some (a,ps')/\Q a ps'
section
variable{α β:Type}{P:PS->Prop}{Q:α->PS->Prop}
theorem zBH{a:α}(h:∀ps,P ps->Q a ps):Ok (pure a) P Q:=fun ps hp=>⟨a,ps,rfl,h ps hp⟩
theorem zB3{R:β->PS->Prop}{n:PM α}{f:α->PM β}(h1:Ok n P Q)(h2:∀a,Ok (f a) (Q a) R):Ok (n >>= f) P R:=fun ps hp=>by
 obtain⟨a,ps1,e1,q⟩:=h1 ps hp;obtain⟨b,ps2,e2,r⟩:=h2 a ps1 q;refine⟨b,ps2,?_,r⟩;rw[qD0,e1];exact e2
theorem zDC{c:Prop}[Decidable c]{n1 n2:PM α}(h1:c->Ok n1 P Q)(h2:¬c->Ok n2 P Q):Ok (if c then n1 else n2) P Q:=by
 by_cases h:c
 ·rw[if_pos h];exact h1 h
 ·rw[if_neg h];exact h2 h
theorem zN9{f:Nat->β->PM (ForInStep β)}(I:Nat->β->PS->Prop)(D:β->PS->Prop)(z:Nat)(step:∀x b,x<z->Ok (f x b) (I x b) (fun r ps=>match r with | .done b'=>D b' ps | .yield b'=>I (x+1) b' ps))(fin:∀b ps,I z b ps->D b ps):∀(m a:Nat)(b:β),a+m=z->Ok (forIn (qEb a m) b f) (I a b) D
 |0,a,b,h=>by
  rw[List.range'_zero,qD6];have:a=z:=by omega
  subst this;exact zBH fun ps hp=>fin b ps hp
 |m+1,a,b,h=>by
  rw[qDr,qCw];refine zB3 (step a b (by omega)) fun r=>?_
  cases r with
  |done b'=>exact zBH fun ps hp=>hp
  |yield b'=>exact zN9 I D z step fin m (a+1) b' (by omega)
theorem zCX{f:Nat->β->PM (ForInStep β)}{a z:Nat}{b:β}(I:Nat->β->PS->Prop)(D:β->PS->Prop)(haz:a<=z)(step:∀x b,x<z->Ok (f x b) (I x b) (fun r ps=>match r with | .done b'=>D b' ps | .yield b'=>I (x+1) b' ps))(fin:∀b ps,I z b ps->D b ps):Ok (forIn [a:z] b f) (I a b) D:=by
 rw[qBk];have:([a:z]:qF2).size=z-a:=by simp[qG8]
 show Ok (forIn (qEb a ([a:z]:qF2).size 1) b f) (I a b) D;rw[this];exact zN9 I D z step fin _ _ _ (by omega)
end
def Pm(N:Nat)(ps:PS):Prop:=ps.p.toList.Perm (qA4 N)
theorem Pm.size{N:Nat}{ps:PS}(h:Pm N ps):ps.p.size=N:=by
 have:=h.length_eq;simpa using this
theorem Pm.get{N:Nat}{ps:PS}(h:Pm N ps){i:Nat}(hi:i<N):∃x,ps.p[i]?=some x/\x<N:=by
 have hs:=h.size;have hi':i<ps.p.size:=by omega
 refine⟨ps.p[i],by simp[hi'],?_⟩
 have:ps.p[i]∈qA4 N:=h.mem_iff.mp (by simp)
 exact qBq.mp this
theorem zLV{xss:List (List Int)}{N i j:Nat}{P:PS->Prop}(hN:xss.length=N)(hi:i<N)(hj:j<N)(hP:∀ps,P ps->Pm N ps):Ok (laP (ansL xss) i j) P (fun o ps=>(∃b,o=some b)/\P ps):=fun ps hp=>by
 obtain⟨x,hx,hxn⟩:=(hP ps hp).get hi;obtain⟨y,hy,hyn⟩:=(hP ps hp).get hj;refine⟨some (ltL (xss.getD x []) (xss.getD y [])),ps,?_,⟨_,rfl⟩,hp⟩;have e1:(elP ps.p i).run ps=some (x,ps):=by unfold elP;rw[hx];rfl
 have e2:(elP ps.p j).run ps=some (y,ps):=by unfold elP;rw[hy];rfl
 have e3:(aP (ansL xss) x y).run ps=some (some (ltL (xss.getD x []) (xss.getD y [])),ps):=by unfold aP ansL;rw[if_pos ⟨by omega,by omega⟩];rfl
 show((elP ps.p i >>= fun x=>elP ps.p j >>= fun y=>aP (ansL xss) x y).run ps)=_
 rw[qD0,e1];show((elP ps.p j >>= fun y=>aP (ansL xss) x y).run ps)=_
 rw[qD0,e2];exact e3
theorem zE1{α:Type}{n:PM α}{P P':PS->Prop}{Q Q':α->PS->Prop}(h:Ok n P Q)(h1:∀ps,P' ps->P ps)(h2:∀a ps,Q a ps->Q' a ps):Ok n P' Q':=fun ps hp=>by
 obtain⟨a,ps',e,q⟩:=h ps (h1 ps hp);exact⟨a,ps',e,h2 a ps' q⟩
theorem zET(u v:Nat->Nat):∀(l:List Nat)(p:Array Nat),(l.foldl (fun a k=>a.swapIfInBounds (u k) (v k)) p).toList.Perm p.toList
 |[],p=>.refl _
 |k::l,p=>by
  refine(zET u v l _).trans ?_;have:(p.swapIfInBounds (u k) (v k)).Perm p:=by
   rw[Array.swapIfInBounds_def];split
   ·split
    ·exact Array.swap_perm ..
    ·exact .refl _
   ·exact .refl _
  exact Array.perm_iff_toList_perm.mp this
theorem zFD(p:Array Nat)(i j:Nat):(kas_rev p i j).toList.Perm p.toList:=zET _ _ _ p
theorem zQQ(p:Array Nat)(k l:Nat):(bubble p k l).toList.Perm p.toList:=zET _ _ _ p
def Jv(N:Nat)(pd:Array (Nat×Nat×Nat))(g:Nat)(ps:PS):Prop:=Pm N ps/\ps.pd=pd/\ps.mg=g
section
variable{xss:List (List Int)}{N g:Nat}{pd:Array (Nat×Nat×Nat)}(hN:xss.length=N)
include hN
theorem zVF{n k0:Nat}(hn:n<=N)(hk:max k0 1<=n):Ok (binP (ansL xss) 0 n k0) (Jv N pd g) (fun b ps=>b=true/\Jv N pd g ps):=by
 unfold binP;refine zB3 (Q:=fun b ps=>b.1=none/\Jv N pd g ps) (zE1 (zCX (fun _ b ps=>b.1=none/\Jv N pd g ps) (fun b ps=>b.1=none/\Jv N pd g ps) hk (fun k b hk=>?_) fun b ps h=>h) (fun ps h=>⟨rfl,h⟩) fun _ _ h=>h) fun b=>?_
 ·refine zB3 (Q:=fun c ps=>c.1=none/\Jv N pd g ps) (zE1 (zCX (fun _ c ps=>c.1=none/\c.2.2<=k/\Jv N pd g ps) (fun c ps=>c.1=none/\Jv N pd g ps) (qAh _) (fun x c hx=>?_) fun c ps h=>⟨h.1,h.2.2⟩) (fun ps h=>⟨rfl,qA9 _,h.2⟩) fun _ _ h=>h) fun c=>?_
  ·obtain⟨r,u,v⟩:=c;dsimp only;refine zDC (fun _=>zBH fun ps h=>⟨rfl,h.2.2⟩) fun huv=>?_
   intro ps hp;obtain⟨h1,h2,h3⟩:=hp;refine zB3 (zLV (P:=Jv N pd g) hN (by omega) (by omega) fun ps h=>h.1) (fun o=>?_) ps h3;cases o with
   |none=>exact fun ps h=>by obtain⟨⟨b,z⟩,_⟩:=h;cases z
   |some y=>
    dsimp only;exact zDC (fun _=>zBH fun ps h=>⟨rfl,by dsimp only;omega,h.2⟩) fun _=>zBH fun ps h=>⟨rfl,h2,h.2⟩
  ·obtain⟨r,u,v⟩:=c;cases r with
   |some r=>exact fun ps h=>by cases h.1
   |none=>
    dsimp only;refine zB3 (Q:=fun _ ps=>Jv N pd g ps) (fun ps h=>⟨_,_,rfl,(zQQ _ _ _).trans h.2.1,h.2.2⟩) fun _=>zBH fun ps h=>⟨rfl,h⟩
 ·obtain⟨r,_⟩:=b;cases r with
  |some r=>exact fun ps h=>by cases h.1
  |none=>exact zBH fun ps h=>⟨rfl,h.2⟩
theorem zRC{k0:Nat}(h0:1<=k0)(h1:k0<=N):Ok (cr3 (ansL xss) 0 N k0) (Jv N pd g) (fun o ps=>(∃k,o=some k/\1<=k/\k<=N)/\Jv N pd g ps):=by
 unfold cr3;refine zB3 (Q:=fun _ ps=>Jv N pd g ps) (fun ps h=>⟨_,_,rfl,(zFD _ _ _).trans h.1,h.2⟩) fun _=>?_
 dsimp only;refine zB3 (Q:=fun c ps=>c.1=none/\1<=c.2/\c.2<=N/\Jv N pd g ps) (zE1 (zCX (fun x c ps=>c.1=none/\c.2=x/\1<=x/\Jv N pd g ps) (fun c ps=>c.1=none/\1<=c.2/\c.2<=N/\Jv N pd g ps) h1 (fun x c hx=>?_) fun c ps h=>⟨h.1,by rw[h.2.1];exact h.2.2.1,by rw[h.2.1];exact qA9 _,h.2.2.2⟩) (fun ps h=>⟨rfl,rfl,h0,h⟩) fun _ _ h=>h) fun c=>?_
 ·obtain⟨r,k⟩:=c;intro ps hp;obtain⟨e1,e2,e3,h3⟩:=hp;dsimp only at e1 e2 ⊢;subst e1 e2;refine zB3 (zLV (P:=Jv N pd g) hN (by omega) (by omega) fun ps h=>h.1) (fun o=>?_) ps h3;cases o with
  |none=>exact fun ps h=>by obtain⟨⟨b,z⟩,_⟩:=h;cases z
  |some y=>
   dsimp only;exact zDC (fun _=>zBH fun ps h=>⟨rfl,e3,qB6 hx,h.2⟩) fun _=>zBH fun ps h=>⟨rfl,rfl,by omega,h.2⟩
 ·obtain⟨r,k⟩:=c;intro ps hp;obtain⟨e1,e2,e3,h3⟩:=hp;dsimp only at e1 e2 e3;subst e1;exact zBH (P:=Jv N pd g) (fun ps h=>⟨⟨k,rfl,e2,e3⟩,h⟩) ps h3
theorem zRD{k0:Nat}(h0:1<=k0)(h1:k0+1<=N):Ok (cr2 (ansL xss) 0 N k0) (Jv N pd g) (fun o ps=>(∃k,o=some k/\1<=k/\k<=N)/\Jv N pd g ps):=by
 unfold cr2;refine zB3 (Q:=fun _ ps=>Jv N pd g ps) (fun ps h=>⟨_,_,rfl,h⟩) fun _=>?_
 dsimp only;refine zB3 (Q:=fun c ps=>c.1=none/\1<=c.2.1/\c.2.1<=N/\Jv N pd g ps) (zE1 (zCX (fun x c ps=>c.1=none/\c.2.1=x/\2<=x/\Jv N pd g ps) (fun c ps=>c.1=none/\1<=c.2.1/\c.2.1<=N/\Jv N pd g ps) h1 (fun x c hx=>?_) fun c ps h=>⟨h.1,by rw[h.2.1];omega,by rw[h.2.1];exact qA9 _,h.2.2.2⟩) (fun ps h=>⟨rfl,rfl,by omega,h⟩) fun _ _ h=>h) fun c=>?_
 ·obtain⟨r,k,q⟩:=c;intro ps hp;obtain⟨e1,e2,e3,h3⟩:=hp;dsimp only at e1 e2 ⊢;subst e1 e2;refine zB3 (zLV (P:=Jv N pd g) hN (by omega) (by omega) fun ps h=>h.1) (fun o=>?_) ps h3;cases o with
  |none=>exact fun ps h=>by obtain⟨⟨b,z⟩,_⟩:=h;cases z
  |some y=>
   dsimp only;refine zDC (fun _=>zDC (fun _=>zB3 (Q:=fun _ ps=>Jv N pd g ps) (fun ps h=>⟨_,_,rfl,(zFD _ _ _).trans h.2.1,h.2.2⟩) fun _=>zBH fun ps h=>⟨rfl,rfl,by omega,h⟩) fun _=>zBH fun ps h=>⟨rfl,rfl,by omega,h.2⟩) fun _=>?_
   refine zB3 (zLV (P:=fun ps=>(∃b,some y=some b)/\Jv N pd g ps) hN (by omega) (by omega) fun ps h=>h.2.1) fun o=>?_
   cases o with
   |none=>exact fun ps h=>by obtain⟨⟨b,z⟩,_⟩:=h;cases z
   |some z=>
    dsimp only;exact zDC (fun _=>zBH fun ps h=>⟨rfl,by dsimp only;omega,qB6 hx,h.2.2⟩) fun _=>zBH fun ps h=>⟨rfl,rfl,by omega,h.2.2⟩
 ·obtain⟨r,k,q⟩:=c;intro ps hp;obtain⟨e1,e2,e3,h3⟩:=hp;dsimp only at e1 e2 e3;subst e1;dsimp only;refine zDC (P:=Jv N pd g) (fun _=>?_) (fun _=>zRC hN e2 e3) ps h3;exact zB3 (Q:=fun _ ps=>Jv N pd g ps) (fun ps h=>⟨_,_,rfl,(zFD _ _ _).trans h.1,h.2⟩) fun _=>zRC hN e2 e3
theorem zX7(h1:1<=N):Ok (crP (ansL xss) 0 N) (Jv N pd g) (fun o ps=>(∃k,o=some k/\1<=k/\k<=N)/\Jv N pd g ps):=by
 unfold crP;refine zB3 (Q:=fun c ps=>c.1=none/\1<=c.2/\c.2<=N/\Jv N pd g ps) (zE1 (zCX (fun x c ps=>c.1=none/\c.2=x/\1<=x/\Jv N pd g ps) (fun c ps=>c.1=none/\1<=c.2/\c.2<=N/\Jv N pd g ps) h1 (fun x c hx=>?_) fun c ps h=>⟨h.1,by rw[h.2.1];exact h.2.2.1,by rw[h.2.1];exact qA9 _,h.2.2.2⟩) (fun ps h=>⟨rfl,rfl,qA9 _,h⟩) fun _ _ h=>h) fun c=>?_
 ·obtain⟨r,k⟩:=c;intro ps hp;obtain⟨e1,e2,e3,h3⟩:=hp;dsimp only at e1 e2 ⊢;subst e1 e2;refine zB3 (zLV (P:=Jv N pd g) hN (by omega) (by omega) fun ps h=>h.1) (fun o=>?_) ps h3;cases o with
  |none=>exact fun ps h=>by obtain⟨⟨b,z⟩,_⟩:=h;cases z
  |some y=>
   dsimp only;exact zDC (fun _=>zBH fun ps h=>⟨rfl,e3,qB6 hx,h.2⟩) fun _=>zBH fun ps h=>⟨rfl,rfl,by omega,h.2⟩
 ·obtain⟨r,k⟩:=c;intro ps hp;obtain⟨e1,e2,e3,h3⟩:=hp;dsimp only at e1 e2 e3;subst e1;dsimp only;refine zDC (P:=Jv N pd g) (fun _=>zBH fun ps h=>⟨⟨k,rfl,e2,e3⟩,h⟩) (fun hne=>?_) ps h3;have hk:k+1<=N:=by
   have:k≠N:=fun z=>hne (by simp[z])
   omega
  refine zDC (fun _=>?_) fun _=>zRD hN e2 hk
  refine zB3 (zLV (P:=Jv N pd g) hN (by omega) (by omega) fun ps h=>h.1) fun o=>?_
  cases o with
  |none=>exact fun ps h=>by obtain⟨⟨b,z⟩,_⟩:=h;cases z
  |some y=>
   dsimp only;exact zDC (fun _=>zBH fun ps h=>⟨⟨k,rfl,e2,e3⟩,h.2⟩) fun _=>zB3 (Q:=fun _ ps=>Jv N pd g ps) (fun ps h=>⟨_,_,rfl,(zFD _ _ _).trans h.2.1,h.2.2⟩) fun _=>zRD hN e2 hk
theorem zVD(h2:2<=N)(h64:N<64):∃ps,(runP (ansL xss)).run ⟨(qA4 N).toArray,#[],7⟩=some ((),ps)/\Pm N ps:=by
 have hmr:minRun' N N 0=N:=by
  obtain⟨f,rfl⟩:∃f,N=f+1:=⟨N-1,by omega⟩
  rw[minRun'_succ,if_pos h64]
 have key:Ok (runP (ansL xss)) (Jv N #[] 7) (fun _ ps=>Pm N ps):=by
  unfold runP;refine zB3 (Q:=fun a ps=>a.p.size=N/\Jv N #[] 7 ps) (fun ps h=>⟨_,_,rfl,h.1.size,h⟩) fun a=>?_
  dsimp only;intro ps hp;obtain⟨ea,hJ⟩:=hp;rw[ea,hmr];refine zB3 (P:=Jv N #[] 7) (Q:=fun c ps=>c=(none,N)/\Jv N #[(0,N,0)] 7 ps) (zE1 (zCX (fun x c ps=>if x=0 then c=(none,0)/\Jv N #[] 7 ps else c=(none,N)/\Jv N #[(0,N,0)] 7 ps) (fun c ps=>c=(none,N)/\Jv N #[(0,N,0)] 7 ps) (qAh _) (fun x c hx=>?_) fun c ps h=>?_) (fun ps h=>by rw[if_pos rfl];exact⟨rfl,h⟩) fun _ _ h=>h) (fun c=>?_) ps hJ
  ·by_cases hx0:x=0
   ·subst hx0;intro ps hp;rw[if_pos rfl]at hp;obtain⟨rfl,hJ⟩:=hp;dsimp only;rw[if_neg (by omega)];refine zB3 (P:=Jv N #[] 7) (zX7 hN (by omega)) (fun o=>?_) ps hJ;intro ps hp;obtain⟨⟨f,rfl,f1,f2⟩,hJ⟩:=hp;dsimp only;rw[show min (N-0) N=N by omega]
    by_cases hf:f<N
    ·rw[if_pos hf];refine zB3 (P:=Jv N #[] 7) (Q:=fun _ ps=>Jv N #[] 7 ps) (fun ps h=>⟨_,_,rfl,h⟩) (fun _=>zB3 (zVF hN (qA9 _) (by omega)) fun b=>?_) ps hJ;intro ps hp;obtain⟨rfl,h1,h2,h3⟩:=hp;obtain⟨p,pd,mg⟩:=ps;dsimp only at h2 h3;subst h2 h3;exact⟨_,_,rfl,by dsimp only;rw[if_neg (by omega),qC9];exact⟨rfl,h1,rfl,rfl⟩⟩
    ·rw[if_neg hf];obtain⟨h1,h2,h3⟩:=hJ;obtain⟨p,pd,mg⟩:=ps;dsimp only at h2 h3;subst h2 h3
     have:f=N:=by omega
     subst this;exact⟨_,_,rfl,by dsimp only;rw[if_neg (by omega),qC9];exact⟨rfl,h1,rfl,rfl⟩⟩
   ·intro ps hp;rw[if_neg hx0]at hp;obtain⟨rfl,hJ⟩:=hp;dsimp only;rw[if_pos (qA9 _)];exact⟨_,_,rfl,rfl,hJ⟩
  ·rw[if_neg (by omega)]at h;exact h
  ·intro ps hp;obtain⟨rfl,hJ⟩:=hp;dsimp only;refine zB3 (P:=Jv N #[(0,N,0)] 7) (Q:=fun c ps=>c.1=none/\Jv N #[(0,N,0)] 7 ps) (zE1 (zCX (fun _ c ps=>c.1=none/\Jv N #[(0,N,0)] 7 ps) (fun c ps=>c.1=none/\Jv N #[(0,N,0)] 7 ps) (qAh _) (fun x c hx=>?_) fun c ps h=>h) (fun ps h=>⟨rfl,h⟩) fun _ _ h=>h) (fun c=>?_) ps hJ
   ·intro ps hp;obtain⟨_,h1,h2,h3⟩:=hp;obtain⟨p,pd,mg⟩:=ps;dsimp only at h2 h3;subst h2 h3;exact⟨_,_,rfl,rfl,h1,rfl,rfl⟩
   ·obtain⟨r,_⟩:=c;cases r with
    |some r=>exact fun ps h=>by cases h.1
    |none=>exact fun ps h=>⟨_,_,rfl,h.2.1⟩
 obtain⟨a,ps,e,h⟩:=key ⟨(qA4 N).toArray,#[],7⟩ ⟨by unfold Pm;simp,rfl,rfl⟩;exact⟨ps,e,h⟩
end
noncomputable def all64:List (List Int):=([0,1,2,3,4,5]:List Int).foldl (fun l k=>l++l.map fun x=>x++[k]) [[]]
theorem zWW:∃ps,(runP (ansL all64)).run ⟨(qA4 64).toArray,#[],7⟩=some ((),ps)/\Pm 64 ps:=by
 have h:(((runP (ansL all64)).run ⟨(qA4 64).toArray,#[],7⟩).map fun r=>decide (r.2.p.toList.Perm (qA4 64)))=some true:=by decide +kernel
 cases e:(runP (ansL all64)).run ⟨(qA4 64).toArray,#[],7⟩with
 |none=>rw[e]at h;cases h
 |some r=>
  rw[e]at h;obtain⟨⟨⟩,ps⟩:=r;have h':decide (ps.p.toList.Perm (qA4 64))=true:=qAk h;have h3:ps.p.toList.Perm (qA4 64):=of_decide_eq_true h';exact⟨ps,rfl,h3⟩
noncomputable def ordL(xss:List (List Int)):Option (List Nat):=((runP (ansL xss)).run ⟨(qA4 xss.length).toArray,#[],7⟩).map fun r=>r.2.p.toList
theorem zJV{xss:List (List Int)}(h2:2<=xss.length)(h:xss.length<64\/xss=all64):∃l ps,(runP (ansL xss)).run ⟨(qA4 xss.length).toArray,#[],7⟩=some ((),ps)/\ps.p.toList=l/\ordL xss=some l/\l.Perm (qA4 xss.length):=by
 have:∃ps,(runP (ansL xss)).run ⟨(qA4 xss.length).toArray,#[],7⟩=some ((),ps)/\Pm xss.length ps:=by
  rcases h with h|rfl
  ·exact zVD rfl h2 h
  ·exact zWW
 obtain⟨ps,e,hp⟩:=this;exact⟨_,ps,e,rfl,by unfold ordL;rw[e];rfl,hp⟩
end S8
namespace L2
open PySem PySem.Spec PyProof.Rows PySem.W S8
section
variable{X:Cx}
theorem zNT{us:List Value}{xs:List Int}(h:Vals (xs.map V.int) us):IntV us.toArray xs:=by
 have hl:=h.length;rw[qAl]at hl;refine⟨by simp[<- hl],fun j hj=>?_⟩;have key:∀(xs:List Int)(us:List Value)(j:Nat),Vals (xs.map V.int) us->j<xs.length->∃t,us[j]?=some (.int (xs.getD j 0) t):=by
  intro xs;induction xs with
  |nil=>intro us j _ hj;simp at hj
  |cons x r ih=>
   intro us j hv hj;cases us with
   |nil=>cases hv
   |cons u q=>
    cases hv with
    |cons h1 h2=>
     cases j with
     |zero=>obtain⟨t,rfl⟩:=h1;exact⟨t,rfl⟩
     |succ j=>exact ih q j h2 (by simpa using hj)
 obtain⟨t,ht⟩:=key xs us j h hj;exact⟨t,by simpa using ht⟩
theorem zFT:∀{rs:List Addr}{us:List Value},Vals (rs.map V.ref) us->us=rs.map qGp
 |[],[],.nil=>rfl
 |a::r,u::q,.cons h1 h2=>by
  cases h1;rw[zFT h2];rfl
theorem zFU:∀rs:List Addr,Vals (rs.map V.ref) (rs.map qGp)
 |[]=>.nil
 |a::r=>.cons rfl (zFU r)
def zSK:List V->Hp->VK->Prop:=fun vs H Q=>match vs with
 |[.ref a]=>∃(rs:List Addr)(xss:List (List Int))(l:List Nat),H a=some (.lst (rs.map V.ref))/\rs.length=xss.length/\(∀i r,rs[i]?=some r->H r=some (.lst ((xss.getD i []).map V.int)))/\2<=xss.length/\(xss.length<64\/xss=all64)/\ordL xss=some l /\
   ∀p,H p=none->Q (.ref p) (upd H p (.lst (l.map fun i=>V.ref (rs.getD i 0))))
 |_=>False
theorem zQ0(hu:X.A.units+64<cLine):zCT X (.builtin "sorted") zSK:=by
 intro pins s σ H vs us Q I r h;cases vs with
 |nil=>exact qA8 h
 |cons hd1 tl1=>
  cases hd1 with
  |ref a=>
   cases tl1 with
   |nil=>
    obtain⟨u,rfl,rx⟩:=zGK r;cases rx;obtain⟨rs,xss,l,ha,hlen,hrow,h2,h64,hord,q⟩:=h;obtain⟨its,rv,hl⟩:=zAZ I.hok ha;have hits:=zFT rv;subst hits;obtain⟨l',ps,hr,hl',ho',hp⟩:=zJV h2 h64;rw[hord]at ho';cases ho';have hz:xss.length<=64:=by
     rcases h64 with z|z
     ·omega
     ·rw[z];decide
    have hR:zQV s.heap (rs.map qGp) xss:=⟨by rw[qAl,hlen],fun i hi=>by
     have hi':i<rs.length:=by omega
     obtain⟨us,ru,hul⟩:=zAZ I.hok (hrow i rs[i] (qA5 hi'));exact⟨rs[i],us.toArray,by simp[hi'],hul,zNT ru⟩⟩
    have hll:l.length=xss.length:=by rw[hp.length_eq];simp
    have hps:ps.p.size=(rs.map qGp).length:=by rw[qAl,hlen,<- hll,<- hl'];simp
    refine zLN hl hR (by rw[qAl];omega) (by rw[qAl];omega) (by show X.A.units+1+1<cLine;omega) (by rw[qAl,hlen];exact hr) hps ?_;obtain⟨e,he⟩:=sortedAll_at s.heap (rs.map qGp) (ps.p.map fun i=>(rs.map qGp).getD i .none);have hout:(ps.p.map fun i=>(rs.map qGp).getD i .none).toList=(l.map fun i=>rs.getD i 0).map qGp:=by
     rw[qF1,hl',qAs];refine qAw fun i hi=>?_
     have hi':i<rs.length:=by have:=qBq.mp (hp.mem_iff.mp hi);omega
     simp[qBe,hi']
    have e2:(l.map fun i=>V.ref (rs.getD i 0))=(l.map fun i=>rs.getD i 0).map V.ref:=by rw[qAs];rfl
    rw[e2]at q;exact⟨.ref _,_,I.laid (t':=s.toks) (o:=.lst ((l.map fun i=>rs.getD i 0).map V.ref)) (fun b o q=>sortedAll_old q) (qBz _) ⟨by rw[qAl,qAl,hll,qGy];omega,_,e,zFU _,by rw[<- hout,Array.toArray_toList];exact he⟩,rfl,q _ (I.hok.fresh (qBz _))⟩
   |cons _ _=>exact qA8 h
  |_=>exact qA8 h
end
end L2
namespace S8
open PySem PySem.W PyProof.Rows PySem.SeqAt
section
variable{prog:qGn}{w:World}{A:qGo}{E:Value->qGk->Prop}{s:qGk}
theorem zP2{a:Addr}{vs:List Value}{n:Nat}{P:qGi->qGk->Prop}(ho:s.heap.get? a=some (seqObj "list" vs.toArray n))(h2:vs.length<2)
  (h:P (.done (.ret .none)) { s with heap:=sortedHeap s.heap a vs vs.toArray }):wpAny (model prog w) A (Builtin.«list.sort» ⟨[.ref a],[]⟩) P E s:=by
 rw[list_sort_plain];refine wpAny_bind (listItems_at ho rfl ?_);refine wpAny_bind (listUpdate_at ho rfl ?_ (by rw[qAg,qGy];omega) (qAh _));obtain⟨e1,ho1⟩:∃e1,(s.heap.update a (qGw fun _=>#[])).get? a=some (seqObj "list" #[] e1):=⟨_,get?_update_seq ho fun _=>#[]⟩
 refine wpAny_bind (seqEpoch_at ho1 rfl ?_);refine wpAny_bind (wpAny_newTuple ?_ (by show vs.length<=_;rw[qGy];omega));refine wpAny_bind (wpAny_newList ?_ (qAh _));refine wpAny_holding ?_;have ho6:(((s.heap.update a (qGw fun _=>#[])).push (seqObj "tuple" vs.toArray 0)).push (seqObj "list" #[] 0)).get? a=some (seqObj "list" #[] e1):=qGl _ (qGl _ ho1);show wpAny (model prog w) A _ P E { s with heap:=((s.heap.update a (qGw fun _=>#[])).push (seqObj "tuple" vs.toArray 0)).push (seqObj "list" #[] 0) };dsimp only;have hn2:vs.toArray.size<2:=by rw[qAg];omega
 rw[if_pos hn2,if_pos hn2];refine wpAny_bind (wpAny_pure ?_);rw[StateT.run_pure];refine wpAny_bind (wpAny_pure ?_);dsimp only;have hout:(vs.toArray.zip vs.toArray).map (·.2)=vs.toArray:=by
  refine Array.ext (by simp) fun i h1 h2=>?_
  simp
 refine wpAny_bind (seqEpoch_at ho6 rfl ?_);show wpAny (model prog w) A (Builtin.List.listUpdate (.ref a) (fun _=>(vs.toArray.zip vs.toArray).map (·.2)) >>= _) P E _;rw[hout];refine wpAny_bind (listUpdate_at ho6 rfl ?_ (qAh _) (by rw[qAg,qGy];omega));simp only[bne_self_eq_false,qD5,if_false];exact wpAny_pure h
theorem zLO{l:Addr}{vs:List Value}{Q:Value->qGk->Prop}(hl:s.heap.IsList l vs.toArray)(h2:vs.length<2)
  (h:Q (.ref (s.heap.objs.size+1)) { s with heap:=sortedAll s.heap vs vs.toArray }):wpAny (model prog w) A (call (.builtin "sorted") [.ref l]) Q E s:=by
 refine qI4 kind_sorted plain_sorted entry_sorted (args_sorted1 _) ?_;unfold Builtin.«sorted»;refine wpAny_bind (m:=checkCount "sorted" 1 1 _) (wpAny_pure ?_);refine wpAny_bind (collect_list hl ?_ (by rw[qGy];omega));refine wpAny_bind (wpAny_newList ?_ (by rw[qGy];omega));have hsz:((s.heap.push (seqObj "list" #[] 0)).update s.heap.objs.size (qGw (·++vs.toArray))).objs.size=s.heap.objs.size+1:=by
  rw[qJf,size_push']
 have hoL:(((s.heap.push (seqObj "list" #[] 0)).update s.heap.objs.size (qGw (·++vs.toArray))).push (seqObj "list" vs.toArray 0)).get? (s.heap.objs.size+1)=some (seqObj "list" vs.toArray 0):=by
  rw[<- hsz];exact qGs _ rfl
 show wpAny _ _ _ _ _ { s with heap:=((s.heap.push (seqObj "list" #[] 0)).update s.heap.objs.size (qGw (·++vs.toArray))).push (seqObj "list" vs.toArray 0) };rw[hsz];exact wpAny_bind (wpAny_holding (wpAny_call_entry slot_list_sort ⟨_,hoL,rfl⟩ entry_list_sort (zP2 hoL h2 ⟨_,rfl,wpAny_pure ⟨_,rfl,h⟩⟩) (args_list_sort _)))
end
noncomputable def srtO(xss:List (List Int)):Option (List Nat):=@ite _ (xss.length<2) (qA3 _) (some (qA4 xss.length)) (@ite _ (xss.length<64\/xss=all64) (qA3 _) (ordL xss) none)
theorem srtO_perm{xss:List (List Int)}{l:List Nat}(h:srtO xss=some l):l.Perm (qA4 xss.length):=by
 unfold srtO at h;split at h
 ·cases h;exact .refl _
 ·split at h
  ·rename_i h1 h2
   obtain⟨l',ps,_,_,e,p⟩:=zJV (xss:=xss) (by omega) h2;rw[h]at e;cases e;exact p
  ·cases h
theorem srtO_some{xss:List (List Int)}(h:xss.length<64\/xss=all64):∃l,srtO xss=some l:=by
 unfold srtO;by_cases h1:xss.length<2
 ·rw[if_pos h1];exact⟨_,rfl⟩
 ·rw[if_neg h1,if_pos h];obtain⟨l',ps,_,_,e,p⟩:=zJV (xss:=xss) (by omega) h;exact⟨_,e⟩
end S8
namespace L2
open PySem PySem.Spec PyProof.Rows PySem.W S8
section
variable{X:Cx}
def zKV:List V->Hp->VK->Prop:=fun vs H Q=>match vs with
 |[.ref a]=>∃(rs:List Addr)(xss:List (List Int))(l:List Nat),H a=some (.lst (rs.map V.ref))/\rs.length=xss.length/\(∀i r,rs[i]?=some r->H r=some (.lst ((xss.getD i []).map V.int)))/\srtO xss=some l /\
   ∀p,H p=none->Q (.ref p) (upd H p (.lst ((l.map fun i=>rs.getD i 0).map V.ref)))
 |_=>False
theorem zNL(hu:X.A.units+64<cLine):zCT X (.builtin "sorted") zKV:=by
 intro pins s σ H vs us Q I r h;cases vs with
 |nil=>exact qA8 h
 |cons hd1 tl1=>
  cases hd1 with
  |ref a=>
   cases tl1 with
   |nil=>
    obtain⟨rs,xss,l,ha,hlen,hrow,hs,q⟩:=h;by_cases h2:xss.length<2
    ·obtain⟨u,rfl,rx⟩:=zGK r;cases rx;obtain⟨its,rv,hl⟩:=zAZ I.hok ha;have hits:=zFT rv;subst hits;have hsl:l=qA4 xss.length:=by
      unfold srtO at hs;rw[if_pos h2]at hs;exact(qAk hs).symm
     have e1:l.map (fun i=>rs.getD i 0)=rs:=by
      rw[hsl,<- hlen];refine qC7 (by simp) fun i g1 g2=>?_
      simp[qBe,g2]
     rw[e1]at q;refine zLO hl (by rw[qAl];omega) ?_;obtain⟨e,he⟩:=sortedAll_at s.heap (rs.map qGp) (rs.map qGp).toArray;exact⟨.ref _,_,I.laid (t':=s.toks) (o:=.lst (rs.map V.ref)) (fun b o q=>sortedAll_old q) (qBz _) ⟨by rw[qAl,hlen,qGy];omega,_,e,zFU _,he⟩,rfl,q _ (I.hok.fresh (qBz _))⟩
    ·have hs':(xss.length<64\/xss=all64)/\ordL xss=some l:=by
      unfold srtO at hs;rw[if_neg h2]at hs;split at hs
      ·rename_i z;exact⟨z,hs⟩
      ·cases hs
     refine zQ0 hu pins s σ H _ us Q I r ⟨rs,xss,l,ha,hlen,hrow,by omega,hs'.1,hs'.2,fun p hp=>?_⟩
     have:=q p hp;rw[qAs]at this;exact this
   |cons _ _=>exact qA8 h
  |_=>exact qA8 h
end
end L2
namespace Mi
open PySem
def rowI:Dt->Option (List Int)
 |.lst ds=>intsD ds
 |_=>none
def rowsI:List Dt->Option (List (List Int))
 |[]=>some []
 |d::r=>match rowI d with
  |some x=>match rowsI r with
   |some q=>some (x::q)
   |none=>none
  |none=>none
def sortLL(es:List Dt):Option Dt:=match rowsI es with
 |some xss=>match S8.srtO xss with
  |some l=>some (.lst (l.map fun i=>es.getD i .non))
  |none=>none
 |none=>none
def sortLD:List Dt->Option Dt
 |[.lst es]=>sortLL es
 |_=>none
def sSumO(i n:Nat)(e:EM):SM:=fun ρ=>match ρ[i]? with
 |some (some (.lst ds,k+1))=>zA3 (e (full ρ)) fun d=>match d with
  |.lst es=>@ite _ (ds.length+es.length<=100000/\(Dt.lst es).dep<=n/\(Dt.lst es).dep<=k+1) (qA3 _) (okR (.nx (ρ.set i (some (.lst (ds++es),k+1))))) none
  |_=>none
 |_=>none
def sRetSo(L i kk v:Nat)(c:TM):SM:=fun ρ=>match ρ[i]? with
 |some (some (.lst ds,k+1))=>@ite _ (k+1=L/\ds.length<=100000/\ρ.length<=v/\v<ρ.length+kk) (qA3 _) (zA3 (compGo (full ρ) kk (.one v) c (eV v) ds []) fun es=>match sortLL es with
  |some d=>okR (.rt d)
  |none=>none) none
 |_=>none
end Mi
namespace L3
open PySem PySem.Spec
open L2 hiding Rep RepL
open Mi (Dt Xn R okR zA3 optR zA0 zA4 zA7 zA5 zA6 Rh Sl Ro EM TM AM FM IM SM Tg Out bindT zAK zAP full frz frz1 frzAt)
section
variable[Kc]{mg:Str->Option Value}{E:XK}{L n k l:Nat}{te:TE}{e:EM}
theorem zH9{G:Hp}:∀{es:List Dt}{xss:List (List Int)}{ys:List V},Mi.rowsI es=some xss->RepL G es ys->∃rs:List Addr,ys=rs.map V.ref/\rs.length=xss.length/\es.length=xss.length/\∀(i:Nat)(r:Addr),rs[i]?=some r->G r=some (.lst ((xss.getD i []).map V.int))
 |[],xss,ys,h,r=>by cases h;cases(show ys=[] from r);exact⟨[],rfl,rfl,rfl,fun i r h=>by simp at h⟩
 |d::q,xss,ys,h,r=>by
  obtain⟨x,t,rfl,a,b⟩:=r;rw[Mi.rowsI]at h;cases e1:Mi.rowI d with
  |none=>rw[e1]at h;cases h
  |some ns=>
   rw[e1]at h;cases e2:Mi.rowsI q with
   |none=>rw[e2]at h;cases h
   |some qs=>
    rw[e2]at h;cases h;obtain⟨rs,rfl,h1,h0,h2⟩:=zH9 e2 b;cases d with
    |lst ds=>
     obtain⟨c,zs,rfl,hc,rz⟩:=a;have hz:=zIX e1 rz;subst hz;refine⟨c::rs,rfl,by simp[h1],by simp[h0],fun i r h=>?_⟩;cases i with
     |zero=>simp at h;subst h;simpa using hc
     |succ i=>simpa using h2 i r (by simpa using h)
    |_=>cases e1
theorem zMQ{G:Hp}{es:List Dt}{rs:List Addr}{l:List Nat}(h:RepL G es (rs.map V.ref))(hl:∀i∈l,i<es.length):RepL G (l.map fun i=>es.getD i .non) ((l.map fun i=>rs.getD i 0).map V.ref):=by
 have hlen:rs.length=es.length:=by have:=h.length;simpa using this
 refine zD9 (by simp) fun q d x h1 h2=>?_
 rw[qAc]at h1;rw[qAc,qAc]at h2;cases e1:l[q]? with
 |none=>rw[e1]at h1;cases h1
 |some i=>
  rw[e1]at h1 h2;cases h1;cases h2;have hi:=hl i (qAz e1);refine zBU h (q:=i) ?_ ?_
  ·simp[qBe,hi]
  ·simp[qBe,hlen,hi]
theorem zQO:CBi zKV Mi.sortLD 1:=by
 intro mg E G H ds vs Q s h p;by_cases hd:∃es,ds=[.lst es]
 ·obtain⟨es,rfl⟩:=hd;obtain⟨x,rfl,a,xs,rfl,ha,ra⟩:=zE9 h;have p1:PostE mg E G H 1 (optR (Mi.sortLL es)) Q:=p;unfold Mi.sortLL at p1
  split at p1
  ·rename_i xss ei
   split at p1
   ·rename_i l el
    obtain⟨rs,rfl,hl,h0,hr⟩:=zH9 ei ra;refine⟨rs,xss,l,s _ _ ha,hl,fun i r e=>s _ _ (hr i r e),el,fun c hc=>?_⟩;exact PostE.lst p1 (Ext.refl s) (zMQ ra fun i hi=>by rw[h0];exact qBq.mp ((S8.srtO_perm el).mem_iff.mp hi)) hc
   ·exact p1.elim
  ·exact p1.elim
 ·rw[zSZ (f:=Mi.sortLD) rfl (fun d h=>by cases d<;>first|rfl|exact absurd rfl (h _)) (fun a b r=>by cases a<;>rfl) ds fun es z=>hd ⟨es,z⟩]at p;exact p.elim
theorem zTM(i:Nat)(A:DE mg E te e n)(hn:n<1000:=by decide):DS mg E L (tAsg (tOp zSP (vM i) te) (zEH i)) (Mi.sSumO i n e):=by
 intro G0 H0 S0 σ ρ G H As D a p;obtain⟨J,x,s,w⟩:=a.full;unfold Mi.sSumO at p;split at p
 ·rename_i ds k e1
  obtain⟨v,h1,q,xs,T,rfl,hq,kd⟩:=a.at i _ _ e1;unfold tAsg tOp vM;rw[h1];refine A.step (errS.from x) x.in' w p fun d y G1 H1 S _ fr o p1=>?_
  split at p1
  ·rename_i es _
   split at p1
   ·rename_i hz
    obtain⟨q1,q2⟩:=whole (k:=k+1) a s fr o hn hz.2.1 hz.2.2;obtain⟨b,ys,T2,rfl,hb,k2⟩:=q1;refine⟨xs,ys,fr.ext.h _ _ hq,hb,by rw[kd.len,k2.len];exact big' hz.1,fun c hc=>?_⟩;have a1:=(a.grow fr.ext.h).grow (L2.same_new hc (.lst (xs++ys)));have ap:∀b,As i b->S b->False:=fun b g1 g2=>(a.new i b g1).2.2 (q2 b g2).1
    have n1:∀b,As i b->b≠c:=fun b hb z=>(fr.ext.h.some (a.new i b hb).2.2) (z▸hc)
    have n2:∀b,S b->b≠c:=fun b hb z=>(q2 b hb).2.2 (z▸hc)
    have hG:∀b,H b=none->G b=none:=fun b hb=>a.ext.in'.free hb
    have hcH:H c=none:=fr.ext.h.free hc;refine p1 _ G _ _ (a1.put (i:=i) (n:=k+1) (d:=.lst (ds++es)) (v:=.ref c) (S:=fun b=>b=c\/As i b\/S b) ⟨c,xs++ys,fun r b=>(r<ds.length/\T r b)\/(ds.length<=r/\T2 (r-ds.length) b),rfl,zAM,⟨by simp[kd.len,k2.len],fun r d' y x1 x2=>?_,.inl rfl,fun r z=>?_,fun r r' b z1 z2=>?_,fun r b z=>?_⟩⟩ (fun b z=>?_) fun j b hj g1 g2=>?_)
    ·by_cases hr:r<ds.length
     ·rw[qAd hr]at x1;rw[qAd (by rw[kd.len];exact hr)]at x2;exact(((kd.own r d' y x1 x2).mono (Same.refl _) fr.ext.h).mono (Same.refl _) (L2.same_new hc _)).sub fun b z=>.inl ⟨hr,z⟩
     ·rw[qAe (by lia)]at x1;rw[qAe (by rw[kd.len];lia),kd.len]at x2;exact((k2.own _ d' y x1 x2).mono (Same.refl _) (L2.same_new hc _)).sub fun b z=>.inr ⟨by lia,z⟩
    ·rcases z with⟨_,z⟩|⟨_,z⟩
     ·exact n1 c (kd.sub _ _ z) rfl
     ·exact n2 c (k2.sub _ _ z) rfl
    ·rcases z1 with⟨c1,t1⟩|⟨c1,t1⟩<;>rcases z2 with⟨c2,t2⟩|⟨c2,t2⟩
     ·exact kd.dis r r' b t1 t2
     ·exact(ap b (kd.sub _ _ t1) (k2.sub _ _ t2)).elim
     ·exact(ap b (kd.sub _ _ t2) (k2.sub _ _ t1)).elim
     ·have:=k2.dis _ _ b t1 t2
      lia
    ·rcases z with⟨_,z⟩|⟨_,z⟩
     ·exact .inr (.inl (kd.sub _ _ z))
     ·exact .inr (.inr (k2.sub _ _ z))
    ·rcases z with z|z|z
     ·subst z;exact⟨a.ext.h.free hcH,hG _ hcH,by rw[zAM];simp⟩
     ·obtain⟨m1,m2,m3⟩:=a.new i b z;exact⟨m1,m2,by rw[zAL (n1 b z)];exact fr.ext.h.some m3⟩
     ·obtain⟨m1,m2,m3⟩:=q2 b z;exact⟨a.ext.h.free m1,m2,by rw[zAL (n2 b z)];exact m3⟩
    ·rcases g2 with z|z|z
     ·subst z;exact(a.new j _ g1).2.2 hcH
     ·exact hj (a.dis j i b g1 z)
     ·exact(a.new j b g1).2.2 (q2 b z).1
   ·exact p1.elim
  ·exact p1.elim
 ·exact p.elim
theorem zQD(i kk v:Nat){tif:TT}{c:TM}(C:DT mg E tif c):DS mg E L (tRet (tCB zKV (zFA (zMJ (iAny Kc.K (vM i)) kk (zEH v) tif (vM v)) tNil))) (Mi.sRetSo L i kk v c):=by
 intro G0 H0 S0 σ ρ G H As D a p;obtain⟨J,x,s,w⟩:=a.full;unfold Mi.sRetSo at p;split at p
 ·rename_i ds k e1
  split at p
  ·rename_i hz
   obtain⟨hL,hz,hv,hv2⟩:=hz;obtain⟨u,h1,q,xs,T,rfl,hq,kd⟩:=a.at i _ _ e1;have hfi:(full ρ)[i]?=some (some (.lst ds)):=by
    unfold Mi.full;rw[qAc,e1];rfl
   obtain⟨u',h1',q',xs',rfl',hJ,rr⟩:=w.at i _ hfi;rw[h1]at h1';cases h1';cases rfl';have hJ2:=x.in' _ _ hJ;rw[hq]at hJ2;cases hJ2;have hfl:(full ρ).length=ρ.length:=by unfold Mi.full;simp
   unfold tRet tCB zFA zMJ iAny vM;rw[h1];refine .inl ⟨⟨xs,SqL.of hq⟩,?_⟩;refine⟨fun j m acc H'=>m=ds.length-j/\j<=ds.length/\∃sel:List Nat,sel.length<=j/\Same H H'/\sel.Pairwise (· < ·)/\(∀z∈sel,z<j)/\acc=sel.map (fun z=>xs.getD z .non) /\
     zCS mg E G0 H0 S0 L (zA3 (Mi.compGo (full ρ) kk (.one v) c (Mi.eV v) (ds.drop j) (sel.map fun z=>ds.getD z .non)) fun es=>match Mi.sortLL es with|some d=>okR (.rt d)|none=>none) D,
    ⟨_,rfl,qAh _,[],qAh _,Same.refl _,qCh,fun z hz=>by simp at hz,rfl,by rw[qCk];exact p⟩,?_⟩
   rintro j m acc H' ⟨rfl,hj,sel,hll,sH,hsel,hlt,rfl,p'⟩
   have hq':H' q=some (.lst xs):=sH _ _ hq;by_cases hlj:j<ds.length
   ·have hjx:j<xs.length:=by rw[kd.len];exact hlj
    refine .inr ⟨⟨xs,xs[j],SqL.of hq',qA5 hjx⟩,by rw[qAl];exact L2.big (by lia),fun acc' H''=>ds.length-(j+1)=ds.length-(j+1)/\j+1<=ds.length/\∃sel:List Nat,sel.length<=j+1/\Same H H''/\sel.Pairwise (· < ·)/\(∀z∈sel,z<j+1)/\acc'=sel.map (fun z=>xs.getD z .non) /\
     zCS mg E G0 H0 S0 L (zA3 (Mi.compGo (full ρ) kk (.one v) c (Mi.eV v) (ds.drop (j+1)) (sel.map fun z=>ds.getD z .non)) fun es=>match Mi.sortLL es with|some d=>okR (.rt d)|none=>none) D,
     fun acc' H'' z=>⟨ds.length-(j+1),by lia,z⟩,fun y H2 hy=>?_⟩
    obtain⟨rfl,hy⟩:=hy;have hyx:=hy xs (SqL.of hq');rw[qA5 hjx]at hyx;cases hyx;rw[qAy hlj,Mi.compGo]at p';dsimp only[Mi.bindT]at p';have hry:Rep J ds[j] xs[j]:=zBU rr (qA5 hlj) (qA5 hjx);have hvs:σ.length<=v:=by rw[<- a.len];exact hv
    show(∃own:St,own.length=kk/\(σ++qA7 kk none).set v (some xs[j])=σ++own/\_)
    refine⟨(qA7 kk none).set (v-σ.length) (some xs[j]),by simp,by rw[qC0 _ _ hvs],?_⟩;have x2:Ext G0 H0 J H2:=x.trans (Ext.same x.in' sH);have w2:View J ((σ++qA7 kk none).set v (some xs[j])) (zAK (full ρ++qA7 kk none) [(v,ds[j])]):=by
     refine View.set ?_ hry;refine⟨by simp[w.len],fun r d h=>?_,w.tab⟩
     by_cases hr:r<(full ρ).length
     ·rw[qAd hr]at h;obtain⟨u,g1,g2⟩:=w.at r d h;exact⟨u,by rw[qAd (by rw[<- w.len];exact hr)];exact g1,g2⟩
     ·rw[qAe (by lia),qB2]at h
      split at h<;>cases h
    refine C.step ((errB errS _).from x2) x2.in' w2 p' fun b H3 _ s3 p3=>?_
    cases b with
    |false=>exact⟨rfl,hlj,sel,Nat.le_succ_of_le hll,sH.trans s3,hsel,fun z hz=>qBf (hlt z hz),rfl,p3⟩
    |true=>
     have hg:((σ++qA7 kk none).set v (some xs[j]))[v]?=some (some xs[j]):=qA6 (by rw[qB0,qBo,<- a.len];exact hv2);have hev:Mi.eV v (zAK (full ρ++qA7 kk none) [(v,ds[j])])=okR ds[j]:=by
      have:(zAK (full ρ++qA7 kk none) [(v,ds[j])])[v]?=some (some ds[j]):=qA6 (by rw[qB0,qBo,hfl];exact hv2)
      unfold Mi.eV;rw[this]
     rw[if_pos rfl,hev,zA0]at p3;show(match((σ++qA7 kk none).set v (some xs[j]))[v]? with|some (some x)=>_|_=>_)
     rw[hg];refine⟨rfl,hlj,sel++[j],by simp;exact hll,sH.trans s3,?_,fun z hz=>?_,?_,?_⟩
     ·exact qE1.mpr ⟨hsel,by simp,fun z hz y hy=>by simp at hy;subst hy;exact hlt z hz⟩
     ·rcases qB4.mp hz with hz|hz
      ·exact qBf (hlt z hz)
      ·simp at hz;lia
     ·simp[qBe,hjx]
     ·have:(sel++[j]).map (fun z=>ds.getD z .non)=sel.map (fun z=>ds.getD z .non)++[ds[j]]:=by simp[qBe,hlj]
      rw[this];exact p3
   ·have e:j=ds.length:=by lia
    subst e;refine .inl ⟨⟨xs,SqL.of hq',by rw[kd.len];exact qA9 _⟩,fun d0 hd0=>?_⟩;rw[qC6,Mi.compGo,zA0]at p';show zKV [.ref d0] _ D.rt;unfold Mi.sortLL at p';cases ei:Mi.rowsI (sel.map fun z=>ds.getD z .non)with
    |none=>rw[ei]at p';exact p'.elim
    |some xss=>
     rw[ei]at p';dsimp only at p';cases el:S8.srtO xss with
     |none=>rw[el]at p';exact p'.elim
     |some l=>
      rw[el]at p';dsimp only at p';have hrs:RepL J (sel.map fun z=>ds.getD z .non) (sel.map fun z=>xs.getD z .non):=by
       refine zD9 (by simp) fun r d y g1 g2=>?_
       rw[qAc]at g1 g2;cases e2:sel[r]? with
       |none=>rw[e2]at g1;cases g1
       |some z=>
        rw[e2]at g1 g2;cases g1;cases g2;have hzl:=hlt z (qAz e2);exact zBU rr (q:=z) (by simp[qBe,hzl]) (by simp[qBe,kd.len,hzl])
      obtain⟨rs,hrs2,hl,h0,hr⟩:=zH9 ei hrs;have sH':Same H (upd H' d0 (.lst (sel.map fun z=>xs.getD z .non))):=sH.trans (L2.same_new hd0 _);rw[hrs2]at sH' ⊢;refine⟨rs,xss,l,zAM,hl,fun z r g=>sH' _ _ (x.in' _ _ (hr z r g)),el,fun c0 hc0=>?_⟩;have hpm:=S8.srtO_perm el;have hlz:∀z∈l,z<sel.length:=fun z hz=>by
       have:=qBq.mp (hpm.mem_iff.mp hz);rw[<- h0]at this;simpa using this
      have hnd:l.Nodup:=hpm.symm.nodup List.nodup_range;have sH2:Same H (upd (upd H' d0 (.lst (rs.map V.ref))) c0 (.lst ((l.map fun i=>rs.getD i 0).map V.ref))):=sH'.trans (L2.same_new hc0 _);have hcH:H c0=none:=sH'.free hc0;have nc:∀b,As i b->b≠c0:=fun b hb z=>(a.new i b hb).2.2 (z▸hcH)
      have hsl:rs.length=sel.length:=by have:=congrArg qGc hrs2;simpa using this.symm
      subst hL;refine p' (.ref c0) G _ (fun b=>b=c0\/As i b) ⟨(a.grow sH2).ext,fun b hb=>?_⟩ ⟨c0,_,fun r b=>∃z,l[r]?=some z/\T (sel.getD z 0) b,rfl,zAM,⟨by simp,fun r d' y g1 g2=>?_,.inl rfl,fun r hr=>?_,fun r r' b z1 z2=>?_,fun r b hb=>?_⟩⟩
      ·rcases hb with rfl|hb
       ·exact⟨a.ext.h.free hcH,a.ext.in'.free hcH,by rw[zAM];simp⟩
       ·obtain⟨m1,m2,m3⟩:=a.new i b hb;exact⟨m1,m2,sH2.some m3⟩
      ·rw[qAc]at g1;rw[qAc,qAc]at g2;cases e2:l[r]? with
       |none=>rw[e2]at g1;cases g1
       |some z=>
        rw[e2]at g1 g2;cases g1;cases g2;have hzl:=hlz z (qAz e2);have hsz:sel.getD z 0<ds.length:=hlt _ (by simp[qBe,hzl]);have f1:(sel.map fun z=>ds.getD z .non).getD z .non=ds[sel.getD z 0]:=by
         have e9:sel.getD z 0=sel[z]:=by simp[qBe,hzl]
         simp[qBe,hzl,hlt sel[z] (qCr hzl)]
        have f2:(V.ref (rs.getD z 0))=xs[sel.getD z 0]'(by rw[kd.len];exact hsz):=by
         have:=congrArg (fun t=>t[z]?) hrs2
         try dsimp only at this
         rw[qAc,qAc,qA5 hzl,qA5 (by rw[hsl];exact hzl)]at this;simp only[qCc,qEr]at this;have e8:rs.getD z 0=rs[z]'(by rw[hsl];exact hzl):=by simp[qBe,hsl,hzl]
         have e9:sel.getD z 0=sel[z]:=by simp[qBe,hzl]
         rw[e8,<- this];simp[qBe,kd.len,hlt sel[z] (qCr hzl)];simp[hzl]
        dsimp only;rw[f1,f2];exact((kd.own (sel.getD z 0) _ _ (qA5 hsz) (qA5 (by rw[kd.len];exact hsz))).mono (Same.refl _) sH2).sub fun b hb=>⟨z,rfl,hb⟩
      ·obtain⟨z,_,hz⟩:=hr;exact nc c0 (kd.sub _ _ hz) rfl
      ·obtain⟨y1,l1,t1⟩:=z1;obtain⟨y2,l2,t2⟩:=z2;have hs:=kd.dis _ _ b t1 t2;have m1:=hlz y1 (qAz l1);have m2:=hlz y2 (qAz l2);have hy:y1=y2:=by
        have f1:sel.getD y1 0=sel[y1]:=by simp[qBe,m1]
        have f2:sel.getD y2 0=sel[y2]:=by simp[qBe,m2]
        rw[f1,f2]at hs;exact(qDj (hsel.imp fun h=>qAm h)).mp hs
       subst hy;have g1:=(qA2.mp l1);have g2:=(qA2.mp l2);obtain⟨b1,c1⟩:=g1;obtain⟨b2,c2⟩:=g2;exact(qDj hnd).mp (c1.trans c2.symm)
      ·obtain⟨z,_,hz⟩:=hb;exact .inr (kd.sub _ _ hz)
  ·exact p.elim
 ·exact p.elim
end
end L3
namespace Mi
open PySem
section
variable(ρ:Rh)(r:Ro)(a:EM)(am:AM)
@[simp] theorem x_tL:tL a ρ=zA3 (a ρ) fun x=>match x with | .bl k=>okR k | .int i=>okR (i != 0) | .non=>okR false | .lst xs=>okR (!xs.isEmpty) | .tup xs=>okR (!xs.isEmpty)|_=>none:=rfl
@[simp] theorem x_eMl(f:List Dt->List Dt->Option Dt):eMl f a am ρ=zA3 (a ρ) fun x=>match x with | .lst xs=>zA3 (am ρ) fun ds=>optR (f xs ds)|_=>none:=rfl
@[simp] theorem x_iRv:iRv am ρ=zA3 (am ρ) fun vs=>match vs with|[.lst xs]=>okR xs.reverse|_=>none:=rfl
@[simp] theorem v_xor(i j:Int):xorD (.int i) (.int j)=some (.int (qHq i j)):=rfl
@[simp] theorem v_rep(xs:List Dt)(k:Int):repD (.lst xs) (.int k)=@ite _ ((-4611686018427387904<=k/\k<4611686018427387904)/\xs.length*k.toNat<=100000) (qA3 _) (some (.lst (qA7 k.toNat xs).flatten)) none:=rfl
end
@[simp] theorem okR_inj{α:Type}{a b:α}:okR a=okR b↔a=b:=⟨fun h=>by cases h;rfl,fun h=>by rw[h]⟩
@[simp] theorem zU1(vs:List Nat)(it:IM)(tg:Tg)(b:SM)(r:Ro):sFor vs it tg b r=zA3 (it (frz (frzAt vs r))) fun ds=>forGo tg b ds (frzAt vs r):=rfl
@[simp] theorem zER(it:IM)(i:Nat)(b:SM)(r:Ro):sForR it i b r=zA3 (it (full r)) fun ds=>forGo (.one i) b ds r:=rfl
@[simp] theorem x_iSq(e:EM)(ρ:Rh):iSq e ρ=zA3 (e ρ) fun d=>match d with | .lst xs=>okR xs | .tup xs=>okR xs | .scr ns=>okR (ns.map .int) | .str z=>okR (signsD z)|_=>none:=rfl
@[simp] theorem x_iEn(e:AM)(ρ:Rh):iEn e ρ=zA3 (e ρ) fun vs=>match vs with|[.lst xs]=>okR (enumD 0 xs)|_=>none:=rfl
@[simp] theorem x_iZi(e:AM)(ρ:Rh):iZi e ρ=zA3 (e ρ) fun vs=>match vs with|[.lst xs,.lst ys]=>okR (zipD xs ys)|_=>none:=rfl
theorem zCU{e:AM}{ρ:Rh}{n:Nat}(h:e ρ=okR [.int n])(hn:n<=100000):iR1 e ρ=okR (nums 0 n):=by
 unfold iR1;rw[h,zA0];dsimp only;rw[if_pos (by lia)];simp
theorem zED(n:Nat):nums 0 n=(qA4 n).map fun i:Nat=>Dt.int (i:Int):=by
 unfold nums;exact qAw fun i _=>by simp
def nxR(x:R Out)(P:Ro->Prop):Prop:=match x with
 |some (.ok (.nx r))=>P r
 |_=>False
@[simp] theorem x_nxR(r:Ro)(P:Ro->Prop):nxR (okR (.nx r)) P=P r:=rfl
theorem zE2{x:R Out}{P:Ro->Prop}(h:nxR x P):∃r',x=okR (.nx r')/\P r':=by
 unfold nxR at h;split at h
 ·exact⟨_,rfl,h⟩
 ·exact h.elim
theorem zCC{x:R Out}{P:Ro->Prop}{r:Ro}(h:x=okR (.nx r))(hp:P r):nxR x P:=by rw[h];exact hp
theorem zWK{i n:Nat}{e:EM}{r:Ro}{ds:List Dt}{k:Nat}{d:Dt}(h:r[i]?=some (some (.lst ds,k+1)))(he:e (full r)=okR d)(h1:ds.length<=100000)(h2:d.dep<=n)(h3:d.dep<=k):sApp i n e r=okR (.nx (r.set i (some (.lst (ds++[d]),k+1)))):=by
 unfold sApp;rw[h];dsimp only;rw[he,zA0,if_pos ⟨h1,h2,h3⟩]
theorem zVG{i j:Int}(h:-18446744073709551616<i)(h':i<18446744073709551616):mulD (.int i) (.int j)=some (.int (i*j)):=by
 rw[zOU,if_pos (.inl (.inl ⟨h,h'⟩))]
theorem zT4{i j:Int}(h:-18446744073709551616<j)(h':j<18446744073709551616):mulD (.int i) (.int j)=some (.int (i*j)):=by
 rw[zOU,if_pos (.inl (.inr ⟨h,h'⟩))]
theorem zCR{ρ:Rh}{c:TM}{e:EM}{i:Nat}(g:Nat->Dt)(n:Nat)(hc:c=tYes)(hi:i=ρ.length)(h:∀k,k<n->e (ρ++[some (.int (k:Nat))])=okR (g k))(it:IM)(hit:it ρ=okR (nums 0 n))(hn:n<=100000):eComp it 1 (.one i) c e ρ=okR (.lst ((qA4 n).map g)):=by
 subst hc hi;unfold eComp;rw[hit,zA0,if_pos ⟨by simpa[nums]using hn,by simp[Tg.idx]⟩];rw[zL7 (fun d=>match d with | .int k=>g k.toNat|_=>.non) _ [] fun d hd=>?_]
 ·rw[zA0,zED,qAs];simp only[List.nil_append]
  congr 2
 ·rw[zED]at hd;obtain⟨k,hk,rfl⟩:=qAq.mp hd;refine⟨_,rfl,rfl,?_⟩
  have:zAK (ρ++qA7 1 none) [(ρ.length,Dt.int (k:Int))]=ρ++[some (.int (k:Nat))]:=by
   simp[zAK]
  rw[this];simpa using h k (by simpa using hk)
theorem zBG{ρ:Rh}{c:TM}{e:EM}{i:Nat}{β:Type}(en:β->Dt)(g:β->Dt)(ns:List β)(hc:c=tYes)(hi:i=ρ.length)(h:∀k,k∈ns->e (ρ++[some (en k)])=okR (g k))(it:IM)(hit:it ρ=okR (ns.map en))(hn:ns.length<=100000):eComp it 1 (.one i) c e ρ=okR (.lst (ns.map g)):=by
 subst hc hi;unfold eComp;rw[hit,zA0,if_pos ⟨by simpa using hn,by simp[Tg.idx]⟩]
 have:∀(ns:List β)(acc:List Dt),(∀k,k∈ns->e (ρ++[some (en k)])=okR (g k))->compGo ρ 1 (.one ρ.length) tYes e (ns.map en) acc=okR (acc++ns.map g):=by
  intro ns;induction ns with
  |nil=>intro acc _;simp[compGo]
  |cons d r ih=>
   intro acc h;rw[qAn,compGo];have e1:zAK (ρ++qA7 1 none) [(ρ.length,en d)]=ρ++[some (en d)]:=by simp[zAK]
   show zA3 (tYes _) _=_;simp only[zTY,zA0,if_true];show zA3 (e (zAK (ρ++qA7 1 none) [(ρ.length,en d)])) _=_;rw[e1,h d (by simp),zA0,ih _ fun k hk=>h k (by simp[hk])];simp
 rw[this ns [] h,zA0];simp
theorem zBV{a b:SM}{r:Ro}{X:R Out}(h:∀bb:SM,bb=b->nxR (a r) fun r1=>bb r1=X):sSeq a b r=X:=by
 obtain⟨r1,h1,h2⟩:=zE2 (h b rfl);unfold sSeq;rw[h1,zA0];exact h2
theorem zKO{a b:SM}{r:Ro}{P:Ro->Prop}(h:∀bb:SM,bb=b->nxR (a r) fun r1=>nxR (bb r1) P):nxR (sSeq a b r) P:=by
 obtain⟨r1,h1,h2⟩:=zE2 (h b rfl);unfold sSeq;rw[h1,zA0];exact h2
theorem zR2{a b:SM}{r:Ro}{d:Dt}(h:a r=okR (.rt d)):sSeq a b r=okR (.rt d):=by
 unfold sSeq;rw[h,zA0]
theorem zD3{P n:Nat}{b:SM}{ds:List Dt}{d:Dt}(h:ds.length=P)(hb:b (startO n ds)=okR (.rt d)):runF P n b ds=okR d:=by
 unfold runF;rw[if_pos h,hb];rfl
theorem zNC{j n:Nat}{b:SM}{r:Ro}{X:Ro->Prop}(Pv:Nat->Ro->Prop)(h:Pv 0 r)(hs:∀k,k<n->∀r,Pv k r->nxR (b (r.set j (some (.int (k:Nat),0)))) (Pv (k+1)))(hK:∀r',Pv n r'->X r'):nxR (forGo (.one j) b (nums 0 n) r) X:=by
 obtain⟨r',h1,h2⟩:∃r',forGo (.one j) b (nums 0 n) r=okR (.nx r')/\Pv n r':=by
  obtain⟨r',h1,h2⟩:=zK1 (tg:=.one j) (b:=b) Pv (nums 0 n) 0 r h fun k d r hd hp=>by
   rw[zED,qAc]at hd;cases e:(qA4 n)[k]? with
   |none=>rw[e]at hd;cases hd
   |some q=>
    rw[e]at hd;cases hd;obtain⟨h1,h2⟩:=qA2.mp e;rw[qD4]at h2;subst h2;rw[qC9]at hp;obtain⟨r',g1,g2⟩:=zE2 (hs k (by simpa using h1) r hp);exact⟨_,r',rfl,g1,by rw[qC9];exact g2⟩
  exact⟨r',h1,by simpa[nums]using h2⟩
 rw[h1];exact hK r' h2
theorem zT1{γ:Type}{j:Nat}{b:SM}{r:Ro}{X:Ro->Prop}(en:γ->Dt)(ns:List γ)(Pv:Nat->Ro->Prop)(h:Pv 0 r)(hs:∀k x,ns[k]?=some x->∀r,Pv k r->nxR (b (r.set j (some (en x,0)))) (Pv (k+1)))(hK:∀r',Pv ns.length r'->X r'):nxR (forGo (.one j) b (ns.map en) r) X:=by
 obtain⟨r',h1,h2⟩:=zK1 (tg:=.one j) (b:=b) Pv (ns.map en) 0 r h fun k d r hd hp=>by
  rw[qAc]at hd;cases e:ns[k]? with
  |none=>rw[e]at hd;cases hd
  |some q=>
   rw[e]at hd;cases hd;rw[qC9]at hp;obtain⟨r',g1,g2⟩:=zE2 (hs k q e r hp);exact⟨_,r',rfl,g1,by rw[qC9];exact g2⟩
 rw[h1];exact hK r' (by simpa using h2)
theorem zPQ{c:TM}{b:SM}{r:Ro}{X:Ro->Prop}(Pv:Ro->Prop)(μ:Ro->Nat)(Rv:Ro->Prop)(h0:Pv r)(hm:μ r<1000000)(hc:∀r,Pv r->(c (full r)=okR false/\Rv r)\/(c (full r)=okR true/\nxR (b r) fun r'=>Pv r'/\μ r'<μ r))(hK:∀r',Rv r'->X r'):nxR (sWhile c b r) X:=by
 obtain⟨r',h1,h2⟩:=zLP Pv μ Rv h0 hm fun r hr=>(hc r hr).imp (fun z=>z) fun z=>⟨z.1,zE2 z.2⟩
 rw[h1];exact hK r' h2
theorem zIR:∀(a b:List Char),a.map qGe=b.map qGe->a=b
 |[],[],_=>rfl
 |[],_::_,h=>by simp at h
 |_::_,[],h=>by simp at h
 |x::r,y::q,h=>by
  simp only[qAn,List.cons.injEq]at h;rw[zIR r q h.2];have:x=y:=Char.toNat_inj.mp h.1;rw[this]
@[simp] theorem str_inj(a b:String):(Str.ofString a=Str.ofString b)↔a=b:=by
 constructor
 ·intro h;rw[qIb,qIb]at h;simp only[Str.mk.injEq,List.toArray_inj]at h
  have:=zIR _ _ (by simpa using h)
  exact String.toList_inj.mp this
 ·intro h;rw[h]
theorem zL3:∀(ds:List Dt)(n:Nat),(enumD n ds).length=ds.length
 |[],_=>rfl
 |_::r,n=>by rw[enumD,qAv,qAv,zL3 r]
section
variable(ρ:Rh)(a:EM)(am:AM)(lo hi:OM)
@[simp] theorem zU2:eSl a lo hi ρ=zA3 (a ρ) fun x=>zA3 (lo ρ) fun l=>zA3 (hi ρ) fun h=>optR (slD x l h):=rfl
@[simp] theorem zWJ:oNo ρ=okR none:=rfl
@[simp] theorem x_oE:oE a ρ=zA3 (a ρ) fun d=>match d with | .int i=>okR (some i)|_=>none:=rfl
@[simp] theorem x_eMt(f:Dt->List Dt->Option Dt):eMt f a am ρ=zA3 (a ρ) fun x=>if zNR x=true then zA3 (am ρ) fun xs=>optR (f x xs)else none:=rfl
@[simp] theorem v_isStr(z:Str):zNR (.str z)=true:=rfl
end
@[simp] theorem v_slL(xs:List Dt)(l h:Option Int):slD (.lst xs) l h=some (.lst (cutA xs l h)):=rfl
@[simp] theorem v_slS(z:Str)(l h:Option Int):slD (.str z) l h=@ite _ (z.length<=100000) (qA3 _) (some (.str ⟨(cutA z.cps.toList l h).toArray⟩)) none:=rfl
@[simp] theorem v_ixSt(z:Str)(i:Int):ixD (.str z) (.int i)=@ite _ (z.length<=100000) (qA3 _) ((itA z.cps.toList i).map fun c=>.str ⟨#[c]⟩) none:=rfl
@[simp] theorem v_lenSt(z:Str):lenD [.str z]=@ite _ (z.length<=100000) (qA3 _) (some (.int z.length)) none:=rfl
@[simp] theorem v_count1(z:Str)(c:Nat):zW9 (.str z) [.str ⟨#[c]⟩]=some (.int (z.cps.toList.count c:Nat)):=rfl
@[simp] theorem v_in1(ng:Bool)(z:Str)(c:Nat):inD ng (.str ⟨#[c]⟩) (.str z)=some (.bl (if ng=true then !decide (c∈z.cps.toList)else decide (c∈z.cps.toList))):=rfl
@[simp] theorem v_find1(z:Str)(c:Nat):zXD (.str z) [.str ⟨#[c]⟩]=some (.int (match posC c z.cps.toList with|some i=>(i:Int)|none=>-1)):=rfl
theorem zL5{α:Type}(xs:List α)(k:Nat):cutA xs (some (k:Int)) none=xs.drop k:=by
 unfold cutA cutIx;dsimp only;rw[if_neg (by lia)]
 by_cases h:k<=xs.length
 ·rw[show min (k:Int).toNat xs.length=k by lia];exact List.take_of_length_le (by simp)
 ·rw[show min (k:Int).toNat xs.length=xs.length by lia];simp
  lia
theorem zS7(a b:Str):(a++b).cps.toList=a.cps.toList++b.cps.toList:=by
 show(Str.mk (a.cps++b.cps)).cps.toList=_;simp
theorem zTB(z:Str):z.length=z.cps.toList.length:=by
 unfold Str.length;simp
theorem zNG(l:List Nat):(Str.mk l.toArray).length=l.length:=by rw[zTB]
end Mi
namespace Mp
open Mi PySem
theorem sg{i n:Nat}{vs:List Nat}{e:EM}{b:SM}{r:Ro}{d:Dt}{X:R Out}(he:e (full r)=okR d)(hd:d.dep<=n)(h:b (r.set i (some (d,n)))=X):sSeq (sSet i n vs e) b r=X:=by
 rw[zFL,zI6,he,zA0,if_pos hd,zA0];exact h
theorem sgf{i n:Nat}{vs:List Nat}{e:EM}{b:SM}{r:Ro}{d:Dt}{X:R Out}(he:e (full r)=okR d)(hd:¬d.dep<=n)(he2:e (frz (frzAt vs r))=okR d)(h:b ((frzAt vs r).set i (some (d,n)))=X):sSeq (sSet i n vs e) b r=X:=by
 rw[zFL,zI6,he,zA0,if_neg hd,he2,zA0,zA0];exact h
theorem sp{c:TM}{a b:SM}{r:Ro}{X:R Out}(hc:c (full r)=okR false)(h:b r=X):sSeq (sIf c a sNil) b r=X:=by
 rw[zFL,zI7,hc,zA0,if_neg (by simp),zQW,zA0];exact h
theorem st{c:TM}{a b:SM}{r r':Ro}{X:R Out}(hc:c (full r)=okR true)(ha:a r=okR (.nx r'))(h:b r'=X):sSeq (sIf c a sNil) b r=X:=by
 rw[zFL,zI7,hc,zA0,if_pos rfl,ha,zA0];exact h
theorem c2{m:FM}{e1 e2:EM}{ρ:Rh}{d1 d2:Dt}{X:R Dt}(h1:e1 ρ=okR d1)(h2:e2 ρ=okR d2)(h:m [d1,d2]=X):eCall m (aCons e1 (aCons e2 aNil)) ρ=X:=by
 simp only[zJN,zES,zI8,h1,h2,zA0];exact h
theorem c1{m:FM}{e1:EM}{ρ:Rh}{d1:Dt}{X:R Dt}(h1:e1 ρ=okR d1)(h:m [d1]=X):eCall m (aCons e1 aNil) ρ=X:=by
 simp only[zJN,zES,zI8,h1,zA0];exact h
theorem b2{o:Dt->Dt->Option Dt}{e1 e2:EM}{ρ:Rh}{d1 d2 d:Dt}(h1:e1 ρ=okR d1)(h2:e2 ρ=okR d2)(h:o d1 d2=some d):eB o e1 e2 ρ=okR d:=by
 rw[x_eB,h1,zA0,h2,zA0,h];rfl
theorem bi1{o:List Dt->Option Dt}{e1:EM}{ρ:Rh}{d1 d:Dt}(h1:e1 ρ=okR d1)(h:o [d1]=some d):eBi o (aCons e1 aNil) ρ=okR d:=by
 simp only[zU3,zES,zI8,h1,zA0,h];rfl
theorem el1{e1:EM}{ρ:Rh}{d1:Dt}(h1:e1 ρ=okR d1):eLst (aCons e1 aNil) ρ=okR (.lst [d1]):=by simp[h1]
theorem tb1{e:EM}{ρ:Rh}{k:Bool}(h:e ρ=okR (.bl k)):tB e ρ=okR k:=by rw[x_tB,h,zA0]
theorem tm1{e:EM}{ρ:Rh}{k:Bool}(h:e ρ=okR (.bl k)):tM e ρ=okR k:=by rw[x_tM,h,zA0]
theorem tn1{t:TM}{ρ:Rh}{k:Bool}(h:t ρ=okR k):tNo t ρ=okR (!k):=by rw[zWI,h,zA0]
theorem to0{t t':TM}{ρ:Rh}{k:Bool}(h:t ρ=okR false)(h':t' ρ=okR k):Mi.tOr t t' ρ=okR k:=by rw[zWH,h,zA0,if_neg (by simp),h']
theorem ta1{t t':TM}{ρ:Rh}{k:Bool}(h:t ρ=okR true)(h':t' ρ=okR k):tAn t t' ρ=okR k:=by rw[zTZ,h,zA0,if_pos rfl,h']
theorem ta0{t t':TM}{ρ:Rh}(h:t ρ=okR false):tAn t t' ρ=okR false:=by rw[zTZ,h,zA0,if_neg (by simp)]
theorem ss{i n:Nat}{vs:List Nat}{e:EM}{r:Ro}{d:Dt}(he:e (full r)=okR d)(hd:d.dep<=n):sSet i n vs e r=okR (.nx (r.set i (some (d,n)))):=by
 rw[zI6,he,zA0,if_pos hd]
theorem sr{L n:Nat}{vs:List Nat}{e:EM}{r:Ro}{d:Dt}(he:e (full r)=okR d)(hd:d.dep<=n/\d.dep<=L):sRet L n vs e r=okR (.rt d):=by
 rw[zU0,he,zA0,if_pos hd]
theorem tl{k k':Bool}{x:Option Dt}(h:x=some (.bl k))(e:k=k'):x=some (.bl k'):=e▸h
theorem bi2{o:List Dt->Option Dt}{e1 e2:EM}{ρ:Rh}{d1 d2 d:Dt}(h1:e1 ρ=okR d1)(h2:e2 ρ=okR d2)(h:o [d1,d2]=some d):eBi o (aCons e1 (aCons e2 aNil)) ρ=okR d:=by
 simp only[zU3,zES,zI8,h1,h2,zA0,h];rfl
theorem sl1{a b:EM}{ρ:Rh}{x d:Dt}{i:Int}(h1:a ρ=okR x)(h2:b ρ=okR (.int i))(h:slD x (some i) none=some d):eSl a (oE b) oNo ρ=okR d:=by
 rw[zU2,h1,zA0,x_oE,h2,zA0,zA0,zWJ,zA0,h];rfl
theorem sl2{a b c:EM}{ρ:Rh}{x d:Dt}{i j:Int}(h1:a ρ=okR x)(h2:b ρ=okR (.int i))(h3:c ρ=okR (.int j))(h:slD x (some i) (some j)=some d):eSl a (oE b) (oE c) ρ=okR d:=by
 rw[zU2,h1,zA0,x_oE,h2,zA0,zA0,x_oE,h3,zA0,zA0,h];rfl
theorem sf{c:TM}{a:SM}{r:Ro}(hc:c (full r)=okR false):sIf c a sNil r=okR (.nx r):=by
 rw[zI7,hc,zA0,if_neg (by simp),zQW]
theorem eqi{e1 e2:EM}{ρ:Rh}{a b:Int}{k:Bool}(h1:e1 ρ=okR (.int a))(h2:e2 ρ=okR (.int b))(h:decide (a=b)=k):tB (eB eqD e1 e2) ρ=okR k:=by
 refine tb1 (b2 h1 h2 ?_);rw[<- h];simp[Dt.eq];rfl
theorem nei{e1 e2:EM}{ρ:Rh}{a b:Int}{k:Bool}(h1:e1 ρ=okR (.int a))(h2:e2 ρ=okR (.int b))(h:(!decide (a=b))=k):tB (eB neD e1 e2) ρ=okR k:=by
 refine tb1 (b2 h1 h2 ?_);rw[<- h];simp[Dt.eq];rfl
theorem sx{c:TM}{a b:SM}{r:Ro}{d:Dt}(hc:c (full r)=okR true)(ha:a r=okR (.rt d)):sSeq (sIf c a sNil) b r=okR (.rt d):=by
 rw[zFL,zI7,hc,zA0,if_pos rfl,ha,zA0]
theorem si{c:TM}{a b:SM}{r r':Ro}{k:Bool}{X:R Out}(hc:c (full r)=okR k)(ht:k=true->a r=okR (.nx r'))(hf:k=false->r=r')(h:b r'=X):sSeq (sIf c a sNil) b r=X:=by
 cases k with
 |true=>exact st hc (ht rfl) h
 |false=>exact sp hc (by rw[hf rfl];exact h)
theorem mdi{i j k:Int}(h:0<j)(e:i%j=k):modD (.int i) (.int j)=some (.int k):=by rw[<- e];exact if_pos h
theorem dvi{i j:Int}(h:0<j/\j<1000000000000000000000000):divD (.int i) (.int j)=some (.int (i/j)):=@if_pos _ (qA3 _) h _ _ _
theorem c3{m:FM}{e1 e2 e3:EM}{ρ:Rh}{d1 d2 d3:Dt}{X:R Dt}(h1:e1 ρ=okR d1)(h2:e2 ρ=okR d2)(h3:e3 ρ=okR d3)(h:m [d1,d2,d3]=X):eCall m (aCons e1 (aCons e2 (aCons e3 aNil))) ρ=X:=by
 simp only[zJN,zES,zI8,h1,h2,h3,zA0];exact h
theorem ned{e1 e2:EM}{ρ:Rh}{x y:Dt}{b k:Bool}(h1:e1 ρ=okR x)(h2:e2 ρ=okR y)(d1:x.dep<=40)(d2:y.dep<=40)(h:Dt.eq x y=b)(hk:(!b)=k):tB (eB neD e1 e2) ρ=okR k:=by
 refine tb1 (b2 h1 h2 ?_);unfold neD;rw[if_pos ⟨d1,d2⟩,h,hk]
theorem el0{ρ:Rh}:eLst aNil ρ=okR (.lst []):=by simp
theorem sw{s t:SM}{r r':Ro}{X:R Out}(h:s r=okR (.nx r'))(h2:t r'=X):sSeq s t r=X:=by rw[zFL,h,zA0];exact h2
theorem if1{c:TM}{a b:EM}{ρ:Rh}{X:R Dt}(hc:c ρ=okR true)(h:a ρ=X):eIf c a b ρ=X:=by unfold eIf;rw[hc,zA0,if_pos rfl];exact h
theorem if0{c:TM}{a b:EM}{ρ:Rh}{X:R Dt}(hc:c ρ=okR false)(h:b ρ=X):eIf c a b ρ=X:=by unfold eIf;rw[hc,zA0,if_neg qAb];exact h
theorem nif1{c:TM}{a b:SM}{r:Ro}{P:Ro->Prop}(hc:c (full r)=okR true)(h:nxR (a r) P):nxR (sIf c a b r) P:=by rw[zI7,hc,zA0,if_pos rfl];exact h
theorem nif0{c:TM}{a b:SM}{r:Ro}{P:Ro->Prop}(hc:c (full r)=okR false)(h:nxR (b r) P):nxR (sIf c a b r) P:=by rw[zI7,hc,zA0,if_neg qAb];exact h
theorem nsw{s t:SM}{r r':Ro}{P:Ro->Prop}(h:s r=okR (.nx r'))(h2:nxR (t r') P):nxR (sSeq s t r) P:=by rw[zFL,h,zA0];exact h2
theorem v1{i:Nat}{ρ:Rh}{d:Dt}(h:ρ[i]?=some (some d)):eV i ρ=okR d:=by rw[x_eV,h]
theorem al0{e:EM}{ρ:Rh}{d:Dt}(h:e ρ=okR d):aCons e aNil ρ=okR [d]:=by rw[zES,h];rfl
theorem k1{d d':Dt}{ρ:Rh}(h:d=d'):eC d ρ=okR d':=by rw[<- h];rfl
theorem cmi{p:Int->Int->Bool}{a b:Int}{k:Bool}(h:p a b=k):cmpD p (.int a) (.int b)=some (.bl k):=by rw[<- h];rfl
end Mp
namespace Mp
open Mi PySem
def zF8:SM:=(sRet 0 0 [0] (eAnd (eIsi "int" (eV 0)) (eNot (eIsi "bool" (eV 0)))))
def zB8:FM:=runF 1 1 zF8
def zDW:SM:=(sSeq (sSet 2 0 [] (eC (.int 0)))
 (sSeq (sIf (tB (eB (cmpD fun i j=>decide (i<j)) (eV 1) (eBi lenD (aCons (eV 0) aNil)))) (sSet 2 0 [0,1] (eB ixD (eV 0) (eV 1))) sNil)
 (sSeq (sSet 3 0 [2,1] (eB modD (eB mulD (eB addD (eB modD (eV 2) (eC (.int 2147483629))) (eB mulD (eC (.int 104729)) (eB addD (eV 1) (eC (.int 1))))) (eC (.int 48271))) (eC (.int 2147483647))))
 (sRet 1 1 [2,3] (eB addD (eB mulD (eB divD (eV 2) (eC (.int 2147483629))) (eC (.int 2147483647))) (eB modD (eB mulD (eV 3) (eC (.int 69621))) (eC (.int 2147483629))))))))
def zAC:FM:=runF 2 4 zDW
def zGJ:SM:=(sRet 2 2 [0] (eComp (iSq (eV 0)) 1 (.one 1) Mi.tYes (eBi listD (aCons (eV 1) aNil))))
def zCZ:FM:=runF 1 1 zGJ
def zCH:SM:=(sSeq (sSet 3 0 [0,1,2] (eB modD (eCall zAC (aCons (eV 0) (aCons (eV 1) aNil))) (eB addD (eV 2) (eC (.int 1)))))
 (sSeq (sSet 4 0 [3,0,1] (eBi maxD (aCons (eC (.int 1)) (aCons (eB subD (eV 3) (eB modD (eB divD (eCall zAC (aCons (eV 0) (aCons (eV 1) aNil))) (eC (.int 16))) (eC (.int 4)))) aNil))))
 (sSeq (sSet 5 1 [4,3,0,1] (eComp (iR1 (aCons (eV 3) aNil)) 1 (.one 10) Mi.tYes (eB modD (eB divD (eCall zAC (aCons (eV 0) (aCons (eB addD (eV 1) (eC (.int 1))) aNil))) (eB addD (eV 10) (eC (.int 1)))) (eV 4))))
 (sSeq (sIf (tB (eB (cmpD fun i j=>decide (j<i)) (eB modD (eB divD (eCall zAC (aCons (eV 0) (aCons (eV 1) aNil))) (eC (.int 64))) (eC (.int 3))) (eC (.int 0)))) (sSet 5 1 [4,3] (eComp (iR1 (aCons (eV 3) aNil)) 1 (.one 10) Mi.tYes (eB modD (eV 10) (eV 4)))) sNil)
 (sSeq (sSet 6 2 [0,9,4,1] (eComp (iR1 (aCons (eV 4) aNil)) 1 (.one 10) Mi.tYes (eCall zAC (aCons (eV 0) (aCons (eB addD (eB addD (eV 1) (eC (.int 2))) (eV 10)) aNil)))))
 (sSeq (sSet 7 0 [0,1] (eB (cmpD fun i j=>decide (j<i)) (eB modD (eB divD (eCall zAC (aCons (eV 0) (aCons (eV 1) aNil))) (eC (.int 192))) (eC (.int 3))) (eC (.int 0))))
 (sSeq (sSet 8 2 [9,4,6] (eComp (iR1 (aCons (eV 4) aNil)) 1 (.one 10) Mi.tYes (eComp (iR1 (aCons (eV 4) aNil)) 1 (.one 11) Mi.tYes (eB modD (eB divD (eB ixD (eV 6) (eBi maxD (aCons (eV 10) (aCons (eV 11) aNil)))) (eB addD (eB mulD (eBi minD (aCons (eV 10) (aCons (eV 11) aNil))) (eBi minD (aCons (eV 10) (aCons (eV 11) aNil)))) (eC (.int 3)))) (eC (.int 2))))))
 (sSeq (sForR (iR1 (aCons (eV 4) aNil)) 9 (sItem2 8 0 (eV 9) (eV 9) (eB mulD (eB ixD (eB ixD (eV 8) (eV 9)) (eV 9)) (eBi intD (aCons (eV 7) aNil)))))
 (sRet 2 2 [9,3,8,5] (eComp (iR1 (aCons (eV 3) aNil)) 1 (.one 10) Mi.tYes (eComp (iR1 (aCons (eV 3) aNil)) 1 (.one 11) Mi.tYes (eB ixD (eB ixD (eV 8) (eB ixD (eV 5) (eV 10))) (eB ixD (eV 5) (eV 11))))))))))))))
def zCE:FM:=runF 3 10 zCH
def zF9:SM:=(sRet 1 1 [0,1] (eComp (iZi (aCons (eV 0) (aCons (eV 1) aNil))) 2 (.tup [2,3]) Mi.tYes (eB modD (eB addD (eV 2) (eV 3)) (eC (.int 2)))))
def zAW:FM:=runF 2 2 zF9
def zI2:SM:=(sSeq (sIf (Mi.tOr (tNo (tM (eIsi "list" (eV 0)))) (tB (eB neD (eBi lenD (aCons (eV 0) aNil)) (eBi lenD (aCons (eV 1) aNil))))) (sRet 0 0 [] (eC (.bl false))) sNil)
 (sSeq (sFor [0] (iSq (eV 0)) (.one 2) (sIf (Mi.tOr (tNo (tM (eIsi "list" (eV 2)))) (tNo (tM (eBi allD (aCons (eComp (iSq (eV 2)) 1 (.one 3) Mi.tYes (eCall zB8 (aCons (eV 3) aNil))) aNil))))) (sRet 0 0 [] (eC (.bl false))) sNil))
 (sRet 0 0 [0,1] (eB eqD (eV 0) (eV 1)))))
def zCA:FM:=runF 2 3 zI2
def zOL:SM:=(sRet 1 1 [0,1] (eComp (iR1 (aCons (eBi lenD (aCons (eV 0) aNil)) aNil)) 1 (.one 2) Mi.tYes (eB xorD (eB ixD (eV 0) (eV 2)) (eB ixD (eV 1) (eV 2)))))
def zFZ:FM:=runF 2 2 zOL
def zGI:SM:=(sRet 2 2 [1,0] (eComp (iSq (eV 1)) 1 (.one 2) Mi.tYes (eComp (iSq (eV 1)) 1 (.one 3) Mi.tYes (eB ixD (eB ixD (eV 0) (eV 2)) (eV 3)))))
def zB9:FM:=runF 2 2 zGI
def zDH:SM:=(sSeq (sSet 2 0 [0] (eBi lenD (aCons (eV 0) aNil)))
 (sSeq (sSet 3 0 [1,2] (eB modD (eV 1) (eV 2)))
 (sSeq (sSet 4 0 [2,3,1] (eB modD (eB addD (eB addD (eV 3) (eC (.int 1))) (eB modD (eB divD (eV 1) (eV 2)) (eB subD (eV 2) (eC (.int 1))))) (eV 2)))
 (sSeq (sSet 0 2 [4,5,0,3] (eComp (iEn (aCons (eV 0) aNil)) 2 (.tup [6,7]) Mi.tYes (eIf (tB (eB eqD (eV 6) (eV 4))) (eCall zAW (aCons (eV 7) (aCons (eB ixD (eV 0) (eV 3)) aNil))) (eBi listD (aCons (eV 7) aNil)))))
 (sSeq (sForSet 0 5 (eV 4) (eB modD (eB addD (eB ixD (eV 5) (eV 4)) (eB ixD (eV 5) (eV 3))) (eC (.int 2))))
 (sRetV 0 0))))))
def zBZ:FM:=runF 2 6 zDH
def zCI:SM:=(sSeq (sSet 4 0 [0,1,2] (eB modD (eCall zAC (aCons (eV 0) (aCons (eV 1) aNil))) (eB addD (eV 2) (eC (.int 1)))))
 (sSeq (sSet 5 2 [4] (eComp (iR1 (aCons (eV 4) aNil)) 1 (.one 10) Mi.tYes (eComp (iR1 (aCons (eV 4) aNil)) 1 (.one 11) Mi.tYes (eC (.int 0)))))
 (sSeq (sSet 6 0 [] (eC (.int 0)))
 (sSeq (sSet 7 0 [] (eC (.int 0)))
 (sSeq (sWhile (tB (eB (cmpD fun i j=>decide (i<j)) (eV 7) (eV 4))) (sSeq (sSet 8 0 [0,7,1] (eB modD (eCall zAC (aCons (eV 0) (aCons (eB addD (eB addD (eV 1) (eC (.int 1))) (eV 7)) aNil))) (eC (.int 4))))
 (sIf (tAn (tB (eB eqD (eV 8) (eC (.int 0)))) (tNo (tM (eV 3)))) (sSeq (sSet 6 1 [6] (eB addD (eV 6) (eC (.int 1))))
 (sSet 7 1 [7] (eB addD (eV 7) (eC (.int 1))))) (sIf (tAn (tB (eB (cmpD fun i j=>decide (j<i)) (eV 8) (eC (.int 1)))) (tB (eB (cmpD fun i j=>decide (i<j)) (eB addD (eV 7) (eC (.int 1))) (eV 4)))) (sSeq (sItem2 5 0 (eV 7) (eB addD (eV 7) (eC (.int 1))) (eC (.int 1)))
 (sSeq (sItem2 5 0 (eB addD (eV 7) (eC (.int 1))) (eV 7) (eC (.int 1)))
 (sSet 7 1 [7] (eB addD (eV 7) (eC (.int 2)))))) (sSeq (sItem2 5 0 (eV 7) (eV 7) (eC (.int 1)))
 (sSet 7 1 [7] (eB addD (eV 7) (eC (.int 1)))))))))
 (sSeq (sForR (iR1 (aCons (eC (.int 14)) aNil)) 9 (sIf (tB (eB (cmpD fun i j=>decide (j<i)) (eV 4) (eC (.int 1)))) (sSet 5 0 [5,0,9,1] (eCall zBZ (aCons (eV 5) (aCons (eCall zAC (aCons (eV 0) (aCons (eB addD (eB addD (eV 1) (eC (.int 12))) (eV 9)) aNil))) aNil)))) sNil))
 (sRet 1 1 [5,6] (eTup (aCons (eV 5) (aCons (eV 6) aNil))))))))))
def zDF:FM:=runF 4 10 zCI
def zF3:SM:=(sSeq (sIf (tB (eB eqD (eB modD (eCall zAC (aCons (eV 0) (aCons (eC (.int 40)) aNil))) (eC (.int 2))) (eC (.int 0)))) (sRet 0 0 [0,1] (eCall zCE (aCons (eV 0) (aCons (eC (.int 0)) (aCons (eV 1) aNil))))) sNil)
 (sRet 0 0 [0,1] (eB ixD (eCall zDF (aCons (eV 0) (aCons (eC (.int 0)) (aCons (eV 1) (aCons (eC (.bl false)) aNil))))) (eC (.int 0)))))
def zCP:FM:=runF 2 2 zF3
def zE4:SM:=(sSeq (sSet 1 2 [0] (eComp (iSq (eV 0)) 1 (.one 6) Mi.tYes (eBi listD (aCons (eV 6) aNil))))
 (sSeq (sSet 2 0 [] (eC (.int 0)))
 (sSeq (sForR (iR1 (aCons (eBi lenD (aCons (eV 0) aNil)) aNil)) 3 (sSeq (sSet 4 1 [1,3] (eComp (iSq (eV 1)) 1 (.one 6) (tB (eB eqD (eB ixD (eV 6) (eV 3)) (eC (.int 1)))) (eV 6)))
 (sIf (tB (eB (cmpD fun i j=>decide (j<i)) (eBi lenD (aCons (eV 4) aNil)) (eC (.int 0)))) (sSeq (sSet 2 1 [2] (eB addD (eV 2) (eC (.int 1))))
 (sSeq (sSet 5 1 [1,3] (eComp (iSq (eV 1)) 1 (.one 6) (tB (eB eqD (eB ixD (eV 6) (eV 3)) (eC (.int 0)))) (eV 6)))
 (sSet 1 1 [5,4] (eB addD (eV 5) (eComp (iSq (eSl (eV 4) (oE (eC (.int 1))) oNo)) 1 (.one 6) Mi.tYes (eCall zAW (aCons (eV 6) (aCons (eB ixD (eV 4) (eC (.int 0))) aNil)))))))) sNil)))
 (sRetV 1 2))))
def zBD:FM:=runF 1 6 zE4
def zJG:SM:=(sSeq (sSet 3 0 [0,2] (eB ixD (eV 0) (eV 2)))
 (sSeq (sSet 4 1 [0,3,1] (eComp (iSq (eV 0)) 1 (.one 5) Mi.tYes (eIf (tB (eB eqD (eB ixD (eV 5) (eV 1)) (eC (.int 1)))) (eCall zFZ (aCons (eV 5) (aCons (eV 3) aNil))) (eV 5))))
 (sSeq (sItemS 4 (eV 2) (eV 1))
 (sSeq (sItemF 4 [3] (eV 1) (eV 3))
 (sRetV 1 4)))))
def zDE:FM:=runF 3 5 zJG
def zH2:SM:=(sRet 1 1 [1,0] (eComp (iR1 (aCons (eV 0) aNil)) 1 (.one 2) Mi.tYes (eIf (tB (eB eqD (eV 2) (eV 1))) (eC (.int 1)) (eC (.int 0)))))
def zCO:FM:=runF 2 2 zH2
def zGG:SM:=(sSeq (sSet 1 0 [0] (eBi lenD (aCons (eV 0) aNil)))
 (sSeq (sSet 2 2 [0,1] (eComp (iR1 (aCons (eV 1) aNil)) 1 (.one 5) Mi.tYes (eB addD (eB ixD (eV 0) (eV 5)) (eCall zCO (aCons (eV 1) (aCons (eV 5) aNil))))))
 (sSeq (sForR (iR1 (aCons (eV 1) aNil)) 3 (sSeq (sSet 4 1 [3,1,2] (eComp (iR2 (aCons (eV 3) (aCons (eV 1) aNil))) 1 (.one 5) (tB (eB eqD (eB ixD (eB ixD (eV 2) (eV 5)) (eV 3)) (eC (.int 1)))) (eV 5)))
 (sSeq (sIf (tNo (tL (eV 4))) (sRet 2 2 [] (eC .non)) sNil)
 (sSet 2 1 [2,3,4] (eCall zDE (aCons (eV 2) (aCons (eV 3) (aCons (eB ixD (eV 4) (eC (.int 0))) aNil))))))))
 (sRet 2 2 [2,1] (eComp (iSq (eV 2)) 1 (.one 5) Mi.tYes (eSl (eV 5) (oE (eV 1)) oNo))))))
def zDD:FM:=runF 1 5 zGG
def zGH:SM:=(sRet 0 0 [0] (eBi allD (aCons (eComp (iSq (eV 0)) 1 (.one 1) Mi.tYes (eCall zB8 (aCons (eV 1) aNil))) aNil)))
def zCY:FM:=runF 1 1 zGH
def zL9:SM:=(sRet 0 0 [1,0] (eAnd (eCall zCY (aCons (eV 1) aNil)) (eB eqD (eV 1) (eComp (iR1 (aCons (eBi lenD (aCons (eV 0) aNil)) aNil)) 1 (.one 2) (tB (eB (inD false) (eV 2) (eV 1))) (eV 2)))))
def zFF:FM:=runF 2 2 zL9
def zH3:SM:=(sRet 0 0 [0,1] (eAnd (eCall zFF (aCons (eV 0) (aCons (eV 1) aNil))) (eB isntD (eCall zDD (aCons (eCall zB9 (aCons (eV 0) (aCons (eV 1) aNil))) aNil)) (eC .non))))
def zBF:FM:=runF 2 2 zH3
def zI4:SM:=(sSeq (sSet 2 0 [0,1] (eB ixD (eLst (aCons (eTup (aCons (eC (.int 1)) (aCons (eC (.int 0)) (aCons (eC (.int 3)) (aCons (eC (.int 2)) aNil))))) (aCons (eTup (aCons (eC (.int 2)) (aCons (eC (.int 3)) (aCons (eC (.int 0)) (aCons (eC (.int 1)) aNil))))) (aCons (eTup (aCons (eC (.int 3)) (aCons (eC (.int 2)) (aCons (eC (.int 1)) (aCons (eC (.int 0)) aNil))))) aNil)))) (eB ixD (eV 0) (eB divD (eV 1) (eC (.int 4))))))
 (sRet 1 1 [1,2] (eB addD (eB subD (eV 1) (eB modD (eV 1) (eC (.int 4)))) (eB ixD (eV 2) (eB modD (eV 1) (eC (.int 4)))))))
def zHQ:FM:=runF 2 3 zI4
def zJH:SM:=(sSeq (sSet 3 9 [] (eLst aNil))
 (sSeq (sSet 4 0 [2] (eV 2))
 (sSeq (sWhile (Mi.tOr (tB (eB eqD (eV 3) (eLst aNil))) (tB (eB neD (eV 4) (eV 2)))) (sSeq (sApp 3 0 (eV 4))
 (sSeq (sApp 3 1 (eCall zHQ (aCons (eV 1) (aCons (eV 4) aNil))))
 (sSet 4 0 [0,3] (eB ixD (eV 0) (eB ixD (eV 3) (eU negD (eC (.int 1)))))))))
 (sRetV 9 3))))
def zIT:FM:=runF 3 5 zJH
def zI3:SM:=(sSeq (sSet 2 1 [] zVX)
 (sSeq (sSet 3 9 [] (eLst aNil))
 (sSeq (sForR (iR1 (aCons (eBi lenD (aCons (eV 0) aNil)) aNil)) 4 (sIf (tB (eB (dinD true) (eV 4) (eV 2))) (sSeq (sSet 5 9 [0,1,4] (eCall zIT (aCons (eV 0) (aCons (eV 1) (aCons (eV 4) aNil)))))
 (sSeq (sFor [5] (iSq (eV 5)) (.one 6) (zWU 2 (eV 6) (eC (.bl true))))
 (zUH 3 [5] (eV 5)))) sNil))
 (sRetV 1 3))))
def m__law_rounds:FM:=runF 2 7 zI3
def zQR:SM:=(sRet 0 0 [1,0] (eB xorD (eV 1) (eB addD (eV 0) (eC (.int 1)))))
def zPT:FM:=runF 2 2 zQR
def zJF:SM:=(sSeq (sSet 2 0 [1] (eB divD (eV 1) (eC (.int 4))))
 (sRet 1 1 [2,0,1] (eB addD (eB mulD (eV 2) (eC (.int 4))) (eCall zPT (aCons (eB ixD (eV 0) (eV 2)) (aCons (eB modD (eV 1) (eC (.int 4))) aNil))))))
def zF5:FM:=runF 2 3 zJF
def zM6:SM:=(sSeq (sSet 3 1 [2,1] (eLst (aCons (eV 2) (aCons (eCall zF5 (aCons (eV 1) (aCons (eV 2) aNil))) aNil))))
 (sSeq (sWhile (tB (eB neD (eB ixD (eV 0) (eB ixD (eV 3) (eU negD (eC (.int 1))))) (eV 2))) (sSeq (sSet 4 0 [0,3] (eB ixD (eV 0) (eB ixD (eV 3) (eU negD (eC (.int 1))))))
 (sExt 3 0 (eLst (aCons (eV 4) (aCons (eCall zF5 (aCons (eV 1) (aCons (eV 4) aNil))) aNil))))))
 (sRetV 1 3)))
def zLZ:FM:=runF 3 5 zM6
def zKE:SM:=(sSeq (sSet 2 9 [] (eLst aNil))
 (sSeq (sSet 3 1 [] zVX)
 (sSeq (sForR (iR1 (aCons (eBi lenD (aCons (eV 0) aNil)) aNil)) 4 (sIf (tB (eB (dinD true) (eV 4) (eV 3))) (sSeq (sSet 5 1 [0,1,4] (eCall zLZ (aCons (eV 0) (aCons (eV 1) (aCons (eV 4) aNil)))))
 (sSeq (zUH 2 [5] (eV 5))
 (zWS 3 (eComp (iSq (eV 5)) 1 (.one 6) Mi.tYes (eTup (aCons (eV 6) (aCons (eC (.bl true)) aNil))))))) sNil))
 (sRetV 1 2))))
def m_rounds_of:FM:=runF 2 6 zKE
def zJE:SM:=(sSeq (sIf (tB (eB (cmpD fun i j=>decide (j<i)) (eBi lenD (aCons (eV 0) aNil)) (eC (.int 6)))) (sRaise0 "TooMany" (aCons (eC (.str "sets are told for tables of at most six rows")) aNil)) sNil)
 (sSeq (sSet 1 10 [] (eLst (aCons (eLst aNil) aNil)))
 (sSeq (sForR (iR1 (aCons (eBi lenD (aCons (eV 0) aNil)) aNil)) 2 (sSumO 1 2 (eComp (iSq (eV 1)) 1 (.one 3) Mi.tYes (eB addD (eV 3) (eLst (aCons (eV 2) aNil))))))
 (sRetSo 10 1 1 3 (tM (eCallN zBF (aCons (eV 0) (aCons (eV 3) aNil))))))))
def zC4:FM:=runF 1 3 zJE
def zDI:SM:=(sSeq (sSet 1 9 [] (eLst aNil))
 (sSeq (sTry [0] none (eCall zC4 (aCons (eV 0) aNil)) ["RoundError","NoSet","TooMany"] 2 (sSet 1 1 [2] (eLst (aCons (eIsX ["TooMany"] ["RoundError","NoSet"] (eV 2)) (aCons (eIsX ["RoundError","NoSet","TooMany"] [] (eV 2)) (aCons (eIsX ["NoSet"] ["RoundError","TooMany"] (eV 2)) aNil))))))
 (sRetV 1 1)))
def zC0:FM:=runF 1 3 zDI
def zOK:SM:=(sSeq (sSet 1 0 [] (eC (.int 6)))
 (sSeq (sIf (tB (eB eqD (eB modD (eCall zAC (aCons (eV 0) (aCons (eC (.int 50)) aNil))) (eC (.int 4))) (eC (.int 3)))) (sSet 1 0 [] (eC (.int 8))) sNil)
 (sSeq (sSet 2 0 [0,1] (eCall zCP (aCons (eV 0) (aCons (eV 1) aNil))))
 (sSeq (sIf (tB (eB (cmpD fun i j=>decide (j<i)) (eBi lenD (aCons (eV 2) aNil)) (eC (.int 6)))) (sRet 0 0 [2] (eB eqD (eCall zC0 (aCons (eV 2) aNil)) (eLst (aCons (eC (.bl true)) (aCons (eC (.bl true)) (aCons (eC (.bl false)) aNil)))))) sNil)
 (sSeq (sSet 3 10 [] (eLst (aCons (eLst aNil) aNil)))
 (sSeq (sForR (iR1 (aCons (eBi lenD (aCons (eV 2) aNil)) aNil)) 4 (sSet 3 1 [3,8,4] (eB addD (eV 3) (eComp (iSq (eV 3)) 1 (.one 9) Mi.tYes (eB addD (eV 9) (eLst (aCons (eV 4) aNil)))))))
 (sSeq (sSet 5 1 [8,3,2] (eBi sortLD (aCons (eComp (iSq (eV 3)) 1 (.one 9) (tB (eB eqD (eCall zBD (aCons (eCall zB9 (aCons (eV 2) (aCons (eV 9) aNil))) aNil)) (eBi lenD (aCons (eV 9) aNil)))) (eV 9)) aNil)))
 (sSeq (sSet 6 2 [2] (eCall zCZ (aCons (eV 2) aNil)))
 (sSeq (sSet 7 10 [6] (eCall zC4 (aCons (eV 6) aNil)))
 (sSeq (sIf (Mi.tOr (tNo (tM (eCall zCA (aCons (eV 7) (aCons (eV 5) aNil))))) (tB (eB neD (eV 6) (eV 2)))) (sRet 0 0 [] (eC (.bl false))) sNil)
 (sSeq (sForApp 7 8 0)
 (sSeq (sApp 7 9 (eLst aNil))
 (sRet 0 0 [5,6] (eCall zCA (aCons (eCall zC4 (aCons (eV 6) aNil)) (aCons (eV 5) aNil))))))))))))))))
def zIS:FM:=runF 1 9 zOK
end Mp
namespace Mp
open Mi PySem
theorem zF7(i:Int):zB8 [.int i]=okR (.bl true):=by
 unfold zB8 zF8;simp[isiD,tyD]
noncomputable def rowD(r:List Int):Dt:=.lst (r.map .int)
def mat(A:List (List Int)):Dt:=.lst (A.map rowD)
noncomputable def tab(n:Nat)(f:Nat->Nat->Int):List (List Int):=(qA4 n).map fun i=>(qA4 n).map fun j=>f i j
def Bits(n:Nat)(f:Nat->Nat->Int):Prop:=∀i j,i<n->j<n->f i j=0\/f i j=1
def Sym(n:Nat)(f:Nat->Nat->Int):Prop:=∀i j,i<n->j<n->f i j=f j i
@[simp] theorem zO6(r:List Int):(rowD r).dep=1:=by simp[rowD]
theorem ixR{n:Nat}{g:Nat->Int}{j:Nat}(h:j<n):ixD (rowD ((qA4 n).map g)) (.int (j:Int))=some (.int (g j)):=by
 refine zG3 rfl ?_;simp[h]
@[simp] theorem lenR(r:List Int):lenD [rowD r]=some (.int r.length):=by
 show some (Dt.int ((r.map Dt.int).length:Int))=_;rw[qAl]
@[simp] theorem listR(r:List Int):listD [rowD r]=some (rowD r):=rfl
@[simp] theorem lenM(A:List (List Int)):lenD [mat A]=some (.int A.length):=by
 show some (Dt.int ((A.map rowD).length:Int))=_;rw[qAl]
theorem zGB:∀A:List (List Int),Dt.depL (A.map rowD)<=1
 |[]=>by simp
 |r::A=>by
  have:=zGB A;rw[qAn,zFN,zO6];lia
theorem zD2(A:List (List Int)):(mat A).dep<=2:=by
 have:=zGB A;unfold mat;rw[v_dl];lia
theorem zL2:∀A B:List (List Int),Dt.eqL (A.map rowD) (B.map rowD)=decide (A=B)
 |[],[]=>by simp[Dt.eqL]
 |[],_::_=>by simp[Dt.eqL]
 |_::_,[]=>by simp[Dt.eqL]
 |r::A,q::B=>by
  rw[qAn,qAn,Dt.eqL,zL2 A B];unfold rowD;rw[v_e4,zEJ];simp
theorem zRO(A B:List (List Int)):Dt.eq (mat A) (mat B)=decide (A=B):=by
 unfold mat;rw[v_e4,zL2]
theorem zC6(n:Nat)(f:Nat->Nat->Int):(tab n f).length=n:=by simp[tab]
theorem zDX{n:Nat}{f:Nat->Nat->Int}{i:Nat}(h:i<n):(tab n f)[i]?=some ((qA4 n).map fun j=>f i j):=by
 simp[tab,h]
theorem zVL{n:Nat}{f:Nat->Nat->Int}{i:Nat}(h:i<n):itA ((tab n f).map rowD) (i:Int)=some (rowD ((qA4 n).map fun j=>f i j)):=by
 refine zG3 rfl ?_;rw[qAc,zDX h];rfl
theorem ixM{n:Nat}{f:Nat->Nat->Int}{i:Nat}(h:i<n):ixD (mat (tab n f)) (.int (i:Int))=some (rowD ((qA4 n).map fun j=>f i j)):=zVL h
theorem zVW(a b:List Int):Dt.eq (rowD a) (rowD b)=decide (a=b):=by
 unfold rowD;rw[v_e4,zEJ]
theorem zS6{n:Nat}{f g:Nat->Nat->Int}(h:∀i j,i<n->j<n->f i j=g i j):tab n f=tab n g:=by
 unfold tab;refine qAw fun i hi=>qAw fun j hj=>h i j (by simpa using hi) (by simpa using hj)
theorem zEO{ρ:Rh}{e:EM}{it:IM}{i n:Nat}(g:Nat->Int)(hi:i=ρ.length)(hn:n<=1000)(h1:it ρ=okR (nums 0 n))(h:∀a,a<n->e (ρ++[some (.int (a:Nat))])=okR (.int (g a))):eComp it 1 (.one i) tYes e ρ=okR (rowD ((qA4 n).map g)):=by
 rw[zCR (fun b=>.int (g b)) n rfl hi (fun b hb=>h b hb) it h1 (by lia)];unfold rowD;rw[qAs];rfl
theorem zHX{ρ:Rh}{e:EM}{it it2:IM}{i j n:Nat}(f:Nat->Nat->Int)(hi:i=ρ.length)(hj:j=ρ.length+1)(hn:n<=1000)(h1:it ρ=okR (nums 0 n))(h2:∀a,it2 (ρ++[some (.int (a:Nat))])=okR (nums 0 n))
  (h:∀a b,a<n->b<n->e (ρ++[some (.int (a:Nat))]++[some (.int (b:Nat))])=okR (.int (f a b))):eComp it 1 (.one i) tYes (eComp it2 1 (.one j) tYes e) ρ=okR (mat (tab n f)):=by
 rw[zCR (fun a=>rowD ((qA4 n).map fun b=>f a b)) n rfl hi (fun a ha=>?_) it h1 (by lia)]
 ·unfold mat tab;rw[qAs];rfl
 ·rw[zCR (fun b=>.int (f a b)) n rfl (by rw[hj];simp) (fun b hb=>h a b ha hb) it2 (h2 a) (by lia)];unfold rowD;rw[qAs];rfl
theorem zQL(A:List (List Int))(h:A.length<=1000):zCZ [mat A]=okR (mat A):=by
 unfold zCZ zGJ;have hd:=zGB A;have hc:eComp (iSq (eV 0)) 1 (.one 1) Mi.tYes (eBi listD (aCons (eV 1) aNil)) [some (mat A)]=okR (mat A):=
  zBG rowD rowD A rfl rfl (fun r _=>by simp[rowD]) _ (by simp[mat]) (by lia)
 have hm:(mat A).dep<=2:=zD2 A;simp[hc,hm]
theorem zOF(ns:List Int)(k:Int)(h0:0<=k)(h1:k<100000):∃c:Int,zAC [.scr ns,.int k]=okR (.int c):=by
 unfold zAC zDW;have m1:mulD (.int 104729) (.int (k+1))=some (.int (104729*(k+1))):=zVG (by lia) (by lia)
 by_cases hk:k<ns.length
 ·simp[hk,zTF h0 hk,m1,-zOU,zT4]
 ·simp[hk,m1,-zOU,zT4]
theorem zT7(a b:Nat):maxD [.int (a:Int),.int (b:Int)]=some (.int ((max a b:Nat):Int)):=by
 simp[maxD];split<;>lia
theorem zT6(a b:Nat):minD [.int (a:Int),.int (b:Int)]=some (.int ((min a b:Nat):Int)):=by
 simp[minD];split<;>lia
theorem zEG{r:Ro}{i m n:Nat}{l:Nat}{f:Nat->Nat->Int}{a b:Nat}{v:Int}{e0 e1 e2:EM}(h:r[i]?=some (some (mat (tab n f),l+2)))(h0:e0 (full r)=okR (.int (a:Nat)))(h1:e1 (full r)=okR (.int (b:Nat)))(h2:e2 (full r)=okR (.int v))(ha:a<n)(hb:b<n) :
  sItem2 i m e0 e1 e2 r=okR (.nx (r.set i (some (mat (tab n fun x y=>if x=a/\y=b then v else f x y),l+2)))):=by
 have g1:((tab n f).map rowD)[a]?=some (.lst (((qA4 n).map fun j=>f a j).map .int)):=by
  rw[qAc,zDX ha];rfl
 unfold sItem2;rw[h2,zA0,h];show zA3 (e0 (full r)) _=_;rw[h0,zA0];dsimp only;rw[zIV (by lia) (by simp[tab];lia)];dsimp only;rw[qD9,g1];dsimp only;rw[h1,zA0];dsimp only;rw[zIV (by lia) (by simp;lia)];dsimp only;rw[if_pos ⟨qAh _,qAh _⟩,qD9]
 congr 5;unfold mat;congr 1;apply qDa;intro x;rw[qCi];by_cases hx:a=x
 ·subst hx;rw[if_pos rfl,if_pos (by simp[tab];lia),qAc,zDX ha];show some _=some _
  congr 1;unfold rowD;congr 1;apply qDa;intro y;rw[qCi];by_cases hy:b=y
  ·subst hy;simp[hb]
  ·rw[if_neg hy]
   by_cases hyn:y<n
   ·simp[hyn,show ¬y=b from fun z=>hy z.symm]
   ·simp[hyn]
 ·rw[if_neg hx,qAc,qAc]
  by_cases hxn:x<n
  ·rw[zDX hxn,zDX hxn];simp[show ¬x=a from fun z=>hx z.symm]
  ·have:(tab n f)[x]?=none:=by simp[tab];lia
   have h':(tab n fun x y=>if x=a/\y=b then v else f x y)[x]?=none:=by simp[tab];lia
   rw[this,h']
noncomputable def cellv(ns:List Int)(k:Int):Int:=match zAC [.scr ns,.int k]with
 |some (.ok (.int c))=>c
 |_=>0
theorem zJ3(ns:List Int)(k:Int)(h0:0<=k)(h1:k<100000):zAC [.scr ns,.int k]=okR (.int (cellv ns k)):=by
 obtain⟨c,hc⟩:=zOF ns k h0 h1;unfold cellv;rw[hc];rfl
def Bit(x:Int):Prop:=x=0\/x=1
def RowN(n:Nat)(r:List Int):Prop:=r.length=n/\∀x∈r,Bit x
theorem zQK(A:List (List Int))(l h:Option Int):cutA (A.map rowD) l h=(cutA A l h).map rowD:=by
 unfold cutA;simp
theorem zOC(r:List Int)(l h:Option Int):slD (rowD r) l h=some (rowD (cutA r l h)):=by
 show some (Dt.lst (cutA (r.map Dt.int) l h))=_;unfold cutA rowD;simp
theorem zTP(A:List (List Int))(l h:Option Int):slD (mat A) l h=some (mat (cutA A l h)):=by
 show some (Dt.lst (cutA (A.map rowD) l h))=_;rw[zQK];rfl
theorem zOZ{n:Nat}{f:Nat->Nat->Int}(hb:Bits n f):∀r∈tab n f,r.length=n/\∀x∈r,Bit x:=by
 intro r hr;unfold tab at hr;obtain⟨i,hi,rfl⟩:=qAq.mp hr;refine⟨by simp,fun x hx=>?_⟩;obtain⟨j,hj,rfl⟩:=qAq.mp hx;exact hb i j (by simpa using hi) (by simpa using hj)
theorem zNM(r:List Int)(i:Nat)(h:i<r.length):ixD (rowD r) (.int (i:Int))=some (.int (r.getD i 0)):=by
 have:=zQ1 (ns:=r) (i:=(i:Int)) (by lia) (by lia)
 rw[qD9]at this;exact this
theorem zNO(A:List (List Int))(i:Nat)(h:i<A.length):ixD (mat A) (.int (i:Int))=some (rowD (A.getD i [])):=by
 refine zG3 rfl ?_;rw[qAc,qA5 h,qA0,qA5 h];rfl
theorem addR(a b:List Int)(h:a.length+b.length<=100000):addD (rowD a) (rowD b)=some (rowD (a++b)):=by
 show(@ite _ ((a.map Dt.int).length+(b.map Dt.int).length<=100000) (qA3 _) (some (Dt.lst (a.map Dt.int++b.map Dt.int))) none)=_;rw[if_pos (by simpa using h)];unfold rowD;simp
theorem zS2{a b:Int}(ha:Bit a)(hb:Bit b):qHq a b=(a+b)%2:=by
 rcases ha with rfl|rfl<;>rcases hb with rfl|rfl<;>decide
theorem zEF(n:Nat)(g h:Nat->Int)(hn:n<=10):zAW [rowD ((qA4 n).map g),rowD ((qA4 n).map h)]=okR (rowD ((qA4 n).map fun j=>(g j+h j)%2)):=by
 unfold zAW zF9;have hz:∀(l:List Nat),zipD ((l.map g).map Dt.int) ((l.map h).map Dt.int)=l.map fun j=>Dt.tup [.int (g j),.int (h j)]:=by
  intro l;induction l with
  |nil=>rfl
  |cons a r ih=>simp only[qAn,zipD,ih]
 have hc:eComp (iZi (aCons (eV 0) (aCons (eV 1) aNil))) 2 (.tup [2,3]) Mi.tYes (eB modD (eB addD (eV 2) (eV 3)) (eC (.int 2))) [some (rowD ((qA4 n).map g)),some (rowD ((qA4 n).map h))]=okR (rowD ((qA4 n).map fun j=>(g j+h j)%2)):=by
  unfold eComp;have hi:iZi (aCons (eV 0) (aCons (eV 1) aNil)) [some (rowD ((qA4 n).map g)),some (rowD ((qA4 n).map h))]=okR ((qA4 n).map fun j=>Dt.tup [.int (g j),.int (h j)]):=by
   simp[rowD];have:=hz (qA4 n);simpa using this
  rw[hi,zA0,if_pos ⟨by simp;lia,by simp[Tg.idx]⟩];have go:∀(l:List Nat)(acc:List Dt),compGo [some (rowD ((qA4 n).map g)),some (rowD ((qA4 n).map h))] 2 (.tup [2,3]) tYes (eB modD (eB addD (eV 2) (eV 3)) (eC (.int 2))) (l.map fun j=>Dt.tup [.int (g j),.int (h j)]) acc=okR (acc++l.map fun j=>Dt.int ((g j+h j)%2)):=by
   intro l;induction l with
   |nil=>intro acc;simp[compGo]
   |cons a r ih=>
    intro acc;rw[qAn,compGo];simp[bindT,zAK,ih]
  rw[go,zA0];unfold rowD;rw[qAs];simp
 simp[hc]
noncomputable def sumN(n:Nat)(f:Nat->Int):Int:=((qA4 n).map f).sum
def prod(n:Nat)(f g:Nat->Nat->Int)(i j:Nat):Int:=sumN n (fun k=>f i k*g k j)%2
theorem zT8(n:Nat)(f:Nat->Nat->Int):mat (tab n f)=.lst ((qA4 n).map fun i=>rowD ((qA4 n).map fun j=>f i j)):=by
 unfold mat tab;rw[qAs];rfl
theorem zXC{ds:List Dt}(h:∀d∈ds,d.dep=0):Dt.depL ds=0:=by
 induction ds with
 |nil=>simp
 |cons a r ih=>rw[zFN,h a (by simp),ih fun d hd=>h d (by simp[hd])];rfl
noncomputable def numL(ks:List Nat):List Int:=ks.map fun k:Nat=>(k:Int)
theorem numD(ks:List Nat):rowD (numL ks)=.lst (ks.map fun k:Nat=>Dt.int (k:Int)):=by
 unfold rowD numL;rw[qAs];rfl
theorem zIQ{α:Type}(ks:List Nat)(g:Nat->α):ks.map g=(qA4 ks.length).map fun a=>g (ks.getD a 0):=by
 apply qC7
 ·simp
 ·intro i h1 h2;simp at h1;simp[h1]
theorem zNY{ks:List Nat}{n a:Nat}(hk:∀k∈ks,k<n)(ha:a<ks.length):ks.getD a 0<n:=by
 refine hk _ ?_;rw[qA0,qA5 ha];simp
noncomputable def sub(ks:List Nat)(f:Nat->Nat->Int):Nat->Nat->Int:=fun a b=>f (ks.getD a 0) (ks.getD b 0)
theorem zKY(n:Nat)(f:Nat->Nat->Int)(ks:List Nat)(hk:∀k∈ks,k<n)(hz:ks.length<=1000):zB9 [mat (tab n f),rowD (numL ks)]=okR (mat (tab ks.length (sub ks f))):=by
 have hm:mat (tab ks.length (sub ks f))=.lst (ks.map fun i=>rowD (ks.map fun j=>f i j)):=by
  rw[zT8,zIQ ks fun i=>rowD (ks.map fun j=>f i j)]
  congr 1;refine qAw fun a ha=>?_
  rw[zIQ ks fun j=>f (ks.getD a 0) j];rfl
 unfold zB9 zGI;have hc:eComp (iSq (eV 1)) 1 (.one 2) Mi.tYes (eComp (iSq (eV 1)) 1 (.one 3) Mi.tYes (eB ixD (eB ixD (eV 0) (eV 2)) (eV 3))) [some (mat (tab n f)),some (rowD (numL ks))]=okR (mat (tab ks.length (sub ks f))):=by
  rw[hm];refine zBG (fun k:Nat=>Dt.int (k:Int)) _ ks rfl rfl (fun i hi=>?_) _ (by simp[numD]) (by lia);have h2:=zBG (ρ:=[some (mat (tab n f)),some (rowD (numL ks))]++[some (Dt.int (i:Int))]) (c:=tYes) (i:=3) (e:=eB ixD (eB ixD (eV 0) (eV 2)) (eV 3)) (fun k:Nat=>Dt.int (k:Int)) (fun j=>Dt.int (f i j)) ks rfl rfl (fun j hj=>by
   have e1:=ixM (f:=f) (hk i hi);have e2:=ixR (g:=fun j=>f i j) (hk j hj);simp[e1,e2]) (iSq (eV 1)) (by simp[numD]) (by lia)
  rw[h2];unfold rowD;rw[qAs];rfl
 have hd:=zD2 (tab ks.length (sub ks f));simp[hc,hd]
theorem zH1{α:Type}(l:List α):allD [.lst (l.map fun _=>Dt.bl true)]=some (.bl true):=by
 have hall:∀l:List α,boolsD (l.map fun _=>Dt.bl true)=some (l.map fun _=>true):=by
  intro l;induction l with
  |nil=>rfl
  |cons a r ih=>simp[boolsD,ih]
 simp[allD,hall]
noncomputable def addB:List Int->List Int->List Int
 |a::r,b::s=>(a+b)%2::addB r s
 |_,_=>[]
noncomputable def dot:List Int->List Int->Int
 |a::r,b::x=>a*b+dot r x
 |_,_=>0
theorem zI1(x:Int):Bit (x%2):=by show _%2=0\/_%2=1;lia
theorem zI5:∀(a b:List Int),a.length=b.length->(addB a b).length=a.length
 |[],[],_=>rfl
 |a::r,b::s,h=>by simp[addB,zI5 r s (by simpa using h)]
 |[],_::_,h=>by simp at h
 |_::_,[],h=>by simp at h
theorem zLC:∀(a b:List Int),∀x∈addB a b,Bit x
 |[],_,x,h=>by simp[addB]at h
 |_::_,[],x,h=>by simp[addB]at h
 |a::r,b::s,x,h=>by
  rw[addB,qAj]at h;rcases h with rfl|h
  ·exact zI1 _
  ·exact zLC r s x h
theorem zLB{m:Nat}{a b:List Int}(ha:RowN m a)(hb:RowN m b):RowN m (addB a b):=
 ⟨by rw[zI5 a b (by rw[ha.1,hb.1]),ha.1],zLC a b⟩
theorem zEQ:∀(a b:List Int)(k:Nat),a.length=b.length->k<a.length->(addB a b).getD k 0=(a.getD k 0+b.getD k 0)%2
 |[],_,k,_,h=>by simp at h
 |_::_,[],k,h,_=>by simp at h
 |a::r,b::s,0,_,_=>rfl
 |a::r,b::s,k+1,h,hk=>by
  have:=zEQ r s k (by simpa using h) (by simpa using hk)
  simpa[addB]using this
theorem zGA:∀(a b x:List Int),a.length=b.length->(∀y∈x,Bit y)->dot (addB a b) x%2=(dot a x+dot b x)%2
 |[],[],x,_,_=>by simp[addB,dot]
 |[],_::_,x,h,_=>by simp at h
 |_::_,[],x,h,_=>by simp at h
 |a::r,b::s,[],_,_=>by simp[addB,dot]
 |a::r,b::s,c::x,h,hx=>by
  have ih:=zGA r s x (by simpa using h) fun y hy=>hx y (by simp[hy])
  simp only[addB,dot];rcases hx c (by simp)with rfl|rfl<;>lia
def Ker(A:List (List Int))(x:List Int):Prop:=∀r∈A,dot r x%2=0
noncomputable def ent(A:List (List Int))(i k:Nat):Int:=(A.getD i []).getD k 0
theorem zAV{α:Type}{l:List α}{d:α}{i:Nat}(h:i<l.length):l.getD i d∈l:=by
 rw[qA0,qA5 h];simp
theorem zFH{α:Type}{l:List α}{d a:α}{i j:Nat}(h:i<l.length):(l.set i a).getD j d=if i=j then a else l.getD j d:=by
 simp only[qA0,qCi];by_cases z:i=j
 ·subst z;simp[h]
 ·simp[z]
theorem zHS{α β:Type}{l:List α}{d:α}{e:β}{g:α->β}{i:Nat}(h:i<l.length):(l.map g).getD i e=g (l.getD i d):=by
 simp[qA0,qA5 h]
theorem zEE{α:Type}{l:List α}{d x:α}(h:x∈l):∃i,i<l.length/\l.getD i d=x:=by
 obtain⟨i,hi,rfl⟩:=qE0.mp h;exact⟨i,hi,by simp[qA0,qA5 hi]⟩
def oth(A:List (List Int))(c:Nat)(lead:List Int):List (List Int):=A.map fun r=>if r.getD c 0=1 then addB r lead else r
def clr(A:List (List Int))(c t:Nat):List (List Int):=
 ((oth A c (A.getD t [])).set t ((oth A c (A.getD t [])).getD c [])).set c (A.getD t [])
section
variable{A:List (List Int)}{c t m:Nat}(hm:∀r∈A,RowN m r)(ht:t<A.length)(hc:c<=t)(hl:ent A t c=1)(hcm:c<m)
theorem zFY(A:List (List Int))(c:Nat)(l:List Int):(oth A c l).length=A.length:=by simp[oth]
theorem zGD(A:List (List Int))(c t:Nat):(clr A c t).length=A.length:=by simp[clr,oth]
include hm ht in
theorem zPN:∀r∈oth A c (A.getD t []),RowN m r:=by
 intro r hr;obtain⟨q,hq,rfl⟩:=qAq.mp hr;have h1:=hm q hq;have h2:=hm _ (zAV (d:=[]) ht);split
 ·exact zLB h1 h2
 ·exact h1
include hm ht hc in
theorem zQN:∀r∈clr A c t,RowN m r:=by
 intro r hr;have ho:=zPN (c:=c) hm ht;rcases qBg hr with hr|rfl
 ·rcases qBg hr with hr|rfl
  ·exact ho r hr
  ·exact ho _ (zAV (by rw[zFY];lia))
 ·exact hm _ (zAV ht)
include ht hc in
theorem zHY(i:Nat)(hi:i<A.length):(clr A c t).getD i []=if c=i then A.getD t []else if t=i then(oth A c (A.getD t [])).getD c []else(oth A c (A.getD t [])).getD i []:=by
 unfold clr;rw[zFH (by simp[zFY];lia),zFH (by rw[zFY];lia)]
include hm ht hc in
theorem zTR(x:List Int)(hx:∀y∈x,Bit y):Ker (clr A c t) x↔Ker A x:=by
 have hlr:=hm _ (zAV (d:=[]) ht);constructor
 ·intro h r hr;have hlead:dot (A.getD t []) x%2=0:=by
   have:=h _ (zAV (d:=[]) (i:=c) (by rw[zGD];lia))
   rwa [zHY ht hc c (by lia),if_pos rfl]at this
  obtain⟨i,hi,rfl⟩:=zEE (d:=[]) hr;by_cases hit:t=i
  ·subst hit;exact hlead
  ·have key:(oth A c (A.getD t [])).getD i []∈clr A c t:=by
    by_cases hic:c=i
    ·subst hic
     have:=zAV (l:=clr A c t) (d:=[]) (i:=t) (by rw[zGD];lia)
     rwa [zHY ht hc t ht,if_neg (fun z=>hit z.symm),if_pos rfl]at this
    ·have:=zAV (l:=clr A c t) (d:=[]) (i:=i) (by rw[zGD];lia)
     rwa [zHY ht hc i hi,if_neg hic,if_neg hit]at this
   have k2:=h _ key;unfold oth at k2;rw[zHS (d:=[]) hi]at k2;split at k2
   ·rw[zGA _ _ x (by rw[(hm _ (zAV hi)).1,hlr.1]) hx]at k2
    lia
   ·exact k2
 ·intro h r hr;have hlead:=h _ (zAV (d:=[]) ht);have ho:∀r∈oth A c (A.getD t []),dot r x%2=0:=by
   intro r hr;obtain⟨q,hq,rfl⟩:=qAq.mp hr;have:=h q hq;split
   ·rw[zGA _ _ x (by rw[(hm _ hq).1,hlr.1]) hx];lia
   ·exact this
  rcases qBg hr with hr|rfl
  ·rcases qBg hr with hr|rfl
   ·exact ho r hr
   ·exact ho _ (zAV (by rw[zFY];lia))
  ·exact hlead
end
def zTU(A:List (List Int))(c:Nat):Prop:=∀i k,i<A.length->k<c->ent A i k=if i=k then 1 else 0
theorem zG7{A:List (List Int)}{m i k:Nat}(hm:∀r∈A,RowN m r)(hi:i<A.length)(hk:k<m):Bit (ent A i k):=by
 have h:=hm _ (zAV (d:=[]) hi);exact h.2 _ (zAV (by rw[h.1];exact hk))
theorem zSU{A:List (List Int)}{c t m i k:Nat}(hm:∀r∈A,RowN m r)(ht:t<A.length)(hi:i<A.length)(hk:k<m):((oth A c (A.getD t [])).getD i []).getD k 0=if ent A i c=1 then(ent A i k+ent A t k)%2 else ent A i k:=by
 unfold oth;rw[zHS (d:=[]) hi];have h1:=hm _ (zAV (d:=[]) hi);have h2:=hm _ (zAV (d:=[]) ht);show(if ent A i c=1 then _ else _:List Int).getD k 0=_
 split
 ·rw[zEQ _ _ k (by rw[h1.1,h2.1]) (by rw[h1.1];exact hk)];rfl
 ·rfl
theorem zQM{A:List (List Int)}{c t m:Nat}(hm:∀r∈A,RowN m r)(ht:t<A.length)(hc:c<=t)(hl:ent A t c=1)(hcm:c<m)(hu:zTU A c):zTU (clr A c t) (c+1):=by
 intro i k hi hk;rw[zGD]at hi;have hk2:k<m:=by lia
 have e0:∀j,j<A.length->((oth A c (A.getD t [])).getD j []).getD k 0=if k=c then 0 else if j=k then 1 else 0:=by
  intro j hj;rw[zSU hm ht hj hk2];by_cases hkc:k=c
  ·subst hkc;have hb:=zG7 (k:=k) hm hj hk2;rw[if_pos rfl]
   split
   ·rename_i h;rw[h,hl];rfl
   ·rename_i h
    rcases hb with hb|hb
    ·exact hb
    ·exact absurd hb h
  ·rw[if_neg hkc];have h1:=hu j k hj (by lia);have h2:=hu t k ht (by lia);rw[if_neg (by lia)]at h2;rw[h1,h2]
   split<;>split<;>rfl
 unfold ent;rw[zHY ht hc i hi];by_cases h1:c=i
 ·subst h1;rw[if_pos rfl]
  by_cases hkc:c=k
  ·subst hkc;rw[if_pos rfl];exact hl
  ·rw[if_neg hkc]
   have:=hu t k ht (by lia)
   rw[if_neg (by lia)]at this;exact this
 ·rw[if_neg h1]
  by_cases h2:t=i
  ·subst h2;rw[if_pos rfl,e0 c (by lia)]
   by_cases hkc:k=c
   ·subst hkc;rw[if_pos rfl,if_neg (fun z=>h1 z.symm)]
   ·rw[if_neg hkc,if_neg (fun z=>hkc z.symm),if_neg (by lia)]
  ·rw[if_neg h2,e0 i hi]
   by_cases hkc:k=c
   ·subst hkc;rw[if_pos rfl,if_neg (fun z=>h1 z.symm)]
   ·rw[if_neg hkc]
theorem zD6(n:Nat)(f:Nat->Int):sumN (n+1) f=sumN n f+f n:=by
 unfold sumN;rw[qF8,qCx,List.sum_append];simp
theorem zCL{n:Nat}{f:Nat->Int}(h:∀k,k<n->f k=0):sumN n f=0:=by
 induction n with
 |zero=>rfl
 |succ n ih=>rw[zD6,ih fun k hk=>h k (by lia),h n (by lia)];rfl
theorem zE6{n:Nat}{f:Nat->Int}{j:Nat}(hj:j<n)(h:∀k,k<n->k≠j->f k=0):sumN n f=f j:=by
 induction n with
 |zero=>lia
 |succ n ih=>
  rw[zD6];by_cases z:j=n
  ·subst z;rw[zCL fun k hk=>h k (by lia) (by lia)];lia
  ·rw[ih (by lia) fun k hk=>h k (by lia),h n (by lia) (fun y=>z y.symm)];lia
theorem zP0{n:Nat}{f:Nat->Int}{i j:Nat}(hi:i<j)(hj:j<n)(h:∀k,k<n->k≠i->k≠j->f k=0):sumN n f=f i+f j:=by
 induction n with
 |zero=>lia
 |succ n ih=>
  rw[zD6];by_cases z:j=n
  ·subst z;rw[zE6 hi fun k hk hki=>h k (by lia) hki (by lia)]
  ·rw[ih (by lia) fun k hk=>h k (by lia),h n (by lia) (by lia) (fun y=>z y.symm)];lia
theorem zLL(n:Nat)(f:Nat->Int):sumN (n+1) f=f 0+sumN n fun k=>f (k+1):=by
 induction n with
 |zero=>simp[sumN]
 |succ n ih=>rw[zD6,ih,zD6];lia
theorem zD0:∀(r x:List Int)(m:Nat),x.length<=m->dot r x=sumN m fun k=>r.getD k 0*x.getD k 0
 |[],x,m,_=>by rw[zCL fun k _=>by simp];rfl
 |a::r,[],m,_=>by rw[zCL fun k _=>by simp];rfl
 |a::r,b::x,0,h=>by simp at h
 |a::r,b::x,m+1,h=>by
  rw[dot,zD0 r x m (by simpa using h),zLL];simp
theorem zG9:∀(r x:List Int)(p:Nat)(v:Int),p<x.length->dot r (x.set p v)=dot r x+r.getD p 0*(v-x.getD p 0)
 |[],x,p,v,_=>by simp[dot]
 |a::r,[],p,v,h=>by simp at h
 |a::r,b::x,0,v,_=>by
  simp[dot];rw[Int.mul_sub];lia
 |a::r,b::x,p+1,v,h=>by
  have:=zG9 r x p v (by simpa using h)
  simp[dot]at this ⊢;rw[this];lia
theorem zHV:∀(a b u v:List Int),a.length=u.length->dot (a++b) (u++v)=dot a u+dot b v
 |[],b,[],v,_=>by simp[dot]
 |[],b,_::_,v,h=>by simp at h
 |_::_,b,[],v,h=>by simp at h
 |a::r,b,c::u,v,h=>by
  have:=zHV r b u v (by simpa using h)
  simp[dot,this];lia
theorem zTN(r:List Int):dot r []=0:=by cases r<;>rfl
theorem zMM{n p:Nat}{x:List Int}{v:Int}(hx:RowN n x)(hv:Bit v):RowN n (x.set p v):=
 ⟨by simp[hx.1],fun y hy=>(qBg hy).elim (hx.2 y) fun z=>z▸hv⟩
theorem zEU{n k:Nat}{x:List Int}(hx:RowN n x):Bit (x.getD k 0):=by
 by_cases h:k<x.length
 ·exact hx.2 _ (zAV h)
 ·left;simp[qA0,qCn (by lia:x.length<=k)]
structure Rk(n:Nat)(T A:List (List Int))(p q:Nat):Prop where
 rows:∀r∈A,RowN n r
 zero:∀r∈A,∀k,k<p->r.getD k 0=0
 le:q<=p
 all:q=p->∀x,RowN n x->Ker T x->Ker A x/\((∀j,p<=j->x.getD j 0=0)->∀j,x.getD j 0=0)
 some:q<p->∃x,RowN n x/\Ker T x/\∃j,j<n/\x.getD j 0=1
 lift:∀x,RowN n x->Ker A x->∃y,RowN n y/\Ker T y/\∀j,p<=j->y.getD j 0=x.getD j 0
theorem Rk.start{n:Nat}{T:List (List Int)}(h:∀r∈T,RowN n r):Rk n T T 0 0:=
 ⟨h,fun _ _ k hk=>by lia,qA9 _,fun _ x _ hk=>⟨hk,fun hz j=>hz j (qAh _)⟩,fun z=>by lia,fun x hx hk=>⟨x,hx,hk,fun _ _=>rfl⟩⟩
theorem Rk.miss{n p q:Nat}{T A:List (List Int)}(a:Rk n T A p q)(hp:p<n)(h:∀r∈A,r.getD p 0≠1):Rk n T A (p+1) q:=by
 have h0:∀r∈A,r.getD p 0=0:=fun r hr=>(zEU (k:=p) (a.rows r hr)).elim (fun z=>z) fun z=>absurd z (h r hr)
 refine⟨a.rows,fun r hr k hk=>?_,by have:=a.le;lia,fun z=>by have:=a.le;lia,fun _=>?_,fun x hx hk=>?_⟩
 ·by_cases z:k=p
  ·subst z;exact h0 r hr
  ·exact a.zero r hr k (by lia)
 ·let x:List Int:=(qA7 n 0).set p 1
  have hx:RowN n x:=zMM ⟨by simp,fun y hy=>.inl (qDb hy)⟩ (.inr rfl);obtain⟨y,y1,y2,y3⟩:=a.lift x hx fun r hr=>by
   show dot r ((qA7 n 0).set p 1)%2=0;rw[zG9 r _ p 1 (by simp[hp]),h0 r hr,zD0 r (qA7 n 0) n (by simp),zCL fun k hk=>by simp[hk]];simp
  refine⟨y,y1,y2,p,hp,?_⟩;rw[y3 p (qA9 _)];show((qA7 n 0).set p 1).getD p 0=(1:Int);rw[zFH (by simp[hp]),if_pos rfl]
 ·obtain⟨y,y1,y2,y3⟩:=a.lift x hx hk;exact⟨y,y1,y2,fun j hj=>y3 j (by lia)⟩
def zGM(A:List (List Int))(p:Nat):List (List Int):=
 (A.filter fun r=>decide (r.getD p 0=0))++(((A.filter fun r=>decide (r.getD p 0=1)).drop 1).map fun r=>addB r ((A.filter fun r=>decide (r.getD p 0=1)).getD 0 []))
theorem Rk.hit{n p q:Nat}{T A:List (List Int)}(a:Rk n T A p q)(hp:p<n)(h:∃r∈A,r.getD p 0=1):Rk n T (zGM A p) (p+1) (q+1):=by
 obtain⟨s,l,hs⟩:∃s l,(A.filter fun r=>decide (r.getD p 0=1))=s::l:=by
  cases e:A.filter fun r=>decide (r.getD p 0=1)with
  |nil=>
   obtain⟨r,hr,h1⟩:=h;have:r∈A.filter fun r=>decide (r.getD p 0=1):=qAu.mpr ⟨hr,by simpa using h1⟩
   rw[e]at this;simp at this
  |cons s l=>exact⟨s,l,rfl⟩
 have hsl:∀r,r∈s::l->r∈A/\r.getD p 0=1:=fun r hr=>by
  rw[<- hs]at hr;have:=qAu.mp hr;exact⟨this.1,by simpa using this.2⟩
 have hn:zGM A p=(A.filter fun r=>decide (r.getD p 0=0))++l.map fun r=>addB r s:=by
  unfold zGM;rw[hs];rfl
 have hsA:=(hsl s (by simp)).1;have hs1:=(hsl s (by simp)).2;have hsr:=a.rows s hsA;have hmem:∀r,r∈zGM A p->(r∈A/\r.getD p 0=0)\/∃t∈l,r=addB t s:=fun r hr=>by
  rw[hn]at hr;rcases qB4.mp hr with hr|hr
  ·have:=qAu.mp hr
   exact .inl ⟨this.1,by simpa using this.2⟩
  ·obtain⟨t,ht,rfl⟩:=qAq.mp hr;exact .inr ⟨t,ht,rfl⟩
 refine⟨fun r hr=>?_,fun r hr k hk=>?_,by have:=a.le;lia,fun z x hx hT=>?_,fun z=>a.some (by lia),fun x hx hk=>?_⟩
 ·rcases hmem r hr with⟨h1,_⟩|⟨t,ht,rfl⟩
  ·exact a.rows r h1
  ·exact zLB (a.rows t (hsl t (by simp[ht])).1) hsr
 ·rcases hmem r hr with⟨h1,h2⟩|⟨t,ht,rfl⟩
  ·by_cases z:k=p
   ·subst z;exact h2
   ·exact a.zero r h1 k (by lia)
  ·have ht':=hsl t (by simp[ht]);have htr:=a.rows t ht'.1;rw[zEQ _ _ k (by rw[htr.1,hsr.1]) (by rw[htr.1];lia)]
   by_cases z:k=p
   ·subst z;rw[ht'.2,hs1];rfl
   ·rw[a.zero t ht'.1 k (by lia),a.zero s hsA k (by lia)];rfl
 ·obtain⟨kA,k2⟩:=a.all (by lia) x hx hT;refine⟨fun r hr=>?_,fun hz=>k2 fun j hj=>?_⟩
  ·rcases hmem r hr with⟨h1,_⟩|⟨t,ht,rfl⟩
   ·exact kA r h1
   ·have ht':=hsl t (by simp[ht]);have htr:=a.rows t ht'.1;have e1:=kA t ht'.1;have e2:=kA s hsA;rw[zGA _ _ x (by rw[htr.1,hsr.1]) hx.2]
    lia
  ·by_cases z:j=p
   ·subst z;have e2:=kA s hsA;rw[zD0 s x n (by rw[hx.1];exact qA9 _),zE6 hp fun k hk hkj=>?_,hs1]at e2
    ·have:=zEU (k:=j) hx
     rcases this with w|w
     ·exact w
     ·rw[w]at e2;simp at e2
    ·by_cases w:k<j
     ·rw[a.zero s hsA k w];simp
     ·rw[hz k (by lia)];simp
   ·exact hz j (by lia)
 ·
  let v:Int:=dot s (x.set p 0)%2
  have hv:Bit v:=zI1 _;have hy:RowN n (x.set p v):=zMM hx hv;have hpx:p<x.length:=by rw[hx.1];exact hp
  have free:∀r:List Int,r.getD p 0=0->dot r (x.set p v)=dot r x:=fun r hr=>by
   rw[zG9 r x p v hpx,hr];simp
  have es:dot s (x.set p v)%2=0:=by
   have g0:=zG9 s x p 0 hpx;have g1:=zG9 s x p v hpx;rw[hs1]at g0 g1;have:v=dot s (x.set p 0)%2:=rfl;lia
  have kA:Ker A (x.set p v):=fun r hr=>by
   by_cases h0:r.getD p 0=0
   ·rw[free r h0];refine hk r ?_;rw[hn];exact qC3 _ (qAu.mpr ⟨hr,by simpa using h0⟩)
   ·have h1:r.getD p 0=1:=(zEU (k:=p) (a.rows r hr)).elim (fun z=>absurd z h0) fun z=>z
    have hr2:r∈s::l:=by rw[<- hs];exact qAu.mpr ⟨hr,by simpa using h1⟩
    rcases qAj.mp hr2 with rfl|hr2
    ·exact es
    ·have htr:=a.rows r hr;have e1:dot (addB r s) x%2=0:=hk _ (by rw[hn];exact qAp _ (qAq.mpr ⟨r,hr2,rfl⟩));have e2:(addB r s).getD p 0=0:=by rw[zEQ _ _ p (by rw[htr.1,hsr.1]) (by rw[htr.1];exact hp),h1,hs1];rfl
     rw[<- free _ e2,zGA _ _ _ (by rw[htr.1,hsr.1]) hy.2]at e1
     lia
  obtain⟨y,y1,y2,y3⟩:=a.lift _ hy kA;refine⟨y,y1,y2,fun j hj=>?_⟩;rw[y3 j (by lia),zFH hpx,if_neg (by lia)]
theorem zCJ{r:Ro}{i n:Nat}{vs:List Nat}{e:EM}{d:Dt}{P:Ro->Prop}(h1:e (full r)=okR d)(h2:e (frz (frzAt vs r))=okR d)(p1:P (r.set i (some (d,n))))(p2:P ((frzAt vs r).set i (some (d,n)))):nxR (sSet i n vs e r) P:=by
 unfold sSet;rw[h1,zA0];split
 ·exact p1
 ·rw[h2,zA0];exact p2
theorem comp_filter{ρ:Rh}{c:TM}{e:EM}{i:Nat}{β:Type}(en:β->Dt)(g:β->Dt)(f:β->Bool)(ns:List β)(hi:i=ρ.length)(hc:∀k,k∈ns->c (ρ++[some (en k)])=okR (f k))(h:∀k,k∈ns->f k=true->e (ρ++[some (en k)])=okR (g k))(it:IM)(hit:it ρ=okR (ns.map en))(hn:ns.length<=100000):eComp it 1 (.one i) c e ρ=okR (.lst ((ns.filter f).map g)):=by
 subst hi;unfold eComp;rw[hit,zA0,if_pos ⟨by simpa using hn,by simp[Tg.idx]⟩];have go:∀(l:List β)(acc:List Dt),(∀k∈l,k∈ns)->compGo ρ 1 (.one ρ.length) c e (l.map en) acc=okR (acc++(l.filter f).map g):=by
  intro l;induction l with
  |nil=>intro acc _;simp[compGo]
  |cons a r ih=>
   intro acc hl;have h1:=hc a (hl a (by simp));have h2:=h a (hl a (by simp));have ih':=fun acc=>ih acc fun k hk=>hl k (by simp[hk])
   have es:zAK (ρ++qA7 1 none) [(ρ.length,en a)]=ρ++[some (en a)]:=by
    simp[zAK]
   rw[qAn,compGo];show zA3 (c (zAK (ρ++qA7 1 none) [(ρ.length,en a)])) _=_;rw[es,h1,zA0];cases hf:f a with
   |true=>
    rw[if_pos rfl];rw[h2 hf,zA0,ih',List.filter_cons_of_pos hf];simp
   |false=>
    rw[if_neg (by simp),ih',List.filter_cons_of_neg (by simp[hf])]
 rw[go _ _ fun k hk=>hk,zA0];simp
theorem zE8{n:Nat}{a:List Int}(h:a.length=n):a=(qA4 n).map fun j=>a.getD j 0:=by
 apply qC7
 ·simp[h]
 ·intro i h1 h2;simp[qA0,qA5 h1]
theorem zH4{n:Nat}{a b:List Int}(h:a.length=n)(h':b.length=n):addB a b=(qA4 n).map fun j=>(a.getD j 0+b.getD j 0)%2:=by
 rw[zE8 (n:=n) (a:=addB a b) (by rw[zI5 a b (by lia),h])];exact qAw fun j hj=>zEQ a b j (by lia) (by simp at hj;lia)
theorem zPY{n:Nat}{a b:List Int}(h:a.length=n)(h':b.length=n)(hn:n<=10):zAW [rowD a,rowD b]=okR (rowD (addB a b)):=by
 have:=zEF n (fun j=>a.getD j 0) (fun j=>b.getD j 0) hn
 rw[<- zE8 h,<- zE8 h',<- zH4 h h']at this;exact this
theorem addM(A B:List (List Int))(h:A.length+B.length<=100000):addD (mat A) (mat B)=some (mat (A++B)):=by
 show(@ite _ ((A.map rowD).length+(B.map rowD).length<=100000) (qA3 _) (some (Dt.lst (A.map rowD++B.map rowD))) none)=_;rw[if_pos (by simpa using h)];unfold mat;simp
theorem zIP(A:List (List Int))(p:Nat):(zGM A p).length<=A.length:=by
 unfold zGM;rw[qB0,qAl,qDk];have:(A.filter fun r=>decide (r.getD p 0=0)).length+(A.filter fun r=>decide (r.getD p 0=1)).length<=A.length:=by
  induction A with
  |nil=>simp
  |cons a r ih=>
   rw[qCp,qCp];by_cases h0:a.getD p 0=0
   ·have h1:¬a.getD p 0=1:=by lia
    simp only[h0,h1,decide_true,decide_false,if_true,qAv];simp[-qA0];lia
   ·by_cases h1:a.getD p 0=1
    ·simp only[h0,h1,decide_true,decide_false,if_true,qAv];simp[-qA0]
     lia
    ·simp only[h0,h1,decide_true,decide_false,qAv];simp[-qA0]
     lia
 lia
def RkS(n:Nat)(T:List (List Int))(k:Nat)(r:Ro):Prop:=∃A q l1 l2 o3 o4 o5,r=[some (mat T,0),some (mat A,l1),some (.int (q:Nat),l2),o3,o4,o5]/\Rk n T A k q/\A.length<=n/\l2<=1
theorem zPC(n:Nat)(T:List (List Int))(hT:T.length=n)(hr:∀r∈T,RowN n r)(hn:n<=10):∃q:Nat,zBD [mat T]=okR (.int (q:Int))/\∃A,Rk n T A n q:=by
 suffices h:∃q:Nat,zE4 [some (mat T,0),none,none,none,none,none]=okR (.rt (.int (q:Int)))/\∃A,Rk n T A n q by
  obtain⟨q,h1,h2⟩:=h;exact⟨q,zD3 rfl h1,h2⟩
 have hc:eComp (iSq (eV 0)) 1 (.one 6) Mi.tYes (eBi listD (aCons (eV 6) aNil)) [some (mat T),none,none,none,none,none]=okR (mat T):=
  zBG rowD rowD T rfl rfl (fun r _=>by simp) _ (by simp[mat]) (by lia)
 have hdT:=zD2 T
 suffices hl:∃q:Nat,∃A l1 l2 o3 o4 o5,Rk n T A n q/\l2<=1/\forGo (.one 3) (sSeq (sSet 4 1 [1,3] (eComp (iSq (eV 1)) 1 (.one 6) (tB (eB eqD (eB ixD (eV 6) (eV 3)) (eC (.int 1)))) (eV 6)))
 (sIf (tB (eB (cmpD fun i j=>decide (j<i)) (eBi lenD (aCons (eV 4) aNil)) (eC (.int 0)))) (sSeq (sSet 2 1 [2] (eB addD (eV 2) (eC (.int 1))))
 (sSeq (sSet 5 1 [1,3] (eComp (iSq (eV 1)) 1 (.one 6) (tB (eB eqD (eB ixD (eV 6) (eV 3)) (eC (.int 0)))) (eV 6)))
 (sSet 1 1 [5,4] (eB addD (eV 5) (eComp (iSq (eSl (eV 4) (oE (eC (.int 1))) oNo)) 1 (.one 6) Mi.tYes (eCall zAW (aCons (eV 6) (aCons (eB ixD (eV 4) (eC (.int 0))) aNil)))))))) sNil)) (nums 0 n) [some (mat T,0),some (mat T,2),some (.int 0,0),none,none,none]=okR (.nx [some (mat T,0),some (mat A,l1),some (.int (q:Int),l2),o3,o4,o5]) by
  obtain⟨q,A,l1,l2,o3,o4,o5,h1,h3,h2⟩:=hl;refine⟨q,?_,A,h1⟩;unfold zE4;refine zBV fun bb hb=>?_
  simp[hc,hdT];subst hb;refine zBV fun bb hb=>?_
  simp;subst hb;refine zBV fun bb hb=>?_
  simp only[zER];rw[zCU (n:=n) (by simp[hT]) (by lia),zA0,h2];subst hb;show sRetV 1 2 _=_;simp[sRetV]
  lia
 have body:∀k,k<n->∀r,RkS n T k r->nxR ((sSeq (sSet 4 1 [1,3] (eComp (iSq (eV 1)) 1 (.one 6) (tB (eB eqD (eB ixD (eV 6) (eV 3)) (eC (.int 1)))) (eV 6)))
 (sIf (tB (eB (cmpD fun i j=>decide (j<i)) (eBi lenD (aCons (eV 4) aNil)) (eC (.int 0)))) (sSeq (sSet 2 1 [2] (eB addD (eV 2) (eC (.int 1))))
 (sSeq (sSet 5 1 [1,3] (eComp (iSq (eV 1)) 1 (.one 6) (tB (eB eqD (eB ixD (eV 6) (eV 3)) (eC (.int 0)))) (eV 6)))
 (sSet 1 1 [5,4] (eB addD (eV 5) (eComp (iSq (eSl (eV 4) (oE (eC (.int 1))) oNo)) 1 (.one 6) Mi.tYes (eCall zAW (aCons (eV 6) (aCons (eB ixD (eV 4) (eC (.int 0))) aNil)))))))) sNil)) (r.set 3 (some (.int (k:Nat),0)))) (RkS n T (k+1)):=by
  rintro k hk r ⟨A,q,l1,l2,o3,o4,o5,rfl,ha,hlA,hl2⟩
  have hcf:∀(v:Int)(o0 o2 o4 o5:Option Dt),eComp (iSq (eV 1)) 1 (.one 6) (tB (eB eqD (eB ixD (eV 6) (eV 3)) (eC (.int v)))) (eV 6) [o0,some (mat A),o2,some (.int (k:Nat)),o4,o5]=okR (mat (A.filter fun r=>decide (r.getD k 0=v))):=by
   intro v o0 o2 o4 o5;refine comp_filter rowD rowD (fun r=>decide (r.getD k 0=v)) A rfl (fun r hr=>?_) (fun r hr _=>by simp) _ (by simp[mat]) (by lia);have i1:=zNM r k (by rw[(ha.rows r hr).1];exact hk);simp[i1]
  refine zKO fun bb hb=>?_
  have fin:∀l1 l2 o4 o5,l2<=1->nxR (sIf (tB (eB (cmpD fun i j=>decide (j<i)) (eBi lenD (aCons (eV 4) aNil)) (eC (.int 0)))) (sSeq (sSet 2 1 [2] (eB addD (eV 2) (eC (.int 1))))
 (sSeq (sSet 5 1 [1,3] (eComp (iSq (eV 1)) 1 (.one 6) (tB (eB eqD (eB ixD (eV 6) (eV 3)) (eC (.int 0)))) (eV 6)))
 (sSet 1 1 [5,4] (eB addD (eV 5) (eComp (iSq (eSl (eV 4) (oE (eC (.int 1))) oNo)) 1 (.one 6) Mi.tYes (eCall zAW (aCons (eV 6) (aCons (eB ixD (eV 4) (eC (.int 0))) aNil)))))))) sNil [some (mat T,0),some (mat A,l1),some (.int (q:Nat),l2),some (.int (k:Nat),0),some (mat (A.filter fun r=>decide (r.getD k 0=1)),o4),o5]) (RkS n T (k+1)):=by
   intro l1 l2 l4 o5 hl2;by_cases h:0<(A.filter fun r=>decide (r.getD k 0=1)).length
   ·have hex:∃r∈A,r.getD k 0=1:=by
     obtain⟨r,hr⟩:=List.exists_mem_of_length_pos h;have:=qAu.mp hr;exact⟨r,this.1,by simpa[-qA0]using this.2⟩
    rw[zI7,show tB (eB (cmpD fun i j=>decide (j<i)) (eBi lenD (aCons (eV 4) aNil)) (eC (.int 0))) (full [some (mat T,0),some (mat A,l1),some (.int (q:Nat),l2),some (.int (k:Nat),0),some (mat (A.filter fun r=>decide (r.getD k 0=1)),l4),o5])=okR true by simp[-qA0,h],zA0,if_pos rfl];refine zKO fun bb hb=>?_
    simp;subst hb;refine zKO fun bb hb=>?_
    have fin2:∀l1 l4,nxR (sSet 1 1 [5,4] (eB addD (eV 5) (eComp (iSq (eSl (eV 4) (oE (eC (.int 1))) oNo)) 1 (.one 6) Mi.tYes (eCall zAW (aCons (eV 6) (aCons (eB ixD (eV 4) (eC (.int 0))) aNil))))) [some (mat T,0),some (mat A,l1),some (.int ((q:Int)+1),1),some (.int (k:Nat),0),some (mat (A.filter fun r=>decide (r.getD k 0=1)),l4),some (mat (A.filter fun r=>decide (r.getD k 0=0)),1)]) (RkS n T (k+1)):=by
     intro l1 l4;have hlf:(A.filter fun r=>decide (r.getD k 0=1)).length<=A.length:=qBi _ _;have hlf0:(A.filter fun r=>decide (r.getD k 0=0)).length<=A.length:=qBi _ _;have e:∀(o0 o1 o2 o3:Option Dt),eB addD (eV 5) (eComp (iSq (eSl (eV 4) (oE (eC (.int 1))) oNo)) 1 (.one 6) Mi.tYes (eCall zAW (aCons (eV 6) (aCons (eB ixD (eV 4) (eC (.int 0))) aNil)))) [o0,o1,o2,o3,some (mat (A.filter fun r=>decide (r.getD k 0=1))),some (mat (A.filter fun r=>decide (r.getD k 0=0)))]=okR (mat (zGM A k)):=by
      intro o0 o1 o2 o3;have hcc:eComp (iSq (eSl (eV 4) (oE (eC (.int 1))) oNo)) 1 (.one 6) Mi.tYes (eCall zAW (aCons (eV 6) (aCons (eB ixD (eV 4) (eC (.int 0))) aNil))) [o0,o1,o2,o3,some (mat (A.filter fun r=>decide (r.getD k 0=1))),some (mat (A.filter fun r=>decide (r.getD k 0=0)))]=okR (mat (((A.filter fun r=>decide (r.getD k 0=1)).drop 1).map fun r=>addB r ((A.filter fun r=>decide (r.getD k 0=1)).getD 0 []))):=by
       have hin:∀r∈A.filter fun r=>decide (r.getD k 0=1),RowN n r:=fun r hr=>ha.rows r (qAu.mp hr).1
       have h0:=hin _ (zAV (d:=[]) h);have i0:=zNO (A.filter fun r=>decide (r.getD k 0=1)) 0 h;have hsl:slD (mat (A.filter fun r=>decide (r.getD k 0=1))) (some 1) none=some (mat ((A.filter fun r=>decide (r.getD k 0=1)).drop 1)):=by rw[zTP];exact congrArg (fun z=>some (mat z)) (zL5 _ 1)
       generalize(A.filter fun r=>decide (r.getD k 0=1))=S at *
       refine qF3 (zBG (i:=6) rowD (fun r=>rowD (addB r (S.getD 0 []))) (S.drop 1) rfl rfl (fun r hr=>?_) _ ?_ (by simp[-qA0];lia)) ?_
       rotate_left 2
       ·unfold mat;rw[qAs];rfl
       ·have h1:=hin r (qE2 hr);have i0':ixD (mat S) (.int 0)=some (rowD (S.getD 0 [])):=i0
        have:=zPY h1.1 h0.1 hn;simp[-qA0,i0',this]
       ·simp[hsl];show okR (S.tail.map rowD)=_;rw[List.map_tail]
      have:=addM (A.filter fun r=>decide (r.getD k 0=0)) (((A.filter fun r=>decide (r.getD k 0=1)).drop 1).map fun r=>addB r ((A.filter fun r=>decide (r.getD k 0=1)).getD 0 [])) (by simp[-qA0];lia)
      show zA3 (okR _) (fun x=>zA3 (eComp _ _ _ _ _ _) fun y=>optR (addD x y))=_;rw[hcc,zA0,zA0,this];rfl
     refine zCJ (d:=mat (zGM A k)) (e _ _ _ _) (by simp;exact e _ _ _ _) ?_ ?_
     ·exact⟨zGM A k,q+1,_,_,_,_,_,rfl,ha.hit hk hex,by have:=zIP A k;lia,qA9 _⟩
     ·exact⟨zGM A k,q+1,_,_,_,_,_,rfl,ha.hit hk hex,by have:=zIP A k;lia,qA9 _⟩
    refine zCJ (d:=mat (A.filter fun r=>decide (r.getD k 0=0))) ?_ ?_ ?_ ?_
    ·exact hcf 0 _ _ _ _
    ·simp;exact hcf 0 _ _ _ _
    ·subst hb;exact fin2 _ _
    ·subst hb;exact fin2 _ _
   ·have hex:∀r∈A,r.getD k 0≠1:=fun r hr h1=>h (List.length_pos_of_mem (qAu.mpr ⟨hr,by simpa[-qA0]using h1⟩))
    rw[zI7,show tB (eB (cmpD fun i j=>decide (j<i)) (eBi lenD (aCons (eV 4) aNil)) (eC (.int 0))) (full [some (mat T,0),some (mat A,l1),some (.int (q:Nat),l2),some (.int (k:Nat),0),some (mat (A.filter fun r=>decide (r.getD k 0=1)),l4),o5])=okR false by simp[-qA0,h],zA0,if_neg (by simp[-qA0])];exact⟨A,q,_,_,_,_,_,rfl,ha.miss hk hex,hlA,hl2⟩
  refine zCJ (d:=mat (A.filter fun r=>decide (r.getD k 0=1))) ?_ ?_ ?_ ?_
  ·exact hcf 1 _ _ _ _
  ·simp;exact hcf 1 _ _ _ _
  ·subst hb;exact fin _ _ _ _ hl2
  ·subst hb;exact fin _ _ _ _ hl2
 obtain⟨r',h1,A,q,l1,l2,o3,o4,o5,rfl,h2,h3,h4⟩:=zE2 (zNC (j:=3) (n:=n) (r:=[some (mat T,0),some (mat T,2),some (.int 0,0),none,none,none]) _ ⟨T,0,2,0,none,none,none,rfl,Rk.start hr,by lia,by lia⟩ body (X:=RkS n T n) fun r h=>h);exact⟨q,A,l1,l2,o3,o4,o5,h2,h4,h1⟩
noncomputable def zD5(n i:Nat):List Int:=(qA4 n).map fun j=>if j=i then 1 else 0
theorem zBM{n k:Nat}{g:Nat->Int}(h:k<n):((qA4 n).map g).getD k 0=g k:=by
 simp[qA0,h]
theorem zH5(n i:Nat):RowN n (zD5 n i):=⟨by simp[zD5],fun x hx=>by
 obtain⟨k,_,rfl⟩:=qAq.mp hx;show Bit (if _ then 1 else 0)
 split<;>simp[Bit]⟩
theorem zQG{n i:Nat}{v:List Int}(hi:i<n)(hv:v.length=n):dot (zD5 n i) v=v.getD i 0:=by
 rw[zD0 _ v n (by lia),zE6 hi fun k hk hki=>?_]
 ·rw[zD5,zBM hi,if_pos rfl];simp
 ·rw[zD5,zBM hk,if_neg hki];simp
def aug(n:Nat)(T:List (List Int)):List (List Int):=(qA4 n).map fun i=>T.getD i []++zD5 n i
theorem zTS{n:Nat}{T:List (List Int)}(hT:T.length=n)(hr:∀r∈T,RowN n r){u v:List Int}(hu:u.length=n)(hv:v.length=n):Ker (aug n T) (u++v)↔∀i,i<n->(dot (T.getD i []) u+v.getD i 0)%2=0:=by
 have key:∀i,i<n->dot (T.getD i []++zD5 n i) (u++v)=dot (T.getD i []) u+v.getD i 0:=fun i hi=>by
  rw[zHV _ _ _ _ (by rw[(hr _ (zAV (by lia))).1,hu]),zQG hi hv]
 constructor
 ·intro h i hi;rw[<- key i hi];exact h _ (qAq.mpr ⟨i,by simpa using hi,rfl⟩)
 ·intro h r hr;obtain⟨i,hi,rfl⟩:=qAq.mp hr;have hi':i<n:=by simpa using hi
  rw[key i hi'];exact h i hi'
theorem zQS{n:Nat}{T:List (List Int)}(hT:T.length=n)(hr:∀r∈T,RowN n r){u:List Int}(hu:u.length=n)(h:Ker (aug n T) u):Ker T u:=by
 intro r hrt;obtain⟨i,hi,rfl⟩:=zEE (d:=[]) hrt;have:=h _ (qAq.mpr ⟨i,by simp;lia,rfl⟩)
 rw[<- qBx u,zHV _ _ _ _ (by rw[(hr _ (zAV hi)).1,hu]),zTN]at this
 simpa using this
structure Un(n:Nat)(T A:List (List Int))(c:Nat):Prop where
 len:A.length=n
 rows:∀r∈A,RowN (n+n) r
 unit:zTU A c
 ker:∀x,(∀y∈x,Bit y)->(Ker A x↔Ker (aug n T) x)
theorem Un.none{n c:Nat}{T A:List (List Int)}(a:Un n T A c)(hT:T.length=n)(hr:∀r∈T,RowN n r)(hc:c<n)(h:∀t,c<=t->t<n->ent A t c≠1):∃x,RowN n x/\Ker T x/\∃j,j<n/\x.getD j 0=1:=by
 let x:List Int:=(qA4 n).map fun k=>if k<c then ent A k c else if k=c then 1 else 0
 have hx:∀k,k<n->x.getD k 0=if k<c then ent A k c else if k=c then 1 else 0:=fun k hk=>zBM hk
 have hl:=a.len;have hxr:RowN n x:=⟨by simp[x],fun y hy=>by
  obtain⟨k,hk,rfl⟩:=qAq.mp hy;have hk':k<n:=by simpa using hk
  show Bit (if k<c then ent A k c else if k=c then 1 else 0)
  split
  ·exact zG7 a.rows (by lia) (by lia)
  ·split<;>simp[Bit]⟩
 refine⟨x,hxr,zQS hT hr hxr.1 ((a.ker x hxr.2).mp fun r hrA=>?_),c,hc,by rw[hx c hc,if_neg (by lia),if_pos rfl]⟩;obtain⟨i,hi,rfl⟩:=zEE (d:=[]) hrA;rw[zD0 _ x n (by rw[hxr.1];exact qA9 _)]
 by_cases hic:i<c
 ·rw[zP0 hic hc fun k hk h1 h2=>?_]
  ·rw[hx i (by lia),if_pos hic,hx c hc,if_neg (by lia),if_pos rfl]
   have:=a.unit i i hi hic;rw[if_pos rfl]at this;show(ent A i i*ent A i c+ent A i c*1)%2=0;rw[this];lia
  ·rw[hx k hk]
   by_cases hkc:k<c
   ·have:=a.unit i k hi hkc
    rw[if_neg (fun z=>h1 z.symm)]at this;show ent A i k*_=0;rw[this];simp
   ·rw[if_neg hkc,if_neg h2];simp
 ·rw[zCL fun k hk=>?_]
  ·rfl
  ·rw[hx k hk]
   by_cases hkc:k<c
   ·have:=a.unit i k hi hkc
    rw[if_neg (by lia)]at this;show ent A i k*_=0;rw[this];simp
   ·rw[if_neg hkc]
    by_cases h2:k=c
    ·subst h2;have hb:=zG7 (k:=k) a.rows hi (by lia)
     have:ent A i k=0:=hb.elim (fun z=>z) fun z=>absurd z (h i (by lia) (by lia))
     show ent A i k*_=0;rw[this];simp
    ·rw[if_neg h2];simp
theorem Un.full{n:Nat}{T A:List (List Int)}(a:Un n T A n)(hT:T.length=n)(hr:∀r∈T,RowN n r){u v:List Int}(hu:RowN n u)(hv:RowN n v) :
  (∀i,i<n->(dot (T.getD i []) u+v.getD i 0)%2=0)↔∀i,i<n->(u.getD i 0+dot ((A.map (qEj n)).getD i []) v)%2=0:=by
 have hl:=a.len;rw[<- zTS hT hr hu.1 hv.1,<- a.ker (u++v) fun y hy=>(qB4.mp hy).elim (hu.2 y) (hv.2 y)];have key:∀i,i<n->dot (A.getD i []) (u++v)=u.getD i 0+dot ((A.map (qEj n)).getD i []) v:=fun i hi=>by
  have hrow:=a.rows _ (zAV (d:=[]) (i:=i) (by lia));rw[zHS (d:=[]) (by lia)]
  conv=>lhs;rw[<- List.take_append_drop n (A.getD i [])]
  rw[zHV _ _ _ _ (by rw[hu.1,qC5,hrow.1];lia)]
  congr 1;rw[zD0 _ u n (by rw[hu.1];exact qA9 _)];have e:∀k,k<n->((A.getD i []).take n).getD k 0=if i=k then 1 else 0:=fun k hk=>by
   have:=a.unit i k (by lia) hk
   unfold ent at this;rw[<- this];generalize A.getD i []=row;rw[qA0,qA0,qD8 hk]
  rw[zE6 hi fun k hk hki=>by rw[e k hk,if_neg (fun z=>hki z.symm)];simp,e i hi,if_pos rfl];simp
 constructor
 ·intro h i hi;rw[<- key i hi];exact h _ (zAV (by lia))
 ·intro h r hrA;obtain⟨i,hi,rfl⟩:=zEE (d:=[]) hrA;rw[key i (by lia)];exact h i (by lia)
theorem Un.start{n:Nat}{T:List (List Int)}(hT:T.length=n)(hr:∀r∈T,RowN n r):Un n T (aug n T) 0:=by
 refine⟨by simp[aug],fun r hrA=>?_,fun i k _ hk=>by lia,fun _ _=>Iff.rfl⟩;obtain⟨i,hi,rfl⟩:=qAq.mp hrA;have h1:=hr _ (zAV (d:=[]) (i:=i) (by rw[hT];simpa using hi));have h2:=zH5 n i;exact⟨by rw[qB0,h1.1,h2.1],fun x hx=>(qB4.mp hx).elim (h1.2 x) (h2.2 x)⟩
theorem Un.step{n c t:Nat}{T A:List (List Int)}(a:Un n T A c)(hc:c<n)(ht:c<=t)(htn:t<n)(h:ent A t c=1):Un n T (clr A c t) (c+1):=by
 have hl:=a.len;exact⟨by rw[zGD,a.len],zQN a.rows (by lia) ht,zQM a.rows (by lia) ht h (by lia) a.unit,fun x hx=>(zTR a.rows (by lia) ht x hx).trans (a.ker x hx)⟩
def eiR(x:R Out)(P:Ro->Prop)(Q:Dt->Prop):Prop:=(∃r,x=okR (.nx r)/\P r)\/∃d,x=okR (.rt d)/\Q d
theorem zG8{x:R Out}{P:Ro->Prop}{Q:Dt->Prop}(h:nxR x P):eiR x P Q:=.inl (zE2 h)
theorem zXE{j n:Nat}{b:SM}{r:Ro}(Pv:Nat->Ro->Prop)(Q:Dt->Prop)(h:Pv 0 r)(hs:∀k,k<n->∀r,Pv k r->eiR (b (r.set j (some (.int (k:Nat),0)))) (Pv (k+1)) Q):eiR (forGo (.one j) b (nums 0 n) r) (Pv n) Q:=by
 have go:∀(m k:Nat)(r:Ro),k+m=n->Pv k r->eiR (forGo (.one j) b ((qEb k m).map fun i:Nat=>Dt.int (i:Int)) r) (Pv n) Q:=by
  intro m;induction m with
  |zero=>intro k r hk hp;exact .inl ⟨r,rfl,by rw[<- hk];exact hp⟩
  |succ m ih=>
   intro k r hk hp;rw[qDr,qAn,forGo];show eiR (zA3 (b (r.set j (some (.int (k:Nat),0)))) _) _ _;rcases hs k (by lia) r hp with⟨r',e,h'⟩|⟨d,e,hq⟩
   ·rw[e,zA0];exact ih (k+1) r' (by lia) h'
   ·rw[e,zA0];exact .inr ⟨d,rfl,hq⟩
 rw[zED,qE3];exact go n 0 r (by lia) h
theorem zD7{a b:SM}{r:Ro}{P P':Ro->Prop}{Q:Dt->Prop}(h:eiR (a r) P Q)(hb:∀r',P r'->eiR (b r') P' Q):eiR (sSeq a b r) P' Q:=by
 unfold sSeq;rcases h with⟨r',e,h'⟩|⟨d,e,hq⟩
 ·rw[e,zA0];exact hb r' h'
 ·rw[e,zA0];exact .inr ⟨d,rfl,hq⟩
theorem zON{n:Nat}{a b:List Int}(h:RowN n a)(h':RowN n b)(hn:n<=1000):zFZ [rowD a,rowD b]=okR (rowD (addB a b)):=by
 rw[zH4 h.1 h'.1];unfold zFZ zOL;have hc:eComp (iR1 (aCons (eBi lenD (aCons (eV 0) aNil)) aNil)) 1 (.one 2) Mi.tYes (eB xorD (eB ixD (eV 0) (eV 2)) (eB ixD (eV 1) (eV 2))) [some (rowD a),some (rowD b)]=okR (rowD ((qA4 n).map fun j=>(a.getD j 0+b.getD j 0)%2)):=by
  refine zEO _ rfl (by lia) (zCU (by simp[-qA0,h.1]) (by lia)) fun j hj=>?_
  have i1:=zNM a j (by rw[h.1];exact hj);have i2:=zNM b j (by rw[h'.1];exact hj);simp[-qA0,i1,i2,zS2 (zEU (k:=j) h) (zEU (k:=j) h')]
 simp[hc]
theorem zMC(n i:Nat)(hn:n<=1000):zCO [.int (n:Int),.int (i:Int)]=okR (rowD (zD5 n i)):=by
 unfold zCO zH2;have hc:eComp (iR1 (aCons (eV 0) aNil)) 1 (.one 2) Mi.tYes (eIf (tB (eB eqD (eV 2) (eV 1))) (eC (.int 1)) (eC (.int 0))) [some (.int (n:Int)),some (.int (i:Int))]=okR (rowD (zD5 n i)):=by
  refine zEO _ rfl (by lia) (zCU (by simp) (by lia)) fun j hj=>?_
  by_cases h:j=i
  ·subst h;simp
  ·simp[h,show ¬(j:Int)=(i:Int) by lia]
 simp[hc]
theorem zJ2{A:List (List Int)}{c t m:Nat}(hm:∀r∈A,RowN m r)(ht:t<A.length)(hc:c<=t)(hcm:c<m)(hz:m<=1000)(hA:A.length<=1000):zDE [mat A,.int (c:Int),.int (t:Int)]=okR (mat (clr A c t)):=by
 have hlr:=hm _ (zAV (d:=[]) ht);have hcomp:∀o2 o4:Option Dt,eComp (iSq (eV 0)) 1 (.one 5) Mi.tYes (eIf (tB (eB eqD (eB ixD (eV 5) (eV 1)) (eC (.int 1)))) (eCall zFZ (aCons (eV 5) (aCons (eV 3) aNil))) (eV 5)) [some (mat A),some (.int (c:Int)),o2,some (rowD (A.getD t [])),o4]=okR (mat (oth A c (A.getD t []))):=by
  intro o2 o4;refine qF3 (zBG (i:=5) rowD (fun r=>rowD (if r.getD c 0=1 then addB r (A.getD t [])else r)) A rfl rfl (fun r hr=>?_) _ (by simp[mat]) (by lia)) ?_
  ·have h1:=hm r hr;have i1:=zNM r c (by rw[h1.1];exact hcm);have a1:=zON h1 hlr hz
   by_cases h:r.getD c 0=1
   ·rw[if_pos h];exact if1 (eqi (b2 rfl rfl i1) rfl (decide_eq_true h)) (c2 rfl rfl a1)
   ·rw[if_neg h];exact if0 (eqi (b2 rfl rfl i1) rfl (decide_eq_false h)) rfl
  ·unfold mat oth;rw[qAs];rfl
 have i0:=zNO A t ht;unfold zDE zJG;refine zD3 rfl (zBV fun bb hb=>?_);simp[startO,i0];subst hb;refine zBV fun bb hb=>?_
 have fin:∀l0 l1 l2 l3,bb [some (mat A,l0),some (.int (c:Int),l1),some (.int (t:Int),l2),some (rowD (A.getD t []),l3),some (mat (oth A c (A.getD t [])),1)]=okR (.rt (mat (clr A c t))):=by
  intro l0 l1 l2 l3;subst hb;have hol:=zFY A c (A.getD t []);have i1:itA ((oth A c (A.getD t [])).map rowD) (c:Int)=some (rowD ((oth A c (A.getD t [])).getD c [])):=zNO (oth A c (A.getD t [])) c (by lia);have q1:ixA (oth A c (A.getD t [])).length (t:Int)=some t:=by rw[zIV (by lia) (by lia)];simp
  refine zBV fun bb hb=>?_
  refine zCC (r:=[some (mat A,l0),some (.int (c:Int),l1),some (.int (t:Int),l2),some (rowD (A.getD t []),l3),some (mat ((oth A c (A.getD t [])).set t ((oth A c (A.getD t [])).getD c [])),1)]) ?_ ?_
  ·unfold sItemS;simp only[low,mat,qB9,qBa,qEk,qEl];simp[-qA0,i1,q1]
  subst hb;refine zBV fun bb hb=>?_
  have q2:ixA (oth A c (A.getD t [])).length (c:Int)=some c:=by rw[zIV (by lia) (by lia)];simp[-qA0]
  refine zCC (r:=[some (mat A,l0),some (.int (c:Int),l1),some (.int (t:Int),l2),some (rowD (A.getD t []),0),some (mat (clr A c t),1)]) ?_ ?_
  ·unfold sItemF;simp only[low,mat,qB9,qBa,qEk,qEl];simp[-qA0,q2,clr]
  subst hb;simp[sRetV]
 exact zCJ (hcomp _ _) (by simp;exact hcomp _ _) (fin _ _ _ _) (fin _ _ _ _)
def UnD(n:Nat)(T:List (List Int))(d:Dt):Prop:=
 (d=.non/\∃x,RowN n x/\Ker T x/\∃j,j<n/\x.getD j 0=1)\/∃R,d=mat R/\R.length=n/\(∀r∈R,RowN n r)/\∀u v,RowN n u->RowN n v->((∀i,i<n->(dot (T.getD i []) u+v.getD i 0)%2=0)↔∀i,i<n->(u.getD i 0+dot (R.getD i []) v)%2=0)
def UnS(n:Nat)(T:List (List Int))(c:Nat)(r:Ro):Prop:=∃A l0 l2 o3 o4,r=[some (mat T,l0),some (.int (n:Int),0),some (mat A,l2),o3,o4]/\Un n T A c
theorem zIB(n:Nat)(T:List (List Int))(hT:T.length=n)(hr:∀r∈T,RowN n r)(hn:n<=10):∃d,zDD [mat T]=okR d/\UnD n T d:=by
 suffices h:eiR (zGG [some (mat T,0),none,none,none,none]) (fun _=>False) (UnD n T) by
  rcases h with⟨_,_,z⟩|⟨d,h1,h2⟩
  ·exact z.elim
  ·exact⟨d,zD3 rfl h1,h2⟩
 have hlT:lenD [mat T]=some (.int (n:Int)):=by unfold mat;simp[hT]
 unfold zGG;refine zD7 (P:=fun r=>r=[some (mat T,0),some (.int (n:Int),0),none,none,none]) (zG8 (zCC (ss (bi1 rfl hlT) (qAh 0)) rfl)) ?_
 rintro r rfl
 refine zD7 (P:=UnS n T 0) (zG8 ?_) ?_
 ·have hc:∀o2 o3 o4:Option Dt,eComp (iR1 (aCons (eV 1) aNil)) 1 (.one 5) Mi.tYes (eB addD (eB ixD (eV 0) (eV 5)) (eCall zCO (aCons (eV 1) (aCons (eV 5) aNil)))) [some (mat T),some (.int (n:Int)),o2,o3,o4]=okR (mat (aug n T)):=by
   intro o2 o3 o4;refine qF3 (zCR (fun i=>rowD (T.getD i []++zD5 n i)) n rfl rfl (fun i hi=>?_) _ (zCU (al0 rfl) (by lia)) (by lia)) ?_
   ·have i0:=zNO T i (by lia);have u0:=zMC n i (by lia);have a0:=addR (T.getD i []) (zD5 n i) (by rw[(hr _ (zAV (by lia))).1,(zH5 n i).1];lia);exact b2 (b2 rfl rfl i0) (c2 rfl rfl u0) a0
   ·unfold mat aug;rw[qAs];rfl
  exact zCJ (hc _ _ _) (hc _ _ _) ⟨aug n T,_,_,_,_,rfl,Un.start hT hr⟩ ⟨aug n T,_,_,_,_,rfl,Un.start hT hr⟩
 intro r hr0;refine zD7 (P:=UnS n T n) ?_ ?_
 ·obtain⟨A,l0,l2,o3,o4,rfl,ha⟩:=hr0;rw[zER];rw[zCU (n:=n) (al0 rfl) (by lia),zA0];refine zXE (UnS n T) (UnD n T) ⟨A,l0,l2,o3,o4,rfl,ha⟩ ?_
  rintro c hc r ⟨A,l0,l2,o3,o4,rfl,ha⟩
  have hlA:=ha.len
  let ls:List Nat:=((qA4 (n-c)).map fun k=>c+k).filter fun t=>decide (ent A t c=1)
  have hls:∀o0 o4:Option Dt,eComp (iR2 (aCons (eV 3) (aCons (eV 1) aNil))) 1 (.one 5) (tB (eB eqD (eB ixD (eB ixD (eV 2) (eV 5)) (eV 3)) (eC (.int 1)))) (eV 5) [o0,some (.int (n:Int)),some (mat A),some (.int (c:Nat)),o4]=okR (.lst (ls.map fun t:Nat=>Dt.int (t:Int))):=by
   intro o0 o4;refine comp_filter (fun t:Nat=>Dt.int (t:Int)) _ (fun t=>decide (ent A t c=1)) ((qA4 (n-c)).map fun k=>c+k) rfl (fun t ht=>?_) (fun t ht _=>rfl) _ ?_ (by simp;lia)
   ·obtain⟨k,hk,rfl⟩:=qAq.mp ht;have hk':k<n-c:=by simpa using hk
    have i1:=zNO A (c+k) (by lia);have i2:=zNM (A.getD (c+k) []) c (by rw[(ha.rows _ (zAV (by lia))).1];lia);exact eqi (b2 (b2 rfl rfl i1) rfl i2) rfl rfl
   ·unfold iR2;simp;rw[if_pos (by lia)];unfold nums
    congr 2
  refine zD7 (P:=fun r=>∃l0 l2 o4,r=[some (mat T,l0),some (.int (n:Int),0),some (mat A,l2),some (.int (c:Nat),0),some (.lst (ls.map fun t:Nat=>Dt.int (t:Int)),o4)]) (zG8 ?_) ?_
  ·exact zCJ (hls _ _) (hls _ _) ⟨_,_,_,rfl⟩ ⟨_,_,_,rfl⟩
  rintro r ⟨l0,l2,l4,rfl⟩
  cases hlz:ls with
  |nil=>
   refine .inr ⟨.non,zR2 ?_,.inl ⟨rfl,ha.none hT hr hc fun t h1 h2 h3=>?_⟩⟩
   ·simp
   ·have:t∈ls:=qAu.mpr ⟨qAq.mpr ⟨t-c,by simp;lia,by lia⟩,by simpa using h3⟩
    rw[hlz]at this;simp at this
  |cons t l=>
   have ht:t∈ls:=by rw[hlz];simp
   obtain⟨g1,g2⟩:=qAu.mp ht;obtain⟨k,g3,rfl⟩:=qAq.mp g1;have g4:k<n-c:=by simpa using g3
   have g5:ent A (c+k) c=1:=by simpa using g2
   refine zD7 (P:=fun r=>r=[some (mat T,l0),some (.int (n:Int),0),some (mat A,l2),some (.int (c:Nat),0),some (.lst (((c+k)::l).map fun t:Nat=>Dt.int (t:Int)),l4)]) (zG8 (by simp)) ?_
   rintro r rfl
   clear hls;have i0:ixD (.lst (((c+k)::l).map fun t:Nat=>Dt.int (t:Int))) (.int 0)=some (.int ((c+k:Nat):Int)):=zG3 (i:=0) rfl (by simp);have cl:=zJ2 (A:=A) (c:=c) (t:=c+k) ha.rows (by lia) (by lia) (by lia) (by lia) (by lia)
   generalize Dt.lst (((c+k)::l).map fun t:Nat=>Dt.int (t:Int))=L at i0
   have he:∀o0 o1:Option Dt,eCall zDE (aCons (eV 2) (aCons (eV 3) (aCons (eB ixD (eV 4) (eC (.int 0))) aNil))) [o0,o1,some (mat A),some (.int (c:Nat)),some L]=okR (mat (clr A c (c+k))):=by
    intro o0 o1;exact c3 rfl rfl (b2 rfl rfl i0) cl
   exact zG8 (zCJ (he _ _) (c3 rfl rfl (b2 rfl rfl i0) cl) ⟨_,_,_,_,_,rfl,ha.step hc (by lia) (by lia) g5⟩ ⟨_,_,_,_,_,rfl,ha.step hc (by lia) (by lia) g5⟩)
 ·rintro r ⟨A,l0,l2,o3,o4,rfl,ha⟩
  have hlA:=ha.len;have hc:∀o0 o3 o4:Option Dt,eComp (iSq (eV 2)) 1 (.one 5) Mi.tYes (eSl (eV 5) (oE (eV 1)) oNo) [o0,some (.int (n:Int)),some (mat A),o3,o4]=okR (mat (A.map (qEj n))):=by
   intro o0 o3 o4;refine qF3 (zBG (i:=5) rowD (fun r=>rowD (r.drop n)) A rfl rfl (fun r hrA=>?_) _ (by simp[mat]) (by lia)) ?_
   ·exact sl1 rfl rfl (by rw[zOC,zL5])
   ·unfold mat;rw[qAs];rfl
  have hd:=zD2 (A.map (qEj n));refine .inr ⟨mat (A.map (qEj n)),?_,.inr ⟨_,rfl,by simp[hlA],fun r hrA=>?_,fun u v hu hv=>ha.full hT hr hu hv⟩⟩
  ·simp[hc,hd]
  ·obtain⟨q,hq,rfl⟩:=qAq.mp hrA;have h1:=ha.rows q hq;exact⟨by rw[qDk,h1.1];lia,fun x hx=>h1.2 x (qE2 hx)⟩
theorem zJ0{ρ:Rh}{e:EM}{i j:Nat}(xs:List Dt)(g:Nat->Dt)(hi:i=ρ.length)(hj:j=ρ.length+1)(it:IM)(hit:it ρ=okR (enumD 0 xs))(hn:xs.length<=100000)(h:∀k x,xs[k]?=some x->e (ρ++[some (.int (k:Nat)),some x])=okR (g k)):eComp it 2 (.tup [i,j]) tYes e ρ=okR (.lst ((qA4 xs.length).map g)):=by
 subst hi hj;unfold eComp;rw[hit,zA0,if_pos ⟨by rw[zL3];exact hn,by simp[Tg.idx]⟩];have go:∀(m k:Nat)(acc:List Dt),k+m=xs.length->compGo ρ 2 (.tup [ρ.length,ρ.length+1]) tYes e (enumD k (xs.drop k)) acc=okR (acc++(qEb k m).map g):=by
  intro m;induction m with
  |zero=>
   intro k acc hk;rw[List.drop_of_length_le (by lia)];simp[enumD,compGo]
  |succ m ih=>
   intro k acc hk;have hx:xs[k]?=some xs[k]:=qA5 (by lia);rw[qAy (by lia),enumD,compGo];have es:zAK (ρ++qA7 2 none) [(ρ.length,.int (k:Nat)),(ρ.length+1,xs[k])]=ρ++[some (.int (k:Nat)),some xs[k]]:=by
    simp[zAK]
   show zA3 (tYes (zAK (ρ++qA7 2 none) [(ρ.length,.int (k:Nat)),(ρ.length+1,xs[k])])) _=_;rw[es];show zA3 (okR true) _=_;rw[zA0,if_pos rfl];show zA3 (e (zAK (ρ++qA7 2 none) [(ρ.length,.int (k:Nat)),(ρ.length+1,xs[k])])) _=_;rw[es,h k _ hx,zA0,ih (k+1) _ (by lia),qDr];simp
 have:=go xs.length 0 [] (by lia)
 rw[qCk]at this;rw[this,zA0,qE3];simp
noncomputable def rowF(i j:Nat)(f:Nat->Nat->Int):Nat->Nat->Int:=fun a b=>if a=j then(f a b+f i b)%2 else f a b
noncomputable def colF(i j:Nat)(f:Nat->Nat->Int):Nat->Nat->Int:=fun a b=>if b=j then(f a j+f a i)%2 else f a b
theorem zS9{n j:Nat}{g:Nat->Int}{v:Int}(hj:j<n):(((qA4 n).map g).map Dt.int).set j (.int v)=((qA4 n).map fun b=>if b=j then v else g b).map Dt.int:=by
 apply qDa;intro y;rw[qCi];by_cases hy:j=y
 ·subst hy;simp[hj]
 ·rw[if_neg hy]
  by_cases h:y<n
  ·simp[h,show ¬y=j by lia]
  ·simp[h]
theorem zFR{ρ:Rh}{r:Nat}{e1 e2:EM}(f g:Nat->Dt):∀l:List Nat,(∀a∈l,rowSet ρ r e1 e2 (f a)=some (g a))->rowsSet ρ r e1 e2 (l.map f)=some (l.map g)
 |[],_=>rfl
 |a::l,h=>by
  rw[qAn,rowsSet,h a (by simp)];dsimp only;rw[zFR f g l fun b hb=>h b (by simp[hb])];rfl
theorem zMN{ρ:Rh}{r p:Nat}{e1 e2:EM}{ds:List Dt}{v z:Int}(h2:e2 (ρ.set r (some (.lst ds)))=okR (.int v))(h1:e1 (ρ.set r (some (.lst ds)))=okR (.int z))(hp:ixA ds.length z=some p):rowSet ρ r e1 e2 (.lst ds)=some (.lst (ds.set p (.int v))):=by
 unfold rowSet;dsimp only;rw[h2,h1];show(match ixA ds.length z with|some p=>some (Dt.lst (ds.set p (.int v)))|none=>none)=_
 rw[hp]
theorem zLX(n:Nat)(f:Nat->Nat->Int)(c:Int)(h1:1<n)(hn:n<=10):∃i j,i<n/\j<n/\i≠j/\zBZ [mat (tab n f),.int c]=okR (mat (tab n (colF i j (rowF i j f)))):=by
 have hnp:(0:Int)<(n:Int):=by lia
 have hn1:(0:Int)<(n:Int)-1:=by lia
 obtain⟨i,hi⟩:∃i:Nat,c%(n:Int)=(i:Int):=⟨(c%(n:Int)).toNat,by have:=qC1 c (show(n:Int)≠0 by lia);lia⟩
 have hin:i<n:=by have:=qBw c hnp;lia
 obtain⟨m,hm⟩:∃m:Nat,c/(n:Int)%((n:Int)-1)=(m:Int):=⟨(c/(n:Int)%((n:Int)-1)).toNat,by have:=qC1 (c/(n:Int)) (show(n:Int)-1≠0 by lia);lia⟩
 have hmn:(m:Int)<(n:Int)-1:=by have:=qBw (c/(n:Int)) hn1;lia
 obtain⟨j,hj⟩:∃j:Nat,((i:Int)+1+(m:Int))%(n:Int)=(j:Int):=⟨(((i:Int)+1+(m:Int))%(n:Int)).toNat,by have:=qC1 ((i:Int)+1+(m:Int)) (show(n:Int)≠0 by lia);lia⟩
 have hjn:j<n:=by have:=qBw ((i:Int)+1+(m:Int)) hnp;lia
 have hij:i≠j:=by
  intro z;subst z;have e:=Int.mul_ediv_add_emod ((i:Int)+1+(m:Int)) (n:Int);rw[hj]at e;generalize hq:((i:Int)+1+(m:Int))/(n:Int)=q at e;have h2:(n:Int)*q=1+m:=by lia
  have h3:0<q:=by
   by_cases h:0<q
   ·exact h
   ·have:=qFq (show(0:Int)<=(n:Int) by lia) (show 0<=-q by lia)
    rw[Int.mul_neg]at this;lia
  have h4:(n:Int)*1<=(n:Int)*q:=Int.mul_le_mul_of_nonneg_left (by lia) (by lia)
  lia
 refine⟨i,j,hin,hjn,hij,?_⟩;unfold zBZ zDH;refine zD3 rfl (zBV fun bb hb=>?_);simp[startO,zC6];subst hb;refine zBV fun bb hb=>?_
 simp[show 0<n by lia,hi];subst hb;refine zBV fun bb hb=>?_
 have d1:divD (.int c) (.int (n:Int))=some (.int (c/(n:Int))):=by simp[hnp,show(n:Int)<1000000000000000000000000 by lia];lia
 have d2:modD (.int (c/(n:Int))) (.int ((n:Int)-1))=some (.int (m:Int)):=by simp[hn1,hm];lia
 have d3:modD (.int ((i:Int)+1+(m:Int))) (.int (n:Int))=some (.int (j:Int)):=by simp[show 0<n by lia,hj]
 simp only[zI6,x_eB,x_eV,x_eC,zJM,zLE,qB9,qBa,qCc,qD1,zA0];simp only[d1,d2,zA5,zA0,zWM,zWN,d3];simp;subst hb;refine zBV fun bb hb=>?_
 have hc:eComp (iEn (aCons (eV 0) aNil)) 2 (.tup [6,7]) Mi.tYes (eIf (tB (eB eqD (eV 6) (eV 4))) (eCall zAW (aCons (eV 7) (aCons (eB ixD (eV 0) (eV 3)) aNil))) (eBi listD (aCons (eV 7) aNil))) [some (mat (tab n f)),some (.int c),some (.int (n:Int)),some (.int (i:Int)),some (.int (j:Int)),none]=okR (mat (tab n (rowF i j f))):=by
  refine qF3 (zJ0 ((tab n f).map rowD) (fun a=>rowD ((qA4 n).map fun b=>rowF i j f a b)) rfl rfl _ (by simp[mat]) (by simp[zC6];lia) fun k x hx=>?_) ?_
  ·have hk:k<n:=by have:=(qA2.mp hx).1;simpa[zC6]using this
   rw[qAc,zDX hk]at hx;cases hx;have i0:=ixM (f:=f) hin;have a0:=zEF n (fun b=>f k b) (fun b=>f i b) hn
   by_cases h:k=j
   ·subst h;simp[i0,a0,rowF]
   ·simp[h,show ¬(k:Int)=(j:Int) by lia,rowF]
  ·rw[qAl,zC6];unfold mat tab;rw[qAs];rfl
 have hd:=zD2 (tab n (rowF i j f));rw[zI6];show nxR (zA3 (eComp _ _ _ _ _ [some (mat (tab n f)),some (.int c),some (.int (n:Int)),some (.int (i:Int)),some (.int (j:Int)),none]) _) _;rw[hc,zA0,if_pos hd];subst hb;show sSeq _ _ [some (mat (tab n (rowF i j f)),2),some (.int c,0),some (.int (n:Int),0),some (.int (i:Int),0),some (.int (j:Int),0),none]=_;refine zBV fun bb hb=>?_
 refine zCC (r:=[some (mat (tab n (colF i j (rowF i j f))),2),some (.int c,0),some (.int (n:Int),0),some (.int (i:Int),0),some (.int (j:Int),0),none]) ?_ ?_
 ·generalize rowF i j f=g
  have hrs:=zFR (ρ:=[none,some (.int c),some (.int (n:Int)),some (.int (i:Int)),some (.int (j:Int)),none]) (r:=5) (e1:=eV 4) (e2:=eB modD (eB addD (eB ixD (eV 5) (eV 4)) (eB ixD (eV 5) (eV 3))) (eC (.int 2))) (fun a=>rowD ((qA4 n).map fun b=>g a b)) (fun a=>rowD ((qA4 n).map fun b=>colF i j g a b)) (qA4 n) fun a _=>by
   have i1:=ixR (g:=fun b=>g a b) hjn;have i2:=ixR (g:=fun b=>g a b) hin;have hr:rowD ((qA4 n).map fun b=>g a b)=.lst (((qA4 n).map fun b=>g a b).map Dt.int):=rfl;have e2:eB modD (eB addD (eB ixD (eV 5) (eV 4)) (eB ixD (eV 5) (eV 3))) (eC (.int 2)) [none,some (.int c),some (.int (n:Int)),some (.int (i:Int)),some (.int (j:Int)),some (rowD ((qA4 n).map fun b=>g a b))]=okR (.int ((g a j+g a i)%2)):=by
    simp[i1,i2]
   have q1:ixA (((qA4 n).map fun b=>g a b).map Dt.int).length (j:Int)=some j:=by rw[zIV (by lia) (by simp;lia)];simp
   have:=zMN (ρ:=[none,some (.int c),some (.int (n:Int)),some (.int (i:Int)),some (.int (j:Int)),none]) (r:=5) (e1:=eV 4) (ds:=((qA4 n).map fun b=>g a b).map Dt.int) (z:=(j:Int)) e2 (by simp) q1
   rw[zS9 hjn]at this;exact this
  unfold sForSet;show(match rowsSet [none,some (.int c),some (.int (n:Int)),some (.int (i:Int)),some (.int (j:Int)),none] 5 (eV 4) (eB modD (eB addD (eB ixD (eV 5) (eV 4)) (eB ixD (eV 5) (eV 3))) (eC (.int 2))) ((tab n g).map rowD)with|some rs'=>_|none=>_)=_
  have ht:((tab n g).map rowD)=(qA4 n).map fun a=>rowD ((qA4 n).map fun b=>g a b):=by unfold tab;rw[qAs];rfl
  have ht2:mat (tab n (colF i j g))=.lst ((qA4 n).map fun a=>rowD ((qA4 n).map fun b=>colF i j g a b)):=by unfold mat tab;rw[qAs];rfl
  rw[ht,hrs];simp[ht2]
 subst hb;simp[sRetV]
theorem zEL{n:Nat}{g:Nat->Int}{x:List Int}(hx:x.length=n):dot ((qA4 n).map g) x=sumN n fun k=>g k*x.getD k 0:=by
 rw[zD0 _ x n (by lia)];unfold sumN
 congr 1;refine qAw fun k hk=>?_
 rw[zBM (by simpa using hk)]
def NS(n:Nat)(f:Nat->Nat->Int):Prop:=∀x,RowN n x->(∀a,a<n->sumN n (fun b=>f a b*x.getD b 0)%2=0)->∀j,x.getD j 0=0
theorem zLM{n:Nat}{f g:Nat->Int}(h:∀k,k<n->f k=g k):sumN n f=sumN n g:=by
 unfold sumN;congr 1;exact qAw fun k hk=>h k (by simpa using hk)
theorem zPS{n i j:Nat}{f:Nat->Nat->Int}(hb:Bits n f)(hi:i<n):Bits n (colF i j (rowF i j f)):=by
 have hr:Bits n (rowF i j f):=fun a b ha hb'=>by
  unfold rowF;split
  ·exact zI1 _
  ·exact hb a b ha hb'
 intro a b ha hb';unfold colF;split
 ·exact zI1 _
 ·exact hr a b ha hb'
theorem zT5{n i j:Nat}{f:Nat->Nat->Int}(hs:Sym n f)(hi:i<n)(hj:j<n)(hij:i≠j):Sym n (colF i j (rowF i j f)):=by
 intro a b ha hb;unfold colF rowF;by_cases h1:a=j
 ·by_cases h2:b=j
  ·rw[h1,h2]
  ·subst h1;simp[h2,hij];rw[hs a b ha hb,hs i b hi hb]
 ·by_cases h2:b=j
  ·subst h2;simp[h1,hij];rw[hs a b ha hb,hs a i ha hi]
  ·simp[h1,h2];exact hs a b ha hb
noncomputable def put1(p q:Nat)(f:Nat->Nat->Int):Nat->Nat->Int:=fun x y=>if x=p/\y=q then 1 else f x y
noncomputable def allv:Nat->List (List Int)
 |0=>[[]]
 |n+1=>(allv n).map (qGj 0)++(allv n).map (qGj 1)
noncomputable def cnt(n:Nat)(P:List Int->Prop):Nat:=by
 classical exact((allv n).filter fun x=>decide (P x)).length
def Ev(n:Nat)(g:Nat->Int)(x:List Int):Prop:=sumN n (fun k=>g k*x.getD k 0)%2=0
section
variable{n i j:Nat}{f:Nat->Nat->Int}(hb:Bits n f)(hi:i<n)(hj:j<n)(hij:i≠j)
include hi in
include hi hij in
include hb hi hj hij in
include hb hi hj hij in
end
noncomputable def zT3(i:Nat)(r:Ro):Nat:=match r[i]? with
 |some (some (.int z,_))=>z.toNat
 |_=>0
noncomputable def zTO(i j:Nat):Int:=if i=j then 1 else 0
theorem zP6{n:Nat}{R:List (List Int)}(h:R.length=n)(hr:∀r∈R,RowN n r):R=tab n (ent R):=by
 apply qC7
 ·simp[h,tab]
 ·intro i h1 h2;have e1:R[i]=R.getD i []:=by simp[qA0,qA5 h1]
  have e2:=hr R[i] (qCr h1);rw[e1]at e2 ⊢;rw[zE8 e2.1];simp[tab,ent]
theorem zH6{n i:Nat}{f:Nat->Nat->Int}(h:i<n):(tab n f).getD i []=(qA4 n).map fun j=>f i j:=by
 rw[qA0,zDX h];rfl
theorem zTD{n:Nat}{f:Nat->Nat->Int}{x:List Int}(hx:x.length=n):Ker (tab n f) x↔∀a,a<n->sumN n (fun b=>f a b*x.getD b 0)%2=0:=by
 constructor
 ·intro h a ha
  have:=h _ (zAV (d:=[]) (i:=a) (by rw[zC6];exact ha))
  rw[zH6 ha,zEL hx]at this;exact this
 ·intro h r hr;obtain⟨i,hi,rfl⟩:=zEE (d:=[]) hr;rw[zC6]at hi;rw[zH6 hi,zEL hx];exact h i hi
theorem zO5{n j:Nat}{r:List Int}(hj:j<n):dot r (zD5 n j)=r.getD j 0:=by
 rw[zD0 _ _ n (by simp[zD5]),zE6 hj fun k hk hkj=>?_]
 ·rw[zD5,zBM hj,if_pos rfl];simp
 ·rw[zD5,zBM hk,if_neg hkj];simp
theorem zOW{n:Nat}{f:Nat->Nat->Int}{R:List (List Int)}(hb:Bits n f)(hl:R.length=n)(hr:∀r∈R,RowN n r)(h:∀u v,RowN n u->RowN n v->((∀i,i<n->(dot ((tab n f).getD i []) u+v.getD i 0)%2=0)↔∀i,i<n->(u.getD i 0+dot (R.getD i []) v)%2=0)) :
  ∀i j,i<n->j<n->prod n f (ent R) i j=zTO i j:=by
 intro i j hi hj
 let u:List Int:=(qA4 n).map fun k=>ent R k j
 have hu:RowN n u:=⟨by simp[u],fun x hx=>by
  obtain⟨k,hk,rfl⟩:=qAq.mp hx;exact zG7 hr (by rw[hl];simpa using hk) hj⟩
 have gu:∀k,k<n->u.getD k 0=ent R k j:=fun k hk=>zBM hk
 have:=(h u (zD5 n j) hu (zH5 n j)).mpr (fun k hk=>by
  rw[gu k hk,zO5 hj];show(ent R k j+ent R k j)%2=0;lia) i hi
 rw[zH6 hi,zEL hu.1,zD5,zBM hi]at this;unfold prod zTO;rw[zLM (g:=fun k=>f i k*u.getD k 0) fun k hk=>by rw[gu k hk]]
 by_cases hij:i=j
 ·rw[if_pos hij]at this ⊢;lia
 ·rw[if_neg hij]at this ⊢;lia
theorem zU5{n:Nat}{f:Nat->Nat->Int}{R:List (List Int)}(h:∀u v,RowN n u->RowN n v->((∀i,i<n->(dot ((tab n f).getD i []) u+v.getD i 0)%2=0)↔∀i,i<n->(u.getD i 0+dot (R.getD i []) v)%2=0)):NS n f:=by
 intro x hx hk j;have hz:RowN n (qA7 n 0):=⟨by simp,fun y hy=>.inl (qDb hy)⟩
 have gz:∀k,(qA7 n (0:Int)).getD k 0=0:=fun k=>by
  rw[qA0,qB2];split<;>rfl
 by_cases hj:j<n
 ·have:=(h x (qA7 n 0) hx hz).mp (fun i hi=>by
   rw[zH6 hi,zEL hx.1,gz];have:=hk i hi;lia) j hj
  rw[zD0 _ (qA7 n 0) n (by simp),zCL fun k _=>by rw[gz];simp]at this
  rcases zEU (k:=j) hx with w|w
  ·exact w
  ·rw[w]at this;simp at this
 ·simp[qA0,qCn (show x.length<=j by rw[hx.1];lia)]
theorem zOV(n:Nat)(f:Nat->Nat->Int)(hn:n<=10)(hb:Bits n f):∃q:Nat,zBD [mat (tab n f)]=okR (.int (q:Int))/\q<=n/\((q<n/\zDD [mat (tab n f)]=okR .non)\/(q=n/\∃g,Bits n g/\NS n f/\(∀i j,i<n->j<n->prod n f g i j=zTO i j)/\zDD [mat (tab n f)]=okR (mat (tab n g)))):=by
 have hT:=zC6 n f;have hr:=zOZ hb;obtain⟨q,r1,A,r2⟩:=zPC n (tab n f) hT hr hn;obtain⟨d,u1,u2⟩:=zIB n (tab n f) hT hr hn;refine⟨q,r1,r2.le,?_⟩;rcases u2 with⟨rfl,x,x1,x2,j,x3,x4⟩|⟨R,rfl,g1,g2,g3⟩
 ·left
  refine⟨?_,u1⟩;rcases qG9 q n with h|h
  ·exact h
  ·have:=(r2.all (qFb r2.le h) x x1 x2).2 (fun k hk=>by
    simp[qA0,qCn (show x.length<=k by rw[x1.1];lia)]) j
   rw[x4]at this;simp at this
 ·right
  have hns:=zU5 g3;refine⟨?_,ent R,?_,hns,zOW hb g1 g2 g3,?_⟩
  ·rcases qG9 q n with h|h
   ·obtain⟨x,x1,x2,j,x3,x4⟩:=r2.some h
    have:=hns x x1 ((zTD x1.1).mp x2) j;rw[x4]at this;simp at this
   ·exact qFb r2.le h
  ·intro i j hi hj;exact zG7 g2 (by rw[g1];exact hi) hj
  ·rw[<- zP6 g1 g2];exact u1
noncomputable def fst1:List Int->Nat
 |[]=>0
 |a::r=>if a=1 then 0 else fst1 r+1
section
variable{n:Nat}
def Lds(ls:List (List Int)):Prop:=ls.Pairwise fun l s=>s.getD (fst1 l) 0=0
end
noncomputable def putv(i j:Nat)(v:Int)(f:Nat->Nat->Int):Nat->Nat->Int:=fun x y=>if x=j/\y=i then v else if x=i/\y=j then v else f x y
theorem zMV{n i j:Nat}{v:Int}{f:Nat->Nat->Int}(h:Bits n f)(hv:Bit v):Bits n (putv i j v f):=fun x y hx hy=>by
 unfold putv;split
 ·exact hv
 ·split
  ·exact hv
  ·exact h x y hx hy
theorem zPE{n i j:Nat}{v:Int}{f:Nat->Nat->Int}(h:Sym n f):Sym n (putv i j v f):=fun x y hx hy=>by
 unfold putv;rw[h x y hx hy];by_cases h1:x=j/\y=i
 ·rw[if_pos h1]
  by_cases h2:y=j/\x=i
  ·rw[if_pos h2]
  ·rw[if_neg h2,if_pos ⟨h1.2,h1.1⟩]
 ·rw[if_neg h1]
  by_cases h2:x=i/\y=j
  ·rw[if_pos h2,if_pos ⟨h2.2,h2.1⟩]
  ·rw[if_neg h2,if_neg fun z=>h2 ⟨z.2,z.1⟩,if_neg fun z=>h1 ⟨z.2,z.1⟩]
theorem zLF(ks:List Nat)(hz:ks.length<=1000):zCY [rowD (numL ks)]=okR (.bl true):=by
 unfold zCY zGH;have hw:=zF7;have hc:eComp (iSq (eV 0)) 1 (.one 1) Mi.tYes (eCall zB8 (aCons (eV 1) aNil)) [some (rowD (numL ks))]=okR (.lst (ks.map fun _=>Dt.bl true)):=by
  refine zBG (fun k:Nat=>Dt.int (k:Int)) _ ks rfl rfl (fun k _=>by simp[hw]) _ (by rw[numD];simp) (by lia)
 have hb:=zH1 ks;simp[startO,hc,hb]
def Rise(n:Nat)(ks:List Nat):Prop:=ks=(qA4 n).filter fun i=>decide (i∈ks)
theorem zMP:∀{a b:List Nat},a.Pairwise (· < ·)->b.Pairwise (· < ·)->(∀x,x∈a↔x∈b)->a=b
 |[],[],_,_,_=>rfl
 |[],y::b,_,_,h=>by have:=(h y).mpr (by simp);simp at this
 |x::a,[],_,_,h=>by have:=(h x).mp (by simp);simp at this
 |x::a,y::b,ha,hb,h=>by
  obtain⟨a1,a2⟩:=qEm.mp ha;obtain⟨b1,b2⟩:=qEm.mp hb;have hxy:x=y:=by
   have h1:=(h x).mp (by simp);have h2:=(h y).mpr (by simp)
   rcases qAj.mp h1 with z|z
   ·exact z
   ·rcases qAj.mp h2 with w|w
    ·exact w.symm
    ·have:=b1 x z;have:=a1 y w;lia
  subst hxy;congr 1;refine zMP a2 b2 fun z=>⟨fun hz=>?_,fun hz=>?_⟩
  ·rcases qAj.mp ((h z).mp (qAr _ hz))with e|e
   ·have:=a1 z hz;lia
   ·exact e
  ·rcases qAj.mp ((h z).mpr (qAr _ hz))with e|e
   ·have:=b1 z hz;lia
   ·exact e
theorem zSE{n:Nat}{ks:List Nat}(h1:ks.Pairwise (· < ·))(h2:∀k∈ks,k<n):Rise n ks:=by
 refine zMP h1 (qGa _ List.pairwise_lt_range) fun x=>?_
 simp only[qAu,qBq,decide_eq_true_eq];exact⟨fun h=>⟨h2 x h,h⟩,fun h=>h.2⟩
theorem Rise.lt{n:Nat}{ks:List Nat}(h:Rise n ks):∀k∈ks,k<n:=fun k hk=>by
 rw[h]at hk;simpa using(qAu.mp hk).1
theorem Rise.le{n:Nat}{ks:List Nat}(h:Rise n ks):ks.length<=n:=by
 rw[h];exact qAi (qBi _ _) (by simp)
theorem zQ5(i:Nat)(ks:List Nat):hasD (.int (i:Int)) ((numL ks).map Dt.int)=some (decide (i∈ks)):=by
 rw[hasD,if_pos ⟨rfl,zEM _⟩];congr 1;unfold numL;rw[qAs];induction ks with
 |nil=>rfl
 |cons k r ih=>
  rw[qAn,qCs,ih];by_cases h:i=k
  ·subst h;simp
  ·simp[h,show ¬(k:Int)=(i:Int) by lia]
theorem zTJ(i:Nat)(ks:List Nat):inD false (.int (i:Int)) (rowD (numL ks))=some (.bl (decide (i∈ks))):=by
 show(hasD (.int (i:Int)) ((numL ks).map Dt.int)).map _=_;rw[zQ5];rfl
theorem zP4(n:Nat)(f:Nat->Nat->Int)(ks:List Nat)(hn:n<=10)(hr:Rise n ks):zFF [mat (tab n f),rowD (numL ks)]=okR (.bl true):=by
 have hz:ks.length<=n:=hr.le;have hw:=zLF ks (by lia);have hc:eComp (iR1 (aCons (eBi lenD (aCons (eV 0) aNil)) aNil)) 1 (.one 2) (tB (eB (inD false) (eV 2) (eV 1))) (eV 2) [some (mat (tab n f)),some (rowD (numL ks))]=okR (rowD (numL ks)):=by
  have:=comp_filter (ρ:=[some (mat (tab n f)),some (rowD (numL ks))]) (c:=tB (eB (inD false) (eV 2) (eV 1))) (e:=eV 2) (i:=2) (fun k:Nat=>Dt.int (k:Int)) (fun k:Nat=>Dt.int (k:Int)) (fun i=>decide (i∈ks)) (qA4 n) rfl (fun i hi=>by simp[zTJ]) (fun i _ _=>by simp) (iR1 (aCons (eBi lenD (aCons (eV 0) aNil)) aNil)) (by rw[zCU (n:=n) (by simp[zC6]) (by lia),zED]) (by simp;lia)
  rw[this,numD];have hr':ks=(qA4 n).filter fun i=>decide (i∈ks):=hr
  rw[<- hr']
 unfold zFF zL9;have he:=zVW (numL ks) (numL ks);simp[startO,hw,hc,he]
noncomputable def ind(n:Nat)(w:List Nat):List Int:=(qA4 n).map fun k=>if k∈w then 1 else 0
section
variable{n:Nat}{f:Nat->Nat->Int}{ks:List Nat}
end
section
variable{m:Nat}{M g:Nat->Nat->Int}
end
noncomputable def oths(n:Nat)(ks:List Nat):List Nat:=(qA4 n).filter fun i=>!decide (i∈ks)
section
variable{n:Nat}{f:Nat->Nat->Int}{P:List Int}{B N:List (List Int)}{ks:List Nat}{g:Nat->Nat->Int}{W:Nat->List Nat}
end
theorem zPO{n p:Nat}{f:Nat->Nat->Int}(h:Bits n f):Bits n (put1 p p f):=fun x y hx hy=>by
 unfold put1;split
 ·exact .inr rfl
 ·exact h x y hx hy
theorem zSY{n p:Nat}{f:Nat->Nat->Int}(h:Sym n f):Sym n (put1 p p f):=fun x y hx hy=>by
 unfold put1;rw[h x y hx hy];by_cases a:x=p<;>by_cases b:y=p<;>simp[a,b]
theorem modM{M:Int}(hM:0<=M/\M<=9)(x:Int):∃n:Nat,x%(M+1)=(n:Int)/\n<=10:=by
 have h1:=qC1 x (show M+1≠0 by omega);have h2:=qBw x (show 0<M+1 by omega);exact⟨(x%(M+1)).toNat,by omega,by omega⟩
theorem zU9{M:Int}(hM:0<=M/\M<=9)(ns:List Int)(k:Nat)(hk:k<1000):∃n f,n<=10/\Bits n f/\Sym n f/\zCE [.scr ns,.int (k:Int),.int M]=okR (mat (tab n f)):=by
 have c0:=zJ3 ns k (by omega) (by omega);have c1:=zJ3 ns (k+1) (by omega) (by omega)
 generalize cellv ns k=x0 at c0;generalize cellv ns (k+1)=x1 at c1;obtain⟨n,hn',hn10⟩:=modM hM x0;obtain⟨K,hK,hK1,hK2⟩:∃K:Nat,maxD [.int 1,.int ((n:Int)-x0/16%4)]=some (.int (K:Int))/\1<=K/\K<=10:=by
  simp only[maxD];by_cases h:(n:Int)-x0/16%4>1
  ·exact⟨((n:Int)-x0/16%4).toNat,by rw[if_pos h];congr 2;omega,by omega,by omega⟩
  ·exact⟨1,by rw[if_neg h];rfl,by omega,by omega⟩
 have hKp:(0:Int)<(K:Int):=by omega
 let R0:Nat->Nat->Int:=fun i j=>cellv ns (k+2+(max i j:Nat))/((min i j:Nat)*(min i j:Nat)+3)%2
 let R:Nat->Nat->Int:=fun i j=>if i=j then R0 i j*(if 0<x0/192%3 then 1 else 0)else R0 i j
 have bit0:∀i j,R0 i j=0\/R0 i j=1:=fun i j=>by show _%2=0\/_%2=1;omega
 have bitR:∀i j,R i j=0\/R i j=1:=fun i j=>by
  show(if i=j then R0 i j*_ else R0 i j)=0\/(if i=j then R0 i j*_ else R0 i j)=1
  have:=bit0 i j;split
  ·split<;>omega
  ·exact this
 have symR:∀i j,R i j=R j i:=fun i j=>by
  by_cases h:i=j
  ·rw[h]
  ·show(if i=j then R0 i j*_ else R0 i j)=(if j=i then R0 j i*_ else R0 j i)
   rw[if_neg h,if_neg fun z=>h z.symm];show cellv ns (k+2+(max i j:Nat))/((min i j:Nat)*(min i j:Nat)+3)%2=cellv ns (k+2+(max j i:Nat))/((min j i:Nat)*(min j i:Nat)+3)%2;rw[Nat.max_comm,Nat.min_comm]
 have fin:∀kd:Nat->Nat,(∀i,kd i<K)->∀(o:Option Sl),zCH=zCH->sSeq (sSet 6 2 [0,9,4,1] (eComp (iR1 (aCons (eV 4) aNil)) 1 (.one 10) Mi.tYes (eCall zAC (aCons (eV 0) (aCons (eB addD (eB addD (eV 1) (eC (.int 2))) (eV 10)) aNil)))))
   (sSeq (sSet 7 0 [0,1] (eB (cmpD fun i j=>decide (j<i)) (eB modD (eB divD (eCall zAC (aCons (eV 0) (aCons (eV 1) aNil))) (eC (.int 192))) (eC (.int 3))) (eC (.int 0))))
   (sSeq (sSet 8 2 [9,4,6] (eComp (iR1 (aCons (eV 4) aNil)) 1 (.one 10) Mi.tYes (eComp (iR1 (aCons (eV 4) aNil)) 1 (.one 11) Mi.tYes (eB modD (eB divD (eB ixD (eV 6) (eBi maxD (aCons (eV 10) (aCons (eV 11) aNil)))) (eB addD (eB mulD (eBi minD (aCons (eV 10) (aCons (eV 11) aNil))) (eBi minD (aCons (eV 10) (aCons (eV 11) aNil)))) (eC (.int 3)))) (eC (.int 2))))))
   (sSeq (sForR (iR1 (aCons (eV 4) aNil)) 9 (sItem2 8 0 (eV 9) (eV 9) (eB mulD (eB ixD (eB ixD (eV 8) (eV 9)) (eV 9)) (eBi intD (aCons (eV 7) aNil)))))
   (sRet 2 2 [9,3,8,5] (eComp (iR1 (aCons (eV 3) aNil)) 1 (.one 10) Mi.tYes (eComp (iR1 (aCons (eV 3) aNil)) 1 (.one 11) Mi.tYes (eB ixD (eB ixD (eV 8) (eB ixD (eV 5) (eV 10))) (eB ixD (eV 5) (eV 11)))))))))
   [some (.scr ns,0),some (.int (k:Int),0),some (.int M,0),some (.int (n:Int),0),some (.int (K:Int),0),some (rowD ((qA4 n).map fun i=>((kd i:Nat):Int)),1),none,none,none,none]=okR (.rt (mat (tab n fun i j=>R (kd i) (kd j)))):=by
  intro kd hkd o _;have hb:∀o6 o7 o8 o9:Option Dt,eComp (iR1 (aCons (eV 4) aNil)) 1 (.one 10) Mi.tYes (eCall zAC (aCons (eV 0) (aCons (eB addD (eB addD (eV 1) (eC (.int 2))) (eV 10)) aNil))) [some (.scr ns),some (.int (k:Int)),some (.int M),some (.int (n:Int)),some (.int (K:Int)),some (rowD ((qA4 n).map fun i=>((kd i:Nat):Int))),o6,o7,o8,o9]=okR (rowD ((qA4 K).map fun i:Nat=>cellv ns (k+2+i))):=by
   intro o6 o7 o8 o9;refine zEO _ rfl (by omega) (zCU (al0 rfl) (by omega)) fun i hi=>?_
   have:=zJ3 ns (k+2+i) (by omega) (by omega)
   exact c2 rfl (b2 (b2 rfl rfl rfl) rfl rfl) this
  have ht:∀o8 o9:Option Dt,eComp (iR1 (aCons (eV 4) aNil)) 1 (.one 10) Mi.tYes (eComp (iR1 (aCons (eV 4) aNil)) 1 (.one 11) Mi.tYes (eB modD (eB divD (eB ixD (eV 6) (eBi maxD (aCons (eV 10) (aCons (eV 11) aNil)))) (eB addD (eB mulD (eBi minD (aCons (eV 10) (aCons (eV 11) aNil))) (eBi minD (aCons (eV 10) (aCons (eV 11) aNil)))) (eC (.int 3)))) (eC (.int 2)))) [some (.scr ns),some (.int (k:Int)),some (.int M),some (.int (n:Int)),some (.int (K:Int)),some (rowD ((qA4 n).map fun i=>((kd i:Nat):Int))),some (rowD ((qA4 K).map fun i:Nat=>cellv ns (k+2+i))),some (.bl (decide (0<x0/192%3))),o8,o9]=okR (mat (tab K R0)):=by
   intro o8 o9;refine zHX R0 rfl rfl (by omega) (zCU (al0 rfl) (by omega)) (fun a=>zCU (al0 rfl) (by omega)) fun a b ha hb=>?_
   have i1:ixD (rowD ((qA4 K).map fun i:Nat=>cellv ns (k+2+i))) (.int ((max a b:Nat):Int))=some (.int (cellv ns (k+2+(max a b:Nat)))):=ixR (g:=fun i:Nat=>cellv ns (k+2+i)) (by omega);have m1:mulD (.int ((min a b:Nat):Int)) (.int ((min a b:Nat):Int))=some (.int (((min a b:Nat):Int)*((min a b:Nat):Int))):=zVG (by omega) (by omega);have p1:(0:Int)<=((min a b:Nat):Int)*((min a b:Nat):Int):=qFq (by omega) (by omega);have p2:((min a b:Nat):Int)*((min a b:Nat):Int)<=10*10:=Int.mul_le_mul (by omega) (by omega) (by omega) (by omega);have mx:=zT7 a b;have mn:=zT6 a b;exact b2 (b2 (b2 rfl (bi2 rfl rfl mx) i1) (b2 (b2 (bi2 rfl rfl mn) (bi2 rfl rfl mn) m1) rfl rfl) (dvi ⟨by omega,by omega⟩)) rfl (mdi (by decide) rfl)
  have hmd:=zD2 (tab K R0);have dr:∀(l:List Int)(m:Nat),(rowD l).dep<=m+1:=fun l m=>by unfold rowD;simp
  refine sg (hb _ _ _ _) (dr _ 1) (sg (b2 (b2 (b2 (c2 rfl rfl c0) rfl (dvi (by decide))) rfl (mdi (by decide) rfl)) rfl rfl) (qAh 0) (sg (ht _ _) hmd ?_));refine zBV fun bb hb'=>?_
  rw[zER,zCU (n:=K) (al0 rfl) (by omega),zA0];refine zNC (fun q r=>∃o9,r=[some (.scr ns,0),some (.int (k:Int),0),some (.int M,0),some (.int (n:Int),0),some (.int (K:Int),0),some (rowD ((qA4 n).map fun i=>((kd i:Nat):Int)),1),some (rowD ((qA4 K).map fun i:Nat=>cellv ns (k+2+i)),2),some (.bl (decide (0<x0/192%3)),0),some (mat (tab K fun i j=>if i=j/\i<q then R0 i j*(if 0<x0/192%3 then 1 else 0)else R0 i j),2),o9]) ⟨none,by
   have:(fun i j=>if i=j/\i<0 then R0 i j*(if 0<x0/192%3 then 1 else 0)else R0 i j)=R0:=by funext i j;simp
   rw[this];rfl⟩ (fun q hq r hr=>?_) fun r hr=>?_
  ·obtain⟨o9,rfl⟩:=hr;have e8:ixD (mat (tab K fun i j=>if i=j/\i<q then R0 i j*(if 0<x0/192%3 then 1 else 0)else R0 i j)) (.int (q:Int))=some (rowD ((qA4 K).map fun j=>if q=j/\q<q then R0 q j*(if 0<x0/192%3 then 1 else 0)else R0 q j)):=ixM hq;have e9:ixD (rowD ((qA4 K).map fun j=>if q=j/\q<q then R0 q j*(if 0<x0/192%3 then 1 else 0)else R0 q j)) (.int (q:Int))=some (.int (R0 q q)):=by rw[ixR hq];simp
   have m1:mulD (.int (R0 q q)) (.int (if 0<x0/192%3 then 1 else 0))=some (.int (R0 q q*(if 0<x0/192%3 then 1 else 0))):=zT4 (by split<;>omega) (by split<;>omega);refine zCC (zEG (l:=0) (a:=q) (b:=q) (v:=R0 q q*(if 0<x0/192%3 then 1 else 0)) rfl rfl rfl ?_ hq hq) ⟨some (.int (q:Int),0),?_⟩
   ·exact b2 (b2 (b2 rfl rfl e8) rfl e9) (bi1 rfl (by simp[intD])) m1
   ·simp
    congr 3;funext i j;by_cases hij:i=j
    ·subst hij
     by_cases h1:i=q
     ·subst h1;simp
     ·by_cases h2:i<q
      ·simp[h1,h2,show i<q+1 by omega]
      ·simp[h1,h2,show ¬i<q+1 by omega]
    ·simp[hij];intro h1 h2;exact absurd (h1.trans h2.symm) hij
  ·obtain⟨o9,rfl⟩:=hr;subst hb';have eR:(tab K fun i j=>if i=j/\i<K then R0 i j*(if 0<x0/192%3 then 1 else 0)else R0 i j)=tab K R:=zS6 fun i j hi hj=>by
    show(if i=j/\i<K then _ else R0 i j)=if i=j then _ else R0 i j
    by_cases h:i=j
    ·rw[if_pos ⟨h,hi⟩,if_pos h]
    ·rw[if_neg fun z=>h z.1,if_neg h]
   rw[eR];have ht2:∀o9:Option Dt,eComp (iR1 (aCons (eV 3) aNil)) 1 (.one 10) Mi.tYes (eComp (iR1 (aCons (eV 3) aNil)) 1 (.one 11) Mi.tYes (eB ixD (eB ixD (eV 8) (eB ixD (eV 5) (eV 10))) (eB ixD (eV 5) (eV 11)))) [some (.scr ns),some (.int (k:Int)),some (.int M),some (.int (n:Int)),some (.int (K:Int)),some (rowD ((qA4 n).map fun i=>((kd i:Nat):Int))),some (rowD ((qA4 K).map fun i:Nat=>cellv ns (k+2+i))),some (.bl (decide (0<x0/192%3))),some (mat (tab K R)),o9]=okR (mat (tab n fun i j=>R (kd i) (kd j))):=by
    intro o9;refine zHX _ rfl rfl (by omega) (zCU (al0 rfl) (by omega)) (fun a=>zCU (al0 rfl) (by omega)) fun a b ha hb=>?_
    have i1:ixD (rowD ((qA4 n).map fun i=>((kd i:Nat):Int))) (.int (a:Int))=some (.int ((kd a:Nat):Int)):=ixR ha;have i2:ixD (rowD ((qA4 n).map fun i=>((kd i:Nat):Int))) (.int (b:Int))=some (.int ((kd b:Nat):Int)):=ixR hb;have e8:ixD (mat (tab K R)) (.int ((kd a:Nat):Int))=some (rowD ((qA4 K).map fun j=>R (kd a) j)):=ixM (hkd a);have e9:ixD (rowD ((qA4 K).map fun j=>R (kd a) j)) (.int ((kd b:Nat):Int))=some (.int (R (kd a) (kd b))):=ixR (hkd b);exact b2 (b2 rfl (b2 rfl rfl i1) e8) (b2 rfl rfl i2) e9
   have hmd2:=zD2 (tab n fun i j=>R (kd i) (kd j));exact sr (ht2 _) ⟨hmd2,hmd2⟩
 have head:∀kd0:Nat->Nat,(∀i,kd0 i<K)->(∀i:Nat,x1/((i:Int)+1)%K=((kd0 i:Nat):Int))->∃f,Bits n f/\Sym n f/\zCH [some (.scr ns,0),some (.int (k:Int),0),some (.int M,0),none,none,none,none,none,none,none]=okR (.rt (mat (tab n f))):=by
  intro kd0 h1 h2;have hcomp0:∀o5 o6 o7 o8 o9:Option Dt,eComp (iR1 (aCons (eV 3) aNil)) 1 (.one 10) Mi.tYes (eB modD (eB divD (eCall zAC (aCons (eV 0) (aCons (eB addD (eV 1) (eC (.int 1))) aNil))) (eB addD (eV 10) (eC (.int 1)))) (eV 4)) [some (.scr ns),some (.int (k:Int)),some (.int M),some (.int (n:Int)),some (.int (K:Int)),o5,o6,o7,o8,o9]=okR (rowD ((qA4 n).map fun i=>((kd0 i:Nat):Int))):=by
   intro o5 o6 o7 o8 o9;exact zEO _ rfl (by omega) (zCU (al0 rfl) (by omega)) fun i hi=>b2 (b2 (c2 rfl (b2 rfl rfl rfl) c1) (b2 rfl rfl rfl) (dvi ⟨by omega,by omega⟩)) rfl (mdi hKp (h2 i))
  have hcomp1:∀o5 o6 o7 o8 o9:Option Dt,eComp (iR1 (aCons (eV 3) aNil)) 1 (.one 10) Mi.tYes (eB modD (eV 10) (eV 4)) [some (.scr ns),some (.int (k:Int)),some (.int M),some (.int (n:Int)),some (.int (K:Int)),o5,o6,o7,o8,o9]=okR (rowD ((qA4 n).map fun i=>((i%K:Nat):Int))):=by
   intro o5 o6 o7 o8 o9;exact zEO _ rfl (by omega) (zCU (al0 rfl) (by omega)) fun i hi=>b2 rfl rfl (mdi hKp rfl)
  have dr:∀(l:List Int)(m:Nat),(rowD l).dep<=m+1:=fun l m=>by unfold rowD;simp
  have e64:∀{r:Ro}{b:Bool},eV 0 (full r)=okR (.scr ns)->eV 1 (full r)=okR (.int (k:Int))->decide (0<x0/64%3)=b->tB (eB (cmpD fun i j=>decide (j<i)) (eB modD (eB divD (eCall zAC (aCons (eV 0) (aCons (eV 1) aNil))) (eC (.int 64))) (eC (.int 3))) (eC (.int 0))) (full r)=okR b:=fun h0 h1 hb=>tb1 (b2 (b2 (b2 (c2 h0 h1 c0) rfl (dvi (by decide))) rfl (mdi (by decide) rfl)) rfl (cmi hb))
  have pre:∀{X:Mi.R Out}{s t:SM}(h:t [some (.scr ns,0),some (.int (k:Int),0),some (.int M,0),some (.int (n:Int),0),some (.int (K:Int),0),some (rowD ((qA4 n).map fun i=>((kd0 i:Nat):Int)),1),none,none,none,none]=X),sSeq (sSet 3 0 [0,1,2] (eB modD (eCall zAC (aCons (eV 0) (aCons (eV 1) aNil))) (eB addD (eV 2) (eC (.int 1))))) (sSeq (sSet 4 0 [3,0,1] (eBi maxD (aCons (eC (.int 1)) (aCons (eB subD (eV 3) (eB modD (eB divD (eCall zAC (aCons (eV 0) (aCons (eV 1) aNil))) (eC (.int 16))) (eC (.int 4)))) aNil)))) (sSeq (sSet 5 1 [4,3,0,1] (eComp (iR1 (aCons (eV 3) aNil)) 1 (.one 10) Mi.tYes (eB modD (eB divD (eCall zAC (aCons (eV 0) (aCons (eB addD (eV 1) (eC (.int 1))) aNil))) (eB addD (eV 10) (eC (.int 1)))) (eV 4)))) t)) [some (.scr ns,0),some (.int (k:Int),0),some (.int M,0),none,none,none,none,none,none,none]=X:=fun{X s t} h=>
   sg (b2 (c2 rfl rfl c0) (b2 rfl rfl rfl) (mdi (by omega) hn')) (qAh 0) (sg (bi2 rfl (b2 rfl (b2 (b2 (c2 rfl rfl c0) rfl (dvi (by decide))) rfl (mdi (by decide) rfl)) rfl) hK) (qAh 0) (sg (hcomp0 _ _ _ _ _) (dr _ 0) h))
  by_cases h:0<x0/64%3
  ·refine⟨fun i j=>R (i%K) (j%K),fun i j _ _=>bitR _ _,fun i j _ _=>symR _ _,?_⟩;have g:=fin (fun i=>i%K) (fun i=>Nat.mod_lt _ (by omega)) none rfl;exact pre (s:=sNil) (st (e64 rfl rfl (decide_eq_true h)) (ss (hcomp1 _ _ _ _ _) (dr _ 0)) g)
  ·refine⟨fun i j=>R (kd0 i) (kd0 j),fun i j _ _=>bitR _ _,fun i j _ _=>symR _ _,?_⟩;have g:=fin kd0 h1 none rfl;exact pre (s:=sNil) (sp (e64 rfl rfl (decide_eq_false h)) g)
 obtain⟨f,h1,h2,h3⟩:=head (fun i=>(x1/((i:Int)+1)%K).toNat) (fun i=>by
  have a1:=qC1 (x1/((i:Int)+1)) (show(K:Int)≠0 by omega);have a2:=qBw (x1/((i:Int)+1)) hKp
  omega) fun i=>by
  have a1:=qC1 (x1/((i:Int)+1)) (show(K:Int)≠0 by omega);omega
 exact⟨n,f,hn10,h1,h2,zD3 rfl h3⟩
def BtM(M A:Int)(ns:List Int)(n:Nat)(fl:Bool)(r:Ro):Prop:=∃f p q l6 l7 o8,r=[some (.scr ns,0),some (.int A,0),some (.int M,0),some (.bl fl,0),some (.int (n:Int),0),some (mat (tab n f),2),some (.int (q:Nat),l6),some (.int (p:Nat),l7),o8,none]/\p<=n/\Bits n f/\Sym n f
def MxM(M A:Int)(ns:List Int)(n:Nat)(fl:Bool)(r:Ro):Prop:=∃f q l5 l6 o7 o8 o9,r=[some (.scr ns,0),some (.int A,0),some (.int M,0),some (.bl fl,0),some (.int (n:Int),0),some (mat (tab n f),l5),some (.int (q:Nat),l6),o7,o8,o9]/\Bits n f/\Sym n f
theorem zWB{M:Int}(hM:0<=M/\M<=9)(A:Int)(hA:0<=A)(hA2:A<100)(ns:List Int)(fl:Bool):∃(n:Nat)(f:Nat->Nat->Int)(q:Nat),n<=10/\Bits n f/\Sym n f/\zDF [.scr ns,.int A,.int M,.bl fl]=okR (.tup [mat (tab n f),.int (q:Int)]):=by
 have c0:=zJ3 ns A (by omega) (by omega)
 generalize cellv ns A=x0 at c0;obtain⟨n,hn,hn10⟩:=modM hM x0
 suffices h:∃(f:Nat->Nat->Int)(q:Nat),Bits n f/\Sym n f/\zCI [some (.scr ns,0),some (.int A,0),some (.int M,0),some (.bl fl,0),none,none,none,none,none,none]=okR (.rt (.tup [mat (tab n f),.int (q:Int)])) by
  obtain⟨f,q,h1,h2,h4⟩:=h;exact⟨n,f,q,hn10,h1,h2,zD3 rfl h4⟩
 suffices h:eiR (zCI [some (.scr ns,0),some (.int A,0),some (.int M,0),some (.bl fl,0),none,none,none,none,none,none]) (fun _=>False) (fun d=>∃(f:Nat->Nat->Int)(q:Nat),d=.tup [mat (tab n f),.int (q:Int)]/\Bits n f/\Sym n f) by
  rcases h with⟨_,_,z⟩|⟨d,h1,f,q,rfl,h2,h3⟩
  ·exact z.elim
  ·exact⟨f,q,h2,h3,h1⟩
 unfold zCI;refine zD7 (P:=fun r=>r=[some (.scr ns,0),some (.int A,0),some (.int M,0),some (.bl fl,0),some (.int (n:Int),0),none,none,none,none,none]) (zG8 (zCC (ss (b2 (c2 rfl rfl c0) (b2 rfl rfl rfl) (mdi (by omega) hn)) (qAh 0)) rfl)) ?_
 rintro r rfl
 refine zD7 (P:=fun r=>r=[some (.scr ns,0),some (.int A,0),some (.int M,0),some (.bl fl,0),some (.int (n:Int),0),some (mat (tab n fun _ _=>0),2),none,none,none,none]) (zG8 ?_) ?_
 ·have hc:eComp (iR1 (aCons (eV 4) aNil)) 1 (.one 10) Mi.tYes (eComp (iR1 (aCons (eV 4) aNil)) 1 (.one 11) Mi.tYes (eC (.int 0))) [some (.scr ns),some (.int A),some (.int M),some (.bl fl),some (.int (n:Int)),none,none,none,none,none]=okR (mat (tab n fun _ _=>0)):=
   zHX _ rfl rfl (by omega) (zCU (al0 rfl) (by omega)) (fun a=>zCU (al0 rfl) (by omega)) fun a b ha hb=>rfl
  have hd:=zD2 (tab n fun _ _=>0);exact zCC (ss hc hd) rfl
 rintro r rfl
 refine zD7 (P:=fun r=>r=[some (.scr ns,0),some (.int A,0),some (.int M,0),some (.bl fl,0),some (.int (n:Int),0),some (mat (tab n fun _ _=>0),2),some (.int 0,0),none,none,none]) (zG8 (zCC (ss rfl (qAh 0)) rfl)) ?_
 rintro r rfl
 refine zD7 (P:=fun r=>r=[some (.scr ns,0),some (.int A,0),some (.int M,0),some (.bl fl,0),some (.int (n:Int),0),some (mat (tab n fun _ _=>0),2),some (.int 0,0),some (.int 0,0),none,none]) (zG8 (zCC (ss rfl (qAh 0)) rfl)) ?_
 rintro r rfl
 refine zD7 (P:=MxM M A ns n fl) (zG8 ?_) ?_
 ·refine zPQ (BtM M A ns n fl) (fun r=>n-zT3 7 r) (fun r=>BtM M A ns n fl r/\n<=zT3 7 r) ⟨_,0,0,0,0,none,rfl,qAh _,fun _ _ _ _=>.inl rfl,fun _ _ _ _=>rfl⟩ (by omega) ?_ ?_
  ·rintro r ⟨f,p,q,l6,l7,o8,rfl,a0,a,a'⟩
   by_cases hp:p<n
   ·refine .inr ⟨tb1 (b2 rfl rfl (cmi (decide_eq_true (by omega)))),?_⟩;have cp:=zJ3 ns (A+1+(p:Int)) (by omega) (by omega)
    generalize cellv ns (A+1+(p:Int))=xk at cp;refine zKO fun bb hb=>zCC (r:=[some (.scr ns,0),some (.int A,0),some (.int M,0),some (.bl fl,0),some (.int (n:Int),0),some (mat (tab n f),2),some (.int (q:Nat),l6),some (.int (p:Nat),l7),some (.int (xk%4),0),none]) (ss (b2 (c2 rfl (b2 (b2 rfl rfl rfl) rfl rfl) cp) rfl (mdi (by decide) rfl)) (qAh 0)) ?_
    generalize xk%4=k;subst hb;by_cases h1:k=0/\fl=false
    ·obtain⟨rfl,rfl⟩:=h1;refine nif1 (ta1 (eqi rfl rfl rfl) (tn1 (k:=false) (tm1 rfl))) (nsw (ss (b2 rfl rfl rfl) (qAh 1)) (zCC (ss (b2 rfl rfl rfl) (qAh 1)) ?_));exact⟨⟨f,p+1,q+1,1,1,_,rfl,hp,a,a'⟩,by show n-(p+1)<n-p;omega⟩
    ·refine nif0 (?_:_=okR false) ?_
     ·by_cases z:k=0
      ·subst z;cases fl with
       |true=>exact ta1 (eqi rfl rfl rfl) (tn1 (k:=true) (tm1 rfl))
       |false=>exact absurd ⟨rfl,rfl⟩ h1
      ·exact ta0 (eqi rfl rfl (decide_eq_false z))
     by_cases h2:1<k/\p+1<n
     ·refine nif1 (ta1 (tb1 (b2 rfl rfl (cmi (decide_eq_true h2.1)))) (tb1 (b2 (b2 rfl rfl rfl) rfl (cmi (decide_eq_true (by omega)))))) (nsw (zEG (l:=0) (a:=p) (b:=p+1) (v:=1) rfl rfl rfl rfl hp h2.2) (nsw (zEG (l:=0) (a:=p+1) (b:=p) (v:=1) rfl rfl rfl rfl h2.2 hp) (zCC (ss (b2 rfl rfl rfl) (qAh 1)) ?_)));exact⟨⟨_,p+2,q,l6,1,_,rfl,h2.2,zMV (i:=p) (j:=p+1) a (.inr rfl),zPE (i:=p) (j:=p+1) a'⟩,by show n-(p+2)<n-p;omega⟩
     ·refine nif0 (?_:_=okR false) (nsw (zEG (l:=0) (a:=p) (b:=p) (v:=1) rfl rfl rfl rfl hp hp) (zCC (ss (b2 rfl rfl rfl) (qAh 1)) ?_))
      ·by_cases z:1<k
       ·exact ta1 (tb1 (b2 rfl rfl (cmi (decide_eq_true z)))) (tb1 (b2 (b2 rfl rfl rfl) rfl (cmi (decide_eq_false (by omega)))))
       ·exact ta0 (tb1 (b2 rfl rfl (cmi (decide_eq_false z))))
      exact⟨⟨_,p+1,q,l6,1,_,rfl,hp,zPO a,zSY a'⟩,by show n-(p+1)<n-p;omega⟩
   ·exact .inl ⟨tb1 (b2 rfl rfl (cmi (decide_eq_false (by omega)))),⟨f,p,q,l6,l7,o8,rfl,a0,a,a'⟩,by show n<=p;omega⟩
  ·rintro r ⟨⟨f,p,q,l6,l7,o8,rfl,a0,a,a'⟩,h⟩
   have hpn:p=n:=by simp[zT3]at h;omega
   subst hpn;exact⟨f,q,2,l6,_,o8,none,rfl,a,a'⟩
 intro r hr;refine zD7 (P:=MxM M A ns n fl) (zG8 ?_) ?_
 ·rw[zER,show iR1 (aCons (eC (.int 14)) aNil) (full r)=okR (nums 0 14) from zCU (n:=14) (al0 rfl) (by omega),zA0];refine zNC (fun _=>MxM M A ns n fl) hr (fun k hk r hr=>?_) fun r h=>h
  obtain⟨f,q,l5,l6,o7,o8,o9,rfl,h1,h2⟩:=hr;by_cases h:1<n
  ·refine nif1 (tb1 (b2 rfl rfl (cmi (decide_eq_true (by omega))))) ?_;have ck:=zJ3 ns (A+12+(k:Int)) (by omega) (by omega);obtain⟨i,j,hi,hj,hij,hm⟩:=zLX n f (cellv ns (A+12+(k:Int))) h hn10;have fin:Bits n (colF i j (rowF i j f))/\Sym n (colF i j (rowF i j f)):=⟨zPS h1 hi,zT5 h2 hi hj hij⟩
   exact zCJ (c2 rfl (c2 rfl (b2 (b2 rfl rfl rfl) rfl rfl) ck) hm) (c2 rfl (c2 rfl (b2 (b2 rfl rfl rfl) rfl rfl) ck) hm) ⟨_,q,_,_,_,_,_,rfl,fin⟩ ⟨_,q,_,_,_,_,_,rfl,fin⟩
  ·exact nif0 (tb1 (b2 rfl rfl (cmi (decide_eq_false (by omega))))) ⟨f,q,_,_,_,_,_,rfl,h1,h2⟩
 rintro r ⟨f,q,l5,l6,o7,o8,o9,rfl,h1,h2⟩
 refine .inr ⟨.tup [mat (tab n f),.int (q:Int)],?_,f,q,rfl,h1,h2⟩;simp
theorem zOM{M:Int}(hM:0<=M/\M<=9)(ns:List Int):∃n f,n<=10/\Bits n f/\Sym n f/\zCP [.scr ns,.int M]=okR (mat (tab n f)):=by
 have c40:=zJ3 ns 40 (by omega) (by omega);obtain⟨n1,f1,a1,a2,a3,a4⟩:=zU9 hM ns 0 (by omega);obtain⟨n2,f2,q,b1,b2,b3,b4⟩:=zWB hM 0 (by omega) (by omega) ns false;have a4':zCE [.scr ns,.int 0,.int M]=okR (mat (tab n1 f1)):=a4
 by_cases h:cellv ns 40%2=0
 ·refine⟨n1,f1,a1,a2,a3,?_⟩;unfold zCP zF3;refine zD3 rfl (zR2 ?_);simp[-qA0,startO,c40,h,a4']
 ·refine⟨n2,f2,b1,b2,b3,?_⟩;have i0:itA [mat (tab n2 f2),Dt.int (q:Int)] 0=some (mat (tab n2 f2)):=zG3 (j:=0) rfl rfl;unfold zCP zF3;refine zD3 rfl (zBV fun bb hb=>?_);simp[-qA0,startO,c40,h];subst hb;simp[-qA0,b4,i0]
noncomputable def sgn(c:Nat):Dt:=.str ⟨#[c]⟩
theorem zQ8(cs:List Nat):∀d∈cs.map sgn,d.dep=0:=by
 intro d hd;obtain⟨c,_,rfl⟩:=qAq.mp hd;rfl
@[simp] theorem depL_sgn(cs:List Nat):Dt.depL (cs.map sgn)=0:=zXC (zQ8 cs)
def zXN(ls row:List Nat):Prop:=∀x∈row,∀y∈row,ls.getD x 0=ls.getD y 0->x=y
theorem zPV{cs:List Nat}(h:cs.length<=1000):lenD [.str ⟨cs.toArray⟩]=some (.int (cs.length:Int)):=by
 have:=zNG cs;simp[lenD,this]
 try lia
structure Twice(n:Nat)(row:List Nat):Prop where
 len:row.length=2*n
 cnt:∀v,row.count v=if v<n then 2 else 0
section
variable{n:Nat}{row:List Nat}(t:Twice n row)
include t
end
theorem zUC{z:Str}{l:List Nat}(h:z.cps.toList=l):z=⟨l.toArray⟩:=by
 cases z with
 |mk a=>subst h;simp
theorem add_str{a b:List Nat}(h:a.length+b.length<=1000):addD (.str ⟨a.toArray⟩) (.str ⟨b.toArray⟩)=some (.str ⟨(a++b).toArray⟩):=by
 rw[zU4,if_pos (by rw[zNG,zNG];lia)]
 congr 2;exact zUC (by rw[zS7])
@[simp] theorem x_eNew0(c:Str)(ρ:Rh):zXF c ρ=okR (.ins c []):=rfl
@[simp] theorem x_eNew(c:Str)(fl:List Str)(am:AM)(ρ:Rh):eNew c fl am ρ=zA3 (am ρ) fun ds=>match svsD ds with
 |some vs=>if vs.length=fl.length then okR (.ins c (fl.zip vs))else none
 |none=>none:=rfl
@[simp] theorem x_eFld(hs:List Str)(f:Str)(e:EM)(ρ:Rh):eFld hs f e ρ=zA3 (e ρ) fun d=>match d with
 |.ins c fs=>if c∈hs then(match fs.lookup f with|some v=>okR (dSv v)|none=>none)else none
 |_=>none:=rfl
@[simp] theorem x_eMeth(tb:List (Str×FM))(m:Str)(e:EM)(am:AM)(ρ:Rh):zXG tb m e am ρ=zA3 (e ρ) fun d=>match d with
 |.ins c fs=>match tb.lookup c with
  |some g=>match fs.lookup m with
   |none=>zA3 (am ρ) fun ds=>g (d::ds)
   |some _=>none
  |none=>none
 |_=>none:=rfl
@[simp] theorem x_eIsO(ys ns:List Str)(e:EM)(ρ:Rh):eIsO ys ns e ρ=zA3 (e ρ) fun d=>match d with
 |.ins c _=>if c∈ys then okR (.bl true)else if c∈ns then okR (.bl false)else none
 |_=>none:=rfl
@[simp] theorem v_dins(c:Str)(fs:List (Str×Sv)):(Dt.ins c fs).dep=1000:=rfl
theorem len1(x:Nat):lenD [sgn x]=some (.int 1):=zPV (cs:=[x]) (by simp)
noncomputable def itr(f:Nat->Nat):Nat->Nat->Nat
 |0,x=>x
 |k+1,x=>f (itr f k x)
noncomputable def jn(cs:List Nat)(e:Nat):Nat:=e/4*4+(e%4^^^(cs.getD (e/4) 0+1))
noncomputable def nt(ts:List Nat)(e:Nat):Nat:=ts.getD e 0
structure NetN(ts:List Nat)(M:Nat):Prop where
 len:ts.length=M
 lt:∀e,e<M->nt ts e<M
 inv:∀e,e<M->nt ts (nt ts e)=e
def stp(ts cs:List Nat)(e:Nat):Nat:=nt ts (jn cs e)
def zB6(R:List (List Nat)):Dt:=.lst (R.map fun l=>rowD (numL l))
theorem zKP:∀R:List (List Nat),Dt.depL (R.map fun l=>rowD (numL l))<=1
 |[]=>by simp[Dt.depL]
 |l::R=>by
  have h:=zKP R;have:=zO6 (numL l);simp only[qAn];rw[Dt.depL];lia
theorem zD8(R:List (List Nat)):(zB6 R).dep<=2:=by
 have:=zKP R;unfold zB6;rw[Dt.dep];lia
structure Seats(R:List (List Nat))(n:Nat):Prop where
 len:R.length=n
 per:∀l∈R,l.Perm [0,1,2,3]
section
variable{R:List (List Nat)}{row:List Nat}{n:Nat}(hS:Seats R n)(tw:Twice n row)
include hS
include tw
omit hS in
omit hS in
omit hS in
omit hS in
omit hS tw in
omit hS tw in
end
section
variable{ts cs:List Nat}{n e:Nat}(hN:NetN ts (4*n))(hne:∀x,x<4*n->nt ts x≠x)(hl:cs.length=n)(hw:∀c∈cs,c<3)(he:e<4*n)
include hN hne hl hw he
variable{p:Nat}(p3:itr (stp ts cs) p e=e)(p4:∀q,1<=q->q<p->itr (stp ts cs) q e≠e)
include p3 p4
omit hN hne hl hw he p3 p4 in
end
def rowW(cs:List Nat):List Nat:=cs.map fun c=>(ords cs).idxOf c
structure Wd(n:Nat)(cs:List Nat):Prop where
 tw:Twice n (rowW cs)
 wr:wrd (ords cs) (rowW cs)=cs
 ap:zXN (ords cs) (rowW cs)
 od:ords (rowW cs)=qA4 n
 ol:(ords cs).length=n
 len:cs.length=2*n
section
variable{n:Nat}{row:List Nat}(t:Twice n row)
include t
end
def fm(cs:List Nat)(s:Nat)(b:Bool):List Nat:=if b=true then(sh s cs).reverse else sh s cs
section
variable{ts C':List Nat}{n:Nat}(hN:NetN ts (4*n))(hne:∀x,x<4*n->nt ts x≠x)(hl:C'.length=n)(hw:∀c∈C',c<3)(hn:n<=10)(n1:1<=n)
include hN hne hl hw hn n1
end
section
variable{n:Nat}{cs c:List Nat}(w:Wd n cs)(n1:1<=n)(hn:n<=10)(hc:c.length=n)(hsl:(sosL cs).length=n)
include w n1 hn hc hsl
include w n1 hn hc hsl
end
theorem zP7(M:List (List Nat)):zB6 M=mat (M.map numL):=by
 unfold zB6 mat;rw[qAs];rfl
theorem zJS(M:List (List Nat))(h1:M.length<=1000)(h2:∀l∈M,l.length<=1000):zCA [zB6 M,zB6 M]=okR (.bl true):=by
 have hl:lenD [zB6 M]=some (.int (M.length:Int)):=by unfold zB6;simp
 have heq:Dt.eq (zB6 M) (zB6 M)=true:=by rw[zP7,zRO];simp
 have hd:(zB6 M).dep<=40:=qAi (zD8 M) (by decide);have hw:=zF7;have isl:∀ρ:Rh,∀i d ds,ρ[i]?=some (some d)->d=.lst ds->eIsi "list" (eV i) ρ=okR (.bl true):=fun ρ i d ds h e=>by
  subst e;unfold eIsi;rw[v1 h];rfl
 have row:∀l∈M,∀o1,sIf (Mi.tOr (tNo (tM (eIsi "list" (eV 2)))) (tNo (tM (eBi allD (aCons (eComp (iSq (eV 2)) 1 (.one 3) Mi.tYes (eCall zB8 (aCons (eV 3) aNil))) aNil))))) (sRet 0 0 [] (eC (.bl false))) sNil [some (zB6 M,0),o1,some (rowD (numL l),0)]=okR (.nx [some (zB6 M,0),o1,some (rowD (numL l),0)]):=fun l hm o1=>by
  have hc:=zBG (ρ:=full [some (zB6 M,0),o1,some (rowD (numL l),0)]) (c:=tYes) (i:=3) (e:=eCall zB8 (aCons (eV 3) aNil)) (fun k:Int=>Dt.int k) (fun _=>Dt.bl true) (numL l) rfl rfl (fun k _=>c1 rfl (hw k)) (iSq (eV 2)) rfl (by have:=h2 l hm;simp[numL];omega);exact sf (to0 (tn1 (k:=true) (tm1 (isl _ 2 _ _ rfl rfl))) (tn1 (k:=true) (tm1 (bi1 hc (zH1 _)))))
 refine zD3 rfl (sp (to0 (tn1 (k:=true) (tm1 (isl _ 0 _ _ rfl rfl))) (nei (bi1 rfl hl) (bi1 rfl hl) (by rw[decide_eq_true rfl];rfl))) ?_);refine zBV fun bb hb=>?_
 rw[zU1];show nxR (zA3 (okR (M.map fun l=>rowD (numL l))) _) _;rw[zA0];refine zT1 (fun l=>rowD (numL l)) M (fun _ r=>∃o2,r=[some (zB6 M,0),some (zB6 M,0),o2]) ⟨none,rfl⟩ (fun q l hq r hr=>?_) fun r hr=>?_
 ·obtain⟨o2,rfl⟩:=hr;exact zCC (row l (qAz hq) _) ⟨_,rfl⟩
 ·obtain⟨o2,rfl⟩:=hr;subst hb;refine sr (b2 rfl rfl ?_) ⟨qA9 0,qA9 0⟩;unfold eqD;rw[if_pos ⟨hd,hd⟩,heq]
theorem zXK(n:Nat)(f:Nat->Nat->Int)(ks:List Nat)(hn:n<=10)(hb:Bits n f)(hr:Rise n ks):∃q:Nat,zBD [mat (tab ks.length (sub ks f))]=okR (.int (q:Int))/\zBF [mat (tab n f),rowD (numL ks)]=okR (.bl (decide (q=ks.length))):=by
 have hz:=hr.le;have hp:=zKY n f ks hr.lt (by omega);have hbs:Bits ks.length (sub ks f):=fun i j hi hj=>hb _ _ (zNY hr.lt hi) (zNY hr.lt hj)
 obtain⟨q,h1,h2,h3⟩:=zOV ks.length (sub ks f) (by omega) hbs;have hs:=zP4 n f ks hn hr;refine⟨q,h1,?_⟩;unfold zBF zH3
 rcases h3 with⟨h3,h4⟩|⟨h3,g,_,_,_,h4⟩
 ·simp[-qA0,startO,hs,hp,h4,show ¬q=ks.length by omega]
 ·have hm:mat (tab ks.length g)=.lst ((tab ks.length g).map rowD):=rfl;simp[-qA0,startO,hs,hp,h4,h3]
  try simp[-qA0,hm]
noncomputable def pow8:Nat->List (List Nat)
 |0=>[[]]
 |k+1=>pow8 k++(pow8 k).map (·++[k])
theorem zHF:∀n,(pow8 n).length=2 ^ n
 |0=>rfl
 |k+1=>by rw[pow8,qB0,qAl,zHF k,Nat.pow_succ];omega
theorem zHE:∀(n:Nat)(ks:List Nat),ks∈pow8 n->ks.Pairwise (· < ·)/\∀k∈ks,k<n
 |0,ks,h=>by
  have:ks=[]:=by simpa[pow8]using h
  subst this;exact⟨qCh,fun k hk=>by simp at hk⟩
 |n+1,ks,h=>by
  rw[pow8]at h;rcases qB4.mp h with h|h
  ·obtain⟨h1,h2⟩:=zHE n ks h;exact⟨h1,fun k hk=>qBf (h2 k hk)⟩
  ·obtain⟨ls,hl,rfl⟩:=qAq.mp h;obtain⟨h1,h2⟩:=zHE n ls hl;refine⟨qE1.mpr ⟨h1,by simp,fun a ha b hb=>?_⟩,fun k hk=>?_⟩
   ·have:b=n:=by simpa using hb
    subst this;exact h2 a ha
   ·rcases qB4.mp hk with hk|hk
    ·exact qBf (h2 k hk)
    ·have:k=n:=by simpa using hk
     omega
theorem zIK{n:Nat}{ks:List Nat}(h:ks∈pow8 n):Rise n ks:=let⟨h1,h2⟩:=zHE n ks h;zSE h1 h2
theorem zGX:∀xs:List Int,intsD (xs.map Dt.int)=some xs
 |[]=>rfl
 |x::r=>by rw[qAn,intsD,zGX r];rfl
theorem zGR:∀M:List (List Nat),rowsI (M.map fun l=>rowD (numL l))=some (M.map numL)
 |[]=>rfl
 |l::M=>by
  have e:rowI (rowD (numL l))=some (numL l):=zGX _;rw[qAn,rowsI,zGR M,e];rfl
theorem zWZ:(pow8 6).map numL=S8.all64:=by decide
theorem zUD{M:List (List Nat)}(h:M.length<64\/M=pow8 6):∃l:List Nat,(∀i∈l,i<M.length)/\l.length=M.length/\sortLL (M.map fun l=>rowD (numL l))=some (zB6 (l.map fun i=>M.getD i [])):=by
 obtain⟨l,hl⟩:=S8.srtO_some (xss:=M.map numL) (by
  rcases h with h|rfl
  ·exact .inl (by simpa using h)
  ·exact .inr zWZ)
 have hp:=S8.srtO_perm hl;have hlt:∀i∈l,i<M.length:=fun i hi=>by simpa using qBq.mp (hp.mem_iff.mp hi)
 refine⟨l,hlt,by rw[hp.length_eq];simp,?_⟩;unfold sortLL;rw[zGR];dsimp only;rw[hl];dsimp only;unfold zB6;rw[qAs]
 congr 2;refine qAw fun i hi=>?_
 have:=hlt i hi;simp[qBe,this]
theorem zQ9{n:Nat}(hn:n<=6)(p:List Nat->Bool):((pow8 n).filter p).length<64\/(pow8 n).filter p=pow8 6:=by
 have hl:=zHF n;by_cases h:n=6
 ·subst h
  by_cases z:((pow8 6).filter p).length=64
  ·exact .inr (List.filter_sublist.eq_of_length (by rw[z,hl]))
  ·have:=qBi p (pow8 6)
   exact .inl (by omega)
 ·have:=qBi p (pow8 n)
  have:(2:Nat) ^ n<=2 ^ 5:=qE4 (by decide) (by omega)
  exact .inl (by omega)
theorem zXL(l:List Nat)(k:Nat)(h:l.length<=1000):addD (rowD (numL l)) (.lst [.int (k:Int)])=some (rowD (numL (l++[k]))):=by
 unfold rowD;rw[addD,if_pos (by simp[numL];omega)];simp[numL]
theorem zR1{ρ:Rh}{i v j:Nat}{M:List (List Nat)}{k:Nat}(hv:v=ρ.length)(hi:eV i ρ=okR (zB6 M))(h1:∀x,eV v (ρ++[some x])=okR x)(h2:∀x,eV j (ρ++[x])=okR (.int (k:Int)))(hz:M.length<=1000)(hr:∀l∈M,l.length<=1000) :
  eComp (iSq (eV i)) 1 (.one v) Mi.tYes (eB addD (eV v) (eLst (aCons (eV j) aNil))) ρ=okR (zB6 (M.map (·++[k]))):=by
 have:=zBG (ρ:=ρ) (c:=tYes) (i:=v) (e:=eB addD (eV v) (eLst (aCons (eV j) aNil))) (fun l:List Nat=>rowD (numL l)) (fun l=>rowD (numL (l++[k]))) M rfl hv (fun l hl=>b2 (h1 _) (el1 (h2 _)) (zXL l k (hr l hl))) (iSq (eV i)) (by show zA3 (eV i ρ) _=_;rw[hi];rfl) (by omega)
 rw[this];unfold zB6;rw[qAs];rfl
theorem zXJ(M N:List (List Nat))(h:M.length+N.length<=1000):addD (zB6 M) (zB6 N)=some (zB6 (M++N)):=by
 unfold zB6;rw[addD,if_pos (by simp;omega),qCx]
theorem zWC(n:Nat)(f:Nat->Nat->Int)(hn:n<=10)(hb:Bits n f):∃p:List Nat->Bool,∀ks∈pow8 n,zBF [mat (tab n f),rowD (numL ks)]=okR (.bl (p ks))/\∃q:Nat,zB9 [mat (tab n f),rowD (numL ks)]=okR (mat (tab ks.length (sub ks f)))/\zBD [mat (tab ks.length (sub ks f))]=okR (.int (q:Int))/\decide ((q:Int)=(ks.length:Int))=p ks:=by
 have h:∀ks:List Nat,∃b:Bool,ks∈pow8 n->zBF [mat (tab n f),rowD (numL ks)]=okR (.bl b)/\∃q:Nat,zB9 [mat (tab n f),rowD (numL ks)]=okR (mat (tab ks.length (sub ks f)))/\zBD [mat (tab ks.length (sub ks f))]=okR (.int (q:Int))/\decide ((q:Int)=(ks.length:Int))=b:=fun ks=>by
  by_cases hm:ks∈pow8 n
  ·have hr:=zIK hm;obtain⟨q,h1,h2⟩:=zXK n f ks hn hb hr;have hz:=hr.le;refine⟨_,fun _=>⟨h2,q,zKY n f ks hr.lt (by omega),h1,?_⟩⟩
   by_cases e:q=ks.length
   ·simp[e]
   ·rw[decide_eq_false e,decide_eq_false (by omega)]
  ·exact⟨true,fun z=>absurd z hm⟩
 obtain⟨p,hp⟩:=Classical.axiomOfChoice h;exact⟨p,hp⟩
theorem zIH:Dt.lst [.lst []]=zB6 (pow8 0):=rfl
theorem zHG{n:Nat}(hn:n<=6):(pow8 n).length<=64:=by
 rw[zHF];exact qE4 (n:=2) (j:=6) (by decide) hn
theorem zHD{n:Nat}{l:List Nat}(hn:n<=6)(h:l∈pow8 n):l.length<=1000:=by
 have:=(zIK h).le;omega
theorem zTQ{ρ:Rh}{k:Nat}{tg:Tg}{c:TM}{e:EM}{i:Nat}{ds es:List Dt}(hi:eV i ρ=okR (.lst ds))(h:eComp (iSq (eV i)) k tg c e ρ=okR (.lst es)):compGo ρ k tg c e ds []=okR es:=by
 unfold eComp at h;have e1:iSq (eV i) ρ=okR ds:=by show zA3 (eV i ρ) _=_;rw[hi];rfl
 rw[e1,zA0]at h;split at h
 ·cases e2:compGo ρ k tg c e ds []with
  |none=>rw[e2]at h;cases h
  |some r=>
   rw[e2]at h;cases r with
   |error x=>cases h
   |ok l=>cases h;rfl
 ·cases h
theorem zMK{n:Nat}{f:Nat->Nat->Int}{p:List Nat->Bool}(hn:n<=6)(hp:∀ks∈pow8 n,zBF [mat (tab n f),rowD (numL ks)]=okR (.bl (p ks))){d:Dt}(hs:sortLL (((pow8 n).filter p).map fun l=>rowD (numL l))=some d):zC4 [mat (tab n f)]=okR d:=by
 have hlen:lenD [mat (tab n f)]=some (.int (n:Int)):=by unfold mat;simp[zC6]
 refine zD3 rfl (sp (tb1 (b2 (bi1 rfl hlen) rfl (cmi (decide_eq_false (by omega))))) (sg (el1 el0) (by rw[zIH];exact qAi (zD8 _) (by decide)) (zBV fun bb hbb=>?_)));rw[zER,zCU (n:=n) (al0 (bi1 rfl hlen)) (by omega),zA0];refine zNC (fun q r=>∃o2,r=[some (mat (tab n f),0),some (zB6 (pow8 q),10),o2]) ⟨none,rfl⟩ (fun q hq r hr=>?_) fun r hr=>?_
 ·obtain⟨o2,rfl⟩:=hr;have hz:=zHG (n:=q) (by omega);have hc:=zR1 (ρ:=[some (mat (tab n f)),some (zB6 (pow8 q)),some (.int (q:Int))]) (i:=1) (v:=3) (j:=2) (M:=pow8 q) (k:=q) rfl rfl (fun _=>rfl) (fun _=>rfl) (by omega) fun l hl=>zHD (by omega) hl
  refine zCC (r:=[some (mat (tab n f),0),some (zB6 (pow8 (q+1)),10),some (.int (q:Int),0)]) ?_ ⟨_,rfl⟩;show sSumO 1 2 _ [some (mat (tab n f),0),some (.lst ((pow8 q).map fun l=>rowD (numL l)),9+1),some (.int (q:Int),0)]=_;have hd:=zD8 ((pow8 q).map (·++[q]));unfold sSumO;simp only[qB9,qBa];show zA3 (eComp (iSq (eV 1)) 1 (.one 3) Mi.tYes (eB addD (eV 3) (eLst (aCons (eV 2) aNil))) [some (mat (tab n f)),some (zB6 (pow8 q)),some (.int (q:Int))]) _=_;rw[hc,zA0]
  show(if _ then _ else _)=_
  rw[if_pos ⟨by simp;omega,hd,qAi hd (by decide)⟩,<- qCx];rfl
 ·obtain⟨o2,rfl⟩:=hr;subst hbb;have hz:=zHG hn;show sRetSo 10 1 1 3 _ [some (mat (tab n f),0),some (.lst ((pow8 n).map fun l=>rowD (numL l)),9+1),o2]=_;unfold sRetSo;simp only[qB9,qBa];rw[if_pos ⟨by first|rfl|trivial,by simp;omega,qA9 3,by simp⟩];have hc:=Mp.comp_filter (ρ:=full [some (mat (tab n f),0),some (.lst ((pow8 n).map fun l=>rowD (numL l)),9+1),o2]) (c:=tM (eCallN zBF (aCons (eV 0) (aCons (eV 3) aNil)))) (e:=eV 3) (i:=3) (fun l:List Nat=>rowD (numL l)) (fun l=>rowD (numL l)) p (pow8 n) rfl (fun ks hk=>tm1 (by
   show eCallN zBF (aCons (eV 0) (aCons (eV 3) aNil)) _=_;rw[zOR];show noE (zBF [mat (tab n f),rowD (numL ks)])=_;rw[hp ks hk];rfl)) (fun ks _ _=>rfl) (iSq (eV 1)) rfl (by omega)
  rw[zTQ rfl hc,zA0,hs]
theorem zOO(v:Int):∀M:List (List Nat),(∀l∈M,l.length<=1000)->∃rs,addAll v (M.map fun l=>rowD (numL l))=some rs/\rs.length=M.length
 |[],_=>⟨[],rfl,rfl⟩
 |l::M,h=>by
  obtain⟨rs,h1,h2⟩:=zOO v M fun x hx=>h x (by simp[hx])
  have hl:=h l (by simp);refine⟨.lst ((numL l).map Dt.int++[.int v])::rs,?_,by simp[h2]⟩;rw[qAn];unfold rowD;rw[addAll,if_pos (by simp[numL];omega)];show qGd _ (addAll v (M.map fun l=>rowD (numL l)))=_;rw[h1];rfl
theorem zTC{n:Nat}{f:Nat->Nat->Int}(h:6<n):zC0 [mat (tab n f)]=okR (.lst [.bl true,.bl true,.bl false]):=by
 have hlen:lenD [mat (tab n f)]=some (.int (n:Int)):=by unfold mat;simp[zC6]
 have h6:(6:Int)<(n:Int):=by omega
 have hp:zC4 [mat (tab n f)]=some (.error ⟨"TooMany","",.non⟩):=by
  unfold zC4 zJE;simp[startO,hlen,h6,sRaise0]
 generalize mat (tab n f)=W at hp;unfold zC0 zDI;refine zD3 rfl (zBV fun bb hb=>?_);simp;subst hb;refine zBV fun bb hb=>?_
 rw[zSB (x:=⟨"TooMany","",.non⟩) _ _ _ (by simp[hp]) (by simp)];simp;subst hb;simp
theorem zPW(ns:List Int)(hl:ns.length<=63)(hw:∀i∈ns,i.natAbs.log2<2 ^ 20):zIS [.scr ns]=okR (.bl true):=by
 have c50:=zJ3 ns 50 (by omega) (by omega);refine zD3 rfl (sg rfl (qAh 0) (si (k:=decide (cellv ns 50%4=3)) (r':=[some (.scr ns,0),some (.int (if cellv ns 50%4=3 then 8 else 6),0),none,none,none,none,none,none,none]) (eqi (b2 (c2 rfl rfl c50) rfl (mdi (by decide) rfl)) rfl rfl) (fun h=>?_) (fun h=>?_) ?_))
 ·rw[if_pos (of_decide_eq_true h)];exact ss rfl (qAh 0)
 ·rw[if_neg (of_decide_eq_false h)];rfl
 have hM:(0:Int)<=(if cellv ns 50%4=3 then 8 else 6)/\(if cellv ns 50%4=3 then(8:Int)else 6)<=9:=by split<;>omega
 generalize(if cellv ns 50%4=3 then(8:Int)else 6)=M at hM ⊢
 obtain⟨n,f,hn,hb,hs,ha⟩:=zOM hM ns;have hlen:lenD [mat (tab n f)]=some (.int (n:Int)):=by unfold mat;simp[zC6]
 have hd0:¬(mat (tab n f)).dep<=0:=by unfold mat;simp
 refine sgf (c2 rfl rfl ha) hd0 (c2 rfl rfl ha) ?_;by_cases h6:6<n
 ·have hk:=zTC (f:=f) h6;have hlit:∀ρ:Rh,eLst (aCons (eC (.bl true)) (aCons (eC (.bl true)) (aCons (eC (.bl false)) aNil))) ρ=okR (.lst [.bl true,.bl true,.bl false]):=fun ρ=>by simp
  exact sx (tb1 (b2 (bi1 rfl hlen) rfl (cmi (decide_eq_true (by omega))))) (sr (b2 (c1 rfl hk) (hlit _) (by simp[eqD,Dt.depL,Dt.eqL,Dt.eq])) ⟨qA9 0,qA9 0⟩)
 have h6':n<=6:=by omega
 have hcp:=zQL (tab n f) (by rw[zC6];omega);have hT:=zD2 (tab n f);have hTe:Dt.eq (mat (tab n f)) (mat (tab n f))=true:=by rw[zRO];simp
 obtain⟨p,hp⟩:=zWC n f hn hb;obtain⟨l,hl1,hl2,hsl⟩:=zUD (zQ9 h6' p);have hse:=zMK h6' (fun ks hk=>(hp ks hk).1) hsl;have hz:=zHG h6';have hfl:=qBi p (pow8 n);have hM1:(l.map fun i=>((pow8 n).filter p).getD i []).length<=1000:=by rw[qAl,hl2];omega
 have hM2:∀x∈l.map fun i=>((pow8 n).filter p).getD i [],x.length<=1000:=fun x hx=>by
  obtain⟨i,hi,rfl⟩:=qAq.mp hx;have hi2:=hl1 i hi;have:((pow8 n).filter p).getD i []∈(pow8 n).filter p:=by
   rw[qA0,qA5 hi2];exact qCr hi2
  exact zHD h6' (qAu.mp this).1
 generalize(l.map fun i=>((pow8 n).filter p).getD i [])=D at hM1 hM2 hsl hse
 have hsh:=zJS D hM1 hM2;have dD:=zD8 D;obtain⟨rs,ha1,ha2⟩:=zOO 0 D hM2;refine sp (tb1 (b2 (bi1 rfl hlen) rfl (cmi (decide_eq_false (by omega))))) (sg (el1 el0) (by rw[zIH];exact qAi (zD8 _) (by decide)) (zBV fun bb hbb=>?_));rw[zER,zCU (n:=n) (al0 (bi1 rfl hlen)) (by omega),zA0];refine zNC (fun q r=>∃lv o4,r=[some (.scr ns,0),some (.int M,0),some (mat (tab n f),0),some (zB6 (pow8 q),lv),o4,none,none,none,none]) ⟨10,none,rfl⟩ (fun q hq r hr=>?_) fun r hr=>?_
 ·obtain⟨lv,o4,rfl⟩:=hr;have hzq:=zHG (n:=q) (by omega);have hc:=b2 (o:=addD) (e1:=eV 3) (ρ:=[some (.scr ns),some (.int M),some (mat (tab n f)),some (zB6 (pow8 q)),some (.int (q:Int)),none,none,none,none]) rfl (zR1 (i:=3) (v:=9) (j:=4) (M:=pow8 q) (k:=q) rfl rfl (fun _=>rfl) (fun _=>rfl) (by omega) fun l hl=>zHD (by omega) hl) (zXJ _ _ (by simp;omega));exact zCJ hc (by
   have:frz (frzAt [3,8,4] [some (Dt.scr ns,0),some (.int M,0),some (mat (tab n f),0),some (zB6 (pow8 q),lv),some (.int (q:Int),0),none,none,none,none])=[some (.scr ns),some (.int M),some (mat (tab n f)),some (zB6 (pow8 q)),some (.int (q:Int)),none,none,none,none]:=rfl;exact(congrArg _ this).trans hc) ⟨_,_,rfl⟩ ⟨_,_,rfl⟩
 obtain⟨lv,o4,rfl⟩:=hr;subst hbb;have hcc:∀o4:Option Dt,eComp (iSq (eV 3)) 1 (.one 9) (tB (eB eqD (eCall zBD (aCons (eCall zB9 (aCons (eV 2) (aCons (eV 9) aNil))) aNil)) (eBi lenD (aCons (eV 9) aNil)))) (eV 9) [some (.scr ns),some (.int M),some (mat (tab n f)),some (zB6 (pow8 n)),o4,none,none,none,none]=okR (.lst (((pow8 n).filter p).map fun l=>rowD (numL l))):=fun o4=>by
  refine Mp.comp_filter (fun l:List Nat=>rowD (numL l)) (fun l=>rowD (numL l)) p (pow8 n) rfl (fun ks hk=>?_) (fun ks _ _=>rfl) (iSq (eV 3)) rfl (by omega);obtain⟨_,q,g1,g2,g3⟩:=hp ks hk;exact eqi (c1 (c2 rfl rfl g1) g2) (bi1 rfl (show lenD [rowD (numL ks)]=some (.int (ks.length:Int)) by unfold rowD;simp[numL])) g3
 have hso:∀o4:Option Dt,eBi sortLD (aCons (eComp (iSq (eV 3)) 1 (.one 9) (tB (eB eqD (eCall zBD (aCons (eCall zB9 (aCons (eV 2) (aCons (eV 9) aNil))) aNil)) (eBi lenD (aCons (eV 9) aNil)))) (eV 9)) aNil) [some (.scr ns),some (.int M),some (mat (tab n f)),some (zB6 (pow8 n)),o4,none,none,none,none]=okR (zB6 D):=fun o4=>bi1 (hcc o4) hsl
 refine zBV fun bb hbb=>?_
 have tail:∀lv:Nat,bb [some (.scr ns,0),some (.int M,0),some (mat (tab n f),0),some (zB6 (pow8 n),lv),o4,some (zB6 D,1),none,none,none]=okR (.rt (.bl true)):=fun lv=>by
  subst hbb;refine sg (c1 rfl hcp) hT (sg (c1 rfl hse) (qAi dD (by decide)) (sp (to0 (tn1 (k:=true) (tm1 (c2 rfl rfl hsh))) (ned rfl rfl (qAi hT (by decide)) (qAi hT (by decide)) hTe rfl)) (sw (r':=[some (.scr ns,0),some (.int M,0),some (mat (tab n f),0),some (zB6 (pow8 n),lv),o4,some (zB6 D,1),some (mat (tab n f),2),some (.lst rs,8+2),none]) ?_ (sw (zWK (k:=9) rfl el0 (by omega) (by simp) (by simp)) (sr (c2 (c1 rfl hse) rfl hsh) ⟨qA9 0,qA9 0⟩)))));show sForApp 7 8 0 [some (.scr ns,0),some (.int M,0),some (mat (tab n f),0),some (zB6 (pow8 n),lv),o4,some (zB6 D,1),some (mat (tab n f),2),some (.lst (D.map fun l=>rowD (numL l)),8+2),none]=_;unfold sForApp;simp only[qB9,qBa,ha1];rfl
 exact zCJ (d:=zB6 D) (P:=fun r=>bb r=okR (.rt (.bl true))) (hso _) (by
  show eBi sortLD _ (frz (frzAt [8,3,2] [some (Dt.scr ns,0),some (.int M,0),some (mat (tab n f),0),some (zB6 (pow8 n),lv),o4,none,none,none,none]))=_;exact hso _) (tail lv) (tail 0)
end Mp
set_option maxHeartbeats 4000000
namespace Q68
open PySem PyProof.Rows
open L2 hiding Rep RepL
open L3
open Mp
noncomputable def top(i:Nat):Stmt:=qDe.main.body.getD i (.Pass ⟨0,0,0,0⟩)
theorem wN:FnScope ["_law_script","_law_k","_law_cell_here","_law_mixed"] ["_law_script","_law_k"] (zAB (top 20)):=fsc
theorem zJK:FnScope ["_law_one","_law_other"] ["_law_one","_law_other"] (zAB (top 24)):=fsc
theorem wF:FnScope ["_law_table_here","_law_cell_here","_law_size","_law_i","_law_j","_law_row"] ["_law_table_here","_law_cell_here"] (zAB (top 27)):=fsc
theorem wD:FnScope ["_law_script","_law_at","_law_most","_law_full","_law_size","_law_table_here","_law_rest","_law_place","_law_kind","_law_k"] ["_law_script","_law_at","_law_most","_law_full"] (zAB (top 28)):=fsc
theorem wE:FnScope ["_law_script","_law_at","_law_most","_law_size","_law_kinds_here","_law_kind","_law_bits","_law_free","_law_rows","_law_i"] ["_law_script","_law_at","_law_most"] (zAB (top 22)):=fsc
theorem zMA:FnScope ["_law_script","_law_most"] ["_law_script","_law_most"] (zAB (top 29)):=fsc
theorem zKJ:FnScope ["_law_table_here"] ["_law_table_here"] (zAB (top 23)):=fsc
theorem zM8:FnScope ["thing"] ["thing"] (zAB (top 5)):=fsc
theorem zKH:FnScope ["numbers"] ["numbers"] (zAB (top 14)):=fsc
theorem zQU:FnScope ["table","numbers"] ["table","numbers"] (zAB (top 11)):=fsc
theorem zOP:FnScope ["table","numbers"] ["table","numbers"] (zAB (top 7)):=fsc
theorem zTV:FnScope ["one","other"] ["one","other"] (zAB (top 8)):=fsc
theorem uK:FnScope ["rows","column","at","lead","others"] ["rows","column","at"] (zAB (top 12)):=fsc
theorem zM7:FnScope ["size","number"] ["size","number"] (zAB (top 13)):=fsc
theorem wM:FnScope ["table","size","rows","column","leads"] ["table"] (zAB (top 10)):=fsc
theorem zM9:FnScope ["table","numbers"] ["table","numbers"] (zAB (top 17)):=fsc
theorem uA:FnScope ["table","sets","number"] ["table"] (zAB (top 18)):=fsc
theorem wK:FnScope ["_law_table_here","_law_kinds_here","e"] ["_law_table_here"] (zAB (top 31)):=fsc
theorem zKI:FnScope ["_law_table_here","_law_numbers"] ["_law_table_here","_law_numbers"] (zAB (top 25)):=fsc
theorem wG:FnScope ["_law_table_here","_law_rows","_law_many","_law_place","_law_some","_law_rest"] ["_law_table_here"] (zAB (top 26)):=fsc
theorem zJJ:FnScope ["_law_found"] ["_law_found"] (zAB (top 21)):=fsc
theorem uC:FnScope ["_law_found","_law_due","_law_row"] ["_law_found","_law_due"] (zAB (top 30)):=fsc
theorem wX:FnScope ["_law_script","_law_most","_law_table_here","_law_sets","_law_number","_law_due","_law_handed","_law_found","_law_some"] ["_law_script"] (zAB (top 32)):=fsc
section
variable{P:qGn}{w:World}{K:qA1}{mg:Str->Option Value}{base:Heap}
structure Bd(K:qA1)(mg:Str->Option Value):Prop where
 d0:Def K mg "_law_cell" (top 20)
 d1:Def K mg "_law_added" (top 24)
 d2:Def K mg "_law_mixed_up" (top 27)
 d3:Def K mg "_law_built" (top 28)
 d4:Def K mg "_law_table" (top 22)
 d5:Def K mg "_law_any" (top 29)
 d6:Def K mg "_law_copy" (top 23)
 d7:Def K mg "is_whole" (top 5)
 d8:Def K mg "are_whole" (top 14)
 d9:Def K mg "is_set" (top 11)
 d10:Def K mg "part_at" (top 7)
 d11:Def K mg "added" (top 8)
 d12:Def K mg "cleared" (top 12)
 d13:Def K mg "unit_row" (top 13)
 d14:Def K mg "undoing" (top 10)
 d15:Def K mg "can_undo" (top 17)
 d16:Def K mg "sets_of" (top 18)
 d17:Def K mg "_law_kinds" (top 31)
 d18:Def K mg "_law_part" (top 25)
 d19:Def K mg "_law_rank" (top 26)
 d20:Def K mg "_law_whole" (top 21)
 d21:Def K mg "_law_shaped" (top 30)
 e0:mg "ValueError" = none
 e1:mg "all" = none
 e2:mg "bool" = none
 e3:mg "enumerate" = none
 e4:mg "int" = none
 e5:mg "isinstance" = none
 e6:mg "len" = none
 e7:mg "list" = none
 e8:mg "max" = none
 e9:mg "min" = none
 e10:mg "range" = none
 e11:mg "sorted" = none
 e12:mg "zip" = none
structure Bn(P:qGn)(w:World)(K:qA1)(mg:Str->Option Value)(base:Heap):Type where
 S:Bd K mg
 wB:Addr
 wY:Value
 wC:Addr
 wA:Addr
 c_MOST_NUMBERS:RelV (V.int 6) wY/\mg "MOST_NUMBERS" = some wY
 z_TooMany:XNo K mg "TooMany" wB
 n_RoundError:XCls K mg "RoundError" wA
 n_NoSet:XCls K mg "NoSet" wC
 n_TooMany:XCls K mg "TooMany" wB
 q0:(∀c∈(["TooMany"]:List Str),∃C,clK K c=some C/\Xc.XIs K C/\kitV K C (V.ref wB)=some true)/\(∀c∈(["RoundError","NoSet"]:List Str),∃C,clK K c=some C/\Xc.XIs K C/\kitV K C (V.ref wB)=some false)
 q1:(∀c∈(["RoundError","NoSet","TooMany"]:List Str),∃C,clK K c=some C/\Xc.XIs K C/\kitV K C (V.ty "ValueError")=some true)/\(∀c∈([]:List Str),∃C,clK K c=some C/\Xc.XIs K C/\kitV K C (V.ty "ValueError")=some false)
 q2:(∀c∈(["NoSet"]:List Str),∃C,clK K c=some C/\Xc.XIs K C/\kitV K C (V.ref wC)=some true)/\(∀c∈(["RoundError","TooMany"]:List Str),∃C,clK K c=some C/\Xc.XIs K C/\kitV K C (V.ref wC)=some false)
 q3:(∀c∈(["RoundError","NoSet","TooMany"]:List Str),∃C,clK K c=some C/\qC4 K (.ref C) (.ref wA)=some true)
variable(B:Bn P w K mg base)
include B
theorem zB1:Has P w K mg base "_law_cell" 1 ["_law_script","_law_k"] (sp0 K mg 1 zAC):=by
 letI:Kc:=⟨K⟩;exact dfM B.S.d0 wN (fun _ _ _ _ _ _=>uw2 fun _ _=>rfl) fun hr hu h=>⟨_,(zA9 (pst 2 wN.nd zAF)
   (zA9 (zEA (zCD u_lt (pn 1) (zAN (zCF (K:=K)) rfl B.S.e6 qHe (zA1 (pn 0) zA8)) (zBB _)) (zAI (pst 2 wN.nd (zBT (zBP (K:=K)) (pn 0) (pn 1) (fun _ _=>rfl)))) zC7)
   (zA9 (pst 3 wN.nd (zAR zCV (zAR zGO (zAR zBQ (zAR zCV (pn 2) zAF) (zAR zGO zAF (zAR zBQ (pn 1) zAF))) zAF) zAF))
   (zAI (zB7 (zAR zBQ (zAR zGO (zAR zFO (pn 2) zAF) zAF) (zAR zCV (zAR zGO (pn 3) zAF) zAF))))))),(zBK (zAJ (zAQ (n:=0) [] zAG)
   (zAJ (zEK (dt_b (dz (zAD zDP (de_v 1) (dz (zC8 zCG (zA2 (de_v 0) zAA)))))) (zAQ (n:=0) [0,1] (zAD zC1 (de_v 0) (de_v 1))) zD4)
   (zAJ (zAQ (n:=0) [2,1] (zAD zBY (dz (zAD zGS (zAD zB4 (dz (zAD zBY (de_v 2) (dz zAG))) (dz (zAD zGS (dz zAG) (zAD zB4 (de_v 1) (dz zAG))))) (dz zAG))) (dz zAG)))
   (zBJ (n:=1) [2,3] (zAD zB4 (dz (zAD zGS (dz (zAD zFS (de_v 2) (dz zAG))) (dz zAG))) (dz (zAD zBY (dz (zAD zGS (de_v 3) (dz zAG))) (dz zAG)))))))) h)⟩
theorem zEC:Has P w K mg base "_law_added" 1 ["_law_one","_law_other"] (sp0 K mg 1 zAW):=by
 letI:Kc:=⟨K⟩;exact dfM B.S.d1 zJK (fun _ _ _ _ _ _=>uw2 fun _ _=>rfl) fun hr hu h=>⟨_,(zAI (zB7 (zAY rfl (cn ["0","1","_law_a","_law_b"] 2 (by kernel_rfl)) (zUX (K:=K) rfl B.S.e12 (zA1 (pn 0) (zA1 (pn 1) zA8))) (fun _ _ _ _=>zN3 (K:=K) rfl (zFE (pgn 2) (zFE (pgn 3) zN2))) (fun _ _ _ _=>zB0) (fun _ _ _ _=>(zAR zCV (zAR zBQ (pn 2) (pn 3)) zAF))))),(zBK (zBJ (n:=1) [0,1] (zAU (n:=0) (zW4 (zA2 (de_v 0) (zA2 (de_v 1) zAA))) (zQY (zFC 2 (zFC 3 zMF)) rfl) zBA (zAD zBY (zAD zB4 (de_v 2) (de_v 3)) (dz zAG)))) h)⟩
theorem zFB:Has P w K mg base "_law_mixed_up" 2 ["_law_table_here","_law_cell_here"] (sp0 K mg 0 zBZ):=by
 letI:Kc:=⟨K⟩;exact dfM B.S.d2 wF (fun _ _ _ _ _ _=>uw2 fun _ _=>rfl) fun hr hu h=>⟨_,(zA9 (pst 2 wF.nd (zAN (zCF (K:=K)) rfl B.S.e6 qHe (zA1 (pn 0) zA8)))
   (zA9 (pst 3 wF.nd (zAR zCV (pn 1) (pn 2)))
   (zA9 (pst 4 wF.nd (zAR zCV (zAR zBQ (zAR zBQ (pn 3) zAF) (zAR zCV (zAR zFO (pn 1) (pn 2)) (zAR zU6 (pn 2) zAF))) (pn 2)))
   (zA9 (pst 0 wF.nd (zAY rfl (cn ["_law_table_here","1","2","_law_i","_law_j","5","_law_k","_law_row"] 2 (by kernel_rfl)) (zPK (K:=K) rfl B.S.e3 (zA1 (pn 0) zA8)) (fun _ _ _ _=>zN3 (K:=K) rfl (zFE (pgn 6) (zFE (pgn 7) zN2))) (fun _ _ _ _=>zB0) (fun _ _ _ _=>(zHH (zCD (u_eq hu) (pn 6) (pn 4) (zBB _)) (zBO (zEC B) (by decide) hr rfl (zA1 (pn 7) (zA1 (zBT (zBP (K:=K)) (pn 0) (pn 3) (fun _ _=>rfl)) zA8))) (zEB (zK0 (K:=K) rfl) rfl B.S.e7 qJ3 (zA1 (pn 7) zA8))))))
   (zA9 (zCW qH0 rfl (zBW (K:=K) (pn 0)) (zCK (i:=5) wF.nd rfl oi) (zAI (zFV (zAR zCV (zAR zBQ (zBT (zBP (K:=K)) (pn 5) (pn 4) (fun _ _=>rfl)) (zBT (zBP (K:=K)) (pn 5) (pn 3) (fun _ _=>rfl))) zAF) (zFW (pn 5) (pn 4) zJO))))
   (zAI (zB7 (pn 0)))))))),(zBK (zAJ (zAQ (n:=0) [0] (zC8 zCG (zA2 (de_v 0) zAA)))
   (zAJ (zAQ (n:=0) [1,2] (zAD zBY (de_v 1) (de_v 2)))
   (zAJ (zAQ (n:=0) [2,3,1] (zAD zBY (zAD zB4 (zAD zB4 (de_v 3) (dz zAG)) (dz (zAD zBY (dz (zAD zFS (de_v 1) (de_v 2))) (dz (zAD zR3 (de_v 2) (dz zAG)))))) (de_v 2)))
   (zAJ (zAQ (n:=2) [4,5,0,3] (zAU (n:=1) (zXI (zA2 (de_v 0) zAA)) (zQY (zFC 6 (zFC 7 zMF)) rfl) zBA (zOB (dt_b (dz (zAD zEV (de_v 6) (de_v 4)))) (zAS (zA2 (de_v 7) (zA2 (zAD zC1 (de_v 0) (de_v 3)) zAA))) (zC8 zKB (zA2 (de_v 7) zAA)))))
   (zAJ (zO3 0 5 (de_v 4) (dz (zAD zBY (zAD zB4 (zAD zC1 (de_v 5) (de_v 4)) (zAD zC1 (de_v 5) (de_v 3))) (dz zAG))))
   (zHU 0)))))) h)⟩
theorem zHL:Has P w K mg base "_law_built" 3 ["_law_script","_law_at","_law_most","_law_full"] (sp0 K mg 1 zDF):=by
 letI:Kc:=⟨K⟩;exact dfM B.S.d3 wD (fun _ _ _ _ _ _=>uw4 fun _ _ _ _=>rfl) fun hr hu h=>⟨_,(zA9 (pst 4 wD.nd (zAR zCV (zBO (zB1 B) (by decide) hr rfl (zA1 (pn 0) (zA1 (pn 1) zA8))) (zAR zBQ (pn 2) zAF)))
   (zA9 (zCN (i:=5) wD.nd rfl oi rfl (cn ["0","1","2","3","_law_size","5","6","7","8","9","_law_i"] 1 (by kernel_rfl)) (zAX rfl B.S.e10 (zA1 (pn 4) zA8)) (fun _ _ _ _=>(pgn 10)) (fun _ _ _ _=>zB0) (fun _ _ _ _=>(zAY rfl (cn ["0","1","2","3","4","5","6","7","8","9","10","_law_j"] 1 (by kernel_rfl)) (zAX rfl B.S.e10 (zA1 (pn 4) zA8)) (fun _ _ _ _=>(pgn 11)) (fun _ _ _ _=>zB0) (fun _ _ _ _=>zAF))))
   (zA9 (pst 6 wD.nd zAF)
   (zA9 (pst 7 wD.nd zAF)
   (zA9 (zPH qH0 (zCD u_lt (pn 7) (pn 4) (zBB _)) (zA9 (pst 8 wD.nd (zAR zCV (zBO (zB1 B) (by decide) hr rfl (zA1 (pn 0) (zA1 (zAR zBQ (zAR zBQ (pn 1) zAF) (pn 7)) zA8))) zAF))
   (zAI (zEA (pt_w (zR6 (zCD (u_eq hu) (pn 8) zAF (zBB _)) (zMU (zGT (pt_m (pn 3)))))) (zA9 (pst 6 wD.nd (zAR zBQ (pn 6) zAF))
   (zAI (pst 7 wD.nd (zAR zBQ (pn 7) zAF)))) (zAI (zEA (pt_w (zR6 (zCD u_gt (pn 8) zAF (zBB _)) (zMU (zCD u_lt (zAR zBQ (pn 7) zAF) (pn 4) (zBB _))))) (zA9 (zFV zAF (zFW (zBT (zBP (K:=K)) (pn 5) (pn 7) (fun _ _=>rfl)) (zAR zBQ (pn 7) zAF) zJO))
   (zA9 (zFV zAF (zFW (zBT (zBP (K:=K)) (pn 5) (zAR zBQ (pn 7) zAF) (fun _ _=>rfl)) (pn 7) zJO))
   (zAI (pst 7 wD.nd (zAR zBQ (pn 7) zAF))))) (zA9 (zFV zAF (zFW (zBT (zBP (K:=K)) (pn 5) (pn 7) (fun _ _=>rfl)) (pn 7) zJO))
   (zAI (pst 7 wD.nd (zAR zBQ (pn 7) zAF))))))))))
   (zA9 (zCW qH0 rfl (zAX rfl B.S.e10 (zA1 zAF zA8)) (zCK (i:=9) wD.nd rfl oi) (zAI (zEA (zCD u_gt (pn 4) zAF (zBB _)) (zAI (pst 5 wD.nd (zBO (zFB B) (by decide) hr rfl (zA1 (pn 5) (zA1 (zBO (zB1 B) (by decide) hr rfl (zA1 (pn 0) (zA1 (zAR zBQ (zAR zBQ (pn 1) zAF) (pn 9)) zA8))) zA8))))) zC7)))
   (zAI (zB7 (zV1 (zA1 (pn 5) (zA1 (pn 6) zA8))))))))))),(zBK (zAJ (zAQ (n:=0) [0,1,2] (zAD zBY (zAS (zA2 (de_v 0) (zA2 (de_v 1) zAA))) (zAD zB4 (de_v 2) (dz zAG))))
   (zAJ (zAQ (n:=2) [4] (zAU (n:=1) (zD1 (zA2 (de_v 4) zAA)) (zAT 10) zBA (zAU (n:=0) (zD1 (zA2 (de_v 4) zAA)) (zAT 11) zBA zAG)))
   (zAJ (zAQ (n:=0) [] zAG)
   (zAJ (zAQ (n:=0) [] zAG)
   (zAJ (zQC (dt_b (dz (zAD zDP (de_v 7) (de_v 4)))) (zAJ (zAQ (n:=0) [0,7,1] (zAD zBY (zAS (zA2 (de_v 0) (zA2 (zB2 (zAD zB4 (zAD zB4 (de_v 1) (dz zAG)) (de_v 7))) zAA))) (dz zAG)))
   (zEK (zRS (dt_b (dz (zAD zEV (de_v 8) (dz zAG)))) (zGY (dt_m (de_v 3)))) (zAJ (zAQ (n:=1) [6] (zAD zB4 (de_v 6) (dz zAG)))
   (zAQ (n:=1) [7] (zAD zB4 (de_v 7) (dz zAG)))) (zEK (zRS (dt_b (dz (zAD zDP (de_v 8) (dz zAG)))) (dt_b (dz (zAD zDP (zAD zB4 (de_v 7) (dz zAG)) (de_v 4))))) (zAJ (zFJ 5 (n:=0) (de_v 7) (zAD zB4 (de_v 7) (dz zAG)) zAG)
   (zAJ (zFJ 5 (n:=0) (zAD zB4 (de_v 7) (dz zAG)) (de_v 7) zAG)
   (zAQ (n:=1) [7] (zAD zB4 (de_v 7) (dz zAG))))) (zAJ (zFJ 5 (n:=0) (de_v 7) (de_v 7) zAG)
   (zAQ (n:=1) [7] (zAD zB4 (de_v 7) (dz zAG))))))))
   (zAJ (zF1 (zD1 (zA2 zAG zAA)) (zEK (dt_b (dz (zAD zDP (de_v 4) (dz zAG)))) (zAQ (n:=0) [5,0,9,1] (zAS (zA2 (de_v 5) (zA2 (zB2 (zAS (zA2 (de_v 0) (zA2 (zB2 (zAD zB4 (zAD zB4 (de_v 1) (dz zAG)) (de_v 9))) zAA)))) zAA)))) zD4))
   (zBJ (n:=1) [5,6] (zW5 (n:=0) (zA2 (de_v 5) (zA2 (de_v 6) zAA)))))))))) h)⟩
theorem zHJ:Has P w K mg base "_law_table" 2 ["_law_script","_law_at","_law_most"] (sp0 K mg 2 zCE):=by
 letI:Kc:=⟨K⟩;exact dfM B.S.d4 wE (fun _ _ _ _ _ _=>uw3 fun _ _ _=>rfl) fun hr hu h=>⟨_,(zA9 (pst 3 wE.nd (zAR zCV (zBO (zB1 B) (by decide) hr rfl (zA1 (pn 0) (zA1 (pn 1) zA8))) (zAR zBQ (pn 2) zAF)))
   (zA9 (pst 4 wE.nd (zAN (zJ5 rfl) rfl B.S.e8 boot_max (zA1 zAF (zA1 (zAR zU6 (pn 3) (zAR zCV (zAR zFO (zBO (zB1 B) (by decide) hr rfl (zA1 (pn 0) (zA1 (pn 1) zA8))) zAF) zAF)) zA8))))
   (zA9 (pst 5 wE.nd (zAY rfl (cn ["_law_script","_law_at","2","3","_law_kinds_here","5","6","7","8","9","_law_k"] 1 (by kernel_rfl)) (zAX rfl B.S.e10 (zA1 (pn 3) zA8)) (fun _ _ _ _=>(pgn 10)) (fun _ _ _ _=>zB0) (fun _ _ _ _=>(zAR zCV (zAR zFO (zBO (zB1 B) (by decide) hr rfl (zA1 (pn 0) (zA1 (zAR zBQ (pn 1) zAF) zA8))) (zAR zBQ (pn 10) zAF)) (pn 4)))))
   (zA9 (zEA (zCD u_gt (zAR zCV (zAR zFO (zBO (zB1 B) (by decide) hr rfl (zA1 (pn 0) (zA1 (pn 1) zA8))) zAF) zAF) zAF (zBB _)) (zAI (pst 5 wE.nd (zAY rfl (cn ["0","1","2","3","_law_kinds_here","5","6","7","8","9","_law_k"] 1 (by kernel_rfl)) (zAX rfl B.S.e10 (zA1 (pn 3) zA8)) (fun _ _ _ _=>(pgn 10)) (fun _ _ _ _=>zB0) (fun _ _ _ _=>(zAR zCV (pn 10) (pn 4)))))) zC7)
   (zA9 (pst 6 wE.nd (zAY rfl (cn ["_law_script","_law_at","2","3","4","5","6","7","8","9","_law_i"] 1 (by kernel_rfl)) (zAX rfl B.S.e10 (zA1 (pn 4) zA8)) (fun _ _ _ _=>(pgn 10)) (fun _ _ _ _=>zB0) (fun _ _ _ _=>(zBO (zB1 B) (by decide) hr rfl (zA1 (pn 0) (zA1 (zAR zBQ (zAR zBQ (pn 1) zAF) (pn 10)) zA8))))))
   (zA9 (pst 7 wE.nd (zFX u_gt (zAR zCV (zAR zFO (zBO (zB1 B) (by decide) hr rfl (zA1 (pn 0) (zA1 (pn 1) zA8))) zAF) zAF) zAF (zBB _)))
   (zA9 (pst 8 wE.nd (zAY rfl (cn ["0","1","2","3","_law_kinds_here","5","_law_bits","7","8","9","_law_i"] 1 (by kernel_rfl)) (zAX rfl B.S.e10 (zA1 (pn 4) zA8)) (fun _ _ _ _=>(pgn 10)) (fun _ _ _ _=>zB0) (fun _ _ _ _=>(zAY rfl (cn ["0","1","2","3","4","5","_law_bits","7","8","9","_law_i","_law_j"] 1 (by kernel_rfl)) (zAX rfl B.S.e10 (zA1 (pn 4) zA8)) (fun _ _ _ _=>(pgn 11)) (fun _ _ _ _=>zB0) (fun _ _ _ _=>(zAR zCV (zAR zFO (zBT (zBP (K:=K)) (pn 6) (zAN (zJ5 rfl) rfl B.S.e8 boot_max (zA1 (pn 10) (zA1 (pn 11) zA8))) (fun _ _=>rfl)) (zAR zBQ (zAR zGO (zAN (zJ4 rfl) rfl B.S.e9 boot_min (zA1 (pn 10) (zA1 (pn 11) zA8))) (zAN (zJ4 rfl) rfl B.S.e9 boot_min (zA1 (pn 10) (zA1 (pn 11) zA8)))) zAF)) zAF))))))
   (zA9 (zCW qH0 rfl (zAX rfl B.S.e10 (zA1 (pn 4) zA8)) (zCK (i:=9) wE.nd rfl oi) (zAI (zFV (zAR zGO (zBT (zBP (K:=K)) (zBT (zBP (K:=K)) (pn 8) (pn 9) (fun _ _=>rfl)) (pn 9) (fun _ _=>rfl)) (zEB zOG rfl B.S.e4 boot_int (zA1 (pn 7) zA8))) (zFW (zBT (zBP (K:=K)) (pn 8) (pn 9) (fun _ _=>rfl)) (pn 9) zJO))))
   (zAI (zB7 (zAY rfl (cn ["0","1","2","_law_size","4","_law_kind","6","7","_law_rows","9","_law_i"] 1 (by kernel_rfl)) (zAX rfl B.S.e10 (zA1 (pn 3) zA8)) (fun _ _ _ _=>(pgn 10)) (fun _ _ _ _=>zB0) (fun _ _ _ _=>(zAY rfl (cn ["0","1","2","3","4","_law_kind","6","7","_law_rows","9","_law_i","_law_j"] 1 (by kernel_rfl)) (zAX rfl B.S.e10 (zA1 (pn 3) zA8)) (fun _ _ _ _=>(pgn 11)) (fun _ _ _ _=>zB0) (fun _ _ _ _=>(zBT (zBP (K:=K)) (zBT (zBP (K:=K)) (pn 8) (zBT (zBP (K:=K)) (pn 5) (pn 10) (fun _ _=>rfl)) (fun _ _=>rfl)) (zBT (zBP (K:=K)) (pn 5) (pn 11) (fun _ _=>rfl)) (fun _ _=>rfl)))))))))))))))),(zBK (zAJ (zAQ (n:=0) [0,1,2] (zAD zBY (zAS (zA2 (de_v 0) (zA2 (de_v 1) zAA))) (zAD zB4 (de_v 2) (dz zAG))))
   (zAJ (zAQ (n:=0) [3,0,1] (zC8 zRZ (zA2 zAG (zA2 (zAD zR3 (de_v 3) (dz (zAD zBY (dz (zAD zFS (zAS (zA2 (de_v 0) (zA2 (de_v 1) zAA))) (dz zAG))) (dz zAG)))) zAA))))
   (zAJ (zAQ (n:=1) [4,3,0,1] (zAU (n:=0) (zD1 (zA2 (de_v 3) zAA)) (zAT 10) zBA (zAD zBY (dz (zAD zFS (zAS (zA2 (de_v 0) (zA2 (zB2 (zAD zB4 (de_v 1) (dz zAG))) zAA))) (zAD zB4 (de_v 10) (dz zAG)))) (de_v 4))))
   (zAJ (zEK (dt_b (dz (zAD zDP (dz (zAD zBY (dz (zAD zFS (zAS (zA2 (de_v 0) (zA2 (de_v 1) zAA))) (dz zAG))) (dz zAG))) (dz zAG)))) (zAQ (n:=1) [4,3] (zAU (n:=0) (zD1 (zA2 (de_v 3) zAA)) (zAT 10) zBA (zAD zBY (de_v 10) (de_v 4)))) zD4)
   (zAJ (zAQ (n:=2) [0,9,4,1] (zAU (n:=1) (zD1 (zA2 (de_v 4) zAA)) (zAT 10) zBA (zAS (zA2 (de_v 0) (zA2 (zB2 (zAD zB4 (zAD zB4 (de_v 1) (dz zAG)) (de_v 10))) zAA)))))
   (zAJ (zAQ (n:=0) [0,1] (zAD zDP (dz (zAD zBY (dz (zAD zFS (zAS (zA2 (de_v 0) (zA2 (de_v 1) zAA))) (dz zAG))) (dz zAG))) (dz zAG)))
   (zAJ (zAQ (n:=2) [9,4,6] (zAU (n:=1) (zD1 (zA2 (de_v 4) zAA)) (zAT 10) zBA (zAU (n:=0) (zD1 (zA2 (de_v 4) zAA)) (zAT 11) zBA (zAD zBY (dz (zAD zFS (zAD zC1 (de_v 6) (dz (zC8 zRZ (zA2 (de_v 10) (zA2 (de_v 11) zAA))))) (zAD zB4 (dz (zAD zGS (dz (zC8 zRY (zA2 (de_v 10) (zA2 (de_v 11) zAA)))) (dz (zC8 zRY (zA2 (de_v 10) (zA2 (de_v 11) zAA)))))) (dz zAG)))) (dz zAG)))))
   (zAJ (zF1 (zD1 (zA2 (de_v 4) zAA)) (zFJ 8 (n:=0) (de_v 9) (de_v 9) (zAD zGS (zAD zC1 (zAD zC1 (de_v 8) (de_v 9)) (de_v 9)) (dz (zC8 zWA (zA2 (de_v 7) zAA))))))
   (zBJ (n:=2) [9,3,8,5] (zAU (n:=1) (zD1 (zA2 (de_v 3) zAA)) (zAT 10) zBA (zAU (n:=0) (zD1 (zA2 (de_v 3) zAA)) (zAT 11) zBA (zAD zC1 (zAD zC1 (de_v 8) (zAD zC1 (de_v 5) (de_v 10))) (zAD zC1 (de_v 5) (de_v 11)))))))))))))) h)⟩
theorem zJZ:Has P w K mg base "_law_any" 4 ["_law_script","_law_most"] (sp0 K mg 0 zCP):=by
 letI:Kc:=⟨K⟩;exact dfM B.S.d5 zMA (fun _ _ _ _ _ _=>uw2 fun _ _=>rfl) fun hr hu h=>⟨_,(zA9 (zEA (zCD (u_eq hu) (zAR zCV (zBO (zB1 B) (by decide) hr rfl (zA1 (pn 0) (zA1 zAF zA8))) zAF) zAF (zBB _)) (zAI (zB7 (zBO (zHJ B) (by decide) hr rfl (zA1 (pn 0) (zA1 zAF (zA1 (pn 1) zA8)))))) zC7)
   (zAI (zB7 (zBT (zBP (K:=K)) (zBO (zHL B) (by decide) hr rfl (zA1 (pn 0) (zA1 zAF (zA1 (pn 1) (zA1 zJU zA8))))) zAF (fun _ _=>rfl))))),(zBK (zAJ (zEK (dt_b (dz (zAD zEV (dz (zAD zBY (zAS (zA2 (de_v 0) (zA2 zAG zAA))) (dz zAG))) (dz zAG)))) (zBJ (n:=0) [0,1] (zB2 (zAS (zA2 (de_v 0) (zA2 zAG (zA2 (de_v 1) zAA)))))) zD4)
   (zBJ (n:=0) [0,1] (zAD zC1 (zAS (zA2 (de_v 0) (zA2 zAG (zA2 (de_v 1) (zA2 zK6 zAA))))) (dz zAG)))) h)⟩
theorem zIO:Has P w K mg base "_law_copy" 1 ["_law_table_here"] (sp0 K mg 2 zCZ):=by
 letI:Kc:=⟨K⟩;exact dfM B.S.d6 zKJ (fun _ _ _ _ _ _=>uw1 fun _=>rfl) fun hr hu h=>⟨_,(zAI (zB7 (zAY rfl (cn ["0","_law_row"] 1 (by kernel_rfl)) (zBW (K:=K) (pn 0)) (fun _ _ _ _=>(pgn 1)) (fun _ _ _ _=>zB0) (fun _ _ _ _=>(zEB (zK0 (K:=K) rfl) rfl B.S.e7 qJ3 (zA1 (pn 1) zA8)))))),(zBK (zBJ (n:=2) [0] (zAU (n:=1) (zC5 (de_v 0)) (zAT 1) zBA (zC8 zKB (zA2 (de_v 1) zAA)))) h)⟩
theorem zJX:Has P w K mg base "is_whole" 1 ["thing"] (sp0 K mg 0 zB8):=by
 letI:Kc:=⟨K⟩;exact dfM B.S.d7 zM8 (fun _ _ _ _ _ _=>uw1 fun _=>rfl) fun hr hu h=>⟨_,(zAI (zB7 (zPM (zAN zBX rfl B.S.e5 qH1 (zA1 (pn 0) (zA1 (zDZ (v:=.ty "int") rfl B.S.e4 boot_int rfl) zA8))) (zKX (zV3 (zAN zBX rfl B.S.e5 qH1 (zA1 (pn 0) (zA1 (zDZ (v:=.ty "bool") rfl B.S.e2 boot_bool rfl) zA8)))))))),(zBK (zBJ (n:=0) [0] (zL4 (dz (zGZ (by decide) (de_v 0))) (zRU (dz (zGZ (by decide) (de_v 0)))))) h)⟩
theorem zIL:Has P w K mg base "are_whole" 2 ["numbers"] (sp0 K mg 0 zCY):=by
 letI:Kc:=⟨K⟩;exact dfM B.S.d8 zKH (fun _ _ _ _ _ _=>uw1 fun _=>rfl) fun hr hu h=>⟨_,(zAI (zB7 (zAN (zVJ rfl) rfl B.S.e1 boot_all (zA1 (zAY rfl (cn ["0","number"] 1 (by kernel_rfl)) (zBW (K:=K) (pn 0)) (fun _ _ _ _=>(pgn 1)) (fun _ _ _ _=>zB0) (fun _ _ _ _=>(zBO (zJX B) (by decide) hr rfl (zA1 (pn 1) zA8)))) zA8)))),(zBK (zBJ (n:=0) [0] (zC8 zS0 (zA2 (zB2 (zAU (n:=0) (zC5 (de_v 0)) (zAT 1) zBA (zAS (zA2 (de_v 1) zAA)))) zAA))) h)⟩
theorem zNA:Has P w K mg base "is_set" 3 ["table","numbers"] (sp0 K mg 0 zFF):=by
 letI:Kc:=⟨K⟩;exact dfM B.S.d9 zQU (fun _ _ _ _ _ _=>uw2 fun _ _=>rfl) fun hr hu h=>⟨_,(zAI (zB7 (zPM (zBO (zIL B) (by decide) hr rfl (zA1 (pn 1) zA8)) (zKX (zFX (u_eq hu) (pn 1) (zAY rfl (cn ["0","numbers","i"] 1 (by kernel_rfl)) (zAX rfl B.S.e10 (zA1 (zAN (zCF (K:=K)) rfl B.S.e6 qHe (zA1 (pn 0) zA8)) zA8)) (fun _ _ _ _=>(pgn 2)) (fun _ _ _ _=>zEX (zCD (u_in (K:=K)) (pn 2) (pn 1) rfl)) (fun _ _ _ _=>(pn 2))) (zBB _)))))),(zBK (zBJ (n:=0) [1,0] (zL4 (zAS (zA2 (de_v 1) zAA)) (zAD zEV (de_v 1) (zAU (n:=0) (zD1 (zA2 (zC8 zCG (zA2 (de_v 0) zAA)) zAA)) (zAT 2) (dt_b (dz (zAD zWX (de_v 2) (de_v 1)))) (de_v 2))))) h)⟩
theorem zLU:Has P w K mg base "part_at" 1 ["table","numbers"] (sp0 K mg 2 zB9):=by
 letI:Kc:=⟨K⟩;exact dfM B.S.d10 zOP (fun _ _ _ _ _ _=>uw2 fun _ _=>rfl) fun hr hu h=>⟨_,(zAI (zB7 (zAY rfl (cn ["table","numbers","i"] 1 (by kernel_rfl)) (zBW (K:=K) (pn 1)) (fun _ _ _ _=>(pgn 2)) (fun _ _ _ _=>zB0) (fun _ _ _ _=>(zAY rfl (cn ["table","1","i","j"] 1 (by kernel_rfl)) (zBW (K:=K) (pn 1)) (fun _ _ _ _=>(pgn 3)) (fun _ _ _ _=>zB0) (fun _ _ _ _=>(zBT (zBP (K:=K)) (zBT (zBP (K:=K)) (pn 0) (pn 2) (fun _ _=>rfl)) (pn 3) (fun _ _=>rfl)))))))),(zBK (zBJ (n:=2) [1,0] (zAU (n:=1) (zC5 (de_v 1)) (zAT 2) zBA (zAU (n:=0) (zC5 (de_v 1)) (zAT 3) zBA (zAD zC1 (zAD zC1 (de_v 0) (de_v 2)) (de_v 3))))) h)⟩
theorem zPP:Has P w K mg base "added" 1 ["one","other"] (sp0 K mg 1 zFZ):=by
 letI:Kc:=⟨K⟩;exact dfM B.S.d11 zTV (fun _ _ _ _ _ _=>uw2 fun _ _=>rfl) fun hr hu h=>⟨_,(zAI (zB7 (zAY rfl (cn ["one","other","j"] 1 (by kernel_rfl)) (zAX rfl B.S.e10 (zA1 (zAN (zCF (K:=K)) rfl B.S.e6 qHe (zA1 (pn 0) zA8)) zA8)) (fun _ _ _ _=>(pgn 2)) (fun _ _ _ _=>zB0) (fun _ _ _ _=>(zAR zWO (zBT (zBP (K:=K)) (pn 0) (pn 2) (fun _ _=>rfl)) (zBT (zBP (K:=K)) (pn 1) (pn 2) (fun _ _=>rfl))))))),(zBK (zBJ (n:=1) [0,1] (zAU (n:=0) (zD1 (zA2 (zC8 zCG (zA2 (de_v 0) zAA)) zAA)) (zAT 2) zBA (zAD zUJ (zAD zC1 (de_v 0) (de_v 2)) (zAD zC1 (de_v 1) (de_v 2))))) h)⟩
theorem zLW:Has P w K mg base "cleared" 2 ["rows","column","at"] (sp0 K mg 1 zDE):=by
 letI:Kc:=⟨K⟩;exact dfM B.S.d12 uK (fun _ _ _ _ _ _=>uw3 fun _ _ _=>rfl) fun hr hu h=>⟨_,(zA9 (pst 3 uK.nd (zBT (zBP (K:=K)) (pn 0) (pn 2) (fun _ _=>rfl)))
   (zA9 (zCN (i:=4) uK.nd rfl oi rfl (cn ["0","column","2","lead","4","row"] 1 (by kernel_rfl)) (zBW (K:=K) (pn 0)) (fun _ _ _ _=>(pgn 5)) (fun _ _ _ _=>zB0) (fun _ _ _ _=>(zHH (zCD (u_eq hu) (zBT (zBP (K:=K)) (pn 5) (pn 1) (fun _ _=>rfl)) zAF (zBB _)) (zBO (zPP B) (by decide) hr rfl (zA1 (pn 5) (zA1 (pn 3) zA8))) (pn 5))))
   (zA9 (zFV (zBT (zBP (K:=K)) (pn 4) (pn 1) (fun _ _=>rfl)) (zFW (pn 4) (pn 2) zJO))
   (zA9 (zFV (pn 3) (zFW (pn 4) (pn 1) zJO))
   (zAI (zB7 (pn 4))))))),(zBK (zAJ (zAQ (n:=0) [0,2] (zAD zC1 (de_v 0) (de_v 2)))
   (zAJ (zAQ (n:=1) [0,3,1] (zAU (n:=0) (zC5 (de_v 0)) (zAT 5) zBA (zOB (dt_b (dz (zAD zEV (zAD zC1 (de_v 5) (de_v 1)) (dz zAG)))) (zB2 (zAS (zA2 (de_v 5) (zA2 (de_v 3) zAA)))) (de_v 5))))
   (zAJ (zQE 4 (de_v 2) (de_v 1))
   (zAJ (zQF 4 [3] (de_v 1) (de_v 3))
   (zHU 4))))) h)⟩
theorem zJW:Has P w K mg base "unit_row" 1 ["size","number"] (sp0 K mg 1 zCO):=by
 letI:Kc:=⟨K⟩;exact dfM B.S.d13 zM7 (fun _ _ _ _ _ _=>uw2 fun _ _=>rfl) fun hr hu h=>⟨_,(zAI (zB7 (zAY rfl (cn ["0","number","i"] 1 (by kernel_rfl)) (zAX rfl B.S.e10 (zA1 (pn 0) zA8)) (fun _ _ _ _=>(pgn 2)) (fun _ _ _ _=>zB0) (fun _ _ _ _=>(zHH (zCD (u_eq hu) (pn 2) (pn 1) (zBB _)) zAF zAF))))),(zBK (zBJ (n:=1) [1,0] (zAU (n:=0) (zD1 (zA2 (de_v 0) zAA)) (zAT 2) zBA (zOB (dt_b (dz (zAD zEV (de_v 2) (de_v 1)))) zAG zAG))) h)⟩
theorem zLT:Has P w K mg base "undoing" 3 ["table"] (sp0 K mg 2 zDD):=by
 letI:Kc:=⟨K⟩;exact dfM B.S.d14 wM (fun _ _ _ _ _ _=>uw1 fun _=>rfl) fun hr hu h=>⟨_,(zA9 (pst 1 wM.nd (zAN (zCF (K:=K)) rfl B.S.e6 qHe (zA1 (pn 0) zA8)))
   (zA9 (pst 2 wM.nd (zAY rfl (cn ["table","size","2","3","4","i"] 1 (by kernel_rfl)) (zAX rfl B.S.e10 (zA1 (pn 1) zA8)) (fun _ _ _ _=>(pgn 5)) (fun _ _ _ _=>zB0) (fun _ _ _ _=>(zAR zBQ (zBT (zBP (K:=K)) (pn 0) (pn 5) (fun _ _=>rfl)) (zBO (zJW B) (by decide) hr rfl (zA1 (pn 1) (zA1 (pn 5) zA8)))))))
   (zA9 (zCW qH0 rfl (zAX rfl B.S.e10 (zA1 (pn 1) zA8)) (zCK (i:=3) wM.nd rfl oi) (zA9 (zCN (i:=4) wM.nd rfl oi rfl (cn ["0","1","rows","column","4","at"] 1 (by kernel_rfl)) (zN1 rfl B.S.e10 (zA1 (pn 3) (zA1 (pn 1) zA8))) (fun _ _ _ _=>(pgn 5)) (fun _ _ _ _=>zEX (zCD (u_eq hu) (zBT (zBP (K:=K)) (zBT (zBP (K:=K)) (pn 2) (pn 5) (fun _ _=>rfl)) (pn 3) (fun _ _=>rfl)) zAF (zBB _))) (fun _ _ _ _=>(pn 5)))
   (zA9 (zEA (zGT (pt_l (K:=K) (pn 4))) (zAI (zB7 zR7)) zC7)
   (zAI (pst 2 wM.nd (zBO (zLW B) (by decide) hr rfl (zA1 (pn 2) (zA1 (pn 3) (zA1 (zBT (zBP (K:=K)) (pn 4) zAF (fun _ _=>rfl)) zA8)))))))))
   (zAI (zB7 (zAY rfl (cn ["0","size","2","3","4","row"] 1 (by kernel_rfl)) (zBW (K:=K) (pn 2)) (fun _ _ _ _=>(pgn 5)) (fun _ _ _ _=>zB0) (fun _ _ _ _=>(zKW (u_sl (K:=K)) (pn 5) (zMY (pn 1)) zMZ)))))))),(zBK (zAJ (zAQ (n:=0) [0] (zC8 zCG (zA2 (de_v 0) zAA)))
   (zAJ (zAQ (n:=2) [0,1] (zAU (n:=1) (zD1 (zA2 (de_v 1) zAA)) (zAT 5) zBA (zAD zB4 (zAD zC1 (de_v 0) (de_v 5)) (zAS (zA2 (de_v 1) (zA2 (de_v 5) zAA))))))
   (zAJ (zF1 (zD1 (zA2 (de_v 1) zAA)) (zAJ (zAQ (n:=1) [3,1,2] (zAU (n:=0) (zXH (zA2 (de_v 3) (zA2 (de_v 1) zAA))) (zAT 5) (dt_b (dz (zAD zEV (zAD zC1 (zAD zC1 (de_v 2) (de_v 5)) (de_v 3)) (dz zAG)))) (de_v 5)))
   (zAJ (zEK (zGY (dt_l (de_v 4))) (zBJ (n:=2) [] zRV) zD4)
   (zAQ (n:=1) [2,3,4] (zAS (zA2 (de_v 2) (zA2 (de_v 3) (zA2 (zAD zC1 (de_v 4) (dz zAG)) zAA))))))))
   (zBJ (n:=2) [2,1] (zAU (n:=1) (zC5 (de_v 2)) (zAT 5) zBA (zW8 (de_v 5) (do_e (de_v 1)) zW3)))))) h)⟩
theorem zJY:Has P w K mg base "can_undo" 4 ["table","numbers"] (sp0 K mg 0 zBF):=by
 letI:Kc:=⟨K⟩;exact dfM B.S.d15 zM9 (fun _ _ _ _ _ _=>uw2 fun _ _=>rfl) fun hr hu h=>⟨_,(zAI (zB7 (zPM (zBO (zNA B) (by decide) hr rfl (zA1 (pn 0) (zA1 (pn 1) zA8))) (zKX (zFX zSV (zBO (zLT B) (by decide) hr rfl (zA1 (zBO (zLU B) (by decide) hr rfl (zA1 (pn 0) (zA1 (pn 1) zA8))) zA8)) zR7 (zBB _)))))),(zBK (zBJ (n:=0) [0,1] (zL4 (zAS (zA2 (de_v 0) (zA2 (de_v 1) zAA))) (zAD zSD (zAS (zA2 (zB2 (zAS (zA2 (de_v 0) (zA2 (de_v 1) zAA)))) zAA)) (dz zRV)))) h)⟩
theorem zEY:HasX P w K mg base "sets_of" 5 ["table"] (spE K mg 10 zC4):=by
 letI:Kc:=⟨K⟩;exact dfX B.S.d16 uA (fun _ _ _ _ _ _=>uw1 fun _=>rfl) fun hr hu h=>⟨_,(zA9 (zEA (zCD u_gt (zAN (zCF (K:=K)) rfl B.S.e6 qHe (zA1 (pn 0) zA8)) (zSS rfl B.c_MOST_NUMBERS.2 B.c_MOST_NUMBERS.1) (zBB _)) (zAI (zPJ (zV5 B.z_TooMany rfl (zA1 zV2 zA8)) zNZ rfl)) zC7)
   (zA9 (pst 1 uA.nd (zDQ (zA1 (zDQ zA8) zA8)))
   (zA9 (zCW zST rfl (zAX rfl B.S.e10 (zA1 (zAN (zCF (K:=K)) rfl B.S.e6 qHe (zA1 (pn 0) zA8)) zA8)) (zCK (i:=2) uA.nd rfl oi) (zAI (pst 1 uA.nd (zAR zBQ (pn 1) (zAY rfl (cn ["0","1","number","numbers"] 1 (by kernel_rfl)) (zBW (K:=K) (pn 1)) (fun _ _ _ _=>(pgn 3)) (fun _ _ _ _=>zB0) (fun _ _ _ _=>(zAR zBQ (pn 3) (zDQ (zA1 (pn 2) zA8)))))))))
   (zAI (zB7 (zAN (zNL hr.units) rfl B.S.e11 boot_sorted (zA1 (zAY rfl (cn ["table","1","2","numbers"] 1 (by kernel_rfl)) (zBW (K:=K) (pn 1)) (fun _ _ _ _=>(pgn 3)) (fun _ _ _ _=>zEX (pt_m (zBO (zJY B) (by decide) hr rfl (zA1 (pn 0) (zA1 (pn 3) zA8))))) (fun _ _ _ _=>(pn 3))) zA8))))))),(zBK (zAJ (zEK (dt_b (dz (zAD zDP (dz (zC8 zCG (zA2 (de_v 0) zAA))) (dz zAG)))) (zO2 B.z_TooMany (zA2 zW6 zAA)) zD4)
   (zAJ (zAQ (n:=10) [] (zDU (n:=9) (zA2 (zDU (n:=8) zAA) zAA)))
   (zAJ (zF1 (zD1 (zA2 (zC8 zCG (zA2 (de_v 0) zAA)) zAA)) (zTM (n:=2) 1 (zAU (n:=1) (zC5 (de_v 1)) (zAT 3) zBA (zAD zB4 (de_v 3) (zDU (n:=0) (zA2 (de_v 2) zAA))))))
   (zQD 1 1 3 (dt_m (zQJ (zA2 (de_v 0) (zA2 (de_v 3) zAA)))))))) h)⟩
theorem zHK:Has P w K mg base "_law_kinds" 6 ["_law_table_here"] (sp0 K mg 1 zC0):=by
 letI:Kc:=⟨K⟩;exact dfM B.S.d17 wK (fun _ _ _ _ _ _=>uw1 fun _=>rfl) fun hr hu h=>⟨_,(zA9 (pst 1 wK.nd (zDQ zA8))
   (zA9 (zPI (i:=2) (zPF (zPG (zUZ (zEY B) (by decide) hr rfl (zA1 (pn 0) zA8)))) ⟨rfl,rfl⟩ (qGg B.n_RoundError.gm) rfl wK.nd rfl rfl (fun _=>(zAI (pst 1 wK.nd (zDQ (zA1 (zAN zGE rfl B.S.e5 qH1 (zA1 (pn 2) (zA1 (zR9 rfl B.n_TooMany.gm) zA8))) (zA1 (zAN zGE rfl B.S.e5 qH1 (zA1 (pn 2) (zA1 (zDZ (v:=.ty "ValueError") rfl B.S.e0 zGF rfl) zA8))) (zA1 (zAN zGE rfl B.S.e5 qH1 (zA1 (pn 2) (zA1 (zR9 rfl B.n_NoSet.gm) zA8))) zA8))))))))
   (zAI (zB7 (pn 1))))),(zBK (zAJ (zAQ (n:=9) [] (zDU (n:=8) zAA))
   (zAJ (zVZ (te:=fun E'=>zGL (spE K mg 10 zC4) [] E' _) none [0] B.q3 (fun _=>zB2 (n:=10) (zHW (zA2 (de_v 0) zAA))) (zAQ (n:=1) [2] (zDU (n:=0) (zA2 (zOA B.q0.1 B.q0.2 (de_v 2)) (zA2 (zOA B.q1.1 B.q1.2 (de_v 2)) (zA2 (zOA B.q2.1 B.q2.2 (de_v 2)) zAA))))))
   (zHU 1))) h)⟩
theorem zIN:Has P w K mg base "_law_part" 1 ["_law_table_here","_law_numbers"] (sp0 K mg 2 zB9):=by
 letI:Kc:=⟨K⟩;exact dfM B.S.d18 zKI (fun _ _ _ _ _ _=>uw2 fun _ _=>rfl) fun hr hu h=>⟨_,(zAI (zB7 (zAY rfl (cn ["_law_table_here","_law_numbers","_law_i"] 1 (by kernel_rfl)) (zBW (K:=K) (pn 1)) (fun _ _ _ _=>(pgn 2)) (fun _ _ _ _=>zB0) (fun _ _ _ _=>(zAY rfl (cn ["_law_table_here","1","_law_i","_law_j"] 1 (by kernel_rfl)) (zBW (K:=K) (pn 1)) (fun _ _ _ _=>(pgn 3)) (fun _ _ _ _=>zB0) (fun _ _ _ _=>(zBT (zBP (K:=K)) (zBT (zBP (K:=K)) (pn 0) (pn 2) (fun _ _=>rfl)) (pn 3) (fun _ _=>rfl)))))))),(zBK (zBJ (n:=2) [1,0] (zAU (n:=1) (zC5 (de_v 1)) (zAT 2) zBA (zAU (n:=0) (zC5 (de_v 1)) (zAT 3) zBA (zAD zC1 (zAD zC1 (de_v 0) (de_v 2)) (de_v 3))))) h)⟩
theorem zIM:Has P w K mg base "_law_rank" 2 ["_law_table_here"] (sp0 K mg 1 zBD):=by
 letI:Kc:=⟨K⟩;exact dfM B.S.d19 wG (fun _ _ _ _ _ _=>uw1 fun _=>rfl) fun hr hu h=>⟨_,(zA9 (zCN (i:=1) wG.nd rfl oi rfl (cn ["0","1","2","3","4","5","_law_row"] 1 (by kernel_rfl)) (zBW (K:=K) (pn 0)) (fun _ _ _ _=>(pgn 6)) (fun _ _ _ _=>zB0) (fun _ _ _ _=>(zEB (zK0 (K:=K) rfl) rfl B.S.e7 qJ3 (zA1 (pn 6) zA8))))
   (zA9 (pst 2 wG.nd zAF)
   (zA9 (zCW qH0 rfl (zAX rfl B.S.e10 (zA1 (zAN (zCF (K:=K)) rfl B.S.e6 qHe (zA1 (pn 0) zA8)) zA8)) (zCK (i:=3) wG.nd rfl oi) (zA9 (pst 4 wG.nd (zAY rfl (cn ["0","1","2","_law_place","4","5","_law_row"] 1 (by kernel_rfl)) (zBW (K:=K) (pn 1)) (fun _ _ _ _=>(pgn 6)) (fun _ _ _ _=>zEX (zCD (u_eq hu) (zBT (zBP (K:=K)) (pn 6) (pn 3) (fun _ _=>rfl)) zAF (zBB _))) (fun _ _ _ _=>(pn 6))))
   (zAI (zEA (zCD u_gt (zAN (zCF (K:=K)) rfl B.S.e6 qHe (zA1 (pn 4) zA8)) zAF (zBB _)) (zA9 (pst 2 wG.nd (zAR zBQ (pn 2) zAF))
   (zA9 (zCN (i:=5) wG.nd rfl oi rfl (cn ["0","1","2","_law_place","4","5","_law_row"] 1 (by kernel_rfl)) (zBW (K:=K) (pn 1)) (fun _ _ _ _=>(pgn 6)) (fun _ _ _ _=>zEX (zCD (u_eq hu) (zBT (zBP (K:=K)) (pn 6) (pn 3) (fun _ _=>rfl)) zAF (zBB _))) (fun _ _ _ _=>(pn 6)))
   (zAI (pst 1 wG.nd (zAR zBQ (pn 5) (zAY rfl (cn ["0","1","2","3","_law_some","5","_law_row"] 1 (by kernel_rfl)) (zBW (K:=K) (zKW (u_sl (K:=K)) (pn 4) (zMY zAF) zMZ)) (fun _ _ _ _=>(pgn 6)) (fun _ _ _ _=>zB0) (fun _ _ _ _=>(zBO (zEC B) (by decide) hr rfl (zA1 (pn 6) (zA1 (zBT (zBP (K:=K)) (pn 4) zAF (fun _ _=>rfl)) zA8)))))))))) zC7))))
   (zAI (zB7 (pn 2)))))),(zBK (zAJ (zAQ (n:=2) [0] (zAU (n:=1) (zC5 (de_v 0)) (zAT 6) zBA (zC8 zKB (zA2 (de_v 6) zAA))))
   (zAJ (zAQ (n:=0) [] zAG)
   (zAJ (zF1 (zD1 (zA2 (zC8 zCG (zA2 (de_v 0) zAA)) zAA)) (zAJ (zAQ (n:=1) [1,3] (zAU (n:=0) (zC5 (de_v 1)) (zAT 6) (dt_b (dz (zAD zEV (zAD zC1 (de_v 6) (de_v 3)) (dz zAG)))) (de_v 6)))
   (zEK (dt_b (dz (zAD zDP (dz (zC8 zCG (zA2 (de_v 4) zAA))) (dz zAG)))) (zAJ (zAQ (n:=1) [2] (zAD zB4 (de_v 2) (dz zAG)))
   (zAJ (zAQ (n:=1) [1,3] (zAU (n:=0) (zC5 (de_v 1)) (zAT 6) (dt_b (dz (zAD zEV (zAD zC1 (de_v 6) (de_v 3)) (dz zAG)))) (de_v 6)))
   (zAQ (n:=1) [5,4] (zAD zB4 (de_v 5) (zAU (n:=1) (zC5 (zW8 (de_v 4) (do_e (dz zAG)) zW3)) (zAT 6) zBA (zAS (zA2 (de_v 6) (zA2 (zAD zC1 (de_v 4) (dz zAG)) zAA)))))))) zD4)))
   (zHU 2)))) h)⟩
theorem zHI:Has P w K mg base "_law_whole" 1 ["_law_found"] (sp0 K mg 0 zB8):=by
 letI:Kc:=⟨K⟩;exact dfM B.S.d20 zJJ (fun _ _ _ _ _ _=>uw1 fun _=>rfl) fun hr hu h=>⟨_,(zAI (zB7 (zPM (zAN zBX rfl B.S.e5 qH1 (zA1 (pn 0) (zA1 (zDZ (v:=.ty "int") rfl B.S.e4 boot_int rfl) zA8))) (zKX (zV3 (zAN zBX rfl B.S.e5 qH1 (zA1 (pn 0) (zA1 (zDZ (v:=.ty "bool") rfl B.S.e2 boot_bool rfl) zA8)))))))),(zBK (zBJ (n:=0) [0] (zL4 (dz (zGZ (by decide) (de_v 0))) (zRU (dz (zGZ (by decide) (de_v 0)))))) h)⟩
theorem zDR:Has P w K mg base "_law_shaped" 2 ["_law_found","_law_due"] (sp0 K mg 0 zCA):=by
 letI:Kc:=⟨K⟩;exact dfM B.S.d21 uC (fun _ _ _ _ _ _=>uw2 fun _ _=>rfl) fun hr hu h=>⟨_,(zA9 (zEA (pt_w (zSQ (zGT (pt_m (zAN zBX rfl B.S.e5 qH1 (zA1 (pn 0) (zA1 (zDZ (v:=.ty "list") rfl B.S.e7 qJ3 rfl) zA8))))) (zMT (zCD (u_ne hu) (zAN (zCF (K:=K)) rfl B.S.e6 qHe (zA1 (pn 0) zA8)) (zAN (zCF (K:=K)) rfl B.S.e6 qHe (zA1 (pn 1) zA8)) (zBB _))))) (zAI (zB7 zJU)) zC7)
   (zA9 (zCW qH0 rfl (zBW (K:=K) (pn 0)) (zCK (i:=2) uC.nd rfl oi) (zAI (zEA (pt_w (zSQ (zGT (pt_m (zAN zBX rfl B.S.e5 qH1 (zA1 (pn 2) (zA1 (zDZ (v:=.ty "list") rfl B.S.e7 qJ3 rfl) zA8))))) (zMT (zGT (pt_m (zAN (zVJ rfl) rfl B.S.e1 boot_all (zA1 (zAY rfl (cn ["0","1","2","_law_one"] 1 (by kernel_rfl)) (zBW (K:=K) (pn 2)) (fun _ _ _ _=>(pgn 3)) (fun _ _ _ _=>zB0) (fun _ _ _ _=>(zBO (zHI B) (by decide) hr rfl (zA1 (pn 3) zA8)))) zA8))))))) (zAI (zB7 zJU)) zC7)))
   (zAI (zB7 (zFX (u_eq hu) (pn 0) (pn 1) (zBB _)))))),(zBK (zAJ (zEK (zTL (zGY (dt_m (dz (zGZ (by decide) (de_v 0))))) (dt_b (dz (zAD zUK (dz (zC8 zCG (zA2 (de_v 0) zAA))) (dz (zC8 zCG (zA2 (de_v 1) zAA))))))) (zBJ (n:=0) [] zK6) zD4)
   (zAJ (zW0 [0] (zC5 (de_v 0)) (zAT 2) (zEK (zTL (zGY (dt_m (dz (zGZ (by decide) (de_v 2))))) (zGY (dt_m (dz (zC8 zS0 (zA2 (zB2 (zAU (n:=0) (zC5 (de_v 2)) (zAT 3) zBA (zAS (zA2 (de_v 3) zAA)))) zAA)))))) (zBJ (n:=0) [] zK6) zD4))
   (zBJ (n:=0) [0,1] (zAD zEV (de_v 0) (de_v 1))))) h)⟩
theorem zVE{f:Addr}{fd:qH2}(F:Fun K "law" "law" (top 32) f fd):FnOk P w K mg base CX0 7 f fd ["_law_script"] (zGP K):=by
 letI:Kc:=⟨K⟩;refine(F.ok wX (sp:=sp0 K mg 0 zIS) (fun vs H Q E h=>zJR h) (fun cdv A outer s H vs Q E hr h=>?_)).imp (zPX zPW);have hu:=hr.units;exact⟨_,(zA9 (pst 1 wX.nd zAF)
   (zA9 (zEA (zCD (u_eq hu) (zAR zCV (zBO (zB1 B) (by decide) hr rfl (zA1 (pn 0) (zA1 zAF zA8))) zAF) zAF (zBB _)) (zAI (pst 1 wX.nd zAF)) zC7)
   (zA9 (pst 2 wX.nd (zBO (zJZ B) (by decide) hr rfl (zA1 (pn 0) (zA1 (pn 1) zA8))))
   (zA9 (zEA (zCD u_gt (zAN (zCF (K:=K)) rfl B.S.e6 qHe (zA1 (pn 2) zA8)) zAF (zBB _)) (zAI (zB7 (zFX (u_eq hu) (zBO (zHK B) (by decide) hr rfl (zA1 (pn 2) zA8)) (zDQ (zA1 zJU (zA1 zJU (zA1 zJU zA8)))) (zBB _)))) zC7)
   (zA9 (pst 3 wX.nd (zDQ (zA1 (zDQ zA8) zA8)))
   (zA9 (zCW qH0 rfl (zAX rfl B.S.e10 (zA1 (zAN (zCF (K:=K)) rfl B.S.e6 qHe (zA1 (pn 2) zA8)) zA8)) (zCK (i:=4) wX.nd rfl oi) (zAI (pst 3 wX.nd (zAR zBQ (pn 3) (zAY rfl (cn ["0","1","2","3","_law_number","5","6","7","8","_law_some"] 1 (by kernel_rfl)) (zBW (K:=K) (pn 3)) (fun _ _ _ _=>(pgn 9)) (fun _ _ _ _=>zB0) (fun _ _ _ _=>(zAR zBQ (pn 9) (zDQ (zA1 (pn 4) zA8)))))))))
   (zA9 (pst 5 wX.nd (zAN (zNL hr.units) rfl B.S.e11 boot_sorted (zA1 (zAY rfl (cn ["0","1","_law_table_here","3","4","5","6","7","8","_law_some"] 1 (by kernel_rfl)) (zBW (K:=K) (pn 3)) (fun _ _ _ _=>(pgn 9)) (fun _ _ _ _=>zEX (zCD (u_eq hu) (zBO (zIM B) (by decide) hr rfl (zA1 (zBO (zIN B) (by decide) hr rfl (zA1 (pn 2) (zA1 (pn 9) zA8))) zA8)) (zAN (zCF (K:=K)) rfl B.S.e6 qHe (zA1 (pn 9) zA8)) (zBB _))) (fun _ _ _ _=>(pn 9))) zA8)))
   (zA9 (pst 6 wX.nd (zBO (zIO B) (by decide) hr rfl (zA1 (pn 2) zA8)))
   (zA9 (pst 7 wX.nd (zR8 (zEY B) (by decide) hr zRM rfl (zA1 (pn 6) zA8)))
   (zA9 (zEA (pt_w (zSQ (zGT (pt_m (zBO (zDR B) (by decide) hr rfl (zA1 (pn 7) (zA1 (pn 5) zA8))))) (zMT (zCD (u_ne hu) (pn 6) (pn 2) (zBB _))))) (zAI (zB7 zJU)) zC7)
   (zA9 (zCW qH0 rfl (zBW (K:=K) (pn 7)) (zCK (i:=8) wX.nd rfl oi) (zAI (zMW (zV4 qDi qDc qDd zNE (pn 8) (zA1 zAF zA8)))))
   (zA9 (zMW (zV4 qDi qDc qDd zNE (pn 7) (zA1 (zDQ zA8) zA8)))
   (zAI (zB7 (zBO (zDR B) (by decide) hr rfl (zA1 (zR8 (zEY B) (by decide) hr zRM rfl (zA1 (pn 6) zA8)) (zA1 (pn 5) zA8))))))))))))))))),(zBK (zAJ (zAQ (n:=0) [] zAG)
   (zAJ (zEK (dt_b (dz (zAD zEV (dz (zAD zBY (zAS (zA2 (de_v 0) (zA2 zAG zAA))) (dz zAG))) (dz zAG)))) (zAQ (n:=0) [] zAG) zD4)
   (zAJ (zAQ (n:=0) [0,1] (zAS (zA2 (de_v 0) (zA2 (de_v 1) zAA))))
   (zAJ (zEK (dt_b (dz (zAD zDP (dz (zC8 zCG (zA2 (de_v 2) zAA))) (dz zAG)))) (zBJ (n:=0) [2] (zAD zEV (zAS (zA2 (de_v 2) zAA)) (zDU (n:=0) (zA2 zK6 (zA2 zK6 (zA2 zK6 zAA)))))) zD4)
   (zAJ (zAQ (n:=10) [] (zDU (n:=9) (zA2 (zDU (n:=8) zAA) zAA)))
   (zAJ (zF1 (zD1 (zA2 (zC8 zCG (zA2 (de_v 2) zAA)) zAA)) (zAQ (n:=1) [3,8,4] (zAD zB4 (de_v 3) (zAU (n:=1) (zC5 (de_v 3)) (zAT 9) zBA (zAD zB4 (de_v 9) (zDU (n:=0) (zA2 (de_v 4) zAA)))))))
   (zAJ (zAQ (n:=1) [8,3,2] (zC8 zQO (zA2 (zB2 (zAU (n:=0) (zC5 (de_v 3)) (zAT 9) (dt_b (dz (zAD zEV (zAS (zA2 (zB2 (zAS (zA2 (de_v 2) (zA2 (de_v 9) zAA)))) zAA)) (dz (zC8 zCG (zA2 (de_v 9) zAA)))))) (de_v 9))) zAA)))
   (zAJ (zAQ (n:=2) [2] (zAS (zA2 (de_v 2) zAA)))
   (zAJ (zAQ (n:=10) [6] (zHW (zA2 (de_v 6) zAA)))
   (zAJ (zEK (zTL (zGY (dt_m (zAS (zA2 (de_v 7) (zA2 (de_v 5) zAA))))) (dt_b (dz (zAD zUK (de_v 6) (de_v 2))))) (zBJ (n:=0) [] zK6) zD4)
   (zAJ (zO4 7 8 0)
   (zAJ (zW1 7 (n:=9) (zDU (n:=8) zAA))
   (zBJ (n:=0) [5,6] (zAS (zA2 (zB2 (zHW (zA2 (de_v 6) zAA))) (zA2 (de_v 5) zAA)))))))))))))))) h)⟩
end
theorem all_mk{l:qCz}{w:World}{K:qA1}{h:Heap}{mg:Str->Option Value}{fa f22 wA wC wB:Addr}{yB yS yL:Option Addr}{wJ uJ wT:ClassData}{uB yD uS:Array (Option Value)}(X:K.In h)(G:h.Ns qGr mg)(hfa:mg "law" = some (.ref fa))
  {od22 an22:Option Addr} {sl22:Array (Option Value)} {oc22 kV22 dc22 pm22 cd22 ct22:Value} {t0:Tok}
  (S:Bd K mg)
  (a22:qBh K qGr "law" = some (some (.ref f22)))
  (l22:K.lookup f22=some ⟨oc22,od22,.func (qB3 "law" "law" (zC3 (top 32)) (zBE (top 32)) (zAB (top 32)) .none kV22 dc22 pm22 an22 cd22 ct22),sl22⟩)
  (c22:qBv K cd22 "law" = true)
  (k22:qB1 K (.ref f22)=true)
  (y0:qBh K qGr "MOST_NUMBERS" = some (some (.int 6 t0)))
  (wH:qBh K qGr "RoundError" = some (some (.ref wA)))
  (uZ:K.lookup wA=some ⟨.type "type",yB,.cls wJ,uB⟩)
  (uX:xcD wA wJ uB=true)
  (wO:qBp K wA=some wJ)
  (yY:PySem.W.excTail wJ.mro=true)
  (wQ:qBr K (.ref wA)=some (.type "type"))
  (yA:qAt K (.ref wA) "__getattribute__" = some (some (.builtin "BaseException.__getattribute__")))
  (uU:qAt K (.ref wA) "__getattr__" = some none)
  (uV:qCf K wA=true)
  (uW:qAt K (.ref wA) "__class__" = some (some (.builtin "object.__class__")))
  (uY:qDf K wA (.type "object")=some true)
  (uT:qAo K (.ref wA) (.type "ValueError")=some true)
  (wP:qAo K (.ref wA) (.type "BaseException")=some true)
  (wR:qBh K qGr "NoSet" = some (some (.ref wC)))
  (yT:K.lookup wC=some ⟨.type "type",yS,.cls uJ,yD⟩)
  (yW:xcD wC uJ yD=true)
  (uR:qBp K wC=some uJ)
  (wA2:PySem.W.excTail uJ.mro=true)
  (uQ:qBr K (.ref wC)=some (.type "type"))
  (yX:qAt K (.ref wC) "__getattribute__" = some (some (.builtin "BaseException.__getattribute__")))
  (yQ:qAt K (.ref wC) "__getattr__" = some none)
  (yP:qCf K wC=true)
  (yU:qAt K (.ref wC) "__class__" = some (some (.builtin "object.__class__")))
  (yR:qDf K wC (.type "object")=some true)
  (yV:qAo K (.ref wC) (.type "ValueError")=some true)
  (wA1:qAo K (.ref wC) (.type "BaseException")=some true)
  (wI:qBh K qGr "TooMany" = some (some (.ref wB)))
  (yH:K.lookup wB=some ⟨.type "type",yL,.cls wT,uS⟩)
  (yG:xcD wB wT uS=true)
  (uE:qBp K wB=some wT)
  (wA0:PySem.W.excTail wT.mro=true)
  (uH:qBr K (.ref wB)=some (.type "type"))
  (yF:qAt K (.ref wB) "__getattribute__" = some (some (.builtin "BaseException.__getattribute__")))
  (yN:qAt K (.ref wB) "__getattr__" = some none)
  (yK:qCf K wB=true)
  (yI:qAt K (.ref wB) "__class__" = some (some (.builtin "object.__class__")))
  (yO:qDf K wB (.type "object")=some true)
  (yE:qAo K (.ref wB) (.type "ValueError")=some true)
  (yZ:qAo K (.ref wB) (.type "BaseException")=some true)
  (ycg:qEn K (.builtin "object.__class__") "__get__" = some (some (.builtin "getset_descriptor.__get__")))
  (yct:qF4 K (.builtin "object.__class__")=some true)
  (yM:qB1 K (.ref wB)=true)
  (yJ:qAt K (.ref wB) "__init__" = some (some (.builtin "ValueError.__init__")))
  (uI:qAo K (.ref wB) (.ref wB)=some true)
  (wU:qAo K (.ref wA) (.ref wB)=some false)
  (wV:(wA==wB)=false)
  (uO:qAo K (.ref wC) (.ref wB)=some false)
  (uN:(wC==wB)=false)
  (yC:qAo K (.ref wC) (.ref wC)=some true)
  (uF:qAo K (.ref wA) (.ref wC)=some false)
  (uD:(wA==wC)=false)
  (uM:qAo K (.ref wB) (.ref wC)=some false)
  (uL:(wB==wC)=false)
  (wS:qAo K (.ref wA) (.ref wA)=some true)
  (uG:qAo K (.ref wC) (.ref wA)=some true)
  (wW:qAo K (.ref wB) (.ref wA)=some true)
  :∃fd:qH2,(∀(s:qGk)(v:Value),qJ5 s fd ⟨[v],[]⟩ [("_law_script",v)])/\∀base:Heap,K.In base->base.Ns qGr mg->FnOk l.prog w K mg base CX0 7 fa fd ["_law_script"] (zGP K):=by
 have e:=hfa.symm.trans (qC2 X G a22);cases e;have c_MOST_NUMBERS:RelV (V.int 6) (.int 6 t0)/\mg "MOST_NUMBERS" = some (.int 6 t0):=⟨⟨_,rfl⟩,qC2 X G y0⟩;have wL:Xc.XIs K wA:=⟨zJL uZ uX,yA,uU,uV,uW,ycg,yct,uY⟩;have uP:Xc.XIs K wC:=⟨zJL yT yW,yX,yQ,yP,yU,ycg,yct,yR⟩;have wZ:Xc.XIs K wB:=⟨zJL yH yG,yF,yN,yK,yI,ycg,yct,yO⟩;have n_RoundError:XCls K mg "RoundError" wA:=⟨zE3 wH,qC2 X G wH,wL⟩;have n_NoSet:XCls K mg "NoSet" wC:=⟨zE3 wR,qC2 X G wR,uP⟩;have n_TooMany:XCls K mg "TooMany" wB:=⟨zE3 wI,qC2 X G wI,wZ⟩;have z_TooMany:XNo K mg "TooMany" wB:=⟨n_TooMany,yM,yJ⟩;have q0_y:(∀c∈(["TooMany"]:List Str),∃C,clK K c=some C/\Xc.XIs K C/\kitV K C (V.ref wB)=some true):=by
  intro c h;simp only[qAj,qBm,or_false]at h;subst h;exact⟨wB,zE3 wI,wZ,(zL0 uE uH uI)⟩
 have q0_n:(∀c∈(["RoundError","NoSet"]:List Str),∃C,clK K c=some C/\Xc.XIs K C/\kitV K C (V.ref wB)=some false):=by
  intro c h;simp only[qAj,qBm,or_false]at h;rcases h with rfl|rfl
  ·exact⟨wA,zE3 wH,wL,(zFG uE uH wU wV)⟩
  ·exact⟨wC,zE3 wR,uP,(zFG uE uH uO uN)⟩
 have q0:(∀c∈(["TooMany"]:List Str),∃C,clK K c=some C/\Xc.XIs K C/\kitV K C (V.ref wB)=some true)/\(∀c∈(["RoundError","NoSet"]:List Str),∃C,clK K c=some C/\Xc.XIs K C/\kitV K C (V.ref wB)=some false):=⟨q0_y,q0_n⟩
 have q1_y:(∀c∈(["RoundError","NoSet","TooMany"]:List Str),∃C,clK K c=some C/\Xc.XIs K C/\kitV K C (V.ty "ValueError")=some true):=by
  intro c h;simp only[qAj,qBm,or_false]at h;rcases h with rfl|rfl|rfl
  ·exact⟨wA,zE3 wH,wL,(zG1 uT)⟩
  ·exact⟨wC,zE3 wR,uP,(zG1 yV)⟩
  ·exact⟨wB,zE3 wI,wZ,(zG1 yE)⟩
 have q1_n:(∀c∈([]:List Str),∃C,clK K c=some C/\Xc.XIs K C/\kitV K C (V.ty "ValueError")=some false):=by
  intro c h;simp only[qAj,qBm,or_false]at h
 have q1:(∀c∈(["RoundError","NoSet","TooMany"]:List Str),∃C,clK K c=some C/\Xc.XIs K C/\kitV K C (V.ty "ValueError")=some true)/\(∀c∈([]:List Str),∃C,clK K c=some C/\Xc.XIs K C/\kitV K C (V.ty "ValueError")=some false):=⟨q1_y,q1_n⟩
 have q2_y:(∀c∈(["NoSet"]:List Str),∃C,clK K c=some C/\Xc.XIs K C/\kitV K C (V.ref wC)=some true):=by
  intro c h;simp only[qAj,qBm,or_false]at h;subst h;exact⟨wC,zE3 wR,uP,(zL0 uR uQ yC)⟩
 have q2_n:(∀c∈(["RoundError","TooMany"]:List Str),∃C,clK K c=some C/\Xc.XIs K C/\kitV K C (V.ref wC)=some false):=by
  intro c h;simp only[qAj,qBm,or_false]at h;rcases h with rfl|rfl
  ·exact⟨wA,zE3 wH,wL,(zFG uR uQ uF uD)⟩
  ·exact⟨wB,zE3 wI,wZ,(zFG uR uQ uM uL)⟩
 have q2:(∀c∈(["NoSet"]:List Str),∃C,clK K c=some C/\Xc.XIs K C/\kitV K C (V.ref wC)=some true)/\(∀c∈(["RoundError","TooMany"]:List Str),∃C,clK K c=some C/\Xc.XIs K C/\kitV K C (V.ref wC)=some false):=⟨q2_y,q2_n⟩
 have q3:(∀c∈(["RoundError","NoSet","TooMany"]:List Str),∃C,clK K c=some C/\qC4 K (.ref C) (.ref wA)=some true):=by
  intro c h;simp only[qAj,qBm,or_false]at h;rcases h with rfl|rfl|rfl
  ·exact⟨wA,zE3 wH,zG6 wP wO wQ wS⟩
  ·exact⟨wC,zE3 wR,zG6 wP wO wQ uG⟩
  ·exact⟨wB,zE3 wI,zG6 wP wO wQ wW⟩
 refine⟨qB3 "law" "law" (zC3 (top 32)) (zBE (top 32)) (zAB (top 32)) .none kV22 dc22 pm22 an22 cd22 ct22,fun s v=>.of_eq rfl,fun base _ _=>?_⟩;exact zVE ⟨S,_,_,_,_,c_MOST_NUMBERS,z_TooMany,n_RoundError,n_NoSet,n_TooMany,q0,q1,q2,q3⟩ (zRK (st:=(top 32)) l22 c22 k22)
theorem walk{l:qCz}{q:qGn}{loose:List Str}{XP:(Str->Option Value)->Heap->Prop}{d:DefRec}{K:Params->qA1}{YP:World->Heap->Prop}(hn:l.most=some 63)(hdf:d.params.defaults=[])(hY:∀(w:World) (h:Heap),YP w h->(K w.params).In h)
  (F:∀(w:World)(mg:Str->Option Value)(fa:Addr)(h:Heap),(K w.params).In h->h.Ns qGr mg->mg d.name=some (.ref fa) ->
   TbE (K w.params) []/\∃fd:qH2,(∀(s:qGk)(u:Value),qJ5 s fd ⟨[u],[]⟩ [("_law_script",u)])/\∀base:Heap,(K w.params).In base->base.Ns qGr mg->FnOk l.prog w (K w.params) mg base CX0 7 fa fd ["_law_script"] (zGP (K w.params))) :
  qEh q loose XP YP l.row.toRowW d [] (fun f vs=>qEq f vs):=
 L3.walk_of0 (n:=63) (k:=7) (x:="_law_script") hn (by decide) hdf ⟨rfl,by decide,by decide⟩ hY F
end Q68
open PySem PySem.W PyProof.Rows
set_option maxRecDepth 100000 in
set_option maxHeartbeats 0 in
theorem PySem.Challenge.cw_fourway_k68_all_sets_told_holds : PySem.Challenge.rw_fourway_k68_all_sets_told.Holds := by
 refine hdZ.2 ?_;dsimp only[hdZ]
 k_fill
 refine Q68.walk (l:=qBs) rfl rfl (fun w h Y=>PySem.W.kIn_of Y) ?F
 case F=>
  intro w mg fa h KX G hmg;have T:L3.Tb (L2.KOf KX) [] none none none none:=by
   dsimp only[L2.KOf];exact⟨L3.mk1_none (by k_is),L3.mk1_none (by k_is),L3.mk1_none (by k_is),L3.mk1_none (by k_is)⟩
  refine' ⟨⟨_,_,_,_,T⟩,Q68.all_mk KX G hmg (by constructor<;>first|exact L3.mkD KX G (by k_is) (by k_is) (by k_is) (by k_is)|exact PySem.W.mg_none_of KX G (by k_is)|exact L2.mkDD KX G (by k_is) (by k_is) (by k_is) (by k_is) (by k_is) (by rfl)) (by k_is) (by k_is) (by k_is) (by k_is) (by k_is) (by k_is) (by k_is) (by rfl) (by k_is) (by rfl) (by k_is) (by k_is) (by k_is) (by k_is) (by k_is) (by k_is) (by k_is) (by k_is) (by k_is) (by k_is) (by rfl) (by k_is) (by rfl) (by k_is) (by k_is) (by k_is) (by k_is) (by k_is) (by k_is) (by k_is) (by k_is) (by k_is) (by k_is) (by rfl) (by k_is) (by rfl) (by k_is) (by k_is) (by k_is) (by k_is) (by k_is) (by k_is) (by k_is) (by k_is) (by k_is) (by k_is) (by k_is) (by k_is) (by k_is) (by k_is) (by rfl) (by k_is) (by rfl) (by k_is) (by k_is) (by rfl) (by k_is) (by rfl) (by k_is) (by k_is) (by k_is)⟩
