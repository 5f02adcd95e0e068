import PyProof.Rows.All
import Wide.All
import OpenK.AllK
import Wide.FinOn
import Lean
import PyProof.EqAt
import PyProof.EqKinds
import PyProof.TupleCall
import PyProof.NeKinds
import KE.KLam
import KE.KNestM
import PySem.Challenge.RW_fourway_k55_whole_webs_of_changes
set_option Elab.async false
set_option linter.all false
set_option maxRecDepth 100000
open Array renaming length_toList->qB9,getElem?_toList->qBe,getElem?_eq_some_iff->qC5,toList_append->qG1,toList_push->qGn,toList->qGp
open Bool renaming false_ne_true->qAj,and_eq_true->qBh,false_eq_true->qD6,and_false->qE4,eq_iff_iff->qEi,not_eq_true'->qEy,and_true->qF2,or_true->qFm,or_false->qG7,or_eq_true->qGz
open Char renaming toNat->qId
open Classical renaming propDecidable->qA1
open False renaming elim->qA4
open ForInStep renaming yield->qD9
open Iff renaming rfl->qI6
open Int renaming toNat_natCast->qBc,emod_nonneg->qBi,emod_lt_of_pos->qCu,toNat_of_nonneg->qG5,ediv_one->qGr,mul_one->qGx,ediv_nonneg->qH6,le_refl->qI7
open List renaming getElem?_eq_some_iff->qA2,getD_eq_getElem?_getD->qA3,getElem?_eq_getElem->qA6,replicate->qA7,range->qA9,count_eq_zero->qAa,mem_cons->qAb,getElem?_append_right->qAc,getElem?_map->qAd,count_append->qAe,getElem?_append_left->qAf,length_map->qAg,size_toArray->qAh,map_cons->qAm,length_cons->qAn,getElem?_set_self->qAo,mem_cons_of_mem->qAp,getElem?_set_ne->qAq,count_cons_self->qAr,length_append->qAs,mem_cons_self->qAw,lookup_cons->qAy,not_mem_nil->qAz,drop_eq_getElem_cons->qB0,mem_append_right->qB1,count_cons_of_ne->qB2,append_assoc->qB3,lookup->qB7,cons_append->qB8,replicate_succ->qBa,eq_append_cons_of_mem->qBf,Nodup->qBl,mem_of_getElem?->qBo,reverse_reverse->qBp,mem_map->qBq,pairwise_cons->qBr,take_of_length_le->qBs,mem_append->qBt,append_nil->qBv,getElem?_cons_succ->qC2,map_map->qC4,mergeSort_perm->qC7,map_append->qCb,contains_cons->qCc,count_reverse->qCd,getElem?_replicate->qCf,drop_zero->qCi,flatten_cons->qCm,nodup_cons->qCo,map_congr_left->qCp,count_cons->qCq,mem_singleton->qCt,count_pos_iff->qCv,mem_range->qCw,length_nil->qCx,length_range->qCy,filterMap_cons->qCz,eraseIdx_cons_succ->qD0,pairwise_mergeSort->qD1,filter_cons_of_neg->qD2,getElem?_cons_zero->qD3,getElem_mem->qD5,of_mem_zip->qD7,length_replicate->qD8,drop_left'->qDd,length_eraseIdx_of_lt->qDh,mem_append_left->qDi,getElem?_range->qDo,nil_append->qDs,filter_cons_of_pos->qDw,take_left'->qDx,eraseIdxIfInBounds_toArray->qE0,nodup_append->qE1,ext_getElem?->qE2,pairwise_map->qE3,getElem?_reverse->qE6,getElem?_eq_none->qE7,take_append_drop->qE8,length_take->qEa,all_eq_true->qEb,eq_nil_of_length_eq_zero->qEc,length_eraseIdx->qEd,any_cons->qEe,mem_filter->qEh,perm_iff_count->qEl,perm_ext_iff_of_nodup->qEm,getElem_range->qEo,extract_eq_drop_take->qEr,pairwise_iff_getElem->qEu,getElem?_set->qEz,all_cons->qF1,lookup_eq_none_iff->qF3,length_eq_zero_iff->qF4,take_length->qF8,drop_length->qF9,ext_getElem->qFa,getElem_cons_succ->qFd,length_eq_one_iff->qFe,drop_of_length_le->qFf,length_singleton->qFj,forIn_cons->qFk,range_succ->qFl,set_append_right->qFo,set_getElem_self->qFp,map_set->qFq,length_filter_le->qFt,range_eq_range'->qFu,mem_of_mem_drop->qFv,count_nil->qFx,take_succ_cons->qFz,range'->qG0,mem_map_of_mem->qG2,map_eq_nil_iff->qG3,mem_filterMap->qG6,zip_cons_cons->qGa,lookup_append->qGb,filterMap_map->qGc,reverse_cons->qGl,filter_cons->qGu,range'_succ->qGw,length_set->qGy,foldl->qHv,map_take->qHy,map_drop->qHz,map_nil->qI0,set_set->qI1,not_lt->qI5,take->qIg,drop->qIh,cons->qIi
open List.Nodup renaming count->qIf
open List.Pairwise renaming nil->qGj,imp_of_mem->qHx
open List.Perm renaming append_left->qDa,swap->qDm,refl->qDn,cons->qEt
open List.cons renaming injEq->qFs
open Nat renaming le_refl->qA5,lt_of_lt_of_le->qAi,ne_of_lt->qAl,le_trans->qAt,zero_le->qAv,lt_succ_of_lt->qBk,le_succ->qBm,lt_succ_self->qBw,ne_of_gt->qBx,lt_irrefl->qBy,le_of_lt->qC8,zero_add->qCj,min_eq_left->qDu,le_of_eq->qEn,le_add_right->qF7,lt_of_le_of_lt->qG9,mod_lt->qGm,min_self->qGq,le_zero->qH2,le_antisymm->qH3,mod_add_mod->qH4,sub_zero->qI4,not_lt->qIc
open Nat.succ renaming inj->qI3
open Ne renaming symm->qC9
open Option renaming map_some->qDt,isSome_iff_exists->qEw,getD_some->qF6,map_eq_some_iff->qFc,none->qFy,getD_none->qGt,map_none->qH5
open Option.some renaming inj->qBg,injEq->qIb
open Or renaming inr->qG8,inl->qHw
open Prod renaming fst->qI9
open PyProof.Rows renaming callWith_type1->qBz,callWith_builtin1->qE5,slot_tuple_getitem->qK4,boot_isinstance->qK6,StrsAre->qK9,boot_list->qKt,AllBare->qKu,subscriptTail_builtinR->qL0,IntsAre->qL6,entry_list_sort->qLb,slot_list_sort->qLf,boot_sorted->qLl,plain_sorted->qMd,entry_sorted->qMe,kind_sorted->qMv,Subscript_->qN2,size_push'->qN7,sortedS->qNa
open PyProof.Rows.F renaming plain_set_update_loop->qCk,entry_set_update_loop->qDl
open PySem renaming mem_of_lookup->qC6,call->qGk,Within->qGo,Shared->qIk,mainGlobals->qIn,Program->qIo,Around->qIr,wpAny_loadPart_at->qIx,FuncData->qJ0,wpAny_Call_Name_kw->qJ5,sizeLine_eq->qJ6,boot_len->qJ8,wpAny_isSubtype_exc->qJe,codeAny->qJn,ExcBaseFacts->qJp,NameKind->qJr,wpAny_pyIter_enum->qJs,plainId_quiet->qJt,isSubtype_type->qJu,Builtin->qJy,bootBuiltins->qK0,wpAny_passesOwn->qK3,foldedSetIterable->qK7,plainObj_wpAny_Assign_Attribute->qK8,GenState->qKb,SetTable->qKd,builtinLookup_eq_fast->qKf,attributeBase->qKg,builtinsNs->qKh,wpAny_letOwnedTupleGo_enum->qKm,codeAny_call_builtin_code->qKo,codeAmong->qKp,wpAny_truthy_bool->qKq,behindInMarks->qKw,codeAny_call_builtin_at->qKy,wpAny_madeBy_exc->qKz,wpAny_Call_method_late->qL1,wpAny_execs_nil->qL3,typeLookup_type->qLa,codeAny_extend_loopS->qLe,call_enumerate_list->qLh,callerA->qLk,swapsWith->qLp,Result->qLq,evalPart_none->qLr,wpAny_assign_Name->qLv,BindsTo->qLx,Keyword->qLy,slot_list_getitem->qLz,closureFor->qM1,wpAny_pyIter_slot->qM5,setsByText->qM6,seqIndex_neg->qMa,Paired->qMk,standAt->qMl,seqIndex?->qMm,seqIndex_of->qMn,ClassData->qMs,putSet_of->qMt,sysModules->qN0,wpAny_Name->qN1,Params->qN3,checkCount->qN6,ElemsOf->qNb,slotArgs->qNc
open PySem.Challenge renaming rw_fourway_k55_whole_webs_of_changes->qCn,pw_fourway_k55_whole_webs_of_changes->qEg
open PySem.EqMixed renaming eq_bool_str->qHa,eq_str_bool->qHb,ne_bool_str->qHf,ne_str_bool->qHg,eq_int_str->qHm,eq_str_int->qHo,ne_int_str->qHs,ne_str_int->qHu
open PySem.EqNone renaming eq_none_none->qH7,eq_none_bool->qH8,eq_bool_none->qH9,ne_none_none->qHc,ne_none_bool->qHd,ne_bool_none->qHe,eq_none_int->qHj,eq_none_str->qHk,eq_int_none->qHl,eq_str_none->qHn,ne_none_int->qHp,ne_none_str->qHq,ne_int_none->qHr,ne_str_none->qHt
open PySem.F renaming plain_list_iadd->qC0,plainAttrs_str->qCr,plainAttrs_list->qD4,entry_proto_collect->qDb,plain_proto_collect->qDc,excBase_ValueError->qDg,slot_list_append->qDp,type_list_append->qDq,entry_list_iadd->qDv,plain_extend_loop->qEs,args_tuple_add_2->qEx,entry_tuple_add->qF0,slot_tuple_add->qFb,slot_str_count->qFg,type_str_count->qFh,slot_set_iter->qFr,called_set->qJq,slot_str_getitem->qLs,entry_list_pop->qMf,slot_list_pop->qMo,slot_int_rmul->qMp,plain_set_new->qMu
open PySem.W renaming Frag->qA0,findIn->qA8,keepIn->qAk,nsIn->qAu,fnOf->qAx,codeIn->qB4,emptyDict->qB5,mg_none_of->qB6,instObj->qBb,isFn->qBd,hasDictIn->qBj,codeHdIn->qBn,kia_one->qBu,mg_of->qC1,plainGet->qC3,makesIn->qCa,mroIn->qCe,clsIn->qCg,typeIn->qCh,plainOver->qCl,callWith_K->qCs,Looks->qDe,specialIn->qDf,looks_findIn->qDj,kla_fn->qDk,takerIn->qDr,subIn->qDy,cellsFrom_some->qDz,handedIn->qE9,plainGet_of->qEj,OpenLaw->qEk,envX->qEp,lookIn->qEq,methodObj->qEv,makes_of->qF5,takesIn->qFi,methodCall_KW->qFn,tabObj->qFw,codeHd_of_K->qG4,WalkO->qGd,make_core->qGg,kitx_list->qGh,kitx_dict->qGi,InitBack->qGs,lks_uniq->qGv,readsIn->qH0,findCls->qH1,kitOne->qHh,kmHook->qHi
open PySem.W.Looks renaming of_pure->qI2,here->qI8,ld->qIe
open PySem.Within renaming cons->qIa
open Sum renaming inl->qGe,inr->qGf
open True renaming intro->qEf
set_option compiler.extract_closed false
set_option genSizeOf false
set_option genSizeOfSpec false
set_option bootstrap.genMatcherCode false
open PySem.Around renaming under_plainId->qJ1,frames_deeper->qLc,under->qM8
open PySem.Builtin renaming bitXor->qKc
open PySem.Builtin.Frozenset renaming updateFrom->qMi,newClass->qMw,sizeOf->qN5,slot0->qNd
open PySem.Builtin.Int renaming intBits->qJz,intTooBig->qL9
open PySem.Builtin.List renaming listExtendWith->qJ3,listTooLong->qK1,listSameRef->qK2,listLengthHint->qKk
open PySem.Builtin.Range renaming rangeSize->qKv
open PySem.Builtin.Slice renaming slicePlaces->qJg,sliceAdjust->qJx,sliceApplied->qKn,sliceFields->qMz
open PySem.Builtin.Str renaming strSliceIndices->qIw,occurrences->qJb,subAt->qJd
open PySem.Builtin.Tuple renaming tupleItemsOf->qMx,tupleIsExact->qMy
open PySem.Calls renaming call_function_entry->qJw,Name_function_global->qKl,callWith_builtin->qL2,evalArgs_plain->qLd
open PySem.Code renaming quiet_builtin->qJm,isFrame->qM9
open PySem.EntryCells renaming newEntry->qLi
open PySem.Heap renaming get?_push_of_some->qIj,lt_size->qIl,get?_push_size->qIm,get?_update_self->qIp,get?_update_other->qIq,size_push->qIv,get?_none_of_le->qJa,SameBut->qJh,MadeExcOf->qJj,ExtBut->qKj,get?_push_at->qKs,get?_update_ne->qLj
open PySem.Heap.IsSliceOf renaming new->qNl
open PySem.Heap.Ns1 renaming of_empty->qLw
open PySem.Heap.SameBut renaming update->qJi,refl->qM3
open PySem.ItemsOf renaming nil->qNk
open PySem.NameKind renaming free->qIt,cell->qJf
open PySem.Obj renaming data_mapFields->qIu,mapFields->qIz,isFreed_of_fields->qJ7,mapSeq->qJc,cls_mapFields->qKa,putSet->qM4
open PySem.Paired renaming length->qN8
open PySem.PassesOwn renaming never->qJ4
open PySem.SeqAt renaming EqAt->qKi,RcNeAt->qMb,RcAt->qN4
open PySem.SeqAt.EqAt renaming of_refs->qK5,same->qL5,int_str->qLn,str_int->qLo
open PySem.SeqAt.RcAt renaming lists_lengths->qKr,list_tuple->qL7,tuple_list->qL8,tuples->qM2,lists->qMg
open PySem.SetTable renaming grown->qJk,below->qJv,orStandIn->qLt
open PySem.SetTable.below renaming go->qM7
open PySem.Str renaming ofString->qJ2,ofString_eq_toList->qJl,join->qKx,empty->qL4,length->qM0,mk->qNi
open PySem.StrLaws renaming occBody->qJo
open PySem.Txt renaming find->qN9,slice->qNe,count->qNf,rfind->qNh
open PySem.Value renaming ref->qIs,none->qIy,type->qJ9,str->qKe,isStrOf_shape->qLg,int->qLm,bool->qLu,float->qMj,bytes->qNj
open PySem.W.WData renaming layableAll->qMh,int->qMq,weightAll->qMr,weight->qNg
open PySem.W.WShape renaming has->qNm
open PySem.pickOrder renaming go->qMc
noncomputable section
set_option maxHeartbeats 0 in
def hdZ:PSigma fun H:Prop=>H->PySem.Challenge.rw_fourway_k55_whole_webs_of_changes.Holds:=by
 refine' ⟨_,fun x=>?go⟩
 case' go=>w_on;o_law;refine' And.left (b:=_) ⟨?main,And.intro ?hl ?hc⟩
 case main=>
  k_head
  case hw=>w_witness2
 case hc=>exact x
 case hl=>intro w;unfold PySem.W.openEnds PySem.W.fencedOpening PySem.W.topFrom;rewrite[PySem.W.Fast.te10274390034422433532,PySem.W.Fast.te14289696077712309145,PySem.W.Fast.te14082659384304107361,PySem.W.Fast.te4187177175401517315,PySem.W.Fast.te1435165496053646825,PySem.W.Fast.te14364793385576792824];kernel_rfl
namespace L2
open PySem PySem.Spec PyProof.Rows
abbrev Key:=Sum Int Str
def zbG:Key->Value->Bool
 |.inl k,v=>Value.isInt k v
 |.inr x,v=>Value.isStrOf x v
def keyH(w:World):Key->Int
 |.inl k=>hashInt k
 |.inr x=>hashStr w x
def zBU:∀{k:Key}{v:Value},zbG k v=true->(∃i t,k=qGe i/\v=qLm i t)\/(∃x t,k=qGf x/\v=qKe x t)
 |.inl i,v,h=>by
  obtain⟨t,e⟩:=Value.isInt_shape (k:=i) (v:=v) h;exact .inl ⟨i,t,rfl,e⟩
 |.inr x,v,h=>by
  obtain⟨t,e⟩:=qLg (x:=x) (v:=v) h;exact .inr ⟨x,t,rfl,e⟩
def zbF(a b:Int):decide ((qGe a:Key)=qGe b)=(a==b):=by
 by_cases e:a=b
 ·subst e;simp
 ·have h:¬(qGe a:Key)=qGe b:=fun q=>e (Sum.inl.inj q)
  rw[decide_eq_false h];exact(beq_eq_false_iff_ne.mpr e).symm
def zbC(a b:Str):decide ((qGf a:Key)=qGf b)=decide (a=b):=by
 by_cases e:a=b
 ·subst e;simp
 ·have h:¬(qGf a:Key)=qGf b:=fun q=>e (Sum.inr.inj q)
  rw[decide_eq_false h,decide_eq_false e]
def zbE(a:Int)(b:Str):decide ((qGe a:Key)=qGf b)=false:=decide_eq_false (fun q=>nomatch q)
def zbD(a:Str)(b:Int):decide ((qGf a:Key)=qGe b)=false:=decide_eq_false (fun q=>nomatch q)
def zNN(prog:qIo)(w:World):PySem.KeyKind prog w Key where
 is:=zbG
 hash:=keyH w
 inj:=fun v a b ha hb=>by
  rcases zBU ha with⟨i,t,rfl,rfl⟩|⟨x,t,rfl,rfl⟩
  ·rcases zBU hb with⟨j,u,rfl,e⟩|⟨y,u,rfl,e⟩
   ·injection e with e1 _;rw[e1]
   ·exact nomatch e
  ·rcases zBU hb with⟨j,u,rfl,e⟩|⟨y,u,rfl,e⟩
   ·exact nomatch e
   ·injection e with e1 _;rw[e1]
 byValue:=fun k v h=>by
  rcases zBU h with⟨i,t,rfl,rfl⟩|⟨x,t,rfl,rfl⟩<;>rfl
 pyHash:=fun hv h=>by
  rcases zBU hv with⟨i,t,rfl,rfl⟩|⟨x,t,rfl,rfl⟩
  ·exact wpAny_pyHash_int h
  ·exact wpAny_pyHash_str h
 eqBool:=fun hu hv h=>by
  rcases zBU hu with⟨i,t,rfl,rfl⟩|⟨x,t,rfl,rfl⟩
  ·rcases zBU hv with⟨j,u,rfl,rfl⟩|⟨y,u,rfl,rfl⟩
   ·rw[zbF]at h;exact wpAny_eqBool_int h
   ·rw[zbE]at h;exact qLn i t y u _ _ _ _ h
  ·rcases zBU hv with⟨j,u,rfl,rfl⟩|⟨y,u,rfl,rfl⟩
   ·rw[zbD]at h;exact qLo x t j u _ _ _ _ h
   ·rw[zbC]at h;exact wpAny_eqBool_str h
 «strs»:=fun k x t v h=>by
  rcases zBU h with⟨i,u,rfl,e⟩|⟨y,u,rfl,e⟩
  ·exact nomatch e
  ·injection e with e1 _
   subst e1;cases v<;>rfl
inductive V where
 |non|bl (b:Bool)|int (i:Int)|str (x:Str)|byt (b:Array UInt8)|flt (b:UInt64)|ref (a:Addr)|ty (n:String)
 deriving DecidableEq
def RelV:V->Value->Prop
 |.non,u=>u=qIy
 |.bl b,u=>u=qLu b
 |.int i,u=>∃t,u=qLm i t
 |.str x,u=>∃t,u=qKe x t
 |.byt b,u=>∃t,u=qNj b t
 |.flt b,u=>∃t,u=qMj b t
 |.ref a,u=>u=qIs a
 |.ty n,u=>u=qJ9 n
abbrev Vals:List V->List Value->Prop:=qMk RelV
def Vals.length{xs:List V}{us:List Value}(r:Vals xs us):xs.length=us.length:=qN8 r
def Vals.get:∀{xs:List V}{us:List Value}{i:Nat}{x:V},Vals xs us->xs[i]?=some x->∃u,us[i]?=some u/\RelV x u
 |_,_,_,_,.nil,e=>by simp at e
 |_,_,0,_,.cons r _,e=>by simp at e;subst e;exact⟨_,rfl,r⟩
 |_,_,i+1,x,.cons _ t,e=>by
  obtain⟨u,h1,h2⟩:=Vals.get (i:=i) (x:=x) t (by simpa using e);exact⟨u,by simpa using h1,h2⟩
def Vals.set{x:V}{u:Value}(r:RelV x u):∀{xs:List V}{us:List Value}(i:Nat),Vals xs us->Vals (xs.set i x) (us.set i u)
 |_,_,_,.nil=>.nil
 |_,_,0,.cons _ t=>.cons r t
 |_,_,i+1,.cons q t=>.cons q (Vals.set r i t)
def Vals.append:∀{xs ys:List V}{us ws:List Value},Vals xs us->Vals ys ws->Vals (xs++ys) (us++ws)
 |_,_,_,_,.nil,s=>s
 |_,_,_,_,.cons r t,s=>.cons r (Vals.append t s)
def Vals.take:∀{xs:List V}{us:List Value}(n:Nat),Vals xs us->Vals (xs.take n) (us.take n)
 |_,_,0,_=>.nil
 |_,_,_+1,.nil=>.nil
 |_,_,n+1,.cons r t=>.cons r (Vals.take n t)
def Vals.drop:∀{xs:List V}{us:List Value}(n:Nat),Vals xs us->Vals (xs.drop n) (us.drop n)
 |_,_,0,r=>r
 |_,_,_+1,.nil=>.nil
 |_,_,n+1,.cons _ t=>Vals.drop n t
def RelO:Option V->Option Value->Prop
 |some v,some u=>RelV v u
 |none,none=>True
 |_,_=>False
def KV{κ:Type}:List (κ×V)->List (κ×Value)->Prop:=qMk fun(p:κ×V)(q:κ×Value)=>p.1=q.1/\RelV p.2 q.2
def kV:Key->V
 |.inl i=>.int i
 |.inr x=>.str x
inductive HO where
 |lst (xs:List V)
 |tup (xs:List V)
 |dK (kvs:List (Key×V))|dT (kvs:List (List Key×V))
 |set (S:Int->Bool) (n:Nat)
 |ins (C dx:Addr) (fs:List (Str×V))
 |own (x:Addr)
 |xd (fs:List (Str×V))
 |met (f x:Addr)
 |rng (lo hi:Int)
 |frz (o:Obj) (u:HO)
 |tbl (ps:Array Value)
 |lam (q:Str)
 |fn (o:Obj) (q:Str)
 |ext (φ:Heap->Prop)
abbrev Hp:=Addr->Option HO
def upd(H:Hp)(a:Addr)(o:HO):Hp:=fun b=>if b=a then some o else H b
def zA8{H:Hp}{a:Addr}{o:HO}:upd H a o a=some o:=by unfold upd;rw[if_pos rfl]
def zA5{H:Hp}{a b:Addr}{o:HO}(h:b≠a):upd H a o b=H b:=by unfold upd;rw[if_neg h]
def zQV{H:Hp}{a:Addr}{o u:HO}:upd (upd H a o) a u=upd H a u:=by
 funext b;unfold upd;split<;>rfl
def zLV{H:Hp}{a b:Addr}{o u:HO}(h:H a=some o)(h':H b=some u)(d:o≠u):a≠b:=by
 intro e;subst e;rw[h]at h';exact d (qBg h')
def zAI{H:Hp}{a b:Addr}{o:HO}(h:H a=some o)(h':H b=none):a≠b:=by
 intro e;subst e;rw[h]at h';cases h'
def CodR(o:Obj)(q:Str):Prop:=∃vs t,o.data=.fields vs/\vs[1]?=some (.str q t)
section
variable(P:qIo)(w:World)
def ObjOk(H:Hp)(h:Heap)(a:Addr):HO->Prop
 |.lst xs=>xs.length<=sizeLine/\∃(its:List Value)(n:Nat),Vals xs its/\h.get? a=some { cls:=.type "list",data:=.seq its.toArray n }
 |.tup xs=>xs.length<=sizeLine/\∃its:List Value,Vals xs its/\IsTup h a its.toArray
 |.dK kvs=>kvs.length<=sizeLine/\(a==qN0)=false/\∃vs,KV kvs vs/\h.DictOf (zNN P w) a vs
 |.dT kvs=>kvs.length<=sizeLine/\(a==qN0)=false/\∃xs:List (List Key×Addr×Value),
   qMk (fun(p:List Key×V)(q:List Key×Addr×Value)=>p.1=q.1/\H q.2.1=some (.tup (p.1.map kV))/\RelV p.2 q.2.2) kvs xs /\
   ∃o es ep,h.get? a=some o/\o.ExactDict/\o.data=.dict es ep/\es.toList=xs.map (entryOfKey (tupleKind (zNN P w)))/\(xs.map (·.1)).Nodup
 |.set S n=>h.SetOf (intKind P w) a S n
 |.ins C dx fs=>H dx=some (.own a)/\fs.length<=1000/\dx≠a/\h.get? a=some (qBb C dx) /\
   ∃mA,h.Ns1 dx mA/\(∀f,RelO (fs.lookup f) (mA f))/\qGo mA (fs.map (·.1))
 |.own _=>∃o,h.get? a=some o
 |.xd fs=>∃mA,h.Ns1 a mA/\∀f,RelO (fs.lookup f) (mA f)
 |.rng lo hi=>∃t u v,h.get? a=some { cls:=.type "range",data:=.fields #[.int lo t,.int hi u,.int 1 v] }
 |.frz o u=>h.get? a=some o/\ObjOk H h a u
 |.tbl ps=>h.get? a=some { cls:=.none,data:=.fields ps }
 |.lam q=>∃ps:Array Value,h.get? a=some { cls:=.none,data:=.fields ps }/\TriplesOk ps.toList/\∀pos cv,qKp pos ps.toList=some cv->∃c oc u,cv=.ref c/\H c=some (.frz oc u)/\CodR oc q
 |.fn o q=>h.get? a=some o/\∃fd c oc u,o.data=.func fd/\fd.code=.ref c/\H c=some (.frz oc u)/\CodR oc q
 |.met f x=>h.get? a=some (qEv (.ref f) (.ref x))
 |.ext φ=>φ h/\(∃o,h.get? a=some o)/\∀h1 h2:Heap,φ h1->(∀o,h1.get? a=some o->h2.get? a=some o)->φ h2
def HOk(H:Hp)(h:Heap):Prop:=∀a o,H a=some o->ObjOk P w H h a o
end
section
variable{P:qIo}{w:World}{H H':Hp}{h h':Heap}{a:Addr}{o:HO}
def ObjOk.lt(x:ObjOk P w H h a o):a<h.objs.size:=by
 cases o with
 |lst xs=>obtain⟨_,_,_,_,e⟩:=x;exact qIl e
 |tup xs=>obtain⟨_,_,_,p⟩:=x;exact p.lt
 |dK kvs=>obtain⟨_,_,_,_,o,_,_,e,_⟩:=x;exact qIl e
 |dT kvs=>obtain⟨_,_,_,_,o,_,_,e,_⟩:=x;exact qIl e
 |set S n=>obtain⟨o,_,_,_,e,_⟩:=x;exact qIl e
 |ins C dx fs=>obtain⟨_,_,_,e,_⟩:=x;exact qIl e
 |own y=>obtain⟨_,e⟩:=x;exact qIl e
 |xd fs=>obtain⟨_,⟨_,_,_,e,_⟩,_⟩:=x;exact qIl e
 |rng lo hi=>obtain⟨_,_,_,e⟩:=x;exact qIl e
 |frz ob u=>obtain⟨e,_⟩:=x;exact qIl e
 |tbl ps=>exact qIl (show h.get? a=some _ from x)
 |lam q=>obtain⟨_,e,_⟩:=x;exact qIl e
 |fn ob q=>obtain⟨e,_⟩:=x;exact qIl e
 |met f y=>exact qIl (show h.get? a=some _ from x)
 |ext φ=>obtain⟨_,⟨_,e⟩,_⟩:=x;exact qIl e
def qMk.mapP{α β:Type}{F G:α->β->Prop}:∀{l₁:List α}{l₂:List β},qMk F l₁ l₂->(∀a b,F a b->G a b)->qMk G l₁ l₂
 |_,_,.nil,_=>.nil
 |_,_,.cons r t,f=>.cons (f _ _ r) (qMk.mapP t f)
def ObjOk.stay(x:ObjOk P w H h a o)(k:∀b u,(b=a\/H b=some (.own a))->h.get? b=some u->h'.get? b=some u)
  (ho:∀b,H b=some (.own a)->H' b=some (.own a)) (ht:∀b xs,H b=some (.tup xs)->H' b=some (.tup xs)) (hf:∀b o u,H b=some (.frz o u)->(∃vs,o.data=.fields vs)->H' b=some (.frz o u)):ObjOk P w H' h' a o:=by
 induction o with
 |lst xs=>obtain⟨z,its,n,r,e⟩:=x;exact⟨z,its,n,r,k _ _ (.inl rfl) e⟩
 |tup xs=>obtain⟨z,its,r,ob,e,c⟩:=x;exact⟨z,its,r,ob,k _ _ (.inl rfl) e,c⟩
 |dK kvs=>obtain⟨z,y,vs,r,ob,es,ep,e,c⟩:=x;exact⟨z,y,vs,r,ob,es,ep,k _ _ (.inl rfl) e,c⟩
 |dT kvs=>
  obtain⟨z,y,xs,r,ob,es,ep,e,c⟩:=x;exact⟨z,y,xs,qMk.mapP r fun p q z=>⟨z.1,ht _ _ z.2.1,z.2.2⟩,ob,es,ep,k _ _ (.inl rfl) e,c⟩
 |set S n=>obtain⟨ob,es,ep,t,e,c⟩:=x;exact⟨ob,es,ep,t,k _ _ (.inl rfl) e,c⟩
 |ins C dx fs=>
  obtain⟨d,z,ne,e,mA,⟨od,es,ep,e2,c⟩,r⟩:=x;exact⟨ho _ d,z,ne,k _ _ (.inl rfl) e,mA,⟨od,es,ep,k _ _ (.inr d) e2,c⟩,r⟩
 |own y=>obtain⟨ob,e⟩:=x;exact⟨ob,k _ _ (.inl rfl) e⟩
 |xd fs=>obtain⟨mA,⟨od,es,ep,e,c⟩,r⟩:=x;exact⟨mA,⟨od,es,ep,k _ _ (.inl rfl) e,c⟩,r⟩
 |rng lo hi=>obtain⟨t,u,v,e⟩:=x;exact⟨t,u,v,k _ _ (.inl rfl) e⟩
 |frz ob u ih=>obtain⟨e,q⟩:=x;exact⟨k _ _ (.inl rfl) e,ih q⟩
 |tbl ps=>
  have e:h.get? a=some { cls:=.none,data:=.fields ps }:=x;show h'.get? a=some { cls:=.none,data:=.fields ps };exact k a _ (.inl rfl) e
 |lam q=>
  obtain⟨ps,e,t,r⟩:=x;exact⟨ps,k _ _ (.inl rfl) e,t,fun pos cv z=>let⟨c,oc,u,e1,e2,e3⟩:=r pos cv z;⟨c,oc,u,e1,hf _ _ _ e2 (let⟨vs,_,d,_⟩:=e3;⟨vs,d⟩),e3⟩⟩
 |fn ob q=>
  obtain⟨e,fd,c,oc,u,e1,e2,e3,e4⟩:=x;exact⟨k _ _ (.inl rfl) e,fd,c,oc,u,e1,e2,hf _ _ _ e3 (let⟨vs,_,d,_⟩:=e4;⟨vs,d⟩),e4⟩
 |met f y=>
  have e:h.get? a=some (qEv (.ref f) (.ref y)):=x;show h'.get? a=some (qEv (.ref f) (.ref y));exact k a _ (.inl rfl) e
 |ext φ=>obtain⟨p,⟨o,e⟩,st⟩:=x;exact⟨st _ _ p fun o q=>k _ _ (.inl rfl) q,⟨o,k _ _ (.inl rfl) e⟩,st⟩
def HOk.lt(x:HOk P w H h)(e:H a=some o):a<h.objs.size:=(x a o e).lt
def HOk.fresh(x:HOk P w H h)(e:h.objs.size<=a):H a=none:=by
 cases q:H a with
 |none=>rfl
 |some u=>exact absurd (qAi (x.lt q) e) (qBy _)
def HOk.kept(x:HOk P w H h)(k:∀b u,h.get? b=some u->h'.get? b=some u):HOk P w H h':=fun a o e=>
 (x a o e).stay (fun b u _ q=>k b u q) (fun _ q=>q) (fun _ _ q=>q) fun _ _ _ q _=>q
def HOk.laid(x:HOk P w H h)(k:∀b u,h.get? b=some u->h'.get? b=some u)(hp:h.objs.size<=a)(new:ObjOk P w (upd H a o) h' a o):HOk P w (upd H a o) h':=fun b u e=>by
 have hn:=x.fresh hp;by_cases hb:b=a
 ·subst hb;rw[zA8]at e;cases e;exact new
 ·rw[zA5 hb]at e;exact(x b u e).stay (fun c v _ q=>k c v q) (fun c q=>by rw[zA5 (zAI q hn)];exact q) (fun c xs q=>by rw[zA5 (zAI q hn)];exact q) fun c _ _ q _=>by rw[zA5 (zAI q hn)];exact q
end
def Rd(H:Hp)(a:Addr)(u:HO):Prop:=H a=some u\/∃o,H a=some (.frz o u)
def Rd.ok{P:qIo}{w:World}{H:Hp}{h:Heap}{a:Addr}{u:HO}(r:Rd H a u)(x:HOk P w H h):ObjOk P w H h a u:=by
 rcases r with r|⟨o,r⟩
 ·exact x a u r
 ·obtain⟨_,q⟩:=x a _ r;exact q
def Mut:Option HO->Prop
 |some (.lst _)=>True
 |some (.dK _)=>True
 |some (.dT _)=>True
 |some (.set _ _)=>True
 |some (.ins _ _ _)=>True
 |some (.ext _)=>True
 |some (.lam _)=>True
 |_=>False
section
variable{P:qIo}{w:World}{H:Hp}{h h':Heap}{x e:Addr}{o':HO}
def HOk.write(ok:HOk P w H h)(mu:Mut (H x))(he:e=x\/H e=some (.own x))(k:∀b u,b≠e->h.get? b=some u->h'.get? b=some u)(heo:∃u,h'.get? e=some u)
  (new:ObjOk P w (upd H x o') h' x o'):HOk P w (upd H x o') h':=fun b u q=>by
 have nown:∀c y,H c=some (.own y)->c≠x:=fun c y r z=>by subst z;rw[r]at mu;exact mu
 have ntup:∀c xs,H c=some (.tup xs)->c≠x:=fun c xs r z=>by subst z;rw[r]at mu;exact mu
 have nfrz:∀c o v,H c=some (.frz o v)->c≠x:=fun c o v r z=>by subst z;rw[r]at mu;exact mu
 by_cases hb:b=x
 ·subst hb;rw[zA8]at q;cases q;exact new
 ·rw[zA5 hb]at q
  by_cases hbe:b=e
  ·have q':H b=some (.own x):=by
    rcases he with z|z
    ·exact absurd (hbe.trans z) hb
    ·rw[hbe];exact z
   rw[q]at q';cases q';obtain⟨v,hv⟩:=heo;exact⟨v,by rw[hbe];exact hv⟩
  ·refine(ok b u q).stay (fun c v hc r=>k c v ?_ r) (fun c r=>by rw[zA5 (nown c b r)];exact r) (fun c xs r=>by rw[zA5 (ntup c xs r)];exact r) fun c o v r _=>by rw[zA5 (nfrz c o v r)];exact r
   rcases hc with rfl|hc
   ·exact hbe
   ·rintro rfl
    rcases he with z|z
    ·exact nown c b hc z
    ·rw[hc]at z;cases z;exact hb rfl
end
structure Un(fs ex:List Addr)(H H':Hp)(h h':Heap):Prop where
 keep:∀b o,h.get? b=some o->H b=none->b∉fs->b∉ex->h'.get? b=some o
 slot:∀b o,h.get? b=some o->H b=none->b∈fs->b∉ex->∃sl,h'.get? b=some { o with slots:=sl }
 free:∀b o,h.get? b=some o->H b=none->b∉ex->H' b=none
 there:∀b o,h.get? b=some o->b∉ex->∃o',h'.get? b=some o'
 tups:∀b xs,H b=some (.tup xs)->H' b=some (.tup xs)
 frzs:∀b o u,H b=some (.frz o u)->H' b=some (.frz o u)
 tbls:∀b ps,H b=some (.tbl ps)->∃more,H' b=some (.tbl (ps++more))
section
variable{fs ex:List Addr}{H H1:Hp}{h h1 h':Heap}{a x e:Addr}{o:HO}
def Un.any(u:Un fs ex H H1 h h1){b:Addr}{ob:Obj}(q:h.get? b=some ob)(n:H b=none)(hx:b∉ex):∃sl,h1.get? b=some { ob with slots:=sl }:=by
 by_cases hb:b∈fs
 ·exact u.slot b ob q n hb hx
 ·exact⟨ob.slots,u.keep b ob q n hb hx⟩
def Un.kept(k:∀b u,h.get? b=some u->h'.get? b=some u):Un fs ex H H h h':=
 ⟨fun b ob q _ _ _=>k b ob q,fun b ob q _ _ _=>⟨ob.slots,k b ob q⟩,fun _ _ _ n _=>n,fun b ob q _=>⟨ob,k b ob q⟩,fun _ _ q=>q,fun _ _ _ q=>q,fun _ ps q=>⟨#[],by rw[q];simp⟩⟩
def Un.refl:Un fs ex H H h h:=Un.kept fun _ _ q=>q
def Un.laid(k:∀b u,h.get? b=some u->h'.get? b=some u)(hp:h.objs.size<=a)(hn:H a=none):Un fs ex H (upd H a o) h h' where
 keep:=fun b u q _ _ _=>k b u q
 slot:=fun b u q _ _ _=>⟨u.slots,k b u q⟩
 free:=fun b u q n _=>by rw[zA5 (qAl (qAi (qIl q) hp))];exact n
 there:=fun b u q _=>⟨u,k b u q⟩
 tups:=fun b xs q=>by rw[zA5 (zAI q hn)];exact q
 frzs:=fun b u xs q=>by rw[zA5 (zAI q hn)];exact q
 tbls:=fun b ps q=>⟨#[],by rw[zA5 (zAI q hn),q];simp⟩
def Un.write(mu:Mut (H x))(he:e=x\/H e=some (.own x))(k:∀b u,b≠e->h.get? b=some u->h'.get? b=some u)(heo:∃u,h'.get? e=some u):Un fs ex H (upd H x o) h h':=by
 have hx:∀b,H b=none->b≠x:=fun b n z=>by subst z;rw[n]at mu;exact mu
 have hb:∀b,H b=none->b≠e:=fun b n z=>by
  subst z;rcases he with r|r
  ·exact hx b n r
  ·rw[n]at r;cases r
 have hm:∀b u,H b=some u->¬Mut (some u)->b≠x:=fun b u q nm z=>by subst z;rw[q]at mu;exact nm mu
 refine⟨fun b u q n _ _=>k b u (hb b n) q,fun b u q n _ _=>⟨u.slots,k b u (hb b n) q⟩,fun b u q n _=>by rw[zA5 (hx b n)];exact n,fun b u q _=>?_,
  fun b xs q=>by rw[zA5 (hm b _ q fun z=>z)];exact q,fun b u xs q=>by rw[zA5 (hm b _ q fun z=>z)];exact q,fun b ps q=>⟨#[],by rw[zA5 (hm b _ q fun z=>z),q];simp⟩⟩
 by_cases hbe:b=e
 ·subst hbe;exact heo
 ·exact⟨u,k b u hbe q⟩
end
def trk(h:Heap)(H:Hp):List Addr:=(qA9 h.objs.size).filter fun a=>(H a).isSome
def hidT(h:Heap)(H:Hp):Heap:=PySem.W.hideAll h (trk h H)
def zSL(h:Heap)(H:Hp):(hidT h H).objs.size=h.objs.size:=PySem.W.hideAll_size _ _
def zV4{h:Heap}{H:Hp}{b:Addr}{o:Obj}(e:h.get? b=some o)(n:H b=none):(hidT h H).get? b=some o:=
 PySem.W.hideAll_get _ e fun hm=>by
  have q:(H b).isSome=true:=(qEh.mp hm).2;rw[n]at q;simp at q
def zYB{h:Heap}{H:Hp}{b:Addr}{o:Obj}(e:(hidT h H).get? b=some o):h.get? b=some o/\H b=none:=by
 have e':h.get? b=some o:=PySem.W.of_hideAll (trk h H) e;refine⟨e',?_⟩;cases q:H b with
 |none=>rfl
 |some x=>
  have hm:b∈trk h H:=qEh.mpr ⟨qCw.mpr (qIl e'),by simp[q]⟩;have z:(hidT h H).get? b=none:=PySem.W.hideAll_none (trk h H) hm;rw[z]at e;cases e
def zZB(g h:Heap)(L:Addr):List (Addr×Obj):=(qA9 h.objs.size).filterMap fun a=>if a=L\/(g.get? a).isSome=true then none else(h.get? a).map fun o=>(a,o)
def rest(g h:Heap)(L d:Addr):List (Addr×Obj):=(zZB g h L).filter fun p=>decide (p.1≠d)
structure Mod(K:qA0)(mg:Str->Option Value)(base:Heap):Prop where
 kin:K.In base
 glob:base.Ns qIn mg
 blt:∃mb,base.Ns qKh mb/\∀x:Str,x≠"__name__"->mb x=qK0 x
 nolimit:base.NoLimit
 bm:∃bm ob,mg "__builtins__" = some (.ref bm)/\bm≠qKh/\base.get? bm=some ob/\ob.cls=.type "module"/\ob.dict=some qKh/\ob.data=.plain
structure Cx where
 prog:qIo
 w:World
 K:qA0
 mg:Str->Option Value
 base:Heap
 A:qIr
 N:List Str
 s₀:qIk
 H₀:Hp
 env:Env
 outer:List Env
 stack:List Env
 ex:List Addr
 fn:Str->Bool
 calm:Bool
 pn:List (Addr×Obj)
 xe:Value->qIk->Prop
def frs(l:List Env):List Addr:=l.filterMap (·.frame)
abbrev Cx.fs(X:Cx):List Addr:=frs X.outer
def Vis(sc:Scope)(x:Str):Prop:=sc.names.lookup x=some .local\/sc.names.lookup x=some .cell\/sc.names.lookup x=some .free
def Loc(sc:Scope)(x:Str):Prop:=sc.names.lookup x=some .local\/sc.names.lookup x=some .cell
def Look(env:Env)(h:Heap)(m:Str->Option Value)(x:Str)(u:Value):Prop:=
 (env.kindOf x=some .local/\m x=some u)\/((env.kindOf x=some .cell\/env.kindOf x=some .free)/\∃c,env.cells.lookup x=some c/\h.IsCell c (some u))
structure Cx.Ok(X:Cx):Prop where
 mod:Mod X.K X.mg X.base
 kind:X.env.scope.kind=.function
 glob:X.env.globals=qIn
 blt:X.env.builtins=qKh
 above:X.s₀.heap.objs.size<=X.env.locals
 inj:∀x y c,X.env.cells.lookup x=some c->X.env.cells.lookup y=some c->x=y
 has:∀x,(X.env.kindOf x=some .cell\/X.env.kindOf x=some .free)->∃c,X.env.cells.lookup x=some c
 cab:∀x c,X.fn x=true->X.env.cells.lookup x=some c->X.s₀.heap.objs.size<=c
 hd:X.calm=true->X.A.handled=none
 frames:X.A.frames=some X.stack
 stk:X.stack=X.outer\/(X.stack=X.env::X.outer/\X.env.frame=some X.env.locals)
 exf:∀b∈X.ex,b≠X.env.locals/\∀x c,X.env.cells.lookup x=some c->c≠b
 bs:∀b o,X.base.get? b=some o->X.s₀.heap.get? b=some o/\X.H₀ b=none
 bsz:X.base.objs.size<=X.s₀.heap.objs.size
 noex:∀b o,X.base.get? b=some o->b∉X.ex
 exfs:∀b∈X.ex,b∉X.fs
 funs:X.s₀.heap.FunFrames X.base X.outer
 frf:∀b∈X.fs,X.H₀ b=none
structure Inv(X:Cx)(pins:List (Addr×Obj))(σ:List (Option V))(H:Hp)(s:qIk):Prop where
 ok:X.Ok
 os:s.os=X.s₀.os
 bare:qKu s.gens
 base:Un X.fs X.ex X.H₀ H X.s₀.heap s.heap
 loc:∃m,s.heap.Ns X.env.locals m/\∀(i:Nat)(x:Str)(v:V),X.N[i]?=some x->σ[i]?=some (some v)->Vis X.env.scope x->∃u,RelV v u/\Look X.env s.heap m x u
 cell:∀x c,X.env.cells.lookup x=some c->∃v,s.heap.IsCell c v
 free:H X.env.locals=none
 freeC:∀x c,X.env.cells.lookup x=some c->H c=none
 pin:∀p∈X.pn++pins,s.heap.get? p.1=some p.2/\H p.1=none/\p.1≠X.env.locals/\p.1∉X.fs/\∀v,p.2.data≠.cell v
 hok:HOk X.prog X.w H s.heap
 len:σ.length=X.N.length
section
variable{X:Cx}{pins:List (Addr×Obj)}{σ:List (Option V)}{H H':Hp}{s:qIk}{h':Heap}
def Cx.Ok.nofr(ok:X.Ok){b:Addr}{o:Obj}(e:X.base.get? b=some o):b∉X.fs:=fun hb=>by
 have:=(ok.funs.mem hb).1;rw[e]at this;cases this
def Inv.bs(I:Inv X pins σ H s):∀b o,X.base.get? b=some o->s.heap.get? b=some o/\H b=none:=fun b o e=>
 ⟨I.base.keep b o (I.ok.bs b o e).1 (I.ok.bs b o e).2 (I.ok.nofr e) (I.ok.noex b o e),I.base.free b o (I.ok.bs b o e).1 (I.ok.bs b o e).2 (I.ok.noex b o e)⟩
def Inv.bk(I:Inv X pins σ H s):∀b o,X.base.get? b=some o->s.heap.get? b=some o:=fun b o e=>(I.bs b o e).1
def Inv.mod(I:Inv X pins σ H s):Mod X.K X.mg X.base:=I.ok.mod
def Inv.kIn(I:Inv X pins σ H s):X.K.In s.heap:=I.ok.mod.kin.keeps I.bk
def Inv.nolimit(I:Inv X pins σ H s):s.heap.NoLimit:=I.ok.mod.nolimit.keeps I.bk
def Inv.fr(I:Inv X pins σ H s):∃m,Fr X.base X.env.locals s.heap m:=
 let⟨m,hn,_⟩:=I.loc
 ⟨m,hn,I.bk,qAt I.ok.bsz I.ok.above⟩
def Inv.lt(I:Inv X pins σ H s):X.env.locals<s.heap.objs.size:=let⟨_,hn,_⟩:=I.loc;hn.lt
def Inv.sz(I:Inv X pins σ H s):X.s₀.heap.objs.size<=s.heap.objs.size:=qAt I.ok.above (qC8 I.lt)
def Inv.nofs(I:Inv X pins σ H s){a:Addr}(h:s.heap.objs.size<=a):a∉X.fs:=fun hb=>by
 obtain⟨_,o,ho,_⟩:=I.ok.funs.mem hb;exact absurd (qAi (qIl ho) (qAt I.sz h)) (qBy _)
def Inv.cne(I:Inv X pins σ H s):∀x c,X.env.cells.lookup x=some c->c≠X.env.locals:=fun x c e z=>by
 obtain⟨v,o,ho,hd⟩:=I.cell x c e;obtain⟨m,⟨o',es,ep,ho',hd',_⟩,_⟩:=I.loc;rw[z,ho']at ho;cases ho;rw[hd']at hd;cases hd
def Inv.funs(I:Inv X pins σ H s):s.heap.FunFrames X.base X.outer:=by
 have all:∀(l:List Env),(∀b∈frs l,b∈X.fs)->X.s₀.heap.FunFrames X.base l->s.heap.FunFrames X.base l:=by
  intro l;induction l with
  |nil=>intro _ _;trivial
  |cons env r ih=>
   intro hs hl;obtain⟨hk,⟨L,o,hf,hn,ho,hd⟩,hr⟩:=hl;have hL:L∈X.fs:=hs L (by unfold frs;rw[qCz,hf];exact qAw);obtain⟨sl,e⟩:=I.base.slot L o ho (I.ok.frf L hL) hL fun z=>I.ok.exfs L z hL
   exact⟨hk,⟨L,_,hf,hn,e,hd⟩,ih (fun b hb=>hs b (by unfold frs;rw[qCz,hf];exact qAp _ hb)) hr⟩
 exact all X.outer (fun _ hb=>hb) I.ok.funs
def Inv.stack(I:Inv X pins σ H s):s.heap.FunFrames X.base X.stack:=by
 rcases I.ok.stk with e|⟨e,hf⟩
 ·rw[e];exact I.funs
 ·rw[e];obtain⟨m,hn,_⟩:=I.loc;refine .cons (by rw[I.ok.kind];decide) hf hn ?_ I.funs;exact qJa (qAt I.ok.bsz I.ok.above)
def Inv.stkSub(I:Inv X pins σ H s):∀b∈frs X.stack,b∈X.env.locals::X.fs:=fun b hb=>by
 rcases I.ok.stk with e|⟨e,hf⟩
 ·rw[e]at hb;exact qAp _ hb
 ·rw[e]at hb;unfold frs at hb;rw[qCz,hf]at hb;exact hb
def Inv.stkFree(I:Inv X pins σ H s):∀b∈frs X.stack,H b=none:=fun b hb=>by
 rcases qAb.mp (I.stkSub b hb)with e|hb
 ·rw[e];exact I.free
 ·obtain⟨_,o,ho,_⟩:=I.ok.funs.mem hb;exact I.base.free b o ho (I.ok.frf b hb) fun z=>I.ok.exfs b z hb
def Inv.step{g':Array qKb}{t':Nat}{d':Drawn}{ch:List Addr}(I:Inv X pins σ H s)
  (hch:∀b∈ch,(b∈X.ex\/X.s₀.heap.objs.size<=b)/\b≠X.env.locals/\(∀x c,X.env.cells.lookup x=some c->c≠b)/\∀p∈X.pn++pins,p.1≠b)
  (keep:∀b o,b≠X.env.locals->b∉X.fs->b∉ch->s.heap.get? b=some o->H b=none->h'.get? b=some o)
  (slot:∀b o,b≠X.env.locals->b∈X.fs->b∉ch->s.heap.get? b=some o->H b=none->∃sl,h'.get? b=some { o with slots:=sl }) (free:∀b o,b∉ch->s.heap.get? b=some o->H b=none->H' b=none)
  (there:∀b o,b∉ch->s.heap.get? b=some o->∃o',h'.get? b=some o')
  (tups:∀b xs,H b=some (.tup xs)->H' b=some (.tup xs)) (frzs:∀b o u,H b=some (.frz o u)->H' b=some (.frz o u)) (tbls:∀b ps,H b=some (.tbl ps)->∃more,H' b=some (.tbl (ps++more)))
  (ns:∀m,s.heap.Ns X.env.locals m->h'.Ns X.env.locals m) (hok:HOk X.prog X.w H' h') (hg:qKu g') :
  Inv X pins σ H' { s with heap:=h',gens:=g',drawn:=d',toks:=t' }:=by
 have neL:∀b o,X.s₀.heap.get? b=some o->b≠X.env.locals:=fun b o e=>qAl (qAi (qIl e) I.ok.above)
 have neC:∀b o,X.s₀.heap.get? b=some o->b∉X.ex->b∉ch:=fun b o e hx hb=>by
  rcases(hch b hb).1 with z|z
  ·exact hx z
  ·exact absurd (qAi (qIl e) z) (qBy _)
 have cellK:∀x c,X.env.cells.lookup x=some c->∀v,s.heap.IsCell c v->h'.IsCell c v:=fun x c e v ⟨o,ho,hd⟩=>by
  have nch:c∉ch:=fun z=>(hch c z).2.2.1 x c e rfl
  by_cases hc:c∈X.fs
  ·obtain⟨sl,q⟩:=slot c o (I.cne x c e) hc nch ho (I.freeC x c e);exact⟨_,q,hd⟩
  ·exact⟨o,keep c o (I.cne x c e) hc nch ho (I.freeC x c e),hd⟩
 refine⟨I.ok,I.os,hg,⟨fun b o e n hb hx=>?_,fun b o e n hb hx=>?_,fun b o e n hx=>?_,fun b o e hx=>?_,fun b xs e=>tups b xs (I.base.tups b xs e),fun b o xs e=>frzs b o xs (I.base.frzs b o xs e),fun b ps e=>?_⟩,?_,fun x c e=>?_,?_,fun x c e=>?_,fun p hp=>?_,hok,I.len⟩
 ·exact keep b o (neL b o e) hb (neC b o e hx) (I.base.keep b o e n hb hx) (I.base.free b o e n hx)
 ·obtain⟨sl,e1⟩:=I.base.slot b o e n hb hx;obtain⟨sl',e2⟩:=slot b _ (neL b o e) hb (neC b o e hx) e1 (I.base.free b o e n hx);exact⟨sl',e2⟩
 ·obtain⟨o',e1⟩:=I.base.there b o e hx;exact free b o' (neC b o e hx) e1 (I.base.free b o e n hx)
 ·obtain⟨o',e1⟩:=I.base.there b o e hx;exact there b o' (neC b o e hx) e1
 ·obtain⟨m1,e1⟩:=I.base.tbls b ps e;obtain⟨m2,e2⟩:=tbls b _ e1;exact⟨m1++m2,by rw[e2,Array.append_assoc]⟩
 ·obtain⟨m,hn,hl⟩:=I.loc;refine⟨m,ns m hn,fun i x v e1 e2 e3=>?_⟩;obtain⟨u,r,l⟩:=hl i x v e1 e2 e3;refine⟨u,r,?_⟩
  rcases l with l|⟨k,c,e,z⟩
  ·exact .inl l
  ·exact .inr ⟨k,c,e,cellK x c e _ z⟩
 ·obtain⟨v,z⟩:=I.cell x c e;exact⟨v,cellK x c e v z⟩
 ·obtain⟨m,⟨o,_,_,ho,_⟩,_⟩:=I.loc;exact free _ o (fun z=>(hch _ z).2.1 rfl) ho I.free
 ·obtain⟨v,o,ho,hd⟩:=I.cell x c e;exact free c o (fun z=>(hch c z).2.2.1 x c e rfl) ho (I.freeC x c e)
 ·obtain⟨e,n,ne,nf,d⟩:=I.pin p hp;have nch:p.1∉ch:=fun z=>(hch p.1 z).2.2.2 p hp rfl
  exact⟨keep p.1 p.2 ne nf nch e n,free p.1 p.2 nch e n,ne,nf,d⟩
def Inv.un{t':Nat}(I:Inv X pins σ H s)(u:Un X.fs [] H H' s.heap h')(hok:HOk X.prog X.w H' h'):Inv X pins σ H' { s with heap:=h',toks:=t' }:=by
 obtain⟨m,⟨o,es,ep,ho,r⟩,_⟩:=id I.loc;obtain⟨sl,hL⟩:=u.any ho I.free (by simp);exact I.step (g':=s.gens) (d':=s.drawn) (ch:=[]) (fun _ z=>nomatch z) (fun b o _ hb _ e n=>u.keep b o e n hb (by simp)) (fun b o _ hb _ e n=>u.slot b o e n hb (by simp)) (fun b o _ e n=>u.free b o e n (by simp)) (fun b o _ e=>u.there b o e (by simp)) u.tups u.frzs u.tbls (fun m' hm=>by
  obtain⟨o',es',ep',ho',r'⟩:=hm;rw[ho]at ho';cases ho';exact⟨_,es',ep',hL,r'⟩) hok I.bare
def Inv.call{g':Array qKb}{t':Nat}{d':Drawn}{ch:List Addr}(I:Inv X pins σ H s)(u:Un (frs X.stack) ch H H' s.heap h')(hok:HOk X.prog X.w H' h')(hg:qKu g')
  (hch:∀b∈ch,(b∈X.ex\/X.s₀.heap.objs.size<=b)/\b≠X.env.locals/\(∀x c,X.env.cells.lookup x=some c->c≠b)/\∀p∈X.pn++pins,p.1≠b) :
  Inv X pins σ H' { s with heap:=h',gens:=g',drawn:=d',toks:=t' }:=by
 obtain⟨m,⟨o,es,ep,ho,r⟩,_⟩:=id I.loc;obtain⟨sl,hL⟩:=u.any ho I.free fun z=>(hch _ z).2.1 rfl
 exact I.step (ch:=ch) hch (fun b o hL hb hc e n=>u.keep b o e n (fun z=>(qAb.mp (I.stkSub b z)).elim hL hb) hc) (fun b o _ _ hc e n=>u.any e n hc) (fun b o hc e n=>u.free b o e n hc) (fun b o hc e=>u.there b o e hc) u.tups u.frzs u.tbls (fun m' hm=>by
  obtain⟨o',es',ep',ho',r'⟩:=hm;rw[ho]at ho';cases ho';exact⟨_,es',ep',hL,r'⟩) hok hg
def Inv.turned{t':Nat}{it:Addr}(I:Inv X pins σ H s)(k:∀b o,b≠it->s.heap.get? b=some o->h'.get? b=some o)(hn:H it=none)(hL:it≠X.env.locals)
  (h1:it∈X.ex\/X.s₀.heap.objs.size<=it) (h2:∀x c,X.env.cells.lookup x=some c->c≠it) (h3:∀p∈X.pn++pins,p.1≠it):Inv X pins σ H { s with heap:=h',toks:=t' }:=by
 have nit:∀b u,H b=some u->b≠it:=fun b u e z=>by rw[z,hn]at e;cases e
 refine I.step (g':=s.gens) (d':=s.drawn) (ch:=[it]) (fun b hb=>?_) (fun b o _ _ hc e _=>k b o (fun z=>hc (by simp[z])) e) (fun b o _ _ hc e _=>⟨o.slots,k b o (fun z=>hc (by simp[z])) e⟩) (fun _ _ _ _ n=>n)
  (fun b o hc e=>⟨o,k b o (fun z=>hc (by simp[z])) e⟩) (fun _ _ e=>e) (fun _ _ _ e=>e) (fun b ps e=>⟨#[],by rw[e];simp⟩) (fun m hm=>?_) (fun b u e=>?_) I.bare
 ·have e:b=it:=by simpa using hb
  subst e;exact⟨h1,hL,h2,h3⟩
 ·obtain⟨o,es,ep,ho,r⟩:=hm;exact⟨o,es,ep,k _ o (qC9 hL) ho,r⟩
 ·refine(I.hok b u e).stay (fun c v hc q=>k c v ?_ q) (fun _ q=>q) (fun _ _ q=>q) fun _ _ _ q _=>q
  rcases hc with z|z
  ·rw[z];exact nit b u e
  ·exact nit c _ z
def Inv.tok(I:Inv X pins σ H s)(t:Nat):Inv X pins σ H { s with toks:=t }:=I.un (h':=s.heap) (t':=t) Un.refl I.hok
def Inv.kept{t':Nat}(I:Inv X pins σ H s)(k:∀b u,s.heap.get? b=some u->h'.get? b=some u):Inv X pins σ H { s with heap:=h',toks:=t' }:=I.un (Un.kept k) (I.hok.kept k)
def Inv.laid{a:Addr}{o:HO}{t':Nat}(I:Inv X pins σ H s)(k:∀b u,s.heap.get? b=some u->h'.get? b=some u)(hp:s.heap.objs.size<=a)(new:ObjOk X.prog X.w (upd H a o) h' a o) :
  Inv X pins σ (upd H a o) { s with heap:=h',toks:=t' }:=I.un (Un.laid k hp (I.hok.fresh hp)) (I.hok.laid k hp new)
def Inv.write{x e:Addr}{o:HO}{t':Nat}(I:Inv X pins σ H s)(mu:Mut (H x))(he:e=x\/H e=some (.own x))(k:∀b u,b≠e->s.heap.get? b=some u->h'.get? b=some u)(heo:∃u,h'.get? e=some u)
  (new:ObjOk X.prog X.w (upd H x o) h' x o):Inv X pins σ (upd H x o) { s with heap:=h',toks:=t' }:=I.un (Un.write mu he k heo) (I.hok.write mu he k heo new)
def Inv.weak{σ':List (Option V)}(I:Inv X pins σ H s)(hl:σ'.length=σ.length)(w:∀(i:Nat) v,σ'[i]?=some (some v)->σ[i]?=some (some v)):Inv X pins σ' H s:=
 ⟨I.ok,I.os,I.bare,I.base,let⟨m,hn,hl'⟩:=I.loc;⟨m,hn,fun i x v e1 e2 e3=>hl' i x v e1 (w i v e2) e3⟩,I.cell,I.free,I.freeC,I.pin,I.hok,hl.trans I.len⟩
def Inv.pins_of{pins':List (Addr×Obj)}(I:Inv X pins σ H s)(h:∀p∈pins',s.heap.get? p.1=some p.2/\H p.1=none/\p.1≠X.env.locals/\p.1∉X.fs/\∀v,p.2.data≠.cell v):Inv X pins' σ H s:=
 ⟨I.ok,I.os,I.bare,I.base,I.loc,I.cell,I.free,I.freeC,fun p hp=>(qBt.mp hp).elim (fun z=>I.pin p (qDi _ z)) (h p),I.hok,I.len⟩
def zOZ{N:List Str}(hN:N.Nodup){i j:Nat}{x:Str}(a:N[i]?=some x)(b:N[j]?=some x):i=j:=by
 obtain⟨h1,e1⟩:=qA2.mp a;obtain⟨h2,e2⟩:=qA2.mp b;exact(List.getElem_inj hN).mp (e1.trans e2.symm)
def zL4{M:Model}{A:qIr}{E:Value->qIk->Prop}{i:Nat}{x:Str}{v:V}{u:Value}{Q:Unit->qIk->Prop}(I:Inv X pins σ H s)(hN:X.N.Nodup)(hi:X.N[i]?=some x)(hx:Loc X.env.scope x)(r:RelV v u)
  (h:∀s',Inv X pins (σ.set i (some v)) H s'->(∃a,qJh a s.heap s'.heap/\(a=X.env.locals\/X.env.cells.lookup x=some a))->Q () s') (hf:X.fn x=true\/X.env.scope.names.lookup x=some .local:=by first|exact .inl rfl|exact .inr rfl|assumption):wpAny M A (storeName X.env x u) Q E s:=by
 obtain⟨m,hn,hl⟩:=id I.loc;have hcls:(X.env.scope.kind==.class||(X.env.scope.kind==.module&&X.env.locals != X.env.globals))=false:=by rw[I.ok.kind];rfl
 have hiσ:i<σ.length:=by rw[I.len];exact(qA2.mp hi).1
 have cne:=I.cne;have tracked:∀{a:Addr}{h':Heap},(∃o,s.heap.get? a=some o/\H a=none)->qJh a s.heap h'->HOk X.prog X.w H h':=fun{a h'} ha hs b ob e=>by
  obtain⟨_,_,hfree⟩:=ha;refine(I.hok b ob e).stay (fun c w' hc q=>(hs.2 c ?_).trans q) (fun _ q=>q) (fun _ _ q=>q) fun _ _ _ q _=>q
  rintro rfl
  rcases hc with rfl|hc
  ·rw[hfree]at e;cases e
  ·rw[hfree]at hc;cases hc
 rcases hx with hk|hk
 ·refine wpAny_storeName_local hk hn (fun h' hn' hs=>?_) hcls;obtain⟨oL,_,_,hoL,_⟩:=id hn;refine h _ ⟨I.ok,I.os,I.bare,⟨fun b o e n hb hx=>?_,fun b o e n hb hx=>?_,I.base.free,fun b o e hx=>?_,I.base.tups,I.base.frzs,I.base.tbls⟩,⟨_,hn',fun j y v' e1 e2 e3=>?_⟩,fun y c e=>?_,I.free,I.freeC,fun p hp=>?_,tracked ⟨oL,hoL,I.free⟩ hs,by simpa using I.len⟩ ⟨_,hs,.inl rfl⟩
  ·exact(hs.2 b (qAl (qAi (qIl e) I.ok.above))).trans (I.base.keep b o e n hb hx)
  ·obtain⟨sl,e1⟩:=I.base.slot b o e n hb hx;exact⟨sl,(hs.2 b (qAl (qAi (qIl e) I.ok.above))).trans e1⟩
  ·obtain⟨o',e1⟩:=I.base.there b o e hx;exact⟨o',(hs.2 b (qAl (qAi (qIl e) I.ok.above))).trans e1⟩
  ·by_cases hj:j=i
   ·subst hj;rw[hi]at e1;cases e1;rw[qAo hiσ]at e2;cases e2;exact⟨u,r,.inl ⟨hk,by simp⟩⟩
   ·rw[qAq (qC9 hj)]at e2;obtain⟨u',r',q⟩:=hl j y v' e1 e2 e3;refine⟨u',r',?_⟩
    rcases q with⟨k,e⟩|⟨k,c,e,z⟩
    ·refine .inl ⟨k,?_⟩
     have:y≠x:=fun e=>hj (zOZ hN e1 (e▸hi))
     simp[this,e]
    ·exact .inr ⟨k,c,e,z.sameBut hs (cne y c e)⟩
  ·obtain⟨w',z⟩:=I.cell y c e;exact⟨w',z.sameBut hs (cne y c e)⟩
  ·obtain⟨e,n,ne,nf,d⟩:=I.pin p hp;exact⟨(hs.2 p.1 ne).trans e,n,ne,nf,d⟩
 ·have hfn:X.fn x=true:=by
   rcases hf with z|z
   ·exact z
   ·rw[z]at hk;cases hk
  obtain⟨c,hc⟩:=I.ok.has x (.inl hk);obtain⟨w',z⟩:=I.cell x c hc;refine wpAny_storeName_cell I.ok.kind hk hc z (fun h' hc' hs=>?_);obtain⟨oc,hoc,hocd⟩:=id z;refine h { s with heap:=h' } ⟨I.ok,I.os,I.bare,⟨fun b o e n hb hx=>?_,fun b o e n hb hx=>?_,I.base.free,fun b o e hx=>?_,I.base.tups,I.base.frzs,I.base.tbls⟩,⟨m,hn.sameBut hs (qC9 (cne x c hc)),fun j y v' e1 e2 e3=>?_⟩,fun y c' e=>?_,I.free,I.freeC,fun p hp=>?_,tracked ⟨oc,hoc,I.freeC x c hc⟩ hs,by simpa using I.len⟩ ⟨c,hs,.inr hc⟩
  ·exact(hs.2 b (qAl (qAi (qIl e) (I.ok.cab x c hfn hc)))).trans (I.base.keep b o e n hb hx)
  ·obtain⟨sl,e1⟩:=I.base.slot b o e n hb hx;exact⟨sl,(hs.2 b (qAl (qAi (qIl e) (I.ok.cab x c hfn hc)))).trans e1⟩
  ·obtain⟨o',e1⟩:=I.base.there b o e hx;exact⟨o',(hs.2 b (qAl (qAi (qIl e) (I.ok.cab x c hfn hc)))).trans e1⟩
  ·by_cases hj:j=i
   ·subst hj;rw[hi]at e1;cases e1;rw[qAo hiσ]at e2;cases e2;exact⟨u,r,.inr ⟨.inl hk,c,hc,hc'⟩⟩
   ·rw[qAq (qC9 hj)]at e2;obtain⟨u',r',q⟩:=hl j y v' e1 e2 e3;refine⟨u',r',?_⟩
    rcases q with q|⟨k,c',e,z'⟩
    ·exact .inl q
    ·refine .inr ⟨k,c',e,z'.sameBut hs ?_⟩
     rintro rfl
     exact hj (zOZ hN e1 (I.ok.inj _ _ _ e hc▸hi))
  ·by_cases hcc:c'=c
   ·subst hcc;exact⟨_,hc'⟩
   ·obtain⟨w2,z2⟩:=I.cell y c' e;exact⟨w2,z2.sameBut hs hcc⟩
  ·obtain⟨e,n,ne,nf,d⟩:=I.pin p hp;refine⟨(hs.2 p.1 ?_).trans e,n,ne,nf,d⟩;intro q;rw[q,hoc]at e;have q':oc=p.2:=qBg e;exact d w' (by rw[<- q'];exact hocd)
def zON{M:Model}{A:qIr}{E:Value->qIk->Prop}{i:Nat}{x:Str}{v:V}{u:Value}{Q:Unit->qIk->Prop}(I:Inv X pins σ H s)(hN:X.N.Nodup)(hi:X.N[i]?=some x)(hx:Loc X.env.scope x)(r:RelV v u)
  (h:∀s',Inv X pins (σ.set i (some v)) H s'->Q () s') (hf:X.fn x=true\/X.env.scope.names.lookup x=some .local:=by first|exact .inl rfl|exact .inr rfl|assumption):wpAny M A (storeName X.env x u) Q E s:=
 zL4 I hN hi hx r (fun s' I' _=>h s' I') hf
def Inv.call'{s':qIk}{ch:List Addr}(I:Inv X pins σ H s)(ho:s'.os=s.os)(u:Un (frs X.stack) ch H H' s.heap s'.heap)(hok:HOk X.prog X.w H' s'.heap)(hg:qKu s'.gens)
  (hch:∀b∈ch,(b∈X.ex\/X.s₀.heap.objs.size<=b)/\b≠X.env.locals/\(∀x c,X.env.cells.lookup x=some c->c≠b)/\∀p∈X.pn++pins,p.1≠b):Inv X pins σ H' s':=by
 obtain⟨h',g',d',t',o'⟩:=s';have e:o'=s.os:=ho;subst e;exact I.call (g':=g') (t':=t') (d':=d') u hok hg hch
end
abbrev XK:=Value->Option Addr->Hp->Prop
abbrev St:=List (Option V)
abbrev VK:=V->Hp->Prop
abbrev TE:=St->Hp->VK->Prop
abbrev TT:=St->Hp->(Bool->Hp->Prop)->Prop
abbrev TA:=St->Hp->(List V->Hp->Prop)->Prop
structure Ends where
 nx:St->Hp->Prop
 rt:VK
 bk:St->Hp->Prop:=fun _ _=>False
 ct:St->Hp->Prop:=fun _ _=>False
abbrev TS:=Ends->St->Hp->Prop
def EP(X:Cx)(pins:List (Addr×Obj))(σ:St)(Q:VK)(u:Value)(s':qIk):Prop:=∃v H',Inv X pins σ H' s'/\RelV v u/\Q v H'
def TP(X:Cx)(pins:List (Addr×Obj))(σ:St)(Q:Bool->Hp->Prop)(b:Bool)(s':qIk):Prop:=∃H',Inv X pins σ H' s'/\Q b H'
def AP(X:Cx)(pins:List (Addr×Obj))(σ:St)(Q:List V->Hp->Prop)(us:List Value)(s':qIk):Prop:=∃vs H',Inv X pins σ H' s'/\Vals vs us/\Q vs H'
def SP(X:Cx)(pins:List (Addr×Obj))(D:Ends)(f:Flow)(s':qIk):Prop:=
 match f with
 |.next=>∃σ' H',Inv X pins σ' H' s'/\D.nx σ' H'
 |.brk=>∃σ' H',Inv X pins σ' H' s'/\D.bk σ' H'
 |.cont=>∃σ' H',Inv X pins σ' H' s'/\D.ct σ' H'
 |.ret u=>∃v σ' H',Inv X pins σ' H' s'/\RelV v u/\D.rt v H'
def PE(X:Cx)(e:Expr)(t:TE):Prop:=
 ∀(pins:List (Addr×Obj))(s:qIk)(σ:St)(H:Hp)(Q:VK),Inv X pins σ H s->t σ H Q->wpAny (model X.prog X.w) X.A (eval e X.env) (EP X pins σ Q) X.xe s
def PT(X:Cx)(e:Expr)(t:TT):Prop:=
 ∀(pins:List (Addr×Obj))(s:qIk)(σ:St)(H:Hp)(Q:Bool->Hp->Prop),Inv X pins σ H s->t σ H Q->wpAny (model X.prog X.w) X.A (isTrue e X.env (eval e X.env)) (TP X pins σ Q) X.xe s
def PW(X:Cx)(e:Expr)(t:TT):Prop:=
 ∀(whole:Sem Value)(pins:List (Addr×Obj))(s:qIk)(σ:St)(H:Hp)(Q:Bool->Hp->Prop),Inv X pins σ H s->t σ H Q->wpAny (model X.prog X.w) X.A (isTrue e X.env whole) (TP X pins σ Q) X.xe s
def PW.pt{X:Cx}{e:Expr}{t:TT}(h:PW X e t):PT X e t:=h _
def PA(X:Cx)(es:List Expr)(t:TA):Prop:=
 ∀(pos:Pos)(pins:List (Addr×Obj))(s:qIk)(σ:St)(H:Hp)(Q:List V->Hp->Prop),Inv X pins σ H s->t σ H Q->wpAny (model X.prog X.w) X.A (spliced (backTo pos (starEach es X.env))) (AP X pins σ Q) X.xe s
def PS(X:Cx)(st:Stmt)(t:TS):Prop:=
 ∀(pins:List (Addr×Obj))(s:qIk)(σ:St)(H:Hp)(D:Ends),Inv X pins σ H s->t D σ H->wpAny (model X.prog X.w) X.A (exec st X.env) (SP X pins D) X.xe s
def PSs(X:Cx)(st:List Stmt)(t:TS):Prop:=
 ∀(pins:List (Addr×Obj))(s:qIk)(σ:St)(H:Hp)(D:Ends),Inv X pins σ H s->t D σ H->wpAny (model X.prog X.w) X.A (execs st X.env) (SP X pins D) X.xe s
def thn{α:Type}{t:Sem α}{Q Q':α->qIk->Prop}{M:Model}{A:qIr}{E:Value->qIk->Prop}{s:qIk}(h:wpAny M A t Q E s)(hQ:∀a s,Q a s->Q' a s):wpAny M A t Q' E s:=wpAny_mono h hQ fun _ _ x=>x
section
variable{X:Cx}
def tVar(i:Nat):TE:=fun σ H Q=>∃v,σ[i]?=some (some v)/\Q v H
def tC(v:V):TE:=fun _ H Q=>Q v H
def zRO{i:Nat}{x:Str}{pos:Pos}(hN:X.N[i]?=some x)(hv:Vis X.env.scope x)(hd:(x==("__debug__":Str))=false:=by decide)(hcd:(x==("__classdict__":Str))=false:=by decide):PE X (.Name x pos) (tVar i):=by
 intro pins s σ H Q I h;obtain⟨v,e,h⟩:=h;obtain⟨m,hn,hl⟩:=I.loc;obtain⟨u,r,l⟩:=hl i x v hN e hv;have fin:EP X pins σ Q u s:=⟨v,H,I,r,h⟩;rcases l with⟨hk,hm⟩|⟨hk,c,hc,hcell⟩
 ·exact qN1 (wpAny_loadName_local I.ok.kind hk hn hm fin) hd
 ·rcases hk with hk|hk
  ·exact qN1 (wpAny_loadName_cell I.ok.kind hk hc hcell fin) hd
  ·exact qN1 (wpAny_loadName_free I.ok.kind hk hc hcell fin hcd) hd
def zA9{i j pos}:PE X (.Constant (.int i) j pos) (tC (.int i)):=fun _ _ _ H _ I h=>wpAny_Constant_int ⟨.int i,H,I.tok _,⟨_,rfl⟩,h⟩
def zNH{b j pos}:PE X (.Constant (.bool b) j pos) (tC (.bl b)):=fun _ _ _ H _ I h=>Constant_bool ⟨.bl b,H,I,rfl,h⟩
def zHX{x j pos}:PE X (.Constant (.str x) j pos) (tC (.str x)):=fun _ _ _ H _ I h=>Calls.Constant_str ⟨.str x,H,I.tok _,⟨_,rfl⟩,h⟩
def Gl(X:Cx)(x:Str):Prop:=X.env.kindOf x=some .globalImplicit
def zFD{E:Value->qIk->Prop}{pins:List (Addr×Obj)}{s:qIk}{σ:St}{H:Hp}{x:Str}{u:Value}{pos:Pos}{Q:Value->qIk->Prop}(I:Inv X pins σ H s)(hg:Gl X x)(hm:X.mg x=some u)(h:Q u s)
  (hd:(x==("__debug__":Str))=false:=by decide):wpAny (model X.prog X.w) X.A (eval (.Name x pos) X.env) Q E s:=
 qKl I.ok.kind hg (Calls.loadGlobal_global (by rw[I.ok.glob];exact I.mod.glob.keeps I.bk) hm h) hd
def zI7{E:Value->qIk->Prop}{pins:List (Addr×Obj)}{s:qIk}{σ:St}{H:Hp}{x:Str}{u:Value}{pos:Pos}{Q:Value->qIk->Prop}(I:Inv X pins σ H s)(hg:Gl X x)(hm:X.mg x=none)(hv:qK0 x=some u)(h:Q u s)
  (hn:x≠"__name__":=by decide) (hd:(x==("__debug__":Str))=false:=by decide):wpAny (model X.prog X.w) X.A (eval (.Name x pos) X.env) Q E s:=by
 obtain⟨mb,h1,h2⟩:=I.mod.blt;exact qKl I.ok.kind hg (Calls.loadGlobal_builtin (by rw[I.ok.glob];exact I.mod.glob.keeps I.bk) hm (by rw[I.ok.blt];exact h1.keeps I.bk) ((h2 x hn).trans hv) h) hd
def zHY{x:Str}{v:V}{u:Value}{pos:Pos}(hg:Gl X x)(hm:X.mg x=none)(hv:qK0 x=some u)(r:RelV v u)(hn:x≠"__name__":=by decide)(hd:(x==("__debug__":Str))=false:=by decide):PE X (.Name x pos) (tC v):=
 fun _ _ _ H _ I h=>zI7 I hg hm hv ⟨v,H,I,r,h⟩ hn hd
variable{a b:Expr}{ta tb:TE}{pos:Pos}
def tB(t:TE):TT:=fun σ H Q=>t σ H fun x H1=>∃c,x=.bl c/\Q c H1
variable{tA tB':TT}{rest:List Expr}
def tAnd(t u:TT):TT:=fun σ H Q=>t σ H fun c H1=>if c=true then u σ H1 Q else Q false H1
def tOr(t u:TT):TT:=fun σ H Q=>t σ H fun c H1=>if c=true then Q true H1 else u σ H1 Q
def tNot(t:TT):TT:=fun σ H Q=>t σ H fun c H1=>Q (!c) H1
def zRJ(ha:PT X a tA):PW X (.BoolOp .And [a] pos) tA:=by
 intro wh pins s σ H Q I h;refine isTrue_and (thn (ha pins s σ H Q I h) fun c s1 e=>?_);cases c with
 |true=>exact isTrue_and_nil e
 |false=>exact e
def zHV(ha:PT X a tA):PW X (.BoolOp .Or [a] pos) tA:=by
 intro wh pins s σ H Q I h;refine isTrue_or (thn (ha pins s σ H Q I h) fun c s1 e=>?_);cases c with
 |false=>exact isTrue_or_nil e
 |true=>exact e
def zWF(ha:PT X a tA)(hb:PW X (.BoolOp .And (b::rest) pos) tB'):PW X (.BoolOp .And (a::b::rest) pos) (tAnd tA tB'):=by
 intro wh pins s σ H Q I h;refine isTrue_and (thn (ha pins s σ H _ I h) fun c s1 z0=>?_);obtain⟨H1,I1,q1⟩:=z0;cases c with
 |true=>exact hb wh pins s1 σ H1 Q I1 q1
 |false=>exact⟨H1,I1,q1⟩
def zNG(ha:PT X a tA)(hb:PW X (.BoolOp .Or (b::rest) pos) tB'):PW X (.BoolOp .Or (a::b::rest) pos) (tOr tA tB'):=by
 intro wh pins s σ H Q I h;refine isTrue_or (thn (ha pins s σ H _ I h) fun c s1 z0=>?_);obtain⟨H1,I1,q1⟩:=z0;cases c with
 |true=>exact⟨H1,I1,q1⟩
 |false=>exact hb wh pins s1 σ H1 Q I1 q1
def zJ5(ha:PT X a tA):PT X (.UnaryOp .Not a pos) (tNot tA):=by
 intro pins s σ H Q I h;exact isTrue_not (ha pins s σ H (fun c H1=>Q (!c) H1) I h)
def zWG{op}{t:TE}(h:PE X a t):PE X (.BoolOp op [a] pos) t:=fun pins s σ H Q I hw=>BoolOp_one (h pins s σ H Q I hw)
def tIf(t:TT)(ta tb:TE):TE:=fun σ H Q=>t σ H fun c H1=>if c=true then ta σ H1 Q else tb σ H1 Q
def zUB{c:Expr}(hc:PT X c tA)(ha:PE X a ta)(hb:PE X b tb):PE X (.IfExp c a b pos) (tIf tA ta tb):=by
 intro pins s σ H Q I h;refine wpAny_IfExp (thn (hc pins s σ H _ I h) fun d s1 z0=>?_);obtain⟨H1,I1,q1⟩:=z0;cases d with
 |true=>exact ha pins s1 σ H1 Q I1 q1
 |false=>exact hb pins s1 σ H1 Q I1 q1
end
def SqL(K:qA0)(H:Hp)(a:Addr)(xs:List V):Prop:=
 Rd H a (.lst xs) \/
  ∃(o:Obj)(its:Array Value)(n:Nat),K.lookup a=some o/\o.cls=.type "list"/\o.dict=none/\o.data=.seq its n/\its.size<=sizeLine/\Vals xs its.toList
def SqT(K:qA0)(H:Hp)(a:Addr)(xs:List V):Prop:=
 Rd H a (.tup xs) \/
  ∃(o:Obj)(its:Array Value)(n:Nat),K.lookup a=some o/\o.cls=.type "tuple"/\o.data=.seq its n/\its.size<=sizeLine/\Vals xs its.toList
def absV:Value->Option V
 |.none=>some .non
 |.bool b=>some (.bl b)
 |.int i _=>some (.int i)
 |.str x _=>some (.str x)
 |.bytes b _=>some (.byt b)
 |.float b _=>some (.flt b)
 |.ref a=>some (.ref a)
 |.type n=>some (.ty n)
 |_=>none
def RelV.abs{x:V}{u:Value}(r:RelV x u):absV u=some x:=by
 cases x with
 |non=>cases r;rfl
 |bl _=>cases r;rfl
 |int _=>obtain⟨t,rfl⟩:=r;rfl
 |str _=>obtain⟨t,rfl⟩:=r;rfl
 |byt _=>obtain⟨t,rfl⟩:=r;rfl
 |flt _=>obtain⟨t,rfl⟩:=r;rfl
 |ref _=>cases r;rfl
 |ty _=>cases r;rfl
def RelV.inj{x y:V}{u:Value}(r:RelV x u)(q:RelV y u):x=y:=qBg (r.abs.symm.trans q.abs)
def Vals.inj:∀{xs ys:List V}{us:List Value},Vals xs us->Vals ys us->xs=ys
 |_,_,_,.nil,.nil=>rfl
 |_,_,_,.cons r t,.cons r' t'=>by rw[r.inj r',Vals.inj t t']
section
variable{X:Cx}{pins:List (Addr×Obj)}{σ:St}{H:Hp}{s:qIk}{a:Addr}{xs ys:List V}
def SqL.of{K:qA0}(h:H a=some (.lst xs)):SqL K H a xs:=.inl (.inl h)
def SqT.of{K:qA0}(h:H a=some (.tup xs)):SqT K H a xs:=.inl (.inl h)
def Inv.list(I:Inv X pins σ H s)(h:SqL X.K H a xs):∃its:List Value,Vals xs its/\PlainL s.heap a its.toArray/\xs.length<=sizeLine:=by
 rcases h with h|⟨o,its,n,hk,hc,hd,hs,hz,r⟩
 ·obtain⟨z,its,n,r,e⟩:=h.ok I.hok;exact⟨its,r,⟨_,n,e,rfl,rfl,rfl⟩,z⟩
 ·refine⟨its.toList,r,⟨o,n,I.kIn a o hk,hc,hd,by simpa using hs⟩,?_⟩;have e:=r.length;simp only[qB9]at e;omega
def Inv.tuple(I:Inv X pins σ H s)(h:SqT X.K H a xs):∃its:List Value,Vals xs its/\IsTup s.heap a its.toArray/\xs.length<=sizeLine:=by
 rcases h with h|⟨o,its,n,hk,hc,hs,hz,r⟩
 ·obtain⟨z,its,r,p⟩:=h.ok I.hok;exact⟨its,r,p,z⟩
 ·refine⟨its.toList,r,⟨o,I.kIn a o hk,hc,n,by simpa using hs⟩,?_⟩;have e:=r.length;simp only[qB9]at e;omega
def Inv.list_inj(I:Inv X pins σ H s)(h:SqL X.K H a xs)(h':SqL X.K H a ys):xs=ys:=by
 obtain⟨its,r,⟨o,n,e,_,_,d⟩,_⟩:=I.list h;obtain⟨its',r',⟨o',n',e',_,_,d'⟩,_⟩:=I.list h';rw[e]at e';cases e';rw[d]at d';injection d' with d1 _
 have:its=its':=by simpa using congrArg qGp d1
 subst this;exact r.inj r'
def Inv.tuple_inj(I:Inv X pins σ H s)(h:SqT X.K H a xs)(h':SqT X.K H a ys):xs=ys:=by
 obtain⟨its,r,⟨o,e,_,n,d⟩,_⟩:=I.tuple h;obtain⟨its',r',⟨o',e',_,n',d'⟩,_⟩:=I.tuple h';rw[e]at e';cases e';rw[d]at d';injection d' with d1 _
 have:its=its':=by simpa using congrArg qGp d1
 subst this;exact r.inj r'
end
abbrev Cx.wish(X:Cx)(E:Value->qIk->Prop):Cx:={ X with xe:=E }
abbrev Cx.nox(X:Cx):Cx:=X.wish fun _ _=>False
def Cx.Ok.wish{X:Cx}(ok:X.Ok)(E:Value->qIk->Prop):(X.wish E).Ok:=
 ⟨ok.mod,ok.kind,ok.glob,ok.blt,ok.above,ok.inj,ok.has,ok.cab,ok.hd,ok.frames,ok.stk,ok.exf,ok.bs,ok.bsz,ok.noex,ok.exfs,ok.funs,ok.frf⟩
def Cx.Ok.unwish{X:Cx}{E:Value->qIk->Prop}(ok:(X.wish E).Ok):X.Ok:=
 ⟨ok.mod,ok.kind,ok.glob,ok.blt,ok.above,ok.inj,ok.has,ok.cab,ok.hd,ok.frames,ok.stk,ok.exf,ok.bs,ok.bsz,ok.noex,ok.exfs,ok.funs,ok.frf⟩
section
variable{X:Cx}{pins:List (Addr×Obj)}{σ:St}{H:Hp}{s:qIk}{E:Value->qIk->Prop}
def Inv.wish(I:Inv X pins σ H s)(E:Value->qIk->Prop):Inv (X.wish E) pins σ H s:=⟨I.ok.wish E,I.os,I.bare,I.base,I.loc,I.cell,I.free,I.freeC,I.pin,I.hok,I.len⟩
def Inv.unwish(I:Inv (X.wish E) pins σ H s):Inv X pins σ H s:=⟨I.ok.unwish,I.os,I.bare,I.base,I.loc,I.cell,I.free,I.freeC,I.pin,I.hok,I.len⟩
def SP.unwish{D:Ends}{f:Flow}{s':qIk}(h:SP (X.wish E) pins D f s'):SP X pins D f s':=by
 cases f with
 |next=>obtain⟨σ',H',I,q⟩:=h;exact⟨σ',H',I.unwish,q⟩
 |brk=>obtain⟨σ',H',I,q⟩:=h;exact⟨σ',H',I.unwish,q⟩
 |cont=>obtain⟨σ',H',I,q⟩:=h;exact⟨σ',H',I.unwish,q⟩
 |ret u=>obtain⟨v,σ',H',I,r,q⟩:=h;exact⟨v,σ',H',I.unwish,r,q⟩
def PSs.nox{st:List Stmt}{t:TS}(h:PSs X.nox st t):PSs X st t:=fun pins s σ H D I hw=>
 wpAny_mono (h pins s σ H D (I.wish _) hw) (fun _ _ q=>q.unwish) fun _ _ z=>qA4 z
end
section
variable{X:Cx}{st:Stmt}{rest:List Stmt}{t u:TS}{e:Expr}{te:TE}{pos:Pos}
def zZV:TS:=fun D σ H=>D.nx σ H
def tSeq(t u:TS):TS:=fun D σ H=>t { D with nx:=u D } σ H
def zCG:PSs X [] zZV:=fun _ _ σ H _ I h=>qL3 ⟨σ,H,I,h⟩
def zA4(h1:PS X st t)(h2:PSs X rest u):PSs X (st::rest) (tSeq t u):=by
 intro pins s σ H D I h;refine wpAny_execs_cons (thn (h1 pins s σ H { D with nx:=u D } I h) fun f s1 q=>?_);cases f with
 |next=>
  obtain⟨σ',H',I',q⟩:=q;exact h2 pins s1 σ' H' D I' q
 |ret v=>exact q
 |brk=>exact q
 |cont=>exact q
def zAF(h1:PS X st t):PSs X [st] t:=by
 intro pins s σ H D I h;refine wpAny_execs_cons (thn (h1 pins s σ H D I h) fun f s1 q=>?_);cases f with
 |next=>exact qL3 q
 |ret v=>exact q
 |brk=>exact q
 |cont=>exact q
def Inv.quiet{pins:List (Addr×Obj)}{σ:St}{H:Hp}{s:qIk}(I:Inv X pins σ H s):interactive X.env=false:=by simp[interactive,I.ok.kind]
def zN6(te:TE):TS:=fun D σ H=>te σ H fun _ H1=>D.nx σ H1
def zK3(he:PE X e te)(hs:qLp e none pos.line X.env=pure false:=by rfl):PS X (.Expr e pos) (zN6 te):=by
 intro pins s σ H D I h;exact wpAny_Expr_any (thn (he pins s σ H _ I h) fun v s1 ⟨x,H1,I1,r1,q1⟩=>⟨σ,H1,I1,q1⟩) I.quiet hs
def tRet(te:TE):TS:=fun D σ H=>te σ H D.rt
def zAS(he:PE X e te):PS X (.Return (some e) pos) (tRet te):=by
 intro pins s σ H D I h;exact wpAny_Return_some (thn (he pins s σ H _ I h) fun v s1 ⟨x,H1,I1,r1,q1⟩=>⟨x,σ,H1,I1,r1,q1⟩)
def tIfS(c:TT)(t u:TS):TS:=fun D σ H=>c σ H fun b H1=>if b=true then t D σ H1 else u D σ H1
def zFB{c:Expr}{a b:List Stmt}{tc:TT}(hc:PT X c tc)(ha:PSs X a t)(hb:PSs X b u):PS X (.If c a b pos) (tIfS tc t u):=by
 intro pins s σ H D I h;refine wpAny_If (thn (hc pins s σ H _ I h) fun d s1 z0=>?_);obtain⟨H1,I1,q1⟩:=z0;cases d with
 |true=>exact ha pins s1 σ H1 D I1 q1
 |false=>exact hb pins s1 σ H1 D I1 q1
end
abbrev TG:=V->St->Hp->(St->Hp->Prop)->Prop
abbrev TGs:=List V->St->Hp->(St->Hp->Prop)->Prop
def PG(X:Cx)(target:Expr)(t:TG):Prop:=
 ∀(pins:List (Addr×Obj))(s:qIk)(σ:St)(H:Hp)(v:V)(u:Value)(Q:St->Hp->Prop),Inv X pins σ H s->RelV v u->t v σ H Q ->
  wpAny (model X.prog X.w) X.A (assign target X.env u) (fun _ s'=>∃σ' H',Inv X pins σ' H' s'/\Q σ' H') X.xe s
def PGs(X:Cx)(ts:List Expr)(t:TGs):Prop:=
 ∀(pins:List (Addr×Obj))(s:qIk)(σ:St)(H:Hp)(vs:List V)(us:List Value)(Q:St->Hp->Prop),Inv X pins σ H s->Vals vs us->t vs σ H Q ->
  wpAny (model X.prog X.w) X.A (assignInOrder ((assignEach ts X.env).map (·.2)) us) (fun _ s'=>∃σ' H',Inv X pins σ' H' s'/\Q σ' H') X.xe s
abbrev TSet:=V->V->V->Hp->(Hp->Prop)->Prop
def PSet(X:Cx)(t:TSet):Prop:=
 ∀(pins:List (Addr×Obj))(s:qIk)(σ:St)(H:Hp)(o i v:V)(ov iv u:Value)(Q:Hp->Prop),Inv X pins σ H s->RelV o ov->RelV i iv->RelV v u->t o i v H Q ->
  wpAny (model X.prog X.w) X.A (setItem ov iv u) (fun _ s'=>∃H',Inv X pins σ H' s'/\Q H') X.xe s
section
variable{X:Cx}{pos:Pos}
def zIW(i:Nat):TG:=fun v σ H Q=>Q (σ.set i (some v)) H
def zAN{i:Nat}{x:Str}(hN:X.N.Nodup)(hi:X.N[i]?=some x)(hx:Loc X.env.scope x)(hf:X.fn x=true\/X.env.scope.names.lookup x=some .local:=by first|exact .inl rfl|exact .inr rfl|assumption):PG X (.Name x pos) (zIW i):=by
 intro pins s σ H v u Q I r h;exact qLv (zON I hN hi hx r (fun s' I'=>⟨_,H,I',h⟩) hf)
def gNil:TGs:=fun vs σ H Q=>vs=[]/\Q σ H
def zbT(t:TG)(u:TGs):TGs:=fun vs σ H Q=>∃v r,vs=v::r/\t v σ H fun σ' H'=>u r σ' H' Q
def zEJ:PGs X [] gNil:=by
 intro pins s σ H vs us Q I r h;obtain⟨e,h⟩:=h;subst e;cases r;exact assignInOrder_nil ⟨σ,H,I,h⟩
def zBM{e:Expr}{es:List Expr}{t:TG}{u:TGs}(h1:PG X e t)(h2:PGs X es u)
  (hs:(assignEach (e::es) X.env).map (·.2)=assign e X.env::(assignEach es X.env).map (·.2):=by rfl):PGs X (e::es) (zbT t u):=by
 intro pins s σ H vs us Q I r h;obtain⟨v,vr,e1,h⟩:=h;subst e1;cases r with
 |cons r rr=>
  rw[hs];refine assignInOrder_cons (thn (h1 pins s σ H _ _ _ I r h) fun _ s1 z0=>?_);obtain⟨σ1,H1,I1,q1⟩:=z0;exact h2 pins s1 σ1 H1 _ _ Q I1 rr q1
def gTup(K:qA0)(n:Nat)(t:TGs):TG:=fun v σ H Q=>∃a xs,v=.ref a/\SqT K H a xs/\xs.length=n/\t xs σ H Q
def zaP{es:List Expr}{k:Nat}{t:TGs}{n:Nat}(hc:X.calm=true)(h:PGs X es t)
  (hn:(assignEach es X.env).length=n:=by rfl) (hst:(assignEach es X.env).findIdx? (·.1)=none:=by rfl):PG X (.Tuple es k pos) (gTup X.K n t):=by
 intro pins s σ H v u Q I r hw;obtain⟨a,xs,e1,hq,hl,hw⟩:=hw;subst e1;cases r;obtain⟨its,rv,ht,hz⟩:=I.tuple hq;refine assign_Tuple_tuple (I.ok.hd hc) ht (by simp[hn,<- hl,rv.length]) hst fun h' hx=>?_
 have I1:Inv X pins σ H { s with heap:=h' }:=I.kept (t':=s.toks) fun b o e=>hx b o (qAl (qIl e)) e
 exact h pins _ σ H xs _ Q I1 (by simpa using rv) hw
def gSub(to ti:TE)(t:TSet):TG:=fun v σ H Q=>to σ H fun o H1=>ti σ H1 fun i H2=>t o i v H2 fun H3=>Q σ H3
def zLK{o i:Expr}{to ti:TE}{t:TSet}(ho:PE X o to)(hi:PE X i ti)(hs:PSet X t)
  (ha:∀v,assign (.Subscript o i pos) X.env v=(do
   let ov <- holding [v] (eval o X.env)
   let iv <- holding [v,ov] (eval i X.env)
   qMl pos
   holding [v,ov,iv] (setItem ov iv v)
   release [v,ov,iv] []):=by intro _;rfl):PG X (.Subscript o i pos) (gSub to ti t):=by
 intro pins s σ H v u Q I r h;rw[ha];refine wpAny_bind (wpAny_holding (thn (ho pins s σ H _ I h) fun ov s1 z0=>?_));obtain⟨x,H1,I1,r1,q1⟩:=z0;refine wpAny_bind (wpAny_holding (thn (hi pins s1 σ H1 _ I1 q1) fun iv s2 z0=>?_));obtain⟨y,H2,I2,r2,q2⟩:=z0;refine wpAny_bind (wpAny_standAt (wpAny_bind (wpAny_holding (thn (hs pins s2 σ H2 x y v ov iv u _ I2 r1 r2 r q2) fun _ s3 z0=>?_))));obtain⟨H3,I3,q3⟩:=z0;exact wpAny_release ⟨σ,H3,I3,q3⟩
def tAsg(te:TE)(g:TG):TS:=fun D σ H=>te σ H fun x H1=>g x σ H1 D.nx
def zHW{tg e:Expr}{te:TE}{g:TG}(he:PE X e te)(hg:PG X tg g)(hs:swapsWithSole [tg] e pos.line X.env=pure false:=by rfl)(hw:swappedStores [tg] e X.env=pure none:=by rfl)
  (h1:(assignEach [tg] X.env).map (·.2)=[assign tg X.env]:=by rfl):PS X (.Assign [tg] e pos) (tAsg te g):=by
 intro pins s σ H D I h;refine wpAny_Assign_stores (thn (he pins s σ H _ I h) fun v s1 z0=>?_) hs hw;obtain⟨x,H1,I1,r1,q1⟩:=z0;rw[h1];exact thn (hg pins s1 σ H1 x v _ I1 r1 q1) fun _ s2 q=>q
def zAP{i:Nat}{x:Str}{e:Expr}{te:TE}{pos':Pos}(hN:X.N.Nodup)(hi:X.N[i]?=some x)(hx:Loc X.env.scope x)(he:PE X e te)(hs:qLp e (some (.Name x pos')) pos.line X.env=pure false:=by rfl)(hf:X.fn x=true\/X.env.scope.names.lookup x=some .local:=by first|exact .inl rfl|exact .inr rfl|assumption) :
  PS X (.Assign [.Name x pos'] e pos) (tAsg te (zIW i)):=by
 intro pins s σ H D I h;refine wpAny_Assign_Name (thn (he pins s σ H _ I h) fun v s1 z0=>?_) hs;obtain⟨y,H1,I1,r1,q1⟩:=z0;exact zON I1 hN hi hx r1 (fun s2 I2=>⟨_,H1,I2,q1⟩) hf
end
structure It where
 go:Nat->Hp->Prop
 yld:Nat->Hp->V->Hp->Prop
 stop:Nat->Hp->Prop
def FpOk(X:Cx)(pins:List (Addr×Obj))(H:Hp)(b:Addr):Prop:=
 H b=none/\b≠X.env.locals/\b∉X.fs/\(b∈X.ex\/X.s₀.heap.objs.size<=b)/\(∀x c,X.env.cells.lookup x=some c->c≠b)/\∀p∈X.pn++pins,p.1≠b
def Inv.fpOk{X:Cx}{pins:List (Addr×Obj)}{σ:St}{H H':Hp}{s:qIk}{b:Addr}(I:Inv X pins σ H s)(hb:s.heap.objs.size<=b)(hn:H' b=none):FpOk X pins H' b:=by
 refine⟨hn,qBx (qAi I.lt hb),I.nofs hb,.inr (qAt I.sz hb),fun x c e z=>?_,fun p hp z=>?_⟩
 ·obtain⟨v,q⟩:=I.cell x c e;exact absurd (qAi q.lt (by rw[z];exact hb)) (qBy _)
 ·exact absurd (qAi (qIl (I.pin p hp).1) (by rw[z];exact hb)) (qBy _)
structure Turn(P:qIo)(w:World)(K:qA0)(tg:Expr)(J:It)(fp:List Addr)(it:Addr)(tn:Nat->Heap->Prop):Prop where
 mem:it∈fp
 obj:∀i h,tn i h->∀b∈fp,∃o,h.get? b=some o/\∀v,o.data≠.cell v
 keep:∀i h h',tn i h->(∀b∈fp,∀o,h.get? b=some o->h'.get? b=some o)->tn i h'
 item:∀(X:Cx),X.prog=P->X.w=w->X.K=K->X.calm=true->∀(i:Nat)(pins:List (Addr×Obj))(s:qIk)(σ:St)(H:Hp)(E:Value->qIk->Prop),Inv X pins σ H s->(∀b∈fp,FpOk X pins H b)->tn i s.heap->J.go i H ->
  wpAny (model P w) X.A (pyNext (.ref it)) (fun r s1=>∃u,r=some u /\
   wpAny (model P w) X.A (letOwnedTupleGo tg (.ref it) u) (fun _ s2=>∃x H',Inv X pins σ H' s2/\RelV x u/\J.yld i H x H'/\tn (i+1) s2.heap/\∀b∈fp,H' b=none) E s1) E s
 done:∀(X:Cx),X.prog=P->X.w=w->X.K=K->X.calm=true->∀(i:Nat)(pins:List (Addr×Obj))(s:qIk)(σ:St)(H:Hp)(E:Value->qIk->Prop),Inv X pins σ H s->(∀b∈fp,FpOk X pins H b)->tn i s.heap->J.stop i H ->
  wpAny (model P w) X.A (pyNext (.ref it)) (fun r s1=>r=none/\Inv X pins σ H s1) E s
 self:∀(A:qIr)(i:Nat)(s:qIk)(Q:Value->qIk->Prop)(E:Value->qIk->Prop),tn i s.heap->Q (.ref it) s->wpAny (model P w) A (pyIter (.ref it)) Q E s
abbrev TI:=St->Hp->(It->Hp->Prop)->Prop
def PIE(X:Cx)(pins:List (Addr×Obj))(σ:St)(tg:Expr)(R:It->Hp->Prop)(itv:Value)(s2:qIk):Prop:=
 ∃(it:Addr)(fp:List Addr)(tn:Nat->Heap->Prop)(J:It)(H':Hp),itv=.ref it/\Inv X pins σ H' s2/\Turn X.prog X.w X.K tg J fp it tn/\tn 0 s2.heap/\(∀b∈fp,FpOk X pins H' b)/\R J H'
def PI(X:Cx)(tg iter:Expr)(wi:TI):Prop:=
 ∀(pins:List (Addr×Obj))(s:qIk)(σ:St)(H:Hp)(R:It->Hp->Prop),Inv X pins σ H s->wi σ H R ->
  wpAny (model X.prog X.w) X.A (eval iter X.env) (fun v s1=>wpAny (model X.prog X.w) X.A (pyIter v) (PIE X pins σ tg R) X.xe s1) X.xe s
def zV6{M:Model}{A:qIr}{E:Value->qIk->Prop}{s:qIk}{tg:Expr}{it:Addr}{u:Value}{o:Obj}{n:String}{vs:Array Value}{Q:Unit->qIk->Prop}(ho:s.heap.get? it=some o)(hc:o.cls=.type n)(hd:o.data=.fields vs)
  (hn:["enumerate","zip","dict_itemiterator","dict_reverseitemiterator","odict_iterator","itertools.zip_longest","itertools.pairwise"].contains n=false) (hQ:Q () s):wpAny M A (letOwnedTupleGo tg (.ref it) u) Q E s:=by
 unfold letOwnedTupleGo;cases tg<;>first
  |exact wpAny_pure hQ
  |(cases u<;>first
    |exact wpAny_pure hQ
    |(refine wpAny_bind (wpAny_load ho ?_)
      rw[hc,hd];show wpAny M A (if(["enumerate","zip","dict_itemiterator","dict_reverseitemiterator","odict_iterator","itertools.zip_longest","itertools.pairwise"].contains n&&vs[0]?==some (rawInt _))=true then _ else _) Q E s;rw[if_neg (by intro h;rw[hn,Bool.false_and]at h;cases h)];exact wpAny_pure hQ))
def Itl(K:qA0)(a:Addr):It:=
 ⟨fun i H=>∃xs x,SqL K H a xs/\xs[i]?=some x,fun i H x H'=>H'=H/\∀xs,SqL K H a xs->xs[i]?=some x,fun i H=>∃xs,SqL K H a xs/\xs.length<=i⟩
def Itt(K:qA0)(a:Addr):It:=
 ⟨fun i H=>∃xs x,SqT K H a xs/\xs[i]?=some x,fun i H x H'=>H'=H/\∀xs,SqT K H a xs->xs[i]?=some x,fun i H=>∃xs,SqT K H a xs/\xs.length<=i⟩
def Itr(lo:Int)(n:Nat):It:=⟨fun i _=>i<n,fun i H x H'=>H'=H/\x=.int (lo+i),fun i _=>n<=i⟩
def zQX{P:qIo}{w:World}{K:qA0}{tg:Expr}(a it:Addr):Turn P w K tg (Itl K a) [it] it (fun i h=>h.IsListIter it a i) where
 mem:=by simp
 obj:=fun i h st b hb=>by
  have e:b=it:=by simpa using hb
  subst e;obtain⟨o,e,c,d⟩:=st;exact⟨o,e,fun v z=>by rw[d]at z;cases z⟩
 keep:=fun i h h' st k=>st.at fun o e=>k it (by simp) o e
 item:=by
  intro X hP hw hK hc i pins s σ H E I hf st hg;subst hP hw hK;obtain⟨xs,x,hq,hx⟩:=hg;obtain⟨its,rv,p,hz⟩:=I.list hq;obtain⟨u,hu,ru⟩:=rv.get hx;obtain⟨f0,f1,f2,f3,f4,f5⟩:=hf it (by simp);refine wpAny_pyNext_list_item st p.isList (x:=u) (by simpa using hu) fun h' st' sb=>?_
  have I1:Inv X pins σ H { s with heap:=h' }:=I.turned (t':=s.toks) (fun b o hb e=>(sb.2 b hb).trans e) f0 f1 f3 f4 f5;obtain⟨o,e,c,d⟩:=id st';exact⟨u,rfl,zV6 (s:={ s with heap:=h' }) e c d (by decide) ⟨x,H,I1,ru,⟨rfl,fun ys hy=>by rw[I.list_inj hy hq];exact hx⟩,st',fun b hb=>(hf b hb).1⟩⟩
 done:=by
  intro X hP hw hK hc i pins s σ H E I hf st hg;subst hP hw hK;obtain⟨xs,hq,hx⟩:=hg;obtain⟨its,rv,p,hz⟩:=I.list hq;obtain⟨f0,f1,f2,f3,f4,f5⟩:=hf it (by simp);have hl:=rv.length;exact wpAny_pyNext_list_end (I.ok.hd hc) st p.isList (by simp;omega) fun h' eb=>⟨rfl,I.turned (t':=s.toks) (fun b o hb e=>eb b o hb e) f0 f1 f3 f4 f5⟩
 self:=fun _ _ _ _ _ st h=>wpAny_pyIter_listiter st h
def zPN{P:qIo}{w:World}{K:qA0}{tg:Expr}(a it:Addr):Turn P w K tg (Itt K a) [it] it (fun i h=>h.IsTupleIter it a i) where
 mem:=by simp
 obj:=fun i h st b hb=>by
  have e:b=it:=by simpa using hb
  subst e;obtain⟨o,e,c,d⟩:=st;exact⟨o,e,fun v z=>by rw[d]at z;cases z⟩
 keep:=fun i h h' st k=>st.at fun o e=>k it (by simp) o e
 item:=by
  intro X hP hw hK hc i pins s σ H E I hf st hg;subst hP hw hK;obtain⟨xs,x,hq,hx⟩:=hg;obtain⟨its,rv,p,hz⟩:=I.tuple hq;obtain⟨u,hu,ru⟩:=rv.get hx;obtain⟨f0,f1,f2,f3,f4,f5⟩:=hf it (by simp);refine wpAny_pyNext_tuple_item st (show s.heap.IsTuple a its.toArray from p) (x:=u) (by simpa using hu) fun h' st' sb=>?_
  have I1:Inv X pins σ H { s with heap:=h' }:=I.turned (t':=s.toks) (fun b o hb e=>(sb.2 b hb).trans e) f0 f1 f3 f4 f5;obtain⟨o,e,c,d⟩:=id st';exact⟨u,rfl,zV6 (s:={ s with heap:=h' }) e c d (by decide) ⟨x,H,I1,ru,⟨rfl,fun ys hy=>by rw[I.tuple_inj hy hq];exact hx⟩,st',fun b hb=>(hf b hb).1⟩⟩
 done:=by
  intro X hP hw hK hc i pins s σ H E I hf st hg;subst hP hw hK;obtain⟨xs,hq,hx⟩:=hg;obtain⟨its,rv,p,hz⟩:=I.tuple hq;obtain⟨f0,f1,f2,f3,f4,f5⟩:=hf it (by simp);have hl:=rv.length;exact wpAny_pyNext_tuple_end (I.ok.hd hc) st (show s.heap.IsTuple a its.toArray from p) (by simp;omega) fun h' eb=>⟨rfl,I.turned (t':=s.toks) (fun b o hb e=>eb b o hb e) f0 f1 f3 f4 f5⟩
 self:=fun _ _ _ _ _ st h=>wpAny_pyIter_tupleiter st h
def zPO{P:qIo}{w:World}{K:qA0}{tg:Expr}(it:Addr)(lo:Int)(n:Nat):Turn P w K tg (Itr lo n) [it] it (fun i h=>IsRangeIter h it (lo+(i:Nat)*1) ((n:Int)-(i:Nat)) 1) where
 mem:=by simp
 obj:=fun i h st b hb=>by
  have e:b=it:=by simpa using hb
  subst e;exact⟨_,st,fun v z=>by
   have z':Data.fields _=Data.cell v:=z;cases z'⟩
 keep:=fun i h h' st k=>k it (by simp) _ st
 item:=by
  intro X hP hw hK hc i pins s σ H E I hf st hg;subst hP hw hK;obtain⟨f0,f1,f2,f3,f4,f5⟩:=hf it (by simp);have W:=Walks.range (prog:=X.prog) (w:=X.w) (I.ok.hd hc) it lo 1 n;refine W.item i s _ _ hg st fun v h' tk hv st' kk=>?_
  obtain⟨t,rfl⟩:=hv;have I1:Inv X pins σ H { s with heap:=h',toks:=tk }:=I.turned (fun b o hb e=>kk b o (by simpa using hb) e) f0 f1 f3 f4 f5;refine⟨_,rfl,zV6 (s:={ s with heap:=h',toks:=tk }) (n:="range_iterator") st' rfl rfl (by decide) ⟨.int (lo+i),H,I1,⟨t,?_⟩,⟨rfl,rfl⟩,st',fun b hb=>(hf b hb).1⟩⟩;rw[qGx]
 done:=by
  intro X hP hw hK hc i pins s σ H E I hf st hg;subst hP hw hK;obtain⟨f0,f1,f2,f3,f4,f5⟩:=hf it (by simp);exact wpAny_pyNext_range_end (I.ok.hd hc) st (by have:n<=i:=hg;omega) fun h' eb=>⟨rfl,I.turned (t':=s.toks) (fun b o hb e=>eb b o hb e) f0 f1 f3 f4 f5⟩
 self:=fun _ _ _ _ _ st h=>wpAny_pyIter_rangeiter st h
section
variable{X:Cx}{tg:Expr}
def zU6{pins:List (Addr×Obj)}{σ:St}{H:Hp}{s:qIk}{R:It->Hp->Prop}{E:Value->qIk->Prop}{lo hi:Int}{t u v:Tok}{tk:Nat}(I:Inv X pins σ H s)(h1:-(2 ^ 62)<=lo)(h2:lo<2 ^ 62)(h3:-(2 ^ 62)<=hi)(h4:hi<2 ^ 62)
  (q:R (Itr lo (hi-lo).toNat) H):wpAny (model X.prog X.w) X.A (pyIter (.ref s.heap.objs.size)) (PIE X pins σ tg R) E { s with heap:=s.heap.push { cls:=.type "range",data:=.fields #[.int lo t,.int hi u,.int 1 v] },toks:=tk }:=by
 refine wpAny_pyIter_range (IsRange.new ..) (small_one h1 h2 h3 h4) ?_;have I1:Inv X pins σ H { s with heap:=s.heap.push { cls:=.type "range",data:=.fields #[.int lo t,.int hi u,.int 1 v] },toks:=tk }:=I.kept fun b o e=>qIj _ e
 refine⟨(s.heap.push { cls:=.type "range",data:=.fields #[.int lo t,.int hi u,.int 1 v] }).objs.size,[(s.heap.push { cls:=.type "range",data:=.fields #[.int lo t,.int hi u,.int 1 v] }).objs.size],_,_,H,rfl,
  I1.kept (t':=tk) fun b o e=>qIj _ e,zPO _ lo (hi-lo).toNat,?_,fun b hb=>?_,q⟩
 ·have e1:lo+((0:Nat):Int)*1=lo:=by simp
  have e2:(((hi-lo).toNat:Nat):Int)-((0:Nat):Int)=qKv lo hi 1:=by rw[rangeSize_one];split<;>omega
  show IsRangeIter _ _ (lo+((0:Nat):Int)*1) ((((hi-lo).toNat:Nat):Int)-((0:Nat):Int)) 1;rw[e1,e2];exact qIm _ rfl
 ·have e:b=(s.heap.push { cls:=.type "range",data:=.fields #[.int lo t,.int hi u,.int 1 v] }).objs.size:=by simpa using hb
  subst e;exact I1.fpOk (qA5 _) (I1.hok.fresh (qA5 _))
def zbR(ta:TA):TI:=fun σ H R=>ta σ H fun vs H1=>∃j:Int,vs=[.int j]/\-(2 ^ 62)<=j/\j<2 ^ 62/\R (Itr 0 j.toNat) H1
def zCY{a:Expr}{ta:TA}{p pos:Pos}(hg:Gl X "range")(hm:X.mg "range" = none)(ha:PA X [a] ta)(hs:starEach [a] X.env=[(false,eval a X.env)]:=by rfl):PI X tg (.Call (.Name "range" p) [a] [] pos) (zbR ta):=by
 intro pins s σ H R I h;refine Call_ (zI7 I hg hm boot_range (qBz (thn (ha pos pins s σ H _ I h) fun us s1 z0=>?_) hs rfl));obtain⟨vs,H1,I1,r1,q1⟩:=z0;obtain⟨j,e,q1,q2,q⟩:=q1;subst e;cases r1 with
 |cons r rr=>
  cases rr;obtain⟨t,rfl⟩:=r;exact call_range_1 (zU6 I1 (by omega) (by omega) q1 q2 (by simpa using q))
def tFor(wi:TI)(g:TG)(tb:TS):TS:=fun D σ H=>wi σ H fun J H1=>∃W:Nat->Nat->St->Hp->Prop,(∃m,W 0 m σ H1)/\∀i m σ H,W i m σ H ->
 (J.stop i H/\D.nx σ H)\/(J.go i H/\∃N:St->Hp->Prop,(∀σ' H',N σ' H'->∃m',m'<m/\W (i+1) m' σ' H')/\∀x H',J.yld i H x H'->g x σ H' fun σ2 H2=>tb { D with nx:=N,ct:=N,bk:=D.nx } σ2 H2)
def zJ6(fp:List Addr)(h:Heap):List (Addr×Obj):=fp.filterMap fun b=>(h.get? b).map fun o=>(b,o)
def zER{fp:List Addr}{h:Heap}{b:Addr}{o:Obj}(hb:b∈fp)(e:h.get? b=some o):(b,o)∈zJ6 fp h:=qG6.mpr ⟨b,hb,by rw[e];rfl⟩
def zS1{fp:List Addr}{h:Heap}{p:Addr×Obj}(hp:p∈zJ6 fp h):p.1∈fp/\h.get? p.1=some p.2:=by
 obtain⟨b,hb,e⟩:=qG6.mp hp;cases q:h.get? b with
 |none=>rw[q]at e;cases e
 |some o=>
  rw[q]at e;have e':(b,o)=p:=qBg e;subst e';exact⟨hb,q⟩
def Inv.pinned{pins:List (Addr×Obj)}{σ:St}{H:Hp}{s:qIk}{fp:List Addr}(I:Inv X pins σ H s)(hf:∀b∈fp,FpOk X pins H b)(ho:∀b∈fp,∃o,s.heap.get? b=some o/\∀v,o.data≠.cell v):Inv X (pins++zJ6 fp s.heap) σ H s:=
 I.pins_of fun p hp=>(qBt.mp hp).elim (fun z=>I.pin p (qB1 _ z)) fun z=>by
  obtain⟨hb,e⟩:=zS1 z;obtain⟨f0,f1,f2,_⟩:=hf p.1 hb;obtain⟨o,e',d⟩:=ho p.1 hb;rw[e]at e';cases e';exact⟨e,f0,f1,f2,d⟩
def Inv.unpinned{pins pl:List (Addr×Obj)}{σ:St}{H:Hp}{s:qIk}(I:Inv X (pins++pl) σ H s):Inv X pins σ H s:=I.pins_of fun p hp=>I.pin p (qB1 _ (qDi _ hp))
def zaM{iter:Expr}{body:List Stmt}{wi:TI}{g:TG}{tb:TS}{pos:Pos}(hp:PassesOwn (model X.prog X.w) X.A X.env X.xe)(hc:X.calm=true)(hi:PI X tg iter wi)(hg:PG X tg g)(hb:PSs X body tb)
  (hs:∀x,qK7 iter X.env x=pure x:=by intro _;rfl):PS X (.For tg iter body [] pos) (tFor wi g tb):=by
 intro pins s σ H D I h;refine wpAny_For (thn (hi pins s σ H _ I h) fun v s1 h1=>thn h1 fun itv s2 h2=>?_) hs;obtain⟨it,fp,tn,J,H2,e,I2,T,st2,f2,W,⟨m0,w0⟩,turn⟩:=h2;subst e;have stat:∀{H':Hp},(∀b∈fp,H' b=none)->∀b∈fp,FpOk X pins H' b:=fun hn b hb=>⟨hn b hb,(f2 b hb).2⟩
 refine codeAny_forLoop_any (fun n s'=>∃i σ' H',Inv X pins σ' H' s'/\tn i s'.heap/\(∀b∈fp,H' b=none)/\W i n σ' H') ?_ m0 ⟨0,σ,H2,I2,st2,fun b hb=>(f2 b hb).1,w0⟩
 rintro n s3 ⟨i,σ3,H3,I3,st3,fr3,w3⟩
 rcases turn i n σ3 H3 w3 with⟨stop,qn⟩|⟨go,N,hN,step⟩
 ·refine qK3 hp (thn (T.done X rfl rfl rfl hc i pins s3 σ3 H3 X.xe I3 (stat fr3) st3 stop) fun r s4 z0=>?_);obtain⟨hr,I4⟩:=z0;subst hr;exact qL3 ⟨σ3,H3,I4,qn⟩
 ·refine qK3 hp (thn (T.item X rfl rfl rfl hc i pins s3 σ3 H3 X.xe I3 (stat fr3) st3 go) fun r s4 z0=>?_);obtain⟨u,hr,h4⟩:=z0;subst hr;refine qK3 hp (thn h4 fun _ s5 z0=>?_);obtain⟨x,H5,I5,r5,y5,st5,fr5⟩:=z0;have I5':=I5.pinned (stat fr5) (T.obj _ _ st5);refine qK3 hp (thn (hg _ s5 σ3 H5 x u _ I5' r5 (step x H5 y5)) fun _ s6 z0=>?_);obtain⟨σ6,H6,I6,q6⟩:=z0;refine qK3 hp (thn (hb _ s6 σ6 H6 _ I6 q6) fun f s7 q7=>?_);have again:∀{σ7:St}{H7:Hp},Inv X (pins++zJ6 fp s5.heap) σ7 H7 s7->N σ7 H7->∃m,m<n/\∃i σ' H',Inv X pins σ' H' s7/\tn i s7.heap/\(∀b∈fp,H' b=none)/\W i m σ' H':=fun{σ7 H7} I7 n7=>by
   obtain⟨m',hm,w7⟩:=hN σ7 H7 n7;refine⟨m',hm,i+1,σ7,H7,I7.unpinned,T.keep _ _ _ st5 fun b hb o e=>(I7.pin (b,o) (qB1 _ (qB1 _ (zER hb e)))).1,fun b hb=>?_,w7⟩;obtain⟨o,e,d⟩:=T.obj _ _ st5 b hb;exact(I7.pin (b,o) (qB1 _ (qB1 _ (zER hb e)))).2.1
  cases f with
  |next=>obtain⟨σ7,H7,I7,n7⟩:=q7;exact again I7 n7
  |cont=>obtain⟨σ7,H7,I7,n7⟩:=q7;exact again I7 n7
  |brk=>obtain⟨σ7,H7,I7,q7⟩:=q7;exact⟨σ7,H7,I7.unpinned,q7⟩
  |ret v=>obtain⟨x7,σ7,H7,I7,r7,q7⟩:=q7;exact⟨x7,σ7,H7,I7.unpinned,r7,q7⟩
end
abbrev R2:=V->V->Hp->VK->Prop
def OpR(X:Cx)(f:Value->Value->Sem Value)(r:R2):Prop:=
 ∀(pins:List (Addr×Obj))(s:qIk)(σ:St)(H:Hp)(x y:V)(v u:Value)(Q:VK),Inv X pins σ H s->RelV x v->RelV y u->r x y H Q ->
  wpAny (model X.prog X.w) X.A (f v u) (EP X pins σ Q) X.xe s
def UnR(X:Cx)(f:Value->Sem Value)(r:V->Hp->VK->Prop):Prop:=
 ∀(pins:List (Addr×Obj))(s:qIk)(σ:St)(H:Hp)(x:V)(v:Value)(Q:VK),Inv X pins σ H s->RelV x v->r x H Q ->
  wpAny (model X.prog X.w) X.A (f v) (EP X pins σ Q) X.xe s
def zDI(X:Cx)(f:Value)(r:List V->Hp->VK->Prop):Prop:=
 ∀(pins:List (Addr×Obj))(s:qIk)(σ:St)(H:Hp)(xs:List V)(us:List Value)(Q:VK),Inv X pins σ H s->Vals xs us->r xs H Q ->
  wpAny (model X.prog X.w) X.A (call f us) (EP X pins σ Q) X.xe s
def TruR(X:Cx)(r:V->Hp->(Bool->Hp->Prop)->Prop):Prop:=
 ∀(pins:List (Addr×Obj))(s:qIk)(σ:St)(H:Hp)(x:V)(v:Value)(Q:Bool->Hp->Prop),Inv X pins σ H s->RelV x v->r x H Q ->
  wpAny (model X.prog X.w) X.A (truthy v) (TP X pins σ Q) X.xe s
def tOp(r:R2)(ta tb:TE):TE:=fun σ H Q=>ta σ H fun x H1=>tb σ H1 fun y H2=>r x y H2 Q
def tUn(r:V->Hp->VK->Prop)(ta:TE):TE:=fun σ H Q=>ta σ H fun x H1=>r x H1 Q
def rI(C:Int->Int->Prop)(g:Int->Int->V):R2:=fun x y H Q=>∃i j,x=.int i/\y=.int j/\C i j/\Q (g i j) H
def rI0(g:Int->Int->V):R2:=fun x y H Q=>∃i j,x=.int i/\y=.int j/\Q (g i j) H
def rU(g:Int->V):V->Hp->VK->Prop:=fun x H Q=>∃i,x=.int i/\Q (g i) H
section
variable{X:Cx}{a b:Expr}{ta tb:TE}{pos:Pos}
def binT(ha:PE X a ta)(hb:PE X b tb){pins:List (Addr×Obj)}{s:qIk}{σ:St}{H:Hp}{R:V->V->Hp->Prop}(I:Inv X pins σ H s)
  (h:ta σ H fun x H1=>tb σ H1 fun y H2=>R x y H2) {Q:Value->qIk->Prop} {f:Value->Value->Sem Value}
  (hf:∀v u s2 x y H2,Inv X pins σ H2 s2->RelV x v->RelV y u->R x y H2->wpAny (model X.prog X.w) X.A (f v u) Q X.xe s2) :
  wpAny (model X.prog X.w) X.A (eval a X.env) (fun v s₁=>wpAny (model X.prog X.w) X.A (eval b X.env) (fun u s₂=>wpAny (model X.prog X.w) X.A (f v u) Q X.xe s₂) X.xe s₁) X.xe s:=by
 refine thn (ha pins s σ H _ I h) fun v s1 z0=>?_
 obtain⟨x,H1,I1,r1,q1⟩:=z0;refine thn (hb pins s1 σ H1 _ I1 q1) fun u s2 z0=>?_
 obtain⟨y,H2,I2,r2,q2⟩:=z0;exact hf v u s2 x y H2 I2 r1 r2 q2
def zAL{op:Operator}{r:R2}(ho:OpR X (binaryOp op) r)(ha:PE X a ta)(hb:PE X b tb):PE X (.BinOp a op b pos) (tOp r ta tb):=by
 intro pins s σ H Q I h;exact wpAny_BinOp (binT ha hb I h fun v u s2 x y H2 I2 rx ry q=>ho pins s2 σ H2 x y v u Q I2 rx ry q)
def zaR{op:UnaryOp}{r:V->Hp->VK->Prop}(ho:UnR X (unaryOp op) r)(ha:PE X a ta):PE X (.UnaryOp op a pos) (tUn r ta):=by
 intro pins s σ H Q I h;exact UnaryOp_ (thn (ha pins s σ H _ I h) fun v s1 ⟨x,H1,I1,r1,q1⟩=>ho pins s1 σ H1 x v Q I1 r1 q1)
def opI{f:Value->Value->Sem Value}{C:Int->Int->Prop}{g:Int->Int->Int}
  (rule:∀(i j:Int)(t u:Tok)(s:qIk)(Q:Value->qIk->Prop)(E:Value->qIk->Prop),C i j->Q (.int (g i j) s.toks) { s with toks:=s.toks+1 }->wpAny (model X.prog X.w) X.A (f (.int i t) (.int j u)) Q E s) :
  OpR X f (rI C fun i j=>.int (g i j)):=by
 intro pins s σ H x y v u Q I rx ry h;obtain⟨i,j,rfl,rfl,hc,q⟩:=h;obtain⟨t,rfl⟩:=rx;obtain⟨t',rfl⟩:=ry;exact rule i j t t' s _ _ hc ⟨.int (g i j),H,I.tok _,⟨_,rfl⟩,q⟩
def opI0{f:Value->Value->Sem Value}{g:Int->Int->Int}
  (rule:∀(i j:Int)(t u:Tok)(s:qIk)(Q:Value->qIk->Prop)(E:Value->qIk->Prop),Q (.int (g i j) s.toks) { s with toks:=s.toks+1 }->wpAny (model X.prog X.w) X.A (f (.int i t) (.int j u)) Q E s) :
  OpR X f (rI0 fun i j=>.int (g i j)):=by
 intro pins s σ H x y v u Q I rx ry h;obtain⟨i,j,rfl,rfl,q⟩:=h;obtain⟨t,rfl⟩:=rx;obtain⟨t',rfl⟩:=ry;exact rule i j t t' s _ _ ⟨.int (g i j),H,I.tok _,⟨_,rfl⟩,q⟩
def opB0{f:Value->Value->Sem Value}{g:Int->Int->Bool}
  (rule:∀(i j:Int)(t u:Tok)(s:qIk)(Q:Value->qIk->Prop)(E:Value->qIk->Prop),Q (.bool (g i j)) s->wpAny (model X.prog X.w) X.A (f (.int i t) (.int j u)) Q E s) :
  OpR X f (rI0 fun i j=>.bl (g i j)):=by
 intro pins s σ H x y v u Q I rx ry h;obtain⟨i,j,rfl,rfl,q⟩:=h;obtain⟨t,rfl⟩:=rx;obtain⟨t',rfl⟩:=ry;exact rule i j t t' s _ _ ⟨.bl (g i j),H,I,rfl,q⟩
def CPow(i j:Int):Prop:=0<=j/\j<=1000000/\i.natAbs<2 ^ 64
def CMul(i j:Int):Prop:=(-(2 ^ 64)<i/\i<2 ^ 64)\/(-(2 ^ 64)<j/\j<2 ^ 64)
def CMul.ok{i j:Int}(h:CMul i j):IntMulOk i j:=by
 rcases h with⟨h1,h2⟩|⟨h1,h2⟩
 ·exact .of_left (intBits_le_64 h1 h2)
 ·exact .of_right (intBits_le_64 h1 h2)
def zb4:OpR X (binaryOp .Add) (rI0 fun i j=>.int (i+j)):=opI0 fun _ _ _ _ _ _ _ q=>add_int q
def zaX:OpR X (binaryOp .Sub) (rI0 fun i j=>.int (i-j)):=opI0 fun _ _ _ _ _ _ _ q=>sub_int q
def zb1:OpR X (binaryOp .Mod) (rI (fun _ j=>0<j) fun i j=>.int (i%j)):=opI fun i j _ _ _ _ _ hc q=>by
 have h1:(0:Int)<j:=hc;exact mod_int' (by omega) (by rw[Int.fmod_eq_emod_of_nonneg i (by omega)];exact q)
def zaZ:OpR X (binaryOp .Pow) (rI CPow fun i j=>.int (i ^ j.toNat)):=opI fun _ _ _ _ _ _ _ hc q=>pow_int_small hc.1 hc.2.1 hc.2.2 q
def zaW:OpR X (binaryOp .BitXor) (rI0 fun i j=>.int (qKc i j)):=opI0 fun _ _ _ _ _ _ _ q=>xor_int q
def unI{f:Value->Sem Value}{g:Int->Int}
  (rule:∀(i:Int)(t:Tok)(s:qIk)(Q:Value->qIk->Prop)(E:Value->qIk->Prop),Q (.int (g i) s.toks) { s with toks:=s.toks+1 }->wpAny (model X.prog X.w) X.A (f (.int i t)) Q E s) :
  UnR X f (rU fun i=>.int (g i)):=by
 intro pins s σ H x v Q I rx h;obtain⟨i,rfl,q⟩:=h;obtain⟨t,rfl⟩:=rx;exact rule i t s _ _ ⟨.int (g i),H,I.tok _,⟨_,rfl⟩,q⟩
def zZO:UnR X (unaryOp .USub) (rU fun i=>.int (-i)):=unI fun _ _ _ _ _ q=>neg_int q
end
def scal:V->V->Bool
 |.non,.non=>true | .non,.int _=>true | .int _,.non=>true | .non,.bl _=>true | .bl _,.non=>true | .non,.str _=>true | .str _,.non=>true
 |.int _,.int _=>true | .bl _,.bl _=>true | .str _,.str _=>true | .byt _,.byt _=>true
 |.int _,.str _=>true | .str _,.int _=>true | .bl _,.str _=>true | .str _,.bl _=>true
 |_,_=>false
def rEq:R2:=fun x y H Q=>scal x y=true/\Q (.bl (decide (x=y))) H
def rNe:R2:=fun x y H Q=>scal x y=true/\Q (.bl (!decide (x=y))) H
def zSV{i j:Int}:decide (V.int i=V.int j)=(i==j):=by
 rw[qEi];simp
def dec_bl{i j:Bool}:decide (V.bl i=V.bl j)=(i==j):=by
 rw[qEi];simp
def zSU{i j:Str}:decide (V.str i=V.str j)=(i==j):=by
 rw[qEi];simp
def zSW{i j:Array UInt8}:decide (V.byt i=V.byt j)=(i.toList==j.toList):=by
 rw[qEi];cases i;cases j;simp
section
variable{X:Cx}{a b:Expr}{ta tb:TE}{pos:Pos}
def fin_bl{pins:List (Addr×Obj)}{σ:St}{H:Hp}{s:qIk}{Q:VK}{k k':Bool}(I:Inv X pins σ H s)(q:Q (.bl k) H)(e:k=k'):EP X pins σ Q (.bool k') s:=by
 subst e;exact⟨.bl k,H,I,rfl,q⟩
def zdC:OpR X (compareOp .Eq) rEq:=by
 intro pins s σ H x y v u Q I rx ry h;obtain⟨hs,q⟩:=h;cases x with
 |non=>
  cases rx;cases y with
  |non=>cases ry;exact qH7 (fin_bl I q (by simp))
  |bl j=>cases ry;exact qH8 (fin_bl I q (by simp))
  |int j=>obtain⟨t',rfl⟩:=ry;exact qHj (fin_bl I q (by simp))
  |str j=>obtain⟨t',rfl⟩:=ry;exact qHk (fin_bl I q (by simp))
  |_=>exact absurd (show false=true from hs) qAj
 |bl i=>
  cases rx;cases y with
  |non=>cases ry;exact qH9 (fin_bl I q (by simp))
  |bl j=>cases ry;exact eq_bool (fin_bl I q dec_bl)
  |str j=>obtain⟨t',rfl⟩:=ry;exact qHa (fin_bl I q (by simp))
  |_=>exact absurd (show false=true from hs) qAj
 |int i=>
  obtain⟨t,rfl⟩:=rx;cases y with
  |non=>cases ry;exact qHl (fin_bl I q (by simp))
  |int j=>obtain⟨t',rfl⟩:=ry;exact eq_int (fin_bl I q zSV)
  |str j=>obtain⟨t',rfl⟩:=ry;exact qHm (fin_bl I q (by simp))
  |_=>exact absurd (show false=true from hs) qAj
 |str i=>
  obtain⟨t,rfl⟩:=rx;cases y with
  |non=>cases ry;exact qHn (fin_bl I q (by simp))
  |bl j=>cases ry;exact qHb (fin_bl I q (by simp))
  |int j=>obtain⟨t',rfl⟩:=ry;exact qHo (fin_bl I q (by simp))
  |str j=>obtain⟨t',rfl⟩:=ry;exact eq_str (fin_bl I q zSU)
  |_=>exact absurd (show false=true from hs) qAj
 |byt i=>
  obtain⟨t,rfl⟩:=rx;cases y with
  |byt j=>obtain⟨t',rfl⟩:=ry;exact PySem.W.eq_bytes (fin_bl I q zSW)
  |_=>exact absurd (show false=true from hs) qAj
 |_=>cases y<;>exact absurd (show false=true from hs) qAj
def zd9:OpR X (compareOp .NotEq) rNe:=by
 intro pins s σ H x y v u Q I rx ry h;obtain⟨hs,q⟩:=h;cases x with
 |non=>
  cases rx;cases y with
  |non=>cases ry;exact qHc (fin_bl I q (by simp))
  |bl j=>cases ry;exact qHd (fin_bl I q (by simp))
  |int j=>obtain⟨t',rfl⟩:=ry;exact qHp (fin_bl I q (by simp))
  |str j=>obtain⟨t',rfl⟩:=ry;exact qHq (fin_bl I q (by simp))
  |_=>exact absurd (show false=true from hs) qAj
 |bl i=>
  cases rx;cases y with
  |non=>cases ry;exact qHe (fin_bl I q (by simp))
  |bl j=>cases ry;exact ne_bool (fin_bl I q (congrArg not dec_bl))
  |str j=>obtain⟨t',rfl⟩:=ry;exact qHf (fin_bl I q (by simp))
  |_=>exact absurd (show false=true from hs) qAj
 |int i=>
  obtain⟨t,rfl⟩:=rx;cases y with
  |non=>cases ry;exact qHr (fin_bl I q (by simp))
  |int j=>obtain⟨t',rfl⟩:=ry;exact ne_int (fin_bl I q (congrArg not zSV))
  |str j=>obtain⟨t',rfl⟩:=ry;exact qHs (fin_bl I q (by simp))
  |_=>exact absurd (show false=true from hs) qAj
 |str i=>
  obtain⟨t,rfl⟩:=rx;cases y with
  |non=>cases ry;exact qHt (fin_bl I q (by simp))
  |bl j=>cases ry;exact qHg (fin_bl I q (by simp))
  |int j=>obtain⟨t',rfl⟩:=ry;exact qHu (fin_bl I q (by simp))
  |str j=>obtain⟨t',rfl⟩:=ry;exact ne_str (fin_bl I q (congrArg not zSU))
  |_=>exact absurd (show false=true from hs) qAj
 |byt i=>
  obtain⟨t,rfl⟩:=rx;cases y with
  |byt j=>obtain⟨t',rfl⟩:=ry;exact PySem.W.ne_bytes (fin_bl I q (congrArg not zSW))
  |_=>exact absurd (show false=true from hs) qAj
 |_=>cases y<;>exact absurd (show false=true from hs) qAj
def zdA:OpR X (compareOp .Lt) (rI0 fun i j=>.bl (decide (i<j))):=opB0 fun _ _ _ _ _ _ _ q=>lt_int q
def zdB:OpR X (compareOp .Gt) (rI0 fun i j=>.bl (decide (j<i))):=opB0 fun _ _ _ _ _ _ _ q=>gt_int q
def zRY:OpR X (compareOp .In) (fun x y H Q=>∃i j,x=.str i/\y=.str j/\Q (.bl (!(qJb j i 0 j.length 1).isEmpty)) H):=by
 intro pins s σ H x y v u Q I rx ry h;obtain⟨i,j,rfl,rfl,q⟩:=h;obtain⟨t,rfl⟩:=rx;obtain⟨t',rfl⟩:=ry;exact in_str (fin_bl I q rfl)
def zBV(b:Expr){op:CmpOp}(h:op≠.In:=by decide)(h2:op≠.NotIn:=by decide):qKw op b=false:=by
 have e1:(op==CmpOp.In)=false:=by cases op<;>first|rfl|exact absurd rfl h
 have e2:(op==CmpOp.NotIn)=false:=by cases op<;>first|rfl|exact absurd rfl h2
 cases b<;>simp[qKw,e1,e2]
def zE5{op:CmpOp}{r:R2}(ho:OpR X (compareOp op) r)(ha:PE X a ta)(hb:PE X b tb)(hm:qKw op b=false):PE X (.Compare a [op] [b] pos) (tOp r ta tb):=by
 intro pins s σ H Q I h;exact wpAny_Compare1 (binT ha hb I h fun v u s2 x y H2 I2 rx ry q=>ho pins s2 σ H2 x y v u Q I2 rx ry q) hm
def TruV(K:qA0)(x:V)(H:Hp)(k:Bool):Prop:=
 match x with
 |.non=>k=false
 |.bl b=>k=b
 |.int i=>k=(i != 0)
 |.str y=>y.length<=sizeLine/\k=((y.length:Int) != 0)
 |.byt y=>y.size<=sizeLine/\k=((y.size:Int) != 0)
 |.ref p=>(∃xs,SqL K H p xs/\k = !xs.isEmpty)\/(∃xs,SqT K H p xs/\k = !xs.isEmpty)\/∃kvs,H p=some (.dK kvs)/\k = !kvs.isEmpty
 |_=>False
def zQB{κ:Type}{kvs:List (κ×V)}{vs:List (κ×Value)}(r:KV kvs vs):(!vs.isEmpty) = !kvs.isEmpty:=by
 cases r<;>rfl
def zJB{xs:List V}{its:List Value}(r:Vals xs its):(!its.toArray.isEmpty) = !xs.isEmpty:=by
 cases r<;>simp
def zI3:(sizeLine:Nat)<2 ^ 63:=by rw[qJ6];decide
def zZR:TruR X (fun x H Q=>∃k,TruV X.K x H k/\Q k H):=by
 intro pins s σ H x v Q I rx h;obtain⟨k,e,q⟩:=h;have hl:=zI3;have hs:sizeLine=16777216:=qJ6;cases x with
 |non=>
  cases rx;have e':k=false:=e;subst e';exact truthy_none ⟨H,I,q⟩
 |bl b=>
  cases rx;have e':k=b:=e;subst e';exact qKq ⟨H,I,q⟩
 |int i=>
  obtain⟨t,rfl⟩:=rx;have e':k=(i != 0):=e;subst e';exact PySem.P.truthy_int ⟨H,I,q⟩
 |str y=>
  obtain⟨t,rfl⟩:=rx;obtain⟨hy,e'⟩:y.length<=sizeLine/\k=((y.length:Int) != 0):=e;subst e';exact PySem.P.truthy_str (by omega) ⟨H,I.tok _,q⟩
 |byt y=>
  obtain⟨t,rfl⟩:=rx;obtain⟨hy,e'⟩:y.size<=sizeLine/\k=((y.size:Int) != 0):=e;subst e';exact PySem.W.truthy_bytes (by omega) ⟨H,I.tok _,q⟩
 |ref p=>
  cases rx;have e':(∃xs,SqL X.K H p xs/\k = !xs.isEmpty)\/(∃xs,SqT X.K H p xs/\k = !xs.isEmpty)\/∃kvs,H p=some (.dK kvs)/\k = !kvs.isEmpty:=e
  rcases e' with⟨xs,hx,e'⟩|⟨xs,hx,e'⟩|⟨kvs,hx,e'⟩
  ·subst e';obtain⟨its,r,pl,hz⟩:=I.list hx;have hlen:=r.length;exact wpAny_truthy_list pl.isList (by simp only[qAh];omega) ⟨H,I.tok _,by rw[zJB r];exact q⟩
  ·subst e';obtain⟨its,r,pl,hz⟩:=I.tuple hx;have hlen:=r.length;exact truthy_tuple pl (by simp only[qAh];omega) ⟨H,I.tok _,by rw[zJB r];exact q⟩
  ·subst e';obtain⟨hz,hS,vs,r,m⟩:kvs.length<=sizeLine/\(p==qN0)=false/\∃vs,KV kvs vs/\s.heap.DictOf (zNN X.prog X.w) p vs:=I.hok p _ hx;have hlen:kvs.length=vs.length:=qN8 r;exact wpAny_truthy_dict hS m (by omega) ⟨H,I.tok _,by rw[zQB r];exact q⟩
 |_=>exact(show False from e).elim
def zPZ:OpR X (binaryOp .Add) (fun x y H Q=>∃i j,x=.str i/\y=.str j/\i.length+j.length<=sizeLine/\Q (.str (i++j)) H):=by
 intro pins s σ H x y v u Q I rx ry h;obtain⟨i,j,rfl,rfl,hz,q⟩:=h;obtain⟨t,rfl⟩:=rx;obtain⟨t',rfl⟩:=ry;exact add_str (fun t' tk=>⟨.str (i++j),H,I.tok _,⟨_,rfl⟩,q⟩) hz
def zE0{x:V}{us:List Value}(r:Vals [x] us):∃u,us=[u]/\RelV x u:=by
 cases r with
 |cons r1 r2=>cases r2;exact⟨_,rfl,r1⟩
def zQS{x y:V}{us:List Value}(r:Vals [x,y] us):∃u w',us=[u,w']/\RelV x u/\RelV y w':=by
 cases r with
 |cons r1 r2=>
  cases r2 with
  |cons r3 r4=>cases r4;exact⟨_,_,rfl,r1,r3⟩
def zT9(hc:X.calm=true):zDI X (.builtin "max") (fun xs H Q=>∃i j,xs=[.int i,.int j]/\Q (.int (if j>i then j else i)) H):=by
 intro pins s σ H xs us Q I r h;obtain⟨i,j,rfl,q⟩:=h;obtain⟨u,w',rfl,⟨t,rfl⟩,⟨t',rfl⟩⟩:=zQS r;refine max_two_ints (I.ok.hd hc) fun h' tk k=>⟨_,H,I.kept k,?_,q⟩
 by_cases hj:j>i
 ·rw[if_pos hj,if_pos hj];exact⟨_,rfl⟩
 ·rw[if_neg hj,if_neg hj];exact⟨_,rfl⟩
def zT8(hc:X.calm=true):zDI X (.builtin "min") (fun xs H Q=>∃i j,xs=[.int i,.int j]/\Q (.int (if j<i then j else i)) H):=by
 intro pins s σ H xs us Q I r h;obtain⟨i,j,rfl,q⟩:=h;obtain⟨u,w',rfl,⟨t,rfl⟩,⟨t',rfl⟩⟩:=zQS r;refine min_two_ints (I.ok.hd hc) fun h' tk k=>⟨_,H,I.kept k,?_,q⟩
 by_cases hj:j<i
 ·rw[if_pos hj,if_pos hj];exact⟨_,rfl⟩
 ·rw[if_neg hj,if_neg hj];exact⟨_,rfl⟩
def zTA:zDI X (.type "int") (fun xs H Q=>(∃i,xs=[.int i]/\Q (.int i) H)\/∃k,xs=[.bl k]/\Q (.int (if k then 1 else 0)) H):=by
 intro pins s σ H xs us Q I r h;rcases h with⟨i,rfl,q⟩|⟨k,rfl,q⟩
 ·obtain⟨u,rfl,t,rfl⟩:=zE0 r;exact call_int_int ⟨.int i,H,I,⟨_,rfl⟩,q⟩
 ·obtain⟨u,rfl,r1⟩:=zE0 r;cases r1;exact call_int_bool ⟨.int (if k then 1 else 0),H,I.tok _,⟨_,rfl⟩,q⟩
end
structure ObjM(h:Heap)(x dx C:Addr)(mA:Str->Option Value):Prop where
 obj:h.get? x=some (qBb C dx)
 ns:h.Ns1 dx mA
 ne:dx≠x
def zS9{h:Heap}{dx:Addr}{mA:Str->Option Value}(n:h.Ns1 dx mA):∃od,h.get? dx=some od/\∀name,qEq name od=some (mA name):=by
 obtain⟨o,es,ep,ho,hd,hk,_,hm⟩:=n;refine⟨o,ho,fun name=>?_⟩;have e:=hm name;unfold nsFind findBy at e;rw[<- Array.find?_toList]at e;unfold qEq;rw[hd];dsimp only
 split
 ·rename_i y q
  rw[q]at e;exact congrArg some e
 ·rename_i q
  rw[q]at e;have a:es.toList.any (·.refKey)=false:=by
   rw[List.any_eq_false];intro y hy;obtain⟨z,t,hkey⟩:=hk y (Array.mem_toList_iff.mp hy);simp[DictEntry.refKey,hkey]
  have a':¬es.toList.any (·.refKey)=true:=by rw[a];exact qAj
  rw[if_neg a'];exact congrArg some e
def ObjM.look{h:Heap}{x dx C:Addr}{mA:Str->Option Value}(I:ObjM h x dx C mA):∃od,PySem.W.InstAt h x (qBb C dx) C (some od)/\∀name,qEq name od=some (mA name):=
 let⟨od,ho,hl⟩:=zS9 I.ns
 ⟨od,⟨I.obj,rfl,rfl,ho⟩,hl⟩
section
variable{prog:qIo}{w:World}{A:qIr}{E:Value->qIk->Prop}{s:qIk}{K:qA0}{x dx C f:Addr}{mA:Str->Option Value}{name:Str}{v:Value}
def zSO{expr:Bool}{Q:Value->qIk->Prop}(X:K.In s.heap)(I:ObjM s.heap x dx C mA)(hg:qC3 K C name=true)(hh:qBj K C=true)
  (ha:qA8 K (.ref C) name=some none) (hv:mA name=some v) (hv':qE9 v=true) (h:Q v { s with toks:=s.toks+1 }) :
  wpAny (model prog w) A (getAttr (.ref x) name expr) Q E s:=by
 obtain⟨od,J,hl⟩:=I.look;exact PySem.W.get_value X J (qEj hg).1 (PySem.W.findObj_own hh ha rfl (by rw[hl,hv])) hv' h
def zV7{pl:Sem Bool}{Q:Value×List Value->qIk->Prop}(X:K.In s.heap)(I:ObjM s.heap x dx C mA)(hg:qC3 K C name=true)
  (hf:qA8 K (.ref C) name=some (some (.ref f))) (ht:qBd K (.ref f)=true) (hv:mA name=none) (h:Q (.ref f,[.ref x]) s) :
  wpAny (model prog w) A (getMethod (.ref x) name pl) Q E s:=by
 obtain⟨od,J,hl⟩:=I.look;exact PySem.W.method_fn X J (qEj hg).1 (qEj hg).2 hf (beq_iff_eq.mp ht) (by show(qEq name od).map (·.isSome)=some false;rw[hl,hv];rfl) h
def zXT{ns:List Str}{Q:Unit->qIk->Prop}(X:K.In s.heap)(I:ObjM s.heap x dx C mA)
  (hs:qA8 K (.ref C) "__setattr__" = some (some (.builtin "object.__setattr__"))) (hp:qCl K C=true) (ht:qDr K C name=some none) (hh:qBj K C=true)
  (hw:qGo mA ns) (hsz:ns.length<=sizeLine)
  (h:∀h',ObjM h' x dx C (fun y=>if y=name then some v else mA y)->qJh dx s.heap h'->Q () { s with heap:=h',toks:=s.toks+2 }) :
  wpAny (model prog w) A (setAttr (.ref x) name v) Q E s:=by
 obtain⟨od,J,hl⟩:=I.look;refine PySem.W.set_plain X J hs (PySem.W.osa_open (s:={ s with toks:=s.toks+1 }) (r:=none) X J hp ht fun b=>?_);obtain⟨cd,hc,hd'⟩:=PySem.W.any_some hh;have hx:s.heap.get? x=some ⟨.ref C,some dx,.plain,#[]⟩:=I.obj;refine wpAny_bind (wpAny_pure (wpAny_bind (wpAny_bind (wpAny_loadPart hx (wpAny_bind (qI8 (s:={ s with toks:=s.toks+1 }) (PySem.W.looks_clsIn X hc) ?_))))));rw[hd'];refine wpAny_pure (a:=some dx) (wpAny_bind (wpAny_pure (wpAny_bind ?_)));refine wpAny_nsSet1 (s:={ s with toks:=s.toks+1 }) I.ns fun h' hn2 hs2=>?_
 obtain⟨oD,esD,epD,hoD,hdD,hcD⟩:=hn2.count (qIa name v hw);refine wpAny_bind (wpAny_lookBehind hoD (by rw[hdD];exact pastItsLine_dict (qAt hcD (by rw[qAn];omega))) ?_);exact wpAny_pure (h _ ⟨(hs2.2 _ (qC9 I.ne)).trans I.obj,hn2,I.ne⟩ hs2)
def zUR{R:qLq->qIk->Prop}{vs:List Value}{kw:List (Str×Value)}(X:K.In s.heap)(hm:qCa K C=true)
  (hi:qA8 K (.ref C) "__init__" = some (some (.ref f))) (hf:qCh K (.ref f)=some (.type "function"))
  (h:qJn (model prog w) (A.under (.builtin "type.__call__" ⟨.ref C::vs,kw⟩)) (.call (.ref f) ⟨.ref (s.heap.objs.size+1)::vs,kw⟩) (qGs (s.heap.objs.size+1) R)
   { s with heap:=(s.heap.push qB5).push (qBb C s.heap.objs.size) }) :
  qJn (model prog w) A (.call (.ref C) ⟨vs,kw⟩) R s:=by
 obtain⟨hh,g,d,t,os⟩:=s;exact qGg (qF5 X hm) (qDj X hi) (fun self=>PySem.W.bind_fn X self hf) (.inl rfl) h
def zS6{R:qLq->qIk->Prop}(X:K.In s.heap)(hm:qCa K C=true)
  (hi:qA8 K (.ref C) "__init__" = some (some (.builtin "object.__init__")))
  (hb:∀self,qDe (model prog w) s.heap (bindSpecial (.builtin "object.__init__") self) (.builtin "object.__init__",[self]))
  (h:qJn (model prog w) (A.under (.builtin "type.__call__" ⟨[.ref C],[]⟩)) (.call (.builtin "object.__init__") ⟨[.ref (s.heap.objs.size+1)],[]⟩) (qGs (s.heap.objs.size+1) R)
   { s with heap:=(s.heap.push qB5).push (qBb C s.heap.objs.size) }) :
  qJn (model prog w) A (.call (.ref C) ⟨[],[]⟩) R s:=by
 obtain⟨hh,g,d,t,os⟩:=s;exact qGg (qF5 X hm) (qDj X hi) hb (.inr ⟨rfl,rfl⟩) h
end
def putF(f:Str)(v:V):List (Str×V)->List (Str×V)
 |[]=>[(f,v)]
 |(g,x)::r=>if g=f then(g,v)::r else(g,x)::putF f v r
def zI2(f g:Str)(v:V):∀fs:List (Str×V),(putF f v fs).lookup g=if g=f then some v else fs.lookup g
 |[]=>by
  show qB7 g [(f,v)]=_;by_cases h:g=f
  ·have hb:(g==f)=true:=beq_iff_eq.mpr h;simp only[qB7,hb,if_pos h]
  ·have hb:(g==f)=false:=beq_eq_false_iff_ne.mpr h;simp only[qB7,hb,if_neg h]
 |(k,x)::r=>by
  have ih:=zI2 f g v r;rw[show putF f v ((k,x)::r)=(if k=f then(k,v)::r else(k,x)::putF f v r) from rfl]
  by_cases hk:k=f
  ·rw[if_pos hk]
   by_cases h:g=k
   ·have hb:(g==k)=true:=beq_iff_eq.mpr h;simp only[qB7,hb,if_pos (h.trans hk)]
   ·have hb:(g==k)=false:=beq_eq_false_iff_ne.mpr h;simp only[qB7,hb,if_neg (fun e:g=f=>h (e.trans hk.symm))]
  ·rw[if_neg hk]
   by_cases h:g=k
   ·have hb:(g==k)=true:=beq_iff_eq.mpr h;simp only[qB7,hb,if_neg (fun e:g=f=>hk (h.symm.trans e))]
   ·have hb:(g==k)=false:=beq_eq_false_iff_ne.mpr h;simp only[qB7,hb];exact ih
def zI8(f:Str)(v:V):∀fs:List (Str×V),f∈(putF f v fs).map (·.1)/\∀g,g∈fs.map (·.1)->g∈(putF f v fs).map (·.1)
 |[]=>⟨by simp[putF],fun g h=>by simp at h⟩
 |(k,x)::r=>by
  obtain⟨i1,i2⟩:=zI8 f v r;rw[show putF f v ((k,x)::r)=(if k=f then(k,v)::r else(k,x)::putF f v r) from rfl]
  by_cases hk:k=f
  ·rw[if_pos hk];subst hk;exact⟨by simp,fun g h=>by simpa using h⟩
  ·rw[if_neg hk];refine⟨?_,fun g h=>?_⟩
   ·rw[qAm];exact qAp _ i1
   ·rw[qAm]at h ⊢
    rcases qAb.mp h with e|e
    ·exact qAb.mpr (.inl e)
    ·exact qAp _ (i2 g e)
def zI5(f:Str)(v:V):∀fs:List (Str×V),(putF f v fs).length<=fs.length+1
 |[]=>by simp[putF]
 |(k,x)::r=>by
  have ih:=zI5 f v r;rw[show putF f v ((k,x)::r)=(if k=f then(k,v)::r else(k,x)::putF f v r) from rfl]
  by_cases hk:k=f
  ·rw[if_pos hk,qAn,qAn];omega
  ·rw[if_neg hk,qAn,qAn];omega
def RelO.some_of{v:V}{o:Option Value}(r:RelO (some v) o):∃u,o=some u/\RelV v u:=by
 cases o with
 |none=>exact(show False from r).elim
 |some u=>exact⟨u,rfl,r⟩
def RelO.none_of{o:Option Value}(r:RelO none o):o=none:=by
 cases o with
 |none=>rfl
 |some u=>exact(show False from r).elim
def zSM{v:V}{u:Value}(r:RelV v u):qE9 u=true:=by
 cases v with
 |non=>cases(show u=qIy from r);rfl
 |bl b=>cases(show u=qLu b from r);rfl
 |int i=>obtain⟨t,e⟩:=(show ∃t,u=qLm i t from r);cases e;rfl
 |str x=>obtain⟨t,e⟩:=(show ∃t,u=qKe x t from r);cases e;rfl
 |byt b=>obtain⟨t,e⟩:=(show ∃t,u=qNj b t from r);cases e;rfl
 |flt b=>obtain⟨t,e⟩:=(show ∃t,u=qMj b t from r);cases e;rfl
 |ref a=>cases(show u=qIs a from r);rfl
 |ty n=>cases(show u=qJ9 n from r);rfl
section
variable{P:qIo}{w:World}{H:Hp}{h:Heap}{a C dx:Addr}{fs:List (Str×V)}
def zKG(hok:HOk P w H h)(e:H a=some (.ins C dx fs)):∃mA,ObjM h a dx C mA/\(∀f,RelO (fs.lookup f) (mA f))/\qGo mA (fs.map (·.1))/\fs.length<=1000/\H dx=some (.own a):=by
 obtain⟨d,z,ne,ob,mA,n,r,q⟩:=(show ObjOk P w H h a (.ins C dx fs) from hok a _ e)
 exact⟨mA,⟨ob,n,ne⟩,r,q,z,d⟩
end
structure Cls(K:qA0)(C:Addr):Prop where
 pg:qC3 K C qL4=true
 hd:qBj K C=true
 po:qCl K C=true
 sa:qA8 K (.ref C) "__setattr__" = some (some (.builtin "object.__setattr__"))
def Cls.get{K:qA0}{C:Addr}(c:Cls K C)(f:Str):qC3 K C f=true:=c.pg
def NoAttr(K:qA0)(C:Addr)(f:Str):Prop:=qA8 K (.ref C) f=some none
def NoAttr.taker{K:qA0}{C:Addr}{f:Str}(n:NoAttr K C f):qDr K C f=some none:=by
 unfold qDr;rw[show qA8 K (.ref C) f=some none from n];rfl
structure Meth(K:qA0)(C:Addr)(m:Str)(f:Addr):Prop where
 at_:qA8 K (.ref C) m=some (some (.ref f))
 fn:qBd K (.ref f)=true
 kp:qAk K (.ref f)=true
section
variable{X:Cx}{pins:List (Addr×Obj)}{σ:St}{H:Hp}{s:qIk}{a C dx:Addr}{fs:List (Str×V)}{f:Str}{v:V}{A:qIr}{E:Value->qIk->Prop}
def zQE{b:Bool}{Q:Value->qIk->Prop}(I:Inv X pins σ H s)(e:H a=some (.ins C dx fs))(c:Cls X.K C)(n:NoAttr X.K C f)(l:fs.lookup f=some v)
  (h:∀u s',Inv X pins σ H s'->RelV v u->Q u s'):wpAny (model X.prog X.w) A (getAttr (.ref a) f b) Q E s:=by
 obtain⟨mA,O,r,_,_,_⟩:=zKG I.hok e;obtain⟨u,hu,ru⟩:=RelO.some_of (v:=v) (o:=mA f) (by rw[<- l];exact r f);exact zSO I.kIn O (c.get f) c.hd n hu (zSM ru) (h u _ (I.tok _) ru)
def zQD{m:Str}{g:Addr}{pl:Sem Bool}{Q:Value×List Value->qIk->Prop}(I:Inv X pins σ H s)(e:H a=some (.ins C dx fs))(c:Cls X.K C)(k:Meth X.K C m g)(l:fs.lookup m=none)
  (h:Q (.ref g,[.ref a]) s):wpAny (model X.prog X.w) A (getMethod (.ref a) m pl) Q E s:=by
 obtain⟨mA,O,r,_,_,_⟩:=zKG I.hok e;have hn:mA m=none:=RelO.none_of (by rw[<- l];exact r m);exact zV7 I.kIn O (c.get m) k.at_ k.fn hn h
def zPU{y:V}{u:Value}{Q:Unit->qIk->Prop}(I:Inv X pins σ H s)(e:H a=some (.ins C dx fs))(c:Cls X.K C)(n:NoAttr X.K C f)(hl:fs.length<1000)(ry:RelV y u)
  (h:∀s',Inv X pins σ (upd H a (.ins C dx (putF f y fs))) s'->Q () s'):wpAny (model X.prog X.w) A (setAttr (.ref a) f u) Q E s:=by
 obtain⟨mA,O,r,wi,_,ho⟩:=zKG I.hok e;have hz:(fs.map (·.1)).length<=sizeLine:=by rw[qAg,qJ6];omega
 refine zXT I.kIn O c.sa c.po n.taker c.hd wi hz fun h' O' sb=>h _ ?_
 have hd:∃o,h'.get? dx=some o:=let⟨o,_,_,e',_⟩:=O'.ns;⟨o,e'⟩
 refine I.write (x:=a) (e:=dx) (by rw[e];exact qEf) (.inr ho) (fun b q hb z=>(sb.2 b hb).trans z) hd ?_;refine⟨by rw[zA5 O.ne];exact ho,?_,O.ne,O'.obj,_,O'.ns,fun g=>?_,fun g hg=>?_⟩
 ·have:=zI5 f y fs;omega
 ·show RelO ((putF f y fs).lookup g) (if g=f then some u else mA g);rw[zI2]
  by_cases q:g=f
  ·rw[if_pos q,if_pos q];exact ry
  ·rw[if_neg q,if_neg q];exact r g
 ·by_cases q:g=f
  ·rw[q];exact(zI8 f y fs).1
  ·refine(zI8 f y fs).2 g (wi g fun z=>hg ?_)
   show(if g=f then some u else mA g)=none
   rw[if_neg q];exact z
def Inv.made(I:Inv X pins σ H s):Inv X pins σ (upd (upd H s.heap.objs.size (.own (s.heap.objs.size+1))) (s.heap.objs.size+1) (.ins C s.heap.objs.size []))
  { s with heap:=(s.heap.push qB5).push (qBb C s.heap.objs.size) }:=by
 have e1:(s.heap.push qB5).get? s.heap.objs.size=some qB5:=qIm s.heap rfl;have e2:((s.heap.push qB5).push (qBb C s.heap.objs.size)).get? (s.heap.objs.size+1)=some (qBb C s.heap.objs.size):=by
  have:=qIm (s.heap.push qB5) (o:=qBb C s.heap.objs.size) rfl
  rwa [qIv]at this
 have e3:(s.heap.push qB5).Ns s.heap.objs.size (fun _=>none):=⟨qB5,#[],_,e1,rfl,(fun e he=>absurd he (by simp)),fun _=>rfl⟩
 have I1:=I.laid (a:=s.heap.objs.size) (o:=.own (s.heap.objs.size+1)) (h':=s.heap.push qB5) (t':=s.toks) (fun b u q=>qIj _ q) (qA5 _) ⟨_,e1⟩;refine I1.laid (a:=s.heap.objs.size+1) (o:=.ins C s.heap.objs.size []) (t':=s.toks) (fun b u q=>qIj _ q) (qEn (qIv _ _)) ?_;have ne:s.heap.objs.size≠s.heap.objs.size+1:=qAl (qBw _);refine⟨by rw[zA5 ne,zA8],qAv _,ne,e2,fun _=>none,(qLw e3).at fun o q=>qIj _ q,fun _=>qEf,fun y hy=>absurd rfl hy⟩
def zZ9{prog:qIo}{w:World}{env:Env}{e:Expr}{f:Str}{pos:Pos}{s:qIk}{Q:Value->qIk->Prop}(hb:qKg e f env (eval e env)=eval e env)
  (h:wpAny (model prog w) A (eval e env) (fun o s₁=>wpAny (model prog w) A (getAttr o f true) Q E s₁) E s):wpAny (model prog w) A (eval (.Attribute e f pos) env) Q E s:=
 Attribute_any_ h (by rw[arm_eval_Attribute,hb])
end
def tFld(K:qA0)(ta:TE)(f:Str):TE:=fun σ H Q=>ta σ H fun x H1=>∃a C dx fs v,x=.ref a/\H1 a=some (.ins C dx fs)/\Cls K C/\NoAttr K C f/\fs.lookup f=some v/\Q v H1
def sFld(K:qA0)(ta tv:TE)(f:Str):TS:=fun D σ H=>tv σ H fun y H1=>ta σ H1 fun x H2=>∃a C dx fs,x=.ref a/\H2 a=some (.ins C dx fs)/\Cls K C/\NoAttr K C f/\fs.length<1000 /\
 D.nx σ (upd H2 a (.ins C dx (putF f y fs)))
section
variable{X:Cx}{o e value:Expr}{f:Str}{pos pos':Pos}{ta tv:TE}
def zFU(he:PE X e ta)(hb:qKg e f X.env (eval e X.env)=eval e X.env):PE X (.Attribute e f pos) (tFld X.K ta f):=by
 intro pins s σ H Q I h;refine zZ9 hb (thn (he pins s σ H _ I h) fun u s1 z0=>?_);obtain⟨x,H1,I1,rx,a,C,dx,fs,v,ex,ea,c,n,l,q⟩:=z0;subst ex;obtain rfl:u=qIs a:=rx;exact zQE I1 ea c n l fun u' s2 I2 ru=>⟨v,H1,I2,ru,q⟩
def zOW(ha:PE X o ta)(hv:PE X value tv)(hs:qLp value (some (.Attribute o f pos')) pos.line X.env=pure false):PS X (.Assign [.Attribute o f pos'] value pos) (sFld X.K ta tv f):=by
 intro pins s σ H D I h;refine qK8 (thn (hv pins s σ H _ I h) fun u s1 ⟨y,H1,I1,ry,q⟩=>thn (ha pins s1 σ H1 _ I1 q) fun ov s2 ⟨x,H2,I2,rx,a,C,dx,fs,ex,ea,c,n,l,q2⟩=>?_) hs;subst ex;obtain rfl:ov=qIs a:=rx;exact zPU I2 ea c n l ry fun s3 I3=>⟨σ,_,I3,q2⟩
end
section
variable{X:Cx}{pins:List (Addr×Obj)}{σ:St}{H:Hp}{s:qIk}{A:qIr}{E:Value->qIk->Prop}{Q:Value->qIk->Prop}{c:Value}{b:Bool}
inductive TyOf(K:qA0)(H:Hp):V->Value->Prop where
 |non:TyOf K H .non (.type "NoneType")
 |bl (x:Bool):TyOf K H (.bl x) (.type "bool")
 |int (i:Int):TyOf K H (.int i) (.type "int")
 |str (x:Str):TyOf K H (.str x) (.type "str")
 |flt (x:UInt64):TyOf K H (.flt x) (.type "float")
 |lst {a:Addr} {xs:List V} (e:H a=some (.lst xs)):TyOf K H (.ref a) (.type "list")
 |frz {a:Addr} {o:Obj} {xs:List V} (e:H a=some (.frz o (.lst xs))):TyOf K H (.ref a) (.type "list")
 |tup {a:Addr} {xs:List V} (e:H a=some (.tup xs)):TyOf K H (.ref a) (.type "tuple")
 |dK {a:Addr} {kvs:List (Key×V)} (e:H a=some (.dK kvs)):TyOf K H (.ref a) (.type "dict")
 |dT {a:Addr} {kvs:List (List Key×V)} (e:H a=some (.dT kvs)):TyOf K H (.ref a) (.type "dict")
 |ins {a C dx:Addr} {fs:List (Str×V)} (e:H a=some (.ins C dx fs)) (cl:Cls K C) (ha:qA8 K (.ref C) "__class__" = some (some (.builtin "object.__class__")))
   (hn:qDf K (.builtin "object.__class__") "__get__" = some (some (.builtin "getset_descriptor.__get__"))) (htk:qFi K (.builtin "object.__class__")=some true)
   (hm:qCe K C (.type "object")=some true):TyOf K H (.ref a) (.ref C)
def zSH{x:V}{u t:Value}(I:Inv X pins σ H s)(rx:RelV x u)(ty:TyOf X.K H x t)(e:qHh X.K t c=some b)(h:∀tk,Q (.bool b) { s with toks:=tk }) :
  wpAny (model X.prog X.w) A (call (.builtin "isinstance") [u,c]) Q E s:=by
 cases ty with
 |non=>cases(show u=qIy from rx);exact qBu PySem.W.kitx_none I.kIn qEf e (fun z=>nomatch z) h
 |bl y=>cases(show u=qLu y from rx);exact qBu PySem.W.kitx_bool I.kIn qEf e (fun z=>nomatch z) h
 |int i=>obtain⟨t,q⟩:=(show ∃t,u=qLm i t from rx);cases q;exact qBu PySem.W.kitx_int I.kIn qEf e (fun z=>nomatch z) h
 |str y=>obtain⟨t,q⟩:=(show ∃t,u=qKe y t from rx);cases q;exact qBu PySem.W.kitx_str I.kIn qEf e (fun z=>nomatch z) h
 |flt y=>obtain⟨t,q⟩:=(show ∃t,u=qMj y t from rx);cases q;exact qBu PySem.W.kitx_float I.kIn qEf e (fun z=>nomatch z) h
 |@lst a xs ea=>
  cases(show u=qIs a from rx)
  obtain⟨_,_,n,_,h1⟩:=(show ObjOk X.prog X.w H s.heap a (.lst xs) from I.hok a _ ea)
  exact qBu qGh I.kIn ⟨_,h1,rfl⟩ e (fun z=>nomatch z) h
 |@frz a ob xs ea=>
  cases(show u=qIs a from rx)
  obtain⟨_,_,_,n,_,h1⟩:=(show ObjOk X.prog X.w H s.heap a (.frz ob (.lst xs)) from I.hok a _ ea)
  exact qBu qGh I.kIn ⟨_,h1,rfl⟩ e (fun z=>nomatch z) h
 |@tup a xs ea=>
  cases(show u=qIs a from rx)
  obtain⟨_,_,_,p⟩:=(show ObjOk X.prog X.w H s.heap a (.tup xs) from I.hok a _ ea)
  obtain⟨o,h1,h2,_⟩:=p;exact qBu PySem.W.kitx_tuple I.kIn ⟨o,h1,h2⟩ e (fun z=>nomatch z) h
 |@dK a kvs ea=>
  cases(show u=qIs a from rx)
  obtain⟨_,_,vs,_,p⟩:=(show ObjOk X.prog X.w H s.heap a (.dK kvs) from I.hok a _ ea)
  obtain⟨o,es,ep,h1,h2,_⟩:=p;exact qBu qGi I.kIn ⟨o,h1,h2.1⟩ e (fun z=>nomatch z) h
 |@dT a kvs ea=>
  cases(show u=qIs a from rx)
  obtain⟨_,_,xs,_,o,es,ep,h1,h2,_⟩:=(show ObjOk X.prog X.w H s.heap a (.dT kvs) from I.hok a _ ea)
  exact qBu qGi I.kIn ⟨o,h1,h2.1⟩ e (fun z=>nomatch z) h
 |@ins a C dx fs ea cl ha hn htk hm=>
  cases(show u=qIs a from rx)
  obtain⟨mA,O,_⟩:=zKG I.hok ea;obtain⟨od,J,_⟩:=O.look;exact qBu (PySem.W.kitx_own (cl.get _) cl.hd ha hn htk hm) I.kIn J e (fun z=>nomatch z) h
end
structure Room(k:Nat)(A:qIr):Prop where
 hd:A.handled=none
 dp:A.depth+3*k+5<recursionLimit
 un:A.units+16*k+200<cLine
def Room.mono{j k:Nat}{A:qIr}(r:Room k A)(h:j<=k):Room j A:=⟨r.hd,by have:=r.dp;omega,by have:=r.un;omega⟩
def Room.deeper{k:Nat}{A:qIr}(r:Room (k+1) A)(env:Env):Room k (A.deeper env):=
 ⟨r.hd,by have:=r.dp;show A.depth+1+3*k+5<_;omega,by have:=r.un;show A.units+3+16*k+200<_;omega⟩
def zQ6{A:qIr}{C:Addr}{us:List Value}{kw:List (Str×Value)}:(A.under (.builtin "type.__call__" ⟨.ref C::us,kw⟩)).depth=A.depth+1:=by
 first|rfl|simp[qM8,Code.weight,Code.isCreation,Code.isGuard,Code.isCaller,Code.frames,qM9,guardIds]
def zQ5{A:qIr}{C:Addr}{us:List Value}{kw:List (Str×Value)}:(A.under (.builtin "type.__call__" ⟨.ref C::us,kw⟩)).units=A.units+1:=by
 first|rfl|simp[qM8,Code.cUnits,Code.frames,qM9]
def Room.make{k:Nat}{A:qIr}(r:Room (k+1) A)(C:Addr)(us:List Value)(kw:List (Str×Value)):Room k (A.under (.builtin "type.__call__" ⟨.ref C::us,kw⟩)):=
 ⟨r.hd,by have:=r.dp;rw[zQ6];omega,by have:=r.un;rw[zQ5];omega⟩
def Room.depth{k:Nat}{A:qIr}(r:Room k A):A.depth<recursionLimit:=by have:=r.dp;omega
def Room.units{k:Nat}{A:qIr}(r:Room k A):A.units+64<cLine:=by have:=r.un;omega
def tNil:TA:=fun _ H Q=>Q [] H
def zE1(ta:TE)(tr:TA):TA:=fun σ H Q=>ta σ H fun x H1=>tr σ H1 fun xs H2=>Q (x::xs) H2
section
variable{X:Cx}{e:Expr}{es:List Expr}{te:TE}{t:TA}{pos:Pos}
def zA7:PA X [] tNil:=fun _ _ _ _ H Q I h=>Calls.spliced_nil ⟨[],H,I,.nil,h⟩
def zA1(ha:PE X e te)(hr:PA X es t)(hs:starEach (e::es) X.env=(false,eval e X.env)::starEach es X.env:=by rfl):PA X (e::es) (zE1 te t):=by
 intro pos pins s σ H Q I h;rw[hs];show wpAny _ _ (spliced ((false,eval e X.env)::backTo pos (starEach es X.env))) _ _ s;refine Calls.spliced_cons (thn (ha pins s σ H _ I h) fun u s1 z0=>?_);obtain⟨x,H1,I1,r1,q1⟩:=z0;exact thn (hr pos pins s1 σ H1 _ I1 q1) fun us s2 ⟨xs,H2,I2,r2,q2⟩=>⟨x::xs,H2,I2,.cons r1 r2,q2⟩
def tTup(t:TA):TE:=fun σ H Q=>t σ H fun xs H1=>xs.length<=sizeLine/\∀p,H1 p=none->Q (.ref p) (upd H1 p (.tup xs))
def tLst(t:TA):TE:=fun σ H Q=>t σ H fun xs H1=>xs.length<=sizeLine/\∀p,H1 p=none->Q (.ref p) (upd H1 p (.lst xs))
def zJ7{x1}(h:PA X es t):PE X (.Tuple es x1 pos) (tTup t):=by
 intro pins s σ H Q I hq;refine wpAny_Tuple_spliced (thn (h pos pins s σ H _ I hq) fun us s1 ⟨xs,H1,I1,r,z,q⟩=>⟨by rw[<- r.length];exact z,?_⟩);have hf:H1 s1.heap.objs.size=none:=I1.hok.fresh (qA5 _);refine⟨.ref s1.heap.objs.size,upd H1 s1.heap.objs.size (.tup xs),I1.laid (t':=s1.toks) (fun b u e=>qIj _ e) (qA5 _) ?_,rfl,q _ hf⟩;exact⟨z,us,r,⟨_,qIm _ rfl,rfl,_,rfl⟩⟩
def zJ8(h:PA X es t):PE X (.List es pos) (tLst t):=by
 intro pins s σ H Q I hq;refine wpAny_List_spliced (thn (h pos pins s σ H _ I hq) fun us s1 ⟨xs,H1,I1,r,z,q⟩=>⟨by rw[<- r.length];exact z,?_⟩);have hf:H1 s1.heap.objs.size=none:=I1.hok.fresh (qA5 _);refine⟨.ref s1.heap.objs.size,upd H1 s1.heap.objs.size (.lst xs),I1.laid (t':=s1.toks) (fun b u e=>qIj _ e) (qA5 _) ?_,rfl,q _ hf⟩;exact⟨z,us,0,r,qIm _ rfl⟩
end
abbrev Sp:=List V->Hp->VK->XK->Prop
abbrev CXT:=List Env->Hp->qIk->XK->Value->qIk->Prop
structure Env0(P:qIo)(w:World)(K:qA0)(mg:Str->Option Value)(base:Heap)(A:qIr)(outer:List Env)(s:qIk)(H:Hp):Prop where
 frames:A.frames=some outer
 mod:Mod K mg base
 bs:∀b o,base.get? b=some o->s.heap.get? b=some o/\H b=none
 bsz:base.objs.size<=s.heap.objs.size
 funs:s.heap.FunFrames base outer
 frf:∀b∈frs outer,H b=none
 hok:HOk P w H s.heap
 bare:qKu s.gens
def CE(outer:List Env)(P:qIo)(w:World)(H:Hp)(s:qIk)(Q:VK)(u:Value)(s':qIk):Prop:=
 ∃v H',s'.os=s.os/\qKu s'.gens/\Un (frs outer) [] H H' s.heap s'.heap/\HOk P w H' s'.heap/\RelV v u/\Q v H'
def CR(CX:CXT)(outer:List Env)(P:qIo)(w:World)(H:Hp)(s:qIk)(Q:VK)(E:XK)(r:qLq)(s':qIk):Prop:=
 match r with
 |.ok (.ret u)=>CE outer P w H s Q u s'
 |.ok _=>False
 |.error e=>CX outer H s E e s'
structure FnOk(P:qIo)(w:World)(K:qA0)(mg:Str->Option Value)(base:Heap)(CX:CXT)(k:Nat)(f:Addr)(fd:qJ0)(ps:List Str)(sp:Sp):Prop where
 len:∀vs H Q E,sp vs H Q E->vs.length=ps.length
 run:∀(A:qIr)(outer:List Env)(s:qIk)(H:Hp)(args:Args)(us:List Value)(vs:List V)(Q:VK)(E:XK),Room k A->Env0 P w K mg base A outer s H->qLx s fd args (ps.zip us)->Vals vs us->sp vs H Q E ->
  qJn (model P w) A (.call (.ref f) args) (CR CX outer P w H s Q E) s
def FnOk.imp{P:qIo}{w:World}{K:qA0}{mg:Str->Option Value}{base:Heap}{CX:CXT}{k:Nat}{f:Addr}{fd:qJ0}{ps:List Str}{sp sp':Sp}(F:FnOk P w K mg base CX k f fd ps sp)
  (h:∀vs H Q E,sp' vs H Q E->sp vs H Q E):FnOk P w K mg base CX k f fd ps sp':=
 ⟨fun vs H Q E q=>F.len vs H Q E (h _ _ _ _ q),fun A outer s H args us vs Q E hr he hb hv hs=>F.run A outer s H args us vs Q E hr he hb hv (h _ _ _ _ hs)⟩
def Env0.make{P:qIo}{w:World}{K:qA0}{mg:Str->Option Value}{base:Heap}{A:qIr}{outer:List Env}{s:qIk}{H:Hp}(e:Env0 P w K mg base A outer s H)(C:Addr)(us:List Value)(kw:List (Str×Value)) :
  Env0 P w K mg base (A.under (.builtin "type.__call__" ⟨.ref C::us,kw⟩)) outer s H:=⟨by first|exact e.frames|(simpa[qM8,Code.envs,qM9,pushEnvs]using e.frames),e.mod,e.bs,e.bsz,e.funs,e.frf,e.hok,e.bare⟩
section
variable{X:Cx}{pins:List (Addr×Obj)}{σ:St}{H:Hp}{s s':qIk}
def Inv.env0(I:Inv X pins σ H s):Env0 X.prog X.w X.K X.mg X.base X.A X.stack s H:=
 ⟨I.ok.frames,I.ok.mod,I.bs,qAt I.ok.bsz I.sz,I.stack,I.stkFree,I.hok,I.bare⟩
def Inv.after{Q:VK}{u:Value}(I:Inv X pins σ H s)(h:CE X.stack X.prog X.w H s Q u s'):EP X pins σ Q u s':=by
 obtain⟨v,H',os,bare,un,hok,r,q⟩:=h;obtain⟨hh,g,d,t,os'⟩:=s';obtain rfl:os'=s.os:=os;exact⟨v,H',I.call (h':=hh) (g':=g) (d':=d) (t':=t) (ch:=[]) un hok bare (fun b z=>absurd z (by simp)),r,q⟩
end
def zN7(sp:Sp)(dvs:List V)(E:XK)(t:TA):TE:=fun σ H Q=>t σ H fun vs H1=>sp (vs++dvs) H1 Q E
def zXM(C:Addr)(sp:Sp)(dvs:List V)(E:XK)(t:TA):TE:=fun σ H Q=>t σ H fun vs H1=>∀x dx,H1 x=none->H1 dx=none->dx≠x ->
 sp (.ref x::(vs++dvs)) (upd (upd H1 dx (.own x)) x (.ins C dx [])) (fun v H2=>v=.non/\Q (.ref x) H2) E
def Binds(K:qA0)(fd:qJ0)(ps:List Str)(ds:List Value):Prop:=
 ∀(s:qIk)(us:List Value),K.In s.heap->(us++ds).length=ps.length->qLx s fd ⟨us,[]⟩ (ps.zip (us++ds))
def Binds.all{K:qA0}{fd:qJ0}{ps:List Str}(h:∀us:List Value,us.length=ps.length->bindArgs fd ⟨us,[]⟩=pure (ps.zip us)):Binds K fd ps []:=fun s us _ hl=>by
 rw[qBv]at hl ⊢;exact .of_eq (h us hl)
def zH0(CX:CXT)(X:Cx)(E:XK):Prop:=∀(pins:List (Addr×Obj))(σ:St)(H:Hp)(s:qIk)(e:Value)(s':qIk),Inv X pins σ H s->CX X.stack H s E e s'->X.xe e s'
section
variable{X:Cx}{CX:CXT}{k:Nat}{f C:Addr}{fd:qJ0}{ps:List Str}{sp:Sp}{dvs:List V}{ds:List Value}{E:XK}{x:Str}{p pos:Pos}{e:Expr}{es:List Expr}{t:TA}
def zW6{pins:List (Addr×Obj)}{σ:St}{H:Hp}{s:qIk}{Q:VK}{us:List Value}{vs:List V}(F:FnOk X.prog X.w X.K X.mg X.base CX k f fd ps sp)(hr:Room k X.A)(hb:Binds X.K fd ps ds)(hd:Vals dvs ds)(hx:zH0 CX X E)
  (I:Inv X pins σ H s) (r:Vals vs us) (h:sp (vs++dvs) H Q E):wpAny (model X.prog X.w) X.A (call (.ref f) us) (EP X pins σ Q) X.xe s:=by
 have r2:Vals (vs++dvs) (us++ds):=r.append hd;have hl:(us++ds).length=ps.length:=by rw[<- r2.length];exact F.len _ _ _ _ h
 refine wpAny_call (codeAny_mono (F.run X.A X.stack s H ⟨us,[]⟩ (us++ds) (vs++dvs) Q E hr I.env0 (hb s us I.kIn hl) r2 h) fun r s' hq=>?_);cases r with
 |error e=>exact hx pins σ H s e s' I hq
 |ok fl=>
  cases fl with
  |ret u=>exact I.after hq
  |next=>exact qA4 hq
  |brk=>exact qA4 hq
  |cont=>exact qA4 hq
def zRU(F:FnOk X.prog X.w X.K X.mg X.base CX k f fd ps sp)(hr:Room k X.A)(hg:Gl X x)(hm:X.mg x=some (.ref f))(hk:qAk X.K (.ref f)=true)(hb:Binds X.K fd ps ds)(hd:Vals dvs ds)(hx:zH0 CX X E)
  (ha:PA X (e::es) t) (hdb:(x==("__debug__":Str))=false:=by decide) (he:starEach (e::es) X.env=(false,eval e X.env)::starEach es X.env:=by rfl) (hpl:(backTo pos (starEach es X.env)).any (·.1)=false:=by rfl) :
  PE X (.Call (.Name x p) (e::es) [] pos) (zN7 sp dvs E t):=by
 intro pins s σ H Q I h;refine qJ5 (zFD I hg hm ?_ hdb);refine qCs (h₀:=X.base) I.ok.mod.kin hk (thn (ha pos pins s σ H _ I h) fun us s1 ⟨vs,H1,I1,r,q⟩=>⟨I1.kIn,?_⟩) he hpl;exact zW6 F hr hb hd hx I1 r q
structure Mk(K:qA0)(C f:Addr):Prop where
 makes:qCa K C=true
 init:qA8 K (.ref C) "__init__" = some (some (.ref f))
 fn:qBd K (.ref f)=true
 kp:qAk K (.ref C)=true
def zTZ{pins:List (Addr×Obj)}{σ:St}{H:Hp}{s:qIk}{Q:VK}{us:List Value}{vs:List V}(M:Mk X.K C f)(F:FnOk X.prog X.w X.K X.mg X.base CX k f fd ps sp)(hr:Room (k+1) X.A)(hb:Binds X.K fd ps ds)(hd:Vals dvs ds)
  (hx:zH0 CX X E) (I:Inv X pins σ H s) (r:Vals vs us)
  (h:∀x dx,H x=none->H dx=none->dx≠x->sp (.ref x::(vs++dvs)) (upd (upd H dx (.own x)) x (.ins C dx [])) (fun v H2=>v=.non/\Q (.ref x) H2) E) :
  wpAny (model X.prog X.w) X.A (call (.ref C) us) (EP X pins σ Q) X.xe s:=by
 have hq:=h (s.heap.objs.size+1) s.heap.objs.size (I.hok.fresh (qBm _)) (I.hok.fresh (qA5 _)) (qAl (qBw _));have I2:=Inv.made (C:=C) I;have r2:Vals (V.ref (s.heap.objs.size+1)::(vs++dvs)) (qIs (s.heap.objs.size+1)::(us++ds)):=.cons rfl (r.append hd);have hl:(qIs (s.heap.objs.size+1)::us++ds).length=ps.length:=by
  have e:=r2.length;rw[F.len _ _ _ _ hq]at e;exact e.symm
 refine wpAny_call (zUR (f:=f) I.kIn M.makes M.init (beq_iff_eq.mp M.fn) (codeAny_mono (F.run _ X.stack _ _ ⟨qIs (s.heap.objs.size+1)::us,[]⟩ (qIs (s.heap.objs.size+1)::(us++ds)) _ _ E (hr.make C us [])
  (I2.env0.make C us []) (hb _ (qIs (s.heap.objs.size+1)::us) I2.kIn hl) r2 hq) fun r s' hq'=>?_))
 cases r with
 |error e=>exact hx pins σ _ _ e s' I2 hq'
 |ok fl=>
  cases fl with
  |ret u=>
   obtain⟨v,H',I3,rv,ev,q3⟩:=I2.after hq';subst ev;exact⟨rv,⟨V.ref (s.heap.objs.size+1),H',I3,rfl,q3⟩⟩
  |next=>exact qA4 hq'
  |brk=>exact qA4 hq'
  |cont=>exact qA4 hq'
def zY5(M:Mk X.K C f)(F:FnOk X.prog X.w X.K X.mg X.base CX k f fd ps sp)(hr:Room (k+1) X.A)(hg:Gl X x)(hm:X.mg x=some (.ref C))(hb:Binds X.K fd ps ds)(hd:Vals dvs ds)(hx:zH0 CX X E)
  (ha:PA X (e::es) t) (hdb:(x==("__debug__":Str))=false:=by decide) (he:starEach (e::es) X.env=(false,eval e X.env)::starEach es X.env:=by rfl) (hpl:(backTo pos (starEach es X.env)).any (·.1)=false:=by rfl) :
  PE X (.Call (.Name x p) (e::es) [] pos) (zXM C sp dvs E t):=by
 intro pins s σ H Q I h;refine qJ5 (zFD I hg hm ?_ hdb);refine qCs (h₀:=X.base) I.ok.mod.kin M.kp (thn (ha pos pins s σ H _ I h) fun us s1 ⟨vs,H1,I1,r,q⟩=>⟨I1.kIn,?_⟩) he hpl;exact zTZ M F hr hb hd hx I1 r q
end
section
end
structure FnScope(N P:List Str)(sc:Scope):Prop where
 kind:sc.kind=.function
 co:sc.isCoroutine=false
 gen:sc.isGenerator=false
 nd:N.Nodup
 pre:N.take P.length=P
 par:∀x∈P,sc.names.lookup x=some .local\/sc.names.lookup x=some .cell
 nofree:∀y∈sc.names,y.2≠.free
def zMP{kindOf:Str->Option qJr}{x:Str}:∀{binds:List (Str×Value)}{m:Str->Option Value},(∀v,(x,v)∉binds)->bindL kindOf binds m x=m x
 |[],_,_=>rfl
 |(n,v)::r,m,h=>by
  unfold bindL;rw[zMP fun w hw=>h w (qAp _ hw)]
  split
  ·have:x≠n:=by rintro rfl;exact h v qAw
   simp[this]
  ·rfl
def zMR{kindOf:Str->Option qJr}{x:Str}:∀{binds:List (Str×Value)}{m:Str->Option Value},(∀v,(x,v)∉binds)->bindC kindOf binds m x=m x
 |[],_,_=>rfl
 |(n,v)::r,m,h=>by
  unfold bindC;rw[zMR fun w hw=>h w (qAp _ hw)]
  split
  ·rfl
  ·have:x≠n:=by rintro rfl;exact h v qAw
   simp[this]
def zMQ{kindOf:Str->Option qJr}{x:Str}{v:Value}:∀{P:List Str}{vs:List Value}{i:Nat}{m:Str->Option Value},P.Nodup->P[i]?=some x->vs[i]?=some v->kindOf x=some .local ->
  bindL kindOf (P.zip vs) m x=some v
 |[],_,_,_,_,h,_,_=>by simp at h
 |_::_,[],_,_,_,_,h,_=>by simp at h
 |p::P,w::vs,0,m,nd,h1,h2,hk=>by
  simp at h1 h2;subst h1;subst h2;show bindL kindOf ((p,w)::P.zip vs) m p=_;unfold bindL;rw[zMP fun v hv=>(qCo.mp nd).1 (qD7 hv).1,if_pos hk];simp
 |p::P,w::vs,i+1,m,nd,h1,h2,hk=>by
  show bindL kindOf ((p,w)::P.zip vs) m x=_;unfold bindL;exact zMQ (i:=i) (qCo.mp nd).2 (by simpa using h1) (by simpa using h2) hk
def zMS{kindOf:Str->Option qJr}{x:Str}{v:Value}:∀{P:List Str}{vs:List Value}{i:Nat}{m:Str->Option Value},P.Nodup->P[i]?=some x->vs[i]?=some v->kindOf x≠some .local ->
  bindC kindOf (P.zip vs) m x=some v
 |[],_,_,_,_,h,_,_=>by simp at h
 |_::_,[],_,_,_,_,h,_=>by simp at h
 |p::P,w::vs,0,m,nd,h1,h2,hk=>by
  simp at h1 h2;subst h1;subst h2;show bindC kindOf ((p,w)::P.zip vs) m p=_;unfold bindC;rw[zMR fun v hv=>(qCo.mp nd).1 (qD7 hv).1,if_neg hk];simp
 |p::P,w::vs,i+1,m,nd,h1,h2,hk=>by
  show bindC kindOf ((p,w)::P.zip vs) m x=_;unfold bindC;exact zMS (i:=i) (qCo.mp nd).2 (by simpa using h1) (by simpa using h2) hk
def start(N:List Str)(vs:List V):St:=vs.map some++qA7 (N.length-vs.length) none
def cxOf(CX:CXT)(P:qIo)(w:World)(K:qA0)(mg:Str->Option Value)(base:Heap)(N:List Str)(qual:Str)(scope:Scope)(f:Addr)(cd:Value)(A:qIr)(outer:List Env)(s:qIk)(H:Hp)(E:XK):Cx where
 prog:=P
 w:=w
 K:=K
 mg:=mg
 base:=base
 A:=A.deeper (envOfC qual scope s.heap.objs.size f cd)
 N:=N
 s₀:=s
 H₀:=H
 env:=envOfC qual scope s.heap.objs.size f cd
 outer:=outer
 stack:=envOfC qual scope s.heap.objs.size f cd::outer
 ex:=[]
 calm:=true
 fn:=fun _=>true
 pn:=[]
 xe:=fun e s'=>wpAny (model P w) (A.deeper (envOfC qual scope s.heap.objs.size f cd)) (leaving (envOfC qual scope s.heap.objs.size f cd) e) (fun _ s''=>CX outer H s E e s'') (fun e' s''=>CX outer H s E e' s'') s'
def zPK{sc:Scope}{n:Nat}{x:Str}(h:sc.names.lookup x=some .cell):∃c,(cellsFrom n sc.names []).lookup x=some c:=by
 have q:=qDz sc.names n [] (.inl h);exact qEw.mp q
def zSI{CX:CXT}{P:qIo}{w:World}{K:qA0}{mg:Str->Option Value}{base:Heap}{N ps:List Str}{qual:Str}{scope:Scope}{f:Addr}{cd:Value}{A:qIr}{outer:List Env}{s s1:qIk}{H:Hp}{E:XK}{us:List Value}{vs:List V}
  (S:FnScope N ps scope) (hd:A.handled=none) (e0:Env0 P w K mg base A outer s H) (hl:vs.length=ps.length) (r:Vals vs us)
  (x:InCallC s s.heap.objs.size (bindL (envOfC qual scope s.heap.objs.size f cd).kindOf (ps.zip us) fun _=>none) (cellsFrom (s.heap.objs.size+1) scope.names []) (bindC (envOfC qual scope s.heap.objs.size f cd).kindOf (ps.zip us) fun _=>none) s1) :
  Inv (cxOf CX P w K mg base N qual scope f cd A outer s H E) [] (start N vs) H s1:=by
 have hpl:ps.length<=N.length:=by have:=congrArg List.length S.pre;rw[qEa]at this;omega
 obtain⟨h1,tk,rfl,hk⟩:=x.done;have noA:∀b:Addr,b∉(cxOf CX P w K mg base N qual scope f cd A outer s H E).ex:=fun b z=>absurd (show b∈([]:List Addr) from z) (by simp)
 refine⟨⟨e0.mod,S.kind,rfl,rfl,qA5 _,fun y z c h1 h2=>?_,fun y hy=>?_,fun y c _ h=>?_,fun _=>hd,qLc e0.frames,.inr ⟨rfl,rfl⟩,fun b z=>absurd z (noA b),e0.bs,e0.bsz,fun b _ _=>noA b,fun b z=>absurd z (noA b),e0.funs,e0.frf⟩,
  rfl,e0.bare,Un.kept hk,⟨_,x.toInCall.ns,fun i y v h1 h2 h3=>?_⟩,fun y c h=>⟨_,x.cell y c h⟩,e0.hok.fresh (qA5 _),fun y c h=>?_,fun p hp=>absurd (show p∈([]:List (Addr×Obj)) from hp) (by simp),e0.hok.kept hk,?_⟩
 ·exact name_of_addr x.apart (qC6 h1) (qC6 h2)
 ·have hy:scope.names.lookup y=some .cell\/scope.names.lookup y=some .free:=hy
  rcases hy with hy|hy
  ·exact zPK hy
  ·exact absurd rfl (S.nofree _ (qC6 hy))
 ·exact qC8 (x.above y c (qC6 h))
 ·have hi:i<vs.length:=by
   unfold start at h2;by_cases hi:i<vs.length
   ·exact hi
   ·rw[qAc (by simpa using hi)]at h2;rw[qCf]at h2
    split at h2<;>cases h2
  have ha:vs[i]?=some v:=by
   unfold start at h2;rw[qAf (by simpa using hi),qAd]at h2;cases e:vs[i]? with
   |none=>rw[e]at h2;cases h2
   |some a=>rw[e]at h2;cases h2;rfl
  obtain⟨u,hu,rv⟩:=r.get ha;have hp:ps[i]?=some y:=by
   rw[<- S.pre,List.getElem?_take_of_lt (by omega)];exact h1
  have ndP:ps.Nodup:=by rw[<- S.pre];exact S.nd.sublist (List.take_sublist _ _)
  refine⟨u,rv,?_⟩;rcases S.par y (qBo hp)with k|k
  ·exact .inl ⟨k,zMQ ndP hp hu k⟩
  ·obtain⟨c,e⟩:=zPK (n:=s.heap.objs.size+1) k;refine .inr ⟨.inl k,c,e,?_⟩;have q:=x.cell y c e;rw[zMS ndP hp hu (by show scope.names.lookup y≠_;rw[k];decide)]at q;exact q
 ·exact e0.hok.fresh (qC8 (x.above y c (qC6 h)))
 ·unfold start;show _=N.length;rw[qAs,qAg,qD8];omega
def zYY{CX:CXT}{P:qIo}{w:World}{K:qA0}{mg:Str->Option Value}{base:Heap}{k:Nat}{f:Addr}{name qual:Str}{params:Arguments}{body:List Stmt}{scope:Scope}{dV kV doc pm cdv ct oc:Value}{an od:Option Addr}
  {osl:Array (Option Value)} {N ps:List Str} {sp:Sp} (lk:K.lookup f=some ⟨oc,od,.func (qAx name qual params body scope dV kV doc pm an cdv ct),osl⟩) (hcd:qB4 K cdv qual=true) (S:FnScope N ps scope)
  (len:∀vs H Q E,sp vs H Q E->vs.length=ps.length)
  (hbody:∀(A:qIr)(outer:List Env)(s:qIk)(H:Hp)(vs:List V)(Q:VK)(E:XK),Room k (A.deeper (envOfC qual scope s.heap.objs.size f cdv))->sp vs H Q E ->
   ∃t,PSs (cxOf CX P w K mg base N qual scope f cdv A outer s H E) body t/\t { nx:=fun _ H'=>Q .non H',rt:=Q } (start N vs) H) :
  FnOk P w K mg base CX (k+1) f (qAx name qual params body scope dV kV doc pm an cdv ct) ps sp:=by
 refine⟨len,fun A outer s H args us vs Q E hr e0 hb r hsp=>?_⟩;have hl:=len _ _ _ _ hsp;have KX:K.In s.heap:=e0.mod.kin.keeps fun b o e=>(e0.bs b o e).1
 have lim:s.heap.NoLimit:=e0.mod.nolimit.keeps fun b o e=>(e0.bs b o e).1
 have hkind:∀y∈ps.zip us,scope.names.lookup y.1=some .local\/(scope.names.lookup y.1=some .cell/\((cellsFrom (s.heap.objs.size+1) scope.names []).lookup y.1).isSome=true):=fun⟨n,v⟩ hy=>by
  rcases S.par n (qD7 hy).1 with q|q
  ·exact .inl q
  ·exact .inr ⟨q,qDz _ _ _ (.inl q)⟩
 refine codeAny_call_function hr.depth (KX _ _ lk) rfl S.co S.gen rfl (PySem.W.codeRec_of KX hcd) (hb _ _ _ _ ?_);refine wpAny_newFunctionEnv_cells S.kind hkind fun env he s1 x=>?_
 subst he;refine⟨lim.keeps x.toInCall.keep,codeAny_func ?_⟩;obtain⟨t,ht,hq⟩:=hbody A outer s H vs Q E (hr.deeper _) hsp;have I:Inv (cxOf CX P w K mg base N qual scope f cdv A outer s H E) [] (start N vs) H s1:=zSI S hr.hd e0 hl r x;refine wpAny_mono (ht [] s1 (start N vs) H _ I hq) (fun fl s' hs=>?_) fun e s' hs=>hs
 have fin:∀{σ':St}{H':Hp}{v:V}{u:Value},Inv (cxOf CX P w K mg base N qual scope f cdv A outer s H E) [] σ' H' s'->RelV v u->Q v H'->CE outer P w H s Q u s':=
  fun{σ' H' v u} J rv q=>⟨v,H',J.os,J.bare,J.base,J.hok,rv,q⟩
 cases fl with
 |ret u=>
  obtain⟨v,σ',H',J,rv,q⟩:=hs;exact fin J rv q
 |next=>
  obtain⟨σ',H',J,q⟩:=hs;exact fin (v:=V.non) (u:=qIy) J rfl q
 |brk=>
  obtain⟨_,_,_,q⟩:=hs;exact qA4 q
 |cont=>
  obtain⟨_,_,_,q⟩:=hs;exact qA4 q
section
variable{X:Cx}{x:Str}{p pos:Pos}{e:Expr}{es:List Expr}{t:TA}{id T:String}{r:List V->Hp->VK->Prop}
def tCB(r:List V->Hp->VK->Prop)(t:TA):TE:=fun σ H Q=>t σ H fun vs H1=>r vs H1 Q
def zAK(hc:zDI X (.builtin id) r)(hg:Gl X x)(hm:X.mg x=none)(hv:qK0 x=some (.builtin id))(ha:PA X (e::es) t)(hn:x≠"__name__":=by decide)(hdb:(x==("__debug__":Str))=false:=by decide)
  (he:starEach (e::es) X.env=(false,eval e X.env)::starEach es X.env:=by rfl) (hpl:(backTo pos (starEach es X.env)).any (·.1)=false:=by rfl):PE X (.Call (.Name x p) (e::es) [] pos) (tCB r t):=by
 intro pins s σ H Q I h;refine qJ5 (zI7 I hg hm hv ?_ hn hdb);exact qE5 (thn (ha pos pins s σ H _ I h) fun us s1 ⟨vs,H1,I1,r1,q1⟩=>hc pins s1 σ H1 vs us Q I1 r1 q1) he hpl
def zCZ(hc:zDI X (.type T) r)(hg:Gl X x)(hm:X.mg x=none)(hv:qK0 x=some (.type T))(ha:PA X (e::es) t)(hn:x≠"__name__":=by decide)(hdb:(x==("__debug__":Str))=false:=by decide)
  (he:starEach (e::es) X.env=(false,eval e X.env)::starEach es X.env:=by rfl) (hpl:(backTo pos (starEach es X.env)).any (·.1)=false:=by rfl):PE X (.Call (.Name x p) (e::es) [] pos) (tCB r t):=by
 intro pins s σ H Q I h;refine qJ5 (zI7 I hg hm hv ?_ hn hdb);exact qBz (thn (ha pos pins s σ H _ I h) fun us s1 ⟨vs,H1,I1,r1,q1⟩=>hc pins s1 σ H1 vs us Q I1 r1 q1) he hpl
end
end L2
namespace Mi
end Mi
namespace PySem
open Builtin Builtin.Str PySem.Spec
end PySem
namespace PySem
open PyProof.Rows
end PySem
namespace HT
open PySem PyProof.Rows
section
open PySem.SeqAt
open PySem.AutoSeq1 (wpAny_loadPart')
open PySem.MeetsSeq PySem.MeetsSeq2 PySem.MeetsSeq3
end
section
variable{prog:qIo}{w:World}{A:qIr}{E:Value->qIk->Prop}{s:qIk}
def cat_tup{t b:Addr}{vs ws:List Value}{Q:Value->qIk->Prop}(ht:IsTup s.heap t vs.toArray)(hb:IsTup s.heap b ws.toArray)(hv:vs≠[])
  (h1:ws=[]->Q (.ref t) s) (h2:ws≠[]->Q (.ref s.heap.objs.size) { s with heap:=s.heap.push { cls:=.type "tuple",data:=.seq (vs++ws).toArray } })
  (hsz:vs.length+ws.length<=sizeLine):wpAny (model prog w) A (binaryOp .Add (.ref t) (.ref b)) Q E s:=by
 obtain⟨⟨cls,dd,data,sl⟩,ho,hc,n,hd⟩:=id ht;obtain⟨⟨cls2,dd2,data2,sl2⟩,ho2,hc2,n2,hd2⟩:=id hb;simp only at hc hd hc2 hd2;subst hc hd hc2 hd2;have e:vs.toArray++ws.toArray=(vs++ws).toArray:=by simp
 by_cases hw:ws=[]
 ·exact concat_meets ⟨_,ho,rfl⟩ ⟨_,ho2,rfl⟩ noFill_tuple_add seq_tuple_add qFb qF0 (qEx _ _)
   (tuple_addW1 t b vs.toArray ws.toArray n n2 dd dd2 sl sl2 (by simpa using hv) (by simp[hw])) ⟨ho,ho2,h1 hw⟩
 ·refine concat_meets ⟨_,ho,rfl⟩ ⟨_,ho2,rfl⟩ noFill_tuple_add seq_tuple_add qFb qF0 (qEx _ _)
   (tuple_addW2 t b vs.toArray ws.toArray n n2 dd dd2 sl sl2 (by simpa using hv) (by simpa using hw) (by rw[qAh,qAh];exact hsz)) ⟨ho,ho2,?_⟩
  rw[e];exact h2 hw
def sIx(n d:Nat):Option Int->Nat
 |none=>d
 |some v=>if v<0 then(v+(n:Int)).toNat else min v.toNat n
end
end HT
namespace L2
open PySem PySem.Spec PyProof.Rows
abbrev TO:=St->Hp->(Option Int->Hp->Prop)->Prop
def PO(X:Cx)(e:Option Expr)(t:TO):Prop:=
 ∀(pins:List (Addr×Obj))(s:qIk)(σ:St)(H:Hp)(Q:Option Int->Hp->Prop),Inv X pins σ H s->t σ H Q ->
  wpAny (model X.prog X.w) X.A (evalPart e X.env) (fun u s'=>∃o H',Inv X pins σ H' s'/\IsPart u o/\Q o H') X.xe s
def zQZ:TO:=fun _ H Q=>Q none H
def zZU(t:TE):TO:=fun σ H Q=>t σ H fun x H1=>∃i,x=.int i/\Q (some i) H1
section
variable{X:Cx}{e:Expr}{te:TE}{lo hi:Option Expr}{tl th:TO}{pos p2:Pos}
def zC1:PO X none zQZ:=by
 intro pins s σ H Q I h;rw[qLr];exact wpAny_pure ⟨none,H,I,.none,h⟩
def zAV(h:PE X e te):PO X (some e) (zZU te):=by
 intro pins s σ H Q I hw;rw[evalPart_some];refine thn (h pins s σ H _ I hw) fun u s1 z0=>?_
 obtain⟨x,H1,I1,r1,q1⟩:=z0;obtain⟨i,rfl,q⟩:=q1;obtain⟨t,rfl⟩:=r1;exact⟨some i,H1,I1,.int i t,q⟩
def SlR(X:Cx)(r:V->Option Int->Option Int->Hp->VK->Prop):Prop:=
 ∀(pins:List (Addr×Obj))(s:qIk)(σ:St)(H:Hp)(x:V)(v vl vu:Value)(lo hi:Option Int)(sl:Addr)(Q:VK),Inv X pins σ H s->RelV x v->s.heap.IsSliceOf sl vl vu .none->IsPart vl lo->IsPart vu hi->r x lo hi H Q ->
  ∃T id,typeLookup (.type T) "__getitem__" = pure (some (.builtin id))/\s.TypeIs v T/\wpAny (model X.prog X.w) X.A (getItem v (.ref sl)) (EP X pins σ Q) X.xe s
def tSl(r:V->Option Int->Option Int->Hp->VK->Prop)(te:TE)(tl th:TO):TE:=fun σ H Q=>te σ H fun x H1=>tl σ H1 fun l H2=>th σ H2 fun u H3=>r x l u H3 Q
def zAW{r:V->Option Int->Option Int->Hp->VK->Prop}(hr:SlR X r)(he:PE X e te)(hl:PO X lo tl)(hu:PO X hi th):PE X (.Subscript e (.Slice lo hi none p2) pos) (tSl r te tl th):=by
 intro pins s σ H Q I h;refine qN2 (thn (he pins s σ H _ I h) fun v s1 z0=>?_);obtain⟨x,H1,I1,r1,q1⟩:=z0;refine wpAny_Slice (thn (hl pins s1 σ H1 _ I1 q1) fun vl s2 ⟨l,H2,I2,pl,q2⟩=>thn (hu pins s2 σ H2 _ I2 q2) fun vu s3 ⟨u,H3,I3,pu,q3⟩=>?_);rw[qLr];refine wpAny_pure ?_;have I4:Inv X pins σ H3 { s3 with heap:=s3.heap.push { cls:=.type "slice",data:=.fields #[vl,vu,.none] } }:=I3.kept (t':=s3.toks) fun b ob q=>qIj _ q
 obtain⟨T,id,hT,ht,hg⟩:=hr pins { s3 with heap:=s3.heap.push { cls:=.type "slice",data:=.fields #[vl,vu,.none] } } σ H3 x v vl vu l u s3.heap.objs.size Q I4 r1 (qNl ..) pl pu q3;show wpAny (model X.prog X.w) X.A (subscriptTail e (.Slice lo hi none p2) v (.ref s3.heap.objs.size)) (EP X pins σ Q) X.xe { s3 with heap:=s3.heap.push { cls:=.type "slice",data:=.fields #[vl,vu,.none] } };exact tail_any (ops:=[.ref s3.heap.objs.size,v]) ht hT hg (by with_unfolding_all rfl)
def cutV(xs:List V)(lo hi:Option Int):List V:=(xs.drop (HT.sIx xs.length 0 lo)).take (HT.sIx xs.length xs.length hi-HT.sIx xs.length 0 lo)
def zNY(xs:List V)(lo hi:Option Int):(cutV xs lo hi).length<=xs.length:=by
 unfold cutV;rw[qEa,List.length_drop];omega
def zaJ(K:qA0):R2:=fun x y H Q=>∃a b xs ys,x=.ref a/\y=.ref b/\SqT K H a xs/\SqT K H b ys/\xs≠[]/\xs.length+ys.length<=sizeLine /\
 (ys=[]->Q (.ref a) H)/\(ys≠[]->∀p,H p=none->Q (.ref p) (upd H p (.tup (xs++ys))))
def Vals.nil_iff{xs:List V}{us:List Value}(r:Vals xs us):us=[]↔xs=[]:=by
 cases r with
 |nil=>simp
 |cons _ _=>simp
def zY9:OpR X (binaryOp .Add) (zaJ X.K):=by
 intro pins s σ H x y v u Q I rx ry h;obtain⟨a,b,xs,ys,rfl,rfl,ha,hb,hx,hz,q1,q2⟩:=h;cases rx;cases ry;obtain⟨its,r1,p1,_⟩:=I.tuple ha;obtain⟨its2,r2,p2,_⟩:=I.tuple hb;refine HT.cat_tup p1 p2 (fun z=>hx (r1.nil_iff.mp z)) (fun z=>⟨.ref a,H,I,rfl,q1 (r2.nil_iff.mp z)⟩) (fun z=>?_) (by rw[<- r1.length,<- r2.length];exact hz);refine⟨.ref s.heap.objs.size,_,I.laid (t':=s.toks) (o:=.tup (xs++ys)) (fun b ob q=>qIj _ q) (qA5 _) ?_,rfl,q2 (fun w=>z (r2.nil_iff.mpr w)) _ (I.hok.fresh (qA5 _))⟩;exact⟨by rw[qAs];exact hz,_,r1.append r2,IsTup.new _ _⟩
end
def ixN(n:Nat)(i:Int):Option Nat:=if 0<=i then(if i<n then some i.toNat else none)else if -(n:Int)<=i then some (i+n).toNat else none
def atI{α:Type}(xs:List α)(i:Int):Option α:=(ixN xs.length i).bind fun j=>xs[j]?
def zNR{n:Nat}{i:Int}{j:Nat}(h:ixN n i=some j):qMm i n=some j/\j<n/\-(n:Int)<=i/\i<n:=by
 unfold ixN at h;by_cases h0:0<=i
 ·rw[if_pos h0]at h
  by_cases h1:i<n
  ·rw[if_pos h1]at h;have e:i.toNat=j:=qBg h;exact⟨by rw[qMn h0 h1,e],by omega,by omega,h1⟩
  ·rw[if_neg h1]at h;cases h
 ·rw[if_neg h0]at h
  by_cases h1:-(n:Int)<=i
  ·rw[if_pos h1]at h;have e:(i+n).toNat=j:=qBg h;exact⟨by rw[qMa (by omega) h1,e],by omega,h1,by omega⟩
  ·rw[if_neg h1]at h;cases h
def zO8{α:Type}{xs:List α}{i:Int}{v:α}(h:atI xs i=some v):∃j,qMm i xs.length=some j/\xs[j]?=some v/\j<xs.length/\-(xs.length:Int)<=i/\i<xs.length:=by
 unfold atI at h;cases e:ixN xs.length i with
 |none=>rw[e]at h;cases h
 |some j=>
  rw[e]at h;obtain⟨h1,h2,h3,h4⟩:=zNR e;exact⟨j,h1,h,h2,h3,h4⟩
def zZG(b:Expr):Prop:=∀o i,subscripted b false o i=operate [o,i] (getItem o i)
def IxR(X:Cx)(r:R2):Prop:=
 ∀(value slice:Expr)(pins:List (Addr×Obj))(s:qIk)(σ:St)(H:Hp)(x y:V)(v u:Value)(Q:VK),Inv X pins σ H s->RelV x v->RelV y u->r x y H Q ->
  subscripted slice false v u=operate [v,u] (getItem v u)->wpAny (model X.prog X.w) X.A (subscriptTail value slice v u) (EP X pins σ Q) X.xe s
def MtR(X:Cx)(id:String)(r:V->List V->Hp->VK->Prop):Prop:=
 ∀(pins:List (Addr×Obj))(s:qIk)(σ:St)(H:Hp)(x:V)(xs:List V)(v:Value)(us:List Value)(Q:VK),Inv X pins σ H s->RelV x v->Vals xs us->r x xs H Q ->
  wpAny (model X.prog X.w) X.A (call (.builtin id) (v::us)) (EP X pins σ Q) X.xe s
section
variable{X:Cx}{a b:Expr}{ta tb:TE}{pos:Pos}
def zBG{r:R2}(hr:IxR X r)(ha:PE X a ta)(hb:PE X b tb)(hs:zZG b):PE X (.Subscript a b pos) (tOp r ta tb):=by
 intro pins s σ H Q I h;exact qN2 (binT ha hb I h fun v u s2 x y H2 I2 rx ry q=>hr a b pins s2 σ H2 x y v u Q I2 rx ry q (hs _ _))
def rIxL(K:qA0):R2:=fun x y H Q=>∃p xs i v,x=.ref p/\y=.int i/\SqL K H p xs/\atI xs i=some v/\Q v H
def rIxT(K:qA0):R2:=fun x y H Q=>∃p xs i v,x=.ref p/\y=.int i/\SqT K H p xs/\atI xs i=some v/\Q v H
def rIxS:R2:=fun x y H Q=>∃z i c,x=.str z/\y=.int i/\z.length<=sizeLine/\atI z.cps.toList i=some c/\Q (.str ⟨#[c]⟩) H
def zYO:IxR X (rIxL X.K):=by
 intro value slice pins s σ H x y v u Q I rx ry h hs;obtain⟨p,xs,i,z,rfl,rfl,hq,he,q⟩:=h;cases rx;obtain⟨t,rfl⟩:=ry;obtain⟨its,r,pl,hz⟩:=I.list hq;obtain⟨j,h1,h2,h3,h4,h5⟩:=zO8 he;obtain⟨w,ew,rw'⟩:=r.get h2;have hl:=r.length;have hn:=zI3;have fin:EP X pins σ Q w s:=⟨z,H,I,rw',q⟩;by_cases h0:0<=i
 ·have hj:i.toNat=j:=by
   rw[qMn h0 h5]at h1;exact qBg h1
  exact item_listR pl.isList h0 (by omega) (by rw[hj];simpa using ew) fin hs
 ·have hj:(i+(its.toArray.size:Int)).toNat=j:=by
   rw[qMa (by omega) h4]at h1;rw[qAh,<- hl];exact qBg h1
  exact qL0 (x:=w) pl.isList.typeIs qLz.lookup
   (wpAny_getItem_list_neg (Q:=fun r s'=>r=w/\EP X pins σ Q r s') pl.isList (by omega) (by rw[qAh]<;>omega) (by omega) (by rw[hj];simpa using ew) ⟨rfl,fin⟩) hs
def zbJ:IxR X (rIxT X.K):=by
 intro value slice pins s σ H x y v u Q I rx ry h hs;obtain⟨p,xs,i,z,rfl,rfl,hq,he,q⟩:=h;cases rx;obtain⟨t,rfl⟩:=ry;obtain⟨its,r,pl,hz⟩:=I.tuple hq;obtain⟨j,h1,h2,h3,h4,h5⟩:=zO8 he;obtain⟨w,ew,rw'⟩:=r.get h2;have hl:=r.length;have hn:=zI3;have fin:EP X pins σ Q w s:=⟨z,H,I,rw',q⟩;exact qL0 (x:=w) pl.typeIs qK4.lookup
  (getItem_tuple (j:=j) (Q:=fun r s'=>r=w/\EP X pins σ Q r s') pl (by omega) (by omega) (by rw[qAh,<- hl];exact h1) (by simpa using ew) ⟨rfl,fin⟩) hs
def zbL:IxR X rIxS:=by
 intro value slice pins s σ H x y v u Q I rx ry h hs;obtain⟨z,i,c,rfl,rfl,hz,he,q⟩:=h;obtain⟨t,rfl⟩:=rx;obtain⟨t',rfl⟩:=ry;obtain⟨j,h1,h2,h3,h4,h5⟩:=zO8 he;have hl:z.cps.toList.length=z.length:=by simp[qM0]
 rw[hl]at h1 h4 h5;have hn:=zI3;exact tail_any (typeIs_str s z t) slot_str_getitem.lookup (getItem_str (c:=c) (by
  have e1:decide (i < -(2 ^ 63:Int))=false:=decide_eq_false (by omega);have e2:decide (i>=2 ^ 63)=false:=decide_eq_false (by omega);rw[e1,e2,qG7]) (by rw[h1];simpa using h2) ⟨.str ⟨#[c]⟩,H,I.tok _,⟨_,rfl⟩,q⟩) hs
def zQ4(its:List Value)(n j:Nat)(u:Value):qJc (·.setIfInBounds j u) { cls:=.type "list",data:=.seq its.toArray n }={ cls:=.type "list",data:=.seq (its.set j u).toArray n }:=by
 simp[qJc]
def Inv.lst{pins:List (Addr×Obj)}{σ:St}{H:Hp}{s:qIk}{p:Addr}{xs:List V}(I:Inv X pins σ H s)(h:H p=some (.lst xs)) :
  ∃(its:List Value)(n:Nat),Vals xs its/\s.heap.get? p=some { cls:=.type "list",data:=.seq its.toArray n }/\xs.length<=sizeLine:=by
 obtain⟨z,its,n,r,e⟩:=I.hok p _ h;exact⟨its,n,r,e,z⟩
def Inv.lstUpd{pins:List (Addr×Obj)}{σ:St}{H:Hp}{s:qIk}{p:Addr}{xs ys:List V}{its its':List Value}{n n':Nat}{f:Obj->Obj}(I:Inv X pins σ H s)(h:H p=some (.lst xs))
  (ho:s.heap.get? p=some { cls:=.type "list",data:=.seq its.toArray n }) (hf:f { cls:=.type "list",data:=.seq its.toArray n }={ cls:=.type "list",data:=.seq its'.toArray n' }) (r:Vals ys its') (hz:ys.length<=sizeLine) (t:Nat) :
  Inv X pins σ (upd H p (.lst ys)) { s with heap:=s.heap.update p f,toks:=t }:=by
 have e:(s.heap.update p f).get? p=some { cls:=.type "list",data:=.seq its'.toArray n' }:=by
  rw[qIp f ho (by rw[hf]<;>rfl),hf]
 refine I.write (x:=p) (e:=p) (by rw[h];trivial) (.inl rfl) (fun b u hb q=>(qIq _ _ (qC9 hb)).trans q) ⟨_,e⟩ ?_;exact⟨hz,its',n',r,e⟩
def zd6:V->V->V->Hp->(Hp->Prop)->Prop:=fun o i v H Q=>∃p xs k j,o=.ref p/\i=.int k/\H p=some (.lst xs)/\ixN xs.length k=some j/\Q (upd H p (.lst (xs.set j v)))
def zTW:PSet X zd6:=by
 intro pins s σ H o i v ov iv u Q I ro ri rv h;obtain⟨p,xs,k,j,rfl,rfl,hp,hj,q⟩:=h;cases ro;obtain⟨t,rfl⟩:=ri;obtain⟨its,n,r,ho,hz⟩:=I.lst hp;obtain⟨h1,h2,h3,h4⟩:=zNR hj;have hl:=r.length;have hn:=zI3;have I':Inv X pins σ (upd H p (.lst (xs.set j v))) { s with heap:=s.heap.update p (qJc (·.setIfInBounds j u)) }:=
  I.lstUpd hp ho (zQ4 its n j u) (r.set rv j) (by rw[qGy];exact hz) s.toks
 by_cases h0:0<=k
 ·have hk:k.toNat=j:=by
   rw[qMn h0 h4]at h1;exact qBg h1
  exact PySem.W.ki_setAt ho h0 (by omega) (by rw[qAh,<- hl];exact h4) (by rw[hk];exact⟨_,I',q⟩)
 ·have hk:(k+(its.toArray.size:Int)).toNat=j:=by
   rw[qMa (by omega) h3]at h1;rw[qAh,<- hl];exact qBg h1
  exact PySem.W.ki_setBack ho (by omega) (by rw[qAh,<- hl];exact h3) (by omega) (by rw[hk];exact⟨_,I',q⟩)
def zL6(lo hi:Option Int)(n:Nat):(sliceBounds lo hi none n).1=((HT.sIx n 0 lo:Nat):Int)/\(sliceBounds lo hi none n).2.1=((HT.sIx n n hi:Nat):Int)/\(sliceBounds lo hi none n).2.2=1:=by
 refine⟨?_,?_,rfl⟩
 ·cases lo with
  |none=>simp[sliceBounds,HT.sIx]
  |some i=>
   simp only[sliceBounds,HT.sIx,qGt,show(1:Int)>0 by decide,if_true]
   by_cases h:i<0
   ·simp only[h,if_true]<;>omega
   ·simp only[h,if_false]<;>omega
 ·cases hi with
  |none=>simp[sliceBounds,HT.sIx]
  |some i=>
   simp only[sliceBounds,HT.sIx,qGt,show(1:Int)>0 by decide,if_true]
   by_cases h:i<0
   ·simp only[h,if_true]<;>omega
   ·simp only[h,if_false]<;>omega
def zJS(its:List Value)(lo hi:Option Int):slicePick its.toArray lo hi none=((its.drop (HT.sIx its.length 0 lo)).take (HT.sIx its.length its.length hi-HT.sIx its.length 0 lo)).toArray:=by
 obtain⟨h1,h2,h3⟩:=zL6 lo hi its.toArray.size;unfold slicePick;rw[h1,h2,h3];simp only[sliceRange_one,pick_run,qAh]<;>rfl
def rSlL(K:qA0):V->Option Int->Option Int->Hp->VK->Prop:=fun x lo hi H Q=>∃a xs,x=.ref a/\SqL K H a xs/\∀p,H p=none->Q (.ref p) (upd H p (.lst (cutV xs lo hi)))
def zR6:SlR X (rSlL X.K):=by
 intro pins s σ H x v vl vu lo hi sl Q I rx hs pl pu h;obtain⟨a,xs,rfl,hx,q⟩:=h;cases rx;obtain⟨its,r,ht,hz⟩:=I.list hx;have hlen:=r.length;refine⟨"list",_,qLz.lookup,ht.isList.typeIs,?_⟩;refine wpAny_getItem_list_slice ht.isList hs pl pu .none (by simp) ?_ (by rw[qAh]<;>omega);rw[zJS,<- hlen];refine⟨.ref s.heap.objs.size,_,I.laid (t':=s.toks) (o:=.lst (cutV xs lo hi)) (fun b ob q=>qIj _ q) (qA5 _) ?_,rfl,q _ (I.hok.fresh (qA5 _))⟩;exact⟨qAt (zNY xs lo hi) hz,_,0,(r.drop (HT.sIx xs.length 0 lo)).take (HT.sIx xs.length xs.length hi-HT.sIx xs.length 0 lo),qIm _ rfl⟩
def zGM:V->Bool
 |.non=>true
 |.bl _=>true
 |.int _=>true
 |.str _=>true
 |_=>false
def eqV:V->V->Bool
 |.non,.non=>true
 |.bl a,.bl b=>a==b
 |.bl a,.int b=>(if a then 1 else 0)==b
 |.int a,.bl b=>a==(if b then 1 else 0)
 |.int a,.int b=>a==b
 |.str a,.str b=>a==b
 |_,_=>false
def zWW{A:qIr}{s:qIk}{y x:V}{u v:Value}(ry:RelV y u)(rx:RelV x v)(fy:zGM y=true)(fx:zGM x=true):qKi A s u v (eqV y x):=by
 cases y with
 |non=>
  cases ry;cases x with
  |non=>cases rx;exact qL5 _
  |bl b=>cases rx;exact SeqAt.EqAt.none_bool b
  |int b=>obtain⟨t,rfl⟩:=rx;exact SeqAt.EqAt.none_int b t
  |str b=>obtain⟨t,rfl⟩:=rx;exact SeqAt.EqAt.none_str b t
  |_=>exact absurd (show false=true from fx) qAj
 |bl a=>
  cases ry;cases x with
  |non=>cases rx;exact SeqAt.EqAt.bool_none a
  |bl b=>cases rx;exact SeqAt.EqAt.bool_bool a b
  |int b=>obtain⟨t,rfl⟩:=rx;exact SeqAt.EqAt.bool_int a b t
  |str b=>obtain⟨t,rfl⟩:=rx;exact SeqAt.EqAt.bool_str a b t
  |_=>exact absurd (show false=true from fx) qAj
 |int a=>
  obtain⟨t',rfl⟩:=ry;cases x with
  |non=>cases rx;exact SeqAt.EqAt.int_none a t'
  |bl b=>cases rx;exact SeqAt.EqAt.int_bool a t' b
  |int b=>obtain⟨t,rfl⟩:=rx;exact SeqAt.EqAt.int_int a t' b t
  |str b=>obtain⟨t,rfl⟩:=rx;exact qLn a t' b t
  |_=>exact absurd (show false=true from fx) qAj
 |str a=>
  obtain⟨t',rfl⟩:=ry;cases x with
  |non=>cases rx;exact SeqAt.EqAt.str_none a t'
  |bl b=>cases rx;exact SeqAt.EqAt.str_bool a t' b
  |int b=>obtain⟨t,rfl⟩:=rx;exact qLo a t' b t
  |str b=>obtain⟨t,rfl⟩:=rx;exact SeqAt.EqAt.str_str a t' b t
  |_=>exact absurd (show false=true from fx) qAj
 |_=>exact absurd (show false=true from fy) qAj
def eqU(x:V)(u:Value):Bool:=match u with
 |.none=>eqV .non x
 |.bool b=>eqV (.bl b) x
 |.int i _=>eqV (.int i) x
 |.str z _=>eqV (.str z) x
 |_=>false
def zWV{x y:V}{u:Value}(r:RelV y u)(f:zGM y=true):eqU x u=eqV y x:=by
 cases y with
 |non=>cases r;rfl
 |bl b=>cases r;rfl
 |int i=>obtain⟨t,rfl⟩:=r;rfl
 |str z=>obtain⟨t,rfl⟩:=r;rfl
 |_=>exact absurd (show false=true from f) qAj
def zIP{x:V}:∀{xs:List V}{us:List Value},Vals xs us->xs.all zGM=true->us.any (eqU x)=xs.any fun y=>eqV y x
 |_,_,.nil,_=>rfl
 |y::xs,u::us,.cons r t,f=>by
  rw[qF1,qBh]at f;rw[qEe,qEe,zWV r f.1,zIP t f.2]
def zG0{A:qIr}{s:qIk}{x:V}{v:Value}(rx:RelV x v)(fx:zGM x=true):∀{xs:List V}{us:List Value},Vals xs us->xs.all zGM=true->∀u∈us,qKi A s u v (eqU x u)
 |_,_,.nil,_=>fun u hu=>by cases hu
 |y::xs,u::us,.cons r t,f=>fun u' hu=>by
  rw[qF1,qBh]at f;rcases qAb.mp hu with rfl|hu
  ·rw[zWV r f.1];exact zWW r rx f.1 fx
  ·exact zG0 rx fx t f.2 u' hu
def inV(x:V)(xs:List V):Bool:=xs.any fun y=>eqV y x
def rIn(K:qA0)(neg:Bool):R2:=fun x y H Q=>∃p xs,y=.ref p/\(SqL K H p xs\/SqT K H p xs)/\zGM x=true/\xs.all zGM=true/\Q (.bl (if neg then !inV x xs else inV x xs)) H
def zRZ:OpR X (compareOp .In) (rIn X.K false):=by
 intro pins s σ H x y v u Q I rx ry h;obtain⟨p,xs,rfl,hq,fx,fs,q⟩:=h;cases ry;rcases hq with hq|hq
 ·obtain⟨its,r,pl,hz⟩:=I.list hq;refine SeqAt.in_listAt (eqU x) pl.isList (fun w hw=>zG0 rx fx r fs w (by simpa using hw)) ⟨.bl _,H,I,rfl,?_⟩;rw[show its.toArray.any (eqU x)=its.any (eqU x) by simp,zIP r fs];exact q
 ·obtain⟨its,r,pl,hz⟩:=I.tuple hq;refine SeqAt.in_tupleAt (eqU x) pl (fun w hw=>zG0 rx fx r fs w (by simpa using hw)) ⟨.bl _,H,I,rfl,?_⟩;rw[show its.toArray.any (eqU x)=its.any (eqU x) by simp,zIP r fs];exact q
def zLM:OpR X (compareOp .NotIn) (rIn X.K true):=by
 intro pins s σ H x y v u Q I rx ry h;obtain⟨p,xs,rfl,hq,fx,fs,q⟩:=h;cases ry;rcases hq with hq|hq
 ·obtain⟨its,r,pl,hz⟩:=I.list hq;refine SeqAt.notIn_listAt (eqU x) pl.isList (fun w hw=>zG0 rx fx r fs w (by simpa using hw)) ⟨.bl _,H,I,rfl,?_⟩;rw[show its.toArray.any (eqU x)=its.any (eqU x) by simp,zIP r fs];exact q
 ·obtain⟨its,r,pl,hz⟩:=I.tuple hq;refine SeqAt.notIn_tupleAt (eqU x) pl (fun w hw=>zG0 rx fx r fs w (by simpa using hw)) ⟨.bl _,H,I,rfl,?_⟩;rw[show its.toArray.any (eqU x)=its.any (eqU x) by simp,zIP r fs];exact q
def zLL:OpR X (compareOp .NotIn) (fun x y H Q=>∃i j,x=.str i/\y=.str j/\Q (.bl (!(!(qJb j i 0 j.length 1).isEmpty))) H):=by
 intro pins s σ H x y v u Q I rx ry h;obtain⟨i,j,rfl,rfl,q⟩:=h;obtain⟨t,rfl⟩:=rx;obtain⟨t',rfl⟩:=ry;exact notIn_str ⟨.bl _,H,I,rfl,q⟩
def zMO:zDI X (.builtin "len") (fun xs H Q=>∃p ys,xs=[.ref p]/\(SqL X.K H p ys\/SqT X.K H p ys)/\Q (.int ys.length) H):=by
 intro pins s σ H xs us Q I r h;obtain⟨p,ys,rfl,hq,q⟩:=h;obtain⟨u,rfl,rx⟩:=zE0 r;cases rx;have hn:=zI3;rcases hq with hq|hq
 ·obtain⟨its,r',pl,hz⟩:=I.list hq;have hlen:=r'.length;exact Calls.call_len_list pl.isList (by simp only[qAh]<;>omega) ⟨.int ys.length,H,I.tok _,⟨s.toks+1,by rw[qAh,hlen]⟩,q⟩
 ·obtain⟨its,r',pl,hz⟩:=I.tuple hq;have hlen:=r'.length;exact len_tuple pl (by simp only[qAh]<;>omega) ⟨.int ys.length,H,I.tok _,⟨s.toks+1,by rw[qAh,hlen]⟩,q⟩
def zMN:zDI X (.builtin "len") (fun xs H Q=>∃z,xs=[.str z]/\z.length<=sizeLine/\Q (.int z.length) H):=by
 intro pins s σ H xs us Q I r h;obtain⟨z,rfl,hz,q⟩:=h;obtain⟨u,rfl,t,rfl⟩:=zE0 r;have hn:=zI3;exact len_str (by omega) ⟨.int z.length,H,I.tok _,⟨_,rfl⟩,q⟩
def zMM:zDI X (.type "list") (fun xs H Q=>∃p ys,xs=[.ref p]/\(SqL X.K H p ys\/SqT X.K H p ys)/\∀l,H l=none->Q (.ref l) (upd H l (.lst ys))):=by
 intro pins s σ H xs us Q I r h;obtain⟨p,ys,rfl,hq,q⟩:=h;obtain⟨u,rfl,rx⟩:=zE0 r;cases rx;have fin:∀(its:List Value),Vals ys its->ys.length<=sizeLine->∀(h':Heap)(c':Nat),(∀b o',s.heap.get? b=some o'->h'.get? b=some o') ->
   h'.get? s.heap.objs.size=some { cls:=.type "list",dict:=none,data:=.seq its.toArray c',slots:=#[] }->EP X pins σ Q (.ref s.heap.objs.size) { s with heap:=h' }:=fun its r' hz h' c' kp e=>
  ⟨.ref s.heap.objs.size,_,I.laid (t':=s.toks) kp (qA5 _) (show ObjOk X.prog X.w _ h' _ (.lst ys) from⟨hz,its,c',r',e⟩),rfl,q _ (I.hok.fresh (qA5 _))⟩
 rcases hq with hq|hq
 ·obtain⟨its,r',pl,hz⟩:=I.list hq;have hlen:=r'.length;obtain⟨o,ho,hc,n,hd⟩:=pl.isList;exact call_list_seq p (.inl rfl) ho hc hd (fun h' c' kp e=>fin its r' hz h' c' kp e) (by simp only[qAh]<;>omega)
 ·obtain⟨its,r',pl,hz⟩:=I.tuple hq;have hlen:=r'.length;obtain⟨o,ho,hc,n,hd⟩:=pl;exact call_list_seq p (.inr rfl) ho hc hd (fun h' c' kp e=>fin its r' hz h' c' kp e) (by simp only[qAh]<;>omega)
def tyV(K:qA0)(T:String)(x:V)(H:Hp):Prop:=match x with
 |.str _=>T = "str"
 |.int _=>T = "int"
 |.ref p=>(T = "list"/\∃xs,SqL K H p xs)\/(T = "tuple"/\∃o,K.lookup p=some o/\o.cls=.type "tuple"/\o.dict=none) \/
   (T = "dict"/\((∃kvs,H p=some (.dK kvs))\/∃kvs,H p=some (.dT kvs)))\/(T = "set"/\∃S n,H p=some (.set S n))
 |_=>False
def zVY{pins:List (Addr×Obj)}{σ:St}{H:Hp}{s:qIk}{T:String}{x:V}{v:Value}(I:Inv X pins σ H s)(r:RelV x v)(ty:tyV X.K T x H) :
  s.TypeIs v T/\∀a,v=.ref a->∃ob,s.heap.get? a=some ob/\ob.dict=none:=by
 cases x with
 |str z=>
  obtain⟨t,rfl⟩:=r;cases(show T = "str" from ty)
  exact⟨typeIs_str s z t,fun _ e=>nomatch e⟩
 |int i=>
  obtain⟨t,rfl⟩:=r;cases(show T = "int" from ty)
  exact⟨typeIs_int s i t,fun _ e=>nomatch e⟩
 |ref p=>
  cases r;rcases ty with⟨rfl,xs,hq⟩|⟨rfl,o,hk,hc,hd⟩|⟨rfl,hk⟩|⟨rfl,S,n,hk⟩
  ·obtain⟨its,_,pl,_⟩:=I.list hq;refine⟨pl.isList.typeIs,fun a e=>?_⟩;cases e;obtain⟨o,n,e,c,hd,_⟩:=pl;exact⟨o,e,hd⟩
  ·refine⟨⟨o,I.kIn p o hk,hc⟩,fun a e=>?_⟩;cases e;exact⟨o,I.kIn _ o hk,hd⟩
  ·have z:∃o,s.heap.get? p=some o/\o.ExactDict:=by
    rcases hk with⟨kvs,hk⟩|⟨kvs,hk⟩
    ·obtain⟨_,_,_,_,o,_,_,e,ex,_⟩:=I.hok p _ hk;exact⟨o,e,ex⟩
    ·obtain⟨_,_,_,_,o,_,_,e,ex,_⟩:=I.hok p _ hk;exact⟨o,e,ex⟩
   obtain⟨o,e,ex⟩:=z;refine⟨⟨o,e,ex.1⟩,fun a e2=>?_⟩;cases e2;exact⟨o,e,ex.2.1⟩
  ·obtain⟨o,_,_,_,e,ex,_⟩:=I.hok p _ hk;refine⟨⟨o,e,ex.1⟩,fun a e2=>?_⟩;cases e2;exact⟨o,e,ex.2.1⟩
 |_=>exact qA4 ty
def tBM(K:qA0)(T:String)(r:V->List V->Hp->VK->Prop)(to:TE)(t:TA):TE:=fun σ H Q=>to σ H fun x H1=>tyV K T x H1/\t σ H1 fun xs H2=>r x xs H2 Q
variable{o e:Expr}{es:List Expr}{to:TE}{t:TA}{name:Str}{apos cpos:Pos}{T id:String}{r:V->List V->Hp->VK->Prop}
def zRV(pa:PlainAttrs T)(slot:Slot T name id)(hty:typeOf (.builtin id)=pure (.type "method_descriptor"))(hm:MtR X id r)(ho:PE X o to)(ha:PA X (e::es) t)
  (hbase:qKg o name X.env (eval o X.env)=eval o X.env:=by rfl)
  (hfew:((backTo cpos (starEach (e::es) X.env)).all (fun x=>!x.1)&&(backToKw cpos (keywordEach [] X.env)).all (fun x=>x.1.isSome)
   && decide ((e::es).length+([]:List qLy).length+(if([]:List qLy).isEmpty then 0 else 1)<30))=true:=by rfl)
  (hline:(apos.endLine==cpos.line)=true:=by rfl) (hs:starEach (e::es) X.env=(false,eval e X.env)::starEach es X.env:=by rfl) (hplain:(backTo cpos (starEach es X.env)).any (·.1)=false:=by rfl) :
  PE X (.Call (.Attribute o name apos) (e::es) [] cpos) (tBM X.K T r to t):=by
 intro pins s σ H Q I h;refine qL1 hbase hfew hline rfl (thn (ho pins s σ H _ I h) fun v s1 z0=>?_);obtain⟨x,H1,I1,r1,ty,q1⟩:=z0;obtain⟨h1,h2⟩:=zVY I1 r1 ty;refine⟨T,id,pa,slot,hty,h1,h2,?_⟩;have hA:=ha cpos pins s1 σ H1 _ I1 q1;rw[hs]at hA ⊢;refine qL2 (by show(false||(backTo cpos (starEach es X.env)).any (·.1))=false;rw[hplain]<;>rfl) (qLd ?_);exact thn hA fun us s2 ⟨vs,H2,I2,r2,q2⟩=>hm pins s2 σ H2 x vs v us Q I2 r1 r2 q2
end
def MtM(X:Cx)(id:String)(r:V->List V->Hp->VK->Prop):Prop:=
 ∀(pins:List (Addr×Obj))(s:qIk)(σ:St)(H:Hp)(x:V)(xs:List V)(v:Value)(us:List Value)(Q:VK),Inv X pins σ H s->RelV x v->Vals xs us->r x xs H Q ->
  wpAny (model X.prog X.w) X.A (call (.builtin id) (v::us)) (EP X pins σ Q) X.xe s
def Vals.one:∀{x:V}{us:List Value},Vals [x] us->∃u,us=[u]/\RelV x u
 |_,_,.cons r .nil=>⟨_,rfl,r⟩
def Vals.zero:∀{us:List Value},Vals [] us->us=[]
 |_,.nil=>rfl
def Vals.dropLast{xs:List V}{us:List Value}(h:Vals xs us):Vals xs.dropLast us.dropLast:=by
 induction h with
 |nil=>exact .nil
 |cons r t ih=>
  cases t with
  |nil=>exact .nil
  |cons q t'=>exact .cons r ih
def Vals.eraseIdx:∀{xs:List V}{us:List Value}(i:Nat),Vals xs us->Vals (xs.eraseIdx i) (us.eraseIdx i)
 |_,_,_,.nil=>.nil
 |_,_,0,.cons _ t=>t
 |_,_,i+1,.cons r t=>.cons r (Vals.eraseIdx i t)
def Vals.rep{xs:List V}{us:List Value}(h:Vals xs us):∀k:Nat,Vals (qA7 k xs).flatten (qA7 k us).flatten
 |0=>.nil
 |k+1=>by
  rw[qBa,qBa,qCm,qCm];exact Vals.append h (Vals.rep h k)
def zQF{α:Type}(l:List α):l.eraseIdx (l.length-1)=l.dropLast:=by
 induction l with
 |nil=>rfl
 |cons a r ih=>
  cases r with
  |nil=>rfl
  |cons b r=>
   have e:(a::b::r).length-1=((b::r).length-1)+1:=by
    have h1:(a::b::r).length=r.length+2:=rfl;have h2:(b::r).length=r.length+1:=rfl;omega
   rw[e,qD0,ih]
   all_goals rfl
def zI6{α:Type}:∀(l:List α)(i:Nat),(l.eraseIdx i).length<=l.length
 |[],_=>qA5 _
 |_::_,0=>qBm _
 |_::r,i+1=>Nat.succ_le_succ (zI6 r i)
def zMA(its:List Value):∀(k:Nat)(acc:List Value),
  qHv (fun x1 x2=>x1++x2) acc.toArray (qA7 k its.toArray)=(acc++(qA7 k its).flatten).toArray
 |0,acc=>by simp
 |k+1,acc=>by
  have e:acc.toArray++its.toArray=(acc++its).toArray:=by simp
  have e2:(acc++its)++(qA7 k its).flatten=acc++(qA7 (k+1) its).flatten:=by
   rw[qBa,qCm,qB3]
  rw[<- e2,<- zMA its k (acc++its),<- e,qBa,List.foldl_cons]
section
variable{X:Cx}{pins:List (Addr×Obj)}{σ:St}{H:Hp}{s:qIk}{l:Addr}{xs ys:List V}
def Inv.lset{its its':List Value}{n:Nat}{f:Array Value->Array Value}{t':Nat}(I:Inv X pins σ H s)(hH:H l=some (.lst xs))
  (e:s.heap.get? l=some { cls:=.type "list",data:=.seq its.toArray n }) (hf:f its.toArray=its'.toArray) (hv:Vals ys its') (hz:ys.length<=sizeLine) :
  Inv X pins σ (upd H l (.lst ys)) { s with heap:=s.heap.update l (qJc f),toks:=t' }:=by
 have q:=PySem.IsL.update e f;rw[hf]at q;refine I.write (x:=l) (e:=l) (by rw[hH];exact trivial) (.inl rfl) (fun b' u hb hu=>(qIq s.heap (qJc f) (qC9 hb)).trans hu) ⟨_,q⟩ ?_;exact⟨hz,its',_,hv,q⟩
def Inv.lnew{its:List Value}{t':Nat}(I:Inv X pins σ H s)(hv:Vals ys its)(hz:ys.length<=sizeLine) :
  Inv X pins σ (upd H s.heap.objs.size (.lst ys)) { s with heap:=s.heap.push { cls:=.type "list",data:=.seq its.toArray },toks:=t' }:=
 I.laid (fun _ _ q=>qIj _ q) (qA5 _) ⟨hz,its,0,hv,qIm _ rfl⟩
def Inv.fresh(I:Inv X pins σ H s):H s.heap.objs.size=none:=I.hok.fresh (qA5 _)
def Inv.lstM(I:Inv X pins σ H s)(hH:H l=some (.lst xs)):xs.length<=sizeLine/\∃(its:List Value)(n:Nat),Vals xs its/\xs.length=its.length/\s.heap.get? l=some { cls:=.type "list",data:=.seq its.toArray n }:=by
 obtain⟨z,its,n,r,e⟩:=I.hok l _ hH;exact⟨z,its,n,r,r.length,e⟩
def zUK{n:Nat}(h:n<=sizeLine):qK1 n=false:=by
 unfold qK1;exact decide_eq_false (by omega)
end
section
variable{X:Cx}
def zY1:V->List V->Hp->VK->Prop:=fun x vs H Q=>∃l xs y,x=.ref l/\vs=[y]/\H l=some (.lst xs)/\xs.length<sizeLine/\Q .non (upd H l (.lst (xs++[y])))
def zS5:MtM X "list.append" zY1:=by
 intro pins s σ H x vs v us Q I rx rv h;obtain⟨l,xs,y,rfl,rfl,hH,hz,q⟩:=h;cases rx;obtain⟨u,rfl,ru⟩:=rv.one;obtain⟨z,its,n,r,hl,e⟩:=I.lstM hH;refine call_meets F.slot_list_append ⟨_,e,rfl⟩ F.entry_list_append (F.args_list_append_2 _ _) (PySem.list_append l its.toArray n u (by rw[qAh];omega)) ⟨e,?_⟩;refine⟨.non,_,I.lset (its':=its++[u]) hH e (by simp) (r.append (.cons ru .nil)) ?_,rfl,q⟩;rw[qAs,qFj];omega
def rPop:V->List V->Hp->VK->Prop:=fun x vs H Q=>∃l xs y,x=.ref l/\vs=[]/\H l=some (.lst xs)/\xs[xs.length-1]?=some y/\Q y (upd H l (.lst xs.dropLast))
def zb9:MtM X "list.pop" rPop:=by
 intro pins s σ H x vs v us Q I rx rv h;obtain⟨l,xs,y,rfl,rfl,hH,hy,q⟩:=h;cases rx;have hus:=rv.zero;subst hus;obtain⟨z,its,n,r,hl,e⟩:=I.lstM hH;obtain⟨u,hu,ru⟩:=r.get hy;have hy':its.toArray[its.toArray.size-1]?=some u:=by
  show its.toArray[its.length-1]?=some u;rw[<- qBe,<- hl];exact hu
 refine call_meets qMo ⟨_,e,rfl⟩ qMf (F.args_list_pop_1 _) (MeetsSeq.list_pop_last l its.toArray n u hy' (by rw[qAh];omega)) ⟨e,?_⟩;refine⟨y,_,I.lset (its':=its.dropLast) hH e ?_ r.dropLast ?_,ru,q⟩
 ·show its.toArray.eraseIdxIfInBounds (its.toArray.size-1)=its.dropLast.toArray;rw[qAh,qE0,zQF]
 ·rw[List.length_dropLast];omega
def zaD:V->List V->Hp->VK->Prop:=fun x vs H Q=>∃l xs i k y,x=.ref l/\vs=[.int i]/\H l=some (.lst xs)/\-(2 ^ 63)<=i/\i<2 ^ 63/\qMm i xs.length=some k/\xs[k]?=some y/\Q y (upd H l (.lst (xs.eraseIdx k)))
def zUN:MtM X "list.pop" zaD:=by
 intro pins s σ H x vs v us Q I rx rv h;obtain⟨l,xs,i,k,y,rfl,rfl,hH,h1,h2,hk,hy,q⟩:=h;cases rx;obtain⟨u,rfl,ru⟩:=rv.one;obtain⟨t,rfl⟩:=ru;obtain⟨z,its,n,r,hl,e⟩:=I.lstM hH;obtain⟨w,hw,rw'⟩:=r.get hy;refine call_meets qMo ⟨_,e,rfl⟩ qMf (F.args_list_pop_2 _ _)
  (MeetsSeq.list_pop_at l its.toArray n i t k w (fitsIndex_both h1 h2) (by rw[qAh,<- hl];exact hk) (by rw[<- qBe];exact hw) (by rw[qAh];omega)) ⟨e,?_⟩
 refine⟨y,_,I.lset (its':=its.eraseIdx k) hH e ?_ (r.eraseIdx k) ?_,rw',q⟩
 ·show its.toArray.eraseIdxIfInBounds k=(its.eraseIdx k).toArray;rw[qE0]
 ·have:=zI6 xs k
  omega
def rCat:R2:=fun x y H Q=>∃l b xs zs,x=.ref l/\y=.ref b/\H l=some (.lst xs)/\H b=some (.lst zs)/\xs.length+zs.length<=sizeLine/\∀p,H p=none->Q (.ref p) (upd H p (.lst (xs++zs)))
def zb3:OpR X (binaryOp .Add) rCat:=by
 intro pins s σ H x y v u Q I rx ry h;obtain⟨l,b,xs,zs,rfl,rfl,hH,hB,hz,q⟩:=h;cases rx;cases ry;obtain⟨z,its,n,r,hl,e⟩:=I.lstM hH;obtain⟨z2,its2,n2,r2,hl2,e2⟩:=I.lstM hB;refine PySem.P.add_list e e2 ?_ (by rw[qAh,qAh];omega);have ea:its.toArray++its2.toArray=(its++its2).toArray:=by simp
 rw[ea];exact⟨.ref _,_,I.lnew (t':=s.toks) (r.append r2) (by rw[qAs];omega),rfl,q _ I.fresh⟩
def rRep:R2:=fun x y H Q=>∃l k xs,x=.ref l/\y=.int k/\H l=some (.lst xs)/\-(2 ^ 63)<=k/\k<2 ^ 63/\xs.length*k.toNat<=sizeLine /\
 ∀p,H p=none->Q (.ref p) (upd H p (.lst (qA7 k.toNat xs).flatten))
def zYJ{α:Type}(xs:List α)(k:Nat):(qA7 k xs).flatten.length=k*xs.length:=by
 induction k with
 |zero=>simp
 |succ k ih=>rw[qBa,qCm,qAs,ih,Nat.succ_mul,Nat.add_comm]
def zaY:OpR X (binaryOp .Mult) rRep:=by
 intro pins s σ H x y v u Q I rx ry h;obtain⟨l,k,xs,rfl,rfl,hH,h1,h2,hz,q⟩:=h;cases rx;obtain⟨t,rfl⟩:=ry;obtain⟨z,its,n,r,hl,e⟩:=I.lstM hH;have hlen:its.toArray.size*k.toNat<=sizeLine:=by rw[qAh,<- hl];exact hz
 have hcap:¬its.toArray.size*k.toNat>(2 ^ 63-1)/8:=by
  have:(sizeLine:Nat)<=(2 ^ 63-1)/8:=by decide
  omega
 have hfit:¬(!Builtin.List.listFitsIndex k)=true:=by
  rw[fitsIndex_both h1 h2];exact qAj
 have hlong:¬qK1 (its.toArray.size*k.toNat)=true:=by
  rw[zUK hlen];exact qAj
 have hnew:qHv (fun x1 x2=>x1++x2) #[] (qA7 (if its.toArray.isEmpty=true then 0 else k.toNat) its.toArray)=(qA7 k.toNat its).flatten.toArray:=by
  have f0:∀m:Nat,qHv (fun x1 x2=>x1++x2) #[] (qA7 m its.toArray)=(qA7 m its).flatten.toArray:=fun m=>by
   have:=zMA its m [];rw[qDs]at this;exact this
  rw[f0];cases its with
  |nil=>simp
  |cons a r'=>rw[if_neg (by simp)]
 refine wpAny_binaryOp_repeat_ref (T:="list") (U:="int") (by decide) ⟨_,e,rfl⟩ (fun s'=>typeIs_int s' k t) noFill_list_mul F.fills_int_mul qMp repeat_list F.slot_int_index.lookup
  (call_meets qMp (typeIs_int s k t) F.entry_int_rmul (F.args_int_rmul_2 _ _) (int___rmul___int_list k t l its.toArray n)
   ⟨e,rfl,⟨_,e,rfl⟩,call_meets F.slot_list_mul ⟨_,e,rfl⟩ F.entry_list_mul (F.args_list_mul_2 _ _) (AutoListH.list___mul___list_int_3 l its.toArray n k t hfit hcap hlong) ⟨e,?_⟩⟩)
 rw[hnew];exact⟨.ref _,_,I.lnew (t':=s.toks) (r.rep k.toNat) (by rw[zYJ,Nat.mul_comm];exact hz),rfl,q _ I.fresh⟩
end
section
end
section
end
section
variable{κ:Type}[DecidableEq κ]
def zc0(kvs:List (κ×V))(k:κ):List (κ×V):=kvs.filter fun kv=>decide (kv.1≠k)
def KV.drop{kvs:List (κ×V)}{vs:List (κ×Value)}(r:KV kvs vs)(k:κ):KV (zc0 kvs k) (without vs k):=by
 unfold KV at r ⊢;unfold zc0 without;induction r with
 |nil=>exact .nil
 |@cons p q ps qs h t ih=>
  obtain⟨h1,h2⟩:=h;rw[qGu,qGu];by_cases e:p.1=k
  ·have a:¬decide (p.1≠k)=true:=by simp[e]
   have b:¬decide (q.1≠k)=true:=by simp[h1.symm.trans e]
   rw[if_neg a,if_neg b];exact ih
  ·have e':¬q.1=k:=fun z=>e (h1.trans z)
   have a:decide (p.1≠k)=true:=by simp[e]
   have b:decide (q.1≠k)=true:=by simp[e']
   rw[if_pos a,if_pos b];exact .cons ⟨h1,h2⟩ ih
end
section
end
section
end
section
end
section
end
section
end
structure M1(X:Cx)(o:Expr)(m:Str)(apos:Pos)(e:Expr)(cpos:Pos):Prop where
 base:qKg o m X.env (eval o X.env)=eval o X.env
 few:((backTo cpos (starEach [e] X.env)).all (fun x=>!x.1)&&(backToKw cpos (keywordEach [] X.env)).all (fun x=>x.1.isSome)
  && decide (([e]:List Expr).length+([]:List qLy).length+(if([]:List qLy).isEmpty then 0 else 1)<30))=true
 line:(apos.endLine==cpos.line)=true
 trees:backTo cpos (starEach [e] X.env)=[(false,eval e X.env)]
section
end
section
end
section
end
section
end
end L2
namespace Att
open PySem PySem.W PySem.Calls PyProof.Rows
def zIA{P:qN3}{h:Heap}:∀(ns:List Int)(vs:List Value),WellAll P h vs (ns.map qMq)->qL6 vs ns:=by
 intro ns;induction ns with
 |nil=>
  intro vs w;rw[qI0]at w;cases w;exact .nil
 |cons n ns ih=>
  intro vs w;rw[qAm]at w;cases w with
  |cons a b=>
   cases a;exact .cons _ _ (ih _ b)
def zRB{l:OpenLaw}{n:Nat}(hn:l.most=some n){P:qN3}{h:Heap}{args:List WData}{vals:List Value}
  (hpre:l.row.toRowW.claim.pre args=true) (hwl:WellAll P h vals args) :
  ∃a vs ns,vals=[qIs a]/\args=[WData.list (ns.map qMq)]/\h.get? a=some { cls:=.type "list",data:=.seq vs.toArray }/\qL6 vs ns/\ns.length<=n:=by
 have hsh:WShape.hasAll [] args [.list .int]=true:=(pre_splitW hpre).1;have hc:l.pre.holds [] { args:=args }=true:=(pre_splitW hpre).2;obtain⟨d,r,rfl,h1,h2⟩:=hasAllW_cons hsh;obtain rfl:=hasAllW_nil h2;obtain⟨xs,rfl,h3⟩:=hasW_list h1;obtain⟨ns,rfl⟩:=items_int h3;have hlen:ns.length<=n:=by
  unfold OpenLaw.pre at hc;have h4:(WTm.not (.lt (.lit (.int (n:Int))) (.len (.arg 0)))).holds [] { args:=[.list (ns.map .int)] }=true:=by
   have h4:=(holds_andW hc).1;rw[hn]at h4;exact h4
  have h5:=condW_of h4 (w_not (w_lt w_lit (w_len_list (w_arg rfl))));rw[qAg]at h5;refine Nat.le_of_not_lt fun q=>?_
  have q':(n:Int)<((ns.length:Nat):Int):=by omega
  first
   |(rw[decide_eq_true q']at h5;exact absurd h5 (by decide))
   |(simp at h5;omega)
 cases hwl with
 |cons w1 w2=>
  cases w2;cases w1 with
  |list ho hall=>exact⟨_,_,ns,rfl,rfl,ho,zIA ns _ hall,hlen⟩
def zRK(l:OpenLaw)(args:List WData):l.row.toRowW.claim.post args (.bool true) args=true:=
 postW_of (r:=l.row.toRowW) (X:=(true==true))
  (show qNm [] (.bool true) .bool=true by first|rfl|decide|simp[qNm,WShape.arms,WShape.armsAll])
  (show(WTm.eq .res (.lit (.bool true))).value [] { args:=args,res:=some (.bool true),after:=args }=some (.bool (true==true)) from w_eq_bool (w_res rfl) w_lit) rfl
section
end
end Att
namespace L2
open PySem PySem.Spec PyProof.Rows
def zL1:∀{vs:List Value}{ns:List Int},qL6 vs ns->Vals (ns.map V.int) vs
 |_,_,.nil=>.nil
 |_,_,.cons n t h=>.cons ⟨t,rfl⟩ (zL1 h)
def zB9(s:Stmt):Arguments:=match s with
 |.FunctionDef _ a _ _ _ _ _ _ _ _=>a
 |_=>{ posonlyargs:=[],args:=[],vararg:=none,kwonlyargs:=[],kw_defaults:=[],kwarg:=none,defaults:=[] }
def zAQ(s:Stmt):List Stmt:=match s with
 |.FunctionDef _ _ b _ _ _ _ _ _ _=>b
 |_=>[]
def zA6(s:Stmt):Scope:=match s with
 |.FunctionDef _ _ _ _ _ _ sc _ _ _=>sc
 |_=>{ kind:=.function,names:=[],isGenerator:=false,isCoroutine:=false }
abbrev CX0:CXT:=fun _ _ _ _ _ _=>False
abbrev E0:XK:=fun _ _ _=>False
def zd7{X:Cx}:zH0 CX0 X E0:=fun _ _ _ _ _ _ _ h=>h.elim
structure Fun(K:qA0)(x qual:Str)(st:Stmt)(f:Addr)(fd:qJ0):Prop where
 ex:∃(oc:Value)(od:Option Addr)(kV doc pm:Value)(an:Option Addr)(cdv ct:Value)(osl:Array (Option Value)),
  fd=qAx x qual (zB9 st) (zAQ st) (zA6 st) .none kV doc pm an cdv ct/\K.lookup f=some ⟨oc,od,.func fd,osl⟩/\qB4 K cdv qual=true
 kp:qAk K (.ref f)=true
section
variable{P:qIo}{w:World}{K:qA0}{mg:Str->Option Value}{base:Heap}
def Fun.ok{x qual:Str}{st:Stmt}{f:Addr}{fd:qJ0}{N ps:List Str}{k:Nat}{sp:Sp}(F:Fun K x qual st f fd)(S:FnScope N ps (zA6 st))(len:∀vs H Q E,sp vs H Q E->vs.length=ps.length)
  (hbody:∀(cdv:Value)(A:qIr)(outer:List Env)(s:qIk)(H:Hp)(vs:List V)(Q:VK)(E:XK),Room k (A.deeper (envOfC qual (zA6 st) s.heap.objs.size f cdv))->sp vs H Q E ->
   ∃t,PSs (cxOf CX0 P w K mg base N qual (zA6 st) f cdv A outer s H E).nox (zAQ st) t/\t { nx:=fun _ H'=>Q .non H',rt:=Q } (start N vs) H):FnOk P w K mg base CX0 (k+1) f fd ps sp:=by
 obtain⟨oc,od,kV,doc,pm,an,cdv,ct,osl,rfl,lk,hcd⟩:=F.ex;refine zYY lk hcd S len fun A outer s H vs Q E hr hsp=>?_
 obtain⟨t,h,q⟩:=hbody cdv A outer s H vs Q E hr hsp;exact⟨t,h.nox,q⟩
def Fun.binds{x qual:Str}{st:Stmt}{f:Addr}{fd:qJ0}{ps:List Str}(F:Fun K x qual st f fd)
  (h:∀(kV doc pm:Value)(an:Option Addr)(cdv ct:Value)(us:List Value),us.length=ps.length->bindArgs (qAx x qual (zB9 st) (zAQ st) (zA6 st) .none kV doc pm an cdv ct) ⟨us,[]⟩=pure (ps.zip us)):Binds K fd ps []:=by
 obtain⟨oc,od,kV,doc,pm,an,cdv,ct,osl,rfl,lk,hcd⟩:=F.ex;exact .all (h kV doc pm an cdv ct)
def zD5{x qual:Str}{st:Stmt}{f:Addr}{oc:Value}{od an:Option Addr}{osl:Array (Option Value)}{kV doc pm cdv ct:Value}(l:K.lookup f=some ⟨oc,od,.func (qAx x qual (zB9 st) (zAQ st) (zA6 st) .none kV doc pm an cdv ct),osl⟩)
  (c:qB4 K cdv qual=true) (k:qAk K (.ref f)=true):Fun K x qual st f (qAx x qual (zB9 st) (zAQ st) (zA6 st) .none kV doc pm an cdv ct):=⟨⟨oc,od,kV,doc,pm,an,cdv,ct,osl,rfl,l,c⟩,k⟩
end
section
variable{X:Cx}
def pv(i:Nat){x:Str}{pos:Pos}(hN:X.N[i]?=some x:=by rfl)(hv:Vis X.env.scope x:=by first|exact qHw rfl|exact qG8 (qHw rfl)|exact qG8 (qG8 rfl))(hd:(x==("__debug__":Str))=false:=by decide)
  (hcd:(x==("__classdict__":Str))=false:=by decide):PE X (.Name x pos) (tVar i):=zRO hN hv hd hcd
end
def Same(H H':Hp):Prop:=∀b o,H b=some o->H' b=some o
def Same.refl(H:Hp):Same H H:=fun _ _ h=>h
def Same.trans{H H1 H2:Hp}(a:Same H H1)(b:Same H1 H2):Same H H2:=fun c o h=>b c o (a c o h)
def Same.free{H H':Hp}(e:Same H H'){l:Addr}(h:H' l=qFy):H l=qFy:=by
 cases q:H l with
 |none=>rfl
 |some o=>
  rw[e l o q]at h;cases h
def Same.seq{K:qA0}{H H':Hp}{a:Addr}{xs:List V}(e:Same H H')(h:SqL K H a xs):SqL K H' a xs:=by
 rcases h with(h|⟨o,h⟩)|h
 ·exact .inl (.inl (e _ _ h))
 ·exact .inl (.inr ⟨o,e _ _ h⟩)
 ·exact .inr h
section
variable[DecidableEq κ]
end
def asN{a b:Nat}(h:a<b):a<b:=h
def asL{a b:Nat}(h:a<=b):a<=b:=h
def asE{a b:Nat}(h:a=b):a=b:=h
def clos(cells:List (Str×Addr)):List (Str×qJr)->List (Str×Addr)->List (Str×Addr)
 |[],acc=>acc
 |(n,k)::r,acc=>if k==.free then clos cells r ((n,(cells.lookup n).getD 0)::acc)else clos cells r acc
def zEY(cells:List (Str×Addr)):∀(names:List (Str×qJr))(acc:List (Str×Addr)),clos cells names acc=clos cells names []++acc
 |[],_=>rfl
 |(n,k)::r,acc=>by
  unfold clos;split
  ·rw[zEY cells r (_::acc),zEY cells r [_],qB3];rfl
  ·exact zEY cells r acc
def zHF{cells:List (Str×Addr)}{x:Str}{c:Addr}:∀{names:List (Str×qJr)},(x,c)∈clos cells names []->(x,qIt)∈names/\c=(cells.lookup x).getD 0
 |[],h=>by simp[clos]at h
 |(n,k)::r,h=>by
  unfold clos at h;split at h
  ·rename_i hk
   rw[zEY]at h;rcases qBt.mp h with h|h
   ·obtain⟨h1,h2⟩:=zHF h;exact⟨qAp _ h1,h2⟩
   ·have e:=qCt.mp h
    injection e with e1 e2
    subst e1;have hk':k=.free:=by simpa using hk
    subst hk';exact⟨qAw,e2⟩
  ·obtain⟨h1,h2⟩:=zHF h;exact⟨qAp _ h1,h2⟩
def zKP{cells:List (Str×Addr)}{x:Str}:∀{names:List (Str×qJr)},(x,qIt)∈names->(x,(cells.lookup x).getD 0)∈clos cells names []
 |[],h=>by simp at h
 |(n,k)::r,h=>by
  unfold clos;rcases qAb.mp h with e|h
  ·injection e with e1 e2
   subst e1;subst e2;rw[if_pos (by rfl),zEY];exact qB1 _ (by simp)
  ·split
   ·rw[zEY];exact qDi _ (zKP h)
   ·exact zKP h
def zCC:∀(names:List (Str×qJr))(n:Nat)(acc:List (Str×Addr)),cellsFrom n names acc=cellsFrom n names []++acc
 |[],_,_=>rfl
 |(x,k)::r,n,acc=>by
  unfold cellsFrom;split
  ·rw[zCC r (n+1) (_::acc),zCC r (n+1) [_],qB3];rfl
  ·exact zCC r n acc
def zDB{x:Str}{c:Addr}:∀{names:List (Str×qJr)}{n:Nat},(x,c)∈cellsFrom n names []->(x,qJf)∈names
 |[],_,h=>by simp[cellsFrom]at h
 |(y,k)::r,n,h=>by
  unfold cellsFrom at h;split at h
  ·rename_i hk
   rw[zCC]at h;rcases qBt.mp h with h|h
   ·exact qAp _ (zDB h)
   ·have e:=qCt.mp h
    injection e with e1 e2
    subst e1;have hk':k=.cell:=by simpa using hk
    subst hk';exact qAw
  ·exact qAp _ (zDB h)
def zCS{α:Type}{x:Str}{a:α}:∀{l:List (Str×α)},(l.map (·.1)).Nodup->(x,a)∈l->l.lookup x=some a
 |[],_,h=>by simp at h
 |(y,b)::r,nd,h=>by
  have nd':(y::r.map (·.1)).Nodup:=nd;obtain⟨h1,h2⟩:=qCo.mp nd';rcases qAb.mp h with e|hm
  ·injection e with e1 e2
   subst e1;subst e2;rw[qAy,beq_self_eq_true]
  ·have hne:(x==y)=false:=by
    rw[beq_eq_false_iff_ne]
    rintro rfl
    exact h1 (qBq.mpr ⟨(x,a),hm,rfl⟩)
   rw[qAy,hne];exact zCS h2 hm
def zF1{α:Type}{x:Str}:∀{l:List (Str×α)},(∀a,(x,a)∉l)->l.lookup x=none
 |[],_=>rfl
 |(y,b)::r,h=>by
  have hne:(x==y)=false:=by
   rw[beq_eq_false_iff_ne]
   rintro rfl
   exact h b qAw
  rw[qAy,hne];exact zF1 fun a m=>h a (qAp _ m)
def zF0{α:Type}{x:Str}{a:α}:∀{l:List (Str×α)},(x,a)∈l->∃b,l.lookup x=some b
 |[],h=>by simp at h
 |(y,b)::r,h=>by
  rw[qAy];cases e:x==y with
  |true=>exact⟨b,rfl⟩
  |false=>
   rcases qAb.mp h with q|q
   ·injection q with q1 _
    subst q1;rw[beq_self_eq_true]at e;cases e
   ·exact zF0 q
def zJ9{α:Type}{x:Str}:∀(l k:List (Str×α)),(l++k).lookup x=(l.lookup x).or (k.lookup x)
 |[],k=>by simp
 |(y,b)::r,k=>by
  show qB7 x ((y,b)::(r++k))=_;rw[qAy,qAy];cases x==y with
  |true=>rfl
  |false=>exact zJ9 r k
def zcL(sc:Scope)(env:Env):Prop:=∀x,(x,qIt)∈sc.names->env.kindOf x=some .cell\/env.kindOf x=some .free
def zG8{sc:Scope}{env:Env}(h:∀x,(x,qIt)∈sc.names->∃c,env.cells.lookup x=some c):qM1 sc env=pure (clos env.cells sc.names []):=by
 have go:∀(names:List (Str×qJr))(acc:List (Str×Addr)),(∀x,(x,qIt)∈names->∃c,env.cells.lookup x=some c) ->
   (forIn names acc fun(x:Str×qJr)(cs:List (Str×Addr))=>(match x with|(name,kind)=>if(kind==qIt)=true then(do let c <- cellOf env name;pure (qD9 ((name,c)::cs)))else pure (qD9 cs):Sem (ForInStep (List (Str×Addr)))))=pure (clos env.cells names acc):=by
  intro names;induction names with
  |nil=>intro acc _;rfl
  |cons p r ih=>
   intro acc hn;obtain⟨n,k⟩:=p;have hr:∀x,(x,qIt)∈r->∃c,env.cells.lookup x=some c:=fun x hx=>hn x (qAp _ hx)
   rw[qFk];unfold clos;by_cases hk:(k==qIt)=true
   ·have hk':k=.free:=by simpa using hk
    subst hk';obtain⟨c,hc⟩:=hn n qAw;have e:cellOf env n=pure c:=by unfold cellOf;rw[hc]
    rw[if_pos (by rfl)];simp only[if_pos (show(qIt==qIt)=true from rfl),e,hc,qF6,pure_bind];exact ih _ hr
   ·rw[if_neg hk];simp only[if_neg hk,pure_bind];exact ih _ hr
 unfold qM1;have q:=go sc.names [] h
 first
  |(rw[show(forIn sc.names ([]:List (Str×Addr)) _:Sem (List (Str×Addr)))=_ from q];rfl)
  |(refine(congrArg (fun z=>z >>= pure) q).trans ?_;rfl)
  |(simp only[q];rfl)
  |exact q
def zEX(sc:Scope)(C:Addr)(env:Env):Env:=
 { scope:=relabel sc env,locals:=C,globals:=env.globals,cells:=cellsFrom (C+1) sc.names (clos env.cells sc.names []),qual:=env.qual,func:=none,code:=env.code,frame:=env.frame,builtins:=env.builtins }
def zFJ{M:Model}{A:qIr}{E:Value->qIk->Prop}{s:qIk}{sc:Scope}{env:Env}{cl:List (Str×Addr)}{Q:Env->qIk->Prop}
  (hQ:Q { scope:=sc,locals:=s.heap.objs.size,globals:=env.globals,cells:=cellsFrom (s.heap.objs.size+1) sc.names cl,qual:=env.qual,func:=none,code:=env.code,frame:=env.frame,builtins:=env.builtins }
   { s with heap:=pushCells (s.heap.push { cls:=.type "dict",data:=.dict #[] }) sc.names }) :
  wpAny M A (newFunctionEnv sc env.globals cl [] env.qual none .none (some env)) Q E s:=by
 simp only[newFunctionEnv,Option.isSome_some,if_true];refine wpAny_bind (wpAny_alloc ?_);refine wpAny_bind (wpAny_layCells _ (fun name kind cells=>by cases hkc:kind==qJf<;>simp[hkc]) _ _ _ _ ?_);rw[show({ s with heap:=s.heap.push { cls:=.type "dict",data:=.dict #[] } }:qIk).heap.objs.size=s.heap.objs.size+1 from qIv ..];refine wpAny_bind ?_;rw[List.forIn_nil];exact wpAny_pure (wpAny_pure hQ)
def zDY(X:Cx)(N':List Str)(sc:Scope)(C:Addr)(s:qIk)(H:Hp)(fp:List Addr):Cx:=
 { X with N:=N',s₀:=s,H₀:=H,env:=zEX sc C X.env,outer:=X.stack,stack:=X.stack,ex:=fp,fn:=fun x=>sc.names.lookup x==some .cell,pn:=[],xe:=fun _ _=>False }
def PTs(X:Cx)(ifs:List Expr)(t:TT):Prop:=
 ∀(pins:List (Addr×Obj))(s:qIk)(σ:St)(H:Hp)(Q:Bool->Hp->Prop),Inv X pins σ H s->t σ H Q ->
  wpAny (model X.prog X.w) X.A (forIn ifs true fun c r=>if r=true then do let ok <- isTrue c X.env (eval c X.env);pure (qD9 ok)else pure (qD9 r)) (TP X pins σ Q) X.xe s
def tYes:TT:=fun _ H Q=>Q true H
def zCR{X:Cx}:PTs X [] tYes:=fun _ _ _ H _ I h=>wpAny_tests_nil ⟨H,I,h⟩
def zK1{X:Cx}{c:Expr}{t:TT}(h:PT X c t):PTs X [c] t:=fun pins s σ H Q I q=>wpAny_tests_one (h pins s σ H Q I q)
structure CompNames(N N':List Str)(k:Nat)(sc:Scope)(env:Env):Prop where
 kind:sc.kind=.function
 nd:(sc.names.map (·.1)).Nodup
 len:N'.length=N.length+k
 old:∀(i:Nat)(x:Str),N'[i]?=some x->i<N.length->(x,qIt)∈sc.names/\N[i]?=some x\/sc.names.lookup x=none
 free:zcL sc env
def zCE{sc:Scope}{env:Env}{x:Str}{k:qJr}:∀{names:List (Str×qJr)},
  (names.map fun(n,k)=>if(k==qIt&&env.scope.kind==.function&&env.kindOf n==some .cell)then(n,qJf)else(n,k)).lookup x=some k ->
  names.lookup x=some k\/(names.lookup x=some .free/\k=.cell)
 |[],h=>by simp at h
 |(n,j)::r,h=>by
  have ih:=@zCE sc env x k r;rw[qAm]at h;rw[qAy];by_cases hc:(j==qIt&&env.scope.kind==.function&&env.kindOf n==some .cell)=true
  ·have h':qB7 x ((n,qJf)::(r.map fun(n,k)=>if(k==qIt&&env.scope.kind==.function&&env.kindOf n==some .cell)then(n,qJf)else(n,k)))=some k:=by
    rw[<- h];simp only[if_pos hc]
   rw[qAy]at h';cases e:x==n with
   |true=>
    rw[e]at h';have hk:k=.cell:=(qBg h').symm;have hj:j=.free:=by
     simp only[qBh,beq_iff_eq]at hc;exact hc.1.1
    subst hj;exact .inr ⟨rfl,hk⟩
   |false=>
    rw[e]at h';exact ih h'
  ·have h':qB7 x ((n,j)::(r.map fun(n,k)=>if(k==qIt&&env.scope.kind==.function&&env.kindOf n==some .cell)then(n,qJf)else(n,k)))=some k:=by
    rw[<- h];simp only[if_neg hc]
   rw[qAy]at h';cases e:x==n with
   |true=>rw[e]at h';exact .inl h'
   |false=>rw[e]at h';exact ih h'
section
variable{X:Cx}{N':List Str}{k:Nat}{sc:Scope}{pins:List (Addr×Obj)}{σ:St}{H:Hp}{s:qIk}
def zQH{C:Addr}{x:Str}{c:Addr}(nd:(sc.names.map (·.1)).Nodup)(h:(zEX sc C X.env).cells.lookup x=some c) :
  ((x,c)∈cellsFrom (C+1) sc.names []/\(x,qJf)∈sc.names)\/((x,qIt)∈sc.names/\c=(X.env.cells.lookup x).getD 0):=by
 have m:=mem_of_lookup h;have m':(x,c)∈cellsFrom (C+1) sc.names (clos X.env.cells sc.names []):=m;rw[zCC]at m';rcases qBt.mp m' with z|z
 ·exact .inl ⟨z,zDB z⟩
 ·exact .inr (zHF z)
def zF4{C:Addr}{x:Str}(nd:(sc.names.map (·.1)).Nodup)(h:(x,qIt)∈sc.names):(zEX sc C X.env).cells.lookup x=some ((X.env.cells.lookup x).getD 0):=by
 show(cellsFrom (C+1) sc.names (clos X.env.cells sc.names [])).lookup x=_;rw[zCC,zJ9,zF1 (fun a m=>?_),Option.none_or]
 ·obtain⟨b,hb⟩:=zF0 (zKP (cells:=X.env.cells) h)
  have:=(zHF (mem_of_lookup hb)).2;rw[hb,this]
 ·have e1:=zCS nd (zDB m);rw[zCS nd h]at e1;cases e1
def zV0(I:Inv X pins σ H s)(hc:X.calm=true)(S:CompNames X.N N' k sc X.env){fp:List Addr}(hf:∀b∈fp,FpOk X pins H b)(hfo:∀b∈fp,∃o,s.heap.get? b=some o)
  {s4:qIk} {D C:Addr} (eD:D=s.heap.objs.size) (eC:C=s.heap.objs.size+1)
  (e4:s4={ s with heap:=pushCells ((s.heap.push { cls:=.type "list",data:=.seq #[] 0 }).push { cls:=.type "dict",data:=.dict #[] }) sc.names }) :
  Inv (zDY X N' sc C s H fp) [(D,{ cls:=.type "list",data:=.seq #[] 0 })] (σ++qA7 k none) H s4/\∀b∈fp,FpOk (zDY X N' sc C s H fp) [(D,{ cls:=.type "list",data:=.seq #[] 0 })] H b:=by
 subst eD eC e4;generalize hh1:s.heap.push { cls:=.type "list",data:=.seq #[] 0 }=h1;generalize hh2:h1.push { cls:=.type "dict",data:=.dict #[] }=h2;have sz1:h1.objs.size=s.heap.objs.size+1:=by rw[<- hh1];exact qIv ..
 have sz2:h2.objs.size=s.heap.objs.size+2:=by rw[<- hh2,qIv,sz1]
 have k1:∀b o,s.heap.get? b=some o->h1.get? b=some o:=fun b o e=>by rw[<- hh1];exact qIj _ e
 have k2:∀b o,h1.get? b=some o->h2.get? b=some o:=fun b o e=>by rw[<- hh2];exact qIj _ e
 have k3:∀b o,h2.get? b=some o->(pushCells h2 sc.names).get? b=some o:=pushCells_keeps sc.names h2;have kk:∀b o,s.heap.get? b=some o->(pushCells h2 sc.names).get? b=some o:=fun b o e=>k3 b o (k2 b o (k1 b o e))
 have own:CellsOk (pushCells h2 sc.names) h2.objs.size (cellsFrom h2.objs.size sc.names []):=cellsFrom_ok sc.names h2 h2.objs.size [] ⟨fun _ _ hm=>(nomatch hm),qGj⟩ (qA5 _);have eC1:s.heap.objs.size+1+1=h2.objs.size:=by rw[sz2]
 have freeCell:∀x,(x,qIt)∈sc.names->∃c,X.env.cells.lookup x=some c:=fun x hx=>I.ok.has x (S.free x hx)
 have cells:∀x c,(zEX sc (s.heap.objs.size+1) X.env).cells.lookup x=some c ->
   ((x,c)∈cellsFrom h2.objs.size sc.names []/\(x,qJf)∈sc.names/\(pushCells h2 sc.names).IsCell c none/\h2.objs.size<=c)\/((x,qIt)∈sc.names/\X.env.cells.lookup x=some c):=fun x c e=>by
  rcases zQH S.nd e with⟨m,q⟩|⟨m,q⟩
  ·rw[eC1]at m;exact .inl ⟨m,q,(own.empty x c m).1,(own.empty x c m).2⟩
  ·obtain⟨c',hc'⟩:=freeCell x m;rw[hc',qF6]at q;subst q;exact .inr ⟨m,hc'⟩
 have old:∀x c,X.env.cells.lookup x=some c->c<s.heap.objs.size:=fun x c e=>by
  obtain⟨v,q⟩:=I.cell x c e;exact q.lt
 have fpl:∀b∈fp,b<s.heap.objs.size:=fun b hb=>by
  obtain⟨o,e⟩:=hfo b hb;exact qIl e
 have hCn:H (s.heap.objs.size+1)=none:=I.hok.fresh (qBm _);have hDn:H s.heap.objs.size=none:=I.hok.fresh (qA5 _);have nofs:∀a,s.heap.objs.size<=a->a∉frs X.stack:=fun a ha hb=>by
  rcases qAb.mp (I.stkSub a hb)with e|hb
  ·have t1:=asN I.lt;have t2:=asE e;have t3:=asL ha
   lia
  ·exact I.nofs ha hb
 have fin:∀b∈fp,b∉frs X.stack:=fun b hb z=>by
  obtain⟨f0,f1,f2,f3,f4,f5⟩:=hf b hb;rcases qAb.mp (I.stkSub b z)with e|z
  ·exact f1 e
  ·exact f2 z
 have ok:(zDY X N' sc (s.heap.objs.size+1) s H fp).Ok:=by
  refine⟨I.ok.mod,S.kind,I.ok.glob,I.ok.blt,qBm _,?_,?_,?_,I.ok.hd,I.ok.frames,.inl rfl,?_,I.bs,qAt I.ok.bsz I.sz,?_,fin,I.stack,I.stkFree⟩
  ·intro x y c hx hy
   rcases cells x c hx with⟨m1,_,_,g1⟩|⟨m1,g1⟩<;>rcases cells y c hy with⟨m2,_,_,g2⟩|⟨m2,g2⟩
   ·exact name_of_addr own.apart m1 m2
   ·exact absurd (qAi (old y c g2) (qAt (by rw[sz2];exact qF7 _ _) g1)) (qBy _)
   ·exact absurd (qAi (old x c g1) (qAt (by rw[sz2];exact qF7 _ _) g2)) (qBy _)
   ·exact I.ok.inj x y c g1 g2
  ·intro x hx;have hx:(relabel sc X.env).names.lookup x=some .cell\/(relabel sc X.env).names.lookup x=some .free:=hx;have two:sc.names.lookup x=some .cell\/sc.names.lookup x=some .free:=by
    rcases hx with hx|hx
    ·rcases zCE (sc:=sc) hx with q|⟨q,_⟩
     ·exact .inl q
     ·exact .inr q
    ·rcases zCE (sc:=sc) hx with q|⟨_,q⟩
     ·exact .inr q
     ·cases q
   rcases two with q|q
   ·have:=qDz sc.names (s.heap.objs.size+1+1) (clos X.env.cells sc.names []) (.inl q)
    exact qEw.mp this
   ·exact⟨_,zF4 S.nd (mem_of_lookup q)⟩
  ·intro x c hx e;have hx:(sc.names.lookup x==some qJf)=true:=hx;have hx':sc.names.lookup x=some .cell:=by simpa using hx
   rcases cells x c e with⟨_,_,_,g⟩|⟨m,_⟩
   ·show s.heap.objs.size<=c
    lia
   ·rw[zCS S.nd m]at hx';cases hx'
  ·intro b hb;refine⟨?_,fun x c e z=>?_⟩
   ·exact qAl (qBk (fpl b hb))
   ·rcases cells x c e with⟨_,_,_,g⟩|⟨_,g⟩
    ·have t1:=asN (fpl b hb);have t2:=asL g;have t3:=asE z
     lia
    ·exact(hf b hb).2.2.2.2.1 x c g z
  ·intro b o e hb
   rcases(hf b hb).2.2.2.1 with z|z
   ·exact I.ok.noex b o e z
   ·exact absurd (qAi (qIl e) (qAt I.ok.bsz z)) (qBy _)
 have ns:(pushCells h2 sc.names).Ns (s.heap.objs.size+1) fun _=>none:=by
  have q:h2.Ns h1.objs.size fun _=>none:=by rw[<- hh2];exact Heap.Ns.new h1 (.type "dict")
  rw[sz1]at q;exact q.keeps k3
 have hD1:h1.get? s.heap.objs.size=some { cls:=.type "list",data:=.seq #[] 0 }:=by rw[<- hh1];exact qIm _ rfl
 refine⟨⟨ok,rfl,I.bare,Un.kept kk,⟨_,ns,?_⟩,?_,hCn,?_,?_,I.hok.kept kk,?_⟩,?_⟩
 ·intro i x v h1 h2 h3;have hi:i<X.N.length:=by
   rw[<- I.len];by_cases hi:i<σ.length
   ·exact hi
   ·rw[qAc (by lia),qCf]at h2
    split at h2<;>cases h2
  have h2':σ[i]?=some (some v):=by
   rw[qAf (by rw[I.len];exact hi)]at h2;exact h2
  have h1:N'[i]?=some x:=h1;rcases S.old i x h1 hi with⟨m,e⟩|e
  ·obtain⟨mm,hn,hl⟩:=I.loc;have hv:Vis X.env.scope x:=(S.free x m).elim (fun z=>.inr (.inl z)) fun z=>.inr (.inr z)
   obtain⟨u,r,l⟩:=hl i x v e h2' hv;refine⟨u,r,?_⟩;rcases l with⟨z,_⟩|⟨_,c,hc,hcell⟩
   ·rcases S.free x m with z'|z'<;>rw[z]at z'<;>cases z'
   ·refine .inr ⟨?_,c,?_,hcell.keeps kk⟩
    ·have hv3:(relabel sc X.env).names.lookup x=some .local\/(relabel sc X.env).names.lookup x=some .cell\/(relabel sc X.env).names.lookup x=some .free:=h3
     rcases hv3 with q|q|q
     ·rcases zCE (sc:=sc) q with q|⟨_,q⟩
      ·rw[zCS S.nd m]at q;cases q
      ·cases q
     ·exact .inl q
     ·exact .inr q
    ·have q:=zF4 (X:=X) (C:=s.heap.objs.size+1) S.nd m;rw[hc,qF6]at q;exact q
  ·exfalso
   have hv3:(relabel sc X.env).names.lookup x=some .local\/(relabel sc X.env).names.lookup x=some .cell\/(relabel sc X.env).names.lookup x=some .free:=h3;rcases hv3 with q|q|q<;>rcases zCE (sc:=sc) q with q|⟨q,_⟩<;>rw[e]at q<;>cases q
 ·intro x c e
  rcases cells x c e with⟨_,_,g,_⟩|⟨_,g⟩
  ·exact⟨_,g⟩
  ·obtain⟨v,q⟩:=I.cell x c g;exact⟨v,q.keeps kk⟩
 ·intro x c e
  rcases cells x c e with⟨_,_,_,g⟩|⟨_,g⟩
  ·exact I.hok.fresh (by lia)
  ·exact I.freeC x c g
 ·intro p hp;have hp':p=(s.heap.objs.size,{ cls:=.type "list",data:=.seq #[] 0 }):=by
   have:p∈([]++[(s.heap.objs.size,({ cls:=.type "list",data:=.seq #[] 0 }:Obj))]:List (Addr×Obj)):=hp;simpa using this
  subst hp';refine⟨k3 _ _ (k2 _ _ hD1),hDn,?_,nofs _ (qA5 _),fun v z=>by cases z⟩;show s.heap.objs.size≠s.heap.objs.size+1
  lia
 ·show(σ++qA7 k none).length=N'.length
  rw[qAs,qD8,I.len,S.len]
 ·intro b hb;obtain⟨f0,f1,f2,f3,f4,f5⟩:=hf b hb;refine⟨f0,(ok.exf b hb).1,fin b hb,.inl hb,fun x c e=>(ok.exf b hb).2 x c e,fun p hp=>?_⟩;have hp':p=(s.heap.objs.size,{ cls:=.type "list",data:=.seq #[] 0 }):=by
   have:p∈([]++[(s.heap.objs.size,({ cls:=.type "list",data:=.seq #[] 0 }:Obj))]:List (Addr×Obj)):=hp;simpa using this
  subst hp';exact qBx (fpl b hb)
end
def zEZ{prog:qIo}{w:World}{A:qIr}{R:qLq->qIk->Prop}{s:qIk}{elt target iter:Expr}{ifs:List Expr}{scope:Scope}{pos:Pos}{it acc:Value}{env:Env}(I:Nat->qIk->Prop)
  (turn:∀n s,I n s->wpAny (model prog w) A (pyNext it) (fun r s₁=>match r with
   |none=>R (.ok .next) s₁
   |some v=>wpAny (model prog w) A (letOwnedTupleGo target it v) (fun _ s₂'=>wpAny (model prog w) A (assign target env v) (fun _ s₂=>
     wpAny (model prog w) A (forIn ifs true fun c r=>if r=true then do let ok <- isTrue c env (eval c env);pure (qD9 ok)else pure (qD9 r)) (fun ok s₃=>
      if ok=true then wpAny (model prog w) A (eval elt env) (fun x s₄=>
       wpAny (model prog w) A (call (.builtin "list.append") [acc,x]) (fun _ s₅=>∃m,m<n/\I m s₅) (fun _ _=>False) s₄) (fun _ _=>False) s₃
      else ∃m,m<n/\I m s₃) (fun _ _=>False) s₂) (fun _ _=>False) s₂') (fun _ _=>False) s₁) (fun _ _=>False) s)
  (n:Nat) (h:I n s) :
  qJn (model prog w) A (.compLoop (.ListComp elt [⟨target,iter,ifs,0⟩] scope pos) 0 it acc env) R s:=by
 refine codeAny_loop rfl I (fun n s hI=>?_) n h;show wpAny _ A ((compTurn (.ListComp elt [⟨target,iter,ifs,0⟩] scope pos) 0 it acc env).onRaise (fun x=>do noteFrame x env;theTreesLotGoes x)) _ _ s;refine wpAny_noted ?_;rw[compTurn_list];refine wpAny_bind (wpAny_standAt (wpAny_bind (wpAny_mono (turn n s hI) (fun r s₁ h₁=>?_) fun _ _ z=>z.elim)));cases r with
 |none=>exact wpAny_pure h₁
 |some v=>
  refine wpAny_bind (wpAny_mono h₁ (fun _ s₂' h₂'=>?_) fun _ _ z=>z.elim);refine wpAny_bind (wpAny_mono h₂' (fun _ s₂ h₂=>wpAny_bind (wpAny_mono h₂ (fun ok s₃ h₃=>?_) fun _ _ z=>z.elim)) fun _ _ z=>z.elim);cases ok with
  |false=>exact wpAny_pure ⟨rfl,h₃⟩
  |true=>
   exact wpAny_bind (wpAny_bind (wpAny_mono h₃ (fun x s₄ h₄=>wpAny_bind (wpAny_mono h₄ (fun _ s₅ h₅=>wpAny_pure (wpAny_pure ⟨rfl,h₅⟩)) fun _ _ z=>z.elim)) fun _ _ z=>z.elim))
def zW0(k:Nat)(g:TG)(tif:TT)(te:TE)(σ:St)(Q:VK)(J:It)(H1:Hp):Prop:=∃W:Nat->Nat->List V->Hp->Prop,(∃m,W 0 m [] H1)/\∀i m acc H,W i m acc H ->
 (J.stop i H/\∀D,H D=none->Q (.ref D) (upd H D (.lst acc))) \/
 (J.go i H/\acc.length<sizeLine/\∃N:List V->Hp->Prop,(∀acc' H',N acc' H'->∃m',m'<m/\W (i+1) m' acc' H')/\∀x H',J.yld i H x H'->g x (σ++qA7 k none) H' fun σ2 H2=>∃own:St,own.length=k/\σ2=σ++own/\tif σ2 H2 fun b H3=>if b=true then te σ2 H3 fun v H4=>N (acc++[v]) H4 else N acc H3)
def zXN(wi:TI)(k:Nat)(g:TG)(tif:TT)(te:TE):TE:=fun σ H Q=>wi σ H (zW0 k g tif te σ Q)
def HOk.track{P:qIo}{w:World}{H:Hp}{h:Heap}{a:Addr}{o:HO}(x:HOk P w H h)(hn:H a=none)(new:ObjOk P w (upd H a o) h a o):HOk P w (upd H a o) h:=fun b u e=>by
 by_cases hb:b=a
 ·subst hb;rw[zA8]at e;cases e;exact new
 ·rw[zA5 hb]at e;exact(x b u e).stay (fun c v _ q=>q) (fun c q=>by rw[zA5 (zAI q hn)];exact q) (fun c xs q=>by rw[zA5 (zAI q hn)];exact q) fun c _ _ q _=>by rw[zA5 (zAI q hn)];exact q
section
variable{X:Cx}{N':List Str}{k:Nat}{sc:Scope}{tg iter elt:Expr}{ifs:List Expr}{wi:TI}{g:TG}{tif:TT}{te:TE}{pos:Pos}
def zJH{pins:List (Addr×Obj)}{σ:St}{H2:Hp}{s2:qIk}{Q:VK}{RR:Value->Addr->qLq->qIk->Prop}{E:Value->qIk->Prop}(hc:X.calm=true)(S:CompNames X.N N' k sc X.env)
  (hg:∀C s H fp,PG (zDY X N' sc C s H fp) tg g) (hif:∀C s H fp,PTs (zDY X N' sc C s H fp) ifs tif) (he:∀C s H fp,PE (zDY X N' sc C s H fp) elt te)
  {it:Addr} {fp:List Addr} {tn:Nat->Heap->Prop} {J:It} (I2:Inv X pins σ H2 s2) (T:Turn X.prog X.w X.K tg J fp it tn) (st2:tn 0 s2.heap) (f2:∀b∈fp,FpOk X pins H2 b)
  {W:Nat->Nat->List V->Hp->Prop} {m0:Nat} (w0:W 0 m0 [] H2)
  (turn:∀i m acc H,W i m acc H->(J.stop i H/\∀D,H D=none->Q (.ref D) (upd H D (.lst acc))) \/
   (J.go i H/\acc.length<sizeLine/\∃N:List V->Hp->Prop,(∀acc' H',N acc' H'->∃m',m'<m/\W (i+1) m' acc' H')/\∀x H',J.yld i H x H'->g x (σ++qA7 k none) H' fun σ2 H2=>∃own:St,own.length=k/\σ2=σ++own/\tif σ2 H2 fun b H3=>if b=true then te σ2 H3 fun v H4=>N (acc++[v]) H4 else N acc H3))
  (hRR:∀D C s' H',D<C->s2.heap.objs.size<=D->(∃m,s'.heap.Ns C m)->H' C=none->C∉frs X.stack->Inv X pins σ H' s'->Q (.ref D) H'->RR (.ref D) C (.ok .next) s') :
  wpAny (model X.prog X.w) X.A (newList []) (fun acc s₃=>wpAny (model X.prog X.w) X.A (newFunctionEnv sc X.env.globals (clos X.env.cells sc.names []) [] X.env.qual none .none (some X.env)) (fun cenv s₄=>
   qJn (model X.prog X.w) X.A (.compStart (.ListComp elt [⟨tg,iter,ifs,0⟩] sc pos) 0 (.ref it) acc { cenv with scope:=relabel sc X.env }) (RR acc cenv.locals) s₄) E s₃) E s2:=by
 refine wpAny_newObj_type (zFJ ?_);show qJn _ _ (.compStart _ 0 (.ref it) (.ref s2.heap.objs.size) _) _ _;have szp:(s2.heap.push { cls:=.type "list",dict:=none,data:=.seq ([]:List Value).toArray }).objs.size=s2.heap.objs.size+1:=qIv ..;obtain⟨I4,F4⟩:=zV0 (s4:={ s2 with heap:=pushCells ((s2.heap.push { cls:=.type "list",data:=.seq #[] 0 }).push { cls:=.type "dict",data:=.dict #[] }) sc.names }) I2 hc S f2 (fun b hb=>let⟨o,e,_⟩:=T.obj 0 _ st2 b hb;⟨o,e⟩) rfl rfl rfl
 generalize hC:(s2.heap.push { cls:=.type "list",dict:=none,data:=.seq ([]:List Value).toArray }).objs.size=C at *;have eC:C=s2.heap.objs.size+1:=szp;rw[<- eC]at I4 F4;generalize hs4:({ s2 with heap:=pushCells ((s2.heap.push { cls:=.type "list",data:=.seq #[] 0 }).push { cls:=.type "dict",data:=.dict #[] }) sc.names }:qIk)=s4 at I4 F4
 have kk:∀b o,s2.heap.get? b=some o->s4.heap.get? b=some o:=fun b o e=>by
  rw[<- hs4];exact pushCells_keeps sc.names _ b o (qIj _ (qIj _ e))
 have st4:tn 0 s4.heap:=T.keep 0 _ _ st2 fun b _ o e=>kk b o e
 generalize hX':zDY X N' sc C s2 H2 fp=X' at I4 F4;have henv:X'.env=zEX sc C X.env:=by rw[<- hX'];rfl
 have xprog:X'.prog=X.prog:=by rw[<- hX'];rfl
 have xw:X'.w=X.w:=by rw[<- hX'];rfl
 have xK:X'.K=X.K:=by rw[<- hX'];rfl
 have xcalm:X'.calm=true:=by rw[<- hX'];exact hc
 have xA:X'.A=X.A:=by rw[<- hX'];rfl
 have xpn:X'.pn=[]:=by rw[<- hX'];rfl
 have xxe:X'.xe=fun _ _=>False:=by rw[<- hX'];rfl
 have xs0:X'.s₀=s2:=by rw[<- hX'];rfl
 have xH0:X'.H₀=H2:=by rw[<- hX'];rfl
 have xfs:X'.fs=frs X.stack:=by rw[<- hX'];rfl
 have xex:X'.ex=fp:=by rw[<- hX'];rfl
 have hgX:PG X' tg g:=by rw[<- hX'];exact hg C s2 H2 fp
 have hifX:PTs X' ifs tif:=by rw[<- hX'];exact hif C s2 H2 fp
 have heX:PE X' elt te:=by rw[<- hX'];exact he C s2 H2 fp
 have locC:X'.env.locals=C:=by rw[henv];rfl
 generalize hDd:s2.heap.objs.size=D at *;have loop:qJn (model X.prog X.w) X.A (.compLoop (.ListComp elt [⟨tg,iter,ifs,0⟩] sc pos) 0 (.ref it) (.ref D) (zEX sc C X.env)) (RR (.ref D) C) s4:=by
  refine zEZ (fun n s'=>∃i H' acc its nn,Inv X' [] (σ++qA7 k none) H' s'/\tn i s'.heap/\(∀b∈fp,H' b=none)/\H' D=none/\W i n acc H'/\acc.length<=sizeLine/\Vals acc its/\s'.heap.get? D=some { cls:=.type "list",data:=.seq its.toArray nn }) ?_ m0 ?_
  ·rintro n s5 ⟨i,H5,acc,its,nn,I5,st5,fr5,hD5,w5,hz5,rv5,hL5⟩
   have hDlt:D<C:=by rw[eC];exact qBw _
   have pinD:Inv X' [(D,{ cls:=.type "list",data:=.seq its.toArray nn })] (σ++qA7 k none) H5 s5:=I5.pins_of fun p hp=>by
    have hp':p=(D,{ cls:=.type "list",data:=.seq its.toArray nn }):=by simpa using hp
    subst hp';refine⟨hL5,hD5,?_,?_,fun v z=>by cases z⟩
    ·rw[locC];exact qAl hDlt
    ·have q:=(I4.pin (D,{ cls:=.type "list",data:=.seq #[] 0 }) (by simp)).2.2.2.1;exact q
   have fpD:∀{H':Hp}{oo:Obj},(∀b∈fp,H' b=none)->∀b∈fp,FpOk X' [(D,oo)] H' b:=fun{H' oo} hn b hb=>by
    obtain⟨f0,f1,f2,f3,f4,f5⟩:=F4 b hb;refine⟨hn b hb,f1,f2,f3,f4,fun p hp=>?_⟩;have hp':p=(D,oo):=by
     rw[xpn]at hp;simpa using hp
    subst hp';exact f5 (D,{ cls:=.type "list",data:=.seq #[] 0 }) (by simp)
   rcases turn i n acc H5 w5 with⟨stop,q⟩|⟨go,hlt,N,hN,step⟩
   ·have dn:=T.done X' xprog xw xK xcalm i _ s5 _ H5 (fun _ _=>False) pinD (fpD fr5) st5 stop;rw[xA]at dn;refine thn dn fun r s6 z0=>?_
    obtain⟨hr,I6⟩:=z0;subst hr;show RR (.ref D) C (.ok .next) s6;have hL6:=(I6.pin (D,{ cls:=.type "list",data:=.seq its.toArray nn }) (by simp)).1;have un6:Un (frs X.stack) fp H2 H5 s2.heap s6.heap:=by
     have:=I6.base;rw[xs0,xH0,xfs,xex]at this;exact this
    have hok6:HOk X.prog X.w H5 s6.heap:=by
     have:=I6.hok;rw[xprog,xw]at this;exact this
    have hDno:s2.heap.get? D=none:=qJa (by rw[hDd];exact qA5 _);have un7:Un (frs X.stack) fp H2 (upd H5 D (.lst acc)) s2.heap s6.heap:=
     ⟨un6.keep,un6.slot,fun b o e n hx=>by
       have hb:b≠D:=by rintro rfl;rw[hDno]at e;cases e
       rw[zA5 hb];exact un6.free b o e n hx,un6.there,
      fun b xs e=>by
       have e':=un6.tups b xs e;rw[zA5 (zAI e' hD5)];exact e',
      fun b o u e=>by
       have e':=un6.frzs b o u e;rw[zA5 (zAI e' hD5)];exact e',
      fun b ps e=>by
       obtain⟨more,e'⟩:=un6.tbls b ps e;exact⟨more,by rw[zA5 (zAI e' hD5)];exact e'⟩⟩
    have hok7:HOk X.prog X.w (upd H5 D (.lst acc)) s6.heap:=hok6.track hD5 ⟨hz5,its,nn,rv5,hL6⟩;have os6:s6.os=s2.os:=by have:=I6.os;rw[xs0]at this;exact this
    have I7:Inv X pins σ (upd H5 D (.lst acc)) s6:=I2.call' os6 un7 hok7 I6.bare fun b hb=>by
     obtain⟨f0,f1,f2,f3,f4,f5⟩:=f2 b hb;exact⟨f3,f1,f4,f5⟩
    obtain⟨mm,hn,_⟩:=I6.loc;rw[locC]at hn;have hC5:H5 C=none:=by have:=I6.free;rw[locC]at this;exact this
    refine hRR D C s6 (upd H5 D (.lst acc)) hDlt (qA5 _) ⟨mm,hn⟩ ?_ ?_ I7 (q D hD5)
    ·rw[zA5 (qBx hDlt)];exact hC5
    ·intro hb
     rcases qAb.mp (I2.stkSub C hb)with e|hb
     ·have t1:=asN I2.lt;have t2:=asE e;rw[hDd]at t1;have t3:=asN hDlt
      lia
     ·exact I2.nofs (by rw[hDd];exact qC8 hDlt) hb
   ·have itm:=T.item X' xprog xw xK xcalm i _ s5 _ H5 (fun _ _=>False) pinD (fpD fr5) st5 go;rw[xA]at itm;refine thn itm fun r s6 z0=>?_
    obtain⟨u,hr,h6⟩:=z0;subst hr;refine thn h6 fun _ s7 z0=>?_
    obtain⟨x,H7,I7,r7,y7,st7,fr7⟩:=z0;have I7':Inv X' ([(D,{ cls:=.type "list",data:=.seq its.toArray nn })]++zJ6 fp s7.heap) (σ++qA7 k none) H7 s7:=I7.pinned (fpD fr7) (T.obj _ _ st7);have asg:=hgX _ s7 _ H7 x u _ I7' r7 (step x H7 y7);rw[xprog,xw,xA,henv,xxe]at asg;refine thn asg fun _ s8 z0=>?_
    obtain⟨σ8,H8,I8,own,hown,hσ8,q8⟩:=z0;have weak:∀{pl:List (Addr×Obj)}{H':Hp}{s':qIk},Inv X' pl σ8 H' s'->Inv X' [] (σ++qA7 k none) H' s':=fun{pl H' s'} J'=>by
     have J0:Inv X' [] σ8 H' s':=J'.pins_of (fun p hp=>by simp at hp);refine J0.weak (by rw[hσ8];simp[hown]) fun j v hj=>?_
     rw[hσ8];by_cases hjl:j<σ.length
     ·rw[qAf hjl]at hj ⊢;exact hj
     ·rw[qAc (by lia),qCf]at hj
      split at hj<;>cases hj
    have tst:=hifX _ s8 σ8 H8 _ I8 q8;rw[xprog,xw,xA,henv,xxe]at tst;refine thn tst fun b s9 z0=>?_
    obtain⟨H9,I9,q9⟩:=z0;have pin9:∀{σ':St}{H':Hp}{s':qIk},Inv X' ([(D,{ cls:=.type "list",data:=.seq its.toArray nn })]++zJ6 fp s7.heap) σ' H' s' ->
      s'.heap.get? D=some { cls:=.type "list",data:=.seq its.toArray nn }/\H' D=none/\tn (i+1) s'.heap/\(∀b∈fp,H' b=none):=fun{σ' H' s'} J'=>by
     have a1:=J'.pin (D,{ cls:=.type "list",data:=.seq its.toArray nn }) (by simp);refine⟨a1.1,a1.2.1,T.keep _ _ _ st7 fun b hb o e=>(J'.pin (b,o) (qB1 _ (qB1 _ (zER hb e)))).1,fun b hb=>?_⟩;obtain⟨o,e,d⟩:=T.obj _ _ st7 b hb;exact(J'.pin (b,o) (qB1 _ (qB1 _ (zER hb e)))).2.1
    cases b with
    |false=>
     rw[if_neg qAj];rw[if_neg qAj]at q9;obtain⟨m',hm,w9⟩:=hN _ _ q9;obtain⟨p1,p2,p3,p4⟩:=pin9 I9;exact⟨m',hm,i+1,H9,acc,its,nn,weak I9,p3,p4,p2,w9,hz5,rv5,p1⟩
    |true=>
     rw[if_pos rfl];rw[if_pos rfl]at q9;have ev:=heX _ s9 σ8 H9 _ I9 q9;rw[xprog,xw,xA,henv,xxe]at ev;refine thn ev fun y s10 z0=>?_
     obtain⟨v,H10,I10,r10,n10⟩:=z0;obtain⟨m',hm,w10⟩:=hN _ _ n10;obtain⟨p1,p2,p3,p4⟩:=pin9 I10;have hlen:its.length=acc.length:=rv5.length.symm;refine wpAny_list_append_plain (items:=its.toArray) ⟨nn,p1⟩ (fun h' hl' hs'=>?_) (by simp only[qAh];lia);have hDfp:D∉fp:=fun hb=>(F4 D hb).2.2.2.2.2 (D,{ cls:=.type "list",data:=.seq #[] 0 }) (by simp) rfl
     have I11:Inv X' [] (σ++qA7 k none) H10 { s10 with heap:=h' }:=by
      have J0:Inv X' [] (σ++qA7 k none) H10 s10:=weak I10;refine J0.turned (t':=s10.toks) (it:=D) (fun b o hb e=>(hs'.2 b hb).trans e) p2 ?_ (.inr ?_) (fun x c e z=>?_) (fun p hp=>?_)
      ·rw[locC];exact qAl hDlt
      ·rw[xs0,hDd];exact qA5 _
      ·obtain⟨v',q⟩:=J0.cell x c e;obtain⟨o,ho,hd⟩:=q;rw[z,p1]at ho;cases ho;cases hd
      ·rw[xpn]at hp;simp at hp
     obtain⟨n',hk⟩:=hl';have hk':h'.get? D=some { cls:=.type "list",data:=.seq (its++[y]).toArray n' }:=by rw[hk];simp
     refine⟨m',hm,i+1,H10,acc++[v],its++[y],n',I11,T.keep _ _ _ p3 fun b hb o e=>(hs'.2 b (fun z=>hDfp (z▸hb))).trans e,p4,p2,w10,?_,rv5.append (.cons r10 .nil),hk'⟩;rw[qAs,qFj]
     lia
  ·refine⟨0,H2,[],[],0,I4.pins_of (fun p hp=>by simp at hp),st4,fun b hb=>(f2 b hb).1,I2.hok.fresh (by rw[hDd];exact qA5 _),w0,qAv _,.nil,?_⟩;exact(I4.pin (D,{ cls:=.type "list",data:=.seq #[] 0 }) (by simp)).1
 exact codeAny_compStart_list loop (T.self _ 0 _ _ _ st4 loop)
def zD2(hc:X.calm=true)(S:CompNames X.N N' k sc X.env)(hi:PI X tg iter wi)
  (hg:∀C s H fp,PG (zDY X N' sc C s H fp) tg g) (hif:∀C s H fp,PTs (zDY X N' sc C s H fp) ifs tif) (he:∀C s H fp,PE (zDY X N' sc C s H fp) elt te)
  (hs:∀x,qK7 iter X.env x=pure x:=by intro _;rfl):PE X (.ListComp elt [⟨tg,iter,ifs,0⟩] sc pos) (zXN wi k g tif te):=by
 intro pins s σ H Q I h;rw[eval_ListComp];have hfree:∀x,(x,qIt)∈sc.names->∃c,X.env.cells.lookup x=some c:=fun x hx=>I.ok.has x (S.free x hx)
 refine wpAny_comprehension_free (use:=none) rfl hs (zG8 hfree) S.kind (fun x hx hl=>?_) ?_
 ·obtain⟨n,kd⟩:=x;dsimp only at hl ⊢;subst hl;exact zCS S.nd hx
 ·refine thn (hi pins s σ H _ I h) fun v s1 h1=>thn h1 fun itv s2 h2=>?_
  obtain⟨it,fp,tn,J,H2,e,I2,T,st2,f2,W,⟨m0,w0⟩,turn⟩:=h2;subst e;refine zJH (RR:=fun acc C=>compPost (model X.prog X.w) X.A X.xe none (EP X pins σ Q) acc C) hc S hg hif he I2 T st2 f2 w0 turn ?_;intro D C s' H' hDC hD hn hCn hCf I' q;obtain⟨m,hn⟩:=hn;refine⟨m,hn,fun h' hs'=>⟨.ref D,H',?_,rfl,q⟩⟩;have hCb:s2.heap.objs.size<=C:=qC8 (qG9 hD hDC);refine I'.turned (t':=s'.toks) (it:=C) (fun b o hb e=>(hs'.2 b hb).trans e) hCn ?_ (.inr (qAt I2.sz hCb)) (fun x c e z=>?_) (fun p hp z=>?_)
  ·exact qBx (qAi I2.lt hCb)
  ·obtain⟨v,q⟩:=I2.cell x c e;exact absurd z (qAl (qAi q.lt hCb))
  ·exact absurd z (qAl (qAi (qIl (I2.pin p hp).1) hCb))
def zDV{i:Nat}{x:Str}{pos' spos:Pos}(hN:X.N.Nodup)(hi':X.N[i]?=some x)(hx:Loc X.env.scope x)(hc:X.calm=true)(S:CompNames X.N N' k sc X.env)(hi:PI X tg iter wi)
  (hg:∀C s H fp,PG (zDY X N' sc C s H fp) tg g) (hif:∀C s H fp,PTs (zDY X N' sc C s H fp) ifs tif) (he:∀C s H fp,PE (zDY X N' sc C s H fp) elt te)
  (hsw:qLp (.ListComp elt [⟨tg,iter,ifs,0⟩] sc pos) (some (.Name x pos')) spos.line X.env=pure true:=by rfl)
  (hs:∀x,qK7 iter X.env x=pure x:=by intro _;rfl) (hf:X.fn x=true\/X.env.scope.names.lookup x=some .local:=by first|exact .inl rfl|exact .inr rfl|assumption) :
  PS X (.Assign [.Name x pos'] (.ListComp elt [⟨tg,iter,ifs,0⟩] sc pos) spos) (tAsg (zXN wi k g tif te) (zIW i)):=by
 intro pins s σ H Dn I h;rw[exec_Assign_Name_used _ _ _ _ hsw];refine wpAny_bind (wpAny_standAt (wpAny_bind ?_));show wpAny _ X.A (do let _ <- comprehension (.ListComp elt [⟨tg,iter,ifs,0⟩] sc pos) sc X.env _ (newList []) false (eval iter X.env) (some (assign (.Name x pos') X.env))) _ _ s;have hfree:∀x,(x,qIt)∈sc.names->∃c,X.env.cells.lookup x=some c:=fun x hx=>I.ok.has x (S.free x hx)
 refine wpAny_bind (wpAny_mono (wpAny_comprehension_free (use:=some (assign (.Name x pos') X.env)) (Q:=fun _ s'=>SP X pins Dn .next s') rfl hs (zG8 hfree) S.kind (fun x hx hl=>?_) ?_)
  (fun _ s' hq=>wpAny_pure (wpAny_pure hq)) fun _ _ e=>e)
 ·obtain⟨n,kd⟩:=x;dsimp only at hl ⊢;subst hl;exact zCS S.nd hx
 ·refine thn (hi pins s σ H _ I h) fun v s1 h1=>thn h1 fun itv s2 h2=>?_
  obtain⟨it,fp,tn,J,H2,e,I2,T,st2,f2,W,⟨m0,w0⟩,turn⟩:=h2;subst e;refine zJH (Q:=fun v H'=>zIW i v σ H' Dn.nx) (RR:=fun acc C=>compPost (model X.prog X.w) X.A X.xe (some (assign (.Name x pos') X.env)) (fun _ s'=>SP X pins Dn .next s') acc C) hc S hg hif he I2 T st2 f2 w0 turn ?_;intro D C s' H' hDC hD hn hCn hCf I' q;obtain⟨m,hn⟩:=hn;show wpAny _ _ (assign (.Name x pos') X.env (.ref D)) _ _ _;have hCb:s2.heap.objs.size<=C:=qC8 (qG9 hD hDC);have hCL:C≠X.env.locals:=qBx (qAi I2.lt hCb);have hCc:∀x c,X.env.cells.lookup x=some c->c≠C:=fun x c e z=>by
   obtain⟨v,q⟩:=I2.cell x c e;exact absurd z (qAl (qAi q.lt hCb))
  refine qLv (zL4 (v:=.ref D) I' hN hi' hx rfl (fun s'' I'' ⟨a,sb,ha⟩=>?_) hf);have hCa:C≠a:=by
   rcases ha with e|e
   ·rw[e];exact hCL
   ·exact fun z=>hCc x a e z.symm
  refine⟨m,hn.sameBut sb hCa,fun h' hs'=>⟨_,H',?_,q⟩⟩;refine I''.turned (t':=s''.toks) (it:=C) (fun b o hb e=>(hs'.2 b hb).trans e) hCn hCL (.inr (qAt I2.sz hCb)) hCc (fun p hp z=>?_);exact absurd z (qAl (qAi (qIl (I2.pin p hp).1) hCb))
def zEW{lo:Int}{n:Nat}{σ:St}{H:Hp}{Q:VK}(Pv:Nat->List V->Hp->Prop)(h0:Pv 0 [] H)(hz:∀i acc H,i<n->Pv i acc H->acc.length<sizeLine)
  (hs:∀i acc H,i<n->Pv i acc H->g (.int (lo+i)) (σ++qA7 k none) H fun σ2 H2=>∃own:St,own.length=k/\σ2=σ++own/\tif σ2 H2 fun b H3=>if b=true then te σ2 H3 fun v H4=>Pv (i+1) (acc++[v]) H4 else Pv (i+1) acc H3)
  (hd:∀acc H,Pv n acc H->∀D,H D=none->Q (.ref D) (upd H D (.lst acc))) :
  zW0 k g tif te σ Q (Itr lo n) H:=by
 refine⟨fun i m acc H=>m=n-i/\i<=n/\Pv i acc H,⟨n,by simp,qAv _,h0⟩,?_⟩
 rintro i m acc H ⟨rfl,hi,p⟩
 by_cases hlt:i<n
 ·refine .inr ⟨hlt,hz i acc H hlt p,Pv (i+1),fun acc' H' p'=>⟨n-(i+1),by lia,rfl,hlt,p'⟩,fun x H' y=>?_⟩;obtain⟨e,y⟩:=y;subst e y;exact hs i acc _ hlt p
 ·have e:i=n:=by lia
  subst e;exact .inl ⟨qA5 _,hd acc H p⟩
def zR1(g:TG)(tb:TS)(D:Ends)(σ:St)(J:It)(H1:Hp):Prop:=∃W:Nat->Nat->St->Hp->Prop,(∃m,W 0 m σ H1)/\∀i m σ H,W i m σ H ->
 (J.stop i H/\D.nx σ H)\/(J.go i H/\∃N:St->Hp->Prop,(∀σ' H',N σ' H'->∃m',m'<m/\W (i+1) m' σ' H')/\∀x H',J.yld i H x H'->g x σ H' fun σ2 H2=>tb { D with nx:=N,ct:=N,bk:=D.nx } σ2 H2)
def zD1{body:List Stmt}{tb:TS}(hp:PassesOwn (model X.prog X.w) X.A X.env X.xe)(hc:X.calm=true)(hi:PI X tg iter wi)(hg:PG X tg g)(hb:PSs X body tb)
  (hs:∀x,qK7 iter X.env x=pure x:=by intro _;rfl):PS X (.For tg iter body [] pos) (fun D σ H=>wi σ H (zR1 g tb D σ)):=zaM hp hc hi hg hb hs
end
inductive Dat where
 |non|bl (b:Bool)|int (i:Int)|str (x:Str)|lst (xs:List Dat)|tup (xs:List Dat)
mutual
def Dat.dep:Dat->Nat
 |.lst xs=>Dat.depL xs+1
 |.tup xs=>Dat.depL xs+1
 |_=>0
def Dat.depL:List Dat->Nat
 |[]=>0
 |x::r=>max x.dep (Dat.depL r)
end
mutual
def Dat.eq:Dat->Dat->Bool
 |.non,.non=>true
 |.bl a,.bl b=>a==b
 |.bl a,.int b=>(if a then 1 else 0)==b
 |.int a,.bl b=>a==(if b then 1 else 0)
 |.int a,.int b=>a==b
 |.str a,.str b=>a==b
 |.lst xs,.lst ys=>Dat.eqL xs ys
 |.tup xs,.tup ys=>Dat.eqL xs ys
 |_,_=>false
def Dat.eqL:List Dat->List Dat->Bool
 |[],[]=>true
 |x::r,y::q=>Dat.eq x y&&Dat.eqL r q
 |_,_=>false
end
mutual
def Rep(H:Hp):Dat->V->Prop
 |.non,v=>v=.non
 |.bl b,v=>v=.bl b
 |.int i,v=>v=.int i
 |.str x,v=>v=.str x
 |.lst ds,v=>∃a xs,v=.ref a/\H a=some (.lst xs)/\RepL H ds xs
 |.tup ds,v=>∃a xs,v=.ref a/\H a=some (.tup xs)/\RepL H ds xs
def RepL(H:Hp):List Dat->List V->Prop
 |[],xs=>xs=[]
 |d::r,xs=>∃x q,xs=x::q/\Rep H d x/\RepL H r q
end
mutual
def Rep.mono{H H':Hp}(s:Same H H'):∀{d:Dat}{v:V},Rep H d v->Rep H' d v
 |.non,_,h=>h
 |.bl _,_,h=>h
 |.int _,_,h=>h
 |.str _,_,h=>h
 |.lst _,_,h=>by obtain⟨a,xs,e,e',r⟩:=h;exact⟨a,xs,e,s _ _ e',RepL.mono s r⟩
 |.tup _,_,h=>by obtain⟨a,xs,e,e',r⟩:=h;exact⟨a,xs,e,s _ _ e',RepL.mono s r⟩
def RepL.mono{H H':Hp}(s:Same H H'):∀{ds:List Dat}{xs:List V},RepL H ds xs->RepL H' ds xs
 |[],_,h=>h
 |_::_,_,h=>by obtain⟨x,q,e,r,t⟩:=h;exact⟨x,q,e,Rep.mono s r,RepL.mono s t⟩
end
mutual
def Rep.inj{H:Hp}:∀{d e:Dat}{v:V},Rep H d v->Rep H e v->d=e
 |.non,e,v,h,h'=>by cases h;cases e<;>first|rfl|(cases h';done)|(obtain⟨a,xs,z,_⟩:=h';cases z)
 |.bl b,e,v,h,h'=>by cases h;cases e<;>first|(cases h';rfl)|(cases h';done)|(obtain⟨a,xs,z,_⟩:=h';cases z)
 |.int b,e,v,h,h'=>by cases h;cases e<;>first|(cases h';rfl)|(cases h';done)|(obtain⟨a,xs,z,_⟩:=h';cases z)
 |.str b,e,v,h,h'=>by cases h;cases e<;>first|(cases h';rfl)|(cases h';done)|(obtain⟨a,xs,z,_⟩:=h';cases z)
 |.lst ds,e,v,h,h'=>by
  obtain⟨a,xs,rfl,ha,q⟩:=h;cases e with
  |lst es=>
   obtain⟨b,ys,z,hb,q'⟩:=h';cases z;rw[ha]at hb;cases hb;rw[RepL.inj q q']
  |tup es=>
   obtain⟨b,ys,z,hb,q'⟩:=h';cases z;rw[ha]at hb;cases hb
  |_=>cases h'
 |.tup ds,e,v,h,h'=>by
  obtain⟨a,xs,rfl,ha,q⟩:=h;cases e with
  |tup es=>
   obtain⟨b,ys,z,hb,q'⟩:=h';cases z;rw[ha]at hb;cases hb;rw[RepL.inj q q']
  |lst es=>
   obtain⟨b,ys,z,hb,q'⟩:=h';cases z;rw[ha]at hb;cases hb
  |_=>cases h'
def RepL.inj{H:Hp}:∀{ds es:List Dat}{xs:List V},RepL H ds xs->RepL H es xs->ds=es
 |[],[],_,_,_=>rfl
 |[],_::_,_,h,h'=>by cases h;obtain⟨x,q,e,_⟩:=h';cases e
 |_::_,[],_,h,h'=>by cases h';obtain⟨x,q,e,_⟩:=h;cases e
 |d::r,e::t,_,h,h'=>by
  obtain⟨x,q,rfl,r1,t1⟩:=h;obtain⟨x',q',z,r2,t2⟩:=h';cases z;rw[Rep.inj r1 r2,RepL.inj t1 t2]
end
mutual
def Dat.eq_refl:∀d:Dat,Dat.eq d d=true
 |.non=>by simp[Dat.eq]
 |.bl _=>by simp[Dat.eq]
 |.int _=>by simp[Dat.eq]
 |.str _=>by simp[Dat.eq]
 |.lst xs=>by rw[Dat.eq];exact Dat.eqL_refl xs
 |.tup xs=>by rw[Dat.eq];exact Dat.eqL_refl xs
def Dat.eqL_refl:∀ds:List Dat,Dat.eqL ds ds=true
 |[]=>by simp[Dat.eqL]
 |d::r=>by rw[Dat.eqL,Dat.eq_refl d,Dat.eqL_refl r];rfl
end
def RepL.length{H:Hp}:∀{ds:List Dat}{xs:List V},RepL H ds xs->xs.length=ds.length
 |[],_,h=>by cases h;rfl
 |_::_,_,h=>by obtain⟨x,q,e,r,t⟩:=h;subst e;simp[RepL.length t]
def Dat.eqL_len:∀{xs ys:List Dat},xs.length≠ys.length->Dat.eqL xs ys=false
 |[],[],h=>absurd rfl h
 |[],_::_,_=>by simp[Dat.eqL]
 |_::_,[],_=>by simp[Dat.eqL]
 |x::r,y::q,h=>by
  rw[Dat.eqL,Dat.eqL_len (fun e=>h (by simp[e])),qE4]
def Dat.eqL_all:∀{xs ys:List Dat},xs.length=ys.length->∀(e:Nat->Bool),(∀j (h1:j<xs.length) (h2:j<ys.length),e j=Dat.eq xs[j] ys[j])->(qA9 xs.length).all e=Dat.eqL xs ys
 |[],[],_,_,_=>by simp[Dat.eqL]
 |[],_::_,h,_,_=>by simp at h
 |_::_,[],h,_,_=>by simp at h
 |x::r,y::q,h,e,he=>by
  have hl:r.length=q.length:=by simpa using h
  rw[qAn,List.range_succ_eq_map,qF1,Dat.eqL,he 0 (by simp) (by simp)]
  have:=Dat.eqL_all (xs:=r) (ys:=q) hl (fun j=>e (j+1)) (fun j h1 h2=>by
   rw[he (j+1) (by simpa using h1) (by simpa using h2)];simp)
  rw[<- this,List.all_map];rfl
def RepL.get{H:Hp}:∀{ds:List Dat}{xs:List V}{i:Nat}{x:V},RepL H ds xs->xs[i]?=some x->∃d,ds[i]?=some d/\Rep H d x
 |[],_,_,_,h,e=>by cases h;simp at e
 |d::_,_,0,_,h,e=>by obtain⟨x,q,e1,r,t⟩:=h;subst e1;simp at e;subst e;exact⟨d,rfl,r⟩
 |_::_,_,i+1,_,h,e=>by
  obtain⟨x,q,e1,r,t⟩:=h;subst e1;obtain⟨d',h1,h2⟩:=RepL.get (i:=i) t (by simpa using e);exact⟨d',by simpa using h1,h2⟩
def Dat.depL_mem{d:Dat}:∀{ds:List Dat},d∈ds->d.dep<=Dat.depL ds
 |_::_,h=>by
  rw[Dat.depL];rcases qAb.mp h with rfl|h
  ·exact Nat.le_max_left _ _
  ·exact qAt (Dat.depL_mem h) (Nat.le_max_right _ _)
section
variable{P:qIo}{w:World}{H:Hp}
def zEK(A:qIr):A.in1.units=A.units+1:=rfl
def zB8{s:qIk}{a:Addr}{xs:List V}(ok:HOk P w H s.heap)(h:H a=some (.lst xs)):∃its:List Value,Vals xs its/\s.heap.IsList a its.toArray:=by
 obtain⟨_,its,n,r,e⟩:=ok a _ h;exact⟨its,r,⟨_,e,rfl,n,rfl⟩⟩
def zBY{s:qIk}{a:Addr}{xs:List V}(ok:HOk P w H s.heap)(h:H a=some (.tup xs)):∃its:List Value,Vals xs its/\s.heap.IsTuple a its.toArray:=by
 obtain⟨_,its,r,e⟩:=ok a _ h;exact⟨its,r,e⟩
def Rep.flat{d:Dat}{v:V}(h:Rep H d v)(hf:d.dep=0):zGM v=true:=by
 cases d with
 |non=>cases h;rfl
 |bl _=>cases h;rfl
 |int _=>cases h;rfl
 |str _=>cases h;rfl
 |lst _=>simp[Dat.dep]at hf
 |tup _=>simp[Dat.dep]at hf
def Rep.flatEq{d e:Dat}{v u:V}(h:Rep H d v)(h':Rep H e u)(hf:d.dep=0)(hf':e.dep=0):eqV v u=Dat.eq d e:=by
 cases d<;>cases e<;>first
  |(simp[Dat.dep]at hf;done)
  |(simp[Dat.dep]at hf';done)
  |(cases h;cases h';simp[eqV,Dat.eq];done)
def zVB:∀(n:Nat){d e:Dat}{v u:V}{x y:Value}{A:qIr}{s:qIk},d.dep<=n->HOk P w H s.heap->Rep H d v->Rep H e u->RelV v x->RelV u y->A.units+n<cLine->qKi A s x y (Dat.eq d e):=by
 intro n;induction n with
 |zero=>
  intro d e v u x y A s hd ok h1 h2 r1 r2 hu;have f1:=h1.flat (by lia)
  by_cases he:e.dep=0
  ·have f2:=h2.flat he
   have:=zWW (A:=A) (s:=s) r1 r2 f1 f2;rw[h1.flatEq h2 (by lia) he]at this;exact this
  ·have hu':A.units<cLine:=by lia
   cases e with
   |lst ys=>
    obtain⟨a,xs,rfl,ha,_⟩:=h2;obtain⟨its,_,hl⟩:=zB8 ok ha;cases r2;cases d with
    |non=>cases h1;cases r1;exact SeqAt.EqAt.none_list hl hu'
    |bl b=>cases h1;cases r1;exact SeqAt.EqAt.bool_list b hl hu'
    |int i=>cases h1;obtain⟨t,rfl⟩:=r1;exact SeqAt.EqAt.int_list i t hl hu'
    |str z=>cases h1;obtain⟨t,rfl⟩:=r1;exact SeqAt.EqAt.str_list z t hl hu'
    |lst _=>simp[Dat.dep]at hd
    |tup _=>simp[Dat.dep]at hd
   |tup ys=>
    obtain⟨a,xs,rfl,ha,_⟩:=h2;obtain⟨its,_,hl⟩:=zBY ok ha;cases r2;cases d with
    |non=>cases h1;cases r1;exact SeqAt.EqAt.none_tuple hl hu'
    |bl b=>cases h1;cases r1;exact SeqAt.EqAt.bool_tuple b hl hu'
    |int i=>cases h1;obtain⟨t,rfl⟩:=r1;exact SeqAt.EqAt.int_tuple i t hl hu'
    |str z=>cases h1;obtain⟨t,rfl⟩:=r1;exact SeqAt.EqAt.str_tuple z t hl hu'
    |lst _=>simp[Dat.dep]at hd
    |tup _=>simp[Dat.dep]at hd
   |_=>simp[Dat.dep]at he
 |succ n ih=>
  intro d e v u x y A s hd ok h1 h2 r1 r2 hu;by_cases hd0:d.dep<=n
  ·exact ih hd0 ok h1 h2 r1 r2 (by lia)
  have hu':A.units<cLine:=by lia
  have pairs:∀{ds es:List Dat}{xs ys:List V}{its its2:List Value},Dat.depL ds<=n->RepL H ds xs->RepL H es ys->Vals xs its->Vals ys its2->∀j (h1:j<its.toArray.size) (h2:j<its2.toArray.size),
    qKi A.in1 s its.toArray[j] its2.toArray[j] (Dat.eq (ds.getD j .non) (es.getD j .non)):=by
   intro ds es xs ys its its2 hdl q1 q2 v1 v2 j j1 j2;have l1:j<xs.length:=by have:=v1.length;simp at j1;lia
   have l2:j<ys.length:=by have:=v2.length;simp at j2;lia
   obtain⟨d',e1,p1⟩:=q1.get (i:=j) (x:=xs[j]) (by simp[l1]);obtain⟨e',e2,p2⟩:=q2.get (i:=j) (x:=ys[j]) (by simp[l2]);obtain⟨w1,g1,z1⟩:=v1.get (i:=j) (x:=xs[j]) (by simp[l1]);obtain⟨w2,g2,z2⟩:=v2.get (i:=j) (x:=ys[j]) (by simp[l2]);have k1:its.toArray[j]=w1:=by
    obtain⟨_,k⟩:=qA2.mp g1;simpa using k
   have k2:its2.toArray[j]=w2:=by
    obtain⟨_,k⟩:=qA2.mp g2;simpa using k
   rw[k1,k2,qA3,qA3,e1,e2];exact ih (qAt (Dat.depL_mem (qBo e1)) hdl) ok p1 p2 z1 z2 (by rw[zEK];lia)
  cases d with
  |lst ds=>
   have hdl:Dat.depL ds<=n:=by rw[Dat.dep]at hd;lia
   obtain⟨a,xs,rfl,ha,q1⟩:=h1;obtain⟨its,v1,hl1⟩:=zB8 ok ha;cases r1;cases e with
   |non=>cases h2;cases r2;exact SeqAt.EqAt.list_none hl1 hu'
   |bl b=>cases h2;cases r2;exact SeqAt.EqAt.list_bool b hl1 hu'
   |int i=>cases h2;obtain⟨t,rfl⟩:=r2;exact SeqAt.EqAt.list_int i t hl1 hu'
   |str z=>cases h2;obtain⟨t,rfl⟩:=r2;exact SeqAt.EqAt.list_str z t hl1 hu'
   |tup es=>
    obtain⟨b,ys,rfl,hb,q2⟩:=h2;obtain⟨its2,v2,hl2⟩:=zBY ok hb;cases r2;exact qK5 (zLV ha hb (fun z=>nomatch z)) (qL7 hl1 hl2 hu')
   |lst es=>
    obtain⟨b,ys,rfl,hb,q2⟩:=h2;obtain⟨its2,v2,hl2⟩:=zB8 ok hb;cases r2;have len1:its.toArray.size=ds.length:=by have:=v1.length;have:=q1.length;simp;lia
    have len2:its2.toArray.size=es.length:=by have:=v2.length;have:=q2.length;simp;lia
    show qKi A s (.ref a) (.ref b) (Dat.eqL ds es);by_cases hne:a=b
    ·
     subst hne;rw[ha]at hb;cases hb;have same:Dat.eqL ds es=true:=by
      rw[RepL.inj q1 q2];exact Dat.eqL_refl _
     rw[same];exact qL5 _
    ·refine qK5 hne ?_
     by_cases hs:ds.length=es.length
     ·have:=qMg (A:=A) (s:=s) hl1 hl2 (by rw[len1,len2,hs]) hu' (pairs hdl q1 q2 v1 v2)
      rw[len1,Dat.eqL_all hs _ (fun j h1 h2=>by rw[qA3,qA3];simp[h1,h2])]at this;exact this
     ·rw[Dat.eqL_len hs];exact qKr hl1 hl2 (by rw[len1,len2];simpa using hs) hu'
  |tup ds=>
   have hdl:Dat.depL ds<=n:=by rw[Dat.dep]at hd;lia
   obtain⟨a,xs,rfl,ha,q1⟩:=h1;obtain⟨its,v1,hl1⟩:=zBY ok ha;cases r1;cases e with
   |non=>cases h2;cases r2;exact SeqAt.EqAt.tuple_none hl1 hu'
   |bl b=>cases h2;cases r2;exact SeqAt.EqAt.tuple_bool b hl1 hu'
   |int i=>cases h2;obtain⟨t,rfl⟩:=r2;exact SeqAt.EqAt.tuple_int i t hl1 hu'
   |str z=>cases h2;obtain⟨t,rfl⟩:=r2;exact SeqAt.EqAt.tuple_str z t hl1 hu'
   |lst es=>
    obtain⟨b,ys,rfl,hb,q2⟩:=h2;obtain⟨its2,v2,hl2⟩:=zB8 ok hb;cases r2;exact qK5 (zLV ha hb (fun z=>nomatch z)) (qL8 hl1 hl2 hu')
   |tup es=>
    obtain⟨b,ys,rfl,hb,q2⟩:=h2;obtain⟨its2,v2,hl2⟩:=zBY ok hb;cases r2;have len1:its.toArray.size=ds.length:=by have:=v1.length;have:=q1.length;simp;lia
    have len2:its2.toArray.size=es.length:=by have:=v2.length;have:=q2.length;simp;lia
    show qKi A s (.ref a) (.ref b) (Dat.eqL ds es);by_cases hne:a=b
    ·subst hne;rw[ha]at hb;cases hb;have same:Dat.eqL ds es=true:=by
      rw[RepL.inj q1 q2];exact Dat.eqL_refl _
     rw[same];exact qL5 _
    ·refine qK5 hne ?_
     have:=qM2 (A:=A) (s:=s) hl1 hl2 hu' (pairs hdl q1 q2 v1 v2);by_cases hs:ds.length=es.length
     ·rw[len1,len2,<- hs,qGq,beq_self_eq_true,qF2,Dat.eqL_all hs _ (fun j h1 h2=>by rw[qA3,qA3];simp[h1,h2])]at this;exact this
     ·rw[len1,len2,show(ds.length==es.length)=false by simpa using hs,qE4]at this;rw[Dat.eqL_len hs];exact this
  |_=>simp[Dat.dep]at hd0
def zHB{n:Nat}{A:qIr}{s:qIk}(ok:HOk P w H s.heap){ds es:List Dat}{xs ys:List V}{its its2:List Value}(hdl:Dat.depL ds<=n)(hu:A.units+n<cLine)(q1:RepL H ds xs)(q2:RepL H es ys)(v1:Vals xs its)(v2:Vals ys its2) :
  ∀j (h1:j<its.toArray.size) (h2:j<its2.toArray.size),qKi A s its.toArray[j] its2.toArray[j] (Dat.eq (ds.getD j .non) (es.getD j .non)):=by
 intro j j1 j2;have l1:j<xs.length:=by have:=v1.length;simp at j1;lia
 have l2:j<ys.length:=by have:=v2.length;simp at j2;lia
 obtain⟨d',e1,p1⟩:=q1.get (i:=j) (x:=xs[j]) (by simp[l1]);obtain⟨e',e2,p2⟩:=q2.get (i:=j) (x:=ys[j]) (by simp[l2]);obtain⟨w1,g1,z1⟩:=v1.get (i:=j) (x:=xs[j]) (by simp[l1]);obtain⟨w2,g2,z2⟩:=v2.get (i:=j) (x:=ys[j]) (by simp[l2]);have k1:its.toArray[j]=w1:=by
  obtain⟨_,k⟩:=qA2.mp g1;simpa using k
 have k2:its2.toArray[j]=w2:=by
  obtain⟨_,k⟩:=qA2.mp g2;simpa using k
 rw[k1,k2,qA3,qA3,e1,e2];exact zVB n (qAt (Dat.depL_mem (qBo e1)) hdl) ok p1 p2 z1 z2 hu
def zU5(n:Nat){d e:Dat}{v u:V}{x y:Value}{A:qIr}{s:qIk}(hd:d.dep<=n)(ok:HOk P w H s.heap)(h1:Rep H d v)(h2:Rep H e u)(r1:RelV v x)(r2:RelV u y)(hu:A.units+n<cLine):qN4 A s x y (Dat.eq d e):=by
 have hu':A.units<cLine:=by lia
 cases d with
 |non=>
  cases h1;cases r1;cases e with
  |non=>
   cases h2;cases r2;exact SeqAt.RcAt.none_none
  |bl b=>
   cases h2;cases r2;exact SeqAt.RcAt.none_bool b
  |int b=>
   cases h2;obtain⟨t2,rfl⟩:=r2;exact SeqAt.RcAt.none_int b t2
  |str b=>
   cases h2;obtain⟨t2,rfl⟩:=r2;exact SeqAt.RcAt.none_str b t2
  |lst es=>
   obtain⟨p2,ys,rfl,hb,q2⟩:=h2;obtain⟨its2,v2,hl2⟩:=zB8 ok hb;cases r2;exact SeqAt.RcAt.none_list hl2 hu'
  |tup es=>
   obtain⟨p2,ys,rfl,hb,q2⟩:=h2;obtain⟨its2,v2,hl2⟩:=zBY ok hb;cases r2;exact SeqAt.RcAt.none_tuple hl2 hu'
 |bl a=>
  cases h1;cases r1;cases e with
  |non=>
   cases h2;cases r2;exact SeqAt.RcAt.bool_none a
  |bl b=>
   cases h2;cases r2;exact SeqAt.RcAt.bool_bool a b
  |int b=>
   cases h2;obtain⟨t2,rfl⟩:=r2;exact SeqAt.RcAt.bool_int a b t2
  |str b=>
   cases h2;obtain⟨t2,rfl⟩:=r2;exact SeqAt.RcAt.bool_str a b t2
  |lst es=>
   obtain⟨p2,ys,rfl,hb,q2⟩:=h2;obtain⟨its2,v2,hl2⟩:=zB8 ok hb;cases r2;exact SeqAt.RcAt.bool_list a hl2 hu'
  |tup es=>
   obtain⟨p2,ys,rfl,hb,q2⟩:=h2;obtain⟨its2,v2,hl2⟩:=zBY ok hb;cases r2;exact SeqAt.RcAt.bool_tuple a hl2 hu'
 |int a=>
  cases h1;obtain⟨t1,rfl⟩:=r1;cases e with
  |non=>
   cases h2;cases r2;exact SeqAt.RcAt.int_none a t1
  |bl b=>
   cases h2;cases r2;exact SeqAt.RcAt.int_bool a t1 b
  |int b=>
   cases h2;obtain⟨t2,rfl⟩:=r2;exact SeqAt.RcAt.int_int a t1 b t2
  |str b=>
   cases h2;obtain⟨t2,rfl⟩:=r2;exact SeqAt.RcAt.int_str a t1 b t2
  |lst es=>
   obtain⟨p2,ys,rfl,hb,q2⟩:=h2;obtain⟨its2,v2,hl2⟩:=zB8 ok hb;cases r2;exact SeqAt.RcAt.int_list a t1 hl2 hu'
  |tup es=>
   obtain⟨p2,ys,rfl,hb,q2⟩:=h2;obtain⟨its2,v2,hl2⟩:=zBY ok hb;cases r2;exact SeqAt.RcAt.int_tuple a t1 hl2 hu'
 |str a=>
  cases h1;obtain⟨t1,rfl⟩:=r1;cases e with
  |non=>
   cases h2;cases r2;exact SeqAt.RcAt.str_none a t1
  |bl b=>
   cases h2;cases r2;exact SeqAt.RcAt.str_bool a t1 b
  |int b=>
   cases h2;obtain⟨t2,rfl⟩:=r2;exact SeqAt.RcAt.str_int a t1 b t2
  |str b=>
   cases h2;obtain⟨t2,rfl⟩:=r2;exact SeqAt.RcAt.str_str a t1 b t2
  |lst es=>
   obtain⟨p2,ys,rfl,hb,q2⟩:=h2;obtain⟨its2,v2,hl2⟩:=zB8 ok hb;cases r2;exact SeqAt.RcAt.str_list a t1 hl2 hu'
  |tup es=>
   obtain⟨p2,ys,rfl,hb,q2⟩:=h2;obtain⟨its2,v2,hl2⟩:=zBY ok hb;cases r2;exact SeqAt.RcAt.str_tuple a t1 hl2 hu'
 |lst ds=>
  have hdl:Dat.depL ds+1<=n:=by rw[Dat.dep]at hd;exact hd
  obtain⟨p,xs,rfl,ha,q1⟩:=h1;obtain⟨its,v1,hl1⟩:=zB8 ok ha;cases r1;cases e with
  |non=>
   cases h2;cases r2;exact SeqAt.RcAt.list_none hl1 hu'
  |bl b=>
   cases h2;cases r2;exact SeqAt.RcAt.list_bool b hl1 hu'
  |int b=>
   cases h2;obtain⟨t2,rfl⟩:=r2;exact SeqAt.RcAt.list_int b t2 hl1 hu'
  |str b=>
   cases h2;obtain⟨t2,rfl⟩:=r2;exact SeqAt.RcAt.list_str b t2 hl1 hu'
  |lst es=>
   obtain⟨p2,ys,rfl,hb,q2⟩:=h2;obtain⟨its2,v2,hl2⟩:=zB8 ok hb;cases r2;have len1:its.toArray.size=ds.length:=by have:=v1.length;have:=q1.length;simp;lia
   have len2:its2.toArray.size=es.length:=by have:=v2.length;have:=q2.length;simp;lia
   show qN4 A s (.ref p) (.ref p2) (Dat.eqL ds es);by_cases hs:ds.length=es.length
   ·have:=qMg (A:=A) (s:=s) hl1 hl2 (by rw[len1,len2,hs]) hu' (zHB ok (by lia) (by rw[zEK];lia:A.in1.units+(n-1)<cLine) q1 q2 v1 v2)
    rw[len1,Dat.eqL_all hs _ (fun j h1 h2=>by rw[qA3,qA3];simp[h1,h2])]at this;exact this
   ·rw[Dat.eqL_len hs];exact qKr hl1 hl2 (by rw[len1,len2];simpa using hs) hu'
  |tup es=>
   obtain⟨p2,ys,rfl,hb,q2⟩:=h2;obtain⟨its2,v2,hl2⟩:=zBY ok hb;cases r2;exact qL7 hl1 hl2 hu'
 |tup ds=>
  have hdl:Dat.depL ds+1<=n:=by rw[Dat.dep]at hd;exact hd
  obtain⟨p,xs,rfl,ha,q1⟩:=h1;obtain⟨its,v1,hl1⟩:=zBY ok ha;cases r1;cases e with
  |non=>
   cases h2;cases r2;exact SeqAt.RcAt.tuple_none hl1 hu'
  |bl b=>
   cases h2;cases r2;exact SeqAt.RcAt.tuple_bool b hl1 hu'
  |int b=>
   cases h2;obtain⟨t2,rfl⟩:=r2;exact SeqAt.RcAt.tuple_int b t2 hl1 hu'
  |str b=>
   cases h2;obtain⟨t2,rfl⟩:=r2;exact SeqAt.RcAt.tuple_str b t2 hl1 hu'
  |lst es=>
   obtain⟨p2,ys,rfl,hb,q2⟩:=h2;obtain⟨its2,v2,hl2⟩:=zB8 ok hb;cases r2;exact qL8 hl1 hl2 hu'
  |tup es=>
   obtain⟨p2,ys,rfl,hb,q2⟩:=h2;obtain⟨its2,v2,hl2⟩:=zBY ok hb;cases r2;have len1:its.toArray.size=ds.length:=by have:=v1.length;have:=q1.length;simp;lia
   have len2:its2.toArray.size=es.length:=by have:=v2.length;have:=q2.length;simp;lia
   show qN4 A s (.ref p) (.ref p2) (Dat.eqL ds es);have:=qM2 (A:=A) (s:=s) hl1 hl2 hu' (zHB ok (by lia) (by rw[zEK];lia:A.in1.units+(n-1)<cLine) q1 q2 v1 v2)
   by_cases hs:ds.length=es.length
   ·rw[len1,len2,<- hs,qGq,beq_self_eq_true,qF2,Dat.eqL_all hs _ (fun j h1 h2=>by rw[qA3,qA3];simp[h1,h2])]at this;exact this
   ·rw[len1,len2,show(ds.length==es.length)=false by simpa using hs,qE4]at this;rw[Dat.eqL_len hs];exact this
def zPY(n:Nat){d e:Dat}{v u:V}{x y:Value}{A:qIr}{s:qIk}(hd:d.dep<=n)(ok:HOk P w H s.heap)(h1:Rep H d v)(h2:Rep H e u)(r1:RelV v x)(r2:RelV u y)(hu:A.units+n<cLine):qMb A s x y (!Dat.eq d e):=by
 have hu':A.units<cLine:=by lia
 cases d with
 |non=>
  cases h1;cases r1;cases e with
  |non=>
   cases h2;cases r2;exact SeqAt.RcNeAt.none_none
  |bl b=>
   cases h2;cases r2;exact SeqAt.RcNeAt.none_bool b
  |int b=>
   cases h2;obtain⟨t2,rfl⟩:=r2;exact SeqAt.RcNeAt.none_int b t2
  |str b=>
   cases h2;obtain⟨t2,rfl⟩:=r2;exact SeqAt.RcNeAt.none_str b t2
  |lst es=>
   obtain⟨p2,ys,rfl,hb,q2⟩:=h2;obtain⟨its2,v2,hl2⟩:=zB8 ok hb;cases r2;exact SeqAt.RcNeAt.none_list hl2 hu'
  |tup es=>
   obtain⟨p2,ys,rfl,hb,q2⟩:=h2;obtain⟨its2,v2,hl2⟩:=zBY ok hb;cases r2;exact SeqAt.RcNeAt.none_tuple hl2 hu'
 |bl a=>
  cases h1;cases r1;cases e with
  |non=>
   cases h2;cases r2;exact SeqAt.RcNeAt.bool_none a
  |bl b=>
   cases h2;cases r2;exact SeqAt.RcNeAt.bool_bool a b
  |int b=>
   cases h2;obtain⟨t2,rfl⟩:=r2;exact SeqAt.RcNeAt.bool_int a b t2
  |str b=>
   cases h2;obtain⟨t2,rfl⟩:=r2;exact SeqAt.RcNeAt.bool_str a b t2
  |lst es=>
   obtain⟨p2,ys,rfl,hb,q2⟩:=h2;obtain⟨its2,v2,hl2⟩:=zB8 ok hb;cases r2;exact SeqAt.RcNeAt.bool_list a hl2 hu'
  |tup es=>
   obtain⟨p2,ys,rfl,hb,q2⟩:=h2;obtain⟨its2,v2,hl2⟩:=zBY ok hb;cases r2;exact SeqAt.RcNeAt.bool_tuple a hl2 hu'
 |int a=>
  cases h1;obtain⟨t1,rfl⟩:=r1;cases e with
  |non=>
   cases h2;cases r2;exact SeqAt.RcNeAt.int_none a t1
  |bl b=>
   cases h2;cases r2;exact SeqAt.RcNeAt.int_bool a t1 b
  |int b=>
   cases h2;obtain⟨t2,rfl⟩:=r2;exact SeqAt.RcNeAt.int_int a t1 b t2
  |str b=>
   cases h2;obtain⟨t2,rfl⟩:=r2;exact SeqAt.RcNeAt.int_str a t1 b t2
  |lst es=>
   obtain⟨p2,ys,rfl,hb,q2⟩:=h2;obtain⟨its2,v2,hl2⟩:=zB8 ok hb;cases r2;exact SeqAt.RcNeAt.int_list a t1 hl2 hu'
  |tup es=>
   obtain⟨p2,ys,rfl,hb,q2⟩:=h2;obtain⟨its2,v2,hl2⟩:=zBY ok hb;cases r2;exact SeqAt.RcNeAt.int_tuple a t1 hl2 hu'
 |str a=>
  cases h1;obtain⟨t1,rfl⟩:=r1;cases e with
  |non=>
   cases h2;cases r2;exact SeqAt.RcNeAt.str_none a t1
  |bl b=>
   cases h2;cases r2;exact SeqAt.RcNeAt.str_bool a t1 b
  |int b=>
   cases h2;obtain⟨t2,rfl⟩:=r2;exact SeqAt.RcNeAt.str_int a t1 b t2
  |str b=>
   cases h2;obtain⟨t2,rfl⟩:=r2;exact SeqAt.RcNeAt.str_str a t1 b t2
  |lst es=>
   obtain⟨p2,ys,rfl,hb,q2⟩:=h2;obtain⟨its2,v2,hl2⟩:=zB8 ok hb;cases r2;exact SeqAt.RcNeAt.str_list a t1 hl2 hu'
  |tup es=>
   obtain⟨p2,ys,rfl,hb,q2⟩:=h2;obtain⟨its2,v2,hl2⟩:=zBY ok hb;cases r2;exact SeqAt.RcNeAt.str_tuple a t1 hl2 hu'
 |lst ds=>
  have hdl:Dat.depL ds+1<=n:=by rw[Dat.dep]at hd;exact hd
  obtain⟨p,xs,rfl,ha,q1⟩:=h1;obtain⟨its,v1,hl1⟩:=zB8 ok ha;cases r1;cases e with
  |non=>
   cases h2;cases r2;exact SeqAt.RcNeAt.list_none hl1 hu'
  |bl b=>
   cases h2;cases r2;exact SeqAt.RcNeAt.list_bool b hl1 hu'
  |int b=>
   cases h2;obtain⟨t2,rfl⟩:=r2;exact SeqAt.RcNeAt.list_int b t2 hl1 hu'
  |str b=>
   cases h2;obtain⟨t2,rfl⟩:=r2;exact SeqAt.RcNeAt.list_str b t2 hl1 hu'
  |lst es=>
   obtain⟨p2,ys,rfl,hb,q2⟩:=h2;obtain⟨its2,v2,hl2⟩:=zB8 ok hb;cases r2;have len1:its.toArray.size=ds.length:=by have:=v1.length;have:=q1.length;simp;lia
   have len2:its2.toArray.size=es.length:=by have:=v2.length;have:=q2.length;simp;lia
   show qMb A s (.ref p) (.ref p2) (!Dat.eqL ds es);by_cases hs:ds.length=es.length
   ·have:=SeqAt.RcNeAt.lists (A:=A) (s:=s) hl1 hl2 (by rw[len1,len2,hs]) hu' (zHB ok (by lia) (by rw[zEK];lia:A.in1.units+(n-1)<cLine) q1 q2 v1 v2)
    rw[len1,Dat.eqL_all hs _ (fun j h1 h2=>by rw[qA3,qA3];simp[h1,h2])]at this;exact this
   ·rw[Dat.eqL_len hs];exact SeqAt.RcNeAt.lists_lengths hl1 hl2 (by rw[len1,len2];simpa using hs) hu'
  |tup es=>
   obtain⟨p2,ys,rfl,hb,q2⟩:=h2;obtain⟨its2,v2,hl2⟩:=zBY ok hb;cases r2;exact SeqAt.RcNeAt.list_tuple hl1 hl2 hu'
 |tup ds=>
  have hdl:Dat.depL ds+1<=n:=by rw[Dat.dep]at hd;exact hd
  obtain⟨p,xs,rfl,ha,q1⟩:=h1;obtain⟨its,v1,hl1⟩:=zBY ok ha;cases r1;cases e with
  |non=>
   cases h2;cases r2;exact SeqAt.RcNeAt.tuple_none hl1 hu'
  |bl b=>
   cases h2;cases r2;exact SeqAt.RcNeAt.tuple_bool b hl1 hu'
  |int b=>
   cases h2;obtain⟨t2,rfl⟩:=r2;exact SeqAt.RcNeAt.tuple_int b t2 hl1 hu'
  |str b=>
   cases h2;obtain⟨t2,rfl⟩:=r2;exact SeqAt.RcNeAt.tuple_str b t2 hl1 hu'
  |lst es=>
   obtain⟨p2,ys,rfl,hb,q2⟩:=h2;obtain⟨its2,v2,hl2⟩:=zB8 ok hb;cases r2;exact SeqAt.RcNeAt.tuple_list hl1 hl2 hu'
  |tup es=>
   obtain⟨p2,ys,rfl,hb,q2⟩:=h2;obtain⟨its2,v2,hl2⟩:=zBY ok hb;cases r2;have len1:its.toArray.size=ds.length:=by have:=v1.length;have:=q1.length;simp;lia
   have len2:its2.toArray.size=es.length:=by have:=v2.length;have:=q2.length;simp;lia
   show qMb A s (.ref p) (.ref p2) (!Dat.eqL ds es);have:=SeqAt.RcNeAt.tuples (A:=A) (s:=s) hl1 hl2 hu' (zHB ok (by lia) (by rw[zEK];lia:A.in1.units+(n-1)<cLine) q1 q2 v1 v2)
   by_cases hs:ds.length=es.length
   ·rw[len1,len2,<- hs,qGq,beq_self_eq_true,qF2,Dat.eqL_all hs _ (fun j h1 h2=>by rw[qA3,qA3];simp[h1,h2])]at this;exact this
   ·rw[len1,len2,show(ds.length==es.length)=false by simpa using hs,qE4]at this;rw[Dat.eqL_len hs];exact this
end
section
variable{X:Cx}
def rEqD:R2:=fun x y H Q=>∃d e,Rep H d x/\Rep H e y/\d.dep<=40/\Q (.bl (Dat.eq d e)) H
def rNeD:R2:=fun x y H Q=>∃d e,Rep H d x/\Rep H e y/\d.dep<=40/\Q (.bl (!Dat.eq d e)) H
def zb2(hu:X.A.units+64<cLine):OpR X (compareOp .Eq) rEqD:=by
 intro pins s σ H x y v u Q I rx ry h;obtain⟨d,e,h1,h2,hd,q⟩:=h;exact zU5 40 hd I.hok h1 h2 rx ry (by lia) _ _ _ _ ⟨.bl _,H,I,rfl,q⟩
def zb0(hu:X.A.units+64<cLine):OpR X (compareOp .NotEq) rNeD:=by
 intro pins s σ H x y v u Q I rx ry h;obtain⟨d,e,h1,h2,hd,q⟩:=h;exact zPY 40 hd I.hok h1 h2 rx ry (by lia) _ _ _ _ ⟨.bl _,H,I,rfl,q⟩
def zHJ(H:Hp):V->Option String
 |.non=>some "NoneType"
 |.bl _=>some "bool"
 |.int _=>some "int"
 |.str _=>some "str"
 |.ref a=>match H a with
  |some (.lst _)=>some "list"
  |some (.tup _)=>some "tuple"
  |some (.dK _)=>some "dict"
  |_=>none
 |_=>none
def zYR(T n:String):Bool:=T==n||(T == "bool" && n == "int")
def zO3:zDI X (.builtin "isinstance") (fun vs H Q=>∃x n T,vs=[x,.ty n]/\zHJ H x=some T/\n∈["int","bool","str","list","tuple","dict"]/\Q (.bl (zYR T n)) H):=by
 intro pins s σ H vs us Q I r h;obtain⟨x,n,T,rfl,ht,hn,q⟩:=h;obtain⟨u,w',rfl,rx,rn⟩:=zQS r;cases(show w'=qJ9 n from rn)
 have key:∃t,TyOf X.K H x t/\t=.type T:=by
  cases x with
  |non=>cases ht;exact⟨_,.non,rfl⟩
  |bl b=>cases ht;exact⟨_,.bl b,rfl⟩
  |int b=>cases ht;exact⟨_,.int b,rfl⟩
  |str b=>cases ht;exact⟨_,.str b,rfl⟩
  |ref a=>
   unfold zHJ at ht;dsimp only at ht;cases e:H a with
   |none=>rw[e]at ht;cases ht
   |some o=>
    rw[e]at ht;cases o with
    |lst xs=>cases ht;exact⟨_,.lst e,rfl⟩
    |tup xs=>cases ht;exact⟨_,.tup e,rfl⟩
    |dK xs=>cases ht;exact⟨_,.dK e,rfl⟩
    |_=>cases ht
  |_=>cases ht
 obtain⟨t,ty,rfl⟩:=key;have hT:T∈["NoneType","bool","int","str","list","tuple","dict"]:=by
  cases x with
  |non=>cases ht;decide
  |bl b=>cases ht;decide
  |int b=>cases ht;decide
  |str b=>cases ht;decide
  |ref a=>
   unfold zHJ at ht;dsimp only at ht;cases e:H a with
   |none=>rw[e]at ht;cases ht
   |some o=>
    rw[e]at ht;cases o with
    |lst xs=>cases ht;decide
    |tup xs=>cases ht;decide
    |dK xs=>cases ht;decide
    |_=>cases ht
  |_=>cases ht
 have e:qHh X.K (.type T) (.type n)=some (zYR T n):=by
  simp only[qAb,List.mem_nil_iff,or_false]at hT hn;rcases hT with rfl|rfl|rfl|rfl|rfl|rfl|rfl<;>rcases hn with rfl|rfl|rfl|rfl|rfl|rfl<;>rfl
 exact zSH I rx ty e fun tk=>⟨.bl _,H,I.tok tk,rfl,q⟩
def zI1(lo:Int)(n:Nat):List V:=(qA9 n).map fun i=>.int (lo+(i:Nat))
def zHH:∀{xs:List V}{its:List Value},xs.length=its.length->(∀(j:Nat)(x:V)(v:Value),xs[j]?=some x->its[j]?=some v->RelV x v)->Vals xs its
 |[],[],_,_=>.nil
 |[],_::_,h,_=>by simp at h
 |_::_,[],h,_=>by simp at h
 |x::xs,v::its,h,g=>.cons (g 0 x v rfl rfl) (zHH (by simpa using h) fun j y u e1 e2=>g (j+1) y u (by simpa using e1) (by simpa using e2))
def zQR{lo:Int}{n:Nat}{its:List Value}(hl:its.length=n)(h:∀(j:Nat) (v:Value),its[j]?=some v->∃t,v=qLm (lo+(j:Int)*1) t):Vals (zI1 lo n) its:=by
 refine zHH (by simp[zI1,hl]) fun j x v e1 e2=>?_
 unfold zI1 at e1;rw[qAd]at e1;cases e:(qA9 n)[j]? with
 |none=>rw[e]at e1;cases e1
 |some i=>
  rw[e]at e1;cases e1;have hi:i=j:=by
   obtain⟨h1,h2⟩:=qA2.mp e;rw[qEo]at h2;exact h2.symm
  subst hi;obtain⟨t,ht⟩:=h i v e2;exact⟨t,by rw[ht,qGx]⟩
def zT7:zDI X (.type "range") (fun vs H Q=>∃j:Int,vs=[.int j]/\∀p,H p=none->Q (.ref p) (upd H p (.rng 0 j))):=by
 intro pins s σ H vs us Q I r h;obtain⟨j,rfl,q⟩:=h;obtain⟨u,rfl,rx⟩:=zE0 r;obtain⟨t,rfl⟩:=rx;exact call_range_1 ⟨.ref _,_,I.laid (o:=.rng 0 j) (fun b o e=>qIj _ e) (qA5 _) ⟨_,_,_,qIm _ rfl⟩,rfl,q _ I.fresh⟩
def zT6:zDI X (.type "range") (fun vs H Q=>∃i j:Int,vs=[.int i,.int j]/\∀p,H p=none->Q (.ref p) (upd H p (.rng i j))):=by
 intro pins s σ H vs us Q I r h;obtain⟨i,j,rfl,q⟩:=h;obtain⟨u,u',rfl,rx,rx'⟩:=zQS r;obtain⟨t,rfl⟩:=rx;obtain⟨t',rfl⟩:=rx';exact call_range_2 ⟨.ref _,_,I.laid (o:=.rng i j) (fun b o e=>qIj _ e) (qA5 _) ⟨_,_,_,qIm _ rfl⟩,rfl,q _ I.fresh⟩
def zKQ(hc:X.calm=true):zDI X (.type "list") (fun vs H Q=>∃p lo hi,vs=[.ref p]/\H p=some (.rng lo hi)/\(-(2 ^ 62)<=lo/\lo<2 ^ 62/\-(2 ^ 62)<=hi/\hi<2 ^ 62)/\hi-lo<=1000000/\∀l,H l=none->Q (.ref l) (upd H l (.lst (zI1 lo (hi-lo).toNat)))):=by
 intro pins s σ H vs us Q I r h;obtain⟨p,lo,hi,rfl,hp,⟨b1,b2,b3,b4⟩,hz,q⟩:=h;obtain⟨u,rfl,rx⟩:=zE0 r;cases rx;obtain⟨t,u,v,e⟩:=(show ObjOk X.prog X.w H s.heap p (.rng lo hi) from I.hok p _ hp)
 have hn:qKv lo hi 1=(((hi-lo).toNat:Nat):Int):=by rw[rangeSize_one];split<;>lia
 refine call_list_range (n:=(hi-lo).toNat) (I.ok.hd hc) e (small_one b1 b2 b3 b4) hn (by lia) fun h' tk acc' c' hk hS hacc=>?_
 have rv:Vals (zI1 lo (hi-lo).toNat) acc'.toList:=zQR (by simpa using hacc.1) fun j v hj=>hacc.2 j v (by simpa using hj)
 refine⟨.ref _,_,I.laid (o:=.lst (zI1 lo (hi-lo).toNat)) hk (qA5 _) ⟨?_,acc'.toList,c',rv,by simpa using hS⟩,rfl,q _ I.fresh⟩;have hl:(zI1 lo (hi-lo).toNat).length=(hi-lo).toNat:=by simp[zI1]
 rw[hl,qJ6];lia
def zaK:R2:=fun x y H Q=>match x,y with
 |.int i,.int j=>Q (.int (i+j)) H
 |.str i,.str j=>i.length+j.length<=sizeLine/\Q (.str (i++j)) H
 |.ref l,.ref b=>∃xs zs,H l=some (.lst xs)/\H b=some (.lst zs)/\xs.length+zs.length<=sizeLine/\∀p,H p=none->Q (.ref p) (upd H p (.lst (xs++zs)))
 |_,_=>False
def zC0:OpR X (binaryOp .Add) zaK:=by
 intro pins s σ H x y v u Q I rx ry h;cases x<;>cases y<;>first
  |exact zb4 pins s σ H _ _ v u Q I rx ry ⟨_,_,rfl,rfl,h⟩
  |exact zPZ pins s σ H _ _ v u Q I rx ry ⟨_,_,rfl,rfl,h.1,h.2⟩
  |(obtain⟨xs,zs,h1,h2,h3,h4⟩:=h;exact zb3 pins s σ H _ _ v u Q I rx ry ⟨_,_,xs,zs,rfl,rfl,h1,h2,h3,h4⟩)
  |exact qA4 h
def rMulU:R2:=fun x y H Q=>match x,y with
 |.int i,.int j=>CMul i j/\Q (.int (i*j)) H
 |_,_=>False
def za8:R2:=fun x y H Q=>match x,y with
 |.int i,.int j=>Q (.int (i-j)) H
 |_,_=>False
def zZP:OpR X (binaryOp .Sub) za8:=by
 intro pins s σ H x y v u Q I rx ry h;cases x<;>cases y<;>first
  |exact zaX pins s σ H _ _ v u Q I rx ry ⟨_,_,rfl,rfl,h⟩
  |exact qA4 h
def zaG:R2:=fun x y H Q=>match x,y with
 |.int i,.int j=>0<j/\Q (.int (i%j)) H
 |_,_=>False
def zD7:OpR X (binaryOp .Mod) zaG:=by
 intro pins s σ H x y v u Q I rx ry h;cases x<;>cases y<;>first
  |exact zb1 pins s σ H _ _ v u Q I rx ry ⟨_,_,rfl,rfl,h.1,h.2⟩
  |exact qA4 h
def zaC:R2:=fun x y H Q=>match x,y with
 |.int i,.int j=>CPow i j/\Q (.int (i ^ j.toNat)) H
 |_,_=>False
def zcU:OpR X (binaryOp .Pow) zaC:=by
 intro pins s σ H x y v u Q I rx ry h;cases x<;>cases y<;>first
  |exact zaZ pins s σ H _ _ v u Q I rx ry ⟨_,_,rfl,rfl,h.1,h.2⟩
  |exact qA4 h
def zaE:V->Hp->VK->Prop:=fun x H Q=>match x with
 |.int i=>Q (.int (-i)) H
 |_=>False
def zZQ:UnR X (unaryOp .USub) zaE:=by
 intro pins s σ H x v Q I rx h;cases x<;>first
  |exact zZO pins s σ H _ v Q I rx ⟨_,rfl,h⟩
  |exact qA4 h
def zY0(p:Int->Int->Bool):R2:=fun x y H Q=>match x,y with
 |.int i,.int j=>Q (.bl (p i j)) H
 |_,_=>False
def u_lt:OpR X (compareOp .Lt) (zY0 fun i j=>decide (i<j)):=by
 intro pins s σ H x y v u Q I rx ry h;cases x<;>cases y<;>first
  |exact zdA pins s σ H _ _ v u Q I rx ry ⟨_,_,rfl,rfl,h⟩
  |exact qA4 h
def u_gt:OpR X (compareOp .Gt) (zY0 fun i j=>decide (j<i)):=by
 intro pins s σ H x y v u Q I rx ry h;cases x<;>cases y<;>first
  |exact zdB pins s σ H _ _ v u Q I rx ry ⟨_,_,rfl,rfl,h⟩
  |exact qA4 h
def rEqU:R2:=fun x y H Q=>match x,y with
 |.int i,.int j=>Q (.bl (decide (i=j))) H
 |.str i,.str j=>Q (.bl (decide (i=j))) H
 |.bl i,.bl j=>Q (.bl (decide (i=j))) H
 |x,y=>rEqD x y H Q
def rNeU:R2:=fun x y H Q=>match x,y with
 |.int i,.int j=>Q (.bl (!decide (i=j))) H
 |.str i,.str j=>Q (.bl (!decide (i=j))) H
 |.bl i,.bl j=>Q (.bl (!decide (i=j))) H
 |x,y=>rNeD x y H Q
def u_eq(hu:X.A.units+64<cLine):OpR X (compareOp .Eq) rEqU:=by
 intro pins s σ H x y v u Q I rx ry h;cases x<;>cases y<;>first
  |(refine zdC pins s σ H _ _ v u Q I rx ry ⟨rfl,?_⟩;have h':=h;simp only[rEqU]at h';simpa using h')
  |exact zb2 hu pins s σ H _ _ v u Q I rx ry h
def u_ne(hu:X.A.units+64<cLine):OpR X (compareOp .NotEq) rNeU:=by
 intro pins s σ H x y v u Q I rx ry h;cases x<;>cases y<;>first
  |(refine zd9 pins s σ H _ _ v u Q I rx ry ⟨rfl,?_⟩;have h':=h;simp only[rNeU]at h';simpa using h')
  |exact zb0 hu pins s σ H _ _ v u Q I rx ry h
def rIxU(K:qA0):R2:=fun x y H Q=>match x,y with
 |.str z,.int i=>∃c,z.length<=sizeLine/\atI z.cps.toList i=some c/\Q (.str ⟨#[c]⟩) H
 |.ref p,.int i=>∃xs v,(SqL K H p xs\/SqT K H p xs)/\atI xs i=some v/\Q v H
 |_,_=>False
def u_ix:IxR X (rIxU X.K):=by
 intro value slice pins s σ H x y v u Q I rx ry h hs;cases x<;>cases y<;>first
  |(obtain⟨c,h1,h2,h3⟩:=h;exact zbL value slice pins s σ H _ _ v u Q I rx ry ⟨_,_,c,rfl,rfl,h1,h2,h3⟩ hs)
  |(obtain⟨xs,w,h1|h1,h2,h3⟩:=h
    ·exact zYO value slice pins s σ H _ _ v u Q I rx ry ⟨_,xs,_,w,rfl,rfl,h1,h2,h3⟩ hs
    ·exact zbJ value slice pins s σ H _ _ v u Q I rx ry ⟨_,xs,_,w,rfl,rfl,h1,h2,h3⟩ hs)
  |exact qA4 h
def zXZ(K:qA0):List V->Hp->VK->Prop:=fun vs H Q=>match vs with
 |[.str z]=>z.length<=sizeLine/\Q (.int z.length) H
 |[.ref p]=>∃xs,(SqL K H p xs\/SqT K H p xs)/\Q (.int xs.length) H
 |_=>False
def zdF:zDI X (.builtin "len") (zXZ X.K):=by
 intro pins s σ H vs us Q I r h;cases vs with
 |nil=>exact qA4 h
 |cons hd1 tl1=>
  cases hd1 with
  |str z=>
   cases tl1 with
   |nil=>
    exact zMN pins s σ H _ us Q I r ⟨z,rfl,h.1,h.2⟩
   |cons _ _=>exact qA4 h
  |ref p=>
   cases tl1 with
   |nil=>
    obtain⟨xs,h1,h2⟩:=h;exact zMO pins s σ H _ us Q I r ⟨p,xs,rfl,h1,h2⟩
   |cons _ _=>exact qA4 h
  |_=>exact qA4 h
def zJ4(K:qA0):List V->Hp->VK->Prop:=fun vs H Q=>match vs with
 |[.ref p]=>(∃xs,(SqL K H p xs\/SqT K H p xs)/\∀l,H l=none->Q (.ref l) (upd H l (.lst xs))) \/
   ∃lo hi,H p=some (.rng lo hi)/\(-(2 ^ 62)<=lo/\lo<2 ^ 62/\-(2 ^ 62)<=hi/\hi<2 ^ 62)/\hi-lo<=1000000/\∀l,H l=none->Q (.ref l) (upd H l (.lst (zI1 lo (hi-lo).toNat)))
 |_=>False
def zF2(hc:X.calm=true):zDI X (.type "list") (zJ4 X.K):=by
 intro pins s σ H vs us Q I r h;cases vs with
 |nil=>exact qA4 h
 |cons hd1 tl1=>
  cases hd1 with
  |ref p=>
   cases tl1 with
   |nil=>
    rcases h with⟨xs,h1,h2⟩|⟨lo,hi,h1,h2,h3,h4⟩
    ·exact zMM pins s σ H _ us Q I r ⟨p,xs,rfl,h1,h2⟩
    ·exact zKQ hc pins s σ H _ us Q I r ⟨p,lo,hi,rfl,h1,h2,h3,h4⟩
   |cons _ _=>exact qA4 h
  |_=>exact qA4 h
def zRI:List V->Hp->VK->Prop:=fun vs H Q=>match vs with
 |[.int j]=>∀p,H p=none->Q (.ref p) (upd H p (.rng 0 j))
 |[.int i,.int j]=>∀p,H p=none->Q (.ref p) (upd H p (.rng i j))
 |_=>False
def zYM:zDI X (.type "range") zRI:=by
 intro pins s σ H vs us Q I r h
 match vs,h with
 |[.int j],h=>exact zT7 pins s σ H _ us Q I r ⟨j,rfl,h⟩
 |[.int i,.int j],h=>exact zT6 pins s σ H _ us Q I r ⟨i,j,rfl,h⟩
def zaH:List V->Hp->VK->Prop:=fun vs H Q=>match vs with
 |[x,.ty n]=>∃T,zHJ H x=some T/\n∈["int","bool","str","list","tuple","dict"]/\Q (.bl (zYR T n)) H
 |_=>False
def zD0:zDI X (.builtin "isinstance") zaH:=by
 intro pins s σ H vs us Q I r h;cases vs with
 |nil=>exact qA4 h
 |cons x tl1=>
  cases tl1 with
  |nil=>exact qA4 h
  |cons hd2 tl2=>
   cases hd2 with
   |ty n=>
    cases tl2 with
    |nil=>
     obtain⟨T,h1,h2,h3⟩:=h;exact zO3 pins s σ H _ us Q I r ⟨x,n,T,rfl,h1,h2,h3⟩
    |cons _ _=>exact qA4 h
   |_=>exact qA4 h
end
def zMI(N N':List Str)(k:Nat)(sc esc:Scope):Bool:=
 (sc.kind==.function)&&decide ((sc.names.map (·.1)).Nodup)&&(N'.length==N.length+k) &&
 ((qA9 N.length).all fun i=>match N'[i]? with
  |none=>true
  |some x=>(sc.names.lookup x==none)||(sc.names.any (fun p=>p.1==x&&p.2==.free)&&N[i]?==some x)) &&
 (sc.names.all fun p=>p.2 != .free||esc.names.lookup p.1==some .cell||esc.names.lookup p.1==some .free)
def cn{X:Cx}{sc:Scope}(N':List Str)(k:Nat)(h:zMI X.N N' k sc X.env.scope=true):CompNames X.N N' k sc X.env:=by
 unfold zMI at h;simp only[qBh,decide_eq_true_eq,beq_iff_eq]at h;obtain⟨⟨⟨⟨h1,h2⟩,h3⟩,h4⟩,h5⟩:=h;refine⟨h1,h2,h3,fun i x e hi=>?_,fun x hx=>?_⟩
 ·have q:=qEb.mp h4 i (qCw.mpr hi);rw[e]at q;simp only[qGz,qBh,beq_iff_eq,List.any_eq_true]at q
  rcases q with q|⟨⟨p,hp,e1,e2⟩,e3⟩
  ·exact .inr q
  ·obtain⟨y,kk⟩:=p;dsimp only at e1 e2;subst e1;subst e2;exact .inl ⟨hp,e3⟩
 ·have q:=qEb.mp h5 _ hx;simp only[qGz,bne_iff_ne,ne_eq,not_true_eq_false,false_or,beq_iff_eq]at q;exact q
def PE.imp{X:Cx}{e:Expr}{t t':TE}(h:PE X e t)(i:∀σ H Q,t' σ H Q->t σ H Q):PE X e t':=fun pins s σ H Q I q=>h pins s σ H Q I (i σ H Q q)
def vM(i:Nat):TE:=fun σ H Q=>match σ[i]? with
 |some (some v)=>Q v H
 |_=>False
def pn{X:Cx}(i:Nat){x:Str}{pos:Pos}(hN:X.N[i]?=some x:=by rfl)(hv:Vis X.env.scope x:=by first|exact qHw rfl|exact qG8 (qHw rfl)|exact qG8 (qG8 rfl))(hd:(x==("__debug__":Str))=false:=by decide)
  (hcd:(x==("__classdict__":Str))=false:=by decide):PE X (.Name x pos) (vM i):=(zRO hN hv hd hcd).imp fun σ H Q h=>by
 unfold vM at h;cases e:σ[i]? with
 |none=>rw[e]at h;exact qA4 h
 |some w=>
  rw[e]at h;cases w with
  |none=>exact qA4 h
  |some v=>exact⟨v,e,h⟩
def bM(t:TE):TT:=fun σ H Q=>t σ H fun x H'=>match x with
 |.bl k=>Q k H'
 |.int i=>Q (i != 0) H'
 |.non=>Q false H'
 |_=>False
section
variable{X:Cx}{a b c:Expr}{ta tb:TE}{rest:List Expr}{pos:Pos}
def zZS{K:qA0}{x:V}{H:Hp}{Q:Bool->Hp->Prop}(h:match x with | .bl k=>Q k H | .int i=>Q (i != 0) H | .non=>Q false H|_=>False):∃k,TruV K x H k/\Q k H:=by
 cases x with
 |bl k=>exact⟨k,rfl,h⟩
 |int i=>exact⟨_,rfl,h⟩
 |non=>exact⟨_,rfl,h⟩
 |_=>exact qA4 h
def pt_m(ha:PE X a ta)(he:∀whole,isTrue a X.env whole=(do let v <- whole;qMl a.pos;holding [v] (truthy v)):=by intro _;rfl):PT X a (bM ta):=by
 intro pins s σ H Q I h;refine isTrue_plain (thn (ha pins s σ H _ I h) fun v s1 z0=>?_) (he _);obtain⟨x,H1,I1,r1,q1⟩:=z0;exact thn (zZR pins s1 σ H1 x v Q I1 r1 (zZS q1)) fun _ _ q=>q
def zDR{op:CmpOp}{r:R2}(ho:OpR X (compareOp op) r)(ha:PE X a ta)(hb:PE X b tb)(hm:qKw op b=false):PT X (.Compare a [op] [b] pos) (fun σ H Q=>ta σ H fun x H1=>tb σ H1 fun y H2=>r x y H2 fun z H3=>match z with | .bl k=>Q k H3|_=>False):=by
 intro pins s σ H Q I h;refine wpAny_isTrue_Compare1 (thn (ha pins s σ H _ I h) fun v s1 ⟨x,H1,I1,r1,q1⟩=>thn (hb pins s1 σ H1 _ I1 q1) fun u s2 ⟨y,H2,I2,r2,q2⟩=>
  thn (ho pins s2 σ H2 x y v u _ I2 r1 r2 q2) fun d s3 ⟨z,H3,I3,r3,q3⟩=>?_) hm
 cases z with
 |bl k=>cases r3;exact qKq ⟨H3,I3,q3⟩
 |_=>exact qA4 q3
def zUF(ha:PE X a ta)(hb:PE X (.BoolOp .And (b::rest) pos) tb):PE X (.BoolOp .And (a::b::rest) pos) (fun σ H Q=>ta σ H fun x H1=>match x with | .bl c=>if c=true then tb σ H1 Q else Q (.bl false) H1|_=>False):=by
 intro pins s σ H Q I h;refine BoolOp_and (thn (ha pins s σ H _ I h) fun v s1 z0=>?_);obtain⟨x,H1,I1,r1,q1⟩:=z0;cases x with
 |bl c=>
  cases r1;refine qKq ?_;cases c with
  |true=>exact hb pins s1 σ H1 Q I1 (by simpa using q1)
  |false=>exact⟨.bl false,H1,I1,rfl,by simpa using q1⟩
 |_=>exact qA4 q1
def setM:V->V->V->Hp->(Hp->Prop)->Prop:=fun o i v H Q=>match o,i with
 |.ref p,.int k=>∃xs j,H p=some (.lst xs)/\ixN xs.length k=some j/\Q (upd H p (.lst (xs.set j v)))
 |_,_=>False
def zQW:PSet X setM:=by
 intro pins s σ H o i v ov iv u Q I ro ri rv h;cases o<;>cases i<;>first
  |(obtain⟨xs,j,h1,h2,h3⟩:=h;exact zTW pins s σ H _ _ v ov iv u Q I ro ri rv ⟨_,xs,_,j,rfl,rfl,h1,h2,h3⟩)
  |exact qA4 h
def appM:V->List V->Hp->VK->Prop:=fun x vs H Q=>match x,vs with
 |.ref l,[y]=>∃xs,H l=some (.lst xs)/\xs.length<sizeLine/\Q .non (upd H l (.lst (xs++[y])))
 |_,_=>False
def zNM:MtR X "list.append" appM:=by
 intro pins s σ H x vs v us Q I rx rv h;cases x with
 |ref l=>
  cases vs with
  |nil=>exact qA4 h
  |cons y t=>
   cases t with
   |nil=>
    obtain⟨xs,h1,h2,h3⟩:=h;exact zS5 pins s σ H _ _ v us Q I rx rv ⟨l,xs,y,rfl,rfl,h1,h2,h3⟩
   |cons _ _=>exact qA4 h
 |_=>exact qA4 h
def popM:V->List V->Hp->VK->Prop:=fun x vs H Q=>match x,vs with
 |.ref l,[.int i]=>∃xs k y,H l=some (.lst xs)/\(-(2 ^ 63)<=i/\i<2 ^ 63)/\qMm i xs.length=some k/\xs[k]?=some y/\Q y (upd H l (.lst (xs.eraseIdx k)))
 |.ref l,[]=>∃xs y,H l=some (.lst xs)/\xs[xs.length-1]?=some y/\Q y (upd H l (.lst xs.dropLast))
 |_,_=>False
def zYG:MtR X "list.pop" popM:=by
 intro pins s σ H x vs v us Q I rx rv h;cases x with
 |ref l=>
  cases vs with
  |nil=>
   obtain⟨xs,y,h1,h2,h3⟩:=h;exact zb9 pins s σ H _ _ v us Q I rx rv ⟨l,xs,y,rfl,rfl,h1,h2,h3⟩
  |cons y t=>
   cases y with
   |int i=>
    cases t with
    |nil=>
     obtain⟨xs,k,y,h1,h2,h3,h4,h5⟩:=h;exact zUN pins s σ H _ _ v us Q I rx rv ⟨l,xs,i,k,y,rfl,rfl,h1,h2.1,h2.2,h3,h4,h5⟩
    |cons _ _=>exact qA4 h
   |_=>exact qA4 h
 |_=>exact qA4 h
end
def pt_w{X:Cx}{e:Expr}{t:TT}(h:PW X e t):PT X e t:=h.pt
def Has(P:qIo)(w:World)(K:qA0)(mg:Str->Option Value)(base:Heap)(x:Str)(k:Nat)(ps:List Str)(sp:Sp):Prop:=
 ∃f fd,FnOk P w K mg base CX0 k f fd ps sp/\mg x=some (.ref f)/\qAk K (.ref f)=true/\Binds K fd ps []
def Def(K:qA0)(mg:Str->Option Value)(x:Str)(st:Stmt):Prop:=∃f fd,Fun K x x st f fd/\mg x=some (.ref f)
section
variable{X:Cx}{x:Str}{j k:Nat}{ps:List Str}{sp:Sp}{e:Expr}{es:List Expr}{t:TA}{p pos:Pos}
def zDK(h:Has X.prog X.w X.K X.mg X.base x j ps sp)(hjk:j<=k)(hr:Room k X.A)(hg:Gl X x)(ha:PA X (e::es) t)(hdb:(x==("__debug__":Str))=false:=by decide)
  (he:starEach (e::es) X.env=(false,eval e X.env)::starEach es X.env:=by rfl) (hpl:(backTo pos (starEach es X.env)).any (·.1)=false:=by rfl):PE X (.Call (.Name x p) (e::es) [] pos) (zN7 sp [] E0 t):=by
 obtain⟨f,fd,G,m,kp,b⟩:=h;exact zRU G (hr.mono hjk) hg m kp b .nil zd7 ha hdb he hpl
end
section
variable{P:qIo}{w:World}{K:qA0}{mg:Str->Option Value}{base:Heap}
def Def.ok{x:Str}{st:Stmt}{N ps:List Str}{k:Nat}{sp:Sp}(D:Def K mg x st)(S:FnScope N ps (zA6 st))
  (hb:∀(kV doc pm:Value)(an:Option Addr)(cdv ct:Value)(us:List Value),us.length=ps.length->bindArgs (qAx x x (zB9 st) (zAQ st) (zA6 st) .none kV doc pm an cdv ct) ⟨us,[]⟩=pure (ps.zip us))
  (len:∀vs H Q E,sp vs H Q E->vs.length=ps.length)
  (hbody:∀(f:Addr)(cdv:Value)(A:qIr)(outer:List Env)(s:qIk)(H:Hp)(vs:List V)(Q:VK)(E:XK),Room k (A.deeper (envOfC x (zA6 st) s.heap.objs.size f cdv))->sp vs H Q E ->
   ∃t,PSs (cxOf CX0 P w K mg base N x (zA6 st) f cdv A outer s H E).nox (zAQ st) t/\t { nx:=fun _ H'=>Q .non H',rt:=Q } (start N vs) H):Has P w K mg base x (k+1) ps sp:=by
 obtain⟨f,fd,F,m⟩:=D;exact⟨f,fd,F.ok S len (fun cdv A outer s H vs Q E hr h=>hbody f cdv A outer s H vs Q E hr h),m,F.kp,F.binds hb⟩
end
section
variable{X:Cx}{pins:List (Addr×Obj)}{σ:St}{H:Hp}{s:qIk}
def Inv.turnedNew{h':Heap}{t':Nat}{fp:List Addr}{a:Addr}{o:HO}(I:Inv X pins σ H s)(hf:∀b∈fp,FpOk X pins H b)(k:∀b u,b∉fp->s.heap.get? b=some u->h'.get? b=some u)
  (hp:s.heap.objs.size<=a) (new:ObjOk X.prog X.w (upd H a o) h' a o):Inv X pins σ (upd H a o) { s with heap:=h',toks:=t' }:=by
 have hn:H a=none:=I.hok.fresh hp;have ne:∀b u,s.heap.get? b=some u->b≠a:=fun b u e=>qAl (qAi (qIl e) hp)
 have nfp:∀b u,H b=some u->b∉fp:=fun b u e z=>by rw[(hf b z).1]at e;cases e
 refine I.step (g':=s.gens) (d':=s.drawn) (ch:=fp) (fun b hb=>⟨(hf b hb).2.2.2.1,(hf b hb).2.1,(hf b hb).2.2.2.2.1,(hf b hb).2.2.2.2.2⟩) (fun b u _ _ hc e _=>k b u hc e) (fun b u _ _ hc e _=>⟨u.slots,k b u hc e⟩)
  (fun b u _ e n=>by rw[zA5 (ne b u e)];exact n) (fun b u hc e=>⟨u,k b u hc e⟩) (fun b xs e=>by rw[zA5 (zAI e hn)];exact e) (fun b u xs e=>by rw[zA5 (zAI e hn)];exact e)
  (fun b ps e=>⟨#[],by rw[zA5 (zAI e hn),e];simp⟩) (fun m hm=>?_) (fun b u e=>?_) I.bare
 ·obtain⟨u,es,ep,ho,r⟩:=hm;exact⟨u,es,ep,k _ u (fun z=>(hf _ z).2.1 rfl) ho,r⟩
 ·by_cases hb:b=a
  ·subst hb;rw[zA8]at e;cases e;exact new
  ·rw[zA5 hb]at e;refine(I.hok b u e).stay (fun c v hc q=>k c v ?_ q) (fun c q=>by rw[zA5 (zAI q hn)];exact q) (fun c xs q=>by rw[zA5 (zAI q hn)];exact q) fun c _ _ q _=>by rw[zA5 (zAI q hn)];exact q
   rcases hc with z|z
   ·rw[z];exact nfp b u e
   ·exact nfp c _ z
def Inv.turnedL{h':Heap}{t':Nat}{fp:List Addr}(I:Inv X pins σ H s)(hf:∀b∈fp,FpOk X pins H b)(k:∀b u,b∉fp->s.heap.get? b=some u->h'.get? b=some u):Inv X pins σ H { s with heap:=h',toks:=t' }:=by
 have nfp:∀b u,H b=some u->b∉fp:=fun b u e z=>by rw[(hf b z).1]at e;cases e
 refine I.step (g':=s.gens) (d':=s.drawn) (ch:=fp) (fun b hb=>⟨(hf b hb).2.2.2.1,(hf b hb).2.1,(hf b hb).2.2.2.2.1,(hf b hb).2.2.2.2.2⟩) (fun b u _ _ hc e _=>k b u hc e) (fun b u _ _ hc e _=>⟨u.slots,k b u hc e⟩)
  (fun b u _ e n=>n) (fun b u hc e=>⟨u,k b u hc e⟩) (fun b xs e=>e) (fun b u xs e=>e)
  (fun b ps e=>⟨#[],by rw[e];simp⟩) (fun m hm=>?_) (fun b u e=>?_) I.bare
 ·obtain⟨u,es,ep,ho,r⟩:=hm;exact⟨u,es,ep,k _ u (fun z=>(hf _ z).2.1 rfl) ho,r⟩
 ·refine(I.hok b u e).stay (fun c v hc q=>k c v ?_ q) (fun c q=>q) (fun c xs q=>q) fun c _ _ q _=>q
  rcases hc with z|z
  ·rw[z];exact nfp b u e
  ·exact nfp c _ z
def Ite(K:qA0)(a:Addr):It:=
 ⟨fun i H=>∃xs x,SqL K H a xs/\xs[i]?=some x,fun i H x H'=>∃T y,x=.ref T/\H T=none/\H'=upd H T (.tup [.int i,y])/\∀xs,SqL K H a xs->xs[i]?=some y,fun i H=>∃xs,SqL K H a xs/\xs.length<=i⟩
def zL2{P:qIo}{w:World}{K:qA0}{ts:List Expr}{kk:Nat}{tp:Pos}(a e it:Addr)(hei:e≠it) :
  Turn P w K (.Tuple ts kk tp) (Ite K a) [e,it] e (fun i h=>(∃old,IsEnum h e it i old)/\h.IsListIter it a i) where
 mem:=by simp
 obj:=fun i h st b hb=>by
  rcases qAb.mp hb with z|z
  ·subst z;obtain⟨⟨old,he⟩,_⟩:=st;exact⟨_,he,fun v z=>by cases z⟩
  ·have z':b=it:=by simpa using z
   subst z';obtain⟨_,o,e,c,d⟩:=st;exact⟨o,e,fun v z=>by rw[d]at z;cases z⟩
 keep:=fun i h h' st k=>⟨by obtain⟨⟨old,he⟩,_⟩:=st;exact⟨old,k e (by simp) _ he⟩,st.2.at fun o x=>k it (by simp) o x⟩
 item:=by
  intro X hP hw hK hc i pins s σ H E I hf st hg;subst hP hw hK;obtain⟨xs,x,hq,hx⟩:=hg;obtain⟨its,rv,p,hz⟩:=I.list hq;obtain⟨u,hu,ru⟩:=rv.get hx;obtain⟨⟨old,he⟩,hit⟩:=st;refine wpAny_pyNext_enum_item he hit p.isList (x:=u) (by simpa using hu) hei fun h' ho hit' hT hsz hk=>?_
  refine⟨_,rfl,qKm ho fun h'' he'' hs''=>?_⟩;have hTe:s.heap.objs.size≠e:=qBx (qIl he);have hTi:s.heap.objs.size≠it:=by obtain⟨o,ho',_⟩:=hit;exact qBx (qIl ho')
  have kk:∀b u,b∉[e,it]->s.heap.get? b=some u->h''.get? b=some u:=fun b u hb q=>by
   have b1:b≠e:=fun z=>hb (by simp[z])
   have b2:b≠it:=fun z=>hb (by simp[z])
   exact(hs''.2 b b1).trans (hk b u b1 b2 q)
  have hT'':=(hs''.2 _ hTe).trans hT;refine⟨.ref s.heap.objs.size,_,I.turnedNew (t':=s.toks+1) (o:=.tup [.int i,x]) hf kk (qA5 _) ⟨by show 2<=sizeLine;decide,[.int i s.toks,u],.cons ⟨_,rfl⟩ (.cons ru .nil),⟨_,hT'',rfl,_,rfl⟩⟩,rfl,
   ⟨_,x,rfl,I.fresh,rfl,fun ys hy=>by rw[I.list_inj hy hq];exact hx⟩,⟨⟨_,by simpa using he''⟩,hit'.at fun o x=>(hs''.2 it hei.symm).trans x⟩,fun b hb=>?_⟩
  have hbs:b<s.heap.objs.size:=by
   rcases qAb.mp hb with z|z
   ·rw[z];exact qIl he
   ·have z':b=it:=by simpa using z
    rw[z'];obtain⟨o,ho',_⟩:=hit;exact qIl ho'
  rw[zA5 (qAl hbs)];exact(hf b hb).1
 done:=by
  intro X hP hw hK hc i pins s σ H E I hf st hg;subst hP hw hK;obtain⟨xs,hq,hx⟩:=hg;obtain⟨its,rv,p,hz⟩:=I.list hq;have hl:=rv.length;obtain⟨⟨old,he⟩,hit⟩:=st;exact wpAny_pyNext_enum_end (I.ok.hd hc) he hit p.isList (by simp;lia) fun h' eb=>⟨rfl,I.turnedL (t':=s.toks) hf fun b u hb q=>eb b u (fun z=>hb (by simp[z])) q⟩
 self:=fun _ _ _ _ _ st h=>by obtain⟨⟨old,he⟩,_⟩:=st;exact qJs he h
def zYT(K:qA0)(tl:TA):TI:=fun σ H R=>tl σ H fun vs H1=>match vs with
 |[.ref a]=>(∃xs,SqL K H1 a xs)/\R (Ite K a) H1
 |_=>False
def zY3{ts:List Expr}{kk:Nat}{tp p pos:Pos}{a:Expr}{ta:TA}(hg:Gl X "enumerate")(hm:X.mg "enumerate" = none)(ha:PA X [a] ta)(hs:starEach [a] X.env=[(false,eval a X.env)]:=by rfl) :
  PI X (.Tuple ts kk tp) (.Call (.Name "enumerate" p) [a] [] pos) (zYT X.K ta):=by
 intro pins s σ H R I h;refine Call_ (zI7 I hg hm boot_enumerate (qBz (thn (ha pos pins s σ H _ I h) fun us s1 z0=>?_) hs rfl));obtain⟨vs,H1,I1,r1,q1⟩:=z0;cases vs with
 |nil=>exact qA4 q1
 |cons hd1 tl1=>
  cases hd1 with
  |ref l=>
   cases tl1 with
   |nil=>
    obtain⟨⟨xs,hq⟩,q⟩:=q1;obtain⟨u,rfl,rx⟩:=zE0 r1;cases rx;obtain⟨its,rv,pl,hz⟩:=I1.list hq;refine qLh pl.isList fun h' he hit hsz hk=>?_
    refine qJs he ?_;have hne:s1.heap.objs.size+1≠s1.heap.objs.size:=by lia
    refine⟨s1.heap.objs.size+1,[s1.heap.objs.size+1,s1.heap.objs.size],_,_,H1,rfl,I1.kept (t':=s1.toks) hk,zL2 l _ _ hne,⟨⟨_,he⟩,hit⟩,fun b hb=>?_,q⟩;have hb':s1.heap.objs.size<=b:=by
     rcases qAb.mp hb with z|z
     ·rw[z];exact qBm _
     ·have z':b=s1.heap.objs.size:=by simpa using z
      rw[z'];exact qA5 _
    exact I1.fpOk hb' (I1.hok.fresh hb')
   |cons _ _=>exact qA4 q1
  |_=>exact qA4 q1
end
section
variable{X:Cx}{K:qA0}
def zBW(hK:X.K=K:=by rfl):zDI X (.builtin "len") (zXZ K):=hK▸zdF
def zKF(hc:X.calm=true)(hK:X.K=K:=by rfl):zDI X (.type "list") (zJ4 K):=hK▸zF2 hc
def zBF(hK:X.K=K:=by rfl):IxR X (rIxU K):=hK▸u_ix
def zOX{ts:List Expr}{kk:Nat}{tp p pos:Pos}{a:Expr}{ta:TA}(hg:Gl X "enumerate")(hm:X.mg "enumerate" = none)(ha:PA X [a] ta)(hs:starEach [a] X.env=[(false,eval a X.env)]:=by rfl)(hK:X.K=K:=by rfl) :
  PI X (.Tuple ts kk tp) (.Call (.Name "enumerate" p) [a] [] pos) (zYT K ta):=hK▸zY3 hg hm ha hs
def zFC{es:List Expr}{k:Nat}{t:TGs}{n:Nat}{pos:Pos}(hc:X.calm=true)(h:PGs X es t)
  (hn:(assignEach es X.env).length=n:=by rfl) (hst:(assignEach es X.env).findIdx? (·.1)=none:=by rfl) (hK:X.K=K:=by rfl):PG X (.Tuple es k pos) (gTup K n t):=hK▸zaP hc h hn hst
def tML(r:V->List V->Hp->VK->Prop)(to:TE)(t:TA):TE:=fun σ H Q=>to σ H fun x H1=>match x with
 |.ref p=>∃xs,H1 p=some (.lst xs)/\t σ H1 fun vs H2=>r x vs H2 Q
 |_=>False
variable{o e:Expr}{es:List Expr}{to:TE}{t:TA}{name:Str}{apos cpos:Pos}{id:String}{r:V->List V->Hp->VK->Prop}
def zU9(pa:PlainAttrs "list")(slot:Slot "list" name id)(hty:typeOf (.builtin id)=pure (.type "method_descriptor"))(hm:MtR X id r)(ho:PE X o to)(ha:PA X (e::es) t)
  (hbase:qKg o name X.env (eval o X.env)=eval o X.env:=by rfl)
  (hfew:((backTo cpos (starEach (e::es) X.env)).all (fun x=>!x.1)&&(backToKw cpos (keywordEach [] X.env)).all (fun x=>x.1.isSome)
   && decide ((e::es).length+([]:List qLy).length+(if([]:List qLy).isEmpty then 0 else 1)<30))=true:=by rfl)
  (hline:(apos.endLine==cpos.line)=true:=by rfl) (hs:starEach (e::es) X.env=(false,eval e X.env)::starEach es X.env:=by rfl) (hplain:(backTo cpos (starEach es X.env)).any (·.1)=false:=by rfl) :
  PE X (.Call (.Attribute o name apos) (e::es) [] cpos) (tML r to t):=by
 intro pins s σ H Q I h;refine qL1 hbase hfew hline rfl (thn (ho pins s σ H _ I h) fun v s1 z0=>?_);obtain⟨x,H1,I1,r1,q1⟩:=z0;cases x with
 |ref p=>?_
 |_=>exact qA4 q1
 obtain⟨xs,hx,q1⟩:=q1;obtain⟨h1,h2⟩:=zVY (T:="list") I1 r1 (.inl ⟨rfl,xs,SqL.of hx⟩);refine⟨"list",id,pa,slot,hty,h1,h2,?_⟩;have hA:=ha cpos pins s1 σ H1 _ I1 q1;rw[hs]at hA ⊢;refine qL2 (by show(false||(backTo cpos (starEach es X.env)).any (·.1))=false;rw[hplain]<;>rfl) (qLd ?_);exact thn hA fun us s2 ⟨vs,H2,I2,r2,q2⟩=>hm pins s2 σ H2 (.ref p) vs v us Q I2 r1 r2 q2
end
def same_new{H:Hp}{p:Addr}(h:H p=none)(o:HO):Same H (upd H p o):=fun b u q=>by rw[zA5 (zAI q h)];exact q
def Same.upd{H H':Hp}{p:Addr}(s:Same H H')(h:H p=none)(o:HO):Same H (upd H' p o):=fun b u q=>by rw[zA5 (zAI q h)];exact s b u q
def zCX{H:Hp}:∀(ns:List Int),RepL H (ns.map Dat.int) (ns.map V.int)
 |[]=>rfl
 |n::r=>⟨.int n,r.map V.int,rfl,rfl,zCX r⟩
def zEM:∀(ns:List Int),Dat.depL (ns.map Dat.int)=0
 |[]=>rfl
 |n::r=>by
  rw[qAm,Dat.depL,zEM r];rfl
def zHC:∀(ns ms:List Int),Dat.eqL (ns.map Dat.int) (ms.map Dat.int)=decide (ns=ms)
 |[],[]=>by simp[Dat.eqL]
 |[],_::_=>by simp[Dat.eqL]
 |_::_,[]=>by simp[Dat.eqL]
 |n::r,m::q=>by
  rw[qAm,qAm,Dat.eqL,zHC r q,Dat.eq];by_cases h:n=m
  ·subst h;simp
  ·simp[h]
def big{n:Nat}(h:n<=100000):n<sizeLine:=by rw[qJ6];lia
def zM7:∀{ns:List Int}{vs:List Value},Vals (ns.map V.int) vs->qL6 vs ns
 |[],_,.nil=>.nil
 |n::r,_,.cons h t=>by
  obtain⟨tk,rfl⟩:=h;exact .cons n tk (zM7 t)
section
variable{X:Cx}
def rInU(K:qA0)(neg:Bool):R2:=fun x y H Q=>match y with
 |.ref p=>∃xs,(SqL K H p xs\/SqT K H p xs)/\zGM x=true/\xs.all zGM=true/\Q (.bl (if neg then !inV x xs else inV x xs)) H
 |.str j=>match x with
  |.str i=>Q (.bl (if neg then !(!(qJb j i 0 j.length 1).isEmpty)else !(qJb j i 0 j.length 1).isEmpty)) H
  |_=>False
 |_=>False
def u_in{K:qA0}(hK:X.K=K:=by rfl):OpR X (compareOp .In) (rInU K false):=by
 subst hK;intro pins s σ H x y v u Q I rx ry h;cases y with
 |ref p=>
  obtain⟨xs,h1,h2,h3,h4⟩:=h;exact zRZ pins s σ H _ _ v u Q I rx ry ⟨p,xs,rfl,h1,h2,h3,h4⟩
 |str j=>
  cases x with
  |str i=>exact zRY pins s σ H _ _ v u Q I rx ry ⟨i,j,rfl,rfl,h⟩
  |_=>exact qA4 h
 |_=>exact qA4 h
def zXI{K:qA0}(hK:X.K=K:=by rfl):OpR X (compareOp .NotIn) (rInU K true):=by
 subst hK;intro pins s σ H x y v u Q I rx ry h;cases y with
 |ref p=>
  obtain⟨xs,h1,h2,h3,h4⟩:=h;exact zLM pins s σ H _ _ v u Q I rx ry ⟨p,xs,rfl,h1,h2,h3,h4⟩
 |str j=>
  cases x with
  |str i=>exact zLL pins s σ H _ _ v u Q I rx ry ⟨i,j,rfl,rfl,h⟩
  |_=>exact qA4 h
 |_=>exact qA4 h
end
end L2
namespace Mi
open PySem
inductive Sv where
 |i (n:Int)|s (x:Str)
inductive Sw where
 |non|bl (b:Bool)|int (i:Int)|str (x:Str)
inductive Dt where
 |non|bl (b:Bool)|int (i:Int)|str (x:Str)|lst (xs:List Dt)|tup (xs:List Dt)|scr (ns:List Int)|exc (c f:Str) (d:Dt)|ins (c:Str) (fs:List (Str×Sv))|dct (kvs:List (Sum Int Str×Sw))|fn (x:Str) (d:Dt)
mutual
def Dt.dep:Dt->Nat
 |.lst xs=>Dt.depL xs+1
 |.tup xs=>Dt.depL xs+1
 |.scr _=>1000
 |.exc _ _ _=>1000
 |.fn _ _=>1000
 |.ins _ _=>1000
 |.dct _=>1000
 |_=>0
def Dt.depL:List Dt->Nat
 |[]=>0
 |x::r=>max x.dep (Dt.depL r)
end
mutual
def Dt.eq:Dt->Dt->Bool
 |.non,.non=>true
 |.bl a,.bl b=>a==b
 |.bl a,.int b=>(if a then 1 else 0)==b
 |.int a,.bl b=>a==(if b then 1 else 0)
 |.int a,.int b=>a==b
 |.str a,.str b=>a==b
 |.lst xs,.lst ys=>Dt.eqL xs ys
 |.tup xs,.tup ys=>Dt.eqL xs ys
 |_,_=>false
def Dt.eqL:List Dt->List Dt->Bool
 |[],[]=>true
 |x::r,y::q=>Dt.eq x y&&Dt.eqL r q
 |_,_=>false
end
structure Xn where
 cls:Str
 f:Str
 d:Dt
abbrev R(α:Type):=Option (Except Xn α)
def okR{α:Type}(a:α):R α:=some (.ok a)
def zA3{α β:Type}(x:R α)(f:α->R β):R β:=match x with
 |none=>none
 |some (.error e)=>some (.error e)
 |some (.ok a)=>f a
def optR{α:Type}(o:Option α):R α:=match o with
 |none=>none
 |some a=>okR a
@[simp] theorem zA0{α β:Type}(a:α)(f:α->R β):zA3 (okR a) f=f a:=rfl
@[simp] theorem zAD{α β:Type}(f:α->R β):zA3 none f=none:=rfl
@[simp] theorem zAH{α β:Type}(e:Xn)(f:α->R β):zA3 (some (.error e)) f=some (.error e):=rfl
@[simp] theorem zAE{α:Type}(a:α):optR (some a)=okR a:=rfl
@[simp] theorem zAG{α:Type}:optR (none:Option α)=none:=rfl
abbrev Rh:=List (Option Dt)
abbrev Sl:=Dt×Nat
abbrev Ro:=List (Option Sl)
abbrev EM:=Rh->R Dt
abbrev TM:=Rh->R Bool
abbrev AM:=Rh->R (List Dt)
abbrev FM:=List Dt->R Dt
def ixA(n:Nat)(i:Int):Option Nat:=if 0<=i then(if i<n then some i.toNat else none)else if -(n:Int)<=i then some (i+n).toNat else none
def itA{α:Type}(xs:List α)(i:Int):Option α:=(ixA xs.length i).bind fun j=>xs[j]?
def addD:Dt->Dt->Option Dt
 |.int i,.int j=>some (.int (i+j))
 |.str i,.str j=>@ite _ (i.length+j.length<=100000) (qA1 _) (some (.str (i++j))) none
 |.lst xs,.lst ys=>@ite _ (xs.length+ys.length<=100000) (qA1 _) (some (.lst (xs++ys))) none
 |_,_=>none
def subD:Dt->Dt->Option Dt
 |.int i,.int j=>some (.int (i-j))
 |_,_=>none
def mulD:Dt->Dt->Option Dt
 |.int i,.int j=>@ite _ (((-18446744073709551616<i/\i<18446744073709551616)\/(-18446744073709551616<j/\j<18446744073709551616))\/i.natAbs.log2+j.natAbs.log2<=67108864) (qA1 _) (some (.int (i*j))) none
 |_,_=>none
def divD:Dt->Dt->Option Dt
 |.int i,.int j=>@ite _ (0<j/\j<1000000000000000000000000) (qA1 _) (some (.int (i/j))) none
 |_,_=>none
def modD:Dt->Dt->Option Dt
 |.int i,.int j=>if 0<j then some (.int (i%j))else none
 |_,_=>none
def powD:Dt->Dt->Option Dt
 |.int i,.int j=>@ite _ (0<=j/\j<=1000000/\i.natAbs<18446744073709551616) (qA1 _) (some (.int (i ^ j.toNat))) none
 |_,_=>none
def negD:Dt->Option Dt
 |.int i=>some (.int (-i))
 |_=>none
def cmpD(p:Int->Int->Bool):Dt->Dt->Option Dt
 |.int i,.int j=>some (.bl (p i j))
 |_,_=>none
def eqD(x y:Dt):Option Dt:=if x.dep<=40/\y.dep<=40 then some (.bl (Dt.eq x y))else none
def neD(x y:Dt):Option Dt:=if x.dep<=40/\y.dep<=40 then some (.bl (!Dt.eq x y))else none
def zF3:Dt->Bool
 |.non=>true
 |_=>false
def isD(x y:Dt):Option Dt:=match y with
 |.non=>some (.bl (zF3 x))
 |_=>none
def zdG(x y:Dt):Option Dt:=match y with
 |.non=>some (.bl (!zF3 x))
 |_=>none
def ixD:Dt->Dt->Option Dt
 |.lst xs,.int i=>itA xs i
 |.tup xs,.int i=>itA xs i
 |.scr ns,.int i=>(itA ns i).map .int
 |.str z,.int i=>@ite _ (z.length<=100000) (qA1 _) ((itA z.cps.toList i).map fun c=>.str ⟨#[c]⟩) none
 |_,_=>none
def lenD:List Dt->Option Dt
 |[.lst xs]=>some (.int xs.length)
 |[.tup xs]=>some (.int xs.length)
 |[.scr ns]=>some (.int ns.length)
 |[.str z]=>@ite _ (z.length<=100000) (qA1 _) (some (.int z.length)) none
 |_=>none
def listD:List Dt->Option Dt
 |[.lst xs]=>some (.lst xs)
 |[.tup xs]=>some (.lst xs)
 |[.scr ns]=>some (.lst (ns.map .int))
 |_=>none
def nums(lo:Int)(n:Nat):List Dt:=(qA9 n).map fun i:Nat=>.int (lo+(i:Int))
def rangeD:List Dt->Option Dt
 |[.int j]=>@ite _ ((-4611686018427387904<=j/\j<4611686018427387904)/\j<=100000) (qA1 _) (some (.lst (nums 0 j.toNat))) none
 |[.int i,.int j]=>@ite _ ((-4611686018427387904<=i/\i<4611686018427387904/\-4611686018427387904<=j/\j<4611686018427387904)/\j-i<=100000) (qA1 _) (some (.lst (nums i (j-i).toNat))) none
 |_=>none
def tyD:Dt->String
 |.non=>"NoneType"
 |.bl _=>"bool"
 |.int _=>"int"
 |.str _=>"str"
 |.lst _=>"list"
 |.tup _=>"tuple"
 |.scr _=>""
 |.exc _ _ _=>""
 |.fn _ _=>""
 |.ins _ _=>""
 |.dct _=>""
def isiD(n:String)(x:Dt):Option Dt:=if tyD x = "" then none else some (.bl (tyD x==n||(tyD x == "bool" && n == "int")))
def zX8:List Dt->Option (List Bool)
 |[]=>some []
 |.bl b::r=>(zX8 r).map (b::·)
 |_::_=>none
def allD:List Dt->Option Dt
 |[.lst xs]=>(zX8 xs).map fun bs=>.bl (bs.all id)
 |_=>none
def intD:List Dt->Option Dt
 |[.int i]=>some (.int i)
 |[.bl k]=>some (.int (if k=true then 1 else 0))
 |_=>none
def maxD:List Dt->Option Dt
 |[.int i,.int j]=>some (.int (if j>i then j else i))
 |_=>none
def minD:List Dt->Option Dt
 |[.int i,.int j]=>some (.int (if j<i then j else i))
 |_=>none
def absD:List Dt->Option Dt
 |[.int i]=>some (.int (if i<0 then -i else i))
 |_=>none
def hasD(x:Dt)(ys:List Dt):Option Bool:=if x.dep=0/\Dt.depL ys=0 then some (ys.any fun y=>Dt.eq y x)else none
def inD(ng:Bool)(x y:Dt):Option Dt:=match y with
 |.lst ys=>(hasD x ys).map fun b=>.bl (if ng=true then !b else b)
 |.tup ys=>(hasD x ys).map fun b=>.bl (if ng=true then !b else b)
 |.str z=>match x with
  |.str y=>match y.cps.toList with
   |[c]=>some (.bl (if ng=true then !decide (c∈z.cps.toList)else decide (c∈z.cps.toList)))
   |_=>none
  |_=>none
 |_=>none
def cutIx(n d:Nat):Option Int->Nat
 |none=>d
 |some v=>if v<0 then(v+(n:Int)).toNat else min v.toNat n
def cutA{α:Type}(xs:List α)(lo hi:Option Int):List α:=(xs.drop (cutIx xs.length 0 lo)).take (cutIx xs.length xs.length hi-cutIx xs.length 0 lo)
def slD:Dt->Option Int->Option Int->Option Dt
 |.lst xs,lo,hi=>some (.lst (cutA xs lo hi))
 |.str z,lo,hi=>@ite _ (z.length<=100000) (qA1 _) (some (.str ⟨(cutA z.cps.toList lo hi).toArray⟩)) none
 |_,_,_=>none
abbrev OM:=Rh->R (Option Int)
def oNo:OM:=fun _=>okR none
def oE(e:Rh->R Dt):OM:=fun ρ=>zA3 (e ρ) fun d=>match d with
 |.int i=>okR (some i)
 |_=>none
def eSl(a:Rh->R Dt)(lo hi:OM):Rh->R Dt:=fun ρ=>zA3 (a ρ) fun x=>zA3 (lo ρ) fun l=>zA3 (hi ρ) fun h=>optR (slD x l h)
def posC(c:Nat):List Nat->Option Nat
 |[]=>none
 |x::r=>if x=c then some 0 else(posC c r).map (·+1)
def findD(x:Dt)(ys:List Dt):Option Dt:=match x,ys with
 |.str z,[.str y]=>match y.cps.toList with
  |[c]=>some (.int (match posC c z.cps.toList with|some i=>(i:Int)|none=>-1))
  |_=>none
 |_,_=>none
def countD(x:Dt)(ys:List Dt):Option Dt:=match x,ys with
 |.str z,[.str y]=>match y.cps.toList with
  |[c]=>some (.int (z.cps.toList.count c:Nat))
  |_=>none
 |_,_=>none
def strsD:List Dt->Option (List Str)
 |[]=>some []
 |.str z::r=>(strsD r).map (z::·)
 |_::_=>none
def joinD(x:Dt)(ys:List Dt):Option Dt:=match x,ys with
 |.str z,[.lst ds]=>match strsD ds with
  |some zs=>@ite _ ((zs.map (·.length)).sum+zs.length*z.length<=100000) (qA1 _) (some (.str (qKx z zs))) none
  |none=>none
 |_,_=>none
def zP3:Dt->Bool
 |.str _=>true
 |_=>false
def eMt(f:Dt->List Dt->Option Dt)(a:Rh->R Dt)(am:Rh->R (List Dt)):Rh->R Dt:=fun ρ=>zA3 (a ρ) fun x=>if zP3 x=true then zA3 (am ρ) fun xs=>optR (f x xs)else none
def signsD(z:Str):List Dt:=z.cps.toList.map fun c=>.str ⟨#[c]⟩
def eC(d:Dt):EM:=fun _=>okR d
def eV(i:Nat):EM:=fun ρ=>match ρ[i]? with
 |some (some d)=>okR d
 |_=>none
def eB(f:Dt->Dt->Option Dt)(a b:EM):EM:=fun ρ=>zA3 (a ρ) fun x=>zA3 (b ρ) fun y=>optR (f x y)
def eU(f:Dt->Option Dt)(a:EM):EM:=fun ρ=>zA3 (a ρ) fun x=>optR (f x)
def eAnd(a b:EM):EM:=fun ρ=>zA3 (a ρ) fun x=>match x with
 |.bl k=>if k=true then b ρ else okR (.bl false)
 |_=>none
def eOr(a b:EM):EM:=fun ρ=>zA3 (a ρ) fun x=>match x with
 |.bl k=>if k=true then okR (.bl true)else b ρ
 |_=>none
def eNot(a:EM):EM:=fun ρ=>zA3 (a ρ) fun x=>match x with
 |.bl k=>okR (.bl (!k))
 |_=>none
def zbX(p q:Dt->Dt->Option Dt)(a b c:EM):EM:=fun ρ=>zA3 (a ρ) fun x=>zA3 (b ρ) fun y=>zA3 (optR (p x y)) fun z=>match z with
 |.bl k=>if k=true then zA3 (c ρ) fun w=>optR (q y w)else okR (.bl false)
 |_=>none
def eIf(c:TM)(a b:EM):EM:=fun ρ=>zA3 (c ρ) fun k=>if k=true then a ρ else b ρ
def aNil:AM:=fun _=>okR []
def aCons(e:EM)(r:AM):AM:=fun ρ=>zA3 (e ρ) fun x=>zA3 (r ρ) fun xs=>okR (x::xs)
def eLst(a:AM):EM:=fun ρ=>zA3 (a ρ) fun xs=>@ite _ (xs.length<=100000) (qA1 _) (okR (.lst xs)) none
def eTup(a:AM):EM:=fun ρ=>zA3 (a ρ) fun xs=>@ite _ (xs.length<=100000) (qA1 _) (okR (.tup xs)) none
def eCall(f:FM)(a:AM):EM:=fun ρ=>zA3 (a ρ) f
def eBi(f:List Dt->Option Dt)(a:AM):EM:=fun ρ=>zA3 (a ρ) fun xs=>optR (f xs)
def eIsi(n:String)(a:EM):EM:=fun ρ=>zA3 (a ρ) fun x=>optR (isiD n x)
def tB(a:EM):TM:=fun ρ=>zA3 (a ρ) fun x=>match x with
 |.bl k=>okR k
 |_=>none
def tM(a:EM):TM:=fun ρ=>zA3 (a ρ) fun x=>match x with
 |.bl k=>okR k
 |.int i=>okR (i != 0)
 |.non=>okR false
 |_=>none
def tAn(a b:TM):TM:=fun ρ=>zA3 (a ρ) fun k=>if k=true then b ρ else okR false
def tOr(a b:TM):TM:=fun ρ=>zA3 (a ρ) fun k=>if k=true then okR true else b ρ
def tNo(a:TM):TM:=fun ρ=>zA3 (a ρ) fun k=>okR (!k)
def tYes:TM:=fun _=>okR true
abbrev IM:=Rh->R (List Dt)
def iSq(e:EM):IM:=fun ρ=>zA3 (e ρ) fun d=>match d with
 |.lst xs=>okR xs
 |.tup xs=>okR xs
 |.scr ns=>okR (ns.map .int)
 |.str z=>okR (signsD z)
 |_=>none
def iR1(e:AM):IM:=fun ρ=>zA3 (e ρ) fun vs=>match vs with
 |[.int j]=>@ite _ (-4611686018427387904<=j/\j<4611686018427387904) (qA1 _) (okR (nums 0 j.toNat)) none
 |_=>none
def enumD(n:Nat):List Dt->List Dt
 |[]=>[]
 |x::r=>.tup [.int n,x]::enumD (n+1) r
def iEn(e:AM):IM:=fun ρ=>zA3 (e ρ) fun vs=>match vs with
 |[.lst xs]=>okR (enumD 0 xs)
 |_=>none
def zipD:List Dt->List Dt->List Dt
 |x::r,y::q=>.tup [x,y]::zipD r q
 |_,_=>[]
def iZi(e:AM):IM:=fun ρ=>zA3 (e ρ) fun vs=>match vs with
 |[.lst xs,.lst ys]=>okR (zipD xs ys)
 |_=>none
inductive Tg where
 |one (i:Nat)
 |tup (is:List Nat)
def zAU:Tg->Dt->Option (List (Nat×Dt))
 |.one i,d=>some [(i,d)]
 |.tup is,.tup ds=>if ds.length=is.length then some (is.zip ds)else none
 |.tup _,_=>none
def Tg.idx:Tg->List Nat
 |.one i=>[i]
 |.tup is=>is
def zAR:Rh->List (Nat×Dt)->Rh
 |ρ,[]=>ρ
 |ρ,(i,d)::r=>zAR (ρ.set i (some d)) r
def zB7:Ro->List (Nat×Dt)->Ro
 |ρ,[]=>ρ
 |ρ,(i,d)::r=>zB7 (ρ.set i (some (d,0))) r
def compGo(ρ:Rh)(k:Nat)(tg:Tg)(c:TM)(e:EM):List Dt->List Dt->R (List Dt)
 |[],acc=>okR acc
 |d::ds,acc=>match zAU tg d with
  |none=>none
  |some bs=>zA3 (c (zAR (ρ++qA7 k none) bs)) fun b=>if b=true then zA3 (e (zAR (ρ++qA7 k none) bs)) fun x=>compGo ρ k tg c e ds (acc++[x])else compGo ρ k tg c e ds acc
def eComp(it:IM)(k:Nat)(tg:Tg)(c:TM)(e:EM):EM:=fun ρ=>zA3 (it ρ) fun ds=>@ite _ (ds.length<=100000/\(tg.idx.all fun i=>decide (ρ.length<=i))=true) (qA1 _) (zA3 (compGo ρ k tg c e ds []) fun es=>okR (.lst es)) none
inductive Out where
 |nx (ρ:Ro)|rt (d:Dt)|bk (ρ:Ro)|ct (ρ:Ro)
abbrev SM:=Ro->R Out
def full(ρ:Ro):Rh:=ρ.map fun o=>o.map qI9
def frz(ρ:Ro):Rh:=ρ.map fun o=>match o with
 |some (d,n)=>if n=0\/d.dep=0 then some d else none
 |none=>none
def frz1(i:Nat)(ρ:Ro):Ro:=match ρ[i]? with
 |some (some (d,_))=>ρ.set i (some (d,0))
 |_=>ρ
def frzAt:List Nat->Ro->Ro
 |[],ρ=>ρ
 |i::r,ρ=>frzAt r (frz1 i ρ)
def sNil:SM:=fun ρ=>okR (.nx ρ)
def sSeq(a b:SM):SM:=fun ρ=>zA3 (a ρ) fun o=>match o with
 |.nx ρ'=>b ρ'
 |o=>okR o
def zZZ:SM:=fun _=>none
def za0:SM:=fun ρ=>okR (.bk ρ)
def zd4:SM:=fun ρ=>okR (.ct ρ)
def sIf(c:TM)(a b:SM):SM:=fun ρ=>zA3 (c (full ρ)) fun k=>if k=true then a ρ else b ρ
def zd2(e:EM):SM:=fun ρ=>zA3 (e (full ρ)) fun _=>okR (.nx ρ)
def sSet(i n:Nat)(vs:List Nat)(e:EM):SM:=fun ρ=>zA3 (e (full ρ)) fun d=>
 if d.dep<=n then okR (.nx (ρ.set i (some (d,n))))else zA3 (e (frz (frzAt vs ρ))) fun d'=>okR (.nx ((frzAt vs ρ).set i (some (d',n))))
def sUnp(is:List Nat)(vs:List Nat)(e:EM):SM:=fun ρ=>zA3 (e (frz (frzAt vs ρ))) fun d=>match zAU (.tup is) d with
 |none=>none
 |some bs=>okR (.nx (zB7 (frzAt vs ρ) bs))
def sRet(L n:Nat)(vs:List Nat)(e:EM):SM:=fun ρ=>zA3 (e (full ρ)) fun d=>
 if d.dep<=n/\d.dep<=L then okR (.rt d)else if n=L then zA3 (e (frz (frzAt vs ρ))) fun d'=>okR (.rt d')else none
def zd0:SM:=fun _=>okR (.rt .non)
def sRetV(L i:Nat):SM:=fun ρ=>match ρ[i]? with
 |some (some (d,k))=>if k=L\/L=0\/(d.dep<=k/\d.dep<=L/\k<1000)then okR (.rt d)else none
 |_=>none
def sApp(i n:Nat)(e:EM):SM:=fun ρ=>match ρ[i]? with
 |some (some (.lst ds,k+1))=>zA3 (e (full ρ)) fun d=>@ite _ (ds.length<=100000/\d.dep<=n/\d.dep<=k) (qA1 _) (okR (.nx (ρ.set i (some (.lst (ds++[d]),k+1))))) none
 |_=>none
def sPop(j i:Nat)(e:EM):SM:=fun ρ=>match ρ[i]? with
 |some (some (.lst ds,k+1))=>zA3 (e (full ρ)) fun d=>match d with
  |.int z=>match ixA ds.length z with
   |some q=>match ds[q]? with
    |some c=>@ite _ (i≠j/\ds.length<=1000000) (qA1 _) (okR (.nx ((ρ.set i (some (.lst (ds.eraseIdx q),k+1))).set j (some (c,k))))) none
    |none=>none
   |none=>none
  |_=>none
 |_=>none
def sItem(i n:Nat)(e1 e2:EM):SM:=fun ρ=>zA3 (e2 (full ρ)) fun d=>match ρ[i]? with
 |some (some (.lst ds,k+1))=>zA3 (e1 (full ρ)) fun z=>match z with
  |.int z=>match ixA ds.length z with
   |some q=>if d.dep<=n/\d.dep<=k then okR (.nx (ρ.set i (some (.lst (ds.set q d),k+1))))else none
   |none=>none
  |_=>none
 |_=>none
def sItem2(i n:Nat)(e0 e1 e2:EM):SM:=fun ρ=>zA3 (e2 (full ρ)) fun d=>match ρ[i]? with
 |some (some (.lst rs,k+2))=>zA3 (e0 (full ρ)) fun y=>match y with
  |.int y=>match ixA rs.length y with
   |some p=>match rs[p]? with
    |some (.lst ds)=>zA3 (e1 (full ρ)) fun z=>match z with
     |.int z=>match ixA ds.length z with
      |some q=>if d.dep<=n/\d.dep<=k then okR (.nx (ρ.set i (some (.lst (rs.set p (.lst (ds.set q d))),k+2))))else none
      |none=>none
     |_=>none
    |_=>none
   |none=>none
  |_=>none
 |_=>none
def forGo(tg:Tg)(b:SM):List Dt->SM
 |[],ρ=>okR (.nx ρ)
 |d::ds,ρ=>match zAU tg d with
  |none=>none
  |some bs=>zA3 (b (zB7 ρ bs)) fun o=>match o with
   |.nx ρ'=>forGo tg b ds ρ'
   |.ct ρ'=>forGo tg b ds ρ'
   |.bk ρ'=>okR (.nx ρ')
   |.rt d=>okR (.rt d)
def sFor(vs:List Nat)(it:IM)(tg:Tg)(b:SM):SM:=fun ρ=>zA3 (it (frz (frzAt vs ρ))) fun ds=>forGo tg b ds (frzAt vs ρ)
def sForR(it:IM)(i:Nat)(b:SM):SM:=fun ρ=>zA3 (it (full ρ)) fun ds=>forGo (.one i) b ds ρ
def whGo(c:TM)(b:SM):Nat->SM
 |0,_=>none
 |m+1,ρ=>zA3 (c (full ρ)) fun k=>if k=true then zA3 (b ρ) fun o=>match o with
   |.nx ρ'=>whGo c b m ρ'
   |.ct ρ'=>whGo c b m ρ'
   |.bk ρ'=>okR (.nx ρ')
   |.rt d=>okR (.rt d)
  else okR (.nx ρ)
def WNs:{ n:Nat // n=1000000 }:=Classical.choice ⟨⟨1000000,rfl⟩⟩
def WN:Nat:=WNs.val
def zW4(c:TM)(b:SM):SM:=fun ρ=>whGo c b WN ρ
def startO(n:Nat)(ds:List Dt):Ro:=ds.map (fun d=>some (d,0))++qA7 (n-ds.length) none
def endF:Out->R Dt
 |.nx _=>okR .non
 |.rt d=>okR d
 |_=>none
def runF(P n:Nat)(b:SM):FM:=fun ds=>if ds.length=P then zA3 (b (startO n ds)) endF else none
end Mi
namespace L2
open PySem PySem.Spec PyProof.Rows
def zX1(n d:Nat)(o:Option Int)(hd:d<=n):HT.sIx n d o<=n:=by
 cases o with
 |none=>exact hd
 |some v=>
  show(if v<0 then(v+(n:Int)).toNat else min v.toNat n)<=n
  split<;>lia
def zQC(lo hi:Option Int)(n:Nat):qIw lo hi 1 n=(qA9 (HT.sIx n n hi-HT.sIx n 0 lo)).map fun k=>HT.sIx n 0 lo+k:=by
 unfold qIw sliceRange;have c1:∀(o:Option Int)(d:Nat),(match o with|none=>(d:Int)|some i=>(if(1:Int)>0 then max 0 (min (if i<0 then i+(n:Int)else i) n)else max (-1) (min (if i<0 then i+(n:Int)else i) (n-1))))=((HT.sIx n d o:Nat):Int):=by
  intro o d;cases o with
  |none=>rfl
  |some v=>
   show _=(((if v<0 then(v+(n:Int)).toNat else min v.toNat n:Nat)):Int)
   dsimp only;rw[if_pos (by decide)]
   split<;>lia
 dsimp only;rw[if_pos (show(1:Int)>0 by decide),if_pos (show(1:Int)>0 by decide),if_pos (show(1:Int)>0 by decide)];have e1:=c1 lo 0;have e2:=c1 hi n;rw[show((0:Nat):Int)=0 by rfl]at e1;have h1:∀a b:Int,a=((HT.sIx n 0 lo:Nat):Int)->b=((HT.sIx n n hi:Nat):Int)->(qA9 ((if a<b then(b-a+1-1)/1 else 0).toNat)).map (fun k:Nat=>(a+1*(k:Int)).toNat)=(qA9 (HT.sIx n n hi-HT.sIx n 0 lo)).map fun k=>HT.sIx n 0 lo+k:=by
  intro a b ha hb;subst ha hb;have e:(if((HT.sIx n 0 lo:Nat):Int)<((HT.sIx n n hi:Nat):Int)then(((HT.sIx n n hi:Nat):Int)-((HT.sIx n 0 lo:Nat):Int)+1-1)/1 else 0).toNat=HT.sIx n n hi-HT.sIx n 0 lo:=by
   split
   ·rw[qGr];lia
   ·lia
  rw[e];refine qCp fun k _=>?_
  lia
 exact h1 _ _ e1 e2
def zLJ:∀(xs:List Nat)(a k:Nat),a+k<=xs.length->((qA9 k).map fun j=>a+j).filterMap (xs[·]?)=(xs.drop a).take k:=by
 intro xs a k h;induction k with
 |zero=>simp
 |succ k ih=>
  rw[qFl,qCb,List.filterMap_append,ih (by lia),List.take_add_one]
  congr 1;have:a+k<xs.length:=by lia
  simp[List.getElem?_drop,this]
def zTV(z:Str)(lo hi:Option Int):qNe z lo hi=⟨(Mi.cutA z.cps.toList lo hi).toArray⟩:=by
 obtain⟨⟨xs⟩⟩:=z;have hl:(⟨⟨xs⟩⟩:Str).length=xs.length:=rfl;unfold qNe;rw[zQC,hl];have e0:∀o d,Mi.cutIx xs.length d o=HT.sIx xs.length d o:=fun o d=>by cases o<;>rfl
 have hb:=zX1 xs.length xs.length hi (qA5 _);have ha:=zX1 xs.length 0 lo (qAv _);have hc:Mi.cutA xs lo hi=(xs.drop (HT.sIx xs.length 0 lo)).take (HT.sIx xs.length xs.length hi-HT.sIx xs.length 0 lo):=by
  unfold Mi.cutA;rw[e0,e0]
 show _=(⟨(Mi.cutA xs lo hi).toArray⟩:Str);rw[hc];split
 ·rename_i h
  have h':HT.sIx xs.length xs.length hi-HT.sIx xs.length 0 lo=xs.length:=by simpa using h
  have a0:HT.sIx xs.length 0 lo=0:=by lia
  rw[h',a0,qCi,qF8]
 ·by_cases hle:HT.sIx xs.length 0 lo<=HT.sIx xs.length xs.length hi
  ·have:=zLJ xs (HT.sIx xs.length 0 lo) (HT.sIx xs.length xs.length hi-HT.sIx xs.length 0 lo) (by lia)
   rw[<- this];simp
  ·rw[show HT.sIx xs.length xs.length hi-HT.sIx xs.length 0 lo=0 by lia];simp
section
variable{X:Cx}
def rSlU(K:qA0):V->Option Int->Option Int->Hp->VK->Prop:=fun x lo hi H Q=>match x with
 |.str z=>z.length<=sizeLine/\Q (.str ⟨(Mi.cutA z.cps.toList lo hi).toArray⟩) H
 |.ref a=>∃xs,SqL K H a xs/\∀p,H p=none->Q (.ref p) (upd H p (.lst (cutV xs lo hi)))
 |_=>False
def zRW{v:Value}{o:Option Int}(h:IsPart v o):∃l:Option (Int×Tok),v=partValue l/\l.map (·.1)=o:=by
 cases h with
 |none=>exact⟨none,rfl,rfl⟩
 |int i t=>exact⟨some (i,t),rfl,rfl⟩
def u_sl{K:qA0}(hK:X.K=K:=by rfl):SlR X (rSlU K):=by
 subst hK;intro pins s σ H x v vl vu lo hi sl Q I rx hs pl pu h;cases x with
 |ref a=>
  obtain⟨xs,h1,h2⟩:=h;exact zR6 pins s σ H _ v vl vu lo hi sl Q I rx hs pl pu ⟨a,xs,rfl,h1,h2⟩
 |str z=>
  obtain⟨hz,q⟩:=h;obtain⟨t,rfl⟩:=rx;obtain⟨l,rfl,el⟩:=zRW pl;obtain⟨u,rfl,eu⟩:=zRW pu;obtain⟨o,g1,g2,g3⟩:=hs;refine⟨"str",_,qLs.lookup,typeIs_str _ _ _,wpAny_getItem_str_slice (l:=l) (u:=u) (st:=none) ⟨o,g1,g2,g3⟩ rfl ?_⟩;have hp:(if((1:Int)==1&&(qIw lo hi 1 z.length).length==z.length)=true then Made.val (.str z t)else Made.str ⟨((qIw lo hi 1 z.length).filterMap (z.cps[·]?)).toArray⟩).post (EP X pins σ Q) s:=by
   refine post_val_or_str ⟨qAt (Txt.slice_le z lo hi) hz,fun t' k=>?_⟩;refine⟨.str (qNe z lo hi),H,I.tok _,⟨_,rfl⟩,?_⟩;rw[zTV];exact q
  unfold sliceMade slicePicked;rw[el,eu];exact hp
 |_=>exact qA4 h
end
def Its(z:Str):It:=⟨fun i _=>i<z.cps.size,fun i H x H'=>H'=H/\∃c,z.cps[i]?=some c/\x=.str ⟨#[c]⟩,fun i _=>z.cps.size<=i⟩
def zTS{P:qIo}{w:World}{K:qA0}{tg:Expr}(z:Str)(t:Tok)(it:Addr)(ty:String)(hty:ty=strIterType z):Turn P w K tg (Its z) [it] it (fun i h=>h.IsStrIter it ty z t i) where
 mem:=by simp
 obj:=fun i h st b hb=>by
  have e:b=it:=by simpa using hb
  subst e;obtain⟨o,e,c,d⟩:=st;exact⟨o,e,fun v z=>by rw[d]at z;cases z⟩
 keep:=fun i h h' st k=>by obtain⟨o,ho,r⟩:=st;exact⟨o,k it (by simp) o ho,r⟩
 item:=by
  intro X hP hw hK hc i pins s σ H E I hf st hg;subst hP hw hK;have hi:i<z.cps.size:=hg;have hx:z.cps[i]?=some z.cps[i]:=Array.getElem?_eq_getElem hi;obtain⟨f0,f1,f2,f3,f4,f5⟩:=hf it (by simp);have fin:∀h',h'.IsStrIter it ty z t (i+1)->qJh it s.heap h'->∃u,some (qKe ⟨#[z.cps[i]]⟩ s.toks)=some u/\wpAny (model X.prog X.w) X.A (letOwnedTupleGo tg (.ref it) u) (fun _ s2=>∃x H',Inv X pins σ H' s2/\RelV x u/\(Its z).yld i H x H'/\s2.heap.IsStrIter it ty z t (i+1)/\∀b∈[it],H' b=none) E { s with heap:=h',toks:=s.toks+1 }:=by
   intro h' st' sb;have I1:Inv X pins σ H { s with heap:=h',toks:=s.toks+1 }:=I.turned (t':=s.toks+1) (fun b o hb e=>(sb.2 b hb).trans e) f0 f1 f3 f4 f5;obtain⟨o,e,c,d⟩:=id st';refine⟨_,rfl,zV6 (s:={ s with heap:=h',toks:=s.toks+1 }) e c d ?_ ⟨.str ⟨#[z.cps[i]]⟩,H,I1,⟨_,rfl⟩,⟨rfl,_,hx,rfl⟩,st',fun b hb=>(hf b hb).1⟩⟩;rw[hty];unfold strIterType;split<;>decide
  cases ha:z.cps.all (· < 128)
  ·have e:ty = "str_iterator":=by rw[hty];unfold strIterType;rw[ha];rfl
   subst e;exact wpAny_pyNext_wide_item st hx fun h' a b=>fin h' a b
  ·have e:ty = "str_ascii_iterator":=by rw[hty];unfold strIterType;rw[ha];rfl
   subst e;exact wpAny_pyNext_ascii_item st hx fun h' a b=>fin h' a b
 done:=by
  intro X hP hw hK hc i pins s σ H E I hf st hg;subst hP hw hK;have hx:z.cps[i]?=none:=Array.getElem?_eq_none hg;obtain⟨f0,f1,f2,f3,f4,f5⟩:=hf it (by simp);have fin:∀h',qKj it s.heap h'->(none:Option Value)=none/\Inv X pins σ H { s with heap:=h' }:=fun h' eb=>⟨rfl,I.turned (t':=s.toks) (fun b o hb e=>eb b o hb e) f0 f1 f3 f4 f5⟩
  cases ha:z.cps.all (· < 128)
  ·have e:ty = "str_iterator":=by rw[hty];unfold strIterType;rw[ha];rfl
   subst e;exact wpAny_pyNext_wide_end (I.ok.hd hc) st hx fun h' a=>fin h' a
  ·have e:ty = "str_ascii_iterator":=by rw[hty];unfold strIterType;rw[ha];rfl
   subst e;exact wpAny_pyNext_ascii_end (I.ok.hd hc) st hx fun h' a=>fin h' a
 self:=fun A i s Q E st h=>by
  cases ha:z.cps.all (· < 128)
  ·have e:ty = "str_iterator":=by rw[hty];unfold strIterType;rw[ha];rfl
   subst e;exact wpAny_pyIter_striter_wide st h
  ·have e:ty = "str_ascii_iterator":=by rw[hty];unfold strIterType;rw[ha];rfl
   subst e;exact wpAny_pyIter_striter_ascii st h
section
variable{X:Cx}
def iAny(K:qA0)(tl:TE):TI:=fun σ H R=>tl σ H fun x H1=>match x with
 |.ref a=>(∃xs,SqL K H1 a xs)/\R (Itl K a) H1\/(∃xs,SqT K H1 a xs)/\R (Itt K a) H1
 |.str z=>R (Its z) H1
 |_=>False
def zDF{K:qA0}{tg l:Expr}{tl:TE}(hl:PE X l tl)(hK:X.K=K:=by rfl):PI X tg l (iAny K tl):=by
 subst hK;intro pins s σ H R I h;refine thn (hl pins s σ H _ I h) fun v s1 z0=>?_
 obtain⟨x,H1,I1,r1,q1⟩:=z0;cases x with
 |ref a=>
  cases r1;rcases q1 with⟨⟨xs,hq⟩,q⟩|⟨⟨xs,hq⟩,q⟩
  ·obtain⟨its,rv,p,hz⟩:=I1.list hq;refine wpAny_pyIter_list p.isList ?_;refine⟨s1.heap.objs.size,[s1.heap.objs.size],_,_,H1,rfl,I1.kept (t':=s1.toks) fun b o e=>qIj _ e,zQX a _,⟨_,qIm _ rfl,rfl,rfl⟩,fun b hb=>?_,q⟩;have e:b=s1.heap.objs.size:=by simpa using hb
   subst e;exact I1.fpOk (qA5 _) (I1.hok.fresh (qA5 _))
  ·obtain⟨its,rv,p,hz⟩:=I1.tuple hq;refine wpAny_pyIter_tuple (show s1.heap.IsTuple a its.toArray from p) ?_;refine⟨s1.heap.objs.size,[s1.heap.objs.size],_,_,H1,rfl,I1.kept (t':=s1.toks) fun b o e=>qIj _ e,zPN a _,⟨_,qIm _ rfl,rfl,rfl⟩,fun b hb=>?_,q⟩;have e:b=s1.heap.objs.size:=by simpa using hb
   subst e;exact I1.fpOk (qA5 _) (I1.hok.fresh (qA5 _))
 |str z=>
  obtain⟨t,rfl⟩:=r1;refine wpAny_pyIter_strU ?_;refine⟨s1.heap.objs.size,[s1.heap.objs.size],_,_,H1,rfl,I1.kept (t':=s1.toks) fun b o e=>qIj _ e,zTS z t _ _ rfl,⟨_,qIm _ rfl,rfl,rfl⟩,fun b hb=>?_,q1⟩;have e:b=s1.heap.objs.size:=by simpa using hb
  subst e;exact I1.fpOk (qA5 _) (I1.hok.fresh (qA5 _))
 |_=>exact qA4 q1
def zbU:V->List V->Hp->VK->Prop:=fun x vs H Q=>match x,vs with
 |.str z,[.str y]=>Q (.int (qN9 z y)) H
 |_,_=>False
def zUP:MtR X "str.find" zbU:=by
 intro pins s σ H x vs v us Q I rx rv h;cases x with
 |str z=>
  cases vs with
  |nil=>exact qA4 h
  |cons y t=>
   cases y with
   |str y=>
    cases t with
    |nil=>
     obtain⟨t,rfl⟩:=rx;obtain⟨u,rfl,ru⟩:=zE0 rv;obtain⟨t2,rfl⟩:=ru;exact SC.find ⟨.int _,H,I.tok _,⟨_,rfl⟩,h⟩
    |cons _ _=>exact qA4 h
   |_=>exact qA4 h
 |_=>exact qA4 h
def zX4:V->List V->Hp->VK->Prop:=fun x vs H Q=>match x,vs with
 |.str z,[.str y]=>Q (.int (qNf z y)) H
 |_,_=>False
def zLW:MtR X "str.count" zX4:=by
 intro pins s σ H x vs v us Q I rx rv h;cases x with
 |str z=>
  cases vs with
  |nil=>exact qA4 h
  |cons hd1 tl1=>
   cases hd1 with
   |str y=>
    cases tl1 with
    |nil=>
     obtain⟨t,rfl⟩:=rx;obtain⟨u,rfl,ru⟩:=zE0 rv;obtain⟨t2,rfl⟩:=ru;exact SC.count ⟨.int _,H,I.tok _,⟨_,rfl⟩,h⟩
    |cons _ _=>exact qA4 h
   |_=>exact qA4 h
 |_=>exact qA4 h
def zHN:∀{ys:List Str}{us:List Value},Vals (ys.map V.str) us->qK9 us ys
 |[],_,.nil=>.nil
 |y::ys,_,.cons r t=>by obtain⟨k,rfl⟩:=r;exact .cons y k (zHN t)
def zbI:V->List V->Hp->VK->Prop:=fun x vs H Q=>match x,vs with
 |.str z,[.ref a]=>∃ys:List Str,H a=some (.lst (ys.map V.str))/\(ys.map (·.length)).sum+ys.length*z.length<=16777216/\Q (.str (qKx z ys)) H
 |_,_=>False
def zUO:MtR X "str.join" zbI:=by
 intro pins s σ H x vs v us Q I rx rv h;cases x with
 |str z=>
  cases vs with
  |nil=>exact qA4 h
  |cons hd1 tl1=>
   cases hd1 with
   |ref a=>
    cases tl1 with
    |nil=>
     obtain⟨t,rfl⟩:=rx;obtain⟨u,rfl,ru⟩:=zE0 rv;cases ru;obtain⟨ys,h1,h2,h3⟩:=h;obtain⟨its,rv,hl⟩:=zB8 I.hok h1;exact join_list hl (by simpa using zHN rv) h2 fun t' k=>⟨.str (qKx z ys),H,I.tok _,⟨t',by rw[eq_of_beq (join_closes (ys:=ys) (rfl:z=z))]⟩,h3⟩
    |cons _ _=>exact qA4 h
   |_=>exact qA4 h
 |_=>exact qA4 h
end
def zN9(z:Str)(c i:Nat):(i+1<=z.length/\qJd z ⟨#[c]⟩ i=true)↔z.cps.toList[i]?=some c:=by
 obtain⟨⟨xs⟩⟩:=z;unfold qJd;show(i+1<=xs.length/\((⟨xs⟩:Array Nat).extract i (i+1)==#[c])=true)↔xs[i]?=some c;constructor
 ·rintro⟨h1,h2⟩
  have h3:=congrArg qGp (eq_of_beq h2);simp at h3;have hlt:i<xs.length:=by lia
  rw[qA6 hlt];have h4:(qIg 1 (qIh i xs))=[c]:=by
   have:=h3;simpa[qEr]using this
  rw[qB0 hlt,qFz]at h4;exact congrArg some (List.cons.inj h4).1
 ·intro h;have hlt:i<xs.length:=(qA2.mp h).1;have he:xs[i]=c:=(qA2.mp h).2;refine⟨by lia,?_⟩
  have:(⟨xs⟩:Array Nat).extract i (i+1)=#[c]:=by
   apply Array.toList_inj.mp;simp[qEr];rw[qB0 hlt];simp[he]
  rw[this];simp
def zK4(c:Nat):∀(xs:List Nat),(Mi.posC c xs=none/\∀i:Nat,xs[i]?≠some c)\/∃i:Nat,Mi.posC c xs=some i/\xs[i]?=some c/\∀j:Nat,j<i->xs[j]?≠some c
 |[]=>.inl ⟨rfl,fun i=>by simp⟩
 |x::r=>by
  rw[Mi.posC];by_cases h:x=c
  ·rw[if_pos h];exact .inr ⟨0,rfl,by simp[h],fun j hj=>by lia⟩
  ·rw[if_neg h]
   rcases zK4 c r with⟨h1,h2⟩|⟨i,h1,h2,h3⟩
   ·rw[h1];refine .inl ⟨rfl,fun i=>?_⟩;cases i with
    |zero=>simpa using h
    |succ i=>simpa using h2 i
   ·rw[h1];refine .inr ⟨i+1,rfl,by simpa using h2,fun j hj=>?_⟩;cases j with
    |zero=>simpa using h
    |succ j=>simpa using h3 j (by lia)
def zLU(z y:Str)(hi:Nat):∀(l:List Nat)(free:Nat),(∀i∈l,free<=i)->l.Pairwise (· < ·) ->
  ((forIn l ((#[]:Array Nat),free) (qJo z y hi 1)).run.fst.toList=[]/\∀i∈l,¬(i+y.length<=hi/\qJd z y i=true)) \/
  ∃i,i∈l/\(forIn l ((#[]:Array Nat),free) (qJo z y hi 1)).run.fst.toList=[i]/\(i+y.length<=hi/\qJd z y i=true)/\∀j∈l,j<i->¬(j+y.length<=hi/\qJd z y j=true)
 |[],free,_,_=>.inl ⟨by simp,fun i h=>by simp at h⟩
 |a::l,free,hf,hp=>by
  rw[qFk];unfold qJo;have ha:free<=a:=hf a qAw;have hp':=qBr.mp hp;by_cases hc:a+y.length<=hi/\qJd z y a=true
  ·have c1:(((#[]:Array Nat),free).fst.size<1/\((#[]:Array Nat),free).snd<=a)/\a+y.length<=hi:=⟨⟨by simp,ha⟩,hc.1⟩
   rw[if_pos ⟨c1,hc.2⟩];refine .inr ⟨a,qAw,?_,hc,fun j hj hlt=>?_⟩
   ·have stay:∀(l:List Nat)(st:Array Nat×Nat),st.fst.size=1->(forIn l st (qJo z y hi 1)).run.fst=st.fst:=by
     intro l;induction l with
     |nil=>intro st _;rfl
     |cons b l ih=>
      intro st hs;rw[qFk];unfold qJo;rw[if_neg (by rw[hs];intro h;lia)];exact ih (st.fst,st.snd) hs
    have:=stay l (#[a],a+y.length) rfl;show(forIn l (#[a],a+y.length) (qJo z y hi 1)).run.fst.toList=[a];rw[this]
   ·rcases qAb.mp hj with rfl|hm
    ·lia
    ·have:=hp'.1 j hm;lia
  ·have c2:¬(((((#[]:Array Nat),free).fst.size<1/\((#[]:Array Nat),free).snd<=a)/\a+y.length<=hi)/\qJd z y a=true):=fun h=>hc ⟨h.1.2,h.2⟩
   rw[if_neg c2];rcases zLU z y hi l free (fun i hi'=>hf i (qAp _ hi')) hp'.2 with⟨h1,h2⟩|⟨i,h1,h2,h3,h4⟩
   ·refine .inl ⟨h1,fun i hi'=>?_⟩
    rcases qAb.mp hi' with rfl|hm
    ·exact hc
    ·exact h2 i hm
   ·refine .inr ⟨i,qAp _ h1,h2,h3,fun j hj hlt=>?_⟩
    rcases qAb.mp hj with rfl|hm
    ·exact hc
    ·exact h4 j hm hlt
def zYC(z:Str)(c:Nat):qJb z ⟨#[c]⟩ 0 z.length 1=(match Mi.posC c z.cps.toList with|some i=>[i]|none=>[]):=by
 rw[StrLaws.occ_eq];have hlen:(⟨#[c]⟩:Str).length=1:=rfl;have hzl:z.length=z.cps.toList.length:=by simp[qM0]
 have hm:∀i,i<z.length->i∈qG0 0 (z.length+1-0):=fun i hi=>by simp[List.mem_range'];lia
 rcases zLU z ⟨#[c]⟩ z.length (qG0 0 (z.length+1-0)) 0 (fun _ _=>qAv _) (List.pairwise_lt_range' (s:=0) (n:=z.length+1-0) (step:=1) (by decide))with⟨h1,h2⟩|⟨i,h1,h2,h3,h4⟩
 ·rw[h1]
  rcases zK4 c z.cps.toList with⟨g1,_⟩|⟨j,g1,g2,_⟩
  ·rw[g1]
  ·exact absurd ((zN9 z c j).mpr g2) (h2 j (hm j (by rw[hzl];exact(qA2.mp g2).1)))
 ·rw[h2];have hi:=(zN9 z c i).mp h3
  rcases zK4 c z.cps.toList with⟨_,g2⟩|⟨j,g1,g2,g3⟩
  ·exact absurd hi (g2 i)
  ·rw[g1];have hj:j<z.length:=by rw[hzl];exact(qA2.mp g2).1
   rcases Nat.lt_trichotomy i j with q|q|q
   ·exact absurd hi (g3 i q)
   ·rw[q]
   ·exact absurd ((zN9 z c j).mpr g2) (h4 j (hm j hj) q)
def zVA(z:Str)(c:Nat):qN9 z ⟨#[c]⟩=(match Mi.posC c z.cps.toList with|some i=>(i:Int)|none=>-1):=by
 unfold qN9;rw[zYC];cases Mi.posC c z.cps.toList<;>rfl
def zT3(z:Str)(c:Nat):qNf z ⟨#[c]⟩=(z.cps.toList.count c:Nat):=by
 rw[count_is];show cnt c z.cps.toList=_;generalize z.cps.toList=xs;induction xs with
 |nil=>rfl
 |cons x r ih=>
  rw[cnt_cons,ih,qCq];by_cases h:x=c<;>simp[h];lia
def Itz(K:qA0)(a b:Addr):It:=
 ⟨fun i H=>∃xs ys x y,SqL K H a xs/\SqL K H b ys/\xs[i]?=some x/\ys[i]?=some y,fun i H v H'=>∃T x y,v=.ref T/\H T=none/\H'=upd H T (.tup [x,y])/\(∀xs,SqL K H a xs->xs[i]?=some x)/\∀ys,SqL K H b ys->ys[i]?=some y,
  fun i H=>∃xs ys,SqL K H a xs/\SqL K H b ys/\(xs.length<=i\/ys.length<=i)⟩
def zTR{P:qIo}{w:World}{K:qA0}{ts:List Expr}{kk:Nat}{tp:Pos}{a b z TI TO i1 i2:Addr}(D:ZipApart z TI TO i1 i2 a b) :
  Turn P w K (.Tuple ts kk tp) (Itz K a b) [z,TI,TO,i1,i2] z (fun i h=>IsZip h z TI TO .none/\IsPair h TI (.ref i1) (.ref i2)/\(∃x y,IsPair h TO x y)/\h.IsListIter i1 a i/\h.IsListIter i2 b i) where
 mem:=by simp
 obj:=fun i h st c hc=>by
  obtain⟨hz,hTI,⟨x,y,hTO⟩,h1,h2⟩:=st;have five:c=z\/c=TI\/c=TO\/c=i1\/c=i2:=by simpa using hc
  rcases five with e|e|e|e|e<;>subst e
  ·exact⟨_,hz,fun v q=>by cases q⟩
  ·exact⟨_,hTI,fun v q=>by cases q⟩
  ·exact⟨_,hTO,fun v q=>by cases q⟩
  ·obtain⟨o,e,_,d⟩:=h1;exact⟨o,e,fun v q=>by rw[d]at q;cases q⟩
  ·obtain⟨o,e,_,d⟩:=h2;exact⟨o,e,fun v q=>by rw[d]at q;cases q⟩
 keep:=fun i h h' st k=>by
  obtain⟨hz,hTI,⟨x,y,hTO⟩,h1,h2⟩:=st;exact⟨k z (by simp) _ hz,k TI (by simp) _ hTI,⟨x,y,k TO (by simp) _ hTO⟩,h1.at fun o e=>k i1 (by simp) o e,h2.at fun o e=>k i2 (by simp) o e⟩
 item:=by
  intro X hP hw hK hc i pins s σ H E I hf st hg;subst hP hw hK;obtain⟨xs,ys,x,y,hq1,hq2,hx,hy⟩:=hg;obtain⟨its1,rv1,p1,hz1⟩:=I.list hq1;obtain⟨its2,rv2,p2,hz2⟩:=I.list hq2;obtain⟨u1,hu1,ru1⟩:=rv1.get hx;obtain⟨u2,hu2,ru2⟩:=rv2.get hy;obtain⟨hz,hTI,⟨a0,b0,hTO⟩,h1,h2⟩:=st;refine wpAny_pyNext_zip_item D hz hTI hTO h1 h2 p1.isList p2.isList (x:=u1) (y:=u2) (by simpa using hu1) (by simpa using hu2) fun h' g1 g2 g3 g4 g5 g6 g7=>?_
  refine⟨_,rfl,wpAny_letOwnedTupleGo_zip g1 fun h'' hz'' hs''=>?_⟩;have lt:∀{c:Addr}{o:Obj},s.heap.get? c=some o->c<s.heap.objs.size:=fun e=>qIl e
  have hzs:=lt hz;have hTz:s.heap.objs.size≠z:=qBx hzs;have kk':∀c u,c∉[z,TI,TO,i1,i2]->s.heap.get? c=some u->h''.get? c=some u:=fun c u hc q=>by
   have c1:c≠z:=fun e=>hc (by simp[e])
   exact(hs''.2 c c1).trans (g7 c u c1 (fun e=>hc (by simp[e])) (fun e=>hc (by simp[e])) (fun e=>hc (by simp[e])) q)
  have hT'':=(hs''.2 _ hTz).trans g5;refine⟨.ref s.heap.objs.size,_,I.turnedNew (t':=s.toks) (o:=.tup [x,y]) hf kk' (qA5 _) ⟨by show 2<=sizeLine;decide,[u1,u2],.cons ru1 (.cons ru2 .nil),⟨_,hT'',rfl,_,rfl⟩⟩,rfl,
   ⟨_,x,y,rfl,I.fresh,rfl,fun zs hy=>by rw[I.list_inj hy hq1];exact hx,fun zs hy'=>by rw[I.list_inj hy' hq2];exact hy⟩,
   ⟨hz'',(hs''.2 _ D.TIz).trans (g7 TI _ D.TIz D.TITO D.TIi1 D.TIi2 hTI),⟨_,_,(hs''.2 _ D.TOz).trans g2⟩,g3.at fun o e=>(hs''.2 _ D.i1z).trans e,g4.at fun o e=>(hs''.2 _ D.i2z).trans e⟩,fun c hc=>?_⟩
  have hcs:c<s.heap.objs.size:=by
   have five:c=z\/c=TI\/c=TO\/c=i1\/c=i2:=by simpa using hc
   rcases five with e|e|e|e|e<;>subst e
   ·exact hzs
   ·exact lt hTI
   ·exact lt hTO
   ·obtain⟨o,e,_⟩:=h1;exact lt e
   ·obtain⟨o,e,_⟩:=h2;exact lt e
  rw[zA5 (qAl hcs)];exact(hf c hc).1
 done:=by
  intro X hP hw hK hc i pins s σ H E I hf st hg;subst hP hw hK;obtain⟨xs,ys,hq1,hq2,hle⟩:=hg;obtain⟨its1,rv1,p1,hz1⟩:=I.list hq1;obtain⟨its2,rv2,p2,hz2⟩:=I.list hq2;have l1:=rv1.length;have l2:=rv2.length;obtain⟨hz,hTI,⟨a0,b0,hTO⟩,h1,h2⟩:=st;refine wpAny_pyNext_zip_end (I.ok.hd hc) D hz hTI hTO h1 h2 p1.isList p2.isList ?_ fun h' hk=>⟨rfl,I.turnedL (t':=s.toks) hf fun c u hc q=>hk c u (fun e=>hc (by simp[e])) (fun e=>hc (by simp[e])) (fun e=>hc (by simp[e])) (fun e=>hc (by simp[e])) q⟩
  rcases hle with q|q
  ·exact .inl (by simp;lia)
  ·exact .inr (by simp;lia)
 self:=fun _ _ _ _ _ st h=>wpAny_pyIter_zip st.1 h
section
variable{X:Cx}{K:qA0}
def iZip(K:qA0)(tl:TA):TI:=fun σ H R=>tl σ H fun vs H1=>match vs with
 |[.ref a,.ref b]=>(∃xs,SqL K H1 a xs)/\(∃ys,SqL K H1 b ys)/\R (Itz K a b) H1
 |_=>False
def zaN{ts:List Expr}{kk:Nat}{tp p pos:Pos}{a b:Expr}{ta:TA}(hg:Gl X "zip")(hm:X.mg "zip" = none)(ha:PA X [a,b] ta)(hs:starEach [a,b] X.env=(false,eval a X.env)::starEach [b] X.env:=by rfl)(hpl:(backTo pos (starEach [b] X.env)).any (·.1)=false:=by rfl)(hK:X.K=K:=by rfl) :
  PI X (.Tuple ts kk tp) (.Call (.Name "zip" p) [a,b] [] pos) (iZip K ta):=by
 subst hK;intro pins s σ H R I h;refine Call_ (zI7 I hg hm boot_zip (qBz (thn (ha pos pins s σ H _ I h) fun us s1 z0=>?_) hs hpl));obtain⟨vs,H1,I1,r1,q1⟩:=z0;cases vs with
 |nil=>exact qA4 q1
 |cons hd1 tl1=>
  cases hd1 with
  |ref l1=>
   cases tl1 with
   |nil=>exact qA4 q1
   |cons hd2 tl2=>
    cases hd2 with
    |ref l2=>
     cases tl2 with
     |nil=>
      obtain⟨⟨xs,hq1⟩,⟨ys,hq2⟩,q⟩:=q1;obtain⟨u1,u2,rfl,rx,ry⟩:=zQS r1;cases rx;cases ry;obtain⟨its1,rv1,p1,hz1⟩:=I1.list hq1;obtain⟨its2,rv2,p2,hz2⟩:=I1.list hq2;have lt1:l1<s1.heap.objs.size:=by obtain⟨o,ho,_⟩:=p1.isList;exact qIl ho
      have lt2:l2<s1.heap.objs.size:=by obtain⟨o,ho,_⟩:=p2.isList;exact qIl ho
      refine call_zip_2 p1.isList p2.isList fun h' hz hTI hTO h1 h2 hsz hk=>?_
      refine wpAny_pyIter_zip hz ?_;refine⟨s1.heap.objs.size+4,[s1.heap.objs.size+4,s1.heap.objs.size+2,s1.heap.objs.size+3,s1.heap.objs.size,s1.heap.objs.size+1],_,_,H1,rfl,I1.kept (t':=s1.toks) hk,zTR (zipApart_new lt1 lt2),⟨hz,hTI,⟨_,_,hTO⟩,h1,h2⟩,fun c hc=>?_,q⟩;have hc':s1.heap.objs.size<=c:=by
       have five:c=s1.heap.objs.size+4\/c=s1.heap.objs.size+2\/c=s1.heap.objs.size+3\/c=s1.heap.objs.size\/c=s1.heap.objs.size+1:=by simpa using hc
       rcases five with e|e|e|e|e<;>rw[e]<;>first|exact qA5 _|exact qF7 _ _
      exact I1.fpOk hc' (I1.hok.fresh hc')
     |cons _ _=>exact qA4 q1
    |_=>exact qA4 q1
  |_=>exact qA4 q1
end
def XO(e:Addr)(C:Value)(d:Option Addr)(h:Heap):Prop:=∃oe vs,h.get? e=some oe/\oe.cls=C/\oe.dict=d/\oe.data=.fields vs/\1<vs.size
abbrev xo(e:Addr)(C:Value)(d:Option Addr):HO:=.ext (XO e C d)
def Fl(n:Nat)(e:Addr)(C:Value)(d:Option Addr)(mk:Value)(H:Hp)(h:Heap):Prop:=
 ∃oe vs T oT ts,h.get? e=some oe/\oe.cls=C/\oe.dict=d/\oe.data=.fields vs/\vs[1]?=some (.ref T)/\n<=T/\T≠e/\H T=none/\h.get? T=some oT/\oT.data=.fields ts/\ts[3]?=some mk
def Fly(n:Nat)(e:Addr)(C:Value)(d:Option Addr)(H:Hp)(h:Heap):Prop:=
 H e=some (xo e C d)/\((∃oe vs,h.get? e=some oe/\oe.cls=C/\oe.dict=d/\oe.data=.fields vs/\vs[1]?=some .none)\/Fl n e C d .none H h)
def Held(n:Nat)(e:Addr)(C:Value)(d:Option Addr)(L:Addr)(H:Hp)(h:Heap):Prop:=H e=some (xo e C d)/\Fl n e C d (rawInt L) H h
def Fly.mono{n n':Nat}{e:Addr}{C:Value}{d:Option Addr}{H:Hp}{h:Heap}(x:Fly n e C d H h)(hn:n'<=n):Fly n' e C d H h:=by
 obtain⟨a,b|⟨oe,vs,T,oT,ts,h1,h2,h3,h4,h5,h6,h7⟩⟩:=x
 ·exact⟨a,.inl b⟩
 ·exact⟨a,.inr ⟨oe,vs,T,oT,ts,h1,h2,h3,h4,h5,qAt hn h6,h7⟩⟩
structure Nt(n:Nat)(fs ch:List Addr)(e:Addr)(H:Hp)(h h':Heap):Prop where
 keep:∀b o,h.get? b=some o->b≠e->b∉fs->b∉ch->h'.get? b=some o
 slot:∀b o,h.get? b=some o->b≠e->b∉ch->∃sl,h'.get? b=some { o with slots:=sl }
 there:∀b o,h.get? b=some o->∃o',h'.get? b=some o'
 old:∀b∈ch,n<=b/\H b=none/\∃o vs,h.get? b=some o/\o.data=.fields vs
section
variable{M:Model}{A:qIr}{E:Value->qIk->Prop}{s:qIk}{n:Nat}{e L:Addr}{C:Value}{d:Option Addr}{H:Hp}{base:Heap}{env:Env}{outer:List Env}
def zWX{oe:Obj}{vs:Array Value}{head:Value}{hadNext:Bool}{Q:Unit->qIk->Prop}
  (hfr:A.frames=some (env::outer)) (hl:s.heap.FunFrames base (env::outer)) (hf:env.frame=some L)
  (he:s.heap.get? e=some oe) (hc:oe.cls=C) (hdi:oe.dict=d) (hd:oe.data=.fields vs) (hsz:1<vs.size) (hn:n<=s.heap.objs.size) (hH:∀b,s.heap.objs.size<=b->H b=none)
  (h:∀h',(∀b o,s.heap.get? b=some o->b≠e->b∉frs (env::outer)->h'.get? b=some o)->(∀b o,s.heap.get? b=some o->b≠e->∃sl,h'.get? b=some { o with slots:=sl }) ->
   (∃o',h'.get? e=some o')->Fl n e C d (rawInt L) H h'->Q () { s with heap:=h' }) :
  wpAny M A (do let a <- frameOf env;let pl <- entryPlaceOf L hadNext;let b <- qLi head a .none (rawInt L) .none pl;setField (.ref e) 1 b) Q E s:=by
 have hene:e∉(env::outer).filterMap (·.frame):=fun hm=>by
  obtain⟨_,o,ho,hnf⟩:=hl.mem hm;rw[he]at ho;injection ho with ho;subst ho;exact hnf vs hd
 refine wpAny_bind (wpAny_frameOf_fun hfr hl hf fun h₁ hs₁=>?_);refine wpAny_bind (wpAny_entryPlaceOf fun pl hpl=>?_);unfold qLi newFields;refine wpAny_bind (wpAny_newObj_type ?_ (hpl.sizeOk5 _ _ _ _ _));have he₁:h₁.get? e=some oe:=(hs₁.2.1 e hene).trans he;have he₂:=qIj (h:=h₁) { cls:=.type "traceback",dict:=none,data:=.fields ([head,.ref L,.none,rawInt L,.none]++(if pl.isEmpty then qA7 6 qIy else pl)).toArray } he₁;have hTe:h₁.objs.size≠e:=qBx (qIl he₁);have hd₃:=qIu hd (·.setIfInBounds 1 (qIs h₁.objs.size));have he₃:=qIp (qIz (·.setIfInBounds 1 (qIs h₁.objs.size))) he₂ (qJ7 hd₃);have hT₃:=(qIq (h₁.push { cls:=.type "traceback",dict:=none,data:=.fields ([head,.ref L,.none,rawInt L,.none]++(if pl.isEmpty then qA7 6 qIy else pl)).toArray })
  (qIz (·.setIfInBounds 1 (qIs h₁.objs.size))) (qC9 hTe)).trans (qIm h₁ rfl)
 have keep:∀b o,b≠e->h₁.get? b=some o ->
   ((h₁.push { cls:=.type "traceback",dict:=none,data:=.fields ([head,.ref L,.none,rawInt L,.none]++(if pl.isEmpty then qA7 6 qIy else pl)).toArray }).update e (qIz (·.setIfInBounds 1 (qIs h₁.objs.size)))).get? b=some o:=
  fun b o hbe hb=>by
   rw[qIq _ _ (qC9 hbe)];exact qIj _ hb
 have hsz1:h₁.objs.size=s.heap.objs.size:=hs₁.1;refine wpAny_setField he₂ hd hsz (h _ (fun b o hb hbe hbf=>keep b o hbe ((hs₁.2.1 b hbf).trans hb)) (fun b o hb hbe=>?_) ⟨_,he₃⟩ ?_)
 ·obtain⟨sl,e1⟩:=hs₁.2.2 b o hb;exact⟨sl,keep b _ hbe e1⟩
 ·have hdo:∀(o:Obj) f,(qIz f o).dict=o.dict:=fun o f=>by unfold qIz;split<;>rfl
  exact⟨_,_,h₁.objs.size,_,_,he₃,(qKa _ _).trans hc,(hdo _ _).trans hdi,hd₃,by simp[hsz],by rw[hsz1];exact hn,hTe,hH _ (by rw[hsz1];exact qA5 _),hT₃,rfl,
   by first|(simp;done)|(rcases hpl with rfl|⟨_,_,_,_,_,_,_,rfl⟩<;>simp)⟩
def zYE{Q:Unit->qIk->Prop}(hfr:A.frames=some (env::outer))(hl:s.heap.FunFrames base (env::outer))(hf:env.frame=some L)(x:Fly n e C d H s.heap)(hn:n<=s.heap.objs.size)(hH:∀b,s.heap.objs.size<=b->H b=none)
  (h:∀h' ch,Nt n (frs (env::outer)) ch e H s.heap h'->Held n e C d L H h'->Q () { s with heap:=h' }):wpAny M A (noteFrame (.ref e) env) Q E s:=by
 obtain⟨hx,⟨oe,vs,he,hc,hdi,hd,h1⟩|⟨oe,vs,T,oT,ts,he,hc,hdi,hd,h1,hnT,hTe,hHT,hT,hdT,h3⟩⟩:=x
 ·unfold noteFrame;simp only[hf];refine wpAny_bind (wpAny_field he hd h1 ?_);rw[if_neg (by decide)];refine zWX hfr hl hf he hc hdi hd (qC5.mp h1).1 hn hH fun h' k1 k2 k3 k4=>?_
  refine h h' [] ⟨fun b o hb hbe hbf _=>k1 b o hb hbe hbf,fun b o hb hbe _=>k2 b o hb hbe,fun b o hb=>?_,fun b hb=>nomatch hb⟩ ⟨hx,k4⟩
  by_cases z:b=e
  ·rw[z];exact k3
  ·obtain⟨sl,q⟩:=k2 b o hb z;exact⟨_,q⟩
 ·unfold noteFrame;simp only[hf];refine wpAny_bind (wpAny_field he hd h1 ?_);rw[if_pos (show(qIs T != qIy)=true from by simp)];refine wpAny_bind (wpAny_field hT hdT h3 ?_);rw[if_neg (show ¬((qIy==rawInt L)=true) from by simp[rawInt])];refine wpAny_bind (wpAny_setField hT hdT (qC5.mp h3).1 ?_);have other:∀b,b≠T->(s.heap.update T (qIz (·.setIfInBounds 3 qIy))).get? b=s.heap.get? b:=fun b hb=>qIq _ _ (qC9 hb)
  have noRecord:∀b o,s.heap.get? b=some o->(∀vs,o.data≠.fields vs)->b≠T:=fun b o hb hnf q=>by
   rw[q,hT]at hb;injection hb with hb;subst hb;exact hnf ts hdT
  have hl1:=hl.of_keeps (h':=s.heap.update T (qIz (·.setIfInBounds 3 qIy))) fun b o hb hnf=>⟨o,(other b (noRecord b o hb hnf)).trans hb,rfl⟩
  have hself:=qIp (qIz (·.setIfInBounds 3 qIy)) hT (qJ7 (qIu hdT _));have hsz:(s.heap.update T (qIz (·.setIfInBounds 3 qIy))).objs.size=s.heap.objs.size:=by simp
  refine zWX (s:={ s with heap:=s.heap.update T (qIz (·.setIfInBounds 3 qIy)) }) hfr hl1 hf ((other e (qC9 hTe)).trans he) hc hdi hd (qC5.mp h1).1 (by rw[hsz];exact hn) (by rw[hsz];exact hH) fun h' k1 k2 k3 k4=>?_
  have nT:∀b,b∉[T]->b≠T:=fun b hb z=>hb (by simp[z])
  refine h h' [T] ⟨fun b o hb hbe hbf hc=>k1 b o ((other b (nT b hc)).trans hb) hbe hbf,fun b o hb hbe hc=>k2 b o ((other b (nT b hc)).trans hb) hbe,fun b o hb=>?_,fun b hb=>?_⟩ ⟨hx,k4⟩
  ·by_cases z:b=e
   ·rw[z];exact k3
   ·by_cases z':b=T
    ·rw[z'];obtain⟨sl,q⟩:=k2 T _ hself hTe;exact⟨_,q⟩
    ·obtain⟨sl,q⟩:=k2 b o ((other b z').trans hb) z;exact⟨_,q⟩
  ·obtain rfl:b=T:=by simpa using hb
   exact⟨hnT,hHT,oT,ts,hT,hdT⟩
def zYI{Q:Unit->qIk->Prop}{fs:List Addr}{mk:Value}(x:Fl n e C d mk H s.heap)
  (h:∀h' ch,Nt n fs ch e H s.heap h'->Fl n e C d .none H h'->Q () { s with heap:=h' }):wpAny M A (setFlight (.ref e) none) Q E s:=by
 obtain⟨oe,vs,T,oT,ts,he,hc,hdi,hd,h1,hnT,hTe,hHT,hT,hdT,h3⟩:=x;have hsz3:3<ts.size:=(qC5.mp h3).1;have other:∀b,b≠T->(s.heap.update T (qIz (·.setIfInBounds 3 ((none:Option Addr).elim qIy fun f=>rawInt f)))).get? b=s.heap.get? b:=
  fun b hb=>qIq _ _ (qC9 hb)
 have hself:=qIp (qIz (·.setIfInBounds 3 ((none:Option Addr).elim qIy fun f=>rawInt f))) hT (qJ7 (qIu hdT _));have nT:∀b,b∉[T]->b≠T:=fun b hb z=>hb (by simp[z])
 unfold setFlight;refine wpAny_bind (wpAny_field he hd h1 ?_);rw[if_pos (show(qIs T != qIy)=true from by simp)];refine wpAny_setField hT hdT hsz3 (h _ [T] ⟨fun b o hb _ _ hc=>(other b (nT b hc)).trans hb,fun b o hb _ hc=>⟨o.slots,(other b (nT b hc)).trans hb⟩,fun b o hb=>?_,fun b hb=>?_⟩ ?_)
 ·by_cases z:b=T
  ·rw[z];exact⟨_,hself⟩
  ·exact⟨o,(other b z).trans hb⟩
 ·obtain rfl:b=T:=by simpa using hb
  exact⟨hnT,hHT,oT,ts,hT,hdT⟩
 ·exact⟨oe,vs,T,_,_,(other e (qC9 hTe)).trans he,hc,hdi,hd,h1,hnT,hTe,hHT,hself,qIu hdT _,by simp[hsz3]⟩
end
section
variable{X:Cx}{pins:List (Addr×Obj)}{σ:St}{H:Hp}{s:qIk}{n:Nat}{e:Addr}{C:Value}{d:Option Addr}{A:qIr}{E:Value->qIk->Prop}{fs ch:List Addr}{h h':Heap}
def Nt.hok{P:qIo}{w:World}(t:Nt n fs ch e H h h')(k:HOk P w H h)(he:H e=some (xo e C d))(hfs:∀b∈fs,H b=none)(f:XO e C d h'):HOk P w H h':=fun a o ha=>by
 by_cases z:a=e
 ·subst z;rw[he]at ha;cases ha;obtain⟨oe,vs,h1,r⟩:=id f;exact⟨f,⟨oe,h1⟩,(k a _ he).2.2⟩
 ·refine(k a o ha).stay (fun b u hb q=>?_) (fun _ q=>q) (fun _ _ q=>q) fun _ _ _ q _=>q
  have hb':H b≠none:=by
   rcases hb with rfl|hb
   ·rw[ha];exact fun z=>by cases z
   ·rw[hb];exact fun z=>by cases z
  have hbe:b≠e:=by
   rcases hb with rfl|hb
   ·exact z
   ·intro y;rw[y,he]at hb;cases hb
  exact t.keep b u q hbe (fun y=>hb' (hfs b y)) fun y=>hb' (t.old b y).2.1
def Fl.xo{mk:Value}(f:Fl n e C d mk H h):XO e C d h:=by
 obtain⟨oe,vs,T,oT,ts,h1,h2,h3,h4,h5,_⟩:=f;exact⟨oe,vs,h1,h2,h3,h4,(qC5.mp h5).1⟩
def Nt.un(t:Nt n fs ch e H h h')(he:H e=some (xo e C d)):Un fs ch H H h h':=
 ⟨fun b o q hn hf hc=>t.keep b o q (fun z=>by rw[z,he]at hn;cases hn) hf hc,fun b o q hn _ hc=>t.slot b o q (fun z=>by rw[z,he]at hn;cases hn) hc,fun _ _ _ hn _=>hn,fun b o q _=>t.there b o q,fun _ _ q=>q,fun _ _ _ q=>q,fun b ps q=>⟨#[],by simpa using q⟩⟩
def Inv.noted(I:Inv X pins σ H s)(t:Nt n (frs X.stack) ch e H s.heap h')(he:H e=some (xo e C d))(f:XO e C d h')(hn:X.s₀.heap.objs.size<=n)(hp:∀p∈X.pn++pins,p.1<n):Inv X pins σ H { s with heap:=h' }:=by
 refine I.call' rfl (t.un he) (t.hok I.hok he I.stkFree f) I.bare fun b hb=>?_
 obtain⟨h1,h2,o,vs,h3,h4⟩:=t.old b hb;refine⟨.inr (qAt hn h1),?_,?_,fun p hp' z=>?_⟩
 ·intro z;obtain⟨m,⟨o',es,ep,ho',hd',_⟩,_⟩:=I.loc;rw[z,ho']at h3;cases h3;rw[hd']at h4;cases h4
 ·intro x c hx z;obtain⟨v,o',ho',hd'⟩:=I.cell x c hx;rw[<- z,ho']at h3;cases h3;rw[hd']at h4;cases h4
 ·have:=hp p hp'
  rw[z]at this;exact absurd h1 (Nat.not_le_of_lt this)
def zUJ{Q:Unit->qIk->Prop}{M:Model}(I:Inv X pins σ H s)(hA:A.frames=some X.stack)(hs:X.stack=X.env::X.outer/\X.env.frame=some X.env.locals)(x:Fly n e C d H s.heap)(hn:X.s₀.heap.objs.size<=n)(hn':n<=s.heap.objs.size)
  (hp:∀p∈X.pn++pins,p.1<n) (h:∀s',Inv X pins σ H s'->Held n e C d X.env.locals H s'.heap->Q () s'):wpAny M A (noteFrame (.ref e) X.env) Q E s:=by
 have hst:=I.stack;rw[hs.1]at hA hst;refine zYE hA hst hs.2 x hn' (fun b hb=>I.hok.fresh hb) fun h' ch t y=>h _ (I.noted (ch:=ch) (by rw[hs.1];exact t) x.1 y.2.xo hn hp) y
def zUQ{Q:Unit->qIk->Prop}{M:Model}{mk:Value}(I:Inv X pins σ H s)(hx:H e=some (xo e C d))(x:Fl n e C d mk H s.heap)(hn:X.s₀.heap.objs.size<=n)
  (hp:∀p∈X.pn++pins,p.1<n) (h:∀s',Inv X pins σ H s'->Fl n e C d .none H s'.heap->Q () s'):wpAny M A (setFlight (.ref e) none) Q E s:=
 zYI (fs:=frs X.stack) x fun h' ch t y=>h _ (I.noted t hx y.xo hn hp) y
def zSC{Q:Unit->qIk->Prop}{M:Model}(I:Inv X pins σ H s)(hA:A.frames=some X.stack)(hs:X.stack=X.env::X.outer/\X.env.frame=some X.env.locals)(x:Fly n e C d H s.heap)(hn:X.s₀.heap.objs.size<=n)(hn':n<=s.heap.objs.size)
  (hp:∀p∈X.pn++pins,p.1<n) (h:∀s',Inv X pins σ H s'->Fly n e C d H s'.heap->Q () s'):wpAny M A (leaving X.env (.ref e)) Q E s:=by
 unfold leaving;exact wpAny_bind (zUJ I hA hs x hn hn' hp fun s1 I1 y=>zUQ I1 y.1 y.2 hn hp fun s2 I2 z=>h s2 I2 ⟨y.1,.inr z⟩)
end
def CXe(P:qIo)(w:World):CXT:=fun outer H s E x s'=>∃e C d H',x=.ref e/\s'.os=s.os/\qKu s'.gens/\Un (frs outer) [] H H' s.heap s'.heap/\HOk P w H' s'.heap/\Fly s.heap.objs.size e C d H' s'.heap/\s.heap.objs.size<=s'.heap.objs.size/\E x d H'
section
variable{X:Cx}{pins:List (Addr×Obj)}{σ:St}{H:Hp}{s s':qIk}{E:XK}
def Inv.pinlt(I:Inv X pins σ H s):∀p∈X.pn++pins,p.1<s.heap.objs.size:=fun p hp=>qIl (I.pin p hp).1
def XP(X:Cx)(pins:List (Addr×Obj))(σ:St)(E:XK)(x:Value)(s':qIk):Prop:=∃n e C d H',x=.ref e/\Inv X pins σ H' s'/\Fly n e C d H' s'.heap/\X.s₀.heap.objs.size<=n/\n<=s'.heap.objs.size/\(∀p∈X.pn++pins,p.1<n)/\E x d H'
def Inv.flown{x:Value}(I:Inv X pins σ H s)(h:CXe X.prog X.w X.stack H s E x s'):XP X pins σ E x s':=by
 obtain⟨e,C,d,H',rfl,ho,hb,u,hk,f,hz,q⟩:=h;exact⟨_,e,C,d,H',rfl,I.call' ho u hk hb (fun b z=>absurd z (by simp)),f,I.sz,hz,I.pinlt,q⟩
end
section
variable{P:qIo}{w:World}{K:qA0}{mg:Str->Option Value}{base:Heap}{N:List Str}{qual:Str}{scope:Scope}{f:Addr}{cd:Value}{A:qIr}{outer:List Env}{s:qIk}{H:Hp}{E E':XK}
def zZH{pins:List (Addr×Obj)}{σ:St}{x:Value}{s':qIk}(hE:∀C d H',E' C d H'->E C d H')
  (h:XP (cxOf (CXe P w) P w K mg base N qual scope f cd A outer s H E) pins σ E' x s'):(cxOf (CXe P w) P w K mg base N qual scope f cd A outer s H E).xe x s':=by
 obtain⟨n,e,C,d,H',rfl,I,fl,hn,hz,hp,q⟩:=h;refine zSC I I.ok.frames ⟨rfl,rfl⟩ fl hn hz hp fun s2 I2 f2=>?_
 exact⟨e,C,d,H',rfl,I2.os,I2.bare,I2.base,I2.hok,f2.mono hn,I2.sz,hE _ _ _ q⟩
end
abbrev TEX:=St->Hp->VK->XK->Prop
abbrev TSX:=Ends->(St->XK)->St->Hp->Prop
section
end
end L2
namespace PySem.W
open PySem PySem.Calls PyProof.Rows Builtin Builtin.ObjectAttr
def excTail:List Value->Bool
 |.ref _::r=>excTail r
 |[.type a,.type b,.type c,.type d]=>a == "ValueError" && b == "Exception" && c == "BaseException" && d == "object"
 |_=>false
def zNU{a b c d:String}(e:excTail [.type a,.type b,.type c,.type d]=true):a = "ValueError"/\b = "Exception"/\c = "BaseException"/\d = "object":=by
 simp only[excTail,qBh,beq_iff_eq]at e;exact⟨e.1.1.1,e.1.1.2,e.1.2,e.2⟩
def zD8:∀{l:List Value},excTail l=true->∃as:List Addr,l=as.map qIs++[.type "ValueError",.type "Exception",.type "BaseException",.type "object"]
 |.ref a::r,e=>by
  obtain⟨as,rfl⟩:=zD8 (l:=r) e;exact⟨a::as,rfl⟩
 |[.type a,.type b,.type c,.type d],e=>by
  obtain⟨rfl,rfl,rfl,rfl⟩:=zNU e;exact⟨[],rfl⟩
def zPX(self:Value){l:List Value}(e:excTail l=true):refuseLoop self "__setattr__" l=pure ():=by
 obtain⟨as,rfl⟩:=zD8 e;induction as with
 |nil=>exact PySem.F.store_ValueError.passes self
 |cons a r ih=>
  rw[qAm,qB8,refuseLoop_ref];exact ih (by simpa[excTail]using e)
def zZ1{l:List Value}(e:excTail l=true):l.contains (.type "object")=true:=by
 obtain⟨as,rfl⟩:=zD8 e;rw[List.contains_iff_exists_mem_beq];exact⟨.type "object",by simp,by simp⟩
def excOver(K:Frag)(C:Addr):Bool:=(clsIn K C).any fun cd=>excTail cd.mro
section
variable{prog:qIo}{w:World}{A:qIr}{s:qIk}{K:Frag}{x C:Addr}{R:qLq->qIk->Prop}
def zRX{ox:Obj}{od:Option Obj}{name:Str}{tk:Tok}{v:Value}{r:Option Value}(X:K.In s.heap)(I:InstAt s.heap x ox C od)(hp:excOver K C=true)(ht:takerIn K C name=some r)
  (h:∀b,wpAny (model prog w) A.in1 (match r with|some a=>setByDescriptor a (.ref x) v|none=>storeInOwnDict (.ref x) (.ref C) (.str name tk) name v b)
   (fun fin s'=>match fin with | .done f=>R (.ok f) s' | .again c'=>c'.quiet=true/\qJn (model prog w) A c' R s') (fun e s'=>R (.error e) s') s) :
  qJn (model prog w) A (.call (.builtin "object.__setattr__") ⟨[.ref x,.str name tk,v],[]⟩) R s:=by
 have SF:=PySem.F.store_object;obtain⟨cd,hc,ho⟩:=any_some hp;have ne:cd.mro.isEmpty=false:=by cases q:cd.mro with|nil=>rw[q]at ho;cases ho|cons _ _=>rfl
 have sub:Looks (model prog w) s.heap (isInstance (.ref x) (.type "object")) true:=I.type.andThen (looks_mroIn X (by unfold mroIn;rw[hc,Option.bind_some,if_neg (by rw[ne];decide),zZ1 ho]));refine codeAny_call_builtin SF.slot.plain SF.entry (@check_slot (model prog w) _ _ s "object.__setattr__" "object" "__setattr__" (.ref x) [.str name tk,v] [] _ SF.kind SF.split sub (SF.args (.ref x) (.str name tk) v) ?_);obtain⟨attr,ha,hr⟩:=Option.bind_eq_some_iff.mp ht;have hm:Looks (model prog w) s.heap (mroOf (.ref C)) cd.mro:=(looks_clsIn X hc).andThen .now;have L3:Looks (model prog w) s.heap (storeTaker? attr) r:=by
  cases attr with
  |none=>cases hr;exact .now
  |some a=>
   obtain⟨b,hb,rfl⟩:=qFc.mp hr;refine(looks_takesIn X hb).andThen ?_;cases b<;>exact .now
 rw[osa_eq,refuse_eq];refine wpAny_bind (wpAny_bind (I.type.here (wpAny_bind (hm.here ?_))));rw[zPX _ ho];refine wpAny_pure (wpAny_bind (I.type.here (wpAny_bind ((looks_findIn X ha).here (wpAny_bind (L3.here ?_))))));exact h _
def set_exc{E:Value->qIk->Prop}{name:Str}{v:Value}{Q:Unit->qIk->Prop}{vs:Array Value}{sl:Array (Option Value)}(X:K.In s.heap)(hx:s.heap.get? x=some ⟨.ref C,none,.fields vs,sl⟩)
  (hs:findIn K (.ref C) "__setattr__" = some (some (.builtin "object.__setattr__"))) (hp:excOver K C=true) (ht:takerIn K C name=some none) (hh:(clsIn K C).any (·.hasDict)=true)
  (h:∀h' tk',h'.Ns1 s.heap.objs.size (fun y=>if y=name then some v else none)->h'.get? x=some ⟨.ref C,some s.heap.objs.size,.fields vs,sl⟩->(∀b o,b≠x->s.heap.get? b=some o->h'.get? b=some o)->Q () { s with heap:=h',toks:=tk' }) :
  wpAny (model prog w) A (setAttr (.ref x) name v) Q E s:=by
 have I:InstAt s.heap x ⟨.ref C,none,.fields vs,sl⟩ C none:=⟨hx,rfl,rfl,trivial⟩;refine set_plain X I hs (zRX (s:={ s with toks:=s.toks+1 }) (r:=none) X I hp ht fun b=>?_);obtain⟨cd,hc,hd'⟩:=any_some hh;obtain⟨h0,g,d,t,os⟩:=s;dsimp only at hx X I h ⊢;refine wpAny_bind (wpAny_pure (wpAny_bind (wpAny_bind (wpAny_loadPart hx (wpAny_bind (Looks.here (s:=⟨h0,g,d,t+1,os⟩) (looks_clsIn X hc) ?_))))));rw[hd'];have hx₁:(h0.push { cls:=.type "dict",data:=.dict #[] }).get? x=some ⟨.ref C,none,.fields vs,sl⟩:=qIj _ hx;have hxs:x≠h0.objs.size:=qAl (qIl hx);refine wpAny_bind (wpAny_alloc' ?_);refine wpAny_bind (wpAny_update' hx₁ ?_);refine wpAny_pure ?_;have hx₂:((h0.push { cls:=.type "dict",data:=.dict #[] }).update x fun o=>{ cls:=o.cls,dict:=some h0.objs.size,data:=o.data,slots:=o.slots }).get? x=some ⟨.ref C,some h0.objs.size,.fields vs,sl⟩:=qIp _ hx₁ rfl;have hgd:((h0.push { cls:=.type "dict",data:=.dict #[] }).update x fun o=>{ cls:=o.cls,dict:=some h0.objs.size,data:=o.data,slots:=o.slots }).get? h0.objs.size
   = some { cls:=.type "dict",data:=.dict #[] }:=(qLj _ _ _ _ hxs.symm).trans (qKs rfl rfl)
 have hnd:((h0.push { cls:=.type "dict",data:=.dict #[] }).update x fun o=>{ cls:=o.cls,dict:=some h0.objs.size,data:=o.data,slots:=o.slots }).Ns h0.objs.size (fun _=>none):=
  ⟨_,#[],_,hgd,rfl,fun e he=>absurd he (by simp),fun _=>rfl⟩
 show wpAny _ _ (storeInDict h0.objs.size (.str name t) name v) _ _ _;unfold storeInDict newKeyGuard;refine wpAny_bind (wpAny_pure (wpAny_bind (wpAny_nsSet1 (qLw hnd) fun h' hn' hs'=>?_)));obtain⟨oD,esD,epD,hoD,hdD,hcD⟩:=hn'.count (Within.cons name v Within.nil);refine wpAny_bind (wpAny_lookBehind hoD (by rw[hdD];exact pastItsLine_dict (qAt hcD (by rw[qAn,qCx,qJ6];lia))) ?_);exact wpAny_pure (h h' _ hn' ((hs'.2 x hxs).trans hx₂) fun b ob hbx hb=>(hs'.2 b (qAl (qIl hb))).trans ((qLj _ _ _ _ hbx).trans (qIj _ hb)))
end
end PySem.W
namespace PySem.W
open PySem
def xcIn(K:Frag)(C:Addr):Bool:=match K.lookup C with
 |some ⟨.type "type",_,.cls cd,sl⟩=>(match cd.mro,sl.toList with
  |.ref C'::bm,[_,_,_,_,some (.builtin n),_]=>C'==C && !cd.hasDel&&excTail bm&&n == "ValueError.__new__" && cd.hasDict
  |_,_=>false)
 |_=>false
def xc_cls{K:Frag}{h:Heap}{C:Addr}(X:K.In h)(q:xcIn K C=true):∃nm qn N bs bm hdct sn sub ab col dd k0 k1 k2 k3 k5,
  h.get? C=some (excClassObj nm qn C N bs bm hdct sn sub ab col dd k0 k1 k2 k3 k5 "ValueError.__new__")/\excTail bm=true:=by
 unfold xcIn at q;split at q
 ·rename_i dd cd sl ho
  split at q
  ·rename_i C' bm k0 k1 k2 k3 n k5 hm hs
   simp only[qBh,beq_iff_eq,qEy]at q;obtain⟨⟨⟨⟨rfl,hdel⟩,hb⟩,hn⟩,hd⟩:=q;subst hn;obtain⟨nm,bs,mro,ns,qn,hd',sn,sub,ab,col,del⟩:=cd;dsimp only at hm hdel;subst hm hdel;have hsl:sl=#[k0,k1,k2,k3,some (.builtin "ValueError.__new__"),k5]:=by
    obtain⟨l⟩:=sl;simp only at hs;rw[hs]
   subst hsl;exact⟨nm,qn,ns,bs,bm,hd',sn,sub,ab,col,dd,k0,k1,k2,k3,k5,X _ _ ho,hb⟩
  ·cases q
 ·cases q
def exc_con{l:List Value}{T:String}{b:Bool}(e:excTail l=true)(hb:List.contains [qJ9 "ValueError",.type "Exception",.type "BaseException",.type "object"] (.type T)=b):l.contains (.type T)=b:=by
 obtain⟨as,rfl⟩:=zD8 e;clear e;induction as with
 |nil=>exact hb
 |cons a r ih=>rw[qAm,qB8,qCc,ih];rfl
end PySem.W
namespace PySem.Xc
open PySem
section
variable{M:Model}{prog:qIo}{w:World}{A:qIr}{E:Value->qIk->Prop}{h:Heap}{g:Array qKb}{d:Drawn}{t:Nat}{os:OsState}{R:qLq->qIk->Prop}
variable{nm q:Str}{C N:Addr}{bs bm bmB:List Value}{hdct:Bool}{sn:List Str}{sub:List Value}{ab:Bool}{col:Option Bool}{dd:Option Addr}{k0 k1 k2 k3 k5:Option Value}{B newId initId:String}
def zJI(F:qJp B newId initId bmB)(hB:bm.contains (.type B)=true){rest:List Value}{Q:Unit->qIk->Prop}(hC:h.get? C=some (excClassObj nm q C N bs bm hdct sn sub ab col dd k0 k1 k2 k3 k5 newId))
  (hq:Q () ⟨h,g,d,t,os⟩):wpAny M A (checkBuiltinCall newId ⟨.ref C::rest,[]⟩) Q E ⟨h,g,d,t,os⟩:=by
 have hcont:(qIs C::bm).contains (.type B)=true:=by rw[qCc,hB,qFm]
 have hstar:=F.noStar;simp only[checkBuiltinCall,F.newKind,F.newSplit,F.newRow]
 repeat (first|refine qIx hC ?_|(refine qJe hC ?_;rw[hcont])|refine wpAny_staticBase_exc hC ?_|refine qKz hC ?_|simp only[bne_self_eq_false,qD6,if_false]|wp_step)
 exact hq
def zML(F:qJp B newId initId bmB)(hB:bm.contains (.type B)=true)(hA:bm.contains (.type "AttributeError")=false)(hN:bm.contains (.type "NameError")=false){rest:List Value}(hC:h.get? C=some (excClassObj nm q C N bs bm hdct sn sub ab col dd k0 k1 k2 k3 k5 newId))
  (hq:R (.ok (.ret (.ref (h.objs.size+1)))) ⟨(h.push { cls:=.type "tuple",data:=.seq rest.toArray }).push
   { cls:=.ref C,data:=.fields #[.ref h.objs.size,.none,.none,.none,.bool false,.none] },g,d,t,os⟩) (hrest:rest.length<=sizeLine) :
  qJn (model prog w) A (.builtin newId ⟨.ref C::rest,[]⟩) R ⟨h,g,d,t,os⟩:=by
 have hends:=F.ends;have hcB:(qIs C::bm).contains (.type B)=true:=by rw[qCc,hB,qFm]
 have hcA:(qIs C::bm).contains (.type "AttributeError")=false:=by rw[qCc,hA];rfl
 have hcN:(qIs C::bm).contains (.type "NameError")=false:=by rw[qCc,hN];rfl
 refine codeAny_builtinAt F.entry ?_;unfold qJy.«BaseException.__new__»;refine wpAt_bind ?_;show wpAt _ _ _ (stack >>= _) _ _ _;refine wpAt_bind (wpAt_stack fun p below=>wpAt_of_wpAny ?_)
 wp_walk
 refine wpAt_of_wpAny ?_;rw[F.owner]
 repeat (first|with_reducible refine wpAny_madeHere_exc F.canon hC ?_|with_reducible refine qIx hC ?_|(with_reducible refine qJe hC ?_;first|rw[hcB]|rw[hcA]|rw[hcN])|wp_step)
 show R _ _;rw[qIv];exact hq
def zIJ(F:qJp B newId initId bmB)(hB:bm.contains (.type B)=true){e:Addr}{oe:Obj}{rest:List Value}{Q:Unit->qIk->Prop}{newId':String}
  (hC:h.get? C=some (excClassObj nm q C N bs bm hdct sn sub ab col dd k0 k1 k2 k3 k5 newId')) (he:h.get? e=some oe) (hcls:oe.cls=.ref C) (hq:Q () ⟨h,g,d,t,os⟩) :
  wpAny M A (checkBuiltinCall initId ⟨.ref e::rest,[]⟩) Q E ⟨h,g,d,t,os⟩:=by
 have hcB:(qIs C::bm).contains (.type B)=true:=by rw[qCc,hB,qFm]
 have hshort:=F.noStar;simp only[checkBuiltinCall,F.initKind,F.initSplit,F.initRow]
 repeat (first|(with_reducible refine qIx he ?_;rw[hcls])|with_reducible refine qIx hC ?_|(with_reducible refine qJe hC ?_;rw[hcB])|wp_step)
 refine wpAny_onRaise ?_;rw[show ∀(a b:String)(n:Nat),Bind.check ⟨.positional,"*",B,.self,[⟨"args",.varPos,false⟩]⟩ a b n (List.map (fun x=>x.fst) ({ pos:=qIs e::rest }:Args).kw)=pure () from
  fun a b n=>check_star_args _ _ _ _ _ _]
 exact wpAny_pure hq
def zHI(F:qJp B newId initId bmB)(hB:bm.contains (.type B)=true)(hA:bm.contains (.type "AttributeError")=false)(hN:bm.contains (.type "NameError")=false){rest:List Value}{fI:Addr}{oI:Obj}{Q:Fin->qIk->Prop}
  (hC:h.get? C=some (excClassObj nm q C N bs bm hdct sn sub ab col dd k0 k1 k2 k3 k5 newId)) (hi:qDe (model prog w) h (typeLookup (.ref C) "__init__") (some (.ref fI)))
  (hfI:h.get? fI=some oI) (hfc:oI.cls=.type "function")
  (hq:∀h' e,qJj h h' e (.ref C) rest->h.objs.size<=e ->
   wpAny (model prog w) A (call (.ref fI) (.ref e::rest)) (fun r s'=>r=.none/\Q (.done (.ret (.ref e))) s') E ⟨h',g,d,t,os⟩) (hrest:rest.length<=sizeLine) :
  wpAny (model prog w) A (qJy.«type.__call__» ⟨.ref C::rest,[]⟩) Q E ⟨h,g,d,t,os⟩:=by
 repeat (first|with_reducible refine qIx hC ?_|with_reducible refine qKz hC ?_|wp_step)
 refine qKo (qJm _ F.quiet) (zJI F hB hC ?_);refine zML F hB hA hN hC ?_ hrest;show wpAny _ _ _ _ _ _;have hC₁:=qIj { cls:=.ref C,data:=.fields #[.ref h.objs.size,.none,.none,.none,.bool false,.none] }
  (qIj { cls:=.type "tuple",data:=.seq rest.toArray } hC)
 have hfI₁:=qIj { cls:=.ref C,data:=.fields #[.ref h.objs.size,.none,.none,.none,.bool false,.none] }
  (qIj { cls:=.type "tuple",data:=.seq rest.toArray } hfI)
 have hi₁:=hi.keeps (h':=(h.push { cls:=.type "tuple",data:=.seq rest.toArray }).push { cls:=.ref C,data:=.fields #[.ref h.objs.size,.none,.none,.none,.bool false,.none] }) fun b o e=>qIj _ (qIj _ e)
 have hget:((h.push { cls:=.type "tuple",data:=.seq rest.toArray }).push
   { cls:=.ref C,data:=.fields #[.ref h.objs.size,.none,.none,.none,.bool false,.none] }).get? (h.objs.size+1)=some
   { cls:=.ref C,data:=.fields #[.ref h.objs.size,.none,.none,.none,.bool false,.none] }:=by heap_get
 have hcC:(qIs C::bm).contains (.ref C)=true:=by simp
 unfold isInstance
 repeat (first|with_reducible refine qIx hget ?_|(with_reducible refine qJe hC₁ ?_;rw[hcC])|wp_step)
 show wpAny _ _ (typeLookup (.ref C) _) _ _ _;refine hi₁.here ?_;refine wpAny_holding (wpAny_bind ?_);unfold bindSpecial;refine wpAny_bind (wpAny_typeOf (T:="function") ⟨_,hfI₁,hfc⟩ ?_);rw[if_pos (by decide)];refine wpAny_pure (wpAny_bind (wpAny_mono (hq _ (h.objs.size+1) ⟨fun b o hb=>qIj _ (qIj _ hb),qJa (qBm _),h.objs.size,hget,qJa (qA5 _),?_⟩ (qBm _)) (fun r s' hr=>?_) fun _ _ x=>x))
 ·exact qIj _ (qKs rfl rfl)
 ·obtain⟨rfl,hQ⟩:=hr
  wp_walk
  exact hQ
def call_initX(F:qJp B newId initId bmB)(hB:bm.contains (.type B)=true)(hA:bm.contains (.type "AttributeError")=false)(hN:bm.contains (.type "NameError")=false){rest:List Value}{fI:Addr}{oI:Obj}{Q:Value->qIk->Prop}
  (hC:h.get? C=some (excClassObj nm q C N bs bm hdct sn sub ab col dd k0 k1 k2 k3 k5 newId)) (hi:qDe (model prog w) h (typeLookup (.ref C) "__init__") (some (.ref fI)))
  (hfI:h.get? fI=some oI) (hfc:oI.cls=.type "function")
  (hq:∀h' e,qJj h h' e (.ref C) rest->h.objs.size<=e ->
   wpAny (model prog w) (A.under (.builtin "type.__call__" ⟨.ref C::rest,[]⟩)) (call (.ref fI) (.ref e::rest)) (fun r s'=>r=.none/\Q (.ref e) s') E ⟨h',g,d,t,os⟩) (hrest:rest.length<=sizeLine) :
  wpAny (model prog w) A (call (.ref C) rest) Q E ⟨h,g,d,t,os⟩:=by
 have f1:=tc_lookup;have f2:=tc_bind (.ref C);have hT:(⟨h,g,d,t,os⟩:qIk).TypeIs (.ref C) "type":=⟨_,hC,rfl⟩;refine wpAny_call (codeAny_of_tree ?_);show wpAny _ _ (callAny (.ref C) _) _ _ _
 repeat (any_goals (first|assumption|with_reducible refine qIx hC ?_|wp_step))
 refine⟨rfl,?_⟩;refine qKy (qJm _ (by decide +kernel)) entry_typeCall (wpAny_check_type_call_sub hC (zHI (hrest:=hrest) F hB hA hN hC hi hfI hfc fun h' e hm hz=>?_));exact hq h' e hm hz
def zPM(F:qJp B newId initId bmB)(hB:bm.contains (.type B)=true)(hA:bm.contains (.type "AttributeError")=false)(hN:bm.contains (.type "NameError")=false){rest:List Value}{Q:Fin->qIk->Prop}
  (hC:h.get? C=some (excClassObj nm q C N bs bm hdct sn sub ab col dd k0 k1 k2 k3 k5 newId)) (hi:qDe (model prog w) h (typeLookup (.ref C) "__init__") (some (.builtin initId)))
  (hq:∀h' e,qJj h h' e (.ref C) rest->h.objs.size<=e->Q (.done (.ret (.ref e))) ⟨h',g,d,t,os⟩) (hrest:rest.length<=sizeLine) :
  wpAny (model prog w) A (qJy.«type.__call__» ⟨.ref C::rest,[]⟩) Q E ⟨h,g,d,t,os⟩:=by
 repeat (first|with_reducible refine qIx hC ?_|with_reducible refine qKz hC ?_|wp_step)
 refine qKo (qJm _ F.quiet) (zJI F hB hC ?_);refine zML F hB hA hN hC ?_ hrest;show wpAny _ _ _ _ _ _;have hC₁:=qIj { cls:=.ref C,data:=.fields #[.ref h.objs.size,.none,.none,.none,.bool false,.none] }
  (qIj { cls:=.type "tuple",data:=.seq rest.toArray } hC)
 have hi₁:=hi.keeps (h':=(h.push { cls:=.type "tuple",data:=.seq rest.toArray }).push { cls:=.ref C,data:=.fields #[.ref h.objs.size,.none,.none,.none,.bool false,.none] }) fun b o e=>qIj _ (qIj _ e)
 have hget:((h.push { cls:=.type "tuple",data:=.seq rest.toArray }).push
   { cls:=.ref C,data:=.fields #[.ref h.objs.size,.none,.none,.none,.bool false,.none] }).get? (h.objs.size+1)=some
   { cls:=.ref C,data:=.fields #[.ref h.objs.size,.none,.none,.none,.bool false,.none] }:=by heap_get
 have hcC:(qIs C::bm).contains (.ref C)=true:=by simp
 unfold isInstance
 repeat (first|with_reducible refine qIx hget ?_|(with_reducible refine qJe hC₁ ?_;rw[hcC])|wp_step)
 show wpAny _ _ (typeLookup (.ref C) _) _ _ _;refine hi₁.here ?_;refine wpAny_holding (wpAny_bind (wpAny_of_eq (F.init.bind _) ?_));refine wpAny_bind (wpAny_call (codeAny_call_builtin F.init.plain F.initEntry (zIJ F hB hC₁ hget rfl ?_)))
 wp_walk
 refine hq _ _ ⟨fun b o hb=>?_,qJa (qBm _),h.objs.size+2,?_,qJa (by lia),?_⟩ (qBm _)
 ·rw[qIq _ _ (qBx (qBk (qIl hb)))];exact qIj _ (qIj _ (qIj _ hb))
 ·rw[qIp _ (qIj _ hget) rfl];simp only[qIv];rfl
 ·rw[qIq _ _ (show h.objs.size+1≠h.objs.size+2 by lia)];exact qKs (by simp only[qIv]) rfl
def callX(F:qJp B newId initId bmB)(hB:bm.contains (.type B)=true)(hA:bm.contains (.type "AttributeError")=false)(hN:bm.contains (.type "NameError")=false){rest:List Value}{Q:Value->qIk->Prop}
  (hC:h.get? C=some (excClassObj nm q C N bs bm hdct sn sub ab col dd k0 k1 k2 k3 k5 newId)) (hi:qDe (model prog w) h (typeLookup (.ref C) "__init__") (some (.builtin initId)))
  (hq:∀h' e,qJj h h' e (.ref C) rest->h.objs.size<=e->Q (.ref e) ⟨h',g,d,t,os⟩) (hrest:rest.length<=sizeLine) :
  wpAny (model prog w) A (call (.ref C) rest) Q E ⟨h,g,d,t,os⟩:=by
 have f1:=tc_lookup;have f2:=tc_bind (.ref C);have hT:(⟨h,g,d,t,os⟩:qIk).TypeIs (.ref C) "type":=⟨_,hC,rfl⟩;refine wpAny_call (codeAny_of_tree ?_);show wpAny _ _ (callAny (.ref C) _) _ _ _
 repeat (any_goals (first|assumption|with_reducible refine qIx hC ?_|wp_step))
 refine⟨rfl,?_⟩;refine qKy (qJm _ (by decide +kernel)) entry_typeCall (wpAny_check_type_call_sub hC (zPM (hrest:=hrest) F hB hA hN hC hi fun h' e hm hz=>?_));exact hq h' e hm hz
def call_baseX(F:qJp B newId initId bmB)(hB:bm.contains (.type B)=true){e t1:Addr}{di:Option Addr}{rest:List Value}{Q:Value->qIk->Prop}{newId':String}
  (hC:h.get? C=some (excClassObj nm q C N bs bm hdct sn sub ab col dd k0 k1 k2 k3 k5 newId')) (he:h.get? e=some { cls:=.ref C,dict:=di,data:=.fields #[.ref t1,.none,.none,.none,.bool false,.none] })
  (hq:∀h' t0,(∀b o,b≠e->h.get? b=some o->h'.get? b=some o)->h'.get? e=some { cls:=.ref C,dict:=di,data:=.fields #[.ref t0,.none,.none,.none,.bool false,.none] }->Q .none ⟨h',g,d,t,os⟩) (hrest:rest.length<=sizeLine) :
  wpAny (model prog w) A (call (.builtin initId) (.ref e::rest)) Q E ⟨h,g,d,t,os⟩:=by
 refine wpAny_call (codeAny_call_builtin F.init.plain F.initEntry (zIJ F hB hC he rfl ?_))
 wp_walk
 refine hq _ h.objs.size (fun b o hbe hb=>?_) ?_
 ·rw[qIq _ _ (qC9 hbe)];exact qIj _ hb
 ·rw[qIp _ (qIj _ he) rfl];rfl
end
section
variable{M:Model}{A:qIr}{E:Value->qIk->Prop}{s:qIk}{env:Env}
variable{nm q:Str}{C N:Addr}{bs bm:List Value}{hdct:Bool}{sn:List Str}{sub:List Value}{ab:Bool}{col:Option Bool}{dd:Option Addr}{k0 k1 k2 k3 k5:Option Value}{newId:String}
def raiseX{x:Sem Value}{Q:Flow->qIk->Prop}(hh:A.handled=none)
  (h:wpAny M A x (fun v s₁=>∃e t di nm q C N bs bm hdct sn sub ab col dd k0 k1 k2 k3 k5 newId,v=.ref e/\s₁.heap.get? C=some (excClassObj nm q C N bs bm hdct sn sub ab col dd k0 k1 k2 k3 k5 newId)/\bm.contains (.type "BaseException")=true /\
   s₁.heap.get? e=some { cls:=.ref C,dict:=di,data:=.fields #[.ref t,.none,.none,.none,.bool false,.none] }/\E (.ref e) s₁) E s) :
  wpAny M A (raiseStmt env (some x) none) Q E s:=by
 unfold raiseStmt;refine wpAny_bind (wpAny_mono h (fun v s₁ h₁=>?_) fun _ _ x=>x);obtain⟨e,t,di,nm,q,C,N,bs,bm,hdct,sn,sub,ab,col,dd,k0,k1,k2,k3,k5,newId,rfl,hC,hbase,he,hE⟩:=h₁;have hcB:(qIs C::bm).contains (.type "BaseException")=true:=by rw[qCc,hbase,qFm]
 obtain⟨hp,g,d,tk,os⟩:=s₁
 repeat (first|with_reducible refine qIx he ?_|with_reducible refine qIx hC ?_|(with_reducible refine qJe hC ?_;rw[hcB])|wp_step)
 exact wpAny_raiseNew_none hh hE
def RaiseX{x:Expr}{pos:Pos}{Q:Flow->qIk->Prop}(hh:A.handled=none)
  (h:wpAny M A (eval x env) (fun v s₁=>∃e t di nm q C N bs bm hdct sn sub ab col dd k0 k1 k2 k3 k5 newId,v=.ref e/\s₁.heap.get? C=some (excClassObj nm q C N bs bm hdct sn sub ab col dd k0 k1 k2 k3 k5 newId)/\bm.contains (.type "BaseException")=true /\
   s₁.heap.get? e=some { cls:=.ref C,dict:=di,data:=.fields #[.ref t,.none,.none,.none,.bool false,.none] }/\E (.ref e) s₁) E s) :
  wpAny M A (exec (.Raise (some x) none pos) env) Q E s:=by
 rw[arm_exec_Raise]
 first
  |exact wpAny_bind (wpAny_standAt (raiseX hh (wpAny_bind (wpAny_mono h (fun v s₁ h₁=>wpAny_bind (wpAny_standAt (wpAny_pure h₁))) fun _ _ x=>x))))
  |(simp only[evalOpt,Option.map];exact wpAny_bind (wpAny_standAt (raiseX hh (wpAny_bind (wpAny_mono h (fun v s₁ h₁=>wpAny_bind (wpAny_standAt (wpAny_pure h₁))) fun _ _ x=>x)))))
  |(show wpAny M A (do qMl pos;raiseStmt env (some (do let v <- eval x env;qMl pos;pure v)) none) Q E s;exact wpAny_bind (wpAny_standAt (raiseX hh (wpAny_bind (wpAny_mono h (fun v s₁ h₁=>wpAny_bind (wpAny_standAt (wpAny_pure h₁))) fun _ _ x=>x)))))
end
section
open PySem.W
end
end PySem.Xc
namespace L2
open PySem PySem.Spec PyProof.Rows
def XN(e:Addr)(C:Value)(d:Option Addr)(h:Heap):Prop:=∃t1,h.get? e=some { cls:=C,dict:=d,data:=.fields #[.ref t1,.none,.none,.none,.bool false,.none] }
abbrev xn(e:Addr)(C:Value)(d:Option Addr):HO:=.ext (XN e C d)
def zXB{e:Addr}{C:Value}{d:Option Addr}(h1 h2:Heap)(x:XN e C d h1)(k:∀o,h1.get? e=some o->h2.get? e=some o):XN e C d h2:=let⟨t1,a⟩:=x;⟨t1,k _ a⟩
def zXA{e:Addr}{C:Value}{d:Option Addr}(h1 h2:Heap)(x:XO e C d h1)(k:∀o,h1.get? e=some o->h2.get? e=some o):XO e C d h2:=let⟨oe,vs,a,r⟩:=x;⟨oe,vs,k _ a,r⟩
def zYA{P:qIo}{w:World}{H:Hp}{h:Heap}{e:Addr}{C:Value}{d:Option Addr}(x:XN e C d h):ObjOk P w H h e (xn e C d):=⟨x,let⟨t1,a⟩:=x;⟨_,a⟩,zXB⟩
def zdD{P:qIo}{w:World}{H:Hp}{h:Heap}{e:Addr}{C:Value}{d:Option Addr}(x:XO e C d h):ObjOk P w H h e (xo e C d):=⟨x,let⟨oe,vs,a,_⟩:=x;⟨_,a⟩,zXA⟩
section
variable{X:Cx}{pins:List (Addr×Obj)}{σ:St}{H:Hp}{s:qIk}{k:Nat}{f C:Addr}{fd:qJ0}{ps:List Str}{sp:Sp}{x:Str}{p pos:Pos}{e:Expr}{es:List Expr}{t:TA}{te:TE}
def zOH(C:Addr)(sp:Sp)(E:XK)(t:TA):TE:=fun σ H Q=>t σ H fun vs H1=>vs.length<=sizeLine/\∀e,H1 e=none->sp (.ref e::vs) (upd H1 e (xn e (.ref C) none)) (fun v H2=>v=.non/\Q (.ref e) H2) E
def zN5(C:Addr)(t:TA):TE:=fun σ H Q=>t σ H fun vs H1=>vs.length<=sizeLine/\∀e,H1 e=none->Q (.ref e) (upd H1 e (xn e (.ref C) none))
def Inv.madeX{h':Heap}{e:Addr}{us:List Value}(I:Inv X pins σ H s)(m:qJj s.heap h' e (.ref C) us)(hs:s.heap.objs.size<=e):H e=none/\Inv X pins σ (upd H e (xn e (.ref C) none)) { s with heap:=h' }:=by
 obtain⟨t1,h1,_⟩:=m.there;exact⟨I.hok.fresh hs,I.laid (t':=s.toks) m.keeps hs (zYA ⟨t1,h1⟩)⟩
def zRC{Q:VK}{E:XK}{us:List Value}{vs:List V}(hc:PySem.W.xcIn X.K C=true)(hi:qA8 X.K (.ref C) "__init__" = some (some (.ref f)))(hf:qBd X.K (.ref f)=true)(F:FnOk X.prog X.w X.K X.mg X.base (CXe X.prog X.w) k f fd ps sp)
  (hr:Room (k+1) X.A) (hb:Binds X.K fd ps []) (hx:zH0 (CXe X.prog X.w) X E) (I:Inv X pins σ H s) (r:Vals vs us) (hz:vs.length<=sizeLine)
  (h:∀e,H e=none->sp (.ref e::vs) (upd H e (xn e (.ref C) none)) (fun v H2=>v=.non/\Q (.ref e) H2) E) :
  wpAny (model X.prog X.w) X.A (call (.ref C) us) (EP X pins σ Q) X.xe s:=by
 obtain⟨nm,qn,N,bs,bm,hdct,sn,sub,ab,col,dd,k0,k1,k2,k3,k5,hC,ht⟩:=PySem.W.xc_cls I.kIn hc;obtain⟨oI,hfI,hfc⟩:∃oI,s.heap.get? f=some oI/\oI.cls=.type "function":=by
  have hf':=beq_iff_eq.mp hf;obtain⟨o,ho,h2⟩:=qFc.mp (show(X.K.lookup f).map (·.cls)=some (.type "function") from hf');exact⟨o,I.kIn _ _ ho,h2⟩
 have hC':s.heap.get? C=some (excClassObj nm qn C N bs bm hdct sn sub ab col dd k0 k1 k2 k3 k5 "ValueError.__new__"):=hC;have hus:us.length<=sizeLine:=by rw[<- r.length];exact hz
 have key:∀h' e,qJj s.heap h' e (.ref C) us->s.heap.objs.size<=e->wpAny (model X.prog X.w) (X.A.under (.builtin "type.__call__" ⟨.ref C::us,[]⟩)) (call (.ref f) (.ref e::us)) (fun r s'=>r=.none/\EP X pins σ Q (.ref e) s') X.xe { s with heap:=h' }:=by
  intro h' e m hs;obtain⟨he,I2⟩:=I.madeX m hs;have hq:=h e he;have r2:Vals (V.ref e::vs) (qIs e::us):=.cons rfl r;have hl:(qIs e::us++[]).length=ps.length:=by
   rw[qBv,<- r2.length];exact F.len _ _ _ _ hq
  have hbb:=hb _ (qIs e::us) I2.kIn hl;rw[qBv]at hbb;refine wpAny_call (codeAny_mono (F.run _ X.stack _ _ ⟨qIs e::us,[]⟩ (qIs e::us) _ _ E (hr.make C us []) (I2.env0.make C us []) hbb r2 hq) fun r s' hq'=>?_);cases r with
  |error x=>exact hx pins σ _ _ x s' I2 hq'
  |ok fl=>
   cases fl with
   |ret u=>
    obtain⟨v,H',I3,rv,ev,q3⟩:=I2.after hq';subst ev;exact⟨rv,⟨V.ref e,H',I3,rfl,q3⟩⟩
   |next=>exact qA4 hq'
   |brk=>exact qA4 hq'
   |cont=>exact qA4 hq'
 have hK:=qDj (M:=model X.prog X.w) I.kIn hi;obtain⟨hh,g,d,tk,os⟩:=s;exact Xc.call_initX qDg (PySem.W.exc_con ht (by decide)) (PySem.W.exc_con ht (by decide)) (PySem.W.exc_con ht (by decide)) hC' hK hfI hfc key hus
def zPV{Q:VK}{us:List Value}{vs:List V}(hc:PySem.W.xcIn X.K C=true)(hi:qA8 X.K (.ref C) "__init__" = some (some (.builtin "ValueError.__init__")))
  (I:Inv X pins σ H s) (r:Vals vs us) (hz:vs.length<=sizeLine) (h:∀e,H e=none->Q (.ref e) (upd H e (xn e (.ref C) none))):wpAny (model X.prog X.w) X.A (call (.ref C) us) (EP X pins σ Q) X.xe s:=by
 obtain⟨nm,qn,N,bs,bm,hdct,sn,sub,ab,col,dd,k0,k1,k2,k3,k5,hC,ht⟩:=PySem.W.xc_cls I.kIn hc;have hus:us.length<=sizeLine:=by rw[<- r.length];exact hz
 have key:∀h' e,qJj s.heap h' e (.ref C) us->s.heap.objs.size<=e->EP X pins σ Q (.ref e) { s with heap:=h' }:=by
  intro h' e m hs;obtain⟨he,I2⟩:=I.madeX m hs;exact⟨.ref e,_,I2,rfl,h e he⟩
 have hK:=qDj (M:=model X.prog X.w) I.kIn hi;obtain⟨hh,g,d,tk,os⟩:=s;exact Xc.callX qDg (PySem.W.exc_con ht (by decide)) (PySem.W.exc_con ht (by decide)) (PySem.W.exc_con ht (by decide)) hC hK key hus
def zUA{E:XK}(hc:PySem.W.xcIn X.K C=true)(hi:qA8 X.K (.ref C) "__init__" = some (some (.ref f)))(hf:qBd X.K (.ref f)=true)(F:FnOk X.prog X.w X.K X.mg X.base (CXe X.prog X.w) k f fd ps sp)
  (hr:Room (k+1) X.A) (hb:Binds X.K fd ps []) (hx:zH0 (CXe X.prog X.w) X E) (hg:Gl X x) (hm:X.mg x=some (.ref C)) (hk:qAk X.K (.ref C)=true)
  (ha:PA X (e::es) t) (hdb:(x==("__debug__":Str))=false:=by decide) (he:starEach (e::es) X.env=(false,eval e X.env)::starEach es X.env:=by rfl) (hpl:(backTo pos (starEach es X.env)).any (·.1)=false:=by rfl) :
  PE X (.Call (.Name x p) (e::es) [] pos) (zOH C sp E t):=by
 intro pins s σ H Q I h;refine qJ5 (zFD I hg hm ?_ hdb);refine qCs (h₀:=X.base) I.ok.mod.kin hk (thn (ha pos pins s σ H _ I h) fun us s1 ⟨vs,H1,I1,r,z,q⟩=>⟨I1.kIn,?_⟩) he hpl;exact zRC hc hi hf F hr hb hx I1 r z q
def zRR(hc:PySem.W.xcIn X.K C=true)(hi:qA8 X.K (.ref C) "__init__" = some (some (.builtin "ValueError.__init__")))(hg:Gl X x)(hm:X.mg x=some (.ref C))(hk:qAk X.K (.ref C)=true)
  (ha:PA X (e::es) t) (hdb:(x==("__debug__":Str))=false:=by decide) (he:starEach (e::es) X.env=(false,eval e X.env)::starEach es X.env:=by rfl) (hpl:(backTo pos (starEach es X.env)).any (·.1)=false:=by rfl) :
  PE X (.Call (.Name x p) (e::es) [] pos) (zN5 C t):=by
 intro pins s σ H Q I h;refine qJ5 (zFD I hg hm ?_ hdb);refine qCs (h₀:=X.base) I.ok.mod.kin hk (thn (ha pos pins s σ H _ I h) fun us s1 ⟨vs,H1,I1,r,z,q⟩=>⟨I1.kIn,?_⟩) he hpl;exact zPV hc hi I1 r z q
def zTQ{e:Addr}{o:HO}(h:H e=some o):upd H e o=H:=by
 funext b;unfold upd;split
 ·rename_i z;rw[z];exact h.symm
 ·rfl
def Inv.xn{e:Addr}{d:Option Addr}{Cv:Value}(I:Inv X pins σ H s)(h:H e=some (xn e Cv d)):XN e Cv d s.heap:=(I.hok e _ h).1
def XN.xo{h:Heap}{e:Addr}{d:Option Addr}{Cv:Value}(x:XN e Cv d h):XO e Cv d h:=let⟨t1,a⟩:=x;⟨_,_,a,rfl,rfl,rfl,by simp⟩
def Inv.raised{e:Addr}{d:Option Addr}(I:Inv X pins σ H s)(h:H e=some (L2.xn e (.ref C) d))(E:XK)(q:E (.ref e) d (upd H e (xo e (.ref C) d))):XP X pins σ E (.ref e) s:=by
 have x:=I.xn h;obtain⟨t1,a⟩:=id x;have I':Inv X pins σ (upd H e (xo e (.ref C) d)) s:=I.write (t':=s.toks) (h':=s.heap) (e:=e) (by rw[h];trivial) (.inl rfl) (fun _ _ _ q=>q) ⟨_,a⟩ (zdD x.xo);exact⟨s.heap.objs.size,e,.ref C,d,_,rfl,I',⟨zA8,.inl ⟨_,_,a,rfl,rfl,rfl,rfl⟩⟩,I.sz,qA5 _,I.pinlt,q⟩
def Flies(X:Cx)(E:XK):Prop:=∀(pins:List (Addr×Obj))(σ:St)(x:Value)(s':qIk),XP X pins σ E x s'->X.xe x s'
def Flies.passes{E:XK}(h:Flies X E):zH0 (CXe X.prog X.w) X E:=fun pins σ H s x s' I q=>h pins σ x s' (I.flown q)
def zOG(K:qA0)(E:XK)(te:TE):TS:=fun _ σ H=>te σ H fun v H1=>∃e C d,v=.ref e/\H1 e=some (L2.xn e (.ref C) d)/\PySem.W.xcIn K C=true/\E (.ref e) d (upd H1 e (xo e (.ref C) d))
def zK2{E:XK}(he:PE X e te)(hf:Flies X E)(hc:X.calm=true):PS X (.Raise (some e) none pos) (zOG X.K E te):=by
 intro pins s σ H D I h;refine Xc.RaiseX (I.ok.hd hc) (thn (he pins s σ H _ I h) fun v s1 z0=>?_);obtain⟨y,H1,I1,ry,a,C,d,ey,ha,hx,q⟩:=z0;subst ey;cases ry;obtain⟨t1,hg⟩:=I1.xn ha;obtain⟨nm,qn,N,bs,bm,hdct,sn,sub,ab,col,dd,k0,k1,k2,k3,k5,hC,ht⟩:=PySem.W.xc_cls I1.kIn hx;exact⟨a,t1,d,nm,qn,C,N,bs,bm,hdct,sn,sub,ab,col,dd,k0,k1,k2,k3,k5,_,rfl,hC,PySem.W.exc_con ht (by decide),hg,hf pins σ _ _ (I1.raised ha E q)⟩
def zW1(K:qA0)(t:TA):TE:=fun σ H Q=>t σ H fun vs H1=>∃e C d rest,vs=.ref e::rest/\H1 e=some (L2.xn e (.ref C) d)/\PySem.W.xcIn K C=true/\rest.length<=sizeLine/\Q .non H1
structure XBase(K:qA0)(B:Addr):Prop where
 ga:qDf K (.ref B) "__getattribute__" = some (some (.builtin "type.__getattribute__"))
 rd:qH0 K B (.type "type")=true
 fd:qH1 K (.ref B) (.type "type") "__init__" = some (.val (.builtin "ValueError.__init__"))
 hi:qE9 (.builtin "ValueError.__init__")=true
def zUE{B:Addr}{apos:Pos}{pl:Sem Bool}(hB:XBase X.K B)(hg:Gl X x)(hm:X.mg x=some (.ref B))(ha:PA X (e::es) t)(hdb:(x==("__debug__":Str))=false:=by decide)
  (he:starEach (e::es) X.env=(false,eval e X.env)::starEach es X.env:=by rfl) (hpl:(backTo pos (starEach es X.env)).any (·.1)=false:=by rfl)
  (ht:eval (.Call (.Attribute (.Name x p) "__init__" apos) (e::es) [] pos) X.env=(do
   let ov <- eval (.Name x p) X.env
   qMl apos.atName
   let(f,first) <- holding [ov] (getMethod ov "__init__" pl)
   callWith pos f first (backTo pos (starEach (e::es) X.env)) (backToKw pos (keywordEach [] X.env))):=by rfl) :
  PE X (.Call (.Attribute (.Name x p) "__init__" apos) (e::es) [] pos) (zW1 X.K t):=by
 intro pins s σ H Q I h;refine qFn (pl:=pl) (zFD I hg hm ?_ hdb) ht;refine PySem.W.method_cls I.kIn hB.ga (PySem.W.cls_value I.kIn hB.rd hB.fd hB.hi ?_);have I':=I.tok (s.toks+1);refine qE5 (thn (ha pos pins _ σ H _ I' h) fun us s1 z0=>?_) he hpl;obtain⟨vs,H1,I1,r1,a,C,d,rest,ev,ea,hx,hz,q⟩:=z0;subst ev;cases r1 with
 |cons ru r2=>
  cases ru;obtain⟨t1,hg1⟩:=I1.xn ea;obtain⟨nm,qn,N,bs,bm,hdct,sn,sub,ab,col,dd,k0,k1,k2,k3,k5,hC,htl⟩:=PySem.W.xc_cls I1.kIn hx;have hus:=r2.length;obtain⟨hh,g,dr,tk,os⟩:=s1;refine Xc.call_baseX qDg (PySem.W.exc_con htl (by decide)) hC hg1 (fun h' t0 k1 k2=>?_) (by rw[<- hus];exact hz);have I2:Inv X pins σ (upd H1 a (L2.xn a (.ref C) d)) { heap:=h',gens:=g,drawn:=dr,toks:=tk,os:=os }:=
   I1.write (h':=h') (t':=tk) (e:=a) (by rw[ea];trivial) (.inl rfl) (fun b u hb e=>k1 b u hb e) ⟨_,k2⟩ (zYA ⟨t0,k2⟩)
  rw[zTQ ea]at I2;exact⟨.non,H1,I2,rfl,q⟩
structure XSet(K:qA0)(C:Addr)(f:Str):Prop where
 st:qA8 K (.ref C) "__setattr__" = some (some (.builtin "object.__setattr__"))
 ov:PySem.W.excOver K C=true
 tk:qDr K C f=some none
 hd:(qCg K C).any (·.hasDict)=true
def zW5(K:qA0)(ta tv:TE)(f:Str):TS:=fun D σ H=>tv σ H fun y H1=>ta σ H1 fun x H2=>∃e C,x=.ref e/\H2 e=some (L2.xn e (.ref C) none)/\XSet K C f /\
 ∀d,H2 d=none->d≠e->D.nx σ (upd (upd H2 d (.xd [(f,y)])) e (L2.xn e (.ref C) (some d)))
def zU8{o value:Expr}{f:Str}{pos':Pos}{ta tv:TE}(ha:PE X o ta)(hv:PE X value tv)(hs:qLp value (some (.Attribute o f pos')) pos.line X.env=pure false):PS X (.Assign [.Attribute o f pos'] value pos) (zW5 X.K ta tv f):=by
 intro pins s σ H D I h;refine qK8 (thn (hv pins s σ H _ I h) fun u s1 ⟨y,H1,I1,ry,q⟩=>thn (ha pins s1 σ H1 _ I1 q) fun ov s2 ⟨x,H2,I2,rx,a,C,ex,ea,c,q2⟩=>?_) hs;subst ex;obtain rfl:ov=qIs a:=rx;obtain⟨t1,hg1⟩:=I2.xn ea;refine PySem.W.set_exc I2.kIn hg1 c.st c.ov c.tk c.hd fun h' tk' n1 g2 k2=>?_
 have hdn:H2 s2.heap.objs.size=none:=I2.hok.fresh (qA5 _);have hne:s2.heap.objs.size≠a:=fun z=>by rw[z,ea]at hdn;cases hdn
 refine⟨σ,_,?_,q2 s2.heap.objs.size hdn hne⟩;have nb:∀b,H2 b=none->b≠a:=fun b hb z=>by rw[z,ea]at hb;cases hb
 have ndx:∀b o,s2.heap.get? b=some o->b≠s2.heap.objs.size:=fun b o e=>qAl (qIl e)
 have oth:∀b,b≠a->b≠s2.heap.objs.size->upd (upd H2 s2.heap.objs.size (.xd [(f,y)])) a (L2.xn a (.ref C) (some s2.heap.objs.size)) b=H2 b:=fun b h1 h2=>by rw[zA5 h1,zA5 h2]
 have tr:∀{b:Addr}{o:HO},H2 b=some o->(∀φ,o≠.ext φ)->upd (upd H2 s2.heap.objs.size (.xd [(f,y)])) a (L2.xn a (.ref C) (some s2.heap.objs.size)) b=some o:=fun{b o} hb hn=>by
  rw[oth b (fun z=>by rw[z,ea]at hb;cases hb;exact hn _ rfl) (fun z=>by rw[z,hdn]at hb;cases hb)];exact hb
 refine I2.un (h':=h') (t':=tk') ⟨fun b o e n _ _=>k2 b o (nb b n) e,fun b o e n _ _=>⟨o.slots,k2 b o (nb b n) e⟩,fun b o e n _=>by rw[oth b (nb b n) (ndx b o e)];exact n,fun b o e _=>?_,fun b xs e=>tr e fun _ z=>(by cases z),fun b o u e=>tr e fun _ z=>(by cases z),fun b ps e=>⟨#[],by rw[Array.append_empty];exact tr e fun _ z=>(by cases z)⟩⟩ fun b u e=>?_
 ·by_cases z:b=a
  ·rw[z];exact⟨_,g2⟩
  ·exact⟨o,k2 b o z e⟩
 ·by_cases z:b=a
  ·subst z;rw[zA8]at e;cases e;exact zYA ⟨t1,g2⟩
  ·rw[zA5 z]at e
   by_cases z':b=s2.heap.objs.size
   ·subst z';rw[zA8]at e;cases e;refine⟨_,n1,fun g=>?_⟩
    by_cases hgf:g=f
    ·subst hgf;simp[qB7,RelO];exact ry
    ·have hb:(g==f)=false:=beq_eq_false_iff_ne.mpr hgf;simp[qB7,hb,hgf,RelO]
   ·rw[zA5 z']at e;refine(I2.hok b u e).stay (fun c w hc q=>k2 c w ?_ q) (fun c q=>?_) (fun c xs q=>tr q fun _ z=>(by cases z)) fun c _ _ q _=>tr q fun _ z=>(by cases z)
    ·rcases hc with rfl|hc
     ·exact z
     ·intro y;rw[y,ea]at hc;cases hc
    ·exact tr q fun _ z=>(by cases z)
end
section
def isX(H:Hp)(e C:Addr)(d:Option Addr):Prop:=H e=some (xn e (.ref C) d)\/H e=some (xo e (.ref C) d)
end
end L2
namespace PySem.Xc
open PySem PySem.W
section
end
structure XIs(K:Frag)(C:Addr):Prop where
 xc:xcIn K C=true
 ga:findIn K (.ref C) "__getattribute__" = some (some (.builtin "BaseException.__getattribute__"))
 gg:findIn K (.ref C) "__getattr__" = some none
 hd:hasDictIn K C=true
 ca:findIn K (.ref C) "__class__" = some (some (.builtin "object.__class__"))
 cg:specialIn K (.builtin "object.__class__") "__get__" = some (some (.builtin "getset_descriptor.__get__"))
 ct:takesIn K (.builtin "object.__class__")=some true
 mo:mroIn K C (.type "object")=some true
end PySem.Xc
namespace Att
open PySem PySem.W PySem.Calls PyProof.Rows
def zXE{ns:List Int}(h:qMr (ns.map qMq)<=2 ^ 20):∀i∈ns,i.natAbs.log2<2 ^ 20:=by
 induction ns with
 |nil=>intro i hi;cases hi
 |cons n r ih=>
  rw[qAm,qMr]at h;intro i hi;rcases qAb.mp hi with rfl|hi
  ·rw[qNg]at h
   split at h
   ·rename_i z
    have:i=0:=beq_iff_eq.mp z;subst this;decide
   ·lia
  ·exact ih (by lia) i hi
def attach_callW{l:OpenLaw}{n:Nat}{q:qIo}{loose:List Str}{XP:(Str->Option Value)->Heap->Prop}{YP:World->Heap->Prop}{d:DefRec}
  (hn:l.most=some n) (hdf:d.params.defaults=[])
  (call:∀(w:World)(s₀ s₁:qIk)(mg mb:Str->Option Value)(fa:Addr)(o:Obj)(pm cd doc:Value)(a:Addr)(vs:List Value)(ns:List Int),
   Ground q loose [] XP w s₀ mg mb s₁.heap->YP w s₁.heap ->
   s₁.heap.get? fa=some o->o.data=.func (docDef d.name d.params d.body d.scope pm cd doc)->s₁.heap.CodeRec cd d.name->mg d.name=some (.ref fa) ->
   s₁.heap.get? a=some { cls:=.type "list",data:=.seq vs.toArray }->qL6 vs ns->ns.length<=n->(∀i∈ns,i.natAbs.log2<2 ^ 20)->s₁.gens=#[] ->
   qJn (model l.prog w) qLk (.call (.ref fa) ⟨[.ref a],[]⟩) (fun r s'=>r=.ok (.ret (.bool true))/\OldK s₁.heap s'.heap/\s'.os=s₁.os/\qKu s'.gens) s₁) :
  WalkO q loose XP YP l.row.toRowW d [] (fun f vs=>qGk f vs):=by
 intro w s₀ s₁ mg mb G Y fa o pm cd doc dV kV ho hd hcd hD hmg hg args vals as hpre hlay hrd hwl hlo;obtain rfl:dV=.none:=Dflts.none hD hdf;obtain rfl:kV=.none:=Dflts.noKw hD;obtain⟨a,vs,ns,rfl,rfl,hobj,hints,hlen⟩:=zRB hn hpre hwl;have hw:∀i∈ns,i.natAbs.log2<2 ^ 20:=by
  have hl:qMh [WData.list (ns.map qMq)]=true:=hlay;simp only[qMh,qF1,List.all_nil,qF2,WData.layable,qBh,decide_eq_true_eq]at hl;exact zXE (by have:=hl.2;rw[qNg]at this;exact this)
 refine enter_call (codeAny_mono (call w s₀ s₁ mg mb fa o pm cd doc a vs ns G Y ho (fd_plain hd) hcd hmg hobj hints hlen hw hg) fun r s' hq=>?_);obtain⟨rfl,h2,h3,h4⟩:=hq;exact⟨.inl ⟨.bool true,.bool true,[],rfl,fun _=>rfl,.bool true,zRK l _,fun _=>⟨qGj,fun _ hm=>(nomatch hm)⟩⟩,h2,h3,h4⟩
end Att
namespace L2
open PySem PySem.Spec PyProof.Rows
def HasX(P:qIo)(w:World)(K:qA0)(mg:Str->Option Value)(base:Heap)(x:Str)(k:Nat)(ps:List Str)(sp:Sp):Prop:=
 ∃f fd,FnOk P w K mg base (CXe P w) k f fd ps sp/\mg x=some (.ref f)/\qAk K (.ref f)=true/\Binds K fd ps []
section
variable{P:qIo}{w:World}{K:qA0}{mg:Str->Option Value}{base:Heap}{x:Str}{k:Nat}{ps N:List Str}{sp:Sp}{st:Stmt}
def Fun.okX{y qual:Str}{f:Addr}{fd:qJ0}(F:Fun K y qual st f fd)(S:FnScope N ps (zA6 st))(len:∀vs H Q E,sp vs H Q E->vs.length=ps.length)
  (hbody:∀(cdv:Value)(A:qIr)(outer:List Env)(s:qIk)(H:Hp)(vs:List V)(Q:VK)(E:XK),Room k (A.deeper (envOfC qual (zA6 st) s.heap.objs.size f cdv))->sp vs H Q E ->
   ∃t,PSs (cxOf (CXe P w) P w K mg base N qual (zA6 st) f cdv A outer s H E) (zAQ st) t/\t { nx:=fun _ H'=>Q .non H',rt:=Q } (start N vs) H):FnOk P w K mg base (CXe P w) (k+1) f fd ps sp:=by
 obtain⟨oc,od,kV,doc,pm,an,cdv,ct,osl,rfl,lk,hcd⟩:=F.ex;exact zYY lk hcd S len fun A outer s H vs Q E hr hsp=>hbody cdv A outer s H vs Q E hr hsp
def Def.okX(D:Def K mg x st)(S:FnScope N ps (zA6 st))
  (hb:∀(kV doc pm:Value)(an:Option Addr)(cdv ct:Value)(us:List Value),us.length=ps.length->bindArgs (qAx x x (zB9 st) (zAQ st) (zA6 st) .none kV doc pm an cdv ct) ⟨us,[]⟩=pure (ps.zip us))
  (len:∀vs H Q E,sp vs H Q E->vs.length=ps.length)
  (hbody:∀(f:Addr)(cdv:Value)(A:qIr)(outer:List Env)(s:qIk)(H:Hp)(vs:List V)(Q:VK)(E:XK),Room k (A.deeper (envOfC x (zA6 st) s.heap.objs.size f cdv))->sp vs H Q E ->
   ∃t,PSs (cxOf (CXe P w) P w K mg base N x (zA6 st) f cdv A outer s H E) (zAQ st) t/\t { nx:=fun _ H'=>Q .non H',rt:=Q } (start N vs) H):HasX P w K mg base x (k+1) ps sp:=by
 obtain⟨f,fd,F,m⟩:=D;exact⟨f,fd,F.okX S len (fun cdv A outer s H vs Q E hr h=>hbody f cdv A outer s H vs Q E hr h),m,F.kp,F.binds hb⟩
def zBQ{qual:Str}{scope:Scope}{f:Addr}{cd:Value}{A:qIr}{outer:List Env}{s:qIk}{H:Hp}{E:XK}:Flies (cxOf (CXe P w) P w K mg base N qual scope f cd A outer s H E) E:=fun _ _ _ _ h=>zZH (fun _ _ _ z=>z) h
end
section
variable{X:Cx}{x:Str}{j k:Nat}{ps:List Str}{sp:Sp}{e:Expr}{es:List Expr}{t:TA}{p pos:Pos}{E:XK}
def zMB:Flies X E0:=fun _ _ _ _ z0=>by
 obtain⟨_,_,_,_,_,_,_,_,_,_,_,h⟩:=z0;exact h.elim
def zFT(h:HasX X.prog X.w X.K X.mg X.base x j ps sp)(hjk:j<=k)(hr:Room k X.A)(hf:Flies X E)(hg:Gl X x)(ha:PA X (e::es) t)(hdb:(x==("__debug__":Str))=false:=by decide)
  (he:starEach (e::es) X.env=(false,eval e X.env)::starEach es X.env:=by rfl) (hpl:(backTo pos (starEach es X.env)).any (·.1)=false:=by rfl):PE X (.Call (.Name x p) (e::es) [] pos) (zN7 sp [] E t):=by
 obtain⟨f,fd,G,m,kp,b⟩:=h;exact zRU G (hr.mono hjk) hg m kp b .nil hf.passes ha hdb he hpl
end
def MulOk(i j:Int):Prop:=((-(2 ^ 64)<i/\i<2 ^ 64)\/(-(2 ^ 64)<j/\j<2 ^ 64))\/i.natAbs.log2+j.natAbs.log2<=67108864
def zTC(i:Int):qJz i<=i.natAbs.log2+1:=by
 unfold qJz;split<;>lia
def MulOk.ok{i j:Int}(h:MulOk i j):IntMulOk i j:=by
 rcases h with h|h
 ·exact CMul.ok h
 ·unfold IntMulOk;have h1:=zTC i;have h2:=zTC j;have h3:qL9 ((qJz i:Int)+(qJz j:Int))=false:=by
   unfold qL9;have:(bitsLine:Int)=134217728:=by decide
   rw[this];simp only[gt_iff_lt,decide_eq_false_iff_not,Int.not_lt];lia
  rw[h3,qE4];exact qAj
section
variable{X:Cx}
def zaF:R2:=fun x y H Q=>match x,y with
 |.int i,.int j=>MulOk i j/\Q (.int (i*j)) H
 |_,_=>False
def zY7:OpR X (binaryOp .Mult) (rI MulOk fun i j=>.int (i*j)):=opI fun _ _ _ _ _ _ _ hc q=>mul_int q hc.ok
def zFL:OpR X (binaryOp .Mult) zaF:=by
 intro pins s σ H x y v u Q I rx ry h;cases x<;>cases y<;>first
  |exact zY7 pins s σ H _ _ v u Q I rx ry ⟨_,_,rfl,rfl,h.1,h.2⟩
  |exact qA4 h
def zaI:R2:=fun x y H Q=>match x,y with
 |.int i,.int j=>(0<j/\j<1000000000000000000000000)/\Q (.int (i/j)) H
 |_,_=>False
def log2_lt{n:Nat}(h:n<1000000000000000000000000):n.log2<9000:=by
 by_cases z:n=0
 ·subst z;decide
 ·have h2:n<2 ^ 80:=by lia
  have:=(Nat.log2_lt z).mpr h2;lia
def zY8:OpR X (binaryOp .FloorDiv) (rI (fun _ j=>0<j/\j<1000000000000000000000000) fun i j=>.int (i/j)):=opI fun i j _ _ _ _ _ hc q=>by
 have h1:(0:Int)<j:=hc.1;have h2:j<1000000000000000000000000:=hc.2;exact floordiv_int (by lia) (by rw[Int.fdiv_eq_ediv_of_nonneg i (by lia)];exact q) (.inl (PyProof.noPylong_of_log2 (log2_lt (by lia))))
def zFM:OpR X (binaryOp .FloorDiv) zaI:=by
 intro pins s σ H x y v u Q I rx ry h;cases x<;>cases y<;>first
  |exact zY8 pins s σ H _ _ v u Q I rx ry ⟨_,_,rfl,rfl,h.1,h.2⟩
  |exact qA4 h
end
def del(H:Hp)(a:Addr):Hp:=fun b=>if b=a then none else H b
def zG3{H:Hp}{a:Addr}:del H a a=none:=by unfold del;rw[if_pos rfl]
def zC4{H:Hp}{a b:Addr}(h:b≠a):del H a b=H b:=by unfold del;rw[if_neg h]
def zPD{H:Hp}{a b:Addr}{o:HO}(h:del H a b=some o):b≠a/\H b=some o:=by
 by_cases z:b=a
 ·subst z;rw[zG3]at h;cases h
 ·rw[zC4 z]at h;exact⟨z,h⟩
def zE8{H:Hp}{a b:Addr}(h:H b=none):del H a b=none:=by
 by_cases z:b=a
 ·subst z;exact zG3
 ·rw[zC4 z];exact h
abbrev cel(co:Obj):HO:=.frz co (.ext fun _=>True)
def cel_ok{P:qIo}{w:World}{H:Hp}{h:Heap}{a:Addr}{co:Obj}(e:h.get? a=some co):ObjOk P w H h a (cel co):=⟨e,trivial,⟨co,e⟩,fun _ _ _ _=>trivial⟩
section
variable{P:qIo}{w:World}{H H':Hp}{h h':Heap}{a:Addr}{co:Obj}{fs:List Addr}
def HOk.known(x:HOk P w H h)(hn:H a=none)(hg:h.get? a=some co):HOk P w (upd H a (cel co)) h:=fun b u e=>by
 by_cases hb:b=a
 ·subst hb;rw[zA8]at e;cases e;exact cel_ok hg
 ·rw[zA5 hb]at e;exact(x b u e).stay (fun _ _ _ q=>q) (fun c q=>by rw[zA5 (zAI q hn)];exact q) (fun c xs q=>by rw[zA5 (zAI q hn)];exact q) fun c _ _ q _=>by rw[zA5 (zAI q hn)];exact q
def HOk.untrack(x:HOk P w H h)(hc:H a=some (cel co))(hd:∃v,co.data=.cell v):HOk P w (del H a) h:=fun b u e=>by
 obtain⟨hb,e⟩:=zPD e;refine(x b u e).stay (fun _ _ _ q=>q) (fun c q=>?_) (fun c xs q=>?_) fun c o v q hf=>?_
 ·rw[zC4 (zLV q hc (by simp))];exact q
 ·rw[zC4 (zLV q hc (by simp))];exact q
 ·refine(zC4 ?_).trans q
  rintro rfl
  rw[q]at hc;cases hc;obtain⟨vs,hf⟩:=hf;obtain⟨v,hd⟩:=hd;rw[hf]at hd;cases hd
def Un.untrack(u:Un fs [] (upd H a (cel co)) H' h h')(hn:H a=none)(hg:h.get? a=some co)(hok:HOk P w H' h'):Un fs [] H (del H' a) h h':=by
 have fa:H' a=some (cel co):=u.frzs a co _ zA8;have ga:h'.get? a=some co:=(hok a _ fa).1;have ne:∀{b:Addr}{o:HO},H b=some o->b≠a:=fun e=>zAI e hn
 refine⟨fun b o q n hb hx=>?_,fun b o q n hb hx=>?_,fun b o q n hx=>?_,fun b o q hx=>u.there b o q hx,fun b xs q=>?_,fun b o v q=>?_,fun b ps q=>?_⟩
 ·by_cases z:b=a
  ·subst z;rw[hg]at q;cases q;exact ga
  ·exact u.keep b o q (by rw[zA5 z];exact n) hb hx
 ·by_cases z:b=a
  ·subst z;rw[hg]at q;cases q;exact⟨co.slots,ga⟩
  ·exact u.slot b o q (by rw[zA5 z];exact n) hb hx
 ·by_cases z:b=a
  ·subst z;exact zG3
  ·rw[zC4 z];exact u.free b o q (by rw[zA5 z];exact n) hx
 ·rw[zC4 (ne q)];exact u.tups b xs (by rw[zA5 (ne q)];exact q)
 ·rw[zC4 (ne q)];exact u.frzs b o v (by rw[zA5 (ne q)];exact q)
 ·rw[zC4 (ne q)];exact u.tbls b ps (by rw[zA5 (ne q)];exact q)
def Un.retrack(u:Un fs [] (del H a) H' h h')(hc:H a=some (cel co)):Un fs [] H (upd H' a (cel co)) h h':=by
 have ne:∀{b:Addr},H b=none->b≠a:=fun e z=>by subst z;rw[hc]at e;cases e
 refine⟨fun b o q n hb hx=>u.keep b o q (zE8 n) hb hx,fun b o q n hb hx=>u.slot b o q (zE8 n) hb hx,fun b o q n hx=>?_,fun b o q hx=>u.there b o q hx,fun b xs q=>?_,fun b o v q=>?_,fun b ps q=>?_⟩
 ·rw[zA5 (ne n)];exact u.free b o q (zE8 n) hx
 ·have z:b≠a:=zLV q hc (by simp);rw[zA5 z];exact u.tups b xs (by rw[zC4 z];exact q)
 ·by_cases z:b=a
  ·subst z;rw[zA8,<- hc,q]
  ·rw[zA5 z];exact u.frzs b o v (by rw[zC4 z];exact q)
 ·have z:b≠a:=zLV q hc (by simp);rw[zA5 z];exact u.tbls b ps (by rw[zC4 z];exact q)
end
abbrev lamO(q:Str)(params:Arguments)(body:Expr)(scope:Scope)(clos:List (Str×Addr))(pm cdv ctv:Value):Obj:=
 { cls:=.type "function",data:=.func (qDk "<lambda>" q params body scope clos pm cdv ctv) }
def zTH{pos:Pos}{x y:Int}{c cv:Value}(l:List Value)(h:TriplesOk l)(e:qKp pos (l++[rawInt x,rawInt y,c])=some cv):qKp pos l=some cv\/cv=c:=by
 fun_induction TriplesOk l with
 |case1=>
  simp only[qDs,qKp,rawInt]at e;split at e
  ·cases e;exact .inr rfl
  ·cases e
 |case2 a t b u z rest ih=>
  simp only[qB8,qKp]at e ⊢;split at e
  ·cases e;rename_i hc;rw[if_pos hc];exact .inl rfl
  ·rename_i hc;rw[if_neg hc];exact ih h e
 |case3 l h1 h2=>exact h.elim
def tLam(P:Addr)(q:Str)(params:Arguments)(body:Expr)(scope:Scope)(clos:List (Str×Addr)):TE:=fun _ H Q=>
 H P=some (.lam q)/\∀f pm cdv ctv H1,H f=none->Same H H1->H1 f=some (.fn (lamO q params body scope clos pm cdv ctv) q)->Q (.ref f) H1
section
variable{X:Cx}
def zaT{params:Arguments}{body:Expr}{scope:Scope}{pos:Pos}{c P:Addr}{q:Str}{clos:List (Str×Addr)}(hdef:defaultsOf params X.env=([],[]))(hcode:X.env.code=.ref c)(C:PySem.W.CodeHd X.base c P)
  (hq:X.env.qual ++ "<lambda>" = q) (hcl:qM1 scope X.env=pure clos):PE X (.Lambda params body scope pos) (tLam P q params body scope clos):=by
 intro pins s σ H Q I ⟨hP,hQ⟩;refine PySem.W.kla_eval hdef ?_;rw[hq];obtain⟨ps,eP,tO,hrec⟩:=I.hok P _ hP;have C':=C.keeps I.bk;have hg:s.heap.Ns qIn X.mg:=let⟨o,es,ep,e,r⟩:=I.ok.mod.glob;⟨o,es,ep,I.bk _ _ e,r⟩;have hgP:qIn≠P:=fun z=>by
  obtain⟨o,es,ep,e,r⟩:=I.ok.mod.glob;have:=(I.bs _ _ e).2;rw[z,hP]at this;cases this
 have hB:s.heap.BuiltinsAt X.mg P:=by
  obtain⟨bm,ob,e1,e2,e3,e4,e5,e6⟩:=I.ok.mod.bm;refine⟨bm,ob,e1,e2,fun z=>?_,fun z=>?_,I.bk _ _ e3,e4,e5,e6⟩
  ·obtain⟨o,es,ep,e,hd,_⟩:=I.ok.mod.glob;rw[z,e]at e3;cases e3;rw[hd]at e6;cases e6
  ·have:=(I.bs _ _ e3).2
   rw[z,hP]at this;cases this
 cases hit:qKp pos ps.toList with
 |some cv=>
  obtain⟨c2,oc,u,rfl,hc2,hcr⟩:=hrec pos cv hit;refine PySem.W.kla_makeFunctionHit hcl I.ok.glob hg hcode C' eP tO hit hB fun ctv h' tk hk hsz=>?_
  have hf:H h'.objs.size=none:=I.hok.fresh hsz;refine⟨.ref h'.objs.size,upd H h'.objs.size (.fn (lamO q params body scope clos ((X.mg "__name__").getD .none) (.ref c2) ctv) q),I.laid (t':=tk) (fun b u e=>qIj _ (hk b u e)) hsz ?_,rfl,hQ h'.objs.size _ _ ctv _ hf (fun b o e=>(zA5 (zAI e hf)).trans e) zA8⟩;exact⟨qIm _ rfl,_,c2,oc,u,rfl,rfl,by rw[zA5 (zAI hc2 hf)];exact hc2,hcr⟩
 |none=>
  refine PySem.W.kla_makeFunction hcl I.ok.glob hg hcode C' eP tO hit hgP hB fun c' ctv h' tk hx hge hlt hrec' htb=>?_
  obtain⟨c2,oc,vs,t,e2,hoc,hd,hv⟩:=hrec';cases e2;have hcr:CodR oc q:=⟨vs,t,hd,hv⟩;have lt:∀{b:Addr}{o:HO},H b=some o->b<s.heap.objs.size:=fun e=>I.hok.lt e
  have n1:∀{b:Addr},b<s.heap.objs.size->b≠c':=fun z=>qAl (qAi z hge)
  have n2:∀{b:Addr},b<s.heap.objs.size->b≠h'.objs.size:=fun z=>qAl (Nat.lt_trans (qAi z hge) hlt)
  generalize hH1:upd (upd H c' (cel oc)) h'.objs.size (.fn (lamO q params body scope clos ((X.mg "__name__").getD .none) (.ref c') ctv) q)=H1;have sm:Same H H1:=fun b o e=>by rw[<- hH1,zA5 (n2 (lt e)),zA5 (n1 (lt e))];exact e
  have ac:H1 c'=some (cel oc):=by rw[<- hH1,zA5 (qAl hlt),zA8]
  have af:H1 h'.objs.size=some (.fn (lamO q params body scope clos ((X.mg "__name__").getD .none) (.ref c') ctv) q):=by rw[<- hH1,zA8]
  have kp:∀b o,b≠P->s.heap.get? b=some o->(h'.push (PySem.W.kla_obj "<lambda>" q params body scope clos ((X.mg "__name__").getD .none) c' ctv)).get? b=some o:=fun b o z e=>qIj _ (hx b o z e)
  have nP:∀{b:Addr},H b=none->b≠P:=fun e z=>by rw[z,hP]at e;cases e
  refine⟨.ref h'.objs.size,H1,I.un (t':=tk) ⟨fun b o e n _ _=>kp b o (nP n) e,fun b o e n _ _=>⟨o.slots,kp b o (nP n) e⟩,fun b o e n _=>?_,fun b o e _=>?_,fun b xs e=>sm _ _ e,fun b o u e=>sm _ _ e,fun b ts e=>⟨#[],by rw[sm _ _ e];simp⟩⟩ (fun b u e=>?_),rfl,hQ _ _ _ ctv H1 (I.hok.fresh (qAt hge (qC8 hlt))) sm af⟩
  ·rw[<- hH1,zA5 (n2 (qIl e)),zA5 (n1 (qIl e))];exact n
  ·by_cases z:b=P
   ·subst z;exact⟨_,qIj _ htb⟩
   ·exact⟨o,kp b o z e⟩
  ·by_cases zf:b=h'.objs.size
   ·subst zf;rw[af]at e;cases e;exact⟨qIm _ rfl,_,c',oc,_,rfl,rfl,ac,hcr⟩
   ·by_cases zc:b=c'
    ·subst zc;rw[ac]at e;cases e;exact cel_ok (qIj _ hoc)
    ·have e':H b=some u:=by rw[<- hH1,zA5 zf,zA5 zc]at e;exact e
     by_cases zP:b=P
     ·subst zP;rw[hP]at e';cases e';refine⟨_,qIj _ htb,?_,fun pos' cv hcv=>?_⟩
      ·rw[qG1];exact TriplesOk_snoc _ _ _ _ tO
      ·rw[qG1]at hcv
       rcases zTH _ tO hcv with z|z
       ·obtain⟨c3,oc3,u3,z1,z2,z3⟩:=hrec pos' cv z;exact⟨c3,oc3,u3,z1,sm _ _ z2,z3⟩
       ·exact⟨c',oc,_,z,ac,hcr⟩
     ·refine(I.hok b u e').stay (fun c v hc r=>kp c v ?_ r) (fun c r=>sm _ _ r) (fun c xs r=>sm _ _ r) fun c o v r _=>sm _ _ r
      rcases hc with rfl|hc
      ·exact zP
      ·rintro rfl;rw[hP]at hc;cases hc
end
def zOI(sp:Sp)(cl:Addr)(i:Nat)(t:TA):TE:=fun σ H Q=>t σ H fun vs H1=>∃v,σ[i]?=some (some v) /\
 ∀co val,H1 cl=none->co.data=.cell (some val)->RelV v val->sp vs (upd H1 cl (cel co)) (fun w H2=>Q w (del H2 cl)) E0
section
variable{X:Cx}{k:Nat}{f cl:Addr}{fd:qJ0}{ps:List Str}{sp:Sp}{x nm:Str}{p pos:Pos}{e:Expr}{es:List Expr}{t:TA}{i:Nat}
def Inv.nocell{pins:List (Addr×Obj)}{σ:St}{H:Hp}{s:qIk}(I:Inv X pins σ H s)(hfn:X.fn nm=true)(hc:X.env.cells.lookup nm=some cl):∀b∈frs X.stack,b≠cl:=fun b hb z=>by
 subst z;rcases qAb.mp (I.stkSub b hb)with z|z
 ·exact I.cne nm b hc z
 ·obtain⟨_,o,ho,_⟩:=I.ok.funs.mem z;exact absurd (qAi (qIl ho) (I.ok.cab nm b hfn hc)) (qBy _)
def zUD(F:FnOk X.prog X.w X.K X.mg X.base CX0 k f fd ps sp)(hr:Room k X.A)(hg:Gl X x)(hm:X.mg x=some (.ref f))(hk:qAk X.K (.ref f)=true)(hb:Binds X.K fd ps [])
  (ha:PA X (e::es) t) (hN:X.N[i]?=some nm) (hv:X.env.scope.names.lookup nm=some .cell) (hfn:X.fn nm=true) (hc:X.env.cells.lookup nm=some cl)
  (hdb:(x==("__debug__":Str))=false:=by decide) (he:starEach (e::es) X.env=(false,eval e X.env)::starEach es X.env:=by rfl) (hpl:(backTo pos (starEach es X.env)).any (·.1)=false:=by rfl) :
  PE X (.Call (.Name x p) (e::es) [] pos) (zOI sp cl i t):=by
 intro pins s σ H Q I h;refine qJ5 (zFD I hg hm ?_ hdb);refine qCs (h₀:=X.base) I.ok.mod.kin hk (thn (ha pos pins s σ H _ I h) fun us s1 ⟨vs,H1,I1,r,v,hσ,hs⟩=>⟨I1.kIn,?_⟩) he hpl;obtain⟨m,hn,hl⟩:=id I1.loc;obtain⟨u,ru,look⟩:=hl i nm v hN hσ (.inr (.inl hv));have hcell:s1.heap.IsCell cl (some u):=by
  rcases look with⟨z,_⟩|⟨_,c,hc2,z⟩
  ·have z':X.env.scope.names.lookup nm=some .local:=z;rw[hv]at z';cases z'
  ·rw[hc]at hc2;cases hc2;exact z
 obtain⟨co,hco,hd⟩:=hcell;have hn1:=I1.freeC nm cl hc;have sp1:=hs co u hn1 hd ru;have lt:∀b o,X.base.get? b=some o->b≠cl:=fun b o z q=>by
  subst q;exact absurd (qAi (qIl z) (qAt I1.ok.bsz (I1.ok.cab nm b hfn hc))) (qBy _)
 have e0:Env0 X.prog X.w X.K X.mg X.base X.A X.stack s1 (upd H1 cl (cel co)):=⟨I1.ok.frames,I1.ok.mod,fun b o z=>⟨(I1.bs b o z).1,by rw[zA5 (lt b o z)];exact(I1.bs b o z).2⟩,qAt I1.ok.bsz I1.sz,I1.stack,fun b z=>by rw[zA5 (I1.nocell hfn hc b z)];exact I1.stkFree b z,I1.hok.known hn1 hco,I1.bare⟩
 have hl2:(us++([]:List Value)).length=ps.length:=by rw[qBv,<- r.length];exact F.len _ _ _ _ sp1
 have hb1:=hb s1 us I1.kIn hl2;rw[qBv]at hb1;refine wpAny_call (codeAny_mono (F.run X.A X.stack s1 _ ⟨us,[]⟩ us vs _ E0 hr e0 hb1 r sp1) fun r s' hq=>?_);cases r with
 |error e=>exact hq.elim
 |ok fl=>
  cases fl with
  |ret u=>
   obtain⟨w,H2,os,bare,un,hok,rw',q⟩:=hq;have fa:H2 cl=some (cel co):=un.frzs cl co _ zA8;exact I1.after ⟨w,del H2 cl,os,bare,Un.untrack un hn1 hco hok,HOk.untrack hok fa ⟨_,hd⟩,rw',q⟩
  |next=>exact qA4 hq
  |brk=>exact qA4 hq
  |cont=>exact qA4 hq
end
structure LamScope(ps:List Str)(nm:Str)(sc:Scope):Prop where
 kind:sc.kind=.function
 co:sc.isCoroutine=false
 gen:sc.isGenerator=false
 nd:(ps++[nm]).Nodup
 par:∀x∈ps,sc.names.lookup x=some .local
 held:sc.names.lookup nm=some .free
 nocell:∀y∈sc.names,y.2≠.cell
 only:∀x,sc.names.lookup x=some .free->x=nm
def zVJ(X:Cx)(N:List Str)(q:Str)(scope:Scope)(f:Addr)(cd:Value)(clos:List (Str×Addr))(s:qIk)(H:Hp):Cx where
 prog:=X.prog
 w:=X.w
 K:=X.K
 mg:=X.mg
 base:=X.base
 A:=X.A.deeper (qEp q scope s.heap.objs.size f cd clos)
 N:=N
 s₀:=s
 H₀:=H
 env:=qEp q scope s.heap.objs.size f cd clos
 outer:=X.stack
 stack:=qEp q scope s.heap.objs.size f cd clos::X.stack
 ex:=[]
 fn:=fun _=>false
 calm:=true
 pn:=[]
 xe:=fun _ _=>False
def zQL:∀{ps:List Str}{us:List Value}{i:Nat}{x:Str}{u:Value},ps.Nodup->ps[i]?=some x->us[i]?=some u->(ps.zip us).reverse.lookup x=some u
 |[],_,_,_,_,_,h,_=>by simp at h
 |_::_,[],_,_,_,_,_,h=>by simp at h
 |p::ps,w::us,0,x,u,nd,h1,h2=>by
  simp at h1 h2;subst h1;subst h2;rw[qGa,qGl,qGb];have:(ps.zip us).reverse.lookup p=none:=by
   rw[qF3];intro q hq;have:=(qD7 (a:=q.1) (b:=q.2) (by simpa using hq)).1
   have hne:p≠q.1:=fun z=>(qCo.mp nd).1 (z▸this)
   simpa using hne
  rw[this];simp
 |p::ps,w::us,i+1,x,u,nd,h1,h2=>by
  rw[qGa,qGl,qGb,zQL (i:=i) (qCo.mp nd).2 (by simpa using h1) (by simpa using h2)];rfl
section
variable{X:Cx}{pins:List (Addr×Obj)}{σ:St}{H:Hp}{s:qIk}{Q:VK}{us:List Value}{vs:List V}{f cl:Addr}{q nm:Str}{params:Arguments}{body:Expr}{scope:Scope}{pm cdv ctv:Value}{co:Obj}{val:Value}{v:V}{ps:List Str}
def zXV{k:Nat}(hr:Room k X.A)(I:Inv X pins σ H s)(hf:H f=some (.fn (lamO q params body scope [(nm,cl)] pm cdv ctv) q))(hcl:H cl=some (cel co))(hco:co.data=.cell (some val))(rv:RelV v val)(r:Vals vs us)
  (S:LamScope ps nm scope) (hbind:∀us:List Value,us.length=ps.length->bindArgs (qDk "<lambda>" q params body scope [(nm,cl)] pm cdv ctv) ⟨us,[]⟩=pure (ps.zip us)) (hl:vs.length=ps.length)
  (hbody:∃t,PE (zVJ X (ps++[nm]) q scope f cdv [(nm,cl)] s (del H cl)) body t/\t (vs.map some++[some v]) (del H cl) (fun w H2=>Q w (upd H2 cl (cel co)))) :
  wpAny (model X.prog X.w) X.A (call (.ref f) us) (EP X pins σ Q) X.xe s:=by
 obtain⟨ef,fd,c,oc,u,e1,e2,e3,e4⟩:=I.hok f _ hf;obtain⟨gcl,_⟩:=I.hok cl _ hcl;have e1':fd=qDk "<lambda>" q params body scope [(nm,cl)] pm cdv ctv:=by
  have e1:Data.func (qDk "<lambda>" q params body scope [(nm,cl)] pm cdv ctv)=Data.func fd:=e1;injection e1 with e1
  exact e1.symm
 subst e1';have hrec:s.heap.CodeRec cdv q:=let⟨ws,t,h1,h2⟩:=e4;⟨c,oc,ws,t,e2,(I.hok c _ e3).1,h1,h2⟩;have hul:us.length=ps.length:=by rw[<- r.length];exact hl
 obtain⟨t,ht,hq⟩:=hbody;refine wpAny_call (codeAny_mono (R:=fun r s'=>match r with | .ok (.ret u)=>EP X pins σ Q u s' | .ok _=>False | .error _=>False) (PySem.W.kla_callFunE (by have:=hr.dp;lia) ef rfl S.co S.gen rfl hrec ?_) fun r s' hq=>?_)
 ·show wpAny _ _ (bindArgs (qDk "<lambda>" q params body scope [(nm,cl)] pm cdv ctv) ⟨us,[]⟩) _ _ s;rw[hbind us hul];have hloc:∀y∈ps.zip us,scope.names.lookup y.1=some .local:=fun y hy=>S.par _ (qD7 (a:=y.1) (b:=y.2) hy).1
  refine wpAny_pure (wpAny_newFunctionEnv S.nocell hloc (fun h₁ hns hsb=>⟨(I.nolimit).fresh _ hsb,?_⟩) S.kind);show qJn _ _ (.expr body (qEp q scope s.heap.objs.size f cdv [(nm,cl)])) _ _;have hk₁:∀b o,s.heap.get? b=some o->h₁.get? b=some o:=fun b o e=>hsb.extBut b o (qAl (qIl e)) (qIj _ e)
  have cells:∀{y:Str}{c:Addr},([(nm,cl)]:List (Str×Addr)).lookup y=some c->y=nm/\c=cl:=fun{y c} e=>by
   simp only[qB7]at e;split at e
   ·rename_i z;cases e;exact⟨by simpa using z,rfl⟩
   ·cases e
  have noA:∀b:Addr,b∉(zVJ X (ps++[nm]) q scope f cdv [(nm,cl)] s (del H cl)).ex:=fun b z=>absurd (show b∈([]:List Addr) from z) (by simp)
  have J:Inv (zVJ X (ps++[nm]) q scope f cdv [(nm,cl)] s (del H cl)) [] (vs.map some++[some v]) (del H cl) { s with heap:=h₁,toks:=s.toks+(ps.zip us).length }:=by
   refine⟨⟨I.ok.mod,S.kind,rfl,rfl,qA5 _,fun y z c h1 h2=>?_,fun y hy=>?_,fun y c z _=>(by cases z),fun _=>hr.hd,qLc I.ok.frames,.inr ⟨rfl,rfl⟩,fun b z=>absurd z (noA b),fun b o z=>⟨(I.bs b o z).1,zE8 (I.bs b o z).2⟩,qAt I.ok.bsz I.sz,fun b _ _=>noA b,fun b z=>absurd z (noA b),I.stack,fun b z=>zE8 (I.stkFree b z)⟩,
    rfl,I.bare,Un.kept hk₁,⟨_,hns,fun i y w' h1 h2 h3=>?_⟩,fun y c h=>?_,zE8 (I.hok.fresh (qA5 _)),fun y c h=>?_,fun p hp=>absurd (show p∈([]:List (Addr×Obj)) from hp) (by simp),(I.hok.untrack hcl ⟨_,hco⟩).kept hk₁,?_⟩
   ·rw[(cells h1).1,(cells h2).1]
   ·have hy:scope.names.lookup y=some .cell\/scope.names.lookup y=some .free:=hy
    rcases hy with hy|hy
    ·exact absurd rfl (S.nocell _ (qC6 hy))
    ·rw[S.only y hy];exact⟨cl,by show([(nm,cl)]:List (Str×Addr)).lookup nm=_;simp⟩
   ·have h1:(ps++[nm])[i]?=some y:=h1
    by_cases hi:i<ps.length
    ·rw[qAf hi]at h1;rw[qAf (by simpa[hl]using hi),qAd]at h2;cases ew:vs[i]? with
     |none=>rw[ew]at h2;cases h2
     |some a=>
      rw[ew]at h2;cases h2;obtain⟨u',hu',ru'⟩:=r.get ew;exact⟨u',ru',.inl ⟨S.par y (qBo h1),zQL (qE1.mp S.nd).1 h1 hu'⟩⟩
    ·rw[qAc (by omega)]at h1;rw[qAc (by simpa[hl]using hi)]at h2;have hi2:i-ps.length=0:=by
      cases z:i-ps.length with
      |zero=>rfl
      |succ n=>rw[z]at h1;simp at h1
     rw[hi2]at h1;rw[qAg,hl,hi2]at h2;cases h1;cases h2;exact⟨val,rv,.inr ⟨.inr S.held,cl,by show([(nm,cl)]:List (Str×Addr)).lookup nm=_;simp,co,hk₁ _ _ gcl,hco⟩⟩
   ·obtain⟨_,rfl⟩:=cells h;exact⟨some val,co,hk₁ _ _ gcl,hco⟩
   ·obtain⟨_,rfl⟩:=cells h;exact zG3
   ·show(vs.map some++[some v]).length=(ps++[nm]).length
    simp[hl]
  refine PySem.W.kla_codeExpr (wpAny_mono (ht [] _ _ _ _ J hq) (fun u s' z=>?_) fun _ _ z=>z.elim);obtain⟨w2,H2,J2,ru,q2⟩:=z;have ga:s'.heap.get? cl=some co:=J2.base.keep cl co gcl zG3 (fun z=>by have:=I.stkFree cl z;rw[hcl]at this;cases this) (by intro z;exact absurd (show cl∈([]:List Addr) from z) (by simp));exact I.after ⟨w2,upd H2 cl (cel co),J2.os,J2.bare,Un.retrack J2.base hcl,J2.hok.known (J2.freeC nm cl (by show([(nm,cl)]:List (Str×Addr)).lookup nm=_;simp)) ga,ru,q2⟩
 ·cases r with
  |error e=>exact hq.elim
  |ok fl=>
   cases fl with
   |ret u=>exact hq
   |next=>exact qA4 hq
   |brk=>exact qA4 hq
   |cont=>exact qA4 hq
end
def zR2(i:Nat)(r:Addr->List V->Hp->VK->Prop)(t:TA):TE:=fun σ H Q=>∃f o q,σ[i]?=some (some (.ref f))/\H f=some (.fn o q)/\t σ H fun vs H1=>H1 f=some (.fn o q)/\r f vs H1 Q
def LamR(X:Cx)(r:Addr->List V->Hp->VK->Prop):Prop:=∀(pins:List (Addr×Obj))(s:qIk)(σ:St)(H:Hp)(f:Addr)(vs:List V)(us:List Value)(Q:VK),Inv X pins σ H s->Vals vs us->r f vs H Q ->
 wpAny (model X.prog X.w) X.A (call (.ref f) us) (EP X pins σ Q) X.xe s
section
variable{X:Cx}{i:Nat}{x:Str}{p pos:Pos}{e:Expr}{es:List Expr}{t:TA}{r:Addr->List V->Hp->VK->Prop}
def fnAt{P:qIo}{w:World}{H:Hp}{h:Heap}{f:Addr}{o:Obj}{q:Str}(k:HOk P w H h)(e:H f=some (.fn o q)):PySem.W.FnAt f h:=by
 obtain⟨ef,fd,c,oc,u,e1,_⟩:=k f _ e;obtain⟨oc,od,dt,sl⟩:=o;cases e1;exact⟨oc,od,fd,sl,ef⟩
def zUC(hL:LamR X r)(hN:X.N[i]?=some x)(hv:Vis X.env.scope x)(ha:PA X (e::es) t)
  (hd:(x==("__debug__":Str))=false:=by decide) (hcd:(x==("__classdict__":Str))=false:=by decide)
  (he:starEach (e::es) X.env=(false,eval e X.env)::starEach es X.env:=by rfl) (hpl:(backTo pos (starEach es X.env)).any (·.1)=false:=by rfl) :
  PE X (.Call (.Name x p) (e::es) [] pos) (zR2 i r t):=by
 intro pins s σ H Q I h;obtain⟨f,o,q,hσ,hf,ht⟩:=h;refine qJ5 (thn (zRO (i:=i) hN hv hd hcd pins s σ H (fun v H'=>v=.ref f/\H'=H) I ⟨_,hσ,rfl,rfl⟩) fun u s1 z=>?_);obtain⟨v,H1,I1,rv,rfl,rfl⟩:=z;cases rv;refine PySem.W.callWith_F (fnAt I1.hok hf) (thn (ha pos pins s1 σ _ _ I1 ht) fun us s2 ⟨vs,H2,I2,r2,hf2,hr⟩=>⟨fnAt I2.hok hf2,?_⟩) he hpl;exact hL pins s2 σ H2 f vs us Q I2 r2 hr
end
end L2
namespace L3
open PySem PySem.Spec
open L2 hiding Rep RepL
open Mi (Dt Xn R okR zA3 optR zA0 zAD zAH zAE zAG Rh Sl Ro EM TM AM FM IM SM Tg Out zAU zAR zB7 full frz frz1 frzAt)
section
class Kc where
 K:qA0
variable[Kc]
def clK(K:qA0)(c:Str):Option Addr:=match qAu K qIn c with
 |some (some (.ref C))=>some C
 |_=>none
def KTP(K:qA0)(a:Addr)(xs:List V):Prop:=xs≠[]/\∃(o:Obj)(its:Array Value)(n:Nat),K.lookup a=some o/\o.cls=.type "tuple"/\o.data=.seq its n/\its.size<=sizeLine/\Vals xs its.toList
def KTP.t{K:qA0}{H:Hp}{a:Addr}{xs:List V}(h:KTP K a xs):SqT K H a xs:=.inr h.2
def SqR(K:qA0)(H:Hp)(a:Addr)(xs:List V):Prop:=SqL K H a xs\/KTP K a xs
def SqR.old{K:qA0}{H:Hp}{a:Addr}{xs:List V}(h:SqR K H a xs):SqL K H a xs\/SqT K H a xs:=h.imp_right fun z=>z.t
def zLB{K:qA0}{H H':Hp}{a:Addr}{xs:List V}(e:Same H H')(h:SqT K H a xs):SqT K H' a xs:=by
 rcases h with(h|⟨o,h⟩)|h
 ·exact .inl (.inl (e _ _ h))
 ·exact .inl (.inr ⟨o,e _ _ h⟩)
 ·exact .inr h
def zFO{K:qA0}{H H':Hp}{a:Addr}{xs:List V}(e:Same H H')(h:SqR K H a xs):SqR K H' a xs:=h.imp_left fun z=>e.seq z
def svV:Mi.Sv->V
 |.i n=>.int n
 |.s x=>.str x
def swV:Mi.Sw->V
 |.non=>.non
 |.bl b=>.bl b
 |.int i=>.int i
 |.str x=>.str x
def zZ2:Expr->Option (Arguments×Expr×Scope×Str)
 |.Call _ [_,.Lambda ps b sc _] _ _=>match sc.names.find? fun p=>p.2==.free with
  |some (x,_)=>some (ps,b,sc,x)
  |none=>none
 |_=>none
def zcX:Stmt->Option (Arguments×Expr×Scope×Str)
 |.Return (some e) _=>zZ2 e
 |.Assign _ e _=>zZ2 e
 |.If _ (_::.Return (some e) _::_) _ _=>zZ2 e
 |_=>none
def zQA(l:List Stmt):Option (Arguments×Expr×Scope×Str):=l.findSome? zcX
def lamK(K:qA0)(x:Str):Option (Arguments×Expr×Scope×Str):=match qAu K qIn x with
 |some (some (.ref f))=>match K.lookup f with
  |some o=>match o.data with
   |.func fd=>match fd.body with
    |.stmts b=>zQA b
    |_=>none
   |_=>none
  |none=>none
 |_=>none
def lamQ(x:Str):Str:=x ++ ".<locals>." ++ "<lambda>"
def codP(K:qA0)(x:Str):Option Addr:=match qAu K qIn x with
 |some (some (.ref f))=>match K.lookup f with
  |some o=>match o.data with
   |.func fd=>match fd.code with
    |.ref c=>match K.lookup c with
     |some o=>match o.data with
      |.fields vs=>match(vs[11]?:Option Value)with
       |some (.ref P)=>some P
       |_=>none
      |_=>none
     |none=>none
    |_=>none
   |_=>none
  |none=>none
 |_=>none
def makers:List Str:=["turned_at","exchanged_at","pivoted"]
def tabK(K:qA0):Hp:=fun P=>(makers.find? fun x=>codP K x==some P&&(lamK K x).isSome).map fun x=>.lam (lamQ x)
mutual
def Rep(H:Hp):Dt->V->Prop
 |.non,v=>v=.non
 |.bl b,v=>v=.bl b
 |.int i,v=>v=.int i
 |.str x,v=>v=.str x
 |.lst ds,v=>∃a xs,v=.ref a/\H a=some (.lst xs)/\RepL H ds xs
 |.tup ds,v=>∃a xs,v=.ref a/\H a=some (.tup xs)/\RepL H ds xs
 |.scr ns,v=>∃a,v=.ref a/\SqR Kc.K H a (ns.map V.int)
 |.exc c f d,v=>∃e C da,v=.ref e/\isX H e C da/\clK Kc.K c=some C/\((da=none/\f = "")\/∃a gs w,da=some a/\H a=some (.xd gs)/\gs.lookup f=some w/\Rep H d w)
 |.ins c fs,v=>∃a C dx,v=.ref a/\clK Kc.K c=some C/\H a=some (.ins C dx (fs.map fun p=>(p.1,svV p.2)))
 |.dct kvs,v=>∃a,v=.ref a/\H a=some (.dK (kvs.map fun p=>(p.1,swV p.2)))
 |.fn x d,v=>∃f,v=.ref f/\∃L cl pm cdv ctv co val w,lamK Kc.K x=some L/\H f=some (.fn (lamO (lamQ x) L.1 L.2.1 L.2.2.1 [(L.2.2.2,cl)] pm cdv ctv) (lamQ x))/\H cl=some (cel co)/\co.data=.cell (some val)/\RelV w val/\Rep H d w
def RepL(H:Hp):List Dt->List V->Prop
 |[],xs=>xs=[]
 |d::r,xs=>∃x q,xs=x::q/\Rep H d x/\RepL H r q
end
mutual
def Rep.mono{H H':Hp}(s:Same H H'):∀{d:Dt}{v:V},Rep H d v->Rep H' d v
 |.non,_,h=>h
 |.bl _,_,h=>h
 |.int _,_,h=>h
 |.str _,_,h=>h
 |.lst _,_,h=>by obtain⟨a,xs,e,e',r⟩:=h;exact⟨a,xs,e,s _ _ e',RepL.mono s r⟩
 |.tup _,_,h=>by obtain⟨a,xs,e,e',r⟩:=h;exact⟨a,xs,e,s _ _ e',RepL.mono s r⟩
 |.scr _,_,h=>by obtain⟨a,e,e'⟩:=h;exact⟨a,e,zFO s e'⟩
 |.exc _ _ _,_,h=>by
  obtain⟨a,C,da,e,e',hc,r⟩:=h;refine⟨a,C,da,e,e'.imp (fun z=>s _ _ z) fun z=>s _ _ z,hc,r.imp (fun z=>z) ?_⟩
  rintro⟨b,gs,w,h1,h2,h3,h4⟩
  exact⟨b,gs,w,h1,s _ _ h2,h3,Rep.mono s h4⟩
 |.ins _ _,_,h=>by obtain⟨a,C,dx,e,hc,h1⟩:=h;exact⟨a,C,dx,e,hc,s _ _ h1⟩
 |.dct _,_,h=>by obtain⟨a,e,h1⟩:=h;exact⟨a,e,s _ _ h1⟩
 |.fn _ _,_,h=>by obtain⟨f,e,L,cl,pm,cdv,ctv,co,val,w,h1,h2,h3,h4,h5,h6⟩:=h;exact⟨f,e,L,cl,pm,cdv,ctv,co,val,w,h1,s _ _ h2,s _ _ h3,h4,h5,Rep.mono s h6⟩
def RepL.mono{H H':Hp}(s:Same H H'):∀{ds:List Dt}{xs:List V},RepL H ds xs->RepL H' ds xs
 |[],_,h=>h
 |_::_,_,h=>by obtain⟨x,q,e,r,t⟩:=h;exact⟨x,q,e,Rep.mono s r,RepL.mono s t⟩
end
def RepL.length{H:Hp}:∀{ds:List Dt}{xs:List V},RepL H ds xs->xs.length=ds.length
 |[],_,h=>by cases h;rfl
 |_::_,_,h=>by obtain⟨x,q,e,r,t⟩:=h;subst e;simp[RepL.length t]
mutual
def conv:Dt->L2.Dat
 |.non=>.non
 |.bl b=>.bl b
 |.int i=>.int i
 |.str x=>.str x
 |.lst ds=>.lst (convL ds)
 |.tup ds=>.tup (convL ds)
 |.scr _=>.non
 |.exc _ _ _=>.non
 |.fn _ _=>.non
 |.ins _ _=>.non
 |.dct _=>.non
def convL:List Dt->List L2.Dat
 |[]=>[]
 |d::r=>conv d::convL r
end
mutual
def zG7:∀{d:Dt},d.dep<=40->(conv d).dep<=d.dep
 |.non,_=>qA5 _
 |.bl _,_=>qA5 _
 |.int _,_=>qA5 _
 |.str _,_=>qA5 _
 |.lst ds,h=>by rw[Dt.dep]at h ⊢;rw[conv,L2.Dat.dep];have:=conv_depL (ds:=ds) (by lia);lia
 |.tup ds,h=>by rw[Dt.dep]at h ⊢;rw[conv,L2.Dat.dep];have:=conv_depL (ds:=ds) (by lia);lia
 |.scr _,h=>by rw[Dt.dep]at h;lia
 |.exc _ _ _,h=>by rw[Dt.dep]at h;lia
 |.fn _ _,h=>by rw[Dt.dep]at h;lia
 |.ins _ _,h=>by rw[Dt.dep]at h;lia
 |.dct _,h=>by rw[Dt.dep]at h;lia
def conv_depL:∀{ds:List Dt},Dt.depL ds<=40->L2.Dat.depL (convL ds)<=Dt.depL ds
 |[],_=>qA5 _
 |d::r,h=>by
  rw[Dt.depL]at h ⊢;rw[convL,L2.Dat.depL];have h1:=zG7 (d:=d) (by lia);have h2:=conv_depL (ds:=r) (by lia)
  lia
end
mutual
def zEV{H:Hp}:∀{d:Dt}{v:V},d.dep<=40->Rep H d v->L2.Rep H (conv d) v
 |.non,_,_,h=>h
 |.bl _,_,_,h=>h
 |.int _,_,_,h=>h
 |.str _,_,_,h=>h
 |.lst ds,_,hd,h=>by obtain⟨a,xs,e,e',r⟩:=h;exact⟨a,xs,e,e',conv_repL (by rw[Dt.dep]at hd;lia) r⟩
 |.tup ds,_,hd,h=>by obtain⟨a,xs,e,e',r⟩:=h;exact⟨a,xs,e,e',conv_repL (by rw[Dt.dep]at hd;lia) r⟩
 |.scr _,_,h,_=>by rw[Dt.dep]at h;lia
 |.exc _ _ _,_,h,_=>by rw[Dt.dep]at h;lia
 |.fn _ _,_,h,_=>by rw[Dt.dep]at h;lia
 |.ins _ _,_,h,_=>by rw[Dt.dep]at h;lia
 |.dct _,_,h,_=>by rw[Dt.dep]at h;lia
def conv_repL{H:Hp}:∀{ds:List Dt}{xs:List V},Dt.depL ds<=40->RepL H ds xs->L2.RepL H (convL ds) xs
 |[],_,_,h=>h
 |d::r,_,hd,h=>by
  rw[Dt.depL]at hd;obtain⟨x,q,e,a,b⟩:=h;exact⟨x,q,e,zEV (by lia) a,conv_repL (by lia) b⟩
end
mutual
def zO0:∀{d e:Dt},d.dep<=40->e.dep<=40->L2.Dat.eq (conv d) (conv e)=Dt.eq d e
 |.scr _,_,h,_=>by rw[Dt.dep]at h;lia
 |.exc _ _ _,_,h,_=>by rw[Dt.dep]at h;lia
 |.fn _ _,_,h,_=>by rw[Dt.dep]at h;lia
 |.ins _ _,_,h,_=>by rw[Dt.dep]at h;lia
 |.dct _,_,h,_=>by rw[Dt.dep]at h;lia
 |.lst ds,e,h,h'=>by
  rw[Dt.dep]at h;cases e with
  |lst es=>rw[Dt.dep]at h';rw[conv,conv,L2.Dat.eq,Dt.eq];exact conv_eqL (by lia) (by lia)
  |scr _=>rw[Dt.dep]at h';lia
  |exc _ _ _=>rw[Dt.dep]at h';lia
  |fn _ _=>rw[Dt.dep]at h';lia
  |ins _ _=>rw[Dt.dep]at h';lia
  |dct _=>rw[Dt.dep]at h';lia
  |_=>simp[conv,L2.Dat.eq,Dt.eq]
 |.tup ds,e,h,h'=>by
  rw[Dt.dep]at h;cases e with
  |tup es=>rw[Dt.dep]at h';rw[conv,conv,L2.Dat.eq,Dt.eq];exact conv_eqL (by lia) (by lia)
  |scr _=>rw[Dt.dep]at h';lia
  |exc _ _ _=>rw[Dt.dep]at h';lia
  |fn _ _=>rw[Dt.dep]at h';lia
  |ins _ _=>rw[Dt.dep]at h';lia
  |dct _=>rw[Dt.dep]at h';lia
  |_=>simp[conv,L2.Dat.eq,Dt.eq]
 |.non,e,_,h'=>by
  cases e with
  |scr _=>rw[Dt.dep]at h';lia
  |exc _ _ _=>rw[Dt.dep]at h';lia
  |fn _ _=>rw[Dt.dep]at h';lia
  |ins _ _=>rw[Dt.dep]at h';lia
  |dct _=>rw[Dt.dep]at h';lia
  |_=>simp[conv,L2.Dat.eq,Dt.eq]
 |.bl _,e,_,h'=>by
  cases e with
  |scr _=>rw[Dt.dep]at h';lia
  |exc _ _ _=>rw[Dt.dep]at h';lia
  |fn _ _=>rw[Dt.dep]at h';lia
  |ins _ _=>rw[Dt.dep]at h';lia
  |dct _=>rw[Dt.dep]at h';lia
  |_=>simp[conv,L2.Dat.eq,Dt.eq]
 |.int _,e,_,h'=>by
  cases e with
  |scr _=>rw[Dt.dep]at h';lia
  |exc _ _ _=>rw[Dt.dep]at h';lia
  |fn _ _=>rw[Dt.dep]at h';lia
  |ins _ _=>rw[Dt.dep]at h';lia
  |dct _=>rw[Dt.dep]at h';lia
  |_=>simp[conv,L2.Dat.eq,Dt.eq]
 |.str _,e,_,h'=>by
  cases e with
  |scr _=>rw[Dt.dep]at h';lia
  |exc _ _ _=>rw[Dt.dep]at h';lia
  |fn _ _=>rw[Dt.dep]at h';lia
  |ins _ _=>rw[Dt.dep]at h';lia
  |dct _=>rw[Dt.dep]at h';lia
  |_=>simp[conv,L2.Dat.eq,Dt.eq]
def conv_eqL:∀{ds es:List Dt},Dt.depL ds<=40->Dt.depL es<=40->L2.Dat.eqL (convL ds) (convL es)=Dt.eqL ds es
 |[],[],_,_=>by simp[convL,L2.Dat.eqL,Dt.eqL]
 |[],_::_,_,_=>by simp[convL,L2.Dat.eqL,Dt.eqL]
 |_::_,[],_,_=>by simp[convL,L2.Dat.eqL,Dt.eqL]
 |d::r,e::t,h,h'=>by
  rw[Dt.depL]at h h';rw[convL,convL,L2.Dat.eqL,Dt.eqL,zO0 (by lia) (by lia),conv_eqL (by lia) (by lia)]
end
def zCK{G:Hp}:∀{ds:List Dt}{xs:List V}{q:Nat}{d:Dt}{x:V},RepL G ds xs->ds[q]?=some d->xs[q]?=some x->Rep G d x
 |[],_,_,_,_,_,h,_=>by simp at h
 |d::r,xs,0,e,y,h,h1,h2=>by
  obtain⟨x,t,rfl,a,b⟩:=h;simp at h1 h2;subst h1;subst h2;exact a
 |d::r,xs,q+1,e,y,h,h1,h2=>by
  obtain⟨x,t,rfl,a,b⟩:=h;exact zCK b (by simpa using h1) (by simpa using h2)
def zFA{G:Hp}:∀{ds:List Dt}{xs:List V},xs.length=ds.length->(∀(q:Nat)(d:Dt)(x:V),ds[q]?=some d->xs[q]?=some x->Rep G d x)->RepL G ds xs
 |[],[],_,_=>rfl
 |[],_::_,h,_=>by simp at h
 |_::_,[],h,_=>by simp at h
 |d::r,x::t,h,k=>⟨x,t,rfl,k 0 d x rfl rfl,zFA (by simpa using h) fun q e y h1 h2=>k (q+1) e y (by simpa using h1) (by simpa using h2)⟩
def zFF{n:Nat}:∀{ds:List Dt},Dt.depL ds<=n->∀{q:Nat}{d:Dt},ds[q]?=some d->d.dep<=n
 |[],_,_,_,h=>by simp at h
 |e::r,h,0,d,h1=>by simp at h1;subst h1;rw[Dt.depL]at h;lia
 |e::r,h,q+1,d,h1=>by rw[Dt.depL]at h;exact zFF (ds:=r) (by lia) (q:=q) (by simpa using h1)
def Rep.scalar{G G2:Hp}{d:Dt}{v:V}(h:Rep G d v)(hd:d.dep=0):Rep G2 d v:=by
 cases d with
 |lst ds=>rw[Dt.dep]at hd;lia
 |tup ds=>rw[Dt.dep]at hd;lia
 |scr ns=>rw[Dt.dep]at hd;lia
 |exc _ _ _=>rw[Dt.dep]at hd;lia
 |fn _ _=>rw[Dt.dep]at hd;lia
 |ins _ _=>rw[Dt.dep]at hd;lia
 |dct _=>rw[Dt.dep]at hd;lia
 |_=>exact h
structure Kids(P:(Addr->Prop)->Dt->V->Prop)(S:Addr->Prop)(a:Addr)(ds:List Dt)(xs:List V)(T:Nat->Addr->Prop):Prop where
 len:xs.length=ds.length
 own:∀(q:Nat)(d:Dt)(x:V),ds[q]?=some d->xs[q]?=some x->P (T q) d x
 top:S a
 out:∀q,¬T q a
 dis:∀q r b,T q b->T r b->q=r
 sub:∀q b,T q b->S b
def Own(G H:Hp):Nat->(Addr->Prop)->Dt->V->Prop
 |0,_,d,v=>Rep G d v
 |n+1,S,d,v=>match d with
  |.lst ds=>∃a xs T,v=.ref a/\H a=some (.lst xs)/\Kids (Own G H n) S a ds xs T
  |.tup ds=>∃a xs T,v=.ref a/\H a=some (.tup xs)/\Kids (Own G H n) S a ds xs T
  |.dct kvs=>∃a,v=.ref a/\H a=some (.dK (kvs.map fun p=>(p.1,swV p.2)))/\S a
  |d=>Rep G d v
def Kids.imp{P P':(Addr->Prop)->Dt->V->Prop}{S S':Addr->Prop}{a:Addr}{ds:List Dt}{xs:List V}{T:Nat->Addr->Prop}(k:Kids P S a ds xs T)
  (h:∀q d x,ds[q]?=some d->P (T q) d x->P' (T q) d x) (hs:∀b,S b->S' b):Kids P' S' a ds xs T:=
 ⟨k.len,fun q d x h1 h2=>h q d x h1 (k.own q d x h1 h2),hs _ k.top,k.out,k.dis,fun q b t=>hs _ (k.sub q b t)⟩
def Own.mono{G G' H H':Hp}(sG:Same G G')(sH:Same H H'):∀{n:Nat}{S:Addr->Prop}{d:Dt}{v:V},Own G H n S d v->Own G' H' n S d v
 |0,S,d,v,h=>Rep.mono sG h
 |n+1,S,d,v,h=>by
  cases d with
  |lst ds=>obtain⟨a,xs,T,e,ha,k⟩:=h;exact⟨a,xs,T,e,sH _ _ ha,k.imp (fun _ _ _ _ p=>Own.mono sG sH p) fun _ z=>z⟩
  |tup ds=>obtain⟨a,xs,T,e,ha,k⟩:=h;exact⟨a,xs,T,e,sH _ _ ha,k.imp (fun _ _ _ _ p=>Own.mono sG sH p) fun _ z=>z⟩
  |dct kvs=>obtain⟨a,e,ha,hs⟩:=h;exact⟨a,e,sH _ _ ha,hs⟩
  |_=>exact Rep.mono sG h
def Own.sub{G H:Hp}{n:Nat}{S S':Addr->Prop}{d:Dt}{v:V}(h:Own G H n S d v)(hs:∀b,S b->S' b):Own G H n S' d v:=by
 cases n with
 |zero=>exact h
 |succ n=>
  cases d with
  |lst ds=>obtain⟨a,xs,T,e,ha,k⟩:=h;exact⟨a,xs,T,e,ha,k.imp (fun _ _ _ _ p=>p) hs⟩
  |tup ds=>obtain⟨a,xs,T,e,ha,k⟩:=h;exact⟨a,xs,T,e,ha,k.imp (fun _ _ _ _ p=>p) hs⟩
  |dct kvs=>obtain⟨a,e,ha,h2⟩:=h;exact⟨a,e,ha,hs _ h2⟩
  |_=>exact h
def Own.rep{G H J:Hp}(sG:Same G J):∀{n:Nat}{S:Addr->Prop}{d:Dt}{v:V},Own G H n S d v->(∀a o,S a->H a=some o->J a=some o)->Rep J d v
 |0,S,d,v,h,_=>Rep.mono sG h
 |n+1,S,d,v,h,hj=>by
  cases d with
  |lst ds=>obtain⟨a,xs,T,e,ha,k⟩:=h;exact⟨a,xs,e,hj _ _ k.top ha,zFA k.len fun q d x h1 h2=>Own.rep sG (k.own q d x h1 h2) fun b o t hb=>hj b o (k.sub q b t) hb⟩
  |tup ds=>obtain⟨a,xs,T,e,ha,k⟩:=h;exact⟨a,xs,e,hj _ _ k.top ha,zFA k.len fun q d x h1 h2=>Own.rep sG (k.own q d x h1 h2) fun b o t hb=>hj b o (k.sub q b t) hb⟩
  |dct kvs=>obtain⟨a,e,ha,hs⟩:=h;exact⟨a,e,hj _ _ hs ha⟩
  |_=>exact Rep.mono sG h
def Own.at{G G2 H:Hp}:∀{n k:Nat}{S:Addr->Prop}{d:Dt}{v:V},Own G H n S d v->d.dep<=n->d.dep<=k->n<1000->Own G2 H k S d v
 |n,k,S,d,v,h,hn,hk,hz=>by
  cases d with
  |lst ds=>
   rw[Dt.dep]at hn hk;cases n with
   |zero=>lia
   |succ n=>
    cases k with
    |zero=>lia
    |succ k=>
     obtain⟨a,xs,T,e,ha,kd⟩:=h;refine⟨a,xs,T,e,ha,kd.imp (fun q d x h1 p=>?_) fun _ z=>z⟩;exact Own.at p (zFF (by lia) h1) (zFF (by lia) h1) (by lia)
  |tup ds=>
   rw[Dt.dep]at hn hk;cases n with
   |zero=>lia
   |succ n=>
    cases k with
    |zero=>lia
    |succ k=>
     obtain⟨a,xs,T,e,ha,kd⟩:=h;refine⟨a,xs,T,e,ha,kd.imp (fun q d x h1 p=>?_) fun _ z=>z⟩;exact Own.at p (zFF (by lia) h1) (zFF (by lia) h1) (by lia)
  |non=>cases n<;>cases k<;>exact h
  |bl b=>cases n<;>cases k<;>exact h
  |int i=>cases n<;>cases k<;>exact h
  |str x=>cases n<;>cases k<;>exact h
  |scr ns=>rw[Dt.dep]at hn;lia
  |exc _ _ _=>rw[Dt.dep]at hn;lia
  |fn _ _=>rw[Dt.dep]at hn;lia
  |ins _ _=>rw[Dt.dep]at hn;lia
  |dct _=>rw[Dt.dep]at hn;lia
termination_by n=>n
def Own.scalar{G H G2 H2:Hp}{n k:Nat}{S S2:Addr->Prop}{d:Dt}{v:V}(h:Own G H n S d v)(hd:d.dep=0):Own G2 H2 k S2 d v:=by
 cases d with
 |lst ds=>rw[Dt.dep]at hd;lia
 |tup ds=>rw[Dt.dep]at hd;lia
 |non=>cases n<;>cases k<;>exact h
 |bl b=>cases n<;>cases k<;>exact h
 |int i=>cases n<;>cases k<;>exact h
 |str x=>cases n<;>cases k<;>exact h
 |scr ns=>rw[Dt.dep]at hd;lia
 |exc _ _ _=>rw[Dt.dep]at hd;lia
 |fn _ _=>rw[Dt.dep]at hd;lia
 |ins _ _=>rw[Dt.dep]at hd;lia
 |dct _=>rw[Dt.dep]at hd;lia
def zWK{G H:Hp}{n:Nat}{S:Addr->Prop}{d:Dt}{v:V}(h:Rep G d v)(hd:d.dep=0):Own G H n S d v:=Own.scalar (n:=0) (G:=G) (H:=H) (S:=S) h hd
def Own.upd{G H:Hp}{p:Addr}{o:HO}:∀{n:Nat}{S:Addr->Prop}{d:Dt}{v:V},Own G H n S d v->¬S p->Own G (upd H p o) n S d v
 |0,S,d,v,h,_=>h
 |n+1,S,d,v,h,hp=>by
  cases d with
  |lst ds=>
   obtain⟨a,xs,T,e,ha,k⟩:=h;have hap:a≠p:=fun z=>hp (z▸k.top)
   exact⟨a,xs,T,e,(zA5 hap).trans ha,k.imp (fun q _ _ _ w=>Own.upd w fun z=>hp (k.sub q _ z)) fun _ z=>z⟩
  |tup ds=>
   obtain⟨a,xs,T,e,ha,k⟩:=h;have hap:a≠p:=fun z=>hp (z▸k.top)
   exact⟨a,xs,T,e,(zA5 hap).trans ha,k.imp (fun q _ _ _ w=>Own.upd w fun z=>hp (k.sub q _ z)) fun _ z=>z⟩
  |dct kvs=>
   obtain⟨a,e,ha,hs⟩:=h;have hap:a≠p:=fun z=>hp (z▸hs)
   exact⟨a,e,(zA5 hap).trans ha,hs⟩
  |_=>exact h
structure Ext(G H G' H':Hp):Prop where
 g:Same G G'
 h:Same H H'
 in':Same G' H'
 old:∀b,H b≠none->G' b=G b
def Ext.refl{G H:Hp}(s:Same G H):Ext G H G H:=⟨Same.refl _,Same.refl _,s,fun _ _=>rfl⟩
def _root_.L2.Same.some{H H':Hp}(s:Same H H'){b:Addr}(h:H b≠qFy):H' b≠qFy:=by
 cases e:H b with
 |none=>exact absurd e h
 |some o=>rw[s _ _ e];simp
def Ext.trans{G H G1 H1 G2 H2:Hp}(a:Ext G H G1 H1)(b:Ext G1 H1 G2 H2):Ext G H G2 H2:=
 ⟨a.g.trans b.g,a.h.trans b.h,b.in',fun c hc=>(b.old c (a.h.some hc)).trans (a.old c hc)⟩
structure Fr(G H G' H':Hp)(S:Addr->Prop):Prop where
 ext:Ext G H G' H'
 new:∀a,S a->H a=none/\G' a=none/\H' a≠none
open Classical in
noncomputable def over(G H:Hp)(S:Addr->Prop):Hp:=fun b=>if S b then H b else G b
def zGK{G H:Hp}{S:Addr->Prop}{a:Addr}(h:S a):over G H S a=H a:=by unfold over;rw[if_pos h]
def zE6{G H:Hp}{S:Addr->Prop}{a:Addr}(h:¬S a):over G H S a=G a:=by unfold over;rw[if_neg h]
def zFV{G H:Hp}{S:Addr->Prop}(s:Same G H):Same G (over G H S)/\Same (over G H S) H:=by
 constructor
 ·intro b o e
  by_cases z:S b
  ·rw[zGK z];exact s _ _ e
  ·rw[zE6 z];exact e
 ·intro b o e
  by_cases z:S b
  ·rw[zGK z]at e;exact e
  ·rw[zE6 z]at e;exact s _ _ e
def Fr.frz{G H G' H':Hp}{S:Addr->Prop}{n:Nat}{d:Dt}{v:V}(f:Fr G H G' H' S)(o:Own G' H' n S d v):Ext G H (over G' H' S) H'/\Rep (over G' H' S) d v:=by
 obtain⟨s1,s2⟩:=zFV (S:=S) f.ext.in';refine⟨⟨f.ext.g.trans s1,f.ext.h,s2,fun b hb=>?_⟩,o.rep s1 fun a u ha e=>by rw[zGK ha];exact e⟩;have z:¬S b:=fun z=>hb (f.new b z).1
 rw[zE6 z];exact f.ext.old b hb
structure View(G:Hp)(σ:St)(ρ:Rh):Prop where
 len:ρ.length=σ.length
 «at»:∀(i:Nat)(d:Dt),ρ[i]?=some (some d)->∃v,σ[i]?=some (some v)/\Rep G d v
 tab:Same (tabK Kc.K) G
def View.mono{G G':Hp}{σ:St}{ρ:Rh}(s:Same G G')(h:View G σ ρ):View G' σ ρ:=⟨h.len,fun i d e=>let⟨v,a,b⟩:=h.at i d e;⟨v,a,Rep.mono s b⟩,h.tab.trans s⟩
def XRep(mg:Str->Option Value)(x:Xn)(c:Value)(da:Option Addr)(G H:Hp):Prop:=
 ∃e C,c=.ref e/\G e=some (xo e (.ref C) da)/\clK Kc.K x.cls=some C/\((da=none/\x.f = "")\/∃a gs w,da=some a/\G a=some (.xd gs)/\gs.lookup x.f=some w/\Rep G x.d w)
def PostE(mg:Str->Option Value)(E:XK)(G H:Hp)(n:Nat)(r:R Dt)(Q:VK):Prop:=match r with
 |none=>False
 |some (.error x)=>∀c da G' H',Ext G H G' H'->XRep mg x c da G' H'->E c da H'
 |some (.ok d)=>∀v G' H' S,Fr G H G' H' S->Own G' H' n S d v->Q v H'
def PostT(mg:Str->Option Value)(E:XK)(G H:Hp)(r:R Bool)(Q:Bool->Hp->Prop):Prop:=match r with
 |none=>False
 |some (.error x)=>∀c da G' H',Ext G H G' H'->XRep mg x c da G' H'->E c da H'
 |some (.ok b)=>∀H',Same H H'->Q b H'
structure OwnA(G H:Hp)(n:Nat)(S:Addr->Prop)(ds:List Dt)(xs:List V)(T:Nat->Addr->Prop):Prop where
 len:xs.length=ds.length
 own:∀(q:Nat)(d:Dt)(x:V),ds[q]?=some d->xs[q]?=some x->Own G H n (T q) d x
 dis:∀q r b,T q b->T r b->q=r
 sub:∀q b,T q b->S b
def zcK(mg:Str->Option Value)(E:XK)(G H:Hp)(n:Nat)(r:R (List Dt))(Q:List V->Hp->Prop):Prop:=match r with
 |none=>False
 |some (.error x)=>∀c da G' H',Ext G H G' H'->XRep mg x c da G' H'->E c da H'
 |some (.ok ds)=>∀vs G' H' S T,Fr G H G' H' S->OwnA G' H' n S ds vs T->Q vs H'
def DE(mg:Str->Option Value)(E:XK)(t:TE)(m:EM)(n:Nat):Prop:=∀(G H:Hp)(σ:St)(ρ:Rh)(Q:VK),Same G H->View G σ ρ->PostE mg E G H n (m ρ) Q->t σ H Q
def DT(mg:Str->Option Value)(E:XK)(t:TT)(m:TM):Prop:=∀(G H:Hp)(σ:St)(ρ:Rh)(Q:Bool->Hp->Prop),Same G H->View G σ ρ->PostT mg E G H (m ρ) Q->t σ H Q
def DA(mg:Str->Option Value)(E:XK)(t:TA)(m:AM)(n:Nat):Prop:=∀(G H:Hp)(σ:St)(ρ:Rh)(Q:List V->Hp->Prop),Same G H->View G σ ρ->zcK mg E G H n (m ρ) Q->t σ H Q
structure Err(mg:Str->Option Value)(E:XK)(G H:Hp){β:Type}(P:R β->Prop):Prop where
 no:P none->False
 er:∀x,P (some (.error x))->∀c da G' H',Ext G H G' H'->XRep mg x c da G' H'->E c da H'
def Ext.same{G H H':Hp}(s:Same G H)(h:Same H H'):Ext G H G H':=⟨Same.refl _,h,s.trans h,fun _ _=>rfl⟩
def Err.from{mg:Str->Option Value}{E:XK}{G H G' H':Hp}{β:Type}{P:R β->Prop}(e:Err mg E G H P)(x:Ext G H G' H'):Err mg E G' H' P:=⟨e.no,fun y p c da G2 H2 z w=>e.er y p c da G2 H2 (x.trans z) w⟩
section
variable{mg:Str->Option Value}{E:XK}{n:Nat}
def errE{G H:Hp}{Q:VK}:Err mg E G H (fun r=>PostE mg E G H n r Q):=⟨fun h=>h,fun _ h=>h⟩
def errT{G H:Hp}{Q:Bool->Hp->Prop}:Err mg E G H (fun r=>PostT mg E G H r Q):=⟨fun h=>h,fun _ h=>h⟩
def errA{G H:Hp}{Q:List V->Hp->Prop}:Err mg E G H (fun r=>zcK mg E G H n r Q):=⟨fun h=>h,fun _ h=>h⟩
def DE.step{β:Type}{t:TE}{m:EM}(D:DE mg E t m n){G H:Hp}{σ:St}{ρ:Rh}{Q:VK}{P:R β->Prop}{f:Dt->R β}(hE:Err mg E G H P)(s:Same G H)(w:View G σ ρ)(p:P (zA3 (m ρ) f))
  (h:∀d v G' H' S,m ρ=okR d->Fr G H G' H' S->Own G' H' n S d v->P (f d)->Q v H'):t σ H Q:=by
 refine D G H σ ρ Q s w ?_;cases e:m ρ with
 |none=>rw[e]at p;exact hE.no p
 |some r=>
  rw[e]at p;cases r with
  |error x=>exact hE.er x p
  |ok d=>exact fun v G' H' S fr o=>h d v G' H' S e fr o p
def DT.step{β:Type}{t:TT}{m:TM}(D:DT mg E t m){G H:Hp}{σ:St}{ρ:Rh}{Q:Bool->Hp->Prop}{P:R β->Prop}{f:Bool->R β}(hE:Err mg E G H P)(s:Same G H)(w:View G σ ρ)(p:P (zA3 (m ρ) f))
  (h:∀b H',m ρ=okR b->Same H H'->P (f b)->Q b H'):t σ H Q:=by
 refine D G H σ ρ Q s w ?_;cases e:m ρ with
 |none=>rw[e]at p;exact hE.no p
 |some r=>
  rw[e]at p;cases r with
  |error x=>exact hE.er x p
  |ok b=>exact fun H' sH=>h b H' e sH p
def DA.step{β:Type}{t:TA}{m:AM}(D:DA mg E t m n){G H:Hp}{σ:St}{ρ:Rh}{Q:List V->Hp->Prop}{P:R β->Prop}{f:List Dt->R β}(hE:Err mg E G H P)(s:Same G H)(w:View G σ ρ)(p:P (zA3 (m ρ) f))
  (h:∀ds vs G' H' S T,m ρ=okR ds->Fr G H G' H' S->OwnA G' H' n S ds vs T->P (f ds)->Q vs H'):t σ H Q:=by
 refine D G H σ ρ Q s w ?_;cases e:m ρ with
 |none=>rw[e]at p;exact hE.no p
 |some r=>
  rw[e]at p;cases r with
  |error x=>exact hE.er x p
  |ok ds=>exact fun vs G' H' S T fr o=>h ds vs G' H' S T e fr o p
def PostE.from{G H G' H':Hp}{Q:VK}{r:R Dt}(p:PostE mg E G H n r Q)(x:Ext G H G' H'):PostE mg E G' H' n r Q:=by
 cases r with
 |none=>exact p
 |some r=>
  cases r with
  |error y=>exact fun c da G2 H2 z w=>p c da G2 H2 (x.trans z) w
  |ok d=>
   exact fun v G2 H2 S fr o=>p v G2 H2 S ⟨x.trans fr.ext,fun a ha=>⟨x.h.free (fr.new a ha).1,(fr.new a ha).2⟩⟩ o
def PostT.from{G H G' H':Hp}{Q:Bool->Hp->Prop}{r:R Bool}(p:PostT mg E G H r Q)(x:Ext G H G' H'):PostT mg E G' H' r Q:=by
 cases r with
 |none=>exact p
 |some r=>
  cases r with
  |error y=>exact fun c da G2 H2 z w=>p c da G2 H2 (x.trans z) w
  |ok d=>exact fun H2 s=>p H2 (x.h.trans s)
def Fr.from{G H G1 H1 G2 H2:Hp}{S:Addr->Prop}(x:Ext G H G1 H1)(f:Fr G1 H1 G2 H2 S):Fr G H G2 H2 S:=⟨x.trans f.ext,fun a ha=>⟨x.h.free (f.new a ha).1,(f.new a ha).2⟩⟩
def PostE.val{G H G' H':Hp}{d:Dt}{v:V}{Q:VK}(p:PostE mg E G H n (okR d) Q)(x:Ext G H G' H')(hd:d.dep=0)(h:Rep G' d v):Q v H':=
 p v G' H' (fun _=>False) ⟨x,fun _ z=>z.elim⟩ (zWK h hd)
def PostE.kept{G H G' H':Hp}{d:Dt}{v:V}{Q:VK}(p:PostE mg E G H 0 (okR d) Q)(x:Ext G H G' H')(h:Rep G' d v):Q v H':=
 p v G' H' (fun _=>False) ⟨x,fun _ z=>z.elim⟩ h
def zBE{t:TE}{m:EM}{n:Nat}(D:DE mg E t m n):DE mg E t m 0:=by
 intro G H σ ρ Q s w p;refine D G H σ ρ Q s w ?_;cases e:m ρ with
 |none=>rw[e]at p;exact p
 |some r=>
  rw[e]at p;cases r with
  |error x=>exact p
  |ok d=>
   intro v G' H' S fr o;obtain⟨x,r⟩:=fr.frz o;exact PostE.kept p x r
end
end
section
variable[Kc]{mg:Str->Option Value}{E:XK}{n k l:Nat}{ta tb:TE}{ma mb:EM}
def zAC{i:Int}:DE mg E (tC (.int i)) (Mi.eC (.int i)) n:=fun G H σ ρ Q s w p=>PostE.val p (Ext.refl s) rfl rfl
def zNX{b:Bool}:DE mg E (tC (.bl b)) (Mi.eC (.bl b)) n:=fun G H σ ρ Q s w p=>PostE.val p (Ext.refl s) rfl rfl
def zII{x:Str}:DE mg E (tC (.str x)) (Mi.eC (.str x)) n:=fun G H σ ρ Q s w p=>PostE.val p (Ext.refl s) rfl rfl
def de_v(i:Nat):DE mg E (vM i) (Mi.eV i) 0:=by
 intro G H σ ρ Q s w p;unfold Mi.eV at p;cases e:ρ[i]? with
 |none=>rw[e]at p;exact p.elim
 |some o=>
  rw[e]at p;cases o with
  |none=>exact p.elim
  |some d=>
   obtain⟨v,h1,h2⟩:=w.at i d e;unfold vM;rw[h1];exact PostE.kept p (Ext.refl s) h2
def ROp(r:R2)(f:Dt->Dt->Option Dt)(n:Nat):Prop:=∀(mg:Str->Option Value)(E:XK)(G H:Hp)(d e:Dt)(x y:V)(Q:VK),Same G H->Rep G d x->Rep G e y->PostE mg E G H n (optR (f d e)) Q->r x y H Q
def zAB{r:R2}{f:Dt->Dt->Option Dt}(hr:ROp r f n)(A:DE mg E ta ma k)(B:DE mg E tb mb l):DE mg E (tOp r ta tb) (Mi.eB f ma mb) n:=by
 intro G H σ ρ Q s w p;refine(zBE A).step errE s w p fun d v G1 H1 S _ fr o p1=>?_
 refine(zBE B).step (errE.from fr.ext) fr.ext.in' (w.mono fr.ext.g) p1 fun e u G2 H2 S2 _ fr2 o2 p2=>?_
 exact hr mg E G2 H2 d e v u Q fr2.ext.in' (Rep.mono fr2.ext.g o) o2 (PostE.from p2 (fr.ext.trans fr2.ext))
def ROp1(r:V->Hp->VK->Prop)(f:Dt->Option Dt)(n:Nat):Prop:=∀(mg:Str->Option Value)(E:XK)(G H:Hp)(d:Dt)(x:V)(Q:VK),Same G H->Rep G d x->PostE mg E G H n (optR (f d)) Q->r x H Q
def zc3{r:V->Hp->VK->Prop}{f:Dt->Option Dt}(hr:ROp1 r f n)(A:DE mg E ta ma k):DE mg E (tUn r ta) (Mi.eU f ma) n:=by
 intro G H σ ρ Q s w p;refine(zBE A).step errE s w p fun d v G1 H1 S _ fr o p1=>?_
 exact hr mg E G1 H1 d v Q fr.ext.in' o (PostE.from p1 fr.ext)
def zPF(A:DE mg E ta ma k)(B:DE mg E tb mb n):DE mg E (fun σ H Q=>ta σ H fun x H1=>match x with | .bl c=>if c=true then tb σ H1 Q else Q (.bl false) H1|_=>False) (Mi.eAnd ma mb) n:=by
 intro G H σ ρ Q s w p;refine(zBE A).step errE s w p fun d v G1 H1 S _ fr o p1=>?_
 cases d with
 |bl b=>
  cases(show v=.bl b from o)
  cases b with
  |true=>exact B G1 H1 σ ρ Q fr.ext.in' (w.mono fr.ext.g) (PostE.from p1 fr.ext)
  |false=>exact PostE.val (PostE.from p1 fr.ext) (Ext.refl fr.ext.in') rfl rfl
 |_=>exact p1.elim
def zc9{tA:TT}{c:TM}(C:DT mg E tA c)(A:DE mg E ta ma n)(B:DE mg E tb mb n):DE mg E (tIf tA ta tb) (Mi.eIf c ma mb) n:=by
 intro G H σ ρ Q s w p;refine C.step errE s w p fun b H' _ sH p1=>?_
 have p2:=PostE.from p1 (Ext.same s sH);cases b with
 |true=>exact A G H' σ ρ Q (s.trans sH) w p2
 |false=>exact B G H' σ ρ Q (s.trans sH) w p2
def dt_b(A:DE mg E ta ma k):DT mg E (fun σ H Q=>ta σ H fun z H3=>match z with | .bl k=>Q k H3|_=>False) (Mi.tB ma):=by
 intro G H σ ρ Q s w p;refine(zBE A).step errT s w p fun d v G1 H1 S _ fr o p1=>?_
 cases d with
 |bl b=>
  cases(show v=.bl b from o)
  exact p1 H1 fr.ext.h
 |_=>exact p1.elim
def dt_m(A:DE mg E ta ma k):DT mg E (bM ta) (Mi.tM ma):=by
 intro G H σ ρ Q s w p;refine(zBE A).step errT s w p fun d v G1 H1 S _ fr o p1=>?_
 cases d with
 |bl b=>cases(show v=.bl b from o);exact p1 H1 fr.ext.h
 |int b=>cases(show v=.int b from o);exact p1 H1 fr.ext.h
 |non=>cases(show v=.non from o);exact p1 H1 fr.ext.h
 |_=>exact p1.elim
variable{tA tB:TT}{cA cB:TM}
def zWY(A:DT mg E tA cA)(B:DT mg E tB cB):DT mg E (L2.tAnd tA tB) (Mi.tAn cA cB):=by
 intro G H σ ρ Q s w p;refine A.step errT s w p fun b H' _ sH p1=>?_
 cases b with
 |true=>exact B G H' σ ρ Q (s.trans sH) w (PostT.from p1 (Ext.same s sH))
 |false=>exact p1 H' sH
def zNV(A:DT mg E tA cA)(B:DT mg E tB cB):DT mg E (L2.tOr tA tB) (Mi.tOr cA cB):=by
 intro G H σ ρ Q s w p;refine A.step errT s w p fun b H' _ sH p1=>?_
 cases b with
 |false=>exact B G H' σ ρ Q (s.trans sH) w (PostT.from p1 (Ext.same s sH))
 |true=>exact p1 H' sH
def zJC(A:DT mg E tA cA):DT mg E (L2.tNot tA) (Mi.tNo cA):=by
 intro G H σ ρ Q s w p;exact A.step errT s w p fun b H' _ sH p1=>p1 H' sH
def zDX:DT mg E L2.tYes Mi.tYes:=fun G H σ ρ Q s w p=>p H (Same.refl _)
variable{t:TA}{m:AM}
def zAA:DA mg E tNil Mi.aNil n:=fun G H σ ρ Q s w p=>p [] G H (fun _=>False) (fun _ _=>False) ⟨Ext.refl s,fun _ z=>z.elim⟩ ⟨rfl,fun q d x h=>by simp at h,fun _ _ _ z=>z.elim,fun _ _ z=>z.elim⟩
def zA2(A:DE mg E ta ma n)(B:DA mg E t m n):DA mg E (zE1 ta t) (Mi.aCons ma m) n:=by
 intro G H σ ρ Q s w p;refine A.step errA s w p fun d v G1 H1 S1 _ fr o p1=>?_
 refine B.step (errA.from fr.ext) fr.ext.in' (w.mono fr.ext.g) p1 fun ds vs G2 H2 S2 T2 _ fr2 o2 p2=>?_
 refine p2 (v::vs) G2 H2 (fun a=>S1 a\/S2 a) (fun q=>match q with|0=>S1|q+1=>T2 q) ⟨fr.ext.trans fr2.ext,fun a ha=>?_⟩ ⟨by simp[o2.len],fun q d' x h1 h2=>?_,fun q r b h1 h2=>?_,fun q b h=>?_⟩
 ·rcases ha with ha|ha
  ·obtain⟨n1,n2,n3⟩:=fr.new a ha;exact⟨n1,(fr2.ext.old a n3).trans n2,fr2.ext.h.some n3⟩
  ·obtain⟨n1,n2,n3⟩:=fr2.new a ha;exact⟨fr.ext.h.free n1,n2,n3⟩
 ·cases q with
  |zero=>simp at h1 h2;subst h1;subst h2;exact o.mono fr2.ext.g fr2.ext.h
  |succ q=>exact o2.own q d' x (by simpa using h1) (by simpa using h2)
 ·have ap:∀r b,S1 b->T2 r b->False:=fun r b h1 h2=>(fr.new b h1).2.2 (fr2.new b (o2.sub r b h2)).1
  cases q with
  |zero=>
   cases r with
   |zero=>rfl
   |succ r=>exact(ap r b h1 h2).elim
  |succ q=>
   cases r with
   |zero=>exact(ap q b h2 h1).elim
   |succ r=>rw[o2.dis q r b h1 h2]
 ·cases q with
  |zero=>exact .inl h
  |succ q=>exact .inr (o2.sub q b h)
def OwnA.repL{G H:Hp}{S:Addr->Prop}{ds:List Dt}{vs:List V}{T:Nat->Addr->Prop}(o:OwnA G H 0 S ds vs T):RepL G ds vs:=zFA o.len fun q d x h1 h2=>o.own q d x h1 h2
def big'{n:Nat}(h:n<=100000):n<=sizeLine:=qC8 (L2.big h)
def Fr.add{G H G' H':Hp}{S:Addr->Prop}(f:Fr G H G' H' S){p:Addr}(hp:H' p=none)(o:HO):Fr G H G' (upd H' p o) (fun a=>a=p\/S a):=by
 have sn:=L2.same_new hp o;refine⟨⟨f.ext.g,f.ext.h.trans sn,f.ext.in'.trans sn,f.ext.old⟩,fun a ha=>?_⟩
 rcases ha with rfl|ha
 ·exact⟨f.ext.h.free hp,f.ext.in'.free hp,by rw[zA8];simp⟩
 ·obtain⟨n1,n2,n3⟩:=f.new a ha;exact⟨n1,n2,sn.some n3⟩
def OwnA.kids{G' H':Hp}{S:Addr->Prop}{ds:List Dt}{vs:List V}{T:Nat->Addr->Prop}(o:OwnA G' H' n S ds vs T)(hn:∀a,S a->H' a≠none){p:Addr}(hp:H' p=none)(ob:HO) :
  Kids (Own G' (upd H' p ob) n) (fun a=>a=p\/S a) p ds vs T:=
 ⟨o.len,fun q d x h1 h2=>(o.own q d x h1 h2).mono (Same.refl _) (L2.same_new hp ob),.inl rfl,fun q z=>hn p (o.sub q p z) hp,o.dis,fun q b z=>.inr (o.sub q b z)⟩
def zJG(A:DA mg E t m n):DE mg E (tLst t) (Mi.eLst m) (n+1):=by
 intro G H σ ρ Q s w p;refine A.step errE s w p fun ds vs G1 H1 S T _ fr o p1=>?_
 by_cases hz:ds.length<=100000
 ·rw[if_pos hz]at p1;refine⟨by rw[o.len];exact big' hz,fun a ha=>?_⟩;exact p1 (.ref a) G1 _ _ (fr.add ha _) ⟨a,vs,T,rfl,zA8,o.kids (fun b hb=>(fr.new b hb).2.2) ha _⟩
 ·rw[if_neg hz]at p1;exact p1.elim
def zJF(A:DA mg E t m n):DE mg E (tTup t) (Mi.eTup m) (n+1):=by
 intro G H σ ρ Q s w p;refine A.step errE s w p fun ds vs G1 H1 S T _ fr o p1=>?_
 by_cases hz:ds.length<=100000
 ·rw[if_pos hz]at p1;refine⟨by rw[o.len];exact big' hz,fun a ha=>?_⟩;exact p1 (.ref a) G1 _ _ (fr.add ha _) ⟨a,vs,T,rfl,zA8,o.kids (fun b hb=>(fr.new b hb).2.2) ha _⟩
 ·rw[if_neg hz]at p1;exact p1.elim
def PostE.lst{G H G' H':Hp}{ds:List Dt}{xs:List V}{Q:VK}(p:PostE mg E G H 1 (okR (.lst ds)) Q)(x:Ext G H G' H')(r:RepL G' ds xs){a:Addr}(ha:H' a=none):Q (.ref a) (upd H' a (.lst xs)):=by
 have fr:Fr G H G' H' (fun _=>False):=⟨x,fun _ z=>z.elim⟩
 refine p (.ref a) G' _ _ (fr.add ha (.lst xs)) ⟨a,xs,fun _ _=>False,rfl,zA8,⟨r.length,fun q d y h1 h2=>zCK r h1 h2,.inl rfl,fun _ z=>z,fun _ _ _ z=>z.elim,fun _ _ z=>z.elim⟩⟩
def CBi(r:List V->Hp->VK->Prop)(f:List Dt->Option Dt)(n:Nat):Prop:=∀(mg:Str->Option Value)(E:XK)(G H:Hp)(ds:List Dt)(vs:List V)(Q:VK),Same G H->RepL G ds vs->PostE mg E G H n (optR (f ds)) Q->r vs H Q
def zCA{r:List V->Hp->VK->Prop}{f:List Dt->Option Dt}(hr:CBi r f n)(A:DA mg E t m 0):DE mg E (tCB r t) (Mi.eBi f m) n:=by
 intro G H σ ρ Q s w p;refine A.step errE s w p fun ds vs G1 H1 S T _ fr o p1=>?_
 exact hr mg E G1 H1 ds vs Q fr.ext.in' o.repL (PostE.from p1 fr.ext)
def spM(mg:Str->Option Value)(L:Nat)(f:FM):Sp:=fun vs H Q E=>∃G ds,Same (tabK Kc.K) G/\Same G H/\RepL G ds vs/\PostE mg E G H L (f ds) Q
def zC6{f:FM}(A:DA mg E t m 0):DE mg E (zN7 (spM mg n f) [] E t) (Mi.eCall f m) n:=by
 intro G H σ ρ Q s w p;refine A.step errE s w p fun ds vs G1 H1 S T _ fr o p1=>?_
 exact⟨G1,ds,w.tab.trans fr.ext.g,fr.ext.in',by rw[qBv];exact o.repL,PostE.from p1 fr.ext⟩
def zRH{G H:Hp}{o:Option Dt}{Q:VK}{d:Dt}{v:V}(s:Same G H)(p:PostE mg E G H n (optR o) Q)(e:o=some d)(hd:d.dep=0)(h:Rep G d v):Q v H:=by
 subst e;exact PostE.val p (Ext.refl s) hd h
def zB1:ROp zaK Mi.addD 1:=by
 intro mg E G H d e x y Q s h1 h2 p;cases d with
 |int i=>
  cases e with
  |int j=>cases(show x=.int i from h1);cases(show y=.int j from h2);exact zRH s p rfl rfl rfl
  |_=>exact p.elim
 |str i=>
  cases e with
  |str j=>
   cases(show x=.str i from h1);cases(show y=.str j from h2)
   rw[Mi.addD]at p;by_cases hz:i.length+j.length<=100000
   ·rw[if_pos hz]at p;exact⟨big' hz,PostE.val p (Ext.refl s) rfl rfl⟩
   ·rw[if_neg hz]at p;exact p.elim
  |_=>exact p.elim
 |lst ds=>
  cases e with
  |lst es=>
   obtain⟨a,xs,rfl,ha,ra⟩:=h1;obtain⟨b,ys,rfl,hb,rb⟩:=h2;rw[Mi.addD]at p;by_cases hz:ds.length+es.length<=100000
   ·rw[if_pos hz]at p;refine⟨xs,ys,s _ _ ha,s _ _ hb,by rw[ra.length,rb.length];exact big' hz,fun q hq=>?_⟩;refine PostE.lst p (Ext.refl s) (zFA (by simp[ra.length,rb.length]) fun j d' x' e1 e2=>?_) hq
    by_cases hj:j<ds.length
    ·rw[qAf hj]at e1;rw[qAf (by rw[ra.length];exact hj)]at e2;exact zCK ra e1 e2
    ·rw[qAc (by lia)]at e1;rw[qAc (by rw[ra.length];lia),ra.length]at e2;exact zCK rb e1 e2
   ·rw[if_neg hz]at p;exact p.elim
  |_=>exact p.elim
 |_=>exact p.elim
def zW7:ROp za8 Mi.subD n:=by
 intro mg E G H d e x y Q s h1 h2 p;cases d with
 |int i=>
  cases e with
  |int j=>cases(show x=.int i from h1);cases(show y=.int j from h2);exact zRH s p rfl rfl rfl
  |_=>exact p.elim
 |_=>exact p.elim
def zFP:ROp zaF Mi.mulD n:=by
 intro mg E G H d e x y Q s h1 h2 p;cases d with
 |int i=>
  cases e with
  |int j=>
   cases(show x=.int i from h1);cases(show y=.int j from h2)
   rw[Mi.mulD]at p;split at p
   ·rename_i hz;exact⟨hz,PostE.val p (Ext.refl s) rfl rfl⟩
   ·exact p.elim
  |_=>exact p.elim
 |_=>exact p.elim
def zFQ:ROp zaI Mi.divD n:=by
 intro mg E G H d e x y Q s h1 h2 p;cases d with
 |int i=>
  cases e with
  |int j=>
   cases(show x=.int i from h1);cases(show y=.int j from h2)
   rw[Mi.divD]at p;split at p
   ·rename_i hz;exact⟨hz,PostE.val p (Ext.refl s) rfl rfl⟩
   ·exact p.elim
  |_=>exact p.elim
 |_=>exact p.elim
def zBZ:ROp zaG Mi.modD n:=by
 intro mg E G H d e x y Q s h1 h2 p;cases d with
 |int i=>
  cases e with
  |int j=>
   cases(show x=.int i from h1);cases(show y=.int j from h2)
   rw[Mi.modD]at p;split at p
   ·rename_i hz;exact⟨hz,PostE.val p (Ext.refl s) rfl rfl⟩
   ·exact p.elim
  |_=>exact p.elim
 |_=>exact p.elim
def za5:ROp zaC Mi.powD n:=by
 intro mg E G H d e x y Q s h1 h2 p;cases d with
 |int i=>
  cases e with
  |int j=>
   cases(show x=.int i from h1);cases(show y=.int j from h2)
   rw[Mi.powD]at p;split at p
   ·rename_i hz;exact⟨hz,PostE.val p (Ext.refl s) rfl rfl⟩
   ·exact p.elim
  |_=>exact p.elim
 |_=>exact p.elim
def zW9:ROp1 zaE Mi.negD n:=by
 intro mg E G H d x Q s h1 p;cases d with
 |int i=>cases(show x=.int i from h1);exact zRH s p rfl rfl rfl
 |_=>exact p.elim
def zRE{q:Int->Int->Bool}:ROp (zY0 q) (Mi.cmpD q) n:=by
 intro mg E G H d e x y Q s h1 h2 p;cases d with
 |int i=>
  cases e with
  |int j=>cases(show x=.int i from h1);cases(show y=.int j from h2);exact zRH s p rfl rfl rfl
  |_=>exact p.elim
 |_=>exact p.elim
def zWT{G H:Hp}{d e:Dt}{x y:V}{Q:VK}{ng:Bool}(s:Same G H)(h1:Rep G d x)(h2:Rep G e y)(hd:d.dep<=40)(he:e.dep<=40)(q:Q (.bl (if ng then !Dt.eq d e else Dt.eq d e)) H) :
  ∃d' e',L2.Rep H d' x/\L2.Rep H e' y/\d'.dep<=40/\Q (.bl (if ng then !L2.Dat.eq d' e' else L2.Dat.eq d' e')) H:=
 ⟨conv d,conv e,zEV hd (Rep.mono s h1),zEV he (Rep.mono s h2),qAt (zG7 hd) hd,by rw[zO0 hd he];exact q⟩
def zGP{α:Type}[DecidableEq α](a b:α):(a==b)=decide (a=b):=by
 by_cases h:a=b
 ·subst h;simp
 ·simp[h]
def zJZ{G:Hp}{d:Dt}{i:Int}(h:Rep G d (.int i)):d=.int i:=by
 cases d with
 |int k=>cases h;rfl
 |non=>cases h
 |bl _=>cases h
 |str _=>cases h
 |lst _=>obtain⟨_,_,z,_⟩:=h;cases z
 |tup _=>obtain⟨_,_,z,_⟩:=h;cases z
 |scr _=>obtain⟨_,z,_⟩:=h;cases z
 |exc _ _ _=>obtain⟨_,_,_,z,_⟩:=h;cases z
 |fn _ _=>obtain⟨_,z,_⟩:=h;cases z
 |ins _ _=>obtain⟨_,_,_,z,_⟩:=h;cases z
 |dct _=>obtain⟨_,z,_⟩:=h;cases z
def zJY{G:Hp}{d:Dt}{i:Str}(h:Rep G d (.str i)):d=.str i:=by
 cases d with
 |str k=>cases h;rfl
 |non=>cases h
 |bl _=>cases h
 |int _=>cases h
 |lst _=>obtain⟨_,_,z,_⟩:=h;cases z
 |tup _=>obtain⟨_,_,z,_⟩:=h;cases z
 |scr _=>obtain⟨_,z,_⟩:=h;cases z
 |exc _ _ _=>obtain⟨_,_,_,z,_⟩:=h;cases z
 |fn _ _=>obtain⟨_,z,_⟩:=h;cases z
 |ins _ _=>obtain⟨_,_,_,z,_⟩:=h;cases z
 |dct _=>obtain⟨_,z,_⟩:=h;cases z
def zOS{G:Hp}{d:Dt}{i:Bool}(h:Rep G d (.bl i)):d=.bl i:=by
 cases d with
 |bl k=>cases h;rfl
 |non=>cases h
 |str _=>cases h
 |int _=>cases h
 |lst _=>obtain⟨_,_,z,_⟩:=h;cases z
 |tup _=>obtain⟨_,_,z,_⟩:=h;cases z
 |scr _=>obtain⟨_,z,_⟩:=h;cases z
 |exc _ _ _=>obtain⟨_,_,_,z,_⟩:=h;cases z
 |fn _ _=>obtain⟨_,z,_⟩:=h;cases z
 |ins _ _=>obtain⟨_,_,_,z,_⟩:=h;cases z
 |dct _=>obtain⟨_,z,_⟩:=h;cases z
def zIR:ROp rEqU Mi.eqD n:=by
 intro mg E G H d e x y Q s h1 h2 p;unfold Mi.eqD at p;split at p
 ·rename_i hz
  have q:Q (.bl (Dt.eq d e)) H:=PostE.val p (Ext.refl s) rfl rfl;have g:=zWT (ng:=false) (Q:=Q) s h1 h2 hz.1 hz.2 q;unfold rEqU;split
  ·rw[zJZ h1,zJZ h2,Dt.eq,zGP]at q;exact q
  ·rw[zJY h1,zJY h2,Dt.eq,zGP]at q;exact q
  ·rw[zOS h1,zOS h2,Dt.eq,zGP]at q;exact q
  ·exact g
 ·exact p.elim
def zH1:ROp rNeU Mi.neD n:=by
 intro mg E G H d e x y Q s h1 h2 p;unfold Mi.neD at p;split at p
 ·rename_i hz
  have q:Q (.bl (!Dt.eq d e)) H:=PostE.val p (Ext.refl s) rfl rfl;have g:=zWT (ng:=true) (Q:=Q) s h1 h2 hz.1 hz.2 q;unfold rNeU;split
  ·rw[zJZ h1,zJZ h2,Dt.eq,zGP]at q;exact q
  ·rw[zJY h1,zJY h2,Dt.eq,zGP]at q;exact q
  ·rw[zOS h1,zOS h2,Dt.eq,zGP]at q;exact q
  ·exact g
 ·exact p.elim
def zP2(n:Nat)(i:Int):Mi.ixA n i=ixN n i:=rfl
def zWO{α:Type}(xs:List α)(i:Int):Mi.itA xs i=atI xs i:=rfl
def zX9{G:Hp}{ds:List Dt}{xs:List V}{i:Int}{d:Dt}(r:RepL G ds xs)(h:Mi.itA ds i=some d):∃x,atI xs i=some x/\Rep G d x:=by
 rw[zWO]at h;unfold atI at h ⊢;rw[r.length];cases e:ixN ds.length i with
 |none=>rw[e]at h;cases h
 |some j=>
  rw[e]at h;have h':ds[j]?=some d:=h;have hj:j<xs.length:=by rw[r.length];exact(qA2.mp h').1
  exact⟨xs[j],by simp[hj],zCK r h' (by simp[hj])⟩
def zBI:ROp (rIxU Kc.K) Mi.ixD 0:=by
 intro mg E G H d e x y Q s h1 h2 p;cases e with
 |int i=>
  cases(show y=.int i from h2)
  cases d with
  |lst ds=>
   obtain⟨a,xs,rfl,ha,ra⟩:=h1;cases er:Mi.itA ds i with
   |none=>rw[Mi.ixD,er]at p;exact p.elim
   |some c=>
    rw[Mi.ixD,er]at p;obtain⟨v,e1,r1⟩:=zX9 ra er;exact⟨xs,v,.inl (SqL.of (s _ _ ha)),e1,PostE.kept p (Ext.refl s) r1⟩
  |tup ds=>
   obtain⟨a,xs,rfl,ha,ra⟩:=h1;cases er:Mi.itA ds i with
   |none=>rw[Mi.ixD,er]at p;exact p.elim
   |some c=>
    rw[Mi.ixD,er]at p;obtain⟨v,e1,r1⟩:=zX9 ra er;exact⟨xs,v,.inr (SqT.of (s _ _ ha)),e1,PostE.kept p (Ext.refl s) r1⟩
  |scr ns=>
   obtain⟨a,rfl,ha⟩:=h1;cases er:Mi.itA ns i with
   |none=>rw[Mi.ixD,er]at p;exact p.elim
   |some c=>
    rw[Mi.ixD,er]at p;refine⟨ns.map V.int,.int c,(zFO s ha).old,?_,PostE.kept p (Ext.refl s) rfl⟩;rw[zWO]at er;unfold atI at er ⊢;rw[qAg];cases e:ixN ns.length i with
    |none=>rw[e]at er;cases er
    |some j=>
     rw[e]at er;have er':ns[j]?=some c:=er;show(ns.map V.int)[j]?=some (.int c);rw[qAd,er'];rfl
  |str z=>
   cases(show x=.str z from h1)
   rw[Mi.ixD]at p;by_cases hz:z.length<=100000
   ·rw[if_pos hz]at p;cases er:Mi.itA z.cps.toList i with
    |none=>rw[er]at p;exact p.elim
    |some c=>rw[er]at p;exact⟨c,big' hz,er,PostE.kept p (Ext.refl s) rfl⟩
   ·rw[if_neg hz]at p;exact p.elim
  |_=>exact p.elim
 |_=>cases d<;>exact p.elim
def zDJ{G:Hp}{d:Dt}{vs:List V}(h:RepL G [d] vs):∃x,vs=[x]/\Rep G d x:=by
 obtain⟨x,q,rfl,a,b⟩:=h;cases(show q=[] from b)
 exact⟨x,rfl,a⟩
def zXY{G:Hp}{d e:Dt}{vs:List V}(h:RepL G [d,e] vs):∃x y,vs=[x,y]/\Rep G d x/\Rep G e y:=by
 obtain⟨x,q,rfl,a,b⟩:=h;obtain⟨y,rfl,c⟩:=zDJ b;exact⟨x,y,rfl,a,c⟩
def zBX:CBi (zXZ Kc.K) Mi.lenD n:=by
 intro mg E G H ds vs Q s h p;cases ds with
 |nil=>exact p.elim
 |cons a0 r0=>
  cases r0 with
  |cons _ _=>cases a0<;>exact p.elim
  |nil=>
   cases a0 with
   |lst es=>
    obtain⟨x,rfl,a,xs,rfl,ha,ra⟩:=zDJ h;exact⟨xs,.inl (SqL.of (s _ _ ha)),by rw[ra.length];exact PostE.val p (Ext.refl s) rfl rfl⟩
   |tup es=>
    obtain⟨x,rfl,a,xs,rfl,ha,ra⟩:=zDJ h;exact⟨xs,.inr (SqT.of (s _ _ ha)),by rw[ra.length];exact PostE.val p (Ext.refl s) rfl rfl⟩
   |scr ns=>
    obtain⟨x,rfl,a,rfl,ha⟩:=zDJ h;refine⟨ns.map V.int,(zFO s ha).old,?_⟩;rw[qAg];exact PostE.val p (Ext.refl s) rfl rfl
   |str z=>
    obtain⟨x,rfl,hx⟩:=zDJ h;cases(show x=.str z from hx)
    rw[Mi.lenD]at p;by_cases hz:z.length<=100000
    ·rw[if_pos hz]at p;exact⟨big' hz,PostE.val p (Ext.refl s) rfl rfl⟩
    ·rw[if_neg hz]at p;exact p.elim
   |_=>exact p.elim
def zCX{G:Hp}:∀(ns:List Int),RepL G (ns.map Dt.int) (ns.map V.int)
 |[]=>rfl
 |_::r=>⟨_,_,rfl,rfl,zCX r⟩
def zGO:CBi (zJ4 Kc.K) Mi.listD 1:=by
 intro mg E G H ds vs Q s h p;cases ds with
 |nil=>exact p.elim
 |cons a0 r0=>
  cases r0 with
  |cons _ _=>cases a0<;>exact p.elim
  |nil=>
   cases a0 with
   |lst es=>
    obtain⟨x,rfl,a,xs,rfl,ha,ra⟩:=zDJ h;exact .inl ⟨xs,.inl (SqL.of (s _ _ ha)),fun l hl=>PostE.lst p (Ext.refl s) ra hl⟩
   |tup es=>
    obtain⟨x,rfl,a,xs,rfl,ha,ra⟩:=zDJ h;exact .inl ⟨xs,.inr (SqT.of (s _ _ ha)),fun l hl=>PostE.lst p (Ext.refl s) ra hl⟩
   |scr ns=>
    obtain⟨x,rfl,a,rfl,ha⟩:=zDJ h;exact .inl ⟨ns.map V.int,(zFO s ha).old,fun l hl=>PostE.lst p (Ext.refl s) (zCX ns) hl⟩
   |_=>exact p.elim
def zU3{G:Hp}(lo:Int)(k:Nat):RepL G (Mi.nums lo k) (zI1 lo k):=by
 unfold Mi.nums zI1;refine zFA (by simp) fun q d x h1 h2=>?_
 rw[qAd]at h1 h2;cases e:(qA9 k)[q]? with
 |none=>rw[e]at h1;cases h1
 |some j=>rw[e]at h1 h2;cases h1;cases h2;rfl
def zMF{K:qA0}(A:DA mg E t m 0):DE mg E (tCB (zJ4 K) (zE1 (tCB zRI t) tNil)) (Mi.eBi Mi.rangeD m) 1:=by
 intro G H σ ρ Q s w p;refine A.step errE s w p fun ds vs G1 H1 S T _ fr o p1=>?_
 have p2:=PostE.from p1 fr.ext;have r:=o.repL;have s1:=fr.ext.in';have fin:∀(lo hi:Int),(-4611686018427387904<=lo/\lo<4611686018427387904/\-4611686018427387904<=hi/\hi<4611686018427387904)->hi-lo<=100000->PostE mg E G1 H1 1 (okR (.lst (Mi.nums lo (hi-lo).toNat))) Q ->
   ∀q,H1 q=none->zJ4 K [.ref q] (upd H1 q (.rng lo hi)) Q:=by
  intro lo hi hb hz pp q hq;refine .inr ⟨lo,hi,zA8,⟨by lia,by lia,by lia,by lia⟩,by lia,fun l hl=>?_⟩;have sn:=L2.same_new hq (.rng lo hi);exact PostE.lst pp (Ext.same s1 sn) (zU3 lo _) hl
 cases ds with
 |nil=>exact p2.elim
 |cons a0 r0=>
  cases a0 with
  |int i=>
   cases r0 with
   |nil=>
    obtain⟨x,rfl,hx⟩:=zDJ r;cases(show x=.int i from hx)
    rw[Mi.rangeD]at p2;split at p2
    ·rename_i hz
     intro q hq;refine fin 0 i ⟨by decide,by decide,hz.1.1,hz.1.2⟩ (by lia) ?_ q hq;rw[Int.sub_zero];exact p2
    ·exact p2.elim
   |cons b0 r1=>
    cases r1 with
    |cons _ _=>cases b0<;>exact p2.elim
    |nil=>
     cases b0 with
     |int j=>
      obtain⟨x,y,rfl,hx,hy⟩:=zXY r;cases(show x=.int i from hx)
      cases(show y=.int j from hy)
      rw[Mi.rangeD]at p2;split at p2
      ·rename_i hz
       exact fun q hq=>fin i j hz.1 hz.2 p2 q hq
      ·exact p2.elim
     |_=>exact p2.elim
  |_=>rcases r0 with _|⟨_,_|_⟩<;>exact p2.elim
def zcV{G H:Hp}{d:Dt}{x:V}(s:Same G H)(h:Rep G d x)(hd:Mi.tyD d≠""):zHJ H x=some (Mi.tyD d):=by
 cases d with
 |non=>cases h;rfl
 |bl _=>cases h;rfl
 |int _=>cases h;rfl
 |str _=>cases h;rfl
 |lst _=>obtain⟨a,xs,rfl,ha,_⟩:=h;unfold zHJ;dsimp only;rw[s _ _ ha];rfl
 |tup _=>obtain⟨a,xs,rfl,ha,_⟩:=h;unfold zHJ;dsimp only;rw[s _ _ ha];rfl
 |scr _=>exact absurd rfl hd
 |exc _ _ _=>exact absurd rfl hd
 |fn _ _=>exact absurd rfl hd
 |ins _ _=>exact absurd rfl hd
 |dct _=>exact absurd rfl hd
def zMG{nm:String}(hn:nm∈["int","bool","str","list","tuple","dict"])(A:DE mg E ta ma k):DE mg E (tCB zaH (zE1 ta (zE1 (tC (.ty nm)) tNil))) (Mi.eIsi nm ma) n:=by
 intro G H σ ρ Q s w p;refine(zBE A).step errE s w p fun d v G1 H1 S _ fr o p1=>?_
 have p2:=PostE.from p1 fr.ext;unfold Mi.isiD at p2
 split at p2
 ·exact p2.elim
 ·rename_i hd
  exact⟨Mi.tyD d,zcV fr.ext.in' o hd,hn,PostE.val p2 (Ext.refl fr.ext.in') rfl rfl⟩
end
section
variable[Kc]
def ItOk(J:It)(G:Hp)(ds:List Dt):Prop:=∀(i:Nat)(G1 H1:Hp),Same G G1->Same G1 H1->(i<ds.length->J.go i H1)/\(ds.length<=i->J.stop i H1)/\∀x H2 d,ds[i]?=some d->J.yld i H1 x H2->∃G2,Ext G1 H1 G2 H2/\Rep G2 d x
def zTE(ind:Bool)(G:Hp):Hp:=if ind=true then(fun _=>none)else G
def zcJ(mg:Str->Option Value)(E:XK)(G H:Hp)(ind:Bool)(r:R (List Dt))(Q:It->Hp->Prop):Prop:=match r with
 |none=>False
 |some (.error x)=>∀c da G' H',Ext G H G' H'->XRep mg x c da G' H'->E c da H'
 |some (.ok ds)=>∀J G' H',Ext G H G' H'->ItOk J (zTE ind G') ds->Q J H'
def DI(mg:Str->Option Value)(E:XK)(t:TI)(m:IM)(ind:Bool):Prop:=∀(G H:Hp)(σ:St)(ρ:Rh)(Q:It->Hp->Prop),Same G H->View G σ ρ->zcJ mg E G H ind (m ρ) Q->t σ H Q
section
variable{mg:Str->Option Value}{E:XK}{n k:Nat}{te:TE}{me:EM}{t:TA}{m:AM}{ind:Bool}
def errI{G H:Hp}{Q:It->Hp->Prop}:Err mg E G H (fun r=>zcJ mg E G H ind r Q):=⟨fun h=>h,fun _ h=>h⟩
def errB{G H:Hp}{α β:Type}{P:R β->Prop}(e:Err mg E G H P)(g:α->R β):Err mg E G H (fun r=>P (zA3 r g)):=⟨fun h=>e.no h,fun x h=>e.er x h⟩
def DI.step{β:Type}{t:TI}{m:IM}(D:DI mg E t m ind){G H:Hp}{σ:St}{ρ:Rh}{Q:It->Hp->Prop}{P:R β->Prop}{f:List Dt->R β}(hE:Err mg E G H P)(s:Same G H)(w:View G σ ρ)(p:P (zA3 (m ρ) f))
  (h:∀ds J G' H',m ρ=okR ds->Ext G H G' H'->ItOk J (zTE ind G') ds->P (f ds)->Q J H'):t σ H Q:=by
 refine D G H σ ρ Q s w ?_;cases e:m ρ with
 |none=>rw[e]at p;exact hE.no p
 |some r=>
  rw[e]at p;cases r with
  |error x=>exact hE.er x p
  |ok ds=>exact fun J G' H' x i=>h ds J G' H' e x i p
def zWM{K:qA0}{G:Hp}{a:Addr}{xs:List V}{ds:List Dt}(ha:SqL K G a xs)(r:RepL G ds xs):ItOk (Itl K a) G ds:=by
 intro i G1 H1 s1 s2;have hS:SqL K H1 a xs:=(s1.trans s2).seq ha;refine⟨fun hi=>⟨xs,xs[i]'(by rw[r.length];exact hi),hS,by simp⟩,fun hi=>⟨xs,hS,by rw[r.length];exact hi⟩,fun x H2 d hd hy=>?_⟩;obtain⟨rfl,hy⟩:=hy;exact⟨G1,Ext.refl s2,Rep.mono s1 (zCK r hd (hy xs hS))⟩
def zWL{K:qA0}{G:Hp}{a:Addr}{xs:List V}{ds:List Dt}(ha:SqT K G a xs)(r:RepL G ds xs):ItOk (Itt K a) G ds:=by
 intro i G1 H1 s1 s2;have hS:SqT K H1 a xs:=zLB (s1.trans s2) ha;refine⟨fun hi=>⟨xs,xs[i]'(by rw[r.length];exact hi),hS,by simp⟩,fun hi=>⟨xs,hS,by rw[r.length];exact hi⟩,fun x H2 d hd hy=>?_⟩;obtain⟨rfl,hy⟩:=hy;exact⟨G1,Ext.refl s2,Rep.mono s1 (zCK r hd (hy xs hS))⟩
def zbP{G:Hp}(lo:Int)(k:Nat):ItOk (Itr lo k) G (Mi.nums lo k):=by
 intro i G1 H1 s1 s2;have hl:(Mi.nums lo k).length=k:=by simp[Mi.nums]
 refine⟨fun hi=>by rw[hl]at hi;exact hi,fun hi=>by rw[hl]at hi;exact hi,fun x H2 d hd hy=>?_⟩;obtain⟨rfl,rfl⟩:=hy;refine⟨G1,Ext.refl s2,?_⟩;unfold Mi.nums at hd;rw[qAd]at hd;cases e:(qA9 k)[i]? with
 |none=>rw[e]at hd;cases hd
 |some j=>
  rw[e]at hd;cases hd;have hj:j=i:=by
   obtain⟨h1,h2⟩:=qA2.mp e;rw[qEo]at h2;exact h2.symm
  subst hj;rfl
def zME(A:DA mg E t m 0):DI mg E (zbR t) (Mi.iR1 m) true:=by
 intro G H σ ρ Q s w p;refine A.step errI s w p fun ds vs G1 H1 S T _ fr o p1=>?_
 have r:=o.repL;cases ds with
 |nil=>exact qA4 p1
 |cons hd1 tl1=>
  cases hd1 with
  |int j=>
   cases tl1 with
   |nil=>
    obtain⟨x,rfl,hx⟩:=zDJ r;cases(show x=.int j from hx)
    dsimp only at p1;split at p1
    ·rename_i hz
     exact⟨j,rfl,by lia,by lia,p1 _ G1 H1 fr.ext (zbP 0 _)⟩
    ·exact p1.elim
   |cons _ _=>exact qA4 p1
  |_=>exact qA4 p1
def zIC:∀(ds:List Dt)(n:Nat),(Mi.enumD n ds).length=ds.length
 |[],_=>rfl
 |_::r,n=>by rw[Mi.enumD,qAn,qAn,zIC r]
def zID:∀(ds:List Dt)(n i:Nat)(d:Dt),(Mi.enumD n ds)[i]?=some d->∃e,ds[i]?=some e/\d=.tup [.int ((n+i:Nat):Int),e]
 |[],_,_,_,h=>by simp[Mi.enumD]at h
 |x::r,n,0,d,h=>by simp[Mi.enumD]at h;exact⟨x,by simp,by rw[<- h];rfl⟩
 |x::r,n,i+1,d,h=>by
  rw[Mi.enumD]at h;obtain⟨e,h1,h2⟩:=zID r (n+1) i d (by simpa using h);exact⟨e,by simpa using h1,by rw[h2,show n+1+i=n+(i+1) by lia]⟩
def Ext.new{G H:Hp}(s:Same G H){T:Addr}(hT:H T=none)(o:HO):Ext G H (upd G T o) (upd H T o):=by
 refine⟨L2.same_new (s.free hT) o,L2.same_new hT o,fun b u e=>?_,fun b hb=>zA5 fun z=>hb (z▸hT)⟩
 by_cases z:b=T
 ·subst z;rw[zA8]at e ⊢;exact e
 ·rw[zA5 z]at e ⊢;exact s _ _ e
def zWN{K:qA0}{G:Hp}{a:Addr}{xs:List V}{ds:List Dt}(ha:G a=some (.lst xs))(r:RepL G ds xs):ItOk (Ite K a) G (Mi.enumD 0 ds):=by
 intro i G1 H1 s1 s2;have hS:SqL K H1 a xs:=SqL.of (s2 _ _ (s1 _ _ ha));rw[zIC];refine⟨fun hi=>⟨xs,xs[i]'(by rw[r.length];exact hi),hS,by simp⟩,fun hi=>⟨xs,hS,by rw[r.length];exact hi⟩,fun x H2 d hd hy=>?_⟩;obtain⟨T,y,rfl,hT,rfl,hy⟩:=hy;obtain⟨e,h1,rfl⟩:=zID ds 0 i d hd;have x1:=Ext.new s2 hT (.tup [.int i,y]);refine⟨_,x1,T,_,rfl,zA8,_,_,rfl,?_,_,_,rfl,Rep.mono (s1.trans x1.g) (zCK r h1 (hy xs hS)),rfl⟩;show V.int (i:Int)=.int ((0+i:Nat):Int);rw[qCj]
def zc2{K:qA0}(A:DA mg E t m 0):DI mg E (zYT K t) (Mi.iEn m) false:=by
 intro G H σ ρ Q s w p;refine A.step errI s w p fun ds vs G1 H1 S T _ fr o p1=>?_
 have r:=o.repL;cases ds with
 |nil=>exact qA4 p1
 |cons hd1 tl1=>
  cases hd1 with
  |lst es=>
   cases tl1 with
   |nil=>
    obtain⟨x,rfl,a,xs,rfl,ha,ra⟩:=zDJ r;exact⟨⟨xs,SqL.of (fr.ext.in' _ _ ha)⟩,p1 _ G1 H1 fr.ext (zWN ha ra)⟩
   |cons _ _=>exact qA4 p1
  |_=>exact qA4 p1
def zHQ:St->List (Nat×V)->St
 |σ,[]=>σ
 |σ,(i,v)::r=>zHQ (σ.set i (some v)) r
inductive BsRep(G:Hp):List (Nat×Dt)->List (Nat×V)->Prop
 |nil:BsRep G [] []
 |cons {i d v bs ws}:Rep G d v->BsRep G bs ws->BsRep G ((i,d)::bs) ((i,v)::ws)
def View.set{G:Hp}{σ:St}{ρ:Rh}{i:Nat}{d:Dt}{v:V}(w:View G σ ρ)(r:Rep G d v):View G (σ.set i (some v)) (ρ.set i (some d)):=by
 refine⟨by simp[w.len],fun j e h=>?_,w.tab⟩;have hj:j<ρ.length:=by
  have:=(qA2.mp h).1;simpa using this
 by_cases z:i=j
 ·subst z;rw[qAo hj]at h;cases h;exact⟨v,qAo (by rw[<- w.len];exact hj),r⟩
 ·rw[qAq z]at h;obtain⟨u,h1,h2⟩:=w.at j e h;exact⟨u,by rw[qAq z];exact h1,h2⟩
def View.sets{G:Hp}{bs ws}(h:BsRep G bs ws):∀{σ:St}{ρ:Rh},View G σ ρ->View G (zHQ σ ws) (zAR ρ bs):=by
 induction h with
 |nil=>exact fun w=>w
 |cons r _ ih=>exact fun w=>ih (w.set r)
def TgOk(g:TG)(tg:Tg):Prop:=∀(G H:Hp)(σ:St)(d:Dt)(x:V)(bs:List (Nat×Dt))(Q:St->Hp->Prop),Same G H->Rep G d x->zAU tg d=some bs->(∀ws,BsRep G bs ws->Q (zHQ σ ws) H)->g x σ H Q
def zTK(g:TGs)(is:List Nat):Prop:=∀(G H:Hp)(σ:St)(ds:List Dt)(xs:List V)(Q:St->Hp->Prop),RepL G ds xs->ds.length=is.length->(∀ws,BsRep G (is.zip ds) ws->Q (zHQ σ ws) H)->g xs σ H Q
def zBT(i:Nat):TgOk (zIW i) (.one i):=by
 intro G H σ d x bs Q s r e h;cases e;exact h [(i,x)] (.cons r .nil)
def zEE:zTK gNil []:=by
 intro G H σ ds xs Q r hl h;cases ds with
 |nil=>cases(show xs=[] from r);exact⟨rfl,h [] .nil⟩
 |cons _ _=>simp at hl
def zBL(i:Nat){g:TGs}{is:List Nat}(hg:zTK g is):zTK (zbT (zIW i) g) (i::is):=by
 intro G H σ ds xs Q r hl h;cases ds with
 |nil=>simp at hl
 |cons d ds=>
  obtain⟨x,q,rfl,a,b⟩:=r;exact⟨x,q,rfl,hg G H _ ds q Q b (by simpa using hl) fun ws hw=>h ((i,x)::ws) (.cons a hw)⟩
def zHL{K:qA0}{g:TGs}{is:List Nat}{k:Nat}(hg:zTK g is)(hk:is.length=k):TgOk (gTup K k g) (.tup is):=by
 intro G H σ d x bs Q s r e h;cases d with
 |tup ds=>
  obtain⟨a,xs,rfl,ha,ra⟩:=r;rw[zAU]at e;by_cases hz:ds.length=is.length
  ·rw[if_pos hz]at e;cases e;exact⟨a,xs,rfl,SqT.of (s _ _ ha),by rw[ra.length,hz,hk],hg G H σ ds xs Q ra hz h⟩
  ·rw[if_neg hz]at e;cases e
 |_=>simp[zAU]at e
def zL9:∀(ws:List (Nat×V))(σ own:St),(∀p∈ws,σ.length<=p.1)->∃own':St,own'.length=own.length/\zHQ (σ++own) ws=σ++own'
 |[],σ,own,_=>⟨own,rfl,rfl⟩
 |(i,v)::r,σ,own,h=>by
  have hi:σ.length<=i:=h (i,v) (by simp);rw[zHQ,qFo _ _ hi];obtain⟨o,h1,h2⟩:=zL9 r σ (own.set (i-σ.length) (some v)) fun p hp=>h p (by simp[hp])
  exact⟨o,by rw[h1,qGy],h2⟩
def BsRep.idx{G:Hp}{bs ws}(h:BsRep G bs ws):ws.map (·.1)=bs.map (·.1):=by
 induction h with
 |nil=>rfl
 |cons _ _ ih=>simp[ih]
def zTD{tg:Tg}{d:Dt}{bs:List (Nat×Dt)}(h:zAU tg d=some bs):∀i∈bs.map (·.1),i∈tg.idx:=by
 cases tg with
 |one i=>cases h;simp[Tg.idx]
 |tup is=>
  cases d with
  |tup ds=>
   rw[zAU]at h;split at h
   ·cases h;intro i hi;obtain⟨p,hp,e⟩:=qBq.mp hi;rw[<- e];obtain⟨a,b⟩:=p;exact(qD7 hp).1
   ·cases h
  |_=>simp[zAU]at h
def zC5{wi:TI}{g:TG}{tif:TT}{it:IM}{tg:Tg}{c:TM}(I:DI mg E wi it ind)(hT:TgOk g tg)(C:DT mg E tif c)(B:DE mg E te me n):DE mg E (zXN wi k g tif te) (Mi.eComp it k tg c me) (n+1):=by
 intro G H σ ρ Q s w p;refine I.step errE s w p fun ds J G1 H1 _ x1 io p1=>?_
 by_cases hz:ds.length<=100000/\(tg.idx.all fun i=>decide (ρ.length<=i))=true
 case neg=>rw[if_neg hz]at p1;exact p1.elim
 rw[if_pos hz]at p1;obtain⟨hz,hix⟩:=hz;have hb1:Same (zTE ind G1) G1:=by
  unfold zTE;split
  ·exact fun b o e=>by cases e
  ·exact Same.refl _
 refine⟨fun i m acc H'=>m=ds.length-i/\i<=ds.length/\∃G' as S T,Fr G H G' H' S/\Same G1 G'/\OwnA G' H' n S as acc T/\as.length<=i/\PostE mg E G H (n+1) (zA3 (Mi.compGo ρ k tg c me (ds.drop i) as) fun es=>okR (.lst es)) Q,
  ⟨_,rfl,qAv _,G1,[],fun _=>False,fun _ _=>False,⟨x1,fun _ z=>z.elim⟩,Same.refl _,⟨rfl,fun q d x h=>by simp at h,fun _ _ _ z=>z.elim,fun _ _ z=>z.elim⟩,qA5 _,by rw[qCi];exact p1⟩,?_⟩
 rintro i m acc H' ⟨rfl,hi,G',as,S,T,fr,sg,o,hl,p⟩
 obtain⟨j1,j2,j3⟩:=io i G' H' (hb1.trans sg) fr.ext.in';by_cases hlt:i<ds.length
 ·refine .inr ⟨j1 hlt,by rw[o.len];exact L2.big (by lia),fun acc' H''=>ds.length-(i+1)=ds.length-(i+1)/\i+1<=ds.length/\∃G' as S T,Fr G H G' H'' S/\Same G1 G'/\OwnA G' H'' n S as acc' T/\as.length<=i+1/\PostE mg E G H (n+1) (zA3 (Mi.compGo ρ k tg c me (ds.drop (i+1)) as) fun es=>okR (.lst es)) Q,
   fun acc' H'' q=>⟨ds.length-(i+1),by lia,q⟩,fun x H2 hy=>?_⟩
  have hd:ds[i]?=some ds[i]:=qA6 hlt;obtain⟨G2,x2,r2⟩:=j3 x H2 ds[i] hd hy;rw[qB0 hlt,Mi.compGo]at p;cases eb:zAU tg ds[i]with
  |none=>rw[eb]at p;exact p.elim
  |some bs=>
   rw[eb]at p;dsimp only at p;refine hT G2 H2 _ _ x bs _ x2.in' r2 eb fun ws hb=>?_
   have hsl:∀q∈ws,σ.length<=q.1:=fun q hq=>by
    have h1:q.1∈bs.map (·.1):=by rw[<- hb.idx];exact qG2 hq
    have h2:=qEb.mp hix q.1 (zTD eb q.1 h1);rw[<- w.len];exact of_decide_eq_true h2
   obtain⟨own,ho1,ho2⟩:=zL9 ws σ (qA7 k none) hsl;refine⟨own,by rw[ho1,qD8],ho2,?_⟩;have x02:=fr.ext.trans x2;have w2:View G2 (zHQ (σ++qA7 k none) ws) (zAR (ρ++qA7 k none) bs):=by
    refine View.sets hb ⟨by simp[w.len],fun j d h=>?_,w.tab.trans x02.g⟩
    by_cases hj:j<ρ.length
    ·rw[qAf hj]at h;obtain⟨v,a,b⟩:=w.at j d h;exact⟨v,by rw[qAf (by rw[<- w.len];exact hj)];exact a,Rep.mono x02.g b⟩
    ·rw[qAc (by lia),qCf]at h
     split at h<;>cases h
   refine C.step ((errB errE _).from x02) x2.in' w2 p fun b H3 _ s3 p3=>?_
   have x3:Ext G2 H2 G2 H3:=Ext.same x2.in' s3;have x03:=x02.trans x3;have newS:∀a,S a->H a=none/\G2 a=none/\H3 a≠none:=fun a ha=>by
    obtain⟨n1,n2,n3⟩:=fr.new a ha;exact⟨n1,(x2.old a n3).trans n2,s3.some (x2.h.some n3)⟩
   have own3:OwnA G2 H3 n S as acc T:=⟨o.len,fun q d y h1 h2=>(o.own q d y h1 h2).mono x2.g (x2.h.trans s3),o.dis,o.sub⟩
   cases b with
   |false=>exact⟨rfl,hlt,G2,as,S,T,⟨x03,newS⟩,sg.trans x2.g,own3,by lia,p3⟩
   |true=>
    refine B.step ((errB errE _).from x03) x3.in' w2 p3 fun e v G4 H4 S4 _ fr4 o4 p4=>?_
    have ap:∀q b,T q b->S4 b->False:=fun q b h1 h2=>(newS b (o.sub q b h1)).2.2 (fr4.new b h2).1
    refine⟨rfl,hlt,G4,as++[e],fun a=>S a\/S4 a,fun q b=>(q<as.length/\T q b)\/(q=as.length/\S4 b),⟨x03.trans fr4.ext,fun a ha=>?_⟩,sg.trans (x2.g.trans fr4.ext.g),⟨by simp[o.len],fun q d y h1 h2=>?_,fun q r b h1 h2=>?_,fun q b h=>?_⟩,by simp;lia,p4⟩
    ·rcases ha with ha|ha
     ·obtain⟨n1,n2,n3⟩:=newS a ha;exact⟨n1,(fr4.ext.old a n3).trans n2,fr4.ext.h.some n3⟩
     ·obtain⟨n1,n2,n3⟩:=fr4.new a ha;exact⟨x03.h.free n1,n2,n3⟩
    ·by_cases hq:q<as.length
     ·rw[qAf hq]at h1;rw[qAf (by rw[o.len];exact hq)]at h2;exact((own3.own q d y h1 h2).mono fr4.ext.g fr4.ext.h).sub fun b z=>.inl ⟨hq,z⟩
     ·rw[qAc (by lia)]at h1;rw[qAc (by rw[o.len];lia),o.len]at h2;have hq0:q-as.length=0:=by
       have:=(qA2.mp h1).1;simp at this;lia
      rw[hq0]at h1 h2;simp at h1 h2;subst h1;subst h2;exact o4.sub fun b z=>.inr ⟨by lia,z⟩
    ·rcases h1 with⟨a1,t1⟩|⟨a1,t1⟩<;>rcases h2 with⟨a2,t2⟩|⟨a2,t2⟩
     ·exact o.dis q r b t1 t2
     ·exact(ap q b t1 t2).elim
     ·exact(ap r b t2 t1).elim
     ·lia
    ·rcases h with⟨_,z⟩|⟨_,z⟩
     ·exact .inl (o.sub q b z)
     ·exact .inr z
 ·have e:i=ds.length:=by lia
  subst e;refine .inl ⟨j2 (qA5 _),fun D hD=>?_⟩;rw[qF9,Mi.compGo]at p;exact p (.ref D) G' _ _ (fr.add hD _) ⟨D,acc,T,rfl,zA8,o.kids (fun b hb=>(fr.new b hb).2.2) hD _⟩
end
end
section
variable[Kc]
structure Sat(G0 H0 S0:Hp)(σ:St)(ρ:Ro)(G H:Hp)(As:Nat->Addr->Prop):Prop where
 ext:Ext G0 H0 G H
 stb:Same S0 G
 tab:Same (tabK Kc.K) G0
 len:ρ.length=σ.length
 «at»:∀(i:Nat)(d:Dt)(n:Nat),ρ[i]?=some (some (d,n))->∃v,σ[i]?=some (some v)/\Own G H n (As i) d v
 dis:∀i j a,As i a->As j a->i=j
 new:∀i a,As i a->H0 a=none/\G a=none/\H a≠none
section
variable{G0 H0 S0:Hp}{σ:St}{ρ:Ro}{G H:Hp}{As:Nat->Addr->Prop}
def Sat.grow(a:Sat G0 H0 S0 σ ρ G H As){H':Hp}(s:Same H H'):Sat G0 H0 S0 σ ρ G H' As:=
 ⟨a.ext.trans (Ext.same a.ext.in' s),a.stb,a.tab,a.len,fun i d n e=>let⟨v,h1,h2⟩:=a.at i d n e;⟨v,h1,h2.mono (Same.refl _) s⟩,a.dis,fun i b h=>let⟨n1,n2,n3⟩:=a.new i b h;⟨n1,n2,s.some n3⟩⟩
def Sat.wider(a:Sat G0 H0 S0 σ ρ G H As){G' H':Hp}(x:Ext G H G' H'):Sat G0 H0 S0 σ ρ G' H' As:=
 ⟨a.ext.trans x,a.stb.trans x.g,a.tab,a.len,fun i d n e=>let⟨v,h1,h2⟩:=a.at i d n e;⟨v,h1,h2.mono x.g x.h⟩,a.dis,fun i b h=>let⟨n1,n2,n3⟩:=a.new i b h;⟨n1,(x.old b n3).trans n2,x.h.some n3⟩⟩
def Sat.full(a:Sat G0 H0 S0 σ ρ G H As):∃J,Ext G0 H0 J H/\Same G J/\View J σ (full ρ):=by
 obtain⟨s1,s2⟩:=zFV (S:=fun b=>∃i,As i b) a.ext.in';refine⟨over G H fun b=>∃i,As i b,⟨a.ext.g.trans s1,a.ext.h,s2,fun b hb=>?_⟩,s1,by simp[Mi.full,a.len],fun i d e=>?_,a.tab.trans (a.ext.g.trans s1)⟩
 ·have z:¬ ∃i,As i b:=fun⟨i,z⟩=>hb (a.new i b z).1
  rw[zE6 z];exact a.ext.old b hb
 ·unfold Mi.full at e;rw[qAd]at e;cases e1:ρ[i]? with
  |none=>rw[e1]at e;cases e
  |some o=>
   rw[e1]at e;cases o with
   |none=>cases e
   |some sl=>
    obtain⟨d',n⟩:=sl;cases e;obtain⟨v,h1,h2⟩:=a.at i _ n e1;exact⟨v,h1,h2.rep s1 fun b o hb e=>by rw[zGK ⟨i,hb⟩];exact e⟩
def Sat.put(a:Sat G0 H0 S0 σ ρ G H As){i n:Nat}{d:Dt}{v:V}{S:Addr->Prop}(o:Own G H n S d v)(hS:∀b,S b->H0 b=none/\G b=none/\H b≠none)(hd:∀j b,j≠i->As j b->S b->False) :
  Sat G0 H0 S0 (σ.set i (some v)) (ρ.set i (some (d,n))) G H (fun j=>if j=i then S else As j):=by
 refine⟨a.ext,a.stb,a.tab,by simp[a.len],fun j e k h=>?_,fun j l b h1 h2=>?_,fun j b h=>?_⟩
 ·have hj:j<ρ.length:=by
   have:=(qA2.mp h).1;simpa using this
  by_cases z:i=j
  ·subst z;rw[qAo hj]at h;cases h;exact⟨v,qAo (by rw[<- a.len];exact hj),by rw[if_pos rfl];exact o⟩
  ·rw[qAq z]at h;obtain⟨u,h1,h2⟩:=a.at j e k h;exact⟨u,by rw[qAq z];exact h1,by rw[if_neg (fun q=>z q.symm)];exact h2⟩
 ·try dsimp only at h1 h2
  by_cases z1:j=i
  ·by_cases z2:l=i
   ·rw[z1,z2]
   ·rw[if_pos z1]at h1;rw[if_neg z2]at h2;exact(hd l b z2 h2 h1).elim
  ·by_cases z2:l=i
   ·rw[if_neg z1]at h1;rw[if_pos z2]at h2;exact(hd j b z1 h1 h2).elim
   ·rw[if_neg z1]at h1;rw[if_neg z2]at h2;exact a.dis j l b h1 h2
 ·try dsimp only at h
  by_cases z1:j=i
  ·rw[if_pos z1]at h;exact hS b h
  ·rw[if_neg z1]at h;exact a.new j b h
def Sat.set(a:Sat G0 H0 S0 σ ρ G H As){H':Hp}{i n:Nat}{d:Dt}{v:V}{S:Addr->Prop}(s:Same H H')(o:Own G H' n S d v)(hS:∀b,S b->H b=none/\G b=none/\H' b≠none) :
  Sat G0 H0 S0 (σ.set i (some v)) (ρ.set i (some (d,n))) G H' (fun j=>if j=i then S else As j):=
 (a.grow s).put o (fun b hb=>⟨a.ext.h.free (hS b hb).1,(hS b hb).2⟩) fun j b _ h1 h2=>(a.new j b h1).2.2 (hS b h2).1
def Sat.frz1(a:Sat G0 H0 S0 σ ρ G H As)(i:Nat):∃G1 As1,Sat G0 H0 S0 σ (Mi.frz1 i ρ) G1 H As1:=by
 unfold Mi.frz1;cases e1:ρ[i]? with
 |none=>exact⟨G,As,a⟩
 |some o=>
  cases o with
  |none=>exact⟨G,As,a⟩
  |some sl=>
   obtain⟨d,n⟩:=sl;dsimp only;obtain⟨v,h1,h2⟩:=a.at i d n e1;obtain⟨s1,s2⟩:=zFV (S:=As i) a.ext.in';have x:Ext G0 H0 (over G H (As i)) H:=⟨a.ext.g.trans s1,a.ext.h,s2,fun b hb=>by
    have z:¬As i b:=fun z=>hb (a.new i b z).1
    rw[zE6 z];exact a.ext.old b hb⟩
   have hv:(σ.set i (some v))=σ:=by
    have hi:i<σ.length:=(qA2.mp h1).1;have he:=(qA2.mp h1).2;rw[<- he,qFp]
   have b:Sat G0 H0 S0 σ (ρ.set i (some (d,0))) (over G H (As i)) H (fun j b=>j≠i/\As j b):=by
    refine⟨x,a.stb.trans s1,a.tab,by simp[a.len],fun j e k h=>?_,fun j l b p q=>a.dis j l b p.2 q.2,fun j b p=>?_⟩
    ·have hj:j<ρ.length:=by
      have:=(qA2.mp h).1;simpa using this
     by_cases z:i=j
     ·subst z;rw[qAo hj]at h;cases h;exact⟨v,h1,h2.rep s1 fun b o hb e=>by rw[zGK hb];exact e⟩
     ·rw[qAq z]at h;obtain⟨u,q1,q2⟩:=a.at j e k h;exact⟨u,q1,(q2.mono s1 (Same.refl _)).sub fun b hb=>⟨fun q=>z q.symm,hb⟩⟩
    ·obtain⟨n1,n2,n3⟩:=a.new j b p.2;have z:¬As i b:=fun z=>p.1 (a.dis j i b p.2 z)
     exact⟨n1,by rw[zE6 z];exact n2,n3⟩
   exact⟨_,_,b⟩
def Sat.frzAt:∀(vs:List Nat){ρ:Ro}{G:Hp}{As:Nat->Addr->Prop},Sat G0 H0 S0 σ ρ G H As->∃G1 As1,Sat G0 H0 S0 σ (Mi.frzAt vs ρ) G1 H As1
 |[],_,_,_,a=>⟨_,_,a⟩
 |i::r,_,_,_,a=>by
  obtain⟨G1,As1,b⟩:=a.frz1 i;exact Sat.frzAt r b
def Sat.frz(a:Sat G0 H0 S0 σ ρ G H As):View G σ (Mi.frz ρ):=by
 refine⟨by simp[Mi.frz,a.len],fun i d e=>?_,a.tab.trans a.ext.g⟩;unfold Mi.frz at e;rw[qAd]at e;cases e1:ρ[i]? with
 |none=>rw[e1]at e;cases e
 |some o=>
  rw[e1]at e;cases o with
  |none=>cases e
  |some sl=>
   obtain⟨d',n⟩:=sl;obtain⟨v,h1,h2⟩:=a.at i d' n e1;simp only[qDt,qIb]at e;split at e
   ·rename_i hz
    cases e;rcases hz with hz|hz
    ·subst hz;exact⟨v,h1,h2⟩
    ·exact⟨v,h1,Own.scalar (k:=0) (G2:=G) (H2:=H) (S2:=fun _=>False) h2 hz⟩
   ·cases e
def Sat.store(a:Sat G0 H0 S0 σ ρ G H As){i n:Nat}{d:Dt}{v:V}{p:Addr}{o:HO}{S:Addr->Prop}(hp:As i p)(hv:σ[i]?=some (some v))(w:Own G (upd H p o) n S d v)
  (hS:∀b,S b->As i b\/(H0 b=none/\G b=none/\H b≠none/\∀j,¬As j b)):Sat G0 H0 S0 σ (ρ.set i (some (d,n))) G (upd H p o) (fun j=>if j=i then S else As j):=by
 obtain⟨p1,p2,p3⟩:=a.new i p hp;have hn:∀b,H b≠none->upd H p o b≠none:=fun b hb=>by
  by_cases z:b=p
  ·subst z;rw[zA8];simp
  ·rw[zA5 z];exact hb
 refine⟨⟨a.ext.g,L2.Same.upd a.ext.h p1 o,L2.Same.upd a.ext.in' p2 o,a.ext.old⟩,a.stb,a.tab,by simp[a.len],fun j e k h=>?_,fun j l b h1 h2=>?_,fun j b h=>?_⟩
 ·have hj:j<ρ.length:=by
   have:=(qA2.mp h).1;simpa using this
  by_cases z:i=j
  ·subst z;rw[qAo hj]at h;cases h;exact⟨v,hv,by rw[if_pos rfl];exact w⟩
  ·rw[qAq z]at h;obtain⟨u,h1,h2⟩:=a.at j e k h;exact⟨u,h1,by rw[if_neg (fun q=>z q.symm)];exact h2.upd fun q=>z (a.dis i j p hp q)⟩
 ·have key:∀j b,j≠i->As j b->S b->False:=fun j b hj h1 h2=>by
   rcases hS b h2 with q|⟨_,_,_,q⟩
   ·exact hj (a.dis j i b h1 q)
   ·exact q j h1
  try dsimp only at h1 h2
  by_cases z1:j=i
  ·by_cases z2:l=i
   ·rw[z1,z2]
   ·rw[if_pos z1]at h1;rw[if_neg z2]at h2;exact(key l b z2 h2 h1).elim
  ·by_cases z2:l=i
   ·rw[if_neg z1]at h1;rw[if_pos z2]at h2;exact(key j b z1 h1 h2).elim
   ·rw[if_neg z1]at h1;rw[if_neg z2]at h2;exact a.dis j l b h1 h2
 ·try dsimp only at h
  by_cases z1:j=i
  ·rw[if_pos z1]at h
   rcases hS b h with q|⟨q1,q2,q3,_⟩
   ·obtain⟨n1,n2,n3⟩:=a.new i b q;exact⟨n1,n2,hn b n3⟩
   ·exact⟨q1,q2,hn b q3⟩
  ·rw[if_neg z1]at h;obtain⟨n1,n2,n3⟩:=a.new j b h;exact⟨n1,n2,hn b n3⟩
end
def zJ0(mg:Str->Option Value)(E:XK)(G0 H0 S0:Hp)(L:Nat)(r:R Out)(D:Ends):Prop:=match r with
 |none=>False
 |some (.error x)=>∀c da G' H',Ext G0 H0 G' H'->XRep mg x c da G' H'->E c da H'
 |some (.ok (.nx ρ))=>∀σ G H As,Sat G0 H0 S0 σ ρ G H As->D.nx σ H
 |some (.ok (.bk ρ))=>∀σ G H As,Sat G0 H0 S0 σ ρ G H As->D.bk σ H
 |some (.ok (.ct ρ))=>∀σ G H As,Sat G0 H0 S0 σ ρ G H As->D.ct σ H
 |some (.ok (.rt d))=>∀v G H S,Fr G0 H0 G H S->Own G H L S d v->D.rt v H
def DS(mg:Str->Option Value)(E:XK)(L:Nat)(t:TS)(m:SM):Prop:=∀(G0 H0 S0:Hp)(σ:St)(ρ:Ro)(G H:Hp)(As:Nat->Addr->Prop)(D:Ends),Sat G0 H0 S0 σ ρ G H As->zJ0 mg E G0 H0 S0 L (m ρ) D->t D σ H
section
variable{mg:Str->Option Value}{E:XK}{L n k:Nat}{te:TE}{e:EM}{t u:TS}{m m':SM}
def errS{G0 H0 S0:Hp}{D:Ends}:Err mg E G0 H0 (fun r=>zJ0 mg E G0 H0 S0 L r D):=⟨fun h=>h,fun _ h=>h⟩
def zDH:DS mg E L zZV Mi.sNil:=fun G0 H0 S0 σ ρ G H As D a p=>p σ G H As a
def zAJ(A:DS mg E L t m)(B:DS mg E L u m'):DS mg E L (tSeq t u) (Mi.sSeq m m'):=by
 intro G0 H0 S0 σ ρ G H As D a p;refine A G0 H0 S0 σ ρ G H As _ a ?_;unfold Mi.sSeq at p;cases e:m ρ with
 |none=>rw[e]at p;exact p
 |some r=>
  rw[e]at p;cases r with
  |error x=>exact p
  |ok o=>
   cases o with
   |nx ρ'=>exact fun σ' G' H' As' a'=>B G0 H0 S0 σ' ρ' G' H' As' D a' p
   |rt d=>exact p
   |bk ρ'=>exact p
   |ct ρ'=>exact p
def zFE{tc:TT}{c:TM}(C:DT mg E tc c)(A:DS mg E L t m)(B:DS mg E L u m'):DS mg E L (tIfS tc t u) (Mi.sIf c m m'):=by
 intro G0 H0 S0 σ ρ G H As D a p;obtain⟨J,x,s,w⟩:=a.full;refine C.step (errS.from x) x.in' w p fun b H' _ sH p1=>?_
 cases b with
 |true=>exact A G0 H0 S0 σ ρ G H' As D (a.grow sH) p1
 |false=>exact B G0 H0 S0 σ ρ G H' As D (a.grow sH) p1
def whole{G0 H0 S0:Hp}{σ:St}{ρ:Ro}{G H J G1 H1:Hp}{As:Nat->Addr->Prop}{S:Addr->Prop}{d:Dt}{v:V}(a:Sat G0 H0 S0 σ ρ G H As)(s:Same G J)(fr:Fr J H G1 H1 S)(o:Own G1 H1 n S d v)(hn:n<1000)(hd:d.dep<=n)(hk:d.dep<=k) :
  Own G H1 k S d v/\∀b,S b->H b=none/\G b=none/\H1 b≠none:=
 ⟨o.at hd hk hn,fun b hb=>let⟨n1,n2,n3⟩:=fr.new b hb;⟨n1,a.ext.in'.free n1,n3⟩⟩
def zAO{i:Nat}(vs:List Nat)(A:DE mg E te e n)(hn:n<1000:=by decide):DS mg E L (tAsg te (zIW i)) (Mi.sSet i n vs e):=by
 intro G0 H0 S0 σ ρ G H As D a p;obtain⟨J,x,s,w⟩:=a.full;unfold Mi.sSet at p;cases ee:e (full ρ)with
 |none=>rw[ee]at p;exact p.elim
 |some r=>
  cases r with
  |error y=>exact A.step (errS.from x) x.in' w p fun d v G1 H1 S e1 fr o p1=>by rw[ee]at e1;cases e1
  |ok d=>
   by_cases hd:d.dep<=n
   ·refine A.step (errS.from x) x.in' w p fun d' v G1 H1 S e1 fr o p1=>?_
    rw[ee]at e1;cases e1;rw[if_pos hd]at p1;obtain⟨q1,q2⟩:=whole (k:=n) a s fr o hn hd hd;exact p1 _ G H1 _ (a.set fr.ext.h q1 q2)
   ·rw[ee]at p;have p':zJ0 mg E G0 H0 S0 L (zA3 (e (frz (frzAt vs ρ))) fun d'=>okR (.nx ((frzAt vs ρ).set i (some (d',n))))) D:=by
     have p2:zJ0 mg E G0 H0 S0 L (if d.dep<=n then okR (.nx (ρ.set i (some (d,n))))else zA3 (e (frz (frzAt vs ρ))) fun d'=>okR (.nx ((frzAt vs ρ).set i (some (d',n))))) D:=p;rw[if_neg hd]at p2;exact p2
    obtain⟨G1,As1,a1⟩:=Sat.frzAt vs a;refine A.step (errS.from a1.ext) a1.ext.in' a1.frz p' fun d' v G2 H2 S _ fr o p1=>?_
    exact p1 _ G2 H2 _ ((a1.wider fr.ext).put o (fun b hb=>let⟨n1,n2,n3⟩:=fr.new b hb;⟨a1.ext.h.free n1,n2,n3⟩) fun j b _ h1 h2=>(a1.new j b h1).2.2 (fr.new b h2).1)
def zAY(vs:List Nat)(A:DE mg E te e n)(hn:n<1000:=by decide):DS mg E L (tRet te) (Mi.sRet L n vs e):=by
 intro G0 H0 S0 σ ρ G H As D a p;obtain⟨J,x,s,w⟩:=a.full;unfold Mi.sRet at p;cases ee:e (full ρ)with
 |none=>rw[ee]at p;exact p.elim
 |some r=>
  cases r with
  |error y=>exact A.step (errS.from x) x.in' w p fun d v G1 H1 S e1 fr o p1=>by rw[ee]at e1;cases e1
  |ok d=>
   by_cases hd:d.dep<=n/\d.dep<=L
   ·refine A.step (errS.from x) x.in' w p fun d' v G1 H1 S e1 fr o p1=>?_
    rw[ee]at e1;cases e1;rw[if_pos hd]at p1;exact p1 v G1 H1 S (Fr.from x fr) (o.at hd.1 hd.2 hn)
   ·rw[ee]at p;have p2:zJ0 mg E G0 H0 S0 L (if d.dep<=n/\d.dep<=L then okR (.rt d)else if n=L then zA3 (e (frz (frzAt vs ρ))) fun d'=>okR (.rt d')else none) D:=p;rw[if_neg hd]at p2
    by_cases hl:n=L
    ·rw[if_pos hl]at p2;subst hl;obtain⟨G1,As1,a1⟩:=Sat.frzAt vs a;refine A.step (errS.from a1.ext) a1.ext.in' a1.frz p2 fun d' v G2 H2 S _ fr o p1=>?_
     exact p1 v G2 H2 S (Fr.from a1.ext fr) o
    ·rw[if_neg hl]at p2;exact p2.elim
def zKJ(i:Nat):DS mg E L (tRet (vM i)) (Mi.sRetV L i):=by
 intro G0 H0 S0 σ ρ G H As D a p;unfold Mi.sRetV at p;cases e1:ρ[i]? with
 |none=>rw[e1]at p;exact p.elim
 |some o=>
  rw[e1]at p;cases o with
  |none=>exact p.elim
  |some sl=>
   obtain⟨d,k⟩:=sl;obtain⟨v,h1,h2⟩:=a.at i d k e1;show vM i σ H D.rt;unfold vM;rw[h1];dsimp only at p;split at p
   ·rename_i hz
    rcases hz with hz|hz|hz
    ·subst hz;exact p v G H (As i) ⟨a.ext,fun b hb=>a.new i b hb⟩ h2
    ·subst hz;obtain⟨s1,s2⟩:=zFV (S:=As i) a.ext.in';refine p v (over G H (As i)) H (fun _=>False) ⟨⟨a.ext.g.trans s1,a.ext.h,s2,fun b hb=>?_⟩,fun _ z=>z.elim⟩ (h2.rep s1 fun b o hb e=>by rw[zGK hb];exact e);have z:¬As i b:=fun z=>hb (a.new i b z).1
     rw[zE6 z];exact a.ext.old b hb
    ·exact p v G H (As i) ⟨a.ext,fun b hb=>a.new i b hb⟩ (h2.at hz.1 hz.2.1 hz.2.2)
   ·exact p.elim
def Sat.puts{G0 H0 S0 G H:Hp}{bs:List (Nat×Dt)}{ws:List (Nat×V)}(h:BsRep G bs ws):∀{σ:St}{ρ:Ro}{As:Nat->Addr->Prop},Sat G0 H0 S0 σ ρ G H As->∃As',Sat G0 H0 S0 (zHQ σ ws) (zB7 ρ bs) G H As':=by
 induction h with
 |nil=>exact fun a=>⟨_,a⟩
 |cons r _ ih=>exact fun a=>ih (a.put (n:=0) (S:=fun _=>False) r (fun _ z=>z.elim) fun _ _ _ _ z=>z.elim)
def zbY{g:TG}{is:List Nat}(vs:List Nat)(hT:TgOk g (.tup is))(A:DE mg E te e n):DS mg E L (tAsg te g) (Mi.sUnp is vs e):=by
 intro G0 H0 S0 σ ρ G H As D a p;obtain⟨G1,As1,a1⟩:=Sat.frzAt vs a;refine(zBE A).step (errS.from a1.ext) a1.ext.in' a1.frz p fun d v G2 H2 S _ fr o p1=>?_
 cases eb:zAU (.tup is) d with
 |none=>rw[eb]at p1;exact p1.elim
 |some bs=>
  rw[eb]at p1;refine hT G2 H2 σ d v bs _ fr.ext.in' o eb fun ws hw=>?_
  obtain⟨As',a2⟩:=Sat.puts hw (a1.wider fr.ext);exact p1 _ G2 H2 As' a2
def zWZ(i:Nat)(A:DE mg E te e n)(hn:n<1000:=by decide):DS mg E L (zN6 (tML appM (vM i) (zE1 te tNil))) (Mi.sApp i n e):=by
 intro G0 H0 S0 σ ρ G H As D a p;obtain⟨J,x,s,w⟩:=a.full;unfold Mi.sApp at p;cases e1:ρ[i]? with
 |none=>rw[e1]at p;exact p.elim
 |some o=>
  rw[e1]at p
  match o,e1,p with
  |none,_,p=>exact p.elim
  |some (.lst ds,k+1),e1,p=>
   obtain⟨v,h1,q,xs,T,rfl,hq,kd⟩:=a.at i _ _ e1;unfold zN6 tML vM;rw[h1];refine⟨xs,hq,?_⟩;refine A.step (errS.from x) x.in' w p fun d y G1 H1 S _ fr o p1=>?_
   split at p1
   ·rename_i hz
    obtain⟨q1,q2⟩:=whole (k:=k) a s fr o hn hz.2.1 hz.2.2;refine⟨xs,fr.ext.h _ _ hq,by rw[kd.len];exact L2.big (by lia),?_⟩;have hp:=kd.top;have a1:=a.grow fr.ext.h;have nS:¬S q:=fun z=>(a.new i q hp).2.2 (q2 q z).1
    have ap:∀r b,T r b->S b->False:=fun r b h1 h2=>(a.new i b (kd.sub r b h1)).2.2 (q2 b h2).1
    refine p1 σ G _ _ (a1.store (S:=fun b=>As i b\/S b) hp h1 ⟨q,_,fun r b=>(r<ds.length/\T r b)\/(r=ds.length/\S b),rfl,zA8,⟨by simp[kd.len],fun r d' z g1 g2=>?_,.inl hp,fun r z=>?_,fun r r' b z1 z2=>?_,fun r b z=>?_⟩⟩ fun b z=>?_)
    ·by_cases hr:r<ds.length
     ·rw[qAf hr]at g1;rw[qAf (by rw[kd.len];exact hr)]at g2;exact(((kd.own r d' z g1 g2).mono (Same.refl _) fr.ext.h).upd (kd.out r)).sub fun b z=>.inl ⟨hr,z⟩
     ·rw[qAc (by lia)]at g1;rw[qAc (by rw[kd.len];lia),kd.len]at g2;have hq0:r-ds.length=0:=by
       have:=(qA2.mp g1).1;simp at this;lia
      rw[hq0]at g1 g2;simp at g1 g2;subst g1;subst g2;exact(q1.upd nS).sub fun b z=>.inr ⟨by lia,z⟩
    ·rcases z with⟨_,z⟩|⟨_,z⟩
     ·exact kd.out r z
     ·exact nS z
    ·rcases z1 with⟨c1,t1⟩|⟨c1,t1⟩<;>rcases z2 with⟨c2,t2⟩|⟨c2,t2⟩
     ·exact kd.dis r r' b t1 t2
     ·exact(ap r b t1 t2).elim
     ·exact(ap r' b t2 t1).elim
     ·lia
    ·rcases z with⟨_,z⟩|⟨_,z⟩
     ·exact .inl (kd.sub r b z)
     ·exact .inr z
    ·rcases z with z|z
     ·exact .inl z
     ·obtain⟨n1,n2,n3⟩:=q2 b z;exact .inr ⟨a.ext.h.free n1,n2,n3,fun j y=>(a.new j b y).2.2 n1⟩
   ·exact p1.elim
  |some (.lst ds,0),_,p=>exact p.elim
  |some (.non,_),_,p=>exact p.elim
  |some (.bl _,_),_,p=>exact p.elim
  |some (.int _,_),_,p=>exact p.elim
  |some (.str _,_),_,p=>exact p.elim
  |some (.tup _,_),_,p=>exact p.elim
  |some (.scr _,_),_,p=>exact p.elim
  |some (.exc _ _ _,_),_,p=>exact p.elim
  |some (.fn _ _,_),_,p=>exact p.elim
  |some (.ins _ _,_),_,p=>exact p.elim
  |some (.dct _,_),_,p=>exact p.elim
def Kids.pop{P:(Addr->Prop)->Dt->V->Prop}{S:Addr->Prop}{a:Addr}{ds:List Dt}{xs:List V}{T:Nat->Addr->Prop}(k:Kids P S a ds xs T)(q:Nat) :
  Kids P (fun b=>S b/\¬T q b) a (ds.eraseIdx q) (xs.eraseIdx q) (fun r=>if r<q then T r else T (r+1)):=by
 refine⟨by rw[qEd,qEd,k.len],fun r d x h1 h2=>?_,⟨k.top,k.out q⟩,fun r=>?_,fun r r' b z1 z2=>?_,fun r b z=>?_⟩
 ·rw[List.getElem?_eraseIdx]at h1 h2
  try dsimp only
  by_cases hr:r<q
  ·rw[if_pos hr]at h1 h2 ⊢;exact k.own r d x h1 h2
  ·rw[if_neg hr]at h1 h2 ⊢;exact k.own (r+1) d x h1 h2
 ·try dsimp only
  split
  ·exact k.out _
  ·exact k.out _
 ·try dsimp only at z1 z2
  by_cases h1:r<q<;>by_cases h2:r'<q
  ·rw[if_pos h1]at z1;rw[if_pos h2]at z2;exact k.dis _ _ b z1 z2
  ·rw[if_pos h1]at z1;rw[if_neg h2]at z2;have:=k.dis _ _ b z1 z2;lia
  ·rw[if_neg h1]at z1;rw[if_pos h2]at z2;have:=k.dis _ _ b z1 z2;lia
  ·rw[if_neg h1]at z1;rw[if_neg h2]at z2;have:=k.dis _ _ b z1 z2;lia
 ·try dsimp only at z
  by_cases h1:r<q
  ·rw[if_pos h1]at z;exact⟨k.sub _ b z,fun w=>by have:=k.dis _ _ b z w;lia⟩
  ·rw[if_neg h1]at z;exact⟨k.sub _ b z,fun w=>by have:=k.dis _ _ b z w;lia⟩
def zaV{G H:Hp}{p:Addr}{o:HO}{S:Addr->Prop}{a:Addr}{ds:List Dt}{xs:List V}{T:Nat->Addr->Prop}(k:Kids (Own G H n) S a ds xs T)(hp:∀q,¬T q p):Kids (Own G (upd H p o) n) S a ds xs T:=
 ⟨k.len,fun q d x h1 h2=>(k.own q d x h1 h2).upd (hp q),k.top,k.out,k.dis,k.sub⟩
def zbZ(j i:Nat)(A:DE mg E te e n):DS mg E L (tAsg (tML popM (vM i) (zE1 te tNil)) (zIW j)) (Mi.sPop j i e):=by
 intro G0 H0 S0 σ ρ G H As D a p;obtain⟨J,x,s,w⟩:=a.full;unfold Mi.sPop at p;cases e1:ρ[i]? with
 |none=>rw[e1]at p;exact p.elim
 |some o=>
  rw[e1]at p
  match o,e1,p with
  |none,_,p=>exact p.elim
  |some (.lst ds,k+1),e1,p=>
   obtain⟨v,h1,q,xs,T,rfl,hq,kd⟩:=a.at i _ _ e1;unfold tAsg tML vM;rw[h1];refine⟨xs,hq,?_⟩;refine(zBE A).step (errS.from x) x.in' w p fun d y G1 H1 S _ fr o p1=>?_
   cases d with
   |int z=>
    cases(show y=.int z from o)
    dsimp only at p1;cases ei:Mi.ixA ds.length z with
    |none=>rw[ei]at p1;exact p1.elim
    |some c=>
     rw[ei]at p1;dsimp only at p1;cases ec:ds[c]? with
     |none=>rw[ec]at p1;exact p1.elim
     |some dc=>
      rw[ec]at p1;dsimp only at p1;split at p1
      ·rename_i hz
       rw[zP2]at ei;obtain⟨g1,g2,g3,g4⟩:=zNR ei;have hc:c<xs.length:=by rw[kd.len];exact g2
       have hx:xs[c]?=some xs[c]:=qA6 hc;refine⟨xs,c,xs[c],fr.ext.h _ _ hq,⟨by lia,by lia⟩,by rw[kd.len];exact g1,hx,?_⟩;have a1:=a.grow fr.ext.h;have kd1:Kids (Own G H1 k) (As i) q ds xs T:=kd.imp (fun _ _ _ _ w=>w.mono (Same.refl _) fr.ext.h) fun _ z=>z
       have a2:=a1.store (o:=.lst (xs.eraseIdx c)) (n:=k+1) (d:=.lst (ds.eraseIdx c)) (S:=fun b=>As i b/\¬T c b) kd.top h1 ⟨q,_,_,rfl,zA8,zaV (kd1.pop c) fun r=>by split<;>exact kd.out _⟩ fun b z=>.inl z.1
       refine p1 _ G _ _ (a2.put (S:=T c) ((kd1.own c dc _ ec hx).upd (kd.out c)) (fun b hb=>?_) fun l b hl z1 z2=>?_)
       ·obtain⟨n1,n2,n3⟩:=a1.new i b (kd.sub c b hb);refine⟨n1,n2,?_⟩;rw[zA5 (fun z:b=q=>kd.out c (z▸hb))];exact n3
       ·try dsimp only at z1
        by_cases z:l=i
        ·rw[if_pos z]at z1;exact z1.2 z2
        ·rw[if_neg z]at z1;exact z (a.dis l i b z1 (kd.sub c b z2))
      ·exact p1.elim
   |_=>exact p1.elim
  |some (.lst ds,0),_,p=>exact p.elim
  |some (.non,_),_,p=>exact p.elim
  |some (.bl _,_),_,p=>exact p.elim
  |some (.int _,_),_,p=>exact p.elim
  |some (.str _,_),_,p=>exact p.elim
  |some (.tup _,_),_,p=>exact p.elim
  |some (.scr _,_),_,p=>exact p.elim
  |some (.exc _ _ _,_),_,p=>exact p.elim
  |some (.fn _ _,_),_,p=>exact p.elim
  |some (.ins _ _,_),_,p=>exact p.elim
  |some (.dct _,_),_,p=>exact p.elim
end
end
section
variable[Kc]{mg:Str->Option Value}{E:XK}{L n:Nat}{te:TE}{e:EM}{t:TS}{m:SM}
def Kids.set{G H:Hp}{S:Addr->Prop}{a p:Addr}{ds:List Dt}{xs:List V}{T:Nat->Addr->Prop}{S':Addr->Prop}{d:Dt}{v:V}{o:HO}(k:Kids (Own G H n) S a ds xs T)(q:Nat)(w:Own G (upd H p o) n S' d v)(hp:∀r,r≠q->¬T r p)(ha:¬S' a)
  (hd:∀r b,r≠q->T r b->S' b->False):Kids (Own G (upd H p o) n) (fun b=>S b\/S' b) a (ds.set q d) (xs.set q v) (fun r b=>if r=q then S' b else T r b):=by
 refine⟨by simp[k.len],fun r d' x h1 h2=>?_,.inl k.top,fun r=>?_,fun r r' b z1 z2=>?_,fun r b z=>?_⟩
 ·by_cases z:q=r
  ·subst z;have h:q<ds.length:=by
    have:=(qA2.mp h1).1;simpa using this
   rw[qAo h]at h1;rw[qAo (by rw[k.len];exact h)]at h2;cases h1;cases h2;exact w.sub fun b hb=>by rw[if_pos rfl];exact hb
  ·rw[qAq z]at h1 h2;exact((k.own r d' x h1 h2).upd (hp r fun y=>z y.symm)).sub fun b hb=>by rw[if_neg (fun y=>z y.symm)];exact hb
 ·try dsimp only
  split
  ·exact ha
  ·exact k.out _
 ·try dsimp only at z1 z2
  by_cases h1:r=q<;>by_cases h2:r'=q
  ·rw[h1,h2]
  ·rw[if_pos h1]at z1;rw[if_neg h2]at z2;exact(hd r' b h2 z2 z1).elim
  ·rw[if_neg h1]at z1;rw[if_pos h2]at z2;exact(hd r b h1 z1 z2).elim
  ·rw[if_neg h1]at z1;rw[if_neg h2]at z2;exact k.dis _ _ b z1 z2
 ·try dsimp only at z
  by_cases h1:r=q
  ·rw[if_pos h1]at z;exact .inr z
  ·rw[if_neg h1]at z;exact .inl (k.sub _ b z)
def zKK(i:Nat){n1:Nat}{t1 t2:TE}{e1 e2:EM}(A:DE mg E t1 e1 n1)(B:DE mg E t2 e2 n)(hn:n<1000:=by decide):DS mg E L (tAsg t2 (gSub (vM i) t1 setM)) (Mi.sItem i n e1 e2):=by
 intro G0 H0 S0 σ ρ G H As D a p;obtain⟨J,x,s,w⟩:=a.full;refine B.step (errS.from x) x.in' w p fun d y G1 H1 S _ fr o p1=>?_
 cases er:ρ[i]? with
 |none=>rw[er]at p1;exact p1.elim
 |some sl=>
  rw[er]at p1
  match sl,er,p1 with
  |none,_,p=>exact p.elim
  |some (.lst ds,k+1),er,p1=>
   obtain⟨v,h1,q,xs,T,rfl,hq,kd⟩:=a.at i _ _ er;unfold gSub vM;rw[h1];have x1:Ext J H J H1:=Ext.same x.in' fr.ext.h;refine(zBE A).step (errS.from (x.trans x1)) x1.in' w p1 fun z u G2 H2 S2 _ fr2 o2 p2=>?_
   cases z with
   |int z=>
    cases(show u=.int z from o2)
    try dsimp only at p2
    cases ei:Mi.ixA ds.length z with
    |none=>rw[ei]at p2;exact p2.elim
    |some c=>
     rw[ei]at p2
     try dsimp only at p2
     split at p2
     ·rename_i hz
      rw[zP2]at ei;obtain⟨q1,q2⟩:=whole (k:=k) a s fr o hn hz.1 hz.2;have sH:=fr.ext.h.trans fr2.ext.h;refine⟨xs,c,sH _ _ hq,by rw[kd.len];exact ei,?_⟩;have a1:=a.grow sH;have nS:¬S q:=fun z=>(a.new i q kd.top).2.2 (q2 q z).1
      have kd1:Kids (Own G H2 k) (As i) q ds xs T:=kd.imp (fun _ _ _ _ w=>w.mono (Same.refl _) sH) fun _ z=>z
      refine p2 σ G _ _ (a1.store (S:=fun b=>As i b\/S b) kd.top h1 ⟨q,_,_,rfl,zA8,kd1.set c ((q1.mono (Same.refl _) fr2.ext.h).upd nS) (fun r _=>kd.out r) nS fun r b _ z1 z2=>(a.new i b (kd.sub r b z1)).2.2 (q2 b z2).1⟩ fun b z=>?_)
      rcases z with z|z
      ·exact .inl z
      ·obtain⟨n1,n2,n3⟩:=q2 b z;exact .inr ⟨a.ext.h.free n1,n2,fr2.ext.h.some n3,fun j y=>(a.new j b y).2.2 n1⟩
     ·exact p2.elim
   |_=>exact p2.elim
  |some (.lst ds,0),_,p=>exact p.elim
  |some (.non,_),_,p=>exact p.elim
  |some (.bl _,_),_,p=>exact p.elim
  |some (.int _,_),_,p=>exact p.elim
  |some (.str _,_),_,p=>exact p.elim
  |some (.tup _,_),_,p=>exact p.elim
  |some (.scr _,_),_,p=>exact p.elim
  |some (.exc _ _ _,_),_,p=>exact p.elim
  |some (.fn _ _,_),_,p=>exact p.elim
  |some (.ins _ _,_),_,p=>exact p.elim
  |some (.dct _,_),_,p=>exact p.elim
def zWS{G0 H0 S0:Hp}{D:Ends}{g:TG}{tg:Tg}{J:It}{ds:List Dt}{GJ:Hp}(hT:TgOk g tg)(B:DS mg E L t m)(io:ItOk J GJ ds){σ:St}{ρ:Ro}{G H:Hp}{As:Nat->Addr->Prop}(a:Sat G0 H0 S0 σ ρ G H As)(sJ:Same GJ G)
  (p:zJ0 mg E G0 H0 S0 L (Mi.forGo tg m ds ρ) D):zR1 g t D σ J H:=by
 refine⟨fun i c σ H=>c=ds.length-i/\i<=ds.length/\∃ρ G As,Sat G0 H0 S0 σ ρ G H As/\Same GJ G/\zJ0 mg E G0 H0 S0 L (Mi.forGo tg m (ds.drop i) ρ) D,
  ⟨_,rfl,qAv _,ρ,G,As,a,sJ,by rw[qCi];exact p⟩,?_⟩
 rintro i c σ H ⟨rfl,hi,ρ,G,As,a,sJ,p⟩
 obtain⟨j1,j2,j3⟩:=io i G H sJ a.ext.in';by_cases hlt:i<ds.length
 ·refine .inr ⟨j1 hlt,fun σ' H'=>i+1<=ds.length/\∃ρ G As,Sat G0 H0 S0 σ' ρ G H' As/\Same GJ G/\zJ0 mg E G0 H0 S0 L (Mi.forGo tg m (ds.drop (i+1)) ρ) D,fun σ' H' q=>⟨ds.length-(i+1),by lia,rfl,q⟩,fun x H2 hy=>?_⟩;have hd:ds[i]?=some ds[i]:=qA6 hlt;obtain⟨G2,x2,r2⟩:=j3 x H2 ds[i] hd hy;rw[qB0 hlt,Mi.forGo]at p;cases eb:zAU tg ds[i]with
  |none=>rw[eb]at p;exact p.elim
  |some bs=>
   rw[eb]at p
   try dsimp only at p
   refine hT G2 H2 _ _ x bs _ x2.in' r2 eb fun ws hb=>?_
   obtain⟨As2,a2⟩:=Sat.puts hb (a.wider x2);have a3:Sat G0 H0 GJ (zHQ σ ws) (zB7 ρ bs) G2 H2 As2:=⟨a2.ext,sJ.trans x2.g,a2.tab,a2.len,a2.at,a2.dis,a2.new⟩;have key:∀(S1:Hp),Same S0 S1->Same GJ S1->Sat G0 H0 S1 (zHQ σ ws) (zB7 ρ bs) G2 H2 As2->t { D with nx:=fun σ' H'=>i+1<=ds.length/\∃ρ G As,Sat G0 H0 S0 σ' ρ G H' As/\Same GJ G/\zJ0 mg E G0 H0 S0 L (Mi.forGo tg m (ds.drop (i+1)) ρ) D,ct:=fun σ' H'=>i+1<=ds.length/\∃ρ G As,Sat G0 H0 S0 σ' ρ G H' As/\Same GJ G/\zJ0 mg E G0 H0 S0 L (Mi.forGo tg m (ds.drop (i+1)) ρ) D,bk:=D.nx } (zHQ σ ws) H2:=by
    intro S1 s1 s2 a4;refine B G0 H0 S1 _ _ G2 H2 As2 _ a4 ?_;have back:∀{σ':St}{ρ':Ro}{G' H':Hp}{As':Nat->Addr->Prop},Sat G0 H0 S1 σ' ρ' G' H' As'->Sat G0 H0 S0 σ' ρ' G' H' As'/\Same GJ G':=fun a5=>⟨⟨a5.ext,s1.trans a5.stb,a5.tab,a5.len,a5.at,a5.dis,a5.new⟩,s2.trans a5.stb⟩
    cases em:m (zB7 ρ bs)with
    |none=>rw[em]at p;exact p
    |some r=>
     rw[em]at p;cases r with
     |error y=>exact p
     |ok o=>
      cases o with
      |nx ρ'=>exact fun σ' G' H' As' a5=>⟨hlt,ρ',G',As',(back a5).1,(back a5).2,p⟩
      |ct ρ'=>exact fun σ' G' H' As' a5=>⟨hlt,ρ',G',As',(back a5).1,(back a5).2,p⟩
      |bk ρ'=>exact fun σ' G' H' As' a5=>p σ' G' H' As' (back a5).1
      |rt d=>exact p
   exact key G2 a2.stb (sJ.trans x2.g) ⟨a2.ext,Same.refl _,a2.tab,a2.len,a2.at,a2.dis,a2.new⟩
 ·have e:i=ds.length:=by lia
  subst e;rw[qF9,Mi.forGo]at p;exact .inl ⟨j2 (qA5 _),p σ G H As a⟩
def zIF{wi:TI}{it:IM}{g:TG}{tg:Tg}(vs:List Nat){ind:Bool}(I:DI mg E wi it ind)(hT:TgOk g tg)(B:DS mg E L t m):DS mg E L (fun D σ H=>wi σ H (zR1 g t D σ)) (Mi.sFor vs it tg m):=by
 intro G0 H0 S0 σ ρ G H As D a p;obtain⟨G1,As1,a1⟩:=Sat.frzAt vs a;refine I.step (errS.from a1.ext) a1.ext.in' a1.frz p fun ds J G2 H2 _ x2 io p1=>?_
 refine zWS hT B io (a1.wider x2) ?_ p1;unfold zTE;split
 ·exact fun b o e=>by cases e
 ·exact Same.refl _
def zKL{wi:TI}{it:IM}{i:Nat}(I:DI mg E wi it true)(B:DS mg E L t m):DS mg E L (fun D σ H=>wi σ H (zR1 (zIW i) t D σ)) (Mi.sForR it i m):=by
 intro G0 H0 S0 σ ρ G H As D a p;obtain⟨J,x,s,w⟩:=a.full;refine I.step (errS.from x) x.in' w p fun ds J G2 H2 _ x2 io p1=>?_
 exact zWS (zBT i) B io (a.grow x2.h) (fun b o e=>by cases e) p1
def dz(A:DE mg E te e 0):DE mg E te e 0:=A
def zAT{P N:Nat}{vs:List V}{H:Hp}{Q:VK}{E:XK}(h:spM mg L (Mi.runF P N m) vs H Q E):vs.length=P:=by
 obtain⟨G,ds,_,s,r,p⟩:=h;rw[r.length];unfold Mi.runF at p;split at p
 ·rename_i h;exact h
 ·exact p.elim
def zBC{P:Nat}{N:List Str}{vs:List V}{H:Hp}{Q:VK}(B:DS mg E L t m)(h:spM mg L (Mi.runF P N.length m) vs H Q E):t { nx:=fun _ H'=>Q .non H',rt:=Q } (L2.start N vs) H:=by
 obtain⟨G,ds,tb,s,r,p⟩:=h;unfold Mi.runF at p;split at p
 ·refine B G H G _ (Mi.startO N.length ds) G H (fun _ _=>False) _ ⟨Ext.refl s,Same.refl _,tb,?_,fun i d n e=>?_,fun _ _ _ z=>z.elim,fun _ _ z=>z.elim⟩ ?_
  ·unfold Mi.startO L2.start;simp[r.length]
  ·unfold Mi.startO at e
   by_cases hi:i<ds.length
   ·rw[qAf (by simpa using hi),qAd]at e;cases e1:ds[i]? with
    |none=>rw[e1]at e;cases e
    |some d'=>
     rw[e1]at e;cases e;have hv:vs[i]?=some (vs[i]'(by rw[r.length];exact hi)):=by simp
     refine⟨vs[i]'(by rw[r.length];exact hi),?_,zCK r e1 hv⟩;unfold L2.start;rw[qAf (by simpa[r.length]using hi),qAd,hv];rfl
   ·rw[qAc (by simpa using hi),qCf]at e
    split at e<;>cases e
  ·cases em:m (Mi.startO N.length ds)with
   |none=>rw[em]at p;exact p
   |some r=>
    rw[em]at p;cases r with
    |error y=>exact p
    |ok o=>
     cases o with
     |nx ρ'=>exact fun σ' G' H' As' a=>PostE.val (d:=.non) p a.ext rfl rfl
     |rt d=>exact p
     |bk ρ'=>exact p.elim
     |ct ρ'=>exact p.elim
 ·exact p.elim
end
end L3
namespace L2
open PySem PySem.Spec PyProof.Rows
section
end
end L2
namespace L3
open PySem PySem.Spec
open L2 hiding Rep RepL
open Mi (Dt Xn R okR zA3 optR zA0 zAD zAH zAE zAG Rh Sl Ro EM TM AM FM IM SM OM Tg Out zAU zAR zB7 full frz frz1 frzAt)
section
variable[Kc]{mg:Str->Option Value}{E:XK}{L n k:Nat}{te:TE}{e:EM}
def zcG:CBi (fun xs H Q=>(∃i,xs=[.int i]/\Q (.int i) H)\/∃k,xs=[.bl k]/\Q (.int (if k then 1 else 0)) H) Mi.intD n:=by
 intro mg E G H ds vs Q s h p;cases ds with
 |nil=>exact qA4 p
 |cons hd1 tl1=>
  cases hd1 with
  |int i=>
   cases tl1 with
   |nil=>
    obtain⟨x,rfl,hx⟩:=zDJ h;cases(show x=.int i from hx)
    exact .inl ⟨i,rfl,PostE.val p (Ext.refl s) rfl rfl⟩
   |cons _ _=>exact qA4 p
  |bl b=>
   cases tl1 with
   |nil=>
    obtain⟨x,rfl,hx⟩:=zDJ h;cases(show x=.bl b from hx)
    exact .inr ⟨b,rfl,PostE.val p (Ext.refl s) rfl rfl⟩
   |cons _ _=>exact qA4 p
  |_=>exact qA4 p
def zX5{f:List Dt->Option Dt}{g:Int->Int->Int}{r:List V->Hp->VK->Prop}(hr:∀i j H Q,Q (.int (g i j)) H->r [.int i,.int j] H Q)(hf:∀i j,f [.int i,.int j]=some (.int (g i j)))(hn:∀ds,(∀i j,ds≠[.int i,.int j])->f ds=none):CBi r f n:=by
 intro mg E G H ds vs Q s h p;by_cases hd:∃i j,ds=[.int i,.int j]
 ·obtain⟨i,j,rfl⟩:=hd;obtain⟨x,y,rfl,hx,hy⟩:=zXY h
  cases(show x=.int i from hx)
  cases(show y=.int j from hy)
  rw[hf]at p;exact hr i j H Q (PostE.val p (Ext.refl s) rfl rfl)
 ·rw[hn ds fun i j e=>hd ⟨i,j,e⟩]at p;exact p.elim
def zOE{f:List Dt->Option Dt}(h1:f []=none)(h2:∀x,f [x]=none)(h3:∀x y z r,f (x::y::z::r)=none)(h4:∀x y,(∀i j,[x,y]≠[.int i,.int j])->f [x,y]=none):∀ds,(∀i j,ds≠[.int i,.int j])->f ds=none:=by
 intro ds h
 match ds,h with
 |[],_=>exact h1
 |[x],_=>exact h2 x
 |[x,y],h=>exact h4 x y h
 |x::y::z::r,_=>exact h3 x y z r
def zcF:CBi (fun xs H Q=>∃i j,xs=[.int i,.int j]/\Q (.int (if j>i then j else i)) H) Mi.maxD n:=
 zX5 (g:=fun i j=>if j>i then j else i) (fun i j H Q q=>⟨i,j,rfl,q⟩) (fun _ _=>rfl) (zOE rfl (fun x=>by cases x<;>rfl) (fun x y z r=>by cases x<;>cases y<;>rfl) (fun x y h=>by cases x<;>cases y<;>first|rfl|exact absurd rfl (h _ _)))
def zcE:CBi (fun xs H Q=>∃i j,xs=[.int i,.int j]/\Q (.int (if j<i then j else i)) H) Mi.minD n:=
 zX5 (g:=fun i j=>if j<i then j else i) (fun i j H Q q=>⟨i,j,rfl,q⟩) (fun _ _=>rfl) (zOE rfl (fun x=>by cases x<;>rfl) (fun x y z r=>by cases x<;>cases y<;>rfl) (fun x y h=>by cases x<;>cases y<;>first|rfl|exact absurd rfl (h _ _)))
def zNT{G:Hp}{d:Dt}{v:V}(h:Rep G d v)(hd:d.dep=0):zGM v=true:=(zEV (by lia) h).flat (qH2.mp (qAt (zG7 (by lia)) (qEn hd)))
def zSP{G:Hp}{d e:Dt}{v u:V}(h:Rep G d v)(h':Rep G e u)(hd:d.dep=0)(he:e.dep=0):eqV v u=Dt.eq d e:=by
 rw[<- zO0 (by lia) (by lia)];exact(zEV (by lia) h).flatEq (zEV (by lia) h') (qH2.mp (qAt (zG7 (by lia)) (qEn hd))) (qH2.mp (qAt (zG7 (by lia)) (qEn he)))
def zYS{G:Hp}{d:Dt}{v:V}(h:Rep G d v)(hd:d.dep=0):∀{ds:List Dt}{vs:List V},RepL G ds vs->Dt.depL ds=0->vs.all zGM=true/\inV v vs=ds.any fun y=>Dt.eq y d
 |[],vs,r,_=>by cases(show vs=[] from r);exact⟨rfl,rfl⟩
 |e::ds,vs,r,hz=>by
  obtain⟨x,q,rfl,a,b⟩:=r;rw[Dt.depL]at hz;obtain⟨h1,h2⟩:=zYS h hd b (by lia);have he:e.dep=0:=by lia
  refine⟨by simp[zNT a he,h1],?_⟩;unfold inV at h2 ⊢;rw[qEe,qEe,h2,zSP a h he hd]
def zRD{ng:Bool}:ROp (rInU Kc.K ng) (Mi.inD ng) n:=by
 intro mg E G H d e x y Q s h1 h2 p;cases e with
 |lst ys=>
  obtain⟨a,vs,rfl,ha,r⟩:=h2;unfold Mi.inD Mi.hasD at p;dsimp only at p;by_cases hz:d.dep=0/\Dt.depL ys=0
  ·rw[if_pos hz]at p;obtain⟨g1,g2⟩:=zYS h1 hz.1 r hz.2;refine⟨vs,.inl (SqL.of (s _ _ ha)),zNT h1 hz.1,g1,?_⟩;rw[g2];exact PostE.val p (Ext.refl s) rfl rfl
  ·rw[if_neg hz]at p;exact p.elim
 |tup ys=>
  obtain⟨a,vs,rfl,ha,r⟩:=h2;unfold Mi.inD Mi.hasD at p;dsimp only at p;by_cases hz:d.dep=0/\Dt.depL ys=0
  ·rw[if_pos hz]at p;obtain⟨g1,g2⟩:=zYS h1 hz.1 r hz.2;refine⟨vs,.inr (SqT.of (s _ _ ha)),zNT h1 hz.1,g1,?_⟩;rw[g2];exact PostE.val p (Ext.refl s) rfl rfl
  ·rw[if_neg hz]at p;exact p.elim
 |str z=>
  cases(show y=.str z from h2)
  cases d with
  |str w=>
   cases(show x=.str w from h1)
   obtain⟨⟨wl⟩⟩:=w;cases wl with
   |nil=>exact qA4 p
   |cons c tl1=>
    cases tl1 with
    |nil=>
     have p':PostE mg E G H n (okR (.bl (if ng=true then !decide (c∈z.cps.toList)else decide (c∈z.cps.toList)))) Q:=p;have q:=PostE.val (v:=.bl (if ng=true then !decide (c∈z.cps.toList)else decide (c∈z.cps.toList))) p' (Ext.refl s) rfl rfl;rw[<- StrLaws.found_one z c]at q;exact q
    |cons _ _=>exact qA4 p
  |_=>exact p.elim
 |_=>exact p.elim
def DO(mg:Str->Option Value)(E:XK)(t:TO)(m:OM):Prop:=∀(G H:Hp)(σ:St)(ρ:Rh)(Q:Option Int->Hp->Prop),Same G H->View G σ ρ ->
 (match m ρ with
  |none=>False
  |some (.error x)=>∀c da G' H',Ext G H G' H'->XRep mg x c da G' H'->E c da H'
  |some (.ok o)=>∀H',Same H H'->Q o H')->t σ H Q
def DO.step{β:Type}{t:TO}{m:OM}(D:DO mg E t m){G H:Hp}{σ:St}{ρ:Rh}{Q:Option Int->Hp->Prop}{P:R β->Prop}{f:Option Int->R β}(hE:Err mg E G H P)(s:Same G H)(w:View G σ ρ)(p:P (zA3 (m ρ) f))
  (h:∀b H',m ρ=okR b->Same H H'->P (f b)->Q b H'):t σ H Q:=by
 refine D G H σ ρ Q s w ?_;cases e:m ρ with
 |none=>rw[e]at p;exact hE.no p
 |some r=>
  rw[e]at p;cases r with
  |error x=>exact hE.er x p
  |ok b=>exact fun H' sH=>h b H' e sH p
def zEL:DO mg E zQZ Mi.oNo:=fun G H σ ρ Q s w p=>p H (Same.refl _)
def do_e(A:DE mg E te e k):DO mg E (zZU te) (Mi.oE e):=by
 intro G H σ ρ Q s w p;unfold Mi.oE at p;refine(zBE A).step (P:=fun r=>match r with
  |none=>False
  |some (.error x)=>∀c da G' H',Ext G H G' H'->XRep mg x c da G' H'->E c da H'
  |some (.ok o)=>∀H',Same H H'->Q o H') ⟨fun h=>h,fun _ h=>h⟩ s w p fun d v G1 H1 S _ fr o p1=>?_
 cases d with
 |int i=>exact⟨i,o,p1 H1 fr.ext.h⟩
 |_=>exact p1.elim
def zPH(n d:Nat)(o:Option Int):Mi.cutIx n d o=HT.sIx n d o:=by cases o<;>rfl
def zLH{G:Hp}:∀{ds:List Dt}{xs:List V}(i:Nat),RepL G ds xs->RepL G (ds.drop i) (xs.drop i)
 |ds,xs,0,r=>by simpa using r
 |[],xs,i+1,r=>by cases(show xs=[] from r);exact rfl
 |d::ds,xs,i+1,r=>by
  obtain⟨x,q,rfl,a,b⟩:=r;exact zLH i b
def zLF{G:Hp}:∀{ds:List Dt}{xs:List V}(i:Nat),RepL G ds xs->RepL G (ds.take i) (xs.take i)
 |ds,xs,0,r=>by simp;exact rfl
 |[],xs,i+1,r=>by cases(show xs=[] from r);exact rfl
 |d::ds,xs,i+1,r=>by
  obtain⟨x,q,rfl,a,b⟩:=r;exact⟨x,_,rfl,a,zLF i b⟩
def zOU{G:Hp}{ds:List Dt}{xs:List V}(r:RepL G ds xs)(lo hi:Option Int):RepL G (Mi.cutA ds lo hi) (cutV xs lo hi):=by
 unfold Mi.cutA cutV;rw[zPH,zPH,r.length];exact zLF _ (zLH _ r)
def RSl(r:V->Option Int->Option Int->Hp->VK->Prop)(n:Nat):Prop:=∀(mg:Str->Option Value)(E:XK)(G H:Hp)(d:Dt)(x:V)(lo hi:Option Int)(Q:VK),Same G H->Rep G d x->PostE mg E G H n (optR (Mi.slD d lo hi)) Q->r x lo hi H Q
def zc7{r:V->Option Int->Option Int->Hp->VK->Prop}{tl th:TO}{ml mh:OM}(hr:RSl r n)(A:DE mg E te e k)(B:DO mg E tl ml)(C:DO mg E th mh):DE mg E (tSl r te tl th) (Mi.eSl e ml mh) n:=by
 intro G H σ ρ Q s w p;refine(zBE A).step errE s w p fun d v G1 H1 S _ fr o p1=>?_
 refine B.step (errE.from fr.ext) fr.ext.in' (w.mono fr.ext.g) p1 fun lo H2 _ s2 p2=>?_
 have x2:=fr.ext.trans (Ext.same fr.ext.in' s2);refine C.step (errE.from x2) x2.in' (w.mono fr.ext.g) p2 fun hi H3 _ s3 p3=>?_
 have x3:=x2.trans (Ext.same x2.in' s3);exact hr mg E G1 H3 d v lo hi Q x3.in' o (PostE.from p3 x3)
def zVD(i:Nat){n0 n1:Nat}{t0 t1 t2:TE}{e0 e1 e2:EM}(Z:DE mg E t0 e0 n0)(A:DE mg E t1 e1 n1)(B:DE mg E t2 e2 n)(hn:n<1000:=by decide):DS mg E L (tAsg t2 (gSub (tOp (rIxU Kc.K) (vM i) t0) t1 setM)) (Mi.sItem2 i n e0 e1 e2):=by
 intro G0 H0 S0 σ ρ G H As D a p;obtain⟨J,x,s,w⟩:=a.full;refine B.step (errS.from x) x.in' w p fun d y G1 H1 S _ fr o p1=>?_
 cases er:ρ[i]? with
 |none=>rw[er]at p1;exact p1.elim
 |some sl=>
  rw[er]at p1
  match sl,er,p1 with
  |none,_,p=>exact p.elim
  |some (.lst rs,k+2),er,p1=>
   obtain⟨v,h1,q,xs,T,rfl,hq,kd⟩:=a.at i _ _ er;unfold gSub tOp vM;rw[h1];have x1:Ext J H J H1:=Ext.same x.in' fr.ext.h;refine(zBE Z).step (errS.from (x.trans x1)) x1.in' w p1 fun z0 u0 G2 H2 S2 _ fr2 o2 p2=>?_
   cases z0 with
   |int y0=>
    cases(show u0=.int y0 from o2)
    dsimp only at p2;cases ei:Mi.ixA rs.length y0 with
    |none=>rw[ei]at p2;exact p2.elim
    |some c=>
     rw[ei]at p2;dsimp only at p2;cases erow:rs[c]? with
     |none=>rw[erow]at p2;exact p2.elim
     |some row=>
      rw[erow]at p2;cases row with
      |lst ds=>
       have hc:c<xs.length:=by rw[kd.len];exact(qA2.mp erow).1
       have hxc:xs[c]?=some xs[c]:=qA6 hc;obtain⟨qr,ys,U,er2,hqr,kr⟩:=kd.own c _ _ erow hxc;have sH2:=fr.ext.h.trans fr2.ext.h;refine⟨xs,xs[c],.inl (SqL.of (sH2 _ _ hq)),?_,?_⟩
       ·unfold atI;rw[kd.len,<- zP2,ei];exact hxc
       have x2:Ext J H J H2:=Ext.same x.in' sH2;refine(zBE A).step (errS.from (x.trans x2)) x2.in' w p2 fun z u G3 H3 S3 _ fr3 o3 p3=>?_
       cases z with
       |int z=>
        cases(show u=.int z from o3)
        dsimp only at p3;cases ez:Mi.ixA ds.length z with
        |none=>rw[ez]at p3;exact p3.elim
        |some c2=>
         rw[ez]at p3;dsimp only at p3;split at p3
         ·rename_i hz
          rw[zP2]at ez;obtain⟨q1,q2⟩:=whole (k:=k) a s fr o hn hz.1 hz.2;have sH:=sH2.trans fr3.ext.h;rw[er2];refine⟨ys,c2,sH _ _ hqr,by rw[kr.len];exact ez,?_⟩;have a1:=a.grow sH;have tqr:T c qr:=kr.top;have iqr:As i qr:=kd.sub c qr tqr;have nS:¬S qr:=fun z=>(a.new i qr iqr).2.2 (q2 qr z).1
          have qne:q≠qr:=fun z=>kd.out c (z▸tqr)
          have fresh:∀b,As i b->S b->False:=fun b z1 z2=>(a.new i b z1).2.2 (q2 b z2).1
          have kr1:Kids (Own G H3 k) (T c) qr ds ys U:=kr.imp (fun _ _ _ _ w=>w.mono (Same.refl _) sH) fun _ z=>z
          have rowK:=kr1.set (p:=qr) (o:=.lst (ys.set c2 y)) c2 ((q1.mono (Same.refl _) (fr2.ext.h.trans fr3.ext.h)).upd nS) (fun r _=>kr.out r) nS (fun r b _ z1 z2=>fresh b (kd.sub c b (kr.sub r b z1)) z2);refine p3 σ G _ _ (a1.store (S:=fun b=>As i b\/S b) (d:=.lst (rs.set c (.lst (ds.set c2 d)))) (n:=k+2) (v:=.ref q) iqr h1 ⟨q,xs,fun r b=>if r=c then T c b\/S b else T r b,rfl,(zA5 qne).trans (sH _ _ hq),⟨by simp[kd.len],fun r d' xr g1 g2=>?_,.inl kd.top,fun r=>?_,fun r r' b z1 z2=>?_,fun r b z=>?_⟩⟩ fun b z=>?_)
          ·by_cases hr:c=r
           ·subst hr;rw[qAo (by rw[<- kd.len];exact hc)]at g1;cases g1;rw[hxc]at g2;cases g2;refine⟨qr,_,_,er2,zA8,rowK.imp (fun _ _ _ _ w=>w) fun b z=>?_⟩;rw[if_pos rfl];exact z
           ·rw[qAq hr]at g1;have nr:¬T r qr:=fun z=>hr (kd.dis c r qr tqr z)
            exact(((kd.own r d' xr g1 g2).mono (Same.refl _) sH).upd nr).sub fun b z=>by rw[if_neg (fun z=>hr z.symm)];exact z
          ·try dsimp only
           split
           ·exact fun z=>z.elim (kd.out c) fun z=>fresh q kd.top z
           ·exact kd.out r
          ·try dsimp only at z1 z2
           by_cases g1:r=c<;>by_cases g2:r'=c
           ·rw[g1,g2]
           ·rw[if_pos g1]at z1;rw[if_neg g2]at z2
            rcases z1 with z1|z1
            ·rw[g1];exact kd.dis c r' b z1 z2
            ·exact(fresh b (kd.sub r' b z2) z1).elim
           ·rw[if_neg g1]at z1;rw[if_pos g2]at z2
            rcases z2 with z2|z2
            ·rw[g2];exact kd.dis r c b z1 z2
            ·exact(fresh b (kd.sub r b z1) z2).elim
           ·rw[if_neg g1]at z1;rw[if_neg g2]at z2;exact kd.dis r r' b z1 z2
          ·try dsimp only at z
           by_cases g1:r=c
           ·rw[if_pos g1]at z
            rcases z with z|z
            ·exact .inl (kd.sub c b z)
            ·exact .inr z
           ·rw[if_neg g1]at z;exact .inl (kd.sub r b z)
          ·rcases z with z|z
           ·exact .inl z
           ·obtain⟨n1,n2,n3⟩:=q2 b z;exact .inr ⟨a.ext.h.free n1,n2,(fr2.ext.h.trans fr3.ext.h).some n3,fun j y=>(a.new j b y).2.2 n1⟩
         ·exact p3.elim
       |_=>exact p3.elim
      |_=>exact p2.elim
   |_=>exact p2.elim
  |some (.lst ds,0),_,p=>exact p.elim
  |some (.lst ds,1),_,p=>exact p.elim
  |some (.non,_),_,p=>exact p.elim
  |some (.bl _,_),_,p=>exact p.elim
  |some (.int _,_),_,p=>exact p.elim
  |some (.str _,_),_,p=>exact p.elim
  |some (.tup _,_),_,p=>exact p.elim
  |some (.scr _,_),_,p=>exact p.elim
  |some (.exc _ _ _,_),_,p=>exact p.elim
  |some (.fn _ _,_),_,p=>exact p.elim
  |some (.ins _ _,_),_,p=>exact p.elim
  |some (.dct _,_),_,p=>exact p.elim
end
section
variable[Kc]{mg:Str->Option Value}{E:XK}{n k:Nat}{te ta:TE}{e ma:EM}{t:TA}{m:AM}
def rs_u:RSl (rSlU Kc.K) 1:=by
 intro mg E G H d x lo hi Q s h p;cases d with
 |lst ds=>
  obtain⟨a,xs,rfl,ha,r⟩:=h;exact⟨xs,SqL.of (s _ _ ha),fun q hq=>PostE.lst p (Ext.refl s) (zOU r lo hi) hq⟩
 |str z=>
  cases(show x=.str z from h)
  rw[Mi.slD]at p;by_cases hz:z.length<=100000
  ·rw[if_pos hz]at p;exact⟨big' hz,PostE.val p (Ext.refl s) rfl rfl⟩
  ·rw[if_neg hz]at p;exact p.elim
 |_=>exact p.elim
def zDS{tl th:TO}{ml mh:OM}(A:DE mg E te e k)(B:DO mg E tl ml)(C:DO mg E th mh):DE mg E (tSl (rSlU Kc.K) te tl th) (Mi.eSl e ml mh) 1:=zc7 rs_u A B C
def zbO{G:Hp}(z:Str):ItOk (Its z) G (Mi.signsD z):=by
 intro i G1 H1 s1 s2;have hl:(Mi.signsD z).length=z.cps.size:=by simp[Mi.signsD]
 refine⟨fun hi=>by rw[hl]at hi;exact hi,fun hi=>by rw[hl]at hi;exact hi,fun x H2 d hd hy=>?_⟩;obtain⟨rfl,c,hc,rfl⟩:=hy;refine⟨G1,Ext.refl s2,?_⟩;unfold Mi.signsD at hd;rw[qAd]at hd;have hc':z.cps.toList[i]?=some c:=by simpa using hc
 rw[hc']at hd;cases hd;rfl
def zDO(A:DE mg E ta ma k):DI mg E (iAny Kc.K ta) (Mi.iSq ma) false:=by
 intro G H σ ρ Q s w p;refine(zBE A).step errI s w p fun d v G1 H1 S _ fr o p1=>?_
 cases d with
 |lst ds=>
  obtain⟨a,xs,rfl,ha,r⟩:=o;exact .inl ⟨⟨xs,SqL.of (fr.ext.in' _ _ ha)⟩,p1 _ G1 H1 fr.ext (zWM (SqL.of ha) r)⟩
 |tup ds=>
  obtain⟨a,xs,rfl,ha,r⟩:=o;exact .inr ⟨⟨xs,SqT.of (fr.ext.in' _ _ ha)⟩,p1 _ G1 H1 fr.ext (zWL (SqT.of ha) r)⟩
 |scr ns=>
  obtain⟨a,rfl,ha⟩:=o;rcases ha.old with ha|ha
  ·exact .inl ⟨⟨_,fr.ext.in'.seq ha⟩,p1 _ G1 H1 fr.ext (zWM ha (zCX ns))⟩
  ·exact .inr ⟨⟨_,zLB fr.ext.in' ha⟩,p1 _ G1 H1 fr.ext (zWL ha (zCX ns))⟩
 |str z=>
  cases(show v=.str z from o)
  exact p1 _ G1 H1 fr.ext (zbO z)
 |_=>exact p1.elim
def zOC:∀(xs ys:List Dt),(Mi.zipD xs ys).length=min xs.length ys.length
 |[],ys=>by simp[Mi.zipD]
 |_::_,[]=>by simp[Mi.zipD]
 |x::r,y::q=>by rw[Mi.zipD,qAn,zOC r q,qAn,qAn];lia
def zOD:∀(xs ys:List Dt)(i:Nat)(d:Dt),(Mi.zipD xs ys)[i]?=some d->∃x y,xs[i]?=some x/\ys[i]?=some y/\d=.tup [x,y]
 |[],ys,_,_,h=>by simp[Mi.zipD]at h
 |_::_,[],_,_,h=>by simp[Mi.zipD]at h
 |x::r,y::q,0,d,h=>by simp[Mi.zipD]at h;exact⟨x,y,by simp,by simp,h.symm⟩
 |x::r,y::q,i+1,d,h=>by
  rw[Mi.zipD]at h;obtain⟨a,b,h1,h2,h3⟩:=zOD r q i d (by simpa using h);exact⟨a,b,by simpa using h1,by simpa using h2,h3⟩
def zbM{K:qA0}{G:Hp}{a b:Addr}{xs ys:List V}{ds es:List Dt}(ha:G a=some (.lst xs))(r:RepL G ds xs)(hb:G b=some (.lst ys))(r':RepL G es ys):ItOk (Itz K a b) G (Mi.zipD ds es):=by
 intro i G1 H1 s1 s2;have hS:SqL K H1 a xs:=SqL.of (s2 _ _ (s1 _ _ ha));have hS':SqL K H1 b ys:=SqL.of (s2 _ _ (s1 _ _ hb));have l1:=r.length;have l2:=r'.length;rw[zOC];refine⟨fun hi=>⟨xs,ys,xs[i]'(by lia),ys[i]'(by lia),hS,hS',by simp,by simp⟩,fun hi=>⟨xs,ys,hS,hS',by lia⟩,fun x H2 d hd hy=>?_⟩;obtain⟨T,u,v,rfl,hT,rfl,h1,h2⟩:=hy;obtain⟨p,q,g1,g2,rfl⟩:=zOD ds es i d hd;have x1:=Ext.new s2 hT (.tup [u,v]);exact⟨_,x1,T,_,rfl,zA8,_,_,rfl,Rep.mono (s1.trans x1.g) (zCK r g1 (h1 xs hS)),_,_,rfl,Rep.mono (s1.trans x1.g) (zCK r' g2 (h2 ys hS')),rfl⟩
def zc1(A:DA mg E t m 0):DI mg E (iZip Kc.K t) (Mi.iZi m) false:=by
 intro G H σ ρ Q s w p;refine A.step errI s w p fun ds vs G1 H1 S T _ fr o p1=>?_
 have r:=o.repL;cases ds with
 |nil=>exact p1.elim
 |cons a0 r0=>
  cases a0 with
  |lst xs=>
   cases r0 with
   |nil=>exact p1.elim
   |cons b0 r1=>
    cases r1 with
    |cons _ _=>cases b0<;>exact p1.elim
    |nil=>
     cases b0 with
     |lst ys=>
      obtain⟨x,y,rfl,⟨a,us,rfl,ha,ra⟩,⟨b,ws,rfl,hb,rb⟩⟩:=zXY r;exact⟨⟨us,SqL.of (fr.ext.in' _ _ ha)⟩,⟨ws,SqL.of (fr.ext.in' _ _ hb)⟩,p1 _ G1 H1 fr.ext (zbM ha ra hb rb)⟩
     |_=>exact p1.elim
  |_=>rcases r0 with _|⟨_,_|_⟩<;>exact p1.elim
def RMt(r:V->List V->Hp->VK->Prop)(f:Dt->List Dt->Option Dt)(n:Nat):Prop:=∀(mg:Str->Option Value)(E:XK)(G H:Hp)(z:Str)(ds:List Dt)(vs:List V)(Q:VK),Same G H->RepL G ds vs->PostE mg E G H n (optR (f (.str z) ds)) Q->r (.str z) vs H Q
def zSY{r:V->List V->Hp->VK->Prop}{f:Dt->List Dt->Option Dt}(hr:RMt r f n)(A:DE mg E te e k)(B:DA mg E t m 0):DE mg E (tBM Kc.K "str" r te t) (Mi.eMt f e m) n:=by
 intro G H σ ρ Q s w p;refine(zBE A).step errE s w p fun d v G1 H1 S _ fr o p1=>?_
 cases d with
 |str z=>
  cases(show v=.str z from o)
  refine⟨rfl,?_⟩;have p2:PostE mg E G H n (zA3 (m ρ) fun xs=>optR (f (.str z) xs)) Q:=p1;refine B.step (errE.from fr.ext) fr.ext.in' (w.mono fr.ext.g) p2 fun ds vs G2 H2 S2 T2 _ fr2 o2 p3=>?_
  exact hr mg E G2 H2 z ds vs Q fr2.ext.in' o2.repL (PostE.from p3 (fr.ext.trans fr2.ext))
 |_=>exact p1.elim
def zRF{r:V->List V->Hp->VK->Prop}{f:Dt->List Dt->Option Dt}(hf:∀z ds,(∀c,ds≠[.str ⟨#[c]⟩])->f (.str z) ds=none)
  (hr:∀(mg:Str->Option Value)(E:XK)(G H:Hp)(z:Str)(c:Nat)(Q:VK),Same G H->PostE mg E G H n (optR (f (.str z) [.str ⟨#[c]⟩])) Q->r (.str z) [.str ⟨#[c]⟩] H Q):RMt r f n:=by
 intro mg E G H z ds vs Q s h p;by_cases hd:∃c,ds=[.str ⟨#[c]⟩]
 ·obtain⟨c,rfl⟩:=hd;obtain⟨x,rfl,hx⟩:=zDJ h
  cases(show x=.str ⟨#[c]⟩ from hx)
  exact hr mg E G H z c Q s p
 ·rw[hf z ds fun c e=>hd ⟨c,e⟩]at p;exact p.elim
def zK7{f:Dt->List Dt->Option Dt}{z:Str}(h1:f (.str z) []=none)(h2:∀d,(∀y,d≠.str y)->f (.str z) [d]=none)(h3:∀d e r,f (.str z) (d::e::r)=none)(h4:f (.str z) [.str ⟨#[]⟩]=none)(h5:∀a b r,f (.str z) [.str ⟨⟨a::b::r⟩⟩]=none) :
  ∀ds,(∀c,ds≠[.str ⟨#[c]⟩])->f (.str z) ds=none:=by
 intro ds h
 match ds,h with
 |[],_=>exact h1
 |[.str ⟨⟨[]⟩⟩],_=>exact h4
 |[.str ⟨⟨[c]⟩⟩],h=>exact absurd rfl (h c)
 |[.str ⟨⟨a::b::r⟩⟩],_=>exact h5 a b r
 |[.non],_=>exact h2 _ fun _ e=>by cases e
 |[.bl _],_=>exact h2 _ fun _ e=>by cases e
 |[.int _],_=>exact h2 _ fun _ e=>by cases e
 |[.lst _],_=>exact h2 _ fun _ e=>by cases e
 |[.tup _],_=>exact h2 _ fun _ e=>by cases e
 |[.scr _],_=>exact h2 _ fun _ e=>by cases e
 |[.exc _ _ _],_=>exact h2 _ fun _ e=>by cases e
 |[.fn _ _],_=>exact h2 _ fun _ e=>by cases e
 |[.ins _ _],_=>exact h2 _ fun _ e=>by cases e
 |[.dct _],_=>exact h2 _ fun _ e=>by cases e
 |d::e::r,_=>exact h3 d e r
def zXX:RMt zbU Mi.findD n:=zRF (fun z=>zK7 rfl (fun d h=>by cases d<;>first|rfl|exact absurd rfl (h _)) (fun d e r=>by cases d<;>rfl) rfl fun a b r=>rfl) fun mg E G H z c Q s p=>by
 show Q (.int (qN9 z ⟨#[c]⟩)) H;rw[zVA];exact PostE.val p (Ext.refl s) rfl rfl
def zOR:RMt zX4 Mi.countD n:=zRF (fun z=>zK7 rfl (fun d h=>by cases d<;>first|rfl|exact absurd rfl (h _)) (fun d e r=>by cases d<;>rfl) rfl fun a b r=>rfl) fun mg E G H z c Q s p=>by
 show Q (.int (qNf z ⟨#[c]⟩)) H;rw[zT3];exact PostE.val p (Ext.refl s) rfl rfl
def zOL{G:Hp}:∀{ds:List Dt}{zs:List Str}{xs:List V},Mi.strsD ds=some zs->RepL G ds xs->xs=zs.map V.str
 |[],zs,xs,h,r=>by cases h;exact r
 |.str b::ds,zs,xs,h,r=>by
  obtain⟨x,q,rfl,a,c⟩:=r;rw[Mi.strsD]at h;cases e:Mi.strsD ds with
  |none=>rw[e]at h;cases h
  |some cs=>
   rw[e]at h;cases h;rw[zOL e c,show x=.str b from a];rfl
 |.non::_,_,_,h,_=>by simp[Mi.strsD]at h
 |.int _::_,_,_,h,_=>by simp[Mi.strsD]at h
 |.bl _::_,_,_,h,_=>by simp[Mi.strsD]at h
 |.lst _::_,_,_,h,_=>by simp[Mi.strsD]at h
 |.tup _::_,_,_,h,_=>by simp[Mi.strsD]at h
 |.scr _::_,_,_,h,_=>by simp[Mi.strsD]at h
 |.exc _ _ _::_,_,_,h,_=>by simp[Mi.strsD]at h
 |.fn _ _::_,_,_,h,_=>by simp[Mi.strsD]at h
 |.ins _ _::_,_,_,h,_=>by simp[Mi.strsD]at h
 |.dct _::_,_,_,h,_=>by simp[Mi.strsD]at h
def zXW:RMt zbI Mi.joinD n:=by
 intro mg E G H z ds vs Q s h p;cases ds with
 |nil=>exact qA4 p
 |cons hd1 tl1=>
  cases hd1 with
  |lst es=>
   cases tl1 with
   |nil=>
    obtain⟨x,rfl,a,xs,rfl,ha,ra⟩:=zDJ h;have p':PostE mg E G H n (optR (match Mi.strsD es with
     |some zs=>@ite _ ((zs.map (·.length)).sum+zs.length*z.length<=100000) (qA1 _) (some (.str (qKx z zs))) none
     |none=>none)) Q:=p
    cases e:Mi.strsD es with
    |none=>rw[e]at p';exact p'.elim
    |some zs=>
     rw[e]at p';dsimp only at p';split at p'
     ·rename_i hz
      exact⟨zs,by rw[<- zOL e ra];exact s _ _ ha,by lia,PostE.val p' (Ext.refl s) rfl rfl⟩
     ·exact p'.elim
   |cons _ _=>exact qA4 p
  |_=>exact qA4 p
end
end L3
namespace L3
open PySem PySem.Spec
open L2 hiding Rep RepL
open Mi (Dt FM okR)
def sp0(K:qA0)(mg:Str->Option Value)(L:Nat)(f:FM):Sp:=fun vs H Q _=>@spM ⟨K⟩ mg L f vs H Q E0
end L3
namespace Mi
open PySem
def noE{α:Type}(r:R α):R α:=match r with
 |some (.ok a)=>okR a
 |_=>none
def eCallN(f:FM)(am:AM):EM:=fun ρ=>zA3 (am ρ) fun ds=>noE (f ds)
def eMkX(c f:Str)(am:AM):EM:=fun ρ=>zA3 (am ρ) fun ds=>match ds with
 |[d]=>okR (.exc c f d)
 |_=>none
def sRaise(c f:Str)(am:AM):SM:=fun r=>zA3 (am (full r)) fun ds=>match ds with
 |[d]=>some (.error ⟨c,f,d⟩)
 |_=>none
def sRaise0(c:Str)(am:AM):SM:=fun r=>zA3 (am (full r)) fun ds=>@ite _ (ds.length<=1000) (qA1 _) (some (.error ⟨c,"",.non⟩)) none
def eAtX(hs:List Str)(f:Str)(a:EM):EM:=fun ρ=>zA3 (a ρ) fun d=>match d with
 |.exc c g x=>if c∈hs/\g=f then okR x else none
 |_=>none
def eIsX(ys ns:List Str)(a:EM):EM:=fun ρ=>zA3 (a ρ) fun d=>match d with
 |.exc c _ _=>if c∈ys then okR (.bl true)else if c∈ns then okR (.bl false)else none
 |_=>none
def zbS(i:Nat):Out->Out
 |.nx r=>.nx (r.set i none)
 |.rt d=>.rt d
 |.bk r=>.bk (r.set i none)
 |.ct r=>.ct (r.set i none)
end Mi
namespace L3
open PySem PySem.Spec
open L2 hiding Rep RepL
open Mi (Dt Xn R okR zA3 optR zA0 zAD zAH zAE zAG Rh Sl Ro EM TM AM FM IM SM OM Tg Out zAU zAR zB7 full frz frz1 frzAt)
section
variable[Kc]{mg:Str->Option Value}{E:XK}{L n:Nat}{t:TA}{m:AM}
def zVG{f:FM}(A:DA mg E t m 0):DE mg E (zN7 (spM mg n f) [] E0 t) (Mi.eCallN f m) n:=by
 intro G H σ ρ Q s w p;refine A.step errE s w p fun ds vs G1 H1 S T _ fr o p1=>?_
 refine⟨G1,ds,w.tab.trans fr.ext.g,fr.ext.in',by rw[qBv];exact o.repL,?_⟩;have p2:=PostE.from p1 fr.ext;cases e:f ds with
 |none=>rw[e]at p2;exact p2
 |some r=>
  rw[e]at p2;cases r with
  |error x=>exact p2.elim
  |ok d=>exact p2
def zHP(K:qA0)(f:Str):Sp:=fun vs H Q _=>∃e C y,vs=[.ref e,y]/\H e=some (xn e (.ref C) none)/\PySem.W.xcIn K C=true/\XSet K C f/\∀d,H d=none->d≠e->Q .non (upd (upd H d (.xd [(f,y)])) e (xn e (.ref C) (some d)))
def madeX{G H:Hp}{a e C:Addr}{f:Str}{y:V}{d:Dt}{o:HO}(s:Same G H)(ha:H a=none)(he:H e=none)(hne:a≠e)(r:Rep G d y) :
  Ext G H (upd (upd G a (.xd [(f,y)])) e o) (upd (upd H a (.xd [(f,y)])) e o)/\Rep (upd (upd G a (.xd [(f,y)])) e o) d y:=by
 have sg:Same G (upd (upd G a (.xd [(f,y)])) e o):=fun b u hb=>by
  have h1:b≠e:=fun z=>by rw[z]at hb;rw[s _ _ hb]at he;cases he
  have h2:b≠a:=fun z=>by rw[z]at hb;rw[s _ _ hb]at ha;cases ha
  rw[zA5 h1,zA5 h2];exact hb
 have sh:Same H (upd (upd H a (.xd [(f,y)])) e o):=fun b u hb=>by
  have h1:b≠e:=fun z=>by rw[z,he]at hb;cases hb
  have h2:b≠a:=fun z=>by rw[z,ha]at hb;cases hb
  rw[zA5 h1,zA5 h2];exact hb
 refine⟨⟨sg,sh,fun b u hb=>?_,fun b hb=>?_⟩,Rep.mono sg r⟩
 ·by_cases h1:b=e
  ·rw[h1,zA8]at hb;rw[h1,zA8];exact hb
  ·rw[zA5 h1]at hb;rw[zA5 h1]
   by_cases h2:b=a
   ·rw[h2,zA8]at hb;rw[h2,zA8];exact hb
   ·rw[zA5 h2]at hb;rw[zA5 h2];exact s _ _ hb
 ·have h1:b≠e:=fun z=>hb (by rw[z];exact he)
  have h2:b≠a:=fun z=>hb (by rw[z];exact ha)
  rw[zA5 h1,zA5 h2]
def za6{G:Hp}{ds:List Dt}{vs:List V}(r:RepL G ds vs){d:Dt}(h:ds=[d]):∃y,vs=[y]/\Rep G d y:=by
 subst h;obtain⟨x,q,rfl,a,b⟩:=r;cases(show q=[] from b)
 exact⟨x,rfl,a⟩
def zVC{c f:Str}{C:Addr}{E':XK}(hC:clK Kc.K c=some C)(hx:PySem.W.xcIn Kc.K C=true)(hs:XSet Kc.K C f)(A:DA mg E t m 0):DS mg E L (zOG Kc.K E (zOH C (zHP Kc.K f) E' t)) (Mi.sRaise c f m):=by
 intro G0 H0 S0 σ ρ G H As D a p;obtain⟨J,x,s,w⟩:=a.full;refine A.step (errS.from x) x.in' w p fun ds vs G1 H1 S T _ fr o p1=>?_
 cases ds with
 |nil=>exact qA4 p1
 |cons d tl1=>
  cases tl1 with
  |nil=>
   obtain⟨y,rfl,r⟩:=za6 o.repL rfl;refine⟨by show 1<=sizeLine;decide,fun e he=>⟨e,C,y,rfl,zA8,hx,hs,fun b hb hne=>⟨rfl,e,C,some b,rfl,zA8,hx,?_⟩⟩⟩;have hb':H1 b=none:=by rw[zA5 hne]at hb;exact hb
   have hu:upd (upd (upd (upd H1 e (xn e (.ref C) none)) b (.xd [(f,y)])) e (xn e (.ref C) (some b))) e (xo e (.ref C) (some b))=upd (upd H1 b (.xd [(f,y)])) e (xo e (.ref C) (some b)):=by
    funext z;by_cases h1:z=e
    ·rw[h1,zA8,zA8]
    ·rw[zA5 h1,zA5 h1,zA5 h1]
     by_cases h2:z=b
     ·rw[h2,zA8,zA8]
     ·rw[zA5 h2,zA5 h2,zA5 h1]
   rw[hu];obtain⟨x2,r'⟩:=madeX (C:=C) (f:=f) (o:=xo e (.ref C) (some b)) fr.ext.in' hb' he hne r;exact p1 (.ref e) (some b) _ _ ((x.trans fr.ext).trans x2) ⟨e,C,rfl,zA8,hC,.inr ⟨b,_,y,rfl,by rw[zA5 hne,zA8],by simp[qB7],r'⟩⟩
  |cons _ _=>exact qA4 p1
end
section
variable{K:qA0}{C:Addr}{dd:Option Addr}{cd:qMs}{sl:Array (Option Value)}
def xcD(C:Addr)(cd:qMs)(sl:Array (Option Value)):Bool:=match cd.mro,sl.toList with
 |.ref C'::bm,[_,_,_,_,some (.builtin n),_]=>C'==C && !cd.hasDel&&PySem.W.excTail bm&&n == "ValueError.__new__" && cd.hasDict
 |_,_=>false
def zN2(h:K.lookup C=some ⟨.type "type",dd,.cls cd,sl⟩)(h':xcD C cd sl=true):PySem.W.xcIn K C=true:=by
 unfold PySem.W.xcIn;rw[h];exact h'
def zY6(h:qCg K C=some cd)(h':PySem.W.excTail cd.mro=true):PySem.W.excOver K C=true:=by
 unfold PySem.W.excOver;rw[h];exact h'
end
structure XCls(K:qA0)(mg:Str->Option Value)(c:Str)(C:Addr):Prop where
 cl:clK K c=some C
 gm:mg c=some (.ref C)
 is:Xc.XIs K C
structure XIni(P:qIo)(w:World)(K:qA0)(mg:Str->Option Value)(base:Heap)(c f:Str)(C:Addr):Prop extends XCls K mg c C where
 kp:qAk K (.ref C)=true
 st:XSet K C f
 fa:qA8 K (.ref C) f=some none
 ini:∃fI fd ps,qA8 K (.ref C) "__init__" = some (some (.ref fI))/\qBd K (.ref fI)=true/\FnOk P w K mg base (CXe P w) 1 fI fd ps (zHP K f)/\Binds K fd ps []
def zaS{X:Cx}{c f:Str}{C:Addr}{k:Nat}{E:XK}{e:Expr}{es:List Expr}{t:TA}{p pos:Pos}(h:XIni X.prog X.w X.K X.mg X.base c f C)(hr:Room k X.A)(hk:2<=k)(hf:Flies X E)(hg:Gl X c)(ha:PA X (e::es) t)(hdb:(c==("__debug__":Str))=false:=by decide)
  (he:starEach (e::es) X.env=(false,eval e X.env)::starEach es X.env:=by rfl) (hpl:(backTo pos (starEach es X.env)).any (·.1)=false:=by rfl):PE X (.Call (.Name c p) (e::es) [] pos) (zOH C (zHP X.K f) E t):=by
 obtain⟨fI,fd,ps,h1,h2,F,hb⟩:=h.ini;exact zUA h.is.xc h1 h2 F (hr.mono hk) hb hf.passes hg h.gm h.kp ha hdb he hpl
def zV2{K:qA0}{f a0 a1:Str}{vs:List V}{H:Hp}{Q:VK}{E:XK}(h:zHP K f vs H Q E) :
  tSeq (zN6 (zW1 K (zE1 (tVar 0) (zE1 (tVar 1) tNil)))) (zW5 K (tVar 0) (tVar 1) f) { nx:=fun _ H'=>Q .non H',rt:=Q } (start [a0,a1] vs) H:=by
 obtain⟨e,C,y,rfl,he,hx,hs,q⟩:=h;exact⟨.ref e,rfl,y,rfl,e,C,none,[y],rfl,he,hx,(by show 1<=sizeLine;decide),y,rfl,.ref e,rfl,e,C,rfl,he,hs,q⟩
def zV3{K:qA0}{f:Str}{ps:List Str}(hp:ps.length=2):∀vs H Q E,zHP K f vs H Q E->vs.length=ps.length:=by
 rintro vs H Q E ⟨e,C,y,rfl,_⟩
 rw[hp];rfl
def zH8{K:qA0}{c:Str}{C:Addr}(h:qAu K qIn c=some (some (.ref C))):clK K c=some C:=by unfold clK;rw[h]
def zdI:qE9 (.builtin "ValueError.__init__")=true:=by decide +kernel
def zdH:Stmt->Stmt
 |.ClassDef _ _ _ body _ _ _ _ _ _ _=>body.getD 0 (.Pass ⟨0,0,0,0⟩)
 |s=>s
def spE(K:qA0)(mg:Str->Option Value)(L:Nat)(f:Mi.FM):Sp:=fun vs H Q E=>@spM ⟨K⟩ mg L f vs H Q E
section
variable[Kc]{mg:Str->Option Value}{E:XK}{L n:Nat}{t:TA}{m:AM}
def zEU{f:FM}{E':XK}(A:DA mg E t m 0):DE mg E (zN7 (sp0 Kc.K mg n f) [] E' t) (Mi.eCallN f m) n:=zVG A
def zDA{f:FM}(A:DA mg E t m 0):DE mg E (zN7 (spE Kc.K mg n f) [] E t) (Mi.eCall f m) n:=zC6 A
def zSR{P:qIo}{w:World}{base:Heap}{c f:Str}{C:Addr}{E':XK}(h:XIni P w Kc.K mg base c f C)(A:DA mg E t m 0):DS mg E L (zOG Kc.K E (zOH C (zHP Kc.K f) E' t)) (Mi.sRaise c f m):=zVC h.cl h.is.xc h.st A
end
def zJ2(K:qA0):Sp:=fun vs H Q _=>∃(a:Addr)(ns:List Int),vs=[.ref a]/\Same (tabK K) H/\SqL K H a (ns.map V.int)/\ns.length<=63/\(∀i∈ns,i.natAbs.log2<2 ^ 20)/\∀H',Same (tabK K) H'->Q (.bl true) H'
def zUV{K:qA0}{mg:Str->Option Value}{L:Nat}{f:FM}(hf:∀ns:List Int,ns.length<=63->(∀i∈ns,i.natAbs.log2<2 ^ 20)->f [.scr ns]=okR (.bl true)):∀vs H Q E,zJ2 K vs H Q E->sp0 K mg L f vs H Q E:=by
 letI:Kc:=⟨K⟩
 rintro vs H Q E ⟨a,ns,rfl,tb,hS,hl,hw,q⟩
 refine⟨H,[.scr ns],tb,Same.refl _,⟨_,_,rfl,⟨a,rfl,.inl hS⟩,rfl⟩,?_⟩;rw[hf ns hl hw];intro v G' H' S fr o;cases(show v=.bl true by cases L<;>exact o)
 exact q H' (tb.trans fr.ext.h)
end L3
namespace Mi
open PySem
section
variable(ρ:Rh)(r:Ro)(a b c:EM)(s t:SM)(q q':TM)(am:AM)
@[simp] theorem x_eC(d:Dt):eC d ρ=okR d:=rfl
@[simp] theorem x_eV(i:Nat):eV i ρ=match ρ[i]? with|some (some d)=>okR d|_=>none:=rfl
@[simp] theorem x_eB(f:Dt->Dt->Option Dt):eB f a b ρ=zA3 (a ρ) fun x=>zA3 (b ρ) fun y=>optR (f x y):=rfl
@[simp] theorem x_eU(f:Dt->Option Dt):eU f a ρ=zA3 (a ρ) fun x=>optR (f x):=rfl
@[simp] theorem zED:aNil ρ=okR []:=rfl
@[simp] theorem zBS:aCons a am ρ=zA3 (a ρ) fun x=>zA3 (am ρ) fun xs=>okR (x::xs):=rfl
@[simp] theorem zJL(f:FM):eCall f am ρ=zA3 (am ρ) f:=rfl
@[simp] theorem zXD(f:List Dt->Option Dt):eBi f am ρ=zA3 (am ρ) fun xs=>optR (f xs):=rfl
@[simp] theorem x_eLst:eLst am ρ=zA3 (am ρ) fun xs=>@ite _ (xs.length<=100000) (qA1 _) (okR (.lst xs)) none:=rfl
@[simp] theorem x_eTup:eTup am ρ=zA3 (am ρ) fun xs=>@ite _ (xs.length<=100000) (qA1 _) (okR (.tup xs)) none:=rfl
@[simp] theorem x_eIsi(n:String):eIsi n a ρ=zA3 (a ρ) fun x=>optR (isiD n x):=rfl
@[simp] theorem x_eAnd:eAnd a b ρ=zA3 (a ρ) fun x=>match x with | .bl k=>if k=true then b ρ else okR (.bl false)|_=>none:=rfl
@[simp] theorem x_eOr:eOr a b ρ=zA3 (a ρ) fun x=>match x with | .bl k=>if k=true then okR (.bl true)else b ρ|_=>none:=rfl
@[simp] theorem x_eNot:eNot a ρ=zA3 (a ρ) fun x=>match x with | .bl k=>okR (.bl (!k))|_=>none:=rfl
@[simp] theorem x_eChain(f g:Dt->Dt->Option Dt):zbX f g a b c ρ=zA3 (a ρ) fun x=>zA3 (b ρ) fun y=>zA3 (optR (f x y)) fun z=>match z with | .bl k=>if k=true then zA3 (c ρ) fun w=>optR (g y w)else okR (.bl false)|_=>none:=rfl
@[simp] theorem x_eIf:eIf q a b ρ=zA3 (q ρ) fun k=>if k=true then a ρ else b ρ:=rfl
@[simp] theorem x_tB:tB a ρ=zA3 (a ρ) fun x=>match x with | .bl k=>okR k|_=>none:=rfl
@[simp] theorem x_tM:tM a ρ=zA3 (a ρ) fun x=>match x with | .bl k=>okR k | .int i=>okR (i != 0) | .non=>okR false|_=>none:=rfl
@[simp] theorem zZK:tAn q q' ρ=zA3 (q ρ) fun k=>if k=true then q' ρ else okR false:=rfl
@[simp] theorem zZJ:tOr q q' ρ=zA3 (q ρ) fun k=>if k=true then okR true else q' ρ:=rfl
@[simp] theorem zcM:tNo q ρ=zA3 (q ρ) fun k=>okR (!k):=rfl
@[simp] theorem zZI:tYes ρ=okR true:=rfl
@[simp] theorem zVX:sNil r=okR (.nx r):=rfl
@[simp] theorem zJ1:sSeq s t r=zA3 (s r) fun o=>match o with | .nx ρ'=>t ρ'|o=>okR o:=rfl
@[simp] theorem zQM:sIf q s t r=zA3 (q (full r)) fun k=>if k=true then s r else t r:=rfl
@[simp] theorem x_sDrop:zd2 a r=zA3 (a (full r)) fun _=>okR (.nx r):=rfl
@[simp] theorem x_sBreak:za0 r=okR (.bk r):=rfl
@[simp] theorem x_sCont:zd4 r=okR (.ct r):=rfl
@[simp] theorem x_sNever:zZZ r=none:=rfl
@[simp] theorem x_sRetN:zd0 r=okR (.rt .non):=rfl
@[simp] theorem zKY(i n:Nat)(vs:List Nat):sSet i n vs a r=zA3 (a (full r)) fun d=>if d.dep<=n then okR (.nx (r.set i (some (d,n))))else zA3 (a (frz (frzAt vs r))) fun d'=>okR (.nx ((frzAt vs r).set i (some (d',n)))):=rfl
@[simp] theorem zVW(L n:Nat)(vs:List Nat):sRet L n vs a r=zA3 (a (full r)) fun d=>if d.dep<=n/\d.dep<=L then okR (.rt d)else if n=L then zA3 (a (frz (frzAt vs r))) fun d'=>okR (.rt d')else none:=rfl
@[simp] theorem x_sRetV(L i:Nat):sRetV L i r=match r[i]? with|some (some (d,k))=>if k=L\/L=0\/(d.dep<=k/\d.dep<=L/\k<1000)then okR (.rt d)else none|_=>none:=rfl
@[simp] theorem zGD:full []=[]:=rfl
@[simp] theorem zF5(o:Option Sl)(r:Ro):full (o::r)=o.map qI9::full r:=rfl
@[simp] theorem x_frz_nil:frz []=[]:=rfl
@[simp] theorem x_frz_none(r:Ro):frz (none::r)=none::frz r:=rfl
@[simp] theorem x_frz_some(d:Dt)(n:Nat)(r:Ro):frz (some (d,n)::r)=(if n=0\/d.dep=0 then some d else none)::frz r:=rfl
@[simp] theorem x_frzAt_nil(r:Ro):frzAt [] r=r:=rfl
@[simp] theorem x_frzAt_cons(i:Nat)(v:List Nat)(r:Ro):frzAt (i::v) r=frzAt v (frz1 i r):=rfl
@[simp] theorem x_frz1(i:Nat)(r:Ro):frz1 i r=match r[i]? with|some (some (d,_))=>r.set i (some (d,0))|_=>r:=rfl
@[simp] theorem x_startO(n:Nat)(ds:List Dt):startO n ds=ds.map (fun d=>some (d,0))++qA7 (n-ds.length) none:=rfl
@[simp] theorem x_runF(P n:Nat)(ds:List Dt):runF P n s ds=if ds.length=P then zA3 (s (startO n ds)) endF else none:=rfl
@[simp] theorem x_end1(r:Ro):endF (.nx r)=okR .non:=rfl
@[simp] theorem x_end2(d:Dt):endF (.rt d)=okR d:=rfl
end
@[simp] theorem zZN(i j:Int):addD (.int i) (.int j)=some (.int (i+j)):=rfl
@[simp] theorem zQU(i j:Str):addD (.str i) (.str j)=@ite _ (i.length+j.length<=100000) (qA1 _) (some (.str (i++j))) none:=rfl
@[simp] theorem v_addL(i j:List Dt):addD (.lst i) (.lst j)=@ite _ (i.length+j.length<=100000) (qA1 _) (some (.lst (i++j))) none:=rfl
@[simp] theorem v_sub(i j:Int):subD (.int i) (.int j)=some (.int (i-j)):=rfl
@[simp] theorem zXH(i j:Int):mulD (.int i) (.int j)=@ite _ (((-18446744073709551616<i/\i<18446744073709551616)\/(-18446744073709551616<j/\j<18446744073709551616))\/i.natAbs.log2+j.natAbs.log2<=67108864) (qA1 _) (some (.int (i*j))) none:=rfl
@[simp] theorem v_div(i j:Int):divD (.int i) (.int j)=@ite _ (0<j/\j<1000000000000000000000000) (qA1 _) (some (.int (i/j))) none:=rfl
@[simp] theorem zQT(i j:Int):modD (.int i) (.int j)=if 0<j then some (.int (i%j))else none:=rfl
@[simp] theorem v_pow(i j:Int):powD (.int i) (.int j)=@ite _ (0<=j/\j<=1000000/\i.natAbs<18446744073709551616) (qA1 _) (some (.int (i ^ j.toNat))) none:=rfl
@[simp] theorem v_neg(i:Int):negD (.int i)=some (.int (-i)):=rfl
@[simp] theorem v_cmp(p:Int->Int->Bool)(i j:Int):cmpD p (.int i) (.int j)=some (.bl (p i j)):=rfl
@[simp] theorem v_eq(x y:Dt):eqD x y=if x.dep<=40/\y.dep<=40 then some (.bl (Dt.eq x y))else none:=rfl
@[simp] theorem v_ne(x y:Dt):neD x y=if x.dep<=40/\y.dep<=40 then some (.bl (!Dt.eq x y))else none:=rfl
@[simp] theorem v_is(x:Dt):isD x .non=some (.bl (zF3 x)):=rfl
@[simp] theorem v_isnt(x:Dt):zdG x .non=some (.bl (!zF3 x)):=rfl
@[simp] theorem v_isN1:zF3 .non=true:=rfl
@[simp] theorem v_isN2(i:Int):zF3 (.int i)=false:=rfl
@[simp] theorem v_isN3(i:List Dt):zF3 (.lst i)=false:=rfl
@[simp] theorem v_isN4(i:List Dt):zF3 (.tup i)=false:=rfl
@[simp] theorem v_isN5(i:Str):zF3 (.str i)=false:=rfl
@[simp] theorem v_isN6(i:Bool):zF3 (.bl i)=false:=rfl
@[simp] theorem zFK(xs:List Dt)(i:Int):ixD (.lst xs) (.int i)=itA xs i:=rfl
@[simp] theorem zN3(xs:List Dt)(i:Int):ixD (.tup xs) (.int i)=itA xs i:=rfl
@[simp] theorem v_ixS(ns:List Int)(i:Int):ixD (.scr ns) (.int i)=(itA ns i).map .int:=rfl
@[simp] theorem v_lenL(xs:List Dt):lenD [.lst xs]=some (.int xs.length):=rfl
@[simp] theorem v_lenT(xs:List Dt):lenD [.tup xs]=some (.int xs.length):=rfl
@[simp] theorem v_lenS(ns:List Int):lenD [.scr ns]=some (.int ns.length):=rfl
@[simp] theorem v_listL(xs:List Dt):listD [.lst xs]=some (.lst xs):=rfl
@[simp] theorem v_listT(xs:List Dt):listD [.tup xs]=some (.lst xs):=rfl
@[simp] theorem v_listS(ns:List Int):listD [.scr ns]=some (.lst (ns.map .int)):=rfl
def zXG{j:Int}(h0:0<=j)(h1:j<=100000):rangeD [.int j]=some (.lst (nums 0 j.toNat)):=by
 show(@ite _ ((-4611686018427387904<=j/\j<4611686018427387904)/\j<=100000) (qA1 _) (some (Dt.lst (nums 0 j.toNat))) none)=_;rw[if_pos ⟨⟨by lia,by lia⟩,h1⟩]
@[simp] theorem v_dn:Dt.non.dep=0:=rfl
@[simp] theorem v_db(b:Bool):(Dt.bl b).dep=0:=rfl
@[simp] theorem v_di(b:Int):(Dt.int b).dep=0:=rfl
@[simp] theorem v_ds(b:Str):(Dt.str b).dep=0:=rfl
@[simp] theorem v_dS(b:List Int):(Dt.scr b).dep=1000:=by rw[Dt.dep]
@[simp] theorem v_dl(xs:List Dt):(Dt.lst xs).dep=Dt.depL xs+1:=by rw[Dt.dep]
@[simp] theorem v_dt(xs:List Dt):(Dt.tup xs).dep=Dt.depL xs+1:=by rw[Dt.dep]
@[simp] theorem v_dnil:Dt.depL []=0:=by rw[Dt.depL]
@[simp] theorem zGE(x:Dt)(r:List Dt):Dt.depL (x::r)=max x.dep (Dt.depL r):=by rw[Dt.depL]
@[simp] theorem v_e1(i j:Int):Dt.eq (.int i) (.int j)=decide (i=j):=by rw[Dt.eq];by_cases h:i=j<;>simp[h]
@[simp] theorem v_e2(i j:Str):Dt.eq (.str i) (.str j)=decide (i=j):=by rw[Dt.eq];by_cases h:i=j<;>simp[h]
@[simp] theorem v_e3(i j:Bool):Dt.eq (.bl i) (.bl j)=decide (i=j):=by rw[Dt.eq];by_cases h:i=j<;>simp[h]
@[simp] theorem v_e4(i j:List Dt):Dt.eq (.lst i) (.lst j)=Dt.eqL i j:=by rw[Dt.eq]
@[simp] theorem v_e5(i j:List Dt):Dt.eq (.tup i) (.tup j)=Dt.eqL i j:=by rw[Dt.eq]
@[simp] theorem v_e6:Dt.eq .non .non=true:=by rw[Dt.eq]
@[simp] theorem zEM:∀(ns:List Int),Dt.depL (ns.map Dt.int)=0
 |[]=>by simp
 |n::r=>by rw[qAm,zGE,zEM r];rfl
@[simp] theorem zVF:∀(xs ys:List Dt),Dt.depL (xs++ys)=max (Dt.depL xs) (Dt.depL ys)
 |[],ys=>by simp
 |x::r,ys=>by rw[qB8,zGE,zGE,zVF r ys];exact(Nat.max_assoc _ _ _).symm
@[simp] theorem zHC:∀(ns ms:List Int),Dt.eqL (ns.map Dt.int) (ms.map Dt.int)=decide (ns=ms)
 |[],[]=>by simp[Dt.eqL]
 |[],_::_=>by simp[Dt.eqL]
 |_::_,[]=>by simp[Dt.eqL]
 |n::r,m::q=>by rw[qAm,qAm,Dt.eqL,zHC r q,v_e1];simp
def zCD{α:Type}{xs:List α}{i:Int}{j:Nat}{v:α}(e:i=(j:Int))(h:xs[j]?=some v):itA xs i=some v:=by
 have hj:j<xs.length:=(qA2.mp h).1;subst e;unfold itA ixA;rw[if_pos (by lia),if_pos (by lia)]
 simpa using h
def zM5{n:Nat}{i:Int}(h0:0<=i)(h1:i<n):ixA n i=some i.toNat:=by
 unfold ixA;rw[if_pos h0,if_pos h1]
def zUZ{ns:List Int}{i:Int}(h0:0<=i)(h1:i<ns.length):itA (ns.map Dt.int) i=some (.int (ns.getD i.toNat 0)):=by
 refine zCD (j:=i.toNat) (by lia) ?_;rw[qAd,qA3,qA6 (by lia)];rfl
def zYQ{ns:List Int}{i:Int}(h0:0<=i)(h1:i<ns.length):itA ns i=some (ns.getD i.toNat 0):=by
 refine zCD (j:=i.toNat) (by lia) ?_;rw[qA3,qA6 (by lia)];rfl
@[simp] theorem set_int(ns:List Int)(i:Nat)(x:Int):(ns.map Dt.int).set i (.int x)=(ns.set i x).map Dt.int:=by rw[qFq]
def zPI{ρ:Rh}{k:Nat}{tg:Tg}{c:TM}{e:EM}(f:Dt->Dt):∀(ds acc:List Dt),(∀d∈ds,∃bs,zAU tg d=some bs/\c (zAR (ρ++qA7 k none) bs)=okR true/\e (zAR (ρ++qA7 k none) bs)=okR (f d))->compGo ρ k tg c e ds acc=okR (acc++ds.map f)
 |[],acc,_=>by simp[compGo]
 |d::ds,acc,h=>by
  obtain⟨bs,h1,h2,h3⟩:=h d (by simp);rw[compGo,h1];simp only;rw[h2,zA0,if_pos rfl,h3,zA0,zPI f ds (acc++[f d]) fun d hd=>h d (by simp[hd])];simp
def zEA{ρ:Rh}{k:Nat}{tg:Tg}{c:TM}{e:EM}(p:Dt->Bool)(f:Dt->Dt):∀(ds acc:List Dt),(∀d∈ds,∃bs,zAU tg d=some bs/\c (zAR (ρ++qA7 k none) bs)=okR (p d)/\(p d=true->e (zAR (ρ++qA7 k none) bs)=okR (f d)))->compGo ρ k tg c e ds acc=okR (acc++(ds.filter p).map f)
 |[],acc,_=>by simp[compGo]
 |d::ds,acc,h=>by
  obtain⟨bs,h1,h2,h3⟩:=h d (by simp);rw[compGo,h1];simp only;rw[h2,zA0];cases hp:p d with
  |true=>
   rw[if_pos rfl,h3 hp,zA0,zEA p f ds (acc++[f d]) fun d hd=>h d (by simp[hd])];simp[hp]
  |false=>
   rw[if_neg (by decide),zEA p f ds acc fun d hd=>h d (by simp[hd])];simp[hp]
def zIB{tg:Tg}{b:SM}(Pv:Nat->Ro->Prop):∀(ds:List Dt)(i:Nat)(r:Ro),Pv i r->(∀(j:Nat)(d:Dt)(r:Ro),ds[j]?=some d->Pv (i+j) r->∃bs r',zAU tg d=some bs/\b (zB7 r bs)=okR (.nx r')/\Pv (i+j+1) r') ->
  ∃r',forGo tg b ds r=okR (.nx r')/\Pv (i+ds.length) r'
 |[],i,r,h,_=>⟨r,by simp[forGo],by simpa using h⟩
 |d::ds,i,r,h,hs=>by
  obtain⟨bs,r1,h1,h2,h3⟩:=hs 0 d r (by simp) (by simpa using h);obtain⟨r2,h4,h5⟩:=zIB Pv ds (i+1) r1 (by simpa using h3) fun j e r he hp=>by
   have:=hs (j+1) e r (by simpa using he) (by rw[show i+(j+1)=i+1+j by lia];exact hp)
   rw[show i+1+j+1=i+(j+1)+1 by lia];exact this
  refine⟨r2,?_,by rw[qAn,show i+(ds.length+1)=i+1+ds.length by lia];exact h5⟩;rw[forGo,h1];simp only;rw[h2,zA0];exact h4
section
variable(ρ:Rh)(r:Ro)(a:EM)(am:AM)(s:SM)
@[simp] theorem x_noE_ok{α:Type}(x:α):noE (okR x)=okR x:=rfl
@[simp] theorem x_noE_none{α:Type}:noE (none:R α)=none:=rfl
@[simp] theorem x_noE_err{α:Type}(e:Xn):noE (some (.error e):R α)=none:=rfl
@[simp] theorem x_eCallN(f:FM):eCallN f am ρ=zA3 (am ρ) fun ds=>noE (f ds):=rfl
@[simp] theorem x_eMkX(c f:Str):eMkX c f am ρ=zA3 (am ρ) fun ds=>match ds with|[d]=>okR (.exc c f d)|_=>none:=rfl
@[simp] theorem x_sRaise(c f:Str):sRaise c f am r=zA3 (am (full r)) fun ds=>match ds with|[d]=>some (.error ⟨c,f,d⟩)|_=>none:=rfl
@[simp] theorem x_eAtX(hs:List Str)(f:Str):eAtX hs f a ρ=zA3 (a ρ) fun d=>match d with | .exc c g x=>if c∈hs/\g=f then okR x else none|_=>none:=rfl
@[simp] theorem x_eIsX(ys ns:List Str):eIsX ys ns a ρ=zA3 (a ρ) fun d=>match d with | .exc c _ _=>if c∈ys then okR (.bl true)else if c∈ns then okR (.bl false)else none|_=>none:=rfl
@[simp] theorem x_gone_nx(i:Nat):zbS i (.nx r)=.nx (r.set i none):=rfl
@[simp] theorem x_gone_rt(i:Nat)(d:Dt):zbS i (.rt d)=.rt d:=rfl
end
example (d:Dt):True:=trivial
end Mi
namespace L3
open PySem PySem.Spec
open L2 hiding Rep RepL
open Mi (Dt Xn R okR zA3 optR zA0 zAD zAH zAE zAG Rh Sl Ro EM TM AM FM IM SM Tg Out zAU zAR zB7 full frz frz1 frzAt)
section
variable[Kc]
end
section
variable[Kc]
end
end L3
namespace L2
open PySem PySem.Spec PyProof.Rows
section
variable{X:Cx}
def za7:R2:=fun x y H Q=>match x,y with
 |.int i,.int j=>Q (.int (qKc i j)) H
 |_,_=>False
def zcR:OpR X (binaryOp .BitXor) za7:=by
 intro pins s σ H x y v u Q I rx ry h;cases x<;>cases y<;>first
  |exact zaW pins s σ H _ _ v u Q I rx ry ⟨_,_,rfl,rfl,h⟩
  |exact qA4 h
def zaB:R2:=fun x y H Q=>match x,y with
 |.ref l,.int k=>∃xs,H l=some (.lst xs)/\(-(2 ^ 63)<=k/\k<2 ^ 63)/\xs.length*k.toNat<=sizeLine/\∀p,H p=none->Q (.ref p) (upd H p (.lst (qA7 k.toNat xs).flatten))
 |_,_=>False
def zcT:OpR X (binaryOp .Mult) zaB:=by
 intro pins s σ H x y v u Q I rx ry h;cases x<;>cases y<;>first
  |(obtain⟨xs,h1,h2,h3,h4⟩:=h;exact zaY pins s σ H _ _ v u Q I rx ry ⟨_,_,xs,rfl,rfl,h1,h2.1,h2.2,h3,h4⟩)
  |exact qA4 h
end
section
end
end L2
namespace Mi
open PySem
def xorD:Dt->Dt->Option Dt
 |.int i,.int j=>some (.int (qKc i j))
 |_,_=>none
def repD:Dt->Dt->Option Dt
 |.lst xs,.int k=>@ite _ ((-4611686018427387904<=k/\k<4611686018427387904)/\xs.length*k.toNat<=100000) (qA1 _) (some (.lst (qA7 k.toNat xs).flatten)) none
 |_,_=>none
def tL(a:EM):TM:=fun ρ=>zA3 (a ρ) fun x=>match x with
 |.bl k=>okR k
 |.int i=>okR (i != 0)
 |.non=>okR false
 |.lst xs=>okR (!xs.isEmpty)
 |.tup xs=>okR (!xs.isEmpty)
 |_=>none
def iRv(e:AM):IM:=fun ρ=>zA3 (e ρ) fun vs=>match vs with
 |[.lst xs]=>okR xs.reverse
 |_=>none
def intsD:List Dt->Option (List Int)
 |[]=>some []
 |.int i::r=>(intsD r).map (i::·)
 |_::_=>none
def eMl(f:List Dt->List Dt->Option Dt)(a:EM)(am:AM):EM:=fun ρ=>zA3 (a ρ) fun x=>match x with
 |.lst xs=>zA3 (am ρ) fun ds=>optR (f xs ds)
 |_=>none
def sExt(i n:Nat)(e:EM):SM:=fun ρ=>match ρ[i]? with
 |some (some (.lst ds,k+1))=>zA3 (e (full ρ)) fun d=>match d with
  |.lst es=>@ite _ (ds.length+es.length<=100000/\Dt.depL es<=n/\Dt.depL es<=k) (qA1 _) (okR (.nx (ρ.set i (some (.lst (ds++es),k+1))))) none
  |_=>none
 |_=>none
def low(i:Nat)(ρ:Ro):Ro:=match ρ[i]? with
 |some (some (.lst ds,_+1))=>ρ.set i (some (.lst ds,1))
 |_=>ρ
def za1(i:Nat)(vs:List Nat)(e:EM):SM:=fun ρ=>match(frzAt vs (low i ρ))[i]? with
 |some (some (.lst ds,1))=>zA3 (e (frz (frzAt vs (low i ρ)))) fun d=>@ite _ (ds.length<=100000) (qA1 _) (okR (.nx ((frzAt vs (low i ρ)).set i (some (.lst (ds++[d]),1))))) none
 |_=>none
end Mi
namespace L3
open PySem PySem.Spec
open L2 hiding Rep RepL
open Mi (Dt Xn R okR zA3 optR zA0 zAD zAH zAE zAG Rh Sl Ro EM TM AM FM IM SM Tg Out zAU zAR zB7 full frz frz1 frzAt)
section
variable[Kc]{n k:Nat}
def za3:ROp za7 Mi.xorD n:=by
 intro mg E G H d e x y Q s h1 h2 p;cases d with
 |int i=>
  cases e with
  |int j=>cases(show x=.int i from h1);cases(show y=.int j from h2);exact zRH s p rfl rfl rfl
  |_=>exact p.elim
 |_=>exact p.elim
def zU4{G:Hp}{ds es:List Dt}{xs ys:List V}(ra:RepL G ds xs)(rb:RepL G es ys):RepL G (ds++es) (xs++ys):=by
 refine zFA (by simp[ra.length,rb.length]) fun j d' x' e1 e2=>?_
 by_cases hj:j<ds.length
 ·rw[qAf hj]at e1;rw[qAf (by rw[ra.length];exact hj)]at e2;exact zCK ra e1 e2
 ·rw[qAc (by lia)]at e1;rw[qAc (by rw[ra.length];lia),ra.length]at e2;exact zCK rb e1 e2
def zOT{G:Hp}{ds:List Dt}{xs:List V}(r:RepL G ds xs):∀k:Nat,RepL G (qA7 k ds).flatten (qA7 k xs).flatten
 |0=>rfl
 |k+1=>by rw[qBa,qBa,qCm,qCm];exact zU4 r (zOT r k)
def za4:ROp zaB Mi.repD 1:=by
 intro mg E G H d e x y Q s h1 h2 p;cases d with
 |lst ds=>
  cases e with
  |int j=>
   obtain⟨a,xs,rfl,ha,ra⟩:=h1;cases(show y=.int j from h2)
   rw[Mi.repD]at p;split at p
   ·rename_i hz
    exact⟨xs,s _ _ ha,⟨by lia,by lia⟩,by rw[ra.length];exact big' hz.2,fun q hq=>PostE.lst p (Ext.refl s) (zOT ra _) hq⟩
   ·exact p.elim
  |_=>exact p.elim
 |_=>exact p.elim
def intsD_rep{G:Hp}:∀{ds:List Dt}{ns:List Int}{xs:List V},Mi.intsD ds=some ns->RepL G ds xs->xs=ns.map V.int
 |[],ns,xs,h,r=>by cases h;exact r
 |d::q,ns,xs,h,r=>by
  cases d with
  |int i=>
   rw[Mi.intsD]at h;cases e:Mi.intsD q with
   |none=>rw[e]at h;cases h
   |some ms=>
    rw[e]at h;cases h;obtain⟨x,t,rfl,a,b⟩:=r;cases(show x=.int i from a)
    rw[intsD_rep e b];rfl
  |_=>cases h
end
section
variable[Kc]
end
section
variable[Kc]
end
structure XNo(K:qA0)(mg:Str->Option Value)(c:Str)(C:Addr):Prop extends XCls K mg c C where
 kp:qAk K (.ref C)=true
 ini:qA8 K (.ref C) "__init__" = some (some (.builtin "ValueError.__init__"))
def zWH{X:Cx}{c:Str}{C:Addr}{e:Expr}{es:List Expr}{t:TA}{p pos:Pos}(h:XNo X.K X.mg c C)(hg:Gl X c)(ha:PA X (e::es) t)(hdb:(c==("__debug__":Str))=false:=by decide)
  (he:starEach (e::es) X.env=(false,eval e X.env)::starEach es X.env:=by rfl) (hpl:(backTo pos (starEach es X.env)).any (·.1)=false:=by rfl):PE X (.Call (.Name c p) (e::es) [] pos) (zN5 C t):=
 zRR h.is.xc h.ini hg h.gm h.kp ha hdb he hpl
section
variable[Kc]{mg:Str->Option Value}{E:XK}{L:Nat}{t:TA}{m:AM}
def zMD{c:Str}{C:Addr}(h:XNo Kc.K mg c C)(A:DA mg E t m 0):DS mg E L (zOG Kc.K E (zN5 C t)) (Mi.sRaise0 c m):=by
 intro G0 H0 S0 σ ρ G H As D a p;obtain⟨J,x,s,w⟩:=a.full;refine A.step (errS.from x) x.in' w p fun ds vs G1 H1 S T _ fr o p1=>?_
 split at p1
 ·rename_i hz
  refine⟨by rw[o.len];exact big' (by lia),fun e he=>⟨e,C,none,rfl,zA8,h.is.xc,?_⟩⟩;have hu:upd (upd H1 e (xn e (.ref C) none)) e (xo e (.ref C) none)=upd H1 e (xo e (.ref C) none):=by
   funext z;by_cases h1:z=e
   ·rw[h1,zA8,zA8]
   ·rw[zA5 h1,zA5 h1,zA5 h1]
  rw[hu];exact p1 (.ref e) none _ _ ((x.trans fr.ext).trans (Ext.new fr.ext.in' he _)) ⟨e,C,rfl,zA8,h.cl,.inl ⟨rfl,rfl⟩⟩
 ·exact p1.elim
end
end L3
namespace L2
open PySem PySem.Spec PyProof.Rows
section
variable{X:Cx}
def zGW(z:Str):List V:=z.cps.toList.map fun c=>.str ⟨#[c]⟩
def zJ3{z:Str}{acc:Array Value}(h:ItemsOf (SignAt z) acc z.cps.size):Vals (zGW z) acc.toList:=by
 obtain⟨h1,h2⟩:=h;have key:∀(cs:List Nat)(us:List Value)(k:Nat),us.length=cs.length->(∀(j:Nat)(v:Value),us[j]?=some v->∃(c:Nat)(u:Tok),cs[j]?=some c/\v=qKe ⟨#[c]⟩ u)->Vals (cs.map fun c=>V.str ⟨#[c]⟩) us:=by
  intro cs;induction cs with
  |nil=>intro us k e _;cases us with
   |nil=>exact .nil
   |cons a r=>simp at e
  |cons c r ih=>
   intro us k e h;cases us with
   |nil=>simp at e
   |cons a q=>
    obtain⟨c',u,e1,e2⟩:=h 0 a rfl;simp at e1;subst e1;exact .cons ⟨u,e2⟩ (ih q k (by simpa using e) fun j v hj=>h (j+1) v (by simpa using hj))
 refine key z.cps.toList acc.toList 0 (by simp[h1]) fun j v hj=>?_
 obtain⟨c,u,e1,e2⟩:=h2 j v (by rw[<- hj,qBe]);exact⟨c,u,by rw[<- e1,qBe],e2⟩
def zWE(K:qA0):List V->Hp->VK->Prop:=fun vs H Q=>match vs with
 |[.str z]=>z.length<=sizeLine/\∀l,H l=none->Q (.ref l) (upd H l (.lst (zGW z)))
 |_=>zJ4 K vs H Q
def zYN{K:qA0}(hc:X.calm=true)(hK:X.K=K:=by rfl):zDI X (.type "list") (zWE K):=by
 subst hK;intro pins s σ H vs us Q I r h
 match vs,r,h with
 |[.str z],r,h=>
  obtain⟨hz,q⟩:=h;obtain⟨u,rfl,rx⟩:=zE0 r;obtain⟨t,rfl⟩:=rx;refine call_list_str (I.ok.hd hc) z t (fun h' tk acc' c' hk hl hi=>?_) hz;have hv:=zJ3 hi;refine⟨.ref _,_,I.laid (t':=tk) (o:=.lst (zGW z)) hk (qA5 _) ⟨?_,acc'.toList,c',hv,by simpa using hl⟩,rfl,q _ I.fresh⟩;simp[zGW];exact hz
 |[],r,h=>exact zF2 hc pins s σ H _ us Q I r h
 |[.non],r,h=>exact zF2 hc pins s σ H _ us Q I r h
 |[.bl _],r,h=>exact zF2 hc pins s σ H _ us Q I r h
 |[.int _],r,h=>exact zF2 hc pins s σ H _ us Q I r h
 |[.byt _],r,h=>exact zF2 hc pins s σ H _ us Q I r h
 |[.flt _],r,h=>exact zF2 hc pins s σ H _ us Q I r h
 |[.ty _],r,h=>exact zF2 hc pins s σ H _ us Q I r h
 |[.ref _],r,h=>exact zF2 hc pins s σ H _ us Q I r h
 |a::b::c,r,h=>exact zF2 hc pins s σ H _ us Q I r (by cases a<;>exact h)
def zM8:∀{ns:List Int}{vs:List Value},qL6 vs ns->Vals (ns.map V.int) vs
 |_,_,.nil=>.nil
 |_,_,.cons n t h=>.cons ⟨t,rfl⟩ (zM8 h)
def zHO:∀{ns:List Str}{vs:List Value},qK9 vs ns->Vals (ns.map V.str) vs
 |_,_,.nil=>.nil
 |_,_,.cons n t h=>.cons ⟨t,rfl⟩ (zHO h)
def zWA:V->List V->Hp->VK->Prop:=fun x vs H Q=>match x,vs with
 |.str z,[.str y]=>Q (.int (qNh z y)) H
 |_,_=>False
def zS4:MtR X "str.rfind" zWA:=by
 intro pins s σ H x vs v us Q I rx rv h;cases x with
 |str z=>
  cases vs with
  |nil=>exact qA4 h
  |cons hd1 tl1=>
   cases hd1 with
   |str y=>
    cases tl1 with
    |nil=>
     obtain⟨t,rfl⟩:=rx;obtain⟨u,rfl,ru⟩:=zE0 rv;obtain⟨t2,rfl⟩:=ru;exact SC.rfind ⟨.int _,H,I.tok _,⟨_,rfl⟩,h⟩
    |cons _ _=>exact qA4 h
   |_=>exact qA4 h
 |_=>exact qA4 h
end
def Itw(z:Str):It:=
 ⟨fun i H=>i<z.cps.size,fun i H x H'=>∃T c,x=.ref T/\H T=none/\H'=upd H T (.tup [.int i,.str ⟨#[c]⟩])/\z.cps[i]?=some c,fun i H=>z.cps.size<=i⟩
def zX0{prog:qIo}{w:World}{A:qIr}(hh:A.handled=none)(it:Addr)(x:Str)(t:Tok) :
  Draws prog w A it [it] x.cps.size (fun i v=>∃c u,x.cps[i]?=some c/\v=.str ⟨#[c]⟩ u) (fun i h=>h.IsStrIter it (strIterType x) x t i):=by
 unfold strIterType;cases ha:x.cps.all (· < 128)
 ·exact Draws.strWide hh it x t
 ·exact Draws.strAscii hh it x t
def zPP{P:qIo}{w:World}{K:qA0}{ts:List Expr}{kk:Nat}{tp:Pos}(z:Str)(t:Tok)(e it:Addr)(hei:e≠it) :
  Turn P w K (.Tuple ts kk tp) (Itw z) [e,it] e (fun i h=>i<=z.cps.size/\(∃old,IsEnum h e it i old)/\h.IsStrIter it (strIterType z) z t i) where
 mem:=by simp
 obj:=fun i h st b hb=>by
  rcases qAb.mp hb with y|y
  ·subst y;obtain⟨_,⟨old,he⟩,_⟩:=st;exact⟨_,he,fun v z=>by cases z⟩
  ·have z':b=it:=by simpa using y
   subst z';obtain⟨_,_,o,e,c,d⟩:=st;exact⟨o,e,fun v z=>by rw[d]at z;cases z⟩
 keep:=fun i h h' st k=>⟨st.1,by obtain⟨_,⟨old,he⟩,_⟩:=st;exact⟨old,k e (by simp) _ he⟩,by obtain⟨_,_,o,ho,r⟩:=st;exact⟨o,k it (by simp) o ho,r⟩⟩
 item:=by
  intro X hP hw hK hc i pins s σ H E I hf st hg;subst hP hw hK;have hi:i<z.cps.size:=hg;obtain⟨_,⟨old,he⟩,hit⟩:=st;have hhd:X.A.in1.handled=none:=I.ok.hd hc;refine wpAny_pyNext_enum_itemD (zX0 hhd it z t) he hit hi hei (by simpa using hei) fun x h' tk hP ho hit' hT hsz hk=>?_
  obtain⟨c,u,hcx,rfl⟩:=hP;refine⟨_,rfl,qKm ho fun h'' he'' hs''=>?_⟩;have hTe:s.heap.objs.size≠e:=qBx (qIl he);have hTi:s.heap.objs.size≠it:=by obtain⟨o,ho',_⟩:=hit;exact qBx (qIl ho')
  have kk:∀b u,b∉[e,it]->s.heap.get? b=some u->h''.get? b=some u:=fun b u hb q=>by
   have b1:b≠e:=fun z=>hb (by simp[z])
   have b2:b≠it:=fun z=>hb (by simp[z])
   exact(hs''.2 b b1).trans (hk b u b1 b2 q)
  have hT'':=(hs''.2 _ hTe).trans hT;refine⟨.ref s.heap.objs.size,_,I.turnedNew (t':=tk+1) (o:=.tup [.int i,.str ⟨#[c]⟩]) hf kk (qA5 _) ⟨by show 2<=sizeLine;decide,[.int i tk,.str ⟨#[c]⟩ u],.cons ⟨_,rfl⟩ (.cons ⟨_,rfl⟩ .nil),⟨_,hT'',rfl,_,rfl⟩⟩,rfl,
   ⟨_,c,rfl,I.fresh,rfl,hcx⟩,⟨hi,⟨_,by simpa using he''⟩,by obtain⟨o,ho,r⟩:=hit';exact⟨o,(hs''.2 it hei.symm).trans ho,r⟩⟩,fun b hb=>?_⟩
  have hbs:b<s.heap.objs.size:=by
   rcases qAb.mp hb with z|z
   ·rw[z];exact qIl he
   ·have z':b=it:=by simpa using z
    rw[z'];obtain⟨o,ho',_⟩:=hit;exact qIl ho'
  rw[zA5 (qAl hbs)];exact(hf b hb).1
 done:=by
  intro X hP hw hK hc i pins s σ H E I hf st hg;subst hP hw hK;obtain⟨hle,⟨old,he⟩,hit⟩:=st;have hi:i=z.cps.size:=qH3 hle hg;subst hi;have hhd:X.A.in1.handled=none:=I.ok.hd hc;exact wpAny_pyNext_enum_endD (zX0 hhd it z t) he hit fun h' eb=>⟨rfl,I.turnedL (t':=s.toks) hf fun b u hb q=>eb b u (fun z=>hb (by simp[z])) q⟩
 self:=fun _ _ _ _ _ st h=>by obtain⟨_,⟨old,he⟩,_⟩:=st;exact qJs he h
section
variable{X:Cx}{K:qA0}
def zWR(K:qA0)(tl:TA):TI:=fun σ H R=>tl σ H fun vs H1=>match vs with
 |[.ref a]=>(∃xs,SqL K H1 a xs)/\R (Ite K a) H1
 |[.str z]=>R (Itw z) H1
 |_=>False
def zK6{ts:List Expr}{kk:Nat}{tp p pos:Pos}{a:Expr}{ta:TA}(hg:Gl X "enumerate")(hm:X.mg "enumerate" = none)(ha:PA X [a] ta)(hs:starEach [a] X.env=[(false,eval a X.env)]:=by rfl)(hK:X.K=K:=by rfl) :
  PI X (.Tuple ts kk tp) (.Call (.Name "enumerate" p) [a] [] pos) (zWR K ta):=by
 subst hK;intro pins s σ H R I h;refine Call_ (zI7 I hg hm boot_enumerate (qBz (thn (ha pos pins s σ H _ I h) fun us s1 z0=>?_) hs rfl));obtain⟨vs,H1,I1,r1,q1⟩:=z0;have hne:s1.heap.objs.size+1≠s1.heap.objs.size:=by lia
 have hb':∀b∈[s1.heap.objs.size+1,s1.heap.objs.size],s1.heap.objs.size<=b:=fun b hb=>by
  rcases qAb.mp hb with z|z
  ·rw[z];exact qBm _
  ·have z':b=s1.heap.objs.size:=by simpa using z
   rw[z'];exact qA5 _
 cases vs with
 |nil=>exact qA4 q1
 |cons hd1 tl1=>
  cases hd1 with
  |ref l=>
   cases tl1 with
   |nil=>
    obtain⟨⟨xs,hq⟩,q⟩:=q1;obtain⟨u,rfl,rx⟩:=zE0 r1;cases rx;obtain⟨its,rv,pl,hz⟩:=I1.list hq;refine qLh pl.isList fun h' he hit hsz hk=>?_
    refine qJs he ?_;exact⟨s1.heap.objs.size+1,[s1.heap.objs.size+1,s1.heap.objs.size],_,_,H1,rfl,I1.kept (t':=s1.toks) hk,zL2 l _ _ hne,⟨⟨_,he⟩,hit⟩,fun b hb=>I1.fpOk (hb' b hb) (I1.hok.fresh (hb' b hb)),q⟩
   |cons _ _=>exact qA4 q1
  |str z=>
   cases tl1 with
   |nil=>
    obtain⟨u,rfl,rx⟩:=zE0 r1;obtain⟨t,rfl⟩:=rx;refine call_enumerate_str fun h' he hit hsz hk=>?_
    refine qJs he ?_;exact⟨s1.heap.objs.size+1,[s1.heap.objs.size+1,s1.heap.objs.size],_,_,H1,rfl,I1.kept (t':=s1.toks) hk,zPP z t _ _ hne,⟨qAv _,⟨_,he⟩,hit⟩,fun b hb=>I1.fpOk (hb' b hb) (I1.hok.fresh (hb' b hb)),q1⟩
   |cons _ _=>exact qA4 q1
  |_=>exact qA4 q1
end
end L2
namespace Mi
open PySem
def listXD(ds:List Dt):Option Dt:=match ds with
 |[.str z]=>@ite _ (z.length<=100000) (qA1 _) (some (.lst (signsD z))) none
 |ds=>listD ds
def iEnX(e:AM):IM:=fun ρ=>zA3 (e ρ) fun vs=>match vs with
 |[.lst xs]=>okR (enumD 0 xs)
 |[.str z]=>okR (enumD 0 (signsD z))
 |_=>none
def sumD:List Dt->Option Dt
 |[.lst ds]=>match intsD ds with
  |some ns=>@ite _ (ns.length<=100000/\∀n∈ns,-1000000<=n/\n<=1000000) (qA1 _) (some (.int ns.sum)) none
  |none=>none
 |_=>none
def topI:List Int->Int
 |[]=>0
 |[x]=>x
 |x::y::r=>max x (topI (y::r))
def maxL:List Dt->Option Dt
 |[.int i,.int j]=>some (.int (if j>i then j else i))
 |[.lst ds]=>match intsD ds with
  |some (n::ns)=>some (.int (topI (n::ns)))
  |_=>none
 |_=>none
def sortI(ns:List Int):List Int:=ns.mergeSort fun a b=>decide (a<=b)
def sPopD(i:Nat)(e:EM):SM:=fun ρ=>match ρ[i]? with
 |some (some (.lst ds,k+1))=>zA3 (e (full ρ)) fun d=>match d with
  |.int z=>match ixA ds.length z with
   |some q=>@ite _ (ds.length<=1000000) (qA1 _) (okR (.nx (ρ.set i (some (.lst (ds.eraseIdx q),k+1))))) none
   |none=>none
  |_=>none
 |_=>none
def sApp2(i n:Nat)(e0 e:EM):SM:=fun ρ=>match ρ[i]? with
 |some (some (.lst rs,k+2))=>zA3 (e0 (full ρ)) fun y=>match y with
  |.int y=>match ixA rs.length y with
   |some p=>match rs[p]? with
    |some (.lst ds)=>zA3 (e (full ρ)) fun d=>@ite _ (ds.length<=100000/\d.dep<=n/\d.dep<=k) (qA1 _) (okR (.nx (ρ.set i (some (.lst (rs.set p (.lst (ds++[d]))),k+2))))) none
    |_=>none
   |none=>none
  |_=>none
 |_=>none
def addAll(c:Int):List Dt->Option (List Dt)
 |[]=>some []
 |.lst ds::r=>@ite _ (ds.length<=100000) (qA1 _) ((addAll c r).map (.lst (ds++[.int c])::·)) none
 |_::_=>none
def sForApp(i r:Nat)(c:Int):SM:=fun ρ=>match ρ[i]? with
 |some (some (.lst rs,k+2))=>match addAll c rs with
  |some rs'=>if i≠r/\r<ρ.length then okR (.nx ((ρ.set i (some (.lst rs',k+2))).set r none))else none
  |none=>none
 |_=>none
end Mi
namespace L3
open PySem PySem.Spec
open L2 hiding Rep RepL
open Mi (Dt Xn R okR zA3 optR zA0 zAD zAH zAE zAG Rh Sl Ro EM TM AM FM IM SM Tg Out zAU zAR zB7 full frz frz1 frzAt)
section
variable[Kc]{mg:Str->Option Value}{E:XK}{t:TA}{m:AM}
def zPW{G:Hp}(z:Str):RepL G (Mi.signsD z) (zGW z):=by
 unfold Mi.signsD zGW;induction z.cps.toList with
 |nil=>rfl
 |cons c r ih=>exact⟨_,_,rfl,rfl,ih⟩
def zVR:CBi (zWE Kc.K) Mi.listXD 1:=by
 intro mg E G H ds vs Q s h p;cases ds with
 |nil=>exact qA4 p
 |cons hd1 tl1=>
  cases hd1 with
  |str z=>
   cases tl1 with
   |nil=>
    obtain⟨x,rfl,hx⟩:=zDJ h;cases(show x=.str z from hx)
    unfold Mi.listXD at p;dsimp only at p;split at p
    ·rename_i hz
     exact⟨big' hz,fun l hl=>PostE.lst p (Ext.refl s) (zPW z) hl⟩
    ·exact p.elim
   |cons _ _=>exact qA4 p
  |lst _=>
   cases tl1 with
   |nil=>
    have q:=zGO mg E G H _ vs Q s h p;obtain⟨x,rfl,a,xs,rfl,ha,ra⟩:=zDJ h;exact q
   |cons _ _=>exact qA4 p
  |tup _=>
   cases tl1 with
   |nil=>
    have q:=zGO mg E G H _ vs Q s h p;obtain⟨x,rfl,a,xs,rfl,ha,ra⟩:=zDJ h;exact q
   |cons _ _=>exact qA4 p
  |scr _=>
   cases tl1 with
   |nil=>
    have q:=zGO mg E G H _ vs Q s h p;obtain⟨x,rfl,a,rfl,ha⟩:=zDJ h;exact q
   |cons _ _=>exact qA4 p
  |_=>exact qA4 p
def zbN{G:Hp}(z:Str):ItOk (Itw z) G (Mi.enumD 0 (Mi.signsD z)):=by
 intro i G1 H1 s1 s2;rw[zIC];have hl:(Mi.signsD z).length=z.cps.size:=by simp[Mi.signsD]
 rw[hl];refine⟨fun hi=>hi,fun hi=>hi,fun x H2 d hd hy=>?_⟩;obtain⟨T,c,rfl,hT,rfl,hc⟩:=hy;obtain⟨e,h1,rfl⟩:=zID _ 0 i d hd;have x1:=Ext.new s2 hT (.tup [.int i,.str ⟨#[c]⟩]);have he:e=.str ⟨#[c]⟩:=by
  unfold Mi.signsD at h1;rw[qAd,qBe,hc]at h1;cases h1;rfl
 subst he;refine⟨_,x1,T,_,rfl,zA8,_,_,rfl,?_,_,_,rfl,rfl,rfl⟩;show V.int (i:Int)=.int ((0+i:Nat):Int);rw[qCj]
def zST(A:DA mg E t m 0):DI mg E (zWR Kc.K t) (Mi.iEnX m) false:=by
 intro G H σ ρ Q s w p;refine A.step errI s w p fun ds vs G1 H1 S T _ fr o p1=>?_
 have r:=o.repL;cases ds with
 |nil=>exact qA4 p1
 |cons hd1 tl1=>
  cases hd1 with
  |lst es=>
   cases tl1 with
   |nil=>
    obtain⟨x,rfl,a,xs,rfl,ha,ra⟩:=zDJ r;exact⟨⟨xs,SqL.of (fr.ext.in' _ _ ha)⟩,p1 _ G1 H1 fr.ext (zWN ha ra)⟩
   |cons _ _=>exact qA4 p1
  |str z=>
   cases tl1 with
   |nil=>
    obtain⟨x,rfl,hx⟩:=zDJ r;cases(show x=.str z from hx)
    exact p1 _ G1 H1 fr.ext (zbN z)
   |cons _ _=>exact qA4 p1
  |_=>exact qA4 p1
def zPS(ns:List Int):(Mi.sortI ns).Perm ns:=qC7 ns _
def zR5(ns:List Int):(Mi.sortI ns).Pairwise (·<=·):=by
 have:=qD1 (le:=fun a b:Int=>decide (a<=b)) (fun a b c h1 h2=>by simp at h1 h2 ⊢;lia) (fun a b=>by simp;lia) ns
 exact this.imp fun h=>by simpa using h
end
section
variable[Kc]{G0 H0 S0:Hp}{σ:St}{ρ:Ro}{G H:Hp}{As:Nat->Addr->Prop}
def Sat.forget(a:Sat G0 H0 S0 σ ρ G H As)(r:Nat)(v:V):Sat G0 H0 S0 (σ.set r (some v)) (ρ.set r none) G H As:=by
 refine⟨a.ext,a.stb,a.tab,by simp[a.len],fun j e k h=>?_,a.dis,a.new⟩
 by_cases z:r=j
 ·subst z;have hj:r<ρ.length:=by
   have:=(qA2.mp h).1;simpa using this
  rw[qAo hj]at h;cases h
 ·rw[qAq z]at h;obtain⟨u,h1,h2⟩:=a.at j e k h;exact⟨u,by rw[qAq z];exact h1,h2⟩
def Sat.row(a:Sat G0 H0 S0 σ ρ G H As){i k c:Nat}{rs ds:List Dt}{q:Addr}(er:ρ[i]?=some (some (.lst rs,k+2)))(hv:σ[i]?=some (some (.ref q)))(ec:rs[c]?=some (.lst ds)) :
  ∃(xs:List V)(qr:Addr)(ys:List V),H q=some (.lst xs)/\xs.length=rs.length/\xs[c]?=some (.ref qr)/\H qr=some (.lst ys)/\ys.length=ds.length /\
   ∀(ds':List Dt)(ys':List V),ys'.length=ds'.length->(∀(r:Nat)(d:Dt)(z:V),ds'[r]?=some d->ys'[r]?=some z->(ds[r]?=some d/\ys[r]?=some z)\/(d.dep=0/\Rep G d z)) ->
    Sat G0 H0 S0 σ (ρ.set i (some (.lst (rs.set c (.lst ds')),k+2))) G (upd H qr (.lst ys')) As:=by
 obtain⟨v,h1,q',xs,T,rfl,hq,kd⟩:=a.at i _ _ er;rw[hv]at h1;cases h1;have hc:c<xs.length:=by rw[kd.len];exact(qA2.mp ec).1
 have hxc:xs[c]?=some xs[c]:=qA6 hc;obtain⟨qr,ys,U,er2,hqr,kr⟩:=kd.own c _ _ ec hxc;refine⟨xs,qr,ys,hq,kd.len,by rw[hxc,er2],hqr,kr.len,fun ds' ys' hl hs=>?_⟩;have tqr:T c qr:=kr.top;have iqr:As i qr:=kd.sub c qr tqr;have qne:q≠qr:=fun z=>kd.out c (z▸tqr)
 have b:=a.store (S:=As i) (p:=qr) (o:=.lst ys') (d:=.lst (rs.set c (.lst ds'))) (n:=k+2) (v:=.ref q) iqr hv ⟨q,xs,T,rfl,(zA5 qne).trans hq,⟨by simp[kd.len],fun r d' xr g1 g2=>?_,kd.top,kd.out,kd.dis,kd.sub⟩⟩ fun b z=>.inl z
 ·refine⟨b.ext,b.stb,b.tab,b.len,fun j d n h=>?_,a.dis,fun j b' h=>?_⟩
  ·obtain⟨v,g1,g2⟩:=b.at j d n h;refine⟨v,g1,?_⟩
   by_cases z:j=i
   ·subst z;rw[if_pos rfl]at g2;exact g2
   ·rw[if_neg z]at g2;exact g2
  ·have:=b.new j b' (by
    by_cases z:j=i
    ·subst z;rw[if_pos rfl];exact h
    ·rw[if_neg z];exact h)
   exact this
 ·by_cases hr:c=r
  ·subst hr;rw[qAo (by rw[<- kd.len];exact hc)]at g1;cases g1;rw[hxc]at g2;cases g2;refine⟨qr,ys',U,er2,zA8,⟨hl,fun r d z e1 e2=>?_,tqr,kr.out,kr.dis,kr.sub⟩⟩
   rcases hs r d z e1 e2 with⟨g3,g4⟩|⟨g3,g4⟩
   ·exact(kr.own r d z g3 g4).upd (kr.out r)
   ·exact zWK g4 g3
  ·rw[qAq hr]at g1;exact(kd.own r d' xr g1 g2).upd fun z=>hr (kd.dis c r qr tqr z)
end
section
variable[Kc]{mg:Str->Option Value}{E:XK}{L:Nat}
def addAll_len{c:Int}:∀{rs rs':List Dt},Mi.addAll c rs=some rs'->rs'.length=rs.length
 |[],rs',h=>by cases h;rfl
 |d::r,rs',h=>by
  cases d with
  |lst ds=>
   rw[Mi.addAll]at h;split at h
   ·cases e:Mi.addAll c r with
    |none=>rw[e]at h;cases h
    |some q=>rw[e]at h;cases h;simp[addAll_len e]
   ·cases h
  |_=>cases h
def zMZ{c:Int}:∀{rs rs':List Dt}{p:Nat},Mi.addAll c rs=some rs'->p<rs.length->∃ds,rs[p]?=some (.lst ds)/\rs'[p]?=some (.lst (ds++[.int c]))/\ds.length<=100000
 |[],rs',p,h,hp=>by simp at hp
 |d::r,rs',p,h,hp=>by
  cases d with
  |lst ds=>
   rw[Mi.addAll]at h;split at h
   ·rename_i hz
    cases e:Mi.addAll c r with
    |none=>rw[e]at h;cases h
    |some q=>
     rw[e]at h;cases h;cases p with
     |zero=>exact⟨ds,rfl,rfl,hz⟩
     |succ p=>exact zMZ (p:=p) e (by simpa using hp)
   ·cases h
  |_=>cases h
def zSS(i r:Nat)(c:Int):DS mg E L (fun D σ H=>iAny Kc.K (vM i) σ H (zR1 (zIW r) (zN6 (tML appM (vM r) (zE1 (tC (.int c)) tNil))) D σ)) (Mi.sForApp i r c):=by
 intro G0 H0 S0 σ ρ G H As D a p;unfold Mi.sForApp at p;split at p
 ·rename_i rs k e1
  split at p
  ·rename_i rs' ea
   split at p
   ·rename_i hir
    obtain⟨v,h1,q,xs0,T0,rfl,hq0,kd0⟩:=a.at i _ _ e1;unfold iAny vM;rw[h1];refine .inl ⟨⟨xs0,SqL.of hq0⟩,?_⟩;have hil:i<ρ.length:=(qA2.mp e1).1;have hal:=addAll_len ea;refine⟨fun j cc σ H=>cc=rs.length-j/\j<=rs.length/\σ[i]?=some (some (.ref q))/\(j=0->σ.length=ρ.length)/\∃As,Sat G0 H0 S0 σ (if j=0 then ρ else(ρ.set i (some (.lst (rs'.take j++rs.drop j),k+2))).set r none) G H As,
     ⟨_,rfl,qAv _,h1,fun _=>a.len.symm,As,by rw[if_pos rfl];exact a⟩,?_⟩
    rintro j cc σ H ⟨rfl,hj,hv,hsl,As,a⟩
    have er:(if j=0 then ρ else(ρ.set i (some (.lst (rs'.take j++rs.drop j),k+2))).set r none)[i]?=some (some (.lst (rs'.take j++rs.drop j),k+2)):=by
     by_cases z:j=0
     ·subst z;rw[if_pos rfl];simpa using e1
     ·rw[if_neg z,qAq (fun y=>hir.1 y.symm),qAo hil]
    obtain⟨v,h2,q',xs,T,e',hq,kd⟩:=a.at i _ _ er;rw[hv]at h2;cases h2;cases e';have hlen:(rs'.take j++rs.drop j).length=rs.length:=by simp[hal];lia
    by_cases hlt:j<rs.length
    ·obtain⟨ds,g1,g2,g3⟩:=zMZ ea hlt;have ec:(rs'.take j++rs.drop j)[j]?=some (.lst ds):=by
      rw[qAc (by simp;lia)];simp[hal,qDu (qC8 hlt),g1]
     refine .inr ⟨⟨xs,xs[j]'(by rw[kd.len,hlen];exact hlt),SqL.of hq,by simp⟩,fun σ' H'=>j+1<=rs.length/\σ'[i]?=some (some (.ref q))/\(j+1=0->σ'.length=ρ.length)/\∃As,Sat G0 H0 S0 σ' (if j+1=0 then ρ else(ρ.set i (some (.lst (rs'.take (j+1)++rs.drop (j+1)),k+2))).set r none) G H' As,fun σ' H' y=>⟨rs.length-(j+1),by lia,rfl,y⟩,fun x H2 hy=>?_⟩;obtain⟨rfl,hy⟩:=hy;obtain⟨xs2,qr,ys,w1,w2,w3,w4,w5,w6⟩:=a.row er hv ec;have hx:=hy xs2 (SqL.of w1);rw[w3]at hx;cases hx;have hrl:r<σ.length:=by rw[<- a.len];by_cases z:j=0<;>simp[z,hir.2]
     show zN6 (tML appM (vM r) (zE1 (tC (.int c)) tNil)) _ (σ.set r (some (.ref qr))) _;unfold zN6 tML vM;rw[qAo hrl];refine⟨ys,w4,?_⟩;unfold zE1 tC tNil;dsimp only;refine⟨ys,w4,by rw[w5];exact L2.big (by lia),?_⟩;have a2:=(w6 (ds++[.int c]) (ys++[.int c]) (by simp[w5]) fun u d z e3 e4=>by
      by_cases hu:u<ds.length
      ·rw[qAf hu]at e3;rw[qAf (by rw[w5];exact hu)]at e4;exact .inl ⟨e3,e4⟩
      ·rw[qAc (by lia)]at e3;rw[qAc (by rw[w5];lia),w5]at e4;have hq0:u-ds.length=0:=by
        have:=(qA2.mp e3).1;simp at this;lia
       rw[hq0]at e3 e4;simp at e3 e4;subst e3;subst e4;exact .inr ⟨rfl,rfl⟩).forget r (.ref qr)
     refine⟨hlt,by rw[qAq (fun y=>hir.1 y.symm)];exact hv,fun z=>by lia,As,?_⟩;rw[if_neg (by lia)];have eset:(rs'.take j++rs.drop j).set j (.lst (ds++[.int c]))=rs'.take (j+1)++rs.drop (j+1):=by
      have hj2:j<rs'.length:=by lia
      have gj:rs'[j]=.lst (ds++[.int c]):=by
       have:=qA6 hj2;rw[g2]at this;exact(qBg this).symm
      rw[qFo _ _ (by simp;lia),List.take_succ_eq_append_getElem hj2,gj];simp only[qEa,qDu (qC8 hj2),Nat.sub_self];rw[qB3]
      congr 1;rw[qB0 hlt];rfl
     rw[eset]at a2;by_cases z:j=0
     ·subst z;rw[if_pos rfl]at a2;exact a2
     ·rw[if_neg z]at a2;have e5:(((ρ.set i (some (.lst (rs'.take j++rs.drop j),k+2))).set r none).set i (some (.lst (rs'.take (j+1)++rs.drop (j+1)),k+2))).set r none=(ρ.set i (some (.lst (rs'.take (j+1)++rs.drop (j+1)),k+2))).set r none:=by
       rw[List.set_comm _ _ (fun y:r=i=>hir.1 y.symm),qI1,qI1]
      rw[e5]at a2;exact a2
    ·have ej:j=rs.length:=by lia
     subst ej;refine .inl ⟨⟨xs,SqL.of hq,by rw[kd.len,hlen];exact qA5 _⟩,?_⟩;have e6:rs'.take rs.length++rs.drop rs.length=rs':=by rw[<- hal,qF8,hal,qF9,qBv]
     by_cases z:rs.length=0
     ·rw[if_pos z]at a;have hrs:rs=[]:=qEc z;subst hrs
      have:rs'=[]:=qEc hal;subst this;have e7:ρ.set i (some (.lst [],k+2))=ρ:=by
       have:=(qA2.mp e1).2;rw[<- this,qFp]
      rw[e7]at p;refine p σ G H As ⟨a.ext,a.stb,a.tab,by simp[a.len],fun j d n h=>?_,a.dis,a.new⟩
      by_cases y:r=j
      ·subst y;rw[qAo hir.2]at h;cases h
      ·rw[qAq y]at h;exact a.at j d n h
     ·rw[if_neg z,e6]at a;exact p σ G H As a
   ·exact p.elim
  ·exact p.elim
 ·exact p.elim
end
end L3
namespace L2
open PySem PySem.Spec PyProof.Rows
section
end
section
variable{X:Cx}{e m1:Expr}{te ts:TE}{pos p2:Pos}
def zaA:R2:=fun x y H Q=>∃z:Str,x=.str z/\y=.int (-1)/\z.length<=sizeLine/\Q (.str ⟨z.cps.toList.reverse.toArray⟩) H
def zP8{f g:Nat->Option Nat}:∀{l:List Nat},(∀k∈l,f k=g k)->l.filterMap f=l.filterMap g
 |[],_=>rfl
 |a::r,h=>by rw[qCz,qCz,h a (by simp),zP8 fun k hk=>h k (by simp[hk])]
def zU2(xs:List Nat):(qIw none none (-1) xs.length).filterMap (xs[·]?)=xs.reverse:=by
 have e:qIw none none (-1) xs.length=(qA9 xs.length).map fun k=>xs.length-1-k:=by
  unfold qIw sliceRange;dsimp only;rw[if_neg (show ¬((-1:Int)>0) by decide),if_neg (show ¬((-1:Int)>0) by decide),if_neg (show ¬((-1:Int)>0) by decide)];have hc:(if((xs.length:Int)-1) > -1 then((xs.length:Int)-1 - -1 - -1-1)/(- -1)else 0).toNat=xs.length:=by
   rw[show(- -1:Int)=1 by rfl,qGr]
   split<;>lia
  rw[hc];refine qCp fun k hk=>?_
  have:=qCw.mp hk;lia
 rw[e,qGc];have h2:(qA9 xs.length).filterMap ((xs[·]?)∘fun k=>xs.length-1-k)=((qA9 xs.length).map fun j=>0+j).filterMap (xs.reverse[·]?):=by
  rw[qGc];refine zP8 fun k hk=>?_
  have hk':=qCw.mp hk;show xs[xs.length-1-k]?=xs.reverse[0+k]?;rw[qCj,qE6 hk']
 rw[h2,zLJ xs.reverse 0 xs.length (by simp),qCi];exact qBs (by simp)
def zRP(he:PE X e te)(hs:PE X m1 ts):PE X (.Subscript e (.Slice none none (some m1) p2) pos) (tOp zaA te ts):=by
 intro pins s σ H Q I h;refine qN2 (thn (he pins s σ H _ I h) fun v s1 z0=>?_);obtain⟨x,H1,I1,r1,q1⟩:=z0;refine wpAny_Slice ?_;rw[qLr];refine wpAny_pure ?_;refine wpAny_pure ?_;rw[evalPart_some];refine thn (hs pins s1 σ H1 _ I1 q1) fun u s2 z0=>?_
 obtain⟨y,H2,I2,r2,q2⟩:=z0;obtain⟨z,rfl,rfl,hz,q⟩:=q2;obtain⟨t,rfl⟩:=r1;obtain⟨t2,rfl⟩:=r2;have I3:Inv X pins σ H2 { s2 with heap:=s2.heap.push { cls:=.type "slice",data:=.fields #[.none,.none,.int (-1) t2] } }:=I2.kept (t':=s2.toks) fun b ob q=>qIj _ q
 have hm:sliceMade z t none none (some (-1,t2))=.str ⟨z.cps.toList.reverse.toArray⟩:=by
  unfold sliceMade slicePicked;rw[if_neg (by simp)]
  congr 2;obtain⟨⟨xs⟩⟩:=z;have:=zU2 xs;have hlen:(qNi ⟨xs⟩).length=xs.length:=rfl;rw[hlen];simpa using this
 show wpAny (model X.prog X.w) X.A (subscriptTail e (.Slice none none (some m1) p2) (.str z t) (.ref s2.heap.objs.size)) (EP X pins σ Q) X.xe { s2 with heap:=s2.heap.push { cls:=.type "slice",data:=.fields #[.none,.none,.int (-1) t2] } };refine tail_any (ops:=[.ref s2.heap.objs.size,.str z t]) (typeIs_str _ _ _) qLs.lookup (wpAny_getItem_str_slice (l:=none) (u:=none) (st:=some (-1,t2)) ⟨_,qIm _ rfl,rfl,rfl⟩ rfl ?_) (by with_unfolding_all rfl);rw[hm];refine⟨?_,.str _,H2,I3.tok _,⟨_,rfl⟩,q⟩
 have:(⟨z.cps.toList.reverse.toArray⟩:Str).length=z.length:=by simp[qM0]
 rw[this];exact hz
def zJQ:∀{vs:List Value}{zs:List Str},qK9 vs zs->vs.length=zs.length
 |_,_,.nil=>rfl
 |_,_,.cons _ _ r=>by simp[zJQ r]
end
end L2
namespace Mi
open PySem
def revD:Dt->Dt->Option Dt
 |.str z,.int j=>@ite _ (j = -1/\z.length<=100000) (qA1 _) (some (.str ⟨z.cps.toList.reverse.toArray⟩)) none
 |_,_=>none
def zXO{a b:Str}(h:a.cps.toList=b.cps.toList):a=b:=by
 obtain⟨⟨x⟩⟩:=a;obtain⟨⟨y⟩⟩:=b;have:x=y:=h;rw[this]
def uniqZ:∀{a b:List Str},a.Perm b->a.Pairwise (fun a b=>a.cps.toList<=b.cps.toList)->b.Pairwise (fun a b=>a.cps.toList<=b.cps.toList)->a=b
 |[],b,h,_,_=>(List.nil_perm.mp h).symm
 |x::r,[],h,_,_=>by simpa using h.length_eq
 |x::r,y::q,h,ha,hb=>by
  have e:x=y:=by
   rcases qAb.mp (h.mem_iff.mp (qAw (a:=x) (l:=r)))with z|z
   ·exact z
   ·rcases qAb.mp (h.mem_iff.mpr (qAw (a:=y) (l:=q)))with u|u
    ·exact u.symm
    ·exact zXO (List.le_antisymm ((qBr.mp ha).1 y u) ((qBr.mp hb).1 x z))
  subst e;rw[uniqZ (List.Perm.cons_inv h) (qBr.mp ha).2 (qBr.mp hb).2]
end Mi
namespace L3
open PySem PySem.Spec
open PyProof.Rows (risingS sortedS ltCps_eq)
open L2 hiding Rep RepL
open Mi (Dt Xn R okR zA3 optR zA0 zAD zAH zAE zAG Rh Sl Ro EM TM AM FM IM SM OM Tg Out zAU zAR zB7 full frz frz1 frzAt)
section
variable[Kc]{n l:Nat}
def zW8:ROp zaA Mi.revD n:=by
 intro mg E G H d e x y Q s h1 h2 p;cases d with
 |str z=>
  cases e with
  |int j=>
   cases(show x=.str z from h1)
   cases(show y=.int j from h2)
   rw[Mi.revD]at p;split at p
   ·rename_i hj
    obtain⟨rfl,hz⟩:=hj;exact⟨z,rfl,rfl,by rw[qJ6];lia,PostE.val p (Ext.refl s) rfl rfl⟩
   ·exact p.elim
  |_=>exact p.elim
 |_=>exact p.elim
def zLD:∀(l:List Str)(p:Str),risingS p l=true->(p::l).Pairwise (fun a b=>a.cps.toList<=b.cps.toList)
 |[],p,_=>by simp
 |x::r,p,h=>by
  rw[risingS,qBh,ltCps_eq]at h;have h1:p.cps.toList<=x.cps.toList:=by
   have:=h.1;simpa[qI5]using this
  have h2:=zLD r x h.2;refine qBr.mpr ⟨fun y hy=>?_,h2⟩
  rcases qAb.mp hy with rfl|hy
  ·exact h1
  ·exact List.le_trans h1 ((qBr.mp h2).1 y hy)
def zL5{l:List Str}(h:qNa l=true):l.Pairwise (fun a b=>a.cps.toList<=b.cps.toList):=by
 cases l with
 |nil=>exact .nil
 |cons x r=>exact zLD r x h
end
end L3
namespace L2
open PySem PySem.Spec PyProof.Rows
section
variable{X:Cx}{x:Str}{C:Addr}{p pos:Pos}
def zR0(C:Addr):TE:=fun σ H Q=>∀x dx,H x=none->H dx=none->dx≠x->Q (.ref x) (upd (upd H dx (.own x)) x (.ins C dx []))
def zRS(hmk:qCa X.K C=true)(hi:qA8 X.K (.ref C) "__init__" = some (some (.builtin "object.__init__")))(kp:qAk X.K (.ref C)=true)(hg:Gl X x)(hm:X.mg x=some (.ref C))
  (hdb:(x==("__debug__":Str))=false:=by decide):PE X (.Call (.Name x p) [] [] pos) (zR0 C):=by
 intro pins s σ H Q I h;refine qJ5 (zFD I hg hm ?_ hdb);refine PySem.W.callWith_K0 I.kIn kp ?_;have hq:=h (s.heap.objs.size+1) s.heap.objs.size (I.hok.fresh (qBm _)) (I.hok.fresh (qA5 _)) (qAl (qBw _));have I2:=Inv.made (C:=C) I;have Y:=qF5 (M:=model X.prog X.w) I.kIn hmk;refine wpAny_call (zS6 I.kIn hmk hi (fun self=>qI2 (PySem.W.oi_bind self)) ?_);have hx:((s.heap.push qB5).push (qBb C s.heap.objs.size)).get? (s.heap.objs.size+1)=some (qBb C s.heap.objs.size):=by
  have:=qIm (s.heap.push qB5) (o:=qBb C s.heap.objs.size) rfl
  rwa [qIv]at this
 have t1:qDe (model X.prog X.w) ((s.heap.push qB5).push (qBb C s.heap.objs.size)) (typeOf (.ref (s.heap.objs.size+1))) (.ref C):=(qIe hx).andThen .now;have t2:qDe (model X.prog X.w) ((s.heap.push qB5).push (qBb C s.heap.objs.size)) (isInstance (.ref (s.heap.objs.size+1)) (.type "object")) true:=t1.andThen (Y.top.keeps fun b o e=>qIj _ (qIj _ e));obtain⟨hh,g,d,t,os⟩:=s;refine codeAny_call_builtin PySem.W.oi_plain PySem.W.entry_oi (@PySem.W.check_slot (model X.prog X.w) _ _ _ "object.__init__" "object" "__init__" (.ref (hh.objs.size+1)) [] [] _ PySem.W.oi_kind PySem.W.oi_split t2 (PySem.W.oi_args (.ref (hh.objs.size+1))) ?_);rw[PySem.W.oi_run];exact wpAny_pure (And.intro rfl ⟨.ref _,_,I2,rfl,hq⟩)
end
def zJR(K:qA0)(fl:List Str):Sp:=fun vs H Q _=>∃(x C dx:Addr)(ys:List V),vs=.ref x::ys/\ys.length=fl.length/\H x=some (.ins C dx [])/\Cls K C/\(∀f∈fl,NoAttr K C f)/\Q .non (upd H x (.ins C dx (fl.zip ys)))
def zNS{K:qA0}{fl ps:List Str}(hp:ps.length=fl.length+1):∀vs H Q E,zJR K fl vs H Q E->vs.length=ps.length:=by
 rintro vs H Q E ⟨x,C,dx,ys,rfl,hl,_⟩
 rw[hp,qAn,hl]
def zP4{K:qA0}{f a0 a1:Str}{vs:List V}{H:Hp}{Q:VK}{E:XK}(h:zJR K [f] vs H Q E) :
  sFld K (tVar 0) (tVar 1) f { nx:=fun _ H'=>Q .non H',rt:=Q } (start [a0,a1] vs) H:=by
 obtain⟨x,C,dx,ys,rfl,hl,hx,hc,hn,q⟩:=h
 match ys,hl,q with
 |[y],_,q=>exact⟨y,rfl,.ref x,rfl,x,C,dx,[],rfl,hx,hc,hn f (by simp),by decide,q⟩
def zV1{K:qA0}{f g a0 a1 a2:Str}{vs:List V}{H:Hp}{Q:VK}{E:XK}(hfg:f≠g)(h:zJR K [f,g] vs H Q E) :
  tSeq (sFld K (tVar 0) (tVar 1) f) (sFld K (tVar 0) (tVar 2) g) { nx:=fun _ H'=>Q .non H',rt:=Q } (start [a0,a1,a2] vs) H:=by
 obtain⟨x,C,dx,ys,rfl,hl,hx,hc,hn,q⟩:=h
 match ys,hl,q with
 |[y,z],_,q=>
  refine⟨y,rfl,.ref x,rfl,x,C,dx,[],rfl,hx,hc,hn f (by simp),by decide,z,rfl,.ref x,rfl,x,C,dx,putF f y [],rfl,zA8,hc,hn g (by simp),(by decide:1<1000),?_⟩;rw[zQV,show putF g z (putF f y [])=[(f,y),(g,z)] from(show(if f=g then(f,z)::[]else(f,y)::putF g z [])=[(f,y),(g,z)] by rw[if_neg hfg];rfl)];exact q
def HasM(P:qIo)(w:World)(K:qA0)(mg:Str->Option Value)(base:Heap)(C:Addr)(m:Str)(k:Nat)(ps:List Str)(sp:Sp):Prop:=
 ∃f fd,Cls K C/\Meth K C m f/\FnOk P w K mg base (CXe P w) k f fd ps sp/\Binds K fd ps []
section
variable{X:Cx}{m:Str}{k:Nat}{E:XK}{o e:Expr}{es:List Expr}{ta:TE}{t:TA}{apos pos:Pos}{tb:List (Addr×Sp)}
def zVZ(tb:List (Addr×Sp))(m:Str)(E:XK)(ta:TE)(t:TA):TE:=fun σ H Q=>ta σ H fun x H1=>∃a C dx fs sp,x=.ref a/\H1 a=some (.ins C dx fs)/\fs.lookup m=none/\(C,sp)∈tb/\t σ H1 fun vs H2=>sp (x::vs) H2 Q E
def zOY{pl:Sem Bool}(he:PE X o ta)(hM:∀p∈tb,∃j ps,j<=k/\HasM X.prog X.w X.K X.mg X.base p.1 m j ps p.2)(hr:Room k X.A)(hf:Flies X E)(ha:PA X (e::es) t)
  (hst:starEach (e::es) X.env=(false,eval e X.env)::starEach es X.env:=by rfl) (hpl:(backTo pos (starEach es X.env)).any (·.1)=false:=by rfl)
  (ht:eval (.Call (.Attribute o m apos) (e::es) [] pos) X.env=(do
   let ov <- eval o X.env
   qMl apos.atName
   let(f,first) <- holding [ov] (getMethod ov m pl)
   callWith pos f first (backTo pos (starEach (e::es) X.env)) (backToKw pos (keywordEach [] X.env))):=by rfl) :
  PE X (.Call (.Attribute o m apos) (e::es) [] pos) (zVZ tb m E ta t):=by
 intro pins s σ H Q I h;refine qFn (pl:=pl) (thn (he pins s σ H _ I h) fun u s1 z0=>?_) ht;obtain⟨x,H1,I1,rx,a,C,dx,fs,sp,ex,ea,l,ht,q⟩:=z0;subst ex;obtain rfl:u=qIs a:=rx;obtain⟨j,ps,hj,f,fd,c,hm,F,hb⟩:=hM _ ht;refine zQD I1 ea c hm l ?_;refine qCs (first:=[.ref a]) (h₀:=X.base) I.ok.mod.kin hm.kp (thn (ha pos pins s1 σ H1 _ I1 q) fun us s2 ⟨vs,H2,I2,r,q2⟩=>⟨I2.kIn,?_⟩) hst hpl;exact zW6 (us:=.ref a::us) (vs:=.ref a::vs) (dvs:=[]) (ds:=[]) F (hr.mono hj) hb .nil hf.passes I2 (.cons rfl r) (by rw[qBv];exact q2)
def zLX:∀p∈([]:List (Addr×Sp)),∃j ps,j<=k/\HasM X.prog X.w X.K X.mg X.base p.1 m j ps p.2:=fun p h=>by simp at h
def zCI{C C':Addr}{sp:Sp}{j:Nat}{ps:List Str}(hc:C'=C)(h:HasM X.prog X.w X.K X.mg X.base C m j ps sp)(hj:j<=k)(hr:∀p∈tb,∃j ps,j<=k/\HasM X.prog X.w X.K X.mg X.base p.1 m j ps p.2) :
  ∀p∈(C',sp)::tb,∃j ps,j<=k/\HasM X.prog X.w X.K X.mg X.base p.1 m j ps p.2:=fun p hp=>by
 rcases qAb.mp hp with rfl|hp
 ·exact⟨j,ps,hj,by subst hc;exact h⟩
 ·exact hr p hp
end
structure OIs(K:qA0)(C:Addr):Prop where
 cl:Cls K C
 ha:qA8 K (.ref C) "__class__" = some (some (.builtin "object.__class__"))
 hn:qDf K (.builtin "object.__class__") "__get__" = some (some (.builtin "getset_descriptor.__get__"))
 htk:qFi K (.builtin "object.__class__")=some true
 hm:qCe K C (.type "object")=some true
end L2
namespace Mi
open PySem
def svD:Dt->Option Sv
 |.int i=>some (.i i)
 |.str x=>some (.s x)
 |_=>none
def svsD:List Dt->Option (List Sv)
 |[]=>some []
 |d::r=>match svD d,svsD r with
  |some v,some vs=>some (v::vs)
  |_,_=>none
def dSv:Sv->Dt
 |.i n=>.int n
 |.s x=>.str x
def eNew(c:Str)(fl:List Str)(am:AM):EM:=fun ρ=>zA3 (am ρ) fun ds=>match svsD ds with
 |some vs=>if vs.length=fl.length then okR (.ins c (fl.zip vs))else none
 |none=>none
def eNew0(c:Str):EM:=fun _=>okR (.ins c [])
def eFld(hs:List Str)(f:Str)(e:EM):EM:=fun ρ=>zA3 (e ρ) fun d=>match d with
 |.ins c fs=>if c∈hs then(match fs.lookup f with|some v=>okR (dSv v)|none=>none)else none
 |_=>none
def eMeth(tb:List (Str×FM))(m:Str)(e:EM)(am:AM):EM:=fun ρ=>zA3 (e ρ) fun d=>match d with
 |.ins c fs=>match tb.lookup c with
  |some g=>match fs.lookup m with
   |none=>zA3 (am ρ) fun ds=>g (d::ds)
   |some _=>none
  |none=>none
 |_=>none
def eIsO(ys ns:List Str)(e:EM):EM:=fun ρ=>zA3 (e ρ) fun d=>match d with
 |.ins c _=>if c∈ys then okR (.bl true)else if c∈ns then okR (.bl false)else none
 |_=>none
end Mi
namespace L3
open PySem PySem.Spec
open L2 hiding Rep RepL
open Mi (Dt Xn R okR zA3 optR zA0 zAD zAH zAE zAG Rh Sl Ro EM TM AM FM IM SM OM Tg Out zAU zAR zB7 full frz frz1 frzAt)
def zGY{K:qA0}{c:Str}{C:Addr}(h:clK K c=some C):(clK K c).getD 0=C:=by rw[h];rfl
def zEN(j:Nat):Stmt->Stmt
 |.ClassDef _ _ _ body _ _ _ _ _ _ _=>body.getD j (.Pass ⟨0,0,0,0⟩)
 |s=>s
structure OCls(K:qA0)(mg:Str->Option Value)(c:Str)(C:Addr):Prop where
 cl:clK K c=some C
 gm:mg c=some (.ref C)
 is:OIs K C
structure ONew(K:qA0)(mg:Str->Option Value)(c:Str)(C:Addr):Prop extends OCls K mg c C where
 mks:qCa K C=true
 ini:qA8 K (.ref C) "__init__" = some (some (.builtin "object.__init__"))
 kp:qAk K (.ref C)=true
structure OIni(P:qIo)(w:World)(K:qA0)(mg:Str->Option Value)(base:Heap)(c:Str)(fl:List Str)(C:Addr):Prop extends OCls K mg c C where
 na:∀f∈fl,NoAttr K C f
 ini:∃fI fd ps,Mk K C fI/\FnOk P w K mg base (CXe P w) 1 fI fd ps (zJR K fl)/\Binds K fd ps []
section
variable{X:Cx}{c:Str}{fl:List Str}{C:Addr}{k:Nat}{E:XK}{e:Expr}{es:List Expr}{t:TA}{p pos:Pos}
def zRQ(h:OIni X.prog X.w X.K X.mg X.base c fl C)(hr:Room k X.A)(hk:2<=k)(hf:Flies X E)(hg:Gl X c)(ha:PA X (e::es) t)(hdb:(c==("__debug__":Str))=false:=by decide)
  (he:starEach (e::es) X.env=(false,eval e X.env)::starEach es X.env:=by rfl) (hpl:(backTo pos (starEach es X.env)).any (·.1)=false:=by rfl):PE X (.Call (.Name c p) (e::es) [] pos) (zXM C (zJR X.K fl) [] E t):=by
 obtain⟨fI,fd,ps,M,F,hb⟩:=h.ini;exact zY5 M F (hr.mono hk) hg h.gm hb .nil hf.passes ha hdb he hpl
def zY4(h:ONew X.K X.mg c C)(hg:Gl X c)(hdb:(c==("__debug__":Str))=false:=by decide):PE X (.Call (.Name c p) [] [] pos) (zR0 C):=zRS h.mks h.ini h.kp hg h.gm hdb
end
section
variable[Kc]{mg:Str->Option Value}{E:XK}{n k:Nat}{ta tb:TE}{e ma:EM}{t:TA}{m:AM}
def zR3{G:Hp}:∀{ds:List Dt}{vs:List Mi.Sv}{xs:List V},Mi.svsD ds=some vs->RepL G ds xs->xs=vs.map svV
 |[],vs,xs,h,r=>by cases h;exact r
 |d::ds,vs,xs,h,r=>by
  obtain⟨x,q,rfl,a,b⟩:=r;rw[Mi.svsD]at h;cases e:Mi.svsD ds with
  |none=>rw[e]at h;cases e2:Mi.svD d<;>rw[e2]at h<;>cases h
  |some us=>
   rw[e]at h;have ih:=zR3 e b;cases d with
   |int i=>cases h;cases(show x=.int i from a);rw[ih];rfl
   |str z=>cases h;cases(show x=.str z from a);rw[ih];rfl
   |_=>cases h
def zbB{G H:Hp}(s:Same G H){x dx:Addr}{o:HO}(hx:H x=none)(hdx:H dx=none)(hne:dx≠x):Ext G H (upd G x o) (upd (upd H dx (.own x)) x o):=by
 have gx:G x=none:=by
  cases e:G x with
  |none=>rfl
  |some u=>rw[s _ _ e]at hx;cases hx
 refine⟨fun b u e=>?_,fun b u e=>?_,fun b u e=>?_,fun b hb=>?_⟩
 ·by_cases z:b=x
  ·rw[z,gx]at e;cases e
  ·rw[zA5 z];exact e
 ·by_cases z:b=x
  ·rw[z,hx]at e;cases e
  ·by_cases y:b=dx
   ·rw[y,hdx]at e;cases e
   ·rw[zA5 z,zA5 y];exact e
 ·by_cases z:b=x
  ·rw[z,zA8]at e ⊢;exact e
  ·rw[zA5 z]at e;have e2:=s _ _ e
   by_cases y:b=dx
   ·rw[y,hdx]at e2;cases e2
   ·rw[zA5 z,zA5 y];exact e2
 ·by_cases z:b=x
  ·rw[z]at hb;exact absurd hx hb
  ·rw[zA5 z]
def zVV:∀(fl:List Str)(vs:List Mi.Sv),fl.zip (vs.map svV)=(fl.zip vs).map fun p=>(p.1,svV p.2)
 |[],_=>by simp
 |_::_,[]=>by simp
 |f::fl,v::vs=>by simp[zVV fl vs]
def zSX{P:qIo}{w:World}{base:Heap}{c:Str}{fl:List Str}{C:Addr}{E':XK}(h:OIni P w Kc.K mg base c fl C)(A:DA mg E t m 0):DE mg E (zXM C (zJR Kc.K fl) [] E' t) (Mi.eNew c fl m) 0:=by
 intro G H σ ρ Q s w p;refine A.step errE s w p fun ds vs G1 H1 S T _ fr o p1=>?_
 cases e:Mi.svsD ds with
 |none=>rw[e]at p1;exact p1.elim
 |some us=>
  rw[e]at p1;dsimp only at p1;split at p1
  ·rename_i hl
   have hv:=zR3 e o.repL;intro x dx hx hdx hne;rw[qBv];refine⟨x,C,dx,vs,rfl,by rw[hv,qAg];exact hl,zA8,h.is.cl,h.na,rfl,?_⟩;rw[zQV];exact PostE.kept p1 (fr.ext.trans (zbB fr.ext.in' hx hdx hne)) ⟨x,C,dx,rfl,h.cl,by rw[zA8,hv,zVV]⟩
  ·exact p1.elim
def zZ4{c:Str}{C:Addr}(h:ONew Kc.K mg c C):DE mg E (zR0 C) (Mi.eNew0 c) 0:=by
 intro G H σ ρ Q s w p x dx hx hdx hne;exact PostE.kept p (zbB s hx hdx hne) ⟨x,C,dx,rfl,h.cl,zA8⟩
def zKD(f:Str):∀fs:List (Str×Mi.Sv),(fs.map fun p=>(p.1,svV p.2)).lookup f=(fs.lookup f).map svV
 |[]=>rfl
 |(g,v)::r=>by
  rw[qAm,qAy,qAy,zKD f r];cases f==g<;>rfl
def zG4{f:Str}{hs:List Str}(hf:∀c∈hs,∃C,clK Kc.K c=some C/\OIs Kc.K C/\NoAttr Kc.K C f)(A:DE mg E ta ma k):DE mg E (tFld Kc.K ta f) (Mi.eFld hs f ma) n:=by
 intro G H σ ρ Q s w p;refine(zBE A).step errE s w p fun d v G1 H1 S _ fr o p1=>?_
 cases d with
 |ins c fs=>
  obtain⟨a,C,dx,rfl,hc,ha⟩:=o;dsimp only at p1;split at p1
  ·rename_i hm
   obtain⟨C',hc',c1,c2⟩:=hf c hm;rw[hc]at hc';cases hc';cases e:fs.lookup f with
   |none=>rw[e]at p1;exact p1.elim
   |some v=>
    rw[e]at p1;refine⟨a,C,dx,_,svV v,rfl,fr.ext.in' _ _ ha,c1.cl,c2,by rw[zKD,e];rfl,?_⟩;cases v with
    |i z=>exact PostE.val p1 fr.ext rfl rfl
    |s z=>exact PostE.val p1 fr.ext rfl rfl
  ·exact p1.elim
 |_=>exact p1.elim
def zP0{g:FM}{c:Str}:∀{tb:List (Str×FM)},tb.lookup c=some g->(c,g)∈tb
 |(d,h)::r,e=>by
  rw[qAy]at e;cases z:c==d with
  |true=>rw[z]at e;cases e;rw[beq_iff_eq.mp z];exact qAw ..
  |false=>rw[z]at e;exact qAp _ (zP0 e)
def zSZ{tb:List (Str×FM)}{mn:Str}(A:DE mg E ta e k)(B:DA mg E t m 0):DE mg E (zVZ (tb.map fun p=>((clK Kc.K p.1).getD 0,spE Kc.K mg n p.2)) mn E ta t) (Mi.eMeth tb mn e m) n:=by
 intro G H σ ρ Q s w p;refine(zBE A).step errE s w p fun d v G1 H1 S _ fr o p1=>?_
 cases d with
 |ins c fs=>
  obtain⟨a,C,dx,rfl,hc,ha⟩:=o;dsimp only at p1;cases e1:tb.lookup c with
  |none=>rw[e1]at p1;exact p1.elim
  |some g=>
   rw[e1]at p1;dsimp only at p1;cases e2:fs.lookup mn with
   |some _=>rw[e2]at p1;exact p1.elim
   |none=>
    rw[e2]at p1;dsimp only at p1;refine⟨a,C,dx,_,spE Kc.K mg n g,rfl,fr.ext.in' _ _ ha,by rw[zKD,e2];rfl,qBq.mpr ⟨(c,g),zP0 e1,by rw[hc];rfl⟩,?_⟩;refine B.step (errE.from fr.ext) fr.ext.in' (w.mono fr.ext.g) p1 fun ds vs G2 H2 S2 T _ fr2 o2 p2=>?_
    exact⟨G2,.ins c fs::ds,(w.tab.trans fr.ext.g).trans fr2.ext.g,fr2.ext.in',⟨_,_,rfl,⟨a,C,dx,rfl,hc,fr2.ext.g _ _ ha⟩,o2.repL⟩,PostE.from p2 (fr.ext.trans fr2.ext)⟩
 |_=>exact p1.elim
end
end L3
namespace Mi
open PySem
def lastC(c:Nat)(l:List Nat):Option Nat:=(posC c l.reverse).map fun i=>l.length-1-i
def rfindD(x:Dt)(ys:List Dt):Option Dt:=match x,ys with
 |.str z,[.str y]=>match y.cps.toList with
  |[c]=>some (.int (match lastC c z.cps.toList with|some i=>(i:Int)|none=>-1))
  |_=>none
 |_,_=>none
def sUnpL(is:List Nat)(vs:List Nat)(e:EM):SM:=fun ρ=>zA3 (e (frz (frzAt vs ρ))) fun d=>match d with
 |.lst ds=>match zAU (.tup is) (.tup ds)with
  |none=>none
  |some bs=>okR (.nx (zB7 (frzAt vs ρ) bs))
 |_=>none
end Mi
namespace L2
open PySem PySem.Spec PyProof.Rows
section
end
section
variable{prog:qIo}{w:World}{A:qIr}{E:Value->qIk->Prop}{s:qIk}
def zM3{h h':Heap}{it l:Addr}{items:Array Value}(hl:h.IsList l items)(hs:qJh it h h')(hne:l≠it):h'.IsList l items:=by
 obtain⟨o,ho,r⟩:=hl;exact⟨o,(hs.2 l hne).trans ho,r⟩
def zJE{it t:Addr}{items:Array Value}(hne:t≠it):∀(n i:Nat)(s:qIk)(Q:List Value->qIk->Prop),s.heap.IsListIter it t i->s.heap.IsList t items->i+n<=items.size ->
  (∀h',h'.IsListIter it t (i+n)->qJh it s.heap h'->Q ((items.toList.drop i).take n) { s with heap:=h' })->wpAny (model prog w) A (draw (.ref it) n) Q E s
 |0,i,s,Q,hit,_,_,hQ=>by
  show wpAny _ _ (pure []) Q E s;exact wpAny_pure (by simpa using hQ s.heap hit (qM3 ..))
 |n+1,i,s,Q,hit,ht,hle,hQ=>by
  have hlt:i<items.size:=by lia
  show wpAny _ _ (pyNext (.ref it) >>= _) Q E s;refine wpAny_bind (wpAny_pyNext_list_item hit ht (x:=items[i]) (by simp[hlt]) fun h₁ hit₁ hs₁=>?_);refine wpAny_bind (wpAny_holding (zJE hne n (i+1) _ _ hit₁ (zM3 ht hs₁ hne) (by lia) fun h₂ hit₂ hs₂=>wpAny_pure ?_));have hd:items.toList.drop i=items[i]::items.toList.drop (i+1):=by simp[qB0,hlt]
  have:=hQ h₂ (by rw[show i+(n+1)=i+1+n by lia];exact hit₂) (hs₁.trans hs₂)
  rw[hd,qFz]at this;exact this
def zGF{t:Addr}{items:Array Value}{Q:List Value->qIk->Prop}(hh:A.handled=none)(ht:s.heap.IsList t items)
  (hQ:∀h',qKj s.heap.objs.size s.heap h'->Q items.toList { s with heap:=h' }):wpAny (model prog w) A (unpackItems (.ref t) items.size none) Q E s:=by
 have hlt:t≠s.heap.objs.size:=by obtain⟨o,ho,_⟩:=ht;exact qAl (qIl ho)
 unfold unpackItems;refine wpAny_bind ?_
 ·unfold notIterableAtAll;refine wpAny_bind (wpAny_specialOf ht.typeIs slot_list_iter.lookup ?_);refine wpAny_pure ?_;simp only[qD6,if_false];refine wpAny_bind (wpAny_holding (wpAny_pyIter_list ht ?_));refine wpAny_bind (wpAny_holding (zJE hlt items.size 0 _ _ ⟨_,qIm _ rfl,rfl,rfl⟩ (ht.push _) (by lia) fun h₁ hit₁ hs₁=>?_));have hall:qIg items.size (qIh 0 items.toList)=items.toList:=by
   rw[qCi];exact qBs (by simp)
  rw[hall];rw[if_neg (by simp)];have ht₁:h₁.IsList t items:=zM3 (ht.push _) hs₁ hlt;refine wpAny_bind (wpAny_holding (wpAny_pyNext_list_end hh hit₁ ht₁ (by simp) fun h₂ he₂=>?_));simp only[Option.isSome_none,qD6,if_false];refine wpAny_pure (hQ h₂ fun b o hb e=>he₂ b o hb (hs₁.extBut b o hb (qIj _ e)))
def zGC{env:Env}{elts:List Expr}{x1}{pos:Pos}{t:Addr}{items:Array Value}{Q:Unit->qIk->Prop}(hh:A.handled=none)(ht:s.heap.IsList t items)
  (hn:(assignEach elts env).length=items.size) (hstar:(assignEach elts env).findIdx? (·.1)=none)
  (h:∀h',qKj s.heap.objs.size s.heap h'->wpAny (model prog w) A (assignInOrder ((assignEach elts env).map (·.2)) items.toList) Q E { s with heap:=h' }) :
  wpAny (model prog w) A (assign (.Tuple elts x1 pos) env (.ref t)) Q E s:=by
 rw[assign_Tuple];refine wpAny_bind (wpAny_standAt ?_);unfold unpack;rw[hn,hstar];exact wpAny_bind (wpAny_holding (zGF hh ht h))
end
section
variable{X:Cx}{pos:Pos}
def gUnL(K:qA0)(n:Nat)(t:TGs):TG:=fun v σ H Q=>∃a xs,v=.ref a/\SqL K H a xs/\xs.length=n/\t xs σ H Q
def zaO{K:qA0}{es:List Expr}{k:Nat}{t:TGs}{n:Nat}(hc:X.calm=true)(h:PGs X es t)
  (hn:(assignEach es X.env).length=n:=by rfl) (hst:(assignEach es X.env).findIdx? (·.1)=none:=by rfl) (hK:X.K=K:=by rfl):PG X (.Tuple es k pos) (gUnL K n t):=by
 subst hK;intro pins s σ H v u Q I r hw;obtain⟨a,xs,e1,hq,hl,hw⟩:=hw;subst e1;cases r;obtain⟨its,rv,ht,hz⟩:=I.list hq;refine zGC (I.ok.hd hc) ht.isList (by simp[hn,<- hl,rv.length]) hst fun h' hx=>?_
 have I1:Inv X pins σ H { s with heap:=h' }:=I.kept (t':=s.toks) fun b o e=>hx b o (qAl (qIl e)) e
 exact h pins _ σ H xs _ Q I1 (by simpa using rv) hw
end
def zUW(z:Str)(c:Nat):qNh z ⟨#[c]⟩=(match Mi.lastC c z.cps.toList with|some i=>(i:Int)|none=>-1):=by
 have hone:∀i,StrLaws.At z ⟨#[c]⟩ z.length i↔z.cps.toList[i]?=some c:=fun i=>StrLaws.subAt_one z c i
 generalize hl:z.cps.toList=l at hone;have pos_none:∀{r:List Nat},Mi.posC c r=none->c∉r:=by
  intro r;induction r with
  |nil=>intro _ h;simp at h
  |cons a r ih=>
   intro h;have h':(if a=c then some 0 else(Mi.posC c r).map (·+1))=none:=h
   split at h'
   ·cases h'
   ·rename_i hne
    have:=ih (by cases e:Mi.posC c r with|none=>rfl|some _=>rw[e]at h';cases h')
    intro z;rcases qAb.mp z with q|q
    ·exact hne q.symm
    ·exact this q
 have pos_some:∀{r:List Nat}{i:Nat},Mi.posC c r=some i->r[i]?=some c/\∀j,j<i->r[j]?≠some c:=by
  intro r;induction r with
  |nil=>intro i h;cases h
  |cons a r ih=>
   intro i h;have h':(if a=c then some 0 else(Mi.posC c r).map (·+1))=some i:=h
   split at h'
   ·rename_i hac
    cases h';exact⟨by simp[hac],fun j hj=>by lia⟩
   ·rename_i hne
    cases e:Mi.posC c r with
    |none=>rw[e]at h';cases h'
    |some k=>
     rw[e]at h';cases h';obtain⟨q1,q2⟩:=ih e;refine⟨by simpa using q1,fun j hj=>?_⟩;cases j with
     |zero=>simpa using hne
     |succ j=>simpa using q2 j (Nat.lt_of_succ_lt_succ hj)
 unfold Mi.lastC;cases e:Mi.posC c l.reverse with
 |none=>
  have hn:=pos_none e;rcases rfind_whole z ⟨#[c]⟩with⟨h,_⟩|⟨i,_,h,_⟩
  ·exact h
  ·have:=(hone i).mp h
   exact absurd (List.mem_reverse.mpr (qBo this)) hn
 |some i=>
  obtain⟨q1,q2⟩:=pos_some e;have hil:i<l.length:=by
   have:=(qA2.mp q1).1;simpa using this
  have q3:l[l.length-1-i]?=some c:=by rw[<- q1,qE6 hil]
  rcases rfind_whole z ⟨#[c]⟩with⟨_,h⟩|⟨j,h1,h2,h3⟩
  ·exact absurd ((hone _).mpr q3) (h _)
  ·have hj:=(hone j).mp h2;have hjl:j<l.length:=(qA2.mp hj).1;have hle:¬j<l.length-1-i:=fun z=>h3 _ z ((hone _).mpr q3)
   have hge:¬l.length-1-i<j:=fun z=>q2 (l.length-1-j) (by lia) (by rw[qE6 (by lia)];rw[show l.length-1-(l.length-1-j)=j by lia];exact hj)
   rw[h1];show(j:Int)=((l.length-1-i:Nat):Int);lia
end L2
namespace L3
open PySem PySem.Spec
open L2 hiding Rep RepL
open Mi (Dt Xn R okR zA3 optR zA0 zAD zAH zAE zAG Rh Sl Ro EM TM AM FM IM SM OM Tg Out zAU zAR zB7 full frz frz1 frzAt)
section
variable[Kc]{mg:Str->Option Value}{E:XK}{L n:Nat}{te:TE}{e:EM}
def zU0:RMt zWA Mi.rfindD n:=zRF (fun z=>zK7 rfl (fun d h=>by cases d<;>first|rfl|exact absurd rfl (h _)) (fun d e r=>by cases d<;>rfl) rfl fun a b r=>rfl) fun mg E G H z c Q s p=>by
 show Q (.int (qNh z ⟨#[c]⟩)) H;rw[zUW];exact PostE.val p (Ext.refl s) rfl rfl
def zZ3{K:qA0}{g:TGs}{is:List Nat}{kk:Nat}(vs:List Nat)(hg:zTK g is)(hk:is.length=kk)(A:DE mg E te e n):DS mg E L (tAsg te (gUnL K kk g)) (Mi.sUnpL is vs e):=by
 intro G0 H0 S0 σ ρ G H As D a p;obtain⟨G1,As1,a1⟩:=Sat.frzAt vs a;refine(zBE A).step (errS.from a1.ext) a1.ext.in' a1.frz p fun d v G2 H2 S _ fr o p1=>?_
 cases d with
 |lst ds=>
  dsimp only at p1;obtain⟨b,xs,rfl,hb,rb⟩:=o;cases eb:zAU (.tup is) (.tup ds)with
  |none=>rw[eb]at p1;exact p1.elim
  |some bs=>
   rw[eb]at p1;rw[zAU]at eb;by_cases hz:ds.length=is.length
   ·rw[if_pos hz]at eb;cases eb;refine⟨b,xs,rfl,.inl (.inl (fr.ext.in' _ _ hb)),by rw[rb.length,hz,hk],hg G2 H2 σ ds xs _ rb hz fun ws hw=>?_⟩;obtain⟨As',a2⟩:=Sat.puts hw (a1.wider fr.ext);exact p1 _ G2 H2 As' a2
   ·rw[if_neg hz]at eb;cases eb
 |_=>exact p1.elim
end
end L3
namespace L2
open PySem PySem.Spec PyProof.Rows
def zJM{M:Model}{A:qIr}{E:Value->qIk->Prop}{s:qIk}{src:Source}{n:Nat}{Q:Nat->qIk->Prop}(hn:n≠0)(h:∀i d,i<n->Q i { s with drawn:=d }):wpAny M A (choose src n) Q E s:=
 fun Γ p hΓ=>⟨hn,h _ _ (qGm _ (Nat.pos_of_ne_zero hn))⟩
def zQ9(t:qKd)(es:Array (Int×Value))(h:Int)(x:Value):(layNew t es h x).2.1.led=t.led:=by
 unfold layNew;split
 ·dsimp only;unfold qLt
  split<;>rfl
 ·rfl
def zQ8(t:qKd)(es:Array (Int×Value))(h:Int)(x:Value)(hp:t.plain=false):(layNew t es h x).2.1.plain=false:=by
 unfold layNew;split
 ·dsimp only;unfold qLt
  split
  ·exact hp
  ·rfl
 ·rfl
def zLI{t t':qKd}{hs:Array Int}{w:Nat}{o:Array Nat}(h:t.relaid hs w=some (t',o)):t'.led=t.led/\t'.plain=t.plain:=by
 unfold SetTable.relaid SetTable.laid at h;cases e:SetTable.layClean (SetTable.sizeAbove w-1) hs with
 |none=>rw[e]at h;cases h
 |some ow=>
  rw[e]at h;have h':=qBg h;have:=congrArg qI9 h';dsimp only at this;rw[<- this];exact⟨rfl,rfl⟩
def zIS(t:qKd)(es:Array (Int×Value))(wanted:Nat):(relayAll t es wanted).2.1.led=t.led/\(t.plain=false->(relayAll t es wanted).2.1.plain=false):=by
 unfold relayAll;split
 ·rename_i t' order e
  obtain⟨h1,h2⟩:=zLI e;dsimp only;split
  ·exact⟨h1,fun h=>h2.trans h⟩
  ·exact⟨rfl,fun _=>rfl⟩
 ·exact⟨rfl,fun _=>rfl⟩
section
variable{prog:qIo}{w:World}{A:qIr}{E:Value->qIk->Prop}{s:qIk}
def SetZ(prog:qIo)(w:World)(h:Heap)(a:Addr)(led:Bool)(ks:List Str):Prop:=
 ∃o es ep t,h.get? a=some o/\o.ExactSet/\o.data=.set es ep t/\qNb (strKind prog w) es.toList/\es.toList.map (fun e=>strOf e.2)=ks/\ks.Nodup/\es.size<scanBound/\t.fits es.size=true/\t.led=led/\(0<es.size->t.plain=false)
def SetZ.at{h h':Heap}{a:Addr}{led:Bool}{ks:List Str}(hS:SetZ prog w h a led ks)(hk:∀o,h.get? a=some o->h'.get? a=some o):SetZ prog w h' a led ks:=by
 obtain⟨o,es,ep,t,ho,r⟩:=hS;exact⟨o,es,ep,t,hk o ho,r⟩
def zI9{k:Str}{v:Value}(h:(strKind prog w).is k v=true):∃t,v=.str k t:=qLg h
def zKI{es:List (Int×Value)}(h:qNb (strKind prog w) es){e:Int×Value}(he:e∈es):∃k t,e.2=.str k t:=by
 obtain⟨⟨k,hk,_⟩,_⟩:=h e he;obtain⟨t,e1⟩:=zI9 hk;exact⟨k,t,e1⟩
def zWP{es:List (Int×Value)}(h:qNb (strKind prog w) es){e:Int×Value}(he:e∈es)(k:Str):(strKind prog w).is k e.2=true↔strOf e.2=k:=by
 obtain⟨k',t,e1⟩:=zKI h he;rw[e1];constructor
 ·intro z;obtain⟨t',e2⟩:=zI9 z
  injection e2 with e3
 ·rintro rfl
  exact strKind_is prog w _ t
def zTX{a:Addr}{led:Bool}{ks:List Str}{k:Str}{tk:Tok}{Q:Bool->qIk->Prop}(hS:SetZ prog w s.heap a led ks)(hroom:ks.length+1<scanBound)
  (h:∀h' ks' b,qJh a s.heap h'->SetZ prog w h' a led ks'->(k∈ks->ks'=ks)->(k∉ks->ks'.Perm (ks++[k]))->Q b { s with heap:=h' }) :
  wpAny (model prog w) A (setAddHashed a (.str k tk) ((strKind prog w).hash k)) Q E s:=by
 obtain⟨o,es,ep,t,ho,hex,hd,hel,hks,hnd,hb,hf,hled,hpl⟩:=hS;have hn:es.size=ks.length:=by rw[<- hks,qAg,qB9]
 have hb1:es.size+1<scanBound:=by lia
 have hkey:(strKind prog w).is k (.str k tk)=true:=strKind_is prog w k tk;have hsc:(qKe k tk).scannable=true:=rfl;unfold setAddHashed setAddHashedIn;refine wpAny_holding (wpAny_bind (wpAny_setState_of ho hd hf ?_));dsimp only;rw[byScan_of hsc hb hel];simp only[↓reduceIte];unfold setAddByScan;refine wpAny_bind ?_;refine wpAny_bind (wpAny_rule ?_);refine wpAny_bind (wpAny_setScan_of hkey ho hd hf hel ?_);cases hr:List.findIdx? (fun e=>(strKind prog w).is k e.2) es.toList with
 |some j=>
  dsimp only;obtain⟨hj,hpj,_⟩:=List.findIdx?_eq_some_iff_getElem.mp hr;have hin:k∈ks:=by
   rw[<- hks];exact qBq.mpr ⟨es.toList[j],qD5 hj,(zWP hel (qD5 hj) k).mp hpj⟩
  refine wpAny_pure (wpAny_pure ?_);have e:s={ s with heap:=s.heap }:=by cases s;rfl
  rw[e];exact h s.heap ks false (qM3 a s.heap) ⟨o,es,ep,t,ho,hex,hd,hel,hks,hnd,hb,hf,hled,hpl⟩ (fun _=>rfl) (fun z=>absurd hin z)
 |none=>
  dsimp only;have hnin:k∉ks:=by
   intro z;rw[<- hks]at z;obtain⟨e,he,e1⟩:=qBq.mp z;have:=List.findIdx?_eq_none_iff.mp hr e he;rw[(zWP hel he k).mpr e1]at this;exact Bool.noConfusion this
  have hgw:∀(b:Bool){s₁:qIk}{Q':Unit->qIk->Prop},Q' () s₁->wpAny (model prog w) A (match b with|true=>rule "set.scan.the-table-gave-way" | false=>pure ()) Q' E s₁:=
   fun b s₁ Q' hq=>by cases b<;>first|exact wpAny_pure hq|exact wpAny_rule hq
  have hperm:=layNew_perm t es ((strKind prog w).hash k) (.str k tk);have hfits:=layNew_fits t es ((strKind prog w).hash k) (.str k tk);have hled1:=zQ9 t es ((strKind prog w).hash k) (.str k tk);have hoff1:=zQ8 t es ((strKind prog w).hash k) (.str k tk);generalize hL:layNew t es ((strKind prog w).hash k) (.str k tk)=L at hperm hfits hled1 hoff1 ⊢;obtain⟨es1,t1,wasDummy,gave⟩:=L;dsimp only at hperm hfits hled1 hoff1 ⊢;rw[qGn]at hperm;have hel1:qNb (strKind prog w) es1.toList:=(hel.push hkey hsc).perm hperm;have hks1:(es1.toList.map fun e=>strOf e.2).Perm (ks++[k]):=by
   have:=hperm.map fun e:Int×Value=>strOf e.2
   rw[qCb,hks]at this;exact this
  have hnd1:(es1.toList.map fun e=>strOf e.2).Nodup:=hks1.nodup_iff.mpr (by
   rw[qE1];exact⟨hnd,by simp,fun x hx y hy e=>hnin (by rw[qCt]at hy;rw[<- hy,<- e];exact hx)⟩)
  have hb1':es1.size<scanBound:=by rw[<- qB9,hperm.length_eq,qAs,qB9];simpa using hb1
  refine wpAny_bind (hgw _ ?_);have tail:∀t2:qKd,t2.fits es1.size=true->t2.led=led->t2.plain=false->wpAny (model prog w) A (do
    storeSet a es1 t2
    if(!wasDummy&&t2.tooFull)=true then do
      (match(relayAll t2 es1 (qJk es1.size)).2.2 with|true=>rule "set.scan.the-table-gave-way" | false=>pure ())
      storeSet a (relayAll t2 es1 (qJk es1.size)).1 (relayAll t2 es1 (qJk es1.size)).2.1
      pure (some true)
     else pure (some true)) (fun r s'=>wpAny (model prog w) A (match r with|some added=>pure added|none=>setAddHashedIn a (.str k tk) ((strKind prog w).hash k) 99999) Q E s') E s:=by
   intro t2 f2 l2 p2;refine wpAny_bind (wpAny_storeSet_of ho hd ?_ (fits_of_scanBound hb1'));have hg:(s.heap.update a (qM4 es1 t2)).get? a=some { o with data:=.set es1 (ep+1) t2 }:=by
    have:=qIp (qM4 es1 t2) ho (by rw[qMt es1 t2 hd];rfl)
    rw[qMt es1 t2 hd]at this;exact this
   have hsb1:=qJi s.heap a (qM4 es1 t2);split
   ·have hp:=relayAll_perm t2 es1 (qJk es1.size);have hfr:=relayAll_fits t2 es1 (qJk es1.size);have hkp:=zIS t2 es1 (qJk es1.size)
    generalize hRl:relayAll t2 es1 (qJk es1.size)=Rl at hp hfr hkp ⊢;obtain⟨es2,t3,gave2⟩:=Rl;dsimp only at hp hfr hkp ⊢;have hsz:es2.size=es1.size:=by rw[<- qB9,hp.length_eq,qB9]
    refine wpAny_bind (hgw _ ?_);refine wpAny_bind (wpAny_storeSet_of hg rfl ?_ (fits_of_scanBound (by rw[hsz];exact hb1')));have hg2:=qIp (qM4 es2 t3) hg (by rw[qMt (o:={ o with data:=.set es1 (ep+1) t2 }) es2 t3 rfl];rfl);rw[qMt (o:={ o with data:=.set es1 (ep+1) t2 }) es2 t3 rfl]at hg2;have hks2:=hp.map fun e:Int×Value=>strOf e.2
    refine wpAny_pure (wpAny_pure (h _ (es2.toList.map fun e=>strOf e.2) _ (hsb1.trans (qJi _ a _)) ⟨_,es2,ep+2,t3,hg2,hex,rfl,hel1.perm hp,rfl,hks2.nodup_iff.mpr hnd1,by rw[hsz];exact hb1',hfr,hkp.1.trans l2,fun _=>hkp.2 p2⟩ (fun z=>absurd z hnin) fun _=>hks2.trans hks1))
   ·exact wpAny_pure (wpAny_pure (h _ (es1.toList.map fun e=>strOf e.2) _ hsb1 ⟨_,es1,ep+1,t2,hg,hex,rfl,hel1,rfl,hnd1,hb1',f2,l2,fun _=>p2⟩ (fun z=>absurd z hnin) fun _=>hks1))
  split
  ·refine wpAny_bind ?_;rw[hashByValue_scannable 8 hsc];refine wpAny_pure ?_;exact tail { t1 with plain:=false } (SetTable.fits_plain_off hfits) (hled1.trans hled) rfl
  ·rename_i hp1
   refine wpAny_bind (wpAny_pure ?_);simp only[↓reduceIte];exact tail t1 hfits (hled1.trans hled) (by simpa using hp1)
end
section
variable{prog:qIo}{w:World}{A:qIr}{R:qLq->qIk->Prop}{I:Addr}{fp wr:List Addr}{G:Array qKb->Array qKb->Prop}{St:Nat->qIk->Prop}{led:Bool}{z:Str}
def loopZ(W:WalksS prog w A.in1 I fp wr G z.cps.size (SignAt z) St)(S:Addr)(hSf:S∉fp)(hb:z.cps.size+1<scanBound) :
  ∀(k i:Nat)(s:qIk)(ks:List Str),z.cps.size-i=k->i<=z.cps.size->St i s->SetZ prog w s.heap S led ks->ks.length<=i->(∀c,c∈ks↔∃j d,j<i/\z.cps[j]?=some d/\c=⟨#[d]⟩) ->
   (∀s' ks',Moved (S::wr) G s s'->SetZ prog w s'.heap S led ks'->(∀c,c∈ks'↔∃j d,j<z.cps.size/\z.cps[j]?=some d/\c=⟨#[d]⟩)->R (.ok (.ret .none)) s') ->
   qJn (model prog w) A (.builtin "set.update.loop" ⟨[.ref S,.ref I],[]⟩) R s:=by
 have hSw:S∉wr:=fun h=>hSf (W.sub _ h)
 have hsub:∀b∈wr,b∈S::wr:=fun b hb=>qAp _ hb
 intro k;induction k with
 |zero=>
  intro i s ks hk hi hst hS hkl hks hR;have hin:i=z.cps.size:=by lia
  subst hin;refine codeAny_builtin qDl ?_;rw[qJ1 qCk _];show wpAny _ A.in1 (pyNext (.ref I) >>= _) _ _ s;refine wpAny_bind (W.done s _ _ hst fun s' hm=>?_);show wpAny _ A.in1 (ret qIy) _ _ s';exact wpAny_pure (hR s' ks (hm.mono hsub) (hS.at fun o ho=>hm.heap S o hSw ho) hks)
 |succ k ih=>
  intro i s ks hk hi hst hS hkl hks hR;have hlt:i<z.cps.size:=by lia
  refine codeAny_builtin qDl ?_;rw[qJ1 qCk _];show wpAny _ A.in1 (pyNext (.ref I) >>= _) _ _ s;refine wpAny_bind (W.item i s _ _ hlt hst fun v s' hP hst' hm=>?_);obtain⟨c,u,hc,rfl⟩:=hP;have hS':SetZ prog w s'.heap S led ks:=hS.at fun o ho=>hm.heap S o hSw ho
  show wpAny _ A.in1 (holding [qKe ⟨#[c]⟩ u] (setAdd S (.str ⟨#[c]⟩ u)) >>= _) _ _ s';refine wpAny_bind (wpAny_holding ?_);unfold setAdd;refine wpAny_holding ?_;refine wpAny_bind ((strKind prog w).pyHash (k:=⟨#[c]⟩) (strKind_is prog w _ _) ?_);refine zTX (s:={ s' with toks:=s'.toks+1 }) hS' (by lia) fun h' ks' b hsb hS2 hin hout=>?_
  have hmem:∀x,x∈ks'↔∃j d,j<i+1/\z.cps[j]?=some d/\x=⟨#[d]⟩:=by
   intro x;have step:x∈ks'↔x∈ks\/x=⟨#[c]⟩:=by
    by_cases h:(⟨#[c]⟩:Str)∈ks
    ·rw[hin h];exact⟨.inl,fun z=>z.elim id fun e=>e▸h⟩
    ·rw[(hout h).mem_iff,qBt,qCt]
   rw[step,hks];constructor
   ·rintro(⟨j,d,hj,e1,e2⟩|rfl)
    ·exact⟨j,d,by lia,e1,e2⟩
    ·exact⟨i,c,by lia,hc,rfl⟩
   ·rintro⟨j,d,hj,e1,e2⟩
    by_cases hji:j=i
    ·subst hji;rw[hc]at e1;cases e1;exact .inr e2
    ·exact .inl ⟨j,d,by lia,e1,e2⟩
  have hlen:ks'.length<=i+1:=by
   by_cases h:(⟨#[c]⟩:Str)∈ks
   ·rw[hin h];lia
   ·rw[(hout h).length_eq,qAs];simp;lia
  refine wpAny_pure ⟨qJt qCk _,ih (i+1) _ ks' (by lia) hlt (W.frame _ s' _ _ hst' (qBm _) fun b hb o e=>?_) hS2 hlen hmem fun s'' ks'' hm'' hS'' hk''=>?_⟩
  ·rw[hsb.2 b (fun h:b=S=>hSf (by rw[<- h];exact hb))];exact e
  ·refine hR s'' ks'' (Moved.trans W.gtrans ((hm.mono hsub).then_heap (qBm _) fun b o hb e=>?_) hm'') hS'' hk'';rw[hsb.2 b (fun h:b=S=>hb (by rw[h];exact qAw))];exact e
end
end L2
namespace PySem
open PyProof.Rows
def zJU{prog:qIo}{w:World}{A:qIr}{E:Value->qIk->Prop}{s:qIk}(a:Value){Q₁:Value->qIk->Prop}
  (h:Q₁ (.ref s.heap.objs.size) { s with heap:=s.heap.push { cls:=.type "set",dict:=none,data:=.set #[] 0 (.fresh 0 0 (!w.params.followText "set-order")) } }) :
  qJn (model prog w) A (.call (.builtin "set.__new__") ⟨[.type "set",a],[]⟩) (wants Q₁ E) s:=by
 refine codeAny_of_tree ?_;show wpAny _ A.in1 (do checkBuiltinCall "set.__new__" ⟨[.type "set",a],[]⟩;again (.builtin "set.__new__" ⟨[.type "set",a],[]⟩)) _ _ s;refine wpAny_bind (wpAny_of_eq (F.newCall_set_1 a) (wpAny_pure ⟨qJt qMu _,codeAny_builtin F.entry_set_new ?_⟩));rw[qJ1 qMu _];unfold qJy.«set.__new__» qMw;have hsub:=sub_set_self;obtain⟨hp,g,d,tk,os⟩:=s;dsimp only
 wp_walk
 refine wpAny_askSetting (wpAny_pure ?_);dsimp only;simp only[newObj];refine wpAny_bind (wpAny_alloc (wpAny_pure ?_));exact wpAny_pure h
def zLA:isSubtype (.type "str") (.type "set")=pure false:=by rw[qJu];kernel_rfl
def zJT:isSubtype (.type "str") (.type "frozenset")=pure false:=by rw[qJu];kernel_rfl
set_option maxHeartbeats 3200000 in
def zJV{prog:qIo}{w:World}{A:qIr}{E:Value->qIk->Prop}{s:qIk}{z:Str}{t:Tok}{Q:Value->qIk->Prop}
  (hh:A.handled=none) (hb:z.cps.size+1<scanBound)
  (h:∀(h':Heap)(tk:Nat)(ks:List Str),L2.SetZ prog w h' s.heap.objs.size (!w.params.followText "set-order") ks->(∀c,c∈ks↔∃j d,j<z.cps.size/\z.cps[j]?=some d/\c=⟨#[d]⟩) ->
   (∀b o,b<s.heap.objs.size->s.heap.get? b=some o->h'.get? b=some o)->s.heap.objs.size<h'.objs.size->Q (.ref s.heap.objs.size) { s with heap:=h',toks:=tk }) :
  wpAny (model prog w) A (call (.type "set") [.str z t]) Q E s:=by
 obtain⟨c,tl,hmro⟩:=qJq.mro;have hmade:=qJq.made;have hsub:=qJq.sub;refine wpAny_call (codeAny_of_tree ?_);show wpAny _ _ (callAny (.type "set") _) _ _ _;refine wpAny_pure ⟨qJm _ (by decide +kernel),codeAny_builtin F.entry_type_call ?_⟩;rw[Around.under_plain (weight_type_call_type "set" [.str z t] []) rfl];have h1:=qJq.notType;have h2:=qJq.canCreate;have hct:=F.typeCall_set_1 (.str z t)
 repeat (any_goals (first|assumption|wp_step))
 refine codeAny_mono (zJU (.str z t) (E:=E) (Q₁:=fun obj s₁=>obj=.ref s.heap.objs.size/\s₁={ s with heap:=s.heap.push { cls:=.type "set",dict:=none,data:=.set #[] 0 (.fresh 0 0 (!w.params.followText "set-order")) } }) ⟨rfl,rfl⟩) fun r s₁ hr=>?_
 generalize(!w.params.followText "set-order")=led at hr h;cases r with
 |error e=>exact hr
 |ok fl=>
  cases fl with
  |ret obj=>
   obtain⟨rfl,rfl⟩:=hr;have hS:(s.heap.push { cls:=.type "set",dict:=none,data:=.set #[] 0 (.fresh 0 0 led) }).get? s.heap.objs.size=some { cls:=.type "set",dict:=none,data:=.set #[] 0 (.fresh 0 0 led) }:=qIm _ rfl;have hT:Shared.TypeIs { s with heap:=s.heap.push { cls:=.type "set",dict:=none,data:=.set #[] 0 (.fresh 0 0 led) } } (.ref s.heap.objs.size) "set":=⟨_,hS,rfl⟩
   have hli:=qJq.init.lookup;have hbi:=qJq.init.bind (.ref s.heap.objs.size)
   repeat (any_goals (first|assumption|wp_step))
   refine codeAny_mono (codeAny_call_builtin (R:=wants (fun r s₂=>r=.none/\∃h' tk ks,s₂={ s with heap:=h',toks:=tk }/\L2.SetZ prog w h' s.heap.objs.size led ks/\(∀c,c∈ks↔∃j d,j<z.cps.size/\z.cps[j]?=some d/\c=⟨#[d]⟩) /\
     (∀b o,b<s.heap.objs.size->s.heap.get? b=some o->h'.get? b=some o)) E) qJq.init.plain F.entry_set_init (check_set_init_1 hT ?_)) fun r₂ s₂ hr₂=>?_
   ·have hsls:=zLA;have hslf:=zJT;have hne:(qJ9 "str" == qJ9 "dict")=false:=by decide
    unfold qJy.«set.__init__» noKeywords qMi;generalize hPI:pyIter=PI
    wp_walk
    subst hPI;refine wpAny_pyIter_str fun o St W hst=>?_
    refine wpAny_bind (wpAny_runValue ?_);have hh3:A.in1.in1.in1.handled=none:=by simp[hh]
    have hSf:s.heap.objs.size∉[(s.heap.push { cls:=.type "set",dict:=none,data:=.set #[] 0 (.fresh 0 0 led) }).objs.size]:=by
     rw[qIv];simp only[qAb,qAz,or_false];exact qAl (qBw _)
    refine L2.loopZ (led:=led) (W _ hh3).toS s.heap.objs.size hSf hb (z.cps.size-0) 0 _ [] (by lia) (qAv _) hst ?hS0 (qA5 _) (fun c=>⟨fun z=>by simp at z,fun⟨j,d,hj,_⟩=>by lia⟩) ?hR
    case hS0=>
     exact⟨_,#[],0,_,qIj _ hS,⟨rfl,rfl,rfl⟩,rfl,fun e he=>by simp at he,rfl,.nil,by decide,rfl,rfl,fun z=>by simp at z⟩
    case hR=>
     intro s' ks hm hS' hk;obtain⟨h',g',d',tk',os'⟩:=s';have eg:g'=s.gens:=hm.gens;have ed:d'=s.drawn:=hm.drawn;have eo:os'=s.os:=hm.os;subst eg;subst ed;subst eo;show wpAny _ _ _ _ _ _;refine wpAny_pure ?_;show wpAny _ _ (ret qIy) _ _ _;refine wpAny_pure ⟨rfl,h',tk',ks,rfl,hS',hk,fun b o hb e=>?_⟩;have hb1:b≠s.heap.objs.size:=qAl hb;have hb2:b≠(s.heap.push { cls:=.type "set",dict:=none,data:=.set #[] 0 (.fresh 0 0 led) }).objs.size:=by
      rw[qIv];exact qAl (qBk hb)
     exact hm.heap b o (by simp only[qAb,qAz,or_false,not_or];exact⟨hb1,hb2⟩) (qIj _ (qIj _ e))
   ·cases r₂ with
    |error e=>exact hr₂
    |ok fl₂=>
     cases fl₂ with
     |ret r=>
      obtain⟨rfl,h',tk,ks,rfl,hS',hk,hk'⟩:=hr₂
      repeat (any_goals (first|assumption|wp_step))
      exact h _ _ ks hS' hk hk' (by obtain⟨o,_,_,_,ho,_⟩:=hS';exact qIl ho)
     |_=>exact hr₂.elim
  |_=>exact hr.elim
end PySem
namespace L2
open PySem PySem.Spec PyProof.Rows
def slot_si_next:Slot "set_iterator" "__next__" "set_iterator.__next__":=
 .of (owner:="set_iterator") (n:="__next__") (by rw[qLa,qKf];kernel_rfl) (by decide +kernel) (by decide +kernel) (by decide +kernel)
  (by first|exact .inl (by decide +kernel)|exact .inr (by decide +kernel)) (by rw[qJu];kernel_rfl)
def zGV:Slot "set_iterator" "__iter__" "set_iterator.__iter__":=
 .of (owner:="set_iterator") (n:="__iter__") (by rw[qLa,qKf];kernel_rfl) (by decide +kernel) (by decide +kernel) (by decide +kernel)
  (by first|exact .inl (by decide +kernel)|exact .inr (by decide +kernel)) (by rw[qJu];kernel_rfl)
def zD9:entryFor table "set_iterator.__next__" = some qJy.«set_iterator.__next__»:=entryFor_of_fast (by kernel_rfl)
def zKH:entryFor table "set_iterator.__iter__" = some qJy.«dict_keyiterator.__iter__»:=entryFor_alias (id':="dict_keyiterator.__iter__") (by kernel_rfl) rfl (by decide +kernel) (by kernel_rfl)
def zIE:entryFor table "set.__iter__" = some qJy.«frozenset.__iter__»:=entryFor_alias (id':="frozenset.__iter__") (by kernel_rfl) rfl (by decide +kernel) (by kernel_rfl)
def zDP(a:Value):argsOk "set_iterator.__next__" ⟨[a],[]⟩:=by unfold argsOk;kernel_rfl
def zMY(a:Value):argsOk "set_iterator.__iter__" ⟨[a],[]⟩:=by unfold argsOk;kernel_rfl
def IsSI(h:Heap)(it:Addr)(vs:Array Value):Prop:=∃o,h.get? it=some o/\o.cls=.type "set_iterator"/\o.data=.fields vs
section
variable{prog:qIo}{w:World}{A:qIr}{E:Value->qIk->Prop}{s:qIk}
def zR8{it:Addr}{vs:Array Value}{Q:Value->qIk->Prop}(hit:IsSI s.heap it vs)(h:Q (.ref it) s):wpAny (model prog w) A (pyIter (.ref it)) Q E s:=by
 obtain⟨o,ho,hc,hd⟩:=hit;have hT:s.TypeIs (.ref it) "set_iterator":=⟨o,ho,hc⟩;refine qM5 hT zGV (wpAny_call_entry zGV hT zKH ?_ (zMY _));show wpAny _ _ (ret (.ref it)) _ _ s;exact wpAny_pure ⟨_,rfl,"set_iterator",_,hT,slot_si_next.lookup,h⟩
def zR7{P:Fin->qIk->Prop}{E':Value->qIk->Prop}(hh:A.handled=none)(h:∀x h',qKj s.heap.objs.size s.heap h'->(∀b o,s.heap.get? b=some o->h'.get? b=some o)->(∃ox,h'.get? x=some ox/\ox.cls=.type "StopIteration")->E' (.ref x) { s with heap:=h' }) :
  wpAny (model prog w) A (newExc (.type "StopIteration") [] >>= fun x=>(raiseNew x:Sem Fin)) P E' s:=by
 refine wpAny_bind ?_;simp only[newExc,newTuple];refine wpAny_bind (wpAny_newObj_type ?_ (by size_fits));refine wpAny_bind (m:=firstArgMember _ _) (wpAny_of_eq (a:=qIy) (by first|rfl|(simp only[firstArgMember];rfl)) ?_);refine wpAny_newObj_type ?_ (by size_fits);simp only[raiseNew];refine wpAny_bind (wpAny_handled ?_);rw[hh];refine wpAny_bind (wpAny_pure (wpAny_throw ?_));exact h _ _ (fun b o hb e=>qIj _ (qIj _ e)) (fun b o e=>qIj _ (qIj _ e)) ⟨_,qIm _ rfl,rfl⟩
def zL7{it a:Addr}{es:Array (Int×Value)}{ep:Nat}{tb:qKd}{os:Obj}{sl i nx:Nat}{x:Value}{Q:Option Value->qIk->Prop}(hne:a≠it)
  (hit:IsSI s.heap it #[.int sl 0,.int i 0,.ref a,.int es.size 0,.int ep 0]) (ho:s.heap.get? a=some os) (hd:os.data=.set es ep tb) (hf:tb.fits es.size=true)
  (hN:∀(s:qIk)(Q:Option (Value×Nat)->qIk->Prop)(A:qIr)(E:Value->qIk->Prop),s.heap.get? a=some os->Q (some (x,nx)) s->wpAny (model prog w) A (setNext a sl i ep) Q E s)
  (hQ:∀h',IsSI h' it #[.int nx 0,.int (i+1:Nat) 0,.ref a,.int es.size 0,.int ep 0]->qJh it s.heap h'->Q (some x) { s with heap:=h' }) :
  wpAny (model prog w) A (pyNext (.ref it)) Q E s:=by
 obtain⟨o,hoi,hc,hdi⟩:=hit;have hT:s.TypeIs (.ref it) "set_iterator":=⟨o,hoi,hc⟩;unfold pyNext;refine wpAny_bind (wpAny_attempt (wpAny_callSpecial?_slot (name:=qJ2 "__next__") hT slot_si_next (wpAny_call_entry slot_si_next hT zD9 ?_ (zDP _))));unfold qJy.«set_iterator.__next__»;refine wpAny_bind (m:=qNc "__next__" 0 _) (wpAny_pure ?_);refine wpAny_bind (wpAny_fieldsOf hoi hdi ?_);dsimp only;refine wpAny_bind (wpAny_setEntries_of ho hd hf ?_);rw[if_neg (by simp)];refine wpAny_bind (hN _ _ _ _ ho ?_);dsimp only;refine wpAny_bind (wpAny_setField hoi hdi (by simp) ?_);have e1:=qIp (qIz (·.setIfInBounds 0 (rawInt (nx:Nat)))) hoi (qJ7 (qIu hdi _));refine wpAny_bind (wpAny_setField e1 (qIu hdi _) (by simp) ?_);have e2:=qIp (qIz (·.setIfInBounds 1 (rawInt ((i:Int)+1)))) e1 (qJ7 (qIu (qIu hdi _) _));refine wpAny_pure ⟨x,rfl,wpAny_pure (hQ _ ⟨_,e2,?_,?_⟩ ((qJi ..).trans (qJi ..)))⟩
 ·rw[qKa,qKa,hc]
 ·rw[qIu (qIu hdi _)];simp[rawInt]
def zND{it a:Addr}{es:Array (Int×Value)}{ep:Nat}{tb:qKd}{os:Obj}{sl i:Nat}{Q:Option Value->qIk->Prop}(hh:A.handled=none)(hne:a≠it)
  (hit:IsSI s.heap it #[.int sl 0,.int i 0,.ref a,.int es.size 0,.int ep 0]) (ho:s.heap.get? a=some os) (hd:os.data=.set es ep tb) (hf:tb.fits es.size=true)
  (hN:∀(s:qIk)(Q:Option (Value×Nat)->qIk->Prop)(A:qIr)(E:Value->qIk->Prop),s.heap.get? a=some os->Q none s->wpAny (model prog w) A (setNext a sl i ep) Q E s)
  (hQ:∀h',qKj it s.heap h'->Q none { s with heap:=h' }) :
  wpAny (model prog w) A (pyNext (.ref it)) Q E s:=by
 obtain⟨o,hoi,hc,hdi⟩:=hit;have hT:s.TypeIs (.ref it) "set_iterator":=⟨o,hoi,hc⟩;unfold pyNext;refine wpAny_bind (wpAny_attempt (wpAny_callSpecial?_slot (name:=qJ2 "__next__") hT slot_si_next (wpAny_call_entry slot_si_next hT zD9 ?_ (zDP _))));unfold qJy.«set_iterator.__next__»;refine wpAny_bind (m:=qNc "__next__" 0 _) (wpAny_pure ?_);refine wpAny_bind (wpAny_fieldsOf hoi hdi ?_);dsimp only;refine wpAny_bind (wpAny_setEntries_of ho hd hf ?_);rw[if_neg (by simp)];refine wpAny_bind (hN _ _ _ _ ho ?_);dsimp only;refine wpAny_bind (wpAny_setField hoi hdi (by simp) ?_);refine zR7 hh fun x h' _ hk hx=>?_
 obtain⟨ox,hox,hcx⟩:=hx;refine wpAny_bind (wpAny_isInstance (T:="StopIteration") (b:=true) ⟨ox,hox,hcx⟩ isSubtype_stop ?_);exact wpAny_pure (hQ _ fun b o' hb e=>hk b o' ((qIq _ _ (qC9 hb)).trans e))
def zL8{it a T:Addr}{es:Array (Int×Value)}{ep:Nat}{tb:qKd}{os:Obj}{i p:Nat}{t0:Tok}{h0:Int}{x:Value}{ps:Array Value}{Q:Option Value->qIk->Prop}(hne:a≠it)
  (hit:IsSI s.heap it #[.ref T,.int i 0,.ref a,.int es.size 0,.int ep 0]) (ho:s.heap.get? a=some os) (hd:os.data=.set es ep tb) (hf:tb.fits es.size=true)
  (hT0:∃oT n,s.heap.get? T=some oT/\oT.data=.seq ps n) (hp:ps[i]?=some (.int p t0)) (hx:es[p]?=some (h0,x))
  (hQ:∀h',IsSI h' it #[.ref T,.int (i+1:Nat) 0,.ref a,.int es.size 0,.int ep 0]->qJh it s.heap h'->Q (some x) { s with heap:=h' }) :
  wpAny (model prog w) A (pyNext (.ref it)) Q E s:=by
 obtain⟨o,hoi,hc,hdi⟩:=hit;obtain⟨oT,nT,hoT,hdT⟩:=hT0;have hT:s.TypeIs (.ref it) "set_iterator":=⟨o,hoi,hc⟩;unfold pyNext;refine wpAny_bind (wpAny_attempt (wpAny_callSpecial?_slot (name:=qJ2 "__next__") hT slot_si_next (wpAny_call_entry slot_si_next hT zD9 ?_ (zDP _))));unfold qJy.«set_iterator.__next__»;refine wpAny_bind (m:=qNc "__next__" 0 _) (wpAny_pure ?_);refine wpAny_bind (wpAny_fieldsOf hoi hdi ?_);dsimp only;refine wpAny_bind (wpAny_setEntries_of ho hd hf ?_);rw[if_neg (by simp)];refine wpAny_bind (wpAny_seqItems hoT hdT ?_);dsimp only;simp only[qBc,hp];refine wpAny_bind ?_;unfold setNextDrawn;refine wpAny_bind (wpAny_setState_of ho hd hf ?_);dsimp only;rw[if_neg (by simp)];simp only[qBc,hx];refine wpAny_pure ?_;refine wpAny_bind (wpAny_setField hoi hdi (by simp) ?_);have e1:=qIp (qIz (·.setIfInBounds 1 (rawInt ((i:Int)+1)))) hoi (qJ7 (qIu hdi _));refine wpAny_pure ⟨x,rfl,wpAny_pure (hQ _ ⟨_,e1,?_,?_⟩ (qJi ..))⟩
 ·rw[qKa,hc]
 ·rw[qIu hdi];simp[rawInt]
def zNE{it a T:Addr}{es:Array (Int×Value)}{ep:Nat}{tb:qKd}{os:Obj}{i:Nat}{ps:Array Value}{Q:Option Value->qIk->Prop}(hh:A.handled=none)(hne:a≠it)
  (hit:IsSI s.heap it #[.ref T,.int i 0,.ref a,.int es.size 0,.int ep 0]) (ho:s.heap.get? a=some os) (hd:os.data=.set es ep tb) (hf:tb.fits es.size=true)
  (hT0:∃oT n,s.heap.get? T=some oT/\oT.data=.seq ps n) (hp:ps[i]?=none)
  (hQ:∀h',qKj it s.heap h'->Q none { s with heap:=h' }) :
  wpAny (model prog w) A (pyNext (.ref it)) Q E s:=by
 obtain⟨o,hoi,hc,hdi⟩:=hit;obtain⟨oT,nT,hoT,hdT⟩:=hT0;have hT:s.TypeIs (.ref it) "set_iterator":=⟨o,hoi,hc⟩;unfold pyNext;refine wpAny_bind (wpAny_attempt (wpAny_callSpecial?_slot (name:=qJ2 "__next__") hT slot_si_next (wpAny_call_entry slot_si_next hT zD9 ?_ (zDP _))));unfold qJy.«set_iterator.__next__»;refine wpAny_bind (m:=qNc "__next__" 0 _) (wpAny_pure ?_);refine wpAny_bind (wpAny_fieldsOf hoi hdi ?_);dsimp only;refine wpAny_bind (wpAny_setEntries_of ho hd hf ?_);rw[if_neg (by simp)];refine wpAny_bind (wpAny_seqItems hoT hdT ?_);dsimp only;simp only[qBc,hp];refine wpAny_bind (wpAny_setField hoi hdi (by simp) ?_);have e1:=qIp (qIz (·.setIfInBounds 0 (rawInt 0))) hoi (qJ7 (qIu hdi _));refine wpAny_bind (wpAny_setField e1 (qIu hdi _) (by simp) ?_);refine zR7 hh fun x h' _ hk hx=>?_
 obtain⟨ox,hox,hcx⟩:=hx;refine wpAny_bind (wpAny_isInstance (T:="StopIteration") (b:=true) ⟨ox,hox,hcx⟩ isSubtype_stop ?_);exact wpAny_pure (hQ _ fun b o' hb e=>hk b o' ((qIq _ _ (qC9 hb)).trans ((qIq _ _ (qC9 hb)).trans e)))
def zL0(hh:A.handled=none){it a:Addr}(hne:a≠it){es:Array (Int×Value)}{ep:Nat}{tb:qKd}{os:Obj}(hd:os.data=.set es ep tb)(hf:tb.fits es.size=true)(vs:Nat->Value)(sl:Nat->Nat)
  (hN:∀i,i<es.size->∀(s:qIk)(Q:Option (Value×Nat)->qIk->Prop)(A:qIr)(E:Value->qIk->Prop),s.heap.get? a=some os->Q (some (vs i,sl (i+1))) s->wpAny (model prog w) A (setNext a (sl i) i ep) Q E s)
  (hE:∀(s:qIk)(Q:Option (Value×Nat)->qIk->Prop)(A:qIr)(E:Value->qIk->Prop),s.heap.get? a=some os->Q none s->wpAny (model prog w) A (setNext a (sl es.size) es.size ep) Q E s) :
  Walks prog w A it [it,a] [it] es.size (fun i v=>v=vs i) (fun i h=>IsSI h it #[.int (sl i) 0,.int i 0,.ref a,.int es.size 0,.int ep 0]/\h.get? a=some os) where
 sub:=fun b hb=>by simp at hb;simp[hb]
 frame:=fun i h h' st hk=>⟨let⟨o,ho,r⟩:=st.1;⟨o,hk it (by simp) o ho,r⟩,hk a (by simp) _ st.2⟩
 item:=fun i s Q E hi st hQ=>by
  have hs:s={ s with toks:=s.toks }:=by cases s;rfl
  refine zL7 hne st.1 st.2 hd hf (hN i hi) fun h' hit' hs'=>?_
  exact hQ _ h' s.toks rfl ⟨hit',(hs'.2 a hne).trans st.2⟩ fun b o hb e=>(hs'.2 b fun z=>hb (by simp[z])).trans e
 done:=fun s Q E st hQ=>by
  refine zND hh hne st.1 st.2 hd hf hE fun h' he'=>?_
  exact hQ h' s.toks fun b o hb e=>he' b o (fun z=>hb (by simp[z])) e
 self:=fun i s Q E st hQ=>zR8 st.1 hQ
def zQQ(hh:A.handled=none){it a T:Addr}(hne:a≠it)(hTi:T≠it){es:Array (Int×Value)}{ep:Nat}{tb:qKd}{os oT:Obj}{nT:Nat}(hd:os.data=.set es ep tb)(hf:tb.fits es.size=true)(ps:List Nat)(hps:ps.length=es.size)(hlt:∀p∈ps,p<es.size)(hdT:oT.data=.seq (ps.map fun p:Nat=>rawInt (p:Int)).toArray nT) :
  Walks prog w A it [it,a,T] [it] es.size (fun i v=>∃p h0,ps[i]?=some p/\es[p]?=some (h0,v)) (fun i h=>IsSI h it #[.ref T,.int i 0,.ref a,.int es.size 0,.int ep 0]/\h.get? a=some os/\h.get? T=some oT) where
 sub:=fun b hb=>by simp at hb;simp[hb]
 frame:=fun i h h' st hk=>⟨let⟨o,ho,r⟩:=st.1;⟨o,hk it (by simp) o ho,r⟩,hk a (by simp) _ st.2.1,hk T (by simp) _ st.2.2⟩
 item:=fun i s Q E hi st hQ=>by
  have hpi:ps[i]?=some ps[i]:=qA6 (by lia);have hpl:ps[i]<es.size:=hlt _ (qD5 _);have hx:es[ps[i]]?=some (es[ps[i]].1,es[ps[i]].2):=by simp[hpl]
  refine zL8 (p:=ps[i]) (t0:=0) hne st.1 st.2.1 hd hf ⟨oT,nT,st.2.2,hdT⟩ (by rw[List.getElem?_toArray,qAd,hpi];rfl) hx fun h' hit' hs'=>?_
  exact hQ _ h' s.toks ⟨_,_,hpi,hx⟩ ⟨hit',(hs'.2 a hne).trans st.2.1,(hs'.2 T hTi).trans st.2.2⟩ fun b o hb e=>(hs'.2 b fun z=>hb (by simp[z])).trans e
 done:=fun s Q E st hQ=>by
  refine zNE hh hne st.1 st.2.1 hd hf ⟨oT,nT,st.2.2,hdT⟩ (by simp[hps]) fun h' he'=>?_
  exact hQ h' s.toks fun b o hb e=>he' b o (fun z=>hb (by simp[z])) e
 self:=fun i s Q E st hQ=>zR8 st.1 hQ
def zGN{α:Type}:∀(l:List α){i:Nat}(h:i<l.length),(l[i]::l.eraseIdx i).Perm l
 |a::r,0,h=>by simp
 |a::r,i+1,h=>by
  have:=zGN r (i:=i) (by simpa using h)
  simp only[qFd,qD0];exact(qDm _ _ _).trans (this.cons a)
def zJD{α:Type}:∀(n:Nat)(xs:List α)(s:qIk)(Q:List α->qIk->Prop),xs.length=n->(∀ys d,ys.Perm xs->Q ys { s with drawn:=d })->wpAny (model prog w) A (drawOrder n xs) Q E s
 |0,xs,s,Q,hl,h=>by
  have e:xs=[]:=qF4.mp hl;subst e;unfold drawOrder;have:=h [] s.drawn (qDn _);exact wpAny_pure this
 |n+1,[],s,Q,hl,h=>by simp at hl
 |n+1,x::xs,s,Q,hl,h=>by
  unfold drawOrder;refine wpAny_bind (zJM (by simp) fun i d hi=>?_);have hget:(x::xs)[i]?=some ((x::xs)[i]'hi):=qA6 hi;rw[hget];dsimp only;refine wpAny_bind (zJD n _ _ _ (by rw[qDh hi];simp at hl ⊢;lia) fun ys d' hp=>wpAny_pure ?_);exact h _ d' ((hp.cons _).trans (zGN _ hi))
def zRM{α:Type}(next:Nat->Nat):∀(fuel k:Nat)(left:List α)(out:Array α),left.length=fuel->(qMc next fuel k left out).toList.Perm (out.toList++left)
 |0,k,left,out,hl=>by
  have e:left=[]:=qF4.mp hl;subst e;simp[qMc]
 |fuel+1,k,left,out,hl=>by
  unfold qMc;have hi:next k%left.length<left.length:=qGm _ (by lia)
  have hget:left[next k%left.length]?=some (left[next k%left.length]'hi):=qA6 hi;rw[hget];dsimp only;refine(zRM next fuel (k+1) _ _ (by rw[qDh hi];lia)).trans ?_;rw[qGn,qB3];exact qDa _ (zGN left hi)
def zFS(next:Nat->Nat){α:Type}(xs:Array α):(pickOrder next xs).toList.Perm xs.toList:=by
 have:=zRM next xs.size 0 xs.toList #[] (by simp)
 unfold pickOrder;simpa using this
def zFN{es:List (Int×Value)}(h:qNb (strKind prog w) es):qK9 (es.map (·.2)) (es.map fun e=>strOf e.2):=by
 induction es with
 |nil=>exact .nil
 |cons e r ih=>
  obtain⟨k,t,e1⟩:=zKI h (qAw ..);have:=ih h.tail;rw[qAm,qAm,e1];exact .cons k t this
def zPQ{vs:List Value}{zs:List Str}{acc:Array Value}{n:Nat}{P:Nat->Value->Prop}(hi:ItemsOf P acc n)(hn:vs.length=n)(hP:∀i v,i<n->P i v->vs[i]?=some v)(hz:qK9 vs zs):qK9 acc.toList zs:=by
 have:acc.toList=vs:=by
  refine qE2 fun i=>?_
  by_cases h:i<n
  ·have hs:i<acc.size:=by rw[hi.1];exact h
   have h1:acc[i]?=some acc[i]:=by simp[hs]
   rw[qBe,h1,hP i _ h (hi.2 i _ h1)]
  ·rw[qE7 (by simp[hi.1];lia),qE7 (by lia)]
 rw[this];exact hz
def zSF{a:Addr}{ks:List Str}(hS:SetZ prog w s.heap a (!w.params.followText "set-order") ks)(hk:ks≠[]){Q:Value->qIk->Prop}
  (hQ:∀(it:Addr)(h2:Heap)(d2:Drawn)(fp:List Addr)(St:Nat->Heap->Prop)(P:Nat->Value->Prop)(vs:List Value)(zs:List Str),(∀A':qIr,A'.handled=none->Walks prog w A' it fp [it] ks.length P St)->(∀i v,i<ks.length->P i v->vs[i]?=some v)->vs.length=ks.length->qK9 vs zs->zs.Perm ks ->
   St 0 h2->(∀b∈fp,b<h2.objs.size)->(∀b∈fp,b=a\/s.heap.objs.size<=b)->s.heap.objs.size<=it->(∀b o,s.heap.get? b=some o->h2.get? b=some o)->Q (.ref it) { s with heap:=h2,drawn:=d2 }) :
  wpAny (model prog w) A (pyIter (.ref a)) Q E s:=by
 obtain⟨o,es,ep,t,ho,hex,hd,hel,hks,hnd,hb,hf,hled,hpl⟩:=hS;have hn:es.size=ks.length:=by rw[<- hks,qAg,qB9]
 have hn1:0<es.size:=by rw[hn];exact List.length_pos_iff.mpr hk
 have hpl:=hpl hn1;have hT:s.TypeIs (.ref a) "set":=⟨o,ho,hex.1⟩;have hlt:a<s.heap.objs.size:=qIl ho;refine qM5 hT qFr (wpAny_call_entry qFr hT zIE ?_ (PySem.F.args_set_iter_1 _));unfold qJy.«frozenset.__iter__»;refine wpAny_bind (m:=qNd "__iter__" _) (wpAny_pure ?_);refine wpAny_bind (m:=qN5 a) (wpAny_bind (wpAny_setEntries_of ho hd hf (wpAny_pure ?_)));refine wpAny_bind (m:=setDrawn a) ?_;unfold setDrawn;refine wpAny_bind (wpAny_setState_of ho hd hf ?_);dsimp only;unfold qM6;refine wpAny_bind (wpAny_bind (wpAny_askSetting (wpAny_pure ?_)));refine wpAny_pure ?_;show wpAny _ _ (if(!w.params.followText "set-order" && (!t.plain&&decide (es.size>1)))=true then _ else _) _ _ _;rw[hpl];have ne1:a≠s.heap.objs.size:=qAl hlt;rw[<- hn]at hQ;cases hbt:w.params.followText "set-order" with
 |true=>
  rw[if_neg (by simp)];refine wpAny_bind (wpAny_pure ?_);refine wpAny_bind (wpAny_setEpoch_of ho hd hf ?_);refine wpAny_bind (wpAny_newObj_type (wpAny_pure ⟨_,rfl,"set_iterator",_,⟨_,qIm _ rfl,rfl⟩,slot_si_next.lookup,?_⟩));have hpk:=zFS (w.params.setOrder a ep) es;have hpl':(pickOrder (w.params.setOrder a ep) es).size=es.size:=by rw[<- qB9,hpk.length_eq,qB9]
  generalize hpo:pickOrder (w.params.setOrder a ep) es=pk at hpk hpl';have hnext:∀(i:Nat)(s:qIk)(Q:Option (Value×Nat)->qIk->Prop)(A:qIr)(E:Value->qIk->Prop),s.heap.get? a=some o->Q ((pk[i]?).map fun e=>(e.2,0)) s->wpAny (model prog w) A (setNext a 0 i ep) Q E s:=by
   intro i s Q A E ho' hq;unfold setNext;refine wpAny_bind (wpAny_setState_of ho' hd hf ?_);dsimp only;unfold qM6;refine wpAny_bind (wpAny_bind (wpAny_askSetting (wpAny_pure ?_)));show wpAny _ _ (if w.params.followText "set-order" = true then _ else _) _ _ _;rw[hbt,if_pos rfl];rw[if_neg (by simp)];refine wpAny_bind ?_;unfold setWalk;refine wpAny_bind (wpAny_setState_of ho' hd hf ?_);dsimp only;unfold qM6;refine wpAny_bind (wpAny_bind (wpAny_askSetting (wpAny_pure ?_)));show wpAny _ _ (if w.params.followText "set-order" = true then _ else _) _ _ _;rw[hbt,if_pos rfl];refine wpAny_bind (wpAny_askSetting ?_);refine wpAny_pure ?_;show wpAny _ _ (pure (((pickOrder (w.params.setOrder a ep) es)[i]?).map fun e=>(e.2,0))) _ _ _;rw[hpo];exact wpAny_pure hq
  refine hQ s.heap.objs.size _ s.drawn [s.heap.objs.size,a] _ _ (pk.toList.map (·.2)) (pk.toList.map fun e=>strOf e.2) (fun A' hA'=>zL0 hA' ne1 hd hf (fun i=>((pk[i]?).map (·.2)).getD .none) (fun _=>0) (fun i hi s Q A E ho' hq=>hnext i s Q A E ho' ?_) (fun s Q A E ho' hq=>hnext _ s Q A E ho' ?_)) (fun i v hi hv=>?_) (by rw[qAg,qB9,hpl']) (zFN (hel.perm hpk)) (by rw[<- hks];exact hpk.map _) ⟨⟨_,qIm _ rfl,rfl,rfl⟩,qIj _ ho⟩ (fun b hb=>?_) (fun b hb=>by simp only[qAb,qAz,or_false]at hb;rcases hb with rfl|rfl;exact .inr (qA5 _);exact .inl rfl) (qA5 _) (fun b o e=>qIj _ e)
  ·have:pk[i]?=some pk[i]:=by simp[hpl',hi]
   rw[this]at hq ⊢;exact hq
  ·have:pk[es.size]?=none:=by simp[hpl']
   rw[this];exact hq
  ·rw[hv,qAd,qBe]
   have:pk[i]?=some pk[i]:=by simp[hpl',hi]
   rw[this];rfl
  ·show b<(s.heap.push _).objs.size;rw[qIv];simp only[qAb,qAz,or_false]at hb
   rcases hb with rfl|rfl
   ·exact qBw _
   ·exact qBk hlt
 |false=>
  by_cases h2:1<es.size
  ·rw[if_pos (by simp[h2])];refine wpAny_bind (zJD es.size (qA9 es.size) s _ (by simp) fun ps d hps=>?_);have hpn:ps.length=es.size:=by rw[hps.length_eq,qCy]
   refine wpAny_bind (wpAny_newTuple ?_ (hsz:=by rw[qAg,hpn];exact fits_of_scanBound hb));have ho1:(s.heap.push (seqObj "tuple" (ps.map fun i:Nat=>rawInt (i:Int)).toArray 0)).get? a=some o:=qIj _ ho;refine wpAny_bind (wpAny_setEpoch_of (s:={ heap:=s.heap.push (seqObj "tuple" (ps.map fun i:Nat=>rawInt (i:Int)).toArray 0),gens:=s.gens,drawn:=d,toks:=s.toks,os:=s.os }) ho1 hd hf ?_);refine wpAny_bind (wpAny_newObj_type (wpAny_pure ⟨_,rfl,"set_iterator",_,⟨_,qIm _ rfl,rfl⟩,slot_si_next.lookup,?_⟩));have hsz:(s.heap.push (seqObj "tuple" (ps.map fun i:Nat=>rawInt (i:Int)).toArray 0)).objs.size=s.heap.objs.size+1:=qIv _ _;have hpl3:∀p∈ps,p<es.size:=fun p hp=>qCw.mp (hps.mem_iff.mp hp)
   have hvs:∀(i:Nat)(v:Value),(∃(p:Nat)(h0:Int),ps[i]?=some p/\es[p]?=some (h0,v))->(ps.map fun p=>((es[p]?).map (·.2)).getD .none)[i]?=some v:=fun i v ⟨p,h0,e1,e2⟩=>by
    rw[qAd,e1];show some (((es[p]?).map (·.2)).getD .none)=_;rw[e2];rfl
   have hall:∀f:Int×Value->Str,((qA9 es.size).map fun p=>((es[p]?).map f).getD ⟨#[]⟩)=es.toList.map f:=fun f=>by
    refine qFa (by simp) fun i h1 h2=>?_
    have hi:i<es.size:=by simpa using h1
    simp[hi]
   have hallv:((qA9 es.size).map fun p=>((es[p]?).map (·.2)).getD qIy)=es.toList.map (·.2):=by
    refine qFa (by simp) fun i h1 h2=>?_
    have hi:i<es.size:=by simpa using h1
    simp[hi]
   have hstr:qK9 (ps.map fun p=>((es[p]?).map (·.2)).getD .none) (ps.map fun p=>((es[p]?).map fun e=>strOf e.2).getD ⟨#[]⟩):=by
    have gen:∀l:List Nat,(∀p∈l,p<es.size)->qK9 (l.map fun p=>((es[p]?).map (·.2)).getD .none) (l.map fun p=>((es[p]?).map fun e=>strOf e.2).getD ⟨#[]⟩):=by
     intro l;induction l with
     |nil=>intro _;exact .nil
     |cons p r ih=>
      intro hl;have hp:=hl p (by simp);have hg:es[p]?=some es[p]:=by simp[hp]
      obtain⟨k,tk,e1⟩:=zKI hel (e:=es[p]) (by rw[<- Array.getElem_toList];exact qD5 _);rw[qAm,qAm,hg];show qK9 (es[p].2::_) (strOf es[p].2::_);rw[e1];exact .cons k tk (ih fun q hq=>hl q (by simp[hq]))
    exact gen ps hpl3
   refine hQ (s.heap.push (seqObj "tuple" (ps.map fun i:Nat=>rawInt (i:Int)).toArray 0)).objs.size _ d [(s.heap.push (seqObj "tuple" (ps.map fun i:Nat=>rawInt (i:Int)).toArray 0)).objs.size,a,s.heap.objs.size] _ _ _ _ (fun A' hA'=>zQQ (T:=s.heap.objs.size) (oT:=seqObj "tuple" (ps.map fun i:Nat=>rawInt (i:Int)).toArray 0) hA' (by rw[hsz];exact qAl (qBk hlt)) (by rw[hsz];exact qAl (qBw _)) hd hf ps hpn hpl3 rfl) (fun i v _ hv=>hvs i v hv) (by rw[qAg,hpn]) hstr ?_ ⟨⟨_,qIm _ rfl,rfl,rfl⟩,qIj _ ho1,qIj _ (qIm _ rfl)⟩ (fun b hb=>?_) (fun b hb=>by rw[hsz]at hb;simp only[qAb,qAz,or_false]at hb;rcases hb with rfl|rfl|rfl;exact .inr (qBm _);exact .inl rfl;exact .inr (qA5 _)) (by rw[hsz];exact qBm _) (fun b o e=>qIj _ (qIj _ e))
   ·rw[<- hks,<- hall];exact hps.map _
   ·show b<(Heap.push _ _).objs.size;rw[qIv,hsz];rw[hsz]at hb;simp only[qAb,qAz,or_false]at hb
    rcases hb with rfl|rfl|rfl
    ·exact qBw _
    ·exact qBk (qBk hlt)
    ·exact qBk (qBw _)
  ·rw[if_neg (by simp[h2])];refine wpAny_bind (wpAny_pure ?_);refine wpAny_bind (wpAny_setEpoch_of ho hd hf ?_);refine wpAny_bind (wpAny_newObj_type (wpAny_pure ⟨_,rfl,"set_iterator",_,⟨_,qIm _ rfl,rfl⟩,slot_si_next.lookup,?_⟩));have hs1:es.size=1:=by lia
   have hled':t.led=true:=by rw[hled,hbt];rfl
   have hps1:t.place.size=1:=by
    simp only[SetTable.fits,qBh,beq_iff_eq]at hf;rw[hf.1,hs1]
   obtain⟨es0⟩:=es;obtain⟨e0,rfl⟩:∃e0,es0=[e0]:=qFe.mp (by simpa using hs1);obtain⟨j,hj⟩:∃j,t.place=#[j]:=by
    obtain⟨l⟩:Nonempty Unit:=⟨()⟩;have:t.place.toList.length=1:=by simpa using hps1
    obtain⟨j,e⟩:=qFe.mp this;exact⟨j,Array.ext' e⟩
   have b0:qJv t.place 0=0:=by rw[hj];simp[qJv,qM7]
   have b1:qJv t.place (j+1)=1:=by rw[hj];simp[qJv,qM7]
   have hnext:∀(sl i:Nat)(s:qIk)(Q:Option (Value×Nat)->qIk->Prop)(A:qIr)(E:Value->qIk->Prop),s.heap.get? a=some o->Q (match(#[e0]:Array (Int×Value))[qJv t.place sl]?,t.place[qJv t.place sl]? with|some (_,x),some j=>some (x,j+1)|_,_=>none) s->wpAny (model prog w) A (setNext a sl i ep) Q E s:=by
    intro sl i s Q A E ho' hq;unfold setNext;refine wpAny_bind (wpAny_setState_of ho' hd hf ?_);dsimp only;unfold qM6;refine wpAny_bind (wpAny_bind (wpAny_askSetting (wpAny_pure ?_)));show wpAny _ _ (if w.params.followText "set-order" = true then _ else _) _ _ _;rw[hbt,if_neg (by decide)];show wpAny _ _ (if(!t.plain&&decide ((#[e0]:Array (Int×Value)).size>1))=true then _ else _) _ _ _;rw[if_neg (by simp)];refine wpAny_bind ?_;show wpAny _ _ (if(!t.led && !(#[e0]:Array (Int×Value)).isEmpty)=true then _ else _) _ _ _;rw[hled',if_neg (by simp)];exact wpAny_pure (wpAny_pure hq)
   refine hQ s.heap.objs.size _ s.drawn [s.heap.objs.size,a] _ _ [e0.2] [strOf e0.2] (fun A' hA'=>zL0 hA' ne1 hd hf (fun _=>e0.2) (fun i=>if i=0 then 0 else j+1) (fun i hi s Q A E ho' hq=>hnext _ i s Q A E ho' ?_) (fun s Q A E ho' hq=>hnext _ _ s Q A E ho' ?_)) (fun i v hi hv=>?_) rfl ?_ (by rw[<- hks];exact qDn _) ⟨⟨_,qIm _ rfl,rfl,rfl⟩,qIj _ ho⟩ (fun b hb=>?_) (fun b hb=>by simp only[qAb,qAz,or_false]at hb;rcases hb with rfl|rfl;exact .inr (qA5 _);exact .inl rfl) (qA5 _) (fun b o e=>qIj _ e)
   ·have hi0:i=0:=by simp at hi;exact hi
    subst hi0;rw[if_pos rfl,b0,hj];simpa using hq
   ·simp only[qAh,qAn,qCx,qCj,Nat.one_ne_zero,if_false,b1]
    simpa using hq
   ·have hi0:i=0:=by simp at hi;exact hi
    subst hi0;rw[hv];rfl
   ·have:=zFN hel
    simpa using this
   ·show b<(s.heap.push _).objs.size;rw[qIv];simp only[qAb,qAz,or_false]at hb
    rcases hb with rfl|rfl
    ·exact qBw _
    ·exact qBk hlt
end
def zXU:typeLookup (.type "set") "__len__" = pure (some (.builtin "set.__len__")):=by rw[qLa,qKf];kernel_rfl
section
variable{prog:qIo}{w:World}{A:qIr}{E:Value->qIk->Prop}{s:qIk}
def SetZ.type{h:Heap}{a:Addr}{led:Bool}{ks:List Str}(hS:SetZ prog w h a led ks):∃o,h.get? a=some o/\o.cls=.type "set":=by
 obtain⟨o,_,_,_,ho,hex,_⟩:=hS;exact⟨o,ho,hex.1⟩
def zMK{a:Addr}{ks:List Str}(hh:A.handled=none)(hS:SetZ prog w s.heap a (!w.params.followText "set-order") ks)(hk:ks≠[])(hlen:ks.length<=sizeLine){Q:List Value->qIk->Prop}
  (hQ:∀(h':Heap)(d:Drawn)(tk:Nat)(acc:List Value)(zs:List Str),qK9 acc zs->zs.Perm ks->s.heap.objs.size<h'.objs.size->(∀b o,s.heap.get? b=some o->h'.get? b=some o)->Q acc { s with heap:=h',drawn:=d,toks:=tk }) :
  wpAny (model prog w) A (collect (.ref a)) Q E s:=by
 obtain⟨o0,ho0,hc0⟩:=hS.type;have hlt:a<s.heap.objs.size:=qIl ho0;unfold collect;refine wpAny_bind (wpAny_runValue (codeAny_builtin qDb ?_));rw[qJ1 qDc _];show wpAny _ A.in1 (newList [] >>= fun l=>again (.builtin "list.__iadd__" ⟨[l,.ref a],[]⟩)) _ _ s;refine wpAny_bind (wpAny_newObj_type ?_);refine wpAny_pure ⟨qJt qC0 _,codeAny_builtin qDv ?_⟩;rw[qJ1 qC0 _];show wpAny _ A.in1 (qJ3 (.ref s.heap.objs.size) (.ref a) (.ref s.heap.objs.size)) _ _ _;unfold qJ3;have ho1:(s.heap.push { cls:=.type "list",data:=.seq ([]:List Value).toArray }).get? a=some o0:=qIj _ ho0;refine wpAny_bind (wpAny_typeOf (T:="set") ⟨o0,ho1,hc0⟩ ?_);have h1:qK2 (.ref s.heap.objs.size) (.ref a)=false:=by simp[qK2];exact qBx hlt
 have h2:(qJ9 "set" == qJ9 "list")=false:=by decide
 have h3:(qJ9 "set" == qJ9 "tuple")=false:=by decide
 simp only[h1,h2,h3,qG7,qD6,if_false];refine wpAny_bind (zSF (hS.at fun o e=>qIj _ e) hk fun it h2 d2 fp St P vs zs W hP hvl hsa hzp hst hfp hfa hit hkeep=>?_);have hS1:h2.get? s.heap.objs.size=some { cls:=.type "list",data:=.seq ([]:List Value).toArray }:=hkeep _ _ (qIm _ rfl);have hsz:(s.heap.push { cls:=.type "list",data:=.seq ([]:List Value).toArray }).objs.size=s.heap.objs.size+1:=qIv _ _;have hSf:s.heap.objs.size∉fp:=fun hm=>by
  rcases hfa _ hm with e|e
  ·exact qBx hlt e
  ·rw[hsz]at e;exact Nat.not_succ_le_self _ e
 refine wpAny_bind (wpAny_holding ?_);unfold qKk;have ho2:h2.get? a=some o0:=hkeep _ _ ho1;refine wpAny_bind (wpAny_specialOf (T:="set") (v:=.ref a) ⟨o0,ho2,hc0⟩ zXU ?_)
 wp_delta
 refine wpAny_bind (wpAny_isInstance (T:="set") (v:=.ref a) (b:=true) ⟨o0,ho2,hc0⟩ (by rw[qJu];kernel_rfl) ?_);show wpAny _ A.in1 (typeOf (qIs a) >>= _) _ _ _;refine wpAny_bind (wpAny_typeOf (T:="set") (v:=.ref a) ⟨o0,ho2,hc0⟩ ?_);refine wpAny_pure ?_;show wpAny _ A.in1 (rule "list.extend.makes-room" >>= fun _=>Builtin.List.listTouch (.ref s.heap.objs.size) >>= fun _=>
  again (.builtin "list.extend.loop" ⟨[.ref s.heap.objs.size,.ref it,.ref s.heap.objs.size],[]⟩)) _ _ _
 refine wpAny_bind (wpAny_rule ?_);refine wpAny_bind ?_;show wpAny _ A.in1 (updateSeq s.heap.objs.size (·.push .none) >>= fun _=>updateSeq s.heap.objs.size (·.pop)) _ _ _;refine wpAny_bind (wpAny_updateSeq hS1 rfl ?_);have hS₂:=qIp (qJc (·.push qIy)) hS1 rfl;refine wpAny_updateSeq hS₂ rfl ?_;have hS₃:=qIp (qJc (·.pop)) hS₂ rfl;have oth:∀b o,b≠s.heap.objs.size->h2.get? b=some o->((h2.update s.heap.objs.size (qJc (·.push qIy))).update s.heap.objs.size (qJc (·.pop))).get? b=some o:=
  fun b o hb e=>(qIq _ _ (qC9 hb)).trans ((qIq _ _ (qC9 hb)).trans e)
 refine wpAny_pure ⟨qJt qEs _,qLe (W A.in1 hh).toS hlen _ hSf _ ks.length 0 _ _ _ rfl (qAv _) ((W A.in1 hh).frame 0 h2 _ hst fun b hb o e=>oth b o (fun z=>hSf (z▸hb)) e) hS₃ (qNk P) fun s' acc' c' hm hS' hacc=>?_⟩;show wpAny _ A (load s.heap.objs.size >>= _) _ _ s';refine wpAny_bind (wpAny_load hS' ?_);obtain⟨h',g',d',tk',os'⟩:=s';have eg:g'=s.gens:=hm.gens;have ed:d'=d2:=hm.drawn;have eo:os'=s.os:=hm.os;subst eg;subst ed;subst eo;refine wpAny_pure (hQ h' d' tk' acc'.toList zs (zPQ hacc hvl hP hsa) hzp (qIl hS') fun b o e=>?_);have hbl:b<s.heap.objs.size:=qIl e;refine hm.heap b o (fun hb=>?_) (oth b o (qAl hbl) (hkeep b o (qIj _ e)));simp only[qAb,qAz,or_false]at hb
 rcases hb with rfl|rfl
 ·exact qBy _ hbl
 ·rw[hsz]at hit;exact absurd hbl (qIc.mpr (Nat.le_of_succ_le hit))
def zNC{a:Addr}{ks:List Str}(hh:A.handled=none)(hS:SetZ prog w s.heap a (!w.params.followText "set-order") ks)(hk:ks≠[])(hlen:ks.length<64){Q:Value->qIk->Prop}
  (hQ:∀(h':Heap)(d:Drawn)(tk:Nat)(L:Addr)(out:Array Value)(e:Nat)(zs:List Str),qK9 out.toList zs->zs.Perm ks->qNa zs=true->s.heap.objs.size<=L->h'.get? L=some (seqObj "list" out e)->(∀b o,s.heap.get? b=some o->h'.get? b=some o)->Q (.ref L) { s with heap:=h',drawn:=d,toks:=tk }) :
  wpAny (model prog w) A (call (.builtin "sorted") [.ref a]) Q E s:=by
 refine qJw qMv qMd qMe (args_sorted1 _) ?_;unfold qJy.«sorted»;refine wpAny_bind (m:=qN6 "sorted" 1 1 _) (wpAny_pure ?_);refine wpAny_bind (zMK (A:=A.in1) hh hS hk (by rw[qJ6];lia) fun h' d tk acc zs hsa hzp hgr hkeep=>?_);have hal:acc.length=ks.length:=by rw[zJQ hsa,hzp.length_eq]
 refine wpAny_bind (wpAny_newList ?_ (hsz:=by rw[hal,qJ6];lia));have hoL:(h'.push (seqObj "list" acc.toArray 0)).get? h'.objs.size=some (seqObj "list" acc.toArray 0):=qIm _ rfl;refine wpAny_bind (wpAny_holding (wpAny_call_entry qLf ⟨_,hoL,rfl⟩ qLb (list_sort_treeK strKind_oneLt hoL hsa.keysOf (fun v₁ v₂ rest e=>keyKind_strs (by rw[<- e];exact hsa)) (by lia) fun st' a1 a2=>⟨_,rfl,?_⟩) (args_list_sort _)));obtain⟨zs',b1,b2,b3⟩:=sorted_out_str hsa a1 a2;obtain⟨e,he⟩:=sortedHeap_at (vs:=acc) (out:=(arrOf st').map (·.2)) hoL;refine wpAny_pure ⟨_,rfl,hQ _ d tk h'.objs.size _ e zs' b1 (b2.trans hzp) b3 ?_ he fun b o eb=>?_⟩
 ·exact qC8 hgr
 ·have h1:=hkeep b o eb;have hlt:b<h'.objs.size:=qIl h1;rw[sortedHeap_old (qAl hlt) (by rw[qN7];exact qBk hlt)];exact qIj _ h1
end
section
end
section
end
section
end
section
end
section
end
section
end
section
end
section
end
section
end
section
end
section
end
section
end
section
end
section
end
section
end
section
end
section
end
section
end
section
end
section
end
section
end
section
end
section
end
section
end
end L2
namespace Mi
open PySem
def ded:List Nat->List Nat
 |[]=>[]
 |a::r=>if a∈ded r then ded r else a::ded r
def sosL(l:List Nat):List Nat:=(ded l).mergeSort fun a b=>decide (a<=b)
def sosD:List Dt->Option Dt
 |[.str z]=>@ite _ (0<z.length/\z.length<=60) (qA1 _) (some (.lst ((sosL z.cps.toList).map fun c=>.str ⟨#[c]⟩))) none
 |_=>none
def zKN(x:Nat):∀l:List Nat,x∈ded l↔x∈l
 |[]=>by simp[ded]
 |a::r=>by
  unfold ded;split
  ·rename_i h
   rw[zKN x r,qAb];constructor
   ·exact .inr
   ·rintro(rfl|h')
    ·exact(zKN x r).mp h
    ·exact h'
  ·rw[qAb,qAb,zKN x r]
def zIH:∀l:List Nat,(ded l).Nodup
 |[]=>by simp[ded]
 |a::r=>by
  unfold ded;split
  ·exact zIH r
  ·rename_i h
   exact qCo.mpr ⟨h,zIH r⟩
def sos_mem(x:Nat)(l:List Nat):x∈sosL l↔x∈l:=by
 unfold sosL;rw[(qC7 _ _).mem_iff,zKN]
def sos_nodup(l:List Nat):(sosL l).Nodup:=by
 unfold sosL;exact(qC7 _ _).nodup_iff.mpr (zIH l)
def sos_asc(l:List Nat):(sosL l).Pairwise (·<=·):=by
 have:=qD1 (le:=fun a b:Nat=>decide (a<=b)) (fun a b c h1 h2=>by simp at h1 h2 ⊢;lia) (fun a b=>by simp;lia) (ded l)
 exact this.imp fun h=>by simpa using h
end Mi
namespace L3
open PySem PySem.Spec
open L2 hiding Rep RepL
open Mi (Dt Xn R okR zA3 optR zA0 zAD zAH zAE zAG Rh Sl Ro EM TM AM FM IM SM OM Tg Out zAU zAR zB7 full frz frz1 frzAt)
section
variable[Kc]
end
section
variable[Kc]
end
section
variable[Kc]
end
section
variable[Kc]
end
section
variable[Kc]
end
section
variable[Kc]
section
end
end
section
variable[Kc]
end
section
variable[Kc]
end
section
variable[Kc]
end
end L3
namespace L3
open PySem PySem.Spec
open PyProof.Rows (risingS sortedS ltCps_eq)
open L2 hiding Rep RepL
open Mi (Dt Xn R okR zA3 optR zA0 zAD zAH zAE zAG Rh Sl Ro EM TM AM FM IM SM OM Tg Out zAU zAR zB7 full frz frz1 frzAt)
section
variable[Kc]
end
section
variable[Kc]
end
end L3
namespace L2
open PySem PySem.Spec PyProof.Rows
section
variable{X:Cx}{pins:List (Addr×Obj)}{σ:List (Option V)}{H:Hp}{s:qIk}
def Inv.drawn(I:Inv X pins σ H s)(d:Drawn):Inv X pins σ H { s with drawn:=d }:=⟨I.ok,I.os,I.bare,I.base,I.loc,I.cell,I.free,I.freeC,I.pin,I.hok,I.len⟩
def zR9(P:qIo)(w:World)(a:Addr)(ks:List Str):HO:=.ext fun h=>SetZ P w h a (!w.params.followText "set-order") ks
def za9(P:qIo)(w:World):List V->Hp->VK->Prop:=fun vs H Q=>match vs with
 |[.str z]=>z.cps.size<=1000/\∀a ks,H a=none->ks.Nodup->(∀c,c∈ks↔∃d∈z.cps.toList,c=(⟨#[d]⟩:Str))->Q (.ref a) (upd H a (zR9 P w a ks))
 |_=>False
def zbH(hc:X.calm=true):zDI X (.type "set") (za9 X.prog X.w):=by
 intro pins s σ H vs us Q I r h;cases vs with
 |nil=>exact qA4 h
 |cons hd1 tl1=>
  cases hd1 with
  |str z=>
   cases tl1 with
   |nil=>
    obtain⟨hz,q⟩:=h;obtain⟨u,rfl,rx⟩:=zE0 r;obtain⟨t,rfl⟩:=rx;refine zJV (I.ok.hd hc) (by unfold scanBound;lia) fun h' tk ks hS hks hk hsz=>?_
    have hS':=hS;obtain⟨o,es,ep,tb,ho,hex,hd,hel,hkse,hnd,_⟩:=hS;refine⟨.ref _,_,I.laid (t':=tk) (o:=zR9 X.prog X.w s.heap.objs.size ks) (fun b u e=>hk b u (qIl e) e) (qA5 _) ⟨hS',⟨o,ho⟩,fun h1 h2 z f=>z.at f⟩,rfl,q _ ks (I.hok.fresh (qA5 _)) hnd fun c=>?_⟩;rw[hks c];constructor
    ·rintro⟨j,d,_,e1,e2⟩
     exact⟨d,by rw[<- qBe]at e1;exact qBo e1,e2⟩
    ·rintro⟨d,hd',e2⟩
     obtain⟨j,e1⟩:=List.getElem?_of_mem hd';have hj:j<z.cps.size:=by have:=(qA2.mp e1).1;simpa using this
     exact⟨j,d,hj,by rw[<- qBe];exact e1,e2⟩
   |cons _ _=>exact qA4 h
  |_=>exact qA4 h
def zWB(P:qIo)(w:World):List V->Hp->VK->Prop:=fun vs H Q=>match vs with
 |[.ref a]=>∃ks,H a=some (zR9 P w a ks)/\ks≠[]/\ks.length<64/\∀ys:List Str,ys.Perm ks->qNa ys=true->∀l,H l=none->Q (.ref l) (upd H l (.lst (ys.map V.str)))
 |_=>False
def zYK(hc:X.calm=true):zDI X (.builtin "sorted") (zWB X.prog X.w):=by
 intro pins s σ H vs us Q I r h;cases vs with
 |nil=>exact qA4 h
 |cons hd1 tl1=>
  cases hd1 with
  |ref a=>
   cases tl1 with
   |nil=>
    obtain⟨ks,ha,hne,hlen,q⟩:=h;obtain⟨u,rfl,rx⟩:=zE0 r;cases rx;have hok:ObjOk X.prog X.w H s.heap a (zR9 X.prog X.w a ks):=I.hok a _ ha;have hS:SetZ X.prog X.w s.heap a (!X.w.params.followText "set-order") ks:=hok.1;refine zNC (I.ok.hd hc) hS hne hlen fun h' d tk L out e zs b1 b2 b3 hL hl hk=>?_
    have I2:Inv X pins σ H { s with drawn:=d }:=I.drawn d;have hz':zs.length<=sizeLine:=by rw[b2.length_eq,qJ6];lia
    exact⟨.ref _,_,I2.laid (t':=tk) (o:=.lst (zs.map V.str)) (fun b o e=>hk b o e) hL ⟨by rw[qAg];exact hz',out.toList,e,zHO b1,by simpa[seqObj]using hl⟩,rfl,q zs b2 b3 _ (I2.hok.fresh hL)⟩
   |cons _ _=>exact qA4 h
  |_=>exact qA4 h
end
def zTB:qK0 "set" = some (.type "set"):=by decide +kernel
end L2
namespace L2
open PySem PySem.Spec
section
end
end L2
namespace L2
open PySem
end L2
namespace L3
open PySem PySem.Spec PyProof.Rows
open L2 hiding Rep RepL
open Mi (Dt R Rh EM TM SM AM IM Xn Sl Ro Out okR zA3 optR full frz frzAt)
section
variable[Kc]
end
end L3
namespace L3
open PySem PySem.Spec
open L2 hiding Rep RepL
open Mi (Dt Xn R okR zA3 optR zA0 zAD zAH zAE zAG Rh Sl Ro EM TM AM FM IM SM Tg Out zAU zAR zB7 full frz frz1 frzAt)
section
variable[Kc]
section
end
end
end L3
namespace L3
open PySem PySem.Spec
open PyProof.Rows (risingS sortedS ltCps_eq)
open L2 hiding Rep RepL
open Mi (Dt Xn R okR zA3 optR zA0 zAD zAH zAE zAG Rh Sl Ro EM TM AM FM IM SM OM Tg Out zAU zAR zB7 full frz frz1 frzAt)
section
variable[Kc]{mg:Str->Option Value}{E:XK}{k l:Nat}{te:TE}{e:EM}
def one_le{c d:Nat}:([c]:List Nat)<=[d]↔c<=d:=by
 constructor
 ·intro h
  by_cases z:c<=d
  ·exact z
  ·exact absurd (show([d]:List Nat) < [c] from .rel (by lia)) (qI5.mpr h)
 ·intro h
  rcases Nat.lt_or_eq_of_le h with h|h
  ·exact List.le_of_lt (.rel h)
  ·rw[h];exact List.le_refl _
def zXR{l:List Nat}(h:l.Nodup):(l.map fun c=>(⟨#[c]⟩:Str)).Nodup:=by
 rw[qBl,qE3];refine h.imp fun hne e=>hne ?_
 have:[_]=[_]:=congrArg (fun s:Str=>s.cps.toList) e
 simpa using this
def zK0{G:Hp}:∀(l:List Nat),RepL G (l.map fun c=>Dt.str ⟨#[c]⟩) ((l.map fun c=>(⟨#[c]⟩:Str)).map V.str)
 |[]=>rfl
 |_::r=>⟨_,_,rfl,rfl,zK0 r⟩
def zc4{P:qIo}{w:World}(A:DE mg E te e k):DE mg E (tCB (zWB P w) (zE1 (tCB (za9 P w) (zE1 te tNil)) tNil)) (Mi.eBi Mi.sosD (Mi.aCons e Mi.aNil)) 1:=by
 intro G H σ ρ Q s w' p;have p0:PostE mg E G H 1 (zA3 (e ρ) fun d=>optR (Mi.sosD [d])) Q:=by
  have:(Mi.eBi Mi.sosD (Mi.aCons e Mi.aNil)) ρ=zA3 (e ρ) fun d=>optR (Mi.sosD [d]):=by
   show zA3 (zA3 (e ρ) fun x=>zA3 (okR []) fun xs=>okR (x::xs)) (fun xs=>optR (Mi.sosD xs))=_;cases e ρ with
   |none=>rfl
   |some r=>cases r<;>rfl
  rw[<- this];exact p
 refine(zBE A).step errE s w' p0 fun d v G1 H1 S _ fr o p1=>?_
 cases d with
 |str z=>
  cases(show v=.str z from o)
  have p2:PostE mg E G H 1 (optR (@ite _ (0<z.length/\z.length<=60) (qA1 _) (some (Dt.lst ((Mi.sosL z.cps.toList).map fun c=>Dt.str ⟨#[c]⟩))) none)) Q:=p1
  split at p2
  ·rename_i hz
   have hzl:z.length=z.cps.size:=rfl;refine⟨by lia,fun a ks ha hnd hks=>?_⟩;have hperm:ks.Perm ((Mi.sosL z.cps.toList).map fun c=>(⟨#[c]⟩:Str)):=by
    refine(qEm hnd (zXR (Mi.sos_nodup _))).mpr fun c=>?_
    rw[hks c,qBq];constructor
    ·rintro⟨d,hd,rfl⟩;exact⟨d,(Mi.sos_mem d _).mpr hd,rfl⟩
    ·rintro⟨d,hd,rfl⟩;exact⟨d,(Mi.sos_mem d _).mp hd,rfl⟩
   have hsl:(Mi.sosL z.cps.toList).length<=60:=by
    have h1:(Mi.sosL z.cps.toList).length=(Mi.ded z.cps.toList).length:=(qC7 _ _).length_eq;have h2:∀l:List Nat,(Mi.ded l).length<=l.length:=by
     intro l;induction l with
     |nil=>exact qA5 _
     |cons a r ih=>
      unfold Mi.ded;split
      ·simp only[qAn];lia
      ·simp only[qAn];lia
    have h3:=h2 z.cps.toList;simp at h3;lia
   refine⟨ks,zA8,?_,by rw[hperm.length_eq,qAg];lia,fun ys h1 h2 l hl=>?_⟩
   ·intro hnil;have hz0:0<z.cps.toList.length:=by simp;lia
    have hm:z.cps.toList[0]∈z.cps.toList:=qD5 hz0;have:=(hks ⟨#[z.cps.toList[0]]⟩).mpr ⟨_,hm,rfl⟩;rw[hnil]at this;simp at this
   ·have hy:ys=(Mi.sosL z.cps.toList).map fun c=>(⟨#[c]⟩:Str):=by
     refine Mi.uniqZ (h1.trans hperm) (zL5 h2) ?_;rw[qE3];exact(Mi.sos_asc _).imp fun h=>one_le.mpr h
    subst hy;have hla:l≠a:=fun z=>by rw[z,zA8]at hl;cases hl
    have hl1:H1 l=none:=by rw[zA5 hla]at hl;exact hl
    have x1:Ext G1 H1 G1 (upd H1 a (zR9 P w a ks)):=⟨Same.refl _,fun b o e=>by
      by_cases z:b=a
      ·rw[z,ha]at e;cases e
      ·rw[zA5 z];exact e,fun b o e=>by
      have e2:=fr.ext.in' _ _ e;by_cases z:b=a
      ·rw[z,ha]at e2;cases e2
      ·rw[zA5 z];exact e2,fun _ _=>rfl⟩
    exact PostE.lst p2 (fr.ext.trans x1) (zK0 _) hl
  ·exact p2.elim
 |_=>exact p1.elim
end
end L3
namespace Mi
open PySem
def sadD(x y:Dt):Option Dt:=match x,y with
 |.tup as,.tup bs=>match intsD as,intsD bs with
  |some ns,some ms=>@ite _ (ns≠[]/\ms≠[]/\ns.length+ms.length<64) (qA1 _) (some (.lst ((sortI (ns++ms)).map .int))) none
  |_,_=>none
 |_,_=>none
end Mi
namespace L2
open PySem PySem.Spec PyProof.Rows
section
variable{prog:qIo}{w:World}{A:qIr}{E:Value->qIk->Prop}{s:qIk}
def zO2{l:Addr}{vs:List Value}{Q:List Value->qIk->Prop}(hl:IsTup s.heap l vs.toArray)
  (h:Q vs { s with heap:=(s.heap.push (seqObj "list" #[] 0)).update s.heap.objs.size (qJc (·++vs.toArray)) }) (hsz:vs.length<=sizeLine) :
  wpAny (model prog w) A (collect (.ref l)) Q E s:=by
 obtain⟨o,ho,hc,n,hd⟩:=id hl;unfold collect;refine wpAny_bind (wpAny_runValue (codeAny_builtin qDb ?_));rw[qJ1 qDc _];show wpAny _ A.in1 (newList [] >>= fun l'=>again (.builtin "list.__iadd__" ⟨[l',.ref l],[]⟩)) _ _ s;refine wpAny_bind (wpAny_newList (wpAny_pure ⟨qJt qC0 _,codeAny_builtin qDv ?_⟩));rw[qJ1 qC0 _];show wpAny _ _ (qJ3 (.ref s.heap.objs.size) (.ref l) (.ref s.heap.objs.size)) _ _ { s with heap:=s.heap.push (seqObj "list" #[] 0) };unfold qJ3;have ho':(s.heap.push (seqObj "list" #[] 0)).get? l=some o:=qIj _ ho;refine wpAny_bind (wpAny_typeOf (T:="tuple") ⟨o,ho',hc⟩ ?_);have ht:(qJ9 "tuple" == qJ9 "tuple")=true:=by rfl
 rw[if_pos (by rw[ht];simp)];refine wpAny_bind (listItems_at ho' hd ?_);refine wpAny_bind (listItems_at (xs:=#[]) (n:=0) (qIm _ rfl) rfl ?_);rw[if_neg (by simp)];refine wpAny_bind (listUpdate_at (xs:=#[]) (n:=0) (qIm _ rfl) rfl ?_ (qAv _) (by show(#[]++vs.toArray).size<=sizeLine+1;simp only[Array.size_append,qAh,qCx];lia));refine wpAny_pure ?_;show wpAny (model prog w) A (do
   let o <- load s.heap.objs.size
   match o.data with
   |.seq xs _=>pure xs.toList
   |_=>unsupported "internal:collect") Q E { s with heap:=(s.heap.push (seqObj "list" #[] 0)).update s.heap.objs.size (qJc (·++vs.toArray)) }
 refine wpAny_bind (wpAny_load (get?_update_seq (qIm _ rfl) _) ?_);show wpAny _ _ (pure ((#[]:Array Value)++vs.toArray).toList) Q E _;rw[show((#[]:Array Value)++vs.toArray).toList=vs by simp];exact wpAny_pure h
def zPR{l:Addr}{vs:List Value}{ns:List Int}{Q:Value->qIk->Prop}(hl:IsTup s.heap l vs.toArray)(hI:qL6 vs ns)(h64:vs.length<64)
  (h:∀(out:Array Value)(ns':List Int),qL6 out.toList ns'->ns'.Perm ns->ns'.Pairwise (·<=·)->Q (.ref (s.heap.objs.size+1)) { s with heap:=sortedAll s.heap vs out }) :
  wpAny (model prog w) A (call (.builtin "sorted") [.ref l]) Q E s:=by
 refine qJw qMv qMd qMe (args_sorted1 _) ?_;unfold qJy.«sorted»;refine wpAny_bind (m:=qN6 "sorted" 1 1 _) (wpAny_pure ?_);refine wpAny_bind (zO2 hl ?_ (by rw[qJ6];lia));refine wpAny_bind (wpAny_newList ?_ (hsz:=by rw[qJ6];lia));have hsz:((s.heap.push (seqObj "list" #[] 0)).update s.heap.objs.size (qJc (·++vs.toArray))).objs.size=s.heap.objs.size+1:=by
  rw[Heap.size_update,qN7]
 have hoL:(((s.heap.push (seqObj "list" #[] 0)).update s.heap.objs.size (qJc (·++vs.toArray))).push (seqObj "list" vs.toArray 0)).get? (s.heap.objs.size+1)=some (seqObj "list" vs.toArray 0):=by
  rw[<- hsz];exact qIm _ rfl
 show wpAny _ _ _ _ _ { s with heap:=((s.heap.push (seqObj "list" #[] 0)).update s.heap.objs.size (qJc (·++vs.toArray))).push (seqObj "list" vs.toArray 0) };rw[hsz];refine wpAny_bind (wpAny_holding (wpAny_call_entry qLf ⟨_,hoL,rfl⟩ qLb (list_sort_tree hoL hI h64 fun out ns' a1 a2 a3=>⟨_,rfl,?_⟩) (args_list_sort _)));exact wpAny_pure ⟨_,rfl,h out ns' a1 a2 a3⟩
end
section
variable{X:Cx}
def zWD:List V->Hp->VK->Prop:=fun vs H Q=>match vs with
 |[.ref a]=>∃ns:List Int,H a=some (.tup (ns.map V.int))/\ns.length<64/\∀ms:List Int,ms.Perm ns->ms.Pairwise (·<=·)->∀l,H l=none->Q (.ref l) (upd H l (.lst (ms.map V.int)))
 |_=>False
def zYL:zDI X (.builtin "sorted") zWD:=by
 intro pins s σ H vs us Q I r h;cases vs with
 |nil=>exact qA4 h
 |cons hd1 tl1=>
  cases hd1 with
  |ref a=>
   cases tl1 with
   |nil=>
    obtain⟨u,rfl,rx⟩:=zE0 r;cases rx;obtain⟨ns,ha,hz,q⟩:=h;obtain⟨its,rv,hl,_⟩:=I.tuple (SqT.of ha);have hlen:=rv.length;rw[qAg]at hlen;refine zPR hl (zM7 rv) (by lia) fun out ms h1 h2 h3=>?_
    obtain⟨e,he⟩:=sortedAll_at s.heap its out;have hz':ms.length<=sizeLine:=by rw[h2.length_eq,qJ6];lia
    exact⟨.ref _,_,I.laid (t':=s.toks) (o:=.lst (ms.map V.int)) (fun b o q=>sortedAll_old q) (qBm _) ⟨by rw[qAg];exact hz',out.toList,e,zM8 h1,by simpa[seqObj]using he⟩,rfl,q ms h2 h3 _ (I.hok.fresh (qBm _))⟩
   |cons _ _=>exact qA4 h
  |_=>exact qA4 h
end
end L2
namespace L3
open PySem PySem.Spec
open L2 hiding Rep RepL
open Mi (Dt Xn R okR zA3 optR zA0 zAD zAH zAE zAG Rh Sl Ro EM TM AM FM IM SM OM Tg Out zAU zAR zB7 full frz frz1 frzAt)
section
variable[Kc]{mg:Str->Option Value}{E:XK}{k l:Nat}{ta tb:TE}{ea eb:EM}
def zc8(A:DE mg E ta ea k)(B:DE mg E tb eb l):DE mg E (tCB zWD (zE1 (tOp (zaJ Kc.K) ta tb) tNil)) (Mi.eB Mi.sadD ea eb) 1:=by
 intro G H σ ρ Q s w' p;have p0:PostE mg E G H 1 (zA3 (ea ρ) fun d=>zA3 (eb ρ) fun c=>optR (Mi.sadD d c)) Q:=p;refine(zBE A).step errE s w' p0 fun d v G1 H1 S _ fr o p1=>?_
 refine(zBE B).step (errE.from fr.ext) fr.ext.in' (w'.mono fr.ext.g) p1 fun c u G2 H2 S2 _ fr2 o2 p2=>?_
 have o':=Rep.mono fr2.ext.g o;cases d with
 |tup as=>
  cases c with
  |tup bs=>
   obtain⟨a,xs,rfl,ha,ra⟩:=o';obtain⟨b,ys,rfl,hb,rb⟩:=o2;cases e1:Mi.intsD as with
   |none=>rw[Mi.sadD,e1]at p2;exact p2.elim
   |some ns=>
    cases e2:Mi.intsD bs with
    |none=>rw[Mi.sadD,e1,e2]at p2;exact p2.elim
    |some ms=>
     rw[Mi.sadD,e1,e2]at p2;dsimp only at p2;split at p2
     ·rename_i hz
      cases intsD_rep e1 ra;cases intsD_rep e2 rb;have n1:ns.map V.int≠[]:=fun z=>hz.1 (qG3.mp z)
      have n2:ms.map V.int≠[]:=fun z=>hz.2.1 (qG3.mp z)
      refine⟨a,b,_,_,rfl,rfl,SqT.of (fr2.ext.in' _ _ ha),SqT.of (fr2.ext.in' _ _ hb),n1,by rw[qAg,qAg];exact big' (by lia),fun z=>absurd z n2,fun _ q hq=>?_⟩;refine⟨ns++ms,by rw[zA8,qCb],by rw[qAs];exact hz.2.2,fun zs h1 h2 l' hl'=>?_⟩
      have:zs=Mi.sortI (ns++ms):=qGv (h1.trans (zPS _).symm) h2 (zR5 _);subst this;have x1:Ext G2 H2 G2 (upd H2 q (.tup (ns.map V.int++ms.map V.int))):=⟨Same.refl _,fun b o e=>by
        by_cases z:b=q
        ·rw[z,hq]at e;cases e
        ·rw[zA5 z];exact e,fun b o e=>by
        have e2:=fr2.ext.in' _ _ e;by_cases z:b=q
        ·rw[z,hq]at e2;cases e2
        ·rw[zA5 z];exact e2,fun _ _=>rfl⟩
      exact PostE.lst p2 ((fr.ext.trans fr2.ext).trans x1) (zCX _) hl'
     ·exact p2.elim
  |_=>exact p2.elim
 |_=>exact p2.elim
end
end L3
namespace Mi
open PySem
def kyD:Dt->Option (Sum Int Str)
 |.int i=>some (.inl i)
 |.str x=>some (.inr x)
 |_=>none
def swD:Dt->Option Sw
 |.non=>some .non
 |.bl b=>some (.bl b)
 |.int i=>some (.int i)
 |.str x=>some (.str x)
 |_=>none
def getW(kvs:List (Sum Int Str×Sw))(k:Sum Int Str):Option Sw:=(kvs.find? fun p=>decide (p.1=k)).map (·.2)
def putW(kvs:List (Sum Int Str×Sw))(k:Sum Int Str)(v:Sw):List (Sum Int Str×Sw):=
 if(kvs.any fun p=>decide (p.1=k))=true then kvs.map (fun p=>if p.1=k then(p.1,v)else p)else kvs++[(k,v)]
def zbW:EM:=fun _=>okR (.dct [])
def dinD(ng:Bool)(x y:Dt):Option Dt:=match y with
 |.dct kvs=>match kyD x with
  |some k=>some (.bl (if ng=true then !(getW kvs k).isSome else(getW kvs k).isSome))
  |none=>none
 |_=>none
def zd3(i:Nat)(e1 e2:EM):SM:=fun ρ=>zA3 (e2 (full ρ)) fun v=>match ρ[i]? with
 |some (some (.dct kvs,k+1))=>zA3 (e1 (full ρ)) fun y=>match kyD y,swD v with
  |some q,some u=>@ite _ (kvs.length<=100000) (qA1 _) (okR (.nx (ρ.set i (some (.dct (putW kvs q u),k+1))))) none
  |_,_=>none
 |_=>none
def zWJ:List Dt->Option (List (Sum Int Str×Sw))
 |[]=>some []
 |.tup [a,b]::r=>match kyD a,swD b,zWJ r with
  |some k,some v,some q=>some ((k,v)::q)
  |_,_,_=>none
 |_::_=>none
def zd1(i:Nat)(e:EM):SM:=fun ρ=>match ρ[i]? with
 |some (some (.dct kvs,k+1))=>zA3 (e (full ρ)) fun d=>match d with
  |.lst ds=>match zWJ ds with
   |some ps=>@ite _ (kvs.length+ps.length<=50000) (qA1 _) (okR (.nx (ρ.set i (some (.dct (ps.foldl (fun m p=>putW m p.1 p.2) kvs),k+1))))) none
   |none=>none
  |_=>none
 |_=>none
def numS(n:Nat):List Dt:=(qA9 n).map fun i:Nat=>.int ((2*i:Nat):Int)
def iR3(e:AM):IM:=fun ρ=>zA3 (e ρ) fun vs=>match vs with
 |[.int i,.int j,.int k]=>@ite _ (i=0/\k=2/\0<=j/\j<1000000) (qA1 _) (okR (numS ((j+1)/2).toNat)) none
 |_=>none
def sortC(l:List Nat):List Nat:=l.mergeSort fun a b=>decide (a<=b)
def soxD:List Dt->Option Dt
 |[.str z]=>@ite _ (z.length<64) (qA1 _) (some (.lst ((sortC z.cps.toList).map fun c=>.str ⟨#[c]⟩))) none
 |_=>none
def sortC_perm(l:List Nat):(sortC l).Perm l:=qC7 _ _
def sortC_asc(l:List Nat):(sortC l).Pairwise (·<=·):=by
 have:=qD1 (le:=fun a b:Nat=>decide (a<=b)) (fun a b c h1 h2=>by simp at h1 h2 ⊢;lia) (fun a b=>by simp;lia) l
 exact this.imp fun h=>by simpa using h
end Mi
namespace L2
open PySem PySem.Spec PyProof.Rows
section
end
section
variable{prog:qIo}{w:World}{A:qIr}{E:Value->qIk->Prop}{s:qIk}
def zMJ{z:Str}{t:Tok}(hh:A.handled=none)(hn:z.cps.size<=sizeLine){Q:List Value->qIk->Prop}
  (hQ:∀(h':Heap)(tk:Nat)(acc:Array Value),ItemsOf (SignAt z) acc z.cps.size->s.heap.objs.size<h'.objs.size->(∀b o,s.heap.get? b=some o->h'.get? b=some o)->Q acc.toList { s with heap:=h',toks:=tk }) :
  wpAny (model prog w) A (collect (.str z t)) Q E s:=by
 unfold collect;refine wpAny_bind (wpAny_runValue (codeAny_builtin qDb ?_));rw[qJ1 qDc _];show wpAny _ A.in1 (newList [] >>= fun l=>again (.builtin "list.__iadd__" ⟨[l,.str z t],[]⟩)) _ _ s;refine wpAny_bind (wpAny_newObj_type ?_);refine wpAny_pure ⟨qJt qC0 _,codeAny_builtin qDv ?_⟩;rw[qJ1 qC0 _];show wpAny _ A.in1 (qJ3 (.ref s.heap.objs.size) (.str z t) (.ref s.heap.objs.size)) _ _ _;unfold qJ3;refine wpAny_bind (wpAny_typeOf (T:="str") (v:=.str z t) rfl ?_);have g1:qK2 (.ref s.heap.objs.size) (.str z t)=false:=rfl;have g2:(qJ9 "str" == qJ9 "list")=false:=by decide
 have g3:(qJ9 "str" == qJ9 "tuple")=false:=by decide
 simp only[g1,g2,g3,qG7,qD6,if_false];refine wpAny_bind (wpAny_pyIter_str fun ob St W hst=>?_);refine wpAny_bind (wpAny_holding ?_);unfold qKk;refine wpAny_bind (wpAny_specialOf (T:="str") (v:=.str z t) rfl PySem.F.str_len ?_)
 wp_delta
 refine wpAny_bind (wpAny_isInstance (T:="str") (v:=.str z t) (b:=true) rfl (by rw[qJu];kernel_rfl) ?_);show wpAny _ A.in1 (typeOf (qKe z t) >>= _) _ _ _;refine wpAny_bind (wpAny_typeOf (T:="str") (v:=.str z t) rfl ?_);refine wpAny_pure ?_;rw[if_neg (by decide)];obtain⟨H1,hH⟩:∃H1,s.heap.push { cls:=.type "list",data:=.seq ([]:List Value).toArray }=H1:=⟨_,rfl⟩
 rw[hH]at W hst ⊢;have hsz:H1.objs.size=s.heap.objs.size+1:=by rw[<- hH,qIv]
 have hL1:H1.get? s.heap.objs.size=some { cls:=.type "list",data:=.seq ([]:List Value).toArray }:=by rw[<- hH];exact qIm _ rfl
 have hold:∀b o,s.heap.get? b=some o->H1.get? b=some o:=fun b o e=>by rw[<- hH];exact qIj _ e
 have hout:s.heap.objs.size∉[H1.objs.size]:=fun hm=>by
  have:=qCt.mp hm;lia
 refine wpAny_pure ⟨qJt qEs _,qLe (W A.in1 hh).toS hn _ hout _ z.cps.size 0 _ _ _ rfl (qAv _) hst (qIj _ hL1) (qNk _) fun s' acc' c' hm hS' hacc=>?_⟩;show wpAny _ A (load s.heap.objs.size >>= _) _ _ s';refine wpAny_bind (wpAny_load hS' ?_);obtain⟨h',g',d',tk',os'⟩:=s';have eg:g'=s.gens:=hm.gens;have ed:d'=s.drawn:=hm.drawn;have eo:os'=s.os:=hm.os;subst eg;subst ed;subst eo;refine wpAny_pure (hQ h' tk' acc' hacc (qIl hS') fun b o e=>hm.heap b o (fun hb=>?_) (qIj _ (hold b o e)));have hlt:=qIl e;simp only[qAb,qAz,or_false]at hb
 rcases hb with rfl|rfl
 ·exact qBy _ hlt
 ·rw[hsz]at hlt;exact absurd hlt (qIc.mpr (qBm _))
def zNB{z:Str}{t:Tok}(hh:A.handled=none)(hlen:z.cps.size<64){Q:Value->qIk->Prop}
  (hQ:∀(h':Heap)(tk:Nat)(L:Addr)(out:Array Value)(e:Nat)(zs:List Str),qK9 out.toList zs->zs.Perm (z.cps.toList.map fun c=>(⟨#[c]⟩:Str))->qNa zs=true->s.heap.objs.size<=L->h'.get? L=some (seqObj "list" out e)->(∀b o,s.heap.get? b=some o->h'.get? b=some o)->Q (.ref L) { s with heap:=h',toks:=tk }) :
  wpAny (model prog w) A (call (.builtin "sorted") [.str z t]) Q E s:=by
 refine qJw qMv qMd qMe (args_sorted1 _) ?_;unfold qJy.«sorted»;refine wpAny_bind (m:=qN6 "sorted" 1 1 _) (wpAny_pure ?_);refine wpAny_bind (zMJ (A:=A.in1) hh (by rw[qJ6];lia) fun h' tk' acc hit hgr hkeep=>?_);have hv:=zJ3 hit;have hsa:qK9 acc.toList (z.cps.toList.map fun c=>(⟨#[c]⟩:Str)):=zHN (by
  have e:zGW z=(z.cps.toList.map fun c=>(⟨#[c]⟩:Str)).map V.str:=by unfold zGW;rw[qC4];rfl
  rw[<- e];exact hv)
 have hal:acc.toList.length=z.cps.size:=by rw[zJQ hsa];simp
 refine wpAny_bind (wpAny_newList ?_ (hsz:=by rw[hal,qJ6];lia));have hoL:(h'.push (seqObj "list" acc.toList.toArray 0)).get? h'.objs.size=some (seqObj "list" acc.toList.toArray 0):=qIm _ rfl;refine wpAny_bind (wpAny_holding (wpAny_call_entry qLf ⟨_,hoL,rfl⟩ qLb (list_sort_treeK strKind_oneLt hoL hsa.keysOf (fun v₁ v₂ rest e=>keyKind_strs (by rw[<- e];exact hsa)) (by lia) fun st' a1 a2=>⟨_,rfl,?_⟩) (args_list_sort _)));obtain⟨zs',b1,b2,b3⟩:=sorted_out_str hsa a1 a2;obtain⟨e,he⟩:=sortedHeap_at (vs:=acc.toList) (out:=(arrOf st').map (·.2)) hoL;refine wpAny_pure ⟨_,rfl,hQ _ tk' h'.objs.size _ e zs' b1 b2 b3 (qC8 hgr) he fun b o eb=>?_⟩;have h1:=hkeep b o eb;have hlt:b<h'.objs.size:=qIl h1;rw[sortedHeap_old (qAl hlt) (by rw[qN7];exact qBk hlt)];exact qIj _ h1
end
section
variable{X:Cx}
def zWC:List V->Hp->VK->Prop:=fun vs H Q=>match vs with
 |[.str z]=>z.cps.size<64/\∀ys:List Str,ys.Perm (z.cps.toList.map fun c=>(⟨#[c]⟩:Str))->qNa ys=true->∀l,H l=none->Q (.ref l) (upd H l (.lst (ys.map V.str)))
 |_=>False
def zSE(hc:X.calm=true):zDI X (.builtin "sorted") zWC:=by
 intro pins s σ H vs us Q I r h;cases vs with
 |nil=>exact qA4 h
 |cons hd1 tl1=>
  cases hd1 with
  |str z=>
   cases tl1 with
   |nil=>
    obtain⟨hlen,q⟩:=h;obtain⟨u,rfl,rx⟩:=zE0 r;obtain⟨t,rfl⟩:=rx;refine zNB (I.ok.hd hc) hlen fun h' tk L out e zs b1 b2 b3 hL hl hk=>?_
    have hz':zs.length<=sizeLine:=by rw[b2.length_eq,qJ6];simp;lia
    exact⟨.ref _,_,I.laid (t':=tk) (o:=.lst (zs.map V.str)) (fun b o e=>hk b o e) hL ⟨by rw[qAg];exact hz',out.toList,e,zHO b1,by simpa[seqObj]using hl⟩,rfl,q zs b2 b3 _ (I.hok.fresh hL)⟩
   |cons _ _=>exact qA4 h
  |_=>exact qA4 h
end
end L2
namespace L3
open PySem PySem.Spec
open PyProof.Rows (risingS sortedS ltCps_eq)
open L2 hiding Rep RepL
open Mi (Dt Xn R okR zA3 optR zA0 zAD zAH zAE zAG Rh Sl Ro EM TM AM FM IM SM OM Tg Out zAU zAR zB7 full frz frz1 frzAt)
section
variable[Kc]
def zX6:CBi zWC Mi.soxD 1:=by
 intro mg E G H ds vs Q s h p;by_cases hd:∃z,ds=[.str z]
 ·obtain⟨z,rfl⟩:=hd;obtain⟨x,rfl,hx⟩:=zDJ h
  cases(show x=.str z from hx)
  rw[Mi.soxD]at p;split at p
  ·rename_i hz
   have hzl:z.length=z.cps.size:=rfl;refine⟨by lia,fun ys h1 h2 l hl=>?_⟩;have hy:ys=(Mi.sortC z.cps.toList).map fun c=>(⟨#[c]⟩:Str):=by
    refine Mi.uniqZ (h1.trans ((Mi.sortC_perm _).symm.map _)) (zL5 h2) ?_;rw[qE3];exact(Mi.sortC_asc _).imp fun h=>one_le.mpr h
   subst hy;exact PostE.lst p (Ext.refl s) (zK0 _) hl
  ·exact p.elim
 ·exfalso
  match ds,p,hd with
  |[],p,_=>exact p
  |[d],p,hd=>cases d<;>first|exact p|exact hd ⟨_,rfl⟩
  |a::b::r,p,_=>cases a<;>exact p
end
end L3
namespace L2
open PySem
def uw1{P:List Value->Prop}(h:∀a,P [a]):∀us:List Value,us.length=1->P us
 |[a],_=>h a
def uw2{P:List Value->Prop}(h:∀a b,P [a,b]):∀us:List Value,us.length=2->P us
 |a::us,hl=>uw1 (P:=fun us=>P (a::us)) (h a) us (qI3 hl)
def uw3{P:List Value->Prop}(h:∀a b c,P [a,b,c]):∀us:List Value,us.length=3->P us
 |a::us,hl=>uw2 (P:=fun us=>P (a::us)) (h a) us (qI3 hl)
def oi{p q:Prop}(h:p\/q:=by first|exact qHw rfl|exact qG8 rfl):p\/q:=h
end L2
namespace L3
open PySem PyProof.Rows
open L2 hiding Rep RepL
section
def mkD{K:qA0}{h:Heap}{mg:Str->Option Value}{nm:Str}{st:Stmt}{f:Addr}{oc kV dc pm cd ct:Value}{od an:Option Addr}{sl:Array (Option Value)}(X:K.In h)(G:h.Ns qIn mg)(a:qAu K qIn nm=some (some (.ref f)))(l:K.lookup f=some ⟨oc,od,.func (qAx nm nm (zB9 st) (zAQ st) (zA6 st) .none kV dc pm an cd ct),sl⟩)(c:qB4 K cd nm=true)(k:qAk K (.ref f)=true):Def K mg nm st:=⟨f,_,zD5 (st:=st) l c k,qC1 X G a⟩
end
section
end
end L3
namespace Mi
open PySem
def eCallL(f:FM)(e:EM)(x:Str)(i:Nat):EM:=fun ρ=>zA3 (e ρ) fun d=>match ρ[i]? with
 |some (some c)=>match f [d,.fn x c]with
  |some (.ok r)=>if r.dep<=40 then okR r else none
  |_=>none
 |_=>none
def eCallF(ls:List (Str×FM))(i:Nat)(a:AM):EM:=fun ρ=>match ρ[i]? with
 |some (some (.fn x c))=>match ls.lookup x with
  |some f=>if c.dep<=40 then zA3 (a ρ) fun ds=>if Dt.depL ds=0 then match f (ds++[c])with
    |some (.ok r)=>if r.dep=0 then okR r else none
    |_=>none else none else none
  |none=>none
 |_=>none
def lamF(n:Nat)(e:EM):FM:=fun ds=>if ds.length=n then e (ds.map some)else none
end Mi
namespace L3
open PySem PySem.Spec
open L2 hiding Rep RepL
open Mi (Dt Xn R okR zA3 optR zA0 zAD zAH zAE zAG Rh Sl Ro EM TM AM FM IM SM Tg Out zAU zAR zB7 full frz frz1 frzAt)
variable[Kc]
section
variable{G H:Hp}{cl:Addr}{co:Obj}
def Same.del{H':Hp}(s:Same H H')(cl:Addr):Same (del H cl) (del H' cl):=fun b o e=>by
 obtain⟨z,e⟩:=zPD e;rw[zC4 z];exact s _ _ e
mutual
def Rep.del(hc:G cl=some (cel co)):∀{d:Dt}{v:V},d.dep<=40->Rep G d v->Rep (del G cl) d v
 |.non,_,_,h=>h
 |.bl _,_,_,h=>h
 |.int _,_,_,h=>h
 |.str _,_,_,h=>h
 |.lst ds,_,hd,h=>by
  obtain⟨a,xs,e,e',r⟩:=h;exact⟨a,xs,e,(zC4 (zLV e' hc (by simp))).trans e',RepL.del hc (by rw[Dt.dep]at hd;lia) r⟩
 |.tup ds,_,hd,h=>by
  obtain⟨a,xs,e,e',r⟩:=h;exact⟨a,xs,e,(zC4 (zLV e' hc (by simp))).trans e',RepL.del hc (by rw[Dt.dep]at hd;lia) r⟩
 |.scr _,_,h,_=>by rw[Dt.dep]at h;lia
 |.exc _ _ _,_,h,_=>by rw[Dt.dep]at h;lia
 |.ins _ _,_,h,_=>by rw[Dt.dep]at h;lia
 |.dct _,_,h,_=>by rw[Dt.dep]at h;lia
 |.fn _ _,_,h,_=>by rw[Dt.dep]at h;lia
def RepL.del(hc:G cl=some (cel co)):∀{ds:List Dt}{xs:List V},Dt.depL ds<=40->RepL G ds xs->RepL (del G cl) ds xs
 |[],_,_,h=>h
 |d::r,_,hd,h=>by
  rw[Dt.depL]at hd;obtain⟨x,q,e,a,b⟩:=h;exact⟨x,q,e,Rep.del hc (by lia) a,RepL.del hc (by lia) b⟩
end
def Own.del(hc:G cl=some (cel co)):∀{n:Nat}{S:Addr->Prop}{d:Dt}{v:V},d.dep<=40->¬S cl->Own G H n S d v->Own (del G cl) (del H cl) n S d v
 |0,_,_,_,hd,_,h=>Rep.del hc hd h
 |n+1,S,d,v,hd,hs,h=>by
  cases d with
  |lst ds=>
   rw[Dt.dep]at hd;obtain⟨a,xs,T,e,ha,k⟩:=h;have hac:a≠cl:=fun z=>hs (z▸k.top)
   exact⟨a,xs,T,e,(zC4 hac).trans ha,k.imp (fun q d x h1 p=>Own.del hc (zFF (by lia) h1) (fun z=>hs (k.sub q _ z)) p) fun _ z=>z⟩
  |tup ds=>
   rw[Dt.dep]at hd;obtain⟨a,xs,T,e,ha,k⟩:=h;have hac:a≠cl:=fun z=>hs (z▸k.top)
   exact⟨a,xs,T,e,(zC4 hac).trans ha,k.imp (fun q d x h1 p=>Own.del hc (zFF (by lia) h1) (fun z=>hs (k.sub q _ z)) p) fun _ z=>z⟩
  |dct kvs=>rw[Dt.dep]at hd;lia
  |non=>exact h
  |bl _=>exact h
  |int _=>exact h
  |str _=>exact h
  |scr _=>rw[Dt.dep]at hd;lia
  |exc _ _ _=>rw[Dt.dep]at hd;lia
  |ins _ _=>rw[Dt.dep]at hd;lia
  |fn _ _=>rw[Dt.dep]at hd;lia
def zLG:∀{ds:List Dt}{vs:List V}{c:Dt}{w:V},RepL G ds vs->Rep G c w->RepL G (ds++[c]) (vs++[w])
 |[],_,c,w,h,r=>by cases h;exact⟨w,[],rfl,r,rfl⟩
 |d::t,_,c,w,h,r=>by
  obtain⟨x,q,rfl,a,b⟩:=h;exact⟨x,q++[w],rfl,a,zLG b r⟩
end
variable{mg:Str->Option Value}{E:XK}{n:Nat}
def zVH{f:FM}{te:TE}{e:EM}{x:Str}{L:Arguments×Expr×Scope×Str}{P cl:Addr}{i:Nat}(hL:lamK Kc.K x=some L)(hP:tabK Kc.K P=some (.lam (lamQ x)))(A:DE mg E te e 0) :
  DE mg E (zOI (sp0 Kc.K mg n f) cl i (zE1 te (zE1 (tLam P (lamQ x) L.1 L.2.1 L.2.2.1 [(L.2.2.2,cl)]) tNil))) (Mi.eCallL f e x i) n:=by
 intro G H σ ρ Q s w p;refine A.step errE s w p fun d v G1 H1 S _ fr o p1=>?_
 refine⟨fr.ext.in' _ _ (fr.ext.g _ _ (w.tab _ _ hP)),fun g pm cdv ctv H2 hf sm h2=>?_⟩;show ∃v',σ[i]?=some (some v')/\_;cases e1:ρ[i]? with
 |none=>rw[e1]at p1;exact p1.elim
 |some oc=>
  cases oc with
  |none=>rw[e1]at p1;exact p1.elim
  |some c=>
   rw[e1]at p1;obtain⟨wv,hσ,rc⟩:=w.at i c e1;refine⟨wv,hσ,fun co val hcl hco rv=>?_⟩;have hH1:H1 cl=none:=by
    cases z:H1 cl with
    |none=>rfl
    |some u=>rw[sm _ _ z]at hcl;cases hcl
   have hG1:G1 cl=none:=by
    cases z:G1 cl with
    |none=>rfl
    |some u=>rw[fr.ext.in' _ _ z]at hH1;cases hH1
   have hGf:G1 g=none:=by
    cases z:G1 g with
    |none=>rfl
    |some u=>rw[fr.ext.in' _ _ z]at hf;cases hf
   have ncf:cl≠g:=fun z=>by rw[z,h2]at hcl;cases hcl
   generalize hG3:upd (upd G1 g (.fn (lamO (lamQ x) L.1 L.2.1 L.2.2.1 [(L.2.2.2,cl)] pm cdv ctv) (lamQ x))) cl (cel co)=G3;have s13:Same G1 G3:=fun b u z=>by rw[<- hG3,zA5 (zAI z hG1),zA5 (zAI z hGf)];exact z
   have c3:G3 cl=some (cel co):=by rw[<- hG3,zA8]
   have f3:G3 g=some (.fn (lamO (lamQ x) L.1 L.2.1 L.2.2.1 [(L.2.2.2,cl)] pm cdv ctv) (lamQ x)):=by rw[<- hG3,zA5 ncf.symm,zA8]
   have s3:Same G3 (upd H2 cl (cel co)):=fun b u z=>by
    by_cases z1:b=cl
    ·subst z1;rw[zA8,<- c3,z]
    ·rw[zA5 z1]
     by_cases z2:b=g
     ·subst z2;rw[h2,<- f3,z]
     ·rw[<- hG3,zA5 z1,zA5 z2]at z;exact sm _ _ (fr.ext.in' _ _ z)
   have rc3:Rep G3 c wv:=Rep.mono (fr.ext.g.trans s13) rc;refine⟨G3,[d,.fn x c],(w.tab.trans fr.ext.g).trans s13,s3,⟨v,_,rfl,Rep.mono s13 o,.ref g,[],rfl,⟨g,rfl,L,cl,pm,cdv,ctv,co,val,wv,hL,f3,c3,hco,rv,rc3⟩,rfl⟩,?_⟩;have p2:PostE mg E G H n (match f [d,.fn x c]with
    |some (.ok r)=>if r.dep<=40 then okR r else none
    |_=>none) Q:=p1
   cases er:f [d,.fn x c]with
   |none=>rw[er]at p2;exact p2
   |some r=>
    rw[er]at p2;cases r with
    |error y=>exact p2.elim
    |ok r=>
     have p3:PostE mg E G H n (if r.dep<=40 then okR r else none) Q:=p2
     by_cases hd:r.dep<=40
     ·rw[if_pos hd]at p3;intro u G4 H4 S4 fr4 o4;have c4:G4 cl=some (cel co):=fr4.ext.g _ _ c3;have nS:¬S4 cl:=fun z=>by have:=(fr4.new cl z).1;rw[zA8]at this;cases this
      have neH:∀{b:Addr}{u:HO},H b=some u->b≠cl:=fun z=>zAI (fr.ext.h _ _ z) hH1
      refine p3 u (del G4 cl) (del H4 cl) S4 ⟨⟨fun b u z=>?_,fun b u z=>?_,Same.del fr4.ext.in' cl,fun b hb=>?_⟩,fun a ha=>?_⟩ (Own.del c4 hd nS o4)
      ·have z1:=fr.ext.g _ _ z;rw[zC4 (zAI z1 hG1)];exact fr4.ext.g _ _ (s13 _ _ z1)
      ·rw[zC4 (neH z)];exact fr4.ext.h _ _ (by rw[zA5 (neH z)];exact sm _ _ (fr.ext.h _ _ z))
      ·cases z:H b with
       |none=>exact absurd z hb
       |some u=>
        have z1:=fr.ext.h _ _ z;rw[zC4 (neH z),fr4.ext.old b (by rw[zA5 (neH z),sm _ _ z1];simp),<- hG3,zA5 (neH z),zA5 (zAI z1 hf)];exact fr.ext.old b hb
      ·obtain⟨n1,n2,n3⟩:=fr4.new a ha;have za:a≠cl:=fun z=>nS (z▸ha)
       rw[zA5 za]at n1;refine⟨?_,zE8 n2,by rw[zC4 za];exact n3⟩;cases z:H a with
       |none=>rfl
       |some u=>rw[sm _ _ (fr.ext.h _ _ z)]at n1;cases n1
     ·rw[if_neg hd]at p3;exact p3.elim
def rLam(K:qA0)(ls:List (Str×FM)):Addr->List V->Hp->VK->Prop:=fun f vs H Q=>∃x fm c G cl co val w L pm cdv ctv ds r,ls.lookup x=some fm/\lamK K x=some L /\
 H f=some (.fn (lamO (lamQ x) L.1 L.2.1 L.2.2.1 [(L.2.2.2,cl)] pm cdv ctv) (lamQ x))/\H cl=some (cel co)/\co.data=.cell (some val)/\RelV w val/\Same (tabK K) G/\Same G (del H cl)/\@RepL ⟨K⟩ G (ds++[c]) (vs++[w]) /\
 fm (ds++[c])=okR r/\r.dep=0/\∀v H',@Rep ⟨K⟩ (fun _=>none) r v->Same H H'->Q v H'
def zVI{ls:List (Str×FM)}{i:Nat}{ta:TA}{a:AM}(A:DA mg E ta a 0):DE mg E (zR2 i (rLam Kc.K ls) ta) (Mi.eCallF ls i a) n:=by
 intro G H σ ρ Q s w p;unfold Mi.eCallF at p;split at p
 ·rename_i x c e1
  obtain⟨v,hσ,f,rfl,L,cl,pm,cdv,ctv,co,val,wv,h1,h2,h3,h4,h5,h6⟩:=w.at i _ e1;split at p
  ·rename_i fm hl
   split at p
   ·rename_i hc
    refine⟨f,_,_,hσ,s _ _ h2,?_⟩;refine A.step errE s w p fun ds vs G1 H1 S T _ fr o p1=>?_
    have f1:=fr.ext.h _ _ (s _ _ h2);have c1:G1 cl=some (cel co):=fr.ext.g _ _ h3;split at p1
    ·rename_i hd
     cases er:fm (ds++[c])with
     |none=>rw[er]at p1;exact p1.elim
     |some r=>
      rw[er]at p1;cases r with
      |error y=>exact p1.elim
      |ok r=>
       have p3:PostE mg E G H n (if r.dep=0 then okR r else none) Q:=p1
       by_cases hd0:r.dep=0
       ·rw[if_pos hd0]at p3;refine⟨f1,x,fm,c,del G1 cl,cl,co,val,wv,L,pm,cdv,ctv,ds,r,hl,h1,f1,fr.ext.in' _ _ c1,h4,h5,fun b u z=>?_,Same.del fr.ext.in' cl,zLG (RepL.del c1 (by lia) o.repL) (Rep.del c1 hc (Rep.mono fr.ext.g h6)),er,hd0,fun v H' rv sm=>?_⟩
        ·have z1:=fr.ext.g _ _ (w.tab _ _ z);refine(zC4 ?_).trans z1
         rintro rfl
         rw[c1]at z1;cases z1;unfold tabK at z;cases y:makers.find? fun x=>codP Kc.K x==some b&&(lamK Kc.K x).isSome with
         |none=>rw[y]at z;cases z
         |some t=>rw[y]at z;cases z
        ·exact PostE.val p3 (fr.ext.trans (Ext.same fr.ext.in' sm)) hd0 (Rep.scalar rv hd0)
       ·rw[if_neg hd0]at p3;exact p3.elim
    ·exact p1.elim
   ·exact p.elim
  ·exact p.elim
 ·exact p.elim
end L3
namespace L3
open PySem PySem.Spec
open L2 hiding Rep RepL
open Mi (Dt okR)
section
variable[Kc]
end
section
variable[Kc]
end
end L3
namespace L3
open PySem PySem.Spec
open L2 hiding Rep RepL
section
variable[Kc]
end
end L3
namespace L3
open PySem PySem.Spec
open L2 hiding Rep RepL
open Mi (Dt EM FM okR)
structure LamOk(K:qA0)(mg:Str->Option Value)(k:Nat)(x:Str)(fm:FM):Prop where
 ex:∃(L:Arguments×Expr×Scope×Str)(ps:List Str)(e:EM),lamK K x=some L/\LamScope ps L.2.2.2 L.2.2.1 /\
  (∀(q:Str)(cl:Addr)(pm cdv ctv:Value)(us:List Value),us.length=ps.length->bindArgs (qDk "<lambda>" q L.1 L.2.1 L.2.2.1 [(L.2.2.2,cl)] pm cdv ctv) ⟨us,[]⟩=pure (ps.zip us)) /\
  fm=Mi.lamF (ps.length+1) e/\∀(X:Cx)(q:Str)(f:Addr)(cdv:Value)(cl:Addr)(s:qIk)(H:Hp),X.K=K->X.mg=mg->Room k (X.A.deeper (qEp q L.2.2.1 s.heap.objs.size f cdv [(L.2.2.2,cl)])) ->
   ∃t,PE (zVJ X (ps++[L.2.2.2]) q L.2.2.1 f cdv [(L.2.2.2,cl)] s H) L.2.1 t/\@DE ⟨K⟩ mg E0 t e 0
def lamR{K:qA0}{mg:Str->Option Value}{k:Nat}{ls:List (Str×FM)}{X:Cx}(hK:X.K=K)(hm:X.mg=mg)(hr:Room (k+1) X.A)(h:∀x fm,ls.lookup x=some fm->LamOk K mg k x fm):LamR X (rLam K ls):=by
 letI:Kc:=⟨K⟩;intro pins s σ H f vs us Q I r ⟨x,fm,c,G,cl,co,val,w,L,pm,cdv,ctv,ds,d,h1,h2,h3,h4,h5,h6,h7,h8,h9,h10,h11,h12⟩;obtain⟨L',ps,e,g1,g2,g3,g4,g5⟩:=(h x fm h1).ex;rw[h2]at g1;cases g1;subst g4;obtain⟨t,ht,D⟩:=g5 X (lamQ x) f cdv cl s (del H cl) hK hm (hr.deeper _);unfold Mi.lamF at h10;split at h10
 ·rename_i hlen
  have hl:vs.length=ps.length:=by
   have:=RepL.length h9;simp only[qAs,qAn,qCx]at this hlen;lia
  refine zXV hr I h3 h4 h5 h6 r g2 (fun us hu=>g3 _ _ _ _ _ us hu) hl ⟨t,ht,?_⟩;refine D G (del H cl) _ ((ds++[c]).map some) _ h8 ⟨?_,fun i d' e1=>?_,h7⟩ ?_
  ·have:=RepL.length h9
   simp only[qAs,qAg,qAn,qCx]at this ⊢;lia
  ·rw[qAd]at e1;cases e2:(ds++[c])[i]? with
   |none=>rw[e2]at e1;cases e1
   |some d2=>
    rw[e2]at e1;cases e1;have hi:i<(vs++[w]).length:=by rw[RepL.length h9];exact(qA2.mp e2).1
    refine⟨(vs++[w])[i],?_,zCK h9 e2 (qA6 hi)⟩;rw[show vs.map some++[some w]=(vs++[w]).map some by simp,qAd,qA6 hi];rfl
  ·rw[h10];intro v G' H' S fr o;refine h12 v _ (Rep.scalar o h11) fun b u z=>?_
   by_cases zb:b=cl
   ·subst zb;rw[zA8,<- h4,z]
   ·rw[zA5 zb];exact fr.ext.h _ _ (by rw[zC4 zb];exact z)
 ·cases h10
end L3
namespace L3
open PySem PySem.Spec PyProof.Rows
open L2 hiding Rep RepL
structure Tabs(K:qA0)(ts:List Addr):Prop where
 no:∀P∈ts,K.lookup P=none
 «in»:∀x∈makers,∀P,codP K x=some P->(lamK K x).isSome=true->P∈ts/\∃c,qBn K c P=true
def zL3{K:qA0}{ts:List Addr}(T:Tabs K ts){P:Addr}{u:HO}(h:tabK K P=some u):P∈ts/\(∃q,u=.lam q)/\∃c,qBn K c P=true:=by
 unfold tabK at h;cases e:makers.find? fun x=>codP K x==some P&&(lamK K x).isSome with
 |none=>rw[e]at h;cases h
 |some x=>
  rw[e]at h;cases h;have h1:=List.mem_of_find?_eq_some e;have h2:=List.find?_some e;simp only[qBh,beq_iff_eq]at h2;obtain⟨a,b⟩:=T.in x h1 P h2.1 h2.2;exact⟨a,⟨_,rfl⟩,b⟩
def zSD{P:qIo}{w:World}{K:qA0}{mg mb:Str->Option Value}{CX:CXT}{k:Nat}{fa a:Addr}{fd:qJ0}{x:Str}{sp:Sp}{s₁:qIk}{vs:List Value}{ns:List Int}{ts:List Addr}
  (KX:K.In s₁.heap) (hT:∀P∈ts,s₁.heap.get? P=some (qFw #[])) (T:Tabs K ts) (hns:s₁.heap.Ns qIn mg) (hb:s₁.heap.Ns qKh mb) (hbb:∀x:Str,x≠"__name__"->mb x=qK0 x) (hlim:s₁.heap.NoLimit)
  (hbm:∃bm ob,mg "__builtins__" = some (.ref bm)/\bm≠qKh/\s₁.heap.get? bm=some ob/\ob.cls=.type "module"/\ob.dict=some qKh/\ob.data=.plain) (hg:s₁.gens=#[])
  (ha:s₁.heap.get? a=some { cls:=.type "list",data:=.seq vs.toArray }) (hi:qL6 vs ns) (hl:ns.length<=sizeLine) (hr:Room k qLk)
  (F:∀base:Heap,K.In base->base.Ns qIn mg->FnOk P w K mg base CX k fa fd [x] sp) (hbind:∀(s:qIk)(u:Value),qLx s fd ⟨[u],[]⟩ [(x,u)])
  (hsp:∀H:Hp,Same (tabK K) H->SqL K H a (ns.map V.int)->sp [.ref a] H (fun v H'=>v=.bl true/\Same (tabK K) H') fun _ _ _=>False)
  (hCX:∀H e s',CX [] H s₁ (fun _ _ _=>False) e s'->False) :
  qJn (model P w) qLk (.call (.ref fa) ⟨[.ref a],[]⟩) (fun r s'=>r=.ok (.ret (.bool true))/\OldK s₁.heap s'.heap/\s'.os=s₁.os/\qKu s'.gens) s₁:=by
 have rv:=zL1 hi;have lenV:=hi.length;have tabO:∀{b:Addr}{u:HO},tabK K b=some u->s₁.heap.get? b=some (qFw #[]):=fun e=>hT _ (zL3 T e).1
 have core:∀H:Hp,(∀b u,H b=some u->(b=a/\∃o xs,u=.frz o (.lst xs))\/tabK K b=some u)->Same (tabK K) H->SqL K H a (ns.map V.int)->HOk P w H s₁.heap->(∀b,H b≠none->K.lookup b=none) ->
   qJn (model P w) qLk (.call (.ref fa) ⟨[.ref a],[]⟩) (fun r s'=>r=.ok (.ret (.bool true))/\OldK s₁.heap s'.heap/\s'.os=s₁.os/\qKu s'.gens) s₁:=by
  intro H hO hTab hS hok hK;have base_of:∀{b:Addr}{o:Obj},s₁.heap.get? b=some o->H b=none->(hidT s₁.heap H).get? b=some o:=fun e n=>zV4 e n
  have noA:∀{b:Addr}{o:Obj},s₁.heap.get? b=some o->(∀v,o.data≠.fields v)->(∀v n,o.data≠.seq v n)->H b=none:=fun{b o} e d1 d2=>by
   cases q:H b with
   |none=>rfl
   |some u=>
    rcases hO b u q with⟨z,_⟩|z
    ·subst z;rw[ha]at e;cases e;exact absurd rfl (d2 _ _)
    ·rw[tabO z]at e;cases e;exact absurd rfl (d1 _)
  have nsK:∀{b:Addr}{m:Str->Option Value},s₁.heap.Ns b m->(hidT s₁.heap H).Ns b m:=fun{b m} ⟨o,es,ep,e,d,r⟩=>⟨o,es,ep,base_of e (noA e (fun v z=>by rw[d]at z;cases z) fun v n z=>by rw[d]at z;cases z),d,r⟩
  have hKb:K.In (hidT s₁.heap H):=fun b o e=>base_of (KX b o e) (by
   cases q:H b with
   |none=>rfl
   |some u=>rw[hK b (by rw[q];simp)]at e;cases e)
  have hM:Mod K mg (hidT s₁.heap H):=⟨hKb,nsK hns,⟨mb,nsK hb,hbb⟩,let⟨mc,h1,h2⟩:=hlim;⟨mc,nsK h1,h2⟩,let⟨bm,ob,e1,e2,e3,e4,e5,e6⟩:=hbm;⟨bm,ob,e1,e2,base_of e3 (noA e3 (fun v z=>by rw[e6]at z;cases z) fun v n z=>by rw[e6]at z;cases z),e4,e5,e6⟩⟩
  have e0:Env0 P w K mg (hidT s₁.heap H) qLk [] s₁ H:=⟨rfl,hM,fun b o e=>zYB e,qEn (zSL _ _),trivial,fun b hb=>absurd (show b∈([]:List Addr) from hb) (by simp),hok,.of_eq hg⟩
  refine codeAny_mono ((F _ hKb (nsK hns)).run qLk [] s₁ H ⟨[.ref a],[]⟩ [.ref a] [.ref a] _ _ hr e0 (hbind s₁ (.ref a)) (.cons rfl .nil) (hsp H hTab hS)) fun r s' h=>?_
  cases r with
  |error e=>exact(hCX H e s' h).elim
  |ok fl=>
   cases fl with
   |next=>exact qA4 h
   |brk=>exact qA4 h
   |cont=>exact qA4 h
   |ret u=>
    obtain⟨v,H',os,bare,un,hok',r',q,qT⟩:=h;subst q;obtain rfl:u=qLu true:=r';refine⟨rfl,⟨fun b o e=>?_,fun b o e=>un.there b o e (by simp)⟩,os,bare⟩;cases q:H b with
    |none=>exact .inl (un.keep b o e q (by intro z;exact absurd (show b∈([]:List Addr) from z) (by simp)) (by simp))
    |some u=>
     rcases hO b u q with⟨_,ob,xs,rfl⟩|z
     ·have z2:=un.frzs b ob _ q;obtain⟨e1,_⟩:=hok b _ q;obtain⟨e2,_⟩:=hok' b _ z2;rw[e]at e1;cases e1;exact .inl e2
     ·obtain⟨hts,⟨qq,rfl⟩,c,hc⟩:=zL3 T z;obtain⟨ps,e2,_⟩:=hok' b _ (qT _ _ z);have e3:=hT b hts;rw[e3]at e;cases e;exact .inr (.inl ⟨((qG4 KX hc).tab e3).isCodeTable,rfl,#[],ps,rfl,by rw[e2];simp⟩)
 have tOk:∀{H:Hp}{b:Addr}{u:HO},tabK K b=some u->ObjOk P w H s₁.heap b u:=fun{H b u} z=>by
  obtain⟨hts,⟨q,rfl⟩,_⟩:=zL3 T z;exact⟨#[],hT b hts,trivial,fun pos cv y=>by simp[qKp]at y⟩
 have nta:tabK K a=none:=by
  cases z:tabK K a with
  |none=>rfl
  |some u=>have:=tabO z;rw[ha]at this;cases this
 cases hk:K.lookup a with
 |some o=>
  have e:=KX a o hk;rw[ha]at e;cases e;exact core (tabK K) (fun b u z=>.inr z) (Same.refl _) (.inr ⟨_,vs.toArray,_,hk,rfl,rfl,rfl,by rw[qAh,lenV];exact hl,by simpa using rv⟩) (fun b u z=>tOk z) fun b z=>by
   cases y:tabK K b with
   |none=>exact absurd y z
   |some u=>exact T.no b (zL3 T y).1
 |none=>
  refine core (upd (tabK K) a (.frz { cls:=.type "list",data:=.seq vs.toArray } (.lst (ns.map V.int)))) (fun b u z=>?_) (fun b u z=>?_) (.inl (.inr ⟨{ cls:=.type "list",data:=.seq vs.toArray },zA8⟩)) (fun b u z=>?_) fun b z=>?_
  ·by_cases hb:b=a
   ·subst hb;rw[zA8]at z;cases z;exact .inl ⟨rfl,_,_,rfl⟩
   ·rw[zA5 hb]at z;exact .inr z
  ·rw[zA5 (zAI z nta)];exact z
  ·by_cases hb:b=a
   ·subst hb;rw[zA8]at z;cases z;exact⟨ha,by rw[qAg];exact hl,vs,_,rv,ha⟩
   ·rw[zA5 hb]at z;exact tOk z
  ·by_cases hb:b=a
   ·subst hb;exact hk
   ·rw[zA5 hb]at z;cases y:tabK K b with
    |none=>exact absurd y z
    |some u=>exact T.no b (zL3 T y).1
def zTP{l:qEk}{n k:Nat}{q:qIo}{loose:List Str}{XP:(Str->Option Value)->Heap->Prop}{YP:World->Heap->Prop}{d:DefRec}{K:qN3->qA0}{CX:World->CXT}{sp:World->Sp}{x:Str}{ts:List Addr}
  (hn:l.most=some n) (hn2:n<=sizeLine) (hdf:d.params.defaults=[]) (hr:Room k qLk)
  (hY:∀(w:World)(h:Heap),YP w h->(K w.params).In h/\∀P∈ts,h.get? P=some (qFw #[]))
  (F:∀(w:World)(mg:Str->Option Value)(fa:Addr)(h:Heap),(K w.params).In h->h.Ns qIn mg->mg d.name=some (.ref fa) ->
   Tabs (K w.params) ts/\∃fd:qJ0,(∀(s:qIk)(u:Value),qLx s fd ⟨[u],[]⟩ [(x,u)]) /\
    ∀base:Heap,(K w.params).In base->base.Ns qIn mg->FnOk l.prog w (K w.params) mg base (CX w) k fa fd [x] (sp w))
  (hsp:∀(w:World)(H:Hp)(a:Addr)(ns:List Int),ns.length<=n->(∀i∈ns,i.natAbs.log2<2 ^ 20)->Same (tabK (K w.params)) H->SqL (K w.params) H a (ns.map V.int)->sp w [.ref a] H (fun v H'=>v=.bl true/\Same (tabK (K w.params)) H') fun _ _ _=>False)
  (hCX:∀(w:World)(H:Hp)(s:qIk)(e:Value)(s':qIk),CX w [] H s (fun _ _ _=>False) e s'->False) :
  qGd q loose XP YP l.row.toRowW d [] (fun f vs=>qGk f vs):=by
 refine Att.attach_callW hn hdf fun w s₀ s₁ mg mb fa o pm cd doc a vs ns G Y ho hd hcd hmg hobj hints hlen hw hg=>?_
 obtain⟨KX,hT⟩:=hY w _ Y;obtain⟨T,fd,hb,hF⟩:=F w mg fa _ KX G.T.g hmg;exact zSD KX hT T G.T.g G.T.b G.T.builtins G.T.nolimit G.T.bmain hg hobj hints (qAt hlen hn2) hr hF hb (fun H hO hS=>hsp w H a ns hlen hw hO hS) fun H e s'=>hCX w H s₁ e s'
end L3
namespace L3
open PySem PyProof.Rows
open L2 hiding Rep RepL
structure Mkr(K:qA0)(mg:Str->Option Value)(x:Str)(st:Stmt)(P:Addr):Prop where
 ex:∃f fd c,Fun K x x st f fd/\mg x=some (.ref f)/\fd.code=.ref c/\qBn K c P=true
 lam:lamK K x=zQA (zAQ st)
 tab:tabK K P=some (.lam (lamQ x))
section
variable{P:qIo}{w:World}{K:qA0}{mg:Str->Option Value}{base:Heap}{x:Str}{st:Stmt}{N ps:List Str}{k:Nat}{T:Addr}
def dfL{L n:Nat}{m:Mi.SM}(D:Mkr K mg x st T)(S:FnScope N ps (zA6 st))
  (hb:∀(kV doc pm:Value)(an:Option Addr)(cdv ct:Value)(us:List Value),us.length=ps.length->bindArgs (qAx x x (zB9 st) (zAQ st) (zA6 st) .none kV doc pm an cdv ct) ⟨us,[]⟩=pure (ps.zip us))
  (hbody:∀{f c:Addr}{A:qIr}{outer:List Env}{s:qIk}{H:Hp}{vs:List V}{Q:VK}{E:XK},qBn K c T=true->Room k (A.deeper (envOfC x (zA6 st) s.heap.objs.size f (.ref c)))->(A.deeper (envOfC x (zA6 st) s.heap.objs.size f (.ref c))).units+64<cLine->sp0 K mg L (Mi.runF ps.length n m) vs H Q E ->
   ∃t,PSs (cxOf CX0 P w K mg base N x (zA6 st) f (.ref c) A outer s H E).nox (zAQ st) t/\t { nx:=fun _ H'=>Q .non H',rt:=Q } (start N vs) H):Has P w K mg base x (k+1) ps (sp0 K mg L (Mi.runF ps.length n m)):=by
 obtain⟨f,fd,c,F,hm,hc,hC⟩:=D.ex;refine⟨f,fd,?_,hm,F.kp,F.binds hb⟩;obtain⟨oc,od,kV,doc,pm,an,cdv,ct,osl,rfl,lk,hcd⟩:=F.ex;have hc':cdv=.ref c:=hc;subst hc';refine zYY lk hcd S (fun _ _ _ _ h=>@zAT ⟨K⟩ _ _ _ _ _ _ _ _ _ h) fun A outer s H vs Q E hr hsp=>?_
 obtain⟨t,h,q⟩:=hbody hC hr hr.units hsp;exact⟨t,h.nox,q⟩
end
def lsc{ps:List Str}{nm:Str}{sc:Scope}(a:sc.kind=.function:=by rfl)(b:sc.isCoroutine=false:=by rfl)(c:sc.isGenerator=false:=by rfl)(d:(ps++[nm]).Nodup:=by decide +kernel)
  (f:∀x∈ps,sc.names.lookup x=some .local:=by decide +kernel) (g:sc.names.lookup nm=some .free:=by rfl) (h:∀y∈sc.names,y.2≠.cell:=by decide +kernel) (i:∀y∈sc.names,y.2=.free->y.1=nm:=by decide +kernel):LamScope ps nm sc:=
 ⟨a,b,c,d,f,g,h,fun x hx=>i (x,.free) (qC6 hx) rfl⟩
def lam1{K:qA0}{mg:Str->Option Value}{k:Nat}{x:Str}{fm:Mi.FM}(h:LamOk K mg k x fm):∀y gm,([(x,fm)]:List (Str×Mi.FM)).lookup y=some gm->LamOk K mg k y gm:=fun y gm e=>by
 simp only[qB7]at e;split at e
 ·rename_i z
  cases e;rw[beq_iff_eq.mp z];exact h
 ·cases e
def lam2{K:qA0}{mg:Str->Option Value}{k:Nat}{x:Str}{fm:Mi.FM}{r:List (Str×Mi.FM)}(h:LamOk K mg k x fm)(h2:∀y gm,r.lookup y=some gm->LamOk K mg k y gm):∀y gm,((x,fm)::r).lookup y=some gm->LamOk K mg k y gm:=fun y gm e=>by
 simp only[qB7]at e;split at e
 ·rename_i z
  cases e;rw[beq_iff_eq.mp z];exact h
 ·exact h2 y gm e
structure Mk1(K:qA0)(ts:List Addr)(x:Str)(r:Option Addr):Prop where
 cod:codP K x=r
 lam:(lamK K x).isSome=r.isSome
 hd:∀P,r=some P->P∈ts/\∃c,qBn K c P=true
def mk1_none{K:qA0}{ts:List Addr}{x:Str}(a:qAu K qIn x=some none):Mk1 K ts x none:=
 ⟨by unfold codP;rw[a],by unfold lamK;rw[a];rfl,fun _ z=>by cases z⟩
structure Tb(K:qA0)(ts:List Addr)(r1 r2 r3:Option Addr):Prop where
 m1:Mk1 K ts "turned_at" r1
 m2:Mk1 K ts "exchanged_at" r2
 m3:Mk1 K ts "pivoted" r3
section
variable{K:qA0}{ts:List Addr}{r1 r2 r3:Option Addr}
def Tb.eq(T:Tb K ts r1 r2 r3)(P:Addr):tabK K P=if(r1==some P&&r1.isSome)=true then some (.lam (lamQ "turned_at"))else if(r2==some P&&r2.isSome)=true then some (.lam (lamQ "exchanged_at"))else if(r3==some P&&r3.isSome)=true then some (.lam (lamQ "pivoted"))else none:=by
 unfold tabK makers;simp only[List.find?,T.m1.cod,T.m1.lam,T.m2.cod,T.m2.lam,T.m3.cod,T.m3.lam];split
 ·rename_i h;rw[if_pos h];rfl
 ·rename_i h
  rw[if_neg (by rw[h];simp)]
  split
  ·rename_i h;rw[if_pos h];rfl
  ·rename_i h
   rw[if_neg (by rw[h];simp)]
   split
   ·rename_i h;rw[if_pos h];rfl
   ·rename_i h;rw[if_neg (by rw[h];simp)];rfl
def Tb.tabs(T:Tb K ts r1 r2 r3)(no:∀P∈ts,K.lookup P=none):Tabs K ts:=⟨no,fun x hx P h _=>by
 unfold makers at hx;simp only[qAb,qAz,or_false]at hx;rcases hx with rfl|rfl|rfl
 ·exact T.m1.hd P (T.m1.cod.symm.trans h)
 ·exact T.m2.hd P (T.m2.cod.symm.trans h)
 ·exact T.m3.hd P (T.m3.cod.symm.trans h)⟩
end
def TbE(K:qA0)(ts:List Addr):Prop:=∃r1 r2 r3,Tb K ts r1 r2 r3
def zdJ{K:qA0}{c P:Addr}{d:Option Addr}{vs:Array Value}{s:Array (Option Value)}(lc:K.lookup c=some ⟨.type "code",d,.fields vs,s⟩)(h:qBn [(c,⟨.type "code",d,.fields vs,s⟩)] c P=true):qBn K c P=true:=by
 unfold qBn at h ⊢;rw[lc];simpa using h
structure MkS(K:qA0)(mg:Str->Option Value)(ts:List Addr)(x:Str)(st:Stmt)(P:Addr):Prop where
 ex:∃f fd c,Fun K x x st f fd/\mg x=some (.ref f)/\fd.code=.ref c/\qBn K c P=true
 lam:lamK K x=zQA (zAQ st)
 mk1:Mk1 K ts x (some P)
def mkS{K:qA0}{h:Heap}{mg:Str->Option Value}{ts:List Addr}{nm:Str}{st:Stmt}{f c P:Addr}{oc kV dc pm ct:Value}{od an d:Option Addr}{sl s:Array (Option Value)}{vs:Array Value}(X:K.In h)(G:h.Ns qIn mg)(a:qAu K qIn nm=some (some (.ref f)))
  (l:K.lookup f=some ⟨oc,od,.func (qAx nm nm (zB9 st) (zAQ st) (zA6 st) .none kV dc pm an (.ref c) ct),sl⟩) (e:qB4 K (.ref c) nm=true) (k:qAk K (.ref f)=true)
  (lc:K.lookup c=some ⟨.type "code",d,.fields vs,s⟩) (h11:vs[11]?=some (.ref P)) (hh:qBn [(c,⟨.type "code",d,.fields vs,s⟩)] c P=true) (hl:(zQA (zAQ st)).isSome=true) (hP:P∈ts):MkS K mg ts nm st P:=by
 have hC:=zdJ lc hh;have hlam:lamK K nm=zQA (zAQ st):=by unfold lamK;rw[a];dsimp only;rw[l]
 refine⟨⟨f,_,c,zD5 (st:=st) l e k,qC1 X G a,rfl,hC⟩,hlam,⟨?_,by rw[hlam,hl];rfl,fun P' z=>by cases z;exact⟨hP,c,hC⟩⟩⟩;unfold codP;rw[a];dsimp only;rw[l];dsimp only;rw[lc];dsimp only;rw[h11]
def with1{K:qA0}{mg:Str->Option Value}{ts:List Addr}{x:Str}{st:Stmt}{P:Addr}{C:Prop}(M:MkS K mg ts x st P)(r:MkS K mg ts x st P->TbE K ts/\C):TbE K ts/\C:=r M
def MkrE(K:qA0)(mg:Str->Option Value)(x:Str)(st:Stmt):Prop:=∃P,Mkr K mg x st P
def MkS.mkr{K:qA0}{mg:Str->Option Value}{ts:List Addr}{x:Str}{st:Stmt}{P:Addr}(S:MkS K mg ts x st P)(h:tabK K P=some (.lam (lamQ x))):MkrE K mg x st:=⟨P,S.ex,S.lam,h⟩
def zdE{K:qN3->qA0}{as ts:List Addr}(e:∀P,as=(K P).map (·.1))(h:∀P∈ts,P∉as)(q:qN3):∀P∈ts,(K q).lookup P=none:=fun P hP=>by
 rw[qF3];intro p hp;have:p.1∈as:=by rw[e q];exact qG2 hp
 have ne:P≠p.1:=fun z=>h P hP (z▸this)
 simpa using ne
def walk_ofM{l:qEk}{n k:Nat}{q:qIo}{loose:List Str}{XP:(Str->Option Value)->Heap->Prop}{d:DefRec}{K:qN3->qA0}{x:Str}{as ts:List Addr}{e:∀P,as=(K P).map (·.1)}
  (hn:l.most=some n) (h63:n<=63) (hdf:d.params.defaults=[]) (hr:Room k qLk) (hts:∀P∈ts,P∉as)
  (F:∀(w:World)(mg:Str->Option Value)(fa:Addr)(h:Heap),(K w.params).In h->h.Ns qIn mg->mg d.name=some (.ref fa) ->
   TbE (K w.params) ts/\∃fd:qJ0,(∀(s:qIk)(u:Value),qLx s fd ⟨[u],[]⟩ [(x,u)]) /\
    ∀base:Heap,(K w.params).In base->base.Ns qIn mg->FnOk l.prog w (K w.params) mg base CX0 k fa fd [x] (zJ2 (K w.params))) :
  qGd q loose XP (qHi K as e ts).says l.row.toRowW d [] (fun f vs=>qGk f vs):=
 zTP (K:=K) (ts:=ts) (CX:=fun _=>CX0) (sp:=fun w=>zJ2 (K w.params)) hn (qAt h63 (by decide)) hdf hr (fun w h Y=>⟨PySem.W.km_in_of Y,PySem.W.km_tabs_of Y⟩)
  (fun w mg fa h KX G hm=>let⟨⟨_,_,_,T⟩,r⟩:=F w mg fa h KX G hm;⟨T.tabs (zdE e hts w.params),r⟩)
  (fun _ _ a ns hl hw hT hS=>⟨a,ns,rfl,hT,hS,qAt hl h63,hw,fun _ z=>⟨rfl,z⟩⟩) fun _ _ _ _ _ z=>z
def pcf{X:Cx}(i:Nat){x:Str}{p pos:Pos}{e:Expr}{es:List Expr}{t:TA}{r:Addr->List V->Hp->VK->Prop}(hL:LamR X r)(ha:PA X (e::es) t)(hN:X.N[i]?=some x:=by rfl)(hv:Vis X.env.scope x:=by first|exact qHw rfl|exact qG8 (qHw rfl)|exact qG8 (qG8 rfl))
  (hd:(x==("__debug__":Str))=false:=by decide) (hcd:(x==("__classdict__":Str))=false:=by decide)
  (he:starEach (e::es) X.env=(false,eval e X.env)::starEach es X.env:=by rfl) (hpl:(backTo pos (starEach es X.env)).any (·.1)=false:=by rfl) :
  PE X (.Call (.Name x p) (e::es) [] pos) (zR2 i r t):=zUC hL hN hv ha hd hcd he hpl
def zPE[Kc]{mg mg':Str->Option Value}{E:XK}{n:Nat}{f:Mi.FM}{te:TE}{e:Mi.EM}{x:Str}{st:Stmt}{ps:Arguments}{b:Expr}{sc:Scope}{nm:Str}{P cl:Addr}{i:Nat}(D:Mkr Kc.K mg' x st P)(A:DE mg E te e 0)(h:zQA (zAQ st)=some (ps,b,sc,nm):=by rfl) :
  DE mg E (zOI (sp0 Kc.K mg n f) cl i (zE1 te (zE1 (tLam P (lamQ x) ps b sc [(nm,cl)]) tNil))) (Mi.eCallL f e x i) n:=zVH (L:=(ps,b,sc,nm)) (D.lam.trans h) D.tab A
end L3
namespace L2
open PySem PySem.Spec PyProof.Rows
section
variable{X:Cx}
def zRT{params:Arguments}{body:Expr}{scope:Scope}{pos:Pos}{c P:Addr}{q:Str}{clos:List (Str×Addr)}(hC:qBn X.K c P=true)(hdef:defaultsOf params X.env=([],[]):=by rfl)(hcode:X.env.code=.ref c:=by rfl)
  (hq:X.env.qual ++ "<lambda>" = q:=by rfl) (hcl:qM1 scope X.env=pure clos:=by rfl):PE X (.Lambda params body scope pos) (tLam P q params body scope clos):=fun pins s σ H Q I h=>
 zaT hdef hcode (qG4 I.ok.mod.kin hC) hq hcl pins s σ H Q I h
def zWI{x nm:Str}{j k:Nat}{ps:List Str}{sp:Sp}{e:Expr}{es:List Expr}{t:TA}{p pos:Pos}{cl:Addr}(i:Nat)(h:Has X.prog X.w X.K X.mg X.base x j ps sp)(hjk:j<=k)(hr:Room k X.A)(hg:Gl X x)(ha:PA X (e::es) t)
  (hN:X.N[i]?=some nm:=by rfl) (hv:X.env.scope.names.lookup nm=some .cell:=by rfl) (hfn:X.fn nm=true:=by rfl) (hc:X.env.cells.lookup nm=some cl:=by rfl) (hdb:(x==("__debug__":Str))=false:=by decide)
  (he:starEach (e::es) X.env=(false,eval e X.env)::starEach es X.env:=by rfl) (hpl:(backTo pos (starEach es X.env)).any (·.1)=false:=by rfl):PE X (.Call (.Name x p) (e::es) [] pos) (zOI sp cl i t):=by
 obtain⟨f,fd,G,m,kp,b⟩:=h;exact zUD G (hr.mono hjk) hg m kp b ha hN hv hfn hc hdb he hpl
end
end L2
namespace L3
open PySem PySem.Spec
open L2 hiding Rep RepL
open Mi (Dt Xn R okR zA3 optR zA0 zAD zAH zAE zAG Rh Sl Ro EM TM AM FM IM SM Tg Out full frz frz1 frzAt)
section
variable[Kc]
end
end L3
namespace PySem
open Sem (wp)
section
variable{prog:qIo}{w:World}{K:Type}[DecidableEq K]
end
end PySem
namespace Mi
def slZ:Dt->Option Int->Option Int->Option Dt
 |.scr ns,none,some b=>@ite _ ((ns.length:Int)<=b) (qA1 _) (some (.scr ns)) none
 |_,_,_=>none
def eSlZ(a:EM)(lo hi:OM):EM:=fun ρ=>zA3 (a ρ) fun x=>zA3 (lo ρ) fun l=>zA3 (hi ρ) fun h=>optR (slZ x l h)
end Mi
namespace L2
open PySem PySem.Spec PyProof.Rows
section
variable{X:Cx}
def zZC{n:Nat}{b:Int}(h:(n:Int)<=b):qJx none (some b) 1 (n:Int)=(0,(n:Int)):=by
 unfold qJx;have h1:¬((1:Int)<0):=by decide
 have h2:¬(b<0):=by omega
 simp only[h1,h2,if_false];congr 1;omega
def zY2(n:Nat):qJg 0 (n:Int) 1=n:=by
 unfold qJg;have h1:(1:Int)>0:=by decide
 simp only[h1,if_true,qGr];split<;>omega
def zZY{prog:qIo}{w:World}{A:qIr}{E:Value->qIk->Prop}{s:qIk}{sl:Addr}{n:Nat}{b:Int}{u:Tok}{Q:Int×Int×Nat->qIk->Prop}(hs:s.heap.IsSliceOf sl .none (.int b u) .none)(hb:(n:Int)<=b)(h:Q (0,1,n) s):wpAny (model prog w) A (qKn (.ref sl) (pure (n:Int))) Q E s:=by
 obtain⟨os,hos,hcs,hds⟩:=id hs;unfold qKn qMz;refine wpAny_bind (wpAny_bind (wpAny_field hos hds (x:=.none) rfl (wpAny_bind (wpAny_field hos hds (x:=.int b u) rfl (wpAny_bind (wpAny_field hos hds (x:=.none) rfl (wpAny_pure ?_)))))));refine wpAny_bind (slicePart_none ?_);show wpAny _ _ (if((1:Int)==0)=true then _ else _) _ _ s;rw[if_neg (by decide)];refine wpAny_bind (slicePart_none (wpAny_bind (slicePart_int (wpAny_bind (wpAny_pure ?_)))));show wpAny _ _ (match qJx none (some b) 1 (n:Int)with|(lo,hi)=>pure (lo,(1:Int),qJg lo hi 1)) _ _ s;rw[zZC hb];show wpAny _ _ (pure ((0:Int),(1:Int),qJg (0:Int) (n:Int) 1)) _ _ s;rw[zY2];exact wpAny_pure h
def zYU{prog:qIo}{w:World}{A:qIr}{E:Value->qIk->Prop}{s:qIk}{t sl:Addr}{items:Array Value}{b:Int}{u:Tok}{Q:Value->qIk->Prop}(ht:IsTup s.heap t items)(hs:s.heap.IsSliceOf sl .none (.int b u) .none)(hb:(items.size:Int)<=b)(h:Q (.ref t) s) :
  wpAny (model prog w) A (getItem (.ref t) (.ref sl)) Q E s:=by
 obtain⟨os,hos,hcs,hds⟩:=id hs;have hTs:s.TypeIs (.ref sl) "slice":=⟨os,hos,hcs⟩;unfold getItem
 try with_reducible refine wpAny_holding ?_
 first|refine wpAny_bind (wpAny_pure ?_)|skip
 refine wpAny_bind (wpAny_sequenceKey ht.typeIs (by decide) ?_);refine wpAny_bind (wpAny_callSpecial?_slot (name:=qJ2 "__getitem__") ht.typeIs qK4
  (wpAny_call_entry qK4 ht.typeIs entry_tuple_getitem ?_ (args_tuple_getitem _ _)))
 show wpAny _ _ (qMx (.ref t) >>= _) _ _ s;refine wpAny_bind (tupleItemsOf_ ht ?_);refine wpAny_bind (wpAny_typeOf hTs ?_);rw[if_pos (by decide)];refine wpAny_bind (zZY hs hb ?_);show wpAny _ _ (if((0:Int)==0&&(1:Int)==1&&items.size==items.size)=true then _ else _) _ _ s;rw[if_pos (by simp)];unfold qMy;refine wpAny_bind (wpAny_bind (wpAny_typeOf ht.typeIs (wpAny_pure ?_)));rw[if_pos (by decide)];refine wpAny_bind (wpAny_rule ?_);exact wpAny_pure ⟨_,rfl,wpAny_pure h⟩
def rSlZ(K:qA0):V->Option Int->Option Int->Hp->VK->Prop:=fun x lo hi H Q=>∃a xs b,x=.ref a/\lo=none/\hi=some b/\(xs.length:Int)<=b/\((SqL K H a xs/\∀p,H p=none->Q (.ref p) (upd H p (.lst xs)))\/(SqT K H a xs/\Q (.ref a) H))
def zZ5{xs:List V}{b:Int}(h:(xs.length:Int)<=b):cutV xs none (some b)=xs:=by
 unfold cutV HT.sIx;have:¬b<0:=by omega
 simp only[this,if_false,qCi,qI4];exact qBs (by omega)
def zcS{K:qA0}(hK:X.K=K:=by rfl):SlR X (rSlZ K):=by
 subst hK;intro pins s σ H x v vl vu lo hi sl Q I rx hs pl pu h;obtain⟨a,xs,b,rfl,rfl,rfl,hb,h|⟨h,q⟩⟩:=h
 ·refine zR6 pins s σ H _ v vl vu none (some b) sl Q I rx hs pl pu ⟨a,xs,rfl,h.1,fun p hp=>?_⟩;rw[zZ5 hb];exact h.2 p hp
 ·cases rx;cases pl;cases pu;obtain⟨its,r,ht,hz⟩:=I.tuple h;have hlen:=r.length;refine⟨"tuple",_,qK4.lookup,ht.typeIs,zYU ht hs (by rw[qAh,<- hlen];exact hb) ⟨.ref a,H,I,rfl,q⟩⟩
end
end L2
namespace L3
open PySem PySem.Spec
open L2 hiding Rep RepL
open Mi (Dt Xn R okR zA3 optR zA0 zAD zAH zAE zAG Rh Sl Ro EM TM AM FM IM SM OM Tg Out zAU zAR zB7 full frz frz1 frzAt)
section
variable[Kc]{mg:Str->Option Value}{E:XK}{k:Nat}{te:TE}{e:EM}
def zc5{tl th:TO}{ml mh:OM}(A:DE mg E te e k)(B:DO mg E tl ml)(C:DO mg E th mh):DE mg E (tSl (rSlZ Kc.K) te tl th) (Mi.eSlZ e ml mh) 0:=by
 intro G H σ ρ Q s w p;refine(zBE A).step errE s w p fun d v G1 H1 S _ fr o p1=>?_
 refine B.step (errE.from fr.ext) fr.ext.in' (w.mono fr.ext.g) p1 fun lo H2 _ s2 p2=>?_
 have x2:=fr.ext.trans (Ext.same fr.ext.in' s2);refine C.step (errE.from x2) x2.in' (w.mono fr.ext.g) p2 fun hi H3 _ s3 p3=>?_
 have x3:=x2.trans (Ext.same x2.in' s3);have p4:=PostE.from p3 x3;cases d with
 |scr ns=>
  cases lo with
  |some _=>exact p4.elim
  |none=>
   cases hi with
   |none=>exact p4.elim
   |some b=>
    rw[Mi.slZ]at p4;by_cases hb:(ns.length:Int)<=b
    ·rw[if_pos hb]at p4;obtain⟨a,rfl,ha⟩:=o;refine⟨a,ns.map V.int,b,rfl,rfl,rfl,by rw[qAg];exact hb,?_⟩
     rcases ha with ha|hk
     ·exact .inl ⟨x3.in'.seq ha,fun q hq=>PostE.kept p4 (Ext.new x3.in' hq _) ⟨q,rfl,.inl (SqL.of zA8)⟩⟩
     ·exact .inr ⟨hk.t,PostE.kept p4 (Ext.refl x3.in') ⟨a,rfl,.inr hk⟩⟩
    ·rw[if_neg hb]at p4;exact p4.elim
 |_=>exact p4.elim
end
end L3
namespace Mi
def slN:Dt->Option Int->Option Int->Option Dt
 |.scr ns,lo,hi=>some (.lst (cutA (ns.map .int) lo hi))
 |_,_,_=>none
def eSlN(a:EM)(lo hi:OM):EM:=fun ρ=>zA3 (a ρ) fun x=>zA3 (lo ρ) fun l=>zA3 (hi ρ) fun h=>optR (slN x l h)
end Mi
namespace Mp
open Mi PySem
end Mp
namespace Mp
open Mi PySem
def zIO:SM:=(sRet 2 2 [0] (eComp (iSq (eV 0)) 1 (.one 1) Mi.tYes (eBi listD (aCons (eV 1) aNil))))
def zCT:FM:=runF 1 1 zIO
def zMT:SM:=(sRet 1 1 [0] (eComp (iR1 (aCons (eBi lenD (aCons (eV 0) aNil)) aNil)) 1 (.one 1) (tB (eB eqD (eB ixD (eV 0) (eV 1)) (eC (.int 1)))) (eV 1)))
def zDW:FM:=runF 1 1 zMT
def zIM:SM:=(sRet 2 2 [1,0] (eComp (iSq (eV 1)) 1 (.one 2) Mi.tYes (eComp (iSq (eV 1)) 1 (.one 3) Mi.tYes (eB ixD (eB ixD (eV 0) (eV 2)) (eV 3)))))
def zDG:FM:=runF 2 2 zIM
def zIK:SM:=(sSeq (sSet 2 0 [1,0] (eB modD (eV 1) (eBi lenD (aCons (eV 0) aNil))))
 (sRet 1 1 [0,2] (eB addD (eSl (eV 0) (oE (eV 2)) oNo) (eSl (eV 0) oNo (oE (eV 2))))))
def zG1:FM:=runF 2 3 zIK
def zEC:SM:=(sRet 0 0 [1] (eB revD (eV 1) (eU negD (eC (.int 1)))))
def zC9:FM:=runF 2 2 zEC
def zEP:SM:=(sRet 0 0 [1,0] (eCallN zG1 (aCons (eV 1) (aCons (eFld ["Shift"] "by" (eV 0)) aNil))))
def zCJ:FM:=runF 2 2 zEP
def zDT:SM:=(sSeq (sSet 2 0 [] (eC (.str "abcdefghijklmnopqrstuvwxyz")))
 (sSeq (sSet 3 0 [] (eC (.str "")))
 (sSeq (sForR (iR1 (aCons (eB addD (eC (.int 1)) (eB modD (eB ixD (eV 0) (eC (.int 0))) (eV 1))) aNil)) 4 (sSeq (sSet 5 0 [2,4,0] (eB ixD (eV 2) (eB modD (eB addD (eB divD (eB ixD (eV 0) (eC (.int 0))) (eC (.int 16))) (eB mulD (eB ixD (eLst (aCons (eC (.int 1)) (aCons (eC (.int 3)) (aCons (eC (.int 5)) (aCons (eC (.int 7)) (aCons (eC (.int 9)) (aCons (eC (.int 11)) aNil))))))) (eB modD (eB divD (eB ixD (eV 0) (eC (.int 0))) (eC (.int 512))) (eC (.int 6)))) (eV 4))) (eC (.int 26)))))
 (sFor [0,4,3] (iSq (eTup (aCons (eB modD (eB ixD (eV 0) (eB addD (eC (.int 1)) (eV 4))) (eB addD (eBi lenD (aCons (eV 3) aNil)) (eC (.int 1)))) (aCons (eB modD (eB divD (eB ixD (eV 0) (eB addD (eC (.int 1)) (eV 4))) (eC (.int 32))) (eB addD (eBi lenD (aCons (eV 3) aNil)) (eC (.int 2)))) aNil)))) (.one 6) (sSet 3 1 [5,3,6] (eB addD (eB addD (eSl (eV 3) oNo (oE (eV 6))) (eV 5)) (eSl (eV 3) (oE (eV 6)) oNo))))))
 (sRetV 1 3))))
def zCW:FM:=runF 2 7 zDT
def zEB:SM:=(sSeq (sIf (Mi.tOr (tB (eB neD (eBi lenD (aCons (eV 1) aNil)) (eC (.int 1)))) (tB (eB (inD true) (eV 1) (eV 0)))) (sRaise "NoLetter" "letter" (aCons (eV 1) aNil)) sNil)
 (sRet 0 0 [1,0] (eMt findD (eV 0) (aCons (eV 1) aNil))))
def zB2:FM:=runF 2 2 zEB
def zFG:SM:=(sRet 1 1 [0,1] (eTup (aCons (eCall zB2 (aCons (eV 0) (aCons (eV 1) aNil))) (aCons (eMt rfindD (eV 0) (aCons (eV 1) aNil)) aNil))))
def zB0:FM:=runF 2 2 zFG
def zFH:SM:=(sSeq (sSet 2 1 [1,0] (eCall zB0 (aCons (eV 1) (aCons (eFld ["Turn"] "letter" (eV 0)) aNil))))
 (sSeq (sSet 3 1 [2] (eB addD (eB ixD (eV 2) (eC (.int 0))) (eC (.int 1))))
 (sRet 0 0 [1,3,2] (eB addD (eB addD (eSl (eV 1) oNo (oE (eV 3))) (eB revD (eSl (eV 1) (oE (eV 3)) (oE (eB ixD (eV 2) (eC (.int 1))))) (eU negD (eC (.int 1))))) (eSl (eV 1) (oE (eB ixD (eV 2) (eC (.int 1)))) oNo)))))
def zB6:FM:=runF 2 4 zFH
def zEO:SM:=(sRet 1 1 [0,1] (eComp (iEnX (aCons (eV 0) aNil)) 2 (.tup [2,3]) (tB (eB eqD (eV 3) (eV 1))) (eV 2)))
def zDM:FM:=runF 2 2 zEO
def zGZ:SM:=(sRet 0 0 [0] (eMt joinD (eC (.str "")) (aCons (eBi sosD (aCons (eV 0) aNil)) aNil)))
def zBJ:FM:=runF 1 1 zGZ
def zGR:SM:=(sSeq (sSet 3 1 [0,1] (eCall zB0 (aCons (eV 0) (aCons (eV 1) aNil))))
 (sRet 0 0 [2,0,3] (eB eqD (eMt countD (eSl (eV 0) (oE (eB addD (eB ixD (eV 3) (eC (.int 0))) (eC (.int 1)))) (oE (eB ixD (eV 3) (eC (.int 1))))) (aCons (eV 2) aNil)) (eC (.int 1)))))
def zES:FM:=runF 3 4 zGR
def zO5:SM:=(sSeq (sSet 2 1 [0,1] (eSl (eV 0) (oE (eB addD (eB ixD (eV 1) (eC (.int 0))) (eC (.int 1)))) (oE (eB ixD (eV 1) (eC (.int 1))))))
 (sSeq (sSet 3 1 [0,1] (eSl (eV 0) (oE (eB ixD (eV 1) (eC (.int 1)))) (oE (eB addD (eB ixD (eV 1) (eC (.int 2))) (eC (.int 1))))))
 (sSeq (sSet 4 1 [0,1] (eSl (eV 0) (oE (eB addD (eB ixD (eV 1) (eC (.int 2))) (eC (.int 1)))) (oE (eB ixD (eV 1) (eC (.int 3))))))
 (sRet 1 1 [2,0,3,4,1] (eB addD (eB addD (eB addD (eB addD (eSl (eV 0) oNo (oE (eB addD (eB ixD (eV 1) (eC (.int 0))) (eC (.int 1))))) (eV 4)) (eV 3)) (eV 2)) (eSl (eV 0) (oE (eB ixD (eV 1) (eC (.int 3)))) oNo))))))
def zE7:FM:=runF 2 5 zO5
def zFI:SM:=(sSeq (sSet 2 1 [1,0] (eB sadD (eCall zB0 (aCons (eV 1) (aCons (eFld ["Swap"] "one" (eV 0)) aNil))) (eCall zB0 (aCons (eV 1) (aCons (eFld ["Swap"] "other" (eV 0)) aNil)))))
 (sSeq (sIf (tNo (tM (eCall zES (aCons (eV 1) (aCons (eFld ["Swap"] "one" (eV 0)) (aCons (eFld ["Swap"] "other" (eV 0)) aNil)))))) (sRaise0 "NoCross" (aCons (eC (.str "the letters do not cross in the word")) aNil)) sNil)
 (sRet 0 0 [1,2] (eCallN zE7 (aCons (eV 1) (aCons (eV 2) aNil))))))
def zBK:FM:=runF 2 3 zFI
def zKT:SM:=(sSeq (sSet 2 0 [0,1] (eB ixD (eLst (aCons (eTup (aCons (eC (.int 1)) (aCons (eC (.int 0)) (aCons (eC (.int 3)) (aCons (eC (.int 2)) aNil))))) (aCons (eTup (aCons (eC (.int 2)) (aCons (eC (.int 3)) (aCons (eC (.int 0)) (aCons (eC (.int 1)) aNil))))) (aCons (eTup (aCons (eC (.int 3)) (aCons (eC (.int 2)) (aCons (eC (.int 1)) (aCons (eC (.int 0)) aNil))))) aNil)))) (eB ixD (eV 0) (eB divD (eV 1) (eC (.int 4))))))
 (sRet 1 1 [1,2] (eB addD (eB subD (eV 1) (eB modD (eV 1) (eC (.int 4)))) (eB ixD (eV 2) (eB modD (eV 1) (eC (.int 4)))))))
def zKC:FM:=runF 2 3 zKT
def zMV:SM:=(sSeq (sSet 3 9 [] (eLst aNil))
 (sSeq (sSet 4 0 [2] (eV 2))
 (sSeq (zW4 (Mi.tOr (tB (eB eqD (eV 3) (eLst aNil))) (tB (eB neD (eV 4) (eV 2)))) (sSeq (sApp 3 0 (eV 4))
 (sSeq (sApp 3 1 (eCall zKC (aCons (eV 1) (aCons (eV 4) aNil))))
 (sSet 4 0 [0,3] (eB ixD (eV 0) (eB ixD (eV 3) (eU negD (eC (.int 1)))))))))
 (sRetV 9 3))))
def zM1:FM:=runF 3 5 zMV
def zKS:SM:=(sSeq (sSet 2 1 [] zbW)
 (sSeq (sSet 3 9 [] (eLst aNil))
 (sSeq (sForR (iR1 (aCons (eBi lenD (aCons (eV 0) aNil)) aNil)) 4 (sIf (tB (eB (dinD true) (eV 4) (eV 2))) (sSeq (sSet 5 9 [0,1,4] (eCall zM1 (aCons (eV 0) (aCons (eV 1) (aCons (eV 4) aNil)))))
 (sSeq (sFor [5] (iSq (eV 5)) (.one 6) (zd3 2 (eV 6) (eC (.bl true))))
 (za1 3 [5] (eV 5)))) sNil))
 (sRetV 1 3))))
def m__law_rounds:FM:=runF 2 7 zKS
def zVS:SM:=(sRet 0 0 [1,0] (eB xorD (eV 1) (eB addD (eV 0) (eC (.int 1)))))
def zUS:FM:=runF 2 2 zVS
def zMU:SM:=(sSeq (sSet 2 0 [1] (eB divD (eV 1) (eC (.int 4))))
 (sRet 1 1 [2,0,1] (eB addD (eB mulD (eV 2) (eC (.int 4))) (eCall zUS (aCons (eB ixD (eV 0) (eV 2)) (aCons (eB modD (eV 1) (eC (.int 4))) aNil))))))
def zGX:FM:=runF 2 3 zMU
def zQI:SM:=(sSeq (sSet 3 1 [2,1] (eLst (aCons (eV 2) (aCons (eCall zGX (aCons (eV 1) (aCons (eV 2) aNil))) aNil))))
 (sSeq (zW4 (tB (eB neD (eB ixD (eV 0) (eB ixD (eV 3) (eU negD (eC (.int 1))))) (eV 2))) (sSeq (sSet 4 0 [0,3] (eB ixD (eV 0) (eB ixD (eV 3) (eU negD (eC (.int 1))))))
 (sExt 3 0 (eLst (aCons (eV 4) (aCons (eCall zGX (aCons (eV 1) (aCons (eV 4) aNil))) aNil))))))
 (sRetV 1 3)))
def zQ7:FM:=runF 3 5 zQI
def zO4:SM:=(sSeq (sSet 2 9 [] (eLst aNil))
 (sSeq (sSet 3 1 [] zbW)
 (sSeq (sForR (iR1 (aCons (eBi lenD (aCons (eV 0) aNil)) aNil)) 4 (sIf (tB (eB (dinD true) (eV 4) (eV 3))) (sSeq (sSet 5 1 [0,1,4] (eCall zQ7 (aCons (eV 0) (aCons (eV 1) (aCons (eV 4) aNil)))))
 (sSeq (za1 2 [5] (eV 5))
 (zd1 3 (eComp (iSq (eV 5)) 1 (.one 6) Mi.tYes (eTup (aCons (eV 6) (aCons (eC (.bl true)) aNil))))))) sNil))
 (sRetV 1 2))))
def m_rounds_of:FM:=runF 2 6 zO4
def zBD:FM:=lamF 3 (eAnd (eB neD (eV 0) (eV 1)) (eAnd (eB (inD false) (eV 0) (eV 2)) (eB (inD false) (eV 1) (eV 2))))
def zTF:SM:=(sRet 1 1 [1,0] (eComp (iSq (eCall zDW (aCons (eB ixD (eV 0) (eV 1)) aNil))) 1 (.one 2) (tB (eB neD (eV 2) (eV 1))) (eV 2)))
def zG2:FM:=runF 2 2 zTF
def zAX:FM:=lamF 3 (eAnd (eB (inD false) (eC (.int 1)) (eB ixD (eV 2) (eV 0))) (eAnd (eB (inD false) (eC (.int 1)) (eB ixD (eV 2) (eV 1))) (eB neD (eB ixD (eV 2) (eV 0)) (eB ixD (eV 2) (eV 1)))))
def zIL:SM:=(sSeq (sIf (Mi.tOr (tNo (tM (eIsi "list" (eV 0)))) (tB (eB neD (eBi lenD (aCons (eV 0) aNil)) (eBi lenD (aCons (eV 1) aNil))))) (sRet 0 0 [] (eC (.bl false))) sNil)
 (sSeq (sFor [0,1] (iZi (aCons (eV 0) (aCons (eV 1) aNil))) (.tup [2,3]) (sSeq (sIf (Mi.tOr (tNo (tM (eIsi "list" (eV 2)))) (tB (eB neD (eBi lenD (aCons (eV 2) aNil)) (eBi lenD (aCons (eV 3) aNil))))) (sRet 0 0 [] (eC (.bl false))) sNil)
 (sFor [2] (iSq (eV 2)) (.one 4) (sIf (Mi.tOr (tNo (tM (eIsi "int" (eV 4)))) (tM (eIsi "bool" (eV 4)))) (sRet 0 0 [] (eC (.bl false))) sNil))))
 (sRet 0 0 [0,1] (eB eqD (eV 0) (eV 1)))))
def zC2:FM:=runF 2 5 zIL
def zGT:SM:=(sRet 2 2 [2] (eCallN zCT (aCons (eV 2) aNil)))
def zAM:FM:=runF 3 3 zGT
def zKV:SM:=(sRet 0 0 [] (eNew0 "Mirror"))
def m_Mirror_back:FM:=runF 1 1 zKV
def zMX:SM:=(sRet 0 0 [0] (eNew "Shift" ["by"] (aCons (eU negD (eFld ["Shift"] "by" (eV 0))) aNil)))
def m_Shift_back:FM:=runF 1 1 zMX
def zO7:SM:=(sRet 0 0 [0] (eNew "Swap" ["one","other"] (aCons (eFld ["Swap"] "one" (eV 0)) (aCons (eFld ["Swap"] "other" (eV 0)) aNil))))
def m_Swap_back:FM:=runF 1 1 zO7
def zO6:SM:=(sRet 0 0 [0] (eNew "Turn" ["letter"] (aCons (eFld ["Turn"] "letter" (eV 0)) aNil)))
def m_Turn_back:FM:=runF 1 1 zO6
def zKR:SM:=(sSeq (sIf (tM (eIsO ["Turn"] ["Change","Swap","Mirror","Shift"] (eV 0))) (sRet 1 1 [0] (eTup (aCons (eC (.str "turn")) (aCons (eFld ["Turn"] "letter" (eV 0)) aNil)))) sNil)
 (sSeq (sIf (tM (eIsO ["Swap"] ["Change","Turn","Mirror","Shift"] (eV 0))) (sRet 1 1 [0] (eTup (aCons (eC (.str "swap")) (aCons (eFld ["Swap"] "one" (eV 0)) (aCons (eFld ["Swap"] "other" (eV 0)) aNil))))) sNil)
 (sSeq (sIf (tM (eIsO ["Mirror"] ["Change","Turn","Swap","Shift"] (eV 0))) (sRet 1 1 [] (eTup (aCons (eC (.str "mirror")) aNil))) sNil)
 (sSeq (sIf (tM (eIsO ["Shift"] ["Change","Turn","Swap","Mirror"] (eV 0))) (sRet 1 1 [0] (eTup (aCons (eC (.str "shift")) (aCons (eFld ["Shift"] "by" (eV 0)) aNil)))) sNil)
 (sRet 1 1 [] (eTup (aCons (eC (.str "none")) aNil)))))))
def m__law_values:FM:=runF 1 1 zKR
def zG9:SM:=(sSeq (sSet 2 0 [0] (eBi lenD (aCons (eV 0) aNil)))
 (sRet 2 2 [2,0,1] (eComp (iR1 (aCons (eV 2) aNil)) 1 (.one 3) Mi.tYes (eComp (iR1 (aCons (eV 2) aNil)) 1 (.one 4) Mi.tYes (eB xorD (eB ixD (eB ixD (eV 0) (eV 3)) (eV 4)) (eIf (tM (eCallF [("turned_at",zBD),("exchanged_at",zAX)] 1 (aCons (eV 3) (aCons (eV 4) aNil)))) (eC (.int 1)) (eC (.int 0))))))))
def zB3:FM:=runF 2 3 zG9
def zGQ:SM:=(sSeq (sSet 3 2 [0,1,2] (eComp (iR1 (aCons (eBi lenD (aCons (eV 0) aNil)) aNil)) 1 (.one 6) Mi.tYes (eTup (aCons (eB ixD (eB ixD (eV 0) (eV 1)) (eV 6)) (aCons (eB ixD (eB ixD (eV 0) (eV 2)) (eV 6)) aNil)))))
 (sSeq (sItem 3 1 (eV 1) (eTup (aCons (eC (.int 0)) (aCons (eC (.int 0)) aNil))))
 (sSeq (sItem 3 1 (eV 2) (eTup (aCons (eC (.int 0)) (aCons (eC (.int 0)) aNil))))
 (sSeq (sSet 4 2 [0,3] (eCallL zB3 (eV 0) "exchanged_at" 3))
 (sSeq (sSet 5 1 [0] (eBi rangeD (aCons (eBi lenD (aCons (eV 0) aNil)) aNil)))
 (sSeq (sItem 5 0 (eV 1) (eV 2))
 (sSeq (sItem 5 0 (eV 2) (eV 1))
 (sRet 2 2 [4,5] (eCall zDG (aCons (eV 4) (aCons (eV 5) aNil)))))))))))
def zC8:FM:=runF 3 6 zGQ
def zGB:SM:=(sSeq (sSet 3 0 [1,0] (eCall zB2 (aCons (eV 1) (aCons (eFld ["Swap"] "one" (eV 0)) aNil))))
 (sSeq (sSet 4 0 [1,0] (eCall zB2 (aCons (eV 1) (aCons (eFld ["Swap"] "other" (eV 0)) aNil))))
 (sSeq (sIf (tB (eB neD (eB ixD (eB ixD (eV 2) (eV 3)) (eV 4)) (eC (.int 1)))) (sRaise0 "NoCross" (aCons (eC (.str "the letters do not cross in the web")) aNil)) sNil)
 (sRet 2 2 [2,3,4] (eCallN zC8 (aCons (eV 2) (aCons (eV 3) (aCons (eV 4) aNil))))))))
def zB5:FM:=runF 3 5 zGB
def zIX:SM:=(sSeq (sSet 2 1 [0,1] (eCall zG2 (aCons (eV 0) (aCons (eV 1) aNil))))
 (sRet 2 2 [0,2] (eCallL zB3 (eV 0) "turned_at" 2)))
def zCV:FM:=runF 2 3 zIX
def zGA:SM:=(sRet 2 2 [2,1,0] (eCallN zCV (aCons (eV 2) (aCons (eCall zB2 (aCons (eV 1) (aCons (eFld ["Turn"] "letter" (eV 0)) aNil))) aNil))))
def zB4:FM:=runF 3 3 zGA
def zIN:SM:=(sSeq (sSet 2 9 [] (eLst aNil))
 (sSeq (sForR (iR1 (aCons (eBi maxD (aCons (eV 1) (aCons (eBi minD (aCons (eC (.int 63)) (aCons (eBi lenD (aCons (eV 0) aNil)) aNil))) aNil))) aNil)) 3 (sSeq (sSet 4 1 [3] (eB addD (eB mulD (eC (.int 7)) (eV 3)) (eC (.int 3))))
 (sSeq (sIf (tB (eB (cmpD fun i j=>decide (j<i)) (eBi lenD (aCons (eV 0) aNil)) (eC (.int 0)))) (sSet 4 0 [0,3] (eB modD (eB ixD (eV 0) (eB modD (eV 3) (eBi lenD (aCons (eV 0) aNil)))) (eC (.int 1000003)))) sNil)
 (sSeq (sSet 5 0 [4,3] (eB modD (eB mulD (eB modD (eB addD (eB mulD (eB addD (eV 4) (eC (.int 1))) (eC (.int 48271))) (eB mulD (eB mulD (eV 3) (eV 3)) (eC (.int 7919)))) (eC (.int 1000000007))) (eC (.int 40692))) (eC (.int 2147483399))))
 (sApp 2 1 (eB addD (eB mulD (eV 5) (eC (.int 2147483647))) (eB modD (eB addD (eB mulD (eV 5) (eC (.int 69621))) (eV 3)) (eC (.int 2147483647)))))))))
 (sRetV 9 2)))
def zC3:FM:=runF 2 6 zIN
def zMW:SM:=(sSeq (sIf (Mi.tOr (tB (eB eqD (eBi lenD (aCons (eV 0) aNil)) (eC (.int 0)))) (tB (eB eqD (eB modD (eB ixD (eV 0) (eC (.int 0))) (eC (.int 2))) (eC (.int 0))))) (sRet 1 9 [0,1] (eCall zC3 (aCons (eV 0) (aCons (eV 1) aNil)))) sNil)
 (sSeq (sSet 2 1 [0] (eComp (iSq (eSlZ (eV 0) oNo (oE (eC (.int 63))))) 1 (.one 3) Mi.tYes (eB modD (eV 3) (eB powD (eC (.int 10)) (eC (.int 60))))))
 (sRet 1 1 [2,1] (eB addD (eV 2) (eB repD (eLst (aCons (eC (.int 0)) aNil)) (eB subD (eV 1) (eBi lenD (aCons (eV 2) aNil))))))))
def zDN:FM:=runF 2 3 zMW
def zGS:SM:=(sSeq (sSet 2 1 [] (eBi listXD (aCons (eC (.str "abcdefghijklmnopqrstuvwxyz")) aNil)))
 (sSeq (sSet 3 1 [0,1] (eB addD (eC (.int 1)) (eB modD (eV 0) (eV 1))))
 (sSeq (sSet 0 0 [0,1] (eB divD (eV 0) (eV 1)))
 (sSeq (sSet 4 0 [] (eC (.str "")))
 (sSeq (sForR (iR1 (aCons (eV 3) aNil)) 5 (sSeq (sPop 6 2 (eB modD (eV 0) (eBi lenD (aCons (eV 2) aNil))))
 (sSeq (sSet 0 0 [0,2] (eB divD (eV 0) (eB addD (eBi lenD (aCons (eV 2) aNil)) (eC (.int 1)))))
 (sForR (iR1 (aCons (eC (.int 2)) aNil)) 7 (sSeq (sSet 8 0 [0,4] (eB modD (eV 0) (eB addD (eBi lenD (aCons (eV 4) aNil)) (eC (.int 1)))))
 (sSeq (sSet 0 0 [0,4] (eB divD (eV 0) (eB addD (eBi lenD (aCons (eV 4) aNil)) (eC (.int 1)))))
 (sSet 4 1 [6,4,8] (eB addD (eB addD (eSl (eV 4) oNo (oE (eV 8))) (eV 6)) (eSl (eV 4) (oE (eV 8)) oNo)))))))))
 (sRetV 1 4))))))
def zBP:FM:=runF 2 9 zGS
def zKU:SM:=(sSeq (sSet 3 0 [0] (eCall zBJ (aCons (eV 0) aNil)))
 (sSeq (sSet 4 9 [] (eLst aNil))
 (sSeq (sFor [1] (iEn (aCons (eV 1) aNil)) (.tup [5,6]) (sSeq (sSet 7 1 [6] (eComp (iEn (aCons (eV 6) aNil)) 2 (.tup [10,11]) (tB (eB eqD (eV 11) (eC (.int 1)))) (eV 10)))
 (sSet 4 1 [4,7,3,5] (eB addD (eV 4) (eComp (iSq (eV 7)) 1 (.one 10) Mi.tYes (eTup (aCons (eB ixD (eV 3) (eV 5)) (aCons (eB ixD (eV 3) (eV 10)) aNil))))))))
 (sSeq (sIf (tAn (tB (eB (cmpD fun i j=>decide (i<j)) (eB modD (eV 2) (eC (.int 8))) (eC (.int 4)))) (tB (eB (cmpD fun i j=>decide (j<i)) (eBi lenD (aCons (eV 4) aNil)) (eC (.int 0))))) (sSeq (sUnp [8,9] [4,2] (eB ixD (eV 4) (eB modD (eB divD (eV 2) (eC (.int 8))) (eBi lenD (aCons (eV 4) aNil)))))
 (sRet 0 0 [8,9] (eNew "Swap" ["one","other"] (aCons (eV 8) (aCons (eV 9) aNil))))) sNil)
 (sSeq (sIf (tB (eB eqD (eB modD (eV 2) (eC (.int 8))) (eC (.int 4)))) (sRet 0 0 [] (eNew0 "Mirror")) sNil)
 (sSeq (sIf (tB (eB eqD (eB modD (eV 2) (eC (.int 8))) (eC (.int 5)))) (sRet 0 0 [2] (eNew "Shift" ["by"] (aCons (eB subD (eB modD (eB divD (eV 2) (eC (.int 8))) (eC (.int 61))) (eC (.int 30))) aNil))) sNil)
 (sRet 0 0 [3,2] (eNew "Turn" ["letter"] (aCons (eB ixD (eV 3) (eB modD (eB divD (eV 2) (eC (.int 8))) (eBi lenD (aCons (eV 3) aNil)))) aNil)))))))))
def zCL:FM:=runF 3 10 zKU
def zIY:SM:=(sRet 2 2 [1,0] (eComp (iSq (eSl (eV 0) oNo (oE (eV 1)))) 1 (.one 2) Mi.tYes (eSl (eV 2) oNo (oE (eV 1)))))
def zCF:FM:=runF 2 2 zIY
def zQJ:SM:=(sSeq (sSet 1 0 [0] (eCall zBJ (aCons (eV 0) aNil)))
 (sSeq (sSet 2 2 [1] (eComp (iSq (eV 1)) 1 (.one 10) Mi.tYes (eComp (iSq (eV 1)) 1 (.one 11) Mi.tYes (eC (.int 0)))))
 (sSeq (sFor [1] (iEnX (aCons (eV 1) aNil)) (.tup [3,4]) (sSeq (sUnpL [5,6] [0,4] (eCall zDM (aCons (eV 0) (aCons (eV 4) aNil))))
 (sFor [1] (iEnX (aCons (eV 1) aNil)) (.tup [7,8]) (sSeq (sSet 9 0 [8,0,5,6] (eMt countD (eSl (eV 0) (oE (eV 5)) (oE (eV 6))) (aCons (eV 8) aNil)))
 (sItem2 2 0 (eV 3) (eV 7) (eB mulD (eB modD (eV 9) (eC (.int 2))) (eBi intD (aCons (eB neD (eV 3) (eV 7)) aNil))))))))
 (sRetV 2 2))))
def zDC:FM:=runF 1 10 zQJ
def zTG:SM:=(sSeq (sSet 1 1 [0] (eCall zDN (aCons (eV 0) (aCons (eC (.int 18)) aNil))))
 (sSeq (sSet 2 1 [1] (eCall zCW (aCons (eV 1) (aCons (eC (.int 10)) aNil))))
 (sSeq (sIf (tAn (tB (eB neD (eSlN (eV 0) oNo (oE (eC (.int 1)))) (eLst aNil))) (tB (eB eqD (eB modD (eB ixD (eV 0) (eC (.int 0))) (eC (.int 2))) (eC (.int 1))))) (sSeq (sSet 2 1 [1] (eCall zBP (aCons (eB ixD (eV 1) (eC (.int 1))) (aCons (eC (.int 10)) aNil))))
 (sSet 1 1 [1] (eB addD (eSl (eV 1) oNo (oE (eC (.int 11)))) (eSl (eV 1) (oE (eC (.int 2))) oNo)))) sNil)
 (sSeq (sSet 3 0 [2] (eCall zBJ (aCons (eV 2) aNil)))
 (sSeq (sSet 4 2 [2] (eCall zDC (aCons (eV 2) aNil)))
 (sSeq (sFor [1] (iSq (eSl (eV 1) (oE (eC (.int 11))) oNo)) (.one 5) (sSeq (sSet 6 0 [2,4,5] (eCall zCL (aCons (eV 2) (aCons (eV 4) (aCons (eV 5) aNil)))))
 (sSeq (sSet 7 2 [10,4] (eComp (iSq (eV 4)) 1 (.one 11) Mi.tYes (eBi listD (aCons (eV 11) aNil))))
 (sSeq (sSet 8 2 [3,7,6] (eMeth [("Turn",zB4),("Swap",zB5),("Mirror",zAM),("Shift",zAM)] "done_web" (eV 6) (aCons (eV 3) (aCons (eV 7) aNil))))
 (sSeq (sSet 2 0 [2,6] (eMeth [("Turn",zB6),("Swap",zBK),("Mirror",zC9),("Shift",zCJ)] "done" (eV 6) (aCons (eV 2) aNil)))
 (sSeq (sIf (Mi.tOr (tNo (tM (eIsi "str" (eV 2)))) (tB (eB neD (eBi soxD (aCons (eV 2) aNil)) (eBi soxD (aCons (eB addD (eV 3) (eV 3)) aNil))))) (sRet 0 0 [] (eC (.bl false))) sNil)
 (sSeq (sSet 9 2 [2] (eCall zDC (aCons (eV 2) aNil)))
 (sSeq (sIf (Mi.tOr (tNo (tM (eCall zC2 (aCons (eV 8) (aCons (eV 9) aNil))))) (tB (eB neD (eV 7) (eV 4)))) (sRet 0 0 [] (eC (.bl false))) sNil)
 (sSeq (sSet 4 2 [10,8] (eComp (iSq (eV 8)) 1 (.one 11) Mi.tYes (eBi listD (aCons (eV 11) aNil))))
 (sSeq (sForApp 8 10 1)
 (sSeq (sApp 8 9 (eLst aNil))
 (sIf (tB (eB neD (eV 7) (eCall zCF (aCons (eV 7) (aCons (eBi lenD (aCons (eV 3) aNil)) aNil))))) (sRet 0 0 [] (eC (.bl false))) sNil))))))))))))
 (sRet 0 0 [] (eC (.bl true)))))))))
def zM0:FM:=runF 1 11 zTG
def ords(row:List Nat):List Nat:=row.foldl (fun o p=>if p∈o then o else o++[p]) []
end Mp
namespace FW
def zI6{l:List Nat}{k:Nat}(h:k<l.length):(l.eraseIdx k).length+1=l.length:=by
 rw[qDh h];lia
end FW
namespace L3
open PySem PySem.Spec
open L2 hiding Rep RepL
open Mi (Dt Xn R okR zA3 optR zA0 zAD zAH zAE zAG Rh Sl Ro EM TM AM FM IM SM OM Tg Out zAU zAR zB7 full frz frz1 frzAt)
def zWQ:Data->Bool
 |.seq its _=>(match its.toList with
  |.int _ _::_=>true
  |_=>false)
 |_=>false
def zUL(K:qA0):Bool:=K.all fun p=>!zWQ p.2.data
def zNP{K:qA0}{a:Addr}{o:Obj}(h:K.lookup a=some o):∃b,(b,o)∈K:=by
 induction K with
 |nil=>cases h
 |cons p r ih=>
  obtain⟨b,u⟩:=p;rw[qAy]at h;split at h
  ·cases h;exact⟨b,qAw⟩
  ·obtain⟨c,hc⟩:=ih h;exact⟨c,qAp _ hc⟩
def zb6{K:qA0}{a:Addr}{ns:List Int}(h:zUL K=true)(k:KTP K a (ns.map V.int)):False:=by
 obtain⟨hne,o,its,n,hk,_,hd,_,r⟩:=k;obtain⟨b,hb⟩:=zNP hk;have h1:=qEb.mp h _ hb;cases ns with
 |nil=>exact hne rfl
 |cons i t=>
  rw[qAm]at r;generalize e:its.toList=l at r;cases r with
  |cons hv hr=>
   obtain⟨tk,rfl⟩:=hv;have:zWQ o.data=true:=by
    rw[hd];show(match its.toList with | .int _ _::_=>true|_=>false)=true
    rw[e]
   rw[this]at h1;cases h1
section
variable[Kc]{mg:Str->Option Value}{E:XK}{k:Nat}{te:TE}{e:EM}
def zc6{tl th:TO}{ml mh:OM}(hN:zUL Kc.K=true)(A:DE mg E te e k)(B:DO mg E tl ml)(C:DO mg E th mh):DE mg E (tSl (rSlU Kc.K) te tl th) (Mi.eSlN e ml mh) 1:=by
 intro G H σ ρ Q s w p;refine(zBE A).step errE s w p fun d v G1 H1 S _ fr o p1=>?_
 refine B.step (errE.from fr.ext) fr.ext.in' (w.mono fr.ext.g) p1 fun lo H2 _ s2 p2=>?_
 have x2:=fr.ext.trans (Ext.same fr.ext.in' s2);refine C.step (errE.from x2) x2.in' (w.mono fr.ext.g) p2 fun hi H3 _ s3 p3=>?_
 have x3:=x2.trans (Ext.same x2.in' s3);have p4:=PostE.from p3 x3;cases d with
 |scr ns=>
  obtain⟨a,rfl,ha|ha⟩:=o
  ·exact⟨ns.map V.int,x3.in'.seq ha,fun q hq=>PostE.lst p4 (Ext.refl x3.in') (zOU (zCX ns) lo hi) hq⟩
  ·exact(zb6 hN ha).elim
 |_=>exact p4.elim
end
end L3
namespace Mi
open PySem
section
variable(ρ:Rh)(r:Ro)(a:EM)(am:AM)
@[simp] theorem x_tL:tL a ρ=zA3 (a ρ) fun x=>match x with | .bl k=>okR k | .int i=>okR (i != 0) | .non=>okR false | .lst xs=>okR (!xs.isEmpty) | .tup xs=>okR (!xs.isEmpty)|_=>none:=rfl
@[simp] theorem x_eMl(f:List Dt->List Dt->Option Dt):eMl f a am ρ=zA3 (a ρ) fun x=>match x with | .lst xs=>zA3 (am ρ) fun ds=>optR (f xs ds)|_=>none:=rfl
@[simp] theorem x_iRv:iRv am ρ=zA3 (am ρ) fun vs=>match vs with|[.lst xs]=>okR xs.reverse|_=>none:=rfl
@[simp] theorem zcP(i j:Int):xorD (.int i) (.int j)=some (.int (qKc i j)):=rfl
@[simp] theorem v_rep(xs:List Dt)(k:Int):repD (.lst xs) (.int k)=@ite _ ((-4611686018427387904<=k/\k<4611686018427387904)/\xs.length*k.toNat<=100000) (qA1 _) (some (.lst (qA7 k.toNat xs).flatten)) none:=rfl
end
@[simp] theorem okR_inj{α:Type}{a b:α}:okR a=okR b↔a=b:=⟨fun h=>by cases h;rfl,fun h=>by rw[h]⟩
@[simp] theorem zHG(vs:List Nat)(it:IM)(tg:Tg)(b:SM)(r:Ro):sFor vs it tg b r=zA3 (it (frz (frzAt vs r))) fun ds=>forGo tg b ds (frzAt vs r):=rfl
@[simp] theorem zJK(it:IM)(i:Nat)(b:SM)(r:Ro):sForR it i b r=zA3 (it (full r)) fun ds=>forGo (.one i) b ds r:=rfl
@[simp] theorem zcN(e:EM)(ρ:Rh):iSq e ρ=zA3 (e ρ) fun d=>match d with | .lst xs=>okR xs | .tup xs=>okR xs | .scr ns=>okR (ns.map .int) | .str z=>okR (signsD z)|_=>none:=rfl
@[simp] theorem x_iEn(e:AM)(ρ:Rh):iEn e ρ=zA3 (e ρ) fun vs=>match vs with|[.lst xs]=>okR (enumD 0 xs)|_=>none:=rfl
@[simp] theorem x_iZi(e:AM)(ρ:Rh):iZi e ρ=zA3 (e ρ) fun vs=>match vs with|[.lst xs,.lst ys]=>okR (zipD xs ys)|_=>none:=rfl
def zKZ{e:AM}{ρ:Rh}{n:Nat}(h:e ρ=okR [.int n])(hn:n<=100000):iR1 e ρ=okR (nums 0 n):=by
 unfold iR1;rw[h,zA0];dsimp only;rw[if_pos (by lia)];simp
def zFY(n:Nat):nums 0 n=(qA9 n).map fun i:Nat=>Dt.int (i:Int):=by
 unfold nums;exact qCp fun i _=>by simp
def nxR(x:R Out)(P:Ro->Prop):Prop:=match x with
 |some (.ok (.nx r))=>P r
 |_=>False
@[simp] theorem x_nxR(r:Ro)(P:Ro->Prop):nxR (okR (.nx r)) P=P r:=rfl
def zD3{x:R Out}{P:Ro->Prop}(h:nxR x P):∃r',x=okR (.nx r')/\P r':=by
 unfold nxR at h;split at h
 ·exact⟨_,rfl,h⟩
 ·exact h.elim
def zD4{x:R Out}{P:Ro->Prop}{r:Ro}(h:x=okR (.nx r))(hp:P r):nxR x P:=by rw[h];exact hp
def zUM{i j:Int}(h:-18446744073709551616<i)(h':i<18446744073709551616):mulD (.int i) (.int j)=some (.int (i*j)):=by
 rw[zXH,if_pos (.inl (.inl ⟨h,h'⟩))]
def zS3{i j:Int}(h:-18446744073709551616<j)(h':j<18446744073709551616):mulD (.int i) (.int j)=some (.int (i*j)):=by
 rw[zXH,if_pos (.inl (.inr ⟨h,h'⟩))]
def zEW{ρ:Rh}{c:TM}{e:EM}{i:Nat}(g:Nat->Dt)(n:Nat)(hc:c=tYes)(hi:i=ρ.length)(h:∀k,k<n->e (ρ++[some (.int (k:Nat))])=okR (g k))(it:IM)(hit:it ρ=okR (nums 0 n))(hn:n<=100000):eComp it 1 (.one i) c e ρ=okR (.lst ((qA9 n).map g)):=by
 subst hc hi;unfold eComp;rw[hit,zA0,if_pos ⟨by simpa[nums]using hn,by simp[Tg.idx]⟩];rw[zPI (fun d=>match d with | .int k=>g k.toNat|_=>.non) _ [] fun d hd=>?_]
 ·rw[zA0,zFY,qC4];simp only[qDs]
  congr 2
 ·rw[zFY]at hd;obtain⟨k,hk,rfl⟩:=qBq.mp hd;refine⟨_,rfl,rfl,?_⟩
  have:zAR (ρ++qA7 1 none) [(ρ.length,Dt.int (k:Int))]=ρ++[some (.int (k:Nat))]:=by
   simp[zAR]
  rw[this];simpa using h k (by simpa using hk)
def zCB{ρ:Rh}{c:TM}{e:EM}{i:Nat}{β:Type}(en:β->Dt)(g:β->Dt)(ns:List β)(hc:c=tYes)(hi:i=ρ.length)(h:∀k,k∈ns->e (ρ++[some (en k)])=okR (g k))(it:IM)(hit:it ρ=okR (ns.map en))(hn:ns.length<=100000):eComp it 1 (.one i) c e ρ=okR (.lst (ns.map g)):=by
 subst hc hi;unfold eComp;rw[hit,zA0,if_pos ⟨by simpa using hn,by simp[Tg.idx]⟩]
 have:∀(ns:List β)(acc:List Dt),(∀k,k∈ns->e (ρ++[some (en k)])=okR (g k))->compGo ρ 1 (.one ρ.length) tYes e (ns.map en) acc=okR (acc++ns.map g):=by
  intro ns;induction ns with
  |nil=>intro acc _;simp[compGo]
  |cons d r ih=>
   intro acc h;rw[qAm,compGo];have e1:zAR (ρ++qA7 1 none) [(ρ.length,en d)]=ρ++[some (en d)]:=by simp[zAR]
   show zA3 (tYes _) _=_;simp only[zZI,zA0,if_true];show zA3 (e (zAR (ρ++qA7 1 none) [(ρ.length,en d)])) _=_;rw[e1,h d (by simp),zA0,ih _ fun k hk=>h k (by simp[hk])];simp
 rw[this ns [] h,zA0];simp
def zDU{a b:SM}{r:Ro}{X:R Out}(h:∀bb:SM,bb=b->nxR (a r) fun r1=>bb r1=X):sSeq a b r=X:=by
 obtain⟨r1,h1,h2⟩:=zD3 (h b rfl);unfold sSeq;rw[h1,zA0];exact h2
def zZX{a b:SM}{r:Ro}{P:Ro->Prop}(h:∀bb:SM,bb=b->nxR (a r) fun r1=>nxR (bb r1) P):nxR (sSeq a b r) P:=by
 obtain⟨r1,h1,h2⟩:=zD3 (h b rfl);unfold sSeq;rw[h1,zA0];exact h2
def zBA{P n:Nat}{b:SM}{ds:List Dt}{d:Dt}(h:ds.length=P)(hb:b (startO n ds)=okR (.rt d)):runF P n b ds=okR d:=by
 unfold runF;rw[if_pos h,hb];rfl
def zUI{j n:Nat}{b:SM}{r:Ro}{X:Ro->Prop}(Pv:Nat->Ro->Prop)(h:Pv 0 r)(hs:∀k,k<n->∀r,Pv k r->nxR (b (r.set j (some (.int (k:Nat),0)))) (Pv (k+1)))(hK:∀r',Pv n r'->X r'):nxR (forGo (.one j) b (nums 0 n) r) X:=by
 obtain⟨r',h1,h2⟩:∃r',forGo (.one j) b (nums 0 n) r=okR (.nx r')/\Pv n r':=by
  obtain⟨r',h1,h2⟩:=zIB (tg:=.one j) (b:=b) Pv (nums 0 n) 0 r h fun k d r hd hp=>by
   rw[zFY,qAd]at hd;cases e:(qA9 n)[k]? with
   |none=>rw[e]at hd;cases hd
   |some q=>
    rw[e]at hd;cases hd;obtain⟨h1,h2⟩:=qA2.mp e;rw[qEo]at h2;subst h2;rw[qCj]at hp;obtain⟨r',g1,g2⟩:=zD3 (hs k (by simpa using h1) r hp);exact⟨_,r',rfl,g1,by rw[qCj];exact g2⟩
  exact⟨r',h1,by simpa[nums]using h2⟩
 rw[h1];exact hK r' h2
def zNL{γ:Type}{j:Nat}{b:SM}{r:Ro}{X:Ro->Prop}(en:γ->Dt)(ns:List γ)(Pv:Nat->Ro->Prop)(h:Pv 0 r)(hs:∀k x,ns[k]?=some x->∀r,Pv k r->nxR (b (r.set j (some (en x,0)))) (Pv (k+1)))(hK:∀r',Pv ns.length r'->X r'):nxR (forGo (.one j) b (ns.map en) r) X:=by
 obtain⟨r',h1,h2⟩:=zIB (tg:=.one j) (b:=b) Pv (ns.map en) 0 r h fun k d r hd hp=>by
  rw[qAd]at hd;cases e:ns[k]? with
  |none=>rw[e]at hd;cases hd
  |some q=>
   rw[e]at hd;cases hd;rw[qCj]at hp;obtain⟨r',g1,g2⟩:=zD3 (hs k q e r hp);exact⟨_,r',rfl,g1,by rw[qCj];exact g2⟩
 rw[h1];exact hK r' (by simpa using h2)
def zLZ:∀(a b:List Char),a.map qId=b.map qId->a=b
 |[],[],_=>rfl
 |[],_::_,h=>by simp at h
 |_::_,[],h=>by simp at h
 |x::r,y::q,h=>by
  simp only[qAm,qFs]at h;rw[zLZ r q h.2];have:x=y:=Char.toNat_inj.mp h.1;rw[this]
@[simp] theorem str_inj(a b:String):(qJ2 a=qJ2 b)↔a=b:=by
 constructor
 ·intro h;rw[qJl,qJl]at h;simp only[Str.mk.injEq,List.toArray_inj]at h
  have:=zLZ _ _ (by simpa using h)
  exact String.toList_inj.mp this
 ·intro h;rw[h]
def zPC:∀(ds:List Dt)(n i:Nat)(d:Dt),(enumD n ds)[i]?=some d->∃e,ds[i]?=some e/\d=.tup [.int ((n+i:Nat):Int),e]
 |[],_,_,_,h=>by simp[enumD]at h
 |x::r,n,0,d,h=>by simp[enumD]at h;exact⟨x,by simp,by rw[<- h];rfl⟩
 |x::r,n,i+1,d,h=>by
  rw[enumD]at h;obtain⟨e,h1,h2⟩:=zPC r (n+1) i d (by simpa using h);exact⟨e,by simpa using h1,by rw[h2,show n+1+i=n+(i+1) by lia]⟩
def zHD:∀(ds:List Dt)(n:Nat),(enumD n ds).length=ds.length
 |[],_=>rfl
 |_::r,n=>by rw[enumD,qAn,qAn,zHD r]
def zNK{a b:Nat}{s:SM}{r:Ro}{X:Ro->Prop}(xs:List Dt)(Pv:Nat->Ro->Prop)(h:Pv 0 r)(hs:∀k x,xs[k]?=some x->∀r,Pv k r->nxR (s ((r.set a (some (.int (k:Nat),0))).set b (some (x,0)))) (Pv (k+1)))(hK:∀r',Pv xs.length r'->X r'):nxR (forGo (.tup [a,b]) s (enumD 0 xs) r) X:=by
 obtain⟨r',h1,h2⟩:=zIB (tg:=.tup [a,b]) (b:=s) Pv (enumD 0 xs) 0 r h fun k d r hd hp=>by
  obtain⟨e,g1,rfl⟩:=zPC xs 0 k d hd;rw[qCj]at hp;obtain⟨r',g2,g3⟩:=zD3 (hs k e g1 r hp);refine⟨_,r',rfl,?_,by rw[qCj];exact g3⟩;rw[qCj];exact g2
 rw[h1];exact hK r' (by simpa[zHD]using h2)
section
variable(ρ:Rh)(a:EM)(am:AM)(lo hi:OM)
@[simp] theorem zTO:eSl a lo hi ρ=zA3 (a ρ) fun x=>zA3 (lo ρ) fun l=>zA3 (hi ρ) fun h=>optR (slD x l h):=rfl
@[simp] theorem zXC:oNo ρ=okR none:=rfl
@[simp] theorem x_oE:oE a ρ=zA3 (a ρ) fun d=>match d with | .int i=>okR (some i)|_=>none:=rfl
@[simp] theorem zcO(f:Dt->List Dt->Option Dt):eMt f a am ρ=zA3 (a ρ) fun x=>if zP3 x=true then zA3 (am ρ) fun xs=>optR (f x xs)else none:=rfl
@[simp] theorem v_isStr(z:Str):zP3 (.str z)=true:=rfl
end
@[simp] theorem v_slL(xs:List Dt)(l h:Option Int):slD (.lst xs) l h=some (.lst (cutA xs l h)):=rfl
@[simp] theorem zXF(z:Str)(l h:Option Int):slD (.str z) l h=@ite _ (z.length<=100000) (qA1 _) (some (.str ⟨(cutA z.cps.toList l h).toArray⟩)) none:=rfl
@[simp] theorem zZM(z:Str)(i:Int):ixD (.str z) (.int i)=@ite _ (z.length<=100000) (qA1 _) ((itA z.cps.toList i).map fun c=>.str ⟨#[c]⟩) none:=rfl
@[simp] theorem v_lenSt(z:Str):lenD [.str z]=@ite _ (z.length<=100000) (qA1 _) (some (.int z.length)) none:=rfl
@[simp] theorem v_count1(z:Str)(c:Nat):countD (.str z) [.str ⟨#[c]⟩]=some (.int (z.cps.toList.count c:Nat)):=rfl
@[simp] theorem v_in1(ng:Bool)(z:Str)(c:Nat):inD ng (.str ⟨#[c]⟩) (.str z)=some (.bl (if ng=true then !decide (c∈z.cps.toList)else decide (c∈z.cps.toList))):=rfl
@[simp] theorem v_find1(z:Str)(c:Nat):findD (.str z) [.str ⟨#[c]⟩]=some (.int (match posC c z.cps.toList with|some i=>(i:Int)|none=>-1)):=rfl
def zG5{α:Type}(xs:List α)(k:Nat):cutA xs none (some (k:Int))=xs.take k:=by
 unfold cutA cutIx;simp only[qCi,qI4];rw[if_neg (by lia)]
 by_cases h:k<=xs.length
 ·rw[show min (k:Int).toNat xs.length=k by lia]
 ·rw[show min (k:Int).toNat xs.length=xs.length by lia,qF8,qBs (by lia)]
def zE9{α:Type}(xs:List α)(k:Nat):cutA xs (some (k:Int)) none=xs.drop k:=by
 unfold cutA cutIx;dsimp only;rw[if_neg (by lia)]
 by_cases h:k<=xs.length
 ·rw[show min (k:Int).toNat xs.length=k by lia];exact qBs (by simp)
 ·rw[show min (k:Int).toNat xs.length=xs.length by lia];simp
  lia
def zNA(a b:Str):(a++b).cps.toList=a.cps.toList++b.cps.toList:=by
 show(qNi (a.cps++b.cps)).cps.toList=_;simp
def zSB(z:Str):z.length=z.cps.toList.length:=by
 unfold qM0;simp
def zJA(l:List Nat):(qNi l.toArray).length=l.length:=by rw[zSB]
end Mi
namespace Mp
open Mi PySem
def sg{n:Nat}{e:EM}{b:SM}{X:R Out}(he:e (full r)=okR d)(hd:d.dep<=n)(h:b (r.set i (some (d,n)))=X):sSeq (sSet i n vs e) b r=X:=by
 rw[zJ1,zKY,he,zA0,if_pos hd,zA0];exact h
def sp{c:TM}{b:SM}{X:R Out}(hc:c (full r)=okR false)(h:b r=X):sSeq (sIf c a sNil) b r=X:=by
 rw[zJ1,zQM,hc,zA0,if_neg (by simp),zVX,zA0];exact h
def st{c:TM}{a b:SM}{X:R Out}(hc:c (full r)=okR true)(ha:a r=okR (.nx r'))(h:b r'=X):sSeq (sIf c a sNil) b r=X:=by
 rw[zJ1,zQM,hc,zA0,if_pos rfl,ha,zA0];exact h
def c2{m:FM}{e1 e2:EM}{X:R Dt}(h1:e1 ρ=okR d1)(h2:e2 ρ=okR d2)(h:m [d1,d2]=X):eCall m (aCons e1 (aCons e2 aNil)) ρ=X:=by
 simp only[zJL,zBS,zED,h1,h2,zA0];exact h
def c1{m:FM}{e1:EM}{X:R Dt}(h1:e1 ρ=okR d1)(h:m [d1]=X):eCall m (aCons e1 aNil) ρ=X:=by
 simp only[zJL,zBS,zED,h1,zA0];exact h
def c4{m:FM}{e1 e2 e3 e4:EM}{X:R Dt}(h1:e1 ρ=okR d1)(h2:e2 ρ=okR d2)(h3:e3 ρ=okR d3)(h4:e4 ρ=okR d4)(h:m [d1,d2,d3,d4]=X):eCall m (aCons e1 (aCons e2 (aCons e3 (aCons e4 aNil)))) ρ=X:=by
 simp only[zJL,zBS,zED,h1,h2,h3,h4,zA0];exact h
def b2{o:Dt->Dt->Option Dt}{e1 e2:EM}(h1:e1 ρ=okR d1)(h2:e2 ρ=okR d2)(h:o d1 d2=some d):eB o e1 e2 ρ=okR d:=by
 rw[x_eB,h1,zA0,h2,zA0,h];rfl
def bi1{o:List Dt->Option Dt}{e1:EM}(h1:e1 ρ=okR d1)(h:o [d1]=some d):eBi o (aCons e1 aNil) ρ=okR d:=by
 simp only[zXD,zBS,zED,h1,zA0,h];rfl
def el1{e1:EM}(h1:e1 ρ=okR d1):eLst (aCons e1 aNil) ρ=okR (.lst [d1]):=by simp[h1]
def tb1{e:EM}(h:e ρ=okR (.bl k)):tB e ρ=okR k:=by rw[x_tB,h,zA0]
def tm1{e:EM}(h:e ρ=okR (.bl k)):tM e ρ=okR k:=by rw[x_tM,h,zA0]
def tn1{t:TM}(h:t ρ=okR k):tNo t ρ=okR (!k):=by rw[zcM,h,zA0]
def to0{t t':TM}(h:t ρ=okR false)(h':t' ρ=okR k):Mi.tOr t t' ρ=okR k:=by rw[zZJ,h,zA0,if_neg (by simp),h']
def to1{t:TM}(h:t ρ=okR true):Mi.tOr t t' ρ=okR true:=by rw[zZJ,h,zA0,if_pos rfl]
def ta1{t t':TM}(h:t ρ=okR true)(h':t' ρ=okR k):tAn t t' ρ=okR k:=by rw[zZK,h,zA0,if_pos rfl,h']
def ta0{t:TM}(h:t ρ=okR false):tAn t t' ρ=okR false:=by rw[zZK,h,zA0,if_neg (by simp)]
def ss{n:Nat}{e:EM}(he:e (full r)=okR d)(hd:d.dep<=n):sSet i n vs e r=okR (.nx (r.set i (some (d,n)))):=by
 rw[zKY,he,zA0,if_pos hd]
def sr{L n:Nat}{e:EM}(he:e (full r)=okR d)(hd:d.dep<=n/\d.dep<=L):sRet L n vs e r=okR (.rt d):=by
 rw[zVW,he,zA0,if_pos hd]
def tl{k':Bool}{x:Option Dt}(h:x=some (.bl k))(e:k=k'):x=some (.bl k'):=e▸h
def bi2{o:List Dt->Option Dt}{e1 e2:EM}(h1:e1 ρ=okR d1)(h2:e2 ρ=okR d2)(h:o [d1,d2]=some d):eBi o (aCons e1 (aCons e2 aNil)) ρ=okR d:=by
 simp only[zXD,zBS,zED,h1,h2,zA0,h];rfl
def sl0{a b:EM}(h1:a ρ=okR x)(h2:b ρ=okR (.int i))(h:slD x none (some i)=some d):eSl a oNo (oE b) ρ=okR d:=by
 rw[zTO,h1,zA0,zXC,zA0,x_oE,h2,zA0,zA0,h];rfl
def sl1{a b:EM}(h1:a ρ=okR x)(h2:b ρ=okR (.int i))(h:slD x (some i) none=some d):eSl a (oE b) oNo ρ=okR d:=by
 rw[zTO,h1,zA0,x_oE,h2,zA0,zA0,zXC,zA0,h];rfl
def sl2{a b c:EM}(h1:a ρ=okR x)(h2:b ρ=okR (.int i))(h3:c ρ=okR (.int j))(h:slD x (some i) (some j)=some d):eSl a (oE b) (oE c) ρ=okR d:=by
 rw[zTO,h1,zA0,x_oE,h2,zA0,zA0,x_oE,h3,zA0,zA0,h];rfl
def sf{c:TM}(hc:c (full r)=okR false):sIf c a sNil r=okR (.nx r):=by
 rw[zQM,hc,zA0,if_neg (by simp),zVX]
def et2{e1 e2:EM}(h1:e1 ρ=okR d1)(h2:e2 ρ=okR d2):eTup (aCons e1 (aCons e2 aNil)) ρ=okR (.tup [d1,d2]):=by simp[h1,h2]
def mt1{f:Dt->List Dt->Option Dt}{a e:EM}(h1:a ρ=okR x)(hs:zP3 x=true)(h2:e ρ=okR y)(h:f x [y]=some d):eMt f a (aCons e aNil) ρ=okR d:=by
 rw[zcO,h1,zA0,if_pos hs,zBS,h2,zA0,zED,zA0,zA0,h];rfl
def eqi{e1 e2:EM}{k:Bool}(h1:e1 ρ=okR (.int a))(h2:e2 ρ=okR (.int b))(h:decide (a=b)=k):tB (eB eqD e1 e2) ρ=okR k:=by
 refine tb1 (b2 h1 h2 ?_);rw[<- h];simp[Dt.eq];rfl
def nei{e1 e2:EM}{k:Bool}(h1:e1 ρ=okR (.int a))(h2:e2 ρ=okR (.int b))(h:(!decide (a=b))=k):tB (eB neD e1 e2) ρ=okR k:=by
 refine tb1 (b2 h1 h2 ?_);rw[<- h];simp[Dt.eq];rfl
def sx{c:TM}{a:SM}(hc:c (full r)=okR true)(ha:a r=okR (.rt d)):sSeq (sIf c a sNil) b r=okR (.rt d):=by
 rw[zJ1,zQM,hc,zA0,if_pos rfl,ha,zA0]
def mdi{i j k:Int}(h:0<j)(e:i%j=k):modD (.int i) (.int j)=some (.int k):=by rw[<- e];exact if_pos h
def dvi{j:Int}(h:0<j/\j<1000000000000000000000000):divD (.int i) (.int j)=some (.int (i/j)):=@if_pos _ (qA1 _) h _ _ _
def c3{m:FM}{e1 e2 e3:EM}{X:R Dt}(h1:e1 ρ=okR d1)(h2:e2 ρ=okR d2)(h3:e3 ρ=okR d3)(h:m [d1,d2,d3]=X):eCall m (aCons e1 (aCons e2 (aCons e3 aNil))) ρ=X:=by
 simp only[zJL,zBS,zED,h1,h2,h3,zA0];exact h
def ned{e1 e2:EM}{b k:Bool}(h1:e1 ρ=okR x)(h2:e2 ρ=okR y)(d1:x.dep<=40)(d2:y.dep<=40)(h:Dt.eq x y=b)(hk:(!b)=k):tB (eB neD e1 e2) ρ=okR k:=by
 refine tb1 (b2 h1 h2 ?_);unfold neD;rw[if_pos ⟨d1,d2⟩,h,hk]
def an1{e1 e2:EM}(h1:e1 ρ=okR (.bl a))(h2:e2 ρ=okR (.bl b)):eAnd e1 e2 ρ=okR (.bl (a&&b)):=by cases a<;>simp[h1,h2]
def sw{s t:SM}{X:R Out}(h:s r=okR (.nx r'))(h2:t r'=X):sSeq s t r=X:=by rw[zJ1,h,zA0];exact h2
def if1{c:TM}{a:EM}{X:R Dt}(hc:c ρ=okR true)(h:a ρ=X):eIf c a b ρ=X:=by unfold eIf;rw[hc,zA0,if_pos rfl];exact h
def if0{c:TM}{b:EM}{X:R Dt}(hc:c ρ=okR false)(h:b ρ=X):eIf c a b ρ=X:=by unfold eIf;rw[hc,zA0,if_neg qAj];exact h
def nsw{s t:SM}(h:s r=okR (.nx r'))(h2:nxR (t r') P):nxR (sSeq s t r) P:=by rw[zJ1,h,zA0];exact h2
def v1{i:Nat}{ρ:Rh}(h:ρ[i]?=some (some d)):eV i ρ=okR d:=by rw[x_eV,h]
def al0{e:EM}(h:e ρ=okR d):aCons e aNil ρ=okR [d]:=by rw[zBS,h];rfl
def adi{a b c:Int}(h:a+b=c):addD (.int a) (.int b)=some (.int c):=by rw[<- h];rfl
def sbi{a b c:Int}(h:a-b=c):subD (.int a) (.int b)=some (.int c):=by rw[<- h];rfl
def k1{d d':Dt}(h:d=d'):eC d ρ=okR d':=by rw[<- h];rfl
def cmi{p:Int->Int->Bool}{k:Bool}(h:p a b=k):cmpD p (.int a) (.int b)=some (.bl k):=by rw[<- h];rfl
def rowD(r:List Int):Dt:=.lst (r.map .int)
def mat(A:List (List Int)):Dt:=.lst (A.map rowD)
def tab(n:Nat)(f:Nat->Nat->Int):List (List Int):=(qA9 n).map fun i=>(qA9 n).map fun j=>f i j
def Bits(n:Nat)(f:Nat->Nat->Int):Prop:=∀i j,i<n->j<n->f i j=0\/f i j=1
def Sym(n:Nat)(f:Nat->Nat->Int):Prop:=∀i j,i<n->j<n->f i j=f j i
@[simp] theorem zCM(r:List Int):(rowD r).dep=1:=by simp[rowD]
def ixR{n:Nat}{j:Nat}(h:j<n):ixD (rowD ((qA9 n).map g)) (.int (j:Int))=some (.int (g j)):=by
 refine zCD rfl ?_;simp[h]
@[simp] theorem lenR(r:List Int):lenD [rowD r]=some (.int r.length):=by
 show some (Dt.int ((r.map Dt.int).length:Int))=_;rw[qAg]
@[simp] theorem listR(r:List Int):listD [rowD r]=some (rowD r):=rfl
@[simp] theorem lenM(A:List (List Int)):lenD [mat A]=some (.int A.length):=by
 show some (Dt.int ((A.map rowD).length:Int))=_;rw[qAg]
def zIG:∀A:List (List Int),Dt.depL (A.map rowD)<=1
 |[]=>by simp
 |r::A=>by
  have:=zIG A;rw[qAm,zGE,zCM];lia
def zBR(A:List (List Int)):(mat A).dep<=2:=by
 have:=zIG A;unfold mat;rw[v_dl];lia
def zPB:∀A B:List (List Int),Dt.eqL (A.map rowD) (B.map rowD)=decide (A=B)
 |[],[]=>by simp[Dt.eqL]
 |[],_::_=>by simp[Dt.eqL]
 |_::_,[]=>by simp[Dt.eqL]
 |r::A,q::B=>by
  rw[qAm,qAm,Dt.eqL,zPB A B];unfold rowD;rw[v_e4,zHC];simp
def zWU(A B:List (List Int)):Dt.eq (mat A) (mat B)=decide (A=B):=by
 unfold mat;rw[v_e4,zPB]
def zEF(n:Nat)(f:Nat->Nat->Int):(tab n f).length=n:=by simp[tab]
def zHM{n:Nat}{i:Nat}(h:i<n):(tab n f)[i]?=some ((qA9 n).map fun j=>f i j):=by
 simp[tab,h]
def zbK{n:Nat}{i:Nat}(h:i<n):itA ((tab n f).map rowD) (i:Int)=some (rowD ((qA9 n).map fun j=>f i j)):=by
 refine zCD rfl ?_;rw[qAd,zHM h];rfl
def ixM{n:Nat}{i:Nat}(h:i<n):ixD (mat (tab n f)) (.int (i:Int))=some (rowD ((qA9 n).map fun j=>f i j)):=zbK h
def zN4{n:Nat}{f g:Nat->Nat->Int}(h:∀i j,i<n->j<n->f i j=g i j):tab n f=tab n g:=by
 unfold tab;refine qCp fun i hi=>qCp fun j hj=>h i j (by simpa using hi) (by simpa using hj)
def zVO{ρ:Rh}{e:EM}{it it2:IM}{i j n:Nat}(f:Nat->Nat->Int)(hi:i=ρ.length)(hj:j=ρ.length+1)(hn:n<=1000)(h1:it ρ=okR (nums 0 n))(h2:∀a,it2 (ρ++[some (.int (a:Nat))])=okR (nums 0 n))
  (h:∀a b,a<n->b<n->e (ρ++[some (.int (a:Nat))]++[some (.int (b:Nat))])=okR (.int (f a b))):eComp it 1 (.one i) tYes (eComp it2 1 (.one j) tYes e) ρ=okR (mat (tab n f)):=by
 rw[zEW (fun a=>rowD ((qA9 n).map fun b=>f a b)) n rfl hi (fun a ha=>?_) it h1 (by lia)]
 ·unfold mat tab;rw[qC4];rfl
 ·rw[zEW (fun b=>.int (f a b)) n rfl (by rw[hj];simp) (fun b hb=>h a b ha hb) it2 (h2 a) (by lia)];unfold rowD;rw[qC4];rfl
def zVN(A:List (List Int))(h:A.length<=1000):zCT [mat A]=okR (mat A):=by
 unfold zCT zIO;have hd:=zIG A;have hc:eComp (iSq (eV 0)) 1 (.one 1) Mi.tYes (eBi listD (aCons (eV 1) aNil)) [some (mat A)]=okR (mat A):=
  zCB rowD rowD A rfl rfl (fun r _=>by simp[rowD]) _ (by simp[mat]) (by lia)
 have hm:(mat A).dep<=2:=zBR A;simp[hc,hm]
def zSG{r:Ro}{i:Nat}{l:Nat}{a b:Nat}{e0 e1 e2:EM}(h:r[i]?=some (some (mat (tab n f),l+2)))(h0:e0 (full r)=okR (.int (a:Nat)))(h1:e1 (full r)=okR (.int (b:Nat)))(h2:e2 (full r)=okR (.int v))(ha:a<n)(hb:b<n) :
  sItem2 i m e0 e1 e2 r=okR (.nx (r.set i (some (mat (tab n fun x y=>if x=a/\y=b then v else f x y),l+2)))):=by
 have g1:((tab n f).map rowD)[a]?=some (.lst (((qA9 n).map fun j=>f a j).map .int)):=by
  rw[qAd,zHM ha];rfl
 unfold sItem2;rw[h2,zA0,h];show zA3 (e0 (full r)) _=_;rw[h0,zA0];dsimp only;rw[zM5 (by lia) (by simp[tab];lia)];dsimp only;rw[qBc,g1];dsimp only;rw[h1,zA0];dsimp only;rw[zM5 (by lia) (by simp;lia)];dsimp only;rw[if_pos ⟨qAv _,qAv _⟩,qBc]
 congr 5;unfold mat;congr 1;apply qE2;intro x;rw[qEz];by_cases hx:a=x
 ·subst hx;rw[if_pos rfl,if_pos (by simp[tab];lia),qAd,zHM ha];show some _=some _
  congr 1;unfold rowD;congr 1;apply qE2;intro y;rw[qEz];by_cases hy:b=y
  ·subst hy;simp[hb]
  ·rw[if_neg hy]
   by_cases hyn:y<n
   ·simp[hyn,show ¬y=b from fun z=>hy z.symm]
   ·simp[hyn]
 ·rw[if_neg hx,qAd,qAd]
  by_cases hxn:x<n
  ·rw[zHM hxn,zHM hxn];simp[show ¬x=a from fun z=>hx z.symm]
  ·have:(tab n f)[x]?=none:=by simp[tab];lia
   have h':(tab n fun x y=>if x=a/\y=b then v else f x y)[x]?=none:=by simp[tab];lia
   rw[this,h']
def Bit(x:Int):Prop:=x=0\/x=1
def RowN(n:Nat)(r:List Int):Prop:=r.length=n/\∀x∈r,Bit x
def sumN(n:Nat)(f:Nat->Int):Int:=((qA9 n).map f).sum
def zUH(n:Nat)(g:Nat->Int)(hn:n<=10):zDW [rowD ((qA9 n).map g)]=okR (.lst (((qA9 n).filter fun k=>decide (g k=1)).map fun k:Nat=>Dt.int (k:Int))):=by
 unfold zDW zMT;have hc:eComp (iR1 (aCons (eBi lenD (aCons (eV 0) aNil)) aNil)) 1 (.one 1) (tB (eB eqD (eB ixD (eV 0) (eV 1)) (eC (.int 1)))) (eV 1) [some (rowD ((qA9 n).map g))]=okR (.lst (((qA9 n).filter fun k=>decide (g k=1)).map fun k:Nat=>Dt.int (k:Int))):=by
  unfold eComp;rw[zKZ (n:=n) (by simp) (by lia),zA0,if_pos ⟨by simp[nums];lia,by simp[Tg.idx]⟩,zFY];have go:∀(l:List Nat)(acc:List Dt),(∀k∈l,k<n)->compGo [some (rowD ((qA9 n).map g))] 1 (.one 1) (tB (eB eqD (eB ixD (eV 0) (eV 1)) (eC (.int 1)))) (eV 1) (l.map fun k:Nat=>Dt.int (k:Int)) acc=okR (acc++(l.filter fun k=>decide (g k=1)).map fun k:Nat=>Dt.int (k:Int)):=by
   intro l;induction l with
   |nil=>intro acc _;simp[compGo]
   |cons a r ih=>
    intro acc hl;have i1:=ixR (g:=g) (hl a (by simp));have ih':=fun acc=>ih acc fun k hk=>hl k (by simp[hk])
    rw[qAm,compGo];by_cases h:g a=1
    ·simp[zAU,zAR,i1,h,ih']
    ·simp[zAU,zAR,i1,h,ih']
  rw[go _ _ fun k hk=>by simpa using hk,zA0];simp
 have hd:Dt.depL (((qA9 n).filter fun k=>decide (g k=1)).map fun k:Nat=>Dt.int (k:Int))=0:=by
  have:=zEM (((qA9 n).filter fun k=>decide (g k=1)).map fun k:Nat=>(k:Int))
  rw[qC4]at this;exact this
 simp[hc,hd]
def zYH(n:Nat)(f:Nat->Nat->Int):mat (tab n f)=.lst ((qA9 n).map fun i=>rowD ((qA9 n).map fun j=>f i j)):=by
 unfold mat tab;rw[qC4];rfl
def zYZ{ds:List Dt}(h:∀d∈ds,d.dep=0):Dt.depL ds=0:=by
 induction ds with
 |nil=>simp
 |cons a r ih=>rw[zGE,h a (by simp),ih fun d hd=>h d (by simp[hd])];rfl
def numL(ks:List Nat):List Int:=ks.map fun k:Nat=>(k:Int)
def numD(ks:List Nat):rowD (numL ks)=.lst (ks.map fun k:Nat=>Dt.int (k:Int)):=by
 unfold rowD numL;rw[qC4];rfl
def zLY{α:Type}(ks:List Nat)(g:Nat->α):ks.map g=(qA9 ks.length).map fun a=>g (ks.getD a 0):=by
 apply qFa
 ·simp
 ·intro i h1 h2;simp at h1;simp[h1]
def sub(ks:List Nat)(f:Nat->Nat->Int):Nat->Nat->Int:=fun a b=>f (ks.getD a 0) (ks.getD b 0)
def zUG(n:Nat)(f:Nat->Nat->Int)(ks:List Nat)(hk:∀k∈ks,k<n)(hz:ks.length<=1000):zDG [mat (tab n f),rowD (numL ks)]=okR (mat (tab ks.length (sub ks f))):=by
 have hm:mat (tab ks.length (sub ks f))=.lst (ks.map fun i=>rowD (ks.map fun j=>f i j)):=by
  rw[zYH,zLY ks fun i=>rowD (ks.map fun j=>f i j)]
  congr 1;refine qCp fun a ha=>?_
  rw[zLY ks fun j=>f (ks.getD a 0) j];rfl
 unfold zDG zIM;have hc:eComp (iSq (eV 1)) 1 (.one 2) Mi.tYes (eComp (iSq (eV 1)) 1 (.one 3) Mi.tYes (eB ixD (eB ixD (eV 0) (eV 2)) (eV 3))) [some (mat (tab n f)),some (rowD (numL ks))]=okR (mat (tab ks.length (sub ks f))):=by
  rw[hm];refine zCB (fun k:Nat=>Dt.int (k:Int)) _ ks rfl rfl (fun i hi=>?_) _ (by simp[numD]) (by lia);have h2:=zCB (ρ:=[some (mat (tab n f)),some (rowD (numL ks))]++[some (Dt.int (i:Int))]) (c:=tYes) (i:=3) (e:=eB ixD (eB ixD (eV 0) (eV 2)) (eV 3)) (fun k:Nat=>Dt.int (k:Int)) (fun j=>Dt.int (f i j)) ks rfl rfl (fun j hj=>by
   have e1:=ixM (f:=f) (hk i hi);have e2:=ixR (g:=fun j=>f i j) (hk j hj);simp[e1,e2]) (iSq (eV 1)) (by simp[numD]) (by lia)
  rw[h2];unfold rowD;rw[qC4];rfl
 have hd:=zBR (tab ks.length (sub ks f));simp[hc,hd]
def sgn(c:Nat):Dt:=.str ⟨#[c]⟩
def zV8(cs:List Nat):∀d∈cs.map sgn,d.dep=0:=by
 intro d hd;obtain⟨c,_,rfl⟩:=qBq.mp hd;rfl
@[simp] theorem depL_sgn(cs:List Nat):Dt.depL (cs.map sgn)=0:=zYZ (zV8 cs)
def zOK:∀cs:List Nat,strsD (cs.map sgn)=some (cs.map fun c=>⟨#[c]⟩)
 |[]=>rfl
 |c::r=>by
  show(strsD (r.map sgn)).map _=_;rw[zOK r];rfl
def zG6:(qJ2 "").cps.toList=[]:=by
 rw[qJl];rfl
def zP1:∀zs:List Str,(qKx (qJ2 "") zs).cps.toList=(zs.map (·.cps.toList)).flatten
 |[]=>rfl
 |[x]=>by simp[qKx]
 |x::y::r=>by
  rw[qKx,zNA,zNA,zG6,zP1 (y::r)]
  ·simp
  ·simp
def zTT(cs:List Nat):((cs.map fun c=>(⟨#[c]⟩:Str)).map (·.length)).sum=cs.length:=by
 induction cs with
 |nil=>rfl
 |cons c r ih=>simp only[qAm,List.sum_cons,ih,qAn];show 1+r.length=_;lia
def zSA:(qJ2 "").length=0:=by rw[zSB,zG6];rfl
def zUX(cs:List Nat)(hz:cs.length<=100000):joinD (.str (qJ2 "")) [.lst (cs.map sgn)]=some (.str ⟨cs.toArray⟩):=by
 show(match strsD (cs.map sgn)with|some zs=>_|none=>none)=_
 rw[zOK];dsimp only;rw[if_pos (by rw[zTT,zSA];lia)]
 congr 2;have h:=zP1 (cs.map fun c=>(⟨#[c]⟩:Str));have e:(List.map (·.cps.toList) (cs.map fun c=>(⟨#[c]⟩:Str))).flatten=cs:=by
  rw[qC4];clear h hz;induction cs with
  |nil=>rfl
  |cons c r ih=>simpa using ih
 rw[e]at h;generalize qKx (qJ2 "") (cs.map fun c=>(⟨#[c]⟩:Str))=z at h ⊢
 obtain⟨a⟩:=z;simp at h;rw[<- h]
def zFS{α:Type}:∀(l:List α){i:Nat}(h:i<l.length),l.Perm (l[i]::l.eraseIdx i)
 |a::r,0,h=>by simp
 |a::r,i+1,h=>by
  have:=zFS r (i:=i) (by simpa using h)
  simp only[qFd,qD0];exact(this.cons a).trans (qDm _ _ _)
def zZD:(qJ2 "abcdefghijklmnopqrstuvwxyz").cps.toList=(qA9 26).map (97 + ·):=by
 rw[qJl];decide
def zM6{r:Ro}{i l a:Nat}{e1 e2:EM}(h:r[i]?=some (some (rowD xs,l+1)))(h2:e2 (full r)=okR (.int v))(h1:e1 (full r)=okR (.int (a:Nat)))(ha:a<xs.length):sItem i m e1 e2 r=okR (.nx (r.set i (some (rowD (xs.set a v),l+1)))):=by
 unfold sItem;rw[h2,zA0,h];show zA3 (e1 (full r)) _=_;rw[h1,zA0];dsimp only;rw[zM5 (by lia) (by simp;lia)];dsimp only;rw[if_pos ⟨qAv _,qAv _⟩,qBc];unfold rowD;rw[qFq]
def itr(f:Nat->Nat):Nat->Nat->Nat
 |0,x=>x
 |k+1,x=>f (itr f k x)
def jn(cs:List Nat)(e:Nat):Nat:=e/4*4+(e%4^^^(cs.getD (e/4) 0+1))
def nt(ts:List Nat)(e:Nat):Nat:=ts.getD e 0
structure NetN(ts:List Nat)(M:Nat):Prop where
 len:ts.length=M
 lt:∀e,e<M->nt ts e<M
 inv:∀e,e<M->nt ts (nt ts e)=e
def stp(ts cs:List Nat)(e:Nat):Nat:=nt ts (jn cs e)
def rowsD(R:List (List Nat)):Dt:=.lst (R.map fun l=>rowD (numL l))
def zO1{ρ:Rh}{e:EM}{c:TM}{i j:Nat}(xs:List Dt)(g:Nat->Dt)(f:Nat->Bool)(hi:i=ρ.length)(hj:j=ρ.length+1)(it:IM)(hit:it ρ=okR (enumD 0 xs))(hn:xs.length<=100000)(hc:∀k x,xs[k]?=some x->c (ρ++[some (.int (k:Nat)),some x])=okR (f k))(h:∀k x,xs[k]?=some x->e (ρ++[some (.int (k:Nat)),some x])=okR (g k)):eComp it 2 (.tup [i,j]) c e ρ=okR (.lst (((qA9 xs.length).filter f).map g)):=by
 subst hi hj;unfold eComp;rw[hit,zA0,if_pos ⟨by rw[zHD];exact hn,by simp[Tg.idx]⟩];have go:∀(m k:Nat)(acc:List Dt),k+m=xs.length->compGo ρ 2 (.tup [ρ.length,ρ.length+1]) c e (enumD k (xs.drop k)) acc=okR (acc++((qG0 k m).filter f).map g):=by
  intro m;induction m with
  |zero=>
   intro k acc hk;rw[qFf (by lia)];simp[enumD,compGo]
  |succ m ih=>
   intro k acc hk;have hx:xs[k]?=some xs[k]:=qA6 (by lia);rw[qB0 (by lia),enumD,compGo];have es:zAR (ρ++qA7 2 none) [(ρ.length,.int (k:Nat)),(ρ.length+1,xs[k])]=ρ++[some (.int (k:Nat)),some xs[k]]:=by
    simp[zAR]
   show zA3 (c (zAR (ρ++qA7 2 none) [(ρ.length,.int (k:Nat)),(ρ.length+1,xs[k])])) _=_;rw[es,hc k _ hx,zA0,qGw];cases hf:f k with
   |true=>
    rw[if_pos rfl];show zA3 (e (zAR (ρ++qA7 2 none) [(ρ.length,.int (k:Nat)),(ρ.length+1,xs[k])])) _=_;rw[es,h k _ hx,zA0,ih (k+1) _ (by lia),qDw hf];simp
   |false=>
    rw[if_neg (by simp),ih (k+1) _ (by lia),qD2 (by simp[hf])]
 have:=go xs.length 0 [] (by lia)
 rw[qCi]at this;rw[this,zA0,qFu];simp
def wrd(ls row:List Nat):List Nat:=row.map fun p=>ls.getD p 0
def zK5{c:Nat}:∀{l:List Nat},c∈l->posC c l=some (l.idxOf c)
 |a::r,h=>by
  show(if a=c then some 0 else(posC c r).map (·+1))=_
  by_cases z:a=c
  ·subst z;simp
  ·have:=zK5 (l:=r) ((qAb.mp h).elim (fun y=>absurd y.symm z) fun y=>y)
   rw[if_neg z,this,List.idxOf_cons,show(a==c)=false by simpa using z];rfl
def zV9{c:Nat}{cs:List Nat}(h:c∈cs):findD (.str ⟨cs.toArray⟩) [sgn c]=some (.int (cs.idxOf c:Nat)):=by
 show some (Dt.int (match posC c cs with|some i=>(i:Int)|none=>-1))=_;rw[zK5 h]
def zM4{cs:List Nat}{k:Nat}(h:k<cs.length)(hz:cs.length<=1000):ixD (.str ⟨cs.toArray⟩) (.int (k:Int))=some (sgn (cs.getD k 0)):=by
 show(@ite _ ((qNi cs.toArray).length<=100000) (qA1 _) ((itA cs (k:Int)).map fun c=>Dt.str ⟨#[c]⟩) none)=_
 rw[if_pos (by rw[zJA];lia),zCD (j:=k) (v:=cs.getD k 0) rfl (by rw[qA3,qA6 h];rfl)];rfl
def Apart(ls row:List Nat):Prop:=∀x∈row,∀y∈row,ls.getD x 0=ls.getD y 0->x=y
def zET{cs:List Nat}(h:cs.length<=1000):lenD [.str ⟨cs.toArray⟩]=some (.int (cs.length:Int)):=by
 have:=zJA cs;simp[lenD,this]
 try lia
structure Twice(n:Nat)(row:List Nat):Prop where
 len:row.length=2*n
 cnt:∀v,row.count v=if v<n then 2 else 0
section
variable{n:Nat}{row:List Nat}(t:Twice n row)
include t
end
def addB:List Int->List Int->List Int
 |a::r,b::s=>(a+b)%2::addB r s
 |_,_=>[]
def dot:List Int->List Int->Int
 |a::r,b::x=>a*b+dot r x
 |_,_=>0
def Ker(A:List (List Int))(x:List Int):Prop:=∀r∈A,dot r x%2=0
def ent(A:List (List Int))(i k:Nat):Int:=(A.getD i []).getD k 0
theorem zP6{α:Type}{l:List α}{d:α}{i:Nat}(h:i<l.length):l.getD i d∈l:=by
 rw[qA3,qA6 h];simp
def oth(A:List (List Int))(c:Nat)(lead:List Int):List (List Int):=A.map fun r=>if r.getD c 0=1 then addB r lead else r
section
variable{A:List (List Int)}{c t m:Nat}(hm:∀r∈A,RowN m r)(ht:t<A.length)(hc:c<=t)(hl:ent A t c=1)(hcm:c<m)
include hm ht in
include hm ht hc in
include ht hc in
include hm ht hc in
end
def zdM(A:List (List Int))(c:Nat):Prop:=∀i k,i<A.length->k<c->ent A i k=if i=k then 1 else 0
def zXS{n:Nat}{e:EM}{P:Ro->Prop}(h1:e (full r)=okR d)(h2:e (frz (frzAt vs r))=okR d)(p1:P (r.set i (some (d,n))))(p2:P ((frzAt vs r).set i (some (d,n)))):nxR (sSet i n vs e r) P:=by
 unfold sSet;rw[h1,zA0];split
 ·exact p1
 ·rw[h2,zA0];exact p2
def zEA{ρ:Rh}{c:TM}{e:EM}{i:Nat}{β:Type}(en:β->Dt)(g:β->Dt)(f:β->Bool)(ns:List β)(hi:i=ρ.length)(hc:∀k,k∈ns->c (ρ++[some (en k)])=okR (f k))(h:∀k,k∈ns->f k=true->e (ρ++[some (en k)])=okR (g k))(it:IM)(hit:it ρ=okR (ns.map en))(hn:ns.length<=100000):eComp it 1 (.one i) c e ρ=okR (.lst ((ns.filter f).map g)):=by
 subst hi;unfold eComp;rw[hit,zA0,if_pos ⟨by simpa using hn,by simp[Tg.idx]⟩];have go:∀(l:List β)(acc:List Dt),(∀k∈l,k∈ns)->compGo ρ 1 (.one ρ.length) c e (l.map en) acc=okR (acc++(l.filter f).map g):=by
  intro l;induction l with
  |nil=>intro acc _;simp[compGo]
  |cons a r ih=>
   intro acc hl;have h1:=hc a (hl a (by simp));have h2:=h a (hl a (by simp));have ih':=fun acc=>ih acc fun k hk=>hl k (by simp[hk])
   have es:zAR (ρ++qA7 1 none) [(ρ.length,en a)]=ρ++[some (en a)]:=by
    simp[zAR]
   rw[qAm,compGo];show zA3 (c (zAR (ρ++qA7 1 none) [(ρ.length,en a)])) _=_;rw[es,h1,zA0];cases hf:f a with
   |true=>
    rw[if_pos rfl];rw[h2 hf,zA0,ih',qDw hf];simp
   |false=>
    rw[if_neg (by simp),ih',qD2 (by simp[hf])]
 rw[go _ _ fun k hk=>hk,zA0];simp
def zcQ(n i:Nat):List Int:=(qA9 n).map fun j=>if j=i then 1 else 0
def aug(n:Nat)(T:List (List Int)):List (List Int):=(qA9 n).map fun i=>T.getD i []++zcQ n i
structure Un(n:Nat)(T A:List (List Int))(c:Nat):Prop where
 len:A.length=n
 rows:∀r∈A,RowN (n+n) r
 unit:zdM A c
 ker:∀x,(∀y∈x,Bit y)->(Ker A x↔Ker (aug n T) x)
def zOM{z:Str}{l:List Nat}(h:z.cps.toList=l):z=⟨l.toArray⟩:=by
 cases z with
 |mk a=>subst h;simp
def add_str{a b:List Nat}(h:a.length+b.length<=1000):addD (.str ⟨a.toArray⟩) (.str ⟨b.toArray⟩)=some (.str ⟨(a++b).toArray⟩):=by
 rw[zQU,if_pos (by rw[zJA,zJA];lia)]
 congr 2;exact zOM (by rw[zNA])
def zDL{a:List Nat}(l h:Option Int)(hz:a.length<=1000):slD (.str ⟨a.toArray⟩) l h=some (.str ⟨(cutA a l h).toArray⟩):=by
 show(@ite _ ((qNi a.toArray).length<=100000) (qA1 _) (some (Dt.str ⟨(cutA a l h).toArray⟩)) none)=_;rw[if_pos (by rw[zJA];lia)]
def zTJ:(qJ2 "abcdefghijklmnopqrstuvwxyz")=⟨((qA9 26).map (97 + ·)).toArray⟩:=zOM zZD
def zYV{n k:Nat}(h:k<n):((qA9 n).map (97 + ·)).getD k 0=97+k:=by
 rw[qA3,qAd,qDo h];rfl
def zUT{k:Nat}(h:k<26):ixD (.str "abcdefghijklmnopqrstuvwxyz") (.int (k:Int))=some (sgn (97+k)):=by
 rw[zTJ,zM4 (by simpa using h) (by simp),zYV h]
def zRG(cs:List Nat)(hz:cs.length<=1000):revD (.str ⟨cs.toArray⟩) (.int (-1))=some (.str ⟨cs.reverse.toArray⟩):=by
 show(@ite _ ((-1:Int) = -1/\(qNi cs.toArray).length<=100000) (qA1 _) (some (Dt.str ⟨cs.reverse.toArray⟩)) none)=_;rw[if_pos ⟨rfl,by rw[zJA];lia⟩]
def zT5{cl:List Int}{j:Nat}{i:Int}(hi:i=(j:Int))(h:j<cl.length):ixD (.lst (cl.map Dt.int)) (.int i)=some (.int (cl.getD j 0)):=by
 rw[zFK];exact zCD hi (by rw[qAd,qA6 h,qA3,qA6 h];rfl)
def zOV(x p:Nat)(ws:List Nat):(ws.take p++[x]++ws.drop p).Perm (x::ws):=by
 rw[qB3];refine(List.perm_middle (l₁:=ws.take p) (l₂:=ws.drop p) (a:=x)).trans ?_;rw[qE8]
def ltr(q st i:Nat):Nat:=97+(q+st*i)%26
def zS8:∀st,st∈[1,3,5,7,9,11]->∀r,r<26->∀i,i<10->∀j,j<10->(r+st*i)%26=(r+st*j)%26->i=j:=by decide +kernel
def zS7{st n:Nat}(hs:st∈[1,3,5,7,9,11])(hn:n<=10):((qA9 n).map (ltr q st)).Nodup:=by
 rw[qBl,qE3];refine qHx (R:=(·≠·)) (fun{i j} hi hj hne e=>hne ?_) List.nodup_range;have hi':=qCw.mp hi;have hj':=qCw.mp hj;have e':(q+st*i)%26=(q+st*j)%26:=by unfold ltr at e;lia
 exact zS8 st hs (q%26) (qGm _ (by decide)) i (by lia) j (by lia) (by rw[qH4,qH4];exact e')
def zR4(z:Int)(h0:0<=z)(h6:z<6):∃st:Nat,st∈[1,3,5,7,9,11]/\ixD (.lst [.int 1,.int 3,.int 5,.int 7,.int 9,.int 11]) (.int z)=some (.int (st:Int)):=by
 obtain⟨n,rfl⟩:∃n:Nat,z=(n:Int):=⟨z.toNat,by lia⟩
 have hn:n<6:=by lia
 match n,hn with
 |0,_=>exact⟨1,by simp,by rw[zFK];exact zCD (j:=0) rfl rfl⟩
 |1,_=>exact⟨3,by simp,by rw[zFK];exact zCD (j:=1) rfl rfl⟩
 |2,_=>exact⟨5,by simp,by rw[zFK];exact zCD (j:=2) rfl rfl⟩
 |3,_=>exact⟨7,by simp,by rw[zFK];exact zCD (j:=3) rfl rfl⟩
 |4,_=>exact⟨9,by simp,by rw[zFK];exact zCD (j:=4) rfl rfl⟩
 |5,_=>exact⟨11,by simp,by rw[zFK];exact zCD (j:=5) rfl rfl⟩
def zPL(cl:List Int)(h12:12<=cl.length)(hz:cl.length<=1000)(hp:∀c∈cl,0<=c):∃cs ls:List Nat,zCW [.lst (cl.map .int),.int 10]=okR (.str ⟨cs.toArray⟩)/\cs.Perm (ls++ls)/\ls.Nodup/\1<=ls.length/\ls.length<=10/\∀c∈ls,97<=c/\c<123:=by
 have e0:(qJ2 "")=⟨([]:List Nat).toArray⟩:=zOM zG6;have hget:∀j,j<cl.length->0<=cl.getD j 0:=fun j hj=>hp _ (by rw[qA3,qA6 hj];simp)
 have g0:=hget 0 (by lia);have c0:=zT5 (cl:=cl) (j:=0) (i:=0) rfl (by lia);obtain⟨q0,hq0⟩:∃q0:Nat,cl.getD 0 0=(q0:Int):=⟨(cl.getD 0 0).toNat,by lia⟩
 rw[hq0]at c0 g0;obtain⟨n,hn⟩:∃n:Nat,1+(q0:Int)%10=(n:Int):=⟨(1+(q0:Int)%10).toNat,by lia⟩
 have hn1:1<=n:=by lia
 have hn2:n<=10:=by lia
 obtain⟨st,hst,ist⟩:=zR4 ((q0:Int)/512%6) (by lia) (by lia);have hst12:st<12:=by simp at hst;lia
 have key:∃cs:List Nat,zDT [some (.lst (cl.map .int),0),some (.int 10,0),none,none,none,none,none]=okR (.rt (.str ⟨cs.toArray⟩))/\cs.Perm ((qA9 n).map (ltr (q0/16) st)++(qA9 n).map (ltr (q0/16) st)):=by
  suffices h:∃r,(nxR ((sForR (iR1 (aCons (eB addD (eC (.int 1)) (eB modD (eB ixD (eV 0) (eC (.int 0))) (eV 1))) aNil)) 4 (sSeq (sSet 5 0 [2,4,0] (eB ixD (eV 2) (eB modD (eB addD (eB divD (eB ixD (eV 0) (eC (.int 0))) (eC (.int 16))) (eB mulD (eB ixD (eLst (aCons (eC (.int 1)) (aCons (eC (.int 3)) (aCons (eC (.int 5)) (aCons (eC (.int 7)) (aCons (eC (.int 9)) (aCons (eC (.int 11)) aNil))))))) (eB modD (eB divD (eB ixD (eV 0) (eC (.int 0))) (eC (.int 512))) (eC (.int 6)))) (eV 4))) (eC (.int 26)))))
 (sFor [0,4,3] (iSq (eTup (aCons (eB modD (eB ixD (eV 0) (eB addD (eC (.int 1)) (eV 4))) (eB addD (eBi lenD (aCons (eV 3) aNil)) (eC (.int 1)))) (aCons (eB modD (eB divD (eB ixD (eV 0) (eB addD (eC (.int 1)) (eV 4))) (eC (.int 32))) (eB addD (eBi lenD (aCons (eV 3) aNil)) (eC (.int 2)))) aNil)))) (.one 6) (sSet 3 1 [5,3,6] (eB addD (eB addD (eSl (eV 3) oNo (oE (eV 6))) (eV 5)) (eSl (eV 3) (oE (eV 6)) oNo)))))) [some (.lst (cl.map .int),0),some (.int 10,0),some (.str "abcdefghijklmnopqrstuvwxyz",0),some (.str ⟨([]:List Nat).toArray⟩,0),none,none,none]) fun r'=>r'=r)/\∃(ws:List Nat)(l3:Nat)(o4 o5 o6:Option Sl),r=[some (.lst (cl.map .int),0),some (.int 10,0),some (.str "abcdefghijklmnopqrstuvwxyz",0),some (.str ⟨ws.toArray⟩,l3),o4,o5,o6]/\l3<=1/\ws.Perm ((qA9 n).map (ltr (q0/16) st)++(qA9 n).map (ltr (q0/16) st)) by
   obtain⟨r,h1,ws,l3,o4,o5,o6,rfl,hl3,hw⟩:=h;refine⟨ws,?_,hw⟩;unfold zDT;refine zDU fun bb hb=>?_
   refine zD4 (r:=[some (.lst (cl.map .int),0),some (.int 10,0),some (.str "abcdefghijklmnopqrstuvwxyz",0),none,none,none,none]) (by simp) ?_;subst hb;refine zDU fun bb hb=>?_
   refine zD4 (r:=[some (.lst (cl.map .int),0),some (.int 10,0),some (.str "abcdefghijklmnopqrstuvwxyz",0),some (.str ⟨([]:List Nat).toArray⟩,0),none,none,none]) (by simp[<- e0]) ?_;subst hb;refine zDU fun bb hb=>?_
   obtain⟨r',h2,h3⟩:=zD3 h1;rw[h2,h3];subst hb;show sRetV 1 3 _=_;simp;intro _ h;lia
  have main:nxR ((sForR (iR1 (aCons (eB addD (eC (.int 1)) (eB modD (eB ixD (eV 0) (eC (.int 0))) (eV 1))) aNil)) 4 (sSeq (sSet 5 0 [2,4,0] (eB ixD (eV 2) (eB modD (eB addD (eB divD (eB ixD (eV 0) (eC (.int 0))) (eC (.int 16))) (eB mulD (eB ixD (eLst (aCons (eC (.int 1)) (aCons (eC (.int 3)) (aCons (eC (.int 5)) (aCons (eC (.int 7)) (aCons (eC (.int 9)) (aCons (eC (.int 11)) aNil))))))) (eB modD (eB divD (eB ixD (eV 0) (eC (.int 0))) (eC (.int 512))) (eC (.int 6)))) (eV 4))) (eC (.int 26)))))
 (sFor [0,4,3] (iSq (eTup (aCons (eB modD (eB ixD (eV 0) (eB addD (eC (.int 1)) (eV 4))) (eB addD (eBi lenD (aCons (eV 3) aNil)) (eC (.int 1)))) (aCons (eB modD (eB divD (eB ixD (eV 0) (eB addD (eC (.int 1)) (eV 4))) (eC (.int 32))) (eB addD (eBi lenD (aCons (eV 3) aNil)) (eC (.int 2)))) aNil)))) (.one 6) (sSet 3 1 [5,3,6] (eB addD (eB addD (eSl (eV 3) oNo (oE (eV 6))) (eV 5)) (eSl (eV 3) (oE (eV 6)) oNo)))))) [some (.lst (cl.map .int),0),some (.int 10,0),some (.str "abcdefghijklmnopqrstuvwxyz",0),some (.str ⟨([]:List Nat).toArray⟩,0),none,none,none]) (fun r=>∃(ws:List Nat)(l3:Nat)(o4 o5 o6:Option Sl),r=[some (.lst (cl.map .int),0),some (.int 10,0),some (.str "abcdefghijklmnopqrstuvwxyz",0),some (.str ⟨ws.toArray⟩,l3),o4,o5,o6]/\l3<=1/\ws.Perm ((qA9 n).map (ltr (q0/16) st)++(qA9 n).map (ltr (q0/16) st))):=by
   rw[zJK,zKZ (n:=n) (by
    simp only[zBS,zED,x_eB,x_eV,x_eC,zF5,zGD,qDt,qH5,qD3,qC2,zA0,c0,zAE,zQT,zZN];rw[if_pos (by decide),zAE,zA0,zZN,zAE,zA0,hn]) (by lia),zA0]
   refine zUI (fun k r=>∃(ws:List Nat)(l3:Nat)(o4 o5 o6:Option Sl),r=[some (.lst (cl.map .int),0),some (.int 10,0),some (.str "abcdefghijklmnopqrstuvwxyz",0),some (.str ⟨ws.toArray⟩,l3),o4,o5,o6]/\l3<=1/\ws.Perm ((qA9 k).map (ltr (q0/16) st)++(qA9 k).map (ltr (q0/16) st))) ⟨[],0,none,none,none,rfl,by lia,by simp⟩ (fun k hk r hr=>?_) fun r h=>h
   obtain⟨ws,l3,o4,o5,o6,rfl,hl3,hw⟩:=hr;have hwl:=hw.length_eq;simp at hwl;generalize hx:ltr (q0/16) st k=x;have m1:mulD (.int (st:Int)) (.int (k:Int))=some (.int ((st:Int)*(k:Int))):=zUM (by lia) (by lia);have ilt:ixD (.str "abcdefghijklmnopqrstuvwxyz") (.int (((q0:Int)/16+(st:Int)*(k:Int))%26))=some (sgn x):=by
    have:((q0:Int)/16+(st:Int)*(k:Int))%26=(((q0/16+st*k)%26:Nat):Int):=by
     push_cast
     rfl
    rw[this,zUT (qGm _ (by decide)),<- hx];rfl
   refine zZX fun bb hb=>?_
   refine zD4 (r:=[some (.lst (cl.map .int),0),some (.int 10,0),some (.str "abcdefghijklmnopqrstuvwxyz",0),some (.str ⟨ws.toArray⟩,l3),some (.int (k:Nat),0),some (sgn x,0),o6]) (by
    generalize cl.map Dt.int=ds at c0 ⊢;simp[c0,ist,m1,ilt,-zFK,-zXH,-zZM]) ?_
   subst hb;have ck:=zT5 (cl:=cl) (j:=1+k) (i:=1+(k:Int)) (by lia) (by lia);have gk:=hget (1+k) (by lia);obtain⟨qk,hqk⟩:∃qk:Nat,cl.getD (1+k) 0=(qk:Int):=⟨(cl.getD (1+k) 0).toNat,by lia⟩
   rw[hqk]at ck gk;have hlen:=zET (cs:=ws) (by lia);obtain⟨p1,hp1⟩:∃p1:Nat,(qk:Int)%((ws.length:Int)+1)=(p1:Int):=⟨((qk:Int)%((ws.length:Int)+1)).toNat,by have:=qBi (qk:Int) (show(ws.length:Int)+1≠0 by lia);lia⟩
   obtain⟨p2,hp2⟩:∃p2:Nat,(qk:Int)/32%((ws.length:Int)+2)=(p2:Int):=⟨((qk:Int)/32%((ws.length:Int)+2)).toNat,by have:=qBi ((qk:Int)/32) (show(ws.length:Int)+2≠0 by lia);lia⟩
   rw[zHG];have hit:iSq (eTup (aCons (eB modD (eB ixD (eV 0) (eB addD (eC (.int 1)) (eV 4))) (eB addD (eBi lenD (aCons (eV 3) aNil)) (eC (.int 1)))) (aCons (eB modD (eB divD (eB ixD (eV 0) (eB addD (eC (.int 1)) (eV 4))) (eC (.int 32))) (eB addD (eBi lenD (aCons (eV 3) aNil)) (eC (.int 2)))) aNil))) (frz (frzAt [0,4,3] [some (.lst (cl.map .int),0),some (.int 10,0),some (.str "abcdefghijklmnopqrstuvwxyz",0),some (.str ⟨ws.toArray⟩,l3),some (.int (k:Nat),0),some (sgn x,0),o6]))=okR ([p1,p2].map fun p:Nat=>Dt.int (p:Int)):=by
    have d1:modD (.int (qk:Int)) (.int ((ws.length:Int)+1))=some (.int (p1:Int)):=by rw[zQT,if_pos (by lia),hp1]
    have d2:modD (.int ((qk:Int)/32)) (.int ((ws.length:Int)+2))=some (.int (p2:Int)):=by rw[zQT,if_pos (by lia),hp2]
    generalize cl.map Dt.int=ds at ck ⊢;simp[ck,hlen,d1,d2,-zFK,-zQT]
   rw[hit,zA0];refine zNL (fun p:Nat=>Dt.int (p:Int)) [p1,p2] (fun j r=>∃(us:List Nat)(l3:Nat)(o6:Option Sl),r=[some (.lst (cl.map .int),0),some (.int 10,0),some (.str "abcdefghijklmnopqrstuvwxyz",0),some (.str ⟨us.toArray⟩,l3),some (.int (k:Nat),0),some (sgn x,0),o6]/\l3<=1/\us.Perm (qA7 j x++ws)) ⟨ws,0,o6,by simp,by lia,by simp⟩ (fun j p hpj r hr=>?_) fun r hr=>?_
   ·obtain⟨us,l,o,rfl,hl,hu⟩:=hr;have hj:j<2:=by have:=(qA2.mp hpj).1;simpa using this
    have hul:=hu.length_eq;simp at hul;have s1:=zDL (a:=us) none (some (p:Int)) (by lia);have s2:=zDL (a:=us) (some (p:Int)) none (by lia);rw[zG5]at s1;rw[zE9]at s2;have a1:addD (.str ⟨(us.take p).toArray⟩) (sgn x)=some (.str ⟨(us.take p++[x]).toArray⟩):=add_str (b:=[x]) (by simp;lia);have a2:=add_str (a:=us.take p++[x]) (b:=us.drop p) (by simp;lia);refine zD4 (r:=[some (.lst (cl.map .int),0),some (.int 10,0),some (.str "abcdefghijklmnopqrstuvwxyz",0),some (.str ⟨(us.take p++[x]++us.drop p).toArray⟩,1),some (.int (k:Nat),0),some (sgn x,0),some (.int (p:Int),0)]) ?_ ⟨_,_,_,rfl,by lia,?_⟩
    ·generalize cl.map Dt.int=ds
     simp only[List.set_cons_succ,List.set_cons_zero,zKY,zF5,zGD,qDt,x_eB,x_eV,zTO,x_oE,zXC,qC2,qD3,zA0,s1,s2,a1,a2,zAE];rfl
    ·exact(zOV x p us).trans ((hu.cons x).trans (by rw[qBa,qB8]))
   ·obtain⟨us,l,o,rfl,hl,hu⟩:=hr;refine⟨us,l,_,_,o,rfl,hl,hu.trans ?_⟩;rw[qFl,qCb];simp only[qAm,qI0,hx]
    generalize(qA9 k).map (ltr (q0/16) st)=A at hw ⊢;refine(qDa _ hw).trans ?_;show([x,x]++(A++A)).Perm _;refine qEl.mpr fun a=>?_
    simp only[qAe,qCq,qFx];lia
  obtain⟨r',h1,h2⟩:=zD3 main;refine⟨r',?_,h2⟩;rw[h1];rfl
 obtain⟨cs,k1,k2⟩:=key;refine⟨cs,(qA9 n).map (ltr (q0/16) st),zBA rfl k1,k2,zS7 hst hn2,by simpa using hn1,by simpa using hn2,fun c hc=>?_⟩;obtain⟨i,_,rfl⟩:=qBq.mp hc;unfold ltr
 lia
def cn2{m:FM}{e1 e2:EM}(h1:e1 ρ=okR d1)(h2:e2 ρ=okR d2)(h:m [d1,d2]=okR d):eCallN m (aCons e1 (aCons e2 aNil)) ρ=okR d:=by
 unfold eCallN;rw[zBS,h1,zA0,zBS,h2,zA0,zED,zA0,zA0,zA0,h];rfl
def cn3{m:FM}{e1 e2 e3:EM}(h1:e1 ρ=okR d1)(h2:e2 ρ=okR d2)(h3:e3 ρ=okR d3)(h:m [d1,d2,d3]=okR d):eCallN m (aCons e1 (aCons e2 (aCons e3 aNil))) ρ=okR d:=by
 unfold eCallN;rw[zBS,h1,zA0,zBS,h2,zA0,zBS,h3,zA0,zED,zA0,zA0,zA0,zA0,h];rfl
end Mp
namespace Mp
def sh(s:Nat)(cs:List Nat):List Nat:=cs.drop s++cs.take s
def wr(cs:List Nat):List Nat:=cs.map fun c=>97+(ords cs).idxOf c
end Mp
namespace Mp
open Mi PySem
@[simp] theorem zQN(c:Str)(ρ:Rh):eNew0 c ρ=okR (.ins c []):=rfl
@[simp] theorem zQO(c:Str)(fl:List Str)(am:AM)(ρ:Rh):eNew c fl am ρ=zA3 (am ρ) fun ds=>match svsD ds with
 |some vs=>if vs.length=fl.length then okR (.ins c (fl.zip vs))else none
 |none=>none:=rfl
@[simp] theorem zZL(hs:List Str)(f:Str)(e:EM)(ρ:Rh):eFld hs f e ρ=zA3 (e ρ) fun d=>match d with
 |.ins c fs=>if c∈hs then(match fs.lookup f with|some v=>okR (dSv v)|none=>none)else none
 |_=>none:=rfl
@[simp] theorem zQP(tb:List (Str×FM))(m:Str)(e:EM)(am:AM)(ρ:Rh):eMeth tb m e am ρ=zA3 (e ρ) fun d=>match d with
 |.ins c fs=>match tb.lookup c with
  |some g=>match fs.lookup m with
   |none=>zA3 (am ρ) fun ds=>g (d::ds)
   |some _=>none
  |none=>none
 |_=>none:=rfl
@[simp] theorem x_eIsO(ys ns:List Str)(e:EM)(ρ:Rh):eIsO ys ns e ρ=zA3 (e ρ) fun d=>match d with
 |.ins c _=>if c∈ys then okR (.bl true)else if c∈ns then okR (.bl false)else none
 |_=>none:=rfl
@[simp] theorem v_dins(c:Str)(fs:List (Str×Sv)):(Dt.ins c fs).dep=1000:=rfl
def zYX(o:Option Sl):Option Dt:=match o with
 |some (d,n)=>if n=0\/d.dep=0 then some d else none
 |none=>none
def zM9(o:Option Sl)(r:Ro):frz (o::r)=zYX o::frz r:=by
 cases o with
 |none=>rfl
 |some p=>rfl
def zNF(cs:List Nat)(hz:cs.length<=100)(hp:0<cs.length)(b:Int):zG1 [.str ⟨cs.toArray⟩,.int b]=okR (.str ⟨(sh (b%(cs.length:Int)).toNat cs).toArray⟩):=by
 have h0:=qBi b (show(cs.length:Int)≠0 by lia);have h1:=qCu b (show(0:Int)<cs.length by lia);obtain⟨s,hs⟩:∃s:Nat,b%(cs.length:Int)=(s:Int):=⟨(b%(cs.length:Int)).toNat,by lia⟩
 rw[hs];have key:zIK [some (.str ⟨cs.toArray⟩,0),some (.int b,0),none]=okR (.rt (.str ⟨(sh s cs).toArray⟩)):=by
  unfold zIK;have d1:modD (.int b) (.int (cs.length:Int))=some (.int (s:Int)):=by rw[zQT,if_pos (by lia),hs]
  have s1:=zDL (a:=cs) none (some (s:Int)) (by lia);have s2:=zDL (a:=cs) (some (s:Int)) none (by lia);rw[zG5]at s1;rw[zE9]at s2;have a2:=add_str (a:=cs.drop s) (b:=cs.take s) (by simp;lia);have hl:=zET (cs:=cs) (by lia);refine zDU fun bb hb=>?_
  simp only[zKY,zF5,zGD,qDt,qH5,x_eB,x_eV,zXD,zBS,zED,qC2,qD3,zA0,hl,zAE,d1];simp;subst hb;simp[s1,s2,a2,-zXF,-zQU];rfl
 exact zBA rfl key
def zNO(cs:List Nat)(hz:cs.length<=100)(d:Dt):zC9 [d,.str ⟨cs.toArray⟩]=okR (.str ⟨cs.reverse.toArray⟩):=by
 have h:=zRG cs (by lia);have key:zEC [some (d,0),some (.str ⟨cs.toArray⟩,0)]=okR (.rt (.str ⟨cs.reverse.toArray⟩)):=by
  unfold zEC;simp[h]
 exact zBA rfl key
def zPT(cs:List Nat)(hz:cs.length<=100)(hp:0<cs.length)(b:Int):zCJ [.ins "Shift" [("by",.i b)],.str ⟨cs.toArray⟩]=okR (.str ⟨(sh (b%(cs.length:Int)).toNat cs).toArray⟩):=by
 have h:=zNF cs hz hp b;have lk:qB7 ("by":Str) [(("by":Str),Sv.i b)]=some (Sv.i b):=by simp[qB7]
 have key:zEP [some (.ins "Shift" [("by",.i b)],0),some (.str ⟨cs.toArray⟩,0)]=okR (.rt (.str ⟨(sh (b%(cs.length:Int)).toNat cs).toArray⟩)):=by
  unfold zEP;simp[h,dSv]
 exact zBA rfl key
def zAZ{cs:List Nat}(h:cs.count x=2):∃A B C:List Nat,cs=A++x::(B++x::C)/\x∉A/\x∉B/\x∉C:=by
 have h1:x∈cs:=qCv.mp (by lia);obtain⟨A,R,rfl,hA⟩:=qBf h1;rw[qAe,qAa.mpr hA,qAr]at h;have h2:x∈R:=qCv.mp (by lia);obtain⟨B,C,rfl,hB⟩:=qBf h2;rw[qAe,qAa.mpr hB,qAr]at h;exact⟨A,B,C,rfl,hA,hB,qAa.mp (by lia)⟩
def zP5{A R:List Nat}{x:Nat}(h:x∉A):(A++x::R).idxOf x=A.length:=by
 rw[List.idxOf_append,if_neg h,List.idxOf_cons_self];lia
def zU1{A B C:List Nat}{x:Nat}(hC:x∉C):rfindD (.str ⟨(A++x::(B++x::C)).toArray⟩) [sgn x]=some (.int ((A.length+1+B.length:Nat):Int)):=by
 have hr:(A++x::(B++x::C)).reverse=C.reverse++x::(B.reverse++x::A.reverse):=by simp
 have hp:posC x (A++x::(B++x::C)).reverse=some C.length:=by
  rw[hr,zK5 (by simp),zP5 (by simpa using hC),List.length_reverse]
 show some (Dt.int (match lastC x (A++x::(B++x::C))with|some i=>(i:Int)|none=>-1))=_;unfold lastC;rw[hp];show some (Dt.int (((A++x::(B++x::C)).length-1-C.length:Nat):Int))=_
 congr 3;simp;lia
def zZ0{A R:List Nat}{x:Nat}(h:x∉A):findD (.str ⟨(A++x::R).toArray⟩) [sgn x]=some (.int (A.length:Int)):=by
 rw[zV9 (by simp),zP5 h]
def zKO(xs:List α){i j:Nat}(hi:i<=xs.length)(hj:j<=xs.length):cutA xs (some (i:Int)) (some (j:Int))=(xs.drop i).take (j-i):=by
 unfold cutA cutIx;dsimp only;rw[if_neg (by lia),if_neg (by lia)];simp only[qBc];rw[qDu hi,qDu hj]
def len1(x:Nat):lenD [sgn x]=some (.int 1):=zET (cs:=[x]) (by simp)
def zbQ(x:Nat)(cs:List Nat):inD true (sgn x) (.str ⟨cs.toArray⟩)=some (.bl (!decide (x∈cs))):=rfl
def zP9{A R:List Nat}{x:Nat}(h:x∉A):zB2 [.str ⟨(A++x::R).toArray⟩,sgn x]=okR (.int (A.length:Int)):=by
 have key:zEB [some (.str ⟨(A++x::R).toArray⟩,0),some (sgn x,0)]=okR (.rt (.int (A.length:Int))):=by
  have f:=zZ0 (R:=R) h;have i:=zbQ x (A++x::R);rw[show(!decide (x∈A++x::R))=false by simp]at i;have l:=len1 x
  generalize(A++x::R)=cs at f i;unfold zEB;refine zDU fun bb hb=>?_
  refine zD4 (r:=[some (.str ⟨cs.toArray⟩,0),some (sgn x,0)]) (by simp[i,l]) ?_;subst hb;simp[f]
 exact zBA rfl key
def zFR{A B C:List Nat}{x:Nat}(hA:x∉A)(hC:x∉C):zB0 [.str ⟨(A++x::(B++x::C)).toArray⟩,sgn x]=okR (.tup [.int (A.length:Int),.int ((A.length+1+B.length:Nat):Int)]):=by
 have key:zFG [some (.str ⟨(A++x::(B++x::C)).toArray⟩,0),some (sgn x,0)]=okR (.rt (.tup [.int (A.length:Int),.int ((A.length+1+B.length:Nat):Int)])):=by
  have f:=zP9 (R:=B++x::C) hA;have r:=zU1 (A:=A) (B:=B) hC;generalize(A++x::(B++x::C))=cs at f r;generalize((A.length+1+B.length:Nat):Int)=b at r ⊢;unfold zFG;simp[f,r]
 exact zBA rfl key
def trn(A B C:List Nat)(x:Nat):List Nat:=A++x::(B.reverse++x::C)
def cuts{A B C:List Nat}{x:Nat}:(A++x::(B++x::C)).take (A.length+1)=A++[x]/\((A++x::(B++x::C)).drop (A.length+1)).take B.length=B/\(A++x::(B++x::C)).drop (A.length+1+B.length)=x::C:=by
 have e:A++x::(B++x::C)=(A++[x])++(B++x::C):=by simp
 have l:(A++[x]).length=A.length+1:=by simp
 refine⟨?_,?_,?_⟩
 ·rw[e,<- l,qDx];rfl
 ·rw[e,<- l,qDd,qDx]
  ·rfl
  ·rfl
 ·rw[<- List.drop_drop,e,<- l,qDd,qDd]
  ·rfl
  ·rfl
def zKM{A B C:List Nat}{x:Nat}(hz:(A++x::(B++x::C)).length<=100)(hA:x∉A)(hC:x∉C):zB6 [.ins "Turn" [("letter",.s ⟨#[x]⟩)],.str ⟨(A++x::(B++x::C)).toArray⟩]=okR (.str ⟨(trn A B C x).toArray⟩):=by
 have key:zFH [some (.ins "Turn" [("letter",.s ⟨#[x]⟩)],0),some (.str ⟨(A++x::(B++x::C)).toArray⟩,0),none,none]=okR (.rt (.str ⟨(trn A B C x).toArray⟩)):=by
  have p:=zFR (B:=B) hA hC;obtain⟨c1,c2,c3⟩:=cuts (A:=A) (B:=B) (C:=C) (x:=x);have hl:(A++x::(B++x::C)).length=A.length+1+B.length+1+C.length:=by simp;lia
  have s1:=zDL (a:=A++x::(B++x::C)) none (some ((A.length:Int)+1)) (by lia);rw[show((A.length:Int)+1)=((A.length+1:Nat):Int) by lia,zG5,c1]at s1;have s2:=zDL (a:=A++x::(B++x::C)) (some ((A.length+1:Nat):Int)) (some ((A.length+1+B.length:Nat):Int)) (by lia);rw[zKO _ (by lia) (by lia),show A.length+1+B.length-(A.length+1)=B.length by lia,c2]at s2;have s3:=zDL (a:=A++x::(B++x::C)) (some ((A.length+1+B.length:Nat):Int)) none (by lia);rw[zE9,c3]at s3;have r:=zRG B (by lia);have a1:=add_str (a:=A++[x]) (b:=B.reverse) (by simp;lia);have a2:=add_str (a:=A++[x]++B.reverse) (b:=x::C) (by simp;lia);rw[show A++[x]++B.reverse++x::C=trn A B C x by simp[trn]]at a2;have lk:qB7 ("letter":Str) [(("letter":Str),Sv.s ⟨#[x]⟩)]=some (Sv.s ⟨#[x]⟩):=by simp[qB7]
  have ds:dSv (Sv.s ⟨#[x]⟩)=sgn x:=rfl;have e1:((A.length:Int)+1)=((A.length+1:Nat):Int):=by lia
  generalize((A.length+1+B.length:Nat):Int)=b at p s2 s3;generalize A++x::(B++x::C)=cs at p s1 s2 s3;unfold zFH;refine zDU fun bb hb=>?_
  refine zD4 (r:=[some (.ins "Turn" [("letter",.s ⟨#[x]⟩)],0),some (.str ⟨cs.toArray⟩,0),some (.tup [.int (A.length:Int),.int b],1),none]) (by
   simp[lk,ds,p]) ?_
  subst hb;refine zDU fun bb hb=>?_
  have i0:ixD (.tup [.int (A.length:Int),.int b]) (.int 0)=some (.int (A.length:Int)):=by rw[zN3];exact zCD (j:=0) rfl rfl
  have i1:ixD (.tup [.int (A.length:Int),.int b]) (.int 1)=some (.int b):=by rw[zN3];exact zCD (j:=1) rfl rfl
  refine zD4 (r:=[some (.ins "Turn" [("letter",.s ⟨#[x]⟩)],0),some (.str ⟨cs.toArray⟩,0),some (.tup [.int (A.length:Int),.int b],1),some (.int ((A.length+1:Nat):Int),1)]) (by
   rw[<- e1];simp[i0,-zN3]) ?_
  subst hb;generalize((A.length+1:Nat):Int)=a at s1 s2 ⊢;generalize Dt.tup [Dt.int (A.length:Int),Dt.int b]=tp at i0 i1 ⊢;generalize A++[x]++B.reverse=AB at a1 a2;generalize A++[x]=A1 at s1 a1;simp[s1,s2,s3,i1,r,a1,a2,-zXF,-zQU,-zN3]
 exact zBA rfl key
def zbV(c x:Nat):eqD (sgn c) (sgn x)=some (.bl (decide (c=x))):=by
 show(if(sgn c).dep<=40/\(sgn x).dep<=40 then some (Dt.bl (Dt.eq (sgn c) (sgn x)))else none)=_
 rw[if_pos ⟨qAv _,qAv _⟩];congr 2;show((⟨#[c]⟩:Str)==⟨#[x]⟩)=decide (c=x);by_cases h:c=x
 ·subst h;simp
 ·rw[decide_eq_false h,beq_eq_false_iff_ne];intro z
  have:[c]=[x]:=congrArg (fun s:Str=>s.cps.toList) z
  simp at this;exact h this
def zPA{a b:Nat}(hab:a<b):∀n,(qA9 n).filter (fun k=>decide (k=a\/k=b))=if n<=a then[]else if n<=b then[a]else[a,b]
 |0=>by simp
 |n+1=>by
  rw[qFl,List.filter_append,zPA hab n];by_cases h1:n=a
  ·subst h1;rw[if_pos (qA5 _),if_neg (by lia),if_pos (by lia)];simp
  ·by_cases h2:n=b
   ·subst h2;rw[if_neg (by lia),if_pos (qA5 _),if_neg (by lia),if_neg (by lia)];simp
   ·rw[qD2 (by simp[h1,h2]),List.filter_nil,qBv]
    by_cases h3:n<=a
    ·rw[if_pos h3,if_pos (by lia)]
    ·by_cases h4:n<=b
     ·rw[if_neg h3,if_pos h4,if_neg (show ¬n+1<=a by lia),if_pos (show n+1<=b by lia)]
     ·rw[if_neg h3,if_neg h4,if_neg (show ¬n+1<=a by lia),if_neg (show ¬n+1<=b by lia)]
def zSN{A B C:List Nat}{x:Nat}(hA:x∉A)(hB:x∉B)(hC:x∉C){k:Nat}(hk:k<(A++x::(B++x::C)).length):(A++x::(B++x::C)).getD k 0=x↔k=A.length\/k=A.length+1+B.length:=by
 have gm:∀{l:List Nat}{j:Nat},j<l.length->l.getD j 0∈l:=fun{l j} h=>by rw[qA3,qA6 h];simp
 simp only[qAs,qAn]at hk;rw[qA3];by_cases h1:k<A.length
 ·rw[qAf h1,<- qA3];exact⟨fun e=>absurd (e▸gm h1) hA,fun h=>by lia⟩
 ·rw[qAc (by lia)]
  by_cases h2:k=A.length
  ·subst h2;simp
  ·obtain⟨j,hj⟩:∃j,k-A.length=j+1:=⟨k-A.length-1,by lia⟩
   rw[hj,qC2];by_cases h3:j<B.length
   ·rw[qAf h3,<- qA3];exact⟨fun e=>absurd (e▸gm h3) hB,fun h=>by lia⟩
   ·rw[qAc (by lia)]
    by_cases h4:j=B.length
    ·subst h4;simp;lia
    ·obtain⟨i,hi⟩:∃i,j-B.length=i+1:=⟨j-B.length-1,by lia⟩
     rw[hi,qC2,<- qA3];exact⟨fun e=>absurd (e▸gm (show i<C.length by lia)) hC,fun h=>by lia⟩
def zTU{A B C:List Nat}{x:Nat}(hz:(A++x::(B++x::C)).length<=100)(hA:x∉A)(hB:x∉B)(hC:x∉C):zDM [.str ⟨(A++x::(B++x::C)).toArray⟩,sgn x]=okR (.lst [.int (A.length:Int),.int ((A.length+1+B.length:Nat):Int)]):=by
 have hl:(A++x::(B++x::C)).length=A.length+1+B.length+1+C.length:=by simp;lia
 have hw:=@zSN A B C x hA hB hC;have hf:=zPA (a:=A.length) (b:=A.length+1+B.length) (by lia) (A++x::(B++x::C)).length;rw[if_neg (by lia),if_neg (by lia)]at hf
 generalize A++x::(B++x::C)=cs at *;generalize A.length+1+B.length=b at *;generalize A.length=a at *;have hc:eComp (iEnX (aCons (eV 0) aNil)) 2 (.tup [2,3]) (tB (eB eqD (eV 3) (eV 1))) (eV 2) [some (.str ⟨cs.toArray⟩),some (sgn x)]=okR (.lst [.int (a:Int),.int (b:Int)]):=by
  rw[zO1 (ρ:=[some (.str ⟨cs.toArray⟩),some (sgn x)]) (c:=tB (eB eqD (eV 3) (eV 1))) (e:=eV 2) (i:=2) (j:=3) (cs.map sgn) (fun k=>.int (k:Int)) (fun k=>decide (k=a\/k=b)) rfl rfl (iEnX (aCons (eV 0) aNil)) (by simp[iEnX];rfl) (by simp;lia) (fun k y hy=>?_) (fun k y hy=>?_)]
  ·rw[qAg,hf];rfl
  ·have hk:k<cs.length:=by have:=(qA2.mp hy).1;simpa using this
   have hy':y=sgn (cs.getD k 0):=by
    rw[qAd,qA6 hk]at hy;cases hy;simp[qA3,qA6 hk]
   subst hy';have he:=zbV (cs.getD k 0) x;have hd:decide (cs.getD k 0=x)=decide (k=a\/k=b):=decide_eq_decide.mpr (hw hk);rw[hd]at he;generalize cs.getD k 0=z at he;show tB (eB eqD (eV 3) (eV 1)) [some (.str ⟨cs.toArray⟩),some (sgn x),some (.int (k:Nat)),some (sgn z)]=_;simp only[x_tB,x_eB,x_eV,qD3,qC2,zA0,he,zAE]
  ·show eV 2 [some (.str ⟨cs.toArray⟩),some (sgn x),some (.int (k:Nat)),some y]=_;rfl
 have key:zEO [some (.str ⟨cs.toArray⟩,0),some (sgn x,0)]=okR (.rt (.lst [.int (a:Int),.int (b:Int)])):=by
  unfold zEO;simp[hc]
 exact zBA rfl key
def zT2{ls cs:List Nat}(hp:cs.Perm (ls++ls))(hn:ls.Nodup){x:Nat}(hx:x∈cs):cs.count x=2:=by
 have hl:x∈ls:=by have:=hp.mem_iff.mp hx;simpa using this
 rw[hp.count_eq,qAe,qIf hn,if_pos hl]
structure Seats(R:List (List Nat))(n:Nat):Prop where
 len:R.length=n
 per:∀l∈R,l.Perm [0,1,2,3]
section
variable{R:List (List Nat)}{row:List Nat}{n:Nat}(hS:Seats R n)(tw:Twice n row)
include hS
include tw
omit hS in
omit hS in
omit hS in
omit hS in
omit hS tw in
omit hS tw in
end
section
variable{ts cs:List Nat}{n e:Nat}(hN:NetN ts (4*n))(hne:∀x,x<4*n->nt ts x≠x)(hl:cs.length=n)(hw:∀c∈cs,c<3)(he:e<4*n)
include hN hne hl hw he
variable{p:Nat}(p3:itr (stp ts cs) p e=e)(p4:∀q,1<=q->q<p->itr (stp ts cs) q e≠e)
include p3 p4
omit hN hne hl hw he p3 p4 in
end
def rowW(cs:List Nat):List Nat:=cs.map fun c=>(ords cs).idxOf c
section
variable{n:Nat}{row:List Nat}(t:Twice n row)
include t
end
def btw(cs:List Nat)(x:Nat):List Nat:=(cs.drop (cs.idxOf x+1)).take ((cs.drop (cs.idxOf x+1)).idxOf x)
def zD6{A B C:List Nat}{x:Nat}(hA:x∉A)(hB:x∉B):btw (A++x::(B++x::C)) x=B:=by
 unfold btw;have e:A++x::(B++x::C)=(A++[x])++(B++x::C):=by simp
 have l:(A++[x]).length=A.length+1:=by simp
 rw[zP5 hA,<- l,e,qDd,zP5 hB,qDx]
 ·rfl
 ·rfl
def crs(cs:List Nat)(x y:Nat):Int:=if(btw cs x).count y=1 then 1 else 0
def crs_self{cs:List Nat}(h:cs.count x=2):crs cs x x=0:=by
 obtain⟨A,B,C,rfl,hA,hB,hC⟩:=zAZ h;unfold crs;rw[zD6 hA hB,qAa.mpr hB];rfl
def zX2{cs:List Nat}(hx:cs.count x=2)(hy:cs.count y=2)(hne:x≠y)(h:(btw cs x).count y=1):(btw cs y).count x=1:=by
 obtain⟨A,B,C,rfl,hA,hB,hC⟩:=zAZ hx;rw[zD6 hA hB]at h;have hyB:y∈B:=qCv.mp (by lia);obtain⟨B1,B2,rfl,hB1⟩:=qBf hyB;rw[qAe,qAa.mpr hB1,qAr]at h;have hB2:y∉B2:=qAa.mp (by lia);have xB1:x∉B1:=fun z=>hB (by simp[z])
 have xB2:x∉B2:=fun z=>hB (by simp[z])
 simp only[qAe,qAr,qB2 hne,qB2 hne.symm,qAa.mpr hB1,qAa.mpr hB2]at hy;by_cases hyC:y∈C
 ·obtain⟨C1,C2,rfl,hC1⟩:=qBf hyC;rw[qAe,qAr]at hy;have hyA:y∉A:=qAa.mp (by lia);have xC1:x∉C1:=fun z=>hC (by simp[z])
  have e:A++x::((B1++y::B2)++x::(C1++y::C2))=(A++x::B1)++y::((B2++x::C1)++y::C2):=by simp
  rw[e,zD6 (by simp[hyA,hB1,hne.symm]) (by simp[hB2,hC1,hne.symm])];rw[qAe,qAr,qAa.mpr xB2,qAa.mpr xC1]
 ·have c0:=qAa.mpr hyC;have hyA:y∈A:=qCv.mp (by lia);obtain⟨A1,A2,rfl,hA1⟩:=qBf hyA;rw[qAe,qAr]at hy;have hA2:y∉A2:=qAa.mp (by lia);have xA2:x∉A2:=fun z=>hA (by simp[z])
  have e:(A1++y::A2)++x::((B1++y::B2)++x::C)=A1++y::((A2++x::B1)++y::(B2++x::C)):=by simp
  rw[e,zD6 hA1 (by simp[hA2,hB1,hne.symm])];rw[qAe,qAr,qAa.mpr xA2,qAa.mpr xB1]
def zNZ{cs:List Nat}(hx:cs.count x=2)(hy:cs.count y=2):crs cs x y=crs cs y x:=by
 by_cases hne:x=y
 ·rw[hne]
 ·unfold crs
  by_cases h:(btw cs x).count y=1
  ·rw[if_pos h,if_pos (zX2 hx hy hne h)]
  ·rw[if_neg h,if_neg fun z=>h (zX2 hy hx (fun e=>hne e.symm) z)]
def zMH(cs:List Nat)(y:Nat):countD (.str ⟨cs.toArray⟩) [sgn y]=some (.int (cs.count y:Nat)):=rfl
def zNW{cs:List Nat}(hz:cs.length<=100)(hx:cs.count x=2):zES [.str ⟨cs.toArray⟩,sgn x,sgn y]=okR (.bl (decide ((btw cs x).count y=1))):=by
 obtain⟨A,B,C,rfl,hA,hB,hC⟩:=zAZ hx;rw[zD6 hA hB];have p:=zFR (B:=B) hA hC;obtain⟨c1,c2,c3⟩:=cuts (A:=A) (B:=B) (C:=C) (x:=x);have hl:(A++x::(B++x::C)).length=A.length+1+B.length+1+C.length:=by simp;lia
 have e1:((A.length:Int)+1)=((A.length+1:Nat):Int):=by lia
 have s2:=zDL (a:=A++x::(B++x::C)) (some ((A.length+1:Nat):Int)) (some ((A.length+1+B.length:Nat):Int)) (by lia);rw[zKO _ (by lia) (by lia),show A.length+1+B.length-(A.length+1)=B.length by lia,c2,<- e1]at s2;have cn:=zMH B y
 generalize((A.length+1+B.length:Nat):Int)=b at *;generalize(A.length:Int)=a at *;generalize A++x::(B++x::C)=cs at *;have i0:ixD (.tup [.int a,.int b]) (.int 0)=some (.int a):=by rw[zN3];exact zCD (j:=0) rfl rfl
 have i1:ixD (.tup [.int a,.int b]) (.int 1)=some (.int b):=by rw[zN3];exact zCD (j:=1) rfl rfl
 have hd:(decide ((B.count y:Int)=1))=decide (B.count y=1):=decide_eq_decide.mpr (by lia);have key:zGR [some (.str ⟨cs.toArray⟩,0),some (sgn x,0),some (sgn y,0),none]=okR (.rt (.bl (decide (B.count y=1)))):=by
  unfold zGR;refine zDU fun bb hb=>?_
  refine zD4 (r:=[some (.str ⟨cs.toArray⟩,0),some (sgn x,0),some (sgn y,0),some (.tup [.int a,.int b],1)]) (by simp[p]) ?_;subst hb;simp[zM9,zYX,i0,i1,s2,cn,-zXF,-zN3]
  lia
 exact zBA rfl key
def crsT(cs sl:List Nat):Nat->Nat->Int:=fun i j=>crs cs (sl.getD i 0) (sl.getD j 0)
def zI4{cs:List Nat}(h0:0<cs.length)(h1:cs.length<=60):zBJ [.str ⟨cs.toArray⟩]=okR (.str ⟨(sosL cs).toArray⟩):=by
 have hso:sosD [.str ⟨cs.toArray⟩]=some (.lst ((sosL cs).map sgn)):=by
  show(@ite _ (0<(⟨cs.toArray⟩:Str).length/\(⟨cs.toArray⟩:Str).length<=60) (qA1 _) (some (Dt.lst ((sosL cs.toArray.toList).map fun c=>Dt.str ⟨#[c]⟩))) none)=_
  rw[if_pos ⟨by show 0<cs.toArray.size;simpa using h0,by show cs.toArray.size<=60;simpa using h1⟩];rfl
 have hsl:(sosL cs).length<=100000:=by
  have h2:(sosL cs).length=(ded cs).length:=(qC7 _ _).length_eq;have h3:∀l:List Nat,(ded l).length<=l.length:=by
   intro l;induction l with
   |nil=>exact qA5 _
   |cons a r ih=>
    unfold ded;split
    ·simp only[qAn];lia
    ·simp only[qAn];lia
  have h4:=h3 cs;lia
 have hj:=zUX (sosL cs) hsl;unfold zBJ zGZ;exact zBA rfl (by simp[hso,hj])
def fm(cs:List Nat)(s:Nat)(b:Bool):List Nat:=if b=true then(sh s cs).reverse else sh s cs
def zSO{l:List Nat}{k:Nat}{x:Dt}(h:(l.map sgn)[k]?=some x):k<l.length/\x=sgn (l.getD k 0):=by
 obtain⟨hk,e⟩:=qA2.mp h;have hk:k<l.length:=by simpa using hk
 exact⟨hk,by rw[<- e,List.getElem_map,qA3,qA6 hk];rfl⟩
section
variable{ts C':List Nat}{n:Nat}(hN:NetN ts (4*n))(hne:∀x,x<4*n->nt ts x≠x)(hl:C'.length=n)(hw:∀c∈C',c<3)(hn:n<=10)(n1:1<=n)
include hN hne hl hw hn n1
end
def Web(f:Nat->Nat->Int):Prop:=(∀i j,f i j=0\/f i j=1)/\∀i,f i i=0
def tnw(f:Nat->Nat->Int)(p:Nat):Nat->Nat->Int:=fun i j=>if f p i=1/\f p j=1/\i≠j then 1-f i j else f i j
def zXK(h:Web f)(p:Nat):Web (tnw f p):=by
 constructor
 ·intro i j;unfold tnw
  have:=h.1 i j;split<;>lia
 ·intro i;unfold tnw;rw[if_neg (fun z=>z.2.2 rfl)];exact h.2 i
def zQY(h:Web f)(p i:Nat):tnw f p p i=f p i:=by
 unfold tnw;rw[if_neg (fun z=>by have:=h.2 p;lia)]
def zUY{r:Ro}{i:Nat}{l:Nat}(a b:Nat){e0 e1 e2:EM}{P:Ro->Prop}(h:r[i]?=some (some (mat (tab n f),l+2)))(h0:e0 (full r)=okR (.int (a:Nat)))(h1:e1 (full r)=okR (.int (b:Nat)))(h2:e2 (full r)=okR (.int v))(ha:a<n)(hb:b<n)
  (hP:∀g,g=(fun x y=>if x=a/\y=b then v else f x y)->P (r.set i (some (mat (tab n g),l+2)))):nxR (sItem2 i m e0 e1 e2 r) P:=
 zD4 (zSG h h0 h1 h2 ha hb) (hP _ rfl)
def neI(a b:Int):neD (.int a) (.int b)=some (.bl (!decide (a=b))):=by simp[neD,Dt.eq];rfl
def allv:Nat->List (List Int)
 |0=>[[]]
 |n+1=>(allv n).map (qIi 0)++(allv n).map (qIi 1)
noncomputable def cnt(n:Nat)(P:List Int->Prop):Nat:=by
 classical exact((allv n).filter fun x=>decide (P x)).length
def Ev(n:Nat)(g:Nat->Int)(x:List Int):Prop:=sumN n (fun k=>g k*x.getD k 0)%2=0
section
variable{n i j:Nat}{f:Nat->Nat->Int}(hb:Bits n f)(hi:i<n)(hj:j<n)(hij:i≠j)
include hi in
include hi hij in
include hb hi hj hij in
include hb hi hj hij in
end
def fst1:List Int->Nat
 |[]=>0
 |a::r=>if a=1 then 0 else fst1 r+1
section
def Lds(ls:List (List Int)):Prop:=ls.Pairwise fun l s=>s.getD (fst1 l) 0=0
end
def zr(n:Nat)(ks:List Nat)(x:List Int):List Int:=(qA9 n).map fun k=>if k∈ks then 0 else x.getD k 0
def zV5(i:Nat)(ks:List Nat):hasD (.int (i:Int)) ((numL ks).map Dt.int)=some (decide (i∈ks)):=by
 rw[hasD,if_pos ⟨rfl,zEM _⟩];congr 1;unfold numL;rw[qC4];induction ks with
 |nil=>rfl
 |cons k r ih=>
  rw[qAm,qEe,ih];by_cases h:i=k
  ·subst h;simp
  ·simp[h,show ¬(k:Int)=(i:Int) by omega]
def zSK(i:Nat)(ks:List Nat):inD false (.int (i:Int)) (rowD (numL ks))=some (.bl (decide (i∈ks))):=by
 show(hasD (.int (i:Int)) ((numL ks).map Dt.int)).map _=_;rw[zV5];rfl
def zFZ(n:Nat)(f:Nat->Nat->Int)(p:Nat):List Nat:=(qA9 n).filter fun k=>decide (f p k=1)
def zS2(n p:Nat)(f:Nat->Nat->Int)(hn:n<=10)(hp:p<n)(hw:Web f):zG2 [mat (tab n f),.int (p:Int)]=okR (rowD (numL (zFZ n f p))):=by
 have h1:=zUH n (fun j=>f p j) hn;have hc:eComp (iSq (eCall zDW (aCons (eB ixD (eV 0) (eV 1)) aNil))) 1 (.one 2) (tB (eB neD (eV 2) (eV 1))) (eV 2) [some (mat (tab n f)),some (.int (p:Int))]=okR (rowD (numL (zFZ n f p))):=by
  rw[zEA (ρ:=[some (mat (tab n f)),some (.int (p:Int))]) (i:=2) (fun k:Nat=>Dt.int (k:Int)) (fun k:Nat=>Dt.int (k:Int)) (fun k=>!decide ((k:Int)=(p:Int))) (zFZ n f p) rfl (fun k _=>nei rfl rfl rfl) (fun k _ _=>rfl) _ ?_ ?_]
  ·rw[numD]
   congr 3;refine List.filter_eq_self.mpr fun k hk=>?_
   have hk1:f p k=1:=by simpa using(qEh.mp hk).2
   have:k≠p:=fun z=>by rw[z,hw.2 p]at hk1;lia
   simp only[qEy,decide_eq_false_iff_not];lia
  ·show zA3 _ _=_;rw[c1 (d1:=rowD ((qA9 n).map fun j=>f p j)) (b2 rfl rfl (ixM hp)) h1,zA0];rfl
  ·unfold zFZ
   have:=qFt (fun k=>decide (f p k=1)) (qA9 n)
   rw[qCy]at this;lia
 exact zBA rfl (sr hc ⟨by rw[zCM];exact qA5 1,by rw[zCM];exact qA5 1⟩)
def bitx(a b:Int)(ha:a=0\/a=1)(hb:b=0\/b=1):qKc a b=if b=1 then 1-a else a:=by
 rcases ha with rfl|rfl<;>rcases hb with rfl|rfl<;>decide
def zcH{fm:FM}{i:Nat}{e1 e2:EM}{ρ:Rh}(h:ρ[i]?=some (some (.fn x c)))(h1:e1 ρ=okR d1)(h2:e2 ρ=okR d2)(hc:c.dep<=40)(z1:d1.dep=0)(z2:d2.dep=0)(hf:fm [d1,d2,c]=okR r)(hr:r.dep=0)(ls:List (Str×FM))(hl:ls.lookup x=some fm):eCallF ls i (aCons e1 (aCons e2 aNil)) ρ=okR r:=by
 unfold eCallF;rw[h];dsimp only;rw[hl];dsimp only;rw[if_pos hc,zBS,h1,zA0,zBS,h2,zA0,zED,zA0,zA0,zA0,if_pos (by simp[Dt.depL,z1,z2])]
 show(match fm [d1,d2,c]with|some (.ok r)=>if r.dep=0 then okR r else none|_=>none)=_
 rw[hf];exact if_pos hr
def zX7{f:FM}{e:EM}{i:Nat}(h:e ρ=okR d)(hi:ρ[i]?=some (some c))(hf:f [d,.fn x c]=okR r)(hr:r.dep<=40):eCallL f e x i ρ=okR r:=by
 unfold eCallL;rw[h,zA0,hi];show(match f [d,.fn x c]with|some (.ok r)=>if r.dep<=40 then okR r else none|_=>none)=_
 rw[hf];exact if_pos hr
section
end
def zQG{ρ:Rh}{e:EM}{c:TM}{i j:Nat}(xs:List Dt)(g:Nat->Dt)(f:Nat->Bool)(hi:i=ρ.length)(hj:j=ρ.length+1)(it:IM)(hit:it ρ=okR (enumD 0 xs))(hn:xs.length<=100000)(hc:∀k x,xs[k]?=some x->c (ρ++[some (.int (k:Nat)),some x])=okR (f k))(h:∀k x,xs[k]?=some x->e (ρ++[some (.int (k:Nat)),some x])=okR (g k)):eComp it 2 (.tup [i,j]) c e ρ=okR (.lst (((qA9 xs.length).filter f).map g)):=by
 subst hi hj;unfold eComp;rw[hit,zA0,if_pos ⟨by rw[zHD];exact hn,by simp[Tg.idx]⟩];have go:∀(m k:Nat)(acc:List Dt),k+m=xs.length->compGo ρ 2 (.tup [ρ.length,ρ.length+1]) c e (enumD k (xs.drop k)) acc=okR (acc++((qG0 k m).filter f).map g):=by
  intro m;induction m with
  |zero=>
   intro k acc hk;rw[qFf (by lia)];simp[enumD,compGo]
  |succ m ih=>
   intro k acc hk;have hx:xs[k]?=some xs[k]:=qA6 (by lia);rw[qB0 (by lia),enumD,compGo];have es:zAR (ρ++qA7 2 none) [(ρ.length,.int (k:Nat)),(ρ.length+1,xs[k])]=ρ++[some (.int (k:Nat)),some xs[k]]:=by
    simp[zAR]
   show zA3 (c (zAR (ρ++qA7 2 none) [(ρ.length,.int (k:Nat)),(ρ.length+1,xs[k])])) _=_;rw[es,hc k _ hx,zA0,qGw];cases hf:f k with
   |true=>
    rw[if_pos rfl];show zA3 (e (zAR (ρ++qA7 2 none) [(ρ.length,.int (k:Nat)),(ρ.length+1,xs[k])])) _=_;rw[es,h k _ hx,zA0,ih (k+1) _ (by lia),qDw hf];simp
   |false=>
    rw[if_neg (by simp),ih (k+1) _ (by lia),qD2 (by simp[hf])]
 have:=go xs.length 0 [] (by lia)
 rw[qCi]at this;rw[this,zA0,qFu];simp
def kept(n:Nat)(c:List Int):List Nat:=(qA9 n).filter fun k=>decide (c.getD k 0≠0)
structure Pv2(n:Nat)(f g:Nat->Nat->Int)(u v:Nat):Prop where
 bf:Bits n f
 bg:Bits n g
 lu:u<n
 lv:v<n
 ne:u≠v
 fd:f u u=0/\f v v=0/\f u v=1/\f v u=1
 gd:g u u=0/\g v v=0/\g u v=1/\g v u=1
 row:∀i,i<n->i≠u->i≠v->g u i=f v i/\g v i=f u i
 col:∀i,i<n->i≠u->i≠v->g i u=f i v/\g i v=f i u
 inn:∀i j,i<n->j<n->i≠u->i≠v->j≠u->j≠v->g i j%2=(f i j+f i u*f v j+f i v*f u j)%2
def zb7(n:Nat)(f:Nat->Nat->Int)(p:Nat):List Nat:=(qA9 n).filter fun k=>decide (f p k=1) && !decide ((k:Int)=(p:Int))
def chg(f:Nat->Nat->Int)(b:Nat->Nat->Bool):Nat->Nat->Int:=fun i j=>if b i j=true then 1-f i j else f i j
def zVQ(h:Bits n f):Bits n (chg f b):=fun i j hi hj=>by
 have:=h i j hi hj;unfold chg;split<;>lia
def pvA(n:Nat)(f:Nat->Nat->Int)(v:Nat):Nat->Nat->Int:=chg f fun i j=>decide (i∈zb7 n f v)&&decide (j∈zb7 n f v)
def sdD(n:Nat)(a b:Nat->Int):Dt:=.lst ((qA9 n).map fun i=>Dt.tup [.int (a i),.int (b i)])
def zTY{n:Nat}{i:Nat}(h:i<n):ixD (sdD n a b) (.int (i:Int))=some (.tup [.int (a i),.int (b i)]):=by
 refine zCD rfl ?_;simp[h]
def zW3(n:Nat)(a b:Nat->Int):(sdD n a b).dep<=2:=by
 unfold sdD;rw[v_dl];have:∀l:List Nat,Dt.depL (l.map fun i=>Dt.tup [.int (a i),.int (b i)])<=1:=fun l=>by
  induction l with
  |nil=>exact qAv _
  |cons x t ih=>
   rw[qAm,zGE];have:(Dt.tup [.int (a x),.int (b x)]).dep=1:=by simp
   rw[this];exact Nat.max_le.mpr ⟨qA5 1,ih⟩
 have:=this (qA9 n);lia
def off(a:Nat->Int)(u:Nat):Nat->Int:=fun i=>if i=u then 0 else a i
def zRA{r:Ro}{i u:Nat}{e1:EM}(h:r[i]?=some (some (sdD n a b,2)))(h1:e1 (full r)=okR (.int (u:Int)))(hu:u<n):sItem i 1 e1 (eTup (aCons (eC (.int 0)) (aCons (eC (.int 0)) aNil))) r=okR (.nx (r.set i (some (sdD n (off a u) (off b u),2)))):=by
 unfold sItem;rw[et2 rfl rfl,zA0,h];show zA3 (e1 (full r)) _=_;rw[h1,zA0];dsimp only;rw[zM5 (by lia) (by simp;lia)];dsimp only;rw[if_pos (by simp),qBc]
 congr 5;unfold sdD;congr 1;apply qE2;intro k;rw[qEz];by_cases z:u=k
 ·subst z;rw[if_pos rfl,if_pos (by simp;lia)];simp[hu,off]
 ·rw[if_neg z]
  by_cases hk:k<n
  ·simp[hk,off,show ¬k=u from fun y=>z y.symm]
  ·simp[hk]
def exB(a b:Nat->Int)(i j:Nat):Bool:=(decide (a i=1)||decide (b i=1))&&((decide (a j=1)||decide (b j=1)) && !(decide (a i=a j)&&decide (b i=b j)))
def zSJ(x y:Int):inD false (.int 1) (.tup [.int x,.int y])=some (.bl (decide (x=1)||decide (y=1))):=by
 show(hasD (.int 1) [.int x,.int y]).map _=_;unfold hasD;rw[if_pos (by simp)];simp[Dt.eq];rfl
def zb8(x y z w:Int):neD (.tup [.int x,.int y]) (.tup [.int z,.int w])=some (.bl (!(decide (x=z)&&decide (y=w)))):=by
 unfold neD;rw[if_pos (by simp)];simp[Dt.eq,Dt.eqL];rfl
def zNQ{n:Nat}{i j:Nat}(hi:i<n)(hj:j<n):zAX [.int (i:Int),.int (j:Int),sdD n a b]=okR (.bl (exB a b i j)):=by
 unfold zAX lamF;refine Eq.trans (if_pos (by rfl)) ?_;exact an1 (b2 rfl (b2 rfl rfl (zTY hi)) (zSJ _ _)) (an1 (b2 rfl (b2 rfl rfl (zTY hj)) (zSJ _ _)) (b2 (b2 rfl rfl (zTY hi)) (b2 rfl rfl (zTY hj)) (zb8 _ _ _ _)))
def swq(n u v:Nat):List Nat:=((qA9 n).set u v).set v u
def zJP(n u v:Nat):(swq n u v).length=n:=by simp[swq]
def zN8{n u v:Nat}(hu:u<n)(hv:v<n){i:Nat}(hi:i<n):(swq n u v).getD i 0=if i=v then u else if i=u then v else i:=by
 unfold swq;rw[qA3];by_cases z:i=v
 ·subst z;rw[if_pos rfl,qAo (by simp;lia)];rfl
 ·rw[if_neg z,qAq fun y=>z y.symm]
  by_cases w:i=u
  ·subst w;rw[if_pos rfl,qAo (by simp;lia)];rfl
  ·rw[if_neg w,qAq fun y=>w y.symm,qDo hi];rfl
def zZW{n u v:Nat}(hu:u<n)(hv:v<n):∀k∈swq n u v,k<n:=fun k hk=>by
 obtain⟨i,hi,e⟩:=List.mem_iff_getElem.mp hk;rw[zJP]at hi;have:=zN8 hu hv hi;rw[qA3,qA6 (by rw[zJP];exact hi),e]at this;have h2:k=if i=v then u else if i=u then v else i:=this
 rw[h2];split
 ·exact hu
 ·split
  ·exact hv
  ·exact hi
def sdA(f:Nat->Nat->Int)(u v:Nat)(w:Nat):Nat->Int:=off (off (f w) u) v
def pvB(n:Nat)(f:Nat->Nat->Int)(u v:Nat):Nat->Nat->Int:=sub (swq n u v) (chg f (exB (sdA f u v u) (sdA f u v v)))
def zaL{u v:Nat}(hb:Bits n f)(hs:Sym n f)(hu:u<n)(hv:v<n)(ne:u≠v)(h1:f u u=0)(h2:f v v=0)(h3:f u v=1):Pv2 n f (pvB n f u v) u v:=by
 have h4:f v u=1:=by rw[hs v u hv hu];exact h3
 have a0:∀w x,x=u\/x=v->sdA f u v w x=0:=fun w x hx=>by
  unfold sdA off;by_cases z:x=v
  ·rw[if_pos z]
  ·rw[if_neg z,if_pos (hx.resolve_right z)]
 have a1:∀w x,x≠u->x≠v->sdA f u v w x=f w x:=fun w x z1 z2=>by
  unfold sdA off;rw[if_neg z2,if_neg z1]
 have out:∀i j,(i=u\/i=v)\/(j=u\/j=v)->chg f (exB (sdA f u v u) (sdA f u v v)) i j=f i j:=fun i j z=>by
  unfold chg;refine if_neg ?_;unfold exB;rcases z with z|z
  ·rw[a0 u i z,a0 v i z];simp
  ·rw[a0 u j z,a0 v j z];simp
 have at':∀i j,i<n->j<n->pvB n f u v i j=chg f (exB (sdA f u v u) (sdA f u v v)) (if i=v then u else if i=u then v else i) (if j=v then u else if j=u then v else j):=fun i j hi hj=>by
  unfold pvB sub;rw[zN8 hu hv hi,zN8 hu hv hj]
 have fu:(if u=v then u else if u=u then v else u)=v:=by rw[if_neg ne,if_pos rfl]
 have fv:(if v=v then u else if v=u then v else v)=u:=if_pos rfl;have fo:∀i,i≠u->i≠v->(if i=v then u else if i=u then v else i)=i:=fun i z1 z2=>by rw[if_neg z2,if_neg z1]
 refine⟨hb,fun i j hi hj=>?_,hu,hv,ne,⟨h1,h2,h3,h4⟩,⟨?_,?_,?_,?_⟩,fun i hi z1 z2=>⟨?_,?_⟩,fun i hi z1 z2=>⟨?_,?_⟩,fun i j hi hj z1 z2 z3 z4=>?_⟩
 ·rw[at' i j hi hj];refine zVQ hb _ _ ?_ ?_
  ·split
   ·exact hu
   ·split
    ·exact hv
    ·exact hi
  ·split
   ·exact hu
   ·split
    ·exact hv
    ·exact hj
 ·rw[at' u u hu hu,fu,out v v (.inl (.inr rfl))];exact h2
 ·rw[at' v v hv hv,fv,out u u (.inl (.inl rfl))];exact h1
 ·rw[at' u v hu hv,fu,fv,out v u (.inl (.inr rfl))];exact h4
 ·rw[at' v u hv hu,fu,fv,out u v (.inl (.inl rfl))];exact h3
 ·rw[at' u i hu hi,fu,fo i z1 z2,out v i (.inl (.inr rfl))]
 ·rw[at' v i hv hi,fv,fo i z1 z2,out u i (.inl (.inl rfl))]
 ·rw[at' i u hi hu,fu,fo i z1 z2,out i v (.inr (.inr rfl))]
 ·rw[at' i v hi hv,fv,fo i z1 z2,out i u (.inr (.inl rfl))]
 ·rw[at' i j hi hj,fo i z1 z2,fo j z3 z4,hs i u hi hu,hs i v hi hv];unfold chg exB;rw[a1 u i z1 z2,a1 v i z1 z2,a1 u j z3 z4,a1 v j z3 z4]
  rcases hb u i hu hi with a|a<;>rcases hb v i hv hi with b|b<;>rcases hb u j hu hj with c|c<;>rcases hb v j hv hj with d|d<;>rw[a,b,c,d]<;>simp<;>lia
structure Tb2(f:Nat->Nat->Int):Prop where
 bit:∀i j,f i j=0\/f i j=1
 sym:∀i j,f i j=f j i
def Tb2.bits(h:Tb2 f)(n:Nat):Bits n f:=fun i j _ _=>h.bit i j
def Tb2.sm(h:Tb2 f)(n:Nat):Sym n f:=fun i j _ _=>h.sym i j
def zcA{ρ:Rh}{i m:Nat}(hm:m=ρ.length)(hi:ρ[i]?=some (some (mat (tab n f))))(hn:n<=1000):eComp (iSq (eV i)) 1 (.one m) Mi.tYes (eBi listD (aCons (eV m) aNil)) ρ=okR (mat (tab n f)):=by
 refine zCB rowD rowD (tab n f) rfl hm (fun r _=>bi1 (d1:=rowD r) (v1 (by rw[hm,qAc (qA5 _)];simp)) rfl) _ ?_ (by rw[zEF];lia);show zA3 (eV i ρ) _=_;rw[v1 hi];rfl
def Pg(n:Nat)(f t g:Nat->Nat->Int)(E:Nat->Nat->Prop):Prop:=∀i j,i<n->j<n->(E i j->g i j=t i j)/\(¬E i j->g i j=f i j)
def zaQ{g':Nat->Nat->Int}{a b:Nat}{v:Int}(h:Pg n f t g E)(hg:g'=fun x y=>if x=a/\y=b then v else g x y)(hv:v=t a b):Pg n f t g' (fun i j=>E i j\/(i=a/\j=b)):=fun i j hi hj=>by
 rw[hg];show(_->(if i=a/\j=b then v else g i j)=_)/\(_->(if i=a/\j=b then v else g i j)=_)
 by_cases c:i=a/\j=b
 ·rw[if_pos c];exact⟨fun _=>by rw[hv,c.1,c.2],fun z=>absurd (.inr c) z⟩
 ·rw[if_neg c];exact⟨fun z=>(h i j hi hj).1 (z.resolve_right c),fun z=>(h i j hi hj).2 fun y=>z (.inl y)⟩
def zRN{E':Nat->Nat->Prop}(h:Pg n f t g E)(e:∀i j,i<n->j<n->(E i j↔E' i j)):Pg n f t g E':=fun i j hi hj=>⟨fun z=>(h i j hi hj).1 ((e i j hi hj).mpr z),fun z=>(h i j hi hj).2 fun y=>z ((e i j hi hj).mp y)⟩
def GdA(n:Nat)(f:Nat->Nat->Int)(v:Nat):Prop:=v<n/\f v v=1
def GdB(n:Nat)(f:Nat->Nat->Int)(u v:Nat):Prop:=u<n/\v<n/\u≠v/\f u v=1/\f u u=0/\f v v=0
inductive Du(n:Nat)(f:Nat->Nat->Int):List Int->Option (Nat->Nat->Int)->Prop where
 |one {v:Nat} (h:GdA n f v):Du n f [(v:Int)] (some (pvA n f v))
 |two {u v:Nat} (h:GdB n f u v):Du n f [(u:Int),(v:Int)] (some (pvB n f u v))
 |no {l:List Int} (h1:∀v:Nat,l=[(v:Int)]->¬GdA n f v) (h2:∀u v:Nat,l=[(u:Int),(v:Int)]->¬GdB n f u v):Du n f l none
def zcI{x y:Int}(hx:x=0\/x=1)(hy:y=0\/y=1)(h:x%2=y%2):x=y:=by lia
def zU7(p:Pv2 n g h u v)(q:Pv2 n g f u v):tab n h=tab n f:=zN4 fun i j hi hj=>by
 obtain⟨g1,g2,g3,g4⟩:=p.gd;obtain⟨f1,f2,f3,f4⟩:=q.gd;by_cases iu:i=u
 ·subst iu
  by_cases ju:j=i
  ·rw[ju,g1,f1]
  ·by_cases jv:j=v
   ·rw[jv,g3,f3]
   ·rw[(p.row j hj ju jv).1,(q.row j hj ju jv).1]
 ·by_cases iv:i=v
  ·subst iv
   by_cases ju:j=u
   ·rw[ju,g4,f4]
   ·by_cases jv:j=i
    ·rw[jv,g2,f2]
    ·rw[(p.row j hj ju jv).2,(q.row j hj ju jv).2]
  ·by_cases ju:j=u
   ·rw[ju,(p.col i hi iu iv).1,(q.col i hi iu iv).1]
   ·by_cases jv:j=v
    ·rw[jv,(p.col i hi iu iv).2,(q.col i hi iu iv).2]
    ·exact zcI (p.bg i j hi hj) (q.bg i j hi hj) ((p.inn i j hi hj iu iv ju jv).trans (q.inn i j hi hj iu iv ju jv).symm)
def zYD{γ:Type}{b:SM}{X:Ro->Prop}(e1 e2:γ->Dt)(ns:List γ)(Pv:Ro->Prop)(h:Pv r)(hs:∀x∈ns,∀r,Pv r->nxR (b ((r.set i (some (e1 x,0))).set j (some (e2 x,0)))) Pv)(hK:∀r',Pv r'->X r'):nxR (forGo (.tup [i,j]) b (ns.map fun x=>Dt.tup [e1 x,e2 x]) r) X:=by
 obtain⟨r',h1,h2⟩:=zIB (tg:=.tup [i,j]) (b:=b) (fun _=>Pv) (ns.map fun x=>Dt.tup [e1 x,e2 x]) 0 r h fun k d r hd hp=>by
  rw[qAd]at hd;cases e:ns[k]? with
  |none=>rw[e]at hd;cases hd
  |some q=>
   rw[e]at hd;cases hd;obtain⟨r',g1,g2⟩:=zD3 (hs q (qBo e) r hp);exact⟨_,r',rfl,g1,g2⟩
 rw[h1];exact hK r' h2
def zJO(A:List (List Int)):zC2 [mat A,mat A]=okR (.bl true):=by
 have hd:=zBR A;have hlen:lenD [mat A]=some (.int (A.length:Int)):=lenM A;have hz:zipD (A.map rowD) (A.map rowD)=A.map fun r=>Dt.tup [rowD r,rowD r]:=by
  induction A with
  |nil=>rfl
  |cons r t ih=>rw[qAm,zipD,qAm,ih (zBR t) (lenM t)]
 refine zBA rfl (sp (to0 (tn1 (k:=true) (tm1 rfl)) (nei (bi1 rfl hlen) (bi1 rfl hlen) (by simp))) (zDU fun bb hb=>?_));rw[zHG];show nxR (zA3 (okR (zipD (A.map rowD) (A.map rowD))) fun ds=>forGo (.tup [2,3]) _ ds [some (mat A,0),some (mat A,0),none,none,none]) _;rw[zA0,hz];refine zYD rowD rowD A (fun r=>∃o2 o3 o4,r=[some (mat A,0),some (mat A,0),o2,o3,o4]) ⟨none,none,none,rfl⟩ (fun x _ r hr=>?_) fun r hr=>?_
 ·obtain⟨o2,o3,o4,rfl⟩:=hr;refine nsw (sf (to0 (tn1 (k:=true) (tm1 rfl)) (nei (bi1 rfl (lenR x)) (bi1 rfl (lenR x)) (by simp)))) ?_;rw[zHG];show nxR (zA3 (okR (x.map Dt.int)) fun ds=>forGo (.one 4) _ ds [some (mat A,0),some (mat A,0),some (rowD x,0),some (rowD x,0),o4]) _;rw[zA0];refine zNL Dt.int x (fun _ r=>∃o4,r=[some (mat A,0),some (mat A,0),some (rowD x,0),some (rowD x,0),o4]) ⟨o4,rfl⟩ (fun k y _ r hr=>?_) fun r hr=>?_
  ·obtain⟨o4,rfl⟩:=hr;exact zD4 (sf (to0 (tn1 (k:=true) (tm1 rfl)) (tm1 rfl))) ⟨_,rfl⟩
  ·obtain⟨o4,rfl⟩:=hr;exact⟨_,_,_,rfl⟩
 ·obtain⟨o2,o3,o4,rfl⟩:=hr;subst hb;refine sr (b2 rfl rfl ?_) ⟨qA5 0,qA5 0⟩;unfold eqD;rw[if_pos ⟨by lia,by lia⟩,zWU,decide_eq_true rfl]
def zJJ(c:Int):∀A:List (List Int),(∀r∈A,r.length<=1000)->addAll c (A.map rowD)=some (A.map fun r=>rowD (r++[c]))
 |[],_=>rfl
 |r::A,h=>by
  have h1:=h r (by simp);rw[qAm];show addAll c (.lst (r.map Dt.int)::A.map rowD)=_;rw[addAll,if_pos (by rw[qAg];lia),zJJ c A fun x hx=>h x (by simp[hx])];show some (_::_)=_;rw[qAm];unfold rowD;rw[qCb];rfl
def Wb(f:Nat->Nat->Int):Prop:=Web f/\∀i j,f i j=f j i
def Wb.t2(h:Wb f):Tb2 f:=⟨h.1.1,h.2⟩
def zOF(h:Wb f)(p:Nat):Wb (tnw f p):=⟨zXK h.1 p,fun i j=>by
 unfold tnw;rw[h.2 i j];by_cases z:f p i=1/\f p j=1/\i≠j
 ·rw[if_pos z,if_pos ⟨z.2.1,z.1,fun e=>z.2.2 e.symm⟩]
 ·rw[if_neg z,if_neg fun y=>z ⟨y.2.1,y.1,fun e=>y.2.2 e.symm⟩]⟩
def zHK{i j:Nat}(h:i≠j):tnw f p i j=if f p i=1/\f p j=1 then 1-f i j else f i j:=by
 unfold tnw;by_cases z:f p i=1/\f p j=1
 ·rw[if_pos z,if_pos ⟨z.1,z.2,h⟩]
 ·rw[if_neg z,if_neg fun y=>z ⟨y.1,y.2.1⟩]
def tn3(f:Nat->Nat->Int)(u v:Nat):Nat->Nat->Int:=tnw (tnw (tnw f u) v) u
def zZT{n:Nat}{u v:Nat}(w:Wb f)(hu:u<n)(hv:v<n)(ne:u≠v)(h:f u v=1):Pv2 n f (tn3 f u v) u v:=by
 have w1:=zOF w u;have w2:=zOF w1 v;have w3:Wb (tn3 f u v):=zOF w2 u;have vu:f v u=1:=by rw[w.2];exact h
 have g1u:∀i,tnw f u u i=f u i:=fun i=>zQY w.1 u i
 have g1vu:tnw f u v u=1:=by rw[w1.2 v u,g1u];exact h
 have g1v:∀i,i≠v->i≠u->tnw f u v i=if f u i=1 then 1-f v i else f v i:=fun i z _=>by
  rw[zHK (qC9 z)];by_cases y:f u i=1
  ·rw[if_pos ⟨h,y⟩,if_pos y]
  ·rw[if_neg fun x=>y x.2,if_neg y]
 have g2v:∀i,tnw (tnw f u) v v i=tnw f u v i:=fun i=>zQY w1.1 v i
 have g2uv:tnw (tnw f u) v u v=1:=by rw[w2.2 u v,g2v];exact g1vu
 have g2u:∀i,i≠v->i≠u->tnw (tnw f u) v u i=f v i:=fun i z1 z2=>by
  rw[zHK (qC9 z2),g1u,g1vu,g1v i z1 z2];rcases w.1.1 u i with a|a<;>rcases w.1.1 v i with b|b<;>rw[a,b]<;>decide
 have g3u:∀i,tn3 f u v u i=tnw (tnw f u) v u i:=fun i=>zQY w2.1 u i
 have g3v:∀i,i≠v->i≠u->tn3 f u v v i=f u i:=fun i z1 z2=>by
  unfold tn3;rw[zHK (qC9 z1),g2uv,g2u i z1 z2,g2v,g1v i z1 z2];rcases w.1.1 u i with a|a<;>rcases w.1.1 v i with b|b<;>rw[a,b]<;>decide
 have uv3:tn3 f u v u v=1:=by rw[g3u];exact g2uv
 refine⟨w.t2.bits n,w3.t2.bits n,hu,hv,ne,⟨w.1.2 u,w.1.2 v,h,vu⟩,⟨w3.1.2 u,w3.1.2 v,uv3,by rw[w3.2];exact uv3⟩,fun i hi z1 z2=>⟨by rw[g3u];exact g2u i z2 z1,g3v i z2 z1⟩,fun i hi z1 z2=>⟨by rw[w3.2,g3u,g2u i z2 z1];exact w.2 v i,by rw[w3.2,g3v i z2 z1];exact w.2 u i⟩,fun i j hi hj z1 z2 z3 z4=>?_⟩;rw[w.2 i u,w.2 i v]
 by_cases e:i=j
 ·subst e;rw[w3.1.2 i,w.1.2 i]
  rcases w.1.1 u i with a|a<;>rcases w.1.1 v i with b|b<;>rw[a,b]<;>decide
 ·unfold tn3;rw[zHK e,zHK e,zHK e,g2u i z2 z1,g2u j z4 z3,g1v i z2 z1,g1v j z4 z3]
  rcases w.1.1 i j with c|c<;>rcases w.1.1 u i with a|a<;>rcases w.1.1 v i with b|b<;>rcases w.1.1 u j with a'|a'<;>rcases w.1.1 v j with b'|b'<;>rw[a,b,a',b',c]<;>decide
def zXL{n:Nat}{u v:Nat}(w:Wb f)(hu:u<n)(hv:v<n)(h:f u v=1):tab n (pvB n f u v)=tab n (tn3 f u v):=by
 have ne:u≠v:=fun z=>by rw[z,w.1.2]at h;lia
 exact zU7 (zaL (w.t2.bits n) (w.t2.sm n) hu hv ne (w.1.2 u) (w.1.2 v) h) (zZT w hu hv ne h)
theorem zPJ{n:Nat}{f:Nat->Nat->Int}{x:Str}{fm:FM}{c:Dt}(b:Nat->Nat->Bool)(hn:n<=10)(hb:Bits n f)(hl:([("turned_at",zBD),("exchanged_at",zAX)]:List (Str×FM)).lookup x=some fm)(hc:c.dep<=40)(h:∀i j:Nat,i<n->j<n->fm [.int (i:Int),.int (j:Int),c]=okR (.bl (b i j))) :
  zB3 [mat (tab n f),.fn x c]=okR (mat (tab n (chg f b))):=by
 have hlen:lenD [mat (tab n f)]=some (.int (n:Int)):=by rw[lenM,zEF]
 have hd:=zBR (tab n (chg f b));refine zBA rfl (sg (bi1 rfl hlen) (qA5 0) (sr ?_ ⟨hd,hd⟩));refine zVO (chg f b) rfl rfl (by lia) (zKZ (n:=n) (al0 rfl) (by lia)) (fun a=>zKZ (n:=n) (al0 rfl) (by lia)) fun i j hi hj=>?_
 have ht:=tm1 (zcH (ρ:=[some (mat (tab n f)),some (.fn x c),some (.int (n:Int)),some (.int (i:Nat)),some (.int (j:Nat))]) (i:=1) (e1:=eV 3) (e2:=eV 4) rfl rfl rfl hc rfl rfl (h i j hi hj) rfl [("turned_at",zBD),("exchanged_at",zAX)] hl);refine b2 (b2 (b2 rfl rfl (ixM hi)) rfl (ixR hj)) (d2:=.int (if b i j=true then 1 else 0)) ?_ ?_
 ·cases z:b i j with
  |true=>rw[z]at ht;exact if1 ht rfl
  |false=>rw[z]at ht;exact if0 ht rfl
 ·rw[zcP,bitx _ _ (hb i j hi hj) (by split<;>lia)];unfold chg;cases z:b i j with
  |true=>rw[if_pos rfl,if_pos rfl,if_pos rfl]
  |false=>rw[if_neg qAj,if_neg qAj,if_neg (by lia)]
theorem zXJ{n p:Nat}{f:Nat->Nat->Int}(hn:n<=10)(hp:p<n)(hw:Wb f):zCV [mat (tab n f),.int (p:Int)]=okR (mat (tab n (tnw f p))):=by
 have hd:=zBR (tab n (tnw f p));have hlam:∀i j:Nat,zBD [.int (i:Int),.int (j:Int),rowD (numL (zFZ n f p))]=okR (.bl (!decide ((i:Int)=j)&&(decide (i∈zFZ n f p)&&decide (j∈zFZ n f p)))):=fun i j=>by
  unfold zBD lamF;refine Eq.trans (if_pos (by rfl)) ?_;exact an1 (b2 rfl rfl (neI _ _)) (an1 (b2 rfl rfl (zSK i _)) (b2 rfl rfl (zSK j _)))
 have hcw:=zPJ (x:="turned_at") (c:=rowD (numL (zFZ n f p))) _ hn (hw.t2.bits n) rfl (by rw[zCM];decide) fun i j _ _=>hlam i j
 have hm:∀k,k<n->(k∈zFZ n f p↔f p k=1):=fun k hk=>by
  unfold zFZ;simp[hk]
 have e:tab n (chg f fun i j=>!decide ((i:Int)=j)&&(decide (i∈zFZ n f p)&&decide (j∈zFZ n f p)))=tab n (tnw f p):=zN4 fun i j hi hj=>by
  unfold chg tnw;by_cases z:f p i=1/\f p j=1/\i≠j
  ·rw[if_pos z,if_pos]
   show(!decide ((i:Int)=j)&&(decide (i∈zFZ n f p)&&decide (j∈zFZ n f p)))=true;rw[decide_eq_false (show ¬(i:Int)=j by lia),decide_eq_true ((hm i hi).mpr z.1),decide_eq_true ((hm j hj).mpr z.2.1)];rfl
  ·rw[if_neg z,if_neg];intro y;simp only[qBh,qEy,decide_eq_true_eq,decide_eq_false_iff_not]at y;exact z ⟨(hm i hi).mp y.2.1,(hm j hj).mp y.2.2,by lia⟩
 rw[e]at hcw;exact zBA rfl (sg (c2 rfl rfl (zS2 n p f hn hp hw.1)) (by rw[zCM];exact qA5 1) (sr (zX7 rfl rfl hcw (by lia)) ⟨hd,hd⟩))
def zdK{n:Nat}{u v:Nat}(hn:n<=10)(hb:Bits n f)(hu:u<n)(hv:v<n):zC8 [mat (tab n f),.int (u:Int),.int (v:Int)]=okR (mat (tab n (pvB n f u v))):=by
 have hlen:lenD [mat (tab n f)]=some (.int (n:Int)):=by rw[lenM,zEF]
 have hd:=zBR (tab n (pvB n f u v));have hd2:=zBR (tab n (chg f (exB (sdA f u v u) (sdA f u v v))));have hr:rangeD [.int (n:Int)]=some (rowD (numL (qA9 n))):=by
  rw[zXG (by lia) (by lia)];show some (Dt.lst (nums 0 (n:Int).toNat))=_;rw[qBc,zFY,numD]
 have hc:∀o4 o5:Option Dt,eComp (iR1 (aCons (eBi lenD (aCons (eV 0) aNil)) aNil)) 1 (.one 6) Mi.tYes (eTup (aCons (eB ixD (eB ixD (eV 0) (eV 1)) (eV 6)) (aCons (eB ixD (eB ixD (eV 0) (eV 2)) (eV 6)) aNil))) [some (mat (tab n f)),some (.int (u:Int)),some (.int (v:Int)),none,o4,o5]=okR (sdD n (f u) (f v)):=fun o4 o5=>
  zEW (fun i=>Dt.tup [.int (f u i),.int (f v i)]) n rfl rfl (fun k hk=>et2 (b2 (b2 rfl rfl (ixM hu)) rfl (ixR hk)) (b2 (b2 rfl rfl (ixM hv)) rfl (ixR hk))) _ (zKZ (n:=n) (al0 (bi1 rfl hlen)) (by lia)) (by lia)
 have hpart:=zUG n (chg f (exB (sdA f u v u) (sdA f u v v))) (swq n u v) (zZW hu hv) (by rw[zJP];lia);rw[zJP]at hpart;have hcw:=zPJ (x:="exchanged_at") (c:=sdD n (sdA f u v u) (sdA f u v v)) (exB (sdA f u v u) (sdA f u v v)) hn hb rfl (qAt (zW3 _ _ _) (by decide)) fun i j hi hj=>zNQ hi hj
 have s1:∀a:List Nat,(numL a).set u (v:Int)=numL (a.set u v):=fun a=>by unfold numL;rw[qFq]
 have s2:∀a:List Nat,(numL a).set v (u:Int)=numL (a.set v u):=fun a=>by unfold numL;rw[qFq]
 have it1:=zM6 (r:=[some (mat (tab n f),0),some (.int (u:Int),0),some (.int (v:Int),0),some (sdD n (sdA f u v u) (sdA f u v v),2),some (mat (tab n (chg f (exB (sdA f u v u) (sdA f u v v)))),2),some (rowD (numL (qA9 n)),1)]) (i:=5) (m:=0) (l:=0) (a:=u) (xs:=numL (qA9 n)) (v:=(v:Int)) (e1:=eV 1) (e2:=eV 2) rfl rfl rfl (by simp[numL];lia);rw[s1]at it1;have it2:=zM6 (r:=[some (mat (tab n f),0),some (.int (u:Int),0),some (.int (v:Int),0),some (sdD n (sdA f u v u) (sdA f u v v),2),some (mat (tab n (chg f (exB (sdA f u v u) (sdA f u v v)))),2),some (rowD (numL ((qA9 n).set u v)),1)]) (i:=5) (m:=0) (l:=0) (a:=v) (xs:=numL ((qA9 n).set u v)) (v:=(u:Int)) (e1:=eV 2) (e2:=eV 1) rfl rfl rfl (by simp[numL];lia);rw[s2]at it2;exact zBA rfl (sg (hc none none) (zW3 _ _ _) (sw (zRA rfl rfl hu) (sw (zRA rfl rfl hv) (sg (zX7 rfl rfl hcw (by lia)) hd2 (sg (bi1 (bi1 rfl hlen) hr) (by rw[zCM];exact qA5 1) (sw it1 (sw it2 (sr (c2 rfl rfl hpart) ⟨hd,hd⟩))))))))
def lkY{β:Type}{a:Str}{x:β}{l:List (Str×β)}:((a,x)::l).lookup a=some x:=by rw[qAy,beq_self_eq_true]
def lkN{β:Type}{a b:Str}{x:β}{l:List (Str×β)}{o:Option β}(h:(a==b)=false)(h2:l.lookup a=o):((b,x)::l).lookup a=o:=by rw[qAy,h,<- h2]
def fld1{hs:List Str}{e:EM}(h:e ρ=okR (.ins c fs))(hc:c∈hs)(hf:fs.lookup f=some v):eFld hs f e ρ=okR (dSv v):=by
 rw[zZL,h,zA0];dsimp only;rw[if_pos hc,hf]
def mth{tb:List (Str×FM)}{e0 e1 e2:EM}{X:R Dt}(h0:e0 ρ=okR (.ins c fs))(hl:tb.lookup c=some g)(hf:fs.lookup m=none)(h1:e1 ρ=okR d1)(h2:e2 ρ=okR d2)(hg:g [.ins c fs,d1,d2]=X):eMeth tb m e0 (aCons e1 (aCons e2 aNil)) ρ=X:=by
 rw[zQP,h0,zA0];dsimp only;rw[hl];dsimp only;rw[hf];dsimp only;rw[zBS,h1,zA0,al0 h2,zA0];exact hg
def cn8{m:FM}{e1:EM}(h1:e1 ρ=okR d1)(h:m [d1]=okR d):eCallN m (aCons e1 aNil) ρ=okR d:=by
 unfold eCallN;rw[al0 h1,zA0,h];rfl
def oo:(("other":Str)==("one":Str))=false:=by decide +kernel
def zcB{n:Nat}{d s:Dt}(hn:n<=10):zAM [d,s,mat (tab n f)]=okR (mat (tab n f)):=
 zBA rfl (sr (cn8 rfl (zVN _ (by unfold tab;simp;lia))) ⟨zBR _,zBR _⟩)
def nTS:(("Swap":Str)==("Turn":Str))=false:=by decide +kernel
def nMT:(("Mirror":Str)==("Turn":Str))=false:=by decide +kernel
def nMS:(("Mirror":Str)==("Swap":Str))=false:=by decide +kernel
def nhT:(("Shift":Str)==("Turn":Str))=false:=by decide +kernel
def nhS:(("Shift":Str)==("Swap":Str))=false:=by decide +kernel
def nhM:(("Shift":Str)==("Mirror":Str))=false:=by decide +kernel
def nd1:(("done_web":Str)==("one":Str))=false:=by decide +kernel
def nd2:(("done_web":Str)==("other":Str))=false:=by decide +kernel
def nd3:(("done_web":Str)==("letter":Str))=false:=by decide +kernel
def nd4:(("done_web":Str)==("by":Str))=false:=by decide +kernel
def ssf8{n:Nat}{e:EM}(he:e (full r)=okR d)(hd:¬d.dep<=n)(he2:e (frz (frzAt vs r))=okR d):sSet i n vs e r=okR (.nx ((frzAt vs r).set i (some (d,n)))):=by
 rw[zKY,he,zA0,if_neg hd,he2];rfl
def fv(P0 P1 P2 P3 P4:List Nat)(a b c d:Nat):List Nat:=P0++a::(P1++b::(P2++c::(P3++d::P4)))
def zP7(P0 P1 P2 P3 P4:List Nat)(a b c d:Nat):(fv P0 P1 P2 P3 P4 a b c d).length=P0.length+P1.length+P2.length+P3.length+P4.length+4:=by
 unfold fv;simp;lia
section
variable{P0:List Nat}
def q0(P0:List Nat):Nat:=P0.length
def q1(P0 P1:List Nat):Nat:=P0.length+1+P1.length
def q2(P0 P1 P2:List Nat):Nat:=P0.length+1+P1.length+1+P2.length
def q3(P0 P1 P2 P3:List Nat):Nat:=P0.length+1+P1.length+1+P2.length+1+P3.length
def zOP{cs U V W:List Nat}{i j:Int}(e:cs=U++(V++W))(hi:i=(U.length:Int))(hj:j=((U.length+V.length:Nat):Int))(hz:cs.length<=1000):slD (.str ⟨cs.toArray⟩) (some i) (some j)=some (.str ⟨V.toArray⟩):=by
 subst hi hj;have hl:cs.length=U.length+(V.length+W.length):=by rw[e];simp
 rw[zDL _ _ hz,zKO _ (by lia) (by lia),e,qDd,show U.length+V.length-U.length=V.length by lia,qDx]
 ·rfl
 ·rfl
def zcZ{cs U W:List Nat}{j:Int}(e:cs=U++W)(hj:j=(U.length:Int))(hz:cs.length<=1000):slD (.str ⟨cs.toArray⟩) none (some j)=some (.str ⟨U.toArray⟩):=by
 subst hj;rw[zDL _ _ hz,zG5,e,qDx];rfl
def zXQ{cs U W:List Nat}{j:Int}(e:cs=U++W)(hj:j=(U.length:Int))(hz:cs.length<=1000):slD (.str ⟨cs.toArray⟩) (some j) none=some (.str ⟨W.toArray⟩):=by
 subst hj;rw[zDL _ _ hz,zE9,e,qDd];rfl
def zYP{cs U W:List Nat}{z:Nat}{j:Int}(e:cs=U++z::W)(hj:j=(U.length:Int))(hz:cs.length<=1000):ixD (.str ⟨cs.toArray⟩) (.int j)=some (sgn z):=by
 subst hj;have hl:cs.length=U.length+(W.length+1):=by rw[e];simp
 rw[zM4 (by lia) hz,e]
 congr 2;rw[qA3,qAc (qA5 _)];simp
structure Cuts(cs:List Nat)(P0 P1 P2 P3 P4:List Nat)(a b c d:Nat)(i0 i1 i2 i3:Int):Prop where
 s0:slD (.str ⟨cs.toArray⟩) none (some (i0+1))=some (.str ⟨(P0++[a]).toArray⟩)
 s1:slD (.str ⟨cs.toArray⟩) (some (i0+1)) (some i1)=some (.str ⟨P1.toArray⟩)
 s2:slD (.str ⟨cs.toArray⟩) (some (i1+1)) (some i2)=some (.str ⟨P2.toArray⟩)
 sb:slD (.str ⟨cs.toArray⟩) (some i1) (some (i2+1))=some (.str ⟨(b::(P2++[c])).toArray⟩)
 s3:slD (.str ⟨cs.toArray⟩) (some (i2+1)) (some i3)=some (.str ⟨P3.toArray⟩)
 s4:slD (.str ⟨cs.toArray⟩) (some i3) none=some (.str ⟨(d::P4).toArray⟩)
 x0:ixD (.str ⟨cs.toArray⟩) (.int i0)=some (sgn a)
 x1:ixD (.str ⟨cs.toArray⟩) (.int i1)=some (sgn b)
 x2:ixD (.str ⟨cs.toArray⟩) (.int i2)=some (sgn c)
def zYW(hz:(fv P0 P1 P2 P3 P4 a b c d).length<=1000):Cuts (fv P0 P1 P2 P3 P4 a b c d) P0 P1 P2 P3 P4 a b c d (q0 P0) (q1 P0 P1) (q2 P0 P1 P2) (q3 P0 P1 P2 P3):=by
 have hq0:q0 P0=P0.length:=rfl;have hq1:q1 P0 P1=P0.length+1+P1.length:=rfl;have hq2:q2 P0 P1 P2=P0.length+1+P1.length+1+P2.length:=rfl;have hq3:q3 P0 P1 P2 P3=P0.length+1+P1.length+1+P2.length+1+P3.length:=rfl;refine⟨zcZ (W:=P1++b::(P2++c::(P3++d::P4))) ?_ ?_ hz,zOP (U:=P0++[a]) (W:=b::(P2++c::(P3++d::P4))) ?_ ?_ ?_ hz,zOP (U:=P0++a::(P1++[b])) (W:=c::(P3++d::P4)) ?_ ?_ ?_ hz,zOP (U:=P0++a::P1) (W:=P3++d::P4) ?_ ?_ ?_ hz,zOP (U:=P0++a::(P1++b::(P2++[c]))) (W:=d::P4) ?_ ?_ ?_ hz,zXQ (U:=P0++a::(P1++b::(P2++c::P3))) ?_ ?_ hz,zYP (U:=P0) (W:=P1++b::(P2++c::(P3++d::P4))) ?_ ?_ hz,zYP (U:=P0++a::P1) (W:=P2++c::(P3++d::P4)) ?_ ?_ hz,zYP (U:=P0++a::(P1++b::P2)) (W:=P3++d::P4) ?_ ?_ hz⟩
 all_goals first
  |(unfold fv;simp;done)
  |(simp only[hq0,hq1,hq2,hq3,qAs,qAn,qCx];done)
  |(simp only[hq0,hq1,hq2,hq3,qAs,qAn,qCx];lia)
  |(simp[hq0,hq1,hq2,hq3];done)
  |(simp[hq0,hq1,hq2,hq3];lia)
def ix4:ixD (.lst [.int i0,.int i1,.int i2,.int i3]) (.int 0)=some (.int i0)/\ixD (.lst [.int i0,.int i1,.int i2,.int i3]) (.int 1)=some (.int i1)/\ixD (.lst [.int i0,.int i1,.int i2,.int i3]) (.int 2)=some (.int i2)/\ixD (.lst [.int i0,.int i1,.int i2,.int i3]) (.int 3)=some (.int i3):=by
 refine⟨?_,?_,?_,?_⟩
 ·rw[zFK];exact zCD (j:=0) rfl rfl
 ·rw[zFK];exact zCD (j:=1) rfl rfl
 ·rw[zFK];exact zCD (j:=2) rfl rfl
 ·rw[zFK];exact zCD (j:=3) rfl rfl
def zMC(K:Cuts cs P0 P1 P2 P3 P4 a b c d i0 i1 i2 i3)(hl:P0.length+P1.length+P2.length+P3.length+P4.length<=100):zE7 [.str ⟨cs.toArray⟩,.lst [.int i0,.int i1,.int i2,.int i3]]=okR (.str ⟨(fv P0 P3 P2 P1 P4 a b c d).toArray⟩):=by
 obtain⟨s0,s1,s2,sb,s3,s4,x0,x1,x2⟩:=K;obtain⟨j0,j1,j2,j3⟩:=ix4 (i0:=i0) (i1:=i1) (i2:=i2) (i3:=i3);generalize Dt.lst [Dt.int i0,Dt.int i1,Dt.int i2,Dt.int i3]=S at *;have a1:=add_str (a:=P0++[a]) (b:=P3) (by simp;lia);have a2:=add_str (a:=P0++[a]++P3) (b:=b::(P2++[c])) (by simp;lia);have a3:=add_str (a:=P0++[a]++P3++(b::(P2++[c]))) (b:=P1) (by simp;lia);have a4:=add_str (a:=P0++[a]++P3++(b::(P2++[c]))++P1) (b:=d::P4) (by simp;lia);rw[show P0++[a]++P3++(b::(P2++[c]))++P1++(d::P4)=fv P0 P3 P2 P1 P4 a b c d by simp only[fv,qB3,qB8,qDs]]at a4;exact zBA rfl (sg (sl2 rfl (b2 (b2 rfl rfl j0) rfl (adi rfl)) (b2 rfl rfl j1) s1) (qAv _) (sg (sl2 rfl (b2 rfl rfl j1) (b2 (b2 rfl rfl j2) rfl (adi rfl)) sb) (qAv _) (sg (sl2 rfl (b2 (b2 rfl rfl j2) rfl (adi rfl)) (b2 rfl rfl j3) s3) (qAv _) (sr (b2 (b2 (b2 (b2 (sl0 rfl (b2 (b2 rfl rfl j0) rfl (adi rfl)) s0) rfl a1) rfl a2) rfl a3) (sl1 rfl (b2 rfl rfl j3) s4) a4) ⟨qAv _,qAv _⟩))))
def zXP{m:List Int}(h:m.Perm l)(hm:m.Pairwise (·<=·)):sortI l=m:=by
 have h1:(sortI l).Perm l:=qC7 l _;have h2:(sortI l).Pairwise (·<=·):=by
  have:=qD1 (le:=fun a b:Int=>decide (a<=b)) (fun a b c h1 h2=>by simp at h1 h2 ⊢;lia) (fun a b=>by simp;lia) l
  exact this.imp fun h=>by simpa using h
 exact qGv (h1.trans h.symm) h2 hm
def zLC{u v u' v' i0 i1 i2 i3:Int}(h:[i0,i1,i2,i3].Perm [u,v,u',v'])(h1:i0<=i1)(h2:i1<=i2)(h3:i2<=i3):sadD (.tup [.int u,.int v]) (.tup [.int u',.int v'])=some (.lst [.int i0,.int i1,.int i2,.int i3]):=by
 have e:=zXP h (by simp;lia)
 show(@ite _ (([u,v]:List Int)≠[]/\([u',v']:List Int)≠[]/\([u,v]:List Int).length+([u',v']:List Int).length<64) (qA1 _) (some (Dt.lst ((sortI [u,v,u',v']).map .int))) none)=_;rw[if_pos ⟨by simp,by simp,by simp⟩,e];rfl
def swp(x y:Nat):Dt:=.ins "Swap" [("one",.s ⟨#[x]⟩),("other",.s ⟨#[y]⟩)]
def zOJ(K:Cuts cs P0 P1 P2 P3 P4 a b c d i0 i1 i2 i3)(hl:P0.length+P1.length+P2.length+P3.length+P4.length<=90)(hz:cs.length<=100)(hx:cs.count x=2)(hcr:(btw cs x).count y=1)
  (px:zB0 [.str ⟨cs.toArray⟩,sgn x]=okR (.tup [.int u,.int v])) (py:zB0 [.str ⟨cs.toArray⟩,sgn y]=okR (.tup [.int u',.int v'])) (hs:sadD (.tup [.int u,.int v]) (.tup [.int u',.int v'])=some (.lst [.int i0,.int i1,.int i2,.int i3])) :
  zBK [swp x y,.str ⟨cs.toArray⟩]=okR (.str ⟨(fv P0 P3 P2 P1 P4 a b c d).toArray⟩):=by
 have ex:=zMC K (by lia);have dc:=zNW (y:=y) hz hx;rw[decide_eq_true hcr]at dc;have l1:qB7 ("one":Str) [(("one":Str),Sv.s ⟨#[x]⟩),(("other":Str),Sv.s ⟨#[y]⟩)]=some (Sv.s ⟨#[x]⟩):=by simp[qB7]
 have l2:qB7 ("other":Str) [(("one":Str),Sv.s ⟨#[x]⟩),(("other":Str),Sv.s ⟨#[y]⟩)]=some (Sv.s ⟨#[y]⟩):=by
  rw[qAy,show(("other":Str)==("one":Str))=false by decide +kernel];simp[qB7]
 have d1:dSv (Sv.s ⟨#[x]⟩)=sgn x:=rfl;have d2:dSv (Sv.s ⟨#[y]⟩)=sgn y:=rfl;generalize fv P0 P3 P2 P1 P4 a b c d=out at *;have hcd:(Dt.lst [Dt.int i0,Dt.int i1,Dt.int i2,Dt.int i3]).dep=1:=by simp
 generalize Dt.lst [Dt.int i0,Dt.int i1,Dt.int i2,Dt.int i3]=cu at *;generalize Dt.tup [Dt.int u,Dt.int v]=tx at *;generalize Dt.tup [Dt.int u',Dt.int v']=ty at *;unfold swp;have key:zFI [some (.ins "Swap" [("one",.s ⟨#[x]⟩),("other",.s ⟨#[y]⟩)],0),some (.str ⟨cs.toArray⟩,0),none]=okR (.rt (.str ⟨out.toArray⟩)):=by
  unfold zFI;refine zDU fun bb hb=>?_
  refine zD4 (r:=[some (.ins "Swap" [("one",.s ⟨#[x]⟩),("other",.s ⟨#[y]⟩)],0),some (.str ⟨cs.toArray⟩,0),some (cu,1)]) (by
   simp[l1,l2,d1,d2,px,py,hs,hcd]) ?_
  subst hb;refine zDU fun bb hb=>?_
  refine zD4 (r:=[some (.ins "Swap" [("one",.s ⟨#[x]⟩),("other",.s ⟨#[y]⟩)],0),some (.str ⟨cs.toArray⟩,0),some (cu,1)]) (by
   simp[l1,l2,d1,d2,dc]) ?_
  subst hb;simp[zM9,zYX,ex]
 exact zBA rfl key
structure Free(P0 P1 P2 P3 P4:List Nat)(x:Nat):Prop where
 f0:x∉P0
 f1:x∉P1
 f2:x∉P2
 f3:x∉P3
 f4:x∉P4
def fv_a:fv P0 P1 P2 P3 P4 a b a b=P0++a::((P1++b::P2)++a::(P3++b::P4)):=by unfold fv;simp
def fv_b:fv P0 P1 P2 P3 P4 a b a b=(P0++a::P1)++b::((P2++a::P3)++b::P4):=by unfold fv;simp
def zQK(Fa:Free P0 P1 P2 P3 P4 a)(Fb:Free P0 P1 P2 P3 P4 b)(hne:a≠b):zB0 [.str ⟨(fv P0 P1 P2 P3 P4 a b a b).toArray⟩,sgn a]=okR (.tup [.int (q0 P0:Nat),.int (q2 P0 P1 P2:Nat)])/\zB0 [.str ⟨(fv P0 P1 P2 P3 P4 a b a b).toArray⟩,sgn b]=okR (.tup [.int (q1 P0 P1:Nat),.int (q3 P0 P1 P2 P3:Nat)]):=by
 constructor
 ·rw[fv_a,zFR Fa.f0 (by simp[Fa.f3,Fa.f4,hne])];unfold q0 q2;rw[show P0.length+1+(P1++b::P2).length=P0.length+1+P1.length+1+P2.length by simp;lia]
 ·rw[fv_b,zFR (by simp[Fb.f0,Fb.f1,hne.symm]) Fb.f4];unfold q1 q3;rw[show(P0++a::P1).length+1+(P2++a::P3).length=P0.length+1+P1.length+1+P2.length+1+P3.length by simp;lia,show(P0++a::P1).length=P0.length+1+P1.length by simp;lia]
def zZA(Fa:Free P0 P1 P2 P3 P4 a)(Fb:Free P0 P1 P2 P3 P4 b)(hne:a≠b):(btw (fv P0 P1 P2 P3 P4 a b a b) a).count b=1/\(btw (fv P0 P1 P2 P3 P4 a b a b) b).count a=1:=by
 constructor
 ·rw[fv_a,zD6 Fa.f0 (by simp[Fa.f1,Fa.f2,hne]),qAe,qAr,qAa.mpr Fb.f1,qAa.mpr Fb.f2]
 ·rw[fv_b,zD6 (by simp[Fb.f0,Fb.f1,hne.symm]) (by simp[Fb.f2,Fb.f3,hne.symm]),qAe,qAr,qAa.mpr Fa.f2,qAa.mpr Fa.f3]
def zTI(Fa:Free P0 P1 P2 P3 P4 a)(Fb:Free P0 P1 P2 P3 P4 b)(hne:a≠b):(fv P0 P1 P2 P3 P4 a b a b).count a=2/\(fv P0 P1 P2 P3 P4 a b a b).count b=2:=by
 have z0:=qAa.mpr Fa.f0;have z1:=qAa.mpr Fa.f1;have z2:=qAa.mpr Fa.f2;have z3:=qAa.mpr Fa.f3;have z4:=qAa.mpr Fa.f4;have y0:=qAa.mpr Fb.f0;have y1:=qAa.mpr Fb.f1;have y2:=qAa.mpr Fb.f2;have y3:=qAa.mpr Fb.f3;have y4:=qAa.mpr Fb.f4;unfold fv;constructor
 ·rw[qAe,qAr,qAe,qB2 hne.symm,qAe,qAr,qAe,qB2 hne.symm]
  lia
 ·rw[qAe,qB2 hne,qAe,qAr,qAe,qB2 hne,qAe,qAr]
  lia
def zHA(Fa:Free P0 P1 P2 P3 P4 a)(Fb:Free P0 P1 P2 P3 P4 b)(hne:a≠b)(hl:P0.length+P1.length+P2.length+P3.length+P4.length<=90) :
  zBK [swp a b,.str ⟨(fv P0 P1 P2 P3 P4 a b a b).toArray⟩]=okR (.str ⟨(fv P0 P3 P2 P1 P4 a b a b).toArray⟩)/\zBK [swp b a,.str ⟨(fv P0 P1 P2 P3 P4 a b a b).toArray⟩]=okR (.str ⟨(fv P0 P3 P2 P1 P4 a b a b).toArray⟩):=by
 have hz:(fv P0 P1 P2 P3 P4 a b a b).length<=100:=by rw[zP7];lia
 have K:=zYW (P0:=P0) (P1:=P1) (P2:=P2) (P3:=P3) (P4:=P4) (a:=a) (b:=b) (c:=a) (d:=b) (by lia);obtain⟨pa,pb⟩:=zQK Fa Fb hne;obtain⟨ba,bb⟩:=zZA Fa Fb hne;obtain⟨ca,cb⟩:=zTI Fa Fb hne;have o1:(q0 P0:Int)<=(q1 P0 P1:Int):=by unfold q0 q1;lia
 have o2:(q1 P0 P1:Int)<=(q2 P0 P1 P2:Int):=by unfold q1 q2;lia
 have o3:(q2 P0 P1 P2:Int)<=(q3 P0 P1 P2 P3:Int):=by unfold q2 q3;lia
 generalize(q0 P0:Int)=i0 at *;generalize(q1 P0 P1:Int)=i1 at *;generalize(q2 P0 P1 P2:Int)=i2 at *;generalize(q3 P0 P1 P2 P3:Int)=i3 at *;refine⟨zOJ K hl hz ca ba pa pb (zLC ?_ o1 o2 o3),zOJ K hl hz cb bb pb pa (zLC ?_ o1 o2 o3)⟩
 ·exact qEt _ (qDm _ _ _)
 ·have h1:[i0,i1,i2,i3].Perm [i1,i0,i2,i3]:=qDm _ _ _;have h2:[i1,i0,i2,i3].Perm [i1,i0,i3,i2]:=qEt _ (qEt _ (qDm _ _ _));have h3:[i1,i0,i3,i2].Perm [i1,i3,i0,i2]:=qEt _ (qDm _ _ _);exact h1.trans (h2.trans h3)
def nmA{x y:Nat}{A1 A2:List Nat}(h:x∉A1++y::A2):x∉A1/\x∉A2:=⟨fun z=>h (qDi _ z),fun z=>h (qB1 _ (qAp _ z))⟩
def nmB{x y:Nat}{A1 A2 A3:List Nat}(h:x∉A1++y::(A2++y::A3)):x∉A1/\x∉A2/\x∉A3:=⟨(nmA h).1,nmA (nmA h).2⟩
def four{cs:List Nat}(hx:cs.count x=2)(hy:cs.count y=2)(hne:x≠y):∃P0 P1 P2 P3 P4 a b c d,cs=fv P0 P1 P2 P3 P4 a b c d/\Free P0 P1 P2 P3 P4 x/\Free P0 P1 P2 P3 P4 y/\(a=x\/a=y)/\(b=x\/b=y)/\(c=x\/c=y)/\(d=x\/d=y) /\
  (((btw cs x).count y≠1/\(a=b\/a≠c))\/((btw cs x).count y=1/\c=a/\d=b/\a≠b)):=by
 obtain⟨A,B,C,rfl,hA,hB,hC⟩:=zAZ hx;have hb:=zD6 (C:=C) hA hB;simp only[qAe,qB2 hne]at hy;have split1:∀{L:List Nat},L.count y=1->∃L1 L2,L=L1++y::L2/\y∉L1/\y∉L2:=fun{L} h=>by
  obtain⟨L1,L2,rfl,h1⟩:=qBf (qCv.mp (show 0<L.count y by lia));rw[qAe,qAa.mpr h1,qAr]at h;exact⟨L1,L2,rfl,h1,qAa.mp (by lia)⟩
 have z0:∀{L:List Nat},L.count y=0->y∉L:=fun h=>qAa.mp h
 rw[hb];rcases(show(A.count y=2/\B.count y=0/\C.count y=0)\/(A.count y=0/\B.count y=2/\C.count y=0)\/(A.count y=0/\B.count y=0/\C.count y=2)\/(A.count y=1/\B.count y=1/\C.count y=0)\/(A.count y=1/\B.count y=0/\C.count y=1)\/(A.count y=0/\B.count y=1/\C.count y=1) by lia)with⟨h1,h2,h3⟩|⟨h1,h2,h3⟩|⟨h1,h2,h3⟩|⟨h1,h2,h3⟩|⟨h1,h2,h3⟩|⟨h1,h2,h3⟩
 ·obtain⟨A1,A2,A3,rfl,g1,g2,g3⟩:=zAZ h1;refine⟨A1,A2,A3,B,C,y,y,x,x,by simp only[fv,qB3,qB8],⟨(nmB hA).1,(nmB hA).2.1,(nmB hA).2.2,hB,hC⟩,⟨g1,g2,g3,z0 h2,z0 h3⟩,.inr rfl,.inr rfl,.inl rfl,.inl rfl,.inl ⟨by lia,.inl rfl⟩⟩
 ·obtain⟨B1,B2,B3,rfl,g1,g2,g3⟩:=zAZ h2;refine⟨A,B1,B2,B3,C,x,y,y,x,by simp only[fv,qB3,qB8],⟨hA,(nmB hB).1,(nmB hB).2.1,(nmB hB).2.2,hC⟩,⟨z0 h1,g1,g2,g3,z0 h3⟩,.inl rfl,.inr rfl,.inr rfl,.inl rfl,.inl ⟨by lia,.inr hne⟩⟩
 ·obtain⟨C1,C2,C3,rfl,g1,g2,g3⟩:=zAZ h3;refine⟨A,B,C1,C2,C3,x,x,y,y,by simp only[fv,qB3,qB8],⟨hA,hB,(nmB hC).1,(nmB hC).2.1,(nmB hC).2.2⟩,⟨z0 h1,z0 h2,g1,g2,g3⟩,.inl rfl,.inl rfl,.inr rfl,.inr rfl,.inl ⟨by lia,.inl rfl⟩⟩
 ·obtain⟨A1,A2,rfl,g1,g2⟩:=split1 h1;obtain⟨B1,B2,rfl,g3,g4⟩:=split1 h2;refine⟨A1,A2,B1,B2,C,y,x,y,x,by simp only[fv,qB3,qB8],⟨(nmA hA).1,(nmA hA).2,(nmA hB).1,(nmA hB).2,hC⟩,⟨g1,g2,g3,g4,z0 h3⟩,.inr rfl,.inl rfl,.inr rfl,.inl rfl,.inr ⟨h2,rfl,rfl,hne.symm⟩⟩
 ·obtain⟨A1,A2,rfl,g1,g2⟩:=split1 h1;obtain⟨C1,C2,rfl,g3,g4⟩:=split1 h3;refine⟨A1,A2,B,C1,C2,y,x,x,y,by simp only[fv,qB3,qB8],⟨(nmA hA).1,(nmA hA).2,hB,(nmA hC).1,(nmA hC).2⟩,⟨g1,g2,z0 h2,g3,g4⟩,.inr rfl,.inl rfl,.inl rfl,.inr rfl,.inl ⟨by lia,.inr hne.symm⟩⟩
 ·obtain⟨B1,B2,rfl,g1,g2⟩:=split1 h2;obtain⟨C1,C2,rfl,g3,g4⟩:=split1 h3;refine⟨A,B1,B2,C1,C2,x,y,x,y,by simp only[fv,qB3,qB8],⟨hA,(nmA hB).1,(nmA hB).2,(nmA hC).1,(nmA hC).2⟩,⟨z0 h1,g1,g2,g3,g4⟩,.inl rfl,.inr rfl,.inl rfl,.inr rfl,.inr ⟨h2,rfl,rfl,hne⟩⟩
end
section
end
section
end
def tp4(p:Nat×Nat):Dt:=.tup [sgn p.1,sgn p.2]
def app4{r:Ro}{i n k:Nat}{e:EM}(h:r[i]?=some (some (.lst ds,k+1)))(he:e (full r)=okR d)(hl:ds.length<=100000)(h1:d.dep<=n)(h2:d.dep<=k):sApp i n e r=okR (.nx (r.set i (some (.lst (ds++[d]),k+1)))):=by
 unfold sApp;rw[h];dsimp only;rw[he,zA0];exact if_pos ⟨hl,h1,h2⟩
def et24{e1 e2:EM}(h1:e1 ρ=okR d1)(h2:e2 ρ=okR d2):eTup (aCons e1 (aCons e2 aNil)) ρ=okR (.tup [d1,d2]):=by simp[h1,h2]
def el0':eLst aNil ρ=okR (.lst []):=by simp
def st4{c:TM}{a:SM}{X:R Out}(hc:c (full r)=okR true)(ha:a r=X):sIf c a sNil r=X:=by
 rw[zQM,hc,zA0,if_pos rfl,ha]
def lkY4{β:Type}{a:Str}{x:β}{l:List (Str×β)}:((a,x)::l).lookup a=some x:=by rw[qAy,beq_self_eq_true]
def lkN4{β:Type}{a b:Str}{x:β}{l:List (Str×β)}{o:Option β}(h:(a==b)=false)(h2:l.lookup a=o):((b,x)::l).lookup a=o:=by rw[qAy,h,<- h2]
def mt14{tb:List (Str×FM)}{e0 e1:EM}{X:R Dt}(h0:e0 ρ=okR (.ins c fs))(hl:tb.lookup c=some g)(hf:fs.lookup m=none)(h1:e1 ρ=okR d1)(hg:g [.ins c fs,d1]=X):eMeth tb m e0 (aCons e1 aNil) ρ=X:=by
 rw[zQP,h0,zA0];dsimp only;rw[hl];dsimp only;rw[hf];dsimp only;rw[al0 h1,zA0];exact hg
def srf{L n:Nat}{e:EM}(he:e (full r)=okR d)(hd:¬(d.dep<=n/\d.dep<=L))(hn:n=L)(he2:e (frz (frzAt vs r))=okR d):sRet L n vs e r=okR (.rt d):=by
 rw[zVW,he,zA0,if_neg hd,if_pos hn,he2];rfl
def big4{d:Dt}{n L:Nat}(h:d.dep=1000)(hn:n<=2):¬(d.dep<=n/\d.dep<=L):=fun z=>by lia
def tn4(x:Nat):Dt:=.ins "Turn" [("letter",.s ⟨#[x]⟩)]
def sh4(b:Int):Dt:=.ins "Shift" [("by",.i b)]
def mi4:Dt:=.ins "Mirror" []
def n1:(("Swap":Str)==("Turn":Str))=false:=by decide +kernel
def n2:(("Mirror":Str)==("Turn":Str))=false:=by decide +kernel
def n3:(("Mirror":Str)==("Swap":Str))=false:=by decide +kernel
def n4:(("Shift":Str)==("Turn":Str))=false:=by decide +kernel
def n5:(("Shift":Str)==("Swap":Str))=false:=by decide +kernel
def n6:(("Shift":Str)==("Mirror":Str))=false:=by decide +kernel
def m1:(("done":Str)==("letter":Str))=false:=by decide +kernel
def m2:(("done":Str)==("one":Str))=false:=by decide +kernel
def m3:(("done":Str)==("other":Str))=false:=by decide +kernel
def m4:(("done":Str)==("by":Str))=false:=by decide +kernel
def o1:(("other":Str)==("one":Str))=false:=by decide +kernel
def nwT{e:EM}(h:e ρ=okR (sgn x)):eNew "Turn" ["letter"] (aCons e aNil) ρ=okR (tn4 x):=by
 rw[zQO,al0 h];rfl
def nwH{e:EM}(h:e ρ=okR (.int b)):eNew "Shift" ["by"] (aCons e aNil) ρ=okR (sh4 b):=by
 rw[zQO,al0 h];rfl
def nwS{e1 e2:EM}(h1:e1 ρ=okR (sgn x))(h2:e2 ρ=okR (sgn y)):eNew "Swap" ["one","other"] (aCons e1 (aCons e2 aNil)) ρ=okR (swp x y):=by
 rw[zQO,zBS,h1,zA0,al0 h2];rfl
section
variable{a b:Nat}
def Free.p1(F:Free P0 P1 P2 P3 P4 x):Free P0 P2.reverse P1.reverse P3 P4 x:=⟨F.f0,by simpa using F.f2,by simpa using F.f1,F.f3,F.f4⟩
def Free.p2(F:Free P0 P1 P2 P3 P4 x):Free P0 P1 P3.reverse P2.reverse P4 x:=⟨F.f0,F.f1,by simpa using F.f3,by simpa using F.f2,F.f4⟩
def tuA(Fa:Free P0 P1 P2 P3 P4 a)(hne:a≠b)(hl:P0.length+P1.length+P2.length+P3.length+P4.length<=90):zB6 [tn4 a,.str ⟨(fv P0 P1 P2 P3 P4 a b a b).toArray⟩]=okR (.str ⟨(fv P0 P2.reverse P1.reverse P3 P4 a b a b).toArray⟩):=by
 have hz:(fv P0 P1 P2 P3 P4 a b a b).length<=100:=by rw[zP7];lia
 have e:fv P0 P2.reverse P1.reverse P3 P4 a b a b=trn P0 (P1++b::P2) (P3++b::P4) a:=by
  unfold fv trn;simp
 rw[e,fv_a];rw[fv_a]at hz;exact zKM hz Fa.f0 (by simp[Fa.f3,Fa.f4,hne])
def tuB(Fb:Free P0 P1 P2 P3 P4 b)(hne:a≠b)(hl:P0.length+P1.length+P2.length+P3.length+P4.length<=90):zB6 [tn4 b,.str ⟨(fv P0 P1 P2 P3 P4 a b a b).toArray⟩]=okR (.str ⟨(fv P0 P1 P3.reverse P2.reverse P4 a b a b).toArray⟩):=by
 have hz:(fv P0 P1 P2 P3 P4 a b a b).length<=100:=by rw[zP7];lia
 have e:fv P0 P1 P3.reverse P2.reverse P4 a b a b=trn (P0++a::P1) (P2++a::P3) P4 b:=by
  unfold fv trn;simp
 rw[e,fv_b];rw[fv_b]at hz;exact zKM hz (by simp[Fb.f0,Fb.f1,hne.symm]) Fb.f4
def Tr3(cs out:List Nat)(x y:Nat):Prop:=∃w1 w2:List Nat,zB6 [tn4 x,.str ⟨cs.toArray⟩]=okR (.str ⟨w1.toArray⟩)/\zB6 [tn4 y,.str ⟨w1.toArray⟩]=okR (.str ⟨w2.toArray⟩)/\zB6 [tn4 x,.str ⟨w2.toArray⟩]=okR (.str ⟨out.toArray⟩)
def alt3(Fa:Free P0 P1 P2 P3 P4 a)(Fb:Free P0 P1 P2 P3 P4 b)(hne:a≠b)(hl:P0.length+P1.length+P2.length+P3.length+P4.length<=90):Tr3 (fv P0 P1 P2 P3 P4 a b a b) (fv P0 P3 P2 P1 P4 a b a b) a b/\Tr3 (fv P0 P1 P2 P3 P4 a b a b) (fv P0 P3 P2 P1 P4 a b a b) b a:=by
 constructor
 ·have h1:=tuA Fa hne hl;have h2:=tuB Fb.p1 hne (by simp;lia);have h3:=tuA Fa.p1.p2 hne (by simp;lia);rw[qBp]at h2;rw[qBp,qBp,qBp]at h3;exact⟨_,_,h1,h2,h3⟩
 ·have h1:=tuB Fb hne hl;have h2:=tuA Fa.p2 hne (by simp;lia);have h3:=tuB Fb.p2.p1 hne (by simp;lia);rw[qBp]at h2;rw[qBp,qBp,qBp]at h3;exact⟨_,_,h1,h2,h3⟩
def zd8{cs:List Nat}(hz:cs.length<=90)(hx:cs.count x=2)(hy:cs.count y=2)(hne:x≠y)(hc:(btw cs x).count y=1):∃out:List Nat,zBK [swp x y,.str ⟨cs.toArray⟩]=okR (.str ⟨out.toArray⟩)/\zBK [swp y x,.str ⟨cs.toArray⟩]=okR (.str ⟨out.toArray⟩)/\Tr3 cs out x y:=by
 obtain⟨P0,P1,P2,P3,P4,a,b,c,d,e,Fx,Fy,ha,hb,hc',hd,hh⟩:=four hx hy hne;have hlen:=zP7 P0 P1 P2 P3 P4 a b c d;have hl:P0.length+P1.length+P2.length+P3.length+P4.length<=90:=by rw[e,hlen]at hz;lia
 rcases hh with⟨h1,_⟩|⟨h1,h2,h3,h4⟩
 ·exact absurd hc h1
 ·subst h2 h3;rw[e]
  rcases ha with rfl|rfl
  ·rcases hb with rfl|rfl
   ·exact absurd rfl h4
   ·exact⟨_,(zHA Fx Fy h4 hl).1,(zHA Fx Fy h4 hl).2,(alt3 Fx Fy h4 hl).1⟩
  ·rcases hb with rfl|rfl
   ·exact⟨_,(zHA Fy Fx h4 hl).2,(zHA Fy Fx h4 hl).1,(alt3 Fy Fx h4 hl).2⟩
   ·exact absurd rfl h4
end
def cmpl{ρ:Rh}{i:Nat}(h:ρ[i]?=some (some (.scr ns))):eBi lenD (aCons (eV i) aNil) ρ=okR (.int (ns.length:Int)):=bi1 (v1 h) rfl
def ixS{ns:List Int}{k:Nat}(h:k<ns.length):ixD (.scr ns) (.int (k:Int))=some (.int (ns.getD k 0)):=by
 have:=zYQ (ns:=ns) (i:=(k:Int)) (by lia) (by lia)
 rw[qBc]at this;show(itA ns (k:Int)).map Dt.int=_;rw[this];rfl
def zSQ{α β:Type}(f:α->β):∀(l:List α)(q:Nat),(l.map f).eraseIdx q=(l.eraseIdx q).map f
 |[],_=>rfl
 |_::_,0=>rfl
 |a::r,q+1=>by rw[qAm,qD0,zSQ f r q];rfl
def pop6{r:Ro}{j i l q:Nat}{ls:List Nat}{e:EM}(h:r[i]?=some (some (.lst (ls.map sgn),l+1)))(he:e (full r)=okR (.int (q:Int)))(h1:q<ls.length)(hij:i≠j)(hle:ls.length<=100):sPop j i e r=okR (.nx ((r.set i (some (.lst ((ls.eraseIdx q).map sgn),l+1))).set j (some (sgn (ls.getD q 0),l)))):=by
 unfold sPop;rw[h];dsimp only;rw[he,zA0];dsimp only;rw[qAg,zM5 (by lia) (by lia),qBc];dsimp only;rw[qAd,qA6 h1];dsimp only[qDt];refine(@if_pos _ (qA1 _) ⟨hij,by lia⟩ _ _ _).trans ?_;rw[qA3,qA6 h1,zSQ];rfl
def zVE(c:Int)(h0:0<=c):∃cs ls:List Nat,zBP [.int c,.int 10]=okR (.str ⟨cs.toArray⟩)/\cs.Perm (ls++ls)/\ls.Nodup/\1<=ls.length/\ls.length<=10:=by
 have e0:(qJ2 "")=⟨([]:List Nat).toArray⟩:=zOM zG6;have hlx:listXD [.str "abcdefghijklmnopqrstuvwxyz"]=some (.lst (((qA9 26).map (97 + ·)).map sgn)):=by
  rw[zTJ];exact @if_pos _ (qA1 _) (show((qA9 26).map (97 + ·)).toArray.size<=100000 by simp) _ _ _
 have hnd:((qA9 26).map (97 + ·)).Nodup:=by decide
 have hl26:((qA9 26).map (97 + ·)).length=26:=by simp
 generalize(qA9 26).map (97 + ·)=abc at hlx hnd hl26;obtain⟨n,hn⟩:∃n:Nat,1+c%10=(n:Int):=⟨(1+c%10).toNat,by lia⟩
 have hn1:1<=n:=by lia
 have hn2:n<=10:=by lia
 have hd1:(Dt.lst (abc.map sgn)).dep<=1:=by
  have:Dt.depL (abc.map sgn)=0:=zYZ fun d hd=>by obtain⟨c,_,rfl⟩:=qBq.mp hd;rfl
  show Dt.depL (abc.map sgn)+1<=1;lia
 suffices key:nxR (sForR (iR1 (aCons (eV 3) aNil)) 5 (sSeq (sPop 6 2 (eB modD (eV 0) (eBi lenD (aCons (eV 2) aNil))))
 (sSeq (sSet 0 0 [0,2] (eB divD (eV 0) (eB addD (eBi lenD (aCons (eV 2) aNil)) (eC (.int 1)))))
 (sForR (iR1 (aCons (eC (.int 2)) aNil)) 7 (sSeq (sSet 8 0 [0,4] (eB modD (eV 0) (eB addD (eBi lenD (aCons (eV 4) aNil)) (eC (.int 1)))))
 (sSeq (sSet 0 0 [0,4] (eB divD (eV 0) (eB addD (eBi lenD (aCons (eV 4) aNil)) (eC (.int 1)))))
 (sSet 4 1 [6,4,8] (eB addD (eB addD (eSl (eV 4) oNo (oE (eV 8))) (eV 6)) (eSl (eV 4) (oE (eV 8)) oNo))))))))  [some (.int (c/10),0),some (.int 10,0),some (.lst (abc.map sgn),0+1),some (.int (n:Int),1),some (.str ⟨([]:List Nat).toArray⟩,0),none,none,none,none]) (fun r=>∃(c:Int)(qs ls ws:List Nat)(l4:Nat)(o5 o6 o7 o8:Option Sl),(ls++qs).Perm abc/\ls.length=n/\ws.Perm (ls++ls)/\l4<=1/\r=[some (.int c,0),some (.int 10,0),some (.lst (qs.map sgn),0+1),some (.int (n:Int),1),some (.str ⟨ws.toArray⟩,l4),o5,o6,o7,o8]) by
  obtain⟨r',g,c',qs,ls,ws,l4,o5,o6,o7,o8,hp,hln,hw,hl4,rfl⟩:=zD3 key;refine⟨ws,ls,zBA rfl (sg (bi1 rfl hlx) hd1 (sg (b2 rfl (b2 rfl rfl (mdi (by decide) rfl)) (adi hn)) (qAv _) (sg (b2 rfl rfl (dvi (by decide))) (qA5 0) (sg (d:=.str ⟨([]:List Nat).toArray⟩) (by rw[<- e0];rfl) (qA5 0) (sw g ?_))))),hw,(qE1.mp (hp.nodup_iff.mpr hnd)).1,by lia,by lia⟩;show sRetV 1 4 [some (.int c',0),some (.int 10,0),some (.lst (qs.map sgn),0+1),some (.int (n:Int),1),some (.str ⟨ws.toArray⟩,l4),o5,o6,o7,o8]=_;simp;intro _ h
  lia
 rw[zJK,zKZ (n:=n) (al0 rfl) (by lia),zA0];refine zUI (fun k r=>∃(c:Int)(qs ls ws:List Nat)(l4:Nat)(o5 o6 o7 o8:Option Sl),0<=c/\(ls++qs).Perm abc/\ls.length=k/\ws.Perm (ls++ls)/\l4<=1/\r=[some (.int c,0),some (.int 10,0),some (.lst (qs.map sgn),0+1),some (.int (n:Int),1),some (.str ⟨ws.toArray⟩,l4),o5,o6,o7,o8]) ⟨c/10,abc,[],[],0,none,none,none,none,by lia,qDn _,rfl,qDn _,by lia,rfl⟩ (fun k hk r hr=>?_) fun r hr=>?_
 ·obtain⟨c,qs,ls,ws,l4,o5,o6,o7,o8,hc0,hp,hlk,hw,hl4,rfl⟩:=hr;have hpl:=hp.length_eq;rw[qAs,hl26]at hpl;have hwl:=hw.length_eq;rw[qAs]at hwl;have hql:lenD [.lst (qs.map sgn)]=some (.int (qs.length:Int)):=by simp[show qs.length<=100000 by lia]
  obtain⟨q,hq⟩:∃q:Nat,c%(qs.length:Int)=(q:Int):=⟨(c%(qs.length:Int)).toNat,by have:=qBi c (show(qs.length:Int)≠0 by lia);lia⟩
  have hqn:q<qs.length:=by have:=qCu c (show(0:Int)<qs.length by lia);lia
  refine nsw (pop6 (l:=0) rfl (b2 rfl (bi1 rfl hql) (mdi (by lia) hq)) hqn (by decide) (by lia)) ?_;have hpk:=zFS qs hqn;have hgx:qs.getD q 0=qs[q]:=by rw[qA3,qA6 hqn];rfl
  rw[hgx];generalize qs[q]=x at hpk;have hel:(qs.eraseIdx q).length=qs.length-1:=by rw[qEd,if_pos hqn]
  generalize qs.eraseIdx q=qs' at hpk hel;have hql':lenD [.lst (qs'.map sgn)]=some (.int (qs'.length:Int)):=by simp[show qs'.length<=100000 by lia]
  refine nsw (ss (b2 rfl (b2 (bi1 rfl hql') rfl (adi rfl)) (dvi ⟨by lia,by lia⟩)) (qA5 0)) ?_;have hc1:0<=c/((qs'.length:Int)+1):=qH6 hc0 (by lia)
  generalize c/((qs'.length:Int)+1)=c1 at hc1;rw[zJK,zKZ (n:=2) (al0 rfl) (by lia),zA0];refine zUI (fun j r=>∃(c:Int)(us:List Nat)(l4:Nat)(o7 o8:Option Sl),0<=c/\us.Perm (qA7 j x++ws)/\l4<=1/\r=[some (.int c,0),some (.int 10,0),some (.lst (qs'.map sgn),0+1),some (.int (n:Int),1),some (.str ⟨us.toArray⟩,l4),some (.int (k:Nat),0),some (sgn x,0),o7,o8]) ⟨c1,ws,l4,o7,o8,hc1,qDn _,hl4,rfl⟩ (fun j hj r hr=>?_) fun r hr=>?_
  ·obtain⟨c,us,l4,o7,o8,hc0,hu,hl4,rfl⟩:=hr;have hul:=hu.length_eq;rw[qAs,qD8]at hul;have hlen:=zET (cs:=us) (by lia);obtain⟨p,hp1⟩:∃p:Nat,c%((us.length:Int)+1)=(p:Int):=⟨(c%((us.length:Int)+1)).toNat,by have:=qBi c (show(us.length:Int)+1≠0 by lia);lia⟩
   refine nsw (ss (b2 rfl (b2 (bi1 rfl hlen) rfl (adi rfl)) (mdi (by lia) hp1)) (qA5 0)) ?_;refine nsw (ss (b2 rfl (b2 (bi1 rfl hlen) rfl (adi rfl)) (dvi ⟨by lia,by lia⟩)) (qA5 0)) ?_;have s1:=zDL (a:=us) none (some (p:Int)) (by lia);have s2:=zDL (a:=us) (some (p:Int)) none (by lia);rw[zG5]at s1;rw[zE9]at s2;have a1:addD (.str ⟨(us.take p).toArray⟩) (sgn x)=some (.str ⟨(us.take p++[x]).toArray⟩):=add_str (b:=[x]) (by simp;lia);have a2:=add_str (a:=us.take p++[x]) (b:=us.drop p) (by simp;lia);exact zD4 (ss (b2 (b2 (sl0 rfl rfl s1) rfl a1) (sl1 rfl rfl s2) a2) (qAv _)) ⟨_,us.take p++[x]++us.drop p,1,_,_,qH6 hc0 (by lia),(zOV x p us).trans ((hu.cons x).trans (by rw[qBa,qB8])),by lia,rfl⟩
  ·obtain⟨c,us,l4,o7,o8,hc0,hu,hl4,rfl⟩:=hr;refine⟨c,qs',ls++[x],us,l4,_,_,o7,o8,hc0,?_,by simp;lia,hu.trans ?_,hl4,rfl⟩
   ·refine List.Perm.trans ?_ hp;rw[qB3];exact qDa _ hpk.symm
   ·refine(qDa _ hw).trans ?_
    show([x,x]++(ls++ls)).Perm _;refine qEl.mpr fun a=>?_
    simp only[qAe,qCq,qFx];lia
 ·obtain⟨c,qs,ls,ws,l4,o5,o6,o7,o8,_,h⟩:=hr;exact⟨c,qs,ls,ws,l4,o5,o6,o7,o8,h⟩
def zX3(h:(btw cs x).count y=1↔(btw ds x).count y=1):crs cs x y=crs ds x y:=by
 unfold crs;by_cases h1:(btw cs x).count y=1
 ·rw[if_pos h1,if_pos (h.mp h1)]
 ·rw[if_neg h1,if_neg fun z=>h1 (h.mpr z)]
def zT4{A B C:List Nat}{x y:Nat}(hne:x≠y):(A++x::(B++x::C)).count y=A.count y+B.count y+C.count y:=by
 have:¬(x==y)=true:=by simpa using hne
 simp only[qAe,qCq,if_neg this];lia
def zVM{a:Nat}{r:List Nat}(hx:(a::r).count x=2)(hy:(a::r).count y=2):crs (r++[a]) x y=crs (a::r) x y:=by
 by_cases hxy:x=y
 ·subst hxy;have h2:(r++[a]).count x=2:=by
   rw[<- hx,qAe,qCq];simp[qCq]
  rw[crs_self hx,crs_self h2]
 obtain⟨A,B,C,e,hA,hB,hC⟩:=zAZ hx;have hcnt:=zT4 (A:=A) (B:=B) (C:=C) hxy;rw[<- e,hy]at hcnt;refine zX3 ?_;rw[e,zD6 hA hB];cases A with
 |nil=>
  simp only[qDs,qFs]at e;obtain⟨rfl,rfl⟩:=e;have e2:B++a::C++[a]=B++a::(C++a::[]):=by simp
  rw[e2,zD6 hB hC];simp only[qFx]at hcnt;lia
 |cons b A=>
  simp only[qB8,qFs]at e;obtain⟨rfl,rfl⟩:=e;have e2:A++x::(B++x::C)++[a]=A++x::(B++x::(C++[a])):=by simp
  rw[e2,zD6 (fun z=>hA (by simp[z])) hB]
def zOQ(cs:List Nat)(k:Nat):(cs.drop k++cs.take k).Perm cs:=List.perm_append_comm.trans (by rw[qE8])
def zT1{cs:List Nat}{x y:Nat}(hx:cs.count x=2)(hy:cs.count y=2):∀k,k<=cs.length->crs (cs.drop k++cs.take k) x y=crs cs x y
 |0,_=>by simp
 |k+1,h=>by
  have ih:=zT1 hx hy k (by lia);rw[<- ih];have hk:k<cs.length:=h;have e1:cs.drop k=cs[k]::cs.drop (k+1):=qB0 hk;have e2:cs.take (k+1)=cs.take k++[cs[k]]:=by rw[List.take_succ,qA6 hk];rfl
  have e3:cs.drop (k+1)++cs.take (k+1)=(cs.drop (k+1)++cs.take k)++[cs[k]]:=by rw[e2,qB3]
  have e4:cs.drop k++cs.take k=cs[k]::(cs.drop (k+1)++cs.take k):=by rw[e1];rfl
  rw[e3,e4];have hp:=zOQ cs k;rw[e4]at hp;exact zVM (by rw[hp.count_eq];exact hx) (by rw[hp.count_eq];exact hy)
def zZ6{cs:List Nat}(hx:cs.count x=2):crs cs.reverse x y=crs cs x y:=by
 obtain⟨A,B,C,rfl,hA,hB,hC⟩:=zAZ hx;refine zX3 ?_;have e:(A++x::(B++x::C)).reverse=C.reverse++x::(B.reverse++x::A.reverse):=by simp
 rw[e,zD6 (by simpa using hC) (by simpa using hB),zD6 hA hB,qCd]
def zLE:∀{a b:List Nat},a.Pairwise (· < ·)->b.Pairwise (· < ·)->(∀x,x∈a↔x∈b)->a=b
 |[],[],_,_,_=>rfl
 |[],y::b,_,_,h=>by have:=(h y).mpr (by simp);simp at this
 |x::a,[],_,_,h=>by have:=(h x).mp (by simp);simp at this
 |x::a,y::b,ha,hb,h=>by
  obtain⟨a1,a2⟩:=qBr.mp ha;obtain⟨b1,b2⟩:=qBr.mp hb;have hxy:x=y:=by
   have h1:=(h x).mp (by simp);have h2:=(h y).mpr (by simp)
   rcases qAb.mp h1 with z|z
   ·exact z
   ·rcases qAb.mp h2 with w|w
    ·exact w.symm
    ·have:=b1 x z
     have:=a1 y w;lia
  subst hxy;rw[zLE a2 b2 fun z=>?_];constructor
  ·intro hz
   rcases qAb.mp ((h z).mp (by simp[hz]))with w|w
   ·have:=a1 z hz;lia
   ·exact w
  ·intro hz
   rcases qAb.mp ((h z).mpr (by simp[hz]))with w|w
   ·have:=b1 z hz;lia
   ·exact w
def zW2(l:List Nat):(sosL l).Pairwise (· < ·):=by
 have h1:=sos_asc l;have h2:=sos_nodup l;unfold qBl at h2;exact(h1.and h2).imp fun h=>by lia
def zOO{a b:List Nat}(h:∀x,x∈a↔x∈b):sosL a=sosL b:=zLE (zW2 a) (zW2 b) fun x=>by rw[sos_mem,sos_mem,h]
def spl1{L:List Nat}(h:L.count x=1):∃L1 L2,L=L1++x::L2/\x∉L1/\x∉L2:=by
 obtain⟨L1,L2,rfl,h1⟩:=qBf (qCv.mp (show 0<L.count x by lia));rw[qAe,qAa.mpr h1,qAr]at h;exact⟨L1,L2,rfl,h1,qAa.mp (by lia)⟩
def zDZ{cs A B C:List Nat}{x:Nat}(e:cs=A++x::(B++x::C))(hA:x∉A)(hB:x∉B):btw cs x=B:=by rw[e];exact zD6 hA hB
def zVP{A B C:List Nat}{a x y:Nat}(hax:a≠x)(hay:a≠y)(hne:x≠y)(hx:A.count x+B.count x+C.count x=2)(hy:A.count y+B.count y+C.count y=2) :
  (B.count x=1/\B.count y=1->((btw (trn A B C a) x).count y=1↔¬(btw (A++a::(B++a::C)) x).count y=1))/\(¬(B.count x=1/\B.count y=1)->((btw (trn A B C a) x).count y=1↔(btw (A++a::(B++a::C)) x).count y=1)):=by
 have z0:∀{L:List Nat},L.count x=0->x∉L:=fun h=>qAa.mp h
 have zr:∀{L:List Nat},x∉L->x∉L.reverse:=fun h=>by simpa using h
 have nA:∀{L M:List Nat},x∉L->x∉M->x∉L++a::M:=fun h1 h2=>by simp[h1,h2,qC9 hax]
 have cA:∀(L M:List Nat),(L++a::M).count y=L.count y+M.count y:=fun L M=>by rw[qAe,qB2 hay]
 have cX:∀(L M:List Nat),(L++x::M).count y=L.count y+M.count y:=fun L M=>by rw[qAe,qB2 hne]
 rcases(show(A.count x=2/\B.count x=0/\C.count x=0)\/(A.count x=0/\B.count x=2/\C.count x=0)\/(A.count x=0/\B.count x=0/\C.count x=2)\/(A.count x=1/\B.count x=1/\C.count x=0)\/(A.count x=1/\B.count x=0/\C.count x=1)\/(A.count x=0/\B.count x=1/\C.count x=1) by lia)with⟨h1,h2,h3⟩|⟨h1,h2,h3⟩|⟨h1,h2,h3⟩|⟨h1,h2,h3⟩|⟨h1,h2,h3⟩|⟨h1,h2,h3⟩
 ·obtain⟨A1,A2,A3,rfl,g1,g2,g3⟩:=zAZ h1;rw[zDZ (cs:=trn (A1++x::(A2++x::A3)) B C a) (A:=A1) (B:=A2) (C:=A3++a::(B.reverse++a::C)) (by simp[trn]) g1 g2,zDZ (A:=A1) (B:=A2) (C:=A3++a::(B++a::C)) (by simp) g1 g2];exact⟨fun z=>by lia,fun _=>qI6⟩
 ·obtain⟨B1,B2,B3,rfl,g1,g2,g3⟩:=zAZ h2;rw[zDZ (cs:=trn A (B1++x::(B2++x::B3)) C a) (A:=A++a::B3.reverse) (B:=B2.reverse) (C:=B1.reverse++a::C) (by simp[trn]) (nA (z0 h1) (zr g3)) (zr g2),zDZ (A:=A++a::B1) (B:=B2) (C:=B3++a::C) (by simp) (nA (z0 h1) g1) g2,qCd];exact⟨fun z=>by lia,fun _=>qI6⟩
 ·obtain⟨C1,C2,C3,rfl,g1,g2,g3⟩:=zAZ h3;rw[zDZ (cs:=trn A B (C1++x::(C2++x::C3)) a) (A:=A++a::(B.reverse++a::C1)) (B:=C2) (C:=C3) (by simp[trn]) (nA (z0 h1) (nA (zr (z0 h2)) g1)) g2,zDZ (A:=A++a::(B++a::C1)) (B:=C2) (C:=C3) (by simp) (nA (z0 h1) (nA (z0 h2) g1)) g2];exact⟨fun z=>by lia,fun _=>qI6⟩
 ·obtain⟨A1,A2,rfl,g1,g2⟩:=spl1 h1;obtain⟨B1,B2,rfl,g3,g4⟩:=spl1 h2;rw[zDZ (cs:=trn (A1++x::A2) (B1++x::B2) C a) (A:=A1) (B:=A2++a::B2.reverse) (C:=B1.reverse++a::C) (by simp[trn]) g1 (nA g2 (zr g4)),zDZ (A:=A1) (B:=A2++a::B1) (C:=B2++a::C) (by simp) g1 (nA g2 g3),cA,cA,qCd];rw[cX,cX]at hy;rw[cX];constructor
  ·intro z;lia
  ·intro z;lia
 ·obtain⟨A1,A2,rfl,g1,g2⟩:=spl1 h1;obtain⟨C1,C2,rfl,g3,g4⟩:=spl1 h3;rw[zDZ (cs:=trn (A1++x::A2) B (C1++x::C2) a) (A:=A1) (B:=A2++a::(B.reverse++a::C1)) (C:=C2) (by simp[trn]) g1 (nA g2 (nA (zr (z0 h2)) g3)),zDZ (A:=A1) (B:=A2++a::(B++a::C1)) (C:=C2) (by simp) g1 (nA g2 (nA (z0 h2) g3)),cA,cA,cA,cA,qCd];exact⟨fun z=>by lia,fun _=>qI6⟩
 ·obtain⟨B1,B2,rfl,g1,g2⟩:=spl1 h2;obtain⟨C1,C2,rfl,g3,g4⟩:=spl1 h3;rw[zDZ (cs:=trn A (B1++x::B2) (C1++x::C2) a) (A:=A++a::B2.reverse) (B:=B1.reverse++a::C1) (C:=C2) (by simp[trn]) (nA (z0 h1) (zr g2)) (nA (zr g1) g3),zDZ (A:=A++a::B1) (B:=B2++a::C1) (C:=C2) (by simp) (nA (z0 h1) g1) (nA g2 g3),cA,cA,qCd];rw[cX,cX]at hy;rw[cX];constructor
  ·intro z;lia
  ·intro z;lia
def zZ7(cs:List Nat)(x y:Nat):crs cs x y=0\/crs cs x y=1:=by
 unfold crs;split
 ·exact .inr rfl
 ·exact .inl rfl
def crs_one:crs cs x y=1↔(btw cs x).count y=1:=by
 unfold crs;split<;>simp_all
def zJN(A B C:List Nat)(a:Nat):(trn A B C a).Perm (A++a::(B++a::C)):=qEl.mpr fun z=>by
 unfold trn;simp only[qAe,qCq,qCd]
def zVL{A B C:List Nat}{a:Nat}(hA:a∉A)(hB:a∉B)(hC:a∉C)(hx:(A++a::(B++a::C)).count x=2)(hy:(A++a::(B++a::C)).count y=2)(hne:x≠y):crs (trn A B C a) x y=if crs (A++a::(B++a::C)) a x=1/\crs (A++a::(B++a::C)) a y=1 then 1-crs (A++a::(B++a::C)) x y else crs (A++a::(B++a::C)) x y:=by
 have ba:btw (A++a::(B++a::C)) a=B:=zD6 hA hB;have bt:btw (trn A B C a) a=B.reverse:=zDZ (A:=A) (B:=B.reverse) (C:=C) rfl hA (by simpa using hB);have ca:(A++a::(B++a::C)).count a=2:=by
  rw[qAe,qAr,qAe,qAr,qAa.mpr hA,qAa.mpr hB,qAa.mpr hC]
 have pc:=fun z=>(zJN A B C a).count_eq z
 have s0:∀z,crs (trn A B C a) a z=crs (A++a::(B++a::C)) a z:=fun z=>by
  unfold crs;rw[ba,bt,qCd]
 by_cases e1:x=a
 ·subst e1;rw[s0,if_neg fun z=>by rw[crs_self ca]at z;lia]
 ·by_cases e2:y=a
  ·subst e2;rw[if_neg (fun z=>by have:=z.2;rw[crs_self ca]at this;lia),zNZ (by rw[pc];exact hx) (by rw[pc];exact hy),s0,zNZ hy hx]
  ·have q:(crs (A++a::(B++a::C)) a x=1/\crs (A++a::(B++a::C)) a y=1)↔(B.count x=1/\B.count y=1):=by rw[crs_one,crs_one,ba]
   have c3:∀z,z≠a->(A++a::(B++a::C)).count z=A.count z+B.count z+C.count z:=fun z hz=>by
    rw[qAe,qB2 (qC9 hz),qAe,qB2 (qC9 hz)];lia
   rw[c3 x e1]at hx;rw[c3 y e2]at hy;have k:=zVP (a:=a) (qC9 e1) (qC9 e2) hne hx hy;by_cases c:B.count x=1/\B.count y=1
   ·rw[if_pos (q.mpr c)]
    have:=k.1 c;unfold crs;by_cases h:(btw (A++a::(B++a::C)) x).count y=1
    ·rw[if_pos h,if_neg fun z=>(this.mp z) h];rfl
    ·rw[if_neg h,if_pos (this.mpr h)];rfl
   ·rw[if_neg fun z=>c (q.mp z)]
    have:=k.2 c;unfold crs;by_cases h:(btw (A++a::(B++a::C)) x).count y=1
    ·rw[if_pos h,if_pos (this.mpr h)]
    ·rw[if_neg h,if_neg fun z=>h (this.mp z)]
structure Lts(sl cs:List Nat):Prop where
 nd:sl.Nodup
 ct:∀x∈sl,cs.count x=2
 n10:sl.length<=10
def cwb(cs sl:List Nat):Nat->Nat->Int:=fun i j=>if i<sl.length/\j<sl.length then crsT cs sl i j else 0
def gD{sl:List Nat}{i:Nat}(h:i<sl.length):sl.getD i 0∈sl:=zP6 h
def zYF{sl:List Nat}(h:sl.Nodup){i j:Nat}(hi:i<sl.length)(hj:j<sl.length)(ne:i≠j):sl.getD i 0≠sl.getD j 0:=fun e=>by
 rw[qA3,qA3,qA6 hi,qA6 hj]at e;have e':sl[i]=sl[j]:=e;rcases Nat.lt_or_gt_of_ne ne with z|z
 ·exact qEu.mp h i j hi hj z e'
 ·exact qEu.mp h j i hj hi z e'.symm
def Lts.perm{ds:List Nat}(L:Lts sl cs)(h:ds.Perm cs):Lts sl ds:=⟨L.nd,fun x hx=>by rw[h.count_eq];exact L.ct x hx,L.n10⟩
def zT0(L:Lts sl cs):Wb (cwb cs sl):=by
 refine⟨⟨fun i j=>?_,fun i=>?_⟩,fun i j=>?_⟩
 ·unfold cwb
  split
  ·exact zZ7 _ _ _
  ·exact .inl rfl
 ·unfold cwb
  split
  ·rename_i h;exact crs_self (L.ct _ (gD h.1))
  ·rfl
 ·unfold cwb
  by_cases h:i<sl.length/\j<sl.length
  ·rw[if_pos h,if_pos ⟨h.2,h.1⟩];exact zNZ (L.ct _ (gD h.1)) (L.ct _ (gD h.2))
  ·rw[if_neg h,if_neg fun z=>h ⟨z.2,z.1⟩]
def zHE{w:List Nat}{p:Nat}(L:Lts sl cs)(hz:cs.length<=90)(hp:p<sl.length)(h:zB6 [tn4 (sl.getD p 0),.str ⟨cs.toArray⟩]=okR (.str ⟨w.toArray⟩)):w.Perm cs/\cwb w sl=tnw (cwb cs sl) p:=by
 obtain⟨A,B,C,rfl,hA,hB,hC⟩:=zAZ (L.ct _ (gD hp));have d:=zKM (A:=A) (B:=B) (C:=C) (x:=sl.getD p 0) (by lia) hA hC;have e:w=trn A B C (sl.getD p 0):=by
  have:(okR (Dt.str ⟨(trn A B C (sl.getD p 0)).toArray⟩):R Dt)=okR (.str ⟨w.toArray⟩):=d.symm.trans h;have h2:(⟨(trn A B C (sl.getD p 0)).toArray⟩:Str)=⟨w.toArray⟩:=by
   injection this with h1
   injection h1 with h1
   injection h1
  have:=congrArg (fun s:Str=>s.cps.toList) h2
  simpa using this.symm
 subst e;refine⟨zJN _ _ _ _,?_⟩;have L2:=L.perm (zJN A B C (sl.getD p 0));funext i j;by_cases hi:i<sl.length
 ·by_cases hj:j<sl.length
  ·by_cases ne:i=j
   ·subst ne;rw[(zT0 L2).1.2 i,(zOF (zT0 L) p).1.2 i]
   ·have f1:∀(ds:List Nat)(i j:Nat),i<sl.length->j<sl.length->cwb ds sl i j=crs ds (sl.getD i 0) (sl.getD j 0):=fun ds i j hi hj=>if_pos ⟨hi,hj⟩
    rw[zHK ne,f1 _ i j hi hj,f1 _ p i hp hi,f1 _ p j hp hj,f1 _ i j hi hj];exact zVL hA hB hC (L.ct _ (gD hi)) (L.ct _ (gD hj)) (zYF L.nd hi hj ne)
  ·unfold tnw cwb;rw[if_neg fun z=>hj z.2,if_neg (c:=p<sl.length/\j<sl.length) fun z=>hj z.2,if_neg fun z=>absurd z.2.1 (by decide)];exact(if_neg fun z=>hj z.2).symm
 ·unfold tnw cwb;rw[if_neg fun z=>hi z.1,if_neg (c:=p<sl.length/\i<sl.length) fun z=>hi z.2,if_neg fun z=>absurd z.1 (by decide)];exact(if_neg fun z=>hi z.1).symm
def zVK{u v:Nat}(L:Lts sl cs)(hz:cs.length<=90)(hu:u<sl.length)(hv:v<sl.length)(h:Tr3 cs out (sl.getD u 0) (sl.getD v 0)):out.Perm cs/\cwb out sl=tn3 (cwb cs sl) u v:=by
 obtain⟨w1,w2,h1,h2,h3⟩:=h;obtain⟨p1,e1⟩:=zHE L hz hu h1;obtain⟨p2,e2⟩:=zHE (L.perm p1) (by rw[p1.length_eq];exact hz) hv h2;obtain⟨p3,e3⟩:=zHE (L.perm (p2.trans p1)) (by rw[(p2.trans p1).length_eq];exact hz) hu h3;exact⟨p3.trans (p2.trans p1),by rw[e3,e2,e1];rfl⟩
def zPG{sl:List Nat}(h:∀x∈sl,∀y∈sl,crs ds x y=crs cs x y):cwb ds sl=cwb cs sl:=by
 funext i j;unfold cwb;by_cases hij:i<sl.length/\j<sl.length
 ·rw[if_pos hij,if_pos hij];exact h _ (gD hij.1) _ (gD hij.2)
 ·rw[if_neg hij,if_neg hij]
def zRL{sl:List Nat}{p:Nat}(h:sl.Nodup)(hp:p<sl.length):zB2 [.str ⟨sl.toArray⟩,sgn (sl.getD p 0)]=okR (.int (p:Int)):=by
 have e:sl=sl.take p++sl.getD p 0::sl.drop (p+1):=by
  rw[qA3,qA6 hp];show sl=sl.take p++sl[p]::sl.drop (p+1);rw[<- qB0 hp,qE8]
 have hn:sl.getD p 0∉sl.take p:=fun z=>by
  rw[e,qE1]at h;exact h.2.2 _ z _ qAw rfl
 have:=zP9 (A:=sl.take p) (R:=sl.drop (p+1)) hn;rw[<- e,qEa,qDu (by lia)]at this;exact this
def tdw7{sl:List Nat}{i:Nat}(h:sl.Nodup)(hn:sl.length<=10)(hi:i<sl.length)(w:Wb f):zB4 [tn4 (sl.getD i 0),.str ⟨sl.toArray⟩,mat (tab sl.length f)]=okR (mat (tab sl.length (tnw f i))):=by
 have hd:=zBR (tab sl.length (tnw f i));exact zBA rfl (sr (cn2 rfl (c2 rfl (fld1 (v:=.s ⟨#[sl.getD i 0]⟩) rfl (by decide) lkY) (zRL h hi)) (zXJ hn hi w)) ⟨hd,hd⟩)
def sdw7{sl:List Nat}{i j:Nat}(hs:sl.Nodup)(hn:sl.length<=10)(hi:i<sl.length)(hj:j<sl.length)(w:Wb f)(h:f i j=1):zB5 [swp (sl.getD i 0) (sl.getD j 0),.str ⟨sl.toArray⟩,mat (tab sl.length f)]=okR (mat (tab sl.length (tn3 f i j))):=by
 have hd:=zBR (tab sl.length (tn3 f i j));have e:=zdK hn (w.t2.bits sl.length) hi hj;rw[zXL w hi hj h]at e;refine zBA rfl (sg (c2 rfl (fld1 (v:=.s ⟨#[sl.getD i 0]⟩) rfl (by decide) lkY) (zRL hs hi)) (qA5 0) (sg (c2 rfl (fld1 (v:=.s ⟨#[sl.getD j 0]⟩) rfl (by decide) (lkN oo lkY)) (zRL hs hj)) (qA5 0) (sp (nei (b2 (b2 rfl rfl (ixM hi)) rfl (ixR hj)) rfl ?_) (sr (cn3 rfl rfl rfl e) ⟨hd,hd⟩))));rw[h];rfl
def zmat(sl:List Nat):Dt.lst (sl.map fun _=>Dt.lst (sl.map fun _=>Dt.int 0))=mat (tab sl.length fun _ _=>0):=by
 unfold mat tab rowD;simp only[qC4,List.map_const',qCy,Function.comp_def,List.map_replicate]
def zM2{cs:List Nat}(h0:0<cs.length)(hz:cs.length<=60)(L:Lts (sosL cs) cs):zDC [.str ⟨cs.toArray⟩]=okR (mat (tab (sosL cs).length (cwb cs (sosL cs)))):=by
 have hlet:=zI4 h0 hz;have hn:=L.n10;generalize sosL cs=sl at hlet L hn;have hcp:∀o,eComp (iSq (eV 1)) 1 (.one 10) Mi.tYes (eComp (iSq (eV 1)) 1 (.one 11) Mi.tYes (eC (.int 0))) [some (.str ⟨cs.toArray⟩),some (.str ⟨sl.toArray⟩),o,none,none,none,none,none,none,none]=okR (mat (tab sl.length fun _ _=>0)):=fun o=>by
  rw[<- zmat];exact zCB sgn (fun _=>Dt.lst (sl.map fun _=>Dt.int 0)) sl rfl rfl (fun x _=>zCB sgn (fun _=>Dt.int 0) sl rfl rfl (fun y _=>rfl) _ rfl (by lia)) _ rfl (by lia)
 have hi:∀b:Bool,intD [.bl b]=some (.int (if b=true then 1 else 0)):=fun b=>by cases b<;>rfl
 refine zBA rfl (sg (c1 rfl hlet) (qA5 0) (sg (hcp none) (zBR _) (zDU fun bb hb=>?_)));rw[zHG];show nxR (zA3 (okR (enumD 0 (sl.map sgn))) fun ds=>forGo (.tup [3,4]) _ ds [some (.str ⟨cs.toArray⟩,0),some (.str ⟨sl.toArray⟩,0),some (mat (tab sl.length fun _ _=>0),0+2),none,none,none,none,none,none,none]) _;rw[zA0];refine zNK (sl.map sgn) (fun k r=>∃(g:Nat->Nat->Int)(o3 o4 o5 o6 o7 o8 o9:Option Sl),Pg sl.length (fun _ _=>0) (cwb cs sl) g (fun i j=>i<k)/\r=[some (.str ⟨cs.toArray⟩,0),some (.str ⟨sl.toArray⟩,0),some (mat (tab sl.length g),0+2),o3,o4,o5,o6,o7,o8,o9]) ⟨_,none,none,none,none,none,none,none,fun i j _ _=>⟨fun z=>absurd z (Nat.not_lt_zero i),fun _=>rfl⟩,rfl⟩ (fun k d hd r hr=>?_) fun r hr=>?_
 ·obtain⟨g,o3,o4,o5,o6,o7,o8,o9,hg,rfl⟩:=hr;have hk:k<sl.length:=by have:=(qA2.mp hd).1;simpa using this
  have hdx:d=sgn (sl.getD k 0):=by
   rw[qAd,qA6 hk]at hd;cases hd;rw[qA3,qA6 hk];rfl
  subst hdx;have hxc:=L.ct _ (gD hk);generalize hxe:sl.getD k 0=x at hxc;obtain⟨A,B,C,e,hA,hB,hC⟩:=zAZ hxc;have hbt:btw cs x=B:=by rw[e];exact zD6 hA hB
  have hle:cs.length=A.length+1+B.length+1+C.length:=by rw[e];simp;lia
  have sp:=zTU (A:=A) (B:=B) (C:=C) (by rw[<- e];lia) hA hB hC;rw[<- e]at sp;have sl2':=zDL (a:=cs) (some (A.length:Int)) (some ((A.length+1+B.length:Nat):Int)) (by lia);rw[zKO _ (by lia) (by lia),show A.length+1+B.length-A.length=B.length+1 by lia,show(cs.drop A.length).take (B.length+1)=x::B by rw[e];simp]at sl2';refine nsw (r':=[some (.str ⟨cs.toArray⟩,0),some (.str ⟨sl.toArray⟩,0),some (mat (tab sl.length g),0+2),some (.int (k:Nat),0),some (sgn x,0),some (.int (A.length:Int),0),some (.int ((A.length+1+B.length:Nat):Int),0),o7,o8,o9]) (by
   unfold sUnpL;rw[c2 rfl rfl sp,zA0];rfl) ?_
  rw[zHG];show nxR (zA3 (okR (enumD 0 (sl.map sgn))) fun ds=>forGo (.tup [7,8]) _ ds [some (.str ⟨cs.toArray⟩,0),some (.str ⟨sl.toArray⟩,0),some (mat (tab sl.length g),0+2),some (.int (k:Nat),0),some (sgn x,0),some (.int (A.length:Int),0),some (.int ((A.length+1+B.length:Nat):Int),0),o7,o8,o9]) _;rw[zA0];refine zNK (sl.map sgn) (fun m r=>∃(g:Nat->Nat->Int)(o7 o8 o9:Option Sl),Pg sl.length (fun _ _=>0) (cwb cs sl) g (fun i j=>i<k\/(i=k/\j<m))/\r=[some (.str ⟨cs.toArray⟩,0),some (.str ⟨sl.toArray⟩,0),some (mat (tab sl.length g),0+2),some (.int (k:Nat),0),some (sgn x,0),some (.int (A.length:Int),0),some (.int ((A.length+1+B.length:Nat):Int),0),o7,o8,o9]) ⟨g,o7,o8,o9,zRN hg fun i j _ _=>by lia,rfl⟩ (fun m d hd r hr=>?_) fun r hr=>?_
  ·obtain⟨g,o7,o8,o9,hg,rfl⟩:=hr;have hm:m<sl.length:=by have:=(qA2.mp hd).1;simpa using this
   have hdx:d=sgn (sl.getD m 0):=by
    rw[qAd,qA6 hm]at hd;cases hd;rw[qA3,qA6 hm];rfl
   subst hdx;refine nsw (ss (mt1 (sl2 rfl rfl rfl sl2') rfl rfl (zMH _ _)) (qA5 0)) ?_;refine zUY (l:=0) (f:=g) k m (v:=(((x::B).count (sl.getD m 0):Nat):Int)%2*(if(!decide ((k:Int)=m))=true then 1 else 0)) rfl rfl rfl (b2 (b2 rfl rfl (mdi (by decide) rfl)) (bi1 (b2 rfl rfl (neI _ _)) (hi _)) (zUM (by lia) (by lia))) hk hm fun g1 hg1=>⟨g1,_,_,_,zRN (zaQ hg hg1 ?_) fun i j _ _=>by lia,rfl⟩
   have hcw:cwb cs sl k m=crs cs x (sl.getD m 0):=by rw[<- hxe];exact if_pos ⟨hk,hm⟩
   rw[hcw];by_cases ekm:k=m
   ·subst ekm;rw[hxe,crs_self hxc,decide_eq_true rfl];exact Int.mul_zero _
   ·have hne:x≠sl.getD m 0:=by rw[<- hxe];exact zYF L.nd hk hm ekm
    rw[decide_eq_false (show ¬(k:Int)=m by lia),qB2 hne];have hyc:=L.ct _ (gD hm);have hb2:B.count (sl.getD m 0)<=2:=by
     rw[<- hyc,e,qAe,qCq,qAe];lia
    unfold crs;rw[hbt];show _*1=_;rw[qGx];split<;>lia
  ·obtain⟨g,o7,o8,o9,hg,rfl⟩:=hr;rw[qAg]at hg;exact⟨g,_,_,_,_,_,_,_,zRN hg fun i j _ hj=>by lia,rfl⟩
 ·obtain⟨g,o3,o4,o5,o6,o7,o8,o9,hg,rfl⟩:=hr;subst hb;rw[qAg]at hg;rw[show tab sl.length g=tab sl.length (cwb cs sl) from zN4 fun i j hi hj=>(hg i j hi hj).1 hi];show sRetV 2 2 _=_;unfold sRetV
  show(if _ then _ else _)=_
  rw[if_pos (.inl rfl)]
def zdL{n:Nat}(hn:n<=10):zCF [mat (tab n f),.int (n:Int)]=okR (mat (tab n f)):=by
 have hd:=zBR (tab n f);have s1:slD (mat (tab n f)) none (some (n:Int))=some (mat (tab n f)):=by
  show some (Dt.lst (cutA ((tab n f).map rowD) none (some (n:Int))))=_;rw[zG5,qBs (by rw[qAg,zEF];exact qA5 _)];rfl
 refine zBA rfl (sr ?_ ⟨hd,hd⟩);refine zCB rowD rowD (tab n f) rfl rfl (fun r hr=>?_) _ ?_ (by rw[zEF];lia)
 ·have hl:r.length=n:=by
   unfold tab at hr;obtain⟨i,_,rfl⟩:=qBq.mp hr;simp
  refine sl0 (x:=rowD r) rfl rfl ?_;show some (Dt.lst (cutA (r.map Dt.int) none (some (n:Int))))=_;rw[zG5,qBs (by rw[qAg,hl];exact qA5 _)];rfl
 ·show zA3 _ _=_;rw[sl0 (x:=mat (tab n f)) rfl rfl s1];rfl
def zbA(ns:List Int)(hl:ns.length<=63):∃cl:List Int,zC3 [.scr ns,.int 18]=okR (rowD cl)/\18<=cl.length/\cl.length<=63/\∀c∈cl,0<=c:=by
 have hmin:minD [.int 63,.int (ns.length:Int)]=some (.int (ns.length:Int)):=by
  show some (Dt.int (if(ns.length:Int)<63 then(ns.length:Int)else 63))=_
  split
  ·rfl
  ·rw[show(63:Int)=(ns.length:Int) by lia]
 have hmax:maxD [.int 18,.int (ns.length:Int)]=some (.int ((max 18 ns.length:Nat):Int)):=by
  show some (Dt.int (if(ns.length:Int)>18 then(ns.length:Int)else 18))=_;rw[show(if(ns.length:Int)>18 then(ns.length:Int)else 18)=((max 18 ns.length:Nat):Int) by split<;>lia]
 have hm1:18<=max 18 ns.length:=by lia
 have hm2:max 18 ns.length<=63:=by lia
 generalize max 18 ns.length=m at hmax hm1 hm2
 suffices key:nxR (sForR (iR1 (aCons (eBi maxD (aCons (eV 1) (aCons (eBi minD (aCons (eC (.int 63)) (aCons (eBi lenD (aCons (eV 0) aNil)) aNil))) aNil))) aNil)) 3 (sSeq (sSet 4 1 [3] (eB addD (eB mulD (eC (.int 7)) (eV 3)) (eC (.int 3))))
 (sSeq (sIf (tB (eB (cmpD fun i j=>decide (j<i)) (eBi lenD (aCons (eV 0) aNil)) (eC (.int 0)))) (sSet 4 0 [0,3] (eB modD (eB ixD (eV 0) (eB modD (eV 3) (eBi lenD (aCons (eV 0) aNil)))) (eC (.int 1000003)))) sNil)
 (sSeq (sSet 5 0 [4,3] (eB modD (eB mulD (eB modD (eB addD (eB mulD (eB addD (eV 4) (eC (.int 1))) (eC (.int 48271))) (eB mulD (eB mulD (eV 3) (eV 3)) (eC (.int 7919)))) (eC (.int 1000000007))) (eC (.int 40692))) (eC (.int 2147483399))))
 (sApp 2 1 (eB addD (eB mulD (eV 5) (eC (.int 2147483647))) (eB modD (eB addD (eB mulD (eV 5) (eC (.int 69621))) (eV 3)) (eC (.int 2147483647)))))))) [some (.scr ns,0),some (.int 18,0),some (.lst [],8+1),none,none,none]) (fun r=>∃(l:List Int)(o3 o4 o5:Option Sl),l.length=m/\(∀c∈l,0<=c)/\r=[some (.scr ns,0),some (.int 18,0),some (.lst (l.map .int),8+1),o3,o4,o5]) by
  obtain⟨r',g,l,o3,o4,o5,h1,h2,rfl⟩:=zD3 key;refine⟨l,zBA rfl (sg (d:=.lst []) (by simp) (by decide) (sw g ?_)),by lia,by lia,h2⟩;show sRetV 9 2 [some (.scr ns,0),some (.int 18,0),some (.lst (l.map .int),8+1),o3,o4,o5]=_;simp[rowD]
 rw[zJK,zKZ (n:=m) (al0 (bi2 rfl (bi2 rfl (bi1 rfl rfl) hmin) hmax)) (by lia),zA0];refine zUI (fun k r=>∃(l:List Int)(o3 o4 o5:Option Sl),l.length=k/\(∀c∈l,0<=c)/\r=[some (.scr ns,0),some (.int 18,0),some (.lst (l.map .int),8+1),o3,o4,o5]) ⟨[],none,none,none,rfl,fun c hc=>by simp at hc,rfl⟩ (fun k hk r hr=>?_) fun r hr=>hr
 obtain⟨l,o3,o4,o5,hlk,hl0,rfl⟩:=hr;refine nsw (ss (b2 (b2 rfl rfl (zUM (by decide) (by decide))) rfl (adi rfl)) (qAv _)) ?_;obtain⟨c,lv,hc,hif⟩:∃(c:Int)(lv:Nat),0<=c/\sIf (tB (eB (cmpD fun i j=>decide (j<i)) (eBi lenD (aCons (eV 0) aNil)) (eC (.int 0)))) (sSet 4 0 [0,3] (eB modD (eB ixD (eV 0) (eB modD (eV 3) (eBi lenD (aCons (eV 0) aNil)))) (eC (.int 1000003)))) sNil [some (.scr ns,0),some (.int 18,0),some (.lst (l.map .int),8+1),some (.int (k:Nat),0),some (.int (7*(k:Int)+3),1),o5]=okR (.nx [some (.scr ns,0),some (.int 18,0),some (.lst (l.map .int),8+1),some (.int (k:Nat),0),some (.int c,lv),o5]):=by
  by_cases h:0<ns.length
  ·have a1:=qBi (k:Int) (show(ns.length:Int)≠0 by lia);have a2:=qCu (k:Int) (show(0:Int)<ns.length by lia);obtain⟨q,hq⟩:∃q:Nat,(k:Int)%(ns.length:Int)=(q:Int):=⟨((k:Int)%(ns.length:Int)).toNat,by lia⟩
   refine⟨ns.getD q 0%1000003,0,qBi _ (by decide),st4 (tb1 (b2 (cmpl rfl) rfl (cmi (decide_eq_true (show(0:Int)<ns.length by lia))))) (ss (b2 (b2 rfl (b2 rfl (cmpl rfl) (mdi (by lia) hq)) (ixS (by lia))) rfl (mdi (by decide) rfl)) (qA5 0))⟩
  ·exact⟨7*(k:Int)+3,1,by lia,sf (tb1 (b2 (cmpl rfl) rfl (cmi (decide_eq_false (show ¬(0:Int)<ns.length by lia)))))⟩
 refine nsw hif ?_;have h1:mulD (.int (k:Int)) (.int (k:Int))=some (.int ((k:Int)*k)):=zUM (by lia) (by lia);refine nsw (ss (b2 (b2 (b2 (b2 (b2 (b2 rfl rfl (adi rfl)) rfl (zS3 (by decide) (by decide))) (b2 (b2 rfl rfl h1) rfl (zS3 (by decide) (by decide))) (adi rfl)) rfl (mdi (by decide) rfl)) rfl (zS3 (by decide) (by decide))) rfl (mdi (by decide) rfl)) (qA5 0)) ?_;have hf:0<=((c+1)*48271+(k:Int)*k*7919)%1000000007*40692%2147483399:=qBi _ (by decide)
 generalize((c+1)*48271+(k:Int)*k*7919)%1000000007*40692%2147483399=f at hf;refine zD4 (app4 (d:=.int (f*2147483647+(f*69621+(k:Int))%2147483647)) rfl (b2 (b2 rfl rfl (zS3 (by decide) (by decide))) (b2 (b2 (b2 rfl rfl (zS3 (by decide) (by decide))) rfl (adi rfl)) rfl (mdi (by decide) rfl)) (adi rfl)) (by simp;lia) (qAv _) (qAv _)) ⟨l++[f*2147483647+(f*69621+(k:Int))%2147483647],_,_,_,by simp;lia,fun z hz=>?_,by rw[qCb];rfl⟩
 rcases qBt.mp hz with h|h
 ·exact hl0 z h
 ·rw[qCt]at h
  have:=qBi (f*69621+(k:Int)) (show(2147483647:Int)≠0 by decide)
  lia
def zcD(ns:List Int)(hl:ns.length<=63):∃cl:List Int,zDN [.scr ns,.int 18]=okR (rowD cl)/\18<=cl.length/\cl.length<=63/\∀c∈cl,0<=c:=by
 obtain⟨cm,em,m1,m2,m3⟩:=zbA ns hl;have hrm:sRet 1 9 [0,1] (eCall zC3 (aCons (eV 0) (aCons (eV 1) aNil))) [some (.scr ns,0),some (.int 18,0),none]=okR (.rt (rowD cm)):=sr (c2 rfl rfl em) ⟨by rw[zCM];decide,by rw[zCM];decide⟩
 by_cases h0:ns.length=0
 ·exact⟨cm,zBA rfl (sx (to1 (eqi (cmpl rfl) rfl (decide_eq_true (by lia)))) hrm),m1,m2,m3⟩
 ·have x0:tB (eB eqD (eBi lenD (aCons (eV 0) aNil)) (eC (.int 0))) (full [some (.scr ns,0),some (.int 18,0),none])=okR false:=eqi (cmpl rfl) rfl (decide_eq_false (by lia))
  by_cases h1:ns.getD 0 0%2=0
  ·exact⟨cm,zBA rfl (sx (to0 x0 (eqi (b2 (b2 rfl rfl (ixS (k:=0) (by lia))) rfl (mdi (by decide) rfl)) rfl (decide_eq_true h1))) hrm),m1,m2,m3⟩
  ·obtain⟨T,hT,hpw⟩:∃T:Int,0<T/\powD (.int 10) (.int 60)=some (.int T):=⟨10 ^ (60:Int).toNat,by decide,@if_pos _ (qA1 _) ⟨by decide,by decide,by decide⟩ _ _ _⟩
   have hit:∀o:Option Dt,iSq (eSlZ (eV 0) oNo (oE (eC (.int 63)))) [some (.scr ns),some (.int 18),o]=okR (ns.map Dt.int):=fun o=>by
    show zA3 (optR (slZ (.scr ns) none (some 63))) _=_;rw[show slZ (.scr ns) none (some 63)=some (.scr ns) from @if_pos _ (qA1 _) (show(ns.length:Int)<=63 by lia) _ _ _];rfl
   have hc:eComp (iSq (eSlZ (eV 0) oNo (oE (eC (.int 63))))) 1 (.one 3) Mi.tYes (eB modD (eV 3) (eB powD (eC (.int 10)) (eC (.int 60)))) [some (.scr ns),some (.int 18),none]=okR (rowD (ns.map (·%T))):=by
    refine(zCB Dt.int (fun x=>Dt.int (x%T)) ns rfl rfl (fun x _=>b2 rfl (b2 rfl rfl hpw) (mdi hT rfl)) _ (hit none) (by lia)).trans ?_;unfold rowD;rw[qC4];rfl
   have hrep:repD (.lst [.int 0]) (.int (18-((ns.map (·%T)).length:Int)))=some (rowD (qA7 (18-ns.length) 0)):=by
    rw[qAg];unfold repD;dsimp only;rw[if_pos ⟨⟨by lia,by lia⟩,by simp;lia⟩,show(18-(ns.length:Int)).toNat=18-ns.length by lia]
    have:∀m:Nat,(qA7 m [Dt.int 0]).flatten=(qA7 m (0:Int)).map Dt.int:=fun m=>by
     induction m with
     |zero=>rfl
     |succ m ih=>rw[qBa,qCm,ih,qBa];rfl
    rw[this];rfl
   have hadd:addD (rowD (ns.map (·%T))) (rowD (qA7 (18-ns.length) 0))=some (rowD (ns.map (·%T)++qA7 (18-ns.length) 0)):=by
    unfold rowD;rw[qCb];exact @if_pos _ (qA1 _) (by simp;lia) _ _ _
   refine⟨ns.map (·%T)++qA7 (18-ns.length) 0,zBA rfl (sp (to0 x0 (eqi (b2 (b2 rfl rfl (ixS (k:=0) (by lia))) rfl (mdi (by decide) rfl)) rfl (decide_eq_false h1))) (sg hc (by rw[zCM];exact qA5 1) (sr (b2 rfl (b2 (el1 rfl) (b2 rfl (bi1 rfl (lenR _)) (sbi rfl)) hrep) hadd) ⟨by rw[zCM];exact qA5 1,by rw[zCM];exact qA5 1⟩))),by simp;lia,by simp;lia,fun c hc=>?_⟩
   rcases qBt.mp hc with h|h
   ·obtain⟨x,_,rfl⟩:=qBq.mp h;exact qBi _ (by lia)
   ·rw[List.eq_of_mem_replicate h];exact qI7 0
def Cg(sl:List Nat)(f:Nat->Nat->Int)(ch:Dt):Prop:=(∃u v,u<sl.length/\v<sl.length/\f u v=1/\ch=swp (sl.getD u 0) (sl.getD v 0))\/ch=mi4\/(∃b,ch=sh4 b)\/∃p,p<sl.length/\ch=tn4 (sl.getD p 0)
def za2{k:Nat}(h:((tab n f).map rowD)[k]?=some d):k<n/\d=rowD ((qA9 n).map fun j=>f k j):=by
 have hk:k<n:=by have:=(qA2.mp h).1;rwa [qAg,zEF]at this
 refine⟨hk,?_⟩;unfold tab at h;rw[qAd,qAd,qDo hk]at h;cases h;rfl
set_option maxHeartbeats 1000000 in
def zaU{cs sl:List Nat}(hn:sl.length<=10):nxR (sFor [1] (iEn (aCons (eV 1) aNil)) (.tup [5,6]) (sSeq (sSet 7 1 [6] (eComp (iEn (aCons (eV 6) aNil)) 2 (.tup [10,11]) (tB (eB eqD (eV 11) (eC (.int 1)))) (eV 10)))
 (sSet 4 1 [4,7,3,5] (eB addD (eV 4) (eComp (iSq (eV 7)) 1 (.one 10) Mi.tYes (eTup (aCons (eB ixD (eV 3) (eV 5)) (aCons (eB ixD (eV 3) (eV 10)) aNil))))))) [some (.str ⟨cs.toArray⟩,0),some (mat (tab sl.length f),0),some (.int c,0),some (.str ⟨sl.toArray⟩,0),some (.lst [],9),none,none,none,none,none]) fun r=>∃(prs:List (Nat×Nat))(l4:Nat)(o5 o6 o7:Option Sl),(∀p∈prs,∃u v,u<sl.length/\v<sl.length/\f u v=1/\p=(sl.getD u 0,sl.getD v 0))/\prs.length<=100/\r=[some (.str ⟨cs.toArray⟩,0),some (mat (tab sl.length f),0),some (.int c,0),some (.str ⟨sl.toArray⟩,0),some (.lst (prs.map tp4),l4),o5,o6,o7,none,none]:=by
 rw[zHG];show nxR (zA3 (okR (enumD 0 ((tab sl.length f).map rowD))) fun ds=>forGo (.tup [5,6]) _ ds [some (.str ⟨cs.toArray⟩,0),some (mat (tab sl.length f),0),some (.int c,0),some (.str ⟨sl.toArray⟩,0),some (.lst [],9),none,none,none,none,none]) _;rw[zA0];refine zNK ((tab sl.length f).map rowD) (fun k r=>∃(prs:List (Nat×Nat))(l4:Nat)(o5 o6 o7:Option Sl),(∀p∈prs,∃u v,u<sl.length/\v<sl.length/\f u v=1/\p=(sl.getD u 0,sl.getD v 0))/\prs.length<=10*k/\r=[some (.str ⟨cs.toArray⟩,0),some (mat (tab sl.length f),0),some (.int c,0),some (.str ⟨sl.toArray⟩,0),some (.lst (prs.map tp4),l4),o5,o6,o7,none,none]) ⟨[],9,none,none,none,fun p hp=>by simp at hp,by simp,rfl⟩ (fun k d hd r hr=>?_) fun r hr=>?_
 ·obtain⟨prs,l4,o5,o6,o7,hp,hpl,rfl⟩:=hr;obtain⟨hk,rfl⟩:=za2 hd;have hrow:∀j x,(((qA9 sl.length).map fun j=>f k j).map Dt.int)[j]?=some x->x=Dt.int (f k j):=fun j x hx=>by
   have hj:j<sl.length:=by have:=(qA2.mp hx).1;simpa using this
   rw[qAd,qAd,qDo hj]at hx;cases hx;rfl
  have hnear:=zQG (ρ:=[some (.str ⟨cs.toArray⟩),some (mat (tab sl.length f)),some (.int c),some (.str ⟨sl.toArray⟩),some (.lst (prs.map tp4)),some (.int (k:Nat)),some (rowD ((qA9 sl.length).map fun j=>f k j)),o7.map (·.1),none,none]) (c:=tB (eB eqD (eV 11) (eC (.int 1)))) (e:=eV 10) (i:=10) (j:=11) (((qA9 sl.length).map fun j=>f k j).map Dt.int) (fun j=>.int (j:Int)) (fun j=>decide (f k j=1)) rfl rfl (iEn (aCons (eV 6) aNil)) rfl (by simp;lia) (fun j x hx=>by rw[hrow j x hx];exact eqi rfl rfl rfl) (fun j x hx=>rfl);rw[qAg,qAg,qCy]at hnear
  generalize hks:(qA9 sl.length).filter (fun j=>decide (f k j=1))=ks at hnear
  have hkm:∀j∈ks,j<sl.length/\f k j=1:=fun j hj=>by
   rw[<- hks,qEh,qCw]at hj;exact⟨hj.1,by simpa using hj.2⟩
  have hkl:ks.length<=10:=by
   rw[<- hks];have:=qFt (fun j=>decide (f k j=1)) (qA9 sl.length)
   rw[qCy]at this;lia
  refine nsw (ss hnear (by rw[<- numD,zCM];exact qA5 1)) ?_;have hev:∀(ρ:Rh),10=ρ.length->ρ[3]?=some (some (.str ⟨sl.toArray⟩))->ρ[4]?=some (some (.lst (prs.map tp4)))->ρ[5]?=some (some (.int (k:Nat)))->ρ[7]?=some (some (.lst (ks.map fun j:Nat=>Dt.int (j:Int))))->eB addD (eV 4) (eComp (iSq (eV 7)) 1 (.one 10) Mi.tYes (eTup (aCons (eB ixD (eV 3) (eV 5)) (aCons (eB ixD (eV 3) (eV 10)) aNil)))) ρ=okR (.lst ((prs++ks.map fun j=>(sl.getD k 0,sl.getD j 0)).map tp4)):=fun ρ h10 h3 h4 h5 h7=>by
   have up:∀{i:Nat}{y:Option Dt}(z:Option Dt),ρ[i]?=some y->(ρ++[z])[i]?=some y:=fun{i y} z h=>by
    rw[qAf (qA2.mp h).1];exact h
   refine b2 (v1 h4) (zCB (fun j:Nat=>Dt.int (j:Int)) (fun j=>tp4 (sl.getD k 0,sl.getD j 0)) ks rfl h10 (fun j hj=>et24 (b2 (v1 (up _ h3)) (v1 (up _ h5)) (zM4 hk (by lia))) (b2 (v1 (up _ h3)) (v1 (by rw[h10,qAc (qA5 _)];simp)) (zM4 (hkm j hj).1 (by lia)))) _ ?_ (by lia)) ?_
   ·show zA3 (eV 7 ρ) _=_;rw[v1 h7];rfl
   ·rw[qCb,qC4];exact @if_pos _ (qA1 _) (by simp;lia) _ _ _
  have hnew:∀p∈prs++ks.map fun j=>(sl.getD k 0,sl.getD j 0),∃u v,u<sl.length/\v<sl.length/\f u v=1/\p=(sl.getD u 0,sl.getD v 0):=fun p hp'=>by
   rcases qBt.mp hp' with h|h
   ·exact hp p h
   ·obtain⟨j,hj,rfl⟩:=qBq.mp h;exact⟨k,j,hk,(hkm j hj).1,(hkm j hj).2,rfl⟩
  exact zXS (hev _ rfl rfl rfl rfl rfl) (hev _ rfl rfl rfl rfl rfl) ⟨_,1,_,_,_,hnew,by simp;lia,rfl⟩ ⟨_,1,_,_,_,hnew,by simp;lia,rfl⟩
 ·obtain⟨prs,l4,o5,o6,o7,hp,hpl,rfl⟩:=hr;rw[qAg,zEF]at hpl;exact⟨prs,l4,o5,o6,o7,hp,by lia,rfl⟩
def zZ8{cs sl:List Nat}{c:Int}(h0:0<cs.length)(hz:cs.length<=60)(hs:sosL cs=sl)(hn:sl.length<=10)(hn1:1<=sl.length)(hc:0<=c):∃ch,zCL [.str ⟨cs.toArray⟩,mat (tab sl.length f),.int c]=okR ch/\Cg sl f ch:=by
 have hlet:=zI4 h0 hz;rw[hs]at hlet;obtain⟨r',g,prs,l4,o5,o6,o7,hp,hpl,rfl⟩:=zD3 (zaU (cs:=cs) (sl:=sl) (f:=f) (c:=c) hn);have hlen:=zET (cs:=sl) (by lia);have hll:lenD [.lst (prs.map tp4)]=some (.int (prs.length:Int)):=by simp[show prs.length<=100000 by lia]
 have d8:∀ρ:Rh,ρ[2]?=some (some (.int c))->eB divD (eV 2) (eC (.int 8)) ρ=okR (.int (c/8)):=fun ρ h=>b2 (v1 h) rfl (dvi ⟨by decide,by decide⟩)
 have q8:∀ρ:Rh,ρ[2]?=some (some (.int c))->eB modD (eV 2) (eC (.int 8)) ρ=okR (.int (c%8)):=fun ρ h=>b2 (v1 h) rfl (mdi (by decide) rfl)
 by_cases hA:c%8<4/\0<prs.length
 ·obtain⟨u,hu⟩:∃u:Nat,c/8%(prs.length:Int)=(u:Int):=⟨_,(qG5 (qBi (c/8) (show(prs.length:Int)≠0 by lia))).symm⟩
  have hul:u<prs.length:=by have:=qCu (c/8) (show(0:Int)<prs.length by lia);lia
  have hix:ixD (.lst (prs.map tp4)) (.int (u:Int))=some (tp4 prs[u]):=by
   rw[zFK];exact zCD (j:=u) rfl (by rw[qAd,qA6 hul];rfl)
  obtain⟨a,b,ha,hb,hf,e⟩:=hp prs[u] (qD5 hul);rw[e]at hix;refine⟨swp (sl.getD a 0) (sl.getD b 0),zBA rfl (sg (c1 rfl hlet) (qA5 0) (sg el0' (by decide) (sw g (sx (ta1 (tb1 (b2 (q8 _ rfl) rfl (cmi (decide_eq_true hA.1)))) (tb1 (b2 (bi1 rfl hll) rfl (cmi (decide_eq_true (by lia)))))) (sw (r':=[some (.str ⟨cs.toArray⟩,0),some (mat (tab sl.length f),0),some (.int c,0),some (.str ⟨sl.toArray⟩,0),some (.lst (prs.map tp4),0),o5,o6,o7,some (sgn (sl.getD a 0),0),some (sgn (sl.getD b 0),0)]) (by
   unfold sUnp;rw[b2 rfl (b2 (d8 _ rfl) (bi1 rfl hll) (mdi (by lia) hu)) hix,zA0]
   rfl) (srf (nwS rfl rfl) (big4 rfl (by decide)) rfl (nwS rfl rfl))))))),.inl ⟨a,b,ha,hb,hf,rfl⟩⟩
 ·have cf:∀ρ:Rh,ρ[2]?=some (some (.int c))->ρ[4]?=some (some (.lst (prs.map tp4)))->tAn (tB (eB (cmpD fun i j=>decide (i<j)) (eB modD (eV 2) (eC (.int 8))) (eC (.int 4)))) (tB (eB (cmpD fun i j=>decide (j<i)) (eBi lenD (aCons (eV 4) aNil)) (eC (.int 0)))) ρ=okR false:=fun ρ a b=>by
   by_cases h1:c%8<4
   ·exact ta1 (tb1 (b2 (q8 _ a) rfl (cmi (decide_eq_true h1)))) (tb1 (b2 (bi1 (v1 b) hll) rfl (cmi (decide_eq_false (fun w=>hA ⟨h1,by lia⟩)))))
   ·exact ta0 (tb1 (b2 (q8 _ a) rfl (cmi (decide_eq_false h1))))
  by_cases hB:c%8=4
  ·exact⟨mi4,zBA rfl (sg (c1 rfl hlet) (qA5 0) (sg el0' (by decide) (sw g (sp (cf _ rfl rfl) (sx (eqi (q8 _ rfl) rfl (decide_eq_true hB)) (srf (zQN _ _) (big4 rfl (by decide)) rfl (zQN _ _))))))),.inr (.inl rfl)⟩
  ·by_cases hC:c%8=5
   ·have hv:∀ρ:Rh,ρ[2]?=some (some (.int c))->eNew "Shift" ["by"] (aCons (eB subD (eB modD (eB divD (eV 2) (eC (.int 8))) (eC (.int 61))) (eC (.int 30))) aNil) ρ=okR (sh4 (c/8%61-30)):=fun ρ h=>nwH (b2 (b2 (d8 _ h) rfl (mdi (by decide) rfl)) rfl (sbi rfl))
    exact⟨sh4 (c/8%61-30),zBA rfl (sg (c1 rfl hlet) (qA5 0) (sg el0' (by decide) (sw g (sp (cf _ rfl rfl) (sp (eqi (q8 _ rfl) rfl (decide_eq_false hB)) (sx (eqi (q8 _ rfl) rfl (decide_eq_true hC)) (srf (hv _ rfl) (big4 rfl (by decide)) rfl (hv _ rfl)))))))),.inr (.inr (.inl ⟨_,rfl⟩))⟩
   ·obtain⟨q,hq⟩:∃q:Nat,c/8%(sl.length:Int)=(q:Int):=⟨_,(qG5 (qBi (c/8) (show(sl.length:Int)≠0 by lia))).symm⟩
    have hql:q<sl.length:=by have:=qCu (c/8) (show(0:Int)<sl.length by lia);lia
    have hx:=zM4 (cs:=sl) (k:=q) hql (by lia);have hv:∀ρ:Rh,ρ[2]?=some (some (.int c))->ρ[3]?=some (some (.str ⟨sl.toArray⟩))->eNew "Turn" ["letter"] (aCons (eB ixD (eV 3) (eB modD (eB divD (eV 2) (eC (.int 8))) (eBi lenD (aCons (eV 3) aNil)))) aNil) ρ=okR (tn4 (sl.getD q 0)):=fun ρ a b=>nwT (b2 (v1 b) (b2 (d8 _ a) (bi1 (v1 b) hlen) (mdi (by lia) hq)) hx)
    exact⟨tn4 (sl.getD q 0),zBA rfl (sg (c1 rfl hlet) (qA5 0) (sg el0' (by decide) (sw g (sp (cf _ rfl rfl) (sp (eqi (q8 _ rfl) rfl (decide_eq_false hB)) (sp (eqi (q8 _ rfl) rfl (decide_eq_false hC)) (srf (hv _ rfl rfl) (big4 rfl (by decide)) rfl (hv _ rfl rfl)))))))),.inr (.inr (.inr ⟨q,hql,rfl⟩))⟩
structure Cd(sl cs:List Nat)(ch:Dt)(cs':List Nat):Prop where
 pm:cs'.Perm cs
 ic:ch.dep=1000
 dn:∀(e0 e1:EM)(ρ:Rh),e0 ρ=okR ch->e1 ρ=okR (.str ⟨cs.toArray⟩)->eMeth [("Turn",zB6),("Swap",zBK),("Mirror",zC9),("Shift",zCJ)] "done" e0 (aCons e1 aNil) ρ=okR (.str ⟨cs'.toArray⟩)
 wb:∀(e0 e1 e2:EM)(ρ:Rh),e0 ρ=okR ch->e1 ρ=okR (.str ⟨sl.toArray⟩)->e2 ρ=okR (mat (tab sl.length (cwb cs sl)))->eMeth [("Turn",zB4),("Swap",zB5),("Mirror",zAM),("Shift",zAM)] "done_web" e0 (aCons e1 (aCons e2 aNil)) ρ=okR (mat (tab sl.length (cwb cs' sl)))
def cd7(L:Lts sl cs)(h0:0<cs.length)(hz:cs.length<=60)(h:Cg sl (cwb cs sl) ch):∃cs',Cd sl cs ch cs':=by
 have w:=zT0 L;rcases h with⟨u,v,hu,hv,hf,rfl⟩|rfl|⟨b,rfl⟩|⟨p,hp,rfl⟩
 ·have ne:u≠v:=fun z=>by rw[z,w.1.2]at hf;lia
  have hc:crs cs (sl.getD u 0) (sl.getD v 0)=1:=(if_pos ⟨hu,hv⟩).symm.trans hf;obtain⟨out,s1,_,t3⟩:=zd8 (by lia) (L.ct _ (gD hu)) (L.ct _ (gD hv)) (zYF L.nd hu hv ne) (crs_one.mp hc);obtain⟨pm,e⟩:=zVK L (by lia) hu hv t3;exact⟨out,pm,rfl,fun e0 e1 ρ a b=>mt14 a (lkN4 n1 lkY4) (lkN4 m2 (lkN4 m3 rfl)) b s1,fun e0 e1 e2 ρ a b c=>by
   rw[e];exact mth a (lkN nTS lkY) (lkN nd1 (lkN nd2 rfl)) b c (sdw7 L.nd L.n10 hu hv w hf)⟩
 ·refine⟨cs.reverse,List.reverse_perm cs,rfl,fun e0 e1 ρ a b=>mt14 a (lkN4 n2 (lkN4 n3 lkY4)) rfl b (zNO cs (by lia) _),fun e0 e1 e2 ρ a b c=>?_⟩;rw[zPG fun x hx y _=>zZ6 (L.ct x hx)];exact mth a (lkN nMT (lkN nMS lkY)) rfl b c (zcB L.n10)
 ·have a0:=qBi b (show(cs.length:Int)≠0 by lia);have a1:=qCu b (show(0:Int)<cs.length by lia);refine⟨sh (b%(cs.length:Int)).toNat cs,zOQ cs _,rfl,fun e0 e1 ρ a c=>mt14 a (lkN4 n4 (lkN4 n5 (lkN4 n6 lkY4))) (lkN4 m4 rfl) c (zPT cs (by lia) h0 b),fun e0 e1 e2 ρ a b' c=>?_⟩;rw[show cwb (sh (b%(cs.length:Int)).toNat cs) sl=cwb cs sl from zPG fun x hx y hy=>zT1 (L.ct x hx) (L.ct y hy) _ (by lia)];exact mth a (lkN nhT (lkN nhS (lkN nhM lkY))) (lkN nd4 rfl) b' c (zcB L.n10)
 ·obtain⟨A,B,C,e,hA,hB,hC⟩:=zAZ (L.ct _ (gD hp));have d:=zKM (A:=A) (B:=B) (C:=C) (x:=sl.getD p 0) (by rw[<- e];lia) hA hC;rw[<- e]at d;obtain⟨pm,ew⟩:=zHE L (by lia) hp d;exact⟨_,pm,rfl,fun e0 e1 ρ a b=>mt14 a lkY4 (lkN4 m1 rfl) b d,fun e0 e1 e2 ρ a b c=>by
   rw[ew];exact mth a lkY (lkN nd3 rfl) b c (tdw7 L.nd L.n10 hp w)⟩
def sox7(l:List Nat)(h:l.length<64):soxD [.str ⟨l.toArray⟩]=some (.lst ((sortC l).map sgn)):=
 @if_pos _ (qA1 _) (show l.toArray.size<64 by simpa using h) _ _ _
def zcY{a:List Nat}(h:a.Perm b):sortC a=sortC b:=by
 have hp:=((sortC_perm a).trans h).trans (sortC_perm b).symm;exact hp.eq_of_pairwise (fun x y _ _ h1 h2=>qH3 h1 h2) (sortC_asc a) (sortC_asc b)
def eqS7:∀l:List Nat,Dt.eqL (l.map sgn) (l.map sgn)=true
 |[]=>rfl
 |a::r=>by
  rw[qAm,Dt.eqL,eqS7 r];show((⟨#[a]⟩:Str)==⟨#[a]⟩&&true)=true;simp
def neS7(l:List Nat):neD (.lst (l.map sgn)) (.lst (l.map sgn))=some (.bl false):=by
 have hd:(Dt.lst (l.map sgn)).dep<=40:=by
  have:Dt.depL (l.map sgn)=0:=zYZ fun d hd=>by obtain⟨c,_,rfl⟩:=qBq.mp hd;rfl
  show Dt.depL (l.map sgn)+1<=40;lia
 unfold neD;rw[if_pos ⟨hd,hd⟩];show some (Dt.bl (!Dt.eqL (l.map sgn) (l.map sgn)))=_;rw[eqS7];rfl
def neM7{e1 e2:EM}(h1:e1 ρ=okR (mat A))(h2:e2 ρ=okR (mat A)):tB (eB neD e1 e2) ρ=okR false:=by
 have hd:=zBR A;exact ned h1 h2 (by lia) (by lia) (by rw[zWU,decide_eq_true rfl]) rfl
def zd5{n:Nat}(hn:n<=10):∀r∈tab n g,r.length<=1000:=fun r hr=>by
 unfold tab at hr;obtain⟨i,_,rfl⟩:=qBq.mp hr;rw[qAg,qCy];lia
def zcC{cl:List Int}{k:Nat}(h:k<cl.length):ixD (rowD cl) (.int (k:Int))=some (.int (cl.getD k 0)):=by
 have:=zUZ (ns:=cl) (i:=(k:Int)) (by lia) (by lia)
 rw[qBc]at this;exact this
def zcW{c:Int}{l2 l4:Nat}{o6 o7 o8 o9 o10:Option Sl}(L:Lts sl cs)(hs:sosL cs=sl)(hp:cs.Perm (sl++sl))(h0:0<cs.length)(hz:cs.length<=60)(hn1:1<=sl.length)(hc:0<=c) :
  nxR ((sSeq (sSet 6 0 [2,4,5] (eCall zCL (aCons (eV 2) (aCons (eV 4) (aCons (eV 5) aNil)))))
 (sSeq (sSet 7 2 [10,4] (eComp (iSq (eV 4)) 1 (.one 11) Mi.tYes (eBi listD (aCons (eV 11) aNil))))
 (sSeq (sSet 8 2 [3,7,6] (eMeth [("Turn",zB4),("Swap",zB5),("Mirror",zAM),("Shift",zAM)] "done_web" (eV 6) (aCons (eV 3) (aCons (eV 7) aNil))))
 (sSeq (sSet 2 0 [2,6] (eMeth [("Turn",zB6),("Swap",zBK),("Mirror",zC9),("Shift",zCJ)] "done" (eV 6) (aCons (eV 2) aNil)))
 (sSeq (sIf (Mi.tOr (tNo (tM (eIsi "str" (eV 2)))) (tB (eB neD (eBi soxD (aCons (eV 2) aNil)) (eBi soxD (aCons (eB addD (eV 3) (eV 3)) aNil))))) (sRet 0 0 [] (eC (.bl false))) sNil)
 (sSeq (sSet 9 2 [2] (eCall zDC (aCons (eV 2) aNil)))
 (sSeq (sIf (Mi.tOr (tNo (tM (eCall zC2 (aCons (eV 8) (aCons (eV 9) aNil))))) (tB (eB neD (eV 7) (eV 4)))) (sRet 0 0 [] (eC (.bl false))) sNil)
 (sSeq (sSet 4 2 [10,8] (eComp (iSq (eV 8)) 1 (.one 11) Mi.tYes (eBi listD (aCons (eV 11) aNil))))
 (sSeq (sForApp 8 10 1)
 (sSeq (sApp 8 9 (eLst aNil))
 (sIf (tB (eB neD (eV 7) (eCall zCF (aCons (eV 7) (aCons (eBi lenD (aCons (eV 3) aNil)) aNil))))) (sRet 0 0 [] (eC (.bl false))) sNil))))))))))) [some (.scr ns,0),some (rowD cl,0),some (.str ⟨cs.toArray⟩,l2),some (.str ⟨sl.toArray⟩,0),some (mat (tab sl.length (cwb cs sl)),l4),some (.int c,0),o6,o7,o8,o9,o10]) fun r=>∃(cs':List Nat)(l2 l4:Nat)(o5 o6 o7 o8 o9 o10:Option Sl),cs'.Perm cs/\r=[some (.scr ns,0),some (rowD cl,0),some (.str ⟨cs'.toArray⟩,l2),some (.str ⟨sl.toArray⟩,0),some (mat (tab sl.length (cwb cs' sl)),l4),o5,o6,o7,o8,o9,o10]:=by
 have hn:=L.n10;obtain⟨ch,ech,hg⟩:=zZ8 (f:=cwb cs sl) h0 hz hs hn hn1 hc;obtain⟨cs',D⟩:=cd7 L h0 hz hg;have pl:=D.pm.length_eq;have hs':sosL cs'=sl:=by rw[<- hs];exact zOO fun x=>D.pm.mem_iff
 have hw':=zM2 (cs:=cs') (by lia) (by lia) (by rw[hs'];exact L.perm D.pm);rw[hs']at hw';have hpl:=hp.length_eq;rw[qAs]at hpl;have hlen:=zET (cs:=sl) (by lia);have x1:=sox7 cs' (by lia);have x2:=sox7 (sl++sl) (by simp;lia);rw[<- zcY (D.pm.trans hp)]at x2;have ad:addD (.str ⟨sl.toArray⟩) (.str ⟨sl.toArray⟩)=some (.str ⟨(sl++sl).toArray⟩):=add_str (by lia);refine nsw (r':=[some (.scr ns,0),some (rowD cl,0),some (.str ⟨cs.toArray⟩,0),some (.str ⟨sl.toArray⟩,0),some (mat (tab sl.length (cwb cs sl)),0),some (.int c,0),some (ch,0),o7,o8,o9,o10]) (ssf8 (c3 rfl rfl rfl ech) (by rw[D.ic];decide) (c3 rfl rfl rfl ech)) ?_;refine nsw (r':=[some (.scr ns,0),some (rowD cl,0),some (.str ⟨cs.toArray⟩,0),some (.str ⟨sl.toArray⟩,0),some (mat (tab sl.length (cwb cs sl)),0),some (.int c,0),some (ch,0),some (mat (tab sl.length (cwb cs sl)),2),o8,o9,o10]) (ss (zcA rfl rfl (by lia)) (zBR _)) ?_;refine nsw (r':=[some (.scr ns,0),some (rowD cl,0),some (.str ⟨cs.toArray⟩,0),some (.str ⟨sl.toArray⟩,0),some (mat (tab sl.length (cwb cs sl)),0),some (.int c,0),some (ch,0),some (mat (tab sl.length (cwb cs sl)),2),some (mat (tab sl.length (cwb cs' sl)),2),o9,o10]) (ss (D.wb _ _ _ _ rfl rfl rfl) (zBR _)) ?_;refine nsw (r':=[some (.scr ns,0),some (rowD cl,0),some (.str ⟨cs'.toArray⟩,0),some (.str ⟨sl.toArray⟩,0),some (mat (tab sl.length (cwb cs sl)),0),some (.int c,0),some (ch,0),some (mat (tab sl.length (cwb cs sl)),2),some (mat (tab sl.length (cwb cs' sl)),2),o9,o10]) (ss (D.dn _ _ _ rfl rfl) (qA5 0)) ?_;refine nsw (sf (to0 (tn1 (k:=true) (tm1 rfl)) (tb1 (b2 (bi1 rfl x1) (bi1 (b2 rfl rfl ad) x2) (neS7 _))))) ?_;refine nsw (r':=[some (.scr ns,0),some (rowD cl,0),some (.str ⟨cs'.toArray⟩,0),some (.str ⟨sl.toArray⟩,0),some (mat (tab sl.length (cwb cs sl)),0),some (.int c,0),some (ch,0),some (mat (tab sl.length (cwb cs sl)),2),some (mat (tab sl.length (cwb cs' sl)),2),some (mat (tab sl.length (cwb cs' sl)),2),o10]) (ss (c1 rfl hw') (zBR _)) ?_;refine nsw (sf (to0 (tn1 (tm1 (c2 rfl rfl (zJO _)))) (neM7 rfl rfl))) ?_;refine nsw (r':=[some (.scr ns,0),some (rowD cl,0),some (.str ⟨cs'.toArray⟩,0),some (.str ⟨sl.toArray⟩,0),some (mat (tab sl.length (cwb cs' sl)),2),some (.int c,0),some (ch,0),some (mat (tab sl.length (cwb cs sl)),2),some (mat (tab sl.length (cwb cs' sl)),2),some (mat (tab sl.length (cwb cs' sl)),2),o10]) (ss (zcA rfl rfl (by lia)) (zBR _)) ?_;have happ:sForApp 8 10 1 [some (.scr ns,0),some (rowD cl,0),some (.str ⟨cs'.toArray⟩,0),some (.str ⟨sl.toArray⟩,0),some (mat (tab sl.length (cwb cs' sl)),2),some (.int c,0),some (ch,0),some (mat (tab sl.length (cwb cs sl)),2),some (mat (tab sl.length (cwb cs' sl)),2),some (mat (tab sl.length (cwb cs' sl)),2),o10]=okR (.nx [some (.scr ns,0),some (rowD cl,0),some (.str ⟨cs'.toArray⟩,0),some (.str ⟨sl.toArray⟩,0),some (mat (tab sl.length (cwb cs' sl)),2),some (.int c,0),some (ch,0),some (mat (tab sl.length (cwb cs sl)),2),some (.lst ((tab sl.length (cwb cs' sl)).map fun r=>rowD (r++[1])),1+1),some (mat (tab sl.length (cwb cs' sl)),2),none]):=by
  unfold sForApp;show(match addAll 1 ((tab sl.length (cwb cs' sl)).map rowD)with|some rs'=>_|none=>_)=_
  rw[zJJ 1 _ (zd5 hn)];rfl
 refine nsw happ ?_;refine nsw (app4 (d:=.lst []) rfl el0' (by rw[qAg,zEF];lia) (by decide) (by decide)) ?_;exact zD4 (sf (neM7 rfl (c2 rfl (bi1 rfl hlen) (zdL hn)))) ⟨cs',0,2,_,_,_,_,_,_,D.pm,rfl⟩
def zUU(ns:List Int)(hl:ns.length<=63)(hw:∀i∈ns,i.natAbs.log2<2 ^ 20):zM0 [.scr ns]=okR (.bl true):=by
 obtain⟨cl,ec,c18,c63,cn⟩:=zcD ns hl;have cn':∀k,0<=cl.getD k 0:=fun k=>by
  by_cases h:k<cl.length
  ·exact cn _ (zP6 h)
  ·rw[qA3,qE7 (by lia)];exact qI7 0
 obtain⟨ws,wl,ew,hwp,hwn,w1,w2,_⟩:=zPL cl (by lia) (by lia) cn;have hsn:∀ρ:Rh,ρ[0]?=some (some (.scr ns))->eSlN (eV 0) oNo (oE (eC (.int 1))) ρ=okR (.lst ((ns.take 1).map Dt.int)):=fun ρ h=>by
  unfold eSlN;rw[v1 h,zA0];show okR (Dt.lst (cutA (ns.map Dt.int) none (some ((1:Nat):Int))))=_;rw[zG5,<- qHy]
 obtain⟨cl',cs,ls,hif,dn,hp,hnd,l1,l2⟩:∃(cl':List Int)(cs ls:List Nat),(sIf (tAn (tB (eB neD (eSlN (eV 0) oNo (oE (eC (.int 1)))) (eLst aNil))) (tB (eB eqD (eB modD (eB ixD (eV 0) (eC (.int 0))) (eC (.int 2))) (eC (.int 1))))) (sSeq (sSet 2 1 [1] (eCall zBP (aCons (eB ixD (eV 1) (eC (.int 1))) (aCons (eC (.int 10)) aNil))))
 (sSet 1 1 [1] (eB addD (eSl (eV 1) oNo (oE (eC (.int 11)))) (eSl (eV 1) (oE (eC (.int 2))) oNo)))) sNil) [some (.scr ns,0),some (rowD cl,1),some (.str ⟨ws.toArray⟩,1),none,none,none,none,none,none,none,none]=okR (.nx [some (.scr ns,0),some (rowD cl',1),some (.str ⟨cs.toArray⟩,1),none,none,none,none,none,none,none,none])/\(∀c∈cl',0<=c)/\cs.Perm (ls++ls)/\ls.Nodup/\1<=ls.length/\ls.length<=10:=by
  cases ns with
  |nil=>exact⟨cl,ws,wl,sf (ta0 (ned (hsn _ rfl) el0' (by decide) (by decide) rfl rfl)),cn,hwp,hwn,w1,w2⟩
  |cons a t=>
   have t1:tB (eB neD (eSlN (eV 0) oNo (oE (eC (.int 1)))) (eLst aNil)) (full [some (.scr (a::t),0),some (rowD cl,1),some (.str ⟨ws.toArray⟩,1),none,none,none,none,none,none,none,none])=okR true:=ned (hsn _ rfl) el0' (show 1<=40 by decide) (by decide) rfl rfl;have t2:∀k,decide ((a::t).getD 0 0%2=1)=k->tB (eB eqD (eB modD (eB ixD (eV 0) (eC (.int 0))) (eC (.int 2))) (eC (.int 1))) (full [some (.scr (a::t),0),some (rowD cl,1),some (.str ⟨ws.toArray⟩,1),none,none,none,none,none,none,none,none])=okR k:=fun k h=>eqi (b2 (b2 rfl rfl (ixS (k:=0) (by simp))) rfl (mdi (by decide) rfl)) rfl h
   by_cases h1:(a::t).getD 0 0%2=1
   ·obtain⟨cs,ls,e,h⟩:=zVE (cl.getD 1 0) (cn' 1);have s1:slD (rowD cl) none (some 11)=some (rowD (cl.take 11)):=by
     show some (Dt.lst (cutA (cl.map Dt.int) none (some ((11:Nat):Int))))=_;rw[zG5,<- qHy];rfl
    have s2:slD (rowD cl) (some 2) none=some (rowD (cl.drop 2)):=by
     show some (Dt.lst (cutA (cl.map Dt.int) (some ((2:Nat):Int)) none))=_;rw[zE9,<- qHz];rfl
    have ha:addD (rowD (cl.take 11)) (rowD (cl.drop 2))=some (rowD (cl.take 11++cl.drop 2)):=by
     unfold rowD;rw[qCb];exact @if_pos _ (qA1 _) (by simp;lia) _ _ _
    refine⟨cl.take 11++cl.drop 2,cs,ls,st4 (ta1 t1 (t2 true (decide_eq_true h1))) (sw (ss (c2 (b2 rfl rfl (zcC (k:=1) (by lia))) rfl e) (qAv _)) (ss (b2 (sl0 rfl rfl s1) (sl1 rfl rfl s2) ha) (by rw[zCM];exact qA5 1))),fun c hc=>?_,h⟩
    rcases qBt.mp hc with z|z
    ·exact cn c (List.mem_of_mem_take z)
    ·exact cn c (qFv z)
   ·exact⟨cl,ws,wl,sf (ta1 t1 (t2 false (decide_eq_false h1))),cn,hwp,hwn,w1,w2⟩
 have hcl:=hp.length_eq;rw[qAs]at hcl;have hsp:(sosL cs).Perm ls:=(qEm (sos_nodup _) hnd).mpr fun x=>by
  rw[sos_mem,hp.mem_iff,qBt,or_self]
 have hsl:=hsp.length_eq;have h2:∀x∈cs,cs.count x=2:=fun x hx=>zT2 hp hnd hx
 have L:Lts (sosL cs) cs:=⟨sos_nodup _,fun x hx=>h2 x ((sos_mem x cs).mp hx),by lia⟩
 have hlet:=zI4 (cs:=cs) (by lia) (by lia);have hweb:=zM2 (cs:=cs) (by lia) (by lia) L;have hpp:cs.Perm (sosL cs++sosL cs):=hp.trans (hsp.symm.append hsp.symm)
 generalize hsle:sosL cs=sl at L hlet hweb hpp hsl;have s11:slD (rowD cl') (some 11) none=some (rowD (cl'.drop 11)):=by
  show some (Dt.lst (cutA (cl'.map Dt.int) (some ((11:Nat):Int)) none))=_;rw[zE9,<- qHz];rfl
 refine zBA rfl (sg (c2 rfl rfl ec) (by rw[zCM];exact qA5 1) (sg (c2 rfl rfl ew) (qAv _) (sw hif (sg (c1 rfl hlet) (qA5 0) (sg (c1 rfl hweb) (zBR _) (zDU fun bb hb=>?_))))));rw[zHG];have hit:∀ρ:Rh,ρ[1]?=some (some (rowD cl'))->iSq (eSl (eV 1) (oE (eC (.int 11))) oNo) ρ=okR ((cl'.drop 11).map Dt.int):=fun ρ h=>by
  rw[zcN,sl1 (v1 h) rfl s11,zA0];rfl
 rw[hit _ rfl,zA0];refine zNL Dt.int (cl'.drop 11) (fun _ r=>∃(cs':List Nat)(l2 l4:Nat)(o5 o6 o7 o8 o9 o10:Option Sl),cs'.Perm cs/\r=[some (.scr ns,0),some (rowD cl',0),some (.str ⟨cs'.toArray⟩,l2),some (.str ⟨sl.toArray⟩,0),some (mat (tab sl.length (cwb cs' sl)),l4),o5,o6,o7,o8,o9,o10]) ⟨cs,1,2,_,_,_,_,_,_,qDn _,rfl⟩ (fun k c hk r hr=>?_) fun r hr=>?_
 ·obtain⟨cs',l2,l4,o5,o6,o7,o8,o9,o10,hpm,rfl⟩:=hr;have hle:=hpm.length_eq;obtain⟨r',g,cs2,m2,m4,p5,p6,p7,p8,p9,p10,hpm2,rfl⟩:=zD3 (zcW (ns:=ns) (cl:=cl') (c:=c) (l2:=l2) (l4:=l4) (o6:=o6) (o7:=o7) (o8:=o8) (o9:=o9) (o10:=o10) (L.perm hpm) (by rw[<- hsle];exact zOO fun x=>hpm.mem_iff) (hpm.trans hpp) (by lia) (by lia) (by lia) (dn c (qFv (qBo hk))));exact zD4 g ⟨cs2,m2,m4,p5,p6,p7,p8,p9,p10,hpm2.trans hpm,rfl⟩
 ·subst hb;exact sr rfl ⟨qA5 0,qA5 0⟩
end Mp
set_option maxHeartbeats 4000000
namespace Q55
open PySem PyProof.Rows
open L2 hiding Rep RepL
open L3
open Mp
def top(i:Nat):Stmt:=qEg.main.body.getD i (.Pass ⟨0,0,0,0⟩)
abbrev zC7:Stmt:=zEN 0 (top 22)
def zKX:FnScope ["self","word"] ["self","word"] (zA6 zC7):=⟨rfl,rfl,rfl,by decide +kernel,rfl,by decide +kernel,by decide +kernel⟩
abbrev zJX:Stmt:=top 10
def zVU:FnScope ["rows"] ["rows"] (zA6 zJX):=⟨rfl,rfl,rfl,by decide +kernel,rfl,by decide +kernel,by decide +kernel⟩
abbrev zBB:Stmt:=zEN 1 (top 22)
def zGU:FnScope ["self","letters","web"] ["self","letters","web"] (zA6 zBB):=⟨rfl,rfl,rfl,by decide +kernel,rfl,by decide +kernel,by decide +kernel⟩
abbrev zHR:Stmt:=top 24
def wCr:FnScope ["word","by","signs"] ["word","by"] (zA6 zHR):=⟨rfl,rfl,rfl,by decide +kernel,rfl,by decide +kernel,by decide +kernel⟩
abbrev zCH:Stmt:=zEN 1 (top 23)
def zN1:FnScope ["self","word"] ["self","word"] (zA6 zCH):=⟨rfl,rfl,rfl,by decide +kernel,rfl,by decide +kernel,by decide +kernel⟩
abbrev zBH:Stmt:=zEN 2 (top 23)
def zH9:FnScope ["self","letters","web"] ["self","letters","web"] (zA6 zBH):=⟨rfl,rfl,rfl,by decide +kernel,rfl,by decide +kernel,by decide +kernel⟩
abbrev zE3:Stmt:=top 7
def zKW:FnScope ["text","letter"] ["text","letter"] (zA6 zE3):=⟨rfl,rfl,rfl,by decide +kernel,rfl,by decide +kernel,by decide +kernel⟩
abbrev zF6:Stmt:=top 6
def zOA:FnScope ["word","letter"] ["word","letter"] (zA6 zF6):=⟨rfl,rfl,rfl,by decide +kernel,rfl,by decide +kernel,by decide +kernel⟩
abbrev zGI:Stmt:=top 12
def wC8:FnScope ["word","one","other","places"] ["word","one","other"] (zA6 zGI):=⟨rfl,rfl,rfl,by decide +kernel,rfl,by decide +kernel,by decide +kernel⟩
abbrev zF7:Stmt:=top 25
def uT:FnScope ["word","cuts","first","between","second"] ["word","cuts"] (zA6 zF7):=⟨rfl,rfl,rfl,by decide +kernel,rfl,by decide +kernel,by decide +kernel⟩
abbrev zCQ:Stmt:=zEN 1 (top 21)
def wBq:FnScope ["self","word","cuts"] ["self","word"] (zA6 zCQ):=⟨rfl,rfl,rfl,by decide +kernel,rfl,by decide +kernel,by decide +kernel⟩
abbrev zDD:Stmt:=top 17
def yU:FnScope ["table","is_changed","size"] ["table","is_changed"] (zA6 zDD):=⟨rfl,rfl,rfl,by decide +kernel,rfl,by decide +kernel,by decide +kernel⟩
abbrev zHS:Stmt:=top 9
def zTL:FnScope ["table","numbers"] ["table","numbers"] (zA6 zHS):=⟨rfl,rfl,rfl,by decide +kernel,rfl,by decide +kernel,by decide +kernel⟩
abbrev zCU:Stmt:=top 15
def uA:FnScope ["table","one","other","sides","changed","order"] ["table","one","other"] (zA6 zCU):=⟨rfl,rfl,rfl,by decide +kernel,rfl,by decide +kernel,by decide +kernel⟩
abbrev zBO:Stmt:=zEN 2 (top 21)
def uK:FnScope ["self","letters","web","one","other"] ["self","letters","web"] (zA6 zBO):=⟨rfl,rfl,rfl,by decide +kernel,rfl,by decide +kernel,by decide +kernel⟩
abbrev zCP:Stmt:=zEN 1 (top 20)
def yW:FnScope ["self","word","places","start"] ["self","word"] (zA6 zCP):=⟨rfl,rfl,rfl,by decide +kernel,rfl,by decide +kernel,by decide +kernel⟩
abbrev zHT:Stmt:=top 11
def zTM:FnScope ["row"] ["row"] (zA6 zHT):=⟨rfl,rfl,rfl,by decide +kernel,rfl,by decide +kernel,by decide +kernel⟩
abbrev zHU:Stmt:=top 16
def zTN:FnScope ["table","number"] ["table","number"] (zA6 zHU):=⟨rfl,rfl,rfl,by decide +kernel,rfl,by decide +kernel,by decide +kernel⟩
abbrev zE2:Stmt:=top 14
def wBs:FnScope ["web","point","near"] ["web","point"] (zA6 zE2):=⟨rfl,rfl,rfl,by decide +kernel,rfl,by decide +kernel,by decide +kernel⟩
abbrev zBN:Stmt:=zEN 2 (top 20)
def zIQ:FnScope ["self","letters","web"] ["self","letters","web"] (zA6 zBN):=⟨rfl,rfl,rfl,by decide +kernel,rfl,by decide +kernel,by decide +kernel⟩
abbrev zEH:Stmt:=top 27
def wT:FnScope ["_law_script","_law_least","_law_made","_law_k","_law_cell","_law_first"] ["_law_script","_law_least"] (zA6 zEH):=⟨rfl,rfl,rfl,by decide +kernel,rfl,by decide +kernel,by decide +kernel⟩
abbrev zEI:Stmt:=top 28
def wB4:FnScope ["_law_script","_law_least","_law_made"] ["_law_script","_law_least"] (zA6 zEI):=⟨rfl,rfl,rfl,by decide +kernel,rfl,by decide +kernel,by decide +kernel⟩
abbrev zDQ:Stmt:=top 31
def zIZ:FnScope ["_law_word_here"] ["_law_word_here"] (zA6 zDQ):=⟨rfl,rfl,rfl,by decide +kernel,rfl,by decide +kernel,by decide +kernel⟩
abbrev zE4:Stmt:=top 35
def wK:FnScope ["_law_word_here","_law_web_here","_law_cell","_law_letters_here","_law_pairs","_law_i","_law_row","_law_near","_law_one","_law_other"] ["_law_word_here","_law_web_here","_law_cell"] (zA6 zE4):=⟨rfl,rfl,rfl,by decide +kernel,rfl,by decide +kernel,by decide +kernel⟩
abbrev zF9:Stmt:=top 36
def zOB:FnScope ["_law_rows","_law_size"] ["_law_rows","_law_size"] (zA6 zF9):=⟨rfl,rfl,rfl,by decide +kernel,rfl,by decide +kernel,by decide +kernel⟩
abbrev zCO:Stmt:=top 30
def wA:FnScope ["_law_cell","_law_most","_law_pool","_law_many","_law_word_here","_law_k","_law_letter","_law_turn","_law_place"] ["_law_cell","_law_most"] (zA6 zCO):=⟨rfl,rfl,rfl,by decide +kernel,rfl,by decide +kernel,by decide +kernel⟩
abbrev zDE:Stmt:=top 34
def wV:FnScope ["_law_found","_law_due","_law_row","_law_other","_law_number"] ["_law_found","_law_due"] (zA6 zDE):=⟨rfl,rfl,rfl,by decide +kernel,rfl,by decide +kernel,by decide +kernel⟩
abbrev zEG:Stmt:=top 32
def zN0:FnScope ["_law_word_here","_law_letter"] ["_law_word_here","_law_letter"] (zA6 zEG):=⟨rfl,rfl,rfl,by decide +kernel,rfl,by decide +kernel,by decide +kernel⟩
abbrev zGJ:Stmt:=top 33
def wQ:FnScope ["_law_word_here","_law_letters_here","_law_web_here","_law_i","_law_one","_law_first","_law_second","_law_j","_law_other","_law_many"] ["_law_word_here"] (zA6 zGJ):=⟨rfl,rfl,rfl,by decide +kernel,rfl,by decide +kernel,by decide +kernel⟩
abbrev zF8:Stmt:=top 29
def wS:FnScope ["_law_cells_here","_law_most","_law_letters_here","_law_word_here","_law_k","_law_letter","_law_place"] ["_law_cells_here","_law_most"] (zA6 zF8):=⟨rfl,rfl,rfl,by decide +kernel,rfl,by decide +kernel,by decide +kernel⟩
abbrev zJW:Stmt:=top 37
def uP:FnScope ["_law_script","_law_cells_here","_law_word_here","_law_letters_here","_law_web_here","_law_cell","_law_change_here","_law_handed","_law_found","_law_due","_law_row"] ["_law_script"] (zA6 zJW):=⟨rfl,rfl,rfl,by decide +kernel,rfl,by decide +kernel,by decide +kernel⟩
section
variable{P:qIo}{w:World}{K:qA0}{mg:Str->Option Value}{base:Heap}
abbrev zCN:Stmt:=zdH (top 3)
def zO9:FnScope ["self","letter"] ["self","letter"] (zA6 zCN):=⟨rfl,rfl,rfl,by decide +kernel,rfl,by decide +kernel,by decide +kernel⟩
def zH2{f:Addr}{fd:qJ0}(F:Fun K "__init__" "NoLetter.__init__" zCN f fd){B:Addr}(hB:XBase K B)(hm:mg "RoundError" = some (.ref B)):FnOk P w K mg base (CXe P w) 1 f fd ["self","letter"] (zHP K "letter"):=by
 refine F.okX (k:=0) zO9 (zV3 rfl) (fun cdv A outer s H vs Q E hr h=>?_);exact⟨_,zA4 (zK3 (zUE hB rfl hm (zA1 (pv 0) (zA1 (pv 1) zA7)))) (zAF (zU8 (pv 0) (pv 1) rfl)),zV2 h⟩
abbrev zGG:Stmt:=zEN 0 (top 20)
def zZE:FnScope ["self","letter"] ["self","letter"] (zA6 zGG):=⟨rfl,rfl,rfl,by decide +kernel,rfl,by decide +kernel,by decide +kernel⟩
def wD3{f:Addr}{fd:qJ0}(F:Fun K "__init__" "Turn.__init__" zGG f fd):FnOk P w K mg base (CXe P w) 1 f fd ["self","letter"] (zJR K ["letter"]):=by
 refine F.okX (k:=0) zZE (zNS rfl) (fun cdv A outer s H vs Q E hr h=>?_);exact⟨_,(zAF (zOW (pv 0) (pv 1) rfl)),zP4 h⟩
abbrev zGH:Stmt:=zEN 0 (top 21)
def zZF:FnScope ["self","one","other"] ["self","one","other"] (zA6 zGH):=⟨rfl,rfl,rfl,by decide +kernel,rfl,by decide +kernel,by decide +kernel⟩
def wD1{f:Addr}{fd:qJ0}(F:Fun K "__init__" "Swap.__init__" zGH f fd):FnOk P w K mg base (CXe P w) 1 f fd ["self","one","other"] (zJR K ["one","other"]):=by
 refine F.okX (k:=0) zZF (zNS rfl) (fun cdv A outer s H vs Q E hr h=>?_);exact⟨_,(zA4 (zOW (pv 0) (pv 1) rfl) (zAF (zOW (pv 0) (pv 2) rfl))),zV1 (by decide) h⟩
abbrev zEQ:Stmt:=zEN 0 (top 23)
def zVT:FnScope ["self","by"] ["self","by"] (zA6 zEQ):=⟨rfl,rfl,rfl,by decide +kernel,rfl,by decide +kernel,by decide +kernel⟩
def wCl{f:Addr}{fd:qJ0}(F:Fun K "__init__" "Shift.__init__" zEQ f fd):FnOk P w K mg base (CXe P w) 1 f fd ["self","by"] (zJR K ["by"]):=by
 refine F.okX (k:=0) zVT (zNS rfl) (fun cdv A outer s H vs Q E hr h=>?_);exact⟨_,(zAF (zOW (pv 0) (pv 1) rfl)),zP4 h⟩
def zIV{f:Addr}{fd:qJ0}(F:Fun K "done" "Mirror.done" zC7 f fd):FnOk P w K mg base (CXe P w) 1 f fd ["self","word"] (spE K mg 0 zC9):=by
 letI:Kc:=⟨K⟩;refine F.okX zKX (fun vs H Q E h=>zAT h) (fun cdv A outer s H vs Q E hr h=>?_);have hu:=hr.units;exact⟨_,(zAF (zAS (zRP (pn 1) (zaR zZQ zA9)))),
  zBC (N:=["self","word"]) (zAY (n:=0) [1] (zAB zW8 (de_v 1) (dz (zc3 zW9 (dz zAC))))) h⟩
def zS0(D:Def K mg "copied" zJX)(wR:mg "list" = none):Has P w K mg base "copied" 1 ["rows"] (sp0 K mg 2 zCT):=by
 letI:Kc:=⟨K⟩;refine D.ok zVU (fun _ _ _ _ _ _=>uw1 fun _=>rfl) (fun vs H Q E h=>zAT h) (fun f cdv A outer s H vs Q E hr h=>?_);have hu:=hr.units;exact⟨_,(zAF (zAS (zD2 rfl (cn ["0","row"] 1 (by kernel_rfl)) (zDF (K:=K) (pn 0)) (fun _ _ _ _=>(zAN (i:=1) (by show qBl (["0","row"]:List Str);decide +kernel) rfl oi)) (fun _ _ _ _=>zCR) (fun _ _ _ _=>(zCZ (zKF (K:=K) rfl) rfl wR qKt (zA1 (pn 1) zA7)))))),
  (zBC (N:=["rows"]) (zAY (n:=2) [0] (zC5 (n:=1) (zDO (de_v 0)) (zBT 1) zDX (zCA zGO (zA2 (de_v 1) zAA)))) h)⟩
def zFX{f:Addr}{fd:qJ0}(F:Fun K "done_web" "Mirror.done_web" zBB f fd)(yJ:Has P w K mg base "copied" 1 ["rows"] (sp0 K mg 2 zCT)):FnOk P w K mg base (CXe P w) 2 f fd ["self","letters","web"] (spE K mg 2 zAM):=by
 letI:Kc:=⟨K⟩;refine F.okX zGU (fun vs H Q E h=>zAT h) (fun cdv A outer s H vs Q E hr h=>?_);have hu:=hr.units;exact⟨_,(zAF (zAS (zDK yJ (by decide) hr rfl (zA1 (pn 2) zA7)))),
  zBC (N:=["self","letters","web"]) (zAY (n:=2) [2] (zEU (zA2 (de_v 2) zAA))) h⟩
def zQ0(D:Def K mg "shifted" zHR)(wE:mg "len" = none):Has P w K mg base "shifted" 1 ["word","by"] (sp0 K mg 1 zG1):=by
 letI:Kc:=⟨K⟩;refine D.ok wCr (fun _ _ _ _ _ _=>uw2 fun _ _=>rfl) (fun vs H Q E h=>zAT h) (fun f cdv A outer s H vs Q E hr h=>?_);have hu:=hr.units;exact⟨_,(zA4 (zAP (i:=2) wCr.nd rfl oi (zAL zD7 (pn 1) (zAK (zBW (K:=K)) rfl wE qJ8 (zA1 (pn 0) zA7))))
   (zAF (zAS (zAL zC0 (zAW (u_sl (K:=K)) (pn 0) (zAV (pn 2)) zC1) (zAW (u_sl (K:=K)) (pn 0) zC1 (zAV (pn 2))))))),
  (zBC (N:=["word","by","signs"]) (zAJ (zAO (n:=0) [1,0] (zAB zBZ (de_v 1) (dz (zCA zBX (zA2 (de_v 0) zAA)))))
   (zAY (n:=1) [0,2] (zAB zB1 (zDS (de_v 0) (do_e (de_v 2)) zEL) (zDS (de_v 0) zEL (do_e (de_v 2)))))) h)⟩
def zKB{f:Addr}{fd:qJ0}(F:Fun K "done" "Shift.done" zCH f fd)(wBi:Has P w K mg base "shifted" 1 ["word","by"] (sp0 K mg 1 zG1))(q0:(∀c∈(["Shift"]:List Str),∃C,clK K c=some C/\OIs K C/\NoAttr K C "by")):FnOk P w K mg base (CXe P w) 2 f fd ["self","word"] (spE K mg 0 zCJ):=by
 letI:Kc:=⟨K⟩;refine F.okX zN1 (fun vs H Q E h=>zAT h) (fun cdv A outer s H vs Q E hr h=>?_);have hu:=hr.units;exact⟨_,(zAF (zAS (zDK wBi (by decide) hr rfl (zA1 (pn 1) (zA1 (zFU (pn 0) rfl) zA7))))),
  zBC (N:=["self","word"]) (zAY (n:=0) [1,0] (zBE (zEU (zA2 (de_v 1) (zA2 (zG4 q0 (de_v 0)) zAA))))) h⟩
def zGL{f:Addr}{fd:qJ0}(F:Fun K "done_web" "Shift.done_web" zBH f fd)(yJ:Has P w K mg base "copied" 1 ["rows"] (sp0 K mg 2 zCT)):FnOk P w K mg base (CXe P w) 2 f fd ["self","letters","web"] (spE K mg 2 zAM):=by
 letI:Kc:=⟨K⟩;refine F.okX zH9 (fun vs H Q E h=>zAT h) (fun cdv A outer s H vs Q E hr h=>?_);have hu:=hr.units;exact⟨_,(zAF (zAS (zDK yJ (by decide) hr rfl (zA1 (pn 2) zA7)))),
  zBC (N:=["self","letters","web"]) (zAY (n:=2) [2] (zEU (zA2 (de_v 2) zAA))) h⟩
def zIT(D:Def K mg "first_place" zE3){wB:Addr}(wE:mg "len" = none)(yP:XIni P w K mg base "NoLetter" "letter" wB):HasX P w K mg base "first_place" 3 ["text","letter"] (spE K mg 0 zB2):=by
 letI:Kc:=⟨K⟩;refine D.okX zKW (fun _ _ _ _ _ _=>uw2 fun _ _=>rfl) (fun vs H Q E h=>zAT h) (fun f cdv A outer s H vs Q E hr h=>?_);have hu:=hr.units;exact⟨_,(zA4 (zFB (pt_w (zNG (zDR (u_ne hu) (zAK (zBW (K:=K)) rfl wE qJ8 (zA1 (pn 1) zA7)) zA9 (zBV _)) (zHV (zDR (zXI (K:=K)) (pn 1) (pn 0) rfl)))) (zAF (zK2 (zaS yP hr (by decide) zBQ rfl (zA1 (pn 1) zA7)) zBQ rfl)) zCG)
   (zAF (zAS (zRV qCr PySem.F.slot_str_find PySem.F.type_str_find zUP (pn 0) (zA1 (pn 1) zA7))))),
  (zBC (N:=["text","letter"]) (zAJ (zFE (zNV (dt_b (dz (zAB zH1 (dz (zCA zBX (zA2 (de_v 1) zAA))) (dz zAC)))) (dt_b (dz (zAB zRD (de_v 1) (de_v 0))))) (zSR yP (zA2 (de_v 1) zAA)) zDH)
   (zAY (n:=0) [1,0] (zSY zXX (de_v 0) (zA2 (de_v 1) zAA)))) h)⟩
def zLO(D:Def K mg "places_of" zF6)(wG:HasX P w K mg base "first_place" 3 ["text","letter"] (spE K mg 0 zB2)):HasX P w K mg base "places_of" 4 ["word","letter"] (spE K mg 1 zB0):=by
 letI:Kc:=⟨K⟩;refine D.okX zOA (fun _ _ _ _ _ _=>uw2 fun _ _=>rfl) (fun vs H Q E h=>zAT h) (fun f cdv A outer s H vs Q E hr h=>?_);have hu:=hr.units;exact⟨_,(zAF (zAS (zJ7 (zA1 (zFT wG (by decide) hr zBQ rfl (zA1 (pn 0) (zA1 (pn 1) zA7))) (zA1 (zRV qCr PySem.F.slot_str_rfind PySem.F.type_str_rfind zS4 (pn 0) (zA1 (pn 1) zA7)) zA7))))),
  (zBC (N:=["word","letter"]) (zAY (n:=1) [0,1] (zJF (n:=0) (zA2 (zDA (zA2 (de_v 0) (zA2 (de_v 1) zAA))) (zA2 (zSY zU0 (de_v 0) (zA2 (de_v 1) zAA)) zAA)))) h)⟩
def zNI(D:Def K mg "do_cross" zGI)(wO:HasX P w K mg base "places_of" 4 ["word","letter"] (spE K mg 1 zB0)):HasX P w K mg base "do_cross" 5 ["word","one","other"] (spE K mg 0 zES):=by
 letI:Kc:=⟨K⟩;refine D.okX wC8 (fun _ _ _ _ _ _=>uw3 fun _ _ _=>rfl) (fun vs H Q E h=>zAT h) (fun f cdv A outer s H vs Q E hr h=>?_);have hu:=hr.units;exact⟨_,(zA4 (zAP (i:=3) wC8.nd rfl oi (zFT wO (by decide) hr zBQ rfl (zA1 (pn 0) (zA1 (pn 1) zA7))))
   (zAF (zAS (zE5 (u_eq hu) (zRV qCr qFg qFh zLW (zAW (u_sl (K:=K)) (pn 0) (zAV (zAL zC0 (zBG (zBF (K:=K)) (pn 3) zA9 (fun _ _=>rfl)) zA9)) (zAV (zBG (zBF (K:=K)) (pn 3) zA9 (fun _ _=>rfl)))) (zA1 (pn 2) zA7)) zA9 (zBV _))))),
  (zBC (N:=["word","one","other","places"]) (zAJ (zAO (n:=1) [0,1] (zDA (zA2 (de_v 0) (zA2 (de_v 1) zAA))))
   (zAY (n:=0) [2,0,3] (zAB zIR (dz (zSY zOR (zDS (de_v 0) (do_e (zAB zB1 (zAB zBI (de_v 3) (dz zAC)) (dz zAC))) (do_e (zAB zBI (de_v 3) (dz zAC)))) (zA2 (de_v 2) zAA))) (dz zAC)))) h)⟩
def zLP(D:Def K mg "exchanged" zF7):Has P w K mg base "exchanged" 1 ["word","cuts"] (sp0 K mg 1 zE7):=by
 letI:Kc:=⟨K⟩;refine D.ok uT (fun _ _ _ _ _ _=>uw2 fun _ _=>rfl) (fun vs H Q E h=>zAT h) (fun f cdv A outer s H vs Q E hr h=>?_);have hu:=hr.units;exact⟨_,(zA4 (zAP (i:=2) uT.nd rfl oi (zAW (u_sl (K:=K)) (pn 0) (zAV (zAL zC0 (zBG (zBF (K:=K)) (pn 1) zA9 (fun _ _=>rfl)) zA9)) (zAV (zBG (zBF (K:=K)) (pn 1) zA9 (fun _ _=>rfl)))))
   (zA4 (zAP (i:=3) uT.nd rfl oi (zAW (u_sl (K:=K)) (pn 0) (zAV (zBG (zBF (K:=K)) (pn 1) zA9 (fun _ _=>rfl))) (zAV (zAL zC0 (zBG (zBF (K:=K)) (pn 1) zA9 (fun _ _=>rfl)) zA9))))
   (zA4 (zAP (i:=4) uT.nd rfl oi (zAW (u_sl (K:=K)) (pn 0) (zAV (zAL zC0 (zBG (zBF (K:=K)) (pn 1) zA9 (fun _ _=>rfl)) zA9)) (zAV (zBG (zBF (K:=K)) (pn 1) zA9 (fun _ _=>rfl)))))
   (zAF (zAS (zAL zC0 (zAL zC0 (zAL zC0 (zAL zC0 (zAW (u_sl (K:=K)) (pn 0) zC1 (zAV (zAL zC0 (zBG (zBF (K:=K)) (pn 1) zA9 (fun _ _=>rfl)) zA9))) (pn 4)) (pn 3)) (pn 2)) (zAW (u_sl (K:=K)) (pn 0) (zAV (zBG (zBF (K:=K)) (pn 1) zA9 (fun _ _=>rfl))) zC1))))))),
  (zBC (N:=["word","cuts","first","between","second"]) (zAJ (zAO (n:=1) [0,1] (zDS (de_v 0) (do_e (zAB zB1 (zAB zBI (de_v 1) (dz zAC)) (dz zAC))) (do_e (zAB zBI (de_v 1) (dz zAC)))))
   (zAJ (zAO (n:=1) [0,1] (zDS (de_v 0) (do_e (zAB zBI (de_v 1) (dz zAC))) (do_e (zAB zB1 (zAB zBI (de_v 1) (dz zAC)) (dz zAC)))))
   (zAJ (zAO (n:=1) [0,1] (zDS (de_v 0) (do_e (zAB zB1 (zAB zBI (de_v 1) (dz zAC)) (dz zAC))) (do_e (zAB zBI (de_v 1) (dz zAC)))))
   (zAY (n:=1) [2,0,3,4,1] (zAB zB1 (zAB zB1 (zAB zB1 (zAB zB1 (zDS (de_v 0) zEL (do_e (zAB zB1 (zAB zBI (de_v 1) (dz zAC)) (dz zAC)))) (de_v 4)) (de_v 3)) (de_v 2)) (zDS (de_v 0) (do_e (zAB zBI (de_v 1) (dz zAC))) zEL)))))) h)⟩
def zLT{f:Addr}{fd:qJ0}(F:Fun K "done" "Swap.done" zCQ f fd){wD:Addr}(wAz:HasX P w K mg base "do_cross" 5 ["word","one","other"] (spE K mg 0 zES))(wA2:Has P w K mg base "exchanged" 1 ["word","cuts"] (sp0 K mg 1 zE7))(wO:HasX P w K mg base "places_of" 4 ["word","letter"] (spE K mg 1 zB0))(wU:mg "sorted" = none)(wX:XNo K mg "NoCross" wD)(q1:(∀c∈(["Swap"]:List Str),∃C,clK K c=some C/\OIs K C/\NoAttr K C "one"))(q2:(∀c∈(["Swap"]:List Str),∃C,clK K c=some C/\OIs K C/\NoAttr K C "other")):FnOk P w K mg base (CXe P w) 6 f fd ["self","word"] (spE K mg 0 zBK):=by
 letI:Kc:=⟨K⟩;refine F.okX wBq (fun vs H Q E h=>zAT h) (fun cdv A outer s H vs Q E hr h=>?_);have hu:=hr.units;exact⟨_,(zA4 (zAP (i:=2) wBq.nd rfl oi (zAK zYL rfl wU qLl (zA1 (zAL zY9 (zFT wO (by decide) hr zBQ rfl (zA1 (pn 1) (zA1 (zFU (pn 0) rfl) zA7))) (zFT wO (by decide) hr zBQ rfl (zA1 (pn 1) (zA1 (zFU (pn 0) rfl) zA7)))) zA7)))
   (zA4 (zFB (zJ5 (pt_m (zFT wAz (by decide) hr zBQ rfl (zA1 (pn 1) (zA1 (zFU (pn 0) rfl) (zA1 (zFU (pn 0) rfl) zA7)))))) (zAF (zK2 (zWH wX rfl (zA1 zHX zA7)) zBQ rfl)) zCG)
   (zAF (zAS (zDK wA2 (by decide) hr rfl (zA1 (pn 1) (zA1 (pn 2) zA7))))))),
  zBC (N:=["self","word","cuts"]) (zAJ (zAO (n:=1) [1,0] (zc8 (zDA (zA2 (de_v 1) (zA2 (zG4 q1 (de_v 0)) zAA))) (zDA (zA2 (de_v 1) (zA2 (zG4 q2 (de_v 0)) zAA)))))
   (zAJ (zFE (zJC (dt_m (zDA (zA2 (de_v 1) (zA2 (zG4 q1 (de_v 0)) (zA2 (zG4 q2 (de_v 0)) zAA)))))) (zMD wX (zA2 zII zAA)) zDH)
   (zAY (n:=0) [1,2] (zBE (zEU (zA2 (de_v 1) (zA2 (de_v 2) zAA))))))) h⟩
def zH3(D:Def K mg "changed_where" zDD)(wE:mg "len" = none)(wL:mg "range" = none)(hlams:∀y gm,([("turned_at",zBD),("exchanged_at",zAX)]:List (Str×Mi.FM)).lookup y=some gm->LamOk K mg 0 y gm):Has P w K mg base "changed_where" 2 ["table","is_changed"] (sp0 K mg 2 zB3):=by
 letI:Kc:=⟨K⟩;refine D.ok yU (fun _ _ _ _ _ _=>uw2 fun _ _=>rfl) (fun vs H Q E h=>zAT h) (fun f cdv A outer s H vs Q E hr h=>?_);have hu:=hr.units;exact⟨_,(zA4 (zAP (i:=2) yU.nd rfl oi (zAK (zBW (K:=K)) rfl wE qJ8 (zA1 (pn 0) zA7)))
   (zAF (zAS (zD2 rfl (cn ["table","is_changed","size","i"] 1 (by kernel_rfl)) (zCY rfl wL (zA1 (pn 2) zA7)) (fun _ _ _ _=>(zAN (i:=3) (by show qBl (["table","is_changed","size","i"]:List Str);decide +kernel) rfl oi)) (fun _ _ _ _=>zCR) (fun _ _ _ _=>(zD2 rfl (cn ["table","is_changed","2","i","j"] 1 (by kernel_rfl)) (zCY rfl wL (zA1 (pn 2) zA7)) (fun _ _ _ _=>(zAN (i:=4) (by show qBl (["table","is_changed","2","i","j"]:List Str);decide +kernel) rfl oi)) (fun _ _ _ _=>zCR) (fun _ _ _ _=>(zAL zcR (zBG (zBF (K:=K)) (zBG (zBF (K:=K)) (pn 0) (pn 3) (fun _ _=>rfl)) (pn 4) (fun _ _=>rfl)) (zUB (pt_m (pcf 1 (lamR rfl rfl (hr.mono (by decide)) hlams) (zA1 (pn 3) (zA1 (pn 4) zA7)))) zA9 zA9))))))))),
  (zBC (N:=["table","is_changed","size"]) (zAJ (zAO (n:=0) [0] (zCA zBX (zA2 (de_v 0) zAA)))
   (zAY (n:=2) [2,0,1] (zC5 (n:=1) (zME (zA2 (de_v 2) zAA)) (zBT 3) zDX (zC5 (n:=0) (zME (zA2 (de_v 2) zAA)) (zBT 4) zDX (zAB za3 (zAB zBI (zAB zBI (de_v 0) (de_v 3)) (de_v 4)) (dz (zc9 (dt_m (dz (zVI (zA2 (de_v 3) (zA2 (de_v 4) zAA))))) zAC zAC))))))) h)⟩
def zQ1(D:Def K mg "part_at" zHS):Has P w K mg base "part_at" 1 ["table","numbers"] (sp0 K mg 2 zDG):=by
 letI:Kc:=⟨K⟩;refine D.ok zTL (fun _ _ _ _ _ _=>uw2 fun _ _=>rfl) (fun vs H Q E h=>zAT h) (fun f cdv A outer s H vs Q E hr h=>?_);have hu:=hr.units;exact⟨_,(zAF (zAS (zD2 rfl (cn ["table","numbers","i"] 1 (by kernel_rfl)) (zDF (K:=K) (pn 1)) (fun _ _ _ _=>(zAN (i:=2) (by show qBl (["table","numbers","i"]:List Str);decide +kernel) rfl oi)) (fun _ _ _ _=>zCR) (fun _ _ _ _=>(zD2 rfl (cn ["table","1","i","j"] 1 (by kernel_rfl)) (zDF (K:=K) (pn 1)) (fun _ _ _ _=>(zAN (i:=3) (by show qBl (["table","1","i","j"]:List Str);decide +kernel) rfl oi)) (fun _ _ _ _=>zCR) (fun _ _ _ _=>(zBG (zBF (K:=K)) (zBG (zBF (K:=K)) (pn 0) (pn 2) (fun _ _=>rfl)) (pn 3) (fun _ _=>rfl)))))))),
  (zBC (N:=["table","numbers"]) (zAY (n:=2) [1,0] (zC5 (n:=1) (zDO (de_v 1)) (zBT 2) zDX (zC5 (n:=0) (zDO (de_v 1)) (zBT 3) zDX (zAB zBI (zAB zBI (de_v 0) (de_v 2)) (de_v 3))))) h)⟩
def zH7(D:MkrE K mg "exchanged_at" zCU):LamOk K mg 0 "exchanged_at" zAX:=by
 obtain⟨T,g⟩:=D;refine⟨⟨(_,_,_,"sides"),["i","j"],_,g.lam.trans rfl,lsc,fun _ _ _ _ _=>uw2 fun _ _=>rfl,rfl,?_⟩⟩;intro X q f cdv cl s H hK hm hr;subst hK hm
 letI:Kc:=⟨X.K⟩;have hu:=hr.units;exact⟨_,(zUF (zE5 (u_in (K:=X.K)) zA9 (zBG (zBF (K:=X.K)) (pn 2) (pn 0) (fun _ _=>rfl)) rfl) (zUF (zE5 (u_in (K:=X.K)) zA9 (zBG (zBF (K:=X.K)) (pn 2) (pn 1) (fun _ _=>rfl)) rfl) (zWG (zE5 (u_ne hu) (zBG (zBF (K:=X.K)) (pn 2) (pn 0) (fun _ _=>rfl)) (zBG (zBF (K:=X.K)) (pn 2) (pn 1) (fun _ _=>rfl)) (zBV _))))),(dz (zPF (dz (zAB zRD (dz zAC) (zAB zBI (de_v 2) (de_v 0)))) (zPF (dz (zAB zRD (dz zAC) (zAB zBI (de_v 2) (de_v 1)))) (zAB zH1 (zAB zBI (de_v 2) (de_v 0)) (zAB zBI (de_v 2) (de_v 1))))))⟩
def zHZ(D:MkrE K mg "exchanged_at" zCU)(wP:Has P w K mg base "changed_where" 2 ["table","is_changed"] (sp0 K mg 2 zB3))(wBk:Has P w K mg base "part_at" 1 ["table","numbers"] (sp0 K mg 2 zDG))(wE:mg "len" = none)(wR:mg "list" = none)(wL:mg "range" = none):Has P w K mg base "exchanged_at" 3 ["table","one","other"] (sp0 K mg 2 zC8):=by
 obtain⟨T,g⟩:=D;letI:Kc:=⟨K⟩;exact dfL g uA (fun _ _ _ _ _ _=>uw3 fun _ _ _=>rfl) fun hC hr hu h=>⟨_,(zA4 (zAP (i:=3) uA.nd rfl oi (zD2 rfl (cn ["table","one","other","3","4","5","i"] 1 (by kernel_rfl)) (zCY rfl wL (zA1 (zAK (zBW (K:=K)) rfl wE qJ8 (zA1 (pn 0) zA7)) zA7)) (fun _ _ _ _=>(zAN (i:=6) (by show qBl (["table","one","other","3","4","5","i"]:List Str);decide +kernel) rfl oi)) (fun _ _ _ _=>zCR) (fun _ _ _ _=>(zJ7 (zA1 (zBG (zBF (K:=K)) (zBG (zBF (K:=K)) (pn 0) (pn 1) (fun _ _=>rfl)) (pn 6) (fun _ _=>rfl)) (zA1 (zBG (zBF (K:=K)) (zBG (zBF (K:=K)) (pn 0) (pn 2) (fun _ _=>rfl)) (pn 6) (fun _ _=>rfl)) zA7))))))
   (zA4 (zHW (zJ7 (zA1 zA9 (zA1 zA9 zA7))) (zLK (pn 3) (pn 1) zQW))
   (zA4 (zHW (zJ7 (zA1 zA9 (zA1 zA9 zA7))) (zLK (pn 3) (pn 2) zQW))
   (zA4 (zAP (i:=4) uA.nd rfl oi (zWI 3 wP (by decide) hr rfl (zA1 (pn 0) (zA1 (zRT hC) zA7))))
   (zA4 (zAP (i:=5) uA.nd rfl oi (zCZ (zKF (K:=K) rfl) rfl wR qKt (zA1 (zCZ zYM rfl wL boot_range (zA1 (zAK (zBW (K:=K)) rfl wE qJ8 (zA1 (pn 0) zA7)) zA7)) zA7)))
   (zA4 (zHW (pn 2) (zLK (pn 5) (pn 1) zQW))
   (zA4 (zHW (pn 1) (zLK (pn 5) (pn 2) zQW))
   (zAF (zAS (zDK wBk (by decide) hr rfl (zA1 (pn 4) (zA1 (pn 5) zA7)))))))))))),(zBC (zAJ (zAO (n:=2) [0,1,2] (zC5 (n:=1) (zME (zA2 (zCA zBX (zA2 (de_v 0) zAA)) zAA)) (zBT 6) zDX (zJF (n:=0) (zA2 (zAB zBI (zAB zBI (de_v 0) (de_v 1)) (de_v 6)) (zA2 (zAB zBI (zAB zBI (de_v 0) (de_v 2)) (de_v 6)) zAA)))))
   (zAJ (zKK 3 (n:=1) (de_v 1) (zJF (n:=0) (zA2 zAC (zA2 zAC zAA))))
   (zAJ (zKK 3 (n:=1) (de_v 2) (zJF (n:=0) (zA2 zAC (zA2 zAC zAA))))
   (zAJ (zAO (n:=2) [0,3] (zPE g (de_v 0)))
   (zAJ (zAO (n:=1) [0] (zMF (zA2 (zCA zBX (zA2 (de_v 0) zAA)) zAA)))
   (zAJ (zKK 5 (n:=0) (de_v 1) (de_v 2))
   (zAJ (zKK 5 (n:=0) (de_v 2) (de_v 1))
   (zAY (n:=2) [4,5] (zC6 (zA2 (de_v 4) (zA2 (de_v 5) zAA))))))))))) h)⟩
def zH6{f:Addr}{fd:qJ0}(F:Fun K "done_web" "Swap.done_web" zBO f fd){wD:Addr}(uN:Has P w K mg base "exchanged_at" 3 ["table","one","other"] (sp0 K mg 2 zC8))(wG:HasX P w K mg base "first_place" 3 ["text","letter"] (spE K mg 0 zB2))(wX:XNo K mg "NoCross" wD)(q1:(∀c∈(["Swap"]:List Str),∃C,clK K c=some C/\OIs K C/\NoAttr K C "one"))(q2:(∀c∈(["Swap"]:List Str),∃C,clK K c=some C/\OIs K C/\NoAttr K C "other")):FnOk P w K mg base (CXe P w) 4 f fd ["self","letters","web"] (spE K mg 2 zB5):=by
 letI:Kc:=⟨K⟩;refine F.okX uK (fun vs H Q E h=>zAT h) (fun cdv A outer s H vs Q E hr h=>?_);have hu:=hr.units;exact⟨_,(zA4 (zAP (i:=3) uK.nd rfl oi (zFT wG (by decide) hr zBQ rfl (zA1 (pn 1) (zA1 (zFU (pn 0) rfl) zA7))))
   (zA4 (zAP (i:=4) uK.nd rfl oi (zFT wG (by decide) hr zBQ rfl (zA1 (pn 1) (zA1 (zFU (pn 0) rfl) zA7))))
   (zA4 (zFB (zDR (u_ne hu) (zBG (zBF (K:=K)) (zBG (zBF (K:=K)) (pn 2) (pn 3) (fun _ _=>rfl)) (pn 4) (fun _ _=>rfl)) zA9 (zBV _)) (zAF (zK2 (zWH wX rfl (zA1 zHX zA7)) zBQ rfl)) zCG)
   (zAF (zAS (zDK uN (by decide) hr rfl (zA1 (pn 2) (zA1 (pn 3) (zA1 (pn 4) zA7))))))))),
  zBC (N:=["self","letters","web","one","other"]) (zAJ (zAO (n:=0) [1,0] (zDA (zA2 (de_v 1) (zA2 (zG4 q1 (de_v 0)) zAA))))
   (zAJ (zAO (n:=0) [1,0] (zDA (zA2 (de_v 1) (zA2 (zG4 q2 (de_v 0)) zAA))))
   (zAJ (zFE (dt_b (dz (zAB zH1 (zAB zBI (zAB zBI (de_v 2) (de_v 3)) (de_v 4)) (dz zAC)))) (zMD wX (zA2 zII zAA)) zDH)
   (zAY (n:=2) [2,3,4] (zEU (zA2 (de_v 2) (zA2 (de_v 3) (zA2 (de_v 4) zAA)))))))) h⟩
def zLS{f:Addr}{fd:qJ0}(F:Fun K "done" "Turn.done" zCP f fd)(wO:HasX P w K mg base "places_of" 4 ["word","letter"] (spE K mg 1 zB0))(q3:(∀c∈(["Turn"]:List Str),∃C,clK K c=some C/\OIs K C/\NoAttr K C "letter")):FnOk P w K mg base (CXe P w) 5 f fd ["self","word"] (spE K mg 0 zB6):=by
 letI:Kc:=⟨K⟩;refine F.okX yW (fun vs H Q E h=>zAT h) (fun cdv A outer s H vs Q E hr h=>?_);have hu:=hr.units;exact⟨_,(zA4 (zAP (i:=2) yW.nd rfl oi (zFT wO (by decide) hr zBQ rfl (zA1 (pn 1) (zA1 (zFU (pn 0) rfl) zA7))))
   (zA4 (zAP (i:=3) yW.nd rfl oi (zAL zC0 (zBG (zBF (K:=K)) (pn 2) zA9 (fun _ _=>rfl)) zA9))
   (zAF (zAS (zAL zC0 (zAL zC0 (zAW (u_sl (K:=K)) (pn 1) zC1 (zAV (pn 3))) (zRP (zAW (u_sl (K:=K)) (pn 1) (zAV (pn 3)) (zAV (zBG (zBF (K:=K)) (pn 2) zA9 (fun _ _=>rfl)))) (zaR zZQ zA9))) (zAW (u_sl (K:=K)) (pn 1) (zAV (zBG (zBF (K:=K)) (pn 2) zA9 (fun _ _=>rfl))) zC1)))))),
  zBC (N:=["self","word","places","start"]) (zAJ (zAO (n:=1) [1,0] (zDA (zA2 (de_v 1) (zA2 (zG4 q3 (de_v 0)) zAA))))
   (zAJ (zAO (n:=1) [2] (zAB zB1 (zAB zBI (de_v 2) (dz zAC)) (dz zAC)))
   (zAY (n:=0) [1,3,2] (zBE (zAB zB1 (zAB zB1 (zDS (de_v 1) zEL (do_e (de_v 3))) (dz (zAB zW8 (zDS (de_v 1) (do_e (de_v 3)) (do_e (zAB zBI (de_v 2) (dz zAC)))) (dz (zc3 zW9 (dz zAC)))))) (zDS (de_v 1) (do_e (zAB zBI (de_v 2) (dz zAC))) zEL)))))) h⟩
def zQ2(D:Def K mg "ones_in" zHT)(wE:mg "len" = none)(wL:mg "range" = none):Has P w K mg base "ones_in" 1 ["row"] (sp0 K mg 1 zDW):=by
 letI:Kc:=⟨K⟩;refine D.ok zTM (fun _ _ _ _ _ _=>uw1 fun _=>rfl) (fun vs H Q E h=>zAT h) (fun f cdv A outer s H vs Q E hr h=>?_);have hu:=hr.units;exact⟨_,(zAF (zAS (zD2 rfl (cn ["row","j"] 1 (by kernel_rfl)) (zCY rfl wL (zA1 (zAK (zBW (K:=K)) rfl wE qJ8 (zA1 (pn 0) zA7)) zA7)) (fun _ _ _ _=>(zAN (i:=1) (by show qBl (["row","j"]:List Str);decide +kernel) rfl oi)) (fun _ _ _ _=>zK1 (zDR (u_eq hu) (zBG (zBF (K:=K)) (pn 0) (pn 1) (fun _ _=>rfl)) zA9 (zBV _))) (fun _ _ _ _=>(pn 1))))),
  (zBC (N:=["row"]) (zAY (n:=1) [0] (zC5 (n:=0) (zME (zA2 (zCA zBX (zA2 (de_v 0) zAA)) zAA)) (zBT 1) (dt_b (dz (zAB zIR (zAB zBI (de_v 0) (de_v 1)) (dz zAC)))) (de_v 1))) h)⟩
def zQ3(D:Def K mg "near_to" zHU)(wBh:Has P w K mg base "ones_in" 1 ["row"] (sp0 K mg 1 zDW)):Has P w K mg base "near_to" 2 ["table","number"] (sp0 K mg 1 zG2):=by
 letI:Kc:=⟨K⟩;refine D.ok zTN (fun _ _ _ _ _ _=>uw2 fun _ _=>rfl) (fun vs H Q E h=>zAT h) (fun f cdv A outer s H vs Q E hr h=>?_);have hu:=hr.units;exact⟨_,(zAF (zAS (zD2 rfl (cn ["0","number","i"] 1 (by kernel_rfl)) (zDF (K:=K) (zDK wBh (by decide) hr rfl (zA1 (zBG (zBF (K:=K)) (pn 0) (pn 1) (fun _ _=>rfl)) zA7))) (fun _ _ _ _=>(zAN (i:=2) (by show qBl (["0","number","i"]:List Str);decide +kernel) rfl oi)) (fun _ _ _ _=>zK1 (zDR (u_ne hu) (pn 2) (pn 1) (zBV _))) (fun _ _ _ _=>(pn 2))))),
  (zBC (N:=["table","number"]) (zAY (n:=1) [1,0] (zC5 (n:=0) (zDO (zC6 (zA2 (zAB zBI (de_v 0) (de_v 1)) zAA))) (zBT 2) (dt_b (dz (zAB zH1 (de_v 2) (de_v 1)))) (de_v 2))) h)⟩
def zKE(D:MkrE K mg "turned_at" zE2):LamOk K mg 0 "turned_at" zBD:=by
 obtain⟨T,g⟩:=D;refine⟨⟨(_,_,_,"near"),["i","j"],_,g.lam.trans rfl,lsc,fun _ _ _ _ _=>uw2 fun _ _=>rfl,rfl,?_⟩⟩;intro X q f cdv cl s H hK hm hr;subst hK hm
 letI:Kc:=⟨X.K⟩;have hu:=hr.units;exact⟨_,(zUF (zE5 (u_ne hu) (pn 0) (pn 1) (zBV _)) (zUF (zE5 (u_in (K:=X.K)) (pn 0) (pn 2) rfl) (zWG (zE5 (u_in (K:=X.K)) (pn 1) (pn 2) rfl)))),(dz (zPF (dz (zAB zH1 (de_v 0) (de_v 1))) (zPF (dz (zAB zRD (de_v 0) (de_v 2))) (zAB zRD (de_v 1) (de_v 2)))))⟩
def zLN(D:MkrE K mg "turned_at" zE2)(wP:Has P w K mg base "changed_where" 2 ["table","is_changed"] (sp0 K mg 2 zB3))(wBd:Has P w K mg base "near_to" 2 ["table","number"] (sp0 K mg 1 zG2)):Has P w K mg base "turned_at" 3 ["web","point"] (sp0 K mg 2 zCV):=by
 obtain⟨T,g⟩:=D;letI:Kc:=⟨K⟩;exact dfL g wBs (fun _ _ _ _ _ _=>uw2 fun _ _=>rfl) fun hC hr hu h=>⟨_,(zA4 (zAP (i:=2) wBs.nd rfl oi (zDK wBd (by decide) hr rfl (zA1 (pn 0) (zA1 (pn 1) zA7))))
   (zAF (zAS (zWI 2 wP (by decide) hr rfl (zA1 (pn 0) (zA1 (zRT hC) zA7)))))),(zBC (zAJ (zAO (n:=1) [0,1] (zC6 (zA2 (de_v 0) (zA2 (de_v 1) zAA))))
   (zAY (n:=2) [0,2] (zPE g (de_v 0)))) h)⟩
def zH5{f:Addr}{fd:qJ0}(F:Fun K "done_web" "Turn.done_web" zBN f fd)(wG:HasX P w K mg base "first_place" 3 ["text","letter"] (spE K mg 0 zB2))(wAh:Has P w K mg base "turned_at" 3 ["web","point"] (sp0 K mg 2 zCV))(q3:(∀c∈(["Turn"]:List Str),∃C,clK K c=some C/\OIs K C/\NoAttr K C "letter")):FnOk P w K mg base (CXe P w) 4 f fd ["self","letters","web"] (spE K mg 2 zB4):=by
 letI:Kc:=⟨K⟩;refine F.okX zIQ (fun vs H Q E h=>zAT h) (fun cdv A outer s H vs Q E hr h=>?_);have hu:=hr.units;exact⟨_,(zAF (zAS (zDK wAh (by decide) hr rfl (zA1 (pn 2) (zA1 (zFT wG (by decide) hr zBQ rfl (zA1 (pn 1) (zA1 (zFU (pn 0) rfl) zA7))) zA7))))),
  zBC (N:=["self","letters","web"]) (zAY (n:=2) [2,1,0] (zEU (zA2 (de_v 2) (zA2 (zDA (zA2 (de_v 1) (zA2 (zG4 q3 (de_v 0)) zAA))) zAA)))) h⟩
def zK9(D:Def K mg "_law_mixed" zEH)(wE:mg "len" = none)(wE2:mg "max" = none)(wE3:mg "min" = none)(wL:mg "range" = none):Has P w K mg base "_law_mixed" 1 ["_law_script","_law_least"] (sp0 K mg 9 zC3):=by
 letI:Kc:=⟨K⟩;refine D.ok wT (fun _ _ _ _ _ _=>uw2 fun _ _=>rfl) (fun vs H Q E h=>zAT h) (fun f cdv A outer s H vs Q E hr h=>?_);have hu:=hr.units;exact⟨_,(zA4 (zAP (i:=2) wT.nd rfl oi (zJ8 zA7))
   (zA4 (zD1 qJ4 rfl (zCY rfl wL (zA1 (zAK (zT9 rfl) rfl wE2 boot_max (zA1 (pn 1) (zA1 (zAK (zT8 rfl) rfl wE3 boot_min (zA1 zA9 (zA1 (zAK (zBW (K:=K)) rfl wE qJ8 (zA1 (pn 0) zA7)) zA7))) zA7))) zA7)) (zAN (i:=3) wT.nd rfl oi) (zA4 (zAP (i:=4) wT.nd rfl oi (zAL zC0 (zAL zFL zA9 (pn 3)) zA9))
   (zA4 (zFB (zDR u_gt (zAK (zBW (K:=K)) rfl wE qJ8 (zA1 (pn 0) zA7)) zA9 (zBV _)) (zAF (zAP (i:=4) wT.nd rfl oi (zAL zD7 (zBG (zBF (K:=K)) (pn 0) (zAL zD7 (pn 3) (zAK (zBW (K:=K)) rfl wE qJ8 (zA1 (pn 0) zA7))) (fun _ _=>rfl)) zA9))) zCG)
   (zA4 (zAP (i:=5) wT.nd rfl oi (zAL zD7 (zAL zFL (zAL zD7 (zAL zC0 (zAL zFL (zAL zC0 (pn 4) zA9) zA9) (zAL zFL (zAL zFL (pn 3) (pn 3)) zA9)) zA9) zA9) zA9))
   (zAF (zK3 (zU9 qD4 qDp qDq zNM (pn 2) (zA1 (zAL zC0 (zAL zFL (pn 5) zA9) (zAL zD7 (zAL zC0 (zAL zFL (pn 5) zA9) (pn 3)) zA9)) zA7))))))))
   (zAF (zAS (pn 2))))),
  (zBC (N:=["_law_script","_law_least","_law_made","_law_k","_law_cell","_law_first"]) (zAJ (zAO (n:=9) [] (zJG (n:=8) zAA))
   (zAJ (zKL (zME (zA2 (zCA zcF (zA2 (de_v 1) (zA2 (zCA zcE (zA2 zAC (zA2 (zCA zBX (zA2 (de_v 0) zAA)) zAA))) zAA))) zAA)) (zAJ (zAO (n:=1) [3] (zAB zB1 (dz (zAB zFP (dz zAC) (de_v 3))) (dz zAC)))
   (zAJ (zFE (dt_b (dz (zAB zRE (dz (zCA zBX (zA2 (de_v 0) zAA))) (dz zAC)))) (zAO (n:=0) [0,3] (zAB zBZ (zAB zBI (de_v 0) (dz (zAB zBZ (de_v 3) (dz (zCA zBX (zA2 (de_v 0) zAA)))))) (dz zAC))) zDH)
   (zAJ (zAO (n:=0) [4,3] (zAB zBZ (dz (zAB zFP (dz (zAB zBZ (zAB zB1 (dz (zAB zFP (zAB zB1 (de_v 4) (dz zAC)) (dz zAC))) (dz (zAB zFP (dz (zAB zFP (de_v 3) (de_v 3))) (dz zAC)))) (dz zAC))) (dz zAC))) (dz zAC)))
   (zWZ 2 (n:=1) (zAB zB1 (dz (zAB zFP (de_v 5) (dz zAC))) (dz (zAB zBZ (zAB zB1 (dz (zAB zFP (de_v 5) (dz zAC))) (de_v 3)) (dz zAC)))))))))
   (zKJ 2))) h)⟩
def zKA(D:Def K mg "_law_cells" zEI)(yT:Has P w K mg base "_law_mixed" 1 ["_law_script","_law_least"] (sp0 K mg 9 zC3))(wE:mg "len" = none):Has P w K mg base "_law_cells" 2 ["_law_script","_law_least"] (sp0 K mg 1 zDN):=by
 letI:Kc:=⟨K⟩;refine D.ok wB4 (fun _ _ _ _ _ _=>uw2 fun _ _=>rfl) (fun vs H Q E h=>zAT h) (fun f cdv A outer s H vs Q E hr h=>?_);have hu:=hr.units;exact⟨_,(zA4 (zFB (pt_w (zNG (zDR (u_eq hu) (zAK (zBW (K:=K)) rfl wE qJ8 (zA1 (pn 0) zA7)) zA9 (zBV _)) (zHV (zDR (u_eq hu) (zAL zD7 (zBG (zBF (K:=K)) (pn 0) zA9 (fun _ _=>rfl)) zA9) zA9 (zBV _))))) (zAF (zAS (zDK yT (by decide) hr rfl (zA1 (pn 0) (zA1 (pn 1) zA7))))) zCG)
   (zA4 (zDV (i:=2) wB4.nd rfl oi rfl (cn ["0","1","2","_law_cell"] 1 (by kernel_rfl)) (zDF (K:=K) (zAW (zcS (K:=K)) (pn 0) zC1 (zAV zA9))) (fun _ _ _ _=>(zAN (i:=3) (by show qBl (["0","1","2","_law_cell"]:List Str);decide +kernel) rfl oi)) (fun _ _ _ _=>zCR) (fun _ _ _ _=>(zAL zD7 (pn 3) (zAL zcU zA9 zA9))))
   (zAF (zAS (zAL zC0 (pn 2) (zAL zcT (zJ8 (zA1 zA9 zA7)) (zAL zZP (pn 1) (zAK (zBW (K:=K)) rfl wE qJ8 (zA1 (pn 2) zA7))))))))),
  (zBC (N:=["_law_script","_law_least","_law_made"]) (zAJ (zFE (zNV (dt_b (dz (zAB zIR (dz (zCA zBX (zA2 (de_v 0) zAA))) (dz zAC)))) (dt_b (dz (zAB zIR (dz (zAB zBZ (zAB zBI (de_v 0) (dz zAC)) (dz zAC))) (dz zAC))))) (zAY (n:=9) [0,1] (zC6 (zA2 (de_v 0) (zA2 (de_v 1) zAA)))) zDH)
   (zAJ (zAO (n:=1) [0] (zC5 (n:=0) (zDO (zc5 (de_v 0) zEL (do_e (dz zAC)))) (zBT 3) zDX (zAB zBZ (de_v 3) (dz (zAB za5 (dz zAC) (dz zAC))))))
   (zAY (n:=1) [2,1] (zAB zB1 (de_v 2) (zAB za4 (zJG (n:=0) (zA2 zAC zAA)) (dz (zAB zW7 (de_v 1) (dz (zCA zBX (zA2 (de_v 2) zAA)))))))))) h)⟩
def zI0(D:Def K mg "_law_letters" zDQ)(wE5:mg "set" = none)(wU:mg "sorted" = none):Has P w K mg base "_law_letters" 1 ["_law_word_here"] (sp0 K mg 0 zBJ):=by
 letI:Kc:=⟨K⟩;refine D.ok zIZ (fun _ _ _ _ _ _=>uw1 fun _=>rfl) (fun vs H Q E h=>zAT h) (fun f cdv A outer s H vs Q E hr h=>?_);have hu:=hr.units;exact⟨_,(zAF (zAS (zRV qCr PySem.F.slot_str_join PySem.F.type_str_join zUO zHX (zA1 (zAK (zYK rfl) rfl wU qLl (zA1 (zCZ (zbH rfl) rfl wE5 zTB (zA1 (pn 0) zA7)) zA7)) zA7)))),
  (zBC (N:=["_law_word_here"]) (zAY (n:=0) [0] (zSY zXW (dz zII) (zA2 (zBE (zc4 (de_v 0))) zAA))) h)⟩
def zIU(D:Def K mg "_law_change" zE4){wC:Addr}{wF:Addr}{wI:Addr}{wJ:Addr}(wH:Has P w K mg base "_law_letters" 1 ["_law_word_here"] (sp0 K mg 0 zBJ))(wM:mg "enumerate" = none)(wE:mg "len" = none)(wBx:OIni P w K mg base "Turn" ["letter"] wJ)(wBv:OIni P w K mg base "Swap" ["one","other"] wI)(wB2:OIni P w K mg base "Shift" ["by"] wF)(wAi:ONew K mg "Mirror" wC):Has P w K mg base "_law_change" 3 ["_law_word_here","_law_web_here","_law_cell"] (sp0 K mg 0 zCL):=by
 letI:Kc:=⟨K⟩;refine D.ok wK (fun _ _ _ _ _ _=>uw3 fun _ _ _=>rfl) (fun vs H Q E h=>zAT h) (fun f cdv A outer s H vs Q E hr h=>?_);have hu:=hr.units;exact⟨_,(zA4 (zAP (i:=3) wK.nd rfl oi (zDK wH (by decide) hr rfl (zA1 (pn 0) zA7)))
   (zA4 (zAP (i:=4) wK.nd rfl oi (zJ8 zA7))
   (zA4 (zD1 qJ4 rfl (zOX (K:=K) rfl wM (zA1 (pn 1) zA7)) (zFC (K:=K) rfl (zBM (zAN (i:=5) wK.nd rfl oi) (zBM (zAN (i:=6) wK.nd rfl oi) zEJ))) (zA4 (zDV (i:=7) wK.nd rfl oi rfl (cn ["0","1","2","3","4","5","6","7","8","9","_law_j","_law_number"] 2 (by kernel_rfl)) (zOX (K:=K) rfl wM (zA1 (pn 6) zA7)) (fun _ _ _ _=>zFC (K:=K) rfl (zBM (zAN (i:=10) (by show qBl (["0","1","2","3","4","5","6","7","8","9","_law_j","_law_number"]:List Str);decide +kernel) rfl oi) (zBM (zAN (i:=11) (by show qBl (["0","1","2","3","4","5","6","7","8","9","_law_j","_law_number"]:List Str);decide +kernel) rfl oi) zEJ))) (fun _ _ _ _=>zK1 (zDR (u_eq hu) (pn 11) zA9 (zBV _))) (fun _ _ _ _=>(pn 10)))
   (zAF (zAP (i:=4) wK.nd rfl oi (zAL zC0 (pn 4) (zD2 rfl (cn ["0","1","2","_law_letters_here","4","_law_i","6","7","8","9","_law_j"] 1 (by kernel_rfl)) (zDF (K:=K) (pn 7)) (fun _ _ _ _=>(zAN (i:=10) (by show qBl (["0","1","2","_law_letters_here","4","_law_i","6","7","8","9","_law_j"]:List Str);decide +kernel) rfl oi)) (fun _ _ _ _=>zCR) (fun _ _ _ _=>(zJ7 (zA1 (zBG (zBF (K:=K)) (pn 3) (pn 5) (fun _ _=>rfl)) (zA1 (zBG (zBF (K:=K)) (pn 3) (pn 10) (fun _ _=>rfl)) zA7))))))))))
   (zA4 (zFB (pt_w (zWF (zDR u_lt (zAL zD7 (pn 2) zA9) zA9 (zBV _)) (zRJ (zDR u_gt (zAK (zBW (K:=K)) rfl wE qJ8 (zA1 (pn 4) zA7)) zA9 (zBV _))))) (zA4 (zHW (zBG (zBF (K:=K)) (pn 4) (zAL zD7 (zAL zFM (pn 2) zA9) (zAK (zBW (K:=K)) rfl wE qJ8 (zA1 (pn 4) zA7))) (fun _ _=>rfl)) (zFC (K:=K) rfl (zBM (zAN (i:=8) wK.nd rfl oi) (zBM (zAN (i:=9) wK.nd rfl oi) zEJ))))
   (zAF (zAS (zRQ wBv hr (by decide) zMB rfl (zA1 (pn 8) (zA1 (pn 9) zA7)))))) zCG)
   (zA4 (zFB (zDR (u_eq hu) (zAL zD7 (pn 2) zA9) zA9 (zBV _)) (zAF (zAS (zY4 wAi rfl))) zCG)
   (zA4 (zFB (zDR (u_eq hu) (zAL zD7 (pn 2) zA9) zA9 (zBV _)) (zAF (zAS (zRQ wB2 hr (by decide) zMB rfl (zA1 (zAL zZP (zAL zD7 (zAL zFM (pn 2) zA9) zA9) zA9) zA7)))) zCG)
   (zAF (zAS (zRQ wBx hr (by decide) zMB rfl (zA1 (zBG (zBF (K:=K)) (pn 3) (zAL zD7 (zAL zFM (pn 2) zA9) (zAK (zBW (K:=K)) rfl wE qJ8 (zA1 (pn 3) zA7))) (fun _ _=>rfl)) zA7)))))))))),
  (zBC (N:=["_law_word_here","_law_web_here","_law_cell","_law_letters_here","_law_pairs","_law_i","_law_row","_law_near","_law_one","_law_other"]) (zAJ (zAO (n:=0) [0] (zC6 (zA2 (de_v 0) zAA)))
   (zAJ (zAO (n:=9) [] (zJG (n:=8) zAA))
   (zAJ (zIF [1] (zc2 (zA2 (de_v 1) zAA)) (zHL (zBL 5 (zBL 6 zEE)) rfl) (zAJ (zAO (n:=1) [6] (zC5 (n:=0) (zc2 (zA2 (de_v 6) zAA)) (zHL (zBL 10 (zBL 11 zEE)) rfl) (dt_b (dz (zAB zIR (de_v 11) (dz zAC)))) (de_v 10)))
   (zAO (n:=1) [4,7,3,5] (zAB zB1 (de_v 4) (zC5 (n:=1) (zDO (de_v 7)) (zBT 10) zDX (zJF (n:=0) (zA2 (zAB zBI (de_v 3) (de_v 5)) (zA2 (zAB zBI (de_v 3) (de_v 10)) zAA))))))))
   (zAJ (zFE (zWY (dt_b (dz (zAB zRE (dz (zAB zBZ (de_v 2) (dz zAC))) (dz zAC)))) (dt_b (dz (zAB zRE (dz (zCA zBX (zA2 (de_v 4) zAA))) (dz zAC))))) (zAJ (zbY [4,2] (zHL (zBL 8 (zBL 9 zEE)) rfl) (zAB zBI (de_v 4) (dz (zAB zBZ (dz (zAB zFQ (de_v 2) (dz zAC))) (dz (zCA zBX (zA2 (de_v 4) zAA)))))))
   (zAY (n:=0) [8,9] (zSX wBv (zA2 (de_v 8) (zA2 (de_v 9) zAA))))) zDH)
   (zAJ (zFE (dt_b (dz (zAB zIR (dz (zAB zBZ (de_v 2) (dz zAC))) (dz zAC)))) (zAY (n:=0) [] (zZ4 wAi)) zDH)
   (zAJ (zFE (dt_b (dz (zAB zIR (dz (zAB zBZ (de_v 2) (dz zAC))) (dz zAC)))) (zAY (n:=0) [2] (zSX wB2 (zA2 (zAB zW7 (dz (zAB zBZ (dz (zAB zFQ (de_v 2) (dz zAC))) (dz zAC))) (dz zAC)) zAA))) zDH)
   (zAY (n:=0) [3,2] (zSX wBx (zA2 (zAB zBI (de_v 3) (dz (zAB zBZ (dz (zAB zFQ (de_v 2) (dz zAC))) (dz (zCA zBX (zA2 (de_v 3) zAA)))))) zAA))))))))) h)⟩
def zLR(D:Def K mg "_law_copy" zF9):Has P w K mg base "_law_copy" 1 ["_law_rows","_law_size"] (sp0 K mg 2 zCF):=by
 letI:Kc:=⟨K⟩;refine D.ok zOB (fun _ _ _ _ _ _=>uw2 fun _ _=>rfl) (fun vs H Q E h=>zAT h) (fun f cdv A outer s H vs Q E hr h=>?_);have hu:=hr.units;exact⟨_,(zAF (zAS (zD2 rfl (cn ["0","_law_size","_law_row"] 1 (by kernel_rfl)) (zDF (K:=K) (zAW (u_sl (K:=K)) (pn 0) zC1 (zAV (pn 1)))) (fun _ _ _ _=>(zAN (i:=2) (by show qBl (["0","_law_size","_law_row"]:List Str);decide +kernel) rfl oi)) (fun _ _ _ _=>zCR) (fun _ _ _ _=>(zAW (u_sl (K:=K)) (pn 2) zC1 (zAV (pn 1))))))),
  (zBC (N:=["_law_rows","_law_size"]) (zAY (n:=2) [1,0] (zC5 (n:=1) (zDO (zDS (de_v 0) zEL (do_e (de_v 1)))) (zBT 2) zDX (zDS (de_v 2) zEL (do_e (de_v 1))))) h)⟩
def zFW(D:Def K mg "_law_digit_word" zCO)(wE:mg "len" = none)(wR:mg "list" = none)(wL:mg "range" = none):Has P w K mg base "_law_digit_word" 1 ["_law_cell","_law_most"] (sp0 K mg 1 zBP):=by
 letI:Kc:=⟨K⟩;refine D.ok wA (fun _ _ _ _ _ _=>uw2 fun _ _=>rfl) (fun vs H Q E h=>zAT h) (fun f cdv A outer s H vs Q E hr h=>?_);have hu:=hr.units;exact⟨_,(zA4 (zAP (i:=2) wA.nd rfl oi (zCZ (zYN (K:=K) rfl) rfl wR qKt (zA1 zHX zA7)))
   (zA4 (zAP (i:=3) wA.nd rfl oi (zAL zC0 zA9 (zAL zD7 (pn 0) (pn 1))))
   (zA4 (zAP (i:=0) wA.nd rfl oi (zAL zFM (pn 0) (pn 1)))
   (zA4 (zAP (i:=4) wA.nd rfl oi zHX)
   (zA4 (zD1 qJ4 rfl (zCY rfl wL (zA1 (pn 3) zA7)) (zAN (i:=5) wA.nd rfl oi) (zA4 (zAP (i:=6) wA.nd rfl oi (zU9 qD4 PySem.F.slot_list_pop PySem.F.type_list_pop zYG (pn 2) (zA1 (zAL zD7 (pn 0) (zAK (zBW (K:=K)) rfl wE qJ8 (zA1 (pn 2) zA7))) zA7)))
   (zA4 (zAP (i:=0) wA.nd rfl oi (zAL zFM (pn 0) (zAL zC0 (zAK (zBW (K:=K)) rfl wE qJ8 (zA1 (pn 2) zA7)) zA9)))
   (zAF (zD1 qJ4 rfl (zCY rfl wL (zA1 zA9 zA7)) (zAN (i:=7) wA.nd rfl oi) (zA4 (zAP (i:=8) wA.nd rfl oi (zAL zD7 (pn 0) (zAL zC0 (zAK (zBW (K:=K)) rfl wE qJ8 (zA1 (pn 4) zA7)) zA9)))
   (zA4 (zAP (i:=0) wA.nd rfl oi (zAL zFM (pn 0) (zAL zC0 (zAK (zBW (K:=K)) rfl wE qJ8 (zA1 (pn 4) zA7)) zA9)))
   (zAF (zAP (i:=4) wA.nd rfl oi (zAL zC0 (zAL zC0 (zAW (u_sl (K:=K)) (pn 4) zC1 (zAV (pn 8))) (pn 6)) (zAW (u_sl (K:=K)) (pn 4) (zAV (pn 8)) zC1)))))))))))
   (zAF (zAS (pn 4)))))))),
  (zBC (N:=["_law_cell","_law_most","_law_pool","_law_many","_law_word_here","_law_k","_law_letter","_law_turn","_law_place"]) (zAJ (zAO (n:=1) [] (zCA zVR (zA2 zII zAA)))
   (zAJ (zAO (n:=1) [0,1] (zAB zB1 (dz zAC) (dz (zAB zBZ (de_v 0) (de_v 1)))))
   (zAJ (zAO (n:=0) [0,1] (zAB zFQ (de_v 0) (de_v 1)))
   (zAJ (zAO (n:=0) [] zII)
   (zAJ (zKL (zME (zA2 (de_v 3) zAA)) (zAJ (zbZ 6 2 (dz (zAB zBZ (de_v 0) (dz (zCA zBX (zA2 (de_v 2) zAA))))))
   (zAJ (zAO (n:=0) [0,2] (zAB zFQ (de_v 0) (zAB zB1 (dz (zCA zBX (zA2 (de_v 2) zAA))) (dz zAC))))
   (zKL (zME (zA2 zAC zAA)) (zAJ (zAO (n:=0) [0,4] (zAB zBZ (de_v 0) (zAB zB1 (dz (zCA zBX (zA2 (de_v 4) zAA))) (dz zAC))))
   (zAJ (zAO (n:=0) [0,4] (zAB zFQ (de_v 0) (zAB zB1 (dz (zCA zBX (zA2 (de_v 4) zAA))) (dz zAC))))
   (zAO (n:=1) [6,4,8] (zAB zB1 (zAB zB1 (zDS (de_v 4) zEL (do_e (de_v 8))) (de_v 6)) (zDS (de_v 4) (do_e (de_v 8)) zEL)))))))))
   (zKJ 4)))))) h)⟩
def zH4(D:Def K mg "_law_table_is" zDE)(wDn:mg "bool" = none)(wCo:mg "int" = none)(wN:mg "isinstance" = none)(wE:mg "len" = none)(wR:mg "list" = none)(wE0:mg "zip" = none):Has P w K mg base "_law_table_is" 1 ["_law_found","_law_due"] (sp0 K mg 0 zC2):=by
 letI:Kc:=⟨K⟩;refine D.ok wV (fun _ _ _ _ _ _=>uw2 fun _ _=>rfl) (fun vs H Q E h=>zAT h) (fun f cdv A outer s H vs Q E hr h=>?_);have hu:=hr.units;exact⟨_,(zA4 (zFB (pt_w (zNG (zJ5 (pt_m (zAK zD0 rfl wN qK6 (zA1 (pn 0) (zA1 (zHY (v:=.ty "list") rfl wR qKt rfl) zA7))))) (zHV (zDR (u_ne hu) (zAK (zBW (K:=K)) rfl wE qJ8 (zA1 (pn 0) zA7)) (zAK (zBW (K:=K)) rfl wE qJ8 (zA1 (pn 1) zA7)) (zBV _))))) (zAF (zAS zNH)) zCG)
   (zA4 (zD1 qJ4 rfl (zaN (K:=K) rfl wE0 (zA1 (pn 0) (zA1 (pn 1) zA7))) (zFC (K:=K) rfl (zBM (zAN (i:=2) wV.nd rfl oi) (zBM (zAN (i:=3) wV.nd rfl oi) zEJ))) (zA4 (zFB (pt_w (zNG (zJ5 (pt_m (zAK zD0 rfl wN qK6 (zA1 (pn 2) (zA1 (zHY (v:=.ty "list") rfl wR qKt rfl) zA7))))) (zHV (zDR (u_ne hu) (zAK (zBW (K:=K)) rfl wE qJ8 (zA1 (pn 2) zA7)) (zAK (zBW (K:=K)) rfl wE qJ8 (zA1 (pn 3) zA7)) (zBV _))))) (zAF (zAS zNH)) zCG)
   (zAF (zD1 qJ4 rfl (zDF (K:=K) (pn 2)) (zAN (i:=4) wV.nd rfl oi) (zAF (zFB (pt_w (zNG (zJ5 (pt_m (zAK zD0 rfl wN qK6 (zA1 (pn 4) (zA1 (zHY (v:=.ty "int") rfl wCo boot_int rfl) zA7))))) (zHV (pt_m (zAK zD0 rfl wN qK6 (zA1 (pn 4) (zA1 (zHY (v:=.ty "bool") rfl wDn boot_bool rfl) zA7))))))) (zAF (zAS zNH)) zCG))))))
   (zAF (zAS (zE5 (u_eq hu) (pn 0) (pn 1) (zBV _)))))),
  (zBC (N:=["_law_found","_law_due","_law_row","_law_other","_law_number"]) (zAJ (zFE (zNV (zJC (dt_m (dz (zMG (by decide) (de_v 0))))) (dt_b (dz (zAB zH1 (dz (zCA zBX (zA2 (de_v 0) zAA))) (dz (zCA zBX (zA2 (de_v 1) zAA))))))) (zAY (n:=0) [] zNX) zDH)
   (zAJ (zIF [0,1] (zc1 (zA2 (de_v 0) (zA2 (de_v 1) zAA))) (zHL (zBL 2 (zBL 3 zEE)) rfl) (zAJ (zFE (zNV (zJC (dt_m (dz (zMG (by decide) (de_v 2))))) (dt_b (dz (zAB zH1 (dz (zCA zBX (zA2 (de_v 2) zAA))) (dz (zCA zBX (zA2 (de_v 3) zAA))))))) (zAY (n:=0) [] zNX) zDH)
   (zIF [2] (zDO (de_v 2)) (zBT 4) (zFE (zNV (zJC (dt_m (dz (zMG (by decide) (de_v 4))))) (dt_m (dz (zMG (by decide) (de_v 4))))) (zAY (n:=0) [] zNX) zDH))))
   (zAY (n:=0) [0,1] (zAB zIR (de_v 0) (de_v 1))))) h)⟩
def zK8(D:Def K mg "_law_spots" zEG)(wM:mg "enumerate" = none):Has P w K mg base "_law_spots" 1 ["_law_word_here","_law_letter"] (sp0 K mg 1 zDM):=by
 letI:Kc:=⟨K⟩;refine D.ok zN0 (fun _ _ _ _ _ _=>uw2 fun _ _=>rfl) (fun vs H Q E h=>zAT h) (fun f cdv A outer s H vs Q E hr h=>?_);have hu:=hr.units;exact⟨_,(zAF (zAS (zD2 rfl (cn ["0","_law_letter","_law_k","_law_sign"] 2 (by kernel_rfl)) (zK6 (K:=K) rfl wM (zA1 (pn 0) zA7)) (fun _ _ _ _=>zFC (K:=K) rfl (zBM (zAN (i:=2) (by show qBl (["0","_law_letter","_law_k","_law_sign"]:List Str);decide +kernel) rfl oi) (zBM (zAN (i:=3) (by show qBl (["0","_law_letter","_law_k","_law_sign"]:List Str);decide +kernel) rfl oi) zEJ))) (fun _ _ _ _=>zK1 (zDR (u_eq hu) (pn 3) (pn 1) (zBV _))) (fun _ _ _ _=>(pn 2))))),
  (zBC (N:=["_law_word_here","_law_letter"]) (zAY (n:=1) [0,1] (zC5 (n:=0) (zST (zA2 (de_v 0) zAA)) (zHL (zBL 2 (zBL 3 zEE)) rfl) (dt_b (dz (zAB zIR (de_v 3) (de_v 1)))) (de_v 2))) h)⟩
def zNJ(D:Def K mg "_law_web" zGJ)(wH:Has P w K mg base "_law_letters" 1 ["_law_word_here"] (sp0 K mg 0 zBJ))(yO:Has P w K mg base "_law_spots" 1 ["_law_word_here","_law_letter"] (sp0 K mg 1 zDM))(wM:mg "enumerate" = none)(wCo:mg "int" = none):Has P w K mg base "_law_web" 2 ["_law_word_here"] (sp0 K mg 2 zDC):=by
 letI:Kc:=⟨K⟩;refine D.ok wQ (fun _ _ _ _ _ _=>uw1 fun _=>rfl) (fun vs H Q E h=>zAT h) (fun f cdv A outer s H vs Q E hr h=>?_);have hu:=hr.units;exact⟨_,(zA4 (zAP (i:=1) wQ.nd rfl oi (zDK wH (by decide) hr rfl (zA1 (pn 0) zA7)))
   (zA4 (zDV (i:=2) wQ.nd rfl oi rfl (cn ["0","_law_letters_here","2","3","4","5","6","7","8","9","_law_letter"] 1 (by kernel_rfl)) (zDF (K:=K) (pn 1)) (fun _ _ _ _=>(zAN (i:=10) (by show qBl (["0","_law_letters_here","2","3","4","5","6","7","8","9","_law_letter"]:List Str);decide +kernel) rfl oi)) (fun _ _ _ _=>zCR) (fun _ _ _ _=>(zD2 rfl (cn ["0","1","2","3","4","5","6","7","8","9","10","_law_letter"] 1 (by kernel_rfl)) (zDF (K:=K) (pn 1)) (fun _ _ _ _=>(zAN (i:=11) (by show qBl (["0","1","2","3","4","5","6","7","8","9","10","_law_letter"]:List Str);decide +kernel) rfl oi)) (fun _ _ _ _=>zCR) (fun _ _ _ _=>zA9))))
   (zA4 (zD1 qJ4 rfl (zK6 (K:=K) rfl wM (zA1 (pn 1) zA7)) (zFC (K:=K) rfl (zBM (zAN (i:=3) wQ.nd rfl oi) (zBM (zAN (i:=4) wQ.nd rfl oi) zEJ))) (zA4 (zHW (zDK yO (by decide) hr rfl (zA1 (pn 0) (zA1 (pn 4) zA7))) (zaO (K:=K) rfl (zBM (zAN (i:=5) wQ.nd rfl oi) (zBM (zAN (i:=6) wQ.nd rfl oi) zEJ))))
   (zAF (zD1 qJ4 rfl (zK6 (K:=K) rfl wM (zA1 (pn 1) zA7)) (zFC (K:=K) rfl (zBM (zAN (i:=7) wQ.nd rfl oi) (zBM (zAN (i:=8) wQ.nd rfl oi) zEJ))) (zA4 (zAP (i:=9) wQ.nd rfl oi (zRV qCr qFg qFh zLW (zAW (u_sl (K:=K)) (pn 0) (zAV (pn 5)) (zAV (pn 6))) (zA1 (pn 8) zA7)))
   (zAF (zHW (zAL zFL (zAL zD7 (pn 9) zA9) (zCZ zTA rfl wCo boot_int (zA1 (zE5 (u_ne hu) (pn 3) (pn 7) (zBV _)) zA7))) (zLK (zBG (zBF (K:=K)) (pn 2) (pn 3) (fun _ _=>rfl)) (pn 7) zQW))))))))
   (zAF (zAS (pn 2)))))),
  (zBC (N:=["_law_word_here","_law_letters_here","_law_web_here","_law_i","_law_one","_law_first","_law_second","_law_j","_law_other","_law_many"]) (zAJ (zAO (n:=0) [0] (zC6 (zA2 (de_v 0) zAA)))
   (zAJ (zAO (n:=2) [1] (zC5 (n:=1) (zDO (de_v 1)) (zBT 10) zDX (zC5 (n:=0) (zDO (de_v 1)) (zBT 11) zDX zAC)))
   (zAJ (zIF [1] (zST (zA2 (de_v 1) zAA)) (zHL (zBL 3 (zBL 4 zEE)) rfl) (zAJ (zZ3 [0,4] (zBL 5 (zBL 6 zEE)) rfl (zC6 (zA2 (de_v 0) (zA2 (de_v 4) zAA))))
   (zIF [1] (zST (zA2 (de_v 1) zAA)) (zHL (zBL 7 (zBL 8 zEE)) rfl) (zAJ (zAO (n:=0) [8,0,5,6] (zSY zOR (zDS (de_v 0) (do_e (de_v 5)) (do_e (de_v 6))) (zA2 (de_v 8) zAA)))
   (zVD 2 (n:=0) (de_v 3) (de_v 7) (zAB zFP (dz (zAB zBZ (de_v 9) (dz zAC))) (dz (zCA zcG (zA2 (zAB zH1 (de_v 3) (de_v 7)) zAA)))))))))
   (zKJ 2)))) h)⟩
def zLQ(D:Def K mg "_law_word" zF8)(wE:mg "len" = none)(wL:mg "range" = none):Has P w K mg base "_law_word" 1 ["_law_cells_here","_law_most"] (sp0 K mg 1 zCW):=by
 letI:Kc:=⟨K⟩;refine D.ok wS (fun _ _ _ _ _ _=>uw2 fun _ _=>rfl) (fun vs H Q E h=>zAT h) (fun f cdv A outer s H vs Q E hr h=>?_);have hu:=hr.units;exact⟨_,(zA4 (zAP (i:=2) wS.nd rfl oi zHX)
   (zA4 (zAP (i:=3) wS.nd rfl oi zHX)
   (zA4 (zD1 qJ4 rfl (zCY rfl wL (zA1 (zAL zC0 zA9 (zAL zD7 (zBG (zBF (K:=K)) (pn 0) zA9 (fun _ _=>rfl)) (pn 1))) zA7)) (zAN (i:=4) wS.nd rfl oi) (zA4 (zAP (i:=5) wS.nd rfl oi (zBG (zBF (K:=K)) (pn 2) (zAL zD7 (zAL zC0 (zAL zFM (zBG (zBF (K:=K)) (pn 0) zA9 (fun _ _=>rfl)) zA9) (zAL zFL (zBG (zBF (K:=K)) (zJ8 (zA1 zA9 (zA1 zA9 (zA1 zA9 (zA1 zA9 (zA1 zA9 (zA1 zA9 zA7))))))) (zAL zD7 (zAL zFM (zBG (zBF (K:=K)) (pn 0) zA9 (fun _ _=>rfl)) zA9) zA9) (fun _ _=>rfl)) (pn 4))) zA9) (fun _ _=>rfl)))
   (zAF (zD1 qJ4 rfl (zDF (K:=K) (zJ7 (zA1 (zAL zD7 (zBG (zBF (K:=K)) (pn 0) (zAL zC0 zA9 (pn 4)) (fun _ _=>rfl)) (zAL zC0 (zAK (zBW (K:=K)) rfl wE qJ8 (zA1 (pn 3) zA7)) zA9)) (zA1 (zAL zD7 (zAL zFM (zBG (zBF (K:=K)) (pn 0) (zAL zC0 zA9 (pn 4)) (fun _ _=>rfl)) zA9) (zAL zC0 (zAK (zBW (K:=K)) rfl wE qJ8 (zA1 (pn 3) zA7)) zA9)) zA7)))) (zAN (i:=6) wS.nd rfl oi) (zAF (zAP (i:=3) wS.nd rfl oi (zAL zC0 (zAL zC0 (zAW (u_sl (K:=K)) (pn 3) zC1 (zAV (pn 6))) (pn 5)) (zAW (u_sl (K:=K)) (pn 3) (zAV (pn 6)) zC1))))))))
   (zAF (zAS (pn 3)))))),
  (zBC (N:=["_law_cells_here","_law_most","_law_letters_here","_law_word_here","_law_k","_law_letter","_law_place"]) (zAJ (zAO (n:=0) [] zII)
   (zAJ (zAO (n:=0) [] zII)
   (zAJ (zKL (zME (zA2 (zBE (zAB zB1 (dz zAC) (dz (zAB zBZ (zAB zBI (de_v 0) (dz zAC)) (de_v 1))))) zAA)) (zAJ (zAO (n:=0) [2,4,0] (zAB zBI (de_v 2) (dz (zAB zBZ (zAB zB1 (dz (zAB zFQ (zAB zBI (de_v 0) (dz zAC)) (dz zAC))) (dz (zAB zFP (zAB zBI (zJG (n:=0) (zA2 zAC (zA2 zAC (zA2 zAC (zA2 zAC (zA2 zAC (zA2 zAC zAA))))))) (dz (zAB zBZ (dz (zAB zFQ (zAB zBI (de_v 0) (dz zAC)) (dz zAC))) (dz zAC)))) (de_v 4)))) (dz zAC)))))
   (zIF [0,4,3] (zDO (zJF (n:=0) (zA2 (zAB zBZ (zAB zBI (de_v 0) (zAB zB1 (dz zAC) (de_v 4))) (zAB zB1 (dz (zCA zBX (zA2 (de_v 3) zAA))) (dz zAC))) (zA2 (zAB zBZ (dz (zAB zFQ (zAB zBI (de_v 0) (zAB zB1 (dz zAC) (de_v 4))) (dz zAC))) (zAB zB1 (dz (zCA zBX (zA2 (de_v 3) zAA))) (dz zAC))) zAA)))) (zBT 6) (zAO (n:=1) [5,3,6] (zAB zB1 (zAB zB1 (zDS (de_v 3) zEL (do_e (de_v 6))) (de_v 5)) (zDS (de_v 3) (do_e (de_v 6)) zEL))))))
   (zKJ 3)))) h)⟩
def zb5{f:Addr}{fd:qJ0}(F:Fun K "law" "law" zJW f fd){wC:Addr}{wF:Addr}{wI:Addr}{wJ:Addr}(yK:Has P w K mg base "_law_cells" 2 ["_law_script","_law_least"] (sp0 K mg 1 zDN))(yG:Has P w K mg base "_law_change" 3 ["_law_word_here","_law_web_here","_law_cell"] (sp0 K mg 0 zCL))(wAd:Has P w K mg base "_law_copy" 1 ["_law_rows","_law_size"] (sp0 K mg 2 zCF))(wZ:Has P w K mg base "_law_digit_word" 1 ["_law_cell","_law_most"] (sp0 K mg 1 zBP))(wH:Has P w K mg base "_law_letters" 1 ["_law_word_here"] (sp0 K mg 0 zBJ))(uJ:Has P w K mg base "_law_table_is" 1 ["_law_found","_law_due"] (sp0 K mg 0 zC2))(yR:Has P w K mg base "_law_web" 2 ["_law_word_here"] (sp0 K mg 2 zDC))(wA8:Has P w K mg base "_law_word" 1 ["_law_cells_here","_law_most"] (sp0 K mg 1 zCW))(uM:HasM P w K mg base wJ "done_web" 4 ["self","letters","web"] (spE K mg 2 zB4))(uL:HasM P w K mg base wI "done_web" 4 ["self","letters","web"] (spE K mg 2 zB5))(wY:HasM P w K mg base wC "done_web" 2 ["self","letters","web"] (spE K mg 2 zAM))(uD:HasM P w K mg base wF "done_web" 2 ["self","letters","web"] (spE K mg 2 zAM))(wA9:HasM P w K mg base wJ "done" 5 ["self","word"] (spE K mg 0 zB6))(wAf:HasM P w K mg base wI "done" 6 ["self","word"] (spE K mg 0 zBK))(yC:HasM P w K mg base wC "done" 1 ["self","word"] (spE K mg 0 zC9))(yQ:HasM P w K mg base wF "done" 2 ["self","word"] (spE K mg 0 zCJ))(wN:mg "isinstance" = none)(wE:mg "len" = none)(wR:mg "list" = none)(wU:mg "sorted" = none)(wE4:mg "str" = none)(wCh:OCls K mg "Turn" wJ)(wC9:OCls K mg "Swap" wI)(yY:OCls K mg "Mirror" wC)(wB5:OCls K mg "Shift" wF)(hN:zUL K=true):FnOk P w K mg base CX0 7 f fd ["_law_script"] (zJ2 K):=by
 letI:Kc:=⟨K⟩;refine(F.ok uP (sp:=sp0 K mg 0 zM0) (fun vs H Q E h=>zAT h) (fun cdv A outer s H vs Q E hr h=>?_)).imp (zUV zUU);have hu:=hr.units;exact⟨_,(zA4 (zAP (i:=1) uP.nd rfl oi (zDK yK (by decide) hr rfl (zA1 (pn 0) (zA1 zA9 zA7))))
   (zA4 (zAP (i:=2) uP.nd rfl oi (zDK wA8 (by decide) hr rfl (zA1 (pn 1) (zA1 zA9 zA7))))
   (zA4 (zFB (pt_w (zWF (zDR (u_ne hu) (zAW (u_sl (K:=K)) (pn 0) zC1 (zAV zA9)) (zJ8 zA7) (zBV _)) (zRJ (zDR (u_eq hu) (zAL zD7 (zBG (zBF (K:=K)) (pn 0) zA9 (fun _ _=>rfl)) zA9) zA9 (zBV _))))) (zA4 (zAP (i:=2) uP.nd rfl oi (zDK wZ (by decide) hr rfl (zA1 (zBG (zBF (K:=K)) (pn 1) zA9 (fun _ _=>rfl)) (zA1 zA9 zA7))))
   (zAF (zAP (i:=1) uP.nd rfl oi (zAL zC0 (zAW (u_sl (K:=K)) (pn 1) zC1 (zAV zA9)) (zAW (u_sl (K:=K)) (pn 1) (zAV zA9) zC1))))) zCG)
   (zA4 (zAP (i:=3) uP.nd rfl oi (zDK wH (by decide) hr rfl (zA1 (pn 2) zA7)))
   (zA4 (zAP (i:=4) uP.nd rfl oi (zDK yR (by decide) hr rfl (zA1 (pn 2) zA7)))
   (zA4 (zD1 qJ4 rfl (zDF (K:=K) (zAW (u_sl (K:=K)) (pn 1) (zAV zA9) zC1)) (zAN (i:=5) uP.nd rfl oi) (zA4 (zAP (i:=6) uP.nd rfl oi (zDK yG (by decide) hr rfl (zA1 (pn 2) (zA1 (pn 4) (zA1 (pn 5) zA7)))))
   (zA4 (zDV (i:=7) uP.nd rfl oi rfl (cn ["0","1","2","3","4","5","6","7","8","9","10","_law_row"] 1 (by kernel_rfl)) (zDF (K:=K) (pn 4)) (fun _ _ _ _=>(zAN (i:=11) (by show qBl (["0","1","2","3","4","5","6","7","8","9","10","_law_row"]:List Str);decide +kernel) rfl oi)) (fun _ _ _ _=>zCR) (fun _ _ _ _=>(zCZ (zKF (K:=K) rfl) rfl wR qKt (zA1 (pn 11) zA7))))
   (zA4 (zAP (i:=8) uP.nd rfl oi (zOY (m:="done_web") (pn 6) (zCI (zGY wCh.cl) uM (by decide) (zCI (zGY wC9.cl) uL (by decide) (zCI (zGY yY.cl) wY (by decide) (zCI (zGY wB5.cl) uD (by decide) zLX)))) hr zMB (zA1 (pn 3) (zA1 (pn 7) zA7))))
   (zA4 (zAP (i:=2) uP.nd rfl oi (zOY (m:="done") (pn 6) (zCI (zGY wCh.cl) wA9 (by decide) (zCI (zGY wC9.cl) wAf (by decide) (zCI (zGY yY.cl) yC (by decide) (zCI (zGY wB5.cl) yQ (by decide) zLX)))) hr zMB (zA1 (pn 2) zA7)))
   (zA4 (zFB (pt_w (zNG (zJ5 (pt_m (zAK zD0 rfl wN qK6 (zA1 (pn 2) (zA1 (zHY (v:=.ty "str") rfl wE4 boot_str rfl) zA7))))) (zHV (zDR (u_ne hu) (zAK (zSE rfl) rfl wU qLl (zA1 (pn 2) zA7)) (zAK (zSE rfl) rfl wU qLl (zA1 (zAL zC0 (pn 3) (pn 3)) zA7)) (zBV _))))) (zAF (zAS zNH)) zCG)
   (zA4 (zAP (i:=9) uP.nd rfl oi (zDK yR (by decide) hr rfl (zA1 (pn 2) zA7)))
   (zA4 (zFB (pt_w (zNG (zJ5 (pt_m (zDK uJ (by decide) hr rfl (zA1 (pn 8) (zA1 (pn 9) zA7))))) (zHV (zDR (u_ne hu) (pn 7) (pn 4) (zBV _))))) (zAF (zAS zNH)) zCG)
   (zA4 (zDV (i:=4) uP.nd rfl oi rfl (cn ["0","1","2","3","4","5","6","7","8","9","10","_law_row"] 1 (by kernel_rfl)) (zDF (K:=K) (pn 8)) (fun _ _ _ _=>(zAN (i:=11) (by show qBl (["0","1","2","3","4","5","6","7","8","9","10","_law_row"]:List Str);decide +kernel) rfl oi)) (fun _ _ _ _=>zCR) (fun _ _ _ _=>(zCZ (zKF (K:=K) rfl) rfl wR qKt (zA1 (pn 11) zA7))))
   (zA4 (zD1 qJ4 rfl (zDF (K:=K) (pn 8)) (zAN (i:=10) uP.nd rfl oi) (zAF (zK3 (zU9 qD4 qDp qDq zNM (pn 10) (zA1 zA9 zA7)))))
   (zA4 (zK3 (zU9 qD4 qDp qDq zNM (pn 8) (zA1 (zJ8 zA7) zA7)))
   (zAF (zFB (zDR (u_ne hu) (pn 7) (zDK wAd (by decide) hr rfl (zA1 (pn 7) (zA1 (zAK (zBW (K:=K)) rfl wE qJ8 (zA1 (pn 3) zA7)) zA7))) (zBV _)) (zAF (zAS zNH)) zCG)))))))))))))
   (zAF (zAS zNH)))))))),
  zBC (N:=["_law_script","_law_cells_here","_law_word_here","_law_letters_here","_law_web_here","_law_cell","_law_change_here","_law_handed","_law_found","_law_due","_law_row"]) (zAJ (zAO (n:=1) [0] (zC6 (zA2 (de_v 0) (zA2 zAC zAA))))
   (zAJ (zAO (n:=1) [1] (zC6 (zA2 (de_v 1) (zA2 zAC zAA))))
   (zAJ (zFE (zWY (dt_b (dz (zAB zH1 (zc6 hN (de_v 0) zEL (do_e (dz zAC))) (zJG (n:=8) zAA)))) (dt_b (dz (zAB zIR (dz (zAB zBZ (zAB zBI (de_v 0) (dz zAC)) (dz zAC))) (dz zAC))))) (zAJ (zAO (n:=1) [1] (zC6 (zA2 (zAB zBI (de_v 1) (dz zAC)) (zA2 zAC zAA))))
   (zAO (n:=1) [1] (zAB zB1 (zDS (de_v 1) zEL (do_e (dz zAC))) (zDS (de_v 1) (do_e (dz zAC)) zEL)))) zDH)
   (zAJ (zAO (n:=0) [2] (zC6 (zA2 (de_v 2) zAA)))
   (zAJ (zAO (n:=2) [2] (zC6 (zA2 (de_v 2) zAA)))
   (zAJ (zIF [1] (zDO (zDS (de_v 1) (do_e (dz zAC)) zEL)) (zBT 5) (zAJ (zAO (n:=0) [2,4,5] (zC6 (zA2 (de_v 2) (zA2 (de_v 4) (zA2 (de_v 5) zAA)))))
   (zAJ (zAO (n:=2) [10,4] (zC5 (n:=1) (zDO (de_v 4)) (zBT 11) zDX (zCA zGO (zA2 (de_v 11) zAA))))
   (zAJ (zAO (n:=2) [3,7,6] (zSZ (de_v 6) (zA2 (de_v 3) (zA2 (de_v 7) zAA))))
   (zAJ (zAO (n:=0) [2,6] (zSZ (de_v 6) (zA2 (de_v 2) zAA)))
   (zAJ (zFE (zNV (zJC (dt_m (dz (zMG (by decide) (de_v 2))))) (dt_b (dz (zAB zH1 (zCA zX6 (zA2 (de_v 2) zAA)) (zCA zX6 (zA2 (zBE (zAB zB1 (de_v 3) (de_v 3))) zAA)))))) (zAY (n:=0) [] zNX) zDH)
   (zAJ (zAO (n:=2) [2] (zC6 (zA2 (de_v 2) zAA)))
   (zAJ (zFE (zNV (zJC (dt_m (zC6 (zA2 (de_v 8) (zA2 (de_v 9) zAA))))) (dt_b (dz (zAB zH1 (de_v 7) (de_v 4))))) (zAY (n:=0) [] zNX) zDH)
   (zAJ (zAO (n:=2) [10,8] (zC5 (n:=1) (zDO (de_v 8)) (zBT 11) zDX (zCA zGO (zA2 (de_v 11) zAA))))
   (zAJ (zSS 8 10 1)
   (zAJ (zWZ 8 (n:=9) (zJG (n:=8) zAA))
   (zFE (dt_b (dz (zAB zH1 (de_v 7) (zC6 (zA2 (de_v 7) (zA2 (zCA zBX (zA2 (de_v 3) zAA)) zAA)))))) (zAY (n:=0) [] zNX) zDH))))))))))))
   (zAY (n:=0) [] zNX))))))) h⟩
end
def mkD{K:qA0}{h:Heap}{mg:Str->Option Value}{nm:Str}{st:Stmt}{f:Addr}{oc kV dc pm cd ct:Value}{od an:Option Addr}{sl:Array (Option Value)}(X:K.In h)(G:h.Ns qIn mg)(a:qAu K qIn nm=some (some (.ref f)))(l:K.lookup f=some ⟨oc,od,.func (qAx nm nm (zB9 st) (zAQ st) (zA6 st) .none kV dc pm an cd ct),sl⟩)(c:qB4 K cd nm=true)(k:qAk K (.ref f)=true):Def K mg nm st:=⟨f,_,zD5 (st:=st) l c k,qC1 X G a⟩
def all_mk{l:qEk}{w:World}{K:qA0}{h:Heap}{mg:Str->Option Value}{fa f0 f2 f4 f5 f10 f14 f15 f19 f30 f31 f32 f33 f34 a_RoundError wB wD a_Change wJ wI wC wF:Addr}{wDw wE7 wE8 wDu wDz:qMs}{wCk wDj wDo:Option Addr}{uG uV yL:qMs}{wAr wBr wCf:Array (Option Value)}(X:K.In h)(G:h.Ns qIn mg)(hfa:mg "law" = some (.ref fa))
  {od0 an0 od2 an2 od4 an4 od5 an5 od10 an10 od14 an14 od15 an15 od19 an19 od30 an30 od31 an31 od32 an32 od33 an33 od34 an34:Option Addr} {sl0 sl2 sl4 sl5 sl10 sl14 sl15 sl19 sl30 sl31 sl32 sl33 sl34:Array (Option Value)} {oc0 kV0 dc0 pm0 cd0 ct0 oc2 kV2 dc2 pm2 cd2 ct2 oc4 kV4 dc4 pm4 cd4 ct4 oc5 kV5 dc5 pm5 cd5 ct5 oc10 kV10 dc10 pm10 cd10 ct10 oc14 kV14 dc14 pm14 cd14 ct14 oc15 kV15 dc15 pm15 cd15 ct15 oc19 kV19 dc19 pm19 cd19 ct19 oc30 kV30 dc30 pm30 cd30 ct30 oc31 kV31 dc31 pm31 cd31 ct31 oc32 kV32 dc32 pm32 cd32 ct32 oc33 kV33 dc33 pm33 cd33 ct33 oc34 kV34 dc34 pm34 cd34 ct34:Value}
  (D1:Def K mg "copied" zJX)
  (D3:Def K mg "shifted" zHR)
  (D6:Def K mg "first_place" zE3)
  (D7:Def K mg "places_of" zF6)
  (D8:Def K mg "do_cross" zGI)
  (D9:Def K mg "exchanged" zF7)
  (D11:Def K mg "changed_where" zDD)
  (D12:Def K mg "part_at" zHS)
  (D13:MkrE K mg "exchanged_at" zCU)
  (D16:Def K mg "ones_in" zHT)
  (D17:Def K mg "near_to" zHU)
  (D18:MkrE K mg "turned_at" zE2)
  (D20:Def K mg "_law_mixed" zEH)
  (D21:Def K mg "_law_cells" zEI)
  (D22:Def K mg "_law_letters" zDQ)
  (D23:Def K mg "_law_change" zE4)
  (D24:Def K mg "_law_copy" zF9)
  (D25:Def K mg "_law_digit_word" zCO)
  (D26:Def K mg "_law_table_is" zDE)
  (D27:Def K mg "_law_spots" zEG)
  (D28:Def K mg "_law_web" zGJ)
  (D29:Def K mg "_law_word" zF8)
  (a30:qAu K qIn "law" = some (some (.ref f30)))
  (l30:K.lookup f30=some ⟨oc30,od30,.func (qAx "law" "law" (zB9 zJW) (zAQ zJW) (zA6 zJW) .none kV30 dc30 pm30 an30 cd30 ct30),sl30⟩)
  (c30:qB4 K cd30 "law" = true)
  (k30:qAk K (.ref f30)=true)
  (z0:qAu K qIn "bool" = some none)
  (z1:qAu K qIn "enumerate" = some none)
  (z2:qAu K qIn "int" = some none)
  (z3:qAu K qIn "isinstance" = some none)
  (z4:qAu K qIn "len" = some none)
  (z5:qAu K qIn "list" = some none)
  (z6:qAu K qIn "max" = some none)
  (z7:qAu K qIn "min" = some none)
  (z8:qAu K qIn "range" = some none)
  (z9:qAu K qIn "set" = some none)
  (z10:qAu K qIn "sorted" = some none)
  (z11:qAu K qIn "str" = some none)
  (z12:qAu K qIn "zip" = some none)
  (uI:qAu K qIn "RoundError" = some (some (.ref a_RoundError)))
  (yH:K.lookup a_RoundError=some ⟨.type "type",wCk,.cls uG,wAr⟩)
  (uW:xcD a_RoundError uG wAr=true)
  (wAp:qCg K a_RoundError=some uG)
  (wAm:PySem.W.excTail uG.mro=true)
  (wAn:qCh K (.ref a_RoundError)=some (.type "type"))
  (yA:qA8 K (.ref a_RoundError) "__getattribute__" = some (some (.builtin "BaseException.__getattribute__")))
  (uZ:qA8 K (.ref a_RoundError) "__getattr__" = some none)
  (yD:qBj K a_RoundError=true)
  (yE:qA8 K (.ref a_RoundError) "__class__" = some (some (.builtin "object.__class__")))
  (uY:qCe K a_RoundError (.type "object")=some true)
  (wAo:qDy K (.ref a_RoundError) (.type "ValueError")=some true)
  (wAq:qDy K (.ref a_RoundError) (.type "BaseException")=some true)
  (uU:qAu K qIn "NoLetter" = some (some (.ref wB)))
  (yV:K.lookup wB=some ⟨.type "type",wDj,.cls uV,wBr⟩)
  (yZ:xcD wB uV wBr=true)
  (wA7:qCg K wB=some uV)
  (wA6:PySem.W.excTail uV.mro=true)
  (wBu:qCh K (.ref wB)=some (.type "type"))
  (wA4:qA8 K (.ref wB) "__getattribute__" = some (some (.builtin "BaseException.__getattribute__")))
  (wA0:qA8 K (.ref wB) "__getattr__" = some none)
  (uQ:qBj K wB=true)
  (wAa:qA8 K (.ref wB) "__class__" = some (some (.builtin "object.__class__")))
  (wAe:qCe K wB (.type "object")=some true)
  (wBp:qDy K (.ref wB) (.type "ValueError")=some true)
  (wBt:qDy K (.ref wB) (.type "BaseException")=some true)
  (yM:qAu K qIn "NoCross" = some (some (.ref wD)))
  (wB1:K.lookup wD=some ⟨.type "type",wDo,.cls yL,wCf⟩)
  (wAw:xcD wD yL wCf=true)
  (wC3:qCg K wD=some yL)
  (wC5:PySem.W.excTail yL.mro=true)
  (wCa:qCh K (.ref wD)=some (.type "type"))
  (wAs:qA8 K (.ref wD) "__getattribute__" = some (some (.builtin "BaseException.__getattribute__")))
  (wAt:qA8 K (.ref wD) "__getattr__" = some none)
  (wAv:qBj K wD=true)
  (wAx:qA8 K (.ref wD) "__class__" = some (some (.builtin "object.__class__")))
  (wAu:qCe K wD (.type "object")=some true)
  (wBy:qDy K (.ref wD) (.type "ValueError")=some true)
  (wC2:qDy K (.ref wD) (.type "BaseException")=some true)
  (wAk:qAu K qIn "Change" = some (some (.ref a_Change)))
  (wCq:qCg K a_Change=some wDw)
  (wCn:qCh K (.ref a_Change)=some (.type "type"))
  (wBb:qC3 K a_Change qL4=true)
  (wBg:qBj K a_Change=true)
  (wBj:qCl K a_Change=true)
  (wBm:qA8 K (.ref a_Change) "__setattr__" = some (some (.builtin "object.__setattr__")))
  (wBa:qA8 K (.ref a_Change) "__class__" = some (some (.builtin "object.__class__")))
  (wBe:qCe K a_Change (.type "object")=some true)
  (wB3:qAu K qIn "Turn" = some (some (.ref wJ)))
  (wDs:qCg K wJ=some wE7)
  (wDp:qCh K (.ref wJ)=some (.type "type"))
  (wCy:qC3 K wJ qL4=true)
  (wD9:qBj K wJ=true)
  (wD2:qCl K wJ=true)
  (wDd:qA8 K (.ref wJ) "__setattr__" = some (some (.builtin "object.__setattr__")))
  (wD0:qA8 K (.ref wJ) "__class__" = some (some (.builtin "object.__class__")))
  (wD5:qCe K wJ (.type "object")=some true)
  (wAl:qAu K qIn "Swap" = some (some (.ref wI)))
  (wDt:qCg K wI=some wE8)
  (wDr:qCh K (.ref wI)=some (.type "type"))
  (wD4:qC3 K wI qL4=true)
  (wD6:qBj K wI=true)
  (wDa:qCl K wI=true)
  (wDb:qA8 K (.ref wI) "__setattr__" = some (some (.builtin "object.__setattr__")))
  (wCw:qA8 K (.ref wI) "__class__" = some (some (.builtin "object.__class__")))
  (wCt:qCe K wI (.type "object")=some true)
  (wAj:qAu K qIn "Mirror" = some (some (.ref wC)))
  (wCp:qCg K wC=some wDu)
  (wCm:qCh K (.ref wC)=some (.type "type"))
  (wB7:qC3 K wC qL4=true)
  (wBl:qBj K wC=true)
  (wB6:qCl K wC=true)
  (wB9:qA8 K (.ref wC) "__setattr__" = some (some (.builtin "object.__setattr__")))
  (wBf:qA8 K (.ref wC) "__class__" = some (some (.builtin "object.__class__")))
  (wBo:qCe K wC (.type "object")=some true)
  (yX:qAu K qIn "Shift" = some (some (.ref wF)))
  (wDi:qCg K wF=some wDz)
  (wDk:qCh K (.ref wF)=some (.type "type"))
  (wCg:qC3 K wF qL4=true)
  (wC6:qBj K wF=true)
  (wCc:qCl K wF=true)
  (wC7:qA8 K (.ref wF) "__setattr__" = some (some (.builtin "object.__setattr__")))
  (wCi:qA8 K (.ref wF) "__class__" = some (some (.builtin "object.__class__")))
  (wC0:qCe K wF (.type "object")=some true)
  (ycg:qDf K (.builtin "object.__class__") "__get__" = some (some (.builtin "getset_descriptor.__get__")))
  (yct:qFi K (.builtin "object.__class__")=some true)
  (hN:zUL K=true)
  (wAy:qAk K (.ref wD)=true)
  (wB0:qA8 K (.ref wD) "__init__" = some (some (.builtin "ValueError.__init__")))
  (wA3:qA8 K (.ref wB) "__setattr__" = some (some (.builtin "object.__setattr__")))
  (wAc:qDr K wB "letter" = some none)
  (wA5:qA8 K (.ref wB) "letter" = some none)
  (wAg:qAk K (.ref wB)=true)
  (wA1:qA8 K (.ref wB) "__init__" = some (some (.ref f31)))
  (wAb:qBd K (.ref f31)=true)
  (l31:K.lookup f31=some ⟨oc31,od31,.func (qAx "__init__" "NoLetter.__init__" (zB9 zCN) (zAQ zCN) (zA6 zCN) .none kV31 dc31 pm31 an31 cd31 ct31),sl31⟩)
  (c31:qB4 K cd31 "NoLetter.__init__" = true)
  (k31:qAk K (.ref f31)=true)
  (wBn:qCa K wC=true)
  (wBc:qA8 K (.ref wC) "__init__" = some (some (.builtin "object.__init__")))
  (wB8:qAk K (.ref wC)=true)
  (wCx:qCa K wJ=true)
  (wDf:qA8 K (.ref wJ) "__init__" = some (some (.ref f32)))
  (wCv:qBd K (.ref f32)=true)
  (wDg:qAk K (.ref wJ)=true)
  (l32:K.lookup f32=some ⟨oc32,od32,.func (qAx "__init__" "Turn.__init__" (zB9 zGG) (zAQ zGG) (zA6 zGG) .none kV32 dc32 pm32 an32 cd32 ct32),sl32⟩)
  (c32:qB4 K cd32 "Turn.__init__" = true)
  (k32:qAk K (.ref f32)=true)
  (uC:qA8 K (.ref wJ) "letter" = some none)
  (wDc:qCa K wI=true)
  (wDe:qA8 K (.ref wI) "__init__" = some (some (.ref f33)))
  (wD8:qBd K (.ref f33)=true)
  (wCz:qAk K (.ref wI)=true)
  (l33:K.lookup f33=some ⟨oc33,od33,.func (qAx "__init__" "Swap.__init__" (zB9 zGH) (zAQ zGH) (zA6 zGH) .none kV33 dc33 pm33 an33 cd33 ct33),sl33⟩)
  (c33:qB4 K cd33 "Swap.__init__" = true)
  (k33:qAk K (.ref f33)=true)
  (uR:qA8 K (.ref wI) "one" = some none)
  (uH:qA8 K (.ref wI) "other" = some none)
  (wC1:qCa K wF=true)
  (wCb:qA8 K (.ref wF) "__init__" = some (some (.ref f34)))
  (wCd:qBd K (.ref f34)=true)
  (wC4:qAk K (.ref wF)=true)
  (l34:K.lookup f34=some ⟨oc34,od34,.func (qAx "__init__" "Shift.__init__" (zB9 zEQ) (zAQ zEQ) (zA6 zEQ) .none kV34 dc34 pm34 an34 cd34 ct34),sl34⟩)
  (c34:qB4 K cd34 "Shift.__init__" = true)
  (k34:qAk K (.ref f34)=true)
  (uS:qA8 K (.ref wF) "by" = some none)
  (uO:qA8 K (.ref wC) "done" = some (some (.ref f0)))
  (l0:K.lookup f0=some ⟨oc0,od0,.func (qAx "done" "Mirror.done" (zB9 zC7) (zAQ zC7) (zA6 zC7) .none kV0 dc0 pm0 an0 cd0 ct0),sl0⟩)
  (c0:qB4 K cd0 "Mirror.done" = true)
  (k0:qAk K (.ref f0)=true)
  (mf0:qBd K (.ref f0)=true)
  (wW:qA8 K (.ref wC) "done_web" = some (some (.ref f2)))
  (l2:K.lookup f2=some ⟨oc2,od2,.func (qAx "done_web" "Mirror.done_web" (zB9 zBB) (zAQ zBB) (zA6 zBB) .none kV2 dc2 pm2 an2 cd2 ct2),sl2⟩)
  (c2:qB4 K cd2 "Mirror.done_web" = true)
  (k2:qAk K (.ref f2)=true)
  (mf2:qBd K (.ref f2)=true)
  (uX:qA8 K (.ref wF) "done" = some (some (.ref f4)))
  (l4:K.lookup f4=some ⟨oc4,od4,.func (qAx "done" "Shift.done" (zB9 zCH) (zAQ zCH) (zA6 zCH) .none kV4 dc4 pm4 an4 cd4 ct4),sl4⟩)
  (c4:qB4 K cd4 "Shift.done" = true)
  (k4:qAk K (.ref f4)=true)
  (mf4:qBd K (.ref f4)=true)
  (uB:qA8 K (.ref wF) "done_web" = some (some (.ref f5)))
  (l5:K.lookup f5=some ⟨oc5,od5,.func (qAx "done_web" "Shift.done_web" (zB9 zBH) (zAQ zBH) (zA6 zBH) .none kV5 dc5 pm5 an5 cd5 ct5),sl5⟩)
  (c5:qB4 K cd5 "Shift.done_web" = true)
  (k5:qAk K (.ref f5)=true)
  (mf5:qBd K (.ref f5)=true)
  (yN:qA8 K (.ref wI) "done" = some (some (.ref f10)))
  (l10:K.lookup f10=some ⟨oc10,od10,.func (qAx "done" "Swap.done" (zB9 zCQ) (zAQ zCQ) (zA6 zCQ) .none kV10 dc10 pm10 an10 cd10 ct10),sl10⟩)
  (c10:qB4 K cd10 "Swap.done" = true)
  (k10:qAk K (.ref f10)=true)
  (mf10:qBd K (.ref f10)=true)
  (uE:qA8 K (.ref wI) "done_web" = some (some (.ref f14)))
  (l14:K.lookup f14=some ⟨oc14,od14,.func (qAx "done_web" "Swap.done_web" (zB9 zBO) (zAQ zBO) (zA6 zBO) .none kV14 dc14 pm14 an14 cd14 ct14),sl14⟩)
  (c14:qB4 K cd14 "Swap.done_web" = true)
  (k14:qAk K (.ref f14)=true)
  (mf14:qBd K (.ref f14)=true)
  (yS:qA8 K (.ref wJ) "done" = some (some (.ref f15)))
  (l15:K.lookup f15=some ⟨oc15,od15,.func (qAx "done" "Turn.done" (zB9 zCP) (zAQ zCP) (zA6 zCP) .none kV15 dc15 pm15 an15 cd15 ct15),sl15⟩)
  (c15:qB4 K cd15 "Turn.done" = true)
  (k15:qAk K (.ref f15)=true)
  (mf15:qBd K (.ref f15)=true)
  (uF:qA8 K (.ref wJ) "done_web" = some (some (.ref f19)))
  (l19:K.lookup f19=some ⟨oc19,od19,.func (qAx "done_web" "Turn.done_web" (zB9 zBN) (zAQ zBN) (zA6 zBN) .none kV19 dc19 pm19 an19 cd19 ct19),sl19⟩)
  (c19:qB4 K cd19 "Turn.done_web" = true)
  (k19:qAk K (.ref f19)=true)
  (mf19:qBd K (.ref f19)=true)
  (yB:qDf K (.ref a_RoundError) "__getattribute__" = some (some (.builtin "type.__getattribute__")))
  (yI:qH0 K a_RoundError (.type "type")=true)
  (yF:qH1 K (.ref a_RoundError) (.type "type") "__init__" = some (.val (.builtin "ValueError.__init__")))
  :∃fd:qJ0,(∀(s:qIk)(v:Value),qLx s fd ⟨[v],[]⟩ [("_law_script",v)])/\∀base:Heap,K.In base->base.Ns qIn mg->FnOk l.prog w K mg base CX0 7 fa fd ["_law_script"] (zJ2 K):=by
 have e:=hfa.symm.trans (qC1 X G a30);cases e;have D0:=zD5 (x:="done") (qual:="Mirror.done") (st:=zC7) l0 c0 k0;have D2:=zD5 (x:="done_web") (qual:="Mirror.done_web") (st:=zBB) l2 c2 k2;have D4:=zD5 (x:="done") (qual:="Shift.done") (st:=zCH) l4 c4 k4;have D5:=zD5 (x:="done_web") (qual:="Shift.done_web") (st:=zBH) l5 c5 k5;have D10:=zD5 (x:="done") (qual:="Swap.done") (st:=zCQ) l10 c10 k10;have D14:=zD5 (x:="done_web") (qual:="Swap.done_web") (st:=zBO) l14 c14 k14;have D15:=zD5 (x:="done") (qual:="Turn.done") (st:=zCP) l15 c15 k15;have D19:=zD5 (x:="done_web") (qual:="Turn.done_web") (st:=zBN) l19 c19 k19;have wDn:=qB6 X G z0;have wM:=qB6 X G z1;have wCo:=qB6 X G z2;have wN:=qB6 X G z3;have wE:=qB6 X G z4;have wR:=qB6 X G z5;have wE2:=qB6 X G z6;have wE3:=qB6 X G z7;have wL:=qB6 X G z8;have wE5:=qB6 X G z9;have wU:=qB6 X G z10;have wE4:=qB6 X G z11;have wE0:=qB6 X G z12;have wCu:Xc.XIs K a_RoundError:=⟨zN2 yH uW,yA,uZ,yD,yE,ycg,yct,uY⟩;have wDm:Xc.XIs K wB:=⟨zN2 yV yZ,wA4,wA0,uQ,wAa,ycg,yct,wAe⟩;have wDx:Xc.XIs K wD:=⟨zN2 wB1 wAw,wAs,wAt,wAv,wAx,ycg,yct,wAu⟩;have wDy:OIs K a_Change:=⟨⟨wBb,wBg,wBj,wBm⟩,wBa,ycg,yct,wBe⟩;have wE9:OCls K mg "Change" a_Change:=⟨zH8 wAk,qC1 X G wAk,wDy⟩;have wCs:OIs K wJ:=⟨⟨wCy,wD9,wD2,wDd⟩,wD0,ycg,yct,wD5⟩;have wCh:OCls K mg "Turn" wJ:=⟨zH8 wB3,qC1 X G wB3,wCs⟩;have wCj:OIs K wI:=⟨⟨wD4,wD6,wDa,wDb⟩,wCw,ycg,yct,wCt⟩;have wC9:OCls K mg "Swap" wI:=⟨zH8 wAl,qC1 X G wAl,wCj⟩;have wCe:OIs K wC:=⟨⟨wB7,wBl,wB6,wB9⟩,wBf,ycg,yct,wBo⟩;have yY:OCls K mg "Mirror" wC:=⟨zH8 wAj,qC1 X G wAj,wCe⟩;have wBw:OIs K wF:=⟨⟨wCg,wC6,wCc,wC7⟩,wCi,ycg,yct,wC0⟩;have wB5:OCls K mg "Shift" wF:=⟨zH8 yX,qC1 X G yX,wBw⟩;have wAi:ONew K mg "Mirror" wC:=⟨yY,wBn,wBc,wB8⟩;have wDh:XCls K mg "RoundError" a_RoundError:=⟨zH8 uI,qC1 X G uI,wCu⟩;have wDl:XCls K mg "NoLetter" wB:=⟨zH8 uU,qC1 X G uU,wDm⟩;have wDv:XCls K mg "NoCross" wD:=⟨zH8 yM,qC1 X G yM,wDx⟩;have wX:XNo K mg "NoCross" wD:=⟨wDv,wAy,wB0⟩;have wD7:XBase K a_RoundError:=⟨yB,yI,yF,zdI⟩;have q0:(∀c∈(["Shift"]:List Str),∃C,clK K c=some C/\OIs K C/\NoAttr K C "by"):=by
  intro c h;simp only[qAb,qAz,or_false]at h;subst h;exact⟨wF,zH8 yX,wBw,uS⟩
 have q1:(∀c∈(["Swap"]:List Str),∃C,clK K c=some C/\OIs K C/\NoAttr K C "one"):=by
  intro c h;simp only[qAb,qAz,or_false]at h;subst h;exact⟨wI,zH8 wAl,wCj,uR⟩
 have q2:(∀c∈(["Swap"]:List Str),∃C,clK K c=some C/\OIs K C/\NoAttr K C "other"):=by
  intro c h;simp only[qAb,qAz,or_false]at h;subst h;exact⟨wI,zH8 wAl,wCj,uH⟩
 have q3:(∀c∈(["Turn"]:List Str),∃C,clK K c=some C/\OIs K C/\NoAttr K C "letter"):=by
  intro c h;simp only[qAb,qAz,or_false]at h;subst h;exact⟨wJ,zH8 wB3,wCs,uC⟩
 refine⟨qAx "law" "law" (zB9 zJW) (zAQ zJW) (zA6 zJW) .none kV30 dc30 pm30 an30 cd30 ct30,fun s v=>.of_eq rfl,fun base _ _=>?_⟩;have wBz:=zD5 (x:="__init__") (qual:="NoLetter.__init__") (st:=zCN) l31 c31 k31;have yP:XIni l.prog w K mg base "NoLetter" "letter" wB:=⟨wDl,wAg,⟨wA3,zY6 wA7 wA6,wAc,uQ⟩,wA5,f31,_,["self","letter"],wA1,wAb,zH2 wBz wD7 wDh.gm,wBz.binds (fun _ _ _ _ _ _=>uw2 fun _ _=>rfl)⟩
 have wE1:=zD5 (x:="__init__") (qual:="Turn.__init__") (st:=zGG) l32 c32 k32;have wBx:OIni l.prog w K mg base "Turn" ["letter"] wJ:=⟨wCh,by intro f h;simp only[qAb,qAz,or_false]at h;subst h;exact uC,f32,_,["self","letter"],⟨wCx,wDf,wCv,wDg⟩,wD3 wE1,wE1.binds (fun _ _ _ _ _ _=>uw2 fun _ _=>rfl)⟩
 have wE6:=zD5 (x:="__init__") (qual:="Swap.__init__") (st:=zGH) l33 c33 k33;have wBv:OIni l.prog w K mg base "Swap" ["one","other"] wI:=⟨wC9,by intro f h;simp only[qAb,qAz,or_false]at h;rcases h with rfl|rfl;exact uR;exact uH,f33,_,["self","one","other"],⟨wDc,wDe,wD8,wCz⟩,wD1 wE6,wE6.binds (fun _ _ _ _ _ _=>uw3 fun _ _ _=>rfl)⟩
 have wDq:=zD5 (x:="__init__") (qual:="Shift.__init__") (st:=zEQ) l34 c34 k34;have wB2:OIni l.prog w K mg base "Shift" ["by"] wF:=⟨wB5,by intro f h;simp only[qAb,qAz,or_false]at h;subst h;exact uS,f34,_,["self","by"],⟨wC1,wCb,wCd,wC4⟩,wCl wDq,wDq.binds (fun _ _ _ _ _ _=>uw2 fun _ _=>rfl)⟩
 have hlams:=lam2 (zKE D18) (lam1 (zH7 D13));have ok0:=zIV (P:=l.prog) (w:=w) (base:=base) (mg:=mg) D0;have yJ:=zS0 (P:=l.prog) (w:=w) (base:=base) D1 wR;have ok2:=zFX (P:=l.prog) (w:=w) (base:=base) (mg:=mg) D2 yJ;have wBi:=zQ0 (P:=l.prog) (w:=w) (base:=base) D3 wE;have ok4:=zKB (P:=l.prog) (w:=w) (base:=base) (mg:=mg) D4 wBi q0;have ok5:=zGL (P:=l.prog) (w:=w) (base:=base) (mg:=mg) D5 yJ;have wG:=zIT (P:=l.prog) (w:=w) (base:=base) D6 wE yP;have wO:=zLO (P:=l.prog) (w:=w) (base:=base) D7 wG;have wAz:=zNI (P:=l.prog) (w:=w) (base:=base) D8 wO;have wA2:=zLP (P:=l.prog) (w:=w) (base:=base) D9;have ok10:=zLT (P:=l.prog) (w:=w) (base:=base) (mg:=mg) D10 wAz wA2 wO wU wX q1 q2;have wP:=zH3 (P:=l.prog) (w:=w) (base:=base) D11 wE wL hlams;have wBk:=zQ1 (P:=l.prog) (w:=w) (base:=base) D12;have uN:=zHZ (P:=l.prog) (w:=w) (base:=base) D13 wP wBk wE wR wL;have ok14:=zH6 (P:=l.prog) (w:=w) (base:=base) (mg:=mg) D14 uN wG wX q1 q2;have ok15:=zLS (P:=l.prog) (w:=w) (base:=base) (mg:=mg) D15 wO q3;have wBh:=zQ2 (P:=l.prog) (w:=w) (base:=base) D16 wE wL;have wBd:=zQ3 (P:=l.prog) (w:=w) (base:=base) D17 wBh;have wAh:=zLN (P:=l.prog) (w:=w) (base:=base) D18 wP wBd;have ok19:=zH5 (P:=l.prog) (w:=w) (base:=base) (mg:=mg) D19 wG wAh q3;have yT:=zK9 (P:=l.prog) (w:=w) (base:=base) D20 wE wE2 wE3 wL;have yK:=zKA (P:=l.prog) (w:=w) (base:=base) D21 yT wE;have wH:=zI0 (P:=l.prog) (w:=w) (base:=base) D22 wE5 wU;have yG:=zIU (P:=l.prog) (w:=w) (base:=base) D23 wH wM wE wBx wBv wB2 wAi;have wAd:=zLR (P:=l.prog) (w:=w) (base:=base) D24;have wZ:=zFW (P:=l.prog) (w:=w) (base:=base) D25 wE wR wL;have uJ:=zH4 (P:=l.prog) (w:=w) (base:=base) D26 wDn wCo wN wE wR wE0;have yO:=zK8 (P:=l.prog) (w:=w) (base:=base) D27 wM;have yR:=zNJ (P:=l.prog) (w:=w) (base:=base) D28 wH yO wM wCo;have wA8:=zLQ (P:=l.prog) (w:=w) (base:=base) D29 wE wL;have uM:HasM l.prog w K mg base wJ "done_web" 4 ["self","letters","web"] _:=⟨f19,_,wCs.cl,⟨uF,mf19,k19⟩,ok19,D19.binds (fun _ _ _ _ _ _=>uw3 fun _ _ _=>rfl)⟩
 have uL:HasM l.prog w K mg base wI "done_web" 4 ["self","letters","web"] _:=⟨f14,_,wCj.cl,⟨uE,mf14,k14⟩,ok14,D14.binds (fun _ _ _ _ _ _=>uw3 fun _ _ _=>rfl)⟩
 have wY:HasM l.prog w K mg base wC "done_web" 2 ["self","letters","web"] _:=⟨f2,_,wCe.cl,⟨wW,mf2,k2⟩,ok2,D2.binds (fun _ _ _ _ _ _=>uw3 fun _ _ _=>rfl)⟩
 have uD:HasM l.prog w K mg base wF "done_web" 2 ["self","letters","web"] _:=⟨f5,_,wBw.cl,⟨uB,mf5,k5⟩,ok5,D5.binds (fun _ _ _ _ _ _=>uw3 fun _ _ _=>rfl)⟩
 have wA9:HasM l.prog w K mg base wJ "done" 5 ["self","word"] _:=⟨f15,_,wCs.cl,⟨yS,mf15,k15⟩,ok15,D15.binds (fun _ _ _ _ _ _=>uw2 fun _ _=>rfl)⟩
 have wAf:HasM l.prog w K mg base wI "done" 6 ["self","word"] _:=⟨f10,_,wCj.cl,⟨yN,mf10,k10⟩,ok10,D10.binds (fun _ _ _ _ _ _=>uw2 fun _ _=>rfl)⟩
 have yC:HasM l.prog w K mg base wC "done" 1 ["self","word"] _:=⟨f0,_,wCe.cl,⟨uO,mf0,k0⟩,ok0,D0.binds (fun _ _ _ _ _ _=>uw2 fun _ _=>rfl)⟩
 have yQ:HasM l.prog w K mg base wF "done" 2 ["self","word"] _:=⟨f4,_,wBw.cl,⟨uX,mf4,k4⟩,ok4,D4.binds (fun _ _ _ _ _ _=>uw2 fun _ _=>rfl)⟩
 exact zb5 (zD5 (st:=zJW) l30 c30 k30) yK yG wAd wZ wH uJ yR wA8 uM uL wY uD wA9 wAf yC yQ wN wE wR wU wE4 wCh wC9 yY wB5 hN
def walk{l:qEk}{q:qIo}{loose:List Str}{XP:(Str->Option Value)->Heap->Prop}{d:DefRec}{K:qN3->qA0}{as ts:List Addr}{e:∀P,as=(K P).map (·.1)}(hn:l.most=some 63)(hdf:d.params.defaults=[])(hts:∀P∈ts,P∉as)
  (F:∀(w:World)(mg:Str->Option Value)(fa:Addr)(h:Heap),(K w.params).In h->h.Ns qIn mg->mg d.name=some (.ref fa) ->
   TbE (K w.params) ts/\∃fd:qJ0,(∀(s:qIk)(u:Value),qLx s fd ⟨[u],[]⟩ [("_law_script",u)])/\∀base:Heap,(K w.params).In base->base.Ns qIn mg->FnOk l.prog w (K w.params) mg base CX0 7 fa fd ["_law_script"] (zJ2 (K w.params))) :
  qGd q loose XP (qHi K as e ts).says l.row.toRowW d [] (fun f vs=>qGk f vs):=
 L3.walk_ofM (n:=63) (k:=7) (x:="_law_script") hn (by decide) hdf ⟨rfl,by decide,by decide⟩ hts F
end Q55
open PySem PySem.W PyProof.Rows
set_option maxRecDepth 100000 in
set_option maxHeartbeats 0 in
theorem PySem.Challenge.cw_fourway_k55_whole_webs_of_changes_holds : PySem.Challenge.rw_fourway_k55_whole_webs_of_changes.Holds := by
 refine hdZ.2 ?_;dsimp only[hdZ]
 k_fill
 refine Q55.walk (l:=qCn) rfl rfl (by decide) ?F
 case F=>
  intro w mg fa h KX G hmg;refine' L3.with1 (L3.mkS (nm:="turned_at") (st:=Q55.top 14) KX G (by k_is) (by k_is) (by k_is) (by k_is) (by k_is) (by rfl) (by rfl) (by rfl) (by decide)) ?_;intro M0;refine' L3.with1 (L3.mkS (nm:="exchanged_at") (st:=Q55.top 15) KX G (by k_is) (by k_is) (by k_is) (by k_is) (by k_is) (by rfl) (by rfl) (by rfl) (by decide)) ?_;intro M1;have T:=L3.Tb.mk (M0.mk1) (M1.mk1) (L3.mk1_none (by k_is));refine' ⟨⟨_,_,_,T⟩,?_⟩;refine' Q55.all_mk KX G hmg (Q55.mkD KX G ?a1 ?l1 ?c1 ?k1) (Q55.mkD KX G ?a3 ?l3 ?c3 ?k3) (Q55.mkD KX G ?a6 ?l6 ?c6 ?k6) (Q55.mkD KX G ?a7 ?l7 ?c7 ?k7) (Q55.mkD KX G ?a8 ?l8 ?c8 ?k8) (Q55.mkD KX G ?a9 ?l9 ?c9 ?k9) (Q55.mkD KX G ?a11 ?l11 ?c11 ?k11) (Q55.mkD KX G ?a12 ?l12 ?c12 ?k12) (M1.mkr ((T.eq _).trans rfl)) (Q55.mkD KX G ?a16 ?l16 ?c16 ?k16) (Q55.mkD KX G ?a17 ?l17 ?c17 ?k17) (M0.mkr ((T.eq _).trans rfl)) (Q55.mkD KX G ?a20 ?l20 ?c20 ?k20) (Q55.mkD KX G ?a21 ?l21 ?c21 ?k21) (Q55.mkD KX G ?a22 ?l22 ?c22 ?k22) (Q55.mkD KX G ?a23 ?l23 ?c23 ?k23) (Q55.mkD KX G ?a24 ?l24 ?c24 ?k24) (Q55.mkD KX G ?a25 ?l25 ?c25 ?k25) (Q55.mkD KX G ?a26 ?l26 ?c26 ?k26) (Q55.mkD KX G ?a27 ?l27 ?c27 ?k27) (Q55.mkD KX G ?a28 ?l28 ?c28 ?k28) (Q55.mkD KX G ?a29 ?l29 ?c29 ?k29) ?a30 ?l30 ?c30 ?k30 ?z0 ?z1 ?z2 ?z3 ?z4 ?z5 ?z6 ?z7 ?z8 ?z9 ?z10 ?z11 ?z12 ?uI ?yH ?uW ?wAp ?wAm ?wAn ?yA ?uZ ?yD ?yE ?uY ?wAo ?wAq ?uU ?yV ?yZ ?wA7 ?wA6 ?wBu ?wA4 ?wA0 ?uQ ?wAa ?wAe ?wBp ?wBt ?yM ?wB1 ?wAw ?wC3 ?wC5 ?wCa ?wAs ?wAt ?wAv ?wAx ?wAu ?wBy ?wC2 ?wAk ?wCq ?wCn ?wBb ?wBg ?wBj ?wBm ?wBa ?wBe ?wB3 ?wDs ?wDp ?wCy ?wD9 ?wD2 ?wDd ?wD0 ?wD5 ?wAl ?wDt ?wDr ?wD4 ?wD6 ?wDa ?wDb ?wCw ?wCt ?wAj ?wCp ?wCm ?wB7 ?wBl ?wB6 ?wB9 ?wBf ?wBo ?yX ?wDi ?wDk ?wCg ?wC6 ?wCc ?wC7 ?wCi ?wC0 ?ycg ?yct ?hN ?wAy ?wB0 ?wA3 ?wAc ?wA5 ?wAg ?wA1 ?wAb ?l31 ?c31 ?k31 ?wBn ?wBc ?wB8 ?wCx ?wDf ?wCv ?wDg ?l32 ?c32 ?k32 ?uC ?wDc ?wDe ?wD8 ?wCz ?l33 ?c33 ?k33 ?uR ?uH ?wC1 ?wCb ?wCd ?wC4 ?l34 ?c34 ?k34 ?uS ?uO ?l0 ?c0 ?k0 ?mf0 ?wW ?l2 ?c2 ?k2 ?mf2 ?uX ?l4 ?c4 ?k4 ?mf4 ?uB ?l5 ?c5 ?k5 ?mf5 ?yN ?l10 ?c10 ?k10 ?mf10 ?uE ?l14 ?c14 ?k14 ?mf14 ?yS ?l15 ?c15 ?k15 ?mf15 ?uF ?l19 ?c19 ?k19 ?mf19 ?yB ?yI ?yF
  (case hN=>kernel_rfl)
  all_goals try first|k_is|rfl
