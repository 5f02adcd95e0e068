import PyProof.Rows.All
import Wide.All
import OpenK.AllK
import Wide.FinOn
import Lean
import PyProof.EqAt
import PyProof.EqKinds
import PyProof.TupleCall
import PyProof.NeKinds
import KE.KLam
import KE.KNestM
import PySem.Challenge.RW_fourway_k23_what_is_a_table
set_option Elab.async false
set_option linter.all false
set_option maxRecDepth 100000
open Array renaming getElem?_toList->qCn,length_toList->qCw,toList->qEf
open Bool renaming false_ne_true->qA6,and_eq_true->qAl,and_false->qB2,and_true->qBv,eq_iff_iff->qBy,or_eq_true->qCo,false_and->qDn
open Char renaming toNat->qEl
open Classical renaming propDecidable->qA1
open False renaming elim->qA4
open ForInStep renaming yield->qBb
open Int renaming emod_nonneg->qBd,emod_lt_of_pos->qC2,toNat_natCast->qD6
open List renaming getElem?_eq_some_iff->qA2,getD_eq_getElem?_getD->qA3,range->qA5,getElem?_append_left->qA7,getElem?_append_right->qA9,replicate->qAb,size_toArray->qAc,getElem?_set_self->qAe,getElem?_map->qAf,getElem?_eq_getElem->qAh,mem_append_right->qAi,getElem?_set_ne->qAj,mem_cons_of_mem->qAk,map_cons->qAn,mem_cons->qAo,mem_singleton->qAp,mem_map->qAq,mem_range->qAu,getElem?_replicate->qAv,lookup_cons->qAw,all_eq_true->qAx,mem_cons_self->qAy,length_cons->qAz,length_map->qB0,mem_append->qB4,length_append->qBa,length_eraseIdx_of_lt->qBe,mem_or_eq_of_mem_set->qBf,append_nil->qBh,nodup_cons->qBi,getElem_range->qBj,getElem?_cons_succ->qBk,range_succ_eq_map->qBm,eraseIdxIfInBounds_toArray->qBn,eraseIdx_eq_take_drop_succ->qBo,length_replicate->qBq,map_map->qBr,mem_append_left->qBs,mem_of_getElem?->qBt,all_cons->qBu,filterMap_cons->qBw,of_mem_zip->qBz,map_congr_left->qC1,drop_eq_getElem_cons->qC4,any_eq_false->qC7,all_eq_false->qC9,mem_of_mem_eraseIdx->qCa,length_eraseIdx_le->qCe,any_eq_true->qCf,getElem_mem->qCh,drop_of_length_le->qCi,length_singleton->qCm,length_eraseIdx->qCs,mem_filterMap->qCy,append_assoc->qD3,ext_getElem?->qD7,getElem?_set->qD8,filter_cons->qDd,drop_length->qDf,ext_getElem->qDg,getElem_map->qDh,mem_filter->qDi,length_set->qDj,lookup->qDl,drop_zero->qDz,any_cons->qEd,all_map->qEg,cons->qEn
open List.Pairwise renaming nil->qD4
open Nat renaming zero_le->qA8,le_refl->qAa,lt_of_lt_of_le->qAd,le_trans->qAg,ne_of_lt->qAm,lt_irrefl->qB5,succ_le_succ->qB8,le_of_lt->qBp,ne_of_gt->qCl,min_self->qDa,le_add_right->qDe,le_succ->qDk,zero_add->qEi,add_zero->qEj
open Nat.succ renaming inj->qEh
open Ne renaming symm->qD0
open Option renaming getD_some->qBg,isSome_iff_exists->qC8,none->qCx,map_some->qDm
open Option.some renaming inj->qAr,injEq->qEk
open Or renaming inr->qEm
open PyProof.Rows renaming callWith_type1->qBx,callWith_builtin1->qD9,boot_isinstance->qEw,AllBare->qFn,subscriptTail_builtinR->qFp,boot_all->qGo,boot_list->qGx,IntsAre->qH5
open PySem renaming mem_of_lookup->qB6,call->qD5,KeyKind->qEc,Within->qEe,Shared->qEo,Program->qEq,Around->qEs,mainGlobals->qEu,FuncData->qEx,NameKind->qF0,strIterType->qF2,wpAny_passesOwn->qF4,boot_len->qF6,GenState->qF7,bootBuiltins->qF8,builtinsNs->qFa,wpAny_Call_Name_kw->qFg,sysModules->qFj,foldedSetIterable->qFk,behindInMarks->qFo,wpAny_execs_nil->qFt,codeAny->qGb,callerA->qGc,BindsTo->qGe,Paired->qGg,seqIndex_neg->qGi,bindArgs->qGn,sizeLine_eq->qGq,Result->qGr,seqIndex?->qGs,seqIndex_of->qGt,wpAny_Name->qGz,call_meets->qH0
open PySem.Challenge renaming rw_fourway_k23_what_is_a_table->qB3,pw_fourway_k23_what_is_a_table->qC5
open PySem.EqMixed renaming eq_bool_str->qDr,eq_str_bool->qDs,ne_bool_str->qDw,ne_str_bool->qDx,eq_int_str->qE3,eq_str_int->qE5,ne_int_str->qE9,ne_str_int->qEb
open PySem.EqNone renaming eq_none_none->qDo,eq_none_bool->qDp,eq_bool_none->qDq,ne_none_none->qDt,ne_none_bool->qDu,ne_bool_none->qDv,eq_none_int->qE0,eq_none_str->qE1,eq_int_none->qE2,eq_str_none->qE4,ne_none_int->qE6,ne_none_str->qE7,ne_int_none->qE8,ne_str_none->qEa
open PySem.F renaming plainAttrs_list->qB7,slot_list_append->qCb,type_list_append->qCc,slot_list_pop->qCp,type_list_pop->qCq,slot_NoneType_hash->qF1,slot_bool_hash->qF9,entry_list_pop->qGk,slot_list_pop->qGu
open PySem.W renaming Frag->qA0,kia_one->qAs,fnOf->qAt,keepIn->qB1,codeIn->qB9,nsIn->qBc,cellsFrom_some->qBl,OpenLaw->qC0,findIn->qC3,methodObj->qC6,mg_of->qCd,codeHdIn->qCg,instObj->qCk,lookIn->qCt,tabObj->qCu,WalkO->qCz,kitx_list->qD1,kitx_dict->qD2,envX->qDb,plainGet->qDc,kitOne->qDy
open Sum renaming inl->qCj,inr->qCv
open True renaming intro->qCr
set_option compiler.extract_closed false
set_option genSizeOf false
set_option genSizeOfSpec false
set_option bootstrap.genMatcherCode false
set_option maxHeartbeats 4000000
open PySem.Builtin renaming bitXor->qGy
open PySem.Builtin.Int renaming intBits->qF3,intTooBig->qFw
open PySem.Builtin.Range renaming rangeSize->qH4
open PySem.Calls renaming Name_function_global->qFd,callWith_builtin->qFr
open PySem.Heap renaming get?_push_of_some->qEp,lt_size->qEr,get?_push_size->qEv,size_push->qFh,get?_update_other->qFq,get?_none_of_le->qG2,SameBut->qGh
open PySem.NameKind renaming free->qEt,cell->qEy
open PySem.Obj renaming mapSeq->qFy
open PySem.Paired renaming length->qH3
open PySem.PassesOwn renaming never->qFx
open PySem.SeqAt renaming EqAt->qFl,RcNeAt->qGj,RcAt->qH1
open PySem.SeqAt.EqAt renaming of_refs->qF5,same->qFb,int_str->qFe,str_int->qFf,none_bool->qFz,bool_none->qG0,bool_bool->qG1,none_int->qG3,none_str->qG4,bool_int->qG5,bool_str->qG6,int_none->qG7,int_bool->qG8,str_none->qG9,str_bool->qGa
open PySem.SeqAt.RcAt renaming lists_lengths->qFm,list_tuple->qFu,tuple_list->qFv,tuples->qGf,lists->qGl
open PySem.Str renaming ofString_eq_toList->qFs
open PySem.Value renaming bool->qEz,ref->qFc,none->qFi,str->qGd,int->qGp,builtin->qH2,float->qH7
open PySem.W.WData renaming layableAll->qGm,int->qGv,weightAll->qGw,weight->qH6
open PySem.W.WShape renaming has->qH8
noncomputable section
set_option maxHeartbeats 0 in
def hdZ:PSigma fun H:Prop=>H->PySem.Challenge.rw_fourway_k23_what_is_a_table.Holds:=by
 refine' ⟨_,fun x=>?go⟩
 case' go=>w_on;o_law;refine' And.left (b:=_) ⟨?main,And.intro ?hl ?hc⟩
 case main=>
  k_head
  case hw=>w_witness2
 case hc=>exact x
 case hl=>intro w;unfold PySem.W.openEnds PySem.W.fencedOpening PySem.W.topFrom;rewrite[PySem.W.Fast.te10274390034422433532,PySem.W.Fast.te14289696077712309145,PySem.W.Fast.te14082659384304107361,PySem.W.Fast.te4187177175401517315,PySem.W.Fast.te1435165496053646825,PySem.W.Fast.te14364793385576792824];kernel_rfl
namespace L2
open PySem PySem.Spec PyProof.Rows
abbrev Key:=Sum Int Str
noncomputable def zIO:Key->Value->Bool
 |.inl k,v=>Value.isInt k v
 |.inr x,v=>Value.isStrOf x v
noncomputable def keyH(w:World):Key->Int
 |.inl k=>hashInt k
 |.inr x=>hashStr w x
theorem zAU:∀{k:Key}{v:Value},zIO k v=true->(∃i t,k=qCj i/\v=qGp i t)\/(∃x t,k=qCv x/\v=qGd x t)
 |.inl i,v,h=>by
  obtain⟨t,e⟩:=Value.isInt_shape (k:=i) (v:=v) h;exact .inl ⟨i,t,rfl,e⟩
 |.inr x,v,h=>by
  obtain⟨t,e⟩:=Value.isStrOf_shape (x:=x) (v:=v) h;exact .inr ⟨x,t,rfl,e⟩
theorem zH8(a b:Int):decide ((qCj a:Key)=qCj b)=(a==b):=by
 by_cases e:a=b
 ·subst e;simp
 ·have h:¬(qCj a:Key)=qCj b:=fun q=>e (Sum.inl.inj q)
  rw[decide_eq_false h];exact(beq_eq_false_iff_ne.mpr e).symm
theorem zKZ(a b:Str):decide ((qCv a:Key)=qCv b)=decide (a=b):=by
 by_cases e:a=b
 ·subst e;simp
 ·have h:¬(qCv a:Key)=qCv b:=fun q=>e (Sum.inr.inj q)
  rw[decide_eq_false h,decide_eq_false e]
theorem zL1(a:Int)(b:Str):decide ((qCj a:Key)=qCv b)=false:=decide_eq_false (fun q=>nomatch q)
theorem zL0(a:Str)(b:Int):decide ((qCv a:Key)=qCj b)=false:=decide_eq_false (fun q=>nomatch q)
def zGP(prog:qEq)(w:World):qEc prog w Key where
 is:=zIO
 hash:=keyH w
 inj:=fun v a b ha hb=>by
  rcases zAU ha with⟨i,t,rfl,rfl⟩|⟨x,t,rfl,rfl⟩
  ·rcases zAU hb with⟨j,u,rfl,e⟩|⟨y,u,rfl,e⟩
   ·injection e with e1 _;rw[e1]
   ·exact nomatch e
  ·rcases zAU hb with⟨j,u,rfl,e⟩|⟨y,u,rfl,e⟩
   ·exact nomatch e
   ·injection e with e1 _;rw[e1]
 byValue:=fun k v h=>by
  rcases zAU h with⟨i,t,rfl,rfl⟩|⟨x,t,rfl,rfl⟩<;>rfl
 pyHash:=fun hv h=>by
  rcases zAU hv with⟨i,t,rfl,rfl⟩|⟨x,t,rfl,rfl⟩
  ·exact wpAny_pyHash_int h
  ·exact wpAny_pyHash_str h
 eqBool:=fun hu hv h=>by
  rcases zAU hu with⟨i,t,rfl,rfl⟩|⟨x,t,rfl,rfl⟩
  ·rcases zAU hv with⟨j,u,rfl,rfl⟩|⟨y,u,rfl,rfl⟩
   ·rw[zH8]at h;exact wpAny_eqBool_int h
   ·rw[zL1]at h;exact qFe i t y u _ _ _ _ h
  ·rcases zAU hv with⟨j,u,rfl,rfl⟩|⟨y,u,rfl,rfl⟩
   ·rw[zL0]at h;exact qFf x t j u _ _ _ _ h
   ·rw[zKZ]at h;exact wpAny_eqBool_str h
 «strs»:=fun k x t v h=>by
  rcases zAU h with⟨i,u,rfl,e⟩|⟨y,u,rfl,e⟩
  ·exact nomatch e
  ·injection e with e1 _
   subst e1;cases v<;>rfl
abbrev KeyN:=Option Key
noncomputable def zGW(b:Bool):Int:=if b then 1 else 0
def zIN:KeyN->Value->Bool
 |none,.none=>true
 |some (.inl i),.bool b=>i==zGW b
 |some k,v=>zIO k v
 |_,_=>false
def zPP(w:World):KeyN->Int
 |none=>4238894112
 |some k=>keyH w k
theorem zBA:∀{k:KeyN}{v:Value},zIN k v=true->(k=none/\v=qFi)\/(∃b,k=some (qCj (zGW b))/\v=qEz b)\/(∃i t,k=some (qCj i)/\v=qGp i t)\/(∃x t,k=some (qCv x)/\v=qGd x t)
 |none,v,h=>by
  cases v<;>first|exact .inl ⟨rfl,rfl⟩|exact nomatch h
 |some (.inl i),v,h=>by
  by_cases hb:∃b,v=.bool b
  ·obtain⟨b,rfl⟩:=hb;have e:i=zGW b:=by simpa[zIN]using h
   subst e;exact .inr (.inl ⟨b,rfl,rfl⟩)
  ·have h':zIO (.inl i) v=true:=by
    cases v<;>first|exact h|exact absurd ⟨_,rfl⟩ hb
   rcases zAU h' with⟨j,t,e1,e2⟩|⟨x,t,e1,e2⟩
   ·exact .inr (.inr (.inl ⟨j,t,by rw[e1],e2⟩))
   ·cases e1
 |some (.inr x),v,h=>by
  have h':zIO (.inr x) v=true:=by
   cases v<;>exact h
  rcases zAU h' with⟨j,t,e1,e2⟩|⟨y,t,e1,e2⟩
  ·cases e1
  ·exact .inr (.inr (.inr ⟨y,t,by rw[e1],e2⟩))
theorem zIZ{prog:qEq}{w:World}{A:qEs}{E:Value->qEo->Prop}{s:qEo}{Q:Int->qEo->Prop}(h:Q 4238894112 { s with toks:=s.toks+1 }):wpAny (model prog w) A (pyHash .none) Q E s:=by
 unfold pyHash;have hT:s.TypeIs .none "NoneType":=rfl;refine wpAny_bind ?_;rw[cRoomFor,if_neg (by exact qA6)];refine wpAny_pure ?_;refine wpAny_bind (wpAny_specialOf hT qF1.lookup ?_);show wpAny _ _ (if(some (qH2 "NoneType.__hash__")==some qFi)=true then _ else _) Q E s;rw[if_neg (by rw[beq_builtin_none];exact qA6)];refine wpAny_bind (wpAny_specialOf hT qF1.lookup ?_);show wpAny _ _ (callSpecialIfBoundUnlessNone? .none "__hash__" _ >>= _) Q E s;refine wpAny_bind (wpAny_callSpecialIfBoundUnlessNone?_slot hT qF1
  (wpAny_call_entry qF1 hT F.entry_NoneType_hash
   (show wpAny _ _ (do ret (<- mkInt 0xFCA86420)) _ _ s from wpAny_ret_mkInt ?_) (F.args_NoneType_hash_1 _)))
 exact wpAny_pure h
theorem zJ0{prog:qEq}{w:World}{A:qEs}{E:Value->qEo->Prop}{s:qEo}{b:Bool}{Q:Int->qEo->Prop}(h:Q (hashInt (zGW b)) { s with toks:=s.toks+1 }):wpAny (model prog w) A (pyHash (.bool b)) Q E s:=by
 unfold pyHash;have hT:s.TypeIs (.bool b) "bool":=rfl;refine wpAny_bind ?_;rw[cRoomFor,if_neg (by exact qA6)];refine wpAny_pure ?_;refine wpAny_bind (wpAny_specialOf hT qF9.lookup ?_);show wpAny _ _ (if(some (qH2 "int.__hash__")==some qFi)=true then _ else _) Q E s;rw[if_neg (by rw[beq_builtin_none];exact qA6)];refine wpAny_bind (wpAny_specialOf hT qF9.lookup ?_);show wpAny _ _ (callSpecialIfBoundUnlessNone? (.bool b) "__hash__" _ >>= _) Q E s;refine wpAny_bind (wpAny_callSpecialIfBoundUnlessNone?_slot hT qF9
  (wpAny_call_entry qF9 hT entry_int_hash
   (show wpAny _ _ (do ret (<- mkInt (rawHash (zGW b)))) _ _ s by cases b<;>exact wpAny_ret_mkInt (wpAny_pure h)) (args_int_hash _)))
theorem eqN(a b:KeyN):decide (a=b)=match a,b with|none,none=>true|some x,some y=>decide (x=y)|_,_=>false:=by
 cases a<;>cases b<;>simp
def mixN(prog:qEq)(w:World):qEc prog w KeyN where
 is:=zIN
 hash:=zPP w
 inj:=fun v a b ha hb=>by
  rcases zBA ha with⟨rfl,rfl⟩|⟨x,rfl,rfl⟩|⟨i,t,rfl,rfl⟩|⟨x,t,rfl,rfl⟩<;>rcases zBA hb with⟨rfl,e⟩|⟨y,rfl,e⟩|⟨j,u,rfl,e⟩|⟨y,u,rfl,e⟩<;>first|rfl|(cases e;done)|(cases e;rfl)
 byValue:=fun k v h=>by
  rcases zBA h with⟨rfl,rfl⟩|⟨x,rfl,rfl⟩|⟨i,t,rfl,rfl⟩|⟨x,t,rfl,rfl⟩<;>rfl
 pyHash:=fun hv h=>by
  rcases zBA hv with⟨rfl,rfl⟩|⟨x,rfl,rfl⟩|⟨i,t,rfl,rfl⟩|⟨x,t,rfl,rfl⟩
  ·exact zIZ h
  ·exact zJ0 h
  ·exact wpAny_pyHash_int h
  ·exact wpAny_pyHash_str h
 eqBool:=fun hu hv h=>by
  rw[eqN]at h;rcases zBA hu with⟨rfl,rfl⟩|⟨x,rfl,rfl⟩|⟨i,t,rfl,rfl⟩|⟨x,t,rfl,rfl⟩<;>rcases zBA hv with⟨rfl,rfl⟩|⟨y,rfl,rfl⟩|⟨j,u,rfl,rfl⟩|⟨y,u,rfl,rfl⟩
  ·exact qFb _ _ _ _ _ h
  ·exact qFz _ _ _ _ _ h
  ·exact qG3 _ _ _ _ _ _ h
  ·exact qG4 _ _ _ _ _ _ h
  ·exact qG0 _ _ _ _ _ h
  ·refine qG1 _ _ _ _ _ _ ?_;cases x<;>cases y<;>exact h
  ·refine qG5 _ _ _ _ _ _ _ ?_;dsimp only at h;rw[zH8]at h;exact h
  ·exact qG6 _ _ _ _ _ _ _ h
  ·exact qG7 _ _ _ _ _ _ h
  ·refine qG8 _ _ _ _ _ _ _ ?_;dsimp only at h;rw[zH8]at h;exact h
  ·dsimp only at h;rw[zH8]at h;exact wpAny_eqBool_int h
  ·dsimp only at h;rw[zL1]at h;exact qFe _ _ _ _ _ _ _ _ h
  ·exact qG9 _ _ _ _ _ _ h
  ·exact qGa _ _ _ _ _ _ _ h
  ·dsimp only at h;rw[zL0]at h;exact qFf _ _ _ _ _ _ _ _ h
  ·dsimp only at h;rw[zKZ]at h;exact wpAny_eqBool_str h
 «strs»:=fun k x t v h=>by
  rcases zBA h with⟨rfl,e⟩|⟨x,rfl,e⟩|⟨i,u,rfl,e⟩|⟨y,u,rfl,e⟩
  ·exact nomatch e
  ·exact nomatch e
  ·exact nomatch e
  ·injection e with e1 _
   subst e1;cases v<;>rfl
inductive V where
 |non|bl (b:Bool)|int (i:Int)|str (x:Str)|byt (b:Array UInt8)|flt (b:UInt64)|ref (a:Addr)|ty (n:String)
 deriving DecidableEq
noncomputable def RelV:V->Value->Prop
 |.non,u=>u=qFi
 |.bl b,u=>u=qEz b
 |.int i,u=>∃t,u=qGp i t
 |.str x,u=>∃t,u=qGd x t
 |.byt b,u=>∃t,u=Value.bytes b t
 |.flt b,u=>∃t,u=qH7 b t
 |.ref a,u=>u=qFc a
 |.ty n,u=>u=Value.type n
abbrev Vals:List V->List Value->Prop:=qGg RelV
theorem Vals.length{xs:List V}{us:List Value}(r:Vals xs us):xs.length=us.length:=qH3 r
theorem Vals.get:∀{xs:List V}{us:List Value}{i:Nat}{x:V},Vals xs us->xs[i]?=some x->∃u,us[i]?=some u/\RelV x u
 |_,_,_,_,.nil,e=>by simp at e
 |_,_,0,_,.cons r _,e=>by simp at e;subst e;exact⟨_,rfl,r⟩
 |_,_,i+1,x,.cons _ t,e=>by
  obtain⟨u,h1,h2⟩:=Vals.get (i:=i) (x:=x) t (by simpa using e);exact⟨u,by simpa using h1,h2⟩
theorem Vals.set{x:V}{u:Value}(r:RelV x u):∀{xs:List V}{us:List Value}(i:Nat),Vals xs us->Vals (xs.set i x) (us.set i u)
 |_,_,_,.nil=>.nil
 |_,_,0,.cons _ t=>.cons r t
 |_,_,i+1,.cons q t=>.cons q (Vals.set r i t)
theorem Vals.append:∀{xs ys:List V}{us ws:List Value},Vals xs us->Vals ys ws->Vals (xs++ys) (us++ws)
 |_,_,_,_,.nil,s=>s
 |_,_,_,_,.cons r t,s=>.cons r (Vals.append t s)
theorem Vals.take:∀{xs:List V}{us:List Value}(n:Nat),Vals xs us->Vals (xs.take n) (us.take n)
 |_,_,0,_=>.nil
 |_,_,_+1,.nil=>.nil
 |_,_,n+1,.cons r t=>.cons r (Vals.take n t)
theorem Vals.drop:∀{xs:List V}{us:List Value}(n:Nat),Vals xs us->Vals (xs.drop n) (us.drop n)
 |_,_,0,r=>r
 |_,_,_+1,.nil=>.nil
 |_,_,n+1,.cons _ t=>Vals.drop n t
def RelO:Option V->Option Value->Prop
 |some v,some u=>RelV v u
 |none,none=>True
 |_,_=>False
def KV{κ:Type}:List (κ×V)->List (κ×Value)->Prop:=qGg fun(p:κ×V)(q:κ×Value)=>p.1=q.1/\RelV p.2 q.2
noncomputable def kV:Key->V
 |.inl i=>.int i
 |.inr x=>.str x
def vN:V->Option KeyN
 |.non=>some none
 |.bl b=>some (some (.inl (zGW b)))
 |.int i=>some (some (.inl i))
 |.str x=>some (some (.inr x))
 |_=>none
abbrev KsOf:List V->List KeyN->Prop:=qGg fun v k=>vN v=some k
inductive HO where
 |lst (xs:List V)
 |tup (xs:List V)
 |dK (kvs:List (Key×V))|dT (T:Addr->Prop) (e0:Nat) (kvs:List (List KeyN×V))
 |set (S:Int->Bool) (n:Nat)
 |ins (C dx:Addr) (fs:List (Str×V))
 |own (x:Addr)
 |xd (fs:List (Str×V))
 |met (f x:Addr)
 |rng (lo hi:Int)
 |frz (o:Obj) (u:HO)
 |tbl (ps:Array Value)
 |lam (q:Str)
 |fn (o:Obj) (q:Str)
 |ext (φ:Heap->Prop)
abbrev Hp:=Addr->Option HO
noncomputable def upd(H:Hp)(a:Addr)(o:HO):Hp:=fun b=>if b=a then some o else H b
theorem zAQ{H:Hp}{a:Addr}{o:HO}:upd H a o a=some o:=by unfold upd;rw[if_pos rfl]
theorem zAL{H:Hp}{a b:Addr}{o:HO}(h:b≠a):upd H a o b=H b:=by unfold upd;rw[if_neg h]
theorem zJX{H:Hp}{a b:Addr}{o u:HO}(h:H a=some o)(h':H b=some u)(d:o≠u):a≠b:=by
 intro e;subst e;rw[h]at h';exact d (qAr h')
theorem zAN{H:Hp}{a b:Addr}{o:HO}(h:H a=some o)(h':H b=none):a≠b:=by
 intro e;subst e;rw[h]at h';cases h'
def TupK(H:Hp)(b:Addr)(k:List KeyN):Prop:=∃vs,H b=some (.tup vs)/\KsOf vs k
theorem TupK.keeps{H H':Hp}{b:Addr}{k:List KeyN}(x:TupK H b k)(ht:∀b xs,H b=some (.tup xs)->H' b=some (.tup xs)):TupK H' b k:=let⟨vs,e,r⟩:=x;⟨vs,ht _ _ e,r⟩
def CodR(o:Obj)(q:Str):Prop:=∃vs t,o.data=.fields vs/\vs[1]?=some (.str q t)
section
variable(P:qEq)(w:World)
def ObjOk(H:Hp)(h:Heap)(a:Addr):HO->Prop
 |.lst xs=>xs.length<=sizeLine/\∃(its:List Value)(n:Nat),Vals xs its/\h.get? a=some { cls:=.type "list",data:=.seq its.toArray n }
 |.tup xs=>xs.length<=sizeLine/\∃its:List Value,Vals xs its/\IsTup h a its.toArray
 |.dK kvs=>kvs.length<=sizeLine/\(a==qFj)=false/\∃vs,KV kvs vs/\h.DictOf (zGP P w) a vs
 |.dT T e0 kvs=>kvs.length<=sizeLine/\(a==qFj)=false/\∃xs:List (List KeyN×Addr×Value),
   qGg (fun(p:List KeyN×V)(q:List KeyN×Addr×Value)=>p.1=q.1/\(TupK H q.2.1 p.1/\T q.2.1)/\RelV p.2 q.2.2) kvs xs /\
   ∃o es ep,h.get? a=some o/\o.ExactDict/\o.data=.dict es ep/\es.toList=xs.map (entryOfKey (tupleKind (mixN P w)))/\(xs.map (·.1)).Nodup/\ep=e0
 |.set S n=>h.SetOf (intKind P w) a S n
 |.ins C dx fs=>H dx=some (.own a)/\fs.length<=1000/\dx≠a/\h.get? a=some (qCk C dx) /\
   ∃mA,h.Ns1 dx mA/\(∀f,RelO (fs.lookup f) (mA f))/\qEe mA (fs.map (·.1))
 |.own _=>∃o,h.get? a=some o
 |.xd fs=>∃mA,h.Ns1 a mA/\∀f,RelO (fs.lookup f) (mA f)
 |.rng lo hi=>∃t u v,h.get? a=some { cls:=.type "range",data:=.fields #[.int lo t,.int hi u,.int 1 v] }
 |.frz o u=>h.get? a=some o/\ObjOk H h a u
 |.tbl ps=>h.get? a=some { cls:=.none,data:=.fields ps }
 |.lam q=>∃ps:Array Value,h.get? a=some { cls:=.none,data:=.fields ps }/\TriplesOk ps.toList/\∀pos cv,codeAmong pos ps.toList=some cv->∃c oc u,cv=.ref c/\H c=some (.frz oc u)/\CodR oc q
 |.fn o q=>h.get? a=some o/\∃fd c oc u,o.data=.func fd/\fd.code=.ref c/\H c=some (.frz oc u)/\CodR oc q
 |.met f x=>h.get? a=some (qC6 (.ref f) (.ref x))
 |.ext φ=>φ h/\(∃o,h.get? a=some o)/\∀h1 h2:Heap,φ h1->(∀o,h1.get? a=some o->h2.get? a=some o)->φ h2
def HOk(H:Hp)(h:Heap):Prop:=∀a o,H a=some o->ObjOk P w H h a o
end
section
variable{P:qEq}{w:World}{H H':Hp}{h h':Heap}{a:Addr}{o:HO}
theorem ObjOk.lt(x:ObjOk P w H h a o):a<h.objs.size:=by
 cases o with
 |lst xs=>obtain⟨_,_,_,_,e⟩:=x;exact qEr e
 |tup xs=>obtain⟨_,_,_,p⟩:=x;exact p.lt
 |dK kvs=>obtain⟨_,_,_,_,o,_,_,e,_⟩:=x;exact qEr e
 |dT T e0 kvs=>obtain⟨_,_,_,_,o,_,_,e,_⟩:=x;exact qEr e
 |set S n=>obtain⟨o,_,_,_,e,_⟩:=x;exact qEr e
 |ins C dx fs=>obtain⟨_,_,_,e,_⟩:=x;exact qEr e
 |own y=>obtain⟨_,e⟩:=x;exact qEr e
 |xd fs=>obtain⟨_,⟨_,_,_,e,_⟩,_⟩:=x;exact qEr e
 |rng lo hi=>obtain⟨_,_,_,e⟩:=x;exact qEr e
 |frz ob u=>obtain⟨e,_⟩:=x;exact qEr e
 |tbl ps=>exact qEr (show h.get? a=some _ from x)
 |lam q=>obtain⟨_,e,_⟩:=x;exact qEr e
 |fn ob q=>obtain⟨e,_⟩:=x;exact qEr e
 |met f y=>exact qEr (show h.get? a=some _ from x)
 |ext φ=>obtain⟨_,⟨_,e⟩,_⟩:=x;exact qEr e
theorem qGg.mapP{α β:Type}{F G:α->β->Prop}:∀{l₁:List α}{l₂:List β},qGg F l₁ l₂->(∀a b,F a b->G a b)->qGg G l₁ l₂
 |_,_,.nil,_=>.nil
 |_,_,.cons r t,f=>.cons (f _ _ r) (qGg.mapP t f)
theorem ObjOk.stay(x:ObjOk P w H h a o)(k:∀b u,(b=a\/H b=some (.own a))->h.get? b=some u->h'.get? b=some u)
  (ho:∀b,H b=some (.own a)->H' b=some (.own a)) (ht:∀b xs,H b=some (.tup xs)->H' b=some (.tup xs)) (hf:∀b o u,H b=some (.frz o u)->(∃vs,o.data=.fields vs)->H' b=some (.frz o u)):ObjOk P w H' h' a o:=by
 induction o with
 |lst xs=>obtain⟨z,its,n,r,e⟩:=x;exact⟨z,its,n,r,k _ _ (.inl rfl) e⟩
 |tup xs=>obtain⟨z,its,r,ob,e,c⟩:=x;exact⟨z,its,r,ob,k _ _ (.inl rfl) e,c⟩
 |dK kvs=>obtain⟨z,y,vs,r,ob,es,ep,e,c⟩:=x;exact⟨z,y,vs,r,ob,es,ep,k _ _ (.inl rfl) e,c⟩
 |dT T e0 kvs=>
  obtain⟨z,y,xs,r,ob,es,ep,e,c⟩:=x;exact⟨z,y,xs,qGg.mapP r fun p q z=>⟨z.1,⟨z.2.1.1.keeps ht,z.2.1.2⟩,z.2.2⟩,ob,es,ep,k _ _ (.inl rfl) e,c⟩
 |set S n=>obtain⟨ob,es,ep,t,e,c⟩:=x;exact⟨ob,es,ep,t,k _ _ (.inl rfl) e,c⟩
 |ins C dx fs=>
  obtain⟨d,z,ne,e,mA,⟨od,es,ep,e2,c⟩,r⟩:=x;exact⟨ho _ d,z,ne,k _ _ (.inl rfl) e,mA,⟨od,es,ep,k _ _ (.inr d) e2,c⟩,r⟩
 |own y=>obtain⟨ob,e⟩:=x;exact⟨ob,k _ _ (.inl rfl) e⟩
 |xd fs=>obtain⟨mA,⟨od,es,ep,e,c⟩,r⟩:=x;exact⟨mA,⟨od,es,ep,k _ _ (.inl rfl) e,c⟩,r⟩
 |rng lo hi=>obtain⟨t,u,v,e⟩:=x;exact⟨t,u,v,k _ _ (.inl rfl) e⟩
 |frz ob u ih=>obtain⟨e,q⟩:=x;exact⟨k _ _ (.inl rfl) e,ih q⟩
 |tbl ps=>
  have e:h.get? a=some { cls:=.none,data:=.fields ps }:=x;show h'.get? a=some { cls:=.none,data:=.fields ps };exact k a _ (.inl rfl) e
 |lam q=>
  obtain⟨ps,e,t,r⟩:=x;exact⟨ps,k _ _ (.inl rfl) e,t,fun pos cv z=>let⟨c,oc,u,e1,e2,e3⟩:=r pos cv z;⟨c,oc,u,e1,hf _ _ _ e2 (let⟨vs,_,d,_⟩:=e3;⟨vs,d⟩),e3⟩⟩
 |fn ob q=>
  obtain⟨e,fd,c,oc,u,e1,e2,e3,e4⟩:=x;exact⟨k _ _ (.inl rfl) e,fd,c,oc,u,e1,e2,hf _ _ _ e3 (let⟨vs,_,d,_⟩:=e4;⟨vs,d⟩),e4⟩
 |met f y=>
  have e:h.get? a=some (qC6 (.ref f) (.ref y)):=x;show h'.get? a=some (qC6 (.ref f) (.ref y));exact k a _ (.inl rfl) e
 |ext φ=>obtain⟨p,⟨o,e⟩,st⟩:=x;exact⟨st _ _ p fun o q=>k _ _ (.inl rfl) q,⟨o,k _ _ (.inl rfl) e⟩,st⟩
theorem HOk.lt(x:HOk P w H h)(e:H a=some o):a<h.objs.size:=(x a o e).lt
theorem HOk.fresh(x:HOk P w H h)(e:h.objs.size<=a):H a=none:=by
 cases q:H a with
 |none=>rfl
 |some u=>exact absurd (qAd (x.lt q) e) (qB5 _)
theorem HOk.kept(x:HOk P w H h)(k:∀b u,h.get? b=some u->h'.get? b=some u):HOk P w H h':=fun a o e=>
 (x a o e).stay (fun b u _ q=>k b u q) (fun _ q=>q) (fun _ _ q=>q) fun _ _ _ q _=>q
theorem HOk.laid(x:HOk P w H h)(k:∀b u,h.get? b=some u->h'.get? b=some u)(hp:h.objs.size<=a)(new:ObjOk P w (upd H a o) h' a o):HOk P w (upd H a o) h':=fun b u e=>by
 have hn:=x.fresh hp;by_cases hb:b=a
 ·subst hb;rw[zAQ]at e;cases e;exact new
 ·rw[zAL hb]at e;exact(x b u e).stay (fun c v _ q=>k c v q) (fun c q=>by rw[zAL (zAN q hn)];exact q) (fun c xs q=>by rw[zAL (zAN q hn)];exact q) fun c _ _ q _=>by rw[zAL (zAN q hn)];exact q
end
def Rd(H:Hp)(a:Addr)(u:HO):Prop:=H a=some u\/∃o,H a=some (.frz o u)
theorem Rd.ok{P:qEq}{w:World}{H:Hp}{h:Heap}{a:Addr}{u:HO}(r:Rd H a u)(x:HOk P w H h):ObjOk P w H h a u:=by
 rcases r with r|⟨o,r⟩
 ·exact x a u r
 ·obtain⟨_,q⟩:=x a _ r;exact q
noncomputable def Mut:Option HO->Prop
 |some (.lst _)=>True
 |some (.dK _)=>True
 |some (.dT _ _ _)=>True
 |some (.set _ _)=>True
 |some (.ins _ _ _)=>True
 |some (.ext _)=>True
 |some (.lam _)=>True
 |_=>False
section
variable{P:qEq}{w:World}{H:Hp}{h h':Heap}{x e:Addr}{o':HO}
theorem HOk.write(ok:HOk P w H h)(mu:Mut (H x))(he:e=x\/H e=some (.own x))(k:∀b u,b≠e->h.get? b=some u->h'.get? b=some u)(heo:∃u,h'.get? e=some u)
  (new:ObjOk P w (upd H x o') h' x o'):HOk P w (upd H x o') h':=fun b u q=>by
 have nown:∀c y,H c=some (.own y)->c≠x:=fun c y r z=>by subst z;rw[r]at mu;exact mu
 have ntup:∀c xs,H c=some (.tup xs)->c≠x:=fun c xs r z=>by subst z;rw[r]at mu;exact mu
 have nfrz:∀c o v,H c=some (.frz o v)->c≠x:=fun c o v r z=>by subst z;rw[r]at mu;exact mu
 by_cases hb:b=x
 ·subst hb;rw[zAQ]at q;cases q;exact new
 ·rw[zAL hb]at q
  by_cases hbe:b=e
  ·have q':H b=some (.own x):=by
    rcases he with z|z
    ·exact absurd (hbe.trans z) hb
    ·rw[hbe];exact z
   rw[q]at q';cases q';obtain⟨v,hv⟩:=heo;exact⟨v,by rw[hbe];exact hv⟩
  ·refine(ok b u q).stay (fun c v hc r=>k c v ?_ r) (fun c r=>by rw[zAL (nown c b r)];exact r) (fun c xs r=>by rw[zAL (ntup c xs r)];exact r) fun c o v r _=>by rw[zAL (nfrz c o v r)];exact r
   rcases hc with rfl|hc
   ·exact hbe
   ·rintro rfl
    rcases he with z|z
    ·exact nown c b hc z
    ·rw[hc]at z;cases z;exact hb rfl
end
structure Un(fs ex:List Addr)(H H':Hp)(h h':Heap):Prop where
 keep:∀b o,h.get? b=some o->H b=none->b∉fs->b∉ex->h'.get? b=some o
 slot:∀b o,h.get? b=some o->H b=none->b∈fs->b∉ex->∃sl,h'.get? b=some { o with slots:=sl }
 free:∀b o,h.get? b=some o->H b=none->b∉ex->H' b=none
 there:∀b o,h.get? b=some o->b∉ex->∃o',h'.get? b=some o'
 tups:∀b xs,H b=some (.tup xs)->H' b=some (.tup xs)
 frzs:∀b o u,H b=some (.frz o u)->H' b=some (.frz o u)
 tbls:∀b ps,H b=some (.tbl ps)->∃more,H' b=some (.tbl (ps++more))
section
variable{fs fs' ex ex':List Addr}{H H1 H2:Hp}{h h1 h2 h':Heap}{a x e:Addr}{o:HO}
theorem Un.any(u:Un fs ex H H1 h h1){b:Addr}{ob:Obj}(q:h.get? b=some ob)(n:H b=none)(hx:b∉ex):∃sl,h1.get? b=some { ob with slots:=sl }:=by
 by_cases hb:b∈fs
 ·exact u.slot b ob q n hb hx
 ·exact⟨ob.slots,u.keep b ob q n hb hx⟩
theorem Un.kept(k:∀b u,h.get? b=some u->h'.get? b=some u):Un fs ex H H h h':=
 ⟨fun b ob q _ _ _=>k b ob q,fun b ob q _ _ _=>⟨ob.slots,k b ob q⟩,fun _ _ _ n _=>n,fun b ob q _=>⟨ob,k b ob q⟩,fun _ _ q=>q,fun _ _ _ q=>q,fun _ ps q=>⟨#[],by rw[q];simp⟩⟩
theorem Un.refl:Un fs ex H H h h:=Un.kept fun _ _ q=>q
theorem Un.laid(k:∀b u,h.get? b=some u->h'.get? b=some u)(hp:h.objs.size<=a)(hn:H a=none):Un fs ex H (upd H a o) h h' where
 keep:=fun b u q _ _ _=>k b u q
 slot:=fun b u q _ _ _=>⟨u.slots,k b u q⟩
 free:=fun b u q n _=>by rw[zAL (qAm (qAd (qEr q) hp))];exact n
 there:=fun b u q _=>⟨u,k b u q⟩
 tups:=fun b xs q=>by rw[zAL (zAN q hn)];exact q
 frzs:=fun b u xs q=>by rw[zAL (zAN q hn)];exact q
 tbls:=fun b ps q=>⟨#[],by rw[zAL (zAN q hn),q];simp⟩
theorem Un.write(mu:Mut (H x))(he:e=x\/H e=some (.own x))(k:∀b u,b≠e->h.get? b=some u->h'.get? b=some u)(heo:∃u,h'.get? e=some u):Un fs ex H (upd H x o) h h':=by
 have hx:∀b,H b=none->b≠x:=fun b n z=>by subst z;rw[n]at mu;exact mu
 have hb:∀b,H b=none->b≠e:=fun b n z=>by
  subst z;rcases he with r|r
  ·exact hx b n r
  ·rw[n]at r;cases r
 have hm:∀b u,H b=some u->¬Mut (some u)->b≠x:=fun b u q nm z=>by subst z;rw[q]at mu;exact nm mu
 refine⟨fun b u q n _ _=>k b u (hb b n) q,fun b u q n _ _=>⟨u.slots,k b u (hb b n) q⟩,fun b u q n _=>by rw[zAL (hx b n)];exact n,fun b u q _=>?_,
  fun b xs q=>by rw[zAL (hm b _ q fun z=>z)];exact q,fun b u xs q=>by rw[zAL (hm b _ q fun z=>z)];exact q,fun b ps q=>⟨#[],by rw[zAL (hm b _ q fun z=>z),q];simp⟩⟩
 by_cases hbe:b=e
 ·subst hbe;exact heo
 ·exact⟨u,k b u hbe q⟩
end
noncomputable def trk(h:Heap)(H:Hp):List Addr:=(qA5 h.objs.size).filter fun a=>(H a).isSome
def hidT(h:Heap)(H:Hp):Heap:=PySem.W.hideAll h (trk h H)
theorem zIY(h:Heap)(H:Hp):(hidT h H).objs.size=h.objs.size:=PySem.W.hideAll_size _ _
theorem zK5{h:Heap}{H:Hp}{b:Addr}{o:Obj}(e:h.get? b=some o)(n:H b=none):(hidT h H).get? b=some o:=
 PySem.W.hideAll_get _ e fun hm=>by
  have q:(H b).isSome=true:=(qDi.mp hm).2;rw[n]at q;simp at q
theorem zM3{h:Heap}{H:Hp}{b:Addr}{o:Obj}(e:(hidT h H).get? b=some o):h.get? b=some o/\H b=none:=by
 have e':h.get? b=some o:=PySem.W.of_hideAll (trk h H) e;refine⟨e',?_⟩;cases q:H b with
 |none=>rfl
 |some x=>
  have hm:b∈trk h H:=qDi.mpr ⟨qAu.mpr (qEr e'),by simp[q]⟩;have z:(hidT h H).get? b=none:=PySem.W.hideAll_none (trk h H) hm;rw[z]at e;cases e
noncomputable def zMW(g h:Heap)(L:Addr):List (Addr×Obj):=(qA5 h.objs.size).filterMap fun a=>if a=L\/(g.get? a).isSome=true then none else(h.get? a).map fun o=>(a,o)
def rest(g h:Heap)(L d:Addr):List (Addr×Obj):=(zMW g h L).filter fun p=>decide (p.1≠d)
structure Mod(K:qA0)(mg:Str->Option Value)(base:Heap):Prop where
 kin:K.In base
 glob:base.Ns qEu mg
 blt:∃mb,base.Ns qFa mb/\∀x:Str,x ≠ "__name__" -> mb x=qF8 x
 nolimit:base.NoLimit
 bm:∃bm ob,mg "__builtins__" = some (.ref bm)/\bm≠qFa/\base.get? bm=some ob/\ob.cls=.type "module" /\ ob.dict=some qFa/\ob.data=.plain
structure Cx where
 prog:qEq
 w:World
 K:qA0
 mg:Str->Option Value
 base:Heap
 A:qEs
 N:List Str
 s₀:qEo
 H₀:Hp
 env:Env
 outer:List Env
 stack:List Env
 ex:List Addr
 fn:Str->Bool
 calm:Bool
 pn:List (Addr×Obj)
 xe:Value->qEo->Prop
noncomputable def frs(l:List Env):List Addr:=l.filterMap (·.frame)
abbrev Cx.fs(X:Cx):List Addr:=frs X.outer
def Vis(sc:Scope)(x:Str):Prop:=sc.names.lookup x=some .local\/sc.names.lookup x=some .cell\/sc.names.lookup x=some .free
def Loc(sc:Scope)(x:Str):Prop:=sc.names.lookup x=some .local\/sc.names.lookup x=some .cell
def Look(env:Env)(h:Heap)(m:Str->Option Value)(x:Str)(u:Value):Prop:=
 (env.kindOf x=some .local/\m x=some u)\/((env.kindOf x=some .cell\/env.kindOf x=some .free)/\∃c,env.cells.lookup x=some c/\h.IsCell c (some u))
structure Cx.Ok(X:Cx):Prop where
 mod:Mod X.K X.mg X.base
 kind:X.env.scope.kind=.function
 glob:X.env.globals=qEu
 blt:X.env.builtins=qFa
 above:X.s₀.heap.objs.size<=X.env.locals
 inj:∀x y c,X.env.cells.lookup x=some c->X.env.cells.lookup y=some c->x=y
 has:∀x,(X.env.kindOf x=some .cell\/X.env.kindOf x=some .free)->∃c,X.env.cells.lookup x=some c
 cab:∀x c,X.fn x=true->X.env.cells.lookup x=some c->X.s₀.heap.objs.size<=c
 hd:X.calm=true->X.A.handled=none
 frames:X.A.frames=some X.stack
 stk:X.stack=X.outer\/(X.stack=X.env::X.outer/\X.env.frame=some X.env.locals)
 exf:∀b∈X.ex,b≠X.env.locals/\∀x c,X.env.cells.lookup x=some c->c≠b
 bs:∀b o,X.base.get? b=some o->X.s₀.heap.get? b=some o/\X.H₀ b=none
 bsz:X.base.objs.size<=X.s₀.heap.objs.size
 noex:∀b o,X.base.get? b=some o->b∉X.ex
 exfs:∀b∈X.ex,b∉X.fs
 funs:X.s₀.heap.FunFrames X.base X.outer
 frf:∀b∈X.fs,X.H₀ b=none
structure Inv(X:Cx)(pins:List (Addr×Obj))(σ:List (Option V))(H:Hp)(s:qEo):Prop where
 ok:X.Ok
 os:s.os=X.s₀.os
 bare:qFn s.gens
 base:Un X.fs X.ex X.H₀ H X.s₀.heap s.heap
 loc:∃m,s.heap.Ns X.env.locals m/\∀(i:Nat)(x:Str)(v:V),X.N[i]?=some x->σ[i]?=some (some v)->Vis X.env.scope x->∃u,RelV v u/\Look X.env s.heap m x u
 cell:∀x c,X.env.cells.lookup x=some c->∃v,s.heap.IsCell c v
 free:H X.env.locals=none
 freeC:∀x c,X.env.cells.lookup x=some c->H c=none
 pin:∀p∈X.pn++pins,s.heap.get? p.1=some p.2/\H p.1=none/\p.1≠X.env.locals/\p.1∉X.fs/\∀v,p.2.data≠.cell v
 hok:HOk X.prog X.w H s.heap
 len:σ.length=X.N.length
section
variable{X:Cx}{pins:List (Addr×Obj)}{σ:List (Option V)}{H H':Hp}{s:qEo}{h':Heap}
theorem Cx.Ok.nofr(ok:X.Ok){b:Addr}{o:Obj}(e:X.base.get? b=some o):b∉X.fs:=fun hb=>by
 have:=(ok.funs.mem hb).1;rw[e]at this;cases this
theorem Inv.bs(I:Inv X pins σ H s):∀b o,X.base.get? b=some o->s.heap.get? b=some o/\H b=none:=fun b o e=>
 ⟨I.base.keep b o (I.ok.bs b o e).1 (I.ok.bs b o e).2 (I.ok.nofr e) (I.ok.noex b o e),I.base.free b o (I.ok.bs b o e).1 (I.ok.bs b o e).2 (I.ok.noex b o e)⟩
theorem Inv.bk(I:Inv X pins σ H s):∀b o,X.base.get? b=some o->s.heap.get? b=some o:=fun b o e=>(I.bs b o e).1
theorem Inv.mod(I:Inv X pins σ H s):Mod X.K X.mg X.base:=I.ok.mod
theorem Inv.kIn(I:Inv X pins σ H s):X.K.In s.heap:=I.ok.mod.kin.keeps I.bk
theorem Inv.fr(I:Inv X pins σ H s):∃m,Fr X.base X.env.locals s.heap m:=
 let⟨m,hn,_⟩:=I.loc
 ⟨m,hn,I.bk,qAg I.ok.bsz I.ok.above⟩
theorem Inv.lt(I:Inv X pins σ H s):X.env.locals<s.heap.objs.size:=let⟨_,hn,_⟩:=I.loc;hn.lt
theorem Inv.sz(I:Inv X pins σ H s):X.s₀.heap.objs.size<=s.heap.objs.size:=qAg I.ok.above (qBp I.lt)
theorem Inv.nofs(I:Inv X pins σ H s){a:Addr}(h:s.heap.objs.size<=a):a∉X.fs:=fun hb=>by
 obtain⟨_,o,ho,_⟩:=I.ok.funs.mem hb;exact absurd (qAd (qEr ho) (qAg I.sz h)) (qB5 _)
theorem Inv.cne(I:Inv X pins σ H s):∀x c,X.env.cells.lookup x=some c->c≠X.env.locals:=fun x c e z=>by
 obtain⟨v,o,ho,hd⟩:=I.cell x c e;obtain⟨m,⟨o',es,ep,ho',hd',_⟩,_⟩:=I.loc;rw[z,ho']at ho;cases ho;rw[hd']at hd;cases hd
theorem Inv.funs(I:Inv X pins σ H s):s.heap.FunFrames X.base X.outer:=by
 have all:∀(l:List Env),(∀b∈frs l,b∈X.fs)->X.s₀.heap.FunFrames X.base l->s.heap.FunFrames X.base l:=by
  intro l;induction l with
  |nil=>intro _ _;trivial
  |cons env r ih=>
   intro hs hl;obtain⟨hk,⟨L,o,hf,hn,ho,hd⟩,hr⟩:=hl;have hL:L∈X.fs:=hs L (by unfold frs;rw[qBw,hf];exact qAy);obtain⟨sl,e⟩:=I.base.slot L o ho (I.ok.frf L hL) hL fun z=>I.ok.exfs L z hL
   exact⟨hk,⟨L,_,hf,hn,e,hd⟩,ih (fun b hb=>hs b (by unfold frs;rw[qBw,hf];exact qAk _ hb)) hr⟩
 exact all X.outer (fun _ hb=>hb) I.ok.funs
theorem Inv.stack(I:Inv X pins σ H s):s.heap.FunFrames X.base X.stack:=by
 rcases I.ok.stk with e|⟨e,hf⟩
 ·rw[e];exact I.funs
 ·rw[e];obtain⟨m,hn,_⟩:=I.loc;refine .cons (by rw[I.ok.kind];decide) hf hn ?_ I.funs;exact qG2 (qAg I.ok.bsz I.ok.above)
theorem Inv.stkSub(I:Inv X pins σ H s):∀b∈frs X.stack,b∈X.env.locals::X.fs:=fun b hb=>by
 rcases I.ok.stk with e|⟨e,hf⟩
 ·rw[e]at hb;exact qAk _ hb
 ·rw[e]at hb;unfold frs at hb;rw[qBw,hf]at hb;exact hb
theorem Inv.stkFree(I:Inv X pins σ H s):∀b∈frs X.stack,H b=none:=fun b hb=>by
 rcases qAo.mp (I.stkSub b hb)with e|hb
 ·rw[e];exact I.free
 ·obtain⟨_,o,ho,_⟩:=I.ok.funs.mem hb;exact I.base.free b o ho (I.ok.frf b hb) fun z=>I.ok.exfs b z hb
theorem Inv.step{g':Array qF7}{t':Nat}{d':Drawn}{ch:List Addr}(I:Inv X pins σ H s)
  (hch:∀b∈ch,(b∈X.ex\/X.s₀.heap.objs.size<=b)/\b≠X.env.locals/\(∀x c,X.env.cells.lookup x=some c->c≠b)/\∀p∈X.pn++pins,p.1≠b)
  (keep:∀b o,b≠X.env.locals->b∉X.fs->b∉ch->s.heap.get? b=some o->H b=none->h'.get? b=some o)
  (slot:∀b o,b≠X.env.locals->b∈X.fs->b∉ch->s.heap.get? b=some o->H b=none->∃sl,h'.get? b=some { o with slots:=sl }) (free:∀b o,b∉ch->s.heap.get? b=some o->H b=none->H' b=none)
  (there:∀b o,b∉ch->s.heap.get? b=some o->∃o',h'.get? b=some o')
  (tups:∀b xs,H b=some (.tup xs)->H' b=some (.tup xs)) (frzs:∀b o u,H b=some (.frz o u)->H' b=some (.frz o u)) (tbls:∀b ps,H b=some (.tbl ps)->∃more,H' b=some (.tbl (ps++more)))
  (ns:∀m,s.heap.Ns X.env.locals m->h'.Ns X.env.locals m) (hok:HOk X.prog X.w H' h') (hg:qFn g') :
  Inv X pins σ H' { s with heap:=h',gens:=g',drawn:=d',toks:=t' }:=by
 have neL:∀b o,X.s₀.heap.get? b=some o->b≠X.env.locals:=fun b o e=>qAm (qAd (qEr e) I.ok.above)
 have neC:∀b o,X.s₀.heap.get? b=some o->b∉X.ex->b∉ch:=fun b o e hx hb=>by
  rcases(hch b hb).1 with z|z
  ·exact hx z
  ·exact absurd (qAd (qEr e) z) (qB5 _)
 have cellK:∀x c,X.env.cells.lookup x=some c->∀v,s.heap.IsCell c v->h'.IsCell c v:=fun x c e v ⟨o,ho,hd⟩=>by
  have nch:c∉ch:=fun z=>(hch c z).2.2.1 x c e rfl
  by_cases hc:c∈X.fs
  ·obtain⟨sl,q⟩:=slot c o (I.cne x c e) hc nch ho (I.freeC x c e);exact⟨_,q,hd⟩
  ·exact⟨o,keep c o (I.cne x c e) hc nch ho (I.freeC x c e),hd⟩
 refine⟨I.ok,I.os,hg,⟨fun b o e n hb hx=>?_,fun b o e n hb hx=>?_,fun b o e n hx=>?_,fun b o e hx=>?_,fun b xs e=>tups b xs (I.base.tups b xs e),fun b o xs e=>frzs b o xs (I.base.frzs b o xs e),fun b ps e=>?_⟩,?_,fun x c e=>?_,?_,fun x c e=>?_,fun p hp=>?_,hok,I.len⟩
 ·exact keep b o (neL b o e) hb (neC b o e hx) (I.base.keep b o e n hb hx) (I.base.free b o e n hx)
 ·obtain⟨sl,e1⟩:=I.base.slot b o e n hb hx;obtain⟨sl',e2⟩:=slot b _ (neL b o e) hb (neC b o e hx) e1 (I.base.free b o e n hx);exact⟨sl',e2⟩
 ·obtain⟨o',e1⟩:=I.base.there b o e hx;exact free b o' (neC b o e hx) e1 (I.base.free b o e n hx)
 ·obtain⟨o',e1⟩:=I.base.there b o e hx;exact there b o' (neC b o e hx) e1
 ·obtain⟨m1,e1⟩:=I.base.tbls b ps e;obtain⟨m2,e2⟩:=tbls b _ e1;exact⟨m1++m2,by rw[e2,Array.append_assoc]⟩
 ·obtain⟨m,hn,hl⟩:=I.loc;refine⟨m,ns m hn,fun i x v e1 e2 e3=>?_⟩;obtain⟨u,r,l⟩:=hl i x v e1 e2 e3;refine⟨u,r,?_⟩
  rcases l with l|⟨k,c,e,z⟩
  ·exact .inl l
  ·exact .inr ⟨k,c,e,cellK x c e _ z⟩
 ·obtain⟨v,z⟩:=I.cell x c e;exact⟨v,cellK x c e v z⟩
 ·obtain⟨m,⟨o,_,_,ho,_⟩,_⟩:=I.loc;exact free _ o (fun z=>(hch _ z).2.1 rfl) ho I.free
 ·obtain⟨v,o,ho,hd⟩:=I.cell x c e;exact free c o (fun z=>(hch c z).2.2.1 x c e rfl) ho (I.freeC x c e)
 ·obtain⟨e,n,ne,nf,d⟩:=I.pin p hp;have nch:p.1∉ch:=fun z=>(hch p.1 z).2.2.2 p hp rfl
  exact⟨keep p.1 p.2 ne nf nch e n,free p.1 p.2 nch e n,ne,nf,d⟩
theorem Inv.un{t':Nat}(I:Inv X pins σ H s)(u:Un X.fs [] H H' s.heap h')(hok:HOk X.prog X.w H' h'):Inv X pins σ H' { s with heap:=h',toks:=t' }:=by
 obtain⟨m,⟨o,es,ep,ho,r⟩,_⟩:=id I.loc;obtain⟨sl,hL⟩:=u.any ho I.free (by simp);exact I.step (g':=s.gens) (d':=s.drawn) (ch:=[]) (fun _ z=>nomatch z) (fun b o _ hb _ e n=>u.keep b o e n hb (by simp)) (fun b o _ hb _ e n=>u.slot b o e n hb (by simp)) (fun b o _ e n=>u.free b o e n (by simp)) (fun b o _ e=>u.there b o e (by simp)) u.tups u.frzs u.tbls (fun m' hm=>by
  obtain⟨o',es',ep',ho',r'⟩:=hm;rw[ho]at ho';cases ho';exact⟨_,es',ep',hL,r'⟩) hok I.bare
theorem Inv.call{g':Array qF7}{t':Nat}{d':Drawn}{ch:List Addr}(I:Inv X pins σ H s)(u:Un (frs X.stack) ch H H' s.heap h')(hok:HOk X.prog X.w H' h')(hg:qFn g')
  (hch:∀b∈ch,(b∈X.ex\/X.s₀.heap.objs.size<=b)/\b≠X.env.locals/\(∀x c,X.env.cells.lookup x=some c->c≠b)/\∀p∈X.pn++pins,p.1≠b) :
  Inv X pins σ H' { s with heap:=h',gens:=g',drawn:=d',toks:=t' }:=by
 obtain⟨m,⟨o,es,ep,ho,r⟩,_⟩:=id I.loc;obtain⟨sl,hL⟩:=u.any ho I.free fun z=>(hch _ z).2.1 rfl
 exact I.step (ch:=ch) hch (fun b o hL hb hc e n=>u.keep b o e n (fun z=>(qAo.mp (I.stkSub b z)).elim hL hb) hc) (fun b o _ _ hc e n=>u.any e n hc) (fun b o hc e n=>u.free b o e n hc) (fun b o hc e=>u.there b o e hc) u.tups u.frzs u.tbls (fun m' hm=>by
  obtain⟨o',es',ep',ho',r'⟩:=hm;rw[ho]at ho';cases ho';exact⟨_,es',ep',hL,r'⟩) hok hg
theorem Inv.turned{t':Nat}{it:Addr}(I:Inv X pins σ H s)(k:∀b o,b≠it->s.heap.get? b=some o->h'.get? b=some o)(hn:H it=none)(hL:it≠X.env.locals)
  (h1:it∈X.ex\/X.s₀.heap.objs.size<=it) (h2:∀x c,X.env.cells.lookup x=some c->c≠it) (h3:∀p∈X.pn++pins,p.1≠it):Inv X pins σ H { s with heap:=h',toks:=t' }:=by
 have nit:∀b u,H b=some u->b≠it:=fun b u e z=>by rw[z,hn]at e;cases e
 refine I.step (g':=s.gens) (d':=s.drawn) (ch:=[it]) (fun b hb=>?_) (fun b o _ _ hc e _=>k b o (fun z=>hc (by simp[z])) e) (fun b o _ _ hc e _=>⟨o.slots,k b o (fun z=>hc (by simp[z])) e⟩) (fun _ _ _ _ n=>n)
  (fun b o hc e=>⟨o,k b o (fun z=>hc (by simp[z])) e⟩) (fun _ _ e=>e) (fun _ _ _ e=>e) (fun b ps e=>⟨#[],by rw[e];simp⟩) (fun m hm=>?_) (fun b u e=>?_) I.bare
 ·have e:b=it:=by simpa using hb
  subst e;exact⟨h1,hL,h2,h3⟩
 ·obtain⟨o,es,ep,ho,r⟩:=hm;exact⟨o,es,ep,k _ o (qD0 hL) ho,r⟩
 ·refine(I.hok b u e).stay (fun c v hc q=>k c v ?_ q) (fun _ q=>q) (fun _ _ q=>q) fun _ _ _ q _=>q
  rcases hc with z|z
  ·rw[z];exact nit b u e
  ·exact nit c _ z
theorem Inv.tok(I:Inv X pins σ H s)(t:Nat):Inv X pins σ H { s with toks:=t }:=I.un (h':=s.heap) (t':=t) Un.refl I.hok
theorem Inv.kept{t':Nat}(I:Inv X pins σ H s)(k:∀b u,s.heap.get? b=some u->h'.get? b=some u):Inv X pins σ H { s with heap:=h',toks:=t' }:=I.un (Un.kept k) (I.hok.kept k)
theorem Inv.laid{a:Addr}{o:HO}{t':Nat}(I:Inv X pins σ H s)(k:∀b u,s.heap.get? b=some u->h'.get? b=some u)(hp:s.heap.objs.size<=a)(new:ObjOk X.prog X.w (upd H a o) h' a o) :
  Inv X pins σ (upd H a o) { s with heap:=h',toks:=t' }:=I.un (Un.laid k hp (I.hok.fresh hp)) (I.hok.laid k hp new)
theorem Inv.write{x e:Addr}{o:HO}{t':Nat}(I:Inv X pins σ H s)(mu:Mut (H x))(he:e=x\/H e=some (.own x))(k:∀b u,b≠e->s.heap.get? b=some u->h'.get? b=some u)(heo:∃u,h'.get? e=some u)
  (new:ObjOk X.prog X.w (upd H x o) h' x o):Inv X pins σ (upd H x o) { s with heap:=h',toks:=t' }:=I.un (Un.write mu he k heo) (I.hok.write mu he k heo new)
theorem Inv.weak{σ':List (Option V)}(I:Inv X pins σ H s)(hl:σ'.length=σ.length)(w:∀(i:Nat) v,σ'[i]?=some (some v)->σ[i]?=some (some v)):Inv X pins σ' H s:=
 ⟨I.ok,I.os,I.bare,I.base,let⟨m,hn,hl'⟩:=I.loc;⟨m,hn,fun i x v e1 e2 e3=>hl' i x v e1 (w i v e2) e3⟩,I.cell,I.free,I.freeC,I.pin,I.hok,hl.trans I.len⟩
theorem Inv.pins_of{pins':List (Addr×Obj)}(I:Inv X pins σ H s)(h:∀p∈pins',s.heap.get? p.1=some p.2/\H p.1=none/\p.1≠X.env.locals/\p.1∉X.fs/\∀v,p.2.data≠.cell v):Inv X pins' σ H s:=
 ⟨I.ok,I.os,I.bare,I.base,I.loc,I.cell,I.free,I.freeC,fun p hp=>(qB4.mp hp).elim (fun z=>I.pin p (qBs _ z)) (h p),I.hok,I.len⟩
theorem zH6{N:List Str}(hN:N.Nodup){i j:Nat}{x:Str}(a:N[i]?=some x)(b:N[j]?=some x):i=j:=by
 obtain⟨h1,e1⟩:=qA2.mp a;obtain⟨h2,e2⟩:=qA2.mp b;exact(List.getElem_inj hN).mp (e1.trans e2.symm)
theorem zI5{M:Model}{A:qEs}{E:Value->qEo->Prop}{i:Nat}{x:Str}{v:V}{u:Value}{Q:Unit->qEo->Prop}(I:Inv X pins σ H s)(hN:X.N.Nodup)(hi:X.N[i]?=some x)(hx:Loc X.env.scope x)(r:RelV v u)
  (h:∀s',Inv X pins (σ.set i (some v)) H s'->(∃a,qGh a s.heap s'.heap/\(a=X.env.locals\/X.env.cells.lookup x=some a))->Q () s') (hf:X.fn x=true\/X.env.scope.names.lookup x=some .local:=by first|exact .inl rfl|exact .inr rfl|assumption):wpAny M A (storeName X.env x u) Q E s:=by
 obtain⟨m,hn,hl⟩:=id I.loc;have hcls:(X.env.scope.kind==.class||(X.env.scope.kind==.module&&X.env.locals != X.env.globals))=false:=by rw[I.ok.kind];rfl
 have hiσ:i<σ.length:=by rw[I.len];exact(qA2.mp hi).1
 have cne:=I.cne;have tracked:∀{a:Addr}{h':Heap},(∃o,s.heap.get? a=some o/\H a=none)->qGh a s.heap h'->HOk X.prog X.w H h':=fun{a h'} ha hs b ob e=>by
  obtain⟨_,_,hfree⟩:=ha;refine(I.hok b ob e).stay (fun c w' hc q=>(hs.2 c ?_).trans q) (fun _ q=>q) (fun _ _ q=>q) fun _ _ _ q _=>q
  rintro rfl
  rcases hc with rfl|hc
  ·rw[hfree]at e;cases e
  ·rw[hfree]at hc;cases hc
 rcases hx with hk|hk
 ·refine wpAny_storeName_local hk hn (fun h' hn' hs=>?_) hcls;obtain⟨oL,_,_,hoL,_⟩:=id hn;refine h _ ⟨I.ok,I.os,I.bare,⟨fun b o e n hb hx=>?_,fun b o e n hb hx=>?_,I.base.free,fun b o e hx=>?_,I.base.tups,I.base.frzs,I.base.tbls⟩,⟨_,hn',fun j y v' e1 e2 e3=>?_⟩,fun y c e=>?_,I.free,I.freeC,fun p hp=>?_,tracked ⟨oL,hoL,I.free⟩ hs,by simpa using I.len⟩ ⟨_,hs,.inl rfl⟩
  ·exact(hs.2 b (qAm (qAd (qEr e) I.ok.above))).trans (I.base.keep b o e n hb hx)
  ·obtain⟨sl,e1⟩:=I.base.slot b o e n hb hx;exact⟨sl,(hs.2 b (qAm (qAd (qEr e) I.ok.above))).trans e1⟩
  ·obtain⟨o',e1⟩:=I.base.there b o e hx;exact⟨o',(hs.2 b (qAm (qAd (qEr e) I.ok.above))).trans e1⟩
  ·by_cases hj:j=i
   ·subst hj;rw[hi]at e1;cases e1;rw[qAe hiσ]at e2;cases e2;exact⟨u,r,.inl ⟨hk,by simp⟩⟩
   ·rw[qAj (qD0 hj)]at e2;obtain⟨u',r',q⟩:=hl j y v' e1 e2 e3;refine⟨u',r',?_⟩
    rcases q with⟨k,e⟩|⟨k,c,e,z⟩
    ·refine .inl ⟨k,?_⟩
     have:y≠x:=fun e=>hj (zH6 hN e1 (e▸hi))
     simp[this,e]
    ·exact .inr ⟨k,c,e,z.sameBut hs (cne y c e)⟩
  ·obtain⟨w',z⟩:=I.cell y c e;exact⟨w',z.sameBut hs (cne y c e)⟩
  ·obtain⟨e,n,ne,nf,d⟩:=I.pin p hp;exact⟨(hs.2 p.1 ne).trans e,n,ne,nf,d⟩
 ·have hfn:X.fn x=true:=by
   rcases hf with z|z
   ·exact z
   ·rw[z]at hk;cases hk
  obtain⟨c,hc⟩:=I.ok.has x (.inl hk);obtain⟨w',z⟩:=I.cell x c hc;refine wpAny_storeName_cell I.ok.kind hk hc z (fun h' hc' hs=>?_);obtain⟨oc,hoc,hocd⟩:=id z;refine h { s with heap:=h' } ⟨I.ok,I.os,I.bare,⟨fun b o e n hb hx=>?_,fun b o e n hb hx=>?_,I.base.free,fun b o e hx=>?_,I.base.tups,I.base.frzs,I.base.tbls⟩,⟨m,hn.sameBut hs (qD0 (cne x c hc)),fun j y v' e1 e2 e3=>?_⟩,fun y c' e=>?_,I.free,I.freeC,fun p hp=>?_,tracked ⟨oc,hoc,I.freeC x c hc⟩ hs,by simpa using I.len⟩ ⟨c,hs,.inr hc⟩
  ·exact(hs.2 b (qAm (qAd (qEr e) (I.ok.cab x c hfn hc)))).trans (I.base.keep b o e n hb hx)
  ·obtain⟨sl,e1⟩:=I.base.slot b o e n hb hx;exact⟨sl,(hs.2 b (qAm (qAd (qEr e) (I.ok.cab x c hfn hc)))).trans e1⟩
  ·obtain⟨o',e1⟩:=I.base.there b o e hx;exact⟨o',(hs.2 b (qAm (qAd (qEr e) (I.ok.cab x c hfn hc)))).trans e1⟩
  ·by_cases hj:j=i
   ·subst hj;rw[hi]at e1;cases e1;rw[qAe hiσ]at e2;cases e2;exact⟨u,r,.inr ⟨.inl hk,c,hc,hc'⟩⟩
   ·rw[qAj (qD0 hj)]at e2;obtain⟨u',r',q⟩:=hl j y v' e1 e2 e3;refine⟨u',r',?_⟩
    rcases q with q|⟨k,c',e,z'⟩
    ·exact .inl q
    ·refine .inr ⟨k,c',e,z'.sameBut hs ?_⟩
     rintro rfl
     exact hj (zH6 hN e1 (I.ok.inj _ _ _ e hc▸hi))
  ·by_cases hcc:c'=c
   ·subst hcc;exact⟨_,hc'⟩
   ·obtain⟨w2,z2⟩:=I.cell y c' e;exact⟨w2,z2.sameBut hs hcc⟩
  ·obtain⟨e,n,ne,nf,d⟩:=I.pin p hp;refine⟨(hs.2 p.1 ?_).trans e,n,ne,nf,d⟩;intro q;rw[q,hoc]at e;have q':oc=p.2:=qAr e;exact d w' (by rw[<- q'];exact hocd)
theorem zH2{M:Model}{A:qEs}{E:Value->qEo->Prop}{i:Nat}{x:Str}{v:V}{u:Value}{Q:Unit->qEo->Prop}(I:Inv X pins σ H s)(hN:X.N.Nodup)(hi:X.N[i]?=some x)(hx:Loc X.env.scope x)(r:RelV v u)
  (h:∀s',Inv X pins (σ.set i (some v)) H s'->Q () s') (hf:X.fn x=true\/X.env.scope.names.lookup x=some .local:=by first|exact .inl rfl|exact .inr rfl|assumption):wpAny M A (storeName X.env x u) Q E s:=
 zI5 I hN hi hx r (fun s' I' _=>h s' I') hf
theorem Inv.call'{s':qEo}{ch:List Addr}(I:Inv X pins σ H s)(ho:s'.os=s.os)(u:Un (frs X.stack) ch H H' s.heap s'.heap)(hok:HOk X.prog X.w H' s'.heap)(hg:qFn s'.gens)
  (hch:∀b∈ch,(b∈X.ex\/X.s₀.heap.objs.size<=b)/\b≠X.env.locals/\(∀x c,X.env.cells.lookup x=some c->c≠b)/\∀p∈X.pn++pins,p.1≠b):Inv X pins σ H' s':=by
 obtain⟨h',g',d',t',o'⟩:=s';have e:o'=s.os:=ho;subst e;exact I.call (g':=g') (t':=t') (d':=d') u hok hg hch
end
abbrev XK:=Value->Option Addr->Hp->Prop
abbrev St:=List (Option V)
abbrev VK:=V->Hp->Prop
abbrev TE:=St->Hp->VK->Prop
abbrev TT:=St->Hp->(Bool->Hp->Prop)->Prop
abbrev TA:=St->Hp->(List V->Hp->Prop)->Prop
structure Ends where
 nx:St->Hp->Prop
 rt:VK
 bk:St->Hp->Prop:=fun _ _=>False
 ct:St->Hp->Prop:=fun _ _=>False
abbrev TS:=Ends->St->Hp->Prop
def EP(X:Cx)(pins:List (Addr×Obj))(σ:St)(Q:VK)(u:Value)(s':qEo):Prop:=∃v H',Inv X pins σ H' s'/\RelV v u/\Q v H'
def TP(X:Cx)(pins:List (Addr×Obj))(σ:St)(Q:Bool->Hp->Prop)(b:Bool)(s':qEo):Prop:=∃H',Inv X pins σ H' s'/\Q b H'
def AP(X:Cx)(pins:List (Addr×Obj))(σ:St)(Q:List V->Hp->Prop)(us:List Value)(s':qEo):Prop:=∃vs H',Inv X pins σ H' s'/\Vals vs us/\Q vs H'
def SP(X:Cx)(pins:List (Addr×Obj))(D:Ends)(f:Flow)(s':qEo):Prop:=
 match f with
 |.next=>∃σ' H',Inv X pins σ' H' s'/\D.nx σ' H'
 |.brk=>∃σ' H',Inv X pins σ' H' s'/\D.bk σ' H'
 |.cont=>∃σ' H',Inv X pins σ' H' s'/\D.ct σ' H'
 |.ret u=>∃v σ' H',Inv X pins σ' H' s'/\RelV v u/\D.rt v H'
def PE(X:Cx)(e:Expr)(t:TE):Prop:=
 ∀(pins:List (Addr×Obj))(s:qEo)(σ:St)(H:Hp)(Q:VK),Inv X pins σ H s->t σ H Q->wpAny (model X.prog X.w) X.A (eval e X.env) (EP X pins σ Q) X.xe s
def PT(X:Cx)(e:Expr)(t:TT):Prop:=
 ∀(pins:List (Addr×Obj))(s:qEo)(σ:St)(H:Hp)(Q:Bool->Hp->Prop),Inv X pins σ H s->t σ H Q->wpAny (model X.prog X.w) X.A (isTrue e X.env (eval e X.env)) (TP X pins σ Q) X.xe s
def PW(X:Cx)(e:Expr)(t:TT):Prop:=
 ∀(whole:Sem Value)(pins:List (Addr×Obj))(s:qEo)(σ:St)(H:Hp)(Q:Bool->Hp->Prop),Inv X pins σ H s->t σ H Q->wpAny (model X.prog X.w) X.A (isTrue e X.env whole) (TP X pins σ Q) X.xe s
theorem PW.pt{X:Cx}{e:Expr}{t:TT}(h:PW X e t):PT X e t:=h _
def PA(X:Cx)(es:List Expr)(t:TA):Prop:=
 ∀(pos:Pos)(pins:List (Addr×Obj))(s:qEo)(σ:St)(H:Hp)(Q:List V->Hp->Prop),Inv X pins σ H s->t σ H Q->wpAny (model X.prog X.w) X.A (spliced (backTo pos (starEach es X.env))) (AP X pins σ Q) X.xe s
def PS(X:Cx)(st:Stmt)(t:TS):Prop:=
 ∀(pins:List (Addr×Obj))(s:qEo)(σ:St)(H:Hp)(D:Ends),Inv X pins σ H s->t D σ H->wpAny (model X.prog X.w) X.A (exec st X.env) (SP X pins D) X.xe s
def PSs(X:Cx)(st:List Stmt)(t:TS):Prop:=
 ∀(pins:List (Addr×Obj))(s:qEo)(σ:St)(H:Hp)(D:Ends),Inv X pins σ H s->t D σ H->wpAny (model X.prog X.w) X.A (execs st X.env) (SP X pins D) X.xe s
theorem thn{α:Type}{t:Sem α}{Q Q':α->qEo->Prop}{M:Model}{A:qEs}{E:Value->qEo->Prop}{s:qEo}(h:wpAny M A t Q E s)(hQ:∀a s,Q a s->Q' a s):wpAny M A t Q' E s:=wpAny_mono h hQ fun _ _ x=>x
section
variable{X:Cx}
noncomputable def tVar(i:Nat):TE:=fun σ H Q=>∃v,σ[i]?=some (some v)/\Q v H
noncomputable def tC(v:V):TE:=fun _ H Q=>Q v H
theorem zNT{i:Nat}{x:Str}{pos:Pos}(hN:X.N[i]?=some x)(hv:Vis X.env.scope x)(hd:(x==("__debug__":Str))=false:=by decide)(hcd:(x==("__classdict__":Str))=false:=by decide):PE X (.Name x pos) (tVar i):=by
 intro pins s σ H Q I h;obtain⟨v,e,h⟩:=h;obtain⟨m,hn,hl⟩:=I.loc;obtain⟨u,r,l⟩:=hl i x v hN e hv;have fin:EP X pins σ Q u s:=⟨v,H,I,r,h⟩;rcases l with⟨hk,hm⟩|⟨hk,c,hc,hcell⟩
 ·exact qGz (wpAny_loadName_local I.ok.kind hk hn hm fin) hd
 ·rcases hk with hk|hk
  ·exact qGz (wpAny_loadName_cell I.ok.kind hk hc hcell fin) hd
  ·exact qGz (wpAny_loadName_free I.ok.kind hk hc hcell fin hcd) hd
theorem zAD{i j pos}:PE X (.Constant (.int i) j pos) (tC (.int i)):=fun _ _ _ H _ I h=>wpAny_Constant_int ⟨.int i,H,I.tok _,⟨_,rfl⟩,h⟩
theorem zE7{b j pos}:PE X (.Constant (.bool b) j pos) (tC (.bl b)):=fun _ _ _ H _ I h=>Constant_bool ⟨.bl b,H,I,rfl,h⟩
theorem zKX{j pos}:PE X (.Constant .none j pos) (tC .non):=fun _ _ _ H _ I h=>Constant_none ⟨.non,H,I,rfl,h⟩
theorem zKW{x j pos}:PE X (.Constant (.str x) j pos) (tC (.str x)):=fun _ _ _ H _ I h=>Calls.Constant_str ⟨.str x,H,I.tok _,⟨_,rfl⟩,h⟩
def Gl(X:Cx)(x:Str):Prop:=X.env.kindOf x=some .globalImplicit
theorem zIL{E:Value->qEo->Prop}{pins:List (Addr×Obj)}{s:qEo}{σ:St}{H:Hp}{x:Str}{u:Value}{pos:Pos}{Q:Value->qEo->Prop}(I:Inv X pins σ H s)(hg:Gl X x)(hm:X.mg x=some u)(h:Q u s)
  (hd:(x==("__debug__":Str))=false:=by decide):wpAny (model X.prog X.w) X.A (eval (.Name x pos) X.env) Q E s:=
 qFd I.ok.kind hg (Calls.loadGlobal_global (by rw[I.ok.glob];exact I.mod.glob.keeps I.bk) hm h) hd
theorem zH7{E:Value->qEo->Prop}{pins:List (Addr×Obj)}{s:qEo}{σ:St}{H:Hp}{x:Str}{u:Value}{pos:Pos}{Q:Value->qEo->Prop}(I:Inv X pins σ H s)(hg:Gl X x)(hm:X.mg x=none)(hv:qF8 x=some u)(h:Q u s)
  (hn:x ≠ "__name__":=by decide) (hd:(x==("__debug__":Str))=false:=by decide):wpAny (model X.prog X.w) X.A (eval (.Name x pos) X.env) Q E s:=by
 obtain⟨mb,h1,h2⟩:=I.mod.blt;exact qFd I.ok.kind hg (Calls.loadGlobal_builtin (by rw[I.ok.glob];exact I.mod.glob.keeps I.bk) hm (by rw[I.ok.blt];exact h1.keeps I.bk) ((h2 x hn).trans hv) h) hd
theorem zLZ{x:Str}{v:V}{u:Value}{pos:Pos}(hg:Gl X x)(hm:X.mg x=some u)(r:RelV v u)(hd:(x==("__debug__":Str))=false:=by decide):PE X (.Name x pos) (tC v):=
 fun _ _ _ H _ I h=>zIL I hg hm ⟨v,H,I,r,h⟩ hd
theorem zCA{x:Str}{v:V}{u:Value}{pos:Pos}(hg:Gl X x)(hm:X.mg x=none)(hv:qF8 x=some u)(r:RelV v u)(hn:x ≠ "__name__":=by decide)(hd:(x==("__debug__":Str))=false:=by decide):PE X (.Name x pos) (tC v):=
 fun _ _ _ H _ I h=>zH7 I hg hm hv ⟨v,H,I,r,h⟩ hn hd
variable{a b:Expr}{ta tb:TE}{pos:Pos}
noncomputable def tB(t:TE):TT:=fun σ H Q=>t σ H fun x H1=>∃c,x=.bl c/\Q c H1
variable{tA tB':TT}{rest:List Expr}
noncomputable def tAnd(t u:TT):TT:=fun σ H Q=>t σ H fun c H1=>if c=true then u σ H1 Q else Q false H1
noncomputable def tOr(t u:TT):TT:=fun σ H Q=>t σ H fun c H1=>if c=true then Q true H1 else u σ H1 Q
noncomputable def tNot(t:TT):TT:=fun σ H Q=>t σ H fun c H1=>Q (!c) H1
theorem zI9(ha:PT X a tA):PW X (.BoolOp .And [a] pos) tA:=by
 intro wh pins s σ H Q I h;refine isTrue_and (thn (ha pins s σ H Q I h) fun c s1 e=>?_);cases c with
 |true=>exact isTrue_and_nil e
 |false=>exact e
theorem zI8(ha:PT X a tA):PW X (.BoolOp .Or [a] pos) tA:=by
 intro wh pins s σ H Q I h;refine isTrue_or (thn (ha pins s σ H Q I h) fun c s1 e=>?_);cases c with
 |false=>exact isTrue_or_nil e
 |true=>exact e
theorem zKV(ha:PT X a tA)(hb:PW X (.BoolOp .And (b::rest) pos) tB'):PW X (.BoolOp .And (a::b::rest) pos) (tAnd tA tB'):=by
 intro wh pins s σ H Q I h;refine isTrue_and (thn (ha pins s σ H _ I h) fun c s1 z0=>?_);obtain⟨H1,I1,q1⟩:=z0;cases c with
 |true=>exact hb wh pins s1 σ H1 Q I1 q1
 |false=>exact⟨H1,I1,q1⟩
theorem zLV(ha:PT X a tA)(hb:PW X (.BoolOp .Or (b::rest) pos) tB'):PW X (.BoolOp .Or (a::b::rest) pos) (tOr tA tB'):=by
 intro wh pins s σ H Q I h;refine isTrue_or (thn (ha pins s σ H _ I h) fun c s1 z0=>?_);obtain⟨H1,I1,q1⟩:=z0;cases c with
 |true=>exact⟨H1,I1,q1⟩
 |false=>exact hb wh pins s1 σ H1 Q I1 q1
theorem zFT(ha:PT X a tA):PT X (.UnaryOp .Not a pos) (tNot tA):=by
 intro pins s σ H Q I h;exact isTrue_not (ha pins s σ H (fun c H1=>Q (!c) H1) I h)
theorem zDA{op}{t:TE}(h:PE X a t):PE X (.BoolOp op [a] pos) t:=fun pins s σ H Q I hw=>BoolOp_one (h pins s σ H Q I hw)
end
def SqL(K:qA0)(H:Hp)(a:Addr)(xs:List V):Prop:=
 Rd H a (.lst xs) \/
  ∃(o:Obj)(its:Array Value)(n:Nat),K.lookup a=some o/\o.cls=.type "list" /\ o.dict=none/\o.data=.seq its n/\its.size<=sizeLine/\Vals xs its.toList
def SqT(K:qA0)(H:Hp)(a:Addr)(xs:List V):Prop:=
 Rd H a (.tup xs) \/
  ∃(o:Obj)(its:Array Value)(n:Nat),K.lookup a=some o/\o.cls=.type "tuple" /\ o.data=.seq its n/\its.size<=sizeLine/\Vals xs its.toList
noncomputable def absV:Value->Option V
 |.none=>some .non
 |.bool b=>some (.bl b)
 |.int i _=>some (.int i)
 |.str x _=>some (.str x)
 |.bytes b _=>some (.byt b)
 |.float b _=>some (.flt b)
 |.ref a=>some (.ref a)
 |.type n=>some (.ty n)
 |_=>none
theorem RelV.abs{x:V}{u:Value}(r:RelV x u):absV u=some x:=by
 cases x with
 |non=>cases r;rfl
 |bl _=>cases r;rfl
 |int _=>obtain⟨t,rfl⟩:=r;rfl
 |str _=>obtain⟨t,rfl⟩:=r;rfl
 |byt _=>obtain⟨t,rfl⟩:=r;rfl
 |flt _=>obtain⟨t,rfl⟩:=r;rfl
 |ref _=>cases r;rfl
 |ty _=>cases r;rfl
theorem RelV.inj{x y:V}{u:Value}(r:RelV x u)(q:RelV y u):x=y:=qAr (r.abs.symm.trans q.abs)
theorem Vals.inj:∀{xs ys:List V}{us:List Value},Vals xs us->Vals ys us->xs=ys
 |_,_,_,.nil,.nil=>rfl
 |_,_,_,.cons r t,.cons r' t'=>by rw[r.inj r',Vals.inj t t']
section
variable{X:Cx}{pins:List (Addr×Obj)}{σ:St}{H:Hp}{s:qEo}{a:Addr}{xs ys:List V}
theorem SqL.of{K:qA0}(h:H a=some (.lst xs)):SqL K H a xs:=.inl (.inl h)
theorem SqT.of{K:qA0}(h:H a=some (.tup xs)):SqT K H a xs:=.inl (.inl h)
theorem Inv.list(I:Inv X pins σ H s)(h:SqL X.K H a xs):∃its:List Value,Vals xs its/\PlainL s.heap a its.toArray/\xs.length<=sizeLine:=by
 rcases h with h|⟨o,its,n,hk,hc,hd,hs,hz,r⟩
 ·obtain⟨z,its,n,r,e⟩:=h.ok I.hok;exact⟨its,r,⟨_,n,e,rfl,rfl,rfl⟩,z⟩
 ·refine⟨its.toList,r,⟨o,n,I.kIn a o hk,hc,hd,by simpa using hs⟩,?_⟩;have e:=r.length;simp only[qCw]at e;omega
theorem Inv.tuple(I:Inv X pins σ H s)(h:SqT X.K H a xs):∃its:List Value,Vals xs its/\IsTup s.heap a its.toArray/\xs.length<=sizeLine:=by
 rcases h with h|⟨o,its,n,hk,hc,hs,hz,r⟩
 ·obtain⟨z,its,r,p⟩:=h.ok I.hok;exact⟨its,r,p,z⟩
 ·refine⟨its.toList,r,⟨o,I.kIn a o hk,hc,n,by simpa using hs⟩,?_⟩;have e:=r.length;simp only[qCw]at e;omega
theorem Inv.list_inj(I:Inv X pins σ H s)(h:SqL X.K H a xs)(h':SqL X.K H a ys):xs=ys:=by
 obtain⟨its,r,⟨o,n,e,_,_,d⟩,_⟩:=I.list h;obtain⟨its',r',⟨o',n',e',_,_,d'⟩,_⟩:=I.list h';rw[e]at e';cases e';rw[d]at d';injection d' with d1 _
 have:its=its':=by simpa using congrArg qEf d1
 subst this;exact r.inj r'
theorem Inv.tuple_inj(I:Inv X pins σ H s)(h:SqT X.K H a xs)(h':SqT X.K H a ys):xs=ys:=by
 obtain⟨its,r,⟨o,e,_,n,d⟩,_⟩:=I.tuple h;obtain⟨its',r',⟨o',e',_,n',d'⟩,_⟩:=I.tuple h';rw[e]at e';cases e';rw[d]at d';injection d' with d1 _
 have:its=its':=by simpa using congrArg qEf d1
 subst this;exact r.inj r'
end
abbrev Cx.wish(X:Cx)(E:Value->qEo->Prop):Cx:={ X with xe:=E }
abbrev Cx.nox(X:Cx):Cx:=X.wish fun _ _=>False
theorem Cx.Ok.wish{X:Cx}(ok:X.Ok)(E:Value->qEo->Prop):(X.wish E).Ok:=
 ⟨ok.mod,ok.kind,ok.glob,ok.blt,ok.above,ok.inj,ok.has,ok.cab,ok.hd,ok.frames,ok.stk,ok.exf,ok.bs,ok.bsz,ok.noex,ok.exfs,ok.funs,ok.frf⟩
theorem Cx.Ok.unwish{X:Cx}{E:Value->qEo->Prop}(ok:(X.wish E).Ok):X.Ok:=
 ⟨ok.mod,ok.kind,ok.glob,ok.blt,ok.above,ok.inj,ok.has,ok.cab,ok.hd,ok.frames,ok.stk,ok.exf,ok.bs,ok.bsz,ok.noex,ok.exfs,ok.funs,ok.frf⟩
section
variable{X:Cx}{pins:List (Addr×Obj)}{σ:St}{H:Hp}{s:qEo}{E:Value->qEo->Prop}
theorem Inv.wish(I:Inv X pins σ H s)(E:Value->qEo->Prop):Inv (X.wish E) pins σ H s:=⟨I.ok.wish E,I.os,I.bare,I.base,I.loc,I.cell,I.free,I.freeC,I.pin,I.hok,I.len⟩
theorem Inv.unwish(I:Inv (X.wish E) pins σ H s):Inv X pins σ H s:=⟨I.ok.unwish,I.os,I.bare,I.base,I.loc,I.cell,I.free,I.freeC,I.pin,I.hok,I.len⟩
theorem SP.unwish{D:Ends}{f:Flow}{s':qEo}(h:SP (X.wish E) pins D f s'):SP X pins D f s':=by
 cases f with
 |next=>obtain⟨σ',H',I,q⟩:=h;exact⟨σ',H',I.unwish,q⟩
 |brk=>obtain⟨σ',H',I,q⟩:=h;exact⟨σ',H',I.unwish,q⟩
 |cont=>obtain⟨σ',H',I,q⟩:=h;exact⟨σ',H',I.unwish,q⟩
 |ret u=>obtain⟨v,σ',H',I,r,q⟩:=h;exact⟨v,σ',H',I.unwish,r,q⟩
theorem PSs.nox{st:List Stmt}{t:TS}(h:PSs X.nox st t):PSs X st t:=fun pins s σ H D I hw=>
 wpAny_mono (h pins s σ H D (I.wish _) hw) (fun _ _ q=>q.unwish) fun _ _ z=>qA4 z
end
section
variable{X:Cx}{st:Stmt}{rest:List Stmt}{t u:TS}{e:Expr}{te:TE}{pos:Pos}
noncomputable def zN5:TS:=fun D σ H=>D.nx σ H
noncomputable def tSeq(t u:TS):TS:=fun D σ H=>t { D with nx:=u D } σ H
theorem zB3:PSs X [] zN5:=fun _ _ σ H _ I h=>qFt ⟨σ,H,I,h⟩
theorem zAF(h1:PS X st t)(h2:PSs X rest u):PSs X (st::rest) (tSeq t u):=by
 intro pins s σ H D I h;refine wpAny_execs_cons (thn (h1 pins s σ H { D with nx:=u D } I h) fun f s1 q=>?_);cases f with
 |next=>
  obtain⟨σ',H',I',q⟩:=q;exact h2 pins s1 σ' H' D I' q
 |ret v=>exact q
 |brk=>exact q
 |cont=>exact q
theorem zAH(h1:PS X st t):PSs X [st] t:=by
 intro pins s σ H D I h;refine wpAny_execs_cons (thn (h1 pins s σ H D I h) fun f s1 q=>?_);cases f with
 |next=>exact qFt q
 |ret v=>exact q
 |brk=>exact q
 |cont=>exact q
theorem Inv.quiet{pins:List (Addr×Obj)}{σ:St}{H:Hp}{s:qEo}(I:Inv X pins σ H s):interactive X.env=false:=by simp[interactive,I.ok.kind]
noncomputable def zEZ(te:TE):TS:=fun D σ H=>te σ H fun _ H1=>D.nx σ H1
theorem zF2(he:PE X e te)(hs:swapsWith e none pos.line X.env=pure false:=by rfl):PS X (.Expr e pos) (zEZ te):=by
 intro pins s σ H D I h;exact wpAny_Expr_any (thn (he pins s σ H _ I h) fun v s1 ⟨x,H1,I1,r1,q1⟩=>⟨σ,H1,I1,q1⟩) I.quiet hs
noncomputable def tRet(te:TE):TS:=fun D σ H=>te σ H D.rt
theorem zB9(he:PE X e te):PS X (.Return (some e) pos) (tRet te):=by
 intro pins s σ H D I h;exact wpAny_Return_some (thn (he pins s σ H _ I h) fun v s1 ⟨x,H1,I1,r1,q1⟩=>⟨x,σ,H1,I1,r1,q1⟩)
noncomputable def tIfS(c:TT)(t u:TS):TS:=fun D σ H=>c σ H fun b H1=>if b=true then t D σ H1 else u D σ H1
theorem zC9{c:Expr}{a b:List Stmt}{tc:TT}(hc:PT X c tc)(ha:PSs X a t)(hb:PSs X b u):PS X (.If c a b pos) (tIfS tc t u):=by
 intro pins s σ H D I h;refine wpAny_If (thn (hc pins s σ H _ I h) fun d s1 z0=>?_);obtain⟨H1,I1,q1⟩:=z0;cases d with
 |true=>exact ha pins s1 σ H1 D I1 q1
 |false=>exact hb pins s1 σ H1 D I1 q1
end
abbrev TG:=V->St->Hp->(St->Hp->Prop)->Prop
def PG(X:Cx)(target:Expr)(t:TG):Prop:=
 ∀(pins:List (Addr×Obj))(s:qEo)(σ:St)(H:Hp)(v:V)(u:Value)(Q:St->Hp->Prop),Inv X pins σ H s->RelV v u->t v σ H Q ->
  wpAny (model X.prog X.w) X.A (assign target X.env u) (fun _ s'=>∃σ' H',Inv X pins σ' H' s'/\Q σ' H') X.xe s
abbrev TSet:=V->V->V->Hp->(Hp->Prop)->Prop
def PSet(X:Cx)(t:TSet):Prop:=
 ∀(pins:List (Addr×Obj))(s:qEo)(σ:St)(H:Hp)(o i v:V)(ov iv u:Value)(Q:Hp->Prop),Inv X pins σ H s->RelV o ov->RelV i iv->RelV v u->t o i v H Q ->
  wpAny (model X.prog X.w) X.A (setItem ov iv u) (fun _ s'=>∃H',Inv X pins σ H' s'/\Q H') X.xe s
section
variable{X:Cx}{pos:Pos}
noncomputable def zGR(i:Nat):TG:=fun v σ H Q=>Q (σ.set i (some v)) H
theorem zF3{i:Nat}{x:Str}(hN:X.N.Nodup)(hi:X.N[i]?=some x)(hx:Loc X.env.scope x)(hf:X.fn x=true\/X.env.scope.names.lookup x=some .local:=by first|exact .inl rfl|exact .inr rfl|assumption):PG X (.Name x pos) (zGR i):=by
 intro pins s σ H v u Q I r h;exact wpAny_assign_Name (zH2 I hN hi hx r (fun s' I'=>⟨_,H,I',h⟩) hf)
noncomputable def gSub(to ti:TE)(t:TSet):TG:=fun v σ H Q=>to σ H fun o H1=>ti σ H1 fun i H2=>t o i v H2 fun H3=>Q σ H3
theorem zH5{o i:Expr}{to ti:TE}{t:TSet}(ho:PE X o to)(hi:PE X i ti)(hs:PSet X t)
  (ha:∀v,assign (.Subscript o i pos) X.env v=(do
   let ov <- holding [v] (eval o X.env)
   let iv <- holding [v,ov] (eval i X.env)
   standAt pos
   holding [v,ov,iv] (setItem ov iv v)
   release [v,ov,iv] []):=by intro _;rfl):PG X (.Subscript o i pos) (gSub to ti t):=by
 intro pins s σ H v u Q I r h;rw[ha];refine wpAny_bind (wpAny_holding (thn (ho pins s σ H _ I h) fun ov s1 z0=>?_));obtain⟨x,H1,I1,r1,q1⟩:=z0;refine wpAny_bind (wpAny_holding (thn (hi pins s1 σ H1 _ I1 q1) fun iv s2 z0=>?_));obtain⟨y,H2,I2,r2,q2⟩:=z0;refine wpAny_bind (wpAny_standAt (wpAny_bind (wpAny_holding (thn (hs pins s2 σ H2 x y v ov iv u _ I2 r1 r2 r q2) fun _ s3 z0=>?_))));obtain⟨H3,I3,q3⟩:=z0;exact wpAny_release ⟨σ,H3,I3,q3⟩
noncomputable def tAsg(te:TE)(g:TG):TS:=fun D σ H=>te σ H fun x H1=>g x σ H1 D.nx
theorem zH4{tg e:Expr}{te:TE}{g:TG}(he:PE X e te)(hg:PG X tg g)(hs:swapsWithSole [tg] e pos.line X.env=pure false:=by rfl)(hw:swappedStores [tg] e X.env=pure none:=by rfl)
  (h1:(assignEach [tg] X.env).map (·.2)=[assign tg X.env]:=by rfl):PS X (.Assign [tg] e pos) (tAsg te g):=by
 intro pins s σ H D I h;refine wpAny_Assign_stores (thn (he pins s σ H _ I h) fun v s1 z0=>?_) hs hw;obtain⟨x,H1,I1,r1,q1⟩:=z0;rw[h1];exact thn (hg pins s1 σ H1 x v _ I1 r1 q1) fun _ s2 q=>q
theorem zNR{i:Nat}{x:Str}{e:Expr}{te:TE}{pos':Pos}(hN:X.N.Nodup)(hi:X.N[i]?=some x)(hx:Loc X.env.scope x)(he:PE X e te)(hs:swapsWith e (some (.Name x pos')) pos.line X.env=pure false:=by rfl)(hf:X.fn x=true\/X.env.scope.names.lookup x=some .local:=by first|exact .inl rfl|exact .inr rfl|assumption) :
  PS X (.Assign [.Name x pos'] e pos) (tAsg te (zGR i)):=by
 intro pins s σ H D I h;refine wpAny_Assign_Name (thn (he pins s σ H _ I h) fun v s1 z0=>?_) hs;obtain⟨y,H1,I1,r1,q1⟩:=z0;exact zH2 I1 hN hi hx r1 (fun s2 I2=>⟨_,H1,I2,q1⟩) hf
end
structure It where
 go:Nat->Hp->Prop
 yld:Nat->Hp->V->Hp->Prop
 stop:Nat->Hp->Prop
def FpOk(X:Cx)(pins:List (Addr×Obj))(H:Hp)(b:Addr):Prop:=
 H b=none/\b≠X.env.locals/\b∉X.fs/\(b∈X.ex\/X.s₀.heap.objs.size<=b)/\(∀x c,X.env.cells.lookup x=some c->c≠b)/\∀p∈X.pn++pins,p.1≠b
theorem Inv.fpOk{X:Cx}{pins:List (Addr×Obj)}{σ:St}{H H':Hp}{s:qEo}{b:Addr}(I:Inv X pins σ H s)(hb:s.heap.objs.size<=b)(hn:H' b=none):FpOk X pins H' b:=by
 refine⟨hn,qCl (qAd I.lt hb),I.nofs hb,.inr (qAg I.sz hb),fun x c e z=>?_,fun p hp z=>?_⟩
 ·obtain⟨v,q⟩:=I.cell x c e;exact absurd (qAd q.lt (by rw[z];exact hb)) (qB5 _)
 ·exact absurd (qAd (qEr (I.pin p hp).1) (by rw[z];exact hb)) (qB5 _)
structure Turn(P:qEq)(w:World)(K:qA0)(tg:Expr)(J:It)(fp:List Addr)(it:Addr)(tn:Nat->Heap->Prop):Prop where
 mem:it∈fp
 obj:∀i h,tn i h->∀b∈fp,∃o,h.get? b=some o/\∀v,o.data≠.cell v
 keep:∀i h h',tn i h->(∀b∈fp,∀o,h.get? b=some o->h'.get? b=some o)->tn i h'
 item:∀(X:Cx),X.prog=P->X.w=w->X.K=K->X.calm=true->∀(i:Nat)(pins:List (Addr×Obj))(s:qEo)(σ:St)(H:Hp)(E:Value->qEo->Prop),Inv X pins σ H s->(∀b∈fp,FpOk X pins H b)->tn i s.heap->J.go i H ->
  wpAny (model P w) X.A (pyNext (.ref it)) (fun r s1=>∃u,r=some u /\
   wpAny (model P w) X.A (letOwnedTupleGo tg (.ref it) u) (fun _ s2=>∃x H',Inv X pins σ H' s2/\RelV x u/\J.yld i H x H'/\tn (i+1) s2.heap/\∀b∈fp,H' b=none) E s1) E s
 done:∀(X:Cx),X.prog=P->X.w=w->X.K=K->X.calm=true->∀(i:Nat)(pins:List (Addr×Obj))(s:qEo)(σ:St)(H:Hp)(E:Value->qEo->Prop),Inv X pins σ H s->(∀b∈fp,FpOk X pins H b)->tn i s.heap->J.stop i H ->
  wpAny (model P w) X.A (pyNext (.ref it)) (fun r s1=>r=none/\Inv X pins σ H s1) E s
 self:∀(A:qEs)(i:Nat)(s:qEo)(Q:Value->qEo->Prop)(E:Value->qEo->Prop),tn i s.heap->Q (.ref it) s->wpAny (model P w) A (pyIter (.ref it)) Q E s
abbrev TI:=St->Hp->(It->Hp->Prop)->Prop
def PIE(X:Cx)(pins:List (Addr×Obj))(σ:St)(tg:Expr)(R:It->Hp->Prop)(itv:Value)(s2:qEo):Prop:=
 ∃(it:Addr)(fp:List Addr)(tn:Nat->Heap->Prop)(J:It)(H':Hp),itv=.ref it/\Inv X pins σ H' s2/\Turn X.prog X.w X.K tg J fp it tn/\tn 0 s2.heap/\(∀b∈fp,FpOk X pins H' b)/\R J H'
def PI(X:Cx)(tg iter:Expr)(wi:TI):Prop:=
 ∀(pins:List (Addr×Obj))(s:qEo)(σ:St)(H:Hp)(R:It->Hp->Prop),Inv X pins σ H s->wi σ H R ->
  wpAny (model X.prog X.w) X.A (eval iter X.env) (fun v s1=>wpAny (model X.prog X.w) X.A (pyIter v) (PIE X pins σ tg R) X.xe s1) X.xe s
theorem zK6{M:Model}{A:qEs}{E:Value->qEo->Prop}{s:qEo}{tg:Expr}{it:Addr}{u:Value}{o:Obj}{n:String}{vs:Array Value}{Q:Unit->qEo->Prop}(ho:s.heap.get? it=some o)(hc:o.cls=.type n)(hd:o.data=.fields vs)
  (hn:["enumerate","zip","dict_itemiterator","dict_reverseitemiterator","odict_iterator","itertools.zip_longest","itertools.pairwise"].contains n=false) (hQ:Q () s):wpAny M A (letOwnedTupleGo tg (.ref it) u) Q E s:=by
 unfold letOwnedTupleGo;cases tg<;>first
  |exact wpAny_pure hQ
  |(cases u<;>first
    |exact wpAny_pure hQ
    |(refine wpAny_bind (wpAny_load ho ?_)
      rw[hc,hd];show wpAny M A (if(["enumerate","zip","dict_itemiterator","dict_reverseitemiterator","odict_iterator","itertools.zip_longest","itertools.pairwise"].contains n&&vs[0]?==some (rawInt _))=true then _ else _) Q E s;rw[if_neg (by intro h;rw[hn,qDn]at h;cases h)];exact wpAny_pure hQ))
noncomputable def Itl(K:qA0)(a:Addr):It:=
 ⟨fun i H=>∃xs x,SqL K H a xs/\xs[i]?=some x,fun i H x H'=>H'=H/\∀xs,SqL K H a xs->xs[i]?=some x,fun i H=>∃xs,SqL K H a xs/\xs.length<=i⟩
noncomputable def Itt(K:qA0)(a:Addr):It:=
 ⟨fun i H=>∃xs x,SqT K H a xs/\xs[i]?=some x,fun i H x H'=>H'=H/\∀xs,SqT K H a xs->xs[i]?=some x,fun i H=>∃xs,SqT K H a xs/\xs.length<=i⟩
noncomputable def Itr(lo:Int)(n:Nat):It:=⟨fun i _=>i<n,fun i H x H'=>H'=H/\x=.int (lo+i),fun i _=>n<=i⟩
theorem zHZ{P:qEq}{w:World}{K:qA0}{tg:Expr}(a it:Addr):Turn P w K tg (Itl K a) [it] it (fun i h=>h.IsListIter it a i) where
 mem:=by simp
 obj:=fun i h st b hb=>by
  have e:b=it:=by simpa using hb
  subst e;obtain⟨o,e,c,d⟩:=st;exact⟨o,e,fun v z=>by rw[d]at z;cases z⟩
 keep:=fun i h h' st k=>st.at fun o e=>k it (by simp) o e
 item:=by
  intro X hP hw hK hc i pins s σ H E I hf st hg;subst hP hw hK;obtain⟨xs,x,hq,hx⟩:=hg;obtain⟨its,rv,p,hz⟩:=I.list hq;obtain⟨u,hu,ru⟩:=rv.get hx;obtain⟨f0,f1,f2,f3,f4,f5⟩:=hf it (by simp);refine wpAny_pyNext_list_item st p.isList (x:=u) (by simpa using hu) fun h' st' sb=>?_
  have I1:Inv X pins σ H { s with heap:=h' }:=I.turned (t':=s.toks) (fun b o hb e=>(sb.2 b hb).trans e) f0 f1 f3 f4 f5;obtain⟨o,e,c,d⟩:=id st';exact⟨u,rfl,zK6 (s:={ s with heap:=h' }) e c d (by decide) ⟨x,H,I1,ru,⟨rfl,fun ys hy=>by rw[I.list_inj hy hq];exact hx⟩,st',fun b hb=>(hf b hb).1⟩⟩
 done:=by
  intro X hP hw hK hc i pins s σ H E I hf st hg;subst hP hw hK;obtain⟨xs,hq,hx⟩:=hg;obtain⟨its,rv,p,hz⟩:=I.list hq;obtain⟨f0,f1,f2,f3,f4,f5⟩:=hf it (by simp);have hl:=rv.length;exact wpAny_pyNext_list_end (I.ok.hd hc) st p.isList (by simp;omega) fun h' eb=>⟨rfl,I.turned (t':=s.toks) (fun b o hb e=>eb b o hb e) f0 f1 f3 f4 f5⟩
 self:=fun _ _ _ _ _ st h=>wpAny_pyIter_listiter st h
theorem zHI{P:qEq}{w:World}{K:qA0}{tg:Expr}(a it:Addr):Turn P w K tg (Itt K a) [it] it (fun i h=>h.IsTupleIter it a i) where
 mem:=by simp
 obj:=fun i h st b hb=>by
  have e:b=it:=by simpa using hb
  subst e;obtain⟨o,e,c,d⟩:=st;exact⟨o,e,fun v z=>by rw[d]at z;cases z⟩
 keep:=fun i h h' st k=>st.at fun o e=>k it (by simp) o e
 item:=by
  intro X hP hw hK hc i pins s σ H E I hf st hg;subst hP hw hK;obtain⟨xs,x,hq,hx⟩:=hg;obtain⟨its,rv,p,hz⟩:=I.tuple hq;obtain⟨u,hu,ru⟩:=rv.get hx;obtain⟨f0,f1,f2,f3,f4,f5⟩:=hf it (by simp);refine wpAny_pyNext_tuple_item st (show s.heap.IsTuple a its.toArray from p) (x:=u) (by simpa using hu) fun h' st' sb=>?_
  have I1:Inv X pins σ H { s with heap:=h' }:=I.turned (t':=s.toks) (fun b o hb e=>(sb.2 b hb).trans e) f0 f1 f3 f4 f5;obtain⟨o,e,c,d⟩:=id st';exact⟨u,rfl,zK6 (s:={ s with heap:=h' }) e c d (by decide) ⟨x,H,I1,ru,⟨rfl,fun ys hy=>by rw[I.tuple_inj hy hq];exact hx⟩,st',fun b hb=>(hf b hb).1⟩⟩
 done:=by
  intro X hP hw hK hc i pins s σ H E I hf st hg;subst hP hw hK;obtain⟨xs,hq,hx⟩:=hg;obtain⟨its,rv,p,hz⟩:=I.tuple hq;obtain⟨f0,f1,f2,f3,f4,f5⟩:=hf it (by simp);have hl:=rv.length;exact wpAny_pyNext_tuple_end (I.ok.hd hc) st (show s.heap.IsTuple a its.toArray from p) (by simp;omega) fun h' eb=>⟨rfl,I.turned (t':=s.toks) (fun b o hb e=>eb b o hb e) f0 f1 f3 f4 f5⟩
 self:=fun _ _ _ _ _ st h=>wpAny_pyIter_tupleiter st h
theorem zHJ{P:qEq}{w:World}{K:qA0}{tg:Expr}(it:Addr)(lo:Int)(n:Nat):Turn P w K tg (Itr lo n) [it] it (fun i h=>IsRangeIter h it (lo+(i:Nat)*1) ((n:Int)-(i:Nat)) 1) where
 mem:=by simp
 obj:=fun i h st b hb=>by
  have e:b=it:=by simpa using hb
  subst e;exact⟨_,st,fun v z=>by
   have z':Data.fields _=Data.cell v:=z;cases z'⟩
 keep:=fun i h h' st k=>k it (by simp) _ st
 item:=by
  intro X hP hw hK hc i pins s σ H E I hf st hg;subst hP hw hK;obtain⟨f0,f1,f2,f3,f4,f5⟩:=hf it (by simp);have W:=Walks.range (prog:=X.prog) (w:=X.w) (I.ok.hd hc) it lo 1 n;refine W.item i s _ _ hg st fun v h' tk hv st' kk=>?_
  obtain⟨t,rfl⟩:=hv;have I1:Inv X pins σ H { s with heap:=h',toks:=tk }:=I.turned (fun b o hb e=>kk b o (by simpa using hb) e) f0 f1 f3 f4 f5;refine⟨_,rfl,zK6 (s:={ s with heap:=h',toks:=tk }) (n:="range_iterator") st' rfl rfl (by decide) ⟨.int (lo+i),H,I1,⟨t,?_⟩,⟨rfl,rfl⟩,st',fun b hb=>(hf b hb).1⟩⟩;rw[Int.mul_one]
 done:=by
  intro X hP hw hK hc i pins s σ H E I hf st hg;subst hP hw hK;obtain⟨f0,f1,f2,f3,f4,f5⟩:=hf it (by simp);exact wpAny_pyNext_range_end (I.ok.hd hc) st (by have:n<=i:=hg;omega) fun h' eb=>⟨rfl,I.turned (t':=s.toks) (fun b o hb e=>eb b o hb e) f0 f1 f3 f4 f5⟩
 self:=fun _ _ _ _ _ st h=>wpAny_pyIter_rangeiter st h
section
variable{X:Cx}{tg:Expr}
theorem zJT{pins:List (Addr×Obj)}{σ:St}{H:Hp}{s:qEo}{R:It->Hp->Prop}{E:Value->qEo->Prop}{lo hi:Int}{t u v:Tok}{tk:Nat}(I:Inv X pins σ H s)(h1:-(2 ^ 62)<=lo)(h2:lo<2 ^ 62)(h3:-(2 ^ 62)<=hi)(h4:hi<2 ^ 62)
  (q:R (Itr lo (hi-lo).toNat) H):wpAny (model X.prog X.w) X.A (pyIter (.ref s.heap.objs.size)) (PIE X pins σ tg R) E { s with heap:=s.heap.push { cls:=.type "range",data:=.fields #[.int lo t,.int hi u,.int 1 v] },toks:=tk }:=by
 refine wpAny_pyIter_range (IsRange.new ..) (small_one h1 h2 h3 h4) ?_;have I1:Inv X pins σ H { s with heap:=s.heap.push { cls:=.type "range",data:=.fields #[.int lo t,.int hi u,.int 1 v] },toks:=tk }:=I.kept fun b o e=>qEp _ e
 refine⟨(s.heap.push { cls:=.type "range",data:=.fields #[.int lo t,.int hi u,.int 1 v] }).objs.size,[(s.heap.push { cls:=.type "range",data:=.fields #[.int lo t,.int hi u,.int 1 v] }).objs.size],_,_,H,rfl,
  I1.kept (t':=tk) fun b o e=>qEp _ e,zHJ _ lo (hi-lo).toNat,?_,fun b hb=>?_,q⟩
 ·have e1:lo+((0:Nat):Int)*1=lo:=by simp
  have e2:(((hi-lo).toNat:Nat):Int)-((0:Nat):Int)=qH4 lo hi 1:=by rw[rangeSize_one];split<;>omega
  show IsRangeIter _ _ (lo+((0:Nat):Int)*1) ((((hi-lo).toNat:Nat):Int)-((0:Nat):Int)) 1;rw[e1,e2];exact qEv _ rfl
 ·have e:b=(s.heap.push { cls:=.type "range",data:=.fields #[.int lo t,.int hi u,.int 1 v] }).objs.size:=by simpa using hb
  subst e;exact I1.fpOk (qAa _) (I1.hok.fresh (qAa _))
def zOG(ta:TA):TI:=fun σ H R=>ta σ H fun vs H1=>∃j:Int,vs=[.int j]/\-(2 ^ 62)<=j/\j<2 ^ 62/\R (Itr 0 j.toNat) H1
theorem zAT{a:Expr}{ta:TA}{p pos:Pos}(hg:Gl X "range")(hm:X.mg "range" = none)(ha:PA X [a] ta)(hs:starEach [a] X.env=[(false,eval a X.env)]:=by rfl):PI X tg (.Call (.Name "range" p) [a] [] pos) (zOG ta):=by
 intro pins s σ H R I h;refine Call_ (zH7 I hg hm boot_range (qBx (thn (ha pos pins s σ H _ I h) fun us s1 z0=>?_) hs rfl));obtain⟨vs,H1,I1,r1,q1⟩:=z0;obtain⟨j,e,q1,q2,q⟩:=q1;subst e;cases r1 with
 |cons r rr=>
  cases rr;obtain⟨t,rfl⟩:=r;exact call_range_1 (zJT I1 (by omega) (by omega) q1 q2 (by simpa using q))
noncomputable def tFor(wi:TI)(g:TG)(tb:TS):TS:=fun D σ H=>wi σ H fun J H1=>∃W:Nat->Nat->St->Hp->Prop,(∃m,W 0 m σ H1)/\∀i m σ H,W i m σ H ->
 (J.stop i H/\D.nx σ H)\/(J.go i H/\∃N:St->Hp->Prop,(∀σ' H',N σ' H'->∃m',m'<m/\W (i+1) m' σ' H')/\∀x H',J.yld i H x H'->g x σ H' fun σ2 H2=>tb { D with nx:=N,ct:=N,bk:=D.nx } σ2 H2)
noncomputable def zEV(fp:List Addr)(h:Heap):List (Addr×Obj):=fp.filterMap fun b=>(h.get? b).map fun o=>(b,o)
theorem zCP{fp:List Addr}{h:Heap}{b:Addr}{o:Obj}(hb:b∈fp)(e:h.get? b=some o):(b,o)∈zEV fp h:=qCy.mpr ⟨b,hb,by rw[e];rfl⟩
theorem zIE{fp:List Addr}{h:Heap}{p:Addr×Obj}(hp:p∈zEV fp h):p.1∈fp/\h.get? p.1=some p.2:=by
 obtain⟨b,hb,e⟩:=qCy.mp hp;cases q:h.get? b with
 |none=>rw[q]at e;cases e
 |some o=>
  rw[q]at e;have e':(b,o)=p:=qAr e;subst e';exact⟨hb,q⟩
theorem Inv.pinned{pins:List (Addr×Obj)}{σ:St}{H:Hp}{s:qEo}{fp:List Addr}(I:Inv X pins σ H s)(hf:∀b∈fp,FpOk X pins H b)(ho:∀b∈fp,∃o,s.heap.get? b=some o/\∀v,o.data≠.cell v):Inv X (pins++zEV fp s.heap) σ H s:=
 I.pins_of fun p hp=>(qB4.mp hp).elim (fun z=>I.pin p (qAi _ z)) fun z=>by
  obtain⟨hb,e⟩:=zIE z;obtain⟨f0,f1,f2,_⟩:=hf p.1 hb;obtain⟨o,e',d⟩:=ho p.1 hb;rw[e]at e';cases e';exact⟨e,f0,f1,f2,d⟩
theorem Inv.unpinned{pins pl:List (Addr×Obj)}{σ:St}{H:Hp}{s:qEo}(I:Inv X (pins++pl) σ H s):Inv X pins σ H s:=I.pins_of fun p hp=>I.pin p (qAi _ (qBs _ hp))
theorem zNS{iter:Expr}{body:List Stmt}{wi:TI}{g:TG}{tb:TS}{pos:Pos}(hp:PassesOwn (model X.prog X.w) X.A X.env X.xe)(hc:X.calm=true)(hi:PI X tg iter wi)(hg:PG X tg g)(hb:PSs X body tb)
  (hs:∀x,qFk iter X.env x=pure x:=by intro _;rfl):PS X (.For tg iter body [] pos) (tFor wi g tb):=by
 intro pins s σ H D I h;refine wpAny_For (thn (hi pins s σ H _ I h) fun v s1 h1=>thn h1 fun itv s2 h2=>?_) hs;obtain⟨it,fp,tn,J,H2,e,I2,T,st2,f2,W,⟨m0,w0⟩,turn⟩:=h2;subst e;have stat:∀{H':Hp},(∀b∈fp,H' b=none)->∀b∈fp,FpOk X pins H' b:=fun hn b hb=>⟨hn b hb,(f2 b hb).2⟩
 refine codeAny_forLoop_any (fun n s'=>∃i σ' H',Inv X pins σ' H' s'/\tn i s'.heap/\(∀b∈fp,H' b=none)/\W i n σ' H') ?_ m0 ⟨0,σ,H2,I2,st2,fun b hb=>(f2 b hb).1,w0⟩
 rintro n s3 ⟨i,σ3,H3,I3,st3,fr3,w3⟩
 rcases turn i n σ3 H3 w3 with⟨stop,qn⟩|⟨go,N,hN,step⟩
 ·refine qF4 hp (thn (T.done X rfl rfl rfl hc i pins s3 σ3 H3 X.xe I3 (stat fr3) st3 stop) fun r s4 z0=>?_);obtain⟨hr,I4⟩:=z0;subst hr;exact qFt ⟨σ3,H3,I4,qn⟩
 ·refine qF4 hp (thn (T.item X rfl rfl rfl hc i pins s3 σ3 H3 X.xe I3 (stat fr3) st3 go) fun r s4 z0=>?_);obtain⟨u,hr,h4⟩:=z0;subst hr;refine qF4 hp (thn h4 fun _ s5 z0=>?_);obtain⟨x,H5,I5,r5,y5,st5,fr5⟩:=z0;have I5':=I5.pinned (stat fr5) (T.obj _ _ st5);refine qF4 hp (thn (hg _ s5 σ3 H5 x u _ I5' r5 (step x H5 y5)) fun _ s6 z0=>?_);obtain⟨σ6,H6,I6,q6⟩:=z0;refine qF4 hp (thn (hb _ s6 σ6 H6 _ I6 q6) fun f s7 q7=>?_);have again:∀{σ7:St}{H7:Hp},Inv X (pins++zEV fp s5.heap) σ7 H7 s7->N σ7 H7->∃m,m<n/\∃i σ' H',Inv X pins σ' H' s7/\tn i s7.heap/\(∀b∈fp,H' b=none)/\W i m σ' H':=fun{σ7 H7} I7 n7=>by
   obtain⟨m',hm,w7⟩:=hN σ7 H7 n7;refine⟨m',hm,i+1,σ7,H7,I7.unpinned,T.keep _ _ _ st5 fun b hb o e=>(I7.pin (b,o) (qAi _ (qAi _ (zCP hb e)))).1,fun b hb=>?_,w7⟩;obtain⟨o,e,d⟩:=T.obj _ _ st5 b hb;exact(I7.pin (b,o) (qAi _ (qAi _ (zCP hb e)))).2.1
  cases f with
  |next=>obtain⟨σ7,H7,I7,n7⟩:=q7;exact again I7 n7
  |cont=>obtain⟨σ7,H7,I7,n7⟩:=q7;exact again I7 n7
  |brk=>obtain⟨σ7,H7,I7,q7⟩:=q7;exact⟨σ7,H7,I7.unpinned,q7⟩
  |ret v=>obtain⟨x7,σ7,H7,I7,r7,q7⟩:=q7;exact⟨x7,σ7,H7,I7.unpinned,r7,q7⟩
end
abbrev R2:=V->V->Hp->VK->Prop
def OpR(X:Cx)(f:Value->Value->Sem Value)(r:R2):Prop:=
 ∀(pins:List (Addr×Obj))(s:qEo)(σ:St)(H:Hp)(x y:V)(v u:Value)(Q:VK),Inv X pins σ H s->RelV x v->RelV y u->r x y H Q ->
  wpAny (model X.prog X.w) X.A (f v u) (EP X pins σ Q) X.xe s
def UnR(X:Cx)(f:Value->Sem Value)(r:V->Hp->VK->Prop):Prop:=
 ∀(pins:List (Addr×Obj))(s:qEo)(σ:St)(H:Hp)(x:V)(v:Value)(Q:VK),Inv X pins σ H s->RelV x v->r x H Q ->
  wpAny (model X.prog X.w) X.A (f v) (EP X pins σ Q) X.xe s
def zCO(X:Cx)(f:Value)(r:List V->Hp->VK->Prop):Prop:=
 ∀(pins:List (Addr×Obj))(s:qEo)(σ:St)(H:Hp)(xs:List V)(us:List Value)(Q:VK),Inv X pins σ H s->Vals xs us->r xs H Q ->
  wpAny (model X.prog X.w) X.A (call f us) (EP X pins σ Q) X.xe s
def TruR(X:Cx)(r:V->Hp->(Bool->Hp->Prop)->Prop):Prop:=
 ∀(pins:List (Addr×Obj))(s:qEo)(σ:St)(H:Hp)(x:V)(v:Value)(Q:Bool->Hp->Prop),Inv X pins σ H s->RelV x v->r x H Q ->
  wpAny (model X.prog X.w) X.A (truthy v) (TP X pins σ Q) X.xe s
noncomputable def tOp(r:R2)(ta tb:TE):TE:=fun σ H Q=>ta σ H fun x H1=>tb σ H1 fun y H2=>r x y H2 Q
noncomputable def tUn(r:V->Hp->VK->Prop)(ta:TE):TE:=fun σ H Q=>ta σ H fun x H1=>r x H1 Q
noncomputable def rI(C:Int->Int->Prop)(g:Int->Int->V):R2:=fun x y H Q=>∃i j,x=.int i/\y=.int j/\C i j/\Q (g i j) H
noncomputable def rI0(g:Int->Int->V):R2:=fun x y H Q=>∃i j,x=.int i/\y=.int j/\Q (g i j) H
def rU(g:Int->V):V->Hp->VK->Prop:=fun x H Q=>∃i,x=.int i/\Q (g i) H
section
variable{X:Cx}{a b c:Expr}{ta tb tc:TE}{pos:Pos}
theorem binT(ha:PE X a ta)(hb:PE X b tb){pins:List (Addr×Obj)}{s:qEo}{σ:St}{H:Hp}{R:V->V->Hp->Prop}(I:Inv X pins σ H s)
  (h:ta σ H fun x H1=>tb σ H1 fun y H2=>R x y H2) {Q:Value->qEo->Prop} {f:Value->Value->Sem Value}
  (hf:∀v u s2 x y H2,Inv X pins σ H2 s2->RelV x v->RelV y u->R x y H2->wpAny (model X.prog X.w) X.A (f v u) Q X.xe s2) :
  wpAny (model X.prog X.w) X.A (eval a X.env) (fun v s₁=>wpAny (model X.prog X.w) X.A (eval b X.env) (fun u s₂=>wpAny (model X.prog X.w) X.A (f v u) Q X.xe s₂) X.xe s₁) X.xe s:=by
 refine thn (ha pins s σ H _ I h) fun v s1 z0=>?_
 obtain⟨x,H1,I1,r1,q1⟩:=z0;refine thn (hb pins s1 σ H1 _ I1 q1) fun u s2 z0=>?_
 obtain⟨y,H2,I2,r2,q2⟩:=z0;exact hf v u s2 x y H2 I2 r1 r2 q2
theorem zAZ{op:Operator}{r:R2}(ho:OpR X (binaryOp op) r)(ha:PE X a ta)(hb:PE X b tb):PE X (.BinOp a op b pos) (tOp r ta tb):=by
 intro pins s σ H Q I h;exact wpAny_BinOp (binT ha hb I h fun v u s2 x y H2 I2 rx ry q=>ho pins s2 σ H2 x y v u Q I2 rx ry q)
theorem zPE{op:UnaryOp}{r:V->Hp->VK->Prop}(ho:UnR X (unaryOp op) r)(ha:PE X a ta):PE X (.UnaryOp op a pos) (tUn r ta):=by
 intro pins s σ H Q I h;exact UnaryOp_ (thn (ha pins s σ H _ I h) fun v s1 ⟨x,H1,I1,r1,q1⟩=>ho pins s1 σ H1 x v Q I1 r1 q1)
theorem opI{f:Value->Value->Sem Value}{C:Int->Int->Prop}{g:Int->Int->Int}
  (rule:∀(i j:Int)(t u:Tok)(s:qEo)(Q:Value->qEo->Prop)(E:Value->qEo->Prop),C i j->Q (.int (g i j) s.toks) { s with toks:=s.toks+1 }->wpAny (model X.prog X.w) X.A (f (.int i t) (.int j u)) Q E s) :
  OpR X f (rI C fun i j=>.int (g i j)):=by
 intro pins s σ H x y v u Q I rx ry h;obtain⟨i,j,rfl,rfl,hc,q⟩:=h;obtain⟨t,rfl⟩:=rx;obtain⟨t',rfl⟩:=ry;exact rule i j t t' s _ _ hc ⟨.int (g i j),H,I.tok _,⟨_,rfl⟩,q⟩
theorem opI0{f:Value->Value->Sem Value}{g:Int->Int->Int}
  (rule:∀(i j:Int)(t u:Tok)(s:qEo)(Q:Value->qEo->Prop)(E:Value->qEo->Prop),Q (.int (g i j) s.toks) { s with toks:=s.toks+1 }->wpAny (model X.prog X.w) X.A (f (.int i t) (.int j u)) Q E s) :
  OpR X f (rI0 fun i j=>.int (g i j)):=by
 intro pins s σ H x y v u Q I rx ry h;obtain⟨i,j,rfl,rfl,q⟩:=h;obtain⟨t,rfl⟩:=rx;obtain⟨t',rfl⟩:=ry;exact rule i j t t' s _ _ ⟨.int (g i j),H,I.tok _,⟨_,rfl⟩,q⟩
theorem opB0{f:Value->Value->Sem Value}{g:Int->Int->Bool}
  (rule:∀(i j:Int)(t u:Tok)(s:qEo)(Q:Value->qEo->Prop)(E:Value->qEo->Prop),Q (.bool (g i j)) s->wpAny (model X.prog X.w) X.A (f (.int i t) (.int j u)) Q E s) :
  OpR X f (rI0 fun i j=>.bl (g i j)):=by
 intro pins s σ H x y v u Q I rx ry h;obtain⟨i,j,rfl,rfl,q⟩:=h;obtain⟨t,rfl⟩:=rx;obtain⟨t',rfl⟩:=ry;exact rule i j t t' s _ _ ⟨.bl (g i j),H,I,rfl,q⟩
def CMul(i j:Int):Prop:=(-(2 ^ 64)<i/\i<2 ^ 64)\/(-(2 ^ 64)<j/\j<2 ^ 64)
theorem CMul.ok{i j:Int}(h:CMul i j):IntMulOk i j:=by
 rcases h with⟨h1,h2⟩|⟨h1,h2⟩
 ·exact .of_left (intBits_le_64 h1 h2)
 ·exact .of_right (intBits_le_64 h1 h2)
theorem zO4:OpR X (binaryOp .Add) (rI0 fun i j=>.int (i+j)):=opI0 fun _ _ _ _ _ _ _ q=>add_int q
theorem zNZ:OpR X (binaryOp .Sub) (rI0 fun i j=>.int (i-j)):=opI0 fun _ _ _ _ _ _ _ q=>sub_int q
theorem zO1:OpR X (binaryOp .Mod) (rI (fun _ j=>0<j) fun i j=>.int (i%j)):=opI fun i j _ _ _ _ _ hc q=>by
 have h1:(0:Int)<j:=hc;exact mod_int' (by omega) (by rw[Int.fmod_eq_emod_of_nonneg i (by omega)];exact q)
theorem unI{f:Value->Sem Value}{g:Int->Int}
  (rule:∀(i:Int)(t:Tok)(s:qEo)(Q:Value->qEo->Prop)(E:Value->qEo->Prop),Q (.int (g i) s.toks) { s with toks:=s.toks+1 }->wpAny (model X.prog X.w) X.A (f (.int i t)) Q E s) :
  UnR X f (rU fun i=>.int (g i)):=by
 intro pins s σ H x v Q I rx h;obtain⟨i,rfl,q⟩:=h;obtain⟨t,rfl⟩:=rx;exact rule i t s _ _ ⟨.int (g i),H,I.tok _,⟨_,rfl⟩,q⟩
theorem zN0:UnR X (unaryOp .USub) (rU fun i=>.int (-i)):=unI fun _ _ _ _ _ q=>neg_int q
end
noncomputable def scal:V->V->Bool
 |.non,.non=>true | .non,.int _=>true | .int _,.non=>true | .non,.bl _=>true | .bl _,.non=>true | .non,.str _=>true | .str _,.non=>true
 |.int _,.int _=>true | .bl _,.bl _=>true | .str _,.str _=>true | .byt _,.byt _=>true
 |.int _,.str _=>true | .str _,.int _=>true | .bl _,.str _=>true | .str _,.bl _=>true
 |_,_=>false
def rEq:R2:=fun x y H Q=>scal x y=true/\Q (.bl (decide (x=y))) H
def rNe:R2:=fun x y H Q=>scal x y=true/\Q (.bl (!decide (x=y))) H
theorem zJ7{i j:Int}:decide (V.int i=V.int j)=(i==j):=by
 rw[qBy];simp
theorem dec_bl{i j:Bool}:decide (V.bl i=V.bl j)=(i==j):=by
 rw[qBy];simp
theorem zJ6{i j:Str}:decide (V.str i=V.str j)=(i==j):=by
 rw[qBy];simp
theorem zJ8{i j:Array UInt8}:decide (V.byt i=V.byt j)=(i.toList==j.toList):=by
 rw[qBy];cases i;cases j;simp
section
variable{X:Cx}{a b c:Expr}{ta tb tc:TE}{pos:Pos}
theorem fin_bl{pins:List (Addr×Obj)}{σ:St}{H:Hp}{s:qEo}{Q:VK}{k k':Bool}(I:Inv X pins σ H s)(q:Q (.bl k) H)(e:k=k'):EP X pins σ Q (.bool k') s:=by
 subst e;exact⟨.bl k,H,I,rfl,q⟩
theorem zPL:OpR X (compareOp .Eq) rEq:=by
 intro pins s σ H x y v u Q I rx ry h;obtain⟨hs,q⟩:=h;cases x with
 |non=>
  cases rx;cases y with
  |non=>cases ry;exact qDo (fin_bl I q (by simp))
  |bl j=>cases ry;exact qDp (fin_bl I q (by simp))
  |int j=>obtain⟨t',rfl⟩:=ry;exact qE0 (fin_bl I q (by simp))
  |str j=>obtain⟨t',rfl⟩:=ry;exact qE1 (fin_bl I q (by simp))
  |_=>exact absurd (show false=true from hs) qA6
 |bl i=>
  cases rx;cases y with
  |non=>cases ry;exact qDq (fin_bl I q (by simp))
  |bl j=>cases ry;exact eq_bool (fin_bl I q dec_bl)
  |str j=>obtain⟨t',rfl⟩:=ry;exact qDr (fin_bl I q (by simp))
  |_=>exact absurd (show false=true from hs) qA6
 |int i=>
  obtain⟨t,rfl⟩:=rx;cases y with
  |non=>cases ry;exact qE2 (fin_bl I q (by simp))
  |int j=>obtain⟨t',rfl⟩:=ry;exact eq_int (fin_bl I q zJ7)
  |str j=>obtain⟨t',rfl⟩:=ry;exact qE3 (fin_bl I q (by simp))
  |_=>exact absurd (show false=true from hs) qA6
 |str i=>
  obtain⟨t,rfl⟩:=rx;cases y with
  |non=>cases ry;exact qE4 (fin_bl I q (by simp))
  |bl j=>cases ry;exact qDs (fin_bl I q (by simp))
  |int j=>obtain⟨t',rfl⟩:=ry;exact qE5 (fin_bl I q (by simp))
  |str j=>obtain⟨t',rfl⟩:=ry;exact eq_str (fin_bl I q zJ6)
  |_=>exact absurd (show false=true from hs) qA6
 |byt i=>
  obtain⟨t,rfl⟩:=rx;cases y with
  |byt j=>obtain⟨t',rfl⟩:=ry;exact PySem.W.eq_bytes (fin_bl I q zJ8)
  |_=>exact absurd (show false=true from hs) qA6
 |_=>cases y<;>exact absurd (show false=true from hs) qA6
theorem zPH:OpR X (compareOp .NotEq) rNe:=by
 intro pins s σ H x y v u Q I rx ry h;obtain⟨hs,q⟩:=h;cases x with
 |non=>
  cases rx;cases y with
  |non=>cases ry;exact qDt (fin_bl I q (by simp))
  |bl j=>cases ry;exact qDu (fin_bl I q (by simp))
  |int j=>obtain⟨t',rfl⟩:=ry;exact qE6 (fin_bl I q (by simp))
  |str j=>obtain⟨t',rfl⟩:=ry;exact qE7 (fin_bl I q (by simp))
  |_=>exact absurd (show false=true from hs) qA6
 |bl i=>
  cases rx;cases y with
  |non=>cases ry;exact qDv (fin_bl I q (by simp))
  |bl j=>cases ry;exact ne_bool (fin_bl I q (congrArg not dec_bl))
  |str j=>obtain⟨t',rfl⟩:=ry;exact qDw (fin_bl I q (by simp))
  |_=>exact absurd (show false=true from hs) qA6
 |int i=>
  obtain⟨t,rfl⟩:=rx;cases y with
  |non=>cases ry;exact qE8 (fin_bl I q (by simp))
  |int j=>obtain⟨t',rfl⟩:=ry;exact ne_int (fin_bl I q (congrArg not zJ7))
  |str j=>obtain⟨t',rfl⟩:=ry;exact qE9 (fin_bl I q (by simp))
  |_=>exact absurd (show false=true from hs) qA6
 |str i=>
  obtain⟨t,rfl⟩:=rx;cases y with
  |non=>cases ry;exact qEa (fin_bl I q (by simp))
  |bl j=>cases ry;exact qDx (fin_bl I q (by simp))
  |int j=>obtain⟨t',rfl⟩:=ry;exact qEb (fin_bl I q (by simp))
  |str j=>obtain⟨t',rfl⟩:=ry;exact ne_str (fin_bl I q (congrArg not zJ6))
  |_=>exact absurd (show false=true from hs) qA6
 |byt i=>
  obtain⟨t,rfl⟩:=rx;cases y with
  |byt j=>obtain⟨t',rfl⟩:=ry;exact PySem.W.ne_bytes (fin_bl I q (congrArg not zJ8))
  |_=>exact absurd (show false=true from hs) qA6
 |_=>cases y<;>exact absurd (show false=true from hs) qA6
theorem zPI:OpR X (compareOp .Lt) (rI0 fun i j=>.bl (decide (i<j))):=opB0 fun _ _ _ _ _ _ _ q=>lt_int q
theorem zPJ:OpR X (compareOp .LtE) (rI0 fun i j=>.bl (decide (i<=j))):=opB0 fun _ _ _ _ _ _ _ q=>le_int q
theorem zPK:OpR X (compareOp .Gt) (rI0 fun i j=>.bl (decide (j<i))):=opB0 fun _ _ _ _ _ _ _ q=>gt_int q
theorem zB1(b:Expr){op:CmpOp}(h:op≠.In:=by decide)(h2:op≠.NotIn:=by decide):qFo op b=false:=by
 have e1:(op==CmpOp.In)=false:=by cases op<;>first|rfl|exact absurd rfl h
 have e2:(op==CmpOp.NotIn)=false:=by cases op<;>first|rfl|exact absurd rfl h2
 cases b<;>simp[qFo,e1,e2]
theorem zC5{op:CmpOp}{r:R2}(ho:OpR X (compareOp op) r)(ha:PE X a ta)(hb:PE X b tb)(hm:qFo op b=false):PE X (.Compare a [op] [b] pos) (tOp r ta tb):=by
 intro pins s σ H Q I h;exact wpAny_Compare1 (binT ha hb I h fun v u s2 x y H2 I2 rx ry q=>ho pins s2 σ H2 x y v u Q I2 rx ry q) hm
def TruV(K:qA0)(x:V)(H:Hp)(k:Bool):Prop:=
 match x with
 |.non=>k=false
 |.bl b=>k=b
 |.int i=>k=(i != 0)
 |.str y=>y.length<=sizeLine/\k=((y.length:Int) != 0)
 |.byt y=>y.size<=sizeLine/\k=((y.size:Int) != 0)
 |.ref p=>(∃xs,SqL K H p xs/\k = !xs.isEmpty)\/(∃xs,SqT K H p xs/\k = !xs.isEmpty)\/∃kvs,H p=some (.dK kvs)/\k = !kvs.isEmpty
 |_=>False
theorem zHQ{κ:Type}{kvs:List (κ×V)}{vs:List (κ×Value)}(r:KV kvs vs):(!vs.isEmpty) = !kvs.isEmpty:=by
 cases r<;>rfl
theorem zEY{xs:List V}{its:List Value}(r:Vals xs its):(!its.toArray.isEmpty) = !xs.isEmpty:=by
 cases r<;>simp
theorem zEB:(sizeLine:Nat)<2 ^ 63:=by rw[qGq];decide
theorem zN3:TruR X (fun x H Q=>∃k,TruV X.K x H k/\Q k H):=by
 intro pins s σ H x v Q I rx h;obtain⟨k,e,q⟩:=h;have hl:=zEB;have hs:sizeLine=16777216:=qGq;cases x with
 |non=>
  cases rx;have e':k=false:=e;subst e';exact truthy_none ⟨H,I,q⟩
 |bl b=>
  cases rx;have e':k=b:=e;subst e';exact wpAny_truthy_bool ⟨H,I,q⟩
 |int i=>
  obtain⟨t,rfl⟩:=rx;have e':k=(i != 0):=e;subst e';exact PySem.P.truthy_int ⟨H,I,q⟩
 |str y=>
  obtain⟨t,rfl⟩:=rx;obtain⟨hy,e'⟩:y.length<=sizeLine/\k=((y.length:Int) != 0):=e;subst e';exact PySem.P.truthy_str (by omega) ⟨H,I.tok _,q⟩
 |byt y=>
  obtain⟨t,rfl⟩:=rx;obtain⟨hy,e'⟩:y.size<=sizeLine/\k=((y.size:Int) != 0):=e;subst e';exact PySem.W.truthy_bytes (by omega) ⟨H,I.tok _,q⟩
 |ref p=>
  cases rx;have e':(∃xs,SqL X.K H p xs/\k = !xs.isEmpty)\/(∃xs,SqT X.K H p xs/\k = !xs.isEmpty)\/∃kvs,H p=some (.dK kvs)/\k = !kvs.isEmpty:=e
  rcases e' with⟨xs,hx,e'⟩|⟨xs,hx,e'⟩|⟨kvs,hx,e'⟩
  ·subst e';obtain⟨its,r,pl,hz⟩:=I.list hx;have hlen:=r.length;exact wpAny_truthy_list pl.isList (by simp only[qAc];omega) ⟨H,I.tok _,by rw[zEY r];exact q⟩
  ·subst e';obtain⟨its,r,pl,hz⟩:=I.tuple hx;have hlen:=r.length;exact truthy_tuple pl (by simp only[qAc];omega) ⟨H,I.tok _,by rw[zEY r];exact q⟩
  ·subst e';obtain⟨hz,hS,vs,r,m⟩:kvs.length<=sizeLine/\(p==qFj)=false/\∃vs,KV kvs vs/\s.heap.DictOf (zGP X.prog X.w) p vs:=I.hok p _ hx;have hlen:kvs.length=vs.length:=qH3 r;exact wpAny_truthy_dict hS m (by omega) ⟨H,I.tok _,by rw[zHQ r];exact q⟩
 |_=>exact(show False from e).elim
theorem zHM:OpR X (binaryOp .Add) (fun x y H Q=>∃i j,x=.str i/\y=.str j/\i.length+j.length<=sizeLine/\Q (.str (i++j)) H):=by
 intro pins s σ H x y v u Q I rx ry h;obtain⟨i,j,rfl,rfl,hz,q⟩:=h;obtain⟨t,rfl⟩:=rx;obtain⟨t',rfl⟩:=ry;exact add_str (fun t' tk=>⟨.str (i++j),H,I.tok _,⟨_,rfl⟩,q⟩) hz
theorem zGK{x:V}{us:List Value}(r:Vals [x] us):∃u,us=[u]/\RelV x u:=by
 cases r with
 |cons r1 r2=>cases r2;exact⟨_,rfl,r1⟩
theorem zLL{x y:V}{us:List Value}(r:Vals [x,y] us):∃u w',us=[u,w']/\RelV x u/\RelV y w':=by
 cases r with
 |cons r1 r2=>
  cases r2 with
  |cons r3 r4=>cases r4;exact⟨_,_,rfl,r1,r3⟩
theorem zG5(hc:X.calm=true):zCO X (.builtin "max") (fun xs H Q=>∃i j,xs=[.int i,.int j]/\Q (.int (if j>i then j else i)) H):=by
 intro pins s σ H xs us Q I r h;obtain⟨i,j,rfl,q⟩:=h;obtain⟨u,w',rfl,⟨t,rfl⟩,⟨t',rfl⟩⟩:=zLL r;refine max_two_ints (I.ok.hd hc) fun h' tk k=>⟨_,H,I.kept k,?_,q⟩
 by_cases hj:j>i
 ·rw[if_pos hj,if_pos hj];exact⟨_,rfl⟩
 ·rw[if_neg hj,if_neg hj];exact⟨_,rfl⟩
theorem zG4(hc:X.calm=true):zCO X (.builtin "min") (fun xs H Q=>∃i j,xs=[.int i,.int j]/\Q (.int (if j<i then j else i)) H):=by
 intro pins s σ H xs us Q I r h;obtain⟨i,j,rfl,q⟩:=h;obtain⟨u,w',rfl,⟨t,rfl⟩,⟨t',rfl⟩⟩:=zLL r;refine min_two_ints (I.ok.hd hc) fun h' tk k=>⟨_,H,I.kept k,?_,q⟩
 by_cases hj:j<i
 ·rw[if_pos hj,if_pos hj];exact⟨_,rfl⟩
 ·rw[if_neg hj,if_neg hj];exact⟨_,rfl⟩
theorem zJF:zCO X (.type "int") (fun xs H Q=>(∃i,xs=[.int i]/\Q (.int i) H)\/∃k,xs=[.bl k]/\Q (.int (if k then 1 else 0)) H):=by
 intro pins s σ H xs us Q I r h;rcases h with⟨i,rfl,q⟩|⟨k,rfl,q⟩
 ·obtain⟨u,rfl,t,rfl⟩:=zGK r;exact call_int_int ⟨.int i,H,I,⟨_,rfl⟩,q⟩
 ·obtain⟨u,rfl,r1⟩:=zGK r;cases r1;exact call_int_bool ⟨.int (if k then 1 else 0),H,I.tok _,⟨_,rfl⟩,q⟩
end
structure ObjM(h:Heap)(x dx C:Addr)(mA:Str->Option Value):Prop where
 obj:h.get? x=some (qCk C dx)
 ns:h.Ns1 dx mA
 ne:dx≠x
theorem zIJ{h:Heap}{dx:Addr}{mA:Str->Option Value}(n:h.Ns1 dx mA):∃od,h.get? dx=some od/\∀name,qCt name od=some (mA name):=by
 obtain⟨o,es,ep,ho,hd,hk,_,hm⟩:=n;refine⟨o,ho,fun name=>?_⟩;have e:=hm name;unfold nsFind findBy at e;rw[<- Array.find?_toList]at e;unfold qCt;rw[hd];dsimp only
 split
 ·rename_i y q
  rw[q]at e;exact congrArg some e
 ·rename_i q
  rw[q]at e;have a:es.toList.any (·.refKey)=false:=by
   rw[qC7];intro y hy;obtain⟨z,t,hkey⟩:=hk y (Array.mem_toList_iff.mp hy);simp[DictEntry.refKey,hkey]
  have a':¬es.toList.any (·.refKey)=true:=by rw[a];exact qA6
  rw[if_neg a'];exact congrArg some e
theorem ObjM.look{h:Heap}{x dx C:Addr}{mA:Str->Option Value}(I:ObjM h x dx C mA):∃od,PySem.W.InstAt h x (qCk C dx) C (some od)/\∀name,qCt name od=some (mA name):=
 let⟨od,ho,hl⟩:=zIJ I.ns
 ⟨od,⟨I.obj,rfl,rfl,ho⟩,hl⟩
section
variable{prog:qEq}{w:World}{A:qEs}{E:Value->qEo->Prop}{s:qEo}{K:qA0}{x dx C f:Addr}{mA:Str->Option Value}{name:Str}{v:Value}
end
section
variable{P:qEq}{w:World}{H H':Hp}{h h':Heap}{a C dx:Addr}{fs fs':List (Str×V)}
theorem zMC(hok:HOk P w H h)(e:H a=some (.ins C dx fs)):∃mA,ObjM h a dx C mA/\(∀f,RelO (fs.lookup f) (mA f))/\qEe mA (fs.map (·.1))/\fs.length<=1000/\H dx=some (.own a):=by
 obtain⟨d,z,ne,ob,mA,n,r,q⟩:=(show ObjOk P w H h a (.ins C dx fs) from hok a _ e)
 exact⟨mA,⟨ob,n,ne⟩,r,q,z,d⟩
end
structure Cls(K:qA0)(C:Addr):Prop where
 pg:qDc K C Str.empty=true
 hd:PySem.W.hasDictIn K C=true
 po:PySem.W.plainOver K C=true
 sa:qC3 K (.ref C) "__setattr__" = some (some (.builtin "object.__setattr__"))
theorem Cls.get{K:qA0}{C:Addr}(c:Cls K C)(f:Str):qDc K C f=true:=c.pg
def zOY(K:qA0)(C:Addr)(f:Str):Prop:=qC3 K (.ref C) f=some none
section
variable{X:Cx}{pins:List (Addr×Obj)}{σ:St}{H:Hp}{s:qEo}{a C dx:Addr}{fs:List (Str×V)}{f:Str}{v:V}{A:qEs}{E:Value->qEo->Prop}
end
section
variable{X:Cx}{o e value:Expr}{f:Str}{pos pos' tpos:Pos}{ta tv:TE}
end
section
variable{X:Cx}{pins:List (Addr×Obj)}{σ:St}{H:Hp}{s:qEo}{A:qEs}{E:Value->qEo->Prop}{Q:Value->qEo->Prop}{c:Value}{b:Bool}
inductive TyOf(K:qA0)(H:Hp):V->Value->Prop where
 |non:TyOf K H .non (.type "NoneType")
 |bl (x:Bool):TyOf K H (.bl x) (.type "bool")
 |int (i:Int):TyOf K H (.int i) (.type "int")
 |str (x:Str):TyOf K H (.str x) (.type "str")
 |flt (x:UInt64):TyOf K H (.flt x) (.type "float")
 |lst {a:Addr} {xs:List V} (e:H a=some (.lst xs)):TyOf K H (.ref a) (.type "list")
 |frz {a:Addr} {o:Obj} {xs:List V} (e:H a=some (.frz o (.lst xs))):TyOf K H (.ref a) (.type "list")
 |tup {a:Addr} {xs:List V} (e:H a=some (.tup xs)):TyOf K H (.ref a) (.type "tuple")
 |dK {a:Addr} {kvs:List (Key×V)} (e:H a=some (.dK kvs)):TyOf K H (.ref a) (.type "dict")
 |dT {a:Addr} {T:Addr->Prop} {e0:Nat} {kvs:List (List KeyN×V)} (e:H a=some (.dT T e0 kvs)):TyOf K H (.ref a) (.type "dict")
 |ins {a C dx:Addr} {fs:List (Str×V)} (e:H a=some (.ins C dx fs)) (cl:Cls K C) (ha:qC3 K (.ref C) "__class__" = some (some (.builtin "object.__class__")))
   (hn:PySem.W.specialIn K (.builtin "object.__class__") "__get__" = some (some (.builtin "getset_descriptor.__get__"))) (htk:PySem.W.takesIn K (.builtin "object.__class__")=some true)
   (hm:PySem.W.mroIn K C (.type "object")=some true):TyOf K H (.ref a) (.ref C)
theorem zIT{x:V}{u t:Value}(I:Inv X pins σ H s)(rx:RelV x u)(ty:TyOf X.K H x t)(e:qDy X.K t c=some b)(h:∀tk,Q (.bool b) { s with toks:=tk }) :
  wpAny (model X.prog X.w) A (call (.builtin "isinstance") [u,c]) Q E s:=by
 cases ty with
 |non=>cases(show u=qFi from rx);exact qAs PySem.W.kitx_none I.kIn qCr e (fun z=>nomatch z) h
 |bl y=>cases(show u=qEz y from rx);exact qAs PySem.W.kitx_bool I.kIn qCr e (fun z=>nomatch z) h
 |int i=>obtain⟨t,q⟩:=(show ∃t,u=qGp i t from rx);cases q;exact qAs PySem.W.kitx_int I.kIn qCr e (fun z=>nomatch z) h
 |str y=>obtain⟨t,q⟩:=(show ∃t,u=qGd y t from rx);cases q;exact qAs PySem.W.kitx_str I.kIn qCr e (fun z=>nomatch z) h
 |flt y=>obtain⟨t,q⟩:=(show ∃t,u=qH7 y t from rx);cases q;exact qAs PySem.W.kitx_float I.kIn qCr e (fun z=>nomatch z) h
 |@lst a xs ea=>
  cases(show u=qFc a from rx)
  obtain⟨_,_,n,_,h1⟩:=(show ObjOk X.prog X.w H s.heap a (.lst xs) from I.hok a _ ea)
  exact qAs qD1 I.kIn ⟨_,h1,rfl⟩ e (fun z=>nomatch z) h
 |@frz a ob xs ea=>
  cases(show u=qFc a from rx)
  obtain⟨_,_,_,n,_,h1⟩:=(show ObjOk X.prog X.w H s.heap a (.frz ob (.lst xs)) from I.hok a _ ea)
  exact qAs qD1 I.kIn ⟨_,h1,rfl⟩ e (fun z=>nomatch z) h
 |@tup a xs ea=>
  cases(show u=qFc a from rx)
  obtain⟨_,_,_,p⟩:=(show ObjOk X.prog X.w H s.heap a (.tup xs) from I.hok a _ ea)
  obtain⟨o,h1,h2,_⟩:=p;exact qAs PySem.W.kitx_tuple I.kIn ⟨o,h1,h2⟩ e (fun z=>nomatch z) h
 |@dK a kvs ea=>
  cases(show u=qFc a from rx)
  obtain⟨_,_,vs,_,p⟩:=(show ObjOk X.prog X.w H s.heap a (.dK kvs) from I.hok a _ ea)
  obtain⟨o,es,ep,h1,h2,_⟩:=p;exact qAs qD2 I.kIn ⟨o,h1,h2.1⟩ e (fun z=>nomatch z) h
 |@dT a T e0 kvs ea=>
  cases(show u=qFc a from rx)
  obtain⟨_,_,xs,_,o,es,ep,h1,h2,_⟩:=(show ObjOk X.prog X.w H s.heap a (.dT T e0 kvs) from I.hok a _ ea)
  exact qAs qD2 I.kIn ⟨o,h1,h2.1⟩ e (fun z=>nomatch z) h
 |@ins a C dx fs ea cl ha hn htk hm=>
  cases(show u=qFc a from rx)
  obtain⟨mA,O,_⟩:=zMC I.hok ea;obtain⟨od,J,_⟩:=O.look;exact qAs (PySem.W.kitx_own (cl.get _) cl.hd ha hn htk hm) I.kIn J e (fun z=>nomatch z) h
end
structure Room(k:Nat)(A:qEs):Prop where
 hd:A.handled=none
 dp:A.depth+3*k+5<recursionLimit
 un:A.units+16*k+200<cLine
theorem Room.mono{j k:Nat}{A:qEs}(r:Room k A)(h:j<=k):Room j A:=⟨r.hd,by have:=r.dp;omega,by have:=r.un;omega⟩
theorem Room.deeper{k:Nat}{A:qEs}(r:Room (k+1) A)(env:Env):Room k (A.deeper env):=
 ⟨r.hd,by have:=r.dp;show A.depth+1+3*k+5<_;omega,by have:=r.un;show A.units+3+16*k+200<_;omega⟩
theorem Room.depth{k:Nat}{A:qEs}(r:Room k A):A.depth<recursionLimit:=by have:=r.dp;omega
theorem Room.units{k:Nat}{A:qEs}(r:Room k A):A.units+64<cLine:=by have:=r.un;omega
noncomputable def tNil:TA:=fun _ H Q=>Q [] H
noncomputable def zD5(ta:TE)(tr:TA):TA:=fun σ H Q=>ta σ H fun x H1=>tr σ H1 fun xs H2=>Q (x::xs) H2
section
variable{X:Cx}{e:Expr}{es:List Expr}{te:TE}{t:TA}{pos:Pos}
theorem zA8:PA X [] tNil:=fun _ _ _ _ H Q I h=>Calls.spliced_nil ⟨[],H,I,.nil,h⟩
theorem zA1(ha:PE X e te)(hr:PA X es t)(hs:starEach (e::es) X.env=(false,eval e X.env)::starEach es X.env:=by rfl):PA X (e::es) (zD5 te t):=by
 intro pos pins s σ H Q I h;rw[hs];show wpAny _ _ (spliced ((false,eval e X.env)::backTo pos (starEach es X.env))) _ _ s;refine Calls.spliced_cons (thn (ha pins s σ H _ I h) fun u s1 z0=>?_);obtain⟨x,H1,I1,r1,q1⟩:=z0;exact thn (hr pos pins s1 σ H1 _ I1 q1) fun us s2 ⟨xs,H2,I2,r2,q2⟩=>⟨x::xs,H2,I2,.cons r1 r2,q2⟩
def tTup(t:TA):TE:=fun σ H Q=>t σ H fun xs H1=>xs.length<=sizeLine/\∀p,H1 p=none->Q (.ref p) (upd H1 p (.tup xs))
def tLst(t:TA):TE:=fun σ H Q=>t σ H fun xs H1=>xs.length<=sizeLine/\∀p,H1 p=none->Q (.ref p) (upd H1 p (.lst xs))
theorem zNU{x1}(h:PA X es t):PE X (.Tuple es x1 pos) (tTup t):=by
 intro pins s σ H Q I hq;refine wpAny_Tuple_spliced (thn (h pos pins s σ H _ I hq) fun us s1 ⟨xs,H1,I1,r,z,q⟩=>⟨by rw[<- r.length];exact z,?_⟩);have hf:H1 s1.heap.objs.size=none:=I1.hok.fresh (qAa _);refine⟨.ref s1.heap.objs.size,upd H1 s1.heap.objs.size (.tup xs),I1.laid (t':=s1.toks) (fun b u e=>qEp _ e) (qAa _) ?_,rfl,q _ hf⟩;exact⟨z,us,r,⟨_,qEv _ rfl,rfl,_,rfl⟩⟩
theorem zFU(h:PA X es t):PE X (.List es pos) (tLst t):=by
 intro pins s σ H Q I hq;refine wpAny_List_spliced (thn (h pos pins s σ H _ I hq) fun us s1 ⟨xs,H1,I1,r,z,q⟩=>⟨by rw[<- r.length];exact z,?_⟩);have hf:H1 s1.heap.objs.size=none:=I1.hok.fresh (qAa _);refine⟨.ref s1.heap.objs.size,upd H1 s1.heap.objs.size (.lst xs),I1.laid (t':=s1.toks) (fun b u e=>qEp _ e) (qAa _) ?_,rfl,q _ hf⟩;exact⟨z,us,0,r,qEv _ rfl⟩
end
abbrev Sp:=List V->Hp->VK->XK->Prop
abbrev CXT:=List Env->Hp->qEo->XK->Value->qEo->Prop
structure Env0(P:qEq)(w:World)(K:qA0)(mg:Str->Option Value)(base:Heap)(A:qEs)(outer:List Env)(s:qEo)(H:Hp):Prop where
 frames:A.frames=some outer
 mod:Mod K mg base
 bs:∀b o,base.get? b=some o->s.heap.get? b=some o/\H b=none
 bsz:base.objs.size<=s.heap.objs.size
 funs:s.heap.FunFrames base outer
 frf:∀b∈frs outer,H b=none
 hok:HOk P w H s.heap
 bare:qFn s.gens
def CE(outer:List Env)(P:qEq)(w:World)(H:Hp)(s:qEo)(Q:VK)(u:Value)(s':qEo):Prop:=
 ∃v H',s'.os=s.os/\qFn s'.gens/\Un (frs outer) [] H H' s.heap s'.heap/\HOk P w H' s'.heap/\RelV v u/\Q v H'
def CR(CX:CXT)(outer:List Env)(P:qEq)(w:World)(H:Hp)(s:qEo)(Q:VK)(E:XK)(r:qGr)(s':qEo):Prop:=
 match r with
 |.ok (.ret u)=>CE outer P w H s Q u s'
 |.ok _=>False
 |.error e=>CX outer H s E e s'
structure FnOk(P:qEq)(w:World)(K:qA0)(mg:Str->Option Value)(base:Heap)(CX:CXT)(k:Nat)(f:Addr)(fd:qEx)(ps:List Str)(sp:Sp):Prop where
 len:∀vs H Q E,sp vs H Q E->vs.length=ps.length
 run:∀(A:qEs)(outer:List Env)(s:qEo)(H:Hp)(args:Args)(us:List Value)(vs:List V)(Q:VK)(E:XK),Room k A->Env0 P w K mg base A outer s H->qGe s fd args (ps.zip us)->Vals vs us->sp vs H Q E ->
  qGb (model P w) A (.call (.ref f) args) (CR CX outer P w H s Q E) s
theorem FnOk.imp{P:qEq}{w:World}{K:qA0}{mg:Str->Option Value}{base:Heap}{CX:CXT}{k:Nat}{f:Addr}{fd:qEx}{ps:List Str}{sp sp':Sp}(F:FnOk P w K mg base CX k f fd ps sp)
  (h:∀vs H Q E,sp' vs H Q E->sp vs H Q E):FnOk P w K mg base CX k f fd ps sp':=
 ⟨fun vs H Q E q=>F.len vs H Q E (h _ _ _ _ q),fun A outer s H args us vs Q E hr he hb hv hs=>F.run A outer s H args us vs Q E hr he hb hv (h _ _ _ _ hs)⟩
section
variable{X:Cx}{pins:List (Addr×Obj)}{σ:St}{H:Hp}{s s':qEo}
theorem Inv.env0(I:Inv X pins σ H s):Env0 X.prog X.w X.K X.mg X.base X.A X.stack s H:=
 ⟨I.ok.frames,I.ok.mod,I.bs,qAg I.ok.bsz I.sz,I.stack,I.stkFree,I.hok,I.bare⟩
theorem Inv.after{Q:VK}{u:Value}(I:Inv X pins σ H s)(h:CE X.stack X.prog X.w H s Q u s'):EP X pins σ Q u s':=by
 obtain⟨v,H',os,bare,un,hok,r,q⟩:=h;obtain⟨hh,g,d,t,os'⟩:=s';obtain rfl:os'=s.os:=os;exact⟨v,H',I.call (h':=hh) (g':=g) (d':=d) (t':=t) (ch:=[]) un hok bare (fun b z=>absurd z (by simp)),r,q⟩
end
noncomputable def zI4(sp:Sp)(dvs:List V)(E:XK)(t:TA):TE:=fun σ H Q=>t σ H fun vs H1=>sp (vs++dvs) H1 Q E
def Binds(K:qA0)(fd:qEx)(ps:List Str)(ds:List Value):Prop:=
 ∀(s:qEo)(us:List Value),K.In s.heap->(us++ds).length=ps.length->qGe s fd ⟨us,[]⟩ (ps.zip (us++ds))
theorem Binds.all{K:qA0}{fd:qEx}{ps:List Str}(h:∀us:List Value,us.length=ps.length->qGn fd ⟨us,[]⟩=pure (ps.zip us)):Binds K fd ps []:=fun s us _ hl=>by
 rw[qBh]at hl ⊢;exact .of_eq (h us hl)
def zJL(CX:CXT)(X:Cx)(E:XK):Prop:=∀(pins:List (Addr×Obj))(σ:St)(H:Hp)(s:qEo)(e:Value)(s':qEo),Inv X pins σ H s->CX X.stack H s E e s'->X.xe e s'
section
variable{X:Cx}{CX:CXT}{k:Nat}{f C:Addr}{fd:qEx}{ps:List Str}{sp:Sp}{dvs:List V}{ds:List Value}{E:XK}{x m:Str}{p pos apos:Pos}{e o:Expr}{es:List Expr}{ta:TE}{t:TA}
theorem zNE{pins:List (Addr×Obj)}{σ:St}{H:Hp}{s:qEo}{Q:VK}{us:List Value}{vs:List V}(F:FnOk X.prog X.w X.K X.mg X.base CX k f fd ps sp)(hr:Room k X.A)(hb:Binds X.K fd ps ds)(hd:Vals dvs ds)(hx:zJL CX X E)
  (I:Inv X pins σ H s) (r:Vals vs us) (h:sp (vs++dvs) H Q E):wpAny (model X.prog X.w) X.A (call (.ref f) us) (EP X pins σ Q) X.xe s:=by
 have r2:Vals (vs++dvs) (us++ds):=r.append hd;have hl:(us++ds).length=ps.length:=by rw[<- r2.length];exact F.len _ _ _ _ h
 refine wpAny_call (codeAny_mono (F.run X.A X.stack s H ⟨us,[]⟩ (us++ds) (vs++dvs) Q E hr I.env0 (hb s us I.kIn hl) r2 h) fun r s' hq=>?_);cases r with
 |error e=>exact hx pins σ H s e s' I hq
 |ok fl=>
  cases fl with
  |ret u=>exact I.after hq
  |next=>exact qA4 hq
  |brk=>exact qA4 hq
  |cont=>exact qA4 hq
theorem zM0(F:FnOk X.prog X.w X.K X.mg X.base CX k f fd ps sp)(hr:Room k X.A)(hg:Gl X x)(hm:X.mg x=some (.ref f))(hk:qB1 X.K (.ref f)=true)(hb:Binds X.K fd ps ds)(hd:Vals dvs ds)(hx:zJL CX X E)
  (ha:PA X (e::es) t) (hdb:(x==("__debug__":Str))=false:=by decide) (he:starEach (e::es) X.env=(false,eval e X.env)::starEach es X.env:=by rfl) (hpl:(backTo pos (starEach es X.env)).any (·.1)=false:=by rfl) :
  PE X (.Call (.Name x p) (e::es) [] pos) (zI4 sp dvs E t):=by
 intro pins s σ H Q I h;refine qFg (zIL I hg hm ?_ hdb);refine PySem.W.callWith_K (h₀:=X.base) I.ok.mod.kin hk (thn (ha pos pins s σ H _ I h) fun us s1 ⟨vs,H1,I1,r,q⟩=>⟨I1.kIn,?_⟩) he hpl;exact zNE F hr hb hd hx I1 r q
end
section
variable{X:Cx}{CX:CXT}{k:Nat}{f C:Addr}{fd:qEx}{ps ks:List Str}{sp:Sp}{E:XK}{x m:Str}{p pos apos kpos:Pos}{e o:Expr}{es:List Expr}{kws:List Keyword}{te ta:TE}{t tk:TA}{nm:Option Str}
variable{g:List Value->List Value->List Value}{gV:List V->List V->List V}
end
structure FnScope(N P:List Str)(sc:Scope):Prop where
 kind:sc.kind=.function
 co:sc.isCoroutine=false
 gen:sc.isGenerator=false
 nd:N.Nodup
 pre:N.take P.length=P
 par:∀x∈P,sc.names.lookup x=some .local\/sc.names.lookup x=some .cell
 nofree:∀y∈sc.names,y.2≠.free
theorem zG9{kindOf:Str->Option qF0}{x:Str}:∀{binds:List (Str×Value)}{m:Str->Option Value},(∀v,(x,v)∉binds)->bindL kindOf binds m x=m x
 |[],_,_=>rfl
 |(n,v)::r,m,h=>by
  unfold bindL;rw[zG9 fun w hw=>h w (qAk _ hw)]
  split
  ·have:x≠n:=by rintro rfl;exact h v qAy
   simp[this]
  ·rfl
theorem zGB{kindOf:Str->Option qF0}{x:Str}:∀{binds:List (Str×Value)}{m:Str->Option Value},(∀v,(x,v)∉binds)->bindC kindOf binds m x=m x
 |[],_,_=>rfl
 |(n,v)::r,m,h=>by
  unfold bindC;rw[zGB fun w hw=>h w (qAk _ hw)]
  split
  ·rfl
  ·have:x≠n:=by rintro rfl;exact h v qAy
   simp[this]
theorem zGA{kindOf:Str->Option qF0}{x:Str}{v:Value}:∀{P:List Str}{vs:List Value}{i:Nat}{m:Str->Option Value},P.Nodup->P[i]?=some x->vs[i]?=some v->kindOf x=some .local ->
  bindL kindOf (P.zip vs) m x=some v
 |[],_,_,_,_,h,_,_=>by simp at h
 |_::_,[],_,_,_,_,h,_=>by simp at h
 |p::P,w::vs,0,m,nd,h1,h2,hk=>by
  simp at h1 h2;subst h1;subst h2;show bindL kindOf ((p,w)::P.zip vs) m p=_;unfold bindL;rw[zG9 fun v hv=>(qBi.mp nd).1 (qBz hv).1,if_pos hk];simp
 |p::P,w::vs,i+1,m,nd,h1,h2,hk=>by
  show bindL kindOf ((p,w)::P.zip vs) m x=_;unfold bindL;exact zGA (i:=i) (qBi.mp nd).2 (by simpa using h1) (by simpa using h2) hk
theorem zGC{kindOf:Str->Option qF0}{x:Str}{v:Value}:∀{P:List Str}{vs:List Value}{i:Nat}{m:Str->Option Value},P.Nodup->P[i]?=some x->vs[i]?=some v->kindOf x≠some .local ->
  bindC kindOf (P.zip vs) m x=some v
 |[],_,_,_,_,h,_,_=>by simp at h
 |_::_,[],_,_,_,_,h,_=>by simp at h
 |p::P,w::vs,0,m,nd,h1,h2,hk=>by
  simp at h1 h2;subst h1;subst h2;show bindC kindOf ((p,w)::P.zip vs) m p=_;unfold bindC;rw[zGB fun v hv=>(qBi.mp nd).1 (qBz hv).1,if_neg hk];simp
 |p::P,w::vs,i+1,m,nd,h1,h2,hk=>by
  show bindC kindOf ((p,w)::P.zip vs) m x=_;unfold bindC;exact zGC (i:=i) (qBi.mp nd).2 (by simpa using h1) (by simpa using h2) hk
noncomputable def start(N:List Str)(vs:List V):St:=vs.map some++qAb (N.length-vs.length) none
noncomputable def cxOf(CX:CXT)(P:qEq)(w:World)(K:qA0)(mg:Str->Option Value)(base:Heap)(N:List Str)(qual:Str)(scope:Scope)(f:Addr)(cd:Value)(A:qEs)(outer:List Env)(s:qEo)(H:Hp)(E:XK):Cx where
 prog:=P
 w:=w
 K:=K
 mg:=mg
 base:=base
 A:=A.deeper (envOfC qual scope s.heap.objs.size f cd)
 N:=N
 s₀:=s
 H₀:=H
 env:=envOfC qual scope s.heap.objs.size f cd
 outer:=outer
 stack:=envOfC qual scope s.heap.objs.size f cd::outer
 ex:=[]
 calm:=true
 fn:=fun _=>true
 pn:=[]
 xe:=fun e s'=>wpAny (model P w) (A.deeper (envOfC qual scope s.heap.objs.size f cd)) (leaving (envOfC qual scope s.heap.objs.size f cd) e) (fun _ s''=>CX outer H s E e s'') (fun e' s''=>CX outer H s E e' s'') s'
theorem zHE{sc:Scope}{n:Nat}{x:Str}(h:sc.names.lookup x=some .cell):∃c,(cellsFrom n sc.names []).lookup x=some c:=by
 have q:=qBl sc.names n [] (.inl h);exact qC8.mp q
theorem zIX{CX:CXT}{P:qEq}{w:World}{K:qA0}{mg:Str->Option Value}{base:Heap}{N ps:List Str}{qual:Str}{scope:Scope}{f:Addr}{cd:Value}{A:qEs}{outer:List Env}{s s1:qEo}{H:Hp}{E:XK}{us:List Value}{vs:List V}
  (S:FnScope N ps scope) (hd:A.handled=none) (e0:Env0 P w K mg base A outer s H) (hl:vs.length=ps.length) (r:Vals vs us)
  (x:InCallC s s.heap.objs.size (bindL (envOfC qual scope s.heap.objs.size f cd).kindOf (ps.zip us) fun _=>none) (cellsFrom (s.heap.objs.size+1) scope.names []) (bindC (envOfC qual scope s.heap.objs.size f cd).kindOf (ps.zip us) fun _=>none) s1) :
  Inv (cxOf CX P w K mg base N qual scope f cd A outer s H E) [] (start N vs) H s1:=by
 have hpl:ps.length<=N.length:=by have:=congrArg List.length S.pre;rw[List.length_take]at this;omega
 obtain⟨h1,tk,rfl,hk⟩:=x.done;have noA:∀b:Addr,b∉(cxOf CX P w K mg base N qual scope f cd A outer s H E).ex:=fun b z=>absurd (show b∈([]:List Addr) from z) (by simp)
 refine⟨⟨e0.mod,S.kind,rfl,rfl,qAa _,fun y z c h1 h2=>?_,fun y hy=>?_,fun y c _ h=>?_,fun _=>hd,Around.frames_deeper e0.frames,.inr ⟨rfl,rfl⟩,fun b z=>absurd z (noA b),e0.bs,e0.bsz,fun b _ _=>noA b,fun b z=>absurd z (noA b),e0.funs,e0.frf⟩,
  rfl,e0.bare,Un.kept hk,⟨_,x.toInCall.ns,fun i y v h1 h2 h3=>?_⟩,fun y c h=>⟨_,x.cell y c h⟩,e0.hok.fresh (qAa _),fun y c h=>?_,fun p hp=>absurd (show p∈([]:List (Addr×Obj)) from hp) (by simp),e0.hok.kept hk,?_⟩
 ·exact name_of_addr x.apart (qB6 h1) (qB6 h2)
 ·have hy:scope.names.lookup y=some .cell\/scope.names.lookup y=some .free:=hy
  rcases hy with hy|hy
  ·exact zHE hy
  ·exact absurd rfl (S.nofree _ (qB6 hy))
 ·exact qBp (x.above y c (qB6 h))
 ·have hi:i<vs.length:=by
   unfold start at h2;by_cases hi:i<vs.length
   ·exact hi
   ·rw[qA9 (by simpa using hi)]at h2;rw[qAv]at h2
    split at h2<;>cases h2
  have ha:vs[i]?=some v:=by
   unfold start at h2;rw[qA7 (by simpa using hi),qAf]at h2;cases e:vs[i]? with
   |none=>rw[e]at h2;cases h2
   |some a=>rw[e]at h2;cases h2;rfl
  obtain⟨u,hu,rv⟩:=r.get ha;have hp:ps[i]?=some y:=by
   rw[<- S.pre,List.getElem?_take_of_lt (by omega)];exact h1
  have ndP:ps.Nodup:=by rw[<- S.pre];exact S.nd.sublist (List.take_sublist _ _)
  refine⟨u,rv,?_⟩;rcases S.par y (qBt hp)with k|k
  ·exact .inl ⟨k,zGA ndP hp hu k⟩
  ·obtain⟨c,e⟩:=zHE (n:=s.heap.objs.size+1) k;refine .inr ⟨.inl k,c,e,?_⟩;have q:=x.cell y c e;rw[zGC ndP hp hu (by show scope.names.lookup y≠_;rw[k];decide)]at q;exact q
 ·exact e0.hok.fresh (qBp (x.above y c (qB6 h)))
 ·unfold start;show _=N.length;rw[qBa,qB0,qBq];omega
theorem zPS{CX:CXT}{P:qEq}{w:World}{K:qA0}{mg:Str->Option Value}{base:Heap}{k:Nat}{f:Addr}{name qual:Str}{params:Arguments}{body:List Stmt}{scope:Scope}{dV kV doc pm cdv ct oc:Value}{an od:Option Addr}
  {osl:Array (Option Value)} {N ps:List Str} {sp:Sp} (lk:K.lookup f=some ⟨oc,od,.func (qAt name qual params body scope dV kV doc pm an cdv ct),osl⟩) (hcd:qB9 K cdv qual=true) (S:FnScope N ps scope)
  (len:∀vs H Q E,sp vs H Q E->vs.length=ps.length)
  (hbody:∀(A:qEs)(outer:List Env)(s:qEo)(H:Hp)(vs:List V)(Q:VK)(E:XK),Room k (A.deeper (envOfC qual scope s.heap.objs.size f cdv))->sp vs H Q E ->
   ∃t,PSs (cxOf CX P w K mg base N qual scope f cdv A outer s H E) body t/\t { nx:=fun _ H'=>Q .non H',rt:=Q } (start N vs) H) :
  FnOk P w K mg base CX (k+1) f (qAt name qual params body scope dV kV doc pm an cdv ct) ps sp:=by
 refine⟨len,fun A outer s H args us vs Q E hr e0 hb r hsp=>?_⟩;have hl:=len _ _ _ _ hsp;have KX:K.In s.heap:=e0.mod.kin.keeps fun b o e=>(e0.bs b o e).1
 have lim:s.heap.NoLimit:=e0.mod.nolimit.keeps fun b o e=>(e0.bs b o e).1
 have hkind:∀y∈ps.zip us,scope.names.lookup y.1=some .local\/(scope.names.lookup y.1=some .cell/\((cellsFrom (s.heap.objs.size+1) scope.names []).lookup y.1).isSome=true):=fun⟨n,v⟩ hy=>by
  rcases S.par n (qBz hy).1 with q|q
  ·exact .inl q
  ·exact .inr ⟨q,qBl _ _ _ (.inl q)⟩
 refine codeAny_call_function hr.depth (KX _ _ lk) rfl S.co S.gen rfl (PySem.W.codeRec_of KX hcd) (hb _ _ _ _ ?_);refine wpAny_newFunctionEnv_cells S.kind hkind fun env he s1 x=>?_
 subst he;refine⟨lim.keeps x.toInCall.keep,codeAny_func ?_⟩;obtain⟨t,ht,hq⟩:=hbody A outer s H vs Q E (hr.deeper _) hsp;have I:Inv (cxOf CX P w K mg base N qual scope f cdv A outer s H E) [] (start N vs) H s1:=zIX S hr.hd e0 hl r x;refine wpAny_mono (ht [] s1 (start N vs) H _ I hq) (fun fl s' hs=>?_) fun e s' hs=>hs
 have fin:∀{σ':St}{H':Hp}{v:V}{u:Value},Inv (cxOf CX P w K mg base N qual scope f cdv A outer s H E) [] σ' H' s'->RelV v u->Q v H'->CE outer P w H s Q u s':=
  fun{σ' H' v u} J rv q=>⟨v,H',J.os,J.bare,J.base,J.hok,rv,q⟩
 cases fl with
 |ret u=>
  obtain⟨v,σ',H',J,rv,q⟩:=hs;exact fin J rv q
 |next=>
  obtain⟨σ',H',J,q⟩:=hs;exact fin (v:=V.non) (u:=qFi) J rfl q
 |brk=>
  obtain⟨_,_,_,q⟩:=hs;exact qA4 q
 |cont=>
  obtain⟨_,_,_,q⟩:=hs;exact qA4 q
section
variable{X:Cx}{x:Str}{p pos:Pos}{e:Expr}{es:List Expr}{t:TA}{id T:String}{r:List V->Hp->VK->Prop}
noncomputable def tCB(r:List V->Hp->VK->Prop)(t:TA):TE:=fun σ H Q=>t σ H fun vs H1=>r vs H1 Q
theorem zAG(hc:zCO X (.builtin id) r)(hg:Gl X x)(hm:X.mg x=none)(hv:qF8 x=some (.builtin id))(ha:PA X (e::es) t)(hn:x ≠ "__name__":=by decide)(hdb:(x==("__debug__":Str))=false:=by decide)
  (he:starEach (e::es) X.env=(false,eval e X.env)::starEach es X.env:=by rfl) (hpl:(backTo pos (starEach es X.env)).any (·.1)=false:=by rfl):PE X (.Call (.Name x p) (e::es) [] pos) (tCB r t):=by
 intro pins s σ H Q I h;refine qFg (zH7 I hg hm hv ?_ hn hdb);exact qD9 (thn (ha pos pins s σ H _ I h) fun us s1 ⟨vs,H1,I1,r1,q1⟩=>hc pins s1 σ H1 vs us Q I1 r1 q1) he hpl
theorem zFV(hc:zCO X (.type T) r)(hg:Gl X x)(hm:X.mg x=none)(hv:qF8 x=some (.type T))(ha:PA X (e::es) t)(hn:x ≠ "__name__":=by decide)(hdb:(x==("__debug__":Str))=false:=by decide)
  (he:starEach (e::es) X.env=(false,eval e X.env)::starEach es X.env:=by rfl) (hpl:(backTo pos (starEach es X.env)).any (·.1)=false:=by rfl):PE X (.Call (.Name x p) (e::es) [] pos) (tCB r t):=by
 intro pins s σ H Q I h;refine qFg (zH7 I hg hm hv ?_ hn hdb);exact qBx (thn (ha pos pins s σ H _ I h) fun us s1 ⟨vs,H1,I1,r1,q1⟩=>hc pins s1 σ H1 vs us Q I1 r1 q1) he hpl
end
abbrev TO:=St->Hp->(Option Int->Hp->Prop)->Prop
section
variable{X:Cx}{e:Expr}{te:TE}{lo hi:Option Expr}{tl th:TO}{pos p2:Pos}
end
noncomputable def ixN(n:Nat)(i:Int):Option Nat:=if 0<=i then(if i<n then some i.toNat else none)else if -(n:Int)<=i then some (i+n).toNat else none
def atI{α:Type}(xs:List α)(i:Int):Option α:=(ixN xs.length i).bind fun j=>xs[j]?
theorem zGQ{n:Nat}{i:Int}{j:Nat}(h:ixN n i=some j):qGs i n=some j/\j<n/\-(n:Int)<=i/\i<n:=by
 unfold ixN at h;by_cases h0:0<=i
 ·rw[if_pos h0]at h
  by_cases h1:i<n
  ·rw[if_pos h1]at h;have e:i.toNat=j:=qAr h;exact⟨by rw[qGt h0 h1,e],by omega,by omega,h1⟩
  ·rw[if_neg h1]at h;cases h
 ·rw[if_neg h0]at h
  by_cases h1:-(n:Int)<=i
  ·rw[if_pos h1]at h;have e:(i+n).toNat=j:=qAr h;exact⟨by rw[qGi (by omega) h1,e],by omega,h1,by omega⟩
  ·rw[if_neg h1]at h;cases h
theorem zGZ{α:Type}{xs:List α}{i:Int}{v:α}(h:atI xs i=some v):∃j,qGs i xs.length=some j/\xs[j]?=some v/\j<xs.length/\-(xs.length:Int)<=i/\i<xs.length:=by
 unfold atI at h;cases e:ixN xs.length i with
 |none=>rw[e]at h;cases h
 |some j=>
  rw[e]at h;obtain⟨h1,h2,h3,h4⟩:=zGQ e;exact⟨j,h1,h,h2,h3,h4⟩
def zJK(b:Expr):Prop:=∀o i,subscripted b false o i=operate [o,i] (getItem o i)
def IxR(X:Cx)(r:R2):Prop:=
 ∀(value slice:Expr)(pins:List (Addr×Obj))(s:qEo)(σ:St)(H:Hp)(x y:V)(v u:Value)(Q:VK),Inv X pins σ H s->RelV x v->RelV y u->r x y H Q ->
  subscripted slice false v u=operate [v,u] (getItem v u)->wpAny (model X.prog X.w) X.A (subscriptTail value slice v u) (EP X pins σ Q) X.xe s
def MtR(X:Cx)(id:String)(r:V->List V->Hp->VK->Prop):Prop:=
 ∀(pins:List (Addr×Obj))(s:qEo)(σ:St)(H:Hp)(x:V)(xs:List V)(v:Value)(us:List Value)(Q:VK),Inv X pins σ H s->RelV x v->Vals xs us->r x xs H Q ->
  wpAny (model X.prog X.w) X.A (call (.builtin id) (v::us)) (EP X pins σ Q) X.xe s
section
variable{X:Cx}{a b:Expr}{ta tb:TE}{pos:Pos}
theorem zBL{r:R2}(hr:IxR X r)(ha:PE X a ta)(hb:PE X b tb)(hs:zJK b):PE X (.Subscript a b pos) (tOp r ta tb):=by
 intro pins s σ H Q I h;exact Subscript_ (binT ha hb I h fun v u s2 x y H2 I2 rx ry q=>hr a b pins s2 σ H2 x y v u Q I2 rx ry q (hs _ _))
def rIxL(K:qA0):R2:=fun x y H Q=>∃p xs i v,x=.ref p/\y=.int i/\SqL K H p xs/\atI xs i=some v/\Q v H
def rIxT(K:qA0):R2:=fun x y H Q=>∃p xs i v,x=.ref p/\y=.int i/\SqT K H p xs/\atI xs i=some v/\Q v H
def rIxS:R2:=fun x y H Q=>∃z i c,x=.str z/\y=.int i/\z.length<=sizeLine/\atI z.cps.toList i=some c/\Q (.str ⟨#[c]⟩) H
theorem zM8:IxR X (rIxL X.K):=by
 intro value slice pins s σ H x y v u Q I rx ry h hs;obtain⟨p,xs,i,z,rfl,rfl,hq,he,q⟩:=h;cases rx;obtain⟨t,rfl⟩:=ry;obtain⟨its,r,pl,hz⟩:=I.list hq;obtain⟨j,h1,h2,h3,h4,h5⟩:=zGZ he;obtain⟨w,ew,rw'⟩:=r.get h2;have hl:=r.length;have hn:=zEB;have fin:EP X pins σ Q w s:=⟨z,H,I,rw',q⟩;by_cases h0:0<=i
 ·have hj:i.toNat=j:=by
   rw[qGt h0 h5]at h1;exact qAr h1
  exact item_listR pl.isList h0 (by omega) (by rw[hj];simpa using ew) fin hs
 ·have hj:(i+(its.toArray.size:Int)).toNat=j:=by
   rw[qGi (by omega) h4]at h1;rw[qAc,<- hl];exact qAr h1
  exact qFp (x:=w) pl.isList.typeIs slot_list_getitem.lookup
   (wpAny_getItem_list_neg (Q:=fun r s'=>r=w/\EP X pins σ Q r s') pl.isList (by omega) (by rw[qAc]<;>omega) (by omega) (by rw[hj];simpa using ew) ⟨rfl,fin⟩) hs
theorem zOB:IxR X (rIxT X.K):=by
 intro value slice pins s σ H x y v u Q I rx ry h hs;obtain⟨p,xs,i,z,rfl,rfl,hq,he,q⟩:=h;cases rx;obtain⟨t,rfl⟩:=ry;obtain⟨its,r,pl,hz⟩:=I.tuple hq;obtain⟨j,h1,h2,h3,h4,h5⟩:=zGZ he;obtain⟨w,ew,rw'⟩:=r.get h2;have hl:=r.length;have hn:=zEB;have fin:EP X pins σ Q w s:=⟨z,H,I,rw',q⟩;exact qFp (x:=w) pl.typeIs slot_tuple_getitem.lookup
  (getItem_tuple (j:=j) (Q:=fun r s'=>r=w/\EP X pins σ Q r s') pl (by omega) (by omega) (by rw[qAc,<- hl];exact h1) (by simpa using ew) ⟨rfl,fin⟩) hs
theorem zOD:IxR X rIxS:=by
 intro value slice pins s σ H x y v u Q I rx ry h hs;obtain⟨z,i,c,rfl,rfl,hz,he,q⟩:=h;obtain⟨t,rfl⟩:=rx;obtain⟨t',rfl⟩:=ry;obtain⟨j,h1,h2,h3,h4,h5⟩:=zGZ he;have hl:z.cps.toList.length=z.length:=by simp[Str.length]
 rw[hl]at h1 h4 h5;have hn:=zEB;exact tail_any (typeIs_str s z t) slot_str_getitem.lookup (getItem_str (c:=c) (by
  have e1:decide (i < -(2 ^ 63:Int))=false:=decide_eq_false (by omega);have e2:decide (i>=2 ^ 63)=false:=decide_eq_false (by omega);rw[e1,e2,Bool.or_false]) (by rw[h1];simpa using h2) ⟨.str ⟨#[c]⟩,H,I.tok _,⟨_,rfl⟩,q⟩) hs
theorem zHO(its:List Value)(n j:Nat)(u:Value):qFy (·.setIfInBounds j u) { cls:=.type "list",data:=.seq its.toArray n }={ cls:=.type "list",data:=.seq (its.set j u).toArray n }:=by
 simp[qFy]
theorem Inv.lst{pins:List (Addr×Obj)}{σ:St}{H:Hp}{s:qEo}{p:Addr}{xs:List V}(I:Inv X pins σ H s)(h:H p=some (.lst xs)) :
  ∃(its:List Value)(n:Nat),Vals xs its/\s.heap.get? p=some { cls:=.type "list",data:=.seq its.toArray n }/\xs.length<=sizeLine:=by
 obtain⟨z,its,n,r,e⟩:=I.hok p _ h;exact⟨its,n,r,e,z⟩
theorem Inv.lstUpd{pins:List (Addr×Obj)}{σ:St}{H:Hp}{s:qEo}{p:Addr}{xs ys:List V}{its its':List Value}{n n':Nat}{f:Obj->Obj}(I:Inv X pins σ H s)(h:H p=some (.lst xs))
  (ho:s.heap.get? p=some { cls:=.type "list",data:=.seq its.toArray n }) (hf:f { cls:=.type "list",data:=.seq its.toArray n }={ cls:=.type "list",data:=.seq its'.toArray n' }) (r:Vals ys its') (hz:ys.length<=sizeLine) (t:Nat) :
  Inv X pins σ (upd H p (.lst ys)) { s with heap:=s.heap.update p f,toks:=t }:=by
 have e:(s.heap.update p f).get? p=some { cls:=.type "list",data:=.seq its'.toArray n' }:=by
  rw[Heap.get?_update_self f ho (by rw[hf]<;>rfl),hf]
 refine I.write (x:=p) (e:=p) (by rw[h];trivial) (.inl rfl) (fun b u hb q=>(qFq _ _ (qD0 hb)).trans q) ⟨_,e⟩ ?_;exact⟨hz,its',n',r,e⟩
def zPD:V->V->V->Hp->(Hp->Prop)->Prop:=fun o i v H Q=>∃p xs k j,o=.ref p/\i=.int k/\H p=some (.lst xs)/\ixN xs.length k=some j/\Q (upd H p (.lst (xs.set j v)))
theorem zJR:PSet X zPD:=by
 intro pins s σ H o i v ov iv u Q I ro ri rv h;obtain⟨p,xs,k,j,rfl,rfl,hp,hj,q⟩:=h;cases ro;obtain⟨t,rfl⟩:=ri;obtain⟨its,n,r,ho,hz⟩:=I.lst hp;obtain⟨h1,h2,h3,h4⟩:=zGQ hj;have hl:=r.length;have hn:=zEB;have I':Inv X pins σ (upd H p (.lst (xs.set j v))) { s with heap:=s.heap.update p (qFy (·.setIfInBounds j u)) }:=
  I.lstUpd hp ho (zHO its n j u) (r.set rv j) (by rw[qDj];exact hz) s.toks
 by_cases h0:0<=k
 ·have hk:k.toNat=j:=by
   rw[qGt h0 h4]at h1;exact qAr h1
  exact PySem.W.ki_setAt ho h0 (by omega) (by rw[qAc,<- hl];exact h4) (by rw[hk];exact⟨_,I',q⟩)
 ·have hk:(k+(its.toArray.size:Int)).toNat=j:=by
   rw[qGi (by omega) h3]at h1;rw[qAc,<- hl];exact qAr h1
  exact PySem.W.ki_setBack ho (by omega) (by rw[qAc,<- hl];exact h3) (by omega) (by rw[hk];exact⟨_,I',q⟩)
noncomputable def zMD:V->Bool
 |.non=>true
 |.bl _=>true
 |.int _=>true
 |.str _=>true
 |_=>false
noncomputable def eqV:V->V->Bool
 |.non,.non=>true
 |.bl a,.bl b=>a==b
 |.bl a,.int b=>(if a then 1 else 0)==b
 |.int a,.bl b=>a==(if b then 1 else 0)
 |.int a,.int b=>a==b
 |.str a,.str b=>a==b
 |_,_=>false
theorem zOJ{A:qEs}{s:qEo}{y x:V}{u v:Value}(ry:RelV y u)(rx:RelV x v)(fy:zMD y=true)(fx:zMD x=true):qFl A s u v (eqV y x):=by
 cases y with
 |non=>
  cases ry;cases x with
  |non=>cases rx;exact qFb _
  |bl b=>cases rx;exact qFz b
  |int b=>obtain⟨t,rfl⟩:=rx;exact qG3 b t
  |str b=>obtain⟨t,rfl⟩:=rx;exact qG4 b t
  |_=>exact absurd (show false=true from fx) qA6
 |bl a=>
  cases ry;cases x with
  |non=>cases rx;exact qG0 a
  |bl b=>cases rx;exact qG1 a b
  |int b=>obtain⟨t,rfl⟩:=rx;exact qG5 a b t
  |str b=>obtain⟨t,rfl⟩:=rx;exact qG6 a b t
  |_=>exact absurd (show false=true from fx) qA6
 |int a=>
  obtain⟨t',rfl⟩:=ry;cases x with
  |non=>cases rx;exact qG7 a t'
  |bl b=>cases rx;exact qG8 a t' b
  |int b=>obtain⟨t,rfl⟩:=rx;exact SeqAt.EqAt.int_int a t' b t
  |str b=>obtain⟨t,rfl⟩:=rx;exact qFe a t' b t
  |_=>exact absurd (show false=true from fx) qA6
 |str a=>
  obtain⟨t',rfl⟩:=ry;cases x with
  |non=>cases rx;exact qG9 a t'
  |bl b=>cases rx;exact qGa a t' b
  |int b=>obtain⟨t,rfl⟩:=rx;exact qFf a t' b t
  |str b=>obtain⟨t,rfl⟩:=rx;exact SeqAt.EqAt.str_str a t' b t
  |_=>exact absurd (show false=true from fx) qA6
 |_=>exact absurd (show false=true from fy) qA6
theorem zG7:zCO X (.builtin "len") (fun xs H Q=>∃p ys,xs=[.ref p]/\(SqL X.K H p ys\/SqT X.K H p ys)/\Q (.int ys.length) H):=by
 intro pins s σ H xs us Q I r h;obtain⟨p,ys,rfl,hq,q⟩:=h;obtain⟨u,rfl,rx⟩:=zGK r;cases rx;have hn:=zEB;rcases hq with hq|hq
 ·obtain⟨its,r',pl,hz⟩:=I.list hq;have hlen:=r'.length;exact Calls.call_len_list pl.isList (by simp only[qAc]<;>omega) ⟨.int ys.length,H,I.tok _,⟨s.toks+1,by rw[qAc,hlen]⟩,q⟩
 ·obtain⟨its,r',pl,hz⟩:=I.tuple hq;have hlen:=r'.length;exact len_tuple pl (by simp only[qAc]<;>omega) ⟨.int ys.length,H,I.tok _,⟨s.toks+1,by rw[qAc,hlen]⟩,q⟩
theorem zG6:zCO X (.builtin "len") (fun xs H Q=>∃z,xs=[.str z]/\z.length<=sizeLine/\Q (.int z.length) H):=by
 intro pins s σ H xs us Q I r h;obtain⟨z,rfl,hz,q⟩:=h;obtain⟨u,rfl,t,rfl⟩:=zGK r;have hn:=zEB;exact len_str (by omega) ⟨.int z.length,H,I.tok _,⟨_,rfl⟩,q⟩
theorem zFK:zCO X (.type "tuple") (fun xs H Q=>∃p ys,xs=[.ref p]/\((SqL X.K H p ys/\∀l,H l=none->Q (.ref l) (upd H l (.tup ys)))\/(SqT X.K H p ys/\Q (.ref p) H))):=by
 intro pins s σ H xs us Q I r h;obtain⟨p,ys,rfl,h⟩:=h;obtain⟨u,rfl,rx⟩:=zGK r;cases rx;rcases h with⟨hq,q⟩|⟨hq,q⟩
 ·obtain⟨its,r',pl,hz⟩:=I.list hq;have hlen:=r'.length;refine call_tuple_list pl.isList (fun h' kp=>?_) (by simp only[qAc]<;>omega);have I1:Inv X pins σ H { s with heap:=h' }:=I.kept (t':=s.toks) kp;have I2:Inv X pins σ (upd H h'.objs.size (.tup ys)) { s with heap:=h'.push { cls:=.type "tuple",data:=.seq its.toArray } }:=
   I1.laid (t':=s.toks) (fun b o e=>qEp _ e) (qAa _) (show ObjOk X.prog X.w _ _ _ (.tup ys) from⟨hz,its,r',IsTup.new _ _⟩)
  exact⟨.ref h'.objs.size,_,I2,rfl,q _ (I1.hok.fresh (qAa _))⟩
 ·obtain⟨its,r',pl,hz⟩:=I.tuple hq;exact call_tuple_same pl ⟨.ref p,H,I,rfl,q⟩
def tyV(K:qA0)(T:String)(x:V)(H:Hp):Prop:=match x with
 |.str _=>T = "str"
 |.int _=>T = "int"
 |.ref p=>(T = "list" /\ ∃xs,SqL K H p xs)\/(T = "tuple" /\ ∃o,K.lookup p=some o/\o.cls=.type "tuple" /\ o.dict=none) \/
   (T = "dict" /\ ((∃kvs,H p=some (.dK kvs))\/∃T e0 kvs,H p=some (.dT T e0 kvs)))\/(T = "set" /\ ∃S n,H p=some (.set S n))
 |_=>False
theorem zKR{pins:List (Addr×Obj)}{σ:St}{H:Hp}{s:qEo}{T:String}{x:V}{v:Value}(I:Inv X pins σ H s)(r:RelV x v)(ty:tyV X.K T x H) :
  s.TypeIs v T/\∀a,v=.ref a->∃ob,s.heap.get? a=some ob/\ob.dict=none:=by
 cases x with
 |str z=>
  obtain⟨t,rfl⟩:=r;cases(show T = "str" from ty)
  exact⟨typeIs_str s z t,fun _ e=>nomatch e⟩
 |int i=>
  obtain⟨t,rfl⟩:=r;cases(show T = "int" from ty)
  exact⟨typeIs_int s i t,fun _ e=>nomatch e⟩
 |ref p=>
  cases r;rcases ty with⟨rfl,xs,hq⟩|⟨rfl,o,hk,hc,hd⟩|⟨rfl,hk⟩|⟨rfl,S,n,hk⟩
  ·obtain⟨its,_,pl,_⟩:=I.list hq;refine⟨pl.isList.typeIs,fun a e=>?_⟩;cases e;obtain⟨o,n,e,c,hd,_⟩:=pl;exact⟨o,e,hd⟩
  ·refine⟨⟨o,I.kIn p o hk,hc⟩,fun a e=>?_⟩;cases e;exact⟨o,I.kIn _ o hk,hd⟩
  ·have z:∃o,s.heap.get? p=some o/\o.ExactDict:=by
    rcases hk with⟨kvs,hk⟩|⟨_,_,kvs,hk⟩
    ·obtain⟨_,_,_,_,o,_,_,e,ex,_⟩:=I.hok p _ hk;exact⟨o,e,ex⟩
    ·obtain⟨_,_,_,_,o,_,_,e,ex,_⟩:=I.hok p _ hk;exact⟨o,e,ex⟩
   obtain⟨o,e,ex⟩:=z;refine⟨⟨o,e,ex.1⟩,fun a e2=>?_⟩;cases e2;exact⟨o,e,ex.2.1⟩
  ·obtain⟨o,_,_,_,e,ex,_⟩:=I.hok p _ hk;refine⟨⟨o,e,ex.1⟩,fun a e2=>?_⟩;cases e2;exact⟨o,e,ex.2.1⟩
 |_=>exact qA4 ty
variable{o e:Expr}{es:List Expr}{to:TE}{t:TA}{name:Str}{apos cpos:Pos}{T id:String}{r:V->List V->Hp->VK->Prop}
end
def MtM(X:Cx)(id:String)(r:V->List V->Hp->VK->Prop):Prop:=
 ∀(pins:List (Addr×Obj))(s:qEo)(σ:St)(H:Hp)(x:V)(xs:List V)(v:Value)(us:List Value)(Q:VK),Inv X pins σ H s->RelV x v->Vals xs us->r x xs H Q ->
  wpAny (model X.prog X.w) X.A (call (.builtin id) (v::us)) (EP X pins σ Q) X.xe s
theorem Vals.one:∀{x:V}{us:List Value},Vals [x] us->∃u,us=[u]/\RelV x u
 |_,_,.cons r .nil=>⟨_,rfl,r⟩
theorem Vals.zero:∀{us:List Value},Vals [] us->us=[]
 |_,.nil=>rfl
theorem Vals.dropLast{xs:List V}{us:List Value}(h:Vals xs us):Vals xs.dropLast us.dropLast:=by
 induction h with
 |nil=>exact .nil
 |cons r t ih=>
  cases t with
  |nil=>exact .nil
  |cons q t'=>exact .cons r ih
theorem Vals.eraseIdx:∀{xs:List V}{us:List Value}(i:Nat),Vals xs us->Vals (xs.eraseIdx i) (us.eraseIdx i)
 |_,_,_,.nil=>.nil
 |_,_,0,.cons _ t=>t
 |_,_,i+1,.cons r t=>.cons r (Vals.eraseIdx i t)
theorem zHR{α:Type}(l:List α):l.eraseIdx (l.length-1)=l.dropLast:=by
 induction l with
 |nil=>rfl
 |cons a r ih=>
  cases r with
  |nil=>rfl
  |cons b r=>
   have e:(a::b::r).length-1=((b::r).length-1)+1:=by
    have h1:(a::b::r).length=r.length+2:=rfl;have h2:(b::r).length=r.length+1:=rfl;omega
   rw[e,List.eraseIdx_cons_succ,ih]
   all_goals rfl
theorem zEC{α:Type}:∀(l:List α)(i:Nat),(l.eraseIdx i).length<=l.length
 |[],_=>qAa _
 |_::_,0=>qDk _
 |_::r,i+1=>qB8 (zEC r i)
section
variable{X:Cx}{pins:List (Addr×Obj)}{σ:St}{H:Hp}{s:qEo}{l b:Addr}{xs ys zs:List V}
theorem Inv.lset{its its':List Value}{n:Nat}{f:Array Value->Array Value}{t':Nat}(I:Inv X pins σ H s)(hH:H l=some (.lst xs))
  (e:s.heap.get? l=some { cls:=.type "list",data:=.seq its.toArray n }) (hf:f its.toArray=its'.toArray) (hv:Vals ys its') (hz:ys.length<=sizeLine) :
  Inv X pins σ (upd H l (.lst ys)) { s with heap:=s.heap.update l (qFy f),toks:=t' }:=by
 have q:=PySem.IsL.update e f;rw[hf]at q;refine I.write (x:=l) (e:=l) (by rw[hH];exact trivial) (.inl rfl) (fun b' u hb hu=>(qFq s.heap (qFy f) (qD0 hb)).trans hu) ⟨_,q⟩ ?_;exact⟨hz,its',_,hv,q⟩
theorem Inv.lnew{its:List Value}{t':Nat}(I:Inv X pins σ H s)(hv:Vals ys its)(hz:ys.length<=sizeLine) :
  Inv X pins σ (upd H s.heap.objs.size (.lst ys)) { s with heap:=s.heap.push { cls:=.type "list",data:=.seq its.toArray },toks:=t' }:=
 I.laid (fun _ _ q=>qEp _ q) (qAa _) ⟨hz,its,0,hv,qEv _ rfl⟩
theorem Inv.fresh(I:Inv X pins σ H s):H s.heap.objs.size=none:=I.hok.fresh (qAa _)
theorem Inv.lstM(I:Inv X pins σ H s)(hH:H l=some (.lst xs)):xs.length<=sizeLine/\∃(its:List Value)(n:Nat),Vals xs its/\xs.length=its.length/\s.heap.get? l=some { cls:=.type "list",data:=.seq its.toArray n }:=by
 obtain⟨z,its,n,r,e⟩:=I.hok l _ hH;exact⟨z,its,n,r,r.length,e⟩
end
section
variable{X:Cx}
def zLU:V->List V->Hp->VK->Prop:=fun x vs H Q=>∃l xs y,x=.ref l/\vs=[y]/\H l=some (.lst xs)/\xs.length<sizeLine/\Q .non (upd H l (.lst (xs++[y])))
theorem zIG:MtM X "list.append" zLU:=by
 intro pins s σ H x vs v us Q I rx rv h;obtain⟨l,xs,y,rfl,rfl,hH,hz,q⟩:=h;cases rx;obtain⟨u,rfl,ru⟩:=rv.one;obtain⟨z,its,n,r,hl,e⟩:=I.lstM hH;refine qH0 F.slot_list_append ⟨_,e,rfl⟩ F.entry_list_append (F.args_list_append_2 _ _) (PySem.list_append l its.toArray n u (by rw[qAc];omega)) ⟨e,?_⟩;refine⟨.non,_,I.lset (its':=its++[u]) hH e (by simp) (r.append (.cons ru .nil)) ?_,rfl,q⟩;rw[qBa,qCm];omega
def rPop:V->List V->Hp->VK->Prop:=fun x vs H Q=>∃l xs y,x=.ref l/\vs=[]/\H l=some (.lst xs)/\xs[xs.length-1]?=some y/\Q y (upd H l (.lst xs.dropLast))
theorem zO8:MtM X "list.pop" rPop:=by
 intro pins s σ H x vs v us Q I rx rv h;obtain⟨l,xs,y,rfl,rfl,hH,hy,q⟩:=h;cases rx;have hus:=rv.zero;subst hus;obtain⟨z,its,n,r,hl,e⟩:=I.lstM hH;obtain⟨u,hu,ru⟩:=r.get hy;have hy':its.toArray[its.toArray.size-1]?=some u:=by
  show its.toArray[its.length-1]?=some u;rw[<- qCn,<- hl];exact hu
 refine qH0 qGu ⟨_,e,rfl⟩ qGk (F.args_list_pop_1 _) (MeetsSeq.list_pop_last l its.toArray n u hy' (by rw[qAc];omega)) ⟨e,?_⟩;refine⟨y,_,I.lset (its':=its.dropLast) hH e ?_ r.dropLast ?_,ru,q⟩
 ·show its.toArray.eraseIdxIfInBounds (its.toArray.size-1)=its.dropLast.toArray;rw[qAc,qBn,zHR]
 ·rw[List.length_dropLast];omega
def zNJ:V->List V->Hp->VK->Prop:=fun x vs H Q=>∃l xs i k y,x=.ref l/\vs=[.int i]/\H l=some (.lst xs)/\-(2 ^ 63)<=i/\i<2 ^ 63/\qGs i xs.length=some k/\xs[k]?=some y/\Q y (upd H l (.lst (xs.eraseIdx k)))
theorem zJY:MtM X "list.pop" zNJ:=by
 intro pins s σ H x vs v us Q I rx rv h;obtain⟨l,xs,i,k,y,rfl,rfl,hH,h1,h2,hk,hy,q⟩:=h;cases rx;obtain⟨u,rfl,ru⟩:=rv.one;obtain⟨t,rfl⟩:=ru;obtain⟨z,its,n,r,hl,e⟩:=I.lstM hH;obtain⟨w,hw,rw'⟩:=r.get hy;refine qH0 qGu ⟨_,e,rfl⟩ qGk (F.args_list_pop_2 _ _)
  (MeetsSeq.list_pop_at l its.toArray n i t k w (fitsIndex_both h1 h2) (by rw[qAc,<- hl];exact hk) (by rw[<- qCn];exact hw) (by rw[qAc];omega)) ⟨e,?_⟩
 refine⟨y,_,I.lset (its':=its.eraseIdx k) hH e ?_ (r.eraseIdx k) ?_,rw',q⟩
 ·show its.toArray.eraseIdxIfInBounds k=(its.eraseIdx k).toArray;rw[qBn]
 ·have:=zEC xs k
  omega
def rCat:R2:=fun x y H Q=>∃l b xs zs,x=.ref l/\y=.ref b/\H l=some (.lst xs)/\H b=some (.lst zs)/\xs.length+zs.length<=sizeLine/\∀p,H p=none->Q (.ref p) (upd H p (.lst (xs++zs)))
theorem zO3:OpR X (binaryOp .Add) rCat:=by
 intro pins s σ H x y v u Q I rx ry h;obtain⟨l,b,xs,zs,rfl,rfl,hH,hB,hz,q⟩:=h;cases rx;cases ry;obtain⟨z,its,n,r,hl,e⟩:=I.lstM hH;obtain⟨z2,its2,n2,r2,hl2,e2⟩:=I.lstM hB;refine PySem.P.add_list e e2 ?_ (by rw[qAc,qAc];omega);have ea:its.toArray++its2.toArray=(its++its2).toArray:=by simp
 rw[ea];exact⟨.ref _,_,I.lnew (t':=s.toks) (r.append r2) (by rw[qBa];omega),rfl,q _ I.fresh⟩
end
section
variable{prog:qEq}{w:World}{A:qEs}{E:Value->qEo->Prop}{s:qEo}
end
section
variable{X:Cx}
end
section
variable{κ:Type}[DecidableEq κ]
noncomputable def zOO(kvs:List (κ×V))(k:κ):List (κ×V):=kvs.filter fun kv=>decide (kv.1≠k)
theorem KV.drop{kvs:List (κ×V)}{vs:List (κ×Value)}(r:KV kvs vs)(k:κ):KV (zOO kvs k) (without vs k):=by
 unfold KV at r ⊢;unfold zOO without;induction r with
 |nil=>exact .nil
 |@cons p q ps qs h t ih=>
  obtain⟨h1,h2⟩:=h;rw[qDd,qDd];by_cases e:p.1=k
  ·have a:¬decide (p.1≠k)=true:=by simp[e]
   have b:¬decide (q.1≠k)=true:=by simp[h1.symm.trans e]
   rw[if_neg a,if_neg b];exact ih
  ·have e':¬q.1=k:=fun z=>e (h1.trans z)
   have a:decide (p.1≠k)=true:=by simp[e]
   have b:decide (q.1≠k)=true:=by simp[e']
   rw[if_pos a,if_pos b];exact .cons ⟨h1,h2⟩ ih
end
section
variable{P:qEq}{w:World}{H:Hp}{h:Heap}{a:Addr}
theorem zPC{u:HO}(ok:HOk P w H h)(e:Rd H a u):ObjOk P w H h a u:=e.ok ok
theorem zOP{kvs:List (Key×V)}(ok:HOk P w H h)(e:Rd H a (.dK kvs)):kvs.length<=sizeLine/\(a==qFj)=false/\∃vs,KV kvs vs/\h.DictOf (zGP P w) a vs:=
 show ObjOk P w H h a (.dK kvs) from zPC ok e
end
section
variable{X:Cx}{pins:List (Addr×Obj)}{σ:St}{H:Hp}{s:qEo}{a:Addr}{y v:V}{u r:Value}{o:Option V}{A:qEs}{E:Value->qEo->Prop}
theorem Inv.big(I:Inv X pins σ H s):qFj<s.heap.objs.size:=by
 have h:qEu<s.heap.objs.size:=(I.mod.glob.keeps I.bk).lt;exact Nat.lt_trans (by decide) h
end
section
variable{X:Cx}{pins:List (Addr×Obj)}{σ:St}{H:Hp}{s:qEo}{a:Addr}{kvs:List (Key×V)}{k:Key}{u:Value}{A:qEs}{E:Value->qEo->Prop}
end
section
variable{X:Cx}{o i e value:Expr}{pos pos' tpos:Pos}{td ty tv:TE}
end
theorem zK9{P:qEq}{w:World}{H:Hp}(h:Heap)(hb:qFj<h.objs.size):ObjOk P w H (h.push { cls:=.type "dict",data:=.dict #[] }) h.objs.size (.dK []):=
 ⟨qA8 _,beq_eq_false_iff_ne.mpr (qD0 (qAm hb)),[],.nil,Heap.DictOf.new h⟩
def zI3:TE:=fun _ H Q=>∀p,H p=none->Q (.ref p) (upd H p (.dK []))
section
variable{X:Cx}{pos:Pos}
theorem zJW:PE X (.Dict [] [] pos) zI3:=fun pins s σ H Q I h=>
 wpAny_Dict_empty ⟨.ref s.heap.objs.size,_,I.laid (a:=s.heap.objs.size) (o:=.dK []) (t':=s.toks) (fun _ _ q=>qEp _ q) (qAa _) (zK9 s.heap I.big),rfl,h _ (I.hok.fresh (qAa _))⟩
end
section
variable{X:Cx}{pins:List (Addr×Obj)}{σ:St}{H:Hp}{s:qEo}{a:Addr}{y d:V}{u r:Value}{o:Option V}{A:qEs}{E:Value->qEo->Prop}
end
section
variable{X:Cx}{o e f:Expr}{apos cpos:Pos}{td ty tx:TE}
end
section
variable{X:Cx}{pins:List (Addr×Obj)}{σ:St}{H:Hp}{s:qEo}{a:Addr}{kvs:List (Key×V)}{A:qEs}{E:Value->qEo->Prop}
end
section
variable{X:Cx}{pins:List (Addr×Obj)}{σ:St}{H:Hp}{s:qEo}{a:Addr}{y:V}{u:Value}{A:qEs}{E:Value->qEo->Prop}
end
section
variable{X:Cx}
end
section
variable{X:Cx}{K:qA0}
end
end L2
namespace Mi
end Mi
namespace Mi
open PySem
end Mi
namespace PySem
open PyProof.Rows
end PySem
namespace Mi
open PySem
end Mi
namespace PySem
open Builtin Builtin.Str PySem.Spec
end PySem
namespace Att
open PySem PySem.W PySem.Calls PyProof.Rows
theorem zED{P:Params}{h:Heap}:∀(ns:List Int)(vs:List Value),WellAll P h vs (ns.map qGv)->qH5 vs ns:=by
 intro ns;induction ns with
 |nil=>
  intro vs w;rw[List.map_nil]at w;cases w;exact .nil
 |cons n ns ih=>
  intro vs w;rw[qAn]at w;cases w with
  |cons a b=>
   cases a;exact .cons _ _ (ih _ b)
theorem zI7{l:OpenLaw}{n:Nat}(hn:l.most=some n){P:Params}{h:Heap}{args:List WData}{vals:List Value}
  (hpre:l.row.toRowW.claim.pre args=true) (hwl:WellAll P h vals args) :
  ∃a vs ns,vals=[qFc a]/\args=[WData.list (ns.map qGv)]/\h.get? a=some { cls:=.type "list",data:=.seq vs.toArray }/\qH5 vs ns/\ns.length<=n:=by
 have hsh:WShape.hasAll [] args [.list .int]=true:=(pre_splitW hpre).1;have hc:l.pre.holds [] { args:=args }=true:=(pre_splitW hpre).2;obtain⟨d,r,rfl,h1,h2⟩:=hasAllW_cons hsh;obtain rfl:=hasAllW_nil h2;obtain⟨xs,rfl,h3⟩:=hasW_list h1;obtain⟨ns,rfl⟩:=items_int h3;have hlen:ns.length<=n:=by
  unfold OpenLaw.pre at hc;have h4:(WTm.not (.lt (.lit (.int (n:Int))) (.len (.arg 0)))).holds [] { args:=[.list (ns.map .int)] }=true:=by
   have h4:=(holds_andW hc).1;rw[hn]at h4;exact h4
  have h5:=condW_of h4 (w_not (w_lt w_lit (w_len_list (w_arg rfl))));rw[qB0]at h5;refine Nat.le_of_not_lt fun q=>?_
  have q':(n:Int)<((ns.length:Nat):Int):=by omega
  first
   |(rw[decide_eq_true q']at h5;exact absurd h5 (by decide))
   |(simp at h5;omega)
 cases hwl with
 |cons w1 w2=>
  cases w2;cases w1 with
  |list ho hall=>exact⟨_,_,ns,rfl,rfl,ho,zED ns _ hall,hlen⟩
theorem zIA(l:OpenLaw)(args:List WData):l.row.toRowW.claim.post args (.bool true) args=true:=
 postW_of (r:=l.row.toRowW) (X:=(true==true))
  (show qH8 [] (.bool true) .bool=true by first|rfl|decide|simp[qH8,WShape.arms,WShape.armsAll])
  (show(WTm.eq .res (.lit (.bool true))).value [] { args:=args,res:=some (.bool true),after:=args }=some (.bool (true==true)) from w_eq_bool (w_res rfl) w_lit) rfl
section
variable{prog:qEq}{w:World}{A:qEs}{E:Value->qEo->Prop}{s:qEo}{K:Frag}
end
end Att
namespace L2
open PySem PySem.Spec PyProof.Rows
theorem zFP:∀{vs:List Value}{ns:List Int},qH5 vs ns->Vals (ns.map V.int) vs
 |_,_,.nil=>.nil
 |_,_,.cons n t h=>.cons ⟨t,rfl⟩ (zFP h)
abbrev KOf{K:qA0}{h:Heap}(_:K.In h):qA0:=K
noncomputable def zBO(s:Stmt):Arguments:=match s with
 |.FunctionDef _ a _ _ _ _ _ _ _ _=>a
 |_=>{ posonlyargs:=[],args:=[],vararg:=none,kwonlyargs:=[],kw_defaults:=[],kwarg:=none,defaults:=[] }
noncomputable def zBD(s:Stmt):List Stmt:=match s with
 |.FunctionDef _ _ b _ _ _ _ _ _ _=>b
 |_=>[]
noncomputable def zAC(s:Stmt):Scope:=match s with
 |.FunctionDef _ _ _ _ _ _ sc _ _ _=>sc
 |_=>{ kind:=.function,names:=[],isGenerator:=false,isCoroutine:=false }
abbrev CX0:CXT:=fun _ _ _ _ _ _=>False
abbrev E0:XK:=fun _ _ _=>False
theorem zPG{X:Cx}:zJL CX0 X E0:=fun _ _ _ _ _ _ _ h=>h.elim
structure Fun(K:qA0)(x qual:Str)(st:Stmt)(f:Addr)(fd:qEx):Prop where
 ex:∃(oc:Value)(od:Option Addr)(kV doc pm:Value)(an:Option Addr)(cdv ct:Value)(osl:Array (Option Value)),
  fd=qAt x qual (zBO st) (zBD st) (zAC st) .none kV doc pm an cdv ct/\K.lookup f=some ⟨oc,od,.func fd,osl⟩/\qB9 K cdv qual=true
 kp:qB1 K (.ref f)=true
section
variable{P:qEq}{w:World}{K:qA0}{mg:Str->Option Value}{base:Heap}
theorem Fun.ok{x qual:Str}{st:Stmt}{f:Addr}{fd:qEx}{N ps:List Str}{k:Nat}{sp:Sp}(F:Fun K x qual st f fd)(S:FnScope N ps (zAC st))(len:∀vs H Q E,sp vs H Q E->vs.length=ps.length)
  (hbody:∀(cdv:Value)(A:qEs)(outer:List Env)(s:qEo)(H:Hp)(vs:List V)(Q:VK)(E:XK),Room k (A.deeper (envOfC qual (zAC st) s.heap.objs.size f cdv))->sp vs H Q E ->
   ∃t,PSs (cxOf CX0 P w K mg base N qual (zAC st) f cdv A outer s H E).nox (zBD st) t/\t { nx:=fun _ H'=>Q .non H',rt:=Q } (start N vs) H):FnOk P w K mg base CX0 (k+1) f fd ps sp:=by
 obtain⟨oc,od,kV,doc,pm,an,cdv,ct,osl,rfl,lk,hcd⟩:=F.ex;refine zPS lk hcd S len fun A outer s H vs Q E hr hsp=>?_
 obtain⟨t,h,q⟩:=hbody cdv A outer s H vs Q E hr hsp;exact⟨t,h.nox,q⟩
theorem Fun.binds{x qual:Str}{st:Stmt}{f:Addr}{fd:qEx}{ps:List Str}(F:Fun K x qual st f fd)
  (h:∀(kV doc pm:Value)(an:Option Addr)(cdv ct:Value)(us:List Value),us.length=ps.length->qGn (qAt x qual (zBO st) (zBD st) (zAC st) .none kV doc pm an cdv ct) ⟨us,[]⟩=pure (ps.zip us)):Binds K fd ps []:=by
 obtain⟨oc,od,kV,doc,pm,an,cdv,ct,osl,rfl,lk,hcd⟩:=F.ex;exact .all (h kV doc pm an cdv ct)
theorem zL4{x qual:Str}{st:Stmt}{f:Addr}{oc:Value}{od an:Option Addr}{osl:Array (Option Value)}{kV doc pm cdv ct:Value}(l:K.lookup f=some ⟨oc,od,.func (qAt x qual (zBO st) (zBD st) (zAC st) .none kV doc pm an cdv ct),osl⟩)
  (c:qB9 K cdv qual=true) (k:qB1 K (.ref f)=true):Fun K x qual st f (qAt x qual (zBO st) (zBD st) (zAC st) .none kV doc pm an cdv ct):=⟨⟨oc,od,kV,doc,pm,an,cdv,ct,osl,rfl,l,c⟩,k⟩
end
section
variable{X:Cx}
end
def Same(H H':Hp):Prop:=∀b o,H b=some o->H' b=some o
theorem Same.refl(H:Hp):Same H H:=fun _ _ h=>h
theorem Same.trans{H H1 H2:Hp}(a:Same H H1)(b:Same H1 H2):Same H H2:=fun c o h=>b c o (a c o h)
theorem Same.free{H H':Hp}(e:Same H H'){l:Addr}(h:H' l=qCx):H l=qCx:=by
 cases q:H l with
 |none=>rfl
 |some o=>
  rw[e l o q]at h;cases h
theorem Same.seq{K:qA0}{H H':Hp}{a:Addr}{xs:List V}(e:Same H H')(h:SqL K H a xs):SqL K H' a xs:=by
 rcases h with(h|⟨o,h⟩)|h
 ·exact .inl (.inl (e _ _ h))
 ·exact .inl (.inr ⟨o,e _ _ h⟩)
 ·exact .inr h
section
variable{κ:Type}[DecidableEq κ]
end
theorem asN{a b:Nat}(h:a<b):a<b:=h
theorem asL{a b:Nat}(h:a<=b):a<=b:=h
theorem asE{a b:Nat}(h:a=b):a=b:=h
noncomputable def clos(cells:List (Str×Addr)):List (Str×qF0)->List (Str×Addr)->List (Str×Addr)
 |[],acc=>acc
 |(n,k)::r,acc=>if k==.free then clos cells r ((n,(cells.lookup n).getD 0)::acc)else clos cells r acc
theorem zCS(cells:List (Str×Addr)):∀(names:List (Str×qF0))(acc:List (Str×Addr)),clos cells names acc=clos cells names []++acc
 |[],_=>rfl
 |(n,k)::r,acc=>by
  unfold clos;split
  ·rw[zCS cells r (_::acc),zCS cells r [_],qD3];rfl
  ·exact zCS cells r acc
theorem zDY{cells:List (Str×Addr)}{x:Str}{c:Addr}:∀{names:List (Str×qF0)},(x,c)∈clos cells names []->(x,qEt)∈names/\c=(cells.lookup x).getD 0
 |[],h=>by simp[clos]at h
 |(n,k)::r,h=>by
  unfold clos at h;split at h
  ·rename_i hk
   rw[zCS]at h;rcases qB4.mp h with h|h
   ·obtain⟨h1,h2⟩:=zDY h;exact⟨qAk _ h1,h2⟩
   ·have e:=qAp.mp h
    injection e with e1 e2
    subst e1;have hk':k=.free:=by simpa using hk
    subst hk';exact⟨qAy,e2⟩
  ·obtain⟨h1,h2⟩:=zDY h;exact⟨qAk _ h1,h2⟩
theorem zFJ{cells:List (Str×Addr)}{x:Str}:∀{names:List (Str×qF0)},(x,qEt)∈names->(x,(cells.lookup x).getD 0)∈clos cells names []
 |[],h=>by simp at h
 |(n,k)::r,h=>by
  unfold clos;rcases qAo.mp h with e|h
  ·injection e with e1 e2
   subst e1;subst e2;rw[if_pos (by rfl),zCS];exact qAi _ (by simp)
  ·split
   ·rw[zCS];exact qBs _ (zFJ h)
   ·exact zFJ h
theorem zBC:∀(names:List (Str×qF0))(n:Nat)(acc:List (Str×Addr)),cellsFrom n names acc=cellsFrom n names []++acc
 |[],_,_=>rfl
 |(x,k)::r,n,acc=>by
  unfold cellsFrom;split
  ·rw[zBC r (n+1) (_::acc),zBC r (n+1) [_],qD3];rfl
  ·exact zBC r n acc
theorem zBS{x:Str}{c:Addr}:∀{names:List (Str×qF0)}{n:Nat},(x,c)∈cellsFrom n names []->(x,qEy)∈names
 |[],_,h=>by simp[cellsFrom]at h
 |(y,k)::r,n,h=>by
  unfold cellsFrom at h;split at h
  ·rename_i hk
   rw[zBC]at h;rcases qB4.mp h with h|h
   ·exact qAk _ (zBS h)
   ·have e:=qAp.mp h
    injection e with e1 e2
    subst e1;have hk':k=.cell:=by simpa using hk
    subst hk';exact qAy
  ·exact qAk _ (zBS h)
theorem zBT{α:Type}{x:Str}{a:α}:∀{l:List (Str×α)},(l.map (·.1)).Nodup->(x,a)∈l->l.lookup x=some a
 |[],_,h=>by simp at h
 |(y,b)::r,nd,h=>by
  have nd':(y::r.map (·.1)).Nodup:=nd;obtain⟨h1,h2⟩:=qBi.mp nd';rcases qAo.mp h with e|hm
  ·injection e with e1 e2
   subst e1;subst e2;rw[qAw,beq_self_eq_true]
  ·have hne:(x==y)=false:=by
    rw[beq_eq_false_iff_ne]
    rintro rfl
    exact h1 (qAq.mpr ⟨(x,a),hm,rfl⟩)
   rw[qAw,hne];exact zBT h2 hm
theorem zCW{α:Type}{x:Str}:∀{l:List (Str×α)},(∀a,(x,a)∉l)->l.lookup x=none
 |[],_=>rfl
 |(y,b)::r,h=>by
  have hne:(x==y)=false:=by
   rw[beq_eq_false_iff_ne]
   rintro rfl
   exact h b qAy
  rw[qAw,hne];exact zCW fun a m=>h a (qAk _ m)
theorem zCV{α:Type}{x:Str}{a:α}:∀{l:List (Str×α)},(x,a)∈l->∃b,l.lookup x=some b
 |[],h=>by simp at h
 |(y,b)::r,h=>by
  rw[qAw];cases e:x==y with
  |true=>exact⟨b,rfl⟩
  |false=>
   rcases qAo.mp h with q|q
   ·injection q with q1 _
    subst q1;rw[beq_self_eq_true]at e;cases e
   ·exact zCV q
theorem zEX{α:Type}{x:Str}:∀(l k:List (Str×α)),(l++k).lookup x=(l.lookup x).or (k.lookup x)
 |[],k=>by simp
 |(y,b)::r,k=>by
  show qDl x ((y,b)::(r++k))=_;rw[qAw,qAw];cases x==y with
  |true=>rfl
  |false=>exact zEX r k
def zOZ(sc:Scope)(env:Env):Prop:=∀x,(x,qEt)∈sc.names->env.kindOf x=some .cell\/env.kindOf x=some .free
theorem zFI{sc:Scope}{env:Env}(h:∀x,(x,qEt)∈sc.names->∃c,env.cells.lookup x=some c):closureFor sc env=pure (clos env.cells sc.names []):=by
 have go:∀(names:List (Str×qF0))(acc:List (Str×Addr)),(∀x,(x,qEt)∈names->∃c,env.cells.lookup x=some c) ->
   (forIn names acc fun(x:Str×qF0)(cs:List (Str×Addr))=>(match x with|(name,kind)=>if(kind==qEt)=true then(do let c <- cellOf env name;pure (qBb ((name,c)::cs)))else pure (qBb cs):Sem (ForInStep (List (Str×Addr)))))=pure (clos env.cells names acc):=by
  intro names;induction names with
  |nil=>intro acc _;rfl
  |cons p r ih=>
   intro acc hn;obtain⟨n,k⟩:=p;have hr:∀x,(x,qEt)∈r->∃c,env.cells.lookup x=some c:=fun x hx=>hn x (qAk _ hx)
   rw[List.forIn_cons];unfold clos;by_cases hk:(k==qEt)=true
   ·have hk':k=.free:=by simpa using hk
    subst hk';obtain⟨c,hc⟩:=hn n qAy;have e:cellOf env n=pure c:=by unfold cellOf;rw[hc]
    rw[if_pos (by rfl)];simp only[if_pos (show(qEt==qEt)=true from rfl),e,hc,qBg,pure_bind];exact ih _ hr
   ·rw[if_neg hk];simp only[if_neg hk,pure_bind];exact ih _ hr
 unfold closureFor;have q:=go sc.names [] h
 first
  |(rw[show(forIn sc.names ([]:List (Str×Addr)) _:Sem (List (Str×Addr)))=_ from q];rfl)
  |(refine(congrArg (fun z=>z >>= pure) q).trans ?_;rfl)
  |(simp only[q];rfl)
  |exact q
def zCR(sc:Scope)(C:Addr)(env:Env):Env:=
 { scope:=relabel sc env,locals:=C,globals:=env.globals,cells:=cellsFrom (C+1) sc.names (clos env.cells sc.names []),qual:=env.qual,func:=none,code:=env.code,frame:=env.frame,builtins:=env.builtins }
theorem zD9{M:Model}{A:qEs}{E:Value->qEo->Prop}{s:qEo}{sc:Scope}{env:Env}{cl:List (Str×Addr)}{Q:Env->qEo->Prop}
  (hQ:Q { scope:=sc,locals:=s.heap.objs.size,globals:=env.globals,cells:=cellsFrom (s.heap.objs.size+1) sc.names cl,qual:=env.qual,func:=none,code:=env.code,frame:=env.frame,builtins:=env.builtins }
   { s with heap:=pushCells (s.heap.push { cls:=.type "dict",data:=.dict #[] }) sc.names }) :
  wpAny M A (newFunctionEnv sc env.globals cl [] env.qual none .none (some env)) Q E s:=by
 simp only[newFunctionEnv,Option.isSome_some,if_true];refine wpAny_bind (wpAny_alloc ?_);refine wpAny_bind (wpAny_layCells _ (fun name kind cells=>by cases hkc:kind==qEy<;>simp[hkc]) _ _ _ _ ?_);rw[show({ s with heap:=s.heap.push { cls:=.type "dict",data:=.dict #[] } }:qEo).heap.objs.size=s.heap.objs.size+1 from qFh ..];refine wpAny_bind ?_;rw[List.forIn_nil];exact wpAny_pure (wpAny_pure hQ)
def zCZ(X:Cx)(N':List Str)(sc:Scope)(C:Addr)(s:qEo)(H:Hp)(fp:List Addr):Cx:=
 { X with N:=N',s₀:=s,H₀:=H,env:=zCR sc C X.env,outer:=X.stack,stack:=X.stack,ex:=fp,fn:=fun x=>sc.names.lookup x==some .cell,pn:=[],xe:=fun _ _=>False }
def PTs(X:Cx)(ifs:List Expr)(t:TT):Prop:=
 ∀(pins:List (Addr×Obj))(s:qEo)(σ:St)(H:Hp)(Q:Bool->Hp->Prop),Inv X pins σ H s->t σ H Q ->
  wpAny (model X.prog X.w) X.A (forIn ifs true fun c r=>if r=true then do let ok <- isTrue c X.env (eval c X.env);pure (qBb ok)else pure (qBb r)) (TP X pins σ Q) X.xe s
noncomputable def tYes:TT:=fun _ H Q=>Q true H
theorem zB2{X:Cx}:PTs X [] tYes:=fun _ _ _ H _ I h=>wpAny_tests_nil ⟨H,I,h⟩
structure CompNames(N N':List Str)(k:Nat)(sc:Scope)(env:Env):Prop where
 kind:sc.kind=.function
 nd:(sc.names.map (·.1)).Nodup
 len:N'.length=N.length+k
 old:∀(i:Nat)(x:Str),N'[i]?=some x->i<N.length->(x,qEt)∈sc.names/\N[i]?=some x\/sc.names.lookup x=none
 free:zOZ sc env
theorem zBE{sc:Scope}{env:Env}{x:Str}{k:qF0}:∀{names:List (Str×qF0)},
  (names.map fun(n,k)=>if(k==qEt&&env.scope.kind==.function&&env.kindOf n==some .cell)then(n,qEy)else(n,k)).lookup x=some k ->
  names.lookup x=some k\/(names.lookup x=some .free/\k=.cell)
 |[],h=>by simp at h
 |(n,j)::r,h=>by
  have ih:=@zBE sc env x k r;rw[qAn]at h;rw[qAw];by_cases hc:(j==qEt&&env.scope.kind==.function&&env.kindOf n==some .cell)=true
  ·have h':qDl x ((n,qEy)::(r.map fun(n,k)=>if(k==qEt&&env.scope.kind==.function&&env.kindOf n==some .cell)then(n,qEy)else(n,k)))=some k:=by
    rw[<- h];simp only[if_pos hc]
   rw[qAw]at h';cases e:x==n with
   |true=>
    rw[e]at h';have hk:k=.cell:=(qAr h').symm;have hj:j=.free:=by
     simp only[qAl,beq_iff_eq]at hc;exact hc.1.1
    subst hj;exact .inr ⟨rfl,hk⟩
   |false=>
    rw[e]at h';exact ih h'
  ·have h':qDl x ((n,j)::(r.map fun(n,k)=>if(k==qEt&&env.scope.kind==.function&&env.kindOf n==some .cell)then(n,qEy)else(n,k)))=some k:=by
    rw[<- h];simp only[if_neg hc]
   rw[qAw]at h';cases e:x==n with
   |true=>rw[e]at h';exact .inl h'
   |false=>rw[e]at h';exact ih h'
section
variable{X:Cx}{N':List Str}{k:Nat}{sc:Scope}{pins:List (Addr×Obj)}{σ:St}{H:Hp}{s:qEo}
theorem zHS{C:Addr}{x:Str}{c:Addr}(nd:(sc.names.map (·.1)).Nodup)(h:(zCR sc C X.env).cells.lookup x=some c) :
  ((x,c)∈cellsFrom (C+1) sc.names []/\(x,qEy)∈sc.names)\/((x,qEt)∈sc.names/\c=(X.env.cells.lookup x).getD 0):=by
 have m:=mem_of_lookup h;have m':(x,c)∈cellsFrom (C+1) sc.names (clos X.env.cells sc.names []):=m;rw[zBC]at m';rcases qB4.mp m' with z|z
 ·exact .inl ⟨z,zBS z⟩
 ·exact .inr (zDY z)
theorem zD0{C:Addr}{x:Str}(nd:(sc.names.map (·.1)).Nodup)(h:(x,qEt)∈sc.names):(zCR sc C X.env).cells.lookup x=some ((X.env.cells.lookup x).getD 0):=by
 show(cellsFrom (C+1) sc.names (clos X.env.cells sc.names [])).lookup x=_;rw[zBC,zEX,zCW (fun a m=>?_),Option.none_or]
 ·obtain⟨b,hb⟩:=zCV (zFJ (cells:=X.env.cells) h)
  have:=(zDY (mem_of_lookup hb)).2;rw[hb,this]
 ·have e1:=zBT nd (zBS m);rw[zBT nd h]at e1;cases e1
theorem zK4(I:Inv X pins σ H s)(hc:X.calm=true)(S:CompNames X.N N' k sc X.env){fp:List Addr}(hf:∀b∈fp,FpOk X pins H b)(hfo:∀b∈fp,∃o,s.heap.get? b=some o)
  {s4:qEo} {D C:Addr} (eD:D=s.heap.objs.size) (eC:C=s.heap.objs.size+1)
  (e4:s4={ s with heap:=pushCells ((s.heap.push { cls:=.type "list",data:=.seq #[] 0 }).push { cls:=.type "dict",data:=.dict #[] }) sc.names }) :
  Inv (zCZ X N' sc C s H fp) [(D,{ cls:=.type "list",data:=.seq #[] 0 })] (σ++qAb k none) H s4/\∀b∈fp,FpOk (zCZ X N' sc C s H fp) [(D,{ cls:=.type "list",data:=.seq #[] 0 })] H b:=by
 subst eD eC e4;generalize hh1:s.heap.push { cls:=.type "list",data:=.seq #[] 0 }=h1;generalize hh2:h1.push { cls:=.type "dict",data:=.dict #[] }=h2;have sz1:h1.objs.size=s.heap.objs.size+1:=by rw[<- hh1];exact qFh ..
 have sz2:h2.objs.size=s.heap.objs.size+2:=by rw[<- hh2,qFh,sz1]
 have k1:∀b o,s.heap.get? b=some o->h1.get? b=some o:=fun b o e=>by rw[<- hh1];exact qEp _ e
 have k2:∀b o,h1.get? b=some o->h2.get? b=some o:=fun b o e=>by rw[<- hh2];exact qEp _ e
 have k3:∀b o,h2.get? b=some o->(pushCells h2 sc.names).get? b=some o:=pushCells_keeps sc.names h2;have kk:∀b o,s.heap.get? b=some o->(pushCells h2 sc.names).get? b=some o:=fun b o e=>k3 b o (k2 b o (k1 b o e))
 have own:CellsOk (pushCells h2 sc.names) h2.objs.size (cellsFrom h2.objs.size sc.names []):=cellsFrom_ok sc.names h2 h2.objs.size [] ⟨fun _ _ hm=>(nomatch hm),qD4⟩ (qAa _);have eC1:s.heap.objs.size+1+1=h2.objs.size:=by rw[sz2]
 have freeCell:∀x,(x,qEt)∈sc.names->∃c,X.env.cells.lookup x=some c:=fun x hx=>I.ok.has x (S.free x hx)
 have cells:∀x c,(zCR sc (s.heap.objs.size+1) X.env).cells.lookup x=some c ->
   ((x,c)∈cellsFrom h2.objs.size sc.names []/\(x,qEy)∈sc.names/\(pushCells h2 sc.names).IsCell c none/\h2.objs.size<=c)\/((x,qEt)∈sc.names/\X.env.cells.lookup x=some c):=fun x c e=>by
  rcases zHS S.nd e with⟨m,q⟩|⟨m,q⟩
  ·rw[eC1]at m;exact .inl ⟨m,q,(own.empty x c m).1,(own.empty x c m).2⟩
  ·obtain⟨c',hc'⟩:=freeCell x m;rw[hc',qBg]at q;subst q;exact .inr ⟨m,hc'⟩
 have old:∀x c,X.env.cells.lookup x=some c->c<s.heap.objs.size:=fun x c e=>by
  obtain⟨v,q⟩:=I.cell x c e;exact q.lt
 have fpl:∀b∈fp,b<s.heap.objs.size:=fun b hb=>by
  obtain⟨o,e⟩:=hfo b hb;exact qEr e
 have hCn:H (s.heap.objs.size+1)=none:=I.hok.fresh (qDk _);have hDn:H s.heap.objs.size=none:=I.hok.fresh (qAa _);have nofs:∀a,s.heap.objs.size<=a->a∉frs X.stack:=fun a ha hb=>by
  rcases qAo.mp (I.stkSub a hb)with e|hb
  ·have t1:=asN I.lt;have t2:=asE e;have t3:=asL ha
   lia
  ·exact I.nofs ha hb
 have fin:∀b∈fp,b∉frs X.stack:=fun b hb z=>by
  obtain⟨f0,f1,f2,f3,f4,f5⟩:=hf b hb;rcases qAo.mp (I.stkSub b z)with e|z
  ·exact f1 e
  ·exact f2 z
 have ok:(zCZ X N' sc (s.heap.objs.size+1) s H fp).Ok:=by
  refine⟨I.ok.mod,S.kind,I.ok.glob,I.ok.blt,qDk _,?_,?_,?_,I.ok.hd,I.ok.frames,.inl rfl,?_,I.bs,qAg I.ok.bsz I.sz,?_,fin,I.stack,I.stkFree⟩
  ·intro x y c hx hy
   rcases cells x c hx with⟨m1,_,_,g1⟩|⟨m1,g1⟩<;>rcases cells y c hy with⟨m2,_,_,g2⟩|⟨m2,g2⟩
   ·exact name_of_addr own.apart m1 m2
   ·exact absurd (qAd (old y c g2) (qAg (by rw[sz2];exact qDe _ _) g1)) (qB5 _)
   ·exact absurd (qAd (old x c g1) (qAg (by rw[sz2];exact qDe _ _) g2)) (qB5 _)
   ·exact I.ok.inj x y c g1 g2
  ·intro x hx;have hx:(relabel sc X.env).names.lookup x=some .cell\/(relabel sc X.env).names.lookup x=some .free:=hx;have two:sc.names.lookup x=some .cell\/sc.names.lookup x=some .free:=by
    rcases hx with hx|hx
    ·rcases zBE (sc:=sc) hx with q|⟨q,_⟩
     ·exact .inl q
     ·exact .inr q
    ·rcases zBE (sc:=sc) hx with q|⟨_,q⟩
     ·exact .inr q
     ·cases q
   rcases two with q|q
   ·have:=qBl sc.names (s.heap.objs.size+1+1) (clos X.env.cells sc.names []) (.inl q)
    exact qC8.mp this
   ·exact⟨_,zD0 S.nd (mem_of_lookup q)⟩
  ·intro x c hx e;have hx:(sc.names.lookup x==some qEy)=true:=hx;have hx':sc.names.lookup x=some .cell:=by simpa using hx
   rcases cells x c e with⟨_,_,_,g⟩|⟨m,_⟩
   ·show s.heap.objs.size<=c
    lia
   ·rw[zBT S.nd m]at hx';cases hx'
  ·intro b hb;refine⟨?_,fun x c e z=>?_⟩
   ·exact qAm (Nat.lt_succ_of_lt (fpl b hb))
   ·rcases cells x c e with⟨_,_,_,g⟩|⟨_,g⟩
    ·have t1:=asN (fpl b hb);have t2:=asL g;have t3:=asE z
     lia
    ·exact(hf b hb).2.2.2.2.1 x c g z
  ·intro b o e hb
   rcases(hf b hb).2.2.2.1 with z|z
   ·exact I.ok.noex b o e z
   ·exact absurd (qAd (qEr e) (qAg I.ok.bsz z)) (qB5 _)
 have ns:(pushCells h2 sc.names).Ns (s.heap.objs.size+1) fun _=>none:=by
  have q:h2.Ns h1.objs.size fun _=>none:=by rw[<- hh2];exact Heap.Ns.new h1 (.type "dict")
  rw[sz1]at q;exact q.keeps k3
 have hD1:h1.get? s.heap.objs.size=some { cls:=.type "list",data:=.seq #[] 0 }:=by rw[<- hh1];exact qEv _ rfl
 refine⟨⟨ok,rfl,I.bare,Un.kept kk,⟨_,ns,?_⟩,?_,hCn,?_,?_,I.hok.kept kk,?_⟩,?_⟩
 ·intro i x v h1 h2 h3;have hi:i<X.N.length:=by
   rw[<- I.len];by_cases hi:i<σ.length
   ·exact hi
   ·rw[qA9 (by lia),qAv]at h2
    split at h2<;>cases h2
  have h2':σ[i]?=some (some v):=by
   rw[qA7 (by rw[I.len];exact hi)]at h2;exact h2
  have h1:N'[i]?=some x:=h1;rcases S.old i x h1 hi with⟨m,e⟩|e
  ·obtain⟨mm,hn,hl⟩:=I.loc;have hv:Vis X.env.scope x:=(S.free x m).elim (fun z=>.inr (.inl z)) fun z=>.inr (.inr z)
   obtain⟨u,r,l⟩:=hl i x v e h2' hv;refine⟨u,r,?_⟩;rcases l with⟨z,_⟩|⟨_,c,hc,hcell⟩
   ·rcases S.free x m with z'|z'<;>rw[z]at z'<;>cases z'
   ·refine .inr ⟨?_,c,?_,hcell.keeps kk⟩
    ·have hv3:(relabel sc X.env).names.lookup x=some .local\/(relabel sc X.env).names.lookup x=some .cell\/(relabel sc X.env).names.lookup x=some .free:=h3
     rcases hv3 with q|q|q
     ·rcases zBE (sc:=sc) q with q|⟨_,q⟩
      ·rw[zBT S.nd m]at q;cases q
      ·cases q
     ·exact .inl q
     ·exact .inr q
    ·have q:=zD0 (X:=X) (C:=s.heap.objs.size+1) S.nd m;rw[hc,qBg]at q;exact q
  ·exfalso
   have hv3:(relabel sc X.env).names.lookup x=some .local\/(relabel sc X.env).names.lookup x=some .cell\/(relabel sc X.env).names.lookup x=some .free:=h3;rcases hv3 with q|q|q<;>rcases zBE (sc:=sc) q with q|⟨q,_⟩<;>rw[e]at q<;>cases q
 ·intro x c e
  rcases cells x c e with⟨_,_,g,_⟩|⟨_,g⟩
  ·exact⟨_,g⟩
  ·obtain⟨v,q⟩:=I.cell x c g;exact⟨v,q.keeps kk⟩
 ·intro x c e
  rcases cells x c e with⟨_,_,_,g⟩|⟨_,g⟩
  ·exact I.hok.fresh (by lia)
  ·exact I.freeC x c g
 ·intro p hp;have hp':p=(s.heap.objs.size,{ cls:=.type "list",data:=.seq #[] 0 }):=by
   have:p∈([]++[(s.heap.objs.size,({ cls:=.type "list",data:=.seq #[] 0 }:Obj))]:List (Addr×Obj)):=hp;simpa using this
  subst hp';refine⟨k3 _ _ (k2 _ _ hD1),hDn,?_,nofs _ (qAa _),fun v z=>by cases z⟩;show s.heap.objs.size≠s.heap.objs.size+1
  lia
 ·show(σ++qAb k none).length=N'.length
  rw[qBa,qBq,I.len,S.len]
 ·intro b hb;obtain⟨f0,f1,f2,f3,f4,f5⟩:=hf b hb;refine⟨f0,(ok.exf b hb).1,fin b hb,.inl hb,fun x c e=>(ok.exf b hb).2 x c e,fun p hp=>?_⟩;have hp':p=(s.heap.objs.size,{ cls:=.type "list",data:=.seq #[] 0 }):=by
   have:p∈([]++[(s.heap.objs.size,({ cls:=.type "list",data:=.seq #[] 0 }:Obj))]:List (Addr×Obj)):=hp;simpa using this
  subst hp';exact qCl (fpl b hb)
end
theorem zCT{prog:qEq}{w:World}{A:qEs}{R:qGr->qEo->Prop}{s:qEo}{elt target iter:Expr}{ifs:List Expr}{scope:Scope}{pos:Pos}{it acc:Value}{env:Env}(I:Nat->qEo->Prop)
  (turn:∀n s,I n s->wpAny (model prog w) A (pyNext it) (fun r s₁=>match r with
   |none=>R (.ok .next) s₁
   |some v=>wpAny (model prog w) A (letOwnedTupleGo target it v) (fun _ s₂'=>wpAny (model prog w) A (assign target env v) (fun _ s₂=>
     wpAny (model prog w) A (forIn ifs true fun c r=>if r=true then do let ok <- isTrue c env (eval c env);pure (qBb ok)else pure (qBb r)) (fun ok s₃=>
      if ok=true then wpAny (model prog w) A (eval elt env) (fun x s₄=>
       wpAny (model prog w) A (call (.builtin "list.append") [acc,x]) (fun _ s₅=>∃m,m<n/\I m s₅) (fun _ _=>False) s₄) (fun _ _=>False) s₃
      else ∃m,m<n/\I m s₃) (fun _ _=>False) s₂) (fun _ _=>False) s₂') (fun _ _=>False) s₁) (fun _ _=>False) s)
  (n:Nat) (h:I n s) :
  qGb (model prog w) A (.compLoop (.ListComp elt [⟨target,iter,ifs,0⟩] scope pos) 0 it acc env) R s:=by
 refine codeAny_loop rfl I (fun n s hI=>?_) n h;show wpAny _ A ((compTurn (.ListComp elt [⟨target,iter,ifs,0⟩] scope pos) 0 it acc env).onRaise (fun x=>do noteFrame x env;theTreesLotGoes x)) _ _ s;refine wpAny_noted ?_;rw[compTurn_list];refine wpAny_bind (wpAny_standAt (wpAny_bind (wpAny_mono (turn n s hI) (fun r s₁ h₁=>?_) fun _ _ z=>z.elim)));cases r with
 |none=>exact wpAny_pure h₁
 |some v=>
  refine wpAny_bind (wpAny_mono h₁ (fun _ s₂' h₂'=>?_) fun _ _ z=>z.elim);refine wpAny_bind (wpAny_mono h₂' (fun _ s₂ h₂=>wpAny_bind (wpAny_mono h₂ (fun ok s₃ h₃=>?_) fun _ _ z=>z.elim)) fun _ _ z=>z.elim);cases ok with
  |false=>exact wpAny_pure ⟨rfl,h₃⟩
  |true=>
   exact wpAny_bind (wpAny_bind (wpAny_mono h₃ (fun x s₄ h₄=>wpAny_bind (wpAny_mono h₄ (fun _ s₅ h₅=>wpAny_pure (wpAny_pure ⟨rfl,h₅⟩)) fun _ _ z=>z.elim)) fun _ _ z=>z.elim))
def zKS(k:Nat)(g:TG)(tif:TT)(te:TE)(σ:St)(Q:VK)(J:It)(H1:Hp):Prop:=∃W:Nat->Nat->List V->Hp->Prop,(∃m,W 0 m [] H1)/\∀i m acc H,W i m acc H ->
 (J.stop i H/\∀D,H D=none->Q (.ref D) (upd H D (.lst acc))) \/
 (J.go i H/\acc.length<sizeLine/\∃N:List V->Hp->Prop,(∀acc' H',N acc' H'->∃m',m'<m/\W (i+1) m' acc' H')/\∀x H',J.yld i H x H'->g x (σ++qAb k none) H' fun σ2 H2=>∃own:St,own.length=k/\σ2=σ++own/\tif σ2 H2 fun b H3=>if b=true then te σ2 H3 fun v H4=>N (acc++[v]) H4 else N acc H3)
noncomputable def zN6(wi:TI)(k:Nat)(g:TG)(tif:TT)(te:TE):TE:=fun σ H Q=>wi σ H (zKS k g tif te σ Q)
theorem HOk.track{P:qEq}{w:World}{H:Hp}{h:Heap}{a:Addr}{o:HO}(x:HOk P w H h)(hn:H a=none)(new:ObjOk P w (upd H a o) h a o):HOk P w (upd H a o) h:=fun b u e=>by
 by_cases hb:b=a
 ·subst hb;rw[zAQ]at e;cases e;exact new
 ·rw[zAL hb]at e;exact(x b u e).stay (fun c v _ q=>q) (fun c q=>by rw[zAL (zAN q hn)];exact q) (fun c xs q=>by rw[zAL (zAN q hn)];exact q) fun c _ _ q _=>by rw[zAL (zAN q hn)];exact q
section
variable{X:Cx}{N':List Str}{k:Nat}{sc:Scope}{tg iter elt:Expr}{ifs:List Expr}{wi:TI}{g:TG}{tif:TT}{te:TE}{pos:Pos}
theorem zHT{pins:List (Addr×Obj)}{σ:St}{H2:Hp}{s2:qEo}{Q:VK}{RR:Value->Addr->qGr->qEo->Prop}{E:Value->qEo->Prop}(hc:X.calm=true)(S:CompNames X.N N' k sc X.env)
  (hg:∀C s H fp,PG (zCZ X N' sc C s H fp) tg g) (hif:∀C s H fp,PTs (zCZ X N' sc C s H fp) ifs tif) (he:∀C s H fp,PE (zCZ X N' sc C s H fp) elt te)
  {it:Addr} {fp:List Addr} {tn:Nat->Heap->Prop} {J:It} (I2:Inv X pins σ H2 s2) (T:Turn X.prog X.w X.K tg J fp it tn) (st2:tn 0 s2.heap) (f2:∀b∈fp,FpOk X pins H2 b)
  {W:Nat->Nat->List V->Hp->Prop} {m0:Nat} (w0:W 0 m0 [] H2)
  (turn:∀i m acc H,W i m acc H->(J.stop i H/\∀D,H D=none->Q (.ref D) (upd H D (.lst acc))) \/
   (J.go i H/\acc.length<sizeLine/\∃N:List V->Hp->Prop,(∀acc' H',N acc' H'->∃m',m'<m/\W (i+1) m' acc' H')/\∀x H',J.yld i H x H'->g x (σ++qAb k none) H' fun σ2 H2=>∃own:St,own.length=k/\σ2=σ++own/\tif σ2 H2 fun b H3=>if b=true then te σ2 H3 fun v H4=>N (acc++[v]) H4 else N acc H3))
  (hRR:∀D C s' H',D<C->s2.heap.objs.size<=D->(∃m,s'.heap.Ns C m)->H' C=none->C∉frs X.stack->Inv X pins σ H' s'->Q (.ref D) H'->RR (.ref D) C (.ok .next) s') :
  wpAny (model X.prog X.w) X.A (newList []) (fun acc s₃=>wpAny (model X.prog X.w) X.A (newFunctionEnv sc X.env.globals (clos X.env.cells sc.names []) [] X.env.qual none .none (some X.env)) (fun cenv s₄=>
   qGb (model X.prog X.w) X.A (.compStart (.ListComp elt [⟨tg,iter,ifs,0⟩] sc pos) 0 (.ref it) acc { cenv with scope:=relabel sc X.env }) (RR acc cenv.locals) s₄) E s₃) E s2:=by
 refine wpAny_newObj_type (zD9 ?_);show qGb _ _ (.compStart _ 0 (.ref it) (.ref s2.heap.objs.size) _) _ _;have szp:(s2.heap.push { cls:=.type "list",dict:=none,data:=.seq ([]:List Value).toArray }).objs.size=s2.heap.objs.size+1:=qFh ..;obtain⟨I4,F4⟩:=zK4 (s4:={ s2 with heap:=pushCells ((s2.heap.push { cls:=.type "list",data:=.seq #[] 0 }).push { cls:=.type "dict",data:=.dict #[] }) sc.names }) I2 hc S f2 (fun b hb=>let⟨o,e,_⟩:=T.obj 0 _ st2 b hb;⟨o,e⟩) rfl rfl rfl
 generalize hC:(s2.heap.push { cls:=.type "list",dict:=none,data:=.seq ([]:List Value).toArray }).objs.size=C at *;have eC:C=s2.heap.objs.size+1:=szp;rw[<- eC]at I4 F4;generalize hs4:({ s2 with heap:=pushCells ((s2.heap.push { cls:=.type "list",data:=.seq #[] 0 }).push { cls:=.type "dict",data:=.dict #[] }) sc.names }:qEo)=s4 at I4 F4
 have kk:∀b o,s2.heap.get? b=some o->s4.heap.get? b=some o:=fun b o e=>by
  rw[<- hs4];exact pushCells_keeps sc.names _ b o (qEp _ (qEp _ e))
 have st4:tn 0 s4.heap:=T.keep 0 _ _ st2 fun b _ o e=>kk b o e
 generalize hX':zCZ X N' sc C s2 H2 fp=X' at I4 F4;have henv:X'.env=zCR sc C X.env:=by rw[<- hX'];rfl
 have xprog:X'.prog=X.prog:=by rw[<- hX'];rfl
 have xw:X'.w=X.w:=by rw[<- hX'];rfl
 have xK:X'.K=X.K:=by rw[<- hX'];rfl
 have xcalm:X'.calm=true:=by rw[<- hX'];exact hc
 have xA:X'.A=X.A:=by rw[<- hX'];rfl
 have xpn:X'.pn=[]:=by rw[<- hX'];rfl
 have xxe:X'.xe=fun _ _=>False:=by rw[<- hX'];rfl
 have xs0:X'.s₀=s2:=by rw[<- hX'];rfl
 have xH0:X'.H₀=H2:=by rw[<- hX'];rfl
 have xfs:X'.fs=frs X.stack:=by rw[<- hX'];rfl
 have xex:X'.ex=fp:=by rw[<- hX'];rfl
 have hgX:PG X' tg g:=by rw[<- hX'];exact hg C s2 H2 fp
 have hifX:PTs X' ifs tif:=by rw[<- hX'];exact hif C s2 H2 fp
 have heX:PE X' elt te:=by rw[<- hX'];exact he C s2 H2 fp
 have locC:X'.env.locals=C:=by rw[henv];rfl
 generalize hDd:s2.heap.objs.size=D at *;have loop:qGb (model X.prog X.w) X.A (.compLoop (.ListComp elt [⟨tg,iter,ifs,0⟩] sc pos) 0 (.ref it) (.ref D) (zCR sc C X.env)) (RR (.ref D) C) s4:=by
  refine zCT (fun n s'=>∃i H' acc its nn,Inv X' [] (σ++qAb k none) H' s'/\tn i s'.heap/\(∀b∈fp,H' b=none)/\H' D=none/\W i n acc H'/\acc.length<=sizeLine/\Vals acc its/\s'.heap.get? D=some { cls:=.type "list",data:=.seq its.toArray nn }) ?_ m0 ?_
  ·rintro n s5 ⟨i,H5,acc,its,nn,I5,st5,fr5,hD5,w5,hz5,rv5,hL5⟩
   have hDlt:D<C:=by rw[eC];exact Nat.lt_succ_self _
   have pinD:Inv X' [(D,{ cls:=.type "list",data:=.seq its.toArray nn })] (σ++qAb k none) H5 s5:=I5.pins_of fun p hp=>by
    have hp':p=(D,{ cls:=.type "list",data:=.seq its.toArray nn }):=by simpa using hp
    subst hp';refine⟨hL5,hD5,?_,?_,fun v z=>by cases z⟩
    ·rw[locC];exact qAm hDlt
    ·have q:=(I4.pin (D,{ cls:=.type "list",data:=.seq #[] 0 }) (by simp)).2.2.2.1;exact q
   have fpD:∀{H':Hp}{oo:Obj},(∀b∈fp,H' b=none)->∀b∈fp,FpOk X' [(D,oo)] H' b:=fun{H' oo} hn b hb=>by
    obtain⟨f0,f1,f2,f3,f4,f5⟩:=F4 b hb;refine⟨hn b hb,f1,f2,f3,f4,fun p hp=>?_⟩;have hp':p=(D,oo):=by
     rw[xpn]at hp;simpa using hp
    subst hp';exact f5 (D,{ cls:=.type "list",data:=.seq #[] 0 }) (by simp)
   rcases turn i n acc H5 w5 with⟨stop,q⟩|⟨go,hlt,N,hN,step⟩
   ·have dn:=T.done X' xprog xw xK xcalm i _ s5 _ H5 (fun _ _=>False) pinD (fpD fr5) st5 stop;rw[xA]at dn;refine thn dn fun r s6 z0=>?_
    obtain⟨hr,I6⟩:=z0;subst hr;show RR (.ref D) C (.ok .next) s6;have hL6:=(I6.pin (D,{ cls:=.type "list",data:=.seq its.toArray nn }) (by simp)).1;have un6:Un (frs X.stack) fp H2 H5 s2.heap s6.heap:=by
     have:=I6.base;rw[xs0,xH0,xfs,xex]at this;exact this
    have hok6:HOk X.prog X.w H5 s6.heap:=by
     have:=I6.hok;rw[xprog,xw]at this;exact this
    have hDno:s2.heap.get? D=none:=qG2 (by rw[hDd];exact qAa _);have un7:Un (frs X.stack) fp H2 (upd H5 D (.lst acc)) s2.heap s6.heap:=
     ⟨un6.keep,un6.slot,fun b o e n hx=>by
       have hb:b≠D:=by rintro rfl;rw[hDno]at e;cases e
       rw[zAL hb];exact un6.free b o e n hx,un6.there,
      fun b xs e=>by
       have e':=un6.tups b xs e;rw[zAL (zAN e' hD5)];exact e',
      fun b o u e=>by
       have e':=un6.frzs b o u e;rw[zAL (zAN e' hD5)];exact e',
      fun b ps e=>by
       obtain⟨more,e'⟩:=un6.tbls b ps e;exact⟨more,by rw[zAL (zAN e' hD5)];exact e'⟩⟩
    have hok7:HOk X.prog X.w (upd H5 D (.lst acc)) s6.heap:=hok6.track hD5 ⟨hz5,its,nn,rv5,hL6⟩;have os6:s6.os=s2.os:=by have:=I6.os;rw[xs0]at this;exact this
    have I7:Inv X pins σ (upd H5 D (.lst acc)) s6:=I2.call' os6 un7 hok7 I6.bare fun b hb=>by
     obtain⟨f0,f1,f2,f3,f4,f5⟩:=f2 b hb;exact⟨f3,f1,f4,f5⟩
    obtain⟨mm,hn,_⟩:=I6.loc;rw[locC]at hn;have hC5:H5 C=none:=by have:=I6.free;rw[locC]at this;exact this
    refine hRR D C s6 (upd H5 D (.lst acc)) hDlt (qAa _) ⟨mm,hn⟩ ?_ ?_ I7 (q D hD5)
    ·rw[zAL (qCl hDlt)];exact hC5
    ·intro hb
     rcases qAo.mp (I2.stkSub C hb)with e|hb
     ·have t1:=asN I2.lt;have t2:=asE e;rw[hDd]at t1;have t3:=asN hDlt
      lia
     ·exact I2.nofs (by rw[hDd];exact qBp hDlt) hb
   ·have itm:=T.item X' xprog xw xK xcalm i _ s5 _ H5 (fun _ _=>False) pinD (fpD fr5) st5 go;rw[xA]at itm;refine thn itm fun r s6 z0=>?_
    obtain⟨u,hr,h6⟩:=z0;subst hr;refine thn h6 fun _ s7 z0=>?_
    obtain⟨x,H7,I7,r7,y7,st7,fr7⟩:=z0;have I7':Inv X' ([(D,{ cls:=.type "list",data:=.seq its.toArray nn })]++zEV fp s7.heap) (σ++qAb k none) H7 s7:=I7.pinned (fpD fr7) (T.obj _ _ st7);have asg:=hgX _ s7 _ H7 x u _ I7' r7 (step x H7 y7);rw[xprog,xw,xA,henv,xxe]at asg;refine thn asg fun _ s8 z0=>?_
    obtain⟨σ8,H8,I8,own,hown,hσ8,q8⟩:=z0;have weak:∀{pl:List (Addr×Obj)}{H':Hp}{s':qEo},Inv X' pl σ8 H' s'->Inv X' [] (σ++qAb k none) H' s':=fun{pl H' s'} J'=>by
     have J0:Inv X' [] σ8 H' s':=J'.pins_of (fun p hp=>by simp at hp);refine J0.weak (by rw[hσ8];simp[hown]) fun j v hj=>?_
     rw[hσ8];by_cases hjl:j<σ.length
     ·rw[qA7 hjl]at hj ⊢;exact hj
     ·rw[qA9 (by lia),qAv]at hj
      split at hj<;>cases hj
    have tst:=hifX _ s8 σ8 H8 _ I8 q8;rw[xprog,xw,xA,henv,xxe]at tst;refine thn tst fun b s9 z0=>?_
    obtain⟨H9,I9,q9⟩:=z0;have pin9:∀{σ':St}{H':Hp}{s':qEo},Inv X' ([(D,{ cls:=.type "list",data:=.seq its.toArray nn })]++zEV fp s7.heap) σ' H' s' ->
      s'.heap.get? D=some { cls:=.type "list",data:=.seq its.toArray nn }/\H' D=none/\tn (i+1) s'.heap/\(∀b∈fp,H' b=none):=fun{σ' H' s'} J'=>by
     have a1:=J'.pin (D,{ cls:=.type "list",data:=.seq its.toArray nn }) (by simp);refine⟨a1.1,a1.2.1,T.keep _ _ _ st7 fun b hb o e=>(J'.pin (b,o) (qAi _ (qAi _ (zCP hb e)))).1,fun b hb=>?_⟩;obtain⟨o,e,d⟩:=T.obj _ _ st7 b hb;exact(J'.pin (b,o) (qAi _ (qAi _ (zCP hb e)))).2.1
    cases b with
    |false=>
     rw[if_neg qA6];rw[if_neg qA6]at q9;obtain⟨m',hm,w9⟩:=hN _ _ q9;obtain⟨p1,p2,p3,p4⟩:=pin9 I9;exact⟨m',hm,i+1,H9,acc,its,nn,weak I9,p3,p4,p2,w9,hz5,rv5,p1⟩
    |true=>
     rw[if_pos rfl];rw[if_pos rfl]at q9;have ev:=heX _ s9 σ8 H9 _ I9 q9;rw[xprog,xw,xA,henv,xxe]at ev;refine thn ev fun y s10 z0=>?_
     obtain⟨v,H10,I10,r10,n10⟩:=z0;obtain⟨m',hm,w10⟩:=hN _ _ n10;obtain⟨p1,p2,p3,p4⟩:=pin9 I10;have hlen:its.length=acc.length:=rv5.length.symm;refine wpAny_list_append_plain (items:=its.toArray) ⟨nn,p1⟩ (fun h' hl' hs'=>?_) (by simp only[qAc];lia);have hDfp:D∉fp:=fun hb=>(F4 D hb).2.2.2.2.2 (D,{ cls:=.type "list",data:=.seq #[] 0 }) (by simp) rfl
     have I11:Inv X' [] (σ++qAb k none) H10 { s10 with heap:=h' }:=by
      have J0:Inv X' [] (σ++qAb k none) H10 s10:=weak I10;refine J0.turned (t':=s10.toks) (it:=D) (fun b o hb e=>(hs'.2 b hb).trans e) p2 ?_ (.inr ?_) (fun x c e z=>?_) (fun p hp=>?_)
      ·rw[locC];exact qAm hDlt
      ·rw[xs0,hDd];exact qAa _
      ·obtain⟨v',q⟩:=J0.cell x c e;obtain⟨o,ho,hd⟩:=q;rw[z,p1]at ho;cases ho;cases hd
      ·rw[xpn]at hp;simp at hp
     obtain⟨n',hk⟩:=hl';have hk':h'.get? D=some { cls:=.type "list",data:=.seq (its++[y]).toArray n' }:=by rw[hk];simp
     refine⟨m',hm,i+1,H10,acc++[v],its++[y],n',I11,T.keep _ _ _ p3 fun b hb o e=>(hs'.2 b (fun z=>hDfp (z▸hb))).trans e,p4,p2,w10,?_,rv5.append (.cons r10 .nil),hk'⟩;rw[qBa,qCm]
     lia
  ·refine⟨0,H2,[],[],0,I4.pins_of (fun p hp=>by simp at hp),st4,fun b hb=>(f2 b hb).1,I2.hok.fresh (by rw[hDd];exact qAa _),w0,qA8 _,.nil,?_⟩;exact(I4.pin (D,{ cls:=.type "list",data:=.seq #[] 0 }) (by simp)).1
 exact codeAny_compStart_list loop (T.self _ 0 _ _ _ st4 loop)
theorem zB4(hc:X.calm=true)(S:CompNames X.N N' k sc X.env)(hi:PI X tg iter wi)
  (hg:∀C s H fp,PG (zCZ X N' sc C s H fp) tg g) (hif:∀C s H fp,PTs (zCZ X N' sc C s H fp) ifs tif) (he:∀C s H fp,PE (zCZ X N' sc C s H fp) elt te)
  (hs:∀x,qFk iter X.env x=pure x:=by intro _;rfl):PE X (.ListComp elt [⟨tg,iter,ifs,0⟩] sc pos) (zN6 wi k g tif te):=by
 intro pins s σ H Q I h;rw[eval_ListComp];have hfree:∀x,(x,qEt)∈sc.names->∃c,X.env.cells.lookup x=some c:=fun x hx=>I.ok.has x (S.free x hx)
 refine wpAny_comprehension_free (use:=none) rfl hs (zFI hfree) S.kind (fun x hx hl=>?_) ?_
 ·obtain⟨n,kd⟩:=x;dsimp only at hl ⊢;subst hl;exact zBT S.nd hx
 ·refine thn (hi pins s σ H _ I h) fun v s1 h1=>thn h1 fun itv s2 h2=>?_
  obtain⟨it,fp,tn,J,H2,e,I2,T,st2,f2,W,⟨m0,w0⟩,turn⟩:=h2;subst e;refine zHT (RR:=fun acc C=>compPost (model X.prog X.w) X.A X.xe none (EP X pins σ Q) acc C) hc S hg hif he I2 T st2 f2 w0 turn ?_;intro D C s' H' hDC hD hn hCn hCf I' q;obtain⟨m,hn⟩:=hn;refine⟨m,hn,fun h' hs'=>⟨.ref D,H',?_,rfl,q⟩⟩;have hCb:s2.heap.objs.size<=C:=qBp (Nat.lt_of_le_of_lt hD hDC);refine I'.turned (t':=s'.toks) (it:=C) (fun b o hb e=>(hs'.2 b hb).trans e) hCn ?_ (.inr (qAg I2.sz hCb)) (fun x c e z=>?_) (fun p hp z=>?_)
  ·exact qCl (qAd I2.lt hCb)
  ·obtain⟨v,q⟩:=I2.cell x c e;exact absurd z (qAm (qAd q.lt hCb))
  ·exact absurd z (qAm (qAd (qEr (I2.pin p hp).1) hCb))
theorem zC7{lo:Int}{n:Nat}{σ:St}{H:Hp}{Q:VK}(Pv:Nat->List V->Hp->Prop)(h0:Pv 0 [] H)(hz:∀i acc H,i<n->Pv i acc H->acc.length<sizeLine)
  (hs:∀i acc H,i<n->Pv i acc H->g (.int (lo+i)) (σ++qAb k none) H fun σ2 H2=>∃own:St,own.length=k/\σ2=σ++own/\tif σ2 H2 fun b H3=>if b=true then te σ2 H3 fun v H4=>Pv (i+1) (acc++[v]) H4 else Pv (i+1) acc H3)
  (hd:∀acc H,Pv n acc H->∀D,H D=none->Q (.ref D) (upd H D (.lst acc))) :
  zKS k g tif te σ Q (Itr lo n) H:=by
 refine⟨fun i m acc H=>m=n-i/\i<=n/\Pv i acc H,⟨n,by simp,qA8 _,h0⟩,?_⟩
 rintro i m acc H ⟨rfl,hi,p⟩
 by_cases hlt:i<n
 ·refine .inr ⟨hlt,hz i acc H hlt p,Pv (i+1),fun acc' H' p'=>⟨n-(i+1),by lia,rfl,hlt,p'⟩,fun x H' y=>?_⟩;obtain⟨e,y⟩:=y;subst e y;exact hs i acc _ hlt p
 ·have e:i=n:=by lia
  subst e;exact .inl ⟨qAa _,hd acc H p⟩
def zJQ(g:TG)(tb:TS)(D:Ends)(σ:St)(J:It)(H1:Hp):Prop:=∃W:Nat->Nat->St->Hp->Prop,(∃m,W 0 m σ H1)/\∀i m σ H,W i m σ H ->
 (J.stop i H/\D.nx σ H)\/(J.go i H/\∃N:St->Hp->Prop,(∀σ' H',N σ' H'->∃m',m'<m/\W (i+1) m' σ' H')/\∀x H',J.yld i H x H'->g x σ H' fun σ2 H2=>tb { D with nx:=N,ct:=N,bk:=D.nx } σ2 H2)
theorem zGM{body:List Stmt}{tb:TS}(hp:PassesOwn (model X.prog X.w) X.A X.env X.xe)(hc:X.calm=true)(hi:PI X tg iter wi)(hg:PG X tg g)(hb:PSs X body tb)
  (hs:∀x,qFk iter X.env x=pure x:=by intro _;rfl):PS X (.For tg iter body [] pos) (fun D σ H=>wi σ H (zJQ g tb D σ)):=zNS hp hc hi hg hb hs
end
inductive Dat where
 |non|bl (b:Bool)|int (i:Int)|str (x:Str)|lst (xs:List Dat)|tup (xs:List Dat)
mutual
def Dat.dep:Dat->Nat
 |.lst xs=>Dat.depL xs+1
 |.tup xs=>Dat.depL xs+1
 |_=>0
def Dat.depL:List Dat->Nat
 |[]=>0
 |x::r=>max x.dep (Dat.depL r)
end
mutual
def Dat.eq:Dat->Dat->Bool
 |.non,.non=>true
 |.bl a,.bl b=>a==b
 |.bl a,.int b=>(if a then 1 else 0)==b
 |.int a,.bl b=>a==(if b then 1 else 0)
 |.int a,.int b=>a==b
 |.str a,.str b=>a==b
 |.lst xs,.lst ys=>Dat.eqL xs ys
 |.tup xs,.tup ys=>Dat.eqL xs ys
 |_,_=>false
def Dat.eqL:List Dat->List Dat->Bool
 |[],[]=>true
 |x::r,y::q=>Dat.eq x y&&Dat.eqL r q
 |_,_=>false
end
mutual
def Rep(H:Hp):Dat->V->Prop
 |.non,v=>v=.non
 |.bl b,v=>v=.bl b
 |.int i,v=>v=.int i
 |.str x,v=>v=.str x
 |.lst ds,v=>∃a xs,v=.ref a/\H a=some (.lst xs)/\RepL H ds xs
 |.tup ds,v=>∃a xs,v=.ref a/\H a=some (.tup xs)/\RepL H ds xs
def RepL(H:Hp):List Dat->List V->Prop
 |[],xs=>xs=[]
 |d::r,xs=>∃x q,xs=x::q/\Rep H d x/\RepL H r q
end
mutual
theorem Rep.mono{H H':Hp}(s:Same H H'):∀{d:Dat}{v:V},Rep H d v->Rep H' d v
 |.non,_,h=>h
 |.bl _,_,h=>h
 |.int _,_,h=>h
 |.str _,_,h=>h
 |.lst _,_,h=>by obtain⟨a,xs,e,e',r⟩:=h;exact⟨a,xs,e,s _ _ e',RepL.mono s r⟩
 |.tup _,_,h=>by obtain⟨a,xs,e,e',r⟩:=h;exact⟨a,xs,e,s _ _ e',RepL.mono s r⟩
theorem RepL.mono{H H':Hp}(s:Same H H'):∀{ds:List Dat}{xs:List V},RepL H ds xs->RepL H' ds xs
 |[],_,h=>h
 |_::_,_,h=>by obtain⟨x,q,e,r,t⟩:=h;exact⟨x,q,e,Rep.mono s r,RepL.mono s t⟩
end
mutual
theorem Rep.inj{H:Hp}:∀{d e:Dat}{v:V},Rep H d v->Rep H e v->d=e
 |.non,e,v,h,h'=>by cases h;cases e<;>first|rfl|(cases h';done)|(obtain⟨a,xs,z,_⟩:=h';cases z)
 |.bl b,e,v,h,h'=>by cases h;cases e<;>first|(cases h';rfl)|(cases h';done)|(obtain⟨a,xs,z,_⟩:=h';cases z)
 |.int b,e,v,h,h'=>by cases h;cases e<;>first|(cases h';rfl)|(cases h';done)|(obtain⟨a,xs,z,_⟩:=h';cases z)
 |.str b,e,v,h,h'=>by cases h;cases e<;>first|(cases h';rfl)|(cases h';done)|(obtain⟨a,xs,z,_⟩:=h';cases z)
 |.lst ds,e,v,h,h'=>by
  obtain⟨a,xs,rfl,ha,q⟩:=h;cases e with
  |lst es=>
   obtain⟨b,ys,z,hb,q'⟩:=h';cases z;rw[ha]at hb;cases hb;rw[RepL.inj q q']
  |tup es=>
   obtain⟨b,ys,z,hb,q'⟩:=h';cases z;rw[ha]at hb;cases hb
  |_=>cases h'
 |.tup ds,e,v,h,h'=>by
  obtain⟨a,xs,rfl,ha,q⟩:=h;cases e with
  |tup es=>
   obtain⟨b,ys,z,hb,q'⟩:=h';cases z;rw[ha]at hb;cases hb;rw[RepL.inj q q']
  |lst es=>
   obtain⟨b,ys,z,hb,q'⟩:=h';cases z;rw[ha]at hb;cases hb
  |_=>cases h'
theorem RepL.inj{H:Hp}:∀{ds es:List Dat}{xs:List V},RepL H ds xs->RepL H es xs->ds=es
 |[],[],_,_,_=>rfl
 |[],_::_,_,h,h'=>by cases h;obtain⟨x,q,e,_⟩:=h';cases e
 |_::_,[],_,h,h'=>by cases h';obtain⟨x,q,e,_⟩:=h;cases e
 |d::r,e::t,_,h,h'=>by
  obtain⟨x,q,rfl,r1,t1⟩:=h;obtain⟨x',q',z,r2,t2⟩:=h';cases z;rw[Rep.inj r1 r2,RepL.inj t1 t2]
end
mutual
theorem Dat.eq_refl:∀d:Dat,Dat.eq d d=true
 |.non=>by simp[Dat.eq]
 |.bl _=>by simp[Dat.eq]
 |.int _=>by simp[Dat.eq]
 |.str _=>by simp[Dat.eq]
 |.lst xs=>by rw[Dat.eq];exact Dat.eqL_refl xs
 |.tup xs=>by rw[Dat.eq];exact Dat.eqL_refl xs
theorem Dat.eqL_refl:∀ds:List Dat,Dat.eqL ds ds=true
 |[]=>by simp[Dat.eqL]
 |d::r=>by rw[Dat.eqL,Dat.eq_refl d,Dat.eqL_refl r];rfl
end
theorem RepL.length{H:Hp}:∀{ds:List Dat}{xs:List V},RepL H ds xs->xs.length=ds.length
 |[],_,h=>by cases h;rfl
 |_::_,_,h=>by obtain⟨x,q,e,r,t⟩:=h;subst e;simp[RepL.length t]
theorem Dat.eqL_len:∀{xs ys:List Dat},xs.length≠ys.length->Dat.eqL xs ys=false
 |[],[],h=>absurd rfl h
 |[],_::_,_=>by simp[Dat.eqL]
 |_::_,[],_=>by simp[Dat.eqL]
 |x::r,y::q,h=>by
  rw[Dat.eqL,Dat.eqL_len (fun e=>h (by simp[e])),qB2]
theorem Dat.eqL_all:∀{xs ys:List Dat},xs.length=ys.length->∀(e:Nat->Bool),(∀j (h1:j<xs.length) (h2:j<ys.length),e j=Dat.eq xs[j] ys[j])->(qA5 xs.length).all e=Dat.eqL xs ys
 |[],[],_,_,_=>by simp[Dat.eqL]
 |[],_::_,h,_,_=>by simp at h
 |_::_,[],h,_,_=>by simp at h
 |x::r,y::q,h,e,he=>by
  have hl:r.length=q.length:=by simpa using h
  rw[qAz,qBm,qBu,Dat.eqL,he 0 (by simp) (by simp)]
  have:=Dat.eqL_all (xs:=r) (ys:=q) hl (fun j=>e (j+1)) (fun j h1 h2=>by
   rw[he (j+1) (by simpa using h1) (by simpa using h2)];simp)
  rw[<- this,qEg];rfl
theorem RepL.get{H:Hp}:∀{ds:List Dat}{xs:List V}{i:Nat}{x:V},RepL H ds xs->xs[i]?=some x->∃d,ds[i]?=some d/\Rep H d x
 |[],_,_,_,h,e=>by cases h;simp at e
 |d::_,_,0,_,h,e=>by obtain⟨x,q,e1,r,t⟩:=h;subst e1;simp at e;subst e;exact⟨d,rfl,r⟩
 |_::_,_,i+1,_,h,e=>by
  obtain⟨x,q,e1,r,t⟩:=h;subst e1;obtain⟨d',h1,h2⟩:=RepL.get (i:=i) t (by simpa using e);exact⟨d',by simpa using h1,h2⟩
theorem Dat.depL_mem{d:Dat}:∀{ds:List Dat},d∈ds->d.dep<=Dat.depL ds
 |_::_,h=>by
  rw[Dat.depL];rcases qAo.mp h with rfl|h
  ·exact Nat.le_max_left _ _
  ·exact qAg (Dat.depL_mem h) (Nat.le_max_right _ _)
section
variable{P:qEq}{w:World}{H:Hp}
theorem zCM(A:qEs):A.in1.units=A.units+1:=rfl
theorem zAP{s:qEo}{a:Addr}{xs:List V}(ok:HOk P w H s.heap)(h:H a=some (.lst xs)):∃its:List Value,Vals xs its/\s.heap.IsList a its.toArray:=by
 obtain⟨_,its,n,r,e⟩:=ok a _ h;exact⟨its,r,⟨_,e,rfl,n,rfl⟩⟩
theorem zB7{s:qEo}{a:Addr}{xs:List V}(ok:HOk P w H s.heap)(h:H a=some (.tup xs)):∃its:List Value,Vals xs its/\s.heap.IsTuple a its.toArray:=by
 obtain⟨_,its,r,e⟩:=ok a _ h;exact⟨its,r,e⟩
theorem Rep.flat{d:Dat}{v:V}(h:Rep H d v)(hf:d.dep=0):zMD v=true:=by
 cases d with
 |non=>cases h;rfl
 |bl _=>cases h;rfl
 |int _=>cases h;rfl
 |str _=>cases h;rfl
 |lst _=>simp[Dat.dep]at hf
 |tup _=>simp[Dat.dep]at hf
theorem Rep.flatEq{d e:Dat}{v u:V}(h:Rep H d v)(h':Rep H e u)(hf:d.dep=0)(hf':e.dep=0):eqV v u=Dat.eq d e:=by
 cases d<;>cases e<;>first
  |(simp[Dat.dep]at hf;done)
  |(simp[Dat.dep]at hf';done)
  |(cases h;cases h';simp[eqV,Dat.eq];done)
theorem zK8:∀(n:Nat){d e:Dat}{v u:V}{x y:Value}{A:qEs}{s:qEo},d.dep<=n->HOk P w H s.heap->Rep H d v->Rep H e u->RelV v x->RelV u y->A.units+n<cLine->qFl A s x y (Dat.eq d e):=by
 intro n;induction n with
 |zero=>
  intro d e v u x y A s hd ok h1 h2 r1 r2 hu;have f1:=h1.flat (by lia)
  by_cases he:e.dep=0
  ·have f2:=h2.flat he
   have:=zOJ (A:=A) (s:=s) r1 r2 f1 f2;rw[h1.flatEq h2 (by lia) he]at this;exact this
  ·have hu':A.units<cLine:=by lia
   cases e with
   |lst ys=>
    obtain⟨a,xs,rfl,ha,_⟩:=h2;obtain⟨its,_,hl⟩:=zAP ok ha;cases r2;cases d with
    |non=>cases h1;cases r1;exact SeqAt.EqAt.none_list hl hu'
    |bl b=>cases h1;cases r1;exact SeqAt.EqAt.bool_list b hl hu'
    |int i=>cases h1;obtain⟨t,rfl⟩:=r1;exact SeqAt.EqAt.int_list i t hl hu'
    |str z=>cases h1;obtain⟨t,rfl⟩:=r1;exact SeqAt.EqAt.str_list z t hl hu'
    |lst _=>simp[Dat.dep]at hd
    |tup _=>simp[Dat.dep]at hd
   |tup ys=>
    obtain⟨a,xs,rfl,ha,_⟩:=h2;obtain⟨its,_,hl⟩:=zB7 ok ha;cases r2;cases d with
    |non=>cases h1;cases r1;exact SeqAt.EqAt.none_tuple hl hu'
    |bl b=>cases h1;cases r1;exact SeqAt.EqAt.bool_tuple b hl hu'
    |int i=>cases h1;obtain⟨t,rfl⟩:=r1;exact SeqAt.EqAt.int_tuple i t hl hu'
    |str z=>cases h1;obtain⟨t,rfl⟩:=r1;exact SeqAt.EqAt.str_tuple z t hl hu'
    |lst _=>simp[Dat.dep]at hd
    |tup _=>simp[Dat.dep]at hd
   |_=>simp[Dat.dep]at he
 |succ n ih=>
  intro d e v u x y A s hd ok h1 h2 r1 r2 hu;by_cases hd0:d.dep<=n
  ·exact ih hd0 ok h1 h2 r1 r2 (by lia)
  have hu':A.units<cLine:=by lia
  have pairs:∀{ds es:List Dat}{xs ys:List V}{its its2:List Value},Dat.depL ds<=n->RepL H ds xs->RepL H es ys->Vals xs its->Vals ys its2->∀j (h1:j<its.toArray.size) (h2:j<its2.toArray.size),
    qFl A.in1 s its.toArray[j] its2.toArray[j] (Dat.eq (ds.getD j .non) (es.getD j .non)):=by
   intro ds es xs ys its its2 hdl q1 q2 v1 v2 j j1 j2;have l1:j<xs.length:=by have:=v1.length;simp at j1;lia
   have l2:j<ys.length:=by have:=v2.length;simp at j2;lia
   obtain⟨d',e1,p1⟩:=q1.get (i:=j) (x:=xs[j]) (by simp[l1]);obtain⟨e',e2,p2⟩:=q2.get (i:=j) (x:=ys[j]) (by simp[l2]);obtain⟨w1,g1,z1⟩:=v1.get (i:=j) (x:=xs[j]) (by simp[l1]);obtain⟨w2,g2,z2⟩:=v2.get (i:=j) (x:=ys[j]) (by simp[l2]);have k1:its.toArray[j]=w1:=by
    obtain⟨_,k⟩:=qA2.mp g1;simpa using k
   have k2:its2.toArray[j]=w2:=by
    obtain⟨_,k⟩:=qA2.mp g2;simpa using k
   rw[k1,k2,qA3,qA3,e1,e2];exact ih (qAg (Dat.depL_mem (qBt e1)) hdl) ok p1 p2 z1 z2 (by rw[zCM];lia)
  cases d with
  |lst ds=>
   have hdl:Dat.depL ds<=n:=by rw[Dat.dep]at hd;lia
   obtain⟨a,xs,rfl,ha,q1⟩:=h1;obtain⟨its,v1,hl1⟩:=zAP ok ha;cases r1;cases e with
   |non=>cases h2;cases r2;exact SeqAt.EqAt.list_none hl1 hu'
   |bl b=>cases h2;cases r2;exact SeqAt.EqAt.list_bool b hl1 hu'
   |int i=>cases h2;obtain⟨t,rfl⟩:=r2;exact SeqAt.EqAt.list_int i t hl1 hu'
   |str z=>cases h2;obtain⟨t,rfl⟩:=r2;exact SeqAt.EqAt.list_str z t hl1 hu'
   |tup es=>
    obtain⟨b,ys,rfl,hb,q2⟩:=h2;obtain⟨its2,v2,hl2⟩:=zB7 ok hb;cases r2;exact qF5 (zJX ha hb (fun z=>nomatch z)) (qFu hl1 hl2 hu')
   |lst es=>
    obtain⟨b,ys,rfl,hb,q2⟩:=h2;obtain⟨its2,v2,hl2⟩:=zAP ok hb;cases r2;have len1:its.toArray.size=ds.length:=by have:=v1.length;have:=q1.length;simp;lia
    have len2:its2.toArray.size=es.length:=by have:=v2.length;have:=q2.length;simp;lia
    show qFl A s (.ref a) (.ref b) (Dat.eqL ds es);by_cases hne:a=b
    ·
     subst hne;rw[ha]at hb;cases hb;have same:Dat.eqL ds es=true:=by
      rw[RepL.inj q1 q2];exact Dat.eqL_refl _
     rw[same];exact qFb _
    ·refine qF5 hne ?_
     by_cases hs:ds.length=es.length
     ·have:=qGl (A:=A) (s:=s) hl1 hl2 (by rw[len1,len2,hs]) hu' (pairs hdl q1 q2 v1 v2)
      rw[len1,Dat.eqL_all hs _ (fun j h1 h2=>by rw[qA3,qA3];simp[h1,h2])]at this;exact this
     ·rw[Dat.eqL_len hs];exact qFm hl1 hl2 (by rw[len1,len2];simpa using hs) hu'
  |tup ds=>
   have hdl:Dat.depL ds<=n:=by rw[Dat.dep]at hd;lia
   obtain⟨a,xs,rfl,ha,q1⟩:=h1;obtain⟨its,v1,hl1⟩:=zB7 ok ha;cases r1;cases e with
   |non=>cases h2;cases r2;exact SeqAt.EqAt.tuple_none hl1 hu'
   |bl b=>cases h2;cases r2;exact SeqAt.EqAt.tuple_bool b hl1 hu'
   |int i=>cases h2;obtain⟨t,rfl⟩:=r2;exact SeqAt.EqAt.tuple_int i t hl1 hu'
   |str z=>cases h2;obtain⟨t,rfl⟩:=r2;exact SeqAt.EqAt.tuple_str z t hl1 hu'
   |lst es=>
    obtain⟨b,ys,rfl,hb,q2⟩:=h2;obtain⟨its2,v2,hl2⟩:=zAP ok hb;cases r2;exact qF5 (zJX ha hb (fun z=>nomatch z)) (qFv hl1 hl2 hu')
   |tup es=>
    obtain⟨b,ys,rfl,hb,q2⟩:=h2;obtain⟨its2,v2,hl2⟩:=zB7 ok hb;cases r2;have len1:its.toArray.size=ds.length:=by have:=v1.length;have:=q1.length;simp;lia
    have len2:its2.toArray.size=es.length:=by have:=v2.length;have:=q2.length;simp;lia
    show qFl A s (.ref a) (.ref b) (Dat.eqL ds es);by_cases hne:a=b
    ·subst hne;rw[ha]at hb;cases hb;have same:Dat.eqL ds es=true:=by
      rw[RepL.inj q1 q2];exact Dat.eqL_refl _
     rw[same];exact qFb _
    ·refine qF5 hne ?_
     have:=qGf (A:=A) (s:=s) hl1 hl2 hu' (pairs hdl q1 q2 v1 v2);by_cases hs:ds.length=es.length
     ·rw[len1,len2,<- hs,qDa,beq_self_eq_true,qBv,Dat.eqL_all hs _ (fun j h1 h2=>by rw[qA3,qA3];simp[h1,h2])]at this;exact this
     ·rw[len1,len2,show(ds.length==es.length)=false by simpa using hs,qB2]at this;rw[Dat.eqL_len hs];exact this
  |_=>simp[Dat.dep]at hd0
theorem zDW{n:Nat}{A:qEs}{s:qEo}(ok:HOk P w H s.heap){ds es:List Dat}{xs ys:List V}{its its2:List Value}(hdl:Dat.depL ds<=n)(hu:A.units+n<cLine)(q1:RepL H ds xs)(q2:RepL H es ys)(v1:Vals xs its)(v2:Vals ys its2) :
  ∀j (h1:j<its.toArray.size) (h2:j<its2.toArray.size),qFl A s its.toArray[j] its2.toArray[j] (Dat.eq (ds.getD j .non) (es.getD j .non)):=by
 intro j j1 j2;have l1:j<xs.length:=by have:=v1.length;simp at j1;lia
 have l2:j<ys.length:=by have:=v2.length;simp at j2;lia
 obtain⟨d',e1,p1⟩:=q1.get (i:=j) (x:=xs[j]) (by simp[l1]);obtain⟨e',e2,p2⟩:=q2.get (i:=j) (x:=ys[j]) (by simp[l2]);obtain⟨w1,g1,z1⟩:=v1.get (i:=j) (x:=xs[j]) (by simp[l1]);obtain⟨w2,g2,z2⟩:=v2.get (i:=j) (x:=ys[j]) (by simp[l2]);have k1:its.toArray[j]=w1:=by
  obtain⟨_,k⟩:=qA2.mp g1;simpa using k
 have k2:its2.toArray[j]=w2:=by
  obtain⟨_,k⟩:=qA2.mp g2;simpa using k
 rw[k1,k2,qA3,qA3,e1,e2];exact zK8 n (qAg (Dat.depL_mem (qBt e1)) hdl) ok p1 p2 z1 z2 hu
theorem zJS(n:Nat){d e:Dat}{v u:V}{x y:Value}{A:qEs}{s:qEo}(hd:d.dep<=n)(ok:HOk P w H s.heap)(h1:Rep H d v)(h2:Rep H e u)(r1:RelV v x)(r2:RelV u y)(hu:A.units+n<cLine):qH1 A s x y (Dat.eq d e):=by
 have hu':A.units<cLine:=by lia
 cases d with
 |non=>
  cases h1;cases r1;cases e with
  |non=>
   cases h2;cases r2;exact SeqAt.RcAt.none_none
  |bl b=>
   cases h2;cases r2;exact SeqAt.RcAt.none_bool b
  |int b=>
   cases h2;obtain⟨t2,rfl⟩:=r2;exact SeqAt.RcAt.none_int b t2
  |str b=>
   cases h2;obtain⟨t2,rfl⟩:=r2;exact SeqAt.RcAt.none_str b t2
  |lst es=>
   obtain⟨p2,ys,rfl,hb,q2⟩:=h2;obtain⟨its2,v2,hl2⟩:=zAP ok hb;cases r2;exact SeqAt.RcAt.none_list hl2 hu'
  |tup es=>
   obtain⟨p2,ys,rfl,hb,q2⟩:=h2;obtain⟨its2,v2,hl2⟩:=zB7 ok hb;cases r2;exact SeqAt.RcAt.none_tuple hl2 hu'
 |bl a=>
  cases h1;cases r1;cases e with
  |non=>
   cases h2;cases r2;exact SeqAt.RcAt.bool_none a
  |bl b=>
   cases h2;cases r2;exact SeqAt.RcAt.bool_bool a b
  |int b=>
   cases h2;obtain⟨t2,rfl⟩:=r2;exact SeqAt.RcAt.bool_int a b t2
  |str b=>
   cases h2;obtain⟨t2,rfl⟩:=r2;exact SeqAt.RcAt.bool_str a b t2
  |lst es=>
   obtain⟨p2,ys,rfl,hb,q2⟩:=h2;obtain⟨its2,v2,hl2⟩:=zAP ok hb;cases r2;exact SeqAt.RcAt.bool_list a hl2 hu'
  |tup es=>
   obtain⟨p2,ys,rfl,hb,q2⟩:=h2;obtain⟨its2,v2,hl2⟩:=zB7 ok hb;cases r2;exact SeqAt.RcAt.bool_tuple a hl2 hu'
 |int a=>
  cases h1;obtain⟨t1,rfl⟩:=r1;cases e with
  |non=>
   cases h2;cases r2;exact SeqAt.RcAt.int_none a t1
  |bl b=>
   cases h2;cases r2;exact SeqAt.RcAt.int_bool a t1 b
  |int b=>
   cases h2;obtain⟨t2,rfl⟩:=r2;exact SeqAt.RcAt.int_int a t1 b t2
  |str b=>
   cases h2;obtain⟨t2,rfl⟩:=r2;exact SeqAt.RcAt.int_str a t1 b t2
  |lst es=>
   obtain⟨p2,ys,rfl,hb,q2⟩:=h2;obtain⟨its2,v2,hl2⟩:=zAP ok hb;cases r2;exact SeqAt.RcAt.int_list a t1 hl2 hu'
  |tup es=>
   obtain⟨p2,ys,rfl,hb,q2⟩:=h2;obtain⟨its2,v2,hl2⟩:=zB7 ok hb;cases r2;exact SeqAt.RcAt.int_tuple a t1 hl2 hu'
 |str a=>
  cases h1;obtain⟨t1,rfl⟩:=r1;cases e with
  |non=>
   cases h2;cases r2;exact SeqAt.RcAt.str_none a t1
  |bl b=>
   cases h2;cases r2;exact SeqAt.RcAt.str_bool a t1 b
  |int b=>
   cases h2;obtain⟨t2,rfl⟩:=r2;exact SeqAt.RcAt.str_int a t1 b t2
  |str b=>
   cases h2;obtain⟨t2,rfl⟩:=r2;exact SeqAt.RcAt.str_str a t1 b t2
  |lst es=>
   obtain⟨p2,ys,rfl,hb,q2⟩:=h2;obtain⟨its2,v2,hl2⟩:=zAP ok hb;cases r2;exact SeqAt.RcAt.str_list a t1 hl2 hu'
  |tup es=>
   obtain⟨p2,ys,rfl,hb,q2⟩:=h2;obtain⟨its2,v2,hl2⟩:=zB7 ok hb;cases r2;exact SeqAt.RcAt.str_tuple a t1 hl2 hu'
 |lst ds=>
  have hdl:Dat.depL ds+1<=n:=by rw[Dat.dep]at hd;exact hd
  obtain⟨p,xs,rfl,ha,q1⟩:=h1;obtain⟨its,v1,hl1⟩:=zAP ok ha;cases r1;cases e with
  |non=>
   cases h2;cases r2;exact SeqAt.RcAt.list_none hl1 hu'
  |bl b=>
   cases h2;cases r2;exact SeqAt.RcAt.list_bool b hl1 hu'
  |int b=>
   cases h2;obtain⟨t2,rfl⟩:=r2;exact SeqAt.RcAt.list_int b t2 hl1 hu'
  |str b=>
   cases h2;obtain⟨t2,rfl⟩:=r2;exact SeqAt.RcAt.list_str b t2 hl1 hu'
  |lst es=>
   obtain⟨p2,ys,rfl,hb,q2⟩:=h2;obtain⟨its2,v2,hl2⟩:=zAP ok hb;cases r2;have len1:its.toArray.size=ds.length:=by have:=v1.length;have:=q1.length;simp;lia
   have len2:its2.toArray.size=es.length:=by have:=v2.length;have:=q2.length;simp;lia
   show qH1 A s (.ref p) (.ref p2) (Dat.eqL ds es);by_cases hs:ds.length=es.length
   ·have:=qGl (A:=A) (s:=s) hl1 hl2 (by rw[len1,len2,hs]) hu' (zDW ok (by lia) (by rw[zCM];lia:A.in1.units+(n-1)<cLine) q1 q2 v1 v2)
    rw[len1,Dat.eqL_all hs _ (fun j h1 h2=>by rw[qA3,qA3];simp[h1,h2])]at this;exact this
   ·rw[Dat.eqL_len hs];exact qFm hl1 hl2 (by rw[len1,len2];simpa using hs) hu'
  |tup es=>
   obtain⟨p2,ys,rfl,hb,q2⟩:=h2;obtain⟨its2,v2,hl2⟩:=zB7 ok hb;cases r2;exact qFu hl1 hl2 hu'
 |tup ds=>
  have hdl:Dat.depL ds+1<=n:=by rw[Dat.dep]at hd;exact hd
  obtain⟨p,xs,rfl,ha,q1⟩:=h1;obtain⟨its,v1,hl1⟩:=zB7 ok ha;cases r1;cases e with
  |non=>
   cases h2;cases r2;exact SeqAt.RcAt.tuple_none hl1 hu'
  |bl b=>
   cases h2;cases r2;exact SeqAt.RcAt.tuple_bool b hl1 hu'
  |int b=>
   cases h2;obtain⟨t2,rfl⟩:=r2;exact SeqAt.RcAt.tuple_int b t2 hl1 hu'
  |str b=>
   cases h2;obtain⟨t2,rfl⟩:=r2;exact SeqAt.RcAt.tuple_str b t2 hl1 hu'
  |lst es=>
   obtain⟨p2,ys,rfl,hb,q2⟩:=h2;obtain⟨its2,v2,hl2⟩:=zAP ok hb;cases r2;exact qFv hl1 hl2 hu'
  |tup es=>
   obtain⟨p2,ys,rfl,hb,q2⟩:=h2;obtain⟨its2,v2,hl2⟩:=zB7 ok hb;cases r2;have len1:its.toArray.size=ds.length:=by have:=v1.length;have:=q1.length;simp;lia
   have len2:its2.toArray.size=es.length:=by have:=v2.length;have:=q2.length;simp;lia
   show qH1 A s (.ref p) (.ref p2) (Dat.eqL ds es);have:=qGf (A:=A) (s:=s) hl1 hl2 hu' (zDW ok (by lia) (by rw[zCM];lia:A.in1.units+(n-1)<cLine) q1 q2 v1 v2)
   by_cases hs:ds.length=es.length
   ·rw[len1,len2,<- hs,qDa,beq_self_eq_true,qBv,Dat.eqL_all hs _ (fun j h1 h2=>by rw[qA3,qA3];simp[h1,h2])]at this;exact this
   ·rw[len1,len2,show(ds.length==es.length)=false by simpa using hs,qB2]at this;rw[Dat.eqL_len hs];exact this
theorem zHL(n:Nat){d e:Dat}{v u:V}{x y:Value}{A:qEs}{s:qEo}(hd:d.dep<=n)(ok:HOk P w H s.heap)(h1:Rep H d v)(h2:Rep H e u)(r1:RelV v x)(r2:RelV u y)(hu:A.units+n<cLine):qGj A s x y (!Dat.eq d e):=by
 have hu':A.units<cLine:=by lia
 cases d with
 |non=>
  cases h1;cases r1;cases e with
  |non=>
   cases h2;cases r2;exact SeqAt.RcNeAt.none_none
  |bl b=>
   cases h2;cases r2;exact SeqAt.RcNeAt.none_bool b
  |int b=>
   cases h2;obtain⟨t2,rfl⟩:=r2;exact SeqAt.RcNeAt.none_int b t2
  |str b=>
   cases h2;obtain⟨t2,rfl⟩:=r2;exact SeqAt.RcNeAt.none_str b t2
  |lst es=>
   obtain⟨p2,ys,rfl,hb,q2⟩:=h2;obtain⟨its2,v2,hl2⟩:=zAP ok hb;cases r2;exact SeqAt.RcNeAt.none_list hl2 hu'
  |tup es=>
   obtain⟨p2,ys,rfl,hb,q2⟩:=h2;obtain⟨its2,v2,hl2⟩:=zB7 ok hb;cases r2;exact SeqAt.RcNeAt.none_tuple hl2 hu'
 |bl a=>
  cases h1;cases r1;cases e with
  |non=>
   cases h2;cases r2;exact SeqAt.RcNeAt.bool_none a
  |bl b=>
   cases h2;cases r2;exact SeqAt.RcNeAt.bool_bool a b
  |int b=>
   cases h2;obtain⟨t2,rfl⟩:=r2;exact SeqAt.RcNeAt.bool_int a b t2
  |str b=>
   cases h2;obtain⟨t2,rfl⟩:=r2;exact SeqAt.RcNeAt.bool_str a b t2
  |lst es=>
   obtain⟨p2,ys,rfl,hb,q2⟩:=h2;obtain⟨its2,v2,hl2⟩:=zAP ok hb;cases r2;exact SeqAt.RcNeAt.bool_list a hl2 hu'
  |tup es=>
   obtain⟨p2,ys,rfl,hb,q2⟩:=h2;obtain⟨its2,v2,hl2⟩:=zB7 ok hb;cases r2;exact SeqAt.RcNeAt.bool_tuple a hl2 hu'
 |int a=>
  cases h1;obtain⟨t1,rfl⟩:=r1;cases e with
  |non=>
   cases h2;cases r2;exact SeqAt.RcNeAt.int_none a t1
  |bl b=>
   cases h2;cases r2;exact SeqAt.RcNeAt.int_bool a t1 b
  |int b=>
   cases h2;obtain⟨t2,rfl⟩:=r2;exact SeqAt.RcNeAt.int_int a t1 b t2
  |str b=>
   cases h2;obtain⟨t2,rfl⟩:=r2;exact SeqAt.RcNeAt.int_str a t1 b t2
  |lst es=>
   obtain⟨p2,ys,rfl,hb,q2⟩:=h2;obtain⟨its2,v2,hl2⟩:=zAP ok hb;cases r2;exact SeqAt.RcNeAt.int_list a t1 hl2 hu'
  |tup es=>
   obtain⟨p2,ys,rfl,hb,q2⟩:=h2;obtain⟨its2,v2,hl2⟩:=zB7 ok hb;cases r2;exact SeqAt.RcNeAt.int_tuple a t1 hl2 hu'
 |str a=>
  cases h1;obtain⟨t1,rfl⟩:=r1;cases e with
  |non=>
   cases h2;cases r2;exact SeqAt.RcNeAt.str_none a t1
  |bl b=>
   cases h2;cases r2;exact SeqAt.RcNeAt.str_bool a t1 b
  |int b=>
   cases h2;obtain⟨t2,rfl⟩:=r2;exact SeqAt.RcNeAt.str_int a t1 b t2
  |str b=>
   cases h2;obtain⟨t2,rfl⟩:=r2;exact SeqAt.RcNeAt.str_str a t1 b t2
  |lst es=>
   obtain⟨p2,ys,rfl,hb,q2⟩:=h2;obtain⟨its2,v2,hl2⟩:=zAP ok hb;cases r2;exact SeqAt.RcNeAt.str_list a t1 hl2 hu'
  |tup es=>
   obtain⟨p2,ys,rfl,hb,q2⟩:=h2;obtain⟨its2,v2,hl2⟩:=zB7 ok hb;cases r2;exact SeqAt.RcNeAt.str_tuple a t1 hl2 hu'
 |lst ds=>
  have hdl:Dat.depL ds+1<=n:=by rw[Dat.dep]at hd;exact hd
  obtain⟨p,xs,rfl,ha,q1⟩:=h1;obtain⟨its,v1,hl1⟩:=zAP ok ha;cases r1;cases e with
  |non=>
   cases h2;cases r2;exact SeqAt.RcNeAt.list_none hl1 hu'
  |bl b=>
   cases h2;cases r2;exact SeqAt.RcNeAt.list_bool b hl1 hu'
  |int b=>
   cases h2;obtain⟨t2,rfl⟩:=r2;exact SeqAt.RcNeAt.list_int b t2 hl1 hu'
  |str b=>
   cases h2;obtain⟨t2,rfl⟩:=r2;exact SeqAt.RcNeAt.list_str b t2 hl1 hu'
  |lst es=>
   obtain⟨p2,ys,rfl,hb,q2⟩:=h2;obtain⟨its2,v2,hl2⟩:=zAP ok hb;cases r2;have len1:its.toArray.size=ds.length:=by have:=v1.length;have:=q1.length;simp;lia
   have len2:its2.toArray.size=es.length:=by have:=v2.length;have:=q2.length;simp;lia
   show qGj A s (.ref p) (.ref p2) (!Dat.eqL ds es);by_cases hs:ds.length=es.length
   ·have:=SeqAt.RcNeAt.lists (A:=A) (s:=s) hl1 hl2 (by rw[len1,len2,hs]) hu' (zDW ok (by lia) (by rw[zCM];lia:A.in1.units+(n-1)<cLine) q1 q2 v1 v2)
    rw[len1,Dat.eqL_all hs _ (fun j h1 h2=>by rw[qA3,qA3];simp[h1,h2])]at this;exact this
   ·rw[Dat.eqL_len hs];exact SeqAt.RcNeAt.lists_lengths hl1 hl2 (by rw[len1,len2];simpa using hs) hu'
  |tup es=>
   obtain⟨p2,ys,rfl,hb,q2⟩:=h2;obtain⟨its2,v2,hl2⟩:=zB7 ok hb;cases r2;exact SeqAt.RcNeAt.list_tuple hl1 hl2 hu'
 |tup ds=>
  have hdl:Dat.depL ds+1<=n:=by rw[Dat.dep]at hd;exact hd
  obtain⟨p,xs,rfl,ha,q1⟩:=h1;obtain⟨its,v1,hl1⟩:=zB7 ok ha;cases r1;cases e with
  |non=>
   cases h2;cases r2;exact SeqAt.RcNeAt.tuple_none hl1 hu'
  |bl b=>
   cases h2;cases r2;exact SeqAt.RcNeAt.tuple_bool b hl1 hu'
  |int b=>
   cases h2;obtain⟨t2,rfl⟩:=r2;exact SeqAt.RcNeAt.tuple_int b t2 hl1 hu'
  |str b=>
   cases h2;obtain⟨t2,rfl⟩:=r2;exact SeqAt.RcNeAt.tuple_str b t2 hl1 hu'
  |lst es=>
   obtain⟨p2,ys,rfl,hb,q2⟩:=h2;obtain⟨its2,v2,hl2⟩:=zAP ok hb;cases r2;exact SeqAt.RcNeAt.tuple_list hl1 hl2 hu'
  |tup es=>
   obtain⟨p2,ys,rfl,hb,q2⟩:=h2;obtain⟨its2,v2,hl2⟩:=zB7 ok hb;cases r2;have len1:its.toArray.size=ds.length:=by have:=v1.length;have:=q1.length;simp;lia
   have len2:its2.toArray.size=es.length:=by have:=v2.length;have:=q2.length;simp;lia
   show qGj A s (.ref p) (.ref p2) (!Dat.eqL ds es);have:=SeqAt.RcNeAt.tuples (A:=A) (s:=s) hl1 hl2 hu' (zDW ok (by lia) (by rw[zCM];lia:A.in1.units+(n-1)<cLine) q1 q2 v1 v2)
   by_cases hs:ds.length=es.length
   ·rw[len1,len2,<- hs,qDa,beq_self_eq_true,qBv,Dat.eqL_all hs _ (fun j h1 h2=>by rw[qA3,qA3];simp[h1,h2])]at this;exact this
   ·rw[len1,len2,show(ds.length==es.length)=false by simpa using hs,qB2]at this;rw[Dat.eqL_len hs];exact this
end
section
variable{X:Cx}
noncomputable def rEqD:R2:=fun x y H Q=>∃d e,Rep H d x/\Rep H e y/\d.dep<=40/\Q (.bl (Dat.eq d e)) H
noncomputable def rNeD:R2:=fun x y H Q=>∃d e,Rep H d x/\Rep H e y/\d.dep<=40/\Q (.bl (!Dat.eq d e)) H
theorem zO2(hu:X.A.units+64<cLine):OpR X (compareOp .Eq) rEqD:=by
 intro pins s σ H x y v u Q I rx ry h;obtain⟨d,e,h1,h2,hd,q⟩:=h;exact zJS 40 hd I.hok h1 h2 rx ry (by lia) _ _ _ _ ⟨.bl _,H,I,rfl,q⟩
theorem zO0(hu:X.A.units+64<cLine):OpR X (compareOp .NotEq) rNeD:=by
 intro pins s σ H x y v u Q I rx ry h;obtain⟨d,e,h1,h2,hd,q⟩:=h;exact zHL 40 hd I.hok h1 h2 rx ry (by lia) _ _ _ _ ⟨.bl _,H,I,rfl,q⟩
noncomputable def zDR(H:Hp):V->Option String
 |.non=>some "NoneType"
 |.bl _=>some "bool"
 |.int _=>some "int"
 |.str _=>some "str"
 |.ref a=>match H a with
  |some (.lst _)=>some "list"
  |some (.tup _)=>some "tuple"
  |some (.dK _)=>some "dict"
  |_=>none
 |_=>none
noncomputable def zIV(T n:String):Bool:=T==n||(T == "bool" && n == "int")
theorem zGV:zCO X (.builtin "isinstance") (fun vs H Q=>∃x n T,vs=[x,.ty n]/\zDR H x=some T/\n∈["int","bool","str","list","tuple","dict"]/\Q (.bl (zIV T n)) H):=by
 intro pins s σ H vs us Q I r h;obtain⟨x,n,T,rfl,ht,hn,q⟩:=h;obtain⟨u,w',rfl,rx,rn⟩:=zLL r;cases(show w'=Value.type n from rn)
 have key:∃t,TyOf X.K H x t/\t=.type T:=by
  cases x with
  |non=>cases ht;exact⟨_,.non,rfl⟩
  |bl b=>cases ht;exact⟨_,.bl b,rfl⟩
  |int b=>cases ht;exact⟨_,.int b,rfl⟩
  |str b=>cases ht;exact⟨_,.str b,rfl⟩
  |ref a=>
   unfold zDR at ht;dsimp only at ht;cases e:H a with
   |none=>rw[e]at ht;cases ht
   |some o=>
    rw[e]at ht;cases o with
    |lst xs=>cases ht;exact⟨_,.lst e,rfl⟩
    |tup xs=>cases ht;exact⟨_,.tup e,rfl⟩
    |dK xs=>cases ht;exact⟨_,.dK e,rfl⟩
    |_=>cases ht
  |_=>cases ht
 obtain⟨t,ty,rfl⟩:=key;have hT:T∈["NoneType","bool","int","str","list","tuple","dict"]:=by
  cases x with
  |non=>cases ht;decide
  |bl b=>cases ht;decide
  |int b=>cases ht;decide
  |str b=>cases ht;decide
  |ref a=>
   unfold zDR at ht;dsimp only at ht;cases e:H a with
   |none=>rw[e]at ht;cases ht
   |some o=>
    rw[e]at ht;cases o with
    |lst xs=>cases ht;decide
    |tup xs=>cases ht;decide
    |dK xs=>cases ht;decide
    |_=>cases ht
  |_=>cases ht
 have e:qDy X.K (.type T) (.type n)=some (zIV T n):=by
  simp only[qAo,List.mem_nil_iff,or_false]at hT hn;rcases hT with rfl|rfl|rfl|rfl|rfl|rfl|rfl<;>rcases hn with rfl|rfl|rfl|rfl|rfl|rfl<;>rfl
 exact zIT I rx ty e fun tk=>⟨.bl _,H,I.tok tk,rfl,q⟩
theorem zE1{prog:qEq}{w:World}{A:qEs}{bs:List Bool}:TruthOf prog w A (fun i v=>(bs.map qEz).toArray[i]?=some v) (fun i=>bs.getD i false):=by
 intro i v s Q E hv hq;have hv':(bs[i]?).map qEz=some v:=by simpa using hv
 cases e:bs[i]? with
 |none=>rw[e]at hv';cases hv'
 |some b=>
  rw[e]at hv';cases hv';dsimp only at hq;rw[qA3,e]at hq;exact wpAny_truthy_bool hq
theorem zDJ:∀{bs:List Bool}{its:List Value},Vals (bs.map V.bl) its->its=bs.map qEz
 |[],_,.nil=>rfl
 |b::r,_,.cons h t=>by
  have h':_=qEz b:=h;rw[h',zDJ t];rfl
theorem zHG:∀(bs:List Bool),(qA5 bs.length).all (fun i=>bs.getD i false)=bs.all id
 |[]=>rfl
 |b::r=>by
  rw[qAz,qBm,qBu,qBu,<- zHG r,qEg];rfl
theorem zHF:∀(bs:List Bool),(qA5 bs.length).any (fun i=>bs.getD i false)=bs.any id
 |[]=>rfl
 |b::r=>by
  rw[qAz,qBm,qEd,qEd,<- zHF r,List.any_map];rfl
theorem zKH(hc:X.calm=true):zCO X (.builtin "all") (fun vs H Q=>∃(a:Addr)(bs:List Bool),vs=[.ref a]/\H a=some (.lst (bs.map V.bl))/\Q (.bl (bs.all id)) H):=by
 intro pins s σ H vs us Q I r h;obtain⟨a,bs,rfl,ha,q⟩:=h;obtain⟨u,rfl,rx⟩:=zGK r;cases rx;obtain⟨its,rv,hl⟩:=zAP I.hok ha;have e:=zDJ rv;subst e;refine call_all_walk (wpAny_pyIter_list hl ?_);have hlt:a<s.heap.objs.size:=by obtain⟨o,ho,_⟩:=hl;exact qEr ho
 refine⟨s.heap.objs.size,_,_,_,_,_,fun i=>bs.getD i false,rfl,Walks.list (show X.A.in1.handled=none from I.ok.hd hc) s.heap.objs.size a (qAm hlt) _,
  ⟨⟨_,qEv _ rfl,rfl,rfl⟩,hl.at fun o e=>qEp _ e⟩,zE1,fun h' tk hk=>?_⟩
 refine⟨.bl _,H,I.kept (t':=tk) fun b o e=>hk b o ?_ (qEp _ e),rfl,?_⟩
 ·have:=qEr e
  simp only[qAp];exact qAm this
 ·have:(bs.map qEz).toArray.size=bs.length:=by simp
  rw[this,zHG];exact q
theorem zKG(hc:X.calm=true):zCO X (.builtin "any") (fun vs H Q=>∃(a:Addr)(bs:List Bool),vs=[.ref a]/\H a=some (.lst (bs.map V.bl))/\Q (.bl (bs.any id)) H):=by
 intro pins s σ H vs us Q I r h;obtain⟨a,bs,rfl,ha,q⟩:=h;obtain⟨u,rfl,rx⟩:=zGK r;cases rx;obtain⟨its,rv,hl⟩:=zAP I.hok ha;have e:=zDJ rv;subst e;refine call_any_walk (wpAny_pyIter_list hl ?_);have hlt:a<s.heap.objs.size:=by obtain⟨o,ho,_⟩:=hl;exact qEr ho
 refine⟨s.heap.objs.size,_,_,_,_,_,fun i=>bs.getD i false,rfl,Walks.list (show X.A.in1.handled=none from I.ok.hd hc) s.heap.objs.size a (qAm hlt) _,
  ⟨⟨_,qEv _ rfl,rfl,rfl⟩,hl.at fun o e=>qEp _ e⟩,zE1,fun h' tk hk=>?_⟩
 refine⟨.bl _,H,I.kept (t':=tk) fun b o e=>hk b o ?_ (qEp _ e),rfl,?_⟩
 ·have:=qEr e
  simp only[qAp];exact qAm this
 ·have:(bs.map qEz).toArray.size=bs.length:=by simp
  rw[this,zHF];exact q
noncomputable def zPN(lo:Int)(n:Nat):List V:=(qA5 n).map fun i=>.int (lo+(i:Nat))
def zNQ:R2:=fun x y H Q=>match x,y with
 |.int i,.int j=>Q (.int (i+j)) H
 |.str i,.str j=>i.length+j.length<=sizeLine/\Q (.str (i++j)) H
 |.ref l,.ref b=>∃xs zs,H l=some (.lst xs)/\H b=some (.lst zs)/\xs.length+zs.length<=sizeLine/\∀p,H p=none->Q (.ref p) (upd H p (.lst (xs++zs)))
 |_,_=>False
theorem zEL:OpR X (binaryOp .Add) zNQ:=by
 intro pins s σ H x y v u Q I rx ry h;cases x<;>cases y<;>first
  |exact zO4 pins s σ H _ _ v u Q I rx ry ⟨_,_,rfl,rfl,h⟩
  |exact zHM pins s σ H _ _ v u Q I rx ry ⟨_,_,rfl,rfl,h.1,h.2⟩
  |(obtain⟨xs,zs,h1,h2,h3,h4⟩:=h;exact zO3 pins s σ H _ _ v u Q I rx ry ⟨_,_,xs,zs,rfl,rfl,h1,h2,h3,h4⟩)
  |exact qA4 h
noncomputable def rMulU:R2:=fun x y H Q=>match x,y with
 |.int i,.int j=>CMul i j/\Q (.int (i*j)) H
 |_,_=>False
noncomputable def zNI:R2:=fun x y H Q=>match x,y with
 |.int i,.int j=>Q (.int (i-j)) H
 |_,_=>False
theorem zN1:OpR X (binaryOp .Sub) zNI:=by
 intro pins s σ H x y v u Q I rx ry h;cases x<;>cases y<;>first
  |exact zNZ pins s σ H _ _ v u Q I rx ry ⟨_,_,rfl,rfl,h⟩
  |exact qA4 h
noncomputable def zNM:R2:=fun x y H Q=>match x,y with
 |.int i,.int j=>0<j/\Q (.int (i%j)) H
 |_,_=>False
theorem zD4:OpR X (binaryOp .Mod) zNM:=by
 intro pins s σ H x y v u Q I rx ry h;cases x<;>cases y<;>first
  |exact zO1 pins s σ H _ _ v u Q I rx ry ⟨_,_,rfl,rfl,h.1,h.2⟩
  |exact qA4 h
def zNK:V->Hp->VK->Prop:=fun x H Q=>match x with
 |.int i=>Q (.int (-i)) H
 |_=>False
theorem zP3:UnR X (unaryOp .USub) zNK:=by
 intro pins s σ H x v Q I rx h;cases x<;>first
  |exact zN0 pins s σ H _ v Q I rx ⟨_,rfl,h⟩
  |exact qA4 h
noncomputable def zJV(p:Int->Int->Bool):R2:=fun x y H Q=>match x,y with
 |.int i,.int j=>Q (.bl (p i j)) H
 |_,_=>False
theorem u_lt:OpR X (compareOp .Lt) (zJV fun i j=>decide (i<j)):=by
 intro pins s σ H x y v u Q I rx ry h;cases x<;>cases y<;>first
  |exact zPI pins s σ H _ _ v u Q I rx ry ⟨_,_,rfl,rfl,h⟩
  |exact qA4 h
theorem u_le:OpR X (compareOp .LtE) (zJV fun i j=>decide (i<=j)):=by
 intro pins s σ H x y v u Q I rx ry h;cases x<;>cases y<;>first
  |exact zPJ pins s σ H _ _ v u Q I rx ry ⟨_,_,rfl,rfl,h⟩
  |exact qA4 h
theorem u_gt:OpR X (compareOp .Gt) (zJV fun i j=>decide (j<i)):=by
 intro pins s σ H x y v u Q I rx ry h;cases x<;>cases y<;>first
  |exact zPK pins s σ H _ _ v u Q I rx ry ⟨_,_,rfl,rfl,h⟩
  |exact qA4 h
def rEqU:R2:=fun x y H Q=>match x,y with
 |.int i,.int j=>Q (.bl (decide (i=j))) H
 |.str i,.str j=>Q (.bl (decide (i=j))) H
 |.bl i,.bl j=>Q (.bl (decide (i=j))) H
 |x,y=>rEqD x y H Q
def rNeU:R2:=fun x y H Q=>match x,y with
 |.int i,.int j=>Q (.bl (!decide (i=j))) H
 |.str i,.str j=>Q (.bl (!decide (i=j))) H
 |.bl i,.bl j=>Q (.bl (!decide (i=j))) H
 |x,y=>rNeD x y H Q
theorem u_eq(hu:X.A.units+64<cLine):OpR X (compareOp .Eq) rEqU:=by
 intro pins s σ H x y v u Q I rx ry h;cases x<;>cases y<;>first
  |(refine zPL pins s σ H _ _ v u Q I rx ry ⟨rfl,?_⟩;have h':=h;simp only[rEqU]at h';simpa using h')
  |exact zO2 hu pins s σ H _ _ v u Q I rx ry h
theorem u_ne(hu:X.A.units+64<cLine):OpR X (compareOp .NotEq) rNeU:=by
 intro pins s σ H x y v u Q I rx ry h;cases x<;>cases y<;>first
  |(refine zPH pins s σ H _ _ v u Q I rx ry ⟨rfl,?_⟩;have h':=h;simp only[rNeU]at h';simpa using h')
  |exact zO0 hu pins s σ H _ _ v u Q I rx ry h
def rIxU(K:qA0):R2:=fun x y H Q=>match x,y with
 |.str z,.int i=>∃c,z.length<=sizeLine/\atI z.cps.toList i=some c/\Q (.str ⟨#[c]⟩) H
 |.ref p,.int i=>∃xs v,(SqL K H p xs\/SqT K H p xs)/\atI xs i=some v/\Q v H
 |_,_=>False
theorem u_ix:IxR X (rIxU X.K):=by
 intro value slice pins s σ H x y v u Q I rx ry h hs;cases x<;>cases y<;>first
  |(obtain⟨c,h1,h2,h3⟩:=h;exact zOD value slice pins s σ H _ _ v u Q I rx ry ⟨_,_,c,rfl,rfl,h1,h2,h3⟩ hs)
  |(obtain⟨xs,w,h1|h1,h2,h3⟩:=h
    ·exact zM8 value slice pins s σ H _ _ v u Q I rx ry ⟨_,xs,_,w,rfl,rfl,h1,h2,h3⟩ hs
    ·exact zOB value slice pins s σ H _ _ v u Q I rx ry ⟨_,xs,_,w,rfl,rfl,h1,h2,h3⟩ hs)
  |exact qA4 h
def zLS(K:qA0):List V->Hp->VK->Prop:=fun vs H Q=>match vs with
 |[.str z]=>z.length<=sizeLine/\Q (.int z.length) H
 |[.ref p]=>∃xs,(SqL K H p xs\/SqT K H p xs)/\Q (.int xs.length) H
 |_=>False
theorem zPQ:zCO X (.builtin "len") (zLS X.K):=by
 intro pins s σ H vs us Q I r h;cases vs with
 |nil=>exact qA4 h
 |cons hd1 tl1=>
  cases hd1 with
  |str z=>
   cases tl1 with
   |nil=>
    exact zG6 pins s σ H _ us Q I r ⟨z,rfl,h.1,h.2⟩
   |cons _ _=>exact qA4 h
  |ref p=>
   cases tl1 with
   |nil=>
    obtain⟨xs,h1,h2⟩:=h;exact zG7 pins s σ H _ us Q I r ⟨p,xs,rfl,h1,h2⟩
   |cons _ _=>exact qA4 h
  |_=>exact qA4 h
def rListU(K:qA0):List V->Hp->VK->Prop:=fun vs H Q=>match vs with
 |[.ref p]=>(∃xs,(SqL K H p xs\/SqT K H p xs)/\∀l,H l=none->Q (.ref l) (upd H l (.lst xs))) \/
   ∃lo hi,H p=some (.rng lo hi)/\(-(2 ^ 62)<=lo/\lo<2 ^ 62/\-(2 ^ 62)<=hi/\hi<2 ^ 62)/\hi-lo<=1000000/\∀l,H l=none->Q (.ref l) (upd H l (.lst (zPN lo (hi-lo).toNat)))
 |_=>False
def zLT:List V->Hp->VK->Prop:=fun vs H Q=>match vs with
 |[x,.ty n]=>∃T,zDR H x=some T/\n∈["int","bool","str","list","tuple","dict"]/\Q (.bl (zIV T n)) H
 |_=>False
theorem zAX:zCO X (.builtin "isinstance") zLT:=by
 intro pins s σ H vs us Q I r h;cases vs with
 |nil=>exact qA4 h
 |cons x tl1=>
  cases tl1 with
  |nil=>exact qA4 h
  |cons hd2 tl2=>
   cases hd2 with
   |ty n=>
    cases tl2 with
    |nil=>
     obtain⟨T,h1,h2,h3⟩:=h;exact zGV pins s σ H _ us Q I r ⟨x,n,T,rfl,h1,h2,h3⟩
    |cons _ _=>exact qA4 h
   |_=>exact qA4 h
def zNP:List V->Hp->VK->Prop:=fun vs H Q=>match vs with
 |[.ref a]=>∃bs:List Bool,H a=some (.lst (bs.map V.bl))/\Q (.bl (bs.all id)) H
 |_=>False
theorem zIP(hc:X.calm=true):zCO X (.builtin "all") zNP:=by
 intro pins s σ H vs us Q I r h;cases vs with
 |nil=>exact qA4 h
 |cons hd1 tl1=>
  cases hd1 with
  |ref a=>
   cases tl1 with
   |nil=>
    obtain⟨bs,h1,h2⟩:=h;exact zKH hc pins s σ H _ us Q I r ⟨a,bs,rfl,h1,h2⟩
   |cons _ _=>exact qA4 h
  |_=>exact qA4 h
def zNO:List V->Hp->VK->Prop:=fun vs H Q=>match vs with
 |[.ref a]=>∃bs:List Bool,H a=some (.lst (bs.map V.bl))/\Q (.bl (bs.any id)) H
 |_=>False
theorem zOA(hc:X.calm=true):zCO X (.builtin "any") zNO:=by
 intro pins s σ H vs us Q I r h;cases vs with
 |nil=>exact qA4 h
 |cons hd1 tl1=>
  cases hd1 with
  |ref a=>
   cases tl1 with
   |nil=>
    obtain⟨bs,h1,h2⟩:=h;exact zKG hc pins s σ H _ us Q I r ⟨a,bs,rfl,h1,h2⟩
   |cons _ _=>exact qA4 h
  |_=>exact qA4 h
end
noncomputable def zG2(N N':List Str)(k:Nat)(sc esc:Scope):Bool:=
 (sc.kind==.function)&&decide ((sc.names.map (·.1)).Nodup)&&(N'.length==N.length+k) &&
 ((qA5 N.length).all fun i=>match N'[i]? with
  |none=>true
  |some x=>(sc.names.lookup x==none)||(sc.names.any (fun p=>p.1==x&&p.2==.free)&&N[i]?==some x)) &&
 (sc.names.all fun p=>p.2 != .free||esc.names.lookup p.1==some .cell||esc.names.lookup p.1==some .free)
theorem cn{X:Cx}{sc:Scope}(N':List Str)(k:Nat)(h:zG2 X.N N' k sc X.env.scope=true):CompNames X.N N' k sc X.env:=by
 unfold zG2 at h;simp only[qAl,decide_eq_true_eq,beq_iff_eq]at h;obtain⟨⟨⟨⟨h1,h2⟩,h3⟩,h4⟩,h5⟩:=h;refine⟨h1,h2,h3,fun i x e hi=>?_,fun x hx=>?_⟩
 ·have q:=qAx.mp h4 i (qAu.mpr hi);rw[e]at q;simp only[qCo,qAl,beq_iff_eq,qCf]at q
  rcases q with q|⟨⟨p,hp,e1,e2⟩,e3⟩
  ·exact .inr q
  ·obtain⟨y,kk⟩:=p;dsimp only at e1 e2;subst e1;subst e2;exact .inl ⟨hp,e3⟩
 ·have q:=qAx.mp h5 _ hx;simp only[qCo,bne_iff_ne,ne_eq,not_true_eq_false,false_or,beq_iff_eq]at q;exact q
theorem PE.imp{X:Cx}{e:Expr}{t t':TE}(h:PE X e t)(i:∀σ H Q,t' σ H Q->t σ H Q):PE X e t':=fun pins s σ H Q I q=>h pins s σ H Q I (i σ H Q q)
noncomputable def vM(i:Nat):TE:=fun σ H Q=>match σ[i]? with
 |some (some v)=>Q v H
 |_=>False
theorem pn{X:Cx}(i:Nat){x:Str}{pos:Pos}(hN:X.N[i]?=some x:=by rfl)(hv:Vis X.env.scope x:=by first|exact Or.inl rfl|exact qEm (Or.inl rfl)|exact qEm (qEm rfl))(hd:(x==("__debug__":Str))=false:=by decide)
  (hcd:(x==("__classdict__":Str))=false:=by decide):PE X (.Name x pos) (vM i):=(zNT hN hv hd hcd).imp fun σ H Q h=>by
 unfold vM at h;cases e:σ[i]? with
 |none=>rw[e]at h;exact qA4 h
 |some w=>
  rw[e]at h;cases w with
  |none=>exact qA4 h
  |some v=>exact⟨v,e,h⟩
noncomputable def bM(t:TE):TT:=fun σ H Q=>t σ H fun x H'=>match x with
 |.bl k=>Q k H'
 |.int i=>Q (i != 0) H'
 |.non=>Q false H'
 |_=>False
section
variable{X:Cx}{a b c:Expr}{ta tb tc:TE}{tA tB:TT}{rest:List Expr}{pos:Pos}
theorem zN4{K:qA0}{x:V}{H:Hp}{Q:Bool->Hp->Prop}(h:match x with | .bl k=>Q k H | .int i=>Q (i != 0) H | .non=>Q false H|_=>False):∃k,TruV K x H k/\Q k H:=by
 cases x with
 |bl k=>exact⟨k,rfl,h⟩
 |int i=>exact⟨_,rfl,h⟩
 |non=>exact⟨_,rfl,h⟩
 |_=>exact qA4 h
theorem pt_m(ha:PE X a ta)(he:∀whole,isTrue a X.env whole=(do let v <- whole;standAt a.pos;holding [v] (truthy v)):=by intro _;rfl):PT X a (bM ta):=by
 intro pins s σ H Q I h;refine isTrue_plain (thn (ha pins s σ H _ I h) fun v s1 z0=>?_) (he _);obtain⟨x,H1,I1,r1,q1⟩:=z0;exact thn (zN3 pins s1 σ H1 x v Q I1 r1 (zN4 q1)) fun _ _ q=>q
theorem zCK{op:CmpOp}{r:R2}(ho:OpR X (compareOp op) r)(ha:PE X a ta)(hb:PE X b tb)(hm:qFo op b=false):PT X (.Compare a [op] [b] pos) (fun σ H Q=>ta σ H fun x H1=>tb σ H1 fun y H2=>r x y H2 fun z H3=>match z with | .bl k=>Q k H3|_=>False):=by
 intro pins s σ H Q I h;refine wpAny_isTrue_Compare1 (thn (ha pins s σ H _ I h) fun v s1 ⟨x,H1,I1,r1,q1⟩=>thn (hb pins s1 σ H1 _ I1 q1) fun u s2 ⟨y,H2,I2,r2,q2⟩=>
  thn (ho pins s2 σ H2 x y v u _ I2 r1 r2 q2) fun d s3 ⟨z,H3,I3,r3,q3⟩=>?_) hm
 cases z with
 |bl k=>cases r3;exact wpAny_truthy_bool ⟨H3,I3,q3⟩
 |_=>exact qA4 q3
theorem zNX{op op':CmpOp}{r r':R2}(ho:OpR X (compareOp op) r)(ho':OpR X (compareOp op') r')(ha:PE X a ta)(hb:PE X b tb)(hc:PE X c tc)
  (hm:lastMarks [op,op'] [b,c]=false:=by with_unfolding_all rfl):PE X (.Compare a [op,op'] [b,c] pos) (fun σ H Q=>ta σ H fun x H1=>tb σ H1 fun y H2=>r x y H2 fun z H3=>match z with
   |.bl k=>if k=true then tc σ H3 fun w' H4=>r' y w' H4 Q else Q (.bl false) H3
   |_=>False):=by
 intro pins s σ H Q I h;refine Compare_chain (thn (ha pins s σ H _ I h) fun v s1 ⟨x,H1,I1,r1,q1⟩=>chain_link (thn (hb pins s1 σ H1 _ I1 q1) fun u s2 ⟨y,H2,I2,r2,q2⟩=>
  thn (ho pins s2 σ H2 x y v u _ I2 r1 r2 q2) fun d s3 ⟨z,H3,I3,r3,q3⟩=>?_)) hm
 cases z with
 |bl k=>
  cases r3;refine wpAny_truthy_bool ?_;cases k with
  |false=>exact ite_ff ⟨.bl false,H3,I3,rfl,by simpa using q3⟩
  |true=>exact ite_tt (chain_last (thn (hc pins s3 σ H3 _ I3 (by simpa using q3)) fun w' s4 ⟨z',H4,I4,r4,q4⟩=>ho' pins s4 σ H4 y z' u w' Q I4 r2 r4 q4))
 |_=>exact qA4 q3
theorem zEN(ha:PE X a ta)(hb:PE X (.BoolOp .And (b::rest) pos) tb):PE X (.BoolOp .And (a::b::rest) pos) (fun σ H Q=>ta σ H fun x H1=>match x with | .bl c=>if c=true then tb σ H1 Q else Q (.bl false) H1|_=>False):=by
 intro pins s σ H Q I h;refine BoolOp_and (thn (ha pins s σ H _ I h) fun v s1 z0=>?_);obtain⟨x,H1,I1,r1,q1⟩:=z0;cases x with
 |bl c=>
  cases r1;refine wpAny_truthy_bool ?_;cases c with
  |true=>exact hb pins s1 σ H1 Q I1 (by simpa using q1)
  |false=>exact⟨.bl false,H1,I1,rfl,by simpa using q1⟩
 |_=>exact qA4 q1
theorem zPF(ha:PE X a ta)(hb:PE X (.BoolOp .Or (b::rest) pos) tb):PE X (.BoolOp .Or (a::b::rest) pos) (fun σ H Q=>ta σ H fun x H1=>match x with | .bl c=>if c=true then Q (.bl true) H1 else tb σ H1 Q|_=>False):=by
 intro pins s σ H Q I h;refine BoolOp_or (thn (ha pins s σ H _ I h) fun v s1 z0=>?_);obtain⟨x,H1,I1,r1,q1⟩:=z0;cases x with
 |bl c=>
  cases r1;refine wpAny_truthy_bool ?_;cases c with
  |false=>exact hb pins s1 σ H1 Q I1 (by simpa using q1)
  |true=>exact⟨.bl true,H1,I1,rfl,by simpa using q1⟩
 |_=>exact qA4 q1
theorem zNV(ha:PE X a ta):PE X (.UnaryOp .Not a pos) (fun σ H Q=>ta σ H fun x H1=>match x with | .bl c=>Q (.bl (!c)) H1|_=>False):=by
 intro pins s σ H Q I h;refine UnaryOp_ (thn (ha pins s σ H _ I h) fun v s1 z0=>?_);obtain⟨x,H1,I1,r1,q1⟩:=z0;cases x with
 |bl c=>cases r1;exact not_of (wpAny_truthy_bool ⟨.bl (!c),H1,I1,rfl,q1⟩)
 |_=>exact qA4 q1
def setM:V->V->V->Hp->(Hp->Prop)->Prop:=fun o i v H Q=>match o,i with
 |.ref p,.int k=>∃xs j,H p=some (.lst xs)/\ixN xs.length k=some j/\Q (upd H p (.lst (xs.set j v)))
 |_,_=>False
theorem zJN:PSet X setM:=by
 intro pins s σ H o i v ov iv u Q I ro ri rv h;cases o<;>cases i<;>first
  |(obtain⟨xs,j,h1,h2,h3⟩:=h;exact zJR pins s σ H _ _ v ov iv u Q I ro ri rv ⟨_,xs,_,j,rfl,rfl,h1,h2,h3⟩)
  |exact qA4 h
def appM:V->List V->Hp->VK->Prop:=fun x vs H Q=>match x,vs with
 |.ref l,[y]=>∃xs,H l=some (.lst xs)/\xs.length<sizeLine/\Q .non (upd H l (.lst (xs++[y])))
 |_,_=>False
theorem zIH:MtR X "list.append" appM:=by
 intro pins s σ H x vs v us Q I rx rv h;cases x with
 |ref l=>
  cases vs with
  |nil=>exact qA4 h
  |cons y t=>
   cases t with
   |nil=>
    obtain⟨xs,h1,h2,h3⟩:=h;exact zIG pins s σ H _ _ v us Q I rx rv ⟨l,xs,y,rfl,rfl,h1,h2,h3⟩
   |cons _ _=>exact qA4 h
 |_=>exact qA4 h
def popM:V->List V->Hp->VK->Prop:=fun x vs H Q=>match x,vs with
 |.ref l,[.int i]=>∃xs k y,H l=some (.lst xs)/\(-(2 ^ 63)<=i/\i<2 ^ 63)/\qGs i xs.length=some k/\xs[k]?=some y/\Q y (upd H l (.lst (xs.eraseIdx k)))
 |.ref l,[]=>∃xs y,H l=some (.lst xs)/\xs[xs.length-1]?=some y/\Q y (upd H l (.lst xs.dropLast))
 |_,_=>False
theorem zIF:MtR X "list.pop" popM:=by
 intro pins s σ H x vs v us Q I rx rv h;cases x with
 |ref l=>
  cases vs with
  |nil=>
   obtain⟨xs,y,h1,h2,h3⟩:=h;exact zO8 pins s σ H _ _ v us Q I rx rv ⟨l,xs,y,rfl,rfl,h1,h2,h3⟩
  |cons y t=>
   cases y with
   |int i=>
    cases t with
    |nil=>
     obtain⟨xs,k,y,h1,h2,h3,h4,h5⟩:=h;exact zJY pins s σ H _ _ v us Q I rx rv ⟨l,xs,i,k,y,rfl,rfl,h1,h2.1,h2.2,h3,h4,h5⟩
    |cons _ _=>exact qA4 h
   |_=>exact qA4 h
 |_=>exact qA4 h
end
theorem pt_w{X:Cx}{e:Expr}{t:TT}(h:PW X e t):PT X e t:=h.pt
def Has(P:qEq)(w:World)(K:qA0)(mg:Str->Option Value)(base:Heap)(x:Str)(k:Nat)(ps:List Str)(sp:Sp):Prop:=
 ∃f fd,FnOk P w K mg base CX0 k f fd ps sp/\mg x=some (.ref f)/\qB1 K (.ref f)=true/\Binds K fd ps []
def Def(K:qA0)(mg:Str->Option Value)(x:Str)(st:Stmt):Prop:=∃f fd,Fun K x x st f fd/\mg x=some (.ref f)
section
variable{X:Cx}{x:Str}{j k:Nat}{ps:List Str}{sp:Sp}{e:Expr}{es:List Expr}{t:TA}{p pos:Pos}
theorem zBV(h:Has X.prog X.w X.K X.mg X.base x j ps sp)(hjk:j<=k)(hr:Room k X.A)(hg:Gl X x)(ha:PA X (e::es) t)(hdb:(x==("__debug__":Str))=false:=by decide)
  (he:starEach (e::es) X.env=(false,eval e X.env)::starEach es X.env:=by rfl) (hpl:(backTo pos (starEach es X.env)).any (·.1)=false:=by rfl):PE X (.Call (.Name x p) (e::es) [] pos) (zI4 sp [] E0 t):=by
 obtain⟨f,fd,G,m,kp,b⟩:=h;exact zM0 G (hr.mono hjk) hg m kp b .nil zPG ha hdb he hpl
end
section
variable{P:qEq}{w:World}{K:qA0}{mg:Str->Option Value}{base:Heap}
theorem Def.ok{x:Str}{st:Stmt}{N ps:List Str}{k:Nat}{sp:Sp}(D:Def K mg x st)(S:FnScope N ps (zAC st))
  (hb:∀(kV doc pm:Value)(an:Option Addr)(cdv ct:Value)(us:List Value),us.length=ps.length->qGn (qAt x x (zBO st) (zBD st) (zAC st) .none kV doc pm an cdv ct) ⟨us,[]⟩=pure (ps.zip us))
  (len:∀vs H Q E,sp vs H Q E->vs.length=ps.length)
  (hbody:∀(f:Addr)(cdv:Value)(A:qEs)(outer:List Env)(s:qEo)(H:Hp)(vs:List V)(Q:VK)(E:XK),Room k (A.deeper (envOfC x (zAC st) s.heap.objs.size f cdv))->sp vs H Q E ->
   ∃t,PSs (cxOf CX0 P w K mg base N x (zAC st) f cdv A outer s H E).nox (zBD st) t/\t { nx:=fun _ H'=>Q .non H',rt:=Q } (start N vs) H):Has P w K mg base x (k+1) ps sp:=by
 obtain⟨f,fd,F,m⟩:=D;exact⟨f,fd,F.ok S len (fun cdv A outer s H vs Q E hr h=>hbody f cdv A outer s H vs Q E hr h),m,F.kp,F.binds hb⟩
end
section
variable{X:Cx}{pins:List (Addr×Obj)}{σ:St}{H:Hp}{s:qEo}
def Ite(K:qA0)(a:Addr):It:=
 ⟨fun i H=>∃xs x,SqL K H a xs/\xs[i]?=some x,fun i H x H'=>∃T y,x=.ref T/\H T=none/\H'=upd H T (.tup [.int i,y])/\∀xs,SqL K H a xs->xs[i]?=some y,fun i H=>∃xs,SqL K H a xs/\xs.length<=i⟩
def iEnum(K:qA0)(tl:TA):TI:=fun σ H R=>tl σ H fun vs H1=>match vs with
 |[.ref a]=>(∃xs,SqL K H1 a xs)/\R (Ite K a) H1
 |_=>False
end
section
variable{X:Cx}{K:qA0}
theorem zCG(hK:X.K=K:=by rfl):zCO X (.builtin "len") (zLS K):=hK▸zPQ
theorem zBK(hK:X.K=K:=by rfl):IxR X (rIxU K):=hK▸u_ix
noncomputable def tML(r:V->List V->Hp->VK->Prop)(to:TE)(t:TA):TE:=fun σ H Q=>to σ H fun x H1=>match x with
 |.ref p=>∃xs,H1 p=some (.lst xs)/\t σ H1 fun vs H2=>r x vs H2 Q
 |_=>False
variable{o e:Expr}{es:List Expr}{to:TE}{t:TA}{name:Str}{apos cpos:Pos}{T id:String}{r:V->List V->Hp->VK->Prop}
theorem zLY(pa:PlainAttrs "list")(slot:Slot "list" name id)(hty:typeOf (.builtin id)=pure (.type "method_descriptor"))(hm:MtR X id r)(ho:PE X o to)(ha:PA X (e::es) t)
  (hbase:attributeBase o name X.env (eval o X.env)=eval o X.env:=by rfl)
  (hfew:((backTo cpos (starEach (e::es) X.env)).all (fun x=>!x.1)&&(backToKw cpos (keywordEach [] X.env)).all (fun x=>x.1.isSome)
   && decide ((e::es).length+([]:List Keyword).length+(if([]:List Keyword).isEmpty then 0 else 1)<30))=true:=by rfl)
  (hline:(apos.endLine==cpos.line)=true:=by rfl) (hs:starEach (e::es) X.env=(false,eval e X.env)::starEach es X.env:=by rfl) (hplain:(backTo cpos (starEach es X.env)).any (·.1)=false:=by rfl) :
  PE X (.Call (.Attribute o name apos) (e::es) [] cpos) (tML r to t):=by
 intro pins s σ H Q I h;refine wpAny_Call_method_late hbase hfew hline rfl (thn (ho pins s σ H _ I h) fun v s1 z0=>?_);obtain⟨x,H1,I1,r1,q1⟩:=z0;cases x with
 |ref p=>?_
 |_=>exact qA4 q1
 obtain⟨xs,hx,q1⟩:=q1;obtain⟨h1,h2⟩:=zKR (T:="list") I1 r1 (.inl ⟨rfl,xs,SqL.of hx⟩);refine⟨"list",id,pa,slot,hty,h1,h2,?_⟩;have hA:=ha cpos pins s1 σ H1 _ I1 q1;rw[hs]at hA ⊢;refine qFr (by show(false||(backTo cpos (starEach es X.env)).any (·.1))=false;rw[hplain]<;>rfl) (Calls.evalArgs_plain ?_);exact thn hA fun us s2 ⟨vs,H2,I2,r2,q2⟩=>hm pins s2 σ H2 (.ref p) vs v us Q I2 r1 r2 q2
theorem zNW(pa:PlainAttrs "list")(slot:Slot "list" name id)(hty:typeOf (.builtin id)=pure (.type "method_descriptor"))(hm:MtR X id r)(ho:PE X o to)
  (hbase:attributeBase o name X.env (eval o X.env)=eval o X.env:=by rfl) (hline:(apos.endLine==cpos.line)=true:=by rfl):PE X (.Call (.Attribute o name apos) [] [] cpos) (tML r to tNil):=by
 intro pins s σ H Q I h;refine wpAny_Call_method0_late hbase hline (thn (ho pins s σ H _ I h) fun v s1 z0=>?_);obtain⟨x,H1,I1,r1,q1⟩:=z0;cases x with
 |ref p=>?_
 |_=>exact qA4 q1
 obtain⟨xs,hx,q1⟩:=q1;obtain⟨h1,h2⟩:=zKR (T:="list") I1 r1 (.inl ⟨rfl,xs,SqL.of hx⟩);exact⟨"list",id,pa,slot,hty,h1,h2,qFr rfl (PySem.evalArgs_none (hm pins s1 σ H1 (.ref p) [] v [] Q I1 r1 .nil q1))⟩
end
theorem same_new{H:Hp}{p:Addr}(h:H p=none)(o:HO):Same H (upd H p o):=fun b u q=>by rw[zAL (zAN q h)];exact q
theorem Same.upd{H H':Hp}{p:Addr}(s:Same H H')(h:H p=none)(o:HO):Same H (upd H' p o):=fun b u q=>by rw[zAL (zAN q h)];exact s b u q
theorem zCJ{H:Hp}:∀(ns:List Int),RepL H (ns.map Dat.int) (ns.map V.int)
 |[]=>rfl
 |n::r=>⟨.int n,r.map V.int,rfl,rfl,zCJ r⟩
theorem zEG:∀(ns:List Int),Dat.depL (ns.map Dat.int)=0
 |[]=>rfl
 |n::r=>by
  rw[qAn,Dat.depL,zEG r];rfl
theorem zDX:∀(ns ms:List Int),Dat.eqL (ns.map Dat.int) (ms.map Dat.int)=decide (ns=ms)
 |[],[]=>by simp[Dat.eqL]
 |[],_::_=>by simp[Dat.eqL]
 |_::_,[]=>by simp[Dat.eqL]
 |n::r,m::q=>by
  rw[qAn,qAn,Dat.eqL,zDX r q,Dat.eq];by_cases h:n=m
  ·subst h;simp
  ·simp[h]
theorem big{n:Nat}(h:n<=100000):n<sizeLine:=by rw[qGq];lia
end L2
namespace HT
open PySem PyProof.Rows
section
open PySem.SeqAt
open PySem.AutoSeq1 (wpAny_loadPart')
open PySem.MeetsSeq PySem.MeetsSeq2 PySem.MeetsSeq3
end
section
variable{prog:qEq}{w:World}{A:qEs}{E:Value->qEo->Prop}{s:qEo}
end
end HT
namespace Mi
open PySem
inductive Sv where
 |i (n:Int)|s (x:Str)
inductive Sw where
 |non|bl (b:Bool)|int (i:Int)|str (x:Str)
inductive Dt where
 |non|bl (b:Bool)|int (i:Int)|str (x:Str)|lst (xs:List Dt)|tup (xs:List Dt)|scr (ns:List Int)|exc (c f:Str) (d:Dt)|ins (c:Str) (fs:List (Str×Sv))|dct (kvs:List (Sum Int Str×Sw))|fn (x:Str) (d:Dt)|dtt (ks:List (List Sw)) (xs:List Dt)|loc (a:Nat) (d:Dt)|dsk (w:Str) (ws:List Str)|fnc (x:Str)
mutual
def Dt.dep:Dt->Nat
 |.lst xs=>Dt.depL xs+1
 |.tup xs=>Dt.depL xs+1
 |.scr _=>1000
 |.exc _ _ _=>1000
 |.fn _ _=>1000
 |.dtt _ _=>1000
 |.loc _ _=>1000
 |.dsk _ _=>1000
 |.fnc _=>1000
 |.ins _ _=>1000
 |.dct _=>1000
 |_=>0
def Dt.depL:List Dt->Nat
 |[]=>0
 |x::r=>max x.dep (Dt.depL r)
end
mutual
def Dt.eq:Dt->Dt->Bool
 |.non,.non=>true
 |.bl a,.bl b=>a==b
 |.bl a,.int b=>(if a then 1 else 0)==b
 |.int a,.bl b=>a==(if b then 1 else 0)
 |.int a,.int b=>a==b
 |.str a,.str b=>a==b
 |.lst xs,.lst ys=>Dt.eqL xs ys
 |.tup xs,.tup ys=>Dt.eqL xs ys
 |_,_=>false
def Dt.eqL:List Dt->List Dt->Bool
 |[],[]=>true
 |x::r,y::q=>Dt.eq x y&&Dt.eqL r q
 |_,_=>false
end
structure Xn where
 cls:Str
 f:Str
 d:Dt
abbrev R(α:Type):=Option (Except Xn α)
noncomputable def okR{α:Type}(a:α):R α:=some (.ok a)
noncomputable def zA2{α β:Type}(x:R α)(f:α->R β):R β:=match x with
 |none=>none
 |some (.error e)=>some (.error e)
 |some (.ok a)=>f a
def optR{α:Type}(o:Option α):R α:=match o with
 |none=>none
 |some a=>okR a
@[simp] theorem zA0{α β:Type}(a:α)(f:α->R β):zA2 (okR a) f=f a:=rfl
@[simp] theorem zA4{α β:Type}(f:α->R β):zA2 none f=none:=rfl
@[simp] theorem zA7{α β:Type}(e:Xn)(f:α->R β):zA2 (some (.error e)) f=some (.error e):=rfl
@[simp] theorem zA5{α:Type}(a:α):optR (some a)=okR a:=rfl
@[simp] theorem zA6{α:Type}:optR (none:Option α)=none:=rfl
abbrev Rh:=List (Option Dt)
abbrev Sl:=Dt×Nat
abbrev Ro:=List (Option Sl)
abbrev EM:=Rh->R Dt
abbrev TM:=Rh->R Bool
abbrev AM:=Rh->R (List Dt)
abbrev FM:=List Dt->R Dt
noncomputable def ixA(n:Nat)(i:Int):Option Nat:=if 0<=i then(if i<n then some i.toNat else none)else if -(n:Int)<=i then some (i+n).toNat else none
def itA{α:Type}(xs:List α)(i:Int):Option α:=(ixA xs.length i).bind fun j=>xs[j]?
noncomputable def addD:Dt->Dt->Option Dt
 |.int i,.int j=>some (.int (i+j))
 |.str i,.str j=>@ite _ (i.length+j.length<=100000) (qA1 _) (some (.str (i++j))) none
 |.lst xs,.lst ys=>@ite _ (xs.length+ys.length<=100000) (qA1 _) (some (.lst (xs++ys))) none
 |_,_=>none
noncomputable def subD:Dt->Dt->Option Dt
 |.int i,.int j=>some (.int (i-j))
 |_,_=>none
noncomputable def mulD:Dt->Dt->Option Dt
 |.int i,.int j=>@ite _ (((-18446744073709551616<i/\i<18446744073709551616)\/(-18446744073709551616<j/\j<18446744073709551616))\/i.natAbs.log2+j.natAbs.log2<=67108864) (qA1 _) (some (.int (i*j))) none
 |_,_=>none
noncomputable def divD:Dt->Dt->Option Dt
 |.int i,.int j=>@ite _ (0<j/\j<1000000000000000000000000) (qA1 _) (some (.int (i/j))) none
 |_,_=>none
noncomputable def modD:Dt->Dt->Option Dt
 |.int i,.int j=>if 0<j then some (.int (i%j))else none
 |_,_=>none
noncomputable def powD:Dt->Dt->Option Dt
 |.int i,.int j=>@ite _ (0<=j/\j<=1000000/\i.natAbs<18446744073709551616) (qA1 _) (some (.int (i ^ j.toNat))) none
 |_,_=>none
noncomputable def negD:Dt->Option Dt
 |.int i=>some (.int (-i))
 |_=>none
noncomputable def cmpD(p:Int->Int->Bool):Dt->Dt->Option Dt
 |.int i,.int j=>some (.bl (p i j))
 |_,_=>none
noncomputable def eqD(x y:Dt):Option Dt:=if x.dep<=40/\y.dep<=40 then some (.bl (Dt.eq x y))else none
noncomputable def neD(x y:Dt):Option Dt:=if x.dep<=40/\y.dep<=40 then some (.bl (!Dt.eq x y))else none
noncomputable def zCX:Dt->Bool
 |.non=>true
 |_=>false
def isD(x y:Dt):Option Dt:=match y with
 |.non=>some (.bl (zCX x))
 |_=>none
noncomputable def zPR(x y:Dt):Option Dt:=match y with
 |.non=>some (.bl (!zCX x))
 |_=>none
def ixD:Dt->Dt->Option Dt
 |.lst xs,.int i=>itA xs i
 |.tup xs,.int i=>itA xs i
 |.scr ns,.int i=>(itA ns i).map .int
 |.str z,.int i=>@ite _ (z.length<=100000) (qA1 _) ((itA z.cps.toList i).map fun c=>.str ⟨#[c]⟩) none
 |_,_=>none
noncomputable def lenD:List Dt->Option Dt
 |[.lst xs]=>some (.int xs.length)
 |[.tup xs]=>some (.int xs.length)
 |[.scr ns]=>some (.int ns.length)
 |[.str z]=>@ite _ (z.length<=100000) (qA1 _) (some (.int z.length)) none
 |_=>none
noncomputable def zK0:List Dt->Option Dt
 |[.lst xs]=>some (.lst xs)
 |[.tup xs]=>some (.lst xs)
 |[.scr ns]=>some (.lst (ns.map .int))
 |_=>none
noncomputable def nums(lo:Int)(n:Nat):List Dt:=(qA5 n).map fun i:Nat=>.int (lo+(i:Int))
noncomputable def tyD:Dt->String
 |.non=>"NoneType"
 |.bl _=>"bool"
 |.int _=>"int"
 |.str _=>"str"
 |.lst _=>"list"
 |.tup _=>"tuple"
 |.scr _=>""
 |.exc _ _ _=>""
 |.fn _ _=>""
 |.dtt _ _=>""
 |.loc _ _=>""
 |.dsk _ _=>""
 |.fnc _=>""
 |.ins _ _=>""
 |.dct _=>""
def isiD(n:String)(x:Dt):Option Dt:=if tyD x = "" then none else some (.bl (tyD x==n||(tyD x == "bool" && n == "int")))
noncomputable def boolsD:List Dt->Option (List Bool)
 |[]=>some []
 |.bl b::r=>(boolsD r).map (b::·)
 |_::_=>none
def allD:List Dt->Option Dt
 |[.lst xs]=>(boolsD xs).map fun bs=>.bl (bs.all id)
 |_=>none
def anyD:List Dt->Option Dt
 |[.lst xs]=>(boolsD xs).map fun bs=>.bl (bs.any id)
 |_=>none
noncomputable def intD:List Dt->Option Dt
 |[.int i]=>some (.int i)
 |[.bl k]=>some (.int (if k=true then 1 else 0))
 |_=>none
noncomputable def maxD:List Dt->Option Dt
 |[.int i,.int j]=>some (.int (if j>i then j else i))
 |_=>none
noncomputable def minD:List Dt->Option Dt
 |[.int i,.int j]=>some (.int (if j<i then j else i))
 |_=>none
noncomputable def absD:List Dt->Option Dt
 |[.int i]=>some (.int (if i<0 then -i else i))
 |_=>none
noncomputable def hasD(x:Dt)(ys:List Dt):Option Bool:=if x.dep=0/\Dt.depL ys=0 then some (ys.any fun y=>Dt.eq y x)else none
def inD(ng:Bool)(x y:Dt):Option Dt:=match y with
 |.lst ys=>(hasD x ys).map fun b=>.bl (if ng=true then !b else b)
 |.tup ys=>(hasD x ys).map fun b=>.bl (if ng=true then !b else b)
 |.str z=>match x with
  |.str y=>match y.cps.toList with
   |[c]=>some (.bl (if ng=true then !decide (c∈z.cps.toList)else decide (c∈z.cps.toList)))
   |_=>none
  |_=>none
 |_=>none
noncomputable def zMT(n d:Nat):Option Int->Nat
 |none=>d
 |some v=>if v<0 then(v+(n:Int)).toNat else min v.toNat n
def cutA{α:Type}(xs:List α)(lo hi:Option Int):List α:=(xs.drop (zMT xs.length 0 lo)).take (zMT xs.length xs.length hi-zMT xs.length 0 lo)
def slD:Dt->Option Int->Option Int->Option Dt
 |.lst xs,lo,hi=>some (.lst (cutA xs lo hi))
 |.str z,lo,hi=>@ite _ (z.length<=100000) (qA1 _) (some (.str ⟨(cutA z.cps.toList lo hi).toArray⟩)) none
 |_,_,_=>none
abbrev OM:=Rh->R (Option Int)
def oNo:OM:=fun _=>okR none
def oE(e:Rh->R Dt):OM:=fun ρ=>zA2 (e ρ) fun d=>match d with
 |.int i=>okR (some i)
 |_=>none
def eSl(a:Rh->R Dt)(lo hi:OM):Rh->R Dt:=fun ρ=>zA2 (a ρ) fun x=>zA2 (lo ρ) fun l=>zA2 (hi ρ) fun h=>optR (slD x l h)
noncomputable def posC(c:Nat):List Nat->Option Nat
 |[]=>none
 |x::r=>if x=c then some 0 else(posC c r).map (·+1)
def zPU(x:Dt)(ys:List Dt):Option Dt:=match x,ys with
 |.str z,[.str y]=>match y.cps.toList with
  |[c]=>some (.int (match posC c z.cps.toList with|some i=>(i:Int)|none=>-1))
  |_=>none
 |_,_=>none
noncomputable def zOT(x:Dt)(ys:List Dt):Option Dt:=match x,ys with
 |.str z,[.str y]=>match y.cps.toList with
  |[c]=>some (.int (z.cps.toList.count c:Nat))
  |_=>none
 |_,_=>none
noncomputable def zIW:Dt->Bool
 |.str _=>true
 |_=>false
def eMt(f:Dt->List Dt->Option Dt)(a:Rh->R Dt)(am:Rh->R (List Dt)):Rh->R Dt:=fun ρ=>zA2 (a ρ) fun x=>if zIW x=true then zA2 (am ρ) fun xs=>optR (f x xs)else none
noncomputable def signsD(z:Str):List Dt:=z.cps.toList.map fun c=>.str ⟨#[c]⟩
def eC(d:Dt):EM:=fun _=>okR d
def eV(i:Nat):EM:=fun ρ=>match ρ[i]? with
 |some (some d)=>okR d
 |_=>none
def eB(f:Dt->Dt->Option Dt)(a b:EM):EM:=fun ρ=>zA2 (a ρ) fun x=>zA2 (b ρ) fun y=>optR (f x y)
def eU(f:Dt->Option Dt)(a:EM):EM:=fun ρ=>zA2 (a ρ) fun x=>optR (f x)
def eAnd(a b:EM):EM:=fun ρ=>zA2 (a ρ) fun x=>match x with
 |.bl k=>if k=true then b ρ else okR (.bl false)
 |_=>none
def eOr(a b:EM):EM:=fun ρ=>zA2 (a ρ) fun x=>match x with
 |.bl k=>if k=true then okR (.bl true)else b ρ
 |_=>none
def eNot(a:EM):EM:=fun ρ=>zA2 (a ρ) fun x=>match x with
 |.bl k=>okR (.bl (!k))
 |_=>none
def eChain(p q:Dt->Dt->Option Dt)(a b c:EM):EM:=fun ρ=>zA2 (a ρ) fun x=>zA2 (b ρ) fun y=>zA2 (optR (p x y)) fun z=>match z with
 |.bl k=>if k=true then zA2 (c ρ) fun w=>optR (q y w)else okR (.bl false)
 |_=>none
def eIf(c:TM)(a b:EM):EM:=fun ρ=>zA2 (c ρ) fun k=>if k=true then a ρ else b ρ
def aNil:AM:=fun _=>okR []
def aCons(e:EM)(r:AM):AM:=fun ρ=>zA2 (e ρ) fun x=>zA2 (r ρ) fun xs=>okR (x::xs)
def eLst(a:AM):EM:=fun ρ=>zA2 (a ρ) fun xs=>@ite _ (xs.length<=100000) (qA1 _) (okR (.lst xs)) none
def eTup(a:AM):EM:=fun ρ=>zA2 (a ρ) fun xs=>@ite _ (xs.length<=100000) (qA1 _) (okR (.tup xs)) none
def eCall(f:FM)(a:AM):EM:=fun ρ=>zA2 (a ρ) f
def eBi(f:List Dt->Option Dt)(a:AM):EM:=fun ρ=>zA2 (a ρ) fun xs=>optR (f xs)
def eIsi(n:String)(a:EM):EM:=fun ρ=>zA2 (a ρ) fun x=>optR (isiD n x)
def tB(a:EM):TM:=fun ρ=>zA2 (a ρ) fun x=>match x with
 |.bl k=>okR k
 |_=>none
def tM(a:EM):TM:=fun ρ=>zA2 (a ρ) fun x=>match x with
 |.bl k=>okR k
 |.int i=>okR (i != 0)
 |.non=>okR false
 |_=>none
def tAn(a b:TM):TM:=fun ρ=>zA2 (a ρ) fun k=>if k=true then b ρ else okR false
def tOr(a b:TM):TM:=fun ρ=>zA2 (a ρ) fun k=>if k=true then okR true else b ρ
def tNo(a:TM):TM:=fun ρ=>zA2 (a ρ) fun k=>okR (!k)
def tYes:TM:=fun _=>okR true
abbrev IM:=Rh->R (List Dt)
def iSq(e:EM):IM:=fun ρ=>zA2 (e ρ) fun d=>match d with
 |.lst xs=>okR xs
 |.tup xs=>okR xs
 |.scr ns=>okR (ns.map .int)
 |.str z=>okR (signsD z)
 |_=>none
def iR1(e:AM):IM:=fun ρ=>zA2 (e ρ) fun vs=>match vs with
 |[.int j]=>@ite _ (-4611686018427387904<=j/\j<4611686018427387904) (qA1 _) (okR (nums 0 j.toNat)) none
 |_=>none
noncomputable def zMG(n:Nat):List Dt->List Dt
 |[]=>[]
 |x::r=>.tup [.int n,x]::zMG (n+1) r
def iEn(e:AM):IM:=fun ρ=>zA2 (e ρ) fun vs=>match vs with
 |[.lst xs]=>okR (zMG 0 xs)
 |_=>none
noncomputable def zipD:List Dt->List Dt->List Dt
 |x::r,y::q=>.tup [x,y]::zipD r q
 |_,_=>[]
def iZi(e:AM):IM:=fun ρ=>zA2 (e ρ) fun vs=>match vs with
 |[.lst xs,.lst ys]=>okR (zipD xs ys)
 |_=>none
inductive Tg where
 |one (i:Nat)
 |tup (is:List Nat)
noncomputable def zAJ:Tg->Dt->Option (List (Nat×Dt))
 |.one i,d=>some [(i,d)]
 |.tup is,.tup ds=>if ds.length=is.length then some (is.zip ds)else none
 |.tup _,_=>none
noncomputable def Tg.idx:Tg->List Nat
 |.one i=>[i]
 |.tup is=>is
noncomputable def zAI:Rh->List (Nat×Dt)->Rh
 |ρ,[]=>ρ
 |ρ,(i,d)::r=>zAI (ρ.set i (some d)) r
noncomputable def zAK:Ro->List (Nat×Dt)->Ro
 |ρ,[]=>ρ
 |ρ,(i,d)::r=>zAK (ρ.set i (some (d,0))) r
def compGo(ρ:Rh)(k:Nat)(tg:Tg)(c:TM)(e:EM):List Dt->List Dt->R (List Dt)
 |[],acc=>okR acc
 |d::ds,acc=>match zAJ tg d with
  |none=>none
  |some bs=>zA2 (c (zAI (ρ++qAb k none) bs)) fun b=>if b=true then zA2 (e (zAI (ρ++qAb k none) bs)) fun x=>compGo ρ k tg c e ds (acc++[x])else compGo ρ k tg c e ds acc
def eComp(it:IM)(k:Nat)(tg:Tg)(c:TM)(e:EM):EM:=fun ρ=>zA2 (it ρ) fun ds=>@ite _ (ds.length<=100000/\(tg.idx.all fun i=>decide (ρ.length<=i))=true) (qA1 _) (zA2 (compGo ρ k tg c e ds []) fun es=>okR (.lst es)) none
inductive Out where
 |nx (ρ:Ro)|rt (d:Dt)|bk (ρ:Ro)|ct (ρ:Ro)
abbrev SM:=Ro->R Out
noncomputable def full(ρ:Ro):Rh:=ρ.map fun o=>o.map Prod.fst
noncomputable def frz(ρ:Ro):Rh:=ρ.map fun o=>match o with
 |some (d,n)=>if n=0\/d.dep=0 then some d else none
 |none=>none
noncomputable def frz1(i:Nat)(ρ:Ro):Ro:=match ρ[i]? with
 |some (some (d,_))=>ρ.set i (some (d,0))
 |_=>ρ
def frzAt:List Nat->Ro->Ro
 |[],ρ=>ρ
 |i::r,ρ=>frzAt r (frz1 i ρ)
def sNil:SM:=fun ρ=>okR (.nx ρ)
def sSeq(a b:SM):SM:=fun ρ=>zA2 (a ρ) fun o=>match o with
 |.nx ρ'=>b ρ'
 |o=>okR o
noncomputable def zNB:SM:=fun _=>none
def zNC:SM:=fun ρ=>okR (.bk ρ)
def zPA:SM:=fun ρ=>okR (.ct ρ)
def sIf(c:TM)(a b:SM):SM:=fun ρ=>zA2 (c (full ρ)) fun k=>if k=true then a ρ else b ρ
def zP8(e:EM):SM:=fun ρ=>zA2 (e (full ρ)) fun _=>okR (.nx ρ)
def sSet(i n:Nat)(vs:List Nat)(e:EM):SM:=fun ρ=>zA2 (e (full ρ)) fun d=>
 if d.dep<=n then okR (.nx (ρ.set i (some (d,n))))else zA2 (e (frz (frzAt vs ρ))) fun d'=>okR (.nx ((frzAt vs ρ).set i (some (d',n))))
def sRet(L n:Nat)(vs:List Nat)(e:EM):SM:=fun ρ=>zA2 (e (full ρ)) fun d=>
 if d.dep<=n/\d.dep<=L then okR (.rt d)else if n=L then zA2 (e (frz (frzAt vs ρ))) fun d'=>okR (.rt d')else none
def zP6:SM:=fun _=>okR (.rt .non)
def sRetV(L i:Nat):SM:=fun ρ=>match ρ[i]? with
 |some (some (d,k))=>if k=L\/L=0\/(d.dep<=k/\d.dep<=L/\k<1000)then okR (.rt d)else none
 |_=>none
def sApp(i n:Nat)(e:EM):SM:=fun ρ=>match ρ[i]? with
 |some (some (.lst ds,k+1))=>zA2 (e (full ρ)) fun d=>@ite _ (ds.length<=100000/\d.dep<=n/\d.dep<=k) (qA1 _) (okR (.nx (ρ.set i (some (.lst (ds++[d]),k+1))))) none
 |_=>none
def sItem(i n:Nat)(e1 e2:EM):SM:=fun ρ=>zA2 (e2 (full ρ)) fun d=>match ρ[i]? with
 |some (some (.lst ds,k+1))=>zA2 (e1 (full ρ)) fun z=>match z with
  |.int z=>match ixA ds.length z with
   |some q=>if d.dep<=n/\d.dep<=k then okR (.nx (ρ.set i (some (.lst (ds.set q d),k+1))))else none
   |none=>none
  |_=>none
 |_=>none
def sItem2(i n:Nat)(e0 e1 e2:EM):SM:=fun ρ=>zA2 (e2 (full ρ)) fun d=>match ρ[i]? with
 |some (some (.lst rs,k+2))=>zA2 (e0 (full ρ)) fun y=>match y with
  |.int y=>match ixA rs.length y with
   |some p=>match rs[p]? with
    |some (.lst ds)=>zA2 (e1 (full ρ)) fun z=>match z with
     |.int z=>match ixA ds.length z with
      |some q=>if d.dep<=n/\d.dep<=k then okR (.nx (ρ.set i (some (.lst (rs.set p (.lst (ds.set q d))),k+2))))else none
      |none=>none
     |_=>none
    |_=>none
   |none=>none
  |_=>none
 |_=>none
def forGo(tg:Tg)(b:SM):List Dt->SM
 |[],ρ=>okR (.nx ρ)
 |d::ds,ρ=>match zAJ tg d with
  |none=>none
  |some bs=>zA2 (b (zAK ρ bs)) fun o=>match o with
   |.nx ρ'=>forGo tg b ds ρ'
   |.ct ρ'=>forGo tg b ds ρ'
   |.bk ρ'=>okR (.nx ρ')
   |.rt d=>okR (.rt d)
def sFor(vs:List Nat)(it:IM)(tg:Tg)(b:SM):SM:=fun ρ=>zA2 (it (frz (frzAt vs ρ))) fun ds=>forGo tg b ds (frzAt vs ρ)
def sForR(it:IM)(i:Nat)(b:SM):SM:=fun ρ=>zA2 (it (full ρ)) fun ds=>forGo (.one i) b ds ρ
def whGo(c:TM)(b:SM):Nat->SM
 |0,_=>none
 |m+1,ρ=>zA2 (c (full ρ)) fun k=>if k=true then zA2 (b ρ) fun o=>match o with
   |.nx ρ'=>whGo c b m ρ'
   |.ct ρ'=>whGo c b m ρ'
   |.bk ρ'=>okR (.nx ρ')
   |.rt d=>okR (.rt d)
  else okR (.nx ρ)
noncomputable def WNs:{ n:Nat // n=1000000 }:=Classical.choice ⟨⟨1000000,rfl⟩⟩
noncomputable def WN:Nat:=WNs.val
def zKT(c:TM)(b:SM):SM:=fun ρ=>whGo c b WN ρ
noncomputable def startO(n:Nat)(ds:List Dt):Ro:=ds.map (fun d=>some (d,0))++qAb (n-ds.length) none
def endF:Out->R Dt
 |.nx _=>okR .non
 |.rt d=>okR d
 |_=>none
def runF(P n:Nat)(b:SM):FM:=fun ds=>if ds.length=P then zA2 (b (startO n ds)) endF else none
end Mi
namespace L2
open PySem PySem.Spec PyProof.Rows
section
variable{X:Cx}
end
noncomputable def Its(z:Str):It:=⟨fun i _=>i<z.cps.size,fun i H x H'=>H'=H/\∃c,z.cps[i]?=some c/\x=.str ⟨#[c]⟩,fun i _=>z.cps.size<=i⟩
theorem zJO{P:qEq}{w:World}{K:qA0}{tg:Expr}(z:Str)(t:Tok)(it:Addr)(ty:String)(hty:ty=qF2 z):Turn P w K tg (Its z) [it] it (fun i h=>h.IsStrIter it ty z t i) where
 mem:=by simp
 obj:=fun i h st b hb=>by
  have e:b=it:=by simpa using hb
  subst e;obtain⟨o,e,c,d⟩:=st;exact⟨o,e,fun v z=>by rw[d]at z;cases z⟩
 keep:=fun i h h' st k=>by obtain⟨o,ho,r⟩:=st;exact⟨o,k it (by simp) o ho,r⟩
 item:=by
  intro X hP hw hK hc i pins s σ H E I hf st hg;subst hP hw hK;have hi:i<z.cps.size:=hg;have hx:z.cps[i]?=some z.cps[i]:=Array.getElem?_eq_getElem hi;obtain⟨f0,f1,f2,f3,f4,f5⟩:=hf it (by simp);have fin:∀h',h'.IsStrIter it ty z t (i+1)->qGh it s.heap h'->∃u,some (qGd ⟨#[z.cps[i]]⟩ s.toks)=some u/\wpAny (model X.prog X.w) X.A (letOwnedTupleGo tg (.ref it) u) (fun _ s2=>∃x H',Inv X pins σ H' s2/\RelV x u/\(Its z).yld i H x H'/\s2.heap.IsStrIter it ty z t (i+1)/\∀b∈[it],H' b=none) E { s with heap:=h',toks:=s.toks+1 }:=by
   intro h' st' sb;have I1:Inv X pins σ H { s with heap:=h',toks:=s.toks+1 }:=I.turned (t':=s.toks+1) (fun b o hb e=>(sb.2 b hb).trans e) f0 f1 f3 f4 f5;obtain⟨o,e,c,d⟩:=id st';refine⟨_,rfl,zK6 (s:={ s with heap:=h',toks:=s.toks+1 }) e c d ?_ ⟨.str ⟨#[z.cps[i]]⟩,H,I1,⟨_,rfl⟩,⟨rfl,_,hx,rfl⟩,st',fun b hb=>(hf b hb).1⟩⟩;rw[hty];unfold qF2;split<;>decide
  cases ha:z.cps.all (· < 128)
  ·have e:ty = "str_iterator":=by rw[hty];unfold qF2;rw[ha];rfl
   subst e;exact wpAny_pyNext_wide_item st hx fun h' a b=>fin h' a b
  ·have e:ty = "str_ascii_iterator":=by rw[hty];unfold qF2;rw[ha];rfl
   subst e;exact wpAny_pyNext_ascii_item st hx fun h' a b=>fin h' a b
 done:=by
  intro X hP hw hK hc i pins s σ H E I hf st hg;subst hP hw hK;have hx:z.cps[i]?=none:=Array.getElem?_eq_none hg;obtain⟨f0,f1,f2,f3,f4,f5⟩:=hf it (by simp);have fin:∀h',Heap.ExtBut it s.heap h'->(none:Option Value)=none/\Inv X pins σ H { s with heap:=h' }:=fun h' eb=>⟨rfl,I.turned (t':=s.toks) (fun b o hb e=>eb b o hb e) f0 f1 f3 f4 f5⟩
  cases ha:z.cps.all (· < 128)
  ·have e:ty = "str_iterator":=by rw[hty];unfold qF2;rw[ha];rfl
   subst e;exact wpAny_pyNext_wide_end (I.ok.hd hc) st hx fun h' a=>fin h' a
  ·have e:ty = "str_ascii_iterator":=by rw[hty];unfold qF2;rw[ha];rfl
   subst e;exact wpAny_pyNext_ascii_end (I.ok.hd hc) st hx fun h' a=>fin h' a
 self:=fun A i s Q E st h=>by
  cases ha:z.cps.all (· < 128)
  ·have e:ty = "str_iterator":=by rw[hty];unfold qF2;rw[ha];rfl
   subst e;exact wpAny_pyIter_striter_wide st h
  ·have e:ty = "str_ascii_iterator":=by rw[hty];unfold qF2;rw[ha];rfl
   subst e;exact wpAny_pyIter_striter_ascii st h
section
variable{X:Cx}
def iAny(K:qA0)(tl:TE):TI:=fun σ H R=>tl σ H fun x H1=>match x with
 |.ref a=>(∃xs,SqL K H1 a xs)/\R (Itl K a) H1\/(∃xs,SqT K H1 a xs)/\R (Itt K a) H1
 |.str z=>R (Its z) H1
 |_=>False
theorem zE6{K:qA0}{tg l:Expr}{tl:TE}(hl:PE X l tl)(hK:X.K=K:=by rfl):PI X tg l (iAny K tl):=by
 subst hK;intro pins s σ H R I h;refine thn (hl pins s σ H _ I h) fun v s1 z0=>?_
 obtain⟨x,H1,I1,r1,q1⟩:=z0;cases x with
 |ref a=>
  cases r1;rcases q1 with⟨⟨xs,hq⟩,q⟩|⟨⟨xs,hq⟩,q⟩
  ·obtain⟨its,rv,p,hz⟩:=I1.list hq;refine wpAny_pyIter_list p.isList ?_;refine⟨s1.heap.objs.size,[s1.heap.objs.size],_,_,H1,rfl,I1.kept (t':=s1.toks) fun b o e=>qEp _ e,zHZ a _,⟨_,qEv _ rfl,rfl,rfl⟩,fun b hb=>?_,q⟩;have e:b=s1.heap.objs.size:=by simpa using hb
   subst e;exact I1.fpOk (qAa _) (I1.hok.fresh (qAa _))
  ·obtain⟨its,rv,p,hz⟩:=I1.tuple hq;refine wpAny_pyIter_tuple (show s1.heap.IsTuple a its.toArray from p) ?_;refine⟨s1.heap.objs.size,[s1.heap.objs.size],_,_,H1,rfl,I1.kept (t':=s1.toks) fun b o e=>qEp _ e,zHI a _,⟨_,qEv _ rfl,rfl,rfl⟩,fun b hb=>?_,q⟩;have e:b=s1.heap.objs.size:=by simpa using hb
   subst e;exact I1.fpOk (qAa _) (I1.hok.fresh (qAa _))
 |str z=>
  obtain⟨t,rfl⟩:=r1;refine wpAny_pyIter_strU ?_;refine⟨s1.heap.objs.size,[s1.heap.objs.size],_,_,H1,rfl,I1.kept (t':=s1.toks) fun b o e=>qEp _ e,zJO z t _ _ rfl,⟨_,qEv _ rfl,rfl,rfl⟩,fun b hb=>?_,q1⟩;have e:b=s1.heap.objs.size:=by simpa using hb
  subst e;exact I1.fpOk (qAa _) (I1.hok.fresh (qAa _))
 |_=>exact qA4 q1
end
def XO(e:Addr)(C:Value)(d:Option Addr)(h:Heap):Prop:=∃oe vs,h.get? e=some oe/\oe.cls=C/\oe.dict=d/\oe.data=.fields vs/\1<vs.size
abbrev xo(e:Addr)(C:Value)(d:Option Addr):HO:=.ext (XO e C d)
def Fl(n:Nat)(e:Addr)(C:Value)(d:Option Addr)(mk:Value)(H:Hp)(h:Heap):Prop:=
 ∃oe vs T oT ts,h.get? e=some oe/\oe.cls=C/\oe.dict=d/\oe.data=.fields vs/\vs[1]?=some (.ref T)/\n<=T/\T≠e/\H T=none/\h.get? T=some oT/\oT.data=.fields ts/\ts[3]?=some mk
def Fly(n:Nat)(e:Addr)(C:Value)(d:Option Addr)(H:Hp)(h:Heap):Prop:=
 H e=some (xo e C d)/\((∃oe vs,h.get? e=some oe/\oe.cls=C/\oe.dict=d/\oe.data=.fields vs/\vs[1]?=some .none)\/Fl n e C d .none H h)
section
variable{M:Model}{A:qEs}{E:Value->qEo->Prop}{s:qEo}{n:Nat}{e L:Addr}{C:Value}{d:Option Addr}{H:Hp}{base:Heap}{env:Env}{outer:List Env}
end
section
variable{X:Cx}{pins:List (Addr×Obj)}{σ:St}{H:Hp}{s:qEo}{n:Nat}{e:Addr}{C:Value}{d:Option Addr}{A:qEs}{E:Value->qEo->Prop}{fs ch:List Addr}{h h':Heap}
end
def CXe(P:qEq)(w:World):CXT:=fun outer H s E x s'=>∃e C d H',x=.ref e/\s'.os=s.os/\qFn s'.gens/\Un (frs outer) [] H H' s.heap s'.heap/\HOk P w H' s'.heap/\Fly s.heap.objs.size e C d H' s'.heap/\s.heap.objs.size<=s'.heap.objs.size/\E x d H'
section
variable{X:Cx}{pins:List (Addr×Obj)}{σ:St}{H:Hp}{s s':qEo}{E E':XK}
def XP(X:Cx)(pins:List (Addr×Obj))(σ:St)(E:XK)(x:Value)(s':qEo):Prop:=∃n e C d H',x=.ref e/\Inv X pins σ H' s'/\Fly n e C d H' s'.heap/\X.s₀.heap.objs.size<=n/\n<=s'.heap.objs.size/\(∀p∈X.pn++pins,p.1<n)/\E x d H'
end
section
variable{P:qEq}{w:World}{K:qA0}{mg:Str->Option Value}{base:Heap}{N:List Str}{qual:Str}{scope:Scope}{f:Addr}{cd:Value}{A:qEs}{outer:List Env}{s:qEo}{H:Hp}{E E':XK}
end
abbrev TEX:=St->Hp->VK->XK->Prop
abbrev TSX:=Ends->(St->XK)->St->Hp->Prop
section
variable{X:Cx}{k:Nat}{f:Addr}{fd:qEx}{ps:List Str}{sp:Sp}{dvs:List V}{ds:List Value}{x:Str}{p pos:Pos}{e:Expr}{es:List Expr}{t:TA}{te:TE}{tx:TEX}{st:Stmt}{rest:List Stmt}{u u':TSX}
variable{pins:List (Addr×Obj)}{σ:St}{H:Hp}{s:qEo}{a:Addr}
end
end L2
namespace PySem.W
open PySem PySem.Calls PyProof.Rows Builtin Builtin.ObjectAttr
noncomputable def zGS:List Value->Bool
 |.ref _::r=>zGS r
 |[.type a,.type b,.type c,.type d]=>a == "ValueError" && b == "Exception" && c == "BaseException" && d == "object"
 |_=>false
def excOver(K:Frag)(C:Addr):Bool:=(clsIn K C).any fun cd=>zGS cd.mro
section
variable{prog:qEq}{w:World}{A:qEs}{s:qEo}{K:Frag}{x C:Addr}{R:qGr->qEo->Prop}
end
end PySem.W
namespace PySem.Xc
open PySem
section
variable{M:Model}{prog:qEq}{w:World}{A:qEs}{E:Value->qEo->Prop}{h:Heap}{g:Array qF7}{d:Drawn}{t:Nat}{os:OsState}{R:qGr->qEo->Prop}
variable{nm q:Str}{C N:Addr}{bs bm bmB:List Value}{hdct:Bool}{sn:List Str}{sub:List Value}{ab:Bool}{col:Option Bool}{dd:Option Addr}{k0 k1 k2 k3 k5:Option Value}{B newId initId:String}
end
section
variable{M:Model}{A:qEs}{E:Value->qEo->Prop}{s:qEo}{env:Env}
variable{nm q:Str}{C N:Addr}{bs bm:List Value}{hdct:Bool}{sn:List Str}{sub:List Value}{ab:Bool}{col:Option Bool}{dd:Option Addr}{k0 k1 k2 k3 k5:Option Value}{newId:String}
end
section
open PySem.W
variable{prog:qEq}{w:World}{A:qEs}{E:Value->qEo->Prop}{K:Frag}{x C:Addr}{ox:Obj}{od:Option Obj}{name:Str}{expr fill:Bool}{h:Heap}{g:Array qF7}{d:Drawn}{t:Nat}{os:OsState}
end
end PySem.Xc
namespace PySem.W
open PySem
def xcIn(K:Frag)(C:Addr):Bool:=match K.lookup C with
 |some ⟨.type "type",_,.cls cd,sl⟩=>(match cd.mro,sl.toList with
  |.ref C'::bm,[_,_,_,_,some (.builtin n),_]=>C'==C && !cd.hasDel&&zGS bm&&n == "ValueError.__new__" && cd.hasDict
  |_,_=>false)
 |_=>false
end PySem.W
namespace L2
open PySem PySem.Spec PyProof.Rows
def XN(e:Addr)(C:Value)(d:Option Addr)(h:Heap):Prop:=∃t1,h.get? e=some { cls:=C,dict:=d,data:=.fields #[.ref t1,.none,.none,.none,.bool false,.none] }
abbrev xn(e:Addr)(C:Value)(d:Option Addr):HO:=.ext (XN e C d)
section
variable{X:Cx}{pins:List (Addr×Obj)}{σ:St}{H:Hp}{s:qEo}{k:Nat}{f C:Addr}{fd:qEx}{ps:List Str}{sp:Sp}{x:Str}{p pos:Pos}{e:Expr}{es:List Expr}{t:TA}{te:TE}
structure XSet(K:qA0)(C:Addr)(f:Str):Prop where
 st:qC3 K (.ref C) "__setattr__" = some (some (.builtin "object.__setattr__"))
 ov:PySem.W.excOver K C=true
 tk:PySem.W.takerIn K C f=some none
 hd:(PySem.W.clsIn K C).any (·.hasDict)=true
end
section
variable{X:Cx}{pins:List (Addr×Obj)}{σ:St}{H:Hp}{s:qEo}{C e d:Addr}{f:Str}{pos:Pos}{ta:TE}
def isX(H:Hp)(e C:Addr)(d:Option Addr):Prop:=H e=some (xn e (.ref C) d)\/H e=some (xo e (.ref C) d)
end
section
variable{P:qEq}{w:World}{K:qA0}{mg:Str->Option Value}{base:Heap}{x:Str}{k:Nat}{ps N:List Str}{sp sp':Sp}{st:Stmt}
end
section
variable{X:Cx}{x:Str}{j k:Nat}{ps:List Str}{sp:Sp}{e:Expr}{es:List Expr}{t:TA}{p pos:Pos}{E:XK}
end
end L2
namespace Att
open PySem PySem.W PySem.Calls PyProof.Rows
theorem zLK{ns:List Int}(h:qGw (ns.map qGv)<=2 ^ 20):∀i∈ns,i.natAbs.log2<2 ^ 20:=by
 induction ns with
 |nil=>intro i hi;cases hi
 |cons n r ih=>
  rw[qAn,qGw]at h;intro i hi;rcases qAo.mp hi with rfl|hi
  ·rw[qH6]at h
   split at h
   ·rename_i z
    have:i=0:=beq_iff_eq.mp z;subst this;decide
   ·lia
  ·exact ih (by lia) i hi
theorem attach_callW{l:OpenLaw}{n:Nat}{q:qEq}{loose:List Str}{XP:(Str->Option Value)->Heap->Prop}{YP:World->Heap->Prop}{d:DefRec}
  (hn:l.most=some n) (hdf:d.params.defaults=[])
  (call:∀(w:World)(s₀ s₁:qEo)(mg mb:Str->Option Value)(fa:Addr)(o:Obj)(pm cd doc:Value)(a:Addr)(vs:List Value)(ns:List Int),
   Ground q loose [] XP w s₀ mg mb s₁.heap->YP w s₁.heap ->
   s₁.heap.get? fa=some o->o.data=.func (docDef d.name d.params d.body d.scope pm cd doc)->s₁.heap.CodeRec cd d.name->mg d.name=some (.ref fa) ->
   s₁.heap.get? a=some { cls:=.type "list",data:=.seq vs.toArray }->qH5 vs ns->ns.length<=n->(∀i∈ns,i.natAbs.log2<2 ^ 20)->s₁.gens=#[] ->
   qGb (model l.prog w) qGc (.call (.ref fa) ⟨[.ref a],[]⟩) (fun r s'=>r=.ok (.ret (.bool true))/\OldK s₁.heap s'.heap/\s'.os=s₁.os/\qFn s'.gens) s₁) :
  WalkO q loose XP YP l.row.toRowW d [] (fun f vs=>qD5 f vs):=by
 intro w s₀ s₁ mg mb G Y fa o pm cd doc dV kV ho hd hcd hD hmg hg args vals as hpre hlay hrd hwl hlo;obtain rfl:dV=.none:=Dflts.none hD hdf;obtain rfl:kV=.none:=Dflts.noKw hD;obtain⟨a,vs,ns,rfl,rfl,hobj,hints,hlen⟩:=zI7 hn hpre hwl;have hw:∀i∈ns,i.natAbs.log2<2 ^ 20:=by
  have hl:qGm [WData.list (ns.map qGv)]=true:=hlay;simp only[qGm,qBu,List.all_nil,qBv,WData.layable,qAl,decide_eq_true_eq]at hl;exact zLK (by have:=hl.2;rw[qH6]at this;exact this)
 refine enter_call (codeAny_mono (call w s₀ s₁ mg mb fa o pm cd doc a vs ns G Y ho (fd_plain hd) hcd hmg hobj hints hlen hw hg) fun r s' hq=>?_);obtain⟨rfl,h2,h3,h4⟩:=hq;exact⟨.inl ⟨.bool true,.bool true,[],rfl,fun _=>rfl,.bool true,zIA l _,fun _=>⟨qD4,fun _ hm=>(nomatch hm)⟩⟩,h2,h3,h4⟩
end Att
namespace L2
open PySem PySem.Spec PyProof.Rows
def MulOk(i j:Int):Prop:=((-(2 ^ 64)<i/\i<2 ^ 64)\/(-(2 ^ 64)<j/\j<2 ^ 64))\/i.natAbs.log2+j.natAbs.log2<=67108864
theorem zJG(i:Int):qF3 i<=i.natAbs.log2+1:=by
 unfold qF3;split<;>lia
theorem MulOk.ok{i j:Int}(h:MulOk i j):IntMulOk i j:=by
 rcases h with h|h
 ·exact CMul.ok h
 ·unfold IntMulOk;have h1:=zJG i;have h2:=zJG j;have h3:qFw ((qF3 i:Int)+(qF3 j:Int))=false:=by
   unfold qFw;have:(bitsLine:Int)=134217728:=by decide
   rw[this];simp only[gt_iff_lt,decide_eq_false_iff_not,Int.not_lt];lia
  rw[h3,qB2];exact qA6
section
variable{X:Cx}
noncomputable def zNL:R2:=fun x y H Q=>match x,y with
 |.int i,.int j=>MulOk i j/\Q (.int (i*j)) H
 |_,_=>False
theorem zM1:OpR X (binaryOp .Mult) (rI MulOk fun i j=>.int (i*j)):=opI fun _ _ _ _ _ _ _ hc q=>mul_int q hc.ok
theorem zES:OpR X (binaryOp .Mult) zNL:=by
 intro pins s σ H x y v u Q I rx ry h;cases x<;>cases y<;>first
  |exact zM1 pins s σ H _ _ v u Q I rx ry ⟨_,_,rfl,rfl,h.1,h.2⟩
  |exact qA4 h
noncomputable def zNN:R2:=fun x y H Q=>match x,y with
 |.int i,.int j=>(0<j/\j<1000000000000000000000000)/\Q (.int (i/j)) H
 |_,_=>False
theorem log2_lt{n:Nat}(h:n<1000000000000000000000000):n.log2<9000:=by
 by_cases z:n=0
 ·subst z;decide
 ·have h2:n<2 ^ 80:=by lia
  have:=(Nat.log2_lt z).mpr h2;lia
theorem zM2:OpR X (binaryOp .FloorDiv) (rI (fun _ j=>0<j/\j<1000000000000000000000000) fun i j=>.int (i/j)):=opI fun i j _ _ _ _ _ hc q=>by
 have h1:(0:Int)<j:=hc.1;have h2:j<1000000000000000000000000:=hc.2;exact floordiv_int (by lia) (by rw[Int.fdiv_eq_ediv_of_nonneg i (by lia)];exact q) (.inl (PyProof.noPylong_of_log2 (log2_lt (by lia))))
theorem zDQ:OpR X (binaryOp .FloorDiv) zNN:=by
 intro pins s σ H x y v u Q I rx ry h;cases x<;>cases y<;>first
  |exact zM2 pins s σ H _ _ v u Q I rx ry ⟨_,_,rfl,rfl,h.1,h.2⟩
  |exact qA4 h
end
noncomputable def del(H:Hp)(a:Addr):Hp:=fun b=>if b=a then none else H b
theorem zL8{H:Hp}{a b:Addr}(h:b≠a):del H a b=H b:=by unfold del;rw[if_neg h]
abbrev cel(co:Obj):HO:=.frz co (.ext fun _=>True)
section
variable{P:qEq}{w:World}{H H':Hp}{h h':Heap}{a:Addr}{co:Obj}{fs:List Addr}
end
abbrev lamO(q:Str)(params:Arguments)(body:Expr)(scope:Scope)(clos:List (Str×Addr))(pm cdv ctv:Value):Obj:=
 { cls:=.type "function",data:=.func (PySem.W.kla_fn "<lambda>" q params body scope clos pm cdv ctv) }
section
variable{X:Cx}
end
section
variable{X:Cx}{k:Nat}{f cl:Addr}{fd:qEx}{ps:List Str}{sp:Sp}{x nm:Str}{p pos:Pos}{e:Expr}{es:List Expr}{t:TA}{i:Nat}
end
def cxLam(X:Cx)(N:List Str)(q:Str)(scope:Scope)(f:Addr)(cd:Value)(clos:List (Str×Addr))(s:qEo)(H:Hp):Cx where
 prog:=X.prog
 w:=X.w
 K:=X.K
 mg:=X.mg
 base:=X.base
 A:=X.A.deeper (qDb q scope s.heap.objs.size f cd clos)
 N:=N
 s₀:=s
 H₀:=H
 env:=qDb q scope s.heap.objs.size f cd clos
 outer:=X.stack
 stack:=qDb q scope s.heap.objs.size f cd clos::X.stack
 ex:=[]
 fn:=fun _=>false
 calm:=true
 pn:=[]
 xe:=fun _ _=>False
section
variable{X:Cx}{pins:List (Addr×Obj)}{σ:St}{H:Hp}{s:qEo}{Q:VK}{us:List Value}{vs:List V}{f cl:Addr}{q nm:Str}{params:Arguments}{body:Expr}{scope:Scope}{pm cdv ctv:Value}{co:Obj}{val:Value}{v:V}{ps:List Str}
end
section
variable{X:Cx}{i:Nat}{x:Str}{p pos:Pos}{e:Expr}{es:List Expr}{t:TA}{r:Addr->List V->Hp->VK->Prop}
end
end L2
namespace L3
open PySem PySem.Spec
open L2 hiding Rep RepL
open Mi (Dt Xn R okR zA2 optR zA0 zA4 zA7 zA5 zA6 Rh Sl Ro EM TM AM FM IM SM Tg Out zAJ zAI zAK full frz frz1 frzAt)
section
class Kc where
 K:qA0
variable[Kc]
noncomputable def clK(K:qA0)(c:Str):Option Addr:=match qBc K qEu c with
 |some (some (.ref C))=>some C
 |_=>none
def KTP(K:qA0)(a:Addr)(xs:List V):Prop:=xs≠[]/\∃(o:Obj)(its:Array Value)(n:Nat),K.lookup a=some o/\o.cls=.type "tuple" /\ o.data=.seq its n/\its.size<=sizeLine/\Vals xs its.toList
theorem KTP.t{K:qA0}{H:Hp}{a:Addr}{xs:List V}(h:KTP K a xs):SqT K H a xs:=.inr h.2
def SqR(K:qA0)(H:Hp)(a:Addr)(xs:List V):Prop:=SqL K H a xs\/KTP K a xs
theorem SqR.old{K:qA0}{H:Hp}{a:Addr}{xs:List V}(h:SqR K H a xs):SqL K H a xs\/SqT K H a xs:=h.imp_right fun z=>z.t
theorem zFS{K:qA0}{H H':Hp}{a:Addr}{xs:List V}(e:Same H H')(h:SqT K H a xs):SqT K H' a xs:=by
 rcases h with(h|⟨o,h⟩)|h
 ·exact .inl (.inl (e _ _ h))
 ·exact .inl (.inr ⟨o,e _ _ h⟩)
 ·exact .inr h
theorem zE4{K:qA0}{H H':Hp}{a:Addr}{xs:List V}(e:Same H H')(h:SqR K H a xs):SqR K H' a xs:=h.imp_left fun z=>e.seq z
noncomputable def svV:Mi.Sv->V
 |.i n=>.int n
 |.s x=>.str x
noncomputable def swV:Mi.Sw->V
 |.non=>.non
 |.bl b=>.bl b
 |.int i=>.int i
 |.str x=>.str x
def kNw:Mi.Sw->KeyN
 |.non=>none
 |.bl b=>some (.inl (zGW b))
 |.int i=>some (.inl i)
 |.str x=>some (.inr x)
noncomputable def noBw:Mi.Sw->Bool
 |.bl _=>false
 |_=>true
def noBk(ks:List (List Mi.Sw)):Bool:=ks.all fun k=>k.all noBw
noncomputable def isBl:V->Bool
 |.bl _=>true
 |_=>false
def KeyT(H:Hp)(T:Addr->Prop)(ks:List (List Mi.Sw)):Prop:=(ks.map fun k=>k.map kNw).Nodup/\∀c,T c->∃ys,H c=some (.tup ys)/\(noBk ks=true->∀y∈ys,isBl y=false)
theorem KeyT.mono{H H':Hp}{T:Addr->Prop}{ks:List (List Mi.Sw)}(s:Same H H')(h:KeyT H T ks):KeyT H' T ks:=⟨h.1,fun c t=>let⟨ys,e,n⟩:=h.2 c t;⟨ys,s _ _ e,n⟩⟩
abbrev kzip(ks:List (List Mi.Sw))(xs:List V):List (List KeyN×V):=(ks.map fun k=>k.map kNw).zip xs
noncomputable def zMF:Expr->Option (Arguments×Expr×Scope×Str)
 |.Call _ [_,.Lambda ps b sc _] _ _=>match sc.names.find? fun p=>p.2==.free with
  |some (x,_)=>some (ps,b,sc,x)
  |none=>none
 |_=>none
def zP5:Stmt->Option (Arguments×Expr×Scope×Str)
 |.Return (some e) _=>zMF e
 |.Assign _ e _=>zMF e
 |.If _ (_::.Return (some e) _::_) _ _=>zMF e
 |_=>none
def zPO(l:List Stmt):Option (Arguments×Expr×Scope×Str):=l.findSome? zP5
def lamK(K:qA0)(x:Str):Option (Arguments×Expr×Scope×Str):=match qBc K qEu x with
 |some (some (.ref f))=>match K.lookup f with
  |some o=>match o.data with
   |.func fd=>match fd.body with
    |.stmts b=>zPO b
    |_=>none
   |_=>none
  |none=>none
 |_=>none
noncomputable def lamQ(x:Str):Str:=x ++ ".<locals>." ++ "<lambda>"
noncomputable def codP(K:qA0)(x:Str):Option Addr:=match qBc K qEu x with
 |some (some (.ref f))=>match K.lookup f with
  |some o=>match o.data with
   |.func fd=>match fd.code with
    |.ref c=>match K.lookup c with
     |some o=>match o.data with
      |.fields vs=>match(vs[11]?:Option Value)with
       |some (.ref P)=>some P
       |_=>none
      |_=>none
     |none=>none
    |_=>none
   |_=>none
  |none=>none
 |_=>none
noncomputable def makers:List Str:=["turned_at","exchanged_at","pivoted"]
def tabK(K:qA0):Hp:=fun P=>(makers.find? fun x=>codP K x==some P&&(lamK K x).isSome).map fun x=>.lam (lamQ x)
def dskO(H:Hp)(w:Str)(ws:List Str)(a b C dx:Addr):Prop:=H a=some (.ins C dx [("word",.str w),("ahead",.ref b)])/\H b=some (.lst (ws.map V.str))
mutual
def Rep(H:Hp):Dt->V->Prop
 |.non,v=>v=.non
 |.bl b,v=>v=.bl b
 |.int i,v=>v=.int i
 |.str x,v=>v=.str x
 |.lst ds,v=>∃a xs,v=.ref a/\H a=some (.lst xs)/\RepL H ds xs
 |.tup ds,v=>∃a xs,v=.ref a/\H a=some (.tup xs)/\RepL H ds xs
 |.scr ns,v=>∃a,v=.ref a/\SqR Kc.K H a (ns.map V.int)
 |.exc c f d,v=>∃e C da,v=.ref e/\isX H e C da/\clK Kc.K c=some C/\((da=none/\f = "")\/∃a gs w,da=some a/\H a=some (.xd gs)/\gs.lookup f=some w/\Rep H d w)
 |.ins c fs,v=>∃a C dx,v=.ref a/\clK Kc.K c=some C/\H a=some (.ins C dx (fs.map fun p=>(p.1,svV p.2)))
 |.dct kvs,v=>∃a,v=.ref a/\H a=some (.dK (kvs.map fun p=>(p.1,swV p.2)))
 |.fn x d,v=>∃f,v=.ref f/\∃L cl pm cdv ctv co val w,lamK Kc.K x=some L/\H f=some (.fn (lamO (lamQ x) L.1 L.2.1 L.2.2.1 [(L.2.2.2,cl)] pm cdv ctv) (lamQ x))/\H cl=some (cel co)/\co.data=.cell (some val)/\RelV w val/\Rep H d w
 |.dtt ks ds,v=>∃a T e0 xs,v=.ref a/\H a=some (.dT T e0 (kzip ks xs))/\ks.length=ds.length/\KeyT H T ks/\RepL H ds xs
 |.loc a d,v=>v=.ref a/\Rep H d v
 |.dsk w ws,v=>∃a,v=.ref a/\∃b C dx,clK Kc.K "Desk" = some C/\dskO H w ws a b C dx
 |.fnc x,v=>∃a,v=.ref a/\clK Kc.K x=some a
def RepL(H:Hp):List Dt->List V->Prop
 |[],xs=>xs=[]
 |d::r,xs=>∃x q,xs=x::q/\Rep H d x/\RepL H r q
end
mutual
theorem Rep.mono{H H':Hp}(s:Same H H'):∀{d:Dt}{v:V},Rep H d v->Rep H' d v
 |.non,_,h=>h
 |.bl _,_,h=>h
 |.int _,_,h=>h
 |.str _,_,h=>h
 |.lst _,_,h=>by obtain⟨a,xs,e,e',r⟩:=h;exact⟨a,xs,e,s _ _ e',RepL.mono s r⟩
 |.tup _,_,h=>by obtain⟨a,xs,e,e',r⟩:=h;exact⟨a,xs,e,s _ _ e',RepL.mono s r⟩
 |.scr _,_,h=>by obtain⟨a,e,e'⟩:=h;exact⟨a,e,zE4 s e'⟩
 |.exc _ _ _,_,h=>by
  obtain⟨a,C,da,e,e',hc,r⟩:=h;refine⟨a,C,da,e,e'.imp (fun z=>s _ _ z) fun z=>s _ _ z,hc,r.imp (fun z=>z) ?_⟩
  rintro⟨b,gs,w,h1,h2,h3,h4⟩
  exact⟨b,gs,w,h1,s _ _ h2,h3,Rep.mono s h4⟩
 |.ins _ _,_,h=>by obtain⟨a,C,dx,e,hc,h1⟩:=h;exact⟨a,C,dx,e,hc,s _ _ h1⟩
 |.dct _,_,h=>by obtain⟨a,e,h1⟩:=h;exact⟨a,e,s _ _ h1⟩
 |.fn _ _,_,h=>by obtain⟨f,e,L,cl,pm,cdv,ctv,co,val,w,h1,h2,h3,h4,h5,h6⟩:=h;exact⟨f,e,L,cl,pm,cdv,ctv,co,val,w,h1,s _ _ h2,s _ _ h3,h4,h5,Rep.mono s h6⟩
 |.dtt _ _,_,h=>by obtain⟨a,T,e0,xs,e,e',hl,ht,r⟩:=h;exact⟨a,T,e0,xs,e,s _ _ e',hl,ht.mono s,RepL.mono s r⟩
 |.loc _ _,_,h=>⟨h.1,Rep.mono s h.2⟩
 |.dsk _ _,_,h=>by obtain⟨a,e,b,C,dx,h1,h2,h3⟩:=h;exact⟨a,e,b,C,dx,h1,s _ _ h2,s _ _ h3⟩
 |.fnc _,_,h=>h
theorem RepL.mono{H H':Hp}(s:Same H H'):∀{ds:List Dt}{xs:List V},RepL H ds xs->RepL H' ds xs
 |[],_,h=>h
 |_::_,_,h=>by obtain⟨x,q,e,r,t⟩:=h;exact⟨x,q,e,Rep.mono s r,RepL.mono s t⟩
end
theorem RepL.length{H:Hp}:∀{ds:List Dt}{xs:List V},RepL H ds xs->xs.length=ds.length
 |[],_,h=>by cases h;rfl
 |_::_,_,h=>by obtain⟨x,q,e,r,t⟩:=h;subst e;simp[RepL.length t]
mutual
def conv:Dt->L2.Dat
 |.non=>.non
 |.bl b=>.bl b
 |.int i=>.int i
 |.str x=>.str x
 |.lst ds=>.lst (convL ds)
 |.tup ds=>.tup (convL ds)
 |.scr _=>.non
 |.exc _ _ _=>.non
 |.fn _ _=>.non
 |.dsk _ _=>.non
 |.fnc _=>.non
 |.dtt _ _=>.non
 |.loc _ _=>.non
 |.ins _ _=>.non
 |.dct _=>.non
def convL:List Dt->List L2.Dat
 |[]=>[]
 |d::r=>conv d::convL r
end
mutual
theorem zHC:∀{d:Dt},d.dep<=40->(conv d).dep<=d.dep
 |.non,_=>qAa _
 |.bl _,_=>qAa _
 |.int _,_=>qAa _
 |.str _,_=>qAa _
 |.lst ds,h=>by rw[Dt.dep]at h ⊢;rw[conv,L2.Dat.dep];have:=conv_depL (ds:=ds) (by lia);lia
 |.tup ds,h=>by rw[Dt.dep]at h ⊢;rw[conv,L2.Dat.dep];have:=conv_depL (ds:=ds) (by lia);lia
 |.scr _,h=>by rw[Dt.dep]at h;lia
 |.exc _ _ _,h=>by rw[Dt.dep]at h;lia
 |.fn _ _,h=>by rw[Dt.dep]at h;lia
 |.dsk _ _,h=>by rw[Dt.dep]at h;lia
 |.fnc _,h=>by rw[Dt.dep]at h;lia
 |.dtt _ _,h=>by rw[Dt.dep]at h;lia
 |.loc _ _,h=>by rw[Dt.dep]at h;lia
 |.ins _ _,h=>by rw[Dt.dep]at h;lia
 |.dct _,h=>by rw[Dt.dep]at h;lia
theorem conv_depL:∀{ds:List Dt},Dt.depL ds<=40->L2.Dat.depL (convL ds)<=Dt.depL ds
 |[],_=>qAa _
 |d::r,h=>by
  rw[Dt.depL]at h ⊢;rw[convL,L2.Dat.depL];have h1:=zHC (d:=d) (by lia);have h2:=conv_depL (ds:=r) (by lia)
  lia
end
mutual
theorem zFF{H:Hp}:∀{d:Dt}{v:V},d.dep<=40->Rep H d v->L2.Rep H (conv d) v
 |.non,_,_,h=>h
 |.bl _,_,_,h=>h
 |.int _,_,_,h=>h
 |.str _,_,_,h=>h
 |.lst ds,_,hd,h=>by obtain⟨a,xs,e,e',r⟩:=h;exact⟨a,xs,e,e',conv_repL (by rw[Dt.dep]at hd;lia) r⟩
 |.tup ds,_,hd,h=>by obtain⟨a,xs,e,e',r⟩:=h;exact⟨a,xs,e,e',conv_repL (by rw[Dt.dep]at hd;lia) r⟩
 |.scr _,_,h,_=>by rw[Dt.dep]at h;lia
 |.exc _ _ _,_,h,_=>by rw[Dt.dep]at h;lia
 |.fn _ _,_,h,_=>by rw[Dt.dep]at h;lia
 |.dsk _ _,_,h,_=>by rw[Dt.dep]at h;lia
 |.fnc _,_,h,_=>by rw[Dt.dep]at h;lia
 |.dtt _ _,_,h,_=>by rw[Dt.dep]at h;lia
 |.loc _ _,_,h,_=>by rw[Dt.dep]at h;lia
 |.ins _ _,_,h,_=>by rw[Dt.dep]at h;lia
 |.dct _,_,h,_=>by rw[Dt.dep]at h;lia
theorem conv_repL{H:Hp}:∀{ds:List Dt}{xs:List V},Dt.depL ds<=40->RepL H ds xs->L2.RepL H (convL ds) xs
 |[],_,_,h=>h
 |d::r,_,hd,h=>by
  rw[Dt.depL]at hd;obtain⟨x,q,e,a,b⟩:=h;exact⟨x,q,e,zFF (by lia) a,conv_repL (by lia) b⟩
end
mutual
theorem zJC:∀{d e:Dt},d.dep<=40->e.dep<=40->L2.Dat.eq (conv d) (conv e)=Dt.eq d e
 |.scr _,_,h,_=>by rw[Dt.dep]at h;lia
 |.exc _ _ _,_,h,_=>by rw[Dt.dep]at h;lia
 |.fn _ _,_,h,_=>by rw[Dt.dep]at h;lia
 |.dsk _ _,_,h,_=>by rw[Dt.dep]at h;lia
 |.fnc _,_,h,_=>by rw[Dt.dep]at h;lia
 |.dtt _ _,_,h,_=>by rw[Dt.dep]at h;lia
 |.loc _ _,_,h,_=>by rw[Dt.dep]at h;lia
 |.ins _ _,_,h,_=>by rw[Dt.dep]at h;lia
 |.dct _,_,h,_=>by rw[Dt.dep]at h;lia
 |.lst ds,e,h,h'=>by
  rw[Dt.dep]at h;cases e with
  |lst es=>rw[Dt.dep]at h';rw[conv,conv,L2.Dat.eq,Dt.eq];exact conv_eqL (by lia) (by lia)
  |scr _=>rw[Dt.dep]at h';lia
  |exc _ _ _=>rw[Dt.dep]at h';lia
  |fn _ _=>rw[Dt.dep]at h';lia
  |dsk _ _=>rw[Dt.dep]at h';lia
  |fnc _=>rw[Dt.dep]at h';lia
  |dtt _ _=>rw[Dt.dep]at h';lia
  |loc _ _=>rw[Dt.dep]at h';lia
  |ins _ _=>rw[Dt.dep]at h';lia
  |dct _=>rw[Dt.dep]at h';lia
  |_=>simp[conv,L2.Dat.eq,Dt.eq]
 |.tup ds,e,h,h'=>by
  rw[Dt.dep]at h;cases e with
  |tup es=>rw[Dt.dep]at h';rw[conv,conv,L2.Dat.eq,Dt.eq];exact conv_eqL (by lia) (by lia)
  |scr _=>rw[Dt.dep]at h';lia
  |exc _ _ _=>rw[Dt.dep]at h';lia
  |fn _ _=>rw[Dt.dep]at h';lia
  |dsk _ _=>rw[Dt.dep]at h';lia
  |fnc _=>rw[Dt.dep]at h';lia
  |dtt _ _=>rw[Dt.dep]at h';lia
  |loc _ _=>rw[Dt.dep]at h';lia
  |ins _ _=>rw[Dt.dep]at h';lia
  |dct _=>rw[Dt.dep]at h';lia
  |_=>simp[conv,L2.Dat.eq,Dt.eq]
 |.non,e,_,h'=>by
  cases e with
  |scr _=>rw[Dt.dep]at h';lia
  |exc _ _ _=>rw[Dt.dep]at h';lia
  |fn _ _=>rw[Dt.dep]at h';lia
  |dsk _ _=>rw[Dt.dep]at h';lia
  |fnc _=>rw[Dt.dep]at h';lia
  |dtt _ _=>rw[Dt.dep]at h';lia
  |loc _ _=>rw[Dt.dep]at h';lia
  |ins _ _=>rw[Dt.dep]at h';lia
  |dct _=>rw[Dt.dep]at h';lia
  |_=>simp[conv,L2.Dat.eq,Dt.eq]
 |.bl _,e,_,h'=>by
  cases e with
  |scr _=>rw[Dt.dep]at h';lia
  |exc _ _ _=>rw[Dt.dep]at h';lia
  |fn _ _=>rw[Dt.dep]at h';lia
  |dsk _ _=>rw[Dt.dep]at h';lia
  |fnc _=>rw[Dt.dep]at h';lia
  |dtt _ _=>rw[Dt.dep]at h';lia
  |loc _ _=>rw[Dt.dep]at h';lia
  |ins _ _=>rw[Dt.dep]at h';lia
  |dct _=>rw[Dt.dep]at h';lia
  |_=>simp[conv,L2.Dat.eq,Dt.eq]
 |.int _,e,_,h'=>by
  cases e with
  |scr _=>rw[Dt.dep]at h';lia
  |exc _ _ _=>rw[Dt.dep]at h';lia
  |fn _ _=>rw[Dt.dep]at h';lia
  |dsk _ _=>rw[Dt.dep]at h';lia
  |fnc _=>rw[Dt.dep]at h';lia
  |dtt _ _=>rw[Dt.dep]at h';lia
  |loc _ _=>rw[Dt.dep]at h';lia
  |ins _ _=>rw[Dt.dep]at h';lia
  |dct _=>rw[Dt.dep]at h';lia
  |_=>simp[conv,L2.Dat.eq,Dt.eq]
 |.str _,e,_,h'=>by
  cases e with
  |scr _=>rw[Dt.dep]at h';lia
  |exc _ _ _=>rw[Dt.dep]at h';lia
  |fn _ _=>rw[Dt.dep]at h';lia
  |dsk _ _=>rw[Dt.dep]at h';lia
  |fnc _=>rw[Dt.dep]at h';lia
  |dtt _ _=>rw[Dt.dep]at h';lia
  |loc _ _=>rw[Dt.dep]at h';lia
  |ins _ _=>rw[Dt.dep]at h';lia
  |dct _=>rw[Dt.dep]at h';lia
  |_=>simp[conv,L2.Dat.eq,Dt.eq]
theorem conv_eqL:∀{ds es:List Dt},Dt.depL ds<=40->Dt.depL es<=40->L2.Dat.eqL (convL ds) (convL es)=Dt.eqL ds es
 |[],[],_,_=>by simp[convL,L2.Dat.eqL,Dt.eqL]
 |[],_::_,_,_=>by simp[convL,L2.Dat.eqL,Dt.eqL]
 |_::_,[],_,_=>by simp[convL,L2.Dat.eqL,Dt.eqL]
 |d::r,e::t,h,h'=>by
  rw[Dt.depL]at h h';rw[convL,convL,L2.Dat.eqL,Dt.eqL,zJC (by lia) (by lia),conv_eqL (by lia) (by lia)]
end
theorem zC4{G:Hp}:∀{ds:List Dt}{xs:List V}{q:Nat}{d:Dt}{x:V},RepL G ds xs->ds[q]?=some d->xs[q]?=some x->Rep G d x
 |[],_,_,_,_,_,h,_=>by simp at h
 |d::r,xs,0,e,y,h,h1,h2=>by
  obtain⟨x,t,rfl,a,b⟩:=h;simp at h1 h2;subst h1;subst h2;exact a
 |d::r,xs,q+1,e,y,h,h1,h2=>by
  obtain⟨x,t,rfl,a,b⟩:=h;exact zC4 b (by simpa using h1) (by simpa using h2)
theorem zDK{G:Hp}:∀{ds:List Dt}{xs:List V},xs.length=ds.length->(∀(q:Nat)(d:Dt)(x:V),ds[q]?=some d->xs[q]?=some x->Rep G d x)->RepL G ds xs
 |[],[],_,_=>rfl
 |[],_::_,h,_=>by simp at h
 |_::_,[],h,_=>by simp at h
 |d::r,x::t,h,k=>⟨x,t,rfl,k 0 d x rfl rfl,zDK (by simpa using h) fun q e y h1 h2=>k (q+1) e y (by simpa using h1) (by simpa using h2)⟩
theorem zEF{n:Nat}:∀{ds:List Dt},Dt.depL ds<=n->∀{q:Nat}{d:Dt},ds[q]?=some d->d.dep<=n
 |[],_,_,_,h=>by simp at h
 |e::r,h,0,d,h1=>by simp at h1;subst h1;rw[Dt.depL]at h;lia
 |e::r,h,q+1,d,h1=>by rw[Dt.depL]at h;exact zEF (ds:=r) (by lia) (q:=q) (by simpa using h1)
theorem Rep.scalar{G G2:Hp}{d:Dt}{v:V}(h:Rep G d v)(hd:d.dep=0):Rep G2 d v:=by
 cases d with
 |lst ds=>rw[Dt.dep]at hd;lia
 |tup ds=>rw[Dt.dep]at hd;lia
 |scr ns=>rw[Dt.dep]at hd;lia
 |exc _ _ _=>rw[Dt.dep]at hd;lia
 |fn _ _=>rw[Dt.dep]at hd;lia
 |dsk _ _=>rw[Dt.dep]at hd;lia
 |fnc _=>rw[Dt.dep]at hd;lia
 |dtt _ _=>rw[Dt.dep]at hd;lia
 |loc _ _=>rw[Dt.dep]at hd;lia
 |ins _ _=>rw[Dt.dep]at hd;lia
 |dct _=>rw[Dt.dep]at hd;lia
 |_=>exact h
structure Kids(P:(Addr->Prop)->Dt->V->Prop)(S:Addr->Prop)(a:Addr)(ds:List Dt)(xs:List V)(T:Nat->Addr->Prop):Prop where
 len:xs.length=ds.length
 own:∀(q:Nat)(d:Dt)(x:V),ds[q]?=some d->xs[q]?=some x->P (T q) d x
 top:S a
 out:∀q,¬T q a
 dis:∀q r b,T q b->T r b->q=r
 sub:∀q b,T q b->S b
def Own(G H:Hp):Nat->(Addr->Prop)->Dt->V->Prop
 |0,_,d,v=>Rep G d v
 |n+1,S,d,v=>match d with
  |.lst ds=>∃a xs T,v=.ref a/\H a=some (.lst xs)/\Kids (Own G H n) S a ds xs T
  |.tup ds=>∃a xs T,v=.ref a/\H a=some (.tup xs)/\Kids (Own G H n) S a ds xs T
  |.dct kvs=>∃a,v=.ref a/\H a=some (.dK (kvs.map fun p=>(p.1,swV p.2)))/\S a
  |.dtt ks ds=>∃a T0 e0 xs T,v=.ref a/\H a=some (.dT T0 e0 (kzip ks xs))/\ks.length=ds.length/\KeyT G T0 ks/\Kids (Own G H n) S a ds xs T
  |.loc a d=>v=.ref a/\Own G H n S d v
  |.dsk w ws=>∃a,v=.ref a/\∃b C dx,clK Kc.K "Desk" = some C/\dskO H w ws a b C dx/\S a/\S b
  |d=>Rep G d v
theorem Kids.imp{P P':(Addr->Prop)->Dt->V->Prop}{S S':Addr->Prop}{a:Addr}{ds:List Dt}{xs:List V}{T:Nat->Addr->Prop}(k:Kids P S a ds xs T)
  (h:∀q d x,ds[q]?=some d->P (T q) d x->P' (T q) d x) (hs:∀b,S b->S' b):Kids P' S' a ds xs T:=
 ⟨k.len,fun q d x h1 h2=>h q d x h1 (k.own q d x h1 h2),hs _ k.top,k.out,k.dis,fun q b t=>hs _ (k.sub q b t)⟩
theorem Own.mono{G G' H H':Hp}(sG:Same G G')(sH:Same H H'):∀{n:Nat}{S:Addr->Prop}{d:Dt}{v:V},Own G H n S d v->Own G' H' n S d v
 |0,S,d,v,h=>Rep.mono sG h
 |n+1,S,d,v,h=>by
  cases d with
  |lst ds=>obtain⟨a,xs,T,e,ha,k⟩:=h;exact⟨a,xs,T,e,sH _ _ ha,k.imp (fun _ _ _ _ p=>Own.mono sG sH p) fun _ z=>z⟩
  |tup ds=>obtain⟨a,xs,T,e,ha,k⟩:=h;exact⟨a,xs,T,e,sH _ _ ha,k.imp (fun _ _ _ _ p=>Own.mono sG sH p) fun _ z=>z⟩
  |dct kvs=>obtain⟨a,e,ha,hs⟩:=h;exact⟨a,e,sH _ _ ha,hs⟩
  |dtt ks ds=>obtain⟨a,T0,e0,xs,T,e,ha,hl,ht,k⟩:=h;exact⟨a,T0,e0,xs,T,e,sH _ _ ha,hl,ht.mono sG,k.imp (fun _ _ _ _ p=>Own.mono sG sH p) fun _ z=>z⟩
  |loc a d=>exact⟨h.1,Own.mono sG sH h.2⟩
  |dsk w ws=>obtain⟨a,e,b,C,dx,h1,⟨h2,h3⟩,h4⟩:=h;exact⟨a,e,b,C,dx,h1,⟨sH _ _ h2,sH _ _ h3⟩,h4⟩
  |_=>exact Rep.mono sG h
theorem Own.sub{G H:Hp}:∀{n:Nat}{S S':Addr->Prop}{d:Dt}{v:V},Own G H n S d v->(∀b,S b->S' b)->Own G H n S' d v
 |0,_,_,_,_,h,_=>h
 |n+1,S,S',d,v,h,hs=>by
  cases d with
  |lst ds=>obtain⟨a,xs,T,e,ha,k⟩:=h;exact⟨a,xs,T,e,ha,k.imp (fun _ _ _ _ p=>p) hs⟩
  |tup ds=>obtain⟨a,xs,T,e,ha,k⟩:=h;exact⟨a,xs,T,e,ha,k.imp (fun _ _ _ _ p=>p) hs⟩
  |dct kvs=>obtain⟨a,e,ha,h2⟩:=h;exact⟨a,e,ha,hs _ h2⟩
  |dtt ks ds=>obtain⟨a,T0,e0,xs,T,e,ha,hl,ht,k⟩:=h;exact⟨a,T0,e0,xs,T,e,ha,hl,ht,k.imp (fun _ _ _ _ p=>p) hs⟩
  |loc a d=>exact⟨h.1,Own.sub h.2 hs⟩
  |dsk w ws=>obtain⟨a,e,b,C,dx,h1,h2,h3,h4⟩:=h;exact⟨a,e,b,C,dx,h1,h2,hs _ h3,hs _ h4⟩
  |_=>exact h
theorem Own.rep{G H J:Hp}(sG:Same G J):∀{n:Nat}{S:Addr->Prop}{d:Dt}{v:V},Own G H n S d v->(∀a o,S a->H a=some o->J a=some o)->Rep J d v
 |0,S,d,v,h,_=>Rep.mono sG h
 |n+1,S,d,v,h,hj=>by
  cases d with
  |lst ds=>obtain⟨a,xs,T,e,ha,k⟩:=h;exact⟨a,xs,e,hj _ _ k.top ha,zDK k.len fun q d x h1 h2=>Own.rep sG (k.own q d x h1 h2) fun b o t hb=>hj b o (k.sub q b t) hb⟩
  |tup ds=>obtain⟨a,xs,T,e,ha,k⟩:=h;exact⟨a,xs,e,hj _ _ k.top ha,zDK k.len fun q d x h1 h2=>Own.rep sG (k.own q d x h1 h2) fun b o t hb=>hj b o (k.sub q b t) hb⟩
  |dct kvs=>obtain⟨a,e,ha,hs⟩:=h;exact⟨a,e,hj _ _ hs ha⟩
  |dtt ks ds=>obtain⟨a,T0,e0,xs,T,e,ha,hl,ht,k⟩:=h;exact⟨a,T0,e0,xs,e,hj _ _ k.top ha,hl,ht.mono sG,zDK k.len fun q d x h1 h2=>Own.rep sG (k.own q d x h1 h2) fun b o t hb=>hj b o (k.sub q b t) hb⟩
  |loc a d=>exact⟨h.1,Own.rep sG h.2 hj⟩
  |dsk w ws=>obtain⟨a,e,b,C,dx,h1,⟨h2,h3⟩,h4,h5⟩:=h;exact⟨a,e,b,C,dx,h1,hj _ _ h4 h2,hj _ _ h5 h3⟩
  |_=>exact Rep.mono sG h
theorem Own.at{G G2 H:Hp}:∀{n k:Nat}{S:Addr->Prop}{d:Dt}{v:V},Own G H n S d v->d.dep<=n->d.dep<=k->n<1000->Own G2 H k S d v
 |n,k,S,d,v,h,hn,hk,hz=>by
  cases d with
  |lst ds=>
   rw[Dt.dep]at hn hk;cases n with
   |zero=>lia
   |succ n=>
    cases k with
    |zero=>lia
    |succ k=>
     obtain⟨a,xs,T,e,ha,kd⟩:=h;refine⟨a,xs,T,e,ha,kd.imp (fun q d x h1 p=>?_) fun _ z=>z⟩;exact Own.at p (zEF (by lia) h1) (zEF (by lia) h1) (by lia)
  |tup ds=>
   rw[Dt.dep]at hn hk;cases n with
   |zero=>lia
   |succ n=>
    cases k with
    |zero=>lia
    |succ k=>
     obtain⟨a,xs,T,e,ha,kd⟩:=h;refine⟨a,xs,T,e,ha,kd.imp (fun q d x h1 p=>?_) fun _ z=>z⟩;exact Own.at p (zEF (by lia) h1) (zEF (by lia) h1) (by lia)
  |non=>cases n<;>cases k<;>exact h
  |bl b=>cases n<;>cases k<;>exact h
  |int i=>cases n<;>cases k<;>exact h
  |str x=>cases n<;>cases k<;>exact h
  |scr ns=>rw[Dt.dep]at hn;lia
  |exc _ _ _=>rw[Dt.dep]at hn;lia
  |fn _ _=>rw[Dt.dep]at hn;lia
  |dsk _ _=>rw[Dt.dep]at hn;lia
  |fnc _=>rw[Dt.dep]at hn;lia
  |dtt _ _=>rw[Dt.dep]at hn;lia
  |loc _ _=>rw[Dt.dep]at hn;lia
  |ins _ _=>rw[Dt.dep]at hn;lia
  |dct _=>rw[Dt.dep]at hn;lia
termination_by n=>n
theorem Own.scalar{G H G2 H2:Hp}{n k:Nat}{S S2:Addr->Prop}{d:Dt}{v:V}(h:Own G H n S d v)(hd:d.dep=0):Own G2 H2 k S2 d v:=by
 cases d with
 |lst ds=>rw[Dt.dep]at hd;lia
 |tup ds=>rw[Dt.dep]at hd;lia
 |non=>cases n<;>cases k<;>exact h
 |bl b=>cases n<;>cases k<;>exact h
 |int i=>cases n<;>cases k<;>exact h
 |str x=>cases n<;>cases k<;>exact h
 |scr ns=>rw[Dt.dep]at hd;lia
 |exc _ _ _=>rw[Dt.dep]at hd;lia
 |fn _ _=>rw[Dt.dep]at hd;lia
 |dsk _ _=>rw[Dt.dep]at hd;lia
 |fnc _=>rw[Dt.dep]at hd;lia
 |dtt _ _=>rw[Dt.dep]at hd;lia
 |loc _ _=>rw[Dt.dep]at hd;lia
 |ins _ _=>rw[Dt.dep]at hd;lia
 |dct _=>rw[Dt.dep]at hd;lia
theorem zIB{G H:Hp}{n:Nat}{S:Addr->Prop}{d:Dt}{v:V}(h:Rep G d v)(hd:d.dep=0):Own G H n S d v:=Own.scalar (n:=0) (G:=G) (H:=H) (S:=S) h hd
theorem Own.upd{G H:Hp}{p:Addr}{o:HO}:∀{n:Nat}{S:Addr->Prop}{d:Dt}{v:V},Own G H n S d v->¬S p->Own G (upd H p o) n S d v
 |0,S,d,v,h,_=>h
 |n+1,S,d,v,h,hp=>by
  cases d with
  |lst ds=>
   obtain⟨a,xs,T,e,ha,k⟩:=h;have hap:a≠p:=fun z=>hp (z▸k.top)
   exact⟨a,xs,T,e,(zAL hap).trans ha,k.imp (fun q _ _ _ w=>Own.upd w fun z=>hp (k.sub q _ z)) fun _ z=>z⟩
  |tup ds=>
   obtain⟨a,xs,T,e,ha,k⟩:=h;have hap:a≠p:=fun z=>hp (z▸k.top)
   exact⟨a,xs,T,e,(zAL hap).trans ha,k.imp (fun q _ _ _ w=>Own.upd w fun z=>hp (k.sub q _ z)) fun _ z=>z⟩
  |dct kvs=>
   obtain⟨a,e,ha,hs⟩:=h;have hap:a≠p:=fun z=>hp (z▸hs)
   exact⟨a,e,(zAL hap).trans ha,hs⟩
  |dtt ks ds=>
   obtain⟨a,T0,e0,xs,T,e,ha,hl,ht,k⟩:=h;have hap:a≠p:=fun z=>hp (z▸k.top)
   exact⟨a,T0,e0,xs,T,e,(zAL hap).trans ha,hl,ht,k.imp (fun q _ _ _ w=>Own.upd w fun z=>hp (k.sub q _ z)) fun _ z=>z⟩
  |loc a d=>exact⟨h.1,Own.upd h.2 hp⟩
  |dsk w ws=>
   obtain⟨a,e,b,C,dx,h1,⟨h2,h3⟩,h4,h5⟩:=h;have h6:a≠p:=fun z=>hp (z▸h4)
   have h7:b≠p:=fun z=>hp (z▸h5)
   exact⟨a,e,b,C,dx,h1,⟨(zAL h6).trans h2,(zAL h7).trans h3⟩,h4,h5⟩
  |_=>exact h
structure Ext(G H G' H':Hp):Prop where
 g:Same G G'
 h:Same H H'
 in':Same G' H'
 old:∀b,H b≠none->G' b=G b
theorem Ext.refl{G H:Hp}(s:Same G H):Ext G H G H:=⟨Same.refl _,Same.refl _,s,fun _ _=>rfl⟩
theorem _root_.L2.Same.some{H H':Hp}(s:Same H H'){b:Addr}(h:H b≠qCx):H' b≠qCx:=by
 cases e:H b with
 |none=>exact absurd e h
 |some o=>rw[s _ _ e];simp
theorem Ext.trans{G H G1 H1 G2 H2:Hp}(a:Ext G H G1 H1)(b:Ext G1 H1 G2 H2):Ext G H G2 H2:=
 ⟨a.g.trans b.g,a.h.trans b.h,b.in',fun c hc=>(b.old c (a.h.some hc)).trans (a.old c hc)⟩
structure Fr(G H G' H':Hp)(S:Addr->Prop):Prop where
 ext:Ext G H G' H'
 new:∀a,S a->H a=none/\G' a=none/\H' a≠none
open Classical in
noncomputable def over(G H:Hp)(S:Addr->Prop):Hp:=fun b=>if S b then H b else G b
theorem zDL{G H:Hp}{S:Addr->Prop}{a:Addr}(h:S a):over G H S a=H a:=by unfold over;rw[if_pos h]
theorem zCB{G H:Hp}{S:Addr->Prop}{a:Addr}(h:¬S a):over G H S a=G a:=by unfold over;rw[if_neg h]
theorem zDB{G H:Hp}{S:Addr->Prop}(s:Same G H):Same G (over G H S)/\Same (over G H S) H:=by
 constructor
 ·intro b o e
  by_cases z:S b
  ·rw[zDL z];exact s _ _ e
  ·rw[zCB z];exact e
 ·intro b o e
  by_cases z:S b
  ·rw[zDL z]at e;exact e
  ·rw[zCB z]at e;exact s _ _ e
theorem Fr.frz{G H G' H':Hp}{S:Addr->Prop}{n:Nat}{d:Dt}{v:V}(f:Fr G H G' H' S)(o:Own G' H' n S d v):Ext G H (over G' H' S) H'/\Rep (over G' H' S) d v:=by
 obtain⟨s1,s2⟩:=zDB (S:=S) f.ext.in';refine⟨⟨f.ext.g.trans s1,f.ext.h,s2,fun b hb=>?_⟩,o.rep s1 fun a u ha e=>by rw[zDL ha];exact e⟩;have z:¬S b:=fun z=>hb (f.new b z).1
 rw[zCB z];exact f.ext.old b hb
structure View(G:Hp)(σ:St)(ρ:Rh):Prop where
 len:ρ.length=σ.length
 «at»:∀(i:Nat)(d:Dt),ρ[i]?=some (some d)->∃v,σ[i]?=some (some v)/\Rep G d v
 tab:Same (tabK Kc.K) G
theorem View.mono{G G':Hp}{σ:St}{ρ:Rh}(s:Same G G')(h:View G σ ρ):View G' σ ρ:=⟨h.len,fun i d e=>let⟨v,a,b⟩:=h.at i d e;⟨v,a,Rep.mono s b⟩,h.tab.trans s⟩
def XRep(mg:Str->Option Value)(x:Xn)(c:Value)(da:Option Addr)(G H:Hp):Prop:=
 ∃e C,c=.ref e/\G e=some (xo e (.ref C) da)/\clK Kc.K x.cls=some C/\((da=none/\x.f = "")\/∃a gs w,da=some a/\G a=some (.xd gs)/\gs.lookup x.f=some w/\Rep G x.d w)
def PostE(mg:Str->Option Value)(E:XK)(G H:Hp)(n:Nat)(r:R Dt)(Q:VK):Prop:=match r with
 |none=>False
 |some (.error x)=>∀c da G' H',Ext G H G' H'->XRep mg x c da G' H'->E c da H'
 |some (.ok d)=>∀v G' H' S,Fr G H G' H' S->Own G' H' n S d v->Q v H'
def PostT(mg:Str->Option Value)(E:XK)(G H:Hp)(r:R Bool)(Q:Bool->Hp->Prop):Prop:=match r with
 |none=>False
 |some (.error x)=>∀c da G' H',Ext G H G' H'->XRep mg x c da G' H'->E c da H'
 |some (.ok b)=>∀H',Same H H'->Q b H'
structure OwnA(G H:Hp)(n:Nat)(S:Addr->Prop)(ds:List Dt)(xs:List V)(T:Nat->Addr->Prop):Prop where
 len:xs.length=ds.length
 own:∀(q:Nat)(d:Dt)(x:V),ds[q]?=some d->xs[q]?=some x->Own G H n (T q) d x
 dis:∀q r b,T q b->T r b->q=r
 sub:∀q b,T q b->S b
def zOX(mg:Str->Option Value)(E:XK)(G H:Hp)(n:Nat)(r:R (List Dt))(Q:List V->Hp->Prop):Prop:=match r with
 |none=>False
 |some (.error x)=>∀c da G' H',Ext G H G' H'->XRep mg x c da G' H'->E c da H'
 |some (.ok ds)=>∀vs G' H' S T,Fr G H G' H' S->OwnA G' H' n S ds vs T->Q vs H'
def DE(mg:Str->Option Value)(E:XK)(t:TE)(m:EM)(n:Nat):Prop:=∀(G H:Hp)(σ:St)(ρ:Rh)(Q:VK),Same G H->View G σ ρ->PostE mg E G H n (m ρ) Q->t σ H Q
def DT(mg:Str->Option Value)(E:XK)(t:TT)(m:TM):Prop:=∀(G H:Hp)(σ:St)(ρ:Rh)(Q:Bool->Hp->Prop),Same G H->View G σ ρ->PostT mg E G H (m ρ) Q->t σ H Q
def DA(mg:Str->Option Value)(E:XK)(t:TA)(m:AM)(n:Nat):Prop:=∀(G H:Hp)(σ:St)(ρ:Rh)(Q:List V->Hp->Prop),Same G H->View G σ ρ->zOX mg E G H n (m ρ) Q->t σ H Q
structure Err(mg:Str->Option Value)(E:XK)(G H:Hp){β:Type}(P:R β->Prop):Prop where
 no:P none->False
 er:∀x,P (some (.error x))->∀c da G' H',Ext G H G' H'->XRep mg x c da G' H'->E c da H'
theorem Ext.same{G H H':Hp}(s:Same G H)(h:Same H H'):Ext G H G H':=⟨Same.refl _,h,s.trans h,fun _ _=>rfl⟩
theorem Err.from{mg:Str->Option Value}{E:XK}{G H G' H':Hp}{β:Type}{P:R β->Prop}(e:Err mg E G H P)(x:Ext G H G' H'):Err mg E G' H' P:=⟨e.no,fun y p c da G2 H2 z w=>e.er y p c da G2 H2 (x.trans z) w⟩
section
variable{mg:Str->Option Value}{E:XK}{n:Nat}
theorem errE{G H:Hp}{Q:VK}:Err mg E G H (fun r=>PostE mg E G H n r Q):=⟨fun h=>h,fun _ h=>h⟩
theorem errT{G H:Hp}{Q:Bool->Hp->Prop}:Err mg E G H (fun r=>PostT mg E G H r Q):=⟨fun h=>h,fun _ h=>h⟩
theorem errA{G H:Hp}{Q:List V->Hp->Prop}:Err mg E G H (fun r=>zOX mg E G H n r Q):=⟨fun h=>h,fun _ h=>h⟩
theorem DE.step{β:Type}{t:TE}{m:EM}(D:DE mg E t m n){G H:Hp}{σ:St}{ρ:Rh}{Q:VK}{P:R β->Prop}{f:Dt->R β}(hE:Err mg E G H P)(s:Same G H)(w:View G σ ρ)(p:P (zA2 (m ρ) f))
  (h:∀d v G' H' S,m ρ=okR d->Fr G H G' H' S->Own G' H' n S d v->P (f d)->Q v H'):t σ H Q:=by
 refine D G H σ ρ Q s w ?_;cases e:m ρ with
 |none=>rw[e]at p;exact hE.no p
 |some r=>
  rw[e]at p;cases r with
  |error x=>exact hE.er x p
  |ok d=>exact fun v G' H' S fr o=>h d v G' H' S e fr o p
theorem DT.step{β:Type}{t:TT}{m:TM}(D:DT mg E t m){G H:Hp}{σ:St}{ρ:Rh}{Q:Bool->Hp->Prop}{P:R β->Prop}{f:Bool->R β}(hE:Err mg E G H P)(s:Same G H)(w:View G σ ρ)(p:P (zA2 (m ρ) f))
  (h:∀b H',m ρ=okR b->Same H H'->P (f b)->Q b H'):t σ H Q:=by
 refine D G H σ ρ Q s w ?_;cases e:m ρ with
 |none=>rw[e]at p;exact hE.no p
 |some r=>
  rw[e]at p;cases r with
  |error x=>exact hE.er x p
  |ok b=>exact fun H' sH=>h b H' e sH p
theorem DA.step{β:Type}{t:TA}{m:AM}(D:DA mg E t m n){G H:Hp}{σ:St}{ρ:Rh}{Q:List V->Hp->Prop}{P:R β->Prop}{f:List Dt->R β}(hE:Err mg E G H P)(s:Same G H)(w:View G σ ρ)(p:P (zA2 (m ρ) f))
  (h:∀ds vs G' H' S T,m ρ=okR ds->Fr G H G' H' S->OwnA G' H' n S ds vs T->P (f ds)->Q vs H'):t σ H Q:=by
 refine D G H σ ρ Q s w ?_;cases e:m ρ with
 |none=>rw[e]at p;exact hE.no p
 |some r=>
  rw[e]at p;cases r with
  |error x=>exact hE.er x p
  |ok ds=>exact fun vs G' H' S T fr o=>h ds vs G' H' S T e fr o p
theorem PostE.from{G H G' H':Hp}{Q:VK}{r:R Dt}(p:PostE mg E G H n r Q)(x:Ext G H G' H'):PostE mg E G' H' n r Q:=by
 cases r with
 |none=>exact p
 |some r=>
  cases r with
  |error y=>exact fun c da G2 H2 z w=>p c da G2 H2 (x.trans z) w
  |ok d=>
   exact fun v G2 H2 S fr o=>p v G2 H2 S ⟨x.trans fr.ext,fun a ha=>⟨x.h.free (fr.new a ha).1,(fr.new a ha).2⟩⟩ o
theorem PostT.from{G H G' H':Hp}{Q:Bool->Hp->Prop}{r:R Bool}(p:PostT mg E G H r Q)(x:Ext G H G' H'):PostT mg E G' H' r Q:=by
 cases r with
 |none=>exact p
 |some r=>
  cases r with
  |error y=>exact fun c da G2 H2 z w=>p c da G2 H2 (x.trans z) w
  |ok d=>exact fun H2 s=>p H2 (x.h.trans s)
theorem Fr.from{G H G1 H1 G2 H2:Hp}{S:Addr->Prop}(x:Ext G H G1 H1)(f:Fr G1 H1 G2 H2 S):Fr G H G2 H2 S:=⟨x.trans f.ext,fun a ha=>⟨x.h.free (f.new a ha).1,(f.new a ha).2⟩⟩
theorem PostE.val{G H G' H':Hp}{d:Dt}{v:V}{Q:VK}(p:PostE mg E G H n (okR d) Q)(x:Ext G H G' H')(hd:d.dep=0)(h:Rep G' d v):Q v H':=
 p v G' H' (fun _=>False) ⟨x,fun _ z=>z.elim⟩ (zIB h hd)
theorem PostE.kept{G H G' H':Hp}{d:Dt}{v:V}{Q:VK}(p:PostE mg E G H 0 (okR d) Q)(x:Ext G H G' H')(h:Rep G' d v):Q v H':=
 p v G' H' (fun _=>False) ⟨x,fun _ z=>z.elim⟩ h
theorem zAM{t:TE}{m:EM}{n:Nat}(D:DE mg E t m n):DE mg E t m 0:=by
 intro G H σ ρ Q s w p;refine D G H σ ρ Q s w ?_;cases e:m ρ with
 |none=>rw[e]at p;exact p
 |some r=>
  rw[e]at p;cases r with
  |error x=>exact p
  |ok d=>
   intro v G' H' S fr o;obtain⟨x,r⟩:=fr.frz o;exact PostE.kept p x r
end
end
section
variable[Kc]{mg:Str->Option Value}{E:XK}{n k l:Nat}{ta tb tc:TE}{ma mb mc:EM}
theorem zAB{i:Int}:DE mg E (tC (.int i)) (Mi.eC (.int i)) n:=fun G H σ ρ Q s w p=>PostE.val p (Ext.refl s) rfl rfl
theorem zEI{b:Bool}:DE mg E (tC (.bl b)) (Mi.eC (.bl b)) n:=fun G H σ ρ Q s w p=>PostE.val p (Ext.refl s) rfl rfl
theorem zLA:DE mg E (tC .non) (Mi.eC .non) n:=fun G H σ ρ Q s w p=>PostE.val p (Ext.refl s) rfl rfl
theorem zJA{x:Str}:DE mg E (tC (.str x)) (Mi.eC (.str x)) n:=fun G H σ ρ Q s w p=>PostE.val p (Ext.refl s) rfl rfl
theorem de_v(i:Nat):DE mg E (vM i) (Mi.eV i) 0:=by
 intro G H σ ρ Q s w p;unfold Mi.eV at p;cases e:ρ[i]? with
 |none=>rw[e]at p;exact p.elim
 |some o=>
  rw[e]at p;cases o with
  |none=>exact p.elim
  |some d=>
   obtain⟨v,h1,h2⟩:=w.at i d e;unfold vM;rw[h1];exact PostE.kept p (Ext.refl s) h2
def ROp(r:R2)(f:Dt->Dt->Option Dt)(n:Nat):Prop:=∀(mg:Str->Option Value)(E:XK)(G H:Hp)(d e:Dt)(x y:V)(Q:VK),Same G H->Rep G d x->Rep G e y->PostE mg E G H n (optR (f d e)) Q->r x y H Q
theorem zAE{r:R2}{f:Dt->Dt->Option Dt}(hr:ROp r f n)(A:DE mg E ta ma k)(B:DE mg E tb mb l):DE mg E (tOp r ta tb) (Mi.eB f ma mb) n:=by
 intro G H σ ρ Q s w p;refine(zAM A).step errE s w p fun d v G1 H1 S _ fr o p1=>?_
 refine(zAM B).step (errE.from fr.ext) fr.ext.in' (w.mono fr.ext.g) p1 fun e u G2 H2 S2 _ fr2 o2 p2=>?_
 exact hr mg E G2 H2 d e v u Q fr2.ext.in' (Rep.mono fr2.ext.g o) o2 (PostE.from p2 (fr.ext.trans fr2.ext))
def ROp1(r:V->Hp->VK->Prop)(f:Dt->Option Dt)(n:Nat):Prop:=∀(mg:Str->Option Value)(E:XK)(G H:Hp)(d:Dt)(x:V)(Q:VK),Same G H->Rep G d x->PostE mg E G H n (optR (f d)) Q->r x H Q
theorem zPX{r:V->Hp->VK->Prop}{f:Dt->Option Dt}(hr:ROp1 r f n)(A:DE mg E ta ma k):DE mg E (tUn r ta) (Mi.eU f ma) n:=by
 intro G H σ ρ Q s w p;refine(zAM A).step errE s w p fun d v G1 H1 S _ fr o p1=>?_
 exact hr mg E G1 H1 d v Q fr.ext.in' o (PostE.from p1 fr.ext)
theorem zCY(A:DE mg E ta ma k)(B:DE mg E tb mb n):DE mg E (fun σ H Q=>ta σ H fun x H1=>match x with | .bl c=>if c=true then tb σ H1 Q else Q (.bl false) H1|_=>False) (Mi.eAnd ma mb) n:=by
 intro G H σ ρ Q s w p;refine(zAM A).step errE s w p fun d v G1 H1 S _ fr o p1=>?_
 cases d with
 |bl b=>
  cases(show v=.bl b from o)
  cases b with
  |true=>exact B G1 H1 σ ρ Q fr.ext.in' (w.mono fr.ext.g) (PostE.from p1 fr.ext)
  |false=>exact PostE.val (PostE.from p1 fr.ext) (Ext.refl fr.ext.in') rfl rfl
 |_=>exact p1.elim
theorem zPY(A:DE mg E ta ma k)(B:DE mg E tb mb n):DE mg E (fun σ H Q=>ta σ H fun x H1=>match x with | .bl c=>if c=true then Q (.bl true) H1 else tb σ H1 Q|_=>False) (Mi.eOr ma mb) n:=by
 intro G H σ ρ Q s w p;refine(zAM A).step errE s w p fun d v G1 H1 S _ fr o p1=>?_
 cases d with
 |bl b=>
  cases(show v=.bl b from o)
  cases b with
  |false=>exact B G1 H1 σ ρ Q fr.ext.in' (w.mono fr.ext.g) (PostE.from p1 fr.ext)
  |true=>exact PostE.val (PostE.from p1 fr.ext) (Ext.refl fr.ext.in') rfl rfl
 |_=>exact p1.elim
theorem zL9(A:DE mg E ta ma k):DE mg E (fun σ H Q=>ta σ H fun x H1=>match x with | .bl c=>Q (.bl (!c)) H1|_=>False) (Mi.eNot ma) n:=by
 intro G H σ ρ Q s w p;refine(zAM A).step errE s w p fun d v G1 H1 S _ fr o p1=>?_
 cases d with
 |bl b=>
  cases(show v=.bl b from o)
  exact PostE.val (PostE.from p1 fr.ext) (Ext.refl fr.ext.in') rfl rfl
 |_=>exact p1.elim
theorem zKI{α β:Type}(o:Option α)(f:α->R β):zA2 (optR o) f=match o with|none=>none|some a=>f a:=by cases o<;>rfl
theorem zKC{r r':R2}{f g:Dt->Dt->Option Dt}(hr:ROp r f 0)(hr':ROp r' g n)(A:DE mg E ta ma k)(B:DE mg E tb mb l){j:Nat}(C:DE mg E tc mc j) :
  DE mg E (fun σ H Q=>ta σ H fun x H1=>tb σ H1 fun y H2=>r x y H2 fun z H3=>match z with
   |.bl k=>if k=true then tc σ H3 fun w' H4=>r' y w' H4 Q else Q (.bl false) H3
   |_=>False) (Mi.eChain f g ma mb mc) n:=by
 intro G H σ ρ Q s w p;refine(zAM A).step errE s w p fun d v G1 H1 S _ fr o p1=>?_
 refine(zAM B).step (errE.from fr.ext) fr.ext.in' (w.mono fr.ext.g) p1 fun e u G2 H2 S2 _ fr2 o2 p2=>?_
 refine hr mg E G2 H2 d e v u _ fr2.ext.in' (Rep.mono fr2.ext.g o) o2 ?_;have p3:=PostE.from p2 (fr.ext.trans fr2.ext);rw[zKI]at p3;cases ez:f d e with
 |none=>rw[ez]at p3;exact p3
 |some z=>
  rw[ez]at p3;intro v3 G3 H3 S3 fr3 o3;obtain⟨x3,r3⟩:=fr3.frz o3;cases z with
  |bl b=>
   cases(show v3=.bl b from r3)
   cases b with
   |false=>exact PostE.val p3 x3 rfl rfl
   |true=>
    refine(zAM C).step (errE.from x3) x3.in' ((w.mono (fr.ext.g.trans fr2.ext.g)).mono x3.g) p3 fun c u4 G4 H4 S4 _ fr4 o4 p4=>?_
    exact hr' mg E G4 H4 e c u u4 Q fr4.ext.in' (Rep.mono (x3.g.trans fr4.ext.g) o2) o4 (PostE.from p4 (x3.trans fr4.ext))
  |_=>exact p3.elim
theorem dt_b(A:DE mg E ta ma k):DT mg E (fun σ H Q=>ta σ H fun z H3=>match z with | .bl k=>Q k H3|_=>False) (Mi.tB ma):=by
 intro G H σ ρ Q s w p;refine(zAM A).step errT s w p fun d v G1 H1 S _ fr o p1=>?_
 cases d with
 |bl b=>
  cases(show v=.bl b from o)
  exact p1 H1 fr.ext.h
 |_=>exact p1.elim
theorem dt_m(A:DE mg E ta ma k):DT mg E (bM ta) (Mi.tM ma):=by
 intro G H σ ρ Q s w p;refine(zAM A).step errT s w p fun d v G1 H1 S _ fr o p1=>?_
 cases d with
 |bl b=>cases(show v=.bl b from o);exact p1 H1 fr.ext.h
 |int b=>cases(show v=.int b from o);exact p1 H1 fr.ext.h
 |non=>cases(show v=.non from o);exact p1 H1 fr.ext.h
 |_=>exact p1.elim
variable{tA tB:TT}{cA cB:TM}
theorem zL7(A:DT mg E tA cA)(B:DT mg E tB cB):DT mg E (L2.tAnd tA tB) (Mi.tAn cA cB):=by
 intro G H σ ρ Q s w p;refine A.step errT s w p fun b H' _ sH p1=>?_
 cases b with
 |true=>exact B G H' σ ρ Q (s.trans sH) w (PostT.from p1 (Ext.same s sH))
 |false=>exact p1 H' sH
theorem zMI(A:DT mg E tA cA)(B:DT mg E tB cB):DT mg E (L2.tOr tA tB) (Mi.tOr cA cB):=by
 intro G H σ ρ Q s w p;refine A.step errT s w p fun b H' _ sH p1=>?_
 cases b with
 |false=>exact B G H' σ ρ Q (s.trans sH) w (PostT.from p1 (Ext.same s sH))
 |true=>exact p1 H' sH
theorem zG0(A:DT mg E tA cA):DT mg E (L2.tNot tA) (Mi.tNo cA):=by
 intro G H σ ρ Q s w p;exact A.step errT s w p fun b H' _ sH p1=>p1 H' sH
theorem zBH:DT mg E L2.tYes Mi.tYes:=fun G H σ ρ Q s w p=>p H (Same.refl _)
variable{t:TA}{m:AM}
theorem zAA:DA mg E tNil Mi.aNil n:=fun G H σ ρ Q s w p=>p [] G H (fun _=>False) (fun _ _=>False) ⟨Ext.refl s,fun _ z=>z.elim⟩ ⟨rfl,fun q d x h=>by simp at h,fun _ _ _ z=>z.elim,fun _ _ z=>z.elim⟩
theorem zA3(A:DE mg E ta ma n)(B:DA mg E t m n):DA mg E (zD5 ta t) (Mi.aCons ma m) n:=by
 intro G H σ ρ Q s w p;refine A.step errA s w p fun d v G1 H1 S1 _ fr o p1=>?_
 refine B.step (errA.from fr.ext) fr.ext.in' (w.mono fr.ext.g) p1 fun ds vs G2 H2 S2 T2 _ fr2 o2 p2=>?_
 refine p2 (v::vs) G2 H2 (fun a=>S1 a\/S2 a) (fun q=>match q with|0=>S1|q+1=>T2 q) ⟨fr.ext.trans fr2.ext,fun a ha=>?_⟩ ⟨by simp[o2.len],fun q d' x h1 h2=>?_,fun q r b h1 h2=>?_,fun q b h=>?_⟩
 ·rcases ha with ha|ha
  ·obtain⟨n1,n2,n3⟩:=fr.new a ha;exact⟨n1,(fr2.ext.old a n3).trans n2,fr2.ext.h.some n3⟩
  ·obtain⟨n1,n2,n3⟩:=fr2.new a ha;exact⟨fr.ext.h.free n1,n2,n3⟩
 ·cases q with
  |zero=>simp at h1 h2;subst h1;subst h2;exact o.mono fr2.ext.g fr2.ext.h
  |succ q=>exact o2.own q d' x (by simpa using h1) (by simpa using h2)
 ·have ap:∀r b,S1 b->T2 r b->False:=fun r b h1 h2=>(fr.new b h1).2.2 (fr2.new b (o2.sub r b h2)).1
  cases q with
  |zero=>
   cases r with
   |zero=>rfl
   |succ r=>exact(ap r b h1 h2).elim
  |succ q=>
   cases r with
   |zero=>exact(ap q b h2 h1).elim
   |succ r=>rw[o2.dis q r b h1 h2]
 ·cases q with
  |zero=>exact .inl h
  |succ q=>exact .inr (o2.sub q b h)
theorem OwnA.repL{G H:Hp}{S:Addr->Prop}{ds:List Dt}{vs:List V}{T:Nat->Addr->Prop}(o:OwnA G H 0 S ds vs T):RepL G ds vs:=zDK o.len fun q d x h1 h2=>o.own q d x h1 h2
theorem big'{n:Nat}(h:n<=100000):n<=sizeLine:=qBp (L2.big h)
theorem Fr.add{G H G' H':Hp}{S:Addr->Prop}(f:Fr G H G' H' S){p:Addr}(hp:H' p=none)(o:HO):Fr G H G' (upd H' p o) (fun a=>a=p\/S a):=by
 have sn:=L2.same_new hp o;refine⟨⟨f.ext.g,f.ext.h.trans sn,f.ext.in'.trans sn,f.ext.old⟩,fun a ha=>?_⟩
 rcases ha with rfl|ha
 ·exact⟨f.ext.h.free hp,f.ext.in'.free hp,by rw[zAQ];simp⟩
 ·obtain⟨n1,n2,n3⟩:=f.new a ha;exact⟨n1,n2,sn.some n3⟩
theorem OwnA.kids{G' H':Hp}{S:Addr->Prop}{ds:List Dt}{vs:List V}{T:Nat->Addr->Prop}(o:OwnA G' H' n S ds vs T)(hn:∀a,S a->H' a≠none){p:Addr}(hp:H' p=none)(ob:HO) :
  Kids (Own G' (upd H' p ob) n) (fun a=>a=p\/S a) p ds vs T:=
 ⟨o.len,fun q d x h1 h2=>(o.own q d x h1 h2).mono (Same.refl _) (L2.same_new hp ob),.inl rfl,fun q z=>hn p (o.sub q p z) hp,o.dis,fun q b z=>.inr (o.sub q b z)⟩
theorem zDU(A:DA mg E t m n):DE mg E (tLst t) (Mi.eLst m) (n+1):=by
 intro G H σ ρ Q s w p;refine A.step errE s w p fun ds vs G1 H1 S T _ fr o p1=>?_
 by_cases hz:ds.length<=100000
 ·rw[if_pos hz]at p1;refine⟨by rw[o.len];exact big' hz,fun a ha=>?_⟩;exact p1 (.ref a) G1 _ _ (fr.add ha _) ⟨a,vs,T,rfl,zAQ,o.kids (fun b hb=>(fr.new b hb).2.2) ha _⟩
 ·rw[if_neg hz]at p1;exact p1.elim
theorem zOQ(A:DA mg E t m n):DE mg E (tTup t) (Mi.eTup m) (n+1):=by
 intro G H σ ρ Q s w p;refine A.step errE s w p fun ds vs G1 H1 S T _ fr o p1=>?_
 by_cases hz:ds.length<=100000
 ·rw[if_pos hz]at p1;refine⟨by rw[o.len];exact big' hz,fun a ha=>?_⟩;exact p1 (.ref a) G1 _ _ (fr.add ha _) ⟨a,vs,T,rfl,zAQ,o.kids (fun b hb=>(fr.new b hb).2.2) ha _⟩
 ·rw[if_neg hz]at p1;exact p1.elim
theorem PostE.lst{G H G' H':Hp}{ds:List Dt}{xs:List V}{Q:VK}(p:PostE mg E G H 1 (okR (.lst ds)) Q)(x:Ext G H G' H')(r:RepL G' ds xs){a:Addr}(ha:H' a=none):Q (.ref a) (upd H' a (.lst xs)):=by
 have fr:Fr G H G' H' (fun _=>False):=⟨x,fun _ z=>z.elim⟩
 refine p (.ref a) G' _ _ (fr.add ha (.lst xs)) ⟨a,xs,fun _ _=>False,rfl,zAQ,⟨r.length,fun q d y h1 h2=>zC4 r h1 h2,.inl rfl,fun _ z=>z,fun _ _ _ z=>z.elim,fun _ _ z=>z.elim⟩⟩
def CBi(r:List V->Hp->VK->Prop)(f:List Dt->Option Dt)(n:Nat):Prop:=∀(mg:Str->Option Value)(E:XK)(G H:Hp)(ds:List Dt)(vs:List V)(Q:VK),Same G H->RepL G ds vs->PostE mg E G H n (optR (f ds)) Q->r vs H Q
theorem zBP{r:List V->Hp->VK->Prop}{f:List Dt->Option Dt}(hr:CBi r f n)(A:DA mg E t m 0):DE mg E (tCB r t) (Mi.eBi f m) n:=by
 intro G H σ ρ Q s w p;refine A.step errE s w p fun ds vs G1 H1 S T _ fr o p1=>?_
 exact hr mg E G1 H1 ds vs Q fr.ext.in' o.repL (PostE.from p1 fr.ext)
def spM(mg:Str->Option Value)(L:Nat)(f:FM):Sp:=fun vs H Q E=>∃G ds,Same (tabK Kc.K) G/\Same G H/\RepL G ds vs/\PostE mg E G H L (f ds) Q
theorem zAV{f:FM}(A:DA mg E t m 0):DE mg E (zI4 (spM mg n f) [] E t) (Mi.eCall f m) n:=by
 intro G H σ ρ Q s w p;refine A.step errE s w p fun ds vs G1 H1 S T _ fr o p1=>?_
 exact⟨G1,ds,w.tab.trans fr.ext.g,fr.ext.in',by rw[qBh];exact o.repL,PostE.from p1 fr.ext⟩
theorem zJU{G H:Hp}{o:Option Dt}{Q:VK}{d:Dt}{v:V}(s:Same G H)(p:PostE mg E G H n (optR o) Q)(e:o=some d)(hd:d.dep=0)(h:Rep G d v):Q v H:=by
 subst e;exact PostE.val p (Ext.refl s) hd h
theorem zCU:ROp zNQ Mi.addD 1:=by
 intro mg E G H d e x y Q s h1 h2 p;cases d with
 |int i=>
  cases e with
  |int j=>cases(show x=.int i from h1);cases(show y=.int j from h2);exact zJU s p rfl rfl rfl
  |_=>exact p.elim
 |str i=>
  cases e with
  |str j=>
   cases(show x=.str i from h1);cases(show y=.str j from h2)
   rw[Mi.addD]at p;by_cases hz:i.length+j.length<=100000
   ·rw[if_pos hz]at p;exact⟨big' hz,PostE.val p (Ext.refl s) rfl rfl⟩
   ·rw[if_neg hz]at p;exact p.elim
  |_=>exact p.elim
 |lst ds=>
  cases e with
  |lst es=>
   obtain⟨a,xs,rfl,ha,ra⟩:=h1;obtain⟨b,ys,rfl,hb,rb⟩:=h2;rw[Mi.addD]at p;by_cases hz:ds.length+es.length<=100000
   ·rw[if_pos hz]at p;refine⟨xs,ys,s _ _ ha,s _ _ hb,by rw[ra.length,rb.length];exact big' hz,fun q hq=>?_⟩;refine PostE.lst p (Ext.refl s) (zDK (by simp[ra.length,rb.length]) fun j d' x' e1 e2=>?_) hq
    by_cases hj:j<ds.length
    ·rw[qA7 hj]at e1;rw[qA7 (by rw[ra.length];exact hj)]at e2;exact zC4 ra e1 e2
    ·rw[qA9 (by lia)]at e1;rw[qA9 (by rw[ra.length];lia),ra.length]at e2;exact zC4 rb e1 e2
   ·rw[if_neg hz]at p;exact p.elim
  |_=>exact p.elim
 |_=>exact p.elim
theorem zKU:ROp zNI Mi.subD n:=by
 intro mg E G H d e x y Q s h1 h2 p;cases d with
 |int i=>
  cases e with
  |int j=>cases(show x=.int i from h1);cases(show y=.int j from h2);exact zJU s p rfl rfl rfl
  |_=>exact p.elim
 |_=>exact p.elim
theorem zEU:ROp zNL Mi.mulD n:=by
 intro mg E G H d e x y Q s h1 h2 p;cases d with
 |int i=>
  cases e with
  |int j=>
   cases(show x=.int i from h1);cases(show y=.int j from h2)
   rw[Mi.mulD]at p;split at p
   ·rename_i hz;exact⟨hz,PostE.val p (Ext.refl s) rfl rfl⟩
   ·exact p.elim
  |_=>exact p.elim
 |_=>exact p.elim
theorem zDS:ROp zNN Mi.divD n:=by
 intro mg E G H d e x y Q s h1 h2 p;cases d with
 |int i=>
  cases e with
  |int j=>
   cases(show x=.int i from h1);cases(show y=.int j from h2)
   rw[Mi.divD]at p;split at p
   ·rename_i hz;exact⟨hz,PostE.val p (Ext.refl s) rfl rfl⟩
   ·exact p.elim
  |_=>exact p.elim
 |_=>exact p.elim
theorem zBU:ROp zNM Mi.modD n:=by
 intro mg E G H d e x y Q s h1 h2 p;cases d with
 |int i=>
  cases e with
  |int j=>
   cases(show x=.int i from h1);cases(show y=.int j from h2)
   rw[Mi.modD]at p;split at p
   ·rename_i hz;exact⟨hz,PostE.val p (Ext.refl s) rfl rfl⟩
   ·exact p.elim
  |_=>exact p.elim
 |_=>exact p.elim
theorem zNF:ROp1 zNK Mi.negD n:=by
 intro mg E G H d x Q s h1 p;cases d with
 |int i=>cases(show x=.int i from h1);exact zJU s p rfl rfl rfl
 |_=>exact p.elim
theorem zCI{q:Int->Int->Bool}:ROp (zJV q) (Mi.cmpD q) n:=by
 intro mg E G H d e x y Q s h1 h2 p;cases d with
 |int i=>
  cases e with
  |int j=>cases(show x=.int i from h1);cases(show y=.int j from h2);exact zJU s p rfl rfl rfl
  |_=>exact p.elim
 |_=>exact p.elim
theorem zL6{G H:Hp}{d e:Dt}{x y:V}{Q:VK}{ng:Bool}(s:Same G H)(h1:Rep G d x)(h2:Rep G e y)(hd:d.dep<=40)(he:e.dep<=40)(q:Q (.bl (if ng then !Dt.eq d e else Dt.eq d e)) H) :
  ∃d' e',L2.Rep H d' x/\L2.Rep H e' y/\d'.dep<=40/\Q (.bl (if ng then !L2.Dat.eq d' e' else L2.Dat.eq d' e')) H:=
 ⟨conv d,conv e,zFF hd (Rep.mono s h1),zFF he (Rep.mono s h2),qAg (zHC hd) hd,by rw[zJC hd he];exact q⟩
theorem zDP{α:Type}[DecidableEq α](a b:α):(a==b)=decide (a=b):=by
 by_cases h:a=b
 ·subst h;simp
 ·simp[h]
theorem zF1{G:Hp}{d:Dt}{i:Int}(h:Rep G d (.int i)):d=.int i:=by
 cases d with
 |int k=>cases h;rfl
 |non=>cases h
 |bl _=>cases h
 |str _=>cases h
 |lst _=>obtain⟨_,_,z,_⟩:=h;cases z
 |tup _=>obtain⟨_,_,z,_⟩:=h;cases z
 |scr _=>obtain⟨_,z,_⟩:=h;cases z
 |exc _ _ _=>obtain⟨_,_,_,z,_⟩:=h;cases z
 |fn _ _=>obtain⟨_,z,_⟩:=h;cases z
 |dsk _ _=>obtain⟨_,z,_⟩:=h;cases z
 |fnc _=>obtain⟨_,z,_⟩:=h;cases z
 |dtt _ _=>obtain⟨_,_,_,_,z,_⟩:=h;cases z
 |loc _ _=>obtain⟨z,_⟩:=h;cases z
 |ins _ _=>obtain⟨_,_,_,z,_⟩:=h;cases z
 |dct _=>obtain⟨_,z,_⟩:=h;cases z
theorem zF0{G:Hp}{d:Dt}{i:Str}(h:Rep G d (.str i)):d=.str i:=by
 cases d with
 |str k=>cases h;rfl
 |non=>cases h
 |bl _=>cases h
 |int _=>cases h
 |lst _=>obtain⟨_,_,z,_⟩:=h;cases z
 |tup _=>obtain⟨_,_,z,_⟩:=h;cases z
 |scr _=>obtain⟨_,z,_⟩:=h;cases z
 |exc _ _ _=>obtain⟨_,_,_,z,_⟩:=h;cases z
 |fn _ _=>obtain⟨_,z,_⟩:=h;cases z
 |dsk _ _=>obtain⟨_,z,_⟩:=h;cases z
 |fnc _=>obtain⟨_,z,_⟩:=h;cases z
 |dtt _ _=>obtain⟨_,_,_,_,z,_⟩:=h;cases z
 |loc _ _=>obtain⟨z,_⟩:=h;cases z
 |ins _ _=>obtain⟨_,_,_,z,_⟩:=h;cases z
 |dct _=>obtain⟨_,z,_⟩:=h;cases z
theorem zH3{G:Hp}{d:Dt}{i:Bool}(h:Rep G d (.bl i)):d=.bl i:=by
 cases d with
 |bl k=>cases h;rfl
 |non=>cases h
 |str _=>cases h
 |int _=>cases h
 |lst _=>obtain⟨_,_,z,_⟩:=h;cases z
 |tup _=>obtain⟨_,_,z,_⟩:=h;cases z
 |scr _=>obtain⟨_,z,_⟩:=h;cases z
 |exc _ _ _=>obtain⟨_,_,_,z,_⟩:=h;cases z
 |fn _ _=>obtain⟨_,z,_⟩:=h;cases z
 |dsk _ _=>obtain⟨_,z,_⟩:=h;cases z
 |fnc _=>obtain⟨_,z,_⟩:=h;cases z
 |dtt _ _=>obtain⟨_,_,_,_,z,_⟩:=h;cases z
 |loc _ _=>obtain⟨z,_⟩:=h;cases z
 |ins _ _=>obtain⟨_,_,_,z,_⟩:=h;cases z
 |dct _=>obtain⟨_,z,_⟩:=h;cases z
theorem zD6:ROp rEqU Mi.eqD n:=by
 intro mg E G H d e x y Q s h1 h2 p;unfold Mi.eqD at p;split at p
 ·rename_i hz
  have q:Q (.bl (Dt.eq d e)) H:=PostE.val p (Ext.refl s) rfl rfl;have g:=zL6 (ng:=false) (Q:=Q) s h1 h2 hz.1 hz.2 q;unfold rEqU;split
  ·rw[zF1 h1,zF1 h2,Dt.eq,zDP]at q;exact q
  ·rw[zF0 h1,zF0 h2,Dt.eq,zDP]at q;exact q
  ·rw[zH3 h1,zH3 h2,Dt.eq,zDP]at q;exact q
  ·exact g
 ·exact p.elim
theorem zLR:ROp rNeU Mi.neD n:=by
 intro mg E G H d e x y Q s h1 h2 p;unfold Mi.neD at p;split at p
 ·rename_i hz
  have q:Q (.bl (!Dt.eq d e)) H:=PostE.val p (Ext.refl s) rfl rfl;have g:=zL6 (ng:=true) (Q:=Q) s h1 h2 hz.1 hz.2 q;unfold rNeU;split
  ·rw[zF1 h1,zF1 h2,Dt.eq,zDP]at q;exact q
  ·rw[zF0 h1,zF0 h2,Dt.eq,zDP]at q;exact q
  ·rw[zH3 h1,zH3 h2,Dt.eq,zDP]at q;exact q
  ·exact g
 ·exact p.elim
theorem zH9(n:Nat)(i:Int):Mi.ixA n i=ixN n i:=rfl
theorem zFZ{α:Type}(xs:List α)(i:Int):Mi.itA xs i=atI xs i:=rfl
theorem zLG{G:Hp}{ds:List Dt}{xs:List V}{i:Int}{d:Dt}(r:RepL G ds xs)(h:Mi.itA ds i=some d):∃x,atI xs i=some x/\Rep G d x:=by
 rw[zFZ]at h;unfold atI at h ⊢;rw[r.length];cases e:ixN ds.length i with
 |none=>rw[e]at h;cases h
 |some j=>
  rw[e]at h;have h':ds[j]?=some d:=h;have hj:j<xs.length:=by rw[r.length];exact(qA2.mp h').1
  exact⟨xs[j],by simp[hj],zC4 r h' (by simp[hj])⟩
theorem zC3:ROp (rIxU Kc.K) Mi.ixD 0:=by
 intro mg E G H d e x y Q s h1 h2 p;cases e with
 |int i=>
  cases(show y=.int i from h2)
  cases d with
  |lst ds=>
   obtain⟨a,xs,rfl,ha,ra⟩:=h1;cases er:Mi.itA ds i with
   |none=>rw[Mi.ixD,er]at p;exact p.elim
   |some c=>
    rw[Mi.ixD,er]at p;obtain⟨v,e1,r1⟩:=zLG ra er;exact⟨xs,v,.inl (SqL.of (s _ _ ha)),e1,PostE.kept p (Ext.refl s) r1⟩
  |tup ds=>
   obtain⟨a,xs,rfl,ha,ra⟩:=h1;cases er:Mi.itA ds i with
   |none=>rw[Mi.ixD,er]at p;exact p.elim
   |some c=>
    rw[Mi.ixD,er]at p;obtain⟨v,e1,r1⟩:=zLG ra er;exact⟨xs,v,.inr (SqT.of (s _ _ ha)),e1,PostE.kept p (Ext.refl s) r1⟩
  |scr ns=>
   obtain⟨a,rfl,ha⟩:=h1;cases er:Mi.itA ns i with
   |none=>rw[Mi.ixD,er]at p;exact p.elim
   |some c=>
    rw[Mi.ixD,er]at p;refine⟨ns.map V.int,.int c,(zE4 s ha).old,?_,PostE.kept p (Ext.refl s) rfl⟩;rw[zFZ]at er;unfold atI at er ⊢;rw[qB0];cases e:ixN ns.length i with
    |none=>rw[e]at er;cases er
    |some j=>
     rw[e]at er;have er':ns[j]?=some c:=er;show(ns.map V.int)[j]?=some (.int c);rw[qAf,er'];rfl
  |str z=>
   cases(show x=.str z from h1)
   rw[Mi.ixD]at p;by_cases hz:z.length<=100000
   ·rw[if_pos hz]at p;cases er:Mi.itA z.cps.toList i with
    |none=>rw[er]at p;exact p.elim
    |some c=>rw[er]at p;exact⟨c,big' hz,er,PostE.kept p (Ext.refl s) rfl⟩
   ·rw[if_neg hz]at p;exact p.elim
  |_=>exact p.elim
 |_=>cases d<;>exact p.elim
theorem zE5{G:Hp}{d:Dt}{vs:List V}(h:RepL G [d] vs):∃x,vs=[x]/\Rep G d x:=by
 obtain⟨x,q,rfl,a,b⟩:=h;cases(show q=[] from b)
 exact⟨x,rfl,a⟩
theorem zPB{G:Hp}{d e:Dt}{vs:List V}(h:RepL G [d,e] vs):∃x y,vs=[x,y]/\Rep G d x/\Rep G e y:=by
 obtain⟨x,q,rfl,a,b⟩:=h;obtain⟨y,rfl,c⟩:=zE5 b;exact⟨x,y,rfl,a,c⟩
theorem zCH:CBi (zLS Kc.K) Mi.lenD n:=by
 intro mg E G H ds vs Q s h p;cases ds with
 |nil=>exact p.elim
 |cons a0 r0=>
  cases r0 with
  |cons _ _=>cases a0<;>exact p.elim
  |nil=>
   cases a0 with
   |lst es=>
    obtain⟨x,rfl,a,xs,rfl,ha,ra⟩:=zE5 h;exact⟨xs,.inl (SqL.of (s _ _ ha)),by rw[ra.length];exact PostE.val p (Ext.refl s) rfl rfl⟩
   |tup es=>
    obtain⟨x,rfl,a,xs,rfl,ha,ra⟩:=zE5 h;exact⟨xs,.inr (SqT.of (s _ _ ha)),by rw[ra.length];exact PostE.val p (Ext.refl s) rfl rfl⟩
   |scr ns=>
    obtain⟨x,rfl,a,rfl,ha⟩:=zE5 h;refine⟨ns.map V.int,(zE4 s ha).old,?_⟩;rw[qB0];exact PostE.val p (Ext.refl s) rfl rfl
   |str z=>
    obtain⟨x,rfl,hx⟩:=zE5 h;cases(show x=.str z from hx)
    rw[Mi.lenD]at p;by_cases hz:z.length<=100000
    ·rw[if_pos hz]at p;exact⟨big' hz,PostE.val p (Ext.refl s) rfl rfl⟩
    ·rw[if_neg hz]at p;exact p.elim
   |_=>exact p.elim
theorem zCJ{G:Hp}:∀(ns:List Int),RepL G (ns.map Dt.int) (ns.map V.int)
 |[]=>rfl
 |_::r=>⟨_,_,rfl,rfl,zCJ r⟩
theorem zN2{G H:Hp}{d:Dt}{x:V}(s:Same G H)(h:Rep G d x)(hd:Mi.tyD d ≠ ""):zDR H x=some (Mi.tyD d):=by
 cases d with
 |non=>cases h;rfl
 |bl _=>cases h;rfl
 |int _=>cases h;rfl
 |str _=>cases h;rfl
 |lst _=>obtain⟨a,xs,rfl,ha,_⟩:=h;unfold zDR;dsimp only;rw[s _ _ ha];rfl
 |tup _=>obtain⟨a,xs,rfl,ha,_⟩:=h;unfold zDR;dsimp only;rw[s _ _ ha];rfl
 |scr _=>exact absurd rfl hd
 |exc _ _ _=>exact absurd rfl hd
 |fn _ _=>exact absurd rfl hd
 |dsk _ _=>exact absurd rfl hd
 |fnc _=>exact absurd rfl hd
 |dtt _ _=>exact absurd rfl hd
 |loc _ _=>exact absurd rfl hd
 |ins _ _=>exact absurd rfl hd
 |dct _=>exact absurd rfl hd
theorem zEH{nm:String}(hn:nm∈["int","bool","str","list","tuple","dict"])(A:DE mg E ta ma k):DE mg E (tCB zLT (zD5 ta (zD5 (tC (.ty nm)) tNil))) (Mi.eIsi nm ma) n:=by
 intro G H σ ρ Q s w p;refine(zAM A).step errE s w p fun d v G1 H1 S _ fr o p1=>?_
 have p2:=PostE.from p1 fr.ext;unfold Mi.isiD at p2
 split at p2
 ·exact p2.elim
 ·rename_i hd
  exact⟨Mi.tyD d,zN2 fr.ext.in' o hd,hn,PostE.val p2 (Ext.refl fr.ext.in') rfl rfl⟩
theorem zEK{G:Hp}:∀{ds:List Dt}{bs:List Bool}{xs:List V},Mi.boolsD ds=some bs->RepL G ds xs->xs=bs.map V.bl
 |[],bs,xs,h,r=>by cases h;exact r
 |.bl b::ds,bs,xs,h,r=>by
  obtain⟨x,q,rfl,a,c⟩:=r;rw[Mi.boolsD]at h;cases e:Mi.boolsD ds with
  |none=>rw[e]at h;cases h
  |some cs=>
   rw[e]at h;cases h;rw[zEK e c,show x=.bl b from a];rfl
 |.non::_,_,_,h,_=>by simp[Mi.boolsD]at h
 |.int _::_,_,_,h,_=>by simp[Mi.boolsD]at h
 |.str _::_,_,_,h,_=>by simp[Mi.boolsD]at h
 |.lst _::_,_,_,h,_=>by simp[Mi.boolsD]at h
 |.tup _::_,_,_,h,_=>by simp[Mi.boolsD]at h
 |.scr _::_,_,_,h,_=>by simp[Mi.boolsD]at h
 |.exc _ _ _::_,_,_,h,_=>by simp[Mi.boolsD]at h
 |.fn _ _::_,_,_,h,_=>by simp[Mi.boolsD]at h
 |.dsk _ _::_,_,_,h,_=>by simp[Mi.boolsD]at h
 |.fnc _::_,_,_,h,_=>by simp[Mi.boolsD]at h
 |.dtt _ _::_,_,_,h,_=>by simp[Mi.boolsD]at h
 |.loc _ _::_,_,_,h,_=>by simp[Mi.boolsD]at h
 |.ins _ _::_,_,_,h,_=>by simp[Mi.boolsD]at h
 |.dct _::_,_,_,h,_=>by simp[Mi.boolsD]at h
theorem zG3:CBi zNP Mi.allD n:=by
 intro mg E G H ds vs Q s h p;cases ds with
 |nil=>exact qA4 p
 |cons hd1 tl1=>
  cases hd1 with
  |lst es=>
   cases tl1 with
   |nil=>
    obtain⟨x,rfl,a,xs,rfl,ha,ra⟩:=zE5 h;rw[Mi.allD]at p;cases e:Mi.boolsD es with
    |none=>rw[e]at p;exact p.elim
    |some bs=>
     rw[e]at p;exact⟨bs,by rw[<- zEK e ra];exact s _ _ ha,PostE.val p (Ext.refl s) rfl rfl⟩
   |cons _ _=>exact qA4 p
  |_=>exact qA4 p
theorem zLF:CBi zNO Mi.anyD n:=by
 intro mg E G H ds vs Q s h p;cases ds with
 |nil=>exact qA4 p
 |cons hd1 tl1=>
  cases hd1 with
  |lst es=>
   cases tl1 with
   |nil=>
    obtain⟨x,rfl,a,xs,rfl,ha,ra⟩:=zE5 h;rw[Mi.anyD]at p;cases e:Mi.boolsD es with
    |none=>rw[e]at p;exact p.elim
    |some bs=>
     rw[e]at p;exact⟨bs,by rw[<- zEK e ra];exact s _ _ ha,PostE.val p (Ext.refl s) rfl rfl⟩
   |cons _ _=>exact qA4 p
  |_=>exact qA4 p
end
section
variable[Kc]
def ItOk(J:It)(G:Hp)(ds:List Dt):Prop:=∀(i:Nat)(G1 H1:Hp),Same G G1->Same G1 H1->(i<ds.length->J.go i H1)/\(ds.length<=i->J.stop i H1)/\∀x H2 d,ds[i]?=some d->J.yld i H1 x H2->∃G2,Ext G1 H1 G2 H2/\Rep G2 d x
noncomputable def zJI(ind:Bool)(G:Hp):Hp:=if ind=true then(fun _=>none)else G
def zOW(mg:Str->Option Value)(E:XK)(G H:Hp)(ind:Bool)(r:R (List Dt))(Q:It->Hp->Prop):Prop:=match r with
 |none=>False
 |some (.error x)=>∀c da G' H',Ext G H G' H'->XRep mg x c da G' H'->E c da H'
 |some (.ok ds)=>∀J G' H',Ext G H G' H'->ItOk J (zJI ind G') ds->Q J H'
def DI(mg:Str->Option Value)(E:XK)(t:TI)(m:IM)(ind:Bool):Prop:=∀(G H:Hp)(σ:St)(ρ:Rh)(Q:It->Hp->Prop),Same G H->View G σ ρ->zOW mg E G H ind (m ρ) Q->t σ H Q
section
variable{mg:Str->Option Value}{E:XK}{n k l:Nat}{ta te:TE}{ma me:EM}{t:TA}{m:AM}{ind:Bool}
theorem errI{G H:Hp}{Q:It->Hp->Prop}:Err mg E G H (fun r=>zOW mg E G H ind r Q):=⟨fun h=>h,fun _ h=>h⟩
theorem errB{G H:Hp}{α β:Type}{P:R β->Prop}(e:Err mg E G H P)(g:α->R β):Err mg E G H (fun r=>P (zA2 r g)):=⟨fun h=>e.no h,fun x h=>e.er x h⟩
theorem DI.step{β:Type}{t:TI}{m:IM}(D:DI mg E t m ind){G H:Hp}{σ:St}{ρ:Rh}{Q:It->Hp->Prop}{P:R β->Prop}{f:List Dt->R β}(hE:Err mg E G H P)(s:Same G H)(w:View G σ ρ)(p:P (zA2 (m ρ) f))
  (h:∀ds J G' H',m ρ=okR ds->Ext G H G' H'->ItOk J (zJI ind G') ds->P (f ds)->Q J H'):t σ H Q:=by
 refine D G H σ ρ Q s w ?_;cases e:m ρ with
 |none=>rw[e]at p;exact hE.no p
 |some r=>
  rw[e]at p;cases r with
  |error x=>exact hE.er x p
  |ok ds=>exact fun J G' H' x i=>h ds J G' H' e x i p
theorem zL3{K:qA0}{G:Hp}{a:Addr}{xs:List V}{ds:List Dt}(ha:SqL K G a xs)(r:RepL G ds xs):ItOk (Itl K a) G ds:=by
 intro i G1 H1 s1 s2;have hS:SqL K H1 a xs:=(s1.trans s2).seq ha;refine⟨fun hi=>⟨xs,xs[i]'(by rw[r.length];exact hi),hS,by simp⟩,fun hi=>⟨xs,hS,by rw[r.length];exact hi⟩,fun x H2 d hd hy=>?_⟩;obtain⟨rfl,hy⟩:=hy;exact⟨G1,Ext.refl s2,Rep.mono s1 (zC4 r hd (hy xs hS))⟩
theorem zL2{K:qA0}{G:Hp}{a:Addr}{xs:List V}{ds:List Dt}(ha:SqT K G a xs)(r:RepL G ds xs):ItOk (Itt K a) G ds:=by
 intro i G1 H1 s1 s2;have hS:SqT K H1 a xs:=zFS (s1.trans s2) ha;refine⟨fun hi=>⟨xs,xs[i]'(by rw[r.length];exact hi),hS,by simp⟩,fun hi=>⟨xs,hS,by rw[r.length];exact hi⟩,fun x H2 d hd hy=>?_⟩;obtain⟨rfl,hy⟩:=hy;exact⟨G1,Ext.refl s2,Rep.mono s1 (zC4 r hd (hy xs hS))⟩
theorem zOF{G:Hp}(lo:Int)(k:Nat):ItOk (Itr lo k) G (Mi.nums lo k):=by
 intro i G1 H1 s1 s2;have hl:(Mi.nums lo k).length=k:=by simp[Mi.nums]
 refine⟨fun hi=>by rw[hl]at hi;exact hi,fun hi=>by rw[hl]at hi;exact hi,fun x H2 d hd hy=>?_⟩;obtain⟨rfl,rfl⟩:=hy;refine⟨G1,Ext.refl s2,?_⟩;unfold Mi.nums at hd;rw[qAf]at hd;cases e:(qA5 k)[i]? with
 |none=>rw[e]at hd;cases hd
 |some j=>
  rw[e]at hd;cases hd;have hj:j=i:=by
   obtain⟨h1,h2⟩:=qA2.mp e;rw[qBj]at h2;exact h2.symm
  subst hj;rfl
theorem zD8(A:DA mg E t m 0):DI mg E (zOG t) (Mi.iR1 m) true:=by
 intro G H σ ρ Q s w p;refine A.step errI s w p fun ds vs G1 H1 S T _ fr o p1=>?_
 have r:=o.repL;cases ds with
 |nil=>exact qA4 p1
 |cons hd1 tl1=>
  cases hd1 with
  |int j=>
   cases tl1 with
   |nil=>
    obtain⟨x,rfl,hx⟩:=zE5 r;cases(show x=.int j from hx)
    dsimp only at p1;split at p1
    ·rename_i hz
     exact⟨j,rfl,by lia,by lia,p1 _ G1 H1 fr.ext (zOF 0 _)⟩
    ·exact p1.elim
   |cons _ _=>exact qA4 p1
  |_=>exact qA4 p1
noncomputable def zEM:St->List (Nat×V)->St
 |σ,[]=>σ
 |σ,(i,v)::r=>zEM (σ.set i (some v)) r
inductive BsRep(G:Hp):List (Nat×Dt)->List (Nat×V)->Prop
 |nil:BsRep G [] []
 |cons {i d v bs ws}:Rep G d v->BsRep G bs ws->BsRep G ((i,d)::bs) ((i,v)::ws)
theorem View.set{G:Hp}{σ:St}{ρ:Rh}{i:Nat}{d:Dt}{v:V}(w:View G σ ρ)(r:Rep G d v):View G (σ.set i (some v)) (ρ.set i (some d)):=by
 refine⟨by simp[w.len],fun j e h=>?_,w.tab⟩;have hj:j<ρ.length:=by
  have:=(qA2.mp h).1;simpa using this
 by_cases z:i=j
 ·subst z;rw[qAe hj]at h;cases h;exact⟨v,qAe (by rw[<- w.len];exact hj),r⟩
 ·rw[qAj z]at h;obtain⟨u,h1,h2⟩:=w.at j e h;exact⟨u,by rw[qAj z];exact h1,h2⟩
theorem View.sets{G:Hp}{bs ws}(h:BsRep G bs ws):∀{σ:St}{ρ:Rh},View G σ ρ->View G (zEM σ ws) (zAI ρ bs):=by
 induction h with
 |nil=>exact fun w=>w
 |cons r _ ih=>exact fun w=>ih (w.set r)
def TgOk(g:TG)(tg:Tg):Prop:=∀(G H:Hp)(σ:St)(d:Dt)(x:V)(bs:List (Nat×Dt))(Q:St->Hp->Prop),Same G H->Rep G d x->zAJ tg d=some bs->(∀ws,BsRep G bs ws->Q (zEM σ ws) H)->g x σ H Q
theorem zAY(i:Nat):TgOk (zGR i) (.one i):=by
 intro G H σ d x bs Q s r e h;cases e;exact h [(i,x)] (.cons r .nil)
theorem zFR:∀(ws:List (Nat×V))(σ own:St),(∀p∈ws,σ.length<=p.1)->∃own':St,own'.length=own.length/\zEM (σ++own) ws=σ++own'
 |[],σ,own,_=>⟨own,rfl,rfl⟩
 |(i,v)::r,σ,own,h=>by
  have hi:σ.length<=i:=h (i,v) (by simp);rw[zEM,List.set_append_right _ _ hi];obtain⟨o,h1,h2⟩:=zFR r σ (own.set (i-σ.length) (some v)) fun p hp=>h p (by simp[hp])
  exact⟨o,by rw[h1,qDj],h2⟩
theorem BsRep.idx{G:Hp}{bs ws}(h:BsRep G bs ws):ws.map (·.1)=bs.map (·.1):=by
 induction h with
 |nil=>rfl
 |cons _ _ ih=>simp[ih]
theorem zJH{tg:Tg}{d:Dt}{bs:List (Nat×Dt)}(h:zAJ tg d=some bs):∀i∈bs.map (·.1),i∈tg.idx:=by
 cases tg with
 |one i=>cases h;simp[Tg.idx]
 |tup is=>
  cases d with
  |tup ds=>
   rw[zAJ]at h;split at h
   ·cases h;intro i hi;obtain⟨p,hp,e⟩:=qAq.mp hi;rw[<- e];obtain⟨a,b⟩:=p;exact(qBz hp).1
   ·cases h
  |_=>simp[zAJ]at h
theorem zB5{wi:TI}{g:TG}{tif:TT}{it:IM}{tg:Tg}{c:TM}(I:DI mg E wi it ind)(hT:TgOk g tg)(C:DT mg E tif c)(B:DE mg E te me n):DE mg E (zN6 wi k g tif te) (Mi.eComp it k tg c me) (n+1):=by
 intro G H σ ρ Q s w p;refine I.step errE s w p fun ds J G1 H1 _ x1 io p1=>?_
 by_cases hz:ds.length<=100000/\(tg.idx.all fun i=>decide (ρ.length<=i))=true
 case neg=>rw[if_neg hz]at p1;exact p1.elim
 rw[if_pos hz]at p1;obtain⟨hz,hix⟩:=hz;have hb1:Same (zJI ind G1) G1:=by
  unfold zJI;split
  ·exact fun b o e=>by cases e
  ·exact Same.refl _
 refine⟨fun i m acc H'=>m=ds.length-i/\i<=ds.length/\∃G' as S T,Fr G H G' H' S/\Same G1 G'/\OwnA G' H' n S as acc T/\as.length<=i/\PostE mg E G H (n+1) (zA2 (Mi.compGo ρ k tg c me (ds.drop i) as) fun es=>okR (.lst es)) Q,
  ⟨_,rfl,qA8 _,G1,[],fun _=>False,fun _ _=>False,⟨x1,fun _ z=>z.elim⟩,Same.refl _,⟨rfl,fun q d x h=>by simp at h,fun _ _ _ z=>z.elim,fun _ _ z=>z.elim⟩,qAa _,by rw[qDz];exact p1⟩,?_⟩
 rintro i m acc H' ⟨rfl,hi,G',as,S,T,fr,sg,o,hl,p⟩
 obtain⟨j1,j2,j3⟩:=io i G' H' (hb1.trans sg) fr.ext.in';by_cases hlt:i<ds.length
 ·refine .inr ⟨j1 hlt,by rw[o.len];exact L2.big (by lia),fun acc' H''=>ds.length-(i+1)=ds.length-(i+1)/\i+1<=ds.length/\∃G' as S T,Fr G H G' H'' S/\Same G1 G'/\OwnA G' H'' n S as acc' T/\as.length<=i+1/\PostE mg E G H (n+1) (zA2 (Mi.compGo ρ k tg c me (ds.drop (i+1)) as) fun es=>okR (.lst es)) Q,
   fun acc' H'' q=>⟨ds.length-(i+1),by lia,q⟩,fun x H2 hy=>?_⟩
  have hd:ds[i]?=some ds[i]:=qAh hlt;obtain⟨G2,x2,r2⟩:=j3 x H2 ds[i] hd hy;rw[qC4 hlt,Mi.compGo]at p;cases eb:zAJ tg ds[i]with
  |none=>rw[eb]at p;exact p.elim
  |some bs=>
   rw[eb]at p;dsimp only at p;refine hT G2 H2 _ _ x bs _ x2.in' r2 eb fun ws hb=>?_
   have hsl:∀q∈ws,σ.length<=q.1:=fun q hq=>by
    have h1:q.1∈bs.map (·.1):=by rw[<- hb.idx];exact List.mem_map_of_mem hq
    have h2:=qAx.mp hix q.1 (zJH eb q.1 h1);rw[<- w.len];exact of_decide_eq_true h2
   obtain⟨own,ho1,ho2⟩:=zFR ws σ (qAb k none) hsl;refine⟨own,by rw[ho1,qBq],ho2,?_⟩;have x02:=fr.ext.trans x2;have w2:View G2 (zEM (σ++qAb k none) ws) (zAI (ρ++qAb k none) bs):=by
    refine View.sets hb ⟨by simp[w.len],fun j d h=>?_,w.tab.trans x02.g⟩
    by_cases hj:j<ρ.length
    ·rw[qA7 hj]at h;obtain⟨v,a,b⟩:=w.at j d h;exact⟨v,by rw[qA7 (by rw[<- w.len];exact hj)];exact a,Rep.mono x02.g b⟩
    ·rw[qA9 (by lia),qAv]at h
     split at h<;>cases h
   refine C.step ((errB errE _).from x02) x2.in' w2 p fun b H3 _ s3 p3=>?_
   have x3:Ext G2 H2 G2 H3:=Ext.same x2.in' s3;have x03:=x02.trans x3;have newS:∀a,S a->H a=none/\G2 a=none/\H3 a≠none:=fun a ha=>by
    obtain⟨n1,n2,n3⟩:=fr.new a ha;exact⟨n1,(x2.old a n3).trans n2,s3.some (x2.h.some n3)⟩
   have own3:OwnA G2 H3 n S as acc T:=⟨o.len,fun q d y h1 h2=>(o.own q d y h1 h2).mono x2.g (x2.h.trans s3),o.dis,o.sub⟩
   cases b with
   |false=>exact⟨rfl,hlt,G2,as,S,T,⟨x03,newS⟩,sg.trans x2.g,own3,by lia,p3⟩
   |true=>
    refine B.step ((errB errE _).from x03) x3.in' w2 p3 fun e v G4 H4 S4 _ fr4 o4 p4=>?_
    have ap:∀q b,T q b->S4 b->False:=fun q b h1 h2=>(newS b (o.sub q b h1)).2.2 (fr4.new b h2).1
    refine⟨rfl,hlt,G4,as++[e],fun a=>S a\/S4 a,fun q b=>(q<as.length/\T q b)\/(q=as.length/\S4 b),⟨x03.trans fr4.ext,fun a ha=>?_⟩,sg.trans (x2.g.trans fr4.ext.g),⟨by simp[o.len],fun q d y h1 h2=>?_,fun q r b h1 h2=>?_,fun q b h=>?_⟩,by simp;lia,p4⟩
    ·rcases ha with ha|ha
     ·obtain⟨n1,n2,n3⟩:=newS a ha;exact⟨n1,(fr4.ext.old a n3).trans n2,fr4.ext.h.some n3⟩
     ·obtain⟨n1,n2,n3⟩:=fr4.new a ha;exact⟨x03.h.free n1,n2,n3⟩
    ·by_cases hq:q<as.length
     ·rw[qA7 hq]at h1;rw[qA7 (by rw[o.len];exact hq)]at h2;exact((own3.own q d y h1 h2).mono fr4.ext.g fr4.ext.h).sub fun b z=>.inl ⟨hq,z⟩
     ·rw[qA9 (by lia)]at h1;rw[qA9 (by rw[o.len];lia),o.len]at h2;have hq0:q-as.length=0:=by
       have:=(qA2.mp h1).1;simp at this;lia
      rw[hq0]at h1 h2;simp at h1 h2;subst h1;subst h2;exact o4.sub fun b z=>.inr ⟨by lia,z⟩
    ·rcases h1 with⟨a1,t1⟩|⟨a1,t1⟩<;>rcases h2 with⟨a2,t2⟩|⟨a2,t2⟩
     ·exact o.dis q r b t1 t2
     ·exact(ap q b t1 t2).elim
     ·exact(ap r b t2 t1).elim
     ·lia
    ·rcases h with⟨_,z⟩|⟨_,z⟩
     ·exact .inl (o.sub q b z)
     ·exact .inr z
 ·have e:i=ds.length:=by lia
  subst e;refine .inl ⟨j2 (qAa _),fun D hD=>?_⟩;rw[qDf,Mi.compGo]at p;exact p (.ref D) G' _ _ (fr.add hD _) ⟨D,acc,T,rfl,zAQ,o.kids (fun b hb=>(fr.new b hb).2.2) hD _⟩
end
end
section
variable[Kc]
structure Sat(G0 H0 S0:Hp)(σ:St)(ρ:Ro)(G H:Hp)(As:Nat->Addr->Prop):Prop where
 ext:Ext G0 H0 G H
 stb:Same S0 G
 tab:Same (tabK Kc.K) G0
 len:ρ.length=σ.length
 «at»:∀(i:Nat)(d:Dt)(n:Nat),ρ[i]?=some (some (d,n))->∃v,σ[i]?=some (some v)/\Own G H n (As i) d v
 dis:∀i j a,As i a->As j a->i=j
 new:∀i a,As i a->H0 a=none/\G a=none/\H a≠none
section
variable{G0 H0 S0:Hp}{σ:St}{ρ:Ro}{G H:Hp}{As:Nat->Addr->Prop}
theorem Sat.grow(a:Sat G0 H0 S0 σ ρ G H As){H':Hp}(s:Same H H'):Sat G0 H0 S0 σ ρ G H' As:=
 ⟨a.ext.trans (Ext.same a.ext.in' s),a.stb,a.tab,a.len,fun i d n e=>let⟨v,h1,h2⟩:=a.at i d n e;⟨v,h1,h2.mono (Same.refl _) s⟩,a.dis,fun i b h=>let⟨n1,n2,n3⟩:=a.new i b h;⟨n1,n2,s.some n3⟩⟩
theorem Sat.wider(a:Sat G0 H0 S0 σ ρ G H As){G' H':Hp}(x:Ext G H G' H'):Sat G0 H0 S0 σ ρ G' H' As:=
 ⟨a.ext.trans x,a.stb.trans x.g,a.tab,a.len,fun i d n e=>let⟨v,h1,h2⟩:=a.at i d n e;⟨v,h1,h2.mono x.g x.h⟩,a.dis,fun i b h=>let⟨n1,n2,n3⟩:=a.new i b h;⟨n1,(x.old b n3).trans n2,x.h.some n3⟩⟩
theorem Sat.full(a:Sat G0 H0 S0 σ ρ G H As):∃J,Ext G0 H0 J H/\Same G J/\View J σ (full ρ):=by
 obtain⟨s1,s2⟩:=zDB (S:=fun b=>∃i,As i b) a.ext.in';refine⟨over G H fun b=>∃i,As i b,⟨a.ext.g.trans s1,a.ext.h,s2,fun b hb=>?_⟩,s1,by simp[Mi.full,a.len],fun i d e=>?_,a.tab.trans (a.ext.g.trans s1)⟩
 ·have z:¬ ∃i,As i b:=fun⟨i,z⟩=>hb (a.new i b z).1
  rw[zCB z];exact a.ext.old b hb
 ·unfold Mi.full at e;rw[qAf]at e;cases e1:ρ[i]? with
  |none=>rw[e1]at e;cases e
  |some o=>
   rw[e1]at e;cases o with
   |none=>cases e
   |some sl=>
    obtain⟨d',n⟩:=sl;cases e;obtain⟨v,h1,h2⟩:=a.at i _ n e1;exact⟨v,h1,h2.rep s1 fun b o hb e=>by rw[zDL ⟨i,hb⟩];exact e⟩
theorem Sat.put(a:Sat G0 H0 S0 σ ρ G H As){i n:Nat}{d:Dt}{v:V}{S:Addr->Prop}(o:Own G H n S d v)(hS:∀b,S b->H0 b=none/\G b=none/\H b≠none)(hd:∀j b,j≠i->As j b->S b->False) :
  Sat G0 H0 S0 (σ.set i (some v)) (ρ.set i (some (d,n))) G H (fun j=>if j=i then S else As j):=by
 refine⟨a.ext,a.stb,a.tab,by simp[a.len],fun j e k h=>?_,fun j l b h1 h2=>?_,fun j b h=>?_⟩
 ·have hj:j<ρ.length:=by
   have:=(qA2.mp h).1;simpa using this
  by_cases z:i=j
  ·subst z;rw[qAe hj]at h;cases h;exact⟨v,qAe (by rw[<- a.len];exact hj),by rw[if_pos rfl];exact o⟩
  ·rw[qAj z]at h;obtain⟨u,h1,h2⟩:=a.at j e k h;exact⟨u,by rw[qAj z];exact h1,by rw[if_neg (fun q=>z q.symm)];exact h2⟩
 ·try dsimp only at h1 h2
  by_cases z1:j=i
  ·by_cases z2:l=i
   ·rw[z1,z2]
   ·rw[if_pos z1]at h1;rw[if_neg z2]at h2;exact(hd l b z2 h2 h1).elim
  ·by_cases z2:l=i
   ·rw[if_neg z1]at h1;rw[if_pos z2]at h2;exact(hd j b z1 h1 h2).elim
   ·rw[if_neg z1]at h1;rw[if_neg z2]at h2;exact a.dis j l b h1 h2
 ·try dsimp only at h
  by_cases z1:j=i
  ·rw[if_pos z1]at h;exact hS b h
  ·rw[if_neg z1]at h;exact a.new j b h
theorem Sat.set(a:Sat G0 H0 S0 σ ρ G H As){H':Hp}{i n:Nat}{d:Dt}{v:V}{S:Addr->Prop}(s:Same H H')(o:Own G H' n S d v)(hS:∀b,S b->H b=none/\G b=none/\H' b≠none) :
  Sat G0 H0 S0 (σ.set i (some v)) (ρ.set i (some (d,n))) G H' (fun j=>if j=i then S else As j):=
 (a.grow s).put o (fun b hb=>⟨a.ext.h.free (hS b hb).1,(hS b hb).2⟩) fun j b _ h1 h2=>(a.new j b h1).2.2 (hS b h2).1
theorem Sat.frz1(a:Sat G0 H0 S0 σ ρ G H As)(i:Nat):∃G1 As1,Sat G0 H0 S0 σ (Mi.frz1 i ρ) G1 H As1:=by
 unfold Mi.frz1;cases e1:ρ[i]? with
 |none=>exact⟨G,As,a⟩
 |some o=>
  cases o with
  |none=>exact⟨G,As,a⟩
  |some sl=>
   obtain⟨d,n⟩:=sl;dsimp only;obtain⟨v,h1,h2⟩:=a.at i d n e1;obtain⟨s1,s2⟩:=zDB (S:=As i) a.ext.in';have x:Ext G0 H0 (over G H (As i)) H:=⟨a.ext.g.trans s1,a.ext.h,s2,fun b hb=>by
    have z:¬As i b:=fun z=>hb (a.new i b z).1
    rw[zCB z];exact a.ext.old b hb⟩
   have hv:(σ.set i (some v))=σ:=by
    have hi:i<σ.length:=(qA2.mp h1).1;have he:=(qA2.mp h1).2;rw[<- he,List.set_getElem_self]
   have b:Sat G0 H0 S0 σ (ρ.set i (some (d,0))) (over G H (As i)) H (fun j b=>j≠i/\As j b):=by
    refine⟨x,a.stb.trans s1,a.tab,by simp[a.len],fun j e k h=>?_,fun j l b p q=>a.dis j l b p.2 q.2,fun j b p=>?_⟩
    ·have hj:j<ρ.length:=by
      have:=(qA2.mp h).1;simpa using this
     by_cases z:i=j
     ·subst z;rw[qAe hj]at h;cases h;exact⟨v,h1,h2.rep s1 fun b o hb e=>by rw[zDL hb];exact e⟩
     ·rw[qAj z]at h;obtain⟨u,q1,q2⟩:=a.at j e k h;exact⟨u,q1,(q2.mono s1 (Same.refl _)).sub fun b hb=>⟨fun q=>z q.symm,hb⟩⟩
    ·obtain⟨n1,n2,n3⟩:=a.new j b p.2;have z:¬As i b:=fun z=>p.1 (a.dis j i b p.2 z)
     exact⟨n1,by rw[zCB z];exact n2,n3⟩
   exact⟨_,_,b⟩
theorem Sat.frzAt:∀(vs:List Nat){ρ:Ro}{G:Hp}{As:Nat->Addr->Prop},Sat G0 H0 S0 σ ρ G H As->∃G1 As1,Sat G0 H0 S0 σ (Mi.frzAt vs ρ) G1 H As1
 |[],_,_,_,a=>⟨_,_,a⟩
 |i::r,_,_,_,a=>by
  obtain⟨G1,As1,b⟩:=a.frz1 i;exact Sat.frzAt r b
theorem Sat.frz(a:Sat G0 H0 S0 σ ρ G H As):View G σ (Mi.frz ρ):=by
 refine⟨by simp[Mi.frz,a.len],fun i d e=>?_,a.tab.trans a.ext.g⟩;unfold Mi.frz at e;rw[qAf]at e;cases e1:ρ[i]? with
 |none=>rw[e1]at e;cases e
 |some o=>
  rw[e1]at e;cases o with
  |none=>cases e
  |some sl=>
   obtain⟨d',n⟩:=sl;obtain⟨v,h1,h2⟩:=a.at i d' n e1;simp only[qDm,qEk]at e;split at e
   ·rename_i hz
    cases e;rcases hz with hz|hz
    ·subst hz;exact⟨v,h1,h2⟩
    ·exact⟨v,h1,Own.scalar (k:=0) (G2:=G) (H2:=H) (S2:=fun _=>False) h2 hz⟩
   ·cases e
theorem Sat.store(a:Sat G0 H0 S0 σ ρ G H As){i n:Nat}{d:Dt}{v:V}{p:Addr}{o:HO}{S:Addr->Prop}(hp:As i p)(hv:σ[i]?=some (some v))(w:Own G (upd H p o) n S d v)
  (hS:∀b,S b->As i b\/(H0 b=none/\G b=none/\H b≠none/\∀j,¬As j b)):Sat G0 H0 S0 σ (ρ.set i (some (d,n))) G (upd H p o) (fun j=>if j=i then S else As j):=by
 obtain⟨p1,p2,p3⟩:=a.new i p hp;have hn:∀b,H b≠none->upd H p o b≠none:=fun b hb=>by
  by_cases z:b=p
  ·subst z;rw[zAQ];simp
  ·rw[zAL z];exact hb
 refine⟨⟨a.ext.g,L2.Same.upd a.ext.h p1 o,L2.Same.upd a.ext.in' p2 o,a.ext.old⟩,a.stb,a.tab,by simp[a.len],fun j e k h=>?_,fun j l b h1 h2=>?_,fun j b h=>?_⟩
 ·have hj:j<ρ.length:=by
   have:=(qA2.mp h).1;simpa using this
  by_cases z:i=j
  ·subst z;rw[qAe hj]at h;cases h;exact⟨v,hv,by rw[if_pos rfl];exact w⟩
  ·rw[qAj z]at h;obtain⟨u,h1,h2⟩:=a.at j e k h;exact⟨u,h1,by rw[if_neg (fun q=>z q.symm)];exact h2.upd fun q=>z (a.dis i j p hp q)⟩
 ·have key:∀j b,j≠i->As j b->S b->False:=fun j b hj h1 h2=>by
   rcases hS b h2 with q|⟨_,_,_,q⟩
   ·exact hj (a.dis j i b h1 q)
   ·exact q j h1
  try dsimp only at h1 h2
  by_cases z1:j=i
  ·by_cases z2:l=i
   ·rw[z1,z2]
   ·rw[if_pos z1]at h1;rw[if_neg z2]at h2;exact(key l b z2 h2 h1).elim
  ·by_cases z2:l=i
   ·rw[if_neg z1]at h1;rw[if_pos z2]at h2;exact(key j b z1 h1 h2).elim
   ·rw[if_neg z1]at h1;rw[if_neg z2]at h2;exact a.dis j l b h1 h2
 ·try dsimp only at h
  by_cases z1:j=i
  ·rw[if_pos z1]at h
   rcases hS b h with q|⟨q1,q2,q3,_⟩
   ·obtain⟨n1,n2,n3⟩:=a.new i b q;exact⟨n1,n2,hn b n3⟩
   ·exact⟨q1,q2,hn b q3⟩
  ·rw[if_neg z1]at h;obtain⟨n1,n2,n3⟩:=a.new j b h;exact⟨n1,n2,hn b n3⟩
end
def zEQ(mg:Str->Option Value)(E:XK)(G0 H0 S0:Hp)(L:Nat)(r:R Out)(D:Ends):Prop:=match r with
 |none=>False
 |some (.error x)=>∀c da G' H',Ext G0 H0 G' H'->XRep mg x c da G' H'->E c da H'
 |some (.ok (.nx ρ))=>∀σ G H As,Sat G0 H0 S0 σ ρ G H As->D.nx σ H
 |some (.ok (.bk ρ))=>∀σ G H As,Sat G0 H0 S0 σ ρ G H As->D.bk σ H
 |some (.ok (.ct ρ))=>∀σ G H As,Sat G0 H0 S0 σ ρ G H As->D.ct σ H
 |some (.ok (.rt d))=>∀v G H S,Fr G0 H0 G H S->Own G H L S d v->D.rt v H
def DS(mg:Str->Option Value)(E:XK)(L:Nat)(t:TS)(m:SM):Prop:=∀(G0 H0 S0:Hp)(σ:St)(ρ:Ro)(G H:Hp)(As:Nat->Addr->Prop)(D:Ends),Sat G0 H0 S0 σ ρ G H As->zEQ mg E G0 H0 S0 L (m ρ) D->t D σ H
section
variable{mg:Str->Option Value}{E:XK}{L n k l:Nat}{te ta tb:TE}{e ea eb:EM}{t u:TS}{m m':SM}
theorem errS{G0 H0 S0:Hp}{D:Ends}:Err mg E G0 H0 (fun r=>zEQ mg E G0 H0 S0 L r D):=⟨fun h=>h,fun _ h=>h⟩
theorem zBI:DS mg E L zN5 Mi.sNil:=fun G0 H0 S0 σ ρ G H As D a p=>p σ G H As a
theorem zAO(A:DS mg E L t m)(B:DS mg E L u m'):DS mg E L (tSeq t u) (Mi.sSeq m m'):=by
 intro G0 H0 S0 σ ρ G H As D a p;refine A G0 H0 S0 σ ρ G H As _ a ?_;unfold Mi.sSeq at p;cases e:m ρ with
 |none=>rw[e]at p;exact p
 |some r=>
  rw[e]at p;cases r with
  |error x=>exact p
  |ok o=>
   cases o with
   |nx ρ'=>exact fun σ' G' H' As' a'=>B G0 H0 S0 σ' ρ' G' H' As' D a' p
   |rt d=>exact p
   |bk ρ'=>exact p
   |ct ρ'=>exact p
theorem zCC{tc:TT}{c:TM}(C:DT mg E tc c)(A:DS mg E L t m)(B:DS mg E L u m'):DS mg E L (tIfS tc t u) (Mi.sIf c m m'):=by
 intro G0 H0 S0 σ ρ G H As D a p;obtain⟨J,x,s,w⟩:=a.full;refine C.step (errS.from x) x.in' w p fun b H' _ sH p1=>?_
 cases b with
 |true=>exact A G0 H0 S0 σ ρ G H' As D (a.grow sH) p1
 |false=>exact B G0 H0 S0 σ ρ G H' As D (a.grow sH) p1
theorem whole{G0 H0 S0:Hp}{σ:St}{ρ:Ro}{G H J G1 H1:Hp}{As:Nat->Addr->Prop}{S:Addr->Prop}{d:Dt}{v:V}(a:Sat G0 H0 S0 σ ρ G H As)(s:Same G J)(fr:Fr J H G1 H1 S)(o:Own G1 H1 n S d v)(hn:n<1000)(hd:d.dep<=n)(hk:d.dep<=k) :
  Own G H1 k S d v/\∀b,S b->H b=none/\G b=none/\H1 b≠none:=
 ⟨o.at hd hk hn,fun b hb=>let⟨n1,n2,n3⟩:=fr.new b hb;⟨n1,a.ext.in'.free n1,n3⟩⟩
theorem zBJ{i:Nat}(vs:List Nat)(A:DE mg E te e n)(hn:n<1000:=by decide):DS mg E L (tAsg te (zGR i)) (Mi.sSet i n vs e):=by
 intro G0 H0 S0 σ ρ G H As D a p;obtain⟨J,x,s,w⟩:=a.full;unfold Mi.sSet at p;cases ee:e (full ρ)with
 |none=>rw[ee]at p;exact p.elim
 |some r=>
  cases r with
  |error y=>exact A.step (errS.from x) x.in' w p fun d v G1 H1 S e1 fr o p1=>by rw[ee]at e1;cases e1
  |ok d=>
   by_cases hd:d.dep<=n
   ·refine A.step (errS.from x) x.in' w p fun d' v G1 H1 S e1 fr o p1=>?_
    rw[ee]at e1;cases e1;rw[if_pos hd]at p1;obtain⟨q1,q2⟩:=whole (k:=n) a s fr o hn hd hd;exact p1 _ G H1 _ (a.set fr.ext.h q1 q2)
   ·rw[ee]at p;have p':zEQ mg E G0 H0 S0 L (zA2 (e (frz (frzAt vs ρ))) fun d'=>okR (.nx ((frzAt vs ρ).set i (some (d',n))))) D:=by
     have p2:zEQ mg E G0 H0 S0 L (if d.dep<=n then okR (.nx (ρ.set i (some (d,n))))else zA2 (e (frz (frzAt vs ρ))) fun d'=>okR (.nx ((frzAt vs ρ).set i (some (d',n))))) D:=p;rw[if_neg hd]at p2;exact p2
    obtain⟨G1,As1,a1⟩:=Sat.frzAt vs a;refine A.step (errS.from a1.ext) a1.ext.in' a1.frz p' fun d' v G2 H2 S _ fr o p1=>?_
    exact p1 _ G2 H2 _ ((a1.wider fr.ext).put o (fun b hb=>let⟨n1,n2,n3⟩:=fr.new b hb;⟨a1.ext.h.free n1,n2,n3⟩) fun j b _ h1 h2=>(a1.new j b h1).2.2 (fr.new b h2).1)
theorem zBG(vs:List Nat)(A:DE mg E te e n)(hn:n<1000:=by decide):DS mg E L (tRet te) (Mi.sRet L n vs e):=by
 intro G0 H0 S0 σ ρ G H As D a p;obtain⟨J,x,s,w⟩:=a.full;unfold Mi.sRet at p;cases ee:e (full ρ)with
 |none=>rw[ee]at p;exact p.elim
 |some r=>
  cases r with
  |error y=>exact A.step (errS.from x) x.in' w p fun d v G1 H1 S e1 fr o p1=>by rw[ee]at e1;cases e1
  |ok d=>
   by_cases hd:d.dep<=n/\d.dep<=L
   ·refine A.step (errS.from x) x.in' w p fun d' v G1 H1 S e1 fr o p1=>?_
    rw[ee]at e1;cases e1;rw[if_pos hd]at p1;exact p1 v G1 H1 S (Fr.from x fr) (o.at hd.1 hd.2 hn)
   ·rw[ee]at p;have p2:zEQ mg E G0 H0 S0 L (if d.dep<=n/\d.dep<=L then okR (.rt d)else if n=L then zA2 (e (frz (frzAt vs ρ))) fun d'=>okR (.rt d')else none) D:=p;rw[if_neg hd]at p2
    by_cases hl:n=L
    ·rw[if_pos hl]at p2;subst hl;obtain⟨G1,As1,a1⟩:=Sat.frzAt vs a;refine A.step (errS.from a1.ext) a1.ext.in' a1.frz p2 fun d' v G2 H2 S _ fr o p1=>?_
     exact p1 v G2 H2 S (Fr.from a1.ext fr) o
    ·rw[if_neg hl]at p2;exact p2.elim
theorem zJ4(i:Nat):DS mg E L (tRet (vM i)) (Mi.sRetV L i):=by
 intro G0 H0 S0 σ ρ G H As D a p;unfold Mi.sRetV at p;cases e1:ρ[i]? with
 |none=>rw[e1]at p;exact p.elim
 |some o=>
  rw[e1]at p;cases o with
  |none=>exact p.elim
  |some sl=>
   obtain⟨d,k⟩:=sl;obtain⟨v,h1,h2⟩:=a.at i d k e1;show vM i σ H D.rt;unfold vM;rw[h1];dsimp only at p;split at p
   ·rename_i hz
    rcases hz with hz|hz|hz
    ·subst hz;exact p v G H (As i) ⟨a.ext,fun b hb=>a.new i b hb⟩ h2
    ·subst hz;obtain⟨s1,s2⟩:=zDB (S:=As i) a.ext.in';refine p v (over G H (As i)) H (fun _=>False) ⟨⟨a.ext.g.trans s1,a.ext.h,s2,fun b hb=>?_⟩,fun _ z=>z.elim⟩ (h2.rep s1 fun b o hb e=>by rw[zDL hb];exact e);have z:¬As i b:=fun z=>hb (a.new i b z).1
     rw[zCB z];exact a.ext.old b hb
    ·exact p v G H (As i) ⟨a.ext,fun b hb=>a.new i b hb⟩ (h2.at hz.1 hz.2.1 hz.2.2)
   ·exact p.elim
theorem Sat.puts{G0 H0 S0 G H:Hp}{bs:List (Nat×Dt)}{ws:List (Nat×V)}(h:BsRep G bs ws):∀{σ:St}{ρ:Ro}{As:Nat->Addr->Prop},Sat G0 H0 S0 σ ρ G H As->∃As',Sat G0 H0 S0 (zEM σ ws) (zAK ρ bs) G H As':=by
 induction h with
 |nil=>exact fun a=>⟨_,a⟩
 |cons r _ ih=>exact fun a=>ih (a.put (n:=0) (S:=fun _=>False) r (fun _ z=>z.elim) fun _ _ _ _ z=>z.elim)
theorem zON(i:Nat)(A:DE mg E te e n)(hn:n<1000:=by decide):DS mg E L (zEZ (tML appM (vM i) (zD5 te tNil))) (Mi.sApp i n e):=by
 intro G0 H0 S0 σ ρ G H As D a p;obtain⟨J,x,s,w⟩:=a.full;unfold Mi.sApp at p;cases e1:ρ[i]? with
 |none=>rw[e1]at p;exact p.elim
 |some o=>
  rw[e1]at p
  match o,e1,p with
  |none,_,p=>exact p.elim
  |some (.lst ds,k+1),e1,p=>
   obtain⟨v,h1,q,xs,T,rfl,hq,kd⟩:=a.at i _ _ e1;unfold zEZ tML vM;rw[h1];refine⟨xs,hq,?_⟩;refine A.step (errS.from x) x.in' w p fun d y G1 H1 S _ fr o p1=>?_
   split at p1
   ·rename_i hz
    obtain⟨q1,q2⟩:=whole (k:=k) a s fr o hn hz.2.1 hz.2.2;refine⟨xs,fr.ext.h _ _ hq,by rw[kd.len];exact L2.big (by lia),?_⟩;have hp:=kd.top;have a1:=a.grow fr.ext.h;have nS:¬S q:=fun z=>(a.new i q hp).2.2 (q2 q z).1
    have ap:∀r b,T r b->S b->False:=fun r b h1 h2=>(a.new i b (kd.sub r b h1)).2.2 (q2 b h2).1
    refine p1 σ G _ _ (a1.store (S:=fun b=>As i b\/S b) hp h1 ⟨q,_,fun r b=>(r<ds.length/\T r b)\/(r=ds.length/\S b),rfl,zAQ,⟨by simp[kd.len],fun r d' z g1 g2=>?_,.inl hp,fun r z=>?_,fun r r' b z1 z2=>?_,fun r b z=>?_⟩⟩ fun b z=>?_)
    ·by_cases hr:r<ds.length
     ·rw[qA7 hr]at g1;rw[qA7 (by rw[kd.len];exact hr)]at g2;exact(((kd.own r d' z g1 g2).mono (Same.refl _) fr.ext.h).upd (kd.out r)).sub fun b z=>.inl ⟨hr,z⟩
     ·rw[qA9 (by lia)]at g1;rw[qA9 (by rw[kd.len];lia),kd.len]at g2;have hq0:r-ds.length=0:=by
       have:=(qA2.mp g1).1;simp at this;lia
      rw[hq0]at g1 g2;simp at g1 g2;subst g1;subst g2;exact(q1.upd nS).sub fun b z=>.inr ⟨by lia,z⟩
    ·rcases z with⟨_,z⟩|⟨_,z⟩
     ·exact kd.out r z
     ·exact nS z
    ·rcases z1 with⟨c1,t1⟩|⟨c1,t1⟩<;>rcases z2 with⟨c2,t2⟩|⟨c2,t2⟩
     ·exact kd.dis r r' b t1 t2
     ·exact(ap r b t1 t2).elim
     ·exact(ap r' b t2 t1).elim
     ·lia
    ·rcases z with⟨_,z⟩|⟨_,z⟩
     ·exact .inl (kd.sub r b z)
     ·exact .inr z
    ·rcases z with z|z
     ·exact .inl z
     ·obtain⟨n1,n2,n3⟩:=q2 b z;exact .inr ⟨a.ext.h.free n1,n2,n3,fun j y=>(a.new j b y).2.2 n1⟩
   ·exact p1.elim
  |some (.lst ds,0),_,p=>exact p.elim
  |some (.non,_),_,p=>exact p.elim
  |some (.bl _,_),_,p=>exact p.elim
  |some (.int _,_),_,p=>exact p.elim
  |some (.str _,_),_,p=>exact p.elim
  |some (.tup _,_),_,p=>exact p.elim
  |some (.scr _,_),_,p=>exact p.elim
  |some (.exc _ _ _,_),_,p=>exact p.elim
  |some (.fn _ _,_),_,p=>exact p.elim
  |some (.dsk _ _,_),_,p=>exact p.elim
  |some (.fnc _,_),_,p=>exact p.elim
  |some (.dtt _ _,_),_,p=>exact p.elim
  |some (.loc _ _,_),_,p=>exact p.elim
  |some (.ins _ _,_),_,p=>exact p.elim
  |some (.dct _,_),_,p=>exact p.elim
theorem Kids.pop{P:(Addr->Prop)->Dt->V->Prop}{S:Addr->Prop}{a:Addr}{ds:List Dt}{xs:List V}{T:Nat->Addr->Prop}(k:Kids P S a ds xs T)(q:Nat) :
  Kids P (fun b=>S b/\¬T q b) a (ds.eraseIdx q) (xs.eraseIdx q) (fun r=>if r<q then T r else T (r+1)):=by
 refine⟨by rw[qCs,qCs,k.len],fun r d x h1 h2=>?_,⟨k.top,k.out q⟩,fun r=>?_,fun r r' b z1 z2=>?_,fun r b z=>?_⟩
 ·rw[List.getElem?_eraseIdx]at h1 h2
  try dsimp only
  by_cases hr:r<q
  ·rw[if_pos hr]at h1 h2 ⊢;exact k.own r d x h1 h2
  ·rw[if_neg hr]at h1 h2 ⊢;exact k.own (r+1) d x h1 h2
 ·try dsimp only
  split
  ·exact k.out _
  ·exact k.out _
 ·try dsimp only at z1 z2
  by_cases h1:r<q<;>by_cases h2:r'<q
  ·rw[if_pos h1]at z1;rw[if_pos h2]at z2;exact k.dis _ _ b z1 z2
  ·rw[if_pos h1]at z1;rw[if_neg h2]at z2;have:=k.dis _ _ b z1 z2;lia
  ·rw[if_neg h1]at z1;rw[if_pos h2]at z2;have:=k.dis _ _ b z1 z2;lia
  ·rw[if_neg h1]at z1;rw[if_neg h2]at z2;have:=k.dis _ _ b z1 z2;lia
 ·try dsimp only at z
  by_cases h1:r<q
  ·rw[if_pos h1]at z;exact⟨k.sub _ b z,fun w=>by have:=k.dis _ _ b z w;lia⟩
  ·rw[if_neg h1]at z;exact⟨k.sub _ b z,fun w=>by have:=k.dis _ _ b z w;lia⟩
theorem zNY{G H:Hp}{p:Addr}{o:HO}{S:Addr->Prop}{a:Addr}{ds:List Dt}{xs:List V}{T:Nat->Addr->Prop}(k:Kids (Own G H n) S a ds xs T)(hp:∀q,¬T q p):Kids (Own G (upd H p o) n) S a ds xs T:=
 ⟨k.len,fun q d x h1 h2=>(k.own q d x h1 h2).upd (hp q),k.top,k.out,k.dis,k.sub⟩
end
end
section
variable[Kc]{mg:Str->Option Value}{E:XK}{L n k l:Nat}{te ta tb:TE}{e ea eb:EM}{t u:TS}{m m':SM}
theorem Kids.set{G H:Hp}{S:Addr->Prop}{a p:Addr}{ds:List Dt}{xs:List V}{T:Nat->Addr->Prop}{S':Addr->Prop}{d:Dt}{v:V}{o:HO}(k:Kids (Own G H n) S a ds xs T)(q:Nat)(w:Own G (upd H p o) n S' d v)(hp:∀r,r≠q->¬T r p)(ha:¬S' a)
  (hd:∀r b,r≠q->T r b->S' b->False):Kids (Own G (upd H p o) n) (fun b=>S b\/S' b) a (ds.set q d) (xs.set q v) (fun r b=>if r=q then S' b else T r b):=by
 refine⟨by simp[k.len],fun r d' x h1 h2=>?_,.inl k.top,fun r=>?_,fun r r' b z1 z2=>?_,fun r b z=>?_⟩
 ·by_cases z:q=r
  ·subst z;have h:q<ds.length:=by
    have:=(qA2.mp h1).1;simpa using this
   rw[qAe h]at h1;rw[qAe (by rw[k.len];exact h)]at h2;cases h1;cases h2;exact w.sub fun b hb=>by rw[if_pos rfl];exact hb
  ·rw[qAj z]at h1 h2;exact((k.own r d' x h1 h2).upd (hp r fun y=>z y.symm)).sub fun b hb=>by rw[if_neg (fun y=>z y.symm)];exact hb
 ·try dsimp only
  split
  ·exact ha
  ·exact k.out _
 ·try dsimp only at z1 z2
  by_cases h1:r=q<;>by_cases h2:r'=q
  ·rw[h1,h2]
  ·rw[if_pos h1]at z1;rw[if_neg h2]at z2;exact(hd r' b h2 z2 z1).elim
  ·rw[if_neg h1]at z1;rw[if_pos h2]at z2;exact(hd r b h1 z1 z2).elim
  ·rw[if_neg h1]at z1;rw[if_neg h2]at z2;exact k.dis _ _ b z1 z2
 ·try dsimp only at z
  by_cases h1:r=q
  ·rw[if_pos h1]at z;exact .inr z
  ·rw[if_neg h1]at z;exact .inl (k.sub _ b z)
theorem zMN(i:Nat){n1:Nat}{t1 t2:TE}{e1 e2:EM}(A:DE mg E t1 e1 n1)(B:DE mg E t2 e2 n)(hn:n<1000:=by decide):DS mg E L (tAsg t2 (gSub (vM i) t1 setM)) (Mi.sItem i n e1 e2):=by
 intro G0 H0 S0 σ ρ G H As D a p;obtain⟨J,x,s,w⟩:=a.full;refine B.step (errS.from x) x.in' w p fun d y G1 H1 S _ fr o p1=>?_
 cases er:ρ[i]? with
 |none=>rw[er]at p1;exact p1.elim
 |some sl=>
  rw[er]at p1
  match sl,er,p1 with
  |none,_,p=>exact p.elim
  |some (.lst ds,k+1),er,p1=>
   obtain⟨v,h1,q,xs,T,rfl,hq,kd⟩:=a.at i _ _ er;unfold gSub vM;rw[h1];have x1:Ext J H J H1:=Ext.same x.in' fr.ext.h;refine(zAM A).step (errS.from (x.trans x1)) x1.in' w p1 fun z u G2 H2 S2 _ fr2 o2 p2=>?_
   cases z with
   |int z=>
    cases(show u=.int z from o2)
    try dsimp only at p2
    cases ei:Mi.ixA ds.length z with
    |none=>rw[ei]at p2;exact p2.elim
    |some c=>
     rw[ei]at p2
     try dsimp only at p2
     split at p2
     ·rename_i hz
      rw[zH9]at ei;obtain⟨q1,q2⟩:=whole (k:=k) a s fr o hn hz.1 hz.2;have sH:=fr.ext.h.trans fr2.ext.h;refine⟨xs,c,sH _ _ hq,by rw[kd.len];exact ei,?_⟩;have a1:=a.grow sH;have nS:¬S q:=fun z=>(a.new i q kd.top).2.2 (q2 q z).1
      have kd1:Kids (Own G H2 k) (As i) q ds xs T:=kd.imp (fun _ _ _ _ w=>w.mono (Same.refl _) sH) fun _ z=>z
      refine p2 σ G _ _ (a1.store (S:=fun b=>As i b\/S b) kd.top h1 ⟨q,_,_,rfl,zAQ,kd1.set c ((q1.mono (Same.refl _) fr2.ext.h).upd nS) (fun r _=>kd.out r) nS fun r b _ z1 z2=>(a.new i b (kd.sub r b z1)).2.2 (q2 b z2).1⟩ fun b z=>?_)
      rcases z with z|z
      ·exact .inl z
      ·obtain⟨n1,n2,n3⟩:=q2 b z;exact .inr ⟨a.ext.h.free n1,n2,fr2.ext.h.some n3,fun j y=>(a.new j b y).2.2 n1⟩
     ·exact p2.elim
   |_=>exact p2.elim
  |some (.lst ds,0),_,p=>exact p.elim
  |some (.non,_),_,p=>exact p.elim
  |some (.bl _,_),_,p=>exact p.elim
  |some (.int _,_),_,p=>exact p.elim
  |some (.str _,_),_,p=>exact p.elim
  |some (.tup _,_),_,p=>exact p.elim
  |some (.scr _,_),_,p=>exact p.elim
  |some (.exc _ _ _,_),_,p=>exact p.elim
  |some (.fn _ _,_),_,p=>exact p.elim
  |some (.dsk _ _,_),_,p=>exact p.elim
  |some (.fnc _,_),_,p=>exact p.elim
  |some (.dtt _ _,_),_,p=>exact p.elim
  |some (.loc _ _,_),_,p=>exact p.elim
  |some (.ins _ _,_),_,p=>exact p.elim
  |some (.dct _,_),_,p=>exact p.elim
theorem zL5{G0 H0 S0:Hp}{D:Ends}{g:TG}{tg:Tg}{J:It}{ds:List Dt}{GJ:Hp}(hT:TgOk g tg)(B:DS mg E L t m)(io:ItOk J GJ ds){σ:St}{ρ:Ro}{G H:Hp}{As:Nat->Addr->Prop}(a:Sat G0 H0 S0 σ ρ G H As)(sJ:Same GJ G)
  (p:zEQ mg E G0 H0 S0 L (Mi.forGo tg m ds ρ) D):zJQ g t D σ J H:=by
 refine⟨fun i c σ H=>c=ds.length-i/\i<=ds.length/\∃ρ G As,Sat G0 H0 S0 σ ρ G H As/\Same GJ G/\zEQ mg E G0 H0 S0 L (Mi.forGo tg m (ds.drop i) ρ) D,
  ⟨_,rfl,qA8 _,ρ,G,As,a,sJ,by rw[qDz];exact p⟩,?_⟩
 rintro i c σ H ⟨rfl,hi,ρ,G,As,a,sJ,p⟩
 obtain⟨j1,j2,j3⟩:=io i G H sJ a.ext.in';by_cases hlt:i<ds.length
 ·refine .inr ⟨j1 hlt,fun σ' H'=>i+1<=ds.length/\∃ρ G As,Sat G0 H0 S0 σ' ρ G H' As/\Same GJ G/\zEQ mg E G0 H0 S0 L (Mi.forGo tg m (ds.drop (i+1)) ρ) D,fun σ' H' q=>⟨ds.length-(i+1),by lia,rfl,q⟩,fun x H2 hy=>?_⟩;have hd:ds[i]?=some ds[i]:=qAh hlt;obtain⟨G2,x2,r2⟩:=j3 x H2 ds[i] hd hy;rw[qC4 hlt,Mi.forGo]at p;cases eb:zAJ tg ds[i]with
  |none=>rw[eb]at p;exact p.elim
  |some bs=>
   rw[eb]at p
   try dsimp only at p
   refine hT G2 H2 _ _ x bs _ x2.in' r2 eb fun ws hb=>?_
   obtain⟨As2,a2⟩:=Sat.puts hb (a.wider x2);have a3:Sat G0 H0 GJ (zEM σ ws) (zAK ρ bs) G2 H2 As2:=⟨a2.ext,sJ.trans x2.g,a2.tab,a2.len,a2.at,a2.dis,a2.new⟩;have key:∀(S1:Hp),Same S0 S1->Same GJ S1->Sat G0 H0 S1 (zEM σ ws) (zAK ρ bs) G2 H2 As2->t { D with nx:=fun σ' H'=>i+1<=ds.length/\∃ρ G As,Sat G0 H0 S0 σ' ρ G H' As/\Same GJ G/\zEQ mg E G0 H0 S0 L (Mi.forGo tg m (ds.drop (i+1)) ρ) D,ct:=fun σ' H'=>i+1<=ds.length/\∃ρ G As,Sat G0 H0 S0 σ' ρ G H' As/\Same GJ G/\zEQ mg E G0 H0 S0 L (Mi.forGo tg m (ds.drop (i+1)) ρ) D,bk:=D.nx } (zEM σ ws) H2:=by
    intro S1 s1 s2 a4;refine B G0 H0 S1 _ _ G2 H2 As2 _ a4 ?_;have back:∀{σ':St}{ρ':Ro}{G' H':Hp}{As':Nat->Addr->Prop},Sat G0 H0 S1 σ' ρ' G' H' As'->Sat G0 H0 S0 σ' ρ' G' H' As'/\Same GJ G':=fun a5=>⟨⟨a5.ext,s1.trans a5.stb,a5.tab,a5.len,a5.at,a5.dis,a5.new⟩,s2.trans a5.stb⟩
    cases em:m (zAK ρ bs)with
    |none=>rw[em]at p;exact p
    |some r=>
     rw[em]at p;cases r with
     |error y=>exact p
     |ok o=>
      cases o with
      |nx ρ'=>exact fun σ' G' H' As' a5=>⟨hlt,ρ',G',As',(back a5).1,(back a5).2,p⟩
      |ct ρ'=>exact fun σ' G' H' As' a5=>⟨hlt,ρ',G',As',(back a5).1,(back a5).2,p⟩
      |bk ρ'=>exact fun σ' G' H' As' a5=>p σ' G' H' As' (back a5).1
      |rt d=>exact p
   exact key G2 a2.stb (sJ.trans x2.g) ⟨a2.ext,Same.refl _,a2.tab,a2.len,a2.at,a2.dis,a2.new⟩
 ·have e:i=ds.length:=by lia
  subst e;rw[qDf,Mi.forGo]at p;exact .inl ⟨j2 (qAa _),p σ G H As a⟩
theorem zOM{wi:TI}{it:IM}{g:TG}{tg:Tg}(vs:List Nat){ind:Bool}(I:DI mg E wi it ind)(hT:TgOk g tg)(B:DS mg E L t m):DS mg E L (fun D σ H=>wi σ H (zJQ g t D σ)) (Mi.sFor vs it tg m):=by
 intro G0 H0 S0 σ ρ G H As D a p;obtain⟨G1,As1,a1⟩:=Sat.frzAt vs a;refine I.step (errS.from a1.ext) a1.ext.in' a1.frz p fun ds J G2 H2 _ x2 io p1=>?_
 refine zL5 hT B io (a1.wider x2) ?_ p1;unfold zJI;split
 ·exact fun b o e=>by cases e
 ·exact Same.refl _
theorem zJ5{wi:TI}{it:IM}{i:Nat}(I:DI mg E wi it true)(B:DS mg E L t m):DS mg E L (fun D σ H=>wi σ H (zJQ (zGR i) t D σ)) (Mi.sForR it i m):=by
 intro G0 H0 S0 σ ρ G H As D a p;obtain⟨J,x,s,w⟩:=a.full;refine I.step (errS.from x) x.in' w p fun ds J G2 H2 _ x2 io p1=>?_
 exact zL5 (zAY i) B io (a.grow x2.h) (fun b o e=>by cases e) p1
theorem dz(A:DE mg E te e 0):DE mg E te e 0:=A
theorem zI6{P N:Nat}{vs:List V}{H:Hp}{Q:VK}{E:XK}(h:spM mg L (Mi.runF P N m) vs H Q E):vs.length=P:=by
 obtain⟨G,ds,_,s,r,p⟩:=h;rw[r.length];unfold Mi.runF at p;split at p
 ·rename_i h;exact h
 ·exact p.elim
theorem zCF{P:Nat}{N:List Str}{vs:List V}{H:Hp}{Q:VK}(B:DS mg E L t m)(h:spM mg L (Mi.runF P N.length m) vs H Q E):t { nx:=fun _ H'=>Q .non H',rt:=Q } (L2.start N vs) H:=by
 obtain⟨G,ds,tb,s,r,p⟩:=h;unfold Mi.runF at p;split at p
 ·refine B G H G _ (Mi.startO N.length ds) G H (fun _ _=>False) _ ⟨Ext.refl s,Same.refl _,tb,?_,fun i d n e=>?_,fun _ _ _ z=>z.elim,fun _ _ z=>z.elim⟩ ?_
  ·unfold Mi.startO L2.start;simp[r.length]
  ·unfold Mi.startO at e
   by_cases hi:i<ds.length
   ·rw[qA7 (by simpa using hi),qAf]at e;cases e1:ds[i]? with
    |none=>rw[e1]at e;cases e
    |some d'=>
     rw[e1]at e;cases e;have hv:vs[i]?=some (vs[i]'(by rw[r.length];exact hi)):=by simp
     refine⟨vs[i]'(by rw[r.length];exact hi),?_,zC4 r e1 hv⟩;unfold L2.start;rw[qA7 (by simpa[r.length]using hi),qAf,hv];rfl
   ·rw[qA9 (by simpa using hi),qAv]at e
    split at e<;>cases e
  ·cases em:m (Mi.startO N.length ds)with
   |none=>rw[em]at p;exact p
   |some r=>
    rw[em]at p;cases r with
    |error y=>exact p
    |ok o=>
     cases o with
     |nx ρ'=>exact fun σ' G' H' As' a=>PostE.val (d:=.non) p a.ext rfl rfl
     |rt d=>exact p
     |bk ρ'=>exact p.elim
     |ct ρ'=>exact p.elim
 ·exact p.elim
end
end L3
namespace L2
open PySem PySem.Spec PyProof.Rows
section
variable{X:Cx}
end
section
variable{X:Cx}{K:qA0}
end
section
variable{X:Cx}
end
section
variable{X:Cx}{K:qA0}
end
section
variable{X:Cx}
end
section
variable{X:Cx}{e m1:Expr}{te ts:TE}{pos p2:Pos}
end
section
variable{X:Cx}{m:Str}{k:Nat}{o e:Expr}{es:List Expr}{ta:TE}{t:TA}{apos pos:Pos}{tb:List (Addr×Sp)}
end
section
variable{prog:qEq}{w:World}{A:qEs}{E:Value->qEo->Prop}{s:qEo}
end
section
variable{X:Cx}{pos:Pos}
end
section
variable{prog:qEq}{w:World}{A:qEs}{E:Value->qEo->Prop}{s:qEo}
end
section
variable{X:Cx}{pins:List (Addr×Obj)}{σ:List (Option V)}{H:Hp}{s:qEo}
end
section
variable{prog:qEq}{w:World}{A:qEs}{E:Value->qEo->Prop}{s:qEo}
end
section
variable{X:Cx}{pins:List (Addr×Obj)}{σ:List (Option V)}{H:Hp}{s:qEo}
end
section
variable{X:Cx}
variable{o e:Expr}{es:List Expr}{to:TE}{t:TA}{name:Str}{apos cpos:Pos}{T id:String}{r:V->List V->Hp->VK->Prop}
end
section
variable{X:Cx}
end
section
variable{X:Cx}{tg:Expr}
end
section
variable{prog:qEq}{w:World}{A:qEs}{E:Value->qEo->Prop}{s:qEo}
end
section
variable{X:Cx}
end
section
variable{prog:qEq}{w:World}{A:qEs}{E:Value->qEo->Prop}{s:qEo}
end
section
variable{X:Cx}
end
section
variable{prog:qEq}{w:World}{A:qEs}{E:Value->qEo->Prop}{s:qEo}
end
section
variable{X:Cx}{o:Expr}{td:TE}{p apos cpos pos:Pos}
end
section
variable{prog:qEq}{w:World}{A:qEs}{E:Value->qEo->Prop}{s:qEo}
end
section
variable{X:Cx}{pins:List (Addr×Obj)}{σ:List (Option V)}{H:Hp}{s:qEo}
end
section
variable{prog:qEq}{w:World}{A:qEs}{E:Value->qEo->Prop}{s:qEo}
end
section
variable{X:Cx}{K:qA0}
end
section
variable{X:Cx}{e m1:Expr}{te ts:TE}{pos p2:Pos}
end
section
variable{X:Cx}{pins:List (Addr×Obj)}{σ:List (Option V)}{H:Hp}{s:qEo}
end
section
variable{X:Cx}
end
section
variable{X:Cx}{m:Str}{k:Nat}{E:XK}{o:Expr}{ta:TE}{apos pos:Pos}{tb:List (Addr×Sp)}
end
end L2
namespace L3
open PySem PySem.Spec
open L2 hiding Rep RepL
open Mi (Dt Xn R okR zA2 optR zA0 zA4 zA7 zA5 zA6 Rh Sl Ro EM TM AM FM IM SM OM Tg Out zAJ zAI zAK full frz frz1 frzAt)
section
variable[Kc]{mg:Str->Option Value}{E:XK}{L n k l:Nat}{te ta tb:TE}{e ea eb:EM}{t u:TS}{m m':SM}
theorem zOV:CBi (fun xs H Q=>(∃i,xs=[.int i]/\Q (.int i) H)\/∃k,xs=[.bl k]/\Q (.int (if k then 1 else 0)) H) Mi.intD n:=by
 intro mg E G H ds vs Q s h p;cases ds with
 |nil=>exact qA4 p
 |cons hd1 tl1=>
  cases hd1 with
  |int i=>
   cases tl1 with
   |nil=>
    obtain⟨x,rfl,hx⟩:=zE5 h;cases(show x=.int i from hx)
    exact .inl ⟨i,rfl,PostE.val p (Ext.refl s) rfl rfl⟩
   |cons _ _=>exact qA4 p
  |bl b=>
   cases tl1 with
   |nil=>
    obtain⟨x,rfl,hx⟩:=zE5 h;cases(show x=.bl b from hx)
    exact .inr ⟨b,rfl,PostE.val p (Ext.refl s) rfl rfl⟩
   |cons _ _=>exact qA4 p
  |_=>exact qA4 p
theorem zLC{f:List Dt->Option Dt}{g:Int->Int->Int}{r:List V->Hp->VK->Prop}(hr:∀i j H Q,Q (.int (g i j)) H->r [.int i,.int j] H Q)(hf:∀i j,f [.int i,.int j]=some (.int (g i j)))(hn:∀ds,(∀i j,ds≠[.int i,.int j])->f ds=none):CBi r f n:=by
 intro mg E G H ds vs Q s h p;by_cases hd:∃i j,ds=[.int i,.int j]
 ·obtain⟨i,j,rfl⟩:=hd;obtain⟨x,y,rfl,hx,hy⟩:=zPB h
  cases(show x=.int i from hx)
  cases(show y=.int j from hy)
  rw[hf]at p;exact hr i j H Q (PostE.val p (Ext.refl s) rfl rfl)
 ·rw[hn ds fun i j e=>hd ⟨i,j,e⟩]at p;exact p.elim
theorem zH1{f:List Dt->Option Dt}(h1:f []=none)(h2:∀x,f [x]=none)(h3:∀x y z r,f (x::y::z::r)=none)(h4:∀x y,(∀i j,[x,y]≠[.int i,.int j])->f [x,y]=none):∀ds,(∀i j,ds≠[.int i,.int j])->f ds=none:=by
 intro ds h
 match ds,h with
 |[],_=>exact h1
 |[x],_=>exact h2 x
 |[x,y],h=>exact h4 x y h
 |x::y::z::r,_=>exact h3 x y z r
theorem zLE:CBi (fun xs H Q=>∃i j,xs=[.int i,.int j]/\Q (.int (if j>i then j else i)) H) Mi.maxD n:=
 zLC (g:=fun i j=>if j>i then j else i) (fun i j H Q q=>⟨i,j,rfl,q⟩) (fun _ _=>rfl) (zH1 rfl (fun x=>by cases x<;>rfl) (fun x y z r=>by cases x<;>cases y<;>rfl) (fun x y h=>by cases x<;>cases y<;>first|rfl|exact absurd rfl (h _ _)))
theorem zLD:CBi (fun xs H Q=>∃i j,xs=[.int i,.int j]/\Q (.int (if j<i then j else i)) H) Mi.minD n:=
 zLC (g:=fun i j=>if j<i then j else i) (fun i j H Q q=>⟨i,j,rfl,q⟩) (fun _ _=>rfl) (zH1 rfl (fun x=>by cases x<;>rfl) (fun x y z r=>by cases x<;>cases y<;>rfl) (fun x y h=>by cases x<;>cases y<;>first|rfl|exact absurd rfl (h _ _)))
theorem zFB(i:Nat){n0 n1:Nat}{t0 t1 t2:TE}{e0 e1 e2:EM}(Z:DE mg E t0 e0 n0)(A:DE mg E t1 e1 n1)(B:DE mg E t2 e2 n)(hn:n<1000:=by decide):DS mg E L (tAsg t2 (gSub (tOp (rIxU Kc.K) (vM i) t0) t1 setM)) (Mi.sItem2 i n e0 e1 e2):=by
 intro G0 H0 S0 σ ρ G H As D a p;obtain⟨J,x,s,w⟩:=a.full;refine B.step (errS.from x) x.in' w p fun d y G1 H1 S _ fr o p1=>?_
 cases er:ρ[i]? with
 |none=>rw[er]at p1;exact p1.elim
 |some sl=>
  rw[er]at p1
  match sl,er,p1 with
  |none,_,p=>exact p.elim
  |some (.lst rs,k+2),er,p1=>
   obtain⟨v,h1,q,xs,T,rfl,hq,kd⟩:=a.at i _ _ er;unfold gSub tOp vM;rw[h1];have x1:Ext J H J H1:=Ext.same x.in' fr.ext.h;refine(zAM Z).step (errS.from (x.trans x1)) x1.in' w p1 fun z0 u0 G2 H2 S2 _ fr2 o2 p2=>?_
   cases z0 with
   |int y0=>
    cases(show u0=.int y0 from o2)
    dsimp only at p2;cases ei:Mi.ixA rs.length y0 with
    |none=>rw[ei]at p2;exact p2.elim
    |some c=>
     rw[ei]at p2;dsimp only at p2;cases erow:rs[c]? with
     |none=>rw[erow]at p2;exact p2.elim
     |some row=>
      rw[erow]at p2;cases row with
      |lst ds=>
       have hc:c<xs.length:=by rw[kd.len];exact(qA2.mp erow).1
       have hxc:xs[c]?=some xs[c]:=qAh hc;obtain⟨qr,ys,U,er2,hqr,kr⟩:=kd.own c _ _ erow hxc;have sH2:=fr.ext.h.trans fr2.ext.h;refine⟨xs,xs[c],.inl (SqL.of (sH2 _ _ hq)),?_,?_⟩
       ·unfold atI;rw[kd.len,<- zH9,ei];exact hxc
       have x2:Ext J H J H2:=Ext.same x.in' sH2;refine(zAM A).step (errS.from (x.trans x2)) x2.in' w p2 fun z u G3 H3 S3 _ fr3 o3 p3=>?_
       cases z with
       |int z=>
        cases(show u=.int z from o3)
        dsimp only at p3;cases ez:Mi.ixA ds.length z with
        |none=>rw[ez]at p3;exact p3.elim
        |some c2=>
         rw[ez]at p3;dsimp only at p3;split at p3
         ·rename_i hz
          rw[zH9]at ez;obtain⟨q1,q2⟩:=whole (k:=k) a s fr o hn hz.1 hz.2;have sH:=sH2.trans fr3.ext.h;rw[er2];refine⟨ys,c2,sH _ _ hqr,by rw[kr.len];exact ez,?_⟩;have a1:=a.grow sH;have tqr:T c qr:=kr.top;have iqr:As i qr:=kd.sub c qr tqr;have nS:¬S qr:=fun z=>(a.new i qr iqr).2.2 (q2 qr z).1
          have qne:q≠qr:=fun z=>kd.out c (z▸tqr)
          have fresh:∀b,As i b->S b->False:=fun b z1 z2=>(a.new i b z1).2.2 (q2 b z2).1
          have kr1:Kids (Own G H3 k) (T c) qr ds ys U:=kr.imp (fun _ _ _ _ w=>w.mono (Same.refl _) sH) fun _ z=>z
          have rowK:=kr1.set (p:=qr) (o:=.lst (ys.set c2 y)) c2 ((q1.mono (Same.refl _) (fr2.ext.h.trans fr3.ext.h)).upd nS) (fun r _=>kr.out r) nS (fun r b _ z1 z2=>fresh b (kd.sub c b (kr.sub r b z1)) z2);refine p3 σ G _ _ (a1.store (S:=fun b=>As i b\/S b) (d:=.lst (rs.set c (.lst (ds.set c2 d)))) (n:=k+2) (v:=.ref q) iqr h1 ⟨q,xs,fun r b=>if r=c then T c b\/S b else T r b,rfl,(zAL qne).trans (sH _ _ hq),⟨by simp[kd.len],fun r d' xr g1 g2=>?_,.inl kd.top,fun r=>?_,fun r r' b z1 z2=>?_,fun r b z=>?_⟩⟩ fun b z=>?_)
          ·by_cases hr:c=r
           ·subst hr;rw[qAe (by rw[<- kd.len];exact hc)]at g1;cases g1;rw[hxc]at g2;cases g2;refine⟨qr,_,_,er2,zAQ,rowK.imp (fun _ _ _ _ w=>w) fun b z=>?_⟩;rw[if_pos rfl];exact z
           ·rw[qAj hr]at g1;have nr:¬T r qr:=fun z=>hr (kd.dis c r qr tqr z)
            exact(((kd.own r d' xr g1 g2).mono (Same.refl _) sH).upd nr).sub fun b z=>by rw[if_neg (fun z=>hr z.symm)];exact z
          ·try dsimp only
           split
           ·exact fun z=>z.elim (kd.out c) fun z=>fresh q kd.top z
           ·exact kd.out r
          ·try dsimp only at z1 z2
           by_cases g1:r=c<;>by_cases g2:r'=c
           ·rw[g1,g2]
           ·rw[if_pos g1]at z1;rw[if_neg g2]at z2
            rcases z1 with z1|z1
            ·rw[g1];exact kd.dis c r' b z1 z2
            ·exact(fresh b (kd.sub r' b z2) z1).elim
           ·rw[if_neg g1]at z1;rw[if_pos g2]at z2
            rcases z2 with z2|z2
            ·rw[g2];exact kd.dis r c b z1 z2
            ·exact(fresh b (kd.sub r b z1) z2).elim
           ·rw[if_neg g1]at z1;rw[if_neg g2]at z2;exact kd.dis r r' b z1 z2
          ·try dsimp only at z
           by_cases g1:r=c
           ·rw[if_pos g1]at z
            rcases z with z|z
            ·exact .inl (kd.sub c b z)
            ·exact .inr z
           ·rw[if_neg g1]at z;exact .inl (kd.sub r b z)
          ·rcases z with z|z
           ·exact .inl z
           ·obtain⟨n1,n2,n3⟩:=q2 b z;exact .inr ⟨a.ext.h.free n1,n2,(fr2.ext.h.trans fr3.ext.h).some n3,fun j y=>(a.new j b y).2.2 n1⟩
         ·exact p3.elim
       |_=>exact p3.elim
      |_=>exact p2.elim
   |_=>exact p2.elim
  |some (.lst ds,0),_,p=>exact p.elim
  |some (.lst ds,1),_,p=>exact p.elim
  |some (.non,_),_,p=>exact p.elim
  |some (.bl _,_),_,p=>exact p.elim
  |some (.int _,_),_,p=>exact p.elim
  |some (.str _,_),_,p=>exact p.elim
  |some (.tup _,_),_,p=>exact p.elim
  |some (.scr _,_),_,p=>exact p.elim
  |some (.exc _ _ _,_),_,p=>exact p.elim
  |some (.fn _ _,_),_,p=>exact p.elim
  |some (.dsk _ _,_),_,p=>exact p.elim
  |some (.fnc _,_),_,p=>exact p.elim
  |some (.dtt _ _,_),_,p=>exact p.elim
  |some (.loc _ _,_),_,p=>exact p.elim
  |some (.ins _ _,_),_,p=>exact p.elim
  |some (.dct _,_),_,p=>exact p.elim
end
section
variable[Kc]{mg:Str->Option Value}{E:XK}{L n k l:Nat}{te ta tb:TE}{e ea eb ma:EM}{t:TA}{m:AM}
theorem zOE{G:Hp}(z:Str):ItOk (Its z) G (Mi.signsD z):=by
 intro i G1 H1 s1 s2;have hl:(Mi.signsD z).length=z.cps.size:=by simp[Mi.signsD]
 refine⟨fun hi=>by rw[hl]at hi;exact hi,fun hi=>by rw[hl]at hi;exact hi,fun x H2 d hd hy=>?_⟩;obtain⟨rfl,c,hc,rfl⟩:=hy;refine⟨G1,Ext.refl s2,?_⟩;unfold Mi.signsD at hd;rw[qAf]at hd;have hc':z.cps.toList[i]?=some c:=by simpa using hc
 rw[hc']at hd;cases hd;rfl
theorem zEE(A:DE mg E ta ma k):DI mg E (iAny Kc.K ta) (Mi.iSq ma) false:=by
 intro G H σ ρ Q s w p;refine(zAM A).step errI s w p fun d v G1 H1 S _ fr o p1=>?_
 cases d with
 |lst ds=>
  obtain⟨a,xs,rfl,ha,r⟩:=o;exact .inl ⟨⟨xs,SqL.of (fr.ext.in' _ _ ha)⟩,p1 _ G1 H1 fr.ext (zL3 (SqL.of ha) r)⟩
 |tup ds=>
  obtain⟨a,xs,rfl,ha,r⟩:=o;exact .inr ⟨⟨xs,SqT.of (fr.ext.in' _ _ ha)⟩,p1 _ G1 H1 fr.ext (zL2 (SqT.of ha) r)⟩
 |scr ns=>
  obtain⟨a,rfl,ha⟩:=o;rcases ha.old with ha|ha
  ·exact .inl ⟨⟨_,fr.ext.in'.seq ha⟩,p1 _ G1 H1 fr.ext (zL3 ha (zCJ ns))⟩
  ·exact .inr ⟨⟨_,zFS fr.ext.in' ha⟩,p1 _ G1 H1 fr.ext (zL2 ha (zCJ ns))⟩
 |str z=>
  cases(show v=.str z from o)
  exact p1 _ G1 H1 fr.ext (zOE z)
 |_=>exact p1.elim
end
end L3
namespace Mi
open PySem
def noE{α:Type}(r:R α):R α:=match r with
 |some (.ok a)=>okR a
 |_=>none
def zOK(f:FM)(am:AM):EM:=fun ρ=>zA2 (am ρ) fun ds=>noE (f ds)
def eMkX(c f:Str)(am:AM):EM:=fun ρ=>zA2 (am ρ) fun ds=>match ds with
 |[d]=>okR (.exc c f d)
 |_=>none
def zNA(c f:Str)(am:AM):SM:=fun r=>zA2 (am (full r)) fun ds=>match ds with
 |[d]=>some (.error ⟨c,f,d⟩)
 |_=>none
def eAtX(hs:List Str)(f:Str)(a:EM):EM:=fun ρ=>zA2 (a ρ) fun d=>match d with
 |.exc c g x=>if c∈hs/\g=f then okR x else none
 |_=>none
def eIsX(ys ns:List Str)(a:EM):EM:=fun ρ=>zA2 (a ρ) fun d=>match d with
 |.exc c _ _=>if c∈ys then okR (.bl true)else if c∈ns then okR (.bl false)else none
 |_=>none
noncomputable def zOH(i:Nat):Out->Out
 |.nx r=>.nx (r.set i none)
 |.rt d=>.rt d
 |.bk r=>.bk (r.set i none)
 |.ct r=>.ct (r.set i none)
section
variable(ρ:Rh)(r:Ro)(a b c:EM)(s t:SM)(q q':TM)(am:AM)
@[simp] theorem x_eC(d:Dt):eC d ρ=okR d:=rfl
@[simp] theorem x_eV(i:Nat):eV i ρ=match ρ[i]? with|some (some d)=>okR d|_=>none:=rfl
@[simp] theorem x_eB(f:Dt->Dt->Option Dt):eB f a b ρ=zA2 (a ρ) fun x=>zA2 (b ρ) fun y=>optR (f x y):=rfl
@[simp] theorem x_eU(f:Dt->Option Dt):eU f a ρ=zA2 (a ρ) fun x=>optR (f x):=rfl
@[simp] theorem zER:aNil ρ=okR []:=rfl
@[simp] theorem zD3:aCons a am ρ=zA2 (a ρ) fun x=>zA2 (am ρ) fun xs=>okR (x::xs):=rfl
@[simp] theorem zGJ(f:FM):eCall f am ρ=zA2 (am ρ) f:=rfl
@[simp] theorem zLJ(f:List Dt->Option Dt):eBi f am ρ=zA2 (am ρ) fun xs=>optR (f xs):=rfl
@[simp] theorem x_eLst:eLst am ρ=zA2 (am ρ) fun xs=>@ite _ (xs.length<=100000) (qA1 _) (okR (.lst xs)) none:=rfl
@[simp] theorem x_eTup:eTup am ρ=zA2 (am ρ) fun xs=>@ite _ (xs.length<=100000) (qA1 _) (okR (.tup xs)) none:=rfl
@[simp] theorem x_eIsi(n:String):eIsi n a ρ=zA2 (a ρ) fun x=>optR (isiD n x):=rfl
@[simp] theorem x_eAnd:eAnd a b ρ=zA2 (a ρ) fun x=>match x with | .bl k=>if k=true then b ρ else okR (.bl false)|_=>none:=rfl
@[simp] theorem x_eOr:eOr a b ρ=zA2 (a ρ) fun x=>match x with | .bl k=>if k=true then okR (.bl true)else b ρ|_=>none:=rfl
@[simp] theorem x_eNot:eNot a ρ=zA2 (a ρ) fun x=>match x with | .bl k=>okR (.bl (!k))|_=>none:=rfl
@[simp] theorem x_eChain(f g:Dt->Dt->Option Dt):eChain f g a b c ρ=zA2 (a ρ) fun x=>zA2 (b ρ) fun y=>zA2 (optR (f x y)) fun z=>match z with | .bl k=>if k=true then zA2 (c ρ) fun w=>optR (g y w)else okR (.bl false)|_=>none:=rfl
@[simp] theorem x_eIf:eIf q a b ρ=zA2 (q ρ) fun k=>if k=true then a ρ else b ρ:=rfl
@[simp] theorem x_tB:tB a ρ=zA2 (a ρ) fun x=>match x with | .bl k=>okR k|_=>none:=rfl
@[simp] theorem x_tM:tM a ρ=zA2 (a ρ) fun x=>match x with | .bl k=>okR k | .int i=>okR (i != 0) | .non=>okR false|_=>none:=rfl
@[simp] theorem zMY:tAn q q' ρ=zA2 (q ρ) fun k=>if k=true then q' ρ else okR false:=rfl
@[simp] theorem zLH:tOr q q' ρ=zA2 (q ρ) fun k=>if k=true then okR true else q' ρ:=rfl
@[simp] theorem zP0:tNo q ρ=zA2 (q ρ) fun k=>okR (!k):=rfl
@[simp] theorem zMX:tYes ρ=okR true:=rfl
@[simp] theorem zKP:sNil r=okR (.nx r):=rfl
@[simp] theorem zDZ:sSeq s t r=zA2 (s r) fun o=>match o with | .nx ρ'=>t ρ'|o=>okR o:=rfl
@[simp] theorem zHX:sIf q s t r=zA2 (q (full r)) fun k=>if k=true then s r else t r:=rfl
@[simp] theorem x_sDrop:zP8 a r=zA2 (a (full r)) fun _=>okR (.nx r):=rfl
@[simp] theorem x_sBreak:zNC r=okR (.bk r):=rfl
@[simp] theorem x_sCont:zPA r=okR (.ct r):=rfl
@[simp] theorem x_sNever:zNB r=none:=rfl
@[simp] theorem x_sRetN:zP6 r=okR (.rt .non):=rfl
@[simp] theorem zKN(i n:Nat)(vs:List Nat):sSet i n vs a r=zA2 (a (full r)) fun d=>if d.dep<=n then okR (.nx (r.set i (some (d,n))))else zA2 (a (frz (frzAt vs r))) fun d'=>okR (.nx ((frzAt vs r).set i (some (d',n)))):=rfl
@[simp] theorem zKO(L n:Nat)(vs:List Nat):sRet L n vs a r=zA2 (a (full r)) fun d=>if d.dep<=n/\d.dep<=L then okR (.rt d)else if n=L then zA2 (a (frz (frzAt vs r))) fun d'=>okR (.rt d')else none:=rfl
@[simp] theorem x_sRetV(L i:Nat):sRetV L i r=match r[i]? with|some (some (d,k))=>if k=L\/L=0\/(d.dep<=k/\d.dep<=L/\k<1000)then okR (.rt d)else none|_=>none:=rfl
@[simp] theorem x_full_nil:full []=[]:=rfl
@[simp] theorem zGI(o:Option Sl)(r:Ro):full (o::r)=o.map Prod.fst::full r:=rfl
@[simp] theorem x_frz_nil:frz []=[]:=rfl
@[simp] theorem x_frz_none(r:Ro):frz (none::r)=none::frz r:=rfl
@[simp] theorem x_frz_some(d:Dt)(n:Nat)(r:Ro):frz (some (d,n)::r)=(if n=0\/d.dep=0 then some d else none)::frz r:=rfl
@[simp] theorem x_frzAt_nil(r:Ro):frzAt [] r=r:=rfl
@[simp] theorem x_frzAt_cons(i:Nat)(v:List Nat)(r:Ro):frzAt (i::v) r=frzAt v (frz1 i r):=rfl
@[simp] theorem x_frz1(i:Nat)(r:Ro):frz1 i r=match r[i]? with|some (some (d,_))=>r.set i (some (d,0))|_=>r:=rfl
@[simp] theorem x_startO(n:Nat)(ds:List Dt):startO n ds=ds.map (fun d=>some (d,0))++qAb (n-ds.length) none:=rfl
@[simp] theorem x_runF(P n:Nat)(ds:List Dt):runF P n s ds=if ds.length=P then zA2 (s (startO n ds)) endF else none:=rfl
@[simp] theorem x_end1(r:Ro):endF (.nx r)=okR .non:=rfl
@[simp] theorem x_end2(d:Dt):endF (.rt d)=okR d:=rfl
end
@[simp] theorem v_add(i j:Int):addD (.int i) (.int j)=some (.int (i+j)):=rfl
@[simp] theorem zMZ(i j:Str):addD (.str i) (.str j)=@ite _ (i.length+j.length<=100000) (qA1 _) (some (.str (i++j))) none:=rfl
@[simp] theorem v_addL(i j:List Dt):addD (.lst i) (.lst j)=@ite _ (i.length+j.length<=100000) (qA1 _) (some (.lst (i++j))) none:=rfl
@[simp] theorem v_sub(i j:Int):subD (.int i) (.int j)=some (.int (i-j)):=rfl
@[simp] theorem zHH(i j:Int):mulD (.int i) (.int j)=@ite _ (((-18446744073709551616<i/\i<18446744073709551616)\/(-18446744073709551616<j/\j<18446744073709551616))\/i.natAbs.log2+j.natAbs.log2<=67108864) (qA1 _) (some (.int (i*j))) none:=rfl
@[simp] theorem v_div(i j:Int):divD (.int i) (.int j)=@ite _ (0<j/\j<1000000000000000000000000) (qA1 _) (some (.int (i/j))) none:=rfl
@[simp] theorem v_mod(i j:Int):modD (.int i) (.int j)=if 0<j then some (.int (i%j))else none:=rfl
@[simp] theorem v_pow(i j:Int):powD (.int i) (.int j)=@ite _ (0<=j/\j<=1000000/\i.natAbs<18446744073709551616) (qA1 _) (some (.int (i ^ j.toNat))) none:=rfl
@[simp] theorem v_neg(i:Int):negD (.int i)=some (.int (-i)):=rfl
@[simp] theorem v_cmp(p:Int->Int->Bool)(i j:Int):cmpD p (.int i) (.int j)=some (.bl (p i j)):=rfl
@[simp] theorem v_eq(x y:Dt):eqD x y=if x.dep<=40/\y.dep<=40 then some (.bl (Dt.eq x y))else none:=rfl
@[simp] theorem v_ne(x y:Dt):neD x y=if x.dep<=40/\y.dep<=40 then some (.bl (!Dt.eq x y))else none:=rfl
@[simp] theorem v_is(x:Dt):isD x .non=some (.bl (zCX x)):=rfl
@[simp] theorem v_isnt(x:Dt):zPR x .non=some (.bl (!zCX x)):=rfl
@[simp] theorem v_isN1:zCX .non=true:=rfl
@[simp] theorem v_isN2(i:Int):zCX (.int i)=false:=rfl
@[simp] theorem v_isN3(i:List Dt):zCX (.lst i)=false:=rfl
@[simp] theorem v_isN4(i:List Dt):zCX (.tup i)=false:=rfl
@[simp] theorem v_isN5(i:Str):zCX (.str i)=false:=rfl
@[simp] theorem v_isN6(i:Bool):zCX (.bl i)=false:=rfl
@[simp] theorem v_ixL(xs:List Dt)(i:Int):ixD (.lst xs) (.int i)=itA xs i:=rfl
@[simp] theorem v_ixT(xs:List Dt)(i:Int):ixD (.tup xs) (.int i)=itA xs i:=rfl
@[simp] theorem v_ixS(ns:List Int)(i:Int):ixD (.scr ns) (.int i)=(itA ns i).map .int:=rfl
@[simp] theorem v_lenL(xs:List Dt):lenD [.lst xs]=some (.int xs.length):=rfl
@[simp] theorem v_lenT(xs:List Dt):lenD [.tup xs]=some (.int xs.length):=rfl
@[simp] theorem v_lenS(ns:List Int):lenD [.scr ns]=some (.int ns.length):=rfl
@[simp] theorem v_listL(xs:List Dt):zK0 [.lst xs]=some (.lst xs):=rfl
@[simp] theorem v_listT(xs:List Dt):zK0 [.tup xs]=some (.lst xs):=rfl
@[simp] theorem v_listS(ns:List Int):zK0 [.scr ns]=some (.lst (ns.map .int)):=rfl
@[simp] theorem v_dn:Dt.non.dep=0:=rfl
@[simp] theorem v_db(b:Bool):(Dt.bl b).dep=0:=rfl
@[simp] theorem v_di(b:Int):(Dt.int b).dep=0:=rfl
@[simp] theorem v_ds(b:Str):(Dt.str b).dep=0:=rfl
@[simp] theorem v_dS(b:List Int):(Dt.scr b).dep=1000:=by rw[Dt.dep]
@[simp] theorem v_dl(xs:List Dt):(Dt.lst xs).dep=Dt.depL xs+1:=by rw[Dt.dep]
@[simp] theorem v_dt(xs:List Dt):(Dt.tup xs).dep=Dt.depL xs+1:=by rw[Dt.dep]
@[simp] theorem v_dnil:Dt.depL []=0:=by rw[Dt.depL]
@[simp] theorem zE0(x:Dt)(r:List Dt):Dt.depL (x::r)=max x.dep (Dt.depL r):=by rw[Dt.depL]
@[simp] theorem v_e1(i j:Int):Dt.eq (.int i) (.int j)=decide (i=j):=by rw[Dt.eq];by_cases h:i=j<;>simp[h]
@[simp] theorem v_e2(i j:Str):Dt.eq (.str i) (.str j)=decide (i=j):=by rw[Dt.eq];by_cases h:i=j<;>simp[h]
@[simp] theorem v_e3(i j:Bool):Dt.eq (.bl i) (.bl j)=decide (i=j):=by rw[Dt.eq];by_cases h:i=j<;>simp[h]
@[simp] theorem v_e4(i j:List Dt):Dt.eq (.lst i) (.lst j)=Dt.eqL i j:=by rw[Dt.eq]
@[simp] theorem v_e5(i j:List Dt):Dt.eq (.tup i) (.tup j)=Dt.eqL i j:=by rw[Dt.eq]
@[simp] theorem v_e6:Dt.eq .non .non=true:=by rw[Dt.eq]
@[simp] theorem zEG:∀(ns:List Int),Dt.depL (ns.map Dt.int)=0
 |[]=>by simp
 |n::r=>by rw[qAn,zE0,zEG r];rfl
@[simp] theorem zKA:∀(xs ys:List Dt),Dt.depL (xs++ys)=max (Dt.depL xs) (Dt.depL ys)
 |[],ys=>by simp
 |x::r,ys=>by rw[List.cons_append,zE0,zE0,zKA r ys];exact(Nat.max_assoc _ _ _).symm
@[simp] theorem zDX:∀(ns ms:List Int),Dt.eqL (ns.map Dt.int) (ms.map Dt.int)=decide (ns=ms)
 |[],[]=>by simp[Dt.eqL]
 |[],_::_=>by simp[Dt.eqL]
 |_::_,[]=>by simp[Dt.eqL]
 |n::r,m::q=>by rw[qAn,qAn,Dt.eqL,zDX r q,v_e1];simp
theorem zIS{α:Type}{xs:List α}{i:Int}{j:Nat}{v:α}(e:i=(j:Int))(h:xs[j]?=some v):itA xs i=some v:=by
 have hj:j<xs.length:=(qA2.mp h).1;subst e;unfold itA ixA;rw[if_pos (by lia),if_pos (by lia)]
 simpa using h
theorem zIQ{n:Nat}{i:Int}(h0:0<=i)(h1:i<n):ixA n i=some i.toNat:=by
 unfold ixA;rw[if_pos h0,if_pos h1]
theorem zMA{ns:List Int}{i:Int}(h0:0<=i)(h1:i<ns.length):itA ns i=some (ns.getD i.toNat 0):=by
 refine zIS (j:=i.toNat) (by lia) ?_;rw[qA3,qAh (by lia)];rfl
@[simp] theorem set_int(ns:List Int)(i:Nat)(x:Int):(ns.map Dt.int).set i (.int x)=(ns.set i x).map Dt.int:=by rw[List.map_set]
theorem zHD{ρ:Rh}{k:Nat}{tg:Tg}{c:TM}{e:EM}(f:Dt->Dt):∀(ds acc:List Dt),(∀d∈ds,∃bs,zAJ tg d=some bs/\c (zAI (ρ++qAb k none) bs)=okR true/\e (zAI (ρ++qAb k none) bs)=okR (f d))->compGo ρ k tg c e ds acc=okR (acc++ds.map f)
 |[],acc,_=>by simp[compGo]
 |d::ds,acc,h=>by
  obtain⟨bs,h1,h2,h3⟩:=h d (by simp);rw[compGo,h1];simp only;rw[h2,zA0,if_pos rfl,h3,zA0,zHD f ds (acc++[f d]) fun d hd=>h d (by simp[hd])];simp
theorem zJ2{tg:Tg}{b:SM}(Pv:Nat->Ro->Prop):∀(ds:List Dt)(i:Nat)(r:Ro),Pv i r->(∀(j:Nat)(d:Dt)(r:Ro),ds[j]?=some d->Pv (i+j) r->∃bs r',zAJ tg d=some bs/\b (zAK r bs)=okR (.nx r')/\Pv (i+j+1) r') ->
  ∃r',forGo tg b ds r=okR (.nx r')/\Pv (i+ds.length) r'
 |[],i,r,h,_=>⟨r,by simp[forGo],by simpa using h⟩
 |d::ds,i,r,h,hs=>by
  obtain⟨bs,r1,h1,h2,h3⟩:=hs 0 d r (by simp) (by simpa using h);obtain⟨r2,h4,h5⟩:=zJ2 Pv ds (i+1) r1 (by simpa using h3) fun j e r he hp=>by
   have:=hs (j+1) e r (by simpa using he) (by rw[show i+(j+1)=i+1+j by lia];exact hp)
   rw[show i+1+j+1=i+(j+1)+1 by lia];exact this
  refine⟨r2,?_,by rw[qAz,show i+(ds.length+1)=i+1+ds.length by lia];exact h5⟩;rw[forGo,h1];simp only;rw[h2,zA0];exact h4
section
variable(ρ:Rh)(r:Ro)(a:EM)(am:AM)(s:SM)
@[simp] theorem x_noE_ok{α:Type}(x:α):noE (okR x)=okR x:=rfl
@[simp] theorem x_noE_none{α:Type}:noE (none:R α)=none:=rfl
@[simp] theorem x_noE_err{α:Type}(e:Xn):noE (some (.error e):R α)=none:=rfl
@[simp] theorem x_eCallN(f:FM):zOK f am ρ=zA2 (am ρ) fun ds=>noE (f ds):=rfl
@[simp] theorem x_eMkX(c f:Str):eMkX c f am ρ=zA2 (am ρ) fun ds=>match ds with|[d]=>okR (.exc c f d)|_=>none:=rfl
@[simp] theorem x_sRaise(c f:Str):zNA c f am r=zA2 (am (full r)) fun ds=>match ds with|[d]=>some (.error ⟨c,f,d⟩)|_=>none:=rfl
@[simp] theorem x_eAtX(hs:List Str)(f:Str):eAtX hs f a ρ=zA2 (a ρ) fun d=>match d with | .exc c g x=>if c∈hs/\g=f then okR x else none|_=>none:=rfl
@[simp] theorem x_eIsX(ys ns:List Str):eIsX ys ns a ρ=zA2 (a ρ) fun d=>match d with | .exc c _ _=>if c∈ys then okR (.bl true)else if c∈ns then okR (.bl false)else none|_=>none:=rfl
@[simp] theorem x_gone_nx(i:Nat):zOH i (.nx r)=.nx (r.set i none):=rfl
@[simp] theorem x_gone_rt(i:Nat)(d:Dt):zOH i (.rt d)=.rt d:=rfl
end
example (d:Dt):True:=trivial
noncomputable def xorD:Dt->Dt->Option Dt
 |.int i,.int j=>some (.int (qGy i j))
 |_,_=>none
noncomputable def repD:Dt->Dt->Option Dt
 |.lst xs,.int k=>@ite _ ((-4611686018427387904<=k/\k<4611686018427387904)/\xs.length*k.toNat<=100000) (qA1 _) (some (.lst (qAb k.toNat xs).flatten)) none
 |_,_=>none
def tL(a:EM):TM:=fun ρ=>zA2 (a ρ) fun x=>match x with
 |.bl k=>okR k
 |.int i=>okR (i != 0)
 |.non=>okR false
 |.lst xs=>okR (!xs.isEmpty)
 |.tup xs=>okR (!xs.isEmpty)
 |_=>none
def iRv(e:AM):IM:=fun ρ=>zA2 (e ρ) fun vs=>match vs with
 |[.lst xs]=>okR xs.reverse
 |_=>none
noncomputable def zMB:List Dt->Option (List Int)
 |[]=>some []
 |.int i::r=>(zMB r).map (i::·)
 |_::_=>none
def eMl(f:List Dt->List Dt->Option Dt)(a:EM)(am:AM):EM:=fun ρ=>zA2 (a ρ) fun x=>match x with
 |.lst xs=>zA2 (am ρ) fun ds=>optR (f xs ds)
 |_=>none
def sExt(i n:Nat)(e:EM):SM:=fun ρ=>match ρ[i]? with
 |some (some (.lst ds,k+1))=>zA2 (e (full ρ)) fun d=>match d with
  |.lst es=>@ite _ (ds.length+es.length<=100000/\Dt.depL es<=n/\Dt.depL es<=k) (qA1 _) (okR (.nx (ρ.set i (some (.lst (ds++es),k+1))))) none
  |_=>none
 |_=>none
noncomputable def low(i:Nat)(ρ:Ro):Ro:=match ρ[i]? with
 |some (some (.lst ds,_+1))=>ρ.set i (some (.lst ds,1))
 |_=>ρ
def zND(i:Nat)(vs:List Nat)(e:EM):SM:=fun ρ=>match(frzAt vs (low i ρ))[i]? with
 |some (some (.lst ds,1))=>zA2 (e (frz (frzAt vs (low i ρ)))) fun d=>@ite _ (ds.length<=100000) (qA1 _) (okR (.nx ((frzAt vs (low i ρ)).set i (some (.lst (ds++[d]),1))))) none
 |_=>none
noncomputable def strD:List Dt->Option Dt
 |[.int i]=>@ite _ (i.natAbs.log2<1920) (qA1 _) (some (.str (toString i:String))) none
 |_=>none
def sumD:List Dt->Option Dt
 |[.lst ds]=>match zMB ds with
  |some ns=>@ite _ (ns.length<=100000/\∀n∈ns,-1000000<=n/\n<=1000000) (qA1 _) (some (.int ns.sum)) none
  |none=>none
 |_=>none
noncomputable def topI:List Int->Int
 |[]=>0
 |[x]=>x
 |x::y::r=>max x (topI (y::r))
def maxL:List Dt->Option Dt
 |[.int i,.int j]=>some (.int (if j>i then j else i))
 |[.lst ds]=>match zMB ds with
  |some (n::ns)=>some (.int (topI (n::ns)))
  |_=>none
 |_=>none
def sPopD(i:Nat)(e:EM):SM:=fun ρ=>match ρ[i]? with
 |some (some (.lst ds,k+1))=>zA2 (e (full ρ)) fun d=>match d with
  |.int z=>match ixA ds.length z with
   |some q=>@ite _ (ds.length<=1000000) (qA1 _) (okR (.nx (ρ.set i (some (.lst (ds.eraseIdx q),k+1))))) none
   |none=>none
  |_=>none
 |_=>none
def sApp2(i n:Nat)(e0 e:EM):SM:=fun ρ=>match ρ[i]? with
 |some (some (.lst rs,k+2))=>zA2 (e0 (full ρ)) fun y=>match y with
  |.int y=>match ixA rs.length y with
   |some p=>match rs[p]? with
    |some (.lst ds)=>zA2 (e (full ρ)) fun d=>@ite _ (ds.length<=100000/\d.dep<=n/\d.dep<=k) (qA1 _) (okR (.nx (ρ.set i (some (.lst (rs.set p (.lst (ds++[d]))),k+2))))) none
    |_=>none
   |none=>none
  |_=>none
 |_=>none
noncomputable def svD:Dt->Option Sv
 |.int i=>some (.i i)
 |.str x=>some (.s x)
 |_=>none
def svsD:List Dt->Option (List Sv)
 |[]=>some []
 |d::r=>match svD d,svsD r with
  |some v,some vs=>some (v::vs)
  |_,_=>none
noncomputable def dSv:Sv->Dt
 |.i n=>.int n
 |.s x=>.str x
def eNew(c:Str)(fl:List Str)(am:AM):EM:=fun ρ=>zA2 (am ρ) fun ds=>match svsD ds with
 |some vs=>if vs.length=fl.length then okR (.ins c (fl.zip vs))else none
 |none=>none
def zPV(c:Str):EM:=fun _=>okR (.ins c [])
def eFld(hs:List Str)(f:Str)(e:EM):EM:=fun ρ=>zA2 (e ρ) fun d=>match d with
 |.ins c fs=>if c∈hs then(match fs.lookup f with|some v=>okR (dSv v)|none=>none)else none
 |_=>none
def zPW(tb:List (Str×FM))(m:Str)(e:EM)(am:AM):EM:=fun ρ=>zA2 (e ρ) fun d=>match d with
 |.ins c fs=>match tb.lookup c with
  |some g=>match fs.lookup m with
   |none=>zA2 (am ρ) fun ds=>g (d::ds)
   |some _=>none
  |none=>none
 |_=>none
def eIsO(ys ns:List Str)(e:EM):EM:=fun ρ=>zA2 (e ρ) fun d=>match d with
 |.ins c _=>if c∈ys then okR (.bl true)else if c∈ns then okR (.bl false)else none
 |_=>none
noncomputable def kyD:Dt->Option (Sum Int Str)
 |.int i=>some (.inl i)
 |.str x=>some (.inr x)
 |_=>none
noncomputable def swD:Dt->Option Sw
 |.non=>some .non
 |.bl b=>some (.bl b)
 |.int i=>some (.int i)
 |.str x=>some (.str x)
 |_=>none
noncomputable def getW(kvs:List (Sum Int Str×Sw))(k:Sum Int Str):Option Sw:=(kvs.find? fun p=>decide (p.1=k)).map (·.2)
noncomputable def putW(kvs:List (Sum Int Str×Sw))(k:Sum Int Str)(v:Sw):List (Sum Int Str×Sw):=
 if(kvs.any fun p=>decide (p.1=k))=true then kvs.map (fun p=>if p.1=k then(p.1,v)else p)else kvs++[(k,v)]
def eDct0:EM:=fun _=>okR (.dct [])
def dinD(ng:Bool)(x y:Dt):Option Dt:=match y with
 |.dct kvs=>match kyD x with
  |some k=>some (.bl (if ng=true then !(getW kvs k).isSome else(getW kvs k).isSome))
  |none=>none
 |_=>none
def zP9(i:Nat)(e1 e2:EM):SM:=fun ρ=>zA2 (e2 (full ρ)) fun v=>match ρ[i]? with
 |some (some (.dct kvs,k+1))=>zA2 (e1 (full ρ)) fun y=>match kyD y,swD v with
  |some q,some u=>@ite _ (kvs.length<=100000) (qA1 _) (okR (.nx (ρ.set i (some (.dct (putW kvs q u),k+1))))) none
  |_,_=>none
 |_=>none
def zKY:List Dt->Option (List (Sum Int Str×Sw))
 |[]=>some []
 |.tup [a,b]::r=>match kyD a,swD b,zKY r with
  |some k,some v,some q=>some ((k,v)::q)
  |_,_,_=>none
 |_::_=>none
def zP7(i:Nat)(e:EM):SM:=fun ρ=>match ρ[i]? with
 |some (some (.dct kvs,k+1))=>zA2 (e (full ρ)) fun d=>match d with
  |.lst ds=>match zKY ds with
   |some ps=>@ite _ (kvs.length+ps.length<=50000) (qA1 _) (okR (.nx (ρ.set i (some (.dct (ps.foldl (fun m p=>putW m p.1 p.2) kvs),k+1))))) none
   |none=>none
  |_=>none
 |_=>none
noncomputable def lamF(n:Nat)(e:EM):FM:=fun ds=>if ds.length=n then e (ds.map some)else none
end Mi
namespace L3
open PySem PySem.Spec
open L2 hiding Rep RepL
open Mi (Dt Xn R okR zA2 optR zA0 zA4 zA7 zA5 zA6 Rh Sl Ro EM TM AM FM IM SM OM Tg Out zAJ zAI zAK full frz frz1 frzAt)
section
variable[Kc]{mg:Str->Option Value}{E:XK}{L n k l:Nat}{te ta tb:TE}{e ea eb ma:EM}{t:TA}{m:AM}
def spInit(K:qA0)(f:Str):Sp:=fun vs H Q _=>∃e C y,vs=[.ref e,y]/\H e=some (xn e (.ref C) none)/\PySem.W.xcIn K C=true/\XSet K C f/\∀d,H d=none->d≠e->Q .non (upd (upd H d (.xd [(f,y)])) e (xn e (.ref C) (some d)))
end
section
variable{X:Cx}{c:Str}{fl:List Str}{C:Addr}{k:Nat}{E:XK}{e:Expr}{es:List Expr}{t:TA}{p pos:Pos}
end
section
variable[Kc]{mg:Str->Option Value}{E:XK}{L n k l:Nat}{te ta tb:TE}{e ea eb ma:EM}{t:TA}{m:AM}
end
section
variable[Kc]{mg:Str->Option Value}{E:XK}{L n k l:Nat}
end
section
variable[Kc]{mg:Str->Option Value}{E:XK}{L n k l:Nat}{te ta tb:TE}{e ea eb ma:EM}{t:TA}{m:AM}
end
section
variable[Kc]{mg:Str->Option Value}{E:XK}{L n k l:Nat}
end
section
variable[Kc]{mg:Str->Option Value}{E:XK}{L n k l:Nat}{te:TE}{e:EM}
section
variable{G0 H0 S0:Hp}{σ:St}{ρ:Ro}{G H:Hp}{As:Nat->Addr->Prop}
end
end
section
variable[Kc]{mg:Str->Option Value}{E:XK}{L n k l:Nat}{te ta tb tx td:TE}{e ea eb ex ed ma:EM}{t:TA}{m:AM}
end
section
variable[Kc]{mg:Str->Option Value}{E:XK}{L n k l:Nat}
end
section
variable[Kc]{mg:Str->Option Value}{E:XK}{L n k l:Nat}{te ta tb:TE}{e ea eb ma:EM}{t:TA}{m:AM}
end
end L3
namespace L3
open PySem PySem.Spec
open L2 hiding Rep RepL
open Mi (Dt Xn R okR zA2 optR zA0 zA4 zA7 zA5 zA6 Rh Sl Ro EM TM AM FM IM SM Tg Out zAJ zAI zAK full frz frz1 frzAt)
section
variable[Kc]{mg:Str->Option Value}{E:XK}{L n k l:Nat}{te ta tb:TE}{e ea eb ma:EM}{t:TA}{m:AM}
end
section
variable[Kc]{G0 H0 S0:Hp}{σ:St}{ρ:Ro}{G H:Hp}{As:Nat->Addr->Prop}
end
section
variable[Kc]{mg:Str->Option Value}{E:XK}{L n k l:Nat}{te ta tb:TE}{e ea eb ma:EM}{t:TA}{m:AM}
theorem zML(i:Nat)(A:DE mg E te e n):DS mg E L (zEZ (tML popM (vM i) (zD5 te tNil))) (Mi.sPopD i e):=by
 intro G0 H0 S0 σ ρ G H As D a p;obtain⟨J,x,s,w⟩:=a.full;unfold Mi.sPopD at p;split at p
 ·rename_i ds k e1
  obtain⟨v,h1,q,xs,T,rfl,hq,kd⟩:=a.at i _ _ e1;unfold zEZ tML vM;rw[h1];refine⟨xs,hq,?_⟩;refine(zAM A).step (errS.from x) x.in' w p fun d y G1 H1 S ee fr o p1=>?_
  split at p1
  ·rename_i z
   cases(show y=.int z from o)
   split at p1
   ·rename_i c ei
    split at p1
    ·rename_i hz
     rw[zH9]at ei;obtain⟨g1,g2,g3,g4⟩:=zGQ ei;have hc:c<xs.length:=by rw[kd.len];exact g2
     have hx:xs[c]?=some xs[c]:=qAh hc;refine⟨xs,c,xs[c],fr.ext.h _ _ hq,⟨by lia,by lia⟩,by rw[kd.len];exact g1,hx,?_⟩;have a1:=a.grow fr.ext.h;have kd1:Kids (Own G H1 k) (As i) q ds xs T:=kd.imp (fun _ _ _ _ w=>w.mono (Same.refl _) fr.ext.h) fun _ z=>z
     exact p1 _ G _ _ (a1.store (o:=.lst (xs.eraseIdx c)) (n:=k+1) (d:=.lst (ds.eraseIdx c)) (S:=fun b=>As i b/\¬T c b) kd.top h1 ⟨q,_,_,rfl,zAQ,zNY (kd1.pop c) fun r=>by split<;>exact kd.out _⟩ fun b z=>.inl z.1)
    ·exact p1.elim
   ·exact p1.elim
  ·exact p1.elim
 ·exact p.elim
end
section
variable[Kc]{G0 H0 S0:Hp}{σ:St}{ρ:Ro}{G H:Hp}{As:Nat->Addr->Prop}
theorem Sat.row(a:Sat G0 H0 S0 σ ρ G H As){i k c:Nat}{rs ds:List Dt}{q:Addr}(er:ρ[i]?=some (some (.lst rs,k+2)))(hv:σ[i]?=some (some (.ref q)))(ec:rs[c]?=some (.lst ds)) :
  ∃(xs:List V)(qr:Addr)(ys:List V),H q=some (.lst xs)/\xs.length=rs.length/\xs[c]?=some (.ref qr)/\H qr=some (.lst ys)/\ys.length=ds.length /\
   ∀(ds':List Dt)(ys':List V),ys'.length=ds'.length->(∀(r:Nat)(d:Dt)(z:V),ds'[r]?=some d->ys'[r]?=some z->(ds[r]?=some d/\ys[r]?=some z)\/(d.dep=0/\Rep G d z)) ->
    Sat G0 H0 S0 σ (ρ.set i (some (.lst (rs.set c (.lst ds')),k+2))) G (upd H qr (.lst ys')) As:=by
 obtain⟨v,h1,q',xs,T,rfl,hq,kd⟩:=a.at i _ _ er;rw[hv]at h1;cases h1;have hc:c<xs.length:=by rw[kd.len];exact(qA2.mp ec).1
 have hxc:xs[c]?=some xs[c]:=qAh hc;obtain⟨qr,ys,U,er2,hqr,kr⟩:=kd.own c _ _ ec hxc;refine⟨xs,qr,ys,hq,kd.len,by rw[hxc,er2],hqr,kr.len,fun ds' ys' hl hs=>?_⟩;have tqr:T c qr:=kr.top;have iqr:As i qr:=kd.sub c qr tqr;have qne:q≠qr:=fun z=>kd.out c (z▸tqr)
 have b:=a.store (S:=As i) (p:=qr) (o:=.lst ys') (d:=.lst (rs.set c (.lst ds'))) (n:=k+2) (v:=.ref q) iqr hv ⟨q,xs,T,rfl,(zAL qne).trans hq,⟨by simp[kd.len],fun r d' xr g1 g2=>?_,kd.top,kd.out,kd.dis,kd.sub⟩⟩ fun b z=>.inl z
 ·refine⟨b.ext,b.stb,b.tab,b.len,fun j d n h=>?_,a.dis,fun j b' h=>?_⟩
  ·obtain⟨v,g1,g2⟩:=b.at j d n h;refine⟨v,g1,?_⟩
   by_cases z:j=i
   ·subst z;rw[if_pos rfl]at g2;exact g2
   ·rw[if_neg z]at g2;exact g2
  ·have:=b.new j b' (by
    by_cases z:j=i
    ·subst z;rw[if_pos rfl];exact h
    ·rw[if_neg z];exact h)
   exact this
 ·by_cases hr:c=r
  ·subst hr;rw[qAe (by rw[<- kd.len];exact hc)]at g1;cases g1;rw[hxc]at g2;cases g2;refine⟨qr,ys',U,er2,zAQ,⟨hl,fun r d z e1 e2=>?_,tqr,kr.out,kr.dis,kr.sub⟩⟩
   rcases hs r d z e1 e2 with⟨g3,g4⟩|⟨g3,g4⟩
   ·exact(kr.own r d z g3 g4).upd (kr.out r)
   ·exact zIB g4 g3
  ·rw[qAj hr]at g1;exact(kd.own r d' xr g1 g2).upd fun z=>hr (kd.dis c r qr tqr z)
end
section
variable[Kc]{mg:Str->Option Value}{E:XK}{L n k l:Nat}{te ta tb:TE}{e ea eb ma:EM}{t:TA}{m:AM}
theorem zMO(i:Nat){n0:Nat}{t0:TE}{e0:EM}(Z:DE mg E t0 e0 n0)(A:DE mg E te e n):DS mg E L (zEZ (tML appM (tOp (rIxU Kc.K) (vM i) t0) (zD5 te tNil))) (Mi.sApp2 i 0 e0 e):=by
 intro G0 H0 S0 σ ρ G H As D a p;unfold Mi.sApp2 at p;split at p
 ·rename_i rs k e1
  obtain⟨v,h1,q,xs0,T0,rfl,hq0,kd0⟩:=a.at i _ _ e1;obtain⟨J,x,s,w⟩:=a.full;unfold zEZ tML tOp vM;rw[h1];refine(zAM Z).step (errS.from x) x.in' w p fun z0 u0 G2 H2 S2 ee fr2 o2 p2=>?_
  split at p2
  ·rename_i y0
   cases(show u0=.int y0 from o2)
   split at p2
   ·rename_i c ei
    split at p2
    ·rename_i ds erow
     have a2:=a.grow fr2.ext.h;obtain⟨xs,qr,ys,w1,w2,w3,w4,w5,w6⟩:=a2.row e1 h1 erow;refine⟨xs,.ref qr,.inl (SqL.of w1),?_,?_⟩
     ·rw[<- zFZ];unfold Mi.itA;rw[w2,ei];exact w3
     refine⟨ys,w4,?_⟩;obtain⟨J3,x3,s3,v3⟩:=a2.full;refine(zAM A).step (errS.from x3) x3.in' v3 p2 fun d y G4 H4 S4 ee4 fr4 o4 p4=>?_
     split at p4
     ·rename_i hz
      have a4:=a2.grow fr4.ext.h;obtain⟨xs',qr',ys',y1,y2,y3,y4,y5,y6⟩:=a4.row e1 h1 erow;have exs:xs'=xs:=by
       have:=fr4.ext.h _ _ w1;rw[y1]at this;cases this;rfl
      subst exs;rw[w3]at y3;cases y3;refine⟨ys',y4,by rw[y5];exact L2.big (by lia),?_⟩;have hd0:d.dep=0:=by lia
      refine p4 σ G _ As (y6 (ds++[d]) (ys'++[y]) (by simp[y5]) fun u d' z e3 e4=>?_)
      by_cases hu:u<ds.length
      ·rw[qA7 hu]at e3;rw[qA7 (by rw[y5];exact hu)]at e4;exact .inl ⟨e3,e4⟩
      ·rw[qA9 (by lia)]at e3;rw[qA9 (by rw[y5];lia),y5]at e4;have hq0:u-ds.length=0:=by
        have:=(qA2.mp e3).1;simp at this;lia
       rw[hq0]at e3 e4;simp at e3 e4;subst e3;subst e4;exact .inr ⟨hd0,Rep.scalar o4 hd0⟩
     ·exact p4.elim
    ·exact p2.elim
   ·exact p2.elim
  ·exact p2.elim
 ·exact p.elim
end
section
variable[Kc]{mg:Str->Option Value}{E:XK}{L n n1:Nat}{t1 t2:TE}{e1 e2:EM}
end
section
variable[Kc]{mg:Str->Option Value}{E:XK}{L n:Nat}{te:TE}{e:EM}
end
section
variable[Kc]
section
variable{G0 H0 S0:Hp}{σ:St}{ρ:Ro}{G H:Hp}{As:Nat->Addr->Prop}
end
variable{mg:Str->Option Value}{E:XK}{L n k l:Nat}{te ta tb:TE}{e ea eb ma:EM}{t:TA}{m:AM}
end
end L3
namespace L2
open PySem PySem.Spec PyProof.Rows
section
variable{X:Cx}{x:Str}{j k:Nat}{ps:List Str}{sp:Sp}{e:Expr}{es:List Expr}{t:TA}{p pos:Pos}
end
section
variable{X:Cx}{x:Str}{C:Addr}{p pos:Pos}
end
def spIns(K:qA0)(fl:List Str):Sp:=fun vs H Q _=>∃(x C dx:Addr)(ys:List V),vs=.ref x::ys/\ys.length=fl.length/\H x=some (.ins C dx [])/\Cls K C/\(∀f∈fl,zOY K C f)/\Q .non (upd H x (.ins C dx (fl.zip ys)))
section
variable{X:Cx}{m:Str}{k:Nat}{E:XK}{o e:Expr}{es:List Expr}{ta:TE}{t:TA}{apos pos:Pos}{tb:List (Addr×Sp)}
end
section
variable{prog:qEq}{w:World}{A:qEs}{R:qGr->qEo->Prop}{I:Addr}{fp wr:List Addr}{G:Array qF7->Array qF7->Prop}{n:Nat}{St:Nat->qEo->Prop}{led:Bool}{z:Str}
end
section
variable{prog:qEq}{w:World}{A:qEs}{E:Value->qEo->Prop}{s:qEo}{T:String}{r:Addr}{fp:List Addr}{n:Nat}{P:Nat->Value->Prop}{St:Nat->Heap->Prop}
end
section
variable{prog:qEq}{w:World}{A:qEs}{E:Value->qEo->Prop}{s:qEo}{x:Str}{t:Tok}
end
section
variable{prog:qEq}{w:World}{A:qEs}{E:Value->qEo->Prop}{s:qEo}
end
section
variable{prog:qEq}{w:World}{A:qEs}{R:qGr->qEo->Prop}{I:Addr}{fp wr:List Addr}{G:Array qF7->Array qF7->Prop}{n:Nat}{St:Nat->qEo->Prop}{led:Bool}{items:Array Value}{ns:List Int}
end
section
variable{prog:qEq}{w:World}{A:qEs}{R:qGr->qEo->Prop}{I:Addr}{fp wr:List Addr}{G:Array qF7->Array qF7->Prop}{n:Nat}{St:Nat->qEo->Prop}{led:Bool}{items:Array Value}{zs:List Str}
end
end L2
namespace L3
open PySem PySem.Spec
open PyProof.Rows (risingS sortedS ltCps_eq)
open L2 hiding Rep RepL
open Mi (Dt Xn R okR zA2 optR zA0 zA4 zA7 zA5 zA6 Rh Sl Ro EM TM AM FM IM SM OM Tg Out zAJ zAI zAK full frz frz1 frzAt)
section
variable[Kc]{mg:Str->Option Value}{E:XK}{L n k l:Nat}{te ta tb:TE}{e ea eb ma:EM}{t:TA}{m:AM}
end
section
variable[Kc]{mg:Str->Option Value}{E:XK}{L n k l:Nat}{t:TA}{m:AM}
end
section
variable[Kc]{mg:Str->Option Value}{E:XK}{L n k l:Nat}{te ta td:TE}{e ea ed:EM}
end
end L3
namespace L2
open PySem PySem.Spec
structure Dr(p:Prop):Prop where
 h:p
section
variable{X:Cx}
theorem zDF{st:Stmt}{rest:List Stmt}{t u:TS}(h1:Dr (PS X st t))(h2:Dr (PSs X rest u)):Dr (PSs X (st::rest) (tSeq t u)):=⟨zAF h1.h h2.h⟩
theorem zJ3{st:Stmt}{t:TS}(h1:Dr (PS X st t)):Dr (PSs X [st] t):=⟨zAH h1.h⟩
theorem zOS{a b:Expr}{ta tb:TE}{pos:Pos}{r:R2}(hr:IxR X r)(ha:Dr (PE X a ta))(hb:Dr (PE X b tb))(hp:zJK b):Dr (PE X (a.Subscript b pos) (tOp r ta tb)):=⟨zBL hr ha.h hb.h hp⟩
theorem zFC{es:List Expr}{t:TA}{pos:Pos}(h:Dr (PA X es t)):Dr (PE X (.List es pos) (tLst t)):=⟨zFU h.h⟩
theorem zEJ:Dr (PA X [] tNil):=⟨zA8⟩
theorem zFD{i:Int}{j:Nat}{pos:Pos}:Dr (PE X (.Constant (.int i) j pos) (tC (.int i))):=⟨zAD⟩
end
end L2
namespace L2
open PySem PySem.Spec PyProof.Rows
section
variable{X:Cx}{pins:List (Addr×Obj)}{σ:List (Option V)}{H:Hp}{s:qEo}
end
section
variable{X:Cx}
theorem zMQ{es:List Expr}{t:TA}{x1:Nat}{pos:Pos}(h:Dr (PA X es t)):Dr (PE X (.Tuple es x1 pos) (tTup t)):=⟨zNU h.h⟩
end
section
variable{X:Cx}{e m1:Expr}{te ts:TE}{pos p2:Pos}
theorem zME{b:List Stmt}{t:TS}{R:TS->Prop}(h:Dr (PSs X b t))(r:R t):∃t,PSs X b t/\R t:=⟨t,h.h,r⟩
theorem zFE{xs es:List Expr}{p:Pos}{te:TE}{t:TA}(h1:Dr (PE X (.List xs p) te))(h2:Dr (PA X es t)):Dr (PA X (.List xs p::es) (zD5 te t)):=⟨zA1 h1.h h2.h rfl⟩
theorem zKD{xs es:List Expr}{x1:Nat}{p:Pos}{te:TE}{t:TA}(h1:Dr (PE X (.Tuple xs x1 p) te))(h2:Dr (PA X es t)):Dr (PA X (.Tuple xs x1 p::es) (zD5 te t)):=⟨zA1 h1.h h2.h rfl⟩
end
end L2
namespace L2
open PySem
theorem uw1{P:List Value->Prop}(h:∀a,P [a]):∀us:List Value,us.length=1->P us
 |[a],_=>h a
theorem uw2{P:List Value->Prop}(h:∀a b,P [a,b]):∀us:List Value,us.length=2->P us
 |a::us,hl=>uw1 (P:=fun us=>P (a::us)) (h a) us (qEh hl)
theorem uw3{P:List Value->Prop}(h:∀a b c,P [a,b,c]):∀us:List Value,us.length=3->P us
 |a::us,hl=>uw2 (P:=fun us=>P (a::us)) (h a) us (qEh hl)
theorem oi{p q:Prop}(h:p\/q:=by first|exact Or.inl rfl|exact qEm rfl):p\/q:=h
end L2
namespace L3
open PySem PySem.Spec PyProof.Rows
open L2 hiding Rep RepL
open Mi (Dt R Rh EM TM SM AM IM Xn Sl Ro Out okR zA2 optR full frz frzAt)
section
variable[Kc]{mg:Str->Option Value}{E:XK}{n L:Nat}{te ta tb:TE}{e:EM}{m m':SM}
end
end L3
namespace L3
open PySem PySem.Spec
open L2 hiding Rep RepL
open Mi (Dt FM okR)
def sp0(K:qA0)(mg:Str->Option Value)(L:Nat)(f:FM):Sp:=fun vs H Q _=>@spM ⟨K⟩ mg L f vs H Q E0
end L3
namespace L3
open PySem PySem.Spec
open L2 hiding Rep RepL
open Mi (Dt Xn R okR zA2 optR zA0 zA4 zA7 zA5 zA6 Rh Sl Ro EM TM AM FM IM SM OM Tg Out zAJ zAI zAK full frz frz1 frzAt)
section
variable{K:qA0}{C D:Addr}{dd:Option Addr}{cd:ClassData}{sl:Array (Option Value)}{b:Bool}
end
section
variable[Kc]{mg:Str->Option Value}{E:XK}{L n k l:Nat}{te ta tb:TE}{e ea eb ma:EM}{t:TA}{m:AM}
end
def zET(K:qA0):Sp:=fun vs H Q _=>∃(a:Addr)(ns:List Int),vs=[.ref a]/\Same (tabK K) H/\SqL K H a (ns.map V.int)/\ns.length<=63/\(∀i∈ns,i.natAbs.log2<2 ^ 20)/\∀H',Same (tabK K) H'->Q (.bl true) H'
theorem zK3{K:qA0}{mg:Str->Option Value}{L:Nat}{f:FM}(hf:∀ns:List Int,ns.length<=63->(∀i∈ns,i.natAbs.log2<2 ^ 20)->f [.scr ns]=okR (.bl true)):∀vs H Q E,zET K vs H Q E->sp0 K mg L f vs H Q E:=by
 letI:Kc:=⟨K⟩
 rintro vs H Q E ⟨a,ns,rfl,tb,hS,hl,hw,q⟩
 refine⟨H,[.scr ns],tb,Same.refl _,⟨_,_,rfl,⟨a,rfl,.inl hS⟩,rfl⟩,?_⟩;rw[hf ns hl hw];intro v G' H' S fr o;cases(show v=.bl true by cases L<;>exact o)
 exact q H' (tb.trans fr.ext.h)
section
variable[Kc]{mg:Str->Option Value}{E:XK}{L n k l:Nat}{te ta tb tx td:TE}{e ea eb ex ed ma:EM}{t:TA}{m:AM}
theorem zMS:DE mg E zI3 Mi.eDct0 1:=by
 intro G H σ ρ Q s w p a ha;have fr:Fr G H G H (fun _=>False):=⟨Ext.refl s,fun _ z=>z.elim⟩
 exact p (.ref a) G _ _ (fr.add ha (.dK [])) ⟨a,rfl,zAQ,.inl rfl⟩
end
end L3
namespace L3
open PySem PyProof.Rows
open L2 hiding Rep RepL
theorem fsc{N P:List Str}{sc:Scope}(a:sc.kind=.function:=by rfl)(b:sc.isCoroutine=false:=by rfl)(c:sc.isGenerator=false:=by rfl)(d:N.Nodup:=by decide +kernel)(e:N.take P.length=P:=by rfl)
  (f:∀x∈P,sc.names.lookup x=some .local\/sc.names.lookup x=some .cell:=by decide +kernel) (g:∀y∈sc.names,y.2≠.free:=by decide +kernel):FnScope N P sc:=⟨a,b,c,d,e,f,g⟩
section
variable{P:qEq}{w:World}{K:qA0}{mg:Str->Option Value}{base:Heap}{x:Str}{st:Stmt}{N ps:List Str}{k:Nat}{sp:Sp}
theorem dfM{L n:Nat}{m:Mi.SM}(D:Def K mg x st)(S:FnScope N ps (zAC st))
  (hb:∀(kV doc pm:Value)(an:Option Addr)(cdv ct:Value)(us:List Value),us.length=ps.length->qGn (qAt x x (zBO st) (zBD st) (zAC st) .none kV doc pm an cdv ct) ⟨us,[]⟩=pure (ps.zip us))
  (hbody:∀{f:Addr}{cdv:Value}{A:qEs}{outer:List Env}{s:qEo}{H:Hp}{vs:List V}{Q:VK}{E:XK},Room k (A.deeper (envOfC x (zAC st) s.heap.objs.size f cdv))->(A.deeper (envOfC x (zAC st) s.heap.objs.size f cdv)).units+64<cLine->sp0 K mg L (Mi.runF ps.length n m) vs H Q E ->
   ∃t,PSs (cxOf CX0 P w K mg base N x (zAC st) f cdv A outer s H E).nox (zBD st) t/\t { nx:=fun _ H'=>Q .non H',rt:=Q } (start N vs) H):Has P w K mg base x (k+1) ps (sp0 K mg L (Mi.runF ps.length n m)):=
 D.ok S hb (fun _ _ _ _ h=>@zI6 ⟨K⟩ _ _ _ _ _ _ _ _ _ h) fun _ _ _ _ _ _ _ _ _ hr h=>hbody hr hr.units h
theorem mkD{K:qA0}{h:Heap}{mg:Str->Option Value}{nm:Str}{st:Stmt}{f:Addr}{oc kV dc pm cd ct:Value}{od an:Option Addr}{sl:Array (Option Value)}(X:K.In h)(G:h.Ns qEu mg)(a:qBc K qEu nm=some (some (.ref f)))(l:K.lookup f=some ⟨oc,od,.func (qAt nm nm (zBO st) (zBD st) (zAC st) .none kV dc pm an cd ct),sl⟩)(c:qB9 K cd nm=true)(k:qB1 K (.ref f)=true):Def K mg nm st:=⟨f,_,zL4 (st:=st) l c k,qCd X G a⟩
end
section
variable{X:Cx}{pos:Pos}
theorem pgn(i:Nat){x:Str}(hN:decide X.N.Nodup=true:=by kernel_rfl)(hi:X.N[i]?=some x:=by rfl)(hx:Loc X.env.scope x:=by exact oi)(hf:X.fn x=true\/X.env.scope.names.lookup x=some .local:=by first|exact .inl rfl|exact .inr rfl|assumption):PG X (.Name x pos) (zGR i):=zF3 (of_decide_eq_true hN) hi hx hf
theorem pst(i:Nat){x:Str}{e:Expr}{te:TE}{pos':Pos}(hN:X.N.Nodup)(he:PE X e te)(hi:X.N[i]?=some x:=by rfl)(hx:Loc X.env.scope x:=by exact oi)(hs:swapsWith e (some (.Name x pos')) pos.line X.env=pure false:=by rfl)(hf:X.fn x=true\/X.env.scope.names.lookup x=some .local:=by first|exact .inl rfl|exact .inr rfl|assumption):PS X (.Assign [.Name x pos'] e pos) (tAsg te (zGR i)):=zNR hN hi hx he hs hf
end
end L3
namespace L3
open PySem PySem.Spec
open L2 hiding Rep RepL
open Mi (Dt Xn R okR zA2 optR zA0 zA4 zA7 zA5 zA6 Rh Sl Ro EM TM AM FM IM SM Tg Out zAJ zAI zAK full frz frz1 frzAt)
variable[Kc]
section
variable{G H:Hp}{cl:Addr}{co:Obj}
mutual
theorem Rep.del(hc:G cl=some (cel co)):∀{d:Dt}{v:V},d.dep<=40->Rep G d v->Rep (del G cl) d v
 |.non,_,_,h=>h
 |.bl _,_,_,h=>h
 |.int _,_,_,h=>h
 |.str _,_,_,h=>h
 |.lst ds,_,hd,h=>by
  obtain⟨a,xs,e,e',r⟩:=h;exact⟨a,xs,e,(zL8 (zJX e' hc (by simp))).trans e',RepL.del hc (by rw[Dt.dep]at hd;lia) r⟩
 |.tup ds,_,hd,h=>by
  obtain⟨a,xs,e,e',r⟩:=h;exact⟨a,xs,e,(zL8 (zJX e' hc (by simp))).trans e',RepL.del hc (by rw[Dt.dep]at hd;lia) r⟩
 |.scr _,_,h,_=>by rw[Dt.dep]at h;lia
 |.exc _ _ _,_,h,_=>by rw[Dt.dep]at h;lia
 |.ins _ _,_,h,_=>by rw[Dt.dep]at h;lia
 |.dct _,_,h,_=>by rw[Dt.dep]at h;lia
 |.fn _ _,_,h,_=>by rw[Dt.dep]at h;lia
 |.dsk _ _,_,h,_=>by rw[Dt.dep]at h;lia
 |.fnc _,_,h,_=>by rw[Dt.dep]at h;lia
 |.dtt _ _,_,h,_=>by rw[Dt.dep]at h;lia
 |.loc _ _,_,h,_=>by rw[Dt.dep]at h;lia
theorem RepL.del(hc:G cl=some (cel co)):∀{ds:List Dt}{xs:List V},Dt.depL ds<=40->RepL G ds xs->RepL (del G cl) ds xs
 |[],_,_,h=>h
 |d::r,_,hd,h=>by
  rw[Dt.depL]at hd;obtain⟨x,q,e,a,b⟩:=h;exact⟨x,q,e,Rep.del hc (by lia) a,RepL.del hc (by lia) b⟩
end
end
variable{mg:Str->Option Value}{E:XK}{n:Nat}
end L3
namespace L3
open PySem PySem.Spec
open L2 hiding Rep RepL
open Mi (Dt okR)
section
variable[Kc]{mg:Str->Option Value}{E:XK}{L:Nat}
end
section
variable[Kc]{n:Nat}
end
end L3
namespace L3
open PySem PyProof.Rows
open L2 hiding Rep RepL
section
variable{P:qEq}{w:World}{K:qA0}{mg:Str->Option Value}{base:Heap}{x:Str}{st:Stmt}{N ps:List Str}{k:Nat}{sp:Sp}{T:Addr}
end
end L3
namespace L3
open PySem PySem.Spec PyProof.Rows
open L2 hiding Rep RepL
structure Tabs(K:qA0)(ts:List Addr):Prop where
 no:∀P∈ts,K.lookup P=none
 «in»:∀x∈makers,∀P,codP K x=some P->(lamK K x).isSome=true->P∈ts/\∃c,qCg K c P=true
theorem zFQ{K:qA0}{ts:List Addr}(T:Tabs K ts){P:Addr}{u:HO}(h:tabK K P=some u):P∈ts/\(∃q,u=.lam q)/\∃c,qCg K c P=true:=by
 unfold tabK at h;cases e:makers.find? fun x=>codP K x==some P&&(lamK K x).isSome with
 |none=>rw[e]at h;cases h
 |some x=>
  rw[e]at h;cases h;have h1:=List.mem_of_find?_eq_some e;have h2:=List.find?_some e;simp only[qAl,beq_iff_eq]at h2;obtain⟨a,b⟩:=T.in x h1 P h2.1 h2.2;exact⟨a,⟨_,rfl⟩,b⟩
theorem zIM{P:qEq}{w:World}{K:qA0}{mg mb:Str->Option Value}{CX:CXT}{k:Nat}{fa a:Addr}{fd:qEx}{x:Str}{sp:Sp}{s₁:qEo}{vs:List Value}{ns:List Int}{ts:List Addr}
  (KX:K.In s₁.heap) (hT:∀P∈ts,s₁.heap.get? P=some (qCu #[])) (T:Tabs K ts) (hns:s₁.heap.Ns qEu mg) (hb:s₁.heap.Ns qFa mb) (hbb:∀x:Str,x ≠ "__name__" -> mb x=qF8 x) (hlim:s₁.heap.NoLimit)
  (hbm:∃bm ob,mg "__builtins__" = some (.ref bm)/\bm≠qFa/\s₁.heap.get? bm=some ob/\ob.cls=.type "module" /\ ob.dict=some qFa/\ob.data=.plain) (hg:s₁.gens=#[])
  (ha:s₁.heap.get? a=some { cls:=.type "list",data:=.seq vs.toArray }) (hi:qH5 vs ns) (hl:ns.length<=sizeLine) (hr:Room k qGc)
  (F:∀base:Heap,K.In base->base.Ns qEu mg->FnOk P w K mg base CX k fa fd [x] sp) (hbind:∀(s:qEo)(u:Value),qGe s fd ⟨[u],[]⟩ [(x,u)])
  (hsp:∀H:Hp,Same (tabK K) H->SqL K H a (ns.map V.int)->sp [.ref a] H (fun v H'=>v=.bl true/\Same (tabK K) H') fun _ _ _=>False)
  (hCX:∀H e s',CX [] H s₁ (fun _ _ _=>False) e s'->False) :
  qGb (model P w) qGc (.call (.ref fa) ⟨[.ref a],[]⟩) (fun r s'=>r=.ok (.ret (.bool true))/\OldK s₁.heap s'.heap/\s'.os=s₁.os/\qFn s'.gens) s₁:=by
 have rv:=zFP hi;have lenV:=hi.length;have tabO:∀{b:Addr}{u:HO},tabK K b=some u->s₁.heap.get? b=some (qCu #[]):=fun e=>hT _ (zFQ T e).1
 have core:∀H:Hp,(∀b u,H b=some u->(b=a/\∃o xs,u=.frz o (.lst xs))\/tabK K b=some u)->Same (tabK K) H->SqL K H a (ns.map V.int)->HOk P w H s₁.heap->(∀b,H b≠none->K.lookup b=none) ->
   qGb (model P w) qGc (.call (.ref fa) ⟨[.ref a],[]⟩) (fun r s'=>r=.ok (.ret (.bool true))/\OldK s₁.heap s'.heap/\s'.os=s₁.os/\qFn s'.gens) s₁:=by
  intro H hO hTab hS hok hK;have base_of:∀{b:Addr}{o:Obj},s₁.heap.get? b=some o->H b=none->(hidT s₁.heap H).get? b=some o:=fun e n=>zK5 e n
  have noA:∀{b:Addr}{o:Obj},s₁.heap.get? b=some o->(∀v,o.data≠.fields v)->(∀v n,o.data≠.seq v n)->H b=none:=fun{b o} e d1 d2=>by
   cases q:H b with
   |none=>rfl
   |some u=>
    rcases hO b u q with⟨z,_⟩|z
    ·subst z;rw[ha]at e;cases e;exact absurd rfl (d2 _ _)
    ·rw[tabO z]at e;cases e;exact absurd rfl (d1 _)
  have nsK:∀{b:Addr}{m:Str->Option Value},s₁.heap.Ns b m->(hidT s₁.heap H).Ns b m:=fun{b m} ⟨o,es,ep,e,d,r⟩=>⟨o,es,ep,base_of e (noA e (fun v z=>by rw[d]at z;cases z) fun v n z=>by rw[d]at z;cases z),d,r⟩
  have hKb:K.In (hidT s₁.heap H):=fun b o e=>base_of (KX b o e) (by
   cases q:H b with
   |none=>rfl
   |some u=>rw[hK b (by rw[q];simp)]at e;cases e)
  have hM:Mod K mg (hidT s₁.heap H):=⟨hKb,nsK hns,⟨mb,nsK hb,hbb⟩,let⟨mc,h1,h2⟩:=hlim;⟨mc,nsK h1,h2⟩,let⟨bm,ob,e1,e2,e3,e4,e5,e6⟩:=hbm;⟨bm,ob,e1,e2,base_of e3 (noA e3 (fun v z=>by rw[e6]at z;cases z) fun v n z=>by rw[e6]at z;cases z),e4,e5,e6⟩⟩
  have e0:Env0 P w K mg (hidT s₁.heap H) qGc [] s₁ H:=⟨rfl,hM,fun b o e=>zM3 e,Nat.le_of_eq (zIY _ _),trivial,fun b hb=>absurd (show b∈([]:List Addr) from hb) (by simp),hok,.of_eq hg⟩
  refine codeAny_mono ((F _ hKb (nsK hns)).run qGc [] s₁ H ⟨[.ref a],[]⟩ [.ref a] [.ref a] _ _ hr e0 (hbind s₁ (.ref a)) (.cons rfl .nil) (hsp H hTab hS)) fun r s' h=>?_
  cases r with
  |error e=>exact(hCX H e s' h).elim
  |ok fl=>
   cases fl with
   |next=>exact qA4 h
   |brk=>exact qA4 h
   |cont=>exact qA4 h
   |ret u=>
    obtain⟨v,H',os,bare,un,hok',r',q,qT⟩:=h;subst q;obtain rfl:u=qEz true:=r';refine⟨rfl,⟨fun b o e=>?_,fun b o e=>un.there b o e (by simp)⟩,os,bare⟩;cases q:H b with
    |none=>exact .inl (un.keep b o e q (by intro z;exact absurd (show b∈([]:List Addr) from z) (by simp)) (by simp))
    |some u=>
     rcases hO b u q with⟨_,ob,xs,rfl⟩|z
     ·have z2:=un.frzs b ob _ q;obtain⟨e1,_⟩:=hok b _ q;obtain⟨e2,_⟩:=hok' b _ z2;rw[e]at e1;cases e1;exact .inl e2
     ·obtain⟨hts,⟨qq,rfl⟩,c,hc⟩:=zFQ T z;obtain⟨ps,e2,_⟩:=hok' b _ (qT _ _ z);have e3:=hT b hts;rw[e3]at e;cases e;exact .inr (.inl ⟨((PySem.W.codeHd_of_K KX hc).tab e3).isCodeTable,rfl,#[],ps,rfl,by rw[e2];simp⟩)
 have tOk:∀{H:Hp}{b:Addr}{u:HO},tabK K b=some u->ObjOk P w H s₁.heap b u:=fun{H b u} z=>by
  obtain⟨hts,⟨q,rfl⟩,_⟩:=zFQ T z;exact⟨#[],hT b hts,trivial,fun pos cv y=>by simp[codeAmong]at y⟩
 have nta:tabK K a=none:=by
  cases z:tabK K a with
  |none=>rfl
  |some u=>have:=tabO z;rw[ha]at this;cases this
 cases hk:K.lookup a with
 |some o=>
  have e:=KX a o hk;rw[ha]at e;cases e;exact core (tabK K) (fun b u z=>.inr z) (Same.refl _) (.inr ⟨_,vs.toArray,_,hk,rfl,rfl,rfl,by rw[qAc,lenV];exact hl,by simpa using rv⟩) (fun b u z=>tOk z) fun b z=>by
   cases y:tabK K b with
   |none=>exact absurd y z
   |some u=>exact T.no b (zFQ T y).1
 |none=>
  refine core (upd (tabK K) a (.frz { cls:=.type "list",data:=.seq vs.toArray } (.lst (ns.map V.int)))) (fun b u z=>?_) (fun b u z=>?_) (.inl (.inr ⟨{ cls:=.type "list",data:=.seq vs.toArray },zAQ⟩)) (fun b u z=>?_) fun b z=>?_
  ·by_cases hb:b=a
   ·subst hb;rw[zAQ]at z;cases z;exact .inl ⟨rfl,_,_,rfl⟩
   ·rw[zAL hb]at z;exact .inr z
  ·rw[zAL (zAN z nta)];exact z
  ·by_cases hb:b=a
   ·subst hb;rw[zAQ]at z;cases z;exact⟨ha,by rw[qB0];exact hl,vs,_,rv,ha⟩
   ·rw[zAL hb]at z;exact tOk z
  ·by_cases hb:b=a
   ·subst hb;exact hk
   ·rw[zAL hb]at z;cases y:tabK K b with
    |none=>exact absurd y z
    |some u=>exact T.no b (zFQ T y).1
theorem zJM{l:qC0}{n k:Nat}{q:qEq}{loose:List Str}{XP:(Str->Option Value)->Heap->Prop}{YP:World->Heap->Prop}{d:DefRec}{K:Params->qA0}{CX:World->CXT}{sp:World->Sp}{x:Str}{ts:List Addr}
  (hn:l.most=some n) (hn2:n<=sizeLine) (hdf:d.params.defaults=[]) (hr:Room k qGc)
  (hY:∀(w:World)(h:Heap),YP w h->(K w.params).In h/\∀P∈ts,h.get? P=some (qCu #[]))
  (F:∀(w:World)(mg:Str->Option Value)(fa:Addr)(h:Heap),(K w.params).In h->h.Ns qEu mg->mg d.name=some (.ref fa) ->
   Tabs (K w.params) ts/\∃fd:qEx,(∀(s:qEo)(u:Value),qGe s fd ⟨[u],[]⟩ [(x,u)]) /\
    ∀base:Heap,(K w.params).In base->base.Ns qEu mg->FnOk l.prog w (K w.params) mg base (CX w) k fa fd [x] (sp w))
  (hsp:∀(w:World)(H:Hp)(a:Addr)(ns:List Int),ns.length<=n->(∀i∈ns,i.natAbs.log2<2 ^ 20)->Same (tabK (K w.params)) H->SqL (K w.params) H a (ns.map V.int)->sp w [.ref a] H (fun v H'=>v=.bl true/\Same (tabK (K w.params)) H') fun _ _ _=>False)
  (hCX:∀(w:World)(H:Hp)(s:qEo)(e:Value)(s':qEo),CX w [] H s (fun _ _ _=>False) e s'->False) :
  qCz q loose XP YP l.row.toRowW d [] (fun f vs=>qD5 f vs):=by
 refine Att.attach_callW hn hdf fun w s₀ s₁ mg mb fa o pm cd doc a vs ns G Y ho hd hcd hmg hobj hints hlen hw hg=>?_
 obtain⟨KX,hT⟩:=hY w _ Y;obtain⟨T,fd,hb,hF⟩:=F w mg fa _ KX G.T.g hmg;exact zIM KX hT T G.T.g G.T.b G.T.builtins G.T.nolimit G.T.bmain hg hobj hints (qAg hlen hn2) hr hF hb (fun H hO hS=>hsp w H a ns hlen hw hO hS) fun H e s'=>hCX w H s₁ e s'
end L3
namespace L3
open PySem PyProof.Rows
open L2 hiding Rep RepL
structure Mk1(K:qA0)(ts:List Addr)(x:Str)(r:Option Addr):Prop where
 cod:codP K x=r
 lam:(lamK K x).isSome=r.isSome
 hd:∀P,r=some P->P∈ts/\∃c,qCg K c P=true
theorem mk1_none{K:qA0}{ts:List Addr}{x:Str}(a:qBc K qEu x=some none):Mk1 K ts x none:=
 ⟨by unfold codP;rw[a],by unfold lamK;rw[a];rfl,fun _ z=>by cases z⟩
structure Tb(K:qA0)(ts:List Addr)(r1 r2 r3:Option Addr):Prop where
 m1:Mk1 K ts "turned_at" r1
 m2:Mk1 K ts "exchanged_at" r2
 m3:Mk1 K ts "pivoted" r3
section
variable{K:qA0}{ts:List Addr}{r1 r2 r3:Option Addr}
theorem Tb.tabs(T:Tb K ts r1 r2 r3)(no:∀P∈ts,K.lookup P=none):Tabs K ts:=⟨no,fun x hx P h _=>by
 unfold makers at hx;simp only[qAo,List.not_mem_nil,or_false]at hx;rcases hx with rfl|rfl|rfl
 ·exact T.m1.hd P (T.m1.cod.symm.trans h)
 ·exact T.m2.hd P (T.m2.cod.symm.trans h)
 ·exact T.m3.hd P (T.m3.cod.symm.trans h)⟩
end
def TbE(K:qA0)(ts:List Addr):Prop:=∃r1 r2 r3,Tb K ts r1 r2 r3
theorem walk_of0{l:qC0}{n k:Nat}{q:qEq}{loose:List Str}{XP:(Str->Option Value)->Heap->Prop}{YP:World->Heap->Prop}{d:DefRec}{K:Params->qA0}{x:Str}
  (hn:l.most=some n) (h63:n<=63) (hdf:d.params.defaults=[]) (hr:Room k qGc) (hY:∀(w:World)(h:Heap),YP w h->(K w.params).In h)
  (F:∀(w:World)(mg:Str->Option Value)(fa:Addr)(h:Heap),(K w.params).In h->h.Ns qEu mg->mg d.name=some (.ref fa) ->
   TbE (K w.params) []/\∃fd:qEx,(∀(s:qEo)(u:Value),qGe s fd ⟨[u],[]⟩ [(x,u)]) /\
    ∀base:Heap,(K w.params).In base->base.Ns qEu mg->FnOk l.prog w (K w.params) mg base CX0 k fa fd [x] (zET (K w.params))) :
  qCz q loose XP YP l.row.toRowW d [] (fun f vs=>qD5 f vs):=
 zJM (K:=K) (ts:=[]) (CX:=fun _=>CX0) (sp:=fun w=>zET (K w.params)) hn (qAg h63 (by decide)) hdf hr (fun w h Y=>⟨hY w h Y,fun P z=>absurd z (by simp)⟩)
  (fun w mg fa h KX G hm=>let⟨⟨_,_,_,T⟩,r⟩:=F w mg fa h KX G hm;⟨T.tabs fun P z=>absurd z (by simp),r⟩)
  (fun _ _ a ns hl hw hT hS=>⟨a,ns,rfl,hT,hS,qAg hl h63,hw,fun _ z=>⟨rfl,z⟩⟩) fun _ _ _ _ _ z=>z
end L3
namespace L3
open PySem PySem.Spec
open L2 hiding Rep RepL
section
variable[Kc]{mg:Str->Option Value}{E:XK}{L:Nat}
end
end L3
namespace L3
open PySem PySem.Spec
open L2 hiding Rep RepL
open Mi (Dt EM FM okR)
end L3
namespace L3
open PySem PySem.Spec
open L2 hiding Rep RepL
open Mi (Dt Xn R okR zA2 optR zA0 zA4 zA7 zA5 zA6 Rh Sl Ro EM TM AM FM IM SM Tg Out full frz frz1 frzAt)
section
variable[Kc]{mg:Str->Option Value}{E:XK}{L:Nat}{tA tB:TT}{A B:TM}
end
end L3
namespace PySem
open Sem (wp)
section
variable{prog:qEq}{w:World}{A:qEs}{K:Type}[DecidableEq K]{knd:KeyKind prog w K}
end
end PySem
namespace PySem.Xc
open PySem PySem.W
section
variable{prog:qEq}{w:World}{A:qEs}{E:Value->qEo->Prop}{K:Frag}{x C:Addr}{ox:Obj}{od:Option Obj}{name:Str}{expr fill:Bool}{h:Heap}{g:Array qF7}{d:Drawn}{t:Nat}{os:OsState}
end
end PySem.Xc
namespace Mi
end Mi
namespace L2
open PySem PySem.Spec PyProof.Rows
section
variable{X:Cx}
end
end L2
namespace L3
open PySem PySem.Spec
open L2 hiding Rep RepL
open Mi (Dt Xn R okR zA2 optR zA0 zA4 zA7 zA5 zA6 Rh Sl Ro EM TM AM FM IM SM OM Tg Out zAJ zAI zAK full frz frz1 frzAt)
section
variable[Kc]{mg:Str->Option Value}{E:XK}{n k:Nat}{te:TE}{e:EM}
end
end L3
namespace Mi
end Mi
namespace Mi
open PySem
noncomputable def tupD:List Dt->Option Dt
 |[.lst xs]=>some (.tup xs)
 |_=>none
inductive OutM where
 |nx (ρ:Ro)|rt (ρ:Ro) (d:Dt)|rv (ρ:Ro) (i:Nat)
abbrev SMM:=Ro->R OutM
abbrev FW:=List Dt->R (Dt×Dt)
end Mi
namespace Mp
open Mi PySem
noncomputable def wrd(ls row:List Nat):List Nat:=row.map fun p=>ls.getD p 0
structure Twice(n:Nat)(row:List Nat):Prop where
 len:row.length=2*n
 cnt:∀v,row.count v=if v<n then 2 else 0
section
variable{n:Nat}{row:List Nat}(t:Twice n row)
include t
end
end Mp
namespace L2
open PySem PySem.Spec PyProof.Rows
section
variable{prog:qEq}{w:World}{A:qEs}{E:Value->qEo->Prop}{s:qEo}
end
section
variable{P:qEq}{w:World}{K:qA0}{tg:Expr}
variable{X:Cx}
end
section
variable{X:Cx}{pins:List (Addr×Obj)}{σ:St}{H:Hp}{s:qEo}{a b:Addr}{v:V}{r:Value}{A:qEs}{E:Value->qEo->Prop}
end
def zNH(K:qA0):List V->Hp->VK->Prop:=fun xs H Q=>∃p ys,xs=[.ref p]/\((SqL K H p ys/\∀l,H l=none->Q (.ref l) (upd H l (.tup ys)))\/(SqT K H p ys/\Q (.ref p) H))
theorem zO9{X:Cx}{K:qA0}(hK:X.K=K:=by rfl):zCO X (.type "tuple") (zNH K):=hK▸zFK
section
variable{prog:qEq}{w:World}{A:qEs}{E:Value->qEo->Prop}{s:qEo}
end
section
variable{X:Cx}{pins:List (Addr×Obj)}{σ:List (Option V)}{H:Hp}{s:qEo}
end
section
variable{X:Cx}{i k:Nat}{x:Str}{p pos:Pos}{e:Expr}{es:List Expr}{t:TA}{tb:List (Addr×Sp×List V)}
end
section
variable{prog:qEq}{w:World}{A:qEs}{E:Value->qEo->Prop}{s:qEo}
end
section
variable{X:Cx}
end
section
variable{prog:qEq}{w:World}{A:qEs}{E:Value->qEo->Prop}{s:qEo}
end
section
variable{X:Cx}{pins:List (Addr×Obj)}{σ:List (Option V)}{H:Hp}{s:qEo}
end
section
variable{X:Cx}
end
end L2
namespace L3
open PySem PySem.Spec
open L2 hiding Rep RepL
open Mi (Dt Xn R okR zA2 optR zA0 zA4 zA7 zA5 zA6 Rh Sl Ro EM TM AM FM IM SM OM Tg Out zAJ zAI zAK full frz frz1 frzAt)
section
variable[Kc]{mg:Str->Option Value}{E:XK}{n k:Nat}{te:TE}{e:EM}
end
section
variable[Kc]{mg:Str->Option Value}{E:XK}{L n k l:Nat}{te ta tb tx td tk tv:TE}{e ea eb ex ed mk mv:EM}{t:TA}{m:AM}
theorem zOU:CBi (zNH Kc.K) Mi.tupD 1:=by
 intro mg E G H ds vs Q s h p;cases ds with
 |nil=>exact p.elim
 |cons a0 r0=>
  cases r0 with
  |cons _ _=>cases a0<;>exact p.elim
  |nil=>
   cases a0 with
   |lst es=>
    obtain⟨x,rfl,a,xs,rfl,ha,ra⟩:=zE5 h;refine⟨a,xs,rfl,.inl ⟨SqL.of (s _ _ ha),fun l hl=>?_⟩⟩;have fr:Fr G H G H (fun _=>False):=⟨Ext.refl s,fun _ z=>z.elim⟩
    exact p (.ref l) G _ _ (fr.add hl (.tup xs)) ⟨l,xs,fun _ _=>False,rfl,zAQ,⟨ra.length,fun q d y h1 h2=>zC4 ra h1 h2,.inl rfl,fun _ z=>z,fun _ _ _ z=>z.elim,fun _ _ z=>z.elim⟩⟩
   |_=>exact p.elim
end
section
variable[Kc]{mg:Str->Option Value}{E:XK}{L n k l:Nat}{te ta tb tx td t1 t2:TE}{e ea eb ex ed e1 e2:EM}{u:TS}{m m':SM}
end
section
variable[Kc]{mg:Str->Option Value}{E:XK}{L n k:Nat}{te:TE}{e:EM}{t:TS}{m:SM}
end
section
variable[Kc]{mg:Str->Option Value}{E:XK}{L n k l:Nat}{te ta tb:TE}{e ma mb:EM}{t:TA}{m:AM}
end
end L3
namespace Mp
noncomputable def ords(row:List Nat):List Nat:=row.foldl (fun o p=>if p∈o then o else o++[p]) []
noncomputable def sh(s:Nat)(cs:List Nat):List Nat:=cs.drop s++cs.take s
def wr(cs:List Nat):List Nat:=cs.map fun c=>97+(ords cs).idxOf c
end Mp
namespace L3
open PySem PySem.Spec PyProof.Rows
open L2 hiding Rep RepL
open Mi (Dt Xn R okR zA2 optR zA0 zA4 zA7 zA5 zA6 Rh Sl Ro EM TM AM FM IM SM OM Tg Out zAJ zAI zAK full frz frz1 frzAt FW)
section
variable[Kc]{mg:Str->Option Value}{E:XK}{L n k l:Nat}{te ta tb:TE}{e ea eb ma:EM}{t:TA}{m:AM}
end
end L3
namespace Mp
open Mi PySem
def rowW(cs:List Nat):List Nat:=cs.map fun c=>(ords cs).idxOf c
section
variable{n:Nat}{row:List Nat}(t:Twice n row)
include t
end
def fm(cs:List Nat)(s:Nat)(b:Bool):List Nat:=if b=true then(sh s cs).reverse else sh s cs
end Mp
namespace L2
open PySem PySem.Spec PyProof.Rows
structure FunD(K:qA0)(x qual:Str)(st:Stmt)(f:Addr)(fd:qEx):Prop where
 ex:∃(oc:Value)(od:Option Addr)(dt:Addr)(kV doc pm:Value)(an:Option Addr)(cdv ct:Value)(osl:Array (Option Value))(ot:Obj)(n:Nat),
  fd=qAt x qual (zBO st) (zBD st) (zAC st) (.ref dt) kV doc pm an cdv ct/\K.lookup f=some ⟨oc,od,.func fd,osl⟩/\qB9 K cdv qual=true/\K.lookup dt=some ot/\ot.data=.seq #[.none] n
 kp:qB1 K (.ref f)=true
def DefD(K:qA0)(mg:Str->Option Value)(x:Str)(st:Stmt):Prop:=∃f fd,FunD K x x st f fd/\mg x=some (.ref f)
section
variable{P:qEq}{w:World}{K:qA0}{mg:Str->Option Value}{base:Heap}{x:Str}{k:Nat}{a b:Str}{N:List Str}{sp:Sp}{st:Stmt}
end
section
variable{X:Cx}{x:Str}{j k:Nat}{ps:List Str}{sp:Sp}{e:Expr}{es:List Expr}{t:TA}{p pos:Pos}{E:XK}
end
theorem mkDD{K:qA0}{h:Heap}{mg:Str->Option Value}{nm:Str}{st:Stmt}{f dt:Addr}{oc kV dc pm cd ct:Value}{od an:Option Addr}{sl:Array (Option Value)}{ot:Obj}{n:Nat}(X:K.In h)(G:h.Ns qEu mg)(a:qBc K qEu nm=some (some (.ref f)))
  (l:K.lookup f=some ⟨oc,od,.func (qAt nm nm (zBO st) (zBD st) (zAC st) (.ref dt) kV dc pm an cd ct),sl⟩) (c:qB9 K cd nm=true) (k:qB1 K (.ref f)=true) (l2:K.lookup dt=some ot) (e:ot.data=.seq #[.none] n):DefD K mg nm st:=
 ⟨f,_,⟨⟨oc,od,dt,kV,dc,pm,an,cd,ct,sl,ot,n,rfl,l,c,l2,e⟩,k⟩,qCd X G a⟩
end L2
namespace L3
open PySem PySem.Spec PyProof.Rows
open L2 hiding Rep RepL
section
variable{P:qEq}{w:World}{K:qA0}{mg:Str->Option Value}{base:Heap}{x:Str}{st:Stmt}{N ps:List Str}{k:Nat}
end
end L3
namespace L3
open PySem PySem.Spec PyProof.Rows
open L2 hiding Rep RepL
open Mi (Dt Xn R okR zA2 optR zA0 zA4 zA7 zA5 zA6 Rh Sl Ro EM TM AM FM IM SM OM Tg Out zAJ zAI zAK full frz frz1 frzAt FW SMM OutM)
section
variable[Kc]{mg:Str->Option Value}{E:XK}{L n k l:Nat}{te ta tb t1 t2:TE}{e ea eb e1 e2:EM}
end
end L3
namespace L3
open PySem PySem.Spec PyProof.Rows
open L2 hiding Rep RepL
open Mi (Dt Xn R okR zA2 optR zA0 zA4 zA7 zA5 zA6 Rh Sl Ro EM TM AM FM IM SM OM Tg Out zAJ zAI zAK full frz frz1 frzAt)
section
variable[Kc]{mg:Str->Option Value}{E:XK}{L n k l:Nat}{te ta tb:TE}{e ea eb ma:EM}{t:TA}{m:AM}
end
end L3
namespace L3
open PySem PySem.Spec
open L2 hiding Rep RepL
open Mi (Dt Xn R okR zA2 optR zA0 zA4 zA7 zA5 zA6 Rh Sl Ro EM TM AM FM IM SM OM Tg Out zAJ zAI zAK full frz frz1 frzAt FW)
section
variable[Kc]{mg:Str->Option Value}{E:XK}{n:Nat}{t:TA}{m:AM}
end
end L3
namespace L3
open PySem PySem.Spec
open L2 hiding Rep RepL
open Mi (Dt Xn R okR zA2 optR zA0 zA4 zA7 zA5 zA6 Rh Sl Ro EM TM AM FM IM SM OM Tg Out zAJ zAI zAK full frz frz1 frzAt OutM SMM FW)
section
variable[Kc]{mg:Str->Option Value}{E:XK}{L n k l:Nat}{te ta tb tx td t1 t2:TE}{e ea eb ex ed e1 e2:EM}{t u:TS}{m m':SMM}{s:SM}
open Classical in
noncomputable def cutH(H:Hp)(S:Addr->Prop):Hp:=fun b=>if S b then none else H b
theorem zLB{H:Hp}{S:Addr->Prop}{b:Addr}(h:S b):cutH H S b=none:=by unfold cutH;rw[if_pos h]
theorem zGT{H:Hp}{S:Addr->Prop}{b:Addr}(h:¬S b):cutH H S b=H b:=by unfold cutH;rw[if_neg h]
theorem zKF{H:Hp}{S:Addr->Prop}{b:Addr}{o:HO}(h:cutH H S b=some o):¬S b/\H b=some o:=by
 by_cases z:S b
 ·rw[zLB z]at h;cases h
 ·rw[zGT z]at h;exact⟨z,h⟩
end
end L3
namespace L3
open PySem PySem.Spec
open PyProof.Rows (risingS sortedS ltCps_eq)
open L2 hiding Rep RepL
open Mi (Dt Xn R okR zA2 optR zA0 zA4 zA7 zA5 zA6 Rh Sl Ro EM TM AM FM IM SM OM Tg Out zAJ zAI zAK full frz frz1 frzAt)
section
variable[Kc]{mg:Str->Option Value}{E:XK}{L n k l:Nat}{te ta tb:TE}{e ea eb ma:EM}{t:TA}{m:AM}
end
end L3
namespace Mi
open PySem
def runC(P n k:Nat)(b:SM):FM:=fun ds=>match ds with
 |d0::r=>if r.length+1=P then zA2 (b (some (d0,k)::(r.map (fun d=>some (d,0))++qAb (n-(r.length+1)) none))) endF else none
 |[]=>none
def sRetC(i k:Nat)(am:AM)(f:FM):SM:=fun ρ=>match ρ[i]? with
 |some (some (d0,l))=>if l=k then zA2 (am (frz ρ)) fun es=>zA2 (f (d0::es)) fun d=>okR (.rt d)else none
 |_=>none
def eIxO(a b:EM):EM:=fun ρ=>zA2 (a ρ) fun x=>zA2 (b ρ) fun y=>match x,y with
 |.lst ds,.int z=>optR (itA ds z)
 |_,_=>none
def sPop2(i:Nat)(e0:EM):SM:=fun ρ=>match ρ[i]? with
 |some (some (.lst rs,k+2))=>zA2 (e0 (full ρ)) fun z=>match z with
  |.int z=>match ixA rs.length z with
   |some c=>match rs[c]? with
    |some (.lst ds)=>if ds=[]then none else okR (.nx (ρ.set i (some (.lst (rs.set c (.lst (ds.eraseIdx (ds.length-1)))),k+2))))
    |_=>none
   |none=>none
  |_=>none
 |_=>none
def eqX:Dt->Dt->Option Dt
 |.dct [],.dct []=>some (.bl true)
 |a,b=>eqD a b
def isiX(n:String)(x:Dt):Option Dt:=match x with
 |.dct _=>some (.bl ("dict" == n))
 |x=>isiD n x
def eIsiX(n:String)(a:EM):EM:=fun ρ=>zA2 (a ρ) fun x=>optR (isiX n x)
end Mi
namespace L2
open PySem PySem.Spec PyProof.Rows
section
variable{X:Cx}
theorem zKE{ks:List (Option Expr)}{xs es:List Expr}{p:Pos}{te:TE}{t:TA}(h1:Dr (PE X (.Dict ks xs p) te))(h2:Dr (PA X es t)):Dr (PA X (.Dict ks xs p::es) (zD5 te t)):=⟨zA1 h1.h h2.h rfl⟩
theorem zCD{c:Const}{j:Nat}{es:List Expr}{p:Pos}{te:TE}{t:TA}(h1:Dr (PE X (.Constant c j p) te))(h2:Dr (PA X es t)):Dr (PA X (.Constant c j p::es) (zD5 te t)):=⟨zA1 h1.h h2.h rfl⟩
theorem zOL{c:Expr}{a b:List Stmt}{pos:Pos}{tc:TT}{t u:TS}(hc:PT X c tc)(ha:Dr (PSs X a t))(hb:PSs X b u):Dr (PS X (.If c a b pos) (tIfS tc t u)):=⟨zC9 hc ha.h hb⟩
theorem zMJ{e:Expr}{pos:Pos}{te:TE}(h:Dr (PE X e te)):Dr (PS X (.Return (some e) pos) (tRet te)):=⟨zB9 h.h⟩
theorem zMR{j:Nat}{pos:Pos}:Dr (PE X (.Constant .none j pos) (tC .non)):=⟨zKX⟩
theorem zJ9{x:Str}{j:Nat}{pos:Pos}:Dr (PE X (.Constant (.str x) j pos) (tC (.str x))):=⟨zKW⟩
theorem zKB{pos:Pos}:Dr (PE X (.Dict [] [] pos) zI3):=⟨zJW⟩
def rEqX:R2:=fun x y H Q=>(∃a b,x=.ref a/\y=.ref b/\Rd H a (.dK [])/\Rd H b (.dK [])/\Q (.bl true) H)\/rEqU x y H Q
theorem zP4(hu:X.A.units+64<cLine):OpR X (compareOp .Eq) rEqX:=by
 intro pins s σ H x y v u Q I rx ry h;rcases h with⟨a,b,rfl,rfl,ha,hb,q⟩|h
 ·cases rx;cases ry;obtain⟨_,na,va,ra,da⟩:=zOP I.hok ha;obtain⟨_,nb,vb,rb,db⟩:=zOP I.hok hb;cases ra;cases rb;exact PySem.W.keq_eq na nb da db (by omega) (fun _=>.nil) ⟨.bl true,H,I,rfl,q⟩
 ·exact u_eq hu pins s σ H x y v u Q I rx ry h
end
end L2
namespace L3
open PySem PySem.Spec
open L2 hiding Rep RepL
open Mi (Dt Xn R okR zA2 optR zA0 zA4 zA7 zA5 zA6 Rh Sl Ro EM TM AM FM IM SM OM Tg Out zAJ zAI zAK full frz frz1 frzAt)
section
variable[Kc]{mg:Str->Option Value}{E:XK}{L n k l:Nat}{te ta tb:TE}{e ma mb:EM}{t:TS}{m:SM}
def spC(mg:Str->Option Value)(k L:Nat)(f:FM):Sp:=fun vs H Q E=>∃(G:Hp)(S:Addr->Prop)(ds:List Dt)(v0:V)(d0:Dt)(us:List V),vs=v0::us/\Same (tabK Kc.K) G/\Same G H/\(∀b,S b->G b=none/\H b≠none)/\Own G H k S d0 v0/\RepL G ds us/\PostE mg E G (cutH H S) L (f (d0::ds)) Q
theorem zLO{P N:Nat}{vs:List V}{H:Hp}{Q:VK}{E:XK}(h:spC mg k L (Mi.runC P N l m) vs H Q E):vs.length=P:=by
 obtain⟨G,S,ds,v0,d0,us,rfl,_,_,_,_,r,q⟩:=h;unfold Mi.runC at q;dsimp only at q;split at q
 ·rename_i h;rw[qAz,r.length,h]
 ·exact q.elim
theorem zLP{P:Nat}{N:List Str}{vs:List V}{H:Hp}{Q:VK}(B:DS mg E L t m)(h:spC mg k L (Mi.runC P N.length k m) vs H Q E):t { nx:=fun _ H'=>Q .non H',rt:=Q } (L2.start N vs) H:=by
 obtain⟨G,S,ds,v0,d0,us,rfl,tb,sG,hS,o0,hr,q⟩:=h;unfold Mi.runC at q;dsimp only at q;split at q
 ·rename_i hP
  have a:Sat G (cutH H S) G (L2.start N (v0::us)) (some (d0,k)::(ds.map (fun d=>some (d,0))++qAb (N.length-(ds.length+1)) none)) G H (fun i b=>i=0/\S b):=by
   refine⟨⟨Same.refl _,fun b o e=>(zKF e).2,sG,fun _ _=>rfl⟩,Same.refl _,tb,?_,fun i d n e=>?_,fun i j a h1 h2=>by rw[h1.1,h2.1],fun i b h=>⟨zLB h.2,hS b h.2⟩⟩
   ·unfold L2.start;simp[hr.length]
   ·cases i with
    |zero=>
     cases e;exact⟨v0,rfl,o0.sub fun b hb=>⟨rfl,hb⟩⟩
    |succ i=>
     rw[qBk]at e;by_cases hi2:i<ds.length
     ·rw[qA7 (by simpa using hi2),qAf]at e;cases e1:ds[i]? with
      |none=>rw[e1]at e;cases e
      |some d'=>
       rw[e1]at e;cases e;have hv:us[i]?=some (us[i]'(by rw[hr.length];exact hi2)):=by simp
       refine⟨us[i]'(by rw[hr.length];exact hi2),?_,zC4 hr e1 hv⟩;unfold L2.start;rw[qA7 (by simpa[hr.length]using hi2),qAf,qBk,hv];rfl
     ·rw[qA9 (by simpa using hi2),qAv]at e
      split at e<;>cases e
  refine B G (cutH H S) G _ _ G H _ _ a ?_;cases em:m (some (d0,k)::(ds.map (fun d=>some (d,0))++qAb (N.length-(ds.length+1)) none))with
  |none=>rw[em]at q;exact q
  |some r=>
   rw[em]at q;cases r with
   |error y=>exact q
   |ok o=>
    cases o with
    |nx ρ'=>exact fun σ' G' H' As' a'=>q .non G' H' (fun _=>False) ⟨a'.ext,fun _ z=>z.elim⟩ (zIB rfl rfl)
    |rt d=>exact q
    |bk ρ'=>exact q.elim
    |ct ρ'=>exact q.elim
 ·exact q.elim
theorem zMK(i:Nat){t:TA}{am:AM}{f:FM}(A:DA mg E t am 0):DS mg E L (tRet (zI4 (spC mg k L f) [] E (zD5 (vM i) t))) (Mi.sRetC i k am f):=by
 intro G0 H0 S0 σ ρ G H As D a p;unfold Mi.sRetC at p;split at p
 ·rename_i d0 l' er
  split at p
  ·rename_i hz
   subst hz;obtain⟨v0,h1,o0⟩:=a.at i _ _ er;unfold tRet zI4 zD5 vM;rw[h1];refine A.step (errS.from a.ext) a.ext.in' a.frz p fun es vs G1 H1 S T _ fr oA p1=>?_
   have xE:=fr.ext;have rA:=oA.repL;have a1:=a.wider xE;have o1:=o0.mono xE.g xE.h;dsimp only;rw[qBh];have h0:∀b,H0 b≠none->cutH H1 (As i) b=H1 b:=fun b hb=>zGT fun z=>hb (a1.new i b z).1
   have ex:∀{G' H':Hp},Ext G1 (cutH H1 (As i)) G' H'->Ext G0 H0 G' H':=fun xt=>by
    refine⟨a1.ext.g.trans xt.g,fun b ob e=>xt.h _ _ ((h0 b (by rw[e];simp)).trans (a1.ext.h _ _ e)),xt.in',fun b hb=>?_⟩;rw[xt.old b (by rw[h0 b hb];exact a1.ext.h.some hb)];exact a1.ext.old b hb
   refine⟨G1,As i,es,v0,d0,vs,rfl,a1.tab.trans a1.ext.g,a1.ext.in',fun b hb=>(a1.new i b hb).2,o1,rA,?_⟩;cases ef:f (d0::es)with
   |none=>rw[ef]at p1;exact p1.elim
   |some r=>
    rw[ef]at p1;cases r with
    |error x=>exact fun c da G' H' xt xr=>p1 c da G' H' (ex xt) xr
    |ok d=>
     refine fun v G' H' S' fr' o'=>p1 v G' H' S' ⟨ex fr'.ext,fun b hb=>?_⟩ o'
     obtain⟨n1,n2,n3⟩:=fr'.new b hb;refine⟨?_,n2,n3⟩;by_cases z:As i b
     ·exact(a1.new i b z).1
     ·rw[zGT z]at n1;exact a1.ext.h.free n1
  ·exact p.elim
 ·exact p.elim
theorem zOR(A:DE mg E ta ma (n+1))(B:DE mg E tb mb l):DE mg E (tOp (rIxU Kc.K) ta tb) (Mi.eIxO ma mb) n:=by
 intro G H σ ρ Q s w p;refine A.step errE s w p fun d v G1 H1 S1 em1 fr o p1=>?_
 refine(zAM B).step (errE.from fr.ext) fr.ext.in' (w.mono fr.ext.g) p1 fun e u G2 H2 S2 em2 fr2 o2 p2=>?_
 clear em1 em2
 split at p2
 ·rename_i ds z
  cases(show u=.int z from o2)
  obtain⟨a,xs,T,rfl,ha,kd⟩:=o;cases ei:Mi.itA ds z with
  |none=>rw[ei]at p2;exact p2.elim
  |some d=>
   rw[ei]at p2;unfold Mi.itA at ei;cases ec:Mi.ixA ds.length z with
   |none=>rw[ec]at ei;cases ei
   |some c=>
    rw[ec]at ei;have ei':ds[c]?=some d:=ei;have hc:c<xs.length:=by rw[kd.len];exact(qA2.mp ei').1
    have hx:xs[c]?=some xs[c]:=qAh hc;refine⟨xs,xs[c],.inl (SqL.of (fr2.ext.h _ _ ha)),?_,?_⟩
    ·rw[<- zFZ];unfold Mi.itA;rw[kd.len,ec];exact hx
    ·exact p2 xs[c] G2 H2 (T c) ⟨fr.ext.trans fr2.ext,fun b hb=>by
      obtain⟨n1,n2,n3⟩:=fr.new b (kd.sub c b hb);exact⟨n1,(fr2.ext.old b n3).trans n2,fr2.ext.h.some n3⟩⟩ ((kd.own c d _ ei' hx).mono fr2.ext.g fr2.ext.h)
 ·exact p2.elim
theorem zMM(i:Nat){t0:TE}{e0:EM}(Z:DE mg E t0 e0 n):DS mg E L (zEZ (tML popM (tOp (rIxU Kc.K) (vM i) t0) tNil)) (Mi.sPop2 i e0):=by
 intro G0 H0 S0 σ ρ G H As D a p;unfold Mi.sPop2 at p;split at p
 ·rename_i rs k e1
  obtain⟨v,h1,q,xs0,T0,rfl,hq0,kd0⟩:=a.at i _ _ e1;obtain⟨J,x,s,w⟩:=a.full;unfold zEZ tML tOp vM;rw[h1];refine(zAM Z).step (errS.from x) x.in' w p fun z0 u0 G2 H2 S2 ee fr2 o2 p2=>?_
  split at p2
  ·rename_i y0
   cases(show u0=.int y0 from o2)
   split at p2
   ·rename_i c ei
    split at p2
    ·rename_i ds erow
     split at p2
     ·exact p2.elim
     ·rename_i hz
      have a2:=a.grow fr2.ext.h;obtain⟨xs,qr,ys,w1,w2,w3,w4,w5,w6⟩:=a2.row e1 h1 erow;refine⟨xs,.ref qr,.inl (SqL.of w1),?_,?_⟩
      ·rw[<- zFZ];unfold Mi.itA;rw[w2,ei];exact w3
      have hdl:0<ds.length:=List.length_pos_iff.mpr hz;have hc:ds.length-1<ys.length:=by rw[w5];lia
      have hx:ys[ys.length-1]?=some ys[ds.length-1]:=by rw[w5];exact qAh hc
      have hdr:ys.dropLast=ys.eraseIdx (ds.length-1):=by
       rw[<- w5,qBo,qCi (by lia),qBh,List.dropLast_eq_take]
      unfold tNil;refine⟨ys,w4,ys,_,w4,hx,?_⟩;rw[hdr];refine p2 σ G _ As (w6 (ds.eraseIdx (ds.length-1)) (ys.eraseIdx (ds.length-1)) ?_ fun r d z e3 e4=>.inl ?_)
      ·rw[qBe hc,qBe (by lia),w5]
      ·rw[qBo,qCi (by lia),qBh]at e3 e4;rw[List.getElem?_take]at e3 e4
       split at e3
       ·rename_i hr
        rw[if_pos hr]at e4;exact⟨e3,e4⟩
       ·cases e3
    ·exact p2.elim
   ·exact p2.elim
  ·exact p2.elim
 ·exact p.elim
theorem zJB{nm:String}(hn:nm∈["int","bool","str","list","tuple","dict"])(A:DE mg E ta ma k):DE mg E (tCB zLT (zD5 ta (zD5 (tC (.ty nm)) tNil))) (Mi.eIsiX nm ma) n:=by
 intro G H σ ρ Q s w p;refine(zAM A).step errE s w p fun d v G1 H1 S em fr o p1=>?_
 have p2:=PostE.from p1 fr.ext;clear em;unfold Mi.isiX at p2
 split at p2
 ·rename_i kvs
  obtain⟨a,rfl,ha⟩:=o;refine⟨"dict",?_,hn,?_⟩
  ·unfold zDR;dsimp only;rw[fr.ext.in' _ _ ha]
  ·have h2:zIV "dict" nm=("dict" == nm):=by unfold zIV;simp
   rw[h2];exact PostE.val p2 (Ext.refl fr.ext.in') rfl rfl
 ·unfold Mi.isiD at p2
  split at p2
  ·exact p2.elim
  ·rename_i hd
   exact⟨Mi.tyD d,zN2 fr.ext.in' o hd,hn,PostE.val p2 (Ext.refl fr.ext.in') rfl rfl⟩
theorem zNG:ROp rEqX Mi.eqX n:=by
 intro mg E G H d e x y Q s h1 h2 p;unfold Mi.eqX at p;split at p
 ·obtain⟨a,rfl,ha⟩:=h1;obtain⟨b,rfl,hb⟩:=h2;exact .inl ⟨a,b,rfl,rfl,.inl (s _ _ ha),.inl (s _ _ hb),PostE.val p (Ext.refl s) rfl rfl⟩
 ·exact .inr (zD6 mg E G H d e x y Q s h1 h2 p)
end
def spC0(K:qA0)(mg:Str->Option Value)(k L:Nat)(f:FM):Sp:=fun vs H Q _=>@spC ⟨K⟩ mg k L f vs H Q E0
section
variable{P:qEq}{w:World}{K:qA0}{mg:Str->Option Value}{base:Heap}{x:Str}{st:Stmt}{N ps:List Str}{k:Nat}
open PyProof.Rows
theorem dfC{L n j:Nat}{m:Mi.SM}(D:Def K mg x st)(S:FnScope N ps (zAC st))
  (hb:∀(kV doc pm:Value)(an:Option Addr)(cdv ct:Value)(us:List Value),us.length=ps.length->qGn (qAt x x (zBO st) (zBD st) (zAC st) .none kV doc pm an cdv ct) ⟨us,[]⟩=pure (ps.zip us))
  (hbody:∀{f:Addr}{cdv:Value}{A:qEs}{outer:List Env}{s:qEo}{H:Hp}{vs:List V}{Q:VK}{E:XK},Room k (A.deeper (envOfC x (zAC st) s.heap.objs.size f cdv))->(A.deeper (envOfC x (zAC st) s.heap.objs.size f cdv)).units+64<cLine->spC0 K mg j L (Mi.runC ps.length n j m) vs H Q E ->
   ∃t,PSs (cxOf CX0 P w K mg base N x (zAC st) f cdv A outer s H E).nox (zBD st) t/\t { nx:=fun _ H'=>Q .non H',rt:=Q } (start N vs) H):Has P w K mg base x (k+1) ps (spC0 K mg j L (Mi.runC ps.length n j m)):=
 D.ok S hb (fun _ _ _ _ h=>@zLO ⟨K⟩ _ _ _ _ _ _ _ _ _ _ _ h) fun _ _ _ _ _ _ _ _ _ hr h=>hbody hr hr.units h
end
end L3
namespace Mi
open PySem
section
variable(ρ:Rh)(r:Ro)(a:EM)(am:AM)
@[simp] theorem x_tL:tL a ρ=zA2 (a ρ) fun x=>match x with | .bl k=>okR k | .int i=>okR (i != 0) | .non=>okR false | .lst xs=>okR (!xs.isEmpty) | .tup xs=>okR (!xs.isEmpty)|_=>none:=rfl
@[simp] theorem x_eMl(f:List Dt->List Dt->Option Dt):eMl f a am ρ=zA2 (a ρ) fun x=>match x with | .lst xs=>zA2 (am ρ) fun ds=>optR (f xs ds)|_=>none:=rfl
@[simp] theorem x_iRv:iRv am ρ=zA2 (am ρ) fun vs=>match vs with|[.lst xs]=>okR xs.reverse|_=>none:=rfl
@[simp] theorem v_xor(i j:Int):xorD (.int i) (.int j)=some (.int (qGy i j)):=rfl
@[simp] theorem v_rep(xs:List Dt)(k:Int):repD (.lst xs) (.int k)=@ite _ ((-4611686018427387904<=k/\k<4611686018427387904)/\xs.length*k.toNat<=100000) (qA1 _) (some (.lst (qAb k.toNat xs).flatten)) none:=rfl
end
@[simp] theorem okR_inj{α:Type}{a b:α}:okR a=okR b↔a=b:=⟨fun h=>by cases h;rfl,fun h=>by rw[h]⟩
@[simp] theorem zKQ(vs:List Nat)(it:IM)(tg:Tg)(b:SM)(r:Ro):sFor vs it tg b r=zA2 (it (frz (frzAt vs r))) fun ds=>forGo tg b ds (frzAt vs r):=rfl
@[simp] theorem zLI(it:IM)(i:Nat)(b:SM)(r:Ro):sForR it i b r=zA2 (it (full r)) fun ds=>forGo (.one i) b ds r:=rfl
@[simp] theorem x_iSq(e:EM)(ρ:Rh):iSq e ρ=zA2 (e ρ) fun d=>match d with | .lst xs=>okR xs | .tup xs=>okR xs | .scr ns=>okR (ns.map .int) | .str z=>okR (signsD z)|_=>none:=rfl
@[simp] theorem x_iEn(e:AM)(ρ:Rh):iEn e ρ=zA2 (e ρ) fun vs=>match vs with|[.lst xs]=>okR (zMG 0 xs)|_=>none:=rfl
@[simp] theorem x_iZi(e:AM)(ρ:Rh):iZi e ρ=zA2 (e ρ) fun vs=>match vs with|[.lst xs,.lst ys]=>okR (zipD xs ys)|_=>none:=rfl
theorem zD2{e:AM}{ρ:Rh}{n:Nat}(h:e ρ=okR [.int n])(hn:n<=100000):iR1 e ρ=okR (nums 0 n):=by
 unfold iR1;rw[h,zA0];dsimp only;rw[if_pos (by lia)];simp
theorem zF6(n:Nat):nums 0 n=(qA5 n).map fun i:Nat=>Dt.int (i:Int):=by
 unfold nums;exact qC1 fun i _=>by simp
def nxR(x:R Out)(P:Ro->Prop):Prop:=match x with
 |some (.ok (.nx r))=>P r
 |_=>False
@[simp] theorem x_nxR(r:Ro)(P:Ro->Prop):nxR (okR (.nx r)) P=P r:=rfl
theorem zGO{x:R Out}{P:Ro->Prop}(h:nxR x P):∃r',x=okR (.nx r')/\P r':=by
 unfold nxR at h;split at h
 ·exact⟨_,rfl,h⟩
 ·exact h.elim
theorem zO6{x:R Out}{P:Ro->Prop}{r:Ro}(h:x=okR (.nx r))(hp:P r):nxR x P:=by rw[h];exact hp
theorem zP1{i n:Nat}{e:EM}{r:Ro}{ds:List Dt}{k:Nat}{d:Dt}(h:r[i]?=some (some (.lst ds,k+1)))(he:e (full r)=okR d)(h1:ds.length<=100000)(h2:d.dep<=n)(h3:d.dep<=k):sApp i n e r=okR (.nx (r.set i (some (.lst (ds++[d]),k+1)))):=by
 unfold sApp;rw[h];dsimp only;rw[he,zA0,if_pos ⟨h1,h2,h3⟩]
theorem zO7{i j:Int}(h:-18446744073709551616<i)(h':i<18446744073709551616):mulD (.int i) (.int j)=some (.int (i*j)):=by
 rw[zHH,if_pos (.inl (.inl ⟨h,h'⟩))]
theorem zM4{i j:Int}(h:-18446744073709551616<j)(h':j<18446744073709551616):mulD (.int i) (.int j)=some (.int (i*j)):=by
 rw[zHH,if_pos (.inl (.inr ⟨h,h'⟩))]
theorem zC7{ρ:Rh}{c:TM}{e:EM}{i:Nat}(g:Nat->Dt)(n:Nat)(hc:c=tYes)(hi:i=ρ.length)(h:∀k,k<n->e (ρ++[some (.int (k:Nat))])=okR (g k))(it:IM)(hit:it ρ=okR (nums 0 n))(hn:n<=100000):eComp it 1 (.one i) c e ρ=okR (.lst ((qA5 n).map g)):=by
 subst hc hi;unfold eComp;rw[hit,zA0,if_pos ⟨by simpa[nums]using hn,by simp[Tg.idx]⟩];rw[zHD (fun d=>match d with | .int k=>g k.toNat|_=>.non) _ [] fun d hd=>?_]
 ·rw[zA0,zF6,qBr];simp only[List.nil_append]
  congr 2
 ·rw[zF6]at hd;obtain⟨k,hk,rfl⟩:=qAq.mp hd;refine⟨_,rfl,rfl,?_⟩
  have:zAI (ρ++qAb 1 none) [(ρ.length,Dt.int (k:Int))]=ρ++[some (.int (k:Nat))]:=by
   simp[zAI]
  rw[this];simpa using h k (by simpa using hk)
theorem zBB{ρ:Rh}{c:TM}{e:EM}{i:Nat}{β:Type}(en:β->Dt)(g:β->Dt)(ns:List β)(hc:c=tYes)(hi:i=ρ.length)(h:∀k,k∈ns->e (ρ++[some (en k)])=okR (g k))(it:IM)(hit:it ρ=okR (ns.map en))(hn:ns.length<=100000):eComp it 1 (.one i) c e ρ=okR (.lst (ns.map g)):=by
 subst hc hi;unfold eComp;rw[hit,zA0,if_pos ⟨by simpa using hn,by simp[Tg.idx]⟩]
 have:∀(ns:List β)(acc:List Dt),(∀k,k∈ns->e (ρ++[some (en k)])=okR (g k))->compGo ρ 1 (.one ρ.length) tYes e (ns.map en) acc=okR (acc++ns.map g):=by
  intro ns;induction ns with
  |nil=>intro acc _;simp[compGo]
  |cons d r ih=>
   intro acc h;rw[qAn,compGo];have e1:zAI (ρ++qAb 1 none) [(ρ.length,en d)]=ρ++[some (en d)]:=by simp[zAI]
   show zA2 (tYes _) _=_;simp only[zMX,zA0,if_true];show zA2 (e (zAI (ρ++qAb 1 none) [(ρ.length,en d)])) _=_;rw[e1,h d (by simp),zA0,ih _ fun k hk=>h k (by simp[hk])];simp
 rw[this ns [] h,zA0];simp
theorem zCE{a b:SM}{r:Ro}{X:R Out}(h:∀bb:SM,bb=b->nxR (a r) fun r1=>bb r1=X):sSeq a b r=X:=by
 obtain⟨r1,h1,h2⟩:=zGO (h b rfl);unfold sSeq;rw[h1,zA0];exact h2
theorem zBY{P n:Nat}{b:SM}{ds:List Dt}{d:Dt}(h:ds.length=P)(hb:b (startO n ds)=okR (.rt d)):runF P n b ds=okR d:=by
 unfold runF;rw[if_pos h,hb];rfl
theorem zPM{j n:Nat}{b:SM}{r:Ro}{X:Ro->Prop}(Pv:Nat->Ro->Prop)(h:Pv 0 r)(hs:∀k,k<n->∀r,Pv k r->nxR (b (r.set j (some (.int (k:Nat),0)))) (Pv (k+1)))(hK:∀r',Pv n r'->X r'):nxR (forGo (.one j) b (nums 0 n) r) X:=by
 obtain⟨r',h1,h2⟩:∃r',forGo (.one j) b (nums 0 n) r=okR (.nx r')/\Pv n r':=by
  obtain⟨r',h1,h2⟩:=zJ2 (tg:=.one j) (b:=b) Pv (nums 0 n) 0 r h fun k d r hd hp=>by
   rw[zF6,qAf]at hd;cases e:(qA5 n)[k]? with
   |none=>rw[e]at hd;cases hd
   |some q=>
    rw[e]at hd;cases hd;obtain⟨h1,h2⟩:=qA2.mp e;rw[qBj]at h2;subst h2;rw[qEi]at hp;obtain⟨r',g1,g2⟩:=zGO (hs k (by simpa using h1) r hp);exact⟨_,r',rfl,g1,by rw[qEi];exact g2⟩
  exact⟨r',h1,by simpa[nums]using h2⟩
 rw[h1];exact hK r' h2
theorem zFX:∀(a b:List Char),a.map qEl=b.map qEl->a=b
 |[],[],_=>rfl
 |[],_::_,h=>by simp at h
 |_::_,[],h=>by simp at h
 |x::r,y::q,h=>by
  simp only[qAn,List.cons.injEq]at h;rw[zFX r q h.2];have:x=y:=Char.toNat_inj.mp h.1;rw[this]
@[simp] theorem str_inj(a b:String):(Str.ofString a=Str.ofString b)↔a=b:=by
 constructor
 ·intro h;rw[qFs,qFs]at h;simp only[Str.mk.injEq,List.toArray_inj]at h
  have:=zFX _ _ (by simpa using h)
  exact String.toList_inj.mp this
 ·intro h;rw[h]
section
variable(ρ:Rh)(a:EM)(am:AM)(lo hi:OM)
@[simp] theorem x_eSl:eSl a lo hi ρ=zA2 (a ρ) fun x=>zA2 (lo ρ) fun l=>zA2 (hi ρ) fun h=>optR (slD x l h):=rfl
@[simp] theorem x_oNo:oNo ρ=okR none:=rfl
@[simp] theorem x_oE:oE a ρ=zA2 (a ρ) fun d=>match d with | .int i=>okR (some i)|_=>none:=rfl
@[simp] theorem x_eMt(f:Dt->List Dt->Option Dt):eMt f a am ρ=zA2 (a ρ) fun x=>if zIW x=true then zA2 (am ρ) fun xs=>optR (f x xs)else none:=rfl
@[simp] theorem v_isStr(z:Str):zIW (.str z)=true:=rfl
end
@[simp] theorem v_slL(xs:List Dt)(l h:Option Int):slD (.lst xs) l h=some (.lst (cutA xs l h)):=rfl
@[simp] theorem v_slS(z:Str)(l h:Option Int):slD (.str z) l h=@ite _ (z.length<=100000) (qA1 _) (some (.str ⟨(cutA z.cps.toList l h).toArray⟩)) none:=rfl
@[simp] theorem v_ixSt(z:Str)(i:Int):ixD (.str z) (.int i)=@ite _ (z.length<=100000) (qA1 _) ((itA z.cps.toList i).map fun c=>.str ⟨#[c]⟩) none:=rfl
@[simp] theorem v_lenSt(z:Str):lenD [.str z]=@ite _ (z.length<=100000) (qA1 _) (some (.int z.length)) none:=rfl
@[simp] theorem v_count1(z:Str)(c:Nat):zOT (.str z) [.str ⟨#[c]⟩]=some (.int (z.cps.toList.count c:Nat)):=rfl
@[simp] theorem v_in1(ng:Bool)(z:Str)(c:Nat):inD ng (.str ⟨#[c]⟩) (.str z)=some (.bl (if ng=true then !decide (c∈z.cps.toList)else decide (c∈z.cps.toList))):=rfl
@[simp] theorem v_find1(z:Str)(c:Nat):zPU (.str z) [.str ⟨#[c]⟩]=some (.int (match posC c z.cps.toList with|some i=>(i:Int)|none=>-1)):=rfl
theorem zLN(a b:Str):(a++b).cps.toList=a.cps.toList++b.cps.toList:=by
 show(Str.mk (a.cps++b.cps)).cps.toList=_;simp
theorem zM7(z:Str):z.length=z.cps.toList.length:=by
 unfold Str.length;simp
theorem zIK(l:List Nat):(Str.mk l.toArray).length=l.length:=by rw[zM7]
noncomputable def zCQ(bad:Nat->Option Dt):Nat->Nat->Option Dt
 |_,0=>none
 |k,m+1=>match bad k with
  |some x=>some x
  |none=>zCQ bad (k+1) m
theorem zDE{tg:Tg}{b:SM}(Pv:Ro->Prop)(bad:Nat->Option Dt):∀(ds:List Dt)(i:Nat)(r:Ro),Pv r ->
  (∀j d,ds[j]?=some d->∀r,Pv r->∃bs,zAJ tg d=some bs/\((∃x,bad (i+j)=some x/\b (zAK r bs)=okR (.rt x))\/(bad (i+j)=none/\nxR (b (zAK r bs)) Pv))) ->
  (∃x,zCQ bad i ds.length=some x/\forGo tg b ds r=okR (.rt x))\/(zCQ bad i ds.length=none/\∃r',forGo tg b ds r=okR (.nx r')/\Pv r')
 |[],i,r,h,_=>.inr ⟨rfl,r,by simp[forGo],h⟩
 |d::ds,i,r,h,hs=>by
  obtain⟨bs,h1,⟨x,h2,h3⟩|⟨h2,h3⟩⟩:=hs 0 d (by simp) r h
  ·rw[qEj]at h2;exact .inl ⟨x,by rw[qAz,zCQ,h2],by rw[forGo];simp[h1,h3]⟩
  ·rw[qEj]at h2;obtain⟨r',h3,h4⟩:=zGO h3
   rcases zDE Pv bad ds (i+1) r' h4 (fun j e he r hr=>by
    have:=hs (j+1) e (by simpa using he) r hr
    rw[show i+1+j=i+(j+1) by lia];exact this)with⟨x,h5,h6⟩|⟨h5,r2,h6,h7⟩
   ·exact .inl ⟨x,by rw[qAz,zCQ,h2];exact h5,by rw[forGo];simp[h1,h3,h6]⟩
   ·exact .inr ⟨by rw[qAz,zCQ,h2];exact h5,r2,by rw[forGo];simp[h1,h3,h6],h7⟩
end Mi
namespace Mp
open Mi PySem
theorem sg{i n:Nat}{vs:List Nat}{e:EM}{b:SM}{r:Ro}{d:Dt}{X:R Out}(he:e (full r)=okR d)(hd:d.dep<=n)(h:b (r.set i (some (d,n)))=X):sSeq (sSet i n vs e) b r=X:=by
 rw[zDZ,zKN,he,zA0,if_pos hd,zA0];exact h
theorem sp{c:TM}{a b:SM}{r:Ro}{X:R Out}(hc:c (full r)=okR false)(h:b r=X):sSeq (sIf c a sNil) b r=X:=by
 rw[zDZ,zHX,hc,zA0,if_neg (by simp),zKP,zA0];exact h
theorem st{c:TM}{a b:SM}{r r':Ro}{X:R Out}(hc:c (full r)=okR true)(ha:a r=okR (.nx r'))(h:b r'=X):sSeq (sIf c a sNil) b r=X:=by
 rw[zDZ,zHX,hc,zA0,if_pos rfl,ha,zA0];exact h
theorem c2{m:FM}{e1 e2:EM}{ρ:Rh}{d1 d2:Dt}{X:R Dt}(h1:e1 ρ=okR d1)(h2:e2 ρ=okR d2)(h:m [d1,d2]=X):eCall m (aCons e1 (aCons e2 aNil)) ρ=X:=by
 simp only[zGJ,zD3,zER,h1,h2,zA0];exact h
theorem c1{m:FM}{e1:EM}{ρ:Rh}{d1:Dt}{X:R Dt}(h1:e1 ρ=okR d1)(h:m [d1]=X):eCall m (aCons e1 aNil) ρ=X:=by
 simp only[zGJ,zD3,zER,h1,zA0];exact h
theorem b2{o:Dt->Dt->Option Dt}{e1 e2:EM}{ρ:Rh}{d1 d2 d:Dt}(h1:e1 ρ=okR d1)(h2:e2 ρ=okR d2)(h:o d1 d2=some d):eB o e1 e2 ρ=okR d:=by
 rw[x_eB,h1,zA0,h2,zA0,h];rfl
theorem bi1{o:List Dt->Option Dt}{e1:EM}{ρ:Rh}{d1 d:Dt}(h1:e1 ρ=okR d1)(h:o [d1]=some d):eBi o (aCons e1 aNil) ρ=okR d:=by
 simp only[zLJ,zD3,zER,h1,zA0,h];rfl
theorem el2{e1 e2:EM}{ρ:Rh}{d1 d2:Dt}(h1:e1 ρ=okR d1)(h2:e2 ρ=okR d2):eLst (aCons e1 (aCons e2 aNil)) ρ=okR (.lst [d1,d2]):=by simp[h1,h2]
theorem tb1{e:EM}{ρ:Rh}{k:Bool}(h:e ρ=okR (.bl k)):tB e ρ=okR k:=by rw[x_tB,h,zA0]
theorem tm1{e:EM}{ρ:Rh}{k:Bool}(h:e ρ=okR (.bl k)):tM e ρ=okR k:=by rw[x_tM,h,zA0]
theorem tn1{t:TM}{ρ:Rh}{k:Bool}(h:t ρ=okR k):tNo t ρ=okR (!k):=by rw[zP0,h,zA0]
theorem to0{t t':TM}{ρ:Rh}{k:Bool}(h:t ρ=okR false)(h':t' ρ=okR k):Mi.tOr t t' ρ=okR k:=by rw[zLH,h,zA0,if_neg (by simp),h']
theorem to1{t t':TM}{ρ:Rh}(h:t ρ=okR true):Mi.tOr t t' ρ=okR true:=by rw[zLH,h,zA0,if_pos rfl]
theorem ta1{t t':TM}{ρ:Rh}{k:Bool}(h:t ρ=okR true)(h':t' ρ=okR k):tAn t t' ρ=okR k:=by rw[zMY,h,zA0,if_pos rfl,h']
theorem ta0{t t':TM}{ρ:Rh}(h:t ρ=okR false):tAn t t' ρ=okR false:=by rw[zMY,h,zA0,if_neg (by simp)]
theorem sr{L n:Nat}{vs:List Nat}{e:EM}{r:Ro}{d:Dt}(he:e (full r)=okR d)(hd:d.dep<=n/\d.dep<=L):sRet L n vs e r=okR (.rt d):=by
 rw[zKO,he,zA0,if_pos hd]
theorem tl{k k':Bool}{x:Option Dt}(h:x=some (.bl k))(e:k=k'):x=some (.bl k'):=e▸h
theorem sf{c:TM}{a:SM}{r:Ro}(hc:c (full r)=okR false):sIf c a sNil r=okR (.nx r):=by
 rw[zHX,hc,zA0,if_neg (by simp),zKP]
theorem eqi{e1 e2:EM}{ρ:Rh}{a b:Int}{k:Bool}(h1:e1 ρ=okR (.int a))(h2:e2 ρ=okR (.int b))(h:decide (a=b)=k):tB (eB eqD e1 e2) ρ=okR k:=by
 refine tb1 (b2 h1 h2 ?_);rw[<- h];simp[Dt.eq];rfl
theorem nei{e1 e2:EM}{ρ:Rh}{a b:Int}{k:Bool}(h1:e1 ρ=okR (.int a))(h2:e2 ρ=okR (.int b))(h:(!decide (a=b))=k):tB (eB neD e1 e2) ρ=okR k:=by
 refine tb1 (b2 h1 h2 ?_);rw[<- h];simp[Dt.eq];rfl
theorem sx{c:TM}{a b:SM}{r:Ro}{d:Dt}(hc:c (full r)=okR true)(ha:a r=okR (.rt d)):sSeq (sIf c a sNil) b r=okR (.rt d):=by
 rw[zDZ,zHX,hc,zA0,if_pos rfl,ha,zA0]
theorem mdi{i j k:Int}(h:0<j)(e:i%j=k):modD (.int i) (.int j)=some (.int k):=by rw[<- e];exact if_pos h
theorem dvi{i j:Int}(h:0<j/\j<1000000000000000000000000):divD (.int i) (.int j)=some (.int (i/j)):=@if_pos _ (qA1 _) h _ _ _
theorem c3{m:FM}{e1 e2 e3:EM}{ρ:Rh}{d1 d2 d3:Dt}{X:R Dt}(h1:e1 ρ=okR d1)(h2:e2 ρ=okR d2)(h3:e3 ρ=okR d3)(h:m [d1,d2,d3]=X):eCall m (aCons e1 (aCons e2 (aCons e3 aNil))) ρ=X:=by
 simp only[zGJ,zD3,zER,h1,h2,h3,zA0];exact h
theorem sk{c:TM}{a b:SM}{r:Ro}{X:R Out}(hc:c (full r)=okR true)(ha:a r=X):sIf c a b r=X:=by
 rw[zHX,hc,zA0,if_pos rfl];exact ha
theorem sw{s t:SM}{r r':Ro}{X:R Out}(h:s r=okR (.nx r'))(h2:t r'=X):sSeq s t r=X:=by rw[zDZ,h,zA0];exact h2
theorem s2s{i n:Nat}{vs:List Nat}{e:EM}{r:Ro}{d:Dt}(h1:e (full r)=okR d)(h2:e (frz (frzAt vs r))=okR d)(hr:frzAt vs r=r):sSet i n vs e r=okR (.nx (r.set i (some (d,n)))):=by
 rw[zKN,h1,zA0];by_cases z:d.dep<=n
 ·rw[if_pos z]
 ·rw[if_neg z,h2,zA0,hr]
theorem v1{i:Nat}{ρ:Rh}{d:Dt}(h:ρ[i]?=some (some d)):eV i ρ=okR d:=by rw[x_eV,h]
theorem al0{e:EM}{ρ:Rh}{d:Dt}(h:e ρ=okR d):aCons e aNil ρ=okR [d]:=by rw[zD3,h];rfl
theorem adi{a b c:Int}(h:a+b=c):addD (.int a) (.int b)=some (.int c):=by rw[<- h];rfl
theorem k1{d d':Dt}{ρ:Rh}(h:d=d'):eC d ρ=okR d':=by rw[<- h];rfl
theorem cmi{p:Int->Int->Bool}{a b:Int}{k:Bool}(h:p a b=k):cmpD p (.int a) (.int b)=some (.bl k):=by rw[<- h];rfl
def Apart(ls row:List Nat):Prop:=∀x∈row,∀y∈row,ls.getD x 0=ls.getD y 0->x=y
noncomputable def btw(cs:List Nat)(x:Nat):List Nat:=(cs.drop (cs.idxOf x+1)).take ((cs.drop (cs.idxOf x+1)).idxOf x)
def crs(cs:List Nat)(x y:Nat):Int:=if(btw cs x).count y=1 then 1 else 0
end Mp
namespace FW
theorem zEC{l:List Nat}{k:Nat}(h:k<l.length):(l.eraseIdx k).length+1=l.length:=by
 rw[qBe h];lia
end FW
namespace Mp
open Mi PySem
def zGE:SM:=(sRet 0 0 [0] (eAnd (eIsi "int" (eV 0)) (eNot (eIsi "bool" (eV 0)))))
def zCL:FM:=runF 1 1 zGE
def zD1:SM:=(sSeq (sSet 2 0 [] (eC (.int 0)))
 (sSeq (sIf (tB (eB (cmpD fun i j=>decide (i<j)) (eV 1) (eBi lenD (aCons (eV 0) aNil)))) (sSet 2 0 [0,1] (eB ixD (eV 0) (eV 1))) sNil)
 (sSeq (sSet 3 0 [2,1] (eB modD (eB mulD (eB addD (eB modD (eV 2) (eC (.int 2147483629))) (eB mulD (eC (.int 104729)) (eB addD (eV 1) (eC (.int 1))))) (eC (.int 48271))) (eC (.int 2147483647))))
 (sRet 1 1 [2,3] (eB addD (eB mulD (eB divD (eV 2) (eC (.int 2147483629))) (eC (.int 2147483647))) (eB modD (eB mulD (eV 3) (eC (.int 69621))) (eC (.int 2147483629))))))))
def zA9:FM:=runF 2 4 zD1
def zDV:SM:=(sRet 2 2 [0] (eComp (iR1 (aCons (eBi lenD (aCons (eV 0) aNil)) aNil)) 1 (.one 1) Mi.tYes (eComp (iSq (eV 0)) 1 (.one 2) Mi.tYes (eB ixD (eV 2) (eV 1)))))
def zBZ:FM:=runF 1 1 zDV
def zC2:SM:=(sRet 0 0 [0] (eAnd (eCall zCL (aCons (eV 0) aNil)) (eChain (cmpD fun i j=>decide (i<=j)) (cmpD fun i j=>decide (i<=j)) (eC (.int 0)) (eV 0) (eC (.int 1)))))
def zB8:FM:=runF 1 1 zC2
def zKK:SM:=(sRet 0 0 [0,1] (eAnd (eIsi "list" (eV 0)) (eAnd (eB eqD (eBi lenD (aCons (eV 0) aNil)) (eV 1)) (eBi allD (aCons (eComp (iSq (eV 0)) 1 (.one 2) Mi.tYes (eCall zB8 (aCons (eV 2) aNil))) aNil)))))
def zF7:FM:=runF 2 2 zKK
def zFN:SM:=(sSeq (sSet 2 0 [0,1] (eB ixD (eLst (aCons (eTup (aCons (eC (.int 1)) (aCons (eC (.int 0)) (aCons (eC (.int 3)) (aCons (eC (.int 2)) aNil))))) (aCons (eTup (aCons (eC (.int 2)) (aCons (eC (.int 3)) (aCons (eC (.int 0)) (aCons (eC (.int 1)) aNil))))) (aCons (eTup (aCons (eC (.int 3)) (aCons (eC (.int 2)) (aCons (eC (.int 1)) (aCons (eC (.int 0)) aNil))))) aNil)))) (eB ixD (eV 0) (eB divD (eV 1) (eC (.int 4))))))
 (sRet 1 1 [1,2] (eB addD (eB subD (eV 1) (eB modD (eV 1) (eC (.int 4)))) (eB ixD (eV 2) (eB modD (eV 1) (eC (.int 4)))))))
def zF8:FM:=runF 2 3 zFN
def zGG:SM:=(sSeq (sSet 3 9 [] (eLst aNil))
 (sSeq (sSet 4 0 [2] (eV 2))
 (sSeq (zKT (Mi.tOr (tB (eB eqD (eV 3) (eLst aNil))) (tB (eB neD (eV 4) (eV 2)))) (sSeq (sApp 3 0 (eV 4))
 (sSeq (sApp 3 1 (eCall zF8 (aCons (eV 1) (aCons (eV 4) aNil))))
 (sSet 4 0 [0,3] (eB ixD (eV 0) (eB ixD (eV 3) (eU negD (eC (.int 1)))))))))
 (sRetV 9 3))))
def zFY:FM:=runF 3 5 zGG
def zFM:SM:=(sSeq (sSet 2 1 [] eDct0)
 (sSeq (sSet 3 9 [] (eLst aNil))
 (sSeq (sForR (iR1 (aCons (eBi lenD (aCons (eV 0) aNil)) aNil)) 4 (sIf (tB (eB (dinD true) (eV 4) (eV 2))) (sSeq (sSet 5 9 [0,1,4] (eCall zFY (aCons (eV 0) (aCons (eV 1) (aCons (eV 4) aNil)))))
 (sSeq (sFor [5] (iSq (eV 5)) (.one 6) (zP9 2 (eV 6) (eC (.bl true))))
 (zND 3 [5] (eV 5)))) sNil))
 (sRetV 1 3))))
def m__law_rounds:FM:=runF 2 7 zFM
def zKJ:SM:=(sRet 0 0 [1,0] (eB xorD (eV 1) (eB addD (eV 0) (eC (.int 1)))))
def zJZ:FM:=runF 2 2 zKJ
def zGD:SM:=(sSeq (sSet 2 0 [1] (eB divD (eV 1) (eC (.int 4))))
 (sRet 1 1 [2,0,1] (eB addD (eB mulD (eV 2) (eC (.int 4))) (eCall zJZ (aCons (eB ixD (eV 0) (eV 2)) (aCons (eB modD (eV 1) (eC (.int 4))) aNil))))))
def zDT:FM:=runF 2 3 zGD
def zHU:SM:=(sSeq (sSet 3 1 [2,1] (eLst (aCons (eV 2) (aCons (eCall zDT (aCons (eV 1) (aCons (eV 2) aNil))) aNil))))
 (sSeq (zKT (tB (eB neD (eB ixD (eV 0) (eB ixD (eV 3) (eU negD (eC (.int 1))))) (eV 2))) (sSeq (sSet 4 0 [0,3] (eB ixD (eV 0) (eB ixD (eV 3) (eU negD (eC (.int 1))))))
 (sExt 3 0 (eLst (aCons (eV 4) (aCons (eCall zDT (aCons (eV 1) (aCons (eV 4) aNil))) aNil))))))
 (sRetV 1 3)))
def zHP:FM:=runF 3 5 zHU
def zGX:SM:=(sSeq (sSet 2 9 [] (eLst aNil))
 (sSeq (sSet 3 1 [] eDct0)
 (sSeq (sForR (iR1 (aCons (eBi lenD (aCons (eV 0) aNil)) aNil)) 4 (sIf (tB (eB (dinD true) (eV 4) (eV 3))) (sSeq (sSet 5 1 [0,1,4] (eCall zHP (aCons (eV 0) (aCons (eV 1) (aCons (eV 4) aNil)))))
 (sSeq (zND 2 [5] (eV 5))
 (zP7 3 (eComp (iSq (eV 5)) 1 (.one 6) Mi.tYes (eTup (aCons (eV 6) (aCons (eC (.bl true)) aNil))))))) sNil))
 (sRetV 1 2))))
def m_rounds_of:FM:=runF 2 6 zGX
def zBQ:SM:=(sSeq (sSet 2 0 [0] (eBi lenD (aCons (eV 0) aNil)))
 (sSeq (sSet 3 0 [1] (eB modD (eV 1) (eC (.int 12))))
 (sSeq (sSet 4 0 [2,1] (eB modD (eB divD (eV 1) (eC (.int 12))) (eV 2)))
 (sSeq (sSet 5 0 [2,1] (eB modD (eB divD (eV 1) (eC (.int 120))) (eV 2)))
 (sSeq (sIf (tB (eB (cmpD fun i j=>decide (i<j)) (eV 3) (eC (.int 6)))) (sItem2 0 1 (eV 4) (eV 5) (eIxO (eLst (aCons (eC (.int 2)) (aCons (eU negD (eC (.int 1))) (aCons (eC (.bl true)) (aCons (eC .non) (aCons (eC (.str "1")) (aCons (eLst (aCons (eC (.int 1)) aNil)) aNil))))))) (eV 3))) sNil)
 (sSeq (sIf (tAn (tB (eB eqD (eV 3) (eC (.int 6)))) (tB (eB neD (eV 4) (eV 5)))) (sItem2 0 0 (eV 4) (eV 5) (eB subD (eC (.int 1)) (eB ixD (eB ixD (eV 0) (eV 4)) (eV 5)))) sNil)
 (sSeq (sIf (tB (eB eqD (eV 3) (eC (.int 7)))) (sApp2 0 0 (eV 4) (eC (.int 0))) sNil)
 (sSeq (sIf (tB (eB eqD (eV 3) (eC (.int 8)))) (sPop2 0 (eV 4)) sNil)
 (sSeq (sIf (tB (eB eqD (eV 3) (eC (.int 9)))) (sItem 0 1 (eV 4) (eBi tupD (aCons (eB ixD (eV 0) (eV 4)) aNil))) sNil)
 (sSeq (sIf (tB (eB eqD (eV 3) (eC (.int 10)))) (sPopD 0 (eV 4)) sNil)
 (sSeq (sIf (tB (eB eqD (eV 3) (eC (.int 11)))) (sApp 0 1 (eComp (iR1 (aCons (eB addD (eV 2) (eC (.int 1))) aNil)) 1 (.one 6) Mi.tYes (eC (.int 0)))) sNil)
 (sRetV 0 0))))))))))))
def zB6:FM:=runC 2 6 3 zBQ
def zB0:SM:=(sSeq (sSet 3 0 [0,1,2] (eB modD (eCall zA9 (aCons (eV 0) (aCons (eV 1) aNil))) (eB addD (eV 2) (eC (.int 1)))))
 (sSeq (sSet 4 0 [3,0,1] (eBi maxD (aCons (eC (.int 1)) (aCons (eB subD (eV 3) (eB modD (eB divD (eCall zA9 (aCons (eV 0) (aCons (eV 1) aNil))) (eC (.int 16))) (eC (.int 4)))) aNil))))
 (sSeq (sSet 5 1 [4,3,0,1] (eComp (iR1 (aCons (eV 3) aNil)) 1 (.one 10) Mi.tYes (eB modD (eB divD (eCall zA9 (aCons (eV 0) (aCons (eB addD (eV 1) (eC (.int 1))) aNil))) (eB addD (eV 10) (eC (.int 1)))) (eV 4))))
 (sSeq (sIf (tB (eB (cmpD fun i j=>decide (j<i)) (eB modD (eB divD (eCall zA9 (aCons (eV 0) (aCons (eV 1) aNil))) (eC (.int 64))) (eC (.int 3))) (eC (.int 0)))) (sSet 5 1 [4,3] (eComp (iR1 (aCons (eV 3) aNil)) 1 (.one 10) Mi.tYes (eB modD (eV 10) (eV 4)))) sNil)
 (sSeq (sSet 6 2 [0,9,4,1] (eComp (iR1 (aCons (eV 4) aNil)) 1 (.one 10) Mi.tYes (eCall zA9 (aCons (eV 0) (aCons (eB addD (eB addD (eV 1) (eC (.int 2))) (eV 10)) aNil)))))
 (sSeq (sSet 7 0 [0,1] (eB (cmpD fun i j=>decide (j<i)) (eB modD (eB divD (eCall zA9 (aCons (eV 0) (aCons (eV 1) aNil))) (eC (.int 192))) (eC (.int 3))) (eC (.int 0))))
 (sSeq (sSet 8 2 [9,4,6] (eComp (iR1 (aCons (eV 4) aNil)) 1 (.one 10) Mi.tYes (eComp (iR1 (aCons (eV 4) aNil)) 1 (.one 11) Mi.tYes (eB modD (eB divD (eB ixD (eV 6) (eBi maxD (aCons (eV 10) (aCons (eV 11) aNil)))) (eB addD (eB mulD (eBi minD (aCons (eV 10) (aCons (eV 11) aNil))) (eBi minD (aCons (eV 10) (aCons (eV 11) aNil)))) (eC (.int 3)))) (eC (.int 2))))))
 (sSeq (sForR (iR1 (aCons (eV 4) aNil)) 9 (sItem2 8 0 (eV 9) (eV 9) (eB mulD (eB ixD (eB ixD (eV 8) (eV 9)) (eV 9)) (eBi intD (aCons (eV 7) aNil)))))
 (sRet 3 2 [9,3,8,5] (eComp (iR1 (aCons (eV 3) aNil)) 1 (.one 10) Mi.tYes (eComp (iR1 (aCons (eV 3) aNil)) 1 (.one 11) Mi.tYes (eB ixD (eB ixD (eV 8) (eB ixD (eV 5) (eV 10))) (eB ixD (eV 5) (eV 11))))))))))))))
def zBW:FM:=runF 3 10 zB0
def zGF:SM:=(sSeq (sSet 1 3 [0] (eCall zBW (aCons (eV 0) (aCons (eC (.int 0)) (aCons (eC (.int 10)) aNil)))))
 (sSeq (sSet 2 0 [0] (eB modD (eCall zA9 (aCons (eV 0) (aCons (eC (.int 14)) aNil))) (eC (.int 8))))
 (sSeq (sIf (tB (eB eqD (eV 2) (eC (.int 0)))) (sRet 0 0 [0] (eB ixD (eLst (aCons (eC .non) (aCons (eC (.int 0)) (aCons (eC (.str "")) (aCons (eC (.str "01")) (aCons (eTup aNil) (aCons eDct0 (aCons (eLst (aCons (eC (.int 0)) aNil)) (aCons (eLst (aCons (eLst (aCons (eC (.int 0)) aNil)) (aCons (eC (.int 1)) aNil))) aNil))))))))) (eB modD (eCall zA9 (aCons (eV 0) (aCons (eC (.int 15)) aNil))) (eC (.int 8))))) sNil)
 (sSeq (sIf (tB (eB eqD (eV 2) (eC (.int 1)))) (sRet 0 0 [] (eComp (iR1 (aCons (eC (.int 11)) aNil)) 1 (.one 3) Mi.tYes (eComp (iR1 (aCons (eC (.int 11)) aNil)) 1 (.one 4) Mi.tYes (eC (.int 0))))) sNil)
 (sSeq (sIf (Mi.tOr (tB (eB (cmpD fun i j=>decide (i<j)) (eV 2) (eC (.int 4)))) (tB (eB eqD (eBi lenD (aCons (eV 1) aNil)) (eC (.int 0))))) (sRetV 0 1) sNil)
 (sRetC 1 3 (aCons (eCall zA9 (aCons (eV 0) (aCons (eC (.int 15)) aNil))) aNil) zB6))))))
def zBF:FM:=runF 1 3 zGF
def zEP:SM:=(sRet 0 0 [0] (eAnd (eIsiX "list" (eV 0)) (eAnd (eB (cmpD fun i j=>decide (i<=j)) (eBi lenD (aCons (eV 0) aNil)) (eC (.int 10))) (eBi allD (aCons (eComp (iSq (eV 0)) 1 (.one 1) Mi.tYes (eCall zF7 (aCons (eV 1) (aCons (eBi lenD (aCons (eV 0) aNil)) aNil)))) aNil)))))
def zC6:FM:=runF 1 1 zEP
def zFL:SM:=(sRet 0 0 [0] (eAnd (eCall zC6 (aCons (eV 0) aNil)) (eB eqD (eV 0) (eCall zBZ (aCons (eV 0) aNil)))))
def zAR:FM:=runF 1 1 zFL
def zGY:SM:=(sRet 0 0 [0] (eAnd (eCall zAR (aCons (eV 0) aNil)) (eBi allD (aCons (eComp (iR1 (aCons (eBi lenD (aCons (eV 0) aNil)) aNil)) 1 (.one 1) Mi.tYes (eB eqD (eB ixD (eB ixD (eV 0) (eV 1)) (eV 1)) (eC (.int 0)))) aNil))))
def zBM:FM:=runF 1 1 zGY
def zFO:SM:=(sSeq (sIf (Mi.tOr (tNo (tM (eIsiX "list" (eV 0)))) (tB (eB (cmpD fun i j=>decide (j<i)) (eBi lenD (aCons (eV 0) aNil)) (eC (.int 10))))) (sRet 0 0 [] (eC (.bl false))) sNil)
 (sSeq (sFor [0] (iSq (eV 0)) (.one 2) (sSeq (sIf (Mi.tOr (tNo (tM (eIsi "list" (eV 2)))) (tB (eB neD (eBi lenD (aCons (eV 2) aNil)) (eBi lenD (aCons (eV 0) aNil))))) (sRet 0 0 [] (eC (.bl false))) sNil)
 (sSeq (sIf (tNo (tM (eBi allD (aCons (eComp (iSq (eV 2)) 1 (.one 4) Mi.tYes (eAnd (eIsi "int" (eV 4)) (eNot (eIsi "bool" (eV 4))))) aNil)))) (sRet 0 0 [] (eC (.bl false))) sNil)
 (sIf (tM (eBi anyD (aCons (eComp (iSq (eV 2)) 1 (.one 4) Mi.tYes (eOr (eB (cmpD fun i j=>decide (i<j)) (eV 4) (eC (.int 0))) (eB (cmpD fun i j=>decide (j<i)) (eV 4) (eC (.int 1))))) aNil))) (sRet 0 0 [] (eC (.bl false))) sNil))))
 (sSeq (sForR (iR1 (aCons (eBi lenD (aCons (eV 0) aNil)) aNil)) 3 (sSeq (sIf (tM (eBi anyD (aCons (eComp (iR1 (aCons (eV 3) aNil)) 1 (.one 4) Mi.tYes (eB neD (eB ixD (eB ixD (eV 0) (eV 3)) (eV 4)) (eB ixD (eB ixD (eV 0) (eV 4)) (eV 3)))) aNil))) (sRet 0 0 [] (eC (.bl false))) sNil)
 (sIf (tAn (tNo (tM (eV 1))) (tB (eB eqD (eB ixD (eB ixD (eV 0) (eV 3)) (eV 3)) (eC (.int 1))))) (sRet 0 0 [] (eC (.bl false))) sNil)))
 (sRet 0 0 [] (eC (.bl true))))))
def zAS:FM:=runF 2 4 zFO
def zJJ:SM:=(sSeq (sSet 1 0 [0] (eCall zBF (aCons (eV 0) aNil)))
 (sSeq (sSet 2 1 [1] (eLst (aCons (eCall zAR (aCons (eV 1) aNil)) (aCons (eCall zBM (aCons (eV 1) aNil)) aNil))))
 (sSeq (sIf (tNo (tM (eBi allD (aCons (eComp (iSq (eV 2)) 1 (.one 3) Mi.tYes (eIsi "bool" (eV 3))) aNil)))) (sRet 0 0 [] (eC (.bl false))) sNil)
 (sRet 0 0 [2,1,0] (eAnd (eB eqD (eV 2) (eLst (aCons (eCall zAS (aCons (eV 1) (aCons (eC (.bl true)) aNil))) (aCons (eCall zAS (aCons (eV 1) (aCons (eC (.bl false)) aNil))) aNil)))) (eB eqX (eV 1) (eCall zBF (aCons (eV 0) aNil))))))))
def zEA:FM:=runF 1 3 zJJ
end Mp
namespace Mp
open Mi PySem
noncomputable def rowD(r:List Int):Dt:=.lst (r.map .int)
def mat(A:List (List Int)):Dt:=.lst (A.map rowD)
noncomputable def tab(n:Nat)(f:Nat->Nat->Int):List (List Int):=(qA5 n).map fun i=>(qA5 n).map fun j=>f i j
def Bits(n:Nat)(f:Nat->Nat->Int):Prop:=∀i j,i<n->j<n->f i j=0\/f i j=1
def Sym(n:Nat)(f:Nat->Nat->Int):Prop:=∀i j,i<n->j<n->f i j=f j i
@[simp] theorem zMP(r:List Int):(rowD r).dep=1:=by simp[rowD]
theorem ixR{n:Nat}{g:Nat->Int}{j:Nat}(h:j<n):ixD (rowD ((qA5 n).map g)) (.int (j:Int))=some (.int (g j)):=by
 refine zIS rfl ?_;simp[h]
@[simp] theorem lenR(r:List Int):lenD [rowD r]=some (.int r.length):=by
 show some (Dt.int ((r.map Dt.int).length:Int))=_;rw[qB0]
@[simp] theorem listR(r:List Int):zK0 [rowD r]=some (rowD r):=rfl
@[simp] theorem lenM(A:List (List Int)):lenD [mat A]=some (.int A.length):=by
 show some (Dt.int ((A.map rowD).length:Int))=_;rw[qB0]
theorem zG1:∀A:List (List Int),Dt.depL (A.map rowD)<=1
 |[]=>by simp
 |r::A=>by
  have:=zG1 A;rw[qAn,zE0,zMP];lia
theorem zDN(A:List (List Int)):(mat A).dep<=2:=by
 have:=zG1 A;unfold mat;rw[v_dl];lia
theorem zHB:∀A B:List (List Int),Dt.eqL (A.map rowD) (B.map rowD)=decide (A=B)
 |[],[]=>by simp[Dt.eqL]
 |[],_::_=>by simp[Dt.eqL]
 |_::_,[]=>by simp[Dt.eqL]
 |r::A,q::B=>by
  rw[qAn,qAn,Dt.eqL,zHB A B];unfold rowD;rw[v_e4,zDX];simp
theorem zOI(A B:List (List Int)):Dt.eq (mat A) (mat B)=decide (A=B):=by
 unfold mat;rw[v_e4,zHB]
theorem zC8(n:Nat)(f:Nat->Nat->Int):(tab n f).length=n:=by simp[tab]
theorem zE2{n:Nat}{f:Nat->Nat->Int}{i:Nat}(h:i<n):(tab n f)[i]?=some ((qA5 n).map fun j=>f i j):=by
 simp[tab,h]
theorem zOC{n:Nat}{f:Nat->Nat->Int}{i:Nat}(h:i<n):itA ((tab n f).map rowD) (i:Int)=some (rowD ((qA5 n).map fun j=>f i j)):=by
 refine zIS rfl ?_;rw[qAf,zE2 h];rfl
theorem ixM{n:Nat}{f:Nat->Nat->Int}{i:Nat}(h:i<n):ixD (mat (tab n f)) (.int (i:Int))=some (rowD ((qA5 n).map fun j=>f i j)):=zOC h
theorem zI2{n:Nat}{f g:Nat->Nat->Int}(h:∀i j,i<n->j<n->f i j=g i j):tab n f=tab n g:=by
 unfold tab;refine qC1 fun i hi=>qC1 fun j hj=>h i j (by simpa using hi) (by simpa using hj)
theorem zFH{ρ:Rh}{e:EM}{it:IM}{i n:Nat}(g:Nat->Int)(hi:i=ρ.length)(hn:n<=1000)(h1:it ρ=okR (nums 0 n))(h:∀a,a<n->e (ρ++[some (.int (a:Nat))])=okR (.int (g a))):eComp it 1 (.one i) tYes e ρ=okR (rowD ((qA5 n).map g)):=by
 rw[zC7 (fun b=>.int (g b)) n rfl hi (fun b hb=>h b hb) it h1 (by lia)];unfold rowD;rw[qBr];rfl
theorem zFG{ρ:Rh}{e:EM}{it it2:IM}{i j n:Nat}(f:Nat->Nat->Int)(hi:i=ρ.length)(hj:j=ρ.length+1)(hn:n<=1000)(h1:it ρ=okR (nums 0 n))(h2:∀a,it2 (ρ++[some (.int (a:Nat))])=okR (nums 0 n))
  (h:∀a b,a<n->b<n->e (ρ++[some (.int (a:Nat))]++[some (.int (b:Nat))])=okR (.int (f a b))):eComp it 1 (.one i) tYes (eComp it2 1 (.one j) tYes e) ρ=okR (mat (tab n f)):=by
 rw[zC7 (fun a=>rowD ((qA5 n).map fun b=>f a b)) n rfl hi (fun a ha=>?_) it h1 (by lia)]
 ·unfold mat tab;rw[qBr];rfl
 ·rw[zC7 (fun b=>.int (f a b)) n rfl (by rw[hj];simp) (fun b hb=>h a b ha hb) it2 (h2 a) (by lia)];unfold rowD;rw[qBr];rfl
theorem zJD(ns:List Int)(k:Int)(h0:0<=k)(h1:k<100000):∃c:Int,zA9 [.scr ns,.int k]=okR (.int c):=by
 unfold zA9 zD1;have m1:mulD (.int 104729) (.int (k+1))=some (.int (104729*(k+1))):=zO7 (by lia) (by lia)
 by_cases hk:k<ns.length
 ·simp[hk,zMA h0 hk,m1,-zHH,zM4]
 ·simp[hk,m1,-zHH,zM4]
theorem zM6(a b:Nat):maxD [.int (a:Int),.int (b:Int)]=some (.int ((max a b:Nat):Int)):=by
 simp[maxD];split<;>lia
theorem zM5(a b:Nat):minD [.int (a:Int),.int (b:Int)]=some (.int ((min a b:Nat):Int)):=by
 simp[minD];split<;>lia
theorem zIR{r:Ro}{i m n:Nat}{l:Nat}{f:Nat->Nat->Int}{a b:Nat}{v:Int}{e0 e1 e2:EM}(h:r[i]?=some (some (mat (tab n f),l+2)))(h0:e0 (full r)=okR (.int (a:Nat)))(h1:e1 (full r)=okR (.int (b:Nat)))(h2:e2 (full r)=okR (.int v))(ha:a<n)(hb:b<n) :
  sItem2 i m e0 e1 e2 r=okR (.nx (r.set i (some (mat (tab n fun x y=>if x=a/\y=b then v else f x y),l+2)))):=by
 have g1:((tab n f).map rowD)[a]?=some (.lst (((qA5 n).map fun j=>f a j).map .int)):=by
  rw[qAf,zE2 ha];rfl
 unfold sItem2;rw[h2,zA0,h];show zA2 (e0 (full r)) _=_;rw[h0,zA0];dsimp only;rw[zIQ (by lia) (by simp[tab];lia)];dsimp only;rw[qD6,g1];dsimp only;rw[h1,zA0];dsimp only;rw[zIQ (by lia) (by simp;lia)];dsimp only;rw[if_pos ⟨qA8 _,qA8 _⟩,qD6]
 congr 5;unfold mat;congr 1;apply qD7;intro x;rw[qD8];by_cases hx:a=x
 ·subst hx;rw[if_pos rfl,if_pos (by simp[tab];lia),qAf,zE2 ha];show some _=some _
  congr 1;unfold rowD;congr 1;apply qD7;intro y;rw[qD8];by_cases hy:b=y
  ·subst hy;simp[hb]
  ·rw[if_neg hy]
   by_cases hyn:y<n
   ·simp[hyn,show ¬y=b from fun z=>hy z.symm]
   ·simp[hyn]
 ·rw[if_neg hx,qAf,qAf]
  by_cases hxn:x<n
  ·rw[zE2 hxn,zE2 hxn];simp[show ¬x=a from fun z=>hx z.symm]
  ·have:(tab n f)[x]?=none:=by simp[tab];lia
   have h':(tab n fun x y=>if x=a/\y=b then v else f x y)[x]?=none:=by simp[tab];lia
   rw[this,h']
noncomputable def cellv(ns:List Int)(k:Int):Int:=match zA9 [.scr ns,.int k]with
 |some (.ok (.int c))=>c
 |_=>0
theorem zJE(ns:List Int)(k:Int)(h0:0<=k)(h1:k<100000):zA9 [.scr ns,.int k]=okR (.int (cellv ns k)):=by
 obtain⟨c,hc⟩:=zJD ns k h0 h1;unfold cellv;rw[hc];rfl
def Bit(x:Int):Prop:=x=0\/x=1
def RowN(n:Nat)(r:List Int):Prop:=r.length=n/\∀x∈r,Bit x
theorem zJP{n:Nat}{f:Nat->Nat->Int}(hb:Bits n f):∀r∈tab n f,r.length=n/\∀x∈r,Bit x:=by
 intro r hr;unfold tab at hr;obtain⟨i,hi,rfl⟩:=qAq.mp hr;refine⟨by simp,fun x hx=>?_⟩;obtain⟨j,hj,rfl⟩:=qAq.mp hx;exact hb i j (by simpa using hi) (by simpa using hj)
noncomputable def sumN(n:Nat)(f:Nat->Int):Int:=((qA5 n).map f).sum
theorem zII(n:Nat)(f:Nat->Nat->Int):mat (tab n f)=.lst ((qA5 n).map fun i=>rowD ((qA5 n).map fun j=>f i j)):=by
 unfold mat tab;rw[qBr];rfl
theorem zPT{ds:List Dt}(h:∀d∈ds,d.dep=0):Dt.depL ds=0:=by
 induction ds with
 |nil=>simp
 |cons a r ih=>rw[zE0,h a (by simp),ih fun d hd=>h d (by simp[hd])];rfl
noncomputable def numL(ks:List Nat):List Int:=ks.map fun k:Nat=>(k:Int)
noncomputable def sub(ks:List Nat)(f:Nat->Nat->Int):Nat->Nat->Int:=fun a b=>f (ks.getD a 0) (ks.getD b 0)
theorem zGU(n:Nat)(f:Nat->Nat->Int)(hn:n<=10):zBZ [mat (tab n f)]=okR (mat (tab n fun i j=>f j i)):=by
 unfold zBZ zDV;have hc:eComp (iR1 (aCons (eBi lenD (aCons (eV 0) aNil)) aNil)) 1 (.one 1) Mi.tYes (eComp (iSq (eV 0)) 1 (.one 2) Mi.tYes (eB ixD (eV 2) (eV 1))) [some (mat (tab n f))]=okR (mat (tab n fun i j=>f j i)):=by
  rw[zII n fun i j=>f j i];refine zC7 _ n rfl rfl (fun a ha=>?_) _ (zD2 (by simp[zC8]) (by lia)) (by lia);have h2:=zBB (ρ:=[some (mat (tab n f))]++[some (Dt.int (a:Int))]) (c:=tYes) (i:=2) (e:=eB ixD (eV 2) (eV 1)) (fun i:Nat=>rowD ((qA5 n).map fun j=>f i j)) (fun i=>Dt.int (f i a)) (qA5 n) rfl rfl (fun i hi=>by
   have e2:=ixR (g:=fun j=>f i j) ha;simp[e2]) (iSq (eV 0)) (by simp[zII]) (by simp;lia)
  rw[h2];unfold rowD;rw[qBr];rfl
 have hd:=zDN (tab n fun i j=>f j i);simp[hc,hd]
noncomputable def sgn(c:Nat):Dt:=.str ⟨#[c]⟩
theorem zK7(cs:List Nat):∀d∈cs.map sgn,d.dep=0:=by
 intro d hd;obtain⟨c,_,rfl⟩:=qAq.mp hd;rfl
@[simp] theorem depL_sgn(cs:List Nat):Dt.depL (cs.map sgn)=0:=zPT (zK7 cs)
theorem zK1{cs:List Nat}(h:cs.length<=1000):lenD [.str ⟨cs.toArray⟩]=some (.int (cs.length:Int)):=by
 have:=zIK cs;simp[lenD,this]
 try lia
noncomputable def dot:List Int->List Int->Int
 |a::r,b::x=>a*b+dot r x
 |_,_=>0
def Ker(A:List (List Int))(x:List Int):Prop:=∀r∈A,dot r x%2=0
noncomputable def ent(A:List (List Int))(i k:Nat):Int:=(A.getD i []).getD k 0
section
variable{A:List (List Int)}{c t m:Nat}(hm:∀r∈A,RowN m r)(ht:t<A.length)(hc:c<=t)(hl:ent A t c=1)(hcm:c<m)
include hm ht in
include hm ht hc in
include ht hc in
include hm ht hc in
end
def zPZ(A:List (List Int))(c:Nat):Prop:=∀i k,i<A.length->k<c->ent A i k=if i=k then 1 else 0
noncomputable def zP2(n i:Nat):List Int:=(qA5 n).map fun j=>if j=i then 1 else 0
def aug(n:Nat)(T:List (List Int)):List (List Int):=(qA5 n).map fun i=>T.getD i []++zP2 n i
structure Un(n:Nat)(T A:List (List Int))(c:Nat):Prop where
 len:A.length=n
 rows:∀r∈A,RowN (n+n) r
 unit:zPZ A c
 ker:∀x,(∀y∈x,Bit y)->(Ker A x↔Ker (aug n T) x)
theorem zN7{z:Str}{l:List Nat}(h:z.cps.toList=l):z=⟨l.toArray⟩:=by
 cases z with
 |mk a=>subst h;simp
theorem add_str{a b:List Nat}(h:a.length+b.length<=1000):addD (.str ⟨a.toArray⟩) (.str ⟨b.toArray⟩)=some (.str ⟨(a++b).toArray⟩):=by
 rw[zMZ,if_pos (by rw[zIK,zIK];lia)]
 congr 2;exact zN7 (by rw[zLN])
@[simp] theorem x_eNew0(c:Str)(ρ:Rh):zPV c ρ=okR (.ins c []):=rfl
@[simp] theorem x_eNew(c:Str)(fl:List Str)(am:AM)(ρ:Rh):eNew c fl am ρ=zA2 (am ρ) fun ds=>match svsD ds with
 |some vs=>if vs.length=fl.length then okR (.ins c (fl.zip vs))else none
 |none=>none:=rfl
@[simp] theorem x_eFld(hs:List Str)(f:Str)(e:EM)(ρ:Rh):eFld hs f e ρ=zA2 (e ρ) fun d=>match d with
 |.ins c fs=>if c∈hs then(match fs.lookup f with|some v=>okR (dSv v)|none=>none)else none
 |_=>none:=rfl
@[simp] theorem x_eMeth(tb:List (Str×FM))(m:Str)(e:EM)(am:AM)(ρ:Rh):zPW tb m e am ρ=zA2 (e ρ) fun d=>match d with
 |.ins c fs=>match tb.lookup c with
  |some g=>match fs.lookup m with
   |none=>zA2 (am ρ) fun ds=>g (d::ds)
   |some _=>none
  |none=>none
 |_=>none:=rfl
@[simp] theorem x_eIsO(ys ns:List Str)(e:EM)(ρ:Rh):eIsO ys ns e ρ=zA2 (e ρ) fun d=>match d with
 |.ins c _=>if c∈ys then okR (.bl true)else if c∈ns then okR (.bl false)else none
 |_=>none:=rfl
@[simp] theorem v_dins(c:Str)(fs:List (Str×Sv)):(Dt.ins c fs).dep=1000:=rfl
theorem len1(x:Nat):lenD [sgn x]=some (.int 1):=zK1 (cs:=[x]) (by simp)
theorem zEW(n:Nat)(hn:n<=1000){ρ:Rh}{i j:Nat}{a:AM}(hi:i=ρ.length)(hj:j=ρ.length+1)(ha:a ρ=okR [.int (n:Int)])(hb:∀k:Nat,a (ρ++[some (.int (k:Int))])=okR [.int (n:Int)]) :
  eComp (iR1 a) 1 (.one i) Mi.tYes (eComp (iR1 a) 1 (.one j) Mi.tYes (eC (.int 0))) ρ=okR (mat (tab n fun _ _=>0)):=
 zFG _ hi hj hn (zD2 ha (by omega)) (fun k=>zD2 (hb k) (by omega)) fun _ _ _ _=>rfl
noncomputable def itr(f:Nat->Nat):Nat->Nat->Nat
 |0,x=>x
 |k+1,x=>f (itr f k x)
noncomputable def jn(cs:List Nat)(e:Nat):Nat:=e/4*4+(e%4^^^(cs.getD (e/4) 0+1))
noncomputable def nt(ts:List Nat)(e:Nat):Nat:=ts.getD e 0
structure NetN(ts:List Nat)(M:Nat):Prop where
 len:ts.length=M
 lt:∀e,e<M->nt ts e<M
 inv:∀e,e<M->nt ts (nt ts e)=e
def stp(ts cs:List Nat)(e:Nat):Nat:=nt ts (jn cs e)
def rowsD(R:List (List Nat)):Dt:=.lst (R.map fun l=>rowD (numL l))
structure Seats(R:List (List Nat))(n:Nat):Prop where
 len:R.length=n
 per:∀l∈R,l.Perm [0,1,2,3]
section
variable{R:List (List Nat)}{row:List Nat}{n:Nat}(hS:Seats R n)(tw:Twice n row)
include hS
include tw
omit hS in
omit hS in
omit hS in
omit hS in
omit hS tw in
omit hS tw in
end
section
variable{ts cs:List Nat}{n e:Nat}(hN:NetN ts (4*n))(hne:∀x,x<4*n->nt ts x≠x)(hl:cs.length=n)(hw:∀c∈cs,c<3)(he:e<4*n)
include hN hne hl hw he
variable{p:Nat}(p3:itr (stp ts cs) p e=e)(p4:∀q,1<=q->q<p->itr (stp ts cs) q e≠e)
include p3 p4
omit hN hne hl hw he p3 p4 in
end
section
variable{ts C':List Nat}{n:Nat}(hN:NetN ts (4*n))(hne:∀x,x<4*n->nt ts x≠x)(hl:C'.length=n)(hw:∀c∈C',c<3)(hn:n<=10)(n1:1<=n)
include hN hne hl hw hn n1
end
theorem eqI(a b:Int):eqD (.int a) (.int b)=some (.bl (decide (a=b))):=by simp[eqD,Dt.eq];rfl
theorem neI(a b:Int):neD (.int a) (.int b)=some (.bl (!decide (a=b))):=by simp[neD,Dt.eq];rfl
noncomputable def inn:List Nat->Nat->Nat->Nat
 |[],r,acc=>acc ||| (1 <<< r)
 |x::t,r,acc=>inn t (r^^^(1 <<< (x-97))) (acc ||| (1 <<< r))
def out:List Nat->Nat->Nat
 |[],acc=>acc ||| (1 <<< 0)
 |x::t,acc=>out t (inn (x::t) 0 acc)
noncomputable def allv:Nat->List (List Int)
 |0=>[[]]
 |n+1=>(allv n).map (qEn 0)++(allv n).map (qEn 1)
noncomputable def cnt(n:Nat)(P:List Int->Prop):Nat:=by
 classical exact((allv n).filter fun x=>decide (P x)).length
def Ev(n:Nat)(g:Nat->Int)(x:List Int):Prop:=sumN n (fun k=>g k*x.getD k 0)%2=0
section
variable{n i j:Nat}{f:Nat->Nat->Int}(hb:Bits n f)(hi:i<n)(hj:j<n)(hij:i≠j)
include hi in
include hi hij in
include hb hi hj hij in
include hb hi hj hij in
end
noncomputable def fst1:List Int->Nat
 |[]=>0
 |a::r=>if a=1 then 0 else fst1 r+1
section
variable{n:Nat}
def Lds(ls:List (List Int)):Prop:=ls.Pairwise fun l s=>s.getD (fst1 l) 0=0
end
theorem zDE{γ:Type}{j:Nat}{b:SM}(en:γ->Dt)(Pv:Ro->Prop)(Y:γ->Dt->Prop)(Z:γ->Prop):∀(xs:List γ)(r:Ro),Pv r->(∀x∈xs,∀r,Pv r->(∃d,b (r.set j (some (en x,0)))=okR (.rt d)/\Y x d)\/(Z x/\∃r',b (r.set j (some (en x,0)))=okR (.nx r')/\Pv r')) ->
  (∃x∈xs,∃d,forGo (.one j) b (xs.map en) r=okR (.rt d)/\Y x d)\/((∀x∈xs,Z x)/\∃r',forGo (.one j) b (xs.map en) r=okR (.nx r')/\Pv r')
 |[],r,h,_=>.inr ⟨fun _ z=>by simp at z,r,rfl,h⟩
 |x::xs,r,h,hs=>by
  rcases hs x (by simp) r h with⟨d,e,hd⟩|⟨hz,r',e,hr⟩
  ·refine .inl ⟨x,by simp,d,?_,hd⟩;rw[qAn,forGo];show zA2 (b (r.set j (some (en x,0)))) _=_;rw[e];rfl
  ·have go:forGo (.one j) b ((x::xs).map en) r=forGo (.one j) b (xs.map en) r':=by
    rw[qAn,forGo];show zA2 (b (r.set j (some (en x,0)))) _=_;rw[e];rfl
   rw[go];rcases zDE en Pv Y Z xs r' hr (fun y hy=>hs y (by simp[hy]))with⟨y,hy,q⟩|⟨q1,q2⟩
   ·exact .inl ⟨y,by simp[hy],q⟩
   ·refine .inr ⟨fun y hy=>?_,q2⟩
    rcases qAo.mp hy with rfl|hy
    ·exact hz
    ·exact q1 y hy
section
variable{f:Nat->Nat->Int}
end
noncomputable def isInt:Dt->Bool
 |.int _=>true
 |_=>false
noncomputable def isBitD:Dt->Bool
 |.int i=>decide (0<=i)&&decide (i<=1)
 |_=>false
def zBR(n:Nat):Dt->Bool
 |.lst xs=>decide ((xs.length:Int)=(n:Int))&&xs.all isBitD
 |_=>false
def sqD:Dt->Bool
 |.lst rs=>decide ((rs.length:Int)<=10)&&rs.all (zBR rs.length)
 |_=>false
def RowC(r:Dt):Prop:=tyD r ≠ "" /\ ∀xs,r=.lst xs->xs.length<=1000/\∀x∈xs,tyD x ≠ ""
def zDH(d:Dt):Prop:=(∃kvs,d=.dct kvs)\/(tyD d ≠ "" /\ ∀rs,d=.lst rs->rs.length<=1000/\∀r∈rs,RowC r)
theorem zDG{α:Type}(p:α->Bool)(l:List α):allD [.lst (l.map fun x=>Dt.bl (p x))]=some (.bl (l.all p)):=by
 have:boolsD (l.map fun x=>Dt.bl (p x))=some (l.map p):=by
  induction l with
  |nil=>rfl
  |cons a r ih=>simp[boolsD,ih]
 simp[allD,this]
theorem zG8{α:Type}(p:α->Bool)(l:List α):anyD [.lst (l.map fun x=>Dt.bl (p x))]=some (.bl (l.any p)):=by
 have:boolsD (l.map fun x=>Dt.bl (p x))=some (l.map p):=by
  induction l with
  |nil=>rfl
  |cons a r ih=>simp[boolsD,ih]
 simp[anyD,this]
theorem zIU{ρ:Rh}{e:EM}{x:Dt}(h:e ρ=okR x)(ht:tyD x ≠ ""):eAnd (eIsi "int" e) (eNot (eIsi "bool" e)) ρ=okR (.bl (isInt x)):=by
 cases x<;>first|exact absurd rfl ht|(simp[h,isiD,tyD,isInt])
theorem zHY{x:Dt}(ht:tyD x ≠ ""):zCL [x]=okR (.bl (isInt x)):=zBY rfl (sr (zIU rfl ht) ⟨qA8 _,qA8 _⟩)
theorem zHN{x:Dt}(ht:tyD x ≠ ""):zB8 [x]=okR (.bl (isBitD x)):=by
 unfold zB8 zC2;have h:=zHY ht;cases x with
 |int i=>
  by_cases z:0<=i
  ·simp[h,isInt,isBitD,z]
  ·simp[h,isInt,isBitD,z]
 |_=>first|exact absurd rfl ht|(simp[h,isInt,isBitD])
theorem an2{e1 e2:EM}{ρ:Rh}{b c:Bool}(h1:e1 ρ=okR (.bl b))(h2:b=true->e2 ρ=okR (.bl c)):eAnd e1 e2 ρ=okR (.bl (b&&c)):=by
 cases b with
 |false=>simp[h1]
 |true=>simp[h1,h2 rfl]
theorem zC0{ρ:Rh}{e:EM}{x:Dt}(h:e ρ=okR x)(ht:tyD x ≠ ""):eIsi "list" e ρ=okR (.bl (match x with | .lst _=>true|_=>false)):=by
 cases x<;>first|exact absurd rfl ht|(simp[h,isiD,tyD])
theorem zLQ{r:Dt}(h:RowC r)(n:Nat):zF7 [r,.int (n:Int)]=okR (.bl (zBR n r)):=by
 obtain⟨ht,hr⟩:=h;refine zBY rfl (sr ?_ ⟨qA8 _,qA8 _⟩);cases r with
 |lst xs=>
  obtain⟨hl,hx⟩:=hr xs rfl;refine(an2 (b:=true) (c:=zBR n (.lst xs)) (zC0 rfl ht) fun _=>?_).trans rfl;refine an2 (b:=decide ((xs.length:Int)=(n:Int))) (c:=xs.all isBitD) (b2 (bi1 rfl (by simp)) rfl (eqI _ _)) fun _=>?_
  refine bi1 (d1:=.lst (xs.map fun x=>.bl (isBitD x))) ?_ (zDG _ _);exact zBB (fun d:Dt=>d) (fun x=>.bl (isBitD x)) xs rfl rfl (fun x hx'=>c1 rfl (zHN (hx x hx'))) _ (by simp[iSq]) (by omega)
 |_=>first|exact absurd rfl ht|exact an2 (b:=false) (c:=false) (zC0 rfl ht) (fun z=>by cases z)
theorem zN9{d:Dt}(h:zDH d):zC6 [d]=okR (.bl (sqD d)):=by
 refine zBY rfl (sr ?_ ⟨qA8 _,qA8 _⟩);rcases h with⟨kvs,rfl⟩|⟨ht,hr⟩
 ·exact an2 (b:=false) (c:=false) rfl (fun z=>by cases z)
 have hx:∀b,eIsi "list" (eV 0) (full (startO 1 [d]))=okR (.bl b)->eIsiX "list" (eV 0) (full (startO 1 [d]))=okR (.bl b):=fun b e=>by
  rw[<- e];cases d<;>first|rfl|exact absurd rfl ht
 cases d with
 |lst rs=>
  obtain⟨hl,hx'⟩:=hr rs rfl;refine(an2 (b:=true) (c:=sqD (.lst rs)) (hx _ (zC0 rfl ht)) fun _=>?_).trans rfl;refine an2 (b:=decide ((rs.length:Int)<=10)) (c:=rs.all (zBR rs.length)) (b2 (bi1 (d:=.int (rs.length:Int)) rfl (by simp)) rfl rfl) fun _=>?_
  refine bi1 (d1:=.lst (rs.map fun x=>.bl (zBR rs.length x))) ?_ (zDG _ _);exact zBB (fun d:Dt=>d) (fun x=>.bl (zBR rs.length x)) rs rfl rfl (fun x hx2=>c2 rfl (bi1 rfl (by simp)) (zLQ (hx' x hx2) _)) _ (by simp[iSq]) (by omega)
 |_=>first|exact absurd rfl ht|exact an2 (b:=false) (c:=false) (hx _ (zC0 rfl ht)) (fun z=>by cases z)
theorem zN8{d:Dt}(h:sqD d=true):∃n f,n<=10/\Bits n f/\d=mat (tab n f):=by
 cases d with
 |lst rs=>
  have h':(decide ((rs.length:Int)<=10)&&rs.all (zBR rs.length))=true:=h;rw[qAl]at h';obtain⟨h1,h2⟩:=h';have hn:rs.length<=10:=by have:=of_decide_eq_true h1;omega
  have row:∀r∈rs,∃xs:List Int,r=rowD xs/\xs.length=rs.length/\∀x∈xs,x=0\/x=1:=fun r hr=>by
   have:=qAx.mp h2 r hr;cases r with
   |lst xs=>
    have t:(decide ((xs.length:Int)=(rs.length:Int))&&xs.all isBitD)=true:=this;rw[qAl]at t;obtain⟨t1,t2⟩:=t;have t1':=of_decide_eq_true t1;have key:∀xs:List Dt,xs.all isBitD=true->∃zs:List Int,xs=zs.map Dt.int/\∀z∈zs,z=0\/z=1:=by
     intro xs;induction xs with
     |nil=>exact fun _=>⟨[],rfl,fun z hz=>by cases hz⟩
     |cons x t ih=>
      intro hh;rw[qBu,qAl]at hh;obtain⟨zs,rfl,hz⟩:=ih hh.2;cases x with
      |int i=>
       have hi:(decide (0<=i)&&decide (i<=1))=true:=hh.1;rw[qAl,decide_eq_true_eq,decide_eq_true_eq]at hi;refine⟨i::zs,rfl,fun z hz'=>?_⟩
       rcases qAo.mp hz' with rfl|hz'
       ·omega
       ·exact hz z hz'
      |_=>exact absurd hh.1 (by simp[isBitD])
    obtain⟨zs,rfl,hz⟩:=key xs t2;exact⟨zs,rfl,by simp at t1';omega,hz⟩
   |_=>exact absurd this (by simp[zBR])
  obtain⟨A,hA⟩:∃A:List (List Int),rs=A.map rowD:=by
   have:∀rs:List Dt,(∀r∈rs,∃xs:List Int,r=rowD xs)->∃A:List (List Int),rs=A.map rowD:=by
    intro rs;induction rs with
    |nil=>exact fun _=>⟨[],rfl⟩
    |cons r t ih=>
     intro hh;obtain⟨x,rfl⟩:=hh r (by simp);obtain⟨A,rfl⟩:=ih fun q hq=>hh q (by simp[hq])
     exact⟨x::A,rfl⟩
   exact this rs fun r hr=>let⟨xs,e,_⟩:=row r hr;⟨xs,e⟩
  subst hA;have hlen:(A.map rowD).length=A.length:=by simp
  rw[hlen]at row hn;have rowA:∀r∈A,r.length=A.length/\∀x∈r,x=0\/x=1:=fun r hr=>by
   obtain⟨xs,e,h3,h4⟩:=row (rowD r) (qAq.mpr ⟨r,hr,rfl⟩);have:r=xs:=by
    have e':r.map Dt.int=xs.map Dt.int:=by injection e
    exact(List.map_inj_right (fun a b h=>by injection h)).mp e'
   subst this;exact⟨h3,h4⟩
  refine⟨A.length,fun i j=>(A.getD i []).getD j 0,hn,fun i j hi hj=>?_,?_⟩
  ·have hm:A.getD i []∈A:=by
    rw[qA3,qAh hi,qBg];exact qCh hi
   obtain⟨h3,h4⟩:=rowA _ hm;refine h4 _ ?_;show(A.getD i []).getD j 0∈_;rw[qA3 (l:=A.getD i []),qAh (by omega),qBg];exact qCh _
  ·show Dt.lst _=mat _;unfold mat
   congr 2;unfold tab;refine qDg (by simp) fun i h1 h2=>?_
   rw[qDh,qBj];have hr:=rowA A[i] (qCh h1);refine qDg (by simp[hr.1]) fun j h3 h4=>?_
   rw[qDh,qBj];simp[qA3,h1,h3]
 |_=>exact absurd h (by simp[sqD])
def symB(n:Nat)(f:Nat->Nat->Int):Bool:=decide (tab n f=tab n fun i j=>f j i)
noncomputable def zE3(n:Nat)(f:Nat->Nat->Int):Bool:=(qA5 n).all fun i=>decide (f i i=0)
theorem zI1{d:Dt}(h:zDH d):(sqD d=false/\zAR [d]=okR (.bl false)/\zBM [d]=okR (.bl false))\/∃n f,n<=10/\Bits n f/\d=mat (tab n f)/\zAR [d]=okR (.bl (symB n f))/\zBM [d]=okR (.bl (symB n f&&zE3 n f)):=by
 have hs:=zN9 h;have web:∀b c,zAR [d]=okR (.bl b)->(b=true->eBi allD (aCons (eComp (iR1 (aCons (eBi lenD (aCons (eV 0) aNil)) aNil)) 1 (.one 1) Mi.tYes (eB eqD (eB ixD (eB ixD (eV 0) (eV 1)) (eV 1)) (eC (.int 0)))) aNil) (full (startO 1 [d]))=okR (.bl c))->zBM [d]=okR (.bl (b&&c)):=fun b c e1 e2=>zBY rfl (sr (an2 (c1 rfl e1) e2) ⟨qA8 _,qA8 _⟩)
 cases e:sqD d with
 |false=>
  rw[e]at hs;have ht:zAR [d]=okR (.bl false):=zBY rfl (sr (an2 (b:=false) (c:=false) (c1 rfl hs) fun z=>by cases z) ⟨qA8 _,qA8 _⟩);exact .inl ⟨rfl,ht,web false false ht fun z=>by cases z⟩
 |true=>
  rw[e]at hs;obtain⟨n,f,hn,hb,rfl⟩:=zN8 e;have ht:zAR [mat (tab n f)]=okR (.bl (symB n f)):=by
   refine zBY rfl (sr (an2 (b:=true) (c:=symB n f) (c1 rfl hs) fun _=>?_) ⟨qA8 _,qA8 _⟩);refine b2 rfl (c1 rfl (zGU n f hn)) ?_;unfold eqD;rw[if_pos ⟨qAg (zDN _) (by decide),qAg (zDN _) (by decide)⟩,zOI];rfl
  refine .inr ⟨n,f,hn,hb,rfl,ht,web _ _ ht fun _=>?_⟩;refine bi1 (d1:=.lst ((qA5 n).map fun i=>.bl (decide (f i i=0)))) ?_ (zDG _ _);refine zBB (fun k:Nat=>Dt.int (k:Int)) (fun i=>.bl (decide (f i i=0))) (qA5 n) rfl rfl (fun i hi=>?_) _ ?_ (by simp;omega)
  ·have hi':=qAu.mp hi;exact b2 (b2 (b2 rfl rfl (ixM hi')) rfl (ixR hi')) rfl (eqI _ _)
  ·rw[zD2 (n:=n) (al0 (bi1 rfl (by rw[lenM,zC8]))) (by omega)];unfold nums;simp
theorem to_t{t t':TM}{ρ:Rh}(h:t ρ=okR true):Mi.tOr t t' ρ=okR true:=by rw[zLH,h,zA0,if_pos rfl]
theorem oe2{e1 e2:EM}{ρ:Rh}{b c:Bool}(h1:e1 ρ=okR (.bl b))(h2:e2 ρ=okR (.bl c)):eOr e1 e2 ρ=okR (.bl (b||c)):=by
 cases b<;>simp[h1,h2]
theorem rf{r:Ro}:sRet 0 0 [] (eC (.bl false)) r=okR (.rt (.bl false)):=sr rfl ⟨qA8 _,qA8 _⟩
theorem zMH{d:Dt}{rs:List Dt}{b:Bool}(ed:d=.lst rs)(hl:rs.length<=1000){r:Dt}(h:RowC r)(o3:Option Sl):(zBR rs.length r=false/\(sSeq (sIf (Mi.tOr (tNo (tM (eIsi "list" (eV 2)))) (tB (eB neD (eBi lenD (aCons (eV 2) aNil)) (eBi lenD (aCons (eV 0) aNil))))) (sRet 0 0 [] (eC (.bl false))) sNil)
 (sSeq (sIf (tNo (tM (eBi allD (aCons (eComp (iSq (eV 2)) 1 (.one 4) Mi.tYes (eAnd (eIsi "int" (eV 4)) (eNot (eIsi "bool" (eV 4))))) aNil)))) (sRet 0 0 [] (eC (.bl false))) sNil)
 (sIf (tM (eBi anyD (aCons (eComp (iSq (eV 2)) 1 (.one 4) Mi.tYes (eOr (eB (cmpD fun i j=>decide (i<j)) (eV 4) (eC (.int 0))) (eB (cmpD fun i j=>decide (j<i)) (eV 4) (eC (.int 1))))) aNil))) (sRet 0 0 [] (eC (.bl false))) sNil))) [some (d,0),some (.bl b,0),some (r,0),o3]=okR (.rt (.bl false))) \/
 (zBR rs.length r=true/\(sSeq (sIf (Mi.tOr (tNo (tM (eIsi "list" (eV 2)))) (tB (eB neD (eBi lenD (aCons (eV 2) aNil)) (eBi lenD (aCons (eV 0) aNil))))) (sRet 0 0 [] (eC (.bl false))) sNil)
 (sSeq (sIf (tNo (tM (eBi allD (aCons (eComp (iSq (eV 2)) 1 (.one 4) Mi.tYes (eAnd (eIsi "int" (eV 4)) (eNot (eIsi "bool" (eV 4))))) aNil)))) (sRet 0 0 [] (eC (.bl false))) sNil)
 (sIf (tM (eBi anyD (aCons (eComp (iSq (eV 2)) 1 (.one 4) Mi.tYes (eOr (eB (cmpD fun i j=>decide (i<j)) (eV 4) (eC (.int 0))) (eB (cmpD fun i j=>decide (j<i)) (eV 4) (eC (.int 1))))) aNil))) (sRet 0 0 [] (eC (.bl false))) sNil))) [some (d,0),some (.bl b,0),some (r,0),o3]=okR (.nx [some (d,0),some (.bl b,0),some (r,0),o3])):=by
 subst ed;obtain⟨ht,hr⟩:=h;cases r with
 |lst xs=>
  obtain⟨hxl,hx⟩:=hr xs rfl;have l1:tNo (tM (eIsi "list" (eV 2))) (full [some (.lst rs,0),some (.bl b,0),some (.lst xs,0),o3])=okR false:=tn1 (tm1 (zC0 rfl ht));have ln:tB (eB neD (eBi lenD (aCons (eV 2) aNil)) (eBi lenD (aCons (eV 0) aNil))) (full [some (.lst rs,0),some (.bl b,0),some (.lst xs,0),o3])=okR (!decide ((xs.length:Int)=(rs.length:Int))):=nei (bi1 rfl (by simp)) (bi1 rfl (by simp)) rfl
  by_cases z:(xs.length:Int)=(rs.length:Int)
  ·rw[decide_eq_true z]at ln;have hall:eBi allD (aCons (eComp (iSq (eV 2)) 1 (.one 4) Mi.tYes (eAnd (eIsi "int" (eV 4)) (eNot (eIsi "bool" (eV 4))))) aNil) (full [some (.lst rs,0),some (.bl b,0),some (.lst xs,0),o3])=okR (.bl (xs.all isInt)):=
    bi1 (zBB (fun d:Dt=>d) (fun x=>.bl (isInt x)) xs rfl rfl (fun x hx'=>zIU rfl (hx x hx')) _ (by simp[iSq]) (by omega)) (zDG _ _)
   cases ea:xs.all isInt with
   |false=>
    rw[ea]at hall;refine .inl ⟨?_,sp (to0 l1 ln) (sx (tn1 (tm1 hall)) rf)⟩;show(decide _&&xs.all isBitD)=false;have:xs.all isBitD=false:=by
     rw[qC9]at ea ⊢;obtain⟨x,h1,h2⟩:=ea;refine⟨x,h1,?_⟩;cases x<;>simp_all [isInt,isBitD]
    rw[this,qB2]
   |true=>
    rw[ea]at hall;have hint:∀x∈xs,∃i,x=.int i:=fun x hx'=>by
     have:=qAx.mp ea x hx';cases x with
     |int i=>exact⟨i,rfl⟩
     |_=>exact absurd this (by simp[isInt])
    have hany:eBi anyD (aCons (eComp (iSq (eV 2)) 1 (.one 4) Mi.tYes (eOr (eB (cmpD fun i j=>decide (i<j)) (eV 4) (eC (.int 0))) (eB (cmpD fun i j=>decide (j<i)) (eV 4) (eC (.int 1))))) aNil) (full [some (.lst rs,0),some (.bl b,0),some (.lst xs,0),o3])=okR (.bl (xs.any fun x=>!isBitD x)):=by
     refine bi1 (zBB (fun d:Dt=>d) (fun x=>.bl (!isBitD x)) xs rfl rfl (fun x hx'=>?_) _ (by simp[iSq]) (by omega)) (zG8 _ _);obtain⟨i,rfl⟩:=hint x hx';refine(oe2 (b:=decide (i<0)) (c:=decide (1<i)) rfl rfl).trans ?_;show okR (Dt.bl (decide (i<0)||decide (1<i)))=okR (Dt.bl (!(decide (0<=i)&&decide (i<=1))))
     congr 2;by_cases q1:i<0<;>by_cases q2:1<i<;>simp[q1,q2]<;>omega
    cases eb:xs.all isBitD with
    |true=>
     have:(xs.any fun x=>!isBitD x)=false:=by
      rw[qC7];intro x hx';simp[qAx.mp eb x hx']
     rw[this]at hany;refine .inr ⟨?_,sp (to0 l1 ln) (sp (tn1 (tm1 hall)) (sf (tm1 hany)))⟩;show(decide _&&xs.all isBitD)=true;rw[eb,decide_eq_true z];rfl
    |false=>
     have:(xs.any fun x=>!isBitD x)=true:=by
      rw[qC9]at eb;obtain⟨x,h1,h2⟩:=eb;exact qCf.mpr ⟨x,h1,by simp[h2]⟩
     rw[this]at hany;refine .inl ⟨?_,sp (to0 l1 ln) (sp (tn1 (tm1 hall)) (sk (tm1 hany) rf))⟩;show(decide _&&xs.all isBitD)=false;rw[eb,qB2]
  ·rw[decide_eq_false z]at ln;refine .inl ⟨?_,sx (to0 l1 ln) rf⟩
   show(decide _&&_)=false;rw[decide_eq_false z,qDn]
 |_=>first|exact absurd rfl ht|exact .inl ⟨rfl,sx (to_t (tn1 (tm1 (k:=false) (zC0 rfl ht)))) rf⟩
theorem zMV{n:Nat}{p:Nat->Bool}:(qA5 n).all p=true↔∀i,i<n->p i=true:=by
 rw[qAx];exact⟨fun h i hi=>h i (qAu.mpr hi),fun h i hi=>h i (qAu.mp hi)⟩
theorem zLM{n:Nat}{f:Nat->Nat->Int}:symB n f=true↔∀i j,i<n->j<n->f i j=f j i:=by
 unfold symB;rw[decide_eq_true_iff];constructor
 ·intro h i j hi hj;have h1:=congrArg (fun A:List (List Int)=>(A.getD i []).getD j 0) h
  simpa[tab,qA3,hi,hj]using h1
 ·exact fun h=>zI2 h
theorem zFA{d:Dt}(h:zDH d)(b:Bool):(sqD d=false->zAS [d,.bl b]=okR (.bl false))/\∀n f,n<=10->Bits n f->d=mat (tab n f)->zAS [d,.bl b]=okR (.bl (symB n f&&(b||zE3 n f))):=by
 rcases h with⟨kvs,rfl⟩|⟨ht,hr⟩
 ·refine⟨fun _=>zBY rfl (sx (to1 (tn1 (tm1 (k:=false) rfl))) rf),fun n f _ _ e=>?_⟩;cases e
 have hx:∀b',eIsi "list" (eV 0) (full (startO 4 [d,.bl b]))=okR (.bl b')->eIsiX "list" (eV 0) (full (startO 4 [d,.bl b]))=okR (.bl b'):=fun b' e=>by
  rw[<- e];cases d<;>first|rfl|exact absurd rfl ht
 cases d with
 |lst rs=>
  obtain⟨hl,hrow⟩:=hr rs rfl;have l1:tNo (tM (eIsiX "list" (eV 0))) (full (startO 4 [.lst rs,.bl b]))=okR false:=tn1 (tm1 (hx true (zC0 rfl ht)));have l2:tB (eB (cmpD fun i j=>decide (j<i)) (eBi lenD (aCons (eV 0) aNil)) (eC (.int 10))) (full (startO 4 [.lst rs,.bl b]))=okR (decide ((10:Int)<(rs.length:Int))):=tb1 (b2 (bi1 (d:=.int (rs.length:Int)) rfl (by simp)) rfl rfl)
  by_cases z:(10:Int)<(rs.length:Int)
  ·rw[decide_eq_true z]at l2;refine⟨fun _=>zBY rfl (sx (to0 l1 l2) rf),fun n f hn _ e=>?_⟩;have e':rs=(tab n f).map rowD:=by injection e
   rw[e',qB0,zC8]at z;omega
  ·rw[decide_eq_false z]at l2
   rcases zDE (j:=2) (b:=sSeq (sIf (Mi.tOr (tNo (tM (eIsi "list" (eV 2)))) (tB (eB neD (eBi lenD (aCons (eV 2) aNil)) (eBi lenD (aCons (eV 0) aNil))))) (sRet 0 0 [] (eC (.bl false))) sNil)
 (sSeq (sIf (tNo (tM (eBi allD (aCons (eComp (iSq (eV 2)) 1 (.one 4) Mi.tYes (eAnd (eIsi "int" (eV 4)) (eNot (eIsi "bool" (eV 4))))) aNil)))) (sRet 0 0 [] (eC (.bl false))) sNil)
 (sIf (tM (eBi anyD (aCons (eComp (iSq (eV 2)) 1 (.one 4) Mi.tYes (eOr (eB (cmpD fun i j=>decide (i<j)) (eV 4) (eC (.int 0))) (eB (cmpD fun i j=>decide (j<i)) (eV 4) (eC (.int 1))))) aNil))) (sRet 0 0 [] (eC (.bl false))) sNil))) (fun d:Dt=>d) (fun r=>∃o2,r=[some (.lst rs,0),some (.bl b,0),o2,none]) (fun x d=>zBR rs.length x=false/\d=.bl false) (fun x=>zBR rs.length x=true) rs (startO 4 [.lst rs,.bl b]) ⟨none,rfl⟩ (fun x hx r hr=>by
    obtain⟨o2,rfl⟩:=hr;rcases zMH (b:=b) rfl hl (hrow x hx) none with⟨h1,h2⟩|⟨h1,h2⟩
    ·exact .inl ⟨_,h2,h1,rfl⟩
    ·exact .inr ⟨h1,_,h2,_,rfl⟩)with⟨x,hxm,d',e1,h1,rfl⟩|⟨hall,r',e1,o2,rfl⟩
   ·have sqF:sqD (.lst rs)=false:=by
     show(decide _&&rs.all (zBR rs.length))=false;have:rs.all (zBR rs.length)=false:=qC9.mpr ⟨x,hxm,by simp[h1]⟩
     rw[this,qB2]
    have hres:zAS [.lst rs,.bl b]=okR (.bl false):=by
     refine zBY rfl (sp (to0 l1 l2) ?_);rw[zDZ,zKQ,show iSq (eV 0) (frz (frzAt [0] (startO 4 [.lst rs,.bl b])))=okR (rs.map fun d=>d) from by simp[iSq,startO,frzAt,frz1,frz],zA0];show zA2 (forGo (.one 2) _ (rs.map fun d=>d) (startO 4 [.lst rs,.bl b])) _=_;rw[e1];rfl
    refine⟨fun _=>hres,fun n f hn hb e=>?_⟩
    exfalso
    have e':rs=(tab n f).map rowD:=by injection e
    rw[e']at hxm;obtain⟨row,hrw,rfl⟩:=qAq.mp hxm;obtain⟨h3,h4⟩:=zJP hb row hrw;have:zBR rs.length (rowD row)=true:=by
     show(decide _&&(row.map Dt.int).all isBitD)=true;rw[qAl];refine⟨decide_eq_true ?_,qAx.mpr fun x hx=>?_⟩
     ·rw[e'];simp[h3,zC8]
     ·obtain⟨i,hi,rfl⟩:=qAq.mp hx
      rcases h4 i hi with rfl|rfl<;>rfl
    rw[h1]at this;cases this
   ·have sqT:sqD (.lst rs)=true:=by
     show(decide _&&rs.all (zBR rs.length))=true;rw[qAl];exact⟨decide_eq_true (by omega),qAx.mpr hall⟩
    refine⟨fun q=>(by rw[sqT]at q;cases q),fun n f hn hb e=>?_⟩;rw[e]at l1 l2 e1 ⊢;have e':rs=(tab n f).map rowD:=by injection e
    have hlen:lenD [mat (tab n f)]=some (.int (n:Int)):=by rw[lenM,zC8]
    have loop:=zDE (j:=3) (b:=sSeq (sIf (tM (eBi anyD (aCons (eComp (iR1 (aCons (eV 3) aNil)) 1 (.one 4) Mi.tYes (eB neD (eB ixD (eB ixD (eV 0) (eV 3)) (eV 4)) (eB ixD (eB ixD (eV 0) (eV 4)) (eV 3)))) aNil))) (sRet 0 0 [] (eC (.bl false))) sNil)
 (sIf (tAn (tNo (tM (eV 1))) (tB (eB eqD (eB ixD (eB ixD (eV 0) (eV 3)) (eV 3)) (eC (.int 1))))) (sRet 0 0 [] (eC (.bl false))) sNil)) (fun k:Nat=>Dt.int (k:Int)) (fun r=>∃o2 o3,r=[some (mat (tab n f),0),some (.bl b,0),o2,o3]) (fun i d=>¬((∀j,j<i->f i j=f j i)/\(b=true\/f i i=0))/\d=.bl false) (fun i=>(∀j,j<i->f i j=f j i)/\(b=true\/f i i=0)) (qA5 n) [some (mat (tab n f),0),some (.bl b,0),o2,none] ⟨_,_,rfl⟩ (fun i hi r hr=>by
     obtain⟨o2,o3,rfl⟩:=hr;have hi':=qAu.mp hi;have hany:eBi anyD (aCons (eComp (iR1 (aCons (eV 3) aNil)) 1 (.one 4) Mi.tYes (eB neD (eB ixD (eB ixD (eV 0) (eV 3)) (eV 4)) (eB ixD (eB ixD (eV 0) (eV 4)) (eV 3)))) aNil) (full [some (mat (tab n f),0),some (.bl b,0),o2,some (.int (i:Int),0)])=okR (.bl ((qA5 i).any fun j=>!decide (f i j=f j i))):=by
      refine bi1 (zBB (fun k:Nat=>Dt.int (k:Int)) (fun j=>.bl (!decide (f i j=f j i))) (qA5 i) rfl rfl (fun j hj=>?_) _ ?_ (by simp;omega)) (zG8 _ _)
      ·have hj':=qAu.mp hj;exact b2 (b2 (b2 rfl rfl (ixM hi')) rfl (ixR (by omega))) (b2 (b2 rfl rfl (ixM (by omega))) rfl (ixR hi')) (neI _ _)
      ·rw[zD2 (n:=i) rfl (by omega)];unfold nums;simp
     have hsl:tAn (tNo (tM (eV 1))) (tB (eB eqD (eB ixD (eB ixD (eV 0) (eV 3)) (eV 3)) (eC (.int 1)))) (full [some (mat (tab n f),0),some (.bl b,0),o2,some (.int (i:Int),0)])=okR (!b&&decide (f i i=1)):=by
      cases b with
      |true=>exact ta0 (tn1 (k:=true) (tm1 rfl))
      |false=>exact(ta1 (tn1 (k:=false) (tm1 rfl)) (tb1 (b2 (b2 (b2 rfl rfl (ixM hi')) rfl (ixR hi')) rfl (eqI _ _)))).trans rfl
     show(∃d,sSeq _ _ [some (mat (tab n f),0),some (.bl b,0),o2,some (.int (i:Int),0)]=okR (.rt d)/\_)\/(_/\∃r',sSeq _ _ [some (mat (tab n f),0),some (.bl b,0),o2,some (.int (i:Int),0)]=okR (.nx r')/\_)
     cases ea:(qA5 i).any fun j=>!decide (f i j=f j i)with
     |true=>
      rw[ea]at hany;refine .inl ⟨_,sx (tm1 hany) rf,fun q=>?_,rfl⟩;obtain⟨j,hj,hj2⟩:=qCf.mp ea
      have:=q.1 j (qAu.mp hj);simp[this]at hj2
     |false=>
      rw[ea]at hany;have hs:∀j,j<i->f i j=f j i:=fun j hj=>by
       have:=qC7.mp ea j (qAu.mpr hj);simpa using this
      cases es:!b&&decide (f i i=1)with
      |true=>
       rw[es]at hsl;refine .inl ⟨_,sp (tm1 hany) (sk hsl rf),fun q=>?_,rfl⟩;rw[qAl]at es
       rcases q.2 with q2|q2
       ·rw[q2]at es;cases es.1
       ·have:=of_decide_eq_true es.2
        omega
      |false=>
       rw[es]at hsl;refine .inr ⟨⟨hs,?_⟩,_,sp (tm1 hany) (sf hsl),_,_,rfl⟩;cases b with
       |true=>exact .inl rfl
       |false=>
        right
        have h1:¬f i i=1:=by simpa using es
        rcases hb i i hi' hi' with h2|h2
        ·exact h2
        ·exact absurd h2 h1)
    have start:∀X,sSeq (sForR (iR1 (aCons (eBi lenD (aCons (eV 0) aNil)) aNil)) 3 (sSeq (sIf (tM (eBi anyD (aCons (eComp (iR1 (aCons (eV 3) aNil)) 1 (.one 4) Mi.tYes (eB neD (eB ixD (eB ixD (eV 0) (eV 3)) (eV 4)) (eB ixD (eB ixD (eV 0) (eV 4)) (eV 3)))) aNil))) (sRet 0 0 [] (eC (.bl false))) sNil)
 (sIf (tAn (tNo (tM (eV 1))) (tB (eB eqD (eB ixD (eB ixD (eV 0) (eV 3)) (eV 3)) (eC (.int 1))))) (sRet 0 0 [] (eC (.bl false))) sNil))) (sRet 0 0 [] (eC (.bl true))) [some (mat (tab n f),0),some (.bl b,0),o2,none]=okR (.rt X)->zAS [mat (tab n f),.bl b]=okR X:=fun X hX=>by
     refine zBY rfl (sp (to0 l1 l2) ?_);refine sw ?_ hX;rw[zKQ,show iSq (eV 0) (frz (frzAt [0] (startO 4 [mat (tab n f),.bl b])))=okR (rs.map fun d=>d) from by rw[e'];simp[iSq,startO,frzAt,frz1,frz,mat],zA0];exact e1
    have hR:∀Y,forGo (.one 3) (sSeq (sIf (tM (eBi anyD (aCons (eComp (iR1 (aCons (eV 3) aNil)) 1 (.one 4) Mi.tYes (eB neD (eB ixD (eB ixD (eV 0) (eV 3)) (eV 4)) (eB ixD (eB ixD (eV 0) (eV 4)) (eV 3)))) aNil))) (sRet 0 0 [] (eC (.bl false))) sNil)
 (sIf (tAn (tNo (tM (eV 1))) (tB (eB eqD (eB ixD (eB ixD (eV 0) (eV 3)) (eV 3)) (eC (.int 1))))) (sRet 0 0 [] (eC (.bl false))) sNil)) ((qA5 n).map fun k:Nat=>Dt.int (k:Int)) [some (mat (tab n f),0),some (.bl b,0),o2,none]=Y->sForR (iR1 (aCons (eBi lenD (aCons (eV 0) aNil)) aNil)) 3 (sSeq (sIf (tM (eBi anyD (aCons (eComp (iR1 (aCons (eV 3) aNil)) 1 (.one 4) Mi.tYes (eB neD (eB ixD (eB ixD (eV 0) (eV 3)) (eV 4)) (eB ixD (eB ixD (eV 0) (eV 4)) (eV 3)))) aNil))) (sRet 0 0 [] (eC (.bl false))) sNil)
 (sIf (tAn (tNo (tM (eV 1))) (tB (eB eqD (eB ixD (eB ixD (eV 0) (eV 3)) (eV 3)) (eC (.int 1))))) (sRet 0 0 [] (eC (.bl false))) sNil)) [some (mat (tab n f),0),some (.bl b,0),o2,none]=Y:=fun Y hY=>by
     rw[zLI,zD2 (n:=n) (al0 (bi1 rfl hlen)) (by omega),zA0,<- hY];unfold nums;simp
    have eqv:(symB n f&&(b||zE3 n f))=true↔∀i,i<n->(∀j,j<i->f i j=f j i)/\(b=true\/f i i=0):=by
     rw[qAl,qCo,zLM];unfold zE3;rw[zMV];constructor
     ·rintro⟨q1,q2⟩ i hi
      refine⟨fun j hj=>q1 i j hi (by omega),?_⟩
      rcases q2 with q2|q2
      ·exact .inl q2
      ·exact .inr (of_decide_eq_true (q2 i hi))
     ·intro q;refine⟨fun i j hi hj=>?_,?_⟩
      ·rcases Nat.lt_trichotomy i j with z|z|z
       ·exact((q j hj).1 i z).symm
       ·rw[z]
       ·exact(q i hi).1 j z
      ·cases b with
       |true=>exact .inl rfl
       |false=>
        right
        intro i hi;rcases(q i hi).2 with w|w
        ·cases w
        ·exact decide_eq_true w
    rcases loop with⟨i,hi,d2,e2,h2,rfl⟩|⟨h2,r2,e2,_⟩
    ·have:(symB n f&&(b||zE3 n f))=false:=by
      cases es:(symB n f&&(b||zE3 n f))with
      |false=>rfl
      |true=>exact absurd (eqv.mp es i (qAu.mp hi)) h2
     rw[this];refine start _ ?_;rw[zDZ,hR _ e2];rfl
    ·have:(symB n f&&(b||zE3 n f))=true:=eqv.mpr fun i hi=>h2 i (qAu.mpr hi)
     rw[this];exact start _ (sw (hR _ e2) (sr rfl ⟨qA8 _,qA8 _⟩))
 |_=>first|exact absurd rfl ht|exact⟨fun _=>zBY rfl (sx (to1 (tn1 (tm1 (k:=false) (hx false (zC0 rfl ht))))) rf),fun n f _ _ e=>by cases e⟩
theorem zGL(ns:List Int)(k:Nat)(hk:k<1000):∃n f,n<=10/\Bits n f/\Sym n f/\zBW [.scr ns,.int (k:Int),.int 10]=okR (mat (tab n f)):=by
 have c0:=zJE ns k (by lia) (by lia);have c1:=zJE ns (k+1) (by lia) (by lia)
 generalize cellv ns k=x0 at c0;generalize cellv ns (k+1)=x1 at c1;generalize hn:(x0%11).toNat=n;have hn':x0%11=(n:Int):=by lia
 have hn10:n<=10:=by lia
 obtain⟨K,hK,hK1,hK2⟩:∃K:Nat,maxD [.int 1,.int ((n:Int)-x0/16%4)]=some (.int (K:Int))/\1<=K/\K<=10:=by
  simp only[maxD];by_cases h:(n:Int)-x0/16%4>1
  ·exact⟨((n:Int)-x0/16%4).toNat,by rw[if_pos h];congr 2;lia,by lia,by lia⟩
  ·exact⟨1,by rw[if_neg h];rfl,by lia,by lia⟩
 have hKp:(0:Int)<(K:Int):=by lia
 let R0:Nat->Nat->Int:=fun i j=>cellv ns (k+2+(max i j:Nat))/((min i j:Nat)*(min i j:Nat)+3)%2
 let R:Nat->Nat->Int:=fun i j=>if i=j then R0 i j*(if 0<x0/192%3 then 1 else 0)else R0 i j
 have bit0:∀i j,R0 i j=0\/R0 i j=1:=fun i j=>by show _%2=0\/_%2=1;lia
 have bitR:∀i j,R i j=0\/R i j=1:=fun i j=>by
  show(if i=j then R0 i j*_ else R0 i j)=0\/(if i=j then R0 i j*_ else R0 i j)=1
  have:=bit0 i j;split
  ·split<;>lia
  ·exact this
 have symR:∀i j,R i j=R j i:=fun i j=>by
  by_cases h:i=j
  ·rw[h]
  ·show(if i=j then R0 i j*_ else R0 i j)=(if j=i then R0 j i*_ else R0 j i)
   rw[if_neg h,if_neg fun z=>h z.symm];show cellv ns (k+2+(max i j:Nat))/((min i j:Nat)*(min i j:Nat)+3)%2=cellv ns (k+2+(max j i:Nat))/((min j i:Nat)*(min j i:Nat)+3)%2;rw[Nat.max_comm,Nat.min_comm]
 have fin:∀kd:Nat->Nat,(∀i,kd i<K)->∀(o:Option Sl),zB0=zB0->sSeq (sSet 6 2 [0,9,4,1] (eComp (iR1 (aCons (eV 4) aNil)) 1 (.one 10) Mi.tYes (eCall zA9 (aCons (eV 0) (aCons (eB addD (eB addD (eV 1) (eC (.int 2))) (eV 10)) aNil)))))
   (sSeq (sSet 7 0 [0,1] (eB (cmpD fun i j=>decide (j<i)) (eB modD (eB divD (eCall zA9 (aCons (eV 0) (aCons (eV 1) aNil))) (eC (.int 192))) (eC (.int 3))) (eC (.int 0))))
   (sSeq (sSet 8 2 [9,4,6] (eComp (iR1 (aCons (eV 4) aNil)) 1 (.one 10) Mi.tYes (eComp (iR1 (aCons (eV 4) aNil)) 1 (.one 11) Mi.tYes (eB modD (eB divD (eB ixD (eV 6) (eBi maxD (aCons (eV 10) (aCons (eV 11) aNil)))) (eB addD (eB mulD (eBi minD (aCons (eV 10) (aCons (eV 11) aNil))) (eBi minD (aCons (eV 10) (aCons (eV 11) aNil)))) (eC (.int 3)))) (eC (.int 2))))))
   (sSeq (sForR (iR1 (aCons (eV 4) aNil)) 9 (sItem2 8 0 (eV 9) (eV 9) (eB mulD (eB ixD (eB ixD (eV 8) (eV 9)) (eV 9)) (eBi intD (aCons (eV 7) aNil)))))
   (sRet 3 2 [9,3,8,5] (eComp (iR1 (aCons (eV 3) aNil)) 1 (.one 10) Mi.tYes (eComp (iR1 (aCons (eV 3) aNil)) 1 (.one 11) Mi.tYes (eB ixD (eB ixD (eV 8) (eB ixD (eV 5) (eV 10))) (eB ixD (eV 5) (eV 11)))))))))
   [some (.scr ns,0),some (.int (k:Int),0),some (.int 10,0),some (.int (n:Int),0),some (.int (K:Int),0),some (rowD ((qA5 n).map fun i=>((kd i:Nat):Int)),1),none,none,none,none]=okR (.rt (mat (tab n fun i j=>R (kd i) (kd j)))):=by
  intro kd hkd o _;have hb:∀o6 o7 o8 o9:Option Dt,eComp (iR1 (aCons (eV 4) aNil)) 1 (.one 10) Mi.tYes (eCall zA9 (aCons (eV 0) (aCons (eB addD (eB addD (eV 1) (eC (.int 2))) (eV 10)) aNil))) [some (.scr ns),some (.int (k:Int)),some (.int 10),some (.int (n:Int)),some (.int (K:Int)),some (rowD ((qA5 n).map fun i=>((kd i:Nat):Int))),o6,o7,o8,o9]=okR (rowD ((qA5 K).map fun i:Nat=>cellv ns (k+2+i))):=by
   intro o6 o7 o8 o9;refine zFH _ rfl (by lia) (zD2 (by simp) (by lia)) fun i hi=>?_
   have:=zJE ns (k+2+i) (by lia) (by lia)
   simp[this]
  refine zCE fun bb hb'=>?_
  simp[hb];subst hb';refine zCE fun bb hb'=>?_
  simp[c0];subst hb';refine zCE fun bb hb'=>?_
  have ht:∀o8 o9:Option Dt,eComp (iR1 (aCons (eV 4) aNil)) 1 (.one 10) Mi.tYes (eComp (iR1 (aCons (eV 4) aNil)) 1 (.one 11) Mi.tYes (eB modD (eB divD (eB ixD (eV 6) (eBi maxD (aCons (eV 10) (aCons (eV 11) aNil)))) (eB addD (eB mulD (eBi minD (aCons (eV 10) (aCons (eV 11) aNil))) (eBi minD (aCons (eV 10) (aCons (eV 11) aNil)))) (eC (.int 3)))) (eC (.int 2)))) [some (.scr ns),some (.int (k:Int)),some (.int 10),some (.int (n:Int)),some (.int (K:Int)),some (rowD ((qA5 n).map fun i=>((kd i:Nat):Int))),some (rowD ((qA5 K).map fun i:Nat=>cellv ns (k+2+i))),some (.bl (decide (0<x0/192%3))),o8,o9]=okR (mat (tab K R0)):=by
   intro o8 o9;refine zFG R0 rfl rfl (by lia) (zD2 (by simp) (by lia)) (fun a=>zD2 (by simp) (by lia)) fun a b ha hb=>?_
   have i1:ixD (rowD ((qA5 K).map fun i:Nat=>cellv ns (k+2+i))) (.int ((max a b:Nat):Int))=some (.int (cellv ns (k+2+(max a b:Nat)))):=ixR (g:=fun i:Nat=>cellv ns (k+2+i)) (by lia);have m1:mulD (.int ((min a b:Nat):Int)) (.int ((min a b:Nat):Int))=some (.int (((min a b:Nat):Int)*((min a b:Nat):Int))):=zO7 (by lia) (by lia);have p1:(0:Int)<=((min a b:Nat):Int)*((min a b:Nat):Int):=Int.mul_nonneg (by lia) (by lia);have p2:((min a b:Nat):Int)*((min a b:Nat):Int)<=10*10:=Int.mul_le_mul (by lia) (by lia) (by lia) (by lia);have mx:=zM6 a b;have mn:=zM5 a b
   generalize hMx:(max a b:Nat)=u at i1 mx;generalize hMn:(min a b:Nat)=v at m1 p1 p2 mn;simp only[x_eB,x_eV,zLJ,zD3,zER,x_eC];simp[mx,i1,mn,m1,-zHH,show(0:Int)<(v:Int)*v+3 by lia,show(v:Int)*v+3<1000000000000000000000000 by lia];show _=cellv ns (k+2+(max a b:Nat))/((min a b:Nat)*(min a b:Nat)+3)%2;rw[hMx,hMn]
  have hmd:=zDN (tab K R0);simp[ht,hmd];subst hb';refine zCE fun bb hb'=>?_
  simp;rw[zD2 (n:=K) (by simp) (by lia),zA0];refine zPM (fun q r=>∃o9,r=[some (.scr ns,0),some (.int (k:Int),0),some (.int 10,0),some (.int (n:Int),0),some (.int (K:Int),0),some (rowD ((qA5 n).map fun i=>((kd i:Nat):Int)),1),some (rowD ((qA5 K).map fun i:Nat=>cellv ns (k+2+i)),2),some (.bl (decide (0<x0/192%3)),0),some (mat (tab K fun i j=>if i=j/\i<q then R0 i j*(if 0<x0/192%3 then 1 else 0)else R0 i j),2),o9]) ⟨none,by simp⟩ (fun q hq r hr=>?_) fun r hr=>?_
  ·obtain⟨o9,rfl⟩:=hr;have e8:ixD (mat (tab K fun i j=>if i=j/\i<q then R0 i j*(if 0<x0/192%3 then 1 else 0)else R0 i j)) (.int (q:Int))=some (rowD ((qA5 K).map fun j=>if q=j/\q<q then R0 q j*(if 0<x0/192%3 then 1 else 0)else R0 q j)):=ixM hq;have e9:ixD (rowD ((qA5 K).map fun j=>if q=j/\q<q then R0 q j*(if 0<x0/192%3 then 1 else 0)else R0 q j)) (.int (q:Int))=some (.int (R0 q q)):=by rw[ixR hq];simp
   have m1:mulD (.int (R0 q q)) (.int (if 0<x0/192%3 then 1 else 0))=some (.int (R0 q q*(if 0<x0/192%3 then 1 else 0))):=zM4 (by split<;>lia) (by split<;>lia);refine zO6 (zIR (l:=0) (a:=q) (b:=q) (v:=R0 q q*(if 0<x0/192%3 then 1 else 0)) rfl (by simp) (by simp) ?_ hq hq) ⟨some (.int (q:Int),0),?_⟩
   ·simp only[x_eB,x_eV,zLJ,zD3,zER];simp only[zGI,List.set_cons_succ,List.set_cons_zero,qDm,qBk,List.getElem?_cons_zero,zA0,e8,zA5,e9];simp[intD,m1,-zHH]
   ·simp
    congr 3;funext i j;by_cases hij:i=j
    ·subst hij
     by_cases h1:i=q
     ·subst h1;simp
     ·by_cases h2:i<q
      ·simp[h1,h2,show i<q+1 by lia]
      ·simp[h1,h2,show ¬i<q+1 by lia]
    ·simp[hij];intro h1 h2;exact absurd (h1.trans h2.symm) hij
  ·obtain⟨o9,rfl⟩:=hr;subst hb';have eR:(tab K fun i j=>if i=j/\i<K then R0 i j*(if 0<x0/192%3 then 1 else 0)else R0 i j)=tab K R:=zI2 fun i j hi hj=>by
    show(if i=j/\i<K then _ else R0 i j)=if i=j then _ else R0 i j
    by_cases h:i=j
    ·rw[if_pos ⟨h,hi⟩,if_pos h]
    ·rw[if_neg fun z=>h z.1,if_neg h]
   rw[eR];have ht2:∀o9:Option Dt,eComp (iR1 (aCons (eV 3) aNil)) 1 (.one 10) Mi.tYes (eComp (iR1 (aCons (eV 3) aNil)) 1 (.one 11) Mi.tYes (eB ixD (eB ixD (eV 8) (eB ixD (eV 5) (eV 10))) (eB ixD (eV 5) (eV 11)))) [some (.scr ns),some (.int (k:Int)),some (.int 10),some (.int (n:Int)),some (.int (K:Int)),some (rowD ((qA5 n).map fun i=>((kd i:Nat):Int))),some (rowD ((qA5 K).map fun i:Nat=>cellv ns (k+2+i))),some (.bl (decide (0<x0/192%3))),some (mat (tab K R)),o9]=okR (mat (tab n fun i j=>R (kd i) (kd j))):=by
    intro o9;refine zFG _ rfl rfl (by lia) (zD2 (by simp) (by lia)) (fun a=>zD2 (by simp) (by lia)) fun a b ha hb=>?_
    have i1:ixD (rowD ((qA5 n).map fun i=>((kd i:Nat):Int))) (.int (a:Int))=some (.int ((kd a:Nat):Int)):=ixR ha;have i2:ixD (rowD ((qA5 n).map fun i=>((kd i:Nat):Int))) (.int (b:Int))=some (.int ((kd b:Nat):Int)):=ixR hb;have e8:ixD (mat (tab K R)) (.int ((kd a:Nat):Int))=some (rowD ((qA5 K).map fun j=>R (kd a) j)):=ixM (hkd a);have e9:ixD (rowD ((qA5 K).map fun j=>R (kd a) j)) (.int ((kd b:Nat):Int))=some (.int (R (kd a) (kd b))):=ixR (hkd b);simp only[x_eB,x_eV];simp[i1,i2,e8,e9]
   have hmd2:=zDN (tab n fun i j=>R (kd i) (kd j));have hmd3:(mat (tab n fun i j=>R (kd i) (kd j))).dep<=3:=by omega
   simp[ht2,hmd2,hmd3]
 have head:∀kd0:Nat->Nat,(∀i,kd0 i<K)->(∀i:Nat,x1/((i:Int)+1)%K=((kd0 i:Nat):Int))->∃f,Bits n f/\Sym n f/\zB0 [some (.scr ns,0),some (.int (k:Int),0),some (.int 10,0),none,none,none,none,none,none,none]=okR (.rt (mat (tab n f))):=by
  intro kd0 h1 h2;have hcomp0:∀o5 o6 o7 o8 o9:Option Dt,eComp (iR1 (aCons (eV 3) aNil)) 1 (.one 10) Mi.tYes (eB modD (eB divD (eCall zA9 (aCons (eV 0) (aCons (eB addD (eV 1) (eC (.int 1))) aNil))) (eB addD (eV 10) (eC (.int 1)))) (eV 4)) [some (.scr ns),some (.int (k:Int)),some (.int 10),some (.int (n:Int)),some (.int (K:Int)),o5,o6,o7,o8,o9]=okR (rowD ((qA5 n).map fun i=>((kd0 i:Nat):Int))):=by
   intro o5 o6 o7 o8 o9;refine zFH _ rfl (by lia) (zD2 (by simp) (by lia)) fun i hi=>?_
   have h3:=h2 i;simp[c1,show(0:Int)<(i:Int)+1 by lia,show(i:Int)+1<1000000000000000000000000 by lia,show 0<K by lia,h3]
  have hcomp1:∀o5 o6 o7 o8 o9:Option Dt,eComp (iR1 (aCons (eV 3) aNil)) 1 (.one 10) Mi.tYes (eB modD (eV 10) (eV 4)) [some (.scr ns),some (.int (k:Int)),some (.int 10),some (.int (n:Int)),some (.int (K:Int)),o5,o6,o7,o8,o9]=okR (rowD ((qA5 n).map fun i=>((i%K:Nat):Int))):=by
   intro o5 o6 o7 o8 o9;refine zFH _ rfl (by lia) (zD2 (by simp) (by lia)) fun i hi=>?_
   simp[show 0<K by lia]
  by_cases h:0<x0/64%3
  ·refine⟨fun i j=>R (i%K) (j%K),fun i j _ _=>bitR _ _,fun i j _ _=>symR _ _,?_⟩;have g:=fin (fun i=>i%K) (fun i=>Nat.mod_lt _ (by lia)) none rfl;unfold zB0;refine zCE fun bb hb=>?_
   simp[c0,hn'];subst hb;refine zCE fun bb hb=>?_
   simp[c0,hK];subst hb;refine zCE fun bb hb=>?_
   simp[hcomp0];subst hb;refine zCE fun bb hb=>?_
   simp[c0,h,hcomp1];subst hb;exact g
  ·refine⟨fun i j=>R (kd0 i) (kd0 j),fun i j _ _=>bitR _ _,fun i j _ _=>symR _ _,?_⟩;have g:=fin kd0 h1 none rfl;unfold zB0;refine zCE fun bb hb=>?_
   simp[c0,hn'];subst hb;refine zCE fun bb hb=>?_
   simp[c0,hK];subst hb;refine zCE fun bb hb=>?_
   simp[hcomp0];subst hb;refine zCE fun bb hb=>?_
   simp[c0,h];subst hb;exact g
 obtain⟨f,h1,h2,h3⟩:=head (fun i=>(x1/((i:Int)+1)%K).toNat) (fun i=>by
  have a1:=qBd (x1/((i:Int)+1)) (show(K:Int)≠0 by lia);have a2:=qC2 (x1/((i:Int)+1)) hKp
  lia) fun i=>by
  have a1:=qBd (x1/((i:Int)+1)) (show(K:Int)≠0 by lia)
  lia
 exact⟨n,f,hn10,h1,h2,zBY rfl h3⟩
theorem zDO{k:Nat}:∀{xs:List Dt},(∀x∈xs,x.dep<=k)->Dt.depL xs<=k
 |[],_=>qA8 _
 |x::r,h=>Nat.max_le.mpr ⟨h x (by simp),zDO fun y hy=>h y (by simp[hy])⟩
theorem eqL_self:∀{xs:List Dt},(∀x∈xs,Dt.eq x x=true)->Dt.eqL xs xs=true
 |[],_=>by simp[Dt.eqL]
 |x::r,h=>by
  rw[Dt.eqL,h x (by simp),eqL_self fun y hy=>h y (by simp[hy])];rfl
structure GoodI(x:Dt):Prop where
 ty:tyD x ≠ ""
 eq:Dt.eq x x=true
 dep:x.dep<=1
structure GoodR(x:Dt):Prop where
 row:RowC x
 eq:Dt.eq x x=true
 dep:x.dep<=2
theorem zBN(i:Int):GoodI (.int i):=⟨by simp[tyD],by simp[Dt.eq],qA8 _⟩
theorem zBX{xs:List Dt}(hl:xs.length<=1000)(h:∀x∈xs,GoodI x):GoodR (.lst xs):=
 ⟨⟨by simp[tyD],fun ys e=>by injection e with e;subst e;exact⟨hl,fun x hx=>(h x hx).ty⟩⟩,by rw[Dt.eq];exact eqL_self fun x hx=>(h x hx).eq,qB8 (zDO fun x hx=>(h x hx).dep)⟩
theorem zJ1{xs:List Dt}(h:∀x∈xs,GoodI x):GoodR (.tup xs):=
 ⟨⟨by simp[tyD],fun ys e=>by cases e⟩,by rw[Dt.eq];exact eqL_self fun x hx=>(h x hx).eq,qB8 (zDO fun x hx=>(h x hx).dep)⟩
theorem eqX_self{d:Dt}(hd:d.dep<=40)(h:Dt.eq d d=true):eqX d d=some (.bl true):=by
 unfold eqX;split
 ·rfl
 ·unfold eqD;rw[if_pos ⟨hd,hd⟩,h]
theorem zC1{rs:List Dt}(hl:rs.length<=1000)(h:∀r∈rs,GoodR r):zDH (.lst rs)/\eqX (.lst rs) (.lst rs)=some (.bl true):=
 ⟨.inr ⟨by simp[tyD],fun ys e=>by injection e with e;subst e;exact⟨hl,fun x hx=>(h x hx).row⟩⟩,eqX_self (qAg (qB8 (zDO fun x hx=>(h x hx).dep)) (by decide)) (by rw[Dt.eq];exact eqL_self fun x hx=>(h x hx).eq)⟩
theorem zF9{n:Nat}(hn:n<=11)(f:Nat->Nat->Int):∀r∈(tab n f).map rowD,GoodR r:=fun r hr=>by
 obtain⟨A,hA,rfl⟩:=qAq.mp hr;have hl:A.length=n:=by
  unfold tab at hA;obtain⟨i,_,rfl⟩:=qAq.mp hA;simp
 refine zBX (by simp;omega) fun x hx=>?_
 obtain⟨y,_,rfl⟩:=qAq.mp hx;exact zBN y
theorem zDM{n i:Nat}(h:i<n):ixA n (i:Int)=some i:=by
 rw[zIQ (by omega) (by omega)];rfl
section
variable{ρ:Ro}{rs ds:List Dt}{d:Dt}{i j m k:Nat}{e0 e1 e2:EM}
theorem zHA(h:ρ[0]?=some (some (.lst rs,k+2)))(h0:e0 (full ρ)=okR (.int (i:Int)))(h1:e1 (full ρ)=okR (.int (j:Int)))(h2:e2 (full ρ)=okR d)(hi:rs[i]?=some (.lst ds))(hj:j<ds.length)(hd:d.dep<=m/\d.dep<=k) :
  sItem2 0 m e0 e1 e2 ρ=okR (.nx (ρ.set 0 (some (.lst (rs.set i (.lst (ds.set j d))),k+2)))):=by
 unfold sItem2;rw[h2,zA0,h];dsimp only;rw[h0,zA0];dsimp only;rw[zDM (qA2.mp hi).1];dsimp only;rw[hi];dsimp only;rw[h1,zA0];dsimp only;rw[zDM hj];exact if_pos hd
theorem zMU(h:ρ[0]?=some (some (.lst rs,k+2)))(h0:e0 (full ρ)=okR (.int (i:Int)))(h2:e2 (full ρ)=okR d)(hi:rs[i]?=some (.lst ds))(hz:ds.length<=100000)(hd:d.dep=0) :
  sApp2 0 0 e0 e2 ρ=okR (.nx (ρ.set 0 (some (.lst (rs.set i (.lst (ds++[d]))),k+2)))):=by
 unfold sApp2;rw[h];dsimp only;rw[h0,zA0];dsimp only;rw[zDM (qA2.mp hi).1];dsimp only;rw[hi];dsimp only;rw[h2,zA0];exact if_pos ⟨hz,by omega,by omega⟩
theorem zLX(h:ρ[0]?=some (some (.lst rs,k+2)))(h0:e0 (full ρ)=okR (.int (i:Int)))(hi:rs[i]?=some (.lst ds))(hz:ds≠[]) :
  sPop2 0 e0 ρ=okR (.nx (ρ.set 0 (some (.lst (rs.set i (.lst (ds.eraseIdx (ds.length-1)))),k+2)))):=by
 unfold sPop2;rw[h];dsimp only;rw[h0,zA0];dsimp only;rw[zDM (qA2.mp hi).1];dsimp only;rw[hi];exact if_neg hz
theorem zM9(h:ρ[0]?=some (some (.lst rs,k+1)))(h0:e0 (full ρ)=okR (.int (i:Int)))(h2:e2 (full ρ)=okR d)(hi:i<rs.length)(hd:d.dep<=m/\d.dep<=k) :
  sItem 0 m e0 e2 ρ=okR (.nx (ρ.set 0 (some (.lst (rs.set i d),k+1)))):=by
 unfold sItem;rw[h2,zA0,h];dsimp only;rw[h0,zA0];dsimp only;rw[zDM hi];exact if_pos hd
theorem zLW(h:ρ[0]?=some (some (.lst rs,k+1)))(h0:e0 (full ρ)=okR (.int (i:Int)))(hi:i<rs.length)(hz:rs.length<=1000000) :
  sPopD 0 e0 ρ=okR (.nx (ρ.set 0 (some (.lst (rs.eraseIdx i),k+1)))):=by
 unfold sPopD;rw[h];dsimp only;rw[h0,zA0];dsimp only;rw[zDM hi];exact if_pos hz
end
theorem zDD{rs:List Dt}(hl:rs.length<=1000)(h:∀r∈rs,GoodR r){i:Nat}{r:Dt}(hr:GoodR r):zDH (.lst (rs.set i r))/\eqX (.lst (rs.set i r)) (.lst (rs.set i r))=some (.bl true):=
 zC1 (by simpa using hl) fun x hx=>by
  rcases qBf hx with hx|rfl
  ·exact h x hx
  ·exact hr
theorem zHK{n:Nat}(f:Nat->Nat->Int)(h1:1<=n)(hn:n<=10)(c:Int):∃d,zB6 [mat (tab n f),.int c]=okR d/\zDH d/\eqX d d=some (.bl true):=by
 obtain⟨h,hh,eh,hh2⟩:∃h:Int,0<=h/\c%12=h/\h<12:=⟨c%12,by omega,rfl,by omega⟩
 obtain⟨i,hi,ei⟩:∃i:Nat,i<n/\c/12%(n:Int)=(i:Int):=⟨(c/12%(n:Int)).toNat,by have:=qC2 (c/12) (show(0:Int)<n by omega);have:=qBd (c/12) (show(n:Int)≠0 by omega);omega,by have:=qBd (c/12) (show(n:Int)≠0 by omega);omega⟩
 obtain⟨j,hj,ej⟩:∃j:Nat,j<n/\c/120%(n:Int)=(j:Int):=⟨(c/120%(n:Int)).toNat,by have:=qC2 (c/120) (show(0:Int)<n by omega);have:=qBd (c/120) (show(n:Int)≠0 by omega);omega,by have:=qBd (c/120) (show(n:Int)≠0 by omega);omega⟩
 have hlen:lenD [mat (tab n f)]=some (.int (n:Int)):=by rw[lenM,zC8]
 obtain⟨rs,ers⟩:∃rs,rs=(tab n f).map rowD:=⟨_,rfl⟩
 obtain⟨ds,eds⟩:∃ds:List Dt,ds=((qA5 n).map fun j=>f i j).map Dt.int:=⟨_,rfl⟩
 have hT:mat (tab n f)=.lst rs:=by rw[ers];rfl
 have hrl:rs.length=n:=by rw[ers];simp[zC8]
 have hdl:ds.length=n:=by rw[eds];simp
 have hri:rs[i]?=some (.lst ds):=by
  rw[ers,eds];simp[tab,hi,rowD]
 have hg:∀r∈rs,GoodR r:=by rw[ers];exact zF9 (by omega) f
 have hgi:∀x∈ds,GoodI x:=fun x hx=>by
  rw[eds]at hx;obtain⟨y,_,rfl⟩:=qAq.mp hx;exact zBN y
 have hd0:∀x∈ds,x.dep<=0:=fun x hx=>by
  rw[eds]at hx;obtain⟨y,_,rfl⟩:=qAq.mp hx;exact qAa 0
 have hix:=ixM (f:=f) hi;rw[hT]at hix hlen ⊢;have hixr:ixD (.lst rs) (.int (i:Int))=some (.lst ds):=by rw[hix,eds];rfl
 have hixj:ixD (.lst ds) (.int (j:Int))=some (.int (f i j)):=by
  have:=ixR (g:=fun j=>f i j) hj
  rw[eds];exact this
 have e3:∀(d:Dt)(k:Int)(q:Bool),decide (h=k)=q->tB (eB eqD (eV 3) (eC (.int k))) (full [some (d,3),some (.int c,0),some (.int (n:Int),0),some (.int h,0),some (.int (i:Int),0),some (.int (j:Int),0)])=okR q:=fun d k q hq=>eqi rfl rfl hq
 have e6:∀(d:Dt)(q:Bool),decide (h<6)=q->tB (eB (cmpD fun i j=>decide (i<j)) (eV 3) (eC (.int 6))) (full [some (d,3),some (.int c,0),some (.int (n:Int),0),some (.int h,0),some (.int (i:Int),0),some (.int (j:Int),0)])=okR q:=fun d q hq=>tb1 (b2 rfl rfl (cmi hq))
 have ret:∀d:Dt,sRetV 0 0 [some (d,3),some (.int c,0),some (.int (n:Int),0),some (.int h,0),some (.int (i:Int),0),some (.int (j:Int),0)]=okR (.rt d):=fun d=>by
  unfold sRetV;show(if(3:Nat)=0\/(0:Nat)=0\/_ then okR (Out.rt d)else none)=_
  rw[if_pos (.inr (.inl rfl))]
 have start:∀d,sSeq (sIf (tB (eB (cmpD fun i j=>decide (i<j)) (eV 3) (eC (.int 6)))) (sItem2 0 1 (eV 4) (eV 5) (eIxO (eLst (aCons (eC (.int 2)) (aCons (eU negD (eC (.int 1))) (aCons (eC (.bl true)) (aCons (eC .non) (aCons (eC (.str "1")) (aCons (eLst (aCons (eC (.int 1)) aNil)) aNil))))))) (eV 3))) sNil)
   (sSeq (sIf (tAn (tB (eB eqD (eV 3) (eC (.int 6)))) (tB (eB neD (eV 4) (eV 5)))) (sItem2 0 0 (eV 4) (eV 5) (eB subD (eC (.int 1)) (eB ixD (eB ixD (eV 0) (eV 4)) (eV 5)))) sNil)
   (sSeq (sIf (tB (eB eqD (eV 3) (eC (.int 7)))) (sApp2 0 0 (eV 4) (eC (.int 0))) sNil)
   (sSeq (sIf (tB (eB eqD (eV 3) (eC (.int 8)))) (sPop2 0 (eV 4)) sNil)
   (sSeq (sIf (tB (eB eqD (eV 3) (eC (.int 9)))) (sItem 0 1 (eV 4) (eBi tupD (aCons (eB ixD (eV 0) (eV 4)) aNil))) sNil)
   (sSeq (sIf (tB (eB eqD (eV 3) (eC (.int 10)))) (sPopD 0 (eV 4)) sNil)
   (sSeq (sIf (tB (eB eqD (eV 3) (eC (.int 11)))) (sApp 0 1 (eComp (iR1 (aCons (eB addD (eV 2) (eC (.int 1))) aNil)) 1 (.one 6) Mi.tYes (eC (.int 0)))) sNil)
   (sRetV 0 0))))))) [some (.lst rs,3),some (.int c,0),some (.int (n:Int),0),some (.int h,0),some (.int (i:Int),0),some (.int (j:Int),0)]=okR (.rt d)->zB6 [.lst rs,.int c]=okR d:=fun d hd=>by
  show zA2 (zBQ [some (.lst rs,3),some (.int c,0),none,none,none,none]) endF=_;have:zBQ [some (.lst rs,3),some (.int c,0),none,none,none,none]=okR (.rt d):=
   sg (bi1 rfl hlen) (qA8 _) (sg (b2 rfl rfl (mdi (by decide) eh)) (qA8 _) (sg (b2 (b2 rfl rfl (dvi (by decide))) rfl (mdi (by omega) ei)) (qA8 _) (sg (b2 (b2 rfl rfl (dvi (by decide))) rfl (mdi (by omega) ej)) (qA8 _) hd)))
  rw[this];rfl
 have f6:¬h=6->∀d:Dt,tAn (tB (eB eqD (eV 3) (eC (.int 6)))) (tB (eB neD (eV 4) (eV 5))) (full [some (d,3),some (.int c,0),some (.int (n:Int),0),some (.int h,0),some (.int (i:Int),0),some (.int (j:Int),0)])=okR false:=fun z d=>ta0 (e3 d 6 false (decide_eq_false z))
 have cases:h<6\/h=6\/h=7\/h=8\/h=9\/h=10\/h=11:=by omega
 rcases cases with q|q|q|q|q|q|q
 ·
  obtain⟨x,hx,gx⟩:∃x,eIxO (eLst (aCons (eC (.int 2)) (aCons (eU negD (eC (.int 1))) (aCons (eC (.bl true)) (aCons (eC .non) (aCons (eC (.str "1")) (aCons (eLst (aCons (eC (.int 1)) aNil)) aNil))))))) (eV 3) (full [some (.lst rs,3),some (.int c,0),some (.int (n:Int),0),some (.int h,0),some (.int (i:Int),0),some (.int (j:Int),0)])=okR x/\GoodI x:=by
   have:h=0\/h=1\/h=2\/h=3\/h=4\/h=5:=by omega
   have hL:∀ρ:Rh,eLst (aCons (eC (.int 2)) (aCons (eU negD (eC (.int 1))) (aCons (eC (.bl true)) (aCons (eC .non) (aCons (eC (.str "1")) (aCons (eLst (aCons (eC (.int 1)) aNil)) aNil)))))) ρ=okR (.lst [.int 2,.int (-1),.bl true,.non,.str "1",.lst [.int 1]]):=fun ρ=>by simp
   have go:∀x,itA [Dt.int 2,.int (-1),.bl true,.non,.str "1",.lst [.int 1]] h=some x->eIxO (eLst (aCons (eC (.int 2)) (aCons (eU negD (eC (.int 1))) (aCons (eC (.bl true)) (aCons (eC .non) (aCons (eC (.str "1")) (aCons (eLst (aCons (eC (.int 1)) aNil)) aNil))))))) (eV 3) (full [some (.lst rs,3),some (.int c,0),some (.int (n:Int),0),some (.int h,0),some (.int (i:Int),0),some (.int (j:Int),0)])=okR x:=fun x hx=>by
    unfold eIxO;rw[hL,zA0];show optR (itA _ h)=_;rw[hx];rfl
   rcases this with rfl|rfl|rfl|rfl|rfl|rfl
   ·exact⟨.int 2,go _ rfl,zBN _⟩
   ·exact⟨.int (-1),go _ rfl,zBN _⟩
   ·exact⟨.bl true,go _ rfl,⟨by simp[tyD],by simp[Dt.eq],qA8 _⟩⟩
   ·exact⟨.non,go _ rfl,⟨by simp[tyD],by simp[Dt.eq],qA8 _⟩⟩
   ·exact⟨.str "1",go _ rfl,⟨by simp[tyD],by simp[Dt.eq],qA8 _⟩⟩
   ·exact⟨.lst [.int 1],go _ rfl,⟨by simp[tyD],by simp[Dt.eq,Dt.eqL],by decide⟩⟩
  have a1:=zHA (k:=1) (m:=1) (e0:=eV 4) (e1:=eV 5) (ρ:=[some (.lst rs,3),some (.int c,0),some (.int (n:Int),0),some (.int h,0),some (.int (i:Int),0),some (.int (j:Int),0)]) rfl rfl rfl hx hri (by omega) ⟨gx.dep,gx.dep⟩;refine⟨_,start _ (sw (sk (e6 _ true (decide_eq_true q)) a1) (sp (f6 (by omega) _) (sp (e3 _ 7 false (decide_eq_false (by omega))) (sp (e3 _ 8 false (decide_eq_false (by omega))) (sp (e3 _ 9 false (decide_eq_false (by omega))) (sp (e3 _ 10 false (decide_eq_false (by omega))) (sp (e3 _ 11 false (decide_eq_false (by omega))) (ret _)))))))),?_⟩;exact zDD (by omega) hg (zBX (by simp;omega) fun y hy=>by
   rcases qBf hy with hy|rfl
   ·exact hgi y hy
   ·exact gx)
 ·by_cases eij:i=j
  ·have g6:tAn (tB (eB eqD (eV 3) (eC (.int 6)))) (tB (eB neD (eV 4) (eV 5))) (full [some (.lst rs,3),some (.int c,0),some (.int (n:Int),0),some (.int h,0),some (.int (i:Int),0),some (.int (j:Int),0)])=okR false:=ta1 (e3 _ 6 true (decide_eq_true q)) (nei rfl rfl (by rw[decide_eq_true (by omega)];rfl));refine⟨_,start _ (sp (e6 _ false (decide_eq_false (by omega))) (sp g6 (sp (e3 _ 7 false (decide_eq_false (by omega))) (sp (e3 _ 8 false (decide_eq_false (by omega))) (sp (e3 _ 9 false (decide_eq_false (by omega))) (sp (e3 _ 10 false (decide_eq_false (by omega))) (sp (e3 _ 11 false (decide_eq_false (by omega))) (ret _)))))))),?_⟩;exact zC1 (by omega) hg
  ·have g6:tAn (tB (eB eqD (eV 3) (eC (.int 6)))) (tB (eB neD (eV 4) (eV 5))) (full [some (.lst rs,3),some (.int c,0),some (.int (n:Int),0),some (.int h,0),some (.int (i:Int),0),some (.int (j:Int),0)])=okR true:=ta1 (e3 _ 6 true (decide_eq_true q)) (nei rfl rfl (by rw[decide_eq_false (by omega)];rfl));have a1:=zHA (k:=1) (m:=0) (e0:=eV 4) (e1:=eV 5) (e2:=eB subD (eC (.int 1)) (eB ixD (eB ixD (eV 0) (eV 4)) (eV 5))) (d:=.int (1-f i j)) (ρ:=[some (.lst rs,3),some (.int c,0),some (.int (n:Int),0),some (.int h,0),some (.int (i:Int),0),some (.int (j:Int),0)]) rfl rfl rfl (b2 rfl (b2 (b2 rfl rfl hixr) rfl hixj) rfl) hri (by omega) ⟨qA8 _,qA8 _⟩;refine⟨_,start _ (sp (e6 _ false (decide_eq_false (by omega))) (sw (sk g6 a1) (sp (e3 _ 7 false (decide_eq_false (by omega))) (sp (e3 _ 8 false (decide_eq_false (by omega))) (sp (e3 _ 9 false (decide_eq_false (by omega))) (sp (e3 _ 10 false (decide_eq_false (by omega))) (sp (e3 _ 11 false (decide_eq_false (by omega))) (ret _)))))))),?_⟩;exact zDD (by omega) hg (zBX (by simp;omega) fun y hy=>by
    rcases qBf hy with hy|rfl
    ·exact hgi y hy
    ·exact zBN _)
 ·have a1:=zMU (k:=1) (e0:=eV 4) (e2:=eC (.int 0)) (d:=.int 0) (ρ:=[some (.lst rs,3),some (.int c,0),some (.int (n:Int),0),some (.int h,0),some (.int (i:Int),0),some (.int (j:Int),0)]) rfl rfl rfl hri (by omega) rfl;refine⟨_,start _ (sp (e6 _ false (decide_eq_false (by omega))) (sp (f6 (by omega) _) (sw (sk (e3 _ 7 true (decide_eq_true q)) a1) (sp (e3 _ 8 false (decide_eq_false (by omega))) (sp (e3 _ 9 false (decide_eq_false (by omega))) (sp (e3 _ 10 false (decide_eq_false (by omega))) (sp (e3 _ 11 false (decide_eq_false (by omega))) (ret _)))))))),?_⟩;exact zDD (by omega) hg (zBX (by simp;omega) fun y hy=>by
   rcases qB4.mp hy with hy|hy
   ·exact hgi y hy
   ·rw[qAp.mp hy];exact zBN _)
 ·have a1:=zLX (k:=1) (e0:=eV 4) (ρ:=[some (.lst rs,3),some (.int c,0),some (.int (n:Int),0),some (.int h,0),some (.int (i:Int),0),some (.int (j:Int),0)]) rfl rfl hri (fun z=>by rw[z]at hdl;simp at hdl;omega);refine⟨_,start _ (sp (e6 _ false (decide_eq_false (by omega))) (sp (f6 (by omega) _) (sp (e3 _ 7 false (decide_eq_false (by omega))) (sw (sk (e3 _ 8 true (decide_eq_true q)) a1) (sp (e3 _ 9 false (decide_eq_false (by omega))) (sp (e3 _ 10 false (decide_eq_false (by omega))) (sp (e3 _ 11 false (decide_eq_false (by omega))) (ret _)))))))),?_⟩;exact zDD (by omega) hg (zBX (qAg (qCe _ _) (by omega)) fun y hy=>hgi y (qCa hy))
 ·have a1:=zM9 (k:=2) (m:=1) (e0:=eV 4) (e2:=eBi tupD (aCons (eB ixD (eV 0) (eV 4)) aNil)) (d:=.tup ds) (ρ:=[some (.lst rs,3),some (.int c,0),some (.int (n:Int),0),some (.int h,0),some (.int (i:Int),0),some (.int (j:Int),0)]) rfl rfl (bi1 (b2 rfl rfl hixr) rfl) (by omega) (by have:(Dt.tup ds).dep<=1:=qB8 (zDO hd0);omega);refine⟨_,start _ (sp (e6 _ false (decide_eq_false (by omega))) (sp (f6 (by omega) _) (sp (e3 _ 7 false (decide_eq_false (by omega))) (sp (e3 _ 8 false (decide_eq_false (by omega))) (sw (sk (e3 _ 9 true (decide_eq_true q)) a1) (sp (e3 _ 10 false (decide_eq_false (by omega))) (sp (e3 _ 11 false (decide_eq_false (by omega))) (ret _)))))))),?_⟩;exact zDD (by omega) hg (zJ1 hgi)
 ·have a1:=zLW (k:=2) (e0:=eV 4) (ρ:=[some (.lst rs,3),some (.int c,0),some (.int (n:Int),0),some (.int h,0),some (.int (i:Int),0),some (.int (j:Int),0)]) rfl rfl (by omega) (by omega);refine⟨_,start _ (sp (e6 _ false (decide_eq_false (by omega))) (sp (f6 (by omega) _) (sp (e3 _ 7 false (decide_eq_false (by omega))) (sp (e3 _ 8 false (decide_eq_false (by omega))) (sp (e3 _ 9 false (decide_eq_false (by omega))) (sw (sk (e3 _ 10 true (decide_eq_true q)) a1) (sp (e3 _ 11 false (decide_eq_false (by omega))) (ret _)))))))),?_⟩;exact zC1 (qAg (qCe _ _) (by omega)) fun y hy=>hg y (qCa hy)
 ·have hc:eComp (iR1 (aCons (eB addD (eV 2) (eC (.int 1))) aNil)) 1 (.one 6) Mi.tYes (eC (.int 0)) (full [some (.lst rs,3),some (.int c,0),some (.int (n:Int),0),some (.int h,0),some (.int (i:Int),0),some (.int (j:Int),0)])=okR (.lst ((qA5 (n+1)).map fun _=>.int 0)):=by
   refine zBB (fun k:Nat=>Dt.int (k:Int)) (fun _=>.int 0) (qA5 (n+1)) rfl rfl (fun k _=>rfl) _ ?_ (by simp;omega);rw[zD2 (n:=n+1) (al0 (b2 rfl rfl (adi (by omega)))) (by omega)];unfold nums;simp
  have z0:∀x∈((qA5 (n+1)).map fun _=>Dt.int 0),x=.int 0:=fun x hx=>by
   obtain⟨y,_,rfl⟩:=qAq.mp hx;rfl
  have zd:(Dt.lst ((qA5 (n+1)).map fun _=>Dt.int 0)).dep<=1:=qB8 (zDO fun x hx=>by rw[z0 x hx];exact qAa 0);have a1:=zP1 (i:=0) (n:=1) (k:=2) (r:=[some (.lst rs,3),some (.int c,0),some (.int (n:Int),0),some (.int h,0),some (.int (i:Int),0),some (.int (j:Int),0)]) rfl hc (by omega) zd (by omega);refine⟨_,start _ (sp (e6 _ false (decide_eq_false (by omega))) (sp (f6 (by omega) _) (sp (e3 _ 7 false (decide_eq_false (by omega))) (sp (e3 _ 8 false (decide_eq_false (by omega))) (sp (e3 _ 9 false (decide_eq_false (by omega))) (sp (e3 _ 10 false (decide_eq_false (by omega))) (sw (sk (e3 _ 11 true (decide_eq_true q)) a1) (ret _)))))))),?_⟩;refine zC1 (by simp;omega) fun y hy=>?_
  rcases qB4.mp hy with hy|hy
  ·exact hg y hy
  ·rw[qAp.mp hy];exact zBX (by simp;omega) fun x hx=>by rw[z0 x hx];exact zBN _
theorem rt0'{vs:List Nat}{e:EM}{d:Dt}{r:Ro}(h1:e (full r)=okR d)(h2:e (frz (frzAt vs r))=okR d):sRet 0 0 vs e r=okR (.rt d):=by
 rw[zKO,h1,zA0];split
 ·rfl
 ·rw[if_pos rfl,h2,zA0]
theorem zCN{d:Dt}(h:d=.non\/(∃i,d=.int i)\/(∃t,d=.str t)\/d=.tup []):zDH d/\eqX d d=some (.bl true):=by
 rcases h with rfl|⟨i,rfl⟩|⟨t,rfl⟩|rfl
 ·exact⟨.inr ⟨by simp[tyD],fun _ e=>by cases e⟩,eqX_self (by decide) (by simp[Dt.eq])⟩
 ·exact⟨.inr ⟨by simp[tyD],fun _ e=>by cases e⟩,eqX_self (qA8 _) (by simp[Dt.eq])⟩
 ·exact⟨.inr ⟨by simp[tyD],fun _ e=>by cases e⟩,eqX_self (qA8 _) (by simp[Dt.eq])⟩
 ·exact⟨.inr ⟨by simp[tyD],fun _ e=>by cases e⟩,eqX_self (by decide) (by simp[Dt.eq,Dt.eqL])⟩
theorem zI0(ns:List Int):∃d,zBF [.scr ns]=okR d/\zDH d/\eqX d d=some (.bl true):=by
 obtain⟨n,f,hn,_,_,et⟩:=zGL ns 0 (by omega);have c14:=zJE ns 14 (by omega) (by omega);have c15:=zJE ns 15 (by omega) (by omega)
 generalize cellv ns 14=x14 at c14;generalize cellv ns 15=x15 at c15;have hlen:lenD [mat (tab n f)]=some (.int (n:Int)):=by rw[lenM,zC8]
 have start:∀d,sSeq (sIf (tB (eB eqD (eV 2) (eC (.int 0)))) (sRet 0 0 [0] (eB ixD (eLst (aCons (eC .non) (aCons (eC (.int 0)) (aCons (eC (.str "")) (aCons (eC (.str "01")) (aCons (eTup aNil) (aCons eDct0 (aCons (eLst (aCons (eC (.int 0)) aNil)) (aCons (eLst (aCons (eLst (aCons (eC (.int 0)) aNil)) (aCons (eC (.int 1)) aNil))) aNil))))))))) (eB modD (eCall zA9 (aCons (eV 0) (aCons (eC (.int 15)) aNil))) (eC (.int 8))))) sNil)
   (sSeq (sIf (tB (eB eqD (eV 2) (eC (.int 1)))) (sRet 0 0 [] (eComp (iR1 (aCons (eC (.int 11)) aNil)) 1 (.one 3) Mi.tYes (eComp (iR1 (aCons (eC (.int 11)) aNil)) 1 (.one 4) Mi.tYes (eC (.int 0))))) sNil)
   (sSeq (sIf (Mi.tOr (tB (eB (cmpD fun i j=>decide (i<j)) (eV 2) (eC (.int 4)))) (tB (eB eqD (eBi lenD (aCons (eV 1) aNil)) (eC (.int 0))))) (sRetV 0 1) sNil)
   (sRetC 1 3 (aCons (eCall zA9 (aCons (eV 0) (aCons (eC (.int 15)) aNil))) aNil) zB6))) [some (.scr ns,0),some (mat (tab n f),3),some (.int (x14%8),0)]=okR (.rt d)->zBF [.scr ns]=okR d:=fun d hd=>
  zBY rfl (sg (c3 rfl rfl rfl et) (qAg (zDN _) (by decide)) (sg (b2 (c2 rfl rfl c14) rfl (mdi (by decide) rfl)) (qA8 _) hd))
 have kd:∀k:Int,∀q,decide (x14%8=k)=q->tB (eB eqD (eV 2) (eC (.int k))) (full [some (.scr ns,0),some (mat (tab n f),3),some (.int (x14%8),0)])=okR q:=fun k q h=>eqi rfl rfl h
 by_cases k0:x14%8=0
 ·have hL:∀ρ:Rh,eLst (aCons (eC .non) (aCons (eC (.int 0)) (aCons (eC (.str "")) (aCons (eC (.str "01")) (aCons (eTup aNil) (aCons eDct0 (aCons (eLst (aCons (eC (.int 0)) aNil)) (aCons (eLst (aCons (eLst (aCons (eC (.int 0)) aNil)) (aCons (eC (.int 1)) aNil))) aNil)))))))) ρ=okR (.lst [.non,.int 0,.str "",.str "01",.tup [],.dct [],.lst [.int 0],.lst [.lst [.int 0],.int 1]]):=fun ρ=>by simp[eDct0]
  have go:∀x,itA [Dt.non,.int 0,.str "",.str "01",.tup [],.dct [],.lst [.int 0],.lst [.lst [.int 0],.int 1]] (x15%8)=some x->zBF [.scr ns]=okR x:=fun x hx=>
   start x (sx (kd 0 true (decide_eq_true k0)) (rt0' (b2 (hL _) (b2 (c2 rfl rfl c15) rfl (mdi (by decide) rfl)) hx) (b2 (hL _) (b2 (c2 rfl rfl c15) rfl (mdi (by decide) rfl)) hx)))
  have:x15%8=0\/x15%8=1\/x15%8=2\/x15%8=3\/x15%8=4\/x15%8=5\/x15%8=6\/x15%8=7:=by omega
  rcases this with e|e|e|e|e|e|e|e<;>rw[e]at go
  ·exact⟨_,go _ rfl,zCN (.inl rfl)⟩
  ·exact⟨_,go _ rfl,zCN (.inr (.inl ⟨_,rfl⟩))⟩
  ·exact⟨_,go _ rfl,zCN (.inr (.inr (.inl ⟨_,rfl⟩)))⟩
  ·exact⟨_,go _ rfl,zCN (.inr (.inr (.inl ⟨_,rfl⟩)))⟩
  ·exact⟨_,go _ rfl,zCN (.inr (.inr (.inr rfl)))⟩
  ·exact⟨_,go _ rfl,.inl ⟨_,rfl⟩,rfl⟩
  ·refine⟨_,go _ rfl,zC1 (by decide) fun r hr=>?_⟩;rw[qAp.mp hr];exact⟨⟨by simp[tyD],fun _ e=>by cases e⟩,by simp[Dt.eq],qA8 _⟩
  ·refine⟨_,go _ rfl,zC1 (by decide) fun r hr=>?_⟩
   rcases qAo.mp hr with rfl|hr
   ·exact zBX (by decide) fun x hx=>by rw[qAp.mp hx];exact zBN _
   ·rw[qAp.mp hr];exact⟨⟨by simp[tyD],fun _ e=>by cases e⟩,by simp[Dt.eq],qA8 _⟩
 ·by_cases k1:x14%8=1
  ·have hc:=zEW 11 (by omega) (ρ:=[some (.scr ns),some (mat (tab n f)),some (.int (x14%8))]) (i:=3) (j:=4) (a:=aCons (eC (.int 11)) aNil) rfl rfl rfl (fun _=>rfl);obtain⟨ρ2,e2,l2⟩:∃ρ2:Rh,frz (frzAt [] [some (.scr ns,0),some (mat (tab n f),3),some (.int (x14%8),0)])=ρ2/\ρ2.length=3:=⟨_,rfl,rfl⟩
   have hc2:=zEW 11 (by omega) (ρ:=ρ2) (i:=3) (j:=4) (a:=aCons (eC (.int 11)) aNil) (by omega) (by omega) rfl (fun _=>rfl);refine⟨_,start _ (sp (kd 0 false (decide_eq_false k0)) (sx (kd 1 true (decide_eq_true k1)) (rt0' hc (by rw[e2];exact hc2)))),?_⟩;exact zC1 (by simp[tab]) (zF9 (by omega) _)
  ·have gT:zDH (mat (tab n f))/\eqX (mat (tab n f)) (mat (tab n f))=some (.bl true):=zC1 (by simp[zC8];omega) (zF9 (by omega) f);have l4:tB (eB (cmpD fun i j=>decide (i<j)) (eV 2) (eC (.int 4))) (full [some (.scr ns,0),some (mat (tab n f),3),some (.int (x14%8),0)])=okR (decide (x14%8<4)):=tb1 (b2 rfl rfl rfl);have l0:tB (eB eqD (eBi lenD (aCons (eV 1) aNil)) (eC (.int 0))) (full [some (.scr ns,0),some (mat (tab n f),3),some (.int (x14%8),0)])=okR (decide ((n:Int)=0)):=eqi (bi1 rfl hlen) rfl rfl;have rv:sRetV 0 1 [some (.scr ns,0),some (mat (tab n f),3),some (.int (x14%8),0)]=okR (.rt (mat (tab n f))):=by
    unfold sRetV;show(if(3:Nat)=0\/(0:Nat)=0\/_ then okR (Out.rt (mat (tab n f)))else none)=_
    rw[if_pos (.inr (.inl rfl))]
   by_cases k4:x14%8<4
   ·rw[decide_eq_true k4]at l4;exact⟨_,start _ (sp (kd 0 false (decide_eq_false k0)) (sp (kd 1 false (decide_eq_false k1)) (sx (to1 l4) rv))),gT⟩
   ·rw[decide_eq_false k4]at l4
    by_cases n0:(n:Int)=0
    ·rw[decide_eq_true n0]at l0;exact⟨_,start _ (sp (kd 0 false (decide_eq_false k0)) (sp (kd 1 false (decide_eq_false k1)) (sx (to0 l4 l0) rv))),gT⟩
    ·rw[decide_eq_false n0]at l0;obtain⟨d,ed,gd⟩:=zHK f (show 1<=n by omega) hn x15;refine⟨d,start _ (sp (kd 0 false (decide_eq_false k0)) (sp (kd 1 false (decide_eq_false k1)) (sp (to0 l4 l0) ?_))),gd⟩;show zA2 ((aCons (eCall zA9 (aCons (eV 0) (aCons (eC (.int 15)) aNil))) aNil) (frz [some (.scr ns,0),some (mat (tab n f),3),some (.int (x14%8),0)])) _=_;rw[al0 (c2 rfl rfl c15),zA0,ed];rfl
theorem zK2(ns:List Int)(hl:ns.length<=63)(hw:∀i∈ns,i.natAbs.log2<2 ^ 20):zEA [.scr ns]=okR (.bl true):=by
 obtain⟨d,em,hT,hE⟩:=zI0 ns;have main:∀a b,zAR [d]=okR (.bl a)->zBM [d]=okR (.bl b)->zAS [d,.bl true]=okR (.bl a)->zAS [d,.bl false]=okR (.bl b)->zEA [.scr ns]=okR (.bl true):=fun a b h1 h2 h3 h4=>by
  refine zBY rfl (sw (s2s (c1 rfl em) (c1 rfl em) rfl) ?_);refine sg (d:=.lst [.bl a,.bl b]) (el2 (c1 rfl h1) (c1 rfl h2)) (qAa 1) ?_;have hall:eBi allD (aCons (eComp (iSq (eV 2)) 1 (.one 3) Mi.tYes (eIsi "bool" (eV 3))) aNil) (full [some (.scr ns,0),some (d,0),some (.lst [.bl a,.bl b],1)])=okR (.bl true):=
   bi1 (zBB Dt.bl (fun _=>.bl true) [a,b] rfl rfl (fun x _=>rfl) _ rfl (by simp)) rfl
  refine sp (tn1 (tm1 hall)) (sr (an2 (b:=true) (c:=true) (b2 rfl (el2 (c2 rfl rfl h3) (c2 rfl rfl h4)) ?_) fun _=>b2 rfl (c1 rfl em) hE) ⟨qA8 _,qA8 _⟩);unfold eqD;rw[if_pos ⟨show(1:Nat)<=40 by decide,show(1:Nat)<=40 by decide⟩];simp[Dt.eq,Dt.eqL]
 rcases zI1 hT with⟨e0,h1,h2⟩|⟨n,f,hn,hb,rfl,h1,h2⟩
 ·exact main false false h1 h2 ((zFA hT true).1 e0) ((zFA hT false).1 e0)
 ·have d1:=(zFA hT true).2 n f hn hb rfl;have d2:=(zFA hT false).2 n f hn hb rfl;rw[Bool.true_or,qBv]at d1;rw[Bool.false_or]at d2;exact main _ _ h1 h2 d1 d2
end Mp
set_option maxHeartbeats 4000000
namespace Q23
open PySem PyProof.Rows
open L2 hiding Rep RepL
open L3
open Mp
noncomputable def top(i:Nat):Stmt:=qC5.main.body.getD i (.Pass ⟨0,0,0,0⟩)
theorem wE:FnScope ["_law_thing_here","_law_free","_law_row","_law_i"] ["_law_thing_here","_law_free"] (zAC (top 16)):=fsc
theorem wC:FnScope ["_law_script","_law_k","_law_cell_here","_law_mixed"] ["_law_script","_law_k"] (zAC (top 11)):=fsc
theorem wB:FnScope ["_law_table_here","_law_cell_here","_law_size","_law_how","_law_i","_law_j"] ["_law_table_here","_law_cell_here"] (zAC (top 14)):=fsc
theorem wA:FnScope ["_law_script","_law_at","_law_most","_law_size","_law_kinds","_law_kind","_law_bits","_law_free","_law_rows","_law_i"] ["_law_script","_law_at","_law_most"] (zAC (top 12)):=fsc
theorem wD:FnScope ["_law_script","_law_table_here","_law_kind"] ["_law_script"] (zAC (top 15)):=fsc
theorem zGH:FnScope ["rows"] ["rows"] (zAC (top 9)):=fsc
theorem zHV:FnScope ["thing"] ["thing"] (zAC (top 1)):=fsc
theorem zDI:FnScope ["thing"] ["thing"] (zAC (top 8)):=fsc
theorem zKM:FnScope ["thing","many"] ["thing","many"] (zAC (top 7)):=fsc
theorem zH0:FnScope ["thing"] ["thing"] (zAC (top 6)):=fsc
theorem zHW:FnScope ["thing"] ["thing"] (zAC (top 4)):=fsc
theorem zKL:FnScope ["thing"] ["thing"] (zAC (top 5)):=fsc
theorem wG:FnScope ["_law_script","_law_thing_here","_law_found"] ["_law_script"] (zAC (top 17)):=fsc
section
variable{P:qEq}{w:World}{K:qA0}{mg:Str->Option Value}{base:Heap}
structure Bd(K:qA0)(mg:Str->Option Value):Prop where
 d0:Def K mg "_law_due" (top 16)
 d1:Def K mg "_law_cell" (top 11)
 d2:Def K mg "_law_spoilt" (top 14)
 d3:Def K mg "_law_table" (top 12)
 d4:Def K mg "_law_thing" (top 15)
 d5:Def K mg "columns_of" (top 9)
 d6:Def K mg "is_whole" (top 1)
 d7:Def K mg "is_nought_or_one" (top 8)
 d8:Def K mg "is_row" (top 7)
 d9:Def K mg "is_square" (top 6)
 d10:Def K mg "is_table" (top 4)
 d11:Def K mg "is_web" (top 5)
 e0:mg "all" = none
 e1:mg "any" = none
 e2:mg "bool" = none
 e3:mg "int" = none
 e4:mg "isinstance" = none
 e5:mg "len" = none
 e6:mg "list" = none
 e7:mg "max" = none
 e8:mg "min" = none
 e9:mg "range" = none
 e10:mg "tuple" = none
structure Bn(P:qEq)(w:World)(K:qA0)(mg:Str->Option Value)(base:Heap):Type where
 S:Bd K mg
 wF:Value
 c_MOST_ROWS:RelV (V.int 10) wF/\mg "MOST_ROWS" = some wF
variable(B:Bn P w K mg base)
include B
theorem zE9:Has P w K mg base "_law_due" 1 ["_law_thing_here","_law_free"] (sp0 K mg 0 zAS):=by
 letI:Kc:=⟨K⟩;exact dfM B.S.d0 wE (fun _ _ _ _ _ _=>uw2 fun _ _=>rfl) fun hr hu h=>⟨_,(zAF (zC9 (pt_w (zLV (zFT (pt_m (zAG zAX rfl B.S.e4 qEw (zA1 (pn 0) (zA1 (zCA (v:=.ty "list") rfl B.S.e6 qGx rfl) zA8))))) (zI8 (zCK u_gt (zAG (zCG (K:=K)) rfl B.S.e5 qF6 (zA1 (pn 0) zA8)) zAD (zB1 _))))) (zAH (zB9 zE7)) zB3)
   (zAF (zGM qFx rfl (zE6 (K:=K) (pn 0)) (zF3 (i:=2) wE.nd rfl oi) (zAF (zC9 (pt_w (zLV (zFT (pt_m (zAG zAX rfl B.S.e4 qEw (zA1 (pn 2) (zA1 (zCA (v:=.ty "list") rfl B.S.e6 qGx rfl) zA8))))) (zI8 (zCK (u_ne hu) (zAG (zCG (K:=K)) rfl B.S.e5 qF6 (zA1 (pn 2) zA8)) (zAG (zCG (K:=K)) rfl B.S.e5 qF6 (zA1 (pn 0) zA8)) (zB1 _))))) (zAH (zB9 zE7)) zB3)
   (zAF (zC9 (zFT (pt_m (zAG (zIP rfl) rfl B.S.e0 qGo (zA1 (zB4 rfl (cn ["0","1","2","3","_law_one"] 1 (by kernel_rfl)) (zE6 (K:=K) (pn 2)) (fun _ _ _ _=>(pgn 4)) (fun _ _ _ _=>zB2) (fun _ _ _ _=>(zEN (zAG zAX rfl B.S.e4 qEw (zA1 (pn 4) (zA1 (zCA (v:=.ty "int") rfl B.S.e3 boot_int rfl) zA8))) (zDA (zNV (zAG zAX rfl B.S.e4 qEw (zA1 (pn 4) (zA1 (zCA (v:=.ty "bool") rfl B.S.e2 boot_bool rfl) zA8)))))))) zA8)))) (zAH (zB9 zE7)) zB3)
   (zAH (zC9 (pt_m (zAG (zOA rfl) rfl B.S.e1 boot_any (zA1 (zB4 rfl (cn ["0","1","2","3","_law_one"] 1 (by kernel_rfl)) (zE6 (K:=K) (pn 2)) (fun _ _ _ _=>(pgn 4)) (fun _ _ _ _=>zB2) (fun _ _ _ _=>(zPF (zC5 u_lt (pn 4) zAD (zB1 _)) (zDA (zC5 u_gt (pn 4) zAD (zB1 _)))))) zA8))) (zAH (zB9 zE7)) zB3)))))
   (zAF (zGM qFx rfl (zAT rfl B.S.e9 (zA1 (zAG (zCG (K:=K)) rfl B.S.e5 qF6 (zA1 (pn 0) zA8)) zA8)) (zF3 (i:=3) wE.nd rfl oi) (zAF (zC9 (pt_m (zAG (zOA rfl) rfl B.S.e1 boot_any (zA1 (zB4 rfl (cn ["_law_thing_here","1","2","_law_i","_law_j"] 1 (by kernel_rfl)) (zAT rfl B.S.e9 (zA1 (pn 3) zA8)) (fun _ _ _ _=>(pgn 4)) (fun _ _ _ _=>zB2) (fun _ _ _ _=>(zC5 (u_ne hu) (zBL (zBK (K:=K)) (zBL (zBK (K:=K)) (pn 0) (pn 3) (fun _ _=>rfl)) (pn 4) (fun _ _=>rfl)) (zBL (zBK (K:=K)) (zBL (zBK (K:=K)) (pn 0) (pn 4) (fun _ _=>rfl)) (pn 3) (fun _ _=>rfl)) (zB1 _)))) zA8))) (zAH (zB9 zE7)) zB3)
   (zAH (zC9 (pt_w (zKV (zFT (pt_m (pn 1))) (zI9 (zCK (u_eq hu) (zBL (zBK (K:=K)) (zBL (zBK (K:=K)) (pn 0) (pn 3) (fun _ _=>rfl)) (pn 3) (fun _ _=>rfl)) zAD (zB1 _))))) (zAH (zB9 zE7)) zB3))))
   (zAH (zB9 zE7))))),(zCF (zAO (zCC (zMI (zG0 (dt_m (dz (zJB (by decide) (de_v 0))))) (dt_b (dz (zAE zCI (dz (zBP zCH (zA3 (de_v 0) zAA))) (dz zAB))))) (zBG (n:=0) [] zEI) zBI)
   (zAO (zOM [0] (zEE (de_v 0)) (zAY 2) (zAO (zCC (zMI (zG0 (dt_m (dz (zEH (by decide) (de_v 2))))) (dt_b (dz (zAE zLR (dz (zBP zCH (zA3 (de_v 2) zAA))) (dz (zBP zCH (zA3 (de_v 0) zAA))))))) (zBG (n:=0) [] zEI) zBI)
   (zAO (zCC (zG0 (dt_m (dz (zBP zG3 (zA3 (zAM (zB5 (n:=0) (zEE (de_v 2)) (zAY 4) zBH (zCY (dz (zEH (by decide) (de_v 4))) (zL9 (dz (zEH (by decide) (de_v 4))))))) zAA))))) (zBG (n:=0) [] zEI) zBI)
   (zCC (dt_m (dz (zBP zLF (zA3 (zAM (zB5 (n:=0) (zEE (de_v 2)) (zAY 4) zBH (zPY (dz (zAE zCI (de_v 4) (dz zAB))) (zAE zCI (de_v 4) (dz zAB))))) zAA)))) (zBG (n:=0) [] zEI) zBI))))
   (zAO (zJ5 (zD8 (zA3 (zBP zCH (zA3 (de_v 0) zAA)) zAA)) (zAO (zCC (dt_m (dz (zBP zLF (zA3 (zAM (zB5 (n:=0) (zD8 (zA3 (de_v 3) zAA)) (zAY 4) zBH (zAE zLR (zAE zC3 (zAE zC3 (de_v 0) (de_v 3)) (de_v 4)) (zAE zC3 (zAE zC3 (de_v 0) (de_v 4)) (de_v 3))))) zAA)))) (zBG (n:=0) [] zEI) zBI)
   (zCC (zL7 (zG0 (dt_m (de_v 1))) (dt_b (dz (zAE zD6 (zAE zC3 (zAE zC3 (de_v 0) (de_v 3)) (de_v 3)) (dz zAB))))) (zBG (n:=0) [] zEI) zBI)))
   (zBG (n:=0) [] zEI)))) h)⟩
theorem zAW:Has P w K mg base "_law_cell" 1 ["_law_script","_law_k"] (sp0 K mg 1 zA9):=by
 letI:Kc:=⟨K⟩;exact dfM B.S.d1 wC (fun _ _ _ _ _ _=>uw2 fun _ _=>rfl) fun hr hu h=>⟨_,(zAF (pst 2 wC.nd zAD)
   (zAF (zC9 (zCK u_lt (pn 1) (zAG (zCG (K:=K)) rfl B.S.e5 qF6 (zA1 (pn 0) zA8)) (zB1 _)) (zAH (pst 2 wC.nd (zBL (zBK (K:=K)) (pn 0) (pn 1) (fun _ _=>rfl)))) zB3)
   (zAF (pst 3 wC.nd (zAZ zD4 (zAZ zES (zAZ zEL (zAZ zD4 (pn 2) zAD) (zAZ zES zAD (zAZ zEL (pn 1) zAD))) zAD) zAD))
   (zAH (zB9 (zAZ zEL (zAZ zES (zAZ zDQ (pn 2) zAD) zAD) (zAZ zD4 (zAZ zES (pn 3) zAD) zAD))))))),(zCF (zAO (zBJ (n:=0) [] zAB)
   (zAO (zCC (dt_b (dz (zAE zCI (de_v 1) (dz (zBP zCH (zA3 (de_v 0) zAA)))))) (zBJ (n:=0) [0,1] (zAE zC3 (de_v 0) (de_v 1))) zBI)
   (zAO (zBJ (n:=0) [2,1] (zAE zBU (dz (zAE zEU (zAE zCU (dz (zAE zBU (de_v 2) (dz zAB))) (dz (zAE zEU (dz zAB) (zAE zCU (de_v 1) (dz zAB))))) (dz zAB))) (dz zAB)))
   (zBG (n:=1) [2,3] (zAE zCU (dz (zAE zEU (dz (zAE zDS (de_v 2) (dz zAB))) (dz zAB))) (dz (zAE zBU (dz (zAE zEU (de_v 3) (dz zAB))) (dz zAB)))))))) h)⟩
theorem zEO:Has P w K mg base "_law_spoilt" 1 ["_law_table_here","_law_cell_here"] (spC0 K mg 3 0 zB6):=by
 letI:Kc:=⟨K⟩;exact dfC B.S.d2 wB (fun _ _ _ _ _ _=>uw2 fun _ _=>rfl) fun hr hu h=>⟨_,(zAF (pst 2 wB.nd (zAG (zCG (K:=K)) rfl B.S.e5 qF6 (zA1 (pn 0) zA8)))
   (zAF (pst 3 wB.nd (zAZ zD4 (pn 1) zAD))
   (zAF (pst 4 wB.nd (zAZ zD4 (zAZ zDQ (pn 1) zAD) (pn 2)))
   (zAF (pst 5 wB.nd (zAZ zD4 (zAZ zDQ (pn 1) zAD) (pn 2)))
   (zAF (zC9 (zCK u_lt (pn 3) zAD (zB1 _)) (zAH (zH4 (zBL (zBK (K:=K)) (zFU (zA1 zAD (zA1 (zPE zP3 zAD) (zA1 zE7 (zA1 zKX (zA1 zKW (zA1 (zFU (zA1 zAD zA8)) zA8))))))) (pn 3) (fun _ _=>rfl)) (zH5 (zBL (zBK (K:=K)) (pn 0) (pn 4) (fun _ _=>rfl)) (pn 5) zJN))) zB3)
   (zAF (zC9 (pt_w (zKV (zCK (u_eq hu) (pn 3) zAD (zB1 _)) (zI9 (zCK (u_ne hu) (pn 4) (pn 5) (zB1 _))))) (zAH (zH4 (zAZ zN1 zAD (zBL (zBK (K:=K)) (zBL (zBK (K:=K)) (pn 0) (pn 4) (fun _ _=>rfl)) (pn 5) (fun _ _=>rfl))) (zH5 (zBL (zBK (K:=K)) (pn 0) (pn 4) (fun _ _=>rfl)) (pn 5) zJN))) zB3)
   (zAF (zC9 (zCK (u_eq hu) (pn 3) zAD (zB1 _)) (zAH (zF2 (zLY qB7 qCb qCc zIH (zBL (zBK (K:=K)) (pn 0) (pn 4) (fun _ _=>rfl)) (zA1 zAD zA8)))) zB3)
   (zAF (zC9 (zCK (u_eq hu) (pn 3) zAD (zB1 _)) (zAH (zF2 (zNW qB7 qCp qCq zIF (zBL (zBK (K:=K)) (pn 0) (pn 4) (fun _ _=>rfl))))) zB3)
   (zAF (zC9 (zCK (u_eq hu) (pn 3) zAD (zB1 _)) (zAH (zH4 (zFV (zO9 (K:=K)) rfl B.S.e10 boot_tuple (zA1 (zBL (zBK (K:=K)) (pn 0) (pn 4) (fun _ _=>rfl)) zA8)) (zH5 (pn 0) (pn 4) zJN))) zB3)
   (zAF (zC9 (zCK (u_eq hu) (pn 3) zAD (zB1 _)) (zAH (zF2 (zLY qB7 qCp qCq zIF (pn 0) (zA1 (pn 4) zA8)))) zB3)
   (zAF (zC9 (zCK (u_eq hu) (pn 3) zAD (zB1 _)) (zAH (zF2 (zLY qB7 qCb qCc zIH (pn 0) (zA1 (zB4 rfl (cn ["0","1","2","3","4","5","_law_row"] 1 (by kernel_rfl)) (zAT rfl B.S.e9 (zA1 (zAZ zEL (pn 2) zAD) zA8)) (fun _ _ _ _=>(pgn 6)) (fun _ _ _ _=>zB2) (fun _ _ _ _=>zAD)) zA8)))) zB3)
   (zAH (zB9 (pn 0)))))))))))))),(zLP (zAO (zBJ (n:=0) [0] (zBP zCH (zA3 (de_v 0) zAA)))
   (zAO (zBJ (n:=0) [1] (zAE zBU (de_v 1) (dz zAB)))
   (zAO (zBJ (n:=0) [2,1] (zAE zBU (dz (zAE zDS (de_v 1) (dz zAB))) (de_v 2)))
   (zAO (zBJ (n:=0) [2,1] (zAE zBU (dz (zAE zDS (de_v 1) (dz zAB))) (de_v 2)))
   (zAO (zCC (dt_b (dz (zAE zCI (de_v 3) (dz zAB)))) (zFB 0 (n:=1) (de_v 4) (de_v 5) (zOR (n:=1) (zDU (n:=1) (zA3 zAB (zA3 (zPX zNF (dz zAB)) (zA3 zEI (zA3 zLA (zA3 zJA (zA3 (zDU (n:=0) (zA3 zAB zAA)) zAA))))))) (de_v 3))) zBI)
   (zAO (zCC (zL7 (dt_b (dz (zAE zD6 (de_v 3) (dz zAB)))) (dt_b (dz (zAE zLR (de_v 4) (de_v 5))))) (zFB 0 (n:=0) (de_v 4) (de_v 5) (zAE zKU (dz zAB) (zAE zC3 (zAE zC3 (de_v 0) (de_v 4)) (de_v 5)))) zBI)
   (zAO (zCC (dt_b (dz (zAE zD6 (de_v 3) (dz zAB)))) (zMO 0 (de_v 4) (dz zAB)) zBI)
   (zAO (zCC (dt_b (dz (zAE zD6 (de_v 3) (dz zAB)))) (zMM 0 (de_v 4)) zBI)
   (zAO (zCC (dt_b (dz (zAE zD6 (de_v 3) (dz zAB)))) (zMN 0 (n:=1) (de_v 4) (zBP zOU (zA3 (zAE zC3 (de_v 0) (de_v 4)) zAA))) zBI)
   (zAO (zCC (dt_b (dz (zAE zD6 (de_v 3) (dz zAB)))) (zML 0 (de_v 4)) zBI)
   (zAO (zCC (dt_b (dz (zAE zD6 (de_v 3) (dz zAB)))) (zON 0 (n:=1) (zB5 (n:=0) (zD8 (zA3 (zAM (zAE zCU (de_v 2) (dz zAB))) zAA)) (zAY 6) zBH zAB)) zBI)
   (zJ4 0)))))))))))) h)⟩
theorem zF5:Has P w K mg base "_law_table" 2 ["_law_script","_law_at","_law_most"] (sp0 K mg 3 zBW):=by
 letI:Kc:=⟨K⟩;exact dfM B.S.d3 wA (fun _ _ _ _ _ _=>uw3 fun _ _ _=>rfl) fun hr hu h=>⟨_,(zAF (pst 3 wA.nd (zAZ zD4 (zBV (zAW B) (by decide) hr rfl (zA1 (pn 0) (zA1 (pn 1) zA8))) (zAZ zEL (pn 2) zAD)))
   (zAF (pst 4 wA.nd (zAG (zG5 rfl) rfl B.S.e7 boot_max (zA1 zAD (zA1 (zAZ zN1 (pn 3) (zAZ zD4 (zAZ zDQ (zBV (zAW B) (by decide) hr rfl (zA1 (pn 0) (zA1 (pn 1) zA8))) zAD) zAD)) zA8))))
   (zAF (pst 5 wA.nd (zB4 rfl (cn ["_law_script","_law_at","2","3","_law_kinds","5","6","7","8","9","_law_k"] 1 (by kernel_rfl)) (zAT rfl B.S.e9 (zA1 (pn 3) zA8)) (fun _ _ _ _=>(pgn 10)) (fun _ _ _ _=>zB2) (fun _ _ _ _=>(zAZ zD4 (zAZ zDQ (zBV (zAW B) (by decide) hr rfl (zA1 (pn 0) (zA1 (zAZ zEL (pn 1) zAD) zA8))) (zAZ zEL (pn 10) zAD)) (pn 4)))))
   (zAF (zC9 (zCK u_gt (zAZ zD4 (zAZ zDQ (zBV (zAW B) (by decide) hr rfl (zA1 (pn 0) (zA1 (pn 1) zA8))) zAD) zAD) zAD (zB1 _)) (zAH (pst 5 wA.nd (zB4 rfl (cn ["0","1","2","3","_law_kinds","5","6","7","8","9","_law_k"] 1 (by kernel_rfl)) (zAT rfl B.S.e9 (zA1 (pn 3) zA8)) (fun _ _ _ _=>(pgn 10)) (fun _ _ _ _=>zB2) (fun _ _ _ _=>(zAZ zD4 (pn 10) (pn 4)))))) zB3)
   (zAF (pst 6 wA.nd (zB4 rfl (cn ["_law_script","_law_at","2","3","4","5","6","7","8","9","_law_i"] 1 (by kernel_rfl)) (zAT rfl B.S.e9 (zA1 (pn 4) zA8)) (fun _ _ _ _=>(pgn 10)) (fun _ _ _ _=>zB2) (fun _ _ _ _=>(zBV (zAW B) (by decide) hr rfl (zA1 (pn 0) (zA1 (zAZ zEL (zAZ zEL (pn 1) zAD) (pn 10)) zA8))))))
   (zAF (pst 7 wA.nd (zC5 u_gt (zAZ zD4 (zAZ zDQ (zBV (zAW B) (by decide) hr rfl (zA1 (pn 0) (zA1 (pn 1) zA8))) zAD) zAD) zAD (zB1 _)))
   (zAF (pst 8 wA.nd (zB4 rfl (cn ["0","1","2","3","_law_kinds","5","_law_bits","7","8","9","_law_i"] 1 (by kernel_rfl)) (zAT rfl B.S.e9 (zA1 (pn 4) zA8)) (fun _ _ _ _=>(pgn 10)) (fun _ _ _ _=>zB2) (fun _ _ _ _=>(zB4 rfl (cn ["0","1","2","3","4","5","_law_bits","7","8","9","_law_i","_law_j"] 1 (by kernel_rfl)) (zAT rfl B.S.e9 (zA1 (pn 4) zA8)) (fun _ _ _ _=>(pgn 11)) (fun _ _ _ _=>zB2) (fun _ _ _ _=>(zAZ zD4 (zAZ zDQ (zBL (zBK (K:=K)) (pn 6) (zAG (zG5 rfl) rfl B.S.e7 boot_max (zA1 (pn 10) (zA1 (pn 11) zA8))) (fun _ _=>rfl)) (zAZ zEL (zAZ zES (zAG (zG4 rfl) rfl B.S.e8 boot_min (zA1 (pn 10) (zA1 (pn 11) zA8))) (zAG (zG4 rfl) rfl B.S.e8 boot_min (zA1 (pn 10) (zA1 (pn 11) zA8)))) zAD)) zAD))))))
   (zAF (zGM qFx rfl (zAT rfl B.S.e9 (zA1 (pn 4) zA8)) (zF3 (i:=9) wA.nd rfl oi) (zAH (zH4 (zAZ zES (zBL (zBK (K:=K)) (zBL (zBK (K:=K)) (pn 8) (pn 9) (fun _ _=>rfl)) (pn 9) (fun _ _=>rfl)) (zFV zJF rfl B.S.e3 boot_int (zA1 (pn 7) zA8))) (zH5 (zBL (zBK (K:=K)) (pn 8) (pn 9) (fun _ _=>rfl)) (pn 9) zJN))))
   (zAH (zB9 (zB4 rfl (cn ["0","1","2","_law_size","4","_law_kind","6","7","_law_rows","9","_law_i"] 1 (by kernel_rfl)) (zAT rfl B.S.e9 (zA1 (pn 3) zA8)) (fun _ _ _ _=>(pgn 10)) (fun _ _ _ _=>zB2) (fun _ _ _ _=>(zB4 rfl (cn ["0","1","2","3","4","_law_kind","6","7","_law_rows","9","_law_i","_law_j"] 1 (by kernel_rfl)) (zAT rfl B.S.e9 (zA1 (pn 3) zA8)) (fun _ _ _ _=>(pgn 11)) (fun _ _ _ _=>zB2) (fun _ _ _ _=>(zBL (zBK (K:=K)) (zBL (zBK (K:=K)) (pn 8) (zBL (zBK (K:=K)) (pn 5) (pn 10) (fun _ _=>rfl)) (fun _ _=>rfl)) (zBL (zBK (K:=K)) (pn 5) (pn 11) (fun _ _=>rfl)) (fun _ _=>rfl)))))))))))))))),(zCF (zAO (zBJ (n:=0) [0,1,2] (zAE zBU (zAV (zA3 (de_v 0) (zA3 (de_v 1) zAA))) (zAE zCU (de_v 2) (dz zAB))))
   (zAO (zBJ (n:=0) [3,0,1] (zBP zLE (zA3 zAB (zA3 (zAE zKU (de_v 3) (dz (zAE zBU (dz (zAE zDS (zAV (zA3 (de_v 0) (zA3 (de_v 1) zAA))) (dz zAB))) (dz zAB)))) zAA))))
   (zAO (zBJ (n:=1) [4,3,0,1] (zB5 (n:=0) (zD8 (zA3 (de_v 3) zAA)) (zAY 10) zBH (zAE zBU (dz (zAE zDS (zAV (zA3 (de_v 0) (zA3 (zAM (zAE zCU (de_v 1) (dz zAB))) zAA))) (zAE zCU (de_v 10) (dz zAB)))) (de_v 4))))
   (zAO (zCC (dt_b (dz (zAE zCI (dz (zAE zBU (dz (zAE zDS (zAV (zA3 (de_v 0) (zA3 (de_v 1) zAA))) (dz zAB))) (dz zAB))) (dz zAB)))) (zBJ (n:=1) [4,3] (zB5 (n:=0) (zD8 (zA3 (de_v 3) zAA)) (zAY 10) zBH (zAE zBU (de_v 10) (de_v 4)))) zBI)
   (zAO (zBJ (n:=2) [0,9,4,1] (zB5 (n:=1) (zD8 (zA3 (de_v 4) zAA)) (zAY 10) zBH (zAV (zA3 (de_v 0) (zA3 (zAM (zAE zCU (zAE zCU (de_v 1) (dz zAB)) (de_v 10))) zAA)))))
   (zAO (zBJ (n:=0) [0,1] (zAE zCI (dz (zAE zBU (dz (zAE zDS (zAV (zA3 (de_v 0) (zA3 (de_v 1) zAA))) (dz zAB))) (dz zAB))) (dz zAB)))
   (zAO (zBJ (n:=2) [9,4,6] (zB5 (n:=1) (zD8 (zA3 (de_v 4) zAA)) (zAY 10) zBH (zB5 (n:=0) (zD8 (zA3 (de_v 4) zAA)) (zAY 11) zBH (zAE zBU (dz (zAE zDS (zAE zC3 (de_v 6) (dz (zBP zLE (zA3 (de_v 10) (zA3 (de_v 11) zAA))))) (zAE zCU (dz (zAE zEU (dz (zBP zLD (zA3 (de_v 10) (zA3 (de_v 11) zAA)))) (dz (zBP zLD (zA3 (de_v 10) (zA3 (de_v 11) zAA)))))) (dz zAB)))) (dz zAB)))))
   (zAO (zJ5 (zD8 (zA3 (de_v 4) zAA)) (zFB 8 (n:=0) (de_v 9) (de_v 9) (zAE zEU (zAE zC3 (zAE zC3 (de_v 8) (de_v 9)) (de_v 9)) (dz (zBP zOV (zA3 (de_v 7) zAA))))))
   (zBG (n:=2) [9,3,8,5] (zB5 (n:=1) (zD8 (zA3 (de_v 3) zAA)) (zAY 10) zBH (zB5 (n:=0) (zD8 (zA3 (de_v 3) zAA)) (zAY 11) zBH (zAE zC3 (zAE zC3 (de_v 8) (zAE zC3 (de_v 5) (de_v 10))) (zAE zC3 (de_v 5) (de_v 11)))))))))))))) h)⟩
theorem zDC:Has P w K mg base "_law_thing" 3 ["_law_script"] (sp0 K mg 0 zBF):=by
 letI:Kc:=⟨K⟩;exact dfM B.S.d4 wD (fun _ _ _ _ _ _=>uw1 fun _=>rfl) fun hr hu h=>zME (zDF ⟨(pst 1 wD.nd (zBV (zF5 B) (by decide) hr rfl (zA1 (pn 0) (zA1 zAD (zA1 zAD zA8)))))⟩
   (zDF ⟨(pst 2 wD.nd (zAZ zD4 (zBV (zAW B) (by decide) hr rfl (zA1 (pn 0) (zA1 zAD zA8))) zAD))⟩
   (zDF (zOL (zCK (u_eq hu) (pn 2) zAD (zB1 _)) (zJ3 (zMJ (zOS (zBK (K:=K)) (zFC (zCD zMR (zCD zFD (zCD zJ9 (zCD zJ9 (zKD (zMQ zEJ) (zKE zKB (zFE (zFC (zCD zFD zEJ)) (zFE (zFC (zFE (zFC (zCD zFD zEJ)) (zCD zFD zEJ))) zEJ))))))))) ⟨(zAZ zD4 (zBV (zAW B) (by decide) hr rfl (zA1 (pn 0) (zA1 zAD zA8))) zAD)⟩ (fun _ _=>rfl)))) zB3)
   (zDF ⟨(zC9 (zCK (u_eq hu) (pn 2) zAD (zB1 _)) (zAH (zB9 (zB4 rfl (cn ["0","1","2","_law_i"] 1 (by kernel_rfl)) (zAT rfl B.S.e9 (zA1 zAD zA8)) (fun _ _ _ _=>(pgn 3)) (fun _ _ _ _=>zB2) (fun _ _ _ _=>(zB4 rfl (cn ["0","1","2","3","_law_j"] 1 (by kernel_rfl)) (zAT rfl B.S.e9 (zA1 zAD zA8)) (fun _ _ _ _=>(pgn 4)) (fun _ _ _ _=>zB2) (fun _ _ _ _=>zAD)))))) zB3)⟩
   (zDF ⟨(zC9 (pt_w (zLV (zCK u_lt (pn 2) zAD (zB1 _)) (zI8 (zCK (u_eq hu) (zAG (zCG (K:=K)) rfl B.S.e5 qF6 (zA1 (pn 1) zA8)) zAD (zB1 _))))) (zAH (zB9 (pn 1))) zB3)⟩
   (zJ3 ⟨(zB9 (zBV (zEO B) (by decide) hr rfl (zA1 (pn 1) (zA1 (zBV (zAW B) (by decide) hr rfl (zA1 (pn 0) (zA1 zAD zA8))) zA8))))⟩)))))) (zCF (zAO (zBJ (n:=3) [0] (zAV (zA3 (de_v 0) (zA3 zAB (zA3 zAB zAA)))))
   (zAO (zBJ (n:=0) [0] (zAE zBU (zAV (zA3 (de_v 0) (zA3 zAB zAA))) (dz zAB)))
   (zAO (zCC (dt_b (dz (zAE zD6 (de_v 2) (dz zAB)))) (zBG (n:=0) [0] (zAE zC3 (zDU (n:=0) (zA3 zLA (zA3 zAB (zA3 zJA (zA3 zJA (zA3 (zAM (zOQ (n:=8) zAA)) (zA3 (zAM zMS) (zA3 (zAM (zDU (n:=0) (zA3 zAB zAA))) (zA3 (zAM (zDU (n:=1) (zA3 (zDU (n:=0) (zA3 zAB zAA)) (zA3 zAB zAA)))) zAA))))))))) (dz (zAE zBU (zAV (zA3 (de_v 0) (zA3 zAB zAA))) (dz zAB))))) zBI)
   (zAO (zCC (dt_b (dz (zAE zD6 (de_v 2) (dz zAB)))) (zBG (n:=0) [] (zAM (zB5 (n:=1) (zD8 (zA3 zAB zAA)) (zAY 3) zBH (zB5 (n:=0) (zD8 (zA3 zAB zAA)) (zAY 4) zBH zAB)))) zBI)
   (zAO (zCC (zMI (dt_b (dz (zAE zCI (de_v 2) (dz zAB)))) (dt_b (dz (zAE zD6 (dz (zBP zCH (zA3 (de_v 1) zAA))) (dz zAB))))) (zJ4 1) zBI)
   (zMK (k:=3) 1 (zA3 (zAM (zAV (zA3 (de_v 0) (zA3 zAB zAA)))) zAA))))))) h)
theorem zF4:Has P w K mg base "columns_of" 1 ["rows"] (sp0 K mg 2 zBZ):=by
 letI:Kc:=⟨K⟩;exact dfM B.S.d5 zGH (fun _ _ _ _ _ _=>uw1 fun _=>rfl) fun hr hu h=>⟨_,(zAH (zB9 (zB4 rfl (cn ["rows","j"] 1 (by kernel_rfl)) (zAT rfl B.S.e9 (zA1 (zAG (zCG (K:=K)) rfl B.S.e5 qF6 (zA1 (pn 0) zA8)) zA8)) (fun _ _ _ _=>(pgn 1)) (fun _ _ _ _=>zB2) (fun _ _ _ _=>(zB4 rfl (cn ["0","j","row"] 1 (by kernel_rfl)) (zE6 (K:=K) (pn 0)) (fun _ _ _ _=>(pgn 2)) (fun _ _ _ _=>zB2) (fun _ _ _ _=>(zBL (zBK (K:=K)) (pn 2) (pn 1) (fun _ _=>rfl)))))))),(zCF (zBG (n:=2) [0] (zB5 (n:=1) (zD8 (zA3 (zBP zCH (zA3 (de_v 0) zAA)) zAA)) (zAY 1) zBH (zB5 (n:=0) (zEE (de_v 0)) (zAY 2) zBH (zAE zC3 (de_v 2) (de_v 1))))) h)⟩
theorem zGN:Has P w K mg base "is_whole" 1 ["thing"] (sp0 K mg 0 zCL):=by
 letI:Kc:=⟨K⟩;exact dfM B.S.d6 zHV (fun _ _ _ _ _ _=>uw1 fun _=>rfl) fun hr hu h=>⟨_,(zAH (zB9 (zEN (zAG zAX rfl B.S.e4 qEw (zA1 (pn 0) (zA1 (zCA (v:=.ty "int") rfl B.S.e3 boot_int rfl) zA8))) (zDA (zNV (zAG zAX rfl B.S.e4 qEw (zA1 (pn 0) (zA1 (zCA (v:=.ty "bool") rfl B.S.e2 boot_bool rfl) zA8)))))))),(zCF (zBG (n:=0) [0] (zCY (dz (zEH (by decide) (de_v 0))) (zL9 (dz (zEH (by decide) (de_v 0)))))) h)⟩
theorem zD7:Has P w K mg base "is_nought_or_one" 2 ["thing"] (sp0 K mg 0 zB8):=by
 letI:Kc:=⟨K⟩;exact dfM B.S.d7 zDI (fun _ _ _ _ _ _=>uw1 fun _=>rfl) fun hr hu h=>⟨_,(zAH (zB9 (zEN (zBV (zGN B) (by decide) hr rfl (zA1 (pn 0) zA8)) (zDA (zNX u_le u_le zAD (pn 0) zAD))))),(zCF (zBG (n:=0) [0] (zCY (zAV (zA3 (de_v 0) zAA)) (zKC zCI zCI (dz zAB) (de_v 0) (dz zAB)))) h)⟩
theorem zID:Has P w K mg base "is_row" 3 ["thing","many"] (sp0 K mg 0 zF7):=by
 letI:Kc:=⟨K⟩;exact dfM B.S.d8 zKM (fun _ _ _ _ _ _=>uw2 fun _ _=>rfl) fun hr hu h=>⟨_,(zAH (zB9 (zEN (zAG zAX rfl B.S.e4 qEw (zA1 (pn 0) (zA1 (zCA (v:=.ty "list") rfl B.S.e6 qGx rfl) zA8))) (zEN (zC5 (u_eq hu) (zAG (zCG (K:=K)) rfl B.S.e5 qF6 (zA1 (pn 0) zA8)) (pn 1) (zB1 _)) (zDA (zAG (zIP rfl) rfl B.S.e0 qGo (zA1 (zB4 rfl (cn ["0","1","number"] 1 (by kernel_rfl)) (zE6 (K:=K) (pn 0)) (fun _ _ _ _=>(pgn 2)) (fun _ _ _ _=>zB2) (fun _ _ _ _=>(zBV (zD7 B) (by decide) hr rfl (zA1 (pn 2) zA8)))) zA8))))))),(zCF (zBG (n:=0) [0,1] (zCY (dz (zEH (by decide) (de_v 0))) (zCY (dz (zAE zD6 (dz (zBP zCH (zA3 (de_v 0) zAA))) (de_v 1))) (zBP zG3 (zA3 (zAM (zB5 (n:=0) (zEE (de_v 0)) (zAY 2) zBH (zAV (zA3 (de_v 2) zAA)))) zAA))))) h)⟩
theorem zFW:Has P w K mg base "is_square" 4 ["thing"] (sp0 K mg 0 zC6):=by
 letI:Kc:=⟨K⟩;exact dfM B.S.d9 zH0 (fun _ _ _ _ _ _=>uw1 fun _=>rfl) fun hr hu h=>⟨_,(zAH (zB9 (zEN (zAG zAX rfl B.S.e4 qEw (zA1 (pn 0) (zA1 (zCA (v:=.ty "list") rfl B.S.e6 qGx rfl) zA8))) (zEN (zC5 u_le (zAG (zCG (K:=K)) rfl B.S.e5 qF6 (zA1 (pn 0) zA8)) (zLZ rfl B.c_MOST_ROWS.2 B.c_MOST_ROWS.1) (zB1 _)) (zDA (zAG (zIP rfl) rfl B.S.e0 qGo (zA1 (zB4 rfl (cn ["thing","row"] 1 (by kernel_rfl)) (zE6 (K:=K) (pn 0)) (fun _ _ _ _=>(pgn 1)) (fun _ _ _ _=>zB2) (fun _ _ _ _=>(zBV (zID B) (by decide) hr rfl (zA1 (pn 1) (zA1 (zAG (zCG (K:=K)) rfl B.S.e5 qF6 (zA1 (pn 0) zA8)) zA8))))) zA8))))))),(zCF (zBG (n:=0) [0] (zCY (dz (zJB (by decide) (de_v 0))) (zCY (dz (zAE zCI (dz (zBP zCH (zA3 (de_v 0) zAA))) (dz zAB))) (zBP zG3 (zA3 (zAM (zB5 (n:=0) (zEE (de_v 0)) (zAY 1) zBH (zAV (zA3 (de_v 1) (zA3 (zBP zCH (zA3 (de_v 0) zAA)) zAA))))) zAA))))) h)⟩
theorem zE8:Has P w K mg base "is_table" 5 ["thing"] (sp0 K mg 0 zAR):=by
 letI:Kc:=⟨K⟩;exact dfM B.S.d10 zHW (fun _ _ _ _ _ _=>uw1 fun _=>rfl) fun hr hu h=>⟨_,(zAH (zB9 (zEN (zBV (zFW B) (by decide) hr rfl (zA1 (pn 0) zA8)) (zDA (zC5 (u_eq hu) (pn 0) (zBV (zF4 B) (by decide) hr rfl (zA1 (pn 0) zA8)) (zB1 _)))))),(zCF (zBG (n:=0) [0] (zCY (zAV (zA3 (de_v 0) zAA)) (zAE zD6 (de_v 0) (zAV (zA3 (de_v 0) zAA))))) h)⟩
theorem zIC:Has P w K mg base "is_web" 6 ["thing"] (sp0 K mg 0 zBM):=by
 letI:Kc:=⟨K⟩;exact dfM B.S.d11 zKL (fun _ _ _ _ _ _=>uw1 fun _=>rfl) fun hr hu h=>⟨_,(zAH (zB9 (zEN (zBV (zE8 B) (by decide) hr rfl (zA1 (pn 0) zA8)) (zDA (zAG (zIP rfl) rfl B.S.e0 qGo (zA1 (zB4 rfl (cn ["thing","i"] 1 (by kernel_rfl)) (zAT rfl B.S.e9 (zA1 (zAG (zCG (K:=K)) rfl B.S.e5 qF6 (zA1 (pn 0) zA8)) zA8)) (fun _ _ _ _=>(pgn 1)) (fun _ _ _ _=>zB2) (fun _ _ _ _=>(zC5 (u_eq hu) (zBL (zBK (K:=K)) (zBL (zBK (K:=K)) (pn 0) (pn 1) (fun _ _=>rfl)) (pn 1) (fun _ _=>rfl)) zAD (zB1 _)))) zA8)))))),(zCF (zBG (n:=0) [0] (zCY (zAV (zA3 (de_v 0) zAA)) (zBP zG3 (zA3 (zAM (zB5 (n:=0) (zD8 (zA3 (zBP zCH (zA3 (de_v 0) zAA)) zAA)) (zAY 1) zBH (zAE zD6 (zAE zC3 (zAE zC3 (de_v 0) (de_v 1)) (de_v 1)) (dz zAB)))) zAA)))) h)⟩
theorem zO5{f:Addr}{fd:qEx}(F:Fun K "law" "law" (top 17) f fd):FnOk P w K mg base CX0 7 f fd ["_law_script"] (zET K):=by
 letI:Kc:=⟨K⟩;refine(F.ok wG (sp:=sp0 K mg 0 zEA) (fun vs H Q E h=>zI6 h) (fun cdv A outer s H vs Q E hr h=>?_)).imp (zK3 zK2);have hu:=hr.units;exact⟨_,(zAF (pst 1 wG.nd (zBV (zDC B) (by decide) hr rfl (zA1 (pn 0) zA8)))
   (zAF (pst 2 wG.nd (zFU (zA1 (zBV (zE8 B) (by decide) hr rfl (zA1 (pn 1) zA8)) (zA1 (zBV (zIC B) (by decide) hr rfl (zA1 (pn 1) zA8)) zA8))))
   (zAF (zC9 (zFT (pt_m (zAG (zIP rfl) rfl B.S.e0 qGo (zA1 (zB4 rfl (cn ["0","1","2","_law_word"] 1 (by kernel_rfl)) (zE6 (K:=K) (pn 2)) (fun _ _ _ _=>(pgn 3)) (fun _ _ _ _=>zB2) (fun _ _ _ _=>(zAG zAX rfl B.S.e4 qEw (zA1 (pn 3) (zA1 (zCA (v:=.ty "bool") rfl B.S.e2 boot_bool rfl) zA8))))) zA8)))) (zAH (zB9 zE7)) zB3)
   (zAH (zB9 (zEN (zC5 (u_eq hu) (pn 2) (zFU (zA1 (zBV (zE9 B) (by decide) hr rfl (zA1 (pn 1) (zA1 zE7 zA8))) (zA1 (zBV (zE9 B) (by decide) hr rfl (zA1 (pn 1) (zA1 zE7 zA8))) zA8))) (zB1 _)) (zDA (zC5 (zP4 hu) (pn 1) (zBV (zDC B) (by decide) hr rfl (zA1 (pn 0) zA8)) rfl)))))))),(zCF (zAO (zBJ (n:=0) [0] (zAV (zA3 (de_v 0) zAA)))
   (zAO (zBJ (n:=1) [1] (zDU (n:=0) (zA3 (zAV (zA3 (de_v 1) zAA)) (zA3 (zAV (zA3 (de_v 1) zAA)) zAA))))
   (zAO (zCC (zG0 (dt_m (dz (zBP zG3 (zA3 (zAM (zB5 (n:=0) (zEE (de_v 2)) (zAY 3) zBH (zEH (by decide) (de_v 3)))) zAA))))) (zBG (n:=0) [] zEI) zBI)
   (zBG (n:=0) [2,1,0] (zCY (dz (zAE zD6 (de_v 2) (zDU (n:=0) (zA3 (zAV (zA3 (de_v 1) (zA3 zEI zAA))) (zA3 (zAV (zA3 (de_v 1) (zA3 zEI zAA))) zAA))))) (zAE zNG (de_v 1) (zAV (zA3 (de_v 0) zAA)))))))) h)⟩
end
theorem all_mk{l:qC0}{w:World}{K:qA0}{h:Heap}{mg:Str->Option Value}{fa f12:Addr}(X:K.In h)(G:h.Ns qEu mg)(hfa:mg "law" = some (.ref fa))
  {od12 an12:Option Addr} {sl12:Array (Option Value)} {oc12 kV12 dc12 pm12 cd12 ct12:Value} {t0:Tok}
  (S:Bd K mg)
  (a12:qBc K qEu "law" = some (some (.ref f12)))
  (l12:K.lookup f12=some ⟨oc12,od12,.func (qAt "law" "law" (zBO (top 17)) (zBD (top 17)) (zAC (top 17)) .none kV12 dc12 pm12 an12 cd12 ct12),sl12⟩)
  (c12:qB9 K cd12 "law" = true)
  (k12:qB1 K (.ref f12)=true)
  (y0:qBc K qEu "MOST_ROWS" = some (some (.int 10 t0)))
  :∃fd:qEx,(∀(s:qEo)(v:Value),qGe s fd ⟨[v],[]⟩ [("_law_script",v)])/\∀base:Heap,K.In base->base.Ns qEu mg->FnOk l.prog w K mg base CX0 7 fa fd ["_law_script"] (zET K):=by
 have e:=hfa.symm.trans (qCd X G a12);cases e;have c_MOST_ROWS:RelV (V.int 10) (.int 10 t0)/\mg "MOST_ROWS" = some (.int 10 t0):=⟨⟨_,rfl⟩,qCd X G y0⟩;refine⟨qAt "law" "law" (zBO (top 17)) (zBD (top 17)) (zAC (top 17)) .none kV12 dc12 pm12 an12 cd12 ct12,fun s v=>.of_eq rfl,fun base _ _=>?_⟩;exact zO5 ⟨S,_,c_MOST_ROWS⟩ (zL4 (st:=(top 17)) l12 c12 k12)
theorem walk{l:qC0}{q:qEq}{loose:List Str}{XP:(Str->Option Value)->Heap->Prop}{d:DefRec}{K:Params->qA0}{YP:World->Heap->Prop}(hn:l.most=some 63)(hdf:d.params.defaults=[])(hY:∀(w:World) (h:Heap),YP w h->(K w.params).In h)
  (F:∀(w:World)(mg:Str->Option Value)(fa:Addr)(h:Heap),(K w.params).In h->h.Ns qEu mg->mg d.name=some (.ref fa) ->
   TbE (K w.params) []/\∃fd:qEx,(∀(s:qEo)(u:Value),qGe s fd ⟨[u],[]⟩ [("_law_script",u)])/\∀base:Heap,(K w.params).In base->base.Ns qEu mg->FnOk l.prog w (K w.params) mg base CX0 7 fa fd ["_law_script"] (zET (K w.params))) :
  qCz q loose XP YP l.row.toRowW d [] (fun f vs=>qD5 f vs):=
 L3.walk_of0 (n:=63) (k:=7) (x:="_law_script") hn (by decide) hdf ⟨rfl,by decide,by decide⟩ hY F
end Q23
open PySem PySem.W PyProof.Rows
set_option maxRecDepth 100000 in
set_option maxHeartbeats 0 in
theorem PySem.Challenge.cw_fourway_k23_what_is_a_table_holds : PySem.Challenge.rw_fourway_k23_what_is_a_table.Holds := by
 refine hdZ.2 ?_;dsimp only[hdZ]
 k_fill
 refine Q23.walk (l:=qB3) rfl rfl (fun w h Y=>PySem.W.kIn_of Y) ?F
 case F=>
  intro w mg fa h KX G hmg;have T:L3.Tb (L2.KOf KX) [] none none none:=by
   dsimp only[L2.KOf];exact⟨L3.mk1_none (by k_is),L3.mk1_none (by k_is),L3.mk1_none (by k_is)⟩
  refine' ⟨⟨_,_,_,T⟩,Q23.all_mk KX G hmg (by constructor<;>first|exact L3.mkD KX G (by k_is) (by k_is) (by k_is) (by k_is)|exact PySem.W.mg_none_of KX G (by k_is)|exact L2.mkDD KX G (by k_is) (by k_is) (by k_is) (by k_is) (by k_is) (by rfl)) (by k_is) (by k_is) (by k_is) (by k_is) (by k_is)⟩
