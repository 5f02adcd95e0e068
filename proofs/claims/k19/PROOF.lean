import PyProof.Rows.All
import Wide.All
import OpenK.AllK
import Wide.FinOn
import Lean
import PyProof.EqAt
import PyProof.EqKinds
import PyProof.TupleCall
import PyProof.NeKinds
import PySem.Challenge.RW_fourway_k19_whole_word_read_again
set_option Elab.async false
set_option linter.all false
set_option maxRecDepth 100000
open Array renaming getElem?_eq_some_iff->qBr,getElem?_toList->qDr,getElem?_eq_getElem->qEc,length_toList->qFi,toList->qG4
open Bool renaming false_ne_true->qAe,and_eq_true->qBp,and_false->qD0,eq_iff_iff->qE1,and_true->qEm,or_eq_true->qF3,or_true->qF4
open Char renaming toNat->qHu
open Classical renaming propDecidable->qA3,axiomOfChoice->qBz,choose_spec->qDt,byContradiction->qEe,choose->qEu
open Eq renaming trans->qGg
open False renaming elim->qA7
open ForInStep renaming yield->qCo
open Function renaming comp->qFs
open Int renaming toNat_natCast->qCs,emod_lt_of_pos->qDd,emod_nonneg->qE6,fdiv_eq_ediv_of_nonneg->qE7,mul_one->qHq
open List renaming getD_eq_getElem?_getD->qA0,getElem?_eq_getElem->qA1,getElem?_eq_some_iff->qA4,replicate->qA5,range->qA6,getElem?_append_left->qA8,getElem?_append_right->qA9,getElem?_map->qAb,size_toArray->qAd,length_map->qAg,getElem?_set_self->qAh,getElem?_set_ne->qAi,mem_cons->qAk,idxOf_lt_length_of_mem->qAl,mem_map->qAm,map_cons->qAn,getElem?_cons_zero->qAp,mem_range->qAt,map_map->qAu,flatten_cons->qAv,mem_cons_of_mem->qAy,mem_append_right->qAz,nodup_cons->qB1,length_append->qB2,getElem?_cons_succ->qB3,drop_eq_getElem_cons->qB4,length_cons->qB6,replicate_succ->qB7,map_congr_left->qB8,getElem?_range->qB9,mem_append->qBa,eq_nil_of_length_eq_zero->qBb,getElem_range->qBc,take_succ_eq_append_getElem->qBd,map_append->qBg,nodup_range->qBh,mem_append_left->qBi,mem_cons_self->qBj,append_assoc->qBl,getElem?_replicate->qBm,length_take->qBo,lookup_cons->qBq,count_append->qBs,range_succ->qBu,take_append_drop->qBw,contains_cons->qBx,mem_filter->qC2,length_set->qC3,length_replicate->qC4,mem_singleton->qC6,mem_take_iff_getElem->qCa,append_nil->qCc,getElem?_take_of_lt->qCd,find?_cons->qCe,length_erase_of_mem->qCh,length_pos_of_mem->qCm,getElem_idxOf->qCn,any_cons->qCr,foldl_append->qCt,idxOf_append->qCu,length_range->qCv,mem_of_getElem?->qCx,mem_erase_of_ne->qCy,take_length->qD1,mem_flatten->qD2,getElem_mem->qD3,ext_getElem->qD4,filterMap_cons->qD5,getElem_of_mem->qD7,foldl_cons->qDa,idxOf_cons->qDb,count_eq_zero->qDc,range_succ_eq_map->qDh,eraseIdxIfInBounds_toArray->qDj,nodup_append->qDl,drop_zero->qDm,length_singleton->qDq,getElem_map->qDw,length_eraseIdx->qDx,of_mem_zip->qE2,lookup->qE3,mergeSort_perm->qE5,map_set->qE9,count_pos_iff->qEa,extract_eq_drop_take->qEd,length->qEi,all_cons->qEj,filter_cons_of_neg->qEo,filter_cons_of_pos->qEp,all_eq_true->qEq,any_eq_true->qEr,cons_append->qEs,drop_length->qEt,take_of_length_le->qEx,not_of_lt_findIdx->qEy,map_nil->qF0,forIn_cons->qF2,perm_append_comm->qF7,singleton_append->qF9,reverse_reverse->qFe,count_cons_self->qFf,range_eq_range'->qFg,take_succ_cons->qFk,range'->qFl,mem_filterMap->qFn,filterMap_map->qFp,find?_eq_none->qFq,map_singleton->qFr,take_sublist->qFv,take_add_one->qFy,reverse_cons->qFz,filter_congr->qG0,count->qG1,countP_congr->qG2,pairwise_map->qG3,filter_cons->qGb,range'_succ->qGf,nil_append->qGj,length_nil->qGk,countP_map->qGq,count_cons->qGs,nodup_nil->qH3,mergeSort->qH5,foldl->qHi,map_id->qHr,Nodup->qHw,merge->qHx,take->qHz,cons->qI0
open List.MergeSort.Internal renaming splitInTwo->qD9
open List.Nodup renaming count->qHy
open List.Pairwise renaming imp_of_mem->qEh,nil->qFw
open List.Perm renaming refl->qDn,append_left->qDu,trans->qGr
open List.Sublist renaming count_le->qHp
open Nat renaming le_refl->qAa,zero_le->qAc,lt_of_lt_of_le->qAf,le_trans->qAo,ne_of_lt->qAr,mod_eq_of_lt->qAs,mod_lt->qBt,zero_add->qBv,le_succ->qBy,ne_of_gt->qC0,lt_of_le_of_lt->qC5,lt_trichotomy->qCf,add_mod_right->qCg,lt_irrefl->qCj,le_of_lt->qD8,le_antisymm->qE4,le_of_eq->qF1,mod_self->qF6,xor_self->qF8,eq_zero_or_pos->qFt,lt_succ_of_lt->qFx,succ_mul->qG5,min_self->qG6,zero_xor->qG8,succ_le_succ->qGa,le_add_right->qGc,lt_succ_self->qGd,le_zero->qGo,strongRecOn->qGp,mul_le_mul->qH4,xor_assoc->qHm,lt_or_ge->qHo,sub_le->qHv
open Nat.succ renaming inj->qG7
open Ne renaming symm->qD6
open Option renaming map_some->qBn,map_none->qCi,map_eq_some_iff->qDg,isSome_map->qDk,getD_some->qDv,isSome_iff_exists->qEg,none->qFj,isSome_some->qFo,getD_none->qG9
open Option.some renaming inj->qBe,injEq->qHt
open Or renaming inr->qHj,inl->qHn
open Prod renaming fst->qHs
open PyProof renaming noPylong_small->qEv
open PyProof.Rows renaming callWith_type1->qBf,callWith_builtin1->qDp,envOfC->qFm
open PySem renaming mem_of_lookup->qCk,call->qHk
open PySem.Challenge renaming rw_fourway_k19_whole_word_read_again->qC1,pw_fourway_k19_whole_word_read_again->qE0
open PySem.EqMixed renaming eq_bool_str->qGw,eq_str_bool->qGx,ne_bool_str->qH1,ne_str_bool->qH2,eq_int_str->qH9,eq_str_int->qHb,ne_int_str->qHf,ne_str_int->qHh
open PySem.EqNone renaming eq_none_none->qGt,eq_none_bool->qGu,eq_bool_none->qGv,ne_none_none->qGy,ne_none_bool->qGz,ne_bool_none->qH0,eq_none_int->qH6,eq_none_str->qH7,eq_int_none->qH8,eq_str_none->qHa,ne_none_int->qHc,ne_none_str->qHd,ne_int_none->qHe,ne_str_none->qHg
open PySem.F renaming plainAttrs_list->qAq,slot_list_append->qAw,type_list_append->qAx,plainAttrs_str->qB5,slot_str_find->qC8,type_str_find->qC9,slot_str_join->qCp,type_str_join->qCq,excBase_ValueError->qCw,slot_dict_get->qDs,args_dict_get_3->qEk,plainAttrs_dict->qEl,entry_dict_get->qEw,slot_list_pop->qFa,type_list_pop->qFb
open PySem.W renaming Frag->qA2,findIn->qAj,keepIn->qB0,fnOf->qBk,nsIn->qC7,specialIn->qCb,mg_of->qCl,codeIn->qCz,subIn->qDe,cellsFrom_some->qDf,hasDictIn->qDi,isFn->qDo,mroIn->qDy,clsIn->qDz,callWith_K->qE8,methodObj->qEf,Looks->qEn,takesIn->qEz,OpenLaw->qF5,looks_findIn->qFd,typeIn->qFh,handedIn->qGe,instObj->qGh,makesIn->qGi,readsIn->qGl,findCls->qGm,takerIn->qGn,WalkO->qHl
open Sum renaming inl->qEb,inr->qFu
open True renaming intro->qFc
set_option compiler.extract_closed false
set_option genSizeOf false
set_option genSizeOfSpec false
set_option bootstrap.genMatcherCode false
noncomputable section
namespace L2
open PySem PySem.Spec PyProof.Rows
abbrev Key:=Sum Int Str
noncomputable def zP4:Key->Value->Bool
 |.inl k,v=>Value.isInt k v
 |.inr x,v=>Value.isStrOf x v
noncomputable def keyH(w:World):Key->Int
 |.inl k=>hashInt k
 |.inr x=>hashStr w x
theorem zB7:∀{k:Key}{v:Value},zP4 k v=true->(∃i t,k=qEb i/\v=Value.int i t)\/(∃x t,k=qFu x/\v=Value.str x t)
 |.inl i,v,h=>by
  obtain⟨t,e⟩:=Value.isInt_shape (k:=i) (v:=v) h;exact .inl ⟨i,t,rfl,e⟩
 |.inr x,v,h=>by
  obtain⟨t,e⟩:=Value.isStrOf_shape (x:=x) (v:=v) h;exact .inr ⟨x,t,rfl,e⟩
theorem zRB(i:Int)(t:Tok):zP4 (.inl i) (.int i t)=true:=by simp[zP4,Value.isInt]
theorem zRA(x:Str)(t:Tok):zP4 (.inr x) (.str x t)=true:=by simp[zP4,Value.isStrOf]
theorem zZO(a b:Int):decide ((qEb a:Key)=qEb b)=(a==b):=by
 by_cases e:a=b
 ·subst e;simp
 ·have h:¬(qEb a:Key)=qEb b:=fun q=>e (Sum.inl.inj q)
  rw[decide_eq_false h];exact(beq_eq_false_iff_ne.mpr e).symm
theorem zZL(a b:Str):decide ((qFu a:Key)=qFu b)=decide (a=b):=by
 by_cases e:a=b
 ·subst e;simp
 ·have h:¬(qFu a:Key)=qFu b:=fun q=>e (Sum.inr.inj q)
  rw[decide_eq_false h,decide_eq_false e]
theorem zZN(a:Int)(b:Str):decide ((qEb a:Key)=qFu b)=false:=decide_eq_false (fun q=>nomatch q)
theorem zZM(a:Str)(b:Int):decide ((qFu a:Key)=qEb b)=false:=decide_eq_false (fun q=>nomatch q)
def zBN(prog:Program)(w:World):PySem.KeyKind prog w Key where
 is:=zP4
 hash:=keyH w
 inj:=fun v a b ha hb=>by
  rcases zB7 ha with⟨i,t,rfl,rfl⟩|⟨x,t,rfl,rfl⟩
  ·rcases zB7 hb with⟨j,u,rfl,e⟩|⟨y,u,rfl,e⟩
   ·injection e with e1 _;rw[e1]
   ·exact nomatch e
  ·rcases zB7 hb with⟨j,u,rfl,e⟩|⟨y,u,rfl,e⟩
   ·exact nomatch e
   ·injection e with e1 _;rw[e1]
 byValue:=fun k v h=>by
  rcases zB7 h with⟨i,t,rfl,rfl⟩|⟨x,t,rfl,rfl⟩<;>rfl
 pyHash:=fun hv h=>by
  rcases zB7 hv with⟨i,t,rfl,rfl⟩|⟨x,t,rfl,rfl⟩
  ·exact wpAny_pyHash_int h
  ·exact wpAny_pyHash_str h
 eqBool:=fun hu hv h=>by
  rcases zB7 hu with⟨i,t,rfl,rfl⟩|⟨x,t,rfl,rfl⟩
  ·rcases zB7 hv with⟨j,u,rfl,rfl⟩|⟨y,u,rfl,rfl⟩
   ·rw[zZO]at h;exact wpAny_eqBool_int h
   ·rw[zZN]at h;exact SeqAt.EqAt.int_str i t y u _ _ _ _ h
  ·rcases zB7 hv with⟨j,u,rfl,rfl⟩|⟨y,u,rfl,rfl⟩
   ·rw[zZM]at h;exact SeqAt.EqAt.str_int x t j u _ _ _ _ h
   ·rw[zZL]at h;exact wpAny_eqBool_str h
 «strs»:=fun k x t v h=>by
  rcases zB7 h with⟨i,u,rfl,e⟩|⟨y,u,rfl,e⟩
  ·exact nomatch e
  ·injection e with e1 _
   subst e1;cases v<;>rfl
theorem zMD(prog:Program)(w:World)(i:Int)(t:Tok):(zBN prog w).is (.inl i) (.int i t)=true:=zRB i t
theorem zMC(prog:Program)(w:World)(x:Str)(t:Tok):(zBN prog w).is (.inr x) (.str x t)=true:=zRA x t
inductive V where
 |non|bl (b:Bool)|int (i:Int)|str (x:Str)|byt (b:Array UInt8)|flt (b:UInt64)|ref (a:Addr)|ty (n:String)
 deriving DecidableEq
noncomputable def RelV:V->Value->Prop
 |.non,u=>u=Value.none
 |.bl b,u=>u=Value.bool b
 |.int i,u=>∃t,u=Value.int i t
 |.str x,u=>∃t,u=Value.str x t
 |.byt b,u=>∃t,u=Value.bytes b t
 |.flt b,u=>∃t,u=Value.float b t
 |.ref a,u=>u=Value.ref a
 |.ty n,u=>u=Value.type n
abbrev Vals:List V->List Value->Prop:=Paired RelV
theorem Vals.length{xs:List V}{us:List Value}(r:Vals xs us):xs.length=us.length:=Paired.length r
theorem Vals.get:∀{xs:List V}{us:List Value}{i:Nat}{x:V},Vals xs us->xs[i]?=some x->∃u,us[i]?=some u/\RelV x u
 |_,_,_,_,.nil,e=>by simp at e
 |_,_,0,_,.cons r _,e=>by simp at e;subst e;exact⟨_,rfl,r⟩
 |_,_,i+1,x,.cons _ t,e=>by
  obtain⟨u,h1,h2⟩:=Vals.get (i:=i) (x:=x) t (by simpa using e);exact⟨u,by simpa using h1,h2⟩
theorem Vals.set{x:V}{u:Value}(r:RelV x u):∀{xs:List V}{us:List Value}(i:Nat),Vals xs us->Vals (xs.set i x) (us.set i u)
 |_,_,_,.nil=>.nil
 |_,_,0,.cons _ t=>.cons r t
 |_,_,i+1,.cons q t=>.cons q (Vals.set r i t)
theorem Vals.append:∀{xs ys:List V}{us ws:List Value},Vals xs us->Vals ys ws->Vals (xs++ys) (us++ws)
 |_,_,_,_,.nil,s=>s
 |_,_,_,_,.cons r t,s=>.cons r (Vals.append t s)
theorem Vals.take:∀{xs:List V}{us:List Value}(n:Nat),Vals xs us->Vals (xs.take n) (us.take n)
 |_,_,0,_=>.nil
 |_,_,_+1,.nil=>.nil
 |_,_,n+1,.cons r t=>.cons r (Vals.take n t)
theorem Vals.drop:∀{xs:List V}{us:List Value}(n:Nat),Vals xs us->Vals (xs.drop n) (us.drop n)
 |_,_,0,r=>r
 |_,_,_+1,.nil=>.nil
 |_,_,n+1,.cons _ t=>Vals.drop n t
def RelO:Option V->Option Value->Prop
 |some v,some u=>RelV v u
 |none,none=>True
 |_,_=>False
def KV{κ:Type}:List (κ×V)->List (κ×Value)->Prop:=Paired fun(p:κ×V)(q:κ×Value)=>p.1=q.1/\RelV p.2 q.2
noncomputable def kV:Key->V
 |.inl i=>.int i
 |.inr x=>.str x
inductive HO where
 |lst (xs:List V)
 |tup (xs:List V)
 |dK (kvs:List (Key×V))|dT (kvs:List (List Key×V))
 |set (S:Int->Bool) (n:Nat)
 |ins (C dx:Addr) (fs:List (Str×V))
 |own (x:Addr)
 |xd (fs:List (Str×V))
 |met (f x:Addr)
 |rng (lo hi:Int)
 |frz (o:Obj) (u:HO)
 |tbl (ps:Array Value)
 |ext (φ:Heap->Prop)
abbrev Hp:=Addr->Option HO
noncomputable def upd(H:Hp)(a:Addr)(o:HO):Hp:=fun b=>if b=a then some o else H b
theorem zAI{H:Hp}{a:Addr}{o:HO}:upd H a o a=some o:=by unfold upd;rw[if_pos rfl]
theorem zAJ{H:Hp}{a b:Addr}{o:HO}(h:b≠a):upd H a o b=H b:=by unfold upd;rw[if_neg h]
theorem zWS{H:Hp}{a b:Addr}{o u:HO}(h:H a=some o)(h':H b=some u)(d:o≠u):a≠b:=by
 intro e;subst e;rw[h]at h';exact d (qBe h')
theorem zAO{H:Hp}{a b:Addr}{o:HO}(h:H a=some o)(h':H b=none):a≠b:=by
 intro e;subst e;rw[h]at h';cases h'
section
variable(P:Program)(w:World)
def ObjOk(H:Hp)(h:Heap)(a:Addr):HO->Prop
 |.lst xs=>xs.length<=sizeLine/\∃(its:List Value)(n:Nat),Vals xs its/\h.get? a=some { cls:=.type "list",data:=.seq its.toArray n }
 |.tup xs=>xs.length<=sizeLine/\∃its:List Value,Vals xs its/\IsTup h a its.toArray
 |.dK kvs=>kvs.length<=sizeLine/\(a==sysModules)=false/\∃vs,KV kvs vs/\h.DictOf (zBN P w) a vs
 |.dT kvs=>kvs.length<=sizeLine/\(a==sysModules)=false/\∃xs:List (List Key×Addr×Value),
   Paired (fun(p:List Key×V)(q:List Key×Addr×Value)=>p.1=q.1/\H q.2.1=some (.tup (p.1.map kV))/\RelV p.2 q.2.2) kvs xs /\
   ∃o es ep,h.get? a=some o/\o.ExactDict/\o.data=.dict es ep/\es.toList=xs.map (entryOfKey (tupleKind (zBN P w)))/\(xs.map (·.1)).Nodup
 |.set S n=>h.SetOf (intKind P w) a S n
 |.ins C dx fs=>H dx=some (.own a)/\fs.length<=1000/\dx≠a/\h.get? a=some (qGh C dx) /\
   ∃mA,h.Ns1 dx mA/\(∀f,RelO (fs.lookup f) (mA f))/\PySem.Within mA (fs.map (·.1))
 |.own _=>∃o,h.get? a=some o
 |.xd fs=>∃mA,h.Ns1 a mA/\∀f,RelO (fs.lookup f) (mA f)
 |.rng lo hi=>∃t u v,h.get? a=some { cls:=.type "range",data:=.fields #[.int lo t,.int hi u,.int 1 v] }
 |.frz o u=>h.get? a=some o/\ObjOk H h a u
 |.tbl ps=>h.get? a=some { cls:=.none,data:=.fields ps }
 |.met f x=>h.get? a=some (qEf (.ref f) (.ref x))
 |.ext φ=>φ h/\(∃o,h.get? a=some o)/\∀h1 h2:Heap,φ h1->(∀o,h1.get? a=some o->h2.get? a=some o)->φ h2
def HOk(H:Hp)(h:Heap):Prop:=∀a o,H a=some o->ObjOk P w H h a o
end
section
variable{P:Program}{w:World}{H H':Hp}{h h':Heap}{a:Addr}{o:HO}
theorem ObjOk.lt(x:ObjOk P w H h a o):a<h.objs.size:=by
 cases o with
 |lst xs=>obtain⟨_,_,_,_,e⟩:=x;exact Heap.lt_size e
 |tup xs=>obtain⟨_,_,_,p⟩:=x;exact p.lt
 |dK kvs=>obtain⟨_,_,_,_,o,_,_,e,_⟩:=x;exact Heap.lt_size e
 |dT kvs=>obtain⟨_,_,_,_,o,_,_,e,_⟩:=x;exact Heap.lt_size e
 |set S n=>obtain⟨o,_,_,_,e,_⟩:=x;exact Heap.lt_size e
 |ins C dx fs=>obtain⟨_,_,_,e,_⟩:=x;exact Heap.lt_size e
 |own y=>obtain⟨_,e⟩:=x;exact Heap.lt_size e
 |xd fs=>obtain⟨_,⟨_,_,_,e,_⟩,_⟩:=x;exact Heap.lt_size e
 |rng lo hi=>obtain⟨_,_,_,e⟩:=x;exact Heap.lt_size e
 |frz ob u=>obtain⟨e,_⟩:=x;exact Heap.lt_size e
 |tbl ps=>exact Heap.lt_size (show h.get? a=some _ from x)
 |met f y=>exact Heap.lt_size (show h.get? a=some _ from x)
 |ext φ=>obtain⟨_,⟨_,e⟩,_⟩:=x;exact Heap.lt_size e
theorem Paired.mapP{α β:Type}{F G:α->β->Prop}:∀{l₁:List α}{l₂:List β},Paired F l₁ l₂->(∀a b,F a b->G a b)->Paired G l₁ l₂
 |_,_,.nil,_=>.nil
 |_,_,.cons r t,f=>.cons (f _ _ r) (Paired.mapP t f)
theorem ObjOk.stay(x:ObjOk P w H h a o)(k:∀b u,(b=a\/H b=some (.own a))->h.get? b=some u->h'.get? b=some u)
  (ho:∀b,H b=some (.own a)->H' b=some (.own a)) (ht:∀b xs,H b=some (.tup xs)->H' b=some (.tup xs)):ObjOk P w H' h' a o:=by
 induction o with
 |lst xs=>obtain⟨z,its,n,r,e⟩:=x;exact⟨z,its,n,r,k _ _ (.inl rfl) e⟩
 |tup xs=>obtain⟨z,its,r,ob,e,c⟩:=x;exact⟨z,its,r,ob,k _ _ (.inl rfl) e,c⟩
 |dK kvs=>obtain⟨z,y,vs,r,ob,es,ep,e,c⟩:=x;exact⟨z,y,vs,r,ob,es,ep,k _ _ (.inl rfl) e,c⟩
 |dT kvs=>
  obtain⟨z,y,xs,r,ob,es,ep,e,c⟩:=x;exact⟨z,y,xs,Paired.mapP r fun p q z=>⟨z.1,ht _ _ z.2.1,z.2.2⟩,ob,es,ep,k _ _ (.inl rfl) e,c⟩
 |set S n=>obtain⟨ob,es,ep,t,e,c⟩:=x;exact⟨ob,es,ep,t,k _ _ (.inl rfl) e,c⟩
 |ins C dx fs=>
  obtain⟨d,z,ne,e,mA,⟨od,es,ep,e2,c⟩,r⟩:=x;exact⟨ho _ d,z,ne,k _ _ (.inl rfl) e,mA,⟨od,es,ep,k _ _ (.inr d) e2,c⟩,r⟩
 |own y=>obtain⟨ob,e⟩:=x;exact⟨ob,k _ _ (.inl rfl) e⟩
 |xd fs=>obtain⟨mA,⟨od,es,ep,e,c⟩,r⟩:=x;exact⟨mA,⟨od,es,ep,k _ _ (.inl rfl) e,c⟩,r⟩
 |rng lo hi=>obtain⟨t,u,v,e⟩:=x;exact⟨t,u,v,k _ _ (.inl rfl) e⟩
 |frz ob u ih=>obtain⟨e,q⟩:=x;exact⟨k _ _ (.inl rfl) e,ih q⟩
 |tbl ps=>
  have e:h.get? a=some { cls:=.none,data:=.fields ps }:=x;show h'.get? a=some { cls:=.none,data:=.fields ps };exact k a _ (.inl rfl) e
 |met f y=>
  have e:h.get? a=some (qEf (.ref f) (.ref y)):=x;show h'.get? a=some (qEf (.ref f) (.ref y));exact k a _ (.inl rfl) e
 |ext φ=>obtain⟨p,⟨o,e⟩,st⟩:=x;exact⟨st _ _ p fun o q=>k _ _ (.inl rfl) q,⟨o,k _ _ (.inl rfl) e⟩,st⟩
theorem HOk.lt(x:HOk P w H h)(e:H a=some o):a<h.objs.size:=(x a o e).lt
theorem HOk.fresh(x:HOk P w H h)(e:h.objs.size<=a):H a=none:=by
 cases q:H a with
 |none=>rfl
 |some u=>exact absurd (qAf (x.lt q) e) (qCj _)
theorem HOk.kept(x:HOk P w H h)(k:∀b u,h.get? b=some u->h'.get? b=some u):HOk P w H h':=fun a o e=>
 (x a o e).stay (fun b u _ q=>k b u q) (fun _ q=>q) fun _ _ q=>q
theorem HOk.laid(x:HOk P w H h)(k:∀b u,h.get? b=some u->h'.get? b=some u)(hp:h.objs.size<=a)(new:ObjOk P w (upd H a o) h' a o):HOk P w (upd H a o) h':=fun b u e=>by
 have hn:=x.fresh hp
 by_cases hb:b=a
 ·subst hb;rw[zAI]at e;cases e;exact new
 ·rw[zAJ hb]at e;exact(x b u e).stay (fun c v _ q=>k c v q) (fun c q=>by rw[zAJ (zAO q hn)];exact q) fun c xs q=>by rw[zAJ (zAO q hn)];exact q
end
def Rd(H:Hp)(a:Addr)(u:HO):Prop:=H a=some u\/∃o,H a=some (.frz o u)
theorem Rd.ok{P:Program}{w:World}{H:Hp}{h:Heap}{a:Addr}{u:HO}(r:Rd H a u)(x:HOk P w H h):ObjOk P w H h a u:=by
 rcases r with r|⟨o,r⟩
 ·exact x a u r
 ·obtain⟨_,q⟩:=x a _ r;exact q
noncomputable def Mut:Option HO->Prop
 |some (.lst _)=>True
 |some (.dK _)=>True
 |some (.dT _)=>True
 |some (.set _ _)=>True
 |some (.ins _ _ _)=>True
 |some (.ext _)=>True
 |_=>False
section
variable{P:Program}{w:World}{H:Hp}{h h':Heap}{x e:Addr}{o':HO}
theorem HOk.write(ok:HOk P w H h)(mu:Mut (H x))(he:e=x\/H e=some (.own x))(k:∀b u,b≠e->h.get? b=some u->h'.get? b=some u)(heo:∃u,h'.get? e=some u)
  (new:ObjOk P w (upd H x o') h' x o'):HOk P w (upd H x o') h':=fun b u q=>by
 have nown:∀c y,H c=some (.own y)->c≠x:=fun c y r z=>by subst z;rw[r]at mu;exact mu
 have ntup:∀c xs,H c=some (.tup xs)->c≠x:=fun c xs r z=>by subst z;rw[r]at mu;exact mu
 by_cases hb:b=x
 ·subst hb;rw[zAI]at q;cases q;exact new
 ·rw[zAJ hb]at q
  by_cases hbe:b=e
  ·have q':H b=some (.own x):=by
    rcases he with z|z
    ·exact absurd (hbe.trans z) hb
    ·rw[hbe];exact z
   rw[q]at q';cases q';obtain⟨v,hv⟩:=heo;exact⟨v,by rw[hbe];exact hv⟩
  ·refine(ok b u q).stay (fun c v hc r=>k c v ?_ r) (fun c r=>by rw[zAJ (nown c b r)];exact r) fun c xs r=>by rw[zAJ (ntup c xs r)];exact r
   rcases hc with rfl|hc
   ·exact hbe
   ·rintro rfl
    rcases he with z|z
    ·exact nown c b hc z
    ·rw[hc]at z;cases z;exact hb rfl
end
structure Un(fs ex:List Addr)(H H':Hp)(h h':Heap):Prop where
 keep:∀b o,h.get? b=some o->H b=none->b∉fs->b∉ex->h'.get? b=some o
 slot:∀b o,h.get? b=some o->H b=none->b∈fs->b∉ex->∃sl,h'.get? b=some { o with slots:=sl }
 free:∀b o,h.get? b=some o->H b=none->b∉ex->H' b=none
 there:∀b o,h.get? b=some o->b∉ex->∃o',h'.get? b=some o'
 tups:∀b xs,H b=some (.tup xs)->H' b=some (.tup xs)
 frzs:∀b o u,H b=some (.frz o u)->H' b=some (.frz o u)
 tbls:∀b ps,H b=some (.tbl ps)->∃more,H' b=some (.tbl (ps++more))
section
variable{fs fs' ex ex':List Addr}{H H1 H2:Hp}{h h1 h2 h':Heap}{a x e:Addr}{o:HO}
theorem Un.any(u:Un fs ex H H1 h h1){b:Addr}{ob:Obj}(q:h.get? b=some ob)(n:H b=none)(hx:b∉ex):∃sl,h1.get? b=some { ob with slots:=sl }:=by
 by_cases hb:b∈fs
 ·exact u.slot b ob q n hb hx
 ·exact⟨ob.slots,u.keep b ob q n hb hx⟩
theorem Un.kept(k:∀b u,h.get? b=some u->h'.get? b=some u):Un fs ex H H h h':=
 ⟨fun b ob q _ _ _=>k b ob q,fun b ob q _ _ _=>⟨ob.slots,k b ob q⟩,fun _ _ _ n _=>n,fun b ob q _=>⟨ob,k b ob q⟩,fun _ _ q=>q,fun _ _ _ q=>q,fun _ ps q=>⟨#[],by rw[q];simp⟩⟩
theorem Un.refl:Un fs ex H H h h:=Un.kept fun _ _ q=>q
theorem Un.laid(k:∀b u,h.get? b=some u->h'.get? b=some u)(hp:h.objs.size<=a)(hn:H a=none):Un fs ex H (upd H a o) h h' where
 keep:=fun b u q _ _ _=>k b u q
 slot:=fun b u q _ _ _=>⟨u.slots,k b u q⟩
 free:=fun b u q n _=>by rw[zAJ (qAr (qAf (Heap.lt_size q) hp))];exact n
 there:=fun b u q _=>⟨u,k b u q⟩
 tups:=fun b xs q=>by rw[zAJ (zAO q hn)];exact q
 frzs:=fun b u xs q=>by rw[zAJ (zAO q hn)];exact q
 tbls:=fun b ps q=>⟨#[],by rw[zAJ (zAO q hn),q];simp⟩
theorem Un.write(mu:Mut (H x))(he:e=x\/H e=some (.own x))(k:∀b u,b≠e->h.get? b=some u->h'.get? b=some u)(heo:∃u,h'.get? e=some u):Un fs ex H (upd H x o) h h':=by
 have hx:∀b,H b=none->b≠x:=fun b n z=>by subst z;rw[n]at mu;exact mu
 have hb:∀b,H b=none->b≠e:=fun b n z=>by
  subst z
  rcases he with r|r
  ·exact hx b n r
  ·rw[n]at r;cases r
 have hm:∀b u,H b=some u->¬Mut (some u)->b≠x:=fun b u q nm z=>by subst z;rw[q]at mu;exact nm mu
 refine⟨fun b u q n _ _=>k b u (hb b n) q,fun b u q n _ _=>⟨u.slots,k b u (hb b n) q⟩,fun b u q n _=>by rw[zAJ (hx b n)];exact n,fun b u q _=>?_,
  fun b xs q=>by rw[zAJ (hm b _ q fun z=>z)];exact q,fun b u xs q=>by rw[zAJ (hm b _ q fun z=>z)];exact q,fun b ps q=>⟨#[],by rw[zAJ (hm b _ q fun z=>z),q];simp⟩⟩
 by_cases hbe:b=e
 ·subst hbe;exact heo
 ·exact⟨u,k b u hbe q⟩
end
noncomputable def trk(h:Heap)(H:Hp):List Addr:=(qA6 h.objs.size).filter fun a=>(H a).isSome
def hidT(h:Heap)(H:Hp):Heap:=PySem.W.hideAll h (trk h H)
theorem zRH(h:Heap)(H:Hp):(hidT h H).objs.size=h.objs.size:=PySem.W.hideAll_size _ _
theorem zTY{h:Heap}{H:Hp}{b:Addr}{o:Obj}(e:h.get? b=some o)(n:H b=none):(hidT h H).get? b=some o:=
 PySem.W.hideAll_get _ e fun hm=>by
  have q:(H b).isSome=true:=(qC2.mp hm).2;rw[n]at q;simp at q
theorem zWO{h:Heap}{H:Hp}{b:Addr}{o:Obj}(e:(hidT h H).get? b=some o):h.get? b=some o/\H b=none:=by
 have e':h.get? b=some o:=PySem.W.of_hideAll (trk h H) e;refine⟨e',?_⟩;cases q:H b with
 |none=>rfl
 |some x=>
  have hm:b∈trk h H:=qC2.mpr ⟨qAt.mpr (Heap.lt_size e'),by simp[q]⟩;have z:(hidT h H).get? b=none:=PySem.W.hideAll_none (trk h H) hm;rw[z]at e;cases e
noncomputable def zXL(g h:Heap)(L:Addr):List (Addr×Obj):=(qA6 h.objs.size).filterMap fun a=>if a=L\/(g.get? a).isSome=true then none else(h.get? a).map fun o=>(a,o)
def rest(g h:Heap)(L d:Addr):List (Addr×Obj):=(zXL g h L).filter fun p=>decide (p.1≠d)
end L2
namespace L2
open PySem PySem.Spec PyProof.Rows
structure Mod(K:qA2)(mg:Str->Option Value)(base:Heap):Prop where
 kin:K.In base
 glob:base.Ns mainGlobals mg
 blt:∃mb,base.Ns builtinsNs mb/\∀x:Str,x≠"__name__"->mb x=bootBuiltins x
 nolimit:base.NoLimit
structure Cx where
 prog:Program
 w:World
 K:qA2
 mg:Str->Option Value
 base:Heap
 A:Around
 N:List Str
 s₀:Shared
 H₀:Hp
 env:Env
 outer:List Env
 stack:List Env
 ex:List Addr
 fn:Str->Bool
 calm:Bool
 pn:List (Addr×Obj)
 xe:Value->Shared->Prop
noncomputable def frs(l:List Env):List Addr:=l.filterMap (·.frame)
abbrev Cx.fs(X:Cx):List Addr:=frs X.outer
def Vis(sc:Scope)(x:Str):Prop:=sc.names.lookup x=some .local\/sc.names.lookup x=some .cell\/sc.names.lookup x=some .free
def Loc(sc:Scope)(x:Str):Prop:=sc.names.lookup x=some .local\/sc.names.lookup x=some .cell
def Look(env:Env)(h:Heap)(m:Str->Option Value)(x:Str)(u:Value):Prop:=
 (env.kindOf x=some .local/\m x=some u)\/((env.kindOf x=some .cell\/env.kindOf x=some .free)/\∃c,env.cells.lookup x=some c/\h.IsCell c (some u))
structure Cx.Ok(X:Cx):Prop where
 mod:Mod X.K X.mg X.base
 kind:X.env.scope.kind=.function
 glob:X.env.globals=mainGlobals
 blt:X.env.builtins=builtinsNs
 above:X.s₀.heap.objs.size<=X.env.locals
 inj:∀x y c,X.env.cells.lookup x=some c->X.env.cells.lookup y=some c->x=y
 has:∀x,(X.env.kindOf x=some .cell\/X.env.kindOf x=some .free)->∃c,X.env.cells.lookup x=some c
 cab:∀x c,X.fn x=true->X.env.cells.lookup x=some c->X.s₀.heap.objs.size<=c
 hd:X.calm=true->X.A.handled=none
 frames:X.A.frames=some X.stack
 stk:X.stack=X.outer\/(X.stack=X.env::X.outer/\X.env.frame=some X.env.locals)
 exf:∀b∈X.ex,b≠X.env.locals/\∀x c,X.env.cells.lookup x=some c->c≠b
 bs:∀b o,X.base.get? b=some o->X.s₀.heap.get? b=some o/\X.H₀ b=none
 bsz:X.base.objs.size<=X.s₀.heap.objs.size
 noex:∀b o,X.base.get? b=some o->b∉X.ex
 exfs:∀b∈X.ex,b∉X.fs
 funs:X.s₀.heap.FunFrames X.base X.outer
 frf:∀b∈X.fs,X.H₀ b=none
structure Inv(X:Cx)(pins:List (Addr×Obj))(σ:List (Option V))(H:Hp)(s:Shared):Prop where
 ok:X.Ok
 os:s.os=X.s₀.os
 bare:AllBare s.gens
 base:Un X.fs X.ex X.H₀ H X.s₀.heap s.heap
 loc:∃m,s.heap.Ns X.env.locals m/\∀(i:Nat)(x:Str)(v:V),X.N[i]?=some x->σ[i]?=some (some v)->Vis X.env.scope x->∃u,RelV v u/\Look X.env s.heap m x u
 cell:∀x c,X.env.cells.lookup x=some c->∃v,s.heap.IsCell c v
 free:H X.env.locals=none
 freeC:∀x c,X.env.cells.lookup x=some c->H c=none
 pin:∀p∈X.pn++pins,s.heap.get? p.1=some p.2/\H p.1=none/\p.1≠X.env.locals/\p.1∉X.fs/\∀v,p.2.data≠.cell v
 hok:HOk X.prog X.w H s.heap
 len:σ.length=X.N.length
section
variable{X:Cx}{pins:List (Addr×Obj)}{σ:List (Option V)}{H H':Hp}{s:Shared}{h':Heap}
theorem Cx.Ok.nofr(ok:X.Ok){b:Addr}{o:Obj}(e:X.base.get? b=some o):b∉X.fs:=fun hb=>by
 have:=(ok.funs.mem hb).1
 rw[e]at this;cases this
theorem Inv.bs(I:Inv X pins σ H s):∀b o,X.base.get? b=some o->s.heap.get? b=some o/\H b=none:=fun b o e=>
 ⟨I.base.keep b o (I.ok.bs b o e).1 (I.ok.bs b o e).2 (I.ok.nofr e) (I.ok.noex b o e),I.base.free b o (I.ok.bs b o e).1 (I.ok.bs b o e).2 (I.ok.noex b o e)⟩
theorem Inv.bk(I:Inv X pins σ H s):∀b o,X.base.get? b=some o->s.heap.get? b=some o:=fun b o e=>(I.bs b o e).1
theorem Inv.mod(I:Inv X pins σ H s):Mod X.K X.mg X.base:=I.ok.mod
theorem Inv.kIn(I:Inv X pins σ H s):X.K.In s.heap:=I.ok.mod.kin.keeps I.bk
theorem Inv.fr(I:Inv X pins σ H s):∃m,Fr X.base X.env.locals s.heap m:=
 let⟨m,hn,_⟩:=I.loc
 ⟨m,hn,I.bk,qAo I.ok.bsz I.ok.above⟩
theorem Inv.lt(I:Inv X pins σ H s):X.env.locals<s.heap.objs.size:=let⟨_,hn,_⟩:=I.loc;hn.lt
theorem Inv.sz(I:Inv X pins σ H s):X.s₀.heap.objs.size<=s.heap.objs.size:=qAo I.ok.above (qD8 I.lt)
theorem Inv.nofs(I:Inv X pins σ H s){a:Addr}(h:s.heap.objs.size<=a):a∉X.fs:=fun hb=>by
 obtain⟨_,o,ho,_⟩:=I.ok.funs.mem hb;exact absurd (qAf (Heap.lt_size ho) (qAo I.sz h)) (qCj _)
theorem Inv.cne(I:Inv X pins σ H s):∀x c,X.env.cells.lookup x=some c->c≠X.env.locals:=fun x c e z=>by
 obtain⟨v,o,ho,hd⟩:=I.cell x c e;obtain⟨m,⟨o',es,ep,ho',hd',_⟩,_⟩:=I.loc;rw[z,ho']at ho;cases ho;rw[hd']at hd;cases hd
theorem Inv.funs(I:Inv X pins σ H s):s.heap.FunFrames X.base X.outer:=by
 have all:∀(l:List Env),(∀b∈frs l,b∈X.fs)->X.s₀.heap.FunFrames X.base l->s.heap.FunFrames X.base l:=by
  intro l
  induction l with
  |nil=>intro _ _;trivial
  |cons env r ih=>
   intro hs hl;obtain⟨hk,⟨L,o,hf,hn,ho,hd⟩,hr⟩:=hl;have hL:L∈X.fs:=hs L (by unfold frs;rw[qD5,hf];exact qBj);obtain⟨sl,e⟩:=I.base.slot L o ho (I.ok.frf L hL) hL fun z=>I.ok.exfs L z hL
   exact⟨hk,⟨L,_,hf,hn,e,hd⟩,ih (fun b hb=>hs b (by unfold frs;rw[qD5,hf];exact qAy _ hb)) hr⟩
 exact all X.outer (fun _ hb=>hb) I.ok.funs
theorem Inv.stack(I:Inv X pins σ H s):s.heap.FunFrames X.base X.stack:=by
 rcases I.ok.stk with e|⟨e,hf⟩
 ·rw[e];exact I.funs
 ·rw[e];obtain⟨m,hn,_⟩:=I.loc;refine .cons (by rw[I.ok.kind];decide) hf hn ?_ I.funs;exact Heap.get?_none_of_le (qAo I.ok.bsz I.ok.above)
theorem Inv.stkSub(I:Inv X pins σ H s):∀b∈frs X.stack,b∈X.env.locals::X.fs:=fun b hb=>by
 rcases I.ok.stk with e|⟨e,hf⟩
 ·rw[e]at hb;exact qAy _ hb
 ·rw[e]at hb;unfold frs at hb;rw[qD5,hf]at hb;exact hb
theorem Inv.stkFree(I:Inv X pins σ H s):∀b∈frs X.stack,H b=none:=fun b hb=>by
 rcases qAk.mp (I.stkSub b hb)with e|hb
 ·rw[e];exact I.free
 ·obtain⟨_,o,ho,_⟩:=I.ok.funs.mem hb;exact I.base.free b o ho (I.ok.frf b hb) fun z=>I.ok.exfs b z hb
theorem Inv.step{g':Array GenState}{t':Nat}{d':Drawn}{ch:List Addr}(I:Inv X pins σ H s)
  (hch:∀b∈ch,(b∈X.ex\/X.s₀.heap.objs.size<=b)/\b≠X.env.locals/\(∀x c,X.env.cells.lookup x=some c->c≠b)/\∀p∈X.pn++pins,p.1≠b)
  (keep:∀b o,b≠X.env.locals->b∉X.fs->b∉ch->s.heap.get? b=some o->H b=none->h'.get? b=some o)
  (slot:∀b o,b≠X.env.locals->b∈X.fs->b∉ch->s.heap.get? b=some o->H b=none->∃sl,h'.get? b=some { o with slots:=sl }) (free:∀b o,b∉ch->s.heap.get? b=some o->H b=none->H' b=none)
  (there:∀b o,b∉ch->s.heap.get? b=some o->∃o',h'.get? b=some o')
  (tups:∀b xs,H b=some (.tup xs)->H' b=some (.tup xs)) (frzs:∀b o u,H b=some (.frz o u)->H' b=some (.frz o u)) (tbls:∀b ps,H b=some (.tbl ps)->∃more,H' b=some (.tbl (ps++more)))
  (ns:∀m,s.heap.Ns X.env.locals m->h'.Ns X.env.locals m) (hok:HOk X.prog X.w H' h') (hg:AllBare g') :
  Inv X pins σ H' { s with heap:=h',gens:=g',drawn:=d',toks:=t' }:=by
 have neL:∀b o,X.s₀.heap.get? b=some o->b≠X.env.locals:=fun b o e=>qAr (qAf (Heap.lt_size e) I.ok.above)
 have neC:∀b o,X.s₀.heap.get? b=some o->b∉X.ex->b∉ch:=fun b o e hx hb=>by
  rcases(hch b hb).1 with z|z
  ·exact hx z
  ·exact absurd (qAf (Heap.lt_size e) z) (qCj _)
 have cellK:∀x c,X.env.cells.lookup x=some c->∀v,s.heap.IsCell c v->h'.IsCell c v:=fun x c e v ⟨o,ho,hd⟩=>by
  have nch:c∉ch:=fun z=>(hch c z).2.2.1 x c e rfl
  by_cases hc:c∈X.fs
  ·obtain⟨sl,q⟩:=slot c o (I.cne x c e) hc nch ho (I.freeC x c e);exact⟨_,q,hd⟩
  ·exact⟨o,keep c o (I.cne x c e) hc nch ho (I.freeC x c e),hd⟩
 refine⟨I.ok,I.os,hg,⟨fun b o e n hb hx=>?_,fun b o e n hb hx=>?_,fun b o e n hx=>?_,fun b o e hx=>?_,fun b xs e=>tups b xs (I.base.tups b xs e),fun b o xs e=>frzs b o xs (I.base.frzs b o xs e),fun b ps e=>?_⟩,?_,fun x c e=>?_,?_,fun x c e=>?_,fun p hp=>?_,hok,I.len⟩
 ·exact keep b o (neL b o e) hb (neC b o e hx) (I.base.keep b o e n hb hx) (I.base.free b o e n hx)
 ·obtain⟨sl,e1⟩:=I.base.slot b o e n hb hx;obtain⟨sl',e2⟩:=slot b _ (neL b o e) hb (neC b o e hx) e1 (I.base.free b o e n hx);exact⟨sl',e2⟩
 ·obtain⟨o',e1⟩:=I.base.there b o e hx;exact free b o' (neC b o e hx) e1 (I.base.free b o e n hx)
 ·obtain⟨o',e1⟩:=I.base.there b o e hx;exact there b o' (neC b o e hx) e1
 ·obtain⟨m1,e1⟩:=I.base.tbls b ps e;obtain⟨m2,e2⟩:=tbls b _ e1;exact⟨m1++m2,by rw[e2,Array.append_assoc]⟩
 ·obtain⟨m,hn,hl⟩:=I.loc;refine⟨m,ns m hn,fun i x v e1 e2 e3=>?_⟩;obtain⟨u,r,l⟩:=hl i x v e1 e2 e3;refine⟨u,r,?_⟩
  rcases l with l|⟨k,c,e,z⟩
  ·exact .inl l
  ·exact .inr ⟨k,c,e,cellK x c e _ z⟩
 ·obtain⟨v,z⟩:=I.cell x c e;exact⟨v,cellK x c e v z⟩
 ·obtain⟨m,⟨o,_,_,ho,_⟩,_⟩:=I.loc;exact free _ o (fun z=>(hch _ z).2.1 rfl) ho I.free
 ·obtain⟨v,o,ho,hd⟩:=I.cell x c e;exact free c o (fun z=>(hch c z).2.2.1 x c e rfl) ho (I.freeC x c e)
 ·obtain⟨e,n,ne,nf,d⟩:=I.pin p hp;have nch:p.1∉ch:=fun z=>(hch p.1 z).2.2.2 p hp rfl
  exact⟨keep p.1 p.2 ne nf nch e n,free p.1 p.2 nch e n,ne,nf,d⟩
theorem Inv.un{t':Nat}(I:Inv X pins σ H s)(u:Un X.fs [] H H' s.heap h')(hok:HOk X.prog X.w H' h'):Inv X pins σ H' { s with heap:=h',toks:=t' }:=by
 obtain⟨m,⟨o,es,ep,ho,r⟩,_⟩:=id I.loc;obtain⟨sl,hL⟩:=u.any ho I.free (by simp);exact I.step (g':=s.gens) (d':=s.drawn) (ch:=[]) (fun _ z=>nomatch z) (fun b o _ hb _ e n=>u.keep b o e n hb (by simp)) (fun b o _ hb _ e n=>u.slot b o e n hb (by simp)) (fun b o _ e n=>u.free b o e n (by simp)) (fun b o _ e=>u.there b o e (by simp)) u.tups u.frzs u.tbls (fun m' hm=>by
  obtain⟨o',es',ep',ho',r'⟩:=hm;rw[ho]at ho';cases ho';exact⟨_,es',ep',hL,r'⟩) hok I.bare
theorem Inv.call{g':Array GenState}{t':Nat}{d':Drawn}{ch:List Addr}(I:Inv X pins σ H s)(u:Un (frs X.stack) ch H H' s.heap h')(hok:HOk X.prog X.w H' h')(hg:AllBare g')
  (hch:∀b∈ch,(b∈X.ex\/X.s₀.heap.objs.size<=b)/\b≠X.env.locals/\(∀x c,X.env.cells.lookup x=some c->c≠b)/\∀p∈X.pn++pins,p.1≠b) :
  Inv X pins σ H' { s with heap:=h',gens:=g',drawn:=d',toks:=t' }:=by
 obtain⟨m,⟨o,es,ep,ho,r⟩,_⟩:=id I.loc;obtain⟨sl,hL⟩:=u.any ho I.free fun z=>(hch _ z).2.1 rfl
 exact I.step (ch:=ch) hch (fun b o hL hb hc e n=>u.keep b o e n (fun z=>(qAk.mp (I.stkSub b z)).elim hL hb) hc) (fun b o _ _ hc e n=>u.any e n hc) (fun b o hc e n=>u.free b o e n hc) (fun b o hc e=>u.there b o e hc) u.tups u.frzs u.tbls (fun m' hm=>by
  obtain⟨o',es',ep',ho',r'⟩:=hm;rw[ho]at ho';cases ho';exact⟨_,es',ep',hL,r'⟩) hok hg
theorem Inv.turned{t':Nat}{it:Addr}(I:Inv X pins σ H s)(k:∀b o,b≠it->s.heap.get? b=some o->h'.get? b=some o)(hn:H it=none)(hL:it≠X.env.locals)
  (h1:it∈X.ex\/X.s₀.heap.objs.size<=it) (h2:∀x c,X.env.cells.lookup x=some c->c≠it) (h3:∀p∈X.pn++pins,p.1≠it):Inv X pins σ H { s with heap:=h',toks:=t' }:=by
 have nit:∀b u,H b=some u->b≠it:=fun b u e z=>by rw[z,hn]at e;cases e
 refine I.step (g':=s.gens) (d':=s.drawn) (ch:=[it]) (fun b hb=>?_) (fun b o _ _ hc e _=>k b o (fun z=>hc (by simp[z])) e) (fun b o _ _ hc e _=>⟨o.slots,k b o (fun z=>hc (by simp[z])) e⟩) (fun _ _ _ _ n=>n)
  (fun b o hc e=>⟨o,k b o (fun z=>hc (by simp[z])) e⟩) (fun _ _ e=>e) (fun _ _ _ e=>e) (fun b ps e=>⟨#[],by rw[e];simp⟩) (fun m hm=>?_) (fun b u e=>?_) I.bare
 ·have e:b=it:=by simpa using hb
  subst e;exact⟨h1,hL,h2,h3⟩
 ·obtain⟨o,es,ep,ho,r⟩:=hm;exact⟨o,es,ep,k _ o (qD6 hL) ho,r⟩
 ·refine(I.hok b u e).stay (fun c v hc q=>k c v ?_ q) (fun _ q=>q) fun _ _ q=>q
  rcases hc with z|z
  ·rw[z];exact nit b u e
  ·exact nit c _ z
theorem Inv.tok(I:Inv X pins σ H s)(t:Nat):Inv X pins σ H { s with toks:=t }:=I.un (h':=s.heap) (t':=t) Un.refl I.hok
theorem Inv.kept{t':Nat}(I:Inv X pins σ H s)(k:∀b u,s.heap.get? b=some u->h'.get? b=some u):Inv X pins σ H { s with heap:=h',toks:=t' }:=I.un (Un.kept k) (I.hok.kept k)
theorem Inv.laid{a:Addr}{o:HO}{t':Nat}(I:Inv X pins σ H s)(k:∀b u,s.heap.get? b=some u->h'.get? b=some u)(hp:s.heap.objs.size<=a)(new:ObjOk X.prog X.w (upd H a o) h' a o) :
  Inv X pins σ (upd H a o) { s with heap:=h',toks:=t' }:=I.un (Un.laid k hp (I.hok.fresh hp)) (I.hok.laid k hp new)
theorem Inv.write{x e:Addr}{o:HO}{t':Nat}(I:Inv X pins σ H s)(mu:Mut (H x))(he:e=x\/H e=some (.own x))(k:∀b u,b≠e->s.heap.get? b=some u->h'.get? b=some u)(heo:∃u,h'.get? e=some u)
  (new:ObjOk X.prog X.w (upd H x o) h' x o):Inv X pins σ (upd H x o) { s with heap:=h',toks:=t' }:=I.un (Un.write mu he k heo) (I.hok.write mu he k heo new)
theorem Inv.weak{σ':List (Option V)}(I:Inv X pins σ H s)(hl:σ'.length=σ.length)(w:∀(i:Nat) v,σ'[i]?=some (some v)->σ[i]?=some (some v)):Inv X pins σ' H s:=
 ⟨I.ok,I.os,I.bare,I.base,let⟨m,hn,hl'⟩:=I.loc;⟨m,hn,fun i x v e1 e2 e3=>hl' i x v e1 (w i v e2) e3⟩,I.cell,I.free,I.freeC,I.pin,I.hok,hl.trans I.len⟩
theorem Inv.pins_of{pins':List (Addr×Obj)}(I:Inv X pins σ H s)(h:∀p∈pins',s.heap.get? p.1=some p.2/\H p.1=none/\p.1≠X.env.locals/\p.1∉X.fs/\∀v,p.2.data≠.cell v):Inv X pins' σ H s:=
 ⟨I.ok,I.os,I.bare,I.base,I.loc,I.cell,I.free,I.freeC,fun p hp=>(qBa.mp hp).elim (fun z=>I.pin p (qBi _ z)) (h p),I.hok,I.len⟩
theorem zNW{N:List Str}(hN:N.Nodup){i j:Nat}{x:Str}(a:N[i]?=some x)(b:N[j]?=some x):i=j:=by
 obtain⟨h1,e1⟩:=qA4.mp a;obtain⟨h2,e2⟩:=qA4.mp b;exact(List.getElem_inj hN).mp (e1.trans e2.symm)
theorem zKA{M:Model}{A:Around}{E:Value->Shared->Prop}{i:Nat}{x:Str}{v:V}{u:Value}{Q:Unit->Shared->Prop}(I:Inv X pins σ H s)(hN:X.N.Nodup)(hi:X.N[i]?=some x)(hx:Loc X.env.scope x)(r:RelV v u)
  (h:∀s',Inv X pins (σ.set i (some v)) H s'->(∃a,Heap.SameBut a s.heap s'.heap/\(a=X.env.locals\/X.env.cells.lookup x=some a))->Q () s') (hf:X.fn x=true\/X.env.scope.names.lookup x=some .local:=by first|exact .inl rfl|exact .inr rfl|assumption):wpAny M A (storeName X.env x u) Q E s:=by
 obtain⟨m,hn,hl⟩:=id I.loc;have hcls:(X.env.scope.kind==.class||(X.env.scope.kind==.module&&X.env.locals != X.env.globals))=false:=by rw[I.ok.kind];rfl
 have hiσ:i<σ.length:=by rw[I.len];exact(qA4.mp hi).1
 have cne:=I.cne;have tracked:∀{a:Addr}{h':Heap},(∃o,s.heap.get? a=some o/\H a=none)->Heap.SameBut a s.heap h'->HOk X.prog X.w H h':=fun{a h'} ha hs b ob e=>by
  obtain⟨_,_,hfree⟩:=ha;refine(I.hok b ob e).stay (fun c w' hc q=>(hs.2 c ?_).trans q) (fun _ q=>q) fun _ _ q=>q
  rintro rfl
  rcases hc with rfl|hc
  ·rw[hfree]at e;cases e
  ·rw[hfree]at hc;cases hc
 rcases hx with hk|hk
 ·refine wpAny_storeName_local hk hn (fun h' hn' hs=>?_) hcls;obtain⟨oL,_,_,hoL,_⟩:=id hn;refine h _ ⟨I.ok,I.os,I.bare,⟨fun b o e n hb hx=>?_,fun b o e n hb hx=>?_,I.base.free,fun b o e hx=>?_,I.base.tups,I.base.frzs,I.base.tbls⟩,⟨_,hn',fun j y v' e1 e2 e3=>?_⟩,fun y c e=>?_,I.free,I.freeC,fun p hp=>?_,tracked ⟨oL,hoL,I.free⟩ hs,by simpa using I.len⟩ ⟨_,hs,.inl rfl⟩
  ·exact(hs.2 b (qAr (qAf (Heap.lt_size e) I.ok.above))).trans (I.base.keep b o e n hb hx)
  ·obtain⟨sl,e1⟩:=I.base.slot b o e n hb hx;exact⟨sl,(hs.2 b (qAr (qAf (Heap.lt_size e) I.ok.above))).trans e1⟩
  ·obtain⟨o',e1⟩:=I.base.there b o e hx;exact⟨o',(hs.2 b (qAr (qAf (Heap.lt_size e) I.ok.above))).trans e1⟩
  ·by_cases hj:j=i
   ·subst hj;rw[hi]at e1;cases e1;rw[qAh hiσ]at e2;cases e2;exact⟨u,r,.inl ⟨hk,by simp⟩⟩
   ·rw[qAi (qD6 hj)]at e2;obtain⟨u',r',q⟩:=hl j y v' e1 e2 e3;refine⟨u',r',?_⟩
    rcases q with⟨k,e⟩|⟨k,c,e,z⟩
    ·refine .inl ⟨k,?_⟩
     have:y≠x:=fun e=>hj (zNW hN e1 (e▸hi))
     simp[this,e]
    ·exact .inr ⟨k,c,e,z.sameBut hs (cne y c e)⟩
  ·obtain⟨w',z⟩:=I.cell y c e;exact⟨w',z.sameBut hs (cne y c e)⟩
  ·obtain⟨e,n,ne,nf,d⟩:=I.pin p hp;exact⟨(hs.2 p.1 ne).trans e,n,ne,nf,d⟩
 ·have hfn:X.fn x=true:=by
   rcases hf with z|z
   ·exact z
   ·rw[z]at hk;cases hk
  obtain⟨c,hc⟩:=I.ok.has x (.inl hk);obtain⟨w',z⟩:=I.cell x c hc;refine wpAny_storeName_cell I.ok.kind hk hc z (fun h' hc' hs=>?_);obtain⟨oc,hoc,hocd⟩:=id z;refine h { s with heap:=h' } ⟨I.ok,I.os,I.bare,⟨fun b o e n hb hx=>?_,fun b o e n hb hx=>?_,I.base.free,fun b o e hx=>?_,I.base.tups,I.base.frzs,I.base.tbls⟩,⟨m,hn.sameBut hs (qD6 (cne x c hc)),fun j y v' e1 e2 e3=>?_⟩,fun y c' e=>?_,I.free,I.freeC,fun p hp=>?_,tracked ⟨oc,hoc,I.freeC x c hc⟩ hs,by simpa using I.len⟩ ⟨c,hs,.inr hc⟩
  ·exact(hs.2 b (qAr (qAf (Heap.lt_size e) (I.ok.cab x c hfn hc)))).trans (I.base.keep b o e n hb hx)
  ·obtain⟨sl,e1⟩:=I.base.slot b o e n hb hx;exact⟨sl,(hs.2 b (qAr (qAf (Heap.lt_size e) (I.ok.cab x c hfn hc)))).trans e1⟩
  ·obtain⟨o',e1⟩:=I.base.there b o e hx;exact⟨o',(hs.2 b (qAr (qAf (Heap.lt_size e) (I.ok.cab x c hfn hc)))).trans e1⟩
  ·by_cases hj:j=i
   ·subst hj;rw[hi]at e1;cases e1;rw[qAh hiσ]at e2;cases e2;exact⟨u,r,.inr ⟨.inl hk,c,hc,hc'⟩⟩
   ·rw[qAi (qD6 hj)]at e2;obtain⟨u',r',q⟩:=hl j y v' e1 e2 e3;refine⟨u',r',?_⟩
    rcases q with q|⟨k,c',e,z'⟩
    ·exact .inl q
    ·refine .inr ⟨k,c',e,z'.sameBut hs ?_⟩
     rintro rfl
     exact hj (zNW hN e1 (I.ok.inj _ _ _ e hc▸hi))
  ·by_cases hcc:c'=c
   ·subst hcc;exact⟨_,hc'⟩
   ·obtain⟨w2,z2⟩:=I.cell y c' e;exact⟨w2,z2.sameBut hs hcc⟩
  ·obtain⟨e,n,ne,nf,d⟩:=I.pin p hp;refine⟨(hs.2 p.1 ?_).trans e,n,ne,nf,d⟩;intro q;rw[q,hoc]at e;have q':oc=p.2:=qBe e;exact d w' (by rw[<- q'];exact hocd)
theorem zN6{M:Model}{A:Around}{E:Value->Shared->Prop}{i:Nat}{x:Str}{v:V}{u:Value}{Q:Unit->Shared->Prop}(I:Inv X pins σ H s)(hN:X.N.Nodup)(hi:X.N[i]?=some x)(hx:Loc X.env.scope x)(r:RelV v u)
  (h:∀s',Inv X pins (σ.set i (some v)) H s'->Q () s') (hf:X.fn x=true\/X.env.scope.names.lookup x=some .local:=by first|exact .inl rfl|exact .inr rfl|assumption):wpAny M A (storeName X.env x u) Q E s:=
 zKA I hN hi hx r (fun s' I' _=>h s' I') hf
theorem Inv.call'{s':Shared}{ch:List Addr}(I:Inv X pins σ H s)(ho:s'.os=s.os)(u:Un (frs X.stack) ch H H' s.heap s'.heap)(hok:HOk X.prog X.w H' s'.heap)(hg:AllBare s'.gens)
  (hch:∀b∈ch,(b∈X.ex\/X.s₀.heap.objs.size<=b)/\b≠X.env.locals/\(∀x c,X.env.cells.lookup x=some c->c≠b)/\∀p∈X.pn++pins,p.1≠b):Inv X pins σ H' s':=by
 obtain⟨h',g',d',t',o'⟩:=s';have e:o'=s.os:=ho;subst e;exact I.call (g':=g') (t':=t') (d':=d') u hok hg hch
end
abbrev XK:=Value->Option Addr->Hp->Prop
abbrev St:=List (Option V)
abbrev VK:=V->Hp->Prop
abbrev TE:=St->Hp->VK->Prop
abbrev TT:=St->Hp->(Bool->Hp->Prop)->Prop
abbrev TA:=St->Hp->(List V->Hp->Prop)->Prop
structure Ends where
 nx:St->Hp->Prop
 rt:VK
 bk:St->Hp->Prop:=fun _ _=>False
 ct:St->Hp->Prop:=fun _ _=>False
abbrev TS:=Ends->St->Hp->Prop
def EP(X:Cx)(pins:List (Addr×Obj))(σ:St)(Q:VK)(u:Value)(s':Shared):Prop:=∃v H',Inv X pins σ H' s'/\RelV v u/\Q v H'
def TP(X:Cx)(pins:List (Addr×Obj))(σ:St)(Q:Bool->Hp->Prop)(b:Bool)(s':Shared):Prop:=∃H',Inv X pins σ H' s'/\Q b H'
def AP(X:Cx)(pins:List (Addr×Obj))(σ:St)(Q:List V->Hp->Prop)(us:List Value)(s':Shared):Prop:=∃vs H',Inv X pins σ H' s'/\Vals vs us/\Q vs H'
def SP(X:Cx)(pins:List (Addr×Obj))(D:Ends)(f:Flow)(s':Shared):Prop:=
 match f with
 |.next=>∃σ' H',Inv X pins σ' H' s'/\D.nx σ' H'
 |.brk=>∃σ' H',Inv X pins σ' H' s'/\D.bk σ' H'
 |.cont=>∃σ' H',Inv X pins σ' H' s'/\D.ct σ' H'
 |.ret u=>∃v σ' H',Inv X pins σ' H' s'/\RelV v u/\D.rt v H'
def PE(X:Cx)(e:Expr)(t:TE):Prop:=
 ∀(pins:List (Addr×Obj))(s:Shared)(σ:St)(H:Hp)(Q:VK),Inv X pins σ H s->t σ H Q->wpAny (model X.prog X.w) X.A (eval e X.env) (EP X pins σ Q) X.xe s
def PT(X:Cx)(e:Expr)(t:TT):Prop:=
 ∀(pins:List (Addr×Obj))(s:Shared)(σ:St)(H:Hp)(Q:Bool->Hp->Prop),Inv X pins σ H s->t σ H Q->wpAny (model X.prog X.w) X.A (isTrue e X.env (eval e X.env)) (TP X pins σ Q) X.xe s
def PW(X:Cx)(e:Expr)(t:TT):Prop:=
 ∀(whole:Sem Value)(pins:List (Addr×Obj))(s:Shared)(σ:St)(H:Hp)(Q:Bool->Hp->Prop),Inv X pins σ H s->t σ H Q->wpAny (model X.prog X.w) X.A (isTrue e X.env whole) (TP X pins σ Q) X.xe s
theorem PW.pt{X:Cx}{e:Expr}{t:TT}(h:PW X e t):PT X e t:=h _
def PA(X:Cx)(es:List Expr)(t:TA):Prop:=
 ∀(pos:Pos)(pins:List (Addr×Obj))(s:Shared)(σ:St)(H:Hp)(Q:List V->Hp->Prop),Inv X pins σ H s->t σ H Q->wpAny (model X.prog X.w) X.A (spliced (backTo pos (starEach es X.env))) (AP X pins σ Q) X.xe s
def PS(X:Cx)(st:Stmt)(t:TS):Prop:=
 ∀(pins:List (Addr×Obj))(s:Shared)(σ:St)(H:Hp)(D:Ends),Inv X pins σ H s->t D σ H->wpAny (model X.prog X.w) X.A (exec st X.env) (SP X pins D) X.xe s
def PSs(X:Cx)(st:List Stmt)(t:TS):Prop:=
 ∀(pins:List (Addr×Obj))(s:Shared)(σ:St)(H:Hp)(D:Ends),Inv X pins σ H s->t D σ H->wpAny (model X.prog X.w) X.A (execs st X.env) (SP X pins D) X.xe s
theorem thn{α:Type}{t:Sem α}{Q Q':α->Shared->Prop}{M:Model}{A:Around}{E:Value->Shared->Prop}{s:Shared}(h:wpAny M A t Q E s)(hQ:∀a s,Q a s->Q' a s):wpAny M A t Q' E s:=wpAny_mono h hQ fun _ _ x=>x
end L2
namespace L2
open PySem PySem.Spec PyProof.Rows
section
variable{X:Cx}
noncomputable def tVar(i:Nat):TE:=fun σ H Q=>∃v,σ[i]?=some (some v)/\Q v H
noncomputable def tC(v:V):TE:=fun _ H Q=>Q v H
theorem zV0{i:Nat}{x:Str}{pos:Pos}(hN:X.N[i]?=some x)(hv:Vis X.env.scope x)(hd:(x==("__debug__":Str))=false:=by decide)(hcd:(x==("__classdict__":Str))=false:=by decide):PE X (.Name x pos) (tVar i):=by
 intro pins s σ H Q I h;obtain⟨v,e,h⟩:=h;obtain⟨m,hn,hl⟩:=I.loc;obtain⟨u,r,l⟩:=hl i x v hN e hv;have fin:EP X pins σ Q u s:=⟨v,H,I,r,h⟩
 rcases l with⟨hk,hm⟩|⟨hk,c,hc,hcell⟩
 ·exact wpAny_Name (wpAny_loadName_local I.ok.kind hk hn hm fin) hd
 ·rcases hk with hk|hk
  ·exact wpAny_Name (wpAny_loadName_cell I.ok.kind hk hc hcell fin) hd
  ·exact wpAny_Name (wpAny_loadName_free I.ok.kind hk hc hcell fin hcd) hd
theorem zA9{i j pos}:PE X (.Constant (.int i) j pos) (tC (.int i)):=fun _ _ _ H _ I h=>wpAny_Constant_int ⟨.int i,H,I.tok _,⟨_,rfl⟩,h⟩
theorem zTC{b j pos}:PE X (.Constant (.bool b) j pos) (tC (.bl b)):=fun _ _ _ H _ I h=>Constant_bool ⟨.bl b,H,I,rfl,h⟩
theorem zEP{x j pos}:PE X (.Constant (.str x) j pos) (tC (.str x)):=fun _ _ _ H _ I h=>Calls.Constant_str ⟨.str x,H,I.tok _,⟨_,rfl⟩,h⟩
def Gl(X:Cx)(x:Str):Prop:=X.env.kindOf x=some .globalImplicit
theorem zHU{E:Value->Shared->Prop}{pins:List (Addr×Obj)}{s:Shared}{σ:St}{H:Hp}{x:Str}{u:Value}{pos:Pos}{Q:Value->Shared->Prop}(I:Inv X pins σ H s)(hg:Gl X x)(hm:X.mg x=some u)(h:Q u s)
  (hd:(x==("__debug__":Str))=false:=by decide):wpAny (model X.prog X.w) X.A (eval (.Name x pos) X.env) Q E s:=
 Calls.Name_function_global I.ok.kind hg (Calls.loadGlobal_global (by rw[I.ok.glob];exact I.mod.glob.keeps I.bk) hm h) hd
theorem zHV{E:Value->Shared->Prop}{pins:List (Addr×Obj)}{s:Shared}{σ:St}{H:Hp}{x:Str}{u:Value}{pos:Pos}{Q:Value->Shared->Prop}(I:Inv X pins σ H s)(hg:Gl X x)(hm:X.mg x=none)(hv:bootBuiltins x=some u)(h:Q u s)
  (hn:x≠"__name__":=by decide) (hd:(x==("__debug__":Str))=false:=by decide):wpAny (model X.prog X.w) X.A (eval (.Name x pos) X.env) Q E s:=by
 obtain⟨mb,h1,h2⟩:=I.mod.blt;exact Calls.Name_function_global I.ok.kind hg (Calls.loadGlobal_builtin (by rw[I.ok.glob];exact I.mod.glob.keeps I.bk) hm (by rw[I.ok.blt];exact h1.keeps I.bk) ((h2 x hn).trans hv) h) hd
theorem zF1{x:Str}{v:V}{u:Value}{pos:Pos}(hg:Gl X x)(hm:X.mg x=some u)(r:RelV v u)(hd:(x==("__debug__":Str))=false:=by decide):PE X (.Name x pos) (tC v):=
 fun _ _ _ H _ I h=>zHU I hg hm ⟨v,H,I,r,h⟩ hd
variable{a b:Expr}{ta tb:TE}{pos:Pos}
def PC(X:Cx)(op:CmpOp)(a b:Expr)(t:TE):Prop:=
 ∀(pins:List (Addr×Obj))(s:Shared)(σ:St)(H:Hp)(Q:VK),Inv X pins σ H s->t σ H Q ->
  wpAny (model X.prog X.w) X.A (eval a X.env) (fun v s₁=>wpAny (model X.prog X.w) X.A (eval b X.env) (fun u s₂=>wpAny (model X.prog X.w) X.A (compareOp op v u) (EP X pins σ Q) X.xe s₂) X.xe s₁) X.xe s
theorem zTJ(b:Expr){op:CmpOp}(h:op≠.In)(h2:op≠.NotIn):behindInMarks op b=false:=by
 have e1:(op==CmpOp.In)=false:=by cases op<;>first|rfl|exact absurd rfl h
 have e2:(op==CmpOp.NotIn)=false:=by cases op<;>first|rfl|exact absurd rfl h2
 cases b<;>simp[behindInMarks,e1,e2]
noncomputable def tB(t:TE):TT:=fun σ H Q=>t σ H fun x H1=>∃c,x=.bl c/\Q c H1
theorem zUY{op:CmpOp}{t:TE}(h:PC X op a b t)(h1:behindInMarks op b=false:=by first|exact zTJ _ (by decide) (by decide)|rfl):PT X (.Compare a [op] [b] pos) (tB t):=by
 intro pins s σ H Q I hw;refine wpAny_isTrue_Compare1 (thn (h pins s σ H _ I hw) fun v s1 h1=>thn h1 fun u s2 h2=>thn h2 fun c s3 z0=>?_) h1;obtain⟨x,H1,I1,r1,q1⟩:=z0;obtain⟨d,rfl,q⟩:=q1;cases r1;exact wpAny_truthy_bool ⟨H1,I1,q⟩
variable{tA tB':TT}{rest:List Expr}
noncomputable def tAnd(t u:TT):TT:=fun σ H Q=>t σ H fun c H1=>if c=true then u σ H1 Q else Q false H1
noncomputable def tOr(t u:TT):TT:=fun σ H Q=>t σ H fun c H1=>if c=true then Q true H1 else u σ H1 Q
theorem zQJ(ha:PT X a tA):PW X (.BoolOp .And [a] pos) tA:=by
 intro wh pins s σ H Q I h;refine isTrue_and (thn (ha pins s σ H Q I h) fun c s1 e=>?_);cases c with
 |true=>exact isTrue_and_nil e
 |false=>exact e
theorem zYY(ha:PT X a tA):PW X (.BoolOp .Or [a] pos) tA:=by
 intro wh pins s σ H Q I h;refine isTrue_or (thn (ha pins s σ H Q I h) fun c s1 e=>?_);cases c with
 |false=>exact isTrue_or_nil e
 |true=>exact e
theorem zUX(ha:PT X a tA)(hb:PW X (.BoolOp .And (b::rest) pos) tB'):PW X (.BoolOp .And (a::b::rest) pos) (tAnd tA tB'):=by
 intro wh pins s σ H Q I h;refine isTrue_and (thn (ha pins s σ H _ I h) fun c s1 z0=>?_);obtain⟨H1,I1,q1⟩:=z0;cases c with
 |true=>exact hb wh pins s1 σ H1 Q I1 q1
 |false=>exact⟨H1,I1,q1⟩
theorem zb2(ha:PT X a tA)(hb:PW X (.BoolOp .Or (b::rest) pos) tB'):PW X (.BoolOp .Or (a::b::rest) pos) (tOr tA tB'):=by
 intro wh pins s σ H Q I h;refine isTrue_or (thn (ha pins s σ H _ I h) fun c s1 z0=>?_);obtain⟨H1,I1,q1⟩:=z0;cases c with
 |true=>exact⟨H1,I1,q1⟩
 |false=>exact hb wh pins s1 σ H1 Q I1 q1
noncomputable def tIf(t:TT)(ta tb:TE):TE:=fun σ H Q=>t σ H fun c H1=>if c=true then ta σ H1 Q else tb σ H1 Q
theorem zTB{c:Expr}(hc:PT X c tA)(ha:PE X a ta)(hb:PE X b tb):PE X (.IfExp c a b pos) (tIf tA ta tb):=by
 intro pins s σ H Q I h;refine wpAny_IfExp (thn (hc pins s σ H _ I h) fun d s1 z0=>?_);obtain⟨H1,I1,q1⟩:=z0;cases d with
 |true=>exact ha pins s1 σ H1 Q I1 q1
 |false=>exact hb pins s1 σ H1 Q I1 q1
end
end L2
namespace L2
open PySem PySem.Spec PyProof.Rows
def SqL(K:qA2)(H:Hp)(a:Addr)(xs:List V):Prop:=
 Rd H a (.lst xs) \/
  ∃(o:Obj)(its:Array Value)(n:Nat),K.lookup a=some o/\o.cls=.type "list"/\o.dict=none/\o.data=.seq its n/\its.size<=sizeLine/\Vals xs its.toList
def SqT(K:qA2)(H:Hp)(a:Addr)(xs:List V):Prop:=
 Rd H a (.tup xs) \/
  ∃(o:Obj)(its:Array Value)(n:Nat),K.lookup a=some o/\o.cls=.type "tuple"/\o.data=.seq its n/\its.size<=sizeLine/\Vals xs its.toList
noncomputable def absV:Value->Option V
 |.none=>some .non
 |.bool b=>some (.bl b)
 |.int i _=>some (.int i)
 |.str x _=>some (.str x)
 |.bytes b _=>some (.byt b)
 |.float b _=>some (.flt b)
 |.ref a=>some (.ref a)
 |.type n=>some (.ty n)
 |_=>none
theorem RelV.abs{x:V}{u:Value}(r:RelV x u):absV u=some x:=by
 cases x with
 |non=>cases r;rfl
 |bl _=>cases r;rfl
 |int _=>obtain⟨t,rfl⟩:=r;rfl
 |str _=>obtain⟨t,rfl⟩:=r;rfl
 |byt _=>obtain⟨t,rfl⟩:=r;rfl
 |flt _=>obtain⟨t,rfl⟩:=r;rfl
 |ref _=>cases r;rfl
 |ty _=>cases r;rfl
theorem RelV.inj{x y:V}{u:Value}(r:RelV x u)(q:RelV y u):x=y:=qBe (r.abs.symm.trans q.abs)
theorem Vals.inj:∀{xs ys:List V}{us:List Value},Vals xs us->Vals ys us->xs=ys
 |_,_,_,.nil,.nil=>rfl
 |_,_,_,.cons r t,.cons r' t'=>by rw[r.inj r',Vals.inj t t']
section
variable{X:Cx}{pins:List (Addr×Obj)}{σ:St}{H:Hp}{s:Shared}{a:Addr}{xs ys:List V}
theorem SqL.of{K:qA2}(h:H a=some (.lst xs)):SqL K H a xs:=.inl (.inl h)
theorem SqT.of{K:qA2}(h:H a=some (.tup xs)):SqT K H a xs:=.inl (.inl h)
theorem Inv.list(I:Inv X pins σ H s)(h:SqL X.K H a xs):∃its:List Value,Vals xs its/\PlainL s.heap a its.toArray/\xs.length<=sizeLine:=by
 rcases h with h|⟨o,its,n,hk,hc,hd,hs,hz,r⟩
 ·obtain⟨z,its,n,r,e⟩:=h.ok I.hok;exact⟨its,r,⟨_,n,e,rfl,rfl,rfl⟩,z⟩
 ·refine⟨its.toList,r,⟨o,n,I.kIn a o hk,hc,hd,by simpa using hs⟩,?_⟩;have e:=r.length;simp only[qFi]at e
  lia
theorem Inv.tuple(I:Inv X pins σ H s)(h:SqT X.K H a xs):∃its:List Value,Vals xs its/\IsTup s.heap a its.toArray/\xs.length<=sizeLine:=by
 rcases h with h|⟨o,its,n,hk,hc,hs,hz,r⟩
 ·obtain⟨z,its,r,p⟩:=h.ok I.hok;exact⟨its,r,p,z⟩
 ·refine⟨its.toList,r,⟨o,I.kIn a o hk,hc,n,by simpa using hs⟩,?_⟩;have e:=r.length;simp only[qFi]at e
  lia
theorem Inv.list_inj(I:Inv X pins σ H s)(h:SqL X.K H a xs)(h':SqL X.K H a ys):xs=ys:=by
 obtain⟨its,r,⟨o,n,e,_,_,d⟩,_⟩:=I.list h;obtain⟨its',r',⟨o',n',e',_,_,d'⟩,_⟩:=I.list h';rw[e]at e';cases e';rw[d]at d'
 injection d' with d1 _
 have:its=its':=by simpa using congrArg qG4 d1
 subst this;exact r.inj r'
theorem Inv.tuple_inj(I:Inv X pins σ H s)(h:SqT X.K H a xs)(h':SqT X.K H a ys):xs=ys:=by
 obtain⟨its,r,⟨o,e,_,n,d⟩,_⟩:=I.tuple h;obtain⟨its',r',⟨o',e',_,n',d'⟩,_⟩:=I.tuple h';rw[e]at e';cases e';rw[d]at d'
 injection d' with d1 _
 have:its=its':=by simpa using congrArg qG4 d1
 subst this;exact r.inj r'
end
abbrev Cx.wish(X:Cx)(E:Value->Shared->Prop):Cx:={ X with xe:=E }
abbrev Cx.nox(X:Cx):Cx:=X.wish fun _ _=>False
theorem Cx.Ok.wish{X:Cx}(ok:X.Ok)(E:Value->Shared->Prop):(X.wish E).Ok:=
 ⟨ok.mod,ok.kind,ok.glob,ok.blt,ok.above,ok.inj,ok.has,ok.cab,ok.hd,ok.frames,ok.stk,ok.exf,ok.bs,ok.bsz,ok.noex,ok.exfs,ok.funs,ok.frf⟩
theorem Cx.Ok.unwish{X:Cx}{E:Value->Shared->Prop}(ok:(X.wish E).Ok):X.Ok:=
 ⟨ok.mod,ok.kind,ok.glob,ok.blt,ok.above,ok.inj,ok.has,ok.cab,ok.hd,ok.frames,ok.stk,ok.exf,ok.bs,ok.bsz,ok.noex,ok.exfs,ok.funs,ok.frf⟩
section
variable{X:Cx}{pins:List (Addr×Obj)}{σ:St}{H:Hp}{s:Shared}{E:Value->Shared->Prop}
theorem Inv.wish(I:Inv X pins σ H s)(E:Value->Shared->Prop):Inv (X.wish E) pins σ H s:=⟨I.ok.wish E,I.os,I.bare,I.base,I.loc,I.cell,I.free,I.freeC,I.pin,I.hok,I.len⟩
theorem Inv.unwish(I:Inv (X.wish E) pins σ H s):Inv X pins σ H s:=⟨I.ok.unwish,I.os,I.bare,I.base,I.loc,I.cell,I.free,I.freeC,I.pin,I.hok,I.len⟩
theorem SP.unwish{D:Ends}{f:Flow}{s':Shared}(h:SP (X.wish E) pins D f s'):SP X pins D f s':=by
 cases f with
 |next=>obtain⟨σ',H',I,q⟩:=h;exact⟨σ',H',I.unwish,q⟩
 |brk=>obtain⟨σ',H',I,q⟩:=h;exact⟨σ',H',I.unwish,q⟩
 |cont=>obtain⟨σ',H',I,q⟩:=h;exact⟨σ',H',I.unwish,q⟩
 |ret u=>obtain⟨v,σ',H',I,r,q⟩:=h;exact⟨v,σ',H',I.unwish,r,q⟩
theorem PSs.nox{st:List Stmt}{t:TS}(h:PSs X.nox st t):PSs X st t:=fun pins s σ H D I hw=>
 wpAny_mono (h pins s σ H D (I.wish _) hw) (fun _ _ q=>q.unwish) fun _ _ z=>qA7 z
end
section
variable{X:Cx}{st:Stmt}{rest:List Stmt}{t u:TS}{e:Expr}{te:TE}{pos:Pos}
noncomputable def zY5:TS:=fun D σ H=>D.nx σ H
noncomputable def tSeq(t u:TS):TS:=fun D σ H=>t { D with nx:=u D } σ H
theorem zCJ:PSs X [] zY5:=fun _ _ σ H _ I h=>wpAny_execs_nil ⟨σ,H,I,h⟩
theorem zA3(h1:PS X st t)(h2:PSs X rest u):PSs X (st::rest) (tSeq t u):=by
 intro pins s σ H D I h;refine wpAny_execs_cons (thn (h1 pins s σ H { D with nx:=u D } I h) fun f s1 q=>?_);cases f with
 |next=>
  obtain⟨σ',H',I',q⟩:=q;exact h2 pins s1 σ' H' D I' q
 |ret v=>exact q
 |brk=>exact q
 |cont=>exact q
theorem zAE(h1:PS X st t):PSs X [st] t:=by
 intro pins s σ H D I h;refine wpAny_execs_cons (thn (h1 pins s σ H D I h) fun f s1 q=>?_);cases f with
 |next=>exact wpAny_execs_nil q
 |ret v=>exact q
 |brk=>exact q
 |cont=>exact q
noncomputable def zUR:TS:=fun D σ H=>D.bk σ H
theorem zT5:PS X (.Break pos) zUR:=fun _ _ σ H _ I h=>wpAny_Break ⟨σ,H,I,h⟩
theorem Inv.quiet{pins:List (Addr×Obj)}{σ:St}{H:Hp}{s:Shared}(I:Inv X pins σ H s):interactive X.env=false:=by simp[interactive,I.ok.kind]
noncomputable def zFZ(te:TE):TS:=fun D σ H=>te σ H fun _ H1=>D.nx σ H1
theorem zBZ(he:PE X e te)(hs:swapsWith e none pos.line X.env=pure false:=by rfl):PS X (.Expr e pos) (zFZ te):=by
 intro pins s σ H D I h;exact wpAny_Expr_any (thn (he pins s σ H _ I h) fun v s1 ⟨x,H1,I1,r1,q1⟩=>⟨σ,H1,I1,q1⟩) I.quiet hs
noncomputable def tRet(te:TE):TS:=fun D σ H=>te σ H D.rt
theorem zB0(he:PE X e te):PS X (.Return (some e) pos) (tRet te):=by
 intro pins s σ H D I h;exact wpAny_Return_some (thn (he pins s σ H _ I h) fun v s1 ⟨x,H1,I1,r1,q1⟩=>⟨x,σ,H1,I1,r1,q1⟩)
noncomputable def tIfS(c:TT)(t u:TS):TS:=fun D σ H=>c σ H fun b H1=>if b=true then t D σ H1 else u D σ H1
theorem zGP{c:Expr}{a b:List Stmt}{tc:TT}(hc:PT X c tc)(ha:PSs X a t)(hb:PSs X b u):PS X (.If c a b pos) (tIfS tc t u):=by
 intro pins s σ H D I h;refine wpAny_If (thn (hc pins s σ H _ I h) fun d s1 z0=>?_);obtain⟨H1,I1,q1⟩:=z0;cases d with
 |true=>exact ha pins s1 σ H1 D I1 q1
 |false=>exact hb pins s1 σ H1 D I1 q1
end
abbrev TG:=V->St->Hp->(St->Hp->Prop)->Prop
abbrev TGs:=List V->St->Hp->(St->Hp->Prop)->Prop
def PG(X:Cx)(target:Expr)(t:TG):Prop:=
 ∀(pins:List (Addr×Obj))(s:Shared)(σ:St)(H:Hp)(v:V)(u:Value)(Q:St->Hp->Prop),Inv X pins σ H s->RelV v u->t v σ H Q ->
  wpAny (model X.prog X.w) X.A (assign target X.env u) (fun _ s'=>∃σ' H',Inv X pins σ' H' s'/\Q σ' H') X.xe s
def PGs(X:Cx)(ts:List Expr)(t:TGs):Prop:=
 ∀(pins:List (Addr×Obj))(s:Shared)(σ:St)(H:Hp)(vs:List V)(us:List Value)(Q:St->Hp->Prop),Inv X pins σ H s->Vals vs us->t vs σ H Q ->
  wpAny (model X.prog X.w) X.A (assignInOrder ((assignEach ts X.env).map (·.2)) us) (fun _ s'=>∃σ' H',Inv X pins σ' H' s'/\Q σ' H') X.xe s
abbrev TSet:=V->V->V->Hp->(Hp->Prop)->Prop
def PSet(X:Cx)(t:TSet):Prop:=
 ∀(pins:List (Addr×Obj))(s:Shared)(σ:St)(H:Hp)(o i v:V)(ov iv u:Value)(Q:Hp->Prop),Inv X pins σ H s->RelV o ov->RelV i iv->RelV v u->t o i v H Q ->
  wpAny (model X.prog X.w) X.A (setItem ov iv u) (fun _ s'=>∃H',Inv X pins σ H' s'/\Q H') X.xe s
section
variable{X:Cx}{pos:Pos}
noncomputable def zHY(i:Nat):TG:=fun v σ H Q=>Q (σ.set i (some v)) H
theorem zAU{i:Nat}{x:Str}(hN:X.N.Nodup)(hi:X.N[i]?=some x)(hx:Loc X.env.scope x)(hf:X.fn x=true\/X.env.scope.names.lookup x=some .local:=by first|exact .inl rfl|exact .inr rfl|assumption):PG X (.Name x pos) (zHY i):=by
 intro pins s σ H v u Q I r h;exact wpAny_assign_Name (zN6 I hN hi hx r (fun s' I'=>⟨_,H,I',h⟩) hf)
noncomputable def gNil:TGs:=fun vs σ H Q=>vs=[]/\Q σ H
noncomputable def za1(t:TG)(u:TGs):TGs:=fun vs σ H Q=>∃v r,vs=v::r/\t v σ H fun σ' H'=>u r σ' H' Q
theorem zHL:PGs X [] gNil:=by
 intro pins s σ H vs us Q I r h;obtain⟨e,h⟩:=h;subst e;cases r;exact assignInOrder_nil ⟨σ,H,I,h⟩
theorem zCC{e:Expr}{es:List Expr}{t:TG}{u:TGs}(h1:PG X e t)(h2:PGs X es u)
  (hs:(assignEach (e::es) X.env).map (·.2)=assign e X.env::(assignEach es X.env).map (·.2):=by rfl):PGs X (e::es) (za1 t u):=by
 intro pins s σ H vs us Q I r h;obtain⟨v,vr,e1,h⟩:=h;subst e1;cases r with
 |cons r rr=>
  rw[hs];refine assignInOrder_cons (thn (h1 pins s σ H _ _ _ I r h) fun _ s1 z0=>?_);obtain⟨σ1,H1,I1,q1⟩:=z0;exact h2 pins s1 σ1 H1 _ _ Q I1 rr q1
noncomputable def gTup(K:qA2)(n:Nat)(t:TGs):TG:=fun v σ H Q=>∃a xs,v=.ref a/\SqT K H a xs/\xs.length=n/\t xs σ H Q
theorem zZ2{es:List Expr}{k:Nat}{t:TGs}{n:Nat}(hc:X.calm=true)(h:PGs X es t)
  (hn:(assignEach es X.env).length=n:=by rfl) (hst:(assignEach es X.env).findIdx? (·.1)=none:=by rfl):PG X (.Tuple es k pos) (gTup X.K n t):=by
 intro pins s σ H v u Q I r hw;obtain⟨a,xs,e1,hq,hl,hw⟩:=hw;subst e1;cases r;obtain⟨its,rv,ht,hz⟩:=I.tuple hq;refine assign_Tuple_tuple (I.ok.hd hc) ht (by simp[hn,<- hl,rv.length]) hst fun h' hx=>?_
 have I1:Inv X pins σ H { s with heap:=h' }:=I.kept (t':=s.toks) fun b o e=>hx b o (qAr (Heap.lt_size e)) e
 exact h pins _ σ H xs _ Q I1 (by simpa using rv) hw
noncomputable def gSub(to ti:TE)(t:TSet):TG:=fun v σ H Q=>to σ H fun o H1=>ti σ H1 fun i H2=>t o i v H2 fun H3=>Q σ H3
theorem zKJ{o i:Expr}{to ti:TE}{t:TSet}(ho:PE X o to)(hi:PE X i ti)(hs:PSet X t)
  (ha:∀v,assign (.Subscript o i pos) X.env v=(do
   let ov <- holding [v] (eval o X.env)
   let iv <- holding [v,ov] (eval i X.env)
   standAt pos
   holding [v,ov,iv] (setItem ov iv v)
   release [v,ov,iv] []):=by intro _;rfl):PG X (.Subscript o i pos) (gSub to ti t):=by
 intro pins s σ H v u Q I r h;rw[ha];refine wpAny_bind (wpAny_holding (thn (ho pins s σ H _ I h) fun ov s1 z0=>?_));obtain⟨x,H1,I1,r1,q1⟩:=z0;refine wpAny_bind (wpAny_holding (thn (hi pins s1 σ H1 _ I1 q1) fun iv s2 z0=>?_));obtain⟨y,H2,I2,r2,q2⟩:=z0;refine wpAny_bind (wpAny_standAt (wpAny_bind (wpAny_holding (thn (hs pins s2 σ H2 x y v ov iv u _ I2 r1 r2 r q2) fun _ s3 z0=>?_))));obtain⟨H3,I3,q3⟩:=z0;exact wpAny_release ⟨σ,H3,I3,q3⟩
noncomputable def tAsg(te:TE)(g:TG):TS:=fun D σ H=>te σ H fun x H1=>g x σ H1 D.nx
theorem zGL{tg e:Expr}{te:TE}{g:TG}(he:PE X e te)(hg:PG X tg g)(hs:swapsWithSole [tg] e pos.line X.env=pure false:=by rfl)(hw:swappedStores [tg] e X.env=pure none:=by rfl)
  (h1:(assignEach [tg] X.env).map (·.2)=[assign tg X.env]:=by rfl):PS X (.Assign [tg] e pos) (tAsg te g):=by
 intro pins s σ H D I h;refine wpAny_Assign_stores (thn (he pins s σ H _ I h) fun v s1 z0=>?_) hs hw;obtain⟨x,H1,I1,r1,q1⟩:=z0;rw[h1];exact thn (hg pins s1 σ H1 x v _ I1 r1 q1) fun _ s2 q=>q
theorem zUZ{i:Nat}{x:Str}{e:Expr}{te:TE}{pos':Pos}(hN:X.N.Nodup)(hi:X.N[i]?=some x)(hx:Loc X.env.scope x)(he:PE X e te)(hs:swapsWith e (some (.Name x pos')) pos.line X.env=pure false:=by rfl)(hf:X.fn x=true\/X.env.scope.names.lookup x=some .local:=by first|exact .inl rfl|exact .inr rfl|assumption) :
  PS X (.Assign [.Name x pos'] e pos) (tAsg te (zHY i)):=by
 intro pins s σ H D I h;refine wpAny_Assign_Name (thn (he pins s σ H _ I h) fun v s1 z0=>?_) hs;obtain⟨y,H1,I1,r1,q1⟩:=z0;exact zN6 I1 hN hi hx r1 (fun s2 I2=>⟨_,H1,I2,q1⟩) hf
noncomputable def zPV(c:TT)(tb:TS):TS:=fun D σ H=>∃W:Nat->St->Hp->Prop,(∃m,W m σ H)/\∀m σ H,W m σ H ->
 c σ H fun b H1=>if b=true then ∃N:St->Hp->Prop,(∀σ' H',N σ' H'->∃m',m'<m/\W m' σ' H')/\tb { D with nx:=N,ct:=N,bk:=D.nx } σ H1 else D.nx σ H1
theorem zJ7{c:Expr}{body:List Stmt}{tc:TT}{tb:TS}(hp:PassesOwn (model X.prog X.w) X.A X.env X.xe)(hc:PT X c tc)(hb:PSs X body tb):PS X (.While c body [] pos) (zPV tc tb):=by
 intro pins s σ H D I h;obtain⟨W,⟨m0,w0⟩,turn⟩:=h;refine wpAny_While (codeAny_whileLoop (fun n s'=>∃σ' H',Inv X pins σ' H' s'/\W n σ' H') ?_ m0 ⟨σ,H,I,w0⟩)
 rintro n s1 ⟨σ1,H1,I1,w1⟩
 refine wpAny_passesOwn hp (thn (hc pins s1 σ1 H1 _ I1 (turn n σ1 H1 w1)) fun b s2 z0=>?_);obtain⟨H2,I2,q2⟩:=z0;cases b with
 |true=>
  obtain⟨N,hN,q2⟩:=q2;rw[if_pos rfl];refine wpAny_passesOwn hp (thn (hb pins s2 σ1 H2 _ I2 q2) fun f s3 q3=>?_);cases f with
  |next=>
   obtain⟨σ3,H3,I3,n3⟩:=q3;obtain⟨m',hm,w3⟩:=hN σ3 H3 n3;exact⟨m',hm,σ3,H3,I3,w3⟩
  |cont=>
   obtain⟨σ3,H3,I3,n3⟩:=q3;obtain⟨m',hm,w3⟩:=hN σ3 H3 n3;exact⟨m',hm,σ3,H3,I3,w3⟩
  |brk=>exact q3
  |ret v=>exact q3
 |false=>
  rw[if_neg qAe];exact wpAny_execs_nil ⟨σ1,H2,I2,q2⟩
end
structure It where
 go:Nat->Hp->Prop
 yld:Nat->Hp->V->Hp->Prop
 stop:Nat->Hp->Prop
def FpOk(X:Cx)(pins:List (Addr×Obj))(H:Hp)(b:Addr):Prop:=
 H b=none/\b≠X.env.locals/\b∉X.fs/\(b∈X.ex\/X.s₀.heap.objs.size<=b)/\(∀x c,X.env.cells.lookup x=some c->c≠b)/\∀p∈X.pn++pins,p.1≠b
theorem Inv.fpOk{X:Cx}{pins:List (Addr×Obj)}{σ:St}{H H':Hp}{s:Shared}{b:Addr}(I:Inv X pins σ H s)(hb:s.heap.objs.size<=b)(hn:H' b=none):FpOk X pins H' b:=by
 refine⟨hn,qC0 (qAf I.lt hb),I.nofs hb,.inr (qAo I.sz hb),fun x c e z=>?_,fun p hp z=>?_⟩
 ·obtain⟨v,q⟩:=I.cell x c e;exact absurd (qAf q.lt (by rw[z];exact hb)) (qCj _)
 ·exact absurd (qAf (Heap.lt_size (I.pin p hp).1) (by rw[z];exact hb)) (qCj _)
structure Turn(P:Program)(w:World)(K:qA2)(tg:Expr)(J:It)(fp:List Addr)(it:Addr)(tn:Nat->Heap->Prop):Prop where
 mem:it∈fp
 obj:∀i h,tn i h->∀b∈fp,∃o,h.get? b=some o/\∀v,o.data≠.cell v
 keep:∀i h h',tn i h->(∀b∈fp,∀o,h.get? b=some o->h'.get? b=some o)->tn i h'
 item:∀(X:Cx),X.prog=P->X.w=w->X.K=K->X.calm=true->∀(i:Nat)(pins:List (Addr×Obj))(s:Shared)(σ:St)(H:Hp)(E:Value->Shared->Prop),Inv X pins σ H s->(∀b∈fp,FpOk X pins H b)->tn i s.heap->J.go i H ->
  wpAny (model P w) X.A (pyNext (.ref it)) (fun r s1=>∃u,r=some u /\
   wpAny (model P w) X.A (letOwnedTupleGo tg (.ref it) u) (fun _ s2=>∃x H',Inv X pins σ H' s2/\RelV x u/\J.yld i H x H'/\tn (i+1) s2.heap/\∀b∈fp,H' b=none) E s1) E s
 done:∀(X:Cx),X.prog=P->X.w=w->X.K=K->X.calm=true->∀(i:Nat)(pins:List (Addr×Obj))(s:Shared)(σ:St)(H:Hp)(E:Value->Shared->Prop),Inv X pins σ H s->(∀b∈fp,FpOk X pins H b)->tn i s.heap->J.stop i H ->
  wpAny (model P w) X.A (pyNext (.ref it)) (fun r s1=>r=none/\Inv X pins σ H s1) E s
 self:∀(A:Around)(i:Nat)(s:Shared)(Q:Value->Shared->Prop)(E:Value->Shared->Prop),tn i s.heap->Q (.ref it) s->wpAny (model P w) A (pyIter (.ref it)) Q E s
abbrev TI:=St->Hp->(It->Hp->Prop)->Prop
def PIE(X:Cx)(pins:List (Addr×Obj))(σ:St)(tg:Expr)(R:It->Hp->Prop)(itv:Value)(s2:Shared):Prop:=
 ∃(it:Addr)(fp:List Addr)(tn:Nat->Heap->Prop)(J:It)(H':Hp),itv=.ref it/\Inv X pins σ H' s2/\Turn X.prog X.w X.K tg J fp it tn/\tn 0 s2.heap/\(∀b∈fp,FpOk X pins H' b)/\R J H'
def PI(X:Cx)(tg iter:Expr)(wi:TI):Prop:=
 ∀(pins:List (Addr×Obj))(s:Shared)(σ:St)(H:Hp)(R:It->Hp->Prop),Inv X pins σ H s->wi σ H R ->
  wpAny (model X.prog X.w) X.A (eval iter X.env) (fun v s1=>wpAny (model X.prog X.w) X.A (pyIter v) (PIE X pins σ tg R) X.xe s1) X.xe s
theorem zRI{M:Model}{A:Around}{E:Value->Shared->Prop}{s:Shared}{tg:Expr}{it:Addr}{u:Value}{o:Obj}{n:String}{vs:Array Value}{Q:Unit->Shared->Prop}(ho:s.heap.get? it=some o)(hc:o.cls=.type n)(hd:o.data=.fields vs)
  (hn:["enumerate","zip","dict_itemiterator","dict_reverseitemiterator","odict_iterator","itertools.zip_longest","itertools.pairwise"].contains n=false) (hQ:Q () s):wpAny M A (letOwnedTupleGo tg (.ref it) u) Q E s:=by
 unfold letOwnedTupleGo;cases tg<;>first
  |exact wpAny_pure hQ
  |(cases u<;>first
    |exact wpAny_pure hQ
    |(refine wpAny_bind (wpAny_load ho ?_)
      rw[hc,hd];show wpAny M A (if(["enumerate","zip","dict_itemiterator","dict_reverseitemiterator","odict_iterator","itertools.zip_longest","itertools.pairwise"].contains n&&vs[0]?==some (rawInt _))=true then _ else _) Q E s;rw[if_neg (by intro h;rw[hn,Bool.false_and]at h;cases h)];exact wpAny_pure hQ))
noncomputable def Itl(K:qA2)(a:Addr):It:=
 ⟨fun i H=>∃xs x,SqL K H a xs/\xs[i]?=some x,fun i H x H'=>H'=H/\∀xs,SqL K H a xs->xs[i]?=some x,fun i H=>∃xs,SqL K H a xs/\xs.length<=i⟩
noncomputable def Itt(K:qA2)(a:Addr):It:=
 ⟨fun i H=>∃xs x,SqT K H a xs/\xs[i]?=some x,fun i H x H'=>H'=H/\∀xs,SqT K H a xs->xs[i]?=some x,fun i H=>∃xs,SqT K H a xs/\xs.length<=i⟩
noncomputable def Itr(lo:Int)(n:Nat):It:=⟨fun i _=>i<n,fun i H x H'=>H'=H/\x=.int (lo+i),fun i _=>n<=i⟩
theorem zPR{P:Program}{w:World}{K:qA2}{tg:Expr}(a it:Addr):Turn P w K tg (Itl K a) [it] it (fun i h=>h.IsListIter it a i) where
 mem:=by simp
 obj:=fun i h st b hb=>by
  have e:b=it:=by simpa using hb
  subst e;obtain⟨o,e,c,d⟩:=st;exact⟨o,e,fun v z=>by rw[d]at z;cases z⟩
 keep:=fun i h h' st k=>st.at fun o e=>k it (by simp) o e
 item:=by
  intro X hP hw hK hc i pins s σ H E I hf st hg;subst hP hw hK;obtain⟨xs,x,hq,hx⟩:=hg;obtain⟨its,rv,p,hz⟩:=I.list hq;obtain⟨u,hu,ru⟩:=rv.get hx;obtain⟨f0,f1,f2,f3,f4,f5⟩:=hf it (by simp);refine wpAny_pyNext_list_item st p.isList (x:=u) (by simpa using hu) fun h' st' sb=>?_
  have I1:Inv X pins σ H { s with heap:=h' }:=I.turned (t':=s.toks) (fun b o hb e=>(sb.2 b hb).trans e) f0 f1 f3 f4 f5;obtain⟨o,e,c,d⟩:=id st';exact⟨u,rfl,zRI (s:={ s with heap:=h' }) e c d (by decide) ⟨x,H,I1,ru,⟨rfl,fun ys hy=>by rw[I.list_inj hy hq];exact hx⟩,st',fun b hb=>(hf b hb).1⟩⟩
 done:=by
  intro X hP hw hK hc i pins s σ H E I hf st hg;subst hP hw hK;obtain⟨xs,hq,hx⟩:=hg;obtain⟨its,rv,p,hz⟩:=I.list hq;obtain⟨f0,f1,f2,f3,f4,f5⟩:=hf it (by simp);have hl:=rv.length;exact wpAny_pyNext_list_end (I.ok.hd hc) st p.isList (by simp;lia) fun h' eb=>⟨rfl,I.turned (t':=s.toks) (fun b o hb e=>eb b o hb e) f0 f1 f3 f4 f5⟩
 self:=fun _ _ _ _ _ st h=>wpAny_pyIter_listiter st h
theorem zOM{P:Program}{w:World}{K:qA2}{tg:Expr}(a it:Addr):Turn P w K tg (Itt K a) [it] it (fun i h=>h.IsTupleIter it a i) where
 mem:=by simp
 obj:=fun i h st b hb=>by
  have e:b=it:=by simpa using hb
  subst e;obtain⟨o,e,c,d⟩:=st;exact⟨o,e,fun v z=>by rw[d]at z;cases z⟩
 keep:=fun i h h' st k=>st.at fun o e=>k it (by simp) o e
 item:=by
  intro X hP hw hK hc i pins s σ H E I hf st hg;subst hP hw hK;obtain⟨xs,x,hq,hx⟩:=hg;obtain⟨its,rv,p,hz⟩:=I.tuple hq;obtain⟨u,hu,ru⟩:=rv.get hx;obtain⟨f0,f1,f2,f3,f4,f5⟩:=hf it (by simp);refine wpAny_pyNext_tuple_item st (show s.heap.IsTuple a its.toArray from p) (x:=u) (by simpa using hu) fun h' st' sb=>?_
  have I1:Inv X pins σ H { s with heap:=h' }:=I.turned (t':=s.toks) (fun b o hb e=>(sb.2 b hb).trans e) f0 f1 f3 f4 f5;obtain⟨o,e,c,d⟩:=id st';exact⟨u,rfl,zRI (s:={ s with heap:=h' }) e c d (by decide) ⟨x,H,I1,ru,⟨rfl,fun ys hy=>by rw[I.tuple_inj hy hq];exact hx⟩,st',fun b hb=>(hf b hb).1⟩⟩
 done:=by
  intro X hP hw hK hc i pins s σ H E I hf st hg;subst hP hw hK;obtain⟨xs,hq,hx⟩:=hg;obtain⟨its,rv,p,hz⟩:=I.tuple hq;obtain⟨f0,f1,f2,f3,f4,f5⟩:=hf it (by simp);have hl:=rv.length;exact wpAny_pyNext_tuple_end (I.ok.hd hc) st (show s.heap.IsTuple a its.toArray from p) (by simp;lia) fun h' eb=>⟨rfl,I.turned (t':=s.toks) (fun b o hb e=>eb b o hb e) f0 f1 f3 f4 f5⟩
 self:=fun _ _ _ _ _ st h=>wpAny_pyIter_tupleiter st h
theorem zON{P:Program}{w:World}{K:qA2}{tg:Expr}(it:Addr)(lo:Int)(n:Nat):Turn P w K tg (Itr lo n) [it] it (fun i h=>IsRangeIter h it (lo+(i:Nat)*1) ((n:Int)-(i:Nat)) 1) where
 mem:=by simp
 obj:=fun i h st b hb=>by
  have e:b=it:=by simpa using hb
  subst e;exact⟨_,st,fun v z=>by
   have z':Data.fields _=Data.cell v:=z;cases z'⟩
 keep:=fun i h h' st k=>k it (by simp) _ st
 item:=by
  intro X hP hw hK hc i pins s σ H E I hf st hg;subst hP hw hK;obtain⟨f0,f1,f2,f3,f4,f5⟩:=hf it (by simp);have W:=Walks.range (prog:=X.prog) (w:=X.w) (I.ok.hd hc) it lo 1 n;refine W.item i s _ _ hg st fun v h' tk hv st' kk=>?_
  obtain⟨t,rfl⟩:=hv;have I1:Inv X pins σ H { s with heap:=h',toks:=tk }:=I.turned (fun b o hb e=>kk b o (by simpa using hb) e) f0 f1 f3 f4 f5;refine⟨_,rfl,zRI (s:={ s with heap:=h',toks:=tk }) (n:="range_iterator") st' rfl rfl (by decide) ⟨.int (lo+i),H,I1,⟨t,?_⟩,⟨rfl,rfl⟩,st',fun b hb=>(hf b hb).1⟩⟩;rw[qHq]
 done:=by
  intro X hP hw hK hc i pins s σ H E I hf st hg;subst hP hw hK;obtain⟨f0,f1,f2,f3,f4,f5⟩:=hf it (by simp);exact wpAny_pyNext_range_end (I.ok.hd hc) st (by have:n<=i:=hg;lia) fun h' eb=>⟨rfl,I.turned (t':=s.toks) (fun b o hb e=>eb b o hb e) f0 f1 f3 f4 f5⟩
 self:=fun _ _ _ _ _ st h=>wpAny_pyIter_rangeiter st h
end L2
namespace L2
open PySem PySem.Spec PyProof.Rows
section
variable{X:Cx}{tg:Expr}
theorem zNK{pins:List (Addr×Obj)}{σ:St}{H:Hp}{s:Shared}{R:It->Hp->Prop}{E:Value->Shared->Prop}{lo hi:Int}{t u v:Tok}{tk:Nat}(I:Inv X pins σ H s)(h1:-(2 ^ 62)<=lo)(h2:lo<2 ^ 62)(h3:-(2 ^ 62)<=hi)(h4:hi<2 ^ 62)
  (q:R (Itr lo (hi-lo).toNat) H):wpAny (model X.prog X.w) X.A (pyIter (.ref s.heap.objs.size)) (PIE X pins σ tg R) E { s with heap:=s.heap.push { cls:=.type "range",data:=.fields #[.int lo t,.int hi u,.int 1 v] },toks:=tk }:=by
 refine wpAny_pyIter_range (IsRange.new ..) (small_one h1 h2 h3 h4) ?_;have I1:Inv X pins σ H { s with heap:=s.heap.push { cls:=.type "range",data:=.fields #[.int lo t,.int hi u,.int 1 v] },toks:=tk }:=I.kept fun b o e=>Heap.get?_push_of_some _ e
 refine⟨(s.heap.push { cls:=.type "range",data:=.fields #[.int lo t,.int hi u,.int 1 v] }).objs.size,[(s.heap.push { cls:=.type "range",data:=.fields #[.int lo t,.int hi u,.int 1 v] }).objs.size],_,_,H,rfl,
  I1.kept (t':=tk) fun b o e=>Heap.get?_push_of_some _ e,zON _ lo (hi-lo).toNat,?_,fun b hb=>?_,q⟩
 ·have e1:lo+((0:Nat):Int)*1=lo:=by simp
  have e2:(((hi-lo).toNat:Nat):Int)-((0:Nat):Int)=Builtin.Range.rangeSize lo hi 1:=by rw[rangeSize_one];split<;>lia
  show IsRangeIter _ _ (lo+((0:Nat):Int)*1) ((((hi-lo).toNat:Nat):Int)-((0:Nat):Int)) 1;rw[e1,e2];exact Heap.get?_push_size _ rfl
 ·have e:b=(s.heap.push { cls:=.type "range",data:=.fields #[.int lo t,.int hi u,.int 1 v] }).objs.size:=by simpa using hb
  subst e;exact I1.fpOk (qAa _) (I1.hok.fresh (qAa _))
def zZZ(ta:TA):TI:=fun σ H R=>ta σ H fun vs H1=>∃j:Int,vs=[.int j]/\-(2 ^ 62)<=j/\j<2 ^ 62/\R (Itr 0 j.toNat) H1
def zZY(ta:TA):TI:=fun σ H R=>ta σ H fun vs H1=>∃i j:Int,vs=[.int i,.int j]/\(-(2 ^ 62)<=i/\i<2 ^ 62/\-(2 ^ 62)<=j/\j<2 ^ 62)/\R (Itr i (j-i).toNat) H1
theorem zBA{a:Expr}{ta:TA}{p pos:Pos}(hg:Gl X "range")(hm:X.mg "range" = none)(ha:PA X [a] ta)(hs:starEach [a] X.env=[(false,eval a X.env)]:=by rfl):PI X tg (.Call (.Name "range" p) [a] [] pos) (zZZ ta):=by
 intro pins s σ H R I h;refine Call_ (zHV I hg hm boot_range (qBf (thn (ha pos pins s σ H _ I h) fun us s1 z0=>?_) hs rfl));obtain⟨vs,H1,I1,r1,q1⟩:=z0;obtain⟨j,e,q1,q2,q⟩:=q1;subst e;cases r1 with
 |cons r rr=>
  cases rr;obtain⟨t,rfl⟩:=r;exact call_range_1 (zNK I1 (by lia) (by lia) q1 q2 (by simpa using q))
theorem zQP{a b:Expr}{ta:TA}{p pos:Pos}(hg:Gl X "range")(hm:X.mg "range" = none)(ha:PA X [a,b] ta)(hs:starEach [a,b] X.env=[(false,eval a X.env),(false,eval b X.env)]:=by rfl)(hs2:starEach [b] X.env=[(false,eval b X.env)]:=by rfl) :
  PI X tg (.Call (.Name "range" p) [a,b] [] pos) (zZY ta):=by
 intro pins s σ H R I h;refine Call_ (zHV I hg hm boot_range (qBf (thn (ha pos pins s σ H _ I h) fun us s1 z0=>?_) (by rw[hs,hs2]) (by rw[hs2];rfl)));obtain⟨vs,H1,I1,r1,q1⟩:=z0;obtain⟨i,j,e,⟨q1,q2,q3,q4⟩,q⟩:=q1;subst e;cases r1 with
 |cons r rr=>
  cases rr with
  |cons r' rr=>
   cases rr;obtain⟨t,rfl⟩:=r;obtain⟨t',rfl⟩:=r';exact call_range_2 (zNK I1 q1 q2 q3 q4 q)
noncomputable def tFor(wi:TI)(g:TG)(tb:TS):TS:=fun D σ H=>wi σ H fun J H1=>∃W:Nat->Nat->St->Hp->Prop,(∃m,W 0 m σ H1)/\∀i m σ H,W i m σ H ->
 (J.stop i H/\D.nx σ H)\/(J.go i H/\∃N:St->Hp->Prop,(∀σ' H',N σ' H'->∃m',m'<m/\W (i+1) m' σ' H')/\∀x H',J.yld i H x H'->g x σ H' fun σ2 H2=>tb { D with nx:=N,ct:=N,bk:=D.nx } σ2 H2)
noncomputable def zIH(fp:List Addr)(h:Heap):List (Addr×Obj):=fp.filterMap fun b=>(h.get? b).map fun o=>(b,o)
theorem zEE{fp:List Addr}{h:Heap}{b:Addr}{o:Obj}(hb:b∈fp)(e:h.get? b=some o):(b,o)∈zIH fp h:=qFn.mpr ⟨b,hb,by rw[e];rfl⟩
theorem zR1{fp:List Addr}{h:Heap}{p:Addr×Obj}(hp:p∈zIH fp h):p.1∈fp/\h.get? p.1=some p.2:=by
 obtain⟨b,hb,e⟩:=qFn.mp hp;cases q:h.get? b with
 |none=>rw[q]at e;cases e
 |some o=>
  rw[q]at e;have e':(b,o)=p:=qBe e;subst e';exact⟨hb,q⟩
theorem Inv.pinned{pins:List (Addr×Obj)}{σ:St}{H:Hp}{s:Shared}{fp:List Addr}(I:Inv X pins σ H s)(hf:∀b∈fp,FpOk X pins H b)(ho:∀b∈fp,∃o,s.heap.get? b=some o/\∀v,o.data≠.cell v):Inv X (pins++zIH fp s.heap) σ H s:=
 I.pins_of fun p hp=>(qBa.mp hp).elim (fun z=>I.pin p (qAz _ z)) fun z=>by
  obtain⟨hb,e⟩:=zR1 z;obtain⟨f0,f1,f2,_⟩:=hf p.1 hb;obtain⟨o,e',d⟩:=ho p.1 hb;rw[e]at e';cases e';exact⟨e,f0,f1,f2,d⟩
theorem Inv.unpinned{pins pl:List (Addr×Obj)}{σ:St}{H:Hp}{s:Shared}(I:Inv X (pins++pl) σ H s):Inv X pins σ H s:=I.pins_of fun p hp=>I.pin p (qAz _ (qBi _ hp))
theorem zZ1{iter:Expr}{body:List Stmt}{wi:TI}{g:TG}{tb:TS}{pos:Pos}(hp:PassesOwn (model X.prog X.w) X.A X.env X.xe)(hc:X.calm=true)(hi:PI X tg iter wi)(hg:PG X tg g)(hb:PSs X body tb)
  (hs:∀x,foldedSetIterable iter X.env x=pure x:=by intro _;rfl):PS X (.For tg iter body [] pos) (tFor wi g tb):=by
 intro pins s σ H D I h;refine wpAny_For (thn (hi pins s σ H _ I h) fun v s1 h1=>thn h1 fun itv s2 h2=>?_) hs;obtain⟨it,fp,tn,J,H2,e,I2,T,st2,f2,W,⟨m0,w0⟩,turn⟩:=h2;subst e;have stat:∀{H':Hp},(∀b∈fp,H' b=none)->∀b∈fp,FpOk X pins H' b:=fun hn b hb=>⟨hn b hb,(f2 b hb).2⟩
 refine codeAny_forLoop_any (fun n s'=>∃i σ' H',Inv X pins σ' H' s'/\tn i s'.heap/\(∀b∈fp,H' b=none)/\W i n σ' H') ?_ m0 ⟨0,σ,H2,I2,st2,fun b hb=>(f2 b hb).1,w0⟩
 rintro n s3 ⟨i,σ3,H3,I3,st3,fr3,w3⟩
 rcases turn i n σ3 H3 w3 with⟨stop,qn⟩|⟨go,N,hN,step⟩
 ·refine wpAny_passesOwn hp (thn (T.done X rfl rfl rfl hc i pins s3 σ3 H3 X.xe I3 (stat fr3) st3 stop) fun r s4 z0=>?_);obtain⟨hr,I4⟩:=z0;subst hr;exact wpAny_execs_nil ⟨σ3,H3,I4,qn⟩
 ·refine wpAny_passesOwn hp (thn (T.item X rfl rfl rfl hc i pins s3 σ3 H3 X.xe I3 (stat fr3) st3 go) fun r s4 z0=>?_);obtain⟨u,hr,h4⟩:=z0;subst hr;refine wpAny_passesOwn hp (thn h4 fun _ s5 z0=>?_);obtain⟨x,H5,I5,r5,y5,st5,fr5⟩:=z0;have I5':=I5.pinned (stat fr5) (T.obj _ _ st5);refine wpAny_passesOwn hp (thn (hg _ s5 σ3 H5 x u _ I5' r5 (step x H5 y5)) fun _ s6 z0=>?_);obtain⟨σ6,H6,I6,q6⟩:=z0;refine wpAny_passesOwn hp (thn (hb _ s6 σ6 H6 _ I6 q6) fun f s7 q7=>?_);have again:∀{σ7:St}{H7:Hp},Inv X (pins++zIH fp s5.heap) σ7 H7 s7->N σ7 H7->∃m,m<n/\∃i σ' H',Inv X pins σ' H' s7/\tn i s7.heap/\(∀b∈fp,H' b=none)/\W i m σ' H':=fun{σ7 H7} I7 n7=>by
   obtain⟨m',hm,w7⟩:=hN σ7 H7 n7;refine⟨m',hm,i+1,σ7,H7,I7.unpinned,T.keep _ _ _ st5 fun b hb o e=>(I7.pin (b,o) (qAz _ (qAz _ (zEE hb e)))).1,fun b hb=>?_,w7⟩;obtain⟨o,e,d⟩:=T.obj _ _ st5 b hb;exact(I7.pin (b,o) (qAz _ (qAz _ (zEE hb e)))).2.1
  cases f with
  |next=>obtain⟨σ7,H7,I7,n7⟩:=q7;exact again I7 n7
  |cont=>obtain⟨σ7,H7,I7,n7⟩:=q7;exact again I7 n7
  |brk=>obtain⟨σ7,H7,I7,q7⟩:=q7;exact⟨σ7,H7,I7.unpinned,q7⟩
  |ret v=>obtain⟨x7,σ7,H7,I7,r7,q7⟩:=q7;exact⟨x7,σ7,H7,I7.unpinned,r7,q7⟩
end
end L2
namespace L2
open PySem PySem.Spec PyProof.Rows
abbrev R2:=V->V->Hp->VK->Prop
def OpR(X:Cx)(f:Value->Value->Sem Value)(r:R2):Prop:=
 ∀(pins:List (Addr×Obj))(s:Shared)(σ:St)(H:Hp)(x y:V)(v u:Value)(Q:VK),Inv X pins σ H s->RelV x v->RelV y u->r x y H Q ->
  wpAny (model X.prog X.w) X.A (f v u) (EP X pins σ Q) X.xe s
def UnR(X:Cx)(f:Value->Sem Value)(r:V->Hp->VK->Prop):Prop:=
 ∀(pins:List (Addr×Obj))(s:Shared)(σ:St)(H:Hp)(x:V)(v:Value)(Q:VK),Inv X pins σ H s->RelV x v->r x H Q ->
  wpAny (model X.prog X.w) X.A (f v) (EP X pins σ Q) X.xe s
def zGT(X:Cx)(f:Value)(r:List V->Hp->VK->Prop):Prop:=
 ∀(pins:List (Addr×Obj))(s:Shared)(σ:St)(H:Hp)(xs:List V)(us:List Value)(Q:VK),Inv X pins σ H s->Vals xs us->r xs H Q ->
  wpAny (model X.prog X.w) X.A (call f us) (EP X pins σ Q) X.xe s
noncomputable def tOp(r:R2)(ta tb:TE):TE:=fun σ H Q=>ta σ H fun x H1=>tb σ H1 fun y H2=>r x y H2 Q
noncomputable def tUn(r:V->Hp->VK->Prop)(ta:TE):TE:=fun σ H Q=>ta σ H fun x H1=>r x H1 Q
noncomputable def rI(C:Int->Int->Prop)(g:Int->Int->V):R2:=fun x y H Q=>∃i j,x=.int i/\y=.int j/\C i j/\Q (g i j) H
noncomputable def rI0(g:Int->Int->V):R2:=fun x y H Q=>∃i j,x=.int i/\y=.int j/\Q (g i j) H
def rU(g:Int->V):V->Hp->VK->Prop:=fun x H Q=>∃i,x=.int i/\Q (g i) H
section
variable{X:Cx}{a b c:Expr}{ta tb tc:TE}{pos:Pos}
theorem binT(ha:PE X a ta)(hb:PE X b tb){pins:List (Addr×Obj)}{s:Shared}{σ:St}{H:Hp}{R:V->V->Hp->Prop}(I:Inv X pins σ H s)
  (h:ta σ H fun x H1=>tb σ H1 fun y H2=>R x y H2) {Q:Value->Shared->Prop} {f:Value->Value->Sem Value}
  (hf:∀v u s2 x y H2,Inv X pins σ H2 s2->RelV x v->RelV y u->R x y H2->wpAny (model X.prog X.w) X.A (f v u) Q X.xe s2) :
  wpAny (model X.prog X.w) X.A (eval a X.env) (fun v s₁=>wpAny (model X.prog X.w) X.A (eval b X.env) (fun u s₂=>wpAny (model X.prog X.w) X.A (f v u) Q X.xe s₂) X.xe s₁) X.xe s:=by
 refine thn (ha pins s σ H _ I h) fun v s1 z0=>?_
 obtain⟨x,H1,I1,r1,q1⟩:=z0;refine thn (hb pins s1 σ H1 _ I1 q1) fun u s2 z0=>?_
 obtain⟨y,H2,I2,r2,q2⟩:=z0;exact hf v u s2 x y H2 I2 r1 r2 q2
theorem zAM{op:Operator}{r:R2}(ho:OpR X (binaryOp op) r)(ha:PE X a ta)(hb:PE X b tb):PE X (.BinOp a op b pos) (tOp r ta tb):=by
 intro pins s σ H Q I h;exact wpAny_BinOp (binT ha hb I h fun v u s2 x y H2 I2 rx ry q=>ho pins s2 σ H2 x y v u Q I2 rx ry q)
theorem zWF{op:UnaryOp}{r:V->Hp->VK->Prop}(ho:UnR X (unaryOp op) r)(ha:PE X a ta):PE X (.UnaryOp op a pos) (tUn r ta):=by
 intro pins s σ H Q I h;exact UnaryOp_ (thn (ha pins s σ H _ I h) fun v s1 ⟨x,H1,I1,r1,q1⟩=>ho pins s1 σ H1 x v Q I1 r1 q1)
theorem opI{f:Value->Value->Sem Value}{C:Int->Int->Prop}{g:Int->Int->Int}
  (rule:∀(i j:Int)(t u:Tok)(s:Shared)(Q:Value->Shared->Prop)(E:Value->Shared->Prop),C i j->Q (.int (g i j) s.toks) { s with toks:=s.toks+1 }->wpAny (model X.prog X.w) X.A (f (.int i t) (.int j u)) Q E s) :
  OpR X f (rI C fun i j=>.int (g i j)):=by
 intro pins s σ H x y v u Q I rx ry h;obtain⟨i,j,rfl,rfl,hc,q⟩:=h;obtain⟨t,rfl⟩:=rx;obtain⟨t',rfl⟩:=ry;exact rule i j t t' s _ _ hc ⟨.int (g i j),H,I.tok _,⟨_,rfl⟩,q⟩
theorem opI0{f:Value->Value->Sem Value}{g:Int->Int->Int}
  (rule:∀(i j:Int)(t u:Tok)(s:Shared)(Q:Value->Shared->Prop)(E:Value->Shared->Prop),Q (.int (g i j) s.toks) { s with toks:=s.toks+1 }->wpAny (model X.prog X.w) X.A (f (.int i t) (.int j u)) Q E s) :
  OpR X f (rI0 fun i j=>.int (g i j)):=by
 intro pins s σ H x y v u Q I rx ry h;obtain⟨i,j,rfl,rfl,q⟩:=h;obtain⟨t,rfl⟩:=rx;obtain⟨t',rfl⟩:=ry;exact rule i j t t' s _ _ ⟨.int (g i j),H,I.tok _,⟨_,rfl⟩,q⟩
theorem opB0{f:Value->Value->Sem Value}{g:Int->Int->Bool}
  (rule:∀(i j:Int)(t u:Tok)(s:Shared)(Q:Value->Shared->Prop)(E:Value->Shared->Prop),Q (.bool (g i j)) s->wpAny (model X.prog X.w) X.A (f (.int i t) (.int j u)) Q E s) :
  OpR X f (rI0 fun i j=>.bl (g i j)):=by
 intro pins s σ H x y v u Q I rx ry h;obtain⟨i,j,rfl,rfl,q⟩:=h;obtain⟨t,rfl⟩:=rx;obtain⟨t',rfl⟩:=ry;exact rule i j t t' s _ _ ⟨.bl (g i j),H,I,rfl,q⟩
def CDiv(i j:Int):Prop:=0<j/\j<1073741824
def CPow(i j:Int):Prop:=0<=j/\j<=1000000/\i.natAbs<2 ^ 64
def CMul(i j:Int):Prop:=(-(2 ^ 64)<i/\i<2 ^ 64)\/(-(2 ^ 64)<j/\j<2 ^ 64)
theorem CMul.ok{i j:Int}(h:CMul i j):IntMulOk i j:=by
 rcases h with⟨h1,h2⟩|⟨h1,h2⟩
 ·exact .of_left (intBits_le_64 h1 h2)
 ·exact .of_right (intBits_le_64 h1 h2)
theorem zZF:OpR X (binaryOp .Add) (rI0 fun i j=>.int (i+j)):=opI0 fun _ _ _ _ _ _ _ q=>add_int q
theorem zZ8:OpR X (binaryOp .Sub) (rI0 fun i j=>.int (i-j)):=opI0 fun _ _ _ _ _ _ _ q=>sub_int q
theorem op_fdiv:OpR X (binaryOp .FloorDiv) (rI CDiv fun i j=>.int (i/j)):=opI fun i j _ _ _ _ _ hc q=>by
 have h1:(0:Int)<j:=hc.1;have h2:j<1073741824:=hc.2;exact floordiv_int (by lia) (by rw[qE7 i (by lia)];exact q) (.inl (qEv (by lia)))
theorem zZC:OpR X (binaryOp .Mod) (rI (fun _ j=>0<j) fun i j=>.int (i%j)):=opI fun i j _ _ _ _ _ hc q=>by
 have h1:(0:Int)<j:=hc;exact mod_int' (by lia) (by rw[Int.fmod_eq_emod_of_nonneg i (by lia)];exact q)
theorem zZA:OpR X (binaryOp .Pow) (rI CPow fun i j=>.int (i ^ j.toNat)):=opI fun _ _ _ _ _ _ _ hc q=>pow_int_small hc.1 hc.2.1 hc.2.2 q
theorem zZ7:OpR X (binaryOp .BitXor) (rI0 fun i j=>.int (Builtin.bitXor i j)):=opI0 fun _ _ _ _ _ _ _ q=>xor_int q
theorem unI{f:Value->Sem Value}{g:Int->Int}
  (rule:∀(i:Int)(t:Tok)(s:Shared)(Q:Value->Shared->Prop)(E:Value->Shared->Prop),Q (.int (g i) s.toks) { s with toks:=s.toks+1 }->wpAny (model X.prog X.w) X.A (f (.int i t)) Q E s) :
  UnR X f (rU fun i=>.int (g i)):=by
 intro pins s σ H x v Q I rx h;obtain⟨i,rfl,q⟩:=h;obtain⟨t,rfl⟩:=rx;exact rule i t s _ _ ⟨.int (g i),H,I.tok _,⟨_,rfl⟩,q⟩
theorem zY1:UnR X (unaryOp .USub) (rU fun i=>.int (-i)):=unI fun _ _ _ _ _ q=>neg_int q
end
noncomputable def scal:V->V->Bool
 |.non,.non=>true | .non,.int _=>true | .int _,.non=>true | .non,.bl _=>true | .bl _,.non=>true | .non,.str _=>true | .str _,.non=>true
 |.int _,.int _=>true | .bl _,.bl _=>true | .str _,.str _=>true | .byt _,.byt _=>true
 |.int _,.str _=>true | .str _,.int _=>true | .bl _,.str _=>true | .str _,.bl _=>true
 |_,_=>false
def rEq:R2:=fun x y H Q=>scal x y=true/\Q (.bl (decide (x=y))) H
def rNe:R2:=fun x y H Q=>scal x y=true/\Q (.bl (!decide (x=y))) H
theorem zRV{i j:Int}:decide (V.int i=V.int j)=(i==j):=by
 rw[qE1];simp
theorem dec_bl{i j:Bool}:decide (V.bl i=V.bl j)=(i==j):=by
 rw[qE1];simp
theorem zRU{i j:Str}:decide (V.str i=V.str j)=(i==j):=by
 rw[qE1];simp
theorem zRW{i j:Array UInt8}:decide (V.byt i=V.byt j)=(i.toList==j.toList):=by
 rw[qE1];cases i;cases j;simp
section
variable{X:Cx}{a b c:Expr}{ta tb tc:TE}{pos:Pos}
theorem fin_bl{pins:List (Addr×Obj)}{σ:St}{H:Hp}{s:Shared}{Q:VK}{k k':Bool}(I:Inv X pins σ H s)(q:Q (.bl k) H)(e:k=k'):EP X pins σ Q (.bool k') s:=by
 subst e;exact⟨.bl k,H,I,rfl,q⟩
theorem zbA:OpR X (compareOp .Eq) rEq:=by
 intro pins s σ H x y v u Q I rx ry h;obtain⟨hs,q⟩:=h;cases x with
 |non=>
  cases rx;cases y with
  |non=>cases ry;exact qGt (fin_bl I q (by simp))
  |bl j=>cases ry;exact qGu (fin_bl I q (by simp))
  |int j=>obtain⟨t',rfl⟩:=ry;exact qH6 (fin_bl I q (by simp))
  |str j=>obtain⟨t',rfl⟩:=ry;exact qH7 (fin_bl I q (by simp))
  |_=>exact absurd (show false=true from hs) qAe
 |bl i=>
  cases rx;cases y with
  |non=>cases ry;exact qGv (fin_bl I q (by simp))
  |bl j=>cases ry;exact eq_bool (fin_bl I q dec_bl)
  |str j=>obtain⟨t',rfl⟩:=ry;exact qGw (fin_bl I q (by simp))
  |_=>exact absurd (show false=true from hs) qAe
 |int i=>
  obtain⟨t,rfl⟩:=rx;cases y with
  |non=>cases ry;exact qH8 (fin_bl I q (by simp))
  |int j=>obtain⟨t',rfl⟩:=ry;exact eq_int (fin_bl I q zRV)
  |str j=>obtain⟨t',rfl⟩:=ry;exact qH9 (fin_bl I q (by simp))
  |_=>exact absurd (show false=true from hs) qAe
 |str i=>
  obtain⟨t,rfl⟩:=rx;cases y with
  |non=>cases ry;exact qHa (fin_bl I q (by simp))
  |bl j=>cases ry;exact qGx (fin_bl I q (by simp))
  |int j=>obtain⟨t',rfl⟩:=ry;exact qHb (fin_bl I q (by simp))
  |str j=>obtain⟨t',rfl⟩:=ry;exact eq_str (fin_bl I q zRU)
  |_=>exact absurd (show false=true from hs) qAe
 |byt i=>
  obtain⟨t,rfl⟩:=rx;cases y with
  |byt j=>obtain⟨t',rfl⟩:=ry;exact PySem.W.eq_bytes (fin_bl I q zRW)
  |_=>exact absurd (show false=true from hs) qAe
 |_=>cases y<;>exact absurd (show false=true from hs) qAe
theorem zb7:OpR X (compareOp .NotEq) rNe:=by
 intro pins s σ H x y v u Q I rx ry h;obtain⟨hs,q⟩:=h;cases x with
 |non=>
  cases rx;cases y with
  |non=>cases ry;exact qGy (fin_bl I q (by simp))
  |bl j=>cases ry;exact qGz (fin_bl I q (by simp))
  |int j=>obtain⟨t',rfl⟩:=ry;exact qHc (fin_bl I q (by simp))
  |str j=>obtain⟨t',rfl⟩:=ry;exact qHd (fin_bl I q (by simp))
  |_=>exact absurd (show false=true from hs) qAe
 |bl i=>
  cases rx;cases y with
  |non=>cases ry;exact qH0 (fin_bl I q (by simp))
  |bl j=>cases ry;exact ne_bool (fin_bl I q (congrArg not dec_bl))
  |str j=>obtain⟨t',rfl⟩:=ry;exact qH1 (fin_bl I q (by simp))
  |_=>exact absurd (show false=true from hs) qAe
 |int i=>
  obtain⟨t,rfl⟩:=rx;cases y with
  |non=>cases ry;exact qHe (fin_bl I q (by simp))
  |int j=>obtain⟨t',rfl⟩:=ry;exact ne_int (fin_bl I q (congrArg not zRV))
  |str j=>obtain⟨t',rfl⟩:=ry;exact qHf (fin_bl I q (by simp))
  |_=>exact absurd (show false=true from hs) qAe
 |str i=>
  obtain⟨t,rfl⟩:=rx;cases y with
  |non=>cases ry;exact qHg (fin_bl I q (by simp))
  |bl j=>cases ry;exact qH2 (fin_bl I q (by simp))
  |int j=>obtain⟨t',rfl⟩:=ry;exact qHh (fin_bl I q (by simp))
  |str j=>obtain⟨t',rfl⟩:=ry;exact ne_str (fin_bl I q (congrArg not zRU))
  |_=>exact absurd (show false=true from hs) qAe
 |byt i=>
  obtain⟨t,rfl⟩:=rx;cases y with
  |byt j=>obtain⟨t',rfl⟩:=ry;exact PySem.W.ne_bytes (fin_bl I q (congrArg not zRW))
  |_=>exact absurd (show false=true from hs) qAe
 |_=>cases y<;>exact absurd (show false=true from hs) qAe
theorem zb8:OpR X (compareOp .Lt) (rI0 fun i j=>.bl (decide (i<j))):=opB0 fun _ _ _ _ _ _ _ q=>lt_int q
theorem zb9:OpR X (compareOp .Gt) (rI0 fun i j=>.bl (decide (j<i))):=opB0 fun _ _ _ _ _ _ _ q=>gt_int q
theorem zC5(b:Expr){op:CmpOp}(h:op≠.In:=by decide)(h2:op≠.NotIn:=by decide):behindInMarks op b=false:=by
 have e1:(op==CmpOp.In)=false:=by cases op<;>first|rfl|exact absurd rfl h
 have e2:(op==CmpOp.NotIn)=false:=by cases op<;>first|rfl|exact absurd rfl h2
 cases b<;>simp[behindInMarks,e1,e2]
theorem zQS{op:CmpOp}{r:R2}(ho:OpR X (compareOp op) r)(ha:PE X a ta)(hb:PE X b tb)(hm:behindInMarks op b=false):PE X (.Compare a [op] [b] pos) (tOp r ta tb):=by
 intro pins s σ H Q I h;exact wpAny_Compare1 (binT ha hb I h fun v u s2 x y H2 I2 rx ry q=>ho pins s2 σ H2 x y v u Q I2 rx ry q) hm
theorem zIK:(sizeLine:Nat)<2 ^ 63:=by rw[sizeLine_eq];decide
theorem zOZ:OpR X (binaryOp .Add) (fun x y H Q=>∃i j,x=.str i/\y=.str j/\i.length+j.length<=sizeLine/\Q (.str (i++j)) H):=by
 intro pins s σ H x y v u Q I rx ry h;obtain⟨i,j,rfl,rfl,hz,q⟩:=h;obtain⟨t,rfl⟩:=rx;obtain⟨t',rfl⟩:=ry;exact add_str (fun t' tk=>⟨.str (i++j),H,I.tok _,⟨_,rfl⟩,q⟩) hz
theorem zFY{x:V}{us:List Value}(r:Vals [x] us):∃u,us=[u]/\RelV x u:=by
 cases r with
 |cons r1 r2=>cases r2;exact⟨_,rfl,r1⟩
theorem zaN{x y:V}{us:List Value}(r:Vals [x,y] us):∃u w',us=[u,w']/\RelV x u/\RelV y w':=by
 cases r with
 |cons r1 r2=>
  cases r2 with
  |cons r3 r4=>cases r4;exact⟨_,_,rfl,r1,r3⟩
theorem zS6:zGT X (.type "int") (fun xs H Q=>(∃i,xs=[.int i]/\Q (.int i) H)\/∃k,xs=[.bl k]/\Q (.int (if k then 1 else 0)) H):=by
 intro pins s σ H xs us Q I r h
 rcases h with⟨i,rfl,q⟩|⟨k,rfl,q⟩
 ·obtain⟨u,rfl,t,rfl⟩:=zFY r;exact call_int_int ⟨.int i,H,I,⟨_,rfl⟩,q⟩
 ·obtain⟨u,rfl,r1⟩:=zFY r;cases r1;exact call_int_bool ⟨.int (if k then 1 else 0),H,I.tok _,⟨_,rfl⟩,q⟩
end
end L2
namespace L2
open PySem PySem.Spec PyProof.Rows
structure ObjM(h:Heap)(x dx C:Addr)(mA:Str->Option Value):Prop where
 obj:h.get? x=some (qGh C dx)
 ns:h.Ns1 dx mA
 ne:dx≠x
section
variable{prog:Program}{w:World}{A:Around}{E:Value->Shared->Prop}{s:Shared}{K:qA2}{x dx C f:Addr}{mA:Str->Option Value}{name:Str}{v:Value}
end
theorem RelO.some_of{v:V}{o:Option Value}(r:RelO (some v) o):∃u,o=some u/\RelV v u:=by
 cases o with
 |none=>exact(show False from r).elim
 |some u=>exact⟨u,rfl,r⟩
section
variable{P:Program}{w:World}{H H':Hp}{h h':Heap}{a C dx:Addr}{fs fs':List (Str×V)}
end
structure Cls(K:qA2)(C:Addr):Prop where
 pg:PySem.W.plainGet K C Str.empty=true
 hd:qDi K C=true
 po:PySem.W.plainOver K C=true
 sa:qAj K (.ref C) "__setattr__" = some (some (.builtin "object.__setattr__"))
def zVV(K:qA2)(C:Addr)(f:Str):Prop:=qAj K (.ref C) f=some none
structure Con(K:qA2)(C:Addr)(f:Str)(v:V)(u:Value):Prop where
 at_:qAj K (.ref C) f=some (some u)
 rel:RelV v u
 get:qCb K u "__get__" = some none
 cp:PySem.W.copiedNames.contains f=false
structure Meth(K:qA2)(C:Addr)(m:Str)(f:Addr):Prop where
 at_:qAj K (.ref C) m=some (some (.ref f))
 fn:qDo K (.ref f)=true
 kp:qB0 K (.ref f)=true
section
variable{X:Cx}{pins:List (Addr×Obj)}{σ:St}{H:Hp}{s:Shared}{a C dx:Addr}{fs:List (Str×V)}{f:Str}{v:V}{A:Around}{E:Value->Shared->Prop}
end
section
variable{X:Cx}{o e value:Expr}{f:Str}{pos pos' tpos:Pos}{ta tv:TE}
end
section
variable{X:Cx}{pins:List (Addr×Obj)}{σ:St}{H:Hp}{s:Shared}{A:Around}{E:Value->Shared->Prop}{Q:Value->Shared->Prop}{c:Value}{b:Bool}
inductive TyOf(K:qA2)(H:Hp):V->Value->Prop where
 |non:TyOf K H .non (.type "NoneType")
 |bl (x:Bool):TyOf K H (.bl x) (.type "bool")
 |int (i:Int):TyOf K H (.int i) (.type "int")
 |str (x:Str):TyOf K H (.str x) (.type "str")
 |flt (x:UInt64):TyOf K H (.flt x) (.type "float")
 |lst {a:Addr} {xs:List V} (e:H a=some (.lst xs)):TyOf K H (.ref a) (.type "list")
 |frz {a:Addr} {o:Obj} {xs:List V} (e:H a=some (.frz o (.lst xs))):TyOf K H (.ref a) (.type "list")
 |tup {a:Addr} {xs:List V} (e:H a=some (.tup xs)):TyOf K H (.ref a) (.type "tuple")
 |dK {a:Addr} {kvs:List (Key×V)} (e:H a=some (.dK kvs)):TyOf K H (.ref a) (.type "dict")
 |dT {a:Addr} {kvs:List (List Key×V)} (e:H a=some (.dT kvs)):TyOf K H (.ref a) (.type "dict")
 |ins {a C dx:Addr} {fs:List (Str×V)} (e:H a=some (.ins C dx fs)) (cl:Cls K C) (ha:qAj K (.ref C) "__class__" = some (some (.builtin "object.__class__")))
   (hn:qCb K (.builtin "object.__class__") "__get__" = some (some (.builtin "getset_descriptor.__get__"))) (htk:qEz K (.builtin "object.__class__")=some true)
   (hm:qDy K C (.type "object")=some true):TyOf K H (.ref a) (.ref C)
end
end L2
namespace L2
open PySem PySem.Spec PyProof.Rows
structure Room(k:Nat)(A:Around):Prop where
 hd:A.handled=none
 dp:A.depth+3*k+5<recursionLimit
 un:A.units+16*k+200<cLine
theorem Room.mono{j k:Nat}{A:Around}(r:Room k A)(h:j<=k):Room j A:=⟨r.hd,by have:=r.dp;lia,by have:=r.un;lia⟩
theorem Room.deeper{k:Nat}{A:Around}(r:Room (k+1) A)(env:Env):Room k (A.deeper env):=
 ⟨r.hd,by have:=r.dp;show A.depth+1+3*k+5<_;lia,by have:=r.un;show A.units+3+16*k+200<_;lia⟩
theorem zP3{A:Around}{C:Addr}{us:List Value}{kw:List (Str×Value)}:(A.under (.builtin "type.__call__" ⟨.ref C::us,kw⟩)).depth=A.depth+1:=by
 first|rfl|simp[Around.under,Code.weight,Code.isCreation,Code.isGuard,Code.isCaller,Code.frames,Code.isFrame,guardIds]
theorem zP2{A:Around}{C:Addr}{us:List Value}{kw:List (Str×Value)}:(A.under (.builtin "type.__call__" ⟨.ref C::us,kw⟩)).units=A.units+1:=by
 first|rfl|simp[Around.under,Code.cUnits,Code.frames,Code.isFrame]
theorem Room.make{k:Nat}{A:Around}(r:Room (k+1) A)(C:Addr)(us:List Value)(kw:List (Str×Value)):Room k (A.under (.builtin "type.__call__" ⟨.ref C::us,kw⟩)):=
 ⟨r.hd,by have:=r.dp;rw[zP3];lia,by have:=r.un;rw[zP2];lia⟩
theorem Room.depth{k:Nat}{A:Around}(r:Room k A):A.depth<recursionLimit:=by have:=r.dp;lia
theorem Room.units{k:Nat}{A:Around}(r:Room k A):A.units+64<cLine:=by have:=r.un;lia
noncomputable def tNil:TA:=fun _ H Q=>Q [] H
noncomputable def zG0(ta:TE)(tr:TA):TA:=fun σ H Q=>ta σ H fun x H1=>tr σ H1 fun xs H2=>Q (x::xs) H2
section
variable{X:Cx}{e:Expr}{es:List Expr}{te:TE}{t:TA}{pos:Pos}
theorem zA5:PA X [] tNil:=fun _ _ _ _ H Q I h=>Calls.spliced_nil ⟨[],H,I,.nil,h⟩
theorem zA1(ha:PE X e te)(hr:PA X es t)(hs:starEach (e::es) X.env=(false,eval e X.env)::starEach es X.env:=by rfl):PA X (e::es) (zG0 te t):=by
 intro pos pins s σ H Q I h;rw[hs];show wpAny _ _ (spliced ((false,eval e X.env)::backTo pos (starEach es X.env))) _ _ s;refine Calls.spliced_cons (thn (ha pins s σ H _ I h) fun u s1 z0=>?_);obtain⟨x,H1,I1,r1,q1⟩:=z0;exact thn (hr pos pins s1 σ H1 _ I1 q1) fun us s2 ⟨xs,H2,I2,r2,q2⟩=>⟨x::xs,H2,I2,.cons r1 r2,q2⟩
def tTup(t:TA):TE:=fun σ H Q=>t σ H fun xs H1=>xs.length<=sizeLine/\∀p,H1 p=none->Q (.ref p) (upd H1 p (.tup xs))
def tLst(t:TA):TE:=fun σ H Q=>t σ H fun xs H1=>xs.length<=sizeLine/\∀p,H1 p=none->Q (.ref p) (upd H1 p (.lst xs))
theorem zKK{x1}(h:PA X es t):PE X (.Tuple es x1 pos) (tTup t):=by
 intro pins s σ H Q I hq;refine wpAny_Tuple_spliced (thn (h pos pins s σ H _ I hq) fun us s1 ⟨xs,H1,I1,r,z,q⟩=>⟨by rw[<- r.length];exact z,?_⟩);have hf:H1 s1.heap.objs.size=none:=I1.hok.fresh (qAa _);refine⟨.ref s1.heap.objs.size,upd H1 s1.heap.objs.size (.tup xs),I1.laid (t':=s1.toks) (fun b u e=>Heap.get?_push_of_some _ e) (qAa _) ?_,rfl,q _ hf⟩;exact⟨z,us,r,⟨_,Heap.get?_push_size _ rfl,rfl,_,rfl⟩⟩
theorem zBH(h:PA X es t):PE X (.List es pos) (tLst t):=by
 intro pins s σ H Q I hq;refine wpAny_List_spliced (thn (h pos pins s σ H _ I hq) fun us s1 ⟨xs,H1,I1,r,z,q⟩=>⟨by rw[<- r.length];exact z,?_⟩);have hf:H1 s1.heap.objs.size=none:=I1.hok.fresh (qAa _);refine⟨.ref s1.heap.objs.size,upd H1 s1.heap.objs.size (.lst xs),I1.laid (t':=s1.toks) (fun b u e=>Heap.get?_push_of_some _ e) (qAa _) ?_,rfl,q _ hf⟩;exact⟨z,us,0,r,Heap.get?_push_size _ rfl⟩
end
abbrev Sp:=List V->Hp->VK->XK->Prop
abbrev CXT:=List Env->Hp->Shared->XK->Value->Shared->Prop
structure Env0(P:Program)(w:World)(K:qA2)(mg:Str->Option Value)(base:Heap)(A:Around)(outer:List Env)(s:Shared)(H:Hp):Prop where
 frames:A.frames=some outer
 mod:Mod K mg base
 bs:∀b o,base.get? b=some o->s.heap.get? b=some o/\H b=none
 bsz:base.objs.size<=s.heap.objs.size
 funs:s.heap.FunFrames base outer
 frf:∀b∈frs outer,H b=none
 hok:HOk P w H s.heap
 bare:AllBare s.gens
def CE(outer:List Env)(P:Program)(w:World)(H:Hp)(s:Shared)(Q:VK)(u:Value)(s':Shared):Prop:=
 ∃v H',s'.os=s.os/\AllBare s'.gens/\Un (frs outer) [] H H' s.heap s'.heap/\HOk P w H' s'.heap/\RelV v u/\Q v H'
def CR(CX:CXT)(outer:List Env)(P:Program)(w:World)(H:Hp)(s:Shared)(Q:VK)(E:XK)(r:Result)(s':Shared):Prop:=
 match r with
 |.ok (.ret u)=>CE outer P w H s Q u s'
 |.ok _=>False
 |.error e=>CX outer H s E e s'
structure FnOk(P:Program)(w:World)(K:qA2)(mg:Str->Option Value)(base:Heap)(CX:CXT)(k:Nat)(f:Addr)(fd:FuncData)(ps:List Str)(sp:Sp):Prop where
 len:∀vs H Q E,sp vs H Q E->vs.length=ps.length
 run:∀(A:Around)(outer:List Env)(s:Shared)(H:Hp)(args:Args)(us:List Value)(vs:List V)(Q:VK)(E:XK),Room k A->Env0 P w K mg base A outer s H->BindsTo s fd args (ps.zip us)->Vals vs us->sp vs H Q E ->
  codeAny (model P w) A (.call (.ref f) args) (CR CX outer P w H s Q E) s
theorem FnOk.imp{P:Program}{w:World}{K:qA2}{mg:Str->Option Value}{base:Heap}{CX:CXT}{k:Nat}{f:Addr}{fd:FuncData}{ps:List Str}{sp sp':Sp}(F:FnOk P w K mg base CX k f fd ps sp)
  (h:∀vs H Q E,sp' vs H Q E->sp vs H Q E):FnOk P w K mg base CX k f fd ps sp':=
 ⟨fun vs H Q E q=>F.len vs H Q E (h _ _ _ _ q),fun A outer s H args us vs Q E hr he hb hv hs=>F.run A outer s H args us vs Q E hr he hb hv (h _ _ _ _ hs)⟩
theorem Env0.make{P:Program}{w:World}{K:qA2}{mg:Str->Option Value}{base:Heap}{A:Around}{outer:List Env}{s:Shared}{H:Hp}(e:Env0 P w K mg base A outer s H)(C:Addr)(us:List Value)(kw:List (Str×Value)) :
  Env0 P w K mg base (A.under (.builtin "type.__call__" ⟨.ref C::us,kw⟩)) outer s H:=⟨by first|exact e.frames|(simpa[Around.under,Code.envs,Code.isFrame,pushEnvs]using e.frames),e.mod,e.bs,e.bsz,e.funs,e.frf,e.hok,e.bare⟩
section
variable{X:Cx}{pins:List (Addr×Obj)}{σ:St}{H:Hp}{s s':Shared}
theorem Inv.env0(I:Inv X pins σ H s):Env0 X.prog X.w X.K X.mg X.base X.A X.stack s H:=
 ⟨I.ok.frames,I.ok.mod,I.bs,qAo I.ok.bsz I.sz,I.stack,I.stkFree,I.hok,I.bare⟩
theorem Inv.after{Q:VK}{u:Value}(I:Inv X pins σ H s)(h:CE X.stack X.prog X.w H s Q u s'):EP X pins σ Q u s':=by
 obtain⟨v,H',os,bare,un,hok,r,q⟩:=h;obtain⟨hh,g,d,t,os'⟩:=s';obtain rfl:os'=s.os:=os;exact⟨v,H',I.call (h':=hh) (g':=g) (d':=d) (t':=t) (ch:=[]) un hok bare (fun b z=>absurd z (by simp)),r,q⟩
end
noncomputable def zM0(sp:Sp)(dvs:List V)(E:XK)(t:TA):TE:=fun σ H Q=>t σ H fun vs H1=>sp (vs++dvs) H1 Q E
def Binds(K:qA2)(fd:FuncData)(ps:List Str)(ds:List Value):Prop:=
 ∀(s:Shared)(us:List Value),K.In s.heap->(us++ds).length=ps.length->BindsTo s fd ⟨us,[]⟩ (ps.zip (us++ds))
theorem Binds.all{K:qA2}{fd:FuncData}{ps:List Str}(h:∀us:List Value,us.length=ps.length->bindArgs fd ⟨us,[]⟩=pure (ps.zip us)):Binds K fd ps []:=fun s us _ hl=>by
 rw[qCc]at hl ⊢;exact .of_eq (h us hl)
def zIV(CX:CXT)(X:Cx)(E:XK):Prop:=∀(pins:List (Addr×Obj))(σ:St)(H:Hp)(s:Shared)(e:Value)(s':Shared),Inv X pins σ H s->CX X.stack H s E e s'->X.xe e s'
section
variable{X:Cx}{CX:CXT}{k:Nat}{f C:Addr}{fd:FuncData}{ps:List Str}{sp:Sp}{dvs:List V}{ds:List Value}{E:XK}{x m:Str}{p pos apos:Pos}{e o:Expr}{es:List Expr}{ta:TE}{t:TA}
theorem zYC{pins:List (Addr×Obj)}{σ:St}{H:Hp}{s:Shared}{Q:VK}{us:List Value}{vs:List V}(F:FnOk X.prog X.w X.K X.mg X.base CX k f fd ps sp)(hr:Room k X.A)(hb:Binds X.K fd ps ds)(hd:Vals dvs ds)(hx:zIV CX X E)
  (I:Inv X pins σ H s) (r:Vals vs us) (h:sp (vs++dvs) H Q E):wpAny (model X.prog X.w) X.A (call (.ref f) us) (EP X pins σ Q) X.xe s:=by
 have r2:Vals (vs++dvs) (us++ds):=r.append hd;have hl:(us++ds).length=ps.length:=by rw[<- r2.length];exact F.len _ _ _ _ h
 refine wpAny_call (codeAny_mono (F.run X.A X.stack s H ⟨us,[]⟩ (us++ds) (vs++dvs) Q E hr I.env0 (hb s us I.kIn hl) r2 h) fun r s' hq=>?_);cases r with
 |error e=>exact hx pins σ H s e s' I hq
 |ok fl=>
  cases fl with
  |ret u=>exact I.after hq
  |next=>exact qA7 hq
  |brk=>exact qA7 hq
  |cont=>exact qA7 hq
theorem zQT(F:FnOk X.prog X.w X.K X.mg X.base CX k f fd ps sp)(hr:Room k X.A)(hg:Gl X x)(hm:X.mg x=some (.ref f))(hk:qB0 X.K (.ref f)=true)(hb:Binds X.K fd ps ds)(hd:Vals dvs ds)(hx:zIV CX X E)
  (ha:PA X (e::es) t) (hdb:(x==("__debug__":Str))=false:=by decide) (he:starEach (e::es) X.env=(false,eval e X.env)::starEach es X.env:=by rfl) (hpl:(backTo pos (starEach es X.env)).any (·.1)=false:=by rfl) :
  PE X (.Call (.Name x p) (e::es) [] pos) (zM0 sp dvs E t):=by
 intro pins s σ H Q I h;refine wpAny_Call_Name_kw (zHU I hg hm ?_ hdb);refine qE8 (h₀:=X.base) I.ok.mod.kin hk (thn (ha pos pins s σ H _ I h) fun us s1 ⟨vs,H1,I1,r,q⟩=>⟨I1.kIn,?_⟩) he hpl;exact zYC F hr hb hd hx I1 r q
structure Mk(K:qA2)(C f:Addr):Prop where
 makes:qGi K C=true
 init:qAj K (.ref C) "__init__" = some (some (.ref f))
 fn:qDo K (.ref f)=true
 kp:qB0 K (.ref C)=true
end
section
variable{X:Cx}{CX:CXT}{k:Nat}{f C:Addr}{fd:FuncData}{ps ks:List Str}{sp:Sp}{E:XK}{x m:Str}{p pos apos kpos:Pos}{e o:Expr}{es:List Expr}{kws:List Keyword}{te ta:TE}{t tk:TA}{nm:Option Str}
structure KBinds(K:qA2)(fd:FuncData)(ps ks:List Str)(g:List Value->List Value->List Value)(gV:List V->List V->List V):Prop where
 to:∀(s:Shared)(us ws:List Value),K.In s.heap->(g us ws).length=ps.length->BindsTo s fd ⟨us,ks.zip ws⟩ (ps.zip (g us ws))
 rel:∀{vs:List V}{us:List Value}{zs:List V}{ws:List Value},Vals vs us->Vals zs ws->Vals (gV vs zs) (g us ws)
variable{g:List Value->List Value->List Value}{gV:List V->List V->List V}
end
structure FnScope(N P:List Str)(sc:Scope):Prop where
 kind:sc.kind=.function
 co:sc.isCoroutine=false
 gen:sc.isGenerator=false
 nd:N.Nodup
 pre:N.take P.length=P
 par:∀x∈P,sc.names.lookup x=some .local\/sc.names.lookup x=some .cell
 nofree:∀y∈sc.names,y.2≠.free
theorem zLP{kindOf:Str->Option NameKind}{x:Str}:∀{binds:List (Str×Value)}{m:Str->Option Value},(∀v,(x,v)∉binds)->bindL kindOf binds m x=m x
 |[],_,_=>rfl
 |(n,v)::r,m,h=>by
  unfold bindL;rw[zLP fun w hw=>h w (qAy _ hw)]
  split
  ·have:x≠n:=by rintro rfl;exact h v qBj
   simp[this]
  ·rfl
theorem zLR{kindOf:Str->Option NameKind}{x:Str}:∀{binds:List (Str×Value)}{m:Str->Option Value},(∀v,(x,v)∉binds)->bindC kindOf binds m x=m x
 |[],_,_=>rfl
 |(n,v)::r,m,h=>by
  unfold bindC;rw[zLR fun w hw=>h w (qAy _ hw)]
  split
  ·rfl
  ·have:x≠n:=by rintro rfl;exact h v qBj
   simp[this]
theorem zLQ{kindOf:Str->Option NameKind}{x:Str}{v:Value}:∀{P:List Str}{vs:List Value}{i:Nat}{m:Str->Option Value},P.Nodup->P[i]?=some x->vs[i]?=some v->kindOf x=some .local ->
  bindL kindOf (P.zip vs) m x=some v
 |[],_,_,_,_,h,_,_=>by simp at h
 |_::_,[],_,_,_,_,h,_=>by simp at h
 |p::P,w::vs,0,m,nd,h1,h2,hk=>by
  simp at h1 h2;subst h1;subst h2;show bindL kindOf ((p,w)::P.zip vs) m p=_;unfold bindL;rw[zLP fun v hv=>(qB1.mp nd).1 (qE2 hv).1,if_pos hk];simp
 |p::P,w::vs,i+1,m,nd,h1,h2,hk=>by
  show bindL kindOf ((p,w)::P.zip vs) m x=_;unfold bindL;exact zLQ (i:=i) (qB1.mp nd).2 (by simpa using h1) (by simpa using h2) hk
theorem zLS{kindOf:Str->Option NameKind}{x:Str}{v:Value}:∀{P:List Str}{vs:List Value}{i:Nat}{m:Str->Option Value},P.Nodup->P[i]?=some x->vs[i]?=some v->kindOf x≠some .local ->
  bindC kindOf (P.zip vs) m x=some v
 |[],_,_,_,_,h,_,_=>by simp at h
 |_::_,[],_,_,_,_,h,_=>by simp at h
 |p::P,w::vs,0,m,nd,h1,h2,hk=>by
  simp at h1 h2;subst h1;subst h2;show bindC kindOf ((p,w)::P.zip vs) m p=_;unfold bindC;rw[zLR fun v hv=>(qB1.mp nd).1 (qE2 hv).1,if_neg hk];simp
 |p::P,w::vs,i+1,m,nd,h1,h2,hk=>by
  show bindC kindOf ((p,w)::P.zip vs) m x=_;unfold bindC;exact zLS (i:=i) (qB1.mp nd).2 (by simpa using h1) (by simpa using h2) hk
noncomputable def start(N:List Str)(vs:List V):St:=vs.map some++qA5 (N.length-vs.length) none
noncomputable def cxOf(CX:CXT)(P:Program)(w:World)(K:qA2)(mg:Str->Option Value)(base:Heap)(N:List Str)(qual:Str)(scope:Scope)(f:Addr)(cd:Value)(A:Around)(outer:List Env)(s:Shared)(H:Hp)(E:XK):Cx where
 prog:=P
 w:=w
 K:=K
 mg:=mg
 base:=base
 A:=A.deeper (envOfC qual scope s.heap.objs.size f cd)
 N:=N
 s₀:=s
 H₀:=H
 env:=envOfC qual scope s.heap.objs.size f cd
 outer:=outer
 stack:=envOfC qual scope s.heap.objs.size f cd::outer
 ex:=[]
 calm:=true
 fn:=fun _=>true
 pn:=[]
 xe:=fun e s'=>wpAny (model P w) (A.deeper (envOfC qual scope s.heap.objs.size f cd)) (leaving (envOfC qual scope s.heap.objs.size f cd) e) (fun _ s''=>CX outer H s E e s'') (fun e' s''=>CX outer H s E e' s'') s'
theorem zOE{sc:Scope}{n:Nat}{x:Str}(h:sc.names.lookup x=some .cell):∃c,(cellsFrom n sc.names []).lookup x=some c:=by
 have q:=qDf sc.names n [] (.inl h);exact qEg.mp q
theorem zRF{CX:CXT}{P:Program}{w:World}{K:qA2}{mg:Str->Option Value}{base:Heap}{N ps:List Str}{qual:Str}{scope:Scope}{f:Addr}{cd:Value}{A:Around}{outer:List Env}{s s1:Shared}{H:Hp}{E:XK}{us:List Value}{vs:List V}
  (S:FnScope N ps scope) (hd:A.handled=none) (e0:Env0 P w K mg base A outer s H) (hl:vs.length=ps.length) (r:Vals vs us)
  (x:InCallC s s.heap.objs.size (bindL (envOfC qual scope s.heap.objs.size f cd).kindOf (ps.zip us) fun _=>none) (cellsFrom (s.heap.objs.size+1) scope.names []) (bindC (envOfC qual scope s.heap.objs.size f cd).kindOf (ps.zip us) fun _=>none) s1) :
  Inv (cxOf CX P w K mg base N qual scope f cd A outer s H E) [] (start N vs) H s1:=by
 have hpl:ps.length<=N.length:=by have:=congrArg qEi S.pre;rw[qBo]at this;lia
 obtain⟨h1,tk,rfl,hk⟩:=x.done;have noA:∀b:Addr,b∉(cxOf CX P w K mg base N qual scope f cd A outer s H E).ex:=fun b z=>absurd (show b∈([]:List Addr) from z) (by simp)
 refine⟨⟨e0.mod,S.kind,rfl,rfl,qAa _,fun y z c h1 h2=>?_,fun y hy=>?_,fun y c _ h=>?_,fun _=>hd,Around.frames_deeper e0.frames,.inr ⟨rfl,rfl⟩,fun b z=>absurd z (noA b),e0.bs,e0.bsz,fun b _ _=>noA b,fun b z=>absurd z (noA b),e0.funs,e0.frf⟩,
  rfl,e0.bare,Un.kept hk,⟨_,x.toInCall.ns,fun i y v h1 h2 h3=>?_⟩,fun y c h=>⟨_,x.cell y c h⟩,e0.hok.fresh (qAa _),fun y c h=>?_,fun p hp=>absurd (show p∈([]:List (Addr×Obj)) from hp) (by simp),e0.hok.kept hk,?_⟩
 ·exact name_of_addr x.apart (qCk h1) (qCk h2)
 ·have hy:scope.names.lookup y=some .cell\/scope.names.lookup y=some .free:=hy
  rcases hy with hy|hy
  ·exact zOE hy
  ·exact absurd rfl (S.nofree _ (qCk hy))
 ·exact qD8 (x.above y c (qCk h))
 ·have hi:i<vs.length:=by
   unfold start at h2
   by_cases hi:i<vs.length
   ·exact hi
   ·rw[qA9 (by simpa using hi)]at h2;rw[qBm]at h2
    split at h2<;>cases h2
  have ha:vs[i]?=some v:=by
   unfold start at h2;rw[qA8 (by simpa using hi),qAb]at h2;cases e:vs[i]? with
   |none=>rw[e]at h2;cases h2
   |some a=>rw[e]at h2;cases h2;rfl
  obtain⟨u,hu,rv⟩:=r.get ha;have hp:ps[i]?=some y:=by
   rw[<- S.pre,qCd (by lia)];exact h1
  have ndP:ps.Nodup:=by rw[<- S.pre];exact S.nd.sublist (qFv _ _)
  refine⟨u,rv,?_⟩
  rcases S.par y (qCx hp)with k|k
  ·exact .inl ⟨k,zLQ ndP hp hu k⟩
  ·obtain⟨c,e⟩:=zOE (n:=s.heap.objs.size+1) k;refine .inr ⟨.inl k,c,e,?_⟩;have q:=x.cell y c e;rw[zLS ndP hp hu (by show scope.names.lookup y≠_;rw[k];decide)]at q;exact q
 ·exact e0.hok.fresh (qD8 (x.above y c (qCk h)))
 ·unfold start;show _=N.length;rw[qB2,qAg,qC4]
  lia
theorem za2{CX:CXT}{P:Program}{w:World}{K:qA2}{mg:Str->Option Value}{base:Heap}{k:Nat}{f:Addr}{name qual:Str}{params:Arguments}{body:List Stmt}{scope:Scope}{dV kV doc pm cdv ct oc:Value}{an od:Option Addr}
  {osl:Array (Option Value)} {N ps:List Str} {sp:Sp} (lk:K.lookup f=some ⟨oc,od,.func (qBk name qual params body scope dV kV doc pm an cdv ct),osl⟩) (hcd:qCz K cdv qual=true) (S:FnScope N ps scope)
  (len:∀vs H Q E,sp vs H Q E->vs.length=ps.length)
  (hbody:∀(A:Around)(outer:List Env)(s:Shared)(H:Hp)(vs:List V)(Q:VK)(E:XK),Room k (A.deeper (envOfC qual scope s.heap.objs.size f cdv))->sp vs H Q E ->
   ∃t,PSs (cxOf CX P w K mg base N qual scope f cdv A outer s H E) body t/\t { nx:=fun _ H'=>Q .non H',rt:=Q } (start N vs) H) :
  FnOk P w K mg base CX (k+1) f (qBk name qual params body scope dV kV doc pm an cdv ct) ps sp:=by
 refine⟨len,fun A outer s H args us vs Q E hr e0 hb r hsp=>?_⟩;have hl:=len _ _ _ _ hsp;have KX:K.In s.heap:=e0.mod.kin.keeps fun b o e=>(e0.bs b o e).1
 have lim:s.heap.NoLimit:=e0.mod.nolimit.keeps fun b o e=>(e0.bs b o e).1
 have hkind:∀y∈ps.zip us,scope.names.lookup y.1=some .local\/(scope.names.lookup y.1=some .cell/\((cellsFrom (s.heap.objs.size+1) scope.names []).lookup y.1).isSome=true):=fun⟨n,v⟩ hy=>by
  rcases S.par n (qE2 hy).1 with q|q
  ·exact .inl q
  ·exact .inr ⟨q,qDf _ _ _ (.inl q)⟩
 refine codeAny_call_function hr.depth (KX _ _ lk) rfl S.co S.gen rfl (PySem.W.codeRec_of KX hcd) (hb _ _ _ _ ?_);refine wpAny_newFunctionEnv_cells S.kind hkind fun env he s1 x=>?_
 subst he;refine⟨lim.keeps x.toInCall.keep,codeAny_func ?_⟩;obtain⟨t,ht,hq⟩:=hbody A outer s H vs Q E (hr.deeper _) hsp;have I:Inv (cxOf CX P w K mg base N qual scope f cdv A outer s H E) [] (start N vs) H s1:=zRF S hr.hd e0 hl r x;refine wpAny_mono (ht [] s1 (start N vs) H _ I hq) (fun fl s' hs=>?_) fun e s' hs=>hs
 have fin:∀{σ':St}{H':Hp}{v:V}{u:Value},Inv (cxOf CX P w K mg base N qual scope f cdv A outer s H E) [] σ' H' s'->RelV v u->Q v H'->CE outer P w H s Q u s':=
  fun{σ' H' v u} J rv q=>⟨v,H',J.os,J.bare,J.base,J.hok,rv,q⟩
 cases fl with
 |ret u=>
  obtain⟨v,σ',H',J,rv,q⟩:=hs;exact fin J rv q
 |next=>
  obtain⟨σ',H',J,q⟩:=hs;exact fin (v:=V.non) (u:=Value.none) J rfl q
 |brk=>
  obtain⟨_,_,_,q⟩:=hs;exact qA7 q
 |cont=>
  obtain⟨_,_,_,q⟩:=hs;exact qA7 q
end L2
namespace L2
open PySem PySem.Spec PyProof.Rows
section
variable{X:Cx}{x:Str}{p pos:Pos}{e:Expr}{es:List Expr}{t:TA}{id T:String}{r:List V->Hp->VK->Prop}
noncomputable def tCB(r:List V->Hp->VK->Prop)(t:TA):TE:=fun σ H Q=>t σ H fun vs H1=>r vs H1 Q
theorem zAR(hc:zGT X (.builtin id) r)(hg:Gl X x)(hm:X.mg x=none)(hv:bootBuiltins x=some (.builtin id))(ha:PA X (e::es) t)(hn:x≠"__name__":=by decide)(hdb:(x==("__debug__":Str))=false:=by decide)
  (he:starEach (e::es) X.env=(false,eval e X.env)::starEach es X.env:=by rfl) (hpl:(backTo pos (starEach es X.env)).any (·.1)=false:=by rfl):PE X (.Call (.Name x p) (e::es) [] pos) (tCB r t):=by
 intro pins s σ H Q I h;refine wpAny_Call_Name_kw (zHV I hg hm hv ?_ hn hdb);exact qDp (thn (ha pos pins s σ H _ I h) fun us s1 ⟨vs,H1,I1,r1,q1⟩=>hc pins s1 σ H1 vs us Q I1 r1 q1) he hpl
theorem zFD(hc:zGT X (.type T) r)(hg:Gl X x)(hm:X.mg x=none)(hv:bootBuiltins x=some (.type T))(ha:PA X (e::es) t)(hn:x≠"__name__":=by decide)(hdb:(x==("__debug__":Str))=false:=by decide)
  (he:starEach (e::es) X.env=(false,eval e X.env)::starEach es X.env:=by rfl) (hpl:(backTo pos (starEach es X.env)).any (·.1)=false:=by rfl):PE X (.Call (.Name x p) (e::es) [] pos) (tCB r t):=by
 intro pins s σ H Q I h;refine wpAny_Call_Name_kw (zHV I hg hm hv ?_ hn hdb);exact qBf (thn (ha pos pins s σ H _ I h) fun us s1 ⟨vs,H1,I1,r1,q1⟩=>hc pins s1 σ H1 vs us Q I1 r1 q1) he hpl
end
end L2
namespace HT
open PySem PyProof.Rows
section
open PySem.SeqAt
open PySem.AutoSeq1 (wpAny_loadPart')
open PySem.MeetsSeq PySem.MeetsSeq2 PySem.MeetsSeq3
end
section
variable{prog:Program}{w:World}{A:Around}{E:Value->Shared->Prop}{s:Shared}
noncomputable def sIx(n d:Nat):Option Int->Nat
 |none=>d
 |some v=>if v<0 then(v+(n:Int)).toNat else min v.toNat n
end
end HT
namespace L2
open PySem PySem.Spec PyProof.Rows
abbrev TO:=St->Hp->(Option Int->Hp->Prop)->Prop
def PO(X:Cx)(e:Option Expr)(t:TO):Prop:=
 ∀(pins:List (Addr×Obj))(s:Shared)(σ:St)(H:Hp)(Q:Option Int->Hp->Prop),Inv X pins σ H s->t σ H Q ->
  wpAny (model X.prog X.w) X.A (evalPart e X.env) (fun u s'=>∃o H',Inv X pins σ H' s'/\IsPart u o/\Q o H') X.xe s
noncomputable def zPW:TO:=fun _ H Q=>Q none H
noncomputable def zY4(t:TE):TO:=fun σ H Q=>t σ H fun x H1=>∃i,x=.int i/\Q (some i) H1
section
variable{X:Cx}{e:Expr}{te:TE}{lo hi:Option Expr}{tl th:TO}{pos p2:Pos}
theorem zJA:PO X none zPW:=by
 intro pins s σ H Q I h;rw[evalPart_none];exact wpAny_pure ⟨none,H,I,.none,h⟩
theorem zJ9(h:PE X e te):PO X (some e) (zY4 te):=by
 intro pins s σ H Q I hw;rw[evalPart_some];refine thn (h pins s σ H _ I hw) fun u s1 z0=>?_
 obtain⟨x,H1,I1,r1,q1⟩:=z0;obtain⟨i,rfl,q⟩:=q1;obtain⟨t,rfl⟩:=r1;exact⟨some i,H1,I1,.int i t,q⟩
def SlR(X:Cx)(r:V->Option Int->Option Int->Hp->VK->Prop):Prop:=
 ∀(pins:List (Addr×Obj))(s:Shared)(σ:St)(H:Hp)(x:V)(v vl vu:Value)(lo hi:Option Int)(sl:Addr)(Q:VK),Inv X pins σ H s->RelV x v->s.heap.IsSliceOf sl vl vu .none->IsPart vl lo->IsPart vu hi->r x lo hi H Q ->
  ∃T id,typeLookup (.type T) "__getitem__" = pure (some (.builtin id))/\s.TypeIs v T/\wpAny (model X.prog X.w) X.A (getItem v (.ref sl)) (EP X pins σ Q) X.xe s
noncomputable def tSl(r:V->Option Int->Option Int->Hp->VK->Prop)(te:TE)(tl th:TO):TE:=fun σ H Q=>te σ H fun x H1=>tl σ H1 fun l H2=>th σ H2 fun u H3=>r x l u H3 Q
theorem zGV{r:V->Option Int->Option Int->Hp->VK->Prop}(hr:SlR X r)(he:PE X e te)(hl:PO X lo tl)(hu:PO X hi th):PE X (.Subscript e (.Slice lo hi none p2) pos) (tSl r te tl th):=by
 intro pins s σ H Q I h;refine Subscript_ (thn (he pins s σ H _ I h) fun v s1 z0=>?_);obtain⟨x,H1,I1,r1,q1⟩:=z0;refine wpAny_Slice (thn (hl pins s1 σ H1 _ I1 q1) fun vl s2 ⟨l,H2,I2,pl,q2⟩=>thn (hu pins s2 σ H2 _ I2 q2) fun vu s3 ⟨u,H3,I3,pu,q3⟩=>?_);rw[evalPart_none];refine wpAny_pure ?_;have I4:Inv X pins σ H3 { s3 with heap:=s3.heap.push { cls:=.type "slice",data:=.fields #[vl,vu,.none] } }:=I3.kept (t':=s3.toks) fun b ob q=>Heap.get?_push_of_some _ q
 obtain⟨T,id,hT,ht,hg⟩:=hr pins { s3 with heap:=s3.heap.push { cls:=.type "slice",data:=.fields #[vl,vu,.none] } } σ H3 x v vl vu l u s3.heap.objs.size Q I4 r1 (Heap.IsSliceOf.new ..) pl pu q3;show wpAny (model X.prog X.w) X.A (subscriptTail e (.Slice lo hi none p2) v (.ref s3.heap.objs.size)) (EP X pins σ Q) X.xe { s3 with heap:=s3.heap.push { cls:=.type "slice",data:=.fields #[vl,vu,.none] } };exact tail_any (ops:=[.ref s3.heap.objs.size,v]) ht hT hg (by with_unfolding_all rfl)
def cutV(xs:List V)(lo hi:Option Int):List V:=(xs.drop (HT.sIx xs.length 0 lo)).take (HT.sIx xs.length xs.length hi-HT.sIx xs.length 0 lo)
theorem zMQ(xs:List V)(lo hi:Option Int):(cutV xs lo hi).length<=xs.length:=by
 unfold cutV;rw[qBo,List.length_drop]
 lia
end
end L2
namespace L2
open PySem PySem.Spec PyProof.Rows
noncomputable def ixN(n:Nat)(i:Int):Option Nat:=if 0<=i then(if i<n then some i.toNat else none)else if -(n:Int)<=i then some (i+n).toNat else none
def atI{α:Type}(xs:List α)(i:Int):Option α:=(ixN xs.length i).bind fun j=>xs[j]?
theorem zMI{n:Nat}{i:Int}{j:Nat}(h:ixN n i=some j):seqIndex? i n=some j/\j<n/\-(n:Int)<=i/\i<n:=by
 unfold ixN at h
 by_cases h0:0<=i
 ·rw[if_pos h0]at h
  by_cases h1:i<n
  ·rw[if_pos h1]at h;have e:i.toNat=j:=qBe h;exact⟨by rw[seqIndex_of h0 h1,e],by lia,by lia,h1⟩
  ·rw[if_neg h1]at h;cases h
 ·rw[if_neg h0]at h
  by_cases h1:-(n:Int)<=i
  ·rw[if_pos h1]at h;have e:(i+n).toNat=j:=qBe h;exact⟨by rw[seqIndex_neg (by lia) h1,e],by lia,h1,by lia⟩
  ·rw[if_neg h1]at h;cases h
theorem zMW{α:Type}{xs:List α}{i:Int}{v:α}(h:atI xs i=some v):∃j,seqIndex? i xs.length=some j/\xs[j]?=some v/\j<xs.length/\-(xs.length:Int)<=i/\i<xs.length:=by
 unfold atI at h;cases e:ixN xs.length i with
 |none=>rw[e]at h;cases h
 |some j=>
  rw[e]at h;obtain⟨h1,h2,h3,h4⟩:=zMI e;exact⟨j,h1,h,h2,h3,h4⟩
def zSG(b:Expr):Prop:=∀o i,subscripted b false o i=operate [o,i] (getItem o i)
def IxR(X:Cx)(r:R2):Prop:=
 ∀(value slice:Expr)(pins:List (Addr×Obj))(s:Shared)(σ:St)(H:Hp)(x y:V)(v u:Value)(Q:VK),Inv X pins σ H s->RelV x v->RelV y u->r x y H Q ->
  subscripted slice false v u=operate [v,u] (getItem v u)->wpAny (model X.prog X.w) X.A (subscriptTail value slice v u) (EP X pins σ Q) X.xe s
def MtR(X:Cx)(id:String)(r:V->List V->Hp->VK->Prop):Prop:=
 ∀(pins:List (Addr×Obj))(s:Shared)(σ:St)(H:Hp)(x:V)(xs:List V)(v:Value)(us:List Value)(Q:VK),Inv X pins σ H s->RelV x v->Vals xs us->r x xs H Q ->
  wpAny (model X.prog X.w) X.A (call (.builtin id) (v::us)) (EP X pins σ Q) X.xe s
section
variable{X:Cx}{a b:Expr}{ta tb:TE}{pos:Pos}
theorem zB4{r:R2}(hr:IxR X r)(ha:PE X a ta)(hb:PE X b tb)(hs:zSG b):PE X (.Subscript a b pos) (tOp r ta tb):=by
 intro pins s σ H Q I h;exact Subscript_ (binT ha hb I h fun v u s2 x y H2 I2 rx ry q=>hr a b pins s2 σ H2 x y v u Q I2 rx ry q (hs _ _))
def rIxL(K:qA2):R2:=fun x y H Q=>∃p xs i v,x=.ref p/\y=.int i/\SqL K H p xs/\atI xs i=some v/\Q v H
def rIxT(K:qA2):R2:=fun x y H Q=>∃p xs i v,x=.ref p/\y=.int i/\SqT K H p xs/\atI xs i=some v/\Q v H
def rIxS:R2:=fun x y H Q=>∃z i c,x=.str z/\y=.int i/\z.length<=sizeLine/\atI z.cps.toList i=some c/\Q (.str ⟨#[c]⟩) H
theorem zX0:IxR X (rIxL X.K):=by
 intro value slice pins s σ H x y v u Q I rx ry h hs;obtain⟨p,xs,i,z,rfl,rfl,hq,he,q⟩:=h;cases rx;obtain⟨t,rfl⟩:=ry;obtain⟨its,r,pl,hz⟩:=I.list hq;obtain⟨j,h1,h2,h3,h4,h5⟩:=zMW he;obtain⟨w,ew,rw'⟩:=r.get h2;have hl:=r.length;have hn:=zIK;have fin:EP X pins σ Q w s:=⟨z,H,I,rw',q⟩
 by_cases h0:0<=i
 ·have hj:i.toNat=j:=by
   rw[seqIndex_of h0 h5]at h1;exact qBe h1
  exact item_listR pl.isList h0 (by lia) (by rw[hj];simpa using ew) fin hs
 ·have hj:(i+(its.toArray.size:Int)).toNat=j:=by
   rw[seqIndex_neg (by lia) h4]at h1;rw[qAd,<- hl];exact qBe h1
  exact subscriptTail_builtinR (x:=w) pl.isList.typeIs slot_list_getitem.lookup
   (wpAny_getItem_list_neg (Q:=fun r s'=>r=w/\EP X pins σ Q r s') pl.isList (by lia) (by rw[qAd]<;>lia) (by lia) (by rw[hj];simpa using ew) ⟨rfl,fin⟩) hs
theorem zZT:IxR X (rIxT X.K):=by
 intro value slice pins s σ H x y v u Q I rx ry h hs;obtain⟨p,xs,i,z,rfl,rfl,hq,he,q⟩:=h;cases rx;obtain⟨t,rfl⟩:=ry;obtain⟨its,r,pl,hz⟩:=I.tuple hq;obtain⟨j,h1,h2,h3,h4,h5⟩:=zMW he;obtain⟨w,ew,rw'⟩:=r.get h2;have hl:=r.length;have hn:=zIK;have fin:EP X pins σ Q w s:=⟨z,H,I,rw',q⟩
 exact subscriptTail_builtinR (x:=w) pl.typeIs slot_tuple_getitem.lookup
  (getItem_tuple (j:=j) (Q:=fun r s'=>r=w/\EP X pins σ Q r s') pl (by lia) (by lia) (by rw[qAd,<- hl];exact h1) (by simpa using ew) ⟨rfl,fin⟩) hs
theorem zZU:IxR X rIxS:=by
 intro value slice pins s σ H x y v u Q I rx ry h hs;obtain⟨z,i,c,rfl,rfl,hz,he,q⟩:=h;obtain⟨t,rfl⟩:=rx;obtain⟨t',rfl⟩:=ry;obtain⟨j,h1,h2,h3,h4,h5⟩:=zMW he;have hl:z.cps.toList.length=z.length:=by simp[Str.length]
 rw[hl]at h1 h4 h5;have hn:=zIK;exact tail_any (typeIs_str s z t) slot_str_getitem.lookup (getItem_str (c:=c) (by
  have e1:decide (i < -(2 ^ 63:Int))=false:=decide_eq_false (by lia);have e2:decide (i>=2 ^ 63)=false:=decide_eq_false (by lia);rw[e1,e2,Bool.or_false]) (by rw[h1];simpa using h2) ⟨.str ⟨#[c]⟩,H,I.tok _,⟨_,rfl⟩,q⟩) hs
theorem zP1(its:List Value)(n j:Nat)(u:Value):Obj.mapSeq (·.setIfInBounds j u) { cls:=.type "list",data:=.seq its.toArray n }={ cls:=.type "list",data:=.seq (its.set j u).toArray n }:=by
 simp[Obj.mapSeq]
theorem Inv.lst{pins:List (Addr×Obj)}{σ:St}{H:Hp}{s:Shared}{p:Addr}{xs:List V}(I:Inv X pins σ H s)(h:H p=some (.lst xs)) :
  ∃(its:List Value)(n:Nat),Vals xs its/\s.heap.get? p=some { cls:=.type "list",data:=.seq its.toArray n }/\xs.length<=sizeLine:=by
 obtain⟨z,its,n,r,e⟩:=I.hok p _ h;exact⟨its,n,r,e,z⟩
theorem Inv.lstUpd{pins:List (Addr×Obj)}{σ:St}{H:Hp}{s:Shared}{p:Addr}{xs ys:List V}{its its':List Value}{n n':Nat}{f:Obj->Obj}(I:Inv X pins σ H s)(h:H p=some (.lst xs))
  (ho:s.heap.get? p=some { cls:=.type "list",data:=.seq its.toArray n }) (hf:f { cls:=.type "list",data:=.seq its.toArray n }={ cls:=.type "list",data:=.seq its'.toArray n' }) (r:Vals ys its') (hz:ys.length<=sizeLine) (t:Nat) :
  Inv X pins σ (upd H p (.lst ys)) { s with heap:=s.heap.update p f,toks:=t }:=by
 have e:(s.heap.update p f).get? p=some { cls:=.type "list",data:=.seq its'.toArray n' }:=by
  rw[Heap.get?_update_self f ho (by rw[hf]<;>rfl),hf]
 refine I.write (x:=p) (e:=p) (by rw[h];trivial) (.inl rfl) (fun b u hb q=>(Heap.get?_update_other _ _ (qD6 hb)).trans q) ⟨_,e⟩ ?_;exact⟨hz,its',n',r,e⟩
def zb0:V->V->V->Hp->(Hp->Prop)->Prop:=fun o i v H Q=>∃p xs k j,o=.ref p/\i=.int k/\H p=some (.lst xs)/\ixN xs.length k=some j/\Q (upd H p (.lst (xs.set j v)))
theorem zSW:PSet X zb0:=by
 intro pins s σ H o i v ov iv u Q I ro ri rv h;obtain⟨p,xs,k,j,rfl,rfl,hp,hj,q⟩:=h;cases ro;obtain⟨t,rfl⟩:=ri;obtain⟨its,n,r,ho,hz⟩:=I.lst hp;obtain⟨h1,h2,h3,h4⟩:=zMI hj;have hl:=r.length;have hn:=zIK;have I':Inv X pins σ (upd H p (.lst (xs.set j v))) { s with heap:=s.heap.update p (Obj.mapSeq (·.setIfInBounds j u)) }:=
  I.lstUpd hp ho (zP1 its n j u) (r.set rv j) (by rw[qC3];exact hz) s.toks
 by_cases h0:0<=k
 ·have hk:k.toNat=j:=by
   rw[seqIndex_of h0 h4]at h1;exact qBe h1
  exact PySem.W.ki_setAt ho h0 (by lia) (by rw[qAd,<- hl];exact h4) (by rw[hk];exact⟨_,I',q⟩)
 ·have hk:(k+(its.toArray.size:Int)).toNat=j:=by
   rw[seqIndex_neg (by lia) h3]at h1;rw[qAd,<- hl];exact qBe h1
  exact PySem.W.ki_setBack ho (by lia) (by rw[qAd,<- hl];exact h3) (by lia) (by rw[hk];exact⟨_,I',q⟩)
theorem zKC(lo hi:Option Int)(n:Nat):(sliceBounds lo hi none n).1=((HT.sIx n 0 lo:Nat):Int)/\(sliceBounds lo hi none n).2.1=((HT.sIx n n hi:Nat):Int)/\(sliceBounds lo hi none n).2.2=1:=by
 refine⟨?_,?_,rfl⟩
 ·cases lo with
  |none=>simp[sliceBounds,HT.sIx]
  |some i=>
   simp only[sliceBounds,HT.sIx,qG9,show(1:Int)>0 by decide,if_true]
   by_cases h:i<0
   ·simp only[h,if_true]<;>lia
   ·simp only[h,if_false]<;>lia
 ·cases hi with
  |none=>simp[sliceBounds,HT.sIx]
  |some i=>
   simp only[sliceBounds,HT.sIx,qG9,show(1:Int)>0 by decide,if_true]
   by_cases h:i<0
   ·simp only[h,if_true]<;>lia
   ·simp only[h,if_false]<;>lia
theorem zJ0(its:List Value)(lo hi:Option Int):slicePick its.toArray lo hi none=((its.drop (HT.sIx its.length 0 lo)).take (HT.sIx its.length its.length hi-HT.sIx its.length 0 lo)).toArray:=by
 obtain⟨h1,h2,h3⟩:=zKC lo hi its.toArray.size;unfold slicePick;rw[h1,h2,h3];simp only[sliceRange_one,pick_run,qAd]<;>rfl
def rSlL(K:qA2):V->Option Int->Option Int->Hp->VK->Prop:=fun x lo hi H Q=>∃a xs,x=.ref a/\SqL K H a xs/\∀p,H p=none->Q (.ref p) (upd H p (.lst (cutV xs lo hi)))
theorem zW6:SlR X (rSlL X.K):=by
 intro pins s σ H x v vl vu lo hi sl Q I rx hs pl pu h;obtain⟨a,xs,rfl,hx,q⟩:=h;cases rx;obtain⟨its,r,ht,hz⟩:=I.list hx;have hlen:=r.length;refine⟨"list",_,slot_list_getitem.lookup,ht.isList.typeIs,?_⟩;refine wpAny_getItem_list_slice ht.isList hs pl pu .none (by simp) ?_ (by rw[qAd]<;>lia);rw[zJ0,<- hlen];refine⟨.ref s.heap.objs.size,_,I.laid (t':=s.toks) (o:=.lst (cutV xs lo hi)) (fun b ob q=>Heap.get?_push_of_some _ q) (qAa _) ?_,rfl,q _ (I.hok.fresh (qAa _))⟩;exact⟨qAo (zMQ xs lo hi) hz,_,0,(r.drop (HT.sIx xs.length 0 lo)).take (HT.sIx xs.length xs.length hi-HT.sIx xs.length 0 lo),Heap.get?_push_size _ rfl⟩
noncomputable def zGD:V->Bool
 |.non=>true
 |.bl _=>true
 |.int _=>true
 |.str _=>true
 |_=>false
noncomputable def eqV:V->V->Bool
 |.non,.non=>true
 |.bl a,.bl b=>a==b
 |.bl a,.int b=>(if a then 1 else 0)==b
 |.int a,.bl b=>a==(if b then 1 else 0)
 |.int a,.int b=>a==b
 |.str a,.str b=>a==b
 |_,_=>false
theorem zVK{A:Around}{s:Shared}{y x:V}{u v:Value}(ry:RelV y u)(rx:RelV x v)(fy:zGD y=true)(fx:zGD x=true):SeqAt.EqAt A s u v (eqV y x):=by
 cases y with
 |non=>
  cases ry;cases x with
  |non=>cases rx;exact SeqAt.EqAt.same _
  |bl b=>cases rx;exact SeqAt.EqAt.none_bool b
  |int b=>obtain⟨t,rfl⟩:=rx;exact SeqAt.EqAt.none_int b t
  |str b=>obtain⟨t,rfl⟩:=rx;exact SeqAt.EqAt.none_str b t
  |_=>exact absurd (show false=true from fx) qAe
 |bl a=>
  cases ry;cases x with
  |non=>cases rx;exact SeqAt.EqAt.bool_none a
  |bl b=>cases rx;exact SeqAt.EqAt.bool_bool a b
  |int b=>obtain⟨t,rfl⟩:=rx;exact SeqAt.EqAt.bool_int a b t
  |str b=>obtain⟨t,rfl⟩:=rx;exact SeqAt.EqAt.bool_str a b t
  |_=>exact absurd (show false=true from fx) qAe
 |int a=>
  obtain⟨t',rfl⟩:=ry;cases x with
  |non=>cases rx;exact SeqAt.EqAt.int_none a t'
  |bl b=>cases rx;exact SeqAt.EqAt.int_bool a t' b
  |int b=>obtain⟨t,rfl⟩:=rx;exact SeqAt.EqAt.int_int a t' b t
  |str b=>obtain⟨t,rfl⟩:=rx;exact SeqAt.EqAt.int_str a t' b t
  |_=>exact absurd (show false=true from fx) qAe
 |str a=>
  obtain⟨t',rfl⟩:=ry;cases x with
  |non=>cases rx;exact SeqAt.EqAt.str_none a t'
  |bl b=>cases rx;exact SeqAt.EqAt.str_bool a t' b
  |int b=>obtain⟨t,rfl⟩:=rx;exact SeqAt.EqAt.str_int a t' b t
  |str b=>obtain⟨t,rfl⟩:=rx;exact SeqAt.EqAt.str_str a t' b t
  |_=>exact absurd (show false=true from fx) qAe
 |_=>exact absurd (show false=true from fy) qAe
def eqU(x:V)(u:Value):Bool:=match u with
 |.none=>eqV .non x
 |.bool b=>eqV (.bl b) x
 |.int i _=>eqV (.int i) x
 |.str z _=>eqV (.str z) x
 |_=>false
theorem zVJ{x y:V}{u:Value}(r:RelV y u)(f:zGD y=true):eqU x u=eqV y x:=by
 cases y with
 |non=>cases r;rfl
 |bl b=>cases r;rfl
 |int i=>obtain⟨t,rfl⟩:=r;rfl
 |str z=>obtain⟨t,rfl⟩:=r;rfl
 |_=>exact absurd (show false=true from f) qAe
theorem zMX{x:V}:∀{xs:List V}{us:List Value},Vals xs us->xs.all zGD=true->us.any (eqU x)=xs.any fun y=>eqV y x
 |_,_,.nil,_=>rfl
 |y::xs,u::us,.cons r t,f=>by
  rw[qEj,qBp]at f;rw[qCr,qCr,zVJ r f.1,zMX t f.2]
theorem zJJ{A:Around}{s:Shared}{x:V}{v:Value}(rx:RelV x v)(fx:zGD x=true):∀{xs:List V}{us:List Value},Vals xs us->xs.all zGD=true->∀u∈us,SeqAt.EqAt A s u v (eqU x u)
 |_,_,.nil,_=>fun u hu=>by cases hu
 |y::xs,u::us,.cons r t,f=>fun u' hu=>by
  rw[qEj,qBp]at f
  rcases qAk.mp hu with rfl|hu
  ·rw[zVJ r f.1];exact zVK r rx f.1 fx
  ·exact zJJ rx fx t f.2 u' hu
def inV(x:V)(xs:List V):Bool:=xs.any fun y=>eqV y x
def rIn(K:qA2)(neg:Bool):R2:=fun x y H Q=>∃p xs,y=.ref p/\(SqL K H p xs\/SqT K H p xs)/\zGD x=true/\xs.all zGD=true/\Q (.bl (if neg then !inV x xs else inV x xs)) H
theorem zKP:OpR X (compareOp .NotIn) (rIn X.K true):=by
 intro pins s σ H x y v u Q I rx ry h;obtain⟨p,xs,rfl,hq,fx,fs,q⟩:=h;cases ry
 rcases hq with hq|hq
 ·obtain⟨its,r,pl,hz⟩:=I.list hq;refine SeqAt.notIn_listAt (eqU x) pl.isList (fun w hw=>zJJ rx fx r fs w (by simpa using hw)) ⟨.bl _,H,I,rfl,?_⟩;rw[show its.toArray.any (eqU x)=its.any (eqU x) by simp,zMX r fs];exact q
 ·obtain⟨its,r,pl,hz⟩:=I.tuple hq;refine SeqAt.notIn_tupleAt (eqU x) pl (fun w hw=>zJJ rx fx r fs w (by simpa using hw)) ⟨.bl _,H,I,rfl,?_⟩;rw[show its.toArray.any (eqU x)=its.any (eqU x) by simp,zMX r fs];exact q
theorem zKO:OpR X (compareOp .NotIn) (fun x y H Q=>∃i j,x=.str i/\y=.str j/\Q (.bl (!(!(Builtin.Str.occurrences j i 0 j.length 1).isEmpty))) H):=by
 intro pins s σ H x y v u Q I rx ry h;obtain⟨i,j,rfl,rfl,q⟩:=h;obtain⟨t,rfl⟩:=rx;obtain⟨t',rfl⟩:=ry;exact notIn_str ⟨.bl _,H,I,rfl,q⟩
theorem zLO:zGT X (.builtin "len") (fun xs H Q=>∃p ys,xs=[.ref p]/\(SqL X.K H p ys\/SqT X.K H p ys)/\Q (.int ys.length) H):=by
 intro pins s σ H xs us Q I r h;obtain⟨p,ys,rfl,hq,q⟩:=h;obtain⟨u,rfl,rx⟩:=zFY r;cases rx;have hn:=zIK
 rcases hq with hq|hq
 ·obtain⟨its,r',pl,hz⟩:=I.list hq;have hlen:=r'.length;exact Calls.call_len_list pl.isList (by simp only[qAd]<;>lia) ⟨.int ys.length,H,I.tok _,⟨s.toks+1,by rw[qAd,hlen]⟩,q⟩
 ·obtain⟨its,r',pl,hz⟩:=I.tuple hq;have hlen:=r'.length;exact len_tuple pl (by simp only[qAd]<;>lia) ⟨.int ys.length,H,I.tok _,⟨s.toks+1,by rw[qAd,hlen]⟩,q⟩
theorem zLN:zGT X (.builtin "len") (fun xs H Q=>∃z,xs=[.str z]/\z.length<=sizeLine/\Q (.int z.length) H):=by
 intro pins s σ H xs us Q I r h;obtain⟨z,rfl,hz,q⟩:=h;obtain⟨u,rfl,t,rfl⟩:=zFY r;have hn:=zIK;exact len_str (by lia) ⟨.int z.length,H,I.tok _,⟨_,rfl⟩,q⟩
theorem zLM:zGT X (.type "list") (fun xs H Q=>∃p ys,xs=[.ref p]/\(SqL X.K H p ys\/SqT X.K H p ys)/\∀l,H l=none->Q (.ref l) (upd H l (.lst ys))):=by
 intro pins s σ H xs us Q I r h;obtain⟨p,ys,rfl,hq,q⟩:=h;obtain⟨u,rfl,rx⟩:=zFY r;cases rx;have fin:∀(its:List Value),Vals ys its->ys.length<=sizeLine->∀(h':Heap)(c':Nat),(∀b o',s.heap.get? b=some o'->h'.get? b=some o') ->
   h'.get? s.heap.objs.size=some { cls:=.type "list",dict:=none,data:=.seq its.toArray c',slots:=#[] }->EP X pins σ Q (.ref s.heap.objs.size) { s with heap:=h' }:=fun its r' hz h' c' kp e=>
  ⟨.ref s.heap.objs.size,_,I.laid (t':=s.toks) kp (qAa _) (show ObjOk X.prog X.w _ h' _ (.lst ys) from⟨hz,its,c',r',e⟩),rfl,q _ (I.hok.fresh (qAa _))⟩
 rcases hq with hq|hq
 ·obtain⟨its,r',pl,hz⟩:=I.list hq;have hlen:=r'.length;obtain⟨o,ho,hc,n,hd⟩:=pl.isList;exact call_list_seq p (.inl rfl) ho hc hd (fun h' c' kp e=>fin its r' hz h' c' kp e) (by simp only[qAd]<;>lia)
 ·obtain⟨its,r',pl,hz⟩:=I.tuple hq;have hlen:=r'.length;obtain⟨o,ho,hc,n,hd⟩:=pl;exact call_list_seq p (.inr rfl) ho hc hd (fun h' c' kp e=>fin its r' hz h' c' kp e) (by simp only[qAd]<;>lia)
def tyV(K:qA2)(T:String)(x:V)(H:Hp):Prop:=match x with
 |.str _=>T = "str"
 |.int _=>T = "int"
 |.ref p=>(T = "list"/\∃xs,SqL K H p xs)\/(T = "tuple"/\∃o,K.lookup p=some o/\o.cls=.type "tuple"/\o.dict=none) \/
   (T = "dict"/\((∃kvs,H p=some (.dK kvs))\/∃kvs,H p=some (.dT kvs)))\/(T = "set"/\∃S n,H p=some (.set S n))
 |_=>False
theorem zUN{pins:List (Addr×Obj)}{σ:St}{H:Hp}{s:Shared}{T:String}{x:V}{v:Value}(I:Inv X pins σ H s)(r:RelV x v)(ty:tyV X.K T x H) :
  s.TypeIs v T/\∀a,v=.ref a->∃ob,s.heap.get? a=some ob/\ob.dict=none:=by
 cases x with
 |str z=>
  obtain⟨t,rfl⟩:=r
  cases(show T = "str" from ty)
  exact⟨typeIs_str s z t,fun _ e=>nomatch e⟩
 |int i=>
  obtain⟨t,rfl⟩:=r
  cases(show T = "int" from ty)
  exact⟨typeIs_int s i t,fun _ e=>nomatch e⟩
 |ref p=>
  cases r
  rcases ty with⟨rfl,xs,hq⟩|⟨rfl,o,hk,hc,hd⟩|⟨rfl,hk⟩|⟨rfl,S,n,hk⟩
  ·obtain⟨its,_,pl,_⟩:=I.list hq;refine⟨pl.isList.typeIs,fun a e=>?_⟩;cases e;obtain⟨o,n,e,c,hd,_⟩:=pl;exact⟨o,e,hd⟩
  ·refine⟨⟨o,I.kIn p o hk,hc⟩,fun a e=>?_⟩;cases e;exact⟨o,I.kIn _ o hk,hd⟩
  ·have z:∃o,s.heap.get? p=some o/\o.ExactDict:=by
    rcases hk with⟨kvs,hk⟩|⟨kvs,hk⟩
    ·obtain⟨_,_,_,_,o,_,_,e,ex,_⟩:=I.hok p _ hk;exact⟨o,e,ex⟩
    ·obtain⟨_,_,_,_,o,_,_,e,ex,_⟩:=I.hok p _ hk;exact⟨o,e,ex⟩
   obtain⟨o,e,ex⟩:=z;refine⟨⟨o,e,ex.1⟩,fun a e2=>?_⟩;cases e2;exact⟨o,e,ex.2.1⟩
  ·obtain⟨o,_,_,_,e,ex,_⟩:=I.hok p _ hk;refine⟨⟨o,e,ex.1⟩,fun a e2=>?_⟩;cases e2;exact⟨o,e,ex.2.1⟩
 |_=>exact qA7 ty
noncomputable def tBM(K:qA2)(T:String)(r:V->List V->Hp->VK->Prop)(to:TE)(t:TA):TE:=fun σ H Q=>to σ H fun x H1=>tyV K T x H1/\t σ H1 fun xs H2=>r x xs H2 Q
variable{o e:Expr}{es:List Expr}{to:TE}{t:TA}{name:Str}{apos cpos:Pos}{T id:String}{r:V->List V->Hp->VK->Prop}
theorem zJB(pa:PlainAttrs T)(slot:Slot T name id)(hty:typeOf (.builtin id)=pure (.type "method_descriptor"))(hm:MtR X id r)(ho:PE X o to)(ha:PA X (e::es) t)
  (hbase:attributeBase o name X.env (eval o X.env)=eval o X.env:=by rfl)
  (hfew:((backTo cpos (starEach (e::es) X.env)).all (fun x=>!x.1)&&(backToKw cpos (keywordEach [] X.env)).all (fun x=>x.1.isSome)
   && decide ((e::es).length+([]:List Keyword).length+(if([]:List Keyword).isEmpty then 0 else 1)<30))=true:=by rfl)
  (hline:(apos.endLine==cpos.line)=true:=by rfl) (hs:starEach (e::es) X.env=(false,eval e X.env)::starEach es X.env:=by rfl) (hplain:(backTo cpos (starEach es X.env)).any (·.1)=false:=by rfl) :
  PE X (.Call (.Attribute o name apos) (e::es) [] cpos) (tBM X.K T r to t):=by
 intro pins s σ H Q I h;refine wpAny_Call_method_late hbase hfew hline rfl (thn (ho pins s σ H _ I h) fun v s1 z0=>?_);obtain⟨x,H1,I1,r1,ty,q1⟩:=z0;obtain⟨h1,h2⟩:=zUN I1 r1 ty;refine⟨T,id,pa,slot,hty,h1,h2,?_⟩;have hA:=ha cpos pins s1 σ H1 _ I1 q1;rw[hs]at hA ⊢;refine Calls.callWith_builtin (by show(false||(backTo cpos (starEach es X.env)).any (·.1))=false;rw[hplain]<;>rfl) (Calls.evalArgs_plain ?_);exact thn hA fun us s2 ⟨vs,H2,I2,r2,q2⟩=>hm pins s2 σ H2 x vs v us Q I2 r1 r2 q2
end
end L2
namespace L2
open PySem PySem.Spec PyProof.Rows
def MtM(X:Cx)(id:String)(r:V->List V->Hp->VK->Prop):Prop:=
 ∀(pins:List (Addr×Obj))(s:Shared)(σ:St)(H:Hp)(x:V)(xs:List V)(v:Value)(us:List Value)(Q:VK),Inv X pins σ H s->RelV x v->Vals xs us->r x xs H Q ->
  wpAny (model X.prog X.w) X.A (call (.builtin id) (v::us)) (EP X pins σ Q) X.xe s
theorem Vals.one:∀{x:V}{us:List Value},Vals [x] us->∃u,us=[u]/\RelV x u
 |_,_,.cons r .nil=>⟨_,rfl,r⟩
theorem Vals.zero:∀{us:List Value},Vals [] us->us=[]
 |_,.nil=>rfl
theorem Vals.dropLast{xs:List V}{us:List Value}(h:Vals xs us):Vals xs.dropLast us.dropLast:=by
 induction h with
 |nil=>exact .nil
 |cons r t ih=>
  cases t with
  |nil=>exact .nil
  |cons q t'=>exact .cons r ih
theorem Vals.eraseIdx:∀{xs:List V}{us:List Value}(i:Nat),Vals xs us->Vals (xs.eraseIdx i) (us.eraseIdx i)
 |_,_,_,.nil=>.nil
 |_,_,0,.cons _ t=>t
 |_,_,i+1,.cons r t=>.cons r (Vals.eraseIdx i t)
theorem Vals.rep{xs:List V}{us:List Value}(h:Vals xs us):∀k:Nat,Vals (qA5 k xs).flatten (qA5 k us).flatten
 |0=>.nil
 |k+1=>by
  rw[qB7,qB7,qAv,qAv];exact Vals.append h (Vals.rep h k)
theorem zP9{α:Type}(l:List α):l.eraseIdx (l.length-1)=l.dropLast:=by
 induction l with
 |nil=>rfl
 |cons a r ih=>
  cases r with
  |nil=>rfl
  |cons b r=>
   have e:(a::b::r).length-1=((b::r).length-1)+1:=by
    have h1:(a::b::r).length=r.length+2:=rfl;have h2:(b::r).length=r.length+1:=rfl
    lia
   rw[e,List.eraseIdx_cons_succ,ih]
   all_goals rfl
theorem zHT{α:Type}:∀(l:List α)(i:Nat),(l.eraseIdx i).length<=l.length
 |[],_=>qAa _
 |_::_,0=>qBy _
 |_::r,i+1=>qGa (zHT r i)
theorem zLE(its:List Value):∀(k:Nat)(acc:List Value),
  qHi (fun x1 x2=>x1++x2) acc.toArray (qA5 k its.toArray)=(acc++(qA5 k its).flatten).toArray
 |0,acc=>by simp
 |k+1,acc=>by
  have e:acc.toArray++its.toArray=(acc++its).toArray:=by simp
  have e2:(acc++its)++(qA5 k its).flatten=acc++(qA5 (k+1) its).flatten:=by
   rw[qB7,qAv,qBl]
  rw[<- e2,<- zLE its k (acc++its),<- e,qB7,qDa]
section
variable{X:Cx}{pins:List (Addr×Obj)}{σ:St}{H:Hp}{s:Shared}{l b:Addr}{xs ys zs:List V}
theorem Inv.lset{its its':List Value}{n:Nat}{f:Array Value->Array Value}{t':Nat}(I:Inv X pins σ H s)(hH:H l=some (.lst xs))
  (e:s.heap.get? l=some { cls:=.type "list",data:=.seq its.toArray n }) (hf:f its.toArray=its'.toArray) (hv:Vals ys its') (hz:ys.length<=sizeLine) :
  Inv X pins σ (upd H l (.lst ys)) { s with heap:=s.heap.update l (Obj.mapSeq f),toks:=t' }:=by
 have q:=PySem.IsL.update e f;rw[hf]at q;refine I.write (x:=l) (e:=l) (by rw[hH];exact trivial) (.inl rfl) (fun b' u hb hu=>(Heap.get?_update_other s.heap (Obj.mapSeq f) (qD6 hb)).trans hu) ⟨_,q⟩ ?_;exact⟨hz,its',_,hv,q⟩
theorem Inv.lnew{its:List Value}{t':Nat}(I:Inv X pins σ H s)(hv:Vals ys its)(hz:ys.length<=sizeLine) :
  Inv X pins σ (upd H s.heap.objs.size (.lst ys)) { s with heap:=s.heap.push { cls:=.type "list",data:=.seq its.toArray },toks:=t' }:=
 I.laid (fun _ _ q=>Heap.get?_push_of_some _ q) (qAa _) ⟨hz,its,0,hv,Heap.get?_push_size _ rfl⟩
theorem Inv.fresh(I:Inv X pins σ H s):H s.heap.objs.size=none:=I.hok.fresh (qAa _)
theorem Inv.lstM(I:Inv X pins σ H s)(hH:H l=some (.lst xs)):xs.length<=sizeLine/\∃(its:List Value)(n:Nat),Vals xs its/\xs.length=its.length/\s.heap.get? l=some { cls:=.type "list",data:=.seq its.toArray n }:=by
 obtain⟨z,its,n,r,e⟩:=I.hok l _ hH;exact⟨z,its,n,r,r.length,e⟩
theorem zNU{n:Nat}(h:n<=sizeLine):Builtin.List.listTooLong n=false:=by
 unfold Builtin.List.listTooLong;exact decide_eq_false (by lia)
end
section
variable{X:Cx}
def zWA:V->List V->Hp->VK->Prop:=fun x vs H Q=>∃l xs y,x=.ref l/\vs=[y]/\H l=some (.lst xs)/\xs.length<sizeLine/\Q .non (upd H l (.lst (xs++[y])))
theorem zR5:MtM X "list.append" zWA:=by
 intro pins s σ H x vs v us Q I rx rv h;obtain⟨l,xs,y,rfl,rfl,hH,hz,q⟩:=h;cases rx;obtain⟨u,rfl,ru⟩:=rv.one;obtain⟨z,its,n,r,hl,e⟩:=I.lstM hH;refine call_meets F.slot_list_append ⟨_,e,rfl⟩ F.entry_list_append (F.args_list_append_2 _ _) (PySem.list_append l its.toArray n u (by rw[qAd];lia)) ⟨e,?_⟩;refine⟨.non,_,I.lset (its':=its++[u]) hH e (by simp) (r.append (.cons ru .nil)) ?_,rfl,q⟩;rw[qB2,qDq]
 lia
def zW8:V->List V->Hp->VK->Prop:=fun x vs H Q=>∃l b xs zs,x=.ref l/\vs=[.ref b]/\H l=some (.lst xs)/\H b=some (.lst zs)/\xs.length+zs.length<=sizeLine/\Q .non (upd H l (.lst (xs++zs)))
theorem zR4:MtM X "list.extend" zW8:=by
 intro pins s σ H x vs v us Q I rx rv h;obtain⟨l,b,xs,zs,rfl,rfl,hH,hB,hz,q⟩:=h;cases rx;obtain⟨u,rfl,ru⟩:=rv.one;cases ru;obtain⟨z,its,n,r,hl,e⟩:=I.lstM hH;obtain⟨z2,its2,n2,r2,hl2,e2⟩:=I.lstM hB;have hsz:its.toArray.size+its2.toArray.size<=sizeLine:=by rw[qAd,qAd];lia
 have hlong:¬(!its.toArray.isEmpty&&Builtin.List.listTooLong (its.toArray.size+its2.toArray.size))=true:=by
  rw[zNU hsz,qD0];exact qAe
 refine call_meets F.slot_list_extend ⟨_,e,rfl⟩ F.entry_list_extend (F.args_list_extend_2 _ _)
  (AutoSeq1.list_extend_list_list_0 l its.toArray n b its2.toArray n2 hlong (by rw[qAd];lia) (by lia)) ⟨e,e2,?_⟩
 refine⟨.non,_,I.lset (its':=its++its2) hH e (by simp) (r.append r2) ?_,rfl,q⟩;rw[qB2]
 lia
def rPop:V->List V->Hp->VK->Prop:=fun x vs H Q=>∃l xs y,x=.ref l/\vs=[]/\H l=some (.lst xs)/\xs[xs.length-1]?=some y/\Q y (upd H l (.lst xs.dropLast))
theorem zZJ:MtM X "list.pop" rPop:=by
 intro pins s σ H x vs v us Q I rx rv h;obtain⟨l,xs,y,rfl,rfl,hH,hy,q⟩:=h;cases rx;have hus:=rv.zero;subst hus;obtain⟨z,its,n,r,hl,e⟩:=I.lstM hH;obtain⟨u,hu,ru⟩:=r.get hy;have hy':its.toArray[its.toArray.size-1]?=some u:=by
  show its.toArray[its.length-1]?=some u;rw[<- qDr,<- hl];exact hu
 refine call_meets F.slot_list_pop ⟨_,e,rfl⟩ F.entry_list_pop (F.args_list_pop_1 _) (MeetsSeq.list_pop_last l its.toArray n u hy' (by rw[qAd];lia)) ⟨e,?_⟩;refine⟨y,_,I.lset (its':=its.dropLast) hH e ?_ r.dropLast ?_,ru,q⟩
 ·show its.toArray.eraseIdxIfInBounds (its.toArray.size-1)=its.dropLast.toArray;rw[qAd,qDj,zP9]
 ·rw[List.length_dropLast]
  lia
def zYR:V->List V->Hp->VK->Prop:=fun x vs H Q=>∃l xs i k y,x=.ref l/\vs=[.int i]/\H l=some (.lst xs)/\-(2 ^ 63)<=i/\i<2 ^ 63/\seqIndex? i xs.length=some k/\xs[k]?=some y/\Q y (upd H l (.lst (xs.eraseIdx k)))
theorem zTL:MtM X "list.pop" zYR:=by
 intro pins s σ H x vs v us Q I rx rv h;obtain⟨l,xs,i,k,y,rfl,rfl,hH,h1,h2,hk,hy,q⟩:=h;cases rx;obtain⟨u,rfl,ru⟩:=rv.one;obtain⟨t,rfl⟩:=ru;obtain⟨z,its,n,r,hl,e⟩:=I.lstM hH;obtain⟨w,hw,rw'⟩:=r.get hy;refine call_meets F.slot_list_pop ⟨_,e,rfl⟩ F.entry_list_pop (F.args_list_pop_2 _ _)
  (MeetsSeq.list_pop_at l its.toArray n i t k w (fitsIndex_both h1 h2) (by rw[qAd,<- hl];exact hk) (by rw[<- qDr];exact hw) (by rw[qAd];lia)) ⟨e,?_⟩
 refine⟨y,_,I.lset (its':=its.eraseIdx k) hH e ?_ (r.eraseIdx k) ?_,rw',q⟩
 ·show its.toArray.eraseIdxIfInBounds k=(its.eraseIdx k).toArray;rw[qDj]
 ·have:=zHT xs k
  lia
def rCat:R2:=fun x y H Q=>∃l b xs zs,x=.ref l/\y=.ref b/\H l=some (.lst xs)/\H b=some (.lst zs)/\xs.length+zs.length<=sizeLine/\∀p,H p=none->Q (.ref p) (upd H p (.lst (xs++zs)))
theorem zZE:OpR X (binaryOp .Add) rCat:=by
 intro pins s σ H x y v u Q I rx ry h;obtain⟨l,b,xs,zs,rfl,rfl,hH,hB,hz,q⟩:=h;cases rx;cases ry;obtain⟨z,its,n,r,hl,e⟩:=I.lstM hH;obtain⟨z2,its2,n2,r2,hl2,e2⟩:=I.lstM hB;refine PySem.P.add_list e e2 ?_ (by rw[qAd,qAd];lia);have ea:its.toArray++its2.toArray=(its++its2).toArray:=by simp
 rw[ea];exact⟨.ref _,_,I.lnew (t':=s.toks) (r.append r2) (by rw[qB2];lia),rfl,q _ I.fresh⟩
def rRep:R2:=fun x y H Q=>∃l k xs,x=.ref l/\y=.int k/\H l=some (.lst xs)/\-(2 ^ 63)<=k/\k<2 ^ 63/\xs.length*k.toNat<=sizeLine /\
 ∀p,H p=none->Q (.ref p) (upd H p (.lst (qA5 k.toNat xs).flatten))
theorem zWW{α:Type}(xs:List α)(k:Nat):(qA5 k xs).flatten.length=k*xs.length:=by
 induction k with
 |zero=>simp
 |succ k ih=>rw[qB7,qAv,qB2,ih,qG5,Nat.add_comm]
theorem zZ9:OpR X (binaryOp .Mult) rRep:=by
 intro pins s σ H x y v u Q I rx ry h;obtain⟨l,k,xs,rfl,rfl,hH,h1,h2,hz,q⟩:=h;cases rx;obtain⟨t,rfl⟩:=ry;obtain⟨z,its,n,r,hl,e⟩:=I.lstM hH;have hlen:its.toArray.size*k.toNat<=sizeLine:=by rw[qAd,<- hl];exact hz
 have hcap:¬its.toArray.size*k.toNat>(2 ^ 63-1)/8:=by
  have:(sizeLine:Nat)<=(2 ^ 63-1)/8:=by decide
  lia
 have hfit:¬(!Builtin.List.listFitsIndex k)=true:=by
  rw[fitsIndex_both h1 h2];exact qAe
 have hlong:¬Builtin.List.listTooLong (its.toArray.size*k.toNat)=true:=by
  rw[zNU hlen];exact qAe
 have hnew:qHi (fun x1 x2=>x1++x2) #[] (qA5 (if its.toArray.isEmpty=true then 0 else k.toNat) its.toArray)=(qA5 k.toNat its).flatten.toArray:=by
  have f0:∀m:Nat,qHi (fun x1 x2=>x1++x2) #[] (qA5 m its.toArray)=(qA5 m its).flatten.toArray:=fun m=>by
   have:=zLE its m []
   rw[qGj]at this;exact this
  rw[f0];cases its with
  |nil=>simp
  |cons a r'=>rw[if_neg (by simp)]
 refine wpAny_binaryOp_repeat_ref (T:="list") (U:="int") (by decide) ⟨_,e,rfl⟩ (fun s'=>typeIs_int s' k t) noFill_list_mul F.fills_int_mul F.slot_int_rmul repeat_list F.slot_int_index.lookup
  (call_meets F.slot_int_rmul (typeIs_int s k t) F.entry_int_rmul (F.args_int_rmul_2 _ _) (int___rmul___int_list k t l its.toArray n)
   ⟨e,rfl,⟨_,e,rfl⟩,call_meets F.slot_list_mul ⟨_,e,rfl⟩ F.entry_list_mul (F.args_list_mul_2 _ _) (AutoListH.list___mul___list_int_3 l its.toArray n k t hfit hcap hlong) ⟨e,?_⟩⟩)
 rw[hnew];exact⟨.ref _,_,I.lnew (t':=s.toks) (r.rep k.toNat) (by rw[zWW,Nat.mul_comm];exact hz),rfl,q _ I.fresh⟩
end
section
variable{prog:Program}{w:World}{A:Around}{E:Value->Shared->Prop}{s:Shared}
end
section
variable{X:Cx}
end
end L2
namespace L2
open PySem PySem.Spec PyProof.Rows
section
variable{κ:Type}[DecidableEq κ]
noncomputable def valV(kvs:List (κ×V))(k:κ):Option V:=(kvs.find? fun kv=>decide (kv.1=k)).map (·.2)
noncomputable def putK(kvs:List (κ×V))(k:κ)(v:V):List (κ×V):=
 if(kvs.any fun kv=>decide (kv.1=k))=true then kvs.map (fun kv=>if kv.1=k then(kv.1,v)else kv)else kvs++[(k,v)]
noncomputable def za6(kvs:List (κ×V))(k:κ):List (κ×V):=kvs.filter fun kv=>decide (kv.1≠k)
theorem zIW{p:κ×V}{r:List (κ×V)}{k:κ}(e:p.1=k):valV (p::r) k=some p.2:=by simp[valV,qCe,e]
theorem zIX{p:κ×V}{r:List (κ×V)}{k:κ}(e:¬p.1=k):valV (p::r) k=valV r k:=by simp[valV,qCe,e]
theorem zN1(k:κ):∀kvs:List (κ×V),(kvs.any fun kv=>decide (kv.1=k))=(valV kvs k).isSome
 |[]=>rfl
 |p::r=>by
  rw[qCr]
  by_cases e:p.1=k
  ·simp only[zIW e,decide_eq_true e,Bool.true_or,qFo]
  ·rw[zIX e,decide_eq_false e,Bool.false_or];exact zN1 k r
theorem zF6(kvs:List (κ×V))(k:κ)(v:V):(putK kvs k v).length<=kvs.length+1:=by
 unfold putK
 split
 ·rw[qAg];lia
 ·rw[qB2,qB6,qGk];lia
theorem RelO.isSome_eq{o:Option V}{u:Option Value}(r:RelO o u):o.isSome=u.isSome:=by
 cases o with
 |none=>cases u with
  |none=>rfl
  |some _=>exact(show False from r).elim
 |some _=>cases u with
  |none=>exact(show False from r).elim
  |some _=>rfl
theorem RelO.getD{o:Option V}{u:Option Value}{d:V}{d':Value}(r:RelO o u)(rd:RelV d d'):RelV (o.getD d) (u.getD d'):=by
 cases o with
 |none=>cases u with
  |none=>exact rd
  |some _=>exact(show False from r).elim
 |some _=>cases u with
  |none=>exact(show False from r).elim
  |some _=>exact r
theorem KV.val{kvs:List (κ×V)}{vs:List (κ×Value)}(r:KV kvs vs)(k:κ):RelO (valV kvs k) (valueAt vs k):=by
 unfold KV at r
 induction r with
 |nil=>exact qFc
 |@cons p q ps qs h t ih=>
  obtain⟨h1,h2⟩:=h
  by_cases e:p.1=k
  ·have e':q.1=k:=h1.symm.trans e;have b:valueAt (q::qs) k=some q.2:=by simp[valueAt,qCe,e']
   rw[zIW e,b];exact h2
  ·have e':¬q.1=k:=fun z=>e (h1.trans z)
   have b:valueAt (q::qs) k=valueAt qs k:=by simp[valueAt,qCe,e']
   rw[zIX e,b];exact ih
theorem KV.any{kvs:List (κ×V)}{vs:List (κ×Value)}(r:KV kvs vs)(k:κ):(kvs.any fun kv=>decide (kv.1=k))=vs.any fun kv=>decide (kv.1=k):=by
 unfold KV at r
 induction r with
 |nil=>rfl
 |cons h t ih=>rw[qCr,qCr,ih,h.1]
theorem KV.repl{kvs:List (κ×V)}{vs:List (κ×Value)}(r:KV kvs vs)(k:κ){y:V}{u:Value}(ry:RelV y u) :
  KV (kvs.map fun kv=>if kv.1=k then(kv.1,y)else kv) (vs.map fun kv=>if kv.1=k then(kv.1,u)else kv):=by
 unfold KV at r ⊢
 induction r with
 |nil=>exact .nil
 |@cons p q ps qs h t ih=>
  rw[qAn,qAn];refine .cons ?_ ih;obtain⟨h1,h2⟩:=h
  by_cases e:p.1=k
  ·rw[if_pos e,if_pos (h1.symm.trans e)];exact⟨h1,ry⟩
  ·rw[if_neg e,if_neg (fun z=>e (h1.trans z))];exact⟨h1,h2⟩
theorem KV.put{kvs:List (κ×V)}{vs:List (κ×Value)}(r:KV kvs vs)(k:κ){y:V}{u:Value}(ry:RelV y u):KV (putK kvs k y) (stored vs k u):=by
 unfold putK stored;rw[r.any k]
 by_cases e:(vs.any fun kv=>decide (kv.1=k))=true
 ·rw[if_pos e,if_pos e];exact r.repl k ry
 ·rw[if_neg e,if_neg e];exact Paired.snoc r ⟨rfl,ry⟩
theorem KV.drop{kvs:List (κ×V)}{vs:List (κ×Value)}(r:KV kvs vs)(k:κ):KV (za6 kvs k) (without vs k):=by
 unfold KV at r ⊢;unfold za6 without
 induction r with
 |nil=>exact .nil
 |@cons p q ps qs h t ih=>
  obtain⟨h1,h2⟩:=h;rw[qGb,qGb]
  by_cases e:p.1=k
  ·have a:¬decide (p.1≠k)=true:=by simp[e]
   have b:¬decide (q.1≠k)=true:=by simp[h1.symm.trans e]
   rw[if_neg a,if_neg b];exact ih
  ·have e':¬q.1=k:=fun z=>e (h1.trans z)
   have a:decide (p.1≠k)=true:=by simp[e]
   have b:decide (q.1≠k)=true:=by simp[e']
   rw[if_pos a,if_pos b];exact .cons ⟨h1,h2⟩ ih
theorem KV.length{kvs:List (κ×V)}{vs:List (κ×Value)}(r:KV kvs vs):kvs.length=vs.length:=Paired.length r
end
theorem zP5{P:Program}{w:World}{k:Key}{u:Value}(r:RelV (kV k) u):(zBN P w).is k u=true:=by
 cases k with
 |inl i=>obtain⟨t,e⟩:=(show ∃t,u=Value.int i t from r);subst e;exact zMD P w i t
 |inr x=>obtain⟨t,e⟩:=(show ∃t,u=Value.str x t from r);subst e;exact zMC P w x t
theorem zL8{P:Program}{w:World}:∀{ks:List Key}{us:List Value},Vals (ks.map kV) us->ItemsAre (zBN P w) ks us
 |[],_,r=>by rw[qF0]at r;cases r;exact .nil
 |k::ks,_,r=>by
  rw[qAn]at r;cases r with
  |cons h t=>exact .cons (zP5 h) (zL8 t)
abbrev KT(H:Hp):List (List Key×V)->List (List Key×Addr×Value)->Prop:=Paired fun p q=>p.1=q.1/\H q.2.1=some (.tup (p.1.map kV))/\RelV p.2 q.2.2
theorem KT.val{H:Hp}{kvs:List (List Key×V)}{xs:List (List Key×Addr×Value)}(r:KT H kvs xs)(k:List Key):RelO (valV kvs k) ((atKey xs k).map (·.2)):=by
 induction r with
 |nil=>exact qFc
 |@cons p q ps qs h t ih=>
  obtain⟨h1,_,h2⟩:=h
  by_cases e:p.1=k
  ·have e':q.1=k:=h1.symm.trans e;have b:atKey (q::qs) k=some q.2:=by simp[atKey,qCe,e']
   rw[zIW e,b];exact h2
  ·have e':¬q.1=k:=fun z=>e (h1.trans z)
   have b:atKey (q::qs) k=atKey qs k:=by simp[atKey,qCe,e']
   rw[zIX e,b];exact ih
theorem KT.repl{H:Hp}{kvs:List (List Key×V)}{xs:List (List Key×Addr×Value)}(r:KT H kvs xs)(k:List Key){y:V}{u:Value}(ry:RelV y u) :
  KT H (kvs.map fun kv=>if kv.1=k then(kv.1,y)else kv) (xs.map (putAt k u)):=by
 induction r with
 |nil=>exact .nil
 |@cons p q ps qs h t ih=>
  rw[qAn,qAn];refine .cons ?_ ih;obtain⟨h1,h2,h3⟩:=h;unfold putAt
  by_cases e:p.1=k
  ·rw[if_pos e,if_pos (h1.symm.trans e)];exact⟨h1,h2,ry⟩
  ·rw[if_neg e,if_neg (fun z=>e (h1.trans z))];exact⟨h1,h2,h3⟩
theorem KT.put{H:Hp}{kvs:List (List Key×V)}{xs:List (List Key×Addr×Value)}(r:KT H kvs xs)(k:List Key){b:Addr}{y:V}{u:Value}(hb:H b=some (.tup (k.map kV)))(ry:RelV y u) :
  KT H (putK kvs k y) (storedH xs k b u):=by
 have e:(kvs.any fun kv=>decide (kv.1=k))=(atKey xs k).isSome:=by
  rw[zN1,(r.val k).isSome_eq,qDk]
 unfold putK storedH;rw[e]
 by_cases q:(atKey xs k).isSome=true
 ·rw[if_pos q,if_pos q];exact r.repl k ry
 ·rw[if_neg q,if_neg q];exact Paired.snoc r ⟨rfl,hb,ry⟩
theorem KT.keeps{H H':Hp}{kvs:List (List Key×V)}{xs:List (List Key×Addr×Value)}(r:KT H kvs xs)(ht:∀b ys,H b=some (.tup ys)->H' b=some (.tup ys)):KT H' kvs xs:=
 Paired.mapP r fun _ _ z=>⟨z.1,ht _ _ z.2.1,z.2.2⟩
section
variable{P:Program}{w:World}{H:Hp}{h:Heap}{a:Addr}
theorem zYM{u:HO}(ok:HOk P w H h)(e:Rd H a u):ObjOk P w H h a u:=e.ok ok
theorem zPC{kvs:List (Key×V)}(ok:HOk P w H h)(e:Rd H a (.dK kvs)):kvs.length<=sizeLine/\(a==sysModules)=false/\∃vs,KV kvs vs/\h.DictOf (zBN P w) a vs:=
 show ObjOk P w H h a (.dK kvs) from zYM ok e
theorem za7{kvs:List (Key×V)}(ok:HOk P w H h)(e:H a=some (.dK kvs)):kvs.length<=sizeLine/\(a==sysModules)=false/\∃vs,KV kvs vs/\h.DictOf (zBN P w) a vs:=zPC ok (.inl e)
theorem zL5{ks:List Key}(ok:HOk P w H h)(e:H a=some (.tup (ks.map kV))):(tupleKind (zBN P w)).is h ks a:=by
 obtain⟨_,its,r,o,h1,h2,n,h3⟩:=(show ObjOk P w H h a (.tup (ks.map kV)) from ok a _ e)
 exact⟨o,its.toArray,n,h1,h2,h3,by simpa using zL8 r⟩
theorem zPB{kvs:List (List Key×V)}(ok:HOk P w H h)(e:Rd H a (.dT kvs)):kvs.length<=sizeLine/\(a==sysModules)=false /\
  ∃xs,KT H kvs xs/\h.DictOfH (tupleKind (zBN P w)) a xs:=by
 obtain⟨z,y,xs,r,o,es,ep,h1,h2,h3,h4,h5⟩:=(show ObjOk P w H h a (.dT kvs) from zYM ok e)
 refine⟨z,y,xs,r,o,es,ep,h1,h2,h3,h4,fun x hx=>?_,h5⟩;have all:∀{l:List (List Key×V)}{m:List (List Key×Addr×Value)},KT H l m->∀x∈m,(tupleKind (zBN P w)).is h x.1 x.2.1:=by
  intro l m q
  induction q with
  |nil=>intro x hx;exact nomatch hx
  |@cons p q ps qs hq t ih=>
   intro x hx
   rcases qAk.mp hx with e|hx
   ·subst e;exact zL5 ok (by rw[<- hq.1];exact hq.2.1)
   ·exact ih x hx
 exact all r x hx
theorem zbM{kvs:List (List Key×V)}(ok:HOk P w H h)(e:H a=some (.dT kvs)):kvs.length<=sizeLine/\(a==sysModules)=false /\
  ∃xs,KT H kvs xs/\h.DictOfH (tupleKind (zBN P w)) a xs:=zPB ok (.inl e)
end
def DGet(H:Hp)(a:Addr)(y:V)(r:Option V):Prop:=
 (∃kvs k,Rd H a (.dK kvs)/\y=kV k/\r=valV kvs k)\/∃kvs k b,Rd H a (.dT kvs)/\y=.ref b/\H b=some (.tup (k.map kV))/\r=valV kvs k
def DPut(H:Hp)(a:Addr)(y v:V)(H':Hp):Prop:=
 (∃kvs k,H a=some (.dK kvs)/\y=kV k/\kvs.length<sizeLine/\H'=upd H a (.dK (putK kvs k v))) \/
 ∃kvs k b,H a=some (.dT kvs)/\y=.ref b/\H b=some (.tup (k.map kV))/\kvs.length<sizeLine/\H'=upd H a (.dT (putK kvs k v))
theorem DGet.k{H:Hp}{a:Addr}{kvs:List (Key×V)}{k:Key}(e:H a=some (.dK kvs)):DGet H a (kV k) (valV kvs k):=.inl ⟨kvs,k,.inl e,rfl,rfl⟩
theorem DPut.k{H:Hp}{a:Addr}{kvs:List (Key×V)}{k:Key}{v:V}(e:H a=some (.dK kvs))(hl:kvs.length<sizeLine):DPut H a (kV k) v (upd H a (.dK (putK kvs k v))):=.inl ⟨kvs,k,e,rfl,hl,rfl⟩
section
variable{X:Cx}{pins:List (Addr×Obj)}{σ:St}{H:Hp}{s:Shared}{a:Addr}{y v:V}{u r:Value}{o:Option V}{A:Around}{E:Value->Shared->Prop}
theorem Inv.big(I:Inv X pins σ H s):sysModules<s.heap.objs.size:=by
 have h:mainGlobals<s.heap.objs.size:=(I.mod.glob.keeps I.bk).lt;exact Nat.lt_trans (by decide) h
theorem zS2{Q:Value->Shared->Prop}(hu:A.units+1<cLine)(I:Inv X pins σ H s)(g:DGet H a y (some v))(ry:RelV y u)(h:∀w' s',Inv X pins σ H s'->RelV v w'->Q w' s') :
  wpAny (model X.prog X.w) A (getItem (.ref a) u) Q E s:=by
 rcases g with⟨kvs,k,e,ey,l⟩|⟨kvs,k,b,e,ey,eb,l⟩
 ·subst ey;obtain⟨z,hd,vs,rel,dd⟩:=zPC I.hok e;obtain⟨w',hw,rw'⟩:=RelO.some_of (v:=v) (o:=valueAt vs k) (by rw[l];exact rel.val k);exact wpAny_getItem_of (zP5 ry) dd.mapOf hw (h w' _ (I.tok _) rw')
 ·subst ey
  cases(show u=Value.ref b from ry)
  obtain⟨z,hd,xs,rel,dd⟩:=zPB I.hok e;obtain⟨w',hw,rw'⟩:=RelO.some_of (v:=v) (o:=(atKey xs k).map (·.2)) (by rw[l];exact rel.val k);obtain⟨p,hp,hp2⟩:=qDg.mp hw;refine wpAny_getItem_heap (tupleKind_room_in1 hu) (zL5 I.hok eb) dd hp ?_;rw[hp2];exact h w' _ (I.tok _) rw'
theorem zXH{Q:Value->Shared->Prop}(hu:A.units+1<cLine)(I:Inv X pins σ H s)(g:DGet H a y o)(ry:RelV y u)(h:∀s',Inv X pins σ H s'->Q (.bool (!o.isSome)) s') :
  wpAny (model X.prog X.w) A (compareOp .NotIn u (.ref a)) Q E s:=by
 rcases g with⟨kvs,k,e,ey,l⟩|⟨kvs,k,b,e,ey,eb,l⟩
 ·subst ey;obtain⟨z,hd,vs,rel,dd⟩:=zPC I.hok e;refine wpAny_notIn_of (zP5 ry) hd dd.mapOf ?_;rw[<- (rel.val k).isSome_eq,<- l];exact h _ (I.tok _)
 ·subst ey
  cases(show u=Value.ref b from ry)
  obtain⟨z,hd,xs,rel,dd⟩:=zPB I.hok e;refine wpAny_notIn_heap (tupleKind_room_in1 hu) (zL5 I.hok eb) hd dd ?_;have q:=(rel.val k).isSome_eq;rw[qDk]at q;rw[<- q,<- l];exact h _ (I.tok _)
theorem zS0{h':Heap}{t':Nat}{ob:HO}(I:Inv X pins σ H s)(mu:Mut (H a))(hs:Heap.SameBut a s.heap h')(he:∃q,h'.get? a=some q)(new:ObjOk X.prog X.w (upd H a ob) h' a ob) :
  Inv X pins σ (upd H a ob) { s with heap:=h',toks:=t' }:=
 I.write (x:=a) (e:=a) mu (.inl rfl) (fun b q hb z=>(hs.2 b hb).trans z) he new
theorem zVO{P:Program}{w:World}{H':Hp}{h':Heap}{kvs:List (Key×V)}{vs:List (Key×Value)}(z:kvs.length<=sizeLine)(hd:(a==sysModules)=false)(rel:KV kvs vs)(dd:h'.DictOf (zBN P w) a vs) :
  ObjOk P w H' h' a (.dK kvs):=⟨z,hd,vs,rel,dd⟩
theorem zS1{H':Hp}{Q:Unit->Shared->Prop}(hu:A.units+1<cLine)(I:Inv X pins σ H s)(g:DPut H a y v H')(ry:RelV y u)(rv:RelV v r)(h:∀s',Inv X pins σ H' s'->Q () s') :
  wpAny (model X.prog X.w) A (setItem (.ref a) u r) Q E s:=by
 rcases g with⟨kvs,k,e,ey,l,eH⟩|⟨kvs,k,b,e,ey,eb,l,eH⟩
 ·subst ey eH;obtain⟨z,hd,vs,rel,dd⟩:=za7 I.hok e;have hz:vs.length<=sizeLine:=by rw[<- rel.length];exact z
  have hl:(putK kvs k v).length<=sizeLine:=by have:=zF6 kvs k v;lia
  refine wpAny_setItem_pairs (hsz:=hz) (zP5 ry) dd fun h' dd' hs=>h _ ?_
  have he:∃q,h'.get? a=some q:=let⟨q,_,_,hq,_⟩:=dd';⟨q,hq⟩
  exact zS0 I (by rw[e];exact qFc) hs he (zVO hl hd (rel.put k rv) dd')
 ·subst ey eH
  cases(show u=Value.ref b from ry)
  obtain⟨z,hd,xs,rel,dd⟩:=zbM I.hok e;have hz:xs.length<=sizeLine:=by rw[<- Paired.length rel];exact z
  have hl:(putK kvs k v).length<=sizeLine:=by have:=zF6 kvs k v;lia
  refine wpAny_setItem_heap (hsz:=hz) (tupleKind_room_in1 hu) (zL5 I.hok eb) dd fun h' dd' hs=>h _ ?_
  obtain⟨q,es,ep,hq,h2,h3,h4,_,h5⟩:=dd';refine zS0 I (by rw[e];exact qFc) hs ⟨q,hq⟩ ⟨hl,hd,_,(rel.put k eb rv).keeps fun c ys ec=>?_,q,es,ep,hq,h2,h3,h4,h5⟩;rw[zAJ (zWS ec e (fun z=>nomatch z))];exact ec
end
section
variable{X:Cx}{pins:List (Addr×Obj)}{σ:St}{H:Hp}{s:Shared}{a:Addr}{kvs:List (Key×V)}{k:Key}{u:Value}{A:Around}{E:Value->Shared->Prop}
end
def NoSl(i:Expr):Prop:=∀ov iv,subscripted i false ov iv=operate [ov,iv] (getItem ov iv)
theorem zW4{prog:Program}{w:World}{A:Around}{E:Value->Shared->Prop}{s:Shared}{env:Env}{value slice:Expr}{pos:Pos}{T id:String}{Q:Value->Shared->Prop}
  (hl:typeLookup (.type T) "__getitem__" = pure (some (.builtin id))) (hs:NoSl slice)
  (h:wpAny (model prog w) A (eval value env) (fun o s₁=>wpAny (model prog w) A (eval slice env) (fun i s₂=>s₂.TypeIs o T/\wpAny (model prog w) A (getItem o i) Q E s₂) E s₁) E s) :
  wpAny (model prog w) A (eval (.Subscript value slice pos) env) Q E s:=by
 refine Subscript_ (wpAny_mono h (fun o s₁ h₁=>wpAny_mono h₁ (fun i s₂ h₂=>?_) fun _ _ x=>x) fun _ _ x=>x);obtain⟨hT,h₂⟩:=h₂;unfold subscriptTail;refine wpAny_bind ?_;rw[getitemInPython_of_ne hT.not_modules];refine wpAny_bind (wpAny_specialOf hT hl ?_);have fin:wpAny (model prog w) A (subscripted slice false o i) (fun r s₃=>wpAny (model prog w) A (letTemporaryGo value o r >>= fun _=>pure r) Q E s₃) E s₂:=by
  rw[hs o i];exact wpAny_operating (wpAny_mono h₂ (fun r s₃ h₃=>wpAny_bind (wpAny_letTemporaryGo (wpAny_pure h₃))) fun _ _ x=>x)
 first
  |exact wpAny_pure (wpAny_bind fin)
  |exact wpAny_bind (wpAny_pure (wpAny_bind fin))
  |exact wpAny_bind fin
theorem zMO{X:Cx}{pins:List (Addr×Obj)}{σ:St}{H:Hp}{s:Shared}{a:Addr}{y:V}{o:Option V}(I:Inv X pins σ H s)(g:DGet H a y o):s.TypeIs (.ref a) "dict":=by
 rcases g with⟨kvs,k,e,_,_⟩|⟨kvs,k,b,e,_,_,_⟩
 ·obtain⟨_,_,vs,_,dd⟩:=zPC I.hok e;exact dd.typeIs
 ·obtain⟨_,_,xs,_,dd⟩:=zPB I.hok e;exact dd.typeIs
noncomputable def zY6(td ty:TE):TE:=fun σ H Q=>td σ H fun x H1=>ty σ H1 fun y H2=>∃a v,x=.ref a/\DGet H2 a y (some v)/\Q v H2
noncomputable def tDIn(ty td:TE):TE:=fun σ H Q=>ty σ H fun y H1=>td σ H1 fun x H2=>∃a o,x=.ref a/\DGet H2 a y o/\Q (.bl o.isSome) H2
noncomputable def zPX(ty td:TE):TE:=fun σ H Q=>ty σ H fun y H1=>td σ H1 fun x H2=>∃a o,x=.ref a/\DGet H2 a y o/\Q (.bl (!o.isSome)) H2
noncomputable def zYB(td ty tv:TE):TS:=fun D σ H=>tv σ H fun v H1=>td σ H1 fun x H2=>ty σ H2 fun y H3=>∃a H4,x=.ref a/\DPut H3 a y v H4/\D.nx σ H4
section
variable{X:Cx}{o i e value:Expr}{pos pos' tpos:Pos}{td ty tv:TE}
theorem zM6(hu:X.A.units+1<cLine)(ho:PE X o td)(hi:PE X i ty)(hs:NoSl i):PE X (.Subscript o i pos) (zY6 td ty):=by
 intro pins s σ H Q I h;refine zW4 PySem.F.slot_dict_getitem.lookup hs (thn (ho pins s σ H _ I h) fun u s1 ⟨x,H1,I1,rx,q1⟩=>thn (hi pins s1 σ H1 _ I1 q1) fun iv s2 ⟨y,H2,I2,ry,a,v,ex,g,q2⟩=>?_);subst ex;obtain rfl:u=Value.ref a:=rx;exact⟨zMO I2 g,zS2 hu I2 g ry fun w' s3 I3 rw'=>⟨v,H2,I3,rw',q2⟩⟩
theorem zKL(hu:X.A.units+1<cLine)(hi:PE X i ty)(ho:PE X o td):PC X .NotIn i o (zPX ty td):=by
 intro pins s σ H Q I h;refine thn (hi pins s σ H _ I h) fun iv s1 ⟨y,H1,I1,ry,q1⟩=>thn (ho pins s1 σ H1 _ I1 q1) fun u s2 ⟨x,H2,I2,rx,a,ov,ex,g,q2⟩=>?_
 subst ex;obtain rfl:u=Value.ref a:=rx;exact zXH hu I2 g ry fun s3 I3=>⟨.bl (!ov.isSome),H2,I3,rfl,q2⟩
theorem zG4(hu:X.A.units+1<cLine)(ho:PE X o td)(hi:PE X i ty)(hv:PE X value tv)(hs:swapsWith value (some (.Subscript o i pos')) pos.line X.env=pure false) :
  PS X (.Assign [.Subscript o i pos'] value pos) (zYB td ty tv):=by
 intro pins s σ H D I h;refine wpAny_Assign_Subscript (thn (hv pins s σ H _ I h) fun r s1 ⟨v,H1,I1,rv,q1⟩=>thn (ho pins s1 σ H1 _ I1 q1) fun u s2 ⟨x,H2,I2,rx,q2⟩=>thn (hi pins s2 σ H2 _ I2 q2) fun iv s3 ⟨y,H3,I3,ry,a,H4,ex,g,q3⟩=>?_) hs;subst ex;obtain rfl:u=Value.ref a:=rx;exact zS1 hu I3 g ry rv fun s4 I4=>⟨σ,H4,I4,q3⟩
end
theorem zUA{P:Program}{w:World}{H:Hp}(h:Heap)(hb:sysModules<h.objs.size):ObjOk P w H (h.push { cls:=.type "dict",data:=.dict #[] }) h.objs.size (.dK []):=
 ⟨qAc _,beq_eq_false_iff_ne.mpr (qD6 (qAr hb)),[],.nil,Heap.DictOf.new h⟩
def zUO:TE:=fun _ H Q=>∀p,H p=none->Q (.ref p) (upd H p (.dK []))
section
variable{X:Cx}{pos:Pos}
theorem zED:PE X (.Dict [] [] pos) zUO:=fun pins s σ H Q I h=>
 wpAny_Dict_empty ⟨.ref s.heap.objs.size,_,I.laid (a:=s.heap.objs.size) (o:=.dK []) (t':=s.toks) (fun _ _ q=>Heap.get?_push_of_some _ q) (qAa _) (zUA s.heap I.big),rfl,h _ (I.hok.fresh (qAa _))⟩
end
structure M1(X:Cx)(o:Expr)(m:Str)(apos:Pos)(e:Expr)(cpos:Pos):Prop where
 base:attributeBase o m X.env (eval o X.env)=eval o X.env
 few:((backTo cpos (starEach [e] X.env)).all (fun x=>!x.1)&&(backToKw cpos (keywordEach [] X.env)).all (fun x=>x.1.isSome)
  && decide (([e]:List Expr).length+([]:List Keyword).length+(if([]:List Keyword).isEmpty then 0 else 1)<30))=true
 line:(apos.endLine==cpos.line)=true
 trees:backTo cpos (starEach [e] X.env)=[(false,eval e X.env)]
structure M2(X:Cx)(o:Expr)(m:Str)(apos:Pos)(e f:Expr)(cpos:Pos):Prop where
 base:attributeBase o m X.env (eval o X.env)=eval o X.env
 few:((backTo cpos (starEach [e,f] X.env)).all (fun x=>!x.1)&&(backToKw cpos (keywordEach [] X.env)).all (fun x=>x.1.isSome)
  && decide (([e,f]:List Expr).length+([]:List Keyword).length+(if([]:List Keyword).isEmpty then 0 else 1)<30))=true
 line:(apos.endLine==cpos.line)=true
 trees:backTo cpos (starEach [e,f] X.env)=[(false,eval e X.env),(false,eval f X.env)]
def IsD(H:Hp)(a:Addr):Prop:=(∃kvs,Rd H a (.dK kvs))\/∃kvs,Rd H a (.dT kvs)
theorem zVB{X:Cx}{pins:List (Addr×Obj)}{σ:St}{H:Hp}{s:Shared}{a:Addr}(I:Inv X pins σ H s)(d:IsD H a) :
  s.TypeIs (.ref a) "dict"/\(∀b,Value.ref a=.ref b->∃ob,s.heap.get? b=some ob/\ob.dict=none)/\(a==sysModules)=false:=by
 rcases d with⟨kvs,e⟩|⟨kvs,e⟩
 ·obtain⟨_,hd,vs,_,dd⟩:=zPC I.hok e;refine⟨dd.typeIs,fun b q=>?_,hd⟩;cases q;obtain⟨ob,_,_,h1,h2,_⟩:=dd;exact⟨ob,h1,h2.2.1⟩
 ·obtain⟨_,hd,xs,_,dd⟩:=zPB I.hok e;refine⟨dd.typeIs,fun b q=>?_,hd⟩;cases q;obtain⟨ob,_,_,h1,h2,_⟩:=dd;exact⟨ob,h1,h2.2.1⟩
section
variable{X:Cx}{pins:List (Addr×Obj)}{σ:St}{H:Hp}{s:Shared}{a:Addr}{y d:V}{u r:Value}{o:Option V}{A:Around}{E:Value->Shared->Prop}
theorem zaC{Q:Value->Shared->Prop}(hu:A.units+1<cLine)(I:Inv X pins σ H s)(g:DGet H a y o)(ry:RelV y u)(rd:RelV d r)(h:∀w' s',Inv X pins σ H s'->RelV (o.getD d) w'->Q w' s') :
  wpAny (model X.prog X.w) A (call (.builtin "dict.get") [.ref a,u,r]) Q E s:=by
 rcases g with⟨kvs,k,e,ey,l⟩|⟨kvs,k,b,e,ey,eb,l⟩
 ·subst ey;obtain⟨z,hd,vs,rel,dd⟩:=zPC I.hok e;refine call_meetsIn qDs dd.typeIs qEw (qEk _ _ _) (meets_dict_get_default (zBN X.prog X.w) a (zP5 ry) hd r) ⟨_,dd.mapOf,h _ _ (I.tok _) ?_⟩;rw[l];exact(rel.val k).getD rd
 ·subst ey
  cases(show u=Value.ref b from ry)
  obtain⟨z,hd,xs,rel,dd⟩:=zPB I.hok e;refine call_meetsIn qDs dd.typeIs qEw (qEk _ _ _) (meetsH_dict_get_default (tupleKind (zBN X.prog X.w)) a b hd r) ⟨tupleKind_room_in1 hu,k,xs,zL5 I.hok eb,dd,h _ _ (I.tok _) ?_⟩;rw[l];exact(rel.val k).getD rd
end
noncomputable def zUP(td ty tx:TE):TE:=fun σ H Q=>td σ H fun x H1=>∃a,x=.ref a/\IsD H1 a/\ty σ H1 fun y H2=>tx σ H2 fun z H3=>∃o,DGet H3 a y o/\Q (o.getD z) H3
section
variable{X:Cx}{o e f:Expr}{apos cpos:Pos}{td ty tx:TE}
theorem zNQ(hu:X.A.units+1<cLine)(ho:PE X o td)(he:PE X e ty)(hf:PE X f tx)(m:M2 X o "get" apos e f cpos):PE X (.Call (.Attribute o "get" apos) [e,f] [] cpos) (zUP td ty tx):=by
 intro pins s σ H Q I h;refine wpAny_Call_method m.base m.few m.line qEl qDs PySem.F.type_dict_get (thn (ho pins s σ H _ I h) fun u s1 z0=>?_);obtain⟨x,H1,I1,rx,a,ex,d,q1⟩:=z0;subst ex;obtain rfl:u=Value.ref a:=rx;obtain⟨t1,t2,_⟩:=zVB I1 d;refine⟨t1,t2,?_⟩;rw[m.trees];refine Calls.callWith_builtin rfl (Calls.evalArgs_plain (Calls.spliced_cons (thn (he pins s1 σ H1 _ I1 q1) fun iv s2 ⟨y,H2,I2,ry,q2⟩=>
  Calls.spliced_cons (thn (hf pins s2 σ H2 _ I2 q2) fun fv s3 ⟨z,H3,I3,rz,ov,g,q3⟩=>Calls.spliced_nil ?_))))
 exact zaC hu I3 g ry rz fun w' s4 I4 rw'=>⟨_,H3,I4,rw',q3⟩
end
section
variable{X:Cx}{pins:List (Addr×Obj)}{σ:St}{H:Hp}{s:Shared}{a:Addr}{kvs:List (Key×V)}{A:Around}{E:Value->Shared->Prop}
end
section
variable{X:Cx}{pins:List (Addr×Obj)}{σ:St}{H:Hp}{s:Shared}{a:Addr}{y:V}{u:Value}{A:Around}{E:Value->Shared->Prop}
end
end L2
namespace Att
open PySem PySem.W PySem.Calls PyProof.Rows
theorem zHX{P:Params}{h:Heap}:∀(ns:List Int)(vs:List Value),WellAll P h vs (ns.map WData.int)->IntsAre vs ns:=by
 intro ns
 induction ns with
 |nil=>
  intro vs w;rw[qF0]at w;cases w;exact .nil
 |cons n ns ih=>
  intro vs w;rw[qAn]at w;cases w with
  |cons a b=>
   cases a;exact .cons _ _ (ih _ b)
theorem zQ5{l:OpenLaw}{n:Nat}(hn:l.most=some n){P:Params}{h:Heap}{args:List WData}{vals:List Value}
  (hpre:l.row.toRowW.claim.pre args=true) (hwl:WellAll P h vals args) :
  ∃a vs ns,vals=[Value.ref a]/\args=[WData.list (ns.map WData.int)]/\h.get? a=some { cls:=.type "list",data:=.seq vs.toArray }/\IntsAre vs ns/\ns.length<=n:=by
 have hsh:WShape.hasAll [] args [.list .int]=true:=(pre_splitW hpre).1;have hc:l.pre.holds [] { args:=args }=true:=(pre_splitW hpre).2;obtain⟨d,r,rfl,h1,h2⟩:=hasAllW_cons hsh;obtain rfl:=hasAllW_nil h2;obtain⟨xs,rfl,h3⟩:=hasW_list h1;obtain⟨ns,rfl⟩:=items_int h3;have hlen:ns.length<=n:=by
  unfold OpenLaw.pre at hc;have h4:(WTm.not (.lt (.lit (.int (n:Int))) (.len (.arg 0)))).holds [] { args:=[.list (ns.map .int)] }=true:=by
   have h4:=(holds_andW hc).1;rw[hn]at h4;exact h4
  have h5:=condW_of h4 (w_not (w_lt w_lit (w_len_list (w_arg rfl))));rw[qAg]at h5;refine Nat.le_of_not_lt fun q=>?_
  have q':(n:Int)<((ns.length:Nat):Int):=by lia
  first
   |(rw[decide_eq_true q']at h5;exact absurd h5 (by decide))
   |(simp at h5;omega)
 cases hwl with
 |cons w1 w2=>
  cases w2;cases w1 with
  |list ho hall=>exact⟨_,_,ns,rfl,rfl,ho,zHX ns _ hall,hlen⟩
theorem zQM(l:OpenLaw)(args:List WData):l.row.toRowW.claim.post args (.bool true) args=true:=
 postW_of (r:=l.row.toRowW) (X:=(true==true))
  (show WShape.has [] (.bool true) .bool=true by first|rfl|decide|simp[WShape.has,WShape.arms,WShape.armsAll])
  (show(WTm.eq .res (.lit (.bool true))).value [] { args:=args,res:=some (.bool true),after:=args }=some (.bool (true==true)) from w_eq_bool (w_res rfl) w_lit) rfl
section
variable{prog:Program}{w:World}{A:Around}{E:Value->Shared->Prop}{s:Shared}{K:Frag}
end
end Att
namespace L2
open PySem PySem.Spec PyProof.Rows
theorem zK4:∀{vs:List Value}{ns:List Int},IntsAre vs ns->Vals (ns.map V.int) vs
 |_,_,.nil=>.nil
 |_,_,.cons n t h=>.cons ⟨t,rfl⟩ (zK4 h)
def Only(H:Hp):Prop:=∀b,H b=none\/∃o xs,H b=some (.frz o (.lst xs))
theorem zTQ{P:Program}{w:World}{K:qA2}{mg mb:Str->Option Value}{CX:CXT}{k:Nat}{fa a:Addr}{fd:FuncData}{x:Str}{sp:Sp}{s₁:Shared}{vs:List Value}{ns:List Int}
  (KX:K.In s₁.heap) (hns:s₁.heap.Ns mainGlobals mg) (hb:s₁.heap.Ns builtinsNs mb) (hbb:∀x:Str,x≠"__name__"->mb x=bootBuiltins x) (hlim:s₁.heap.NoLimit) (hg:s₁.gens=#[])
  (ha:s₁.heap.get? a=some { cls:=.type "list",data:=.seq vs.toArray }) (hi:IntsAre vs ns) (hl:ns.length<=sizeLine) (hr:Room k callerA)
  (F:∀base:Heap,K.In base->base.Ns mainGlobals mg->FnOk P w K mg base CX k fa fd [x] sp) (hbind:∀(s:Shared)(u:Value),BindsTo s fd ⟨[u],[]⟩ [(x,u)])
  (hsp:∀H:Hp,Only H->SqL K H a (ns.map V.int)->sp [.ref a] H (fun v _=>v=.bl true) fun _ _ _=>False)
  (hCX:∀H e s',CX [] H s₁ (fun _ _ _=>False) e s'->False) :
  codeAny (model P w) callerA (.call (.ref fa) ⟨[.ref a],[]⟩) (fun r s'=>r=.ok (.ret (.bool true))/\OldK s₁.heap s'.heap/\s'.os=s₁.os/\AllBare s'.gens) s₁:=by
 have rv:=zK4 hi;have lenV:=hi.length;have core:∀H:Hp,Only H->SqL K H a (ns.map V.int)->HOk P w H s₁.heap->(∀b,H b≠none->b=a)->(H a≠none->K.lookup a=none) ->
   codeAny (model P w) callerA (.call (.ref fa) ⟨[.ref a],[]⟩) (fun r s'=>r=.ok (.ret (.bool true))/\OldK s₁.heap s'.heap/\s'.os=s₁.os/\AllBare s'.gens) s₁:=by
  intro H hO hS hok hA hK;have base_of:∀{b:Addr}{o:Obj},s₁.heap.get? b=some o->H b=none->(hidT s₁.heap H).get? b=some o:=fun e n=>zTY e n
  have noA:∀{b:Addr}{o:Obj}{es:Array DictEntry}{ep:Nat},s₁.heap.get? b=some o->o.data=.dict es ep->H b=none:=fun{b o es ep} e d=>by
   cases q:H b with
   |none=>rfl
   |some u=>
    have e':b=a:=hA b (by rw[q];simp);subst e';rw[ha]at e;cases e;have d':Data.seq vs.toArray _=Data.dict es ep:=d;cases d'
  have nsK:∀{b:Addr}{m:Str->Option Value},s₁.heap.Ns b m->(hidT s₁.heap H).Ns b m:=fun{b m} ⟨o,es,ep,e,d,r⟩=>⟨o,es,ep,base_of e (noA e d),d,r⟩
  have hKb:K.In (hidT s₁.heap H):=fun b o e=>base_of (KX b o e) (by
   cases q:H b with
   |none=>rfl
   |some u=>
    have e':b=a:=hA b (by rw[q];simp);subst e';rw[hK (by rw[q];simp)]at e;cases e)
  have hM:Mod K mg (hidT s₁.heap H):=⟨hKb,nsK hns,⟨mb,nsK hb,hbb⟩,let⟨mc,h1,h2⟩:=hlim;⟨mc,nsK h1,h2⟩⟩
  have e0:Env0 P w K mg (hidT s₁.heap H) callerA [] s₁ H:=⟨rfl,hM,fun b o e=>zWO e,qF1 (zRH _ _),trivial,fun b hb=>absurd (show b∈([]:List Addr) from hb) (by simp),hok,.of_eq hg⟩
  refine codeAny_mono ((F _ hKb (nsK hns)).run callerA [] s₁ H ⟨[.ref a],[]⟩ [.ref a] [.ref a] _ _ hr e0 (hbind s₁ (.ref a)) (.cons rfl .nil) (hsp H hO hS)) fun r s' h=>?_
  cases r with
  |error e=>exact(hCX H e s' h).elim
  |ok fl=>
   cases fl with
   |next=>exact qA7 h
   |brk=>exact qA7 h
   |cont=>exact qA7 h
   |ret u=>
    obtain⟨v,H',os,bare,un,hok',r',q⟩:=h;have q':v=.bl true:=q;subst q';obtain rfl:u=Value.bool true:=r';refine⟨rfl,OldK.of_keep fun b o e=>?_,os,bare⟩;cases q:H b with
    |none=>exact un.keep b o e q (by intro z;exact absurd (show b∈([]:List Addr) from z) (by simp)) (by simp)
    |some u=>
     rcases hO b with z|⟨ob,xs,z⟩
     ·rw[q]at z;cases z
     ·have z2:=un.frzs b ob _ z;obtain⟨e1,_⟩:=hok b _ z;obtain⟨e2,_⟩:=hok' b _ z2;rw[e]at e1;cases e1;exact e2
 cases hk:K.lookup a with
 |some o=>
  have e:=KX a o hk;rw[ha]at e;cases e;refine core (fun _=>none) (fun _=>.inl rfl) (.inr ⟨_,vs.toArray,_,hk,rfl,rfl,rfl,by rw[qAd,lenV];exact hl,by simpa using rv⟩) (fun b u z=>by have z':(none:Option HO)=some u:=z;cases z') (fun b z=>absurd rfl z) fun z=>absurd rfl z
 |none=>
  refine core (fun b=>if b=a then some (.frz { cls:=.type "list",data:=.seq vs.toArray } (.lst (ns.map V.int)))else none) (fun b=>?_) (.inl (.inr ⟨{ cls:=.type "list",data:=.seq vs.toArray },if_pos rfl⟩)) (fun b u z=>?_) (fun b z=>?_) fun _=>hk
  ·by_cases hb:b=a
   ·exact .inr ⟨_,_,if_pos hb⟩
   ·exact .inl (if_neg hb)
  ·by_cases hb:b=a
   ·have z':=(if_pos hb).symm.trans z;cases z';subst hb;exact⟨ha,by rw[qAg];exact hl,vs,_,rv,ha⟩
   ·have z':=(if_neg hb).symm.trans z;cases z'
  ·by_cases hb:b=a
   ·exact hb
   ·exact absurd (if_neg hb) z
noncomputable def zCM(s:Stmt):Arguments:=match s with
 |.FunctionDef _ a _ _ _ _ _ _ _ _=>a
 |_=>{ posonlyargs:=[],args:=[],vararg:=none,kwonlyargs:=[],kw_defaults:=[],kwarg:=none,defaults:=[] }
noncomputable def zBE(s:Stmt):List Stmt:=match s with
 |.FunctionDef _ _ b _ _ _ _ _ _ _=>b
 |_=>[]
noncomputable def zAB(s:Stmt):Scope:=match s with
 |.FunctionDef _ _ _ _ _ _ sc _ _ _=>sc
 |_=>{ kind:=.function,names:=[],isGenerator:=false,isCoroutine:=false }
abbrev CX0:CXT:=fun _ _ _ _ _ _=>False
abbrev E0:XK:=fun _ _ _=>False
theorem zb6{X:Cx}:zIV CX0 X E0:=fun _ _ _ _ _ _ _ h=>h.elim
structure Fun(K:qA2)(x qual:Str)(st:Stmt)(f:Addr)(fd:FuncData):Prop where
 ex:∃(oc:Value)(od:Option Addr)(kV doc pm:Value)(an:Option Addr)(cdv ct:Value)(osl:Array (Option Value)),
  fd=qBk x qual (zCM st) (zBE st) (zAB st) .none kV doc pm an cdv ct/\K.lookup f=some ⟨oc,od,.func fd,osl⟩/\qCz K cdv qual=true
 kp:qB0 K (.ref f)=true
section
variable{P:Program}{w:World}{K:qA2}{mg:Str->Option Value}{base:Heap}
theorem Fun.ok{x qual:Str}{st:Stmt}{f:Addr}{fd:FuncData}{N ps:List Str}{k:Nat}{sp:Sp}(F:Fun K x qual st f fd)(S:FnScope N ps (zAB st))(len:∀vs H Q E,sp vs H Q E->vs.length=ps.length)
  (hbody:∀(cdv:Value)(A:Around)(outer:List Env)(s:Shared)(H:Hp)(vs:List V)(Q:VK)(E:XK),Room k (A.deeper (envOfC qual (zAB st) s.heap.objs.size f cdv))->sp vs H Q E ->
   ∃t,PSs (cxOf CX0 P w K mg base N qual (zAB st) f cdv A outer s H E).nox (zBE st) t/\t { nx:=fun _ H'=>Q .non H',rt:=Q } (start N vs) H):FnOk P w K mg base CX0 (k+1) f fd ps sp:=by
 obtain⟨oc,od,kV,doc,pm,an,cdv,ct,osl,rfl,lk,hcd⟩:=F.ex;refine za2 lk hcd S len fun A outer s H vs Q E hr hsp=>?_
 obtain⟨t,h,q⟩:=hbody cdv A outer s H vs Q E hr hsp;exact⟨t,h.nox,q⟩
theorem Fun.binds{x qual:Str}{st:Stmt}{f:Addr}{fd:FuncData}{ps:List Str}(F:Fun K x qual st f fd)
  (h:∀(kV doc pm:Value)(an:Option Addr)(cdv ct:Value)(us:List Value),us.length=ps.length->bindArgs (qBk x qual (zCM st) (zBE st) (zAB st) .none kV doc pm an cdv ct) ⟨us,[]⟩=pure (ps.zip us)):Binds K fd ps []:=by
 obtain⟨oc,od,kV,doc,pm,an,cdv,ct,osl,rfl,lk,hcd⟩:=F.ex;exact .all (h kV doc pm an cdv ct)
theorem zRK{x qual:Str}{st:Stmt}{f:Addr}{oc:Value}{od an:Option Addr}{osl:Array (Option Value)}{kV doc pm cdv ct:Value}(l:K.lookup f=some ⟨oc,od,.func (qBk x qual (zCM st) (zBE st) (zAB st) .none kV doc pm an cdv ct),osl⟩)
  (c:qCz K cdv qual=true) (k:qB0 K (.ref f)=true):Fun K x qual st f (qBk x qual (zCM st) (zBE st) (zAB st) .none kV doc pm an cdv ct):=⟨⟨oc,od,kV,doc,pm,an,cdv,ct,osl,rfl,l,c⟩,k⟩
end
theorem zGC{A:Around}{k:Nat}(hr:Room k A):A.units+1<cLine:=qC5 (Nat.add_le_add_left (by decide:1<=64) _) hr.units
section
variable{X:Cx}
theorem pv(i:Nat){x:Str}{pos:Pos}(hN:X.N[i]?=some x:=by rfl)(hv:Vis X.env.scope x:=by first|exact qHn rfl|exact qHj (qHn rfl)|exact qHj (qHj rfl))(hd:(x==("__debug__":Str))=false:=by decide)
  (hcd:(x==("__classdict__":Str))=false:=by decide):PE X (.Name x pos) (tVar i):=zV0 hN hv hd hcd
end
def Same(H H':Hp):Prop:=∀b o,H b=some o->H' b=some o
theorem Same.refl(H:Hp):Same H H:=fun _ _ h=>h
theorem Same.trans{H H1 H2:Hp}(a:Same H H1)(b:Same H1 H2):Same H H2:=fun c o h=>b c o (a c o h)
theorem Same.free{H H':Hp}(e:Same H H'){l:Addr}(h:H' l=qFj):H l=qFj:=by
 cases q:H l with
 |none=>rfl
 |some o=>
  rw[e l o q]at h;cases h
theorem Same.seq{K:qA2}{H H':Hp}{a:Addr}{xs:List V}(e:Same H H')(h:SqL K H a xs):SqL K H' a xs:=by
 rcases h with(h|⟨o,h⟩)|h
 ·exact .inl (.inl (e _ _ h))
 ·exact .inl (.inr ⟨o,e _ _ h⟩)
 ·exact .inr h
section
variable{κ:Type}[DecidableEq κ]
end
end L2
namespace L2
open PySem PySem.Spec PyProof.Rows
theorem asN{a b:Nat}(h:a<b):a<b:=h
theorem asL{a b:Nat}(h:a<=b):a<=b:=h
theorem asE{a b:Nat}(h:a=b):a=b:=h
noncomputable def clos(cells:List (Str×Addr)):List (Str×NameKind)->List (Str×Addr)->List (Str×Addr)
 |[],acc=>acc
 |(n,k)::r,acc=>if k==.free then clos cells r ((n,(cells.lookup n).getD 0)::acc)else clos cells r acc
theorem zEK(cells:List (Str×Addr)):∀(names:List (Str×NameKind))(acc:List (Str×Addr)),clos cells names acc=clos cells names []++acc
 |[],_=>rfl
 |(n,k)::r,acc=>by
  unfold clos
  split
  ·rw[zEK cells r (_::acc),zEK cells r [_],qBl];rfl
  ·exact zEK cells r acc
theorem zH3{cells:List (Str×Addr)}{x:Str}{c:Addr}:∀{names:List (Str×NameKind)},(x,c)∈clos cells names []->(x,NameKind.free)∈names/\c=(cells.lookup x).getD 0
 |[],h=>by simp[clos]at h
 |(n,k)::r,h=>by
  unfold clos at h
  split at h
  ·rename_i hk
   rw[zEK]at h
   rcases qBa.mp h with h|h
   ·obtain⟨h1,h2⟩:=zH3 h;exact⟨qAy _ h1,h2⟩
   ·have e:=qC6.mp h
    injection e with e1 e2
    subst e1;have hk':k=.free:=by simpa using hk
    subst hk';exact⟨qBj,e2⟩
  ·obtain⟨h1,h2⟩:=zH3 h;exact⟨qAy _ h1,h2⟩
theorem zJX{cells:List (Str×Addr)}{x:Str}:∀{names:List (Str×NameKind)},(x,NameKind.free)∈names->(x,(cells.lookup x).getD 0)∈clos cells names []
 |[],h=>by simp at h
 |(n,k)::r,h=>by
  unfold clos
  rcases qAk.mp h with e|h
  ·injection e with e1 e2
   subst e1;subst e2;rw[if_pos (by rfl),zEK];exact qAz _ (by simp)
  ·split
   ·rw[zEK];exact qBi _ (zJX h)
   ·exact zJX h
theorem zBT:∀(names:List (Str×NameKind))(n:Nat)(acc:List (Str×Addr)),cellsFrom n names acc=cellsFrom n names []++acc
 |[],_,_=>rfl
 |(x,k)::r,n,acc=>by
  unfold cellsFrom
  split
  ·rw[zBT r (n+1) (_::acc),zBT r (n+1) [_],qBl];rfl
  ·exact zBT r n acc
theorem zCW{x:Str}{c:Addr}:∀{names:List (Str×NameKind)}{n:Nat},(x,c)∈cellsFrom n names []->(x,NameKind.cell)∈names
 |[],_,h=>by simp[cellsFrom]at h
 |(y,k)::r,n,h=>by
  unfold cellsFrom at h
  split at h
  ·rename_i hk
   rw[zBT]at h
   rcases qBa.mp h with h|h
   ·exact qAy _ (zCW h)
   ·have e:=qC6.mp h
    injection e with e1 e2
    subst e1;have hk':k=.cell:=by simpa using hk
    subst hk';exact qBj
  ·exact qAy _ (zCW h)
theorem zC7{α:Type}{x:Str}{a:α}:∀{l:List (Str×α)},(l.map (·.1)).Nodup->(x,a)∈l->l.lookup x=some a
 |[],_,h=>by simp at h
 |(y,b)::r,nd,h=>by
  have nd':(y::r.map (·.1)).Nodup:=nd;obtain⟨h1,h2⟩:=qB1.mp nd'
  rcases qAk.mp h with e|hm
  ·injection e with e1 e2
   subst e1;subst e2;rw[qBq,beq_self_eq_true]
  ·have hne:(x==y)=false:=by
    rw[beq_eq_false_iff_ne]
    rintro rfl
    exact h1 (qAm.mpr ⟨(x,a),hm,rfl⟩)
   rw[qBq,hne];exact zC7 h2 hm
theorem zEU{α:Type}{x:Str}:∀{l:List (Str×α)},(∀a,(x,a)∉l)->l.lookup x=none
 |[],_=>rfl
 |(y,b)::r,h=>by
  have hne:(x==y)=false:=by
   rw[beq_eq_false_iff_ne]
   rintro rfl
   exact h b qBj
  rw[qBq,hne];exact zEU fun a m=>h a (qAy _ m)
theorem zET{α:Type}{x:Str}{a:α}:∀{l:List (Str×α)},(x,a)∈l->∃b,l.lookup x=some b
 |[],h=>by simp at h
 |(y,b)::r,h=>by
  rw[qBq];cases e:x==y with
  |true=>exact⟨b,rfl⟩
  |false=>
   rcases qAk.mp h with q|q
   ·injection q with q1 _
    subst q1;rw[beq_self_eq_true]at e;cases e
   ·exact zET q
theorem zIJ{α:Type}{x:Str}:∀(l k:List (Str×α)),(l++k).lookup x=(l.lookup x).or (k.lookup x)
 |[],k=>by simp
 |(y,b)::r,k=>by
  show qE3 x ((y,b)::(r++k))=_;rw[qBq,qBq];cases x==y with
  |true=>rfl
  |false=>exact zIJ r k
def zaJ(sc:Scope)(env:Env):Prop:=∀x,(x,NameKind.free)∈sc.names->env.kindOf x=some .cell\/env.kindOf x=some .free
theorem zFQ{sc:Scope}{env:Env}(h:∀x,(x,NameKind.free)∈sc.names->∃c,env.cells.lookup x=some c):closureFor sc env=pure (clos env.cells sc.names []):=by
 have go:∀(names:List (Str×NameKind))(acc:List (Str×Addr)),(∀x,(x,NameKind.free)∈names->∃c,env.cells.lookup x=some c) ->
   (forIn names acc fun(x:Str×NameKind)(cs:List (Str×Addr))=>(match x with|(name,kind)=>if(kind==NameKind.free)=true then(do let c <- cellOf env name;pure (qCo ((name,c)::cs)))else pure (qCo cs):Sem (ForInStep (List (Str×Addr)))))=pure (clos env.cells names acc):=by
  intro names
  induction names with
  |nil=>intro acc _;rfl
  |cons p r ih=>
   intro acc hn;obtain⟨n,k⟩:=p;have hr:∀x,(x,NameKind.free)∈r->∃c,env.cells.lookup x=some c:=fun x hx=>hn x (qAy _ hx)
   rw[qF2];unfold clos
   by_cases hk:(k==NameKind.free)=true
   ·have hk':k=.free:=by simpa using hk
    subst hk';obtain⟨c,hc⟩:=hn n qBj;have e:cellOf env n=pure c:=by unfold cellOf;rw[hc]
    rw[if_pos (by rfl)];simp only[if_pos (show(NameKind.free==NameKind.free)=true from rfl),e,hc,qDv,pure_bind];exact ih _ hr
   ·rw[if_neg hk];simp only[if_neg hk,pure_bind];exact ih _ hr
 unfold closureFor;have q:=go sc.names [] h
 first
  |(rw[show(forIn sc.names ([]:List (Str×Addr)) _:Sem (List (Str×Addr)))=_ from q];rfl)
  |(refine(congrArg (fun z=>z >>= pure) q).trans ?_;rfl)
  |(simp only[q];rfl)
  |exact q
def zEJ(sc:Scope)(C:Addr)(env:Env):Env:=
 { scope:=relabel sc env,locals:=C,globals:=env.globals,cells:=cellsFrom (C+1) sc.names (clos env.cells sc.names []),qual:=env.qual,func:=none,code:=env.code,frame:=env.frame,builtins:=env.builtins }
theorem zF9{M:Model}{A:Around}{E:Value->Shared->Prop}{s:Shared}{sc:Scope}{env:Env}{cl:List (Str×Addr)}{Q:Env->Shared->Prop}
  (hQ:Q { scope:=sc,locals:=s.heap.objs.size,globals:=env.globals,cells:=cellsFrom (s.heap.objs.size+1) sc.names cl,qual:=env.qual,func:=none,code:=env.code,frame:=env.frame,builtins:=env.builtins }
   { s with heap:=pushCells (s.heap.push { cls:=.type "dict",data:=.dict #[] }) sc.names }) :
  wpAny M A (newFunctionEnv sc env.globals cl [] env.qual none .none (some env)) Q E s:=by
 simp only[newFunctionEnv,qFo,if_true];refine wpAny_bind (wpAny_alloc ?_);refine wpAny_bind (wpAny_layCells _ (fun name kind cells=>by cases hkc:kind==NameKind.cell<;>simp[hkc]) _ _ _ _ ?_);rw[show({ s with heap:=s.heap.push { cls:=.type "dict",data:=.dict #[] } }:Shared).heap.objs.size=s.heap.objs.size+1 from Heap.size_push ..];refine wpAny_bind ?_;rw[List.forIn_nil];exact wpAny_pure (wpAny_pure hQ)
def zDH(X:Cx)(N':List Str)(sc:Scope)(C:Addr)(s:Shared)(H:Hp)(fp:List Addr):Cx:=
 { X with N:=N',s₀:=s,H₀:=H,env:=zEJ sc C X.env,outer:=X.stack,stack:=X.stack,ex:=fp,fn:=fun x=>sc.names.lookup x==some .cell,pn:=[],xe:=fun _ _=>False }
def PTs(X:Cx)(ifs:List Expr)(t:TT):Prop:=
 ∀(pins:List (Addr×Obj))(s:Shared)(σ:St)(H:Hp)(Q:Bool->Hp->Prop),Inv X pins σ H s->t σ H Q ->
  wpAny (model X.prog X.w) X.A (forIn ifs true fun c r=>if r=true then do let ok <- isTrue c X.env (eval c X.env);pure (qCo ok)else pure (qCo r)) (TP X pins σ Q) X.xe s
noncomputable def tYes:TT:=fun _ H Q=>Q true H
theorem zF0{X:Cx}:PTs X [] tYes:=fun _ _ _ H _ I h=>wpAny_tests_nil ⟨H,I,h⟩
theorem zWC{X:Cx}{c:Expr}{t:TT}(h:PT X c t):PTs X [c] t:=fun pins s σ H Q I q=>wpAny_tests_one (h pins s σ H Q I q)
structure CompNames(N N':List Str)(k:Nat)(sc:Scope)(env:Env):Prop where
 kind:sc.kind=.function
 nd:(sc.names.map (·.1)).Nodup
 len:N'.length=N.length+k
 old:∀(i:Nat)(x:Str),N'[i]?=some x->i<N.length->(x,NameKind.free)∈sc.names/\N[i]?=some x\/sc.names.lookup x=none
 free:zaJ sc env
theorem zBV{sc:Scope}{env:Env}{x:Str}{k:NameKind}:∀{names:List (Str×NameKind)},
  (names.map fun(n,k)=>if(k==NameKind.free&&env.scope.kind==.function&&env.kindOf n==some .cell)then(n,NameKind.cell)else(n,k)).lookup x=some k ->
  names.lookup x=some k\/(names.lookup x=some .free/\k=.cell)
 |[],h=>by simp at h
 |(n,j)::r,h=>by
  have ih:=@zBV sc env x k r;rw[qAn]at h;rw[qBq]
  by_cases hc:(j==NameKind.free&&env.scope.kind==.function&&env.kindOf n==some .cell)=true
  ·have h':qE3 x ((n,NameKind.cell)::(r.map fun(n,k)=>if(k==NameKind.free&&env.scope.kind==.function&&env.kindOf n==some .cell)then(n,NameKind.cell)else(n,k)))=some k:=by
    rw[<- h];simp only[if_pos hc]
   rw[qBq]at h';cases e:x==n with
   |true=>
    rw[e]at h';have hk:k=.cell:=(qBe h').symm;have hj:j=.free:=by
     simp only[qBp,beq_iff_eq]at hc;exact hc.1.1
    subst hj;exact .inr ⟨rfl,hk⟩
   |false=>
    rw[e]at h';exact ih h'
  ·have h':qE3 x ((n,j)::(r.map fun(n,k)=>if(k==NameKind.free&&env.scope.kind==.function&&env.kindOf n==some .cell)then(n,NameKind.cell)else(n,k)))=some k:=by
    rw[<- h];simp only[if_neg hc]
   rw[qBq]at h';cases e:x==n with
   |true=>rw[e]at h';exact .inl h'
   |false=>rw[e]at h';exact ih h'
section
variable{X:Cx}{N':List Str}{k:Nat}{sc:Scope}{pins:List (Addr×Obj)}{σ:St}{H:Hp}{s:Shared}
theorem zPD{C:Addr}{x:Str}{c:Addr}(nd:(sc.names.map (·.1)).Nodup)(h:(zEJ sc C X.env).cells.lookup x=some c) :
  ((x,c)∈cellsFrom (C+1) sc.names []/\(x,NameKind.cell)∈sc.names)\/((x,NameKind.free)∈sc.names/\c=(X.env.cells.lookup x).getD 0):=by
 have m:=mem_of_lookup h;have m':(x,c)∈cellsFrom (C+1) sc.names (clos X.env.cells sc.names []):=m;rw[zBT]at m'
 rcases qBa.mp m' with z|z
 ·exact .inl ⟨z,zCW z⟩
 ·exact .inr (zH3 z)
theorem zEW{C:Addr}{x:Str}(nd:(sc.names.map (·.1)).Nodup)(h:(x,NameKind.free)∈sc.names):(zEJ sc C X.env).cells.lookup x=some ((X.env.cells.lookup x).getD 0):=by
 show(cellsFrom (C+1) sc.names (clos X.env.cells sc.names [])).lookup x=_
 rw[zBT,zIJ,zEU (fun a m=>?_),Option.none_or]
 ·obtain⟨b,hb⟩:=zET (zJX (cells:=X.env.cells) h)
  have:=(zH3 (mem_of_lookup hb)).2
  rw[hb,this]
 ·have e1:=zC7 nd (zCW m);rw[zC7 nd h]at e1;cases e1
theorem zTT(I:Inv X pins σ H s)(hc:X.calm=true)(S:CompNames X.N N' k sc X.env){fp:List Addr}(hf:∀b∈fp,FpOk X pins H b)(hfo:∀b∈fp,∃o,s.heap.get? b=some o)
  {s4:Shared} {D C:Addr} (eD:D=s.heap.objs.size) (eC:C=s.heap.objs.size+1)
  (e4:s4={ s with heap:=pushCells ((s.heap.push { cls:=.type "list",data:=.seq #[] 0 }).push { cls:=.type "dict",data:=.dict #[] }) sc.names }) :
  Inv (zDH X N' sc C s H fp) [(D,{ cls:=.type "list",data:=.seq #[] 0 })] (σ++qA5 k none) H s4/\∀b∈fp,FpOk (zDH X N' sc C s H fp) [(D,{ cls:=.type "list",data:=.seq #[] 0 })] H b:=by
 subst eD eC e4
 generalize hh1:s.heap.push { cls:=.type "list",data:=.seq #[] 0 }=h1
 generalize hh2:h1.push { cls:=.type "dict",data:=.dict #[] }=h2
 have sz1:h1.objs.size=s.heap.objs.size+1:=by rw[<- hh1];exact Heap.size_push ..
 have sz2:h2.objs.size=s.heap.objs.size+2:=by rw[<- hh2,Heap.size_push,sz1]
 have k1:∀b o,s.heap.get? b=some o->h1.get? b=some o:=fun b o e=>by rw[<- hh1];exact Heap.get?_push_of_some _ e
 have k2:∀b o,h1.get? b=some o->h2.get? b=some o:=fun b o e=>by rw[<- hh2];exact Heap.get?_push_of_some _ e
 have k3:∀b o,h2.get? b=some o->(pushCells h2 sc.names).get? b=some o:=pushCells_keeps sc.names h2;have kk:∀b o,s.heap.get? b=some o->(pushCells h2 sc.names).get? b=some o:=fun b o e=>k3 b o (k2 b o (k1 b o e))
 have own:CellsOk (pushCells h2 sc.names) h2.objs.size (cellsFrom h2.objs.size sc.names []):=cellsFrom_ok sc.names h2 h2.objs.size [] ⟨fun _ _ hm=>(nomatch hm),qFw⟩ (qAa _);have eC1:s.heap.objs.size+1+1=h2.objs.size:=by rw[sz2]
 have freeCell:∀x,(x,NameKind.free)∈sc.names->∃c,X.env.cells.lookup x=some c:=fun x hx=>I.ok.has x (S.free x hx)
 have cells:∀x c,(zEJ sc (s.heap.objs.size+1) X.env).cells.lookup x=some c ->
   ((x,c)∈cellsFrom h2.objs.size sc.names []/\(x,NameKind.cell)∈sc.names/\(pushCells h2 sc.names).IsCell c none/\h2.objs.size<=c)\/((x,NameKind.free)∈sc.names/\X.env.cells.lookup x=some c):=fun x c e=>by
  rcases zPD S.nd e with⟨m,q⟩|⟨m,q⟩
  ·rw[eC1]at m;exact .inl ⟨m,q,(own.empty x c m).1,(own.empty x c m).2⟩
  ·obtain⟨c',hc'⟩:=freeCell x m;rw[hc',qDv]at q;subst q;exact .inr ⟨m,hc'⟩
 have old:∀x c,X.env.cells.lookup x=some c->c<s.heap.objs.size:=fun x c e=>by
  obtain⟨v,q⟩:=I.cell x c e;exact q.lt
 have fpl:∀b∈fp,b<s.heap.objs.size:=fun b hb=>by
  obtain⟨o,e⟩:=hfo b hb;exact Heap.lt_size e
 have hCn:H (s.heap.objs.size+1)=none:=I.hok.fresh (qBy _);have hDn:H s.heap.objs.size=none:=I.hok.fresh (qAa _);have nofs:∀a,s.heap.objs.size<=a->a∉frs X.stack:=fun a ha hb=>by
  rcases qAk.mp (I.stkSub a hb)with e|hb
  ·have t1:=asN I.lt;have t2:=asE e;have t3:=asL ha
   lia
  ·exact I.nofs ha hb
 have fin:∀b∈fp,b∉frs X.stack:=fun b hb z=>by
  obtain⟨f0,f1,f2,f3,f4,f5⟩:=hf b hb
  rcases qAk.mp (I.stkSub b z)with e|z
  ·exact f1 e
  ·exact f2 z
 have ok:(zDH X N' sc (s.heap.objs.size+1) s H fp).Ok:=by
  refine⟨I.ok.mod,S.kind,I.ok.glob,I.ok.blt,qBy _,?_,?_,?_,I.ok.hd,I.ok.frames,.inl rfl,?_,I.bs,qAo I.ok.bsz I.sz,?_,fin,I.stack,I.stkFree⟩
  ·intro x y c hx hy
   rcases cells x c hx with⟨m1,_,_,g1⟩|⟨m1,g1⟩<;>rcases cells y c hy with⟨m2,_,_,g2⟩|⟨m2,g2⟩
   ·exact name_of_addr own.apart m1 m2
   ·exact absurd (qAf (old y c g2) (qAo (by rw[sz2];exact qGc _ _) g1)) (qCj _)
   ·exact absurd (qAf (old x c g1) (qAo (by rw[sz2];exact qGc _ _) g2)) (qCj _)
   ·exact I.ok.inj x y c g1 g2
  ·intro x hx;have hx:(relabel sc X.env).names.lookup x=some .cell\/(relabel sc X.env).names.lookup x=some .free:=hx;have two:sc.names.lookup x=some .cell\/sc.names.lookup x=some .free:=by
    rcases hx with hx|hx
    ·rcases zBV (sc:=sc) hx with q|⟨q,_⟩
     ·exact .inl q
     ·exact .inr q
    ·rcases zBV (sc:=sc) hx with q|⟨_,q⟩
     ·exact .inr q
     ·cases q
   rcases two with q|q
   ·have:=qDf sc.names (s.heap.objs.size+1+1) (clos X.env.cells sc.names []) (.inl q)
    exact qEg.mp this
   ·exact⟨_,zEW S.nd (mem_of_lookup q)⟩
  ·intro x c hx e;have hx:(sc.names.lookup x==some NameKind.cell)=true:=hx;have hx':sc.names.lookup x=some .cell:=by simpa using hx
   rcases cells x c e with⟨_,_,_,g⟩|⟨m,_⟩
   ·show s.heap.objs.size<=c
    lia
   ·rw[zC7 S.nd m]at hx';cases hx'
  ·intro b hb;refine⟨?_,fun x c e z=>?_⟩
   ·exact qAr (qFx (fpl b hb))
   ·rcases cells x c e with⟨_,_,_,g⟩|⟨_,g⟩
    ·have t1:=asN (fpl b hb);have t2:=asL g;have t3:=asE z
     lia
    ·exact(hf b hb).2.2.2.2.1 x c g z
  ·intro b o e hb
   rcases(hf b hb).2.2.2.1 with z|z
   ·exact I.ok.noex b o e z
   ·exact absurd (qAf (Heap.lt_size e) (qAo I.ok.bsz z)) (qCj _)
 have ns:(pushCells h2 sc.names).Ns (s.heap.objs.size+1) fun _=>none:=by
  have q:h2.Ns h1.objs.size fun _=>none:=by rw[<- hh2];exact Heap.Ns.new h1 (.type "dict")
  rw[sz1]at q;exact q.keeps k3
 have hD1:h1.get? s.heap.objs.size=some { cls:=.type "list",data:=.seq #[] 0 }:=by rw[<- hh1];exact Heap.get?_push_size _ rfl
 refine⟨⟨ok,rfl,I.bare,Un.kept kk,⟨_,ns,?_⟩,?_,hCn,?_,?_,I.hok.kept kk,?_⟩,?_⟩
 ·intro i x v h1 h2 h3;have hi:i<X.N.length:=by
   rw[<- I.len]
   by_cases hi:i<σ.length
   ·exact hi
   ·rw[qA9 (by lia),qBm]at h2
    split at h2<;>cases h2
  have h2':σ[i]?=some (some v):=by
   rw[qA8 (by rw[I.len];exact hi)]at h2;exact h2
  have h1:N'[i]?=some x:=h1
  rcases S.old i x h1 hi with⟨m,e⟩|e
  ·obtain⟨mm,hn,hl⟩:=I.loc;have hv:Vis X.env.scope x:=(S.free x m).elim (fun z=>.inr (.inl z)) fun z=>.inr (.inr z)
   obtain⟨u,r,l⟩:=hl i x v e h2' hv;refine⟨u,r,?_⟩
   rcases l with⟨z,_⟩|⟨_,c,hc,hcell⟩
   ·rcases S.free x m with z'|z'<;>rw[z]at z'<;>cases z'
   ·refine .inr ⟨?_,c,?_,hcell.keeps kk⟩
    ·have hv3:(relabel sc X.env).names.lookup x=some .local\/(relabel sc X.env).names.lookup x=some .cell\/(relabel sc X.env).names.lookup x=some .free:=h3
     rcases hv3 with q|q|q
     ·rcases zBV (sc:=sc) q with q|⟨_,q⟩
      ·rw[zC7 S.nd m]at q;cases q
      ·cases q
     ·exact .inl q
     ·exact .inr q
    ·have q:=zEW (X:=X) (C:=s.heap.objs.size+1) S.nd m;rw[hc,qDv]at q;exact q
  ·exfalso
   have hv3:(relabel sc X.env).names.lookup x=some .local\/(relabel sc X.env).names.lookup x=some .cell\/(relabel sc X.env).names.lookup x=some .free:=h3
   rcases hv3 with q|q|q<;>rcases zBV (sc:=sc) q with q|⟨q,_⟩<;>rw[e]at q<;>cases q
 ·intro x c e
  rcases cells x c e with⟨_,_,g,_⟩|⟨_,g⟩
  ·exact⟨_,g⟩
  ·obtain⟨v,q⟩:=I.cell x c g;exact⟨v,q.keeps kk⟩
 ·intro x c e
  rcases cells x c e with⟨_,_,_,g⟩|⟨_,g⟩
  ·exact I.hok.fresh (by lia)
  ·exact I.freeC x c g
 ·intro p hp;have hp':p=(s.heap.objs.size,{ cls:=.type "list",data:=.seq #[] 0 }):=by
   have:p∈([]++[(s.heap.objs.size,({ cls:=.type "list",data:=.seq #[] 0 }:Obj))]:List (Addr×Obj)):=hp
   simpa using this
  subst hp';refine⟨k3 _ _ (k2 _ _ hD1),hDn,?_,nofs _ (qAa _),fun v z=>by cases z⟩;show s.heap.objs.size≠s.heap.objs.size+1
  lia
 ·show(σ++qA5 k none).length=N'.length
  rw[qB2,qC4,I.len,S.len]
 ·intro b hb;obtain⟨f0,f1,f2,f3,f4,f5⟩:=hf b hb;refine⟨f0,(ok.exf b hb).1,fin b hb,.inl hb,fun x c e=>(ok.exf b hb).2 x c e,fun p hp=>?_⟩;have hp':p=(s.heap.objs.size,{ cls:=.type "list",data:=.seq #[] 0 }):=by
   have:p∈([]++[(s.heap.objs.size,({ cls:=.type "list",data:=.seq #[] 0 }:Obj))]:List (Addr×Obj)):=hp
   simpa using this
  subst hp';exact qC0 (fpl b hb)
end
theorem zEM{prog:Program}{w:World}{A:Around}{R:Result->Shared->Prop}{s:Shared}{elt target iter:Expr}{ifs:List Expr}{scope:Scope}{pos:Pos}{it acc:Value}{env:Env}(I:Nat->Shared->Prop)
  (turn:∀n s,I n s->wpAny (model prog w) A (pyNext it) (fun r s₁=>match r with
   |none=>R (.ok .next) s₁
   |some v=>wpAny (model prog w) A (letOwnedTupleGo target it v) (fun _ s₂'=>wpAny (model prog w) A (assign target env v) (fun _ s₂=>
     wpAny (model prog w) A (forIn ifs true fun c r=>if r=true then do let ok <- isTrue c env (eval c env);pure (qCo ok)else pure (qCo r)) (fun ok s₃=>
      if ok=true then wpAny (model prog w) A (eval elt env) (fun x s₄=>
       wpAny (model prog w) A (call (.builtin "list.append") [acc,x]) (fun _ s₅=>∃m,m<n/\I m s₅) (fun _ _=>False) s₄) (fun _ _=>False) s₃
      else ∃m,m<n/\I m s₃) (fun _ _=>False) s₂) (fun _ _=>False) s₂') (fun _ _=>False) s₁) (fun _ _=>False) s)
  (n:Nat) (h:I n s) :
  codeAny (model prog w) A (.compLoop (.ListComp elt [⟨target,iter,ifs,0⟩] scope pos) 0 it acc env) R s:=by
 refine codeAny_loop rfl I (fun n s hI=>?_) n h;show wpAny _ A ((compTurn (.ListComp elt [⟨target,iter,ifs,0⟩] scope pos) 0 it acc env).onRaise (fun x=>do noteFrame x env;theTreesLotGoes x)) _ _ s;refine wpAny_noted ?_;rw[compTurn_list];refine wpAny_bind (wpAny_standAt (wpAny_bind (wpAny_mono (turn n s hI) (fun r s₁ h₁=>?_) fun _ _ z=>z.elim)));cases r with
 |none=>exact wpAny_pure h₁
 |some v=>
  refine wpAny_bind (wpAny_mono h₁ (fun _ s₂' h₂'=>?_) fun _ _ z=>z.elim);refine wpAny_bind (wpAny_mono h₂' (fun _ s₂ h₂=>wpAny_bind (wpAny_mono h₂ (fun ok s₃ h₃=>?_) fun _ _ z=>z.elim)) fun _ _ z=>z.elim);cases ok with
  |false=>exact wpAny_pure ⟨rfl,h₃⟩
  |true=>
   exact wpAny_bind (wpAny_bind (wpAny_mono h₃ (fun x s₄ h₄=>wpAny_bind (wpAny_mono h₄ (fun _ s₅ h₅=>wpAny_pure (wpAny_pure ⟨rfl,h₅⟩)) fun _ _ z=>z.elim)) fun _ _ z=>z.elim))
def zUQ(k:Nat)(g:TG)(tif:TT)(te:TE)(σ:St)(Q:VK)(J:It)(H1:Hp):Prop:=∃W:Nat->Nat->List V->Hp->Prop,(∃m,W 0 m [] H1)/\∀i m acc H,W i m acc H ->
 (J.stop i H/\∀D,H D=none->Q (.ref D) (upd H D (.lst acc))) \/
 (J.go i H/\acc.length<sizeLine/\∃N:List V->Hp->Prop,(∀acc' H',N acc' H'->∃m',m'<m/\W (i+1) m' acc' H')/\∀x H',J.yld i H x H'->g x (σ++qA5 k none) H' fun σ2 H2=>∃own:St,own.length=k/\σ2=σ++own/\tif σ2 H2 fun b H3=>if b=true then te σ2 H3 fun v H4=>N (acc++[v]) H4 else N acc H3)
noncomputable def zW2(wi:TI)(k:Nat)(g:TG)(tif:TT)(te:TE):TE:=fun σ H Q=>wi σ H (zUQ k g tif te σ Q)
theorem HOk.track{P:Program}{w:World}{H:Hp}{h:Heap}{a:Addr}{o:HO}(x:HOk P w H h)(hn:H a=none)(new:ObjOk P w (upd H a o) h a o):HOk P w (upd H a o) h:=fun b u e=>by
 by_cases hb:b=a
 ·subst hb;rw[zAI]at e;cases e;exact new
 ·rw[zAJ hb]at e;exact(x b u e).stay (fun c v _ q=>q) (fun c q=>by rw[zAJ (zAO q hn)];exact q) fun c xs q=>by rw[zAJ (zAO q hn)];exact q
section
variable{X:Cx}{N':List Str}{k:Nat}{sc:Scope}{tg iter elt:Expr}{ifs:List Expr}{wi:TI}{g:TG}{tif:TT}{te:TE}{pos:Pos}
theorem zIQ{pins:List (Addr×Obj)}{σ:St}{H2:Hp}{s2:Shared}{Q:VK}{RR:Value->Addr->Result->Shared->Prop}{E:Value->Shared->Prop}(hc:X.calm=true)(S:CompNames X.N N' k sc X.env)
  (hg:∀C s H fp,PG (zDH X N' sc C s H fp) tg g) (hif:∀C s H fp,PTs (zDH X N' sc C s H fp) ifs tif) (he:∀C s H fp,PE (zDH X N' sc C s H fp) elt te)
  {it:Addr} {fp:List Addr} {tn:Nat->Heap->Prop} {J:It} (I2:Inv X pins σ H2 s2) (T:Turn X.prog X.w X.K tg J fp it tn) (st2:tn 0 s2.heap) (f2:∀b∈fp,FpOk X pins H2 b)
  {W:Nat->Nat->List V->Hp->Prop} {m0:Nat} (w0:W 0 m0 [] H2)
  (turn:∀i m acc H,W i m acc H->(J.stop i H/\∀D,H D=none->Q (.ref D) (upd H D (.lst acc))) \/
   (J.go i H/\acc.length<sizeLine/\∃N:List V->Hp->Prop,(∀acc' H',N acc' H'->∃m',m'<m/\W (i+1) m' acc' H')/\∀x H',J.yld i H x H'->g x (σ++qA5 k none) H' fun σ2 H2=>∃own:St,own.length=k/\σ2=σ++own/\tif σ2 H2 fun b H3=>if b=true then te σ2 H3 fun v H4=>N (acc++[v]) H4 else N acc H3))
  (hRR:∀D C s' H',D<C->s2.heap.objs.size<=D->(∃m,s'.heap.Ns C m)->H' C=none->C∉frs X.stack->Inv X pins σ H' s'->Q (.ref D) H'->RR (.ref D) C (.ok .next) s') :
  wpAny (model X.prog X.w) X.A (newList []) (fun acc s₃=>wpAny (model X.prog X.w) X.A (newFunctionEnv sc X.env.globals (clos X.env.cells sc.names []) [] X.env.qual none .none (some X.env)) (fun cenv s₄=>
   codeAny (model X.prog X.w) X.A (.compStart (.ListComp elt [⟨tg,iter,ifs,0⟩] sc pos) 0 (.ref it) acc { cenv with scope:=relabel sc X.env }) (RR acc cenv.locals) s₄) E s₃) E s2:=by
 refine wpAny_newObj_type (zF9 ?_);show codeAny _ _ (.compStart _ 0 (.ref it) (.ref s2.heap.objs.size) _) _ _;have szp:(s2.heap.push { cls:=.type "list",dict:=none,data:=.seq ([]:List Value).toArray }).objs.size=s2.heap.objs.size+1:=Heap.size_push ..;obtain⟨I4,F4⟩:=zTT (s4:={ s2 with heap:=pushCells ((s2.heap.push { cls:=.type "list",data:=.seq #[] 0 }).push { cls:=.type "dict",data:=.dict #[] }) sc.names }) I2 hc S f2 (fun b hb=>let⟨o,e,_⟩:=T.obj 0 _ st2 b hb;⟨o,e⟩) rfl rfl rfl
 generalize hC:(s2.heap.push { cls:=.type "list",dict:=none,data:=.seq ([]:List Value).toArray }).objs.size=C at *
 have eC:C=s2.heap.objs.size+1:=szp;rw[<- eC]at I4 F4
 generalize hs4:({ s2 with heap:=pushCells ((s2.heap.push { cls:=.type "list",data:=.seq #[] 0 }).push { cls:=.type "dict",data:=.dict #[] }) sc.names }:Shared)=s4 at I4 F4
 have kk:∀b o,s2.heap.get? b=some o->s4.heap.get? b=some o:=fun b o e=>by
  rw[<- hs4];exact pushCells_keeps sc.names _ b o (Heap.get?_push_of_some _ (Heap.get?_push_of_some _ e))
 have st4:tn 0 s4.heap:=T.keep 0 _ _ st2 fun b _ o e=>kk b o e
 generalize hX':zDH X N' sc C s2 H2 fp=X' at I4 F4
 have henv:X'.env=zEJ sc C X.env:=by rw[<- hX'];rfl
 have xprog:X'.prog=X.prog:=by rw[<- hX'];rfl
 have xw:X'.w=X.w:=by rw[<- hX'];rfl
 have xK:X'.K=X.K:=by rw[<- hX'];rfl
 have xcalm:X'.calm=true:=by rw[<- hX'];exact hc
 have xA:X'.A=X.A:=by rw[<- hX'];rfl
 have xpn:X'.pn=[]:=by rw[<- hX'];rfl
 have xxe:X'.xe=fun _ _=>False:=by rw[<- hX'];rfl
 have xs0:X'.s₀=s2:=by rw[<- hX'];rfl
 have xH0:X'.H₀=H2:=by rw[<- hX'];rfl
 have xfs:X'.fs=frs X.stack:=by rw[<- hX'];rfl
 have xex:X'.ex=fp:=by rw[<- hX'];rfl
 have hgX:PG X' tg g:=by rw[<- hX'];exact hg C s2 H2 fp
 have hifX:PTs X' ifs tif:=by rw[<- hX'];exact hif C s2 H2 fp
 have heX:PE X' elt te:=by rw[<- hX'];exact he C s2 H2 fp
 have locC:X'.env.locals=C:=by rw[henv];rfl
 generalize hDd:s2.heap.objs.size=D at *
 have loop:codeAny (model X.prog X.w) X.A (.compLoop (.ListComp elt [⟨tg,iter,ifs,0⟩] sc pos) 0 (.ref it) (.ref D) (zEJ sc C X.env)) (RR (.ref D) C) s4:=by
  refine zEM (fun n s'=>∃i H' acc its nn,Inv X' [] (σ++qA5 k none) H' s'/\tn i s'.heap/\(∀b∈fp,H' b=none)/\H' D=none/\W i n acc H'/\acc.length<=sizeLine/\Vals acc its/\s'.heap.get? D=some { cls:=.type "list",data:=.seq its.toArray nn }) ?_ m0 ?_
  ·rintro n s5 ⟨i,H5,acc,its,nn,I5,st5,fr5,hD5,w5,hz5,rv5,hL5⟩
   have hDlt:D<C:=by rw[eC];exact qGd _
   have pinD:Inv X' [(D,{ cls:=.type "list",data:=.seq its.toArray nn })] (σ++qA5 k none) H5 s5:=I5.pins_of fun p hp=>by
    have hp':p=(D,{ cls:=.type "list",data:=.seq its.toArray nn }):=by simpa using hp
    subst hp';refine⟨hL5,hD5,?_,?_,fun v z=>by cases z⟩
    ·rw[locC];exact qAr hDlt
    ·have q:=(I4.pin (D,{ cls:=.type "list",data:=.seq #[] 0 }) (by simp)).2.2.2.1;exact q
   have fpD:∀{H':Hp}{oo:Obj},(∀b∈fp,H' b=none)->∀b∈fp,FpOk X' [(D,oo)] H' b:=fun{H' oo} hn b hb=>by
    obtain⟨f0,f1,f2,f3,f4,f5⟩:=F4 b hb;refine⟨hn b hb,f1,f2,f3,f4,fun p hp=>?_⟩;have hp':p=(D,oo):=by
     rw[xpn]at hp
     simpa using hp
    subst hp';exact f5 (D,{ cls:=.type "list",data:=.seq #[] 0 }) (by simp)
   rcases turn i n acc H5 w5 with⟨stop,q⟩|⟨go,hlt,N,hN,step⟩
   ·have dn:=T.done X' xprog xw xK xcalm i _ s5 _ H5 (fun _ _=>False) pinD (fpD fr5) st5 stop;rw[xA]at dn;refine thn dn fun r s6 z0=>?_
    obtain⟨hr,I6⟩:=z0;subst hr;show RR (.ref D) C (.ok .next) s6;have hL6:=(I6.pin (D,{ cls:=.type "list",data:=.seq its.toArray nn }) (by simp)).1;have un6:Un (frs X.stack) fp H2 H5 s2.heap s6.heap:=by
     have:=I6.base
     rw[xs0,xH0,xfs,xex]at this;exact this
    have hok6:HOk X.prog X.w H5 s6.heap:=by
     have:=I6.hok
     rw[xprog,xw]at this;exact this
    have hDno:s2.heap.get? D=none:=Heap.get?_none_of_le (by rw[hDd];exact qAa _);have un7:Un (frs X.stack) fp H2 (upd H5 D (.lst acc)) s2.heap s6.heap:=
     ⟨un6.keep,un6.slot,fun b o e n hx=>by
       have hb:b≠D:=by rintro rfl;rw[hDno]at e;cases e
       rw[zAJ hb];exact un6.free b o e n hx,un6.there,
      fun b xs e=>by
       have e':=un6.tups b xs e;rw[zAJ (zAO e' hD5)];exact e',
      fun b o u e=>by
       have e':=un6.frzs b o u e;rw[zAJ (zAO e' hD5)];exact e',
      fun b ps e=>by
       obtain⟨more,e'⟩:=un6.tbls b ps e;exact⟨more,by rw[zAJ (zAO e' hD5)];exact e'⟩⟩
    have hok7:HOk X.prog X.w (upd H5 D (.lst acc)) s6.heap:=hok6.track hD5 ⟨hz5,its,nn,rv5,hL6⟩;have os6:s6.os=s2.os:=by have:=I6.os;rw[xs0]at this;exact this
    have I7:Inv X pins σ (upd H5 D (.lst acc)) s6:=I2.call' os6 un7 hok7 I6.bare fun b hb=>by
     obtain⟨f0,f1,f2,f3,f4,f5⟩:=f2 b hb;exact⟨f3,f1,f4,f5⟩
    obtain⟨mm,hn,_⟩:=I6.loc;rw[locC]at hn;have hC5:H5 C=none:=by have:=I6.free;rw[locC]at this;exact this
    refine hRR D C s6 (upd H5 D (.lst acc)) hDlt (qAa _) ⟨mm,hn⟩ ?_ ?_ I7 (q D hD5)
    ·rw[zAJ (qC0 hDlt)];exact hC5
    ·intro hb
     rcases qAk.mp (I2.stkSub C hb)with e|hb
     ·have t1:=asN I2.lt;have t2:=asE e;rw[hDd]at t1;have t3:=asN hDlt
      lia
     ·exact I2.nofs (by rw[hDd];exact qD8 hDlt) hb
   ·have itm:=T.item X' xprog xw xK xcalm i _ s5 _ H5 (fun _ _=>False) pinD (fpD fr5) st5 go;rw[xA]at itm;refine thn itm fun r s6 z0=>?_
    obtain⟨u,hr,h6⟩:=z0;subst hr;refine thn h6 fun _ s7 z0=>?_
    obtain⟨x,H7,I7,r7,y7,st7,fr7⟩:=z0;have I7':Inv X' ([(D,{ cls:=.type "list",data:=.seq its.toArray nn })]++zIH fp s7.heap) (σ++qA5 k none) H7 s7:=I7.pinned (fpD fr7) (T.obj _ _ st7);have asg:=hgX _ s7 _ H7 x u _ I7' r7 (step x H7 y7);rw[xprog,xw,xA,henv,xxe]at asg;refine thn asg fun _ s8 z0=>?_
    obtain⟨σ8,H8,I8,own,hown,hσ8,q8⟩:=z0;have weak:∀{pl:List (Addr×Obj)}{H':Hp}{s':Shared},Inv X' pl σ8 H' s'->Inv X' [] (σ++qA5 k none) H' s':=fun{pl H' s'} J'=>by
     have J0:Inv X' [] σ8 H' s':=J'.pins_of (fun p hp=>by simp at hp);refine J0.weak (by rw[hσ8];simp[hown]) fun j v hj=>?_
     rw[hσ8]
     by_cases hjl:j<σ.length
     ·rw[qA8 hjl]at hj ⊢;exact hj
     ·rw[qA9 (by lia),qBm]at hj
      split at hj<;>cases hj
    have tst:=hifX _ s8 σ8 H8 _ I8 q8;rw[xprog,xw,xA,henv,xxe]at tst;refine thn tst fun b s9 z0=>?_
    obtain⟨H9,I9,q9⟩:=z0;have pin9:∀{σ':St}{H':Hp}{s':Shared},Inv X' ([(D,{ cls:=.type "list",data:=.seq its.toArray nn })]++zIH fp s7.heap) σ' H' s' ->
      s'.heap.get? D=some { cls:=.type "list",data:=.seq its.toArray nn }/\H' D=none/\tn (i+1) s'.heap/\(∀b∈fp,H' b=none):=fun{σ' H' s'} J'=>by
     have a1:=J'.pin (D,{ cls:=.type "list",data:=.seq its.toArray nn }) (by simp);refine⟨a1.1,a1.2.1,T.keep _ _ _ st7 fun b hb o e=>(J'.pin (b,o) (qAz _ (qAz _ (zEE hb e)))).1,fun b hb=>?_⟩;obtain⟨o,e,d⟩:=T.obj _ _ st7 b hb;exact(J'.pin (b,o) (qAz _ (qAz _ (zEE hb e)))).2.1
    cases b with
    |false=>
     rw[if_neg qAe];rw[if_neg qAe]at q9;obtain⟨m',hm,w9⟩:=hN _ _ q9;obtain⟨p1,p2,p3,p4⟩:=pin9 I9;exact⟨m',hm,i+1,H9,acc,its,nn,weak I9,p3,p4,p2,w9,hz5,rv5,p1⟩
    |true=>
     rw[if_pos rfl];rw[if_pos rfl]at q9;have ev:=heX _ s9 σ8 H9 _ I9 q9;rw[xprog,xw,xA,henv,xxe]at ev;refine thn ev fun y s10 z0=>?_
     obtain⟨v,H10,I10,r10,n10⟩:=z0;obtain⟨m',hm,w10⟩:=hN _ _ n10;obtain⟨p1,p2,p3,p4⟩:=pin9 I10;have hlen:its.length=acc.length:=rv5.length.symm;refine wpAny_list_append_plain (items:=its.toArray) ⟨nn,p1⟩ (fun h' hl' hs'=>?_) (by simp only[qAd];lia);have hDfp:D∉fp:=fun hb=>(F4 D hb).2.2.2.2.2 (D,{ cls:=.type "list",data:=.seq #[] 0 }) (by simp) rfl
     have I11:Inv X' [] (σ++qA5 k none) H10 { s10 with heap:=h' }:=by
      have J0:Inv X' [] (σ++qA5 k none) H10 s10:=weak I10;refine J0.turned (t':=s10.toks) (it:=D) (fun b o hb e=>(hs'.2 b hb).trans e) p2 ?_ (.inr ?_) (fun x c e z=>?_) (fun p hp=>?_)
      ·rw[locC];exact qAr hDlt
      ·rw[xs0,hDd];exact qAa _
      ·obtain⟨v',q⟩:=J0.cell x c e;obtain⟨o,ho,hd⟩:=q;rw[z,p1]at ho;cases ho;cases hd
      ·rw[xpn]at hp;simp at hp
     obtain⟨n',hk⟩:=hl';have hk':h'.get? D=some { cls:=.type "list",data:=.seq (its++[y]).toArray n' }:=by rw[hk];simp
     refine⟨m',hm,i+1,H10,acc++[v],its++[y],n',I11,T.keep _ _ _ p3 fun b hb o e=>(hs'.2 b (fun z=>hDfp (z▸hb))).trans e,p4,p2,w10,?_,rv5.append (.cons r10 .nil),hk'⟩;rw[qB2,qDq]
     lia
  ·refine⟨0,H2,[],[],0,I4.pins_of (fun p hp=>by simp at hp),st4,fun b hb=>(f2 b hb).1,I2.hok.fresh (by rw[hDd];exact qAa _),w0,qAc _,.nil,?_⟩;exact(I4.pin (D,{ cls:=.type "list",data:=.seq #[] 0 }) (by simp)).1
 exact codeAny_compStart_list loop (T.self _ 0 _ _ _ st4 loop)
theorem zHN(hc:X.calm=true)(S:CompNames X.N N' k sc X.env)(hi:PI X tg iter wi)
  (hg:∀C s H fp,PG (zDH X N' sc C s H fp) tg g) (hif:∀C s H fp,PTs (zDH X N' sc C s H fp) ifs tif) (he:∀C s H fp,PE (zDH X N' sc C s H fp) elt te)
  (hs:∀x,foldedSetIterable iter X.env x=pure x:=by intro _;rfl):PE X (.ListComp elt [⟨tg,iter,ifs,0⟩] sc pos) (zW2 wi k g tif te):=by
 intro pins s σ H Q I h;rw[eval_ListComp];have hfree:∀x,(x,NameKind.free)∈sc.names->∃c,X.env.cells.lookup x=some c:=fun x hx=>I.ok.has x (S.free x hx)
 refine wpAny_comprehension_free (use:=none) rfl hs (zFQ hfree) S.kind (fun x hx hl=>?_) ?_
 ·obtain⟨n,kd⟩:=x;dsimp only at hl ⊢;subst hl;exact zC7 S.nd hx
 ·refine thn (hi pins s σ H _ I h) fun v s1 h1=>thn h1 fun itv s2 h2=>?_
  obtain⟨it,fp,tn,J,H2,e,I2,T,st2,f2,W,⟨m0,w0⟩,turn⟩:=h2;subst e;refine zIQ (RR:=fun acc C=>compPost (model X.prog X.w) X.A X.xe none (EP X pins σ Q) acc C) hc S hg hif he I2 T st2 f2 w0 turn ?_;intro D C s' H' hDC hD hn hCn hCf I' q;obtain⟨m,hn⟩:=hn;refine⟨m,hn,fun h' hs'=>⟨.ref D,H',?_,rfl,q⟩⟩;have hCb:s2.heap.objs.size<=C:=qD8 (qC5 hD hDC);refine I'.turned (t':=s'.toks) (it:=C) (fun b o hb e=>(hs'.2 b hb).trans e) hCn ?_ (.inr (qAo I2.sz hCb)) (fun x c e z=>?_) (fun p hp z=>?_)
  ·exact qC0 (qAf I2.lt hCb)
  ·obtain⟨v,q⟩:=I2.cell x c e;exact absurd z (qAr (qAf q.lt hCb))
  ·exact absurd z (qAr (qAf (Heap.lt_size (I2.pin p hp).1) hCb))
theorem zG3{i:Nat}{x:Str}{pos' spos:Pos}(hN:X.N.Nodup)(hi':X.N[i]?=some x)(hx:Loc X.env.scope x)(hc:X.calm=true)(S:CompNames X.N N' k sc X.env)(hi:PI X tg iter wi)
  (hg:∀C s H fp,PG (zDH X N' sc C s H fp) tg g) (hif:∀C s H fp,PTs (zDH X N' sc C s H fp) ifs tif) (he:∀C s H fp,PE (zDH X N' sc C s H fp) elt te)
  (hsw:swapsWith (.ListComp elt [⟨tg,iter,ifs,0⟩] sc pos) (some (.Name x pos')) spos.line X.env=pure true:=by rfl)
  (hs:∀x,foldedSetIterable iter X.env x=pure x:=by intro _;rfl) (hf:X.fn x=true\/X.env.scope.names.lookup x=some .local:=by first|exact .inl rfl|exact .inr rfl|assumption) :
  PS X (.Assign [.Name x pos'] (.ListComp elt [⟨tg,iter,ifs,0⟩] sc pos) spos) (tAsg (zW2 wi k g tif te) (zHY i)):=by
 intro pins s σ H Dn I h;rw[exec_Assign_Name_used _ _ _ _ hsw];refine wpAny_bind (wpAny_standAt (wpAny_bind ?_));show wpAny _ X.A (do let _ <- comprehension (.ListComp elt [⟨tg,iter,ifs,0⟩] sc pos) sc X.env _ (newList []) false (eval iter X.env) (some (assign (.Name x pos') X.env))) _ _ s;have hfree:∀x,(x,NameKind.free)∈sc.names->∃c,X.env.cells.lookup x=some c:=fun x hx=>I.ok.has x (S.free x hx)
 refine wpAny_bind (wpAny_mono (wpAny_comprehension_free (use:=some (assign (.Name x pos') X.env)) (Q:=fun _ s'=>SP X pins Dn .next s') rfl hs (zFQ hfree) S.kind (fun x hx hl=>?_) ?_)
  (fun _ s' hq=>wpAny_pure (wpAny_pure hq)) fun _ _ e=>e)
 ·obtain⟨n,kd⟩:=x;dsimp only at hl ⊢;subst hl;exact zC7 S.nd hx
 ·refine thn (hi pins s σ H _ I h) fun v s1 h1=>thn h1 fun itv s2 h2=>?_
  obtain⟨it,fp,tn,J,H2,e,I2,T,st2,f2,W,⟨m0,w0⟩,turn⟩:=h2;subst e;refine zIQ (Q:=fun v H'=>zHY i v σ H' Dn.nx) (RR:=fun acc C=>compPost (model X.prog X.w) X.A X.xe (some (assign (.Name x pos') X.env)) (fun _ s'=>SP X pins Dn .next s') acc C) hc S hg hif he I2 T st2 f2 w0 turn ?_;intro D C s' H' hDC hD hn hCn hCf I' q;obtain⟨m,hn⟩:=hn;show wpAny _ _ (assign (.Name x pos') X.env (.ref D)) _ _ _;have hCb:s2.heap.objs.size<=C:=qD8 (qC5 hD hDC);have hCL:C≠X.env.locals:=qC0 (qAf I2.lt hCb);have hCc:∀x c,X.env.cells.lookup x=some c->c≠C:=fun x c e z=>by
   obtain⟨v,q⟩:=I2.cell x c e;exact absurd z (qAr (qAf q.lt hCb))
  refine wpAny_assign_Name (zKA (v:=.ref D) I' hN hi' hx rfl (fun s'' I'' ⟨a,sb,ha⟩=>?_) hf);have hCa:C≠a:=by
   rcases ha with e|e
   ·rw[e];exact hCL
   ·exact fun z=>hCc x a e z.symm
  refine⟨m,hn.sameBut sb hCa,fun h' hs'=>⟨_,H',?_,q⟩⟩;refine I''.turned (t':=s''.toks) (it:=C) (fun b o hb e=>(hs'.2 b hb).trans e) hCn hCL (.inr (qAo I2.sz hCb)) hCc (fun p hp z=>?_);exact absurd z (qAr (qAf (Heap.lt_size (I2.pin p hp).1) hCb))
theorem zIP{lo:Int}{n:Nat}{σ:St}{H:Hp}{Q:VK}(Pv:Nat->List V->Hp->Prop)(h0:Pv 0 [] H)(hz:∀i acc H,i<n->Pv i acc H->acc.length<sizeLine)
  (hs:∀i acc H,i<n->Pv i acc H->g (.int (lo+i)) (σ++qA5 k none) H fun σ2 H2=>∃own:St,own.length=k/\σ2=σ++own/\tif σ2 H2 fun b H3=>if b=true then te σ2 H3 fun v H4=>Pv (i+1) (acc++[v]) H4 else Pv (i+1) acc H3)
  (hd:∀acc H,Pv n acc H->∀D,H D=none->Q (.ref D) (upd H D (.lst acc))) :
  zUQ k g tif te σ Q (Itr lo n) H:=by
 refine⟨fun i m acc H=>m=n-i/\i<=n/\Pv i acc H,⟨n,by simp,qAc _,h0⟩,?_⟩
 rintro i m acc H ⟨rfl,hi,p⟩
 by_cases hlt:i<n
 ·refine .inr ⟨hlt,hz i acc H hlt p,Pv (i+1),fun acc' H' p'=>⟨n-(i+1),by lia,rfl,hlt,p'⟩,fun x H' y=>?_⟩;obtain⟨e,y⟩:=y;subst e y;exact hs i acc _ hlt p
 ·have e:i=n:=by lia
  subst e;exact .inl ⟨qAa _,hd acc H p⟩
def zST(g:TG)(tb:TS)(D:Ends)(σ:St)(J:It)(H1:Hp):Prop:=∃W:Nat->Nat->St->Hp->Prop,(∃m,W 0 m σ H1)/\∀i m σ H,W i m σ H ->
 (J.stop i H/\D.nx σ H)\/(J.go i H/\∃N:St->Hp->Prop,(∀σ' H',N σ' H'->∃m',m'<m/\W (i+1) m' σ' H')/\∀x H',J.yld i H x H'->g x σ H' fun σ2 H2=>tb { D with nx:=N,ct:=N,bk:=D.nx } σ2 H2)
theorem zBL{body:List Stmt}{tb:TS}(hp:PassesOwn (model X.prog X.w) X.A X.env X.xe)(hc:X.calm=true)(hi:PI X tg iter wi)(hg:PG X tg g)(hb:PSs X body tb)
  (hs:∀x,foldedSetIterable iter X.env x=pure x:=by intro _;rfl):PS X (.For tg iter body [] pos) (fun D σ H=>wi σ H (zST g tb D σ)):=zZ1 hp hc hi hg hb hs
end
end L2
namespace L2
open PySem PySem.Spec PyProof.Rows
inductive Dat where
 |non|bl (b:Bool)|int (i:Int)|str (x:Str)|lst (xs:List Dat)|tup (xs:List Dat)
mutual
def Dat.dep:Dat->Nat
 |.lst xs=>Dat.depL xs+1
 |.tup xs=>Dat.depL xs+1
 |_=>0
def Dat.depL:List Dat->Nat
 |[]=>0
 |x::r=>max x.dep (Dat.depL r)
end
mutual
def Dat.eq:Dat->Dat->Bool
 |.non,.non=>true
 |.bl a,.bl b=>a==b
 |.bl a,.int b=>(if a then 1 else 0)==b
 |.int a,.bl b=>a==(if b then 1 else 0)
 |.int a,.int b=>a==b
 |.str a,.str b=>a==b
 |.lst xs,.lst ys=>Dat.eqL xs ys
 |.tup xs,.tup ys=>Dat.eqL xs ys
 |_,_=>false
def Dat.eqL:List Dat->List Dat->Bool
 |[],[]=>true
 |x::r,y::q=>Dat.eq x y&&Dat.eqL r q
 |_,_=>false
end
mutual
def Rep(H:Hp):Dat->V->Prop
 |.non,v=>v=.non
 |.bl b,v=>v=.bl b
 |.int i,v=>v=.int i
 |.str x,v=>v=.str x
 |.lst ds,v=>∃a xs,v=.ref a/\H a=some (.lst xs)/\RepL H ds xs
 |.tup ds,v=>∃a xs,v=.ref a/\H a=some (.tup xs)/\RepL H ds xs
def RepL(H:Hp):List Dat->List V->Prop
 |[],xs=>xs=[]
 |d::r,xs=>∃x q,xs=x::q/\Rep H d x/\RepL H r q
end
mutual
theorem Rep.mono{H H':Hp}(s:Same H H'):∀{d:Dat}{v:V},Rep H d v->Rep H' d v
 |.non,_,h=>h
 |.bl _,_,h=>h
 |.int _,_,h=>h
 |.str _,_,h=>h
 |.lst _,_,h=>by obtain⟨a,xs,e,e',r⟩:=h;exact⟨a,xs,e,s _ _ e',RepL.mono s r⟩
 |.tup _,_,h=>by obtain⟨a,xs,e,e',r⟩:=h;exact⟨a,xs,e,s _ _ e',RepL.mono s r⟩
theorem RepL.mono{H H':Hp}(s:Same H H'):∀{ds:List Dat}{xs:List V},RepL H ds xs->RepL H' ds xs
 |[],_,h=>h
 |_::_,_,h=>by obtain⟨x,q,e,r,t⟩:=h;exact⟨x,q,e,Rep.mono s r,RepL.mono s t⟩
end
mutual
theorem Rep.inj{H:Hp}:∀{d e:Dat}{v:V},Rep H d v->Rep H e v->d=e
 |.non,e,v,h,h'=>by cases h;cases e<;>first|rfl|(cases h';done)|(obtain⟨a,xs,z,_⟩:=h';cases z)
 |.bl b,e,v,h,h'=>by cases h;cases e<;>first|(cases h';rfl)|(cases h';done)|(obtain⟨a,xs,z,_⟩:=h';cases z)
 |.int b,e,v,h,h'=>by cases h;cases e<;>first|(cases h';rfl)|(cases h';done)|(obtain⟨a,xs,z,_⟩:=h';cases z)
 |.str b,e,v,h,h'=>by cases h;cases e<;>first|(cases h';rfl)|(cases h';done)|(obtain⟨a,xs,z,_⟩:=h';cases z)
 |.lst ds,e,v,h,h'=>by
  obtain⟨a,xs,rfl,ha,q⟩:=h;cases e with
  |lst es=>
   obtain⟨b,ys,z,hb,q'⟩:=h';cases z;rw[ha]at hb;cases hb;rw[RepL.inj q q']
  |tup es=>
   obtain⟨b,ys,z,hb,q'⟩:=h';cases z;rw[ha]at hb;cases hb
  |_=>cases h'
 |.tup ds,e,v,h,h'=>by
  obtain⟨a,xs,rfl,ha,q⟩:=h;cases e with
  |tup es=>
   obtain⟨b,ys,z,hb,q'⟩:=h';cases z;rw[ha]at hb;cases hb;rw[RepL.inj q q']
  |lst es=>
   obtain⟨b,ys,z,hb,q'⟩:=h';cases z;rw[ha]at hb;cases hb
  |_=>cases h'
theorem RepL.inj{H:Hp}:∀{ds es:List Dat}{xs:List V},RepL H ds xs->RepL H es xs->ds=es
 |[],[],_,_,_=>rfl
 |[],_::_,_,h,h'=>by cases h;obtain⟨x,q,e,_⟩:=h';cases e
 |_::_,[],_,h,h'=>by cases h';obtain⟨x,q,e,_⟩:=h;cases e
 |d::r,e::t,_,h,h'=>by
  obtain⟨x,q,rfl,r1,t1⟩:=h;obtain⟨x',q',z,r2,t2⟩:=h';cases z;rw[Rep.inj r1 r2,RepL.inj t1 t2]
end
mutual
theorem Dat.eq_refl:∀d:Dat,Dat.eq d d=true
 |.non=>by simp[Dat.eq]
 |.bl _=>by simp[Dat.eq]
 |.int _=>by simp[Dat.eq]
 |.str _=>by simp[Dat.eq]
 |.lst xs=>by rw[Dat.eq];exact Dat.eqL_refl xs
 |.tup xs=>by rw[Dat.eq];exact Dat.eqL_refl xs
theorem Dat.eqL_refl:∀ds:List Dat,Dat.eqL ds ds=true
 |[]=>by simp[Dat.eqL]
 |d::r=>by rw[Dat.eqL,Dat.eq_refl d,Dat.eqL_refl r];rfl
end
theorem RepL.length{H:Hp}:∀{ds:List Dat}{xs:List V},RepL H ds xs->xs.length=ds.length
 |[],_,h=>by cases h;rfl
 |_::_,_,h=>by obtain⟨x,q,e,r,t⟩:=h;subst e;simp[RepL.length t]
theorem Dat.eqL_len:∀{xs ys:List Dat},xs.length≠ys.length->Dat.eqL xs ys=false
 |[],[],h=>absurd rfl h
 |[],_::_,_=>by simp[Dat.eqL]
 |_::_,[],_=>by simp[Dat.eqL]
 |x::r,y::q,h=>by
  rw[Dat.eqL,Dat.eqL_len (fun e=>h (by simp[e])),qD0]
theorem Dat.eqL_all:∀{xs ys:List Dat},xs.length=ys.length->∀(e:Nat->Bool),(∀j (h1:j<xs.length) (h2:j<ys.length),e j=Dat.eq xs[j] ys[j])->(qA6 xs.length).all e=Dat.eqL xs ys
 |[],[],_,_,_=>by simp[Dat.eqL]
 |[],_::_,h,_,_=>by simp at h
 |_::_,[],h,_,_=>by simp at h
 |x::r,y::q,h,e,he=>by
  have hl:r.length=q.length:=by simpa using h
  rw[qB6,qDh,qEj,Dat.eqL,he 0 (by simp) (by simp)]
  have:=Dat.eqL_all (xs:=r) (ys:=q) hl (fun j=>e (j+1)) (fun j h1 h2=>by
   rw[he (j+1) (by simpa using h1) (by simpa using h2)];simp)
  rw[<- this,List.all_map];rfl
theorem RepL.get{H:Hp}:∀{ds:List Dat}{xs:List V}{i:Nat}{x:V},RepL H ds xs->xs[i]?=some x->∃d,ds[i]?=some d/\Rep H d x
 |[],_,_,_,h,e=>by cases h;simp at e
 |d::_,_,0,_,h,e=>by obtain⟨x,q,e1,r,t⟩:=h;subst e1;simp at e;subst e;exact⟨d,rfl,r⟩
 |_::_,_,i+1,_,h,e=>by
  obtain⟨x,q,e1,r,t⟩:=h;subst e1;obtain⟨d',h1,h2⟩:=RepL.get (i:=i) t (by simpa using e);exact⟨d',by simpa using h1,h2⟩
theorem Dat.depL_mem{d:Dat}:∀{ds:List Dat},d∈ds->d.dep<=Dat.depL ds
 |_::_,h=>by
  rw[Dat.depL]
  rcases qAk.mp h with rfl|h
  ·exact Nat.le_max_left _ _
  ·exact qAo (Dat.depL_mem h) (Nat.le_max_right _ _)
section
variable{P:Program}{w:World}{H:Hp}
theorem zE4(A:Around):A.in1.units=A.units+1:=rfl
theorem zAP{s:Shared}{a:Addr}{xs:List V}(ok:HOk P w H s.heap)(h:H a=some (.lst xs)):∃its:List Value,Vals xs its/\s.heap.IsList a its.toArray:=by
 obtain⟨_,its,n,r,e⟩:=ok a _ h;exact⟨its,r,⟨_,e,rfl,n,rfl⟩⟩
theorem zBD{s:Shared}{a:Addr}{xs:List V}(ok:HOk P w H s.heap)(h:H a=some (.tup xs)):∃its:List Value,Vals xs its/\s.heap.IsTuple a its.toArray:=by
 obtain⟨_,its,r,e⟩:=ok a _ h;exact⟨its,r,e⟩
theorem Rep.flat{d:Dat}{v:V}(h:Rep H d v)(hf:d.dep=0):zGD v=true:=by
 cases d with
 |non=>cases h;rfl
 |bl _=>cases h;rfl
 |int _=>cases h;rfl
 |str _=>cases h;rfl
 |lst _=>simp[Dat.dep]at hf
 |tup _=>simp[Dat.dep]at hf
theorem Rep.flatEq{d e:Dat}{v u:V}(h:Rep H d v)(h':Rep H e u)(hf:d.dep=0)(hf':e.dep=0):eqV v u=Dat.eq d e:=by
 cases d<;>cases e<;>first
  |(simp[Dat.dep]at hf;done)
  |(simp[Dat.dep]at hf';done)
  |(cases h;cases h';simp[eqV,Dat.eq];done)
theorem zU3:∀(n:Nat){d e:Dat}{v u:V}{x y:Value}{A:Around}{s:Shared},d.dep<=n->HOk P w H s.heap->Rep H d v->Rep H e u->RelV v x->RelV u y->A.units+n<cLine->SeqAt.EqAt A s x y (Dat.eq d e):=by
 intro n
 induction n with
 |zero=>
  intro d e v u x y A s hd ok h1 h2 r1 r2 hu;have f1:=h1.flat (by lia)
  by_cases he:e.dep=0
  ·have f2:=h2.flat he
   have:=zVK (A:=A) (s:=s) r1 r2 f1 f2
   rw[h1.flatEq h2 (by lia) he]at this;exact this
  ·have hu':A.units<cLine:=by lia
   cases e with
   |lst ys=>
    obtain⟨a,xs,rfl,ha,_⟩:=h2;obtain⟨its,_,hl⟩:=zAP ok ha;cases r2;cases d with
    |non=>cases h1;cases r1;exact SeqAt.EqAt.none_list hl hu'
    |bl b=>cases h1;cases r1;exact SeqAt.EqAt.bool_list b hl hu'
    |int i=>cases h1;obtain⟨t,rfl⟩:=r1;exact SeqAt.EqAt.int_list i t hl hu'
    |str z=>cases h1;obtain⟨t,rfl⟩:=r1;exact SeqAt.EqAt.str_list z t hl hu'
    |lst _=>simp[Dat.dep]at hd
    |tup _=>simp[Dat.dep]at hd
   |tup ys=>
    obtain⟨a,xs,rfl,ha,_⟩:=h2;obtain⟨its,_,hl⟩:=zBD ok ha;cases r2;cases d with
    |non=>cases h1;cases r1;exact SeqAt.EqAt.none_tuple hl hu'
    |bl b=>cases h1;cases r1;exact SeqAt.EqAt.bool_tuple b hl hu'
    |int i=>cases h1;obtain⟨t,rfl⟩:=r1;exact SeqAt.EqAt.int_tuple i t hl hu'
    |str z=>cases h1;obtain⟨t,rfl⟩:=r1;exact SeqAt.EqAt.str_tuple z t hl hu'
    |lst _=>simp[Dat.dep]at hd
    |tup _=>simp[Dat.dep]at hd
   |_=>simp[Dat.dep]at he
 |succ n ih=>
  intro d e v u x y A s hd ok h1 h2 r1 r2 hu
  by_cases hd0:d.dep<=n
  ·exact ih hd0 ok h1 h2 r1 r2 (by lia)
  have hu':A.units<cLine:=by lia
  have pairs:∀{ds es:List Dat}{xs ys:List V}{its its2:List Value},Dat.depL ds<=n->RepL H ds xs->RepL H es ys->Vals xs its->Vals ys its2->∀j (h1:j<its.toArray.size) (h2:j<its2.toArray.size),
    SeqAt.EqAt A.in1 s its.toArray[j] its2.toArray[j] (Dat.eq (ds.getD j .non) (es.getD j .non)):=by
   intro ds es xs ys its its2 hdl q1 q2 v1 v2 j j1 j2;have l1:j<xs.length:=by have:=v1.length;simp at j1;lia
   have l2:j<ys.length:=by have:=v2.length;simp at j2;lia
   obtain⟨d',e1,p1⟩:=q1.get (i:=j) (x:=xs[j]) (by simp[l1]);obtain⟨e',e2,p2⟩:=q2.get (i:=j) (x:=ys[j]) (by simp[l2]);obtain⟨w1,g1,z1⟩:=v1.get (i:=j) (x:=xs[j]) (by simp[l1]);obtain⟨w2,g2,z2⟩:=v2.get (i:=j) (x:=ys[j]) (by simp[l2]);have k1:its.toArray[j]=w1:=by
    obtain⟨_,k⟩:=qA4.mp g1
    simpa using k
   have k2:its2.toArray[j]=w2:=by
    obtain⟨_,k⟩:=qA4.mp g2
    simpa using k
   rw[k1,k2,qA0,qA0,e1,e2];exact ih (qAo (Dat.depL_mem (qCx e1)) hdl) ok p1 p2 z1 z2 (by rw[zE4];lia)
  cases d with
  |lst ds=>
   have hdl:Dat.depL ds<=n:=by rw[Dat.dep]at hd;lia
   obtain⟨a,xs,rfl,ha,q1⟩:=h1;obtain⟨its,v1,hl1⟩:=zAP ok ha;cases r1;cases e with
   |non=>cases h2;cases r2;exact SeqAt.EqAt.list_none hl1 hu'
   |bl b=>cases h2;cases r2;exact SeqAt.EqAt.list_bool b hl1 hu'
   |int i=>cases h2;obtain⟨t,rfl⟩:=r2;exact SeqAt.EqAt.list_int i t hl1 hu'
   |str z=>cases h2;obtain⟨t,rfl⟩:=r2;exact SeqAt.EqAt.list_str z t hl1 hu'
   |tup es=>
    obtain⟨b,ys,rfl,hb,q2⟩:=h2;obtain⟨its2,v2,hl2⟩:=zBD ok hb;cases r2;exact SeqAt.EqAt.of_refs (zWS ha hb (fun z=>nomatch z)) (SeqAt.RcAt.list_tuple hl1 hl2 hu')
   |lst es=>
    obtain⟨b,ys,rfl,hb,q2⟩:=h2;obtain⟨its2,v2,hl2⟩:=zAP ok hb;cases r2;have len1:its.toArray.size=ds.length:=by have:=v1.length;have:=q1.length;simp;lia
    have len2:its2.toArray.size=es.length:=by have:=v2.length;have:=q2.length;simp;lia
    show SeqAt.EqAt A s (.ref a) (.ref b) (Dat.eqL ds es)
    by_cases hne:a=b
    ·
     subst hne;rw[ha]at hb;cases hb;have same:Dat.eqL ds es=true:=by
      rw[RepL.inj q1 q2];exact Dat.eqL_refl _
     rw[same];exact SeqAt.EqAt.same _
    ·refine SeqAt.EqAt.of_refs hne ?_
     by_cases hs:ds.length=es.length
     ·have:=SeqAt.RcAt.lists (A:=A) (s:=s) hl1 hl2 (by rw[len1,len2,hs]) hu' (pairs hdl q1 q2 v1 v2)
      rw[len1,Dat.eqL_all hs _ (fun j h1 h2=>by rw[qA0,qA0];simp[h1,h2])]at this;exact this
     ·rw[Dat.eqL_len hs];exact SeqAt.RcAt.lists_lengths hl1 hl2 (by rw[len1,len2];simpa using hs) hu'
  |tup ds=>
   have hdl:Dat.depL ds<=n:=by rw[Dat.dep]at hd;lia
   obtain⟨a,xs,rfl,ha,q1⟩:=h1;obtain⟨its,v1,hl1⟩:=zBD ok ha;cases r1;cases e with
   |non=>cases h2;cases r2;exact SeqAt.EqAt.tuple_none hl1 hu'
   |bl b=>cases h2;cases r2;exact SeqAt.EqAt.tuple_bool b hl1 hu'
   |int i=>cases h2;obtain⟨t,rfl⟩:=r2;exact SeqAt.EqAt.tuple_int i t hl1 hu'
   |str z=>cases h2;obtain⟨t,rfl⟩:=r2;exact SeqAt.EqAt.tuple_str z t hl1 hu'
   |lst es=>
    obtain⟨b,ys,rfl,hb,q2⟩:=h2;obtain⟨its2,v2,hl2⟩:=zAP ok hb;cases r2;exact SeqAt.EqAt.of_refs (zWS ha hb (fun z=>nomatch z)) (SeqAt.RcAt.tuple_list hl1 hl2 hu')
   |tup es=>
    obtain⟨b,ys,rfl,hb,q2⟩:=h2;obtain⟨its2,v2,hl2⟩:=zBD ok hb;cases r2;have len1:its.toArray.size=ds.length:=by have:=v1.length;have:=q1.length;simp;lia
    have len2:its2.toArray.size=es.length:=by have:=v2.length;have:=q2.length;simp;lia
    show SeqAt.EqAt A s (.ref a) (.ref b) (Dat.eqL ds es)
    by_cases hne:a=b
    ·subst hne;rw[ha]at hb;cases hb;have same:Dat.eqL ds es=true:=by
      rw[RepL.inj q1 q2];exact Dat.eqL_refl _
     rw[same];exact SeqAt.EqAt.same _
    ·refine SeqAt.EqAt.of_refs hne ?_
     have:=SeqAt.RcAt.tuples (A:=A) (s:=s) hl1 hl2 hu' (pairs hdl q1 q2 v1 v2)
     by_cases hs:ds.length=es.length
     ·rw[len1,len2,<- hs,qG6,beq_self_eq_true,qEm,Dat.eqL_all hs _ (fun j h1 h2=>by rw[qA0,qA0];simp[h1,h2])]at this;exact this
     ·rw[len1,len2,show(ds.length==es.length)=false by simpa using hs,qD0]at this;rw[Dat.eqL_len hs];exact this
  |_=>simp[Dat.dep]at hd0
theorem zH1{n:Nat}{A:Around}{s:Shared}(ok:HOk P w H s.heap){ds es:List Dat}{xs ys:List V}{its its2:List Value}(hdl:Dat.depL ds<=n)(hu:A.units+n<cLine)(q1:RepL H ds xs)(q2:RepL H es ys)(v1:Vals xs its)(v2:Vals ys its2) :
  ∀j (h1:j<its.toArray.size) (h2:j<its2.toArray.size),SeqAt.EqAt A s its.toArray[j] its2.toArray[j] (Dat.eq (ds.getD j .non) (es.getD j .non)):=by
 intro j j1 j2;have l1:j<xs.length:=by have:=v1.length;simp at j1;lia
 have l2:j<ys.length:=by have:=v2.length;simp at j2;lia
 obtain⟨d',e1,p1⟩:=q1.get (i:=j) (x:=xs[j]) (by simp[l1]);obtain⟨e',e2,p2⟩:=q2.get (i:=j) (x:=ys[j]) (by simp[l2]);obtain⟨w1,g1,z1⟩:=v1.get (i:=j) (x:=xs[j]) (by simp[l1]);obtain⟨w2,g2,z2⟩:=v2.get (i:=j) (x:=ys[j]) (by simp[l2]);have k1:its.toArray[j]=w1:=by
  obtain⟨_,k⟩:=qA4.mp g1
  simpa using k
 have k2:its2.toArray[j]=w2:=by
  obtain⟨_,k⟩:=qA4.mp g2
  simpa using k
 rw[k1,k2,qA0,qA0,e1,e2];exact zU3 n (qAo (Dat.depL_mem (qCx e1)) hdl) ok p1 p2 z1 z2 hu
theorem zT3(n:Nat){d e:Dat}{v u:V}{x y:Value}{A:Around}{s:Shared}(hd:d.dep<=n)(ok:HOk P w H s.heap)(h1:Rep H d v)(h2:Rep H e u)(r1:RelV v x)(r2:RelV u y)(hu:A.units+n<cLine):SeqAt.RcAt A s x y (Dat.eq d e):=by
 have hu':A.units<cLine:=by lia
 cases d with
 |non=>
  cases h1;cases r1;cases e with
  |non=>
   cases h2;cases r2;exact SeqAt.RcAt.none_none
  |bl b=>
   cases h2;cases r2;exact SeqAt.RcAt.none_bool b
  |int b=>
   cases h2;obtain⟨t2,rfl⟩:=r2;exact SeqAt.RcAt.none_int b t2
  |str b=>
   cases h2;obtain⟨t2,rfl⟩:=r2;exact SeqAt.RcAt.none_str b t2
  |lst es=>
   obtain⟨p2,ys,rfl,hb,q2⟩:=h2;obtain⟨its2,v2,hl2⟩:=zAP ok hb;cases r2;exact SeqAt.RcAt.none_list hl2 hu'
  |tup es=>
   obtain⟨p2,ys,rfl,hb,q2⟩:=h2;obtain⟨its2,v2,hl2⟩:=zBD ok hb;cases r2;exact SeqAt.RcAt.none_tuple hl2 hu'
 |bl a=>
  cases h1;cases r1;cases e with
  |non=>
   cases h2;cases r2;exact SeqAt.RcAt.bool_none a
  |bl b=>
   cases h2;cases r2;exact SeqAt.RcAt.bool_bool a b
  |int b=>
   cases h2;obtain⟨t2,rfl⟩:=r2;exact SeqAt.RcAt.bool_int a b t2
  |str b=>
   cases h2;obtain⟨t2,rfl⟩:=r2;exact SeqAt.RcAt.bool_str a b t2
  |lst es=>
   obtain⟨p2,ys,rfl,hb,q2⟩:=h2;obtain⟨its2,v2,hl2⟩:=zAP ok hb;cases r2;exact SeqAt.RcAt.bool_list a hl2 hu'
  |tup es=>
   obtain⟨p2,ys,rfl,hb,q2⟩:=h2;obtain⟨its2,v2,hl2⟩:=zBD ok hb;cases r2;exact SeqAt.RcAt.bool_tuple a hl2 hu'
 |int a=>
  cases h1;obtain⟨t1,rfl⟩:=r1;cases e with
  |non=>
   cases h2;cases r2;exact SeqAt.RcAt.int_none a t1
  |bl b=>
   cases h2;cases r2;exact SeqAt.RcAt.int_bool a t1 b
  |int b=>
   cases h2;obtain⟨t2,rfl⟩:=r2;exact SeqAt.RcAt.int_int a t1 b t2
  |str b=>
   cases h2;obtain⟨t2,rfl⟩:=r2;exact SeqAt.RcAt.int_str a t1 b t2
  |lst es=>
   obtain⟨p2,ys,rfl,hb,q2⟩:=h2;obtain⟨its2,v2,hl2⟩:=zAP ok hb;cases r2;exact SeqAt.RcAt.int_list a t1 hl2 hu'
  |tup es=>
   obtain⟨p2,ys,rfl,hb,q2⟩:=h2;obtain⟨its2,v2,hl2⟩:=zBD ok hb;cases r2;exact SeqAt.RcAt.int_tuple a t1 hl2 hu'
 |str a=>
  cases h1;obtain⟨t1,rfl⟩:=r1;cases e with
  |non=>
   cases h2;cases r2;exact SeqAt.RcAt.str_none a t1
  |bl b=>
   cases h2;cases r2;exact SeqAt.RcAt.str_bool a t1 b
  |int b=>
   cases h2;obtain⟨t2,rfl⟩:=r2;exact SeqAt.RcAt.str_int a t1 b t2
  |str b=>
   cases h2;obtain⟨t2,rfl⟩:=r2;exact SeqAt.RcAt.str_str a t1 b t2
  |lst es=>
   obtain⟨p2,ys,rfl,hb,q2⟩:=h2;obtain⟨its2,v2,hl2⟩:=zAP ok hb;cases r2;exact SeqAt.RcAt.str_list a t1 hl2 hu'
  |tup es=>
   obtain⟨p2,ys,rfl,hb,q2⟩:=h2;obtain⟨its2,v2,hl2⟩:=zBD ok hb;cases r2;exact SeqAt.RcAt.str_tuple a t1 hl2 hu'
 |lst ds=>
  have hdl:Dat.depL ds+1<=n:=by rw[Dat.dep]at hd;exact hd
  obtain⟨p,xs,rfl,ha,q1⟩:=h1;obtain⟨its,v1,hl1⟩:=zAP ok ha;cases r1;cases e with
  |non=>
   cases h2;cases r2;exact SeqAt.RcAt.list_none hl1 hu'
  |bl b=>
   cases h2;cases r2;exact SeqAt.RcAt.list_bool b hl1 hu'
  |int b=>
   cases h2;obtain⟨t2,rfl⟩:=r2;exact SeqAt.RcAt.list_int b t2 hl1 hu'
  |str b=>
   cases h2;obtain⟨t2,rfl⟩:=r2;exact SeqAt.RcAt.list_str b t2 hl1 hu'
  |lst es=>
   obtain⟨p2,ys,rfl,hb,q2⟩:=h2;obtain⟨its2,v2,hl2⟩:=zAP ok hb;cases r2;have len1:its.toArray.size=ds.length:=by have:=v1.length;have:=q1.length;simp;lia
   have len2:its2.toArray.size=es.length:=by have:=v2.length;have:=q2.length;simp;lia
   show SeqAt.RcAt A s (.ref p) (.ref p2) (Dat.eqL ds es)
   by_cases hs:ds.length=es.length
   ·have:=SeqAt.RcAt.lists (A:=A) (s:=s) hl1 hl2 (by rw[len1,len2,hs]) hu' (zH1 ok (by lia) (by rw[zE4];lia:A.in1.units+(n-1)<cLine) q1 q2 v1 v2)
    rw[len1,Dat.eqL_all hs _ (fun j h1 h2=>by rw[qA0,qA0];simp[h1,h2])]at this;exact this
   ·rw[Dat.eqL_len hs];exact SeqAt.RcAt.lists_lengths hl1 hl2 (by rw[len1,len2];simpa using hs) hu'
  |tup es=>
   obtain⟨p2,ys,rfl,hb,q2⟩:=h2;obtain⟨its2,v2,hl2⟩:=zBD ok hb;cases r2;exact SeqAt.RcAt.list_tuple hl1 hl2 hu'
 |tup ds=>
  have hdl:Dat.depL ds+1<=n:=by rw[Dat.dep]at hd;exact hd
  obtain⟨p,xs,rfl,ha,q1⟩:=h1;obtain⟨its,v1,hl1⟩:=zBD ok ha;cases r1;cases e with
  |non=>
   cases h2;cases r2;exact SeqAt.RcAt.tuple_none hl1 hu'
  |bl b=>
   cases h2;cases r2;exact SeqAt.RcAt.tuple_bool b hl1 hu'
  |int b=>
   cases h2;obtain⟨t2,rfl⟩:=r2;exact SeqAt.RcAt.tuple_int b t2 hl1 hu'
  |str b=>
   cases h2;obtain⟨t2,rfl⟩:=r2;exact SeqAt.RcAt.tuple_str b t2 hl1 hu'
  |lst es=>
   obtain⟨p2,ys,rfl,hb,q2⟩:=h2;obtain⟨its2,v2,hl2⟩:=zAP ok hb;cases r2;exact SeqAt.RcAt.tuple_list hl1 hl2 hu'
  |tup es=>
   obtain⟨p2,ys,rfl,hb,q2⟩:=h2;obtain⟨its2,v2,hl2⟩:=zBD ok hb;cases r2;have len1:its.toArray.size=ds.length:=by have:=v1.length;have:=q1.length;simp;lia
   have len2:its2.toArray.size=es.length:=by have:=v2.length;have:=q2.length;simp;lia
   show SeqAt.RcAt A s (.ref p) (.ref p2) (Dat.eqL ds es)
   have:=SeqAt.RcAt.tuples (A:=A) (s:=s) hl1 hl2 hu' (zH1 ok (by lia) (by rw[zE4];lia:A.in1.units+(n-1)<cLine) q1 q2 v1 v2)
   by_cases hs:ds.length=es.length
   ·rw[len1,len2,<- hs,qG6,beq_self_eq_true,qEm,Dat.eqL_all hs _ (fun j h1 h2=>by rw[qA0,qA0];simp[h1,h2])]at this;exact this
   ·rw[len1,len2,show(ds.length==es.length)=false by simpa using hs,qD0]at this;rw[Dat.eqL_len hs];exact this
theorem zOV(n:Nat){d e:Dat}{v u:V}{x y:Value}{A:Around}{s:Shared}(hd:d.dep<=n)(ok:HOk P w H s.heap)(h1:Rep H d v)(h2:Rep H e u)(r1:RelV v x)(r2:RelV u y)(hu:A.units+n<cLine):SeqAt.RcNeAt A s x y (!Dat.eq d e):=by
 have hu':A.units<cLine:=by lia
 cases d with
 |non=>
  cases h1;cases r1;cases e with
  |non=>
   cases h2;cases r2;exact SeqAt.RcNeAt.none_none
  |bl b=>
   cases h2;cases r2;exact SeqAt.RcNeAt.none_bool b
  |int b=>
   cases h2;obtain⟨t2,rfl⟩:=r2;exact SeqAt.RcNeAt.none_int b t2
  |str b=>
   cases h2;obtain⟨t2,rfl⟩:=r2;exact SeqAt.RcNeAt.none_str b t2
  |lst es=>
   obtain⟨p2,ys,rfl,hb,q2⟩:=h2;obtain⟨its2,v2,hl2⟩:=zAP ok hb;cases r2;exact SeqAt.RcNeAt.none_list hl2 hu'
  |tup es=>
   obtain⟨p2,ys,rfl,hb,q2⟩:=h2;obtain⟨its2,v2,hl2⟩:=zBD ok hb;cases r2;exact SeqAt.RcNeAt.none_tuple hl2 hu'
 |bl a=>
  cases h1;cases r1;cases e with
  |non=>
   cases h2;cases r2;exact SeqAt.RcNeAt.bool_none a
  |bl b=>
   cases h2;cases r2;exact SeqAt.RcNeAt.bool_bool a b
  |int b=>
   cases h2;obtain⟨t2,rfl⟩:=r2;exact SeqAt.RcNeAt.bool_int a b t2
  |str b=>
   cases h2;obtain⟨t2,rfl⟩:=r2;exact SeqAt.RcNeAt.bool_str a b t2
  |lst es=>
   obtain⟨p2,ys,rfl,hb,q2⟩:=h2;obtain⟨its2,v2,hl2⟩:=zAP ok hb;cases r2;exact SeqAt.RcNeAt.bool_list a hl2 hu'
  |tup es=>
   obtain⟨p2,ys,rfl,hb,q2⟩:=h2;obtain⟨its2,v2,hl2⟩:=zBD ok hb;cases r2;exact SeqAt.RcNeAt.bool_tuple a hl2 hu'
 |int a=>
  cases h1;obtain⟨t1,rfl⟩:=r1;cases e with
  |non=>
   cases h2;cases r2;exact SeqAt.RcNeAt.int_none a t1
  |bl b=>
   cases h2;cases r2;exact SeqAt.RcNeAt.int_bool a t1 b
  |int b=>
   cases h2;obtain⟨t2,rfl⟩:=r2;exact SeqAt.RcNeAt.int_int a t1 b t2
  |str b=>
   cases h2;obtain⟨t2,rfl⟩:=r2;exact SeqAt.RcNeAt.int_str a t1 b t2
  |lst es=>
   obtain⟨p2,ys,rfl,hb,q2⟩:=h2;obtain⟨its2,v2,hl2⟩:=zAP ok hb;cases r2;exact SeqAt.RcNeAt.int_list a t1 hl2 hu'
  |tup es=>
   obtain⟨p2,ys,rfl,hb,q2⟩:=h2;obtain⟨its2,v2,hl2⟩:=zBD ok hb;cases r2;exact SeqAt.RcNeAt.int_tuple a t1 hl2 hu'
 |str a=>
  cases h1;obtain⟨t1,rfl⟩:=r1;cases e with
  |non=>
   cases h2;cases r2;exact SeqAt.RcNeAt.str_none a t1
  |bl b=>
   cases h2;cases r2;exact SeqAt.RcNeAt.str_bool a t1 b
  |int b=>
   cases h2;obtain⟨t2,rfl⟩:=r2;exact SeqAt.RcNeAt.str_int a t1 b t2
  |str b=>
   cases h2;obtain⟨t2,rfl⟩:=r2;exact SeqAt.RcNeAt.str_str a t1 b t2
  |lst es=>
   obtain⟨p2,ys,rfl,hb,q2⟩:=h2;obtain⟨its2,v2,hl2⟩:=zAP ok hb;cases r2;exact SeqAt.RcNeAt.str_list a t1 hl2 hu'
  |tup es=>
   obtain⟨p2,ys,rfl,hb,q2⟩:=h2;obtain⟨its2,v2,hl2⟩:=zBD ok hb;cases r2;exact SeqAt.RcNeAt.str_tuple a t1 hl2 hu'
 |lst ds=>
  have hdl:Dat.depL ds+1<=n:=by rw[Dat.dep]at hd;exact hd
  obtain⟨p,xs,rfl,ha,q1⟩:=h1;obtain⟨its,v1,hl1⟩:=zAP ok ha;cases r1;cases e with
  |non=>
   cases h2;cases r2;exact SeqAt.RcNeAt.list_none hl1 hu'
  |bl b=>
   cases h2;cases r2;exact SeqAt.RcNeAt.list_bool b hl1 hu'
  |int b=>
   cases h2;obtain⟨t2,rfl⟩:=r2;exact SeqAt.RcNeAt.list_int b t2 hl1 hu'
  |str b=>
   cases h2;obtain⟨t2,rfl⟩:=r2;exact SeqAt.RcNeAt.list_str b t2 hl1 hu'
  |lst es=>
   obtain⟨p2,ys,rfl,hb,q2⟩:=h2;obtain⟨its2,v2,hl2⟩:=zAP ok hb;cases r2;have len1:its.toArray.size=ds.length:=by have:=v1.length;have:=q1.length;simp;lia
   have len2:its2.toArray.size=es.length:=by have:=v2.length;have:=q2.length;simp;lia
   show SeqAt.RcNeAt A s (.ref p) (.ref p2) (!Dat.eqL ds es)
   by_cases hs:ds.length=es.length
   ·have:=SeqAt.RcNeAt.lists (A:=A) (s:=s) hl1 hl2 (by rw[len1,len2,hs]) hu' (zH1 ok (by lia) (by rw[zE4];lia:A.in1.units+(n-1)<cLine) q1 q2 v1 v2)
    rw[len1,Dat.eqL_all hs _ (fun j h1 h2=>by rw[qA0,qA0];simp[h1,h2])]at this;exact this
   ·rw[Dat.eqL_len hs];exact SeqAt.RcNeAt.lists_lengths hl1 hl2 (by rw[len1,len2];simpa using hs) hu'
  |tup es=>
   obtain⟨p2,ys,rfl,hb,q2⟩:=h2;obtain⟨its2,v2,hl2⟩:=zBD ok hb;cases r2;exact SeqAt.RcNeAt.list_tuple hl1 hl2 hu'
 |tup ds=>
  have hdl:Dat.depL ds+1<=n:=by rw[Dat.dep]at hd;exact hd
  obtain⟨p,xs,rfl,ha,q1⟩:=h1;obtain⟨its,v1,hl1⟩:=zBD ok ha;cases r1;cases e with
  |non=>
   cases h2;cases r2;exact SeqAt.RcNeAt.tuple_none hl1 hu'
  |bl b=>
   cases h2;cases r2;exact SeqAt.RcNeAt.tuple_bool b hl1 hu'
  |int b=>
   cases h2;obtain⟨t2,rfl⟩:=r2;exact SeqAt.RcNeAt.tuple_int b t2 hl1 hu'
  |str b=>
   cases h2;obtain⟨t2,rfl⟩:=r2;exact SeqAt.RcNeAt.tuple_str b t2 hl1 hu'
  |lst es=>
   obtain⟨p2,ys,rfl,hb,q2⟩:=h2;obtain⟨its2,v2,hl2⟩:=zAP ok hb;cases r2;exact SeqAt.RcNeAt.tuple_list hl1 hl2 hu'
  |tup es=>
   obtain⟨p2,ys,rfl,hb,q2⟩:=h2;obtain⟨its2,v2,hl2⟩:=zBD ok hb;cases r2;have len1:its.toArray.size=ds.length:=by have:=v1.length;have:=q1.length;simp;lia
   have len2:its2.toArray.size=es.length:=by have:=v2.length;have:=q2.length;simp;lia
   show SeqAt.RcNeAt A s (.ref p) (.ref p2) (!Dat.eqL ds es)
   have:=SeqAt.RcNeAt.tuples (A:=A) (s:=s) hl1 hl2 hu' (zH1 ok (by lia) (by rw[zE4];lia:A.in1.units+(n-1)<cLine) q1 q2 v1 v2)
   by_cases hs:ds.length=es.length
   ·rw[len1,len2,<- hs,qG6,beq_self_eq_true,qEm,Dat.eqL_all hs _ (fun j h1 h2=>by rw[qA0,qA0];simp[h1,h2])]at this;exact this
   ·rw[len1,len2,show(ds.length==es.length)=false by simpa using hs,qD0]at this;rw[Dat.eqL_len hs];exact this
end
section
variable{X:Cx}
noncomputable def rEqD:R2:=fun x y H Q=>∃d e,Rep H d x/\Rep H e y/\d.dep<=40/\Q (.bl (Dat.eq d e)) H
noncomputable def rNeD:R2:=fun x y H Q=>∃d e,Rep H d x/\Rep H e y/\d.dep<=40/\Q (.bl (!Dat.eq d e)) H
theorem zZD(hu:X.A.units+64<cLine):OpR X (compareOp .Eq) rEqD:=by
 intro pins s σ H x y v u Q I rx ry h;obtain⟨d,e,h1,h2,hd,q⟩:=h;exact zT3 40 hd I.hok h1 h2 rx ry (by lia) _ _ _ _ ⟨.bl _,H,I,rfl,q⟩
theorem zZB(hu:X.A.units+64<cLine):OpR X (compareOp .NotEq) rNeD:=by
 intro pins s σ H x y v u Q I rx ry h;obtain⟨d,e,h1,h2,hd,q⟩:=h;exact zOV 40 hd I.hok h1 h2 rx ry (by lia) _ _ _ _ ⟨.bl _,H,I,rfl,q⟩
noncomputable def zJI(lo:Int)(n:Nat):List V:=(qA6 n).map fun i=>.int (lo+(i:Nat))
theorem zH6:∀{xs:List V}{its:List Value},xs.length=its.length->(∀(j:Nat)(x:V)(v:Value),xs[j]?=some x->its[j]?=some v->RelV x v)->Vals xs its
 |[],[],_,_=>.nil
 |[],_::_,h,_=>by simp at h
 |_::_,[],h,_=>by simp at h
 |x::xs,v::its,h,g=>.cons (g 0 x v rfl rfl) (zH6 (by simpa using h) fun j y u e1 e2=>g (j+1) y u (by simpa using e1) (by simpa using e2))
theorem zPO{lo:Int}{n:Nat}{its:List Value}(hl:its.length=n)(h:∀(j:Nat) (v:Value),its[j]?=some v->∃t,v=Value.int (lo+(j:Int)*1) t):Vals (zJI lo n) its:=by
 refine zH6 (by simp[zJI,hl]) fun j x v e1 e2=>?_
 unfold zJI at e1;rw[qAb]at e1;cases e:(qA6 n)[j]? with
 |none=>rw[e]at e1;cases e1
 |some i=>
  rw[e]at e1;cases e1;have hi:i=j:=by
   obtain⟨h1,h2⟩:=qA4.mp e;rw[qBc]at h2;exact h2.symm
  subst hi;obtain⟨t,ht⟩:=h i v e2;exact⟨t,by rw[ht,qHq]⟩
theorem zJY(hc:X.calm=true):zGT X (.type "list") (fun vs H Q=>∃p lo hi,vs=[.ref p]/\H p=some (.rng lo hi)/\(-(2 ^ 62)<=lo/\lo<2 ^ 62/\-(2 ^ 62)<=hi/\hi<2 ^ 62)/\hi-lo<=1000000/\∀l,H l=none->Q (.ref l) (upd H l (.lst (zJI lo (hi-lo).toNat)))):=by
 intro pins s σ H vs us Q I r h;obtain⟨p,lo,hi,rfl,hp,⟨b1,b2,b3,b4⟩,hz,q⟩:=h;obtain⟨u,rfl,rx⟩:=zFY r;cases rx;obtain⟨t,u,v,e⟩:=(show ObjOk X.prog X.w H s.heap p (.rng lo hi) from I.hok p _ hp)
 have hn:Builtin.Range.rangeSize lo hi 1=(((hi-lo).toNat:Nat):Int):=by rw[rangeSize_one];split<;>lia
 refine call_list_range (n:=(hi-lo).toNat) (I.ok.hd hc) e (small_one b1 b2 b3 b4) hn (by lia) fun h' tk acc' c' hk hS hacc=>?_
 have rv:Vals (zJI lo (hi-lo).toNat) acc'.toList:=zPO (by simpa using hacc.1) fun j v hj=>hacc.2 j v (by simpa using hj)
 refine⟨.ref _,_,I.laid (o:=.lst (zJI lo (hi-lo).toNat)) hk (qAa _) ⟨?_,acc'.toList,c',rv,by simpa using hS⟩,rfl,q _ I.fresh⟩;have hl:(zJI lo (hi-lo).toNat).length=(hi-lo).toNat:=by simp[zJI]
 rw[hl,sizeLine_eq]
 lia
end
end L2
namespace L2
open PySem PySem.Spec PyProof.Rows
section
variable{X:Cx}
def zYW:R2:=fun x y H Q=>match x,y with
 |.int i,.int j=>Q (.int (i+j)) H
 |.str i,.str j=>i.length+j.length<=sizeLine/\Q (.str (i++j)) H
 |.ref l,.ref b=>∃xs zs,H l=some (.lst xs)/\H b=some (.lst zs)/\xs.length+zs.length<=sizeLine/\∀p,H p=none->Q (.ref p) (upd H p (.lst (xs++zs)))
 |_,_=>False
theorem zCF:OpR X (binaryOp .Add) zYW:=by
 intro pins s σ H x y v u Q I rx ry h;cases x<;>cases y<;>first
  |exact zZF pins s σ H _ _ v u Q I rx ry ⟨_,_,rfl,rfl,h⟩
  |exact zOZ pins s σ H _ _ v u Q I rx ry ⟨_,_,rfl,rfl,h.1,h.2⟩
  |(obtain⟨xs,zs,h1,h2,h3,h4⟩:=h;exact zZE pins s σ H _ _ v u Q I rx ry ⟨_,_,xs,zs,rfl,rfl,h1,h2,h3,h4⟩)
  |exact qA7 h
noncomputable def rMulU:R2:=fun x y H Q=>match x,y with
 |.int i,.int j=>CMul i j/\Q (.int (i*j)) H
 |_,_=>False
noncomputable def zYO:R2:=fun x y H Q=>match x,y with
 |.int i,.int j=>Q (.int (i-j)) H
 |_,_=>False
theorem zSN:OpR X (binaryOp .Sub) zYO:=by
 intro pins s σ H x y v u Q I rx ry h;cases x<;>cases y<;>first
  |exact zZ8 pins s σ H _ _ v u Q I rx ry ⟨_,_,rfl,rfl,h⟩
  |exact qA7 h
noncomputable def zYU:R2:=fun x y H Q=>match x,y with
 |.int i,.int j=>0<j/\Q (.int (i%j)) H
 |_,_=>False
theorem zDT:OpR X (binaryOp .Mod) zYU:=by
 intro pins s σ H x y v u Q I rx ry h;cases x<;>cases y<;>first
  |exact zZC pins s σ H _ _ v u Q I rx ry ⟨_,_,rfl,rfl,h.1,h.2⟩
  |exact qA7 h
noncomputable def zYQ:R2:=fun x y H Q=>match x,y with
 |.int i,.int j=>CPow i j/\Q (.int (i ^ j.toNat)) H
 |_,_=>False
theorem zaT:OpR X (binaryOp .Pow) zYQ:=by
 intro pins s σ H x y v u Q I rx ry h;cases x<;>cases y<;>first
  |exact zZA pins s σ H _ _ v u Q I rx ry ⟨_,_,rfl,rfl,h.1,h.2⟩
  |exact qA7 h
def zYS:V->Hp->VK->Prop:=fun x H Q=>match x with
 |.int i=>Q (.int (-i)) H
 |_=>False
theorem zW1:UnR X (unaryOp .USub) zYS:=by
 intro pins s σ H x v Q I rx h;cases x<;>first
  |exact zY1 pins s σ H _ v Q I rx ⟨_,rfl,h⟩
  |exact qA7 h
noncomputable def zW9(p:Int->Int->Bool):R2:=fun x y H Q=>match x,y with
 |.int i,.int j=>Q (.bl (p i j)) H
 |_,_=>False
theorem u_lt:OpR X (compareOp .Lt) (zW9 fun i j=>decide (i<j)):=by
 intro pins s σ H x y v u Q I rx ry h;cases x<;>cases y<;>first
  |exact zb8 pins s σ H _ _ v u Q I rx ry ⟨_,_,rfl,rfl,h⟩
  |exact qA7 h
theorem u_gt:OpR X (compareOp .Gt) (zW9 fun i j=>decide (j<i)):=by
 intro pins s σ H x y v u Q I rx ry h;cases x<;>cases y<;>first
  |exact zb9 pins s σ H _ _ v u Q I rx ry ⟨_,_,rfl,rfl,h⟩
  |exact qA7 h
def rEqU:R2:=fun x y H Q=>match x,y with
 |.int i,.int j=>Q (.bl (decide (i=j))) H
 |.str i,.str j=>Q (.bl (decide (i=j))) H
 |.bl i,.bl j=>Q (.bl (decide (i=j))) H
 |x,y=>rEqD x y H Q
def rNeU:R2:=fun x y H Q=>match x,y with
 |.int i,.int j=>Q (.bl (!decide (i=j))) H
 |.str i,.str j=>Q (.bl (!decide (i=j))) H
 |.bl i,.bl j=>Q (.bl (!decide (i=j))) H
 |x,y=>rNeD x y H Q
theorem u_eq(hu:X.A.units+64<cLine):OpR X (compareOp .Eq) rEqU:=by
 intro pins s σ H x y v u Q I rx ry h;cases x<;>cases y<;>first
  |(refine zbA pins s σ H _ _ v u Q I rx ry ⟨rfl,?_⟩;have h':=h;simp only[rEqU]at h';simpa using h')
  |exact zZD hu pins s σ H _ _ v u Q I rx ry h
theorem u_ne(hu:X.A.units+64<cLine):OpR X (compareOp .NotEq) rNeU:=by
 intro pins s σ H x y v u Q I rx ry h;cases x<;>cases y<;>first
  |(refine zb7 pins s σ H _ _ v u Q I rx ry ⟨rfl,?_⟩;have h':=h;simp only[rNeU]at h';simpa using h')
  |exact zZB hu pins s σ H _ _ v u Q I rx ry h
def rIxU(K:qA2):R2:=fun x y H Q=>match x,y with
 |.str z,.int i=>∃c,z.length<=sizeLine/\atI z.cps.toList i=some c/\Q (.str ⟨#[c]⟩) H
 |.ref p,.int i=>∃xs v,(SqL K H p xs\/SqT K H p xs)/\atI xs i=some v/\Q v H
 |_,_=>False
theorem u_ix:IxR X (rIxU X.K):=by
 intro value slice pins s σ H x y v u Q I rx ry h hs;cases x<;>cases y<;>first
  |(obtain⟨c,h1,h2,h3⟩:=h;exact zZU value slice pins s σ H _ _ v u Q I rx ry ⟨_,_,c,rfl,rfl,h1,h2,h3⟩ hs)
  |(obtain⟨xs,w,h1|h1,h2,h3⟩:=h
    ·exact zX0 value slice pins s σ H _ _ v u Q I rx ry ⟨_,xs,_,w,rfl,rfl,h1,h2,h3⟩ hs
    ·exact zZT value slice pins s σ H _ _ v u Q I rx ry ⟨_,xs,_,w,rfl,rfl,h1,h2,h3⟩ hs)
  |exact qA7 h
def zW7(K:qA2):List V->Hp->VK->Prop:=fun vs H Q=>match vs with
 |[.str z]=>z.length<=sizeLine/\Q (.int z.length) H
 |[.ref p]=>∃xs,(SqL K H p xs\/SqT K H p xs)/\Q (.int xs.length) H
 |_=>False
theorem zbC:zGT X (.builtin "len") (zW7 X.K):=by
 intro pins s σ H vs us Q I r h;cases vs with
 |nil=>exact qA7 h
 |cons hd1 tl1=>
  cases hd1 with
  |str z=>
   cases tl1 with
   |nil=>
    exact zLN pins s σ H _ us Q I r ⟨z,rfl,h.1,h.2⟩
   |cons _ _=>exact qA7 h
  |ref p=>
   cases tl1 with
   |nil=>
    obtain⟨xs,h1,h2⟩:=h;exact zLO pins s σ H _ us Q I r ⟨p,xs,rfl,h1,h2⟩
   |cons _ _=>exact qA7 h
  |_=>exact qA7 h
def zNL(K:qA2):List V->Hp->VK->Prop:=fun vs H Q=>match vs with
 |[.ref p]=>(∃xs,(SqL K H p xs\/SqT K H p xs)/\∀l,H l=none->Q (.ref l) (upd H l (.lst xs))) \/
   ∃lo hi,H p=some (.rng lo hi)/\(-(2 ^ 62)<=lo/\lo<2 ^ 62/\-(2 ^ 62)<=hi/\hi<2 ^ 62)/\hi-lo<=1000000/\∀l,H l=none->Q (.ref l) (upd H l (.lst (zJI lo (hi-lo).toNat)))
 |_=>False
theorem zZP(hc:X.calm=true):zGT X (.type "list") (zNL X.K):=by
 intro pins s σ H vs us Q I r h;cases vs with
 |nil=>exact qA7 h
 |cons hd1 tl1=>
  cases hd1 with
  |ref p=>
   cases tl1 with
   |nil=>
    rcases h with⟨xs,h1,h2⟩|⟨lo,hi,h1,h2,h3,h4⟩
    ·exact zLM pins s σ H _ us Q I r ⟨p,xs,rfl,h1,h2⟩
    ·exact zJY hc pins s σ H _ us Q I r ⟨p,lo,hi,rfl,h1,h2,h3,h4⟩
   |cons _ _=>exact qA7 h
  |_=>exact qA7 h
end
noncomputable def zLK(N N':List Str)(k:Nat)(sc esc:Scope):Bool:=
 (sc.kind==.function)&&decide ((sc.names.map (·.1)).Nodup)&&(N'.length==N.length+k) &&
 ((qA6 N.length).all fun i=>match N'[i]? with
  |none=>true
  |some x=>(sc.names.lookup x==none)||(sc.names.any (fun p=>p.1==x&&p.2==.free)&&N[i]?==some x)) &&
 (sc.names.all fun p=>p.2 != .free||esc.names.lookup p.1==some .cell||esc.names.lookup p.1==some .free)
theorem cn{X:Cx}{sc:Scope}(N':List Str)(k:Nat)(h:zLK X.N N' k sc X.env.scope=true):CompNames X.N N' k sc X.env:=by
 unfold zLK at h;simp only[qBp,decide_eq_true_eq,beq_iff_eq]at h;obtain⟨⟨⟨⟨h1,h2⟩,h3⟩,h4⟩,h5⟩:=h;refine⟨h1,h2,h3,fun i x e hi=>?_,fun x hx=>?_⟩
 ·have q:=qEq.mp h4 i (qAt.mpr hi);rw[e]at q;simp only[qF3,qBp,beq_iff_eq,qEr]at q
  rcases q with q|⟨⟨p,hp,e1,e2⟩,e3⟩
  ·exact .inr q
  ·obtain⟨y,kk⟩:=p;dsimp only at e1 e2;subst e1;subst e2;exact .inl ⟨hp,e3⟩
 ·have q:=qEq.mp h5 _ hx;simp only[qF3,bne_iff_ne,ne_eq,not_true_eq_false,false_or,beq_iff_eq]at q;exact q
theorem PE.imp{X:Cx}{e:Expr}{t t':TE}(h:PE X e t)(i:∀σ H Q,t' σ H Q->t σ H Q):PE X e t':=fun pins s σ H Q I q=>h pins s σ H Q I (i σ H Q q)
noncomputable def vM(i:Nat):TE:=fun σ H Q=>match σ[i]? with
 |some (some v)=>Q v H
 |_=>False
theorem pn{X:Cx}(i:Nat){x:Str}{pos:Pos}(hN:X.N[i]?=some x:=by rfl)(hv:Vis X.env.scope x:=by first|exact qHn rfl|exact qHj (qHn rfl)|exact qHj (qHj rfl))(hd:(x==("__debug__":Str))=false:=by decide)
  (hcd:(x==("__classdict__":Str))=false:=by decide):PE X (.Name x pos) (vM i):=(zV0 hN hv hd hcd).imp fun σ H Q h=>by
 unfold vM at h;cases e:σ[i]? with
 |none=>rw[e]at h;exact qA7 h
 |some w=>
  rw[e]at h;cases w with
  |none=>exact qA7 h
  |some v=>exact⟨v,e,h⟩
section
variable{X:Cx}{a b c:Expr}{ta tb tc:TE}{tA tB:TT}{rest:List Expr}{pos:Pos}
theorem zDS{op:CmpOp}{r:R2}(ho:OpR X (compareOp op) r)(ha:PE X a ta)(hb:PE X b tb)(hm:behindInMarks op b=false):PT X (.Compare a [op] [b] pos) (fun σ H Q=>ta σ H fun x H1=>tb σ H1 fun y H2=>r x y H2 fun z H3=>match z with | .bl k=>Q k H3|_=>False):=by
 intro pins s σ H Q I h;refine wpAny_isTrue_Compare1 (thn (ha pins s σ H _ I h) fun v s1 ⟨x,H1,I1,r1,q1⟩=>thn (hb pins s1 σ H1 _ I1 q1) fun u s2 ⟨y,H2,I2,r2,q2⟩=>
  thn (ho pins s2 σ H2 x y v u _ I2 r1 r2 q2) fun d s3 ⟨z,H3,I3,r3,q3⟩=>?_) hm
 cases z with
 |bl k=>cases r3;exact wpAny_truthy_bool ⟨H3,I3,q3⟩
 |_=>exact qA7 q3
def setM:V->V->V->Hp->(Hp->Prop)->Prop:=fun o i v H Q=>match o,i with
 |.ref p,.int k=>∃xs j,H p=some (.lst xs)/\ixN xs.length k=some j/\Q (upd H p (.lst (xs.set j v)))
 |_,_=>False
theorem zPP:PSet X setM:=by
 intro pins s σ H o i v ov iv u Q I ro ri rv h;cases o<;>cases i<;>first
  |(obtain⟨xs,j,h1,h2,h3⟩:=h;exact zSW pins s σ H _ _ v ov iv u Q I ro ri rv ⟨_,xs,_,j,rfl,rfl,h1,h2,h3⟩)
  |exact qA7 h
def appM:V->List V->Hp->VK->Prop:=fun x vs H Q=>match x,vs with
 |.ref l,[y]=>∃xs,H l=some (.lst xs)/\xs.length<sizeLine/\Q .non (upd H l (.lst (xs++[y])))
 |_,_=>False
theorem zDE:MtR X "list.append" appM:=by
 intro pins s σ H x vs v us Q I rx rv h;cases x with
 |ref l=>
  cases vs with
  |nil=>exact qA7 h
  |cons y t=>
   cases t with
   |nil=>
    obtain⟨xs,h1,h2,h3⟩:=h;exact zR5 pins s σ H _ _ v us Q I rx rv ⟨l,xs,y,rfl,rfl,h1,h2,h3⟩
   |cons _ _=>exact qA7 h
 |_=>exact qA7 h
def popM:V->List V->Hp->VK->Prop:=fun x vs H Q=>match x,vs with
 |.ref l,[.int i]=>∃xs k y,H l=some (.lst xs)/\(-(2 ^ 63)<=i/\i<2 ^ 63)/\seqIndex? i xs.length=some k/\xs[k]?=some y/\Q y (upd H l (.lst (xs.eraseIdx k)))
 |.ref l,[]=>∃xs y,H l=some (.lst xs)/\xs[xs.length-1]?=some y/\Q y (upd H l (.lst xs.dropLast))
 |_,_=>False
theorem zR3:MtR X "list.pop" popM:=by
 intro pins s σ H x vs v us Q I rx rv h;cases x with
 |ref l=>
  cases vs with
  |nil=>
   obtain⟨xs,y,h1,h2,h3⟩:=h;exact zZJ pins s σ H _ _ v us Q I rx rv ⟨l,xs,y,rfl,rfl,h1,h2,h3⟩
  |cons y t=>
   cases y with
   |int i=>
    cases t with
    |nil=>
     obtain⟨xs,k,y,h1,h2,h3,h4,h5⟩:=h;exact zTL pins s σ H _ _ v us Q I rx rv ⟨l,xs,i,k,y,rfl,rfl,h1,h2.1,h2.2,h3,h4,h5⟩
    |cons _ _=>exact qA7 h
   |_=>exact qA7 h
 |_=>exact qA7 h
end
theorem pt_w{X:Cx}{e:Expr}{t:TT}(h:PW X e t):PT X e t:=h.pt
def Has(P:Program)(w:World)(K:qA2)(mg:Str->Option Value)(base:Heap)(x:Str)(k:Nat)(ps:List Str)(sp:Sp):Prop:=
 ∃f fd,FnOk P w K mg base CX0 k f fd ps sp/\mg x=some (.ref f)/\qB0 K (.ref f)=true/\Binds K fd ps []
def Def(K:qA2)(mg:Str->Option Value)(x:Str)(st:Stmt):Prop:=∃f fd,Fun K x x st f fd/\mg x=some (.ref f)
section
variable{X:Cx}{x:Str}{j k:Nat}{ps:List Str}{sp:Sp}{e:Expr}{es:List Expr}{t:TA}{p pos:Pos}
theorem zBJ(h:Has X.prog X.w X.K X.mg X.base x j ps sp)(hjk:j<=k)(hr:Room k X.A)(hg:Gl X x)(ha:PA X (e::es) t)(hdb:(x==("__debug__":Str))=false:=by decide)
  (he:starEach (e::es) X.env=(false,eval e X.env)::starEach es X.env:=by rfl) (hpl:(backTo pos (starEach es X.env)).any (·.1)=false:=by rfl):PE X (.Call (.Name x p) (e::es) [] pos) (zM0 sp [] E0 t):=by
 obtain⟨f,fd,G,m,kp,b⟩:=h;exact zQT G (hr.mono hjk) hg m kp b .nil zb6 ha hdb he hpl
end
section
variable{P:Program}{w:World}{K:qA2}{mg:Str->Option Value}{base:Heap}
theorem Def.ok{x:Str}{st:Stmt}{N ps:List Str}{k:Nat}{sp:Sp}(D:Def K mg x st)(S:FnScope N ps (zAB st))
  (hb:∀(kV doc pm:Value)(an:Option Addr)(cdv ct:Value)(us:List Value),us.length=ps.length->bindArgs (qBk x x (zCM st) (zBE st) (zAB st) .none kV doc pm an cdv ct) ⟨us,[]⟩=pure (ps.zip us))
  (len:∀vs H Q E,sp vs H Q E->vs.length=ps.length)
  (hbody:∀(f:Addr)(cdv:Value)(A:Around)(outer:List Env)(s:Shared)(H:Hp)(vs:List V)(Q:VK)(E:XK),Room k (A.deeper (envOfC x (zAB st) s.heap.objs.size f cdv))->sp vs H Q E ->
   ∃t,PSs (cxOf CX0 P w K mg base N x (zAB st) f cdv A outer s H E).nox (zBE st) t/\t { nx:=fun _ H'=>Q .non H',rt:=Q } (start N vs) H):Has P w K mg base x (k+1) ps sp:=by
 obtain⟨f,fd,F,m⟩:=D;exact⟨f,fd,F.ok S len (fun cdv A outer s H vs Q E hr h=>hbody f cdv A outer s H vs Q E hr h),m,F.kp,F.binds hb⟩
end
end L2
namespace L2
open PySem PySem.Spec PyProof.Rows
section
variable{X:Cx}{pins:List (Addr×Obj)}{σ:St}{H:Hp}{s:Shared}
theorem Inv.turnedNew{h':Heap}{t':Nat}{fp:List Addr}{a:Addr}{o:HO}(I:Inv X pins σ H s)(hf:∀b∈fp,FpOk X pins H b)(k:∀b u,b∉fp->s.heap.get? b=some u->h'.get? b=some u)
  (hp:s.heap.objs.size<=a) (new:ObjOk X.prog X.w (upd H a o) h' a o):Inv X pins σ (upd H a o) { s with heap:=h',toks:=t' }:=by
 have hn:H a=none:=I.hok.fresh hp;have ne:∀b u,s.heap.get? b=some u->b≠a:=fun b u e=>qAr (qAf (Heap.lt_size e) hp)
 have nfp:∀b u,H b=some u->b∉fp:=fun b u e z=>by rw[(hf b z).1]at e;cases e
 refine I.step (g':=s.gens) (d':=s.drawn) (ch:=fp) (fun b hb=>⟨(hf b hb).2.2.2.1,(hf b hb).2.1,(hf b hb).2.2.2.2.1,(hf b hb).2.2.2.2.2⟩) (fun b u _ _ hc e _=>k b u hc e) (fun b u _ _ hc e _=>⟨u.slots,k b u hc e⟩)
  (fun b u _ e n=>by rw[zAJ (ne b u e)];exact n) (fun b u hc e=>⟨u,k b u hc e⟩) (fun b xs e=>by rw[zAJ (zAO e hn)];exact e) (fun b u xs e=>by rw[zAJ (zAO e hn)];exact e)
  (fun b ps e=>⟨#[],by rw[zAJ (zAO e hn),e];simp⟩) (fun m hm=>?_) (fun b u e=>?_) I.bare
 ·obtain⟨u,es,ep,ho,r⟩:=hm;exact⟨u,es,ep,k _ u (fun z=>(hf _ z).2.1 rfl) ho,r⟩
 ·by_cases hb:b=a
  ·subst hb;rw[zAI]at e;cases e;exact new
  ·rw[zAJ hb]at e;refine(I.hok b u e).stay (fun c v hc q=>k c v ?_ q) (fun c q=>by rw[zAJ (zAO q hn)];exact q) fun c xs q=>by rw[zAJ (zAO q hn)];exact q
   rcases hc with z|z
   ·rw[z];exact nfp b u e
   ·exact nfp c _ z
theorem Inv.turnedL{h':Heap}{t':Nat}{fp:List Addr}(I:Inv X pins σ H s)(hf:∀b∈fp,FpOk X pins H b)(k:∀b u,b∉fp->s.heap.get? b=some u->h'.get? b=some u):Inv X pins σ H { s with heap:=h',toks:=t' }:=by
 have nfp:∀b u,H b=some u->b∉fp:=fun b u e z=>by rw[(hf b z).1]at e;cases e
 refine I.step (g':=s.gens) (d':=s.drawn) (ch:=fp) (fun b hb=>⟨(hf b hb).2.2.2.1,(hf b hb).2.1,(hf b hb).2.2.2.2.1,(hf b hb).2.2.2.2.2⟩) (fun b u _ _ hc e _=>k b u hc e) (fun b u _ _ hc e _=>⟨u.slots,k b u hc e⟩)
  (fun b u _ e n=>n) (fun b u hc e=>⟨u,k b u hc e⟩) (fun b xs e=>e) (fun b u xs e=>e)
  (fun b ps e=>⟨#[],by rw[e];simp⟩) (fun m hm=>?_) (fun b u e=>?_) I.bare
 ·obtain⟨u,es,ep,ho,r⟩:=hm;exact⟨u,es,ep,k _ u (fun z=>(hf _ z).2.1 rfl) ho,r⟩
 ·refine(I.hok b u e).stay (fun c v hc q=>k c v ?_ q) (fun c q=>q) fun c xs q=>q
  rcases hc with z|z
  ·rw[z];exact nfp b u e
  ·exact nfp c _ z
def Ite(K:qA2)(a:Addr):It:=
 ⟨fun i H=>∃xs x,SqL K H a xs/\xs[i]?=some x,fun i H x H'=>∃T y,x=.ref T/\H T=none/\H'=upd H T (.tup [.int i,y])/\∀xs,SqL K H a xs->xs[i]?=some y,fun i H=>∃xs,SqL K H a xs/\xs.length<=i⟩
theorem zK6{P:Program}{w:World}{K:qA2}{ts:List Expr}{kk:Nat}{tp:Pos}(a e it:Addr)(hei:e≠it) :
  Turn P w K (.Tuple ts kk tp) (Ite K a) [e,it] e (fun i h=>(∃old,IsEnum h e it i old)/\h.IsListIter it a i) where
 mem:=by simp
 obj:=fun i h st b hb=>by
  rcases qAk.mp hb with z|z
  ·subst z;obtain⟨⟨old,he⟩,_⟩:=st;exact⟨_,he,fun v z=>by cases z⟩
  ·have z':b=it:=by simpa using z
   subst z';obtain⟨_,o,e,c,d⟩:=st;exact⟨o,e,fun v z=>by rw[d]at z;cases z⟩
 keep:=fun i h h' st k=>⟨by obtain⟨⟨old,he⟩,_⟩:=st;exact⟨old,k e (by simp) _ he⟩,st.2.at fun o x=>k it (by simp) o x⟩
 item:=by
  intro X hP hw hK hc i pins s σ H E I hf st hg;subst hP hw hK;obtain⟨xs,x,hq,hx⟩:=hg;obtain⟨its,rv,p,hz⟩:=I.list hq;obtain⟨u,hu,ru⟩:=rv.get hx;obtain⟨⟨old,he⟩,hit⟩:=st;refine wpAny_pyNext_enum_item he hit p.isList (x:=u) (by simpa using hu) hei fun h' ho hit' hT hsz hk=>?_
  refine⟨_,rfl,wpAny_letOwnedTupleGo_enum ho fun h'' he'' hs''=>?_⟩;have hTe:s.heap.objs.size≠e:=qC0 (Heap.lt_size he);have hTi:s.heap.objs.size≠it:=by obtain⟨o,ho',_⟩:=hit;exact qC0 (Heap.lt_size ho')
  have kk:∀b u,b∉[e,it]->s.heap.get? b=some u->h''.get? b=some u:=fun b u hb q=>by
   have b1:b≠e:=fun z=>hb (by simp[z])
   have b2:b≠it:=fun z=>hb (by simp[z])
   exact(hs''.2 b b1).trans (hk b u b1 b2 q)
  have hT'':=(hs''.2 _ hTe).trans hT;refine⟨.ref s.heap.objs.size,_,I.turnedNew (t':=s.toks+1) (o:=.tup [.int i,x]) hf kk (qAa _) ⟨by show 2<=sizeLine;decide,[.int i s.toks,u],.cons ⟨_,rfl⟩ (.cons ru .nil),⟨_,hT'',rfl,_,rfl⟩⟩,rfl,
   ⟨_,x,rfl,I.fresh,rfl,fun ys hy=>by rw[I.list_inj hy hq];exact hx⟩,⟨⟨_,by simpa using he''⟩,hit'.at fun o x=>(hs''.2 it hei.symm).trans x⟩,fun b hb=>?_⟩
  have hbs:b<s.heap.objs.size:=by
   rcases qAk.mp hb with z|z
   ·rw[z];exact Heap.lt_size he
   ·have z':b=it:=by simpa using z
    rw[z'];obtain⟨o,ho',_⟩:=hit;exact Heap.lt_size ho'
  rw[zAJ (qAr hbs)];exact(hf b hb).1
 done:=by
  intro X hP hw hK hc i pins s σ H E I hf st hg;subst hP hw hK;obtain⟨xs,hq,hx⟩:=hg;obtain⟨its,rv,p,hz⟩:=I.list hq;have hl:=rv.length;obtain⟨⟨old,he⟩,hit⟩:=st;exact wpAny_pyNext_enum_end (I.ok.hd hc) he hit p.isList (by simp;lia) fun h' eb=>⟨rfl,I.turnedL (t':=s.toks) hf fun b u hb q=>eb b u (fun z=>hb (by simp[z])) q⟩
 self:=fun _ _ _ _ _ st h=>by obtain⟨⟨old,he⟩,_⟩:=st;exact wpAny_pyIter_enum he h
def zX7(K:qA2)(tl:TA):TI:=fun σ H R=>tl σ H fun vs H1=>match vs with
 |[.ref a]=>(∃xs,SqL K H1 a xs)/\R (Ite K a) H1
 |_=>False
theorem zWE{ts:List Expr}{kk:Nat}{tp p pos:Pos}{a:Expr}{ta:TA}(hg:Gl X "enumerate")(hm:X.mg "enumerate" = none)(ha:PA X [a] ta)(hs:starEach [a] X.env=[(false,eval a X.env)]:=by rfl) :
  PI X (.Tuple ts kk tp) (.Call (.Name "enumerate" p) [a] [] pos) (zX7 X.K ta):=by
 intro pins s σ H R I h;refine Call_ (zHV I hg hm boot_enumerate (qBf (thn (ha pos pins s σ H _ I h) fun us s1 z0=>?_) hs rfl));obtain⟨vs,H1,I1,r1,q1⟩:=z0;cases vs with
 |nil=>exact qA7 q1
 |cons hd1 tl1=>
  cases hd1 with
  |ref l=>
   cases tl1 with
   |nil=>
    obtain⟨⟨xs,hq⟩,q⟩:=q1;obtain⟨u,rfl,rx⟩:=zFY r1;cases rx;obtain⟨its,rv,pl,hz⟩:=I1.list hq;refine call_enumerate_list pl.isList fun h' he hit hsz hk=>?_
    refine wpAny_pyIter_enum he ?_;have hne:s1.heap.objs.size+1≠s1.heap.objs.size:=by lia
    refine⟨s1.heap.objs.size+1,[s1.heap.objs.size+1,s1.heap.objs.size],_,_,H1,rfl,I1.kept (t':=s1.toks) hk,zK6 l _ _ hne,⟨⟨_,he⟩,hit⟩,fun b hb=>?_,q⟩;have hb':s1.heap.objs.size<=b:=by
     rcases qAk.mp hb with z|z
     ·rw[z];exact qBy _
     ·have z':b=s1.heap.objs.size:=by simpa using z
      rw[z'];exact qAa _
    exact I1.fpOk hb' (I1.hok.fresh hb')
   |cons _ _=>exact qA7 q1
  |_=>exact qA7 q1
end
section
variable{X:Cx}{K:qA2}
theorem zC3(hK:X.K=K:=by rfl):zGT X (.builtin "len") (zW7 K):=hK▸zbC
theorem zMF(hc:X.calm=true)(hK:X.K=K:=by rfl):zGT X (.type "list") (zNL K):=hK▸zZP hc
theorem zB2(hK:X.K=K:=by rfl):IxR X (rIxU K):=hK▸u_ix
theorem zT8{ts:List Expr}{kk:Nat}{tp p pos:Pos}{a:Expr}{ta:TA}(hg:Gl X "enumerate")(hm:X.mg "enumerate" = none)(ha:PA X [a] ta)(hs:starEach [a] X.env=[(false,eval a X.env)]:=by rfl)(hK:X.K=K:=by rfl) :
  PI X (.Tuple ts kk tp) (.Call (.Name "enumerate" p) [a] [] pos) (zX7 K ta):=hK▸zWE hg hm ha hs
theorem zHM{es:List Expr}{k:Nat}{t:TGs}{n:Nat}{pos:Pos}(hc:X.calm=true)(h:PGs X es t)
  (hn:(assignEach es X.env).length=n:=by rfl) (hst:(assignEach es X.env).findIdx? (·.1)=none:=by rfl) (hK:X.K=K:=by rfl):PG X (.Tuple es k pos) (gTup K n t):=hK▸zZ2 hc h hn hst
noncomputable def tML(r:V->List V->Hp->VK->Prop)(to:TE)(t:TA):TE:=fun σ H Q=>to σ H fun x H1=>match x with
 |.ref p=>∃xs,H1 p=some (.lst xs)/\t σ H1 fun vs H2=>r x vs H2 Q
 |_=>False
variable{o e:Expr}{es:List Expr}{to:TE}{t:TA}{name:Str}{apos cpos:Pos}{T id:String}{r:V->List V->Hp->VK->Prop}
theorem zG5(pa:PlainAttrs "list")(slot:Slot "list" name id)(hty:typeOf (.builtin id)=pure (.type "method_descriptor"))(hm:MtR X id r)(ho:PE X o to)(ha:PA X (e::es) t)
  (hbase:attributeBase o name X.env (eval o X.env)=eval o X.env:=by rfl)
  (hfew:((backTo cpos (starEach (e::es) X.env)).all (fun x=>!x.1)&&(backToKw cpos (keywordEach [] X.env)).all (fun x=>x.1.isSome)
   && decide ((e::es).length+([]:List Keyword).length+(if([]:List Keyword).isEmpty then 0 else 1)<30))=true:=by rfl)
  (hline:(apos.endLine==cpos.line)=true:=by rfl) (hs:starEach (e::es) X.env=(false,eval e X.env)::starEach es X.env:=by rfl) (hplain:(backTo cpos (starEach es X.env)).any (·.1)=false:=by rfl) :
  PE X (.Call (.Attribute o name apos) (e::es) [] cpos) (tML r to t):=by
 intro pins s σ H Q I h;refine wpAny_Call_method_late hbase hfew hline rfl (thn (ho pins s σ H _ I h) fun v s1 z0=>?_);obtain⟨x,H1,I1,r1,q1⟩:=z0;cases x with
 |ref p=>?_
 |_=>exact qA7 q1
 obtain⟨xs,hx,q1⟩:=q1;obtain⟨h1,h2⟩:=zUN (T:="list") I1 r1 (.inl ⟨rfl,xs,SqL.of hx⟩);refine⟨"list",id,pa,slot,hty,h1,h2,?_⟩;have hA:=ha cpos pins s1 σ H1 _ I1 q1;rw[hs]at hA ⊢;refine Calls.callWith_builtin (by show(false||(backTo cpos (starEach es X.env)).any (·.1))=false;rw[hplain]<;>rfl) (Calls.evalArgs_plain ?_);exact thn hA fun us s2 ⟨vs,H2,I2,r2,q2⟩=>hm pins s2 σ H2 (.ref p) vs v us Q I2 r1 r2 q2
end
end L2
namespace L2
open PySem PySem.Spec PyProof.Rows
theorem same_new{H:Hp}{p:Addr}(h:H p=none)(o:HO):Same H (upd H p o):=fun b u q=>by rw[zAJ (zAO q h)];exact q
theorem Same.upd{H H':Hp}{p:Addr}(s:Same H H')(h:H p=none)(o:HO):Same H (upd H' p o):=fun b u q=>by rw[zAJ (zAO q h)];exact s b u q
theorem zCZ{H:Hp}:∀(ns:List Int),RepL H (ns.map Dat.int) (ns.map V.int)
 |[]=>rfl
 |n::r=>⟨.int n,r.map V.int,rfl,rfl,zCZ r⟩
theorem zI5:∀(ns:List Int),Dat.depL (ns.map Dat.int)=0
 |[]=>rfl
 |n::r=>by
  rw[qAn,Dat.depL,zI5 r];rfl
theorem zH2:∀(ns ms:List Int),Dat.eqL (ns.map Dat.int) (ms.map Dat.int)=decide (ns=ms)
 |[],[]=>by simp[Dat.eqL]
 |[],_::_=>by simp[Dat.eqL]
 |_::_,[]=>by simp[Dat.eqL]
 |n::r,m::q=>by
  rw[qAn,qAn,Dat.eqL,zH2 r q,Dat.eq]
  by_cases h:n=m
  ·subst h;simp
  ·simp[h]
theorem zN8{ns:List Int}{i:Nat}{x:Int}:(ns.map V.int).set i (.int x)=(ns.set i x).map V.int:=by
 rw[qE9]
theorem big{n:Nat}(h:n<=100000):n<sizeLine:=by rw[sizeLine_eq];lia
theorem zLA:∀{ns:List Int}{vs:List Value},Vals (ns.map V.int) vs->IntsAre vs ns
 |[],_,.nil=>.nil
 |n::r,_,.cons h t=>by
  obtain⟨tk,rfl⟩:=h;exact .cons n tk (zLA t)
section
variable{X:Cx}
def rInU(K:qA2)(neg:Bool):R2:=fun x y H Q=>match y with
 |.ref p=>∃xs,(SqL K H p xs\/SqT K H p xs)/\zGD x=true/\xs.all zGD=true/\Q (.bl (if neg then !inV x xs else inV x xs)) H
 |.str j=>match x with
  |.str i=>Q (.bl (if neg then !(!(Builtin.Str.occurrences j i 0 j.length 1).isEmpty)else !(Builtin.Str.occurrences j i 0 j.length 1).isEmpty)) H
  |_=>False
 |_=>False
theorem zPQ{K:qA2}(hK:X.K=K:=by rfl):OpR X (compareOp .NotIn) (rInU K true):=by
 subst hK;intro pins s σ H x y v u Q I rx ry h;cases y with
 |ref p=>
  obtain⟨xs,h1,h2,h3,h4⟩:=h;exact zKP pins s σ H _ _ v u Q I rx ry ⟨p,xs,rfl,h1,h2,h3,h4⟩
 |str j=>
  cases x with
  |str i=>exact zKO pins s σ H _ _ v u Q I rx ry ⟨i,j,rfl,rfl,h⟩
  |_=>exact qA7 h
 |_=>exact qA7 h
end
end L2
namespace Mi
open PySem
noncomputable section
inductive Sv where
 |i (n:Int)|s (x:Str)
inductive Sw where
 |non|bl (b:Bool)|int (i:Int)|str (x:Str)
inductive Dt where
 |non|bl (b:Bool)|int (i:Int)|str (x:Str)|lst (xs:List Dt)|tup (xs:List Dt)|scr (ns:List Int)|exc (c f:Str) (d:Dt)|ins (c:Str) (fs:List (Str×Sv))|dct (kvs:List (Sum Int Str×Sw))
mutual
def Dt.dep:Dt->Nat
 |.lst xs=>Dt.depL xs+1
 |.tup xs=>Dt.depL xs+1
 |.scr _=>1000
 |.exc _ _ _=>1000
 |.ins _ _=>1000
 |.dct _=>1000
 |_=>0
def Dt.depL:List Dt->Nat
 |[]=>0
 |x::r=>max x.dep (Dt.depL r)
end
mutual
def Dt.eq:Dt->Dt->Bool
 |.non,.non=>true
 |.bl a,.bl b=>a==b
 |.bl a,.int b=>(if a then 1 else 0)==b
 |.int a,.bl b=>a==(if b then 1 else 0)
 |.int a,.int b=>a==b
 |.str a,.str b=>a==b
 |.lst xs,.lst ys=>Dt.eqL xs ys
 |.tup xs,.tup ys=>Dt.eqL xs ys
 |_,_=>false
def Dt.eqL:List Dt->List Dt->Bool
 |[],[]=>true
 |x::r,y::q=>Dt.eq x y&&Dt.eqL r q
 |_,_=>false
end
structure Xn where
 cls:Str
 f:Str
 d:Dt
abbrev R(α:Type):=Option (Except Xn α)
noncomputable def okR{α:Type}(a:α):R α:=some (.ok a)
noncomputable def zA4{α β:Type}(x:R α)(f:α->R β):R β:=match x with
 |none=>none
 |some (.error e)=>some (.error e)
 |some (.ok a)=>f a
def optR{α:Type}(o:Option α):R α:=match o with
 |none=>none
 |some a=>okR a
@[simp] theorem zA0{α β:Type}(a:α)(f:α->R β):zA4 (okR a) f=f a:=rfl
@[simp] theorem zAD{α β:Type}(f:α->R β):zA4 none f=none:=rfl
@[simp] theorem zAH{α β:Type}(e:Xn)(f:α->R β):zA4 (some (.error e)) f=some (.error e):=rfl
@[simp] theorem zA8{α:Type}(a:α):optR (some a)=okR a:=rfl
@[simp] theorem zAF{α:Type}:optR (none:Option α)=none:=rfl
abbrev Rh:=List (Option Dt)
abbrev Sl:=Dt×Nat
abbrev Ro:=List (Option Sl)
abbrev EM:=Rh->R Dt
abbrev TM:=Rh->R Bool
abbrev AM:=Rh->R (List Dt)
abbrev FM:=List Dt->R Dt
noncomputable def ixA(n:Nat)(i:Int):Option Nat:=if 0<=i then(if i<n then some i.toNat else none)else if -(n:Int)<=i then some (i+n).toNat else none
def itA{α:Type}(xs:List α)(i:Int):Option α:=(ixA xs.length i).bind fun j=>xs[j]?
noncomputable def addD:Dt->Dt->Option Dt
 |.int i,.int j=>some (.int (i+j))
 |.str i,.str j=>@ite _ (i.length+j.length<=100000) (qA3 _) (some (.str (i++j))) none
 |.lst xs,.lst ys=>@ite _ (xs.length+ys.length<=100000) (qA3 _) (some (.lst (xs++ys))) none
 |_,_=>none
noncomputable def subD:Dt->Dt->Option Dt
 |.int i,.int j=>some (.int (i-j))
 |_,_=>none
noncomputable def mulD:Dt->Dt->Option Dt
 |.int i,.int j=>@ite _ (((-18446744073709551616<i/\i<18446744073709551616)\/(-18446744073709551616<j/\j<18446744073709551616))\/i.natAbs.log2+j.natAbs.log2<=67108864) (qA3 _) (some (.int (i*j))) none
 |_,_=>none
noncomputable def divD:Dt->Dt->Option Dt
 |.int i,.int j=>@ite _ (0<j/\j<1000000000000000000000000) (qA3 _) (some (.int (i/j))) none
 |_,_=>none
noncomputable def modD:Dt->Dt->Option Dt
 |.int i,.int j=>if 0<j then some (.int (i%j))else none
 |_,_=>none
noncomputable def powD:Dt->Dt->Option Dt
 |.int i,.int j=>@ite _ (0<=j/\j<=1000000/\i.natAbs<18446744073709551616) (qA3 _) (some (.int (i ^ j.toNat))) none
 |_,_=>none
noncomputable def negD:Dt->Option Dt
 |.int i=>some (.int (-i))
 |_=>none
noncomputable def cmpD(p:Int->Int->Bool):Dt->Dt->Option Dt
 |.int i,.int j=>some (.bl (p i j))
 |_,_=>none
noncomputable def eqD(x y:Dt):Option Dt:=if x.dep<=40/\y.dep<=40 then some (.bl (Dt.eq x y))else none
noncomputable def neD(x y:Dt):Option Dt:=if x.dep<=40/\y.dep<=40 then some (.bl (!Dt.eq x y))else none
noncomputable def zEV:Dt->Bool
 |.non=>true
 |_=>false
def isD(x y:Dt):Option Dt:=match y with
 |.non=>some (.bl (zEV x))
 |_=>none
noncomputable def zbF(x y:Dt):Option Dt:=match y with
 |.non=>some (.bl (!zEV x))
 |_=>none
def ixD:Dt->Dt->Option Dt
 |.lst xs,.int i=>itA xs i
 |.tup xs,.int i=>itA xs i
 |.scr ns,.int i=>(itA ns i).map .int
 |.str z,.int i=>@ite _ (z.length<=100000) (qA3 _) ((itA z.cps.toList i).map fun c=>.str ⟨#[c]⟩) none
 |_,_=>none
noncomputable def lenD:List Dt->Option Dt
 |[.lst xs]=>some (.int xs.length)
 |[.tup xs]=>some (.int xs.length)
 |[.scr ns]=>some (.int ns.length)
 |[.str z]=>@ite _ (z.length<=100000) (qA3 _) (some (.int z.length)) none
 |_=>none
noncomputable def listD:List Dt->Option Dt
 |[.lst xs]=>some (.lst xs)
 |[.tup xs]=>some (.lst xs)
 |[.scr ns]=>some (.lst (ns.map .int))
 |_=>none
noncomputable def nums(lo:Int)(n:Nat):List Dt:=(qA6 n).map fun i:Nat=>.int (lo+(i:Int))
noncomputable def tyD:Dt->String
 |.non=>"NoneType"
 |.bl _=>"bool"
 |.int _=>"int"
 |.str _=>"str"
 |.lst _=>"list"
 |.tup _=>"tuple"
 |.scr _=>""
 |.exc _ _ _=>""
 |.ins _ _=>""
 |.dct _=>""
def isiD(n:String)(x:Dt):Option Dt:=if tyD x = "" then none else some (.bl (tyD x==n||(tyD x == "bool" && n == "int")))
noncomputable def zVS:List Dt->Option (List Bool)
 |[]=>some []
 |.bl b::r=>(zVS r).map (b::·)
 |_::_=>none
def allD:List Dt->Option Dt
 |[.lst xs]=>(zVS xs).map fun bs=>.bl (bs.all id)
 |_=>none
noncomputable def intD:List Dt->Option Dt
 |[.int i]=>some (.int i)
 |[.bl k]=>some (.int (if k=true then 1 else 0))
 |_=>none
noncomputable def maxD:List Dt->Option Dt
 |[.int i,.int j]=>some (.int (if j>i then j else i))
 |_=>none
noncomputable def absD:List Dt->Option Dt
 |[.int i]=>some (.int (if i<0 then -i else i))
 |_=>none
noncomputable def hasD(x:Dt)(ys:List Dt):Option Bool:=if x.dep=0/\Dt.depL ys=0 then some (ys.any fun y=>Dt.eq y x)else none
def inD(ng:Bool)(x y:Dt):Option Dt:=match y with
 |.lst ys=>(hasD x ys).map fun b=>.bl (if ng=true then !b else b)
 |.tup ys=>(hasD x ys).map fun b=>.bl (if ng=true then !b else b)
 |.str z=>match x with
  |.str y=>match y.cps.toList with
   |[c]=>some (.bl (if ng=true then !decide (c∈z.cps.toList)else decide (c∈z.cps.toList)))
   |_=>none
  |_=>none
 |_=>none
noncomputable def cutIx(n d:Nat):Option Int->Nat
 |none=>d
 |some v=>if v<0 then(v+(n:Int)).toNat else min v.toNat n
def cutA{α:Type}(xs:List α)(lo hi:Option Int):List α:=(xs.drop (cutIx xs.length 0 lo)).take (cutIx xs.length xs.length hi-cutIx xs.length 0 lo)
def slD:Dt->Option Int->Option Int->Option Dt
 |.lst xs,lo,hi=>some (.lst (cutA xs lo hi))
 |.str z,lo,hi=>@ite _ (z.length<=100000) (qA3 _) (some (.str ⟨(cutA z.cps.toList lo hi).toArray⟩)) none
 |_,_,_=>none
abbrev OM:=Rh->R (Option Int)
def oNo:OM:=fun _=>okR none
def oE(e:Rh->R Dt):OM:=fun ρ=>zA4 (e ρ) fun d=>match d with
 |.int i=>okR (some i)
 |_=>none
def eSl(a:Rh->R Dt)(lo hi:OM):Rh->R Dt:=fun ρ=>zA4 (a ρ) fun x=>zA4 (lo ρ) fun l=>zA4 (hi ρ) fun h=>optR (slD x l h)
noncomputable def posC(c:Nat):List Nat->Option Nat
 |[]=>none
 |x::r=>if x=c then some 0 else(posC c r).map (·+1)
def findD(x:Dt)(ys:List Dt):Option Dt:=match x,ys with
 |.str z,[.str y]=>match y.cps.toList with
  |[c]=>some (.int (match posC c z.cps.toList with|some i=>(i:Int)|none=>-1))
  |_=>none
 |_,_=>none
noncomputable def zaD(x:Dt)(ys:List Dt):Option Dt:=match x,ys with
 |.str z,[.str y]=>match y.cps.toList with
  |[c]=>some (.int (z.cps.toList.count c:Nat))
  |_=>none
 |_,_=>none
noncomputable def strsD:List Dt->Option (List Str)
 |[]=>some []
 |.str z::r=>(strsD r).map (z::·)
 |_::_=>none
def joinD(x:Dt)(ys:List Dt):Option Dt:=match x,ys with
 |.str z,[.lst ds]=>match strsD ds with
  |some zs=>@ite _ ((zs.map (·.length)).sum+zs.length*z.length<=100000) (qA3 _) (some (.str (Str.join z zs))) none
  |none=>none
 |_,_=>none
noncomputable def zO2:Dt->Bool
 |.str _=>true
 |_=>false
def eMt(f:Dt->List Dt->Option Dt)(a:Rh->R Dt)(am:Rh->R (List Dt)):Rh->R Dt:=fun ρ=>zA4 (a ρ) fun x=>if zO2 x=true then zA4 (am ρ) fun xs=>optR (f x xs)else none
noncomputable def signsD(z:Str):List Dt:=z.cps.toList.map fun c=>.str ⟨#[c]⟩
def eC(d:Dt):EM:=fun _=>okR d
def eV(i:Nat):EM:=fun ρ=>match ρ[i]? with
 |some (some d)=>okR d
 |_=>none
def eB(f:Dt->Dt->Option Dt)(a b:EM):EM:=fun ρ=>zA4 (a ρ) fun x=>zA4 (b ρ) fun y=>optR (f x y)
def eU(f:Dt->Option Dt)(a:EM):EM:=fun ρ=>zA4 (a ρ) fun x=>optR (f x)
def eAnd(a b:EM):EM:=fun ρ=>zA4 (a ρ) fun x=>match x with
 |.bl k=>if k=true then b ρ else okR (.bl false)
 |_=>none
def eOr(a b:EM):EM:=fun ρ=>zA4 (a ρ) fun x=>match x with
 |.bl k=>if k=true then okR (.bl true)else b ρ
 |_=>none
def eNot(a:EM):EM:=fun ρ=>zA4 (a ρ) fun x=>match x with
 |.bl k=>okR (.bl (!k))
 |_=>none
def za4(p q:Dt->Dt->Option Dt)(a b c:EM):EM:=fun ρ=>zA4 (a ρ) fun x=>zA4 (b ρ) fun y=>zA4 (optR (p x y)) fun z=>match z with
 |.bl k=>if k=true then zA4 (c ρ) fun w=>optR (q y w)else okR (.bl false)
 |_=>none
def eIf(c:TM)(a b:EM):EM:=fun ρ=>zA4 (c ρ) fun k=>if k=true then a ρ else b ρ
def aNil:AM:=fun _=>okR []
def aCons(e:EM)(r:AM):AM:=fun ρ=>zA4 (e ρ) fun x=>zA4 (r ρ) fun xs=>okR (x::xs)
def eLst(a:AM):EM:=fun ρ=>zA4 (a ρ) fun xs=>@ite _ (xs.length<=100000) (qA3 _) (okR (.lst xs)) none
def eTup(a:AM):EM:=fun ρ=>zA4 (a ρ) fun xs=>@ite _ (xs.length<=100000) (qA3 _) (okR (.tup xs)) none
def eCall(f:FM)(a:AM):EM:=fun ρ=>zA4 (a ρ) f
def eBi(f:List Dt->Option Dt)(a:AM):EM:=fun ρ=>zA4 (a ρ) fun xs=>optR (f xs)
def eIsi(n:String)(a:EM):EM:=fun ρ=>zA4 (a ρ) fun x=>optR (isiD n x)
def tB(a:EM):TM:=fun ρ=>zA4 (a ρ) fun x=>match x with
 |.bl k=>okR k
 |_=>none
def tM(a:EM):TM:=fun ρ=>zA4 (a ρ) fun x=>match x with
 |.bl k=>okR k
 |.int i=>okR (i != 0)
 |.non=>okR false
 |_=>none
def tAn(a b:TM):TM:=fun ρ=>zA4 (a ρ) fun k=>if k=true then b ρ else okR false
def tOr(a b:TM):TM:=fun ρ=>zA4 (a ρ) fun k=>if k=true then okR true else b ρ
def tNo(a:TM):TM:=fun ρ=>zA4 (a ρ) fun k=>okR (!k)
def tYes:TM:=fun _=>okR true
abbrev IM:=Rh->R (List Dt)
def iSq(e:EM):IM:=fun ρ=>zA4 (e ρ) fun d=>match d with
 |.lst xs=>okR xs
 |.tup xs=>okR xs
 |.scr ns=>okR (ns.map .int)
 |.str z=>okR (signsD z)
 |_=>none
def iR1(e:AM):IM:=fun ρ=>zA4 (e ρ) fun vs=>match vs with
 |[.int j]=>@ite _ (-4611686018427387904<=j/\j<4611686018427387904) (qA3 _) (okR (nums 0 j.toNat)) none
 |_=>none
def iR2(e:AM):IM:=fun ρ=>zA4 (e ρ) fun vs=>match vs with
 |[.int i,.int j]=>@ite _ (-4611686018427387904<=i/\i<4611686018427387904/\-4611686018427387904<=j/\j<4611686018427387904) (qA3 _) (okR (nums i (j-i).toNat)) none
 |_=>none
noncomputable def enumD(n:Nat):List Dt->List Dt
 |[]=>[]
 |x::r=>.tup [.int n,x]::enumD (n+1) r
def iEn(e:AM):IM:=fun ρ=>zA4 (e ρ) fun vs=>match vs with
 |[.lst xs]=>okR (enumD 0 xs)
 |_=>none
noncomputable def zipD:List Dt->List Dt->List Dt
 |x::r,y::q=>.tup [x,y]::zipD r q
 |_,_=>[]
def iZi(e:AM):IM:=fun ρ=>zA4 (e ρ) fun vs=>match vs with
 |[.lst xs,.lst ys]=>okR (zipD xs ys)
 |_=>none
inductive Tg where
 |one (i:Nat)
 |tup (is:List Nat)
noncomputable def zAS:Tg->Dt->Option (List (Nat×Dt))
 |.one i,d=>some [(i,d)]
 |.tup is,.tup ds=>if ds.length=is.length then some (is.zip ds)else none
 |.tup _,_=>none
noncomputable def Tg.idx:Tg->List Nat
 |.one i=>[i]
 |.tup is=>is
noncomputable def zAT:Rh->List (Nat×Dt)->Rh
 |ρ,[]=>ρ
 |ρ,(i,d)::r=>zAT (ρ.set i (some d)) r
noncomputable def zAY:Ro->List (Nat×Dt)->Ro
 |ρ,[]=>ρ
 |ρ,(i,d)::r=>zAY (ρ.set i (some (d,0))) r
def compGo(ρ:Rh)(k:Nat)(tg:Tg)(c:TM)(e:EM):List Dt->List Dt->R (List Dt)
 |[],acc=>okR acc
 |d::ds,acc=>match zAS tg d with
  |none=>none
  |some bs=>zA4 (c (zAT (ρ++qA5 k none) bs)) fun b=>if b=true then zA4 (e (zAT (ρ++qA5 k none) bs)) fun x=>compGo ρ k tg c e ds (acc++[x])else compGo ρ k tg c e ds acc
def eComp(it:IM)(k:Nat)(tg:Tg)(c:TM)(e:EM):EM:=fun ρ=>zA4 (it ρ) fun ds=>@ite _ (ds.length<=100000/\(tg.idx.all fun i=>decide (ρ.length<=i))=true) (qA3 _) (zA4 (compGo ρ k tg c e ds []) fun es=>okR (.lst es)) none
inductive Out where
 |nx (ρ:Ro)|rt (d:Dt)|bk (ρ:Ro)|ct (ρ:Ro)
abbrev SM:=Ro->R Out
noncomputable def full(ρ:Ro):Rh:=ρ.map fun o=>o.map qHs
noncomputable def frz(ρ:Ro):Rh:=ρ.map fun o=>match o with
 |some (d,n)=>if n=0\/d.dep=0 then some d else none
 |none=>none
noncomputable def frz1(i:Nat)(ρ:Ro):Ro:=match ρ[i]? with
 |some (some (d,_))=>ρ.set i (some (d,0))
 |_=>ρ
def frzAt:List Nat->Ro->Ro
 |[],ρ=>ρ
 |i::r,ρ=>frzAt r (frz1 i ρ)
def sNil:SM:=fun ρ=>okR (.nx ρ)
def sSeq(a b:SM):SM:=fun ρ=>zA4 (a ρ) fun o=>match o with
 |.nx ρ'=>b ρ'
 |o=>okR o
noncomputable def zYA:SM:=fun _=>none
def sBreak:SM:=fun ρ=>okR (.bk ρ)
def zaZ:SM:=fun ρ=>okR (.ct ρ)
def sIf(c:TM)(a b:SM):SM:=fun ρ=>zA4 (c (full ρ)) fun k=>if k=true then a ρ else b ρ
def sDrop(e:EM):SM:=fun ρ=>zA4 (e (full ρ)) fun _=>okR (.nx ρ)
def sSet(i n:Nat)(vs:List Nat)(e:EM):SM:=fun ρ=>zA4 (e (full ρ)) fun d=>
 if d.dep<=n then okR (.nx (ρ.set i (some (d,n))))else zA4 (e (frz (frzAt vs ρ))) fun d'=>okR (.nx ((frzAt vs ρ).set i (some (d',n))))
def sUnp(is:List Nat)(vs:List Nat)(e:EM):SM:=fun ρ=>zA4 (e (frz (frzAt vs ρ))) fun d=>match zAS (.tup is) d with
 |none=>none
 |some bs=>okR (.nx (zAY (frzAt vs ρ) bs))
def sRet(L n:Nat)(vs:List Nat)(e:EM):SM:=fun ρ=>zA4 (e (full ρ)) fun d=>
 if d.dep<=n/\d.dep<=L then okR (.rt d)else if n=L then zA4 (e (frz (frzAt vs ρ))) fun d'=>okR (.rt d')else none
def zaY:SM:=fun _=>okR (.rt .non)
def sRetV(L i:Nat):SM:=fun ρ=>match ρ[i]? with
 |some (some (d,k))=>if k=L\/L=0\/(d.dep<=k/\d.dep<=L/\k<1000)then okR (.rt d)else none
 |_=>none
def sApp(i n:Nat)(e:EM):SM:=fun ρ=>match ρ[i]? with
 |some (some (.lst ds,k+1))=>zA4 (e (full ρ)) fun d=>@ite _ (ds.length<=100000/\d.dep<=n/\d.dep<=k) (qA3 _) (okR (.nx (ρ.set i (some (.lst (ds++[d]),k+1))))) none
 |_=>none
def sPop(j i:Nat)(e:EM):SM:=fun ρ=>match ρ[i]? with
 |some (some (.lst ds,k+1))=>zA4 (e (full ρ)) fun d=>match d with
  |.int z=>match ixA ds.length z with
   |some q=>match ds[q]? with
    |some c=>@ite _ (i≠j/\ds.length<=1000000) (qA3 _) (okR (.nx ((ρ.set i (some (.lst (ds.eraseIdx q),k+1))).set j (some (c,k))))) none
    |none=>none
   |none=>none
  |_=>none
 |_=>none
def sAppPop(j i:Nat)(e:EM):SM:=fun ρ=>match ρ[j]?,ρ[i]? with
 |some (some (.lst es,l+1)),some (some (.lst ds,k+1))=>zA4 (e (full ρ)) fun d=>match d with
  |.int z=>match ixA ds.length z with
   |some q=>match ds[q]? with
    |some c=>@ite _ (i≠j/\ds.length<=1000000/\es.length<=100000/\(k=l\/(c.dep<=k/\c.dep<=l/\k<1000))) (qA3 _) (okR (.nx ((ρ.set i (some (.lst (ds.eraseIdx q),k+1))).set j (some (.lst (es++[c]),l+1))))) none
    |none=>none
   |none=>none
  |_=>none
 |_,_=>none
def sItem(i n:Nat)(e1 e2:EM):SM:=fun ρ=>zA4 (e2 (full ρ)) fun d=>match ρ[i]? with
 |some (some (.lst ds,k+1))=>zA4 (e1 (full ρ)) fun z=>match z with
  |.int z=>match ixA ds.length z with
   |some q=>if d.dep<=n/\d.dep<=k then okR (.nx (ρ.set i (some (.lst (ds.set q d),k+1))))else none
   |none=>none
  |_=>none
 |_=>none
def forGo(tg:Tg)(b:SM):List Dt->SM
 |[],ρ=>okR (.nx ρ)
 |d::ds,ρ=>match zAS tg d with
  |none=>none
  |some bs=>zA4 (b (zAY ρ bs)) fun o=>match o with
   |.nx ρ'=>forGo tg b ds ρ'
   |.ct ρ'=>forGo tg b ds ρ'
   |.bk ρ'=>okR (.nx ρ')
   |.rt d=>okR (.rt d)
def sFor(vs:List Nat)(it:IM)(tg:Tg)(b:SM):SM:=fun ρ=>zA4 (it (frz (frzAt vs ρ))) fun ds=>forGo tg b ds (frzAt vs ρ)
def sForR(it:IM)(i:Nat)(b:SM):SM:=fun ρ=>zA4 (it (full ρ)) fun ds=>forGo (.one i) b ds ρ
def whGo(c:TM)(b:SM):Nat->SM
 |0,_=>none
 |m+1,ρ=>zA4 (c (full ρ)) fun k=>if k=true then zA4 (b ρ) fun o=>match o with
   |.nx ρ'=>whGo c b m ρ'
   |.ct ρ'=>whGo c b m ρ'
   |.bk ρ'=>okR (.nx ρ')
   |.rt d=>okR (.rt d)
  else okR (.nx ρ)
noncomputable def WNs:{ n:Nat // n=1000000 }:=Classical.choice ⟨⟨1000000,rfl⟩⟩
noncomputable def WN:Nat:=WNs.val
theorem zbQ:WN=1000000:=WNs.property
def sWhile(c:TM)(b:SM):SM:=fun ρ=>whGo c b WN ρ
noncomputable def startO(n:Nat)(ds:List Dt):Ro:=ds.map (fun d=>some (d,0))++qA5 (n-ds.length) none
def endF:Out->R Dt
 |.nx _=>okR .non
 |.rt d=>okR d
 |_=>none
def runF(P n:Nat)(b:SM):FM:=fun ds=>if ds.length=P then zA4 (b (startO n ds)) endF else none
end
end Mi
namespace L2
open PySem PySem.Spec PyProof.Rows
theorem zVQ(n d:Nat)(o:Option Int)(hd:d<=n):HT.sIx n d o<=n:=by
 cases o with
 |none=>exact hd
 |some v=>
  show(if v<0 then(v+(n:Int)).toNat else min v.toNat n)<=n
  split<;>lia
theorem zP6(lo hi:Option Int)(n:Nat):Builtin.Str.strSliceIndices lo hi 1 n=(qA6 (HT.sIx n n hi-HT.sIx n 0 lo)).map fun k=>HT.sIx n 0 lo+k:=by
 unfold Builtin.Str.strSliceIndices sliceRange;have c1:∀(o:Option Int)(d:Nat),(match o with|none=>(d:Int)|some i=>(if(1:Int)>0 then max 0 (min (if i<0 then i+(n:Int)else i) n)else max (-1) (min (if i<0 then i+(n:Int)else i) (n-1))))=((HT.sIx n d o:Nat):Int):=by
  intro o d;cases o with
  |none=>rfl
  |some v=>
   show _=(((if v<0 then(v+(n:Int)).toNat else min v.toNat n:Nat)):Int)
   dsimp only;rw[if_pos (by decide)]
   split<;>lia
 dsimp only;rw[if_pos (show(1:Int)>0 by decide),if_pos (show(1:Int)>0 by decide),if_pos (show(1:Int)>0 by decide)];have e1:=c1 lo 0;have e2:=c1 hi n;rw[show((0:Nat):Int)=0 by rfl]at e1;have h1:∀a b:Int,a=((HT.sIx n 0 lo:Nat):Int)->b=((HT.sIx n n hi:Nat):Int)->(qA6 ((if a<b then(b-a+1-1)/1 else 0).toNat)).map (fun k:Nat=>(a+1*(k:Int)).toNat)=(qA6 (HT.sIx n n hi-HT.sIx n 0 lo)).map fun k=>HT.sIx n 0 lo+k:=by
  intro a b ha hb;subst ha hb;have e:(if((HT.sIx n 0 lo:Nat):Int)<((HT.sIx n n hi:Nat):Int)then(((HT.sIx n n hi:Nat):Int)-((HT.sIx n 0 lo:Nat):Int)+1-1)/1 else 0).toNat=HT.sIx n n hi-HT.sIx n 0 lo:=by
   split
   ·rw[Int.ediv_one];lia
   ·lia
  rw[e];refine qB8 fun k _=>?_
  lia
 exact h1 _ _ e1 e2
theorem zQN:∀(xs:List Nat)(a k:Nat),a+k<=xs.length->((qA6 k).map fun j=>a+j).filterMap (xs[·]?)=(xs.drop a).take k:=by
 intro xs a k h
 induction k with
 |zero=>simp
 |succ k ih=>
  rw[qBu,qBg,List.filterMap_append,ih (by lia),qFy]
  congr 1
  have:a+k<xs.length:=by lia
  simp[List.getElem?_drop,this]
theorem zSV(z:Str)(lo hi:Option Int):Txt.slice z lo hi=⟨(Mi.cutA z.cps.toList lo hi).toArray⟩:=by
 obtain⟨⟨xs⟩⟩:=z;have hl:(⟨⟨xs⟩⟩:Str).length=xs.length:=rfl;unfold Txt.slice;rw[zP6,hl];have e0:∀o d,Mi.cutIx xs.length d o=HT.sIx xs.length d o:=fun o d=>by cases o<;>rfl
 have hb:=zVQ xs.length xs.length hi (qAa _);have ha:=zVQ xs.length 0 lo (qAc _);have hc:Mi.cutA xs lo hi=(xs.drop (HT.sIx xs.length 0 lo)).take (HT.sIx xs.length xs.length hi-HT.sIx xs.length 0 lo):=by
  unfold Mi.cutA;rw[e0,e0]
 show _=(⟨(Mi.cutA xs lo hi).toArray⟩:Str)
 rw[hc]
 split
 ·rename_i h
  have h':HT.sIx xs.length xs.length hi-HT.sIx xs.length 0 lo=xs.length:=by simpa using h
  have a0:HT.sIx xs.length 0 lo=0:=by lia
  rw[h',a0,qDm,qD1]
 ·by_cases hle:HT.sIx xs.length 0 lo<=HT.sIx xs.length xs.length hi
  ·have:=zQN xs (HT.sIx xs.length 0 lo) (HT.sIx xs.length xs.length hi-HT.sIx xs.length 0 lo) (by lia)
   rw[<- this];simp
  ·rw[show HT.sIx xs.length xs.length hi-HT.sIx xs.length 0 lo=0 by lia];simp
section
variable{X:Cx}
def rSlU(K:qA2):V->Option Int->Option Int->Hp->VK->Prop:=fun x lo hi H Q=>match x with
 |.str z=>z.length<=sizeLine/\Q (.str ⟨(Mi.cutA z.cps.toList lo hi).toArray⟩) H
 |.ref a=>∃xs,SqL K H a xs/\∀p,H p=none->Q (.ref p) (upd H p (.lst (cutV xs lo hi)))
 |_=>False
theorem zQU{v:Value}{o:Option Int}(h:IsPart v o):∃l:Option (Int×Tok),v=partValue l/\l.map (·.1)=o:=by
 cases h with
 |none=>exact⟨none,rfl,rfl⟩
 |int i t=>exact⟨some (i,t),rfl,rfl⟩
theorem u_sl{K:qA2}(hK:X.K=K:=by rfl):SlR X (rSlU K):=by
 subst hK;intro pins s σ H x v vl vu lo hi sl Q I rx hs pl pu h;cases x with
 |ref a=>
  obtain⟨xs,h1,h2⟩:=h;exact zW6 pins s σ H _ v vl vu lo hi sl Q I rx hs pl pu ⟨a,xs,rfl,h1,h2⟩
 |str z=>
  obtain⟨hz,q⟩:=h;obtain⟨t,rfl⟩:=rx;obtain⟨l,rfl,el⟩:=zQU pl;obtain⟨u,rfl,eu⟩:=zQU pu;obtain⟨o,g1,g2,g3⟩:=hs;refine⟨"str",_,F.slot_str_getitem.lookup,typeIs_str _ _ _,wpAny_getItem_str_slice (l:=l) (u:=u) (st:=none) ⟨o,g1,g2,g3⟩ rfl ?_⟩;have hp:(if((1:Int)==1&&(Builtin.Str.strSliceIndices lo hi 1 z.length).length==z.length)=true then Made.val (.str z t)else Made.str ⟨((Builtin.Str.strSliceIndices lo hi 1 z.length).filterMap (z.cps[·]?)).toArray⟩).post (EP X pins σ Q) s:=by
   refine post_val_or_str ⟨qAo (Txt.slice_le z lo hi) hz,fun t' k=>?_⟩;refine⟨.str (Txt.slice z lo hi),H,I.tok _,⟨_,rfl⟩,?_⟩;rw[zSV];exact q
  unfold sliceMade slicePicked;rw[el,eu];exact hp
 |_=>exact qA7 h
end
noncomputable def Its(z:Str):It:=⟨fun i _=>i<z.cps.size,fun i H x H'=>H'=H/\∃c,z.cps[i]?=some c/\x=.str ⟨#[c]⟩,fun i _=>z.cps.size<=i⟩
theorem zSQ{P:Program}{w:World}{K:qA2}{tg:Expr}(z:Str)(t:Tok)(it:Addr)(ty:String)(hty:ty=strIterType z):Turn P w K tg (Its z) [it] it (fun i h=>h.IsStrIter it ty z t i) where
 mem:=by simp
 obj:=fun i h st b hb=>by
  have e:b=it:=by simpa using hb
  subst e;obtain⟨o,e,c,d⟩:=st;exact⟨o,e,fun v z=>by rw[d]at z;cases z⟩
 keep:=fun i h h' st k=>by obtain⟨o,ho,r⟩:=st;exact⟨o,k it (by simp) o ho,r⟩
 item:=by
  intro X hP hw hK hc i pins s σ H E I hf st hg;subst hP hw hK;have hi:i<z.cps.size:=hg;have hx:z.cps[i]?=some z.cps[i]:=qEc hi;obtain⟨f0,f1,f2,f3,f4,f5⟩:=hf it (by simp);have fin:∀h',h'.IsStrIter it ty z t (i+1)->Heap.SameBut it s.heap h'->∃u,some (Value.str ⟨#[z.cps[i]]⟩ s.toks)=some u/\wpAny (model X.prog X.w) X.A (letOwnedTupleGo tg (.ref it) u) (fun _ s2=>∃x H',Inv X pins σ H' s2/\RelV x u/\(Its z).yld i H x H'/\s2.heap.IsStrIter it ty z t (i+1)/\∀b∈[it],H' b=none) E { s with heap:=h',toks:=s.toks+1 }:=by
   intro h' st' sb;have I1:Inv X pins σ H { s with heap:=h',toks:=s.toks+1 }:=I.turned (t':=s.toks+1) (fun b o hb e=>(sb.2 b hb).trans e) f0 f1 f3 f4 f5;obtain⟨o,e,c,d⟩:=id st';refine⟨_,rfl,zRI (s:={ s with heap:=h',toks:=s.toks+1 }) e c d ?_ ⟨.str ⟨#[z.cps[i]]⟩,H,I1,⟨_,rfl⟩,⟨rfl,_,hx,rfl⟩,st',fun b hb=>(hf b hb).1⟩⟩;rw[hty];unfold strIterType;split<;>decide
  cases ha:z.cps.all (· < 128)
  ·have e:ty = "str_iterator":=by rw[hty];unfold strIterType;rw[ha];rfl
   subst e;exact wpAny_pyNext_wide_item st hx fun h' a b=>fin h' a b
  ·have e:ty = "str_ascii_iterator":=by rw[hty];unfold strIterType;rw[ha];rfl
   subst e;exact wpAny_pyNext_ascii_item st hx fun h' a b=>fin h' a b
 done:=by
  intro X hP hw hK hc i pins s σ H E I hf st hg;subst hP hw hK;have hx:z.cps[i]?=none:=Array.getElem?_eq_none hg;obtain⟨f0,f1,f2,f3,f4,f5⟩:=hf it (by simp);have fin:∀h',Heap.ExtBut it s.heap h'->(none:Option Value)=none/\Inv X pins σ H { s with heap:=h' }:=fun h' eb=>⟨rfl,I.turned (t':=s.toks) (fun b o hb e=>eb b o hb e) f0 f1 f3 f4 f5⟩
  cases ha:z.cps.all (· < 128)
  ·have e:ty = "str_iterator":=by rw[hty];unfold strIterType;rw[ha];rfl
   subst e;exact wpAny_pyNext_wide_end (I.ok.hd hc) st hx fun h' a=>fin h' a
  ·have e:ty = "str_ascii_iterator":=by rw[hty];unfold strIterType;rw[ha];rfl
   subst e;exact wpAny_pyNext_ascii_end (I.ok.hd hc) st hx fun h' a=>fin h' a
 self:=fun A i s Q E st h=>by
  cases ha:z.cps.all (· < 128)
  ·have e:ty = "str_iterator":=by rw[hty];unfold strIterType;rw[ha];rfl
   subst e;exact wpAny_pyIter_striter_wide st h
  ·have e:ty = "str_ascii_iterator":=by rw[hty];unfold strIterType;rw[ha];rfl
   subst e;exact wpAny_pyIter_striter_ascii st h
section
variable{X:Cx}
def iAny(K:qA2)(tl:TE):TI:=fun σ H R=>tl σ H fun x H1=>match x with
 |.ref a=>(∃xs,SqL K H1 a xs)/\R (Itl K a) H1\/(∃xs,SqT K H1 a xs)/\R (Itt K a) H1
 |.str z=>R (Its z) H1
 |_=>False
theorem zFB{K:qA2}{tg l:Expr}{tl:TE}(hl:PE X l tl)(hK:X.K=K:=by rfl):PI X tg l (iAny K tl):=by
 subst hK;intro pins s σ H R I h;refine thn (hl pins s σ H _ I h) fun v s1 z0=>?_
 obtain⟨x,H1,I1,r1,q1⟩:=z0;cases x with
 |ref a=>
  cases r1
  rcases q1 with⟨⟨xs,hq⟩,q⟩|⟨⟨xs,hq⟩,q⟩
  ·obtain⟨its,rv,p,hz⟩:=I1.list hq;refine wpAny_pyIter_list p.isList ?_;refine⟨s1.heap.objs.size,[s1.heap.objs.size],_,_,H1,rfl,I1.kept (t':=s1.toks) fun b o e=>Heap.get?_push_of_some _ e,zPR a _,⟨_,Heap.get?_push_size _ rfl,rfl,rfl⟩,fun b hb=>?_,q⟩;have e:b=s1.heap.objs.size:=by simpa using hb
   subst e;exact I1.fpOk (qAa _) (I1.hok.fresh (qAa _))
  ·obtain⟨its,rv,p,hz⟩:=I1.tuple hq;refine wpAny_pyIter_tuple (show s1.heap.IsTuple a its.toArray from p) ?_;refine⟨s1.heap.objs.size,[s1.heap.objs.size],_,_,H1,rfl,I1.kept (t':=s1.toks) fun b o e=>Heap.get?_push_of_some _ e,zOM a _,⟨_,Heap.get?_push_size _ rfl,rfl,rfl⟩,fun b hb=>?_,q⟩;have e:b=s1.heap.objs.size:=by simpa using hb
   subst e;exact I1.fpOk (qAa _) (I1.hok.fresh (qAa _))
 |str z=>
  obtain⟨t,rfl⟩:=r1;refine wpAny_pyIter_strU ?_;refine⟨s1.heap.objs.size,[s1.heap.objs.size],_,_,H1,rfl,I1.kept (t':=s1.toks) fun b o e=>Heap.get?_push_of_some _ e,zSQ z t _ _ rfl,⟨_,Heap.get?_push_size _ rfl,rfl,rfl⟩,fun b hb=>?_,q1⟩;have e:b=s1.heap.objs.size:=by simpa using hb
  subst e;exact I1.fpOk (qAa _) (I1.hok.fresh (qAa _))
 |_=>exact qA7 q1
def za3:V->List V->Hp->VK->Prop:=fun x vs H Q=>match x,vs with
 |.str z,[.str y]=>Q (.int (Txt.find z y)) H
 |_,_=>False
theorem zFG:MtR X "str.find" za3:=by
 intro pins s σ H x vs v us Q I rx rv h;cases x with
 |str z=>
  cases vs with
  |nil=>exact qA7 h
  |cons y t=>
   cases y with
   |str y=>
    cases t with
    |nil=>
     obtain⟨t,rfl⟩:=rx;obtain⟨u,rfl,ru⟩:=zFY rv;obtain⟨t2,rfl⟩:=ru;exact SC.find ⟨.int _,H,I.tok _,⟨_,rfl⟩,h⟩
    |cons _ _=>exact qA7 h
   |_=>exact qA7 h
 |_=>exact qA7 h
theorem zH9:∀{ys:List Str}{us:List Value},Vals (ys.map V.str) us->StrsAre us ys
 |[],_,.nil=>.nil
 |y::ys,_,.cons r t=>by obtain⟨k,rfl⟩:=r;exact .cons y k (zH9 t)
def zZQ:V->List V->Hp->VK->Prop:=fun x vs H Q=>match x,vs with
 |.str z,[.ref a]=>∃ys:List Str,H a=some (.lst (ys.map V.str))/\(ys.map (·.length)).sum+ys.length*z.length<=16777216/\Q (.str (Str.join z ys)) H
 |_,_=>False
theorem zGX:MtR X "str.join" zZQ:=by
 intro pins s σ H x vs v us Q I rx rv h;cases x with
 |str z=>
  cases vs with
  |nil=>exact qA7 h
  |cons hd1 tl1=>
   cases hd1 with
   |ref a=>
    cases tl1 with
    |nil=>
     obtain⟨t,rfl⟩:=rx;obtain⟨u,rfl,ru⟩:=zFY rv;cases ru;obtain⟨ys,h1,h2,h3⟩:=h;obtain⟨its,rv,hl⟩:=zAP I.hok h1;exact join_list hl (by simpa using zH9 rv) h2 fun t' k=>⟨.str (Str.join z ys),H,I.tok _,⟨t',by rw[eq_of_beq (join_closes (ys:=ys) (rfl:z=z))]⟩,h3⟩
    |cons _ _=>exact qA7 h
   |_=>exact qA7 h
 |_=>exact qA7 h
end
theorem zM1(z:Str)(c i:Nat):(i+1<=z.length/\Builtin.Str.subAt z ⟨#[c]⟩ i=true)↔z.cps.toList[i]?=some c:=by
 obtain⟨⟨xs⟩⟩:=z;unfold Builtin.Str.subAt
 show(i+1<=xs.length/\((⟨xs⟩:Array Nat).extract i (i+1)==#[c])=true)↔xs[i]?=some c
 constructor
 ·rintro⟨h1,h2⟩
  have h3:=congrArg qG4 (eq_of_beq h2);simp at h3;have hlt:i<xs.length:=by lia
  rw[qA1 hlt];have h4:(qHz 1 (List.drop i xs))=[c]:=by
   have:=h3
   simpa[qEd]using this
  rw[qB4 hlt,qFk]at h4;exact congrArg some (List.cons.inj h4).1
 ·intro h;have hlt:i<xs.length:=(qA4.mp h).1;have he:xs[i]=c:=(qA4.mp h).2;refine⟨by lia,?_⟩
  have:(⟨xs⟩:Array Nat).extract i (i+1)=#[c]:=by
   apply Array.toList_inj.mp
   simp[qEd];rw[qB4 hlt];simp[he]
  rw[this];simp
theorem zJ8(c:Nat):∀(xs:List Nat),(Mi.posC c xs=none/\∀i:Nat,xs[i]?≠some c)\/∃i:Nat,Mi.posC c xs=some i/\xs[i]?=some c/\∀j:Nat,j<i->xs[j]?≠some c
 |[]=>.inl ⟨rfl,fun i=>by simp⟩
 |x::r=>by
  rw[Mi.posC]
  by_cases h:x=c
  ·rw[if_pos h];exact .inr ⟨0,rfl,by simp[h],fun j hj=>by lia⟩
  ·rw[if_neg h]
   rcases zJ8 c r with⟨h1,h2⟩|⟨i,h1,h2,h3⟩
   ·rw[h1];refine .inl ⟨rfl,fun i=>?_⟩;cases i with
    |zero=>simpa using h
    |succ i=>simpa using h2 i
   ·rw[h1];refine .inr ⟨i+1,rfl,by simpa using h2,fun j hj=>?_⟩;cases j with
    |zero=>simpa using h
    |succ j=>simpa using h3 j (by lia)
theorem zKT(z y:Str)(hi:Nat):∀(l:List Nat)(free:Nat),(∀i∈l,free<=i)->l.Pairwise (· < ·) ->
  ((forIn l ((#[]:Array Nat),free) (StrLaws.occBody z y hi 1)).run.fst.toList=[]/\∀i∈l,¬(i+y.length<=hi/\Builtin.Str.subAt z y i=true)) \/
  ∃i,i∈l/\(forIn l ((#[]:Array Nat),free) (StrLaws.occBody z y hi 1)).run.fst.toList=[i]/\(i+y.length<=hi/\Builtin.Str.subAt z y i=true)/\∀j∈l,j<i->¬(j+y.length<=hi/\Builtin.Str.subAt z y j=true)
 |[],free,_,_=>.inl ⟨by simp,fun i h=>by simp at h⟩
 |a::l,free,hf,hp=>by
  rw[qF2];unfold StrLaws.occBody;have ha:free<=a:=hf a qBj;have hp':=List.pairwise_cons.mp hp
  by_cases hc:a+y.length<=hi/\Builtin.Str.subAt z y a=true
  ·have c1:(((#[]:Array Nat),free).fst.size<1/\((#[]:Array Nat),free).snd<=a)/\a+y.length<=hi:=⟨⟨by simp,ha⟩,hc.1⟩
   rw[if_pos ⟨c1,hc.2⟩];refine .inr ⟨a,qBj,?_,hc,fun j hj hlt=>?_⟩
   ·have stay:∀(l:List Nat)(st:Array Nat×Nat),st.fst.size=1->(forIn l st (StrLaws.occBody z y hi 1)).run.fst=st.fst:=by
     intro l
     induction l with
     |nil=>intro st _;rfl
     |cons b l ih=>
      intro st hs;rw[qF2];unfold StrLaws.occBody;rw[if_neg (by rw[hs];intro h;lia)];exact ih (st.fst,st.snd) hs
    have:=stay l (#[a],a+y.length) rfl
    show(forIn l (#[a],a+y.length) (StrLaws.occBody z y hi 1)).run.fst.toList=[a]
    rw[this]
   ·rcases qAk.mp hj with rfl|hm
    ·lia
    ·have:=hp'.1 j hm;lia
  ·have c2:¬(((((#[]:Array Nat),free).fst.size<1/\((#[]:Array Nat),free).snd<=a)/\a+y.length<=hi)/\Builtin.Str.subAt z y a=true):=fun h=>hc ⟨h.1.2,h.2⟩
   rw[if_neg c2]
   rcases zKT z y hi l free (fun i hi'=>hf i (qAy _ hi')) hp'.2 with⟨h1,h2⟩|⟨i,h1,h2,h3,h4⟩
   ·refine .inl ⟨h1,fun i hi'=>?_⟩
    rcases qAk.mp hi' with rfl|hm
    ·exact hc
    ·exact h2 i hm
   ·refine .inr ⟨i,qAy _ h1,h2,h3,fun j hj hlt=>?_⟩
    rcases qAk.mp hj with rfl|hm
    ·exact hc
    ·exact h4 j hm hlt
theorem zWP(z:Str)(c:Nat):Builtin.Str.occurrences z ⟨#[c]⟩ 0 z.length 1=(match Mi.posC c z.cps.toList with|some i=>[i]|none=>[]):=by
 rw[StrLaws.occ_eq];have hlen:(⟨#[c]⟩:Str).length=1:=rfl;have hzl:z.length=z.cps.toList.length:=by simp[Str.length]
 have hm:∀i,i<z.length->i∈qFl 0 (z.length+1-0):=fun i hi=>by simp[List.mem_range'];lia
 rcases zKT z ⟨#[c]⟩ z.length (qFl 0 (z.length+1-0)) 0 (fun _ _=>qAc _) (List.pairwise_lt_range' (s:=0) (n:=z.length+1-0) (step:=1) (by decide))with⟨h1,h2⟩|⟨i,h1,h2,h3,h4⟩
 ·rw[h1]
  rcases zJ8 c z.cps.toList with⟨g1,_⟩|⟨j,g1,g2,_⟩
  ·rw[g1]
  ·exact absurd ((zM1 z c j).mpr g2) (h2 j (hm j (by rw[hzl];exact(qA4.mp g2).1)))
 ·rw[h2];have hi:=(zM1 z c i).mp h3
  rcases zJ8 c z.cps.toList with⟨_,g2⟩|⟨j,g1,g2,g3⟩
  ·exact absurd hi (g2 i)
  ·rw[g1];have hj:j<z.length:=by rw[hzl];exact(qA4.mp g2).1
   rcases qCf i j with q|q|q
   ·exact absurd hi (g3 i q)
   ·rw[q]
   ·exact absurd ((zM1 z c j).mpr g2) (h4 j (hm j hj) q)
theorem zU2(z:Str)(c:Nat):Txt.find z ⟨#[c]⟩=(match Mi.posC c z.cps.toList with|some i=>(i:Int)|none=>-1):=by
 unfold Txt.find;rw[zWP];cases Mi.posC c z.cps.toList<;>rfl
end L2
namespace L2
open PySem PySem.Spec PyProof.Rows
section
variable{X:Cx}{K:qA2}
end
end L2
namespace L2
open PySem PySem.Spec PyProof.Rows
def XO(e:Addr)(C:Value)(d:Option Addr)(h:Heap):Prop:=∃oe vs,h.get? e=some oe/\oe.cls=C/\oe.dict=d/\oe.data=.fields vs/\1<vs.size
abbrev xo(e:Addr)(C:Value)(d:Option Addr):HO:=.ext (XO e C d)
def Fl(n:Nat)(e:Addr)(C:Value)(d:Option Addr)(mk:Value)(H:Hp)(h:Heap):Prop:=
 ∃oe vs T oT ts,h.get? e=some oe/\oe.cls=C/\oe.dict=d/\oe.data=.fields vs/\vs[1]?=some (.ref T)/\n<=T/\T≠e/\H T=none/\h.get? T=some oT/\oT.data=.fields ts/\ts[3]?=some mk
def Fly(n:Nat)(e:Addr)(C:Value)(d:Option Addr)(H:Hp)(h:Heap):Prop:=
 H e=some (xo e C d)/\((∃oe vs,h.get? e=some oe/\oe.cls=C/\oe.dict=d/\oe.data=.fields vs/\vs[1]?=some .none)\/Fl n e C d .none H h)
def Held(n:Nat)(e:Addr)(C:Value)(d:Option Addr)(L:Addr)(H:Hp)(h:Heap):Prop:=H e=some (xo e C d)/\Fl n e C d (rawInt L) H h
theorem Fly.mono{n n':Nat}{e:Addr}{C:Value}{d:Option Addr}{H:Hp}{h:Heap}(x:Fly n e C d H h)(hn:n'<=n):Fly n' e C d H h:=by
 obtain⟨a,b|⟨oe,vs,T,oT,ts,h1,h2,h3,h4,h5,h6,h7⟩⟩:=x
 ·exact⟨a,.inl b⟩
 ·exact⟨a,.inr ⟨oe,vs,T,oT,ts,h1,h2,h3,h4,h5,qAo hn h6,h7⟩⟩
structure Nt(n:Nat)(fs ch:List Addr)(e:Addr)(H:Hp)(h h':Heap):Prop where
 keep:∀b o,h.get? b=some o->b≠e->b∉fs->b∉ch->h'.get? b=some o
 slot:∀b o,h.get? b=some o->b≠e->b∉ch->∃sl,h'.get? b=some { o with slots:=sl }
 there:∀b o,h.get? b=some o->∃o',h'.get? b=some o'
 old:∀b∈ch,n<=b/\H b=none/\∃o vs,h.get? b=some o/\o.data=.fields vs
section
variable{M:Model}{A:Around}{E:Value->Shared->Prop}{s:Shared}{n:Nat}{e L:Addr}{C:Value}{d:Option Addr}{H:Hp}{base:Heap}{env:Env}{outer:List Env}
theorem zVL{oe:Obj}{vs:Array Value}{head:Value}{hadNext:Bool}{Q:Unit->Shared->Prop}
  (hfr:A.frames=some (env::outer)) (hl:s.heap.FunFrames base (env::outer)) (hf:env.frame=some L)
  (he:s.heap.get? e=some oe) (hc:oe.cls=C) (hdi:oe.dict=d) (hd:oe.data=.fields vs) (hsz:1<vs.size) (hn:n<=s.heap.objs.size) (hH:∀b,s.heap.objs.size<=b->H b=none)
  (h:∀h',(∀b o,s.heap.get? b=some o->b≠e->b∉frs (env::outer)->h'.get? b=some o)->(∀b o,s.heap.get? b=some o->b≠e->∃sl,h'.get? b=some { o with slots:=sl }) ->
   (∃o',h'.get? e=some o')->Fl n e C d (rawInt L) H h'->Q () { s with heap:=h' }) :
  wpAny M A (do let a <- frameOf env;let pl <- entryPlaceOf L hadNext;let b <- EntryCells.newEntry head a .none (rawInt L) .none pl;setField (.ref e) 1 b) Q E s:=by
 have hene:e∉(env::outer).filterMap (·.frame):=fun hm=>by
  obtain⟨_,o,ho,hnf⟩:=hl.mem hm;rw[he]at ho;injection ho with ho;subst ho;exact hnf vs hd
 refine wpAny_bind (wpAny_frameOf_fun hfr hl hf fun h₁ hs₁=>?_);refine wpAny_bind (wpAny_entryPlaceOf fun pl hpl=>?_);unfold EntryCells.newEntry newFields;refine wpAny_bind (wpAny_newObj_type ?_ (hpl.sizeOk5 _ _ _ _ _));have he₁:h₁.get? e=some oe:=(hs₁.2.1 e hene).trans he;have he₂:=Heap.get?_push_of_some (h:=h₁) { cls:=.type "traceback",dict:=none,data:=.fields ([head,.ref L,.none,rawInt L,.none]++(if pl.isEmpty then qA5 6 Value.none else pl)).toArray } he₁;have hTe:h₁.objs.size≠e:=qC0 (Heap.lt_size he₁);have hd₃:=Obj.data_mapFields hd (·.setIfInBounds 1 (Value.ref h₁.objs.size));have he₃:=Heap.get?_update_self (Obj.mapFields (·.setIfInBounds 1 (Value.ref h₁.objs.size))) he₂ (Obj.isFreed_of_fields hd₃);have hT₃:=(Heap.get?_update_other (h₁.push { cls:=.type "traceback",dict:=none,data:=.fields ([head,.ref L,.none,rawInt L,.none]++(if pl.isEmpty then qA5 6 Value.none else pl)).toArray })
  (Obj.mapFields (·.setIfInBounds 1 (Value.ref h₁.objs.size))) (qD6 hTe)).trans (Heap.get?_push_size h₁ rfl)
 have keep:∀b o,b≠e->h₁.get? b=some o ->
   ((h₁.push { cls:=.type "traceback",dict:=none,data:=.fields ([head,.ref L,.none,rawInt L,.none]++(if pl.isEmpty then qA5 6 Value.none else pl)).toArray }).update e (Obj.mapFields (·.setIfInBounds 1 (Value.ref h₁.objs.size)))).get? b=some o:=
  fun b o hbe hb=>by
   rw[Heap.get?_update_other _ _ (qD6 hbe)];exact Heap.get?_push_of_some _ hb
 have hsz1:h₁.objs.size=s.heap.objs.size:=hs₁.1;refine wpAny_setField he₂ hd hsz (h _ (fun b o hb hbe hbf=>keep b o hbe ((hs₁.2.1 b hbf).trans hb)) (fun b o hb hbe=>?_) ⟨_,he₃⟩ ?_)
 ·obtain⟨sl,e1⟩:=hs₁.2.2 b o hb;exact⟨sl,keep b _ hbe e1⟩
 ·have hdo:∀(o:Obj) f,(Obj.mapFields f o).dict=o.dict:=fun o f=>by unfold Obj.mapFields;split<;>rfl
  exact⟨_,_,h₁.objs.size,_,_,he₃,(Obj.cls_mapFields _ _).trans hc,(hdo _ _).trans hdi,hd₃,by simp[hsz],by rw[hsz1];exact hn,hTe,hH _ (by rw[hsz1];exact qAa _),hT₃,rfl,
   by first|(simp;done)|(rcases hpl with rfl|⟨_,_,_,_,_,_,_,rfl⟩<;>simp)⟩
theorem zWR{Q:Unit->Shared->Prop}(hfr:A.frames=some (env::outer))(hl:s.heap.FunFrames base (env::outer))(hf:env.frame=some L)(x:Fly n e C d H s.heap)(hn:n<=s.heap.objs.size)(hH:∀b,s.heap.objs.size<=b->H b=none)
  (h:∀h' ch,Nt n (frs (env::outer)) ch e H s.heap h'->Held n e C d L H h'->Q () { s with heap:=h' }):wpAny M A (noteFrame (.ref e) env) Q E s:=by
 obtain⟨hx,⟨oe,vs,he,hc,hdi,hd,h1⟩|⟨oe,vs,T,oT,ts,he,hc,hdi,hd,h1,hnT,hTe,hHT,hT,hdT,h3⟩⟩:=x
 ·unfold noteFrame;simp only[hf];refine wpAny_bind (wpAny_field he hd h1 ?_);rw[if_neg (by decide)];refine zVL hfr hl hf he hc hdi hd (qBr.mp h1).1 hn hH fun h' k1 k2 k3 k4=>?_
  refine h h' [] ⟨fun b o hb hbe hbf _=>k1 b o hb hbe hbf,fun b o hb hbe _=>k2 b o hb hbe,fun b o hb=>?_,fun b hb=>nomatch hb⟩ ⟨hx,k4⟩
  by_cases z:b=e
  ·rw[z];exact k3
  ·obtain⟨sl,q⟩:=k2 b o hb z;exact⟨_,q⟩
 ·unfold noteFrame;simp only[hf];refine wpAny_bind (wpAny_field he hd h1 ?_);rw[if_pos (show(Value.ref T != Value.none)=true from by simp)];refine wpAny_bind (wpAny_field hT hdT h3 ?_);rw[if_neg (show ¬((Value.none==rawInt L)=true) from by simp[rawInt])];refine wpAny_bind (wpAny_setField hT hdT (qBr.mp h3).1 ?_);have other:∀b,b≠T->(s.heap.update T (Obj.mapFields (·.setIfInBounds 3 Value.none))).get? b=s.heap.get? b:=fun b hb=>Heap.get?_update_other _ _ (qD6 hb)
  have noRecord:∀b o,s.heap.get? b=some o->(∀vs,o.data≠.fields vs)->b≠T:=fun b o hb hnf q=>by
   rw[q,hT]at hb;injection hb with hb;subst hb;exact hnf ts hdT
  have hl1:=hl.of_keeps (h':=s.heap.update T (Obj.mapFields (·.setIfInBounds 3 Value.none))) fun b o hb hnf=>⟨o,(other b (noRecord b o hb hnf)).trans hb,rfl⟩
  have hself:=Heap.get?_update_self (Obj.mapFields (·.setIfInBounds 3 Value.none)) hT (Obj.isFreed_of_fields (Obj.data_mapFields hdT _));have hsz:(s.heap.update T (Obj.mapFields (·.setIfInBounds 3 Value.none))).objs.size=s.heap.objs.size:=by simp
  refine zVL (s:={ s with heap:=s.heap.update T (Obj.mapFields (·.setIfInBounds 3 Value.none)) }) hfr hl1 hf ((other e (qD6 hTe)).trans he) hc hdi hd (qBr.mp h1).1 (by rw[hsz];exact hn) (by rw[hsz];exact hH) fun h' k1 k2 k3 k4=>?_
  have nT:∀b,b∉[T]->b≠T:=fun b hb z=>hb (by simp[z])
  refine h h' [T] ⟨fun b o hb hbe hbf hc=>k1 b o ((other b (nT b hc)).trans hb) hbe hbf,fun b o hb hbe hc=>k2 b o ((other b (nT b hc)).trans hb) hbe,fun b o hb=>?_,fun b hb=>?_⟩ ⟨hx,k4⟩
  ·by_cases z:b=e
   ·rw[z];exact k3
   ·by_cases z':b=T
    ·rw[z'];obtain⟨sl,q⟩:=k2 T _ hself hTe;exact⟨_,q⟩
    ·obtain⟨sl,q⟩:=k2 b o ((other b z').trans hb) z;exact⟨_,q⟩
  ·obtain rfl:b=T:=by simpa using hb
   exact⟨hnT,hHT,oT,ts,hT,hdT⟩
theorem zWV{Q:Unit->Shared->Prop}{fs:List Addr}{mk:Value}(x:Fl n e C d mk H s.heap)
  (h:∀h' ch,Nt n fs ch e H s.heap h'->Fl n e C d .none H h'->Q () { s with heap:=h' }):wpAny M A (setFlight (.ref e) none) Q E s:=by
 obtain⟨oe,vs,T,oT,ts,he,hc,hdi,hd,h1,hnT,hTe,hHT,hT,hdT,h3⟩:=x;have hsz3:3<ts.size:=(qBr.mp h3).1;have other:∀b,b≠T->(s.heap.update T (Obj.mapFields (·.setIfInBounds 3 ((none:Option Addr).elim Value.none fun f=>rawInt f)))).get? b=s.heap.get? b:=
  fun b hb=>Heap.get?_update_other _ _ (qD6 hb)
 have hself:=Heap.get?_update_self (Obj.mapFields (·.setIfInBounds 3 ((none:Option Addr).elim Value.none fun f=>rawInt f))) hT (Obj.isFreed_of_fields (Obj.data_mapFields hdT _));have nT:∀b,b∉[T]->b≠T:=fun b hb z=>hb (by simp[z])
 unfold setFlight;refine wpAny_bind (wpAny_field he hd h1 ?_);rw[if_pos (show(Value.ref T != Value.none)=true from by simp)];refine wpAny_setField hT hdT hsz3 (h _ [T] ⟨fun b o hb _ _ hc=>(other b (nT b hc)).trans hb,fun b o hb _ hc=>⟨o.slots,(other b (nT b hc)).trans hb⟩,fun b o hb=>?_,fun b hb=>?_⟩ ?_)
 ·by_cases z:b=T
  ·rw[z];exact⟨_,hself⟩
  ·exact⟨o,(other b z).trans hb⟩
 ·obtain rfl:b=T:=by simpa using hb
  exact⟨hnT,hHT,oT,ts,hT,hdT⟩
 ·exact⟨oe,vs,T,_,_,(other e (qD6 hTe)).trans he,hc,hdi,hd,h1,hnT,hTe,hHT,hself,Obj.data_mapFields hdT _,by simp[hsz3]⟩
end
section
variable{X:Cx}{pins:List (Addr×Obj)}{σ:St}{H:Hp}{s:Shared}{n:Nat}{e:Addr}{C:Value}{d:Option Addr}{A:Around}{E:Value->Shared->Prop}{fs ch:List Addr}{h h':Heap}
theorem Nt.hok{P:Program}{w:World}(t:Nt n fs ch e H h h')(k:HOk P w H h)(he:H e=some (xo e C d))(hfs:∀b∈fs,H b=none)(f:XO e C d h'):HOk P w H h':=fun a o ha=>by
 by_cases z:a=e
 ·subst z;rw[he]at ha;cases ha;obtain⟨oe,vs,h1,r⟩:=id f;exact⟨f,⟨oe,h1⟩,(k a _ he).2.2⟩
 ·refine(k a o ha).stay (fun b u hb q=>?_) (fun _ q=>q) fun _ _ q=>q
  have hb':H b≠none:=by
   rcases hb with rfl|hb
   ·rw[ha];exact fun z=>by cases z
   ·rw[hb];exact fun z=>by cases z
  have hbe:b≠e:=by
   rcases hb with rfl|hb
   ·exact z
   ·intro y;rw[y,he]at hb;cases hb
  exact t.keep b u q hbe (fun y=>hb' (hfs b y)) fun y=>hb' (t.old b y).2.1
theorem Fl.xo{mk:Value}(f:Fl n e C d mk H h):XO e C d h:=by
 obtain⟨oe,vs,T,oT,ts,h1,h2,h3,h4,h5,_⟩:=f;exact⟨oe,vs,h1,h2,h3,h4,(qBr.mp h5).1⟩
theorem Nt.un(t:Nt n fs ch e H h h')(he:H e=some (xo e C d)):Un fs ch H H h h':=
 ⟨fun b o q hn hf hc=>t.keep b o q (fun z=>by rw[z,he]at hn;cases hn) hf hc,fun b o q hn _ hc=>t.slot b o q (fun z=>by rw[z,he]at hn;cases hn) hc,fun _ _ _ hn _=>hn,fun b o q _=>t.there b o q,fun _ _ q=>q,fun _ _ _ q=>q,fun b ps q=>⟨#[],by simpa using q⟩⟩
theorem Inv.noted(I:Inv X pins σ H s)(t:Nt n (frs X.stack) ch e H s.heap h')(he:H e=some (xo e C d))(f:XO e C d h')(hn:X.s₀.heap.objs.size<=n)(hp:∀p∈X.pn++pins,p.1<n):Inv X pins σ H { s with heap:=h' }:=by
 refine I.call' rfl (t.un he) (t.hok I.hok he I.stkFree f) I.bare fun b hb=>?_
 obtain⟨h1,h2,o,vs,h3,h4⟩:=t.old b hb;refine⟨.inr (qAo hn h1),?_,?_,fun p hp' z=>?_⟩
 ·intro z;obtain⟨m,⟨o',es,ep,ho',hd',_⟩,_⟩:=I.loc;rw[z,ho']at h3;cases h3;rw[hd']at h4;cases h4
 ·intro x c hx z;obtain⟨v,o',ho',hd'⟩:=I.cell x c hx;rw[<- z,ho']at h3;cases h3;rw[hd']at h4;cases h4
 ·have:=hp p hp'
  rw[z]at this;exact absurd h1 (Nat.not_le_of_lt this)
theorem zTI{Q:Unit->Shared->Prop}{M:Model}(I:Inv X pins σ H s)(hA:A.frames=some X.stack)(hs:X.stack=X.env::X.outer/\X.env.frame=some X.env.locals)(x:Fly n e C d H s.heap)(hn:X.s₀.heap.objs.size<=n)(hn':n<=s.heap.objs.size)
  (hp:∀p∈X.pn++pins,p.1<n) (h:∀s',Inv X pins σ H s'->Held n e C d X.env.locals H s'.heap->Q () s'):wpAny M A (noteFrame (.ref e) X.env) Q E s:=by
 have hst:=I.stack;rw[hs.1]at hA hst;refine zWR hA hst hs.2 x hn' (fun b hb=>I.hok.fresh hb) fun h' ch t y=>h _ (I.noted (ch:=ch) (by rw[hs.1];exact t) x.1 y.2.xo hn hp) y
theorem zTM{Q:Unit->Shared->Prop}{M:Model}{mk:Value}(I:Inv X pins σ H s)(hx:H e=some (xo e C d))(x:Fl n e C d mk H s.heap)(hn:X.s₀.heap.objs.size<=n)
  (hp:∀p∈X.pn++pins,p.1<n) (h:∀s',Inv X pins σ H s'->Fl n e C d .none H s'.heap->Q () s'):wpAny M A (setFlight (.ref e) none) Q E s:=
 zWV (fs:=frs X.stack) x fun h' ch t y=>h _ (I.noted t hx y.xo hn hp) y
theorem zR7{Q:Unit->Shared->Prop}{M:Model}(I:Inv X pins σ H s)(hA:A.frames=some X.stack)(hs:X.stack=X.env::X.outer/\X.env.frame=some X.env.locals)(x:Fly n e C d H s.heap)(hn:X.s₀.heap.objs.size<=n)(hn':n<=s.heap.objs.size)
  (hp:∀p∈X.pn++pins,p.1<n) (h:∀s',Inv X pins σ H s'->Fly n e C d H s'.heap->Q () s'):wpAny M A (leaving X.env (.ref e)) Q E s:=by
 unfold leaving;exact wpAny_bind (zTI I hA hs x hn hn' hp fun s1 I1 y=>zTM I1 y.1 y.2 hn hp fun s2 I2 z=>h s2 I2 ⟨y.1,.inr z⟩)
end
def CXe(P:Program)(w:World):CXT:=fun outer H s E x s'=>∃e C d H',x=.ref e/\s'.os=s.os/\AllBare s'.gens/\Un (frs outer) [] H H' s.heap s'.heap/\HOk P w H' s'.heap/\Fly s.heap.objs.size e C d H' s'.heap/\s.heap.objs.size<=s'.heap.objs.size/\E x d H'
section
variable{X:Cx}{pins:List (Addr×Obj)}{σ:St}{H:Hp}{s s':Shared}{E E':XK}
theorem Inv.pinlt(I:Inv X pins σ H s):∀p∈X.pn++pins,p.1<s.heap.objs.size:=fun p hp=>Heap.lt_size (I.pin p hp).1
def XP(X:Cx)(pins:List (Addr×Obj))(σ:St)(E:XK)(x:Value)(s':Shared):Prop:=∃n e C d H',x=.ref e/\Inv X pins σ H' s'/\Fly n e C d H' s'.heap/\X.s₀.heap.objs.size<=n/\n<=s'.heap.objs.size/\(∀p∈X.pn++pins,p.1<n)/\E x d H'
theorem Inv.flown{x:Value}(I:Inv X pins σ H s)(h:CXe X.prog X.w X.stack H s E x s'):XP X pins σ E x s':=by
 obtain⟨e,C,d,H',rfl,ho,hb,u,hk,f,hz,q⟩:=h;exact⟨_,e,C,d,H',rfl,I.call' ho u hk hb (fun b z=>absurd z (by simp)),f,I.sz,hz,I.pinlt,q⟩
end
section
variable{P:Program}{w:World}{K:qA2}{mg:Str->Option Value}{base:Heap}{N:List Str}{qual:Str}{scope:Scope}{f:Addr}{cd:Value}{A:Around}{outer:List Env}{s:Shared}{H:Hp}{E E':XK}
theorem zXP{pins:List (Addr×Obj)}{σ:St}{x:Value}{s':Shared}(hE:∀C d H',E' C d H'->E C d H')
  (h:XP (cxOf (CXe P w) P w K mg base N qual scope f cd A outer s H E) pins σ E' x s'):(cxOf (CXe P w) P w K mg base N qual scope f cd A outer s H E).xe x s':=by
 obtain⟨n,e,C,d,H',rfl,I,fl,hn,hz,hp,q⟩:=h;refine zR7 I I.ok.frames ⟨rfl,rfl⟩ fl hn hz hp fun s2 I2 f2=>?_
 exact⟨e,C,d,H',rfl,I2.os,I2.bare,I2.base,I2.hok,f2.mono hn,I2.sz,hE _ _ _ q⟩
end
end L2
namespace L2
open PySem PySem.Spec PyProof.Rows
abbrev TEX:=St->Hp->VK->XK->Prop
abbrev TSX:=Ends->(St->XK)->St->Hp->Prop
section
variable{X:Cx}{k:Nat}{f:Addr}{fd:FuncData}{ps:List Str}{sp:Sp}{dvs:List V}{ds:List Value}{x:Str}{p pos:Pos}{e:Expr}{es:List Expr}{t:TA}{te:TE}{tx:TEX}{st:Stmt}{rest:List Stmt}{u u':TSX}
variable{pins:List (Addr×Obj)}{σ:St}{H:Hp}{s:Shared}{a:Addr}
end
end L2
namespace PySem.W
open PySem PySem.Calls PyProof.Rows Builtin Builtin.ObjectAttr
noncomputable def excTail:List Value->Bool
 |.ref _::r=>excTail r
 |[.type a,.type b,.type c,.type d]=>a == "ValueError" && b == "Exception" && c == "BaseException" && d == "object"
 |_=>false
theorem zMN{a b c d:String}(e:excTail [.type a,.type b,.type c,.type d]=true):a = "ValueError"/\b = "Exception"/\c = "BaseException"/\d = "object":=by
 simp only[excTail,qBp,beq_iff_eq]at e;exact⟨e.1.1.1,e.1.1.2,e.1.2,e.2⟩
theorem zCV:∀{l:List Value},excTail l=true->∃as:List Addr,l=as.map Value.ref++[.type "ValueError",.type "Exception",.type "BaseException",.type "object"]
 |.ref a::r,e=>by
  obtain⟨as,rfl⟩:=zCV (l:=r) e;exact⟨a::as,rfl⟩
 |[.type a,.type b,.type c,.type d],e=>by
  obtain⟨rfl,rfl,rfl,rfl⟩:=zMN e;exact⟨[],rfl⟩
theorem zOU(self:Value){l:List Value}(e:excTail l=true):refuseLoop self "__setattr__" l=pure ():=by
 obtain⟨as,rfl⟩:=zCV e
 induction as with
 |nil=>exact PySem.F.store_ValueError.passes self
 |cons a r ih=>
  rw[qAn,qEs,refuseLoop_ref];exact ih (by simpa[excTail]using e)
theorem zX9{l:List Value}(e:excTail l=true):l.contains (.type "object")=true:=by
 obtain⟨as,rfl⟩:=zCV e;rw[List.contains_iff_exists_mem_beq];exact⟨.type "object",by simp,by simp⟩
def excOver(K:Frag)(C:Addr):Bool:=(clsIn K C).any fun cd=>excTail cd.mro
section
variable{prog:Program}{w:World}{A:Around}{s:Shared}{K:Frag}{x C:Addr}{R:Result->Shared->Prop}
theorem zQV{ox:Obj}{od:Option Obj}{name:Str}{tk:Tok}{v:Value}{r:Option Value}(X:K.In s.heap)(I:InstAt s.heap x ox C od)(hp:excOver K C=true)(ht:takerIn K C name=some r)
  (h:∀b,wpAny (model prog w) A.in1 (match r with|some a=>setByDescriptor a (.ref x) v|none=>storeInOwnDict (.ref x) (.ref C) (.str name tk) name v b)
   (fun fin s'=>match fin with | .done f=>R (.ok f) s' | .again c'=>c'.quiet=true/\codeAny (model prog w) A c' R s') (fun e s'=>R (.error e) s') s) :
  codeAny (model prog w) A (.call (.builtin "object.__setattr__") ⟨[.ref x,.str name tk,v],[]⟩) R s:=by
 have SF:=PySem.F.store_object;obtain⟨cd,hc,ho⟩:=any_some hp;have ne:cd.mro.isEmpty=false:=by cases q:cd.mro with|nil=>rw[q]at ho;cases ho|cons _ _=>rfl
 have sub:Looks (model prog w) s.heap (isInstance (.ref x) (.type "object")) true:=I.type.andThen (looks_mroIn X (by unfold mroIn;rw[hc,Option.bind_some,if_neg (by rw[ne];decide),zX9 ho]));refine codeAny_call_builtin SF.slot.plain SF.entry (@check_slot (model prog w) _ _ s "object.__setattr__" "object" "__setattr__" (.ref x) [.str name tk,v] [] _ SF.kind SF.split sub (SF.args (.ref x) (.str name tk) v) ?_);obtain⟨attr,ha,hr⟩:=Option.bind_eq_some_iff.mp ht;have hm:Looks (model prog w) s.heap (mroOf (.ref C)) cd.mro:=(looks_clsIn X hc).andThen .now;have L3:Looks (model prog w) s.heap (storeTaker? attr) r:=by
  cases attr with
  |none=>cases hr;exact .now
  |some a=>
   obtain⟨b,hb,rfl⟩:=qDg.mp hr;refine(looks_takesIn X hb).andThen ?_;cases b<;>exact .now
 rw[osa_eq,refuse_eq];refine wpAny_bind (wpAny_bind (I.type.here (wpAny_bind (hm.here ?_))));rw[zOU _ ho];refine wpAny_pure (wpAny_bind (I.type.here (wpAny_bind ((looks_findIn X ha).here (wpAny_bind (L3.here ?_))))));exact h _
theorem set_exc{E:Value->Shared->Prop}{name:Str}{v:Value}{Q:Unit->Shared->Prop}{vs:Array Value}{sl:Array (Option Value)}(X:K.In s.heap)(hx:s.heap.get? x=some ⟨.ref C,none,.fields vs,sl⟩)
  (hs:findIn K (.ref C) "__setattr__" = some (some (.builtin "object.__setattr__"))) (hp:excOver K C=true) (ht:takerIn K C name=some none) (hh:(clsIn K C).any (·.hasDict)=true)
  (h:∀h' tk',h'.Ns1 s.heap.objs.size (fun y=>if y=name then some v else none)->h'.get? x=some ⟨.ref C,some s.heap.objs.size,.fields vs,sl⟩->(∀b o,b≠x->s.heap.get? b=some o->h'.get? b=some o)->Q () { s with heap:=h',toks:=tk' }) :
  wpAny (model prog w) A (setAttr (.ref x) name v) Q E s:=by
 have I:InstAt s.heap x ⟨.ref C,none,.fields vs,sl⟩ C none:=⟨hx,rfl,rfl,trivial⟩
 refine set_plain X I hs (zQV (s:={ s with toks:=s.toks+1 }) (r:=none) X I hp ht fun b=>?_);obtain⟨cd,hc,hd'⟩:=any_some hh;obtain⟨h0,g,d,t,os⟩:=s;dsimp only at hx X I h ⊢;refine wpAny_bind (wpAny_pure (wpAny_bind (wpAny_bind (wpAny_loadPart hx (wpAny_bind (Looks.here (s:=⟨h0,g,d,t+1,os⟩) (looks_clsIn X hc) ?_))))));rw[hd'];have hx₁:(h0.push { cls:=.type "dict",data:=.dict #[] }).get? x=some ⟨.ref C,none,.fields vs,sl⟩:=Heap.get?_push_of_some _ hx;have hxs:x≠h0.objs.size:=qAr (Heap.lt_size hx);refine wpAny_bind (wpAny_alloc' ?_);refine wpAny_bind (wpAny_update' hx₁ ?_);refine wpAny_pure ?_;have hx₂:((h0.push { cls:=.type "dict",data:=.dict #[] }).update x fun o=>{ cls:=o.cls,dict:=some h0.objs.size,data:=o.data,slots:=o.slots }).get? x=some ⟨.ref C,some h0.objs.size,.fields vs,sl⟩:=Heap.get?_update_self _ hx₁ rfl;have hgd:((h0.push { cls:=.type "dict",data:=.dict #[] }).update x fun o=>{ cls:=o.cls,dict:=some h0.objs.size,data:=o.data,slots:=o.slots }).get? h0.objs.size
   = some { cls:=.type "dict",data:=.dict #[] }:=(Heap.get?_update_ne _ _ _ _ hxs.symm).trans (Heap.get?_push_at rfl rfl)
 have hnd:((h0.push { cls:=.type "dict",data:=.dict #[] }).update x fun o=>{ cls:=o.cls,dict:=some h0.objs.size,data:=o.data,slots:=o.slots }).Ns h0.objs.size (fun _=>none):=
  ⟨_,#[],_,hgd,rfl,fun e he=>absurd he (by simp),fun _=>rfl⟩
 show wpAny _ _ (storeInDict h0.objs.size (.str name t) name v) _ _ _;unfold storeInDict newKeyGuard;refine wpAny_bind (wpAny_pure (wpAny_bind (wpAny_nsSet1 (Heap.Ns1.of_empty hnd) fun h' hn' hs'=>?_)));obtain⟨oD,esD,epD,hoD,hdD,hcD⟩:=hn'.count (Within.cons name v Within.nil);refine wpAny_bind (wpAny_lookBehind hoD (by rw[hdD];exact pastItsLine_dict (qAo hcD (by rw[qB6,qGk,sizeLine_eq];lia))) ?_);exact wpAny_pure (h h' _ hn' ((hs'.2 x hxs).trans hx₂) fun b ob hbx hb=>(hs'.2 b (qAr (Heap.lt_size hb))).trans ((Heap.get?_update_ne _ _ _ _ hbx).trans (Heap.get?_push_of_some _ hb)))
end
end PySem.W
namespace PySem.Xc
open PySem
section
variable{M:Model}{prog:Program}{w:World}{A:Around}{E:Value->Shared->Prop}{h:Heap}{g:Array GenState}{d:Drawn}{t:Nat}{os:OsState}{R:Result->Shared->Prop}
variable{nm q:Str}{C N:Addr}{bs bm bmB:List Value}{hdct:Bool}{sn:List Str}{sub:List Value}{ab:Bool}{col:Option Bool}{dd:Option Addr}{k0 k1 k2 k3 k5:Option Value}{B newId initId:String}
theorem zIR(F:ExcBaseFacts B newId initId bmB)(hB:bm.contains (.type B)=true){rest:List Value}{Q:Unit->Shared->Prop}(hC:h.get? C=some (excClassObj nm q C N bs bm hdct sn sub ab col dd k0 k1 k2 k3 k5 newId))
  (hq:Q () ⟨h,g,d,t,os⟩):wpAny M A (checkBuiltinCall newId ⟨.ref C::rest,[]⟩) Q E ⟨h,g,d,t,os⟩:=by
 have hcont:(Value.ref C::bm).contains (.type B)=true:=by rw[qBx,hB,qF4]
 have hstar:=F.noStar;simp only[checkBuiltinCall,F.newKind,F.newSplit,F.newRow]
 repeat (first|refine wpAny_loadPart_at hC ?_|(refine wpAny_isSubtype_exc hC ?_;rw[hcont])|refine wpAny_staticBase_exc hC ?_|refine wpAny_madeBy_exc hC ?_|simp only[bne_self_eq_false,Bool.false_eq_true,if_false]|wp_step)
 exact hq
theorem zLL(F:ExcBaseFacts B newId initId bmB)(hB:bm.contains (.type B)=true)(hA:bm.contains (.type "AttributeError")=false)(hN:bm.contains (.type "NameError")=false){rest:List Value}(hC:h.get? C=some (excClassObj nm q C N bs bm hdct sn sub ab col dd k0 k1 k2 k3 k5 newId))
  (hq:R (.ok (.ret (.ref (h.objs.size+1)))) ⟨(h.push { cls:=.type "tuple",data:=.seq rest.toArray }).push
   { cls:=.ref C,data:=.fields #[.ref h.objs.size,.none,.none,.none,.bool false,.none] },g,d,t,os⟩) (hrest:rest.length<=sizeLine) :
  codeAny (model prog w) A (.builtin newId ⟨.ref C::rest,[]⟩) R ⟨h,g,d,t,os⟩:=by
 have hends:=F.ends;have hcB:(Value.ref C::bm).contains (.type B)=true:=by rw[qBx,hB,qF4]
 have hcA:(Value.ref C::bm).contains (.type "AttributeError")=false:=by rw[qBx,hA];rfl
 have hcN:(Value.ref C::bm).contains (.type "NameError")=false:=by rw[qBx,hN];rfl
 refine codeAny_builtinAt F.entry ?_;unfold Builtin.«BaseException.__new__»;refine wpAt_bind ?_;show wpAt _ _ _ (stack >>= _) _ _ _;refine wpAt_bind (wpAt_stack fun p below=>wpAt_of_wpAny ?_)
 wp_walk
 refine wpAt_of_wpAny ?_;rw[F.owner]
 repeat (first|with_reducible refine wpAny_madeHere_exc F.canon hC ?_|with_reducible refine wpAny_loadPart_at hC ?_|(with_reducible refine wpAny_isSubtype_exc hC ?_;first|rw[hcB]|rw[hcA]|rw[hcN])|wp_step)
 show R _ _;rw[Heap.size_push];exact hq
theorem zI8(F:ExcBaseFacts B newId initId bmB)(hB:bm.contains (.type B)=true){e:Addr}{oe:Obj}{rest:List Value}{Q:Unit->Shared->Prop}{newId':String}
  (hC:h.get? C=some (excClassObj nm q C N bs bm hdct sn sub ab col dd k0 k1 k2 k3 k5 newId')) (he:h.get? e=some oe) (hcls:oe.cls=.ref C) (hq:Q () ⟨h,g,d,t,os⟩) :
  wpAny M A (checkBuiltinCall initId ⟨.ref e::rest,[]⟩) Q E ⟨h,g,d,t,os⟩:=by
 have hcB:(Value.ref C::bm).contains (.type B)=true:=by rw[qBx,hB,qF4]
 have hshort:=F.noStar;simp only[checkBuiltinCall,F.initKind,F.initSplit,F.initRow]
 repeat (first|(with_reducible refine wpAny_loadPart_at he ?_;rw[hcls])|with_reducible refine wpAny_loadPart_at hC ?_|(with_reducible refine wpAny_isSubtype_exc hC ?_;rw[hcB])|wp_step)
 refine wpAny_onRaise ?_;rw[show ∀(a b:String)(n:Nat),Bind.check ⟨.positional,"*",B,.self,[⟨"args",.varPos,false⟩]⟩ a b n (List.map (fun x=>x.fst) ({ pos:=Value.ref e::rest }:Args).kw)=pure () from
  fun a b n=>check_star_args _ _ _ _ _ _]
 exact wpAny_pure hq
theorem zH7(F:ExcBaseFacts B newId initId bmB)(hB:bm.contains (.type B)=true)(hA:bm.contains (.type "AttributeError")=false)(hN:bm.contains (.type "NameError")=false){rest:List Value}{fI:Addr}{oI:Obj}{Q:Fin->Shared->Prop}
  (hC:h.get? C=some (excClassObj nm q C N bs bm hdct sn sub ab col dd k0 k1 k2 k3 k5 newId)) (hi:qEn (model prog w) h (typeLookup (.ref C) "__init__") (some (.ref fI)))
  (hfI:h.get? fI=some oI) (hfc:oI.cls=.type "function")
  (hq:∀h' e,Heap.MadeExcOf h h' e (.ref C) rest->h.objs.size<=e ->
   wpAny (model prog w) A (call (.ref fI) (.ref e::rest)) (fun r s'=>r=.none/\Q (.done (.ret (.ref e))) s') E ⟨h',g,d,t,os⟩) (hrest:rest.length<=sizeLine) :
  wpAny (model prog w) A (Builtin.«type.__call__» ⟨.ref C::rest,[]⟩) Q E ⟨h,g,d,t,os⟩:=by
 repeat (first|with_reducible refine wpAny_loadPart_at hC ?_|with_reducible refine wpAny_madeBy_exc hC ?_|wp_step)
 refine codeAny_call_builtin_code (Code.quiet_builtin _ F.quiet) (zIR F hB hC ?_);refine zLL F hB hA hN hC ?_ hrest;show wpAny _ _ _ _ _ _;have hC₁:=Heap.get?_push_of_some { cls:=.ref C,data:=.fields #[.ref h.objs.size,.none,.none,.none,.bool false,.none] }
  (Heap.get?_push_of_some { cls:=.type "tuple",data:=.seq rest.toArray } hC)
 have hfI₁:=Heap.get?_push_of_some { cls:=.ref C,data:=.fields #[.ref h.objs.size,.none,.none,.none,.bool false,.none] }
  (Heap.get?_push_of_some { cls:=.type "tuple",data:=.seq rest.toArray } hfI)
 have hi₁:=hi.keeps (h':=(h.push { cls:=.type "tuple",data:=.seq rest.toArray }).push { cls:=.ref C,data:=.fields #[.ref h.objs.size,.none,.none,.none,.bool false,.none] }) fun b o e=>Heap.get?_push_of_some _ (Heap.get?_push_of_some _ e)
 have hget:((h.push { cls:=.type "tuple",data:=.seq rest.toArray }).push
   { cls:=.ref C,data:=.fields #[.ref h.objs.size,.none,.none,.none,.bool false,.none] }).get? (h.objs.size+1)=some
   { cls:=.ref C,data:=.fields #[.ref h.objs.size,.none,.none,.none,.bool false,.none] }:=by heap_get
 have hcC:(Value.ref C::bm).contains (.ref C)=true:=by simp
 unfold isInstance
 repeat (first|with_reducible refine wpAny_loadPart_at hget ?_|(with_reducible refine wpAny_isSubtype_exc hC₁ ?_;rw[hcC])|wp_step)
 show wpAny _ _ (typeLookup (.ref C) _) _ _ _;refine hi₁.here ?_;refine wpAny_holding (wpAny_bind ?_);unfold bindSpecial;refine wpAny_bind (wpAny_typeOf (T:="function") ⟨_,hfI₁,hfc⟩ ?_);rw[if_pos (by decide)];refine wpAny_pure (wpAny_bind (wpAny_mono (hq _ (h.objs.size+1) ⟨fun b o hb=>Heap.get?_push_of_some _ (Heap.get?_push_of_some _ hb),Heap.get?_none_of_le (qBy _),h.objs.size,hget,Heap.get?_none_of_le (qAa _),?_⟩ (qBy _)) (fun r s' hr=>?_) fun _ _ x=>x))
 ·exact Heap.get?_push_of_some _ (Heap.get?_push_at rfl rfl)
 ·obtain⟨rfl,hQ⟩:=hr
  wp_walk
  exact hQ
theorem call_initX(F:ExcBaseFacts B newId initId bmB)(hB:bm.contains (.type B)=true)(hA:bm.contains (.type "AttributeError")=false)(hN:bm.contains (.type "NameError")=false){rest:List Value}{fI:Addr}{oI:Obj}{Q:Value->Shared->Prop}
  (hC:h.get? C=some (excClassObj nm q C N bs bm hdct sn sub ab col dd k0 k1 k2 k3 k5 newId)) (hi:qEn (model prog w) h (typeLookup (.ref C) "__init__") (some (.ref fI)))
  (hfI:h.get? fI=some oI) (hfc:oI.cls=.type "function")
  (hq:∀h' e,Heap.MadeExcOf h h' e (.ref C) rest->h.objs.size<=e ->
   wpAny (model prog w) (A.under (.builtin "type.__call__" ⟨.ref C::rest,[]⟩)) (call (.ref fI) (.ref e::rest)) (fun r s'=>r=.none/\Q (.ref e) s') E ⟨h',g,d,t,os⟩) (hrest:rest.length<=sizeLine) :
  wpAny (model prog w) A (call (.ref C) rest) Q E ⟨h,g,d,t,os⟩:=by
 have f1:=tc_lookup;have f2:=tc_bind (.ref C);have hT:(⟨h,g,d,t,os⟩:Shared).TypeIs (.ref C) "type":=⟨_,hC,rfl⟩
 refine wpAny_call (codeAny_of_tree ?_);show wpAny _ _ (callAny (.ref C) _) _ _ _
 repeat (any_goals (first|assumption|with_reducible refine wpAny_loadPart_at hC ?_|wp_step))
 refine⟨rfl,?_⟩;refine codeAny_call_builtin_at (Code.quiet_builtin _ (by decide +kernel)) entry_typeCall (wpAny_check_type_call_sub hC (zH7 (hrest:=hrest) F hB hA hN hC hi hfI hfc fun h' e hm hz=>?_));exact hq h' e hm hz
theorem zOL(F:ExcBaseFacts B newId initId bmB)(hB:bm.contains (.type B)=true)(hA:bm.contains (.type "AttributeError")=false)(hN:bm.contains (.type "NameError")=false){rest:List Value}{Q:Fin->Shared->Prop}
  (hC:h.get? C=some (excClassObj nm q C N bs bm hdct sn sub ab col dd k0 k1 k2 k3 k5 newId)) (hi:qEn (model prog w) h (typeLookup (.ref C) "__init__") (some (.builtin initId)))
  (hq:∀h' e,Heap.MadeExcOf h h' e (.ref C) rest->h.objs.size<=e->Q (.done (.ret (.ref e))) ⟨h',g,d,t,os⟩) (hrest:rest.length<=sizeLine) :
  wpAny (model prog w) A (Builtin.«type.__call__» ⟨.ref C::rest,[]⟩) Q E ⟨h,g,d,t,os⟩:=by
 repeat (first|with_reducible refine wpAny_loadPart_at hC ?_|with_reducible refine wpAny_madeBy_exc hC ?_|wp_step)
 refine codeAny_call_builtin_code (Code.quiet_builtin _ F.quiet) (zIR F hB hC ?_);refine zLL F hB hA hN hC ?_ hrest;show wpAny _ _ _ _ _ _;have hC₁:=Heap.get?_push_of_some { cls:=.ref C,data:=.fields #[.ref h.objs.size,.none,.none,.none,.bool false,.none] }
  (Heap.get?_push_of_some { cls:=.type "tuple",data:=.seq rest.toArray } hC)
 have hi₁:=hi.keeps (h':=(h.push { cls:=.type "tuple",data:=.seq rest.toArray }).push { cls:=.ref C,data:=.fields #[.ref h.objs.size,.none,.none,.none,.bool false,.none] }) fun b o e=>Heap.get?_push_of_some _ (Heap.get?_push_of_some _ e)
 have hget:((h.push { cls:=.type "tuple",data:=.seq rest.toArray }).push
   { cls:=.ref C,data:=.fields #[.ref h.objs.size,.none,.none,.none,.bool false,.none] }).get? (h.objs.size+1)=some
   { cls:=.ref C,data:=.fields #[.ref h.objs.size,.none,.none,.none,.bool false,.none] }:=by heap_get
 have hcC:(Value.ref C::bm).contains (.ref C)=true:=by simp
 unfold isInstance
 repeat (first|with_reducible refine wpAny_loadPart_at hget ?_|(with_reducible refine wpAny_isSubtype_exc hC₁ ?_;rw[hcC])|wp_step)
 show wpAny _ _ (typeLookup (.ref C) _) _ _ _;refine hi₁.here ?_;refine wpAny_holding (wpAny_bind (wpAny_of_eq (F.init.bind _) ?_));refine wpAny_bind (wpAny_call (codeAny_call_builtin F.init.plain F.initEntry (zI8 F hB hC₁ hget rfl ?_)))
 wp_walk
 refine hq _ _ ⟨fun b o hb=>?_,Heap.get?_none_of_le (qBy _),h.objs.size+2,?_,Heap.get?_none_of_le (by lia),?_⟩ (qBy _)
 ·rw[Heap.get?_update_other _ _ (qC0 (qFx (Heap.lt_size hb)))];exact Heap.get?_push_of_some _ (Heap.get?_push_of_some _ (Heap.get?_push_of_some _ hb))
 ·rw[Heap.get?_update_self _ (Heap.get?_push_of_some _ hget) rfl];simp only[Heap.size_push];rfl
 ·rw[Heap.get?_update_other _ _ (show h.objs.size+1≠h.objs.size+2 by lia)];exact Heap.get?_push_at (by simp only[Heap.size_push]) rfl
theorem callX(F:ExcBaseFacts B newId initId bmB)(hB:bm.contains (.type B)=true)(hA:bm.contains (.type "AttributeError")=false)(hN:bm.contains (.type "NameError")=false){rest:List Value}{Q:Value->Shared->Prop}
  (hC:h.get? C=some (excClassObj nm q C N bs bm hdct sn sub ab col dd k0 k1 k2 k3 k5 newId)) (hi:qEn (model prog w) h (typeLookup (.ref C) "__init__") (some (.builtin initId)))
  (hq:∀h' e,Heap.MadeExcOf h h' e (.ref C) rest->h.objs.size<=e->Q (.ref e) ⟨h',g,d,t,os⟩) (hrest:rest.length<=sizeLine) :
  wpAny (model prog w) A (call (.ref C) rest) Q E ⟨h,g,d,t,os⟩:=by
 have f1:=tc_lookup;have f2:=tc_bind (.ref C);have hT:(⟨h,g,d,t,os⟩:Shared).TypeIs (.ref C) "type":=⟨_,hC,rfl⟩
 refine wpAny_call (codeAny_of_tree ?_);show wpAny _ _ (callAny (.ref C) _) _ _ _
 repeat (any_goals (first|assumption|with_reducible refine wpAny_loadPart_at hC ?_|wp_step))
 refine⟨rfl,?_⟩;refine codeAny_call_builtin_at (Code.quiet_builtin _ (by decide +kernel)) entry_typeCall (wpAny_check_type_call_sub hC (zOL (hrest:=hrest) F hB hA hN hC hi fun h' e hm hz=>?_));exact hq h' e hm hz
theorem call_baseX(F:ExcBaseFacts B newId initId bmB)(hB:bm.contains (.type B)=true){e t1:Addr}{di:Option Addr}{rest:List Value}{Q:Value->Shared->Prop}{newId':String}
  (hC:h.get? C=some (excClassObj nm q C N bs bm hdct sn sub ab col dd k0 k1 k2 k3 k5 newId')) (he:h.get? e=some { cls:=.ref C,dict:=di,data:=.fields #[.ref t1,.none,.none,.none,.bool false,.none] })
  (hq:∀h' t0,(∀b o,b≠e->h.get? b=some o->h'.get? b=some o)->h'.get? e=some { cls:=.ref C,dict:=di,data:=.fields #[.ref t0,.none,.none,.none,.bool false,.none] }->Q .none ⟨h',g,d,t,os⟩) (hrest:rest.length<=sizeLine) :
  wpAny (model prog w) A (call (.builtin initId) (.ref e::rest)) Q E ⟨h,g,d,t,os⟩:=by
 refine wpAny_call (codeAny_call_builtin F.init.plain F.initEntry (zI8 F hB hC he rfl ?_))
 wp_walk
 refine hq _ h.objs.size (fun b o hbe hb=>?_) ?_
 ·rw[Heap.get?_update_other _ _ (qD6 hbe)];exact Heap.get?_push_of_some _ hb
 ·rw[Heap.get?_update_self _ (Heap.get?_push_of_some _ he) rfl];rfl
end
end PySem.Xc
namespace PySem.W
open PySem
def xcIn(K:Frag)(C:Addr):Bool:=match K.lookup C with
 |some ⟨.type "type",_,.cls cd,sl⟩=>(match cd.mro,sl.toList with
  |.ref C'::bm,[_,_,_,_,some (.builtin n),_]=>C'==C && !cd.hasDel&&excTail bm&&n == "ValueError.__new__" && cd.hasDict
  |_,_=>false)
 |_=>false
theorem xc_cls{K:Frag}{h:Heap}{C:Addr}(X:K.In h)(q:xcIn K C=true):∃nm qn N bs bm hdct sn sub ab col dd k0 k1 k2 k3 k5,
  h.get? C=some (excClassObj nm qn C N bs bm hdct sn sub ab col dd k0 k1 k2 k3 k5 "ValueError.__new__")/\excTail bm=true:=by
 unfold xcIn at q
 split at q
 ·rename_i dd cd sl ho
  split at q
  ·rename_i C' bm k0 k1 k2 k3 n k5 hm hs
   simp only[qBp,beq_iff_eq,Bool.not_eq_true']at q;obtain⟨⟨⟨⟨rfl,hdel⟩,hb⟩,hn⟩,hd⟩:=q;subst hn;obtain⟨nm,bs,mro,ns,qn,hd',sn,sub,ab,col,del⟩:=cd;dsimp only at hm hdel;subst hm hdel;have hsl:sl=#[k0,k1,k2,k3,some (.builtin "ValueError.__new__"),k5]:=by
    obtain⟨l⟩:=sl;simp only at hs;rw[hs]
   subst hsl;exact⟨nm,qn,ns,bs,bm,hd',sn,sub,ab,col,dd,k0,k1,k2,k3,k5,X _ _ ho,hb⟩
  ·cases q
 ·cases q
theorem exc_con{l:List Value}{T:String}{b:Bool}(e:excTail l=true)(hb:List.contains [Value.type "ValueError",.type "Exception",.type "BaseException",.type "object"] (.type T)=b):l.contains (.type T)=b:=by
 obtain⟨as,rfl⟩:=zCV e;clear e
 induction as with
 |nil=>exact hb
 |cons a r ih=>rw[qAn,qEs,qBx,ih];rfl
end PySem.W
namespace PySem.Xc
open PySem
section
variable{M:Model}{A:Around}{E:Value->Shared->Prop}{s:Shared}{env:Env}
variable{nm q:Str}{C N:Addr}{bs bm:List Value}{hdct:Bool}{sn:List Str}{sub:List Value}{ab:Bool}{col:Option Bool}{dd:Option Addr}{k0 k1 k2 k3 k5:Option Value}{newId:String}
theorem raiseX{x:Sem Value}{Q:Flow->Shared->Prop}(hh:A.handled=none)
  (h:wpAny M A x (fun v s₁=>∃e t di nm q C N bs bm hdct sn sub ab col dd k0 k1 k2 k3 k5 newId,v=.ref e/\s₁.heap.get? C=some (excClassObj nm q C N bs bm hdct sn sub ab col dd k0 k1 k2 k3 k5 newId)/\bm.contains (.type "BaseException")=true /\
   s₁.heap.get? e=some { cls:=.ref C,dict:=di,data:=.fields #[.ref t,.none,.none,.none,.bool false,.none] }/\E (.ref e) s₁) E s) :
  wpAny M A (raiseStmt env (some x) none) Q E s:=by
 unfold raiseStmt;refine wpAny_bind (wpAny_mono h (fun v s₁ h₁=>?_) fun _ _ x=>x);obtain⟨e,t,di,nm,q,C,N,bs,bm,hdct,sn,sub,ab,col,dd,k0,k1,k2,k3,k5,newId,rfl,hC,hbase,he,hE⟩:=h₁;have hcB:(Value.ref C::bm).contains (.type "BaseException")=true:=by rw[qBx,hbase,qF4]
 obtain⟨hp,g,d,tk,os⟩:=s₁
 repeat (first|with_reducible refine wpAny_loadPart_at he ?_|with_reducible refine wpAny_loadPart_at hC ?_|(with_reducible refine wpAny_isSubtype_exc hC ?_;rw[hcB])|wp_step)
 exact wpAny_raiseNew_none hh hE
theorem RaiseX{x:Expr}{pos:Pos}{Q:Flow->Shared->Prop}(hh:A.handled=none)
  (h:wpAny M A (eval x env) (fun v s₁=>∃e t di nm q C N bs bm hdct sn sub ab col dd k0 k1 k2 k3 k5 newId,v=.ref e/\s₁.heap.get? C=some (excClassObj nm q C N bs bm hdct sn sub ab col dd k0 k1 k2 k3 k5 newId)/\bm.contains (.type "BaseException")=true /\
   s₁.heap.get? e=some { cls:=.ref C,dict:=di,data:=.fields #[.ref t,.none,.none,.none,.bool false,.none] }/\E (.ref e) s₁) E s) :
  wpAny M A (exec (.Raise (some x) none pos) env) Q E s:=by
 rw[arm_exec_Raise]
 first
  |exact wpAny_bind (wpAny_standAt (raiseX hh (wpAny_bind (wpAny_mono h (fun v s₁ h₁=>wpAny_bind (wpAny_standAt (wpAny_pure h₁))) fun _ _ x=>x))))
  |(simp only[evalOpt,Option.map];exact wpAny_bind (wpAny_standAt (raiseX hh (wpAny_bind (wpAny_mono h (fun v s₁ h₁=>wpAny_bind (wpAny_standAt (wpAny_pure h₁))) fun _ _ x=>x)))))
  |(show wpAny M A (do standAt pos;raiseStmt env (some (do let v <- eval x env;standAt pos;pure v)) none) Q E s;exact wpAny_bind (wpAny_standAt (raiseX hh (wpAny_bind (wpAny_mono h (fun v s₁ h₁=>wpAny_bind (wpAny_standAt (wpAny_pure h₁))) fun _ _ x=>x)))))
end
section
open PySem.W
variable{prog:Program}{w:World}{A:Around}{E:Value->Shared->Prop}{K:Frag}{x C:Addr}{ox:Obj}{od:Option Obj}{name:Str}{expr fill:Bool}{h:Heap}{g:Array GenState}{d:Drawn}{t:Nat}{os:OsState}
end
end PySem.Xc
namespace L2
open PySem PySem.Spec PyProof.Rows
def XN(e:Addr)(C:Value)(d:Option Addr)(h:Heap):Prop:=∃t1,h.get? e=some { cls:=C,dict:=d,data:=.fields #[.ref t1,.none,.none,.none,.bool false,.none] }
abbrev xn(e:Addr)(C:Value)(d:Option Addr):HO:=.ext (XN e C d)
theorem zVX{e:Addr}{C:Value}{d:Option Addr}(h1 h2:Heap)(x:XN e C d h1)(k:∀o,h1.get? e=some o->h2.get? e=some o):XN e C d h2:=let⟨t1,a⟩:=x;⟨t1,k _ a⟩
theorem zVW{e:Addr}{C:Value}{d:Option Addr}(h1 h2:Heap)(x:XO e C d h1)(k:∀o,h1.get? e=some o->h2.get? e=some o):XO e C d h2:=let⟨oe,vs,a,r⟩:=x;⟨oe,vs,k _ a,r⟩
theorem zWM{P:Program}{w:World}{H:Hp}{h:Heap}{e:Addr}{C:Value}{d:Option Addr}(x:XN e C d h):ObjOk P w H h e (xn e C d):=⟨x,let⟨t1,a⟩:=x;⟨_,a⟩,zVX⟩
theorem zbB{P:Program}{w:World}{H:Hp}{h:Heap}{e:Addr}{C:Value}{d:Option Addr}(x:XO e C d h):ObjOk P w H h e (xo e C d):=⟨x,let⟨oe,vs,a,_⟩:=x;⟨_,a⟩,zVW⟩
section
variable{X:Cx}{pins:List (Addr×Obj)}{σ:St}{H:Hp}{s:Shared}{k:Nat}{f C:Addr}{fd:FuncData}{ps:List Str}{sp:Sp}{x:Str}{p pos:Pos}{e:Expr}{es:List Expr}{t:TA}{te:TE}
def zN3(C:Addr)(sp:Sp)(E:XK)(t:TA):TE:=fun σ H Q=>t σ H fun vs H1=>vs.length<=sizeLine/\∀e,H1 e=none->sp (.ref e::vs) (upd H1 e (xn e (.ref C) none)) (fun v H2=>v=.non/\Q (.ref e) H2) E
def zIZ(C:Addr)(t:TA):TE:=fun σ H Q=>t σ H fun vs H1=>vs.length<=sizeLine/\∀e,H1 e=none->Q (.ref e) (upd H1 e (xn e (.ref C) none))
theorem Inv.madeX{h':Heap}{e:Addr}{us:List Value}(I:Inv X pins σ H s)(m:Heap.MadeExcOf s.heap h' e (.ref C) us)(hs:s.heap.objs.size<=e):H e=none/\Inv X pins σ (upd H e (xn e (.ref C) none)) { s with heap:=h' }:=by
 obtain⟨t1,h1,_⟩:=m.there;exact⟨I.hok.fresh hs,I.laid (t':=s.toks) m.keeps hs (zWM ⟨t1,h1⟩)⟩
theorem zQ6{Q:VK}{E:XK}{us:List Value}{vs:List V}(hc:PySem.W.xcIn X.K C=true)(hi:qAj X.K (.ref C) "__init__" = some (some (.ref f)))(hf:qDo X.K (.ref f)=true)(F:FnOk X.prog X.w X.K X.mg X.base (CXe X.prog X.w) k f fd ps sp)
  (hr:Room (k+1) X.A) (hb:Binds X.K fd ps []) (hx:zIV (CXe X.prog X.w) X E) (I:Inv X pins σ H s) (r:Vals vs us) (hz:vs.length<=sizeLine)
  (h:∀e,H e=none->sp (.ref e::vs) (upd H e (xn e (.ref C) none)) (fun v H2=>v=.non/\Q (.ref e) H2) E) :
  wpAny (model X.prog X.w) X.A (call (.ref C) us) (EP X pins σ Q) X.xe s:=by
 obtain⟨nm,qn,N,bs,bm,hdct,sn,sub,ab,col,dd,k0,k1,k2,k3,k5,hC,ht⟩:=PySem.W.xc_cls I.kIn hc;obtain⟨oI,hfI,hfc⟩:∃oI,s.heap.get? f=some oI/\oI.cls=.type "function":=by
  have hf':=beq_iff_eq.mp hf;obtain⟨o,ho,h2⟩:=qDg.mp (show(X.K.lookup f).map (·.cls)=some (.type "function") from hf');exact⟨o,I.kIn _ _ ho,h2⟩
 have hC':s.heap.get? C=some (excClassObj nm qn C N bs bm hdct sn sub ab col dd k0 k1 k2 k3 k5 "ValueError.__new__"):=hC;have hus:us.length<=sizeLine:=by rw[<- r.length];exact hz
 have key:∀h' e,Heap.MadeExcOf s.heap h' e (.ref C) us->s.heap.objs.size<=e->wpAny (model X.prog X.w) (X.A.under (.builtin "type.__call__" ⟨.ref C::us,[]⟩)) (call (.ref f) (.ref e::us)) (fun r s'=>r=.none/\EP X pins σ Q (.ref e) s') X.xe { s with heap:=h' }:=by
  intro h' e m hs;obtain⟨he,I2⟩:=I.madeX m hs;have hq:=h e he;have r2:Vals (V.ref e::vs) (Value.ref e::us):=.cons rfl r;have hl:(Value.ref e::us++[]).length=ps.length:=by
   rw[qCc,<- r2.length];exact F.len _ _ _ _ hq
  have hbb:=hb _ (Value.ref e::us) I2.kIn hl;rw[qCc]at hbb;refine wpAny_call (codeAny_mono (F.run _ X.stack _ _ ⟨Value.ref e::us,[]⟩ (Value.ref e::us) _ _ E (hr.make C us []) (I2.env0.make C us []) hbb r2 hq) fun r s' hq'=>?_);cases r with
  |error x=>exact hx pins σ _ _ x s' I2 hq'
  |ok fl=>
   cases fl with
   |ret u=>
    obtain⟨v,H',I3,rv,ev,q3⟩:=I2.after hq';subst ev;exact⟨rv,⟨V.ref e,H',I3,rfl,q3⟩⟩
   |next=>exact qA7 hq'
   |brk=>exact qA7 hq'
   |cont=>exact qA7 hq'
 have hK:=qFd (M:=model X.prog X.w) I.kIn hi;obtain⟨hh,g,d,tk,os⟩:=s;exact Xc.call_initX qCw (PySem.W.exc_con ht (by decide)) (PySem.W.exc_con ht (by decide)) (PySem.W.exc_con ht (by decide)) hC' hK hfI hfc key hus
theorem zOT{Q:VK}{us:List Value}{vs:List V}(hc:PySem.W.xcIn X.K C=true)(hi:qAj X.K (.ref C) "__init__" = some (some (.builtin "ValueError.__init__")))
  (I:Inv X pins σ H s) (r:Vals vs us) (hz:vs.length<=sizeLine) (h:∀e,H e=none->Q (.ref e) (upd H e (xn e (.ref C) none))):wpAny (model X.prog X.w) X.A (call (.ref C) us) (EP X pins σ Q) X.xe s:=by
 obtain⟨nm,qn,N,bs,bm,hdct,sn,sub,ab,col,dd,k0,k1,k2,k3,k5,hC,ht⟩:=PySem.W.xc_cls I.kIn hc;have hus:us.length<=sizeLine:=by rw[<- r.length];exact hz
 have key:∀h' e,Heap.MadeExcOf s.heap h' e (.ref C) us->s.heap.objs.size<=e->EP X pins σ Q (.ref e) { s with heap:=h' }:=by
  intro h' e m hs;obtain⟨he,I2⟩:=I.madeX m hs;exact⟨.ref e,_,I2,rfl,h e he⟩
 have hK:=qFd (M:=model X.prog X.w) I.kIn hi;obtain⟨hh,g,d,tk,os⟩:=s;exact Xc.callX qCw (PySem.W.exc_con ht (by decide)) (PySem.W.exc_con ht (by decide)) (PySem.W.exc_con ht (by decide)) hC hK key hus
theorem zTA{E:XK}(hc:PySem.W.xcIn X.K C=true)(hi:qAj X.K (.ref C) "__init__" = some (some (.ref f)))(hf:qDo X.K (.ref f)=true)(F:FnOk X.prog X.w X.K X.mg X.base (CXe X.prog X.w) k f fd ps sp)
  (hr:Room (k+1) X.A) (hb:Binds X.K fd ps []) (hx:zIV (CXe X.prog X.w) X E) (hg:Gl X x) (hm:X.mg x=some (.ref C)) (hk:qB0 X.K (.ref C)=true)
  (ha:PA X (e::es) t) (hdb:(x==("__debug__":Str))=false:=by decide) (he:starEach (e::es) X.env=(false,eval e X.env)::starEach es X.env:=by rfl) (hpl:(backTo pos (starEach es X.env)).any (·.1)=false:=by rfl) :
  PE X (.Call (.Name x p) (e::es) [] pos) (zN3 C sp E t):=by
 intro pins s σ H Q I h;refine wpAny_Call_Name_kw (zHU I hg hm ?_ hdb);refine qE8 (h₀:=X.base) I.ok.mod.kin hk (thn (ha pos pins s σ H _ I h) fun us s1 ⟨vs,H1,I1,r,z,q⟩=>⟨I1.kIn,?_⟩) he hpl;exact zQ6 hc hi hf F hr hb hx I1 r z q
theorem zQR(hc:PySem.W.xcIn X.K C=true)(hi:qAj X.K (.ref C) "__init__" = some (some (.builtin "ValueError.__init__")))(hg:Gl X x)(hm:X.mg x=some (.ref C))(hk:qB0 X.K (.ref C)=true)
  (ha:PA X (e::es) t) (hdb:(x==("__debug__":Str))=false:=by decide) (he:starEach (e::es) X.env=(false,eval e X.env)::starEach es X.env:=by rfl) (hpl:(backTo pos (starEach es X.env)).any (·.1)=false:=by rfl) :
  PE X (.Call (.Name x p) (e::es) [] pos) (zIZ C t):=by
 intro pins s σ H Q I h;refine wpAny_Call_Name_kw (zHU I hg hm ?_ hdb);refine qE8 (h₀:=X.base) I.ok.mod.kin hk (thn (ha pos pins s σ H _ I h) fun us s1 ⟨vs,H1,I1,r,z,q⟩=>⟨I1.kIn,?_⟩) he hpl;exact zOT hc hi I1 r z q
theorem zSK{e:Addr}{o:HO}(h:H e=some o):upd H e o=H:=by
 funext b
 unfold upd
 split
 ·rename_i z;rw[z];exact h.symm
 ·rfl
theorem Inv.xn{e:Addr}{d:Option Addr}{Cv:Value}(I:Inv X pins σ H s)(h:H e=some (xn e Cv d)):XN e Cv d s.heap:=(I.hok e _ h).1
theorem XN.xo{h:Heap}{e:Addr}{d:Option Addr}{Cv:Value}(x:XN e Cv d h):XO e Cv d h:=let⟨t1,a⟩:=x;⟨_,_,a,rfl,rfl,rfl,by simp⟩
theorem Inv.raised{e:Addr}{d:Option Addr}(I:Inv X pins σ H s)(h:H e=some (L2.xn e (.ref C) d))(E:XK)(q:E (.ref e) d (upd H e (xo e (.ref C) d))):XP X pins σ E (.ref e) s:=by
 have x:=I.xn h;obtain⟨t1,a⟩:=id x;have I':Inv X pins σ (upd H e (xo e (.ref C) d)) s:=I.write (t':=s.toks) (h':=s.heap) (e:=e) (by rw[h];trivial) (.inl rfl) (fun _ _ _ q=>q) ⟨_,a⟩ (zbB x.xo);exact⟨s.heap.objs.size,e,.ref C,d,_,rfl,I',⟨zAI,.inl ⟨_,_,a,rfl,rfl,rfl,rfl⟩⟩,I.sz,qAa _,I.pinlt,q⟩
def Flies(X:Cx)(E:XK):Prop:=∀(pins:List (Addr×Obj))(σ:St)(x:Value)(s':Shared),XP X pins σ E x s'->X.xe x s'
theorem Flies.passes{E:XK}(h:Flies X E):zIV (CXe X.prog X.w) X E:=fun pins σ H s x s' I q=>h pins σ x s' (I.flown q)
def zN2(K:qA2)(E:XK)(te:TE):TS:=fun _ σ H=>te σ H fun v H1=>∃e C d,v=.ref e/\H1 e=some (L2.xn e (.ref C) d)/\PySem.W.xcIn K C=true/\E (.ref e) d (upd H1 e (xo e (.ref C) d))
theorem zNO{E:XK}(he:PE X e te)(hf:Flies X E)(hc:X.calm=true):PS X (.Raise (some e) none pos) (zN2 X.K E te):=by
 intro pins s σ H D I h;refine Xc.RaiseX (I.ok.hd hc) (thn (he pins s σ H _ I h) fun v s1 z0=>?_);obtain⟨y,H1,I1,ry,a,C,d,ey,ha,hx,q⟩:=z0;subst ey;cases ry;obtain⟨t1,hg⟩:=I1.xn ha;obtain⟨nm,qn,N,bs,bm,hdct,sn,sub,ab,col,dd,k0,k1,k2,k3,k5,hC,ht⟩:=PySem.W.xc_cls I1.kIn hx;exact⟨a,t1,d,nm,qn,C,N,bs,bm,hdct,sn,sub,ab,col,dd,k0,k1,k2,k3,k5,_,rfl,hC,PySem.W.exc_con ht (by decide),hg,hf pins σ _ _ (I1.raised ha E q)⟩
def zUS(K:qA2)(t:TA):TE:=fun σ H Q=>t σ H fun vs H1=>∃e C d rest,vs=.ref e::rest/\H1 e=some (L2.xn e (.ref C) d)/\PySem.W.xcIn K C=true/\rest.length<=sizeLine/\Q .non H1
structure XBase(K:qA2)(B:Addr):Prop where
 ga:qCb K (.ref B) "__getattribute__" = some (some (.builtin "type.__getattribute__"))
 rd:qGl K B (.type "type")=true
 fd:qGm K (.ref B) (.type "type") "__init__" = some (.val (.builtin "ValueError.__init__"))
 hi:qGe (.builtin "ValueError.__init__")=true
theorem zTD{B:Addr}{apos:Pos}{pl:Sem Bool}(hB:XBase X.K B)(hg:Gl X x)(hm:X.mg x=some (.ref B))(ha:PA X (e::es) t)(hdb:(x==("__debug__":Str))=false:=by decide)
  (he:starEach (e::es) X.env=(false,eval e X.env)::starEach es X.env:=by rfl) (hpl:(backTo pos (starEach es X.env)).any (·.1)=false:=by rfl)
  (ht:eval (.Call (.Attribute (.Name x p) "__init__" apos) (e::es) [] pos) X.env=(do
   let ov <- eval (.Name x p) X.env
   standAt apos.atName
   let(f,first) <- holding [ov] (getMethod ov "__init__" pl)
   callWith pos f first (backTo pos (starEach (e::es) X.env)) (backToKw pos (keywordEach [] X.env))):=by rfl) :
  PE X (.Call (.Attribute (.Name x p) "__init__" apos) (e::es) [] pos) (zUS X.K t):=by
 intro pins s σ H Q I h;refine PySem.W.methodCall_KW (pl:=pl) (zHU I hg hm ?_ hdb) ht;refine PySem.W.method_cls I.kIn hB.ga (PySem.W.cls_value I.kIn hB.rd hB.fd hB.hi ?_);have I':=I.tok (s.toks+1);refine qDp (thn (ha pos pins _ σ H _ I' h) fun us s1 z0=>?_) he hpl;obtain⟨vs,H1,I1,r1,a,C,d,rest,ev,ea,hx,hz,q⟩:=z0;subst ev;cases r1 with
 |cons ru r2=>
  cases ru;obtain⟨t1,hg1⟩:=I1.xn ea;obtain⟨nm,qn,N,bs,bm,hdct,sn,sub,ab,col,dd,k0,k1,k2,k3,k5,hC,htl⟩:=PySem.W.xc_cls I1.kIn hx;have hus:=r2.length;obtain⟨hh,g,dr,tk,os⟩:=s1;refine Xc.call_baseX qCw (PySem.W.exc_con htl (by decide)) hC hg1 (fun h' t0 k1 k2=>?_) (by rw[<- hus];exact hz);have I2:Inv X pins σ (upd H1 a (L2.xn a (.ref C) d)) { heap:=h',gens:=g,drawn:=dr,toks:=tk,os:=os }:=
   I1.write (h':=h') (t':=tk) (e:=a) (by rw[ea];trivial) (.inl rfl) (fun b u hb e=>k1 b u hb e) ⟨_,k2⟩ (zWM ⟨t0,k2⟩)
  rw[zSK ea]at I2;exact⟨.non,H1,I2,rfl,q⟩
structure XSet(K:qA2)(C:Addr)(f:Str):Prop where
 st:qAj K (.ref C) "__setattr__" = some (some (.builtin "object.__setattr__"))
 ov:PySem.W.excOver K C=true
 tk:qGn K C f=some none
 hd:(qDz K C).any (·.hasDict)=true
def zUV(K:qA2)(ta tv:TE)(f:Str):TS:=fun D σ H=>tv σ H fun y H1=>ta σ H1 fun x H2=>∃e C,x=.ref e/\H2 e=some (L2.xn e (.ref C) none)/\XSet K C f /\
 ∀d,H2 d=none->d≠e->D.nx σ (upd (upd H2 d (.xd [(f,y)])) e (L2.xn e (.ref C) (some d)))
theorem zT6{o value:Expr}{f:Str}{pos':Pos}{ta tv:TE}(ha:PE X o ta)(hv:PE X value tv)(hs:swapsWith value (some (.Attribute o f pos')) pos.line X.env=pure false):PS X (.Assign [.Attribute o f pos'] value pos) (zUV X.K ta tv f):=by
 intro pins s σ H D I h;refine plainObj_wpAny_Assign_Attribute (thn (hv pins s σ H _ I h) fun u s1 ⟨y,H1,I1,ry,q⟩=>thn (ha pins s1 σ H1 _ I1 q) fun ov s2 ⟨x,H2,I2,rx,a,C,ex,ea,c,q2⟩=>?_) hs;subst ex;obtain rfl:ov=Value.ref a:=rx;obtain⟨t1,hg1⟩:=I2.xn ea;refine PySem.W.set_exc I2.kIn hg1 c.st c.ov c.tk c.hd fun h' tk' n1 g2 k2=>?_
 have hdn:H2 s2.heap.objs.size=none:=I2.hok.fresh (qAa _);have hne:s2.heap.objs.size≠a:=fun z=>by rw[z,ea]at hdn;cases hdn
 refine⟨σ,_,?_,q2 s2.heap.objs.size hdn hne⟩;have nb:∀b,H2 b=none->b≠a:=fun b hb z=>by rw[z,ea]at hb;cases hb
 have ndx:∀b o,s2.heap.get? b=some o->b≠s2.heap.objs.size:=fun b o e=>qAr (Heap.lt_size e)
 have oth:∀b,b≠a->b≠s2.heap.objs.size->upd (upd H2 s2.heap.objs.size (.xd [(f,y)])) a (L2.xn a (.ref C) (some s2.heap.objs.size)) b=H2 b:=fun b h1 h2=>by rw[zAJ h1,zAJ h2]
 have tr:∀{b:Addr}{o:HO},H2 b=some o->(∀φ,o≠.ext φ)->upd (upd H2 s2.heap.objs.size (.xd [(f,y)])) a (L2.xn a (.ref C) (some s2.heap.objs.size)) b=some o:=fun{b o} hb hn=>by
  rw[oth b (fun z=>by rw[z,ea]at hb;cases hb;exact hn _ rfl) (fun z=>by rw[z,hdn]at hb;cases hb)];exact hb
 refine I2.un (h':=h') (t':=tk') ⟨fun b o e n _ _=>k2 b o (nb b n) e,fun b o e n _ _=>⟨o.slots,k2 b o (nb b n) e⟩,fun b o e n _=>by rw[oth b (nb b n) (ndx b o e)];exact n,fun b o e _=>?_,fun b xs e=>tr e fun _ z=>(by cases z),fun b o u e=>tr e fun _ z=>(by cases z),fun b ps e=>⟨#[],by rw[Array.append_empty];exact tr e fun _ z=>(by cases z)⟩⟩ fun b u e=>?_
 ·by_cases z:b=a
  ·rw[z];exact⟨_,g2⟩
  ·exact⟨o,k2 b o z e⟩
 ·by_cases z:b=a
  ·subst z;rw[zAI]at e;cases e;exact zWM ⟨t1,g2⟩
  ·rw[zAJ z]at e
   by_cases z':b=s2.heap.objs.size
   ·subst z';rw[zAI]at e;cases e;refine⟨_,n1,fun g=>?_⟩
    by_cases hgf:g=f
    ·subst hgf;simp[qE3,RelO];exact ry
    ·have hb:(g==f)=false:=beq_eq_false_iff_ne.mpr hgf;simp[qE3,hb,hgf,RelO]
   ·rw[zAJ z']at e;refine(I2.hok b u e).stay (fun c w hc q=>k2 c w ?_ q) (fun c q=>?_) fun c xs q=>tr q fun _ z=>(by cases z)
    ·rcases hc with rfl|hc
     ·exact z
     ·intro y;rw[y,ea]at hc;cases hc
    ·exact tr q fun _ z=>(by cases z)
end
end L2
namespace PySem.Xc
open PySem PySem.W
section
variable{prog:Program}{w:World}{A:Around}{E:Value->Shared->Prop}{K:Frag}{x C:Addr}{ox:Obj}{od:Option Obj}{name:Str}{expr fill:Bool}{h:Heap}{g:Array GenState}{d:Drawn}{t:Nat}{os:OsState}
end
structure XIs(K:Frag)(C:Addr):Prop where
 xc:xcIn K C=true
 ga:findIn K (.ref C) "__getattribute__" = some (some (.builtin "BaseException.__getattribute__"))
 gg:findIn K (.ref C) "__getattr__" = some none
 hd:hasDictIn K C=true
 ca:findIn K (.ref C) "__class__" = some (some (.builtin "object.__class__"))
 cg:specialIn K (.builtin "object.__class__") "__get__" = some (some (.builtin "getset_descriptor.__get__"))
 ct:takesIn K (.builtin "object.__class__")=some true
 mo:mroIn K C (.type "object")=some true
end PySem.Xc
namespace L2
open PySem PySem.Spec PyProof.Rows
section
variable{X:Cx}{pins:List (Addr×Obj)}{σ:St}{H:Hp}{s:Shared}{C e d:Addr}{f:Str}{pos:Pos}{ta:TE}
def isX(H:Hp)(e C:Addr)(d:Option Addr):Prop:=H e=some (xn e (.ref C) d)\/H e=some (xo e (.ref C) d)
end
end L2
namespace L2
open PySem PySem.Spec PyProof.Rows
def HasX(P:Program)(w:World)(K:qA2)(mg:Str->Option Value)(base:Heap)(x:Str)(k:Nat)(ps:List Str)(sp:Sp):Prop:=
 ∃f fd,FnOk P w K mg base (CXe P w) k f fd ps sp/\mg x=some (.ref f)/\qB0 K (.ref f)=true/\Binds K fd ps []
section
variable{P:Program}{w:World}{K:qA2}{mg:Str->Option Value}{base:Heap}{x:Str}{k:Nat}{ps N:List Str}{sp sp':Sp}{st:Stmt}
theorem Fun.okX{y qual:Str}{f:Addr}{fd:FuncData}(F:Fun K y qual st f fd)(S:FnScope N ps (zAB st))(len:∀vs H Q E,sp vs H Q E->vs.length=ps.length)
  (hbody:∀(cdv:Value)(A:Around)(outer:List Env)(s:Shared)(H:Hp)(vs:List V)(Q:VK)(E:XK),Room k (A.deeper (envOfC qual (zAB st) s.heap.objs.size f cdv))->sp vs H Q E ->
   ∃t,PSs (cxOf (CXe P w) P w K mg base N qual (zAB st) f cdv A outer s H E) (zBE st) t/\t { nx:=fun _ H'=>Q .non H',rt:=Q } (start N vs) H):FnOk P w K mg base (CXe P w) (k+1) f fd ps sp:=by
 obtain⟨oc,od,kV,doc,pm,an,cdv,ct,osl,rfl,lk,hcd⟩:=F.ex;exact za2 lk hcd S len fun A outer s H vs Q E hr hsp=>hbody cdv A outer s H vs Q E hr hsp
theorem Def.okX(D:Def K mg x st)(S:FnScope N ps (zAB st))
  (hb:∀(kV doc pm:Value)(an:Option Addr)(cdv ct:Value)(us:List Value),us.length=ps.length->bindArgs (qBk x x (zCM st) (zBE st) (zAB st) .none kV doc pm an cdv ct) ⟨us,[]⟩=pure (ps.zip us))
  (len:∀vs H Q E,sp vs H Q E->vs.length=ps.length)
  (hbody:∀(f:Addr)(cdv:Value)(A:Around)(outer:List Env)(s:Shared)(H:Hp)(vs:List V)(Q:VK)(E:XK),Room k (A.deeper (envOfC x (zAB st) s.heap.objs.size f cdv))->sp vs H Q E ->
   ∃t,PSs (cxOf (CXe P w) P w K mg base N x (zAB st) f cdv A outer s H E) (zBE st) t/\t { nx:=fun _ H'=>Q .non H',rt:=Q } (start N vs) H):HasX P w K mg base x (k+1) ps sp:=by
 obtain⟨f,fd,F,m⟩:=D;exact⟨f,fd,F.okX S len (fun cdv A outer s H vs Q E hr h=>hbody f cdv A outer s H vs Q E hr h),m,F.kp,F.binds hb⟩
theorem zE5{qual:Str}{scope:Scope}{f:Addr}{cd:Value}{A:Around}{outer:List Env}{s:Shared}{H:Hp}{E:XK}:Flies (cxOf (CXe P w) P w K mg base N qual scope f cd A outer s H E) E:=fun _ _ _ _ h=>zXP (fun _ _ _ z=>z) h
end
section
variable{X:Cx}{x:Str}{j k:Nat}{ps:List Str}{sp:Sp}{e:Expr}{es:List Expr}{t:TA}{p pos:Pos}{E:XK}
theorem zIN:Flies X E0:=fun _ _ _ _ z0=>by
 obtain⟨_,_,_,_,_,_,_,_,_,_,_,h⟩:=z0;exact h.elim
theorem zGM(h:HasX X.prog X.w X.K X.mg X.base x j ps sp)(hjk:j<=k)(hr:Room k X.A)(hf:Flies X E)(hg:Gl X x)(ha:PA X (e::es) t)(hdb:(x==("__debug__":Str))=false:=by decide)
  (he:starEach (e::es) X.env=(false,eval e X.env)::starEach es X.env:=by rfl) (hpl:(backTo pos (starEach es X.env)).any (·.1)=false:=by rfl):PE X (.Call (.Name x p) (e::es) [] pos) (zM0 sp [] E t):=by
 obtain⟨f,fd,G,m,kp,b⟩:=h;exact zQT G (hr.mono hjk) hg m kp b .nil hf.passes ha hdb he hpl
end
end L2
namespace Att
open PySem PySem.W PySem.Calls PyProof.Rows
theorem zVZ{ns:List Int}(h:WData.weightAll (ns.map WData.int)<=2 ^ 20):∀i∈ns,i.natAbs.log2<2 ^ 20:=by
 induction ns with
 |nil=>intro i hi;cases hi
 |cons n r ih=>
  rw[qAn,WData.weightAll]at h;intro i hi
  rcases qAk.mp hi with rfl|hi
  ·rw[WData.weight]at h
   split at h
   ·rename_i z
    have:i=0:=beq_iff_eq.mp z
    subst this
    decide
   ·lia
  ·exact ih (by lia) i hi
theorem attach_callW{l:OpenLaw}{n:Nat}{q:Program}{loose:List Str}{XP:(Str->Option Value)->Heap->Prop}{YP:World->Heap->Prop}{d:DefRec}
  (hn:l.most=some n) (hdf:d.params.defaults=[])
  (call:∀(w:World)(s₀ s₁:Shared)(mg mb:Str->Option Value)(fa:Addr)(o:Obj)(pm cd doc:Value)(a:Addr)(vs:List Value)(ns:List Int),
   Ground q loose [] XP w s₀ mg mb s₁.heap->YP w s₁.heap ->
   s₁.heap.get? fa=some o->o.data=.func (docDef d.name d.params d.body d.scope pm cd doc)->s₁.heap.CodeRec cd d.name->mg d.name=some (.ref fa) ->
   s₁.heap.get? a=some { cls:=.type "list",data:=.seq vs.toArray }->IntsAre vs ns->ns.length<=n->(∀i∈ns,i.natAbs.log2<2 ^ 20)->s₁.gens=#[] ->
   codeAny (model l.prog w) callerA (.call (.ref fa) ⟨[.ref a],[]⟩) (fun r s'=>r=.ok (.ret (.bool true))/\OldK s₁.heap s'.heap/\s'.os=s₁.os/\AllBare s'.gens) s₁) :
  WalkO q loose XP YP l.row.toRowW d [] (fun f vs=>qHk f vs):=by
 intro w s₀ s₁ mg mb G Y fa o pm cd doc dV kV ho hd hcd hD hmg hg args vals as hpre hlay hrd hwl hlo;obtain rfl:dV=.none:=Dflts.none hD hdf;obtain rfl:kV=.none:=Dflts.noKw hD;obtain⟨a,vs,ns,rfl,rfl,hobj,hints,hlen⟩:=zQ5 hn hpre hwl;have hw:∀i∈ns,i.natAbs.log2<2 ^ 20:=by
  have hl:WData.layableAll [WData.list (ns.map WData.int)]=true:=hlay;simp only[WData.layableAll,qEj,List.all_nil,qEm,WData.layable,qBp,decide_eq_true_eq]at hl;exact zVZ (by have:=hl.2;rw[WData.weight]at this;exact this)
 refine enter_call (codeAny_mono (call w s₀ s₁ mg mb fa o pm cd doc a vs ns G Y ho (fd_plain hd) hcd hmg hobj hints hlen hw hg) fun r s' hq=>?_);obtain⟨rfl,h2,h3,h4⟩:=hq;exact⟨.inl ⟨.bool true,.bool true,[],rfl,fun _=>rfl,.bool true,zQM l _,fun _=>⟨qFw,fun _ hm=>(nomatch hm)⟩⟩,h2,h3,h4⟩
end Att
namespace L2
open PySem PySem.Spec PyProof.Rows
theorem walk_ofW{l:qF5}{n k:Nat}{q:Program}{loose:List Str}{XP:(Str->Option Value)->Heap->Prop}{YP:World->Heap->Prop}{d:DefRec}{K:Params->qA2}{CX:World->CXT}{sp:World->Sp}{x:Str}
  (hn:l.most=some n) (hn2:n<=sizeLine) (hdf:d.params.defaults=[]) (hr:Room k callerA)
  (hY:∀(w:World)(h:Heap),YP w h->(K w.params).In h)
  (F:∀(w:World)(mg:Str->Option Value)(fa:Addr)(h:Heap),(K w.params).In h->h.Ns mainGlobals mg->mg d.name=some (.ref fa) ->
   ∃fd:FuncData,(∀(s:Shared)(u:Value),BindsTo s fd ⟨[u],[]⟩ [(x,u)]) /\
    ∀base:Heap,(K w.params).In base->base.Ns mainGlobals mg->FnOk l.prog w (K w.params) mg base (CX w) k fa fd [x] (sp w))
  (hsp:∀(w:World)(H:Hp)(a:Addr)(ns:List Int),ns.length<=n->(∀i∈ns,i.natAbs.log2<2 ^ 20)->Only H->SqL (K w.params) H a (ns.map V.int)->sp w [.ref a] H (fun v _=>v=.bl true) fun _ _ _=>False)
  (hCX:∀(w:World)(H:Hp)(s:Shared)(e:Value)(s':Shared),CX w [] H s (fun _ _ _=>False) e s'->False) :
  qHl q loose XP YP l.row.toRowW d [] (fun f vs=>qHk f vs):=by
 refine Att.attach_callW hn hdf fun w s₀ s₁ mg mb fa o pm cd doc a vs ns G Y ho hd hcd hmg hobj hints hlen hw hg=>?_
 have KX:=hY w _ Y;obtain⟨fd,hb,hF⟩:=F w mg fa _ KX G.T.g hmg;exact zTQ KX G.T.g G.T.b G.T.builtins G.T.nolimit hg hobj hints (qAo hlen hn2) hr hF hb (fun H hO hS=>hsp w H a ns hlen hw hO hS) fun H e s'=>hCX w H s₁ e s'
def MulOk(i j:Int):Prop:=((-(2 ^ 64)<i/\i<2 ^ 64)\/(-(2 ^ 64)<j/\j<2 ^ 64))\/i.natAbs.log2+j.natAbs.log2<=67108864
theorem zS8(i:Int):Builtin.Int.intBits i<=i.natAbs.log2+1:=by
 unfold Builtin.Int.intBits
 split<;>lia
theorem MulOk.ok{i j:Int}(h:MulOk i j):IntMulOk i j:=by
 rcases h with h|h
 ·exact CMul.ok h
 ·unfold IntMulOk;have h1:=zS8 i;have h2:=zS8 j;have h3:Builtin.Int.intTooBig ((Builtin.Int.intBits i:Int)+(Builtin.Int.intBits j:Int))=false:=by
   unfold Builtin.Int.intTooBig
   have:(bitsLine:Int)=134217728:=by decide
   rw[this];simp only[gt_iff_lt,decide_eq_false_iff_not,Int.not_lt]
   lia
  rw[h3,qD0];exact qAe
section
variable{X:Cx}
noncomputable def zYT:R2:=fun x y H Q=>match x,y with
 |.int i,.int j=>MulOk i j/\Q (.int (i*j)) H
 |_,_=>False
theorem zWJ:OpR X (binaryOp .Mult) (rI MulOk fun i j=>.int (i*j)):=opI fun _ _ _ _ _ _ _ hc q=>mul_int q hc.ok
theorem zCP:OpR X (binaryOp .Mult) zYT:=by
 intro pins s σ H x y v u Q I rx ry h;cases x<;>cases y<;>first
  |exact zWJ pins s σ H _ _ v u Q I rx ry ⟨_,_,rfl,rfl,h.1,h.2⟩
  |exact qA7 h
noncomputable def zYV:R2:=fun x y H Q=>match x,y with
 |.int i,.int j=>(0<j/\j<1000000000000000000000000)/\Q (.int (i/j)) H
 |_,_=>False
theorem log2_lt{n:Nat}(h:n<1000000000000000000000000):n.log2<9000:=by
 by_cases z:n=0
 ·subst z;decide
 ·have h2:n<2 ^ 80:=by lia
  have:=(Nat.log2_lt z).mpr h2
  lia
theorem zWK:OpR X (binaryOp .FloorDiv) (rI (fun _ j=>0<j/\j<1000000000000000000000000) fun i j=>.int (i/j)):=opI fun i j _ _ _ _ _ hc q=>by
 have h1:(0:Int)<j:=hc.1;have h2:j<1000000000000000000000000:=hc.2;exact floordiv_int (by lia) (by rw[qE7 i (by lia)];exact q) (.inl (PyProof.noPylong_of_log2 (log2_lt (by lia))))
theorem zEN:OpR X (binaryOp .FloorDiv) zYV:=by
 intro pins s σ H x y v u Q I rx ry h;cases x<;>cases y<;>first
  |exact zWK pins s σ H _ _ v u Q I rx ry ⟨_,_,rfl,rfl,h.1,h.2⟩
  |exact qA7 h
end
end L2
namespace L3
open PySem PySem.Spec
open L2 hiding Rep RepL
open Mi (Dt Xn R okR zA4 optR zA0 zAD zAH zA8 zAF Rh Sl Ro EM TM AM FM IM SM Tg Out zAS zAT zAY full frz frz1 frzAt)
class Kc where
 K:qA2
variable[Kc]
noncomputable def clK(K:qA2)(c:Str):Option Addr:=match qC7 K mainGlobals c with
 |some (some (.ref C))=>some C
 |_=>none
def SqR(K:qA2)(H:Hp)(a:Addr)(xs:List V):Prop:=SqL K H a xs\/SqT K H a xs
theorem zHC{K:qA2}{H H':Hp}{a:Addr}{xs:List V}(e:Same H H')(h:SqT K H a xs):SqT K H' a xs:=by
 rcases h with(h|⟨o,h⟩)|h
 ·exact .inl (.inl (e _ _ h))
 ·exact .inl (.inr ⟨o,e _ _ h⟩)
 ·exact .inr h
theorem zFA{K:qA2}{H H':Hp}{a:Addr}{xs:List V}(e:Same H H')(h:SqR K H a xs):SqR K H' a xs:=h.imp (fun z=>e.seq z) fun z=>zHC e z
noncomputable def svV:Mi.Sv->V
 |.i n=>.int n
 |.s x=>.str x
noncomputable def swV:Mi.Sw->V
 |.non=>.non
 |.bl b=>.bl b
 |.int i=>.int i
 |.str x=>.str x
mutual
def Rep(H:Hp):Dt->V->Prop
 |.non,v=>v=.non
 |.bl b,v=>v=.bl b
 |.int i,v=>v=.int i
 |.str x,v=>v=.str x
 |.lst ds,v=>∃a xs,v=.ref a/\H a=some (.lst xs)/\RepL H ds xs
 |.tup ds,v=>∃a xs,v=.ref a/\H a=some (.tup xs)/\RepL H ds xs
 |.scr ns,v=>∃a,v=.ref a/\SqR Kc.K H a (ns.map V.int)
 |.exc c f d,v=>∃e C da,v=.ref e/\isX H e C da/\clK Kc.K c=some C/\((da=none/\f = "")\/∃a gs w,da=some a/\H a=some (.xd gs)/\gs.lookup f=some w/\Rep H d w)
 |.ins c fs,v=>∃a C dx,v=.ref a/\clK Kc.K c=some C/\H a=some (.ins C dx (fs.map fun p=>(p.1,svV p.2)))
 |.dct kvs,v=>∃a,v=.ref a/\H a=some (.dK (kvs.map fun p=>(p.1,swV p.2)))
def RepL(H:Hp):List Dt->List V->Prop
 |[],xs=>xs=[]
 |d::r,xs=>∃x q,xs=x::q/\Rep H d x/\RepL H r q
end
mutual
theorem Rep.mono{H H':Hp}(s:Same H H'):∀{d:Dt}{v:V},Rep H d v->Rep H' d v
 |.non,_,h=>h
 |.bl _,_,h=>h
 |.int _,_,h=>h
 |.str _,_,h=>h
 |.lst _,_,h=>by obtain⟨a,xs,e,e',r⟩:=h;exact⟨a,xs,e,s _ _ e',RepL.mono s r⟩
 |.tup _,_,h=>by obtain⟨a,xs,e,e',r⟩:=h;exact⟨a,xs,e,s _ _ e',RepL.mono s r⟩
 |.scr _,_,h=>by obtain⟨a,e,e'⟩:=h;exact⟨a,e,zFA s e'⟩
 |.exc _ _ _,_,h=>by
  obtain⟨a,C,da,e,e',hc,r⟩:=h;refine⟨a,C,da,e,e'.imp (fun z=>s _ _ z) fun z=>s _ _ z,hc,r.imp (fun z=>z) ?_⟩
  rintro⟨b,gs,w,h1,h2,h3,h4⟩
  exact⟨b,gs,w,h1,s _ _ h2,h3,Rep.mono s h4⟩
 |.ins _ _,_,h=>by obtain⟨a,C,dx,e,hc,h1⟩:=h;exact⟨a,C,dx,e,hc,s _ _ h1⟩
 |.dct _,_,h=>by obtain⟨a,e,h1⟩:=h;exact⟨a,e,s _ _ h1⟩
theorem RepL.mono{H H':Hp}(s:Same H H'):∀{ds:List Dt}{xs:List V},RepL H ds xs->RepL H' ds xs
 |[],_,h=>h
 |_::_,_,h=>by obtain⟨x,q,e,r,t⟩:=h;exact⟨x,q,e,Rep.mono s r,RepL.mono s t⟩
end
theorem RepL.length{H:Hp}:∀{ds:List Dt}{xs:List V},RepL H ds xs->xs.length=ds.length
 |[],_,h=>by cases h;rfl
 |_::_,_,h=>by obtain⟨x,q,e,r,t⟩:=h;subst e;simp[RepL.length t]
mutual
def conv:Dt->L2.Dat
 |.non=>.non
 |.bl b=>.bl b
 |.int i=>.int i
 |.str x=>.str x
 |.lst ds=>.lst (convL ds)
 |.tup ds=>.tup (convL ds)
 |.scr _=>.non
 |.exc _ _ _=>.non
 |.ins _ _=>.non
 |.dct _=>.non
def convL:List Dt->List L2.Dat
 |[]=>[]
 |d::r=>conv d::convL r
end
mutual
theorem zFP:∀{d:Dt},d.dep<=40->(conv d).dep<=d.dep
 |.non,_=>qAa _
 |.bl _,_=>qAa _
 |.int _,_=>qAa _
 |.str _,_=>qAa _
 |.lst ds,h=>by rw[Dt.dep]at h ⊢;rw[conv,L2.Dat.dep];have:=conv_depL (ds:=ds) (by lia);lia
 |.tup ds,h=>by rw[Dt.dep]at h ⊢;rw[conv,L2.Dat.dep];have:=conv_depL (ds:=ds) (by lia);lia
 |.scr _,h=>by rw[Dt.dep]at h;lia
 |.exc _ _ _,h=>by rw[Dt.dep]at h;lia
 |.ins _ _,h=>by rw[Dt.dep]at h;lia
 |.dct _,h=>by rw[Dt.dep]at h;lia
theorem conv_depL:∀{ds:List Dt},Dt.depL ds<=40->L2.Dat.depL (convL ds)<=Dt.depL ds
 |[],_=>qAa _
 |d::r,h=>by
  rw[Dt.depL]at h ⊢;rw[convL,L2.Dat.depL];have h1:=zFP (d:=d) (by lia);have h2:=conv_depL (ds:=r) (by lia)
  lia
end
mutual
theorem zEH{H:Hp}:∀{d:Dt}{v:V},d.dep<=40->Rep H d v->L2.Rep H (conv d) v
 |.non,_,_,h=>h
 |.bl _,_,_,h=>h
 |.int _,_,_,h=>h
 |.str _,_,_,h=>h
 |.lst ds,_,hd,h=>by obtain⟨a,xs,e,e',r⟩:=h;exact⟨a,xs,e,e',conv_repL (by rw[Dt.dep]at hd;lia) r⟩
 |.tup ds,_,hd,h=>by obtain⟨a,xs,e,e',r⟩:=h;exact⟨a,xs,e,e',conv_repL (by rw[Dt.dep]at hd;lia) r⟩
 |.scr _,_,h,_=>by rw[Dt.dep]at h;lia
 |.exc _ _ _,_,h,_=>by rw[Dt.dep]at h;lia
 |.ins _ _,_,h,_=>by rw[Dt.dep]at h;lia
 |.dct _,_,h,_=>by rw[Dt.dep]at h;lia
theorem conv_repL{H:Hp}:∀{ds:List Dt}{xs:List V},Dt.depL ds<=40->RepL H ds xs->L2.RepL H (convL ds) xs
 |[],_,_,h=>h
 |d::r,_,hd,h=>by
  rw[Dt.depL]at hd;obtain⟨x,q,e,a,b⟩:=h;exact⟨x,q,e,zEH (by lia) a,conv_repL (by lia) b⟩
end
mutual
theorem zMR:∀{d e:Dt},d.dep<=40->e.dep<=40->L2.Dat.eq (conv d) (conv e)=Dt.eq d e
 |.scr _,_,h,_=>by rw[Dt.dep]at h;lia
 |.exc _ _ _,_,h,_=>by rw[Dt.dep]at h;lia
 |.ins _ _,_,h,_=>by rw[Dt.dep]at h;lia
 |.dct _,_,h,_=>by rw[Dt.dep]at h;lia
 |.lst ds,e,h,h'=>by
  rw[Dt.dep]at h;cases e with
  |lst es=>rw[Dt.dep]at h';rw[conv,conv,L2.Dat.eq,Dt.eq];exact conv_eqL (by lia) (by lia)
  |scr _=>rw[Dt.dep]at h';lia
  |exc _ _ _=>rw[Dt.dep]at h';lia
  |ins _ _=>rw[Dt.dep]at h';lia
  |dct _=>rw[Dt.dep]at h';lia
  |_=>simp[conv,L2.Dat.eq,Dt.eq]
 |.tup ds,e,h,h'=>by
  rw[Dt.dep]at h;cases e with
  |tup es=>rw[Dt.dep]at h';rw[conv,conv,L2.Dat.eq,Dt.eq];exact conv_eqL (by lia) (by lia)
  |scr _=>rw[Dt.dep]at h';lia
  |exc _ _ _=>rw[Dt.dep]at h';lia
  |ins _ _=>rw[Dt.dep]at h';lia
  |dct _=>rw[Dt.dep]at h';lia
  |_=>simp[conv,L2.Dat.eq,Dt.eq]
 |.non,e,_,h'=>by
  cases e with
  |scr _=>rw[Dt.dep]at h';lia
  |exc _ _ _=>rw[Dt.dep]at h';lia
  |ins _ _=>rw[Dt.dep]at h';lia
  |dct _=>rw[Dt.dep]at h';lia
  |_=>simp[conv,L2.Dat.eq,Dt.eq]
 |.bl _,e,_,h'=>by
  cases e with
  |scr _=>rw[Dt.dep]at h';lia
  |exc _ _ _=>rw[Dt.dep]at h';lia
  |ins _ _=>rw[Dt.dep]at h';lia
  |dct _=>rw[Dt.dep]at h';lia
  |_=>simp[conv,L2.Dat.eq,Dt.eq]
 |.int _,e,_,h'=>by
  cases e with
  |scr _=>rw[Dt.dep]at h';lia
  |exc _ _ _=>rw[Dt.dep]at h';lia
  |ins _ _=>rw[Dt.dep]at h';lia
  |dct _=>rw[Dt.dep]at h';lia
  |_=>simp[conv,L2.Dat.eq,Dt.eq]
 |.str _,e,_,h'=>by
  cases e with
  |scr _=>rw[Dt.dep]at h';lia
  |exc _ _ _=>rw[Dt.dep]at h';lia
  |ins _ _=>rw[Dt.dep]at h';lia
  |dct _=>rw[Dt.dep]at h';lia
  |_=>simp[conv,L2.Dat.eq,Dt.eq]
theorem conv_eqL:∀{ds es:List Dt},Dt.depL ds<=40->Dt.depL es<=40->L2.Dat.eqL (convL ds) (convL es)=Dt.eqL ds es
 |[],[],_,_=>by simp[convL,L2.Dat.eqL,Dt.eqL]
 |[],_::_,_,_=>by simp[convL,L2.Dat.eqL,Dt.eqL]
 |_::_,[],_,_=>by simp[convL,L2.Dat.eqL,Dt.eqL]
 |d::r,e::t,h,h'=>by
  rw[Dt.depL]at h h';rw[convL,convL,L2.Dat.eqL,Dt.eqL,zMR (by lia) (by lia),conv_eqL (by lia) (by lia)]
end
theorem zD0{G:Hp}:∀{ds:List Dt}{xs:List V}{q:Nat}{d:Dt}{x:V},RepL G ds xs->ds[q]?=some d->xs[q]?=some x->Rep G d x
 |[],_,_,_,_,_,h,_=>by simp at h
 |d::r,xs,0,e,y,h,h1,h2=>by
  obtain⟨x,t,rfl,a,b⟩:=h;simp at h1 h2;subst h1;subst h2;exact a
 |d::r,xs,q+1,e,y,h,h1,h2=>by
  obtain⟨x,t,rfl,a,b⟩:=h;exact zD0 b (by simpa using h1) (by simpa using h2)
theorem zG2{G:Hp}:∀{ds:List Dt}{xs:List V},xs.length=ds.length->(∀(q:Nat)(d:Dt)(x:V),ds[q]?=some d->xs[q]?=some x->Rep G d x)->RepL G ds xs
 |[],[],_,_=>rfl
 |[],_::_,h,_=>by simp at h
 |_::_,[],h,_=>by simp at h
 |d::r,x::t,h,k=>⟨x,t,rfl,k 0 d x rfl rfl,zG2 (by simpa using h) fun q e y h1 h2=>k (q+1) e y (by simpa using h1) (by simpa using h2)⟩
theorem zF7{n:Nat}:∀{ds:List Dt},Dt.depL ds<=n->∀{q:Nat}{d:Dt},ds[q]?=some d->d.dep<=n
 |[],_,_,_,h=>by simp at h
 |e::r,h,0,d,h1=>by simp at h1;subst h1;rw[Dt.depL]at h;lia
 |e::r,h,q+1,d,h1=>by rw[Dt.depL]at h;exact zF7 (ds:=r) (by lia) (q:=q) (by simpa using h1)
structure Kids(P:(Addr->Prop)->Dt->V->Prop)(S:Addr->Prop)(a:Addr)(ds:List Dt)(xs:List V)(T:Nat->Addr->Prop):Prop where
 len:xs.length=ds.length
 own:∀(q:Nat)(d:Dt)(x:V),ds[q]?=some d->xs[q]?=some x->P (T q) d x
 top:S a
 out:∀q,¬T q a
 dis:∀q r b,T q b->T r b->q=r
 sub:∀q b,T q b->S b
def Own(G H:Hp):Nat->(Addr->Prop)->Dt->V->Prop
 |0,_,d,v=>Rep G d v
 |n+1,S,d,v=>match d with
  |.lst ds=>∃a xs T,v=.ref a/\H a=some (.lst xs)/\Kids (Own G H n) S a ds xs T
  |.tup ds=>∃a xs T,v=.ref a/\H a=some (.tup xs)/\Kids (Own G H n) S a ds xs T
  |.dct kvs=>∃a,v=.ref a/\H a=some (.dK (kvs.map fun p=>(p.1,swV p.2)))/\S a
  |d=>Rep G d v
theorem Kids.imp{P P':(Addr->Prop)->Dt->V->Prop}{S S':Addr->Prop}{a:Addr}{ds:List Dt}{xs:List V}{T:Nat->Addr->Prop}(k:Kids P S a ds xs T)
  (h:∀q d x,ds[q]?=some d->P (T q) d x->P' (T q) d x) (hs:∀b,S b->S' b):Kids P' S' a ds xs T:=
 ⟨k.len,fun q d x h1 h2=>h q d x h1 (k.own q d x h1 h2),hs _ k.top,k.out,k.dis,fun q b t=>hs _ (k.sub q b t)⟩
theorem Own.mono{G G' H H':Hp}(sG:Same G G')(sH:Same H H'):∀{n:Nat}{S:Addr->Prop}{d:Dt}{v:V},Own G H n S d v->Own G' H' n S d v
 |0,S,d,v,h=>Rep.mono sG h
 |n+1,S,d,v,h=>by
  cases d with
  |lst ds=>obtain⟨a,xs,T,e,ha,k⟩:=h;exact⟨a,xs,T,e,sH _ _ ha,k.imp (fun _ _ _ _ p=>Own.mono sG sH p) fun _ z=>z⟩
  |tup ds=>obtain⟨a,xs,T,e,ha,k⟩:=h;exact⟨a,xs,T,e,sH _ _ ha,k.imp (fun _ _ _ _ p=>Own.mono sG sH p) fun _ z=>z⟩
  |dct kvs=>obtain⟨a,e,ha,hs⟩:=h;exact⟨a,e,sH _ _ ha,hs⟩
  |_=>exact Rep.mono sG h
theorem Own.sub{G H:Hp}{n:Nat}{S S':Addr->Prop}{d:Dt}{v:V}(h:Own G H n S d v)(hs:∀b,S b->S' b):Own G H n S' d v:=by
 cases n with
 |zero=>exact h
 |succ n=>
  cases d with
  |lst ds=>obtain⟨a,xs,T,e,ha,k⟩:=h;exact⟨a,xs,T,e,ha,k.imp (fun _ _ _ _ p=>p) hs⟩
  |tup ds=>obtain⟨a,xs,T,e,ha,k⟩:=h;exact⟨a,xs,T,e,ha,k.imp (fun _ _ _ _ p=>p) hs⟩
  |dct kvs=>obtain⟨a,e,ha,h2⟩:=h;exact⟨a,e,ha,hs _ h2⟩
  |_=>exact h
theorem Own.rep{G H J:Hp}(sG:Same G J):∀{n:Nat}{S:Addr->Prop}{d:Dt}{v:V},Own G H n S d v->(∀a o,S a->H a=some o->J a=some o)->Rep J d v
 |0,S,d,v,h,_=>Rep.mono sG h
 |n+1,S,d,v,h,hj=>by
  cases d with
  |lst ds=>obtain⟨a,xs,T,e,ha,k⟩:=h;exact⟨a,xs,e,hj _ _ k.top ha,zG2 k.len fun q d x h1 h2=>Own.rep sG (k.own q d x h1 h2) fun b o t hb=>hj b o (k.sub q b t) hb⟩
  |tup ds=>obtain⟨a,xs,T,e,ha,k⟩:=h;exact⟨a,xs,e,hj _ _ k.top ha,zG2 k.len fun q d x h1 h2=>Own.rep sG (k.own q d x h1 h2) fun b o t hb=>hj b o (k.sub q b t) hb⟩
  |dct kvs=>obtain⟨a,e,ha,hs⟩:=h;exact⟨a,e,hj _ _ hs ha⟩
  |_=>exact Rep.mono sG h
theorem Own.at{G G2 H:Hp}:∀{n k:Nat}{S:Addr->Prop}{d:Dt}{v:V},Own G H n S d v->d.dep<=n->d.dep<=k->n<1000->Own G2 H k S d v
 |n,k,S,d,v,h,hn,hk,hz=>by
  cases d with
  |lst ds=>
   rw[Dt.dep]at hn hk;cases n with
   |zero=>lia
   |succ n=>
    cases k with
    |zero=>lia
    |succ k=>
     obtain⟨a,xs,T,e,ha,kd⟩:=h;refine⟨a,xs,T,e,ha,kd.imp (fun q d x h1 p=>?_) fun _ z=>z⟩;exact Own.at p (zF7 (by lia) h1) (zF7 (by lia) h1) (by lia)
  |tup ds=>
   rw[Dt.dep]at hn hk;cases n with
   |zero=>lia
   |succ n=>
    cases k with
    |zero=>lia
    |succ k=>
     obtain⟨a,xs,T,e,ha,kd⟩:=h;refine⟨a,xs,T,e,ha,kd.imp (fun q d x h1 p=>?_) fun _ z=>z⟩;exact Own.at p (zF7 (by lia) h1) (zF7 (by lia) h1) (by lia)
  |non=>cases n<;>cases k<;>exact h
  |bl b=>cases n<;>cases k<;>exact h
  |int i=>cases n<;>cases k<;>exact h
  |str x=>cases n<;>cases k<;>exact h
  |scr ns=>rw[Dt.dep]at hn;lia
  |exc _ _ _=>rw[Dt.dep]at hn;lia
  |ins _ _=>rw[Dt.dep]at hn;lia
  |dct _=>rw[Dt.dep]at hn;lia
termination_by n=>n
theorem Own.scalar{G H G2 H2:Hp}{n k:Nat}{S S2:Addr->Prop}{d:Dt}{v:V}(h:Own G H n S d v)(hd:d.dep=0):Own G2 H2 k S2 d v:=by
 cases d with
 |lst ds=>rw[Dt.dep]at hd;lia
 |tup ds=>rw[Dt.dep]at hd;lia
 |non=>cases n<;>cases k<;>exact h
 |bl b=>cases n<;>cases k<;>exact h
 |int i=>cases n<;>cases k<;>exact h
 |str x=>cases n<;>cases k<;>exact h
 |scr ns=>rw[Dt.dep]at hd;lia
 |exc _ _ _=>rw[Dt.dep]at hd;lia
 |ins _ _=>rw[Dt.dep]at hd;lia
 |dct _=>rw[Dt.dep]at hd;lia
theorem zZ6{G H:Hp}{n:Nat}{S:Addr->Prop}{d:Dt}{v:V}(h:Rep G d v)(hd:d.dep=0):Own G H n S d v:=Own.scalar (n:=0) (G:=G) (H:=H) (S:=S) h hd
theorem Own.upd{G H:Hp}{p:Addr}{o:HO}:∀{n:Nat}{S:Addr->Prop}{d:Dt}{v:V},Own G H n S d v->¬S p->Own G (upd H p o) n S d v
 |0,S,d,v,h,_=>h
 |n+1,S,d,v,h,hp=>by
  cases d with
  |lst ds=>
   obtain⟨a,xs,T,e,ha,k⟩:=h;have hap:a≠p:=fun z=>hp (z▸k.top)
   exact⟨a,xs,T,e,(zAJ hap).trans ha,k.imp (fun q _ _ _ w=>Own.upd w fun z=>hp (k.sub q _ z)) fun _ z=>z⟩
  |tup ds=>
   obtain⟨a,xs,T,e,ha,k⟩:=h;have hap:a≠p:=fun z=>hp (z▸k.top)
   exact⟨a,xs,T,e,(zAJ hap).trans ha,k.imp (fun q _ _ _ w=>Own.upd w fun z=>hp (k.sub q _ z)) fun _ z=>z⟩
  |dct kvs=>
   obtain⟨a,e,ha,hs⟩:=h;have hap:a≠p:=fun z=>hp (z▸hs)
   exact⟨a,e,(zAJ hap).trans ha,hs⟩
  |_=>exact h
structure Ext(G H G' H':Hp):Prop where
 g:Same G G'
 h:Same H H'
 in':Same G' H'
 old:∀b,H b≠none->G' b=G b
theorem Ext.refl{G H:Hp}(s:Same G H):Ext G H G H:=⟨Same.refl _,Same.refl _,s,fun _ _=>rfl⟩
theorem _root_.L2.Same.some{H H':Hp}(s:Same H H'){b:Addr}(h:H b≠qFj):H' b≠qFj:=by
 cases e:H b with
 |none=>exact absurd e h
 |some o=>rw[s _ _ e];simp
theorem Ext.trans{G H G1 H1 G2 H2:Hp}(a:Ext G H G1 H1)(b:Ext G1 H1 G2 H2):Ext G H G2 H2:=
 ⟨a.g.trans b.g,a.h.trans b.h,b.in',fun c hc=>(b.old c (a.h.some hc)).trans (a.old c hc)⟩
structure Fr(G H G' H':Hp)(S:Addr->Prop):Prop where
 ext:Ext G H G' H'
 new:∀a,S a->H a=none/\G' a=none/\H' a≠none
open Classical in
noncomputable def over(G H:Hp)(S:Addr->Prop):Hp:=fun b=>if S b then H b else G b
theorem zF2{G H:Hp}{S:Addr->Prop}{a:Addr}(h:S a):over G H S a=H a:=by unfold over;rw[if_pos h]
theorem zCS{G H:Hp}{S:Addr->Prop}{a:Addr}(h:¬S a):over G H S a=G a:=by unfold over;rw[if_neg h]
theorem zDZ{G H:Hp}{S:Addr->Prop}(s:Same G H):Same G (over G H S)/\Same (over G H S) H:=by
 constructor
 ·intro b o e
  by_cases z:S b
  ·rw[zF2 z];exact s _ _ e
  ·rw[zCS z];exact e
 ·intro b o e
  by_cases z:S b
  ·rw[zF2 z]at e;exact e
  ·rw[zCS z]at e;exact s _ _ e
theorem Fr.frz{G H G' H':Hp}{S:Addr->Prop}{n:Nat}{d:Dt}{v:V}(f:Fr G H G' H' S)(o:Own G' H' n S d v):Ext G H (over G' H' S) H'/\Rep (over G' H' S) d v:=by
 obtain⟨s1,s2⟩:=zDZ (S:=S) f.ext.in';refine⟨⟨f.ext.g.trans s1,f.ext.h,s2,fun b hb=>?_⟩,o.rep s1 fun a u ha e=>by rw[zF2 ha];exact e⟩;have z:¬S b:=fun z=>hb (f.new b z).1
 rw[zCS z];exact f.ext.old b hb
structure View(G:Hp)(σ:St)(ρ:Rh):Prop where
 len:ρ.length=σ.length
 «at»:∀(i:Nat)(d:Dt),ρ[i]?=some (some d)->∃v,σ[i]?=some (some v)/\Rep G d v
theorem View.mono{G G':Hp}{σ:St}{ρ:Rh}(s:Same G G')(h:View G σ ρ):View G' σ ρ:=⟨h.len,fun i d e=>let⟨v,a,b⟩:=h.at i d e;⟨v,a,Rep.mono s b⟩⟩
def XRep(mg:Str->Option Value)(x:Xn)(c:Value)(da:Option Addr)(G H:Hp):Prop:=
 ∃e C,c=.ref e/\G e=some (xo e (.ref C) da)/\clK Kc.K x.cls=some C/\((da=none/\x.f = "")\/∃a gs w,da=some a/\G a=some (.xd gs)/\gs.lookup x.f=some w/\Rep G x.d w)
def PostE(mg:Str->Option Value)(E:XK)(G H:Hp)(n:Nat)(r:R Dt)(Q:VK):Prop:=match r with
 |none=>False
 |some (.error x)=>∀c da G' H',Ext G H G' H'->XRep mg x c da G' H'->E c da H'
 |some (.ok d)=>∀v G' H' S,Fr G H G' H' S->Own G' H' n S d v->Q v H'
def PostT(mg:Str->Option Value)(E:XK)(G H:Hp)(r:R Bool)(Q:Bool->Hp->Prop):Prop:=match r with
 |none=>False
 |some (.error x)=>∀c da G' H',Ext G H G' H'->XRep mg x c da G' H'->E c da H'
 |some (.ok b)=>∀H',Same H H'->Q b H'
structure OwnA(G H:Hp)(n:Nat)(S:Addr->Prop)(ds:List Dt)(xs:List V)(T:Nat->Addr->Prop):Prop where
 len:xs.length=ds.length
 own:∀(q:Nat)(d:Dt)(x:V),ds[q]?=some d->xs[q]?=some x->Own G H n (T q) d x
 dis:∀q r b,T q b->T r b->q=r
 sub:∀q b,T q b->S b
def zaI(mg:Str->Option Value)(E:XK)(G H:Hp)(n:Nat)(r:R (List Dt))(Q:List V->Hp->Prop):Prop:=match r with
 |none=>False
 |some (.error x)=>∀c da G' H',Ext G H G' H'->XRep mg x c da G' H'->E c da H'
 |some (.ok ds)=>∀vs G' H' S T,Fr G H G' H' S->OwnA G' H' n S ds vs T->Q vs H'
def DE(mg:Str->Option Value)(E:XK)(t:TE)(m:EM)(n:Nat):Prop:=∀(G H:Hp)(σ:St)(ρ:Rh)(Q:VK),Same G H->View G σ ρ->PostE mg E G H n (m ρ) Q->t σ H Q
def DT(mg:Str->Option Value)(E:XK)(t:TT)(m:TM):Prop:=∀(G H:Hp)(σ:St)(ρ:Rh)(Q:Bool->Hp->Prop),Same G H->View G σ ρ->PostT mg E G H (m ρ) Q->t σ H Q
def DA(mg:Str->Option Value)(E:XK)(t:TA)(m:AM)(n:Nat):Prop:=∀(G H:Hp)(σ:St)(ρ:Rh)(Q:List V->Hp->Prop),Same G H->View G σ ρ->zaI mg E G H n (m ρ) Q->t σ H Q
structure Err(mg:Str->Option Value)(E:XK)(G H:Hp){β:Type}(P:R β->Prop):Prop where
 no:P none->False
 er:∀x,P (some (.error x))->∀c da G' H',Ext G H G' H'->XRep mg x c da G' H'->E c da H'
theorem Ext.same{G H H':Hp}(s:Same G H)(h:Same H H'):Ext G H G H':=⟨Same.refl _,h,s.trans h,fun _ _=>rfl⟩
theorem Err.from{mg:Str->Option Value}{E:XK}{G H G' H':Hp}{β:Type}{P:R β->Prop}(e:Err mg E G H P)(x:Ext G H G' H'):Err mg E G' H' P:=⟨e.no,fun y p c da G2 H2 z w=>e.er y p c da G2 H2 (x.trans z) w⟩
section
variable{mg:Str->Option Value}{E:XK}{n:Nat}
theorem errE{G H:Hp}{Q:VK}:Err mg E G H (fun r=>PostE mg E G H n r Q):=⟨fun h=>h,fun _ h=>h⟩
theorem errT{G H:Hp}{Q:Bool->Hp->Prop}:Err mg E G H (fun r=>PostT mg E G H r Q):=⟨fun h=>h,fun _ h=>h⟩
theorem errA{G H:Hp}{Q:List V->Hp->Prop}:Err mg E G H (fun r=>zaI mg E G H n r Q):=⟨fun h=>h,fun _ h=>h⟩
theorem DE.step{β:Type}{t:TE}{m:EM}(D:DE mg E t m n){G H:Hp}{σ:St}{ρ:Rh}{Q:VK}{P:R β->Prop}{f:Dt->R β}(hE:Err mg E G H P)(s:Same G H)(w:View G σ ρ)(p:P (zA4 (m ρ) f))
  (h:∀d v G' H' S,m ρ=okR d->Fr G H G' H' S->Own G' H' n S d v->P (f d)->Q v H'):t σ H Q:=by
 refine D G H σ ρ Q s w ?_;cases e:m ρ with
 |none=>rw[e]at p;exact hE.no p
 |some r=>
  rw[e]at p;cases r with
  |error x=>exact hE.er x p
  |ok d=>exact fun v G' H' S fr o=>h d v G' H' S e fr o p
theorem DT.step{β:Type}{t:TT}{m:TM}(D:DT mg E t m){G H:Hp}{σ:St}{ρ:Rh}{Q:Bool->Hp->Prop}{P:R β->Prop}{f:Bool->R β}(hE:Err mg E G H P)(s:Same G H)(w:View G σ ρ)(p:P (zA4 (m ρ) f))
  (h:∀b H',m ρ=okR b->Same H H'->P (f b)->Q b H'):t σ H Q:=by
 refine D G H σ ρ Q s w ?_;cases e:m ρ with
 |none=>rw[e]at p;exact hE.no p
 |some r=>
  rw[e]at p;cases r with
  |error x=>exact hE.er x p
  |ok b=>exact fun H' sH=>h b H' e sH p
theorem DA.step{β:Type}{t:TA}{m:AM}(D:DA mg E t m n){G H:Hp}{σ:St}{ρ:Rh}{Q:List V->Hp->Prop}{P:R β->Prop}{f:List Dt->R β}(hE:Err mg E G H P)(s:Same G H)(w:View G σ ρ)(p:P (zA4 (m ρ) f))
  (h:∀ds vs G' H' S T,m ρ=okR ds->Fr G H G' H' S->OwnA G' H' n S ds vs T->P (f ds)->Q vs H'):t σ H Q:=by
 refine D G H σ ρ Q s w ?_;cases e:m ρ with
 |none=>rw[e]at p;exact hE.no p
 |some r=>
  rw[e]at p;cases r with
  |error x=>exact hE.er x p
  |ok ds=>exact fun vs G' H' S T fr o=>h ds vs G' H' S T e fr o p
theorem PostE.from{G H G' H':Hp}{Q:VK}{r:R Dt}(p:PostE mg E G H n r Q)(x:Ext G H G' H'):PostE mg E G' H' n r Q:=by
 cases r with
 |none=>exact p
 |some r=>
  cases r with
  |error y=>exact fun c da G2 H2 z w=>p c da G2 H2 (x.trans z) w
  |ok d=>
   exact fun v G2 H2 S fr o=>p v G2 H2 S ⟨x.trans fr.ext,fun a ha=>⟨x.h.free (fr.new a ha).1,(fr.new a ha).2⟩⟩ o
theorem PostT.from{G H G' H':Hp}{Q:Bool->Hp->Prop}{r:R Bool}(p:PostT mg E G H r Q)(x:Ext G H G' H'):PostT mg E G' H' r Q:=by
 cases r with
 |none=>exact p
 |some r=>
  cases r with
  |error y=>exact fun c da G2 H2 z w=>p c da G2 H2 (x.trans z) w
  |ok d=>exact fun H2 s=>p H2 (x.h.trans s)
theorem Fr.from{G H G1 H1 G2 H2:Hp}{S:Addr->Prop}(x:Ext G H G1 H1)(f:Fr G1 H1 G2 H2 S):Fr G H G2 H2 S:=⟨x.trans f.ext,fun a ha=>⟨x.h.free (f.new a ha).1,(f.new a ha).2⟩⟩
theorem PostE.val{G H G' H':Hp}{d:Dt}{v:V}{Q:VK}(p:PostE mg E G H n (okR d) Q)(x:Ext G H G' H')(hd:d.dep=0)(h:Rep G' d v):Q v H':=
 p v G' H' (fun _=>False) ⟨x,fun _ z=>z.elim⟩ (zZ6 h hd)
theorem PostE.kept{G H G' H':Hp}{d:Dt}{v:V}{Q:VK}(p:PostE mg E G H 0 (okR d) Q)(x:Ext G H G' H')(h:Rep G' d v):Q v H':=
 p v G' H' (fun _=>False) ⟨x,fun _ z=>z.elim⟩ h
theorem zAN{t:TE}{m:EM}{n:Nat}(D:DE mg E t m n):DE mg E t m 0:=by
 intro G H σ ρ Q s w p;refine D G H σ ρ Q s w ?_;cases e:m ρ with
 |none=>rw[e]at p;exact p
 |some r=>
  rw[e]at p;cases r with
  |error x=>exact p
  |ok d=>
   intro v G' H' S fr o;obtain⟨x,r⟩:=fr.frz o;exact PostE.kept p x r
end
end L3
namespace L3
open PySem PySem.Spec
open L2 hiding Rep RepL
open Mi (Dt Xn R okR zA4 optR zA0 zAD zAH zA8 zAF Rh Sl Ro EM TM AM FM IM SM Tg Out zAS zAT zAY full frz frz1 frzAt)
section
variable[Kc]{mg:Str->Option Value}{E:XK}{n k l:Nat}{ta tb tc:TE}{ma mb mc:EM}
theorem zA7{i:Int}:DE mg E (tC (.int i)) (Mi.eC (.int i)) n:=fun G H σ ρ Q s w p=>PostE.val p (Ext.refl s) rfl rfl
theorem zUE{b:Bool}:DE mg E (tC (.bl b)) (Mi.eC (.bl b)) n:=fun G H σ ρ Q s w p=>PostE.val p (Ext.refl s) rfl rfl
theorem zE7{x:Str}:DE mg E (tC (.str x)) (Mi.eC (.str x)) n:=fun G H σ ρ Q s w p=>PostE.val p (Ext.refl s) rfl rfl
theorem de_v(i:Nat):DE mg E (vM i) (Mi.eV i) 0:=by
 intro G H σ ρ Q s w p;unfold Mi.eV at p;cases e:ρ[i]? with
 |none=>rw[e]at p;exact p.elim
 |some o=>
  rw[e]at p;cases o with
  |none=>exact p.elim
  |some d=>
   obtain⟨v,h1,h2⟩:=w.at i d e;unfold vM;rw[h1];exact PostE.kept p (Ext.refl s) h2
def ROp(r:R2)(f:Dt->Dt->Option Dt)(n:Nat):Prop:=∀(mg:Str->Option Value)(E:XK)(G H:Hp)(d e:Dt)(x y:V)(Q:VK),Same G H->Rep G d x->Rep G e y->PostE mg E G H n (optR (f d e)) Q->r x y H Q
theorem zAC{r:R2}{f:Dt->Dt->Option Dt}(hr:ROp r f n)(A:DE mg E ta ma k)(B:DE mg E tb mb l):DE mg E (tOp r ta tb) (Mi.eB f ma mb) n:=by
 intro G H σ ρ Q s w p;refine(zAN A).step errE s w p fun d v G1 H1 S _ fr o p1=>?_
 refine(zAN B).step (errE.from fr.ext) fr.ext.in' (w.mono fr.ext.g) p1 fun e u G2 H2 S2 _ fr2 o2 p2=>?_
 exact hr mg E G2 H2 d e v u Q fr2.ext.in' (Rep.mono fr2.ext.g o) o2 (PostE.from p2 (fr.ext.trans fr2.ext))
def ROp1(r:V->Hp->VK->Prop)(f:Dt->Option Dt)(n:Nat):Prop:=∀(mg:Str->Option Value)(E:XK)(G H:Hp)(d:Dt)(x:V)(Q:VK),Same G H->Rep G d x->PostE mg E G H n (optR (f d)) Q->r x H Q
theorem zXF{r:V->Hp->VK->Prop}{f:Dt->Option Dt}(hr:ROp1 r f n)(A:DE mg E ta ma k):DE mg E (tUn r ta) (Mi.eU f ma) n:=by
 intro G H σ ρ Q s w p;refine(zAN A).step errE s w p fun d v G1 H1 S _ fr o p1=>?_
 exact hr mg E G1 H1 d v Q fr.ext.in' o (PostE.from p1 fr.ext)
theorem de_and(A:DE mg E ta ma k)(B:DE mg E tb mb n):DE mg E (fun σ H Q=>ta σ H fun x H1=>match x with | .bl c=>if c=true then tb σ H1 Q else Q (.bl false) H1|_=>False) (Mi.eAnd ma mb) n:=by
 intro G H σ ρ Q s w p;refine(zAN A).step errE s w p fun d v G1 H1 S _ fr o p1=>?_
 cases d with
 |bl b=>
  cases(show v=.bl b from o)
  cases b with
  |true=>exact B G1 H1 σ ρ Q fr.ext.in' (w.mono fr.ext.g) (PostE.from p1 fr.ext)
  |false=>exact PostE.val (PostE.from p1 fr.ext) (Ext.refl fr.ext.in') rfl rfl
 |_=>exact p1.elim
theorem zaB{tA:TT}{c:TM}(C:DT mg E tA c)(A:DE mg E ta ma n)(B:DE mg E tb mb n):DE mg E (tIf tA ta tb) (Mi.eIf c ma mb) n:=by
 intro G H σ ρ Q s w p;refine C.step errE s w p fun b H' _ sH p1=>?_
 have p2:=PostE.from p1 (Ext.same s sH);cases b with
 |true=>exact A G H' σ ρ Q (s.trans sH) w p2
 |false=>exact B G H' σ ρ Q (s.trans sH) w p2
theorem dt_b(A:DE mg E ta ma k):DT mg E (fun σ H Q=>ta σ H fun z H3=>match z with | .bl k=>Q k H3|_=>False) (Mi.tB ma):=by
 intro G H σ ρ Q s w p;refine(zAN A).step errT s w p fun d v G1 H1 S _ fr o p1=>?_
 cases d with
 |bl b=>
  cases(show v=.bl b from o)
  exact p1 H1 fr.ext.h
 |_=>exact p1.elim
variable{tA tB:TT}{cA cB:TM}
theorem zVM(A:DT mg E tA cA)(B:DT mg E tB cB):DT mg E (L2.tAnd tA tB) (Mi.tAn cA cB):=by
 intro G H σ ρ Q s w p;refine A.step errT s w p fun b H' _ sH p1=>?_
 cases b with
 |true=>exact B G H' σ ρ Q (s.trans sH) w (PostT.from p1 (Ext.same s sH))
 |false=>exact p1 H' sH
theorem zbL(A:DT mg E tA cA)(B:DT mg E tB cB):DT mg E (L2.tOr tA tB) (Mi.tOr cA cB):=by
 intro G H σ ρ Q s w p;refine A.step errT s w p fun b H' _ sH p1=>?_
 cases b with
 |false=>exact B G H' σ ρ Q (s.trans sH) w (PostT.from p1 (Ext.same s sH))
 |true=>exact p1 H' sH
theorem zI3:DT mg E L2.tYes Mi.tYes:=fun G H σ ρ Q s w p=>p H (Same.refl _)
variable{t:TA}{m:AM}
theorem zA6:DA mg E tNil Mi.aNil n:=fun G H σ ρ Q s w p=>p [] G H (fun _=>False) (fun _ _=>False) ⟨Ext.refl s,fun _ z=>z.elim⟩ ⟨rfl,fun q d x h=>by simp at h,fun _ _ _ z=>z.elim,fun _ _ z=>z.elim⟩
theorem zA2(A:DE mg E ta ma n)(B:DA mg E t m n):DA mg E (zG0 ta t) (Mi.aCons ma m) n:=by
 intro G H σ ρ Q s w p;refine A.step errA s w p fun d v G1 H1 S1 _ fr o p1=>?_
 refine B.step (errA.from fr.ext) fr.ext.in' (w.mono fr.ext.g) p1 fun ds vs G2 H2 S2 T2 _ fr2 o2 p2=>?_
 refine p2 (v::vs) G2 H2 (fun a=>S1 a\/S2 a) (fun q=>match q with|0=>S1|q+1=>T2 q) ⟨fr.ext.trans fr2.ext,fun a ha=>?_⟩ ⟨by simp[o2.len],fun q d' x h1 h2=>?_,fun q r b h1 h2=>?_,fun q b h=>?_⟩
 ·rcases ha with ha|ha
  ·obtain⟨n1,n2,n3⟩:=fr.new a ha;exact⟨n1,(fr2.ext.old a n3).trans n2,fr2.ext.h.some n3⟩
  ·obtain⟨n1,n2,n3⟩:=fr2.new a ha;exact⟨fr.ext.h.free n1,n2,n3⟩
 ·cases q with
  |zero=>simp at h1 h2;subst h1;subst h2;exact o.mono fr2.ext.g fr2.ext.h
  |succ q=>exact o2.own q d' x (by simpa using h1) (by simpa using h2)
 ·have ap:∀r b,S1 b->T2 r b->False:=fun r b h1 h2=>(fr.new b h1).2.2 (fr2.new b (o2.sub r b h2)).1
  cases q with
  |zero=>
   cases r with
   |zero=>rfl
   |succ r=>exact(ap r b h1 h2).elim
  |succ q=>
   cases r with
   |zero=>exact(ap q b h2 h1).elim
   |succ r=>rw[o2.dis q r b h1 h2]
 ·cases q with
  |zero=>exact .inl h
  |succ q=>exact .inr (o2.sub q b h)
theorem OwnA.repL{G H:Hp}{S:Addr->Prop}{ds:List Dt}{vs:List V}{T:Nat->Addr->Prop}(o:OwnA G H 0 S ds vs T):RepL G ds vs:=zG2 o.len fun q d x h1 h2=>o.own q d x h1 h2
theorem big'{n:Nat}(h:n<=100000):n<=sizeLine:=qD8 (L2.big h)
theorem Fr.add{G H G' H':Hp}{S:Addr->Prop}(f:Fr G H G' H' S){p:Addr}(hp:H' p=none)(o:HO):Fr G H G' (upd H' p o) (fun a=>a=p\/S a):=by
 have sn:=L2.same_new hp o;refine⟨⟨f.ext.g,f.ext.h.trans sn,f.ext.in'.trans sn,f.ext.old⟩,fun a ha=>?_⟩
 rcases ha with rfl|ha
 ·exact⟨f.ext.h.free hp,f.ext.in'.free hp,by rw[zAI];simp⟩
 ·obtain⟨n1,n2,n3⟩:=f.new a ha;exact⟨n1,n2,sn.some n3⟩
theorem OwnA.kids{G' H':Hp}{S:Addr->Prop}{ds:List Dt}{vs:List V}{T:Nat->Addr->Prop}(o:OwnA G' H' n S ds vs T)(hn:∀a,S a->H' a≠none){p:Addr}(hp:H' p=none)(ob:HO) :
  Kids (Own G' (upd H' p ob) n) (fun a=>a=p\/S a) p ds vs T:=
 ⟨o.len,fun q d x h1 h2=>(o.own q d x h1 h2).mono (Same.refl _) (L2.same_new hp ob),.inl rfl,fun q z=>hn p (o.sub q p z) hp,o.dis,fun q b z=>.inr (o.sub q b z)⟩
theorem zBI(A:DA mg E t m n):DE mg E (tLst t) (Mi.eLst m) (n+1):=by
 intro G H σ ρ Q s w p;refine A.step errE s w p fun ds vs G1 H1 S T _ fr o p1=>?_
 by_cases hz:ds.length<=100000
 ·rw[if_pos hz]at p1;refine⟨by rw[o.len];exact big' hz,fun a ha=>?_⟩;exact p1 (.ref a) G1 _ _ (fr.add ha _) ⟨a,vs,T,rfl,zAI,o.kids (fun b hb=>(fr.new b hb).2.2) ha _⟩
 ·rw[if_neg hz]at p1;exact p1.elim
theorem zI7(A:DA mg E t m n):DE mg E (tTup t) (Mi.eTup m) (n+1):=by
 intro G H σ ρ Q s w p;refine A.step errE s w p fun ds vs G1 H1 S T _ fr o p1=>?_
 by_cases hz:ds.length<=100000
 ·rw[if_pos hz]at p1;refine⟨by rw[o.len];exact big' hz,fun a ha=>?_⟩;exact p1 (.ref a) G1 _ _ (fr.add ha _) ⟨a,vs,T,rfl,zAI,o.kids (fun b hb=>(fr.new b hb).2.2) ha _⟩
 ·rw[if_neg hz]at p1;exact p1.elim
theorem PostE.lst{G H G' H':Hp}{ds:List Dt}{xs:List V}{Q:VK}(p:PostE mg E G H 1 (okR (.lst ds)) Q)(x:Ext G H G' H')(r:RepL G' ds xs){a:Addr}(ha:H' a=none):Q (.ref a) (upd H' a (.lst xs)):=by
 have fr:Fr G H G' H' (fun _=>False):=⟨x,fun _ z=>z.elim⟩
 refine p (.ref a) G' _ _ (fr.add ha (.lst xs)) ⟨a,xs,fun _ _=>False,rfl,zAI,⟨r.length,fun q d y h1 h2=>zD0 r h1 h2,.inl rfl,fun _ z=>z,fun _ _ _ z=>z.elim,fun _ _ z=>z.elim⟩⟩
def CBi(r:List V->Hp->VK->Prop)(f:List Dt->Option Dt)(n:Nat):Prop:=∀(mg:Str->Option Value)(E:XK)(G H:Hp)(ds:List Dt)(vs:List V)(Q:VK),Same G H->RepL G ds vs->PostE mg E G H n (optR (f ds)) Q->r vs H Q
theorem zCO{r:List V->Hp->VK->Prop}{f:List Dt->Option Dt}(hr:CBi r f n)(A:DA mg E t m 0):DE mg E (tCB r t) (Mi.eBi f m) n:=by
 intro G H σ ρ Q s w p;refine A.step errE s w p fun ds vs G1 H1 S T _ fr o p1=>?_
 exact hr mg E G1 H1 ds vs Q fr.ext.in' o.repL (PostE.from p1 fr.ext)
noncomputable def spM(mg:Str->Option Value)(L:Nat)(f:FM):Sp:=fun vs H Q E=>∃G ds,Same G H/\RepL G ds vs/\PostE mg E G H L (f ds) Q
theorem zAQ{f:FM}(A:DA mg E t m 0):DE mg E (zM0 (spM mg n f) [] E t) (Mi.eCall f m) n:=by
 intro G H σ ρ Q s w p;refine A.step errE s w p fun ds vs G1 H1 S T _ fr o p1=>?_
 exact⟨G1,ds,fr.ext.in',by rw[qCc];exact o.repL,PostE.from p1 fr.ext⟩
theorem zQG{G H:Hp}{o:Option Dt}{Q:VK}{d:Dt}{v:V}(s:Same G H)(p:PostE mg E G H n (optR o) Q)(e:o=some d)(hd:d.dep=0)(h:Rep G d v):Q v H:=by
 subst e;exact PostE.val p (Ext.refl s) hd h
theorem zB5:ROp zYW Mi.addD 1:=by
 intro mg E G H d e x y Q s h1 h2 p;cases d with
 |int i=>
  cases e with
  |int j=>cases(show x=.int i from h1);cases(show y=.int j from h2);exact zQG s p rfl rfl rfl
  |_=>exact p.elim
 |str i=>
  cases e with
  |str j=>
   cases(show x=.str i from h1);cases(show y=.str j from h2)
   rw[Mi.addD]at p
   by_cases hz:i.length+j.length<=100000
   ·rw[if_pos hz]at p;exact⟨big' hz,PostE.val p (Ext.refl s) rfl rfl⟩
   ·rw[if_neg hz]at p;exact p.elim
  |_=>exact p.elim
 |lst ds=>
  cases e with
  |lst es=>
   obtain⟨a,xs,rfl,ha,ra⟩:=h1;obtain⟨b,ys,rfl,hb,rb⟩:=h2;rw[Mi.addD]at p
   by_cases hz:ds.length+es.length<=100000
   ·rw[if_pos hz]at p;refine⟨xs,ys,s _ _ ha,s _ _ hb,by rw[ra.length,rb.length];exact big' hz,fun q hq=>?_⟩;refine PostE.lst p (Ext.refl s) (zG2 (by simp[ra.length,rb.length]) fun j d' x' e1 e2=>?_) hq
    by_cases hj:j<ds.length
    ·rw[qA8 hj]at e1;rw[qA8 (by rw[ra.length];exact hj)]at e2;exact zD0 ra e1 e2
    ·rw[qA9 (by lia)]at e1;rw[qA9 (by rw[ra.length];lia),ra.length]at e2;exact zD0 rb e1 e2
   ·rw[if_neg hz]at p;exact p.elim
  |_=>exact p.elim
 |_=>exact p.elim
theorem zND:ROp zYO Mi.subD n:=by
 intro mg E G H d e x y Q s h1 h2 p;cases d with
 |int i=>
  cases e with
  |int j=>cases(show x=.int i from h1);cases(show y=.int j from h2);exact zQG s p rfl rfl rfl
  |_=>exact p.elim
 |_=>exact p.elim
theorem zCQ:ROp zYT Mi.mulD n:=by
 intro mg E G H d e x y Q s h1 h2 p;cases d with
 |int i=>
  cases e with
  |int j=>
   cases(show x=.int i from h1);cases(show y=.int j from h2)
   rw[Mi.mulD]at p
   split at p
   ·rename_i hz;exact⟨hz,PostE.val p (Ext.refl s) rfl rfl⟩
   ·exact p.elim
  |_=>exact p.elim
 |_=>exact p.elim
theorem zEO:ROp zYV Mi.divD n:=by
 intro mg E G H d e x y Q s h1 h2 p;cases d with
 |int i=>
  cases e with
  |int j=>
   cases(show x=.int i from h1);cases(show y=.int j from h2)
   rw[Mi.divD]at p
   split at p
   ·rename_i hz;exact⟨hz,PostE.val p (Ext.refl s) rfl rfl⟩
   ·exact p.elim
  |_=>exact p.elim
 |_=>exact p.elim
theorem zCG:ROp zYU Mi.modD n:=by
 intro mg E G H d e x y Q s h1 h2 p;cases d with
 |int i=>
  cases e with
  |int j=>
   cases(show x=.int i from h1);cases(show y=.int j from h2)
   rw[Mi.modD]at p
   split at p
   ·rename_i hz;exact⟨hz,PostE.val p (Ext.refl s) rfl rfl⟩
   ·exact p.elim
  |_=>exact p.elim
 |_=>exact p.elim
theorem zYF:ROp zYQ Mi.powD n:=by
 intro mg E G H d e x y Q s h1 h2 p;cases d with
 |int i=>
  cases e with
  |int j=>
   cases(show x=.int i from h1);cases(show y=.int j from h2)
   rw[Mi.powD]at p
   split at p
   ·rename_i hz;exact⟨hz,PostE.val p (Ext.refl s) rfl rfl⟩
   ·exact p.elim
  |_=>exact p.elim
 |_=>exact p.elim
theorem zQ9:ROp1 zYS Mi.negD n:=by
 intro mg E G H d x Q s h1 p;cases d with
 |int i=>cases(show x=.int i from h1);exact zQG s p rfl rfl rfl
 |_=>exact p.elim
theorem zQA{q:Int->Int->Bool}:ROp (zW9 q) (Mi.cmpD q) n:=by
 intro mg E G H d e x y Q s h1 h2 p;cases d with
 |int i=>
  cases e with
  |int j=>cases(show x=.int i from h1);cases(show y=.int j from h2);exact zQG s p rfl rfl rfl
  |_=>exact p.elim
 |_=>exact p.elim
theorem zVH{G H:Hp}{d e:Dt}{x y:V}{Q:VK}{ng:Bool}(s:Same G H)(h1:Rep G d x)(h2:Rep G e y)(hd:d.dep<=40)(he:e.dep<=40)(q:Q (.bl (if ng then !Dt.eq d e else Dt.eq d e)) H) :
  ∃d' e',L2.Rep H d' x/\L2.Rep H e' y/\d'.dep<=40/\Q (.bl (if ng then !L2.Dat.eq d' e' else L2.Dat.eq d' e')) H:=
 ⟨conv d,conv e,zEH hd (Rep.mono s h1),zEH he (Rep.mono s h2),qAo (zFP hd) hd,by rw[zMR hd he];exact q⟩
theorem zGG{α:Type}[DecidableEq α](a b:α):(a==b)=decide (a=b):=by
 by_cases h:a=b
 ·subst h;simp
 ·simp[h]
theorem zJ3{G:Hp}{d:Dt}{i:Int}(h:Rep G d (.int i)):d=.int i:=by
 cases d with
 |int k=>cases h;rfl
 |non=>cases h
 |bl _=>cases h
 |str _=>cases h
 |lst _=>obtain⟨_,_,z,_⟩:=h;cases z
 |tup _=>obtain⟨_,_,z,_⟩:=h;cases z
 |scr _=>obtain⟨_,z,_⟩:=h;cases z
 |exc _ _ _=>obtain⟨_,_,_,z,_⟩:=h;cases z
 |ins _ _=>obtain⟨_,_,_,z,_⟩:=h;cases z
 |dct _=>obtain⟨_,z,_⟩:=h;cases z
theorem zJ2{G:Hp}{d:Dt}{i:Str}(h:Rep G d (.str i)):d=.str i:=by
 cases d with
 |str k=>cases h;rfl
 |non=>cases h
 |bl _=>cases h
 |int _=>cases h
 |lst _=>obtain⟨_,_,z,_⟩:=h;cases z
 |tup _=>obtain⟨_,_,z,_⟩:=h;cases z
 |scr _=>obtain⟨_,z,_⟩:=h;cases z
 |exc _ _ _=>obtain⟨_,_,_,z,_⟩:=h;cases z
 |ins _ _=>obtain⟨_,_,_,z,_⟩:=h;cases z
 |dct _=>obtain⟨_,z,_⟩:=h;cases z
theorem zNG{G:Hp}{d:Dt}{i:Bool}(h:Rep G d (.bl i)):d=.bl i:=by
 cases d with
 |bl k=>cases h;rfl
 |non=>cases h
 |str _=>cases h
 |int _=>cases h
 |lst _=>obtain⟨_,_,z,_⟩:=h;cases z
 |tup _=>obtain⟨_,_,z,_⟩:=h;cases z
 |scr _=>obtain⟨_,z,_⟩:=h;cases z
 |exc _ _ _=>obtain⟨_,_,_,z,_⟩:=h;cases z
 |ins _ _=>obtain⟨_,_,_,z,_⟩:=h;cases z
 |dct _=>obtain⟨_,z,_⟩:=h;cases z
theorem zKF:ROp rEqU Mi.eqD n:=by
 intro mg E G H d e x y Q s h1 h2 p;unfold Mi.eqD at p
 split at p
 ·rename_i hz
  have q:Q (.bl (Dt.eq d e)) H:=PostE.val p (Ext.refl s) rfl rfl;have g:=zVH (ng:=false) (Q:=Q) s h1 h2 hz.1 hz.2 q;unfold rEqU
  split
  ·rw[zJ3 h1,zJ3 h2,Dt.eq,zGG]at q;exact q
  ·rw[zJ2 h1,zJ2 h2,Dt.eq,zGG]at q;exact q
  ·rw[zNG h1,zNG h2,Dt.eq,zGG]at q;exact q
  ·exact g
 ·exact p.elim
theorem zM5:ROp rNeU Mi.neD n:=by
 intro mg E G H d e x y Q s h1 h2 p;unfold Mi.neD at p
 split at p
 ·rename_i hz
  have q:Q (.bl (!Dt.eq d e)) H:=PostE.val p (Ext.refl s) rfl rfl;have g:=zVH (ng:=true) (Q:=Q) s h1 h2 hz.1 hz.2 q;unfold rNeU
  split
  ·rw[zJ3 h1,zJ3 h2,Dt.eq,zGG]at q;exact q
  ·rw[zJ2 h1,zJ2 h2,Dt.eq,zGG]at q;exact q
  ·rw[zNG h1,zNG h2,Dt.eq,zGG]at q;exact q
  ·exact g
 ·exact p.elim
theorem zV3(n:Nat)(i:Int):Mi.ixA n i=ixN n i:=rfl
theorem zV9{α:Type}(xs:List α)(i:Int):Mi.itA xs i=atI xs i:=rfl
theorem zVT{G:Hp}{ds:List Dt}{xs:List V}{i:Int}{d:Dt}(r:RepL G ds xs)(h:Mi.itA ds i=some d):∃x,atI xs i=some x/\Rep G d x:=by
 rw[zV9]at h;unfold atI at h ⊢;rw[r.length];cases e:ixN ds.length i with
 |none=>rw[e]at h;cases h
 |some j=>
  rw[e]at h;have h':ds[j]?=some d:=h;have hj:j<xs.length:=by rw[r.length];exact(qA4.mp h').1
  exact⟨xs[j],by simp[hj],zD0 r h' (by simp[hj])⟩
theorem zB3:ROp (rIxU Kc.K) Mi.ixD 0:=by
 intro mg E G H d e x y Q s h1 h2 p;cases e with
 |int i=>
  cases(show y=.int i from h2)
  cases d with
  |lst ds=>
   obtain⟨a,xs,rfl,ha,ra⟩:=h1;cases er:Mi.itA ds i with
   |none=>rw[Mi.ixD,er]at p;exact p.elim
   |some c=>
    rw[Mi.ixD,er]at p;obtain⟨v,e1,r1⟩:=zVT ra er;exact⟨xs,v,.inl (SqL.of (s _ _ ha)),e1,PostE.kept p (Ext.refl s) r1⟩
  |tup ds=>
   obtain⟨a,xs,rfl,ha,ra⟩:=h1;cases er:Mi.itA ds i with
   |none=>rw[Mi.ixD,er]at p;exact p.elim
   |some c=>
    rw[Mi.ixD,er]at p;obtain⟨v,e1,r1⟩:=zVT ra er;exact⟨xs,v,.inr (SqT.of (s _ _ ha)),e1,PostE.kept p (Ext.refl s) r1⟩
  |scr ns=>
   obtain⟨a,rfl,ha⟩:=h1;cases er:Mi.itA ns i with
   |none=>rw[Mi.ixD,er]at p;exact p.elim
   |some c=>
    rw[Mi.ixD,er]at p;refine⟨ns.map V.int,.int c,zFA s ha,?_,PostE.kept p (Ext.refl s) rfl⟩;rw[zV9]at er;unfold atI at er ⊢;rw[qAg];cases e:ixN ns.length i with
    |none=>rw[e]at er;cases er
    |some j=>
     rw[e]at er;have er':ns[j]?=some c:=er
     show(ns.map V.int)[j]?=some (.int c)
     rw[qAb,er'];rfl
  |str z=>
   cases(show x=.str z from h1)
   rw[Mi.ixD]at p
   by_cases hz:z.length<=100000
   ·rw[if_pos hz]at p;cases er:Mi.itA z.cps.toList i with
    |none=>rw[er]at p;exact p.elim
    |some c=>rw[er]at p;exact⟨c,big' hz,er,PostE.kept p (Ext.refl s) rfl⟩
   ·rw[if_neg hz]at p;exact p.elim
  |_=>exact p.elim
 |_=>cases d<;>exact p.elim
theorem zDX{G:Hp}{d:Dt}{vs:List V}(h:RepL G [d] vs):∃x,vs=[x]/\Rep G d x:=by
 obtain⟨x,q,rfl,a,b⟩:=h
 cases(show q=[] from b)
 exact⟨x,rfl,a⟩
theorem zYK{G:Hp}{d e:Dt}{vs:List V}(h:RepL G [d,e] vs):∃x y,vs=[x,y]/\Rep G d x/\Rep G e y:=by
 obtain⟨x,q,rfl,a,b⟩:=h;obtain⟨y,rfl,c⟩:=zDX b;exact⟨x,y,rfl,a,c⟩
theorem zC4:CBi (zW7 Kc.K) Mi.lenD n:=by
 intro mg E G H ds vs Q s h p;cases ds with
 |nil=>exact p.elim
 |cons a0 r0=>
  cases r0 with
  |cons _ _=>cases a0<;>exact p.elim
  |nil=>
   cases a0 with
   |lst es=>
    obtain⟨x,rfl,a,xs,rfl,ha,ra⟩:=zDX h;exact⟨xs,.inl (SqL.of (s _ _ ha)),by rw[ra.length];exact PostE.val p (Ext.refl s) rfl rfl⟩
   |tup es=>
    obtain⟨x,rfl,a,xs,rfl,ha,ra⟩:=zDX h;exact⟨xs,.inr (SqT.of (s _ _ ha)),by rw[ra.length];exact PostE.val p (Ext.refl s) rfl rfl⟩
   |scr ns=>
    obtain⟨x,rfl,a,rfl,ha⟩:=zDX h;refine⟨ns.map V.int,zFA s ha,?_⟩;rw[qAg];exact PostE.val p (Ext.refl s) rfl rfl
   |str z=>
    obtain⟨x,rfl,hx⟩:=zDX h
    cases(show x=.str z from hx)
    rw[Mi.lenD]at p
    by_cases hz:z.length<=100000
    ·rw[if_pos hz]at p;exact⟨big' hz,PostE.val p (Ext.refl s) rfl rfl⟩
    ·rw[if_neg hz]at p;exact p.elim
   |_=>exact p.elim
theorem zCZ{G:Hp}:∀(ns:List Int),RepL G (ns.map Dt.int) (ns.map V.int)
 |[]=>rfl
 |_::r=>⟨_,_,rfl,rfl,zCZ r⟩
theorem zMU:CBi (zNL Kc.K) Mi.listD 1:=by
 intro mg E G H ds vs Q s h p;cases ds with
 |nil=>exact p.elim
 |cons a0 r0=>
  cases r0 with
  |cons _ _=>cases a0<;>exact p.elim
  |nil=>
   cases a0 with
   |lst es=>
    obtain⟨x,rfl,a,xs,rfl,ha,ra⟩:=zDX h;exact .inl ⟨xs,.inl (SqL.of (s _ _ ha)),fun l hl=>PostE.lst p (Ext.refl s) ra hl⟩
   |tup es=>
    obtain⟨x,rfl,a,xs,rfl,ha,ra⟩:=zDX h;exact .inl ⟨xs,.inr (SqT.of (s _ _ ha)),fun l hl=>PostE.lst p (Ext.refl s) ra hl⟩
   |scr ns=>
    obtain⟨x,rfl,a,rfl,ha⟩:=zDX h;exact .inl ⟨ns.map V.int,zFA s ha,fun l hl=>PostE.lst p (Ext.refl s) (zCZ ns) hl⟩
   |_=>exact p.elim
end
end L3
namespace L3
open PySem PySem.Spec
open L2 hiding Rep RepL
open Mi (Dt Xn R okR zA4 optR zA0 zAD zAH zA8 zAF Rh Sl Ro EM TM AM FM IM SM Tg Out zAS zAT zAY full frz frz1 frzAt)
variable[Kc]
def ItOk(J:It)(G:Hp)(ds:List Dt):Prop:=∀(i:Nat)(G1 H1:Hp),Same G G1->Same G1 H1->(i<ds.length->J.go i H1)/\(ds.length<=i->J.stop i H1)/\∀x H2 d,ds[i]?=some d->J.yld i H1 x H2->∃G2,Ext G1 H1 G2 H2/\Rep G2 d x
noncomputable def zSA(ind:Bool)(G:Hp):Hp:=if ind=true then(fun _=>none)else G
def zaH(mg:Str->Option Value)(E:XK)(G H:Hp)(ind:Bool)(r:R (List Dt))(Q:It->Hp->Prop):Prop:=match r with
 |none=>False
 |some (.error x)=>∀c da G' H',Ext G H G' H'->XRep mg x c da G' H'->E c da H'
 |some (.ok ds)=>∀J G' H',Ext G H G' H'->ItOk J (zSA ind G') ds->Q J H'
def DI(mg:Str->Option Value)(E:XK)(t:TI)(m:IM)(ind:Bool):Prop:=∀(G H:Hp)(σ:St)(ρ:Rh)(Q:It->Hp->Prop),Same G H->View G σ ρ->zaH mg E G H ind (m ρ) Q->t σ H Q
section
variable{mg:Str->Option Value}{E:XK}{n k l:Nat}{ta te:TE}{ma me:EM}{t:TA}{m:AM}{ind:Bool}
theorem errI{G H:Hp}{Q:It->Hp->Prop}:Err mg E G H (fun r=>zaH mg E G H ind r Q):=⟨fun h=>h,fun _ h=>h⟩
theorem errB{G H:Hp}{α β:Type}{P:R β->Prop}(e:Err mg E G H P)(g:α->R β):Err mg E G H (fun r=>P (zA4 r g)):=⟨fun h=>e.no h,fun x h=>e.er x h⟩
theorem DI.step{β:Type}{t:TI}{m:IM}(D:DI mg E t m ind){G H:Hp}{σ:St}{ρ:Rh}{Q:It->Hp->Prop}{P:R β->Prop}{f:List Dt->R β}(hE:Err mg E G H P)(s:Same G H)(w:View G σ ρ)(p:P (zA4 (m ρ) f))
  (h:∀ds J G' H',m ρ=okR ds->Ext G H G' H'->ItOk J (zSA ind G') ds->P (f ds)->Q J H'):t σ H Q:=by
 refine D G H σ ρ Q s w ?_;cases e:m ρ with
 |none=>rw[e]at p;exact hE.no p
 |some r=>
  rw[e]at p;cases r with
  |error x=>exact hE.er x p
  |ok ds=>exact fun J G' H' x i=>h ds J G' H' e x i p
theorem zV7{K:qA2}{G:Hp}{a:Addr}{xs:List V}{ds:List Dt}(ha:SqL K G a xs)(r:RepL G ds xs):ItOk (Itl K a) G ds:=by
 intro i G1 H1 s1 s2;have hS:SqL K H1 a xs:=(s1.trans s2).seq ha;refine⟨fun hi=>⟨xs,xs[i]'(by rw[r.length];exact hi),hS,by simp⟩,fun hi=>⟨xs,hS,by rw[r.length];exact hi⟩,fun x H2 d hd hy=>?_⟩;obtain⟨rfl,hy⟩:=hy;exact⟨G1,Ext.refl s2,Rep.mono s1 (zD0 r hd (hy xs hS))⟩
theorem zV4{K:qA2}{G:Hp}{a:Addr}{xs:List V}{ds:List Dt}(ha:SqT K G a xs)(r:RepL G ds xs):ItOk (Itt K a) G ds:=by
 intro i G1 H1 s1 s2;have hS:SqT K H1 a xs:=zHC (s1.trans s2) ha;refine⟨fun hi=>⟨xs,xs[i]'(by rw[r.length];exact hi),hS,by simp⟩,fun hi=>⟨xs,hS,by rw[r.length];exact hi⟩,fun x H2 d hd hy=>?_⟩;obtain⟨rfl,hy⟩:=hy;exact⟨G1,Ext.refl s2,Rep.mono s1 (zD0 r hd (hy xs hS))⟩
theorem zV5{G:Hp}(lo:Int)(k:Nat):ItOk (Itr lo k) G (Mi.nums lo k):=by
 intro i G1 H1 s1 s2;have hl:(Mi.nums lo k).length=k:=by simp[Mi.nums]
 refine⟨fun hi=>by rw[hl]at hi;exact hi,fun hi=>by rw[hl]at hi;exact hi,fun x H2 d hd hy=>?_⟩;obtain⟨rfl,rfl⟩:=hy;refine⟨G1,Ext.refl s2,?_⟩;unfold Mi.nums at hd;rw[qAb]at hd;cases e:(qA6 k)[i]? with
 |none=>rw[e]at hd;cases hd
 |some j=>
  rw[e]at hd;cases hd;have hj:j=i:=by
   obtain⟨h1,h2⟩:=qA4.mp e;rw[qBc]at h2;exact h2.symm
  subst hj;rfl
theorem zGR(A:DA mg E t m 0):DI mg E (zZZ t) (Mi.iR1 m) true:=by
 intro G H σ ρ Q s w p;refine A.step errI s w p fun ds vs G1 H1 S T _ fr o p1=>?_
 have r:=o.repL;cases ds with
 |nil=>exact qA7 p1
 |cons hd1 tl1=>
  cases hd1 with
  |int j=>
   cases tl1 with
   |nil=>
    obtain⟨x,rfl,hx⟩:=zDX r
    cases(show x=.int j from hx)
    dsimp only at p1
    split at p1
    ·rename_i hz
     exact⟨j,rfl,by lia,by lia,p1 _ G1 H1 fr.ext (zV5 0 _)⟩
    ·exact p1.elim
   |cons _ _=>exact qA7 p1
  |_=>exact qA7 p1
theorem zbO(A:DA mg E t m 0):DI mg E (zZY t) (Mi.iR2 m) true:=by
 intro G H σ ρ Q s w p;refine A.step errI s w p fun ds vs G1 H1 S T _ fr o p1=>?_
 have r:=o.repL;cases ds with
 |nil=>exact p1.elim
 |cons a0 r0=>
  cases a0 with
  |int i=>
   cases r0 with
   |nil=>exact p1.elim
   |cons b0 r1=>
    cases r1 with
    |cons _ _=>cases b0<;>exact p1.elim
    |nil=>
     cases b0 with
     |int j=>
      obtain⟨x,y,rfl,hx,hy⟩:=zYK r
      cases(show x=.int i from hx)
      cases(show y=.int j from hy)
      dsimp only at p1
      split at p1
      ·rename_i hz
       exact⟨i,j,rfl,⟨by lia,by lia,by lia,by lia⟩,p1 _ G1 H1 fr.ext (zV5 i _)⟩
      ·exact p1.elim
     |_=>exact p1.elim
  |_=>rcases r0 with _|⟨_,_|_⟩<;>exact p1.elim
theorem zI0:∀(ds:List Dt)(n:Nat),(Mi.enumD n ds).length=ds.length
 |[],_=>rfl
 |_::r,n=>by rw[Mi.enumD,qB6,qB6,zI0 r]
theorem zI1:∀(ds:List Dt)(n i:Nat)(d:Dt),(Mi.enumD n ds)[i]?=some d->∃e,ds[i]?=some e/\d=.tup [.int ((n+i:Nat):Int),e]
 |[],_,_,_,h=>by simp[Mi.enumD]at h
 |x::r,n,0,d,h=>by simp[Mi.enumD]at h;exact⟨x,by simp,by rw[<- h];rfl⟩
 |x::r,n,i+1,d,h=>by
  rw[Mi.enumD]at h;obtain⟨e,h1,h2⟩:=zI1 r (n+1) i d (by simpa using h);exact⟨e,by simpa using h1,by rw[h2,show n+1+i=n+(i+1) by lia]⟩
theorem Ext.new{G H:Hp}(s:Same G H){T:Addr}(hT:H T=none)(o:HO):Ext G H (upd G T o) (upd H T o):=by
 refine⟨L2.same_new (s.free hT) o,L2.same_new hT o,fun b u e=>?_,fun b hb=>zAJ fun z=>hb (z▸hT)⟩
 by_cases z:b=T
 ·subst z;rw[zAI]at e ⊢;exact e
 ·rw[zAJ z]at e ⊢;exact s _ _ e
theorem zV8{K:qA2}{G:Hp}{a:Addr}{xs:List V}{ds:List Dt}(ha:G a=some (.lst xs))(r:RepL G ds xs):ItOk (Ite K a) G (Mi.enumD 0 ds):=by
 intro i G1 H1 s1 s2;have hS:SqL K H1 a xs:=SqL.of (s2 _ _ (s1 _ _ ha));rw[zI0];refine⟨fun hi=>⟨xs,xs[i]'(by rw[r.length];exact hi),hS,by simp⟩,fun hi=>⟨xs,hS,by rw[r.length];exact hi⟩,fun x H2 d hd hy=>?_⟩;obtain⟨T,y,rfl,hT,rfl,hy⟩:=hy;obtain⟨e,h1,rfl⟩:=zI1 ds 0 i d hd;have x1:=Ext.new s2 hT (.tup [.int i,y]);refine⟨_,x1,T,_,rfl,zAI,_,_,rfl,?_,_,_,rfl,Rep.mono (s1.trans x1.g) (zD0 r h1 (hy xs hS)),rfl⟩;show V.int (i:Int)=.int ((0+i:Nat):Int);rw[qBv]
theorem zbP{K:qA2}(A:DA mg E t m 0):DI mg E (zX7 K t) (Mi.iEn m) false:=by
 intro G H σ ρ Q s w p;refine A.step errI s w p fun ds vs G1 H1 S T _ fr o p1=>?_
 have r:=o.repL;cases ds with
 |nil=>exact qA7 p1
 |cons hd1 tl1=>
  cases hd1 with
  |lst es=>
   cases tl1 with
   |nil=>
    obtain⟨x,rfl,a,xs,rfl,ha,ra⟩:=zDX r;exact⟨⟨xs,SqL.of (fr.ext.in' _ _ ha)⟩,p1 _ G1 H1 fr.ext (zV8 ha ra)⟩
   |cons _ _=>exact qA7 p1
  |_=>exact qA7 p1
noncomputable def zHB:St->List (Nat×V)->St
 |σ,[]=>σ
 |σ,(i,v)::r=>zHB (σ.set i (some v)) r
inductive BsRep(G:Hp):List (Nat×Dt)->List (Nat×V)->Prop
 |nil:BsRep G [] []
 |cons {i d v bs ws}:Rep G d v->BsRep G bs ws->BsRep G ((i,d)::bs) ((i,v)::ws)
theorem View.set{G:Hp}{σ:St}{ρ:Rh}{i:Nat}{d:Dt}{v:V}(w:View G σ ρ)(r:Rep G d v):View G (σ.set i (some v)) (ρ.set i (some d)):=by
 refine⟨by simp[w.len],fun j e h=>?_⟩;have hj:j<ρ.length:=by
  have:=(qA4.mp h).1
  simpa using this
 by_cases z:i=j
 ·subst z;rw[qAh hj]at h;cases h;exact⟨v,qAh (by rw[<- w.len];exact hj),r⟩
 ·rw[qAi z]at h;obtain⟨u,h1,h2⟩:=w.at j e h;exact⟨u,by rw[qAi z];exact h1,h2⟩
theorem View.sets{G:Hp}{bs ws}(h:BsRep G bs ws):∀{σ:St}{ρ:Rh},View G σ ρ->View G (zHB σ ws) (zAT ρ bs):=by
 induction h with
 |nil=>exact fun w=>w
 |cons r _ ih=>exact fun w=>ih (w.set r)
def TgOk(g:TG)(tg:Tg):Prop:=∀(G H:Hp)(σ:St)(d:Dt)(x:V)(bs:List (Nat×Dt))(Q:St->Hp->Prop),Same G H->Rep G d x->zAS tg d=some bs->(∀ws,BsRep G bs ws->Q (zHB σ ws) H)->g x σ H Q
def zUH(g:TGs)(is:List Nat):Prop:=∀(G H:Hp)(σ:St)(ds:List Dt)(xs:List V)(Q:St->Hp->Prop),RepL G ds xs->ds.length=is.length->(∀ws,BsRep G (is.zip ds) ws->Q (zHB σ ws) H)->g xs σ H Q
theorem zC6(i:Nat):TgOk (zHY i) (.one i):=by
 intro G H σ d x bs Q s r e h;cases e;exact h [(i,x)] (.cons r .nil)
theorem zH8:zUH gNil []:=by
 intro G H σ ds xs Q r hl h;cases ds with
 |nil=>cases(show xs=[] from r);exact⟨rfl,h [] .nil⟩
 |cons _ _=>simp at hl
theorem zCB(i:Nat){g:TGs}{is:List Nat}(hg:zUH g is):zUH (za1 (zHY i) g) (i::is):=by
 intro G H σ ds xs Q r hl h;cases ds with
 |nil=>simp at hl
 |cons d ds=>
  obtain⟨x,q,rfl,a,b⟩:=r;exact⟨x,q,rfl,hg G H _ ds q Q b (by simpa using hl) fun ws hw=>h ((i,x)::ws) (.cons a hw)⟩
theorem zK7{K:qA2}{g:TGs}{is:List Nat}{k:Nat}(hg:zUH g is)(hk:is.length=k):TgOk (gTup K k g) (.tup is):=by
 intro G H σ d x bs Q s r e h;cases d with
 |tup ds=>
  obtain⟨a,xs,rfl,ha,ra⟩:=r;rw[zAS]at e
  by_cases hz:ds.length=is.length
  ·rw[if_pos hz]at e;cases e;exact⟨a,xs,rfl,SqT.of (s _ _ ha),by rw[ra.length,hz,hk],hg G H σ ds xs Q ra hz h⟩
  ·rw[if_neg hz]at e;cases e
 |_=>simp[zAS]at e
theorem zKD:∀(ws:List (Nat×V))(σ own:St),(∀p∈ws,σ.length<=p.1)->∃own':St,own'.length=own.length/\zHB (σ++own) ws=σ++own'
 |[],σ,own,_=>⟨own,rfl,rfl⟩
 |(i,v)::r,σ,own,h=>by
  have hi:σ.length<=i:=h (i,v) (by simp);rw[zHB,List.set_append_right _ _ hi];obtain⟨o,h1,h2⟩:=zKD r σ (own.set (i-σ.length) (some v)) fun p hp=>h p (by simp[hp])
  exact⟨o,by rw[h1,qC3],h2⟩
theorem BsRep.idx{G:Hp}{bs ws}(h:BsRep G bs ws):ws.map (·.1)=bs.map (·.1):=by
 induction h with
 |nil=>rfl
 |cons _ _ ih=>simp[ih]
theorem zS9{tg:Tg}{d:Dt}{bs:List (Nat×Dt)}(h:zAS tg d=some bs):∀i∈bs.map (·.1),i∈tg.idx:=by
 cases tg with
 |one i=>cases h;simp[Tg.idx]
 |tup is=>
  cases d with
  |tup ds=>
   rw[zAS]at h
   split at h
   ·cases h;intro i hi;obtain⟨p,hp,e⟩:=qAm.mp hi;rw[<- e];obtain⟨a,b⟩:=p;exact(qE2 hp).1
   ·cases h
  |_=>simp[zAS]at h
theorem zE8{wi:TI}{g:TG}{tif:TT}{it:IM}{tg:Tg}{c:TM}(I:DI mg E wi it ind)(hT:TgOk g tg)(C:DT mg E tif c)(B:DE mg E te me n):DE mg E (zW2 wi k g tif te) (Mi.eComp it k tg c me) (n+1):=by
 intro G H σ ρ Q s w p;refine I.step errE s w p fun ds J G1 H1 _ x1 io p1=>?_
 by_cases hz:ds.length<=100000/\(tg.idx.all fun i=>decide (ρ.length<=i))=true
 case neg=>rw[if_neg hz]at p1;exact p1.elim
 rw[if_pos hz]at p1;obtain⟨hz,hix⟩:=hz;have hb1:Same (zSA ind G1) G1:=by
  unfold zSA
  split
  ·exact fun b o e=>by cases e
  ·exact Same.refl _
 refine⟨fun i m acc H'=>m=ds.length-i/\i<=ds.length/\∃G' as S T,Fr G H G' H' S/\Same G1 G'/\OwnA G' H' n S as acc T/\as.length<=i/\PostE mg E G H (n+1) (zA4 (Mi.compGo ρ k tg c me (ds.drop i) as) fun es=>okR (.lst es)) Q,
  ⟨_,rfl,qAc _,G1,[],fun _=>False,fun _ _=>False,⟨x1,fun _ z=>z.elim⟩,Same.refl _,⟨rfl,fun q d x h=>by simp at h,fun _ _ _ z=>z.elim,fun _ _ z=>z.elim⟩,qAa _,by rw[qDm];exact p1⟩,?_⟩
 rintro i m acc H' ⟨rfl,hi,G',as,S,T,fr,sg,o,hl,p⟩
 obtain⟨j1,j2,j3⟩:=io i G' H' (hb1.trans sg) fr.ext.in'
 by_cases hlt:i<ds.length
 ·refine .inr ⟨j1 hlt,by rw[o.len];exact L2.big (by lia),fun acc' H''=>ds.length-(i+1)=ds.length-(i+1)/\i+1<=ds.length/\∃G' as S T,Fr G H G' H'' S/\Same G1 G'/\OwnA G' H'' n S as acc' T/\as.length<=i+1/\PostE mg E G H (n+1) (zA4 (Mi.compGo ρ k tg c me (ds.drop (i+1)) as) fun es=>okR (.lst es)) Q,
   fun acc' H'' q=>⟨ds.length-(i+1),by lia,q⟩,fun x H2 hy=>?_⟩
  have hd:ds[i]?=some ds[i]:=qA1 hlt;obtain⟨G2,x2,r2⟩:=j3 x H2 ds[i] hd hy;rw[qB4 hlt,Mi.compGo]at p;cases eb:zAS tg ds[i]with
  |none=>rw[eb]at p;exact p.elim
  |some bs=>
   rw[eb]at p;dsimp only at p;refine hT G2 H2 _ _ x bs _ x2.in' r2 eb fun ws hb=>?_
   have hsl:∀q∈ws,σ.length<=q.1:=fun q hq=>by
    have h1:q.1∈bs.map (·.1):=by rw[<- hb.idx];exact List.mem_map_of_mem hq
    have h2:=qEq.mp hix q.1 (zS9 eb q.1 h1);rw[<- w.len];exact of_decide_eq_true h2
   obtain⟨own,ho1,ho2⟩:=zKD ws σ (qA5 k none) hsl;refine⟨own,by rw[ho1,qC4],ho2,?_⟩;have x02:=fr.ext.trans x2;have w2:View G2 (zHB (σ++qA5 k none) ws) (zAT (ρ++qA5 k none) bs):=by
    refine View.sets hb ⟨by simp[w.len],fun j d h=>?_⟩
    by_cases hj:j<ρ.length
    ·rw[qA8 hj]at h;obtain⟨v,a,b⟩:=w.at j d h;exact⟨v,by rw[qA8 (by rw[<- w.len];exact hj)];exact a,Rep.mono x02.g b⟩
    ·rw[qA9 (by lia),qBm]at h
     split at h<;>cases h
   refine C.step ((errB errE _).from x02) x2.in' w2 p fun b H3 _ s3 p3=>?_
   have x3:Ext G2 H2 G2 H3:=Ext.same x2.in' s3;have x03:=x02.trans x3;have newS:∀a,S a->H a=none/\G2 a=none/\H3 a≠none:=fun a ha=>by
    obtain⟨n1,n2,n3⟩:=fr.new a ha;exact⟨n1,(x2.old a n3).trans n2,s3.some (x2.h.some n3)⟩
   have own3:OwnA G2 H3 n S as acc T:=⟨o.len,fun q d y h1 h2=>(o.own q d y h1 h2).mono x2.g (x2.h.trans s3),o.dis,o.sub⟩
   cases b with
   |false=>exact⟨rfl,hlt,G2,as,S,T,⟨x03,newS⟩,sg.trans x2.g,own3,by lia,p3⟩
   |true=>
    refine B.step ((errB errE _).from x03) x3.in' w2 p3 fun e v G4 H4 S4 _ fr4 o4 p4=>?_
    have ap:∀q b,T q b->S4 b->False:=fun q b h1 h2=>(newS b (o.sub q b h1)).2.2 (fr4.new b h2).1
    refine⟨rfl,hlt,G4,as++[e],fun a=>S a\/S4 a,fun q b=>(q<as.length/\T q b)\/(q=as.length/\S4 b),⟨x03.trans fr4.ext,fun a ha=>?_⟩,sg.trans (x2.g.trans fr4.ext.g),⟨by simp[o.len],fun q d y h1 h2=>?_,fun q r b h1 h2=>?_,fun q b h=>?_⟩,by simp;lia,p4⟩
    ·rcases ha with ha|ha
     ·obtain⟨n1,n2,n3⟩:=newS a ha;exact⟨n1,(fr4.ext.old a n3).trans n2,fr4.ext.h.some n3⟩
     ·obtain⟨n1,n2,n3⟩:=fr4.new a ha;exact⟨x03.h.free n1,n2,n3⟩
    ·by_cases hq:q<as.length
     ·rw[qA8 hq]at h1;rw[qA8 (by rw[o.len];exact hq)]at h2;exact((own3.own q d y h1 h2).mono fr4.ext.g fr4.ext.h).sub fun b z=>.inl ⟨hq,z⟩
     ·rw[qA9 (by lia)]at h1;rw[qA9 (by rw[o.len];lia),o.len]at h2;have hq0:q-as.length=0:=by
       have:=(qA4.mp h1).1
       simp at this;lia
      rw[hq0]at h1 h2;simp at h1 h2;subst h1;subst h2;exact o4.sub fun b z=>.inr ⟨by lia,z⟩
    ·rcases h1 with⟨a1,t1⟩|⟨a1,t1⟩<;>rcases h2 with⟨a2,t2⟩|⟨a2,t2⟩
     ·exact o.dis q r b t1 t2
     ·exact(ap q b t1 t2).elim
     ·exact(ap r b t2 t1).elim
     ·lia
    ·rcases h with⟨_,z⟩|⟨_,z⟩
     ·exact .inl (o.sub q b z)
     ·exact .inr z
 ·have e:i=ds.length:=by lia
  subst e;refine .inl ⟨j2 (qAa _),fun D hD=>?_⟩;rw[qEt,Mi.compGo]at p;exact p (.ref D) G' _ _ (fr.add hD _) ⟨D,acc,T,rfl,zAI,o.kids (fun b hb=>(fr.new b hb).2.2) hD _⟩
end
end L3
namespace L3
open PySem PySem.Spec
open L2 hiding Rep RepL
open Mi (Dt Xn R okR zA4 optR zA0 zAD zAH zA8 zAF Rh Sl Ro EM TM AM FM IM SM Tg Out zAS zAT zAY full frz frz1 frzAt)
variable[Kc]
structure Sat(G0 H0 S0:Hp)(σ:St)(ρ:Ro)(G H:Hp)(As:Nat->Addr->Prop):Prop where
 ext:Ext G0 H0 G H
 stb:Same S0 G
 len:ρ.length=σ.length
 «at»:∀(i:Nat)(d:Dt)(n:Nat),ρ[i]?=some (some (d,n))->∃v,σ[i]?=some (some v)/\Own G H n (As i) d v
 dis:∀i j a,As i a->As j a->i=j
 new:∀i a,As i a->H0 a=none/\G a=none/\H a≠none
section
variable{G0 H0 S0:Hp}{σ:St}{ρ:Ro}{G H:Hp}{As:Nat->Addr->Prop}
theorem Sat.grow(a:Sat G0 H0 S0 σ ρ G H As){H':Hp}(s:Same H H'):Sat G0 H0 S0 σ ρ G H' As:=
 ⟨a.ext.trans (Ext.same a.ext.in' s),a.stb,a.len,fun i d n e=>let⟨v,h1,h2⟩:=a.at i d n e;⟨v,h1,h2.mono (Same.refl _) s⟩,a.dis,fun i b h=>let⟨n1,n2,n3⟩:=a.new i b h;⟨n1,n2,s.some n3⟩⟩
theorem Sat.wider(a:Sat G0 H0 S0 σ ρ G H As){G' H':Hp}(x:Ext G H G' H'):Sat G0 H0 S0 σ ρ G' H' As:=
 ⟨a.ext.trans x,a.stb.trans x.g,a.len,fun i d n e=>let⟨v,h1,h2⟩:=a.at i d n e;⟨v,h1,h2.mono x.g x.h⟩,a.dis,fun i b h=>let⟨n1,n2,n3⟩:=a.new i b h;⟨n1,(x.old b n3).trans n2,x.h.some n3⟩⟩
theorem Sat.full(a:Sat G0 H0 S0 σ ρ G H As):∃J,Ext G0 H0 J H/\Same G J/\View J σ (full ρ):=by
 obtain⟨s1,s2⟩:=zDZ (S:=fun b=>∃i,As i b) a.ext.in';refine⟨over G H fun b=>∃i,As i b,⟨a.ext.g.trans s1,a.ext.h,s2,fun b hb=>?_⟩,s1,by simp[Mi.full,a.len],fun i d e=>?_⟩
 ·have z:¬ ∃i,As i b:=fun⟨i,z⟩=>hb (a.new i b z).1
  rw[zCS z];exact a.ext.old b hb
 ·unfold Mi.full at e;rw[qAb]at e;cases e1:ρ[i]? with
  |none=>rw[e1]at e;cases e
  |some o=>
   rw[e1]at e;cases o with
   |none=>cases e
   |some sl=>
    obtain⟨d',n⟩:=sl;cases e;obtain⟨v,h1,h2⟩:=a.at i _ n e1;exact⟨v,h1,h2.rep s1 fun b o hb e=>by rw[zF2 ⟨i,hb⟩];exact e⟩
theorem Sat.put(a:Sat G0 H0 S0 σ ρ G H As){i n:Nat}{d:Dt}{v:V}{S:Addr->Prop}(o:Own G H n S d v)(hS:∀b,S b->H0 b=none/\G b=none/\H b≠none)(hd:∀j b,j≠i->As j b->S b->False) :
  Sat G0 H0 S0 (σ.set i (some v)) (ρ.set i (some (d,n))) G H (fun j=>if j=i then S else As j):=by
 refine⟨a.ext,a.stb,by simp[a.len],fun j e k h=>?_,fun j l b h1 h2=>?_,fun j b h=>?_⟩
 ·have hj:j<ρ.length:=by
   have:=(qA4.mp h).1
   simpa using this
  by_cases z:i=j
  ·subst z;rw[qAh hj]at h;cases h;exact⟨v,qAh (by rw[<- a.len];exact hj),by rw[if_pos rfl];exact o⟩
  ·rw[qAi z]at h;obtain⟨u,h1,h2⟩:=a.at j e k h;exact⟨u,by rw[qAi z];exact h1,by rw[if_neg (fun q=>z q.symm)];exact h2⟩
 ·try dsimp only at h1 h2
  by_cases z1:j=i
  ·by_cases z2:l=i
   ·rw[z1,z2]
   ·rw[if_pos z1]at h1;rw[if_neg z2]at h2;exact(hd l b z2 h2 h1).elim
  ·by_cases z2:l=i
   ·rw[if_neg z1]at h1;rw[if_pos z2]at h2;exact(hd j b z1 h1 h2).elim
   ·rw[if_neg z1]at h1;rw[if_neg z2]at h2;exact a.dis j l b h1 h2
 ·try dsimp only at h
  by_cases z1:j=i
  ·rw[if_pos z1]at h;exact hS b h
  ·rw[if_neg z1]at h;exact a.new j b h
theorem Sat.set(a:Sat G0 H0 S0 σ ρ G H As){H':Hp}{i n:Nat}{d:Dt}{v:V}{S:Addr->Prop}(s:Same H H')(o:Own G H' n S d v)(hS:∀b,S b->H b=none/\G b=none/\H' b≠none) :
  Sat G0 H0 S0 (σ.set i (some v)) (ρ.set i (some (d,n))) G H' (fun j=>if j=i then S else As j):=
 (a.grow s).put o (fun b hb=>⟨a.ext.h.free (hS b hb).1,(hS b hb).2⟩) fun j b _ h1 h2=>(a.new j b h1).2.2 (hS b h2).1
theorem Sat.frz1(a:Sat G0 H0 S0 σ ρ G H As)(i:Nat):∃G1 As1,Sat G0 H0 S0 σ (Mi.frz1 i ρ) G1 H As1:=by
 unfold Mi.frz1;cases e1:ρ[i]? with
 |none=>exact⟨G,As,a⟩
 |some o=>
  cases o with
  |none=>exact⟨G,As,a⟩
  |some sl=>
   obtain⟨d,n⟩:=sl;dsimp only;obtain⟨v,h1,h2⟩:=a.at i d n e1;obtain⟨s1,s2⟩:=zDZ (S:=As i) a.ext.in';have x:Ext G0 H0 (over G H (As i)) H:=⟨a.ext.g.trans s1,a.ext.h,s2,fun b hb=>by
    have z:¬As i b:=fun z=>hb (a.new i b z).1
    rw[zCS z];exact a.ext.old b hb⟩
   have hv:(σ.set i (some v))=σ:=by
    have hi:i<σ.length:=(qA4.mp h1).1;have he:=(qA4.mp h1).2;rw[<- he,List.set_getElem_self]
   have b:Sat G0 H0 S0 σ (ρ.set i (some (d,0))) (over G H (As i)) H (fun j b=>j≠i/\As j b):=by
    refine⟨x,a.stb.trans s1,by simp[a.len],fun j e k h=>?_,fun j l b p q=>a.dis j l b p.2 q.2,fun j b p=>?_⟩
    ·have hj:j<ρ.length:=by
      have:=(qA4.mp h).1
      simpa using this
     by_cases z:i=j
     ·subst z;rw[qAh hj]at h;cases h;exact⟨v,h1,h2.rep s1 fun b o hb e=>by rw[zF2 hb];exact e⟩
     ·rw[qAi z]at h;obtain⟨u,q1,q2⟩:=a.at j e k h;exact⟨u,q1,(q2.mono s1 (Same.refl _)).sub fun b hb=>⟨fun q=>z q.symm,hb⟩⟩
    ·obtain⟨n1,n2,n3⟩:=a.new j b p.2;have z:¬As i b:=fun z=>p.1 (a.dis j i b p.2 z)
     exact⟨n1,by rw[zCS z];exact n2,n3⟩
   exact⟨_,_,b⟩
theorem Sat.frzAt:∀(vs:List Nat){ρ:Ro}{G:Hp}{As:Nat->Addr->Prop},Sat G0 H0 S0 σ ρ G H As->∃G1 As1,Sat G0 H0 S0 σ (Mi.frzAt vs ρ) G1 H As1
 |[],_,_,_,a=>⟨_,_,a⟩
 |i::r,_,_,_,a=>by
  obtain⟨G1,As1,b⟩:=a.frz1 i;exact Sat.frzAt r b
theorem Sat.frz(a:Sat G0 H0 S0 σ ρ G H As):View G σ (Mi.frz ρ):=by
 refine⟨by simp[Mi.frz,a.len],fun i d e=>?_⟩;unfold Mi.frz at e;rw[qAb]at e;cases e1:ρ[i]? with
 |none=>rw[e1]at e;cases e
 |some o=>
  rw[e1]at e;cases o with
  |none=>cases e
  |some sl=>
   obtain⟨d',n⟩:=sl;obtain⟨v,h1,h2⟩:=a.at i d' n e1;simp only[qBn,qHt]at e
   split at e
   ·rename_i hz
    cases e
    rcases hz with hz|hz
    ·subst hz;exact⟨v,h1,h2⟩
    ·exact⟨v,h1,Own.scalar (k:=0) (G2:=G) (H2:=H) (S2:=fun _=>False) h2 hz⟩
   ·cases e
theorem Sat.store(a:Sat G0 H0 S0 σ ρ G H As){i n:Nat}{d:Dt}{v:V}{p:Addr}{o:HO}{S:Addr->Prop}(hp:As i p)(hv:σ[i]?=some (some v))(w:Own G (upd H p o) n S d v)
  (hS:∀b,S b->As i b\/(H0 b=none/\G b=none/\H b≠none/\∀j,¬As j b)):Sat G0 H0 S0 σ (ρ.set i (some (d,n))) G (upd H p o) (fun j=>if j=i then S else As j):=by
 obtain⟨p1,p2,p3⟩:=a.new i p hp;have hn:∀b,H b≠none->upd H p o b≠none:=fun b hb=>by
  by_cases z:b=p
  ·subst z;rw[zAI];simp
  ·rw[zAJ z];exact hb
 refine⟨⟨a.ext.g,L2.Same.upd a.ext.h p1 o,L2.Same.upd a.ext.in' p2 o,a.ext.old⟩,a.stb,by simp[a.len],fun j e k h=>?_,fun j l b h1 h2=>?_,fun j b h=>?_⟩
 ·have hj:j<ρ.length:=by
   have:=(qA4.mp h).1
   simpa using this
  by_cases z:i=j
  ·subst z;rw[qAh hj]at h;cases h;exact⟨v,hv,by rw[if_pos rfl];exact w⟩
  ·rw[qAi z]at h;obtain⟨u,h1,h2⟩:=a.at j e k h;exact⟨u,h1,by rw[if_neg (fun q=>z q.symm)];exact h2.upd fun q=>z (a.dis i j p hp q)⟩
 ·have key:∀j b,j≠i->As j b->S b->False:=fun j b hj h1 h2=>by
   rcases hS b h2 with q|⟨_,_,_,q⟩
   ·exact hj (a.dis j i b h1 q)
   ·exact q j h1
  try dsimp only at h1 h2
  by_cases z1:j=i
  ·by_cases z2:l=i
   ·rw[z1,z2]
   ·rw[if_pos z1]at h1;rw[if_neg z2]at h2;exact(key l b z2 h2 h1).elim
  ·by_cases z2:l=i
   ·rw[if_neg z1]at h1;rw[if_pos z2]at h2;exact(key j b z1 h1 h2).elim
   ·rw[if_neg z1]at h1;rw[if_neg z2]at h2;exact a.dis j l b h1 h2
 ·try dsimp only at h
  by_cases z1:j=i
  ·rw[if_pos z1]at h
   rcases hS b h with q|⟨q1,q2,q3,_⟩
   ·obtain⟨n1,n2,n3⟩:=a.new i b q;exact⟨n1,n2,hn b n3⟩
   ·exact⟨q1,q2,hn b q3⟩
  ·rw[if_neg z1]at h;obtain⟨n1,n2,n3⟩:=a.new j b h;exact⟨n1,n2,hn b n3⟩
end
def zGJ(mg:Str->Option Value)(E:XK)(G0 H0 S0:Hp)(L:Nat)(r:R Out)(D:Ends):Prop:=match r with
 |none=>False
 |some (.error x)=>∀c da G' H',Ext G0 H0 G' H'->XRep mg x c da G' H'->E c da H'
 |some (.ok (.nx ρ))=>∀σ G H As,Sat G0 H0 S0 σ ρ G H As->D.nx σ H
 |some (.ok (.bk ρ))=>∀σ G H As,Sat G0 H0 S0 σ ρ G H As->D.bk σ H
 |some (.ok (.ct ρ))=>∀σ G H As,Sat G0 H0 S0 σ ρ G H As->D.ct σ H
 |some (.ok (.rt d))=>∀v G H S,Fr G0 H0 G H S->Own G H L S d v->D.rt v H
def DS(mg:Str->Option Value)(E:XK)(L:Nat)(t:TS)(m:SM):Prop:=∀(G0 H0 S0:Hp)(σ:St)(ρ:Ro)(G H:Hp)(As:Nat->Addr->Prop)(D:Ends),Sat G0 H0 S0 σ ρ G H As->zGJ mg E G0 H0 S0 L (m ρ) D->t D σ H
section
variable{mg:Str->Option Value}{E:XK}{L n k l:Nat}{te ta tb:TE}{e ea eb:EM}{t u:TS}{m m':SM}
theorem errS{G0 H0 S0:Hp}{D:Ends}:Err mg E G0 H0 (fun r=>zGJ mg E G0 H0 S0 L r D):=⟨fun h=>h,fun _ h=>h⟩
theorem zDR:DS mg E L zY5 Mi.sNil:=fun G0 H0 S0 σ ρ G H As D a p=>p σ G H As a
theorem zU8:DS mg E L zUR Mi.sBreak:=fun G0 H0 S0 σ ρ G H As D a p=>p σ G H As a
theorem zAA(A:DS mg E L t m)(B:DS mg E L u m'):DS mg E L (tSeq t u) (Mi.sSeq m m'):=by
 intro G0 H0 S0 σ ρ G H As D a p;refine A G0 H0 S0 σ ρ G H As _ a ?_;unfold Mi.sSeq at p;cases e:m ρ with
 |none=>rw[e]at p;exact p
 |some r=>
  rw[e]at p;cases r with
  |error x=>exact p
  |ok o=>
   cases o with
   |nx ρ'=>exact fun σ' G' H' As' a'=>B G0 H0 S0 σ' ρ' G' H' As' D a' p
   |rt d=>exact p
   |bk ρ'=>exact p
   |ct ρ'=>exact p
theorem zGQ{tc:TT}{c:TM}(C:DT mg E tc c)(A:DS mg E L t m)(B:DS mg E L u m'):DS mg E L (tIfS tc t u) (Mi.sIf c m m'):=by
 intro G0 H0 S0 σ ρ G H As D a p;obtain⟨J,x,s,w⟩:=a.full;refine C.step (errS.from x) x.in' w p fun b H' _ sH p1=>?_
 cases b with
 |true=>exact A G0 H0 S0 σ ρ G H' As D (a.grow sH) p1
 |false=>exact B G0 H0 S0 σ ρ G H' As D (a.grow sH) p1
theorem zXE(A:DE mg E te e n):DS mg E L (zFZ te) (Mi.sDrop e):=by
 intro G0 H0 S0 σ ρ G H As D a p;obtain⟨J,x,s,w⟩:=a.full;refine A.step (errS.from x) x.in' w p fun d v G1 H1 S _ fr o p1=>?_
 exact p1 σ G H1 As (a.grow fr.ext.h)
theorem whole{G0 H0 S0:Hp}{σ:St}{ρ:Ro}{G H J G1 H1:Hp}{As:Nat->Addr->Prop}{S:Addr->Prop}{d:Dt}{v:V}(a:Sat G0 H0 S0 σ ρ G H As)(s:Same G J)(fr:Fr J H G1 H1 S)(o:Own G1 H1 n S d v)(hn:n<1000)(hd:d.dep<=n)(hk:d.dep<=k) :
  Own G H1 k S d v/\∀b,S b->H b=none/\G b=none/\H1 b≠none:=
 ⟨o.at hd hk hn,fun b hb=>let⟨n1,n2,n3⟩:=fr.new b hb;⟨n1,a.ext.in'.free n1,n3⟩⟩
theorem zAK{i:Nat}(vs:List Nat)(A:DE mg E te e n)(hn:n<1000:=by decide):DS mg E L (tAsg te (zHY i)) (Mi.sSet i n vs e):=by
 intro G0 H0 S0 σ ρ G H As D a p;obtain⟨J,x,s,w⟩:=a.full;unfold Mi.sSet at p;cases ee:e (full ρ)with
 |none=>rw[ee]at p;exact p.elim
 |some r=>
  cases r with
  |error y=>exact A.step (errS.from x) x.in' w p fun d v G1 H1 S e1 fr o p1=>by rw[ee]at e1;cases e1
  |ok d=>
   by_cases hd:d.dep<=n
   ·refine A.step (errS.from x) x.in' w p fun d' v G1 H1 S e1 fr o p1=>?_
    rw[ee]at e1;cases e1;rw[if_pos hd]at p1;obtain⟨q1,q2⟩:=whole (k:=n) a s fr o hn hd hd;exact p1 _ G H1 _ (a.set fr.ext.h q1 q2)
   ·rw[ee]at p;have p':zGJ mg E G0 H0 S0 L (zA4 (e (frz (frzAt vs ρ))) fun d'=>okR (.nx ((frzAt vs ρ).set i (some (d',n))))) D:=by
     have p2:zGJ mg E G0 H0 S0 L (if d.dep<=n then okR (.nx (ρ.set i (some (d,n))))else zA4 (e (frz (frzAt vs ρ))) fun d'=>okR (.nx ((frzAt vs ρ).set i (some (d',n))))) D:=p;rw[if_neg hd]at p2;exact p2
    obtain⟨G1,As1,a1⟩:=Sat.frzAt vs a;refine A.step (errS.from a1.ext) a1.ext.in' a1.frz p' fun d' v G2 H2 S _ fr o p1=>?_
    exact p1 _ G2 H2 _ ((a1.wider fr.ext).put o (fun b hb=>let⟨n1,n2,n3⟩:=fr.new b hb;⟨a1.ext.h.free n1,n2,n3⟩) fun j b _ h1 h2=>(a1.new j b h1).2.2 (fr.new b h2).1)
theorem zCR(vs:List Nat)(A:DE mg E te e n)(hn:n<1000:=by decide):DS mg E L (tRet te) (Mi.sRet L n vs e):=by
 intro G0 H0 S0 σ ρ G H As D a p;obtain⟨J,x,s,w⟩:=a.full;unfold Mi.sRet at p;cases ee:e (full ρ)with
 |none=>rw[ee]at p;exact p.elim
 |some r=>
  cases r with
  |error y=>exact A.step (errS.from x) x.in' w p fun d v G1 H1 S e1 fr o p1=>by rw[ee]at e1;cases e1
  |ok d=>
   by_cases hd:d.dep<=n/\d.dep<=L
   ·refine A.step (errS.from x) x.in' w p fun d' v G1 H1 S e1 fr o p1=>?_
    rw[ee]at e1;cases e1;rw[if_pos hd]at p1;exact p1 v G1 H1 S (Fr.from x fr) (o.at hd.1 hd.2 hn)
   ·rw[ee]at p;have p2:zGJ mg E G0 H0 S0 L (if d.dep<=n/\d.dep<=L then okR (.rt d)else if n=L then zA4 (e (frz (frzAt vs ρ))) fun d'=>okR (.rt d')else none) D:=p;rw[if_neg hd]at p2
    by_cases hl:n=L
    ·rw[if_pos hl]at p2;subst hl;obtain⟨G1,As1,a1⟩:=Sat.frzAt vs a;refine A.step (errS.from a1.ext) a1.ext.in' a1.frz p2 fun d' v G2 H2 S _ fr o p1=>?_
     exact p1 v G2 H2 S (Fr.from a1.ext fr) o
    ·rw[if_neg hl]at p2;exact p2.elim
theorem zD5(i:Nat):DS mg E L (tRet (vM i)) (Mi.sRetV L i):=by
 intro G0 H0 S0 σ ρ G H As D a p;unfold Mi.sRetV at p;cases e1:ρ[i]? with
 |none=>rw[e1]at p;exact p.elim
 |some o=>
  rw[e1]at p;cases o with
  |none=>exact p.elim
  |some sl=>
   obtain⟨d,k⟩:=sl;obtain⟨v,h1,h2⟩:=a.at i d k e1;show vM i σ H D.rt;unfold vM;rw[h1];dsimp only at p
   split at p
   ·rename_i hz
    rcases hz with hz|hz|hz
    ·subst hz;exact p v G H (As i) ⟨a.ext,fun b hb=>a.new i b hb⟩ h2
    ·subst hz;obtain⟨s1,s2⟩:=zDZ (S:=As i) a.ext.in';refine p v (over G H (As i)) H (fun _=>False) ⟨⟨a.ext.g.trans s1,a.ext.h,s2,fun b hb=>?_⟩,fun _ z=>z.elim⟩ (h2.rep s1 fun b o hb e=>by rw[zF2 hb];exact e);have z:¬As i b:=fun z=>hb (a.new i b z).1
     rw[zCS z];exact a.ext.old b hb
    ·exact p v G H (As i) ⟨a.ext,fun b hb=>a.new i b hb⟩ (h2.at hz.1 hz.2.1 hz.2.2)
   ·exact p.elim
theorem Sat.puts{G0 H0 S0 G H:Hp}{bs:List (Nat×Dt)}{ws:List (Nat×V)}(h:BsRep G bs ws):∀{σ:St}{ρ:Ro}{As:Nat->Addr->Prop},Sat G0 H0 S0 σ ρ G H As->∃As',Sat G0 H0 S0 (zHB σ ws) (zAY ρ bs) G H As':=by
 induction h with
 |nil=>exact fun a=>⟨_,a⟩
 |cons r _ ih=>exact fun a=>ih (a.put (n:=0) (S:=fun _=>False) r (fun _ z=>z.elim) fun _ _ _ _ z=>z.elim)
theorem zRQ{g:TG}{is:List Nat}(vs:List Nat)(hT:TgOk g (.tup is))(A:DE mg E te e n):DS mg E L (tAsg te g) (Mi.sUnp is vs e):=by
 intro G0 H0 S0 σ ρ G H As D a p;obtain⟨G1,As1,a1⟩:=Sat.frzAt vs a;refine(zAN A).step (errS.from a1.ext) a1.ext.in' a1.frz p fun d v G2 H2 S _ fr o p1=>?_
 cases eb:zAS (.tup is) d with
 |none=>rw[eb]at p1;exact p1.elim
 |some bs=>
  rw[eb]at p1;refine hT G2 H2 σ d v bs _ fr.ext.in' o eb fun ws hw=>?_
  obtain⟨As',a2⟩:=Sat.puts hw (a1.wider fr.ext);exact p1 _ G2 H2 As' a2
theorem zO8(i:Nat)(A:DE mg E te e n)(hn:n<1000:=by decide):DS mg E L (zFZ (tML appM (vM i) (zG0 te tNil))) (Mi.sApp i n e):=by
 intro G0 H0 S0 σ ρ G H As D a p;obtain⟨J,x,s,w⟩:=a.full;unfold Mi.sApp at p;cases e1:ρ[i]? with
 |none=>rw[e1]at p;exact p.elim
 |some o=>
  rw[e1]at p
  match o,e1,p with
  |none,_,p=>exact p.elim
  |some (.lst ds,k+1),e1,p=>
   obtain⟨v,h1,q,xs,T,rfl,hq,kd⟩:=a.at i _ _ e1;unfold zFZ tML vM;rw[h1];refine⟨xs,hq,?_⟩;refine A.step (errS.from x) x.in' w p fun d y G1 H1 S _ fr o p1=>?_
   split at p1
   ·rename_i hz
    obtain⟨q1,q2⟩:=whole (k:=k) a s fr o hn hz.2.1 hz.2.2;refine⟨xs,fr.ext.h _ _ hq,by rw[kd.len];exact L2.big (by lia),?_⟩;have hp:=kd.top;have a1:=a.grow fr.ext.h;have nS:¬S q:=fun z=>(a.new i q hp).2.2 (q2 q z).1
    have ap:∀r b,T r b->S b->False:=fun r b h1 h2=>(a.new i b (kd.sub r b h1)).2.2 (q2 b h2).1
    refine p1 σ G _ _ (a1.store (S:=fun b=>As i b\/S b) hp h1 ⟨q,_,fun r b=>(r<ds.length/\T r b)\/(r=ds.length/\S b),rfl,zAI,⟨by simp[kd.len],fun r d' z g1 g2=>?_,.inl hp,fun r z=>?_,fun r r' b z1 z2=>?_,fun r b z=>?_⟩⟩ fun b z=>?_)
    ·by_cases hr:r<ds.length
     ·rw[qA8 hr]at g1;rw[qA8 (by rw[kd.len];exact hr)]at g2;exact(((kd.own r d' z g1 g2).mono (Same.refl _) fr.ext.h).upd (kd.out r)).sub fun b z=>.inl ⟨hr,z⟩
     ·rw[qA9 (by lia)]at g1;rw[qA9 (by rw[kd.len];lia),kd.len]at g2;have hq0:r-ds.length=0:=by
       have:=(qA4.mp g1).1
       simp at this;lia
      rw[hq0]at g1 g2;simp at g1 g2;subst g1;subst g2;exact(q1.upd nS).sub fun b z=>.inr ⟨by lia,z⟩
    ·rcases z with⟨_,z⟩|⟨_,z⟩
     ·exact kd.out r z
     ·exact nS z
    ·rcases z1 with⟨c1,t1⟩|⟨c1,t1⟩<;>rcases z2 with⟨c2,t2⟩|⟨c2,t2⟩
     ·exact kd.dis r r' b t1 t2
     ·exact(ap r b t1 t2).elim
     ·exact(ap r' b t2 t1).elim
     ·lia
    ·rcases z with⟨_,z⟩|⟨_,z⟩
     ·exact .inl (kd.sub r b z)
     ·exact .inr z
    ·rcases z with z|z
     ·exact .inl z
     ·obtain⟨n1,n2,n3⟩:=q2 b z;exact .inr ⟨a.ext.h.free n1,n2,n3,fun j y=>(a.new j b y).2.2 n1⟩
   ·exact p1.elim
  |some (.lst ds,0),_,p=>exact p.elim
  |some (.non,_),_,p=>exact p.elim
  |some (.bl _,_),_,p=>exact p.elim
  |some (.int _,_),_,p=>exact p.elim
  |some (.str _,_),_,p=>exact p.elim
  |some (.tup _,_),_,p=>exact p.elim
  |some (.scr _,_),_,p=>exact p.elim
  |some (.exc _ _ _,_),_,p=>exact p.elim
  |some (.ins _ _,_),_,p=>exact p.elim
  |some (.dct _,_),_,p=>exact p.elim
theorem Kids.pop{P:(Addr->Prop)->Dt->V->Prop}{S:Addr->Prop}{a:Addr}{ds:List Dt}{xs:List V}{T:Nat->Addr->Prop}(k:Kids P S a ds xs T)(q:Nat) :
  Kids P (fun b=>S b/\¬T q b) a (ds.eraseIdx q) (xs.eraseIdx q) (fun r=>if r<q then T r else T (r+1)):=by
 refine⟨by rw[qDx,qDx,k.len],fun r d x h1 h2=>?_,⟨k.top,k.out q⟩,fun r=>?_,fun r r' b z1 z2=>?_,fun r b z=>?_⟩
 ·rw[List.getElem?_eraseIdx]at h1 h2
  try dsimp only
  by_cases hr:r<q
  ·rw[if_pos hr]at h1 h2 ⊢;exact k.own r d x h1 h2
  ·rw[if_neg hr]at h1 h2 ⊢;exact k.own (r+1) d x h1 h2
 ·try dsimp only
  split
  ·exact k.out _
  ·exact k.out _
 ·try dsimp only at z1 z2
  by_cases h1:r<q<;>by_cases h2:r'<q
  ·rw[if_pos h1]at z1;rw[if_pos h2]at z2;exact k.dis _ _ b z1 z2
  ·rw[if_pos h1]at z1;rw[if_neg h2]at z2;have:=k.dis _ _ b z1 z2;lia
  ·rw[if_neg h1]at z1;rw[if_pos h2]at z2;have:=k.dis _ _ b z1 z2;lia
  ·rw[if_neg h1]at z1;rw[if_neg h2]at z2;have:=k.dis _ _ b z1 z2;lia
 ·try dsimp only at z
  by_cases h1:r<q
  ·rw[if_pos h1]at z;exact⟨k.sub _ b z,fun w=>by have:=k.dis _ _ b z w;lia⟩
  ·rw[if_neg h1]at z;exact⟨k.sub _ b z,fun w=>by have:=k.dis _ _ b z w;lia⟩
theorem zV1{G H:Hp}{p:Addr}{o:HO}{S:Addr->Prop}{a:Addr}{ds:List Dt}{xs:List V}{T:Nat->Addr->Prop}(k:Kids (Own G H n) S a ds xs T)(hp:∀q,¬T q p):Kids (Own G (upd H p o) n) S a ds xs T:=
 ⟨k.len,fun q d x h1 h2=>(k.own q d x h1 h2).upd (hp q),k.top,k.out,k.dis,k.sub⟩
end
end L3
namespace L3
open PySem PySem.Spec
open L2 hiding Rep RepL
open Mi (Dt Xn R okR zA4 optR zA0 zAD zAH zA8 zAF Rh Sl Ro EM TM AM FM IM SM Tg Out zAS zAT zAY full frz frz1 frzAt)
section
variable[Kc]{mg:Str->Option Value}{E:XK}{L n k l:Nat}{te ta tb:TE}{e ea eb:EM}{t u:TS}{m m':SM}
theorem Kids.set{G H:Hp}{S:Addr->Prop}{a p:Addr}{ds:List Dt}{xs:List V}{T:Nat->Addr->Prop}{S':Addr->Prop}{d:Dt}{v:V}{o:HO}(k:Kids (Own G H n) S a ds xs T)(q:Nat)(w:Own G (upd H p o) n S' d v)(hp:∀r,r≠q->¬T r p)(ha:¬S' a)
  (hd:∀r b,r≠q->T r b->S' b->False):Kids (Own G (upd H p o) n) (fun b=>S b\/S' b) a (ds.set q d) (xs.set q v) (fun r b=>if r=q then S' b else T r b):=by
 refine⟨by simp[k.len],fun r d' x h1 h2=>?_,.inl k.top,fun r=>?_,fun r r' b z1 z2=>?_,fun r b z=>?_⟩
 ·by_cases z:q=r
  ·subst z;have h:q<ds.length:=by
    have:=(qA4.mp h1).1
    simpa using this
   rw[qAh h]at h1;rw[qAh (by rw[k.len];exact h)]at h2;cases h1;cases h2;exact w.sub fun b hb=>by rw[if_pos rfl];exact hb
  ·rw[qAi z]at h1 h2;exact((k.own r d' x h1 h2).upd (hp r fun y=>z y.symm)).sub fun b hb=>by rw[if_neg (fun y=>z y.symm)];exact hb
 ·try dsimp only
  split
  ·exact ha
  ·exact k.out _
 ·try dsimp only at z1 z2
  by_cases h1:r=q<;>by_cases h2:r'=q
  ·rw[h1,h2]
  ·rw[if_pos h1]at z1;rw[if_neg h2]at z2;exact(hd r' b h2 z2 z1).elim
  ·rw[if_neg h1]at z1;rw[if_pos h2]at z2;exact(hd r b h1 z1 z2).elim
  ·rw[if_neg h1]at z1;rw[if_neg h2]at z2;exact k.dis _ _ b z1 z2
 ·try dsimp only at z
  by_cases h1:r=q
  ·rw[if_pos h1]at z;exact .inr z
  ·rw[if_neg h1]at z;exact .inl (k.sub _ b z)
theorem zI4(i:Nat){n1:Nat}{t1 t2:TE}{e1 e2:EM}(A:DE mg E t1 e1 n1)(B:DE mg E t2 e2 n)(hn:n<1000:=by decide):DS mg E L (tAsg t2 (gSub (vM i) t1 setM)) (Mi.sItem i n e1 e2):=by
 intro G0 H0 S0 σ ρ G H As D a p;obtain⟨J,x,s,w⟩:=a.full;refine B.step (errS.from x) x.in' w p fun d y G1 H1 S _ fr o p1=>?_
 cases er:ρ[i]? with
 |none=>rw[er]at p1;exact p1.elim
 |some sl=>
  rw[er]at p1
  match sl,er,p1 with
  |none,_,p=>exact p.elim
  |some (.lst ds,k+1),er,p1=>
   obtain⟨v,h1,q,xs,T,rfl,hq,kd⟩:=a.at i _ _ er;unfold gSub vM;rw[h1];have x1:Ext J H J H1:=Ext.same x.in' fr.ext.h;refine(zAN A).step (errS.from (x.trans x1)) x1.in' w p1 fun z u G2 H2 S2 _ fr2 o2 p2=>?_
   cases z with
   |int z=>
    cases(show u=.int z from o2)
    try dsimp only at p2
    cases ei:Mi.ixA ds.length z with
    |none=>rw[ei]at p2;exact p2.elim
    |some c=>
     rw[ei]at p2
     try dsimp only at p2
     split at p2
     ·rename_i hz
      rw[zV3]at ei;obtain⟨q1,q2⟩:=whole (k:=k) a s fr o hn hz.1 hz.2;have sH:=fr.ext.h.trans fr2.ext.h;refine⟨xs,c,sH _ _ hq,by rw[kd.len];exact ei,?_⟩;have a1:=a.grow sH;have nS:¬S q:=fun z=>(a.new i q kd.top).2.2 (q2 q z).1
      have kd1:Kids (Own G H2 k) (As i) q ds xs T:=kd.imp (fun _ _ _ _ w=>w.mono (Same.refl _) sH) fun _ z=>z
      refine p2 σ G _ _ (a1.store (S:=fun b=>As i b\/S b) kd.top h1 ⟨q,_,_,rfl,zAI,kd1.set c ((q1.mono (Same.refl _) fr2.ext.h).upd nS) (fun r _=>kd.out r) nS fun r b _ z1 z2=>(a.new i b (kd.sub r b z1)).2.2 (q2 b z2).1⟩ fun b z=>?_)
      rcases z with z|z
      ·exact .inl z
      ·obtain⟨n1,n2,n3⟩:=q2 b z;exact .inr ⟨a.ext.h.free n1,n2,fr2.ext.h.some n3,fun j y=>(a.new j b y).2.2 n1⟩
     ·exact p2.elim
   |_=>exact p2.elim
  |some (.lst ds,0),_,p=>exact p.elim
  |some (.non,_),_,p=>exact p.elim
  |some (.bl _,_),_,p=>exact p.elim
  |some (.int _,_),_,p=>exact p.elim
  |some (.str _,_),_,p=>exact p.elim
  |some (.tup _,_),_,p=>exact p.elim
  |some (.scr _,_),_,p=>exact p.elim
  |some (.exc _ _ _,_),_,p=>exact p.elim
  |some (.ins _ _,_),_,p=>exact p.elim
  |some (.dct _,_),_,p=>exact p.elim
theorem zLI(j i:Nat)(A:DE mg E te e n):DS mg E L (zFZ (tML appM (vM j) (zG0 (tML popM (vM i) (zG0 te tNil)) tNil))) (Mi.sAppPop j i e):=by
 intro G0 H0 S0 σ ρ G H As D a p;obtain⟨J,x,s,w⟩:=a.full;unfold Mi.sAppPop at p;cases f1:ρ[j]? with
 |none=>rw[f1]at p;exact p.elim
 |some oj=>
  rw[f1]at p
  match oj,f1,p with
  |none,_,p=>exact p.elim
  |some (.lst es,l+1),f1,p=>
   cases e1:ρ[i]? with
   |none=>rw[e1]at p;exact p.elim
   |some o=>
    rw[e1]at p
    match o,e1,p with
    |none,_,p=>exact p.elim
    |some (.lst ds,k+1),e1,p=>
     obtain⟨v',g1,q',ys,T',rfl,hq',kd'⟩:=a.at j _ _ f1;obtain⟨v,h1,q,xs,T,rfl,hq,kd⟩:=a.at i _ _ e1;unfold zFZ tML zG0 vM;rw[g1];refine⟨ys,hq',?_⟩;dsimp only;rw[h1];refine⟨xs,hq,?_⟩;refine(zAN A).step (errS.from x) x.in' w p fun d y G1 H1 S _ fr o p1=>?_
     cases d with
     |int z=>
      cases(show y=.int z from o)
      try dsimp only at p1
      cases ei:Mi.ixA ds.length z with
      |none=>rw[ei]at p1;exact p1.elim
      |some c=>
       rw[ei]at p1
       try dsimp only at p1
       cases ec:ds[c]? with
       |none=>rw[ec]at p1;exact p1.elim
       |some dc=>
        rw[ec]at p1
        try dsimp only at p1
        split at p1
        ·rename_i hz
         obtain⟨hij,hz1,hz2,hlv⟩:=hz;rw[zV3]at ei;obtain⟨b1,b2,b3,b4⟩:=zMI ei;have hc:c<xs.length:=by rw[kd.len];exact b2
         have hx:xs[c]?=some xs[c]:=qA1 hc;refine⟨xs,c,xs[c],fr.ext.h _ _ hq,⟨by lia,by lia⟩,by rw[kd.len];exact b1,hx,?_⟩;have a1:=a.grow fr.ext.h;have kd1:Kids (Own G H1 k) (As i) q ds xs T:=kd.imp (fun _ _ _ _ w=>w.mono (Same.refl _) fr.ext.h) fun _ z=>z
         have hqq:q'≠q:=fun z=>hij (a.dis i j q kd.top (z▸kd'.top))
         have hjq:¬As j q:=fun z=>hij (a.dis i j q kd.top z)
         have kd1':Kids (Own G (upd H1 q (.lst (xs.eraseIdx c))) l) (As j) q' es ys T':=zV1 (kd'.imp (fun _ _ _ _ w=>w.mono (Same.refl _) fr.ext.h) fun _ z=>z) fun r z=>hjq (kd'.sub r q z)
         refine⟨ys,by rw[zAJ hqq];exact fr.ext.h _ _ hq',by rw[kd'.len];exact L2.big (by lia),?_⟩;have a2:=a1.store (o:=.lst (xs.eraseIdx c)) (n:=k+1) (d:=.lst (ds.eraseIdx c)) (S:=fun b=>As i b/\¬T c b) kd.top h1 ⟨q,_,_,rfl,zAI,zV1 (kd1.pop c) fun r=>by split<;>exact kd.out _⟩ fun b z=>.inl z.1
         have wc:Own G (upd H1 q (.lst (xs.eraseIdx c))) l (T c) dc xs[c]:=by
          have w0:=(kd1.own c dc _ ec hx).upd (o:=.lst (xs.eraseIdx c)) (kd.out c)
          rcases hlv with z|⟨z1,z2,z3⟩
          ·subst z;exact w0
          ·exact w0.at z1 z2 z3
         have nT:¬T c q':=fun z=>hij (a.dis i j q' (kd.sub c q' z) kd'.top)
         have ap:∀r b,T' r b->T c b->False:=fun r b z1 z2=>hij (a.dis i j b (kd.sub c b z2) (kd'.sub r b z1))
         have e3:(if j=i then fun b=>As i b/\¬T c b else As j)=As j:=if_neg (fun z=>hij z.symm);have hp:(fun l=>if l=i then fun b=>As i b/\¬T c b else As l) j q':=by
          show(if j=i then fun b=>As i b/\¬T c b else As j) q'
          rw[e3];exact kd'.top
         refine p1 σ G _ _ (a2.store (i:=j) (p:=q') (S:=fun b=>As j b\/T c b) (n:=l+1) (d:=.lst (es++[dc])) (v:=.ref q') (o:=.lst (ys++[xs[c]])) hp g1
          ⟨q',_,fun r b=>(r<es.length/\T' r b)\/(r=es.length/\T c b),rfl,zAI,⟨by simp[kd'.len],fun r d' z f1 f2=>?_,.inl kd'.top,fun r z=>?_,fun r r' b z1 z2=>?_,fun r b z=>?_⟩⟩ fun b z=>?_)
         ·by_cases hr:r<es.length
          ·rw[qA8 hr]at f1;rw[qA8 (by rw[kd'.len];exact hr)]at f2;exact((kd1'.own r d' z f1 f2).upd (kd'.out r)).sub fun b z=>.inl ⟨hr,z⟩
          ·rw[qA9 (by lia)]at f1;rw[qA9 (by rw[kd'.len];lia),kd'.len]at f2;have hq0:r-es.length=0:=by
            have:=(qA4.mp f1).1
            simp at this;lia
           rw[hq0]at f1 f2;simp at f1 f2;subst f1;subst f2;exact(wc.upd nT).sub fun b z=>.inr ⟨by lia,z⟩
         ·rcases z with⟨_,z⟩|⟨_,z⟩
          ·exact kd'.out r z
          ·exact nT z
         ·rcases z1 with⟨c1,t1⟩|⟨c1,t1⟩<;>rcases z2 with⟨c2,t2⟩|⟨c2,t2⟩
          ·exact kd'.dis r r' b t1 t2
          ·exact(ap r b t1 t2).elim
          ·exact(ap r' b t2 t1).elim
          ·lia
         ·rcases z with⟨_,z⟩|⟨_,z⟩
          ·exact .inl (kd'.sub r b z)
          ·exact .inr z
         ·rcases z with z|z
          ·refine .inl ?_
           show(if j=i then fun b=>As i b/\¬T c b else As j) b
           rw[e3];exact z
          ·obtain⟨n1,n2,n3⟩:=a1.new i b (kd.sub c b z);refine .inr ⟨n1,n2,?_,fun r y=>?_⟩
           ·rw[zAJ (fun y:b=q=>kd.out c (y▸z))];exact n3
           ·have y':(if r=i then fun b=>As i b/\¬T c b else As r) b:=y
            by_cases hr:r=i
            ·rw[if_pos hr]at y';exact y'.2 z
            ·rw[if_neg hr]at y';exact hr (a.dis r i b y' (kd.sub c b z))
        ·exact p1.elim
     |_=>exact p1.elim
    |some (.lst ds,0),_,p=>exact p.elim
    |some (.non,_),_,p=>exact p.elim
    |some (.bl _,_),_,p=>exact p.elim
    |some (.int _,_),_,p=>exact p.elim
    |some (.str _,_),_,p=>exact p.elim
    |some (.tup _,_),_,p=>exact p.elim
    |some (.scr _,_),_,p=>exact p.elim
    |some (.exc _ _ _,_),_,p=>exact p.elim
    |some (.ins _ _,_),_,p=>exact p.elim
    |some (.dct _,_),_,p=>exact p.elim
  |some (.lst ds,0),_,p=>exact p.elim
  |some (.non,_),_,p=>exact p.elim
  |some (.bl _,_),_,p=>exact p.elim
  |some (.int _,_),_,p=>exact p.elim
  |some (.str _,_),_,p=>exact p.elim
  |some (.tup _,_),_,p=>exact p.elim
  |some (.scr _,_),_,p=>exact p.elim
  |some (.exc _ _ _,_),_,p=>exact p.elim
  |some (.ins _ _,_),_,p=>exact p.elim
  |some (.dct _,_),_,p=>exact p.elim
theorem zVG{G0 H0 S0:Hp}{D:Ends}{g:TG}{tg:Tg}{J:It}{ds:List Dt}{GJ:Hp}(hT:TgOk g tg)(B:DS mg E L t m)(io:ItOk J GJ ds){σ:St}{ρ:Ro}{G H:Hp}{As:Nat->Addr->Prop}(a:Sat G0 H0 S0 σ ρ G H As)(sJ:Same GJ G)
  (p:zGJ mg E G0 H0 S0 L (Mi.forGo tg m ds ρ) D):zST g t D σ J H:=by
 refine⟨fun i c σ H=>c=ds.length-i/\i<=ds.length/\∃ρ G As,Sat G0 H0 S0 σ ρ G H As/\Same GJ G/\zGJ mg E G0 H0 S0 L (Mi.forGo tg m (ds.drop i) ρ) D,
  ⟨_,rfl,qAc _,ρ,G,As,a,sJ,by rw[qDm];exact p⟩,?_⟩
 rintro i c σ H ⟨rfl,hi,ρ,G,As,a,sJ,p⟩
 obtain⟨j1,j2,j3⟩:=io i G H sJ a.ext.in'
 by_cases hlt:i<ds.length
 ·refine .inr ⟨j1 hlt,fun σ' H'=>i+1<=ds.length/\∃ρ G As,Sat G0 H0 S0 σ' ρ G H' As/\Same GJ G/\zGJ mg E G0 H0 S0 L (Mi.forGo tg m (ds.drop (i+1)) ρ) D,fun σ' H' q=>⟨ds.length-(i+1),by lia,rfl,q⟩,fun x H2 hy=>?_⟩;have hd:ds[i]?=some ds[i]:=qA1 hlt;obtain⟨G2,x2,r2⟩:=j3 x H2 ds[i] hd hy;rw[qB4 hlt,Mi.forGo]at p;cases eb:zAS tg ds[i]with
  |none=>rw[eb]at p;exact p.elim
  |some bs=>
   rw[eb]at p
   try dsimp only at p
   refine hT G2 H2 _ _ x bs _ x2.in' r2 eb fun ws hb=>?_
   obtain⟨As2,a2⟩:=Sat.puts hb (a.wider x2);have a3:Sat G0 H0 GJ (zHB σ ws) (zAY ρ bs) G2 H2 As2:=⟨a2.ext,sJ.trans x2.g,a2.len,a2.at,a2.dis,a2.new⟩
   have key:∀(S1:Hp),Same S0 S1->Same GJ S1->Sat G0 H0 S1 (zHB σ ws) (zAY ρ bs) G2 H2 As2->t { D with nx:=fun σ' H'=>i+1<=ds.length/\∃ρ G As,Sat G0 H0 S0 σ' ρ G H' As/\Same GJ G/\zGJ mg E G0 H0 S0 L (Mi.forGo tg m (ds.drop (i+1)) ρ) D,ct:=fun σ' H'=>i+1<=ds.length/\∃ρ G As,Sat G0 H0 S0 σ' ρ G H' As/\Same GJ G/\zGJ mg E G0 H0 S0 L (Mi.forGo tg m (ds.drop (i+1)) ρ) D,bk:=D.nx } (zHB σ ws) H2:=by
    intro S1 s1 s2 a4;refine B G0 H0 S1 _ _ G2 H2 As2 _ a4 ?_;have back:∀{σ':St}{ρ':Ro}{G' H':Hp}{As':Nat->Addr->Prop},Sat G0 H0 S1 σ' ρ' G' H' As'->Sat G0 H0 S0 σ' ρ' G' H' As'/\Same GJ G':=fun a5=>⟨⟨a5.ext,s1.trans a5.stb,a5.len,a5.at,a5.dis,a5.new⟩,s2.trans a5.stb⟩
    cases em:m (zAY ρ bs)with
    |none=>rw[em]at p;exact p
    |some r=>
     rw[em]at p;cases r with
     |error y=>exact p
     |ok o=>
      cases o with
      |nx ρ'=>exact fun σ' G' H' As' a5=>⟨hlt,ρ',G',As',(back a5).1,(back a5).2,p⟩
      |ct ρ'=>exact fun σ' G' H' As' a5=>⟨hlt,ρ',G',As',(back a5).1,(back a5).2,p⟩
      |bk ρ'=>exact fun σ' G' H' As' a5=>p σ' G' H' As' (back a5).1
      |rt d=>exact p
   exact key G2 a2.stb (sJ.trans x2.g) ⟨a2.ext,Same.refl _,a2.len,a2.at,a2.dis,a2.new⟩
 ·have e:i=ds.length:=by lia
  subst e;rw[qEt,Mi.forGo]at p;exact .inl ⟨j2 (qAa _),p σ G H As a⟩
theorem zIO{wi:TI}{it:IM}{g:TG}{tg:Tg}(vs:List Nat){ind:Bool}(I:DI mg E wi it ind)(hT:TgOk g tg)(B:DS mg E L t m):DS mg E L (fun D σ H=>wi σ H (zST g t D σ)) (Mi.sFor vs it tg m):=by
 intro G0 H0 S0 σ ρ G H As D a p;obtain⟨G1,As1,a1⟩:=Sat.frzAt vs a;refine I.step (errS.from a1.ext) a1.ext.in' a1.frz p fun ds J G2 H2 _ x2 io p1=>?_
 refine zVG hT B io (a1.wider x2) ?_ p1;unfold zSA
 split
 ·exact fun b o e=>by cases e
 ·exact Same.refl _
theorem zD6{wi:TI}{it:IM}{i:Nat}(I:DI mg E wi it true)(B:DS mg E L t m):DS mg E L (fun D σ H=>wi σ H (zST (zHY i) t D σ)) (Mi.sForR it i m):=by
 intro G0 H0 S0 σ ρ G H As D a p;obtain⟨J,x,s,w⟩:=a.full;refine I.step (errS.from x) x.in' w p fun ds J G2 H2 _ x2 io p1=>?_
 exact zVG (zC6 i) B io (a.grow x2.h) (fun b o e=>by cases e) p1
theorem zaM{G0 H0 S0:Hp}{D:Ends}{tc:TT}{c:TM}(C:DT mg E tc c)(B:DS mg E L t m)(N:Nat){σ:St}{ρ:Ro}{G H:Hp}{As:Nat->Addr->Prop}(a:Sat G0 H0 S0 σ ρ G H As)(p:zGJ mg E G0 H0 S0 L (Mi.whGo c m N ρ) D):zPV tc t D σ H:=by
 refine⟨fun i σ H=>∃ρ G As,Sat G0 H0 S0 σ ρ G H As/\zGJ mg E G0 H0 S0 L (Mi.whGo c m i ρ) D,⟨N,ρ,G,As,a,p⟩,?_⟩
 rintro i σ H ⟨ρ,G,As,a,p⟩
 cases i with
 |zero=>exact p.elim
 |succ i=>
  obtain⟨J,x,s,w⟩:=a.full;rw[Mi.whGo]at p;refine C.step (errS.from x) x.in' w p fun b H' _ sH p1=>?_
  cases b with
  |false=>exact p1 σ G H' As (a.grow sH)
  |true=>
   rw[if_pos rfl];refine⟨fun σ' H'=>∃ρ G As,Sat G0 H0 S0 σ' ρ G H' As/\zGJ mg E G0 H0 S0 L (Mi.whGo c m i ρ) D,fun σ' H' q=>⟨i,qGd i,q⟩,?_⟩;refine B G0 H0 S0 σ ρ G H' As _ (a.grow sH) ?_;rw[if_pos rfl]at p1;cases em:m ρ with
   |none=>rw[em]at p1;exact p1
   |some r=>
    rw[em]at p1;cases r with
    |error y=>exact p1
    |ok o=>
     cases o with
     |nx ρ'=>exact fun σ' G' H' As' a5=>⟨ρ',G',As',a5,p1⟩
     |ct ρ'=>exact fun σ' G' H' As' a5=>⟨ρ',G',As',a5,p1⟩
     |bk ρ'=>exact fun σ' G' H' As' a5=>p1 σ' G' H' As' a5
     |rt d=>exact p1
theorem zJQ{tc:TT}{c:TM}(C:DT mg E tc c)(B:DS mg E L t m):DS mg E L (zPV tc t) (Mi.sWhile c m):=fun G0 H0 S0 σ ρ G H As D a p=>zaM C B _ a p
theorem dz(A:DE mg E te e 0):DE mg E te e 0:=A
theorem zM3{P N:Nat}{vs:List V}{H:Hp}{Q:VK}{E:XK}(h:spM mg L (Mi.runF P N m) vs H Q E):vs.length=P:=by
 obtain⟨G,ds,s,r,p⟩:=h;rw[r.length];unfold Mi.runF at p
 split at p
 ·rename_i h;exact h
 ·exact p.elim
theorem zB9{P:Nat}{N:List Str}{vs:List V}{H:Hp}{Q:VK}(B:DS mg E L t m)(h:spM mg L (Mi.runF P N.length m) vs H Q E):t { nx:=fun _ H'=>Q .non H',rt:=Q } (L2.start N vs) H:=by
 obtain⟨G,ds,s,r,p⟩:=h;unfold Mi.runF at p
 split at p
 ·refine B G H G _ (Mi.startO N.length ds) G H (fun _ _=>False) _ ⟨Ext.refl s,Same.refl _,?_,fun i d n e=>?_,fun _ _ _ z=>z.elim,fun _ _ z=>z.elim⟩ ?_
  ·unfold Mi.startO L2.start;simp[r.length]
  ·unfold Mi.startO at e
   by_cases hi:i<ds.length
   ·rw[qA8 (by simpa using hi),qAb]at e;cases e1:ds[i]? with
    |none=>rw[e1]at e;cases e
    |some d'=>
     rw[e1]at e;cases e;have hv:vs[i]?=some (vs[i]'(by rw[r.length];exact hi)):=by simp
     refine⟨vs[i]'(by rw[r.length];exact hi),?_,zD0 r e1 hv⟩;unfold L2.start;rw[qA8 (by simpa[r.length]using hi),qAb,hv];rfl
   ·rw[qA9 (by simpa using hi),qBm]at e
    split at e<;>cases e
  ·cases em:m (Mi.startO N.length ds)with
   |none=>rw[em]at p;exact p
   |some r=>
    rw[em]at p;cases r with
    |error y=>exact p
    |ok o=>
     cases o with
     |nx ρ'=>exact fun σ' G' H' As' a=>PostE.val (d:=.non) p a.ext rfl rfl
     |rt d=>exact p
     |bk ρ'=>exact p.elim
     |ct ρ'=>exact p.elim
 ·exact p.elim
end
end L3
namespace L3
open PySem PySem.Spec
open L2 hiding Rep RepL
open Mi (Dt FM okR)
def sp0(K:qA2)(mg:Str->Option Value)(L:Nat)(f:FM):Sp:=fun vs H Q _=>@spM ⟨K⟩ mg L f vs H Q E0
end L3
namespace L3
open PySem PySem.Spec
open L2 hiding Rep RepL
open Mi (Dt Xn R okR zA4 optR zA0 zAD zAH zA8 zAF Rh Sl Ro EM TM AM FM IM SM OM Tg Out zAS zAT zAY full frz frz1 frzAt)
section
variable[Kc]{mg:Str->Option Value}{E:XK}{L n k l:Nat}{te ta tb:TE}{e ea eb:EM}{t u:TS}{m m':SM}
theorem zaE:CBi (fun xs H Q=>(∃i,xs=[.int i]/\Q (.int i) H)\/∃k,xs=[.bl k]/\Q (.int (if k then 1 else 0)) H) Mi.intD n:=by
 intro mg E G H ds vs Q s h p;cases ds with
 |nil=>exact qA7 p
 |cons hd1 tl1=>
  cases hd1 with
  |int i=>
   cases tl1 with
   |nil=>
    obtain⟨x,rfl,hx⟩:=zDX h
    cases(show x=.int i from hx)
    exact .inl ⟨i,rfl,PostE.val p (Ext.refl s) rfl rfl⟩
   |cons _ _=>exact qA7 p
  |bl b=>
   cases tl1 with
   |nil=>
    obtain⟨x,rfl,hx⟩:=zDX h
    cases(show x=.bl b from hx)
    exact .inr ⟨b,rfl,PostE.val p (Ext.refl s) rfl rfl⟩
   |cons _ _=>exact qA7 p
  |_=>exact qA7 p
theorem zMM{G:Hp}{d:Dt}{v:V}(h:Rep G d v)(hd:d.dep=0):zGD v=true:=(zEH (by lia) h).flat (qGo.mp (qAo (zFP (by lia)) (qF1 hd)))
theorem zRO{G:Hp}{d e:Dt}{v u:V}(h:Rep G d v)(h':Rep G e u)(hd:d.dep=0)(he:e.dep=0):eqV v u=Dt.eq d e:=by
 rw[<- zMR (by lia) (by lia)];exact(zEH (by lia) h).flatEq (zEH (by lia) h') (qGo.mp (qAo (zFP (by lia)) (qF1 hd))) (qGo.mp (qAo (zFP (by lia)) (qF1 he)))
theorem zX4{G:Hp}{d:Dt}{v:V}(h:Rep G d v)(hd:d.dep=0):∀{ds:List Dt}{vs:List V},RepL G ds vs->Dt.depL ds=0->vs.all zGD=true/\inV v vs=ds.any fun y=>Dt.eq y d
 |[],vs,r,_=>by cases(show vs=[] from r);exact⟨rfl,rfl⟩
 |e::ds,vs,r,hz=>by
  obtain⟨x,q,rfl,a,b⟩:=r;rw[Dt.depL]at hz;obtain⟨h1,h2⟩:=zX4 h hd b (by lia);have he:e.dep=0:=by lia
  refine⟨by simp[zMM a he,h1],?_⟩;unfold inV at h2 ⊢;rw[qCr,qCr,h2,zRO a h he hd]
theorem zYG{ng:Bool}:ROp (rInU Kc.K ng) (Mi.inD ng) n:=by
 intro mg E G H d e x y Q s h1 h2 p;cases e with
 |lst ys=>
  obtain⟨a,vs,rfl,ha,r⟩:=h2;unfold Mi.inD Mi.hasD at p;dsimp only at p
  by_cases hz:d.dep=0/\Dt.depL ys=0
  ·rw[if_pos hz]at p;obtain⟨g1,g2⟩:=zX4 h1 hz.1 r hz.2;refine⟨vs,.inl (SqL.of (s _ _ ha)),zMM h1 hz.1,g1,?_⟩;rw[g2];exact PostE.val p (Ext.refl s) rfl rfl
  ·rw[if_neg hz]at p;exact p.elim
 |tup ys=>
  obtain⟨a,vs,rfl,ha,r⟩:=h2;unfold Mi.inD Mi.hasD at p;dsimp only at p
  by_cases hz:d.dep=0/\Dt.depL ys=0
  ·rw[if_pos hz]at p;obtain⟨g1,g2⟩:=zX4 h1 hz.1 r hz.2;refine⟨vs,.inr (SqT.of (s _ _ ha)),zMM h1 hz.1,g1,?_⟩;rw[g2];exact PostE.val p (Ext.refl s) rfl rfl
  ·rw[if_neg hz]at p;exact p.elim
 |str z=>
  cases(show y=.str z from h2)
  cases d with
  |str w=>
   cases(show x=.str w from h1)
   obtain⟨⟨wl⟩⟩:=w;cases wl with
   |nil=>exact qA7 p
   |cons c tl1=>
    cases tl1 with
    |nil=>
     have p':PostE mg E G H n (okR (.bl (if ng=true then !decide (c∈z.cps.toList)else decide (c∈z.cps.toList)))) Q:=p;have q:=PostE.val (v:=.bl (if ng=true then !decide (c∈z.cps.toList)else decide (c∈z.cps.toList))) p' (Ext.refl s) rfl rfl;rw[<- StrLaws.found_one z c]at q;exact q
    |cons _ _=>exact qA7 p
  |_=>exact p.elim
 |_=>exact p.elim
def DO(mg:Str->Option Value)(E:XK)(t:TO)(m:OM):Prop:=∀(G H:Hp)(σ:St)(ρ:Rh)(Q:Option Int->Hp->Prop),Same G H->View G σ ρ ->
 (match m ρ with
  |none=>False
  |some (.error x)=>∀c da G' H',Ext G H G' H'->XRep mg x c da G' H'->E c da H'
  |some (.ok o)=>∀H',Same H H'->Q o H')->t σ H Q
theorem DO.step{β:Type}{t:TO}{m:OM}(D:DO mg E t m){G H:Hp}{σ:St}{ρ:Rh}{Q:Option Int->Hp->Prop}{P:R β->Prop}{f:Option Int->R β}(hE:Err mg E G H P)(s:Same G H)(w:View G σ ρ)(p:P (zA4 (m ρ) f))
  (h:∀b H',m ρ=okR b->Same H H'->P (f b)->Q b H'):t σ H Q:=by
 refine D G H σ ρ Q s w ?_;cases e:m ρ with
 |none=>rw[e]at p;exact hE.no p
 |some r=>
  rw[e]at p;cases r with
  |error x=>exact hE.er x p
  |ok b=>exact fun H' sH=>h b H' e sH p
theorem zU9:DO mg E zPW Mi.oNo:=fun G H σ ρ Q s w p=>p H (Same.refl _)
theorem do_e(A:DE mg E te e k):DO mg E (zY4 te) (Mi.oE e):=by
 intro G H σ ρ Q s w p;unfold Mi.oE at p;refine(zAN A).step (P:=fun r=>match r with
  |none=>False
  |some (.error x)=>∀c da G' H',Ext G H G' H'->XRep mg x c da G' H'->E c da H'
  |some (.ok o)=>∀H',Same H H'->Q o H') ⟨fun h=>h,fun _ h=>h⟩ s w p fun d v G1 H1 S _ fr o p1=>?_
 cases d with
 |int i=>exact⟨i,o,p1 H1 fr.ext.h⟩
 |_=>exact p1.elim
theorem zOB(n d:Nat)(o:Option Int):Mi.cutIx n d o=HT.sIx n d o:=by cases o<;>rfl
theorem zKH{G:Hp}:∀{ds:List Dt}{xs:List V}(i:Nat),RepL G ds xs->RepL G (ds.drop i) (xs.drop i)
 |ds,xs,0,r=>by simpa using r
 |[],xs,i+1,r=>by cases(show xs=[] from r);exact rfl
 |d::ds,xs,i+1,r=>by
  obtain⟨x,q,rfl,a,b⟩:=r;exact zKH i b
theorem zKG{G:Hp}:∀{ds:List Dt}{xs:List V}(i:Nat),RepL G ds xs->RepL G (ds.take i) (xs.take i)
 |ds,xs,0,r=>by simp;exact rfl
 |[],xs,i+1,r=>by cases(show xs=[] from r);exact rfl
 |d::ds,xs,i+1,r=>by
  obtain⟨x,q,rfl,a,b⟩:=r;exact⟨x,_,rfl,a,zKG i b⟩
theorem zT1{G:Hp}{ds:List Dt}{xs:List V}(r:RepL G ds xs)(lo hi:Option Int):RepL G (Mi.cutA ds lo hi) (cutV xs lo hi):=by
 unfold Mi.cutA cutV;rw[zOB,zOB,r.length];exact zKG _ (zKH _ r)
def RSl(r:V->Option Int->Option Int->Hp->VK->Prop)(n:Nat):Prop:=∀(mg:Str->Option Value)(E:XK)(G H:Hp)(d:Dt)(x:V)(lo hi:Option Int)(Q:VK),Same G H->Rep G d x->PostE mg E G H n (optR (Mi.slD d lo hi)) Q->r x lo hi H Q
theorem za9{r:V->Option Int->Option Int->Hp->VK->Prop}{tl th:TO}{ml mh:OM}(hr:RSl r n)(A:DE mg E te e k)(B:DO mg E tl ml)(C:DO mg E th mh):DE mg E (tSl r te tl th) (Mi.eSl e ml mh) n:=by
 intro G H σ ρ Q s w p;refine(zAN A).step errE s w p fun d v G1 H1 S _ fr o p1=>?_
 refine B.step (errE.from fr.ext) fr.ext.in' (w.mono fr.ext.g) p1 fun lo H2 _ s2 p2=>?_
 have x2:=fr.ext.trans (Ext.same fr.ext.in' s2);refine C.step (errE.from x2) x2.in' (w.mono fr.ext.g) p2 fun hi H3 _ s3 p3=>?_
 have x3:=x2.trans (Ext.same x2.in' s3);exact hr mg E G1 H3 d v lo hi Q x3.in' o (PostE.from p3 x3)
end
end L3
namespace L3
open PySem PySem.Spec
open L2 hiding Rep RepL
open Mi (Dt Xn R okR zA4 optR zA0 zAD zAH zA8 zAF Rh Sl Ro EM TM AM FM IM SM OM Tg Out zAS zAT zAY full frz frz1 frzAt)
section
variable[Kc]{mg:Str->Option Value}{E:XK}{L n k l:Nat}{te ta tb:TE}{e ea eb ma:EM}{t:TA}{m:AM}
theorem rs_u:RSl (rSlU Kc.K) 1:=by
 intro mg E G H d x lo hi Q s h p;cases d with
 |lst ds=>
  obtain⟨a,xs,rfl,ha,r⟩:=h;exact⟨xs,SqL.of (s _ _ ha),fun q hq=>PostE.lst p (Ext.refl s) (zT1 r lo hi) hq⟩
 |str z=>
  cases(show x=.str z from h)
  rw[Mi.slD]at p
  by_cases hz:z.length<=100000
  ·rw[if_pos hz]at p;exact⟨big' hz,PostE.val p (Ext.refl s) rfl rfl⟩
  ·rw[if_neg hz]at p;exact p.elim
 |_=>exact p.elim
theorem zUC{tl th:TO}{ml mh:OM}(A:DE mg E te e k)(B:DO mg E tl ml)(C:DO mg E th mh):DE mg E (tSl (rSlU Kc.K) te tl th) (Mi.eSl e ml mh) 1:=za9 rs_u A B C
theorem zZW{G:Hp}(z:Str):ItOk (Its z) G (Mi.signsD z):=by
 intro i G1 H1 s1 s2;have hl:(Mi.signsD z).length=z.cps.size:=by simp[Mi.signsD]
 refine⟨fun hi=>by rw[hl]at hi;exact hi,fun hi=>by rw[hl]at hi;exact hi,fun x H2 d hd hy=>?_⟩;obtain⟨rfl,c,hc,rfl⟩:=hy;refine⟨G1,Ext.refl s2,?_⟩;unfold Mi.signsD at hd;rw[qAb]at hd;have hc':z.cps.toList[i]?=some c:=by simpa using hc
 rw[hc']at hd;cases hd;rfl
theorem zFN(A:DE mg E ta ma k):DI mg E (iAny Kc.K ta) (Mi.iSq ma) false:=by
 intro G H σ ρ Q s w p;refine(zAN A).step errI s w p fun d v G1 H1 S _ fr o p1=>?_
 cases d with
 |lst ds=>
  obtain⟨a,xs,rfl,ha,r⟩:=o;exact .inl ⟨⟨xs,SqL.of (fr.ext.in' _ _ ha)⟩,p1 _ G1 H1 fr.ext (zV7 (SqL.of ha) r)⟩
 |tup ds=>
  obtain⟨a,xs,rfl,ha,r⟩:=o;exact .inr ⟨⟨xs,SqT.of (fr.ext.in' _ _ ha)⟩,p1 _ G1 H1 fr.ext (zV4 (SqT.of ha) r)⟩
 |scr ns=>
  obtain⟨a,rfl,ha⟩:=o
  rcases ha with ha|ha
  ·exact .inl ⟨⟨_,fr.ext.in'.seq ha⟩,p1 _ G1 H1 fr.ext (zV7 ha (zCZ ns))⟩
  ·exact .inr ⟨⟨_,zHC fr.ext.in' ha⟩,p1 _ G1 H1 fr.ext (zV4 ha (zCZ ns))⟩
 |str z=>
  cases(show v=.str z from o)
  exact p1 _ G1 H1 fr.ext (zZW z)
 |_=>exact p1.elim
def RMt(r:V->List V->Hp->VK->Prop)(f:Dt->List Dt->Option Dt)(n:Nat):Prop:=∀(mg:Str->Option Value)(E:XK)(G H:Hp)(z:Str)(ds:List Dt)(vs:List V)(Q:VK),Same G H->RepL G ds vs->PostE mg E G H n (optR (f (.str z) ds)) Q->r (.str z) vs H Q
theorem zJT{r:V->List V->Hp->VK->Prop}{f:Dt->List Dt->Option Dt}(hr:RMt r f n)(A:DE mg E te e k)(B:DA mg E t m 0):DE mg E (tBM Kc.K "str" r te t) (Mi.eMt f e m) n:=by
 intro G H σ ρ Q s w p;refine(zAN A).step errE s w p fun d v G1 H1 S _ fr o p1=>?_
 cases d with
 |str z=>
  cases(show v=.str z from o)
  refine⟨rfl,?_⟩;have p2:PostE mg E G H n (zA4 (m ρ) fun xs=>optR (f (.str z) xs)) Q:=p1;refine B.step (errE.from fr.ext) fr.ext.in' (w.mono fr.ext.g) p2 fun ds vs G2 H2 S2 T2 _ fr2 o2 p3=>?_
  exact hr mg E G2 H2 z ds vs Q fr2.ext.in' o2.repL (PostE.from p3 (fr.ext.trans fr2.ext))
 |_=>exact p1.elim
theorem zYI{r:V->List V->Hp->VK->Prop}{f:Dt->List Dt->Option Dt}(hf:∀z ds,(∀c,ds≠[.str ⟨#[c]⟩])->f (.str z) ds=none)
  (hr:∀(mg:Str->Option Value)(E:XK)(G H:Hp)(z:Str)(c:Nat)(Q:VK),Same G H->PostE mg E G H n (optR (f (.str z) [.str ⟨#[c]⟩])) Q->r (.str z) [.str ⟨#[c]⟩] H Q):RMt r f n:=by
 intro mg E G H z ds vs Q s h p
 by_cases hd:∃c,ds=[.str ⟨#[c]⟩]
 ·obtain⟨c,rfl⟩:=hd;obtain⟨x,rfl,hx⟩:=zDX h
  cases(show x=.str ⟨#[c]⟩ from hx)
  exact hr mg E G H z c Q s p
 ·rw[hf z ds fun c e=>hd ⟨c,e⟩]at p;exact p.elim
theorem zTG{f:Dt->List Dt->Option Dt}{z:Str}(h1:f (.str z) []=none)(h2:∀d,(∀y,d≠.str y)->f (.str z) [d]=none)(h3:∀d e r,f (.str z) (d::e::r)=none)(h4:f (.str z) [.str ⟨#[]⟩]=none)(h5:∀a b r,f (.str z) [.str ⟨⟨a::b::r⟩⟩]=none) :
  ∀ds,(∀c,ds≠[.str ⟨#[c]⟩])->f (.str z) ds=none:=by
 intro ds h
 match ds,h with
 |[],_=>exact h1
 |[.str ⟨⟨[]⟩⟩],_=>exact h4
 |[.str ⟨⟨[c]⟩⟩],h=>exact absurd rfl (h c)
 |[.str ⟨⟨a::b::r⟩⟩],_=>exact h5 a b r
 |[.non],_=>exact h2 _ fun _ e=>by cases e
 |[.bl _],_=>exact h2 _ fun _ e=>by cases e
 |[.int _],_=>exact h2 _ fun _ e=>by cases e
 |[.lst _],_=>exact h2 _ fun _ e=>by cases e
 |[.tup _],_=>exact h2 _ fun _ e=>by cases e
 |[.scr _],_=>exact h2 _ fun _ e=>by cases e
 |[.exc _ _ _],_=>exact h2 _ fun _ e=>by cases e
 |[.ins _ _],_=>exact h2 _ fun _ e=>by cases e
 |[.dct _],_=>exact h2 _ fun _ e=>by cases e
 |d::e::r,_=>exact h3 d e r
theorem zHI:RMt za3 Mi.findD n:=zYI (fun z=>zTG rfl (fun d h=>by cases d<;>first|rfl|exact absurd rfl (h _)) (fun d e r=>by cases d<;>rfl) rfl fun a b r=>rfl) fun mg E G H z c Q s p=>by
 show Q (.int (Txt.find z ⟨#[c]⟩)) H;rw[zU2];exact PostE.val p (Ext.refl s) rfl rfl
theorem zN5{G:Hp}:∀{ds:List Dt}{zs:List Str}{xs:List V},Mi.strsD ds=some zs->RepL G ds xs->xs=zs.map V.str
 |[],zs,xs,h,r=>by cases h;exact r
 |.str b::ds,zs,xs,h,r=>by
  obtain⟨x,q,rfl,a,c⟩:=r;rw[Mi.strsD]at h;cases e:Mi.strsD ds with
  |none=>rw[e]at h;cases h
  |some cs=>
   rw[e]at h;cases h;rw[zN5 e c,show x=.str b from a];rfl
 |.non::_,_,_,h,_=>by simp[Mi.strsD]at h
 |.int _::_,_,_,h,_=>by simp[Mi.strsD]at h
 |.bl _::_,_,_,h,_=>by simp[Mi.strsD]at h
 |.lst _::_,_,_,h,_=>by simp[Mi.strsD]at h
 |.tup _::_,_,_,h,_=>by simp[Mi.strsD]at h
 |.scr _::_,_,_,h,_=>by simp[Mi.strsD]at h
 |.exc _ _ _::_,_,_,h,_=>by simp[Mi.strsD]at h
 |.ins _ _::_,_,_,h,_=>by simp[Mi.strsD]at h
 |.dct _::_,_,_,h,_=>by simp[Mi.strsD]at h
theorem zJ1:RMt zZQ Mi.joinD n:=by
 intro mg E G H z ds vs Q s h p;cases ds with
 |nil=>exact qA7 p
 |cons hd1 tl1=>
  cases hd1 with
  |lst es=>
   cases tl1 with
   |nil=>
    obtain⟨x,rfl,a,xs,rfl,ha,ra⟩:=zDX h;have p':PostE mg E G H n (optR (match Mi.strsD es with
     |some zs=>@ite _ ((zs.map (·.length)).sum+zs.length*z.length<=100000) (qA3 _) (some (.str (Str.join z zs))) none
     |none=>none)) Q:=p
    cases e:Mi.strsD es with
    |none=>rw[e]at p';exact p'.elim
    |some zs=>
     rw[e]at p';dsimp only at p'
     split at p'
     ·rename_i hz
      exact⟨zs,by rw[<- zN5 e ra];exact s _ _ ha,by lia,PostE.val p' (Ext.refl s) rfl rfl⟩
     ·exact p'.elim
   |cons _ _=>exact qA7 p
  |_=>exact qA7 p
end
end L3
namespace Mi
open PySem
noncomputable section
def noE{α:Type}(r:R α):R α:=match r with
 |some (.ok a)=>okR a
 |_=>none
def eCallN(f:FM)(am:AM):EM:=fun ρ=>zA4 (am ρ) fun ds=>noE (f ds)
def eMkX(c f:Str)(am:AM):EM:=fun ρ=>zA4 (am ρ) fun ds=>match ds with
 |[d]=>okR (.exc c f d)
 |_=>none
def eMkX0(c:Str)(am:AM):EM:=fun ρ=>zA4 (am ρ) fun ds=>@ite _ (ds.length<=1000) (qA3 _) (okR (.exc c "" .non)) none
def sRaise(c f:Str)(am:AM):SM:=fun r=>zA4 (am (full r)) fun ds=>match ds with
 |[d]=>some (.error ⟨c,f,d⟩)
 |_=>none
def sRaise0(c:Str)(am:AM):SM:=fun r=>zA4 (am (full r)) fun ds=>@ite _ (ds.length<=1000) (qA3 _) (some (.error ⟨c,"",.non⟩)) none
def eAtX(hs:List Str)(f:Str)(a:EM):EM:=fun ρ=>zA4 (a ρ) fun d=>match d with
 |.exc c g x=>if c∈hs/\g=f then okR x else none
 |_=>none
def eIsX(ys ns:List Str)(a:EM):EM:=fun ρ=>zA4 (a ρ) fun d=>match d with
 |.exc c _ _=>if c∈ys then okR (.bl true)else if c∈ns then okR (.bl false)else none
 |_=>none
noncomputable def za0(i:Nat):Out->Out
 |.nx r=>.nx (r.set i none)
 |.rt d=>.rt d
 |.bk r=>.bk (r.set i none)
 |.ct r=>.ct (r.set i none)
end
end Mi
namespace L3
open PySem PySem.Spec
open L2 hiding Rep RepL
open Mi (Dt Xn R okR zA4 optR zA0 zAD zAH zA8 zAF Rh Sl Ro EM TM AM FM IM SM OM Tg Out zAS zAT zAY full frz frz1 frzAt)
section
variable[Kc]{mg:Str->Option Value}{E:XK}{L n k l:Nat}{te ta tb:TE}{e ea eb ma:EM}{t:TA}{m:AM}
theorem zUD{f:FM}(A:DA mg E t m 0):DE mg E (zM0 (spM mg n f) [] E0 t) (Mi.eCallN f m) n:=by
 intro G H σ ρ Q s w p;refine A.step errE s w p fun ds vs G1 H1 S T _ fr o p1=>?_
 refine⟨G1,ds,fr.ext.in',by rw[qCc];exact o.repL,?_⟩;have p2:=PostE.from p1 fr.ext;cases e:f ds with
 |none=>rw[e]at p2;exact p2
 |some r=>
  rw[e]at p2;cases r with
  |error x=>exact p2.elim
  |ok d=>exact p2
def zHA(K:qA2)(f:Str):Sp:=fun vs H Q _=>∃e C y,vs=[.ref e,y]/\H e=some (xn e (.ref C) none)/\PySem.W.xcIn K C=true/\XSet K C f/\∀d,H d=none->d≠e->Q .non (upd (upd H d (.xd [(f,y)])) e (xn e (.ref C) (some d)))
theorem madeX{G H:Hp}{a e C:Addr}{f:Str}{y:V}{d:Dt}{o:HO}(s:Same G H)(ha:H a=none)(he:H e=none)(hne:a≠e)(r:Rep G d y) :
  Ext G H (upd (upd G a (.xd [(f,y)])) e o) (upd (upd H a (.xd [(f,y)])) e o)/\Rep (upd (upd G a (.xd [(f,y)])) e o) d y:=by
 have sg:Same G (upd (upd G a (.xd [(f,y)])) e o):=fun b u hb=>by
  have h1:b≠e:=fun z=>by rw[z]at hb;rw[s _ _ hb]at he;cases he
  have h2:b≠a:=fun z=>by rw[z]at hb;rw[s _ _ hb]at ha;cases ha
  rw[zAJ h1,zAJ h2];exact hb
 have sh:Same H (upd (upd H a (.xd [(f,y)])) e o):=fun b u hb=>by
  have h1:b≠e:=fun z=>by rw[z,he]at hb;cases hb
  have h2:b≠a:=fun z=>by rw[z,ha]at hb;cases hb
  rw[zAJ h1,zAJ h2];exact hb
 refine⟨⟨sg,sh,fun b u hb=>?_,fun b hb=>?_⟩,Rep.mono sg r⟩
 ·by_cases h1:b=e
  ·rw[h1,zAI]at hb;rw[h1,zAI];exact hb
  ·rw[zAJ h1]at hb;rw[zAJ h1]
   by_cases h2:b=a
   ·rw[h2,zAI]at hb;rw[h2,zAI];exact hb
   ·rw[zAJ h2]at hb;rw[zAJ h2];exact s _ _ hb
 ·have h1:b≠e:=fun z=>hb (by rw[z];exact he)
  have h2:b≠a:=fun z=>hb (by rw[z];exact ha)
  rw[zAJ h1,zAJ h2]
theorem zYL{G:Hp}{ds:List Dt}{vs:List V}(r:RepL G ds vs){d:Dt}(h:ds=[d]):∃y,vs=[y]/\Rep G d y:=by
 subst h;obtain⟨x,q,rfl,a,b⟩:=r
 cases(show q=[] from b)
 exact⟨x,rfl,a⟩
theorem zU7{c f:Str}{C:Addr}{E':XK}(hC:clK Kc.K c=some C)(hx:PySem.W.xcIn Kc.K C=true)(hs:XSet Kc.K C f)(A:DA mg E t m 0):DS mg E L (zN2 Kc.K E (zN3 C (zHA Kc.K f) E' t)) (Mi.sRaise c f m):=by
 intro G0 H0 S0 σ ρ G H As D a p;obtain⟨J,x,s,w⟩:=a.full;refine A.step (errS.from x) x.in' w p fun ds vs G1 H1 S T _ fr o p1=>?_
 cases ds with
 |nil=>exact qA7 p1
 |cons d tl1=>
  cases tl1 with
  |nil=>
   obtain⟨y,rfl,r⟩:=zYL o.repL rfl;refine⟨by show 1<=sizeLine;decide,fun e he=>⟨e,C,y,rfl,zAI,hx,hs,fun b hb hne=>⟨rfl,e,C,some b,rfl,zAI,hx,?_⟩⟩⟩;have hb':H1 b=none:=by rw[zAJ hne]at hb;exact hb
   have hu:upd (upd (upd (upd H1 e (xn e (.ref C) none)) b (.xd [(f,y)])) e (xn e (.ref C) (some b))) e (xo e (.ref C) (some b))=upd (upd H1 b (.xd [(f,y)])) e (xo e (.ref C) (some b)):=by
    funext z
    by_cases h1:z=e
    ·rw[h1,zAI,zAI]
    ·rw[zAJ h1,zAJ h1,zAJ h1]
     by_cases h2:z=b
     ·rw[h2,zAI,zAI]
     ·rw[zAJ h2,zAJ h2,zAJ h1]
   rw[hu];obtain⟨x2,r'⟩:=madeX (C:=C) (f:=f) (o:=xo e (.ref C) (some b)) fr.ext.in' hb' he hne r;exact p1 (.ref e) (some b) _ _ ((x.trans fr.ext).trans x2) ⟨e,C,rfl,zAI,hC,.inr ⟨b,_,y,rfl,by rw[zAJ hne,zAI],by simp[qE3],r'⟩⟩
  |cons _ _=>exact qA7 p1
end
end L3
namespace L3
open PySem PySem.Spec
open L2 hiding Rep RepL
open Mi (Dt Xn R okR zA4 optR zA0 zAD zAH zA8 zAF Rh Sl Ro EM TM AM FM IM SM OM Tg Out zAS zAT zAY full frz frz1 frzAt)
section
variable{K:qA2}{C D:Addr}{dd:Option Addr}{cd:ClassData}{sl:Array (Option Value)}{b:Bool}
def xcD(C:Addr)(cd:ClassData)(sl:Array (Option Value)):Bool:=match cd.mro,sl.toList with
 |.ref C'::bm,[_,_,_,_,some (.builtin n),_]=>C'==C && !cd.hasDel&&PySem.W.excTail bm&&n == "ValueError.__new__" && cd.hasDict
 |_,_=>false
theorem zLW(h:K.lookup C=some ⟨.type "type",dd,.cls cd,sl⟩)(h':xcD C cd sl=true):PySem.W.xcIn K C=true:=by
 unfold PySem.W.xcIn;rw[h];exact h'
theorem zWG(h:qDz K C=some cd)(h':PySem.W.excTail cd.mro=true):PySem.W.excOver K C=true:=by
 unfold PySem.W.excOver;rw[h];exact h'
end
structure XCls(K:qA2)(mg:Str->Option Value)(c:Str)(C:Addr):Prop where
 cl:clK K c=some C
 gm:mg c=some (.ref C)
 is:Xc.XIs K C
structure XIni(P:Program)(w:World)(K:qA2)(mg:Str->Option Value)(base:Heap)(c f:Str)(C:Addr):Prop extends XCls K mg c C where
 kp:qB0 K (.ref C)=true
 st:XSet K C f
 fa:qAj K (.ref C) f=some none
 ini:∃fI fd ps,qAj K (.ref C) "__init__" = some (some (.ref fI))/\qDo K (.ref fI)=true/\FnOk P w K mg base (CXe P w) 1 fI fd ps (zHA K f)/\Binds K fd ps []
theorem zZ4{X:Cx}{c f:Str}{C:Addr}{k:Nat}{E:XK}{e:Expr}{es:List Expr}{t:TA}{p pos:Pos}(h:XIni X.prog X.w X.K X.mg X.base c f C)(hr:Room k X.A)(hk:2<=k)(hf:Flies X E)(hg:Gl X c)(ha:PA X (e::es) t)(hdb:(c==("__debug__":Str))=false:=by decide)
  (he:starEach (e::es) X.env=(false,eval e X.env)::starEach es X.env:=by rfl) (hpl:(backTo pos (starEach es X.env)).any (·.1)=false:=by rfl):PE X (.Call (.Name c p) (e::es) [] pos) (zN3 C (zHA X.K f) E t):=by
 obtain⟨fI,fd,ps,h1,h2,F,hb⟩:=h.ini;exact zTA h.is.xc h1 h2 F (hr.mono hk) hb hf.passes hg h.gm h.kp ha hdb he hpl
theorem zTV{K:qA2}{f a0 a1:Str}{vs:List V}{H:Hp}{Q:VK}{E:XK}(h:zHA K f vs H Q E) :
  tSeq (zFZ (zUS K (zG0 (tVar 0) (zG0 (tVar 1) tNil)))) (zUV K (tVar 0) (tVar 1) f) { nx:=fun _ H'=>Q .non H',rt:=Q } (start [a0,a1] vs) H:=by
 obtain⟨e,C,y,rfl,he,hx,hs,q⟩:=h;exact⟨.ref e,rfl,y,rfl,e,C,none,[y],rfl,he,hx,(by show 1<=sizeLine;decide),y,rfl,.ref e,rfl,e,C,rfl,he,hs,q⟩
theorem zTW{K:qA2}{f:Str}{ps:List Str}(hp:ps.length=2):∀vs H Q E,zHA K f vs H Q E->vs.length=ps.length:=by
 rintro vs H Q E ⟨e,C,y,rfl,_⟩
 rw[hp];rfl
theorem zXK{K:qA2}{c:Str}{C:Addr}(h:qC7 K mainGlobals c=some (some (.ref C))):clK K c=some C:=by unfold clK;rw[h]
theorem zbH:qGe (.builtin "ValueError.__init__")=true:=by decide +kernel
noncomputable def zbG:Stmt->Stmt
 |.ClassDef _ _ _ body _ _ _ _ _ _ _=>body.getD 0 (.Pass ⟨0,0,0,0⟩)
 |s=>s
theorem zJC{P:Program}{w:World}{K:qA2}{mg:Str->Option Value}{base:Heap}{N:List Str}{qual:Str}{scope:Scope}{f:Addr}{cd:Value}{A:Around}{outer:List Env}{s:Shared}{H:Hp}{E:XK} :
  PassesOwn (model P w) (A.deeper (qFm qual scope s.heap.objs.size f cd)) (qFm qual scope s.heap.objs.size f cd) (cxOf (CXe P w) P w K mg base N qual scope f cd A outer s H E).xe:=PassesOwn.leaving
def spE(K:qA2)(mg:Str->Option Value)(L:Nat)(f:Mi.FM):Sp:=fun vs H Q E=>@spM ⟨K⟩ mg L f vs H Q E
section
variable[Kc]{mg:Str->Option Value}{E:XK}{L n k l:Nat}{te ta tb:TE}{e ea eb ma:EM}{t:TA}{m:AM}
theorem zCE{f:FM}{E':XK}(A:DA mg E t m 0):DE mg E (zM0 (sp0 Kc.K mg n f) [] E' t) (Mi.eCallN f m) n:=zUD A
theorem zDC{f:FM}(A:DA mg E t m 0):DE mg E (zM0 (spE Kc.K mg n f) [] E t) (Mi.eCall f m) n:=zAQ A
theorem zRR{P:Program}{w:World}{base:Heap}{c f:Str}{C:Addr}{E':XK}(h:XIni P w Kc.K mg base c f C)(A:DA mg E t m 0):DS mg E L (zN2 Kc.K E (zN3 C (zHA Kc.K f) E' t)) (Mi.sRaise c f m):=zU7 h.cl h.is.xc h.st A
end
noncomputable def zKB(K:qA2):Sp:=fun vs H Q _=>∃(a:Addr)(ns:List Int),vs=[.ref a]/\SqL K H a (ns.map V.int)/\ns.length<=63/\(∀i∈ns,i.natAbs.log2<2 ^ 20)/\∀H',Q (.bl true) H'
theorem zTP{K:qA2}{mg:Str->Option Value}{L:Nat}{f:FM}(hf:∀ns:List Int,ns.length<=63->(∀i∈ns,i.natAbs.log2<2 ^ 20)->f [.scr ns]=okR (.bl true)):∀vs H Q E,zKB K vs H Q E->sp0 K mg L f vs H Q E:=by
 letI:Kc:=⟨K⟩
 rintro vs H Q E ⟨a,ns,rfl,hS,hl,hw,q⟩
 refine⟨H,[.scr ns],Same.refl _,⟨_,_,rfl,⟨a,rfl,.inl hS⟩,rfl⟩,?_⟩;rw[hf ns hl hw];intro v G' H' S fr o
 cases(show v=.bl true by cases L<;>exact o)
 exact q H'
end L3
namespace Mi
open PySem
section
variable(ρ:Rh)(r:Ro)(a b c:EM)(s t:SM)(q q':TM)(am:AM)
@[simp] theorem x_eC(d:Dt):eC d ρ=okR d:=rfl
@[simp] theorem x_eV(i:Nat):eV i ρ=match ρ[i]? with|some (some d)=>okR d|_=>none:=rfl
@[simp] theorem x_eB(f:Dt->Dt->Option Dt):eB f a b ρ=zA4 (a ρ) fun x=>zA4 (b ρ) fun y=>optR (f x y):=rfl
@[simp] theorem x_eU(f:Dt->Option Dt):eU f a ρ=zA4 (a ρ) fun x=>optR (f x):=rfl
@[simp] theorem zBU:aNil ρ=okR []:=rfl
@[simp] theorem zAW:aCons a am ρ=zA4 (a ρ) fun x=>zA4 (am ρ) fun xs=>okR (x::xs):=rfl
@[simp] theorem zFW(f:FM):eCall f am ρ=zA4 (am ρ) f:=rfl
@[simp] theorem zOI(f:List Dt->Option Dt):eBi f am ρ=zA4 (am ρ) fun xs=>optR (f xs):=rfl
@[simp] theorem zUM:eLst am ρ=zA4 (am ρ) fun xs=>@ite _ (xs.length<=100000) (qA3 _) (okR (.lst xs)) none:=rfl
@[simp] theorem zXS:eTup am ρ=zA4 (am ρ) fun xs=>@ite _ (xs.length<=100000) (qA3 _) (okR (.tup xs)) none:=rfl
@[simp] theorem x_eIsi(n:String):eIsi n a ρ=zA4 (a ρ) fun x=>optR (isiD n x):=rfl
@[simp] theorem x_eAnd:eAnd a b ρ=zA4 (a ρ) fun x=>match x with | .bl k=>if k=true then b ρ else okR (.bl false)|_=>none:=rfl
@[simp] theorem x_eOr:eOr a b ρ=zA4 (a ρ) fun x=>match x with | .bl k=>if k=true then okR (.bl true)else b ρ|_=>none:=rfl
@[simp] theorem x_eNot:eNot a ρ=zA4 (a ρ) fun x=>match x with | .bl k=>okR (.bl (!k))|_=>none:=rfl
@[simp] theorem x_eChain(f g:Dt->Dt->Option Dt):za4 f g a b c ρ=zA4 (a ρ) fun x=>zA4 (b ρ) fun y=>zA4 (optR (f x y)) fun z=>match z with | .bl k=>if k=true then zA4 (c ρ) fun w=>optR (g y w)else okR (.bl false)|_=>none:=rfl
@[simp] theorem zaK:eIf q a b ρ=zA4 (q ρ) fun k=>if k=true then a ρ else b ρ:=rfl
@[simp] theorem x_tB:tB a ρ=zA4 (a ρ) fun x=>match x with | .bl k=>okR k|_=>none:=rfl
@[simp] theorem x_tM:tM a ρ=zA4 (a ρ) fun x=>match x with | .bl k=>okR k | .int i=>okR (i != 0) | .non=>okR false|_=>none:=rfl
@[simp] theorem x_tAn:tAn q q' ρ=zA4 (q ρ) fun k=>if k=true then q' ρ else okR false:=rfl
@[simp] theorem x_tOr:tOr q q' ρ=zA4 (q ρ) fun k=>if k=true then okR true else q' ρ:=rfl
@[simp] theorem x_tNo:tNo q ρ=zA4 (q ρ) fun k=>okR (!k):=rfl
@[simp] theorem zXQ:tYes ρ=okR true:=rfl
@[simp] theorem zUL:sNil r=okR (.nx r):=rfl
@[simp] theorem zGK:sSeq s t r=zA4 (s r) fun o=>match o with | .nx ρ'=>t ρ'|o=>okR o:=rfl
@[simp] theorem zOH:sIf q s t r=zA4 (q (full r)) fun k=>if k=true then s r else t r:=rfl
@[simp] theorem x_sDrop:sDrop a r=zA4 (a (full r)) fun _=>okR (.nx r):=rfl
@[simp] theorem x_sBreak:sBreak r=okR (.bk r):=rfl
@[simp] theorem x_sCont:zaZ r=okR (.ct r):=rfl
@[simp] theorem x_sNever:zYA r=none:=rfl
@[simp] theorem x_sRetN:zaY r=okR (.rt .non):=rfl
@[simp] theorem zH4(i n:Nat)(vs:List Nat):sSet i n vs a r=zA4 (a (full r)) fun d=>if d.dep<=n then okR (.nx (r.set i (some (d,n))))else zA4 (a (frz (frzAt vs r))) fun d'=>okR (.nx ((frzAt vs r).set i (some (d',n)))):=rfl
@[simp] theorem zMY(L n:Nat)(vs:List Nat):sRet L n vs a r=zA4 (a (full r)) fun d=>if d.dep<=n/\d.dep<=L then okR (.rt d)else if n=L then zA4 (a (frz (frzAt vs r))) fun d'=>okR (.rt d')else none:=rfl
@[simp] theorem x_sRetV(L i:Nat):sRetV L i r=match r[i]? with|some (some (d,k))=>if k=L\/L=0\/(d.dep<=k/\d.dep<=L/\k<1000)then okR (.rt d)else none|_=>none:=rfl
@[simp] theorem zBY:full []=[]:=rfl
@[simp] theorem zB6(o:Option Sl)(r:Ro):full (o::r)=o.map qHs::full r:=rfl
@[simp] theorem x_frz_nil:frz []=[]:=rfl
@[simp] theorem x_frz_none(r:Ro):frz (none::r)=none::frz r:=rfl
@[simp] theorem x_frz_some(d:Dt)(n:Nat)(r:Ro):frz (some (d,n)::r)=(if n=0\/d.dep=0 then some d else none)::frz r:=rfl
@[simp] theorem x_frzAt_nil(r:Ro):frzAt [] r=r:=rfl
@[simp] theorem x_frzAt_cons(i:Nat)(v:List Nat)(r:Ro):frzAt (i::v) r=frzAt v (frz1 i r):=rfl
@[simp] theorem x_frz1(i:Nat)(r:Ro):frz1 i r=match r[i]? with|some (some (d,_))=>r.set i (some (d,0))|_=>r:=rfl
@[simp] theorem x_startO(n:Nat)(ds:List Dt):startO n ds=ds.map (fun d=>some (d,0))++qA5 (n-ds.length) none:=rfl
@[simp] theorem x_runF(P n:Nat)(ds:List Dt):runF P n s ds=if ds.length=P then zA4 (s (startO n ds)) endF else none:=rfl
@[simp] theorem x_end1(r:Ro):endF (.nx r)=okR .non:=rfl
@[simp] theorem x_end2(d:Dt):endF (.rt d)=okR d:=rfl
end
@[simp] theorem zW0(i j:Int):addD (.int i) (.int j)=some (.int (i+j)):=rfl
@[simp] theorem zY0(i j:Str):addD (.str i) (.str j)=@ite _ (i.length+j.length<=100000) (qA3 _) (some (.str (i++j))) none:=rfl
@[simp] theorem v_addL(i j:List Dt):addD (.lst i) (.lst j)=@ite _ (i.length+j.length<=100000) (qA3 _) (some (.lst (i++j))) none:=rfl
@[simp] theorem zaO(i j:Int):subD (.int i) (.int j)=some (.int (i-j)):=rfl
@[simp] theorem zOK(i j:Int):mulD (.int i) (.int j)=@ite _ (((-18446744073709551616<i/\i<18446744073709551616)\/(-18446744073709551616<j/\j<18446744073709551616))\/i.natAbs.log2+j.natAbs.log2<=67108864) (qA3 _) (some (.int (i*j))) none:=rfl
@[simp] theorem v_div(i j:Int):divD (.int i) (.int j)=@ite _ (0<j/\j<1000000000000000000000000) (qA3 _) (some (.int (i/j))) none:=rfl
@[simp] theorem v_mod(i j:Int):modD (.int i) (.int j)=if 0<j then some (.int (i%j))else none:=rfl
@[simp] theorem zXZ(i j:Int):powD (.int i) (.int j)=@ite _ (0<=j/\j<=1000000/\i.natAbs<18446744073709551616) (qA3 _) (some (.int (i ^ j.toNat))) none:=rfl
@[simp] theorem v_neg(i:Int):negD (.int i)=some (.int (-i)):=rfl
@[simp] theorem v_cmp(p:Int->Int->Bool)(i j:Int):cmpD p (.int i) (.int j)=some (.bl (p i j)):=rfl
@[simp] theorem v_eq(x y:Dt):eqD x y=if x.dep<=40/\y.dep<=40 then some (.bl (Dt.eq x y))else none:=rfl
@[simp] theorem v_ne(x y:Dt):neD x y=if x.dep<=40/\y.dep<=40 then some (.bl (!Dt.eq x y))else none:=rfl
@[simp] theorem v_is(x:Dt):isD x .non=some (.bl (zEV x)):=rfl
@[simp] theorem v_isnt(x:Dt):zbF x .non=some (.bl (!zEV x)):=rfl
@[simp] theorem v_isN1:zEV .non=true:=rfl
@[simp] theorem v_isN2(i:Int):zEV (.int i)=false:=rfl
@[simp] theorem v_isN3(i:List Dt):zEV (.lst i)=false:=rfl
@[simp] theorem v_isN4(i:List Dt):zEV (.tup i)=false:=rfl
@[simp] theorem v_isN5(i:Str):zEV (.str i)=false:=rfl
@[simp] theorem v_isN6(i:Bool):zEV (.bl i)=false:=rfl
@[simp] theorem zaQ(xs:List Dt)(i:Int):ixD (.lst xs) (.int i)=itA xs i:=rfl
@[simp] theorem v_ixT(xs:List Dt)(i:Int):ixD (.tup xs) (.int i)=itA xs i:=rfl
@[simp] theorem v_ixS(ns:List Int)(i:Int):ixD (.scr ns) (.int i)=(itA ns i).map .int:=rfl
@[simp] theorem v_lenL(xs:List Dt):lenD [.lst xs]=some (.int xs.length):=rfl
@[simp] theorem v_lenT(xs:List Dt):lenD [.tup xs]=some (.int xs.length):=rfl
@[simp] theorem v_lenS(ns:List Int):lenD [.scr ns]=some (.int ns.length):=rfl
@[simp] theorem v_listL(xs:List Dt):listD [.lst xs]=some (.lst xs):=rfl
@[simp] theorem v_listT(xs:List Dt):listD [.tup xs]=some (.lst xs):=rfl
@[simp] theorem v_listS(ns:List Int):listD [.scr ns]=some (.lst (ns.map .int)):=rfl
@[simp] theorem v_dn:Dt.non.dep=0:=rfl
@[simp] theorem v_db(b:Bool):(Dt.bl b).dep=0:=rfl
@[simp] theorem v_di(b:Int):(Dt.int b).dep=0:=rfl
@[simp] theorem v_ds(b:Str):(Dt.str b).dep=0:=rfl
@[simp] theorem v_dS(b:List Int):(Dt.scr b).dep=1000:=by rw[Dt.dep]
@[simp] theorem v_dl(xs:List Dt):(Dt.lst xs).dep=Dt.depL xs+1:=by rw[Dt.dep]
@[simp] theorem v_dt(xs:List Dt):(Dt.tup xs).dep=Dt.depL xs+1:=by rw[Dt.dep]
@[simp] theorem v_dnil:Dt.depL []=0:=by rw[Dt.depL]
@[simp] theorem zIY(x:Dt)(r:List Dt):Dt.depL (x::r)=max x.dep (Dt.depL r):=by rw[Dt.depL]
@[simp] theorem v_e1(i j:Int):Dt.eq (.int i) (.int j)=decide (i=j):=by rw[Dt.eq];by_cases h:i=j<;>simp[h]
@[simp] theorem v_e2(i j:Str):Dt.eq (.str i) (.str j)=decide (i=j):=by rw[Dt.eq];by_cases h:i=j<;>simp[h]
@[simp] theorem v_e3(i j:Bool):Dt.eq (.bl i) (.bl j)=decide (i=j):=by rw[Dt.eq];by_cases h:i=j<;>simp[h]
@[simp] theorem v_e4(i j:List Dt):Dt.eq (.lst i) (.lst j)=Dt.eqL i j:=by rw[Dt.eq]
@[simp] theorem v_e5(i j:List Dt):Dt.eq (.tup i) (.tup j)=Dt.eqL i j:=by rw[Dt.eq]
@[simp] theorem v_e6:Dt.eq .non .non=true:=by rw[Dt.eq]
@[simp] theorem zI5:∀(ns:List Int),Dt.depL (ns.map Dt.int)=0
 |[]=>by simp
 |n::r=>by rw[qAn,zIY,zI5 r];rfl
@[simp] theorem zUB:∀(xs ys:List Dt),Dt.depL (xs++ys)=max (Dt.depL xs) (Dt.depL ys)
 |[],ys=>by simp
 |x::r,ys=>by rw[qEs,zIY,zIY,zUB r ys];exact(Nat.max_assoc _ _ _).symm
@[simp] theorem zH2:∀(ns ms:List Int),Dt.eqL (ns.map Dt.int) (ms.map Dt.int)=decide (ns=ms)
 |[],[]=>by simp[Dt.eqL]
 |[],_::_=>by simp[Dt.eqL]
 |_::_,[]=>by simp[Dt.eqL]
 |n::r,m::q=>by rw[qAn,qAn,Dt.eqL,zH2 r q,v_e1];simp
theorem zIM{α:Type}{xs:List α}{i:Int}{j:Nat}{v:α}(e:i=(j:Int))(h:xs[j]?=some v):itA xs i=some v:=by
 have hj:j<xs.length:=(qA4.mp h).1;subst e;unfold itA ixA;rw[if_pos (by lia),if_pos (by lia)]
 simpa using h
theorem zRD{n:Nat}{i:Int}(h0:0<=i)(h1:i<n):ixA n i=some i.toNat:=by
 unfold ixA;rw[if_pos h0,if_pos h1]
theorem zTS{ns:List Int}{i:Int}(h0:0<=i)(h1:i<ns.length):itA (ns.map Dt.int) i=some (.int (ns.getD i.toNat 0)):=by
 refine zIM (j:=i.toNat) (by lia) ?_;rw[qAb,qA0,qA1 (by lia)];rfl
theorem zMJ{ns:List Int}{i:Int}(h0:0<=i)(h1:i<ns.length):itA ns i=some (ns.getD i.toNat 0):=by
 refine zIM (j:=i.toNat) (by lia) ?_;rw[qA0,qA1 (by lia)];rfl
@[simp] theorem set_int(ns:List Int)(i:Nat)(x:Int):(ns.map Dt.int).set i (.int x)=(ns.set i x).map Dt.int:=by rw[qE9]
theorem zOD{ρ:Rh}{k:Nat}{tg:Tg}{c:TM}{e:EM}(f:Dt->Dt):∀(ds acc:List Dt),(∀d∈ds,∃bs,zAS tg d=some bs/\c (zAT (ρ++qA5 k none) bs)=okR true/\e (zAT (ρ++qA5 k none) bs)=okR (f d))->compGo ρ k tg c e ds acc=okR (acc++ds.map f)
 |[],acc,_=>by simp[compGo]
 |d::ds,acc,h=>by
  obtain⟨bs,h1,h2,h3⟩:=h d (by simp);rw[compGo,h1];simp only;rw[h2,zA0,if_pos rfl,h3,zA0,zOD f ds (acc++[f d]) fun d hd=>h d (by simp[hd])];simp
theorem zJO{tg:Tg}{b:SM}(Pv:Nat->Ro->Prop):∀(ds:List Dt)(i:Nat)(r:Ro),Pv i r->(∀(j:Nat)(d:Dt)(r:Ro),ds[j]?=some d->Pv (i+j) r->∃bs r',zAS tg d=some bs/\b (zAY r bs)=okR (.nx r')/\Pv (i+j+1) r') ->
  ∃r',forGo tg b ds r=okR (.nx r')/\Pv (i+ds.length) r'
 |[],i,r,h,_=>⟨r,by simp[forGo],by simpa using h⟩
 |d::ds,i,r,h,hs=>by
  obtain⟨bs,r1,h1,h2,h3⟩:=hs 0 d r (by simp) (by simpa using h);obtain⟨r2,h4,h5⟩:=zJO Pv ds (i+1) r1 (by simpa using h3) fun j e r he hp=>by
   have:=hs (j+1) e r (by simpa using he) (by rw[show i+(j+1)=i+1+j by lia];exact hp)
   rw[show i+1+j+1=i+(j+1)+1 by lia];exact this
  refine⟨r2,?_,by rw[qB6,show i+(ds.length+1)=i+1+ds.length by lia];exact h5⟩;rw[forGo,h1];simp only;rw[h2,zA0];exact h4
theorem zK3{c:TM}{b:SM}(Pv:Ro->Prop)(μ:Ro->Nat)(Rv:Ro->Prop)(hc:∀r,Pv r->(c (full r)=okR false/\Rv r)\/(c (full r)=okR true/\∃r',b r=okR (.nx r')/\Pv r'/\μ r'<μ r)) :
  ∀(m:Nat)(r:Ro),Pv r->μ r<m->∃r',whGo c b m r=okR (.nx r')/\Rv r'
 |0,r,_,h=>by lia
 |m+1,r,h,hm=>by
  rw[whGo]
  rcases hc r h with⟨h1,h2⟩|⟨h1,r1,h2,h3,h4⟩
  ·rw[h1,zA0,if_neg (by decide)];exact⟨r,rfl,h2⟩
  ·rw[h1,zA0,if_pos rfl,h2,zA0];exact zK3 Pv μ Rv hc m r1 h3 (by lia)
theorem zOS{c:TM}{b:SM}(Pv:Ro->Prop)(μ:Ro->Nat)(Rv:Ro->Prop){r:Ro}(h0:Pv r)(hm:μ r<1000000)(hc:∀r,Pv r->(c (full r)=okR false/\Rv r)\/(c (full r)=okR true/\∃r',b r=okR (.nx r')/\Pv r'/\μ r'<μ r)):∃r',sWhile c b r=okR (.nx r')/\Rv r':=
 zK3 Pv μ Rv hc WN r h0 (by rw[zbQ];exact hm)
end Mi
namespace Mi
open PySem
section
variable(ρ:Rh)(r:Ro)(a:EM)(am:AM)(s:SM)
@[simp] theorem x_noE_ok{α:Type}(x:α):noE (okR x)=okR x:=rfl
@[simp] theorem x_noE_none{α:Type}:noE (none:R α)=none:=rfl
@[simp] theorem x_noE_err{α:Type}(e:Xn):noE (some (.error e):R α)=none:=rfl
@[simp] theorem x_eCallN(f:FM):eCallN f am ρ=zA4 (am ρ) fun ds=>noE (f ds):=rfl
@[simp] theorem x_eMkX(c f:Str):eMkX c f am ρ=zA4 (am ρ) fun ds=>match ds with|[d]=>okR (.exc c f d)|_=>none:=rfl
@[simp] theorem x_sRaise(c f:Str):sRaise c f am r=zA4 (am (full r)) fun ds=>match ds with|[d]=>some (.error ⟨c,f,d⟩)|_=>none:=rfl
@[simp] theorem x_eAtX(hs:List Str)(f:Str):eAtX hs f a ρ=zA4 (a ρ) fun d=>match d with | .exc c g x=>if c∈hs/\g=f then okR x else none|_=>none:=rfl
@[simp] theorem x_eIsX(ys ns:List Str):eIsX ys ns a ρ=zA4 (a ρ) fun d=>match d with | .exc c _ _=>if c∈ys then okR (.bl true)else if c∈ns then okR (.bl false)else none|_=>none:=rfl
@[simp] theorem x_gone_nx(i:Nat):za0 i (.nx r)=.nx (r.set i none):=rfl
@[simp] theorem x_gone_rt(i:Nat)(d:Dt):za0 i (.rt d)=.rt d:=rfl
end
example (d:Dt):True:=trivial
end Mi
namespace L2
open PySem PySem.Spec PyProof.Rows
section
variable{X:Cx}
noncomputable def zYN:R2:=fun x y H Q=>match x,y with
 |.int i,.int j=>Q (.int (Builtin.bitXor i j)) H
 |_,_=>False
theorem zaS:OpR X (binaryOp .BitXor) zYN:=by
 intro pins s σ H x y v u Q I rx ry h;cases x<;>cases y<;>first
  |exact zZ7 pins s σ H _ _ v u Q I rx ry ⟨_,_,rfl,rfl,h⟩
  |exact qA7 h
def zYP:R2:=fun x y H Q=>match x,y with
 |.ref l,.int k=>∃xs,H l=some (.lst xs)/\(-(2 ^ 63)<=k/\k<2 ^ 63)/\xs.length*k.toNat<=sizeLine/\∀p,H p=none->Q (.ref p) (upd H p (.lst (qA5 k.toNat xs).flatten))
 |_,_=>False
theorem zSO:OpR X (binaryOp .Mult) zYP:=by
 intro pins s σ H x y v u Q I rx ry h;cases x<;>cases y<;>first
  |(obtain⟨xs,h1,h2,h3,h4⟩:=h;exact zZ9 pins s σ H _ _ v u Q I rx ry ⟨_,_,xs,rfl,rfl,h1,h2.1,h2.2,h3,h4⟩)
  |exact qA7 h
def extM:V->List V->Hp->VK->Prop:=fun x vs H Q=>match x,vs with
 |.ref l,[.ref b]=>∃xs zs,H l=some (.lst xs)/\H b=some (.lst zs)/\xs.length+zs.length<=sizeLine/\Q .non (upd H l (.lst (xs++zs)))
 |_,_=>False
theorem zWU:MtR X "list.extend" extM:=by
 intro pins s σ H x vs v us Q I rx rv h;cases x with
 |ref l=>
  cases vs with
  |nil=>exact qA7 h
  |cons hd1 tl1=>
   cases hd1 with
   |ref b=>
    cases tl1 with
    |nil=>
     obtain⟨xs,zs,h1,h2,h3,h4⟩:=h;exact zR4 pins s σ H _ _ v us Q I rx rv ⟨l,b,xs,zs,rfl,rfl,h1,h2,h3,h4⟩
    |cons _ _=>exact qA7 h
   |_=>exact qA7 h
 |_=>exact qA7 h
end
section
variable{X:Cx}{K:qA2}
end
end L2
namespace Mi
open PySem
noncomputable section
noncomputable def xorD:Dt->Dt->Option Dt
 |.int i,.int j=>some (.int (Builtin.bitXor i j))
 |_,_=>none
noncomputable def repD:Dt->Dt->Option Dt
 |.lst xs,.int k=>@ite _ ((-4611686018427387904<=k/\k<4611686018427387904)/\xs.length*k.toNat<=100000) (qA3 _) (some (.lst (qA5 k.toNat xs).flatten)) none
 |_,_=>none
def tL(a:EM):TM:=fun ρ=>zA4 (a ρ) fun x=>match x with
 |.bl k=>okR k
 |.int i=>okR (i != 0)
 |.non=>okR false
 |.lst xs=>okR (!xs.isEmpty)
 |.tup xs=>okR (!xs.isEmpty)
 |_=>none
def iRv(e:AM):IM:=fun ρ=>zA4 (e ρ) fun vs=>match vs with
 |[.lst xs]=>okR xs.reverse
 |_=>none
noncomputable def intsD:List Dt->Option (List Int)
 |[]=>some []
 |.int i::r=>(intsD r).map (i::·)
 |_::_=>none
def eMl(f:List Dt->List Dt->Option Dt)(a:EM)(am:AM):EM:=fun ρ=>zA4 (a ρ) fun x=>match x with
 |.lst xs=>zA4 (am ρ) fun ds=>optR (f xs ds)
 |_=>none
def sExt(i n:Nat)(e:EM):SM:=fun ρ=>match ρ[i]? with
 |some (some (.lst ds,k+1))=>zA4 (e (full ρ)) fun d=>match d with
  |.lst es=>@ite _ (ds.length+es.length<=100000/\Dt.depL es<=n/\Dt.depL es<=k) (qA3 _) (okR (.nx (ρ.set i (some (.lst (ds++es),k+1))))) none
  |_=>none
 |_=>none
noncomputable def low(i:Nat)(ρ:Ro):Ro:=match ρ[i]? with
 |some (some (.lst ds,_+1))=>ρ.set i (some (.lst ds,1))
 |_=>ρ
def sAppF(i:Nat)(vs:List Nat)(e:EM):SM:=fun ρ=>match(frzAt vs (low i ρ))[i]? with
 |some (some (.lst ds,1))=>zA4 (e (frz (frzAt vs (low i ρ)))) fun d=>@ite _ (ds.length<=100000) (qA3 _) (okR (.nx ((frzAt vs (low i ρ)).set i (some (.lst (ds++[d]),1))))) none
 |_=>none
end
end Mi
namespace L3
open PySem PySem.Spec
open L2 hiding Rep RepL
open Mi (Dt Xn R okR zA4 optR zA0 zAD zAH zA8 zAF Rh Sl Ro EM TM AM FM IM SM Tg Out zAS zAT zAY full frz frz1 frzAt)
section
variable[Kc]{mg:Str->Option Value}{E:XK}{L n k l:Nat}{te ta tb:TE}{e ea eb ma:EM}{t:TA}{m:AM}
theorem zYD:ROp zYN Mi.xorD n:=by
 intro mg E G H d e x y Q s h1 h2 p;cases d with
 |int i=>
  cases e with
  |int j=>cases(show x=.int i from h1);cases(show y=.int j from h2);exact zQG s p rfl rfl rfl
  |_=>exact p.elim
 |_=>exact p.elim
theorem zT2{G:Hp}{ds es:List Dt}{xs ys:List V}(ra:RepL G ds xs)(rb:RepL G es ys):RepL G (ds++es) (xs++ys):=by
 refine zG2 (by simp[ra.length,rb.length]) fun j d' x' e1 e2=>?_
 by_cases hj:j<ds.length
 ·rw[qA8 hj]at e1;rw[qA8 (by rw[ra.length];exact hj)]at e2;exact zD0 ra e1 e2
 ·rw[qA9 (by lia)]at e1;rw[qA9 (by rw[ra.length];lia),ra.length]at e2;exact zD0 rb e1 e2
theorem zNH{G:Hp}{ds:List Dt}{xs:List V}(r:RepL G ds xs):∀k:Nat,RepL G (qA5 k ds).flatten (qA5 k xs).flatten
 |0=>rfl
 |k+1=>by rw[qB7,qB7,qAv,qAv];exact zT2 r (zNH r k)
theorem zNE:ROp zYP Mi.repD 1:=by
 intro mg E G H d e x y Q s h1 h2 p;cases d with
 |lst ds=>
  cases e with
  |int j=>
   obtain⟨a,xs,rfl,ha,ra⟩:=h1
   cases(show y=.int j from h2)
   rw[Mi.repD]at p
   split at p
   ·rename_i hz
    exact⟨xs,s _ _ ha,⟨by lia,by lia⟩,by rw[ra.length];exact big' hz.2,fun q hq=>PostE.lst p (Ext.refl s) (zNH ra _) hq⟩
   ·exact p.elim
  |_=>exact p.elim
 |_=>exact p.elim
theorem zLC{G:Hp}:∀{ds:List Dt}{ns:List Int}{xs:List V},Mi.intsD ds=some ns->RepL G ds xs->xs=ns.map V.int
 |[],ns,xs,h,r=>by cases h;exact r
 |d::q,ns,xs,h,r=>by
  cases d with
  |int i=>
   rw[Mi.intsD]at h;cases e:Mi.intsD q with
   |none=>rw[e]at h;cases h
   |some ms=>
    rw[e]at h;cases h;obtain⟨x,t,rfl,a,b⟩:=r
    cases(show x=.int i from a)
    rw[zLC e b];rfl
  |_=>cases h
end
end L3
namespace L3
open PySem PySem.Spec
open L2 hiding Rep RepL
open Mi (Dt Xn R okR zA4 optR zA0 zAD zAH zA8 zAF Rh Sl Ro EM TM AM FM IM SM Tg Out zAS zAT zAY full frz frz1 frzAt)
section
variable[Kc]{G0 H0 S0:Hp}{σ:St}{ρ:Ro}{G H:Hp}{As:Nat->Addr->Prop}
theorem Sat.low(a:Sat G0 H0 S0 σ ρ G H As)(i:Nat):∃G1 As1,Sat G0 H0 S0 σ (Mi.low i ρ) G1 H As1:=by
 unfold Mi.low
 split
 ·rename_i ds k e1
  obtain⟨v,h1,q,xs,T,rfl,hq,kd⟩:=a.at i _ _ e1;obtain⟨s1,s2⟩:=zDZ (S:=fun b=>∃r,T r b) a.ext.in';have ui:∀b,(∃r,T r b)->As i b:=fun b ⟨r,z⟩=>kd.sub r b z
  have x:Ext G0 H0 (over G H fun b=>∃r,T r b) H:=⟨a.ext.g.trans s1,a.ext.h,s2,fun b hb=>by
   have z:¬ ∃r,T r b:=fun z=>hb (a.new i b (ui b z)).1
   rw[zCS z];exact a.ext.old b hb⟩
  refine⟨over G H fun b=>∃r,T r b,fun j b=>As j b/\¬ ∃r,T r b,x,a.stb.trans s1,by simp[a.len],fun j e n h=>?_,fun j l b p q=>a.dis j l b p.1 q.1,fun j b p=>?_⟩
  ·have hj:j<ρ.length:=by
    have:=(qA4.mp h).1
    simpa using this
   by_cases z:i=j
   ·subst z;rw[qAh hj]at h;cases h;exact⟨.ref q,h1,q,xs,fun _ _=>False,rfl,hq,⟨kd.len,fun r d x g1 g2=>(kd.own r d x g1 g2).rep s1 fun b o hb e=>by rw[zF2 ⟨r,hb⟩];exact e,⟨kd.top,fun⟨r,z⟩=>kd.out r z⟩,fun _ z=>z,fun _ _ _ z=>z.elim,fun _ _ z=>z.elim⟩⟩
   ·rw[qAi z]at h;obtain⟨u,q1,q2⟩:=a.at j e n h;exact⟨u,q1,(q2.mono s1 (Same.refl _)).sub fun b hb=>⟨hb,fun w=>z (a.dis i j b (ui b w) hb)⟩⟩
  ·obtain⟨n1,n2,n3⟩:=a.new j b p.1;exact⟨n1,by rw[zCS p.2];exact n2,n3⟩
 ·exact⟨G,As,a⟩
end
section
variable[Kc]{mg:Str->Option Value}{E:XK}{L n k l:Nat}{te ta tb:TE}{e ea eb ma:EM}{t:TA}{m:AM}
theorem zJR(i:Nat)(vs:List Nat)(A:DE mg E te e n):DS mg E L (zFZ (tML appM (vM i) (zG0 te tNil))) (Mi.sAppF i vs e):=by
 intro G0 H0 S0 σ ρ G H As D a p;obtain⟨G1,As1,a1⟩:=a.low i;obtain⟨G2,As2,a2⟩:=Sat.frzAt vs a1;unfold Mi.sAppF at p
 generalize hρ:frzAt vs (Mi.low i ρ)=ρ2 at p a2
 split at p
 ·rename_i ds e1
  obtain⟨v,h1,q,xs,T,rfl,hq,kd⟩:=a2.at i _ _ e1;unfold zFZ tML vM;rw[h1];refine⟨xs,hq,?_⟩;refine(zAN A).step (errS.from a2.ext) a2.ext.in' a2.frz p fun d y G3 H3 S _ fr o p1=>?_
  split at p1
  ·rename_i hz
   refine⟨xs,fr.ext.h _ _ hq,by rw[kd.len];exact L2.big (by lia),?_⟩;have a3:=a2.wider fr.ext;have kd1:Kids (Own G3 H3 0) (As2 i) q ds xs T:=kd.imp (fun _ _ _ _ w=>w.mono fr.ext.g fr.ext.h) fun _ z=>z
   refine p1 σ G3 _ _ (a3.store (S:=As2 i) kd.top h1 ⟨q,_,fun _ _=>False,rfl,zAI,⟨by simp[kd.len],fun r d' z g1 g2=>?_,kd.top,fun _ z=>z,fun _ _ _ z=>z.elim,fun _ _ z=>z.elim⟩⟩ fun b z=>.inl z)
   by_cases hr:r<ds.length
   ·rw[qA8 hr]at g1;rw[qA8 (by rw[kd.len];exact hr)]at g2;exact kd1.own r d' z g1 g2
   ·rw[qA9 (by lia)]at g1;rw[qA9 (by rw[kd.len];lia),kd.len]at g2;have hq0:r-ds.length=0:=by
     have:=(qA4.mp g1).1
     simp at this;lia
    rw[hq0]at g1 g2;simp at g1 g2;subst g1;subst g2;exact o
  ·exact p1.elim
 ·exact p.elim
theorem za5(i:Nat)(A:DE mg E te e (n+1))(hn:n<1000:=by decide):DS mg E L (zFZ (tML extM (vM i) (zG0 te tNil))) (Mi.sExt i n e):=by
 intro G0 H0 S0 σ ρ G H As D a p;obtain⟨J,x,s,w⟩:=a.full;unfold Mi.sExt at p
 split at p
 ·rename_i ds k e1
  obtain⟨v,h1,q,xs,T,rfl,hq,kd⟩:=a.at i _ _ e1;unfold zFZ tML vM;rw[h1];refine⟨xs,hq,?_⟩;refine A.step (errS.from x) x.in' w p fun d y G1 H1 S _ fr o p1=>?_
  split at p1
  ·rename_i es
   obtain⟨b0,zs,T2,rfl,hb0,kd2⟩:=o
   split at p1
   ·rename_i hz
    refine⟨xs,zs,fr.ext.h _ _ hq,hb0,by rw[kd.len,kd2.len];exact big' (by lia),?_⟩;have hp:=kd.top;have a1:=a.grow fr.ext.h;have q2:∀b,S b->H b=none/\G b=none/\H1 b≠none:=fun b hb=>let⟨n1,n2,n3⟩:=fr.new b hb;⟨n1,a.ext.in'.free n1,n3⟩
    have nS:∀r,¬T2 r q:=fun r z=>(a.new i q hp).2.2 (q2 q (kd2.sub r q z)).1
    have ap:∀r r' b,T r b->T2 r' b->False:=fun r r' b h1 h2=>(a.new i b (kd.sub r b h1)).2.2 (q2 b (kd2.sub r' b h2)).1
    refine p1 σ G _ _ (a1.store (S:=fun b=>As i b\/∃r,T2 r b) hp h1 ⟨q,_,fun r b=>(r<ds.length/\T r b)\/(ds.length<=r/\T2 (r-ds.length) b),rfl,zAI,⟨by simp[kd.len,kd2.len],fun r d' z g1 g2=>?_,.inl hp,fun r z=>?_,fun r r' b z1 z2=>?_,fun r b z=>?_⟩⟩ fun b z=>?_)
    ·by_cases hr:r<ds.length
     ·rw[qA8 hr]at g1;rw[qA8 (by rw[kd.len];exact hr)]at g2;exact(((kd.own r d' z g1 g2).mono (Same.refl _) fr.ext.h).upd (kd.out r)).sub fun b z=>.inl ⟨hr,z⟩
     ·rw[qA9 (by lia)]at g1;rw[qA9 (by rw[kd.len];lia),kd.len]at g2;exact(((kd2.own _ d' z g1 g2).at (zF7 hz.2.1 g1) (zF7 hz.2.2 g1) hn).upd (nS _)).sub fun b z=>.inr ⟨by lia,z⟩
    ·rcases z with⟨_,z⟩|⟨_,z⟩
     ·exact kd.out r z
     ·exact nS _ z
    ·rcases z1 with⟨c1,t1⟩|⟨c1,t1⟩<;>rcases z2 with⟨c2,t2⟩|⟨c2,t2⟩
     ·exact kd.dis r r' b t1 t2
     ·exact(ap _ _ b t1 t2).elim
     ·exact(ap _ _ b t2 t1).elim
     ·have:=kd2.dis _ _ b t1 t2;lia
    ·rcases z with⟨_,z⟩|⟨_,z⟩
     ·exact .inl (kd.sub r b z)
     ·exact .inr ⟨_,z⟩
    ·rcases z with z|⟨r,z⟩
     ·exact .inl z
     ·obtain⟨n1,n2,n3⟩:=q2 b (kd2.sub r b z);exact .inr ⟨a.ext.h.free n1,n2,n3,fun j y=>(a.new j b y).2.2 n1⟩
   ·exact p1.elim
  ·exact p1.elim
 ·exact p.elim
end
end L3
namespace L3
open PySem PySem.Spec
open L2 hiding Rep RepL
open Mi (Dt Xn R okR zA4 optR zA0 zAD zAH zA8 zAF Rh Sl Ro EM TM AM FM IM SM Tg Out zAS zAT zAY full frz frz1 frzAt)
structure XNo(K:qA2)(mg:Str->Option Value)(c:Str)(C:Addr):Prop extends XCls K mg c C where
 kp:qB0 K (.ref C)=true
 ini:qAj K (.ref C) "__init__" = some (some (.builtin "ValueError.__init__"))
theorem zZ5{X:Cx}{c:Str}{C:Addr}{e:Expr}{es:List Expr}{t:TA}{p pos:Pos}(h:XNo X.K X.mg c C)(hg:Gl X c)(ha:PA X (e::es) t)(hdb:(c==("__debug__":Str))=false:=by decide)
  (he:starEach (e::es) X.env=(false,eval e X.env)::starEach es X.env:=by rfl) (hpl:(backTo pos (starEach es X.env)).any (·.1)=false:=by rfl):PE X (.Call (.Name c p) (e::es) [] pos) (zIZ C t):=
 zQR h.is.xc h.ini hg h.gm h.kp ha hdb he hpl
section
variable[Kc]{mg:Str->Option Value}{E:XK}{L n k l:Nat}{te ta tb:TE}{e ea eb ma:EM}{t:TA}{m:AM}
theorem de_mk0{c:Str}{C:Addr}(h:XNo Kc.K mg c C)(A:DA mg E t m 0):DE mg E (zIZ C t) (Mi.eMkX0 c m) 0:=by
 intro G H σ ρ Q s w p;refine A.step errE s w p fun ds vs G1 H1 S T _ fr o p1=>?_
 split at p1
 ·rename_i hz
  refine⟨by rw[o.len];exact big' (by lia),fun e he=>?_⟩;exact PostE.kept p1 (fr.ext.trans (Ext.new fr.ext.in' he _)) ⟨e,C,none,rfl,.inl zAI,h.cl,.inl ⟨rfl,rfl⟩⟩
 ·exact p1.elim
theorem zRS{c:Str}{C:Addr}(h:XNo Kc.K mg c C)(A:DA mg E t m 0):DS mg E L (zN2 Kc.K E (zIZ C t)) (Mi.sRaise0 c m):=by
 intro G0 H0 S0 σ ρ G H As D a p;obtain⟨J,x,s,w⟩:=a.full;refine A.step (errS.from x) x.in' w p fun ds vs G1 H1 S T _ fr o p1=>?_
 split at p1
 ·rename_i hz
  refine⟨by rw[o.len];exact big' (by lia),fun e he=>⟨e,C,none,rfl,zAI,h.is.xc,?_⟩⟩;have hu:upd (upd H1 e (xn e (.ref C) none)) e (xo e (.ref C) none)=upd H1 e (xo e (.ref C) none):=by
   funext z
   by_cases h1:z=e
   ·rw[h1,zAI,zAI]
   ·rw[zAJ h1,zAJ h1,zAJ h1]
  rw[hu];exact p1 (.ref e) none _ _ ((x.trans fr.ext).trans (Ext.new fr.ext.in' he _)) ⟨e,C,rfl,zAI,h.cl,.inl ⟨rfl,rfl⟩⟩
 ·exact p1.elim
end
end L3
namespace L2
open PySem PySem.Spec PyProof.Rows
section
variable{X:Cx}
noncomputable def zY8(z:Str):List V:=z.cps.toList.map fun c=>.str ⟨#[c]⟩
def rListX(K:qA2):List V->Hp->VK->Prop:=fun vs H Q=>match vs with
 |[.str z]=>z.length<=sizeLine/\∀l,H l=none->Q (.ref l) (upd H l (.lst (zY8 z)))
 |_=>zNL K vs H Q
def rSumU:List V->Hp->VK->Prop:=fun vs H Q=>match vs with
 |[.ref a]=>∃ns:List Int,H a=some (.lst (ns.map V.int))/\ns.length<=100000/\(∀n∈ns,-1000000<=n/\n<=1000000)/\Q (.int ns.sum) H
 |_=>False
def zUW:List V->Hp->VK->Prop:=fun vs H Q=>match vs with
 |[.ref a]=>(∃ns:List Int,H a=some (.lst (ns.map V.int))/\ns.length<64/\∀ms:List Int,ms.Perm ns->ms.Pairwise (·<=·)->∀l,H l=none->Q (.ref l) (upd H l (.lst (ms.map V.int)))) \/
   ∃zs:List Str,H a=some (.lst (zs.map V.str))/\zs.length<64/\∀ys:List Str,ys.Perm zs->sortedS ys=true->∀l,H l=none->Q (.ref l) (upd H l (.lst (ys.map V.str)))
 |_=>False
theorem zLB:∀{ns:List Int}{vs:List Value},IntsAre vs ns->Vals (ns.map V.int) vs
 |_,_,.nil=>.nil
 |_,_,.cons n t h=>.cons ⟨t,rfl⟩ (zLB h)
theorem zK9:∀{ns:List Str}{vs:List Value},StrsAre vs ns->Vals (ns.map V.str) vs
 |_,_,.nil=>.nil
 |_,_,.cons n t h=>.cons ⟨t,rfl⟩ (zK9 h)
theorem zNY:zGT X (.builtin "sorted") zUW:=by
 intro pins s σ H vs us Q I r h;cases vs with
 |nil=>exact qA7 h
 |cons hd1 tl1=>
  cases hd1 with
  |ref a=>
   cases tl1 with
   |nil=>
    obtain⟨u,rfl,rx⟩:=zFY r;cases rx
    rcases h with⟨ns,ha,hz,q⟩|⟨zs,ha,hz,q⟩
    ·obtain⟨its,rv,hl⟩:=zAP I.hok ha;have hlen:=rv.length;rw[qAg]at hlen;refine sorted_ints hl (zLA rv) (by lia) fun out ms h1 h2 h3=>?_
     obtain⟨e,he⟩:=sortedAll_at s.heap its out;have hz':ms.length<=sizeLine:=by rw[h2.length_eq,sizeLine_eq];lia
     exact⟨.ref _,_,I.laid (t':=s.toks) (o:=.lst (ms.map V.int)) (fun b o q=>sortedAll_old q) (qBy _) ⟨by rw[qAg];exact hz',out.toList,e,zLB h1,by simpa[seqObj]using he⟩,rfl,q ms h2 h3 _ (I.hok.fresh (qBy _))⟩
    ·obtain⟨its,rv,hl⟩:=zAP I.hok ha;have hlen:=rv.length;rw[qAg]at hlen;refine sorted_strs hl (zH9 rv) (by lia) fun out ms h1 h2 h3=>?_
     obtain⟨e,he⟩:=sortedAll_at s.heap its out;have hz':ms.length<=sizeLine:=by rw[h2.length_eq,sizeLine_eq];lia
     exact⟨.ref _,_,I.laid (t':=s.toks) (o:=.lst (ms.map V.str)) (fun b o q=>sortedAll_old q) (qBy _) ⟨by rw[qAg];exact hz',out.toList,e,zK9 h1,by simpa[seqObj]using he⟩,rfl,q ms h2 h3 _ (I.hok.fresh (qBy _))⟩
   |cons _ _=>exact qA7 h
  |_=>exact qA7 h
end
def Itw(z:Str):It:=
 ⟨fun i H=>i<z.cps.size,fun i H x H'=>∃T c,x=.ref T/\H T=none/\H'=upd H T (.tup [.int i,.str ⟨#[c]⟩])/\z.cps[i]?=some c,fun i H=>z.cps.size<=i⟩
theorem zVN{prog:Program}{w:World}{A:Around}(hh:A.handled=none)(it:Addr)(x:Str)(t:Tok) :
  Draws prog w A it [it] x.cps.size (fun i v=>∃c u,x.cps[i]?=some c/\v=.str ⟨#[c]⟩ u) (fun i h=>h.IsStrIter it (strIterType x) x t i):=by
 unfold strIterType;cases ha:x.cps.all (· < 128)
 ·exact Draws.strWide hh it x t
 ·exact Draws.strAscii hh it x t
theorem zOO{P:Program}{w:World}{K:qA2}{ts:List Expr}{kk:Nat}{tp:Pos}(z:Str)(t:Tok)(e it:Addr)(hei:e≠it) :
  Turn P w K (.Tuple ts kk tp) (Itw z) [e,it] e (fun i h=>i<=z.cps.size/\(∃old,IsEnum h e it i old)/\h.IsStrIter it (strIterType z) z t i) where
 mem:=by simp
 obj:=fun i h st b hb=>by
  rcases qAk.mp hb with y|y
  ·subst y;obtain⟨_,⟨old,he⟩,_⟩:=st;exact⟨_,he,fun v z=>by cases z⟩
  ·have z':b=it:=by simpa using y
   subst z';obtain⟨_,_,o,e,c,d⟩:=st;exact⟨o,e,fun v z=>by rw[d]at z;cases z⟩
 keep:=fun i h h' st k=>⟨st.1,by obtain⟨_,⟨old,he⟩,_⟩:=st;exact⟨old,k e (by simp) _ he⟩,by obtain⟨_,_,o,ho,r⟩:=st;exact⟨o,k it (by simp) o ho,r⟩⟩
 item:=by
  intro X hP hw hK hc i pins s σ H E I hf st hg;subst hP hw hK;have hi:i<z.cps.size:=hg;obtain⟨_,⟨old,he⟩,hit⟩:=st;have hhd:X.A.in1.handled=none:=I.ok.hd hc;refine wpAny_pyNext_enum_itemD (zVN hhd it z t) he hit hi hei (by simpa using hei) fun x h' tk hP ho hit' hT hsz hk=>?_
  obtain⟨c,u,hcx,rfl⟩:=hP;refine⟨_,rfl,wpAny_letOwnedTupleGo_enum ho fun h'' he'' hs''=>?_⟩;have hTe:s.heap.objs.size≠e:=qC0 (Heap.lt_size he);have hTi:s.heap.objs.size≠it:=by obtain⟨o,ho',_⟩:=hit;exact qC0 (Heap.lt_size ho')
  have kk:∀b u,b∉[e,it]->s.heap.get? b=some u->h''.get? b=some u:=fun b u hb q=>by
   have b1:b≠e:=fun z=>hb (by simp[z])
   have b2:b≠it:=fun z=>hb (by simp[z])
   exact(hs''.2 b b1).trans (hk b u b1 b2 q)
  have hT'':=(hs''.2 _ hTe).trans hT;refine⟨.ref s.heap.objs.size,_,I.turnedNew (t':=tk+1) (o:=.tup [.int i,.str ⟨#[c]⟩]) hf kk (qAa _) ⟨by show 2<=sizeLine;decide,[.int i tk,.str ⟨#[c]⟩ u],.cons ⟨_,rfl⟩ (.cons ⟨_,rfl⟩ .nil),⟨_,hT'',rfl,_,rfl⟩⟩,rfl,
   ⟨_,c,rfl,I.fresh,rfl,hcx⟩,⟨hi,⟨_,by simpa using he''⟩,by obtain⟨o,ho,r⟩:=hit';exact⟨o,(hs''.2 it hei.symm).trans ho,r⟩⟩,fun b hb=>?_⟩
  have hbs:b<s.heap.objs.size:=by
   rcases qAk.mp hb with z|z
   ·rw[z];exact Heap.lt_size he
   ·have z':b=it:=by simpa using z
    rw[z'];obtain⟨o,ho',_⟩:=hit;exact Heap.lt_size ho'
  rw[zAJ (qAr hbs)];exact(hf b hb).1
 done:=by
  intro X hP hw hK hc i pins s σ H E I hf st hg;subst hP hw hK;obtain⟨hle,⟨old,he⟩,hit⟩:=st;have hi:i=z.cps.size:=qE4 hle hg;subst hi;have hhd:X.A.in1.handled=none:=I.ok.hd hc;exact wpAny_pyNext_enum_endD (zVN hhd it z t) he hit fun h' eb=>⟨rfl,I.turnedL (t':=s.toks) hf fun b u hb q=>eb b u (fun z=>hb (by simp[z])) q⟩
 self:=fun _ _ _ _ _ st h=>by obtain⟨_,⟨old,he⟩,_⟩:=st;exact wpAny_pyIter_enum he h
section
variable{X:Cx}{K:qA2}
def zVE(K:qA2)(tl:TA):TI:=fun σ H R=>tl σ H fun vs H1=>match vs with
 |[.ref a]=>(∃xs,SqL K H1 a xs)/\R (Ite K a) H1
 |[.str z]=>R (Itw z) H1
 |_=>False
theorem zT7{ts:List Expr}{kk:Nat}{tp p pos:Pos}{a:Expr}{ta:TA}(hg:Gl X "enumerate")(hm:X.mg "enumerate" = none)(ha:PA X [a] ta)(hs:starEach [a] X.env=[(false,eval a X.env)]:=by rfl)(hK:X.K=K:=by rfl) :
  PI X (.Tuple ts kk tp) (.Call (.Name "enumerate" p) [a] [] pos) (zVE K ta):=by
 subst hK;intro pins s σ H R I h;refine Call_ (zHV I hg hm boot_enumerate (qBf (thn (ha pos pins s σ H _ I h) fun us s1 z0=>?_) hs rfl));obtain⟨vs,H1,I1,r1,q1⟩:=z0;have hne:s1.heap.objs.size+1≠s1.heap.objs.size:=by lia
 have hb':∀b∈[s1.heap.objs.size+1,s1.heap.objs.size],s1.heap.objs.size<=b:=fun b hb=>by
  rcases qAk.mp hb with z|z
  ·rw[z];exact qBy _
  ·have z':b=s1.heap.objs.size:=by simpa using z
   rw[z'];exact qAa _
 cases vs with
 |nil=>exact qA7 q1
 |cons hd1 tl1=>
  cases hd1 with
  |ref l=>
   cases tl1 with
   |nil=>
    obtain⟨⟨xs,hq⟩,q⟩:=q1;obtain⟨u,rfl,rx⟩:=zFY r1;cases rx;obtain⟨its,rv,pl,hz⟩:=I1.list hq;refine call_enumerate_list pl.isList fun h' he hit hsz hk=>?_
    refine wpAny_pyIter_enum he ?_;exact⟨s1.heap.objs.size+1,[s1.heap.objs.size+1,s1.heap.objs.size],_,_,H1,rfl,I1.kept (t':=s1.toks) hk,zK6 l _ _ hne,⟨⟨_,he⟩,hit⟩,fun b hb=>I1.fpOk (hb' b hb) (I1.hok.fresh (hb' b hb)),q⟩
   |cons _ _=>exact qA7 q1
  |str z=>
   cases tl1 with
   |nil=>
    obtain⟨u,rfl,rx⟩:=zFY r1;obtain⟨t,rfl⟩:=rx;refine call_enumerate_str fun h' he hit hsz hk=>?_
    refine wpAny_pyIter_enum he ?_;exact⟨s1.heap.objs.size+1,[s1.heap.objs.size+1,s1.heap.objs.size],_,_,H1,rfl,I1.kept (t':=s1.toks) hk,zOO z t _ _ hne,⟨qAc _,⟨_,he⟩,hit⟩,fun b hb=>I1.fpOk (hb' b hb) (I1.hok.fresh (hb' b hb)),q1⟩
   |cons _ _=>exact qA7 q1
  |_=>exact qA7 q1
end
end L2
namespace Mi
open PySem
noncomputable section
def listXD(ds:List Dt):Option Dt:=match ds with
 |[.str z]=>@ite _ (z.length<=100000) (qA3 _) (some (.lst (signsD z))) none
 |ds=>listD ds
def iEnX(e:AM):IM:=fun ρ=>zA4 (e ρ) fun vs=>match vs with
 |[.lst xs]=>okR (enumD 0 xs)
 |[.str z]=>okR (enumD 0 (signsD z))
 |_=>none
def sumD:List Dt->Option Dt
 |[.lst ds]=>match intsD ds with
  |some ns=>@ite _ (ns.length<=100000/\∀n∈ns,-1000000<=n/\n<=1000000) (qA3 _) (some (.int ns.sum)) none
  |none=>none
 |_=>none
noncomputable def sortI(ns:List Int):List Int:=ns.mergeSort fun a b=>decide (a<=b)
def sortD:List Dt->Option Dt
 |[.lst ds]=>match intsD ds with
  |some ns=>@ite _ (ns.length<64) (qA3 _) (some (.lst ((sortI ns).map .int))) none
  |none=>none
 |_=>none
end
end Mi
namespace L3
open PySem PySem.Spec
open L2 hiding Rep RepL
open Mi (Dt Xn R okR zA4 optR zA0 zAD zAH zA8 zAF Rh Sl Ro EM TM AM FM IM SM Tg Out zAS zAT zAY full frz frz1 frzAt)
section
variable[Kc]{mg:Str->Option Value}{E:XK}{L n k l:Nat}{te ta tb:TE}{e ea eb ma:EM}{t:TA}{m:AM}
theorem zZV{G:Hp}(z:Str):ItOk (Itw z) G (Mi.enumD 0 (Mi.signsD z)):=by
 intro i G1 H1 s1 s2;rw[zI0];have hl:(Mi.signsD z).length=z.cps.size:=by simp[Mi.signsD]
 rw[hl];refine⟨fun hi=>hi,fun hi=>hi,fun x H2 d hd hy=>?_⟩;obtain⟨T,c,rfl,hT,rfl,hc⟩:=hy;obtain⟨e,h1,rfl⟩:=zI1 _ 0 i d hd;have x1:=Ext.new s2 hT (.tup [.int i,.str ⟨#[c]⟩]);have he:e=.str ⟨#[c]⟩:=by
  unfold Mi.signsD at h1;rw[qAb,qDr,hc]at h1;cases h1;rfl
 subst he;refine⟨_,x1,T,_,rfl,zAI,_,_,rfl,?_,_,_,rfl,rfl,rfl⟩;show V.int (i:Int)=.int ((0+i:Nat):Int);rw[qBv]
theorem za8(A:DA mg E t m 0):DI mg E (zVE Kc.K t) (Mi.iEnX m) false:=by
 intro G H σ ρ Q s w p;refine A.step errI s w p fun ds vs G1 H1 S T _ fr o p1=>?_
 have r:=o.repL;cases ds with
 |nil=>exact qA7 p1
 |cons hd1 tl1=>
  cases hd1 with
  |lst es=>
   cases tl1 with
   |nil=>
    obtain⟨x,rfl,a,xs,rfl,ha,ra⟩:=zDX r;exact⟨⟨xs,SqL.of (fr.ext.in' _ _ ha)⟩,p1 _ G1 H1 fr.ext (zV8 ha ra)⟩
   |cons _ _=>exact qA7 p1
  |str z=>
   cases tl1 with
   |nil=>
    obtain⟨x,rfl,hx⟩:=zDX r
    cases(show x=.str z from hx)
    exact p1 _ G1 H1 fr.ext (zZV z)
   |cons _ _=>exact qA7 p1
  |_=>exact qA7 p1
theorem zTH{r:List V->Hp->VK->Prop}{f:List Dt->Option Dt}(h0:∀ds,(∀es,ds≠[.lst es])->f ds=none)(h1:∀es,Mi.intsD es=none->f [.lst es]=none)
  (h2:∀(mg:Str->Option Value)(E:XK)(G H:Hp)(a:Addr)(es:List Dt)(ns:List Int)(Q:VK),Same G H->Mi.intsD es=some ns->H a=some (.lst (ns.map V.int))->PostE mg E G H n (optR (f [.lst es])) Q->r [.ref a] H Q):CBi r f n:=by
 intro mg E G H ds vs Q s h p
 by_cases hd:∃es,ds=[.lst es]
 ·obtain⟨es,rfl⟩:=hd;obtain⟨x,rfl,a,xs,rfl,ha,ra⟩:=zDX h;cases ei:Mi.intsD es with
  |none=>rw[h1 es ei]at p;exact p.elim
  |some ns=>exact h2 mg E G H a es ns Q s ei (by rw[s _ _ ha,zLC ei ra]) p
 ·rw[h0 ds fun es z=>hd ⟨es,z⟩]at p;exact p.elim
theorem zWL{f:List Dt->Option Dt}(h1:f []=none)(h2:∀d,(∀es,d≠.lst es)->f [d]=none)(h3:∀a b r,f (a::b::r)=none):∀ds,(∀es,ds≠[.lst es])->f ds=none:=by
 intro ds h
 match ds,h with
 |[],_=>exact h1
 |[d],h=>exact h2 d fun es z=>h es (by rw[z])
 |a::b::r,_=>exact h3 a b r
theorem zOP(ns:List Int):(Mi.sortI ns).Perm ns:=qE5 ns _
theorem zQ2(ns:List Int):(Mi.sortI ns).Pairwise (·<=·):=by
 have:=List.pairwise_mergeSort (le:=fun a b:Int=>decide (a<=b)) (fun a b c h1 h2=>by simp at h1 h2 ⊢;lia) (fun a b=>by simp;lia) ns
 exact this.imp fun h=>by simpa using h
theorem zS5:CBi zUW Mi.sortD 1:=by
 refine zTH (zWL rfl (fun d h=>by cases d<;>first|rfl|exact absurd rfl (h _)) fun a b r=>by cases a<;>rfl) (fun es h=>by rw[Mi.sortD,h]) fun mg E G H a es ns Q s ei ha p=>?_
 rw[Mi.sortD,ei]at p;dsimp only at p
 split at p
 ·rename_i hz
  refine .inl ⟨ns,ha,hz,fun ms h1 h2 l hl=>?_⟩
  have:ms=Mi.sortI ns:=PySem.W.lks_uniq (h1.trans (zOP ns).symm) h2 (zQ2 ns)
  subst this;exact PostE.lst p (Ext.refl s) (zCZ _) hl
 ·exact p.elim
end
end L3
namespace L3
open PySem PySem.Spec
open L2 hiding Rep RepL
open Mi (Dt Xn R okR zA4 optR zA0 zAD zAH zA8 zAF Rh Sl Ro EM TM AM FM IM SM Tg Out zAS zAT zAY full frz frz1 frzAt)
section
variable[Kc]{G0 H0 S0:Hp}{σ:St}{ρ:Ro}{G H:Hp}{As:Nat->Addr->Prop}
end
section
variable[Kc]{mg:Str->Option Value}{E:XK}{L n k l:Nat}{te ta tb:TE}{e ea eb ma:EM}{t:TA}{m:AM}
end
end L3
namespace L2
open PySem PySem.Spec PyProof.Rows
section
variable{X:Cx}
end
end L2
namespace Mi
open PySem
noncomputable section
end
end Mi
namespace L3
open PySem PySem.Spec
open L2 hiding Rep RepL
open Mi (Dt Xn R okR zA4 optR zA0 zAD zAH zA8 zAF Rh Sl Ro EM TM AM FM IM SM Tg Out zAS zAT zAY full frz frz1 frzAt)
section
variable[Kc]{mg:Str->Option Value}{E:XK}{L n k l:Nat}{te ta tb:TE}{e ea eb ma:EM}{t:TA}{m:AM}
end
end L3
namespace L2
open PySem PySem.Spec PyProof.Rows
structure RoomH(k:Nat)(A:Around):Prop where
 dp:A.depth+3*k+5<recursionLimit
 un:A.units+16*k+200<cLine
structure FnOkH(P:Program)(w:World)(K:qA2)(mg:Str->Option Value)(base:Heap)(k:Nat)(f:Addr)(fd:FuncData)(ps:List Str)(sp:Sp):Prop where
 len:∀vs H Q E,sp vs H Q E->vs.length=ps.length
 run:∀(A:Around)(outer:List Env)(s:Shared)(H:Hp)(args:Args)(us:List Value)(vs:List V)(Q:VK)(E:XK),RoomH k A->Env0 P w K mg base A outer s H->BindsTo s fd args (ps.zip us)->Vals vs us->sp vs H Q E ->
  codeAny (model P w) A (.call (.ref f) args) (CR CX0 outer P w H s Q E) s
section
variable{X:Cx}{x:Str}{j k:Nat}{ps:List Str}{sp:Sp}{e:Expr}{es:List Expr}{t:TA}{p pos:Pos}
end
end L2
namespace L2
open PySem PySem.Spec PyProof.Rows
end L2
namespace Mi
end Mi
namespace L3
open PySem PySem.Spec
open L2 hiding Rep RepL
open Mi (Dt Xn R okR zA4 optR zA0 zAD zAH zA8 zAF Rh Sl Ro EM TM AM FM IM SM Tg Out zAS zAT zAY full frz frz1 frzAt)
section
variable[Kc]{mg:Str->Option Value}{E:XK}{L n n1:Nat}{t1 t2:TE}{e1 e2:EM}
end
end L3
namespace Mi
end Mi
namespace L3
open PySem PySem.Spec
open L2 hiding Rep RepL
open Mi (Dt Xn R okR zA4 optR zA0 zAD zAH zA8 zAF Rh Sl Ro EM TM AM FM IM SM Tg Out zAS zAT zAY full frz frz1 frzAt)
section
variable[Kc]{mg:Str->Option Value}{E:XK}{L n:Nat}{te:TE}{e:EM}
end
end L3
namespace L2
open PySem PySem.Spec PyProof.Rows
section
variable{X:Cx}{e m1:Expr}{te ts:TE}{pos p2:Pos}
end
end L2
namespace Mi
open PySem
noncomputable section
end
end Mi
namespace L3
open PySem PySem.Spec
open PyProof.Rows (risingS sortedS ltCps_eq)
open L2 hiding Rep RepL
open Mi (Dt Xn R okR zA4 optR zA0 zAD zAH zA8 zAF Rh Sl Ro EM TM AM FM IM SM OM Tg Out zAS zAT zAY full frz frz1 frzAt)
section
variable[Kc]{mg:Str->Option Value}{E:XK}{L n k l:Nat}{te ta tb:TE}{e ea eb ma:EM}{t:TA}{m:AM}
end
end L3
namespace L2
open PySem PySem.Spec PyProof.Rows
section
variable{X:Cx}{x:Str}{C:Addr}{p pos:Pos}
end
def zaX(K:qA2)(fl:List Str):Sp:=fun vs H Q _=>∃(x C dx:Addr)(ys:List V),vs=.ref x::ys/\ys.length=fl.length/\H x=some (.ins C dx [])/\Cls K C/\(∀f∈fl,zVV K C f)/\Q .non (upd H x (.ins C dx (fl.zip ys)))
section
variable{X:Cx}{m:Str}{k:Nat}{E:XK}{o e:Expr}{es:List Expr}{ta:TE}{t:TA}{apos pos:Pos}{tb:List (Addr×Sp)}
end
structure OIs(K:qA2)(C:Addr):Prop where
 cl:Cls K C
 ha:qAj K (.ref C) "__class__" = some (some (.builtin "object.__class__"))
 hn:qCb K (.builtin "object.__class__") "__get__" = some (some (.builtin "getset_descriptor.__get__"))
 htk:qEz K (.builtin "object.__class__")=some true
 hm:qDy K C (.type "object")=some true
end L2
namespace Mi
open PySem
noncomputable section
noncomputable def svD:Dt->Option Sv
 |.int i=>some (.i i)
 |.str x=>some (.s x)
 |_=>none
def svsD:List Dt->Option (List Sv)
 |[]=>some []
 |d::r=>match svD d,svsD r with
  |some v,some vs=>some (v::vs)
  |_,_=>none
noncomputable def dSv:Sv->Dt
 |.i n=>.int n
 |.s x=>.str x
def eNew(c:Str)(fl:List Str)(am:AM):EM:=fun ρ=>zA4 (am ρ) fun ds=>match svsD ds with
 |some vs=>if vs.length=fl.length then okR (.ins c (fl.zip vs))else none
 |none=>none
def zbJ(c:Str):EM:=fun _=>okR (.ins c [])
def eFld(hs:List Str)(f:Str)(e:EM):EM:=fun ρ=>zA4 (e ρ) fun d=>match d with
 |.ins c fs=>if c∈hs then(match fs.lookup f with|some v=>okR (dSv v)|none=>none)else none
 |_=>none
def zbK(tb:List (Str×FM))(m:Str)(e:EM)(am:AM):EM:=fun ρ=>zA4 (e ρ) fun d=>match d with
 |.ins c fs=>match tb.lookup c with
  |some g=>match fs.lookup m with
   |none=>zA4 (am ρ) fun ds=>g (d::ds)
   |some _=>none
  |none=>none
 |_=>none
def eIsO(ys ns:List Str)(e:EM):EM:=fun ρ=>zA4 (e ρ) fun d=>match d with
 |.ins c _=>if c∈ys then okR (.bl true)else if c∈ns then okR (.bl false)else none
 |_=>none
end
end Mi
namespace L3
open PySem PySem.Spec
open L2 hiding Rep RepL
open Mi (Dt Xn R okR zA4 optR zA0 zAD zAH zA8 zAF Rh Sl Ro EM TM AM FM IM SM OM Tg Out zAS zAT zAY full frz frz1 frzAt)
structure OCls(K:qA2)(mg:Str->Option Value)(c:Str)(C:Addr):Prop where
 cl:clK K c=some C
 gm:mg c=some (.ref C)
 is:OIs K C
structure ONew(K:qA2)(mg:Str->Option Value)(c:Str)(C:Addr):Prop extends OCls K mg c C where
 mks:qGi K C=true
 ini:qAj K (.ref C) "__init__" = some (some (.builtin "object.__init__"))
 kp:qB0 K (.ref C)=true
structure OIni(P:Program)(w:World)(K:qA2)(mg:Str->Option Value)(base:Heap)(c:Str)(fl:List Str)(C:Addr):Prop extends OCls K mg c C where
 na:∀f∈fl,zVV K C f
 ini:∃fI fd ps,Mk K C fI/\FnOk P w K mg base (CXe P w) 1 fI fd ps (zaX K fl)/\Binds K fd ps []
section
variable{X:Cx}{c:Str}{fl:List Str}{C:Addr}{k:Nat}{E:XK}{e:Expr}{es:List Expr}{t:TA}{p pos:Pos}
end
section
variable[Kc]{mg:Str->Option Value}{E:XK}{L n k l:Nat}{te ta tb:TE}{e ea eb ma:EM}{t:TA}{m:AM}
end
end L3
namespace Mi
open PySem
noncomputable section
end
end Mi
namespace L2
open PySem PySem.Spec PyProof.Rows
section
variable{X:Cx}{m:Str}{k:Nat}{o e:Expr}{es:List Expr}{ta:TE}{t:TA}{apos pos:Pos}{tb:List (Addr×Sp)}
end
section
variable{prog:Program}{w:World}{A:Around}{E:Value->Shared->Prop}{s:Shared}
end
section
variable{X:Cx}{pos:Pos}
end
end L2
namespace L3
open PySem PySem.Spec
open L2 hiding Rep RepL
open Mi (Dt Xn R okR zA4 optR zA0 zAD zAH zA8 zAF Rh Sl Ro EM TM AM FM IM SM OM Tg Out zAS zAT zAY full frz frz1 frzAt)
section
variable[Kc]{mg:Str->Option Value}{E:XK}{L n k l:Nat}{te ta tb:TE}{e ea eb ma:EM}{t:TA}{m:AM}
end
end L3
namespace L2
open PySem PySem.Spec PyProof.Rows
section
variable{prog:Program}{w:World}{A:Around}{E:Value->Shared->Prop}{s:Shared}
end
end L2
namespace L2
open PySem PySem.Spec PyProof.Rows
section
variable{prog:Program}{w:World}{A:Around}{R:Result->Shared->Prop}{I:Addr}{fp wr:List Addr}{G:Array GenState->Array GenState->Prop}{n:Nat}{St:Nat->Shared->Prop}{led:Bool}{z:Str}
end
end L2
namespace PySem
open PyProof.Rows
end PySem
namespace L2
open PySem PySem.Spec PyProof.Rows
section
variable{prog:Program}{w:World}{A:Around}{E:Value->Shared->Prop}{s:Shared}
end
end L2
namespace Mi
open PySem
noncomputable section
noncomputable def ded:List Nat->List Nat
 |[]=>[]
 |a::r=>if a∈ded r then ded r else a::ded r
def sosL(l:List Nat):List Nat:=(ded l).mergeSort fun a b=>decide (a<=b)
theorem zJS(x:Nat):∀l:List Nat,x∈ded l↔x∈l
 |[]=>by simp[ded]
 |a::r=>by
  unfold ded
  split
  ·rename_i h
   rw[zJS x r,qAk];constructor
   ·exact .inr
   ·rintro(rfl|h')
    ·exact(zJS x r).mp h
    ·exact h'
  ·rw[qAk,qAk,zJS x r]
theorem zI6:∀l:List Nat,(ded l).Nodup
 |[]=>by simp[ded]
 |a::r=>by
  unfold ded
  split
  ·exact zI6 r
  ·rename_i h
   exact qB1.mpr ⟨h,zI6 r⟩
theorem zQ1(x:Nat)(l:List Nat):x∈sosL l↔x∈l:=by
 unfold sosL;rw[(qE5 _ _).mem_iff,zJS]
theorem zQ0(l:List Nat):(sosL l).Nodup:=by
 unfold sosL;exact(qE5 _ _).nodup_iff.mpr (zI6 l)
end
end Mi
namespace L2
open PySem PySem.Spec PyProof.Rows
section
variable{X:Cx}{pins:List (Addr×Obj)}{σ:List (Option V)}{H:Hp}{s:Shared}
end
end L2
namespace L3
open PySem PySem.Spec
open PyProof.Rows (risingS sortedS ltCps_eq)
open L2 hiding Rep RepL
open Mi (Dt Xn R okR zA4 optR zA0 zAD zAH zA8 zAF Rh Sl Ro EM TM AM FM IM SM OM Tg Out zAS zAT zAY full frz frz1 frzAt)
section
variable[Kc]{mg:Str->Option Value}{E:XK}{L n k l:Nat}{te ta tb:TE}{e ea eb ma:EM}{t:TA}{m:AM}
end
end L3
namespace Mi
open PySem
noncomputable section
end
end Mi
namespace PySem
open Builtin Builtin.Str PySem.Spec
end PySem
namespace L2
open PySem PySem.Spec PyProof.Rows
section
variable{X:Cx}{pins:List (Addr×Obj)}{σ:List (Option V)}{H:Hp}{s:Shared}
end
end L2
namespace L3
open PySem PySem.Spec
open PyProof.Rows (risingS sortedS ltCps_eq)
open L2 hiding Rep RepL
open Mi (Dt Xn R okR zA4 optR zA0 zAD zAH zA8 zAF Rh Sl Ro EM TM AM FM IM SM OM Tg Out zAS zAT zAY full frz frz1 frzAt)
section
variable[Kc]{mg:Str->Option Value}{E:XK}{L n k l:Nat}{te ta tb:TE}{e ea eb ma:EM}{t:TA}{m:AM}
end
end L3
namespace Mi
open PySem
noncomputable section
end
end Mi
namespace L2
open PySem PySem.Spec PyProof.Rows
section
variable{prog:Program}{w:World}{A:Around}{E:Value->Shared->Prop}{s:Shared}
end
section
variable{X:Cx}{pins:List (Addr×Obj)}{σ:List (Option V)}{H:Hp}{s:Shared}
end
end L2
namespace L3
open PySem PySem.Spec
open L2 hiding Rep RepL
open Mi (Dt Xn R okR zA4 optR zA0 zAD zAH zA8 zAF Rh Sl Ro EM TM AM FM IM SM OM Tg Out zAS zAT zAY full frz frz1 frzAt)
section
variable[Kc]{mg:Str->Option Value}{E:XK}{L n k l:Nat}{te ta tb:TE}{e ea eb ma:EM}{t:TA}{m:AM}
end
end L3
namespace L2
open PySem PySem.Spec
structure Dr(p:Prop):Prop where
 h:p
section
variable{X:Cx}
theorem zU6{st:Stmt}{rest:List Stmt}{t u:TS}(h1:Dr (PS X st t))(h2:Dr (PSs X rest u)):Dr (PSs X (st::rest) (tSeq t u)):=⟨zA3 h1.h h2.h⟩
theorem zXB{st:Stmt}{t:TS}(h1:Dr (PS X st t)):Dr (PSs X [st] t):=⟨zAE h1.h⟩
theorem zXC{pos:Pos}{i:Nat}{x:Str}{e:Expr}{te:TE}{pos':Pos}(hN:X.N.Nodup)(hi:X.N[i]?=some x)(hx:Loc X.env.scope x)(he:Dr (PE X e te))(hs:swapsWith e (some (.Name x pos')) pos.line X.env=pure false:=by rfl)(hf:X.fn x=true\/X.env.scope.names.lookup x=some .local:=by first|exact .inl rfl|exact .inr rfl|assumption) :
  Dr (PS X (.Assign [.Name x pos'] e pos) (tAsg te (zHY i))):=⟨zUZ hN hi hx he.h hs hf⟩
theorem zaA{a b:Expr}{ta tb:TE}{pos:Pos}{r:R2}(hr:IxR X r)(ha:Dr (PE X a ta))(hb:Dr (PE X b tb))(hp:zSG b):Dr (PE X (a.Subscript b pos) (tOp r ta tb)):=⟨zB4 hr ha.h hb.h hp⟩
theorem zXG{es:List Expr}{t:TA}{pos:Pos}(h:Dr (PA X es t)):Dr (PE X (.List es pos) (tLst t)):=⟨zBH h.h⟩
theorem zBW{e:Expr}{es:List Expr}{te:TE}{t:TA}(h1:Dr (PE X e te))(h2:Dr (PA X es t))(hs:starEach (e::es) X.env=(false,eval e X.env)::starEach es X.env:=by rfl):Dr (PA X (e::es) (zG0 te t)):=⟨zA1 h1.h h2.h hs⟩
theorem zJU:Dr (PA X [] tNil):=⟨zA5⟩
theorem zCN{i:Int}{j:Nat}{pos:Pos}:Dr (PE X (.Constant (.int i) j pos) (tC (.int i))):=⟨zA9⟩
end
end L2
namespace Mi
open PySem
noncomputable section
end
end Mi
namespace L2
open PySem PySem.Spec PyProof.Rows
structure Walk1(prog:Program)(w:World)(A:Around)(I:Addr)(fp:List Addr)(n:Nat)(P:Nat->Value->Prop)(St:Nat->Heap->Prop):Prop where
 me:I∈fp
 frame:∀i h h',St i h->(∀b∈fp,∀o,h.get? b=some o->h'.get? b=some o)->St i h'
 item:∀i (s:Shared) (Q:Option Value->Shared->Prop) (E:Value->Shared->Prop),i<n->St i s.heap ->
  (∀v h' tk,P i v->St (i+1) h'->(∀b o,b≠I->s.heap.get? b=some o->h'.get? b=some o)->Q (some v) { s with heap:=h',toks:=tk })->wpAny (model prog w) A (pyNext (.ref I)) Q E s
 done:∀(s:Shared)(Q:Option Value->Shared->Prop)(E:Value->Shared->Prop),St n s.heap ->
  (∀h' tk,(∀b o,b≠I->s.heap.get? b=some o->h'.get? b=some o)->(∃u,h'.get? I=some u)->Q none { s with heap:=h',toks:=tk })->wpAny (model prog w) A (pyNext (.ref I)) Q E s
 self:∀i (s:Shared) (Q:Value->Shared->Prop) (E:Value->Shared->Prop),St i s.heap->Q (.ref I) s->wpAny (model prog w) A (pyIter (.ref I)) Q E s
structure Once(prog:Program)(w:World)(T:String)(r:Addr)(fp:List Addr)(n:Nat)(P:Nat->Value->Prop)(St:Nat->Heap->Prop):Prop where
 ty:∀(s:Shared) i,St i s.heap->s.TypeIs (.ref r) T
 nl:(Value.type T==Value.type "list")=false
 nt:(Value.type T==Value.type "tuple")=false
 me:r∈fp
 hint:∀(A:Around)(E:Value->Shared->Prop)(s:Shared)(Q:Bool->Shared->Prop),A.handled=none->St 0 s.heap->(∀b tk,Q b { s with toks:=tk })->wpAny (model prog w) A (Builtin.List.listLengthHint (.ref r)) Q E s
 walk:∀(A:Around),A.handled=none->Walk1 prog w A r fp n P St
section
variable{prog:Program}{w:World}{A:Around}{E:Value->Shared->Prop}{s:Shared}{T:String}{r:Addr}{fp:List Addr}{n:Nat}{P:Nat->Value->Prop}{St:Nat->Heap->Prop}
end
section
variable{prog:Program}{w:World}{A:Around}{E:Value->Shared->Prop}{s:Shared}{x:Str}{t:Tok}
end
end L2
namespace L2
open PySem PySem.Spec PyProof.Rows
section
variable{X:Cx}{pins:List (Addr×Obj)}{σ:List (Option V)}{H:Hp}{s:Shared}
end
end L2
namespace L3
open PySem PySem.Spec
open L2 hiding Rep RepL
open Mi (Dt Xn R okR zA4 optR zA0 zAD zAH zA8 zAF Rh Sl Ro EM TM AM FM IM SM OM Tg Out zAS zAT zAY full frz frz1 frzAt)
section
variable[Kc]{mg:Str->Option Value}{E:XK}{L n k l:Nat}{te ta tb:TE}{e ea eb ma:EM}{t:TA}{m:AM}
end
end L3
namespace Mi
open PySem
noncomputable section
end
end Mi
namespace L3
open PySem PySem.Spec
open L2 hiding Rep RepL
open Mi (Dt Xn R okR zA4 optR zA0 zAD zAH zA8 zAF Rh Sl Ro EM TM AM FM IM SM OM Tg Out zAS zAT zAY full frz frz1 frzAt)
section
variable[Kc]{mg:Str->Option Value}{E:XK}{L n k l:Nat}
end
end L3
namespace Mi
open PySem
noncomputable section
end
end Mi
namespace PySem
open Builtin Builtin.Str PySem.Spec
end PySem
namespace L2
open PySem PySem.Spec PyProof.Rows
section
variable{X:Cx}{pins:List (Addr×Obj)}{σ:List (Option V)}{H:Hp}{s:Shared}
end
end L2
namespace L3
open PySem PySem.Spec
open L2 hiding Rep RepL
open Mi (Dt Xn R okR zA4 optR zA0 zAD zAH zA8 zAF Rh Sl Ro EM TM AM FM IM SM OM Tg Out zAS zAT zAY full frz frz1 frzAt)
section
variable[Kc]{mg:Str->Option Value}{E:XK}{L n k l:Nat}
end
end L3
namespace PySem
open Sem (wp)
theorem zL3:typeLookup (.type "list") "keys" = pure none:=by rw[typeLookup_type,builtinLookup_eq_fast];kernel_rfl
theorem zKX{prog:Program}{w:World}{A:Around}{E:Value->Shared->Prop}{s:Shared}{a:Addr}{o:Obj}{xs:Array Value}{k:Nat}{Q:Option Value->Shared->Prop}
  (hx:s.heap.get? a=some o) (hc:o.cls=.type "list") (hdat:o.data=.seq xs k) (hd:o.dict=none) (hA:A.handled=none)
  (h:∀h' tk,(∀b ob,s.heap.get? b=some ob->h'.get? b=some ob)->Q none { s with heap:=h',toks:=tk }) :
  wpAny (model prog w) A (getAttr? (.ref a) "keys") Q E s:=by
 obtain⟨c,dct,dat,sl⟩:=o;simp only at hc hdat hd;subst hc hdat hd;obtain⟨hp,g,d,tk,os⟩:=s;have hT:∀tk',(⟨hp,g,d,tk',os⟩:Shared).TypeIs (.ref a) "list":=fun _=>⟨_,hx,rfl⟩
 have f1:=sub_AttributeError;have f3:=F.slot_list_getattribute.lookup;have f4:=F.slot_list_getattribute.bind (.ref a);have f5:=am_list_getattr_none;unfold getAttr? getAttrBy? getAttrBy
 repeat (any_goals (first|assumption|exact hT _|((with_reducible show wpAny _ _ (call (Value.builtin "list.__getattribute__") _ _) _ _ _);refine call_meets F.slot_list_getattribute (hT _) am_entry_list_getattribute (F.args_list_getattribute_2 _ _) (meets_getattribute_miss_list a xs k sl "keys" _ zL3 (by decide +kernel) (by size_fits)) ⟨hx,hA,fun h' tk' e hx'=>?_⟩)|wp_step))
 obtain⟨t',u',he⟩:=hx'.there;have hTe:(⟨h',g,d,tk',os⟩:Shared).TypeIs (.ref e) "AttributeError":=⟨_,he,rfl⟩
 show wpAny _ _ (getattributeRaised _ _ _ _ _ _ _) _ _ _;unfold getattributeRaised
 repeat (any_goals (first|assumption|wp_step))
 exact h h' tk' hx'.keeps
theorem zE6:entryFor table "dict.update.loop" = some Builtin.«dict.update.loop»:=entryFor_of_tree (by kernel_rfl)
theorem zC0:plainId "dict.update.loop" = true:=by decide +kernel
section
variable{prog:Program}{w:World}{A:Around}{K:Type}[DecidableEq K]{knd:KeyKind prog w K}
def zSH(knd:KeyKind prog w K)(h:Heap)(v:Value)(p:K×Value):Prop:=∃t o n key,v=.ref t/\h.get? t=some o/\o.cls=.type "tuple"/\o.data=.seq #[key,p.2] n/\knd.is p.1 key=true
theorem zSL{R:Result->Shared->Prop}(hh:A.handled=none){d l it:Addr}(hdl:d≠l)(hdi:d≠it)(hli:l≠it){items:Array Value}(ps:List (K×Value))(hps:ps.length=items.size)(result:Value) :
  ∀(n i:Nat)(s:Shared)(kvs:List (K×Value)),items.size-i=n->i<=items.size->kvs.length+n<=100000->s.heap.DictOf knd d kvs->s.heap.IsListIter it l i->s.heap.IsList l items ->
  (∀(j:Nat) v p,items[j]?=some v->ps[j]?=some p->zSH knd s.heap v p) ->
  (∀h' tk,h'.DictOf knd d ((ps.drop i).foldl (fun m p=>stored m p.1 p.2) kvs)->(∀b o,b≠d->b≠it->s.heap.get? b=some o->h'.get? b=some o)->(∃o,h'.get? d=some o)->R (.ok (.ret result)) { s with heap:=h',toks:=tk }) ->
  codeAny (model prog w) A (.builtin "dict.update.loop" ⟨[.ref d,.ref it,rawInt i,result],[]⟩) R s:=by
 intro n
 induction n with
 |zero=>
  intro i s kvs hn hi hz hd hit hl hp hR;have hin:i=items.size:=by lia
  refine codeAny_builtin zE6 ?_;rw[Around.under_plainId zC0 _];show wpAny _ A.in1 (pyNext (.ref it) >>= _) _ _ s;refine wpAny_bind (wpAny_pyNext_list_end hh hit hl (by rw[hin];simp) fun h' hx=>?_);show wpAny _ A.in1 (Builtin.Dict.addKeywords d [] >>= _) _ _ _;refine wpAny_bind (wpAny_of_eq (a:=()) rfl ?_);have hd':h'.DictOf knd d kvs:=by
   obtain⟨o,es,ep,ho,r⟩:=hd;exact⟨o,es,ep,hx _ _ hdi ho,r⟩
  refine wpAny_pure (hR h' s.toks ?_ (fun b o _ hb e=>hx b o hb e) ?_)
  ·rw[hin,<- hps,qEt];exact hd'
  ·obtain⟨o,es,ep,ho,r⟩:=hd';exact⟨o,ho⟩
 |succ n ih=>
  intro i s kvs hn hi hz hd hit hl hp hR;have hlt:i<items.size:=by lia
  have hx:items[i]?=some items[i]:=qEc hlt;have hpi:ps[i]?=some (ps[i]'(by lia)):=qA1 (by lia);obtain⟨t,o,m,key,e1,e2,e3,e4,e5⟩:=hp i _ _ hx hpi;refine codeAny_builtin zE6 ?_;rw[Around.under_plainId zC0 _];show wpAny _ A.in1 (pyNext (.ref it) >>= _) _ _ s;refine wpAny_bind (wpAny_pyNext_list_item hit hl hx fun h1 hit1 hs1=>?_);rw[e1];obtain⟨oi,hoi,hci,hdi'⟩:=id hit;have hti:t≠it:=fun z=>by
   rw[z,hoi]at e2;cases e2;rw[hci]at e3;exact absurd e3 (by decide)
  have htd:t≠d:=fun z=>by
   obtain⟨od,es,ep,ho,hex,hdd,_⟩:=hd;rw[z,ho]at e2;cases e2;rw[hdd]at e4;cases e4
  have e2':h1.get? t=some o:=(hs1.2 t hti).trans e2;have hd1:h1.DictOf knd d kvs:=by
   obtain⟨o,es,ep,ho,r⟩:=hd;exact⟨o,es,ep,(hs1.2 d hdi).trans ho,r⟩
  show wpAny _ A.in1 (holding [.ref t] _ >>= _) _ _ _;refine wpAny_bind (wpAny_holding ?_);refine wpAny_bind (wpAny_tryCatch ?_);unfold Builtin.Dict.pairItems;refine wpAny_bind (wpAny_typeOf (T:="tuple") ⟨o,e2',e3⟩ ?_);rw[if_pos (by decide)];refine wpAny_bind (wpAny_seqItems e2' e4 ?_);refine wpAny_pure ?_;show wpAny _ A.in1 (holding [key,(ps[i]'(by lia)).2] (dictSet d key (ps[i]'(by lia)).2)) _ _ _;refine wpAny_holding (wpAny_dictSet_pairs e5 hd1 (fun h2 hd2 hs2=>?_) (by rw[sizeLine_eq];lia));refine wpAny_pure ⟨plainId_quiet zC0 _,?_⟩;have hit2:h2.IsListIter it l (i+1):=hit1.at fun o e=>(hs2.2 it hdi.symm).trans e
  have hl2:h2.IsList l items:=hl.at fun o e=>(hs2.2 l hdl.symm).trans ((hs1.2 l hli).trans e)
  have kp:∀b o,b≠d->b≠it->s.heap.get? b=some o->h2.get? b=some o:=fun b o hb hb2 e=>(hs2.2 b hb).trans ((hs1.2 b hb2).trans e)
  refine ih (i+1) _ (stored kvs (ps[i]'(by lia)).1 (ps[i]'(by lia)).2) (by lia) hlt ?_ hd2 hit2 hl2 (fun j v p h1 h2=>?_) fun h' tk hd' hk he=>?_
  ·have:=stored_length_le kvs (ps[i]'(by lia)).1 (ps[i]'(by lia)).2
   lia
  ·obtain⟨t',o',m',key',f1,f2,f3,f4,f5⟩:=hp j v p h1 h2;refine⟨t',o',m',key',f1,kp _ _ (fun z=>?_) (fun z=>?_) f2,f3,f4,f5⟩
   ·obtain⟨od,es,ep,ho,hex,hdd,_⟩:=hd;rw[z,ho]at f2;cases f2;rw[hdd]at f4;cases f4
   ·rw[z,hoi]at f2;cases f2;rw[hci]at f3;exact absurd f3 (by decide)
  ·refine hR h' tk ?_ (fun b o hb hb2 e=>hk b o hb hb2 (kp b o hb hb2 e)) he;rw[qB4 (show i<ps.length by lia)];exact hd'
theorem zSM{E:Value->Shared->Prop}{s:Shared}{Q:Value->Shared->Prop}(hh:A.handled=none){d l:Addr}(hdl:d≠l){kvs:List (K×Value)}{items:Array Value}(ps:List (K×Value))(hps:ps.length=items.size)(hz:kvs.length+items.size<=100000)
  (hd:s.heap.DictOf knd d kvs) {o:Obj} {n:Nat} (ho:s.heap.get? l=some o) (hc:o.cls=.type "list") (hod:o.dict=none) (hdat:o.data=.seq items n)
  (hp:∀(j:Nat) v p,items[j]?=some v->ps[j]?=some p->zSH knd s.heap v p)
  (hQ:∀h' tk,h'.DictOf knd d (ps.foldl (fun m p=>stored m p.1 p.2) kvs)->(∀b o,b≠d->s.heap.get? b=some o->h'.get? b=some o)->(∃o,h'.get? d=some o)->Q .none { s with heap:=h',toks:=tk }) :
  wpAny (model prog w) A (call (.builtin "dict.update") [.ref d,.ref l]) Q E s:=by
 refine wpAny_call (codeAny_call_builtin F.slot_dict_update.plain F.entry_dict_update (F.slot_dict_update.check _ _ _ _ _ _ _ _ hd.typeIs (F.args_dict_update_2 _ _) ?_));unfold Builtin.«dict.update»;refine wpAny_bind ?_;unfold Builtin.Dict.selfAndRest;refine wpAny_bind (wpAny_notOrdered_dict hd.typeIs ?_);show wpAny _ _ (pure (d,[Value.ref l])) _ _ s;refine wpAny_pure ?_;show wpAny _ A.in1 (Builtin.Dict.updateFrom "dict.update" d (.ref l) [] .none) _ _ s;unfold Builtin.Dict.updateFrom;refine wpAny_bind (wpAny_typeOf (T:="list") ⟨o,ho,hc⟩ ?_);rw[if_pos (by decide)];refine wpAny_bind (zKX ho hc hdat hod hh fun h1 tk1 hk1=>?_);show wpAny _ A.in1 (rule _ >>= fun _=>pyIter (.ref l) >>= _) _ _ _;refine wpAny_bind (wpAny_rule ?_);have hl1:h1.IsList l items:=⟨o,hk1 _ _ ho,hc,n,hdat⟩
 refine wpAny_bind (wpAny_pyIter_list hl1 ?_);have hd1:h1.DictOf knd d kvs:=by
  obtain⟨o,es,ep,ho,r⟩:=hd;exact⟨o,es,ep,hk1 _ _ ho,r⟩
 have hdl1:d<h1.objs.size:=by
  obtain⟨o,es,ep,ho,r⟩:=hd1;exact Heap.lt_size ho
 have hll1:l<h1.objs.size:=Heap.lt_size (hk1 _ _ ho);refine wpAny_pure ⟨plainId_quiet zC0 _,?_⟩;refine zSL (knd:=knd) (l:=l) (it:=h1.objs.size) (items:=items) hh hdl (qAr hdl1) (qAr hll1) ps hps .none items.size 0 _ kvs rfl (qAc _) hz ?_ ⟨_,Heap.get?_push_size _ rfl,rfl,rfl⟩ (hl1.at fun o e=>Heap.get?_push_of_some _ e) (fun j v p a1 a2=>?_) fun h' tk hd' hk he=>?_
 ·obtain⟨o,es,ep,ho,r⟩:=hd1;exact⟨o,es,ep,Heap.get?_push_of_some _ ho,r⟩
 ·obtain⟨t',o',m',key',f1,f2,f3⟩:=hp j v p a1 a2;exact⟨t',o',m',key',f1,Heap.get?_push_of_some _ (hk1 _ _ f2),f3⟩
 ·exact hQ h' tk hd' (fun b o hb e=>hk b o hb (qAr (Heap.lt_size (hk1 _ _ e))) (Heap.get?_push_of_some _ (hk1 _ _ e))) he
end
end PySem
namespace Mi
open PySem
noncomputable section
noncomputable def kyD:Dt->Option (Sum Int Str)
 |.int i=>some (.inl i)
 |.str x=>some (.inr x)
 |_=>none
noncomputable def swD:Dt->Option Sw
 |.non=>some .non
 |.bl b=>some (.bl b)
 |.int i=>some (.int i)
 |.str x=>some (.str x)
 |_=>none
noncomputable def swT:Sw->Dt
 |.non=>.non
 |.bl b=>.bl b
 |.int i=>.int i
 |.str x=>.str x
noncomputable def getW(kvs:List (Sum Int Str×Sw))(k:Sum Int Str):Option Sw:=(kvs.find? fun p=>decide (p.1=k)).map (·.2)
noncomputable def putW(kvs:List (Sum Int Str×Sw))(k:Sum Int Str)(v:Sw):List (Sum Int Str×Sw):=
 if(kvs.any fun p=>decide (p.1=k))=true then kvs.map (fun p=>if p.1=k then(p.1,v)else p)else kvs++[(k,v)]
def eDct0:EM:=fun _=>okR (.dct [])
def dinD(ng:Bool)(x y:Dt):Option Dt:=match y with
 |.dct kvs=>match kyD x with
  |some k=>some (.bl (if ng=true then !(getW kvs k).isSome else(getW kvs k).isSome))
  |none=>none
 |_=>none
def eDGet(d k x:EM):EM:=fun ρ=>zA4 (d ρ) fun D=>match D with
 |.dct kvs=>zA4 (k ρ) fun y=>zA4 (x ρ) fun z=>match kyD y with
  |some q=>if z.dep=0 then okR (match getW kvs q with|some w=>swT w|none=>z)else none
  |none=>none
 |_=>none
def sDput(i:Nat)(e1 e2:EM):SM:=fun ρ=>zA4 (e2 (full ρ)) fun v=>match ρ[i]? with
 |some (some (.dct kvs,k+1))=>zA4 (e1 (full ρ)) fun y=>match kyD y,swD v with
  |some q,some u=>@ite _ (kvs.length<=100000) (qA3 _) (okR (.nx (ρ.set i (some (.dct (putW kvs q u),k+1))))) none
  |_,_=>none
 |_=>none
def pairsD:List Dt->Option (List (Sum Int Str×Sw))
 |[]=>some []
 |.tup [a,b]::r=>match kyD a,swD b,pairsD r with
  |some k,some v,some q=>some ((k,v)::q)
  |_,_,_=>none
 |_::_=>none
def sDupd(i:Nat)(e:EM):SM:=fun ρ=>match ρ[i]? with
 |some (some (.dct kvs,k+1))=>zA4 (e (full ρ)) fun d=>match d with
  |.lst ds=>match pairsD ds with
   |some ps=>@ite _ (kvs.length+ps.length<=50000) (qA3 _) (okR (.nx (ρ.set i (some (.dct (ps.foldl (fun m p=>putW m p.1 p.2) kvs),k+1))))) none
   |none=>none
  |_=>none
 |_=>none
end
end Mi
namespace L2
open PySem PySem.Spec PyProof.Rows
section
variable{X:Cx}
noncomputable def tMD(r:V->List V->Hp->VK->Prop)(to:TE)(t:TA):TE:=fun σ H Q=>to σ H fun x H1=>match x with
 |.ref p=>(∃kvs,H1 p=some (.dK kvs))/\t σ H1 fun vs H2=>r x vs H2 Q
 |_=>False
variable{o e:Expr}{es:List Expr}{to:TE}{t:TA}{name:Str}{apos cpos:Pos}{T id:String}{r:V->List V->Hp->VK->Prop}
theorem zb5(pa:PlainAttrs "dict")(slot:Slot "dict" name id)(hty:typeOf (.builtin id)=pure (.type "method_descriptor"))(hm:MtR X id r)(ho:PE X o to)(ha:PA X (e::es) t)
  (hbase:attributeBase o name X.env (eval o X.env)=eval o X.env:=by rfl)
  (hfew:((backTo cpos (starEach (e::es) X.env)).all (fun x=>!x.1)&&(backToKw cpos (keywordEach [] X.env)).all (fun x=>x.1.isSome)
   && decide ((e::es).length+([]:List Keyword).length+(if([]:List Keyword).isEmpty then 0 else 1)<30))=true:=by rfl)
  (hline:(apos.endLine==cpos.line)=true:=by rfl) (hs:starEach (e::es) X.env=(false,eval e X.env)::starEach es X.env:=by rfl) (hplain:(backTo cpos (starEach es X.env)).any (·.1)=false:=by rfl) :
  PE X (.Call (.Attribute o name apos) (e::es) [] cpos) (tMD r to t):=by
 intro pins s σ H Q I h;refine wpAny_Call_method_late hbase hfew hline rfl (thn (ho pins s σ H _ I h) fun v s1 z0=>?_);obtain⟨x,H1,I1,r1,q1⟩:=z0;cases x with
 |ref p=>?_
 |_=>exact qA7 q1
 obtain⟨⟨kvs,hx⟩,q1⟩:=q1;cases r1;obtain⟨h1,h2,_⟩:=zVB I1 (.inl ⟨kvs,.inl hx⟩);refine⟨"dict",id,pa,slot,hty,h1,h2,?_⟩;have hA:=ha cpos pins s1 σ H1 _ I1 q1;rw[hs]at hA ⊢;refine Calls.callWith_builtin (by show(false||(backTo cpos (starEach es X.env)).any (·.1))=false;rw[hplain]<;>rfl) (Calls.evalArgs_plain ?_);exact thn hA fun us s2 ⟨vs,H2,I2,r2,q2⟩=>hm pins s2 σ H2 (.ref p) vs _ us Q I2 rfl r2 q2
def zXO(H:Hp)(x:V)(p:Key×V):Prop:=∃t,x=.ref t/\H t=some (.tup [kV p.1,p.2])
def updM:V->List V->Hp->VK->Prop:=fun x vs H Q=>match x,vs with
 |.ref d,[.ref l]=>∃(kvs:List (Key×V))(xs:List V)(ps:List (Key×V)),H d=some (.dK kvs)/\H l=some (.lst xs)/\xs.length=ps.length/\(∀(j:Nat) x p,xs[j]?=some x->ps[j]?=some p->zXO H x p)/\kvs.length+ps.length<=50000 /\
   Q .non (upd H d (.dK (ps.foldl (fun m p=>putK m p.1 p.2) kvs)))
 |_,_=>False
theorem zR9:∀{ps:List (Key×V)}{qs:List (Key×Value)}{kvs:List (Key×V)}{vs:List (Key×Value)},KV kvs vs->Paired (fun(p:Key×V)(q:Key×Value)=>p.1=q.1/\RelV p.2 q.2) ps qs->KV (ps.foldl (fun m p=>putK m p.1 p.2) kvs) (qs.foldl (fun m p=>stored m p.1 p.2) vs)
 |_,_,_,_,r,.nil=>r
 |p::ps,q::qs,kvs,vs,r,.cons ⟨e,rp⟩ t=>by
  simp only[qDa];rw[<- e];exact zR9 (r.put p.1 rp) t
theorem zWB(kvs:List (Key×V)):∀ps:List (Key×V),(ps.foldl (fun m p=>putK m p.1 p.2) kvs).length<=kvs.length+ps.length:=by
 intro ps
 induction ps generalizing kvs with
 |nil=>exact qAa _
 |cons p r ih=>
  have h1:=ih (putK kvs p.1 p.2);have h2:=zF6 kvs p.1 p.2;simp only[qDa,qB6]
  lia
theorem zNR{pins:List (Addr×Obj)}{σ:List (Option V)}{H:Hp}{s:Shared}(I:Inv X pins σ H s):∀{xs:List V}{us:List Value}{ps:List (Key×V)},Vals xs us->xs.length=ps.length->(∀(j:Nat) x p,xs[j]?=some x->ps[j]?=some p->zXO H x p) ->
  ∃qs:List (Key×Value),Paired (fun(p:Key×V)(q:Key×Value)=>p.1=q.1/\RelV p.2 q.2) ps qs/\qs.length=us.length/\∀(j:Nat) u q,us[j]?=some u->qs[j]?=some q->zSH (zBN X.prog X.w) s.heap u q
 |_,_,[],.nil,_,_=>⟨[],.nil,rfl,fun j u q h=>by simp at h⟩
 |x::xs,u::us,p::ps,.cons r t,hl,h=>by
  obtain⟨qs,h1,h2,h3⟩:=zNR I (ps:=ps) t (by simpa using hl) fun j x p a b=>h (j+1) x p (by simpa using a) (by simpa using b)
  obtain⟨a,rfl,ha⟩:=h 0 x p rfl rfl;cases r;obtain⟨its,rv,pl,_⟩:=I.tuple (SqT.of ha);obtain⟨key,val,rfl,rk,rval⟩:=zaN rv;obtain⟨o,ho,hc,n,hd⟩:=pl;refine⟨(p.1,val)::qs,.cons ⟨rfl,rval⟩ h1,by simp[h2],fun j u q a1 a2=>?_⟩;cases j with
  |zero=>
   simp at a1 a2;subst a1 a2;exact⟨a,o,n,key,rfl,ho,hc,hd,zP5 rk⟩
  |succ j=>exact h3 j u q (by simpa using a1) (by simpa using a2)
 |[],[],_::_,.nil,hl,_=>by simp at hl
 |_::_,_::_,[],.cons _ _,hl,_=>by simp at hl
theorem zUF{pins:List (Addr×Obj)}{σ:List (Option V)}{H:Hp}{s:Shared}{a:Addr}{h':Heap}{t':Nat}{ob:HO}(I:Inv X pins σ H s)(mu:Mut (H a))(hs:∀b o,b≠a->s.heap.get? b=some o->h'.get? b=some o)(he:∃q,h'.get? a=some q)(new:ObjOk X.prog X.w (upd H a ob) h' a ob) :
  Inv X pins σ (upd H a ob) { s with heap:=h',toks:=t' }:=I.write (x:=a) (e:=a) mu (.inl rfl) hs he new
theorem zWT(hc:X.calm=true):MtR X "dict.update" updM:=by
 intro pins s σ H x vs v us Q I rx rv h;cases x with
 |ref d=>
  cases vs with
  |nil=>exact qA7 h
  |cons hd1 tl1=>
   cases hd1 with
   |ref l=>
    cases tl1 with
    |nil=>
     obtain⟨kvs,xs,ps,hd,hl,hlen,hp,hz,q⟩:=h;cases rx;obtain⟨u,rfl,ru⟩:=zFY rv;cases ru;obtain⟨z,hds,ws,rel,dd⟩:=za7 I.hok hd;obtain⟨z2,its,n,r,_,e⟩:=I.lstM hl;have hil:=r.length;have hdl:d≠l:=fun z=>by rw[z,hl]at hd;cases hd
     obtain⟨qs,h1,h2,h3⟩:=zNR I r hlen hp;have hpq:=Paired.length h1;have hrl:=rel.length;refine zSM (knd:=zBN X.prog X.w) (I.ok.hd hc) hdl qs (by simp[h2]) (by simp;lia) dd e rfl rfl rfl (fun j v p a1 a2=>h3 j v p (by simpa using a1) a2) fun h' tk hd' hk he=>?_
     have hfl:=zWB kvs ps;exact⟨.non,_,zUF I (by rw[hd];exact qFc) hk he (zVO (by rw[sizeLine_eq];lia) hds (zR9 rel h1) hd'),rfl,q⟩
    |cons _ _=>exact qA7 h
   |_=>exact qA7 h
 |_=>exact qA7 h
end
end L2
namespace L3
open PySem PySem.Spec
open L2 hiding Rep RepL
open Mi (Dt Xn R okR zA4 optR zA0 zAD zAH zA8 zAF Rh Sl Ro EM TM AM FM IM SM OM Tg Out zAS zAT zAY full frz frz1 frzAt)
abbrev wk(kvs:List (Sum Int Str×Mi.Sw)):List (Key×V):=kvs.map fun p=>(p.1,swV p.2)
theorem zSJ(kvs:List (Sum Int Str×Mi.Sw))(k:Key):valV (wk kvs) k=(Mi.getW kvs k).map swV:=by
 unfold valV Mi.getW wk
 induction kvs with
 |nil=>rfl
 |cons p r ih=>
  simp only[qAn,qCe]
  by_cases h:p.1=k
  ·simp[h]
  ·simp only[h,decide_false];exact ih
theorem zZ0(kvs:List (Sum Int Str×Mi.Sw))(k:Key)(u:Mi.Sw):putK (wk kvs) k (swV u)=wk (Mi.putW kvs k u):=by
 unfold putK Mi.putW wk;have e:(kvs.map fun p=>((p.1,swV p.2):Key×V)).any (fun kv=>decide (kv.1=k))=kvs.any fun p=>decide (p.1=k):=by
  rw[List.any_map];rfl
 rw[e]
 split
 ·rw[qAu,qAu];refine qB8 fun p _=>?_
  by_cases h:p.1=k
  ·simp[h]
  ·simp[h]
 ·simp
theorem zYZ(ps:List (Sum Int Str×Mi.Sw)):∀kvs:List (Sum Int Str×Mi.Sw),(wk ps).foldl (fun m p=>putK m p.1 p.2) (wk kvs)=wk (ps.foldl (fun m p=>Mi.putW m p.1 p.2) kvs):=by
 induction ps with
 |nil=>intro kvs;rfl
 |cons p r ih=>
  intro kvs
  show(wk r).foldl (fun m p=>putK m p.1 p.2) (putK (wk kvs) p.1 (swV p.2))=_
  rw[zZ0,ih];rfl
section
variable[Kc]{mg:Str->Option Value}{E:XK}{L n k l:Nat}{te ta tb tx td:TE}{e ea eb ex ed ma:EM}{t:TA}{m:AM}
theorem ky_rep{G:Hp}{d:Dt}{v:V}{q:Sum Int Str}(h:Rep G d v)(e:Mi.kyD d=some q):v=kV q:=by
 cases d with
 |int i=>cases e;exact h
 |str x=>cases e;exact h
 |_=>cases e
theorem sw_rep{G:Hp}{d:Dt}{v:V}{u:Mi.Sw}(h:Rep G d v)(e:Mi.swD d=some u):v=swV u:=by
 cases d with
 |non=>cases e;exact h
 |bl _=>cases e;exact h
 |int i=>cases e;exact h
 |str x=>cases e;exact h
 |_=>cases e
theorem zQB{G:Hp}(u:Mi.Sw):Rep G (Mi.swT u) (swV u):=by cases u<;>rfl
theorem zRT(u:Mi.Sw):(Mi.swT u).dep=0:=by cases u<;>rfl
theorem zGF:DE mg E zUO Mi.eDct0 1:=by
 intro G H σ ρ Q s w p a ha;have fr:Fr G H G H (fun _=>False):=⟨Ext.refl s,fun _ z=>z.elim⟩
 exact p (.ref a) G _ _ (fr.add ha (.dK [])) ⟨a,rfl,zAI,.inl rfl⟩
theorem dt_B(A:DE mg E te e k):DT mg E (L2.tB te) (Mi.tB e):=by
 intro G H σ ρ Q s w p;refine(zAN A).step errT s w p fun d v G1 H1 S _ fr o p1=>?_
 cases d with
 |bl b=>
  cases(show v=.bl b from o)
  exact⟨b,rfl,p1 H1 fr.ext.h⟩
 |_=>exact p1.elim
theorem de_din(A:DE mg E ta ea k)(B:DE mg E tb eb l):DE mg E (tDIn ta tb) (Mi.eB (Mi.dinD false) ea eb) n:=by
 intro G H σ ρ Q s w p;refine(zAN A).step errE s w p fun d v G1 H1 S _ fr o p1=>?_
 refine(zAN B).step (errE.from fr.ext) fr.ext.in' (w.mono fr.ext.g) p1 fun e u G2 H2 S2 _ fr2 o2 p2=>?_
 cases e with
 |dct kvs=>
  obtain⟨a,rfl,ha⟩:=o2;have p3:PostE mg E G H n (optR (match Mi.kyD d with|some k=>some (.bl (if false=true then !(Mi.getW kvs k).isSome else(Mi.getW kvs k).isSome))|none=>none)) Q:=p2;cases ek:Mi.kyD d with
  |none=>rw[ek]at p3;exact p3.elim
  |some q=>
   rw[ek]at p3;cases ky_rep o ek;refine⟨a,_,rfl,DGet.k (fr2.ext.in' _ _ ha),?_⟩;rw[zSJ,qDk];exact PostE.val (PostE.from p3 (fr.ext.trans fr2.ext)) (Ext.refl fr2.ext.in') rfl rfl
 |_=>exact p2.elim
theorem zRX(A:DE mg E ta ea k)(B:DE mg E tb eb l):DE mg E (zPX ta tb) (Mi.eB (Mi.dinD true) ea eb) n:=by
 intro G H σ ρ Q s w p;refine(zAN A).step errE s w p fun d v G1 H1 S _ fr o p1=>?_
 refine(zAN B).step (errE.from fr.ext) fr.ext.in' (w.mono fr.ext.g) p1 fun e u G2 H2 S2 _ fr2 o2 p2=>?_
 cases e with
 |dct kvs=>
  obtain⟨a,rfl,ha⟩:=o2;have p3:PostE mg E G H n (optR (match Mi.kyD d with|some k=>some (.bl (if true=true then !(Mi.getW kvs k).isSome else(Mi.getW kvs k).isSome))|none=>none)) Q:=p2;cases ek:Mi.kyD d with
  |none=>rw[ek]at p3;exact p3.elim
  |some q=>
   rw[ek]at p3;cases ky_rep o ek;refine⟨a,_,rfl,DGet.k (fr2.ext.in' _ _ ha),?_⟩;rw[zSJ,qDk];exact PostE.val (PostE.from p3 (fr.ext.trans fr2.ext)) (Ext.refl fr2.ext.in') rfl rfl
 |_=>exact p2.elim
theorem zRZ(D:DE mg E td ed k)(A:DE mg E ta ea l){j:Nat}(X:DE mg E tx ex j):DE mg E (zUP td ta tx) (Mi.eDGet ed ea ex) n:=by
 intro G H σ ρ Q s w p;refine(zAN D).step errE s w p fun d v G1 H1 S _ fr o p1=>?_
 cases d with
 |dct kvs=>
  obtain⟨a,rfl,ha⟩:=o;refine⟨a,rfl,.inl ⟨_,.inl (fr.ext.in' _ _ ha)⟩,?_⟩;have p1':PostE mg E G H n (zA4 (ea ρ) fun y=>zA4 (ex ρ) fun z=>match Mi.kyD y with|some q=>if z.dep=0 then okR (match Mi.getW kvs q with|some w=>Mi.swT w|none=>z)else none|none=>none) Q:=p1;refine(zAN A).step (errE.from fr.ext) fr.ext.in' (w.mono fr.ext.g) p1' fun y u G2 H2 S2 _ fr2 o2 p2=>?_
  have x2:=fr.ext.trans fr2.ext;refine(zAN X).step (errE.from x2) fr2.ext.in' (w.mono x2.g) p2 fun z u3 G3 H3 S3 _ fr3 o3 p3=>?_
  cases ek:Mi.kyD y with
  |none=>rw[ek]at p3;exact p3.elim
  |some q=>
   rw[ek]at p3;cases ky_rep o2 ek;dsimp only at p3
   split at p3
   ·rename_i hz
    have ha3:=(x2.trans fr3.ext).in';refine⟨_,DGet.k (fr3.ext.h _ _ (fr2.ext.h _ _ (fr.ext.in' _ _ ha))),?_⟩;rw[zSJ];have p4:=PostE.from p3 (x2.trans fr3.ext);cases eg:Mi.getW kvs q with
    |none=>
     rw[eg]at p4;exact PostE.val p4 (Ext.refl fr3.ext.in') hz o3
    |some u=>
     rw[eg]at p4;exact PostE.val p4 (Ext.refl fr3.ext.in') (zRT u) (zQB u)
   ·exact p3.elim
 |_=>exact p1.elim
theorem zGE(i:Nat){n1 n2:Nat}{t1 t2:TE}{e1 e2:EM}(A:DE mg E t1 e1 n1)(B:DE mg E t2 e2 n2):DS mg E L (zYB (vM i) t1 t2) (Mi.sDput i e1 e2):=by
 intro G0 H0 S0 σ ρ G H As D a p;obtain⟨J,x,s,w⟩:=a.full;refine(zAN B).step (errS.from x) x.in' w p fun d y G1 H1 S _ fr o p1=>?_
 cases er:ρ[i]? with
 |none=>rw[er]at p1;exact p1.elim
 |some sl=>
  rw[er]at p1
  match sl,er,p1 with
  |none,_,p=>exact p.elim
  |some (.dct kvs,k+1),er,p1=>
   obtain⟨v,h1,q,rfl,hq,hs⟩:=a.at i _ _ er;unfold vM;rw[h1];have x1:Ext J H J H1:=Ext.same x.in' fr.ext.h;refine(zAN A).step (errS.from (x.trans x1)) x1.in' w p1 fun z u G2 H2 S2 _ fr2 o2 p2=>?_
   cases ek:Mi.kyD z with
   |none=>rw[ek]at p2;exact p2.elim
   |some c=>
    cases ev:Mi.swD d with
    |none=>rw[ek,ev]at p2;exact p2.elim
    |some uu=>
     rw[ek,ev]at p2;dsimp only at p2
     split at p2
     ·rename_i hz
      cases ky_rep o2 ek;cases sw_rep o ev;have sH:=fr.ext.h.trans fr2.ext.h;have a1:=a.grow sH;refine⟨q,_,rfl,DPut.k (sH _ _ hq) (by rw[qAg,sizeLine_eq];lia),?_⟩;rw[zZ0];exact p2 σ G _ _ (a1.store (o:=.dK (wk (Mi.putW kvs c uu))) (n:=k+1) (d:=.dct (Mi.putW kvs c uu)) (S:=As i) hs h1 ⟨q,rfl,zAI,hs⟩ fun b z=>.inl z)
     ·exact p2.elim
  |some (.dct _,0),_,p=>exact p.elim
  |some (.lst _,_),_,p=>exact p.elim
  |some (.non,_),_,p=>exact p.elim
  |some (.bl _,_),_,p=>exact p.elim
  |some (.int _,_),_,p=>exact p.elim
  |some (.str _,_),_,p=>exact p.elim
  |some (.tup _,_),_,p=>exact p.elim
  |some (.scr _,_),_,p=>exact p.elim
  |some (.exc _ _ _,_),_,p=>exact p.elim
  |some (.ins _ _,_),_,p=>exact p.elim
theorem zKM{G:Hp}:∀{ds:List Dt}{xs:List V}{ps:List (Sum Int Str×Mi.Sw)},Mi.pairsD ds=some ps->RepL G ds xs->xs.length=(wk ps).length/\∀(j:Nat) x p,xs[j]?=some x->(wk ps)[j]?=some p->zXO G x p
 |[],xs,ps,h,r=>by
  cases h;cases r;exact⟨rfl,fun j x p h=>by simp at h⟩
 |.tup [a,b]::ds,xs,ps,h,r=>by
  unfold Mi.pairsD at h;cases ea:Mi.kyD a with
  |none=>rw[ea]at h;cases h
  |some q=>
   cases eb:Mi.swD b with
   |none=>rw[ea,eb]at h;cases h
   |some u=>
    cases er:Mi.pairsD ds with
    |none=>rw[ea,eb,er]at h;cases h
    |some ps'=>
     rw[ea,eb,er]at h;cases h;obtain⟨x,xs',rfl,hx,hr⟩:=r;obtain⟨i1,i2⟩:=zKM er hr;refine⟨by simp at i1 ⊢;exact i1,fun j y p h1 h2=>?_⟩;cases j with
     |zero=>
      simp at h1 h2;subst h1 h2;obtain⟨t,ys,rfl,ht,hy⟩:=hx;obtain⟨y1,y2,rfl,g1,g2⟩:=zYK hy;cases ky_rep g1 ea;cases sw_rep g2 eb;exact⟨t,rfl,ht⟩
     |succ j=>exact i2 j y p (by simpa using h1) (by simpa using h2)
 |.tup []::ds,_,_,h,_=>by cases h
 |.tup [_]::ds,_,_,h,_=>by cases h
 |.tup (_::_::_::_)::ds,_,_,h,_=>by cases h
 |.lst _::ds,_,_,h,_=>by cases h
 |.non::ds,_,_,h,_=>by cases h
 |.bl _::ds,_,_,h,_=>by cases h
 |.int _::ds,_,_,h,_=>by cases h
 |.str _::ds,_,_,h,_=>by cases h
 |.scr _::ds,_,_,h,_=>by cases h
 |.exc _ _ _::ds,_,_,h,_=>by cases h
 |.ins _ _::ds,_,_,h,_=>by cases h
 |.dct _::ds,_,_,h,_=>by cases h
theorem zXD(i:Nat)(A:DE mg E te e n):DS mg E L (zFZ (tMD updM (vM i) (zG0 te tNil))) (Mi.sDupd i e):=by
 intro G0 H0 S0 σ ρ G H As D a p;obtain⟨J,x,s,w⟩:=a.full;unfold Mi.sDupd at p
 split at p
 ·rename_i kvs k e1
  obtain⟨v,h1,q,rfl,hq,hs⟩:=a.at i _ _ e1;unfold zFZ tMD vM;rw[h1];refine⟨⟨_,hq⟩,?_⟩;refine(zAN A).step (errS.from x) x.in' w p fun d y G1 H1 S ee fr o p1=>?_
  split at p1
  ·rename_i ds
   split at p1
   ·rename_i ps ep
    split at p1
    ·rename_i hz
     obtain⟨b0,xs,rfl,hb0,rr⟩:=o;obtain⟨i1,i2⟩:=zKM ep rr;have a1:=a.grow fr.ext.h;refine⟨wk kvs,xs,wk ps,fr.ext.h _ _ hq,fr.ext.in' _ _ hb0,i1,fun j x p g1 g2=>?_,by simpa using hz,?_⟩
     ·obtain⟨t,e1,e2⟩:=i2 j x p g1 g2;exact⟨t,e1,fr.ext.in' _ _ e2⟩
     ·rw[zYZ];exact p1 σ G _ _ (a1.store (o:=.dK (wk (ps.foldl (fun m p=>Mi.putW m p.1 p.2) kvs))) (n:=k+1) (d:=.dct (ps.foldl (fun m p=>Mi.putW m p.1 p.2) kvs)) (S:=As i) hs h1 ⟨q,rfl,zAI,hs⟩ fun b z=>.inl z)
    ·exact p1.elim
   ·exact p1.elim
  ·exact p1.elim
 ·exact p.elim
end
end L3
namespace Mi
open PySem
noncomputable section
end
end Mi
namespace L2
open PySem PySem.Spec PyProof.Rows
section
variable{X:Cx}{pins:List (Addr×Obj)}{σ:List (Option V)}{H:Hp}{s:Shared}
end
section
variable{X:Cx}
theorem zMP{es:List Expr}{t:TA}{x1:Nat}{pos:Pos}(h:Dr (PA X es t)):Dr (PE X (.Tuple es x1 pos) (tTup t)):=⟨zKK h.h⟩
end
end L2
namespace L3
open PySem PySem.Spec
open L2 hiding Rep RepL
open Mi (Dt Xn R okR zA4 optR zA0 zAD zAH zA8 zAF Rh Sl Ro EM TM AM FM IM SM OM Tg Out zAS zAT zAY full frz frz1 frzAt)
section
variable[Kc]{mg:Str->Option Value}{E:XK}{L n k l:Nat}{te ta tb:TE}{e ea eb ma:EM}{t:TA}{m:AM}
end
end L3
namespace Mi
open PySem
noncomputable def ev2{α:Type}:List α->List α
 |[]=>[]
 |[x]=>[x]
 |x::_::r=>x::ev2 r
theorem ev2_len{α:Type}:∀l:List α,(ev2 l).length<=l.length
 |[]=>qAa _
 |[_]=>qAa _
 |x::y::r=>by have:=ev2_len r;simp[ev2];lia
theorem ev2_pick{α:Type}:∀l:List α,(qA6 ((l.length+1)/2)).filterMap (fun k=>l[2*k]?)=ev2 l
 |[]=>by simp[ev2]
 |[x]=>by simp[ev2,qBu]
 |x::y::r=>by
  have h:((x::y::r).length+1)/2=(r.length+1)/2+1:=by simp;lia
  rw[h,qDh,qD5,qFp];show x::_=x::ev2 r;rw[<- ev2_pick r];rfl
noncomputable section
def st2D:Dt->Dt->Option Dt
 |.lst ds,.int j=>if j=2 then some (.lst (ev2 ds))else none
 |_,_=>none
end
end Mi
namespace L2
open PySem PySem.Spec PyProof.Rows
section
variable{X:Cx}{e m1:Expr}{te ts:TE}{pos p2:Pos}
theorem zb4(its:List Value):slicePick its.toArray none none (some 2)=(Mi.ev2 its).toArray:=by
 unfold slicePick sliceBounds sliceRange;simp only[qDv];rw[if_pos (show(2:Int)>0 by decide),if_pos (show(2:Int)>0 by decide),if_pos (show(2:Int)>0 by decide)];have hc:(if(0:Int)<(its.toArray.size:Int)then((its.toArray.size:Int)-0+2-1)/2 else 0).toNat=(its.length+1)/2:=by
  simp only[qAd]
  split<;>lia
 rw[hc,qFp,<- Mi.ev2_pick its]
 congr 2
 funext k
 show its.toArray[((0:Int)+2*(k:Int)).toNat]?=its[2*k]?;rw[show((0:Int)+2*(k:Int)).toNat=2*k by lia];simp
theorem zN0:∀{xs:List V}{us:List Value},Vals xs us->Vals (Mi.ev2 xs) (Mi.ev2 us)
 |_,_,.nil=>.nil
 |_,_,.cons h .nil=>.cons h .nil
 |_,_,.cons h (.cons _ t)=>.cons h (zN0 t)
def rSt2:R2:=fun x y H Q=>∃a xs,x=.ref a/\H a=some (.lst xs)/\y=.int 2/\∀p,H p=none->Q (.ref p) (upd H p (.lst (Mi.ev2 xs)))
theorem zZ3(he:PE X e te)(hs:PE X m1 ts):PE X (.Subscript e (.Slice none none (some m1) p2) pos) (tOp rSt2 te ts):=by
 intro pins s σ H Q I h;refine Subscript_ (thn (he pins s σ H _ I h) fun v s1 z0=>?_);obtain⟨x,H1,I1,r1,q1⟩:=z0;refine wpAny_Slice ?_;rw[evalPart_none];refine wpAny_pure ?_;refine wpAny_pure ?_;rw[evalPart_some];refine thn (hs pins s1 σ H1 _ I1 q1) fun u s2 z0=>?_
 obtain⟨y,H2,I2,r2,q2⟩:=z0;obtain⟨a,xs,rfl,ha,rfl,q⟩:=q2;cases r1;obtain⟨t2,rfl⟩:=r2;have I3:Inv X pins σ H2 { s2 with heap:=s2.heap.push { cls:=.type "slice",data:=.fields #[.none,.none,.int 2 t2] } }:=I2.kept (t':=s2.toks) fun b ob q=>Heap.get?_push_of_some _ q
 obtain⟨its,rv,hl⟩:=zAP I3.hok ha;have hz:xs.length<=sizeLine:=(I3.hok a _ ha).1;have hlen:=rv.length;show wpAny (model X.prog X.w) X.A (subscriptTail e (.Slice none none (some m1) p2) (.ref a) (.ref s2.heap.objs.size)) (EP X pins σ Q) X.xe { s2 with heap:=s2.heap.push { cls:=.type "slice",data:=.fields #[.none,.none,.int 2 t2] } };refine tail_any (ops:=[.ref a,.ref s2.heap.objs.size]) hl.typeIs slot_list_getitem.lookup (wpAny_getItem_list_slice hl (lo:=none) (hi:=none) (st:=some 2) (Heap.IsSliceOf.new ..) .none .none (.int _ _) (by decide) ?_ (by rw[qAd];lia)) (by with_unfolding_all rfl);rw[zb4];refine⟨.ref _,_,I3.laid (t':=s2.toks) (o:=.lst (Mi.ev2 xs)) (fun b ob q=>Heap.get?_push_of_some _ q) (qAa _) ⟨?_,Mi.ev2 its,0,zN0 rv,Heap.get?_push_size _ rfl⟩,rfl,q _ (I3.hok.fresh (qAa _))⟩;exact qAo (Mi.ev2_len xs) hz
theorem zXA{b:List Stmt}{t:TS}{R:TS->Prop}(h:Dr (PSs X b t))(r:R t):∃t,PSs X b t/\R t:=⟨t,h.h,r⟩
theorem zJV{xs es:List Expr}{x1:Nat}{p:Pos}{te:TE}{t:TA}(h1:Dr (PE X (.Tuple xs x1 p) te))(h2:Dr (PA X es t)):Dr (PA X (.Tuple xs x1 p::es) (zG0 te t)):=⟨zA1 h1.h h2.h rfl⟩
end
end L2
namespace L3
open PySem PySem.Spec
open L2 hiding Rep RepL
open Mi (Dt Xn R okR zA4 optR zA0 zAD zAH zA8 zAF Rh Sl Ro EM TM AM FM IM SM OM Tg Out zAS zAT zAY full frz frz1 frzAt)
section
variable[Kc]{mg:Str->Option Value}{E:XK}{L n k l:Nat}
theorem zNI{G:Hp}:∀{ds:List Dt}{xs:List V},RepL G ds xs->RepL G (Mi.ev2 ds) (Mi.ev2 xs)
 |[],xs,r=>by cases(show xs=[] from r);rfl
 |[d],xs,r=>by
  obtain⟨x,ys,rfl,h1,h2⟩:=r
  cases(show ys=[] from h2)
  exact⟨x,[],rfl,h1,rfl⟩
 |d::d'::ds,xs,r=>by
  obtain⟨x,ys,rfl,h1,h2⟩:=r;obtain⟨y,zs,rfl,h3,h4⟩:=h2;exact⟨x,_,rfl,h1,zNI h4⟩
theorem zYE:ROp rSt2 Mi.st2D 1:=by
 intro mg E G H d e x y Q s h1 h2 p;cases d with
 |lst ds=>
  cases e with
  |int j=>
   obtain⟨a,xs,rfl,ha,ra⟩:=h1
   cases(show y=.int j from h2)
   rw[Mi.st2D]at p
   split at p
   ·rename_i hz
    subst hz;exact⟨a,xs,rfl,s _ _ ha,rfl,fun q hq=>PostE.lst p (Ext.refl s) (zNI ra) hq⟩
   ·exact p.elim
  |_=>exact p.elim
 |_=>exact p.elim
end
end L3
namespace Mi
open PySem
noncomputable section
end
end Mi
namespace L2
open PySem PySem.Spec PyProof.Rows
section
variable{X:Cx}
end
end L2
namespace L3
open PySem PySem.Spec PyProof.Rows
open L2 hiding Rep RepL
open Mi (Dt R Rh EM TM SM AM IM Xn Sl Ro Out okR zA4 optR full frz frzAt)
section
variable[Kc]{mg:Str->Option Value}{E:XK}{n L:Nat}{te ta tb:TE}{e:EM}{m m':SM}
end
end L3
namespace Mi
open PySem
noncomputable section
noncomputable def numS(n:Nat):List Dt:=(qA6 n).map fun i:Nat=>.int ((2*i:Nat):Int)
def iR3(e:AM):IM:=fun ρ=>zA4 (e ρ) fun vs=>match vs with
 |[.int i,.int j,.int k]=>@ite _ (i=0/\k=2/\0<=j/\j<1000000) (qA3 _) (okR (numS ((j+1)/2).toNat)) none
 |_=>none
end
end Mi
namespace L2
open PySem PySem.Spec PyProof.Rows
noncomputable def Itr2(n:Nat):It:=⟨fun i _=>i<n,fun i H x H'=>H'=H/\x=.int ((2*i:Nat):Int),fun i _=>n<=i⟩
theorem zLZ{P:Program}{w:World}{K:qA2}{tg:Expr}(it:Addr)(n:Nat):Turn P w K tg (Itr2 n) [it] it (fun i h=>IsRangeIter h it (0+(i:Nat)*2) ((n:Int)-(i:Nat)) 2) where
 mem:=by simp
 obj:=fun i h st b hb=>by
  have e:b=it:=by simpa using hb
  subst e;exact⟨_,st,fun v z=>by
   have z':Data.fields _=Data.cell v:=z;cases z'⟩
 keep:=fun i h h' st k=>k it (by simp) _ st
 item:=by
  intro X hP hw hK hc i pins s σ H E I hf st hg;subst hP hw hK;obtain⟨f0,f1,f2,f3,f4,f5⟩:=hf it (by simp);have W:=Walks.range (prog:=X.prog) (w:=X.w) (I.ok.hd hc) it 0 2 n;refine W.item i s _ _ hg st fun v h' tk hv st' kk=>?_
  obtain⟨t,rfl⟩:=hv;have I1:Inv X pins σ H { s with heap:=h',toks:=tk }:=I.turned (fun b o hb e=>kk b o (by simpa using hb) e) f0 f1 f3 f4 f5;refine⟨_,rfl,zRI (s:={ s with heap:=h',toks:=tk }) (n:="range_iterator") st' rfl rfl (by decide) ⟨.int ((2*i:Nat):Int),H,I1,⟨t,?_⟩,⟨rfl,rfl⟩,st',fun b hb=>(hf b hb).1⟩⟩
  congr 1
  lia
 done:=by
  intro X hP hw hK hc i pins s σ H E I hf st hg;subst hP hw hK;obtain⟨f0,f1,f2,f3,f4,f5⟩:=hf it (by simp);exact wpAny_pyNext_range_end (I.ok.hd hc) st (by have:n<=i:=hg;lia) fun h' eb=>⟨rfl,I.turned (t':=s.toks) (fun b o hb e=>eb b o hb e) f0 f1 f3 f4 f5⟩
 self:=fun _ _ _ _ _ st h=>wpAny_pyIter_rangeiter st h
section
variable{X:Cx}{tg:Expr}
theorem zQ3{b:Int}(hb:0<=b)(hb':b<1000000):Builtin.Range.small 0 b 2=true:=by
 unfold Builtin.Range.small;rw[rangeSize_pos (by lia) hb];simp only[Builtin.Range.rangeFitsLong,qBp,qF3,decide_eq_true_eq,beq_iff_eq,show(2:Int)>0 by decide,if_true]
 lia
theorem zQF{pins:List (Addr×Obj)}{σ:St}{H:Hp}{s:Shared}{R:It->Hp->Prop}{E:Value->Shared->Prop}{hi:Int}{t u v:Tok}{tk:Nat}(I:Inv X pins σ H s)(h3:0<=hi)(h4:hi<1000000)
  (q:R (Itr2 ((hi+1)/2).toNat) H):wpAny (model X.prog X.w) X.A (pyIter (.ref s.heap.objs.size)) (PIE X pins σ tg R) E { s with heap:=s.heap.push { cls:=.type "range",data:=.fields #[.int 0 t,.int hi u,.int 2 v] },toks:=tk }:=by
 refine wpAny_pyIter_range (IsRange.new ..) (zQ3 h3 h4) ?_;have I1:Inv X pins σ H { s with heap:=s.heap.push { cls:=.type "range",data:=.fields #[.int 0 t,.int hi u,.int 2 v] },toks:=tk }:=I.kept fun b o e=>Heap.get?_push_of_some _ e
 refine⟨(s.heap.push { cls:=.type "range",data:=.fields #[.int 0 t,.int hi u,.int 2 v] }).objs.size,[(s.heap.push { cls:=.type "range",data:=.fields #[.int 0 t,.int hi u,.int 2 v] }).objs.size],_,_,H,rfl,
  I1.kept (t':=tk) fun b o e=>Heap.get?_push_of_some _ e,zLZ _ ((hi+1)/2).toNat,?_,fun b hb=>?_,q⟩
 ·have e1:(0:Int)+((0:Nat):Int)*2=0:=by simp
  have e2:((((hi+1)/2).toNat:Nat):Int)-((0:Nat):Int)=Builtin.Range.rangeSize 0 hi 2:=by rw[rangeSize_pos (by lia) h3];lia
  show IsRangeIter _ _ ((0:Int)+((0:Nat):Int)*2) (((((hi+1)/2).toNat:Nat):Int)-((0:Nat):Int)) 2;rw[e1,e2];exact Heap.get?_push_size _ rfl
 ·have e:b=(s.heap.push { cls:=.type "range",data:=.fields #[.int 0 t,.int hi u,.int 2 v] }).objs.size:=by simpa using hb
  subst e;exact I1.fpOk (qAa _) (I1.hok.fresh (qAa _))
def zZX(ta:TA):TI:=fun σ H R=>ta σ H fun vs H1=>∃j:Int,vs=[.int 0,.int j,.int 2]/\0<=j/\j<1000000/\R (Itr2 ((j+1)/2).toNat) H1
theorem zQO{a b c:Expr}{ta:TA}{p pos:Pos}(hg:Gl X "range")(hm:X.mg "range" = none)(ha:PA X [a,b,c] ta)(hs:starEach [a,b,c] X.env=[(false,eval a X.env),(false,eval b X.env),(false,eval c X.env)]:=by rfl)(hs2:starEach [b,c] X.env=[(false,eval b X.env),(false,eval c X.env)]:=by rfl) :
  PI X tg (.Call (.Name "range" p) [a,b,c] [] pos) (zZX ta):=by
 intro pins s σ H R I h;refine Call_ (zHV I hg hm boot_range (qBf (thn (ha pos pins s σ H _ I h) fun us s1 z0=>?_) (by rw[hs,hs2]) (by rw[hs2];rfl)));obtain⟨vs,H1,I1,r1,q1⟩:=z0;obtain⟨j,e,q1,q2,q⟩:=q1;subst e;cases r1 with
 |cons r rr=>
  cases rr with
  |cons r' rr=>
   cases rr with
   |cons r'' rr=>
    cases rr;obtain⟨t,rfl⟩:=r;obtain⟨t',rfl⟩:=r';obtain⟨t'',rfl⟩:=r'';exact call_range_3 (by decide) (zQF I1 q1 q2 q) (qHn (qEv (by lia)))
end
section
variable{prog:Program}{w:World}{A:Around}{E:Value->Shared->Prop}{s:Shared}
end
section
variable{X:Cx}
end
end L2
namespace L3
open PySem PySem.Spec
open PyProof.Rows (risingS sortedS ltCps_eq)
open L2 hiding Rep RepL
open Mi (Dt Xn R okR zA4 optR zA0 zAD zAH zA8 zAF Rh Sl Ro EM TM AM FM IM SM OM Tg Out zAS zAT zAY full frz frz1 frzAt)
section
variable[Kc]{mg:Str->Option Value}{E:XK}{L n k l:Nat}{t:TA}{m:AM}
theorem zX1{G:Hp}(k:Nat):ItOk (Itr2 k) G (Mi.numS k):=by
 intro i G1 H1 s1 s2;have hl:(Mi.numS k).length=k:=by simp[Mi.numS]
 refine⟨fun hi=>by rw[hl]at hi;exact hi,fun hi=>by rw[hl]at hi;exact hi,fun x H2 d hd hy=>?_⟩;obtain⟨rfl,rfl⟩:=hy;refine⟨G1,Ext.refl s2,?_⟩;unfold Mi.numS at hd;rw[qAb]at hd;cases e:(qA6 k)[i]? with
 |none=>rw[e]at hd;cases hd
 |some j=>
  rw[e]at hd;cases hd;have hj:j=i:=by
   obtain⟨h1,h2⟩:=qA4.mp e;rw[qBc]at h2;exact h2.symm
  subst hj;rfl
theorem zYJ{G:Hp}{i j k:Int}{vs:List V}(h:RepL G [.int i,.int j,.int k] vs):vs=[.int i,.int j,.int k]:=by
 obtain⟨x,r,rfl,hx,h⟩:=h;obtain⟨y,r,rfl,hy,h⟩:=h;obtain⟨z,r,rfl,hz,h⟩:=h
 cases(show x=.int i from hx)
 cases(show y=.int j from hy)
 cases(show z=.int k from hz)
 cases(show r=[] from h)
 rfl
theorem zbN(A:DA mg E t m 0):DI mg E (zZX t) (Mi.iR3 m) true:=by
 intro G H σ ρ Q s w p;refine A.step errI s w p fun ds vs G1 H1 S T _ fr o p1=>?_
 have r:=o.repL;cases ds with
 |nil=>exact p1.elim
 |cons a0 r1=>
  cases a0 with
  |int i=>
   cases r1 with
   |nil=>exact p1.elim
   |cons b0 r2=>
    cases b0 with
    |int j=>
     cases r2 with
     |nil=>exact p1.elim
     |cons c0 r3=>
      cases c0 with
      |int k=>
       cases r3 with
       |nil=>
        have hv:=zYJ r;subst hv;dsimp only at p1
        split at p1
        ·rename_i hz
         obtain⟨rfl,rfl,h1,h2⟩:=hz;exact⟨j,rfl,h1,h2,p1 _ G1 H1 fr.ext (zX1 _)⟩
        ·exact p1.elim
       |cons _ _=>exact p1.elim
      |_=>cases r3<;>exact p1.elim
    |_=>rcases r2 with _|⟨_,_|_⟩<;>exact p1.elim
  |_=>rcases r1 with _|⟨_,_|⟨_,_|_⟩⟩<;>exact p1.elim
end
end L3
namespace Mi
open PySem
noncomputable section
end
end Mi
namespace L3
open PySem PySem.Spec
open L2 hiding Rep RepL
open Mi (Dt Xn R okR zA4 optR zA0 zAD zAH zA8 zAF Rh Sl Ro EM TM AM FM IM SM OM Tg Out zAS zAT zAY full frz frz1 frzAt)
section
variable[Kc]{mg:Str->Option Value}{E:XK}{L n k l:Nat}{te:TE}{e:EM}
section
variable{G0 H0 S0:Hp}{σ:St}{ρ:Ro}{G H:Hp}{As:Nat->Addr->Prop}
end
end
end L3
namespace Mi
open PySem
noncomputable section
noncomputable def dlenD:List Dt->Option Dt
 |[.dct kvs]=>some (.int (kvs.length:Int))
 |_=>none
def eDIx(d k:EM):EM:=fun ρ=>zA4 (d ρ) fun D=>match D with
 |.dct kvs=>zA4 (k ρ) fun y=>match kyD y with
  |some q=>match getW kvs q with
   |some w=>okR (swT w)
   |none=>none
  |none=>none
 |_=>none
end
end Mi
namespace L2
open PySem PySem.Spec PyProof.Rows
section
variable{X:Cx}
end
end L2
namespace L3
open PySem PySem.Spec
open L2 hiding Rep RepL
open Mi (Dt Xn R okR zA4 optR zA0 zAD zAH zA8 zAF Rh Sl Ro EM TM AM FM IM SM OM Tg Out zAS zAT zAY full frz frz1 frzAt)
section
variable[Kc]{mg:Str->Option Value}{E:XK}{L n k l:Nat}{te ta tb tx td:TE}{e ea eb ex ed ma:EM}{t:TA}{m:AM}
theorem zRY(D:DE mg E td ed k)(A:DE mg E ta ea l):DE mg E (zY6 td ta) (Mi.eDIx ed ea) n:=by
 intro G H σ ρ Q s w p;refine(zAN D).step errE s w p fun d v G1 H1 S _ fr o p1=>?_
 cases d with
 |dct kvs=>
  obtain⟨a,rfl,ha⟩:=o;have p1':PostE mg E G H n (zA4 (ea ρ) fun y=>match Mi.kyD y with|some q=>(match Mi.getW kvs q with|some w=>okR (Mi.swT w)|none=>none)|none=>none) Q:=p1;refine(zAN A).step (errE.from fr.ext) fr.ext.in' (w.mono fr.ext.g) p1' fun y u G2 H2 S2 _ fr2 o2 p2=>?_
  have x2:=fr.ext.trans fr2.ext;cases ek:Mi.kyD y with
  |none=>rw[ek]at p2;exact p2.elim
  |some q=>
   rw[ek]at p2;cases ky_rep o2 ek;cases eg:Mi.getW kvs q with
   |none=>dsimp only at p2;rw[eg]at p2;exact p2.elim
   |some u=>
    dsimp only at p2;rw[eg]at p2;have p4:=PostE.from p2 x2;have h:=DGet.k (k:=q) (fr2.ext.h _ _ (fr.ext.in' _ _ ha));rw[zSJ,eg]at h;exact⟨a,swV u,rfl,h,PostE.val p4 (Ext.refl fr2.ext.in') (zRT u) (zQB u)⟩
 |_=>exact p1.elim
end
end L3
namespace Mi
open PySem
noncomputable section
end
end Mi
namespace L2
open PySem PySem.Spec PyProof.Rows
section
variable{prog:Program}{w:World}{A:Around}{E:Value->Shared->Prop}{s:Shared}
end
section
variable{X:Cx}
end
end L2
namespace L3
open PySem PySem.Spec
open L2 hiding Rep RepL
open Mi (Dt Xn R okR zA4 optR zA0 zAD zAH zA8 zAF Rh Sl Ro EM TM AM FM IM SM OM Tg Out zAS zAT zAY full frz frz1 frzAt)
section
variable[Kc]{mg:Str->Option Value}{E:XK}{L n k l:Nat}
end
end L3
namespace Mi
open PySem
noncomputable section
end
end Mi
namespace L2
open PySem PySem.Spec PyProof.Rows
section
variable{prog:Program}{w:World}{A:Around}{E:Value->Shared->Prop}{s:Shared}
end
section
variable{X:Cx}{o:Expr}{td:TE}{p apos cpos pos:Pos}
end
end L2
namespace L3
open PySem PySem.Spec
open PyProof.Rows (risingS sortedS ltCps_eq)
open L2 hiding Rep RepL
open Mi (Dt Xn R okR zA4 optR zA0 zAD zAH zA8 zAF Rh Sl Ro EM TM AM FM IM SM OM Tg Out zAS zAT zAY full frz frz1 frzAt)
section
variable[Kc]{mg:Str->Option Value}{E:XK}{L n k l:Nat}{te ta td:TE}{e ea ed:EM}
end
end L3
namespace Mi
open PySem
noncomputable section
end
end Mi
namespace L2
open PySem
end L2
namespace L2
open PySem PySem.Spec PyProof.Rows
section
variable{prog:Program}{w:World}{A:Around}{E:Value->Shared->Prop}{s:Shared}
end
section
variable{prog:Program}{w:World}{A:Around}{R:Result->Shared->Prop}{I:Addr}{fp wr:List Addr}{G:Array GenState->Array GenState->Prop}{n:Nat}{St:Nat->Shared->Prop}{led:Bool}{items:Array Value}{ns:List Int}
end
end L2
namespace PySem
open PyProof.Rows
end PySem
namespace L2
open PySem PySem.Spec PyProof.Rows
section
variable{prog:Program}{w:World}{A:Around}{E:Value->Shared->Prop}{s:Shared}
end
section
variable{X:Cx}{pins:List (Addr×Obj)}{σ:List (Option V)}{H:Hp}{s:Shared}
end
end L2
namespace L3
open PySem PySem.Spec
open L2 hiding Rep RepL
open Mi (Dt Xn R okR zA4 optR zA0 zAD zAH zA8 zAF Rh Sl Ro EM TM AM FM IM SM OM Tg Out zAS zAT zAY full frz frz1 frzAt)
section
variable[Kc]{mg:Str->Option Value}{E:XK}{L n k l:Nat}{te ta tb:TE}{e ea eb ma:EM}{t:TA}{m:AM}
end
end L3
namespace Mi
open PySem
noncomputable section
end
end Mi
namespace L2
open PySem PySem.Spec PyProof.Rows
section
variable{prog:Program}{w:World}{A:Around}{E:Value->Shared->Prop}{s:Shared}
structure ZipX(z TI TO i1 i2:Addr):Prop where
 TIz:TI≠z
 TOz:TO≠z
 i1z:i1≠z
 i2z:i2≠z
 TITO:TI≠TO
 TIi1:TI≠i1
 TIi2:TI≠i2
 TOi1:TO≠i1
 TOi2:TO≠i2
 i12:i1≠i2
end
section
variable{X:Cx}{K:qA2}
end
section
variable{X:Cx}{e m1:Expr}{te ts:TE}{pos p2:Pos}
end
end L2
namespace L2
open PySem PySem.Spec PyProof.Rows
section
variable{prog:Program}{w:World}{A:Around}{R:Result->Shared->Prop}{I:Addr}{fp wr:List Addr}{G:Array GenState->Array GenState->Prop}{n:Nat}{St:Nat->Shared->Prop}{led:Bool}{items:Array Value}{zs:List Str}
end
end L2
namespace PySem
open PyProof.Rows
end PySem
namespace L2
open PySem PySem.Spec PyProof.Rows
section
variable{X:Cx}{pins:List (Addr×Obj)}{σ:List (Option V)}{H:Hp}{s:Shared}
end
end L2
namespace L3
open PySem PySem.Spec
open L2 hiding Rep RepL
open Mi (Dt Xn R okR zA4 optR zA0 zAD zAH zA8 zAF Rh Sl Ro EM TM AM FM IM SM OM Tg Out zAS zAT zAY full frz frz1 frzAt)
section
variable[Kc]{mg:Str->Option Value}{E:XK}{L n k l:Nat}{te ta tb:TE}{e ea eb ma:EM}{t:TA}{m:AM}
end
end L3
namespace L2
open PySem
theorem uw1{P:List Value->Prop}(h:∀a,P [a]):∀us:List Value,us.length=1->P us
 |[a],_=>h a
theorem uw2{P:List Value->Prop}(h:∀a b,P [a,b]):∀us:List Value,us.length=2->P us
 |a::us,hl=>uw1 (P:=fun us=>P (a::us)) (h a) us (qG7 hl)
theorem uw3{P:List Value->Prop}(h:∀a b c,P [a,b,c]):∀us:List Value,us.length=3->P us
 |a::us,hl=>uw2 (P:=fun us=>P (a::us)) (h a) us (qG7 hl)
theorem uw4{P:List Value->Prop}(h:∀a b c d,P [a,b,c,d]):∀us:List Value,us.length=4->P us
 |a::us,hl=>uw3 (P:=fun us=>P (a::us)) (h a) us (qG7 hl)
theorem oi{p q:Prop}(h:p\/q:=by first|exact qHn rfl|exact qHj rfl):p\/q:=h
end L2
namespace L3
open PySem PyProof.Rows
open L2 hiding Rep RepL
theorem fsc{N P:List Str}{sc:Scope}(a:sc.kind=.function:=by rfl)(b:sc.isCoroutine=false:=by rfl)(c:sc.isGenerator=false:=by rfl)(d:N.Nodup:=by decide +kernel)(e:N.take P.length=P:=by rfl)
  (f:∀x∈P,sc.names.lookup x=some .local\/sc.names.lookup x=some .cell:=by decide +kernel) (g:∀y∈sc.names,y.2≠.free:=by decide +kernel):FnScope N P sc:=⟨a,b,c,d,e,f,g⟩
section
variable{P:Program}{w:World}{K:qA2}{mg:Str->Option Value}{base:Heap}{x:Str}{st:Stmt}{N ps:List Str}{k:Nat}{sp:Sp}
theorem dfM{L n:Nat}{m:Mi.SM}(D:Def K mg x st)(S:FnScope N ps (zAB st))
  (hb:∀(kV doc pm:Value)(an:Option Addr)(cdv ct:Value)(us:List Value),us.length=ps.length->bindArgs (qBk x x (zCM st) (zBE st) (zAB st) .none kV doc pm an cdv ct) ⟨us,[]⟩=pure (ps.zip us))
  (hbody:∀{f:Addr}{cdv:Value}{A:Around}{outer:List Env}{s:Shared}{H:Hp}{vs:List V}{Q:VK}{E:XK},Room k (A.deeper (envOfC x (zAB st) s.heap.objs.size f cdv))->(A.deeper (envOfC x (zAB st) s.heap.objs.size f cdv)).units+64<cLine->sp0 K mg L (Mi.runF ps.length n m) vs H Q E ->
   ∃t,PSs (cxOf CX0 P w K mg base N x (zAB st) f cdv A outer s H E).nox (zBE st) t/\t { nx:=fun _ H'=>Q .non H',rt:=Q } (start N vs) H):Has P w K mg base x (k+1) ps (sp0 K mg L (Mi.runF ps.length n m)):=
 D.ok S hb (fun _ _ _ _ h=>@zM3 ⟨K⟩ _ _ _ _ _ _ _ _ _ h) fun _ _ _ _ _ _ _ _ _ hr h=>hbody hr hr.units h
theorem dfX{L n:Nat}{m:Mi.SM}(D:Def K mg x st)(S:FnScope N ps (zAB st))
  (hb:∀(kV doc pm:Value)(an:Option Addr)(cdv ct:Value)(us:List Value),us.length=ps.length->bindArgs (qBk x x (zCM st) (zBE st) (zAB st) .none kV doc pm an cdv ct) ⟨us,[]⟩=pure (ps.zip us))
  (hbody:∀{f:Addr}{cdv:Value}{A:Around}{outer:List Env}{s:Shared}{H:Hp}{vs:List V}{Q:VK}{E:XK},Room k (A.deeper (envOfC x (zAB st) s.heap.objs.size f cdv))->(A.deeper (envOfC x (zAB st) s.heap.objs.size f cdv)).units+64<cLine->spE K mg L (Mi.runF ps.length n m) vs H Q E ->
   ∃t,PSs (cxOf (CXe P w) P w K mg base N x (zAB st) f cdv A outer s H E) (zBE st) t/\t { nx:=fun _ H'=>Q .non H',rt:=Q } (start N vs) H):HasX P w K mg base x (k+1) ps (spE K mg L (Mi.runF ps.length n m)):=
 D.okX S hb (fun _ _ _ _ h=>@zM3 ⟨K⟩ _ _ _ _ _ _ _ _ _ h) fun _ _ _ _ _ _ _ _ _ hr h=>hbody hr hr.units h
theorem mkD{K:qA2}{h:Heap}{mg:Str->Option Value}{nm:Str}{st:Stmt}{f:Addr}{oc kV dc pm cd ct:Value}{od an:Option Addr}{sl:Array (Option Value)}(X:K.In h)(G:h.Ns mainGlobals mg)(a:qC7 K mainGlobals nm=some (some (.ref f)))(l:K.lookup f=some ⟨oc,od,.func (qBk nm nm (zCM st) (zBE st) (zAB st) .none kV dc pm an cd ct),sl⟩)(c:qCz K cd nm=true)(k:qB0 K (.ref f)=true):Def K mg nm st:=⟨f,_,zRK (st:=st) l c k,qCl X G a⟩
end
section
variable{X:Cx}{pos:Pos}
theorem pgn(i:Nat){x:Str}(hN:decide X.N.Nodup=true:=by kernel_rfl)(hi:X.N[i]?=some x:=by rfl)(hx:Loc X.env.scope x:=by exact oi)(hf:X.fn x=true\/X.env.scope.names.lookup x=some .local:=by first|exact .inl rfl|exact .inr rfl|assumption):PG X (.Name x pos) (zHY i):=zAU (of_decide_eq_true hN) hi hx hf
theorem pst(i:Nat){x:Str}{e:Expr}{te:TE}{pos':Pos}(hN:X.N.Nodup)(he:PE X e te)(hi:X.N[i]?=some x:=by rfl)(hx:Loc X.env.scope x:=by exact oi)(hs:swapsWith e (some (.Name x pos')) pos.line X.env=pure false:=by rfl)(hf:X.fn x=true\/X.env.scope.names.lookup x=some .local:=by first|exact .inl rfl|exact .inr rfl|assumption):PS X (.Assign [.Name x pos'] e pos) (tAsg te (zHY i)):=zUZ hN hi hx he hs hf
end
end L3
namespace Mi
open PySem
noncomputable section
end
end Mi
namespace L3
open PySem PySem.Spec
open L2 hiding Rep RepL
open Mi (Dt Xn R okR zA4 optR zA0 zAD zAH zA8 zAF Rh Sl Ro EM TM AM FM IM SM Tg Out zAS zAT zAY full frz frz1 frzAt)
section
variable[Kc]
section
variable{G0 H0 S0:Hp}{σ:St}{ρ:Ro}{G H:Hp}{As:Nat->Addr->Prop}
end
variable{mg:Str->Option Value}{E:XK}{L n k l:Nat}{te ta tb:TE}{e ea eb ma:EM}{t:TA}{m:AM}
end
end L3
namespace Mp
noncomputable section
open Mi PySem
def zFS:SM:=(sRet 0 0 [0] (eMt joinD (eC (.str "")) (aCons (eComp (iEnX (aCons (eV 0) aNil)) 2 (.tup [1,2]) (tB (eB eqD (eMt findD (eV 0) (aCons (eV 2) aNil)) (eV 1))) (eV 2)) aNil)))
def zAX:FM:=runF 1 1 zFS
def zIS:SM:=(sSeq (sSet 2 0 [0,1] (eMt findD (eCall zAX (aCons (eV 0) aNil)) (aCons (eB ixD (eV 0) (eV 1)) aNil)))
 (sRet 1 1 [2,1,0] (eB addD (eB mulD (eV 2) (eC (.int 4))) (eIf (tB (eB eqD (eMt findD (eV 0) (aCons (eB ixD (eV 0) (eV 1)) aNil)) (eV 1))) (eC (.int 0)) (eC (.int 2))))))
def zCX:FM:=runF 2 3 zIS
def zOF:SM:=(sSeq (sIf (tB (eB (cmpD fun i j=>decide (j<i)) (eBi lenD (aCons (eCallN zAX (aCons (eV 0) aNil)) aNil)) (eC (.int 8)))) (sRaise0 "TooMany" (aCons (eC (.str "a net has at most eight places")) aNil)) sNil)
 (sSeq (sSet 1 2 [0,3] (eComp (iR1 (aCons (eBi lenD (aCons (eV 0) aNil)) aNil)) 1 (.one 6) Mi.tYes (eCallN zCX (aCons (eV 0) (aCons (eV 6) aNil)))))
 (sSeq (sSet 2 1 [0] (eB repD (eLst (aCons (eC (.int 0)) aNil)) (eB mulD (eC (.int 2)) (eBi lenD (aCons (eV 0) aNil)))))
 (sSeq (sFor [1] (iEn (aCons (eV 1) aNil)) (.tup [3,4]) (sSeq (sSet 5 1 [1,3] (eB addD (eB ixD (eV 1) (eB subD (eV 3) (eC (.int 1)))) (eC (.int 1))))
 (sSeq (sItem 2 0 (eV 5) (eV 4))
 (sItem 2 0 (eV 4) (eV 5)))))
 (sRetV 1 2)))))
def zDA:FM:=runF 1 6 zOF
def zDP:SM:=(sSeq (sSet 2 0 [0,1] (eB ixD (eLst (aCons (eTup (aCons (eC (.int 1)) (aCons (eC (.int 0)) (aCons (eC (.int 3)) (aCons (eC (.int 2)) aNil))))) (aCons (eTup (aCons (eC (.int 2)) (aCons (eC (.int 3)) (aCons (eC (.int 0)) (aCons (eC (.int 1)) aNil))))) (aCons (eTup (aCons (eC (.int 3)) (aCons (eC (.int 2)) (aCons (eC (.int 1)) (aCons (eC (.int 0)) aNil))))) aNil)))) (eB ixD (eV 0) (eB divD (eV 1) (eC (.int 4))))))
 (sRet 1 1 [1,2] (eB addD (eB subD (eV 1) (eB modD (eV 1) (eC (.int 4)))) (eB ixD (eV 2) (eB modD (eV 1) (eC (.int 4)))))))
def zBS:FM:=runF 2 3 zDP
def zEA:SM:=(sSeq (sSet 3 9 [] (eLst aNil))
 (sSeq (sSet 4 0 [2] (eV 2))
 (sSeq (sWhile (Mi.tOr (tB (eB eqD (eV 3) (eLst aNil))) (tB (eB neD (eV 4) (eV 2)))) (sSeq (sApp 3 0 (eV 4))
 (sSeq (sApp 3 1 (eCall zBS (aCons (eV 1) (aCons (eV 4) aNil))))
 (sSet 4 0 [0,3] (eB ixD (eV 0) (eB ixD (eV 3) (eU negD (eC (.int 1)))))))))
 (sRetV 9 3))))
def zCI:FM:=runF 3 5 zEA
def zDO:SM:=(sSeq (sSet 2 1 [] eDct0)
 (sSeq (sSet 3 9 [] (eLst aNil))
 (sSeq (sForR (iR1 (aCons (eBi lenD (aCons (eV 0) aNil)) aNil)) 4 (sIf (tB (eB (dinD true) (eV 4) (eV 2))) (sSeq (sSet 5 9 [0,1,4] (eCall zCI (aCons (eV 0) (aCons (eV 1) (aCons (eV 4) aNil)))))
 (sSeq (sFor [5] (iSq (eV 5)) (.one 6) (sDput 2 (eV 6) (eC (.bl true))))
 (sAppF 3 [5] (eV 5)))) sNil))
 (sRetV 1 3))))
def zAZ:FM:=runF 2 7 zDO
def zJZ:SM:=(sRet 0 0 [1,0] (eB xorD (eV 1) (eB addD (eV 0) (eC (.int 1)))))
def zJL:FM:=runF 2 2 zJZ
def zE9:SM:=(sSeq (sSet 2 0 [1] (eB divD (eV 1) (eC (.int 4))))
 (sRet 1 1 [2,0,1] (eB addD (eB mulD (eV 2) (eC (.int 4))) (eCall zJL (aCons (eB ixD (eV 0) (eV 2)) (aCons (eB modD (eV 1) (eC (.int 4))) aNil))))))
def zBO:FM:=runF 2 3 zE9
def zGH:SM:=(sSeq (sSet 3 1 [2,1] (eLst (aCons (eV 2) (aCons (eCall zBO (aCons (eV 1) (aCons (eV 2) aNil))) aNil))))
 (sSeq (sWhile (tB (eB neD (eB ixD (eV 0) (eB ixD (eV 3) (eU negD (eC (.int 1))))) (eV 2))) (sSeq (sSet 4 0 [0,3] (eB ixD (eV 0) (eB ixD (eV 3) (eU negD (eC (.int 1))))))
 (sExt 3 0 (eLst (aCons (eV 4) (aCons (eCall zBO (aCons (eV 1) (aCons (eV 4) aNil))) aNil))))))
 (sRetV 1 3)))
def m_round_of:FM:=runF 3 5 zGH
def zF8:SM:=(sSeq (sSet 2 9 [] (eLst aNil))
 (sSeq (sSet 3 1 [] eDct0)
 (sSeq (sForR (iR1 (aCons (eBi lenD (aCons (eV 0) aNil)) aNil)) 4 (sIf (tB (eB (dinD true) (eV 4) (eV 3))) (sSeq (sSet 5 1 [0,1,4] (eCall m_round_of (aCons (eV 0) (aCons (eV 1) (aCons (eV 4) aNil)))))
 (sSeq (sAppF 2 [5] (eV 5))
 (sDupd 3 (eComp (iSq (eV 5)) 1 (.one 6) Mi.tYes (eTup (aCons (eV 6) (aCons (eC (.bl true)) aNil))))))) sNil))
 (sRetV 1 2))))
def zDL:FM:=runF 2 6 zF8
def zD9:SM:=(sSeq (sSet 2 1 [0] (eB repD (eLst (aCons (eC (.int 0)) aNil)) (eB mulD (eC (.int 2)) (eBi lenD (aCons (eV 0) aNil)))))
 (sSeq (sSet 3 9 [] (eLst aNil))
 (sSeq (sSet 4 1 [] eDct0)
 (sSeq (sFor [0] (iSq (eV 0)) (.one 5) (sSeq (sApp 3 1 (eTup (aCons (eV 5) (aCons (eDGet (eV 4) (eV 5) (eC (.int 0))) aNil))))
 (sDput 4 (eV 5) (eC (.int 2)))))
 (sSeq (sForR (iR1 (aCons (eBi lenD (aCons (eV 0) aNil)) aNil)) 6 (sSeq (sUnp [5,7] [3,6] (eB ixD (eV 3) (eB subD (eV 6) (eC (.int 1)))))
 (sSeq (sUnp [8,9] [3,6] (eB ixD (eV 3) (eV 6)))
 (sSeq (sSet 10 1 [5,1,7] (eB addD (eB mulD (eC (.int 4)) (eV 5)) (eB ixD (eB ixD (eV 1) (eV 5)) (eB addD (eV 7) (eC (.int 1))))))
 (sSeq (sSet 11 1 [8,9,1] (eB addD (eB mulD (eC (.int 4)) (eV 8)) (eB ixD (eB ixD (eV 1) (eV 8)) (eV 9))))
 (sSeq (sItem 2 0 (eV 10) (eV 11))
 (sItem 2 0 (eV 11) (eV 10))))))))
 (sRetV 1 2))))))
def zD4:FM:=runF 2 12 zD9
def zFT:SM:=(sRet 0 0 [0,1] (eBi lenD (aCons (eCall zDL (aCons (eV 0) (aCons (eV 1) aNil))) aNil)))
def zBQ:FM:=runF 2 2 zFT
def zFR:SM:=(sSeq (sSet 2 0 [0,1] (eCallN zBQ (aCons (eV 0) (aCons (eV 1) aNil))))
 (sIf (tB (eB neD (eV 2) (eC (.int 1)))) (sRaise "NoOne" "many" (aCons (eV 2) aNil)) sNil))
def zCU:FM:=runF 2 3 zFR
def zLT:SM:=(sSeq (sDrop (eCall zCU (aCons (eV 0) (aCons (eV 1) aNil))))
 (sRet 0 0 [0,1] (eMt joinD (eC (.str "")) (aCons (eComp (iSq (eB st2D (eCallN m_round_of (aCons (eV 0) (aCons (eV 1) (aCons (eC (.int 0)) aNil)))) (eC (.int 2)))) 1 (.one 2) Mi.tYes (eB ixD (eC (.str "abcdefghijklmnopqrstuvwxyz")) (eB divD (eV 2) (eC (.int 4))))) aNil))))
def zCH:FM:=runF 2 2 zLT
def zEX:SM:=(sSeq (sSet 2 0 [] (eC (.int 0)))
 (sSeq (sIf (tB (eB (cmpD fun i j=>decide (i<j)) (eV 1) (eBi lenD (aCons (eV 0) aNil)))) (sSet 2 0 [0,1] (eB ixD (eV 0) (eV 1))) sNil)
 (sSeq (sIf (tAn (tB (eB (cmpD fun i j=>decide (j<i)) (eBi lenD (aCons (eV 0) aNil)) (eC (.int 0)))) (tB (eB eqD (eB modD (eB ixD (eV 0) (eC (.int 0))) (eC (.int 2))) (eC (.int 1))))) (sRet 1 1 [2,1] (eB divD (eB modD (eV 2) (eB powD (eC (.int 10)) (eC (.int 60)))) (eB ixD (eLst (aCons (eC (.int 1)) (aCons (eC (.int 2)) aNil))) (eBi intD (aCons (eB eqD (eV 1) (eC (.int 0))) aNil))))) sNil)
 (sSeq (sSet 3 0 [2,1] (eB modD (eB mulD (eB addD (eB modD (eV 2) (eC (.int 1000000000039))) (eB mulD (eC (.int 7919)) (eB addD (eV 1) (eC (.int 1))))) (eC (.int 48271))) (eC (.int 2147483647))))
 (sSeq (sSet 4 0 [3] (eB modD (eB mulD (eB modD (eB mulD (eV 3) (eC (.int 69621))) (eC (.int 2147483629))) (eC (.int 16807))) (eC (.int 2147483647))))
 (sRet 1 1 [4,3] (eB addD (eB mulD (eB addD (eB mulD (eV 3) (eC (.int 2147483647))) (eV 4)) (eC (.int 2147483629))) (eB modD (eB mulD (eV 4) (eC (.int 40692))) (eC (.int 2147483399))))))))))
def zAL:FM:=runF 2 5 zEX
def zDN:SM:=(sSeq (sSet 3 1 [2] (eComp (iR1 (aCons (eB mulD (eC (.int 2)) (eV 2)) aNil)) 1 (.one 7) Mi.tYes (eB divD (eV 7) (eC (.int 2)))))
 (sSeq (sSet 4 1 [0,1] (eCall zAL (aCons (eV 0) (aCons (eV 1) aNil))))
 (sSeq (sSet 5 9 [] (eLst aNil))
 (sSeq (sWhile (tB (eB neD (eV 3) (eLst aNil))) (sSeq (sSet 6 0 [4,3] (eB divD (eV 4) (eBi lenD (aCons (eV 3) aNil))))
 (sSeq (sAppPop 5 3 (eB modD (eV 4) (eBi lenD (aCons (eV 3) aNil))))
 (sSet 4 0 [6] (eV 6)))))
 (sRetV 9 5)))))
def zBR:FM:=runF 3 7 zDN
def zD7:SM:=(sSeq (sSet 2 9 [] (eLst aNil))
 (sSeq (sForR (iR1 (aCons (eV 1) aNil)) 3 (sSeq (sSet 4 1 [] (eLst (aCons (eC (.int 0)) (aCons (eC (.int 1)) (aCons (eC (.int 2)) (aCons (eC (.int 3)) aNil))))))
 (sSeq (sSet 5 9 [] (eLst aNil))
 (sSeq (sFor [] (iSq (eTup (aCons (eC (.int 4)) (aCons (eC (.int 3)) (aCons (eC (.int 2)) (aCons (eC (.int 1)) aNil)))))) (.one 6) (sSeq (sAppPop 5 4 (eB modD (eV 0) (eV 6)))
 (sSet 0 0 [0,6] (eB divD (eV 0) (eV 6)))))
 (sAppF 2 [5] (eV 5))))))
 (sRetV 1 2)))
def zD3:FM:=runF 2 7 zD7
def zMV:SM:=(sSeq (sSet 1 9 [] (eLst aNil))
 (sSeq (sFor [0] (iSq (eV 0)) (.one 2) (sSeq (sSet 3 1 [2] (eBi sortD (aCons (eLst (aCons (eB ixD (eV 2) (eC (.int 0))) (aCons (eB ixD (eV 2) (eC (.int 1))) aNil))) aNil)))
 (sSeq (sIf (tB (eB (inD true) (eC (.int 0)) (eV 3))) (sSet 3 1 [2] (eBi sortD (aCons (eLst (aCons (eB ixD (eV 2) (eC (.int 2))) (aCons (eB ixD (eV 2) (eC (.int 3))) aNil))) aNil))) sNil)
 (sApp 1 0 (eB subD (eB ixD (eV 3) (eC (.int 1))) (eC (.int 1)))))))
 (sRetV 9 1)))
def zF5:FM:=runF 1 4 zMV
def zIT:SM:=(sSeq (sSet 2 9 [0,1] (eCall zBR (aCons (eV 0) (aCons (eC (.int 2)) (aCons (eV 1) aNil)))))
 (sSeq (sSet 3 1 [1,0] (eCall zD3 (aCons (eCall zAL (aCons (eV 0) (aCons (eC (.int 1)) aNil))) (aCons (eV 1) aNil))))
 (sRet 1 1 [2,3] (eTup (aCons (eCall zD4 (aCons (eV 2) (aCons (eV 3) aNil))) (aCons (eCall zF5 (aCons (eV 3) aNil)) aNil))))))
def zEF:FM:=runF 2 4 zIT
def zD8:SM:=(sSeq (sSet 3 9 [] (eLst aNil))
 (sSeq (sForR (iR1 (aCons (eC (.int 3)) aNil)) 4 (sSeq (sSet 5 1 [1,4,2] (eB addD (eB addD (eSl (eV 1) oNo (oE (eV 2))) (eLst (aCons (eV 4) aNil))) (eSl (eV 1) (oE (eB addD (eV 2) (eC (.int 1)))) oNo)))
 (sIf (tAn (tB (eB neD (eV 4) (eB ixD (eV 1) (eV 2)))) (tB (eB eqD (eBi lenD (aCons (eCall zAZ (aCons (eV 0) (aCons (eV 5) aNil))) aNil)) (eC (.int 1))))) (sAppF 3 [5] (eV 5)) sNil)))
 (sRetV 1 3)))
def zC2:FM:=runF 3 6 zD8
def zGI:SM:=(sSeq (sSet 1 0 [] (eC (.str "")))
 (sSeq (sFor [0] (iSq (eV 0)) (.one 2) (sIf (tB (eB (inD true) (eV 2) (eV 1))) (sSet 1 1 [1,2] (eB addD (eV 1) (eV 2))) sNil))
 (sRet 0 0 [2,0,1] (eMt joinD (eC (.str "")) (aCons (eComp (iSq (eV 0)) 1 (.one 3) Mi.tYes (eB ixD (eC (.str "abcdefgh")) (eMt findD (eV 1) (aCons (eV 3) aNil)))) aNil)))))
def zB1:FM:=runF 1 3 zGI
def zGS:SM:=(sSeq (sSet 3 9 [0,1] (eCall zCI (aCons (eV 0) (aCons (eV 1) (aCons (eC (.int 0)) aNil)))))
 (sSeq (sSet 4 1 [] eDct0)
 (sSeq (sSet 5 1 [] eDct0)
 (sSeq (sForR (iR3 (aCons (eC (.int 0)) (aCons (eBi lenD (aCons (eV 3) aNil)) (aCons (eC (.int 2)) aNil)))) 6 (sSeq (sSet 7 0 [4,3,6] (eDGet (eV 4) (eB divD (eB ixD (eV 3) (eV 6)) (eC (.int 4))) (eC (.int 0))))
 (sSeq (sDput 5 (eB ixD (eV 3) (eV 6)) (eV 7))
 (sSeq (sDput 5 (eB ixD (eV 3) (eB addD (eV 6) (eC (.int 1)))) (eB addD (eV 7) (eC (.int 1))))
 (sDput 4 (eB divD (eB ixD (eV 3) (eV 6)) (eC (.int 4))) (eC (.int 2)))))))
 (sRetV 1 5)))))
def zCL:FM:=runF 3 8 zGS
def zFU:SM:=(sSeq (sSet 4 0 [3] (eCallN zAX (aCons (eV 3) aNil)))
 (sSeq (sSet 5 1 [1,2,4] (eCallN zCL (aCons (eV 1) (aCons (eV 2) (aCons (eV 4) aNil)))))
 (sSeq (sSet 6 1 [8,0,4] (eComp (iR1 (aCons (eBi lenD (aCons (eV 4) aNil)) aNil)) 1 (.one 13) Mi.tYes (eB modD (eCallN zAL (aCons (eV 0) (aCons (eB addD (eC (.int 40)) (eV 13)) aNil))) (eC (.int 3)))))
 (sSeq (sSet 7 1 [2] (eBi listD (aCons (eV 2) aNil)))
 (sSeq (sForR (iR1 (aCons (eBi lenD (aCons (eV 4) aNil)) aNil)) 8 (sSeq (sSet 9 0 [4,8] (eMt findD (eC (.str "abcdefgh")) (aCons (eB ixD (eV 4) (eV 8)) aNil)))
 (sSeq (sSet 10 1 [] eDct0)
 (sSeq (sForR (iR2 (aCons (eB mulD (eC (.int 4)) (eV 9)) (aCons (eB addD (eB mulD (eC (.int 4)) (eV 9)) (eC (.int 4))) aNil))) 11 (sDput 10 (eDIx (eV 5) (eV 11)) (eV 11)))
 (sForR (iR1 (aCons (eC (.int 3)) aNil)) 12 (sSeq (sItem 7 0 (eV 9) (eV 12))
 (sIf (tB (eB eqD (eCallN zBS (aCons (eV 7) (aCons (eDIx (eV 10) (eC (.int 0))) aNil))) (eDIx (eV 10) (eB ixD (eLst (aCons (eC (.int 1)) (aCons (eC (.int 2)) (aCons (eC (.int 3)) aNil)))) (eB ixD (eV 6) (eV 8)))))) sBreak sNil)))))))
 (sRet 0 0 [6,3,1,7] (eB eqD (eCallN zBQ (aCons (eCall zDA (aCons (eV 3) aNil)) (aCons (eV 6) aNil))) (eBi lenD (aCons (eCallN zAZ (aCons (eV 1) (aCons (eV 7) aNil))) aNil)))))))))
def zC1:FM:=runF 4 13 zFU
def zIC:SM:=(sSeq (sSet 3 0 [] (eC (.str "abcdefghijklmnopqrstuvwxyz")))
 (sSeq (sSet 4 1 [0,1] (eCall zAL (aCons (eV 0) (aCons (eV 1) aNil))))
 (sSeq (sSet 5 0 [] (eC (.str "")))
 (sSeq (sForR (iR1 (aCons (eV 2) aNil)) 6 (sSeq (sSet 7 0 [4,3] (eB modD (eV 4) (eBi lenD (aCons (eV 3) aNil))))
 (sSeq (sSet 4 0 [4,3] (eB divD (eV 4) (eBi lenD (aCons (eV 3) aNil))))
 (sSeq (sSet 5 1 [5,3,7] (eB addD (eV 5) (eB ixD (eV 3) (eV 7))))
 (sSet 3 1 [3,7] (eB addD (eSl (eV 3) oNo (oE (eV 7))) (eSl (eV 3) (oE (eB addD (eV 7) (eC (.int 1)))) oNo)))))))
 (sRet 0 0 [5,0,2,1] (eMt joinD (eC (.str "")) (aCons (eComp (iSq (eCall zBR (aCons (eV 0) (aCons (eB addD (eV 1) (eC (.int 1))) (aCons (eV 2) aNil))))) 1 (.one 8) Mi.tYes (eB ixD (eV 5) (eV 8))) aNil)))))))
def zDF:FM:=runF 3 8 zIC
def zSB:SM:=(sSeq (sSet 1 1 [0] (eB addD (eC (.int 1)) (eB modD (eCall zAL (aCons (eV 0) (aCons (eC (.int 0)) aNil))) (eC (.int 8)))))
 (sSeq (sSet 2 0 [0,1] (eCall zDF (aCons (eV 0) (aCons (eC (.int 22)) (aCons (eV 1) aNil)))))
 (sSeq (sIf (tB (eB neD (eCall zCH (aCons (eCall zDA (aCons (eV 2) aNil)) (aCons (eB repD (eLst (aCons (eC (.int 0)) aNil)) (eV 1)) aNil))) (eCall zB1 (aCons (eV 2) aNil)))) (sRet 0 0 [] (eC (.bl false))) sNil)
 (sSeq (sUnp [3,4] [0,1] (eCall zEF (aCons (eV 0) (aCons (eV 1) aNil))))
 (sSeq (sForR (iR1 (aCons (eB modD (eCall zAL (aCons (eV 0) (aCons (eC (.int 50)) aNil))) (eC (.int 5))) aNil)) 5 (sSet 4 0 [3,4,1,0,5] (eB ixD (eCall zC2 (aCons (eV 3) (aCons (eV 4) (aCons (eB modD (eCall zAL (aCons (eV 0) (aCons (eB addD (eC (.int 51)) (eV 5)) aNil))) (eV 1)) aNil)))) (eC (.int 0)))))
 (sSeq (sSet 2 0 [3,4] (eCall zCH (aCons (eBi listD (aCons (eV 3) aNil)) (aCons (eBi listD (aCons (eV 4) aNil)) aNil))))
 (sSeq (sIf (tB (eB neD (eCall zCH (aCons (eCall zDA (aCons (eV 2) aNil)) (aCons (eB repD (eLst (aCons (eC (.int 0)) aNil)) (eV 1)) aNil))) (eCall zB1 (aCons (eV 2) aNil)))) (sRet 0 0 [] (eC (.bl false))) sNil)
 (sRet 0 0 [0,3,4,2] (eCall zC1 (aCons (eV 0) (aCons (eV 3) (aCons (eV 4) (aCons (eV 2) aNil)))))))))))))
def zL1:FM:=runF 1 6 zSB
end
end Mp
namespace Mp
open Mi PySem
theorem zN8(ms:List Int)(q:Nat)(v:Int):(ms.map Dt.int).set q (.int v)=(ms.set q v).map Dt.int:=by
 rw[qE9]
theorem zL9{r:Ro}{i n l:Nat}{ls:List Int}{e1 e2:EM}{z v:Int}(h:r[i]?=some (some (.lst (ls.map .int),l+1)))(he2:e2 (full r)=okR (.int v))(he1:e1 (full r)=okR (.int z))(h0:0<=z)(h1:z<ls.length) :
  sItem i n e1 e2 r=okR (.nx (r.set i (some (.lst ((ls.set z.toNat v).map .int),l+1)))):=by
 have hi:ixA (ls.map Dt.int).length z=some z.toNat:=zRD h0 (by simpa using h1);unfold sItem;rw[he2,zA0,h];dsimp only;rw[he1,zA0];dsimp only;rw[hi];dsimp only;rw[if_pos ⟨qAc _,qAc _⟩,zN8]
end Mp
namespace Mi
open PySem
section
variable(ρ:Rh)(r:Ro)(a:EM)(am:AM)
@[simp] theorem x_tL:tL a ρ=zA4 (a ρ) fun x=>match x with | .bl k=>okR k | .int i=>okR (i != 0) | .non=>okR false | .lst xs=>okR (!xs.isEmpty) | .tup xs=>okR (!xs.isEmpty)|_=>none:=rfl
@[simp] theorem x_eMl(f:List Dt->List Dt->Option Dt):eMl f a am ρ=zA4 (a ρ) fun x=>match x with | .lst xs=>zA4 (am ρ) fun ds=>optR (f xs ds)|_=>none:=rfl
@[simp] theorem x_iRv:iRv am ρ=zA4 (am ρ) fun vs=>match vs with|[.lst xs]=>okR xs.reverse|_=>none:=rfl
@[simp] theorem v_xor(i j:Int):xorD (.int i) (.int j)=some (.int (Builtin.bitXor i j)):=rfl
@[simp] theorem zaP(xs:List Dt)(k:Int):repD (.lst xs) (.int k)=@ite _ ((-4611686018427387904<=k/\k<4611686018427387904)/\xs.length*k.toNat<=100000) (qA3 _) (some (.lst (qA5 k.toNat xs).flatten)) none:=rfl
end
end Mi
namespace Mi
open PySem
@[simp] theorem zWN{α:Type}{a b:α}:okR a=okR b↔a=b:=⟨fun h=>by cases h;rfl,fun h=>by rw[h]⟩
@[simp] theorem zK2(vs:List Nat)(it:IM)(tg:Tg)(b:SM)(r:Ro):sFor vs it tg b r=zA4 (it (frz (frzAt vs r))) fun ds=>forGo tg b ds (frzAt vs r):=rfl
@[simp] theorem zCY(it:IM)(i:Nat)(b:SM)(r:Ro):sForR it i b r=zA4 (it (full r)) fun ds=>forGo (.one i) b ds r:=rfl
@[simp] theorem x_iSq(e:EM)(ρ:Rh):iSq e ρ=zA4 (e ρ) fun d=>match d with | .lst xs=>okR xs | .tup xs=>okR xs | .scr ns=>okR (ns.map .int) | .str z=>okR (signsD z)|_=>none:=rfl
@[simp] theorem x_iEn(e:AM)(ρ:Rh):iEn e ρ=zA4 (e ρ) fun vs=>match vs with|[.lst xs]=>okR (enumD 0 xs)|_=>none:=rfl
@[simp] theorem x_iZi(e:AM)(ρ:Rh):iZi e ρ=zA4 (e ρ) fun vs=>match vs with|[.lst xs,.lst ys]=>okR (zipD xs ys)|_=>none:=rfl
theorem zGO{e:AM}{ρ:Rh}{n:Nat}(h:e ρ=okR [.int n])(hn:n<=100000):iR1 e ρ=okR (nums 0 n):=by
 unfold iR1;rw[h,zA0];dsimp only;rw[if_pos (by lia)];simp
theorem zGW(n:Nat):nums 0 n=(qA6 n).map fun i:Nat=>Dt.int (i:Int):=by
 unfold nums;exact qB8 fun i _=>by simp
def nxR(x:R Out)(P:Ro->Prop):Prop:=match x with
 |some (.ok (.nx r))=>P r
 |_=>False
@[simp] theorem x_nxR(r:Ro)(P:Ro->Prop):nxR (okR (.nx r)) P=P r:=rfl
theorem zCK{x:R Out}{P:Ro->Prop}(h:nxR x P):∃r',x=okR (.nx r')/\P r':=by
 unfold nxR at h
 split at h
 ·exact⟨_,rfl,h⟩
 ·exact h.elim
theorem zAG{x:R Out}{P:Ro->Prop}{r:Ro}(h:x=okR (.nx r))(hp:P r):nxR x P:=by rw[h];exact hp
theorem zVY{i n:Nat}{e:EM}{r:Ro}{ds:List Dt}{k:Nat}{d:Dt}(h:r[i]?=some (some (.lst ds,k+1)))(he:e (full r)=okR d)(h1:ds.length<=100000)(h2:d.dep<=n)(h3:d.dep<=k):sApp i n e r=okR (.nx (r.set i (some (.lst (ds++[d]),k+1)))):=by
 unfold sApp;rw[h];dsimp only;rw[he,zA0,if_pos ⟨h1,h2,h3⟩]
theorem zKY{i j:Int}(h:-18446744073709551616<i)(h':i<18446744073709551616):mulD (.int i) (.int j)=some (.int (i*j)):=by
 rw[zOK,if_pos (.inl (.inl ⟨h,h'⟩))]
theorem zZI{i j:Int}(h:-18446744073709551616<j)(h':j<18446744073709551616):mulD (.int i) (.int j)=some (.int (i*j)):=by
 rw[zOK,if_pos (.inl (.inr ⟨h,h'⟩))]
theorem zIP{ρ:Rh}{c:TM}{e:EM}{i:Nat}(g:Nat->Dt)(n:Nat)(hc:c=tYes)(hi:i=ρ.length)(h:∀k,k<n->e (ρ++[some (.int (k:Nat))])=okR (g k))(it:IM)(hit:it ρ=okR (nums 0 n))(hn:n<=100000):eComp it 1 (.one i) c e ρ=okR (.lst ((qA6 n).map g)):=by
 subst hc hi;unfold eComp;rw[hit,zA0,if_pos ⟨by simpa[nums]using hn,by simp[Tg.idx]⟩];rw[zOD (fun d=>match d with | .int k=>g k.toNat|_=>.non) _ [] fun d hd=>?_]
 ·rw[zA0,zGW,qAu];simp only[qGj]
  congr 2
 ·rw[zGW]at hd;obtain⟨k,hk,rfl⟩:=qAm.mp hd;refine⟨_,rfl,rfl,?_⟩
  have:zAT (ρ++qA5 1 none) [(ρ.length,Dt.int (k:Int))]=ρ++[some (.int (k:Nat))]:=by
   simp[zAT]
  rw[this]
  simpa using h k (by simpa using hk)
theorem zEI{ρ:Rh}{c:TM}{e:EM}{i:Nat}{β:Type}(en:β->Dt)(g:β->Dt)(ns:List β)(hc:c=tYes)(hi:i=ρ.length)(h:∀k,k∈ns->e (ρ++[some (en k)])=okR (g k))(it:IM)(hit:it ρ=okR (ns.map en))(hn:ns.length<=100000):eComp it 1 (.one i) c e ρ=okR (.lst (ns.map g)):=by
 subst hc hi;unfold eComp;rw[hit,zA0,if_pos ⟨by simpa using hn,by simp[Tg.idx]⟩]
 have:∀(ns:List β)(acc:List Dt),(∀k,k∈ns->e (ρ++[some (en k)])=okR (g k))->compGo ρ 1 (.one ρ.length) tYes e (ns.map en) acc=okR (acc++ns.map g):=by
  intro ns
  induction ns with
  |nil=>intro acc _;simp[compGo]
  |cons d r ih=>
   intro acc h;rw[qAn,compGo];have e1:zAT (ρ++qA5 1 none) [(ρ.length,en d)]=ρ++[some (en d)]:=by simp[zAT]
   show zA4 (tYes _) _=_;simp only[zXQ,zA0,if_true];show zA4 (e (zAT (ρ++qA5 1 none) [(ρ.length,en d)])) _=_;rw[e1,h d (by simp),zA0,ih _ fun k hk=>h k (by simp[hk])];simp
 rw[this ns [] h,zA0];simp
theorem zAV{a b:SM}{r:Ro}{X:R Out}(h:∀bb:SM,bb=b->nxR (a r) fun r1=>bb r1=X):sSeq a b r=X:=by
 obtain⟨r1,h1,h2⟩:=zCK (h b rfl);unfold sSeq;rw[h1,zA0];exact h2
theorem zB8{a b:SM}{r:Ro}{P:Ro->Prop}(h:∀bb:SM,bb=b->nxR (a r) fun r1=>nxR (bb r1) P):nxR (sSeq a b r) P:=by
 obtain⟨r1,h1,h2⟩:=zCK (h b rfl);unfold sSeq;rw[h1,zA0];exact h2
theorem zBG{P n:Nat}{b:SM}{ds:List Dt}{d:Dt}(h:ds.length=P)(hb:b (startO n ds)=okR (.rt d)):runF P n b ds=okR d:=by
 unfold runF;rw[if_pos h,hb];rfl
theorem zKU{j n:Nat}{b:SM}{r:Ro}{X:Ro->Prop}(Pv:Nat->Ro->Prop)(h:Pv 0 r)(hs:∀k,k<n->∀r,Pv k r->nxR (b (r.set j (some (.int (k:Nat),0)))) (Pv (k+1)))(hK:∀r',Pv n r'->X r'):nxR (forGo (.one j) b (nums 0 n) r) X:=by
 obtain⟨r',h1,h2⟩:∃r',forGo (.one j) b (nums 0 n) r=okR (.nx r')/\Pv n r':=by
  obtain⟨r',h1,h2⟩:=zJO (tg:=.one j) (b:=b) Pv (nums 0 n) 0 r h fun k d r hd hp=>by
   rw[zGW,qAb]at hd;cases e:(qA6 n)[k]? with
   |none=>rw[e]at hd;cases hd
   |some q=>
    rw[e]at hd;cases hd;obtain⟨h1,h2⟩:=qA4.mp e;rw[qBc]at h2;subst h2;rw[qBv]at hp;obtain⟨r',g1,g2⟩:=zCK (hs k (by simpa using h1) r hp);exact⟨_,r',rfl,g1,by rw[qBv];exact g2⟩
  exact⟨r',h1,by simpa[nums]using h2⟩
 rw[h1];exact hK r' h2
theorem zF4{γ:Type}{j:Nat}{b:SM}{r:Ro}{X:Ro->Prop}(en:γ->Dt)(ns:List γ)(Pv:Nat->Ro->Prop)(h:Pv 0 r)(hs:∀k x,ns[k]?=some x->∀r,Pv k r->nxR (b (r.set j (some (en x,0)))) (Pv (k+1)))(hK:∀r',Pv ns.length r'->X r'):nxR (forGo (.one j) b (ns.map en) r) X:=by
 obtain⟨r',h1,h2⟩:=zJO (tg:=.one j) (b:=b) Pv (ns.map en) 0 r h fun k d r hd hp=>by
  rw[qAb]at hd;cases e:ns[k]? with
  |none=>rw[e]at hd;cases hd
  |some q=>
   rw[e]at hd;cases hd;rw[qBv]at hp;obtain⟨r',g1,g2⟩:=zCK (hs k q e r hp);exact⟨_,r',rfl,g1,by rw[qBv];exact g2⟩
 rw[h1];exact hK r' (by simpa using h2)
theorem zJH{c:TM}{b:SM}{r:Ro}{X:Ro->Prop}(Pv:Ro->Prop)(μ:Ro->Nat)(Rv:Ro->Prop)(h0:Pv r)(hm:μ r<1000000)(hc:∀r,Pv r->(c (full r)=okR false/\Rv r)\/(c (full r)=okR true/\nxR (b r) fun r'=>Pv r'/\μ r'<μ r))(hK:∀r',Rv r'->X r'):nxR (sWhile c b r) X:=by
 obtain⟨r',h1,h2⟩:=zOS Pv μ Rv h0 hm fun r hr=>(hc r hr).imp (fun z=>z) fun z=>⟨z.1,zCK z.2⟩
 rw[h1];exact hK r' h2
theorem zKZ:∀(a b:List Char),a.map qHu=b.map qHu->a=b
 |[],[],_=>rfl
 |[],_::_,h=>by simp at h
 |_::_,[],h=>by simp at h
 |x::r,y::q,h=>by
  simp only[qAn,List.cons.injEq]at h;rw[zKZ r q h.2]
  have:x=y:=Char.toNat_inj.mp h.1
  rw[this]
@[simp] theorem str_inj(a b:String):(Str.ofString a=Str.ofString b)↔a=b:=by
 constructor
 ·intro h;rw[Str.ofString_eq_toList,Str.ofString_eq_toList]at h;simp only[Str.mk.injEq,List.toArray_inj]at h
  have:=zKZ _ _ (by simpa using h)
  exact String.toList_inj.mp this
 ·intro h;rw[h]
theorem zO7:∀(ds:List Dt)(n i:Nat)(d:Dt),(enumD n ds)[i]?=some d->∃e,ds[i]?=some e/\d=.tup [.int ((n+i:Nat):Int),e]
 |[],_,_,_,h=>by simp[enumD]at h
 |x::r,n,0,d,h=>by simp[enumD]at h;exact⟨x,by simp,by rw[<- h];rfl⟩
 |x::r,n,i+1,d,h=>by
  rw[enumD]at h;obtain⟨e,h1,h2⟩:=zO7 r (n+1) i d (by simpa using h);exact⟨e,by simpa using h1,by rw[h2,show n+1+i=n+(i+1) by lia]⟩
theorem zJP:∀(ds:List Dt)(n:Nat),(enumD n ds).length=ds.length
 |[],_=>rfl
 |_::r,n=>by rw[enumD,qB6,qB6,zJP r]
theorem zWQ{a b:Nat}{s:SM}{r:Ro}{X:Ro->Prop}(xs:List Dt)(Pv:Nat->Ro->Prop)(h:Pv 0 r)(hs:∀k x,xs[k]?=some x->∀r,Pv k r->nxR (s ((r.set a (some (.int (k:Nat),0))).set b (some (x,0)))) (Pv (k+1)))(hK:∀r',Pv xs.length r'->X r'):nxR (forGo (.tup [a,b]) s (enumD 0 xs) r) X:=by
 obtain⟨r',h1,h2⟩:=zJO (tg:=.tup [a,b]) (b:=s) Pv (enumD 0 xs) 0 r h fun k d r hd hp=>by
  obtain⟨e,g1,rfl⟩:=zO7 xs 0 k d hd;rw[qBv]at hp;obtain⟨r',g2,g3⟩:=zCK (hs k e g1 r hp);refine⟨_,r',rfl,?_,by rw[qBv];exact g3⟩;rw[qBv];exact g2
 rw[h1];exact hK r' (by simpa[zJP]using h2)
theorem zW5(s:String):(Str.ofString s).length=s.length:=by
 rw[Str.ofString_eq_toList];simp[Str.length];rfl
end Mi
namespace Mi
open PySem
section
variable(ρ:Rh)(a:EM)(am:AM)(lo hi:OM)
@[simp] theorem zXT:eSl a lo hi ρ=zA4 (a ρ) fun x=>zA4 (lo ρ) fun l=>zA4 (hi ρ) fun h=>optR (slD x l h):=rfl
@[simp] theorem zXR:oNo ρ=okR none:=rfl
@[simp] theorem x_oE:oE a ρ=zA4 (a ρ) fun d=>match d with | .int i=>okR (some i)|_=>none:=rfl
@[simp] theorem zPI(f:Dt->List Dt->Option Dt):eMt f a am ρ=zA4 (a ρ) fun x=>if zO2 x=true then zA4 (am ρ) fun xs=>optR (f x xs)else none:=rfl
@[simp] theorem v_isStr(z:Str):zO2 (.str z)=true:=rfl
end
@[simp] theorem v_slL(xs:List Dt)(l h:Option Int):slD (.lst xs) l h=some (.lst (cutA xs l h)):=rfl
@[simp] theorem v_slS(z:Str)(l h:Option Int):slD (.str z) l h=@ite _ (z.length<=100000) (qA3 _) (some (.str ⟨(cutA z.cps.toList l h).toArray⟩)) none:=rfl
@[simp] theorem v_ixSt(z:Str)(i:Int):ixD (.str z) (.int i)=@ite _ (z.length<=100000) (qA3 _) ((itA z.cps.toList i).map fun c=>.str ⟨#[c]⟩) none:=rfl
@[simp] theorem v_lenSt(z:Str):lenD [.str z]=@ite _ (z.length<=100000) (qA3 _) (some (.int z.length)) none:=rfl
@[simp] theorem v_count1(z:Str)(c:Nat):zaD (.str z) [.str ⟨#[c]⟩]=some (.int (z.cps.toList.count c:Nat)):=rfl
@[simp] theorem v_in1(ng:Bool)(z:Str)(c:Nat):inD ng (.str ⟨#[c]⟩) (.str z)=some (.bl (if ng=true then !decide (c∈z.cps.toList)else decide (c∈z.cps.toList))):=rfl
@[simp] theorem v_find1(z:Str)(c:Nat):findD (.str z) [.str ⟨#[c]⟩]=some (.int (match posC c z.cps.toList with|some i=>(i:Int)|none=>-1)):=rfl
theorem zVP{α:Type}(xs:List α)(k:Nat):cutA xs none (some (k:Int))=xs.take k:=by
 unfold cutA cutIx;simp only[qDm,Nat.sub_zero];rw[if_neg (by lia)]
 by_cases h:k<=xs.length
 ·rw[show min (k:Int).toNat xs.length=k by lia]
 ·rw[show min (k:Int).toNat xs.length=xs.length by lia,qD1,qEx (by lia)]
theorem zOA{α:Type}(xs:List α)(k:Nat):cutA xs (some (k:Int)) none=xs.drop k:=by
 unfold cutA cutIx;dsimp only;rw[if_neg (by lia)]
 by_cases h:k<=xs.length
 ·rw[show min (k:Int).toNat xs.length=k by lia];exact qEx (by simp)
 ·rw[show min (k:Int).toNat xs.length=xs.length by lia];simp
  lia
theorem zM2(a b:Str):(a++b).cps.toList=a.cps.toList++b.cps.toList:=by
 show(Str.mk (a.cps++b.cps)).cps.toList=_
 simp
theorem zME(z:Str):z.length=z.cps.toList.length:=by
 unfold Str.length;simp
theorem zL4(l:List Nat):(Str.mk l.toArray).length=l.length:=by rw[zME]
end Mi
namespace Mi
open PySem
end Mi
namespace Mp
open Mi PySem
theorem sg{i n:Nat}{vs:List Nat}{e:EM}{b:SM}{r:Ro}{d:Dt}{X:R Out}(he:e (full r)=okR d)(hd:d.dep<=n)(h:b (r.set i (some (d,n)))=X):sSeq (sSet i n vs e) b r=X:=by
 rw[zGK,zH4,he,zA0,if_pos hd,zA0];exact h
theorem sgf{i n:Nat}{vs:List Nat}{e:EM}{b:SM}{r:Ro}{d:Dt}{X:R Out}(he:e (full r)=okR d)(hd:¬d.dep<=n)(he2:e (frz (frzAt vs r))=okR d)(h:b ((frzAt vs r).set i (some (d,n)))=X):sSeq (sSet i n vs e) b r=X:=by
 rw[zGK,zH4,he,zA0,if_neg hd,he2,zA0,zA0];exact h
theorem sp{c:TM}{a b:SM}{r:Ro}{X:R Out}(hc:c (full r)=okR false)(h:b r=X):sSeq (sIf c a sNil) b r=X:=by
 rw[zGK,zOH,hc,zA0,if_neg (by simp),zUL,zA0];exact h
theorem st{c:TM}{a b:SM}{r r':Ro}{X:R Out}(hc:c (full r)=okR true)(ha:a r=okR (.nx r'))(h:b r'=X):sSeq (sIf c a sNil) b r=X:=by
 rw[zGK,zOH,hc,zA0,if_pos rfl,ha,zA0];exact h
theorem su{is vs:List Nat}{e:EM}{b:SM}{r:Ro}{ds:List Dt}{X:R Out}(he:e (frz (frzAt vs r))=okR (.tup ds))(hl:ds.length=is.length)(h:b (zAY (frzAt vs r) (is.zip ds))=X):sSeq (sUnp is vs e) b r=X:=by
 rw[zGK];unfold sUnp;rw[he,zA0,zAS,if_pos hl];exact h
theorem c2{m:FM}{e1 e2:EM}{ρ:Rh}{d1 d2:Dt}{X:R Dt}(h1:e1 ρ=okR d1)(h2:e2 ρ=okR d2)(h:m [d1,d2]=X):eCall m (aCons e1 (aCons e2 aNil)) ρ=X:=by
 simp only[zFW,zAW,zBU,h1,h2,zA0];exact h
theorem c1{m:FM}{e1:EM}{ρ:Rh}{d1:Dt}{X:R Dt}(h1:e1 ρ=okR d1)(h:m [d1]=X):eCall m (aCons e1 aNil) ρ=X:=by
 simp only[zFW,zAW,zBU,h1,zA0];exact h
theorem c4{m:FM}{e1 e2 e3 e4:EM}{ρ:Rh}{d1 d2 d3 d4:Dt}{X:R Dt}(h1:e1 ρ=okR d1)(h2:e2 ρ=okR d2)(h3:e3 ρ=okR d3)(h4:e4 ρ=okR d4)(h:m [d1,d2,d3,d4]=X):eCall m (aCons e1 (aCons e2 (aCons e3 (aCons e4 aNil)))) ρ=X:=by
 simp only[zFW,zAW,zBU,h1,h2,h3,h4,zA0];exact h
theorem b2{o:Dt->Dt->Option Dt}{e1 e2:EM}{ρ:Rh}{d1 d2 d:Dt}(h1:e1 ρ=okR d1)(h2:e2 ρ=okR d2)(h:o d1 d2=some d):eB o e1 e2 ρ=okR d:=by
 rw[x_eB,h1,zA0,h2,zA0,h];rfl
theorem bi1{o:List Dt->Option Dt}{e1:EM}{ρ:Rh}{d1 d:Dt}(h1:e1 ρ=okR d1)(h:o [d1]=some d):eBi o (aCons e1 aNil) ρ=okR d:=by
 simp only[zOI,zAW,zBU,h1,zA0,h];rfl
theorem el2{e1 e2:EM}{ρ:Rh}{d1 d2:Dt}(h1:e1 ρ=okR d1)(h2:e2 ρ=okR d2):eLst (aCons e1 (aCons e2 aNil)) ρ=okR (.lst [d1,d2]):=by simp[h1,h2]
theorem el1{e1:EM}{ρ:Rh}{d1:Dt}(h1:e1 ρ=okR d1):eLst (aCons e1 aNil) ρ=okR (.lst [d1]):=by simp[h1]
theorem tb1{e:EM}{ρ:Rh}{k:Bool}(h:e ρ=okR (.bl k)):tB e ρ=okR k:=by rw[x_tB,h,zA0]
theorem ss{i n:Nat}{vs:List Nat}{e:EM}{r:Ro}{d:Dt}(he:e (full r)=okR d)(hd:d.dep<=n):sSet i n vs e r=okR (.nx (r.set i (some (d,n)))):=by
 rw[zH4,he,zA0,if_pos hd]
theorem sr{L n:Nat}{vs:List Nat}{e:EM}{r:Ro}{d:Dt}(he:e (full r)=okR d)(hd:d.dep<=n/\d.dep<=L):sRet L n vs e r=okR (.rt d):=by
 rw[zMY,he,zA0,if_pos hd]
theorem tl{k k':Bool}{x:Option Dt}(h:x=some (.bl k))(e:k=k'):x=some (.bl k'):=e▸h
theorem sl0{a b:EM}{ρ:Rh}{x d:Dt}{i:Int}(h1:a ρ=okR x)(h2:b ρ=okR (.int i))(h:slD x none (some i)=some d):eSl a oNo (oE b) ρ=okR d:=by
 rw[zXT,h1,zA0,zXR,zA0,x_oE,h2,zA0,zA0,h];rfl
theorem sl1{a b:EM}{ρ:Rh}{x d:Dt}{i:Int}(h1:a ρ=okR x)(h2:b ρ=okR (.int i))(h:slD x (some i) none=some d):eSl a (oE b) oNo ρ=okR d:=by
 rw[zXT,h1,zA0,x_oE,h2,zA0,zA0,zXR,zA0,h];rfl
theorem sf{c:TM}{a:SM}{r:Ro}(hc:c (full r)=okR false):sIf c a sNil r=okR (.nx r):=by
 rw[zOH,hc,zA0,if_neg (by simp),zUL]
theorem mt1{f:Dt->List Dt->Option Dt}{a e:EM}{ρ:Rh}{x y d:Dt}(h1:a ρ=okR x)(hs:zO2 x=true)(h2:e ρ=okR y)(h:f x [y]=some d):eMt f a (aCons e aNil) ρ=okR d:=by
 rw[zPI,h1,zA0,if_pos hs,zAW,h2,zA0,zBU,zA0,zA0,h];rfl
theorem eqi{e1 e2:EM}{ρ:Rh}{a b:Int}{k:Bool}(h1:e1 ρ=okR (.int a))(h2:e2 ρ=okR (.int b))(h:decide (a=b)=k):tB (eB eqD e1 e2) ρ=okR k:=by
 refine tb1 (b2 h1 h2 ?_);rw[<- h];simp[Dt.eq];rfl
theorem mdi{i j k:Int}(h:0<j)(e:i%j=k):modD (.int i) (.int j)=some (.int k):=by rw[<- e];exact if_pos h
theorem dvi{i j:Int}(h:0<j/\j<1000000000000000000000000):divD (.int i) (.int j)=some (.int (i/j)):=@if_pos _ (qA3 _) h _ _ _
theorem c3{m:FM}{e1 e2 e3:EM}{ρ:Rh}{d1 d2 d3:Dt}{X:R Dt}(h1:e1 ρ=okR d1)(h2:e2 ρ=okR d2)(h3:e3 ρ=okR d3)(h:m [d1,d2,d3]=X):eCall m (aCons e1 (aCons e2 (aCons e3 aNil))) ρ=X:=by
 simp only[zFW,zAW,zBU,h1,h2,h3,zA0];exact h
theorem ned{e1 e2:EM}{ρ:Rh}{x y:Dt}{b k:Bool}(h1:e1 ρ=okR x)(h2:e2 ρ=okR y)(d1:x.dep<=40)(d2:y.dep<=40)(h:Dt.eq x y=b)(hk:(!b)=k):tB (eB neD e1 e2) ρ=okR k:=by
 refine tb1 (b2 h1 h2 ?_);unfold neD;rw[if_pos ⟨d1,d2⟩,h,hk]
theorem sk{c:TM}{a b:SM}{r:Ro}{X:R Out}(hc:c (full r)=okR true)(ha:a r=X):sIf c a b r=X:=by
 rw[zOH,hc,zA0,if_pos rfl];exact ha
theorem el0{ρ:Rh}:eLst aNil ρ=okR (.lst []):=by simp
theorem sw{s t:SM}{r r':Ro}{X:R Out}(h:s r=okR (.nx r'))(h2:t r'=X):sSeq s t r=X:=by rw[zGK,h,zA0];exact h2
theorem s2s{i n:Nat}{vs:List Nat}{e:EM}{r:Ro}{d:Dt}(h1:e (full r)=okR d)(h2:e (frz (frzAt vs r))=okR d)(hr:frzAt vs r=r):sSet i n vs e r=okR (.nx (r.set i (some (d,n)))):=by
 rw[zH4,h1,zA0]
 by_cases z:d.dep<=n
 ·rw[if_pos z]
 ·rw[if_neg z,h2,zA0,hr]
theorem v1{i:Nat}{ρ:Rh}{d:Dt}(h:ρ[i]?=some (some d)):eV i ρ=okR d:=by rw[x_eV,h]
theorem al0{e:EM}{ρ:Rh}{d:Dt}(h:e ρ=okR d):aCons e aNil ρ=okR [d]:=by rw[zAW,h];rfl
theorem adi{a b c:Int}(h:a+b=c):addD (.int a) (.int b)=some (.int c):=by rw[<- h];rfl
theorem k1{d d':Dt}{ρ:Rh}(h:d=d'):eC d ρ=okR d':=by rw[<- h];rfl
noncomputable def rowD(r:List Int):Dt:=.lst (r.map .int)
def mat(A:List (List Int)):Dt:=.lst (A.map rowD)
def Bits(n:Nat)(f:Nat->Nat->Int):Prop:=∀i j,i<n->j<n->f i j=0\/f i j=1
def Sym(n:Nat)(f:Nat->Nat->Int):Prop:=∀i j,i<n->j<n->f i j=f j i
@[simp] theorem zC9(r:List Int):(rowD r).dep=1:=by simp[rowD]
@[simp] theorem lenR(r:List Int):lenD [rowD r]=some (.int r.length):=by
 show some (Dt.int ((r.map Dt.int).length:Int))=_;rw[qAg]
@[simp] theorem listR(r:List Int):listD [rowD r]=some (rowD r):=rfl
@[simp] theorem lenM(A:List (List Int)):lenD [mat A]=some (.int A.length):=by
 show some (Dt.int ((A.map rowD).length:Int))=_;rw[qAg]
theorem zVI(a b:List Int):Dt.eq (rowD a) (rowD b)=decide (a=b):=by
 unfold rowD;rw[v_e4,zH2]
theorem zJW{ρ:Rh}{e:EM}{it:IM}{i n:Nat}(g:Nat->Int)(hi:i=ρ.length)(hn:n<=1000)(h1:it ρ=okR (nums 0 n))(h:∀a,a<n->e (ρ++[some (.int (a:Nat))])=okR (.int (g a))):eComp it 1 (.one i) tYes e ρ=okR (rowD ((qA6 n).map g)):=by
 rw[zIP (fun b=>.int (g b)) n rfl hi (fun b hb=>h b hb) it h1 (by lia)];unfold rowD;rw[qAu];rfl
def Bit(x:Int):Prop:=x=0\/x=1
def RowN(n:Nat)(r:List Int):Prop:=r.length=n/\∀x∈r,Bit x
theorem zLJ(r:List Int)(l h:Option Int):slD (rowD r) l h=some (rowD (cutA r l h)):=by
 show some (Dt.lst (cutA (r.map Dt.int) l h))=_;unfold cutA rowD;simp
theorem zbE(r:List Int)(i:Nat)(h:i<r.length):ixD (rowD r) (.int (i:Int))=some (.int (r.getD i 0)):=by
 have:=zTS (ns:=r) (i:=(i:Int)) (by lia) (by lia)
 rw[qCs]at this;exact this
noncomputable def sumN(n:Nat)(f:Nat->Int):Int:=((qA6 n).map f).sum
theorem zbI{ds:List Dt}(h:∀d∈ds,d.dep=0):Dt.depL ds=0:=by
 induction ds with
 |nil=>simp
 |cons a r ih=>rw[zIY,h a (by simp),ih fun d hd=>h d (by simp[hd])];rfl
theorem zLU{r:Ro}{j i k l:Nat}{e:EM}{z:Int}{ds es:List Dt}{c:Dt}(hi:r[i]?=some (some (.lst ds,k+1)))(hj:r[j]?=some (some (.lst es,l+1)))(he:e (full r)=okR (.int z))(h0:0<=z)(h1:z<ds.length)(hc:ds[z.toNat]?=some c)(hf:c.dep=0)(hij:i≠j)(hz:ds.length<=1000)(hz2:es.length<=1000)(hk:k<1000) :
  sAppPop j i e r=okR (.nx ((r.set i (some (.lst (ds.eraseIdx z.toNat),k+1))).set j (some (.lst (es++[c]),l+1)))):=by
 unfold sAppPop;rw[hj,hi];dsimp only;rw[he,zA0];dsimp only;rw[zRD h0 h1];dsimp only;rw[hc];dsimp only;rw[if_pos ⟨hij,by lia,by lia,.inr ⟨by lia,by lia,hk⟩⟩]
noncomputable def zWX(i:Nat)(r:Ro):Nat:=match r[i]? with
 |some (some (Dt.lst lf,_))=>lf.length
 |_=>0
noncomputable def numL(ks:List Nat):List Int:=ks.map fun k:Nat=>(k:Int)
theorem numD(ks:List Nat):rowD (numL ks)=.lst (ks.map fun k:Nat=>Dt.int (k:Int)):=by
 unfold rowD numL;rw[qAu];rfl
theorem zC8{ks:List Nat}{n a:Nat}(hk:∀k∈ks,k<n)(ha:a<ks.length):ks.getD a 0<n:=by
 refine hk _ ?_;rw[qA0,qA1 ha];simp
noncomputable def sub(ks:List Nat)(f:Nat->Nat->Int):Nat->Nat->Int:=fun a b=>f (ks.getD a 0) (ks.getD b 0)
noncomputable def sgn(c:Nat):Dt:=.str ⟨#[c]⟩
theorem zU1(cs:List Nat):∀d∈cs.map sgn,d.dep=0:=by
 intro d hd;obtain⟨c,_,rfl⟩:=qAm.mp hd;rfl
@[simp] theorem depL_sgn(cs:List Nat):Dt.depL (cs.map sgn)=0:=zbI (zU1 cs)
theorem zN4:∀cs:List Nat,strsD (cs.map sgn)=some (cs.map fun c=>⟨#[c]⟩)
 |[]=>rfl
 |c::r=>by
  show(strsD (r.map sgn)).map _=_
  rw[zN4 r];rfl
theorem zFO:(Str.ofString "").cps.toList=[]:=by
 rw[Str.ofString_eq_toList];rfl
theorem zNZ:∀zs:List Str,(Str.join (Str.ofString "") zs).cps.toList=(zs.map (·.cps.toList)).flatten
 |[]=>rfl
 |[x]=>by simp[Str.join]
 |x::y::r=>by
  rw[Str.join,zM2,zM2,zFO,zNZ (y::r)]
  ·simp
  ·simp
theorem zSU(cs:List Nat):((cs.map fun c=>(⟨#[c]⟩:Str)).map (·.length)).sum=cs.length:=by
 induction cs with
 |nil=>rfl
 |cons c r ih=>simp only[qAn,List.sum_cons,ih,qB6];show 1+r.length=_;lia
theorem zR6:(Str.ofString "").length=0:=by rw[zME,zFO];rfl
theorem zGZ(cs:List Nat)(hz:cs.length<=100000):joinD (.str (Str.ofString "")) [.lst (cs.map sgn)]=some (.str ⟨cs.toArray⟩):=by
 show(match strsD (cs.map sgn)with|some zs=>_|none=>none)=_
 rw[zN4];dsimp only;rw[if_pos (by rw[zSU,zR6];lia)]
 congr 2
 have h:=zNZ (cs.map fun c=>(⟨#[c]⟩:Str));have e:(List.map (·.cps.toList) (cs.map fun c=>(⟨#[c]⟩:Str))).flatten=cs:=by
  rw[qAu];clear h hz
  induction cs with
  |nil=>rfl
  |cons c r ih=>simpa using ih
 rw[e]at h
 generalize Str.join (Str.ofString "") (cs.map fun c=>(⟨#[c]⟩:Str))=z at h ⊢
 obtain⟨a⟩:=z;simp at h;rw[<- h]
theorem zXM:(Str.ofString "abcdefghijklmnopqrstuvwxyz").length=26:=by rw[zW5];decide
end Mp
namespace Mp
noncomputable def ords(row:List Nat):List Nat:=row.foldl (fun o p=>if p∈o then o else o++[p]) []
theorem zCD(row:List Nat)(p:Nat):ords (row++[p])=if p∈ords row then ords row else ords row++[p]:=by
 unfold ords;rw[qCt];rfl
theorem zEZ{α:Type}{P:List α->Prop}(h0:P [])(h1:∀l a,P l->P (l++[a])):∀l,P l:=by
 intro l
 have:∀m:List α,P m.reverse:=by
  intro m
  induction m with
  |nil=>exact h0
  |cons a r ih=>rw[qFz];exact h1 _ _ ih
 have h:=this l.reverse
 rwa [qFe]at h
theorem ords_mem:∀(row:List Nat)(x:Nat),x∈ords row↔x∈row:=by
 refine zEZ (fun x=>by simp[ords]) fun l a ih x=>?_
 rw[zCD]
 split
 ·rename_i h
  rw[ih x,qBa,qC6];constructor
  ·exact .inl
  ·rintro(h'|rfl)
   ·exact h'
   ·exact(ih x).mp h
 ·rw[qBa,qBa,ih x]
theorem ords_nodup:∀row:List Nat,(ords row).Nodup:=by
 refine zEZ (by simp[ords]) fun l a ih=>?_
 rw[zCD]
 split
 ·exact ih
 ·rename_i h
  rw[qDl];exact⟨ih,by simp,fun x hx y hy z=>h (by rw[qC6]at hy;rw[<- hy,<- z];exact hx)⟩
theorem zII:∀row:List Nat,ords row=((qA6 row.length).filter fun k=>decide (row.idxOf (row.getD k 0)=k)).map fun k=>row.getD k 0:=by
 refine zEZ (by simp[ords]) fun l a ih=>?_
 rw[zCD,ih,qB2,qDq,qBu,List.filter_append,qBg];have e1:∀k,k<l.length->(l++[a]).getD k 0=l.getD k 0:=fun k hk=>by
  rw[qA0,qA0,qA8 hk]
 have e2:(l++[a]).getD l.length 0=a:=by
  rw[qA0,qA9 (qAa _)];simp
 have e3:((qA6 l.length).filter fun k=>decide ((l++[a]).idxOf ((l++[a]).getD k 0)=k))=(qA6 l.length).filter fun k=>decide (l.idxOf (l.getD k 0)=k):=by
  refine qG0 fun k hk=>?_
  have hk':k<l.length:=by simpa using hk
  have hm:l.getD k 0∈l:=by rw[qA0,qA1 hk'];simp
  rw[e1 k hk',qCu,if_pos hm]
 have e4:(((qA6 l.length).filter fun k=>decide (l.idxOf (l.getD k 0)=k)).map fun k=>(l++[a]).getD k 0)=((qA6 l.length).filter fun k=>decide (l.idxOf (l.getD k 0)=k)).map fun k=>l.getD k 0:=by
  refine qB8 fun k hk=>?_
  have:=(qC2.mp hk).1
  exact e1 k (by simpa using this)
 rw[e3,e4,<- ih]
 by_cases h:a∈ords l
 ·have ha:=(ords_mem l a).mp h;rw[if_pos h,qEo]
  ·simp
  ·rw[e2,qCu,if_pos ha]
   have:=qAl ha
   simp
   lia
 ·have ha:¬a∈l:=fun z=>h ((ords_mem l a).mpr z)
  rw[if_neg h,qEp]
  ·simp[e2]
  ·rw[e2,qCu,if_neg ha];simp
noncomputable def puts(S:List (Nat×Int))(N:List Int):List Int:=S.foldl (fun N p=>N.set p.1 p.2) N
theorem zQK{S S':List (Nat×Int)}(h:S.Perm S')(hd:∀x∈S,∀y∈S,x.1=y.1->x.2=y.2)(N:List Int):puts S N=puts S' N:=by
 unfold puts;refine List.Perm.foldl_eq' h (fun x hx y hy z=>?_) N
 by_cases e:x.1=y.1
 ·rw[e,hd x hx y hy e,List.set_set]
 ·rw[List.set_comm _ _ e]
def inA(row:List Nat)(a:Nat):Nat:=4*(ords row).idxOf (row.getD a 0)+2*(row.take a).count (row.getD a 0)
theorem zX6{l:List Nat}{x y:Nat}(hx:x∈l)(h:l.idxOf x=l.idxOf y):x=y:=by
 have h1:=qAl hx;have e1:=qCn h1;have h2:l.idxOf y<l.length:=by rw[<- h];exact h1
 have e2:=qCn h2;rw[<- e1,<- e2]
 congr 1
theorem zOC{row:List Nat}{a b:Nat}(hab:a<b)(hb:b<row.length)(h:row.getD a 0=row.getD b 0):(row.take a).count (row.getD a 0)<(row.take b).count (row.getD b 0):=by
 have ha:a<row.length:=by lia
 have e:row.take b=row.take a++(row.drop a).take (b-a):=by
  rw[<- List.take_add]
  congr 1
  lia
 rw[<- h,e,qBs];have hd:(row.drop a).take (b-a)=row[a]::(row.drop (a+1)).take (b-a-1):=by
  rw[qB4 ha,show b-a=(b-a-1)+1 by lia,qFk];simp
 have hg:row.getD a 0=row[a]:=by rw[qA0,qA1 ha];rfl
 rw[hd,hg,qFf]
 lia
theorem zJN{row:List Nat}(h1:∀a,a<row.length->(row.take a).count (row.getD a 0)<=1){a b:Nat}(ha:a<row.length)(hb:b<row.length)(h:inA row a=inA row b):a=b:=by
 unfold inA at h;have ca:=h1 a ha;have cb:=h1 b hb;have hi:(ords row).idxOf (row.getD a 0)=(ords row).idxOf (row.getD b 0):=by lia
 have hc:(row.take a).count (row.getD a 0)=(row.take b).count (row.getD b 0):=by lia
 have hm:row.getD a 0∈ords row:=(ords_mem row _).mpr (by rw[qA0,qA1 ha];simp);have he:=zX6 hm hi
 rcases qCf a b with z|z|z
 ·have:=zOC z hb he;lia
 ·exact z
 ·have:=zOC z ha he.symm;lia
def tieP(row:List Nat)(a:Nat):List (Nat×Int):=[(inA row ((a+row.length-1)%row.length)+1,(inA row a:Int)),(inA row a,((inA row ((a+row.length-1)%row.length)+1:Nat):Int))]
theorem zPU{row:List Nat}(h1:∀a,a<row.length->(row.take a).count (row.getD a 0)<=1){a b:Nat}(ha:a<row.length)(hb:b<row.length):∀x∈tieP row a,∀y∈tieP row b,x.1=y.1->x.2=y.2:=by
 have hL:0<row.length:=by lia
 have ma:=qBt (a+row.length-1) hL;have mb:=qBt (b+row.length-1) hL;have pinj:(a+row.length-1)%row.length=(b+row.length-1)%row.length->a=b:=fun h=>by
  by_cases za:a=0
  ·subst za;rw[show 0+row.length-1=row.length-1 by lia,qAs (show row.length-1<row.length by lia)]at h
   by_cases zb:b=0
   ·exact zb.symm
   ·rw[show b+row.length-1=(b-1)+row.length by lia,qCg,qAs (by lia)]at h
    lia
  ·rw[show a+row.length-1=(a-1)+row.length by lia,qCg,qAs (by lia)]at h
   by_cases zb:b=0
   ·subst zb;rw[show 0+row.length-1=row.length-1 by lia,qAs (show row.length-1<row.length by lia)]at h
    lia
   ·rw[show b+row.length-1=(b-1)+row.length by lia,qCg,qAs (by lia)]at h
    lia
 have ev:∀c,inA row c%2=0:=fun c=>by unfold inA;lia
 intro x hx y hy hxy;simp only[tieP,qAk,List.not_mem_nil,or_false]at hx hy;have eva:=ev a;have evb:=ev b;have evpa:=ev ((a+row.length-1)%row.length);have evpb:=ev ((b+row.length-1)%row.length)
 rcases hx with rfl|rfl<;>rcases hy with rfl|rfl
 ·have:=pinj (zJN h1 ma mb (by simpa using hxy))
  subst this;rfl
 ·simp at hxy;lia
 ·simp at hxy;lia
 ·have:=zJN h1 ha hb (by simpa using hxy)
  subst this;rfl
end Mp
namespace Mp
open Mi PySem
theorem zBP{α:Type}[DecidableEq α]:∀(l1 l2:List α),l1.Nodup->(∀x∈l1,x∈l2)->l1.length<=l2.length
 |[],_,_,_=>by simp
 |a::r,l2,h,hs=>by
  have ha:=hs a (by simp);rw[qB1]at h
  have:=zBP r (l2.erase a) h.2 fun x hx=>(qCy (fun z:x=a=>h.1 (by rw[<- z];exact hx))).mpr (hs x (by simp[hx]))
  rw[qCh ha]at this
  have:=qCm ha
  simp
  lia
theorem zFJ{r:Ro}{i m l a:Nat}{xs:List Int}{v:Int}{e1 e2:EM}(h:r[i]?=some (some (rowD xs,l+1)))(h2:e2 (full r)=okR (.int v))(h1:e1 (full r)=okR (.int (a:Nat)))(ha:a<xs.length):sItem i m e1 e2 r=okR (.nx (r.set i (some (rowD (xs.set a v),l+1)))):=by
 unfold sItem;rw[h2,zA0,h];show zA4 (e1 (full r)) _=_;rw[h1,zA0];dsimp only;rw[zRD (by lia) (by simp;lia)];dsimp only;rw[if_pos ⟨qAc _,qAc _⟩,qCs];unfold rowD;rw[qE9]
theorem zEL(ks:List Nat)(a:Nat)(h:a<ks.length):ixD (rowD (numL ks)) (.int (a:Int))=some (.int (ks.getD a 0:Nat)):=by
 have i1:=zbE (numL ks) a (by simp[numL];exact h);rw[show(numL ks).getD a 0=((ks.getD a 0:Nat):Int) by
  unfold numL;simp[qA0,qA1 h]]at i1
 exact i1
theorem zNF(n:Nat)(hn:n<=10000):repD (.lst [.int 0]) (.int (n:Int))=some (rowD (qA5 n 0)):=by
 rw[zaP,if_pos (by simp;lia)]
 have:∀m:Nat,(qA5 m [Dt.int 0]).flatten=qA5 m (Dt.int 0):=by
  intro m
  induction m with
  |zero=>rfl
  |succ m ih=>rw[qB7,qAv,ih];rfl
 rw[qCs,this];unfold rowD;rw[List.map_replicate]
def lawS(row:List Nat)(k:Nat):List (Nat×Int):=((qA6 k).map fun k=>tieP row ((k+1)%row.length)).flatten
theorem zGU(S:List (Nat×Int)):∀N:List Int,(puts S N).length=N.length:=by
 unfold puts
 induction S with
 |nil=>intro N;rfl
 |cons a r ih=>intro N;rw[qDa,ih,qC3]
theorem zQL{k L:Nat}(hk:k<L):((k+1)%L+L-1)%L=k:=by
 by_cases h:k+1=L
 ·subst h;rw[qF6,show 0+(k+1)-1=k by lia];exact qAs (by lia)
 ·rw[qAs (show k+1<L by lia),show k+1+L-1=k+L by lia,qCg];exact qAs hk
theorem zMS{ρ:Rh}{e:EM}{c:TM}{i j:Nat}(xs:List Dt)(g:Nat->Dt)(f:Nat->Bool)(hi:i=ρ.length)(hj:j=ρ.length+1)(it:IM)(hit:it ρ=okR (enumD 0 xs))(hn:xs.length<=100000)(hc:∀k x,xs[k]?=some x->c (ρ++[some (.int (k:Nat)),some x])=okR (f k))(h:∀k x,xs[k]?=some x->e (ρ++[some (.int (k:Nat)),some x])=okR (g k)):eComp it 2 (.tup [i,j]) c e ρ=okR (.lst (((qA6 xs.length).filter f).map g)):=by
 subst hi hj;unfold eComp;rw[hit,zA0,if_pos ⟨by rw[zJP];exact hn,by simp[Tg.idx]⟩];have go:∀(m k:Nat)(acc:List Dt),k+m=xs.length->compGo ρ 2 (.tup [ρ.length,ρ.length+1]) c e (enumD k (xs.drop k)) acc=okR (acc++((qFl k m).filter f).map g):=by
  intro m
  induction m with
  |zero=>
   intro k acc hk;rw[List.drop_of_length_le (by lia)];simp[enumD,compGo]
  |succ m ih=>
   intro k acc hk;have hx:xs[k]?=some xs[k]:=qA1 (by lia);rw[qB4 (by lia),enumD,compGo];have es:zAT (ρ++qA5 2 none) [(ρ.length,.int (k:Nat)),(ρ.length+1,xs[k])]=ρ++[some (.int (k:Nat)),some xs[k]]:=by
    simp[zAT]
   show zA4 (c (zAT (ρ++qA5 2 none) [(ρ.length,.int (k:Nat)),(ρ.length+1,xs[k])])) _=_;rw[es,hc k _ hx,zA0,qGf];cases hf:f k with
   |true=>
    rw[if_pos rfl];show zA4 (e (zAT (ρ++qA5 2 none) [(ρ.length,.int (k:Nat)),(ρ.length+1,xs[k])])) _=_;rw[es,h k _ hx,zA0,ih (k+1) _ (by lia),qEp hf];simp
   |false=>
    rw[if_neg (by simp),ih (k+1) _ (by lia),qEo (by simp[hf])]
 have:=go xs.length 0 [] (by lia)
 rw[qDm]at this;rw[this,zA0,qFg];simp
noncomputable def wrd(ls row:List Nat):List Nat:=row.map fun p=>ls.getD p 0
theorem zNP{c:Nat}:∀{l:List Nat},c∈l->posC c l=some (l.idxOf c)
 |a::r,h=>by
  show(if a=c then some 0 else(posC c r).map (·+1))=_
  by_cases z:a=c
  ·subst z;simp
  ·have:=zNP (l:=r) ((qAk.mp h).elim (fun y=>absurd y.symm z) fun y=>y)
   rw[if_neg z,this,qDb,show(a==c)=false by simpa using z];rfl
theorem zFM{c:Nat}{cs:List Nat}(h:c∈cs):findD (.str ⟨cs.toArray⟩) [sgn c]=some (.int (cs.idxOf c:Nat)):=by
 show some (Dt.int (match posC c cs with|some i=>(i:Int)|none=>-1))=_;rw[zNP h]
theorem zIL{cs:List Nat}{k:Nat}(h:k<cs.length)(hz:cs.length<=1000):ixD (.str ⟨cs.toArray⟩) (.int (k:Int))=some (sgn (cs.getD k 0)):=by
 show(@ite _ ((Str.mk cs.toArray).length<=100000) (qA3 _) ((itA cs (k:Int)).map fun c=>Dt.str ⟨#[c]⟩) none)=_
 rw[if_pos (by rw[zL4];lia),zIM (j:=k) (v:=cs.getD k 0) rfl (by rw[qA0,qA1 h];rfl)];rfl
noncomputable def fsts(cs:List Nat):List Nat:=(qA6 cs.length).filter fun k=>decide (cs.idxOf (cs.getD k 0)=k)
theorem zG6(cs:List Nat)(hz:cs.length<=1000):zAX [.str ⟨cs.toArray⟩]=okR (.str ⟨((fsts cs).map fun k=>cs.getD k 0).toArray⟩):=by
 have hc:eComp (iEnX (aCons (eV 0) aNil)) 2 (.tup [1,2]) (tB (eB eqD (eMt findD (eV 0) (aCons (eV 2) aNil)) (eV 1))) (eV 2) [some (.str ⟨cs.toArray⟩)]=okR (.lst (((fsts cs).map fun k=>cs.getD k 0).map sgn)):=by
  have:=zMS (ρ:=[some (.str ⟨cs.toArray⟩)]) (c:=tB (eB eqD (eMt findD (eV 0) (aCons (eV 2) aNil)) (eV 1))) (e:=eV 2) (i:=1) (j:=2) (cs.map sgn) (fun k=>sgn (cs.getD k 0)) (fun k=>decide (cs.idxOf (cs.getD k 0)=k)) rfl rfl (iEnX (aCons (eV 0) aNil)) (by simp[iEnX];rfl) (by simp;lia) (fun k x hx=>by
   have hk:k<cs.length:=by have:=(qA4.mp hx).1;simpa using this
   have hx':x=sgn (cs.getD k 0):=by
    rw[qAb,qA1 hk]at hx;cases hx;simp[qA0,qA1 hk]
   subst hx';have hf:=zFM (c:=cs.getD k 0) (cs:=cs) (by rw[qA0,qA1 hk];simp);have hdd:decide (((cs.idxOf (cs.getD k 0):Nat):Int)=(k:Int))=decide (cs.idxOf (cs.getD k 0)=k):=by
    by_cases h:cs.idxOf (cs.getD k 0)=k
    ·rw[h];simp
    ·rw[decide_eq_false h,decide_eq_false (by lia)]
   have hf':eMt findD (eV 0) (aCons (eV 2) aNil) [some (.str ⟨cs.toArray⟩),some (.int (k:Nat)),some (sgn (cs.getD k 0))]=okR (.int (cs.idxOf (cs.getD k 0):Nat)):=by
    simp only[zPI,x_eV,zAW,zBU,qB3,qAp,zA0,hf,zA8];rfl
   generalize cs.idxOf (cs.getD k 0)=w at *
   show tB (eB eqD (eMt findD (eV 0) (aCons (eV 2) aNil)) (eV 1)) [some (.str ⟨cs.toArray⟩),some (.int (k:Nat)),some (sgn (cs.getD k 0))]=_;simp only[x_tB,x_eB,hf',zA0,x_eV,qB3,qAp];simp[<- hdd]) (fun k x hx=>by
   have hk:k<cs.length:=by have:=(qA4.mp hx).1;simpa using this
   have hx':x=sgn (cs.getD k 0):=by
    rw[qAb,qA1 hk]at hx;cases hx;simp[qA0,qA1 hk]
   subst hx';simp[-qA0])
  rw[this,qAg,qAu];rfl
 have hfl:(fsts cs).length<=cs.length:=qAo (List.length_filter_le _ _) (by simp);have hj:=zGZ ((fsts cs).map fun k=>cs.getD k 0) (by simp;lia);unfold zAX zFS
 generalize((fsts cs).map fun k=>cs.getD k 0)=out at *
 refine zBG rfl ?_;simp[startO,hc,hj]
theorem zGB{f:Nat->Nat}{x:Nat}:∀{l:List Nat},(∀y∈l,f y=f x->y=x)->(l.map f).idxOf (f x)=l.idxOf x
 |[],_=>rfl
 |a::r,h=>by
  rw[qAn,qDb,qDb,zGB (l:=r) fun y hy=>h y (by simp[hy])]
  by_cases z:a=x
  ·subst z;simp
  ·have hne:¬f a=f x:=fun w=>z (h a (by simp) w)
   rw[show(f a==f x)=false by simpa using hne,show(a==x)=false by simpa using z]
def zSI(ls row:List Nat):Prop:=∀x∈row,∀y∈row,ls.getD x 0=ls.getD y 0->x=y
theorem zFX(ls row:List Nat):(wrd ls row).length=row.length:=by simp[wrd]
theorem zLY{ls row:List Nat}{k:Nat}(h:k<row.length):(wrd ls row).getD k 0=ls.getD (row.getD k 0) 0:=by
 unfold wrd;simp[qA0,qA1 h]
theorem zHE{row:List Nat}{k:Nat}(h:k<row.length):row.getD k 0∈row:=by
 rw[qA0,qA1 h];simp
theorem zLX{ls row:List Nat}(ha:zSI ls row){k:Nat}(h:k<row.length):(wrd ls row).idxOf ((wrd ls row).getD k 0)=row.idxOf (row.getD k 0):=by
 rw[zLY h];exact zGB (f:=fun p=>ls.getD p 0) fun y hy e=>ha y hy _ (zHE h) e
theorem zKN{ls row:List Nat}(ha:zSI ls row):((fsts (wrd ls row)).map fun k=>(wrd ls row).getD k 0)=wrd ls (ords row):=by
 have hf:fsts (wrd ls row)=(qA6 row.length).filter fun k=>decide (row.idxOf (row.getD k 0)=k):=by
  unfold fsts;rw[zFX];refine qG0 fun k hk=>?_
  rw[zLX ha (by simpa using hk)]
 rw[hf,zII row];unfold wrd;rw[qAu];refine qB8 fun k hk=>?_
 have hk':k<row.length:=by
  have:=(qC2.mp hk).1
  simpa using this
 exact zLY hk'
theorem zHZ{row:List Nat}{a:Nat}(h:a<row.length):row.idxOf (row.getD a 0)=a↔(row.take a).count (row.getD a 0)=0:=by
 have hm:=zHE h;have hlt:=qAl hm;have e:row[row.idxOf (row.getD a 0)]=row.getD a 0:=qCn hlt;rw[qDc];constructor
 ·intro h1 h2;have h3:=qAl h2;have h4:row.idxOf (row.getD a 0)=(row.take a).idxOf (row.getD a 0):=by
   conv=>lhs;rw[<- qBw a row]
   rw[qCu,if_pos]
   ·rw[qBw]
   ·rw[qBw];exact h2
  rw[h1]at h4;rw[qBo]at h3
  lia
 ·intro h1;have h2:row.idxOf (row.getD a 0)<=a:=by
   rcases qHo a (row.idxOf (row.getD a 0))with z|z
   ·have:=qEy (p:=(·==row.getD a 0)) (xs:=row) (i:=a) z
    rw[show row[a]=row.getD a 0 by rw[qA0,qA1 h];rfl]at this;simp at this
   ·exact z
  rcases qHo (row.idxOf (row.getD a 0)) a with z|z
  ·exfalso
   apply h1
   rw[qCa];exact⟨row.idxOf (row.getD a 0),by lia,e⟩
  ·lia
theorem zPA{ls row:List Nat}(ha:zSI ls row)(hz:row.length<=100)(hc:∀a,a<row.length->(row.take a).count (row.getD a 0)<=1){a:Nat}(h:a<row.length):zCX [.str ⟨(wrd ls row).toArray⟩,.int (a:Int)]=okR (.int (inA row a:Nat)):=by
 have hwl:=zFX ls row;have ho:=zG6 (wrd ls row) (by lia);rw[zKN ha]at ho;have hi:=zIL (cs:=wrd ls row) (k:=a) (by lia) (by lia);have hwm:(wrd ls row).getD a 0∈wrd ls row:=zHE (by lia);have hom:row.getD a 0∈ords row:=(ords_mem row _).mpr (zHE h);have hg:=zLY (ls:=ls) h;have hwo:(wrd ls row).getD a 0∈wrd ls (ords row):=by rw[hg];exact qAm.mpr ⟨_,hom,rfl⟩
 have f1:=zFM hwo;have f2:=zFM hwm;have e1:(wrd ls (ords row)).idxOf ((wrd ls row).getD a 0)=(ords row).idxOf (row.getD a 0):=by
  rw[hg];exact zGB (f:=fun p=>ls.getD p 0) fun y hy e=>ha y ((ords_mem row y).mp hy) _ (zHE h) e
 have e2:=zLX ha h;rw[e1]at f1;rw[e2]at f2;have hil:(ords row).idxOf (row.getD a 0)<=100:=by
  have h1:=qAl hom;have h2:=zBP (ords row) row (ords_nodup _) fun y hy=>(ords_mem _ y).mp hy
  lia
 have hA:inA row a=4*(ords row).idxOf (row.getD a 0)+2*(row.take a).count (row.getD a 0):=rfl;have hfc:=zHZ h;have hca:=hc a h
 generalize(wrd ls row).getD a 0=ch at *
 generalize row.getD a 0=x at *
 generalize(row.take a).count x=cn at *
 generalize(ords row).idxOf x=ix at *
 generalize row.idxOf x=fx at *
 have m1:mulD (.int (ix:Int)) (.int 4)=some (.int ((ix:Int)*4)):=zKY (by lia) (by lia);unfold zCX zIS;refine zBG rfl (zAV fun bb hb=>?_);refine zAG (r:=[some (.str ⟨(wrd ls row).toArray⟩,0),some (.int (a:Int),0),some (.int (ix:Nat),0)]) ?_ ?_
 ·have e:eMt findD (eCall zAX (aCons (eV 0) aNil)) (aCons (eB ixD (eV 0) (eV 1)) aNil) [some (.str ⟨(wrd ls row).toArray⟩),some (.int (a:Int)),none]=okR (.int (ix:Nat)):=by
   simp only[zPI,zFW,x_eV,x_eB,zAW,zBU,qB3,qAp,zA0,ho,hi,f1,zA8];rfl
  show sSet 2 0 [0,1] _ [some (.str ⟨(wrd ls row).toArray⟩,0),some (.int (a:Int),0),none]=_;rw[zH4];show zA4 (eMt findD (eCall zAX (aCons (eV 0) aNil)) (aCons (eB ixD (eV 0) (eV 1)) aNil) [some (.str ⟨(wrd ls row).toArray⟩),some (.int (a:Int)),none]) _=_;rw[e,zA0];rfl
 subst hb;have e:eMt findD (eV 0) (aCons (eB ixD (eV 0) (eV 1)) aNil) [some (.str ⟨(wrd ls row).toArray⟩),some (.int (a:Int)),some (.int (ix:Nat))]=okR (.int (fx:Nat)):=by
  simp only[zPI,x_eV,x_eB,zAW,zBU,qB3,qAp,zA0,hi,f2,zA8];rfl
 have e3:eB addD (eB mulD (eV 2) (eC (.int 4))) (eIf (tB (eB eqD (eMt findD (eV 0) (aCons (eB ixD (eV 0) (eV 1)) aNil)) (eV 1))) (eC (.int 0)) (eC (.int 2))) [some (.str ⟨(wrd ls row).toArray⟩),some (.int (a:Int)),some (.int (ix:Nat))]=okR (.int (inA row a:Nat)):=by
  simp only[x_eB,zaK,x_tB,e,x_eV,x_eC,qB3,qAp,zA0,m1,zA8]
  by_cases hf:fx=a
  ·have:cn=0:=hfc.mp hf
   subst hf;simp
   lia
  ·have:cn=1:=by
    have:¬cn=0:=fun z=>hf (hfc.mpr z)
    lia
   simp[show ¬(fx:Int)=(a:Int) by lia]
   lia
 show sRet 1 1 [2,1,0] _ [some (.str ⟨(wrd ls row).toArray⟩,0),some (.int (a:Int),0),some (.int (ix:Nat),0)]=_;unfold sRet;show zA4 (eB addD _ _ [some (.str ⟨(wrd ls row).toArray⟩),some (.int (a:Int)),some (.int (ix:Nat))]) _=_;rw[e3,zA0];rfl
def proS(row:List Nat)(k:Nat):List (Nat×Int):=((qA6 k).map (tieP row)).flatten
theorem zQQ{α:Type}{l l':List (List α)}(h:l.Perm l'):l.flatten.Perm l'.flatten:=by
 induction h with
 |nil=>exact qDn _
 |cons x _ ih=>rw[qAv,qAv];exact ih.append_left x
 |swap x y l=>
  rw[qAv,qAv,qAv,qAv,<- qBl,<- qBl];exact qF7.append_right _
 |trans _ _ ih1 ih2=>exact ih1.trans ih2
theorem zT9(L:Nat):((qA6 L).map fun k=>(k+1)%L).Perm (qA6 L):=by
 cases L with
 |zero=>exact qDn _
 |succ m=>
  have e:(qA6 (m+1)).map (fun k=>(k+1)%(m+1))=(qA6 m).map (·+1)++[0]:=by
   rw[qBu,qBg]
   congr 1
   ·refine qB8 fun k hk=>?_
    have:k<m:=by simpa using hk
    exact qAs (by lia)
   ·simp
  rw[e,qDh];exact qF7
theorem zWY{row:List Nat}(h1:∀a,a<row.length->(row.take a).count (row.getD a 0)<=1)(N:List Int):puts (lawS row row.length) N=puts (proS row row.length) N:=by
 refine zQK ?_ (fun x hx y hy=>?_) N
 ·unfold lawS proS;refine zQQ ?_
  have:=(zT9 row.length).map (tieP row)
  rw[qAu]at this;exact this
 ·obtain⟨l,hl,hx⟩:=qD2.mp hx;obtain⟨k,hk,rfl⟩:=qAm.mp hl;obtain⟨l,hl,hy⟩:=qD2.mp hy;obtain⟨j,hj,rfl⟩:=qAm.mp hl;have hL:0<row.length:=qC5 (qAc k) (by simpa using hk);exact zPU h1 (qBt _ hL) (qBt _ hL) x hx y hy
theorem zFH{cs:List Nat}(h:cs.length<=1000):lenD [.str ⟨cs.toArray⟩]=some (.int (cs.length:Int)):=by
 have:=zL4 cs
 simp[lenD,this]
 try lia
theorem zTK{ls row:List Nat}(ha:zSI ls row)(h0:0<row.length)(hz:row.length<=100)(hc:∀a,a<row.length->(row.take a).count (row.getD a 0)<=1)(hpos:∀a,a<row.length->inA row a+1<2*row.length)(h8:(ords row).length<=8):zDA [.str ⟨(wrd ls row).toArray⟩]=okR (rowD (puts (lawS row row.length) (qA5 (2*row.length) 0))):=by
 rw[zWY hc];have hwl:=zFX ls row;have hlen:lenD [.str ⟨(wrd ls row).toArray⟩]=some (.int (row.length:Int)):=by
  rw[zFH (by lia),hwl]
 have ho:=zG6 (wrd ls row) (by lia);rw[zKN ha]at ho;have hlo:lenD [.str ⟨(wrd ls (ords row)).toArray⟩]=some (.int ((ords row).length:Int)):=by
  rw[zFH (by rw[zFX];lia),zFX]
 have hen:∀o1 o2 o3 o4 o5:Option Dt,eComp (iR1 (aCons (eBi lenD (aCons (eV 0) aNil)) aNil)) 1 (.one 6) Mi.tYes (eCallN zCX (aCons (eV 0) (aCons (eV 6) aNil))) [some (.str ⟨(wrd ls row).toArray⟩),o1,o2,o3,o4,o5]=okR (rowD (numL ((qA6 row.length).map (inA row)))):=by
  intro o1 o2 o3 o4 o5
  have:=zJW (ρ:=[some (.str ⟨(wrd ls row).toArray⟩),o1,o2,o3,o4,o5]) (e:=eCallN zCX (aCons (eV 0) (aCons (eV 6) aNil))) (it:=iR1 (aCons (eBi lenD (aCons (eV 0) aNil)) aNil)) (i:=6) (n:=row.length) (fun k=>((inA row k:Nat):Int)) rfl (by lia) (zGO (by simp[hlen]) (by lia)) fun a h=>by
    have e:=zPA ha hz hc h;simp[e]
  rw[this];unfold numL;rw[qAu];rfl
 have hrz:=zNF (2*row.length) (by lia);have m3:mulD (.int 2) (.int (row.length:Int))=some (.int ((2*row.length:Nat):Int)):=by
  rw[zKY (by lia) (by lia)]
  congr 2
 unfold zDA zOF;refine zBG rfl (zAV fun bb hb=>?_);refine zAG (r:=[some (.str ⟨(wrd ls row).toArray⟩,0),none,none,none,none,none]) (by simp[startO,ho,hlo];lia) ?_;subst hb;refine zAV fun bb hb=>?_
 refine zAG (r:=[some (.str ⟨(wrd ls row).toArray⟩,0),some (rowD (numL ((qA6 row.length).map (inA row))),2),none,none,none,none]) (by simp[hen]) ?_;subst hb;refine zAV fun bb hb=>?_
 refine zAG (r:=[some (.str ⟨(wrd ls row).toArray⟩,0),some (rowD (numL ((qA6 row.length).map (inA row))),2),some (rowD (puts (proS row 0) (qA5 (2*row.length) 0)),1),none,none,none]) ?_ ?_
 ·simp only[zH4,zB6,zBY,qBn,qCi,x_eB,x_eC,x_eV,zUM,zAW,zBU,zOI,zA0,qAp,hlen,zA8,m3,hrz];rw[if_pos (by simp)];simp only[zA0,hrz,zA8];rw[if_pos (by rw[zC9];exact qAa _)];rfl
 subst hb;refine zAV fun bb hb=>?_
 unfold sFor;rw[show iEn (aCons (eV 1) aNil) (frz (frzAt [1] [some (.str ⟨(wrd ls row).toArray⟩,0),some (rowD (numL ((qA6 row.length).map (inA row))),2),some (rowD (puts (proS row 0) (qA5 (2*row.length) 0)),1),none,none,none]))=okR (enumD 0 (((qA6 row.length).map (inA row)).map fun k:Nat=>Dt.int (k:Int))) by simp[numD],zA0];show nxR (forGo (.tup [3,4]) _ (enumD 0 (((qA6 row.length).map (inA row)).map fun k:Nat=>Dt.int (k:Int))) [some (.str ⟨(wrd ls row).toArray⟩,0),some (rowD (numL ((qA6 row.length).map (inA row))),0),some (rowD (puts (proS row 0) (qA5 (2*row.length) 0)),1),none,none,none]) _;refine zWQ _ (fun k r=>∃o3 o4 o5,r=[some (.str ⟨(wrd ls row).toArray⟩,0),some (rowD (numL ((qA6 row.length).map (inA row))),0),some (rowD (puts (proS row k) (qA5 (2*row.length) 0)),1),o3,o4,o5]) ⟨none,none,none,rfl⟩ (fun k x hx r hr=>?_) fun r hr=>?_
 ·obtain⟨o3,o4,o5,rfl⟩:=hr;have hk:k<row.length:=by have:=(qA4.mp hx).1;simpa using this
  have hx':x=.int (inA row k:Nat):=by
   rw[qAb,qAb,qB9 hk]at hx;cases hx;rfl
  subst hx';have hn:=qBt (k+row.length-1) h0;have hix:ixD (rowD (numL ((qA6 row.length).map (inA row)))) (.int ((k:Int)-1))=some (.int (inA row ((k+row.length-1)%row.length):Nat)):=by
   have hg:((qA6 row.length).map (inA row)).getD ((k+row.length-1)%row.length) 0=inA row ((k+row.length-1)%row.length):=by simp[qA0,hn]
   by_cases z:k=0
   ·subst z;have hm:(0+row.length-1)%row.length=row.length-1:=by rw[show 0+row.length-1=row.length-1 by lia];exact qAs (by lia)
    rw[hm];have hq:ixA ((numL ((qA6 row.length).map (inA row))).map Dt.int).length (((0:Nat):Int)-1)=some (row.length-1):=by
     have hl:((numL ((qA6 row.length).map (inA row))).map Dt.int).length=row.length:=by simp[numL]
     rw[hl];unfold ixA;simp
     lia
    show itA ((numL ((qA6 row.length).map (inA row))).map Dt.int) (((0:Nat):Int)-1)=_;unfold itA;rw[hq];simp[numL,show row.length-1<row.length by lia]
   ·have:=zEL ((qA6 row.length).map (inA row)) (k-1) (by simp;lia)
    rw[show((k-1:Nat):Int)=(k:Int)-1 by lia]at this;rw[this,show(k+row.length-1)%row.length=k-1 by rw[show k+row.length-1=(k-1)+row.length by lia,qCg];exact qAs (by lia)];simp[qA0,show k-1<row.length by lia]
  have hp1:=hpos _ hn;have hp2:=hpos _ hk
  generalize hw:inA row ((k+row.length-1)%row.length)=w at *
  refine zB8 fun b2 hb2=>?_
  refine zAG (r:=[some (.str ⟨(wrd ls row).toArray⟩,0),some (rowD (numL ((qA6 row.length).map (inA row))),0),some (rowD (puts (proS row k) (qA5 (2*row.length) 0)),1),some (.int (k:Nat),0),some (.int (inA row k:Nat),0),some (.int ((w+1:Nat):Int),1)]) ?_ ?_
  ·simp[hix]
  subst hb2;refine zB8 fun b2 hb2=>?_
  refine zAG (zFJ (l:=0) (a:=w+1) (v:=(inA row k:Nat)) rfl (by simp) (by simp) (by rw[zGU,qC4];exact hp1)) ?_;subst hb2;refine zAG (zFJ (l:=0) (a:=inA row k) (v:=((w+1:Nat):Int)) rfl (by simp) (by simp) (by rw[qC3,zGU,qC4];lia)) ⟨some (.int (k:Nat),0),some (.int (inA row k:Nat),0),some (.int ((w+1:Nat):Int),1),?_⟩;have hS:puts (proS row (k+1)) (qA5 (2*row.length) 0)=((puts (proS row k) (qA5 (2*row.length) 0)).set (w+1) (inA row k:Nat)).set (inA row k) ((w+1:Nat):Int):=by
   unfold proS;rw[qBu,qBg,List.flatten_append];unfold puts;rw[qCt];unfold tieP;simp only[qAn,qF0,qAv,List.flatten_nil,qCc,qDa,List.foldl_nil,hw]
  rw[hS];rfl
 ·obtain⟨o3,o4,o5,rfl⟩:=hr;subst hb;simp only[qAg,qCv];simp[sRetV]
noncomputable def zDM(n:Nat):List Nat:=(qA6 (2*n)).map (· / 2)
theorem zPG(n:Nat):zDM (n+1)=zDM n++[n,n]:=by
 unfold zDM;rw[show 2*(n+1)=2*n+1+1 by lia,qBu,qBu,qBg,qBg];have h1:2*n/2=n:=by lia
 have h2:(2*n+1)/2=n:=by lia
 simp[h1,h2]
theorem zI9:∀n v,(zDM n).count v=if v<n then 2 else 0
 |0,v=>by simp[zDM]
 |n+1,v=>by
  rw[zPG,qBs,zI9 n v]
  by_cases h:v=n
  ·subst h;simp
  ·have:[n,n].count v=0:=qDc.mpr (by simp[h])
   rw[this]
   by_cases h2:v<n
   ·rw[if_pos h2,if_pos (by lia)]
   ·rw[if_neg h2,if_neg (by lia)]
structure Twice(n:Nat)(row:List Nat):Prop where
 len:row.length=2*n
 cnt:∀v,row.count v=if v<n then 2 else 0
theorem zSP{n:Nat}{row:List Nat}(h:row.Perm (zDM n)):Twice n row:=
 ⟨by rw[h.length_eq];simp[zDM],fun v=>by rw[h.count_eq,zI9]⟩
section
variable{n:Nat}{row:List Nat}(t:Twice n row)
include t
theorem Twice.mem(v:Nat):v∈row↔v<n:=by
 rw[<- qEa,t.cnt v]
 split<;>lia
theorem Twice.le1{a:Nat}(h:a<row.length):(row.take a).count (row.getD a 0)<=1:=by
 have h1:=t.cnt (row.getD a 0);have hg:row.getD a 0=row[a]:=by rw[qA0,qA1 h];rfl
 have h2:row.count (row.getD a 0)=(row.take a).count (row.getD a 0)+(row.drop a).count (row.getD a 0):=by
  rw[<- qBs,qBw]
 rw[qB4 h,hg,qFf]at h2;rw[hg]at h1 ⊢
 split at h1<;>lia
theorem Twice.ords:(ords row).length=n:=by
 have h1:=zBP (Mp.ords row) (qA6 n) (ords_nodup row) fun x hx=>by
  have:=(t.mem x).mp ((ords_mem row x).mp hx)
  simpa using this
 have h2:=zBP (qA6 n) (Mp.ords row) qBh fun x hx=>(ords_mem row x).mpr ((t.mem x).mpr (by simpa using hx))
 simp at h1 h2
 lia
theorem Twice.pos{a:Nat}(h:a<row.length):inA row a+1<2*row.length:=by
 have h1:=t.le1 h;have h2:=qAl ((ords_mem row _).mpr (zHE h));have h3:=t.ords;have h4:=t.len;unfold inA
 lia
end
end Mp
namespace Mp
open Mi PySem
noncomputable def addB:List Int->List Int->List Int
 |a::r,b::s=>(a+b)%2::addB r s
 |_,_=>[]
noncomputable def dot:List Int->List Int->Int
 |a::r,b::x=>a*b+dot r x
 |_,_=>0
def Ker(A:List (List Int))(x:List Int):Prop:=∀r∈A,dot r x%2=0
noncomputable def ent(A:List (List Int))(i k:Nat):Int:=(A.getD i []).getD k 0
theorem zEG{α:Type}{l:List α}{d:α}{i:Nat}(h:i<l.length):l.getD i d∈l:=by
 rw[qA0,qA1 h];simp
theorem zH0{α:Type}{l:List α}{d a:α}{i j:Nat}(h:i<l.length):(l.set i a).getD j d=if i=j then a else l.getD j d:=by
 simp only[qA0,List.getElem?_set]
 by_cases z:i=j
 ·subst z;simp[h]
 ·simp[z]
theorem zFL{α β:Type}{l:List α}{d:α}{e:β}{g:α->β}{i:Nat}(h:i<l.length):(l.map g).getD i e=g (l.getD i d):=by
 simp[qA0,qA1 h]
theorem zGY{α:Type}{l:List α}{d x:α}(h:x∈l):∃i,i<l.length/\l.getD i d=x:=by
 obtain⟨i,hi,rfl⟩:=List.mem_iff_getElem.mp h;exact⟨i,hi,by simp[qA0,qA1 hi]⟩
def oth(A:List (List Int))(c:Nat)(lead:List Int):List (List Int):=A.map fun r=>if r.getD c 0=1 then addB r lead else r
section
variable{A:List (List Int)}{c t m:Nat}(hm:∀r∈A,RowN m r)(ht:t<A.length)(hc:c<=t)(hl:ent A t c=1)(hcm:c<m)
include hm ht in
include hm ht hc in
include ht hc in
include hm ht hc in
end
def zbR(A:List (List Int))(c:Nat):Prop:=∀i k,i<A.length->k<c->ent A i k=if i=k then 1 else 0
structure Rk(n:Nat)(T A:List (List Int))(p q:Nat):Prop where
 rows:∀r∈A,RowN n r
 zero:∀r∈A,∀k,k<p->r.getD k 0=0
 le:q<=p
 all:q=p->∀x,RowN n x->Ker T x->Ker A x/\((∀j,p<=j->x.getD j 0=0)->∀j,x.getD j 0=0)
 some:q<p->∃x,RowN n x/\Ker T x/\∃j,j<n/\x.getD j 0=1
 lift:∀x,RowN n x->Ker A x->∃y,RowN n y/\Ker T y/\∀j,p<=j->y.getD j 0=x.getD j 0
end Mp
namespace Mp
open Mi PySem
noncomputable def zaR(n i:Nat):List Int:=(qA6 n).map fun j=>if j=i then 1 else 0
def aug(n:Nat)(T:List (List Int)):List (List Int):=(qA6 n).map fun i=>T.getD i []++zaR n i
structure Un(n:Nat)(T A:List (List Int))(c:Nat):Prop where
 len:A.length=n
 rows:∀r∈A,RowN (n+n) r
 unit:zbR A c
 ker:∀x,(∀y∈x,Bit y)->(Ker A x↔Ker (aug n T) x)
def eiR(x:R Out)(P:Ro->Prop)(Q:Dt->Prop):Prop:=(∃r,x=okR (.nx r)/\P r)\/∃d,x=okR (.rt d)/\Q d
theorem zI2{x:R Out}{P:Ro->Prop}{Q:Dt->Prop}(h:nxR x P):eiR x P Q:=.inl (zCK h)
theorem zDV{a b:SM}{r:Ro}{P P':Ro->Prop}{Q:Dt->Prop}(h:eiR (a r) P Q)(hb:∀r',P r'->eiR (b r') P' Q):eiR (sSeq a b r) P' Q:=by
 unfold sSeq
 rcases h with⟨r',e,h'⟩|⟨d,e,hq⟩
 ·rw[e,zA0];exact hb r' h'
 ·rw[e,zA0];exact .inr ⟨d,rfl,hq⟩
theorem zLG{α β:Type}(f:α->β):∀(l:List α)(i:Nat),(l.map f).eraseIdx i=(l.eraseIdx i).map f
 |[],_=>rfl
 |a::r,0=>rfl
 |a::r,i+1=>by simp[zLG f r i]
theorem zFC{α:Type}:∀(l:List α){i:Nat}(h:i<l.length),l.Perm (l[i]::l.eraseIdx i)
 |a::r,0,_=>qDn _
 |a::r,i+1,h=>by
  have:=zFC r (i:=i) (by simpa using h)
  exact(this.cons a).trans (List.Perm.swap _ _ _)
theorem zIF{z:Str}{l:List Nat}(h:z.cps.toList=l):z=⟨l.toArray⟩:=by
 cases z with
 |mk a=>subst h;simp
theorem add_str{a b:List Nat}(h:a.length+b.length<=1000):addD (.str ⟨a.toArray⟩) (.str ⟨b.toArray⟩)=some (.str ⟨(a++b).toArray⟩):=by
 rw[zY0,if_pos (by rw[zL4,zL4];lia)]
 congr 2
 exact zIF (by rw[zM2])
theorem zUT{a:List Nat}(l h:Option Int)(hz:a.length<=1000):slD (.str ⟨a.toArray⟩) l h=some (.str ⟨(cutA a l h).toArray⟩):=by
 show(@ite _ ((Str.mk a.toArray).length<=100000) (qA3 _) (some (Dt.str ⟨(cutA a l h).toArray⟩)) none)=_
 rw[if_pos (by rw[zL4];lia)]
theorem zUG:∃ls:List Nat,(Str.ofString "abcdefghijklmnopqrstuvwxyz")=⟨ls.toArray⟩/\ls.length=26/\ls.Nodup:=by
 refine⟨(Str.ofString "abcdefghijklmnopqrstuvwxyz").cps.toList,zIF rfl,?_,?_⟩
 ·rw[<- zME,zXM]
 ·rw[Str.ofString_eq_toList]
  decide
theorem zXN:(Str.ofString "abcdefghijklmnopqrstuvwxyz").cps.toList=(qA6 26).map (97 + ·):=by
 rw[Str.ofString_eq_toList]
 decide
end Mp
namespace Mp
noncomputable def sh(s:Nat)(cs:List Nat):List Nat:=cs.drop s++cs.take s
def wr(cs:List Nat):List Nat:=cs.map fun c=>97+(ords cs).idxOf c
theorem zQX(f:Nat->Nat):∀cs:List Nat,(∀x∈cs,∀y∈cs,f x=f y->x=y)->ords (cs.map f)=(ords cs).map f:=by
 refine zEZ (fun _=>by simp[ords]) fun l a ih h=>?_
 have ih':=ih fun x hx y hy e=>h x (by simp[hx]) y (by simp[hy]) e
 rw[qBg,qAn,qF0,zCD,zCD,ih'];have hm:f a∈(ords l).map f↔a∈ords l:=by
  rw[qAm];constructor
  ·rintro⟨y,hy,e⟩
   have:y=a:=h y (by simp[(ords_mem l y).mp hy]) a (by simp) e
   rw[<- this];exact hy
  ·exact fun z=>⟨a,z,rfl⟩
 by_cases z:a∈ords l
 ·rw[if_pos z,if_pos (hm.mpr z)]
 ·rw[if_neg z,if_neg fun w=>z (hm.mp w)];simp
theorem zNV:∀{a b:List Nat},a.Nodup->(∀x∈a,x∈b)->a.length<=b.length
 |[],b,_,_=>qAc _
 |x::r,b,hn,h=>by
  have hx:=h x (by simp)
  have:=zNV (a:=r) (b:=b.erase x) (qB1.mp hn).2 fun y hy=>by
   refine(qCy ?_).mpr (h y (by simp[hy]))
   rintro rfl
   exact(qB1.mp hn).1 hy
  rw[qCh hx]at this;have hb:0<b.length:=qCm hx;simp only[qB6]
  lia
theorem zWI{cs l:List Nat}(h:∀x∈cs,x∈l):(ords cs).length<=l.length:=zNV (ords_nodup cs) fun x hx=>h x ((ords_mem cs x).mp hx)
end Mp
namespace Mp
open Mi PySem
theorem zOX(cs:List Nat)(hz:cs.length<=1000):zAX [.str ⟨cs.toArray⟩]=okR (.str ⟨(ords cs).toArray⟩):=by
 rw[zG6 cs hz,zII cs];rfl
theorem zSD:(Str.ofString "abcdefghijklmnopqrstuvwxyz")=⟨((qA6 26).map (97 + ·)).toArray⟩:=zIF zXN
theorem zRJ{n k:Nat}(h:k<n):((qA6 n).map (97 + ·)).getD k 0=97+k:=by
 rw[qA0,qAb,qB9 h];rfl
@[simp] theorem x_eNew0(c:Str)(ρ:Rh):zbJ c ρ=okR (.ins c []):=rfl
@[simp] theorem x_eNew(c:Str)(fl:List Str)(am:AM)(ρ:Rh):eNew c fl am ρ=zA4 (am ρ) fun ds=>match svsD ds with
 |some vs=>if vs.length=fl.length then okR (.ins c (fl.zip vs))else none
 |none=>none:=rfl
@[simp] theorem x_eFld(hs:List Str)(f:Str)(e:EM)(ρ:Rh):eFld hs f e ρ=zA4 (e ρ) fun d=>match d with
 |.ins c fs=>if c∈hs then(match fs.lookup f with|some v=>okR (dSv v)|none=>none)else none
 |_=>none:=rfl
@[simp] theorem x_eMeth(tb:List (Str×FM))(m:Str)(e:EM)(am:AM)(ρ:Rh):zbK tb m e am ρ=zA4 (e ρ) fun d=>match d with
 |.ins c fs=>match tb.lookup c with
  |some g=>match fs.lookup m with
   |none=>zA4 (am ρ) fun ds=>g (d::ds)
   |some _=>none
  |none=>none
 |_=>none:=rfl
@[simp] theorem x_eIsO(ys ns:List Str)(e:EM)(ρ:Rh):eIsO ys ns e ρ=zA4 (e ρ) fun d=>match d with
 |.ins c _=>if c∈ys then okR (.bl true)else if c∈ns then okR (.bl false)else none
 |_=>none:=rfl
@[simp] theorem v_dins(c:Str)(fs:List (Str×Sv)):(Dt.ins c fs).dep=1000:=rfl
theorem len1(x:Nat):lenD [sgn x]=some (.int 1):=zFH (cs:=[x]) (by simp)
theorem zS3{ls cs:List Nat}(hp:cs.Perm (ls++ls))(hn:ls.Nodup){x:Nat}(hx:x∈cs):cs.count x=2:=by
 have hl:x∈ls:=by have:=hp.mem_iff.mp hx;simpa using this
 rw[hp.count_eq,qBs,qHy hn,if_pos hl]
end Mp
namespace FW
structure NetL(ns:List Int)(n:Nat):Prop where
 len:ns.length=n
 tie:∀i:Nat,i<n->∃j:Nat,j<n/\j≠i/\ns[i]?=some (j:Int)/\ns[j]?=some (i:Int)
structure Part(left:List Nat)(ns:List Int)(n:Nat):Prop where
 len:ns.length=n
 nd:left.Nodup
 lt:∀i∈left,i<n
 ev:left.length%2=0
 tie:∀i:Nat,i<n->i∉left->∃j:Nat,j<n/\j∉left/\j≠i/\ns[i]?=some (j:Int)/\ns[j]?=some (i:Int)
theorem zHT{l:List Nat}{k:Nat}(h:k<l.length):(l.eraseIdx k).length+1=l.length:=by
 rw[List.length_eraseIdx_of_lt h];lia
end FW
namespace Mp
open Mi PySem
theorem zTN{P:Nat->Prop}:∀(n:Nat),P n->∃p,p<=n/\P p/\∀q,q<p->¬P q:=by
 intro n
 induction n using qGp with
 |ind n ih=>
  intro h
  by_cases hq:∃q,q<n/\P q
  ·obtain⟨q,h1,h2⟩:=hq;obtain⟨p,h3,h4,h5⟩:=ih q h1 h2;exact⟨p,by lia,h4,h5⟩
  ·exact⟨n,qAa _,h,fun q h1 h2=>hq ⟨q,h1,h2⟩⟩
noncomputable def itr(f:Nat->Nat):Nat->Nat->Nat
 |0,x=>x
 |k+1,x=>f (itr f k x)
theorem zBB{f:Nat->Nat}{M:Nat}(hf:∀x,x<M->f x<M){x:Nat}(hx:x<M):∀k,itr f k x<M
 |0=>hx
 |k+1=>hf _ (zBB hf hx k)
theorem zJM{f:Nat->Nat}{M:Nat}(hf:∀x,x<M->f x<M)(hi:∀x y,x<M->y<M->f x=f y->x=y){x:Nat}(hx:x<M):∀i d,itr f i x=itr f (i+d) x->itr f d x=x
 |0,d,h=>by rw[qBv]at h;exact h.symm
 |i+1,d,h=>by
  rw[show i+1+d=(i+d)+1 by lia]at h;exact zJM hf hi hx i d (hi _ _ (zBB hf hx i) (zBB hf hx (i+d)) h)
theorem zKV:∀l:List Nat,¬l.Nodup->∃i j,i<j/\j<l.length/\l.getD i 0=l.getD j 0
 |[],h=>absurd qH3 h
 |a::l,h=>by
  by_cases ha:a∈l
  ·obtain⟨j,hj,e⟩:=qD7 ha;exact⟨0,j+1,by lia,by simp;lia,by simp[hj,e]⟩
  ·have:¬l.Nodup:=fun hn=>h (qB1.mpr ⟨ha,hn⟩)
   obtain⟨i,j,h1,h2,h3⟩:=zKV l this;exact⟨i+1,j+1,by lia,by simp;lia,by simpa using h3⟩
theorem zD2:∀{a b:List Nat},a.Nodup->(∀x∈a,x∈b)->a.length<=b.length
 |[],b,_,_=>by simp
 |x::a,b,hn,h=>by
  obtain⟨h1,h2⟩:=qB1.mp hn;have hx:=h x (by simp)
  have:=zD2 (b:=b.erase x) h2 fun y hy=>by
   have hne:y≠x:=fun z=>h1 (z▸hy)
   exact(qCy hne).mpr (h y (by simp[hy]))
  rw[qCh hx]at this
  have:=qCm hx
  simp only[qB6]
  lia
theorem zCA{f:Nat->Nat}{M:Nat}(hf:∀x,x<M->f x<M)(hi:∀x y,x<M->y<M->f x=f y->x=y){x:Nat}(hx:x<M):∃p,1<=p/\p<=M/\itr f p x=x/\∀q,1<=q->q<p->itr f q x≠x:=by
 have hn:¬((qA6 (M+1)).map fun k=>itr f k x).Nodup:=fun hn=>by
  have:=zD2 (b:=qA6 M) hn fun y hy=>by
   obtain⟨k,_,rfl⟩:=qAm.mp hy;exact qAt.mpr (zBB hf hx k)
  simp at this
  lia
 obtain⟨i,j,h1,h2,h3⟩:=zKV _ hn;simp at h2;have e:itr f i x=itr f j x:=by
  simpa[show i<M+1 by lia,h2]using h3
 have hb:itr f (j-i) x=x:=zJM hf hi hx i (j-i) (by rw[show i+(j-i)=j by lia];exact e);obtain⟨p,h4,h5,h6⟩:=zTN (P:=fun p=>1<=p/\itr f p x=x) (j-i) ⟨by lia,hb⟩;exact⟨p,h5.1,by lia,h5.2,fun q h7 h8 h9=>h6 q h8 ⟨h7,h9⟩⟩
noncomputable def jn(cs:List Nat)(e:Nat):Nat:=e/4*4+(e%4^^^(cs.getD (e/4) 0+1))
theorem xor4:∀s,s<4->∀w,w<3->(s^^^(w+1))<4/\((s^^^(w+1))^^^(w+1))=s:=by decide
theorem zBK{cs:List Nat}{n e:Nat}(hl:cs.length=n)(hw:∀c∈cs,c<3)(he:e<4*n):jn cs e<4*n/\jn cs (jn cs e)=e:=by
 have hc:cs.getD (e/4) 0<3:=zC8 hw (by lia);obtain⟨h1,h2⟩:=xor4 (e%4) (by lia) _ hc;have hq:jn cs e/4=e/4:=by unfold jn;omega
 have hr:jn cs e%4=(e%4^^^(cs.getD (e/4) 0+1)):=by unfold jn;omega
 refine⟨by unfold jn;lia,?_⟩;show jn cs e/4*4+(jn cs e%4^^^(cs.getD (jn cs e/4) 0+1))=e;rw[hq,hr,h2]
 lia
noncomputable def nt(ts:List Nat)(e:Nat):Nat:=ts.getD e 0
structure NetN(ts:List Nat)(M:Nat):Prop where
 len:ts.length=M
 lt:∀e,e<M->nt ts e<M
 inv:∀e,e<M->nt ts (nt ts e)=e
def stp(ts cs:List Nat)(e:Nat):Nat:=nt ts (jn cs e)
theorem zBF{ts cs:List Nat}{n:Nat}(hN:NetN ts (4*n))(hl:cs.length=n)(hw:∀c∈cs,c<3):(∀x,x<4*n->stp ts cs x<4*n)/\∀x y,x<4*n->y<4*n->stp ts cs x=stp ts cs y->x=y:=by
 refine⟨fun x hx=>hN.lt _ (zBK hl hw hx).1,fun x y hx hy e=>?_⟩;have h1:=congrArg (nt ts) e;unfold stp at h1;rw[hN.inv _ (zBK hl hw hx).1,hN.inv _ (zBK hl hw hy).1]at h1;have h2:=congrArg (jn cs) h1;rw[(zBK hl hw hx).2,(zBK hl hw hy).2]at h2;exact h2
def orb(ts cs:List Nat)(e:Nat)(k:Nat):List Nat:=(qA6 k).flatMap fun i=>[itr (stp ts cs) i e,jn cs (itr (stp ts cs) i e)]
theorem zDK(ts cs:List Nat)(e k:Nat):orb ts cs e (k+1)=orb ts cs e k++[itr (stp ts cs) k e,jn cs (itr (stp ts cs) k e)]:=by
 unfold orb;rw[qBu,List.flatMap_append];simp
theorem zBX(ts cs:List Nat)(e:Nat):∀k,(orb ts cs e k).length=2*k
 |0=>rfl
 |k+1=>by rw[zDK,qB2,zBX ts cs e k];simp;lia
theorem bx4:∀s:Nat,s<4->∀w:Nat,w<3->Builtin.bitXor (s:Int) ((w:Int)+1)=((s^^^(w+1):Nat):Int):=by decide
theorem zMG{w s:Nat}(hw:w<3)(hs:s<4):zJL [.int (w:Int),.int (s:Int)]=okR (.int ((s^^^(w+1):Nat):Int)):=by
 refine zBG rfl ?_;show zJZ [some (.int (w:Int),0),some (.int (s:Int),0)]=_;unfold zJZ;simp[bx4 s hs w hw]
theorem zHW{cs:List Nat}{n e:Nat}(hl:cs.length=n)(hn:n<=1000)(hw:∀c∈cs,c<3)(he:e<4*n):zBO [rowD (numL cs),.int (e:Int)]=okR (.int (jn cs e:Nat)):=by
 have hx:=zEL cs (e/4) (by lia);have hc:cs.getD (e/4) 0<3:=zC8 hw (by lia);have hj:=zMG hc (show e%4<4 by lia);have e1:(e:Int)/4=((e/4:Nat):Int):=by lia
 have e2:(e:Int)%4=((e%4:Nat):Int):=by lia
 refine zBG rfl ?_;show zE9 [some (rowD (numL cs),0),some (.int (e:Int),0),none]=_;unfold zE9
 generalize rowD (numL cs)=C at hx ⊢
 refine zAV fun bb hb=>zAG (r:=[some (C,0),some (.int (e:Int),0),some (.int ((e/4:Nat):Int),0)]) (by simp) ?_
 subst hb;have m1:mulD (.int ((e/4:Nat):Int)) (.int 4)=some (.int (((e/4:Nat):Int)*4)):=zZI (by lia) (by lia);have hm:modD (.int (e:Int)) (.int 4)=some (.int ((e%4:Nat):Int)):=by simp
 have ejn:((e/4:Nat):Int)*4+((e%4^^^(cs.getD (e/4) 0+1):Nat):Int)=((jn cs e:Nat):Int):=by unfold jn;lia
 generalize((e/4:Nat):Int)=q at *
 generalize((e%4:Nat):Int)=r at *
 simp only[zMY,x_eB,x_eV,x_eC,zFW,zAW,zBU,zB6,zBY,qBn,qCi,qB3,qAp,zA0,m1,hm,hx,hj,zA8,zW0,ejn];simp
theorem zY9:∀w:Nat,w<3->∀s:Nat,s<4->itA [Dt.tup [.int 1,.int 0,.int 3,.int 2],Dt.tup [.int 2,.int 3,.int 0,.int 1],Dt.tup [.int 3,.int 2,.int 1,.int 0]] (w:Int)=some (Dt.tup ((qA6 4).map fun s:Nat=>Dt.int ((s^^^(w+1):Nat):Int))):=by
 intro w hw s hs
 match w,hw with
 |0,_=>rfl
 |1,_=>rfl
 |2,_=>rfl
theorem zGN{cs:List Nat}{n e:Nat}(hl:cs.length=n)(hn:n<=1000)(hw:∀c∈cs,c<3)(he:e<4*n):zBS [rowD (numL cs),.int (e:Int)]=okR (.int (jn cs e:Nat)):=by
 have hx:=zEL cs (e/4) (by lia);have hc:cs.getD (e/4) 0<3:=zC8 hw (by lia);have h3:=zY9 _ hc (e%4) (by lia);have e1:(e:Int)/4=((e/4:Nat):Int):=by lia
 have e2:(e:Int)%4=((e%4:Nat):Int):=by lia
 generalize hT:Dt.tup ((qA6 4).map fun s:Nat=>Dt.int ((s^^^(cs.getD (e/4) 0+1):Nat):Int))=T at h3
 have h4:ixD T (.int ((e%4:Nat):Int))=some (.int ((e%4^^^(cs.getD (e/4) 0+1):Nat):Int)):=by
  rw[<- hT];refine zIM (j:=e%4) rfl ?_;rw[qAb,qB9 (by lia)];rfl
 have hTd:T.dep=1:=by rw[<- hT];rfl
 refine zBG rfl ?_;show zDP [some (rowD (numL cs),0),some (.int (e:Int),0),none]=_;unfold zDP
 generalize rowD (numL cs)=C at hx ⊢
 have hdv:divD (.int (e:Int)) (.int 4)=some (.int ((e/4:Nat):Int)):=by simp
 have hm:modD (.int (e:Int)) (.int 4)=some (.int ((e%4:Nat):Int)):=by simp
 refine zAV fun bb hb=>zAG (r:=[some (C,0),some (.int (e:Int),0),some (T,0)]) (by
  rw[<- e1]at hx;have h3':ixD (.lst [Dt.tup [.int 1,.int 0,.int 3,.int 2],Dt.tup [.int 2,.int 3,.int 0,.int 1],Dt.tup [.int 3,.int 2,.int 1,.int 0]]) (.int ((cs.getD (e/4) 0:Nat):Int))=some T:=h3;simp[hx,h3',hTd,-qA0,-zaQ]) ?_
 subst hb;have ejn:(e:Int)-((e%4:Nat):Int)+((e%4^^^(cs.getD (e/4) 0+1):Nat):Int)=((jn cs e:Nat):Int):=by unfold jn;lia
 generalize((e%4:Nat):Int)=r at *
 simp only[zMY,x_eB,x_eV,x_eC,zB6,zBY,qBn,qCi,qB3,qAp,zA0,hm,h4,zA8,zW0,zaO,ejn];simp
theorem zRC{l:List Nat}{x:Nat}:ixD (rowD (numL (l++[x]))) (.int (-1))=some (.int (x:Int)):=by
 show itA ((numL (l++[x])).map Dt.int) (-1)=_;unfold itA ixA;simp[numL];rw[if_pos (by lia)];simp;rw[show(-1+((l.length:Int)+1)).toNat=l.length by lia];simp
theorem zDG{ts cs:List Nat}{n e:Nat}(hN:NetN ts (4*n))(hl:cs.length=n)(hn:n<=100)(hw:∀c∈cs,c<3)(he:e<4*n){p:Nat}(p1:1<=p)(p2:p<=4*n)(p3:itr (stp ts cs) p e=e)(p4:∀q,1<=q->q<p->itr (stp ts cs) q e≠e) :
  m_round_of [rowD (numL ts),rowD (numL cs),.int (e:Int)]=okR (rowD (numL (orb ts cs e p))):=by
 obtain⟨st1,_⟩:=zBF hN hl hw;have hlt:∀k,itr (stp ts cs) k e<4*n:=zBB st1 he;have hjn:∀k,zBO [rowD (numL cs),.int ((itr (stp ts cs) k e:Nat):Int)]=okR (.int (jn cs (itr (stp ts cs) k e):Nat)):=fun k=>zHW hl (by lia) hw (hlt k)
 have hnt:∀k,ixD (rowD (numL ts)) (.int ((jn cs (itr (stp ts cs) k e):Nat):Int))=some (.int ((itr (stp ts cs) (k+1) e:Nat):Int)):=fun k=>zEL ts _ (by rw[hN.len];exact(zBK hl hw (hlt k)).1)
 have hlast:∀k,ixD (rowD (numL (orb ts cs e (k+1)))) (.int (-1))=some (.int ((jn cs (itr (stp ts cs) k e):Nat):Int)):=fun k=>by
  rw[zDK,show orb ts cs e k++[itr (stp ts cs) k e,jn cs (itr (stp ts cs) k e)]=(orb ts cs e k++[itr (stp ts cs) k e])++[jn cs (itr (stp ts cs) k e)] by simp];exact zRC
 have hdr:∀k,(rowD (numL (orb ts cs e k))).dep=1:=fun k=>zC9 _
 have hext:∀k:Nat,k<=1000->∀o4,sExt 3 0 (eLst (aCons (eV 4) (aCons (eCall zBO (aCons (eV 1) (aCons (eV 4) aNil))) aNil))) [some (rowD (numL ts),0),some (rowD (numL cs),0),some (.int (e:Int),0),some (rowD (numL (orb ts cs e (k+1))),1),some (.int ((itr (stp ts cs) (k+1) e:Nat):Int),o4)]=okR (.nx [some (rowD (numL ts),0),some (rowD (numL cs),0),some (.int (e:Int),0),some (rowD (numL (orb ts cs e (k+2))),1),some (.int ((itr (stp ts cs) (k+1) e:Nat):Int),o4)]):=by
  intro k hk o4;have hj:=hjn (k+1);have ol:=zBX ts cs e (k+1);have es:=zDK ts cs e (k+1)
  generalize rowD (numL cs)=C at hj ⊢
  generalize rowD (numL ts)=T
  generalize hx:itr (stp ts cs) (k+1) e=x at hj es ⊢
  generalize hy:jn cs x=y at hj es ⊢
  rw[show k+1+1=k+2 from rfl]at es;rw[es];unfold rowD numL sExt;simp[hj,ol]
  lia
 have key:zGH [some (rowD (numL ts),0),some (rowD (numL cs),0),some (.int (e:Int),0),none,none]=okR (.rt (rowD (numL (orb ts cs e p)))):=by
  unfold zGH;have h0:=hjn 0;refine zAV fun bb hb=>zAG (r:=[some (rowD (numL ts),0),some (rowD (numL cs),0),some (.int (e:Int),0),some (rowD (numL (orb ts cs e 1)),1),none]) (by
   have eo:rowD (numL (orb ts cs e 1))=.lst [.int (e:Int),.int ((jn cs e:Nat):Int)]:=rfl
   replace h0:zBO [rowD (numL cs),.int (e:Int)]=okR (.int ((jn cs e:Nat):Int)):=h0
   rw[eo]
   generalize rowD (numL cs)=C at h0 ⊢
   generalize rowD (numL ts)=T
   simp[h0]) ?_
  subst hb;refine zAV fun bb hb=>?_
  refine zJH (fun r=>∃k o4,k+1<=p/\r=[some (rowD (numL ts),0),some (rowD (numL cs),0),some (.int (e:Int),0),some (rowD (numL (orb ts cs e (k+1))),1),o4]) (fun r=>1000-zWX 3 r) (fun r=>∃o4,r=[some (rowD (numL ts),0),some (rowD (numL cs),0),some (.int (e:Int),0),some (rowD (numL (orb ts cs e p)),1),o4]) ⟨0,none,by lia,rfl⟩ ?_ ?_ ?_
  ·exact qC5 (qHv _ _) (by lia)
  ·rintro r ⟨k,o4,hk,rfl⟩
   have c1:=hlast k;have c2:=hnt k;have hx1:itr (stp ts cs) (k+1) e=e↔k+1=p:=by
    constructor
    ·intro h
     by_cases hkp:k+1=p
     ·exact hkp
     ·exact absurd h (p4 (k+1) (by lia) (by lia))
    ·intro h;rw[h];exact p3
   have hcond:(tB (eB neD (eB ixD (eV 0) (eB ixD (eV 3) (eU negD (eC (.int 1))))) (eV 2))) (full [some (rowD (numL ts),0),some (rowD (numL cs),0),some (.int (e:Int),0),some (rowD (numL (orb ts cs e (k+1))),1),o4])=okR (decide (¬k+1=p)):=by
    have hd:decide (((itr (stp ts cs) (k+1) e:Nat):Int)=(e:Int))=decide (k+1=p):=by
     by_cases h:k+1=p
     ·have:=hx1.mpr h
      rw[this];simp[h]
     ·have:¬itr (stp ts cs) (k+1) e=e:=fun z=>h (hx1.mp z)
      simp[h]
      lia
    generalize rowD (numL (orb ts cs e (k+1)))=Z at c1 ⊢
    generalize rowD (numL cs)=C
    generalize rowD (numL ts)=T at c2 ⊢
    simp[c1,c2,hd]
   rw[hcond]
   by_cases hkp:k+1=p
   ·refine .inl ⟨by simp[hkp],o4,?_⟩;rw[hkp]
   ·refine .inr ⟨by simp[hkp],?_⟩;refine zB8 fun bb hb=>zAG (r:=[some (rowD (numL ts),0),some (rowD (numL cs),0),some (.int (e:Int),0),some (rowD (numL (orb ts cs e (k+1))),1),some (.int ((itr (stp ts cs) (k+1) e:Nat):Int),0)]) (by
     generalize rowD (numL (orb ts cs e (k+1)))=Z at c1 ⊢
     generalize rowD (numL cs)=C
     generalize rowD (numL ts)=T at c2 ⊢
     simp[c1,c2]) ?_
    subst hb;refine zAG (hext k (by lia) 0) ⟨⟨k+1,_,by lia,rfl⟩,?_⟩;have l1:=zBX ts cs e (k+1);have l2:=zBX ts cs e (k+2);show 1000-((numL (orb ts cs e (k+2))).map Dt.int).length<1000-((numL (orb ts cs e (k+1))).map Dt.int).length;simp[numL,l1,l2]
    lia
  ·rintro r ⟨o4,rfl⟩
   subst hb
   have:=hdr p
   generalize rowD (numL (orb ts cs e p))=Z at this ⊢
   generalize rowD (numL cs)=C
   generalize rowD (numL ts)=T
   simp[this]
 exact zBG rfl key
theorem zHS{ts cs:List Nat}{n e:Nat}(hN:NetN ts (4*n))(hl:cs.length=n)(hn:n<=100)(hw:∀c∈cs,c<3)(he:e<4*n){p:Nat}(p1:1<=p)(p2:p<=4*n)(p3:itr (stp ts cs) p e=e)(p4:∀q,1<=q->q<p->itr (stp ts cs) q e≠e) :
  zCI [rowD (numL ts),rowD (numL cs),.int (e:Int)]=okR (rowD (numL (orb ts cs e p))):=by
 obtain⟨st1,_⟩:=zBF hN hl hw;have hlt:∀k,itr (stp ts cs) k e<4*n:=zBB st1 he;have hjn:∀k,zBS [rowD (numL cs),.int ((itr (stp ts cs) k e:Nat):Int)]=okR (.int (jn cs (itr (stp ts cs) k e):Nat)):=fun k=>zGN hl (by lia) hw (hlt k)
 have hnt:∀k,ixD (rowD (numL ts)) (.int ((jn cs (itr (stp ts cs) k e):Nat):Int))=some (.int ((itr (stp ts cs) (k+1) e:Nat):Int)):=fun k=>zEL ts _ (by rw[hN.len];exact(zBK hl hw (hlt k)).1)
 have hlast:∀k,ixD (rowD (numL (orb ts cs e (k+1)))) (.int (-1))=some (.int ((jn cs (itr (stp ts cs) k e):Nat):Int)):=fun k=>by
  rw[zDK,show orb ts cs e k++[itr (stp ts cs) k e,jn cs (itr (stp ts cs) k e)]=(orb ts cs e k++[itr (stp ts cs) k e])++[jn cs (itr (stp ts cs) k e)] by simp];exact zRC
 have key:zEA [some (rowD (numL ts),0),some (rowD (numL cs),0),some (.int (e:Int),0),none,none]=okR (.rt (rowD (numL (orb ts cs e p)))):=by
  unfold zEA;refine zAV fun bb hb=>zAG (r:=[some (rowD (numL ts),0),some (rowD (numL cs),0),some (.int (e:Int),0),some (rowD (numL (orb ts cs e 0)),9),none]) (by
   have eo:rowD (numL (orb ts cs e 0))=.lst []:=rfl;rw[eo]
   generalize rowD (numL cs)=C
   generalize rowD (numL ts)=T
   simp) ?_
  subst hb;refine zAV fun bb hb=>zAG (r:=[some (rowD (numL ts),0),some (rowD (numL cs),0),some (.int (e:Int),0),some (rowD (numL (orb ts cs e 0)),9),some (.int ((itr (stp ts cs) 0 e:Nat):Int),0)]) (by
   show _=okR (Out.nx [some (rowD (numL ts),0),some (rowD (numL cs),0),some (.int (e:Int),0),some (rowD (numL (orb ts cs e 0)),9),some (.int (e:Int),0)])
   generalize rowD (numL (orb ts cs e 0))=Z
   generalize rowD (numL cs)=C
   generalize rowD (numL ts)=T
   simp) ?_
  subst hb;refine zAV fun bb hb=>?_
  refine zJH (fun r=>∃k,k<=p/\r=[some (rowD (numL ts),0),some (rowD (numL cs),0),some (.int (e:Int),0),some (rowD (numL (orb ts cs e k)),9),some (.int ((itr (stp ts cs) k e:Nat):Int),0)]) (fun r=>1000-zWX 3 r) (fun r=>∃o4,r=[some (rowD (numL ts),0),some (rowD (numL cs),0),some (.int (e:Int),0),some (rowD (numL (orb ts cs e p)),9),o4]) ⟨0,by lia,rfl⟩ ?_ ?_ ?_
  ·exact qC5 (qHv _ _) (by lia)
  ·rintro r ⟨k,hk,rfl⟩
   have hcond:(Mi.tOr (tB (eB eqD (eV 3) (eLst aNil))) (tB (eB neD (eV 4) (eV 2)))) (full [some (rowD (numL ts),0),some (rowD (numL cs),0),some (.int (e:Int),0),some (rowD (numL (orb ts cs e k)),9),some (.int ((itr (stp ts cs) k e:Nat):Int),0)])=okR (decide (¬k=p)):=by
    have hq:=zVI (numL (orb ts cs e k)) []
    replace hq:Dt.eq (rowD (numL (orb ts cs e k))) (.lst [])=decide (numL (orb ts cs e k)=[]):=hq
    have hd:=zC9 (numL (orb ts cs e k))
    by_cases h0:k=0
    ·have h1:(numL (orb ts cs e k)=[])=True:=by subst h0;exact eq_true rfl
     have h2:¬k=p:=by lia
     generalize rowD (numL (orb ts cs e k))=Z at hq hd ⊢
     generalize rowD (numL cs)=C
     generalize rowD (numL ts)=T
     simp[hq,hd,h1,h2]
    ·have hol:=zBX ts cs e k;have h1:(numL (orb ts cs e k)=[])=False:=eq_false fun z=>by
      have:=congrArg qEi z
      simp[numL,hol]at this
      lia
     have h2:((itr (stp ts cs) k e:Nat):Int)=(e:Int)↔k=p:=by
      constructor
      ·intro h
       by_cases hkp:k=p
       ·exact hkp
       ·exact absurd (by lia) (p4 k (by lia) (by lia))
      ·intro h;rw[h,p3]
     generalize rowD (numL (orb ts cs e k))=Z at hq hd ⊢
     generalize rowD (numL cs)=C
     generalize rowD (numL ts)=T
     simp[hq,hd,h1,h2]
   rw[hcond]
   by_cases hkp:k=p
   ·subst hkp;exact .inl ⟨by simp,_,rfl⟩
   ·refine .inr ⟨by simp[hkp],?_⟩;have ol:=zBX ts cs e k;have hx:=hlt k;refine zB8 fun bb hb=>zAG (zVY (i:=3) (k:=8) (ds:=(numL (orb ts cs e k)).map Dt.int) (d:=.int ((itr (stp ts cs) k e:Nat):Int)) rfl rfl (by simp[numL,ol];lia) (qAc _) (qAc _)) ?_
    subst hb;show nxR (sSeq _ _ [some (rowD (numL ts),0),some (rowD (numL cs),0),some (.int (e:Int),0),some (.lst ((numL (orb ts cs e k)).map Dt.int++[.int ((itr (stp ts cs) k e:Nat):Int)]),9),some (.int ((itr (stp ts cs) k e:Nat):Int),0)]) _;refine zB8 fun bb hb=>zAG (zVY (i:=3) (k:=8) (ds:=(numL (orb ts cs e k)).map Dt.int++[.int ((itr (stp ts cs) k e:Nat):Int)]) (d:=.int ((jn cs (itr (stp ts cs) k e):Nat):Int)) rfl ?_ (by simp[numL,ol];lia) (qAc _) (qAc _)) ?_
    ·have hj:=hjn k
     generalize rowD (numL cs)=C at hj ⊢
     generalize rowD (numL ts)=T
     generalize((numL (orb ts cs e k)).map Dt.int++[.int ((itr (stp ts cs) k e:Nat):Int)])=Z
     simp[hj]
    subst hb;have eo:(Dt.lst ((numL (orb ts cs e k)).map Dt.int++[.int ((itr (stp ts cs) k e:Nat):Int)]++[.int ((jn cs (itr (stp ts cs) k e):Nat):Int)]))=rowD (numL (orb ts cs e (k+1))):=by
     rw[zDK];simp[rowD,numL]
    show nxR (sSet 4 0 [0,3] _ [some (rowD (numL ts),0),some (rowD (numL cs),0),some (.int (e:Int),0),some (.lst ((numL (orb ts cs e k)).map Dt.int++[.int ((itr (stp ts cs) k e:Nat):Int)]++[.int ((jn cs (itr (stp ts cs) k e):Nat):Int)]),9),some (.int ((itr (stp ts cs) k e:Nat):Int),0)]) _;rw[eo];have c1:=hlast k;have c2:=hnt k;refine zAG (r:=[some (rowD (numL ts),0),some (rowD (numL cs),0),some (.int (e:Int),0),some (rowD (numL (orb ts cs e (k+1))),9),some (.int ((itr (stp ts cs) (k+1) e:Nat):Int),0)]) (by
     generalize rowD (numL (orb ts cs e (k+1)))=Z at c1 ⊢
     generalize rowD (numL cs)=C
     generalize rowD (numL ts)=T at c2 ⊢
     simp[c1,c2]) ⟨⟨k+1,by lia,rfl⟩,?_⟩
    have l2:=zBX ts cs e (k+1);show 1000-((numL (orb ts cs e (k+1))).map Dt.int).length<1000-((numL (orb ts cs e k)).map Dt.int).length;simp[numL,ol,l2]
    lia
  ·rintro r ⟨o4,rfl⟩
   subst hb
   have:=zC9 (numL (orb ts cs e p))
   generalize rowD (numL (orb ts cs e p))=Z at this ⊢
   generalize rowD (numL cs)=C
   generalize rowD (numL ts)=T
   simp[this]
 exact zBG rfl key
abbrev Kv:=List (Sum Int Str×Sw)
def zCT(D:Kv)(l:List Nat):Kv:=l.foldl (fun(m:Kv)(x:Nat)=>putW m (.inl (x:Int)) (.bl true)) D
theorem zEC(D:Kv)(k:Sum Int Str)(v:Sw):(putW D k v).length<=D.length+1:=by
 unfold putW
 split
 ·simp
 ·simp
theorem zNX(l:List Nat):∀D:Kv,(zCT D l).length<=D.length+l.length:=by
 induction l with
 |nil=>intro D;exact qAa _
 |cons x r ih=>
  intro D;have h1:=ih (putW D (.inl (x:Int)) (.bl true));have h2:=zEC D (.inl (x:Int)) (.bl true)
  show(zCT (putW D (.inl (x:Int)) (.bl true)) r).length<=_
  simp only[qB6]
  lia
def rdS(f:Nat->List Nat):Nat->List (List Nat)×Kv
 |0=>([],[])
 |k+1=>if(getW (rdS f k).2 (.inl (k:Int))).isSome=true then rdS f k else((rdS f k).1++[f k],zCT (rdS f k).2 (f k))
theorem zJ5{f:Nat->List Nat}{B:Nat}(hf:∀k,(f k).length<=B):∀k,(rdS f k).1.length<=k/\(rdS f k).2.length<=k*B
 |0=>by simp[rdS]
 |k+1=>by
  obtain⟨h1,h2⟩:=zJ5 hf k;have hb:=hf k;have hm:=zNX (f k) (rdS f k).2;unfold rdS
  split
  ·exact⟨by lia,by rw[qG5];lia⟩
  ·exact⟨by simp;lia,by show(zCT (rdS f k).2 (f k)).length<=_;rw[qG5];lia⟩
def rowsD(R:List (List Nat)):Dt:=.lst (R.map fun l=>rowD (numL l))
theorem zNA:∀R:List (List Nat),Dt.depL (R.map fun l=>rowD (numL l))<=1
 |[]=>by simp[Dt.depL]
 |l::R=>by
  have h:=zNA R
  have:=zC9 (numL l)
  simp only[qAn];rw[Dt.depL]
  lia
theorem zHD(R:List (List Nat)):(rowsD R).dep<=2:=by
 have:=zNA R
 unfold rowsD;rw[Dt.dep]
 lia
theorem zFV{r:Ro}{i v:Nat}{R:List (List Nat)}{l:List Nat}{lv lx:Nat}{e:EM}(hi:r[i]?=some (some (rowsD R,lv+1)))(hv:r[v]?=some (some (rowD (numL l),lx)))(hne:v≠i)(he:∀ρ:Rh,ρ[v]?=some (some (rowD (numL l)))->e ρ=okR (rowD (numL l)))(hz:R.length<=1000) :
  sAppF i [v] e r=okR (.nx (((r.set i (some (rowsD R,1))).set v (some (rowD (numL l),0))).set i (some (rowsD (R++[l]),1)))):=by
 have hil:i<r.length:=by
  have:=(qA4.mp hi).1
  exact this
 have hvl:v<r.length:=(qA4.mp hv).1;have h1:low i r=r.set i (some (rowsD R,1)):=by
  unfold low;rw[hi];rfl
 have h2:frzAt [v] (r.set i (some (rowsD R,1)))=(r.set i (some (rowsD R,1))).set v (some (rowD (numL l),0)):=by
  show frz1 v _=_;unfold frz1;rw[qAi (qD6 hne),hv]
 unfold sAppF;rw[h1,h2];have h3:((r.set i (some (rowsD R,1))).set v (some (rowD (numL l),0)))[i]?=some (some (rowsD R,1)):=by
  rw[qAi hne,qAh hil]
 rw[h3];have h4:(frz ((r.set i (some (rowsD R,1))).set v (some (rowD (numL l),0))))[v]?=some (some (rowD (numL l))):=by
  unfold frz;rw[qAb,qAh (by simpa using hvl)];simp
 show zA4 (e _) _=_;rw[he _ h4,zA0,if_pos (by simp;lia)]
 congr 5
 simp[rowsD]
theorem zHO:∀(l:List Nat),pairsD (l.map fun x:Nat=>Dt.tup [.int (x:Int),.bl true])=some (l.map fun x:Nat=>((qEb (x:Int):Sum Int Str),Sw.bl true))
 |[]=>rfl
 |x::l=>by
  simp only[qAn];unfold pairsD;rw[zHO l];rfl
theorem zP8(l:List Nat)(D:Kv):(l.map fun x:Nat=>((qEb (x:Int):Sum Int Str),Sw.bl true)).foldl (fun m p=>putW m p.1 p.2) D=zCT D l:=by
 unfold zCT;rw[List.foldl_map]
theorem zEY{ts cs:List Nat}{n:Nat}(hN:NetN ts (4*n))(hn:n<=30){f:Nat->List Nat}(hf:∀k,(f k).length<=8*n)
  (hr:∀e,e<4*n->m_round_of [rowD (numL ts),rowD (numL cs),.int (e:Int)]=okR (rowD (numL (f e)))) :
  zDL [rowD (numL ts),rowD (numL cs)]=okR (rowsD (rdS f (4*n)).1):=by
 have hlen:lenD [rowD (numL ts)]=some (.int ((4*n:Nat):Int)):=by
  show some (Dt.int (((numL ts).map Dt.int).length:Int))=_;rw[qAg];unfold numL;rw[qAg,hN.len]
 have key:zF8 [some (rowD (numL ts),0),some (rowD (numL cs),0),none,none,none,none]=okR (.rt (rowsD (rdS f (4*n)).1)):=by
  unfold zF8;refine zAV fun bb hb=>zAG (r:=[some (rowD (numL ts),0),some (rowD (numL cs),0),some (.lst [],9),none,none,none]) (by
   generalize rowD (numL cs)=C
   generalize rowD (numL ts)=T
   simp) ?_
  subst hb;refine zAV fun bb hb=>zAG (r:=[some (rowD (numL ts),0),some (rowD (numL cs),0),some (.lst [],9),some (.dct [],1),none,none]) rfl ?_
  subst hb;refine zAV fun bb hb=>?_
  rw[zCY,show iR1 (aCons (eBi lenD (aCons (eV 0) aNil)) aNil) (full [some (rowD (numL ts),0),some (rowD (numL cs),0),some (.lst [],9),some (.dct [],1),none,none])=okR (nums 0 (4*n)) from zGO (n:=4*n) (by
   generalize rowD (numL cs)=C
   generalize rowD (numL ts)=T at hlen ⊢
   simp only[zAW,zBU,zOI,x_eV,zB6,zBY,qBn,qCi,qAp,zA0,hlen,zA8]) (by lia),zA0]
  refine zKU (fun k r=>∃lv o4 o5,(lv=0\/(lv=8/\(rdS f k).1=[]))/\r=[some (rowD (numL ts),0),some (rowD (numL cs),0),some (rowsD (rdS f k).1,lv+1),some (.dct (rdS f k).2,1),o4,o5]) ⟨8,none,none,.inr ⟨rfl,rfl⟩,rfl⟩ (fun k hk r hr=>?_) fun r hr=>?_
  ·obtain⟨lv,o4,o5,hlv,rfl⟩:=hr;obtain⟨l1,l2⟩:=zJ5 hf k;have hfk:=hf k;show nxR (sIf _ _ _ [some (rowD (numL ts),0),some (rowD (numL cs),0),some (rowsD (rdS f k).1,lv+1),some (.dct (rdS f k).2,1),some (.int (k:Int),0),o5]) _;have hrk:=hr k hk;have hcond:(tB (eB (dinD true) (eV 4) (eV 3))) (full [some (rowD (numL ts),0),some (rowD (numL cs),0),some (rowsD (rdS f k).1,lv+1),some (.dct (rdS f k).2,1),some (.int (k:Int),0),o5])=okR (!(getW (rdS f k).2 (.inl (k:Int))).isSome):=rfl;unfold sIf;rw[hcond,zA0]
   by_cases hg:(getW (rdS f k).2 (.inl (k:Int))).isSome=true
   ·rw[hg];have e1:rdS f (k+1)=rdS f k:=by rw[rdS,if_pos hg]
    refine zAG (r:=[some (rowD (numL ts),0),some (rowD (numL cs),0),some (rowsD (rdS f k).1,lv+1),some (.dct (rdS f k).2,1),some (.int (k:Int),0),o5]) rfl ⟨lv,_,_,?_,by rw[e1]⟩;rw[e1];exact hlv
   ·have hg':(getW (rdS f k).2 (.inl (k:Int))).isSome=false:=by simpa using hg
    have e1:rdS f (k+1)=((rdS f k).1++[f k],zCT (rdS f k).2 (f k)):=by rw[rdS,if_neg hg]
    rw[hg'];rw[if_pos (by rfl)];have hdl:=zC9 (numL (f k));refine zB8 fun bb hb=>zAG (r:=[some (rowD (numL ts),0),some (rowD (numL cs),0),some (rowsD (rdS f k).1,lv+1),some (.dct (rdS f k).2,1),some (.int (k:Int),0),some (rowD (numL (f k)),1)]) (by
     generalize rowD (numL (f k))=Z at hrk hdl ⊢
     generalize rowD (numL cs)=C at hrk ⊢
     generalize rowD (numL ts)=T at hrk ⊢
     generalize rowsD (rdS f k).1=RR
     generalize Dt.dct (rdS f k).2=DD
     simp[hrk,hdl]) ?_
    subst hb;refine zB8 fun bb hb=>zAG (zFV (i:=2) (v:=5) (R:=(rdS f k).1) (l:=f k) (lv:=lv) (lx:=1) rfl rfl (by decide) (fun ρ hρ=>by show(match ρ[5]? with|some (some d)=>okR d|_=>none)=_;rw[hρ]) (by lia)) ?_
    subst hb;show nxR (sDupd 3 _ [some (rowD (numL ts),0),some (rowD (numL cs),0),some (rowsD ((rdS f k).1++[f k]),1),some (.dct (rdS f k).2,1),some (.int (k:Int),0),some (rowD (numL (f k)),0)]) _;have hc:eComp (iSq (eV 5)) 1 (.one 6) Mi.tYes (eTup (aCons (eV 6) (aCons (eC (.bl true)) aNil))) (full [some (rowD (numL ts),0),some (rowD (numL cs),0),some (rowsD ((rdS f k).1++[f k]),1),some (.dct (rdS f k).2,1),some (.int (k:Int),0),some (rowD (numL (f k)),0)])=okR (.lst ((f k).map fun x:Nat=>Dt.tup [.int (x:Int),.bl true])):=by
     refine zEI (ρ:=full [some (rowD (numL ts),0),some (rowD (numL cs),0),some (rowsD ((rdS f k).1++[f k]),1),some (.dct (rdS f k).2,1),some (.int (k:Int),0),some (rowD (numL (f k)),0)]) (c:=tYes) (i:=6) (fun x:Nat=>Dt.int (x:Int)) (fun x:Nat=>Dt.tup [.int (x:Int),.bl true]) (f k) rfl rfl (fun x _=>?_) _ ?_ (by lia)
     ·generalize rowD (numL (f k))=Z
      generalize rowD (numL cs)=C
      generalize rowD (numL ts)=T
      generalize rowsD ((rdS f k).1++[f k])=RR
      generalize Dt.dct (rdS f k).2=DD
      simp
     ·show okR ((numL (f k)).map Dt.int)=_;unfold numL;rw[qAu];rfl
    refine zAG (r:=[some (rowD (numL ts),0),some (rowD (numL cs),0),some (rowsD ((rdS f k).1++[f k]),1),some (.dct (zCT (rdS f k).2 (f k)),1),some (.int (k:Int),0),some (rowD (numL (f k)),0)]) ?_ ⟨0,_,_,.inl rfl,by rw[e1]⟩;show zA4 (eComp _ _ _ _ _ _) _=_;rw[hc,zA0];dsimp only;rw[zHO];dsimp only;have h8:(rdS f k).2.length<=120*240:=qAo l2 (qH4 (by lia) (by lia));rw[if_pos (by rw[qAg];lia),zP8];rfl
  ·obtain⟨lv,o4,o5,hlv,rfl⟩:=hr;subst hb;have hd:=zHD (rdS f (4*n)).1
   rcases hlv with rfl|⟨rfl,he⟩
   ·generalize rowsD (rdS f (4*n)).1=RR at hd ⊢
    generalize rowD (numL cs)=C
    generalize rowD (numL ts)=T
    simp
   ·rw[he];show sRetV 1 2 [some (rowD (numL ts),0),some (rowD (numL cs),0),some (.lst [],9),some (.dct (rdS f (4*n)).2,1),o4,o5]=okR (.rt (.lst []))
    generalize rowD (numL cs)=C
    generalize rowD (numL ts)=T
    simp
 exact zBG rfl key
theorem zL2{ts cs:List Nat}{n:Nat}(hN:NetN ts (4*n))(hn:n<=30){f:Nat->List Nat}(hf:∀k,(f k).length<=8*n)
  (hr:∀e,e<4*n->zCI [rowD (numL ts),rowD (numL cs),.int (e:Int)]=okR (rowD (numL (f e)))) :
  zAZ [rowD (numL ts),rowD (numL cs)]=okR (rowsD (rdS f (4*n)).1):=by
 have hlen:lenD [rowD (numL ts)]=some (.int ((4*n:Nat):Int)):=by
  show some (Dt.int (((numL ts).map Dt.int).length:Int))=_;rw[qAg];unfold numL;rw[qAg,hN.len]
 have key:zDO [some (rowD (numL ts),0),some (rowD (numL cs),0),none,none,none,none,none]=okR (.rt (rowsD (rdS f (4*n)).1)):=by
  unfold zDO;refine zAV fun bb hb=>zAG (r:=[some (rowD (numL ts),0),some (rowD (numL cs),0),some (.dct [],1),none,none,none,none]) rfl ?_
  subst hb;refine zAV fun bb hb=>zAG (r:=[some (rowD (numL ts),0),some (rowD (numL cs),0),some (.dct [],1),some (.lst [],9),none,none,none]) (by
   generalize rowD (numL cs)=C
   generalize rowD (numL ts)=T
   simp) ?_
  subst hb;refine zAV fun bb hb=>?_
  rw[zCY,show iR1 (aCons (eBi lenD (aCons (eV 0) aNil)) aNil) (full [some (rowD (numL ts),0),some (rowD (numL cs),0),some (.dct [],1),some (.lst [],9),none,none,none])=okR (nums 0 (4*n)) from zGO (n:=4*n) (by
   generalize rowD (numL cs)=C
   generalize rowD (numL ts)=T at hlen ⊢
   simp only[zAW,zBU,zOI,x_eV,zB6,zBY,qBn,qCi,qAp,zA0,hlen,zA8]) (by lia),zA0]
  refine zKU (fun k r=>∃lv o4 o5 o6,(lv=0\/(lv=8/\(rdS f k).1=[]))/\r=[some (rowD (numL ts),0),some (rowD (numL cs),0),some (.dct (rdS f k).2,1),some (rowsD (rdS f k).1,lv+1),o4,o5,o6]) ⟨8,none,none,none,.inr ⟨rfl,rfl⟩,rfl⟩ (fun k hk r hr=>?_) fun r hr=>?_
  ·obtain⟨lv,o4,o5,o6,hlv,rfl⟩:=hr;obtain⟨l1,l2⟩:=zJ5 hf k;have hfk:=hf k;show nxR (sIf _ _ _ [some (rowD (numL ts),0),some (rowD (numL cs),0),some (.dct (rdS f k).2,1),some (rowsD (rdS f k).1,lv+1),some (.int (k:Int),0),o5,o6]) _;have hrk:=hr k hk;have hcond:(tB (eB (dinD true) (eV 4) (eV 2))) (full [some (rowD (numL ts),0),some (rowD (numL cs),0),some (.dct (rdS f k).2,1),some (rowsD (rdS f k).1,lv+1),some (.int (k:Int),0),o5,o6])=okR (!(getW (rdS f k).2 (.inl (k:Int))).isSome):=rfl;unfold sIf;rw[hcond,zA0]
   by_cases hg:(getW (rdS f k).2 (.inl (k:Int))).isSome=true
   ·rw[hg];have e1:rdS f (k+1)=rdS f k:=by rw[rdS,if_pos hg]
    refine zAG (r:=[some (rowD (numL ts),0),some (rowD (numL cs),0),some (.dct (rdS f k).2,1),some (rowsD (rdS f k).1,lv+1),some (.int (k:Int),0),o5,o6]) rfl ⟨lv,_,_,_,?_,by rw[e1]⟩;rw[e1];exact hlv
   ·have hg':(getW (rdS f k).2 (.inl (k:Int))).isSome=false:=by simpa using hg
    have e1:rdS f (k+1)=((rdS f k).1++[f k],zCT (rdS f k).2 (f k)):=by rw[rdS,if_neg hg]
    rw[hg'];rw[if_pos (by rfl)];have hdl:=zC9 (numL (f k));have h8:(rdS f k).2.length<=120*240:=qAo l2 (qH4 (by lia) (by lia));refine zB8 fun bb hb=>zAG (r:=[some (rowD (numL ts),0),some (rowD (numL cs),0),some (.dct (rdS f k).2,1),some (rowsD (rdS f k).1,lv+1),some (.int (k:Int),0),some (rowD (numL (f k)),9),o6]) (by
     generalize rowD (numL (f k))=Z at hrk hdl ⊢
     generalize rowD (numL cs)=C at hrk ⊢
     generalize rowD (numL ts)=T at hrk ⊢
     generalize rowsD (rdS f k).1=RR
     generalize Dt.dct (rdS f k).2=DD
     simp[hrk,hdl]) ?_
    subst hb;have hfor:nxR (sFor [5] (iSq (eV 5)) (.one 6) (sDput 2 (eV 6) (eC (.bl true))) [some (rowD (numL ts),0),some (rowD (numL cs),0),some (.dct (rdS f k).2,1),some (rowsD (rdS f k).1,lv+1),some (.int (k:Int),0),some (rowD (numL (f k)),9),o6]) (fun r=>∃o6,r=[some (rowD (numL ts),0),some (rowD (numL cs),0),some (.dct (zCT (rdS f k).2 (f k)),1),some (rowsD (rdS f k).1,lv+1),some (.int (k:Int),0),some (rowD (numL (f k)),0),o6]):=by
     rw[zK2];show nxR (zA4 (okR ((numL (f k)).map Dt.int)) fun ds=>forGo (.one 6) (sDput 2 (eV 6) (eC (.bl true))) ds [some (rowD (numL ts),0),some (rowD (numL cs),0),some (.dct (rdS f k).2,1),some (rowsD (rdS f k).1,lv+1),some (.int (k:Int),0),some (rowD (numL (f k)),0),o6]) _;rw[zA0,show(numL (f k)).map Dt.int=(f k).map fun x:Nat=>Dt.int (x:Int) by unfold numL;rw[qAu];rfl];refine zF4 (fun x:Nat=>Dt.int (x:Int)) (f k) (fun j r=>∃o6,r=[some (rowD (numL ts),0),some (rowD (numL cs),0),some (.dct (zCT (rdS f k).2 ((f k).take j)),1),some (rowsD (rdS f k).1,lv+1),some (.int (k:Int),0),some (rowD (numL (f k)),0),o6]) ⟨o6,rfl⟩ (fun j x hx r hr=>?_) fun r hr=>?_
     ·obtain⟨o6,rfl⟩:=hr;have hjl:j<(f k).length:=(qA4.mp hx).1;have hxe:(f k)[j]=x:=(qA4.mp hx).2;have e2:zCT (rdS f k).2 ((f k).take (j+1))=putW (zCT (rdS f k).2 ((f k).take j)) (.inl (x:Int)) (.bl true):=by
       rw[qBd hjl,hxe];unfold zCT;rw[qCt];rfl
      have hml:=zNX ((f k).take j) (rdS f k).2;have htl:((f k).take j).length<=(f k).length:=by rw[qBo];lia
      refine zAG (r:=[some (rowD (numL ts),0),some (rowD (numL cs),0),some (.dct (zCT (rdS f k).2 ((f k).take (j+1))),1),some (rowsD (rdS f k).1,lv+1),some (.int (k:Int),0),some (rowD (numL (f k)),0),some (.int (x:Int),0)]) ?_ ⟨_,rfl⟩;rw[e2]
      show(@ite _ ((zCT (rdS f k).2 ((f k).take j)).length<=100000) (qA3 _) _ _:R Out)=_
      rw[if_pos (by lia)];rfl
     ·obtain⟨o6,rfl⟩:=hr;exact⟨o6,by rw[qD1]⟩
    refine zB8 fun bb hb=>?_
    obtain⟨r',g1,o6',rfl⟩:=zCK hfor;refine zAG g1 ?_;subst hb;refine zAG (zFV (i:=3) (v:=5) (R:=(rdS f k).1) (l:=f k) (lv:=lv) (lx:=0) rfl rfl (by decide) (fun ρ hρ=>by show(match ρ[5]? with|some (some d)=>okR d|_=>none)=_;rw[hρ]) (by lia)) ⟨0,some (.int (k:Int),0),some (rowD (numL (f k)),0),o6',.inl rfl,?_⟩;rw[e1];rfl
  ·obtain⟨lv,o4,o5,o6,hlv,rfl⟩:=hr;subst hb
   rcases hlv with rfl|⟨rfl,he⟩
   ·generalize rowsD (rdS f (4*n)).1=RR
    generalize rowD (numL cs)=C
    generalize rowD (numL ts)=T
    simp
   ·rw[he];show sRetV 1 3 [some (rowD (numL ts),0),some (rowD (numL cs),0),some (.dct (rdS f (4*n)).2,1),some (.lst [],9),o4,o5,o6]=okR (.rt (.lst []))
    generalize rowD (numL cs)=C
    generalize rowD (numL ts)=T
    simp
 exact zBG rfl key
theorem zaU{ns:List Int}{M:Nat}(h:FW.NetL ns M):∃ts:List Nat,numL ts=ns/\NetN ts M:=by
 have key:∀i,i<M->∃j:Nat,j<M/\ns[i]?=some (j:Int)/\ns[j]?=some (i:Int):=fun i hi=>by
  obtain⟨j,h1,_,h2,h3⟩:=h.tie i hi;exact⟨j,h1,h2,h3⟩
 have hnt:∀(i j:Nat),ns[i]?=some (j:Int)->nt (ns.map Int.toNat) i=j:=fun i j h1=>by
  unfold nt;rw[qA0,qAb,h1];rfl
 refine⟨ns.map Int.toNat,?_,⟨by simp[h.len],fun i hi=>?_,fun i hi=>?_⟩⟩
 ·unfold numL;rw[qAu];refine qGg (qB8 fun x hx=>?_) (qHr ns);obtain⟨i,hi,e⟩:=qD7 hx;obtain⟨j,_,h2,_⟩:=key i (by rw[<- h.len];exact hi);rw[qA1 hi,e]at h2;simp at h2;rw[h2];rfl
 ·obtain⟨j,h1,h2,_⟩:=key i hi;rw[hnt i j h2];exact h1
 ·obtain⟨j,h1,h2,h3⟩:=key i hi;rw[hnt i j h2,hnt j i h3]
structure Seats(R:List (List Nat))(n:Nat):Prop where
 len:R.length=n
 per:∀l∈R,l.Perm [0,1,2,3]
theorem zBC{l:List Nat}(h:l.Perm [0,1,2,3]):l.length=4/\(∀i,i<4->l.getD i 0<4)/\(∀i j,i<4->j<4->l.getD i 0=l.getD j 0->i=j)/\∀s,s<4->∃i,i<4/\l.getD i 0=s:=by
 have hl:l.length=4:=h.length_eq;have hn:l.Nodup:=h.nodup_iff.mpr (by decide);have hg:∀i (hi:i<l.length),l.getD i 0=l[i]:=fun i hi=>by rw[qA0,qA1 hi];rfl
 refine⟨hl,fun i hi=>?_,fun i j hi hj e=>?_,fun s hs=>?_⟩
 ·rw[hg i (by lia)]
  have:l[i]'(by lia)∈[0,1,2,3]:=h.mem_iff.mp (qD3 _)
  simp at this
  lia
 ·rw[hg i (by lia),hg j (by lia)]at e;have hp:=List.pairwise_iff_getElem.mp hn
  rcases qCf i j with z|z|z
  ·exact absurd e (hp i j (by lia) (by lia) z)
  ·exact z
  ·exact absurd e.symm (hp j i (by lia) (by lia) z)
 ·have:s∈l:=h.mem_iff.mpr (by simp;lia)
  obtain⟨i,hi,e⟩:=qD7 this;exact⟨i,by lia,by rw[hg i hi,e]⟩
noncomputable def atN(row:List Nat)(k:Nat):Nat:=if row.getD k 0∈row.take k then 2 else 0
noncomputable def SE(R:List (List Nat))(p i:Nat):Nat:=4*p+(R.getD p []).getD i 0
def inE(R:List (List Nat))(row:List Nat)(k:Nat):Nat:=SE R (row.getD k 0) (atN row k)
def ouE(R:List (List Nat))(row:List Nat)(k:Nat):Nat:=SE R (row.getD k 0) (atN row k+1)
noncomputable def prv(N k:Nat):Nat:=if k=0 then N-1 else k-1
theorem zDI(row:List Nat)(k:Nat):atN row k=0\/atN row k=2:=by unfold atN;split<;>simp
section
variable{R:List (List Nat)}{row:List Nat}{n:Nat}(hS:Seats R n)(tw:Twice n row)
include hS
theorem zDJ{p:Nat}(hp:p<n):(R.getD p []).Perm [0,1,2,3]:=by
 have:=hS.len
 rw[qA0,qA1 (by lia)];exact hS.per _ (qD3 _)
theorem zaG{p i:Nat}(hp:p<n)(hi:i<4):SE R p i<4*n:=by
 have:=(zBC (zDJ hS hp)).2.1 i hi
 unfold SE
 lia
theorem zSF{p p' i i':Nat}(hp:p<n)(hp':p'<n)(hi:i<4)(hi':i'<4)(e:SE R p i=SE R p' i'):p=p'/\i=i':=by
 have h1:=(zBC (zDJ hS hp)).2.1 i hi;have h2:=(zBC (zDJ hS hp')).2.1 i' hi';unfold SE at e
 have:p=p':=by lia
 subst this;exact⟨rfl,(zBC (zDJ hS hp)).2.2.1 i i' hi hi' (by lia)⟩
include tw
omit hS in
theorem zDW{k:Nat}(hk:k<2*n):row.getD k 0<n:=by
 have:=tw.len
 refine(tw.mem _).mp ?_;rw[qA0,qA1 (by lia)];exact qD3 _
omit hS in
theorem zaF{k k':Nat}(h:k<k')(hk':k'<2*n)(e:row.getD k 0=row.getD k' 0):atN row k≠atN row k':=by
 have hl:=tw.len;have hg:row.getD k 0=row[k]'(by lia):=by rw[qA0,qA1 (by lia)];rfl
 have h2:row.getD k' 0∈row.take k':=by
  rw[<- e,hg];exact qCa.mpr ⟨k,by lia,rfl⟩
 have e2:atN row k'=2:=if_pos h2;intro h3;have h4:row.getD k 0∈row.take k:=by
  rw[e2]at h3;unfold atN at h3
  split at h3
  ·assumption
  ·lia
 have h5:=tw.le1 (a:=k') (by lia);rw[<- e]at h5;have h6:(row.take (k+1)).count (row.getD k 0)<=(row.take k').count (row.getD k 0):=by
  refine qHp _ ?_;rw[show row.take (k+1)=(row.take k').take (k+1) by rw[List.take_take];congr 1;lia];exact qFv _ _
 rw[qBd (show k<row.length by lia),qBs,<- hg]at h6;have h7:0<(row.take k).count (row.getD k 0):=qEa.mpr h4;simp at h6;simp only[qA0]at h5 h7
 lia
omit hS in
theorem zVU{j k:Nat}(hj:j<2*n)(hk:k<2*n)(e:row.getD j 0=row.getD k 0)(e2:atN row j=atN row k):j=k:=by
 rcases qCf j k with z|z|z
 ·exact absurd e2 (zaF tw z hk e)
 ·exact z
 ·exact absurd e2.symm (zaF tw z hj e.symm)
theorem zLD{k:Nat}(hk:k<2*n):inE R row k<4*n:=zaG hS (zDW tw hk) (by rcases zDI row k with h|h<;>lia)
theorem zNS{k:Nat}(hk:k<2*n):ouE R row k<4*n:=zaG hS (zDW tw hk) (by rcases zDI row k with h|h<;>lia)
theorem zX5{j k:Nat}(hj:j<2*n)(hk:k<2*n)(e:inE R row j=inE R row k):j=k:=by
 obtain⟨h1,h2⟩:=zSF hS (zDW tw hj) (zDW tw hk) (by rcases zDI row j with h|h<;>lia) (by rcases zDI row k with h|h<;>lia) e;exact zVU tw hj hk h1 h2
theorem zWH{j k:Nat}(hj:j<2*n)(hk:k<2*n)(e:ouE R row j=ouE R row k):j=k:=by
 obtain⟨h1,h2⟩:=zSF hS (zDW tw hj) (zDW tw hk) (by rcases zDI row j with h|h<;>lia) (by rcases zDI row k with h|h<;>lia) e;exact zVU tw hj hk h1 (by lia)
theorem zFK{j k:Nat}(hj:j<2*n)(hk:k<2*n):inE R row j≠ouE R row k:=fun e=>by
 obtain⟨h1,h2⟩:=zSF hS (zDW tw hj) (zDW tw hk) (by rcases zDI row j with h|h<;>lia) (by rcases zDI row k with h|h<;>lia) e
 rcases zDI row j with h|h<;>rcases zDI row k with h'|h'<;>lia
omit hS in
theorem zO5{p:Nat}(hp:p<n):(∃k,k<2*n/\row.getD k 0=p/\atN row k=0)/\∃k,k<2*n/\row.getD k 0=p/\atN row k=2:=by
 have hl:=tw.len;have hm:p∈row:=(tw.mem p).mpr hp;have hi:row.idxOf p<row.length:=qAl hm;have hg:row[row.idxOf p]=p:=qCn hi;have hgd:row.getD (row.idxOf p) 0=p:=by rw[qA0,qA1 hi,hg];rfl
 have hnt:p∉row.take (row.idxOf p):=fun h=>by
  obtain⟨j,hj,e⟩:=qCa.mp h
  have:row.idxOf p<=j:=by
   by_cases z:j<row.idxOf p
   ·have:=qEy (p:=fun x=>x==p) (xs:=row) (i:=j) z
    simp at this;exact absurd e this
   ·lia
  lia
 refine⟨⟨row.idxOf p,by lia,hgd,by unfold atN;rw[hgd,if_neg hnt]⟩,?_⟩;have hc:=tw.cnt p;rw[if_pos hp,<- qBw (row.idxOf p+1) row,qBs]at hc;rw[qBd hi,qBs,hg,qDc.mpr hnt]at hc;simp at hc;have h1:p∈row.drop (row.idxOf p+1):=qEa.mp (by lia);obtain⟨i,hi2,e⟩:=qD7 h1;rw[List.getElem_drop]at e;simp at hi2;have hgd2:row.getD (row.idxOf p+1+i) 0=p:=by rw[qA0,qA1 (by lia),e];rfl
 refine⟨row.idxOf p+1+i,by lia,hgd2,?_⟩;unfold atN;rw[hgd2,if_pos];exact qCa.mpr ⟨row.idxOf p,by lia,hg⟩
def Tied(R:List (List Nat))(row:List Nat)(n k:Nat)(ms:List Int):Prop:=ms.length=4*n/\∀j,j<k->ms[ouE R row (prv (2*n) j)]?=some ((inE R row j:Nat):Int)/\ms[inE R row j]?=some ((ouE R row (prv (2*n) j):Nat):Int)
omit hS tw in
theorem zKI{N k:Nat}(h:k<N):prv N k<N:=by unfold prv;split<;>lia
omit hS tw in
theorem zWD{N j k:Nat}(hj:j<N)(hk:k<N)(e:prv N j=prv N k):j=k:=by unfold prv at e;split at e<;>split at e<;>lia
theorem zPT{k:Nat}{ms:List Int}(hk:k<2*n)(h:Tied R row n k ms):Tied R row n (k+1) ((ms.set (ouE R row (prv (2*n) k)) ((inE R row k:Nat):Int)).set (inE R row k) ((ouE R row (prv (2*n) k):Nat):Int)):=by
 obtain⟨h1,h2⟩:=h;have hpk:=zKI hk;have a1:=zLD hS tw hk;have a2:=zNS hS tw hpk;have ne:=zFK hS tw hk hpk;refine⟨by simp[h1],fun j hj=>?_⟩
 by_cases z:j=k
 ·subst z;rw[qAi ne,qAh (by lia),qAh (by simp;lia)];exact⟨rfl,rfl⟩
 ·have hjk:j<k:=by lia
  have hpj:=zKI (show j<2*n by lia);obtain⟨g1,g2⟩:=h2 j hjk;rw[qAi (zFK hS tw hk hpj),qAi (fun e=>z (zWD (by lia) hk (zWH hS tw hpj hpk e.symm))),g1,
   qAi (fun e=>z (zX5 hS tw (by lia) hk e.symm)),qAi (fun e=>zFK hS tw (show j<2*n by lia) hpk e.symm),g2]
  exact⟨rfl,rfl⟩
theorem zSS{ms:List Int}(h:Tied R row n (2*n) ms):FW.NetL ms (4*n):=by
 obtain⟨h1,h2⟩:=h;refine⟨h1,fun i hi=>?_⟩;have hp:i/4<n:=by lia
 obtain⟨j,hj,ej⟩:=(zBC (zDJ hS hp)).2.2.2 (i%4) (by lia);have hiS:i=SE R (i/4) j:=by unfold SE;lia
 obtain⟨⟨k0,b0,c0,d0⟩,k2,b2,c2,d2⟩:=zO5 tw hp;have key:∃k,k<2*n/\(i=inE R row k\/i=ouE R row k):=by
  rcases(show j=0\/j=1\/j=2\/j=3 by lia)with z|z|z|z
  ·exact⟨k0,b0,.inl (by unfold inE;rw[c0,d0];subst z;exact hiS)⟩
  ·exact⟨k0,b0,.inr (by unfold ouE;rw[c0,d0];subst z;exact hiS)⟩
  ·exact⟨k2,b2,.inl (by unfold inE;rw[c2,d2];subst z;exact hiS)⟩
  ·exact⟨k2,b2,.inr (by unfold ouE;rw[c2,d2];subst z;exact hiS)⟩
 obtain⟨k,hk,e|e⟩:=key
 ·obtain⟨g1,g2⟩:=h2 k hk;refine⟨ouE R row (prv (2*n) k),zNS hS tw (zKI hk),fun z=>zFK hS tw hk (zKI hk) (by rw[z,e]),by rw[e];exact g2,by rw[e];exact g1⟩
 ·obtain⟨q,hq,eq⟩:∃q,q<2*n/\prv (2*n) q=k:=by
   by_cases z:k+1=2*n
   ·exact⟨0,by lia,by unfold prv;simp;lia⟩
   ·exact⟨k+1,by lia,by unfold prv;simp⟩
  obtain⟨g1,g2⟩:=h2 q hq;rw[eq]at g1 g2;exact⟨inE R row q,zLD hS tw hq,fun z=>zFK hS tw hq hk (by rw[z,e]),by rw[e];exact g1,by rw[e];exact g2⟩
end
end Mp
namespace Mp
open Mi PySem
theorem zDB(D:Kv)(k q:Sum Int Str)(v:Sw):getW (putW D k v) q=if q=k then some v else getW D q:=by
 unfold putW getW
 by_cases h:(D.any fun p=>decide (p.1=k))=true
 ·rw[if_pos h,List.find?_map];have e:((fun p:Sum Int Str×Sw=>decide (p.1=q))∘fun p=>if p.1=k then(p.1,v)else p)=fun p:Sum Int Str×Sw=>decide (p.1=q):=by
   funext p
   show decide ((if p.1=k then(p.1,v)else p).1=q)=decide (p.1=q)
   split<;>rfl
  rw[e];cases hf:D.find? fun p:Sum Int Str×Sw=>decide (p.1=q)with
  |none=>
   have hq:¬q=k:=fun z=>by
    subst z;obtain⟨x,hx,hd⟩:=qEr.mp h
    have:=qFq.mp hf x hx
    exact this hd
   rw[if_neg hq];rfl
  |some x=>
   have hx:x.1=q:=by have:=List.find?_some hf;simpa using this
   by_cases hq:q=k
   ·rw[if_pos hq];simp[hx,hq]
   ·rw[if_neg hq];simp[hx,hq]
 ·rw[if_neg h,List.find?_append];have hn:∀x∈D,¬x.1=k:=fun x hx e=>h (qEr.mpr ⟨x,hx,by simpa using e⟩)
  by_cases hq:q=k
  ·subst hq
   have:(D.find? fun p:Sum Int Str×Sw=>decide (p.1=q))=none:=qFq.mpr fun x hx=>by simpa using hn x hx
   rw[this,if_pos rfl];simp
  ·have hk:¬k=q:=fun z=>hq z.symm
   rw[if_neg hq];cases D.find? fun p:Sum Int Str×Sw=>decide (p.1=q)with
   |none=>simp[hk]
   |some x=>simp
def stoodT(l:List Nat):Kv:=l.foldl (fun(m:Kv)(x:Nat)=>putW m (.inl (x:Int)) (.int 2)) []
theorem zG1(l:List Nat)(x:Nat):stoodT (l++[x])=putW (stoodT l) (.inl (x:Int)) (.int 2):=by unfold stoodT;rw[qCt];rfl
theorem zN7{α:Type}{P:List α->Prop}(h0:P [])(hs:∀l x,P l->P (l++[x]))(l:List α):P l:=by
 have key:∀m:List α,P m.reverse:=fun m=>by
  induction m with
  |nil=>exact h0
  |cons a m ih=>rw[qFz];exact hs _ _ ih
 have:=key l.reverse
 rwa [qFe]at this
theorem zPZ(q:Nat)(l:List Nat):getW (stoodT l) (.inl (q:Int))=if q∈l then some (.int 2)else none:=by
 refine zN7 (P:=fun l=>getW (stoodT l) (.inl (q:Int))=if q∈l then some (.int 2)else none) (by simp[stoodT,getW]) (fun l x ih=>?_) l;rw[zG1,zDB,ih]
 by_cases hx:q=x
 ·subst hx;simp
 ·have:¬(qEb (q:Int):Sum Int Str)=.inl (x:Int):=fun e=>hx (by injection e with e;lia)
  rw[if_neg this];simp[hx]
theorem zPY(l:List Nat):(stoodT l).length<=l.length:=by
 refine zN7 (P:=fun l=>(stoodT l).length<=l.length) (by simp[stoodT]) (fun l x ih=>?_) l;rw[zG1]
 have:=zEC (stoodT l) (.inl (x:Int)) (.int 2)
 simp
 lia
def insT(row:List Nat)(k:Nat):Dt:=.tup [.int ((row.getD k 0:Nat):Int),.int ((atN row k:Nat):Int)]
def insL(row:List Nat)(k:Nat):Dt:=.lst ((qA6 k).map (insT row))
theorem zVC{row:List Nat}{N k:Nat}(hk:k<N):ixD (insL row N) (.int (k:Int))=some (insT row k):=by
 refine zIM (j:=k) rfl ?_;rw[qAb,qB9 hk];rfl
theorem zX3{row:List Nat}{N k:Nat}(hk:k<N):ixD (insL row N) (.int ((k:Int)-1))=some (insT row (prv N k)):=by
 by_cases z:k=0
 ·subst z;have hq:ixA ((qA6 N).map (insT row)).length (((0:Nat):Int)-1)=some (N-1):=by
   rw[qAg,qCv];unfold ixA;simp
   lia
  show itA ((qA6 N).map (insT row)) (((0:Nat):Int)-1)=_;unfold itA;rw[hq]
  show((qA6 N).map (insT row))[N-1]?=_
  rw[qAb,qB9 (by lia)];rfl
 ·rw[show(k:Int)-1=((k-1:Nat):Int) by lia,zVC (by lia)];unfold prv;rw[if_neg z]
theorem zQ7{R:List (List Nat)}{p:Nat}(hp:p<R.length):ixD (rowsD R) (.int (p:Int))=some (rowD (numL (R.getD p []))):=by
 refine zIM (j:=p) rfl ?_;rw[qAb,qA0,qA1 hp];rfl
theorem zTU{row:List Nat}{RR N:Dt}(hz:row.length<=100)(hR:RR.dep<=1000) :
  nxR (sFor [0] (iSq (eV 0)) (.one 5) (sSeq (sApp 3 1 (eTup (aCons (eV 5) (aCons (eDGet (eV 4) (eV 5) (eC (.int 0))) aNil)))) (sDput 4 (eV 5) (eC (.int 2)))) [some (rowD (numL row),0),some (RR,0),some (N,1),some (.lst [],9),some (.dct [],1),none,none,none,none,none,none,none])
   (fun r=>∃o4 o5,r=[some (rowD (numL row),0),some (RR,0),some (N,1),some (insL row row.length,9),o4,o5,none,none,none,none,none,none]):=by
 have hi:iSq (eV 0) (frz (frzAt [0] [some (rowD (numL row),0),some (RR,0),some (N,1),some (.lst [],9),some (.dct [],1),none,none,none,none,none,none,none]))=okR (row.map fun m:Nat=>Dt.int (m:Int)):=by
  show okR ((numL row).map Dt.int)=_;unfold numL;rw[qAu];rfl
 rw[zK2,hi,zA0];show nxR (forGo (.one 5) _ _ [some (rowD (numL row),0),some (RR,0),some (N,1),some (.lst [],9),some (.dct [],1),none,none,none,none,none,none,none]) _;refine zF4 (fun m:Nat=>Dt.int (m:Int)) row (fun j r=>∃o5,r=[some (rowD (numL row),0),some (RR,0),some (N,1),some (insL row j,9),some (.dct (stoodT (row.take j)),1),o5,none,none,none,none,none,none]) ⟨_,rfl⟩ (fun j x hx r hr=>?_) fun r hr=>?_
 ·obtain⟨o5,rfl⟩:=hr;have hjl:j<row.length:=(qA4.mp hx).1;have hxe:row[j]=x:=(qA4.mp hx).2;have hgd:row.getD j 0=x:=by rw[qA0,hx];rfl
  have hget:(match getW (stoodT (row.take j)) (.inl (x:Int))with|some w=>swT w|none=>Dt.int 0)=.int ((atN row j:Nat):Int):=by
   rw[zPZ];unfold atN;rw[hgd]
   by_cases hm:x∈row.take j
   ·rw[if_pos hm,if_pos hm];rfl
   ·rw[if_neg hm,if_neg hm];rfl
  have hsl:=zPY (row.take j);rw[qBo]at hsl;have hins:insL row (j+1)=.lst ((qA6 j).map (insT row)++[insT row j]):=by
   unfold insL;rw[qBu,qBg];rfl
  show nxR (sSeq _ _ [some (rowD (numL row),0),some (RR,0),some (N,1),some (insL row j,9),some (.dct (stoodT (row.take j)),1),some (.int (x:Int),0),none,none,none,none,none,none]) _;refine zB8 fun bb hb=>zAG (r:=[some (rowD (numL row),0),some (RR,0),some (N,1),some (insL row (j+1),9),some (.dct (stoodT (row.take j)),1),some (.int (x:Int),0),none,none,none,none,none,none]) ?_ ?_
  ·have hev:eTup (aCons (eV 5) (aCons (eDGet (eV 4) (eV 5) (eC (.int 0))) aNil)) (full [some (rowD (numL row),0),some (RR,0),some (N,1),some (insL row j,9),some (.dct (stoodT (row.take j)),1),some (.int (x:Int),0),none,none,none,none,none,none])=okR (insT row j):=by
    have h2:eDGet (eV 4) (eV 5) (eC (.int 0)) (full [some (rowD (numL row),0),some (RR,0),some (N,1),some (insL row j,9),some (.dct (stoodT (row.take j)),1),some (.int (x:Int),0),none,none,none,none,none,none])=okR (.int ((atN row j:Nat):Int)):=by
     show(if(Dt.int 0).dep=0 then okR (match getW (stoodT (row.take j)) (.inl (x:Int))with|some w=>swT w|none=>Dt.int 0)else none)=_
     rw[hget];rfl
    generalize eDGet (eV 4) (eV 5) (eC (.int 0))=ee at h2 ⊢
    generalize insL row j=I at h2 ⊢
    generalize rowD (numL row)=Z at h2 ⊢
    generalize Dt.dct (stoodT (row.take j))=DD at h2 ⊢
    simp only[zB6,zBY,qBn,qCi]at h2 ⊢;simp only[zXS,zAW,zBU,x_eV,qB3,qAp,h2,zA0];unfold insT;rw[hgd];simp
   show zA4 (eTup (aCons (eV 5) (aCons (eDGet (eV 4) (eV 5) (eC (.int 0))) aNil)) (full [some (rowD (numL row),0),some (RR,0),some (N,1),some (insL row j,9),some (.dct (stoodT (row.take j)),1),some (.int (x:Int),0),none,none,none,none,none,none])) (fun d=>@ite _ (((qA6 j).map (insT row)).length<=100000/\d.dep<=1/\d.dep<=8) (qA3 _) (okR (Out.nx [some (rowD (numL row),0),some (RR,0),some (N,1),some (.lst ((qA6 j).map (insT row)++[d]),9),some (.dct (stoodT (row.take j)),1),some (.int (x:Int),0),none,none,none,none,none,none])) none)=_;rw[hev,zA0];have hd:(insT row j).dep=1:=rfl;rw[if_pos ⟨by simp;lia,by lia,by lia⟩,hins]
  ·subst hb;refine zAG (r:=[some (rowD (numL row),0),some (RR,0),some (N,1),some (insL row (j+1),9),some (.dct (stoodT (row.take (j+1))),1),some (.int (x:Int),0),none,none,none,none,none,none]) ?_ ⟨_,rfl⟩;rw[qBd hjl,hxe,zG1]
   show(@ite _ ((stoodT (row.take j)).length<=100000) (qA3 _) _ _:R Out)=_
   rw[if_pos (by lia)];rfl
 ·obtain⟨o5,rfl⟩:=hr;exact⟨_,_,rfl⟩
noncomputable def frzS(o:Option Sl):Option Dt:=match o with
 |some (d,n)=>if n=0\/d.dep=0 then some d else none
 |none=>none
theorem zRL(o:Option Sl)(r:Ro):frz (o::r)=frzS o::frz r:=rfl
theorem zVF(d:Dt):frzS (some (d,0))=some d:=by simp[frzS]
theorem zPE{R:List (List Nat)}{row:List Nat}{n k l3:Nat}{ms:List Int}{o4 o5 o7 o8 o9 o10 o11:Option Sl}(hS:Seats R n)(tw:Twice n row)(hz:n<=50)(hk:k<2*n)(h:Tied R row n k ms) :
  nxR (sSeq (sUnp [5,7] [3,6] (eB ixD (eV 3) (eB subD (eV 6) (eC (.int 1)))))
 (sSeq (sUnp [8,9] [3,6] (eB ixD (eV 3) (eV 6)))
 (sSeq (sSet 10 1 [5,1,7] (eB addD (eB mulD (eC (.int 4)) (eV 5)) (eB ixD (eB ixD (eV 1) (eV 5)) (eB addD (eV 7) (eC (.int 1))))))
 (sSeq (sSet 11 1 [8,9,1] (eB addD (eB mulD (eC (.int 4)) (eV 8)) (eB ixD (eB ixD (eV 1) (eV 8)) (eV 9))))
 (sSeq (sItem 2 0 (eV 10) (eV 11))
 (sItem 2 0 (eV 11) (eV 10)))))) [some (rowD (numL row),0),some (rowsD R,0),some (rowD ms,1),some (insL row (2*n),l3),o4,o5,some (.int (k:Nat),0),o7,o8,o9,o10,o11])
  (fun r=>∃ms:List Int,∃l3 o4 o5 o6 o7 o8 o9 o10 o11,r=[some (rowD (numL row),0),some (rowsD R,0),some (rowD ms,1),some (insL row (2*n),l3),o4,o5,o6,o7,o8,o9,o10,o11]/\Tied R row n (k+1) ms):=by
 have hpk:=zKI hk;have i1:=zX3 (row:=row) hk;have i2:=zVC (row:=row) hk;have p1:=zDW tw hpk;have p2:=zDW tw hk;have hRl:=hS.len;have x1:=zQ7 (R:=R) (p:=row.getD (prv (2*n) k) 0) (by lia);have x2:=zQ7 (R:=R) (p:=row.getD k 0) (by lia);have f1:=(zBC (zDJ hS p1)).1;have f2:=(zBC (zDJ hS p2)).1;have a1:=zDI row (prv (2*n) k);have a2:=zDI row k;have y1:=zEL (R.getD (row.getD (prv (2*n) k) 0) []) (atN row (prv (2*n) k)+1) (by lia);have y2:=zEL (R.getD (row.getD k 0) []) (atN row k) (by lia);have l1:=zNS hS tw hpk;have l2:=zLD hS tw hk;have hst:=zPT hS tw hk h;have hml:=h.1;have s1:=zL9 (i:=2) (n:=0) (l:=0) (ls:=ms) (e1:=eV 10) (e2:=eV 11) (z:=(ouE R row (prv (2*n) k):Nat)) (v:=((inE R row k:Nat):Int)) (r:=[some (rowD (numL row),0),some (rowsD R,0),some (rowD ms,1),some (insL row (2*n),0),o4,some (.int ((row.getD (prv (2*n) k) 0:Nat):Int),0),some (.int (k:Nat),0),some (.int ((atN row (prv (2*n) k):Nat):Int),0),some (.int ((row.getD k 0:Nat):Int),0),some (.int ((atN row k:Nat):Int),0),some (.int ((ouE R row (prv (2*n) k):Nat):Int),1),some (.int ((inE R row k:Nat):Int),1)]) rfl rfl rfl (by lia) (by lia);have s2:=zL9 (i:=2) (n:=0) (l:=0) (ls:=ms.set (ouE R row (prv (2*n) k)) ((inE R row k:Nat):Int)) (e1:=eV 11) (e2:=eV 10) (z:=(inE R row k:Nat)) (v:=((ouE R row (prv (2*n) k):Nat):Int)) (r:=[some (rowD (numL row),0),some (rowsD R,0),some (rowD (ms.set (ouE R row (prv (2*n) k)) ((inE R row k:Nat):Int)),1),some (insL row (2*n),0),o4,some (.int ((row.getD (prv (2*n) k) 0:Nat):Int),0),some (.int (k:Nat),0),some (.int ((atN row (prv (2*n) k):Nat):Int),0),some (.int ((row.getD k 0:Nat):Int),0),some (.int ((atN row k:Nat):Int),0),some (.int ((ouE R row (prv (2*n) k):Nat):Int),1),some (.int ((inE R row k:Nat):Int),1)]) rfl rfl rfl (by lia) (by rw[qC3];lia);rw[qCs]at s1 s2;have e1:4*((row.getD (prv (2*n) k) 0:Nat):Int)+(((R.getD (row.getD (prv (2*n) k) 0) []).getD (atN row (prv (2*n) k)+1) 0:Nat):Int)=((ouE R row (prv (2*n) k):Nat):Int):=by unfold ouE SE;lia
 have e2:4*((row.getD k 0:Nat):Int)+(((R.getD (row.getD k 0) []).getD (atN row k) 0:Nat):Int)=((inE R row k:Nat):Int):=by unfold inE SE;lia
 unfold insT at i1 i2;have mm1:mulD (.int 4) (.int ((row.getD (prv (2*n) k) 0:Nat):Int))=some (.int (4*((row.getD (prv (2*n) k) 0:Nat):Int))):=zKY (by lia) (by lia);have mm2:mulD (.int 4) (.int ((row.getD k 0:Nat):Int))=some (.int (4*((row.getD k 0:Nat):Int))):=zKY (by lia) (by lia);rw[show((atN row (prv (2*n) k)+1:Nat):Int)=((atN row (prv (2*n) k):Nat):Int)+1 by lia]at y1
 generalize((ouE R row (prv (2*n) k):Nat):Int)=OU at *
 generalize((inE R row k:Nat):Int)=IN at *
 generalize(((R.getD (row.getD (prv (2*n) k) 0) []).getD (atN row (prv (2*n) k)+1) 0:Nat):Int)=U1 at *
 generalize(((R.getD (row.getD k 0) []).getD (atN row k) 0:Nat):Int)=U2 at *
 generalize((row.getD (prv (2*n) k) 0:Nat):Int)=P1 at *
 generalize((row.getD k 0:Nat):Int)=P2 at *
 generalize((atN row (prv (2*n) k):Nat):Int)=A1 at *
 generalize((atN row k:Nat):Int)=A2 at *
 generalize rowD (numL (R.getD (row.getD (prv (2*n) k) 0) []))=Y1 at *
 generalize rowD (numL (R.getD (row.getD k 0) []))=Y2 at *
 refine zB8 fun bb hb=>zAG (r:=[some (rowD (numL row),0),some (rowsD R,0),some (rowD ms,1),some (insL row (2*n),0),o4,some (.int P1,0),some (.int (k:Nat),0),some (.int A1,0),o8,o9,o10,o11]) (by
  generalize rowD (numL row)=Z1
  generalize rowsD R=Z2
  generalize rowD ms=Z3
  generalize insL row (2*n)=Z4 at i1 ⊢
  unfold sUnp;simp[i1,zAS,zAY,zRL,zVF]) ?_
 subst hb;refine zB8 fun bb hb=>zAG (r:=[some (rowD (numL row),0),some (rowsD R,0),some (rowD ms,1),some (insL row (2*n),0),o4,some (.int P1,0),some (.int (k:Nat),0),some (.int A1,0),some (.int P2,0),some (.int A2,0),o10,o11]) (by
  generalize rowD (numL row)=Z1
  generalize rowsD R=Z2
  generalize rowD ms=Z3
  generalize insL row (2*n)=Z4 at i2 ⊢
  unfold sUnp;simp[i2,zAS,zAY,zRL,zVF]) ?_
 subst hb;refine zB8 fun bb hb=>zAG (r:=[some (rowD (numL row),0),some (rowsD R,0),some (rowD ms,1),some (insL row (2*n),0),o4,some (.int P1,0),some (.int (k:Nat),0),some (.int A1,0),some (.int P2,0),some (.int A2,0),some (.int OU,1),o11]) (by
  generalize rowD (numL row)=Z1
  generalize rowsD R=Z2 at x1 x2 ⊢
  generalize rowD ms=Z3
  generalize insL row (2*n)=Z4
  simp[mm1,x1,y1,e1,-zOK]) ?_
 subst hb;refine zB8 fun bb hb=>zAG (r:=[some (rowD (numL row),0),some (rowsD R,0),some (rowD ms,1),some (insL row (2*n),0),o4,some (.int P1,0),some (.int (k:Nat),0),some (.int A1,0),some (.int P2,0),some (.int A2,0),some (.int OU,1),some (.int IN,1)]) (by
  generalize rowD (numL row)=Z1
  generalize rowsD R=Z2 at x1 x2 ⊢
  generalize rowD ms=Z3
  generalize insL row (2*n)=Z4
  simp[mm2,x2,y2,e2,-zOK]) ?_
 subst hb;refine zB8 fun bb hb=>zAG s1 ?_
 subst hb;exact zAG s2 ⟨_,_,_,_,_,_,_,_,_,_,rfl,hst⟩
theorem zPF{R:List (List Nat)}{row:List Nat}{n:Nat}(hS:Seats R n)(tw:Twice n row)(hz:n<=50):∃ms:List Int,Tied R row n (2*n) ms/\zD4 [rowD (numL row),rowsD R]=okR (rowD ms):=by
 have hrl:=tw.len
 suffices h:eiR (zD9 [some (rowD (numL row),0),some (rowsD R,0),none,none,none,none,none,none,none,none,none,none]) (fun _=>False) (fun d=>∃ms,d=rowD ms/\Tied R row n (2*n) ms) by
  rcases h with⟨_,_,z⟩|⟨d,h1,ms,rfl,h2⟩
  ·exact z.elim
  ·exact⟨ms,h2,zBG rfl h1⟩
 have hlen:lenD [rowD (numL row)]=some (.int ((2*n:Nat):Int)):=by
  rw[lenR];simp[numL,hrl]
 have m2:mulD (.int 2) (.int ((2*n:Nat):Int))=some (.int ((4*n:Nat):Int)):=by
  rw[zKY (by lia) (by lia)]
  congr 2
  lia
 have hrp:=zNF (4*n) (by lia);have hd:=zC9 (qA5 (4*n) 0);have hrd:(rowsD R).dep<=1000:=by have:=zHD R;lia
 unfold zD9;refine zDV (P:=fun r=>r=[some (rowD (numL row),0),some (rowsD R,0),some (rowD (qA5 (4*n) 0),1),none,none,none,none,none,none,none,none,none]) (zI2 ?_) ?_
 ·generalize rowD (numL row)=Z at hlen ⊢
  generalize rowsD R=X
  generalize rowD (qA5 (4*n) 0)=Y at hrp hd ⊢
  simp only[zH4,zB6,zBY,qBn,qCi,zUM,zAW,zBU,x_eB,zOI,x_eC,x_eV,qB3,qAp,zA0,hlen,m2,zA8];rw[if_pos (by simp),zA0,hrp,zA8,zA0,if_pos (by lia)];exact zAG rfl rfl
 rintro r rfl
 refine zDV (P:=fun r=>r=[some (rowD (numL row),0),some (rowsD R,0),some (rowD (qA5 (4*n) 0),1),some (.lst [],9),none,none,none,none,none,none,none,none]) (zI2 ?_) ?_
 ·generalize rowD (numL row)=Z
  generalize rowsD R=X
  generalize rowD (qA5 (4*n) 0)=Y
  simp
 rintro r rfl
 refine zDV (P:=fun r=>r=[some (rowD (numL row),0),some (rowsD R,0),some (rowD (qA5 (4*n) 0),1),some (.lst [],9),some (.dct [],1),none,none,none,none,none,none,none]) (zI2 ?_) ?_
 ·exact zAG rfl rfl
 rintro r rfl
 refine zDV (zI2 (zTU (by lia) hrd)) ?_
 rintro r ⟨o4,o5,rfl⟩
 rw[hrl];refine zDV (P:=fun r=>∃ms:List Int,∃l3 o4 o5 o6 o7 o8 o9 o10 o11,r=[some (rowD (numL row),0),some (rowsD R,0),some (rowD ms,1),some (insL row (2*n),l3),o4,o5,o6,o7,o8,o9,o10,o11]/\Tied R row n (2*n) ms) (zI2 ?_) ?_
 ·have hit:iR1 (aCons (eBi lenD (aCons (eV 0) aNil)) aNil) (full [some (rowD (numL row),0),some (rowsD R,0),some (rowD (qA5 (4*n) 0),1),some (insL row (2*n),9),o4,o5,none,none,none,none,none,none])=okR (nums 0 (2*n)):=zGO (n:=2*n) (by
   generalize rowD (numL row)=Z at hlen ⊢
   simp only[zB6,qBn,zOI,zAW,zBU,x_eV,qAp,zA0,hlen,zA8]) (by lia)
  rw[zCY,hit,zA0];refine zKU (fun k r=>∃ms:List Int,∃l3 o4 o5 o6 o7 o8 o9 o10 o11,r=[some (rowD (numL row),0),some (rowsD R,0),some (rowD ms,1),some (insL row (2*n),l3),o4,o5,o6,o7,o8,o9,o10,o11]/\Tied R row n k ms) ⟨qA5 (4*n) 0,_,_,_,_,_,_,_,_,_,rfl,by simp,fun j hj=>by lia⟩ (fun k hk r hr=>?_) fun r hr=>hr
  obtain⟨ms,l3,o4,o5,o6,o7,o8,o9,o10,o11,rfl,hT⟩:=hr;exact zPE hS tw hz hk hT
 rintro r ⟨ms,l3,o4,o5,o6,o7,o8,o9,o10,o11,rfl,hT⟩
 refine .inr ⟨rowD ms,?_,ms,rfl,hT⟩
 generalize rowD (numL row)=Z
 generalize rowsD R=X
 generalize rowD ms=Y
 generalize insL row (2*n)=W
 simp[sRetV]
theorem zUK:∀s,s<4->∀w,w<3->(s^^^(w+1))≠s:=by decide
theorem zbD{cs:List Nat}{n e:Nat}(hl:cs.length=n)(hw:∀c∈cs,c<3)(he:e<4*n):jn cs e≠e:=fun h=>by
 have hc:cs.getD (e/4) 0<3:=zC8 hw (by lia);have h1:=zUK (e%4) (by lia) _ hc;unfold jn at h
 lia
theorem zRE(f:Nat->Nat)(x p:Nat):∀k,itr f (k+p) x=itr f k (itr f p x)
 |0=>by rw[qBv];rfl
 |k+1=>by rw[show k+1+p=(k+p)+1 by lia];show f (itr f (k+p) x)=_;rw[zRE f x p k];rfl
section
variable{ts cs:List Nat}{n e:Nat}(hN:NetN ts (4*n))(hne:∀x,x<4*n->nt ts x≠x)(hl:cs.length=n)(hw:∀c∈cs,c<3)(he:e<4*n)
include hN hne hl hw he
theorem zR2:∀d j,itr (stp ts cs) (j+d) e≠jn cs (itr (stp ts cs) j e):=by
 obtain⟨st1,_⟩:=zBF hN hl hw;have hlt:∀k,itr (stp ts cs) k e<4*n:=zBB st1 he;intro d
 induction d using qGp with
 |ind d ih=>
  intro j h
  match d,ih,h with
  |0,_,h=>exact zbD hl hw (hlt j) h.symm
  |1,_,h=>
   have:itr (stp ts cs) (j+1) e=nt ts (jn cs (itr (stp ts cs) j e)):=rfl
   rw[this]at h;exact hne _ (zBK hl hw (hlt j)).1 h
  |d+2,ih,h=>
   have h1:itr (stp ts cs) (j+(d+2)) e=nt ts (jn cs (itr (stp ts cs) (j+1+d) e)):=by
    rw[show j+(d+2)=(j+1+d)+1 by lia];rfl
   rw[h1]at h;have h2:=congrArg (nt ts) h;rw[hN.inv _ (zBK hl hw (hlt _)).1]at h2;have h3:=congrArg (jn cs) h2;rw[(zBK hl hw (hlt _)).2]at h3;exact ih d (by lia) (j+1) h3
variable{p:Nat}(p3:itr (stp ts cs) p e=e)(p4:∀q,1<=q->q<p->itr (stp ts cs) q e≠e)
include p3 p4
theorem zGA{i j:Nat}(hi:i<j)(hj:j<p):itr (stp ts cs) i e≠itr (stp ts cs) j e:=fun h=>by
 obtain⟨st1,st2⟩:=zBF hN hl hw
 have:=zJM st1 st2 he i (j-i) (by rw[show i+(j-i)=j by lia];exact h)
 exact p4 (j-i) (by lia) (by lia) this
theorem zL7{i j:Nat}(hi:i<p)(hj:j<p):itr (stp ts cs) i e≠jn cs (itr (stp ts cs) j e):=fun h=>by
 by_cases z:j<=i
 ·exact zR2 hN hne hl hw he (i-j) j (by rw[show j+(i-j)=i by lia];exact h)
 ·have h1:itr (stp ts cs) (i+p) e=itr (stp ts cs) i e:=by rw[zRE,p3]
  exact zR2 hN hne hl hw he (i+p-j) j (by rw[show j+(i+p-j)=i+p by lia,h1];exact h)
theorem zZS{i j:Nat}(hi:i<j)(hj:j<p):jn cs (itr (stp ts cs) i e)≠jn cs (itr (stp ts cs) j e):=fun h=>by
 obtain⟨st1,st2⟩:=zBF hN hl hw;have hlt:∀k,itr (stp ts cs) k e<4*n:=zBB st1 he;have h3:=congrArg (jn cs) h;rw[(zBK hl hw (hlt _)).2,(zBK hl hw (hlt _)).2]at h3;exact zGA hN hne hl hw he p3 p4 hi hj h3
omit hN hne hl hw he p3 p4 in
theorem orb_mem{k x:Nat}:x∈orb ts cs e k↔∃i,i<k/\(x=itr (stp ts cs) i e\/x=jn cs (itr (stp ts cs) i e)):=by
 unfold orb;simp[List.mem_flatMap]
theorem zE0:∀k,k<=p->(orb ts cs e k).Nodup
 |0,_=>qH3
 |k+1,hk=>by
  rw[zDK];refine qDl.mpr ⟨zE0 k (by lia),?_,fun x hx y hy hxy=>?_⟩
  ·refine qB1.mpr ⟨fun h=>?_,by simp⟩;simp at h;exact zL7 hN hne hl hw he p3 p4 (by lia) (by lia) h
  ·subst hxy;obtain⟨i,hi,e1|e1⟩:=orb_mem.mp hx
   ·simp at hy
    rcases hy with e2|e2
    ·exact zGA hN hne hl hw he p3 p4 hi (by lia) (e1.symm.trans e2)
    ·exact zL7 hN hne hl hw he p3 p4 (by lia) (by lia) (e1.symm.trans e2)
   ·simp at hy
    rcases hy with e2|e2
    ·exact zL7 hN hne hl hw he p3 p4 (by lia) (by lia) (e2.symm.trans e1)
    ·exact zZS hN hne hl hw he p3 p4 hi (by lia) (e1.symm.trans e2)
end
theorem zM8{ts cs:List Nat}{e:Nat}:∀{k i:Nat},i<k->(orb ts cs e k).getD (2*i) 0=itr (stp ts cs) i e/\(orb ts cs e k).getD (2*i+1) 0=jn cs (itr (stp ts cs) i e)
 |0,i,h=>by lia
 |k+1,i,h=>by
  have hl:=zBX ts cs e k;rw[zDK]
  by_cases z:i=k
  ·subst z;rw[qA0,qA9 (by lia),qA0,qA9 (by lia),hl];simp
  ·have:=zM8 (ts:=ts) (cs:=cs) (e:=e) (show i<k by lia)
   rw[qA0,qA8 (by lia),qA0,qA8 (by lia),<- qA0,<- qA0];exact this
theorem zY3{ns:List Int}{M:Nat}(h:FW.NetL ns M):∃ts:List Nat,numL ts=ns/\NetN ts M/\∀x,x<M->nt ts x≠x:=by
 obtain⟨ts,e,hN⟩:=zaU h;refine⟨ts,e,hN,fun x hx=>?_⟩;obtain⟨j,h1,h2,h3,_⟩:=h.tie x hx;rw[<- e]at h3;unfold numL at h3;rw[qAb]at h3;unfold nt;rw[qA0];cases hq:ts[x]? with
 |none=>rw[hq]at h3;cases h3
 |some y=>
  rw[hq]at h3;simp at h3;simp
  lia
end Mp
namespace Mp
open Mi PySem
theorem zJK(x:Nat):∀(l:List Nat)(D:Kv),(getW (zCT D l) (.inl (x:Int))).isSome=true↔(getW D (.inl (x:Int))).isSome=true\/x∈l
 |[],D=>by simp[zCT]
 |y::l,D=>by
  show(getW (zCT (putW D (.inl (y:Int)) (.bl true)) l) (.inl (x:Int))).isSome=true↔_
  rw[zJK x l,zDB]
  by_cases h:x=y
  ·subst h;simp
  ·have:¬(qEb (x:Int):Sum Int Str)=.inl (y:Int):=fun e=>h (by injection e with e;lia)
   rw[if_neg this];simp[h]
theorem zD1(f:Nat->List Nat)(x:Nat):∀k,(getW (rdS f k).2 (.inl (x:Int))).isSome=true↔∃l∈(rdS f k).1,x∈l
 |0=>by simp[rdS,getW]
 |k+1=>by
  by_cases h:(getW (rdS f k).2 (.inl (k:Int))).isSome=true
  ·have e:rdS f (k+1)=rdS f k:=by rw[rdS,if_pos h]
   rw[e];exact zD1 f x k
  ·have e:rdS f (k+1)=((rdS f k).1++[f k],zCT (rdS f k).2 (f k)):=by rw[rdS,if_neg h]
   rw[e]
   show(getW (zCT (rdS f k).2 (f k)) (.inl (x:Int))).isSome=true↔∃l∈(rdS f k).1++[f k],x∈l
   rw[zJK,zD1 f x k];constructor
   ·rintro(⟨l,h1,h2⟩|h1)
    ·exact⟨l,by simp[h1],h2⟩
    ·exact⟨f k,by simp,h1⟩
   ·rintro⟨l,h1,h2⟩
    rcases qBa.mp h1 with h3|h3
    ·exact .inl ⟨l,h3,h2⟩
    ·simp at h3;subst h3;exact .inr h2
theorem zDY(f:Nat->List Nat):∀k,(∀e,e<k->e∈f e)->∀e,e<k->(getW (rdS f k).2 (.inl (e:Int))).isSome=true
 |0,_,e,he=>by lia
 |k+1,hf,e,he=>by
  by_cases h:(getW (rdS f k).2 (.inl (k:Int))).isSome=true
  ·have e1:rdS f (k+1)=rdS f k:=by rw[rdS,if_pos h]
   rw[e1]
   by_cases z:e=k
   ·subst z;exact h
   ·exact zDY f k (fun e he=>hf e (by lia)) e (by lia)
  ·have e1:rdS f (k+1)=((rdS f k).1++[f k],zCT (rdS f k).2 (f k)):=by rw[rdS,if_neg h]
   rw[e1]
   show(getW (zCT (rdS f k).2 (f k)) (.inl (e:Int))).isSome=true
   rw[zJK]
   by_cases z:e=k
   ·subst z;exact .inr (hf e (by lia))
   ·exact .inl (zDY f k (fun e he=>hf e (by lia)) e (by lia))
theorem zJ6(f:Nat->List Nat):∀k,∃t,(rdS f (k+1)).1=f 0::t
 |0=>⟨[],by simp[rdS,getW]⟩
 |k+1=>by
  obtain⟨t,ht⟩:=zJ6 f k
  by_cases h:(getW (rdS f (k+1)).2 (.inl ((k+1:Nat):Int))).isSome=true
  ·have e:rdS f (k+1+1)=rdS f (k+1):=by rw[rdS,if_pos h]
   exact⟨t,by rw[e];exact ht⟩
  ·have e:rdS f (k+1+1)=((rdS f (k+1)).1++[f (k+1)],zCT (rdS f (k+1)).2 (f (k+1))):=by rw[rdS,if_neg h]
   exact⟨t++[f (k+1)],by rw[e];show(rdS f (k+1)).1++[f (k+1)]=_;rw[ht];rfl⟩
theorem zO6{α:Type}:∀l:List α,(ev2 l).length=(l.length+1)/2
 |[]=>by simp[ev2]
 |[_]=>by simp[ev2]
 |x::y::r=>by have:=zO6 r;simp[ev2];lia
theorem zRP{α β:Type}(g:α->β):∀l:List α,ev2 (l.map g)=(ev2 l).map g
 |[]=>by simp[ev2]
 |[_]=>by simp[ev2]
 |x::y::r=>by simp[ev2,zRP g r]
structure Rnds(ts cs:List Nat)(n:Nat)(RR:List (List Nat)):Prop where
 prog:zDL [rowD (numL ts),rowD (numL cs)]=okR (rowsD RR)
 law:zAZ [rowD (numL ts),rowD (numL cs)]=okR (rowsD RR)
 pos:1<=RR.length
 le:RR.length<=4*n
 one:RR.length=1->∃F:List Nat,m_round_of [rowD (numL ts),rowD (numL cs),.int 0]=okR (rowD (numL F))/\F.length=4*n/\∀x∈F,x<4*n
theorem rnds{ts cs:List Nat}{n:Nat}(n1:1<=n)(hn:n<=30)(hN:NetN ts (4*n))(hne:∀x,x<4*n->nt ts x≠x)(hl:cs.length=n)(hw:∀c∈cs,c<3):∃RR,Rnds ts cs n RR:=by
 obtain⟨st1,st2⟩:=zBF hN hl hw;have hp:∀e,∃p,e<4*n->1<=p/\p<=4*n/\itr (stp ts cs) p e=e/\∀q,1<=q->q<p->itr (stp ts cs) q e≠e:=fun e=>by
  by_cases he:e<4*n
  ·obtain⟨p,h⟩:=zCA st1 st2 he;exact⟨p,fun _=>h⟩
  ·exact⟨0,fun z=>absurd z he⟩
 obtain⟨P,hP⟩:∃P:Nat->Nat,∀e,e<4*n->1<=P e/\P e<=4*n/\itr (stp ts cs) (P e) e=e/\∀q,1<=q->q<P e->itr (stp ts cs) q e≠e:=⟨fun e=>qEu (hp e),fun e=>qDt (hp e)⟩
 obtain⟨f,hf⟩:∃f:Nat->List Nat,∀e,f e=if e<4*n then orb ts cs e (P e)else[]:=⟨_,fun _=>rfl⟩
 have hfo:∀e,e<4*n->f e=orb ts cs e (P e):=fun e he=>by rw[hf e,if_pos he]
 have hlt:∀e,e<4*n->∀k,itr (stp ts cs) k e<4*n:=fun e he=>zBB st1 he
 have hfl:∀k,(f k).length<=8*n:=fun k=>by
  by_cases hk:k<4*n
  ·rw[hfo k hk,zBX]
   have:=(hP k hk).2.1
   lia
  ·rw[hf k,if_neg hk];simp
 have hfm:∀e,e<4*n->e∈f e:=fun e he=>by
  rw[hfo e he];exact orb_mem.mpr ⟨0,(hP e he).1,.inl rfl⟩
 have r1:=zEY (cs:=cs) hN hn hfl fun e he=>by
  rw[hfo e he];obtain⟨h1,h2,h3,h4⟩:=hP e he;exact zDG hN hl (by lia) hw he h1 h2 h3 h4
 have r2:=zL2 (cs:=cs) hN hn hfl fun e he=>by
  rw[hfo e he];obtain⟨h1,h2,h3,h4⟩:=hP e he;exact zHS hN hl (by lia) hw he h1 h2 h3 h4
 obtain⟨t,ht⟩:=zJ6 f (4*n-1);rw[show 4*n-1+1=4*n by lia]at ht;refine⟨(rdS f (4*n)).1,r1,r2,by rw[ht];simp,(zJ5 hfl (4*n)).1,fun h1=>?_⟩;have h0:0<4*n:=by lia
 obtain⟨a1,a2,a3,a4⟩:=hP 0 h0;have hall:∀x,x<4*n->x∈f 0:=fun x hx=>by
  obtain⟨l,b1,b2⟩:=(zD1 f x (4*n)).mp (zDY f (4*n) hfm x hx);rw[ht]at h1 b1
  have:t=[]:=qBb (by simp at h1;simpa using h1)
  subst this;simp at b1;subst b1;exact b2
 have hin:∀x∈f 0,x<4*n:=fun x hx=>by
  rw[hfo 0 h0]at hx;obtain⟨i,hi,e|e⟩:=orb_mem.mp hx
  ·rw[e];exact hlt 0 h0 i
  ·rw[e];exact(zBK hl hw (hlt 0 h0 i)).1
 have hnd:(f 0).Nodup:=by rw[hfo 0 h0];exact zE0 hN hne hl hw h0 a3 a4 _ (qAa _)
 have b1:=zD2 (a:=f 0) (b:=qA6 (4*n)) hnd fun x hx=>qAt.mpr (hin x hx)
 have b2:=zD2 (a:=qA6 (4*n)) (b:=f 0) qBh fun x hx=>hall x (qAt.mp hx)
 simp at b1 b2;refine⟨f 0,?_,by lia,hin⟩;rw[hfo 0 h0];exact zDG hN hl (by lia) hw h0 a1 a2 a3 a4
theorem zQW{g:Nat->Nat}:∀(l:List Nat),(∀x∈l,∀y∈l,g x=g y->x=y)->ords (l.map g)=(ords l).map g:=by
 refine zEZ (P:=fun l=>(∀x∈l,∀y∈l,g x=g y->x=y)->ords (l.map g)=(ords l).map g) (fun _=>rfl) (fun l a ih hi=>?_);have ih:=ih fun x hx y hy=>hi x (qBi _ hx) y (qBi _ hy)
 rw[qBg,qFr,zCD,zCD,ih];have e:g a∈(ords l).map g↔a∈ords l:=by
  rw[qAm];constructor
  ·rintro⟨b,hb,e⟩
   have hb':=(ords_mem l b).mp hb;rw[<- hi b (qBi _ hb') a (by simp) e];exact hb
  ·exact fun h=>⟨a,h,rfl⟩
 by_cases h:a∈ords l
 ·rw[if_pos h,if_pos (e.mpr h)]
 ·rw[if_neg h,if_neg fun z=>h (e.mp z),qBg,qFr]
theorem getD_idx{l:List Nat}{c:Nat}(h:c∈l):l.getD (l.idxOf c) 0=c:=by
 have hl:=qAl h;rw[qA0,qA1 hl];exact qCn hl
theorem idx_getD{l:List Nat}(hn:l.Nodup){v:Nat}(h:v<l.length):l.idxOf (l.getD v 0)=v:=by
 rw[qA0,qA1 h];exact hn.idxOf_getElem v h
def rowW(cs:List Nat):List Nat:=cs.map fun c=>(ords cs).idxOf c
structure Wd(n:Nat)(cs:List Nat):Prop where
 tw:Twice n (rowW cs)
 wr:wrd (ords cs) (rowW cs)=cs
 ap:zSI (ords cs) (rowW cs)
 od:ords (rowW cs)=qA6 n
 ol:(ords cs).length=n
 len:cs.length=2*n
theorem zXW{cs ls:List Nat}(hp:cs.Perm (ls++ls))(hn:ls.Nodup):Wd ls.length cs:=by
 have mem:∀x,x∈cs↔x∈ls:=fun x=>by rw[hp.mem_iff,qBa];exact⟨fun h=>h.elim id id,.inl⟩
 have ol:(ords cs).length=ls.length:=qE4
  (zBP _ _ (ords_nodup cs) fun x hx=>(mem x).mp ((ords_mem cs x).mp hx))
  (zBP _ _ hn fun x hx=>(ords_mem cs x).mpr ((mem x).mpr hx))
 have hl:cs.length=2*ls.length:=by rw[hp.length_eq,qB2];lia
 have inj:∀x∈cs,∀y∈cs,(ords cs).idxOf x=(ords cs).idxOf y->x=y:=fun x hx y hy e=>by
  rw[<- getD_idx ((ords_mem cs x).mpr hx),e,getD_idx ((ords_mem cs y).mpr hy)]
 have idl:∀x∈cs,(ords cs).idxOf x<ls.length:=fun x hx=>by rw[<- ol];exact qAl ((ords_mem cs x).mpr hx)
 refine⟨⟨by rw[rowW,qAg,hl],fun v=>?_⟩,?_,?_,?_,ol,hl⟩
 ·by_cases hv:v<ls.length
  ·rw[if_pos hv];have hm:(ords cs).getD v 0∈cs:=(ords_mem cs _).mp (zEG (by lia));rw[<- zS3 hp hn hm];unfold rowW;rw[qG1,qGq,qG1];refine qG2 fun c hc=>?_
   simp only[qFs,beq_iff_eq];constructor
   ·intro e;rw[<- e,getD_idx ((ords_mem cs c).mpr hc)]
   ·intro e;rw[e,idx_getD (ords_nodup cs) (by lia)]
  ·rw[if_neg hv];refine qDc.mpr fun h=>?_
   obtain⟨c,hc,rfl⟩:=qAm.mp h;exact hv (idl c hc)
 ·unfold wrd rowW;rw[qAu]
  conv=>rhs;rw[<- qHr cs]
  exact qB8 fun c hc=>getD_idx ((ords_mem cs c).mpr hc)
 ·intro x hx y hy e;obtain⟨c,hc,rfl⟩:=qAm.mp hx;obtain⟨d,hd,rfl⟩:=qAm.mp hy;rw[getD_idx ((ords_mem cs c).mpr hc),getD_idx ((ords_mem cs d).mpr hd)]at e;rw[e]
 ·unfold rowW;rw[zQW cs inj];refine qD4 (by simp[ol]) fun i h1 h2=>?_
  rw[qDw,qBc];exact(ords_nodup cs).idxOf_getElem i (by simpa using h1)
theorem zP0{α β:Type}{l:List α}{f:α->β}(h:l.Nodup)(hi:∀x∈l,∀y∈l,f x=f y->x=y):(l.map f).Nodup:=by
 unfold qHw;rw[qG3];exact qEh (fun{a b} ha hb hab z=>hab (hi a ha b hb z)) h
theorem zW3{g:Nat->Nat}{N:Nat}(hg:∀k,k<N->g k<N)(hi:∀a b,a<N->b<N->g a=g b->a=b){y:Nat}(hy:y<N):∃k,k<N/\g k=y:=by
 refine qEe fun z=>?_
 have h:=zD2 (a:=y::(qA6 N).map g) (b:=qA6 N) ?_ ?_
 ·simp at h;lia
 ·refine qB1.mpr ⟨fun h=>?_,?_⟩
  ·obtain⟨k,hk,e⟩:=qAm.mp h;exact z ⟨k,by simpa using hk,e⟩
  ·exact zP0 qBh (fun a ha b hb e=>hi a b (by simpa using ha) (by simpa using hb) e)
 ·intro x hx
  rcases qAk.mp hx with rfl|hx
  ·simpa using hy
  ·obtain⟨k,hk,rfl⟩:=qAm.mp hx
   simpa using hg k (by simpa using hk)
theorem zNN{e:Nat}{v:Int}:∀(S:List (Nat×Int)),(∀x∈S,∀y∈S,x.1=y.1->x.2=y.2)->(e,v)∈S->∀{N:List Int},e<N.length->(puts S N).getD e 0=v:=by
 refine zEZ (P:=fun S=>(∀x∈S,∀y∈S,x.1=y.1->x.2=y.2)->(e,v)∈S->∀{N:List Int},e<N.length->(puts S N).getD e 0=v) (fun _ h=>by simp at h) fun S a ih hc hm N hN=>?_
 have hl:=zGU S N;have hs:puts (S++[a]) N=(puts S N).set a.1 a.2:=by unfold puts;rw[qCt];rfl
 rw[hs,qA0]
 by_cases h:a.1=e
 ·have:=hc a (by simp) (e,v) hm h
  rw[h,qAh (by lia),this];rfl
 ·rw[qAi h,<- qA0];refine ih (fun x hx y hy=>hc x (qBi _ hx) y (qBi _ hy)) ?_ hN
  rcases qBa.mp hm with z|z
  ·exact z
  ·rw[qC6]at z;exact absurd (by rw[<- z]) h
noncomputable def zN(n:Nat):List Int:=qA5 (4*n) 0
def tsW(n:Nat)(row:List Nat):List Nat:=(qA6 (4*n)).map fun e=>((puts (lawS row row.length) (zN n)).getD e 0).toNat
section
variable{n:Nat}{row:List Nat}(t:Twice n row)
include t
theorem zV2:∀x∈lawS row row.length,∀y∈lawS row row.length,x.1=y.1->x.2=y.2:=fun x hx y hy h=>by
 unfold lawS at hx hy;obtain⟨l1,h1,h2⟩:=qD2.mp hx;obtain⟨l2,h3,h4⟩:=qD2.mp hy;obtain⟨a,ha,rfl⟩:=qAm.mp h1;obtain⟨b,hb,rfl⟩:=qAm.mp h3;have la:a<row.length:=by simpa using ha
 exact zPU (fun a h=>t.le1 h) (qBt _ (by lia)) (qBt _ (by lia)) x h2 y h4 h
theorem zZK{k:Nat}(hk:k<row.length):(inA row k+1,(inA row ((k+1)%row.length):Int))∈lawS row row.length/\(inA row ((k+1)%row.length),((inA row k+1:Nat):Int))∈lawS row row.length:=by
 have e:tieP row ((k+1)%row.length)=[(inA row k+1,(inA row ((k+1)%row.length):Int)),(inA row ((k+1)%row.length),((inA row k+1:Nat):Int))]:=by
  unfold tieP;rw[zQL hk]
 have m:∀x∈tieP row ((k+1)%row.length),x∈lawS row row.length:=fun x hx=>qD2.mpr ⟨_,qAm.mpr ⟨k,by simpa using hk,rfl⟩,hx⟩
 rw[e]at m;exact⟨m _ (by simp),m _ (by simp)⟩
theorem zDQ{k:Nat}(hk:k<row.length):inA row k+1<4*n:=by
 have:=t.pos hk
 rw[t.len]at this
 lia
theorem zG9{k:Nat}(hk:k<row.length):(puts (lawS row row.length) (zN n)).getD (inA row k+1) 0=(inA row ((k+1)%row.length):Int)/\(puts (lawS row row.length) (zN n)).getD (inA row ((k+1)%row.length)) 0=((inA row k+1:Nat):Int):=by
 obtain⟨h1,h2⟩:=zZK t hk;have l1:=zDQ t hk;have l2:=zDQ t (qBt (k+1) (show 0<row.length by lia));exact⟨zNN _ (zV2 t) h1 (by simp[zN];lia),zNN _ (zV2 t) h2 (by simp[zN];lia)⟩
theorem zLH{e:Nat}(he:e<4*n):∃k,k<row.length/\(e=inA row k+1\/e=inA row ((k+1)%row.length)):=by
 have hl:=t.len;have ev:∀k,inA row k%2=0:=fun k=>by unfold inA;lia
 obtain⟨k,hk,e1⟩:=zW3 (g:=fun k=>inA row k/2) (N:=2*n) (fun k hk=>by have:=zDQ t (k:=k) (by lia);show inA row k/2<2*n;lia) (fun a b ha hb h=>by
  have h1:=ev a;have h2:=ev b;have h:inA row a/2=inA row b/2:=h;exact zJN (fun a h=>t.le1 h) (by lia) (by lia) (by lia)) (y:=e/2) (by lia)
 have h1:=ev k;have e1:inA row k/2=e/2:=e1
 by_cases h:e%2=1
 ·exact⟨k,by lia,.inl (by lia)⟩
 ·have hm:(k+row.length-1)%row.length<row.length:=qBt _ (by lia);refine⟨(k+row.length-1)%row.length,hm,.inr ?_⟩
  have:((k+row.length-1)%row.length+1)%row.length=k:=by
   by_cases z:k=0
   ·subst z;rw[show 0+row.length-1=row.length-1 by lia,qAs (show row.length-1<row.length by lia),show row.length-1+1=row.length by lia,qF6]
   ·rw[show k+row.length-1=(k-1)+row.length by lia,qCg,qAs (show k-1<row.length by lia),show k-1+1=k by lia,qAs (by lia)]
  rw[this]
  lia
theorem zIE{e:Nat}(he:e<4*n):(puts (lawS row row.length) (zN n)).getD e 0=(nt (tsW n row) e:Int)/\nt (tsW n row) e<4*n:=by
 have hv:∃v:Nat,(puts (lawS row row.length) (zN n)).getD e 0=(v:Int)/\v<4*n:=by
  obtain⟨k,hk,rfl|rfl⟩:=zLH t he
  ·exact⟨_,(zG9 t hk).1,by have:=zDQ t (qBt (k+1) (show 0<row.length by lia));lia⟩
  ·exact⟨_,(zG9 t hk).2,zDQ t hk⟩
 obtain⟨v,h1,h2⟩:=hv
 have:nt (tsW n row) e=v:=by
  unfold nt tsW;rw[qA0,qAb,qB9 he]
  show((puts (lawS row row.length) (zN n)).getD e 0).toNat=v
  rw[h1];rfl
 rw[this];exact⟨h1,h2⟩
theorem zY2:numL (tsW n row)=puts (lawS row row.length) (zN n):=by
 have hl:(puts (lawS row row.length) (zN n)).length=4*n:=by rw[zGU];simp[zN]
 refine qD4 (by rw[hl];simp[numL,tsW]) fun i h1 h2=>?_
 have hi:i<4*n:=by lia
 have h:=(zIE t hi).1;rw[qA0,qA1 h2]at h;have h3:(numL (tsW n row))[i]?=some (nt (tsW n row) i:Int):=by
  unfold numL nt;rw[qAb,qA0,qA1 (by simp[tsW];exact hi)];rfl
 rw[qA1 h1]at h3;rw[qBe h3,<- h];rfl
theorem zPS:NetN (tsW n row) (4*n)/\∀x,x<4*n->nt (tsW n row) x≠x:=by
 have ev:∀k,inA row k%2=0:=fun k=>by unfold inA;lia
 have v1:∀{k},k<row.length->nt (tsW n row) (inA row k+1)=inA row ((k+1)%row.length):=fun{k} hk=>by
  have h1:=(zIE t (zDQ t hk)).1;rw[(zG9 t hk).1]at h1
  lia
 have v2:∀{k},k<row.length->nt (tsW n row) (inA row ((k+1)%row.length))=inA row k+1:=fun{k} hk=>by
  have l2:=zDQ t (qBt (k+1) (show 0<row.length by lia));have h1:=(zIE t (e:=inA row ((k+1)%row.length)) (by lia)).1;rw[(zG9 t hk).2]at h1
  lia
 refine⟨⟨by simp[tsW],fun e he=>(zIE t he).2,fun e he=>?_⟩,fun e he=>?_⟩
 ·obtain⟨k,hk,rfl|rfl⟩:=zLH t he
  ·rw[v1 hk,v2 hk]
  ·rw[v2 hk,v1 hk]
 ·obtain⟨k,hk,rfl|rfl⟩:=zLH t he
  ·rw[v1 hk];have:=ev ((k+1)%row.length);have:=ev k;lia
  ·rw[v2 hk];have:=ev ((k+1)%row.length);have:=ev k;lia
end
end Mp
namespace Mp
open Mi PySem
theorem zM7(a:List Nat):∀b:List Nat,∃t,ords (a++b)=ords a++t:=by
 refine zEZ ⟨[],by simp⟩ fun l x ih=>?_
 obtain⟨t,ht⟩:=ih;rw[<- qBl,zCD,ht]
 split
 ·exact⟨t,rfl⟩
 ·exact⟨t++[x],by simp⟩
theorem zK8{l:List Nat}{k x:Nat}(h:l[k]?=some x):l.take (k+1)=l.take k++[x]:=by
 rw[qFy,h];rfl
theorem zO9{r:Ro}{i k:Nat}{e1 e2:EM}{a b:Int}{kvs:Kv}(h:r[i]?=some (some (.dct kvs,k+1)))(h2:e2 (full r)=okR (.int b))(h1:e1 (full r)=okR (.int a))(hz:kvs.length<=10000) :
  sDput i e1 e2 r=okR (.nx (r.set i (some (.dct (putW kvs (.inl a) (.int b)),k+1)))):=by
 unfold sDput;rw[h2,zA0,h];dsimp only;rw[h1,zA0];exact if_pos (by lia)
noncomputable def cbW(c ls O:List Nat):List Nat:=O.map fun x=>c.getD (ls.idxOf x) 0
theorem jn4(c:List Nat){p s:Nat}(hs:s<4):jn c (4*p+s)=4*p+(s^^^(c.getD p 0+1)):=by
 unfold jn;rw[show(4*p+s)/4=p by lia,show(4*p+s)%4=s by lia]
 lia
theorem zSZ{n:Nat}{cs:List Nat}(w:Wd n cs){k:Nat}(hk:k<cs.length):(rowW cs).getD k 0=(ords cs).idxOf (cs.getD k 0):=by
 unfold rowW;rw[qA0,qAb,qA0,qA1 hk];rfl
theorem zRG{v n:Nat}(h:v<n):(qA6 n).idxOf v=v:=by
 have:=qBh.idxOf_getElem v (by simpa using h:v<(qA6 n).length)
 rwa [qBc]at this
theorem zVD:∀(l:List Nat)(k:Nat),k<l.length->l.idxOf (l.getD k 0)<=k
 |a::l,0,_=>by simp
 |a::l,k+1,h=>by
  have ih:=zVD l k (by simpa using h);rw[qDb]
  show(bif a==l.getD k 0 then 0 else l.idxOf (l.getD k 0)+1)<=k+1
  cases a==l.getD k 0
  ·exact qGa ih
  ·exact qAc _
theorem zO3{n:Nat}{cs:List Nat}(w:Wd n cs){k:Nat}(hk:k<cs.length):inA (rowW cs) k=4*(ords cs).idxOf (cs.getD k 0)+2*(if cs.idxOf (cs.getD k 0)<k then 1 else 0):=by
 have hl:(rowW cs).length=cs.length:=by simp[rowW]
 have hkr:k<(rowW cs).length:=by lia
 have hm:=w.tw.mem ((rowW cs).getD k 0);have hlt:=hm.mp (zHE hkr);unfold inA;rw[w.od,zRG hlt];have e1:cs.idxOf (cs.getD k 0)=(rowW cs).idxOf ((rowW cs).getD k 0):=by
  have:=zLX w.ap hkr
  rw[w.wr]at this;exact this
 have f1:=zHZ hkr;have le:=w.tw.le1 hkr;have hle:=zVD (rowW cs) k hkr;rw[<- zSZ w hk];rw[e1]
 split
 ·rename_i h
  have:(qG1 ((rowW cs).getD k 0) (qHz k (rowW cs)))≠0:=fun z=>by have:=f1.mpr z;lia
  lia
 ·rename_i h
  have:(rowW cs).idxOf ((rowW cs).getD k 0)=k:=by lia
  rw[f1.mp this]
theorem dix{d k:EM}{ρ:Rh}{kvs:Kv}{a v:Int}(h1:d ρ=okR (.dct kvs))(h2:k ρ=okR (.int a))(h:getW kvs (.inl a)=some (.int v)):eDIx d k ρ=okR (.int v):=by
 unfold eDIx;rw[h1,zA0];dsimp only;rw[h2,zA0]
 show(match getW kvs (.inl a)with|some w=>okR (swT w)|none=>none)=_
 rw[h];rfl
section
variable{ts C':List Nat}{n:Nat}(hN:NetN ts (4*n))(hne:∀x,x<4*n->nt ts x≠x)(hl:C'.length=n)(hw:∀c∈C',c<3)(hn:n<=10)(n1:1<=n)
include hN hne hl hw hn n1
end
end Mp
namespace Mp
open Mi PySem
structure BI(n p:Nat)(fl:Bool)(f:Nat->Nat->Int):Prop where
 le:p<=n
 bits:Bits n f
 sym:Sym n f
 out:∀a b,a<n->b<n->p<=a\/p<=b->f a b=0
 ns:fl=true->∀x,RowN n x->(∀a,a<p->sumN n (fun b=>f a b*x.getD b 0)%2=0)->∀b,b<p->x.getD b 0=0
noncomputable def allv:Nat->List (List Int)
 |0=>[[]]
 |n+1=>(allv n).map (qI0 0)++(allv n).map (qI0 1)
theorem zOG:∀n,(allv n).length=2 ^ n
 |0=>rfl
 |n+1=>by simp[allv,zOG n];lia
theorem zE2{α β:Type}{l:List α}{f:α->β}(h:l.Nodup)(hi:∀x∈l,∀y∈l,f x=f y->x=y):(l.map f).Nodup:=by
 unfold qHw;rw[qG3];exact qEh (fun{a b} ha hb hab z=>hab (hi a ha b hb z)) h
theorem zIU:∀n,(allv n).Nodup
 |0=>by simp[allv]
 |n+1=>by
  have ih:=zIU n;rw[allv,qDl];refine⟨zE2 ih fun x _ y _ h=>by simpa using h,zE2 ih fun x _ y _ h=>by simpa using h,fun a ha b hb=>?_⟩;obtain⟨x,_,rfl⟩:=qAm.mp ha;obtain⟨y,_,rfl⟩:=qAm.mp hb;simp
theorem allv_mem:∀{n:Nat}{x:List Int},x∈allv n↔RowN n x
 |0,x=>by
  simp only[allv,qC6];constructor
  ·rintro rfl;exact⟨rfl,fun y hy=>by simp at hy⟩
  ·rintro⟨h,_⟩;exact qBb h
 |n+1,x=>by
  rw[allv,qBa];constructor
  ·rintro(h|h)
   all_goals
    obtain⟨y,hy,rfl⟩:=qAm.mp h
    have:=allv_mem.mp hy
    refine⟨by simp[this.1],fun z hz=>?_⟩
    rcases qAk.mp hz with rfl|hz
    ·simp[Bit]
    ·exact this.2 z hz
  ·rintro⟨h1,h2⟩
   cases x with
   |nil=>simp at h1
   |cons a r=>
    have hr:r∈allv n:=allv_mem.mpr ⟨by simpa using h1,fun z hz=>h2 z (by simp[hz])⟩
    rcases h2 a (by simp)with rfl|rfl
    ·exact .inl (qAm.mpr ⟨r,hr,rfl⟩)
    ·exact .inr (qAm.mpr ⟨r,hr,rfl⟩)
theorem zKW{α:Type}[DecidableEq α]:∀(l1 l2:List α),l1.Nodup->(∀x∈l1,x∈l2)->l1.length<=l2.length
 |[],_,_,_=>by simp
 |a::r,l2,h,hs=>by
  have ha:=hs a (by simp);rw[qB1]at h
  have:=zKW r (l2.erase a) h.2 fun x hx=>(qCy (fun z:x=a=>h.1 (by rw[<- z];exact hx))).mpr (hs x (by simp[hx]))
  rw[qCh ha]at this
  have:=qCm ha
  simp
  lia
noncomputable def cnt(n:Nat)(P:List Int->Prop):Nat:=by
 classical exact((allv n).filter fun x=>decide (P x)).length
theorem zS4(n:Nat):cnt n (fun _=>True)=2 ^ n:=by
 unfold cnt;rw[List.filter_eq_self.mpr (by simp),zOG]
def Ev(n:Nat)(g:Nat->Int)(x:List Int):Prop:=sumN n (fun k=>g k*x.getD k 0)%2=0
structure BC(n p q:Nat)(f:Nat->Nat->Int):Prop where
 out:∀a b,a<n->b<n->p<=a\/p<=b->f a b=0
 num:cnt n (fun x=>∀a,a<p->Ev n (f a) x)*2 ^ p=2 ^ (n+q)
section
variable{n i j:Nat}{f:Nat->Nat->Int}(hb:Bits n f)(hi:i<n)(hj:j<n)(hij:i≠j)
include hi in
include hi hij in
include hb hi hj hij in
include hb hi hj hij in
end
end Mp
namespace Mp
open Mi PySem
noncomputable def fst1:List Int->Nat
 |[]=>0
 |a::r=>if a=1 then 0 else fst1 r+1
section
variable{n:Nat}
def Lds(ls:List (List Int)):Prop:=ls.Pairwise fun l s=>s.getD (fst1 l) 0=0
structure GP(n:Nat)(T ls:List (List Int))(k:Nat):Prop where
 rows:∀l∈ls,RowN n l/\1∈l
 lds:Lds ls
 le:ls.length<=k
 ker:∀x,RowN n x->(Ker ls x↔Ker (T.take k) x)
structure GK(n:Nat)(T:List (List Int))(ks:List Nat)(k:Nat):Prop where
 lt:∀j∈ks,j<k
 up:ks.Pairwise (· < ·)
 ker:∀x,RowN n x->(Ker (ks.map fun j=>T.getD j []) x↔Ker (T.take k) x)
end
end Mp
namespace Mp
open Mi PySem
structure LR(n:Nat)(T A:List (List Int))(ps:List (List Int×Nat))(p q:Nat):Prop where
 rows:∀r∈A,RowN n r
 zero:∀r∈A,∀k,k<p->r.getD k 0=0
 one:∀a∈ps,a.1.getD a.2 0=1/\a.2<p
 pw:ps.Pairwise fun a b=>b.1.getD a.2 0=0
 num:ps.length+q=p
 ker:∀x,RowN n x->(Ker T x↔Ker (ps.map qHs) x/\Ker A x)
section
variable{n p q:Nat}{T A:List (List Int)}{ps:List (List Int×Nat)}
end
end Mp
namespace Mp
open Mi PySem
noncomputable def kept(n:Nat)(c:List Int):List Nat:=(qA6 n).filter fun k=>decide (c.getD k 0≠0)
theorem zXJ{n m:Nat}{P Q:List Int->Prop}(f:List Int->List Int)(hf:∀x,RowN n x->P x->RowN m (f x)/\Q (f x))(hi:∀x y,RowN n x->P x->RowN n y->P y->f x=f y->x=y):cnt n P<=cnt m Q:=by
 classical
 unfold cnt;have h1:(((allv n).filter fun x=>decide (P x)).map f).Nodup:=zE2 ((zIU n).filter _) fun x hx y hy=>by
  obtain⟨a1,a2⟩:=qC2.mp hx;obtain⟨b1,b2⟩:=qC2.mp hy;exact hi x y (allv_mem.mp a1) (by simpa using a2) (allv_mem.mp b1) (by simpa using b2)
 have h2:=zKW _ ((allv m).filter fun x=>decide (Q x)) h1 fun z hz=>by
  obtain⟨x,hx,rfl⟩:=qAm.mp hz;obtain⟨g1,g2⟩:=qC2.mp hx;obtain⟨k1,k2⟩:=hf x (allv_mem.mp g1) (by simpa using g2);exact qC2.mpr ⟨allv_mem.mpr k1,by simpa using k2⟩
 rw[qAg]at h2;exact h2
structure Cst(ts C:List Nat)(n:Nat)(F:Nat->Int):Prop where
 hb:∀e,Bit (F e)
 hn:∀e,e<4*n->F (nt ts e)=F e
 hj:∀e,e<4*n->F (jn C e)=F e
end Mp
namespace Mp
open Mi PySem
section
variable{n:Nat}{cs:List Nat}(w:Wd n cs)(h2:∀x∈cs,cs.count x=2)
include w h2
end
theorem zNT{n:Nat}{row:List Nat}(t:Twice n row){k:Nat}(hk:k<row.length):nt (tsW n row) (inA row k+1)=inA row ((k+1)%row.length)/\nt (tsW n row) (inA row ((k+1)%row.length))=inA row k+1:=by
 have h1:=(zIE t (zDQ t hk)).1;rw[(zG9 t hk).1]at h1;have l2:=zDQ t (qBt (k+1) (show 0<row.length by lia));have h2:=(zIE t (e:=inA row ((k+1)%row.length)) (by lia)).1;rw[(zG9 t hk).2]at h2;exact⟨by lia,by lia⟩
end Mp
namespace Mp
open Mi PySem
section
variable{n:Nat}{cs c:List Nat}(w:Wd n cs)(h2:∀x∈cs,cs.count x=2)(n1:1<=n)(hc:c.length=n)(hw:∀x∈c,x<3)(hsl:(sosL cs).length=n)
include w h2 n1 hc hw hsl
end
def yF(cs:List Nat)(F:Nat->Int)(x:Nat):Int:=(F (4*(ords cs).idxOf x)+F (4*(ords cs).idxOf x+1))%2
section
variable{n:Nat}{cs c:List Nat}{F:Nat->Int}(w:Wd n cs)(h2:∀x∈cs,cs.count x=2)(n1:1<=n)(hc:c.length=n)(hw:∀x∈c,x<3)(hsl:(sosL cs).length=n)(hF:Cst (tsW n (rowW cs)) (cbW c (sosL cs) (ords cs)) n F)
include w h2 n1 hc hw hsl hF
end
end Mp
namespace Mp
open Mi PySem
section
variable{ts C:List Nat}{n:Nat}(hN:NetN ts (4*n))(hl:C.length=n)(hw:∀c∈C,c<3)
include hN hl hw
theorem zOY{e p x:Nat}(he:e<4*n)(p1:1<=p)(p3:itr (stp ts C) p e=e)(hx:x∈orb ts C e p):nt ts x∈orb ts C e p/\jn C x∈orb ts C e p/\x<4*n:=by
 obtain⟨st1,_⟩:=zBF hN hl hw;have lt:∀j,itr (stp ts C) j e<4*n:=zBB st1 he;obtain⟨i,hi,rfl|rfl⟩:=orb_mem.mp hx
 ·refine⟨?_,orb_mem.mpr ⟨i,hi,.inr rfl⟩,lt i⟩;cases i with
  |zero=>
   refine orb_mem.mpr ⟨p-1,by lia,.inr ?_⟩;have h:itr (stp ts C) (p-1+1) e=e:=by rw[show p-1+1=p by lia];exact p3
   show nt ts e=_
   conv=>lhs;rw[<- h]
   exact hN.inv _ (zBK hl hw (lt (p-1))).1
  |succ j=>exact orb_mem.mpr ⟨j,by lia,.inr (hN.inv _ (zBK hl hw (lt j)).1)⟩
 ·refine⟨?_,orb_mem.mpr ⟨i,hi,.inl (zBK hl hw (lt i)).2⟩,(zBK hl hw (lt i)).1⟩
  by_cases z:i+1=p
  ·refine orb_mem.mpr ⟨0,by lia,.inl ?_⟩;show itr (stp ts C) (i+1) e=e;rw[z];exact p3
  ·exact orb_mem.mpr ⟨i+1,by lia,.inl rfl⟩
theorem zXI{F:Nat->Int}(hF:Cst ts C n F){e p x:Nat}(he:e<4*n)(hx:x∈orb ts C e p):F x=F e:=by
 obtain⟨st1,_⟩:=zBF hN hl hw;have lt:∀j,itr (stp ts C) j e<4*n:=zBB st1 he;have hi:∀j,F (itr (stp ts C) j e)=F e:=fun j=>by
  induction j with
  |zero=>rfl
  |succ j ih=>
   show F (nt ts (jn C (itr (stp ts C) j e)))=_;rw[hF.hn _ (zBK hl hw (lt j)).1,hF.hj _ (lt j),ih]
 obtain⟨i,_,rfl|rfl⟩:=orb_mem.mp hx
 ·exact hi i
 ·rw[hF.hj _ (lt i),hi i]
end
theorem zHJ(f:Nat->List Nat):∀k r,r<(rdS f k).1.length->∃e,e<k/\(rdS f k).1.getD r []=f e/\∀i,i<r->e∉(rdS f k).1.getD i []
 |0,r,h=>by simp[rdS]at h
 |k+1,r,h=>by
  by_cases hg:(getW (rdS f k).2 (.inl (k:Int))).isSome=true
  ·have e:rdS f (k+1)=rdS f k:=by rw[rdS,if_pos hg]
   rw[e]at h ⊢;obtain⟨x,h1,h2⟩:=zHJ f k r h;exact⟨x,by lia,h2⟩
  ·have e:(rdS f (k+1)).1=(rdS f k).1++[f k]:=by rw[rdS,if_neg hg]
   rw[e]at h ⊢;have gl:∀i,i<(rdS f k).1.length->((rdS f k).1++[f k]).getD i []=(rdS f k).1.getD i []:=fun i hi=>by
    rw[qA0,qA8 hi,qA0]
   by_cases z:r<(rdS f k).1.length
   ·obtain⟨x,h1,h2,h3⟩:=zHJ f k r z;refine⟨x,by lia,by rw[gl r z];exact h2,fun i hi=>?_⟩;rw[gl i (by lia)];exact h3 i hi
   ·have hr:r=(rdS f k).1.length:=by simp at h;lia
    subst hr;refine⟨k,by lia,?_,fun i hi hm=>?_⟩
    ·rw[qA0,qA9 (qAa _)];simp
    ·rw[gl i hi]at hm;exact hg ((zD1 f k k).mpr ⟨_,zEG hi,hm⟩)
noncomputable def rI(R:List (List Nat))(e:Nat):Nat:=(R.map fun l=>decide (e∈l)).idxOf true
theorem zNM{R:List (List Nat)}{e e':Nat}(h:∀l∈R,e∈l↔e'∈l):rI R e=rI R e':=by
 unfold rI
 congr 1
 exact qB8 fun l hl=>by simp[h l hl]
theorem zQH:∀{R:List (List Nat)}{r e:Nat},r<R.length->e∈R.getD r []->(∀i,i<r->e∉R.getD i [])->rI R e=r
 |[],r,e,h,_,_=>by simp at h
 |l::R,0,e,_,hm,_=>by
  have:e∈l:=hm
  simp[rI,this]
 |l::R,r+1,e,h,hm,hn=>by
  have h0:e∉l:=hn 0 (by lia);have ih:=zQH (R:=R) (r:=r) (e:=e) (by simpa using h) hm fun i hi=>hn (i+1) (by lia)
  unfold rI at ih ⊢;rw[qAn,decide_eq_false h0,qDb]
  show(bif false==true then 0 else _)=_
  rw[show((false==true)=false) from rfl,cond_false,ih]
end Mp
namespace Mp
open Mi PySem
def dat(cs c:List Nat)(F:Nat->Int):List Int:=F (inA (rowW cs) 0)::(kept (sosL cs).length (numL c)).map fun k=>yF cs F ((sosL cs).getD k 0)
section
variable{n:Nat}{cs c:List Nat}(w:Wd n cs)
include w
end
section
variable{n:Nat}{cs c:List Nat}{F:Nat->Int}(w:Wd n cs)(h2:∀x∈cs,cs.count x=2)(n1:1<=n)(hc:c.length=n)(hw:∀x∈c,x<3)(hsl:(sosL cs).length=n)(hF:Cst (tsW n (rowW cs)) (cbW c (sosL cs) (ords cs)) n F)
include w h2 n1 hc hw hsl hF
end
section
variable{n:Nat}{cs c:List Nat}(w:Wd n cs)(h2:∀x∈cs,cs.count x=2)(n1:1<=n)(hc:c.length=n)(hw:∀x∈c,x<3)(hsl:(sosL cs).length=n)
include w h2 n1 hc hw hsl
end
end Mp
namespace Mp
open Mi PySem
theorem zT0{m:Nat}{x y:List Int}(hx:RowN m x)(hy:RowN m y)(h:∀r,r<m->x.getD r 0=y.getD r 0):x=y:=by
 have h1:=hx.1;have h2:=hy.1;refine qD4 (by lia) fun i g1 g2=>?_
 have:=h i (by lia)
 rw[qA0,qA1 g1,qA0,qA1 g2]at this;exact this
theorem zNB{m:Nat}{x:List Int}(hx:RowN m x)(r:Nat):Bit (x.getD r 0):=by
 rw[qA0];cases h:x[r]? with
 |none=>exact .inl rfl
 |some y=>exact hx.2 y (qCx h)
structure Hds(ts C:List Nat)(n:Nat)(R:List (List Nat))(hd:Nat->Nat):Prop where
 lt:∀r,r<R.length->hd r<4*n
 mem:∀r,r<R.length->hd r∈R.getD r []
 fst:∀r,r<R.length->∀i,i<r->hd r∉R.getD i []
 same:∀r,r<R.length->∀e,e∈R.getD r []->∀F,Cst ts C n F->F e=F (hd r)
 cls:∀r,r<R.length->∀e,e∈R.getD r []->nt ts e∈R.getD r []/\jn C e∈R.getD r []
 cov:∀e,e<4*n->∃r,r<R.length/\e∈R.getD r []
section
variable{ts C:List Nat}{n:Nat}(hN:NetN ts (4*n))(hl:C.length=n)(hw:∀c∈C,c<3)
include hN hl hw
theorem zTZ{f:Nat->List Nat}{g:Nat->Nat}(hf:∀e,e<4*n->f e=orb ts C e (g e)/\1<=g e/\g e<=4*n/\itr (stp ts C) (g e) e=e/\∀q,1<=q->q<g e->itr (stp ts C) q e≠e):∃hd,Hds ts C n (rdS f (4*n)).1 hd:=by
 have h1:∀r:Nat,∃e,r<(rdS f (4*n)).1.length->e<4*n/\(rdS f (4*n)).1.getD r []=f e/\∀i,i<r->e∉(rdS f (4*n)).1.getD i []:=fun r=>by
  by_cases h:r<(rdS f (4*n)).1.length
  ·obtain⟨e,he⟩:=zHJ f (4*n) r h;exact⟨e,fun _=>he⟩
  ·exact⟨0,fun z=>absurd z h⟩
 obtain⟨hd,hh⟩:=qBz h1;have self:∀e,e<4*n->e∈f e:=fun e he=>by
  obtain⟨a,b,_⟩:=hf e he;rw[a];exact orb_mem.mpr ⟨0,by lia,.inl rfl⟩
 refine⟨hd,fun r h=>(hh r h).1,fun r h=>?_,fun r h=>(hh r h).2.2,fun r h e he F hF=>?_,fun r h e he=>?_,fun e he=>?_⟩
 ·obtain⟨a,b,_⟩:=hh r h;rw[b];exact self _ a
 ·obtain⟨a,b,_⟩:=hh r h;rw[b,(hf _ a).1]at he;exact zXI hN hl hw hF a he
 ·obtain⟨a,b,_⟩:=hh r h;obtain⟨q0,q1,_,q3,_⟩:=hf _ a;rw[b,q0]at he ⊢;obtain⟨c1,c2,_⟩:=zOY hN hl hw a q1 q3 he;exact⟨c1,c2⟩
 ·obtain⟨l,hm,hx⟩:=(zD1 f e (4*n)).mp (zDY f (4*n) self e he);obtain⟨r,hr,rfl⟩:=zGY (d:=[]) hm;exact⟨r,hr,hx⟩
variable{R:List (List Nat)}{hd:Nat->Nat}(H:Hds ts C n R hd)
include H
theorem zX8{F G:Nat->Int}(hF:Cst ts C n F)(hG:Cst ts C n G)(h:∀r,r<R.length->F (hd r)=G (hd r)){e:Nat}(he:e<4*n):F e=G e:=by
 obtain⟨r,hr,hm⟩:=H.cov e he;rw[H.same r hr e hm F hF,H.same r hr e hm G hG,h r hr]
theorem zMK{x:List Int}(hx:RowN R.length x):Cst ts C n (fun e=>x.getD (rI R e) 0)/\∀r,r<R.length->x.getD (rI R (hd r)) 0=x.getD r 0:=by
 refine⟨⟨fun e=>zNB hx _,fun e he=>?_,fun e he=>?_⟩,fun r hr=>?_⟩
 ·show x.getD (rI R (nt ts e)) 0=_;rw[zNM (e:=nt ts e) (e':=e) fun l hm=>?_];obtain⟨r,hr,rfl⟩:=zGY (d:=[]) hm;refine⟨fun h=>?_,fun h=>(H.cls r hr _ h).1⟩
  have:=(H.cls r hr _ h).1
  rw[hN.inv e he]at this;exact this
 ·show x.getD (rI R (jn C e)) 0=_;rw[zNM (e:=jn C e) (e':=e) fun l hm=>?_];obtain⟨r,hr,rfl⟩:=zGY (d:=[]) hm;refine⟨fun h=>?_,fun h=>(H.cls r hr _ h).2⟩
  have:=(H.cls r hr _ h).2
  rw[(zBK hl hw he).2]at this;exact this
 ·rw[zQH hr (H.mem r hr) (H.fst r hr)]
end
end Mp
namespace Mp
open Mi PySem
theorem cn2{m:FM}{e1 e2:EM}{ρ:Rh}{d1 d2 d:Dt}(h1:e1 ρ=okR d1)(h2:e2 ρ=okR d2)(h:m [d1,d2]=okR d):eCallN m (aCons e1 (aCons e2 aNil)) ρ=okR d:=by
 unfold eCallN;rw[zAW,h1,zA0,zAW,h2,zA0,zBU,zA0,zA0,zA0,h];rfl
theorem zQZ{ts C:List Nat}{n:Nat}(hN:NetN ts (4*n))(hl:C.length=n)(hw:∀c∈C,c<3):∃(f:Nat->List Nat)(g:Nat->Nat),(∀e,e<4*n->f e=orb ts C e (g e)/\1<=g e/\g e<=4*n/\itr (stp ts C) (g e) e=e/\∀q,1<=q->q<g e->itr (stp ts C) q e≠e)/\∀k,(f k).length<=8*n:=by
 obtain⟨s1,s2⟩:=zBF hN hl hw;have hg:∀e:Nat,∃p,e<4*n->1<=p/\p<=4*n/\itr (stp ts C) p e=e/\∀q,1<=q->q<p->itr (stp ts C) q e≠e:=fun e=>by
  by_cases he:e<4*n
  ·obtain⟨p,h⟩:=zCA s1 s2 he;exact⟨p,fun _=>h⟩
  ·exact⟨0,fun z=>absurd z he⟩
 obtain⟨g,hg⟩:=qBz hg;have h1:∀e,e<4*n->(if e<4*n then orb ts C e (g e)else[])=orb ts C e (g e):=fun e he=>if_pos he
 refine⟨fun e=>if e<4*n then orb ts C e (g e)else[],g,fun e he=>⟨h1 e he,hg e he⟩,fun k=>?_⟩
 show(if k<4*n then orb ts C k (g k)else[]).length<=_
 by_cases z:k<4*n
 ·rw[h1 k z,zBX]
  have:=(hg k z).2.1
  lia
 ·rw[if_neg z];exact qAc _
section
variable{n:Nat}{cs c:List Nat}(w:Wd n cs)(n1:1<=n)(hn:n<=10)(hc:c.length=n)(hw:∀x∈c,x<3)(hsl:(sosL cs).length=n)
include w n1 hn hc hw hsl
end
theorem zUU{n:Nat}{cs:List Nat}(w:Wd n cs):(sosL cs).length=n:=by
 rw[<- w.ol];exact qE4 (zBP _ _ (zQ0 cs) fun x hx=>(ords_mem cs x).mpr ((zQ1 x cs).mp hx)) (zBP _ _ (ords_nodup cs) fun x hx=>(zQ1 x cs).mpr ((ords_mem cs x).mp hx))
end Mp
namespace Mp
open Mi PySem
section
variable{n:Nat}{cs c:List Nat}(w:Wd n cs)(n1:1<=n)(hn:n<=10)(hc:c.length=n)(hsl:(sosL cs).length=n)
include w n1 hn hc hsl
theorem zZH(h8:n<=8):zDA [.str ⟨cs.toArray⟩]=okR (rowD (numL (tsW n (rowW cs)))):=by
 have hlen:=w.len;have hrl:(rowW cs).length=2*n:=w.tw.len;have h:=zTK w.ap (by lia) (by lia) (fun a h=>w.tw.le1 h) (fun a h=>w.tw.pos h) (by rw[w.od];simpa using h8);rw[w.wr]at h;rw[h,zY2 w.tw];unfold zN;rw[show 2*(rowW cs).length=4*n by lia]
end
end Mp
namespace Mp
open Mi PySem
structure Clo(ts cs:List Nat)(n:Nat)(S:Nat->Prop):Prop where
 jn:∀x,x<4*n->S x->S (jn cs x)
 nt:∀x,x<4*n->S x->S (nt ts x)
def OneAt(ts cs:List Nat)(n b:Nat):Prop:=∀S:Nat->Prop,Clo ts cs n S->S b->∀x,x<4*n->S x
theorem Clo.neg{ts cs:List Nat}{n:Nat}{S:Nat->Prop}(hN:NetN ts (4*n))(hl:cs.length=n)(hw:∀c∈cs,c<3)(h:Clo ts cs n S):Clo ts cs n fun x=>¬S x where
 jn:=fun x hx hs z=>hs (by
  have:=h.jn _ (zBK hl hw hx).1 z
  rw[(zBK hl hw hx).2]at this;exact this)
 nt:=fun x hx hs z=>hs (by
  have:=h.nt _ (hN.lt x hx) z
  rw[hN.inv x hx]at this;exact this)
theorem OneAt.any{ts cs:List Nat}{n b:Nat}(hN:NetN ts (4*n))(hl:cs.length=n)(hw:∀c∈cs,c<3)(h:OneAt ts cs n b){a:Nat}(ha:a<4*n):OneAt ts cs n a:=fun S hS hsa x hx=>by
 by_cases hb:S b
 ·exact h S hS hb x hx
 ·exact absurd hsa (h _ (hS.neg hN hl hw) hb a ha)
theorem zV6{ts cs:List Nat}{n:Nat}{S:Nat->Prop}(hN:NetN ts (4*n))(hl:cs.length=n)(hw:∀c∈cs,c<3)(h:Clo ts cs n S){a:Nat}(ha:a<4*n)(hs:S a):∀k,S (itr (stp ts cs) k a)
 |0=>hs
 |k+1=>by
  have hlt:=zBB (zBF hN hl hw).1 ha k;exact h.nt _ (zBK hl hw hlt).1 (h.jn _ hlt (zV6 hN hl hw h ha hs k))
section
variable{ts cs:List Nat}{n a p:Nat}(hN:NetN ts (4*n))(hl:cs.length=n)(hw:∀c∈cs,c<3)(ha:a<4*n)(p1:1<=p)(p3:itr (stp ts cs) p a=a)
include hN hl hw ha p1 p3
theorem zM9:Clo ts cs n fun x=>x∈orb ts cs a p where
 jn:=fun x hx h=>by
  have hlt:∀k,itr (stp ts cs) k a<4*n:=zBB (zBF hN hl hw).1 ha;obtain⟨i,hi,e|e⟩:=orb_mem.mp h
  ·exact orb_mem.mpr ⟨i,hi,.inr (by rw[e])⟩
  ·exact orb_mem.mpr ⟨i,hi,.inl (by rw[e,(zBK hl hw (hlt i)).2])⟩
 nt:=fun x hx h=>by
  have hlt:∀k,itr (stp ts cs) k a<4*n:=zBB (zBF hN hl hw).1 ha;obtain⟨i,hi,e|e⟩:=orb_mem.mp h
  ·obtain⟨j,hj,ej⟩:∃j,j<p/\itr (stp ts cs) (j+1) a=itr (stp ts cs) i a:=by
    by_cases z:i=0
    ·exact⟨p-1,by lia,by rw[show p-1+1=p by lia,p3,z];rfl⟩
    ·exact⟨i-1,by lia,by rw[show i-1+1=i by lia]⟩
   refine orb_mem.mpr ⟨j,hj,.inr ?_⟩;rw[e,<- ej];exact hN.inv _ (zBK hl hw (hlt j)).1
  ·by_cases z:i+1=p
   ·refine orb_mem.mpr ⟨0,by lia,.inl ?_⟩;rw[e];show itr (stp ts cs) (i+1) a=a;rw[z,p3]
   ·exact orb_mem.mpr ⟨i+1,by lia,.inl (by rw[e];rfl)⟩
end
theorem zQE{f:Nat->List Nat}{M:Nat}(h:∀x,x<M->x∈f 0):∀k,k+1<=M->(rdS f (k+1)).1=[f 0]
 |0,_=>by simp[rdS,getW]
 |k+1,hk=>by
  have ih:=zQE h k (by lia);have hg:(getW (rdS f (k+1)).2 (.inl ((k+1:Nat):Int))).isSome=true:=(zD1 f (k+1) (k+1)).mpr ⟨f 0,by rw[ih];simp,h _ (by lia)⟩;have e:rdS f (k+1+1)=rdS f (k+1):=by rw[rdS,if_pos hg]
  rw[e];exact ih
theorem zYH{ts cs:List Nat}{n:Nat}(n1:1<=n)(hn:n<=30)(hN:NetN ts (4*n))(hne:∀x,x<4*n->nt ts x≠x)(hl:cs.length=n)(hw:∀c∈cs,c<3):∃RR,Rnds ts cs n RR/\(RR.length=1↔OneAt ts cs n 0):=by
 obtain⟨RR,hR⟩:=rnds n1 hn hN hne hl hw;refine⟨RR,hR,?_⟩;obtain⟨st1,st2⟩:=zBF hN hl hw;have hp:∀e,∃p,e<4*n->1<=p/\p<=4*n/\itr (stp ts cs) p e=e/\∀q,1<=q->q<p->itr (stp ts cs) q e≠e:=fun e=>by
  by_cases he:e<4*n
  ·obtain⟨p,h⟩:=zCA st1 st2 he;exact⟨p,fun _=>h⟩
  ·exact⟨0,fun z=>absurd z he⟩
 obtain⟨P,hP⟩:∃P:Nat->Nat,∀e,e<4*n->1<=P e/\P e<=4*n/\itr (stp ts cs) (P e) e=e/\∀q,1<=q->q<P e->itr (stp ts cs) q e≠e:=⟨fun e=>qEu (hp e),fun e=>qDt (hp e)⟩
 obtain⟨f,hf⟩:∃f:Nat->List Nat,∀e,f e=if e<4*n then orb ts cs e (P e)else[]:=⟨_,fun _=>rfl⟩
 have hfo:∀e,e<4*n->f e=orb ts cs e (P e):=fun e he=>by rw[hf e,if_pos he]
 have hfl:∀k,(f k).length<=8*n:=fun k=>by
  by_cases hk:k<4*n
  ·rw[hfo k hk,zBX]
   have:=(hP k hk).2.1
   lia
  ·rw[hf k,if_neg hk];simp
 have hfm:∀e,e<4*n->e∈f e:=fun e he=>by
  rw[hfo e he];exact orb_mem.mpr ⟨0,(hP e he).1,.inl rfl⟩
 have r1:=zEY (cs:=cs) hN hn hfl fun e he=>by
  rw[hfo e he];obtain⟨h1,h2,h3,h4⟩:=hP e he;exact zDG hN hl (by lia) hw he h1 h2 h3 h4
 have hlen:RR.length=(rdS f (4*n)).1.length:=by
  have:=hR.prog.symm.trans r1
  injection this with this
  injection this with this
  unfold rowsD at this
  injection this with this
  simpa using congrArg qEi this
 have h0:0<4*n:=by lia
 obtain⟨a1,a2,a3,a4⟩:=hP 0 h0;obtain⟨t,ht⟩:=zJ6 f (4*n-1);rw[show 4*n-1+1=4*n by lia]at ht;rw[hlen];constructor
 ·intro h1 S hS hs x hx;obtain⟨l,b1,b2⟩:=(zD1 f x (4*n)).mp (zDY f (4*n) hfm x hx);rw[ht]at h1 b1
  have:t=[]:=qBb (by simp at h1;simpa using h1)
  subst this;simp at b1;subst b1;rw[hfo 0 h0]at b2;have hin:=zV6 hN hl hw hS h0 hs;obtain⟨i,hi,e|e⟩:=orb_mem.mp b2
  ·rw[e];exact hin i
  ·rw[e];exact hS.jn _ (zBB st1 h0 i) (hin i)
 ·intro h;have hall:=h _ (zM9 hN hl hw h0 a1 a3) (orb_mem.mpr ⟨0,a1,.inl rfl⟩)
  have:=zQE (f:=f) (M:=4*n) (fun x hx=>by rw[hfo 0 h0];exact hall x hx) (4*n-1) (by lia)
  rw[show 4*n-1+1=4*n by lia]at this;rw[this];rfl
theorem zXX:∀c,c<3->∀v,v<3->v≠c->∃u,u<3/\u≠c/\u≠v/\((v+1)^^^(c+1))=u+1/\((u+1)^^^(c+1))=v+1/\((c+1)^^^(v+1))=u+1/\((u+1)^^^(v+1))=c+1/\((c+1)^^^(u+1))=v+1/\((v+1)^^^(u+1))=c+1/\∀w,w<3->w=c\/w=v\/w=u:=by
 intro c hc v hv h
 rcases(show c=0\/c=1\/c=2 by lia)with rfl|rfl|rfl<;>rcases(show v=0\/v=1\/v=2 by lia)with rfl|rfl|rfl
 all_goals first
  |exact absurd rfl h
  |exact⟨0,by decide,by decide,by decide,by decide,by decide,by decide,by decide,by decide,by decide,by decide⟩
  |exact⟨1,by decide,by decide,by decide,by decide,by decide,by decide,by decide,by decide,by decide,by decide⟩
  |exact⟨2,by decide,by decide,by decide,by decide,by decide,by decide,by decide,by decide,by decide,by decide⟩
theorem zL6{cs:List Nat}{q s:Nat}(hs:s<4):jn cs (4*q+s)=q*4+(s^^^(cs.getD q 0+1)):=by
 unfold jn;rw[show(4*q+s)/4=q by lia,show(4*q+s)%4=s by lia]
theorem zFI{cs:List Nat}{q s w:Nat}(hq:q<cs.length)(hs:s<4):jn (cs.set q w) (4*q+s)=4*q+(s^^^(w+1)):=by
 rw[zL6 hs,qA0,qAh hq];show q*4+(s^^^(w+1))=_
 lia
theorem zE3{cs:List Nat}{q x w:Nat}(h:x/4≠q):jn (cs.set q w) x=jn cs x:=by
 unfold jn;rw[qA0,qAi (qD6 h),<- qA0]
theorem zDU{cs:List Nat}{q w:Nat}(hw:∀c∈cs,c<3)(h:w<3):∀c∈cs.set q w,c<3:=fun c hc=>by
 rcases List.mem_or_eq_of_mem_set hc with z|z
 ·exact hw c z
 ·lia
theorem zSR{ts cs:List Nat}{n q:Nat}(hN:NetN ts (4*n))(hne:∀x,x<4*n->nt ts x≠x)(hl:cs.length=n)(hw:∀c∈cs,c<3)(h1:OneAt ts cs n 0)(hq:q<n) :
  ∃v,v<3/\v≠cs.getD q 0/\OneAt ts (cs.set q v) n 0/\∀w,w<3->w≠cs.getD q 0->w≠v->¬OneAt ts (cs.set q w) n 0:=by
 obtain⟨c,hce⟩:∃c,cs.getD q 0=c:=⟨_,rfl⟩
 have hc:c<3:=by rw[<- hce];exact zC8 hw (by lia)
 rw[hce];have hqa:4*q+0<4*n:=by lia
 obtain⟨st1,st2⟩:=zBF hN hl hw;obtain⟨p,p1,p2,p3,p4⟩:=zCA st1 st2 hqa;obtain⟨x,hx⟩:∃x:Nat->Nat,∀k,itr (stp ts cs) k (4*q+0)=x k:=⟨_,fun _=>rfl⟩
 have x0:x 0=4*q+0:=(hx 0).symm;have hlt:∀k,x k<4*n:=fun k=>by rw[<- hx];exact zBB st1 hqa k
 have xs:∀k,x (k+1)=nt ts (jn cs (x k)):=fun k=>by rw[<- hx,<- hx];rfl
 have xn:∀k,nt ts (x (k+1))=jn cs (x k):=fun k=>by rw[xs];exact hN.inv _ (zBK hl hw (hlt k)).1
 have jj:∀k,jn cs (jn cs (x k))=x k:=fun k=>(zBK hl hw (hlt k)).2
 have dis:∀i j,i<p->j<p->x i=x j->i=j:=fun i j hi hj e=>by
  rw[<- hx,<- hx]at e
  rcases qCf i j with z|z|z
  ·exact absurd e (zGA hN hne hl hw hqa p3 p4 z hj)
  ·exact z
  ·exact absurd e.symm (zGA hN hne hl hw hqa p3 p4 z hi)
 have xj:∀i j,i<p->j<p->x i≠jn cs (x j):=fun i j hi hj e=>by
  rw[<- hx,<- hx]at e;exact zL7 hN hne hl hw hqa p3 p4 hi hj e
 have hb:jn cs (x 0)=4*q+(c+1):=by
  rw[x0,zL6 (by lia),hce];rw[qG8]
  lia
 have hall:∀y,y<4*n->∃i,i<p/\(y=x i\/y=jn cs (x i)):=fun y hy=>by
  have:=(h1.any hN hl hw hqa) _ (zM9 hN hl hw hqa p1 p3) (orb_mem.mpr ⟨0,p1,.inl rfl⟩) y hy
  obtain⟨i,hi,e⟩:=orb_mem.mp this;rw[hx]at e;exact⟨i,hi,e⟩
 obtain⟨m,v,m1,mp,hv,hvc,hxm⟩:∃m v,1<=m/\m<p/\v<3/\v≠c/\x m=4*q+(v+1):=by
  obtain⟨v0,g1,g2⟩:∃v0,v0<3/\v0≠c:=by
   by_cases z:c=0
   ·exact⟨1,by lia,by lia⟩
   ·exact⟨0,by lia,by lia⟩
  obtain⟨u,u1,u2,u3,e1,_⟩:=zXX c hc v0 g1 g2;obtain⟨m,hm,e|e⟩:=hall (4*q+(v0+1)) (by lia)
  ·refine⟨m,v0,?_,hm,g1,g2,e.symm⟩
   rcases qFt m with z|z
   ·rw[z,x0]at e;lia
   ·exact z
  ·have e2:x m=4*q+(u+1):=by
    rw[<- jj m,<- e,zL6 (by lia),hce,e1]
    lia
   refine⟨m,u,?_,hm,u1,u2,e2⟩
   rcases qFt m with z|z
   ·rw[z,x0]at e2;lia
   ·exact z
 obtain⟨u,u1,u2,u3,e1,e2,e3,e4,e5,e6,hcov⟩:=zXX c hc v hv hvc;have hjm:jn cs (x m)=4*q+(u+1):=by
  rw[hxm,zL6 (by lia),hce,e1]
  lia
 have hoff:∀k,k<p->k≠0->k≠m->x k/4≠q:=fun k hk k0 km hz=>by
  obtain⟨s,hs,es⟩:∃s,s<4/\x k=4*q+s:=⟨x k%4,by lia,by lia⟩
  rcases(show s=0\/s-1<3/\s=s-1+1 by lia)with z|⟨z1,z2⟩
  ·exact k0 (dis k 0 hk (by lia) (by rw[es,x0,z]))
  ·rcases hcov _ z1 with z|z|z
   ·exact xj k 0 hk (by lia) (by rw[es,hb,z2,z])
   ·exact km (dis k m hk mp (by rw[es,hxm,z2,z]))
   ·exact xj k m hk mp (by rw[es,hjm,z2,z])
 have hjq:∀k,jn cs (x k)/4=x k/4:=fun k=>by
  have hc:cs.getD (x k/4) 0<3:=zC8 hw (by have:=hlt k;lia)
  have:=(xor4 (x k%4) (by lia) _ hc).1
  unfold jn;omega
 have hlv:∀w,(cs.set q w).length=n:=fun w=>by simp[hl]
 refine⟨v,hv,hvc,?_,fun w w1 w2 w3=>?_⟩
 ·have hwv:=zDU (q:=q) hw hv;refine OneAt.any (b:=4*q+(c+1)) hN (hlv v) hwv (fun S hS hs y hy=>?_) (by lia);have hS1:∀k,k<m->S (jn cs (x k)):=fun k=>by
   induction k with
   |zero=>intro _;rw[hb];exact hs
   |succ k ih=>
    intro hk;have a1:=hS.nt _ (zBK hl hw (hlt k)).1 (ih (by lia));rw[<- xs]at a1;have a2:=hS.jn _ (hlt _) a1;rw[zE3 (hoff (k+1) (by lia) (by lia) (by lia))]at a2;exact a2
  have hSm:S (x m):=by
   have:=hS.nt _ (zBK hl hw (hlt (m-1))).1 (hS1 (m-1) (by lia))
   rw[<- xs,show m-1+1=m by lia]at this;exact this
  have hSa:S (x 0):=by
   have:=hS.jn _ (hlt m) hSm
   rw[hxm,zFI (by lia) (by lia),qF8]at this;rw[x0];exact this
  have hSj:S (jn cs (x m)):=by
   have:=hS.jn _ (by lia) hs
   rw[zFI (by lia) (by lia),e3]at this;rw[hjm];exact this
  have hS2:∀d,m+d<p->S (jn cs (x (m+d))):=fun d=>by
   induction d with
   |zero=>intro _;exact hSj
   |succ d ih=>
    intro hk;have a1:=hS.nt _ (zBK hl hw (hlt (m+d))).1 (ih (by lia));rw[<- xs]at a1;have a2:=hS.jn _ (hlt _) a1;rw[zE3 (hoff (m+d+1) (by lia) (by lia) (by lia))]at a2;exact a2
  have hSe:∀k,k<p->S (jn cs (x k)):=fun k hk=>by
   by_cases z:k<m
   ·exact hS1 k z
   ·have:=hS2 (k-m) (by lia)
    rw[show m+(k-m)=k by lia]at this;exact this
  obtain⟨i,hi,e|e⟩:=hall y hy
  ·rw[e]
   by_cases z0:i=0
   ·rw[z0];exact hSa
   by_cases zm:i=m
   ·rw[zm];exact hSm
   have:=hS.jn _ (zBK hl hw (hlt i)).1 (hSe i hi)
   rw[zE3 (by rw[hjq];exact hoff i hi z0 zm),jj]at this;exact this
  ·rw[e];exact hSe i hi
 ·have hwu:w=u:=by
   rcases hcov w w1 with z|z|z
   ·exact absurd z w2
   ·exact absurd z w3
   ·exact z
  subst hwu;intro hO;have hww:=zDU (q:=q) hw u1;have hO':=hO.any hN (hlv w) hww (a:=4*q+(c+1)) (by lia);have hA:Clo ts (cs.set q w) n fun y=>∃k,k<m/\(y=jn cs (x k)\/y=x (k+1)):=by
   refine⟨fun y hy hs=>?_,fun y hy hs=>?_⟩
   ·obtain⟨k,hk,e|e⟩:=hs
    ·by_cases z:k=0
     ·refine⟨m-1,by lia,.inr ?_⟩;rw[e,z,hb,zFI (by lia) (by lia),e5,show m-1+1=m by lia,hxm]
     ·refine⟨k-1,by lia,.inr ?_⟩;rw[e,zE3 (by rw[hjq];exact hoff k (by lia) z (by lia)),jj,show k-1+1=k by lia]
    ·by_cases z:k+1=m
     ·refine⟨0,by lia,.inl ?_⟩;rw[e,z,hxm,zFI (by lia) (by lia),e6,hb]
     ·refine⟨k+1,by lia,.inl ?_⟩;rw[e,zE3 (hoff (k+1) (by lia) (by lia) z)]
   ·obtain⟨k,hk,e|e⟩:=hs
    ·exact⟨k,hk,.inr (by rw[e,xs])⟩
    ·exact⟨k,hk,.inl (by rw[e,xn])⟩
  obtain⟨k,hk,e|e⟩:=hO' _ hA ⟨0,by lia,.inl hb.symm⟩ (x 0) (hlt 0)
  ·exact xj 0 k (by lia) (by lia) e
  ·have:=dis 0 (k+1) (by lia) (by lia) e
   lia
end Mp
namespace Mp
open Mi PySem
theorem zb3:powD (.int 10) (.int 60)=some (.int 1000000000000000000000000000000000000000000000000000000000000):=by
 show(@ite _ (0<=(60:Int)/\(60:Int)<=1000000/\(10:Int).natAbs<18446744073709551616) (qA3 _) (some (Dt.int ((10:Int) ^ (60:Int).toNat))) none)=_
 rw[if_pos (by decide)];rfl
theorem zMT(ns:List Int)(k:Int)(h0:0<=k)(h1:k<1000):∃c:Int,zAL [.scr ns,.int k]=okR (.int c):=by
 unfold zAL zEX;have m1:mulD (.int 7919) (.int (k+1))=some (.int (7919*(k+1))):=zKY (by lia) (by lia);have hp:=zb3
 suffices h:∀x:Int,∃c:Int,sSeq (sIf (tAn (tB (eB (cmpD fun i j=>decide (j<i)) (eBi lenD (aCons (eV 0) aNil)) (eC (.int 0)))) (tB (eB eqD (eB modD (eB ixD (eV 0) (eC (.int 0))) (eC (.int 2))) (eC (.int 1))))) (sRet 1 1 [2,1] (eB divD (eB modD (eV 2) (eB powD (eC (.int 10)) (eC (.int 60)))) (eB ixD (eLst (aCons (eC (.int 1)) (aCons (eC (.int 2)) aNil))) (eBi intD (aCons (eB eqD (eV 1) (eC (.int 0))) aNil))))) sNil)
   (sSeq (sSet 3 0 [2,1] (eB modD (eB mulD (eB addD (eB modD (eV 2) (eC (.int 1000000000039))) (eB mulD (eC (.int 7919)) (eB addD (eV 1) (eC (.int 1))))) (eC (.int 48271))) (eC (.int 2147483647))))
   (sSeq (sSet 4 0 [3] (eB modD (eB mulD (eB modD (eB mulD (eV 3) (eC (.int 69621))) (eC (.int 2147483629))) (eC (.int 16807))) (eC (.int 2147483647))))
   (sRet 1 1 [4,3] (eB addD (eB mulD (eB addD (eB mulD (eV 3) (eC (.int 2147483647))) (eV 4)) (eC (.int 2147483629))) (eB modD (eB mulD (eV 4) (eC (.int 40692))) (eC (.int 2147483399))))))) [some (.scr ns,0),some (.int k,0),some (.int x,0),none,none]=okR (.rt (.int c)) by
  by_cases hk:k<ns.length
  ·obtain⟨c,hc⟩:=h (ns.getD k.toNat 0);refine⟨c,zBG rfl (zAV fun bb hb=>zAG (r:=[some (.scr ns,0),some (.int k,0),some (.int 0,0),none,none]) (by simp[startO]) ?_)⟩;subst hb;refine zAV fun bb hb=>zAG (r:=[some (.scr ns,0),some (.int k,0),some (.int (ns.getD k.toNat 0),0),none,none]) (by simp[hk,zMJ h0 hk]) ?_
   subst hb;exact hc
  ·obtain⟨c,hc⟩:=h 0;refine⟨c,zBG rfl (zAV fun bb hb=>zAG (r:=[some (.scr ns,0),some (.int k,0),some (.int 0,0),none,none]) (by simp[startO]) ?_)⟩;subst hb;refine zAV fun bb hb=>zAG (r:=[some (.scr ns,0),some (.int k,0),some (.int 0,0),none,none]) (by simp[hk]) ?_
   subst hb;exact hc
 intro x;have last:∃c:Int,(sSeq (sSet 3 0 [2,1] (eB modD (eB mulD (eB addD (eB modD (eV 2) (eC (.int 1000000000039))) (eB mulD (eC (.int 7919)) (eB addD (eV 1) (eC (.int 1))))) (eC (.int 48271))) (eC (.int 2147483647))))
   (sSeq (sSet 4 0 [3] (eB modD (eB mulD (eB modD (eB mulD (eV 3) (eC (.int 69621))) (eC (.int 2147483629))) (eC (.int 16807))) (eC (.int 2147483647))))
   (sRet 1 1 [4,3] (eB addD (eB mulD (eB addD (eB mulD (eV 3) (eC (.int 2147483647))) (eV 4)) (eC (.int 2147483629))) (eB modD (eB mulD (eV 4) (eC (.int 40692))) (eC (.int 2147483399))))))) [some (.scr ns,0),some (.int k,0),some (.int x,0),none,none]=okR (.rt (.int c)):=by
  simp[m1,-zOK,zZI]
 by_cases hc:0<ns.length/\ns.getD 0 0%2=1
 ·have hi:itA ns 0=some (ns.getD 0 0):=zMJ (by lia) (by lia)
  by_cases k0:k=0
  ·refine⟨x%1000000000000000000000000000000000000000000000000000000000000/2,?_⟩;subst k0;have hl0:(0:Int)<(ns.length:Int):=by lia
   generalize hS:(sSeq (sSet 3 0 [2,1] (eB modD (eB mulD (eB addD (eB modD (eV 2) (eC (.int 1000000000039))) (eB mulD (eC (.int 7919)) (eB addD (eV 1) (eC (.int 1))))) (eC (.int 48271))) (eC (.int 2147483647)))) _:SM)=SS
   generalize ns.getD 0 0=y at hc hi
   have hT:intD [.bl true]=some (.int 1):=rfl;have hI:itA [Dt.int 1,.int 2] 1=some (.int 2):=rfl;simp[hi,hc.2,hc.1,hp,hT,hI,-zXZ]
  ·refine⟨x%1000000000000000000000000000000000000000000000000000000000000/1,?_⟩
   generalize hS:(sSeq (sSet 3 0 [2,1] (eB modD (eB mulD (eB addD (eB modD (eV 2) (eC (.int 1000000000039))) (eB mulD (eC (.int 7919)) (eB addD (eV 1) (eC (.int 1))))) (eC (.int 48271))) (eC (.int 2147483647)))) _:SM)=SS
   generalize ns.getD 0 0=y at hc hi
   have hT:intD [.bl false]=some (.int 0):=rfl;have hI:itA [Dt.int 1,.int 2] 0=some (.int 1):=rfl;simp[hi,hc.2,hc.1,hp,k0,hT,hI,-zXZ]
 ·obtain⟨c,hc2⟩:=last;refine⟨c,zAV fun bb hb=>zAG (r:=[some (.scr ns,0),some (.int k,0),some (.int x,0),none,none]) ?_ (by rw[hb];exact hc2)⟩;clear hc2 hb bb
  generalize(sRet 1 1 [2,1] (eB divD (eB modD (eV 2) (eB powD (eC (.int 10)) (eC (.int 60)))) (eB ixD (eLst (aCons (eC (.int 1)) (aCons (eC (.int 2)) aNil))) (eBi intD (aCons (eB eqD (eV 1) (eC (.int 0))) aNil)))))=SS
  by_cases hl:0<ns.length
  ·have hi:itA ns 0=some (ns.getD 0 0):=zMJ (by lia) (by lia);have h2:¬ns.getD 0 0%2=1:=fun z=>hc ⟨hl,z⟩
   generalize ns.getD 0 0=y at h2 hi
   have h3:y%2=0:=by lia
   simp[hi,hl,h2,h3]
  ·have:ns=[]:=qBb (by lia)
   subst this;simp
theorem zNC(ns:List Int)(a:Int)(a0:0<=a)(a9:a<1000)(n:Nat)(h1:1<=n)(hn:n<=10):∃row,Twice n row/\zBR [.scr ns,.int a,.int (n:Int)]=okR (rowD (numL row)):=by
 suffices h:eiR (zDN [some (.scr ns,0),some (.int a,0),some (.int (n:Int),0),none,none,none,none]) (fun _=>False) (fun d=>∃row,d=rowD (numL row)/\Twice n row) by
  rcases h with⟨_,_,z⟩|⟨d,h1,row,rfl,h2⟩
  ·exact z.elim
  ·exact⟨row,h2,zBG rfl h1⟩
 have m0:mulD (.int 2) (.int (n:Int))=some (.int ((2*n:Nat):Int)):=by
  rw[zKY (by lia) (by lia)]
  congr 2
 have hbl:(zDM n).length=2*n:=by simp[zDM]
 unfold zDN;refine zDV (P:=fun r=>r=[some (.scr ns,0),some (.int a,0),some (.int (n:Int),0),some (rowD (numL (zDM n)),1),none,none,none]) (zI2 ?_) ?_
 ·have hc:eComp (iR1 (aCons (eB mulD (eC (.int 2)) (eV 2)) aNil)) 1 (.one 7) Mi.tYes (eB divD (eV 7) (eC (.int 2))) [some (.scr ns),some (.int a),some (.int (n:Int)),none,none,none,none]=okR (rowD (numL (zDM n))):=by
   have:=zJW (ρ:=[some (.scr ns),some (.int a),some (.int (n:Int)),none,none,none,none]) (e:=eB divD (eV 7) (eC (.int 2))) (it:=iR1 (aCons (eB mulD (eC (.int 2)) (eV 2)) aNil)) (i:=7) (n:=2*n) (fun k=>((k/2:Nat):Int)) rfl (by lia) (zGO (by simp[m0,-zOK]) (by lia)) fun a h=>by simp
   rw[this];unfold zDM numL;rw[qAu];rfl
  simp[hc]
 rintro r rfl
 obtain⟨c0,e0⟩:=zMT ns a a0 a9;refine zDV (P:=fun r=>r=[some (.scr ns,0),some (.int a,0),some (.int (n:Int),0),some (rowD (numL (zDM n)),1),some (.int c0,1),none,none]) (zI2 (zAG (ss (c2 rfl rfl e0) (qAc 1)) rfl)) ?_
 rintro r rfl
 refine zDV (P:=fun r=>r=[some (.scr ns,0),some (.int a,0),some (.int (n:Int),0),some (rowD (numL (zDM n)),1),some (.int c0,1),some (rowD (numL []),9),none]) (zI2 (zAG (ss el0 (by simp)) rfl)) ?_
 rintro r rfl
 refine zDV (P:=fun r=>∃row:List Nat,∃o3 o4 o6,r=[some (.scr ns,0),some (.int a,0),some (.int (n:Int),0),o3,o4,some (rowD (numL row),9),o6]/\row.Perm (zDM n)) (zI2 ?_) ?_
 ·refine zJH (fun r=>∃row left:List Nat,∃w:Int,∃l4 o6,r=[some (.scr ns,0),some (.int a,0),some (.int (n:Int),0),some (rowD (numL left),1),some (.int w,l4),some (rowD (numL row),9),o6]/\(row++left).Perm (zDM n)) (fun r=>zWX 3 r) (fun r=>∃row:List Nat,∃o3 o4 o6,r=[some (.scr ns,0),some (.int a,0),some (.int (n:Int),0),o3,o4,some (rowD (numL row),9),o6]/\row.Perm (zDM n)) ⟨[],zDM n,_,_,_,rfl,qDn _⟩ ?_ ?_ fun r hr=>hr
  ·show((numL (zDM n)).map Dt.int).length<1000000
   simp[numL,hbl]
   lia
  ·rintro r ⟨row,left,w,l4,o6,rfl,hp⟩
   have hlr:row.length+left.length=2*n:=by
    have:=hp.length_eq
    rw[qB2,hbl]at this;exact this
   have hnl:(numL left).length=left.length:=by simp[numL]
   have hq:=zVI (numL left) []
   replace hq:Dt.eq (rowD (numL left)) (.lst [])=decide (numL left=[]):=hq
   have hd:=zC9 (numL left)
   by_cases hle:left=[]
   ·subst hle;refine .inl ⟨?_,row,_,_,_,rfl,by simpa using hp⟩;show tB (eB neD (eV 3) (eLst aNil)) (full [some (.scr ns,0),some (.int a,0),some (.int (n:Int),0),some (.lst [],1),some (.int w,l4),some (rowD (numL row),9),o6])=okR false
    generalize rowD (numL row)=Y
    simp;rfl
   ·have hlp:0<left.length:=List.length_pos_iff.mpr hle;have hne:(numL left=[])=False:=eq_false fun z=>hle (by
     have:=congrArg qEi z
     rw[hnl]at this;exact qBb this)
    refine .inr ⟨ned (b:=false) rfl el0 (by rw[hd];lia) (by simp) (by rw[hq];exact decide_eq_false (by rw[hne];exact fun z=>z)) rfl,?_⟩
    ·have z0:=qE6 w (show((left.length:Nat):Int)≠0 by lia);have z1:=qDd w (show(0:Int)<((left.length:Nat):Int) by lia);have hmod:modD (.int w) (.int (left.length:Int))=some (.int (w%(left.length:Int))):=mdi (by lia) rfl;have hlp2:(0:Int)<(left.length:Int):=by lia
     have hlp3:(left.length:Int)<1000000000000000000000000:=by lia
     have hdiv:divD (.int w) (.int (left.length:Int))=some (.int (w/(left.length:Int))):=dvi ⟨hlp2,hlp3⟩;have hlen:lenD [rowD (numL left)]=some (.int (left.length:Int)):=by rw[lenR,hnl]
     refine zB8 fun bb hb=>zAG (r:=[some (.scr ns,0),some (.int a,0),some (.int (n:Int),0),some (rowD (numL left),1),some (.int w,l4),some (rowD (numL row),9),some (.int (w/(left.length:Int)),0)]) (ss (b2 rfl (bi1 rfl hlen) hdiv) (qAc 0)) ?_
     subst hb
     generalize w/(left.length:Int)=w2
     have he:eB modD (eV 4) (eBi lenD (aCons (eV 3) aNil)) (full [some (.scr ns,0),some (.int a,0),some (.int (n:Int),0),some (rowD (numL left),1),some (.int w,l4),some (rowD (numL row),9),some (.int w2,0)])=okR (.int (w%(left.length:Int))):=b2 rfl (bi1 rfl hlen) hmod
     generalize w%(left.length:Int)=z at *
     have hzt:z.toNat<left.length:=by lia
     have e1:Dt.lst (((numL left).map Dt.int).eraseIdx z.toNat)=rowD (numL (left.eraseIdx z.toNat)):=by
      unfold rowD numL;rw[zLG,zLG]
     have e2:Dt.lst ((numL row).map Dt.int++[.int (left.getD z.toNat 0:Nat)])=rowD (numL (row++[left.getD z.toNat 0])):=by
      unfold rowD numL;simp[-qA0]
     have hap:=zLU (r:=[some (.scr ns,0),some (.int a,0),some (.int (n:Int),0),some (rowD (numL left),1),some (.int w,l4),some (rowD (numL row),9),some (.int w2,0)]) (i:=3) (j:=5) (k:=0) (l:=8) (ds:=(numL left).map Dt.int) (es:=(numL row).map Dt.int) (c:=.int (left.getD z.toNat 0:Nat)) rfl rfl he z0 (by simp[numL];lia) (by simp[numL,qA1 hzt,qA0]) (by simp) (by lia) (by simp[numL];lia) (by simp[numL];lia) (by lia);rw[e1,e2]at hap;refine zB8 fun bb hb=>zAG hap ?_
     subst hb;refine zAG (r:=[some (.scr ns,0),some (.int a,0),some (.int (n:Int),0),some (rowD (numL (left.eraseIdx z.toNat)),1),some (.int w2,0),some (rowD (numL (row++[left.getD z.toNat 0])),9),some (.int w2,0)]) ?_ ⟨⟨row++[left.getD z.toNat 0],left.eraseIdx z.toNat,_,_,_,rfl,?_⟩,?_⟩
     ·exact ss rfl (qAc 0)
     ·refine qGr ?_ hp;rw[qBl];refine qDu row ?_;rw[qF9];have hg:left.getD z.toNat 0=left[z.toNat]:=by rw[qA0,qA1 hzt];rfl
      rw[hg];exact(zFC left hzt).symm
     ·show((numL (left.eraseIdx z.toNat)).map Dt.int).length<((numL left).map Dt.int).length
      simp only[numL,qAg];rw[qDx,if_pos hzt]
      lia
 rintro r ⟨row,o3,o4,o6,rfl,hp⟩
 refine .inr ⟨rowD (numL row),?_,row,rfl,zSP hp⟩;rfl
theorem zQ8(ns:List Int)(n:Nat)(h1:1<=n)(hn:n<=10):∃row,Twice n row/\zBR [.scr ns,.int 2,.int (n:Int)]=okR (rowD (numL row)):=zNC ns 2 (by lia) (by lia) n h1 hn
theorem zOQ{n k:Int}{R:List (List Nat)}{lv l0:Nat}{h0:Int}{o6:Option Sl} :
  nxR (sFor [] (iSq (eTup (aCons (eC (.int 4)) (aCons (eC (.int 3)) (aCons (eC (.int 2)) (aCons (eC (.int 1)) aNil)))))) (.one 6) (sSeq (sAppPop 5 4 (eB modD (eV 0) (eV 6)))
   (sSet 0 0 [0,6] (eB divD (eV 0) (eV 6)))) [some (.int h0,l0),some (.int n,0),some (rowsD R,lv),some (.int k,0),some (rowD (numL [0,1,2,3]),1),some (rowD (numL []),9),o6])
   (fun r=>∃so:List Nat,∃h l0 o4 o6,r=[some (.int h,l0),some (.int n,0),some (rowsD R,lv),some (.int k,0),o4,some (rowD (numL so),9),o6]/\so.Perm [0,1,2,3]):=by
 generalize rowsD R=RR
 have hi:∀ρ:Rh,iSq (eTup (aCons (eC (.int 4)) (aCons (eC (.int 3)) (aCons (eC (.int 2)) (aCons (eC (.int 1)) aNil))))) ρ=okR (([4,3,2,1]:List Nat).map fun m:Nat=>Dt.int (m:Int)):=fun ρ=>by simp
 rw[zK2,hi];show nxR (zA4 (okR (([4,3,2,1]:List Nat).map fun m:Nat=>Dt.int (m:Int))) fun ds=>forGo (.one 6) _ ds [some (.int h0,l0),some (.int n,0),some (RR,lv),some (.int k,0),some (rowD (numL [0,1,2,3]),1),some (rowD (numL []),9),o6]) _;rw[zA0];refine zF4 (fun m:Nat=>Dt.int (m:Int)) [4,3,2,1] (fun j r=>∃so left:List Nat,∃h:Int,∃l0 o6,r=[some (.int h,l0),some (.int n,0),some (RR,lv),some (.int k,0),some (rowD (numL left),1),some (rowD (numL so),9),o6]/\(so++left).Perm [0,1,2,3]/\so.length=j) ⟨[],[0,1,2,3],_,_,_,rfl,qDn _,rfl⟩ (fun j m hm r hr=>?_) fun r hr=>?_
 ·obtain⟨so,left,h,l0,o6,rfl,hp,hl⟩:=hr;have hmj:m+j=4:=by
   match j,hm with
   |0,hm=>cases hm;rfl
   |1,hm=>cases hm;rfl
   |2,hm=>cases hm;rfl
   |3,hm=>cases hm;rfl
   |j+4,hm=>simp at hm
  have hj4:j<4:=by
   have:=(qA4.mp hm).1
   simpa using this
  have hll:left.length=m:=by
   have:=hp.length_eq
   simp at this
   lia
  have z0:=qE6 h (show((m:Nat):Int)≠0 by lia);have z1:=qDd h (show(0:Int)<((m:Nat):Int) by lia);have hm0:¬(m:Int)=0:=by lia
  have hmp:0<m:=by lia
  obtain⟨z,hz⟩:∃z,h%(m:Int)=z:=⟨_,rfl⟩
  rw[hz]at z0 z1;have he:eB modD (eV 0) (eV 6) (full [some (.int h,l0),some (.int n,0),some (RR,lv),some (.int k,0),some (rowD (numL left),1),some (rowD (numL so),9),some (.int (m:Int),0)])=okR (.int z):=by
   generalize rowD (numL left)=Z
   generalize rowD (numL so)=Y
   simp[hmp,hz]
  have hzt:z.toNat<left.length:=by lia
  show nxR (sSeq _ _ [some (.int h,l0),some (.int n,0),some (RR,lv),some (.int k,0),some (rowD (numL left),1),some (rowD (numL so),9),some (.int (m:Int),0)]) _;have e1:Dt.lst (((numL left).map Dt.int).eraseIdx z.toNat)=rowD (numL (left.eraseIdx z.toNat)):=by
   unfold rowD numL;rw[zLG,zLG]
  have e2:Dt.lst ((numL so).map Dt.int++[.int (left.getD z.toNat 0:Nat)])=rowD (numL (so++[left.getD z.toNat 0])):=by
   unfold rowD numL;simp[-qA0]
  have hap:=zLU (r:=[some (.int h,l0),some (.int n,0),some (RR,lv),some (.int k,0),some (rowD (numL left),1),some (rowD (numL so),9),some (.int (m:Int),0)]) (i:=4) (j:=5) (k:=0) (l:=8) (ds:=(numL left).map Dt.int) (es:=(numL so).map Dt.int) (c:=.int (left.getD z.toNat 0:Nat)) rfl rfl he z0 (by simp[numL];lia) (by simp[numL,qA1 hzt,qA0]) (by simp) (by lia) (by simp[numL];lia) (by simp[numL];lia) (by lia);rw[e1,e2]at hap;refine zB8 fun bb hb=>zAG hap ?_
  subst hb;refine zAG (r:=[some (.int (h/(m:Int)),0),some (.int n,0),some (RR,lv),some (.int k,0),some (rowD (numL (left.eraseIdx z.toNat)),1),some (rowD (numL (so++[left.getD z.toNat 0])),9),some (.int (m:Int),0)]) ?_ ⟨so++[left.getD z.toNat 0],left.eraseIdx z.toNat,_,_,_,rfl,?_,by simp[hl]⟩
  ·show sSet 0 0 [0,6] (eB divD (eV 0) (eV 6)) [some (.int h,l0),some (.int n,0),some (RR,lv),some (.int k,0),some (rowD (numL (left.eraseIdx z.toNat)),1),some (rowD (numL (so++[left.getD z.toNat 0])),9),some (.int (m:Int),0)]=_
   generalize rowD (numL (left.eraseIdx z.toNat))=Z
   generalize rowD (numL (so++[left.getD z.toNat 0]))=Y
   have hm3:(m:Int)<1000000000000000000000000:=by lia
   simp[hmp,hm3]
  ·refine qGr ?_ hp;rw[qBl];refine qDu so ?_;rw[qF9];have hg:left.getD z.toNat 0=left[z.toNat]:=by rw[qA0,qA1 hzt];rfl
   rw[hg];exact(zFC left hzt).symm
 ·obtain⟨so,left,h,l0,o6,rfl,hp,hl⟩:=hr;have hle:left=[]:=by
   have:=hp.length_eq
   simp at this;exact qBb (by simp at hl;lia)
  subst hle;rw[qCc]at hp;exact⟨so,_,_,_,_,rfl,hp⟩
theorem zM4(c:Int)(n:Nat)(n1:1<=n)(n9:n<=100):∃R,Seats R n/\zD3 [.int c,.int (n:Int)]=okR (rowsD R):=by
 suffices h:eiR (zD7 [some (.int c,0),some (.int (n:Int),0),none,none,none,none,none]) (fun _=>False) (fun d=>∃R,d=rowsD R/\Seats R n) by
  rcases h with⟨_,_,z⟩|⟨d,h1,R,rfl,h2⟩
  ·exact z.elim
  ·exact⟨R,h2,zBG rfl h1⟩
 unfold zD7;refine zDV (P:=fun r=>r=[some (.int c,0),some (.int (n:Int),0),some (rowsD [],9),none,none,none,none]) (zI2 (by simp;rfl)) ?_
 rintro r rfl
 refine zDV (P:=fun r=>∃R,∃lv o0 o3 o4 o5 o6,r=[o0,some (.int (n:Int),0),some (rowsD R,lv+1),o3,o4,o5,o6]/\Seats R n/\(lv=0\/n=0)) (zI2 ?_) ?_
 ·have hit:iR1 (aCons (eV 1) aNil) (full [some (.int c,0),some (.int (n:Int),0),some (rowsD [],9),none,none,none,none])=okR (nums 0 n):=zGO (n:=n) (by
   generalize rowsD []=Z
   simp) (by lia)
  rw[zCY,hit,zA0];refine zKU (fun k r=>∃R,∃lv h l0 o3 o4 o5 o6,r=[some (.int h,l0),some (.int (n:Int),0),some (rowsD R,lv+1),o3,o4,o5,o6]/\Seats R k/\(lv=0\/k=0)) ⟨[],8,c,0,none,none,none,none,rfl,⟨rfl,fun l h=>by cases h⟩,.inr rfl⟩ (fun k hk r hr=>?_) fun r hr=>?_
  ·obtain⟨R,lv,h,l0,o3,o4,o5,o6,rfl,hS,hlv⟩:=hr;show nxR (sSeq _ _ [some (.int h,l0),some (.int (n:Int),0),some (rowsD R,lv+1),some (.int (k:Nat),0),o4,o5,o6]) _;refine zB8 fun bb hb=>zAG (r:=[some (.int h,l0),some (.int (n:Int),0),some (rowsD R,lv+1),some (.int (k:Nat),0),some (rowD (numL [0,1,2,3]),1),o5,o6]) (by
    generalize rowsD R=Z
    simp
    rfl) ?_
   subst hb;refine zB8 fun bb hb=>zAG (r:=[some (.int h,l0),some (.int (n:Int),0),some (rowsD R,lv+1),some (.int (k:Nat),0),some (rowD (numL [0,1,2,3]),1),some (rowD (numL []),9),o6]) (by
    generalize rowsD R=Z
    generalize rowD (numL [0,1,2,3])=Y
    simp
    rfl) ?_
   subst hb;obtain⟨r',g1,so,h',l0',o4',o6',rfl,hp⟩:=zCK (zOQ (n:=(n:Int)) (k:=(k:Nat)) (R:=R) (lv:=lv+1) (l0:=l0) (h0:=h) (o6:=o6));refine zB8 fun bb hb=>zAG g1 ?_
   subst hb;have hRl:=hS.len;refine zAG (zFV (i:=2) (v:=5) (R:=R) (l:=so) (lv:=lv) (lx:=9) rfl rfl (by decide) (fun ρ hρ=>by show(match ρ[5]? with|some (some d)=>okR d|_=>none)=_;rw[hρ]) (by lia)) ⟨R++[so],0,h',l0',some (.int (k:Nat),0),o4',some (rowD (numL so),0),o6',rfl,⟨by simp[hRl],fun l hl=>?_⟩,.inl rfl⟩
   rcases qBa.mp hl with h|h
   ·exact hS.per l h
   ·simp at h;subst h;exact hp
  ·obtain⟨R,lv,h,l0,o3,o4,o5,o6,rfl,hS,hlv⟩:=hr;exact⟨R,lv,_,_,_,_,_,rfl,hS,hlv⟩
 rintro r ⟨R,lv,o0,o3,o4,o5,o6,rfl,hS,hlv⟩
 have:lv=0:=by lia
 subst this;refine .inr ⟨rowsD R,?_,R,rfl,hS⟩
 generalize rowsD R=Z
 simp[sRetV]
noncomputable def wyOf(l:List Nat):Nat:=if l.getD 0 0=0\/l.getD 1 0=0 then max (l.getD 0 0) (l.getD 1 0)-1 else max (l.getD 2 0) (l.getD 3 0)-1
theorem zY7:∀a:Nat,a<4->∀b:Nat,b<4->sortD [.lst [.int (a:Int),.int (b:Int)]]=some (.lst [.int ((min a b:Nat):Int),.int ((max a b:Nat):Int)]):=by
 intro a ha b hb;have h:∀a:Nat,a<4->∀b:Nat,b<4->sortI [(a:Int),(b:Int)]=[((min a b:Nat):Int),((max a b:Nat):Int)]:=by
  intro a ha b hb
  by_cases h:a<=b
  ·rw[Nat.min_eq_left h,Nat.max_eq_right h];simp[sortI,qH5,qD9,qHx,h]
  ·rw[Nat.min_eq_right (by lia),Nat.max_eq_left (by lia)];simp[sortI,qH5,qD9,qHx,h]
 show(@ite _ (([(a:Int),(b:Int)]:List Int).length<64) (qA3 _) (some (Dt.lst ((sortI [(a:Int),(b:Int)]).map .int))) none)=_
 rw[if_pos (by simp),h a ha b hb];rfl
theorem zXV:∀a:Nat,a<4->∀b:Nat,b<4->a≠b->(a=0\/b=0)->max a b-1+1=(a^^^b)/\max a b-1<3:=by decide
theorem zXU:∀a:Nat,a<4->∀b:Nat,b<4->(a^^^(a^^^b))=b:=by decide
theorem zaL:∀a:Nat,a<4->∀b:Nat,b<4->∀c:Nat,c<4->∀d:Nat,d<4->(a≠b/\a≠c/\a≠d/\b≠c/\b≠d/\c≠d)->(a^^^b)=(c^^^d):=by
 intro a ha b hb
 rcases(show a=0\/a=1\/a=2\/a=3 by lia)with rfl|rfl|rfl|rfl<;>rcases(show b=0\/b=1\/b=2\/b=3 by lia)with rfl|rfl|rfl|rfl<;>decide
theorem zPJ{l:List Nat}(h:l.Perm [0,1,2,3]):l.getD 0 0<4/\l.getD 1 0<4/\l.getD 2 0<4/\l.getD 3 0<4/\l.getD 0 0≠l.getD 1 0/\l.getD 0 0≠l.getD 2 0/\l.getD 0 0≠l.getD 3 0/\l.getD 1 0≠l.getD 2 0/\l.getD 1 0≠l.getD 3 0/\l.getD 2 0≠l.getD 3 0:=by
 obtain⟨h4,hlt,hinj,_⟩:=zBC h;exact⟨hlt 0 (by lia),hlt 1 (by lia),hlt 2 (by lia),hlt 3 (by lia),fun e=>absurd (hinj 0 1 (by lia) (by lia) e) (by lia),fun e=>absurd (hinj 0 2 (by lia) (by lia) e) (by lia),fun e=>absurd (hinj 0 3 (by lia) (by lia) e) (by lia),fun e=>absurd (hinj 1 2 (by lia) (by lia) e) (by lia),fun e=>absurd (hinj 1 3 (by lia) (by lia) e) (by lia),fun e=>absurd (hinj 2 3 (by lia) (by lia) e) (by lia)⟩
theorem zMZ{l:List Nat}(h:l.Perm [0,1,2,3]):wyOf l<3/\(l.getD 0 0^^^(wyOf l+1))=l.getD 1 0/\(l.getD 2 0^^^(wyOf l+1))=l.getD 3 0:=by
 obtain⟨a4,b4,c4,d4,n1,n2,n3,n4,n5,n6⟩:=zPJ h;have e:=zaL _ a4 _ b4 _ c4 _ d4 ⟨n1,n2,n3,n4,n5,n6⟩;have key:wyOf l+1=(l.getD 0 0^^^l.getD 1 0)/\wyOf l<3:=by
  unfold wyOf
  by_cases z:l.getD 0 0=0\/l.getD 1 0=0
  ·rw[if_pos z];exact zXV _ a4 _ b4 n1 z
  ·rw[if_neg z,e];exact zXV _ c4 _ d4 n6 (by lia)
 refine⟨key.2,by rw[key.1];exact zXU _ a4 _ b4,by rw[key.1,e];exact zXU _ c4 _ d4⟩
theorem has2(a b:Nat):inD true (.int 0) (.lst [.int (a:Int),.int (b:Int)])=some (.bl (!(decide (a=0)||decide (b=0)))):=by
 have e:∀a:Nat,Dt.eq (.int (a:Int)) (.int 0)=decide (a=0):=fun a=>by
  show decide ((a:Int)=0)=_
  by_cases h:a=0<;>simp[h]
 have e':∀a:Nat,Dt.eq (.int 0) (.int (a:Int))=decide (a=0):=fun a=>by
  show decide ((0:Int)=(a:Int))=_
  by_cases h:a=0
  ·simp[h]
  ·simp[h];lia
 simp[inD,hasD,e,e']
theorem zPN{R:List (List Nat)}{n:Nat}(hS:Seats R n)(hn:n<=100):zF5 [rowsD R]=okR (rowD (numL (R.map wyOf))):=by
 have hRl:=hS.len;have d2:∀x y:Int,(Dt.lst [.int x,.int y]).dep<=1:=fun x y=>qAa 1
 refine zBG rfl (sg el0 (by simp) (zAV fun bb hb=>?_));rw[zK2];show nxR (zA4 (okR (R.map fun l=>rowD (numL l))) _) _;rw[zA0];refine zF4 (fun l:List Nat=>rowD (numL l)) R (fun j r=>∃o2 o3,r=[some (rowsD R,0),some (rowD (numL ((R.take j).map wyOf)),9),o2,o3]) ⟨_,_,rfl⟩ (fun j l hj r hr=>?_) fun r hr=>?_
 ·obtain⟨o2,o3,rfl⟩:=hr;obtain⟨hjl,hje⟩:=qA4.mp hj;have hp:=hS.per l (by rw[<- hje];exact qD3 _);have l4:l.length=4:=hp.length_eq;obtain⟨a4,b4,c4,d4,n1,n2,n3,n4,n5,n6⟩:=zPJ hp;have x0:=zEL l 0 (by lia);have x1:=zEL l 1 (by lia);have x2:=zEL l 2 (by lia);have x3:=zEL l 3 (by lia);have s1:=zY7 _ a4 _ b4;have s2:=zY7 _ c4 _ d4;have i1:=has2 (min (l.getD 0 0) (l.getD 1 0)) (max (l.getD 0 0) (l.getD 1 0));have hw:wyOf l=if l.getD 0 0=0\/l.getD 1 0=0 then max (l.getD 0 0) (l.getD 1 0)-1 else max (l.getD 2 0) (l.getD 3 0)-1:=rfl
  have htk:(R.take (j+1)).map wyOf=(R.take j).map wyOf++[wyOf l]:=by
   rw[qBd hjl,hje];simp
  have hlen:((R.take j).map wyOf).length<=100:=by simp;lia
  have fin:∀p q:Nat,1<=q->wyOf l=q-1->sApp 1 0 (eB subD (eB ixD (eV 3) (eC (.int 1))) (eC (.int 1))) [some (rowsD R,0),some (rowD (numL ((R.take j).map wyOf)),9),some (rowD (numL l),0),some (.lst [.int (p:Int),.int (q:Int)],1)]=okR (.nx [some (rowsD R,0),some (rowD (numL ((R.take (j+1)).map wyOf)),9),some (rowD (numL l),0),some (.lst [.int (p:Int),.int (q:Int)],1)]):=fun p q q1 hq=>by
   have e2:rowD (numL ((R.take (j+1)).map wyOf))=.lst ((numL ((R.take j).map wyOf)).map Dt.int++[.int (wyOf l:Nat)]):=by
    rw[htk];unfold rowD numL;simp
   rw[e2];refine zVY (k:=8) (ds:=(numL ((R.take j).map wyOf)).map Dt.int) (d:=.int ((wyOf l:Nat):Int)) rfl (b2 (d1:=.int (q:Int)) (b2 rfl rfl rfl) rfl ?_) (by simp[numL];lia) (qAc _) (qAc _);rw[hq,show((q-1:Nat):Int)=(q:Int)-1 by lia];rfl
  generalize l.getD 0 0=a at a4 b4 x0 s1 i1 hw n1
  generalize l.getD 1 0=b at b4 x1 s1 i1 hw n1
  generalize l.getD 2 0=c at c4 x2 s2 hw n6
  generalize l.getD 3 0=d at d4 x3 s2 hw n6
  by_cases z:a=0\/b=0
  ·have hz:min a b=0:=by lia
   rw[hz]at i1;exact zAG (sg (bi1 (el2 (b2 rfl rfl x0) (b2 rfl rfl x1)) s1) (d2 _ _) (sp (tb1 (b2 rfl rfl (by rw[hz];exact i1))) (fin _ _ (by lia) (by rw[hw,if_pos z])))) ⟨_,_,rfl⟩
  ·have h1:¬min a b=0:=by lia
   have h2:¬max a b=0:=by lia
   rw[decide_eq_false h1,decide_eq_false h2]at i1;exact zAG (sg (bi1 (el2 (b2 rfl rfl x0) (b2 rfl rfl x1)) s1) (d2 _ _) (st (tb1 (b2 rfl rfl i1)) (ss (bi1 (el2 (b2 rfl rfl x2) (b2 rfl rfl x3)) s2) (d2 _ _)) (fin _ _ (by lia) (by rw[hw,if_neg z])))) ⟨_,_,rfl⟩
 ·obtain⟨o2,o3,rfl⟩:=hr;subst hb;rw[qD1];rfl
theorem zN9(R:List (List Nat))(hz:R.length<=1000):lenD [rowsD R]=some (.int (R.length:Int)):=by
 show lenD [.lst (R.map fun l=>rowD (numL l))]=_;simp
section
variable{ts cs:List Nat}{n:Nat}{RR:List (List Nat)}(h:Rnds ts cs n RR)(hn:n<=8)
include h hn
theorem zL0:zBQ [rowD (numL ts),rowD (numL cs)]=okR (.int (RR.length:Int)):=by
 have hle:=h.le;have h1:=h.prog;have h2:=zN9 RR (by lia);unfold zBQ zFT
 generalize rowD (numL ts)=T at h1 ⊢
 generalize rowD (numL cs)=C at h1 ⊢
 generalize rowsD RR=Z at h1 h2
 simp[startO,h1,h2]
theorem zQD(h1:RR.length=1):zCU [rowD (numL ts),rowD (numL cs)]=okR .non:=by
 have hm:=zL0 h hn;rw[h1]at hm;unfold zCU zFR
 generalize rowD (numL ts)=T at hm ⊢
 generalize rowD (numL cs)=C at hm ⊢
 simp[startO,hm]
end
end Mp
namespace Mp
open Mi PySem
section
variable{R:List (List Nat)}{row:List Nat}{n:Nat}(hS:Seats R n)(tw:Twice n row)
include hS tw
theorem zU5{i:Nat}(hi:i<4*n):∃k,k<2*n/\(i=inE R row k\/i=ouE R row k):=by
 have hp:i/4<n:=by lia
 obtain⟨j,hj,ej⟩:=(zBC (zDJ hS hp)).2.2.2 (i%4) (by lia);have hiS:i=SE R (i/4) j:=by unfold SE;lia
 obtain⟨⟨k0,b0,c0,d0⟩,k2,b2,c2,d2⟩:=zO5 tw hp
 rcases(show j=0\/j=1\/j=2\/j=3 by lia)with z|z|z|z
 ·exact⟨k0,b0,.inl (by unfold inE;rw[c0,d0];subst z;exact hiS)⟩
 ·exact⟨k0,b0,.inr (by unfold ouE;rw[c0,d0];subst z;exact hiS)⟩
 ·exact⟨k2,b2,.inl (by unfold inE;rw[c2,d2];subst z;exact hiS)⟩
 ·exact⟨k2,b2,.inr (by unfold ouE;rw[c2,d2];subst z;exact hiS)⟩
theorem zZR{k:Nat}(hk:k<2*n):jn (R.map wyOf) (inE R row k)=ouE R row k:=by
 have hp:=zDW tw hk;have hperm:=zDJ hS hp;obtain⟨_,j1,j2⟩:=zMZ hperm;have hlt:=(zBC hperm).2.1;have hg:(R.map wyOf).getD (row.getD k 0) 0=wyOf (R.getD (row.getD k 0) []):=by
  have:=hS.len
  rw[qA0,qA0 (l:=R),qAb,qA1 (by lia)];rfl
 unfold inE ouE SE
 rcases zDI row k with h|h
 ·rw[h,zL6 (hlt 0 (by lia)),hg,j1,qBv];lia
 ·rw[h,zL6 (hlt 2 (by lia)),hg,j2];show _=4*row.getD k 0+(R.getD (row.getD k 0) []).getD 3 0;lia
theorem zS7{ts:List Nat}(hN:NetN ts (4*n))(n1:1<=n)(hT:Tied R row n (2*n) (numL ts)):(R.map wyOf).length=n/\(∀c∈R.map wyOf,c<3)/\OneAt ts (R.map wyOf) n 0:=by
 have hl:(R.map wyOf).length=n:=by simp[hS.len]
 have hw:∀c∈R.map wyOf,c<3:=fun c hc=>by
  obtain⟨l,h1,rfl⟩:=qAm.mp hc;exact(zMZ (hS.per l h1)).1
 refine⟨hl,hw,OneAt.any (b:=inE R row 0) hN hl hw (fun S hSc hs x hx=>?_) (by lia)⟩;have hnt:∀j,j<2*n->nt ts (ouE R row (prv (2*n) j))=inE R row j:=fun j hj=>by
  have:=(hT.2 j hj).1
  unfold numL at this;rw[qAb]at this;unfold nt;rw[qA0];cases hq:ts[ouE R row (prv (2*n) j)]? with
  |none=>rw[hq]at this;cases this
  |some y=>
   rw[hq]at this;simp at this;simp
   lia
 have key:∀k,k<2*n->S (inE R row k)/\S (ouE R row k):=fun k=>by
  induction k with
  |zero=>
   intro hk;refine⟨hs,?_⟩;rw[<- zZR hS tw hk];exact hSc.jn _ (zLD hS tw hk) hs
  |succ k ih=>
   intro hk;have h1:=hSc.nt _ (zNS hS tw (show k<2*n by lia)) (ih (by lia)).2;have h2:=hnt (k+1) hk;rw[show prv (2*n) (k+1)=k by unfold prv;simp]at h2;rw[h2]at h1;refine⟨h1,?_⟩;rw[<- zZR hS tw hk];exact hSc.jn _ (zLD hS tw hk) h1
 obtain⟨k,hk,e|e⟩:=zU5 hS tw hx
 ·rw[e];exact(key k hk).1
 ·rw[e];exact(key k hk).2
end
theorem zTF(ns:List Int)(n:Nat)(n1:1<=n)(hn:n<=8):∃ts cs:List Nat,NetN ts (4*n)/\(∀x,x<4*n->nt ts x≠x)/\cs.length=n/\(∀c∈cs,c<3)/\OneAt ts cs n 0/\zEF [.scr ns,.int (n:Int)]=okR (.tup [rowD (numL ts),rowD (numL cs)]):=by
 obtain⟨row,tw,hrow⟩:=zQ8 ns n n1 (by lia);obtain⟨c1,hc1⟩:=zMT ns 1 (by lia) (by lia);obtain⟨R,hS,hseats⟩:=zM4 c1 n n1 (by lia);obtain⟨ms,hT,hbuilt⟩:=zPF hS tw (by lia);obtain⟨ts,e,hN,hne⟩:=zY3 (zSS hS tw hT);subst e;obtain⟨h1,h2,h3⟩:=zS7 hS tw hN n1 hT;have hways:=zPN hS (by lia);refine⟨ts,R.map wyOf,hN,hne,h1,h2,h3,?_⟩;have d1:=zC9 (numL row);have d2:=zHD R;have d3:=zC9 (numL ts);have d4:=zC9 (numL (R.map wyOf))
 generalize rowD (numL (R.map wyOf))=W at hways d4 ⊢
 generalize rowD (numL ts)=T at hbuilt d3 ⊢
 generalize rowD (numL row)=RW at hrow hbuilt d1
 generalize rowsD R=RR at hseats hbuilt hways d2
 unfold zEF zIT;refine zBG rfl (zAV fun bb hb=>zAG (r:=[some (.scr ns,0),some (.int (n:Int),0),some (RW,9),none]) (by simp[startO,hrow,d1]) ?_);subst hb
 by_cases hd:RR.dep<=1
 ·refine zAV fun bb hb=>zAG (r:=[some (.scr ns,0),some (.int (n:Int),0),some (RW,9),some (RR,1)]) (by simp[hc1,hseats,hd]) ?_
  subst hb;simp[hbuilt,hways,d3,d4]
 ·refine zAV fun bb hb=>zAG (r:=[some (.scr ns,0),some (.int (n:Int),0),some (RW,9),some (RR,1)]) (by simp[hc1,hseats,hd]) ?_
  subst hb;simp[hbuilt,hways,d3,d4]
theorem zQ4{α:Type}:∀(l:List α)(q:Nat)(w:α),q<l.length->l.set q w=l.take q++[w]++l.drop (q+1)
 |[],q,w,h=>by simp at h
 |a::l,0,w,h=>by simp
 |a::l,q+1,w,h=>by
  have:=zQ4 l q w (by simpa using h)
  simp[this]
structure Tn(ts cs:List Nat)(n q v:Nat)(L:Nat->List (List Nat)):Prop where
 hq:q<n
 hv:v<3
 ne:v≠cs.getD q 0
 rn:∀w,w<3->Rnds ts (cs.set q w) n (L w)
 own:(L (cs.getD q 0)).length=1
 one:(L v).length=1
 two:∀w,w<3->w≠cs.getD q 0->w≠v->¬(L w).length=1
theorem zaW{ts cs:List Nat}{n q v:Nat}(n1:1<=n)(hn:n<=8)(hN:NetN ts (4*n))(hne:∀x,x<4*n->nt ts x≠x)(hl:cs.length=n)(hw:∀c∈cs,c<3)(h1:OneAt ts cs n 0)(hq:q<n)(v3:v<3)(vc:v≠cs.getD q 0)(o1:OneAt ts (cs.set q v) n 0)(o2:∀w,w<3->w≠cs.getD q 0->w≠v->¬OneAt ts (cs.set q w) n 0):∃L,Tn ts cs n q v L:=by
 have hr:∀w,∃RR,w<3->Rnds ts (cs.set q w) n RR/\(RR.length=1↔OneAt ts (cs.set q w) n 0):=fun w=>by
  by_cases h:w<3
  ·obtain⟨RR,h⟩:=zYH n1 (by lia) hN hne (cs:=cs.set q w) (by simp[hl]) (zDU hw h);exact⟨RR,fun _=>h⟩
  ·exact⟨[],fun z=>absurd z h⟩
 obtain⟨L,hL⟩:∃L:Nat->List (List Nat),∀w,w<3->Rnds ts (cs.set q w) n (L w)/\((L w).length=1↔OneAt ts (cs.set q w) n 0):=⟨fun w=>qEu (hr w),fun w=>qDt (hr w)⟩
 have hc3:cs.getD q 0<3:=zC8 hw (by lia);have hsame:cs.set q (cs.getD q 0)=cs:=by
  rw[qA0,qA1 (show q<cs.length by lia)];simp
 refine⟨L,hq,v3,vc,fun w h=>(hL w h).1,?_,(hL v v3).2.mpr o1,fun w h a b c=>o2 w h a b ((hL w h).2.mp c)⟩;refine(hL _ hc3).2.mpr ?_;rw[hsame];exact h1
theorem zaV{ts cs:List Nat}{n q:Nat}(n1:1<=n)(hn:n<=8)(hN:NetN ts (4*n))(hne:∀x,x<4*n->nt ts x≠x)(hl:cs.length=n)(hw:∀c∈cs,c<3)(h1:OneAt ts cs n 0)(hq:q<n) :
  ∃v L,Tn ts cs n q v L/\OneAt ts (cs.set q v) n 0:=by
 obtain⟨v,v3,vc,o1,o2⟩:=zSR hN hne hl hw h1 hq;obtain⟨L,h⟩:=zaW n1 hn hN hne hl hw h1 hq v3 vc o1 o2;exact⟨v,L,h,o1⟩
section
variable{ts cs:List Nat}{n q v:Nat}{L:Nat->List (List Nat)}(h:Tn ts cs n q v L)(hn:n<=8)(hl:cs.length=n)(hw:∀c∈cs,c<3)
include h hn hl hw
theorem zOW:zC2 [rowD (numL ts),rowD (numL cs),.int (q:Int)]=okR (rowsD [cs.set q v]):=by
 have hq:=h.hq;have hc3:cs.getD q 0<3:=zC8 hw (by lia);have hixq:=zEL cs q (by lia);have hnl:(numL cs).length=n:=by simp[numL,hl]
 have hcut1:slD (rowD (numL cs)) none (some (q:Int))=some (rowD ((numL cs).take q)):=by rw[zLJ,zVP]
 have hcut2:slD (rowD (numL cs)) (some ((q:Int)+1)) none=some (rowD ((numL cs).drop (q+1))):=by
  rw[zLJ,show((q:Int)+1)=((q+1:Nat):Int) by lia,zOA]
 have hadd:∀w:Nat,∃X,addD (rowD ((numL cs).take q)) (.lst [.int (w:Int)])=some X/\addD X (rowD ((numL cs).drop (q+1)))=some (rowD (numL (cs.set q w))):=fun w=>by
  refine⟨.lst (((numL cs).take q).map Dt.int++[.int (w:Int)]),by simp[rowD,hnl];lia,?_⟩;have e:numL (cs.set q w)=(numL cs).take q++[(w:Int)]++(numL cs).drop (q+1):=by
   rw[zQ4 cs q w (by lia)];simp[numL,List.map_take,List.map_drop]
  rw[e];simp[rowD,hnl]
  lia
 have key:zD8 [some (rowD (numL ts),0),some (rowD (numL cs),0),some (.int (q:Int),0),none,none,none]=okR (.rt (rowsD [cs.set q v])):=by
  unfold zD8;refine zAV fun bb hb=>zAG (r:=[some (rowD (numL ts),0),some (rowD (numL cs),0),some (.int (q:Int),0),some (rowsD [],9),none,none]) (by
   generalize rowD (numL ts)=T
   generalize rowD (numL cs)=C
   simp
   rfl) ?_
  subst hb;refine zAV fun bb hb=>?_
  have hit:iR1 (aCons (eC (.int 3)) aNil) (full [some (rowD (numL ts),0),some (rowD (numL cs),0),some (.int (q:Int),0),some (rowsD [],9),none,none])=okR (nums 0 3):=zGO (n:=3) (by
   generalize rowD (numL ts)=T
   generalize rowD (numL cs)=C
   generalize rowsD []=Z
   simp) (by lia)
  rw[zCY,hit,zA0];refine zKU (fun k r=>∃lv o4 o5,r=[some (rowD (numL ts),0),some (rowD (numL cs),0),some (.int (q:Int),0),some (rowsD (if v<k then[cs.set q v]else[]),lv+1),o4,o5]/\(lv=0\/¬v<k)) ⟨8,none,none,rfl,.inr (by lia)⟩ (fun w hwl r hr=>?_) fun r hr=>?_
  ·obtain⟨lv,o4,o5,rfl,hlv⟩:=hr;obtain⟨X,x1,x2⟩:=hadd w;have hR:=h.rn w hwl;have hRl:=hR.law;have hRle:=hR.le;have hlen:=zN9 (L w) (by lia);have hd:=zC9 (numL (cs.set q w))
   generalize hF:(if v<w then[cs.set q v]else[])=F
   show nxR (sSeq _ _ [some (rowD (numL ts),0),some (rowD (numL cs),0),some (.int (q:Int),0),some (rowsD F,lv+1),some (.int (w:Nat),0),o5]) _;refine zB8 fun bb hb=>zAG (r:=[some (rowD (numL ts),0),some (rowD (numL cs),0),some (.int (q:Int),0),some (rowsD F,lv+1),some (.int (w:Nat),0),some (rowD (numL (cs.set q w)),1)]) (by
    generalize rowD (numL ts)=T
    generalize rowD (numL cs)=C at hcut1 hcut2 ⊢
    generalize rowsD F=Z
    generalize rowD (numL (cs.set q w))=Y at x2 hd ⊢
    generalize rowD ((numL cs).take q)=Y1 at hcut1 x1
    generalize rowD ((numL cs).drop (q+1))=Y2 at hcut2 x2
    simp[eSl,oNo,oE,hcut1,hcut2,x1,x2,hd]) ?_
   subst hb
   by_cases hwv:w=v
   ·subst hwv;have hF':F=[]:=by rw[<- hF,if_neg (by lia)]
    subst hF';have hon:=h.one;rw[hon]at hlen;have hne:¬(w:Int)=((cs.getD q 0:Nat):Int):=fun z=>h.ne (by lia)
    have ht:tAn (tB (eB neD (eV 4) (eB ixD (eV 1) (eV 2)))) (tB (eB eqD (eBi lenD (aCons (eCall zAZ (aCons (eV 0) (aCons (eV 5) aNil))) aNil)) (eC (.int 1)))) (full [some (rowD (numL ts),0),some (rowD (numL cs),0),some (.int (q:Int),0),some (rowsD [],lv+1),some (.int (w:Nat),0),some (rowD (numL (cs.set q w)),1)])=okR true:=by
     generalize((cs.getD q 0:Nat):Int)=cc at hixq hne
     generalize rowD (numL ts)=T at hRl ⊢
     generalize rowD (numL cs)=C at hixq ⊢
     generalize rowsD []=Z
     generalize rowD (numL (cs.set q w))=Y at hRl ⊢
     generalize rowsD (L w)=RR at hRl hlen
     simp[hixq,hne,hRl,hlen]
    rw[zOH,ht,zA0,if_pos rfl];refine zAG (zFV (i:=3) (v:=5) (R:=[]) (l:=cs.set q w) (lv:=lv) (lx:=1) rfl rfl (by decide) (fun ρ hρ=>by show(match ρ[5]? with|some (some d)=>okR d|_=>none)=_;rw[hρ]) (by simp)) ⟨0,some (.int (w:Nat),0),some (rowD (numL (cs.set q w)),0),?_,.inl rfl⟩;rw[if_pos (by lia)];rfl
   ·have ht:tAn (tB (eB neD (eV 4) (eB ixD (eV 1) (eV 2)))) (tB (eB eqD (eBi lenD (aCons (eCall zAZ (aCons (eV 0) (aCons (eV 5) aNil))) aNil)) (eC (.int 1)))) (full [some (rowD (numL ts),0),some (rowD (numL cs),0),some (.int (q:Int),0),some (rowsD F,lv+1),some (.int (w:Nat),0),some (rowD (numL (cs.set q w)),1)])=okR false:=by
     by_cases hc:w=cs.getD q 0
     ·rw[<- hc]at hixq
      generalize rowD (numL ts)=T
      generalize rowD (numL cs)=C at hixq ⊢
      generalize rowsD F=Z
      generalize rowD (numL (cs.set q w))=Y
      simp[hixq]
     ·have htw:=h.two w hwl hc hwv;have htw':¬((L w).length:Int)=1:=by lia
      have hne:¬(w:Int)=((cs.getD q 0:Nat):Int):=fun z=>hc (by lia)
      generalize((cs.getD q 0:Nat):Int)=cc at hixq hne
      generalize((L w).length:Int)=LL at hlen htw'
      generalize rowD (numL ts)=T at hRl ⊢
      generalize rowD (numL cs)=C at hixq ⊢
      generalize rowsD F=Z
      generalize rowD (numL (cs.set q w))=Y at hRl ⊢
      generalize rowsD (L w)=RR at hRl hlen
      simp[hixq,hne,hRl,hlen,htw']
    rw[zOH,ht,zA0,if_neg qAe];refine zAG rfl ⟨lv,some (.int (w:Nat),0),some (rowD (numL (cs.set q w)),1),?_,?_⟩
    ·rw[<- hF]
     by_cases z:v<w
     ·rw[if_pos z,if_pos (by lia)]
     ·rw[if_neg z,if_neg (by lia)]
    ·lia
  ·obtain⟨lv,o4,o5,rfl,hlv⟩:=hr;have hv:=h.hv
   have:lv=0:=by lia
   subst this;subst hb;rw[if_pos hv]
   generalize rowD (numL ts)=T
   generalize rowD (numL cs)=C
   generalize rowsD [cs.set q v]=Z
   simp[sRetV]
 exact zBG rfl key
end
end Mp
namespace Mp
open Mi PySem
section
variable{ts cs:List Nat}{n q v:Nat}{L:Nat->List (List Nat)}(h:Tn ts cs n q v L)(hn:n<=8)(hl:cs.length=n)(hw:∀c∈cs,c<3)
include h hn hl hw
end
end Mp
namespace Mp
open Mi PySem
theorem zML:∀(s t:Fin 4)(c w:Fin 3),w.val≠c.val->t.val=s.val\/t.val=(s.val^^^(c.val+1))\/t.val=(s.val^^^(w.val+1))\/t.val=((s.val^^^(w.val+1))^^^(c.val+1)):=by decide
theorem zP7(s:Nat)(hs:s<4)(c:Nat)(hc:c<3)(w:Nat)(hw:w<3)(h:w≠c)(t:Nat)(ht:t<4):t=s\/t=(s^^^(c+1))\/t=(s^^^(w+1))\/t=((s^^^(w+1))^^^(c+1)):=zML ⟨s,hs⟩ ⟨t,ht⟩ ⟨c,hc⟩ ⟨w,hw⟩ h
theorem zRN:∀(s:Fin 4)(c w:Fin 3),w.val≠c.val->(s.val^^^(w.val+1))<4/\(s.val^^^(w.val+1))≠s.val/\(s.val^^^(w.val+1))≠(s.val^^^(c.val+1)):=by decide
theorem zU0(s:Nat)(hs:s<4)(c:Nat)(hc:c<3)(w:Nat)(hw:w<3)(h:w≠c):(s^^^(w+1))<4/\(s^^^(w+1))≠s/\(s^^^(w+1))≠(s^^^(c+1)):=zRN ⟨s,hs⟩ ⟨c,hc⟩ ⟨w,hw⟩ h
theorem zO0{cs:List Nat}{n e:Nat}(hl:cs.length=n)(hw:∀c∈cs,c<3)(he:e<4*n):jn cs e/4=e/4:=by
 have hc:cs.getD (e/4) 0<3:=zC8 hw (by lia)
 have:=(xor4 (e%4) (by lia) _ hc).1
 unfold jn;omega
section
variable{ts cs:List Nat}{n p q:Nat}(hN:NetN ts (4*n))(hne:∀x,x<4*n->nt ts x≠x)(hl:cs.length=n)(hw:∀c∈cs,c<3)(h1:OneAt ts cs n 0)(n0:0<4*n)(p1:1<=p)(p3:itr (stp ts cs) p 0=0)(p4:∀q,1<=q->q<p->itr (stp ts cs) q 0≠0)(hq:q<n)
include hN hne hl hw h1 n0 p1 p3 p4
theorem zHH{y:Nat}(hy:y<4*n):∃i,i<p/\(y=itr (stp ts cs) i 0\/y=jn cs (itr (stp ts cs) i 0)):=
 orb_mem.mp (h1 _ (zM9 hN hl hw n0 p1 p3) (orb_mem.mpr ⟨0,p1,.inl rfl⟩) y hy)
theorem zHG:p=2*n:=by
 have hlt:∀k,itr (stp ts cs) k 0<4*n:=zBB (zBF hN hl hw).1 n0;have hnd:(orb ts cs 0 p).Nodup:=zE0 hN hne hl hw n0 p3 p4 _ (qAa _);have hin:∀x∈orb ts cs 0 p,x<4*n:=fun x hx=>by
  obtain⟨i,hi,e|e⟩:=orb_mem.mp hx
  ·rw[e];exact hlt i
  ·rw[e];exact(zBK hl hw (hlt i)).1
 have b1:=zD2 (a:=orb ts cs 0 p) (b:=qA6 (4*n)) hnd fun x hx=>qAt.mpr (hin x hx)
 have b2:=zD2 (a:=qA6 (4*n)) (b:=orb ts cs 0 p) qBh fun x hx=>orb_mem.mpr (zHH hN hne hl hw h1 n0 p1 p3 p4 (qAt.mp hx))
 rw[zBX]at b1 b2;simp at b1 b2
 lia
include hq
theorem zKE:∃s t,s<t/\t<p/\itr (stp ts cs) s 0/4=q/\itr (stp ts cs) t 0/4=q/\∀k,k<p->itr (stp ts cs) k 0/4=q->k=s\/k=t:=by
 have hlt:∀k,itr (stp ts cs) k 0<4*n:=zBB (zBF hN hl hw).1 n0;have hdis:∀i j,i<p->j<p->itr (stp ts cs) i 0=itr (stp ts cs) j 0->i=j:=fun i j hi hj e=>by
  rcases qCf i j with z|z|z
  ·exact absurd e (zGA hN hne hl hw n0 p3 p4 z hj)
  ·exact z
  ·exact absurd e.symm (zGA hN hne hl hw n0 p3 p4 z hi)
 have hxj:∀i j,i<p->j<p->itr (stp ts cs) i 0≠jn cs (itr (stp ts cs) j 0):=fun i j hi hj e=>zL7 hN hne hl hw n0 p3 p4 hi hj e
 obtain⟨c,hce⟩:∃c,cs.getD q 0=c:=⟨_,rfl⟩
 have hc:c<3:=by rw[<- hce];exact zC8 hw (by lia)
 have hall:∀y,y<4*n->∃i,i<p/\(y=itr (stp ts cs) i 0\/y=jn cs (itr (stp ts cs) i 0)):=fun y hy=>zHH hN hne hl hw h1 n0 p1 p3 p4 hy
 have hjj:∀k,jn cs (jn cs (itr (stp ts cs) k 0))=itr (stp ts cs) k 0:=fun k=>(zBK hl hw (hlt k)).2
 have hjd:∀k,jn cs (itr (stp ts cs) k 0)/4=itr (stp ts cs) k 0/4:=fun k=>zO0 hl hw (hlt k)
 generalize itr (stp ts cs)=X at *
 obtain⟨s0,hs0,es0⟩:=hall (4*q) (by lia);have q0:X s0 0/4=q:=by
  rcases es0 with e|e
  ·lia
  ·rw[<- hjd,<- e];lia
 obtain⟨σ,hσ,eσ⟩:∃σ,σ<4/\X s0 0=4*q+σ:=⟨X s0 0%4,by lia,by lia⟩
 have ejσ:jn cs (X s0 0)=4*q+(σ^^^(c+1)):=by rw[eσ,zL6 hσ,hce];lia
 obtain⟨w,hw3,hwc⟩:∃w,w<3/\w≠c:=by
  by_cases z:c=0
  ·exact⟨1,by lia,by lia⟩
  ·exact⟨0,by lia,by lia⟩
 obtain⟨f1,f2,f3⟩:=zU0 σ hσ c hc w hw3 hwc;obtain⟨t0,ht0,et0⟩:=hall (4*q+(σ^^^(w+1))) (by lia);have hne0:t0≠s0:=fun z=>by
  subst z
  rcases et0 with e|e
  ·rw[eσ]at e;lia
  ·rw[ejσ]at e;lia
 have qt:X t0 0/4=q:=by
  rcases et0 with e|e
  ·rw[<- e];lia
  ·rw[<- hjd,<- e];lia
 have hk:∀k,k<p->X k 0/4=q->k=s0\/k=t0:=fun k hk hkq=>by
  have ek:X k 0=4*q+X k 0%4:=by lia
  rcases zP7 σ hσ c hc w hw3 hwc (X k 0%4) (by lia)with z|z|z|z
  ·exact .inl (hdis k s0 hk hs0 (by rw[ek,z,eσ]))
  ·exact absurd (show X k 0=jn cs (X s0 0) by rw[ek,z,ejσ]) (hxj k s0 hk hs0)
  ·have hb:X k 0=4*q+(σ^^^(w+1)):=by rw[ek,z]
   rcases et0 with e|e
   ·exact .inr (hdis k t0 hk ht0 (hb.trans e))
   ·exact absurd (hb.trans e) (hxj k t0 hk ht0)
  ·have hb:X k 0=jn cs (4*q+(σ^^^(w+1))):=by rw[ek,z,zL6 f1,hce];lia
   rcases et0 with e|e
   ·exact absurd (by rw[hb,e]) (hxj k t0 hk ht0)
   ·rw[e,hjj]at hb;exact .inr (hdis k t0 hk ht0 hb)
 rcases Nat.lt_or_gt_of_ne hne0 with z|z
 ·exact⟨t0,s0,z,hs0,qt,q0,fun k a b=>(hk k a b).symm⟩
 ·exact⟨s0,t0,z,ht0,q0,qt,hk⟩
variable{s t v:Nat}(st:s<t)(tp:t<p)(xs:itr (stp ts cs) s 0/4=q)(xt:itr (stp ts cs) t 0/4=q)(xo:∀k,k<p->itr (stp ts cs) k 0/4=q->k=s\/k=t)(hv:v<3)(hvc:v≠cs.getD q 0)(h2:OneAt ts (cs.set q v) n 0)
include st tp xs xt xo hv hvc h2
end
theorem zLF{α:Type}(f g:Nat->α):∀l:List Nat,ev2 (l.flatMap fun i=>[f i,g i])=l.map f
 |[]=>rfl
 |a::l=>by
  show ev2 ([f a,g a]++l.flatMap fun i=>[f i,g i])=f a::l.map f;rw[<- zLF f g l];rfl
def zPM(ls:List Nat)(ts cs:List Nat)(n:Nat):List Nat:=(qA6 (2*n)).map fun i=>ls.getD (itr (stp ts cs) i 0/4) 0
theorem zPL{ts cs ls:List Nat}{n:Nat}(habc:Str.ofString "abcdefghijklmnopqrstuvwxyz" = ⟨ls.toArray⟩)(h26:ls.length=26)(n1:1<=n)(hn:n<=8)(hN:NetN ts (4*n))(hne:∀x,x<4*n->nt ts x≠x)(hl:cs.length=n)(hw:∀c∈cs,c<3)(h1:OneAt ts cs n 0) :
  zCH [rowD (numL ts),rowD (numL cs)]=okR (.str ⟨(zPM ls ts cs n).toArray⟩):=by
 obtain⟨RR,hR,hone⟩:=zYH n1 (by lia) hN hne hl hw;have hm:=zQD hR hn (hone.mpr h1);obtain⟨st1,st2⟩:=zBF hN hl hw;have n0:0<4*n:=by lia
 obtain⟨p,p1,p2,p3,p4⟩:=zCA st1 st2 n0;have hp:=zHG hN hne hl hw h1 n0 p1 p3 p4;have hF:=zDG hN hl (by lia) hw n0 p1 p2 p3 p4;have hev:ev2 (orb ts cs 0 p)=(qA6 p).map fun i=>itr (stp ts cs) i 0:=zLF _ _ _
 have hlt:∀k,itr (stp ts cs) k 0<4*n:=zBB st1 n0;have hFl:=zBX ts cs 0 p;have hFx:∀x∈ev2 (orb ts cs 0 p),x<4*n:=fun x hx=>by
  rw[hev]at hx;obtain⟨i,_,rfl⟩:=qAm.mp hx;exact hlt i
 have hW:zPM ls ts cs n=(ev2 (orb ts cs 0 p)).map fun x=>ls.getD (x/4) 0:=by
  rw[hev,qAu,hp];rfl
 rw[hW]
 generalize orb ts cs 0 p=F at *
 have hst:st2D (rowD (numL F)) (.int 2)=some (.lst ((ev2 F).map fun x:Nat=>Dt.int (x:Int))):=by
  show some (Dt.lst (ev2 ((numL F).map Dt.int)))=_;unfold numL;rw[qAu,zRP];rfl
 have hevl:(ev2 F).length<=100:=by rw[zO6];lia
 have hj:=zGZ ((ev2 F).map fun x=>ls.getD (x/4) 0) (by rw[qAg];lia);rw[qAu]at hj;have hc:∀T C:Dt,m_round_of [T,C,.int 0]=okR (rowD (numL F))->eComp (iSq (eB st2D (eCallN m_round_of (aCons (eV 0) (aCons (eV 1) (aCons (eC (.int 0)) aNil)))) (eC (.int 2)))) 1 (.one 2) Mi.tYes (eB ixD (eC (.str "abcdefghijklmnopqrstuvwxyz")) (eB divD (eV 2) (eC (.int 4)))) [some T,some C]=okR (.lst ((ev2 F).map (sgn∘fun x=>ls.getD (x/4) 0))):=fun T C hr=>by
  refine zEI (fun x:Nat=>Dt.int (x:Int)) (sgn∘fun x=>ls.getD (x/4) 0) (ev2 F) rfl rfl (fun x hx=>?_) _ ?_ (by lia)
  ·have hxl:=hFx x hx;have hi:=zIL (cs:=ls) (k:=x/4) (by lia) (by lia);have hdv:(x:Int)/4=((x/4:Nat):Int):=by lia
   rw[<- hdv]at hi;rw[habc]
   generalize Dt.str ⟨ls.toArray⟩=ST at hi ⊢
   simp[hi]
  ·generalize rowD (numL F)=Z at hr hst
   simp[hr,hst]
 have hc':=hc _ _ hF;unfold zCH zLT
 generalize rowD (numL ts)=T at hm hc' ⊢
 generalize rowD (numL cs)=C at hm hc' ⊢
 refine zBG rfl (zAV fun bb hb=>zAG (r:=[some (T,0),some (C,0)]) (by simp[startO,hm,sDrop]) ?_);subst hb
 generalize(iSq (eB st2D (eCallN m_round_of (aCons (eV 0) (aCons (eV 1) (aCons (eC (.int 0)) aNil)))) (eC (.int 2))))=IT at hc'
 generalize(eB ixD (eC (.str "abcdefghijklmnopqrstuvwxyz")) (eB divD (eV 2) (eC (.int 4))))=EE at hc'
 generalize eComp IT 1 (.one 2) Mi.tYes EE=CC at hc'
 generalize((ev2 F).map (sgn∘fun x=>ls.getD (x/4) 0))=LL at hc' hj
 simp only[zMY,zPI,x_eC,zAW,zBU,zB6,zBY,qBn,hc',zA0,hj,zA8];simp
end Mp
namespace Mp
open Mi PySem
theorem zVA{ts C ts2 C2:List Nat}{n:Nat}(hN:NetN ts (4*n))(hl:C.length=n)(hw:∀c∈C,c<3)(hN2:NetN ts2 (4*n))(hl2:C2.length=n)(hw2:∀c∈C2,c<3)
  {R R2:List (List Nat)} {hd hd2:Nat->Nat} (H:Hds ts C n R hd) (H2:Hds ts2 C2 n R2 hd2) {φ:Nat->Nat} (on:∀y,y<4*n->∃x,x<4*n/\φ x=y)
  (fn:∀x,x<4*n->φ (nt ts x)=nt ts2 (φ x)) (fj:∀x,x<4*n->φ (jn C x)=jn C2 (φ x)) (fl:∀x,x<4*n->φ x<4*n):R2.length<=R.length:=by
 have key:2 ^ R2.length<=2 ^ R.length:=by
  rw[<- zS4,<- zS4];have cst:∀x,RowN R2.length x->Cst ts C n fun e=>x.getD (rI R2 (φ e)) 0:=fun x hx=>by
   obtain⟨c,_⟩:=zMK hN2 hl2 hw2 H2 hx;refine⟨fun e=>c.hb (φ e),fun e he=>?_,fun e he=>?_⟩
   ·show x.getD (rI R2 (φ (nt ts e))) 0=_;rw[fn e he];exact c.hn (φ e) (fl e he)
   ·show x.getD (rI R2 (φ (jn C e))) 0=_;rw[fj e he];exact c.hj (φ e) (fl e he)
  refine zXJ (fun x=>(qA6 R.length).map fun r=>x.getD (rI R2 (φ (hd r))) 0) (fun x hx _=>⟨⟨by simp,fun v hv=>?_⟩,trivial⟩) fun x y hx _ hy _ he=>?_
  ·obtain⟨r,_,rfl⟩:=qAm.mp hv;exact zNB hx _
  ·obtain⟨_,g1⟩:=zMK hN2 hl2 hw2 H2 hx;obtain⟨_,g2⟩:=zMK hN2 hl2 hw2 H2 hy;refine zT0 hx hy fun r hr=>?_
   obtain⟨e,hle,e2⟩:=on (hd2 r) (H2.lt r hr)
   have:=zX8 hN hl hw H (cst x hx) (cst y hy) (fun k hk=>List.map_inj_left.mp he k (qAt.mpr hk)) hle
   rw[e2]at this;rw[<- g1 r hr,<- g2 r hr];exact this
 exact(Nat.pow_le_pow_iff_right (by lia)).mp key
theorem zSC:(Str.ofString "abcdefgh")=⟨((qA6 8).map fun i=>97+i).toArray⟩:=by
 refine zIF ?_;rw[Str.ofString_eq_toList]
 decide
theorem zID{n:Nat}{row:List Nat}(t:Twice n row):row.Perm (qA6 n++qA6 n):=by
 refine List.perm_iff_count.mpr fun v=>?_
 rw[t.cnt v,qBs,qBh.count]
 by_cases z:v<n
 ·rw[if_pos z,if_pos (qAt.mpr z)]
 ·rw[if_neg z,if_neg fun h=>z (qAt.mp h)]
theorem zOJ(ns:List Int)(n:Nat)(n1:1<=n)(hn:n<=10):∃cs ls:List Nat,zDF [.scr ns,.int 22,.int (n:Int)]=okR (.str ⟨cs.toArray⟩)/\cs.Perm (ls++ls)/\ls.Nodup/\ls.length=n:=by
 obtain⟨l0,h0,h26,hnd⟩:=zUG;obtain⟨c0,hc0⟩:=zMT ns 22 (by lia) (by lia);obtain⟨row,tw,hrow⟩:=zNC ns 23 (by lia) (by lia) n n1 hn;have e0:(Str.ofString "")=⟨([]:List Nat).toArray⟩:=zIF zFO;have L:nxR (forGo (.one 6) (sSeq (sSet 7 0 [4,3] (eB modD (eV 4) (eBi lenD (aCons (eV 3) aNil)))) (sSeq (sSet 4 0 [4,3] (eB divD (eV 4) (eBi lenD (aCons (eV 3) aNil)))) (sSeq (sSet 5 1 [5,3,7] (eB addD (eV 5) (eB ixD (eV 3) (eV 7)))) (sSet 3 1 [3,7] (eB addD (eSl (eV 3) oNo (oE (eV 7))) (eSl (eV 3) (oE (eB addD (eV 7) (eC (.int 1)))) oNo)))))) (nums 0 n) [some (.scr ns,0),some (.int 22,0),some (.int (n:Int),0),some (.str ⟨l0.toArray⟩,0),some (.int c0,1),some (.str ⟨([]:List Nat).toArray⟩,0),none,none]) fun r=>∃(o3 o4 o6 o7:Option Sl)(j5:Nat)(cs:List Nat),r=[some (.scr ns,0),some (.int 22,0),some (.int (n:Int),0),o3,o4,some (.str ⟨cs.toArray⟩,j5),o6,o7]/\cs.Nodup/\cs.length=n:=by
  refine zKU (fun k r=>∃(c:Int)(o6 o7:Option Sl)(j3 j4 j5:Nat)(ls cs:List Nat),r=[some (.scr ns,0),some (.int 22,0),some (.int (n:Int),0),some (.str ⟨ls.toArray⟩,j3),some (.int c,j4),some (.str ⟨cs.toArray⟩,j5),o6,o7]/\(cs++ls).Nodup/\cs.length=k/\ls.length=26-k) ⟨c0,none,none,0,1,0,l0,[],rfl,by simpa using hnd,rfl,by lia⟩ (fun k hk r hr=>?_) fun r hr=>?_
  ·obtain⟨c,o6,o7,j3,j4,j5,ls,cs,rfl,hp,hc,hl⟩:=hr;have hlen:lenD [.str ⟨ls.toArray⟩]=some (.int (ls.length:Int)):=zFH (by lia);obtain⟨w,hw⟩:∃w:Nat,c%(ls.length:Int)=(w:Int):=⟨(c%(ls.length:Int)).toNat,by have:=qE6 c (show(ls.length:Int)≠0 by lia);lia⟩
   have hwl:w<ls.length:=by have:=qDd c (show(0:Int)<(ls.length:Int) by lia);lia
   have i1:=zIL hwl (by lia);have a1:addD (.str ⟨cs.toArray⟩) (sgn (ls.getD w 0))=some (.str ⟨(cs++[ls.getD w 0]).toArray⟩):=add_str (b:=[ls.getD w 0]) (by simp;lia);have s1:=zUT (a:=ls) none (some (w:Int)) (by lia);have s2:=zUT (a:=ls) (some ((w:Int)+1)) none (by lia);rw[zVP]at s1;rw[show cutA ls (some ((w:Int)+1)) none=ls.drop (w+1) from zOA ls (w+1)]at s2;have a2:=add_str (a:=ls.take w) (b:=ls.drop (w+1)) (by simp;lia);refine zAG (r:=[some (.scr ns,0),some (.int 22,0),some (.int (n:Int),0),some (.str ⟨(ls.take w++ls.drop (w+1)).toArray⟩,1),some (.int (c/(ls.length:Int)),0),some (.str ⟨(cs++[ls.getD w 0]).toArray⟩,1),some (.int (k:Nat),0),some (.int (w:Int),0)]) (sg (b2 rfl (bi1 rfl hlen) (mdi (by lia) hw)) (qAc 0) (sg (b2 rfl (bi1 rfl hlen) (dvi ⟨by lia,by lia⟩)) (qAc 0) (sg (b2 rfl (b2 rfl rfl i1) a1) (qAc 1) (ss (b2 (sl0 rfl rfl s1) (sl1 rfl (b2 rfl rfl (adi rfl)) s2) a2) (qAc 1))))) ⟨_,_,_,_,_,_,_,_,rfl,?_,by simp[hc],by simp;lia⟩;have hpp:(cs++[ls.getD w 0]++(ls.take w++ls.drop (w+1))).Perm (cs++ls):=by
    rw[qBl];refine qDu cs ?_;have hg:ls.getD w 0=ls[w]:=by rw[qA0,qA1 hwl];rfl
    rw[<- List.eraseIdx_eq_take_drop_succ,hg];exact(zFC ls hwl).symm
   exact hpp.nodup_iff.mpr hp
  ·obtain⟨c,o6,o7,j3,j4,j5,ls,cs,rfl,hp,hc,hl⟩:=hr;exact⟨_,_,_,_,_,cs,rfl,(qDl.mp hp).1,hc⟩
 obtain⟨r,g1,o3,o4,o6,o7,j5,ls,rfl,hls,hll⟩:=zCK L;refine⟨wrd ls row,ls,zBG rfl (sg (d:=.str ⟨l0.toArray⟩) (by rw[<- h0];rfl) (qAc 0) (sg (c2 rfl rfl hc0) (qAc 1) (sg (d:=.str ⟨([]:List Nat).toArray⟩) (by rw[<- e0];rfl) (qAc 0) ?_))),?_,hls,hll⟩
 ·rw[zGK,zCY,zGO (n:=n) (al0 rfl) (by lia),zA0];refine qGg (congrArg (fun z=>zA4 z _) g1) ?_;have hc:=zEI (ρ:=full [some (.scr ns,0),some (.int 22,0),some (.int (n:Int),0),o3,o4,some (.str ⟨ls.toArray⟩,j5),o6,o7]) (c:=tYes) (i:=8) (e:=eB ixD (eV 5) (eV 8)) (fun e:Nat=>Dt.int (e:Int)) (fun e:Nat=>sgn (ls.getD e 0)) row rfl rfl (fun e he=>b2 rfl rfl (zIL (by rw[hll];exact(tw.mem e).mp he) (by lia))) (iSq (eCall zBR (aCons (eV 0) (aCons (eB addD (eV 1) (eC (.int 1))) (aCons (eV 2) aNil))))) (by
   have hd:=c3 (e1:=eV 0) (e2:=eB addD (eV 1) (eC (.int 1))) (e3:=eV 2) (ρ:=full [some (.scr ns,0),some (.int 22,0),some (.int (n:Int),0),o3,o4,some (.str ⟨ls.toArray⟩,j5),o6,o7]) rfl (b2 rfl rfl (adi rfl)) rfl hrow;unfold iSq;rw[hd,zA0];show okR ((numL row).map Dt.int)=_;unfold numL;rw[qAu]
   rfl) (by rw[tw.len];lia)
  have hw:(row.map fun e:Nat=>sgn (ls.getD e 0))=(wrd ls row).map sgn:=by unfold wrd;rw[qAu];rfl
  rw[hw]at hc;exact sr (mt1 rfl rfl hc (zGZ _ (by rw[zFX,tw.len];lia))) ⟨qAc _,qAc _⟩
 ·have hp:=(zID tw).map fun e=>ls.getD e 0
  rw[qBg]at hp;have e:(qA6 n).map (fun e=>ls.getD e 0)=ls:=by
   refine qD4 (by simp[hll]) fun i g1 g2=>?_
   rw[qDw,qBc,qA0,qA1 g2];rfl
  rw[e]at hp;exact hp
theorem zJ4(cs:List Nat)(hz:cs.length<=100)(ho:(ords cs).length<=8):zB1 [.str ⟨cs.toArray⟩]=okR (.str ⟨(wr cs).toArray⟩):=by
 have e0:(Str.ofString "")=⟨([]:List Nat).toArray⟩:=zIF zFO;have ole:∀k,(ords (cs.take k)).length<=100:=fun k=>by
  have:=zWI (cs:=cs.take k) (l:=cs.take k) (fun x h=>h)
  simp at this
  lia
 refine zBG rfl (sg (d:=.str ⟨([]:List Nat).toArray⟩) (by rw[<- e0];rfl) (qAc 0) (zAV fun bb hb=>?_));rw[zK2];show nxR (zA4 (okR (cs.map sgn)) _) _;rw[zA0];refine zF4 sgn cs (fun k r=>∃l1 o2,r=[some (.str ⟨cs.toArray⟩,0),some (.str ⟨(ords (cs.take k)).toArray⟩,l1),o2]) ⟨0,none,rfl⟩ (fun k x hx r hr=>?_) fun r hr=>?_
 ·obtain⟨l1,o2,rfl⟩:=hr;have ht:=zK8 hx;have hin:inD true (sgn x) (.str ⟨(ords (cs.take k)).toArray⟩)=some (.bl (!decide (x∈ords (cs.take k)))):=rfl
  by_cases hm:x∈ords (cs.take k)
  ·rw[decide_eq_true hm]at hin;refine zAG (sf (tb1 (b2 rfl rfl hin))) ⟨l1,some (sgn x,0),?_⟩;rw[ht,zCD,if_pos hm];rfl
  ·rw[decide_eq_false hm]at hin;have hl:=ole k;refine zAG (sk (tb1 (b2 rfl rfl hin)) (ss (b2 rfl rfl (add_str (b:=[x]) (by simp;lia))) (qAc 1))) ⟨1,some (sgn x,0),?_⟩;rw[ht,zCD,if_neg hm];rfl
 ·obtain⟨l1,o2,rfl⟩:=hr;subst hb;rw[qD1];have hc:=zEI (ρ:=full [some (.str ⟨cs.toArray⟩,0),some (.str ⟨(ords cs).toArray⟩,l1),o2]) (c:=tYes) (i:=3) (e:=eB ixD (eC (.str "abcdefgh")) (eMt findD (eV 1) (aCons (eV 3) aNil))) sgn (fun x=>sgn (97+(ords cs).idxOf x)) cs rfl rfl (fun x hx=>by
   have hm:=(ords_mem cs x).mpr hx;have hi:=qAl hm;refine b2 rfl (mt1 rfl rfl rfl (zFM hm)) ?_;rw[show(Str.ofString "abcdefgh")=_ from zSC,zIL (by simp;lia) (by simp),zFL (d:=0) (by simp;lia),qA0,qB9 (by lia)]
   rfl) (iSq (eV 0)) rfl (by lia)
  have hw:(cs.map fun x=>sgn (97+(ords cs).idxOf x))=(wr cs).map sgn:=by unfold wr;rw[qAu];rfl
  rw[hw]at hc;exact sr (mt1 rfl rfl hc (zGZ _ (by unfold wr;rw[qAg];lia))) ⟨qAc _,qAc _⟩
theorem zNJ(n p:Nat):(qA5 n 0).getD p 0=0:=by
 rw[qA0,qBm]
 split<;>rfl
section
variable{n:Nat}{cs:List Nat}(w:Wd n cs)(n1:1<=n)
include w n1
theorem inA_zero:inA (rowW cs) 0=0:=by
 have hl:=w.len;have hv:=zO3 w (k:=0) (by lia);rw[if_neg (by lia)]at hv;cases cs with
 |nil=>simp at hl;lia
 |cons a l=>
  obtain⟨t,ht⟩:=zM7 [a] l;have e:ords (a::l)=a::t:=by
   have:ords [a]=[a]:=by simp[ords]
   rw[show a::l=[a]++l from rfl,ht,this];rfl
  rw[hv,e];simp
theorem zMH{k:Nat}(hk:k<cs.length):jn (qA5 n 0) (inA (rowW cs) k)=inA (rowW cs) k+1:=by
 rw[zO3 w hk]
 split
 ·rw[jn4 _ (show 2*1<4 by lia),zNJ];rfl
 ·rw[jn4 _ (show 2*0<4 by lia),zNJ];rfl
theorem zO1:∀{k:Nat},k<2*n->itr (stp (tsW n (rowW cs)) (qA5 n 0)) k 0=inA (rowW cs) k
 |0,_=>(inA_zero w n1).symm
 |k+1,hk=>by
  have ih:=zO1 (k:=k) (by lia);have hl:=w.len;have hr:=w.tw.len;show nt _ (jn _ (itr _ k 0))=_;rw[ih,zMH w n1 (by lia),(zNT w.tw (by lia)).1,qAs (by lia)]
theorem zTE:OneAt (tsW n (rowW cs)) (qA5 n 0) n 0:=fun S hS h0 x hx=>by
 have hl:=w.len;have hr:=w.tw.len;have all:∀k,k<2*n->S (inA (rowW cs) k):=fun k=>by
  induction k with
  |zero=>intro _;rw[inA_zero w n1];exact h0
  |succ k ih=>
   intro hk;have h1:=ih (by lia);have lt:=zDQ w.tw (k:=k) (by lia);have h2:=hS.jn _ (by lia) h1;rw[zMH w n1 (by lia)]at h2;have h3:=hS.nt _ lt h2;rw[(zNT w.tw (by lia)).1,qAs (by lia)]at h3;exact h3
 obtain⟨k,hk,h⟩:=zLH w.tw hx
 rcases h with rfl|rfl
 ·have:=hS.jn _ (by have:=zDQ w.tw hk;lia) (all k (by lia))
  rw[zMH w n1 (by lia)]at this;exact this
 ·exact all _ (by have:=qBt (k+1) (show 0<(rowW cs).length by lia);lia)
theorem zPK(hn:n<=8):zCH [rowD (numL (tsW n (rowW cs))),rowD (numL (qA5 n 0))]=okR (.str ⟨(wr cs).toArray⟩):=by
 obtain⟨hN,hne⟩:=zPS w.tw;have hl:=w.len;rw[zPL (ls:=(qA6 26).map (97 + ·)) zSD (by simp) n1 hn hN hne (by simp) (fun c hc=>by rw[List.eq_of_mem_replicate hc];lia) (zTE w n1)]
 congr 4
 unfold zPM wr;refine qD4 (by simp[hl]) fun i g1 g2=>?_
 have hi:i<2*n:=by simpa using g1
 have hic:i<cs.length:=by lia
 have hm:cs[i]∈cs:=qD3 hic;have hx:(ords cs).idxOf cs[i]<n:=by rw[<- w.ol];exact qAl ((ords_mem cs _).mpr hm)
 rw[qDw,qDw,qBc,zO1 w n1 hi,zO3 w hic];have e:cs.getD i 0=cs[i]:=by rw[qA0,qA1 hic];rfl
 rw[e];have e4:(4*(ords cs).idxOf cs[i]+2*(if cs.idxOf cs[i]<i then 1 else 0))/4=(ords cs).idxOf cs[i]:=by split<;>lia
 rw[e4,zRJ (by lia)]
end
theorem cnt2{s t L:Nat}(h:s<t)(ht:t<L):(qA6 L).countP (fun i=>decide (i=s\/i=t))=2:=by
 have key:∀l:List Nat,l.countP (fun i=>decide (i=s\/i=t))=l.count s+l.count t:=fun l=>by
  induction l with
  |nil=>rfl
  |cons a l ih=>
   rw[List.countP_cons,ih,qGs,qGs]
   by_cases e:a=s
   ·have:¬s=t:=by lia
    simp[e,this]
    lia
   ·by_cases e1:a=t
    ·have:¬t=s:=by lia
     simp[e1,this]
     lia
    ·simp[e,e1]
 rw[key,qBh.count,qBh.count,if_pos (qAt.mpr (by lia)),if_pos (qAt.mpr ht)]
def rowO(ts c:List Nat)(n:Nat):List Nat:=(qA6 (2*n)).map fun i=>itr (stp ts c) i 0/4
theorem zK5{ts c:List Nat}{n:Nat}(n1:1<=n)(hN:NetN ts (4*n))(hne:∀x,x<4*n->nt ts x≠x)(hl:c.length=n)(hw:∀x∈c,x<3)(h1:OneAt ts c n 0):Twice n (rowO ts c n):=by
 obtain⟨st1,st2⟩:=zBF hN hl hw;have n0:0<4*n:=by lia
 obtain⟨p,p1,p2,p3,p4⟩:=zCA st1 st2 n0;have hp:=zHG hN hne hl hw h1 n0 p1 p3 p4;have hlt:∀k,itr (stp ts c) k 0<4*n:=zBB st1 n0;refine⟨by simp[rowO],fun v=>?_⟩;unfold rowO;rw[qG1,qGq]
 by_cases z:v<n
 ·rw[if_pos z];obtain⟨s,t,st,tp,xs,xt,xo⟩:=zKE hN hne hl hw h1 n0 p1 p3 p4 z;refine qGg (qG2 fun i hi=>?_) (cnt2 st (show t<2*n by lia));have hi:=qAt.mp hi;simp only[qFs,beq_iff_eq,decide_eq_true_eq];constructor
  ·intro h;exact xo i (by lia) h
  ·rintro(rfl|rfl)
   ·exact xs
   ·exact xt
 ·rw[if_neg z,List.countP_eq_zero];intro i _
  have:=hlt i
  simp only[qFs,beq_iff_eq]
  lia
theorem zH5{ts c:List Nat}{n:Nat}(n1:1<=n)(hn:n<=8)(hN:NetN ts (4*n))(hne:∀x,x<4*n->nt ts x≠x)(hl:c.length=n)(hw:∀x∈c,x<3)(h1:OneAt ts c n 0):zPM ((qA6 26).map (97 + ·)) ts c n=(rowO ts c n).map (97 + ·)/\Wd n ((rowO ts c n).map (97 + ·))/\(rowO ts c n).Perm (qA6 n++qA6 n):=by
 have tw:=zK5 n1 hN hne hl hw h1;have hp:=zID tw;refine⟨?_,?_,hp⟩
 ·obtain⟨st1,_⟩:=zBF hN hl hw;unfold zPM rowO;rw[qAu];refine qB8 fun i _=>?_
  have:itr (stp ts c) i 0<4*n:=zBB st1 (by lia) i
  exact zRJ (by lia)
 ·have h:=hp.map (97 + ·);rw[qBg]at h;have hw:=zXW h (zE2 qBh fun x _ y _ e=>by lia);rw[qAg,qCv]at hw;exact hw
end Mp
namespace Mp
open Mi PySem
theorem dgt{d k x:EM}{ρ:Rh}{kvs:Kv}{a b v:Int}(h1:d ρ=okR (.dct kvs))(h2:k ρ=okR (.int a))(h3:x ρ=okR (.int b))(h:(getW kvs (.inl a)=some (.int v))\/(getW kvs (.inl a)=none/\v=b)):eDGet d k x ρ=okR (.int v):=by
 unfold eDGet;rw[h1,zA0];dsimp only;rw[h2,zA0,h3,zA0]
 show(if _ then okR (match getW kvs (.inl a)with|some w=>swT w|none=>_)else none)=_
 rw[if_pos (show(Dt.int b).dep=0 from rfl)]
 rcases h with h|⟨h,rfl⟩<;>rw[h]<;>rfl
noncomputable def skO(row:List Nat)(k:Nat):Nat:=if row.getD k 0∈row.take k then 2 else 0
section
variable{ts c:List Nat}{n:Nat}(n1:1<=n)(hn:n<=8)(hN:NetN ts (4*n))(hne:∀x,x<4*n->nt ts x≠x)(hl:c.length=n)(hw:∀x∈c,x<3)(p3:itr (stp ts c) (2*n) 0=0)(p4:∀q,1<=q->q<2*n->itr (stp ts c) q 0≠0)
include n1 hn hN hne hl hw p3 p4
theorem zIA(O:Dt):∃S:Kv,zCL [rowD (numL ts),rowD (numL c),O]=okR (.dct S)/\∀k,k<2*n->getW S (.inl (itr (stp ts c) k 0:Int))=some (.int (skO (rowO ts c n) k:Int))/\getW S (.inl (jn c (itr (stp ts c) k 0):Int))=some (.int ((skO (rowO ts c n) k:Int)+1)):=by
 have n0:0<4*n:=by lia
 have hr:=zHS hN hl (by lia) hw n0 (show 1<=2*n by lia) (by lia) p3 p4;have hnd:=zE0 hN hne hl hw n0 p3 p4 (2*n) (qAa _);have hlen:=zBX ts c 0 (2*n);have hg:=fun i (hi:i<2*n)=>zM8 (ts:=ts) (cs:=c) (e:=0) hi
 have hro:∀i,i<2*n->(rowO ts c n).getD i 0=itr (stp ts c) i 0/4:=fun i hi=>by
  unfold rowO;rw[zFL (d:=0) (by simpa using hi),qA0,qB9 hi];rfl
 have hrl:(rowO ts c n).length=2*n:=by simp[rowO]
 have dis:∀a b,a<4*n->b<4*n->(orb ts c 0 (2*n)).getD a 0=(orb ts c 0 (2*n)).getD b 0->a=b:=fun a b ha hb e=>by
  have h1:=idx_getD hnd (v:=a) (by lia);have h2:=idx_getD hnd (v:=b) (by lia);rw[<- h1,<- h2,e]
 have dE:∀i k,i<2*n->k<2*n->k≠i->itr (stp ts c) k 0≠itr (stp ts c) i 0:=fun i k hi hk h e=>by
  rw[<- (hg i hi).1,<- (hg k hk).1]at e
  have:=dis _ _ (by lia) (by lia) e
  lia
 have dJ:∀i k,i<2*n->k<2*n->k≠i->jn c (itr (stp ts c) k 0)≠jn c (itr (stp ts c) i 0):=fun i k hi hk h e=>by
  rw[<- (hg i hi).2,<- (hg k hk).2]at e
  have:=dis _ _ (by lia) (by lia) e
  lia
 have dM:∀i k,i<2*n->k<2*n->itr (stp ts c) k 0≠jn c (itr (stp ts c) i 0):=fun i k hi hk e=>by
  rw[<- (hg i hi).2,<- (hg k hk).1]at e
  have:=dis _ _ (by lia) (by lia) e
  lia
 generalize orb ts c 0 (2*n)=F at hr hlen hg
 have lF:lenD [rowD (numL F)]=some (.int ((4*n:Nat):Int)):=by unfold rowD;simp[numL,hlen];lia
 have dl:∀(l:List Int) m,(rowD l).dep<=m+1:=fun l m=>by unfold rowD;simp
 have L:nxR (forGo (.one 6) (sSeq (sSet 7 0 [4,3,6] (eDGet (eV 4) (eB divD (eB ixD (eV 3) (eV 6)) (eC (.int 4))) (eC (.int 0)))) (sSeq (sDput 5 (eB ixD (eV 3) (eV 6)) (eV 7)) (sSeq (sDput 5 (eB ixD (eV 3) (eB addD (eV 6) (eC (.int 1)))) (eB addD (eV 7) (eC (.int 1)))) (sDput 4 (eB divD (eB ixD (eV 3) (eV 6)) (eC (.int 4))) (eC (.int 2)))))) ((qA6 (2*n)).map fun i:Nat=>Dt.int ((2*i:Nat):Int)) [some (rowD (numL ts),0),some (rowD (numL c),0),some (O,0),some (rowD (numL F),9),some (.dct [],1),some (.dct [],1),none,none]) fun r=>∃(D S:Kv)(o6 o7:Option Sl),r=[some (rowD (numL ts),0),some (rowD (numL c),0),some (O,0),some (rowD (numL F),9),some (.dct D,1),some (.dct S,1),o6,o7]/\∀k,k<2*n->getW S (.inl (itr (stp ts c) k 0:Int))=some (.int (skO (rowO ts c n) k:Int))/\getW S (.inl (jn c (itr (stp ts c) k 0):Int))=some (.int ((skO (rowO ts c n) k:Int)+1)):=by
  refine zF4 (fun i:Nat=>Dt.int ((2*i:Nat):Int)) (qA6 (2*n)) (fun i r=>∃(D S:Kv)(o6 o7:Option Sl),r=[some (rowD (numL ts),0),some (rowD (numL c),0),some (O,0),some (rowD (numL F),9),some (.dct D,1),some (.dct S,1),o6,o7]/\D.length<=i/\S.length<=2*i/\(∀v:Nat,getW D (.inl (v:Int))=if v∈(rowO ts c n).take i then some (.int 2)else none)/\∀k,k<i->getW S (.inl (itr (stp ts c) k 0:Int))=some (.int (skO (rowO ts c n) k:Int))/\getW S (.inl (jn c (itr (stp ts c) k 0):Int))=some (.int ((skO (rowO ts c n) k:Int)+1))) ⟨[],[],none,none,rfl,qAc _,qAc _,fun v=>by simp[getW],fun k hk=>by lia⟩ (fun i x hx r hr=>?_) fun r hr=>?_
  ·obtain⟨D,S,o6,o7,rfl,hD,hS,gD,gS⟩:=hr;obtain⟨hi',ex⟩:=qA4.mp hx;have hi:i<2*n:=by simpa using hi'
   rw[qBc]at ex;subst ex;obtain⟨f0,f1⟩:=hg i hi;have i0:=zEL F (2*i) (by lia);have i1:=zEL F (2*i+1) (by lia);rw[f0]at i0;rw[f1]at i1;have hq:=hro i hi;have hdv:divD (.int (itr (stp ts c) i 0:Int)) (.int 4)=some (.int ((itr (stp ts c) i 0/4:Nat):Int)):=by
    rw[dvi ⟨by lia,by lia⟩]
    congr 2
   have gi:=gD (itr (stp ts c) i 0/4);have hget:(getW D (.inl ((itr (stp ts c) i 0/4:Nat):Int))=some (.int (skO (rowO ts c n) i:Int)))\/(getW D (.inl ((itr (stp ts c) i 0/4:Nat):Int))=none/\(skO (rowO ts c n) i:Int)=0):=by
    unfold skO;rw[hq]
    by_cases z:itr (stp ts c) i 0/4∈(rowO ts c n).take i
    ·rw[if_pos z]at gi ⊢;exact .inl gi
    ·rw[if_neg z]at gi ⊢;exact .inr ⟨gi,rfl⟩
   have a1:addD (.int ((2*i:Nat):Int)) (.int 1)=some (.int ((2*i+1:Nat):Int)):=adi (by lia);have l1:=zEC S (.inl (itr (stp ts c) i 0:Int)) (.int (skO (rowO ts c n) i:Int));have l2:=zEC (putW S (.inl (itr (stp ts c) i 0:Int)) (.int (skO (rowO ts c n) i:Int))) (.inl (jn c (itr (stp ts c) i 0):Int)) (.int ((skO (rowO ts c n) i:Int)+1));have l3:=zEC D (.inl ((itr (stp ts c) i 0/4:Nat):Int)) (.int 2);refine zAG (r:=[some (rowD (numL ts),0),some (rowD (numL c),0),some (O,0),some (rowD (numL F),9),some (.dct (putW D (.inl ((itr (stp ts c) i 0/4:Nat):Int)) (.int 2)),1),some (.dct (putW (putW S (.inl (itr (stp ts c) i 0:Int)) (.int (skO (rowO ts c n) i:Int))) (.inl (jn c (itr (stp ts c) i 0):Int)) (.int ((skO (rowO ts c n) i:Int)+1))),1),some (.int ((2*i:Nat):Int),0),some (.int (skO (rowO ts c n) i:Int),0)]) (sg (dgt rfl (b2 (b2 rfl rfl i0) rfl hdv) rfl hget) (qAc 0) (sw (zO9 (k:=0) rfl rfl (b2 rfl rfl i0) (by lia)) (sw (zO9 (k:=0) rfl (b2 rfl rfl (adi rfl)) (b2 rfl (b2 rfl rfl a1) i1) (by lia)) (zO9 (k:=0) rfl rfl (b2 (b2 rfl rfl i0) rfl hdv) (by lia))))) ⟨_,_,_,_,rfl,by lia,by lia,fun v=>?_,fun k hk=>?_⟩
   ·have ht:(rowO ts c n).take (i+1)=(rowO ts c n).take i++[itr (stp ts c) i 0/4]:=by
     refine zK8 ?_;rw[<- hq,qA0,qA1 (by lia)];rfl
    rw[zDB,gD v,ht]
    by_cases z:v=itr (stp ts c) i 0/4
    ·rw[if_pos (by rw[z]),if_pos (by simp[z])]
    ·rw[if_neg fun e=>z (by injection e with e;lia)]
     by_cases y:v∈(rowO ts c n).take i
     ·rw[if_pos y,if_pos (by simp[y])]
     ·rw[if_neg y,if_neg (by simp[y,z])]
   ·rw[zDB,zDB,zDB,zDB]
    by_cases z:k=i
    ·subst z
     have:=dM k k hi hi
     rw[if_neg fun e=>this (by injection e with e;lia),if_pos rfl,if_pos rfl];exact⟨rfl,rfl⟩
    ·have k2:k<2*n:=by lia
     have e1:=dM i k hi k2;have e2:=dE i k hi k2 z;have e3:=dJ i k hi k2 z;have e4:=dM k i k2 hi;rw[if_neg fun e=>e1 (by injection e with e;lia),if_neg fun e=>e2 (by injection e with e;lia),if_neg fun e=>e3 (by injection e with e;lia),if_neg fun e=>e4 (by injection e with e;lia)];exact gS k (by lia)
  ·obtain⟨D,S,o6,o7,rfl,hD,hS,gD,gS⟩:=hr;rw[qCv]at gS;exact⟨D,S,o6,o7,rfl,gS⟩
 obtain⟨r,g1,D,S,o6,o7,rfl,gS⟩:=zCK L;refine⟨S,zBG rfl (sg (c3 rfl rfl rfl hr) (dl _ 8) (sgf (d:=.dct []) rfl (by rw[Dt.dep];lia) rfl (sgf (d:=.dct []) rfl (by rw[Dt.dep];lia) rfl ?_))),gS⟩;rw[zGK,zCY];have hit:iR3 (aCons (eC (.int 0)) (aCons (eBi lenD (aCons (eV 3) aNil)) (aCons (eC (.int 2)) aNil))) (full [some (rowD (numL ts),0),some (rowD (numL c),0),some (O,0),some (rowD (numL F),9),some (.dct [],1),some (.dct [],1),none,none])=okR ((qA6 (2*n)).map fun i:Nat=>Dt.int ((2*i:Nat):Int)):=by
  unfold iR3;simp only[zAW,zBU,x_eC,zA0,bi1 (e1:=eV 3) (o:=lenD) (ρ:=full [some (rowD (numL ts),0),some (rowD (numL c),0),some (O,0),some (rowD (numL F),9),some (.dct [],1),some (.dct [],1),none,none]) (d1:=rowD (numL F)) rfl lF];rw[if_pos ⟨trivial,trivial,by lia,by lia⟩,show((((4*n:Nat):Int)+1)/2).toNat=2*n by lia];rfl
 refine qGg (congrArg (fun z=>zA4 (zA4 z _) _) hit) ?_;rw[zA0];refine qGg (congrArg (fun z=>zA4 z _) g1) ?_;rfl
end
end Mp
namespace Mp
open Mi PySem
theorem zX2{ts C ts2 C2:List Nat}{n:Nat}(hN:NetN ts (4*n))(hl:C.length=n)(hw:∀c∈C,c<3)(hN2:NetN ts2 (4*n))(hl2:C2.length=n)(hw2:∀c∈C2,c<3)
  {R R2:List (List Nat)} {hd hd2:Nat->Nat} (H:Hds ts C n R hd) (H2:Hds ts2 C2 n R2 hd2) {Q:Nat->Nat->Prop} (t1:∀x,x<4*n->∃y,y<4*n/\Q x y) (t2:∀y,y<4*n->∃x,x<4*n/\Q x y) (f1:∀x y y',Q x y->Q x y'->y=y') (f2:∀x x' y,Q x y->Q x' y->x=x')
  (rn:∀x y,x<4*n->y<4*n->Q x y->Q (nt ts x) (nt ts2 y)) (rj:∀x y,x<4*n->y<4*n->Q x y->Q (jn C x) (jn C2 y)):R.length=R2.length:=by
 have c1:∀x:Nat,∃y,x<4*n->y<4*n/\Q x y:=fun x=>by
  by_cases h:x<4*n
  ·obtain⟨y,hy⟩:=t1 x h;exact⟨y,fun _=>hy⟩
  ·exact⟨0,fun z=>absurd z h⟩
 have c2:∀y:Nat,∃x,y<4*n->x<4*n/\Q x y:=fun y=>by
  by_cases h:y<4*n
  ·obtain⟨x,hx⟩:=t2 y h;exact⟨x,fun _=>hx⟩
  ·exact⟨0,fun z=>absurd z h⟩
 obtain⟨φ,hφ⟩:=qBz c1;obtain⟨ψ,hψ⟩:=qBz c2;refine qE4 ?_ ?_
 ·refine zVA hN2 hl2 hw2 hN hl hw H2 H (φ:=ψ) (fun x hx=>?_) (fun y hy=>?_) (fun y hy=>?_) fun y hy=>(hψ y hy).1
  ·obtain⟨a,b⟩:=hφ x hx;exact⟨φ x,a,f2 _ _ _ (hψ _ a).2 b⟩
  ·obtain⟨a,b⟩:=hψ y hy;exact f2 _ _ _ (hψ _ (hN2.lt y hy)).2 (rn _ _ a hy b)
  ·obtain⟨a,b⟩:=hψ y hy;exact f2 _ _ _ (hψ _ (zBK hl2 hw2 hy).1).2 (rj _ _ a hy b)
 ·refine zVA hN hl hw hN2 hl2 hw2 H H2 (φ:=φ) (fun y hy=>?_) (fun x hx=>?_) (fun x hx=>?_) fun x hx=>(hφ x hx).1
  ·obtain⟨a,b⟩:=hψ y hy;exact⟨ψ y,a,f1 _ _ _ (hφ _ a).2 b⟩
  ·obtain⟨a,b⟩:=hφ x hx;exact f1 _ _ _ (hφ _ (hN.lt x hx)).2 (rn _ _ hx a b)
  ·obtain⟨a,b⟩:=hφ x hx;exact f1 _ _ _ (hφ _ (zBK hl hw hx).1).2 (rj _ _ hx a b)
theorem zR8:∀(a:Fin 3)(x y:Fin 4),x.val≠0->x.val≠a.val+1->y.val≠0->y.val≠a.val+1->x.val≠y.val->y.val=(x.val^^^(a.val+1)):=by decide
theorem zTR(a:Nat)(ha:a<3)(x:Nat)(hx:x<4)(y:Nat)(hy:y<4)(h:x≠0/\x≠a+1/\y≠0/\y≠a+1/\x≠y):y=(x^^^(a+1)):=zR8 ⟨a,ha⟩ ⟨x,hx⟩ ⟨y,hy⟩ h.1 h.2.1 h.2.2.1 h.2.2.2.1 h.2.2.2.2
theorem u_on{u:Nat->Nat}(hu:∀x,x<4->u x<4)(hi:∀x y,x<4->y<4->u x=u y->x=y){w:Nat}(hw:w<4):∃y,y<4/\u y=w:=by
 apply qEe
 intro h;have hn:((qA6 4).map u).Nodup:=zE2 qBh fun x hx y hy e=>hi x y (qAt.mp hx) (qAt.mp hy) e
 have:=zBP (w::(qA6 4).map u) (qA6 4) (qB1.mpr ⟨fun hm=>by
  obtain⟨y,hy,e⟩:=qAm.mp hm;exact h ⟨y,qAt.mp hy,e⟩,hn⟩) fun x hx=>by
  rcases qAk.mp hx with rfl|hx
  ·exact qAt.mpr hw
  ·obtain⟨y,hy,rfl⟩:=qAm.mp hx;exact qAt.mpr (hu y (qAt.mp hy))
 exact absurd this (by simp)
theorem zLV(a d:Nat):((a^^^d)^^^d)=a:=by rw[qHm,qF8,Nat.xor_zero]
theorem zPH:∀s,s<4->∀w,w<3->(s^^^(w+1))<4:=by decide
theorem zRM{u:Nat->Nat}(hu:∀x,x<4->u x<4)(hi:∀x y,x<4->y<4->u x=u y->x=y){v a:Nat}(hv:v<3)(ha:a<3)(h:(u 0^^^(v+1))=u (a+1)){x:Nat}(hx:x<4):(u x^^^(v+1))=u (x^^^(a+1)):=by
 obtain⟨y,hy,e⟩:=u_on hu hi (zPH (u x) (hu x hx) v hv);have hxy:x≠y:=fun z=>zUK (u x) (hu x hx) v hv (by rw[<- e,z])
 have h0:(u (a+1)^^^(v+1))=u 0:=by rw[<- h,zLV]
 rw[<- e]
 by_cases x0:x=0
 ·subst x0;rw[e,h,qG8]
 by_cases xa:x=a+1
 ·rw[e,xa,h0,qF8]
 have y0:y≠0:=fun z=>xa (hi _ _ hx (by lia) (by rw[<- h,<- z,e,zLV]))
 have ya:y≠a+1:=fun z=>x0 (hi _ _ hx (by lia) (by rw[<- h0,<- z,e,zLV]))
 rw[zTR a ha x hx y hy ⟨x0,xa,y0,ya,hxy⟩]
theorem zTX{l:List Nat}{k:Nat}(hk:k<l.length):l.idxOf (l.getD k 0)<k↔l.getD k 0∈l.take k:=by
 have hm:l.getD k 0∈l:=zEG hk
 generalize l.getD k 0=x at hm
 constructor
 ·intro h;have e:=getD_idx hm;have h2:(l.take k).getD (l.idxOf x) 0=x:=by
   rw[qA0,qCd h,<- qA0];exact e
  rw[<- h2];exact zEG (by rw[qBo];lia)
 ·intro h
  have:=qAl h
  rw[qBo]at this;have e:l.idxOf x=(l.take k).idxOf x:=by
   conv=>lhs;rw[<- qBw k l]
   rw[qCu,if_pos h]
  lia
def Qo(ts c:List Nat)(n:Nat)(x y:Nat):Prop:=∃k,k<2*n/\((x=itr (stp ts c) k 0/\y=inA (rowW ((rowO ts c n).map (97 + ·))) k)\/(x=jn c (itr (stp ts c) k 0)/\y=inA (rowW ((rowO ts c n).map (97 + ·))) k+1))
theorem zQY(row:List Nat):ords (row.map (97 + ·))=(ords row).map (97 + ·):=zQX _ row fun x _ y _ h=>by lia
section
variable{ts c:List Nat}{n:Nat}(n1:1<=n)(hn:n<=8)(hN:NetN ts (4*n))(hne:∀x,x<4*n->nt ts x≠x)(hl:c.length=n)(hw:∀x∈c,x<3)(h1:OneAt ts c n 0)(p3:itr (stp ts c) (2*n) 0=0)(p4:∀q,1<=q->q<2*n->itr (stp ts c) q 0≠0)
include n1 hn hN hne hl hw h1 p3 p4
theorem zU4:(∀i k,i<2*n->k<2*n->itr (stp ts c) k 0=itr (stp ts c) i 0->k=i)/\(∀i k,i<2*n->k<2*n->jn c (itr (stp ts c) k 0)=jn c (itr (stp ts c) i 0)->k=i)/\∀i k,i<2*n->k<2*n->itr (stp ts c) k 0≠jn c (itr (stp ts c) i 0):=by
 have n0:0<4*n:=by lia
 have hnd:=zE0 hN hne hl hw n0 p3 p4 (2*n) (qAa _);have hlen:=zBX ts c 0 (2*n);have hg:=fun i (hi:i<2*n)=>zM8 (ts:=ts) (cs:=c) (e:=0) hi
 have dis:∀a b,a<4*n->b<4*n->(orb ts c 0 (2*n)).getD a 0=(orb ts c 0 (2*n)).getD b 0->a=b:=fun a b ha hb e=>by
  have h1:=idx_getD hnd (v:=a) (by lia);have h2:=idx_getD hnd (v:=b) (by lia);rw[<- h1,<- h2,e]
 refine⟨fun i k hi hk e=>?_,fun i k hi hk e=>?_,fun i k hi hk e=>?_⟩
 ·rw[<- (hg i hi).1,<- (hg k hk).1]at e
  have:=dis _ _ (by lia) (by lia) e
  lia
 ·rw[<- (hg i hi).2,<- (hg k hk).2]at e
  have:=dis _ _ (by lia) (by lia) e
  lia
 ·rw[<- (hg i hi).2,<- (hg k hk).1]at e
  have:=dis _ _ (by lia) (by lia) e
  lia
theorem zHF{i:Nat}(hi:i<2*n):(rowO ts c n).getD i 0=itr (stp ts c) i 0/4:=by
 unfold rowO;rw[zFL (d:=0) (by simpa using hi),qA0,qB9 hi];rfl
theorem zO4{k:Nat}(hk:k<2*n):inA (rowW ((rowO ts c n).map (97 + ·))) k=4*(ords (rowO ts c n)).idxOf (itr (stp ts c) k 0/4)+skO (rowO ts c n) k:=by
 have w:=(zH5 n1 hn hN hne hl hw h1).2.1;have hrl:(rowO ts c n).length=2*n:=by simp[rowO]
 have hkr:k<(rowO ts c n).length:=by lia
 rw[zO3 w (by rw[qAg];lia),zFL (d:=0) hkr,zQY,zGB (f:=(97 + ·)) fun y _ e=>by lia,zGB (f:=(97 + ·)) fun y _ e=>by lia,zHF n1 hn hN hne hl hw h1 p3 p4 hk];have ht:=zTX hkr;rw[zHF n1 hn hN hne hl hw h1 p3 p4 hk]at ht;unfold skO;rw[zHF n1 hn hN hne hl hw h1 p3 p4 hk]
 by_cases z:itr (stp ts c) k 0/4∈(rowO ts c n).take k
 ·rw[if_pos z,if_pos (ht.mpr z)]
 ·rw[if_neg z,if_neg fun y=>z (ht.mp y)]
theorem zT4:(∀x y y',Qo ts c n x y->Qo ts c n x y'->y=y')/\∀x x' y,Qo ts c n x y->Qo ts c n x' y->x=x':=by
 obtain⟨d1,d2,d3⟩:=zU4 n1 hn hN hne hl hw h1 p3 p4;have w:=(zH5 n1 hn hN hne hl hw h1).2.1;have hr:=w.tw.len;have inj:∀i k,i<2*n->k<2*n->inA (rowW ((rowO ts c n).map (97 + ·))) k=inA (rowW ((rowO ts c n).map (97 + ·))) i->k=i:=fun i k hi hk e=>zJN (fun a ha=>w.tw.le1 ha) (by lia) (by lia) e
 have ev:∀k,inA (rowW ((rowO ts c n).map (97 + ·))) k%2=0:=fun k=>by unfold inA;lia
 constructor
 ·rintro x y y' ⟨k,hk,h⟩ ⟨i,hi,g⟩
  rcases h with⟨a,b⟩|⟨a,b⟩<;>rcases g with⟨a',b'⟩|⟨a',b'⟩
  ·rw[b,b',d1 i k hi hk (by rw[<- a,<- a'])]
  ·exact absurd (a.symm.trans a') (d3 i k hi hk)
  ·exact absurd (a'.symm.trans a) (d3 k i hk hi)
  ·rw[b,b',d2 i k hi hk (by rw[<- a,<- a'])]
 ·rintro x x' y ⟨k,hk,h⟩ ⟨i,hi,g⟩
  have e1:=ev k;have e2:=ev i
  rcases h with⟨a,b⟩|⟨a,b⟩<;>rcases g with⟨a',b'⟩|⟨a',b'⟩
  ·rw[a,a',inj i k hi hk (by rw[<- b,<- b'])]
  ·lia
  ·lia
  ·rw[a,a',inj i k hi hk (by lia)]
theorem zb1:(∀x,x<4*n->∃y,y<4*n/\Qo ts c n x y)/\∀y,y<4*n->∃x,x<4*n/\Qo ts c n x y:=by
 have w:=(zH5 n1 hn hN hne hl hw h1).2.1;have hr:=w.tw.len;have n0:0<4*n:=by lia
 have lt:=zBB (zBF hN hl hw).1 n0;constructor
 ·intro x hx;obtain⟨k,hk,h⟩:=zHH hN hne hl hw h1 n0 (show 1<=2*n by lia) p3 p4 hx
  have:=zDQ w.tw (k:=k) (by lia)
  rcases h with h|h
  ·exact⟨_,by lia,k,hk,.inl ⟨h,rfl⟩⟩
  ·exact⟨_,by lia,k,hk,.inr ⟨h,rfl⟩⟩
 ·intro y hy;obtain⟨k,hk,h⟩:=zLH w.tw hy
  rcases h with h|h
  ·exact⟨_,(zBK hl hw (lt k)).1,k,by lia,.inr ⟨rfl,h⟩⟩
  ·have hm:=qBt (k+1) (show 0<(rowW ((rowO ts c n).map (97 + ·))).length by lia);exact⟨_,lt _,(k+1)%(rowW ((rowO ts c n).map (97 + ·))).length,by lia,.inl ⟨rfl,h⟩⟩
theorem q_nt{x y:Nat}(hq:Qo ts c n x y):Qo ts c n (nt ts x) (nt (tsW n (rowW ((rowO ts c n).map (97 + ·)))) y):=by
 have w:=(zH5 n1 hn hN hne hl hw h1).2.1;have hr:=w.tw.len;have n0:0<4*n:=by lia
 have lt:=zBB (zBF hN hl hw).1 n0;have step:∀k,k<2*n->nt ts (jn c (itr (stp ts c) k 0))=itr (stp ts c) ((k+1)%(2*n)) 0:=fun k hk=>by
  by_cases z:k+1=2*n
  ·rw[z,qF6];show itr (stp ts c) (k+1) 0=0;rw[z];exact p3
  ·rw[qAs (by lia)];rfl
 obtain⟨k,hk,h⟩:=hq
 rcases h with⟨rfl,rfl⟩|⟨rfl,rfl⟩
 ·obtain⟨j,hj,ej⟩:∃j,j<2*n/\(j+1)%(2*n)=k:=by
   by_cases z:k=0
   ·exact⟨2*n-1,by lia,by rw[show 2*n-1+1=2*n by lia,qF6,z]⟩
   ·exact⟨k-1,by lia,by rw[show k-1+1=k by lia,qAs hk]⟩
  have s1:=step j hj;have s2:=(zNT w.tw (k:=j) (by lia)).2;rw[hr,ej]at s2;rw[ej]at s1;rw[s2,<- s1,hN.inv _ (zBK hl hw (lt j)).1];exact⟨j,hj,.inr ⟨rfl,rfl⟩⟩
 ·have s2:=(zNT w.tw (k:=k) (by lia)).1;rw[hr]at s2;rw[step k hk,s2];exact⟨_,qBt _ (by lia),.inl ⟨rfl,rfl⟩⟩
theorem zQI{q:Nat}(hq:q<n):∃u:Nat->Nat,(∀x,x<4->u x<4)/\(∀x y,x<4->y<4->u x=u y->x=y)/\∀x,x<4->Qo ts c n (4*q+u x) (4*(ords (rowO ts c n)).idxOf q+x):=by
 have n0:0<4*n:=by lia
 have lt:=zBB (zBF hN hl hw).1 n0;obtain⟨f1,f2⟩:=zT4 n1 hn hN hne hl hw h1 p3 p4;obtain⟨s,t,st,tp,xs,xt,xo⟩:=zKE hN hne hl hw h1 n0 (show 1<=2*n by lia) p3 p4 hq;have hrl:(rowO ts c n).length=2*n:=by simp[rowO]
 have ms:¬q∈(rowO ts c n).take s:=fun hm=>by
  obtain⟨i,hi,e⟩:=zGY (d:=0) hm;rw[qBo]at hi;rw[qA0,qCd (by lia),<- qA0,zHF n1 hn hN hne hl hw h1 p3 p4 (by lia)]at e
  have:=xo i (by lia) e
  lia
 have mt:q∈(rowO ts c n).take t:=by
  have e:((rowO ts c n).take t).getD s 0=q:=by
   rw[qA0,qCd st,<- qA0,zHF n1 hn hN hne hl hw h1 p3 p4 (by lia),xs]
  rw[<- e];exact zEG (by rw[qBo];lia)
 have is:=zO4 n1 hn hN hne hl hw h1 p3 p4 (show s<2*n by lia);have it:=zO4 n1 hn hN hne hl hw h1 p3 p4 tp;unfold skO at is it;rw[zHF n1 hn hN hne hl hw h1 p3 p4 (by lia),xs,if_neg ms]at is;rw[zHF n1 hn hN hne hl hw h1 p3 p4 tp,xt,if_pos mt]at it;have js:jn c (itr (stp ts c) s 0)/4=q:=by rw[zO0 hl hw (lt s),xs]
 have jt:jn c (itr (stp ts c) t 0)/4=q:=by rw[zO0 hl hw (lt t),xt]
 have rel:∀x,x<4->Qo ts c n (4*q+[itr (stp ts c) s 0%4,jn c (itr (stp ts c) s 0)%4,itr (stp ts c) t 0%4,jn c (itr (stp ts c) t 0)%4].getD x 0) (4*(ords (rowO ts c n)).idxOf q+x):=fun x hx=>by
  have cx:x=0\/x=1\/x=2\/x=3:=by lia
  rcases cx with rfl|rfl|rfl|rfl
  ·exact⟨s,by lia,.inl ⟨by show 4*q+itr (stp ts c) s 0%4=_;lia,by lia⟩⟩
  ·exact⟨s,by lia,.inr ⟨by show 4*q+jn c (itr (stp ts c) s 0)%4=_;lia,by lia⟩⟩
  ·exact⟨t,by lia,.inl ⟨by show 4*q+itr (stp ts c) t 0%4=_;lia,by lia⟩⟩
  ·exact⟨t,by lia,.inr ⟨by show 4*q+jn c (itr (stp ts c) t 0)%4=_;lia,by lia⟩⟩
 refine⟨fun x=>[itr (stp ts c) s 0%4,jn c (itr (stp ts c) s 0)%4,itr (stp ts c) t 0%4,jn c (itr (stp ts c) t 0)%4].getD x 0,fun x hx=>?_,fun x y hx hy e=>?_,rel⟩
 ·have cx:x=0\/x=1\/x=2\/x=3:=by lia
  rcases cx with rfl|rfl|rfl|rfl<;>exact qBt _ (by lia)
 ·have a:=rel x hx;have b:=rel y hy;rw[show[itr (stp ts c) s 0%4,jn c (itr (stp ts c) s 0)%4,itr (stp ts c) t 0%4,jn c (itr (stp ts c) t 0)%4].getD x 0=[itr (stp ts c) s 0%4,jn c (itr (stp ts c) s 0)%4,itr (stp ts c) t 0%4,jn c (itr (stp ts c) t 0)%4].getD y 0 from e]at a
  have:=f1 _ _ _ a b
  lia
theorem zYX{x y:Nat}(hq:Qo ts c n x y):y/4=(ords (rowO ts c n)).idxOf (x/4):=by
 have n0:0<4*n:=by lia
 have lt:=zBB (zBF hN hl hw).1 n0;obtain⟨k,hk,h⟩:=hq;have ia:=zO4 n1 hn hN hne hl hw h1 p3 p4 hk;have sk:skO (rowO ts c n) k=0\/skO (rowO ts c n) k=2:=by unfold skO;split<;>simp
 rcases h with⟨rfl,rfl⟩|⟨rfl,rfl⟩
 ·lia
 ·rw[zO0 hl hw (lt k)]
  lia
end
end Mp
namespace Mp
open Mi PySem
theorem cn1{m:FM}{e1:EM}{ρ:Rh}{d1 d:Dt}(h1:e1 ρ=okR d1)(h:m [d1]=okR d):eCallN m (aCons e1 aNil) ρ=okR d:=by
 unfold eCallN;simp only[zAW,zBU,h1,zA0,h];rfl
theorem cn3b{m:FM}{e1 e2 e3:EM}{ρ:Rh}{d1 d2 d3 d:Dt}(h1:e1 ρ=okR d1)(h2:e2 ρ=okR d2)(h3:e3 ρ=okR d3)(h:m [d1,d2,d3]=okR d):eCallN m (aCons e1 (aCons e2 (aCons e3 aNil))) ρ=okR d:=by
 unfold eCallN;simp only[zAW,zBU,h1,h2,h3,zA0,h];rfl
theorem zVR{j v:Nat}{b:SM}{X:Ro->Prop}(Pv:Nat->Ro->Prop)(hs:∀k,k<v->∀r,Pv k r->nxR (b (r.set j (some (.int (k:Nat),0)))) (Pv (k+1)))(hb:∀r,Pv v r->∃r',b (r.set j (some (.int (v:Nat),0)))=okR (.bk r')/\X r'):∀(l i:Nat),i<=v->v<i+l->∀r,Pv i r->nxR (forGo (.one j) b ((qFl i l).map fun q:Nat=>Dt.int (q:Int)) r) X
 |0,i,h1,h2,r,_=>by lia
 |l+1,i,h1,h2,r,hp=>by
  rw[qGf,qAn,forGo];show nxR (zA4 (b (r.set j (some (.int (i:Nat),0)))) _) X
  by_cases z:i=v
  ·subst z;obtain⟨r',e,hx⟩:=hb r hp;rw[e,zA0];exact hx
  ·obtain⟨r',e,hx⟩:=zCK (hs i (by lia) r hp);rw[e,zA0];exact zVR Pv hs hb l (i+1) (by lia) (by lia) r' hx
theorem zHK{ts C:List Nat}{n:Nat}(n1:1<=n)(hn:n<=8)(hN:NetN ts (4*n))(hne:∀x,x<4*n->nt ts x≠x)(hl:C.length=n)(hw:∀c∈C,c<3):∃(R:List (List Nat))(hd:Nat->Nat),Hds ts C n R hd/\zBQ [rowD (numL ts),rowD (numL C)]=okR (.int (R.length:Int))/\(∃RR,zAZ [rowD (numL ts),rowD (numL C)]=okR (rowsD RR)/\RR.length=R.length):=by
 obtain⟨f,g,hf,hfl⟩:=zQZ hN hl hw;obtain⟨hd,H⟩:=zTZ hN hl hw hf;have hro:=zEY hN (by lia) hfl fun e he=>by
  obtain⟨p0,p1,p2,p3,p4⟩:=hf e he;rw[p0];exact zDG hN hl (by lia) hw he p1 p2 p3 p4
 obtain⟨RR,hR⟩:=rnds n1 (by lia) hN hne hl hw;have e:RR.length=(rdS f (4*n)).1.length:=by
  have h:=hR.prog;rw[hro,zWN]at h;have h2:(RR.map fun l=>rowD (numL l))=(rdS f (4*n)).1.map fun l=>rowD (numL l):=(Dt.lst.inj h).symm
  have:=congrArg qEi h2
  simpa using this
 have hm:=zL0 hR hn;rw[e]at hm;exact⟨_,hd,H,hm,RR,hR.law,e⟩
section
variable{ts c:List Nat}{n:Nat}(n1:1<=n)(hn:n<=8)(hN:NetN ts (4*n))(hne:∀x,x<4*n->nt ts x≠x)(hl:c.length=n)(hw:∀x∈c,x<3)(h1:OneAt ts c n 0)(p3:itr (stp ts c) (2*n) 0=0)(p4:∀q,1<=q->q<2*n->itr (stp ts c) q 0≠0)
include n1 hn hN hne hl hw h1 p3 p4
theorem q_jn{D A:List Nat}(lD:D.length=n)(wD:∀x∈D,x<3)(lA:A.length=n)(wA:∀x∈A,x<3)(cond:∀k,k<n->∃x0 x1,Qo ts c n x0 (4*k)/\Qo ts c n x1 (4*k+(A.getD k 0+1))/\jn D x0=x1){x y:Nat}(hx:x<4*n)(hy:y<4*n)(hq:Qo ts c n x y):Qo ts c n (jn D x) (jn A y):=by
 obtain⟨f1,f2⟩:=zT4 n1 hn hN hne hl hw h1 p3 p4;have hdv:=zYX n1 hn hN hne hl hw h1 p3 p4 hq;obtain⟨u,u1,u2,u3⟩:=zQI n1 hn hN hne hl hw h1 p3 p4 (show x/4<n by lia);rw[<- hdv]at u3;have hA:A.getD (y/4) 0<3:=zC8 wA (by lia);have hD:D.getD (x/4) 0<3:=zC8 wD (by lia);obtain⟨x0,x1,c0,c1,cj⟩:=cond (y/4) (by lia);have e0:x0=4*(x/4)+u 0:=f2 _ _ _ c0 (u3 0 (by lia));have e1:x1=4*(x/4)+u (A.getD (y/4) 0+1):=f2 _ _ _ c1 (u3 _ (by lia));rw[e0,e1,jn4 D (u1 0 (by lia))]at cj;have h4:=zRM u1 u2 hD hA (by lia) (show y%4<4 by lia);have u4:=u3 (y%4) (by lia);rw[show 4*(y/4)+y%4=y by lia]at u4;have ex:x=4*(x/4)+u (y%4):=f2 _ _ _ hq u4;have j1:jn D x=4*(x/4)+u (y%4^^^(A.getD (y/4) 0+1)):=by
  conv=>lhs;rw[ex]
  rw[jn4 D (u1 _ (by lia)),h4]
 have j2:jn A y=4*(y/4)+(y%4^^^(A.getD (y/4) 0+1)):=by
  conv=>lhs;rw[show y=4*(y/4)+y%4 by lia]
  rw[jn4 A (by lia)]
 rw[j1,j2];exact u3 _ (zPH _ (by lia) _ hA)
theorem zSY{D A:List Nat}(lD:D.length=n)(wD:∀x∈D,x<3)(lA:A.length=n)(wA:∀x∈A,x<3)(cond:∀k,k<n->∃x0 x1,Qo ts c n x0 (4*k)/\Qo ts c n x1 (4*k+(A.getD k 0+1))/\jn D x0=x1)
  {R R2:List (List Nat)} {hd hd2:Nat->Nat} (H:Hds ts D n R hd) (H2:Hds (tsW n (rowW ((rowO ts c n).map (97 + ·)))) A n R2 hd2):R.length=R2.length:=by
 have w:=(zH5 n1 hn hN hne hl hw h1).2.1;obtain⟨f1,f2⟩:=zT4 n1 hn hN hne hl hw h1 p3 p4;obtain⟨t1,t2⟩:=zb1 n1 hn hN hne hl hw h1 p3 p4;exact zX2 hN lD wD (zPS w.tw).1 lA wA H H2 t1 t2 f1 f2 (fun x y _ _ hq=>q_nt n1 hn hN hne hl hw h1 p3 p4 hq) fun x y hx hy hq=>q_jn n1 hn hN hne hl hw h1 p3 p4 lD wD lA wA cond hx hy hq
end
end Mp
namespace Mp
open Mi PySem
theorem zXY:∀s,s<4->∀t,t<4->s≠t->(s^^^t)-1<3/\(s^^^((s^^^t)-1+1))=t:=by decide
theorem zWZ{D D':List Nat}{e:Nat}(h:D'.getD (e/4) 0=D.getD (e/4) 0):jn D' e=jn D e:=by unfold jn;rw[h]
section
variable{ts c:List Nat}{n:Nat}(n1:1<=n)(hn:n<=8)(hN:NetN ts (4*n))(hne:∀x,x<4*n->nt ts x≠x)(hl:c.length=n)(hw:∀x∈c,x<3)(h1:OneAt ts c n 0)(p3:itr (stp ts c) (2*n) 0=0)(p4:∀q,1<=q->q<2*n->itr (stp ts c) q 0≠0)
include n1 hn hN hne hl hw h1 p3 p4
theorem zSX{S:Kv}(gS:∀k,k<2*n->getW S (.inl (itr (stp ts c) k 0:Int))=some (.int (skO (rowO ts c n) k:Int))/\getW S (.inl (jn c (itr (stp ts c) k 0):Int))=some (.int ((skO (rowO ts c n) k:Int)+1))){x y:Nat}(hq:Qo ts c n x y):getW S (.inl (x:Int))=some (.int ((y%4:Nat):Int)):=by
 obtain⟨k,hk,h⟩:=hq;have ia:=zO4 n1 hn hN hne hl hw h1 p3 p4 hk;have sk:skO (rowO ts c n) k=0\/skO (rowO ts c n) k=2:=by unfold skO;split<;>simp
 obtain⟨g0,g1⟩:=gS k hk
 rcases h with⟨rfl,rfl⟩|⟨rfl,rfl⟩
 ·rw[g0]
  congr 2
  lia
 ·rw[g1]
  congr 2
  lia
theorem zOR(ns:List Int):zC1 [.scr ns,rowD (numL ts),rowD (numL c),.str ⟨((rowO ts c n).map (97 + ·)).toArray⟩]=okR (.bl true):=by
 have w:=(zH5 n1 hn hN hne hl hw h1).2.1;have tw:=zK5 n1 hN hne hl hw h1;obtain⟨f1,f2⟩:=zT4 n1 hn hN hne hl hw h1 p3 p4;have hlen:=w.len;have ho:=zOX ((rowO ts c n).map (97 + ·)) (by lia);have hol:=w.ol;have hor:(ords (rowO ts c n)).length=n:=by rw[zQY,qAg]at hol;exact hol
 obtain⟨S,hS,gS⟩:=zIA n1 hn hN hne hl hw p3 p4 (.str ⟨(ords ((rowO ts c n).map (97 + ·))).toArray⟩);have sv:=fun x y hq=>zSX n1 hn hN hne hl hw h1 p3 p4 gS (x:=x) (y:=y) hq
 have lO:lenD [.str ⟨(ords ((rowO ts c n).map (97 + ·))).toArray⟩]=some (.int (n:Int)):=by rw[zFH (by lia),hol]
 obtain⟨cv,hcv⟩:∃cv:Nat->Int,∀k:Nat,k<8->zAL [.scr ns,.int (40+(k:Int))]=okR (.int (cv k)):=by
  have:∀k:Nat,∃v:Int,k<8->zAL [.scr ns,.int (40+(k:Int))]=okR (.int v):=fun k=>by
   by_cases z:k<8
   ·obtain⟨v,hv⟩:=zMT ns (40+(k:Int)) (by lia) (by lia);exact⟨v,fun _=>hv⟩
   ·exact⟨0,fun y=>absurd y z⟩
  exact qBz this
 obtain⟨A,hA⟩:∃A:List Nat,A=(qA6 n).map fun k=>(cv k%3).toNat:=⟨_,rfl⟩
 have lA:A.length=n:=by rw[hA];simp
 have wA:∀x∈A,x<3:=fun x hx=>by
  rw[hA]at hx;obtain⟨k,_,rfl⟩:=qAm.mp hx
  lia
 have hasked:∀o8 o9 o10 o11 o12:Option Dt,eComp (iR1 (aCons (eBi lenD (aCons (eV 4) aNil)) aNil)) 1 (.one 13) Mi.tYes (eB modD (eCallN zAL (aCons (eV 0) (aCons (eB addD (eC (.int 40)) (eV 13)) aNil))) (eC (.int 3))) [some (.scr ns),some (rowD (numL ts)),some (rowD (numL c)),some (.str ⟨((rowO ts c n).map (97 + ·)).toArray⟩),some (.str ⟨(ords ((rowO ts c n).map (97 + ·))).toArray⟩),some (.dct S),none,none,o8,o9,o10,o11,o12]=okR (rowD (numL A)):=fun o8 o9 o10 o11 o12=>by
  rw[zJW (i:=13) (n:=n) (fun k:Nat=>((cv k%3).toNat:Int)) rfl (by lia) (zGO (al0 (bi1 rfl lO)) (by lia)) fun k hk=>b2 (cn2 rfl (b2 rfl rfl (adi rfl)) (hcv k (by lia))) rfl (mdi (by decide) (by lia)),hA];unfold numL;rw[qAu];rfl
 have dl:∀(l:List Int) m,(rowD l).dep<=m+1:=fun l m=>by unfold rowD;simp
 generalize hcs:(rowO ts c n).map (97 + ·)=cs at w hlen ho hol hS lO hasked ⊢
 generalize hST:Dt.str ⟨cs.toArray⟩=W at ho hasked ⊢
 generalize hOT:Dt.str ⟨(ords cs).toArray⟩=O at ho hS lO hasked ⊢
 refine zBG rfl (sg (cn1 rfl ho) (by rw[<- hOT];exact qAc 0) (sgf (d:=.dct S) (cn3b rfl rfl rfl hS) (by rw[Dt.dep];lia) (cn3b rfl rfl rfl hS) (sg (hasked none none none none none) (dl _ 0) (sg (bi1 rfl rfl) (dl _ 0) (zAV fun bb hb=>?_)))));rw[zCY,zGO (n:=n) (al0 (bi1 rfl lO)) (by lia),zA0];refine zKU (fun k r=>∃(D:List Nat)(o8 o9 o10 o11 o12:Option Sl),r=[some (.scr ns,0),some (rowD (numL ts),0),some (rowD (numL c),0),some (W,0),some (O,0),some (.dct S,1),some (rowD (numL A),1),some (rowD (numL D),1),o8,o9,o10,o11,o12]/\D.length=n/\(∀x∈D,x<3)/\∀k',k'<k->∃x0 x1,Qo ts c n x0 (4*k')/\Qo ts c n x1 (4*k'+(A.getD k' 0+1))/\jn D x0=x1) ⟨c,none,none,none,none,none,rfl,hl,hw,fun k' z=>by lia⟩ (fun k hk r hr=>?_) fun r hr=>?_
 ·obtain⟨D,o8,o9,o10,o11,o12,rfl,lD,wD,cond⟩:=hr;obtain⟨q,hq⟩:∃q,q=(ords (rowO ts c n)).getD k 0:=⟨_,rfl⟩
  have hqm:q∈rowO ts c n:=by rw[hq];exact(ords_mem _ _).mp (zEG (by lia))
  have hqn:q<n:=(tw.mem q).mp hqm;have hqi:(ords (rowO ts c n)).idxOf q=k:=by rw[hq];exact idx_getD (ords_nodup _) (by lia)
  obtain⟨u,u1,u2,u3⟩:=zQI n1 hn hN hne hl hw h1 p3 p4 hqn;rw[hqi]at u3;have hA3:A.getD k 0<3:=zC8 wA (by lia);have hfind:eMt findD (eC (.str "abcdefgh")) (aCons (eB ixD (eV 4) (eV 8)) aNil) (full [some (.scr ns,0),some (rowD (numL ts),0),some (rowD (numL c),0),some (W,0),some (O,0),some (.dct S,1),some (rowD (numL A),1),some (rowD (numL D),1),some (.int (k:Nat),0),o9,o10,o11,o12])=okR (.int (q:Int)):=by
   have hx:ixD O (.int (k:Int))=some (sgn (97+q)):=by
    rw[<- hOT,zIL (by lia) (by lia)];rw[<- hcs,zQY,zFL (d:=0) (by lia),<- hq]
   have hf:findD (.str "abcdefgh") [sgn (97+q)]=some (.int (q:Int)):=by
    rw[show(Str.ofString "abcdefgh")=_ from zSC,zFM (qAm.mpr ⟨q,qAt.mpr (by lia),rfl⟩),zGB (f:=fun i=>97+i) fun y _ e=>by lia]
    have:(qA6 8).idxOf ((qA6 8).getD q 0)=q:=idx_getD qBh (by simp;lia)
    rw[qA0,qB9 (by lia)]at this;rw[show(qA6 8).idxOf q=q from this]
   exact mt1 rfl rfl (b2 rfl rfl hx) hf
  refine zB8 fun bb hb=>zAG (ss hfind (qAc 0)) ?_
  subst hb;refine zB8 fun bb hb=>zAG (r:=[some (.scr ns,0),some (rowD (numL ts),0),some (rowD (numL c),0),some (W,0),some (O,0),some (.dct S,1),some (rowD (numL A),1),some (rowD (numL D),1),some (.int (k:Nat),0),some (.int (q:Int),0),some (.dct [],1),o11,o12]) (s2s (d:=.dct []) rfl rfl rfl) ?_
  subst hb;refine zB8 fun bb hb=>?_
  have m4:mulD (.int 4) (.int (q:Int))=some (.int (4*(q:Int))):=zKY (by decide) (by decide);have hit:iR2 (aCons (eB mulD (eC (.int 4)) (eV 9)) (aCons (eB addD (eB mulD (eC (.int 4)) (eV 9)) (eC (.int 4))) aNil)) (full [some (.scr ns,0),some (rowD (numL ts),0),some (rowD (numL c),0),some (W,0),some (O,0),some (.dct S,1),some (rowD (numL A),1),some (rowD (numL D),1),some (.int (k:Nat),0),some (.int (q:Int),0),some (.dct [],1),o11,o12])=okR ((qA6 4).map fun i:Nat=>Dt.int ((4*q+i:Nat):Int)):=by
   unfold iR2;simp only[zAW,zBU,x_eC,zA0,b2 (e1:=eC (.int 4)) (e2:=eV 9) (o:=mulD) (ρ:=full [some (.scr ns,0),some (rowD (numL ts),0),some (rowD (numL c),0),some (W,0),some (O,0),some (.dct S,1),some (rowD (numL A),1),some (rowD (numL D),1),some (.int (k:Nat),0),some (.int (q:Int),0),some (.dct [],1),o11,o12]) rfl rfl m4,x_eB,x_eC,zA8,zW0];rw[if_pos ⟨by lia,by lia,by lia,by lia⟩,show(4*(q:Int)+4-4*(q:Int)).toNat=4 by lia];unfold nums
   congr 1
  rw[zCY,hit,zA0];refine zF4 (fun i:Nat=>Dt.int ((4*q+i:Nat):Int)) (qA6 4) (fun j r=>∃(T:Kv)(o11:Option Sl),r=[some (.scr ns,0),some (rowD (numL ts),0),some (rowD (numL c),0),some (W,0),some (O,0),some (.dct S,1),some (rowD (numL A),1),some (rowD (numL D),1),some (.int (k:Nat),0),some (.int (q:Int),0),some (.dct T,1),o11,o12]/\T.length<=j/\∀x,x<4->u x<j->getW T (.inl (x:Int))=some (.int ((4*q+u x:Nat):Int))) ⟨[],o11,rfl,qAc _,fun x _ z=>by lia⟩ (fun j x hx r hr=>?_) fun r hr=>?_
  ·obtain⟨T,o11,rfl,lT,gT⟩:=hr;obtain⟨hj',ex⟩:=qA4.mp hx;have hj:j<4:=by simpa using hj'
   rw[qBc]at ex;subst ex;obtain⟨y,hy,e⟩:=u_on u1 u2 hj;have s1:=sv _ _ (u3 y hy);rw[e,show(4*k+y)%4=y by lia]at s1;have l1:=zEC T (.inl (y:Int)) (.int ((4*q+j:Nat):Int));refine zAG (zO9 (k:=0) rfl rfl (dix rfl rfl s1) (by lia)) ⟨_,_,rfl,by lia,fun x hx4 hxj=>?_⟩;rw[zDB]
   by_cases z:x=y
   ·rw[z,if_pos rfl,e]
   ·rw[if_neg fun h=>z (by injection h with h;lia)]
    have:u x≠j:=fun h=>z (u2 _ _ hx4 hy (by rw[h,e]))
    exact gT x hx4 (by lia)
  ·obtain⟨T,o11,rfl,lT,gT⟩:=hr;rw[qCv]at gT;subst hb;have g0:=gT 0 (by lia) (u1 0 (by lia));have ga:=gT (A.getD k 0+1) (by lia) (u1 _ (by lia));have une:u 0≠u (A.getD k 0+1):=fun z=>by have:=u2 _ _ (by lia) (by lia) z;lia
   obtain⟨v3,ve⟩:=zXY (u 0) (u1 0 (by lia)) (u (A.getD k 0+1)) (u1 _ (by lia)) une
   generalize(u 0^^^u (A.getD k 0+1))-1=v at v3 ve
   have hu0:=u1 0 (by lia);have hl3:∀ρ:Rh,eLst (aCons (eC (.int 1)) (aCons (eC (.int 2)) (aCons (eC (.int 3)) aNil))) ρ=okR (rowD (numL [1,2,3])):=fun ρ=>by simp[rowD,numL]
   have ix3:ixD (rowD (numL [1,2,3])) (.int (A.getD k 0:Nat))=some (.int ((A.getD k 0+1:Nat):Int)):=by
    rw[zEL [1,2,3] (A.getD k 0) (by simpa using hA3)]
    have:A.getD k 0=0\/A.getD k 0=1\/A.getD k 0=2:=by lia
    rcases this with h|h|h<;>rw[h]<;>rfl
   have iA:=zEL A k (by lia);have test:∀(D':List Nat)(i:Nat)(o12:Option Sl),D'.length=n->(∀x∈D',x<3)->D'.getD q 0=i->i<3->tB (eB eqD (eCallN zBS (aCons (eV 7) (aCons (eDIx (eV 10) (eC (.int 0))) aNil))) (eDIx (eV 10) (eB ixD (eLst (aCons (eC (.int 1)) (aCons (eC (.int 2)) (aCons (eC (.int 3)) aNil)))) (eB ixD (eV 6) (eV 8))))) (full [some (.scr ns,0),some (rowD (numL ts),0),some (rowD (numL c),0),some (W,0),some (O,0),some (.dct S,1),some (rowD (numL A),1),some (rowD (numL D'),1),some (.int (k:Nat),0),some (.int (q:Int),0),some (.dct T,1),o11,o12])=okR (decide (i=v)):=fun D' i o12 a1 a2 a3 i3=>by
    have hj:=zGN a1 (by lia) a2 (show 4*q+u 0<4*n by lia);refine eqi (cn2 rfl (dix rfl rfl g0) hj) (dix rfl (b2 (hl3 _) (b2 rfl rfl iA) ix3) ga) ?_;rw[jn4 D' hu0,a3]
    by_cases z:i=v
    ·rw[decide_eq_true z,z,ve,decide_eq_true rfl]
    ·rw[decide_eq_false z,decide_eq_false fun h=>z ?_];have h2:(u 0^^^(i+1))=(u 0^^^(v+1)):=by lia
     have h3:=congrArg (u 0^^^·) h2;simp only[<- qHm,qF8,qG8]at h3
     lia
   rw[zCY,zGO (n:=3) (al0 rfl) (by lia),zA0,zGW,qFg];have upd:∀(D':List Nat)(i:Nat),(numL D').set q (i:Int)=numL (D'.set q i):=fun D' i=>by unfold numL;rw[qE9]
   refine zVR (v:=v) (fun i r=>∃(D':List Nat)(o12:Option Sl),r=[some (.scr ns,0),some (rowD (numL ts),0),some (rowD (numL c),0),some (W,0),some (O,0),some (.dct S,1),some (rowD (numL A),1),some (rowD (numL D'),1),some (.int (k:Nat),0),some (.int (q:Int),0),some (.dct T,1),o11,o12]/\D'.length=n/\(∀x∈D',x<3)/\∀j,j≠q->D'.getD j 0=D.getD j 0) (fun i hi r hr=>?_) (fun r hr=>?_) 3 0 (by lia) (by lia) _ ⟨D,o12,rfl,lD,wD,fun _ _=>rfl⟩
   ·obtain⟨D',o12,rfl,a1,a2,a3⟩:=hr;have it:=zFJ (r:=[some (.scr ns,0),some (rowD (numL ts),0),some (rowD (numL c),0),some (W,0),some (O,0),some (.dct S,1),some (rowD (numL A),1),some (rowD (numL D'),1),some (.int (k:Nat),0),some (.int (q:Int),0),some (.dct T,1),o11,some (.int (i:Nat),0)]) (i:=7) (m:=0) (l:=0) (a:=q) (xs:=numL D') (v:=(i:Int)) (e1:=eV 9) (e2:=eV 12) rfl rfl rfl (by simp[numL,a1];lia);rw[upd]at it;refine zAG (sw it (sf (by rw[<- decide_eq_false (show ¬i=v by lia)];exact test (D'.set q i) i _ (by rw[qC3,a1]) (zDU a2 (by lia)) (by rw[zH0 (by lia),if_pos rfl]) (by lia)))) ⟨D'.set q i,_,rfl,by rw[qC3,a1],zDU a2 (by lia),fun j hj=>by rw[zH0 (by lia),if_neg (fun z=>hj z.symm)];exact a3 j hj⟩
   ·obtain⟨D',o12,rfl,a1,a2,a3⟩:=hr;have it:=zFJ (r:=[some (.scr ns,0),some (rowD (numL ts),0),some (rowD (numL c),0),some (W,0),some (O,0),some (.dct S,1),some (rowD (numL A),1),some (rowD (numL D'),1),some (.int (k:Nat),0),some (.int (q:Int),0),some (.dct T,1),o11,some (.int (v:Nat),0)]) (i:=7) (m:=0) (l:=0) (a:=q) (xs:=numL D') (v:=(v:Int)) (e1:=eV 9) (e2:=eV 12) rfl rfl rfl (by simp[numL,a1];lia);rw[upd]at it;have lS:(D'.set q v).length=n:=by rw[qC3,a1]
    have gq:(D'.set q v).getD q 0=v:=by rw[zH0 (by lia),if_pos rfl]
    refine⟨_,sw it (sk (by rw[<- decide_eq_true (show v=v from rfl)];exact test (D'.set q v) v _ lS (zDU a2 v3) gq v3) rfl),D'.set q v,_,_,_,_,_,rfl,lS,zDU a2 v3,fun k' hk'=>?_⟩
    by_cases z:k'=k
    ·subst z;refine⟨_,_,u3 0 (by lia),u3 (A.getD k' 0+1) (by lia),?_⟩;rw[jn4 _ hu0,gq,ve]
    ·obtain⟨x0,x1,c0,c1,cj⟩:=cond k' (by lia);refine⟨x0,x1,c0,c1,?_⟩;have hx:=zYX n1 hn hN hne hl hw h1 p3 p4 c0;have hne2:x0/4≠q:=fun y=>by rw[y,hqi]at hx;lia
     rw[<- cj];refine zWZ ?_;rw[zH0 (by lia),if_neg (fun y=>hne2 y.symm),a3 _ hne2]
 ·obtain⟨D,o8,o9,o10,o11,o12,rfl,lD,wD,cond⟩:=hr;subst hb;obtain⟨R,hd,H,_,RR,hlaw,eR⟩:=zHK n1 hn hN hne lD wD;have hw2:Wd n cs:=w;obtain⟨hN2,hne2⟩:=zPS hw2.tw;obtain⟨R2,hd2,H2,hmany,_⟩:=zHK n1 hn hN2 hne2 lA wA;have hnet:=zZH hw2 n1 (by lia) lA (zUU hw2) hn;rw[hST]at hnet;have hs:=zSY n1 hn hN hne hl hw h1 p3 p4 lD wD lA wA cond H (hd2:=hd2) (R2:=R2) (by rw[hcs];exact H2);have lR:lenD [rowsD RR]=some (.int (R2.length:Int)):=by
   unfold rowsD;simp[eR,hs]
  refine sr (b2 (cn2 (c1 rfl hnet) rfl hmany) (bi1 (cn2 rfl rfl hlaw) lR) ?_) ⟨qAc _,qAc _⟩;simp[Dt.eq]
end
end Mp
namespace Mp
open Mi PySem
theorem zQC(n:Nat)(hn:n<=1000):repD (.lst [.int 0]) (.int (n:Int))=some (rowD (numL (qA5 n 0))):=by
 unfold repD;dsimp only;rw[if_pos ⟨⟨by lia,by lia⟩,by simp;lia⟩,qCs]
 have:(qA5 n [Dt.int 0]).flatten=(numL (qA5 n 0)).map Dt.int:=by
  induction n with
  |zero=>rfl
  |succ n ih=>
   rw[qB7,qAv,ih (by lia),qB7];rfl
 rw[this];rfl
theorem zIG{n:Nat}{cs:List Nat}(w:Wd n cs)(n1:1<=n)(hn:n<=8){ρ:Rh}(h1:eV 1 ρ=okR (.int (n:Int)))(h2:eV 2 ρ=okR (.str ⟨cs.toArray⟩)):tB (eB neD (eCall zCH (aCons (eCall zDA (aCons (eV 2) aNil)) (aCons (eB repD (eLst (aCons (eC (.int 0)) aNil)) (eV 1)) aNil))) (eCall zB1 (aCons (eV 2) aNil))) ρ=okR false:=by
 have hl:=w.len;have hnet:=zZH w n1 (by lia) (c:=qA5 n 0) (by simp) (zUU w) hn;refine ned (b:=true) (c2 (c1 h2 hnet) (b2 (el1 rfl) h1 (zQC n (by lia))) (zPK w n1 hn)) (c1 h2 (zJ4 cs (by lia) (by rw[w.ol];exact hn))) (qAc _) (qAc _) ?_ rfl;simp[Dt.eq]
theorem zTO(ns:List Int)(hl:ns.length<=63)(hw:∀i∈ns,i.natAbs.log2<2 ^ 20):zL1 [.scr ns]=okR (.bl true):=by
 obtain⟨c0,e0⟩:=zMT ns 0 (by lia) (by lia);obtain⟨n,hn⟩:∃n:Nat,1+c0%8=(n:Int):=⟨(1+c0%8).toNat,by lia⟩
 have n1:1<=n:=by lia
 have n8:n<=8:=by lia
 obtain⟨cs1,l1,hword,hp,hnd,hl1⟩:=zOJ ns n n1 (by lia);have w1:=zXW hp hnd;rw[hl1]at w1;obtain⟨ts,cs,hN,hne,hcl,hc3,hO,hone⟩:=zTF ns n n1 n8;obtain⟨c50,e50⟩:=zMT ns 50 (by lia) (by lia);obtain⟨m,hm⟩:∃m:Nat,c50%5=(m:Int):=⟨(c50%5).toNat,by lia⟩
 have dl:∀(l:List Int) k,(rowD l).dep<=k+1:=fun l k=>by unfold rowD;simp
 refine zBG rfl (sg (b2 rfl (b2 (c2 rfl rfl e0) rfl (mdi (by decide) rfl)) (adi hn)) (qAc 1) (sg (c3 rfl rfl rfl hword) (qAc 0) (sp (zIG w1 n1 n8 rfl rfl) (su (ds:=[rowD (numL ts),rowD (numL cs)]) (c2 rfl rfl hone) rfl (zAV fun bb hb=>?_)))));rw[zCY,zGO (n:=m) (al0 (b2 (c2 rfl rfl e50) rfl (mdi (by decide) hm))) (by lia),zA0];refine zKU (fun k r=>∃cs:List Nat,∃o5,r=[some (.scr ns,0),some (.int (n:Int),0),some (.str ⟨cs1.toArray⟩,0),some (rowD (numL ts),0),some (rowD (numL cs),0),o5]/\cs.length=n/\(∀c∈cs,c<3)/\OneAt ts cs n 0) ⟨cs,none,rfl,hcl,hc3,hO⟩ (fun k hk r hr=>?_) fun r hr=>?_
 ·obtain⟨cs,o4,rfl,hcl,hc3,hO⟩:=hr;obtain⟨c,e⟩:=zMT ns (51+(k:Int)) (by lia) (by lia);obtain⟨q,hq⟩:∃q:Nat,c%(n:Int)=(q:Int):=⟨(c%(n:Int)).toNat,by have:=qE6 c (show(n:Int)≠0 by lia);lia⟩
  have hqn:q<n:=by have:=qDd c (show(0:Int)<(n:Int) by lia);lia
  obtain⟨v,L,hT,hO2⟩:=zaV n1 n8 hN hne hcl hc3 hO hqn;have hot:=zOW hT n8 hcl hc3;have hix0:ixD (rowsD [cs.set q v]) (.int 0)=some (rowD (numL (cs.set q v))):=rfl;have hval:∀ρ:Rh,eV 0 ρ=okR (.scr ns)->eV 1 ρ=okR (.int (n:Int))->eV 3 ρ=okR (rowD (numL ts))->eV 4 ρ=okR (rowD (numL cs))->eV 5 ρ=okR (.int (k:Nat))->eB ixD (eCall zC2 (aCons (eV 3) (aCons (eV 4) (aCons (eB modD (eCall zAL (aCons (eV 0) (aCons (eB addD (eC (.int 51)) (eV 5)) aNil))) (eV 1)) aNil)))) (eC (.int 0)) ρ=okR (rowD (numL (cs.set q v))):=fun ρ a0 a1 a3 a4 a5=>b2 (c3 a3 a4 (b2 (c2 a0 (b2 rfl a5 (adi rfl)) e) a1 (mdi (by lia) hq)) hot) rfl hix0
  exact zAG (s2s (hval _ rfl rfl rfl rfl rfl) (hval _ rfl rfl rfl rfl rfl) rfl) ⟨cs.set q v,some (.int (k:Nat),0),rfl,by simp[hcl],zDU hc3 hT.hv,hO2⟩
 ·obtain⟨cs,o4,rfl,hcl,hc3,hO⟩:=hr;subst hb;obtain⟨st1,st2⟩:=zBF hN hcl hc3;have n0:0<4*n:=by lia
  obtain⟨p,p1,p2,p3,p4⟩:=zCA st1 st2 n0;have hp:=zHG hN hne hcl hc3 hO n0 p1 p3 p4;subst hp;obtain⟨hwn,w2,_⟩:=zH5 n1 n8 hN hne hcl hc3 hO;have hwb:=zPL (ls:=(qA6 26).map (97 + ·)) zSD (by simp) n1 n8 hN hne hcl hc3 hO;rw[hwn]at hwb;exact sg (c2 (bi1 rfl rfl) (bi1 rfl rfl) hwb) (qAc 0) (sp (zIG w2 n1 n8 rfl rfl) (sr (c4 rfl rfl rfl rfl (zOR n1 n8 hN hne hcl hc3 hO p3 p4 ns)) ⟨qAc _,qAc _⟩))
end Mp
set_option maxHeartbeats 4000000
namespace Q19
open PySem PyProof.Rows
open L2 hiding Rep RepL
open L3
open Mp
noncomputable def top(i:Nat):Stmt:=qE0.main.body.getD i (.Pass ⟨0,0,0,0⟩)
theorem S__law_cell:FnScope ["_law_script","_law_k","_law_cell_here","_law_near","_law_far"] ["_law_script","_law_k"] (zAB (top 21)):=fsc
theorem S__law_built:FnScope ["_law_row_here","_law_seats_here","_law_net","_law_ins","_law_stood","_law_place","_law_k","_law_at","_law_there","_law_to","_law_out","_law_into"] ["_law_row_here","_law_seats_here"] (zAB (top 24)):=fsc
theorem S__law_row:FnScope ["_law_script","_law_at","_law_n","_law_left","_law_cell_here","_law_row_here","_law_rest"] ["_law_script","_law_at","_law_n"] (zAB (top 22)):=fsc
theorem S__law_seats:FnScope ["_law_cell_here","_law_n","_law_seats_here","_law_place","_law_left","_law_some","_law_many"] ["_law_cell_here","_law_n"] (zAB (top 23)):=fsc
theorem S__law_ways:FnScope ["_law_seats_here","_law_found","_law_some","_law_pair"] ["_law_seats_here"] (zAB (top 25)):=fsc
theorem S__law_one:FnScope ["_law_script","_law_n","_law_row_here","_law_seats_here"] ["_law_script","_law_n"] (zAB (top 30)):=fsc
theorem S__law_joined:FnScope ["_law_choice","_law_end","_law_seats_here"] ["_law_choice","_law_end"] (zAB (top 26)):=fsc
theorem S__law_round:FnScope ["_law_net","_law_choice","_law_end","_law_found","_law_here"] ["_law_net","_law_choice","_law_end"] (zAB (top 27)):=fsc
theorem S__law_rounds:FnScope ["_law_net","_law_choice","_law_met","_law_found","_law_end","_law_ends","_law_one_here"] ["_law_net","_law_choice"] (zAB (top 28)):=fsc
theorem S__law_other:FnScope ["_law_net","_law_choice","_law_place","_law_found","_law_way","_law_there"] ["_law_net","_law_choice","_law_place"] (zAB (top 29)):=fsc
theorem S__law_renamed:FnScope ["_law_word_here","_law_order","_law_letter"] ["_law_word_here"] (zAB (top 31)):=fsc
theorem S__law_seat_ways:FnScope ["_law_net","_law_choice","_law_order","_law_ends","_law_stood","_law_seats_here","_law_k","_law_at"] ["_law_net","_law_choice","_law_order"] (zAB (top 33)):=fsc
theorem zUJ:FnScope ["way","seat"] ["way","seat"] (zAB (top 7)):=fsc
theorem S_joined_end:FnScope ["choice","end","place"] ["choice","end"] (zAB (top 13)):=fsc
theorem S_round_of:FnScope ["net","choice","end","ends","come"] ["net","choice","end"] (zAB (top 9)):=fsc
theorem S_rounds_of:FnScope ["net","choice","rounds","passed","end","ends"] ["net","choice"] (zAB (top 10)):=fsc
theorem zK1:FnScope ["net","choice"] ["net","choice"] (zAB (top 11)):=fsc
theorem zK0:FnScope ["word"] ["word"] (zAB (top 18)):=fsc
theorem S_entry_at:FnScope ["word","at","place"] ["word","at"] (zAB (top 19)):=fsc
theorem S_net_by:FnScope ["word","entries","net","at","entry","out"] ["word"] (zAB (top 17)):=fsc
theorem S__law_same_rounds:FnScope ["_law_script","_law_net","_law_choice","_law_word_here","_law_order","_law_seats_here","_law_asked","_law_due","_law_k","_law_place","_law_there","_law_end","_law_way"] ["_law_script","_law_net","_law_choice","_law_word_here"] (zAB (top 34)):=fsc
theorem S__law_word:FnScope ["_law_script","_law_at","_law_n","_law_left","_law_cell_here","_law_letters","_law_k","_law_spot"] ["_law_script","_law_at","_law_n"] (zAB (top 32)):=fsc
theorem S_refuse_many:FnScope ["net","choice","many"] ["net","choice"] (zAB (top 12)):=fsc
theorem zSE:FnScope ["net","choice"] ["net","choice"] (zAB (top 16)):=fsc
theorem S_law:FnScope ["_law_script","_law_n","_law_word_here","_law_net","_law_choice","_law_k"] ["_law_script"] (zAB (top 35)):=fsc
section
variable{P:Program}{w:World}{K:qA2}{mg:Str->Option Value}{base:Heap}
abbrev zEB:Stmt:=zbG (top 2)
theorem zUI:FnScope ["self","many"] ["self","many"] (zAB zEB):=⟨rfl,rfl,rfl,by decide +kernel,rfl,by decide +kernel,by decide +kernel⟩
theorem zJD{f:Addr}{fd:FuncData}(F:Fun K "__init__" "NoOne.__init__" zEB f fd){B:Addr}(hB:XBase K B)(hm:mg "RoundError" = some (.ref B)):FnOk P w K mg base (CXe P w) 1 f fd ["self","many"] (zHA K "many"):=by
 refine F.okX (k:=0) zUI (zTW rfl) (fun cdv A outer s H vs Q E hr h=>?_);exact⟨_,zA3 (zBZ (zTD hB rfl hm (zA1 (pv 0) (zA1 (pv 1) zA5)))) (zAE (zT6 (pv 0) (pv 1) rfl)),zTV h⟩
structure Bd(K:qA2)(mg:Str->Option Value):Prop where
 d0:Def K mg "_law_cell" (top 21)
 d1:Def K mg "_law_built" (top 24)
 d2:Def K mg "_law_row" (top 22)
 d3:Def K mg "_law_seats" (top 23)
 d4:Def K mg "_law_ways" (top 25)
 d5:Def K mg "_law_one" (top 30)
 d6:Def K mg "_law_joined" (top 26)
 d7:Def K mg "_law_round" (top 27)
 d8:Def K mg "_law_rounds" (top 28)
 d9:Def K mg "_law_other" (top 29)
 d10:Def K mg "_law_renamed" (top 31)
 d11:Def K mg "_law_seat_ways" (top 33)
 d12:Def K mg "joined" (top 7)
 d13:Def K mg "joined_end" (top 13)
 d14:Def K mg "round_of" (top 9)
 d15:Def K mg "rounds_of" (top 10)
 d16:Def K mg "many_rounds" (top 11)
 d17:Def K mg "place_order" (top 18)
 d18:Def K mg "entry_at" (top 19)
 d19:Def K mg "net_by" (top 17)
 d20:Def K mg "_law_same_rounds" (top 34)
 d21:Def K mg "_law_word" (top 32)
 d22:Def K mg "refuse_many" (top 12)
 d23:Def K mg "word_by" (top 16)
 e0:mg "enumerate" = none
 e1:mg "int" = none
 e2:mg "len" = none
 e3:mg "list" = none
 e4:mg "range" = none
 e5:mg "sorted" = none
structure Bn(P:Program)(w:World)(K:qA2)(mg:Str->Option Value)(base:Heap):Type where
 S:Bd K mg
 u_SEATS:Value
 a_TooMany:Addr
 u_MOST_PLACES:Value
 a_NoOne:Addr
 u_SMALL_LETTERS:Value
 c_SEATS:RelV (V.int 4) u_SEATS/\mg "SEATS" = some u_SEATS
 c_MOST_PLACES:RelV (V.int 8) u_MOST_PLACES/\mg "MOST_PLACES" = some u_MOST_PLACES
 z_TooMany:XNo K mg "TooMany" a_TooMany
 x_NoOne:XIni P w K mg base "NoOne" "many" a_NoOne
 c_SMALL_LETTERS:RelV (V.str "abcdefghijklmnopqrstuvwxyz") u_SMALL_LETTERS/\mg "SMALL_LETTERS" = some u_SMALL_LETTERS
variable(B:Bn P w K mg base)
include B
theorem zBM:Has P w K mg base "_law_cell" 1 ["_law_script","_law_k"] (sp0 K mg 1 zAL):=by
 letI:Kc:=⟨K⟩
 exact dfM B.S.d0 S__law_cell (fun _ _ _ _ _ _=>uw2 fun _ _=>rfl) fun hr hu h=>⟨_,(zA3 (pst 2 S__law_cell.nd zA9)
   (zA3 (zGP (zDS u_lt (pn 1) (zAR (zC3 (K:=K)) rfl B.S.e2 boot_len (zA1 (pn 0) zA5)) (zC5 _)) (zAE (pst 2 S__law_cell.nd (zB4 (zB2 (K:=K)) (pn 0) (pn 1) (fun _ _=>rfl)))) zCJ)
   (zA3 (zGP (pt_w (zUX (zDS u_gt (zAR (zC3 (K:=K)) rfl B.S.e2 boot_len (zA1 (pn 0) zA5)) zA9 (zC5 _)) (zQJ (zDS (u_eq hu) (zAM zDT (zB4 (zB2 (K:=K)) (pn 0) zA9 (fun _ _=>rfl)) zA9) zA9 (zC5 _))))) (zAE (zB0 (zAM zEN (zAM zDT (pn 2) (zAM zaT zA9 zA9)) (zB4 (zB2 (K:=K)) (zBH (zA1 zA9 (zA1 zA9 zA5))) (zFD zS6 rfl B.S.e1 boot_int (zA1 (zQS (u_eq hu) (pn 1) zA9 (zC5 _)) zA5)) (fun _ _=>rfl))))) zCJ)
   (zA3 (pst 3 S__law_cell.nd (zAM zDT (zAM zCP (zAM zCF (zAM zDT (pn 2) zA9) (zAM zCP zA9 (zAM zCF (pn 1) zA9))) zA9) zA9))
   (zA3 (pst 4 S__law_cell.nd (zAM zDT (zAM zCP (zAM zDT (zAM zCP (pn 3) zA9) zA9) zA9) zA9))
   (zAE (zB0 (zAM zCF (zAM zCP (zAM zCF (zAM zCP (pn 3) zA9) (pn 4)) zA9) (zAM zDT (zAM zCP (pn 4) zA9) zA9))))))))),(zB9 (zAA (zAK (n:=0) [] zA7)
   (zAA (zGQ (dt_b (dz (zAC zQA (de_v 1) (dz (zCO zC4 (zA2 (de_v 0) zA6)))))) (zAK (n:=0) [0,1] (zAC zB3 (de_v 0) (de_v 1))) zDR)
   (zAA (zGQ (zVM (dt_b (dz (zAC zQA (dz (zCO zC4 (zA2 (de_v 0) zA6))) (dz zA7)))) (dt_b (dz (zAC zKF (dz (zAC zCG (zAC zB3 (de_v 0) (dz zA7)) (dz zA7))) (dz zA7))))) (zCR (n:=1) [2,1] (zAC zEO (dz (zAC zCG (de_v 2) (dz (zAC zYF (dz zA7) (dz zA7))))) (zAC zB3 (zBI (n:=0) (zA2 zA7 (zA2 zA7 zA6))) (dz (zCO zaE (zA2 (zAC zKF (de_v 1) (dz zA7)) zA6)))))) zDR)
   (zAA (zAK (n:=0) [2,1] (zAC zCG (dz (zAC zCQ (zAC zB5 (dz (zAC zCG (de_v 2) (dz zA7))) (dz (zAC zCQ (dz zA7) (zAC zB5 (de_v 1) (dz zA7))))) (dz zA7))) (dz zA7)))
   (zAA (zAK (n:=0) [3] (zAC zCG (dz (zAC zCQ (dz (zAC zCG (dz (zAC zCQ (de_v 3) (dz zA7))) (dz zA7))) (dz zA7))) (dz zA7)))
   (zCR (n:=1) [4,3] (zAC zB5 (dz (zAC zCQ (zAC zB5 (dz (zAC zCQ (de_v 3) (dz zA7))) (de_v 4)) (dz zA7))) (dz (zAC zCG (dz (zAC zCQ (de_v 4) (dz zA7))) (dz zA7)))))))))) h)⟩
theorem zJG:Has P w K mg base "_law_built" 1 ["_law_row_here","_law_seats_here"] (sp0 K mg 1 zD4):=by
 letI:Kc:=⟨K⟩
 exact dfM B.S.d1 S__law_built (fun _ _ _ _ _ _=>uw2 fun _ _=>rfl) fun hr hu h=>⟨_,(zA3 (pst 2 S__law_built.nd (zAM zSO (zBH (zA1 zA9 zA5)) (zAM zCP zA9 (zAR (zC3 (K:=K)) rfl B.S.e2 boot_len (zA1 (pn 0) zA5)))))
   (zA3 (pst 3 S__law_built.nd (zBH zA5))
   (zA3 (pst 4 S__law_built.nd zED)
   (zA3 (zBL PassesOwn.never rfl (zFB (K:=K) (pn 0)) (zAU (i:=5) S__law_built.nd rfl oi) (zA3 (zBZ (zG5 qAq qAw qAx zDE (pn 3) (zA1 (zKK (zA1 (pn 5) (zA1 (zNQ (zGC hr) (pn 4) (pn 5) zA9 ⟨rfl,rfl,rfl,rfl⟩) zA5))) zA5)))
   (zAE (zG4 (zGC hr) (pn 4) (pn 5) zA9 rfl))))
   (zA3 (zBL PassesOwn.never rfl (zBA rfl B.S.e4 (zA1 (zAR (zC3 (K:=K)) rfl B.S.e2 boot_len (zA1 (pn 0) zA5)) zA5)) (zAU (i:=6) S__law_built.nd rfl oi) (zA3 (zGL (zB4 (zB2 (K:=K)) (pn 3) (zAM zSN (pn 6) zA9) (fun _ _=>rfl)) (zHM (K:=K) rfl (zCC (zAU (i:=5) S__law_built.nd rfl oi) (zCC (zAU (i:=7) S__law_built.nd rfl oi) zHL))))
   (zA3 (zGL (zB4 (zB2 (K:=K)) (pn 3) (pn 6) (fun _ _=>rfl)) (zHM (K:=K) rfl (zCC (zAU (i:=8) S__law_built.nd rfl oi) (zCC (zAU (i:=9) S__law_built.nd rfl oi) zHL))))
   (zA3 (pst 10 S__law_built.nd (zAM zCF (zAM zCP zA9 (pn 5)) (zB4 (zB2 (K:=K)) (zB4 (zB2 (K:=K)) (pn 1) (pn 5) (fun _ _=>rfl)) (zAM zCF (pn 7) zA9) (fun _ _=>rfl))))
   (zA3 (pst 11 S__law_built.nd (zAM zCF (zAM zCP zA9 (pn 8)) (zB4 (zB2 (K:=K)) (zB4 (zB2 (K:=K)) (pn 1) (pn 8) (fun _ _=>rfl)) (pn 9) (fun _ _=>rfl))))
   (zA3 (zGL (pn 11) (zKJ (pn 2) (pn 10) zPP))
   (zAE (zGL (pn 10) (zKJ (pn 2) (pn 11) zPP)))))))))
   (zAE (zB0 (pn 2)))))))),(zB9 (zAA (zAK (n:=1) [0] (zAC zNE (zBI (n:=0) (zA2 zA7 zA6)) (dz (zAC zCQ (dz zA7) (dz (zCO zC4 (zA2 (de_v 0) zA6)))))))
   (zAA (zAK (n:=9) [] (zBI (n:=8) zA6))
   (zAA (zAK (n:=1) [] zGF)
   (zAA (zIO [0] (zFN (de_v 0)) (zC6 5) (zAA (zO8 3 (n:=1) (zI7 (n:=0) (zA2 (de_v 5) (zA2 (zRZ (de_v 4) (de_v 5) (dz zA7)) zA6))))
   (zGE 4 (de_v 5) (dz zA7))))
   (zAA (zD6 (zGR (zA2 (zCO zC4 (zA2 (de_v 0) zA6)) zA6)) (zAA (zRQ [3,6] (zK7 (zCB 5 (zCB 7 zH8)) rfl) (zAC zB3 (de_v 3) (dz (zAC zND (de_v 6) (dz zA7)))))
   (zAA (zRQ [3,6] (zK7 (zCB 8 (zCB 9 zH8)) rfl) (zAC zB3 (de_v 3) (de_v 6)))
   (zAA (zAK (n:=1) [5,1,7] (zAC zB5 (dz (zAC zCQ (dz zA7) (de_v 5))) (zAC zB3 (zAC zB3 (de_v 1) (de_v 5)) (zAC zB5 (de_v 7) (dz zA7)))))
   (zAA (zAK (n:=1) [8,9,1] (zAC zB5 (dz (zAC zCQ (dz zA7) (de_v 8))) (zAC zB3 (zAC zB3 (de_v 1) (de_v 8)) (de_v 9))))
   (zAA (zI4 2 (n:=0) (de_v 10) (de_v 11))
   (zI4 2 (n:=0) (de_v 11) (de_v 10))))))))
   (zD5 2)))))) h)⟩
theorem zHR:Has P w K mg base "_law_row" 2 ["_law_script","_law_at","_law_n"] (sp0 K mg 9 zBR):=by
 letI:Kc:=⟨K⟩
 exact dfM B.S.d2 S__law_row (fun _ _ _ _ _ _=>uw3 fun _ _ _=>rfl) fun hr hu h=>⟨_,(zA3 (zG3 (i:=3) S__law_row.nd rfl oi rfl (cn ["0","1","2","3","4","5","6","_law_k"] 1 (by kernel_rfl)) (zBA rfl B.S.e4 (zA1 (zAM zCP zA9 (pn 2)) zA5)) (fun _ _ _ _=>(pgn 7)) (fun _ _ _ _=>zF0) (fun _ _ _ _=>(zAM zEN (pn 7) zA9)))
   (zA3 (pst 4 S__law_row.nd (zBJ (zBM B) (by decide) hr rfl (zA1 (pn 0) (zA1 (pn 1) zA5))))
   (zA3 (pst 5 S__law_row.nd (zBH zA5))
   (zA3 (zJ7 PassesOwn.never (zDS (u_ne hu) (pn 3) (zBH zA5) (zC5 _)) (zA3 (pst 6 S__law_row.nd (zAM zEN (pn 4) (zAR (zC3 (K:=K)) rfl B.S.e2 boot_len (zA1 (pn 3) zA5))))
   (zA3 (zBZ (zG5 qAq qAw qAx zDE (pn 5) (zA1 (zG5 qAq qFa qFb zR3 (pn 3) (zA1 (zAM zDT (pn 4) (zAR (zC3 (K:=K)) rfl B.S.e2 boot_len (zA1 (pn 3) zA5))) zA5)) zA5)))
   (zAE (pst 4 S__law_row.nd (pn 6))))))
   (zAE (zB0 (pn 5))))))),(zB9 (zAA (zAK (n:=1) [2] (zE8 (n:=0) (zGR (zA2 (zAC zCQ (dz zA7) (de_v 2)) zA6)) (zC6 7) zI3 (zAC zEO (de_v 7) (dz zA7))))
   (zAA (zAK (n:=1) [0,1] (zAQ (zA2 (de_v 0) (zA2 (de_v 1) zA6))))
   (zAA (zAK (n:=9) [] (zBI (n:=8) zA6))
   (zAA (zJQ (dt_b (dz (zAC zM5 (de_v 3) (zBI (n:=8) zA6)))) (zAA (zAK (n:=0) [4,3] (zAC zEO (de_v 4) (dz (zCO zC4 (zA2 (de_v 3) zA6)))))
   (zAA (zLI 5 3 (dz (zAC zCG (de_v 4) (dz (zCO zC4 (zA2 (de_v 3) zA6))))))
   (zAK (n:=0) [6] (de_v 6)))))
   (zD5 5))))) h)⟩
theorem zJE:Has P w K mg base "_law_seats" 1 ["_law_cell_here","_law_n"] (sp0 K mg 1 zD3):=by
 letI:Kc:=⟨K⟩
 exact dfM B.S.d3 S__law_seats (fun _ _ _ _ _ _=>uw2 fun _ _=>rfl) fun hr hu h=>⟨_,(zA3 (pst 2 S__law_seats.nd (zBH zA5))
   (zA3 (zBL PassesOwn.never rfl (zBA rfl B.S.e4 (zA1 (pn 1) zA5)) (zAU (i:=3) S__law_seats.nd rfl oi) (zA3 (pst 4 S__law_seats.nd (zBH (zA1 zA9 (zA1 zA9 (zA1 zA9 (zA1 zA9 zA5))))))
   (zA3 (pst 5 S__law_seats.nd (zBH zA5))
   (zA3 (zBL PassesOwn.never rfl (zFB (K:=K) (zKK (zA1 zA9 (zA1 zA9 (zA1 zA9 (zA1 zA9 zA5)))))) (zAU (i:=6) S__law_seats.nd rfl oi) (zA3 (zBZ (zG5 qAq qAw qAx zDE (pn 5) (zA1 (zG5 qAq qFa qFb zR3 (pn 4) (zA1 (zAM zDT (pn 0) (pn 6)) zA5)) zA5)))
   (zAE (pst 0 S__law_seats.nd (zAM zEN (pn 0) (pn 6))))))
   (zAE (zBZ (zG5 qAq qAw qAx zDE (pn 2) (zA1 (pn 5) zA5))))))))
   (zAE (zB0 (pn 2))))),(zB9 (zAA (zAK (n:=9) [] (zBI (n:=8) zA6))
   (zAA (zD6 (zGR (zA2 (de_v 1) zA6)) (zAA (zAK (n:=1) [] (zBI (n:=0) (zA2 zA7 (zA2 zA7 (zA2 zA7 (zA2 zA7 zA6))))))
   (zAA (zAK (n:=9) [] (zBI (n:=8) zA6))
   (zAA (zIO [] (zFN (zI7 (n:=0) (zA2 zA7 (zA2 zA7 (zA2 zA7 (zA2 zA7 zA6)))))) (zC6 6) (zAA (zLI 5 4 (dz (zAC zCG (de_v 0) (de_v 6))))
   (zAK (n:=0) [0,6] (zAC zEO (de_v 0) (de_v 6)))))
   (zJR 2 [5] (de_v 5))))))
   (zD5 2))) h)⟩
theorem zKS:Has P w K mg base "_law_ways" 1 ["_law_seats_here"] (sp0 K mg 9 zF5):=by
 letI:Kc:=⟨K⟩
 exact dfM B.S.d4 S__law_ways (fun _ _ _ _ _ _=>uw1 fun _=>rfl) fun hr hu h=>⟨_,(zA3 (pst 1 S__law_ways.nd (zBH zA5))
   (zA3 (zBL PassesOwn.never rfl (zFB (K:=K) (pn 0)) (zAU (i:=2) S__law_ways.nd rfl oi) (zA3 (pst 3 S__law_ways.nd (zAR zNY rfl B.S.e5 boot_sorted (zA1 (zBH (zA1 (zB4 (zB2 (K:=K)) (pn 2) zA9 (fun _ _=>rfl)) (zA1 (zB4 (zB2 (K:=K)) (pn 2) zA9 (fun _ _=>rfl)) zA5))) zA5)))
   (zA3 (zGP (zDS (zPQ (K:=K)) zA9 (pn 3) rfl) (zAE (pst 3 S__law_ways.nd (zAR zNY rfl B.S.e5 boot_sorted (zA1 (zBH (zA1 (zB4 (zB2 (K:=K)) (pn 2) zA9 (fun _ _=>rfl)) (zA1 (zB4 (zB2 (K:=K)) (pn 2) zA9 (fun _ _=>rfl)) zA5))) zA5)))) zCJ)
   (zAE (zBZ (zG5 qAq qAw qAx zDE (pn 1) (zA1 (zAM zSN (zB4 (zB2 (K:=K)) (pn 3) zA9 (fun _ _=>rfl)) zA9) zA5)))))))
   (zAE (zB0 (pn 1))))),(zB9 (zAA (zAK (n:=9) [] (zBI (n:=8) zA6))
   (zAA (zIO [0] (zFN (de_v 0)) (zC6 2) (zAA (zAK (n:=1) [2] (zCO zS5 (zA2 (zAN (zBI (n:=0) (zA2 (zAC zB3 (de_v 2) (dz zA7)) (zA2 (zAC zB3 (de_v 2) (dz zA7)) zA6)))) zA6)))
   (zAA (zGQ (dt_b (dz (zAC zYG (dz zA7) (de_v 3)))) (zAK (n:=1) [2] (zCO zS5 (zA2 (zAN (zBI (n:=0) (zA2 (zAC zB3 (de_v 2) (dz zA7)) (zA2 (zAC zB3 (de_v 2) (dz zA7)) zA6)))) zA6))) zDR)
   (zO8 1 (n:=0) (zAC zND (zAC zB3 (de_v 3) (dz zA7)) (dz zA7))))))
   (zD5 1))) h)⟩
theorem zMB:Has P w K mg base "_law_one" 3 ["_law_script","_law_n"] (sp0 K mg 1 zEF):=by
 letI:Kc:=⟨K⟩
 exact dfM B.S.d5 S__law_one (fun _ _ _ _ _ _=>uw2 fun _ _=>rfl) fun hr hu h=>⟨_,(zA3 (pst 2 S__law_one.nd (zBJ (zHR B) (by decide) hr rfl (zA1 (pn 0) (zA1 zA9 (zA1 (pn 1) zA5)))))
   (zA3 (pst 3 S__law_one.nd (zBJ (zJE B) (by decide) hr rfl (zA1 (zBJ (zBM B) (by decide) hr rfl (zA1 (pn 0) (zA1 zA9 zA5))) (zA1 (pn 1) zA5))))
   (zAE (zB0 (zKK (zA1 (zBJ (zJG B) (by decide) hr rfl (zA1 (pn 2) (zA1 (pn 3) zA5))) (zA1 (zBJ (zKS B) (by decide) hr rfl (zA1 (pn 3) zA5)) zA5))))))),(zB9 (zAA (zAK (n:=9) [0,1] (zAQ (zA2 (de_v 0) (zA2 zA7 (zA2 (de_v 1) zA6)))))
   (zAA (zAK (n:=1) [1,0] (zAQ (zA2 (zAN (zAQ (zA2 (de_v 0) (zA2 zA7 zA6)))) (zA2 (de_v 1) zA6))))
   (zCR (n:=1) [2,3] (zI7 (n:=0) (zA2 (zAN (zAQ (zA2 (de_v 2) (zA2 (de_v 3) zA6)))) (zA2 (zAN (zAQ (zA2 (de_v 3) zA6))) zA6)))))) h)⟩
theorem zES:Has P w K mg base "_law_joined" 1 ["_law_choice","_law_end"] (sp0 K mg 1 zBS):=by
 letI:Kc:=⟨K⟩
 exact dfM B.S.d6 S__law_joined (fun _ _ _ _ _ _=>uw2 fun _ _=>rfl) fun hr hu h=>zXA (zU6 (zXC (i:=2) S__law_joined.nd rfl oi (zaA (zB2 (K:=K)) (zXG (zJV (zMP (zBW zCN (zBW zCN (zBW zCN (zBW zCN zJU))))) (zJV (zMP (zBW zCN (zBW zCN (zBW zCN (zBW zCN zJU))))) (zJV (zMP (zBW zCN (zBW zCN (zBW zCN (zBW zCN zJU))))) zJU)))) ⟨(zB4 (zB2 (K:=K)) (pn 0) (zAM zEN (pn 1) zA9) (fun _ _=>rfl))⟩ (fun _ _=>rfl)))
   (zXB ⟨(zB0 (zAM zCF (zAM zSN (pn 1) (zAM zDT (pn 1) zA9)) (zB4 (zB2 (K:=K)) (pn 2) (zAM zDT (pn 1) zA9) (fun _ _=>rfl))))⟩)) (zB9 (zAA (zAK (n:=0) [0,1] (zAC zB3 (zBI (n:=1) (zA2 (zI7 (n:=0) (zA2 zA7 (zA2 zA7 (zA2 zA7 (zA2 zA7 zA6))))) (zA2 (zI7 (n:=0) (zA2 zA7 (zA2 zA7 (zA2 zA7 (zA2 zA7 zA6))))) (zA2 (zI7 (n:=0) (zA2 zA7 (zA2 zA7 (zA2 zA7 (zA2 zA7 zA6))))) zA6)))) (zAC zB3 (de_v 0) (dz (zAC zEO (de_v 1) (dz zA7))))))
   (zCR (n:=1) [1,2] (zAC zB5 (dz (zAC zND (de_v 1) (dz (zAC zCG (de_v 1) (dz zA7))))) (zAC zB3 (de_v 2) (dz (zAC zCG (de_v 1) (dz zA7))))))) h)
theorem zFF:Has P w K mg base "_law_round" 2 ["_law_net","_law_choice","_law_end"] (sp0 K mg 9 zCI):=by
 letI:Kc:=⟨K⟩
 exact dfM B.S.d7 S__law_round (fun _ _ _ _ _ _=>uw3 fun _ _ _=>rfl) fun hr hu h=>⟨_,(zA3 (pst 3 S__law_round.nd (zBH zA5))
   (zA3 (pst 4 S__law_round.nd (pn 2))
   (zA3 (zJ7 PassesOwn.never (pt_w (zb2 (zDS (u_eq hu) (pn 3) (zBH zA5) (zC5 _)) (zYY (zDS (u_ne hu) (pn 4) (pn 2) (zC5 _))))) (zA3 (zBZ (zG5 qAq qAw qAx zDE (pn 3) (zA1 (pn 4) zA5)))
   (zA3 (zBZ (zG5 qAq qAw qAx zDE (pn 3) (zA1 (zBJ (zES B) (by decide) hr rfl (zA1 (pn 1) (zA1 (pn 4) zA5))) zA5)))
   (zAE (pst 4 S__law_round.nd (zB4 (zB2 (K:=K)) (pn 0) (zB4 (zB2 (K:=K)) (pn 3) (zWF zW1 zA9) (fun _ _=>rfl)) (fun _ _=>rfl)))))))
   (zAE (zB0 (pn 3)))))),(zB9 (zAA (zAK (n:=9) [] (zBI (n:=8) zA6))
   (zAA (zAK (n:=0) [2] (de_v 2))
   (zAA (zJQ (zbL (dt_b (dz (zAC zKF (de_v 3) (zBI (n:=8) zA6)))) (dt_b (dz (zAC zM5 (de_v 4) (de_v 2))))) (zAA (zO8 3 (n:=0) (de_v 4))
   (zAA (zO8 3 (n:=1) (zAQ (zA2 (de_v 1) (zA2 (de_v 4) zA6))))
   (zAK (n:=0) [0,3] (zAC zB3 (de_v 0) (zAC zB3 (de_v 3) (dz (zXF zQ9 (dz zA7)))))))))
   (zD5 3)))) h)⟩
theorem zER:Has P w K mg base "_law_rounds" 3 ["_law_net","_law_choice"] (sp0 K mg 1 zAZ):=by
 letI:Kc:=⟨K⟩
 exact dfM B.S.d8 S__law_rounds (fun _ _ _ _ _ _=>uw2 fun _ _=>rfl) fun hr hu h=>⟨_,(zA3 (pst 2 S__law_rounds.nd zED)
   (zA3 (pst 3 S__law_rounds.nd (zBH zA5))
   (zA3 (zBL PassesOwn.never rfl (zBA rfl B.S.e4 (zA1 (zAR (zC3 (K:=K)) rfl B.S.e2 boot_len (zA1 (pn 0) zA5)) zA5)) (zAU (i:=4) S__law_rounds.nd rfl oi) (zAE (zGP (zUY (zKL (zGC hr) (pn 4) (pn 2))) (zA3 (pst 5 S__law_rounds.nd (zBJ (zFF B) (by decide) hr rfl (zA1 (pn 0) (zA1 (pn 1) (zA1 (pn 4) zA5)))))
   (zA3 (zBL PassesOwn.never rfl (zFB (K:=K) (pn 5)) (zAU (i:=6) S__law_rounds.nd rfl oi) (zAE (zG4 (zGC hr) (pn 2) (pn 6) zTC rfl)))
   (zAE (zBZ (zG5 qAq qAw qAx zDE (pn 3) (zA1 (pn 5) zA5)))))) zCJ)))
   (zAE (zB0 (pn 3)))))),(zB9 (zAA (zAK (n:=1) [] zGF)
   (zAA (zAK (n:=9) [] (zBI (n:=8) zA6))
   (zAA (zD6 (zGR (zA2 (zCO zC4 (zA2 (de_v 0) zA6)) zA6)) (zGQ (dt_B (dz (zRX (de_v 4) (de_v 2)))) (zAA (zAK (n:=9) [0,1,4] (zAQ (zA2 (de_v 0) (zA2 (de_v 1) (zA2 (de_v 4) zA6)))))
   (zAA (zIO [5] (zFN (de_v 5)) (zC6 6) (zGE 2 (de_v 6) (dz zUE)))
   (zJR 3 [5] (de_v 5)))) zDR))
   (zD5 3)))) h)⟩
theorem zJF:Has P w K mg base "_law_other" 4 ["_law_net","_law_choice","_law_place"] (sp0 K mg 1 zC2):=by
 letI:Kc:=⟨K⟩
 exact dfM B.S.d9 S__law_other (fun _ _ _ _ _ _=>uw3 fun _ _ _=>rfl) fun hr hu h=>⟨_,(zA3 (pst 3 S__law_other.nd (zBH zA5))
   (zA3 (zBL PassesOwn.never rfl (zBA rfl B.S.e4 (zA1 zA9 zA5)) (zAU (i:=4) S__law_other.nd rfl oi) (zA3 (pst 5 S__law_other.nd (zAM zCF (zAM zCF (zGV (u_sl (K:=K)) (pn 1) zJA (zJ9 (pn 2))) (zBH (zA1 (pn 4) zA5))) (zGV (u_sl (K:=K)) (pn 1) (zJ9 (zAM zCF (pn 2) zA9)) zJA)))
   (zAE (zGP (pt_w (zUX (zDS (u_ne hu) (pn 4) (zB4 (zB2 (K:=K)) (pn 1) (pn 2) (fun _ _=>rfl)) (zC5 _)) (zQJ (zDS (u_eq hu) (zAR (zC3 (K:=K)) rfl B.S.e2 boot_len (zA1 (zBJ (zER B) (by decide) hr rfl (zA1 (pn 0) (zA1 (pn 5) zA5))) zA5)) zA9 (zC5 _))))) (zAE (zBZ (zG5 qAq qAw qAx zDE (pn 3) (zA1 (pn 5) zA5)))) zCJ))))
   (zAE (zB0 (pn 3))))),(zB9 (zAA (zAK (n:=9) [] (zBI (n:=8) zA6))
   (zAA (zD6 (zGR (zA2 zA7 zA6)) (zAA (zAK (n:=1) [1,4,2] (zAC zB5 (zAC zB5 (zUC (de_v 1) zU9 (do_e (de_v 2))) (zBI (n:=0) (zA2 (de_v 4) zA6))) (zUC (de_v 1) (do_e (zAC zB5 (de_v 2) (dz zA7))) zU9)))
   (zGQ (zVM (dt_b (dz (zAC zM5 (de_v 4) (zAC zB3 (de_v 1) (de_v 2))))) (dt_b (dz (zAC zKF (dz (zCO zC4 (zA2 (zAN (zAQ (zA2 (de_v 0) (zA2 (de_v 5) zA6)))) zA6))) (dz zA7))))) (zJR 3 [5] (de_v 5)) zDR)))
   (zD5 3))) h)⟩
theorem zE1:Has P w K mg base "_law_renamed" 1 ["_law_word_here"] (sp0 K mg 0 zB1):=by
 letI:Kc:=⟨K⟩
 exact dfM B.S.d10 S__law_renamed (fun _ _ _ _ _ _=>uw1 fun _=>rfl) fun hr hu h=>⟨_,(zA3 (pst 1 S__law_renamed.nd zEP)
   (zA3 (zBL PassesOwn.never rfl (zFB (K:=K) (pn 0)) (zAU (i:=2) S__law_renamed.nd rfl oi) (zAE (zGP (zDS (zPQ (K:=K)) (pn 2) (pn 1) rfl) (zAE (pst 1 S__law_renamed.nd (zAM zCF (pn 1) (pn 2)))) zCJ)))
   (zAE (zB0 (zJB qB5 qCp qCq zGX zEP (zA1 (zHN rfl (cn ["0","_law_order","2","_law_letter"] 1 (by kernel_rfl)) (zFB (K:=K) (pn 0)) (fun _ _ _ _=>(pgn 3)) (fun _ _ _ _=>zF0) (fun _ _ _ _=>(zB4 (zB2 (K:=K)) zEP (zJB qB5 qC8 qC9 zFG (pn 1) (zA1 (pn 3) zA5)) (fun _ _=>rfl)))) zA5)))))),(zB9 (zAA (zAK (n:=0) [] zE7)
   (zAA (zIO [0] (zFN (de_v 0)) (zC6 2) (zGQ (dt_b (dz (zAC zYG (de_v 2) (de_v 1)))) (zAK (n:=1) [1,2] (zAC zB5 (de_v 1) (de_v 2))) zDR))
   (zCR (n:=0) [2,0,1] (zJT zJ1 (dz zE7) (zA2 (zAN (zE8 (n:=0) (zFN (de_v 0)) (zC6 3) zI3 (zAC zB3 (dz zE7) (dz (zJT zHI (de_v 1) (zA2 (de_v 3) zA6)))))) zA6))))) h)⟩
theorem zG8:Has P w K mg base "_law_seat_ways" 3 ["_law_net","_law_choice","_law_order"] (sp0 K mg 1 zCL):=by
 letI:Kc:=⟨K⟩
 exact dfM B.S.d11 S__law_seat_ways (fun _ _ _ _ _ _=>uw3 fun _ _ _=>rfl) fun hr hu h=>⟨_,(zA3 (pst 3 S__law_seat_ways.nd (zBJ (zFF B) (by decide) hr rfl (zA1 (pn 0) (zA1 (pn 1) (zA1 zA9 zA5)))))
   (zA3 (pst 4 S__law_seat_ways.nd zED)
   (zA3 (pst 5 S__law_seat_ways.nd zED)
   (zA3 (zBL PassesOwn.never rfl (zQO rfl B.S.e4 (zA1 zA9 (zA1 (zAR (zC3 (K:=K)) rfl B.S.e2 boot_len (zA1 (pn 3) zA5)) (zA1 zA9 zA5)))) (zAU (i:=6) S__law_seat_ways.nd rfl oi) (zA3 (pst 7 S__law_seat_ways.nd (zNQ (zGC hr) (pn 4) (zAM zEN (zB4 (zB2 (K:=K)) (pn 3) (pn 6) (fun _ _=>rfl)) zA9) zA9 ⟨rfl,rfl,rfl,rfl⟩))
   (zA3 (zG4 (zGC hr) (pn 5) (zB4 (zB2 (K:=K)) (pn 3) (pn 6) (fun _ _=>rfl)) (pn 7) rfl)
   (zA3 (zG4 (zGC hr) (pn 5) (zB4 (zB2 (K:=K)) (pn 3) (zAM zCF (pn 6) zA9) (fun _ _=>rfl)) (zAM zCF (pn 7) zA9) rfl)
   (zAE (zG4 (zGC hr) (pn 4) (zAM zEN (zB4 (zB2 (K:=K)) (pn 3) (pn 6) (fun _ _=>rfl)) zA9) zA9 rfl))))))
   (zAE (zB0 (pn 5))))))),(zB9 (zAA (zAK (n:=9) [0,1] (zAQ (zA2 (de_v 0) (zA2 (de_v 1) (zA2 zA7 zA6)))))
   (zAA (zAK (n:=1) [] zGF)
   (zAA (zAK (n:=1) [] zGF)
   (zAA (zD6 (zbN (zA2 zA7 (zA2 (zCO zC4 (zA2 (de_v 3) zA6)) (zA2 zA7 zA6)))) (zAA (zAK (n:=0) [4,3,6] (zRZ (de_v 4) (dz (zAC zEO (zAC zB3 (de_v 3) (de_v 6)) (dz zA7))) (dz zA7)))
   (zAA (zGE 5 (zAC zB3 (de_v 3) (de_v 6)) (de_v 7))
   (zAA (zGE 5 (zAC zB3 (de_v 3) (zAC zB5 (de_v 6) (dz zA7))) (zAC zB5 (de_v 7) (dz zA7)))
   (zGE 4 (dz (zAC zEO (zAC zB3 (de_v 3) (de_v 6)) (dz zA7))) (dz zA7))))))
   (zD5 5))))) h)⟩
theorem zR0:Has P w K mg base "joined" 1 ["way","seat"] (sp0 K mg 0 zJL):=by
 letI:Kc:=⟨K⟩
 exact dfM B.S.d12 zUJ (fun _ _ _ _ _ _=>uw2 fun _ _=>rfl) fun hr hu h=>⟨_,(zAE (zB0 (zAM zaS (pn 1) (zAM zCF (pn 0) zA9)))),(zB9 (zCR (n:=0) [1,0] (zAC zYD (de_v 1) (zAC zB5 (de_v 0) (dz zA7)))) h)⟩
theorem zFE:Has P w K mg base "joined_end" 2 ["choice","end"] (sp0 K mg 1 zBO):=by
 letI:Kc:=⟨K⟩
 exact dfM B.S.d13 S_joined_end (fun _ _ _ _ _ _=>uw2 fun _ _=>rfl) fun hr hu h=>⟨_,(zA3 (pst 2 S_joined_end.nd (zAM zEN (pn 1) (zF1 rfl B.c_SEATS.2 B.c_SEATS.1)))
   (zAE (zB0 (zAM zCF (zAM zCP (pn 2) (zF1 rfl B.c_SEATS.2 B.c_SEATS.1)) (zBJ (zR0 B) (by decide) hr rfl (zA1 (zB4 (zB2 (K:=K)) (pn 0) (pn 2) (fun _ _=>rfl)) (zA1 (zAM zDT (pn 1) (zF1 rfl B.c_SEATS.2 B.c_SEATS.1)) zA5))))))),(zB9 (zAA (zAK (n:=0) [1] (zAC zEO (de_v 1) (dz zA7)))
   (zCR (n:=1) [2,0,1] (zAC zB5 (dz (zAC zCQ (de_v 2) (dz zA7))) (zAQ (zA2 (zAC zB3 (de_v 0) (de_v 2)) (zA2 (zAC zCG (de_v 1) (dz zA7)) zA6)))))) h)⟩
theorem zHP:Has P w K mg base "round_of" 3 ["net","choice","end"] (sp0 K mg 1 m_round_of):=by
 letI:Kc:=⟨K⟩
 exact dfM B.S.d14 S_round_of (fun _ _ _ _ _ _=>uw3 fun _ _ _=>rfl) fun hr hu h=>⟨_,(zA3 (pst 3 S_round_of.nd (zBH (zA1 (pn 2) (zA1 (zBJ (zFE B) (by decide) hr rfl (zA1 (pn 1) (zA1 (pn 2) zA5))) zA5))))
   (zA3 (zJ7 PassesOwn.never (zDS (u_ne hu) (zB4 (zB2 (K:=K)) (pn 0) (zB4 (zB2 (K:=K)) (pn 3) (zWF zW1 zA9) (fun _ _=>rfl)) (fun _ _=>rfl)) (pn 2) (zC5 _)) (zA3 (pst 4 S_round_of.nd (zB4 (zB2 (K:=K)) (pn 0) (zB4 (zB2 (K:=K)) (pn 3) (zWF zW1 zA9) (fun _ _=>rfl)) (fun _ _=>rfl)))
   (zAE (zBZ (zG5 qAq PySem.F.slot_list_extend PySem.F.type_list_extend zWU (pn 3) (zA1 (zBH (zA1 (pn 4) (zA1 (zBJ (zFE B) (by decide) hr rfl (zA1 (pn 1) (zA1 (pn 4) zA5))) zA5))) zA5))))))
   (zAE (zB0 (pn 3))))),(zB9 (zAA (zAK (n:=1) [2,1] (zBI (n:=0) (zA2 (de_v 2) (zA2 (zAN (zAQ (zA2 (de_v 1) (zA2 (de_v 2) zA6)))) zA6))))
   (zAA (zJQ (dt_b (dz (zAC zM5 (zAC zB3 (de_v 0) (zAC zB3 (de_v 3) (dz (zXF zQ9 (dz zA7))))) (de_v 2)))) (zAA (zAK (n:=0) [0,3] (zAC zB3 (de_v 0) (zAC zB3 (de_v 3) (dz (zXF zQ9 (dz zA7))))))
   (za5 3 (n:=0) (zBI (n:=0) (zA2 (de_v 4) (zA2 (zAN (zAQ (zA2 (de_v 1) (zA2 (de_v 4) zA6)))) zA6))))))
   (zD5 3))) h)⟩
theorem zKQ:Has P w K mg base "rounds_of" 4 ["net","choice"] (sp0 K mg 1 zDL):=by
 letI:Kc:=⟨K⟩
 exact dfM B.S.d15 S_rounds_of (fun _ _ _ _ _ _=>uw2 fun _ _=>rfl) fun hr hu h=>⟨_,(zA3 (pst 2 S_rounds_of.nd (zBH zA5))
   (zA3 (pst 3 S_rounds_of.nd zED)
   (zA3 (zBL PassesOwn.never rfl (zBA rfl B.S.e4 (zA1 (zAR (zC3 (K:=K)) rfl B.S.e2 boot_len (zA1 (pn 0) zA5)) zA5)) (zAU (i:=4) S_rounds_of.nd rfl oi) (zAE (zGP (zUY (zKL (zGC hr) (pn 4) (pn 3))) (zA3 (pst 5 S_rounds_of.nd (zBJ (zHP B) (by decide) hr rfl (zA1 (pn 0) (zA1 (pn 1) (zA1 (pn 4) zA5)))))
   (zA3 (zBZ (zG5 qAq qAw qAx zDE (pn 2) (zA1 (pn 5) zA5)))
   (zAE (zBZ (zb5 qEl PySem.F.slot_dict_update PySem.F.type_dict_update (zWT rfl) (pn 3) (zA1 (zHN rfl (cn ["0","1","2","3","4","5","met"] 1 (by kernel_rfl)) (zFB (K:=K) (pn 5)) (fun _ _ _ _=>(pgn 6)) (fun _ _ _ _=>zF0) (fun _ _ _ _=>(zKK (zA1 (pn 6) (zA1 zTC zA5))))) zA5)))))) zCJ)))
   (zAE (zB0 (pn 2)))))),(zB9 (zAA (zAK (n:=9) [] (zBI (n:=8) zA6))
   (zAA (zAK (n:=1) [] zGF)
   (zAA (zD6 (zGR (zA2 (zCO zC4 (zA2 (de_v 0) zA6)) zA6)) (zGQ (dt_B (dz (zRX (de_v 4) (de_v 3)))) (zAA (zAK (n:=1) [0,1,4] (zAQ (zA2 (de_v 0) (zA2 (de_v 1) (zA2 (de_v 4) zA6)))))
   (zAA (zJR 2 [5] (de_v 5))
   (zXD 3 (zE8 (n:=1) (zFN (de_v 5)) (zC6 6) zI3 (zI7 (n:=0) (zA2 (de_v 6) (zA2 zUE zA6))))))) zDR))
   (zD5 2)))) h)⟩
theorem zEQ:Has P w K mg base "many_rounds" 5 ["net","choice"] (sp0 K mg 0 zBQ):=by
 letI:Kc:=⟨K⟩
 exact dfM B.S.d16 zK1 (fun _ _ _ _ _ _=>uw2 fun _ _=>rfl) fun hr hu h=>⟨_,(zAE (zB0 (zAR (zC3 (K:=K)) rfl B.S.e2 boot_len (zA1 (zBJ (zKQ B) (by decide) hr rfl (zA1 (pn 0) (zA1 (pn 1) zA5))) zA5)))),(zB9 (zCR (n:=0) [0,1] (zCO zC4 (zA2 (zAN (zAQ (zA2 (de_v 0) (zA2 (de_v 1) zA6)))) zA6))) h)⟩
theorem zDD:Has P w K mg base "place_order" 1 ["word"] (sp0 K mg 0 zAX):=by
 letI:Kc:=⟨K⟩
 exact dfM B.S.d17 zK0 (fun _ _ _ _ _ _=>uw1 fun _=>rfl) fun hr hu h=>⟨_,(zAE (zB0 (zJB qB5 qCp qCq zGX zEP (zA1 (zHN rfl (cn ["word","at","sign"] 2 (by kernel_rfl)) (zT7 (K:=K) rfl B.S.e0 (zA1 (pn 0) zA5)) (fun _ _ _ _=>zHM (K:=K) rfl (zCC (pgn 1) (zCC (pgn 2) zHL))) (fun _ _ _ _=>zWC (zDS (u_eq hu) (zJB qB5 qC8 qC9 zFG (pn 0) (zA1 (pn 2) zA5)) (pn 1) (zC5 _))) (fun _ _ _ _=>(pn 2))) zA5)))),(zB9 (zCR (n:=0) [0] (zJT zJ1 (dz zE7) (zA2 (zAN (zE8 (n:=0) (za8 (zA2 (de_v 0) zA6)) (zK7 (zCB 1 (zCB 2 zH8)) rfl) (dt_b (dz (zAC zKF (dz (zJT zHI (de_v 0) (zA2 (de_v 2) zA6))) (de_v 1)))) (de_v 2))) zA6))) h)⟩
theorem zMA:Has P w K mg base "entry_at" 2 ["word","at"] (sp0 K mg 1 zCX):=by
 letI:Kc:=⟨K⟩
 exact dfM B.S.d18 S_entry_at (fun _ _ _ _ _ _=>uw2 fun _ _=>rfl) fun hr hu h=>⟨_,(zA3 (pst 2 S_entry_at.nd (zJB qB5 qC8 qC9 zFG (zBJ (zDD B) (by decide) hr rfl (zA1 (pn 0) zA5)) (zA1 (zB4 (zB2 (K:=K)) (pn 0) (pn 1) (fun _ _=>rfl)) zA5)))
   (zAE (zB0 (zAM zCF (zAM zCP (pn 2) (zF1 rfl B.c_SEATS.2 B.c_SEATS.1)) (zTB (zDS (u_eq hu) (zJB qB5 qC8 qC9 zFG (pn 0) (zA1 (zB4 (zB2 (K:=K)) (pn 0) (pn 1) (fun _ _=>rfl)) zA5)) (pn 1) (zC5 _)) zA9 zA9))))),(zB9 (zAA (zAK (n:=0) [0,1] (zJT zHI (zAQ (zA2 (de_v 0) zA6)) (zA2 (zAC zB3 (de_v 0) (de_v 1)) zA6)))
   (zCR (n:=1) [2,1,0] (zAC zB5 (dz (zAC zCQ (de_v 2) (dz zA7))) (dz (zaB (dt_b (dz (zAC zKF (dz (zJT zHI (de_v 0) (zA2 (zAC zB3 (de_v 0) (de_v 1)) zA6))) (de_v 1)))) zA7 zA7))))) h)⟩
theorem zHQ:HasX P w K mg base "net_by" 3 ["word"] (spE K mg 1 zDA):=by
 letI:Kc:=⟨K⟩
 exact dfX B.S.d19 S_net_by (fun _ _ _ _ _ _=>uw1 fun _=>rfl) fun hr hu h=>⟨_,(zA3 (zGP (zDS u_gt (zAR (zC3 (K:=K)) rfl B.S.e2 boot_len (zA1 (zBJ (zDD B) (by decide) hr rfl (zA1 (pn 0) zA5)) zA5)) (zF1 rfl B.c_MOST_PLACES.2 B.c_MOST_PLACES.1) (zC5 _)) (zAE (zNO (zZ5 B.z_TooMany rfl (zA1 zEP zA5)) zE5 rfl)) zCJ)
   (zA3 (zG3 (i:=1) S_net_by.nd rfl oi rfl (cn ["word","1","2","3","4","5","at"] 1 (by kernel_rfl)) (zBA rfl B.S.e4 (zA1 (zAR (zC3 (K:=K)) rfl B.S.e2 boot_len (zA1 (pn 0) zA5)) zA5)) (fun _ _ _ _=>(pgn 6)) (fun _ _ _ _=>zF0) (fun _ _ _ _=>(zBJ (zMA B) (by decide) hr rfl (zA1 (pn 0) (zA1 (pn 6) zA5)))))
   (zA3 (pst 2 S_net_by.nd (zAM zSO (zBH (zA1 zA9 zA5)) (zAM zCP zA9 (zAR (zC3 (K:=K)) rfl B.S.e2 boot_len (zA1 (pn 0) zA5)))))
   (zA3 (zBL zJC rfl (zT8 (K:=K) rfl B.S.e0 (zA1 (pn 1) zA5)) (zHM (K:=K) rfl (zCC (zAU (i:=3) S_net_by.nd rfl oi) (zCC (zAU (i:=4) S_net_by.nd rfl oi) zHL))) (zA3 (pst 5 S_net_by.nd (zAM zCF (zB4 (zB2 (K:=K)) (pn 1) (zAM zSN (pn 3) zA9) (fun _ _=>rfl)) zA9))
   (zA3 (zGL (pn 4) (zKJ (pn 2) (pn 5) zPP))
   (zAE (zGL (pn 5) (zKJ (pn 2) (pn 4) zPP))))))
   (zAE (zB0 (pn 2))))))),(zB9 (zAA (zGQ (dt_b (dz (zAC zQA (dz (zCO zC4 (zA2 (zCE (zA2 (de_v 0) zA6)) zA6))) (dz zA7)))) (zRS B.z_TooMany (zA2 zE7 zA6)) zDR)
   (zAA (zAK (n:=2) [0,3] (zE8 (n:=1) (zGR (zA2 (zCO zC4 (zA2 (de_v 0) zA6)) zA6)) (zC6 6) zI3 (zCE (zA2 (de_v 0) (zA2 (de_v 6) zA6)))))
   (zAA (zAK (n:=1) [0] (zAC zNE (zBI (n:=0) (zA2 zA7 zA6)) (dz (zAC zCQ (dz zA7) (dz (zCO zC4 (zA2 (de_v 0) zA6)))))))
   (zAA (zIO [1] (zbP (zA2 (de_v 1) zA6)) (zK7 (zCB 3 (zCB 4 zH8)) rfl) (zAA (zAK (n:=1) [1,3] (zAC zB5 (zAC zB3 (de_v 1) (dz (zAC zND (de_v 3) (dz zA7)))) (dz zA7)))
   (zAA (zI4 2 (n:=0) (de_v 5) (de_v 4))
   (zI4 2 (n:=0) (de_v 4) (de_v 5)))))
   (zD5 2))))) h)⟩
theorem zF3:HasX P w K mg base "_law_same_rounds" 6 ["_law_script","_law_net","_law_choice","_law_word_here"] (spE K mg 0 zC1):=by
 letI:Kc:=⟨K⟩
 exact dfX B.S.d20 S__law_same_rounds (fun _ _ _ _ _ _=>uw4 fun _ _ _ _=>rfl) fun hr hu h=>⟨_,(zA3 (pst 4 S__law_same_rounds.nd (zBJ (zDD B) (by decide) hr rfl (zA1 (pn 3) zA5)))
   (zA3 (pst 5 S__law_same_rounds.nd (zBJ (zG8 B) (by decide) hr rfl (zA1 (pn 1) (zA1 (pn 2) (zA1 (pn 4) zA5)))))
   (zA3 (zG3 (i:=6) S__law_same_rounds.nd rfl oi rfl (cn ["_law_script","1","2","3","4","5","6","7","8","9","10","11","12","_law_k"] 1 (by kernel_rfl)) (zBA rfl B.S.e4 (zA1 (zAR (zC3 (K:=K)) rfl B.S.e2 boot_len (zA1 (pn 4) zA5)) zA5)) (fun _ _ _ _=>(pgn 13)) (fun _ _ _ _=>zF0) (fun _ _ _ _=>(zAM zDT (zBJ (zBM B) (by decide) hr rfl (zA1 (pn 0) (zA1 (zAM zCF zA9 (pn 13)) zA5))) zA9)))
   (zA3 (pst 7 S__law_same_rounds.nd (zFD (zMF (K:=K) rfl) rfl B.S.e3 boot_list (zA1 (pn 2) zA5)))
   (zA3 (zBL zJC rfl (zBA rfl B.S.e4 (zA1 (zAR (zC3 (K:=K)) rfl B.S.e2 boot_len (zA1 (pn 4) zA5)) zA5)) (zAU (i:=8) S__law_same_rounds.nd rfl oi) (zA3 (pst 9 S__law_same_rounds.nd (zJB qB5 qC8 qC9 zFG zEP (zA1 (zB4 (zB2 (K:=K)) (pn 4) (pn 8) (fun _ _=>rfl)) zA5)))
   (zA3 (pst 10 S__law_same_rounds.nd zED)
   (zA3 (zBL zJC rfl (zQP rfl B.S.e4 (zA1 (zAM zCP zA9 (pn 9)) (zA1 (zAM zCF (zAM zCP zA9 (pn 9)) zA9) zA5))) (zAU (i:=11) S__law_same_rounds.nd rfl oi) (zAE (zG4 (zGC hr) (pn 10) (zM6 (zGC hr) (pn 5) (pn 11) (fun _ _=>rfl)) (pn 11) rfl)))
   (zAE (zBL zJC rfl (zBA rfl B.S.e4 (zA1 zA9 zA5)) (zAU (i:=12) S__law_same_rounds.nd rfl oi) (zA3 (zGL (pn 12) (zKJ (pn 7) (pn 9) zPP))
   (zAE (zGP (zDS (u_eq hu) (zBJ (zES B) (by decide) hr rfl (zA1 (pn 7) (zA1 (zM6 (zGC hr) (pn 10) zA9 (fun _ _=>rfl)) zA5))) (zM6 (zGC hr) (pn 10) (zB4 (zB2 (K:=K)) (zBH (zA1 zA9 (zA1 zA9 (zA1 zA9 zA5)))) (zB4 (zB2 (K:=K)) (pn 6) (pn 8) (fun _ _=>rfl)) (fun _ _=>rfl)) (fun _ _=>rfl)) (zC5 _)) (zAE zT5) zCJ)))))))))
   (zAE (zB0 (zQS (u_eq hu) (zBJ (zEQ B) (by decide) hr rfl (zA1 (zGM (zHQ B) (by decide) hr zE5 rfl (zA1 (pn 3) zA5)) (zA1 (pn 6) zA5))) (zAR (zC3 (K:=K)) rfl B.S.e2 boot_len (zA1 (zBJ (zER B) (by decide) hr rfl (zA1 (pn 1) (zA1 (pn 7) zA5))) zA5)) (zC5 _))))))))),(zB9 (zAA (zAK (n:=0) [3] (zCE (zA2 (de_v 3) zA6)))
   (zAA (zAK (n:=1) [1,2,4] (zCE (zA2 (de_v 1) (zA2 (de_v 2) (zA2 (de_v 4) zA6)))))
   (zAA (zAK (n:=1) [8,0,4] (zE8 (n:=0) (zGR (zA2 (zCO zC4 (zA2 (de_v 4) zA6)) zA6)) (zC6 13) zI3 (zAC zCG (zCE (zA2 (de_v 0) (zA2 (zAN (zAC zB5 (dz zA7) (de_v 13))) zA6))) (dz zA7))))
   (zAA (zAK (n:=1) [2] (zCO zMU (zA2 (de_v 2) zA6)))
   (zAA (zD6 (zGR (zA2 (zCO zC4 (zA2 (de_v 4) zA6)) zA6)) (zAA (zAK (n:=0) [4,8] (zJT zHI (dz zE7) (zA2 (zAC zB3 (de_v 4) (de_v 8)) zA6)))
   (zAA (zAK (n:=1) [] zGF)
   (zAA (zD6 (zbO (zA2 (zAC zCQ (dz zA7) (de_v 9)) (zA2 (zAN (zAC zB5 (dz (zAC zCQ (dz zA7) (de_v 9))) (dz zA7))) zA6))) (zGE 10 (dz (zRY (de_v 5) (de_v 11))) (de_v 11)))
   (zD6 (zGR (zA2 zA7 zA6)) (zAA (zI4 7 (n:=0) (de_v 9) (de_v 12))
   (zGQ (dt_b (dz (zAC zKF (zCE (zA2 (de_v 7) (zA2 (zRY (de_v 10) (dz zA7)) zA6))) (dz (zRY (de_v 10) (zAC zB3 (zBI (n:=0) (zA2 zA7 (zA2 zA7 (zA2 zA7 zA6)))) (zAC zB3 (de_v 6) (de_v 8)))))))) zU8 zDR)))))))
   (zCR (n:=0) [6,3,1,7] (zAC zKF (zCE (zA2 (zAN (zDC (zA2 (de_v 3) zA6))) (zA2 (de_v 6) zA6))) (dz (zCO zC4 (zA2 (zAN (zCE (zA2 (de_v 1) (zA2 (de_v 7) zA6)))) zA6)))))))))) h)⟩
theorem zKR:Has P w K mg base "_law_word" 3 ["_law_script","_law_at","_law_n"] (sp0 K mg 0 zDF):=by
 letI:Kc:=⟨K⟩
 exact dfM B.S.d21 S__law_word (fun _ _ _ _ _ _=>uw3 fun _ _ _=>rfl) fun hr hu h=>⟨_,(zA3 (pst 3 S__law_word.nd zEP)
   (zA3 (pst 4 S__law_word.nd (zBJ (zBM B) (by decide) hr rfl (zA1 (pn 0) (zA1 (pn 1) zA5))))
   (zA3 (pst 5 S__law_word.nd zEP)
   (zA3 (zBL PassesOwn.never rfl (zBA rfl B.S.e4 (zA1 (pn 2) zA5)) (zAU (i:=6) S__law_word.nd rfl oi) (zA3 (pst 7 S__law_word.nd (zAM zDT (pn 4) (zAR (zC3 (K:=K)) rfl B.S.e2 boot_len (zA1 (pn 3) zA5))))
   (zA3 (pst 4 S__law_word.nd (zAM zEN (pn 4) (zAR (zC3 (K:=K)) rfl B.S.e2 boot_len (zA1 (pn 3) zA5))))
   (zA3 (pst 5 S__law_word.nd (zAM zCF (pn 5) (zB4 (zB2 (K:=K)) (pn 3) (pn 7) (fun _ _=>rfl))))
   (zAE (pst 3 S__law_word.nd (zAM zCF (zGV (u_sl (K:=K)) (pn 3) zJA (zJ9 (pn 7))) (zGV (u_sl (K:=K)) (pn 3) (zJ9 (zAM zCF (pn 7) zA9)) zJA))))))))
   (zAE (zB0 (zJB qB5 qCp qCq zGX zEP (zA1 (zHN rfl (cn ["0","1","2","3","4","_law_letters","6","7","_law_place"] 1 (by kernel_rfl)) (zFB (K:=K) (zBJ (zHR B) (by decide) hr rfl (zA1 (pn 0) (zA1 (zAM zCF (pn 1) zA9) (zA1 (pn 2) zA5))))) (fun _ _ _ _=>(pgn 8)) (fun _ _ _ _=>zF0) (fun _ _ _ _=>(zB4 (zB2 (K:=K)) (pn 5) (pn 8) (fun _ _=>rfl)))) zA5)))))))),(zB9 (zAA (zAK (n:=0) [] zE7)
   (zAA (zAK (n:=1) [0,1] (zAQ (zA2 (de_v 0) (zA2 (de_v 1) zA6))))
   (zAA (zAK (n:=0) [] zE7)
   (zAA (zD6 (zGR (zA2 (de_v 2) zA6)) (zAA (zAK (n:=0) [4,3] (zAC zCG (de_v 4) (dz (zCO zC4 (zA2 (de_v 3) zA6)))))
   (zAA (zAK (n:=0) [4,3] (zAC zEO (de_v 4) (dz (zCO zC4 (zA2 (de_v 3) zA6)))))
   (zAA (zAK (n:=1) [5,3,7] (zAC zB5 (de_v 5) (zAC zB3 (de_v 3) (de_v 7))))
   (zAK (n:=1) [3,7] (zAC zB5 (zUC (de_v 3) zU9 (do_e (de_v 7))) (zUC (de_v 3) (do_e (zAC zB5 (de_v 7) (dz zA7))) zU9)))))))
   (zCR (n:=0) [5,0,2,1] (zJT zJ1 (dz zE7) (zA2 (zAN (zE8 (n:=0) (zFN (zAQ (zA2 (de_v 0) (zA2 (zAN (zAC zB5 (de_v 1) (dz zA7))) (zA2 (de_v 2) zA6))))) (zC6 8) zI3 (zAC zB3 (de_v 5) (de_v 8)))) zA6))))))) h)⟩
theorem zIB:HasX P w K mg base "refuse_many" 6 ["net","choice"] (spE K mg 0 zCU):=by
 letI:Kc:=⟨K⟩
 exact dfX B.S.d22 S_refuse_many (fun _ _ _ _ _ _=>uw2 fun _ _=>rfl) fun hr hu h=>⟨_,(zA3 (pst 2 S_refuse_many.nd (zBJ (zEQ B) (by decide) hr rfl (zA1 (pn 0) (zA1 (pn 1) zA5))))
   (zAE (zGP (zDS (u_ne hu) (pn 2) zA9 (zC5 _)) (zAE (zNO (zZ4 B.x_NoOne hr (by decide) zE5 rfl (zA1 (pn 2) zA5)) zE5 rfl)) zCJ))),(zB9 (zAA (zAK (n:=0) [0,1] (zCE (zA2 (de_v 0) (zA2 (de_v 1) zA6))))
   (zGQ (dt_b (dz (zAC zM5 (de_v 2) (dz zA7)))) (zRR B.x_NoOne (zA2 (de_v 2) zA6)) zDR)) h)⟩
theorem zG7:HasX P w K mg base "word_by" 7 ["net","choice"] (spE K mg 0 zCH):=by
 letI:Kc:=⟨K⟩
 exact dfX B.S.d23 zSE (fun _ _ _ _ _ _=>uw2 fun _ _=>rfl) fun hr hu h=>⟨_,(zA3 (zBZ (zGM (zIB B) (by decide) hr zE5 rfl (zA1 (pn 0) (zA1 (pn 1) zA5))))
   (zAE (zB0 (zJB qB5 qCp qCq zGX zEP (zA1 (zHN rfl (cn ["0","1","end"] 1 (by kernel_rfl)) (zFB (K:=K) (zZ3 (zBJ (zHP B) (by decide) hr rfl (zA1 (pn 0) (zA1 (pn 1) (zA1 zA9 zA5)))) zA9)) (fun _ _ _ _=>(pgn 2)) (fun _ _ _ _=>zF0) (fun _ _ _ _=>(zB4 (zB2 (K:=K)) (zF1 rfl B.c_SMALL_LETTERS.2 B.c_SMALL_LETTERS.1) (zAM zEN (pn 2) (zF1 rfl B.c_SEATS.2 B.c_SEATS.1)) (fun _ _=>rfl)))) zA5))))),(zB9 (zAA (zXE (zDC (zA2 (de_v 0) (zA2 (de_v 1) zA6))))
   (zCR (n:=0) [0,1] (zJT zJ1 (dz zE7) (zA2 (zAN (zE8 (n:=0) (zFN (zAC zYE (zCE (zA2 (de_v 0) (zA2 (de_v 1) (zA2 zA7 zA6)))) (dz zA7))) (zC6 2) zI3 (zAC zB3 (dz zE7) (dz (zAC zEO (de_v 2) (dz zA7)))))) zA6)))) h)⟩
theorem zZG{f:Addr}{fd:FuncData}(F:Fun K "law" "law" (top 35) f fd):FnOk P w K mg base CX0 8 f fd ["_law_script"] (zKB K):=by
 letI:Kc:=⟨K⟩
 refine(F.ok S_law (sp:=sp0 K mg 0 zL1) (fun vs H Q E h=>zM3 h) (fun cdv A outer s H vs Q E hr h=>?_)).imp (zTP zTO);have hu:=hr.units;exact⟨_,(zA3 (pst 1 S_law.nd (zAM zCF zA9 (zAM zDT (zBJ (zBM B) (by decide) hr rfl (zA1 (pn 0) (zA1 zA9 zA5))) zA9)))
   (zA3 (pst 2 S_law.nd (zBJ (zKR B) (by decide) hr rfl (zA1 (pn 0) (zA1 zA9 (zA1 (pn 1) zA5)))))
   (zA3 (zGP (zDS (u_ne hu) (zGM (zG7 B) (by decide) hr zIN rfl (zA1 (zGM (zHQ B) (by decide) hr zIN rfl (zA1 (pn 2) zA5)) (zA1 (zAM zSO (zBH (zA1 zA9 zA5)) (pn 1)) zA5))) (zBJ (zE1 B) (by decide) hr rfl (zA1 (pn 2) zA5)) (zC5 _)) (zAE (zB0 zTC)) zCJ)
   (zA3 (zGL (zBJ (zMB B) (by decide) hr rfl (zA1 (pn 0) (zA1 (pn 1) zA5))) (zHM (K:=K) rfl (zCC (zAU (i:=3) S_law.nd rfl oi) (zCC (zAU (i:=4) S_law.nd rfl oi) zHL))))
   (zA3 (zBL PassesOwn.never rfl (zBA rfl B.S.e4 (zA1 (zAM zDT (zBJ (zBM B) (by decide) hr rfl (zA1 (pn 0) (zA1 zA9 zA5))) zA9) zA5)) (zAU (i:=5) S_law.nd rfl oi) (zAE (pst 4 S_law.nd (zB4 (zB2 (K:=K)) (zBJ (zJF B) (by decide) hr rfl (zA1 (pn 3) (zA1 (pn 4) (zA1 (zAM zDT (zBJ (zBM B) (by decide) hr rfl (zA1 (pn 0) (zA1 (zAM zCF zA9 (pn 5)) zA5))) (pn 1)) zA5)))) zA9 (fun _ _=>rfl)))))
   (zA3 (pst 2 S_law.nd (zGM (zG7 B) (by decide) hr zIN rfl (zA1 (zFD (zMF (K:=K) rfl) rfl B.S.e3 boot_list (zA1 (pn 3) zA5)) (zA1 (zFD (zMF (K:=K) rfl) rfl B.S.e3 boot_list (zA1 (pn 4) zA5)) zA5))))
   (zA3 (zGP (zDS (u_ne hu) (zGM (zG7 B) (by decide) hr zIN rfl (zA1 (zGM (zHQ B) (by decide) hr zIN rfl (zA1 (pn 2) zA5)) (zA1 (zAM zSO (zBH (zA1 zA9 zA5)) (pn 1)) zA5))) (zBJ (zE1 B) (by decide) hr rfl (zA1 (pn 2) zA5)) (zC5 _)) (zAE (zB0 zTC)) zCJ)
   (zAE (zB0 (zGM (zF3 B) (by decide) hr zIN rfl (zA1 (pn 0) (zA1 (pn 3) (zA1 (pn 4) (zA1 (pn 2) zA5)))))))))))))),(zB9 (zAA (zAK (n:=1) [0] (zAC zB5 (dz zA7) (dz (zAC zCG (zAQ (zA2 (de_v 0) (zA2 zA7 zA6))) (dz zA7)))))
   (zAA (zAK (n:=0) [0,1] (zAQ (zA2 (de_v 0) (zA2 zA7 (zA2 (de_v 1) zA6)))))
   (zAA (zGQ (dt_b (dz (zAC zM5 (zDC (zA2 (zAN (zDC (zA2 (de_v 2) zA6))) (zA2 (zAN (zAC zNE (zBI (n:=0) (zA2 zA7 zA6)) (de_v 1))) zA6))) (zAQ (zA2 (de_v 2) zA6))))) (zCR (n:=0) [] zUE) zDR)
   (zAA (zRQ [0,1] (zK7 (zCB 3 (zCB 4 zH8)) rfl) (zAQ (zA2 (de_v 0) (zA2 (de_v 1) zA6))))
   (zAA (zD6 (zGR (zA2 (zAC zCG (zAQ (zA2 (de_v 0) (zA2 zA7 zA6))) (dz zA7)) zA6)) (zAK (n:=0) [3,4,1,0,5] (zAC zB3 (zAQ (zA2 (de_v 3) (zA2 (de_v 4) (zA2 (zAC zCG (zAQ (zA2 (de_v 0) (zA2 (zAN (zAC zB5 (dz zA7) (de_v 5))) zA6))) (de_v 1)) zA6)))) (dz zA7))))
   (zAA (zAK (n:=0) [3,4] (zDC (zA2 (zAN (zCO zMU (zA2 (de_v 3) zA6))) (zA2 (zAN (zCO zMU (zA2 (de_v 4) zA6))) zA6))))
   (zAA (zGQ (dt_b (dz (zAC zM5 (zDC (zA2 (zAN (zDC (zA2 (de_v 2) zA6))) (zA2 (zAN (zAC zNE (zBI (n:=0) (zA2 zA7 zA6)) (de_v 1))) zA6))) (zAQ (zA2 (de_v 2) zA6))))) (zCR (n:=0) [] zUE) zDR)
   (zCR (n:=0) [0,3,4,2] (zDC (zA2 (de_v 0) (zA2 (de_v 3) (zA2 (de_v 4) (zA2 (de_v 2) zA6))))))))))))) h)⟩
end
theorem all_mk{l:qF5}{w:World}{K:qA2}{h:Heap}{mg:Str->Option Value}{fa f24 f25 a_RoundError a_NoOne a_TooMany:Addr}{dd_RoundError dd_NoOne dd_TooMany:Option Addr}{cd_RoundError cd_NoOne cd_TooMany:ClassData}{sl_RoundError sl_NoOne sl_TooMany:Array (Option Value)}(X:K.In h)(G:h.Ns mainGlobals mg)(hfa:mg "law" = some (.ref fa))
  {od24 an24 od25 an25:Option Addr} {sl24 sl25:Array (Option Value)} {oc24 kV24 dc24 pm24 cd24 ct24 oc25 kV25 dc25 pm25 cd25 ct25:Value} {t0 t1 t2:Tok}
  (S:Bd K mg)
  (a24:qC7 K mainGlobals "law" = some (some (.ref f24)))
  (l24:K.lookup f24=some ⟨oc24,od24,.func (qBk "law" "law" (zCM (top 35)) (zBE (top 35)) (zAB (top 35)) .none kV24 dc24 pm24 an24 cd24 ct24),sl24⟩)
  (c24:qCz K cd24 "law" = true)
  (k24:qB0 K (.ref f24)=true)
  (y0:qC7 K mainGlobals "MOST_PLACES" = some (some (.int 8 t0)))
  (y1:qC7 K mainGlobals "SEATS" = some (some (.int 4 t1)))
  (y2:qC7 K mainGlobals "SMALL_LETTERS" = some (some (.str "abcdefghijklmnopqrstuvwxyz" t2)))
  (xa_RoundError:qC7 K mainGlobals "RoundError" = some (some (.ref a_RoundError)))
  (xl_RoundError:K.lookup a_RoundError=some ⟨.type "type",dd_RoundError,.cls cd_RoundError,sl_RoundError⟩)
  (xd_RoundError:xcD a_RoundError cd_RoundError sl_RoundError=true)
  (xn_RoundError:qDz K a_RoundError=some cd_RoundError)
  (xo_RoundError:PySem.W.excTail cd_RoundError.mro=true)
  (xt_RoundError:qFh K (.ref a_RoundError)=some (.type "type"))
  (xg_RoundError:qAj K (.ref a_RoundError) "__getattribute__" = some (some (.builtin "BaseException.__getattribute__")))
  (xh_RoundError:qAj K (.ref a_RoundError) "__getattr__" = some none)
  (xj_RoundError:qDi K a_RoundError=true)
  (xm_RoundError:qAj K (.ref a_RoundError) "__class__" = some (some (.builtin "object.__class__")))
  (xp_RoundError:qDy K a_RoundError (.type "object")=some true)
  (xv_RoundError:qDe K (.ref a_RoundError) (.type "ValueError")=some true)
  (xw_RoundError:qDe K (.ref a_RoundError) (.type "BaseException")=some true)
  (xa_NoOne:qC7 K mainGlobals "NoOne" = some (some (.ref a_NoOne)))
  (xl_NoOne:K.lookup a_NoOne=some ⟨.type "type",dd_NoOne,.cls cd_NoOne,sl_NoOne⟩)
  (xd_NoOne:xcD a_NoOne cd_NoOne sl_NoOne=true)
  (xn_NoOne:qDz K a_NoOne=some cd_NoOne)
  (xo_NoOne:PySem.W.excTail cd_NoOne.mro=true)
  (xt_NoOne:qFh K (.ref a_NoOne)=some (.type "type"))
  (xg_NoOne:qAj K (.ref a_NoOne) "__getattribute__" = some (some (.builtin "BaseException.__getattribute__")))
  (xh_NoOne:qAj K (.ref a_NoOne) "__getattr__" = some none)
  (xj_NoOne:qDi K a_NoOne=true)
  (xm_NoOne:qAj K (.ref a_NoOne) "__class__" = some (some (.builtin "object.__class__")))
  (xp_NoOne:qDy K a_NoOne (.type "object")=some true)
  (xv_NoOne:qDe K (.ref a_NoOne) (.type "ValueError")=some true)
  (xw_NoOne:qDe K (.ref a_NoOne) (.type "BaseException")=some true)
  (xa_TooMany:qC7 K mainGlobals "TooMany" = some (some (.ref a_TooMany)))
  (xl_TooMany:K.lookup a_TooMany=some ⟨.type "type",dd_TooMany,.cls cd_TooMany,sl_TooMany⟩)
  (xd_TooMany:xcD a_TooMany cd_TooMany sl_TooMany=true)
  (xn_TooMany:qDz K a_TooMany=some cd_TooMany)
  (xo_TooMany:PySem.W.excTail cd_TooMany.mro=true)
  (xt_TooMany:qFh K (.ref a_TooMany)=some (.type "type"))
  (xg_TooMany:qAj K (.ref a_TooMany) "__getattribute__" = some (some (.builtin "BaseException.__getattribute__")))
  (xh_TooMany:qAj K (.ref a_TooMany) "__getattr__" = some none)
  (xj_TooMany:qDi K a_TooMany=true)
  (xm_TooMany:qAj K (.ref a_TooMany) "__class__" = some (some (.builtin "object.__class__")))
  (xp_TooMany:qDy K a_TooMany (.type "object")=some true)
  (xv_TooMany:qDe K (.ref a_TooMany) (.type "ValueError")=some true)
  (xw_TooMany:qDe K (.ref a_TooMany) (.type "BaseException")=some true)
  (ycg:qCb K (.builtin "object.__class__") "__get__" = some (some (.builtin "getset_descriptor.__get__")))
  (yct:qEz K (.builtin "object.__class__")=some true)
  (zk_TooMany:qB0 K (.ref a_TooMany)=true)
  (zi_TooMany:qAj K (.ref a_TooMany) "__init__" = some (some (.builtin "ValueError.__init__")))
  (xc_NoOne:qAj K (.ref a_NoOne) "__setattr__" = some (some (.builtin "object.__setattr__")))
  (xq_NoOne:qGn K a_NoOne "many" = some none)
  (xr_NoOne:qAj K (.ref a_NoOne) "many" = some none)
  (xs_NoOne:qB0 K (.ref a_NoOne)=true)
  (xi_NoOne:qAj K (.ref a_NoOne) "__init__" = some (some (.ref f25)))
  (xf_NoOne:qDo K (.ref f25)=true)
  (l25:K.lookup f25=some ⟨oc25,od25,.func (qBk "__init__" "NoOne.__init__" (zCM zEB) (zBE zEB) (zAB zEB) .none kV25 dc25 pm25 an25 cd25 ct25),sl25⟩)
  (c25:qCz K cd25 "NoOne.__init__" = true)
  (k25:qB0 K (.ref f25)=true)
  (wg_RoundError:qCb K (.ref a_RoundError) "__getattribute__" = some (some (.builtin "type.__getattribute__")))
  (wr_RoundError:qGl K a_RoundError (.type "type")=true)
  (wf_RoundError:qGm K (.ref a_RoundError) (.type "type") "__init__" = some (.val (.builtin "ValueError.__init__")))
  :∃fd:FuncData,(∀(s:Shared)(v:Value),BindsTo s fd ⟨[v],[]⟩ [("_law_script",v)])/\∀base:Heap,K.In base->base.Ns mainGlobals mg->FnOk l.prog w K mg base CX0 8 fa fd ["_law_script"] (zKB K):=by
 have e:=hfa.symm.trans (qCl X G a24);cases e;have c_MOST_PLACES:RelV (V.int 8) (.int 8 t0)/\mg "MOST_PLACES" = some (.int 8 t0):=⟨⟨_,rfl⟩,qCl X G y0⟩
 have c_SEATS:RelV (V.int 4) (.int 4 t1)/\mg "SEATS" = some (.int 4 t1):=⟨⟨_,rfl⟩,qCl X G y1⟩
 have c_SMALL_LETTERS:RelV (V.str "abcdefghijklmnopqrstuvwxyz") (.str "abcdefghijklmnopqrstuvwxyz" t2)/\mg "SMALL_LETTERS" = some (.str "abcdefghijklmnopqrstuvwxyz" t2):=⟨⟨_,rfl⟩,qCl X G y2⟩
 have i_RoundError:Xc.XIs K a_RoundError:=⟨zLW xl_RoundError xd_RoundError,xg_RoundError,xh_RoundError,xj_RoundError,xm_RoundError,ycg,yct,xp_RoundError⟩
 have i_NoOne:Xc.XIs K a_NoOne:=⟨zLW xl_NoOne xd_NoOne,xg_NoOne,xh_NoOne,xj_NoOne,xm_NoOne,ycg,yct,xp_NoOne⟩
 have i_TooMany:Xc.XIs K a_TooMany:=⟨zLW xl_TooMany xd_TooMany,xg_TooMany,xh_TooMany,xj_TooMany,xm_TooMany,ycg,yct,xp_TooMany⟩
 have n_RoundError:XCls K mg "RoundError" a_RoundError:=⟨zXK xa_RoundError,qCl X G xa_RoundError,i_RoundError⟩
 have n_NoOne:XCls K mg "NoOne" a_NoOne:=⟨zXK xa_NoOne,qCl X G xa_NoOne,i_NoOne⟩
 have n_TooMany:XCls K mg "TooMany" a_TooMany:=⟨zXK xa_TooMany,qCl X G xa_TooMany,i_TooMany⟩
 have z_TooMany:XNo K mg "TooMany" a_TooMany:=⟨n_TooMany,zk_TooMany,zi_TooMany⟩
 have w_RoundError:XBase K a_RoundError:=⟨wg_RoundError,wr_RoundError,wf_RoundError,zbH⟩
 refine⟨qBk "law" "law" (zCM (top 35)) (zBE (top 35)) (zAB (top 35)) .none kV24 dc24 pm24 an24 cd24 ct24,fun s v=>.of_eq rfl,fun base _ _=>?_⟩;have F_NoOne:=zRK (x:="__init__") (qual:="NoOne.__init__") (st:=zEB) l25 c25 k25;have x_NoOne:XIni l.prog w K mg base "NoOne" "many" a_NoOne:=⟨n_NoOne,xs_NoOne,⟨xc_NoOne,zWG xn_NoOne xo_NoOne,xq_NoOne,xj_NoOne⟩,xr_NoOne,f25,_,["self","many"],xi_NoOne,xf_NoOne,zJD F_NoOne w_RoundError n_RoundError.gm,F_NoOne.binds (fun _ _ _ _ _ _=>uw2 fun _ _=>rfl)⟩
 exact zZG ⟨S,_,_,_,_,_,c_SEATS,c_MOST_PLACES,z_TooMany,x_NoOne,c_SMALL_LETTERS⟩ (zRK (st:=(top 35)) l24 c24 k24)
theorem walk{l:qF5}{q:Program}{loose:List Str}{XP:(Str->Option Value)->Heap->Prop}{YP:World->Heap->Prop}{d:DefRec}{K:Params->qA2}(hn:l.most=some 63)(hdf:d.params.defaults=[])
  (hY:∀(w:World)(h:Heap),YP w h->(K w.params).In h)
  (F:∀(w:World)(mg:Str->Option Value)(fa:Addr)(h:Heap),(K w.params).In h->h.Ns mainGlobals mg->mg d.name=some (.ref fa) ->
   ∃fd:FuncData,(∀(s:Shared)(u:Value),BindsTo s fd ⟨[u],[]⟩ [("_law_script",u)])/\∀base:Heap,(K w.params).In base->base.Ns mainGlobals mg->FnOk l.prog w (K w.params) mg base CX0 8 fa fd ["_law_script"] (zKB (K w.params))) :
  qHl q loose XP YP l.row.toRowW d [] (fun f vs=>qHk f vs):=
 L2.walk_ofW (n:=63) (k:=8) (x:="_law_script") (CX:=fun _=>CX0) (sp:=fun w=>zKB (K w.params)) hn (by decide) hdf ⟨rfl,by decide,by decide⟩ hY F (fun _ _ a ns hl hw _ hS=>⟨a,ns,rfl,hS,hl,hw,fun _=>rfl⟩) fun _ _ _ _ _ z=>z
end Q19
open PySem PySem.W PyProof.Rows
set_option maxRecDepth 100000 in
set_option maxHeartbeats 0 in
theorem PySem.Challenge.cw_fourway_k19_whole_word_read_again_holds : PySem.Challenge.rw_fourway_k19_whole_word_read_again.Holds := by
 w_on;o_law;k_head;(case hw=>w_witness2)
 k_fill
 refine Q19.walk (l:=qC1) rfl rfl (fun w h Y=>PySem.W.kIn_of Y) ?F
 case F=>
  intro w mg fa h KX G hmg;refine' Q19.all_mk KX G hmg (by constructor<;>first|exact L3.mkD KX G (by k_is) (by k_is) (by k_is) (by k_is)|exact PySem.W.mg_none_of KX G (by k_is)) (by k_is) (by k_is) (by k_is) (by k_is) (by k_is) (by k_is) (by k_is) (by k_is) (by k_is) (by rfl) (by k_is) (by rfl) (by k_is) (by k_is) (by k_is) (by k_is) (by k_is) (by k_is) (by k_is) (by k_is) (by k_is) (by k_is) (by rfl) (by k_is) (by rfl) (by k_is) (by k_is) (by k_is) (by k_is) (by k_is) (by k_is) (by k_is) (by k_is) (by k_is) (by k_is) (by rfl) (by k_is) (by rfl) (by k_is) (by k_is) (by k_is) (by k_is) (by k_is) (by k_is) (by k_is) (by k_is) (by k_is) (by k_is) (by k_is) (by k_is) (by k_is) (by k_is) (by k_is) (by k_is) (by k_is) (by k_is) (by k_is) (by k_is) (by k_is) (by k_is) (by k_is) (by k_is)
