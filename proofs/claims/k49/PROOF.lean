import PyProof.Rows.All
import Wide.All
import OpenK.AllK
import Wide.FinOn
import Lean
import PyProof.EqAt
import PyProof.EqKinds
import PyProof.TupleCall
import PyProof.NeKinds
import PySem.Challenge.RW_fourway_k49_whole_sets_leave_one_round
set_option Elab.async false
set_option linter.all false
set_option maxRecDepth 100000
open Array renaming length_toList->qB2,getElem?_toList->qB6,getElem?_eq_some_iff->qBm,toList_push->qG5,toList->qG8
open Bool renaming false_ne_true->qAe,and_eq_true->qBc,and_false->qCu,eq_iff_iff->qD4,and_true->qEf,or_true->qF3,false_eq_true->qFu,or_eq_true->qGl,or_false->qHl
open Char renaming toNat->qI2
open Classical renaming propDecidable->qA4,byContradiction->qE8,axiomOfChoice->qEl
open Eq renaming trans->qGj
open False renaming elim->qA3
open ForInStep renaming yield->qCn
open Int renaming toNat_natCast->qBo,emod_lt_of_pos->qCk,emod_nonneg->qDb,add_zero->qE5,natCast_pos->qFa,mul_zero->qGb,ofNat_lt->qHw,mul_one->qHy
open List renaming getD_eq_getElem?_getD->qA0,getElem?_eq_getElem->qA2,getElem?_eq_some_iff->qA5,range->qA6,getElem?_append_right->qA8,replicate->qA9,getElem?_append_left->qAa,mem_cons->qAb,size_toArray->qAc,mem_map->qAd,idxOf_lt_length_of_mem->qAg,getElem?_map->qAh,map_cons->qAi,getElem?_set_self->qAj,length_append->qAl,length_map->qAm,getElem?_set_ne->qAq,mem_filter->qAr,map_congr_left->qAs,mem_cons_of_mem->qAt,length_cons->qAu,mem_singleton->qAv,mem_append->qAw,mem_of_getElem?->qAx,mem_append_right->qAy,mem_cons_self->qAz,map_map->qB3,mem_append_left->qB4,map_append->qB7,drop_eq_getElem_cons->qB8,nodup_cons->qBb,not_mem_nil->qBe,ext_getElem->qBf,getElem?_replicate->qBj,eraseIdx_cons_succ->qBk,lookup_cons->qBl,length_eraseIdx_of_lt->qBn,range_succ->qBq,pairwise_cons->qBs,contains_cons->qBt,count_eq_zero->qBu,getElem?_cons_succ->qBw,getElem_mem->qBz,getElem_map->qC0,any_cons->qC2,getElem_range->qC3,take_append_drop->qC5,mem_or_eq_of_mem_set->qC7,count_cons_self->qC8,find?_cons->qCa,append_assoc->qCb,foldl_append->qCc,idxOf_append->qCd,take_left'->qCe,all_cons->qCh,mem_range->qCi,length_pos_of_mem->qCj,append_nil->qCm,getElem?_eq_none->qCp,idxOf_cons->qCq,count_append->qCr,mergeSort_perm->qCw,length_erase_of_mem->qCy,eq_of_mem_replicate->qCz,findIdx?_eq_some_iff_getElem->qD5,length_eq_zero_iff->qD6,findIdx?_cons->qD7,filter_cons_of_neg->qD8,filter_cons_of_pos->qD9,getElem_idxOf->qDa,getElem_cons_succ->qDe,eraseIdxIfInBounds_toArray->qDi,nodup_append->qDj,pairwise_map->qDk,length_replicate->qDm,length_singleton->qDo,length_take->qDr,nodup_range->qDs,mem_flatten->qDt,mem_erase_of_ne->qDu,filterMap_cons->qDv,of_mem_zip->qDw,lookup->qDx,drop_left'->qDz,eq_append_cons_of_mem->qE1,count_pos_iff->qE3,map_singleton->qE4,drop_zero->qE6,extract_eq_drop_take->qE7,getElem?_take_of_lt->qEb,filter_congr->qEc,getElem?_cons_zero->qEk,filter_cons->qEp,all_eq_true->qEr,any_eq_true->qEs,cons_append->qEt,range_succ_eq_map->qEu,length_eq_one_iff->qEv,length_set->qEy,length_nil->qEz,forIn_cons->qF1,drop->qF2,set_getElem_self->qF5,getElem?_reverse->qF6,length_filter_le->qF9,length_eraseIdx->qFf,range_eq_range'->qFg,take_zero->qFj,take_succ_cons->qFm,range'->qFn,getElem?_range->qFp,flatten_append->qFq,mem_filterMap->qFr,filter_append->qFv,set_cons_succ->qFw,set_cons_zero->qFx,find?_eq_none->qFy,take_sublist->qG2,length_range->qG6,map_inj_left->qG7,length_drop->qGc,take_length->qGg,drop_length->qGh,range'_succ->qGi,filter_map->qGr,Nodup->qHj,count->qHk,map_nil->qHr,all_map->qHs,cons->qHv,not_lt->qHz,take->qI4
open List.Nodup renaming count->qI3
open List.Pairwise renaming imp_of_mem->qEd,nil->qG3
open List.Perm renaming append_left->qCo,swap->qFi,refl->qH3
open List.cons renaming inj->qHn
open Nat renaming le_refl->qA7,lt_of_lt_of_le->qAf,zero_le->qAk,ne_of_lt->qAn,le_trans->qAp,mod_eq_of_lt->qB0,lt_succ_of_lt->qBh,ne_of_gt->qBp,lt_succ_self->qBv,mod_lt->qBy,lt_irrefl->qC1,zero_add->qC4,le_succ->qC6,le_of_lt->qCl,add_mod_right->qCs,le_antisymm->qDy,lt_of_le_of_lt->qE2,le_of_eq->qF0,succ_mul->qF8,le_zero->qFo,lt_trichotomy->qG4,min_self->qG9,mod_self->qGa,succ_le_succ->qGe,le_add_right->qGf,min_eq_left->qGp,strongRecOn->qGq,lt_or_ge->qHu,pow_succ->qHx
open Nat.succ renaming inj->qHt
open Ne renaming symm->qCf
open Option renaming map_eq_some_iff->qDd,isSome_iff_exists->qEa,getD_some->qEq,none->qFl,isSome_some->qFt,getD_none->qGd
open Option.some renaming inj->qBa,injEq->qI1
open Or renaming inr->qHh,inl->qI0
open Prod renaming fst->qHm
open PyProof.Rows renaming callWith_type1->qBi,callWith_builtin1->qDn
open PyProof.Rows.F renaming plain_set_update_loop->qBx,entry_set_update_loop->qCv
open PySem renaming mem_of_lookup->qCg,call->qHi,Within->qHq
open PySem.Challenge renaming rw_fourway_k49_whole_sets_leave_one_round->qBr,pw_fourway_k49_whole_sets_leave_one_round->qDq
open PySem.EqMixed renaming eq_bool_str->qGv,eq_str_bool->qGw,ne_bool_str->qH0,ne_str_bool->qH1,eq_int_str->qH8,eq_str_int->qHa,ne_int_str->qHe,ne_str_int->qHg
open PySem.EqNone renaming eq_none_none->qGs,eq_none_bool->qGt,eq_bool_none->qGu,ne_none_none->qGx,ne_none_bool->qGy,ne_bool_none->qGz,eq_none_int->qH5,eq_none_str->qH6,eq_int_none->qH7,eq_str_none->qH9,ne_none_int->qHb,ne_none_str->qHc,ne_int_none->qHd,ne_str_none->qHf
open PySem.F renaming plainAttrs_list->qB1,plainAttrs_str->qB9,slot_list_append->qD0,type_list_append->qD1,slot_list_extend->qD2,type_list_extend->qD3,slot_str_index->qDf,type_str_index->qDg,excBase_ValueError->qE0,plain_list_iadd->qEh,slot_list_index->qEi,slot_set_iter->qF7,slot_str_join->qFb,type_str_join->qFc,slot_list_pop->qFd,type_list_pop->qFe
open PySem.W renaming Frag->qA1,findIn->qAo,keepIn->qB5,kia_one->qBd,fnOf->qBg,specialIn->qC9,codeIn->qCt,cellsFrom_some->qDc,hasDictIn->qDh,isFn->qDl,nsIn->qDp,methodObj->qE9,mroIn->qEe,clsIn->qEg,mg_of->qEj,subIn->qEm,plainGet->qEn,handedIn->qEo,instObj->qEw,takesIn->qEx,OpenLaw->qF4,lookIn->qFh,callWith_K->qFs,kitx_list->qG0,kitx_dict->qG1,makesIn->qGk,readsIn->qGm,findCls->qGn,takerIn->qGo,kitOne->qH2,typeIn->qH4,Looks->qHo,WalkO->qHp
open Sum renaming inl->qFk,inr->qFz
open True renaming intro->qCx
set_option compiler.extract_closed false
set_option genSizeOf false
set_option genSizeOfSpec false
set_option bootstrap.genMatcherCode false
noncomputable section
namespace L2
open PySem PySem.Spec PyProof.Rows
abbrev Key:=Sum Int Str
noncomputable def zP0:Key->Value->Bool
 |.inl k,v=>Value.isInt k v
 |.inr x,v=>Value.isStrOf x v
noncomputable def keyH(w:World):Key->Int
 |.inl k=>hashInt k
 |.inr x=>hashStr w x
theorem zAY:∀{k:Key}{v:Value},zP0 k v=true->(∃i t,k=qFk i/\v=Value.int i t)\/(∃x t,k=qFz x/\v=Value.str x t)
 |.inl i,v,h=>by
  obtain⟨t,e⟩:=Value.isInt_shape (k:=i) (v:=v) h;exact .inl ⟨i,t,rfl,e⟩
 |.inr x,v,h=>by
  obtain⟨t,e⟩:=Value.isStrOf_shape (x:=x) (v:=v) h;exact .inr ⟨x,t,rfl,e⟩
theorem zR7(i:Int)(t:Tok):zP0 (.inl i) (.int i t)=true:=by simp[zP0,Value.isInt]
theorem zR6(x:Str)(t:Tok):zP0 (.inr x) (.str x t)=true:=by simp[zP0,Value.isStrOf]
theorem zaQ(a b:Int):decide ((qFk a:Key)=qFk b)=(a==b):=by
 by_cases e:a=b
 ·subst e;simp
 ·have h:¬(qFk a:Key)=qFk b:=fun q=>e (Sum.inl.inj q)
  rw[decide_eq_false h];exact(beq_eq_false_iff_ne.mpr e).symm
theorem zaN(a b:Str):decide ((qFz a:Key)=qFz b)=decide (a=b):=by
 by_cases e:a=b
 ·subst e;simp
 ·have h:¬(qFz a:Key)=qFz b:=fun q=>e (Sum.inr.inj q)
  rw[decide_eq_false h,decide_eq_false e]
theorem zaP(a:Int)(b:Str):decide ((qFk a:Key)=qFz b)=false:=decide_eq_false (fun q=>nomatch q)
theorem zaO(a:Str)(b:Int):decide ((qFz a:Key)=qFk b)=false:=decide_eq_false (fun q=>nomatch q)
def zBF(prog:Program)(w:World):PySem.KeyKind prog w Key where
 is:=zP0
 hash:=keyH w
 inj:=fun v a b ha hb=>by
  rcases zAY ha with⟨i,t,rfl,rfl⟩|⟨x,t,rfl,rfl⟩
  ·rcases zAY hb with⟨j,u,rfl,e⟩|⟨y,u,rfl,e⟩
   ·injection e with e1 _;rw[e1]
   ·exact nomatch e
  ·rcases zAY hb with⟨j,u,rfl,e⟩|⟨y,u,rfl,e⟩
   ·exact nomatch e
   ·injection e with e1 _;rw[e1]
 byValue:=fun k v h=>by
  rcases zAY h with⟨i,t,rfl,rfl⟩|⟨x,t,rfl,rfl⟩<;>rfl
 pyHash:=fun hv h=>by
  rcases zAY hv with⟨i,t,rfl,rfl⟩|⟨x,t,rfl,rfl⟩
  ·exact wpAny_pyHash_int h
  ·exact wpAny_pyHash_str h
 eqBool:=fun hu hv h=>by
  rcases zAY hu with⟨i,t,rfl,rfl⟩|⟨x,t,rfl,rfl⟩
  ·rcases zAY hv with⟨j,u,rfl,rfl⟩|⟨y,u,rfl,rfl⟩
   ·rw[zaQ]at h;exact wpAny_eqBool_int h
   ·rw[zaP]at h;exact SeqAt.EqAt.int_str i t y u _ _ _ _ h
  ·rcases zAY hv with⟨j,u,rfl,rfl⟩|⟨y,u,rfl,rfl⟩
   ·rw[zaO]at h;exact SeqAt.EqAt.str_int x t j u _ _ _ _ h
   ·rw[zaN]at h;exact wpAny_eqBool_str h
 «strs»:=fun k x t v h=>by
  rcases zAY h with⟨i,u,rfl,e⟩|⟨y,u,rfl,e⟩
  ·exact nomatch e
  ·injection e with e1 _
   subst e1;cases v<;>rfl
theorem zLS(prog:Program)(w:World)(i:Int)(t:Tok):(zBF prog w).is (.inl i) (.int i t)=true:=zR7 i t
theorem zLR(prog:Program)(w:World)(x:Str)(t:Tok):(zBF prog w).is (.inr x) (.str x t)=true:=zR6 x t
inductive V where
 |non|bl (b:Bool)|int (i:Int)|str (x:Str)|byt (b:Array UInt8)|flt (b:UInt64)|ref (a:Addr)|ty (n:String)
 deriving DecidableEq
noncomputable def RelV:V->Value->Prop
 |.non,u=>u=Value.none
 |.bl b,u=>u=Value.bool b
 |.int i,u=>∃t,u=Value.int i t
 |.str x,u=>∃t,u=Value.str x t
 |.byt b,u=>∃t,u=Value.bytes b t
 |.flt b,u=>∃t,u=Value.float b t
 |.ref a,u=>u=Value.ref a
 |.ty n,u=>u=Value.type n
abbrev Vals:List V->List Value->Prop:=Paired RelV
theorem Vals.length{xs:List V}{us:List Value}(r:Vals xs us):xs.length=us.length:=Paired.length r
theorem Vals.get:∀{xs:List V}{us:List Value}{i:Nat}{x:V},Vals xs us->xs[i]?=some x->∃u,us[i]?=some u/\RelV x u
 |_,_,_,_,.nil,e=>by simp at e
 |_,_,0,_,.cons r _,e=>by simp at e;subst e;exact⟨_,rfl,r⟩
 |_,_,i+1,x,.cons _ t,e=>by
  obtain⟨u,h1,h2⟩:=Vals.get (i:=i) (x:=x) t (by simpa using e);exact⟨u,by simpa using h1,h2⟩
theorem Vals.set{x:V}{u:Value}(r:RelV x u):∀{xs:List V}{us:List Value}(i:Nat),Vals xs us->Vals (xs.set i x) (us.set i u)
 |_,_,_,.nil=>.nil
 |_,_,0,.cons _ t=>.cons r t
 |_,_,i+1,.cons q t=>.cons q (Vals.set r i t)
theorem Vals.append:∀{xs ys:List V}{us ws:List Value},Vals xs us->Vals ys ws->Vals (xs++ys) (us++ws)
 |_,_,_,_,.nil,s=>s
 |_,_,_,_,.cons r t,s=>.cons r (Vals.append t s)
theorem Vals.take:∀{xs:List V}{us:List Value}(n:Nat),Vals xs us->Vals (xs.take n) (us.take n)
 |_,_,0,_=>.nil
 |_,_,_+1,.nil=>.nil
 |_,_,n+1,.cons r t=>.cons r (Vals.take n t)
theorem Vals.drop:∀{xs:List V}{us:List Value}(n:Nat),Vals xs us->Vals (xs.drop n) (us.drop n)
 |_,_,0,r=>r
 |_,_,_+1,.nil=>.nil
 |_,_,n+1,.cons _ t=>Vals.drop n t
def RelO:Option V->Option Value->Prop
 |some v,some u=>RelV v u
 |none,none=>True
 |_,_=>False
def KV{κ:Type}:List (κ×V)->List (κ×Value)->Prop:=Paired fun(p:κ×V)(q:κ×Value)=>p.1=q.1/\RelV p.2 q.2
noncomputable def kV:Key->V
 |.inl i=>.int i
 |.inr x=>.str x
inductive HO where
 |lst (xs:List V)
 |tup (xs:List V)
 |dK (kvs:List (Key×V))|dT (kvs:List (List Key×V))
 |set (S:Int->Bool) (n:Nat)
 |ins (C dx:Addr) (fs:List (Str×V))
 |own (x:Addr)
 |xd (fs:List (Str×V))
 |met (f x:Addr)
 |rng (lo hi:Int)
 |frz (o:Obj) (u:HO)
 |tbl (ps:Array Value)
 |ext (φ:Heap->Prop)
abbrev Hp:=Addr->Option HO
noncomputable def upd(H:Hp)(a:Addr)(o:HO):Hp:=fun b=>if b=a then some o else H b
theorem zAD{H:Hp}{a:Addr}{o:HO}:upd H a o a=some o:=by unfold upd;rw[if_pos rfl]
theorem zAE{H:Hp}{a b:Addr}{o:HO}(h:b≠a):upd H a o b=H b:=by unfold upd;rw[if_neg h]
theorem zXK{H:Hp}{a b:Addr}{o u:HO}(h:H a=some o)(h':H b=some u)(d:o≠u):a≠b:=by
 intro e;subst e;rw[h]at h';exact d (qBa h')
theorem zAL{H:Hp}{a b:Addr}{o:HO}(h:H a=some o)(h':H b=none):a≠b:=by
 intro e;subst e;rw[h]at h';cases h'
section
variable(P:Program)(w:World)
def ObjOk(H:Hp)(h:Heap)(a:Addr):HO->Prop
 |.lst xs=>xs.length<=sizeLine/\∃(its:List Value)(n:Nat),Vals xs its/\h.get? a=some { cls:=.type "list",data:=.seq its.toArray n }
 |.tup xs=>xs.length<=sizeLine/\∃its:List Value,Vals xs its/\IsTup h a its.toArray
 |.dK kvs=>kvs.length<=sizeLine/\(a==sysModules)=false/\∃vs,KV kvs vs/\h.DictOf (zBF P w) a vs
 |.dT kvs=>kvs.length<=sizeLine/\(a==sysModules)=false/\∃xs:List (List Key×Addr×Value),
   Paired (fun(p:List Key×V)(q:List Key×Addr×Value)=>p.1=q.1/\H q.2.1=some (.tup (p.1.map kV))/\RelV p.2 q.2.2) kvs xs /\
   ∃o es ep,h.get? a=some o/\o.ExactDict/\o.data=.dict es ep/\es.toList=xs.map (entryOfKey (tupleKind (zBF P w)))/\(xs.map (·.1)).Nodup
 |.set S n=>h.SetOf (intKind P w) a S n
 |.ins C dx fs=>H dx=some (.own a)/\fs.length<=1000/\dx≠a/\h.get? a=some (qEw C dx) /\
   ∃mA,h.Ns1 dx mA/\(∀f,RelO (fs.lookup f) (mA f))/\qHq mA (fs.map (·.1))
 |.own _=>∃o,h.get? a=some o
 |.xd fs=>∃mA,h.Ns1 a mA/\∀f,RelO (fs.lookup f) (mA f)
 |.rng lo hi=>∃t u v,h.get? a=some { cls:=.type "range",data:=.fields #[.int lo t,.int hi u,.int 1 v] }
 |.frz o u=>h.get? a=some o/\ObjOk H h a u
 |.tbl ps=>h.get? a=some { cls:=.none,data:=.fields ps }
 |.met f x=>h.get? a=some (qE9 (.ref f) (.ref x))
 |.ext φ=>φ h/\(∃o,h.get? a=some o)/\∀h1 h2:Heap,φ h1->(∀o,h1.get? a=some o->h2.get? a=some o)->φ h2
def HOk(H:Hp)(h:Heap):Prop:=∀a o,H a=some o->ObjOk P w H h a o
end
section
variable{P:Program}{w:World}{H H':Hp}{h h':Heap}{a:Addr}{o:HO}
theorem ObjOk.lt(x:ObjOk P w H h a o):a<h.objs.size:=by
 cases o with
 |lst xs=>obtain⟨_,_,_,_,e⟩:=x;exact Heap.lt_size e
 |tup xs=>obtain⟨_,_,_,p⟩:=x;exact p.lt
 |dK kvs=>obtain⟨_,_,_,_,o,_,_,e,_⟩:=x;exact Heap.lt_size e
 |dT kvs=>obtain⟨_,_,_,_,o,_,_,e,_⟩:=x;exact Heap.lt_size e
 |set S n=>obtain⟨o,_,_,_,e,_⟩:=x;exact Heap.lt_size e
 |ins C dx fs=>obtain⟨_,_,_,e,_⟩:=x;exact Heap.lt_size e
 |own y=>obtain⟨_,e⟩:=x;exact Heap.lt_size e
 |xd fs=>obtain⟨_,⟨_,_,_,e,_⟩,_⟩:=x;exact Heap.lt_size e
 |rng lo hi=>obtain⟨_,_,_,e⟩:=x;exact Heap.lt_size e
 |frz ob u=>obtain⟨e,_⟩:=x;exact Heap.lt_size e
 |tbl ps=>exact Heap.lt_size (show h.get? a=some _ from x)
 |met f y=>exact Heap.lt_size (show h.get? a=some _ from x)
 |ext φ=>obtain⟨_,⟨_,e⟩,_⟩:=x;exact Heap.lt_size e
theorem Paired.mapP{α β:Type}{F G:α->β->Prop}:∀{l₁:List α}{l₂:List β},Paired F l₁ l₂->(∀a b,F a b->G a b)->Paired G l₁ l₂
 |_,_,.nil,_=>.nil
 |_,_,.cons r t,f=>.cons (f _ _ r) (Paired.mapP t f)
theorem ObjOk.stay(x:ObjOk P w H h a o)(k:∀b u,(b=a\/H b=some (.own a))->h.get? b=some u->h'.get? b=some u)
  (ho:∀b,H b=some (.own a)->H' b=some (.own a)) (ht:∀b xs,H b=some (.tup xs)->H' b=some (.tup xs)):ObjOk P w H' h' a o:=by
 induction o with
 |lst xs=>obtain⟨z,its,n,r,e⟩:=x;exact⟨z,its,n,r,k _ _ (.inl rfl) e⟩
 |tup xs=>obtain⟨z,its,r,ob,e,c⟩:=x;exact⟨z,its,r,ob,k _ _ (.inl rfl) e,c⟩
 |dK kvs=>obtain⟨z,y,vs,r,ob,es,ep,e,c⟩:=x;exact⟨z,y,vs,r,ob,es,ep,k _ _ (.inl rfl) e,c⟩
 |dT kvs=>
  obtain⟨z,y,xs,r,ob,es,ep,e,c⟩:=x;exact⟨z,y,xs,Paired.mapP r fun p q z=>⟨z.1,ht _ _ z.2.1,z.2.2⟩,ob,es,ep,k _ _ (.inl rfl) e,c⟩
 |set S n=>obtain⟨ob,es,ep,t,e,c⟩:=x;exact⟨ob,es,ep,t,k _ _ (.inl rfl) e,c⟩
 |ins C dx fs=>
  obtain⟨d,z,ne,e,mA,⟨od,es,ep,e2,c⟩,r⟩:=x;exact⟨ho _ d,z,ne,k _ _ (.inl rfl) e,mA,⟨od,es,ep,k _ _ (.inr d) e2,c⟩,r⟩
 |own y=>obtain⟨ob,e⟩:=x;exact⟨ob,k _ _ (.inl rfl) e⟩
 |xd fs=>obtain⟨mA,⟨od,es,ep,e,c⟩,r⟩:=x;exact⟨mA,⟨od,es,ep,k _ _ (.inl rfl) e,c⟩,r⟩
 |rng lo hi=>obtain⟨t,u,v,e⟩:=x;exact⟨t,u,v,k _ _ (.inl rfl) e⟩
 |frz ob u ih=>obtain⟨e,q⟩:=x;exact⟨k _ _ (.inl rfl) e,ih q⟩
 |tbl ps=>
  have e:h.get? a=some { cls:=.none,data:=.fields ps }:=x;show h'.get? a=some { cls:=.none,data:=.fields ps };exact k a _ (.inl rfl) e
 |met f y=>
  have e:h.get? a=some (qE9 (.ref f) (.ref y)):=x;show h'.get? a=some (qE9 (.ref f) (.ref y));exact k a _ (.inl rfl) e
 |ext φ=>obtain⟨p,⟨o,e⟩,st⟩:=x;exact⟨st _ _ p fun o q=>k _ _ (.inl rfl) q,⟨o,k _ _ (.inl rfl) e⟩,st⟩
theorem HOk.lt(x:HOk P w H h)(e:H a=some o):a<h.objs.size:=(x a o e).lt
theorem HOk.fresh(x:HOk P w H h)(e:h.objs.size<=a):H a=none:=by
 cases q:H a with
 |none=>rfl
 |some u=>exact absurd (qAf (x.lt q) e) (qC1 _)
theorem HOk.kept(x:HOk P w H h)(k:∀b u,h.get? b=some u->h'.get? b=some u):HOk P w H h':=fun a o e=>
 (x a o e).stay (fun b u _ q=>k b u q) (fun _ q=>q) fun _ _ q=>q
theorem HOk.laid(x:HOk P w H h)(k:∀b u,h.get? b=some u->h'.get? b=some u)(hp:h.objs.size<=a)(new:ObjOk P w (upd H a o) h' a o):HOk P w (upd H a o) h':=fun b u e=>by
 have hn:=x.fresh hp
 by_cases hb:b=a
 ·subst hb;rw[zAD]at e;cases e;exact new
 ·rw[zAE hb]at e;exact(x b u e).stay (fun c v _ q=>k c v q) (fun c q=>by rw[zAE (zAL q hn)];exact q) fun c xs q=>by rw[zAE (zAL q hn)];exact q
end
def Rd(H:Hp)(a:Addr)(u:HO):Prop:=H a=some u\/∃o,H a=some (.frz o u)
theorem Rd.ok{P:Program}{w:World}{H:Hp}{h:Heap}{a:Addr}{u:HO}(r:Rd H a u)(x:HOk P w H h):ObjOk P w H h a u:=by
 rcases r with r|⟨o,r⟩
 ·exact x a u r
 ·obtain⟨_,q⟩:=x a _ r;exact q
noncomputable def Mut:Option HO->Prop
 |some (.lst _)=>True
 |some (.dK _)=>True
 |some (.dT _)=>True
 |some (.set _ _)=>True
 |some (.ins _ _ _)=>True
 |some (.ext _)=>True
 |_=>False
section
variable{P:Program}{w:World}{H:Hp}{h h':Heap}{x e:Addr}{o':HO}
theorem HOk.write(ok:HOk P w H h)(mu:Mut (H x))(he:e=x\/H e=some (.own x))(k:∀b u,b≠e->h.get? b=some u->h'.get? b=some u)(heo:∃u,h'.get? e=some u)
  (new:ObjOk P w (upd H x o') h' x o'):HOk P w (upd H x o') h':=fun b u q=>by
 have nown:∀c y,H c=some (.own y)->c≠x:=fun c y r z=>by subst z;rw[r]at mu;exact mu
 have ntup:∀c xs,H c=some (.tup xs)->c≠x:=fun c xs r z=>by subst z;rw[r]at mu;exact mu
 by_cases hb:b=x
 ·subst hb;rw[zAD]at q;cases q;exact new
 ·rw[zAE hb]at q
  by_cases hbe:b=e
  ·have q':H b=some (.own x):=by
    rcases he with z|z
    ·exact absurd (hbe.trans z) hb
    ·rw[hbe];exact z
   rw[q]at q';cases q';obtain⟨v,hv⟩:=heo;exact⟨v,by rw[hbe];exact hv⟩
  ·refine(ok b u q).stay (fun c v hc r=>k c v ?_ r) (fun c r=>by rw[zAE (nown c b r)];exact r) fun c xs r=>by rw[zAE (ntup c xs r)];exact r
   rcases hc with rfl|hc
   ·exact hbe
   ·rintro rfl
    rcases he with z|z
    ·exact nown c b hc z
    ·rw[hc]at z;cases z;exact hb rfl
end
structure Un(fs ex:List Addr)(H H':Hp)(h h':Heap):Prop where
 keep:∀b o,h.get? b=some o->H b=none->b∉fs->b∉ex->h'.get? b=some o
 slot:∀b o,h.get? b=some o->H b=none->b∈fs->b∉ex->∃sl,h'.get? b=some { o with slots:=sl }
 free:∀b o,h.get? b=some o->H b=none->b∉ex->H' b=none
 there:∀b o,h.get? b=some o->b∉ex->∃o',h'.get? b=some o'
 tups:∀b xs,H b=some (.tup xs)->H' b=some (.tup xs)
 frzs:∀b o u,H b=some (.frz o u)->H' b=some (.frz o u)
 tbls:∀b ps,H b=some (.tbl ps)->∃more,H' b=some (.tbl (ps++more))
section
variable{fs fs' ex ex':List Addr}{H H1 H2:Hp}{h h1 h2 h':Heap}{a x e:Addr}{o:HO}
theorem Un.any(u:Un fs ex H H1 h h1){b:Addr}{ob:Obj}(q:h.get? b=some ob)(n:H b=none)(hx:b∉ex):∃sl,h1.get? b=some { ob with slots:=sl }:=by
 by_cases hb:b∈fs
 ·exact u.slot b ob q n hb hx
 ·exact⟨ob.slots,u.keep b ob q n hb hx⟩
theorem Un.kept(k:∀b u,h.get? b=some u->h'.get? b=some u):Un fs ex H H h h':=
 ⟨fun b ob q _ _ _=>k b ob q,fun b ob q _ _ _=>⟨ob.slots,k b ob q⟩,fun _ _ _ n _=>n,fun b ob q _=>⟨ob,k b ob q⟩,fun _ _ q=>q,fun _ _ _ q=>q,fun _ ps q=>⟨#[],by rw[q];simp⟩⟩
theorem Un.refl:Un fs ex H H h h:=Un.kept fun _ _ q=>q
theorem Un.laid(k:∀b u,h.get? b=some u->h'.get? b=some u)(hp:h.objs.size<=a)(hn:H a=none):Un fs ex H (upd H a o) h h' where
 keep:=fun b u q _ _ _=>k b u q
 slot:=fun b u q _ _ _=>⟨u.slots,k b u q⟩
 free:=fun b u q n _=>by rw[zAE (qAn (qAf (Heap.lt_size q) hp))];exact n
 there:=fun b u q _=>⟨u,k b u q⟩
 tups:=fun b xs q=>by rw[zAE (zAL q hn)];exact q
 frzs:=fun b u xs q=>by rw[zAE (zAL q hn)];exact q
 tbls:=fun b ps q=>⟨#[],by rw[zAE (zAL q hn),q];simp⟩
theorem Un.write(mu:Mut (H x))(he:e=x\/H e=some (.own x))(k:∀b u,b≠e->h.get? b=some u->h'.get? b=some u)(heo:∃u,h'.get? e=some u):Un fs ex H (upd H x o) h h':=by
 have hx:∀b,H b=none->b≠x:=fun b n z=>by subst z;rw[n]at mu;exact mu
 have hb:∀b,H b=none->b≠e:=fun b n z=>by
  subst z
  rcases he with r|r
  ·exact hx b n r
  ·rw[n]at r;cases r
 have hm:∀b u,H b=some u->¬Mut (some u)->b≠x:=fun b u q nm z=>by subst z;rw[q]at mu;exact nm mu
 refine⟨fun b u q n _ _=>k b u (hb b n) q,fun b u q n _ _=>⟨u.slots,k b u (hb b n) q⟩,fun b u q n _=>by rw[zAE (hx b n)];exact n,fun b u q _=>?_,
  fun b xs q=>by rw[zAE (hm b _ q fun z=>z)];exact q,fun b u xs q=>by rw[zAE (hm b _ q fun z=>z)];exact q,fun b ps q=>⟨#[],by rw[zAE (hm b _ q fun z=>z),q];simp⟩⟩
 by_cases hbe:b=e
 ·subst hbe;exact heo
 ·exact⟨u,k b u hbe q⟩
end
noncomputable def trk(h:Heap)(H:Hp):List Addr:=(qA6 h.objs.size).filter fun a=>(H a).isSome
def hidT(h:Heap)(H:Hp):Heap:=PySem.W.hideAll h (trk h H)
theorem zRH(h:Heap)(H:Hp):(hidT h H).objs.size=h.objs.size:=PySem.W.hideAll_size _ _
theorem zU7{h:Heap}{H:Hp}{b:Addr}{o:Obj}(e:h.get? b=some o)(n:H b=none):(hidT h H).get? b=some o:=
 PySem.W.hideAll_get _ e fun hm=>by
  have q:(H b).isSome=true:=(qAr.mp hm).2;rw[n]at q;simp at q
theorem zXI{h:Heap}{H:Hp}{b:Addr}{o:Obj}(e:(hidT h H).get? b=some o):h.get? b=some o/\H b=none:=by
 have e':h.get? b=some o:=PySem.W.of_hideAll (trk h H) e;refine⟨e',?_⟩;cases q:H b with
 |none=>rfl
 |some x=>
  have hm:b∈trk h H:=qAr.mpr ⟨qCi.mpr (Heap.lt_size e'),by simp[q]⟩;have z:(hidT h H).get? b=none:=PySem.W.hideAll_none (trk h H) hm;rw[z]at e;cases e
noncomputable def zYW(g h:Heap)(L:Addr):List (Addr×Obj):=(qA6 h.objs.size).filterMap fun a=>if a=L\/(g.get? a).isSome=true then none else(h.get? a).map fun o=>(a,o)
def rest(g h:Heap)(L d:Addr):List (Addr×Obj):=(zYW g h L).filter fun p=>decide (p.1≠d)
end L2
namespace L2
open PySem PySem.Spec PyProof.Rows
structure Mod(K:qA1)(mg:Str->Option Value)(base:Heap):Prop where
 kin:K.In base
 glob:base.Ns mainGlobals mg
 blt:∃mb,base.Ns builtinsNs mb/\∀x:Str,x≠"__name__"->mb x=bootBuiltins x
 nolimit:base.NoLimit
structure Cx where
 prog:Program
 w:World
 K:qA1
 mg:Str->Option Value
 base:Heap
 A:Around
 N:List Str
 s₀:Shared
 H₀:Hp
 env:Env
 outer:List Env
 stack:List Env
 ex:List Addr
 fn:Str->Bool
 calm:Bool
 pn:List (Addr×Obj)
 xe:Value->Shared->Prop
noncomputable def frs(l:List Env):List Addr:=l.filterMap (·.frame)
abbrev Cx.fs(X:Cx):List Addr:=frs X.outer
def Vis(sc:Scope)(x:Str):Prop:=sc.names.lookup x=some .local\/sc.names.lookup x=some .cell\/sc.names.lookup x=some .free
def Loc(sc:Scope)(x:Str):Prop:=sc.names.lookup x=some .local\/sc.names.lookup x=some .cell
def Look(env:Env)(h:Heap)(m:Str->Option Value)(x:Str)(u:Value):Prop:=
 (env.kindOf x=some .local/\m x=some u)\/((env.kindOf x=some .cell\/env.kindOf x=some .free)/\∃c,env.cells.lookup x=some c/\h.IsCell c (some u))
structure Cx.Ok(X:Cx):Prop where
 mod:Mod X.K X.mg X.base
 kind:X.env.scope.kind=.function
 glob:X.env.globals=mainGlobals
 blt:X.env.builtins=builtinsNs
 above:X.s₀.heap.objs.size<=X.env.locals
 inj:∀x y c,X.env.cells.lookup x=some c->X.env.cells.lookup y=some c->x=y
 has:∀x,(X.env.kindOf x=some .cell\/X.env.kindOf x=some .free)->∃c,X.env.cells.lookup x=some c
 cab:∀x c,X.fn x=true->X.env.cells.lookup x=some c->X.s₀.heap.objs.size<=c
 hd:X.calm=true->X.A.handled=none
 frames:X.A.frames=some X.stack
 stk:X.stack=X.outer\/(X.stack=X.env::X.outer/\X.env.frame=some X.env.locals)
 exf:∀b∈X.ex,b≠X.env.locals/\∀x c,X.env.cells.lookup x=some c->c≠b
 bs:∀b o,X.base.get? b=some o->X.s₀.heap.get? b=some o/\X.H₀ b=none
 bsz:X.base.objs.size<=X.s₀.heap.objs.size
 noex:∀b o,X.base.get? b=some o->b∉X.ex
 exfs:∀b∈X.ex,b∉X.fs
 funs:X.s₀.heap.FunFrames X.base X.outer
 frf:∀b∈X.fs,X.H₀ b=none
structure Inv(X:Cx)(pins:List (Addr×Obj))(σ:List (Option V))(H:Hp)(s:Shared):Prop where
 ok:X.Ok
 os:s.os=X.s₀.os
 bare:AllBare s.gens
 base:Un X.fs X.ex X.H₀ H X.s₀.heap s.heap
 loc:∃m,s.heap.Ns X.env.locals m/\∀(i:Nat)(x:Str)(v:V),X.N[i]?=some x->σ[i]?=some (some v)->Vis X.env.scope x->∃u,RelV v u/\Look X.env s.heap m x u
 cell:∀x c,X.env.cells.lookup x=some c->∃v,s.heap.IsCell c v
 free:H X.env.locals=none
 freeC:∀x c,X.env.cells.lookup x=some c->H c=none
 pin:∀p∈X.pn++pins,s.heap.get? p.1=some p.2/\H p.1=none/\p.1≠X.env.locals/\p.1∉X.fs/\∀v,p.2.data≠.cell v
 hok:HOk X.prog X.w H s.heap
 len:σ.length=X.N.length
section
variable{X:Cx}{pins:List (Addr×Obj)}{σ:List (Option V)}{H H':Hp}{s:Shared}{h':Heap}
theorem Cx.Ok.nofr(ok:X.Ok){b:Addr}{o:Obj}(e:X.base.get? b=some o):b∉X.fs:=fun hb=>by
 have:=(ok.funs.mem hb).1
 rw[e]at this;cases this
theorem Inv.bs(I:Inv X pins σ H s):∀b o,X.base.get? b=some o->s.heap.get? b=some o/\H b=none:=fun b o e=>
 ⟨I.base.keep b o (I.ok.bs b o e).1 (I.ok.bs b o e).2 (I.ok.nofr e) (I.ok.noex b o e),I.base.free b o (I.ok.bs b o e).1 (I.ok.bs b o e).2 (I.ok.noex b o e)⟩
theorem Inv.bk(I:Inv X pins σ H s):∀b o,X.base.get? b=some o->s.heap.get? b=some o:=fun b o e=>(I.bs b o e).1
theorem Inv.mod(I:Inv X pins σ H s):Mod X.K X.mg X.base:=I.ok.mod
theorem Inv.kIn(I:Inv X pins σ H s):X.K.In s.heap:=I.ok.mod.kin.keeps I.bk
theorem Inv.fr(I:Inv X pins σ H s):∃m,Fr X.base X.env.locals s.heap m:=
 let⟨m,hn,_⟩:=I.loc
 ⟨m,hn,I.bk,qAp I.ok.bsz I.ok.above⟩
theorem Inv.lt(I:Inv X pins σ H s):X.env.locals<s.heap.objs.size:=let⟨_,hn,_⟩:=I.loc;hn.lt
theorem Inv.sz(I:Inv X pins σ H s):X.s₀.heap.objs.size<=s.heap.objs.size:=qAp I.ok.above (qCl I.lt)
theorem Inv.nofs(I:Inv X pins σ H s){a:Addr}(h:s.heap.objs.size<=a):a∉X.fs:=fun hb=>by
 obtain⟨_,o,ho,_⟩:=I.ok.funs.mem hb;exact absurd (qAf (Heap.lt_size ho) (qAp I.sz h)) (qC1 _)
theorem Inv.cne(I:Inv X pins σ H s):∀x c,X.env.cells.lookup x=some c->c≠X.env.locals:=fun x c e z=>by
 obtain⟨v,o,ho,hd⟩:=I.cell x c e;obtain⟨m,⟨o',es,ep,ho',hd',_⟩,_⟩:=I.loc;rw[z,ho']at ho;cases ho;rw[hd']at hd;cases hd
theorem Inv.funs(I:Inv X pins σ H s):s.heap.FunFrames X.base X.outer:=by
 have all:∀(l:List Env),(∀b∈frs l,b∈X.fs)->X.s₀.heap.FunFrames X.base l->s.heap.FunFrames X.base l:=by
  intro l
  induction l with
  |nil=>intro _ _;trivial
  |cons env r ih=>
   intro hs hl;obtain⟨hk,⟨L,o,hf,hn,ho,hd⟩,hr⟩:=hl;have hL:L∈X.fs:=hs L (by unfold frs;rw[qDv,hf];exact qAz);obtain⟨sl,e⟩:=I.base.slot L o ho (I.ok.frf L hL) hL fun z=>I.ok.exfs L z hL
   exact⟨hk,⟨L,_,hf,hn,e,hd⟩,ih (fun b hb=>hs b (by unfold frs;rw[qDv,hf];exact qAt _ hb)) hr⟩
 exact all X.outer (fun _ hb=>hb) I.ok.funs
theorem Inv.stack(I:Inv X pins σ H s):s.heap.FunFrames X.base X.stack:=by
 rcases I.ok.stk with e|⟨e,hf⟩
 ·rw[e];exact I.funs
 ·rw[e];obtain⟨m,hn,_⟩:=I.loc;refine .cons (by rw[I.ok.kind];decide) hf hn ?_ I.funs;exact Heap.get?_none_of_le (qAp I.ok.bsz I.ok.above)
theorem Inv.stkSub(I:Inv X pins σ H s):∀b∈frs X.stack,b∈X.env.locals::X.fs:=fun b hb=>by
 rcases I.ok.stk with e|⟨e,hf⟩
 ·rw[e]at hb;exact qAt _ hb
 ·rw[e]at hb;unfold frs at hb;rw[qDv,hf]at hb;exact hb
theorem Inv.stkFree(I:Inv X pins σ H s):∀b∈frs X.stack,H b=none:=fun b hb=>by
 rcases qAb.mp (I.stkSub b hb)with e|hb
 ·rw[e];exact I.free
 ·obtain⟨_,o,ho,_⟩:=I.ok.funs.mem hb;exact I.base.free b o ho (I.ok.frf b hb) fun z=>I.ok.exfs b z hb
theorem Inv.step{g':Array GenState}{t':Nat}{d':Drawn}{ch:List Addr}(I:Inv X pins σ H s)
  (hch:∀b∈ch,(b∈X.ex\/X.s₀.heap.objs.size<=b)/\b≠X.env.locals/\(∀x c,X.env.cells.lookup x=some c->c≠b)/\∀p∈X.pn++pins,p.1≠b)
  (keep:∀b o,b≠X.env.locals->b∉X.fs->b∉ch->s.heap.get? b=some o->H b=none->h'.get? b=some o)
  (slot:∀b o,b≠X.env.locals->b∈X.fs->b∉ch->s.heap.get? b=some o->H b=none->∃sl,h'.get? b=some { o with slots:=sl }) (free:∀b o,b∉ch->s.heap.get? b=some o->H b=none->H' b=none)
  (there:∀b o,b∉ch->s.heap.get? b=some o->∃o',h'.get? b=some o')
  (tups:∀b xs,H b=some (.tup xs)->H' b=some (.tup xs)) (frzs:∀b o u,H b=some (.frz o u)->H' b=some (.frz o u)) (tbls:∀b ps,H b=some (.tbl ps)->∃more,H' b=some (.tbl (ps++more)))
  (ns:∀m,s.heap.Ns X.env.locals m->h'.Ns X.env.locals m) (hok:HOk X.prog X.w H' h') (hg:AllBare g') :
  Inv X pins σ H' { s with heap:=h',gens:=g',drawn:=d',toks:=t' }:=by
 have neL:∀b o,X.s₀.heap.get? b=some o->b≠X.env.locals:=fun b o e=>qAn (qAf (Heap.lt_size e) I.ok.above)
 have neC:∀b o,X.s₀.heap.get? b=some o->b∉X.ex->b∉ch:=fun b o e hx hb=>by
  rcases(hch b hb).1 with z|z
  ·exact hx z
  ·exact absurd (qAf (Heap.lt_size e) z) (qC1 _)
 have cellK:∀x c,X.env.cells.lookup x=some c->∀v,s.heap.IsCell c v->h'.IsCell c v:=fun x c e v ⟨o,ho,hd⟩=>by
  have nch:c∉ch:=fun z=>(hch c z).2.2.1 x c e rfl
  by_cases hc:c∈X.fs
  ·obtain⟨sl,q⟩:=slot c o (I.cne x c e) hc nch ho (I.freeC x c e);exact⟨_,q,hd⟩
  ·exact⟨o,keep c o (I.cne x c e) hc nch ho (I.freeC x c e),hd⟩
 refine⟨I.ok,I.os,hg,⟨fun b o e n hb hx=>?_,fun b o e n hb hx=>?_,fun b o e n hx=>?_,fun b o e hx=>?_,fun b xs e=>tups b xs (I.base.tups b xs e),fun b o xs e=>frzs b o xs (I.base.frzs b o xs e),fun b ps e=>?_⟩,?_,fun x c e=>?_,?_,fun x c e=>?_,fun p hp=>?_,hok,I.len⟩
 ·exact keep b o (neL b o e) hb (neC b o e hx) (I.base.keep b o e n hb hx) (I.base.free b o e n hx)
 ·obtain⟨sl,e1⟩:=I.base.slot b o e n hb hx;obtain⟨sl',e2⟩:=slot b _ (neL b o e) hb (neC b o e hx) e1 (I.base.free b o e n hx);exact⟨sl',e2⟩
 ·obtain⟨o',e1⟩:=I.base.there b o e hx;exact free b o' (neC b o e hx) e1 (I.base.free b o e n hx)
 ·obtain⟨o',e1⟩:=I.base.there b o e hx;exact there b o' (neC b o e hx) e1
 ·obtain⟨m1,e1⟩:=I.base.tbls b ps e;obtain⟨m2,e2⟩:=tbls b _ e1;exact⟨m1++m2,by rw[e2,Array.append_assoc]⟩
 ·obtain⟨m,hn,hl⟩:=I.loc;refine⟨m,ns m hn,fun i x v e1 e2 e3=>?_⟩;obtain⟨u,r,l⟩:=hl i x v e1 e2 e3;refine⟨u,r,?_⟩
  rcases l with l|⟨k,c,e,z⟩
  ·exact .inl l
  ·exact .inr ⟨k,c,e,cellK x c e _ z⟩
 ·obtain⟨v,z⟩:=I.cell x c e;exact⟨v,cellK x c e v z⟩
 ·obtain⟨m,⟨o,_,_,ho,_⟩,_⟩:=I.loc;exact free _ o (fun z=>(hch _ z).2.1 rfl) ho I.free
 ·obtain⟨v,o,ho,hd⟩:=I.cell x c e;exact free c o (fun z=>(hch c z).2.2.1 x c e rfl) ho (I.freeC x c e)
 ·obtain⟨e,n,ne,nf,d⟩:=I.pin p hp;have nch:p.1∉ch:=fun z=>(hch p.1 z).2.2.2 p hp rfl
  exact⟨keep p.1 p.2 ne nf nch e n,free p.1 p.2 nch e n,ne,nf,d⟩
theorem Inv.un{t':Nat}(I:Inv X pins σ H s)(u:Un X.fs [] H H' s.heap h')(hok:HOk X.prog X.w H' h'):Inv X pins σ H' { s with heap:=h',toks:=t' }:=by
 obtain⟨m,⟨o,es,ep,ho,r⟩,_⟩:=id I.loc;obtain⟨sl,hL⟩:=u.any ho I.free (by simp);exact I.step (g':=s.gens) (d':=s.drawn) (ch:=[]) (fun _ z=>nomatch z) (fun b o _ hb _ e n=>u.keep b o e n hb (by simp)) (fun b o _ hb _ e n=>u.slot b o e n hb (by simp)) (fun b o _ e n=>u.free b o e n (by simp)) (fun b o _ e=>u.there b o e (by simp)) u.tups u.frzs u.tbls (fun m' hm=>by
  obtain⟨o',es',ep',ho',r'⟩:=hm;rw[ho]at ho';cases ho';exact⟨_,es',ep',hL,r'⟩) hok I.bare
theorem Inv.call{g':Array GenState}{t':Nat}{d':Drawn}{ch:List Addr}(I:Inv X pins σ H s)(u:Un (frs X.stack) ch H H' s.heap h')(hok:HOk X.prog X.w H' h')(hg:AllBare g')
  (hch:∀b∈ch,(b∈X.ex\/X.s₀.heap.objs.size<=b)/\b≠X.env.locals/\(∀x c,X.env.cells.lookup x=some c->c≠b)/\∀p∈X.pn++pins,p.1≠b) :
  Inv X pins σ H' { s with heap:=h',gens:=g',drawn:=d',toks:=t' }:=by
 obtain⟨m,⟨o,es,ep,ho,r⟩,_⟩:=id I.loc;obtain⟨sl,hL⟩:=u.any ho I.free fun z=>(hch _ z).2.1 rfl
 exact I.step (ch:=ch) hch (fun b o hL hb hc e n=>u.keep b o e n (fun z=>(qAb.mp (I.stkSub b z)).elim hL hb) hc) (fun b o _ _ hc e n=>u.any e n hc) (fun b o hc e n=>u.free b o e n hc) (fun b o hc e=>u.there b o e hc) u.tups u.frzs u.tbls (fun m' hm=>by
  obtain⟨o',es',ep',ho',r'⟩:=hm;rw[ho]at ho';cases ho';exact⟨_,es',ep',hL,r'⟩) hok hg
theorem Inv.turned{t':Nat}{it:Addr}(I:Inv X pins σ H s)(k:∀b o,b≠it->s.heap.get? b=some o->h'.get? b=some o)(hn:H it=none)(hL:it≠X.env.locals)
  (h1:it∈X.ex\/X.s₀.heap.objs.size<=it) (h2:∀x c,X.env.cells.lookup x=some c->c≠it) (h3:∀p∈X.pn++pins,p.1≠it):Inv X pins σ H { s with heap:=h',toks:=t' }:=by
 have nit:∀b u,H b=some u->b≠it:=fun b u e z=>by rw[z,hn]at e;cases e
 refine I.step (g':=s.gens) (d':=s.drawn) (ch:=[it]) (fun b hb=>?_) (fun b o _ _ hc e _=>k b o (fun z=>hc (by simp[z])) e) (fun b o _ _ hc e _=>⟨o.slots,k b o (fun z=>hc (by simp[z])) e⟩) (fun _ _ _ _ n=>n)
  (fun b o hc e=>⟨o,k b o (fun z=>hc (by simp[z])) e⟩) (fun _ _ e=>e) (fun _ _ _ e=>e) (fun b ps e=>⟨#[],by rw[e];simp⟩) (fun m hm=>?_) (fun b u e=>?_) I.bare
 ·have e:b=it:=by simpa using hb
  subst e;exact⟨h1,hL,h2,h3⟩
 ·obtain⟨o,es,ep,ho,r⟩:=hm;exact⟨o,es,ep,k _ o (qCf hL) ho,r⟩
 ·refine(I.hok b u e).stay (fun c v hc q=>k c v ?_ q) (fun _ q=>q) fun _ _ q=>q
  rcases hc with z|z
  ·rw[z];exact nit b u e
  ·exact nit c _ z
theorem Inv.tok(I:Inv X pins σ H s)(t:Nat):Inv X pins σ H { s with toks:=t }:=I.un (h':=s.heap) (t':=t) Un.refl I.hok
theorem Inv.kept{t':Nat}(I:Inv X pins σ H s)(k:∀b u,s.heap.get? b=some u->h'.get? b=some u):Inv X pins σ H { s with heap:=h',toks:=t' }:=I.un (Un.kept k) (I.hok.kept k)
theorem Inv.laid{a:Addr}{o:HO}{t':Nat}(I:Inv X pins σ H s)(k:∀b u,s.heap.get? b=some u->h'.get? b=some u)(hp:s.heap.objs.size<=a)(new:ObjOk X.prog X.w (upd H a o) h' a o) :
  Inv X pins σ (upd H a o) { s with heap:=h',toks:=t' }:=I.un (Un.laid k hp (I.hok.fresh hp)) (I.hok.laid k hp new)
theorem Inv.write{x e:Addr}{o:HO}{t':Nat}(I:Inv X pins σ H s)(mu:Mut (H x))(he:e=x\/H e=some (.own x))(k:∀b u,b≠e->s.heap.get? b=some u->h'.get? b=some u)(heo:∃u,h'.get? e=some u)
  (new:ObjOk X.prog X.w (upd H x o) h' x o):Inv X pins σ (upd H x o) { s with heap:=h',toks:=t' }:=I.un (Un.write mu he k heo) (I.hok.write mu he k heo new)
theorem Inv.weak{σ':List (Option V)}(I:Inv X pins σ H s)(hl:σ'.length=σ.length)(w:∀(i:Nat) v,σ'[i]?=some (some v)->σ[i]?=some (some v)):Inv X pins σ' H s:=
 ⟨I.ok,I.os,I.bare,I.base,let⟨m,hn,hl'⟩:=I.loc;⟨m,hn,fun i x v e1 e2 e3=>hl' i x v e1 (w i v e2) e3⟩,I.cell,I.free,I.freeC,I.pin,I.hok,hl.trans I.len⟩
theorem Inv.pins_of{pins':List (Addr×Obj)}(I:Inv X pins σ H s)(h:∀p∈pins',s.heap.get? p.1=some p.2/\H p.1=none/\p.1≠X.env.locals/\p.1∉X.fs/\∀v,p.2.data≠.cell v):Inv X pins' σ H s:=
 ⟨I.ok,I.os,I.bare,I.base,I.loc,I.cell,I.free,I.freeC,fun p hp=>(qAw.mp hp).elim (fun z=>I.pin p (qB4 _ z)) (h p),I.hok,I.len⟩
theorem zNE{N:List Str}(hN:N.Nodup){i j:Nat}{x:Str}(a:N[i]?=some x)(b:N[j]?=some x):i=j:=by
 obtain⟨h1,e1⟩:=qA5.mp a;obtain⟨h2,e2⟩:=qA5.mp b;exact(List.getElem_inj hN).mp (e1.trans e2.symm)
theorem zJF{M:Model}{A:Around}{E:Value->Shared->Prop}{i:Nat}{x:Str}{v:V}{u:Value}{Q:Unit->Shared->Prop}(I:Inv X pins σ H s)(hN:X.N.Nodup)(hi:X.N[i]?=some x)(hx:Loc X.env.scope x)(r:RelV v u)
  (h:∀s',Inv X pins (σ.set i (some v)) H s'->(∃a,Heap.SameBut a s.heap s'.heap/\(a=X.env.locals\/X.env.cells.lookup x=some a))->Q () s') (hf:X.fn x=true\/X.env.scope.names.lookup x=some .local:=by first|exact .inl rfl|exact .inr rfl|assumption):wpAny M A (storeName X.env x u) Q E s:=by
 obtain⟨m,hn,hl⟩:=id I.loc;have hcls:(X.env.scope.kind==.class||(X.env.scope.kind==.module&&X.env.locals != X.env.globals))=false:=by rw[I.ok.kind];rfl
 have hiσ:i<σ.length:=by rw[I.len];exact(qA5.mp hi).1
 have cne:=I.cne;have tracked:∀{a:Addr}{h':Heap},(∃o,s.heap.get? a=some o/\H a=none)->Heap.SameBut a s.heap h'->HOk X.prog X.w H h':=fun{a h'} ha hs b ob e=>by
  obtain⟨_,_,hfree⟩:=ha;refine(I.hok b ob e).stay (fun c w' hc q=>(hs.2 c ?_).trans q) (fun _ q=>q) fun _ _ q=>q
  rintro rfl
  rcases hc with rfl|hc
  ·rw[hfree]at e;cases e
  ·rw[hfree]at hc;cases hc
 rcases hx with hk|hk
 ·refine wpAny_storeName_local hk hn (fun h' hn' hs=>?_) hcls;obtain⟨oL,_,_,hoL,_⟩:=id hn;refine h _ ⟨I.ok,I.os,I.bare,⟨fun b o e n hb hx=>?_,fun b o e n hb hx=>?_,I.base.free,fun b o e hx=>?_,I.base.tups,I.base.frzs,I.base.tbls⟩,⟨_,hn',fun j y v' e1 e2 e3=>?_⟩,fun y c e=>?_,I.free,I.freeC,fun p hp=>?_,tracked ⟨oL,hoL,I.free⟩ hs,by simpa using I.len⟩ ⟨_,hs,.inl rfl⟩
  ·exact(hs.2 b (qAn (qAf (Heap.lt_size e) I.ok.above))).trans (I.base.keep b o e n hb hx)
  ·obtain⟨sl,e1⟩:=I.base.slot b o e n hb hx;exact⟨sl,(hs.2 b (qAn (qAf (Heap.lt_size e) I.ok.above))).trans e1⟩
  ·obtain⟨o',e1⟩:=I.base.there b o e hx;exact⟨o',(hs.2 b (qAn (qAf (Heap.lt_size e) I.ok.above))).trans e1⟩
  ·by_cases hj:j=i
   ·subst hj;rw[hi]at e1;cases e1;rw[qAj hiσ]at e2;cases e2;exact⟨u,r,.inl ⟨hk,by simp⟩⟩
   ·rw[qAq (qCf hj)]at e2;obtain⟨u',r',q⟩:=hl j y v' e1 e2 e3;refine⟨u',r',?_⟩
    rcases q with⟨k,e⟩|⟨k,c,e,z⟩
    ·refine .inl ⟨k,?_⟩
     have:y≠x:=fun e=>hj (zNE hN e1 (e▸hi))
     simp[this,e]
    ·exact .inr ⟨k,c,e,z.sameBut hs (cne y c e)⟩
  ·obtain⟨w',z⟩:=I.cell y c e;exact⟨w',z.sameBut hs (cne y c e)⟩
  ·obtain⟨e,n,ne,nf,d⟩:=I.pin p hp;exact⟨(hs.2 p.1 ne).trans e,n,ne,nf,d⟩
 ·have hfn:X.fn x=true:=by
   rcases hf with z|z
   ·exact z
   ·rw[z]at hk;cases hk
  obtain⟨c,hc⟩:=I.ok.has x (.inl hk);obtain⟨w',z⟩:=I.cell x c hc;refine wpAny_storeName_cell I.ok.kind hk hc z (fun h' hc' hs=>?_);obtain⟨oc,hoc,hocd⟩:=id z;refine h { s with heap:=h' } ⟨I.ok,I.os,I.bare,⟨fun b o e n hb hx=>?_,fun b o e n hb hx=>?_,I.base.free,fun b o e hx=>?_,I.base.tups,I.base.frzs,I.base.tbls⟩,⟨m,hn.sameBut hs (qCf (cne x c hc)),fun j y v' e1 e2 e3=>?_⟩,fun y c' e=>?_,I.free,I.freeC,fun p hp=>?_,tracked ⟨oc,hoc,I.freeC x c hc⟩ hs,by simpa using I.len⟩ ⟨c,hs,.inr hc⟩
  ·exact(hs.2 b (qAn (qAf (Heap.lt_size e) (I.ok.cab x c hfn hc)))).trans (I.base.keep b o e n hb hx)
  ·obtain⟨sl,e1⟩:=I.base.slot b o e n hb hx;exact⟨sl,(hs.2 b (qAn (qAf (Heap.lt_size e) (I.ok.cab x c hfn hc)))).trans e1⟩
  ·obtain⟨o',e1⟩:=I.base.there b o e hx;exact⟨o',(hs.2 b (qAn (qAf (Heap.lt_size e) (I.ok.cab x c hfn hc)))).trans e1⟩
  ·by_cases hj:j=i
   ·subst hj;rw[hi]at e1;cases e1;rw[qAj hiσ]at e2;cases e2;exact⟨u,r,.inr ⟨.inl hk,c,hc,hc'⟩⟩
   ·rw[qAq (qCf hj)]at e2;obtain⟨u',r',q⟩:=hl j y v' e1 e2 e3;refine⟨u',r',?_⟩
    rcases q with q|⟨k,c',e,z'⟩
    ·exact .inl q
    ·refine .inr ⟨k,c',e,z'.sameBut hs ?_⟩
     rintro rfl
     exact hj (zNE hN e1 (I.ok.inj _ _ _ e hc▸hi))
  ·by_cases hcc:c'=c
   ·subst hcc;exact⟨_,hc'⟩
   ·obtain⟨w2,z2⟩:=I.cell y c' e;exact⟨w2,z2.sameBut hs hcc⟩
  ·obtain⟨e,n,ne,nf,d⟩:=I.pin p hp;refine⟨(hs.2 p.1 ?_).trans e,n,ne,nf,d⟩;intro q;rw[q,hoc]at e;have q':oc=p.2:=qBa e;exact d w' (by rw[<- q'];exact hocd)
theorem zMW{M:Model}{A:Around}{E:Value->Shared->Prop}{i:Nat}{x:Str}{v:V}{u:Value}{Q:Unit->Shared->Prop}(I:Inv X pins σ H s)(hN:X.N.Nodup)(hi:X.N[i]?=some x)(hx:Loc X.env.scope x)(r:RelV v u)
  (h:∀s',Inv X pins (σ.set i (some v)) H s'->Q () s') (hf:X.fn x=true\/X.env.scope.names.lookup x=some .local:=by first|exact .inl rfl|exact .inr rfl|assumption):wpAny M A (storeName X.env x u) Q E s:=
 zJF I hN hi hx r (fun s' I' _=>h s' I') hf
theorem Inv.call'{s':Shared}{ch:List Addr}(I:Inv X pins σ H s)(ho:s'.os=s.os)(u:Un (frs X.stack) ch H H' s.heap s'.heap)(hok:HOk X.prog X.w H' s'.heap)(hg:AllBare s'.gens)
  (hch:∀b∈ch,(b∈X.ex\/X.s₀.heap.objs.size<=b)/\b≠X.env.locals/\(∀x c,X.env.cells.lookup x=some c->c≠b)/\∀p∈X.pn++pins,p.1≠b):Inv X pins σ H' s':=by
 obtain⟨h',g',d',t',o'⟩:=s';have e:o'=s.os:=ho;subst e;exact I.call (g':=g') (t':=t') (d':=d') u hok hg hch
end
abbrev XK:=Value->Option Addr->Hp->Prop
abbrev St:=List (Option V)
abbrev VK:=V->Hp->Prop
abbrev TE:=St->Hp->VK->Prop
abbrev TT:=St->Hp->(Bool->Hp->Prop)->Prop
abbrev TA:=St->Hp->(List V->Hp->Prop)->Prop
structure Ends where
 nx:St->Hp->Prop
 rt:VK
 bk:St->Hp->Prop:=fun _ _=>False
 ct:St->Hp->Prop:=fun _ _=>False
abbrev TS:=Ends->St->Hp->Prop
def EP(X:Cx)(pins:List (Addr×Obj))(σ:St)(Q:VK)(u:Value)(s':Shared):Prop:=∃v H',Inv X pins σ H' s'/\RelV v u/\Q v H'
def TP(X:Cx)(pins:List (Addr×Obj))(σ:St)(Q:Bool->Hp->Prop)(b:Bool)(s':Shared):Prop:=∃H',Inv X pins σ H' s'/\Q b H'
def AP(X:Cx)(pins:List (Addr×Obj))(σ:St)(Q:List V->Hp->Prop)(us:List Value)(s':Shared):Prop:=∃vs H',Inv X pins σ H' s'/\Vals vs us/\Q vs H'
def SP(X:Cx)(pins:List (Addr×Obj))(D:Ends)(f:Flow)(s':Shared):Prop:=
 match f with
 |.next=>∃σ' H',Inv X pins σ' H' s'/\D.nx σ' H'
 |.brk=>∃σ' H',Inv X pins σ' H' s'/\D.bk σ' H'
 |.cont=>∃σ' H',Inv X pins σ' H' s'/\D.ct σ' H'
 |.ret u=>∃v σ' H',Inv X pins σ' H' s'/\RelV v u/\D.rt v H'
def PE(X:Cx)(e:Expr)(t:TE):Prop:=
 ∀(pins:List (Addr×Obj))(s:Shared)(σ:St)(H:Hp)(Q:VK),Inv X pins σ H s->t σ H Q->wpAny (model X.prog X.w) X.A (eval e X.env) (EP X pins σ Q) X.xe s
def PT(X:Cx)(e:Expr)(t:TT):Prop:=
 ∀(pins:List (Addr×Obj))(s:Shared)(σ:St)(H:Hp)(Q:Bool->Hp->Prop),Inv X pins σ H s->t σ H Q->wpAny (model X.prog X.w) X.A (isTrue e X.env (eval e X.env)) (TP X pins σ Q) X.xe s
def PW(X:Cx)(e:Expr)(t:TT):Prop:=
 ∀(whole:Sem Value)(pins:List (Addr×Obj))(s:Shared)(σ:St)(H:Hp)(Q:Bool->Hp->Prop),Inv X pins σ H s->t σ H Q->wpAny (model X.prog X.w) X.A (isTrue e X.env whole) (TP X pins σ Q) X.xe s
theorem PW.pt{X:Cx}{e:Expr}{t:TT}(h:PW X e t):PT X e t:=h _
def PA(X:Cx)(es:List Expr)(t:TA):Prop:=
 ∀(pos:Pos)(pins:List (Addr×Obj))(s:Shared)(σ:St)(H:Hp)(Q:List V->Hp->Prop),Inv X pins σ H s->t σ H Q->wpAny (model X.prog X.w) X.A (spliced (backTo pos (starEach es X.env))) (AP X pins σ Q) X.xe s
def PS(X:Cx)(st:Stmt)(t:TS):Prop:=
 ∀(pins:List (Addr×Obj))(s:Shared)(σ:St)(H:Hp)(D:Ends),Inv X pins σ H s->t D σ H->wpAny (model X.prog X.w) X.A (exec st X.env) (SP X pins D) X.xe s
def PSs(X:Cx)(st:List Stmt)(t:TS):Prop:=
 ∀(pins:List (Addr×Obj))(s:Shared)(σ:St)(H:Hp)(D:Ends),Inv X pins σ H s->t D σ H->wpAny (model X.prog X.w) X.A (execs st X.env) (SP X pins D) X.xe s
theorem thn{α:Type}{t:Sem α}{Q Q':α->Shared->Prop}{M:Model}{A:Around}{E:Value->Shared->Prop}{s:Shared}(h:wpAny M A t Q E s)(hQ:∀a s,Q a s->Q' a s):wpAny M A t Q' E s:=wpAny_mono h hQ fun _ _ x=>x
end L2
namespace L2
open PySem PySem.Spec PyProof.Rows
section
variable{X:Cx}
noncomputable def tVar(i:Nat):TE:=fun σ H Q=>∃v,σ[i]?=some (some v)/\Q v H
noncomputable def tC(v:V):TE:=fun _ H Q=>Q v H
theorem zVH{i:Nat}{x:Str}{pos:Pos}(hN:X.N[i]?=some x)(hv:Vis X.env.scope x)(hd:(x==("__debug__":Str))=false:=by decide)(hcd:(x==("__classdict__":Str))=false:=by decide):PE X (.Name x pos) (tVar i):=by
 intro pins s σ H Q I h;obtain⟨v,e,h⟩:=h;obtain⟨m,hn,hl⟩:=I.loc;obtain⟨u,r,l⟩:=hl i x v hN e hv;have fin:EP X pins σ Q u s:=⟨v,H,I,r,h⟩
 rcases l with⟨hk,hm⟩|⟨hk,c,hc,hcell⟩
 ·exact wpAny_Name (wpAny_loadName_local I.ok.kind hk hn hm fin) hd
 ·rcases hk with hk|hk
  ·exact wpAny_Name (wpAny_loadName_cell I.ok.kind hk hc hcell fin) hd
  ·exact wpAny_Name (wpAny_loadName_free I.ok.kind hk hc hcell fin hcd) hd
theorem zAI{i j pos}:PE X (.Constant (.int i) j pos) (tC (.int i)):=fun _ _ _ H _ I h=>wpAny_Constant_int ⟨.int i,H,I.tok _,⟨_,rfl⟩,h⟩
theorem zaA{b j pos}:PE X (.Constant (.bool b) j pos) (tC (.bl b)):=fun _ _ _ H _ I h=>Constant_bool ⟨.bl b,H,I,rfl,h⟩
theorem zVJ{j pos}:PE X (.Constant .none j pos) (tC .non):=fun _ _ _ H _ I h=>Constant_none ⟨.non,H,I,rfl,h⟩
theorem zN8{x j pos}:PE X (.Constant (.str x) j pos) (tC (.str x)):=fun _ _ _ H _ I h=>Calls.Constant_str ⟨.str x,H,I.tok _,⟨_,rfl⟩,h⟩
def Gl(X:Cx)(x:Str):Prop:=X.env.kindOf x=some .globalImplicit
theorem zLU{E:Value->Shared->Prop}{pins:List (Addr×Obj)}{s:Shared}{σ:St}{H:Hp}{x:Str}{u:Value}{pos:Pos}{Q:Value->Shared->Prop}(I:Inv X pins σ H s)(hg:Gl X x)(hm:X.mg x=some u)(h:Q u s)
  (hd:(x==("__debug__":Str))=false:=by decide):wpAny (model X.prog X.w) X.A (eval (.Name x pos) X.env) Q E s:=
 Calls.Name_function_global I.ok.kind hg (Calls.loadGlobal_global (by rw[I.ok.glob];exact I.mod.glob.keeps I.bk) hm h) hd
theorem zGA{E:Value->Shared->Prop}{pins:List (Addr×Obj)}{s:Shared}{σ:St}{H:Hp}{x:Str}{u:Value}{pos:Pos}{Q:Value->Shared->Prop}(I:Inv X pins σ H s)(hg:Gl X x)(hm:X.mg x=none)(hv:bootBuiltins x=some u)(h:Q u s)
  (hn:x≠"__name__":=by decide) (hd:(x==("__debug__":Str))=false:=by decide):wpAny (model X.prog X.w) X.A (eval (.Name x pos) X.env) Q E s:=by
 obtain⟨mb,h1,h2⟩:=I.mod.blt;exact Calls.Name_function_global I.ok.kind hg (Calls.loadGlobal_builtin (by rw[I.ok.glob];exact I.mod.glob.keeps I.bk) hm (by rw[I.ok.blt];exact h1.keeps I.bk) ((h2 x hn).trans hv) h) hd
theorem zLJ{x:Str}{v:V}{u:Value}{pos:Pos}(hg:Gl X x)(hm:X.mg x=none)(hv:bootBuiltins x=some u)(r:RelV v u)(hn:x≠"__name__":=by decide)(hd:(x==("__debug__":Str))=false:=by decide):PE X (.Name x pos) (tC v):=
 fun _ _ _ H _ I h=>zGA I hg hm hv ⟨v,H,I,r,h⟩ hn hd
variable{a b:Expr}{ta tb:TE}{pos:Pos}
noncomputable def tB(t:TE):TT:=fun σ H Q=>t σ H fun x H1=>∃c,x=.bl c/\Q c H1
variable{tA tB':TT}{rest:List Expr}
noncomputable def tAnd(t u:TT):TT:=fun σ H Q=>t σ H fun c H1=>if c=true then u σ H1 Q else Q false H1
noncomputable def tOr(t u:TT):TT:=fun σ H Q=>t σ H fun c H1=>if c=true then Q true H1 else u σ H1 Q
noncomputable def tNot(t:TT):TT:=fun σ H Q=>t σ H fun c H1=>Q (!c) H1
theorem zX7(ha:PT X a tA):PW X (.BoolOp .And [a] pos) tA:=by
 intro wh pins s σ H Q I h;refine isTrue_and (thn (ha pins s σ H Q I h) fun c s1 e=>?_);cases c with
 |true=>exact isTrue_and_nil e
 |false=>exact e
theorem zVD(ha:PT X a tA):PW X (.BoolOp .Or [a] pos) tA:=by
 intro wh pins s σ H Q I h;refine isTrue_or (thn (ha pins s σ H Q I h) fun c s1 e=>?_);cases c with
 |false=>exact isTrue_or_nil e
 |true=>exact e
theorem za6(ha:PT X a tA)(hb:PW X (.BoolOp .And (b::rest) pos) tB'):PW X (.BoolOp .And (a::b::rest) pos) (tAnd tA tB'):=by
 intro wh pins s σ H Q I h;refine isTrue_and (thn (ha pins s σ H _ I h) fun c s1 z0=>?_);obtain⟨H1,I1,q1⟩:=z0;cases c with
 |true=>exact hb wh pins s1 σ H1 Q I1 q1
 |false=>exact⟨H1,I1,q1⟩
theorem za5(ha:PT X a tA)(hb:PW X (.BoolOp .Or (b::rest) pos) tB'):PW X (.BoolOp .Or (a::b::rest) pos) (tOr tA tB'):=by
 intro wh pins s σ H Q I h;refine isTrue_or (thn (ha pins s σ H _ I h) fun c s1 z0=>?_);obtain⟨H1,I1,q1⟩:=z0;cases c with
 |true=>exact⟨H1,I1,q1⟩
 |false=>exact hb wh pins s1 σ H1 Q I1 q1
theorem zVE(ha:PT X a tA):PT X (.UnaryOp .Not a pos) (tNot tA):=by
 intro pins s σ H Q I h;exact isTrue_not (ha pins s σ H (fun c H1=>Q (!c) H1) I h)
theorem zQF{op}{t:TE}(h:PE X a t):PE X (.BoolOp op [a] pos) t:=fun pins s σ H Q I hw=>BoolOp_one (h pins s σ H Q I hw)
noncomputable def tIf(t:TT)(ta tb:TE):TE:=fun σ H Q=>t σ H fun c H1=>if c=true then ta σ H1 Q else tb σ H1 Q
theorem zI4{c:Expr}(hc:PT X c tA)(ha:PE X a ta)(hb:PE X b tb):PE X (.IfExp c a b pos) (tIf tA ta tb):=by
 intro pins s σ H Q I h;refine wpAny_IfExp (thn (hc pins s σ H _ I h) fun d s1 z0=>?_);obtain⟨H1,I1,q1⟩:=z0;cases d with
 |true=>exact ha pins s1 σ H1 Q I1 q1
 |false=>exact hb pins s1 σ H1 Q I1 q1
end
end L2
namespace L2
open PySem PySem.Spec PyProof.Rows
def SqL(K:qA1)(H:Hp)(a:Addr)(xs:List V):Prop:=
 Rd H a (.lst xs) \/
  ∃(o:Obj)(its:Array Value)(n:Nat),K.lookup a=some o/\o.cls=.type "list"/\o.dict=none/\o.data=.seq its n/\its.size<=sizeLine/\Vals xs its.toList
def SqT(K:qA1)(H:Hp)(a:Addr)(xs:List V):Prop:=
 Rd H a (.tup xs) \/
  ∃(o:Obj)(its:Array Value)(n:Nat),K.lookup a=some o/\o.cls=.type "tuple"/\o.data=.seq its n/\its.size<=sizeLine/\Vals xs its.toList
noncomputable def absV:Value->Option V
 |.none=>some .non
 |.bool b=>some (.bl b)
 |.int i _=>some (.int i)
 |.str x _=>some (.str x)
 |.bytes b _=>some (.byt b)
 |.float b _=>some (.flt b)
 |.ref a=>some (.ref a)
 |.type n=>some (.ty n)
 |_=>none
theorem RelV.abs{x:V}{u:Value}(r:RelV x u):absV u=some x:=by
 cases x with
 |non=>cases r;rfl
 |bl _=>cases r;rfl
 |int _=>obtain⟨t,rfl⟩:=r;rfl
 |str _=>obtain⟨t,rfl⟩:=r;rfl
 |byt _=>obtain⟨t,rfl⟩:=r;rfl
 |flt _=>obtain⟨t,rfl⟩:=r;rfl
 |ref _=>cases r;rfl
 |ty _=>cases r;rfl
theorem RelV.inj{x y:V}{u:Value}(r:RelV x u)(q:RelV y u):x=y:=qBa (r.abs.symm.trans q.abs)
theorem Vals.inj:∀{xs ys:List V}{us:List Value},Vals xs us->Vals ys us->xs=ys
 |_,_,_,.nil,.nil=>rfl
 |_,_,_,.cons r t,.cons r' t'=>by rw[r.inj r',Vals.inj t t']
section
variable{X:Cx}{pins:List (Addr×Obj)}{σ:St}{H:Hp}{s:Shared}{a:Addr}{xs ys:List V}
theorem SqL.of{K:qA1}(h:H a=some (.lst xs)):SqL K H a xs:=.inl (.inl h)
theorem SqT.of{K:qA1}(h:H a=some (.tup xs)):SqT K H a xs:=.inl (.inl h)
theorem Inv.list(I:Inv X pins σ H s)(h:SqL X.K H a xs):∃its:List Value,Vals xs its/\PlainL s.heap a its.toArray/\xs.length<=sizeLine:=by
 rcases h with h|⟨o,its,n,hk,hc,hd,hs,hz,r⟩
 ·obtain⟨z,its,n,r,e⟩:=h.ok I.hok;exact⟨its,r,⟨_,n,e,rfl,rfl,rfl⟩,z⟩
 ·refine⟨its.toList,r,⟨o,n,I.kIn a o hk,hc,hd,by simpa using hs⟩,?_⟩;have e:=r.length;simp only[qB2]at e;omega
theorem Inv.tuple(I:Inv X pins σ H s)(h:SqT X.K H a xs):∃its:List Value,Vals xs its/\IsTup s.heap a its.toArray/\xs.length<=sizeLine:=by
 rcases h with h|⟨o,its,n,hk,hc,hs,hz,r⟩
 ·obtain⟨z,its,r,p⟩:=h.ok I.hok;exact⟨its,r,p,z⟩
 ·refine⟨its.toList,r,⟨o,I.kIn a o hk,hc,n,by simpa using hs⟩,?_⟩;have e:=r.length;simp only[qB2]at e;omega
theorem Inv.list_inj(I:Inv X pins σ H s)(h:SqL X.K H a xs)(h':SqL X.K H a ys):xs=ys:=by
 obtain⟨its,r,⟨o,n,e,_,_,d⟩,_⟩:=I.list h;obtain⟨its',r',⟨o',n',e',_,_,d'⟩,_⟩:=I.list h';rw[e]at e';cases e';rw[d]at d'
 injection d' with d1 _
 have:its=its':=by simpa using congrArg qG8 d1
 subst this;exact r.inj r'
theorem Inv.tuple_inj(I:Inv X pins σ H s)(h:SqT X.K H a xs)(h':SqT X.K H a ys):xs=ys:=by
 obtain⟨its,r,⟨o,e,_,n,d⟩,_⟩:=I.tuple h;obtain⟨its',r',⟨o',e',_,n',d'⟩,_⟩:=I.tuple h';rw[e]at e';cases e';rw[d]at d'
 injection d' with d1 _
 have:its=its':=by simpa using congrArg qG8 d1
 subst this;exact r.inj r'
end
abbrev Cx.wish(X:Cx)(E:Value->Shared->Prop):Cx:={ X with xe:=E }
abbrev Cx.nox(X:Cx):Cx:=X.wish fun _ _=>False
theorem Cx.Ok.wish{X:Cx}(ok:X.Ok)(E:Value->Shared->Prop):(X.wish E).Ok:=
 ⟨ok.mod,ok.kind,ok.glob,ok.blt,ok.above,ok.inj,ok.has,ok.cab,ok.hd,ok.frames,ok.stk,ok.exf,ok.bs,ok.bsz,ok.noex,ok.exfs,ok.funs,ok.frf⟩
theorem Cx.Ok.unwish{X:Cx}{E:Value->Shared->Prop}(ok:(X.wish E).Ok):X.Ok:=
 ⟨ok.mod,ok.kind,ok.glob,ok.blt,ok.above,ok.inj,ok.has,ok.cab,ok.hd,ok.frames,ok.stk,ok.exf,ok.bs,ok.bsz,ok.noex,ok.exfs,ok.funs,ok.frf⟩
section
variable{X:Cx}{pins:List (Addr×Obj)}{σ:St}{H:Hp}{s:Shared}{E:Value->Shared->Prop}
theorem Inv.wish(I:Inv X pins σ H s)(E:Value->Shared->Prop):Inv (X.wish E) pins σ H s:=⟨I.ok.wish E,I.os,I.bare,I.base,I.loc,I.cell,I.free,I.freeC,I.pin,I.hok,I.len⟩
theorem Inv.unwish(I:Inv (X.wish E) pins σ H s):Inv X pins σ H s:=⟨I.ok.unwish,I.os,I.bare,I.base,I.loc,I.cell,I.free,I.freeC,I.pin,I.hok,I.len⟩
theorem SP.unwish{D:Ends}{f:Flow}{s':Shared}(h:SP (X.wish E) pins D f s'):SP X pins D f s':=by
 cases f with
 |next=>obtain⟨σ',H',I,q⟩:=h;exact⟨σ',H',I.unwish,q⟩
 |brk=>obtain⟨σ',H',I,q⟩:=h;exact⟨σ',H',I.unwish,q⟩
 |cont=>obtain⟨σ',H',I,q⟩:=h;exact⟨σ',H',I.unwish,q⟩
 |ret u=>obtain⟨v,σ',H',I,r,q⟩:=h;exact⟨v,σ',H',I.unwish,r,q⟩
theorem PSs.nox{st:List Stmt}{t:TS}(h:PSs X.nox st t):PSs X st t:=fun pins s σ H D I hw=>
 wpAny_mono (h pins s σ H D (I.wish _) hw) (fun _ _ q=>q.unwish) fun _ _ z=>qA3 z
end
section
variable{X:Cx}{st:Stmt}{rest:List Stmt}{t u:TS}{e:Expr}{te:TE}{pos:Pos}
noncomputable def zZG:TS:=fun D σ H=>D.nx σ H
noncomputable def tSeq(t u:TS):TS:=fun D σ H=>t { D with nx:=u D } σ H
theorem zE1:PSs X [] zZG:=fun _ _ σ H _ I h=>wpAny_execs_nil ⟨σ,H,I,h⟩
theorem zA6(h1:PS X st t)(h2:PSs X rest u):PSs X (st::rest) (tSeq t u):=by
 intro pins s σ H D I h;refine wpAny_execs_cons (thn (h1 pins s σ H { D with nx:=u D } I h) fun f s1 q=>?_);cases f with
 |next=>
  obtain⟨σ',H',I',q⟩:=q;exact h2 pins s1 σ' H' D I' q
 |ret v=>exact q
 |brk=>exact q
 |cont=>exact q
theorem zAJ(h1:PS X st t):PSs X [st] t:=by
 intro pins s σ H D I h;refine wpAny_execs_cons (thn (h1 pins s σ H D I h) fun f s1 q=>?_);cases f with
 |next=>exact wpAny_execs_nil q
 |ret v=>exact q
 |brk=>exact q
 |cont=>exact q
theorem Inv.quiet{pins:List (Addr×Obj)}{σ:St}{H:Hp}{s:Shared}(I:Inv X pins σ H s):interactive X.env=false:=by simp[interactive,I.ok.kind]
noncomputable def zGU(te:TE):TS:=fun D σ H=>te σ H fun _ H1=>D.nx σ H1
theorem zE2(he:PE X e te)(hs:swapsWith e none pos.line X.env=pure false:=by rfl):PS X (.Expr e pos) (zGU te):=by
 intro pins s σ H D I h;exact wpAny_Expr_any (thn (he pins s σ H _ I h) fun v s1 ⟨x,H1,I1,r1,q1⟩=>⟨σ,H1,I1,q1⟩) I.quiet hs
noncomputable def tRet(te:TE):TS:=fun D σ H=>te σ H D.rt
theorem zAW(he:PE X e te):PS X (.Return (some e) pos) (tRet te):=by
 intro pins s σ H D I h;exact wpAny_Return_some (thn (he pins s σ H _ I h) fun v s1 ⟨x,H1,I1,r1,q1⟩=>⟨x,σ,H1,I1,r1,q1⟩)
noncomputable def tIfS(c:TT)(t u:TS):TS:=fun D σ H=>c σ H fun b H1=>if b=true then t D σ H1 else u D σ H1
theorem zLF{c:Expr}{a b:List Stmt}{tc:TT}(hc:PT X c tc)(ha:PSs X a t)(hb:PSs X b u):PS X (.If c a b pos) (tIfS tc t u):=by
 intro pins s σ H D I h;refine wpAny_If (thn (hc pins s σ H _ I h) fun d s1 z0=>?_);obtain⟨H1,I1,q1⟩:=z0;cases d with
 |true=>exact ha pins s1 σ H1 D I1 q1
 |false=>exact hb pins s1 σ H1 D I1 q1
end
abbrev TG:=V->St->Hp->(St->Hp->Prop)->Prop
abbrev TGs:=List V->St->Hp->(St->Hp->Prop)->Prop
def PG(X:Cx)(target:Expr)(t:TG):Prop:=
 ∀(pins:List (Addr×Obj))(s:Shared)(σ:St)(H:Hp)(v:V)(u:Value)(Q:St->Hp->Prop),Inv X pins σ H s->RelV v u->t v σ H Q ->
  wpAny (model X.prog X.w) X.A (assign target X.env u) (fun _ s'=>∃σ' H',Inv X pins σ' H' s'/\Q σ' H') X.xe s
def PGs(X:Cx)(ts:List Expr)(t:TGs):Prop:=
 ∀(pins:List (Addr×Obj))(s:Shared)(σ:St)(H:Hp)(vs:List V)(us:List Value)(Q:St->Hp->Prop),Inv X pins σ H s->Vals vs us->t vs σ H Q ->
  wpAny (model X.prog X.w) X.A (assignInOrder ((assignEach ts X.env).map (·.2)) us) (fun _ s'=>∃σ' H',Inv X pins σ' H' s'/\Q σ' H') X.xe s
abbrev TSet:=V->V->V->Hp->(Hp->Prop)->Prop
def PSet(X:Cx)(t:TSet):Prop:=
 ∀(pins:List (Addr×Obj))(s:Shared)(σ:St)(H:Hp)(o i v:V)(ov iv u:Value)(Q:Hp->Prop),Inv X pins σ H s->RelV o ov->RelV i iv->RelV v u->t o i v H Q ->
  wpAny (model X.prog X.w) X.A (setItem ov iv u) (fun _ s'=>∃H',Inv X pins σ H' s'/\Q H') X.xe s
section
variable{X:Cx}{pos:Pos}
noncomputable def zEK(i:Nat):TG:=fun v σ H Q=>Q (σ.set i (some v)) H
theorem zB4{i:Nat}{x:Str}(hN:X.N.Nodup)(hi:X.N[i]?=some x)(hx:Loc X.env.scope x)(hf:X.fn x=true\/X.env.scope.names.lookup x=some .local:=by first|exact .inl rfl|exact .inr rfl|assumption):PG X (.Name x pos) (zEK i):=by
 intro pins s σ H v u Q I r h;exact wpAny_assign_Name (zMW I hN hi hx r (fun s' I'=>⟨_,H,I',h⟩) hf)
noncomputable def gNil:TGs:=fun vs σ H Q=>vs=[]/\Q σ H
noncomputable def zb3(t:TG)(u:TGs):TGs:=fun vs σ H Q=>∃v r,vs=v::r/\t v σ H fun σ' H'=>u r σ' H' Q
theorem zI1:PGs X [] gNil:=by
 intro pins s σ H vs us Q I r h;obtain⟨e,h⟩:=h;subst e;cases r;exact assignInOrder_nil ⟨σ,H,I,h⟩
theorem zCC{e:Expr}{es:List Expr}{t:TG}{u:TGs}(h1:PG X e t)(h2:PGs X es u)
  (hs:(assignEach (e::es) X.env).map (·.2)=assign e X.env::(assignEach es X.env).map (·.2):=by rfl):PGs X (e::es) (zb3 t u):=by
 intro pins s σ H vs us Q I r h;obtain⟨v,vr,e1,h⟩:=h;subst e1;cases r with
 |cons r rr=>
  rw[hs];refine assignInOrder_cons (thn (h1 pins s σ H _ _ _ I r h) fun _ s1 z0=>?_);obtain⟨σ1,H1,I1,q1⟩:=z0;exact h2 pins s1 σ1 H1 _ _ Q I1 rr q1
noncomputable def gTup(K:qA1)(n:Nat)(t:TGs):TG:=fun v σ H Q=>∃a xs,v=.ref a/\SqT K H a xs/\xs.length=n/\t xs σ H Q
theorem za8{es:List Expr}{k:Nat}{t:TGs}{n:Nat}(hc:X.calm=true)(h:PGs X es t)
  (hn:(assignEach es X.env).length=n:=by rfl) (hst:(assignEach es X.env).findIdx? (·.1)=none:=by rfl):PG X (.Tuple es k pos) (gTup X.K n t):=by
 intro pins s σ H v u Q I r hw;obtain⟨a,xs,e1,hq,hl,hw⟩:=hw;subst e1;cases r;obtain⟨its,rv,ht,hz⟩:=I.tuple hq;refine assign_Tuple_tuple (I.ok.hd hc) ht (by simp[hn,<- hl,rv.length]) hst fun h' hx=>?_
 have I1:Inv X pins σ H { s with heap:=h' }:=I.kept (t':=s.toks) fun b o e=>hx b o (qAn (Heap.lt_size e)) e
 exact h pins _ σ H xs _ Q I1 (by simpa using rv) hw
noncomputable def gSub(to ti:TE)(t:TSet):TG:=fun v σ H Q=>to σ H fun o H1=>ti σ H1 fun i H2=>t o i v H2 fun H3=>Q σ H3
theorem zVG{o i:Expr}{to ti:TE}{t:TSet}(ho:PE X o to)(hi:PE X i ti)(hs:PSet X t)
  (ha:∀v,assign (.Subscript o i pos) X.env v=(do
   let ov <- holding [v] (eval o X.env)
   let iv <- holding [v,ov] (eval i X.env)
   standAt pos
   holding [v,ov,iv] (setItem ov iv v)
   release [v,ov,iv] []):=by intro _;rfl):PG X (.Subscript o i pos) (gSub to ti t):=by
 intro pins s σ H v u Q I r h;rw[ha];refine wpAny_bind (wpAny_holding (thn (ho pins s σ H _ I h) fun ov s1 z0=>?_));obtain⟨x,H1,I1,r1,q1⟩:=z0;refine wpAny_bind (wpAny_holding (thn (hi pins s1 σ H1 _ I1 q1) fun iv s2 z0=>?_));obtain⟨y,H2,I2,r2,q2⟩:=z0;refine wpAny_bind (wpAny_standAt (wpAny_bind (wpAny_holding (thn (hs pins s2 σ H2 x y v ov iv u _ I2 r1 r2 r q2) fun _ s3 z0=>?_))));obtain⟨H3,I3,q3⟩:=z0;exact wpAny_release ⟨σ,H3,I3,q3⟩
noncomputable def tAsg(te:TE)(g:TG):TS:=fun D σ H=>te σ H fun x H1=>g x σ H1 D.nx
theorem zQ9{tg e:Expr}{te:TE}{g:TG}(he:PE X e te)(hg:PG X tg g)(hs:swapsWithSole [tg] e pos.line X.env=pure false:=by rfl)(hw:swappedStores [tg] e X.env=pure none:=by rfl)
  (h1:(assignEach [tg] X.env).map (·.2)=[assign tg X.env]:=by rfl):PS X (.Assign [tg] e pos) (tAsg te g):=by
 intro pins s σ H D I h;refine wpAny_Assign_stores (thn (he pins s σ H _ I h) fun v s1 z0=>?_) hs hw;obtain⟨x,H1,I1,r1,q1⟩:=z0;rw[h1];exact thn (hg pins s1 σ H1 x v _ I1 r1 q1) fun _ s2 q=>q
theorem zVF{i:Nat}{x:Str}{e:Expr}{te:TE}{pos':Pos}(hN:X.N.Nodup)(hi:X.N[i]?=some x)(hx:Loc X.env.scope x)(he:PE X e te)(hs:swapsWith e (some (.Name x pos')) pos.line X.env=pure false:=by rfl)(hf:X.fn x=true\/X.env.scope.names.lookup x=some .local:=by first|exact .inl rfl|exact .inr rfl|assumption) :
  PS X (.Assign [.Name x pos'] e pos) (tAsg te (zEK i)):=by
 intro pins s σ H D I h;refine wpAny_Assign_Name (thn (he pins s σ H _ I h) fun v s1 z0=>?_) hs;obtain⟨y,H1,I1,r1,q1⟩:=z0;exact zMW I1 hN hi hx r1 (fun s2 I2=>⟨_,H1,I2,q1⟩) hf
noncomputable def zPR(c:TT)(tb:TS):TS:=fun D σ H=>∃W:Nat->St->Hp->Prop,(∃m,W m σ H)/\∀m σ H,W m σ H ->
 c σ H fun b H1=>if b=true then ∃N:St->Hp->Prop,(∀σ' H',N σ' H'->∃m',m'<m/\W m' σ' H')/\tb { D with nx:=N,ct:=N,bk:=D.nx } σ H1 else D.nx σ H1
theorem zT9{c:Expr}{body:List Stmt}{tc:TT}{tb:TS}(hp:PassesOwn (model X.prog X.w) X.A X.env X.xe)(hc:PT X c tc)(hb:PSs X body tb):PS X (.While c body [] pos) (zPR tc tb):=by
 intro pins s σ H D I h;obtain⟨W,⟨m0,w0⟩,turn⟩:=h;refine wpAny_While (codeAny_whileLoop (fun n s'=>∃σ' H',Inv X pins σ' H' s'/\W n σ' H') ?_ m0 ⟨σ,H,I,w0⟩)
 rintro n s1 ⟨σ1,H1,I1,w1⟩
 refine wpAny_passesOwn hp (thn (hc pins s1 σ1 H1 _ I1 (turn n σ1 H1 w1)) fun b s2 z0=>?_);obtain⟨H2,I2,q2⟩:=z0;cases b with
 |true=>
  obtain⟨N,hN,q2⟩:=q2;rw[if_pos rfl];refine wpAny_passesOwn hp (thn (hb pins s2 σ1 H2 _ I2 q2) fun f s3 q3=>?_);cases f with
  |next=>
   obtain⟨σ3,H3,I3,n3⟩:=q3;obtain⟨m',hm,w3⟩:=hN σ3 H3 n3;exact⟨m',hm,σ3,H3,I3,w3⟩
  |cont=>
   obtain⟨σ3,H3,I3,n3⟩:=q3;obtain⟨m',hm,w3⟩:=hN σ3 H3 n3;exact⟨m',hm,σ3,H3,I3,w3⟩
  |brk=>exact q3
  |ret v=>exact q3
 |false=>
  rw[if_neg qAe];exact wpAny_execs_nil ⟨σ1,H2,I2,q2⟩
end
structure It where
 go:Nat->Hp->Prop
 yld:Nat->Hp->V->Hp->Prop
 stop:Nat->Hp->Prop
def FpOk(X:Cx)(pins:List (Addr×Obj))(H:Hp)(b:Addr):Prop:=
 H b=none/\b≠X.env.locals/\b∉X.fs/\(b∈X.ex\/X.s₀.heap.objs.size<=b)/\(∀x c,X.env.cells.lookup x=some c->c≠b)/\∀p∈X.pn++pins,p.1≠b
theorem Inv.fpOk{X:Cx}{pins:List (Addr×Obj)}{σ:St}{H H':Hp}{s:Shared}{b:Addr}(I:Inv X pins σ H s)(hb:s.heap.objs.size<=b)(hn:H' b=none):FpOk X pins H' b:=by
 refine⟨hn,qBp (qAf I.lt hb),I.nofs hb,.inr (qAp I.sz hb),fun x c e z=>?_,fun p hp z=>?_⟩
 ·obtain⟨v,q⟩:=I.cell x c e;exact absurd (qAf q.lt (by rw[z];exact hb)) (qC1 _)
 ·exact absurd (qAf (Heap.lt_size (I.pin p hp).1) (by rw[z];exact hb)) (qC1 _)
structure Turn(P:Program)(w:World)(K:qA1)(tg:Expr)(J:It)(fp:List Addr)(it:Addr)(tn:Nat->Heap->Prop):Prop where
 mem:it∈fp
 obj:∀i h,tn i h->∀b∈fp,∃o,h.get? b=some o/\∀v,o.data≠.cell v
 keep:∀i h h',tn i h->(∀b∈fp,∀o,h.get? b=some o->h'.get? b=some o)->tn i h'
 item:∀(X:Cx),X.prog=P->X.w=w->X.K=K->X.calm=true->∀(i:Nat)(pins:List (Addr×Obj))(s:Shared)(σ:St)(H:Hp)(E:Value->Shared->Prop),Inv X pins σ H s->(∀b∈fp,FpOk X pins H b)->tn i s.heap->J.go i H ->
  wpAny (model P w) X.A (pyNext (.ref it)) (fun r s1=>∃u,r=some u /\
   wpAny (model P w) X.A (letOwnedTupleGo tg (.ref it) u) (fun _ s2=>∃x H',Inv X pins σ H' s2/\RelV x u/\J.yld i H x H'/\tn (i+1) s2.heap/\∀b∈fp,H' b=none) E s1) E s
 done:∀(X:Cx),X.prog=P->X.w=w->X.K=K->X.calm=true->∀(i:Nat)(pins:List (Addr×Obj))(s:Shared)(σ:St)(H:Hp)(E:Value->Shared->Prop),Inv X pins σ H s->(∀b∈fp,FpOk X pins H b)->tn i s.heap->J.stop i H ->
  wpAny (model P w) X.A (pyNext (.ref it)) (fun r s1=>r=none/\Inv X pins σ H s1) E s
 self:∀(A:Around)(i:Nat)(s:Shared)(Q:Value->Shared->Prop)(E:Value->Shared->Prop),tn i s.heap->Q (.ref it) s->wpAny (model P w) A (pyIter (.ref it)) Q E s
abbrev TI:=St->Hp->(It->Hp->Prop)->Prop
def PIE(X:Cx)(pins:List (Addr×Obj))(σ:St)(tg:Expr)(R:It->Hp->Prop)(itv:Value)(s2:Shared):Prop:=
 ∃(it:Addr)(fp:List Addr)(tn:Nat->Heap->Prop)(J:It)(H':Hp),itv=.ref it/\Inv X pins σ H' s2/\Turn X.prog X.w X.K tg J fp it tn/\tn 0 s2.heap/\(∀b∈fp,FpOk X pins H' b)/\R J H'
def PI(X:Cx)(tg iter:Expr)(wi:TI):Prop:=
 ∀(pins:List (Addr×Obj))(s:Shared)(σ:St)(H:Hp)(R:It->Hp->Prop),Inv X pins σ H s->wi σ H R ->
  wpAny (model X.prog X.w) X.A (eval iter X.env) (fun v s1=>wpAny (model X.prog X.w) X.A (pyIter v) (PIE X pins σ tg R) X.xe s1) X.xe s
theorem zUA{M:Model}{A:Around}{E:Value->Shared->Prop}{s:Shared}{tg:Expr}{it:Addr}{u:Value}{o:Obj}{n:String}{vs:Array Value}{Q:Unit->Shared->Prop}(ho:s.heap.get? it=some o)(hc:o.cls=.type n)(hd:o.data=.fields vs)
  (hn:["enumerate","zip","dict_itemiterator","dict_reverseitemiterator","odict_iterator","itertools.zip_longest","itertools.pairwise"].contains n=false) (hQ:Q () s):wpAny M A (letOwnedTupleGo tg (.ref it) u) Q E s:=by
 unfold letOwnedTupleGo;cases tg<;>first
  |exact wpAny_pure hQ
  |(cases u<;>first
    |exact wpAny_pure hQ
    |(refine wpAny_bind (wpAny_load ho ?_)
      rw[hc,hd];show wpAny M A (if(["enumerate","zip","dict_itemiterator","dict_reverseitemiterator","odict_iterator","itertools.zip_longest","itertools.pairwise"].contains n&&vs[0]?==some (rawInt _))=true then _ else _) Q E s;rw[if_neg (by intro h;rw[hn,Bool.false_and]at h;cases h)];exact wpAny_pure hQ))
noncomputable def Itl(K:qA1)(a:Addr):It:=
 ⟨fun i H=>∃xs x,SqL K H a xs/\xs[i]?=some x,fun i H x H'=>H'=H/\∀xs,SqL K H a xs->xs[i]?=some x,fun i H=>∃xs,SqL K H a xs/\xs.length<=i⟩
noncomputable def Itt(K:qA1)(a:Addr):It:=
 ⟨fun i H=>∃xs x,SqT K H a xs/\xs[i]?=some x,fun i H x H'=>H'=H/\∀xs,SqT K H a xs->xs[i]?=some x,fun i H=>∃xs,SqT K H a xs/\xs.length<=i⟩
noncomputable def Itr(lo:Int)(n:Nat):It:=⟨fun i _=>i<n,fun i H x H'=>H'=H/\x=.int (lo+i),fun i _=>n<=i⟩
theorem zPP{P:Program}{w:World}{K:qA1}{tg:Expr}(a it:Addr):Turn P w K tg (Itl K a) [it] it (fun i h=>h.IsListIter it a i) where
 mem:=by simp
 obj:=fun i h st b hb=>by
  have e:b=it:=by simpa using hb
  subst e;obtain⟨o,e,c,d⟩:=st;exact⟨o,e,fun v z=>by rw[d]at z;cases z⟩
 keep:=fun i h h' st k=>st.at fun o e=>k it (by simp) o e
 item:=by
  intro X hP hw hK hc i pins s σ H E I hf st hg;subst hP hw hK;obtain⟨xs,x,hq,hx⟩:=hg;obtain⟨its,rv,p,hz⟩:=I.list hq;obtain⟨u,hu,ru⟩:=rv.get hx;obtain⟨f0,f1,f2,f3,f4,f5⟩:=hf it (by simp);refine wpAny_pyNext_list_item st p.isList (x:=u) (by simpa using hu) fun h' st' sb=>?_
  have I1:Inv X pins σ H { s with heap:=h' }:=I.turned (t':=s.toks) (fun b o hb e=>(sb.2 b hb).trans e) f0 f1 f3 f4 f5;obtain⟨o,e,c,d⟩:=id st';exact⟨u,rfl,zUA (s:={ s with heap:=h' }) e c d (by decide) ⟨x,H,I1,ru,⟨rfl,fun ys hy=>by rw[I.list_inj hy hq];exact hx⟩,st',fun b hb=>(hf b hb).1⟩⟩
 done:=by
  intro X hP hw hK hc i pins s σ H E I hf st hg;subst hP hw hK;obtain⟨xs,hq,hx⟩:=hg;obtain⟨its,rv,p,hz⟩:=I.list hq;obtain⟨f0,f1,f2,f3,f4,f5⟩:=hf it (by simp);have hl:=rv.length;exact wpAny_pyNext_list_end (I.ok.hd hc) st p.isList (by simp;omega) fun h' eb=>⟨rfl,I.turned (t':=s.toks) (fun b o hb e=>eb b o hb e) f0 f1 f3 f4 f5⟩
 self:=fun _ _ _ _ _ st h=>wpAny_pyIter_listiter st h
theorem zO9{P:Program}{w:World}{K:qA1}{tg:Expr}(a it:Addr):Turn P w K tg (Itt K a) [it] it (fun i h=>h.IsTupleIter it a i) where
 mem:=by simp
 obj:=fun i h st b hb=>by
  have e:b=it:=by simpa using hb
  subst e;obtain⟨o,e,c,d⟩:=st;exact⟨o,e,fun v z=>by rw[d]at z;cases z⟩
 keep:=fun i h h' st k=>st.at fun o e=>k it (by simp) o e
 item:=by
  intro X hP hw hK hc i pins s σ H E I hf st hg;subst hP hw hK;obtain⟨xs,x,hq,hx⟩:=hg;obtain⟨its,rv,p,hz⟩:=I.tuple hq;obtain⟨u,hu,ru⟩:=rv.get hx;obtain⟨f0,f1,f2,f3,f4,f5⟩:=hf it (by simp);refine wpAny_pyNext_tuple_item st (show s.heap.IsTuple a its.toArray from p) (x:=u) (by simpa using hu) fun h' st' sb=>?_
  have I1:Inv X pins σ H { s with heap:=h' }:=I.turned (t':=s.toks) (fun b o hb e=>(sb.2 b hb).trans e) f0 f1 f3 f4 f5;obtain⟨o,e,c,d⟩:=id st';exact⟨u,rfl,zUA (s:={ s with heap:=h' }) e c d (by decide) ⟨x,H,I1,ru,⟨rfl,fun ys hy=>by rw[I.tuple_inj hy hq];exact hx⟩,st',fun b hb=>(hf b hb).1⟩⟩
 done:=by
  intro X hP hw hK hc i pins s σ H E I hf st hg;subst hP hw hK;obtain⟨xs,hq,hx⟩:=hg;obtain⟨its,rv,p,hz⟩:=I.tuple hq;obtain⟨f0,f1,f2,f3,f4,f5⟩:=hf it (by simp);have hl:=rv.length;exact wpAny_pyNext_tuple_end (I.ok.hd hc) st (show s.heap.IsTuple a its.toArray from p) (by simp;omega) fun h' eb=>⟨rfl,I.turned (t':=s.toks) (fun b o hb e=>eb b o hb e) f0 f1 f3 f4 f5⟩
 self:=fun _ _ _ _ _ st h=>wpAny_pyIter_tupleiter st h
theorem zOA{P:Program}{w:World}{K:qA1}{tg:Expr}(it:Addr)(lo:Int)(n:Nat):Turn P w K tg (Itr lo n) [it] it (fun i h=>IsRangeIter h it (lo+(i:Nat)*1) ((n:Int)-(i:Nat)) 1) where
 mem:=by simp
 obj:=fun i h st b hb=>by
  have e:b=it:=by simpa using hb
  subst e;exact⟨_,st,fun v z=>by
   have z':Data.fields _=Data.cell v:=z;cases z'⟩
 keep:=fun i h h' st k=>k it (by simp) _ st
 item:=by
  intro X hP hw hK hc i pins s σ H E I hf st hg;subst hP hw hK;obtain⟨f0,f1,f2,f3,f4,f5⟩:=hf it (by simp);have W:=Walks.range (prog:=X.prog) (w:=X.w) (I.ok.hd hc) it lo 1 n;refine W.item i s _ _ hg st fun v h' tk hv st' kk=>?_
  obtain⟨t,rfl⟩:=hv;have I1:Inv X pins σ H { s with heap:=h',toks:=tk }:=I.turned (fun b o hb e=>kk b o (by simpa using hb) e) f0 f1 f3 f4 f5;refine⟨_,rfl,zUA (s:={ s with heap:=h',toks:=tk }) (n:="range_iterator") st' rfl rfl (by decide) ⟨.int (lo+i),H,I1,⟨t,?_⟩,⟨rfl,rfl⟩,st',fun b hb=>(hf b hb).1⟩⟩;rw[qHy]
 done:=by
  intro X hP hw hK hc i pins s σ H E I hf st hg;subst hP hw hK;obtain⟨f0,f1,f2,f3,f4,f5⟩:=hf it (by simp);exact wpAny_pyNext_range_end (I.ok.hd hc) st (by have:n<=i:=hg;omega) fun h' eb=>⟨rfl,I.turned (t':=s.toks) (fun b o hb e=>eb b o hb e) f0 f1 f3 f4 f5⟩
 self:=fun _ _ _ _ _ st h=>wpAny_pyIter_rangeiter st h
end L2
namespace L2
open PySem PySem.Spec PyProof.Rows
section
variable{X:Cx}{tg:Expr}
theorem zN4{pins:List (Addr×Obj)}{σ:St}{H:Hp}{s:Shared}{R:It->Hp->Prop}{E:Value->Shared->Prop}{lo hi:Int}{t u v:Tok}{tk:Nat}(I:Inv X pins σ H s)(h1:-(2 ^ 62)<=lo)(h2:lo<2 ^ 62)(h3:-(2 ^ 62)<=hi)(h4:hi<2 ^ 62)
  (q:R (Itr lo (hi-lo).toNat) H):wpAny (model X.prog X.w) X.A (pyIter (.ref s.heap.objs.size)) (PIE X pins σ tg R) E { s with heap:=s.heap.push { cls:=.type "range",data:=.fields #[.int lo t,.int hi u,.int 1 v] },toks:=tk }:=by
 refine wpAny_pyIter_range (IsRange.new ..) (small_one h1 h2 h3 h4) ?_;have I1:Inv X pins σ H { s with heap:=s.heap.push { cls:=.type "range",data:=.fields #[.int lo t,.int hi u,.int 1 v] },toks:=tk }:=I.kept fun b o e=>Heap.get?_push_of_some _ e
 refine⟨(s.heap.push { cls:=.type "range",data:=.fields #[.int lo t,.int hi u,.int 1 v] }).objs.size,[(s.heap.push { cls:=.type "range",data:=.fields #[.int lo t,.int hi u,.int 1 v] }).objs.size],_,_,H,rfl,
  I1.kept (t':=tk) fun b o e=>Heap.get?_push_of_some _ e,zOA _ lo (hi-lo).toNat,?_,fun b hb=>?_,q⟩
 ·have e1:lo+((0:Nat):Int)*1=lo:=by simp
  have e2:(((hi-lo).toNat:Nat):Int)-((0:Nat):Int)=Builtin.Range.rangeSize lo hi 1:=by rw[rangeSize_one];split<;>omega
  show IsRangeIter _ _ (lo+((0:Nat):Int)*1) ((((hi-lo).toNat:Nat):Int)-((0:Nat):Int)) 1;rw[e1,e2];exact Heap.get?_push_size _ rfl
 ·have e:b=(s.heap.push { cls:=.type "range",data:=.fields #[.int lo t,.int hi u,.int 1 v] }).objs.size:=by simpa using hb
  subst e;exact I1.fpOk (qA7 _) (I1.hok.fresh (qA7 _))
def zb1(ta:TA):TI:=fun σ H R=>ta σ H fun vs H1=>∃j:Int,vs=[.int j]/\-(2 ^ 62)<=j/\j<2 ^ 62/\R (Itr 0 j.toNat) H1
def zb0(ta:TA):TI:=fun σ H R=>ta σ H fun vs H1=>∃i j:Int,vs=[.int i,.int j]/\(-(2 ^ 62)<=i/\i<2 ^ 62/\-(2 ^ 62)<=j/\j<2 ^ 62)/\R (Itr i (j-i).toNat) H1
theorem zAU{a:Expr}{ta:TA}{p pos:Pos}(hg:Gl X "range")(hm:X.mg "range" = none)(ha:PA X [a] ta)(hs:starEach [a] X.env=[(false,eval a X.env)]:=by rfl):PI X tg (.Call (.Name "range" p) [a] [] pos) (zb1 ta):=by
 intro pins s σ H R I h;refine Call_ (zGA I hg hm boot_range (qBi (thn (ha pos pins s σ H _ I h) fun us s1 z0=>?_) hs rfl));obtain⟨vs,H1,I1,r1,q1⟩:=z0;obtain⟨j,e,q1,q2,q⟩:=q1;subst e;cases r1 with
 |cons r rr=>
  cases rr;obtain⟨t,rfl⟩:=r;exact call_range_1 (zN4 I1 (by omega) (by omega) q1 q2 (by simpa using q))
theorem zQE{a b:Expr}{ta:TA}{p pos:Pos}(hg:Gl X "range")(hm:X.mg "range" = none)(ha:PA X [a,b] ta)(hs:starEach [a,b] X.env=[(false,eval a X.env),(false,eval b X.env)]:=by rfl)(hs2:starEach [b] X.env=[(false,eval b X.env)]:=by rfl) :
  PI X tg (.Call (.Name "range" p) [a,b] [] pos) (zb0 ta):=by
 intro pins s σ H R I h;refine Call_ (zGA I hg hm boot_range (qBi (thn (ha pos pins s σ H _ I h) fun us s1 z0=>?_) (by rw[hs,hs2]) (by rw[hs2];rfl)));obtain⟨vs,H1,I1,r1,q1⟩:=z0;obtain⟨i,j,e,⟨q1,q2,q3,q4⟩,q⟩:=q1;subst e;cases r1 with
 |cons r rr=>
  cases rr with
  |cons r' rr=>
   cases rr;obtain⟨t,rfl⟩:=r;obtain⟨t',rfl⟩:=r';exact call_range_2 (zN4 I1 q1 q2 q3 q4 q)
noncomputable def tFor(wi:TI)(g:TG)(tb:TS):TS:=fun D σ H=>wi σ H fun J H1=>∃W:Nat->Nat->St->Hp->Prop,(∃m,W 0 m σ H1)/\∀i m σ H,W i m σ H ->
 (J.stop i H/\D.nx σ H)\/(J.go i H/\∃N:St->Hp->Prop,(∀σ' H',N σ' H'->∃m',m'<m/\W (i+1) m' σ' H')/\∀x H',J.yld i H x H'->g x σ H' fun σ2 H2=>tb { D with nx:=N,ct:=N,bk:=D.nx } σ2 H2)
noncomputable def zH8(fp:List Addr)(h:Heap):List (Addr×Obj):=fp.filterMap fun b=>(h.get? b).map fun o=>(b,o)
theorem zDL{fp:List Addr}{h:Heap}{b:Addr}{o:Obj}(hb:b∈fp)(e:h.get? b=some o):(b,o)∈zH8 fp h:=qFr.mpr ⟨b,hb,by rw[e];rfl⟩
theorem zQP{fp:List Addr}{h:Heap}{p:Addr×Obj}(hp:p∈zH8 fp h):p.1∈fp/\h.get? p.1=some p.2:=by
 obtain⟨b,hb,e⟩:=qFr.mp hp;cases q:h.get? b with
 |none=>rw[q]at e;cases e
 |some o=>
  rw[q]at e;have e':(b,o)=p:=qBa e;subst e';exact⟨hb,q⟩
theorem Inv.pinned{pins:List (Addr×Obj)}{σ:St}{H:Hp}{s:Shared}{fp:List Addr}(I:Inv X pins σ H s)(hf:∀b∈fp,FpOk X pins H b)(ho:∀b∈fp,∃o,s.heap.get? b=some o/\∀v,o.data≠.cell v):Inv X (pins++zH8 fp s.heap) σ H s:=
 I.pins_of fun p hp=>(qAw.mp hp).elim (fun z=>I.pin p (qAy _ z)) fun z=>by
  obtain⟨hb,e⟩:=zQP z;obtain⟨f0,f1,f2,_⟩:=hf p.1 hb;obtain⟨o,e',d⟩:=ho p.1 hb;rw[e]at e';cases e';exact⟨e,f0,f1,f2,d⟩
theorem Inv.unpinned{pins pl:List (Addr×Obj)}{σ:St}{H:Hp}{s:Shared}(I:Inv X (pins++pl) σ H s):Inv X pins σ H s:=I.pins_of fun p hp=>I.pin p (qAy _ (qB4 _ hp))
theorem za7{iter:Expr}{body:List Stmt}{wi:TI}{g:TG}{tb:TS}{pos:Pos}(hp:PassesOwn (model X.prog X.w) X.A X.env X.xe)(hc:X.calm=true)(hi:PI X tg iter wi)(hg:PG X tg g)(hb:PSs X body tb)
  (hs:∀x,foldedSetIterable iter X.env x=pure x:=by intro _;rfl):PS X (.For tg iter body [] pos) (tFor wi g tb):=by
 intro pins s σ H D I h;refine wpAny_For (thn (hi pins s σ H _ I h) fun v s1 h1=>thn h1 fun itv s2 h2=>?_) hs;obtain⟨it,fp,tn,J,H2,e,I2,T,st2,f2,W,⟨m0,w0⟩,turn⟩:=h2;subst e;have stat:∀{H':Hp},(∀b∈fp,H' b=none)->∀b∈fp,FpOk X pins H' b:=fun hn b hb=>⟨hn b hb,(f2 b hb).2⟩
 refine codeAny_forLoop_any (fun n s'=>∃i σ' H',Inv X pins σ' H' s'/\tn i s'.heap/\(∀b∈fp,H' b=none)/\W i n σ' H') ?_ m0 ⟨0,σ,H2,I2,st2,fun b hb=>(f2 b hb).1,w0⟩
 rintro n s3 ⟨i,σ3,H3,I3,st3,fr3,w3⟩
 rcases turn i n σ3 H3 w3 with⟨stop,qn⟩|⟨go,N,hN,step⟩
 ·refine wpAny_passesOwn hp (thn (T.done X rfl rfl rfl hc i pins s3 σ3 H3 X.xe I3 (stat fr3) st3 stop) fun r s4 z0=>?_);obtain⟨hr,I4⟩:=z0;subst hr;exact wpAny_execs_nil ⟨σ3,H3,I4,qn⟩
 ·refine wpAny_passesOwn hp (thn (T.item X rfl rfl rfl hc i pins s3 σ3 H3 X.xe I3 (stat fr3) st3 go) fun r s4 z0=>?_);obtain⟨u,hr,h4⟩:=z0;subst hr;refine wpAny_passesOwn hp (thn h4 fun _ s5 z0=>?_);obtain⟨x,H5,I5,r5,y5,st5,fr5⟩:=z0;have I5':=I5.pinned (stat fr5) (T.obj _ _ st5);refine wpAny_passesOwn hp (thn (hg _ s5 σ3 H5 x u _ I5' r5 (step x H5 y5)) fun _ s6 z0=>?_);obtain⟨σ6,H6,I6,q6⟩:=z0;refine wpAny_passesOwn hp (thn (hb _ s6 σ6 H6 _ I6 q6) fun f s7 q7=>?_);have again:∀{σ7:St}{H7:Hp},Inv X (pins++zH8 fp s5.heap) σ7 H7 s7->N σ7 H7->∃m,m<n/\∃i σ' H',Inv X pins σ' H' s7/\tn i s7.heap/\(∀b∈fp,H' b=none)/\W i m σ' H':=fun{σ7 H7} I7 n7=>by
   obtain⟨m',hm,w7⟩:=hN σ7 H7 n7;refine⟨m',hm,i+1,σ7,H7,I7.unpinned,T.keep _ _ _ st5 fun b hb o e=>(I7.pin (b,o) (qAy _ (qAy _ (zDL hb e)))).1,fun b hb=>?_,w7⟩;obtain⟨o,e,d⟩:=T.obj _ _ st5 b hb;exact(I7.pin (b,o) (qAy _ (qAy _ (zDL hb e)))).2.1
  cases f with
  |next=>obtain⟨σ7,H7,I7,n7⟩:=q7;exact again I7 n7
  |cont=>obtain⟨σ7,H7,I7,n7⟩:=q7;exact again I7 n7
  |brk=>obtain⟨σ7,H7,I7,q7⟩:=q7;exact⟨σ7,H7,I7.unpinned,q7⟩
  |ret v=>obtain⟨x7,σ7,H7,I7,r7,q7⟩:=q7;exact⟨x7,σ7,H7,I7.unpinned,r7,q7⟩
end
end L2
namespace L2
open PySem PySem.Spec PyProof.Rows
abbrev R2:=V->V->Hp->VK->Prop
def OpR(X:Cx)(f:Value->Value->Sem Value)(r:R2):Prop:=
 ∀(pins:List (Addr×Obj))(s:Shared)(σ:St)(H:Hp)(x y:V)(v u:Value)(Q:VK),Inv X pins σ H s->RelV x v->RelV y u->r x y H Q ->
  wpAny (model X.prog X.w) X.A (f v u) (EP X pins σ Q) X.xe s
def zD4(X:Cx)(f:Value)(r:List V->Hp->VK->Prop):Prop:=
 ∀(pins:List (Addr×Obj))(s:Shared)(σ:St)(H:Hp)(xs:List V)(us:List Value)(Q:VK),Inv X pins σ H s->Vals xs us->r xs H Q ->
  wpAny (model X.prog X.w) X.A (call f us) (EP X pins σ Q) X.xe s
def TruR(X:Cx)(r:V->Hp->(Bool->Hp->Prop)->Prop):Prop:=
 ∀(pins:List (Addr×Obj))(s:Shared)(σ:St)(H:Hp)(x:V)(v:Value)(Q:Bool->Hp->Prop),Inv X pins σ H s->RelV x v->r x H Q ->
  wpAny (model X.prog X.w) X.A (truthy v) (TP X pins σ Q) X.xe s
noncomputable def tOp(r:R2)(ta tb:TE):TE:=fun σ H Q=>ta σ H fun x H1=>tb σ H1 fun y H2=>r x y H2 Q
noncomputable def rI(C:Int->Int->Prop)(g:Int->Int->V):R2:=fun x y H Q=>∃i j,x=.int i/\y=.int j/\C i j/\Q (g i j) H
noncomputable def rI0(g:Int->Int->V):R2:=fun x y H Q=>∃i j,x=.int i/\y=.int j/\Q (g i j) H
section
variable{X:Cx}{a b c:Expr}{ta tb tc:TE}{pos:Pos}
theorem binT(ha:PE X a ta)(hb:PE X b tb){pins:List (Addr×Obj)}{s:Shared}{σ:St}{H:Hp}{R:V->V->Hp->Prop}(I:Inv X pins σ H s)
  (h:ta σ H fun x H1=>tb σ H1 fun y H2=>R x y H2) {Q:Value->Shared->Prop} {f:Value->Value->Sem Value}
  (hf:∀v u s2 x y H2,Inv X pins σ H2 s2->RelV x v->RelV y u->R x y H2->wpAny (model X.prog X.w) X.A (f v u) Q X.xe s2) :
  wpAny (model X.prog X.w) X.A (eval a X.env) (fun v s₁=>wpAny (model X.prog X.w) X.A (eval b X.env) (fun u s₂=>wpAny (model X.prog X.w) X.A (f v u) Q X.xe s₂) X.xe s₁) X.xe s:=by
 refine thn (ha pins s σ H _ I h) fun v s1 z0=>?_
 obtain⟨x,H1,I1,r1,q1⟩:=z0;refine thn (hb pins s1 σ H1 _ I1 q1) fun u s2 z0=>?_
 obtain⟨y,H2,I2,r2,q2⟩:=z0;exact hf v u s2 x y H2 I2 r1 r2 q2
theorem zAR{op:Operator}{r:R2}(ho:OpR X (binaryOp op) r)(ha:PE X a ta)(hb:PE X b tb):PE X (.BinOp a op b pos) (tOp r ta tb):=by
 intro pins s σ H Q I h;exact wpAny_BinOp (binT ha hb I h fun v u s2 x y H2 I2 rx ry q=>ho pins s2 σ H2 x y v u Q I2 rx ry q)
theorem opI{f:Value->Value->Sem Value}{C:Int->Int->Prop}{g:Int->Int->Int}
  (rule:∀(i j:Int)(t u:Tok)(s:Shared)(Q:Value->Shared->Prop)(E:Value->Shared->Prop),C i j->Q (.int (g i j) s.toks) { s with toks:=s.toks+1 }->wpAny (model X.prog X.w) X.A (f (.int i t) (.int j u)) Q E s) :
  OpR X f (rI C fun i j=>.int (g i j)):=by
 intro pins s σ H x y v u Q I rx ry h;obtain⟨i,j,rfl,rfl,hc,q⟩:=h;obtain⟨t,rfl⟩:=rx;obtain⟨t',rfl⟩:=ry;exact rule i j t t' s _ _ hc ⟨.int (g i j),H,I.tok _,⟨_,rfl⟩,q⟩
theorem opI0{f:Value->Value->Sem Value}{g:Int->Int->Int}
  (rule:∀(i j:Int)(t u:Tok)(s:Shared)(Q:Value->Shared->Prop)(E:Value->Shared->Prop),Q (.int (g i j) s.toks) { s with toks:=s.toks+1 }->wpAny (model X.prog X.w) X.A (f (.int i t) (.int j u)) Q E s) :
  OpR X f (rI0 fun i j=>.int (g i j)):=by
 intro pins s σ H x y v u Q I rx ry h;obtain⟨i,j,rfl,rfl,q⟩:=h;obtain⟨t,rfl⟩:=rx;obtain⟨t',rfl⟩:=ry;exact rule i j t t' s _ _ ⟨.int (g i j),H,I.tok _,⟨_,rfl⟩,q⟩
theorem opB0{f:Value->Value->Sem Value}{g:Int->Int->Bool}
  (rule:∀(i j:Int)(t u:Tok)(s:Shared)(Q:Value->Shared->Prop)(E:Value->Shared->Prop),Q (.bool (g i j)) s->wpAny (model X.prog X.w) X.A (f (.int i t) (.int j u)) Q E s) :
  OpR X f (rI0 fun i j=>.bl (g i j)):=by
 intro pins s σ H x y v u Q I rx ry h;obtain⟨i,j,rfl,rfl,q⟩:=h;obtain⟨t,rfl⟩:=rx;obtain⟨t',rfl⟩:=ry;exact rule i j t t' s _ _ ⟨.bl (g i j),H,I,rfl,q⟩
def CPow(i j:Int):Prop:=0<=j/\j<=1000000/\i.natAbs<2 ^ 64
def CMul(i j:Int):Prop:=(-(2 ^ 64)<i/\i<2 ^ 64)\/(-(2 ^ 64)<j/\j<2 ^ 64)
theorem CMul.ok{i j:Int}(h:CMul i j):IntMulOk i j:=by
 rcases h with⟨h1,h2⟩|⟨h1,h2⟩
 ·exact .of_left (intBits_le_64 h1 h2)
 ·exact .of_right (intBits_le_64 h1 h2)
theorem zaI:OpR X (binaryOp .Add) (rI0 fun i j=>.int (i+j)):=opI0 fun _ _ _ _ _ _ _ q=>add_int q
theorem zaC:OpR X (binaryOp .Sub) (rI0 fun i j=>.int (i-j)):=opI0 fun _ _ _ _ _ _ _ q=>sub_int q
theorem zaF:OpR X (binaryOp .Mod) (rI (fun _ j=>0<j) fun i j=>.int (i%j)):=opI fun i j _ _ _ _ _ hc q=>by
 have h1:(0:Int)<j:=hc;exact mod_int' (by omega) (by rw[Int.fmod_eq_emod_of_nonneg i (by omega)];exact q)
theorem zaD:OpR X (binaryOp .Pow) (rI CPow fun i j=>.int (i ^ j.toNat)):=opI fun _ _ _ _ _ _ _ hc q=>pow_int_small hc.1 hc.2.1 hc.2.2 q
theorem zaB:OpR X (binaryOp .BitXor) (rI0 fun i j=>.int (Builtin.bitXor i j)):=opI0 fun _ _ _ _ _ _ _ q=>xor_int q
end
noncomputable def scal:V->V->Bool
 |.non,.non=>true | .non,.int _=>true | .int _,.non=>true | .non,.bl _=>true | .bl _,.non=>true | .non,.str _=>true | .str _,.non=>true
 |.int _,.int _=>true | .bl _,.bl _=>true | .str _,.str _=>true | .byt _,.byt _=>true
 |.int _,.str _=>true | .str _,.int _=>true | .bl _,.str _=>true | .str _,.bl _=>true
 |_,_=>false
def rEq:R2:=fun x y H Q=>scal x y=true/\Q (.bl (decide (x=y))) H
def rNe:R2:=fun x y H Q=>scal x y=true/\Q (.bl (!decide (x=y))) H
theorem zRT{i j:Int}:decide (V.int i=V.int j)=(i==j):=by
 rw[qD4];simp
theorem dec_bl{i j:Bool}:decide (V.bl i=V.bl j)=(i==j):=by
 rw[qD4];simp
theorem zRS{i j:Str}:decide (V.str i=V.str j)=(i==j):=by
 rw[qD4];simp
theorem zRU{i j:Array UInt8}:decide (V.byt i=V.byt j)=(i.toList==j.toList):=by
 rw[qD4];cases i;cases j;simp
section
variable{X:Cx}{a b c:Expr}{ta tb tc:TE}{pos:Pos}
theorem fin_bl{pins:List (Addr×Obj)}{σ:St}{H:Hp}{s:Shared}{Q:VK}{k k':Bool}(I:Inv X pins σ H s)(q:Q (.bl k) H)(e:k=k'):EP X pins σ Q (.bool k') s:=by
 subst e;exact⟨.bl k,H,I,rfl,q⟩
theorem zcN:OpR X (compareOp .Eq) rEq:=by
 intro pins s σ H x y v u Q I rx ry h;obtain⟨hs,q⟩:=h;cases x with
 |non=>
  cases rx;cases y with
  |non=>cases ry;exact qGs (fin_bl I q (by simp))
  |bl j=>cases ry;exact qGt (fin_bl I q (by simp))
  |int j=>obtain⟨t',rfl⟩:=ry;exact qH5 (fin_bl I q (by simp))
  |str j=>obtain⟨t',rfl⟩:=ry;exact qH6 (fin_bl I q (by simp))
  |_=>exact absurd (show false=true from hs) qAe
 |bl i=>
  cases rx;cases y with
  |non=>cases ry;exact qGu (fin_bl I q (by simp))
  |bl j=>cases ry;exact eq_bool (fin_bl I q dec_bl)
  |str j=>obtain⟨t',rfl⟩:=ry;exact qGv (fin_bl I q (by simp))
  |_=>exact absurd (show false=true from hs) qAe
 |int i=>
  obtain⟨t,rfl⟩:=rx;cases y with
  |non=>cases ry;exact qH7 (fin_bl I q (by simp))
  |int j=>obtain⟨t',rfl⟩:=ry;exact eq_int (fin_bl I q zRT)
  |str j=>obtain⟨t',rfl⟩:=ry;exact qH8 (fin_bl I q (by simp))
  |_=>exact absurd (show false=true from hs) qAe
 |str i=>
  obtain⟨t,rfl⟩:=rx;cases y with
  |non=>cases ry;exact qH9 (fin_bl I q (by simp))
  |bl j=>cases ry;exact qGw (fin_bl I q (by simp))
  |int j=>obtain⟨t',rfl⟩:=ry;exact qHa (fin_bl I q (by simp))
  |str j=>obtain⟨t',rfl⟩:=ry;exact eq_str (fin_bl I q zRS)
  |_=>exact absurd (show false=true from hs) qAe
 |byt i=>
  obtain⟨t,rfl⟩:=rx;cases y with
  |byt j=>obtain⟨t',rfl⟩:=ry;exact PySem.W.eq_bytes (fin_bl I q zRU)
  |_=>exact absurd (show false=true from hs) qAe
 |_=>cases y<;>exact absurd (show false=true from hs) qAe
theorem zcK:OpR X (compareOp .NotEq) rNe:=by
 intro pins s σ H x y v u Q I rx ry h;obtain⟨hs,q⟩:=h;cases x with
 |non=>
  cases rx;cases y with
  |non=>cases ry;exact qGx (fin_bl I q (by simp))
  |bl j=>cases ry;exact qGy (fin_bl I q (by simp))
  |int j=>obtain⟨t',rfl⟩:=ry;exact qHb (fin_bl I q (by simp))
  |str j=>obtain⟨t',rfl⟩:=ry;exact qHc (fin_bl I q (by simp))
  |_=>exact absurd (show false=true from hs) qAe
 |bl i=>
  cases rx;cases y with
  |non=>cases ry;exact qGz (fin_bl I q (by simp))
  |bl j=>cases ry;exact ne_bool (fin_bl I q (congrArg not dec_bl))
  |str j=>obtain⟨t',rfl⟩:=ry;exact qH0 (fin_bl I q (by simp))
  |_=>exact absurd (show false=true from hs) qAe
 |int i=>
  obtain⟨t,rfl⟩:=rx;cases y with
  |non=>cases ry;exact qHd (fin_bl I q (by simp))
  |int j=>obtain⟨t',rfl⟩:=ry;exact ne_int (fin_bl I q (congrArg not zRT))
  |str j=>obtain⟨t',rfl⟩:=ry;exact qHe (fin_bl I q (by simp))
  |_=>exact absurd (show false=true from hs) qAe
 |str i=>
  obtain⟨t,rfl⟩:=rx;cases y with
  |non=>cases ry;exact qHf (fin_bl I q (by simp))
  |bl j=>cases ry;exact qH1 (fin_bl I q (by simp))
  |int j=>obtain⟨t',rfl⟩:=ry;exact qHg (fin_bl I q (by simp))
  |str j=>obtain⟨t',rfl⟩:=ry;exact ne_str (fin_bl I q (congrArg not zRS))
  |_=>exact absurd (show false=true from hs) qAe
 |byt i=>
  obtain⟨t,rfl⟩:=rx;cases y with
  |byt j=>obtain⟨t',rfl⟩:=ry;exact PySem.W.ne_bytes (fin_bl I q (congrArg not zRU))
  |_=>exact absurd (show false=true from hs) qAe
 |_=>cases y<;>exact absurd (show false=true from hs) qAe
theorem zcL:OpR X (compareOp .Lt) (rI0 fun i j=>.bl (decide (i<j))):=opB0 fun _ _ _ _ _ _ _ q=>lt_int q
theorem zcM:OpR X (compareOp .Gt) (rI0 fun i j=>.bl (decide (j<i))):=opB0 fun _ _ _ _ _ _ _ q=>gt_int q
theorem zQM:OpR X (compareOp .In) (fun x y H Q=>∃i j,x=.str i/\y=.str j/\Q (.bl (!(Builtin.Str.occurrences j i 0 j.length 1).isEmpty)) H):=by
 intro pins s σ H x y v u Q I rx ry h;obtain⟨i,j,rfl,rfl,q⟩:=h;obtain⟨t,rfl⟩:=rx;obtain⟨t',rfl⟩:=ry;exact in_str (fin_bl I q rfl)
theorem zXD:OpR X (compareOp .IsNot) (fun x y H Q=>y=.non/\Q (.bl (!decide (x=.non))) H):=by
 intro pins s σ H x y v u Q I rx ry h;obtain⟨rfl,q⟩:=h;cases ry;refine isnot_none_gen (fin_bl I q ?_);cases x<;>first
  |(cases rx;rfl)
  |(obtain⟨t,rfl⟩:=rx;rfl)
theorem zBV(b:Expr){op:CmpOp}(h:op≠.In:=by decide)(h2:op≠.NotIn:=by decide):behindInMarks op b=false:=by
 have e1:(op==CmpOp.In)=false:=by cases op<;>first|rfl|exact absurd rfl h
 have e2:(op==CmpOp.NotIn)=false:=by cases op<;>first|rfl|exact absurd rfl h2
 cases b<;>simp[behindInMarks,e1,e2]
theorem zFX{op:CmpOp}{r:R2}(ho:OpR X (compareOp op) r)(ha:PE X a ta)(hb:PE X b tb)(hm:behindInMarks op b=false):PE X (.Compare a [op] [b] pos) (tOp r ta tb):=by
 intro pins s σ H Q I h;exact wpAny_Compare1 (binT ha hb I h fun v u s2 x y H2 I2 rx ry q=>ho pins s2 σ H2 x y v u Q I2 rx ry q) hm
def TruV(K:qA1)(x:V)(H:Hp)(k:Bool):Prop:=
 match x with
 |.non=>k=false
 |.bl b=>k=b
 |.int i=>k=(i != 0)
 |.str y=>y.length<=sizeLine/\k=((y.length:Int) != 0)
 |.byt y=>y.size<=sizeLine/\k=((y.size:Int) != 0)
 |.ref p=>(∃xs,SqL K H p xs/\k = !xs.isEmpty)\/(∃xs,SqT K H p xs/\k = !xs.isEmpty)\/∃kvs,H p=some (.dK kvs)/\k = !kvs.isEmpty
 |_=>False
theorem zP2{κ:Type}{kvs:List (κ×V)}{vs:List (κ×Value)}(r:KV kvs vs):(!vs.isEmpty) = !kvs.isEmpty:=by
 cases r<;>rfl
theorem zHC{xs:List V}{its:List Value}(r:Vals xs its):(!its.toArray.isEmpty) = !xs.isEmpty:=by
 cases r<;>simp
theorem zG6:(sizeLine:Nat)<2 ^ 63:=by rw[sizeLine_eq];decide
theorem zV4:TruR X (fun x H Q=>∃k,TruV X.K x H k/\Q k H):=by
 intro pins s σ H x v Q I rx h;obtain⟨k,e,q⟩:=h;have hl:=zG6;have hs:sizeLine=16777216:=sizeLine_eq;cases x with
 |non=>
  cases rx;have e':k=false:=e;subst e';exact truthy_none ⟨H,I,q⟩
 |bl b=>
  cases rx;have e':k=b:=e;subst e';exact wpAny_truthy_bool ⟨H,I,q⟩
 |int i=>
  obtain⟨t,rfl⟩:=rx;have e':k=(i != 0):=e;subst e';exact PySem.P.truthy_int ⟨H,I,q⟩
 |str y=>
  obtain⟨t,rfl⟩:=rx;obtain⟨hy,e'⟩:y.length<=sizeLine/\k=((y.length:Int) != 0):=e;subst e';exact PySem.P.truthy_str (by omega) ⟨H,I.tok _,q⟩
 |byt y=>
  obtain⟨t,rfl⟩:=rx;obtain⟨hy,e'⟩:y.size<=sizeLine/\k=((y.size:Int) != 0):=e;subst e';exact PySem.W.truthy_bytes (by omega) ⟨H,I.tok _,q⟩
 |ref p=>
  cases rx;have e':(∃xs,SqL X.K H p xs/\k = !xs.isEmpty)\/(∃xs,SqT X.K H p xs/\k = !xs.isEmpty)\/∃kvs,H p=some (.dK kvs)/\k = !kvs.isEmpty:=e
  rcases e' with⟨xs,hx,e'⟩|⟨xs,hx,e'⟩|⟨kvs,hx,e'⟩
  ·subst e';obtain⟨its,r,pl,hz⟩:=I.list hx;have hlen:=r.length;exact wpAny_truthy_list pl.isList (by simp only[qAc];omega) ⟨H,I.tok _,by rw[zHC r];exact q⟩
  ·subst e';obtain⟨its,r,pl,hz⟩:=I.tuple hx;have hlen:=r.length;exact truthy_tuple pl (by simp only[qAc];omega) ⟨H,I.tok _,by rw[zHC r];exact q⟩
  ·subst e';obtain⟨hz,hS,vs,r,m⟩:kvs.length<=sizeLine/\(p==sysModules)=false/\∃vs,KV kvs vs/\s.heap.DictOf (zBF X.prog X.w) p vs:=I.hok p _ hx;have hlen:kvs.length=vs.length:=Paired.length r;exact wpAny_truthy_dict hS m (by omega) ⟨H,I.tok _,by rw[zP2 r];exact q⟩
 |_=>exact(show False from e).elim
theorem zOP:OpR X (binaryOp .Add) (fun x y H Q=>∃i j,x=.str i/\y=.str j/\i.length+j.length<=sizeLine/\Q (.str (i++j)) H):=by
 intro pins s σ H x y v u Q I rx ry h;obtain⟨i,j,rfl,rfl,hz,q⟩:=h;obtain⟨t,rfl⟩:=rx;obtain⟨t',rfl⟩:=ry;exact add_str (fun t' tk=>⟨.str (i++j),H,I.tok _,⟨_,rfl⟩,q⟩) hz
theorem zCR{x:V}{us:List Value}(r:Vals [x] us):∃u,us=[u]/\RelV x u:=by
 cases r with
 |cons r1 r2=>cases r2;exact⟨_,rfl,r1⟩
theorem zZ8{x y:V}{us:List Value}(r:Vals [x,y] us):∃u w',us=[u,w']/\RelV x u/\RelV y w':=by
 cases r with
 |cons r1 r2=>
  cases r2 with
  |cons r3 r4=>cases r4;exact⟨_,_,rfl,r1,r3⟩
theorem zS9(hc:X.calm=true):zD4 X (.builtin "min") (fun xs H Q=>∃i j,xs=[.int i,.int j]/\Q (.int (if j<i then j else i)) H):=by
 intro pins s σ H xs us Q I r h;obtain⟨i,j,rfl,q⟩:=h;obtain⟨u,w',rfl,⟨t,rfl⟩,⟨t',rfl⟩⟩:=zZ8 r;refine min_two_ints (I.ok.hd hc) fun h' tk k=>⟨_,H,I.kept k,?_,q⟩
 by_cases hj:j<i
 ·rw[if_pos hj,if_pos hj];exact⟨_,rfl⟩
 ·rw[if_neg hj,if_neg hj];exact⟨_,rfl⟩
theorem zSA:zD4 X (.type "int") (fun xs H Q=>(∃i,xs=[.int i]/\Q (.int i) H)\/∃k,xs=[.bl k]/\Q (.int (if k then 1 else 0)) H):=by
 intro pins s σ H xs us Q I r h
 rcases h with⟨i,rfl,q⟩|⟨k,rfl,q⟩
 ·obtain⟨u,rfl,t,rfl⟩:=zCR r;exact call_int_int ⟨.int i,H,I,⟨_,rfl⟩,q⟩
 ·obtain⟨u,rfl,r1⟩:=zCR r;cases r1;exact call_int_bool ⟨.int (if k then 1 else 0),H,I.tok _,⟨_,rfl⟩,q⟩
end
end L2
namespace L2
open PySem PySem.Spec PyProof.Rows
structure ObjM(h:Heap)(x dx C:Addr)(mA:Str->Option Value):Prop where
 obj:h.get? x=some (qEw C dx)
 ns:h.Ns1 dx mA
 ne:dx≠x
theorem zQY{h:Heap}{dx:Addr}{mA:Str->Option Value}(n:h.Ns1 dx mA):∃od,h.get? dx=some od/\∀name,qFh name od=some (mA name):=by
 obtain⟨o,es,ep,ho,hd,hk,_,hm⟩:=n;refine⟨o,ho,fun name=>?_⟩;have e:=hm name;unfold nsFind findBy at e;rw[<- Array.find?_toList]at e;unfold qFh;rw[hd];dsimp only
 split
 ·rename_i y q
  rw[q]at e;exact congrArg some e
 ·rename_i q
  rw[q]at e;have a:es.toList.any (·.refKey)=false:=by
   rw[List.any_eq_false];intro y hy;obtain⟨z,t,hkey⟩:=hk y (Array.mem_toList_iff.mp hy);simp[DictEntry.refKey,hkey]
  have a':¬es.toList.any (·.refKey)=true:=by rw[a];exact qAe
  rw[if_neg a'];exact congrArg some e
theorem ObjM.look{h:Heap}{x dx C:Addr}{mA:Str->Option Value}(I:ObjM h x dx C mA):∃od,PySem.W.InstAt h x (qEw C dx) C (some od)/\∀name,qFh name od=some (mA name):=
 let⟨od,ho,hl⟩:=zQY I.ns
 ⟨od,⟨I.obj,rfl,rfl,ho⟩,hl⟩
section
variable{prog:Program}{w:World}{A:Around}{E:Value->Shared->Prop}{s:Shared}{K:qA1}{x dx C f:Addr}{mA:Str->Option Value}{name:Str}{v:Value}
theorem zLX{expr:Bool}{Q:Value->Shared->Prop}(X:K.In s.heap)(I:ObjM s.heap x dx C mA)(hg:qEn K C name=true)(hh:qDh K C=true)
  (ha:qAo K (.ref C) name=some none) (hv:mA name=some v) (hv':qEo v=true) (h:Q v { s with toks:=s.toks+1 }) :
  wpAny (model prog w) A (getAttr (.ref x) name expr) Q E s:=by
 obtain⟨od,J,hl⟩:=I.look;exact PySem.W.get_value X J (PySem.W.plainGet_of hg).1 (PySem.W.findObj_own hh ha rfl (by rw[hl,hv])) hv' h
end
theorem RelO.some_of{v:V}{o:Option Value}(r:RelO (some v) o):∃u,o=some u/\RelV v u:=by
 cases o with
 |none=>exact(show False from r).elim
 |some u=>exact⟨u,rfl,r⟩
section
variable{P:Program}{w:World}{H H':Hp}{h h':Heap}{a C dx:Addr}{fs fs':List (Str×V)}
theorem zY2(hok:HOk P w H h)(e:H a=some (.ins C dx fs)):∃mA,ObjM h a dx C mA/\(∀f,RelO (fs.lookup f) (mA f))/\qHq mA (fs.map (·.1))/\fs.length<=1000/\H dx=some (.own a):=by
 obtain⟨d,z,ne,ob,mA,n,r,q⟩:=(show ObjOk P w H h a (.ins C dx fs) from hok a _ e)
 exact⟨mA,⟨ob,n,ne⟩,r,q,z,d⟩
end
structure Cls(K:qA1)(C:Addr):Prop where
 pg:qEn K C Str.empty=true
 hd:qDh K C=true
 po:PySem.W.plainOver K C=true
 sa:qAo K (.ref C) "__setattr__" = some (some (.builtin "object.__setattr__"))
theorem Cls.get{K:qA1}{C:Addr}(c:Cls K C)(f:Str):qEn K C f=true:=c.pg
def zWG(K:qA1)(C:Addr)(f:Str):Prop:=qAo K (.ref C) f=some none
structure Con(K:qA1)(C:Addr)(f:Str)(v:V)(u:Value):Prop where
 at_:qAo K (.ref C) f=some (some u)
 rel:RelV v u
 get:qC9 K u "__get__" = some none
 cp:PySem.W.copiedNames.contains f=false
structure Meth(K:qA1)(C:Addr)(m:Str)(f:Addr):Prop where
 at_:qAo K (.ref C) m=some (some (.ref f))
 fn:qDl K (.ref f)=true
 kp:qB5 K (.ref f)=true
section
variable{X:Cx}{pins:List (Addr×Obj)}{σ:St}{H:Hp}{s:Shared}{a C dx:Addr}{fs:List (Str×V)}{f:Str}{v:V}{A:Around}{E:Value->Shared->Prop}
end
section
variable{X:Cx}{o e value:Expr}{f:Str}{pos pos' tpos:Pos}{ta tv:TE}
end
section
variable{X:Cx}{pins:List (Addr×Obj)}{σ:St}{H:Hp}{s:Shared}{A:Around}{E:Value->Shared->Prop}{Q:Value->Shared->Prop}{c:Value}{b:Bool}
inductive TyOf(K:qA1)(H:Hp):V->Value->Prop where
 |non:TyOf K H .non (.type "NoneType")
 |bl (x:Bool):TyOf K H (.bl x) (.type "bool")
 |int (i:Int):TyOf K H (.int i) (.type "int")
 |str (x:Str):TyOf K H (.str x) (.type "str")
 |flt (x:UInt64):TyOf K H (.flt x) (.type "float")
 |lst {a:Addr} {xs:List V} (e:H a=some (.lst xs)):TyOf K H (.ref a) (.type "list")
 |frz {a:Addr} {o:Obj} {xs:List V} (e:H a=some (.frz o (.lst xs))):TyOf K H (.ref a) (.type "list")
 |tup {a:Addr} {xs:List V} (e:H a=some (.tup xs)):TyOf K H (.ref a) (.type "tuple")
 |dK {a:Addr} {kvs:List (Key×V)} (e:H a=some (.dK kvs)):TyOf K H (.ref a) (.type "dict")
 |dT {a:Addr} {kvs:List (List Key×V)} (e:H a=some (.dT kvs)):TyOf K H (.ref a) (.type "dict")
 |ins {a C dx:Addr} {fs:List (Str×V)} (e:H a=some (.ins C dx fs)) (cl:Cls K C) (ha:qAo K (.ref C) "__class__" = some (some (.builtin "object.__class__")))
   (hn:qC9 K (.builtin "object.__class__") "__get__" = some (some (.builtin "getset_descriptor.__get__"))) (htk:qEx K (.builtin "object.__class__")=some true)
   (hm:qEe K C (.type "object")=some true):TyOf K H (.ref a) (.ref C)
theorem zRD{x:V}{u t:Value}(I:Inv X pins σ H s)(rx:RelV x u)(ty:TyOf X.K H x t)(e:qH2 X.K t c=some b)(h:∀tk,Q (.bool b) { s with toks:=tk }) :
  wpAny (model X.prog X.w) A (call (.builtin "isinstance") [u,c]) Q E s:=by
 cases ty with
 |non=>cases(show u=Value.none from rx);exact qBd PySem.W.kitx_none I.kIn qCx e (fun z=>nomatch z) h
 |bl y=>cases(show u=Value.bool y from rx);exact qBd PySem.W.kitx_bool I.kIn qCx e (fun z=>nomatch z) h
 |int i=>obtain⟨t,q⟩:=(show ∃t,u=Value.int i t from rx);cases q;exact qBd PySem.W.kitx_int I.kIn qCx e (fun z=>nomatch z) h
 |str y=>obtain⟨t,q⟩:=(show ∃t,u=Value.str y t from rx);cases q;exact qBd PySem.W.kitx_str I.kIn qCx e (fun z=>nomatch z) h
 |flt y=>obtain⟨t,q⟩:=(show ∃t,u=Value.float y t from rx);cases q;exact qBd PySem.W.kitx_float I.kIn qCx e (fun z=>nomatch z) h
 |@lst a xs ea=>
  cases(show u=Value.ref a from rx)
  obtain⟨_,_,n,_,h1⟩:=(show ObjOk X.prog X.w H s.heap a (.lst xs) from I.hok a _ ea)
  exact qBd qG0 I.kIn ⟨_,h1,rfl⟩ e (fun z=>nomatch z) h
 |@frz a ob xs ea=>
  cases(show u=Value.ref a from rx)
  obtain⟨_,_,_,n,_,h1⟩:=(show ObjOk X.prog X.w H s.heap a (.frz ob (.lst xs)) from I.hok a _ ea)
  exact qBd qG0 I.kIn ⟨_,h1,rfl⟩ e (fun z=>nomatch z) h
 |@tup a xs ea=>
  cases(show u=Value.ref a from rx)
  obtain⟨_,_,_,p⟩:=(show ObjOk X.prog X.w H s.heap a (.tup xs) from I.hok a _ ea)
  obtain⟨o,h1,h2,_⟩:=p;exact qBd PySem.W.kitx_tuple I.kIn ⟨o,h1,h2⟩ e (fun z=>nomatch z) h
 |@dK a kvs ea=>
  cases(show u=Value.ref a from rx)
  obtain⟨_,_,vs,_,p⟩:=(show ObjOk X.prog X.w H s.heap a (.dK kvs) from I.hok a _ ea)
  obtain⟨o,es,ep,h1,h2,_⟩:=p;exact qBd qG1 I.kIn ⟨o,h1,h2.1⟩ e (fun z=>nomatch z) h
 |@dT a kvs ea=>
  cases(show u=Value.ref a from rx)
  obtain⟨_,_,xs,_,o,es,ep,h1,h2,_⟩:=(show ObjOk X.prog X.w H s.heap a (.dT kvs) from I.hok a _ ea)
  exact qBd qG1 I.kIn ⟨o,h1,h2.1⟩ e (fun z=>nomatch z) h
 |@ins a C dx fs ea cl ha hn htk hm=>
  cases(show u=Value.ref a from rx)
  obtain⟨mA,O,_⟩:=zY2 I.hok ea;obtain⟨od,J,_⟩:=O.look;exact qBd (PySem.W.kitx_own (cl.get _) cl.hd ha hn htk hm) I.kIn J e (fun z=>nomatch z) h
end
end L2
namespace L2
open PySem PySem.Spec PyProof.Rows
structure Room(k:Nat)(A:Around):Prop where
 hd:A.handled=none
 dp:A.depth+3*k+5<recursionLimit
 un:A.units+16*k+200<cLine
theorem Room.mono{j k:Nat}{A:Around}(r:Room k A)(h:j<=k):Room j A:=⟨r.hd,by have:=r.dp;omega,by have:=r.un;omega⟩
theorem Room.deeper{k:Nat}{A:Around}(r:Room (k+1) A)(env:Env):Room k (A.deeper env):=
 ⟨r.hd,by have:=r.dp;show A.depth+1+3*k+5<_;omega,by have:=r.un;show A.units+3+16*k+200<_;omega⟩
theorem zOX{A:Around}{C:Addr}{us:List Value}{kw:List (Str×Value)}:(A.under (.builtin "type.__call__" ⟨.ref C::us,kw⟩)).depth=A.depth+1:=by
 first|rfl|simp[Around.under,Code.weight,Code.isCreation,Code.isGuard,Code.isCaller,Code.frames,Code.isFrame,guardIds]
theorem zOW{A:Around}{C:Addr}{us:List Value}{kw:List (Str×Value)}:(A.under (.builtin "type.__call__" ⟨.ref C::us,kw⟩)).units=A.units+1:=by
 first|rfl|simp[Around.under,Code.cUnits,Code.frames,Code.isFrame]
theorem Room.make{k:Nat}{A:Around}(r:Room (k+1) A)(C:Addr)(us:List Value)(kw:List (Str×Value)):Room k (A.under (.builtin "type.__call__" ⟨.ref C::us,kw⟩)):=
 ⟨r.hd,by have:=r.dp;rw[zOX];omega,by have:=r.un;rw[zOW];omega⟩
theorem Room.depth{k:Nat}{A:Around}(r:Room k A):A.depth<recursionLimit:=by have:=r.dp;omega
theorem Room.units{k:Nat}{A:Around}(r:Room k A):A.units+64<cLine:=by have:=r.un;omega
noncomputable def tNil:TA:=fun _ H Q=>Q [] H
noncomputable def zDR(ta:TE)(tr:TA):TA:=fun σ H Q=>ta σ H fun x H1=>tr σ H1 fun xs H2=>Q (x::xs) H2
section
variable{X:Cx}{e:Expr}{es:List Expr}{te:TE}{t:TA}{pos:Pos}
theorem zA4:PA X [] tNil:=fun _ _ _ _ H Q I h=>Calls.spliced_nil ⟨[],H,I,.nil,h⟩
theorem zA1(ha:PE X e te)(hr:PA X es t)(hs:starEach (e::es) X.env=(false,eval e X.env)::starEach es X.env:=by rfl):PA X (e::es) (zDR te t):=by
 intro pos pins s σ H Q I h;rw[hs];show wpAny _ _ (spliced ((false,eval e X.env)::backTo pos (starEach es X.env))) _ _ s;refine Calls.spliced_cons (thn (ha pins s σ H _ I h) fun u s1 z0=>?_);obtain⟨x,H1,I1,r1,q1⟩:=z0;exact thn (hr pos pins s1 σ H1 _ I1 q1) fun us s2 ⟨xs,H2,I2,r2,q2⟩=>⟨x::xs,H2,I2,.cons r1 r2,q2⟩
def tTup(t:TA):TE:=fun σ H Q=>t σ H fun xs H1=>xs.length<=sizeLine/\∀p,H1 p=none->Q (.ref p) (upd H1 p (.tup xs))
def tLst(t:TA):TE:=fun σ H Q=>t σ H fun xs H1=>xs.length<=sizeLine/\∀p,H1 p=none->Q (.ref p) (upd H1 p (.lst xs))
theorem zVI{x1}(h:PA X es t):PE X (.Tuple es x1 pos) (tTup t):=by
 intro pins s σ H Q I hq;refine wpAny_Tuple_spliced (thn (h pos pins s σ H _ I hq) fun us s1 ⟨xs,H1,I1,r,z,q⟩=>⟨by rw[<- r.length];exact z,?_⟩);have hf:H1 s1.heap.objs.size=none:=I1.hok.fresh (qA7 _);refine⟨.ref s1.heap.objs.size,upd H1 s1.heap.objs.size (.tup xs),I1.laid (t':=s1.toks) (fun b u e=>Heap.get?_push_of_some _ e) (qA7 _) ?_,rfl,q _ hf⟩;exact⟨z,us,r,⟨_,Heap.get?_push_size _ rfl,rfl,_,rfl⟩⟩
theorem zED(h:PA X es t):PE X (.List es pos) (tLst t):=by
 intro pins s σ H Q I hq;refine wpAny_List_spliced (thn (h pos pins s σ H _ I hq) fun us s1 ⟨xs,H1,I1,r,z,q⟩=>⟨by rw[<- r.length];exact z,?_⟩);have hf:H1 s1.heap.objs.size=none:=I1.hok.fresh (qA7 _);refine⟨.ref s1.heap.objs.size,upd H1 s1.heap.objs.size (.lst xs),I1.laid (t':=s1.toks) (fun b u e=>Heap.get?_push_of_some _ e) (qA7 _) ?_,rfl,q _ hf⟩;exact⟨z,us,0,r,Heap.get?_push_size _ rfl⟩
end
abbrev Sp:=List V->Hp->VK->XK->Prop
abbrev CXT:=List Env->Hp->Shared->XK->Value->Shared->Prop
structure Env0(P:Program)(w:World)(K:qA1)(mg:Str->Option Value)(base:Heap)(A:Around)(outer:List Env)(s:Shared)(H:Hp):Prop where
 frames:A.frames=some outer
 mod:Mod K mg base
 bs:∀b o,base.get? b=some o->s.heap.get? b=some o/\H b=none
 bsz:base.objs.size<=s.heap.objs.size
 funs:s.heap.FunFrames base outer
 frf:∀b∈frs outer,H b=none
 hok:HOk P w H s.heap
 bare:AllBare s.gens
def CE(outer:List Env)(P:Program)(w:World)(H:Hp)(s:Shared)(Q:VK)(u:Value)(s':Shared):Prop:=
 ∃v H',s'.os=s.os/\AllBare s'.gens/\Un (frs outer) [] H H' s.heap s'.heap/\HOk P w H' s'.heap/\RelV v u/\Q v H'
def CR(CX:CXT)(outer:List Env)(P:Program)(w:World)(H:Hp)(s:Shared)(Q:VK)(E:XK)(r:Result)(s':Shared):Prop:=
 match r with
 |.ok (.ret u)=>CE outer P w H s Q u s'
 |.ok _=>False
 |.error e=>CX outer H s E e s'
structure FnOk(P:Program)(w:World)(K:qA1)(mg:Str->Option Value)(base:Heap)(CX:CXT)(k:Nat)(f:Addr)(fd:FuncData)(ps:List Str)(sp:Sp):Prop where
 len:∀vs H Q E,sp vs H Q E->vs.length=ps.length
 run:∀(A:Around)(outer:List Env)(s:Shared)(H:Hp)(args:Args)(us:List Value)(vs:List V)(Q:VK)(E:XK),Room k A->Env0 P w K mg base A outer s H->BindsTo s fd args (ps.zip us)->Vals vs us->sp vs H Q E ->
  codeAny (model P w) A (.call (.ref f) args) (CR CX outer P w H s Q E) s
theorem FnOk.imp{P:Program}{w:World}{K:qA1}{mg:Str->Option Value}{base:Heap}{CX:CXT}{k:Nat}{f:Addr}{fd:FuncData}{ps:List Str}{sp sp':Sp}(F:FnOk P w K mg base CX k f fd ps sp)
  (h:∀vs H Q E,sp' vs H Q E->sp vs H Q E):FnOk P w K mg base CX k f fd ps sp':=
 ⟨fun vs H Q E q=>F.len vs H Q E (h _ _ _ _ q),fun A outer s H args us vs Q E hr he hb hv hs=>F.run A outer s H args us vs Q E hr he hb hv (h _ _ _ _ hs)⟩
theorem Env0.make{P:Program}{w:World}{K:qA1}{mg:Str->Option Value}{base:Heap}{A:Around}{outer:List Env}{s:Shared}{H:Hp}(e:Env0 P w K mg base A outer s H)(C:Addr)(us:List Value)(kw:List (Str×Value)) :
  Env0 P w K mg base (A.under (.builtin "type.__call__" ⟨.ref C::us,kw⟩)) outer s H:=⟨by first|exact e.frames|(simpa[Around.under,Code.envs,Code.isFrame,pushEnvs]using e.frames),e.mod,e.bs,e.bsz,e.funs,e.frf,e.hok,e.bare⟩
section
variable{X:Cx}{pins:List (Addr×Obj)}{σ:St}{H:Hp}{s s':Shared}
theorem Inv.env0(I:Inv X pins σ H s):Env0 X.prog X.w X.K X.mg X.base X.A X.stack s H:=
 ⟨I.ok.frames,I.ok.mod,I.bs,qAp I.ok.bsz I.sz,I.stack,I.stkFree,I.hok,I.bare⟩
theorem Inv.after{Q:VK}{u:Value}(I:Inv X pins σ H s)(h:CE X.stack X.prog X.w H s Q u s'):EP X pins σ Q u s':=by
 obtain⟨v,H',os,bare,un,hok,r,q⟩:=h;obtain⟨hh,g,d,t,os'⟩:=s';obtain rfl:os'=s.os:=os;exact⟨v,H',I.call (h':=hh) (g':=g) (d':=d) (t':=t) (ch:=[]) un hok bare (fun b z=>absurd z (by simp)),r,q⟩
end
noncomputable def zJB(sp:Sp)(dvs:List V)(E:XK)(t:TA):TE:=fun σ H Q=>t σ H fun vs H1=>sp (vs++dvs) H1 Q E
def Binds(K:qA1)(fd:FuncData)(ps:List Str)(ds:List Value):Prop:=
 ∀(s:Shared)(us:List Value),K.In s.heap->(us++ds).length=ps.length->BindsTo s fd ⟨us,[]⟩ (ps.zip (us++ds))
theorem Binds.all{K:qA1}{fd:FuncData}{ps:List Str}(h:∀us:List Value,us.length=ps.length->bindArgs fd ⟨us,[]⟩=pure (ps.zip us)):Binds K fd ps []:=fun s us _ hl=>by
 rw[qCm]at hl ⊢;exact .of_eq (h us hl)
def zHH(CX:CXT)(X:Cx)(E:XK):Prop:=∀(pins:List (Addr×Obj))(σ:St)(H:Hp)(s:Shared)(e:Value)(s':Shared),Inv X pins σ H s->CX X.stack H s E e s'->X.xe e s'
section
variable{X:Cx}{CX:CXT}{k:Nat}{f C:Addr}{fd:FuncData}{ps:List Str}{sp:Sp}{dvs:List V}{ds:List Value}{E:XK}{x m:Str}{p pos apos:Pos}{e o:Expr}{es:List Expr}{ta:TE}{t:TA}
theorem zZO{pins:List (Addr×Obj)}{σ:St}{H:Hp}{s:Shared}{Q:VK}{us:List Value}{vs:List V}(F:FnOk X.prog X.w X.K X.mg X.base CX k f fd ps sp)(hr:Room k X.A)(hb:Binds X.K fd ps ds)(hd:Vals dvs ds)(hx:zHH CX X E)
  (I:Inv X pins σ H s) (r:Vals vs us) (h:sp (vs++dvs) H Q E):wpAny (model X.prog X.w) X.A (call (.ref f) us) (EP X pins σ Q) X.xe s:=by
 have r2:Vals (vs++dvs) (us++ds):=r.append hd;have hl:(us++ds).length=ps.length:=by rw[<- r2.length];exact F.len _ _ _ _ h
 refine wpAny_call (codeAny_mono (F.run X.A X.stack s H ⟨us,[]⟩ (us++ds) (vs++dvs) Q E hr I.env0 (hb s us I.kIn hl) r2 h) fun r s' hq=>?_);cases r with
 |error e=>exact hx pins σ H s e s' I hq
 |ok fl=>
  cases fl with
  |ret u=>exact I.after hq
  |next=>exact qA3 hq
  |brk=>exact qA3 hq
  |cont=>exact qA3 hq
theorem zQG(F:FnOk X.prog X.w X.K X.mg X.base CX k f fd ps sp)(hr:Room k X.A)(hg:Gl X x)(hm:X.mg x=some (.ref f))(hk:qB5 X.K (.ref f)=true)(hb:Binds X.K fd ps ds)(hd:Vals dvs ds)(hx:zHH CX X E)
  (ha:PA X (e::es) t) (hdb:(x==("__debug__":Str))=false:=by decide) (he:starEach (e::es) X.env=(false,eval e X.env)::starEach es X.env:=by rfl) (hpl:(backTo pos (starEach es X.env)).any (·.1)=false:=by rfl) :
  PE X (.Call (.Name x p) (e::es) [] pos) (zJB sp dvs E t):=by
 intro pins s σ H Q I h;refine wpAny_Call_Name_kw (zLU I hg hm ?_ hdb);refine qFs (h₀:=X.base) I.ok.mod.kin hk (thn (ha pos pins s σ H _ I h) fun us s1 ⟨vs,H1,I1,r,q⟩=>⟨I1.kIn,?_⟩) he hpl;exact zZO F hr hb hd hx I1 r q
structure Mk(K:qA1)(C f:Addr):Prop where
 makes:qGk K C=true
 init:qAo K (.ref C) "__init__" = some (some (.ref f))
 fn:qDl K (.ref f)=true
 kp:qB5 K (.ref C)=true
end
section
variable{X:Cx}{CX:CXT}{k:Nat}{f C:Addr}{fd:FuncData}{ps ks:List Str}{sp:Sp}{E:XK}{x m:Str}{p pos apos kpos:Pos}{e o:Expr}{es:List Expr}{kws:List Keyword}{te ta:TE}{t tk:TA}{nm:Option Str}
structure KBinds(K:qA1)(fd:FuncData)(ps ks:List Str)(g:List Value->List Value->List Value)(gV:List V->List V->List V):Prop where
 to:∀(s:Shared)(us ws:List Value),K.In s.heap->(g us ws).length=ps.length->BindsTo s fd ⟨us,ks.zip ws⟩ (ps.zip (g us ws))
 rel:∀{vs:List V}{us:List Value}{zs:List V}{ws:List Value},Vals vs us->Vals zs ws->Vals (gV vs zs) (g us ws)
variable{g:List Value->List Value->List Value}{gV:List V->List V->List V}
end
structure FnScope(N P:List Str)(sc:Scope):Prop where
 kind:sc.kind=.function
 co:sc.isCoroutine=false
 gen:sc.isGenerator=false
 nd:N.Nodup
 pre:N.take P.length=P
 par:∀x∈P,sc.names.lookup x=some .local\/sc.names.lookup x=some .cell
 nofree:∀y∈sc.names,y.2≠.free
theorem zKP{kindOf:Str->Option NameKind}{x:Str}:∀{binds:List (Str×Value)}{m:Str->Option Value},(∀v,(x,v)∉binds)->bindL kindOf binds m x=m x
 |[],_,_=>rfl
 |(n,v)::r,m,h=>by
  unfold bindL;rw[zKP fun w hw=>h w (qAt _ hw)]
  split
  ·have:x≠n:=by rintro rfl;exact h v qAz
   simp[this]
  ·rfl
theorem zKR{kindOf:Str->Option NameKind}{x:Str}:∀{binds:List (Str×Value)}{m:Str->Option Value},(∀v,(x,v)∉binds)->bindC kindOf binds m x=m x
 |[],_,_=>rfl
 |(n,v)::r,m,h=>by
  unfold bindC;rw[zKR fun w hw=>h w (qAt _ hw)]
  split
  ·rfl
  ·have:x≠n:=by rintro rfl;exact h v qAz
   simp[this]
theorem zKQ{kindOf:Str->Option NameKind}{x:Str}{v:Value}:∀{P:List Str}{vs:List Value}{i:Nat}{m:Str->Option Value},P.Nodup->P[i]?=some x->vs[i]?=some v->kindOf x=some .local ->
  bindL kindOf (P.zip vs) m x=some v
 |[],_,_,_,_,h,_,_=>by simp at h
 |_::_,[],_,_,_,_,h,_=>by simp at h
 |p::P,w::vs,0,m,nd,h1,h2,hk=>by
  simp at h1 h2;subst h1;subst h2;show bindL kindOf ((p,w)::P.zip vs) m p=_;unfold bindL;rw[zKP fun v hv=>(qBb.mp nd).1 (qDw hv).1,if_pos hk];simp
 |p::P,w::vs,i+1,m,nd,h1,h2,hk=>by
  show bindL kindOf ((p,w)::P.zip vs) m x=_;unfold bindL;exact zKQ (i:=i) (qBb.mp nd).2 (by simpa using h1) (by simpa using h2) hk
theorem zKS{kindOf:Str->Option NameKind}{x:Str}{v:Value}:∀{P:List Str}{vs:List Value}{i:Nat}{m:Str->Option Value},P.Nodup->P[i]?=some x->vs[i]?=some v->kindOf x≠some .local ->
  bindC kindOf (P.zip vs) m x=some v
 |[],_,_,_,_,h,_,_=>by simp at h
 |_::_,[],_,_,_,_,h,_=>by simp at h
 |p::P,w::vs,0,m,nd,h1,h2,hk=>by
  simp at h1 h2;subst h1;subst h2;show bindC kindOf ((p,w)::P.zip vs) m p=_;unfold bindC;rw[zKR fun v hv=>(qBb.mp nd).1 (qDw hv).1,if_neg hk];simp
 |p::P,w::vs,i+1,m,nd,h1,h2,hk=>by
  show bindC kindOf ((p,w)::P.zip vs) m x=_;unfold bindC;exact zKS (i:=i) (qBb.mp nd).2 (by simpa using h1) (by simpa using h2) hk
noncomputable def start(N:List Str)(vs:List V):St:=vs.map some++qA9 (N.length-vs.length) none
noncomputable def cxOf(CX:CXT)(P:Program)(w:World)(K:qA1)(mg:Str->Option Value)(base:Heap)(N:List Str)(qual:Str)(scope:Scope)(f:Addr)(cd:Value)(A:Around)(outer:List Env)(s:Shared)(H:Hp)(E:XK):Cx where
 prog:=P
 w:=w
 K:=K
 mg:=mg
 base:=base
 A:=A.deeper (envOfC qual scope s.heap.objs.size f cd)
 N:=N
 s₀:=s
 H₀:=H
 env:=envOfC qual scope s.heap.objs.size f cd
 outer:=outer
 stack:=envOfC qual scope s.heap.objs.size f cd::outer
 ex:=[]
 calm:=true
 fn:=fun _=>true
 pn:=[]
 xe:=fun e s'=>wpAny (model P w) (A.deeper (envOfC qual scope s.heap.objs.size f cd)) (leaving (envOfC qual scope s.heap.objs.size f cd) e) (fun _ s''=>CX outer H s E e s'') (fun e' s''=>CX outer H s E e' s'') s'
theorem zO1{sc:Scope}{n:Nat}{x:Str}(h:sc.names.lookup x=some .cell):∃c,(cellsFrom n sc.names []).lookup x=some c:=by
 have q:=qDc sc.names n [] (.inl h);exact qEa.mp q
theorem zRE{CX:CXT}{P:Program}{w:World}{K:qA1}{mg:Str->Option Value}{base:Heap}{N ps:List Str}{qual:Str}{scope:Scope}{f:Addr}{cd:Value}{A:Around}{outer:List Env}{s s1:Shared}{H:Hp}{E:XK}{us:List Value}{vs:List V}
  (S:FnScope N ps scope) (hd:A.handled=none) (e0:Env0 P w K mg base A outer s H) (hl:vs.length=ps.length) (r:Vals vs us)
  (x:InCallC s s.heap.objs.size (bindL (envOfC qual scope s.heap.objs.size f cd).kindOf (ps.zip us) fun _=>none) (cellsFrom (s.heap.objs.size+1) scope.names []) (bindC (envOfC qual scope s.heap.objs.size f cd).kindOf (ps.zip us) fun _=>none) s1) :
  Inv (cxOf CX P w K mg base N qual scope f cd A outer s H E) [] (start N vs) H s1:=by
 have hpl:ps.length<=N.length:=by have:=congrArg List.length S.pre;rw[qDr]at this;omega
 obtain⟨h1,tk,rfl,hk⟩:=x.done;have noA:∀b:Addr,b∉(cxOf CX P w K mg base N qual scope f cd A outer s H E).ex:=fun b z=>absurd (show b∈([]:List Addr) from z) (by simp)
 refine⟨⟨e0.mod,S.kind,rfl,rfl,qA7 _,fun y z c h1 h2=>?_,fun y hy=>?_,fun y c _ h=>?_,fun _=>hd,Around.frames_deeper e0.frames,.inr ⟨rfl,rfl⟩,fun b z=>absurd z (noA b),e0.bs,e0.bsz,fun b _ _=>noA b,fun b z=>absurd z (noA b),e0.funs,e0.frf⟩,
  rfl,e0.bare,Un.kept hk,⟨_,x.toInCall.ns,fun i y v h1 h2 h3=>?_⟩,fun y c h=>⟨_,x.cell y c h⟩,e0.hok.fresh (qA7 _),fun y c h=>?_,fun p hp=>absurd (show p∈([]:List (Addr×Obj)) from hp) (by simp),e0.hok.kept hk,?_⟩
 ·exact name_of_addr x.apart (qCg h1) (qCg h2)
 ·have hy:scope.names.lookup y=some .cell\/scope.names.lookup y=some .free:=hy
  rcases hy with hy|hy
  ·exact zO1 hy
  ·exact absurd rfl (S.nofree _ (qCg hy))
 ·exact qCl (x.above y c (qCg h))
 ·have hi:i<vs.length:=by
   unfold start at h2
   by_cases hi:i<vs.length
   ·exact hi
   ·rw[qA8 (by simpa using hi)]at h2;rw[qBj]at h2
    split at h2<;>cases h2
  have ha:vs[i]?=some v:=by
   unfold start at h2;rw[qAa (by simpa using hi),qAh]at h2;cases e:vs[i]? with
   |none=>rw[e]at h2;cases h2
   |some a=>rw[e]at h2;cases h2;rfl
  obtain⟨u,hu,rv⟩:=r.get ha;have hp:ps[i]?=some y:=by
   rw[<- S.pre,qEb (by omega)];exact h1
  have ndP:ps.Nodup:=by rw[<- S.pre];exact S.nd.sublist (qG2 _ _)
  refine⟨u,rv,?_⟩
  rcases S.par y (qAx hp)with k|k
  ·exact .inl ⟨k,zKQ ndP hp hu k⟩
  ·obtain⟨c,e⟩:=zO1 (n:=s.heap.objs.size+1) k;refine .inr ⟨.inl k,c,e,?_⟩;have q:=x.cell y c e;rw[zKS ndP hp hu (by show scope.names.lookup y≠_;rw[k];decide)]at q;exact q
 ·exact e0.hok.fresh (qCl (x.above y c (qCg h)))
 ·unfold start;show _=N.length;rw[qAl,qAm,qDm];omega
theorem zb5{CX:CXT}{P:Program}{w:World}{K:qA1}{mg:Str->Option Value}{base:Heap}{k:Nat}{f:Addr}{name qual:Str}{params:Arguments}{body:List Stmt}{scope:Scope}{dV kV doc pm cdv ct oc:Value}{an od:Option Addr}
  {osl:Array (Option Value)} {N ps:List Str} {sp:Sp} (lk:K.lookup f=some ⟨oc,od,.func (qBg name qual params body scope dV kV doc pm an cdv ct),osl⟩) (hcd:qCt K cdv qual=true) (S:FnScope N ps scope)
  (len:∀vs H Q E,sp vs H Q E->vs.length=ps.length)
  (hbody:∀(A:Around)(outer:List Env)(s:Shared)(H:Hp)(vs:List V)(Q:VK)(E:XK),Room k (A.deeper (envOfC qual scope s.heap.objs.size f cdv))->sp vs H Q E ->
   ∃t,PSs (cxOf CX P w K mg base N qual scope f cdv A outer s H E) body t/\t { nx:=fun _ H'=>Q .non H',rt:=Q } (start N vs) H) :
  FnOk P w K mg base CX (k+1) f (qBg name qual params body scope dV kV doc pm an cdv ct) ps sp:=by
 refine⟨len,fun A outer s H args us vs Q E hr e0 hb r hsp=>?_⟩;have hl:=len _ _ _ _ hsp;have KX:K.In s.heap:=e0.mod.kin.keeps fun b o e=>(e0.bs b o e).1
 have lim:s.heap.NoLimit:=e0.mod.nolimit.keeps fun b o e=>(e0.bs b o e).1
 have hkind:∀y∈ps.zip us,scope.names.lookup y.1=some .local\/(scope.names.lookup y.1=some .cell/\((cellsFrom (s.heap.objs.size+1) scope.names []).lookup y.1).isSome=true):=fun⟨n,v⟩ hy=>by
  rcases S.par n (qDw hy).1 with q|q
  ·exact .inl q
  ·exact .inr ⟨q,qDc _ _ _ (.inl q)⟩
 refine codeAny_call_function hr.depth (KX _ _ lk) rfl S.co S.gen rfl (PySem.W.codeRec_of KX hcd) (hb _ _ _ _ ?_);refine wpAny_newFunctionEnv_cells S.kind hkind fun env he s1 x=>?_
 subst he;refine⟨lim.keeps x.toInCall.keep,codeAny_func ?_⟩;obtain⟨t,ht,hq⟩:=hbody A outer s H vs Q E (hr.deeper _) hsp;have I:Inv (cxOf CX P w K mg base N qual scope f cdv A outer s H E) [] (start N vs) H s1:=zRE S hr.hd e0 hl r x;refine wpAny_mono (ht [] s1 (start N vs) H _ I hq) (fun fl s' hs=>?_) fun e s' hs=>hs
 have fin:∀{σ':St}{H':Hp}{v:V}{u:Value},Inv (cxOf CX P w K mg base N qual scope f cdv A outer s H E) [] σ' H' s'->RelV v u->Q v H'->CE outer P w H s Q u s':=
  fun{σ' H' v u} J rv q=>⟨v,H',J.os,J.bare,J.base,J.hok,rv,q⟩
 cases fl with
 |ret u=>
  obtain⟨v,σ',H',J,rv,q⟩:=hs;exact fin J rv q
 |next=>
  obtain⟨σ',H',J,q⟩:=hs;exact fin (v:=V.non) (u:=Value.none) J rfl q
 |brk=>
  obtain⟨_,_,_,q⟩:=hs;exact qA3 q
 |cont=>
  obtain⟨_,_,_,q⟩:=hs;exact qA3 q
end L2
namespace L2
open PySem PySem.Spec PyProof.Rows
section
variable{X:Cx}{x:Str}{p pos:Pos}{e:Expr}{es:List Expr}{t:TA}{id T:String}{r:List V->Hp->VK->Prop}
noncomputable def tCB(r:List V->Hp->VK->Prop)(t:TA):TE:=fun σ H Q=>t σ H fun vs H1=>r vs H1 Q
theorem zAM(hc:zD4 X (.builtin id) r)(hg:Gl X x)(hm:X.mg x=none)(hv:bootBuiltins x=some (.builtin id))(ha:PA X (e::es) t)(hn:x≠"__name__":=by decide)(hdb:(x==("__debug__":Str))=false:=by decide)
  (he:starEach (e::es) X.env=(false,eval e X.env)::starEach es X.env:=by rfl) (hpl:(backTo pos (starEach es X.env)).any (·.1)=false:=by rfl):PE X (.Call (.Name x p) (e::es) [] pos) (tCB r t):=by
 intro pins s σ H Q I h;refine wpAny_Call_Name_kw (zGA I hg hm hv ?_ hn hdb);exact qDn (thn (ha pos pins s σ H _ I h) fun us s1 ⟨vs,H1,I1,r1,q1⟩=>hc pins s1 σ H1 vs us Q I1 r1 q1) he hpl
theorem zEE(hc:zD4 X (.type T) r)(hg:Gl X x)(hm:X.mg x=none)(hv:bootBuiltins x=some (.type T))(ha:PA X (e::es) t)(hn:x≠"__name__":=by decide)(hdb:(x==("__debug__":Str))=false:=by decide)
  (he:starEach (e::es) X.env=(false,eval e X.env)::starEach es X.env:=by rfl) (hpl:(backTo pos (starEach es X.env)).any (·.1)=false:=by rfl):PE X (.Call (.Name x p) (e::es) [] pos) (tCB r t):=by
 intro pins s σ H Q I h;refine wpAny_Call_Name_kw (zGA I hg hm hv ?_ hn hdb);exact qBi (thn (ha pos pins s σ H _ I h) fun us s1 ⟨vs,H1,I1,r1,q1⟩=>hc pins s1 σ H1 vs us Q I1 r1 q1) he hpl
end
end L2
namespace HT
open PySem PyProof.Rows
section
open PySem.SeqAt
open PySem.AutoSeq1 (wpAny_loadPart')
open PySem.MeetsSeq PySem.MeetsSeq2 PySem.MeetsSeq3
end
section
variable{prog:Program}{w:World}{A:Around}{E:Value->Shared->Prop}{s:Shared}
noncomputable def sIx(n d:Nat):Option Int->Nat
 |none=>d
 |some v=>if v<0 then(v+(n:Int)).toNat else min v.toNat n
end
end HT
namespace L2
open PySem PySem.Spec PyProof.Rows
abbrev TO:=St->Hp->(Option Int->Hp->Prop)->Prop
def PO(X:Cx)(e:Option Expr)(t:TO):Prop:=
 ∀(pins:List (Addr×Obj))(s:Shared)(σ:St)(H:Hp)(Q:Option Int->Hp->Prop),Inv X pins σ H s->t σ H Q ->
  wpAny (model X.prog X.w) X.A (evalPart e X.env) (fun u s'=>∃o H',Inv X pins σ H' s'/\IsPart u o/\Q o H') X.xe s
noncomputable def zPT:TO:=fun _ H Q=>Q none H
noncomputable def zZF(t:TE):TO:=fun σ H Q=>t σ H fun x H1=>∃i,x=.int i/\Q (some i) H1
section
variable{X:Cx}{e:Expr}{te:TE}{lo hi:Option Expr}{tl th:TO}{pos p2:Pos}
theorem zX8:PO X none zPT:=by
 intro pins s σ H Q I h;rw[evalPart_none];exact wpAny_pure ⟨none,H,I,.none,h⟩
theorem zLH(h:PE X e te):PO X (some e) (zZF te):=by
 intro pins s σ H Q I hw;rw[evalPart_some];refine thn (h pins s σ H _ I hw) fun u s1 z0=>?_
 obtain⟨x,H1,I1,r1,q1⟩:=z0;obtain⟨i,rfl,q⟩:=q1;obtain⟨t,rfl⟩:=r1;exact⟨some i,H1,I1,.int i t,q⟩
def SlR(X:Cx)(r:V->Option Int->Option Int->Hp->VK->Prop):Prop:=
 ∀(pins:List (Addr×Obj))(s:Shared)(σ:St)(H:Hp)(x:V)(v vl vu:Value)(lo hi:Option Int)(sl:Addr)(Q:VK),Inv X pins σ H s->RelV x v->s.heap.IsSliceOf sl vl vu .none->IsPart vl lo->IsPart vu hi->r x lo hi H Q ->
  ∃T id,typeLookup (.type T) "__getitem__" = pure (some (.builtin id))/\s.TypeIs v T/\wpAny (model X.prog X.w) X.A (getItem v (.ref sl)) (EP X pins σ Q) X.xe s
noncomputable def tSl(r:V->Option Int->Option Int->Hp->VK->Prop)(te:TE)(tl th:TO):TE:=fun σ H Q=>te σ H fun x H1=>tl σ H1 fun l H2=>th σ H2 fun u H3=>r x l u H3 Q
theorem zN9{r:V->Option Int->Option Int->Hp->VK->Prop}(hr:SlR X r)(he:PE X e te)(hl:PO X lo tl)(hu:PO X hi th):PE X (.Subscript e (.Slice lo hi none p2) pos) (tSl r te tl th):=by
 intro pins s σ H Q I h;refine Subscript_ (thn (he pins s σ H _ I h) fun v s1 z0=>?_);obtain⟨x,H1,I1,r1,q1⟩:=z0;refine wpAny_Slice (thn (hl pins s1 σ H1 _ I1 q1) fun vl s2 ⟨l,H2,I2,pl,q2⟩=>thn (hu pins s2 σ H2 _ I2 q2) fun vu s3 ⟨u,H3,I3,pu,q3⟩=>?_);rw[evalPart_none];refine wpAny_pure ?_;have I4:Inv X pins σ H3 { s3 with heap:=s3.heap.push { cls:=.type "slice",data:=.fields #[vl,vu,.none] } }:=I3.kept (t':=s3.toks) fun b ob q=>Heap.get?_push_of_some _ q
 obtain⟨T,id,hT,ht,hg⟩:=hr pins { s3 with heap:=s3.heap.push { cls:=.type "slice",data:=.fields #[vl,vu,.none] } } σ H3 x v vl vu l u s3.heap.objs.size Q I4 r1 (Heap.IsSliceOf.new ..) pl pu q3;show wpAny (model X.prog X.w) X.A (subscriptTail e (.Slice lo hi none p2) v (.ref s3.heap.objs.size)) (EP X pins σ Q) X.xe { s3 with heap:=s3.heap.push { cls:=.type "slice",data:=.fields #[vl,vu,.none] } };exact tail_any (ops:=[.ref s3.heap.objs.size,v]) ht hT hg (by with_unfolding_all rfl)
def cutV(xs:List V)(lo hi:Option Int):List V:=(xs.drop (HT.sIx xs.length 0 lo)).take (HT.sIx xs.length xs.length hi-HT.sIx xs.length 0 lo)
theorem zMA(xs:List V)(lo hi:Option Int):(cutV xs lo hi).length<=xs.length:=by
 unfold cutV;rw[qDr,qGc];omega
end
end L2
namespace L2
open PySem PySem.Spec PyProof.Rows
noncomputable def ixN(n:Nat)(i:Int):Option Nat:=if 0<=i then(if i<n then some i.toNat else none)else if -(n:Int)<=i then some (i+n).toNat else none
def atI{α:Type}(xs:List α)(i:Int):Option α:=(ixN xs.length i).bind fun j=>xs[j]?
theorem zIF{n:Nat}{i:Int}{j:Nat}(h:ixN n i=some j):seqIndex? i n=some j/\j<n/\-(n:Int)<=i/\i<n:=by
 unfold ixN at h
 by_cases h0:0<=i
 ·rw[if_pos h0]at h
  by_cases h1:i<n
  ·rw[if_pos h1]at h;have e:i.toNat=j:=qBa h;exact⟨by rw[seqIndex_of h0 h1,e],by omega,by omega,h1⟩
  ·rw[if_neg h1]at h;cases h
 ·rw[if_neg h0]at h
  by_cases h1:-(n:Int)<=i
  ·rw[if_pos h1]at h;have e:(i+n).toNat=j:=qBa h;exact⟨by rw[seqIndex_neg (by omega) h1,e],by omega,h1,by omega⟩
  ·rw[if_neg h1]at h;cases h
theorem zMJ{α:Type}{xs:List α}{i:Int}{v:α}(h:atI xs i=some v):∃j,seqIndex? i xs.length=some j/\xs[j]?=some v/\j<xs.length/\-(xs.length:Int)<=i/\i<xs.length:=by
 unfold atI at h;cases e:ixN xs.length i with
 |none=>rw[e]at h;cases h
 |some j=>
  rw[e]at h;obtain⟨h1,h2,h3,h4⟩:=zIF e;exact⟨j,h1,h,h2,h3,h4⟩
def zZ1(b:Expr):Prop:=∀o i,subscripted b false o i=operate [o,i] (getItem o i)
def IxR(X:Cx)(r:R2):Prop:=
 ∀(value slice:Expr)(pins:List (Addr×Obj))(s:Shared)(σ:St)(H:Hp)(x y:V)(v u:Value)(Q:VK),Inv X pins σ H s->RelV x v->RelV y u->r x y H Q ->
  subscripted slice false v u=operate [v,u] (getItem v u)->wpAny (model X.prog X.w) X.A (subscriptTail value slice v u) (EP X pins σ Q) X.xe s
def MtR(X:Cx)(id:String)(r:V->List V->Hp->VK->Prop):Prop:=
 ∀(pins:List (Addr×Obj))(s:Shared)(σ:St)(H:Hp)(x:V)(xs:List V)(v:Value)(us:List Value)(Q:VK),Inv X pins σ H s->RelV x v->Vals xs us->r x xs H Q ->
  wpAny (model X.prog X.w) X.A (call (.builtin id) (v::us)) (EP X pins σ Q) X.xe s
section
variable{X:Cx}{a b:Expr}{ta tb:TE}{pos:Pos}
theorem zC4{r:R2}(hr:IxR X r)(ha:PE X a ta)(hb:PE X b tb)(hs:zZ1 b):PE X (.Subscript a b pos) (tOp r ta tb):=by
 intro pins s σ H Q I h;exact Subscript_ (binT ha hb I h fun v u s2 x y H2 I2 rx ry q=>hr a b pins s2 σ H2 x y v u Q I2 rx ry q (hs _ _))
def rIxL(K:qA1):R2:=fun x y H Q=>∃p xs i v,x=.ref p/\y=.int i/\SqL K H p xs/\atI xs i=some v/\Q v H
def rIxT(K:qA1):R2:=fun x y H Q=>∃p xs i v,x=.ref p/\y=.int i/\SqT K H p xs/\atI xs i=some v/\Q v H
def rIxS:R2:=fun x y H Q=>∃z i c,x=.str z/\y=.int i/\z.length<=sizeLine/\atI z.cps.toList i=some c/\Q (.str ⟨#[c]⟩) H
theorem zXX:IxR X (rIxL X.K):=by
 intro value slice pins s σ H x y v u Q I rx ry h hs;obtain⟨p,xs,i,z,rfl,rfl,hq,he,q⟩:=h;cases rx;obtain⟨t,rfl⟩:=ry;obtain⟨its,r,pl,hz⟩:=I.list hq;obtain⟨j,h1,h2,h3,h4,h5⟩:=zMJ he;obtain⟨w,ew,rw'⟩:=r.get h2;have hl:=r.length;have hn:=zG6;have fin:EP X pins σ Q w s:=⟨z,H,I,rw',q⟩
 by_cases h0:0<=i
 ·have hj:i.toNat=j:=by
   rw[seqIndex_of h0 h5]at h1;exact qBa h1
  exact item_listR pl.isList h0 (by omega) (by rw[hj];simpa using ew) fin hs
 ·have hj:(i+(its.toArray.size:Int)).toNat=j:=by
   rw[seqIndex_neg (by omega) h4]at h1;rw[qAc,<- hl];exact qBa h1
  exact subscriptTail_builtinR (x:=w) pl.isList.typeIs slot_list_getitem.lookup
   (wpAny_getItem_list_neg (Q:=fun r s'=>r=w/\EP X pins σ Q r s') pl.isList (by omega) (by rw[qAc]<;>omega) (by omega) (by rw[hj];simpa using ew) ⟨rfl,fin⟩) hs
theorem zaT:IxR X (rIxT X.K):=by
 intro value slice pins s σ H x y v u Q I rx ry h hs;obtain⟨p,xs,i,z,rfl,rfl,hq,he,q⟩:=h;cases rx;obtain⟨t,rfl⟩:=ry;obtain⟨its,r,pl,hz⟩:=I.tuple hq;obtain⟨j,h1,h2,h3,h4,h5⟩:=zMJ he;obtain⟨w,ew,rw'⟩:=r.get h2;have hl:=r.length;have hn:=zG6;have fin:EP X pins σ Q w s:=⟨z,H,I,rw',q⟩
 exact subscriptTail_builtinR (x:=w) pl.typeIs slot_tuple_getitem.lookup
  (getItem_tuple (j:=j) (Q:=fun r s'=>r=w/\EP X pins σ Q r s') pl (by omega) (by omega) (by rw[qAc,<- hl];exact h1) (by simpa using ew) ⟨rfl,fin⟩) hs
theorem zaV:IxR X rIxS:=by
 intro value slice pins s σ H x y v u Q I rx ry h hs;obtain⟨z,i,c,rfl,rfl,hz,he,q⟩:=h;obtain⟨t,rfl⟩:=rx;obtain⟨t',rfl⟩:=ry;obtain⟨j,h1,h2,h3,h4,h5⟩:=zMJ he;have hl:z.cps.toList.length=z.length:=by simp[Str.length]
 rw[hl]at h1 h4 h5;have hn:=zG6;exact tail_any (typeIs_str s z t) slot_str_getitem.lookup (getItem_str (c:=c) (by
  have e1:decide (i < -(2 ^ 63:Int))=false:=decide_eq_false (by omega);have e2:decide (i>=2 ^ 63)=false:=decide_eq_false (by omega);rw[e1,e2,qHl]) (by rw[h1];simpa using h2) ⟨.str ⟨#[c]⟩,H,I.tok _,⟨_,rfl⟩,q⟩) hs
theorem zOV(its:List Value)(n j:Nat)(u:Value):Obj.mapSeq (·.setIfInBounds j u) { cls:=.type "list",data:=.seq its.toArray n }={ cls:=.type "list",data:=.seq (its.set j u).toArray n }:=by
 simp[Obj.mapSeq]
theorem Inv.lst{pins:List (Addr×Obj)}{σ:St}{H:Hp}{s:Shared}{p:Addr}{xs:List V}(I:Inv X pins σ H s)(h:H p=some (.lst xs)) :
  ∃(its:List Value)(n:Nat),Vals xs its/\s.heap.get? p=some { cls:=.type "list",data:=.seq its.toArray n }/\xs.length<=sizeLine:=by
 obtain⟨z,its,n,r,e⟩:=I.hok p _ h;exact⟨its,n,r,e,z⟩
theorem Inv.lstUpd{pins:List (Addr×Obj)}{σ:St}{H:Hp}{s:Shared}{p:Addr}{xs ys:List V}{its its':List Value}{n n':Nat}{f:Obj->Obj}(I:Inv X pins σ H s)(h:H p=some (.lst xs))
  (ho:s.heap.get? p=some { cls:=.type "list",data:=.seq its.toArray n }) (hf:f { cls:=.type "list",data:=.seq its.toArray n }={ cls:=.type "list",data:=.seq its'.toArray n' }) (r:Vals ys its') (hz:ys.length<=sizeLine) (t:Nat) :
  Inv X pins σ (upd H p (.lst ys)) { s with heap:=s.heap.update p f,toks:=t }:=by
 have e:(s.heap.update p f).get? p=some { cls:=.type "list",data:=.seq its'.toArray n' }:=by
  rw[Heap.get?_update_self f ho (by rw[hf]<;>rfl),hf]
 refine I.write (x:=p) (e:=p) (by rw[h];trivial) (.inl rfl) (fun b u hb q=>(Heap.get?_update_other _ _ (qCf hb)).trans q) ⟨_,e⟩ ?_;exact⟨hz,its',n',r,e⟩
def zcF:V->V->V->Hp->(Hp->Prop)->Prop:=fun o i v H Q=>∃p xs k j,o=.ref p/\i=.int k/\H p=some (.lst xs)/\ixN xs.length k=some j/\Q (upd H p (.lst (xs.set j v)))
theorem zSX:PSet X zcF:=by
 intro pins s σ H o i v ov iv u Q I ro ri rv h;obtain⟨p,xs,k,j,rfl,rfl,hp,hj,q⟩:=h;cases ro;obtain⟨t,rfl⟩:=ri;obtain⟨its,n,r,ho,hz⟩:=I.lst hp;obtain⟨h1,h2,h3,h4⟩:=zIF hj;have hl:=r.length;have hn:=zG6;have I':Inv X pins σ (upd H p (.lst (xs.set j v))) { s with heap:=s.heap.update p (Obj.mapSeq (·.setIfInBounds j u)) }:=
  I.lstUpd hp ho (zOV its n j u) (r.set rv j) (by rw[qEy];exact hz) s.toks
 by_cases h0:0<=k
 ·have hk:k.toNat=j:=by
   rw[seqIndex_of h0 h4]at h1;exact qBa h1
  exact PySem.W.ki_setAt ho h0 (by omega) (by rw[qAc,<- hl];exact h4) (by rw[hk];exact⟨_,I',q⟩)
 ·have hk:(k+(its.toArray.size:Int)).toNat=j:=by
   rw[seqIndex_neg (by omega) h3]at h1;rw[qAc,<- hl];exact qBa h1
  exact PySem.W.ki_setBack ho (by omega) (by rw[qAc,<- hl];exact h3) (by omega) (by rw[hk];exact⟨_,I',q⟩)
theorem zJH(lo hi:Option Int)(n:Nat):(sliceBounds lo hi none n).1=((HT.sIx n 0 lo:Nat):Int)/\(sliceBounds lo hi none n).2.1=((HT.sIx n n hi:Nat):Int)/\(sliceBounds lo hi none n).2.2=1:=by
 refine⟨?_,?_,rfl⟩
 ·cases lo with
  |none=>simp[sliceBounds,HT.sIx]
  |some i=>
   simp only[sliceBounds,HT.sIx,qGd,show(1:Int)>0 by decide,if_true]
   by_cases h:i<0
   ·simp only[h,if_true]<;>omega
   ·simp only[h,if_false]<;>omega
 ·cases hi with
  |none=>simp[sliceBounds,HT.sIx]
  |some i=>
   simp only[sliceBounds,HT.sIx,qGd,show(1:Int)>0 by decide,if_true]
   by_cases h:i<0
   ·simp only[h,if_true]<;>omega
   ·simp only[h,if_false]<;>omega
theorem zHP(its:List Value)(lo hi:Option Int):slicePick its.toArray lo hi none=((its.drop (HT.sIx its.length 0 lo)).take (HT.sIx its.length its.length hi-HT.sIx its.length 0 lo)).toArray:=by
 obtain⟨h1,h2,h3⟩:=zJH lo hi its.toArray.size;unfold slicePick;rw[h1,h2,h3];simp only[sliceRange_one,pick_run,qAc]<;>rfl
def rSlL(K:qA1):V->Option Int->Option Int->Hp->VK->Prop:=fun x lo hi H Q=>∃a xs,x=.ref a/\SqL K H a xs/\∀p,H p=none->Q (.ref p) (upd H p (.lst (cutV xs lo hi)))
theorem zWW:SlR X (rSlL X.K):=by
 intro pins s σ H x v vl vu lo hi sl Q I rx hs pl pu h;obtain⟨a,xs,rfl,hx,q⟩:=h;cases rx;obtain⟨its,r,ht,hz⟩:=I.list hx;have hlen:=r.length;refine⟨"list",_,slot_list_getitem.lookup,ht.isList.typeIs,?_⟩;refine wpAny_getItem_list_slice ht.isList hs pl pu .none (by simp) ?_ (by rw[qAc]<;>omega);rw[zHP,<- hlen];refine⟨.ref s.heap.objs.size,_,I.laid (t':=s.toks) (o:=.lst (cutV xs lo hi)) (fun b ob q=>Heap.get?_push_of_some _ q) (qA7 _) ?_,rfl,q _ (I.hok.fresh (qA7 _))⟩;exact⟨qAp (zMA xs lo hi) hz,_,0,(r.drop (HT.sIx xs.length 0 lo)).take (HT.sIx xs.length xs.length hi-HT.sIx xs.length 0 lo),Heap.get?_push_size _ rfl⟩
noncomputable def zDG:V->Bool
 |.non=>true
 |.bl _=>true
 |.int _=>true
 |.str _=>true
 |_=>false
noncomputable def eqV:V->V->Bool
 |.non,.non=>true
 |.bl a,.bl b=>a==b
 |.bl a,.int b=>(if a then 1 else 0)==b
 |.int a,.bl b=>a==(if b then 1 else 0)
 |.int a,.int b=>a==b
 |.str a,.str b=>a==b
 |_,_=>false
theorem zW2{A:Around}{s:Shared}{y x:V}{u v:Value}(ry:RelV y u)(rx:RelV x v)(fy:zDG y=true)(fx:zDG x=true):SeqAt.EqAt A s u v (eqV y x):=by
 cases y with
 |non=>
  cases ry;cases x with
  |non=>cases rx;exact SeqAt.EqAt.same _
  |bl b=>cases rx;exact SeqAt.EqAt.none_bool b
  |int b=>obtain⟨t,rfl⟩:=rx;exact SeqAt.EqAt.none_int b t
  |str b=>obtain⟨t,rfl⟩:=rx;exact SeqAt.EqAt.none_str b t
  |_=>exact absurd (show false=true from fx) qAe
 |bl a=>
  cases ry;cases x with
  |non=>cases rx;exact SeqAt.EqAt.bool_none a
  |bl b=>cases rx;exact SeqAt.EqAt.bool_bool a b
  |int b=>obtain⟨t,rfl⟩:=rx;exact SeqAt.EqAt.bool_int a b t
  |str b=>obtain⟨t,rfl⟩:=rx;exact SeqAt.EqAt.bool_str a b t
  |_=>exact absurd (show false=true from fx) qAe
 |int a=>
  obtain⟨t',rfl⟩:=ry;cases x with
  |non=>cases rx;exact SeqAt.EqAt.int_none a t'
  |bl b=>cases rx;exact SeqAt.EqAt.int_bool a t' b
  |int b=>obtain⟨t,rfl⟩:=rx;exact SeqAt.EqAt.int_int a t' b t
  |str b=>obtain⟨t,rfl⟩:=rx;exact SeqAt.EqAt.int_str a t' b t
  |_=>exact absurd (show false=true from fx) qAe
 |str a=>
  obtain⟨t',rfl⟩:=ry;cases x with
  |non=>cases rx;exact SeqAt.EqAt.str_none a t'
  |bl b=>cases rx;exact SeqAt.EqAt.str_bool a t' b
  |int b=>obtain⟨t,rfl⟩:=rx;exact SeqAt.EqAt.str_int a t' b t
  |str b=>obtain⟨t,rfl⟩:=rx;exact SeqAt.EqAt.str_str a t' b t
  |_=>exact absurd (show false=true from fx) qAe
 |_=>exact absurd (show false=true from fy) qAe
def eqU(x:V)(u:Value):Bool:=match u with
 |.none=>eqV .non x
 |.bool b=>eqV (.bl b) x
 |.int i _=>eqV (.int i) x
 |.str z _=>eqV (.str z) x
 |_=>false
theorem zRL{x y:V}{u:Value}(r:RelV y u)(f:zDG y=true):eqU x u=eqV y x:=by
 cases y with
 |non=>cases r;rfl
 |bl b=>cases r;rfl
 |int i=>obtain⟨t,rfl⟩:=r;rfl
 |str z=>obtain⟨t,rfl⟩:=r;rfl
 |_=>exact absurd (show false=true from f) qAe
theorem zGT{x:V}:∀{xs:List V}{us:List Value},Vals xs us->xs.all zDG=true->us.any (eqU x)=xs.any fun y=>eqV y x
 |_,_,.nil,_=>rfl
 |y::xs,u::us,.cons r t,f=>by
  rw[qCh,qBc]at f;rw[qC2,qC2,zRL r f.1,zGT t f.2]
theorem zDM{A:Around}{s:Shared}{x:V}{v:Value}(rx:RelV x v)(fx:zDG x=true):∀{xs:List V}{us:List Value},Vals xs us->xs.all zDG=true->∀u∈us,SeqAt.EqAt A s u v (eqU x u)
 |_,_,.nil,_=>fun u hu=>by cases hu
 |y::xs,u::us,.cons r t,f=>fun u' hu=>by
  rw[qCh,qBc]at f
  rcases qAb.mp hu with rfl|hu
  ·rw[zRL r f.1];exact zW2 r rx f.1 fx
  ·exact zDM rx fx t f.2 u' hu
def inV(x:V)(xs:List V):Bool:=xs.any fun y=>eqV y x
def rIn(K:qA1)(neg:Bool):R2:=fun x y H Q=>∃p xs,y=.ref p/\(SqL K H p xs\/SqT K H p xs)/\zDG x=true/\xs.all zDG=true/\Q (.bl (if neg then !inV x xs else inV x xs)) H
theorem zQN:OpR X (compareOp .In) (rIn X.K false):=by
 intro pins s σ H x y v u Q I rx ry h;obtain⟨p,xs,rfl,hq,fx,fs,q⟩:=h;cases ry
 rcases hq with hq|hq
 ·obtain⟨its,r,pl,hz⟩:=I.list hq;refine SeqAt.in_listAt (eqU x) pl.isList (fun w hw=>zDM rx fx r fs w (by simpa using hw)) ⟨.bl _,H,I,rfl,?_⟩;rw[show its.toArray.any (eqU x)=its.any (eqU x) by simp,zGT r fs];exact q
 ·obtain⟨its,r,pl,hz⟩:=I.tuple hq;refine SeqAt.in_tupleAt (eqU x) pl (fun w hw=>zDM rx fx r fs w (by simpa using hw)) ⟨.bl _,H,I,rfl,?_⟩;rw[show its.toArray.any (eqU x)=its.any (eqU x) by simp,zGT r fs];exact q
theorem zJV:OpR X (compareOp .NotIn) (rIn X.K true):=by
 intro pins s σ H x y v u Q I rx ry h;obtain⟨p,xs,rfl,hq,fx,fs,q⟩:=h;cases ry
 rcases hq with hq|hq
 ·obtain⟨its,r,pl,hz⟩:=I.list hq;refine SeqAt.notIn_listAt (eqU x) pl.isList (fun w hw=>zDM rx fx r fs w (by simpa using hw)) ⟨.bl _,H,I,rfl,?_⟩;rw[show its.toArray.any (eqU x)=its.any (eqU x) by simp,zGT r fs];exact q
 ·obtain⟨its,r,pl,hz⟩:=I.tuple hq;refine SeqAt.notIn_tupleAt (eqU x) pl (fun w hw=>zDM rx fx r fs w (by simpa using hw)) ⟨.bl _,H,I,rfl,?_⟩;rw[show its.toArray.any (eqU x)=its.any (eqU x) by simp,zGT r fs];exact q
theorem zJU:OpR X (compareOp .NotIn) (fun x y H Q=>∃i j,x=.str i/\y=.str j/\Q (.bl (!(!(Builtin.Str.occurrences j i 0 j.length 1).isEmpty))) H):=by
 intro pins s σ H x y v u Q I rx ry h;obtain⟨i,j,rfl,rfl,q⟩:=h;obtain⟨t,rfl⟩:=rx;obtain⟨t',rfl⟩:=ry;exact notIn_str ⟨.bl _,H,I,rfl,q⟩
theorem zKM:zD4 X (.builtin "len") (fun xs H Q=>∃p ys,xs=[.ref p]/\(SqL X.K H p ys\/SqT X.K H p ys)/\Q (.int ys.length) H):=by
 intro pins s σ H xs us Q I r h;obtain⟨p,ys,rfl,hq,q⟩:=h;obtain⟨u,rfl,rx⟩:=zCR r;cases rx;have hn:=zG6
 rcases hq with hq|hq
 ·obtain⟨its,r',pl,hz⟩:=I.list hq;have hlen:=r'.length;exact Calls.call_len_list pl.isList (by simp only[qAc]<;>omega) ⟨.int ys.length,H,I.tok _,⟨s.toks+1,by rw[qAc,hlen]⟩,q⟩
 ·obtain⟨its,r',pl,hz⟩:=I.tuple hq;have hlen:=r'.length;exact len_tuple pl (by simp only[qAc]<;>omega) ⟨.int ys.length,H,I.tok _,⟨s.toks+1,by rw[qAc,hlen]⟩,q⟩
theorem zKL:zD4 X (.builtin "len") (fun xs H Q=>∃z,xs=[.str z]/\z.length<=sizeLine/\Q (.int z.length) H):=by
 intro pins s σ H xs us Q I r h;obtain⟨z,rfl,hz,q⟩:=h;obtain⟨u,rfl,t,rfl⟩:=zCR r;have hn:=zG6;exact len_str (by omega) ⟨.int z.length,H,I.tok _,⟨_,rfl⟩,q⟩
theorem zKK:zD4 X (.type "list") (fun xs H Q=>∃p ys,xs=[.ref p]/\(SqL X.K H p ys\/SqT X.K H p ys)/\∀l,H l=none->Q (.ref l) (upd H l (.lst ys))):=by
 intro pins s σ H xs us Q I r h;obtain⟨p,ys,rfl,hq,q⟩:=h;obtain⟨u,rfl,rx⟩:=zCR r;cases rx;have fin:∀(its:List Value),Vals ys its->ys.length<=sizeLine->∀(h':Heap)(c':Nat),(∀b o',s.heap.get? b=some o'->h'.get? b=some o') ->
   h'.get? s.heap.objs.size=some { cls:=.type "list",dict:=none,data:=.seq its.toArray c',slots:=#[] }->EP X pins σ Q (.ref s.heap.objs.size) { s with heap:=h' }:=fun its r' hz h' c' kp e=>
  ⟨.ref s.heap.objs.size,_,I.laid (t':=s.toks) kp (qA7 _) (show ObjOk X.prog X.w _ h' _ (.lst ys) from⟨hz,its,c',r',e⟩),rfl,q _ (I.hok.fresh (qA7 _))⟩
 rcases hq with hq|hq
 ·obtain⟨its,r',pl,hz⟩:=I.list hq;have hlen:=r'.length;obtain⟨o,ho,hc,n,hd⟩:=pl.isList;exact call_list_seq p (.inl rfl) ho hc hd (fun h' c' kp e=>fin its r' hz h' c' kp e) (by simp only[qAc]<;>omega)
 ·obtain⟨its,r',pl,hz⟩:=I.tuple hq;have hlen:=r'.length;obtain⟨o,ho,hc,n,hd⟩:=pl;exact call_list_seq p (.inr rfl) ho hc hd (fun h' c' kp e=>fin its r' hz h' c' kp e) (by simp only[qAc]<;>omega)
def tyV(K:qA1)(T:String)(x:V)(H:Hp):Prop:=match x with
 |.str _=>T = "str"
 |.int _=>T = "int"
 |.ref p=>(T = "list"/\∃xs,SqL K H p xs)\/(T = "tuple"/\∃o,K.lookup p=some o/\o.cls=.type "tuple"/\o.dict=none) \/
   (T = "dict"/\((∃kvs,H p=some (.dK kvs))\/∃kvs,H p=some (.dT kvs)))\/(T = "set"/\∃S n,H p=some (.set S n))
 |_=>False
theorem zV2{pins:List (Addr×Obj)}{σ:St}{H:Hp}{s:Shared}{T:String}{x:V}{v:Value}(I:Inv X pins σ H s)(r:RelV x v)(ty:tyV X.K T x H) :
  s.TypeIs v T/\∀a,v=.ref a->∃ob,s.heap.get? a=some ob/\ob.dict=none:=by
 cases x with
 |str z=>
  obtain⟨t,rfl⟩:=r
  cases(show T = "str" from ty)
  exact⟨typeIs_str s z t,fun _ e=>nomatch e⟩
 |int i=>
  obtain⟨t,rfl⟩:=r
  cases(show T = "int" from ty)
  exact⟨typeIs_int s i t,fun _ e=>nomatch e⟩
 |ref p=>
  cases r
  rcases ty with⟨rfl,xs,hq⟩|⟨rfl,o,hk,hc,hd⟩|⟨rfl,hk⟩|⟨rfl,S,n,hk⟩
  ·obtain⟨its,_,pl,_⟩:=I.list hq;refine⟨pl.isList.typeIs,fun a e=>?_⟩;cases e;obtain⟨o,n,e,c,hd,_⟩:=pl;exact⟨o,e,hd⟩
  ·refine⟨⟨o,I.kIn p o hk,hc⟩,fun a e=>?_⟩;cases e;exact⟨o,I.kIn _ o hk,hd⟩
  ·have z:∃o,s.heap.get? p=some o/\o.ExactDict:=by
    rcases hk with⟨kvs,hk⟩|⟨kvs,hk⟩
    ·obtain⟨_,_,_,_,o,_,_,e,ex,_⟩:=I.hok p _ hk;exact⟨o,e,ex⟩
    ·obtain⟨_,_,_,_,o,_,_,e,ex,_⟩:=I.hok p _ hk;exact⟨o,e,ex⟩
   obtain⟨o,e,ex⟩:=z;refine⟨⟨o,e,ex.1⟩,fun a e2=>?_⟩;cases e2;exact⟨o,e,ex.2.1⟩
  ·obtain⟨o,_,_,_,e,ex,_⟩:=I.hok p _ hk;refine⟨⟨o,e,ex.1⟩,fun a e2=>?_⟩;cases e2;exact⟨o,e,ex.2.1⟩
 |_=>exact qA3 ty
noncomputable def tBM(K:qA1)(T:String)(r:V->List V->Hp->VK->Prop)(to:TE)(t:TA):TE:=fun σ H Q=>to σ H fun x H1=>tyV K T x H1/\t σ H1 fun xs H2=>r x xs H2 Q
variable{o e:Expr}{es:List Expr}{to:TE}{t:TA}{name:Str}{apos cpos:Pos}{T id:String}{r:V->List V->Hp->VK->Prop}
theorem zJT(pa:PlainAttrs T)(slot:Slot T name id)(hty:typeOf (.builtin id)=pure (.type "method_descriptor"))(hm:MtR X id r)(ho:PE X o to)(ha:PA X (e::es) t)
  (hbase:attributeBase o name X.env (eval o X.env)=eval o X.env:=by rfl)
  (hfew:((backTo cpos (starEach (e::es) X.env)).all (fun x=>!x.1)&&(backToKw cpos (keywordEach [] X.env)).all (fun x=>x.1.isSome)
   && decide ((e::es).length+([]:List Keyword).length+(if([]:List Keyword).isEmpty then 0 else 1)<30))=true:=by rfl)
  (hline:(apos.endLine==cpos.line)=true:=by rfl) (hs:starEach (e::es) X.env=(false,eval e X.env)::starEach es X.env:=by rfl) (hplain:(backTo cpos (starEach es X.env)).any (·.1)=false:=by rfl) :
  PE X (.Call (.Attribute o name apos) (e::es) [] cpos) (tBM X.K T r to t):=by
 intro pins s σ H Q I h;refine wpAny_Call_method_late hbase hfew hline rfl (thn (ho pins s σ H _ I h) fun v s1 z0=>?_);obtain⟨x,H1,I1,r1,ty,q1⟩:=z0;obtain⟨h1,h2⟩:=zV2 I1 r1 ty;refine⟨T,id,pa,slot,hty,h1,h2,?_⟩;have hA:=ha cpos pins s1 σ H1 _ I1 q1;rw[hs]at hA ⊢;refine Calls.callWith_builtin (by show(false||(backTo cpos (starEach es X.env)).any (·.1))=false;rw[hplain]<;>rfl) (Calls.evalArgs_plain ?_);exact thn hA fun us s2 ⟨vs,H2,I2,r2,q2⟩=>hm pins s2 σ H2 x vs v us Q I2 r1 r2 q2
end
end L2
namespace L2
open PySem PySem.Spec PyProof.Rows
def MtM(X:Cx)(id:String)(r:V->List V->Hp->VK->Prop):Prop:=
 ∀(pins:List (Addr×Obj))(s:Shared)(σ:St)(H:Hp)(x:V)(xs:List V)(v:Value)(us:List Value)(Q:VK),Inv X pins σ H s->RelV x v->Vals xs us->r x xs H Q ->
  wpAny (model X.prog X.w) X.A (call (.builtin id) (v::us)) (EP X pins σ Q) X.xe s
theorem Vals.one:∀{x:V}{us:List Value},Vals [x] us->∃u,us=[u]/\RelV x u
 |_,_,.cons r .nil=>⟨_,rfl,r⟩
theorem Vals.zero:∀{us:List Value},Vals [] us->us=[]
 |_,.nil=>rfl
theorem Vals.dropLast{xs:List V}{us:List Value}(h:Vals xs us):Vals xs.dropLast us.dropLast:=by
 induction h with
 |nil=>exact .nil
 |cons r t ih=>
  cases t with
  |nil=>exact .nil
  |cons q t'=>exact .cons r ih
theorem Vals.eraseIdx:∀{xs:List V}{us:List Value}(i:Nat),Vals xs us->Vals (xs.eraseIdx i) (us.eraseIdx i)
 |_,_,_,.nil=>.nil
 |_,_,0,.cons _ t=>t
 |_,_,i+1,.cons r t=>.cons r (Vals.eraseIdx i t)
theorem zP5{α:Type}(l:List α):l.eraseIdx (l.length-1)=l.dropLast:=by
 induction l with
 |nil=>rfl
 |cons a r ih=>
  cases r with
  |nil=>rfl
  |cons b r=>
   have e:(a::b::r).length-1=((b::r).length-1)+1:=by
    have h1:(a::b::r).length=r.length+2:=rfl;have h2:(b::r).length=r.length+1:=rfl;omega
   rw[e,qBk,ih]
   all_goals rfl
theorem zG9{α:Type}:∀(l:List α)(i:Nat),(l.eraseIdx i).length<=l.length
 |[],_=>qA7 _
 |_::_,0=>qC6 _
 |_::r,i+1=>qGe (zG9 r i)
section
variable{X:Cx}{pins:List (Addr×Obj)}{σ:St}{H:Hp}{s:Shared}{l b:Addr}{xs ys zs:List V}
theorem Inv.lset{its its':List Value}{n:Nat}{f:Array Value->Array Value}{t':Nat}(I:Inv X pins σ H s)(hH:H l=some (.lst xs))
  (e:s.heap.get? l=some { cls:=.type "list",data:=.seq its.toArray n }) (hf:f its.toArray=its'.toArray) (hv:Vals ys its') (hz:ys.length<=sizeLine) :
  Inv X pins σ (upd H l (.lst ys)) { s with heap:=s.heap.update l (Obj.mapSeq f),toks:=t' }:=by
 have q:=PySem.IsL.update e f;rw[hf]at q;refine I.write (x:=l) (e:=l) (by rw[hH];exact trivial) (.inl rfl) (fun b' u hb hu=>(Heap.get?_update_other s.heap (Obj.mapSeq f) (qCf hb)).trans hu) ⟨_,q⟩ ?_;exact⟨hz,its',_,hv,q⟩
theorem Inv.lnew{its:List Value}{t':Nat}(I:Inv X pins σ H s)(hv:Vals ys its)(hz:ys.length<=sizeLine) :
  Inv X pins σ (upd H s.heap.objs.size (.lst ys)) { s with heap:=s.heap.push { cls:=.type "list",data:=.seq its.toArray },toks:=t' }:=
 I.laid (fun _ _ q=>Heap.get?_push_of_some _ q) (qA7 _) ⟨hz,its,0,hv,Heap.get?_push_size _ rfl⟩
theorem Inv.fresh(I:Inv X pins σ H s):H s.heap.objs.size=none:=I.hok.fresh (qA7 _)
theorem Inv.lstM(I:Inv X pins σ H s)(hH:H l=some (.lst xs)):xs.length<=sizeLine/\∃(its:List Value)(n:Nat),Vals xs its/\xs.length=its.length/\s.heap.get? l=some { cls:=.type "list",data:=.seq its.toArray n }:=by
 obtain⟨z,its,n,r,e⟩:=I.hok l _ hH;exact⟨z,its,n,r,r.length,e⟩
theorem zTN{n:Nat}(h:n<=sizeLine):Builtin.List.listTooLong n=false:=by
 unfold Builtin.List.listTooLong;exact decide_eq_false (by omega)
end
section
variable{X:Cx}
def zX5:V->List V->Hp->VK->Prop:=fun x vs H Q=>∃l xs y,x=.ref l/\vs=[y]/\H l=some (.lst xs)/\xs.length<sizeLine/\Q .non (upd H l (.lst (xs++[y])))
theorem zQX:MtM X "list.append" zX5:=by
 intro pins s σ H x vs v us Q I rx rv h;obtain⟨l,xs,y,rfl,rfl,hH,hz,q⟩:=h;cases rx;obtain⟨u,rfl,ru⟩:=rv.one;obtain⟨z,its,n,r,hl,e⟩:=I.lstM hH;refine call_meets F.slot_list_append ⟨_,e,rfl⟩ F.entry_list_append (F.args_list_append_2 _ _) (PySem.list_append l its.toArray n u (by rw[qAc];omega)) ⟨e,?_⟩;refine⟨.non,_,I.lset (its':=its++[u]) hH e (by simp) (r.append (.cons ru .nil)) ?_,rfl,q⟩;rw[qAl,qDo];omega
def zX3:V->List V->Hp->VK->Prop:=fun x vs H Q=>∃l b xs zs,x=.ref l/\vs=[.ref b]/\H l=some (.lst xs)/\H b=some (.lst zs)/\xs.length+zs.length<=sizeLine/\Q .non (upd H l (.lst (xs++zs)))
theorem zQV:MtM X "list.extend" zX3:=by
 intro pins s σ H x vs v us Q I rx rv h;obtain⟨l,b,xs,zs,rfl,rfl,hH,hB,hz,q⟩:=h;cases rx;obtain⟨u,rfl,ru⟩:=rv.one;cases ru;obtain⟨z,its,n,r,hl,e⟩:=I.lstM hH;obtain⟨z2,its2,n2,r2,hl2,e2⟩:=I.lstM hB;have hsz:its.toArray.size+its2.toArray.size<=sizeLine:=by rw[qAc,qAc];omega
 have hlong:¬(!its.toArray.isEmpty&&Builtin.List.listTooLong (its.toArray.size+its2.toArray.size))=true:=by
  rw[zTN hsz,qCu];exact qAe
 refine call_meets F.slot_list_extend ⟨_,e,rfl⟩ F.entry_list_extend (F.args_list_extend_2 _ _)
  (AutoSeq1.list_extend_list_list_0 l its.toArray n b its2.toArray n2 hlong (by rw[qAc];omega) (by omega)) ⟨e,e2,?_⟩
 refine⟨.non,_,I.lset (its':=its++its2) hH e (by simp) (r.append r2) ?_,rfl,q⟩;rw[qAl];omega
def rPop:V->List V->Hp->VK->Prop:=fun x vs H Q=>∃l xs y,x=.ref l/\vs=[]/\H l=some (.lst xs)/\xs[xs.length-1]?=some y/\Q y (upd H l (.lst xs.dropLast))
theorem zaL:MtM X "list.pop" rPop:=by
 intro pins s σ H x vs v us Q I rx rv h;obtain⟨l,xs,y,rfl,rfl,hH,hy,q⟩:=h;cases rx;have hus:=rv.zero;subst hus;obtain⟨z,its,n,r,hl,e⟩:=I.lstM hH;obtain⟨u,hu,ru⟩:=r.get hy;have hy':its.toArray[its.toArray.size-1]?=some u:=by
  show its.toArray[its.length-1]?=some u;rw[<- qB6,<- hl];exact hu
 refine call_meets F.slot_list_pop ⟨_,e,rfl⟩ F.entry_list_pop (F.args_list_pop_1 _) (MeetsSeq.list_pop_last l its.toArray n u hy' (by rw[qAc];omega)) ⟨e,?_⟩;refine⟨y,_,I.lset (its':=its.dropLast) hH e ?_ r.dropLast ?_,ru,q⟩
 ·show its.toArray.eraseIdxIfInBounds (its.toArray.size-1)=its.dropLast.toArray;rw[qAc,qDi,zP5]
 ·rw[List.length_dropLast];omega
def zZZ:V->List V->Hp->VK->Prop:=fun x vs H Q=>∃l xs i k y,x=.ref l/\vs=[.int i]/\H l=some (.lst xs)/\-(2 ^ 63)<=i/\i<2 ^ 63/\seqIndex? i xs.length=some k/\xs[k]?=some y/\Q y (upd H l (.lst (xs.eraseIdx k)))
theorem zTO:MtM X "list.pop" zZZ:=by
 intro pins s σ H x vs v us Q I rx rv h;obtain⟨l,xs,i,k,y,rfl,rfl,hH,h1,h2,hk,hy,q⟩:=h;cases rx;obtain⟨u,rfl,ru⟩:=rv.one;obtain⟨t,rfl⟩:=ru;obtain⟨z,its,n,r,hl,e⟩:=I.lstM hH;obtain⟨w,hw,rw'⟩:=r.get hy;refine call_meets F.slot_list_pop ⟨_,e,rfl⟩ F.entry_list_pop (F.args_list_pop_2 _ _)
  (MeetsSeq.list_pop_at l its.toArray n i t k w (fitsIndex_both h1 h2) (by rw[qAc,<- hl];exact hk) (by rw[<- qB6];exact hw) (by rw[qAc];omega)) ⟨e,?_⟩
 refine⟨y,_,I.lset (its':=its.eraseIdx k) hH e ?_ (r.eraseIdx k) ?_,rw',q⟩
 ·show its.toArray.eraseIdxIfInBounds k=(its.eraseIdx k).toArray;rw[qDi]
 ·have:=zG9 xs k
  omega
def rCat:R2:=fun x y H Q=>∃l b xs zs,x=.ref l/\y=.ref b/\H l=some (.lst xs)/\H b=some (.lst zs)/\xs.length+zs.length<=sizeLine/\∀p,H p=none->Q (.ref p) (upd H p (.lst (xs++zs)))
theorem zaH:OpR X (binaryOp .Add) rCat:=by
 intro pins s σ H x y v u Q I rx ry h;obtain⟨l,b,xs,zs,rfl,rfl,hH,hB,hz,q⟩:=h;cases rx;cases ry;obtain⟨z,its,n,r,hl,e⟩:=I.lstM hH;obtain⟨z2,its2,n2,r2,hl2,e2⟩:=I.lstM hB;refine PySem.P.add_list e e2 ?_ (by rw[qAc,qAc];omega);have ea:its.toArray++its2.toArray=(its++its2).toArray:=by simp
 rw[ea];exact⟨.ref _,_,I.lnew (t':=s.toks) (r.append r2) (by rw[qAl];omega),rfl,q _ I.fresh⟩
end
section
variable{prog:Program}{w:World}{A:Around}{E:Value->Shared->Prop}{s:Shared}
end
section
variable{X:Cx}
end
end L2
namespace L2
open PySem PySem.Spec PyProof.Rows
section
variable{κ:Type}[DecidableEq κ]
noncomputable def valV(kvs:List (κ×V))(k:κ):Option V:=(kvs.find? fun kv=>decide (kv.1=k)).map (·.2)
noncomputable def putK(kvs:List (κ×V))(k:κ)(v:V):List (κ×V):=
 if(kvs.any fun kv=>decide (kv.1=k))=true then kvs.map (fun kv=>if kv.1=k then(kv.1,v)else kv)else kvs++[(k,v)]
noncomputable def zbE(kvs:List (κ×V))(k:κ):List (κ×V):=kvs.filter fun kv=>decide (kv.1≠k)
theorem zHJ{p:κ×V}{r:List (κ×V)}{k:κ}(e:p.1=k):valV (p::r) k=some p.2:=by simp[valV,qCa,e]
theorem zHK{p:κ×V}{r:List (κ×V)}{k:κ}(e:¬p.1=k):valV (p::r) k=valV r k:=by simp[valV,qCa,e]
theorem zMO(k:κ):∀kvs:List (κ×V),(kvs.any fun kv=>decide (kv.1=k))=(valV kvs k).isSome
 |[]=>rfl
 |p::r=>by
  rw[qC2]
  by_cases e:p.1=k
  ·simp only[zHJ e,decide_eq_true e,Bool.true_or,qFt]
  ·rw[zHK e,decide_eq_false e,Bool.false_or];exact zMO k r
theorem zG8(kvs:List (κ×V))(k:κ)(v:V):(putK kvs k v).length<=kvs.length+1:=by
 unfold putK
 split
 ·rw[qAm];omega
 ·rw[qAl,qAu,qEz];omega
theorem RelO.isSome_eq{o:Option V}{u:Option Value}(r:RelO o u):o.isSome=u.isSome:=by
 cases o with
 |none=>cases u with
  |none=>rfl
  |some _=>exact(show False from r).elim
 |some _=>cases u with
  |none=>exact(show False from r).elim
  |some _=>rfl
theorem KV.val{kvs:List (κ×V)}{vs:List (κ×Value)}(r:KV kvs vs)(k:κ):RelO (valV kvs k) (valueAt vs k):=by
 unfold KV at r
 induction r with
 |nil=>exact qCx
 |@cons p q ps qs h t ih=>
  obtain⟨h1,h2⟩:=h
  by_cases e:p.1=k
  ·have e':q.1=k:=h1.symm.trans e;have b:valueAt (q::qs) k=some q.2:=by simp[valueAt,qCa,e']
   rw[zHJ e,b];exact h2
  ·have e':¬q.1=k:=fun z=>e (h1.trans z)
   have b:valueAt (q::qs) k=valueAt qs k:=by simp[valueAt,qCa,e']
   rw[zHK e,b];exact ih
theorem KV.any{kvs:List (κ×V)}{vs:List (κ×Value)}(r:KV kvs vs)(k:κ):(kvs.any fun kv=>decide (kv.1=k))=vs.any fun kv=>decide (kv.1=k):=by
 unfold KV at r
 induction r with
 |nil=>rfl
 |cons h t ih=>rw[qC2,qC2,ih,h.1]
theorem KV.repl{kvs:List (κ×V)}{vs:List (κ×Value)}(r:KV kvs vs)(k:κ){y:V}{u:Value}(ry:RelV y u) :
  KV (kvs.map fun kv=>if kv.1=k then(kv.1,y)else kv) (vs.map fun kv=>if kv.1=k then(kv.1,u)else kv):=by
 unfold KV at r ⊢
 induction r with
 |nil=>exact .nil
 |@cons p q ps qs h t ih=>
  rw[qAi,qAi];refine .cons ?_ ih;obtain⟨h1,h2⟩:=h
  by_cases e:p.1=k
  ·rw[if_pos e,if_pos (h1.symm.trans e)];exact⟨h1,ry⟩
  ·rw[if_neg e,if_neg (fun z=>e (h1.trans z))];exact⟨h1,h2⟩
theorem KV.put{kvs:List (κ×V)}{vs:List (κ×Value)}(r:KV kvs vs)(k:κ){y:V}{u:Value}(ry:RelV y u):KV (putK kvs k y) (stored vs k u):=by
 unfold putK stored;rw[r.any k]
 by_cases e:(vs.any fun kv=>decide (kv.1=k))=true
 ·rw[if_pos e,if_pos e];exact r.repl k ry
 ·rw[if_neg e,if_neg e];exact Paired.snoc r ⟨rfl,ry⟩
theorem KV.drop{kvs:List (κ×V)}{vs:List (κ×Value)}(r:KV kvs vs)(k:κ):KV (zbE kvs k) (without vs k):=by
 unfold KV at r ⊢;unfold zbE without
 induction r with
 |nil=>exact .nil
 |@cons p q ps qs h t ih=>
  obtain⟨h1,h2⟩:=h;rw[qEp,qEp]
  by_cases e:p.1=k
  ·have a:¬decide (p.1≠k)=true:=by simp[e]
   have b:¬decide (q.1≠k)=true:=by simp[h1.symm.trans e]
   rw[if_neg a,if_neg b];exact ih
  ·have e':¬q.1=k:=fun z=>e (h1.trans z)
   have a:decide (p.1≠k)=true:=by simp[e]
   have b:decide (q.1≠k)=true:=by simp[e']
   rw[if_pos a,if_pos b];exact .cons ⟨h1,h2⟩ ih
theorem KV.length{kvs:List (κ×V)}{vs:List (κ×Value)}(r:KV kvs vs):kvs.length=vs.length:=Paired.length r
end
theorem zXW{P:Program}{w:World}{k:Key}{u:Value}(r:RelV (kV k) u):(zBF P w).is k u=true:=by
 cases k with
 |inl i=>obtain⟨t,e⟩:=(show ∃t,u=Value.int i t from r);subst e;exact zLS P w i t
 |inr x=>obtain⟨t,e⟩:=(show ∃t,u=Value.str x t from r);subst e;exact zLR P w x t
theorem zK9{P:Program}{w:World}:∀{ks:List Key}{us:List Value},Vals (ks.map kV) us->ItemsAre (zBF P w) ks us
 |[],_,r=>by rw[qHr]at r;cases r;exact .nil
 |k::ks,_,r=>by
  rw[qAi]at r;cases r with
  |cons h t=>exact .cons (zXW h) (zK9 t)
abbrev KT(H:Hp):List (List Key×V)->List (List Key×Addr×Value)->Prop:=Paired fun p q=>p.1=q.1/\H q.2.1=some (.tup (p.1.map kV))/\RelV p.2 q.2.2
theorem KT.val{H:Hp}{kvs:List (List Key×V)}{xs:List (List Key×Addr×Value)}(r:KT H kvs xs)(k:List Key):RelO (valV kvs k) ((atKey xs k).map (·.2)):=by
 induction r with
 |nil=>exact qCx
 |@cons p q ps qs h t ih=>
  obtain⟨h1,_,h2⟩:=h
  by_cases e:p.1=k
  ·have e':q.1=k:=h1.symm.trans e;have b:atKey (q::qs) k=some q.2:=by simp[atKey,qCa,e']
   rw[zHJ e,b];exact h2
  ·have e':¬q.1=k:=fun z=>e (h1.trans z)
   have b:atKey (q::qs) k=atKey qs k:=by simp[atKey,qCa,e']
   rw[zHK e,b];exact ih
theorem KT.repl{H:Hp}{kvs:List (List Key×V)}{xs:List (List Key×Addr×Value)}(r:KT H kvs xs)(k:List Key){y:V}{u:Value}(ry:RelV y u) :
  KT H (kvs.map fun kv=>if kv.1=k then(kv.1,y)else kv) (xs.map (putAt k u)):=by
 induction r with
 |nil=>exact .nil
 |@cons p q ps qs h t ih=>
  rw[qAi,qAi];refine .cons ?_ ih;obtain⟨h1,h2,h3⟩:=h;unfold putAt
  by_cases e:p.1=k
  ·rw[if_pos e,if_pos (h1.symm.trans e)];exact⟨h1,h2,ry⟩
  ·rw[if_neg e,if_neg (fun z=>e (h1.trans z))];exact⟨h1,h2,h3⟩
theorem KT.put{H:Hp}{kvs:List (List Key×V)}{xs:List (List Key×Addr×Value)}(r:KT H kvs xs)(k:List Key){b:Addr}{y:V}{u:Value}(hb:H b=some (.tup (k.map kV)))(ry:RelV y u) :
  KT H (putK kvs k y) (storedH xs k b u):=by
 have e:(kvs.any fun kv=>decide (kv.1=k))=(atKey xs k).isSome:=by
  rw[zMO,(r.val k).isSome_eq,Option.isSome_map]
 unfold putK storedH;rw[e]
 by_cases q:(atKey xs k).isSome=true
 ·rw[if_pos q,if_pos q];exact r.repl k ry
 ·rw[if_neg q,if_neg q];exact Paired.snoc r ⟨rfl,hb,ry⟩
theorem KT.keeps{H H':Hp}{kvs:List (List Key×V)}{xs:List (List Key×Addr×Value)}(r:KT H kvs xs)(ht:∀b ys,H b=some (.tup ys)->H' b=some (.tup ys)):KT H' kvs xs:=
 Paired.mapP r fun _ _ z=>⟨z.1,ht _ _ z.2.1,z.2.2⟩
section
variable{P:Program}{w:World}{H:Hp}{h:Heap}{a:Addr}
theorem zZU{u:HO}(ok:HOk P w H h)(e:Rd H a u):ObjOk P w H h a u:=e.ok ok
theorem zYJ{kvs:List (Key×V)}(ok:HOk P w H h)(e:Rd H a (.dK kvs)):kvs.length<=sizeLine/\(a==sysModules)=false/\∃vs,KV kvs vs/\h.DictOf (zBF P w) a vs:=
 show ObjOk P w H h a (.dK kvs) from zZU ok e
theorem zd1{kvs:List (Key×V)}(ok:HOk P w H h)(e:H a=some (.dK kvs)):kvs.length<=sizeLine/\(a==sysModules)=false/\∃vs,KV kvs vs/\h.DictOf (zBF P w) a vs:=zYJ ok (.inl e)
theorem zR5{ks:List Key}(ok:HOk P w H h)(e:H a=some (.tup (ks.map kV))):(tupleKind (zBF P w)).is h ks a:=by
 obtain⟨_,its,r,o,h1,h2,n,h3⟩:=(show ObjOk P w H h a (.tup (ks.map kV)) from ok a _ e)
 exact⟨o,its.toArray,n,h1,h2,h3,by simpa using zK9 r⟩
theorem zYE{kvs:List (List Key×V)}(ok:HOk P w H h)(e:Rd H a (.dT kvs)):kvs.length<=sizeLine/\(a==sysModules)=false /\
  ∃xs,KT H kvs xs/\h.DictOfH (tupleKind (zBF P w)) a xs:=by
 obtain⟨z,y,xs,r,o,es,ep,h1,h2,h3,h4,h5⟩:=(show ObjOk P w H h a (.dT kvs) from zZU ok e)
 refine⟨z,y,xs,r,o,es,ep,h1,h2,h3,h4,fun x hx=>?_,h5⟩;have all:∀{l:List (List Key×V)}{m:List (List Key×Addr×Value)},KT H l m->∀x∈m,(tupleKind (zBF P w)).is h x.1 x.2.1:=by
  intro l m q
  induction q with
  |nil=>intro x hx;exact nomatch hx
  |@cons p q ps qs hq t ih=>
   intro x hx
   rcases qAb.mp hx with e|hx
   ·subst e;exact zR5 ok (by rw[<- hq.1];exact hq.2.1)
   ·exact ih x hx
 exact all r x hx
theorem zcZ{kvs:List (List Key×V)}(ok:HOk P w H h)(e:H a=some (.dT kvs)):kvs.length<=sizeLine/\(a==sysModules)=false /\
  ∃xs,KT H kvs xs/\h.DictOfH (tupleKind (zBF P w)) a xs:=zYE ok (.inl e)
end
def DGet(H:Hp)(a:Addr)(y:V)(r:Option V):Prop:=
 (∃kvs k,Rd H a (.dK kvs)/\y=kV k/\r=valV kvs k)\/∃kvs k b,Rd H a (.dT kvs)/\y=.ref b/\H b=some (.tup (k.map kV))/\r=valV kvs k
def DPut(H:Hp)(a:Addr)(y v:V)(H':Hp):Prop:=
 (∃kvs k,H a=some (.dK kvs)/\y=kV k/\kvs.length<sizeLine/\H'=upd H a (.dK (putK kvs k v))) \/
 ∃kvs k b,H a=some (.dT kvs)/\y=.ref b/\H b=some (.tup (k.map kV))/\kvs.length<sizeLine/\H'=upd H a (.dT (putK kvs k v))
theorem DGet.k{H:Hp}{a:Addr}{kvs:List (Key×V)}{k:Key}(e:H a=some (.dK kvs)):DGet H a (kV k) (valV kvs k):=.inl ⟨kvs,k,.inl e,rfl,rfl⟩
theorem DPut.k{H:Hp}{a:Addr}{kvs:List (Key×V)}{k:Key}{v:V}(e:H a=some (.dK kvs))(hl:kvs.length<sizeLine):DPut H a (kV k) v (upd H a (.dK (putK kvs k v))):=.inl ⟨kvs,k,e,rfl,hl,rfl⟩
section
variable{X:Cx}{pins:List (Addr×Obj)}{σ:St}{H:Hp}{s:Shared}{a:Addr}{y v:V}{u r:Value}{o:Option V}{A:Around}{E:Value->Shared->Prop}
theorem Inv.big(I:Inv X pins σ H s):sysModules<s.heap.objs.size:=by
 have h:mainGlobals<s.heap.objs.size:=(I.mod.glob.keeps I.bk).lt;exact Nat.lt_trans (by decide) h
theorem zS3{Q:Value->Shared->Prop}(hu:A.units+1<cLine)(I:Inv X pins σ H s)(g:DGet H a y (some v))(ry:RelV y u)(h:∀w' s',Inv X pins σ H s'->RelV v w'->Q w' s') :
  wpAny (model X.prog X.w) A (getItem (.ref a) u) Q E s:=by
 rcases g with⟨kvs,k,e,ey,l⟩|⟨kvs,k,b,e,ey,eb,l⟩
 ·subst ey;obtain⟨z,hd,vs,rel,dd⟩:=zYJ I.hok e;obtain⟨w',hw,rw'⟩:=RelO.some_of (v:=v) (o:=valueAt vs k) (by rw[l];exact rel.val k);exact wpAny_getItem_of (zXW ry) dd.mapOf hw (h w' _ (I.tok _) rw')
 ·subst ey
  cases(show u=Value.ref b from ry)
  obtain⟨z,hd,xs,rel,dd⟩:=zYE I.hok e;obtain⟨w',hw,rw'⟩:=RelO.some_of (v:=v) (o:=(atKey xs k).map (·.2)) (by rw[l];exact rel.val k);obtain⟨p,hp,hp2⟩:=qDd.mp hw;refine wpAny_getItem_heap (tupleKind_room_in1 hu) (zR5 I.hok eb) dd hp ?_;rw[hp2];exact h w' _ (I.tok _) rw'
theorem zS1{h':Heap}{t':Nat}{ob:HO}(I:Inv X pins σ H s)(mu:Mut (H a))(hs:Heap.SameBut a s.heap h')(he:∃q,h'.get? a=some q)(new:ObjOk X.prog X.w (upd H a ob) h' a ob) :
  Inv X pins σ (upd H a ob) { s with heap:=h',toks:=t' }:=
 I.write (x:=a) (e:=a) mu (.inl rfl) (fun b q hb z=>(hs.2 b hb).trans z) he new
theorem zbF{P:Program}{w:World}{H':Hp}{h':Heap}{kvs:List (Key×V)}{vs:List (Key×Value)}(z:kvs.length<=sizeLine)(hd:(a==sysModules)=false)(rel:KV kvs vs)(dd:h'.DictOf (zBF P w) a vs) :
  ObjOk P w H' h' a (.dK kvs):=⟨z,hd,vs,rel,dd⟩
theorem zS2{H':Hp}{Q:Unit->Shared->Prop}(hu:A.units+1<cLine)(I:Inv X pins σ H s)(g:DPut H a y v H')(ry:RelV y u)(rv:RelV v r)(h:∀s',Inv X pins σ H' s'->Q () s') :
  wpAny (model X.prog X.w) A (setItem (.ref a) u r) Q E s:=by
 rcases g with⟨kvs,k,e,ey,l,eH⟩|⟨kvs,k,b,e,ey,eb,l,eH⟩
 ·subst ey eH;obtain⟨z,hd,vs,rel,dd⟩:=zd1 I.hok e;have hz:vs.length<=sizeLine:=by rw[<- rel.length];exact z
  have hl:(putK kvs k v).length<=sizeLine:=by have:=zG8 kvs k v;omega
  refine wpAny_setItem_pairs (hsz:=hz) (zXW ry) dd fun h' dd' hs=>h _ ?_
  have he:∃q,h'.get? a=some q:=let⟨q,_,_,hq,_⟩:=dd';⟨q,hq⟩
  exact zS1 I (by rw[e];exact qCx) hs he (zbF hl hd (rel.put k rv) dd')
 ·subst ey eH
  cases(show u=Value.ref b from ry)
  obtain⟨z,hd,xs,rel,dd⟩:=zcZ I.hok e;have hz:xs.length<=sizeLine:=by rw[<- Paired.length rel];exact z
  have hl:(putK kvs k v).length<=sizeLine:=by have:=zG8 kvs k v;omega
  refine wpAny_setItem_heap (hsz:=hz) (tupleKind_room_in1 hu) (zR5 I.hok eb) dd fun h' dd' hs=>h _ ?_
  obtain⟨q,es,ep,hq,h2,h3,h4,_,h5⟩:=dd';refine zS1 I (by rw[e];exact qCx) hs ⟨q,hq⟩ ⟨hl,hd,_,(rel.put k eb rv).keeps fun c ys ec=>?_,q,es,ep,hq,h2,h3,h4,h5⟩;rw[zAE (zXK ec e (fun z=>nomatch z))];exact ec
end
section
variable{X:Cx}{pins:List (Addr×Obj)}{σ:St}{H:Hp}{s:Shared}{a:Addr}{kvs:List (Key×V)}{k:Key}{u:Value}{A:Around}{E:Value->Shared->Prop}
end
def NoSl(i:Expr):Prop:=∀ov iv,subscripted i false ov iv=operate [ov,iv] (getItem ov iv)
theorem zWU{prog:Program}{w:World}{A:Around}{E:Value->Shared->Prop}{s:Shared}{env:Env}{value slice:Expr}{pos:Pos}{T id:String}{Q:Value->Shared->Prop}
  (hl:typeLookup (.type T) "__getitem__" = pure (some (.builtin id))) (hs:NoSl slice)
  (h:wpAny (model prog w) A (eval value env) (fun o s₁=>wpAny (model prog w) A (eval slice env) (fun i s₂=>s₂.TypeIs o T/\wpAny (model prog w) A (getItem o i) Q E s₂) E s₁) E s) :
  wpAny (model prog w) A (eval (.Subscript value slice pos) env) Q E s:=by
 refine Subscript_ (wpAny_mono h (fun o s₁ h₁=>wpAny_mono h₁ (fun i s₂ h₂=>?_) fun _ _ x=>x) fun _ _ x=>x);obtain⟨hT,h₂⟩:=h₂;unfold subscriptTail;refine wpAny_bind ?_;rw[getitemInPython_of_ne hT.not_modules];refine wpAny_bind (wpAny_specialOf hT hl ?_);have fin:wpAny (model prog w) A (subscripted slice false o i) (fun r s₃=>wpAny (model prog w) A (letTemporaryGo value o r >>= fun _=>pure r) Q E s₃) E s₂:=by
  rw[hs o i];exact wpAny_operating (wpAny_mono h₂ (fun r s₃ h₃=>wpAny_bind (wpAny_letTemporaryGo (wpAny_pure h₃))) fun _ _ x=>x)
 first
  |exact wpAny_pure (wpAny_bind fin)
  |exact wpAny_bind (wpAny_pure (wpAny_bind fin))
  |exact wpAny_bind fin
theorem zM9{X:Cx}{pins:List (Addr×Obj)}{σ:St}{H:Hp}{s:Shared}{a:Addr}{y:V}{o:Option V}(I:Inv X pins σ H s)(g:DGet H a y o):s.TypeIs (.ref a) "dict":=by
 rcases g with⟨kvs,k,e,_,_⟩|⟨kvs,k,b,e,_,_,_⟩
 ·obtain⟨_,_,vs,_,dd⟩:=zYJ I.hok e;exact dd.typeIs
 ·obtain⟨_,_,xs,_,dd⟩:=zYE I.hok e;exact dd.typeIs
noncomputable def zZH(td ty:TE):TE:=fun σ H Q=>td σ H fun x H1=>ty σ H1 fun y H2=>∃a v,x=.ref a/\DGet H2 a y (some v)/\Q v H2
noncomputable def zZM(td ty tv:TE):TS:=fun D σ H=>tv σ H fun v H1=>td σ H1 fun x H2=>ty σ H2 fun y H3=>∃a H4,x=.ref a/\DPut H3 a y v H4/\D.nx σ H4
section
variable{X:Cx}{o i e value:Expr}{pos pos' tpos:Pos}{td ty tv:TE}
theorem zLI(hu:X.A.units+1<cLine)(ho:PE X o td)(hi:PE X i ty)(hs:NoSl i):PE X (.Subscript o i pos) (zZH td ty):=by
 intro pins s σ H Q I h;refine zWU PySem.F.slot_dict_getitem.lookup hs (thn (ho pins s σ H _ I h) fun u s1 ⟨x,H1,I1,rx,q1⟩=>thn (hi pins s1 σ H1 _ I1 q1) fun iv s2 ⟨y,H2,I2,ry,a,v,ex,g,q2⟩=>?_);subst ex;obtain rfl:u=Value.ref a:=rx;exact⟨zM9 I2 g,zS3 hu I2 g ry fun w' s3 I3 rw'=>⟨v,H2,I3,rw',q2⟩⟩
theorem zLG(hu:X.A.units+1<cLine)(ho:PE X o td)(hi:PE X i ty)(hv:PE X value tv)(hs:swapsWith value (some (.Subscript o i pos')) pos.line X.env=pure false) :
  PS X (.Assign [.Subscript o i pos'] value pos) (zZM td ty tv):=by
 intro pins s σ H D I h;refine wpAny_Assign_Subscript (thn (hv pins s σ H _ I h) fun r s1 ⟨v,H1,I1,rv,q1⟩=>thn (ho pins s1 σ H1 _ I1 q1) fun u s2 ⟨x,H2,I2,rx,q2⟩=>thn (hi pins s2 σ H2 _ I2 q2) fun iv s3 ⟨y,H3,I3,ry,a,H4,ex,g,q3⟩=>?_) hs;subst ex;obtain rfl:u=Value.ref a:=rx;exact zS2 hu I3 g ry rv fun s4 I4=>⟨σ,H4,I4,q3⟩
end
theorem zUK{P:Program}{w:World}{H:Hp}(h:Heap)(hb:sysModules<h.objs.size):ObjOk P w H (h.push { cls:=.type "dict",data:=.dict #[] }) h.objs.size (.dK []):=
 ⟨qAk _,beq_eq_false_iff_ne.mpr (qCf (qAn hb)),[],.nil,Heap.DictOf.new h⟩
def zV5:TE:=fun _ H Q=>∀p,H p=none->Q (.ref p) (upd H p (.dK []))
section
variable{X:Cx}{pos:Pos}
theorem zNB:PE X (.Dict [] [] pos) zV5:=fun pins s σ H Q I h=>
 wpAny_Dict_empty ⟨.ref s.heap.objs.size,_,I.laid (a:=s.heap.objs.size) (o:=.dK []) (t':=s.toks) (fun _ _ q=>Heap.get?_push_of_some _ q) (qA7 _) (zUK s.heap I.big),rfl,h _ (I.hok.fresh (qA7 _))⟩
end
structure M1(X:Cx)(o:Expr)(m:Str)(apos:Pos)(e:Expr)(cpos:Pos):Prop where
 base:attributeBase o m X.env (eval o X.env)=eval o X.env
 few:((backTo cpos (starEach [e] X.env)).all (fun x=>!x.1)&&(backToKw cpos (keywordEach [] X.env)).all (fun x=>x.1.isSome)
  && decide (([e]:List Expr).length+([]:List Keyword).length+(if([]:List Keyword).isEmpty then 0 else 1)<30))=true
 line:(apos.endLine==cpos.line)=true
 trees:backTo cpos (starEach [e] X.env)=[(false,eval e X.env)]
structure M2(X:Cx)(o:Expr)(m:Str)(apos:Pos)(e f:Expr)(cpos:Pos):Prop where
 base:attributeBase o m X.env (eval o X.env)=eval o X.env
 few:((backTo cpos (starEach [e,f] X.env)).all (fun x=>!x.1)&&(backToKw cpos (keywordEach [] X.env)).all (fun x=>x.1.isSome)
  && decide (([e,f]:List Expr).length+([]:List Keyword).length+(if([]:List Keyword).isEmpty then 0 else 1)<30))=true
 line:(apos.endLine==cpos.line)=true
 trees:backTo cpos (starEach [e,f] X.env)=[(false,eval e X.env),(false,eval f X.env)]
section
variable{X:Cx}{pins:List (Addr×Obj)}{σ:St}{H:Hp}{s:Shared}{a:Addr}{y d:V}{u r:Value}{o:Option V}{A:Around}{E:Value->Shared->Prop}
end
section
variable{X:Cx}{o e f:Expr}{apos cpos:Pos}{td ty tx:TE}
end
section
variable{X:Cx}{pins:List (Addr×Obj)}{σ:St}{H:Hp}{s:Shared}{a:Addr}{kvs:List (Key×V)}{A:Around}{E:Value->Shared->Prop}
end
section
variable{X:Cx}{pins:List (Addr×Obj)}{σ:St}{H:Hp}{s:Shared}{a:Addr}{y:V}{u:Value}{A:Around}{E:Value->Shared->Prop}
end
end L2
namespace Att
open PySem PySem.W PySem.Calls PyProof.Rows
theorem zGE{P:Params}{h:Heap}:∀(ns:List Int)(vs:List Value),WellAll P h vs (ns.map WData.int)->IntsAre vs ns:=by
 intro ns
 induction ns with
 |nil=>
  intro vs w;rw[qHr]at w;cases w;exact .nil
 |cons n ns ih=>
  intro vs w;rw[qAi]at w;cases w with
  |cons a b=>
   cases a;exact .cons _ _ (ih _ b)
theorem zQ1{l:OpenLaw}{n:Nat}(hn:l.most=some n){P:Params}{h:Heap}{args:List WData}{vals:List Value}
  (hpre:l.row.toRowW.claim.pre args=true) (hwl:WellAll P h vals args) :
  ∃a vs ns,vals=[Value.ref a]/\args=[WData.list (ns.map WData.int)]/\h.get? a=some { cls:=.type "list",data:=.seq vs.toArray }/\IntsAre vs ns/\ns.length<=n:=by
 have hsh:WShape.hasAll [] args [.list .int]=true:=(pre_splitW hpre).1;have hc:l.pre.holds [] { args:=args }=true:=(pre_splitW hpre).2;obtain⟨d,r,rfl,h1,h2⟩:=hasAllW_cons hsh;obtain rfl:=hasAllW_nil h2;obtain⟨xs,rfl,h3⟩:=hasW_list h1;obtain⟨ns,rfl⟩:=items_int h3;have hlen:ns.length<=n:=by
  unfold OpenLaw.pre at hc;have h4:(WTm.not (.lt (.lit (.int (n:Int))) (.len (.arg 0)))).holds [] { args:=[.list (ns.map .int)] }=true:=by
   have h4:=(holds_andW hc).1;rw[hn]at h4;exact h4
  have h5:=condW_of h4 (w_not (w_lt w_lit (w_len_list (w_arg rfl))));rw[qAm]at h5;refine Nat.le_of_not_lt fun q=>?_
  have q':(n:Int)<((ns.length:Nat):Int):=by omega
  first
   |(rw[decide_eq_true q']at h5;exact absurd h5 (by decide))
   |(simp at h5;omega)
 cases hwl with
 |cons w1 w2=>
  cases w2;cases w1 with
  |list ho hall=>exact⟨_,_,ns,rfl,rfl,ho,zGE ns _ hall,hlen⟩
theorem zQA(l:OpenLaw)(args:List WData):l.row.toRowW.claim.post args (.bool true) args=true:=
 postW_of (r:=l.row.toRowW) (X:=(true==true))
  (show WShape.has [] (.bool true) .bool=true by first|rfl|decide|simp[WShape.has,WShape.arms,WShape.armsAll])
  (show(WTm.eq .res (.lit (.bool true))).value [] { args:=args,res:=some (.bool true),after:=args }=some (.bool (true==true)) from w_eq_bool (w_res rfl) w_lit) rfl
section
variable{prog:Program}{w:World}{A:Around}{E:Value->Shared->Prop}{s:Shared}{K:Frag}
end
end Att
namespace L2
open PySem PySem.Spec PyProof.Rows
theorem zJ7:∀{vs:List Value}{ns:List Int},IntsAre vs ns->Vals (ns.map V.int) vs
 |_,_,.nil=>.nil
 |_,_,.cons n t h=>.cons ⟨t,rfl⟩ (zJ7 h)
def Only(H:Hp):Prop:=∀b,H b=none\/∃o xs,H b=some (.frz o (.lst xs))
theorem zTW{P:Program}{w:World}{K:qA1}{mg mb:Str->Option Value}{CX:CXT}{k:Nat}{fa a:Addr}{fd:FuncData}{x:Str}{sp:Sp}{s₁:Shared}{vs:List Value}{ns:List Int}
  (KX:K.In s₁.heap) (hns:s₁.heap.Ns mainGlobals mg) (hb:s₁.heap.Ns builtinsNs mb) (hbb:∀x:Str,x≠"__name__"->mb x=bootBuiltins x) (hlim:s₁.heap.NoLimit) (hg:s₁.gens=#[])
  (ha:s₁.heap.get? a=some { cls:=.type "list",data:=.seq vs.toArray }) (hi:IntsAre vs ns) (hl:ns.length<=sizeLine) (hr:Room k callerA)
  (F:∀base:Heap,K.In base->base.Ns mainGlobals mg->FnOk P w K mg base CX k fa fd [x] sp) (hbind:∀(s:Shared)(u:Value),BindsTo s fd ⟨[u],[]⟩ [(x,u)])
  (hsp:∀H:Hp,Only H->SqL K H a (ns.map V.int)->sp [.ref a] H (fun v _=>v=.bl true) fun _ _ _=>False)
  (hCX:∀H e s',CX [] H s₁ (fun _ _ _=>False) e s'->False) :
  codeAny (model P w) callerA (.call (.ref fa) ⟨[.ref a],[]⟩) (fun r s'=>r=.ok (.ret (.bool true))/\OldK s₁.heap s'.heap/\s'.os=s₁.os/\AllBare s'.gens) s₁:=by
 have rv:=zJ7 hi;have lenV:=hi.length;have core:∀H:Hp,Only H->SqL K H a (ns.map V.int)->HOk P w H s₁.heap->(∀b,H b≠none->b=a)->(H a≠none->K.lookup a=none) ->
   codeAny (model P w) callerA (.call (.ref fa) ⟨[.ref a],[]⟩) (fun r s'=>r=.ok (.ret (.bool true))/\OldK s₁.heap s'.heap/\s'.os=s₁.os/\AllBare s'.gens) s₁:=by
  intro H hO hS hok hA hK;have base_of:∀{b:Addr}{o:Obj},s₁.heap.get? b=some o->H b=none->(hidT s₁.heap H).get? b=some o:=fun e n=>zU7 e n
  have noA:∀{b:Addr}{o:Obj}{es:Array DictEntry}{ep:Nat},s₁.heap.get? b=some o->o.data=.dict es ep->H b=none:=fun{b o es ep} e d=>by
   cases q:H b with
   |none=>rfl
   |some u=>
    have e':b=a:=hA b (by rw[q];simp);subst e';rw[ha]at e;cases e;have d':Data.seq vs.toArray _=Data.dict es ep:=d;cases d'
  have nsK:∀{b:Addr}{m:Str->Option Value},s₁.heap.Ns b m->(hidT s₁.heap H).Ns b m:=fun{b m} ⟨o,es,ep,e,d,r⟩=>⟨o,es,ep,base_of e (noA e d),d,r⟩
  have hKb:K.In (hidT s₁.heap H):=fun b o e=>base_of (KX b o e) (by
   cases q:H b with
   |none=>rfl
   |some u=>
    have e':b=a:=hA b (by rw[q];simp);subst e';rw[hK (by rw[q];simp)]at e;cases e)
  have hM:Mod K mg (hidT s₁.heap H):=⟨hKb,nsK hns,⟨mb,nsK hb,hbb⟩,let⟨mc,h1,h2⟩:=hlim;⟨mc,nsK h1,h2⟩⟩
  have e0:Env0 P w K mg (hidT s₁.heap H) callerA [] s₁ H:=⟨rfl,hM,fun b o e=>zXI e,qF0 (zRH _ _),trivial,fun b hb=>absurd (show b∈([]:List Addr) from hb) (by simp),hok,.of_eq hg⟩
  refine codeAny_mono ((F _ hKb (nsK hns)).run callerA [] s₁ H ⟨[.ref a],[]⟩ [.ref a] [.ref a] _ _ hr e0 (hbind s₁ (.ref a)) (.cons rfl .nil) (hsp H hO hS)) fun r s' h=>?_
  cases r with
  |error e=>exact(hCX H e s' h).elim
  |ok fl=>
   cases fl with
   |next=>exact qA3 h
   |brk=>exact qA3 h
   |cont=>exact qA3 h
   |ret u=>
    obtain⟨v,H',os,bare,un,hok',r',q⟩:=h;have q':v=.bl true:=q;subst q';obtain rfl:u=Value.bool true:=r';refine⟨rfl,OldK.of_keep fun b o e=>?_,os,bare⟩;cases q:H b with
    |none=>exact un.keep b o e q (by intro z;exact absurd (show b∈([]:List Addr) from z) (by simp)) (by simp)
    |some u=>
     rcases hO b with z|⟨ob,xs,z⟩
     ·rw[q]at z;cases z
     ·have z2:=un.frzs b ob _ z;obtain⟨e1,_⟩:=hok b _ z;obtain⟨e2,_⟩:=hok' b _ z2;rw[e]at e1;cases e1;exact e2
 cases hk:K.lookup a with
 |some o=>
  have e:=KX a o hk;rw[ha]at e;cases e;refine core (fun _=>none) (fun _=>.inl rfl) (.inr ⟨_,vs.toArray,_,hk,rfl,rfl,rfl,by rw[qAc,lenV];exact hl,by simpa using rv⟩) (fun b u z=>by have z':(none:Option HO)=some u:=z;cases z') (fun b z=>absurd rfl z) fun z=>absurd rfl z
 |none=>
  refine core (fun b=>if b=a then some (.frz { cls:=.type "list",data:=.seq vs.toArray } (.lst (ns.map V.int)))else none) (fun b=>?_) (.inl (.inr ⟨{ cls:=.type "list",data:=.seq vs.toArray },if_pos rfl⟩)) (fun b u z=>?_) (fun b z=>?_) fun _=>hk
  ·by_cases hb:b=a
   ·exact .inr ⟨_,_,if_pos hb⟩
   ·exact .inl (if_neg hb)
  ·by_cases hb:b=a
   ·have z':=(if_pos hb).symm.trans z;cases z';subst hb;exact⟨ha,by rw[qAm];exact hl,vs,_,rv,ha⟩
   ·have z':=(if_neg hb).symm.trans z;cases z'
  ·by_cases hb:b=a
   ·exact hb
   ·exact absurd (if_neg hb) z
noncomputable def zBS(s:Stmt):Arguments:=match s with
 |.FunctionDef _ a _ _ _ _ _ _ _ _=>a
 |_=>{ posonlyargs:=[],args:=[],vararg:=none,kwonlyargs:=[],kw_defaults:=[],kwarg:=none,defaults:=[] }
noncomputable def zB0(s:Stmt):List Stmt:=match s with
 |.FunctionDef _ _ b _ _ _ _ _ _ _=>b
 |_=>[]
noncomputable def zA5(s:Stmt):Scope:=match s with
 |.FunctionDef _ _ _ _ _ _ sc _ _ _=>sc
 |_=>{ kind:=.function,names:=[],isGenerator:=false,isCoroutine:=false }
abbrev CX0:CXT:=fun _ _ _ _ _ _=>False
abbrev E0:XK:=fun _ _ _=>False
theorem zcJ{X:Cx}:zHH CX0 X E0:=fun _ _ _ _ _ _ _ h=>h.elim
structure Fun(K:qA1)(x qual:Str)(st:Stmt)(f:Addr)(fd:FuncData):Prop where
 ex:∃(oc:Value)(od:Option Addr)(kV doc pm:Value)(an:Option Addr)(cdv ct:Value)(osl:Array (Option Value)),
  fd=qBg x qual (zBS st) (zB0 st) (zA5 st) .none kV doc pm an cdv ct/\K.lookup f=some ⟨oc,od,.func fd,osl⟩/\qCt K cdv qual=true
 kp:qB5 K (.ref f)=true
section
variable{P:Program}{w:World}{K:qA1}{mg:Str->Option Value}{base:Heap}
theorem Fun.ok{x qual:Str}{st:Stmt}{f:Addr}{fd:FuncData}{N ps:List Str}{k:Nat}{sp:Sp}(F:Fun K x qual st f fd)(S:FnScope N ps (zA5 st))(len:∀vs H Q E,sp vs H Q E->vs.length=ps.length)
  (hbody:∀(cdv:Value)(A:Around)(outer:List Env)(s:Shared)(H:Hp)(vs:List V)(Q:VK)(E:XK),Room k (A.deeper (envOfC qual (zA5 st) s.heap.objs.size f cdv))->sp vs H Q E ->
   ∃t,PSs (cxOf CX0 P w K mg base N qual (zA5 st) f cdv A outer s H E).nox (zB0 st) t/\t { nx:=fun _ H'=>Q .non H',rt:=Q } (start N vs) H):FnOk P w K mg base CX0 (k+1) f fd ps sp:=by
 obtain⟨oc,od,kV,doc,pm,an,cdv,ct,osl,rfl,lk,hcd⟩:=F.ex;refine zb5 lk hcd S len fun A outer s H vs Q E hr hsp=>?_
 obtain⟨t,h,q⟩:=hbody cdv A outer s H vs Q E hr hsp;exact⟨t,h.nox,q⟩
theorem Fun.binds{x qual:Str}{st:Stmt}{f:Addr}{fd:FuncData}{ps:List Str}(F:Fun K x qual st f fd)
  (h:∀(kV doc pm:Value)(an:Option Addr)(cdv ct:Value)(us:List Value),us.length=ps.length->bindArgs (qBg x qual (zBS st) (zB0 st) (zA5 st) .none kV doc pm an cdv ct) ⟨us,[]⟩=pure (ps.zip us)):Binds K fd ps []:=by
 obtain⟨oc,od,kV,doc,pm,an,cdv,ct,osl,rfl,lk,hcd⟩:=F.ex;exact .all (h kV doc pm an cdv ct)
theorem zRI{x qual:Str}{st:Stmt}{f:Addr}{oc:Value}{od an:Option Addr}{osl:Array (Option Value)}{kV doc pm cdv ct:Value}(l:K.lookup f=some ⟨oc,od,.func (qBg x qual (zBS st) (zB0 st) (zA5 st) .none kV doc pm an cdv ct),osl⟩)
  (c:qCt K cdv qual=true) (k:qB5 K (.ref f)=true):Fun K x qual st f (qBg x qual (zBS st) (zB0 st) (zA5 st) .none kV doc pm an cdv ct):=⟨⟨oc,od,kV,doc,pm,an,cdv,ct,osl,rfl,l,c⟩,k⟩
end
theorem zP4{A:Around}{k:Nat}(hr:Room k A):A.units+1<cLine:=qE2 (Nat.add_le_add_left (by decide:1<=64) _) hr.units
section
variable{X:Cx}
theorem pv(i:Nat){x:Str}{pos:Pos}(hN:X.N[i]?=some x:=by rfl)(hv:Vis X.env.scope x:=by first|exact qI0 rfl|exact qHh (qI0 rfl)|exact qHh (qHh rfl))(hd:(x==("__debug__":Str))=false:=by decide)
  (hcd:(x==("__classdict__":Str))=false:=by decide):PE X (.Name x pos) (tVar i):=zVH hN hv hd hcd
end
def Same(H H':Hp):Prop:=∀b o,H b=some o->H' b=some o
theorem Same.refl(H:Hp):Same H H:=fun _ _ h=>h
theorem Same.trans{H H1 H2:Hp}(a:Same H H1)(b:Same H1 H2):Same H H2:=fun c o h=>b c o (a c o h)
theorem Same.free{H H':Hp}(e:Same H H'){l:Addr}(h:H' l=qFl):H l=qFl:=by
 cases q:H l with
 |none=>rfl
 |some o=>
  rw[e l o q]at h;cases h
theorem Same.seq{K:qA1}{H H':Hp}{a:Addr}{xs:List V}(e:Same H H')(h:SqL K H a xs):SqL K H' a xs:=by
 rcases h with(h|⟨o,h⟩)|h
 ·exact .inl (.inl (e _ _ h))
 ·exact .inl (.inr ⟨o,e _ _ h⟩)
 ·exact .inr h
section
variable{κ:Type}[DecidableEq κ]
end
end L2
namespace L2
open PySem PySem.Spec PyProof.Rows
theorem asN{a b:Nat}(h:a<b):a<b:=h
theorem asL{a b:Nat}(h:a<=b):a<=b:=h
theorem asE{a b:Nat}(h:a=b):a=b:=h
noncomputable def clos(cells:List (Str×Addr)):List (Str×NameKind)->List (Str×Addr)->List (Str×Addr)
 |[],acc=>acc
 |(n,k)::r,acc=>if k==.free then clos cells r ((n,(cells.lookup n).getD 0)::acc)else clos cells r acc
theorem zDQ(cells:List (Str×Addr)):∀(names:List (Str×NameKind))(acc:List (Str×Addr)),clos cells names acc=clos cells names []++acc
 |[],_=>rfl
 |(n,k)::r,acc=>by
  unfold clos
  split
  ·rw[zDQ cells r (_::acc),zDQ cells r [_],qCb];rfl
  ·exact zDQ cells r acc
theorem zFJ{cells:List (Str×Addr)}{x:Str}{c:Addr}:∀{names:List (Str×NameKind)},(x,c)∈clos cells names []->(x,NameKind.free)∈names/\c=(cells.lookup x).getD 0
 |[],h=>by simp[clos]at h
 |(n,k)::r,h=>by
  unfold clos at h
  split at h
  ·rename_i hk
   rw[zDQ]at h
   rcases qAw.mp h with h|h
   ·obtain⟨h1,h2⟩:=zFJ h;exact⟨qAt _ h1,h2⟩
   ·have e:=qAv.mp h
    injection e with e1 e2
    subst e1;have hk':k=.free:=by simpa using hk
    subst hk';exact⟨qAz,e2⟩
  ·obtain⟨h1,h2⟩:=zFJ h;exact⟨qAt _ h1,h2⟩
theorem zIU{cells:List (Str×Addr)}{x:Str}:∀{names:List (Str×NameKind)},(x,NameKind.free)∈names->(x,(cells.lookup x).getD 0)∈clos cells names []
 |[],h=>by simp at h
 |(n,k)::r,h=>by
  unfold clos
  rcases qAb.mp h with e|h
  ·injection e with e1 e2
   subst e1;subst e2;rw[if_pos (by rfl),zDQ];exact qAy _ (by simp)
  ·split
   ·rw[zDQ];exact qB4 _ (zIU h)
   ·exact zIU h
theorem zB3:∀(names:List (Str×NameKind))(n:Nat)(acc:List (Str×Addr)),cellsFrom n names acc=cellsFrom n names []++acc
 |[],_,_=>rfl
 |(x,k)::r,n,acc=>by
  unfold cellsFrom
  split
  ·rw[zB3 r (n+1) (_::acc),zB3 r (n+1) [_],qCb];rfl
  ·exact zB3 r n acc
theorem zC0{x:Str}{c:Addr}:∀{names:List (Str×NameKind)}{n:Nat},(x,c)∈cellsFrom n names []->(x,NameKind.cell)∈names
 |[],_,h=>by simp[cellsFrom]at h
 |(y,k)::r,n,h=>by
  unfold cellsFrom at h
  split at h
  ·rename_i hk
   rw[zB3]at h
   rcases qAw.mp h with h|h
   ·exact qAt _ (zC0 h)
   ·have e:=qAv.mp h
    injection e with e1 e2
    subst e1;have hk':k=.cell:=by simpa using hk
    subst hk';exact qAz
  ·exact qAt _ (zC0 h)
theorem zBJ{α:Type}{x:Str}{a:α}:∀{l:List (Str×α)},(l.map (·.1)).Nodup->(x,a)∈l->l.lookup x=some a
 |[],_,h=>by simp at h
 |(y,b)::r,nd,h=>by
  have nd':(y::r.map (·.1)).Nodup:=nd;obtain⟨h1,h2⟩:=qBb.mp nd'
  rcases qAb.mp h with e|hm
  ·injection e with e1 e2
   subst e1;subst e2;rw[qBl,beq_self_eq_true]
  ·have hne:(x==y)=false:=by
    rw[beq_eq_false_iff_ne]
    rintro rfl
    exact h1 (qAd.mpr ⟨(x,a),hm,rfl⟩)
   rw[qBl,hne];exact zBJ h2 hm
theorem zDV{α:Type}{x:Str}:∀{l:List (Str×α)},(∀a,(x,a)∉l)->l.lookup x=none
 |[],_=>rfl
 |(y,b)::r,h=>by
  have hne:(x==y)=false:=by
   rw[beq_eq_false_iff_ne]
   rintro rfl
   exact h b qAz
  rw[qBl,hne];exact zDV fun a m=>h a (qAt _ m)
theorem zDU{α:Type}{x:Str}{a:α}:∀{l:List (Str×α)},(x,a)∈l->∃b,l.lookup x=some b
 |[],h=>by simp at h
 |(y,b)::r,h=>by
  rw[qBl];cases e:x==y with
  |true=>exact⟨b,rfl⟩
  |false=>
   rcases qAb.mp h with q|q
   ·injection q with q1 _
    subst q1;rw[beq_self_eq_true]at e;cases e
   ·exact zDU q
theorem zHA{α:Type}{x:Str}:∀(l k:List (Str×α)),(l++k).lookup x=(l.lookup x).or (k.lookup x)
 |[],k=>by simp
 |(y,b)::r,k=>by
  show qDx x ((y,b)::(r++k))=_;rw[qBl,qBl];cases x==y with
  |true=>rfl
  |false=>exact zHA r k
def zbU(sc:Scope)(env:Env):Prop:=∀x,(x,NameKind.free)∈sc.names->env.kindOf x=some .cell\/env.kindOf x=some .free
theorem zEO{sc:Scope}{env:Env}(h:∀x,(x,NameKind.free)∈sc.names->∃c,env.cells.lookup x=some c):closureFor sc env=pure (clos env.cells sc.names []):=by
 have go:∀(names:List (Str×NameKind))(acc:List (Str×Addr)),(∀x,(x,NameKind.free)∈names->∃c,env.cells.lookup x=some c) ->
   (forIn names acc fun(x:Str×NameKind)(cs:List (Str×Addr))=>(match x with|(name,kind)=>if(kind==NameKind.free)=true then(do let c <- cellOf env name;pure (qCn ((name,c)::cs)))else pure (qCn cs):Sem (ForInStep (List (Str×Addr)))))=pure (clos env.cells names acc):=by
  intro names
  induction names with
  |nil=>intro acc _;rfl
  |cons p r ih=>
   intro acc hn;obtain⟨n,k⟩:=p;have hr:∀x,(x,NameKind.free)∈r->∃c,env.cells.lookup x=some c:=fun x hx=>hn x (qAt _ hx)
   rw[qF1];unfold clos
   by_cases hk:(k==NameKind.free)=true
   ·have hk':k=.free:=by simpa using hk
    subst hk';obtain⟨c,hc⟩:=hn n qAz;have e:cellOf env n=pure c:=by unfold cellOf;rw[hc]
    rw[if_pos (by rfl)];simp only[if_pos (show(NameKind.free==NameKind.free)=true from rfl),e,hc,qEq,pure_bind];exact ih _ hr
   ·rw[if_neg hk];simp only[if_neg hk,pure_bind];exact ih _ hr
 unfold closureFor;have q:=go sc.names [] h
 first
  |(rw[show(forIn sc.names ([]:List (Str×Addr)) _:Sem (List (Str×Addr)))=_ from q];rfl)
  |(refine(congrArg (fun z=>z >>= pure) q).trans ?_;rfl)
  |(simp only[q];rfl)
  |exact q
def zDP(sc:Scope)(C:Addr)(env:Env):Env:=
 { scope:=relabel sc env,locals:=C,globals:=env.globals,cells:=cellsFrom (C+1) sc.names (clos env.cells sc.names []),qual:=env.qual,func:=none,code:=env.code,frame:=env.frame,builtins:=env.builtins }
theorem zEA{M:Model}{A:Around}{E:Value->Shared->Prop}{s:Shared}{sc:Scope}{env:Env}{cl:List (Str×Addr)}{Q:Env->Shared->Prop}
  (hQ:Q { scope:=sc,locals:=s.heap.objs.size,globals:=env.globals,cells:=cellsFrom (s.heap.objs.size+1) sc.names cl,qual:=env.qual,func:=none,code:=env.code,frame:=env.frame,builtins:=env.builtins }
   { s with heap:=pushCells (s.heap.push { cls:=.type "dict",data:=.dict #[] }) sc.names }) :
  wpAny M A (newFunctionEnv sc env.globals cl [] env.qual none .none (some env)) Q E s:=by
 simp only[newFunctionEnv,qFt,if_true];refine wpAny_bind (wpAny_alloc ?_);refine wpAny_bind (wpAny_layCells _ (fun name kind cells=>by cases hkc:kind==NameKind.cell<;>simp[hkc]) _ _ _ _ ?_);rw[show({ s with heap:=s.heap.push { cls:=.type "dict",data:=.dict #[] } }:Shared).heap.objs.size=s.heap.objs.size+1 from Heap.size_push ..];refine wpAny_bind ?_;rw[List.forIn_nil];exact wpAny_pure (wpAny_pure hQ)
def zCP(X:Cx)(N':List Str)(sc:Scope)(C:Addr)(s:Shared)(H:Hp)(fp:List Addr):Cx:=
 { X with N:=N',s₀:=s,H₀:=H,env:=zDP sc C X.env,outer:=X.stack,stack:=X.stack,ex:=fp,fn:=fun x=>sc.names.lookup x==some .cell,pn:=[],xe:=fun _ _=>False }
def PTs(X:Cx)(ifs:List Expr)(t:TT):Prop:=
 ∀(pins:List (Addr×Obj))(s:Shared)(σ:St)(H:Hp)(Q:Bool->Hp->Prop),Inv X pins σ H s->t σ H Q ->
  wpAny (model X.prog X.w) X.A (forIn ifs true fun c r=>if r=true then do let ok <- isTrue c X.env (eval c X.env);pure (qCn ok)else pure (qCn r)) (TP X pins σ Q) X.xe s
noncomputable def tYes:TT:=fun _ H Q=>Q true H
theorem zC2{X:Cx}:PTs X [] tYes:=fun _ _ _ H _ I h=>wpAny_tests_nil ⟨H,I,h⟩
theorem zHY{X:Cx}{c:Expr}{t:TT}(h:PT X c t):PTs X [c] t:=fun pins s σ H Q I q=>wpAny_tests_one (h pins s σ H Q I q)
structure CompNames(N N':List Str)(k:Nat)(sc:Scope)(env:Env):Prop where
 kind:sc.kind=.function
 nd:(sc.names.map (·.1)).Nodup
 len:N'.length=N.length+k
 old:∀(i:Nat)(x:Str),N'[i]?=some x->i<N.length->(x,NameKind.free)∈sc.names/\N[i]?=some x\/sc.names.lookup x=none
 free:zbU sc env
theorem zB7{sc:Scope}{env:Env}{x:Str}{k:NameKind}:∀{names:List (Str×NameKind)},
  (names.map fun(n,k)=>if(k==NameKind.free&&env.scope.kind==.function&&env.kindOf n==some .cell)then(n,NameKind.cell)else(n,k)).lookup x=some k ->
  names.lookup x=some k\/(names.lookup x=some .free/\k=.cell)
 |[],h=>by simp at h
 |(n,j)::r,h=>by
  have ih:=@zB7 sc env x k r;rw[qAi]at h;rw[qBl]
  by_cases hc:(j==NameKind.free&&env.scope.kind==.function&&env.kindOf n==some .cell)=true
  ·have h':qDx x ((n,NameKind.cell)::(r.map fun(n,k)=>if(k==NameKind.free&&env.scope.kind==.function&&env.kindOf n==some .cell)then(n,NameKind.cell)else(n,k)))=some k:=by
    rw[<- h];simp only[if_pos hc]
   rw[qBl]at h';cases e:x==n with
   |true=>
    rw[e]at h';have hk:k=.cell:=(qBa h').symm;have hj:j=.free:=by
     simp only[qBc,beq_iff_eq]at hc;exact hc.1.1
    subst hj;exact .inr ⟨rfl,hk⟩
   |false=>
    rw[e]at h';exact ih h'
  ·have h':qDx x ((n,j)::(r.map fun(n,k)=>if(k==NameKind.free&&env.scope.kind==.function&&env.kindOf n==some .cell)then(n,NameKind.cell)else(n,k)))=some k:=by
    rw[<- h];simp only[if_neg hc]
   rw[qBl]at h';cases e:x==n with
   |true=>rw[e]at h';exact .inl h'
   |false=>rw[e]at h';exact ih h'
section
variable{X:Cx}{N':List Str}{k:Nat}{sc:Scope}{pins:List (Addr×Obj)}{σ:St}{H:Hp}{s:Shared}
theorem zP6{C:Addr}{x:Str}{c:Addr}(nd:(sc.names.map (·.1)).Nodup)(h:(zDP sc C X.env).cells.lookup x=some c) :
  ((x,c)∈cellsFrom (C+1) sc.names []/\(x,NameKind.cell)∈sc.names)\/((x,NameKind.free)∈sc.names/\c=(X.env.cells.lookup x).getD 0):=by
 have m:=mem_of_lookup h;have m':(x,c)∈cellsFrom (C+1) sc.names (clos X.env.cells sc.names []):=m;rw[zB3]at m'
 rcases qAw.mp m' with z|z
 ·exact .inl ⟨z,zC0 z⟩
 ·exact .inr (zFJ z)
theorem zDX{C:Addr}{x:Str}(nd:(sc.names.map (·.1)).Nodup)(h:(x,NameKind.free)∈sc.names):(zDP sc C X.env).cells.lookup x=some ((X.env.cells.lookup x).getD 0):=by
 show(cellsFrom (C+1) sc.names (clos X.env.cells sc.names [])).lookup x=_
 rw[zB3,zHA,zDV (fun a m=>?_),Option.none_or]
 ·obtain⟨b,hb⟩:=zDU (zIU (cells:=X.env.cells) h)
  have:=(zFJ (mem_of_lookup hb)).2
  rw[hb,this]
 ·have e1:=zBJ nd (zC0 m);rw[zBJ nd h]at e1;cases e1
theorem zU4(I:Inv X pins σ H s)(hc:X.calm=true)(S:CompNames X.N N' k sc X.env){fp:List Addr}(hf:∀b∈fp,FpOk X pins H b)(hfo:∀b∈fp,∃o,s.heap.get? b=some o)
  {s4:Shared} {D C:Addr} (eD:D=s.heap.objs.size) (eC:C=s.heap.objs.size+1)
  (e4:s4={ s with heap:=pushCells ((s.heap.push { cls:=.type "list",data:=.seq #[] 0 }).push { cls:=.type "dict",data:=.dict #[] }) sc.names }) :
  Inv (zCP X N' sc C s H fp) [(D,{ cls:=.type "list",data:=.seq #[] 0 })] (σ++qA9 k none) H s4/\∀b∈fp,FpOk (zCP X N' sc C s H fp) [(D,{ cls:=.type "list",data:=.seq #[] 0 })] H b:=by
 subst eD eC e4
 generalize hh1:s.heap.push { cls:=.type "list",data:=.seq #[] 0 }=h1
 generalize hh2:h1.push { cls:=.type "dict",data:=.dict #[] }=h2
 have sz1:h1.objs.size=s.heap.objs.size+1:=by rw[<- hh1];exact Heap.size_push ..
 have sz2:h2.objs.size=s.heap.objs.size+2:=by rw[<- hh2,Heap.size_push,sz1]
 have k1:∀b o,s.heap.get? b=some o->h1.get? b=some o:=fun b o e=>by rw[<- hh1];exact Heap.get?_push_of_some _ e
 have k2:∀b o,h1.get? b=some o->h2.get? b=some o:=fun b o e=>by rw[<- hh2];exact Heap.get?_push_of_some _ e
 have k3:∀b o,h2.get? b=some o->(pushCells h2 sc.names).get? b=some o:=pushCells_keeps sc.names h2;have kk:∀b o,s.heap.get? b=some o->(pushCells h2 sc.names).get? b=some o:=fun b o e=>k3 b o (k2 b o (k1 b o e))
 have own:CellsOk (pushCells h2 sc.names) h2.objs.size (cellsFrom h2.objs.size sc.names []):=cellsFrom_ok sc.names h2 h2.objs.size [] ⟨fun _ _ hm=>(nomatch hm),qG3⟩ (qA7 _);have eC1:s.heap.objs.size+1+1=h2.objs.size:=by rw[sz2]
 have freeCell:∀x,(x,NameKind.free)∈sc.names->∃c,X.env.cells.lookup x=some c:=fun x hx=>I.ok.has x (S.free x hx)
 have cells:∀x c,(zDP sc (s.heap.objs.size+1) X.env).cells.lookup x=some c ->
   ((x,c)∈cellsFrom h2.objs.size sc.names []/\(x,NameKind.cell)∈sc.names/\(pushCells h2 sc.names).IsCell c none/\h2.objs.size<=c)\/((x,NameKind.free)∈sc.names/\X.env.cells.lookup x=some c):=fun x c e=>by
  rcases zP6 S.nd e with⟨m,q⟩|⟨m,q⟩
  ·rw[eC1]at m;exact .inl ⟨m,q,(own.empty x c m).1,(own.empty x c m).2⟩
  ·obtain⟨c',hc'⟩:=freeCell x m;rw[hc',qEq]at q;subst q;exact .inr ⟨m,hc'⟩
 have old:∀x c,X.env.cells.lookup x=some c->c<s.heap.objs.size:=fun x c e=>by
  obtain⟨v,q⟩:=I.cell x c e;exact q.lt
 have fpl:∀b∈fp,b<s.heap.objs.size:=fun b hb=>by
  obtain⟨o,e⟩:=hfo b hb;exact Heap.lt_size e
 have hCn:H (s.heap.objs.size+1)=none:=I.hok.fresh (qC6 _);have hDn:H s.heap.objs.size=none:=I.hok.fresh (qA7 _);have nofs:∀a,s.heap.objs.size<=a->a∉frs X.stack:=fun a ha hb=>by
  rcases qAb.mp (I.stkSub a hb)with e|hb
  ·have t1:=asN I.lt;have t2:=asE e;have t3:=asL ha;omega
  ·exact I.nofs ha hb
 have fin:∀b∈fp,b∉frs X.stack:=fun b hb z=>by
  obtain⟨f0,f1,f2,f3,f4,f5⟩:=hf b hb
  rcases qAb.mp (I.stkSub b z)with e|z
  ·exact f1 e
  ·exact f2 z
 have ok:(zCP X N' sc (s.heap.objs.size+1) s H fp).Ok:=by
  refine⟨I.ok.mod,S.kind,I.ok.glob,I.ok.blt,qC6 _,?_,?_,?_,I.ok.hd,I.ok.frames,.inl rfl,?_,I.bs,qAp I.ok.bsz I.sz,?_,fin,I.stack,I.stkFree⟩
  ·intro x y c hx hy
   rcases cells x c hx with⟨m1,_,_,g1⟩|⟨m1,g1⟩<;>rcases cells y c hy with⟨m2,_,_,g2⟩|⟨m2,g2⟩
   ·exact name_of_addr own.apart m1 m2
   ·exact absurd (qAf (old y c g2) (qAp (by rw[sz2];exact qGf _ _) g1)) (qC1 _)
   ·exact absurd (qAf (old x c g1) (qAp (by rw[sz2];exact qGf _ _) g2)) (qC1 _)
   ·exact I.ok.inj x y c g1 g2
  ·intro x hx;have hx:(relabel sc X.env).names.lookup x=some .cell\/(relabel sc X.env).names.lookup x=some .free:=hx;have two:sc.names.lookup x=some .cell\/sc.names.lookup x=some .free:=by
    rcases hx with hx|hx
    ·rcases zB7 (sc:=sc) hx with q|⟨q,_⟩
     ·exact .inl q
     ·exact .inr q
    ·rcases zB7 (sc:=sc) hx with q|⟨_,q⟩
     ·exact .inr q
     ·cases q
   rcases two with q|q
   ·have:=qDc sc.names (s.heap.objs.size+1+1) (clos X.env.cells sc.names []) (.inl q)
    exact qEa.mp this
   ·exact⟨_,zDX S.nd (mem_of_lookup q)⟩
  ·intro x c hx e;have hx:(sc.names.lookup x==some NameKind.cell)=true:=hx;have hx':sc.names.lookup x=some .cell:=by simpa using hx
   rcases cells x c e with⟨_,_,_,g⟩|⟨m,_⟩
   ·show s.heap.objs.size<=c;omega
   ·rw[zBJ S.nd m]at hx';cases hx'
  ·intro b hb;refine⟨?_,fun x c e z=>?_⟩
   ·exact qAn (qBh (fpl b hb))
   ·rcases cells x c e with⟨_,_,_,g⟩|⟨_,g⟩
    ·have t1:=asN (fpl b hb);have t2:=asL g;have t3:=asE z;omega
    ·exact(hf b hb).2.2.2.2.1 x c g z
  ·intro b o e hb
   rcases(hf b hb).2.2.2.1 with z|z
   ·exact I.ok.noex b o e z
   ·exact absurd (qAf (Heap.lt_size e) (qAp I.ok.bsz z)) (qC1 _)
 have ns:(pushCells h2 sc.names).Ns (s.heap.objs.size+1) fun _=>none:=by
  have q:h2.Ns h1.objs.size fun _=>none:=by rw[<- hh2];exact Heap.Ns.new h1 (.type "dict")
  rw[sz1]at q;exact q.keeps k3
 have hD1:h1.get? s.heap.objs.size=some { cls:=.type "list",data:=.seq #[] 0 }:=by rw[<- hh1];exact Heap.get?_push_size _ rfl
 refine⟨⟨ok,rfl,I.bare,Un.kept kk,⟨_,ns,?_⟩,?_,hCn,?_,?_,I.hok.kept kk,?_⟩,?_⟩
 ·intro i x v h1 h2 h3;have hi:i<X.N.length:=by
   rw[<- I.len]
   by_cases hi:i<σ.length
   ·exact hi
   ·rw[qA8 (by omega),qBj]at h2
    split at h2<;>cases h2
  have h2':σ[i]?=some (some v):=by
   rw[qAa (by rw[I.len];exact hi)]at h2;exact h2
  have h1:N'[i]?=some x:=h1
  rcases S.old i x h1 hi with⟨m,e⟩|e
  ·obtain⟨mm,hn,hl⟩:=I.loc;have hv:Vis X.env.scope x:=(S.free x m).elim (fun z=>.inr (.inl z)) fun z=>.inr (.inr z)
   obtain⟨u,r,l⟩:=hl i x v e h2' hv;refine⟨u,r,?_⟩
   rcases l with⟨z,_⟩|⟨_,c,hc,hcell⟩
   ·rcases S.free x m with z'|z'<;>rw[z]at z'<;>cases z'
   ·refine .inr ⟨?_,c,?_,hcell.keeps kk⟩
    ·have hv3:(relabel sc X.env).names.lookup x=some .local\/(relabel sc X.env).names.lookup x=some .cell\/(relabel sc X.env).names.lookup x=some .free:=h3
     rcases hv3 with q|q|q
     ·rcases zB7 (sc:=sc) q with q|⟨_,q⟩
      ·rw[zBJ S.nd m]at q;cases q
      ·cases q
     ·exact .inl q
     ·exact .inr q
    ·have q:=zDX (X:=X) (C:=s.heap.objs.size+1) S.nd m;rw[hc,qEq]at q;exact q
  ·exfalso
   have hv3:(relabel sc X.env).names.lookup x=some .local\/(relabel sc X.env).names.lookup x=some .cell\/(relabel sc X.env).names.lookup x=some .free:=h3
   rcases hv3 with q|q|q<;>rcases zB7 (sc:=sc) q with q|⟨q,_⟩<;>rw[e]at q<;>cases q
 ·intro x c e
  rcases cells x c e with⟨_,_,g,_⟩|⟨_,g⟩
  ·exact⟨_,g⟩
  ·obtain⟨v,q⟩:=I.cell x c g;exact⟨v,q.keeps kk⟩
 ·intro x c e
  rcases cells x c e with⟨_,_,_,g⟩|⟨_,g⟩
  ·exact I.hok.fresh (by omega)
  ·exact I.freeC x c g
 ·intro p hp;have hp':p=(s.heap.objs.size,{ cls:=.type "list",data:=.seq #[] 0 }):=by
   have:p∈([]++[(s.heap.objs.size,({ cls:=.type "list",data:=.seq #[] 0 }:Obj))]:List (Addr×Obj)):=hp
   simpa using this
  subst hp';refine⟨k3 _ _ (k2 _ _ hD1),hDn,?_,nofs _ (qA7 _),fun v z=>by cases z⟩;show s.heap.objs.size≠s.heap.objs.size+1;omega
 ·show(σ++qA9 k none).length=N'.length
  rw[qAl,qDm,I.len,S.len]
 ·intro b hb;obtain⟨f0,f1,f2,f3,f4,f5⟩:=hf b hb;refine⟨f0,(ok.exf b hb).1,fin b hb,.inl hb,fun x c e=>(ok.exf b hb).2 x c e,fun p hp=>?_⟩;have hp':p=(s.heap.objs.size,{ cls:=.type "list",data:=.seq #[] 0 }):=by
   have:p∈([]++[(s.heap.objs.size,({ cls:=.type "list",data:=.seq #[] 0 }:Obj))]:List (Addr×Obj)):=hp
   simpa using this
  subst hp';exact qBp (fpl b hb)
end
theorem zDS{prog:Program}{w:World}{A:Around}{R:Result->Shared->Prop}{s:Shared}{elt target iter:Expr}{ifs:List Expr}{scope:Scope}{pos:Pos}{it acc:Value}{env:Env}(I:Nat->Shared->Prop)
  (turn:∀n s,I n s->wpAny (model prog w) A (pyNext it) (fun r s₁=>match r with
   |none=>R (.ok .next) s₁
   |some v=>wpAny (model prog w) A (letOwnedTupleGo target it v) (fun _ s₂'=>wpAny (model prog w) A (assign target env v) (fun _ s₂=>
     wpAny (model prog w) A (forIn ifs true fun c r=>if r=true then do let ok <- isTrue c env (eval c env);pure (qCn ok)else pure (qCn r)) (fun ok s₃=>
      if ok=true then wpAny (model prog w) A (eval elt env) (fun x s₄=>
       wpAny (model prog w) A (call (.builtin "list.append") [acc,x]) (fun _ s₅=>∃m,m<n/\I m s₅) (fun _ _=>False) s₄) (fun _ _=>False) s₃
      else ∃m,m<n/\I m s₃) (fun _ _=>False) s₂) (fun _ _=>False) s₂') (fun _ _=>False) s₁) (fun _ _=>False) s)
  (n:Nat) (h:I n s) :
  codeAny (model prog w) A (.compLoop (.ListComp elt [⟨target,iter,ifs,0⟩] scope pos) 0 it acc env) R s:=by
 refine codeAny_loop rfl I (fun n s hI=>?_) n h;show wpAny _ A ((compTurn (.ListComp elt [⟨target,iter,ifs,0⟩] scope pos) 0 it acc env).onRaise (fun x=>do noteFrame x env;theTreesLotGoes x)) _ _ s;refine wpAny_noted ?_;rw[compTurn_list];refine wpAny_bind (wpAny_standAt (wpAny_bind (wpAny_mono (turn n s hI) (fun r s₁ h₁=>?_) fun _ _ z=>z.elim)));cases r with
 |none=>exact wpAny_pure h₁
 |some v=>
  refine wpAny_bind (wpAny_mono h₁ (fun _ s₂' h₂'=>?_) fun _ _ z=>z.elim);refine wpAny_bind (wpAny_mono h₂' (fun _ s₂ h₂=>wpAny_bind (wpAny_mono h₂ (fun ok s₃ h₃=>?_) fun _ _ z=>z.elim)) fun _ _ z=>z.elim);cases ok with
  |false=>exact wpAny_pure ⟨rfl,h₃⟩
  |true=>
   exact wpAny_bind (wpAny_bind (wpAny_mono h₃ (fun x s₄ h₄=>wpAny_bind (wpAny_mono h₄ (fun _ s₅ h₅=>wpAny_pure (wpAny_pure ⟨rfl,h₅⟩)) fun _ _ z=>z.elim)) fun _ _ z=>z.elim))
def zV6(k:Nat)(g:TG)(tif:TT)(te:TE)(σ:St)(Q:VK)(J:It)(H1:Hp):Prop:=∃W:Nat->Nat->List V->Hp->Prop,(∃m,W 0 m [] H1)/\∀i m acc H,W i m acc H ->
 (J.stop i H/\∀D,H D=none->Q (.ref D) (upd H D (.lst acc))) \/
 (J.go i H/\acc.length<sizeLine/\∃N:List V->Hp->Prop,(∀acc' H',N acc' H'->∃m',m'<m/\W (i+1) m' acc' H')/\∀x H',J.yld i H x H'->g x (σ++qA9 k none) H' fun σ2 H2=>∃own:St,own.length=k/\σ2=σ++own/\tif σ2 H2 fun b H3=>if b=true then te σ2 H3 fun v H4=>N (acc++[v]) H4 else N acc H3)
noncomputable def zWS(wi:TI)(k:Nat)(g:TG)(tif:TT)(te:TE):TE:=fun σ H Q=>wi σ H (zV6 k g tif te σ Q)
theorem HOk.track{P:Program}{w:World}{H:Hp}{h:Heap}{a:Addr}{o:HO}(x:HOk P w H h)(hn:H a=none)(new:ObjOk P w (upd H a o) h a o):HOk P w (upd H a o) h:=fun b u e=>by
 by_cases hb:b=a
 ·subst hb;rw[zAD]at e;cases e;exact new
 ·rw[zAE hb]at e;exact(x b u e).stay (fun c v _ q=>q) (fun c q=>by rw[zAE (zAL q hn)];exact q) fun c xs q=>by rw[zAE (zAL q hn)];exact q
section
variable{X:Cx}{N':List Str}{k:Nat}{sc:Scope}{tg iter elt:Expr}{ifs:List Expr}{wi:TI}{g:TG}{tif:TT}{te:TE}{pos:Pos}
theorem zHF{pins:List (Addr×Obj)}{σ:St}{H2:Hp}{s2:Shared}{Q:VK}{RR:Value->Addr->Result->Shared->Prop}{E:Value->Shared->Prop}(hc:X.calm=true)(S:CompNames X.N N' k sc X.env)
  (hg:∀C s H fp,PG (zCP X N' sc C s H fp) tg g) (hif:∀C s H fp,PTs (zCP X N' sc C s H fp) ifs tif) (he:∀C s H fp,PE (zCP X N' sc C s H fp) elt te)
  {it:Addr} {fp:List Addr} {tn:Nat->Heap->Prop} {J:It} (I2:Inv X pins σ H2 s2) (T:Turn X.prog X.w X.K tg J fp it tn) (st2:tn 0 s2.heap) (f2:∀b∈fp,FpOk X pins H2 b)
  {W:Nat->Nat->List V->Hp->Prop} {m0:Nat} (w0:W 0 m0 [] H2)
  (turn:∀i m acc H,W i m acc H->(J.stop i H/\∀D,H D=none->Q (.ref D) (upd H D (.lst acc))) \/
   (J.go i H/\acc.length<sizeLine/\∃N:List V->Hp->Prop,(∀acc' H',N acc' H'->∃m',m'<m/\W (i+1) m' acc' H')/\∀x H',J.yld i H x H'->g x (σ++qA9 k none) H' fun σ2 H2=>∃own:St,own.length=k/\σ2=σ++own/\tif σ2 H2 fun b H3=>if b=true then te σ2 H3 fun v H4=>N (acc++[v]) H4 else N acc H3))
  (hRR:∀D C s' H',D<C->s2.heap.objs.size<=D->(∃m,s'.heap.Ns C m)->H' C=none->C∉frs X.stack->Inv X pins σ H' s'->Q (.ref D) H'->RR (.ref D) C (.ok .next) s') :
  wpAny (model X.prog X.w) X.A (newList []) (fun acc s₃=>wpAny (model X.prog X.w) X.A (newFunctionEnv sc X.env.globals (clos X.env.cells sc.names []) [] X.env.qual none .none (some X.env)) (fun cenv s₄=>
   codeAny (model X.prog X.w) X.A (.compStart (.ListComp elt [⟨tg,iter,ifs,0⟩] sc pos) 0 (.ref it) acc { cenv with scope:=relabel sc X.env }) (RR acc cenv.locals) s₄) E s₃) E s2:=by
 refine wpAny_newObj_type (zEA ?_);show codeAny _ _ (.compStart _ 0 (.ref it) (.ref s2.heap.objs.size) _) _ _;have szp:(s2.heap.push { cls:=.type "list",dict:=none,data:=.seq ([]:List Value).toArray }).objs.size=s2.heap.objs.size+1:=Heap.size_push ..;obtain⟨I4,F4⟩:=zU4 (s4:={ s2 with heap:=pushCells ((s2.heap.push { cls:=.type "list",data:=.seq #[] 0 }).push { cls:=.type "dict",data:=.dict #[] }) sc.names }) I2 hc S f2 (fun b hb=>let⟨o,e,_⟩:=T.obj 0 _ st2 b hb;⟨o,e⟩) rfl rfl rfl
 generalize hC:(s2.heap.push { cls:=.type "list",dict:=none,data:=.seq ([]:List Value).toArray }).objs.size=C at *
 have eC:C=s2.heap.objs.size+1:=szp;rw[<- eC]at I4 F4
 generalize hs4:({ s2 with heap:=pushCells ((s2.heap.push { cls:=.type "list",data:=.seq #[] 0 }).push { cls:=.type "dict",data:=.dict #[] }) sc.names }:Shared)=s4 at I4 F4
 have kk:∀b o,s2.heap.get? b=some o->s4.heap.get? b=some o:=fun b o e=>by
  rw[<- hs4];exact pushCells_keeps sc.names _ b o (Heap.get?_push_of_some _ (Heap.get?_push_of_some _ e))
 have st4:tn 0 s4.heap:=T.keep 0 _ _ st2 fun b _ o e=>kk b o e
 generalize hX':zCP X N' sc C s2 H2 fp=X' at I4 F4
 have henv:X'.env=zDP sc C X.env:=by rw[<- hX'];rfl
 have xprog:X'.prog=X.prog:=by rw[<- hX'];rfl
 have xw:X'.w=X.w:=by rw[<- hX'];rfl
 have xK:X'.K=X.K:=by rw[<- hX'];rfl
 have xcalm:X'.calm=true:=by rw[<- hX'];exact hc
 have xA:X'.A=X.A:=by rw[<- hX'];rfl
 have xpn:X'.pn=[]:=by rw[<- hX'];rfl
 have xxe:X'.xe=fun _ _=>False:=by rw[<- hX'];rfl
 have xs0:X'.s₀=s2:=by rw[<- hX'];rfl
 have xH0:X'.H₀=H2:=by rw[<- hX'];rfl
 have xfs:X'.fs=frs X.stack:=by rw[<- hX'];rfl
 have xex:X'.ex=fp:=by rw[<- hX'];rfl
 have hgX:PG X' tg g:=by rw[<- hX'];exact hg C s2 H2 fp
 have hifX:PTs X' ifs tif:=by rw[<- hX'];exact hif C s2 H2 fp
 have heX:PE X' elt te:=by rw[<- hX'];exact he C s2 H2 fp
 have locC:X'.env.locals=C:=by rw[henv];rfl
 generalize hDd:s2.heap.objs.size=D at *
 have loop:codeAny (model X.prog X.w) X.A (.compLoop (.ListComp elt [⟨tg,iter,ifs,0⟩] sc pos) 0 (.ref it) (.ref D) (zDP sc C X.env)) (RR (.ref D) C) s4:=by
  refine zDS (fun n s'=>∃i H' acc its nn,Inv X' [] (σ++qA9 k none) H' s'/\tn i s'.heap/\(∀b∈fp,H' b=none)/\H' D=none/\W i n acc H'/\acc.length<=sizeLine/\Vals acc its/\s'.heap.get? D=some { cls:=.type "list",data:=.seq its.toArray nn }) ?_ m0 ?_
  ·rintro n s5 ⟨i,H5,acc,its,nn,I5,st5,fr5,hD5,w5,hz5,rv5,hL5⟩
   have hDlt:D<C:=by rw[eC];exact qBv _
   have pinD:Inv X' [(D,{ cls:=.type "list",data:=.seq its.toArray nn })] (σ++qA9 k none) H5 s5:=I5.pins_of fun p hp=>by
    have hp':p=(D,{ cls:=.type "list",data:=.seq its.toArray nn }):=by simpa using hp
    subst hp';refine⟨hL5,hD5,?_,?_,fun v z=>by cases z⟩
    ·rw[locC];exact qAn hDlt
    ·have q:=(I4.pin (D,{ cls:=.type "list",data:=.seq #[] 0 }) (by simp)).2.2.2.1;exact q
   have fpD:∀{H':Hp}{oo:Obj},(∀b∈fp,H' b=none)->∀b∈fp,FpOk X' [(D,oo)] H' b:=fun{H' oo} hn b hb=>by
    obtain⟨f0,f1,f2,f3,f4,f5⟩:=F4 b hb;refine⟨hn b hb,f1,f2,f3,f4,fun p hp=>?_⟩;have hp':p=(D,oo):=by
     rw[xpn]at hp
     simpa using hp
    subst hp';exact f5 (D,{ cls:=.type "list",data:=.seq #[] 0 }) (by simp)
   rcases turn i n acc H5 w5 with⟨stop,q⟩|⟨go,hlt,N,hN,step⟩
   ·have dn:=T.done X' xprog xw xK xcalm i _ s5 _ H5 (fun _ _=>False) pinD (fpD fr5) st5 stop;rw[xA]at dn;refine thn dn fun r s6 z0=>?_
    obtain⟨hr,I6⟩:=z0;subst hr;show RR (.ref D) C (.ok .next) s6;have hL6:=(I6.pin (D,{ cls:=.type "list",data:=.seq its.toArray nn }) (by simp)).1;have un6:Un (frs X.stack) fp H2 H5 s2.heap s6.heap:=by
     have:=I6.base
     rw[xs0,xH0,xfs,xex]at this;exact this
    have hok6:HOk X.prog X.w H5 s6.heap:=by
     have:=I6.hok
     rw[xprog,xw]at this;exact this
    have hDno:s2.heap.get? D=none:=Heap.get?_none_of_le (by rw[hDd];exact qA7 _);have un7:Un (frs X.stack) fp H2 (upd H5 D (.lst acc)) s2.heap s6.heap:=
     ⟨un6.keep,un6.slot,fun b o e n hx=>by
       have hb:b≠D:=by rintro rfl;rw[hDno]at e;cases e
       rw[zAE hb];exact un6.free b o e n hx,un6.there,
      fun b xs e=>by
       have e':=un6.tups b xs e;rw[zAE (zAL e' hD5)];exact e',
      fun b o u e=>by
       have e':=un6.frzs b o u e;rw[zAE (zAL e' hD5)];exact e',
      fun b ps e=>by
       obtain⟨more,e'⟩:=un6.tbls b ps e;exact⟨more,by rw[zAE (zAL e' hD5)];exact e'⟩⟩
    have hok7:HOk X.prog X.w (upd H5 D (.lst acc)) s6.heap:=hok6.track hD5 ⟨hz5,its,nn,rv5,hL6⟩;have os6:s6.os=s2.os:=by have:=I6.os;rw[xs0]at this;exact this
    have I7:Inv X pins σ (upd H5 D (.lst acc)) s6:=I2.call' os6 un7 hok7 I6.bare fun b hb=>by
     obtain⟨f0,f1,f2,f3,f4,f5⟩:=f2 b hb;exact⟨f3,f1,f4,f5⟩
    obtain⟨mm,hn,_⟩:=I6.loc;rw[locC]at hn;have hC5:H5 C=none:=by have:=I6.free;rw[locC]at this;exact this
    refine hRR D C s6 (upd H5 D (.lst acc)) hDlt (qA7 _) ⟨mm,hn⟩ ?_ ?_ I7 (q D hD5)
    ·rw[zAE (qBp hDlt)];exact hC5
    ·intro hb
     rcases qAb.mp (I2.stkSub C hb)with e|hb
     ·have t1:=asN I2.lt;have t2:=asE e;rw[hDd]at t1;have t3:=asN hDlt;omega
     ·exact I2.nofs (by rw[hDd];exact qCl hDlt) hb
   ·have itm:=T.item X' xprog xw xK xcalm i _ s5 _ H5 (fun _ _=>False) pinD (fpD fr5) st5 go;rw[xA]at itm;refine thn itm fun r s6 z0=>?_
    obtain⟨u,hr,h6⟩:=z0;subst hr;refine thn h6 fun _ s7 z0=>?_
    obtain⟨x,H7,I7,r7,y7,st7,fr7⟩:=z0;have I7':Inv X' ([(D,{ cls:=.type "list",data:=.seq its.toArray nn })]++zH8 fp s7.heap) (σ++qA9 k none) H7 s7:=I7.pinned (fpD fr7) (T.obj _ _ st7);have asg:=hgX _ s7 _ H7 x u _ I7' r7 (step x H7 y7);rw[xprog,xw,xA,henv,xxe]at asg;refine thn asg fun _ s8 z0=>?_
    obtain⟨σ8,H8,I8,own,hown,hσ8,q8⟩:=z0;have weak:∀{pl:List (Addr×Obj)}{H':Hp}{s':Shared},Inv X' pl σ8 H' s'->Inv X' [] (σ++qA9 k none) H' s':=fun{pl H' s'} J'=>by
     have J0:Inv X' [] σ8 H' s':=J'.pins_of (fun p hp=>by simp at hp);refine J0.weak (by rw[hσ8];simp[hown]) fun j v hj=>?_
     rw[hσ8]
     by_cases hjl:j<σ.length
     ·rw[qAa hjl]at hj ⊢;exact hj
     ·rw[qA8 (by omega),qBj]at hj
      split at hj<;>cases hj
    have tst:=hifX _ s8 σ8 H8 _ I8 q8;rw[xprog,xw,xA,henv,xxe]at tst;refine thn tst fun b s9 z0=>?_
    obtain⟨H9,I9,q9⟩:=z0;have pin9:∀{σ':St}{H':Hp}{s':Shared},Inv X' ([(D,{ cls:=.type "list",data:=.seq its.toArray nn })]++zH8 fp s7.heap) σ' H' s' ->
      s'.heap.get? D=some { cls:=.type "list",data:=.seq its.toArray nn }/\H' D=none/\tn (i+1) s'.heap/\(∀b∈fp,H' b=none):=fun{σ' H' s'} J'=>by
     have a1:=J'.pin (D,{ cls:=.type "list",data:=.seq its.toArray nn }) (by simp);refine⟨a1.1,a1.2.1,T.keep _ _ _ st7 fun b hb o e=>(J'.pin (b,o) (qAy _ (qAy _ (zDL hb e)))).1,fun b hb=>?_⟩;obtain⟨o,e,d⟩:=T.obj _ _ st7 b hb;exact(J'.pin (b,o) (qAy _ (qAy _ (zDL hb e)))).2.1
    cases b with
    |false=>
     rw[if_neg qAe];rw[if_neg qAe]at q9;obtain⟨m',hm,w9⟩:=hN _ _ q9;obtain⟨p1,p2,p3,p4⟩:=pin9 I9;exact⟨m',hm,i+1,H9,acc,its,nn,weak I9,p3,p4,p2,w9,hz5,rv5,p1⟩
    |true=>
     rw[if_pos rfl];rw[if_pos rfl]at q9;have ev:=heX _ s9 σ8 H9 _ I9 q9;rw[xprog,xw,xA,henv,xxe]at ev;refine thn ev fun y s10 z0=>?_
     obtain⟨v,H10,I10,r10,n10⟩:=z0;obtain⟨m',hm,w10⟩:=hN _ _ n10;obtain⟨p1,p2,p3,p4⟩:=pin9 I10;have hlen:its.length=acc.length:=rv5.length.symm;refine wpAny_list_append_plain (items:=its.toArray) ⟨nn,p1⟩ (fun h' hl' hs'=>?_) (by simp only[qAc];omega);have hDfp:D∉fp:=fun hb=>(F4 D hb).2.2.2.2.2 (D,{ cls:=.type "list",data:=.seq #[] 0 }) (by simp) rfl
     have I11:Inv X' [] (σ++qA9 k none) H10 { s10 with heap:=h' }:=by
      have J0:Inv X' [] (σ++qA9 k none) H10 s10:=weak I10;refine J0.turned (t':=s10.toks) (it:=D) (fun b o hb e=>(hs'.2 b hb).trans e) p2 ?_ (.inr ?_) (fun x c e z=>?_) (fun p hp=>?_)
      ·rw[locC];exact qAn hDlt
      ·rw[xs0,hDd];exact qA7 _
      ·obtain⟨v',q⟩:=J0.cell x c e;obtain⟨o,ho,hd⟩:=q;rw[z,p1]at ho;cases ho;cases hd
      ·rw[xpn]at hp;simp at hp
     obtain⟨n',hk⟩:=hl';have hk':h'.get? D=some { cls:=.type "list",data:=.seq (its++[y]).toArray n' }:=by rw[hk];simp
     refine⟨m',hm,i+1,H10,acc++[v],its++[y],n',I11,T.keep _ _ _ p3 fun b hb o e=>(hs'.2 b (fun z=>hDfp (z▸hb))).trans e,p4,p2,w10,?_,rv5.append (.cons r10 .nil),hk'⟩;rw[qAl,qDo];omega
  ·refine⟨0,H2,[],[],0,I4.pins_of (fun p hp=>by simp at hp),st4,fun b hb=>(f2 b hb).1,I2.hok.fresh (by rw[hDd];exact qA7 _),w0,qAk _,.nil,?_⟩;exact(I4.pin (D,{ cls:=.type "list",data:=.seq #[] 0 }) (by simp)).1
 exact codeAny_compStart_list loop (T.self _ 0 _ _ _ st4 loop)
theorem zBR(hc:X.calm=true)(S:CompNames X.N N' k sc X.env)(hi:PI X tg iter wi)
  (hg:∀C s H fp,PG (zCP X N' sc C s H fp) tg g) (hif:∀C s H fp,PTs (zCP X N' sc C s H fp) ifs tif) (he:∀C s H fp,PE (zCP X N' sc C s H fp) elt te)
  (hs:∀x,foldedSetIterable iter X.env x=pure x:=by intro _;rfl):PE X (.ListComp elt [⟨tg,iter,ifs,0⟩] sc pos) (zWS wi k g tif te):=by
 intro pins s σ H Q I h;rw[eval_ListComp];have hfree:∀x,(x,NameKind.free)∈sc.names->∃c,X.env.cells.lookup x=some c:=fun x hx=>I.ok.has x (S.free x hx)
 refine wpAny_comprehension_free (use:=none) rfl hs (zEO hfree) S.kind (fun x hx hl=>?_) ?_
 ·obtain⟨n,kd⟩:=x;dsimp only at hl ⊢;subst hl;exact zBJ S.nd hx
 ·refine thn (hi pins s σ H _ I h) fun v s1 h1=>thn h1 fun itv s2 h2=>?_
  obtain⟨it,fp,tn,J,H2,e,I2,T,st2,f2,W,⟨m0,w0⟩,turn⟩:=h2;subst e;refine zHF (RR:=fun acc C=>compPost (model X.prog X.w) X.A X.xe none (EP X pins σ Q) acc C) hc S hg hif he I2 T st2 f2 w0 turn ?_;intro D C s' H' hDC hD hn hCn hCf I' q;obtain⟨m,hn⟩:=hn;refine⟨m,hn,fun h' hs'=>⟨.ref D,H',?_,rfl,q⟩⟩;have hCb:s2.heap.objs.size<=C:=qCl (qE2 hD hDC);refine I'.turned (t':=s'.toks) (it:=C) (fun b o hb e=>(hs'.2 b hb).trans e) hCn ?_ (.inr (qAp I2.sz hCb)) (fun x c e z=>?_) (fun p hp z=>?_)
  ·exact qBp (qAf I2.lt hCb)
  ·obtain⟨v,q⟩:=I2.cell x c e;exact absurd z (qAn (qAf q.lt hCb))
  ·exact absurd z (qAn (qAf (Heap.lt_size (I2.pin p hp).1) hCb))
theorem zEQ{i:Nat}{x:Str}{pos' spos:Pos}(hN:X.N.Nodup)(hi':X.N[i]?=some x)(hx:Loc X.env.scope x)(hc:X.calm=true)(S:CompNames X.N N' k sc X.env)(hi:PI X tg iter wi)
  (hg:∀C s H fp,PG (zCP X N' sc C s H fp) tg g) (hif:∀C s H fp,PTs (zCP X N' sc C s H fp) ifs tif) (he:∀C s H fp,PE (zCP X N' sc C s H fp) elt te)
  (hsw:swapsWith (.ListComp elt [⟨tg,iter,ifs,0⟩] sc pos) (some (.Name x pos')) spos.line X.env=pure true:=by rfl)
  (hs:∀x,foldedSetIterable iter X.env x=pure x:=by intro _;rfl) (hf:X.fn x=true\/X.env.scope.names.lookup x=some .local:=by first|exact .inl rfl|exact .inr rfl|assumption) :
  PS X (.Assign [.Name x pos'] (.ListComp elt [⟨tg,iter,ifs,0⟩] sc pos) spos) (tAsg (zWS wi k g tif te) (zEK i)):=by
 intro pins s σ H Dn I h;rw[exec_Assign_Name_used _ _ _ _ hsw];refine wpAny_bind (wpAny_standAt (wpAny_bind ?_));show wpAny _ X.A (do let _ <- comprehension (.ListComp elt [⟨tg,iter,ifs,0⟩] sc pos) sc X.env _ (newList []) false (eval iter X.env) (some (assign (.Name x pos') X.env))) _ _ s;have hfree:∀x,(x,NameKind.free)∈sc.names->∃c,X.env.cells.lookup x=some c:=fun x hx=>I.ok.has x (S.free x hx)
 refine wpAny_bind (wpAny_mono (wpAny_comprehension_free (use:=some (assign (.Name x pos') X.env)) (Q:=fun _ s'=>SP X pins Dn .next s') rfl hs (zEO hfree) S.kind (fun x hx hl=>?_) ?_)
  (fun _ s' hq=>wpAny_pure (wpAny_pure hq)) fun _ _ e=>e)
 ·obtain⟨n,kd⟩:=x;dsimp only at hl ⊢;subst hl;exact zBJ S.nd hx
 ·refine thn (hi pins s σ H _ I h) fun v s1 h1=>thn h1 fun itv s2 h2=>?_
  obtain⟨it,fp,tn,J,H2,e,I2,T,st2,f2,W,⟨m0,w0⟩,turn⟩:=h2;subst e;refine zHF (Q:=fun v H'=>zEK i v σ H' Dn.nx) (RR:=fun acc C=>compPost (model X.prog X.w) X.A X.xe (some (assign (.Name x pos') X.env)) (fun _ s'=>SP X pins Dn .next s') acc C) hc S hg hif he I2 T st2 f2 w0 turn ?_;intro D C s' H' hDC hD hn hCn hCf I' q;obtain⟨m,hn⟩:=hn;show wpAny _ _ (assign (.Name x pos') X.env (.ref D)) _ _ _;have hCb:s2.heap.objs.size<=C:=qCl (qE2 hD hDC);have hCL:C≠X.env.locals:=qBp (qAf I2.lt hCb);have hCc:∀x c,X.env.cells.lookup x=some c->c≠C:=fun x c e z=>by
   obtain⟨v,q⟩:=I2.cell x c e;exact absurd z (qAn (qAf q.lt hCb))
  refine wpAny_assign_Name (zJF (v:=.ref D) I' hN hi' hx rfl (fun s'' I'' ⟨a,sb,ha⟩=>?_) hf);have hCa:C≠a:=by
   rcases ha with e|e
   ·rw[e];exact hCL
   ·exact fun z=>hCc x a e z.symm
  refine⟨m,hn.sameBut sb hCa,fun h' hs'=>⟨_,H',?_,q⟩⟩;refine I''.turned (t':=s''.toks) (it:=C) (fun b o hb e=>(hs'.2 b hb).trans e) hCn hCL (.inr (qAp I2.sz hCb)) hCc (fun p hp z=>?_);exact absurd z (qAn (qAf (Heap.lt_size (I2.pin p hp).1) hCb))
theorem zEV{lo:Int}{n:Nat}{σ:St}{H:Hp}{Q:VK}(Pv:Nat->List V->Hp->Prop)(h0:Pv 0 [] H)(hz:∀i acc H,i<n->Pv i acc H->acc.length<sizeLine)
  (hs:∀i acc H,i<n->Pv i acc H->g (.int (lo+i)) (σ++qA9 k none) H fun σ2 H2=>∃own:St,own.length=k/\σ2=σ++own/\tif σ2 H2 fun b H3=>if b=true then te σ2 H3 fun v H4=>Pv (i+1) (acc++[v]) H4 else Pv (i+1) acc H3)
  (hd:∀acc H,Pv n acc H->∀D,H D=none->Q (.ref D) (upd H D (.lst acc))) :
  zV6 k g tif te σ Q (Itr lo n) H:=by
 refine⟨fun i m acc H=>m=n-i/\i<=n/\Pv i acc H,⟨n,by simp,qAk _,h0⟩,?_⟩
 rintro i m acc H ⟨rfl,hi,p⟩
 by_cases hlt:i<n
 ·refine .inr ⟨hlt,hz i acc H hlt p,Pv (i+1),fun acc' H' p'=>⟨n-(i+1),by omega,rfl,hlt,p'⟩,fun x H' y=>?_⟩;obtain⟨e,y⟩:=y;subst e y;exact hs i acc _ hlt p
 ·have e:i=n:=by omega
  subst e;exact .inl ⟨qA7 _,hd acc H p⟩
def zSQ(g:TG)(tb:TS)(D:Ends)(σ:St)(J:It)(H1:Hp):Prop:=∃W:Nat->Nat->St->Hp->Prop,(∃m,W 0 m σ H1)/\∀i m σ H,W i m σ H ->
 (J.stop i H/\D.nx σ H)\/(J.go i H/\∃N:St->Hp->Prop,(∀σ' H',N σ' H'->∃m',m'<m/\W (i+1) m' σ' H')/\∀x H',J.yld i H x H'->g x σ H' fun σ2 H2=>tb { D with nx:=N,ct:=N,bk:=D.nx } σ2 H2)
theorem zC3{body:List Stmt}{tb:TS}(hp:PassesOwn (model X.prog X.w) X.A X.env X.xe)(hc:X.calm=true)(hi:PI X tg iter wi)(hg:PG X tg g)(hb:PSs X body tb)
  (hs:∀x,foldedSetIterable iter X.env x=pure x:=by intro _;rfl):PS X (.For tg iter body [] pos) (fun D σ H=>wi σ H (zSQ g tb D σ)):=za7 hp hc hi hg hb hs
end
end L2
namespace L2
open PySem PySem.Spec PyProof.Rows
inductive Dat where
 |non|bl (b:Bool)|int (i:Int)|str (x:Str)|lst (xs:List Dat)|tup (xs:List Dat)
mutual
def Dat.dep:Dat->Nat
 |.lst xs=>Dat.depL xs+1
 |.tup xs=>Dat.depL xs+1
 |_=>0
def Dat.depL:List Dat->Nat
 |[]=>0
 |x::r=>max x.dep (Dat.depL r)
end
mutual
def Dat.eq:Dat->Dat->Bool
 |.non,.non=>true
 |.bl a,.bl b=>a==b
 |.bl a,.int b=>(if a then 1 else 0)==b
 |.int a,.bl b=>a==(if b then 1 else 0)
 |.int a,.int b=>a==b
 |.str a,.str b=>a==b
 |.lst xs,.lst ys=>Dat.eqL xs ys
 |.tup xs,.tup ys=>Dat.eqL xs ys
 |_,_=>false
def Dat.eqL:List Dat->List Dat->Bool
 |[],[]=>true
 |x::r,y::q=>Dat.eq x y&&Dat.eqL r q
 |_,_=>false
end
mutual
def Rep(H:Hp):Dat->V->Prop
 |.non,v=>v=.non
 |.bl b,v=>v=.bl b
 |.int i,v=>v=.int i
 |.str x,v=>v=.str x
 |.lst ds,v=>∃a xs,v=.ref a/\H a=some (.lst xs)/\RepL H ds xs
 |.tup ds,v=>∃a xs,v=.ref a/\H a=some (.tup xs)/\RepL H ds xs
def RepL(H:Hp):List Dat->List V->Prop
 |[],xs=>xs=[]
 |d::r,xs=>∃x q,xs=x::q/\Rep H d x/\RepL H r q
end
mutual
theorem Rep.mono{H H':Hp}(s:Same H H'):∀{d:Dat}{v:V},Rep H d v->Rep H' d v
 |.non,_,h=>h
 |.bl _,_,h=>h
 |.int _,_,h=>h
 |.str _,_,h=>h
 |.lst _,_,h=>by obtain⟨a,xs,e,e',r⟩:=h;exact⟨a,xs,e,s _ _ e',RepL.mono s r⟩
 |.tup _,_,h=>by obtain⟨a,xs,e,e',r⟩:=h;exact⟨a,xs,e,s _ _ e',RepL.mono s r⟩
theorem RepL.mono{H H':Hp}(s:Same H H'):∀{ds:List Dat}{xs:List V},RepL H ds xs->RepL H' ds xs
 |[],_,h=>h
 |_::_,_,h=>by obtain⟨x,q,e,r,t⟩:=h;exact⟨x,q,e,Rep.mono s r,RepL.mono s t⟩
end
mutual
theorem Rep.inj{H:Hp}:∀{d e:Dat}{v:V},Rep H d v->Rep H e v->d=e
 |.non,e,v,h,h'=>by cases h;cases e<;>first|rfl|(cases h';done)|(obtain⟨a,xs,z,_⟩:=h';cases z)
 |.bl b,e,v,h,h'=>by cases h;cases e<;>first|(cases h';rfl)|(cases h';done)|(obtain⟨a,xs,z,_⟩:=h';cases z)
 |.int b,e,v,h,h'=>by cases h;cases e<;>first|(cases h';rfl)|(cases h';done)|(obtain⟨a,xs,z,_⟩:=h';cases z)
 |.str b,e,v,h,h'=>by cases h;cases e<;>first|(cases h';rfl)|(cases h';done)|(obtain⟨a,xs,z,_⟩:=h';cases z)
 |.lst ds,e,v,h,h'=>by
  obtain⟨a,xs,rfl,ha,q⟩:=h;cases e with
  |lst es=>
   obtain⟨b,ys,z,hb,q'⟩:=h';cases z;rw[ha]at hb;cases hb;rw[RepL.inj q q']
  |tup es=>
   obtain⟨b,ys,z,hb,q'⟩:=h';cases z;rw[ha]at hb;cases hb
  |_=>cases h'
 |.tup ds,e,v,h,h'=>by
  obtain⟨a,xs,rfl,ha,q⟩:=h;cases e with
  |tup es=>
   obtain⟨b,ys,z,hb,q'⟩:=h';cases z;rw[ha]at hb;cases hb;rw[RepL.inj q q']
  |lst es=>
   obtain⟨b,ys,z,hb,q'⟩:=h';cases z;rw[ha]at hb;cases hb
  |_=>cases h'
theorem RepL.inj{H:Hp}:∀{ds es:List Dat}{xs:List V},RepL H ds xs->RepL H es xs->ds=es
 |[],[],_,_,_=>rfl
 |[],_::_,_,h,h'=>by cases h;obtain⟨x,q,e,_⟩:=h';cases e
 |_::_,[],_,h,h'=>by cases h';obtain⟨x,q,e,_⟩:=h;cases e
 |d::r,e::t,_,h,h'=>by
  obtain⟨x,q,rfl,r1,t1⟩:=h;obtain⟨x',q',z,r2,t2⟩:=h';cases z;rw[Rep.inj r1 r2,RepL.inj t1 t2]
end
mutual
theorem Dat.eq_refl:∀d:Dat,Dat.eq d d=true
 |.non=>by simp[Dat.eq]
 |.bl _=>by simp[Dat.eq]
 |.int _=>by simp[Dat.eq]
 |.str _=>by simp[Dat.eq]
 |.lst xs=>by rw[Dat.eq];exact Dat.eqL_refl xs
 |.tup xs=>by rw[Dat.eq];exact Dat.eqL_refl xs
theorem Dat.eqL_refl:∀ds:List Dat,Dat.eqL ds ds=true
 |[]=>by simp[Dat.eqL]
 |d::r=>by rw[Dat.eqL,Dat.eq_refl d,Dat.eqL_refl r];rfl
end
theorem RepL.length{H:Hp}:∀{ds:List Dat}{xs:List V},RepL H ds xs->xs.length=ds.length
 |[],_,h=>by cases h;rfl
 |_::_,_,h=>by obtain⟨x,q,e,r,t⟩:=h;subst e;simp[RepL.length t]
theorem Dat.eqL_len:∀{xs ys:List Dat},xs.length≠ys.length->Dat.eqL xs ys=false
 |[],[],h=>absurd rfl h
 |[],_::_,_=>by simp[Dat.eqL]
 |_::_,[],_=>by simp[Dat.eqL]
 |x::r,y::q,h=>by
  rw[Dat.eqL,Dat.eqL_len (fun e=>h (by simp[e])),qCu]
theorem Dat.eqL_all:∀{xs ys:List Dat},xs.length=ys.length->∀(e:Nat->Bool),(∀j (h1:j<xs.length) (h2:j<ys.length),e j=Dat.eq xs[j] ys[j])->(qA6 xs.length).all e=Dat.eqL xs ys
 |[],[],_,_,_=>by simp[Dat.eqL]
 |[],_::_,h,_,_=>by simp at h
 |_::_,[],h,_,_=>by simp at h
 |x::r,y::q,h,e,he=>by
  have hl:r.length=q.length:=by simpa using h
  rw[qAu,qEu,qCh,Dat.eqL,he 0 (by simp) (by simp)]
  have:=Dat.eqL_all (xs:=r) (ys:=q) hl (fun j=>e (j+1)) (fun j h1 h2=>by
   rw[he (j+1) (by simpa using h1) (by simpa using h2)];simp)
  rw[<- this,qHs];rfl
theorem RepL.get{H:Hp}:∀{ds:List Dat}{xs:List V}{i:Nat}{x:V},RepL H ds xs->xs[i]?=some x->∃d,ds[i]?=some d/\Rep H d x
 |[],_,_,_,h,e=>by cases h;simp at e
 |d::_,_,0,_,h,e=>by obtain⟨x,q,e1,r,t⟩:=h;subst e1;simp at e;subst e;exact⟨d,rfl,r⟩
 |_::_,_,i+1,_,h,e=>by
  obtain⟨x,q,e1,r,t⟩:=h;subst e1;obtain⟨d',h1,h2⟩:=RepL.get (i:=i) t (by simpa using e);exact⟨d',by simpa using h1,h2⟩
theorem Dat.depL_mem{d:Dat}:∀{ds:List Dat},d∈ds->d.dep<=Dat.depL ds
 |_::_,h=>by
  rw[Dat.depL]
  rcases qAb.mp h with rfl|h
  ·exact Nat.le_max_left _ _
  ·exact qAp (Dat.depL_mem h) (Nat.le_max_right _ _)
section
variable{P:Program}{w:World}{H:Hp}
theorem zDF(A:Around):A.in1.units=A.units+1:=rfl
theorem zAQ{s:Shared}{a:Addr}{xs:List V}(ok:HOk P w H s.heap)(h:H a=some (.lst xs)):∃its:List Value,Vals xs its/\s.heap.IsList a its.toArray:=by
 obtain⟨_,its,n,r,e⟩:=ok a _ h;exact⟨its,r,⟨_,e,rfl,n,rfl⟩⟩
theorem zAZ{s:Shared}{a:Addr}{xs:List V}(ok:HOk P w H s.heap)(h:H a=some (.tup xs)):∃its:List Value,Vals xs its/\s.heap.IsTuple a its.toArray:=by
 obtain⟨_,its,r,e⟩:=ok a _ h;exact⟨its,r,e⟩
theorem Rep.flat{d:Dat}{v:V}(h:Rep H d v)(hf:d.dep=0):zDG v=true:=by
 cases d with
 |non=>cases h;rfl
 |bl _=>cases h;rfl
 |int _=>cases h;rfl
 |str _=>cases h;rfl
 |lst _=>simp[Dat.dep]at hf
 |tup _=>simp[Dat.dep]at hf
theorem Rep.flatEq{d e:Dat}{v u:V}(h:Rep H d v)(h':Rep H e u)(hf:d.dep=0)(hf':e.dep=0):eqV v u=Dat.eq d e:=by
 cases d<;>cases e<;>first
  |(simp[Dat.dep]at hf;done)
  |(simp[Dat.dep]at hf';done)
  |(cases h;cases h';simp[eqV,Dat.eq];done)
theorem zUE:∀(n:Nat){d e:Dat}{v u:V}{x y:Value}{A:Around}{s:Shared},d.dep<=n->HOk P w H s.heap->Rep H d v->Rep H e u->RelV v x->RelV u y->A.units+n<cLine->SeqAt.EqAt A s x y (Dat.eq d e):=by
 intro n
 induction n with
 |zero=>
  intro d e v u x y A s hd ok h1 h2 r1 r2 hu;have f1:=h1.flat (by omega)
  by_cases he:e.dep=0
  ·have f2:=h2.flat he
   have:=zW2 (A:=A) (s:=s) r1 r2 f1 f2
   rw[h1.flatEq h2 (by omega) he]at this;exact this
  ·have hu':A.units<cLine:=by omega
   cases e with
   |lst ys=>
    obtain⟨a,xs,rfl,ha,_⟩:=h2;obtain⟨its,_,hl⟩:=zAQ ok ha;cases r2;cases d with
    |non=>cases h1;cases r1;exact SeqAt.EqAt.none_list hl hu'
    |bl b=>cases h1;cases r1;exact SeqAt.EqAt.bool_list b hl hu'
    |int i=>cases h1;obtain⟨t,rfl⟩:=r1;exact SeqAt.EqAt.int_list i t hl hu'
    |str z=>cases h1;obtain⟨t,rfl⟩:=r1;exact SeqAt.EqAt.str_list z t hl hu'
    |lst _=>simp[Dat.dep]at hd
    |tup _=>simp[Dat.dep]at hd
   |tup ys=>
    obtain⟨a,xs,rfl,ha,_⟩:=h2;obtain⟨its,_,hl⟩:=zAZ ok ha;cases r2;cases d with
    |non=>cases h1;cases r1;exact SeqAt.EqAt.none_tuple hl hu'
    |bl b=>cases h1;cases r1;exact SeqAt.EqAt.bool_tuple b hl hu'
    |int i=>cases h1;obtain⟨t,rfl⟩:=r1;exact SeqAt.EqAt.int_tuple i t hl hu'
    |str z=>cases h1;obtain⟨t,rfl⟩:=r1;exact SeqAt.EqAt.str_tuple z t hl hu'
    |lst _=>simp[Dat.dep]at hd
    |tup _=>simp[Dat.dep]at hd
   |_=>simp[Dat.dep]at he
 |succ n ih=>
  intro d e v u x y A s hd ok h1 h2 r1 r2 hu
  by_cases hd0:d.dep<=n
  ·exact ih hd0 ok h1 h2 r1 r2 (by omega)
  have hu':A.units<cLine:=by omega
  have pairs:∀{ds es:List Dat}{xs ys:List V}{its its2:List Value},Dat.depL ds<=n->RepL H ds xs->RepL H es ys->Vals xs its->Vals ys its2->∀j (h1:j<its.toArray.size) (h2:j<its2.toArray.size),
    SeqAt.EqAt A.in1 s its.toArray[j] its2.toArray[j] (Dat.eq (ds.getD j .non) (es.getD j .non)):=by
   intro ds es xs ys its its2 hdl q1 q2 v1 v2 j j1 j2;have l1:j<xs.length:=by have:=v1.length;simp at j1;omega
   have l2:j<ys.length:=by have:=v2.length;simp at j2;omega
   obtain⟨d',e1,p1⟩:=q1.get (i:=j) (x:=xs[j]) (by simp[l1]);obtain⟨e',e2,p2⟩:=q2.get (i:=j) (x:=ys[j]) (by simp[l2]);obtain⟨w1,g1,z1⟩:=v1.get (i:=j) (x:=xs[j]) (by simp[l1]);obtain⟨w2,g2,z2⟩:=v2.get (i:=j) (x:=ys[j]) (by simp[l2]);have k1:its.toArray[j]=w1:=by
    obtain⟨_,k⟩:=qA5.mp g1
    simpa using k
   have k2:its2.toArray[j]=w2:=by
    obtain⟨_,k⟩:=qA5.mp g2
    simpa using k
   rw[k1,k2,qA0,qA0,e1,e2];exact ih (qAp (Dat.depL_mem (qAx e1)) hdl) ok p1 p2 z1 z2 (by rw[zDF];omega)
  cases d with
  |lst ds=>
   have hdl:Dat.depL ds<=n:=by rw[Dat.dep]at hd;omega
   obtain⟨a,xs,rfl,ha,q1⟩:=h1;obtain⟨its,v1,hl1⟩:=zAQ ok ha;cases r1;cases e with
   |non=>cases h2;cases r2;exact SeqAt.EqAt.list_none hl1 hu'
   |bl b=>cases h2;cases r2;exact SeqAt.EqAt.list_bool b hl1 hu'
   |int i=>cases h2;obtain⟨t,rfl⟩:=r2;exact SeqAt.EqAt.list_int i t hl1 hu'
   |str z=>cases h2;obtain⟨t,rfl⟩:=r2;exact SeqAt.EqAt.list_str z t hl1 hu'
   |tup es=>
    obtain⟨b,ys,rfl,hb,q2⟩:=h2;obtain⟨its2,v2,hl2⟩:=zAZ ok hb;cases r2;exact SeqAt.EqAt.of_refs (zXK ha hb (fun z=>nomatch z)) (SeqAt.RcAt.list_tuple hl1 hl2 hu')
   |lst es=>
    obtain⟨b,ys,rfl,hb,q2⟩:=h2;obtain⟨its2,v2,hl2⟩:=zAQ ok hb;cases r2;have len1:its.toArray.size=ds.length:=by have:=v1.length;have:=q1.length;simp;omega
    have len2:its2.toArray.size=es.length:=by have:=v2.length;have:=q2.length;simp;omega
    show SeqAt.EqAt A s (.ref a) (.ref b) (Dat.eqL ds es)
    by_cases hne:a=b
    ·
     subst hne;rw[ha]at hb;cases hb;have same:Dat.eqL ds es=true:=by
      rw[RepL.inj q1 q2];exact Dat.eqL_refl _
     rw[same];exact SeqAt.EqAt.same _
    ·refine SeqAt.EqAt.of_refs hne ?_
     by_cases hs:ds.length=es.length
     ·have:=SeqAt.RcAt.lists (A:=A) (s:=s) hl1 hl2 (by rw[len1,len2,hs]) hu' (pairs hdl q1 q2 v1 v2)
      rw[len1,Dat.eqL_all hs _ (fun j h1 h2=>by rw[qA0,qA0];simp[h1,h2])]at this;exact this
     ·rw[Dat.eqL_len hs];exact SeqAt.RcAt.lists_lengths hl1 hl2 (by rw[len1,len2];simpa using hs) hu'
  |tup ds=>
   have hdl:Dat.depL ds<=n:=by rw[Dat.dep]at hd;omega
   obtain⟨a,xs,rfl,ha,q1⟩:=h1;obtain⟨its,v1,hl1⟩:=zAZ ok ha;cases r1;cases e with
   |non=>cases h2;cases r2;exact SeqAt.EqAt.tuple_none hl1 hu'
   |bl b=>cases h2;cases r2;exact SeqAt.EqAt.tuple_bool b hl1 hu'
   |int i=>cases h2;obtain⟨t,rfl⟩:=r2;exact SeqAt.EqAt.tuple_int i t hl1 hu'
   |str z=>cases h2;obtain⟨t,rfl⟩:=r2;exact SeqAt.EqAt.tuple_str z t hl1 hu'
   |lst es=>
    obtain⟨b,ys,rfl,hb,q2⟩:=h2;obtain⟨its2,v2,hl2⟩:=zAQ ok hb;cases r2;exact SeqAt.EqAt.of_refs (zXK ha hb (fun z=>nomatch z)) (SeqAt.RcAt.tuple_list hl1 hl2 hu')
   |tup es=>
    obtain⟨b,ys,rfl,hb,q2⟩:=h2;obtain⟨its2,v2,hl2⟩:=zAZ ok hb;cases r2;have len1:its.toArray.size=ds.length:=by have:=v1.length;have:=q1.length;simp;omega
    have len2:its2.toArray.size=es.length:=by have:=v2.length;have:=q2.length;simp;omega
    show SeqAt.EqAt A s (.ref a) (.ref b) (Dat.eqL ds es)
    by_cases hne:a=b
    ·subst hne;rw[ha]at hb;cases hb;have same:Dat.eqL ds es=true:=by
      rw[RepL.inj q1 q2];exact Dat.eqL_refl _
     rw[same];exact SeqAt.EqAt.same _
    ·refine SeqAt.EqAt.of_refs hne ?_
     have:=SeqAt.RcAt.tuples (A:=A) (s:=s) hl1 hl2 hu' (pairs hdl q1 q2 v1 v2)
     by_cases hs:ds.length=es.length
     ·rw[len1,len2,<- hs,qG9,beq_self_eq_true,qEf,Dat.eqL_all hs _ (fun j h1 h2=>by rw[qA0,qA0];simp[h1,h2])]at this;exact this
     ·rw[len1,len2,show(ds.length==es.length)=false by simpa using hs,qCu]at this;rw[Dat.eqL_len hs];exact this
  |_=>simp[Dat.dep]at hd0
theorem zFH{n:Nat}{A:Around}{s:Shared}(ok:HOk P w H s.heap){ds es:List Dat}{xs ys:List V}{its its2:List Value}(hdl:Dat.depL ds<=n)(hu:A.units+n<cLine)(q1:RepL H ds xs)(q2:RepL H es ys)(v1:Vals xs its)(v2:Vals ys its2) :
  ∀j (h1:j<its.toArray.size) (h2:j<its2.toArray.size),SeqAt.EqAt A s its.toArray[j] its2.toArray[j] (Dat.eq (ds.getD j .non) (es.getD j .non)):=by
 intro j j1 j2;have l1:j<xs.length:=by have:=v1.length;simp at j1;omega
 have l2:j<ys.length:=by have:=v2.length;simp at j2;omega
 obtain⟨d',e1,p1⟩:=q1.get (i:=j) (x:=xs[j]) (by simp[l1]);obtain⟨e',e2,p2⟩:=q2.get (i:=j) (x:=ys[j]) (by simp[l2]);obtain⟨w1,g1,z1⟩:=v1.get (i:=j) (x:=xs[j]) (by simp[l1]);obtain⟨w2,g2,z2⟩:=v2.get (i:=j) (x:=ys[j]) (by simp[l2]);have k1:its.toArray[j]=w1:=by
  obtain⟨_,k⟩:=qA5.mp g1
  simpa using k
 have k2:its2.toArray[j]=w2:=by
  obtain⟨_,k⟩:=qA5.mp g2
  simpa using k
 rw[k1,k2,qA0,qA0,e1,e2];exact zUE n (qAp (Dat.depL_mem (qAx e1)) hdl) ok p1 p2 z1 z2 hu
theorem zT6(n:Nat){d e:Dat}{v u:V}{x y:Value}{A:Around}{s:Shared}(hd:d.dep<=n)(ok:HOk P w H s.heap)(h1:Rep H d v)(h2:Rep H e u)(r1:RelV v x)(r2:RelV u y)(hu:A.units+n<cLine):SeqAt.RcAt A s x y (Dat.eq d e):=by
 have hu':A.units<cLine:=by omega
 cases d with
 |non=>
  cases h1;cases r1;cases e with
  |non=>
   cases h2;cases r2;exact SeqAt.RcAt.none_none
  |bl b=>
   cases h2;cases r2;exact SeqAt.RcAt.none_bool b
  |int b=>
   cases h2;obtain⟨t2,rfl⟩:=r2;exact SeqAt.RcAt.none_int b t2
  |str b=>
   cases h2;obtain⟨t2,rfl⟩:=r2;exact SeqAt.RcAt.none_str b t2
  |lst es=>
   obtain⟨p2,ys,rfl,hb,q2⟩:=h2;obtain⟨its2,v2,hl2⟩:=zAQ ok hb;cases r2;exact SeqAt.RcAt.none_list hl2 hu'
  |tup es=>
   obtain⟨p2,ys,rfl,hb,q2⟩:=h2;obtain⟨its2,v2,hl2⟩:=zAZ ok hb;cases r2;exact SeqAt.RcAt.none_tuple hl2 hu'
 |bl a=>
  cases h1;cases r1;cases e with
  |non=>
   cases h2;cases r2;exact SeqAt.RcAt.bool_none a
  |bl b=>
   cases h2;cases r2;exact SeqAt.RcAt.bool_bool a b
  |int b=>
   cases h2;obtain⟨t2,rfl⟩:=r2;exact SeqAt.RcAt.bool_int a b t2
  |str b=>
   cases h2;obtain⟨t2,rfl⟩:=r2;exact SeqAt.RcAt.bool_str a b t2
  |lst es=>
   obtain⟨p2,ys,rfl,hb,q2⟩:=h2;obtain⟨its2,v2,hl2⟩:=zAQ ok hb;cases r2;exact SeqAt.RcAt.bool_list a hl2 hu'
  |tup es=>
   obtain⟨p2,ys,rfl,hb,q2⟩:=h2;obtain⟨its2,v2,hl2⟩:=zAZ ok hb;cases r2;exact SeqAt.RcAt.bool_tuple a hl2 hu'
 |int a=>
  cases h1;obtain⟨t1,rfl⟩:=r1;cases e with
  |non=>
   cases h2;cases r2;exact SeqAt.RcAt.int_none a t1
  |bl b=>
   cases h2;cases r2;exact SeqAt.RcAt.int_bool a t1 b
  |int b=>
   cases h2;obtain⟨t2,rfl⟩:=r2;exact SeqAt.RcAt.int_int a t1 b t2
  |str b=>
   cases h2;obtain⟨t2,rfl⟩:=r2;exact SeqAt.RcAt.int_str a t1 b t2
  |lst es=>
   obtain⟨p2,ys,rfl,hb,q2⟩:=h2;obtain⟨its2,v2,hl2⟩:=zAQ ok hb;cases r2;exact SeqAt.RcAt.int_list a t1 hl2 hu'
  |tup es=>
   obtain⟨p2,ys,rfl,hb,q2⟩:=h2;obtain⟨its2,v2,hl2⟩:=zAZ ok hb;cases r2;exact SeqAt.RcAt.int_tuple a t1 hl2 hu'
 |str a=>
  cases h1;obtain⟨t1,rfl⟩:=r1;cases e with
  |non=>
   cases h2;cases r2;exact SeqAt.RcAt.str_none a t1
  |bl b=>
   cases h2;cases r2;exact SeqAt.RcAt.str_bool a t1 b
  |int b=>
   cases h2;obtain⟨t2,rfl⟩:=r2;exact SeqAt.RcAt.str_int a t1 b t2
  |str b=>
   cases h2;obtain⟨t2,rfl⟩:=r2;exact SeqAt.RcAt.str_str a t1 b t2
  |lst es=>
   obtain⟨p2,ys,rfl,hb,q2⟩:=h2;obtain⟨its2,v2,hl2⟩:=zAQ ok hb;cases r2;exact SeqAt.RcAt.str_list a t1 hl2 hu'
  |tup es=>
   obtain⟨p2,ys,rfl,hb,q2⟩:=h2;obtain⟨its2,v2,hl2⟩:=zAZ ok hb;cases r2;exact SeqAt.RcAt.str_tuple a t1 hl2 hu'
 |lst ds=>
  have hdl:Dat.depL ds+1<=n:=by rw[Dat.dep]at hd;exact hd
  obtain⟨p,xs,rfl,ha,q1⟩:=h1;obtain⟨its,v1,hl1⟩:=zAQ ok ha;cases r1;cases e with
  |non=>
   cases h2;cases r2;exact SeqAt.RcAt.list_none hl1 hu'
  |bl b=>
   cases h2;cases r2;exact SeqAt.RcAt.list_bool b hl1 hu'
  |int b=>
   cases h2;obtain⟨t2,rfl⟩:=r2;exact SeqAt.RcAt.list_int b t2 hl1 hu'
  |str b=>
   cases h2;obtain⟨t2,rfl⟩:=r2;exact SeqAt.RcAt.list_str b t2 hl1 hu'
  |lst es=>
   obtain⟨p2,ys,rfl,hb,q2⟩:=h2;obtain⟨its2,v2,hl2⟩:=zAQ ok hb;cases r2;have len1:its.toArray.size=ds.length:=by have:=v1.length;have:=q1.length;simp;omega
   have len2:its2.toArray.size=es.length:=by have:=v2.length;have:=q2.length;simp;omega
   show SeqAt.RcAt A s (.ref p) (.ref p2) (Dat.eqL ds es)
   by_cases hs:ds.length=es.length
   ·have:=SeqAt.RcAt.lists (A:=A) (s:=s) hl1 hl2 (by rw[len1,len2,hs]) hu' (zFH ok (by omega) (by rw[zDF];omega:A.in1.units+(n-1)<cLine) q1 q2 v1 v2)
    rw[len1,Dat.eqL_all hs _ (fun j h1 h2=>by rw[qA0,qA0];simp[h1,h2])]at this;exact this
   ·rw[Dat.eqL_len hs];exact SeqAt.RcAt.lists_lengths hl1 hl2 (by rw[len1,len2];simpa using hs) hu'
  |tup es=>
   obtain⟨p2,ys,rfl,hb,q2⟩:=h2;obtain⟨its2,v2,hl2⟩:=zAZ ok hb;cases r2;exact SeqAt.RcAt.list_tuple hl1 hl2 hu'
 |tup ds=>
  have hdl:Dat.depL ds+1<=n:=by rw[Dat.dep]at hd;exact hd
  obtain⟨p,xs,rfl,ha,q1⟩:=h1;obtain⟨its,v1,hl1⟩:=zAZ ok ha;cases r1;cases e with
  |non=>
   cases h2;cases r2;exact SeqAt.RcAt.tuple_none hl1 hu'
  |bl b=>
   cases h2;cases r2;exact SeqAt.RcAt.tuple_bool b hl1 hu'
  |int b=>
   cases h2;obtain⟨t2,rfl⟩:=r2;exact SeqAt.RcAt.tuple_int b t2 hl1 hu'
  |str b=>
   cases h2;obtain⟨t2,rfl⟩:=r2;exact SeqAt.RcAt.tuple_str b t2 hl1 hu'
  |lst es=>
   obtain⟨p2,ys,rfl,hb,q2⟩:=h2;obtain⟨its2,v2,hl2⟩:=zAQ ok hb;cases r2;exact SeqAt.RcAt.tuple_list hl1 hl2 hu'
  |tup es=>
   obtain⟨p2,ys,rfl,hb,q2⟩:=h2;obtain⟨its2,v2,hl2⟩:=zAZ ok hb;cases r2;have len1:its.toArray.size=ds.length:=by have:=v1.length;have:=q1.length;simp;omega
   have len2:its2.toArray.size=es.length:=by have:=v2.length;have:=q2.length;simp;omega
   show SeqAt.RcAt A s (.ref p) (.ref p2) (Dat.eqL ds es)
   have:=SeqAt.RcAt.tuples (A:=A) (s:=s) hl1 hl2 hu' (zFH ok (by omega) (by rw[zDF];omega:A.in1.units+(n-1)<cLine) q1 q2 v1 v2)
   by_cases hs:ds.length=es.length
   ·rw[len1,len2,<- hs,qG9,beq_self_eq_true,qEf,Dat.eqL_all hs _ (fun j h1 h2=>by rw[qA0,qA0];simp[h1,h2])]at this;exact this
   ·rw[len1,len2,show(ds.length==es.length)=false by simpa using hs,qCu]at this;rw[Dat.eqL_len hs];exact this
theorem zOM(n:Nat){d e:Dat}{v u:V}{x y:Value}{A:Around}{s:Shared}(hd:d.dep<=n)(ok:HOk P w H s.heap)(h1:Rep H d v)(h2:Rep H e u)(r1:RelV v x)(r2:RelV u y)(hu:A.units+n<cLine):SeqAt.RcNeAt A s x y (!Dat.eq d e):=by
 have hu':A.units<cLine:=by omega
 cases d with
 |non=>
  cases h1;cases r1;cases e with
  |non=>
   cases h2;cases r2;exact SeqAt.RcNeAt.none_none
  |bl b=>
   cases h2;cases r2;exact SeqAt.RcNeAt.none_bool b
  |int b=>
   cases h2;obtain⟨t2,rfl⟩:=r2;exact SeqAt.RcNeAt.none_int b t2
  |str b=>
   cases h2;obtain⟨t2,rfl⟩:=r2;exact SeqAt.RcNeAt.none_str b t2
  |lst es=>
   obtain⟨p2,ys,rfl,hb,q2⟩:=h2;obtain⟨its2,v2,hl2⟩:=zAQ ok hb;cases r2;exact SeqAt.RcNeAt.none_list hl2 hu'
  |tup es=>
   obtain⟨p2,ys,rfl,hb,q2⟩:=h2;obtain⟨its2,v2,hl2⟩:=zAZ ok hb;cases r2;exact SeqAt.RcNeAt.none_tuple hl2 hu'
 |bl a=>
  cases h1;cases r1;cases e with
  |non=>
   cases h2;cases r2;exact SeqAt.RcNeAt.bool_none a
  |bl b=>
   cases h2;cases r2;exact SeqAt.RcNeAt.bool_bool a b
  |int b=>
   cases h2;obtain⟨t2,rfl⟩:=r2;exact SeqAt.RcNeAt.bool_int a b t2
  |str b=>
   cases h2;obtain⟨t2,rfl⟩:=r2;exact SeqAt.RcNeAt.bool_str a b t2
  |lst es=>
   obtain⟨p2,ys,rfl,hb,q2⟩:=h2;obtain⟨its2,v2,hl2⟩:=zAQ ok hb;cases r2;exact SeqAt.RcNeAt.bool_list a hl2 hu'
  |tup es=>
   obtain⟨p2,ys,rfl,hb,q2⟩:=h2;obtain⟨its2,v2,hl2⟩:=zAZ ok hb;cases r2;exact SeqAt.RcNeAt.bool_tuple a hl2 hu'
 |int a=>
  cases h1;obtain⟨t1,rfl⟩:=r1;cases e with
  |non=>
   cases h2;cases r2;exact SeqAt.RcNeAt.int_none a t1
  |bl b=>
   cases h2;cases r2;exact SeqAt.RcNeAt.int_bool a t1 b
  |int b=>
   cases h2;obtain⟨t2,rfl⟩:=r2;exact SeqAt.RcNeAt.int_int a t1 b t2
  |str b=>
   cases h2;obtain⟨t2,rfl⟩:=r2;exact SeqAt.RcNeAt.int_str a t1 b t2
  |lst es=>
   obtain⟨p2,ys,rfl,hb,q2⟩:=h2;obtain⟨its2,v2,hl2⟩:=zAQ ok hb;cases r2;exact SeqAt.RcNeAt.int_list a t1 hl2 hu'
  |tup es=>
   obtain⟨p2,ys,rfl,hb,q2⟩:=h2;obtain⟨its2,v2,hl2⟩:=zAZ ok hb;cases r2;exact SeqAt.RcNeAt.int_tuple a t1 hl2 hu'
 |str a=>
  cases h1;obtain⟨t1,rfl⟩:=r1;cases e with
  |non=>
   cases h2;cases r2;exact SeqAt.RcNeAt.str_none a t1
  |bl b=>
   cases h2;cases r2;exact SeqAt.RcNeAt.str_bool a t1 b
  |int b=>
   cases h2;obtain⟨t2,rfl⟩:=r2;exact SeqAt.RcNeAt.str_int a t1 b t2
  |str b=>
   cases h2;obtain⟨t2,rfl⟩:=r2;exact SeqAt.RcNeAt.str_str a t1 b t2
  |lst es=>
   obtain⟨p2,ys,rfl,hb,q2⟩:=h2;obtain⟨its2,v2,hl2⟩:=zAQ ok hb;cases r2;exact SeqAt.RcNeAt.str_list a t1 hl2 hu'
  |tup es=>
   obtain⟨p2,ys,rfl,hb,q2⟩:=h2;obtain⟨its2,v2,hl2⟩:=zAZ ok hb;cases r2;exact SeqAt.RcNeAt.str_tuple a t1 hl2 hu'
 |lst ds=>
  have hdl:Dat.depL ds+1<=n:=by rw[Dat.dep]at hd;exact hd
  obtain⟨p,xs,rfl,ha,q1⟩:=h1;obtain⟨its,v1,hl1⟩:=zAQ ok ha;cases r1;cases e with
  |non=>
   cases h2;cases r2;exact SeqAt.RcNeAt.list_none hl1 hu'
  |bl b=>
   cases h2;cases r2;exact SeqAt.RcNeAt.list_bool b hl1 hu'
  |int b=>
   cases h2;obtain⟨t2,rfl⟩:=r2;exact SeqAt.RcNeAt.list_int b t2 hl1 hu'
  |str b=>
   cases h2;obtain⟨t2,rfl⟩:=r2;exact SeqAt.RcNeAt.list_str b t2 hl1 hu'
  |lst es=>
   obtain⟨p2,ys,rfl,hb,q2⟩:=h2;obtain⟨its2,v2,hl2⟩:=zAQ ok hb;cases r2;have len1:its.toArray.size=ds.length:=by have:=v1.length;have:=q1.length;simp;omega
   have len2:its2.toArray.size=es.length:=by have:=v2.length;have:=q2.length;simp;omega
   show SeqAt.RcNeAt A s (.ref p) (.ref p2) (!Dat.eqL ds es)
   by_cases hs:ds.length=es.length
   ·have:=SeqAt.RcNeAt.lists (A:=A) (s:=s) hl1 hl2 (by rw[len1,len2,hs]) hu' (zFH ok (by omega) (by rw[zDF];omega:A.in1.units+(n-1)<cLine) q1 q2 v1 v2)
    rw[len1,Dat.eqL_all hs _ (fun j h1 h2=>by rw[qA0,qA0];simp[h1,h2])]at this;exact this
   ·rw[Dat.eqL_len hs];exact SeqAt.RcNeAt.lists_lengths hl1 hl2 (by rw[len1,len2];simpa using hs) hu'
  |tup es=>
   obtain⟨p2,ys,rfl,hb,q2⟩:=h2;obtain⟨its2,v2,hl2⟩:=zAZ ok hb;cases r2;exact SeqAt.RcNeAt.list_tuple hl1 hl2 hu'
 |tup ds=>
  have hdl:Dat.depL ds+1<=n:=by rw[Dat.dep]at hd;exact hd
  obtain⟨p,xs,rfl,ha,q1⟩:=h1;obtain⟨its,v1,hl1⟩:=zAZ ok ha;cases r1;cases e with
  |non=>
   cases h2;cases r2;exact SeqAt.RcNeAt.tuple_none hl1 hu'
  |bl b=>
   cases h2;cases r2;exact SeqAt.RcNeAt.tuple_bool b hl1 hu'
  |int b=>
   cases h2;obtain⟨t2,rfl⟩:=r2;exact SeqAt.RcNeAt.tuple_int b t2 hl1 hu'
  |str b=>
   cases h2;obtain⟨t2,rfl⟩:=r2;exact SeqAt.RcNeAt.tuple_str b t2 hl1 hu'
  |lst es=>
   obtain⟨p2,ys,rfl,hb,q2⟩:=h2;obtain⟨its2,v2,hl2⟩:=zAQ ok hb;cases r2;exact SeqAt.RcNeAt.tuple_list hl1 hl2 hu'
  |tup es=>
   obtain⟨p2,ys,rfl,hb,q2⟩:=h2;obtain⟨its2,v2,hl2⟩:=zAZ ok hb;cases r2;have len1:its.toArray.size=ds.length:=by have:=v1.length;have:=q1.length;simp;omega
   have len2:its2.toArray.size=es.length:=by have:=v2.length;have:=q2.length;simp;omega
   show SeqAt.RcNeAt A s (.ref p) (.ref p2) (!Dat.eqL ds es)
   have:=SeqAt.RcNeAt.tuples (A:=A) (s:=s) hl1 hl2 hu' (zFH ok (by omega) (by rw[zDF];omega:A.in1.units+(n-1)<cLine) q1 q2 v1 v2)
   by_cases hs:ds.length=es.length
   ·rw[len1,len2,<- hs,qG9,beq_self_eq_true,qEf,Dat.eqL_all hs _ (fun j h1 h2=>by rw[qA0,qA0];simp[h1,h2])]at this;exact this
   ·rw[len1,len2,show(ds.length==es.length)=false by simpa using hs,qCu]at this;rw[Dat.eqL_len hs];exact this
end
section
variable{X:Cx}
noncomputable def rEqD:R2:=fun x y H Q=>∃d e,Rep H d x/\Rep H e y/\d.dep<=40/\Q (.bl (Dat.eq d e)) H
noncomputable def rNeD:R2:=fun x y H Q=>∃d e,Rep H d x/\Rep H e y/\d.dep<=40/\Q (.bl (!Dat.eq d e)) H
theorem zaG(hu:X.A.units+64<cLine):OpR X (compareOp .Eq) rEqD:=by
 intro pins s σ H x y v u Q I rx ry h;obtain⟨d,e,h1,h2,hd,q⟩:=h;exact zT6 40 hd I.hok h1 h2 rx ry (by omega) _ _ _ _ ⟨.bl _,H,I,rfl,q⟩
theorem zaE(hu:X.A.units+64<cLine):OpR X (compareOp .NotEq) rNeD:=by
 intro pins s σ H x y v u Q I rx ry h;obtain⟨d,e,h1,h2,hd,q⟩:=h;exact zOM 40 hd I.hok h1 h2 rx ry (by omega) _ _ _ _ ⟨.bl _,H,I,rfl,q⟩
noncomputable def zFP(H:Hp):V->Option String
 |.non=>some "NoneType"
 |.bl _=>some "bool"
 |.int _=>some "int"
 |.str _=>some "str"
 |.ref a=>match H a with
  |some (.lst _)=>some "list"
  |some (.tup _)=>some "tuple"
  |some (.dK _)=>some "dict"
  |_=>none
 |_=>none
noncomputable def zY1(T n:String):Bool:=T==n||(T == "bool" && n == "int")
theorem zMG:zD4 X (.builtin "isinstance") (fun vs H Q=>∃x n T,vs=[x,.ty n]/\zFP H x=some T/\n∈["int","bool","str","list","tuple","dict"]/\Q (.bl (zY1 T n)) H):=by
 intro pins s σ H vs us Q I r h;obtain⟨x,n,T,rfl,ht,hn,q⟩:=h;obtain⟨u,w',rfl,rx,rn⟩:=zZ8 r
 cases(show w'=Value.type n from rn)
 have key:∃t,TyOf X.K H x t/\t=.type T:=by
  cases x with
  |non=>cases ht;exact⟨_,.non,rfl⟩
  |bl b=>cases ht;exact⟨_,.bl b,rfl⟩
  |int b=>cases ht;exact⟨_,.int b,rfl⟩
  |str b=>cases ht;exact⟨_,.str b,rfl⟩
  |ref a=>
   unfold zFP at ht;dsimp only at ht;cases e:H a with
   |none=>rw[e]at ht;cases ht
   |some o=>
    rw[e]at ht;cases o with
    |lst xs=>cases ht;exact⟨_,.lst e,rfl⟩
    |tup xs=>cases ht;exact⟨_,.tup e,rfl⟩
    |dK xs=>cases ht;exact⟨_,.dK e,rfl⟩
    |_=>cases ht
  |_=>cases ht
 obtain⟨t,ty,rfl⟩:=key;have hT:T∈["NoneType","bool","int","str","list","tuple","dict"]:=by
  cases x with
  |non=>cases ht;decide
  |bl b=>cases ht;decide
  |int b=>cases ht;decide
  |str b=>cases ht;decide
  |ref a=>
   unfold zFP at ht;dsimp only at ht;cases e:H a with
   |none=>rw[e]at ht;cases ht
   |some o=>
    rw[e]at ht;cases o with
    |lst xs=>cases ht;decide
    |tup xs=>cases ht;decide
    |dK xs=>cases ht;decide
    |_=>cases ht
  |_=>cases ht
 have e:qH2 X.K (.type T) (.type n)=some (zY1 T n):=by
  simp only[qAb,List.mem_nil_iff,or_false]at hT hn
  rcases hT with rfl|rfl|rfl|rfl|rfl|rfl|rfl<;>rcases hn with rfl|rfl|rfl|rfl|rfl|rfl<;>rfl
 exact zRD I rx ty e fun tk=>⟨.bl _,H,I.tok tk,rfl,q⟩
theorem zL1{prog:Program}{w:World}{A:Around}{bs:List Bool}:TruthOf prog w A (fun i v=>(bs.map Value.bool).toArray[i]?=some v) (fun i=>bs.getD i false):=by
 intro i v s Q E hv hq;have hv':(bs[i]?).map Value.bool=some v:=by simpa using hv
 cases e:bs[i]? with
 |none=>rw[e]at hv';cases hv'
 |some b=>
  rw[e]at hv';cases hv';dsimp only at hq;rw[qA0,e]at hq;exact wpAny_truthy_bool hq
theorem zH2:∀{bs:List Bool}{its:List Value},Vals (bs.map V.bl) its->its=bs.map Value.bool
 |[],_,.nil=>rfl
 |b::r,_,.cons h t=>by
  have h':_=Value.bool b:=h;rw[h',zH2 t];rfl
theorem zO5:∀(bs:List Bool),(qA6 bs.length).all (fun i=>bs.getD i false)=bs.all id
 |[]=>rfl
 |b::r=>by
  rw[qAu,qEu,qCh,qCh,<- zO5 r,qHs];rfl
theorem zUS(hc:X.calm=true):zD4 X (.builtin "all") (fun vs H Q=>∃(a:Addr)(bs:List Bool),vs=[.ref a]/\H a=some (.lst (bs.map V.bl))/\Q (.bl (bs.all id)) H):=by
 intro pins s σ H vs us Q I r h;obtain⟨a,bs,rfl,ha,q⟩:=h;obtain⟨u,rfl,rx⟩:=zCR r;cases rx;obtain⟨its,rv,hl⟩:=zAQ I.hok ha;have e:=zH2 rv;subst e;refine call_all_walk (wpAny_pyIter_list hl ?_);have hlt:a<s.heap.objs.size:=by obtain⟨o,ho,_⟩:=hl;exact Heap.lt_size ho
 refine⟨s.heap.objs.size,_,_,_,_,_,fun i=>bs.getD i false,rfl,Walks.list (show X.A.in1.handled=none from I.ok.hd hc) s.heap.objs.size a (qAn hlt) _,
  ⟨⟨_,Heap.get?_push_size _ rfl,rfl,rfl⟩,hl.at fun o e=>Heap.get?_push_of_some _ e⟩,zL1,fun h' tk hk=>?_⟩
 refine⟨.bl _,H,I.kept (t':=tk) fun b o e=>hk b o ?_ (Heap.get?_push_of_some _ e),rfl,?_⟩
 ·have:=Heap.lt_size e
  simp only[qAv];exact qAn this
 ·have:(bs.map Value.bool).toArray.size=bs.length:=by simp
  rw[this,zO5];exact q
noncomputable def zI8(lo:Int)(n:Nat):List V:=(qA6 n).map fun i=>.int (lo+(i:Nat))
theorem zFL:∀{xs:List V}{its:List Value},xs.length=its.length->(∀(j:Nat)(x:V)(v:Value),xs[j]?=some x->its[j]?=some v->RelV x v)->Vals xs its
 |[],[],_,_=>.nil
 |[],_::_,h,_=>by simp at h
 |_::_,[],h,_=>by simp at h
 |x::xs,v::its,h,g=>.cons (g 0 x v rfl rfl) (zFL (by simpa using h) fun j y u e1 e2=>g (j+1) y u (by simpa using e1) (by simpa using e2))
theorem zPN{lo:Int}{n:Nat}{its:List Value}(hl:its.length=n)(h:∀(j:Nat) (v:Value),its[j]?=some v->∃t,v=Value.int (lo+(j:Int)*1) t):Vals (zI8 lo n) its:=by
 refine zFL (by simp[zI8,hl]) fun j x v e1 e2=>?_
 unfold zI8 at e1;rw[qAh]at e1;cases e:(qA6 n)[j]? with
 |none=>rw[e]at e1;cases e1
 |some i=>
  rw[e]at e1;cases e1;have hi:i=j:=by
   obtain⟨h1,h2⟩:=qA5.mp e;rw[qC3]at h2;exact h2.symm
  subst hi;obtain⟨t,ht⟩:=h i v e2;exact⟨t,by rw[ht,qHy]⟩
theorem zIV(hc:X.calm=true):zD4 X (.type "list") (fun vs H Q=>∃p lo hi,vs=[.ref p]/\H p=some (.rng lo hi)/\(-(2 ^ 62)<=lo/\lo<2 ^ 62/\-(2 ^ 62)<=hi/\hi<2 ^ 62)/\hi-lo<=1000000/\∀l,H l=none->Q (.ref l) (upd H l (.lst (zI8 lo (hi-lo).toNat)))):=by
 intro pins s σ H vs us Q I r h;obtain⟨p,lo,hi,rfl,hp,⟨b1,b2,b3,b4⟩,hz,q⟩:=h;obtain⟨u,rfl,rx⟩:=zCR r;cases rx;obtain⟨t,u,v,e⟩:=(show ObjOk X.prog X.w H s.heap p (.rng lo hi) from I.hok p _ hp)
 have hn:Builtin.Range.rangeSize lo hi 1=(((hi-lo).toNat:Nat):Int):=by rw[rangeSize_one];split<;>omega
 refine call_list_range (n:=(hi-lo).toNat) (I.ok.hd hc) e (small_one b1 b2 b3 b4) hn (by omega) fun h' tk acc' c' hk hS hacc=>?_
 have rv:Vals (zI8 lo (hi-lo).toNat) acc'.toList:=zPN (by simpa using hacc.1) fun j v hj=>hacc.2 j v (by simpa using hj)
 refine⟨.ref _,_,I.laid (o:=.lst (zI8 lo (hi-lo).toNat)) hk (qA7 _) ⟨?_,acc'.toList,c',rv,by simpa using hS⟩,rfl,q _ I.fresh⟩;have hl:(zI8 lo (hi-lo).toNat).length=(hi-lo).toNat:=by simp[zI8]
 rw[hl,sizeLine_eq];omega
end
end L2
namespace L2
open PySem PySem.Spec PyProof.Rows
section
variable{X:Cx}
def zX6:R2:=fun x y H Q=>match x,y with
 |.int i,.int j=>Q (.int (i+j)) H
 |.str i,.str j=>i.length+j.length<=sizeLine/\Q (.str (i++j)) H
 |.ref l,.ref b=>∃xs zs,H l=some (.lst xs)/\H b=some (.lst zs)/\xs.length+zs.length<=sizeLine/\∀p,H p=none->Q (.ref p) (upd H p (.lst (xs++zs)))
 |_,_=>False
theorem zD6:OpR X (binaryOp .Add) zX6:=by
 intro pins s σ H x y v u Q I rx ry h;cases x<;>cases y<;>first
  |exact zaI pins s σ H _ _ v u Q I rx ry ⟨_,_,rfl,rfl,h⟩
  |exact zOP pins s σ H _ _ v u Q I rx ry ⟨_,_,rfl,rfl,h.1,h.2⟩
  |(obtain⟨xs,zs,h1,h2,h3,h4⟩:=h;exact zaH pins s σ H _ _ v u Q I rx ry ⟨_,_,xs,zs,rfl,rfl,h1,h2,h3,h4⟩)
  |exact qA3 h
noncomputable def rMulU:R2:=fun x y H Q=>match x,y with
 |.int i,.int j=>CMul i j/\Q (.int (i*j)) H
 |_,_=>False
noncomputable def zZW:R2:=fun x y H Q=>match x,y with
 |.int i,.int j=>Q (.int (i-j)) H
 |_,_=>False
theorem zc8:OpR X (binaryOp .Sub) zZW:=by
 intro pins s σ H x y v u Q I rx ry h;cases x<;>cases y<;>first
  |exact zaC pins s σ H _ _ v u Q I rx ry ⟨_,_,rfl,rfl,h⟩
  |exact qA3 h
noncomputable def za1:R2:=fun x y H Q=>match x,y with
 |.int i,.int j=>0<j/\Q (.int (i%j)) H
 |_,_=>False
theorem zF9:OpR X (binaryOp .Mod) za1:=by
 intro pins s σ H x y v u Q I rx ry h;cases x<;>cases y<;>first
  |exact zaF pins s σ H _ _ v u Q I rx ry ⟨_,_,rfl,rfl,h.1,h.2⟩
  |exact qA3 h
noncomputable def zZY:R2:=fun x y H Q=>match x,y with
 |.int i,.int j=>CPow i j/\Q (.int (i ^ j.toNat)) H
 |_,_=>False
theorem zZC:OpR X (binaryOp .Pow) zZY:=by
 intro pins s σ H x y v u Q I rx ry h;cases x<;>cases y<;>first
  |exact zaD pins s σ H _ _ v u Q I rx ry ⟨_,_,rfl,rfl,h.1,h.2⟩
  |exact qA3 h
noncomputable def zX4(p:Int->Int->Bool):R2:=fun x y H Q=>match x,y with
 |.int i,.int j=>Q (.bl (p i j)) H
 |_,_=>False
theorem u_lt:OpR X (compareOp .Lt) (zX4 fun i j=>decide (i<j)):=by
 intro pins s σ H x y v u Q I rx ry h;cases x<;>cases y<;>first
  |exact zcL pins s σ H _ _ v u Q I rx ry ⟨_,_,rfl,rfl,h⟩
  |exact qA3 h
theorem u_gt:OpR X (compareOp .Gt) (zX4 fun i j=>decide (j<i)):=by
 intro pins s σ H x y v u Q I rx ry h;cases x<;>cases y<;>first
  |exact zcM pins s σ H _ _ v u Q I rx ry ⟨_,_,rfl,rfl,h⟩
  |exact qA3 h
def rEqU:R2:=fun x y H Q=>match x,y with
 |.int i,.int j=>Q (.bl (decide (i=j))) H
 |.str i,.str j=>Q (.bl (decide (i=j))) H
 |.bl i,.bl j=>Q (.bl (decide (i=j))) H
 |x,y=>rEqD x y H Q
def rNeU:R2:=fun x y H Q=>match x,y with
 |.int i,.int j=>Q (.bl (!decide (i=j))) H
 |.str i,.str j=>Q (.bl (!decide (i=j))) H
 |.bl i,.bl j=>Q (.bl (!decide (i=j))) H
 |x,y=>rNeD x y H Q
theorem u_eq(hu:X.A.units+64<cLine):OpR X (compareOp .Eq) rEqU:=by
 intro pins s σ H x y v u Q I rx ry h;cases x<;>cases y<;>first
  |(refine zcN pins s σ H _ _ v u Q I rx ry ⟨rfl,?_⟩;have h':=h;simp only[rEqU]at h';simpa using h')
  |exact zaG hu pins s σ H _ _ v u Q I rx ry h
theorem u_ne(hu:X.A.units+64<cLine):OpR X (compareOp .NotEq) rNeU:=by
 intro pins s σ H x y v u Q I rx ry h;cases x<;>cases y<;>first
  |(refine zcK pins s σ H _ _ v u Q I rx ry ⟨rfl,?_⟩;have h':=h;simp only[rNeU]at h';simpa using h')
  |exact zaE hu pins s σ H _ _ v u Q I rx ry h
def rIxU(K:qA1):R2:=fun x y H Q=>match x,y with
 |.str z,.int i=>∃c,z.length<=sizeLine/\atI z.cps.toList i=some c/\Q (.str ⟨#[c]⟩) H
 |.ref p,.int i=>∃xs v,(SqL K H p xs\/SqT K H p xs)/\atI xs i=some v/\Q v H
 |_,_=>False
theorem u_ix:IxR X (rIxU X.K):=by
 intro value slice pins s σ H x y v u Q I rx ry h hs;cases x<;>cases y<;>first
  |(obtain⟨c,h1,h2,h3⟩:=h;exact zaV value slice pins s σ H _ _ v u Q I rx ry ⟨_,_,c,rfl,rfl,h1,h2,h3⟩ hs)
  |(obtain⟨xs,w,h1|h1,h2,h3⟩:=h
    ·exact zXX value slice pins s σ H _ _ v u Q I rx ry ⟨_,xs,_,w,rfl,rfl,h1,h2,h3⟩ hs
    ·exact zaT value slice pins s σ H _ _ v u Q I rx ry ⟨_,xs,_,w,rfl,rfl,h1,h2,h3⟩ hs)
  |exact qA3 h
def zX2(K:qA1):List V->Hp->VK->Prop:=fun vs H Q=>match vs with
 |[.str z]=>z.length<=sizeLine/\Q (.int z.length) H
 |[.ref p]=>∃xs,(SqL K H p xs\/SqT K H p xs)/\Q (.int xs.length) H
 |_=>False
theorem zcP:zD4 X (.builtin "len") (zX2 X.K):=by
 intro pins s σ H vs us Q I r h;cases vs with
 |nil=>exact qA3 h
 |cons hd1 tl1=>
  cases hd1 with
  |str z=>
   cases tl1 with
   |nil=>
    exact zKL pins s σ H _ us Q I r ⟨z,rfl,h.1,h.2⟩
   |cons _ _=>exact qA3 h
  |ref p=>
   cases tl1 with
   |nil=>
    obtain⟨xs,h1,h2⟩:=h;exact zKM pins s σ H _ us Q I r ⟨p,xs,rfl,h1,h2⟩
   |cons _ _=>exact qA3 h
  |_=>exact qA3 h
def zQ7(K:qA1):List V->Hp->VK->Prop:=fun vs H Q=>match vs with
 |[.ref p]=>(∃xs,(SqL K H p xs\/SqT K H p xs)/\∀l,H l=none->Q (.ref l) (upd H l (.lst xs))) \/
   ∃lo hi,H p=some (.rng lo hi)/\(-(2 ^ 62)<=lo/\lo<2 ^ 62/\-(2 ^ 62)<=hi/\hi<2 ^ 62)/\hi-lo<=1000000/\∀l,H l=none->Q (.ref l) (upd H l (.lst (zI8 lo (hi-lo).toNat)))
 |_=>False
theorem zEI(hc:X.calm=true):zD4 X (.type "list") (zQ7 X.K):=by
 intro pins s σ H vs us Q I r h;cases vs with
 |nil=>exact qA3 h
 |cons hd1 tl1=>
  cases hd1 with
  |ref p=>
   cases tl1 with
   |nil=>
    rcases h with⟨xs,h1,h2⟩|⟨lo,hi,h1,h2,h3,h4⟩
    ·exact zKK pins s σ H _ us Q I r ⟨p,xs,rfl,h1,h2⟩
    ·exact zIV hc pins s σ H _ us Q I r ⟨p,lo,hi,rfl,h1,h2,h3,h4⟩
   |cons _ _=>exact qA3 h
  |_=>exact qA3 h
def za2:List V->Hp->VK->Prop:=fun vs H Q=>match vs with
 |[x,.ty n]=>∃T,zFP H x=some T/\n∈["int","bool","str","list","tuple","dict"]/\Q (.bl (zY1 T n)) H
 |_=>False
theorem zDD:zD4 X (.builtin "isinstance") za2:=by
 intro pins s σ H vs us Q I r h;cases vs with
 |nil=>exact qA3 h
 |cons x tl1=>
  cases tl1 with
  |nil=>exact qA3 h
  |cons hd2 tl2=>
   cases hd2 with
   |ty n=>
    cases tl2 with
    |nil=>
     obtain⟨T,h1,h2,h3⟩:=h;exact zMG pins s σ H _ us Q I r ⟨x,n,T,rfl,h1,h2,h3⟩
    |cons _ _=>exact qA3 h
   |_=>exact qA3 h
def za4:List V->Hp->VK->Prop:=fun vs H Q=>match vs with
 |[.ref a]=>∃bs:List Bool,H a=some (.lst (bs.map V.bl))/\Q (.bl (bs.all id)) H
 |_=>False
theorem zcQ(hc:X.calm=true):zD4 X (.builtin "all") za4:=by
 intro pins s σ H vs us Q I r h;cases vs with
 |nil=>exact qA3 h
 |cons hd1 tl1=>
  cases hd1 with
  |ref a=>
   cases tl1 with
   |nil=>
    obtain⟨bs,h1,h2⟩:=h;exact zUS hc pins s σ H _ us Q I r ⟨a,bs,rfl,h1,h2⟩
   |cons _ _=>exact qA3 h
  |_=>exact qA3 h
end
noncomputable def zKH(N N':List Str)(k:Nat)(sc esc:Scope):Bool:=
 (sc.kind==.function)&&decide ((sc.names.map (·.1)).Nodup)&&(N'.length==N.length+k) &&
 ((qA6 N.length).all fun i=>match N'[i]? with
  |none=>true
  |some x=>(sc.names.lookup x==none)||(sc.names.any (fun p=>p.1==x&&p.2==.free)&&N[i]?==some x)) &&
 (sc.names.all fun p=>p.2 != .free||esc.names.lookup p.1==some .cell||esc.names.lookup p.1==some .free)
theorem cn{X:Cx}{sc:Scope}(N':List Str)(k:Nat)(h:zKH X.N N' k sc X.env.scope=true):CompNames X.N N' k sc X.env:=by
 unfold zKH at h;simp only[qBc,decide_eq_true_eq,beq_iff_eq]at h;obtain⟨⟨⟨⟨h1,h2⟩,h3⟩,h4⟩,h5⟩:=h;refine⟨h1,h2,h3,fun i x e hi=>?_,fun x hx=>?_⟩
 ·have q:=qEr.mp h4 i (qCi.mpr hi);rw[e]at q;simp only[qGl,qBc,beq_iff_eq,qEs]at q
  rcases q with q|⟨⟨p,hp,e1,e2⟩,e3⟩
  ·exact .inr q
  ·obtain⟨y,kk⟩:=p;dsimp only at e1 e2;subst e1;subst e2;exact .inl ⟨hp,e3⟩
 ·have q:=qEr.mp h5 _ hx;simp only[qGl,bne_iff_ne,ne_eq,not_true_eq_false,false_or,beq_iff_eq]at q;exact q
theorem PE.imp{X:Cx}{e:Expr}{t t':TE}(h:PE X e t)(i:∀σ H Q,t' σ H Q->t σ H Q):PE X e t':=fun pins s σ H Q I q=>h pins s σ H Q I (i σ H Q q)
noncomputable def vM(i:Nat):TE:=fun σ H Q=>match σ[i]? with
 |some (some v)=>Q v H
 |_=>False
theorem pn{X:Cx}(i:Nat){x:Str}{pos:Pos}(hN:X.N[i]?=some x:=by rfl)(hv:Vis X.env.scope x:=by first|exact qI0 rfl|exact qHh (qI0 rfl)|exact qHh (qHh rfl))(hd:(x==("__debug__":Str))=false:=by decide)
  (hcd:(x==("__classdict__":Str))=false:=by decide):PE X (.Name x pos) (vM i):=(zVH hN hv hd hcd).imp fun σ H Q h=>by
 unfold vM at h;cases e:σ[i]? with
 |none=>rw[e]at h;exact qA3 h
 |some w=>
  rw[e]at h;cases w with
  |none=>exact qA3 h
  |some v=>exact⟨v,e,h⟩
noncomputable def bM(t:TE):TT:=fun σ H Q=>t σ H fun x H'=>match x with
 |.bl k=>Q k H'
 |.int i=>Q (i != 0) H'
 |.non=>Q false H'
 |_=>False
section
variable{X:Cx}{a b c:Expr}{ta tb tc:TE}{tA tB:TT}{rest:List Expr}{pos:Pos}
theorem zZD{K:qA1}{x:V}{H:Hp}{Q:Bool->Hp->Prop}(h:match x with | .bl k=>Q k H | .int i=>Q (i != 0) H | .non=>Q false H|_=>False):∃k,TruV K x H k/\Q k H:=by
 cases x with
 |bl k=>exact⟨k,rfl,h⟩
 |int i=>exact⟨_,rfl,h⟩
 |non=>exact⟨_,rfl,h⟩
 |_=>exact qA3 h
theorem pt_m(ha:PE X a ta)(he:∀whole,isTrue a X.env whole=(do let v <- whole;standAt a.pos;holding [v] (truthy v)):=by intro _;rfl):PT X a (bM ta):=by
 intro pins s σ H Q I h;refine isTrue_plain (thn (ha pins s σ H _ I h) fun v s1 z0=>?_) (he _);obtain⟨x,H1,I1,r1,q1⟩:=z0;exact thn (zV4 pins s1 σ H1 x v Q I1 r1 (zZD q1)) fun _ _ q=>q
theorem zE0{op:CmpOp}{r:R2}(ho:OpR X (compareOp op) r)(ha:PE X a ta)(hb:PE X b tb)(hm:behindInMarks op b=false):PT X (.Compare a [op] [b] pos) (fun σ H Q=>ta σ H fun x H1=>tb σ H1 fun y H2=>r x y H2 fun z H3=>match z with | .bl k=>Q k H3|_=>False):=by
 intro pins s σ H Q I h;refine wpAny_isTrue_Compare1 (thn (ha pins s σ H _ I h) fun v s1 ⟨x,H1,I1,r1,q1⟩=>thn (hb pins s1 σ H1 _ I1 q1) fun u s2 ⟨y,H2,I2,r2,q2⟩=>
  thn (ho pins s2 σ H2 x y v u _ I2 r1 r2 q2) fun d s3 ⟨z,H3,I3,r3,q3⟩=>?_) hm
 cases z with
 |bl k=>cases r3;exact wpAny_truthy_bool ⟨H3,I3,q3⟩
 |_=>exact qA3 q3
theorem zXA(ha:PE X a ta)(hb:PE X (.BoolOp .And (b::rest) pos) tb):PE X (.BoolOp .And (a::b::rest) pos) (fun σ H Q=>ta σ H fun x H1=>match x with | .bl c=>if c=true then tb σ H1 Q else Q (.bl false) H1|_=>False):=by
 intro pins s σ H Q I h;refine BoolOp_and (thn (ha pins s σ H _ I h) fun v s1 z0=>?_);obtain⟨x,H1,I1,r1,q1⟩:=z0;cases x with
 |bl c=>
  cases r1;refine wpAny_truthy_bool ?_;cases c with
  |true=>exact hb pins s1 σ H1 Q I1 (by simpa using q1)
  |false=>exact⟨.bl false,H1,I1,rfl,by simpa using q1⟩
 |_=>exact qA3 q1
theorem zcI(ha:PE X a ta):PE X (.UnaryOp .Not a pos) (fun σ H Q=>ta σ H fun x H1=>match x with | .bl c=>Q (.bl (!c)) H1|_=>False):=by
 intro pins s σ H Q I h;refine UnaryOp_ (thn (ha pins s σ H _ I h) fun v s1 z0=>?_);obtain⟨x,H1,I1,r1,q1⟩:=z0;cases x with
 |bl c=>cases r1;exact not_of (wpAny_truthy_bool ⟨.bl (!c),H1,I1,rfl,q1⟩)
 |_=>exact qA3 q1
def setM:V->V->V->Hp->(Hp->Prop)->Prop:=fun o i v H Q=>match o,i with
 |.ref p,.int k=>∃xs j,H p=some (.lst xs)/\ixN xs.length k=some j/\Q (upd H p (.lst (xs.set j v)))
 |_,_=>False
theorem zZB:PSet X setM:=by
 intro pins s σ H o i v ov iv u Q I ro ri rv h;cases o<;>cases i<;>first
  |(obtain⟨xs,j,h1,h2,h3⟩:=h;exact zSX pins s σ H _ _ v ov iv u Q I ro ri rv ⟨_,xs,_,j,rfl,rfl,h1,h2,h3⟩)
  |exact qA3 h
def appM:V->List V->Hp->VK->Prop:=fun x vs H Q=>match x,vs with
 |.ref l,[y]=>∃xs,H l=some (.lst xs)/\xs.length<sizeLine/\Q .non (upd H l (.lst (xs++[y])))
 |_,_=>False
theorem zLQ:MtR X "list.append" appM:=by
 intro pins s σ H x vs v us Q I rx rv h;cases x with
 |ref l=>
  cases vs with
  |nil=>exact qA3 h
  |cons y t=>
   cases t with
   |nil=>
    obtain⟨xs,h1,h2,h3⟩:=h;exact zQX pins s σ H _ _ v us Q I rx rv ⟨l,xs,y,rfl,rfl,h1,h2,h3⟩
   |cons _ _=>exact qA3 h
 |_=>exact qA3 h
def popM:V->List V->Hp->VK->Prop:=fun x vs H Q=>match x,vs with
 |.ref l,[.int i]=>∃xs k y,H l=some (.lst xs)/\(-(2 ^ 63)<=i/\i<2 ^ 63)/\seqIndex? i xs.length=some k/\xs[k]?=some y/\Q y (upd H l (.lst (xs.eraseIdx k)))
 |.ref l,[]=>∃xs y,H l=some (.lst xs)/\xs[xs.length-1]?=some y/\Q y (upd H l (.lst xs.dropLast))
 |_,_=>False
theorem zQU:MtR X "list.pop" popM:=by
 intro pins s σ H x vs v us Q I rx rv h;cases x with
 |ref l=>
  cases vs with
  |nil=>
   obtain⟨xs,y,h1,h2,h3⟩:=h;exact zaL pins s σ H _ _ v us Q I rx rv ⟨l,xs,y,rfl,rfl,h1,h2,h3⟩
  |cons y t=>
   cases y with
   |int i=>
    cases t with
    |nil=>
     obtain⟨xs,k,y,h1,h2,h3,h4,h5⟩:=h;exact zTO pins s σ H _ _ v us Q I rx rv ⟨l,xs,i,k,y,rfl,rfl,h1,h2.1,h2.2,h3,h4,h5⟩
    |cons _ _=>exact qA3 h
   |_=>exact qA3 h
 |_=>exact qA3 h
end
theorem pt_w{X:Cx}{e:Expr}{t:TT}(h:PW X e t):PT X e t:=h.pt
def Has(P:Program)(w:World)(K:qA1)(mg:Str->Option Value)(base:Heap)(x:Str)(k:Nat)(ps:List Str)(sp:Sp):Prop:=
 ∃f fd,FnOk P w K mg base CX0 k f fd ps sp/\mg x=some (.ref f)/\qB5 K (.ref f)=true/\Binds K fd ps []
def Def(K:qA1)(mg:Str->Option Value)(x:Str)(st:Stmt):Prop:=∃f fd,Fun K x x st f fd/\mg x=some (.ref f)
section
variable{X:Cx}{x:Str}{j k:Nat}{ps:List Str}{sp:Sp}{e:Expr}{es:List Expr}{t:TA}{p pos:Pos}
theorem zCN(h:Has X.prog X.w X.K X.mg X.base x j ps sp)(hjk:j<=k)(hr:Room k X.A)(hg:Gl X x)(ha:PA X (e::es) t)(hdb:(x==("__debug__":Str))=false:=by decide)
  (he:starEach (e::es) X.env=(false,eval e X.env)::starEach es X.env:=by rfl) (hpl:(backTo pos (starEach es X.env)).any (·.1)=false:=by rfl):PE X (.Call (.Name x p) (e::es) [] pos) (zJB sp [] E0 t):=by
 obtain⟨f,fd,G,m,kp,b⟩:=h;exact zQG G (hr.mono hjk) hg m kp b .nil zcJ ha hdb he hpl
end
section
variable{P:Program}{w:World}{K:qA1}{mg:Str->Option Value}{base:Heap}
theorem Def.ok{x:Str}{st:Stmt}{N ps:List Str}{k:Nat}{sp:Sp}(D:Def K mg x st)(S:FnScope N ps (zA5 st))
  (hb:∀(kV doc pm:Value)(an:Option Addr)(cdv ct:Value)(us:List Value),us.length=ps.length->bindArgs (qBg x x (zBS st) (zB0 st) (zA5 st) .none kV doc pm an cdv ct) ⟨us,[]⟩=pure (ps.zip us))
  (len:∀vs H Q E,sp vs H Q E->vs.length=ps.length)
  (hbody:∀(f:Addr)(cdv:Value)(A:Around)(outer:List Env)(s:Shared)(H:Hp)(vs:List V)(Q:VK)(E:XK),Room k (A.deeper (envOfC x (zA5 st) s.heap.objs.size f cdv))->sp vs H Q E ->
   ∃t,PSs (cxOf CX0 P w K mg base N x (zA5 st) f cdv A outer s H E).nox (zB0 st) t/\t { nx:=fun _ H'=>Q .non H',rt:=Q } (start N vs) H):Has P w K mg base x (k+1) ps sp:=by
 obtain⟨f,fd,F,m⟩:=D;exact⟨f,fd,F.ok S len (fun cdv A outer s H vs Q E hr h=>hbody f cdv A outer s H vs Q E hr h),m,F.kp,F.binds hb⟩
end
end L2
namespace L2
open PySem PySem.Spec PyProof.Rows
section
variable{X:Cx}{pins:List (Addr×Obj)}{σ:St}{H:Hp}{s:Shared}
theorem Inv.turnedNew{h':Heap}{t':Nat}{fp:List Addr}{a:Addr}{o:HO}(I:Inv X pins σ H s)(hf:∀b∈fp,FpOk X pins H b)(k:∀b u,b∉fp->s.heap.get? b=some u->h'.get? b=some u)
  (hp:s.heap.objs.size<=a) (new:ObjOk X.prog X.w (upd H a o) h' a o):Inv X pins σ (upd H a o) { s with heap:=h',toks:=t' }:=by
 have hn:H a=none:=I.hok.fresh hp;have ne:∀b u,s.heap.get? b=some u->b≠a:=fun b u e=>qAn (qAf (Heap.lt_size e) hp)
 have nfp:∀b u,H b=some u->b∉fp:=fun b u e z=>by rw[(hf b z).1]at e;cases e
 refine I.step (g':=s.gens) (d':=s.drawn) (ch:=fp) (fun b hb=>⟨(hf b hb).2.2.2.1,(hf b hb).2.1,(hf b hb).2.2.2.2.1,(hf b hb).2.2.2.2.2⟩) (fun b u _ _ hc e _=>k b u hc e) (fun b u _ _ hc e _=>⟨u.slots,k b u hc e⟩)
  (fun b u _ e n=>by rw[zAE (ne b u e)];exact n) (fun b u hc e=>⟨u,k b u hc e⟩) (fun b xs e=>by rw[zAE (zAL e hn)];exact e) (fun b u xs e=>by rw[zAE (zAL e hn)];exact e)
  (fun b ps e=>⟨#[],by rw[zAE (zAL e hn),e];simp⟩) (fun m hm=>?_) (fun b u e=>?_) I.bare
 ·obtain⟨u,es,ep,ho,r⟩:=hm;exact⟨u,es,ep,k _ u (fun z=>(hf _ z).2.1 rfl) ho,r⟩
 ·by_cases hb:b=a
  ·subst hb;rw[zAD]at e;cases e;exact new
  ·rw[zAE hb]at e;refine(I.hok b u e).stay (fun c v hc q=>k c v ?_ q) (fun c q=>by rw[zAE (zAL q hn)];exact q) fun c xs q=>by rw[zAE (zAL q hn)];exact q
   rcases hc with z|z
   ·rw[z];exact nfp b u e
   ·exact nfp c _ z
theorem Inv.turnedL{h':Heap}{t':Nat}{fp:List Addr}(I:Inv X pins σ H s)(hf:∀b∈fp,FpOk X pins H b)(k:∀b u,b∉fp->s.heap.get? b=some u->h'.get? b=some u):Inv X pins σ H { s with heap:=h',toks:=t' }:=by
 have nfp:∀b u,H b=some u->b∉fp:=fun b u e z=>by rw[(hf b z).1]at e;cases e
 refine I.step (g':=s.gens) (d':=s.drawn) (ch:=fp) (fun b hb=>⟨(hf b hb).2.2.2.1,(hf b hb).2.1,(hf b hb).2.2.2.2.1,(hf b hb).2.2.2.2.2⟩) (fun b u _ _ hc e _=>k b u hc e) (fun b u _ _ hc e _=>⟨u.slots,k b u hc e⟩)
  (fun b u _ e n=>n) (fun b u hc e=>⟨u,k b u hc e⟩) (fun b xs e=>e) (fun b u xs e=>e)
  (fun b ps e=>⟨#[],by rw[e];simp⟩) (fun m hm=>?_) (fun b u e=>?_) I.bare
 ·obtain⟨u,es,ep,ho,r⟩:=hm;exact⟨u,es,ep,k _ u (fun z=>(hf _ z).2.1 rfl) ho,r⟩
 ·refine(I.hok b u e).stay (fun c v hc q=>k c v ?_ q) (fun c q=>q) fun c xs q=>q
  rcases hc with z|z
  ·rw[z];exact nfp b u e
  ·exact nfp c _ z
def Ite(K:qA1)(a:Addr):It:=
 ⟨fun i H=>∃xs x,SqL K H a xs/\xs[i]?=some x,fun i H x H'=>∃T y,x=.ref T/\H T=none/\H'=upd H T (.tup [.int i,y])/\∀xs,SqL K H a xs->xs[i]?=some y,fun i H=>∃xs,SqL K H a xs/\xs.length<=i⟩
theorem zJA{P:Program}{w:World}{K:qA1}{ts:List Expr}{kk:Nat}{tp:Pos}(a e it:Addr)(hei:e≠it) :
  Turn P w K (.Tuple ts kk tp) (Ite K a) [e,it] e (fun i h=>(∃old,IsEnum h e it i old)/\h.IsListIter it a i) where
 mem:=by simp
 obj:=fun i h st b hb=>by
  rcases qAb.mp hb with z|z
  ·subst z;obtain⟨⟨old,he⟩,_⟩:=st;exact⟨_,he,fun v z=>by cases z⟩
  ·have z':b=it:=by simpa using z
   subst z';obtain⟨_,o,e,c,d⟩:=st;exact⟨o,e,fun v z=>by rw[d]at z;cases z⟩
 keep:=fun i h h' st k=>⟨by obtain⟨⟨old,he⟩,_⟩:=st;exact⟨old,k e (by simp) _ he⟩,st.2.at fun o x=>k it (by simp) o x⟩
 item:=by
  intro X hP hw hK hc i pins s σ H E I hf st hg;subst hP hw hK;obtain⟨xs,x,hq,hx⟩:=hg;obtain⟨its,rv,p,hz⟩:=I.list hq;obtain⟨u,hu,ru⟩:=rv.get hx;obtain⟨⟨old,he⟩,hit⟩:=st;refine wpAny_pyNext_enum_item he hit p.isList (x:=u) (by simpa using hu) hei fun h' ho hit' hT hsz hk=>?_
  refine⟨_,rfl,wpAny_letOwnedTupleGo_enum ho fun h'' he'' hs''=>?_⟩;have hTe:s.heap.objs.size≠e:=qBp (Heap.lt_size he);have hTi:s.heap.objs.size≠it:=by obtain⟨o,ho',_⟩:=hit;exact qBp (Heap.lt_size ho')
  have kk:∀b u,b∉[e,it]->s.heap.get? b=some u->h''.get? b=some u:=fun b u hb q=>by
   have b1:b≠e:=fun z=>hb (by simp[z])
   have b2:b≠it:=fun z=>hb (by simp[z])
   exact(hs''.2 b b1).trans (hk b u b1 b2 q)
  have hT'':=(hs''.2 _ hTe).trans hT;refine⟨.ref s.heap.objs.size,_,I.turnedNew (t':=s.toks+1) (o:=.tup [.int i,x]) hf kk (qA7 _) ⟨by show 2<=sizeLine;decide,[.int i s.toks,u],.cons ⟨_,rfl⟩ (.cons ru .nil),⟨_,hT'',rfl,_,rfl⟩⟩,rfl,
   ⟨_,x,rfl,I.fresh,rfl,fun ys hy=>by rw[I.list_inj hy hq];exact hx⟩,⟨⟨_,by simpa using he''⟩,hit'.at fun o x=>(hs''.2 it hei.symm).trans x⟩,fun b hb=>?_⟩
  have hbs:b<s.heap.objs.size:=by
   rcases qAb.mp hb with z|z
   ·rw[z];exact Heap.lt_size he
   ·have z':b=it:=by simpa using z
    rw[z'];obtain⟨o,ho',_⟩:=hit;exact Heap.lt_size ho'
  rw[zAE (qAn hbs)];exact(hf b hb).1
 done:=by
  intro X hP hw hK hc i pins s σ H E I hf st hg;subst hP hw hK;obtain⟨xs,hq,hx⟩:=hg;obtain⟨its,rv,p,hz⟩:=I.list hq;have hl:=rv.length;obtain⟨⟨old,he⟩,hit⟩:=st;exact wpAny_pyNext_enum_end (I.ok.hd hc) he hit p.isList (by simp;omega) fun h' eb=>⟨rfl,I.turnedL (t':=s.toks) hf fun b u hb q=>eb b u (fun z=>hb (by simp[z])) q⟩
 self:=fun _ _ _ _ _ st h=>by obtain⟨⟨old,he⟩,_⟩:=st;exact wpAny_pyIter_enum he h
def zY6(K:qA1)(tl:TA):TI:=fun σ H R=>tl σ H fun vs H1=>match vs with
 |[.ref a]=>(∃xs,SqL K H1 a xs)/\R (Ite K a) H1
 |_=>False
theorem zX9{ts:List Expr}{kk:Nat}{tp p pos:Pos}{a:Expr}{ta:TA}(hg:Gl X "enumerate")(hm:X.mg "enumerate" = none)(ha:PA X [a] ta)(hs:starEach [a] X.env=[(false,eval a X.env)]:=by rfl) :
  PI X (.Tuple ts kk tp) (.Call (.Name "enumerate" p) [a] [] pos) (zY6 X.K ta):=by
 intro pins s σ H R I h;refine Call_ (zGA I hg hm boot_enumerate (qBi (thn (ha pos pins s σ H _ I h) fun us s1 z0=>?_) hs rfl));obtain⟨vs,H1,I1,r1,q1⟩:=z0;cases vs with
 |nil=>exact qA3 q1
 |cons hd1 tl1=>
  cases hd1 with
  |ref l=>
   cases tl1 with
   |nil=>
    obtain⟨⟨xs,hq⟩,q⟩:=q1;obtain⟨u,rfl,rx⟩:=zCR r1;cases rx;obtain⟨its,rv,pl,hz⟩:=I1.list hq;refine call_enumerate_list pl.isList fun h' he hit hsz hk=>?_
    refine wpAny_pyIter_enum he ?_;have hne:s1.heap.objs.size+1≠s1.heap.objs.size:=by omega
    refine⟨s1.heap.objs.size+1,[s1.heap.objs.size+1,s1.heap.objs.size],_,_,H1,rfl,I1.kept (t':=s1.toks) hk,zJA l _ _ hne,⟨⟨_,he⟩,hit⟩,fun b hb=>?_,q⟩;have hb':s1.heap.objs.size<=b:=by
     rcases qAb.mp hb with z|z
     ·rw[z];exact qC6 _
     ·have z':b=s1.heap.objs.size:=by simpa using z
      rw[z'];exact qA7 _
    exact I1.fpOk hb' (I1.hok.fresh hb')
   |cons _ _=>exact qA3 q1
  |_=>exact qA3 q1
end
section
variable{X:Cx}{K:qA1}
theorem zBP(hK:X.K=K:=by rfl):zD4 X (.builtin "len") (zX2 K):=hK▸zcP
theorem zC1(hK:X.K=K:=by rfl):IxR X (rIxU K):=hK▸u_ix
theorem zTD{ts:List Expr}{kk:Nat}{tp p pos:Pos}{a:Expr}{ta:TA}(hg:Gl X "enumerate")(hm:X.mg "enumerate" = none)(ha:PA X [a] ta)(hs:starEach [a] X.env=[(false,eval a X.env)]:=by rfl)(hK:X.K=K:=by rfl) :
  PI X (.Tuple ts kk tp) (.Call (.Name "enumerate" p) [a] [] pos) (zY6 K ta):=hK▸zX9 hg hm ha hs
theorem zI2{es:List Expr}{k:Nat}{t:TGs}{n:Nat}{pos:Pos}(hc:X.calm=true)(h:PGs X es t)
  (hn:(assignEach es X.env).length=n:=by rfl) (hst:(assignEach es X.env).findIdx? (·.1)=none:=by rfl) (hK:X.K=K:=by rfl):PG X (.Tuple es k pos) (gTup K n t):=hK▸za8 hc h hn hst
noncomputable def tML(r:V->List V->Hp->VK->Prop)(to:TE)(t:TA):TE:=fun σ H Q=>to σ H fun x H1=>match x with
 |.ref p=>∃xs,H1 p=some (.lst xs)/\t σ H1 fun vs H2=>r x vs H2 Q
 |_=>False
variable{o e:Expr}{es:List Expr}{to:TE}{t:TA}{name:Str}{apos cpos:Pos}{T id:String}{r:V->List V->Hp->VK->Prop}
theorem zI3(pa:PlainAttrs "list")(slot:Slot "list" name id)(hty:typeOf (.builtin id)=pure (.type "method_descriptor"))(hm:MtR X id r)(ho:PE X o to)(ha:PA X (e::es) t)
  (hbase:attributeBase o name X.env (eval o X.env)=eval o X.env:=by rfl)
  (hfew:((backTo cpos (starEach (e::es) X.env)).all (fun x=>!x.1)&&(backToKw cpos (keywordEach [] X.env)).all (fun x=>x.1.isSome)
   && decide ((e::es).length+([]:List Keyword).length+(if([]:List Keyword).isEmpty then 0 else 1)<30))=true:=by rfl)
  (hline:(apos.endLine==cpos.line)=true:=by rfl) (hs:starEach (e::es) X.env=(false,eval e X.env)::starEach es X.env:=by rfl) (hplain:(backTo cpos (starEach es X.env)).any (·.1)=false:=by rfl) :
  PE X (.Call (.Attribute o name apos) (e::es) [] cpos) (tML r to t):=by
 intro pins s σ H Q I h;refine wpAny_Call_method_late hbase hfew hline rfl (thn (ho pins s σ H _ I h) fun v s1 z0=>?_);obtain⟨x,H1,I1,r1,q1⟩:=z0;cases x with
 |ref p=>?_
 |_=>exact qA3 q1
 obtain⟨xs,hx,q1⟩:=q1;obtain⟨h1,h2⟩:=zV2 (T:="list") I1 r1 (.inl ⟨rfl,xs,SqL.of hx⟩);refine⟨"list",id,pa,slot,hty,h1,h2,?_⟩;have hA:=ha cpos pins s1 σ H1 _ I1 q1;rw[hs]at hA ⊢;refine Calls.callWith_builtin (by show(false||(backTo cpos (starEach es X.env)).any (·.1))=false;rw[hplain]<;>rfl) (Calls.evalArgs_plain ?_);exact thn hA fun us s2 ⟨vs,H2,I2,r2,q2⟩=>hm pins s2 σ H2 (.ref p) vs v us Q I2 r1 r2 q2
end
end L2
namespace L2
open PySem PySem.Spec PyProof.Rows
theorem same_new{H:Hp}{p:Addr}(h:H p=none)(o:HO):Same H (upd H p o):=fun b u q=>by rw[zAE (zAL q h)];exact q
theorem Same.upd{H H':Hp}{p:Addr}(s:Same H H')(h:H p=none)(o:HO):Same H (upd H' p o):=fun b u q=>by rw[zAE (zAL q h)];exact s b u q
theorem zCL{H:Hp}:∀(ns:List Int),RepL H (ns.map Dat.int) (ns.map V.int)
 |[]=>rfl
 |n::r=>⟨.int n,r.map V.int,rfl,rfl,zCL r⟩
theorem zC7:∀(ns:List Int),Dat.depL (ns.map Dat.int)=0
 |[]=>rfl
 |n::r=>by
  rw[qAi,Dat.depL,zC7 r];rfl
theorem zFI:∀(ns ms:List Int),Dat.eqL (ns.map Dat.int) (ms.map Dat.int)=decide (ns=ms)
 |[],[]=>by simp[Dat.eqL]
 |[],_::_=>by simp[Dat.eqL]
 |_::_,[]=>by simp[Dat.eqL]
 |n::r,m::q=>by
  rw[qAi,qAi,Dat.eqL,zFI r q,Dat.eq]
  by_cases h:n=m
  ·subst h;simp
  ·simp[h]
theorem big{n:Nat}(h:n<=100000):n<sizeLine:=by rw[sizeLine_eq];omega
end L2
namespace L2
open PySem PySem.Spec PyProof.Rows
section
variable{X:Cx}
def rInU(K:qA1)(neg:Bool):R2:=fun x y H Q=>match y with
 |.ref p=>∃xs,(SqL K H p xs\/SqT K H p xs)/\zDG x=true/\xs.all zDG=true/\Q (.bl (if neg then !inV x xs else inV x xs)) H
 |.str j=>match x with
  |.str i=>Q (.bl (if neg then !(!(Builtin.Str.occurrences j i 0 j.length 1).isEmpty)else !(Builtin.Str.occurrences j i 0 j.length 1).isEmpty)) H
  |_=>False
 |_=>False
theorem u_in{K:qA1}(hK:X.K=K:=by rfl):OpR X (compareOp .In) (rInU K false):=by
 subst hK;intro pins s σ H x y v u Q I rx ry h;cases y with
 |ref p=>
  obtain⟨xs,h1,h2,h3,h4⟩:=h;exact zQN pins s σ H _ _ v u Q I rx ry ⟨p,xs,rfl,h1,h2,h3,h4⟩
 |str j=>
  cases x with
  |str i=>exact zQM pins s σ H _ _ v u Q I rx ry ⟨i,j,rfl,rfl,h⟩
  |_=>exact qA3 h
 |_=>exact qA3 h
theorem zL0{K:qA1}(hK:X.K=K:=by rfl):OpR X (compareOp .NotIn) (rInU K true):=by
 subst hK;intro pins s σ H x y v u Q I rx ry h;cases y with
 |ref p=>
  obtain⟨xs,h1,h2,h3,h4⟩:=h;exact zJV pins s σ H _ _ v u Q I rx ry ⟨p,xs,rfl,h1,h2,h3,h4⟩
 |str j=>
  cases x with
  |str i=>exact zJU pins s σ H _ _ v u Q I rx ry ⟨i,j,rfl,rfl,h⟩
  |_=>exact qA3 h
 |_=>exact qA3 h
end
end L2
namespace Mi
open PySem
noncomputable section
inductive Sv where
 |i (n:Int)|s (x:Str)
inductive Sw where
 |non|bl (b:Bool)|int (i:Int)|str (x:Str)
inductive Dt where
 |non|bl (b:Bool)|int (i:Int)|str (x:Str)|lst (xs:List Dt)|tup (xs:List Dt)|scr (ns:List Int)|exc (c f:Str) (d:Dt)|ins (c:Str) (fs:List (Str×Sv))|dct (kvs:List (Sum Int Str×Sw))
mutual
def Dt.dep:Dt->Nat
 |.lst xs=>Dt.depL xs+1
 |.tup xs=>Dt.depL xs+1
 |.scr _=>1000
 |.exc _ _ _=>1000
 |.ins _ _=>1000
 |.dct _=>1000
 |_=>0
def Dt.depL:List Dt->Nat
 |[]=>0
 |x::r=>max x.dep (Dt.depL r)
end
mutual
def Dt.eq:Dt->Dt->Bool
 |.non,.non=>true
 |.bl a,.bl b=>a==b
 |.bl a,.int b=>(if a then 1 else 0)==b
 |.int a,.bl b=>a==(if b then 1 else 0)
 |.int a,.int b=>a==b
 |.str a,.str b=>a==b
 |.lst xs,.lst ys=>Dt.eqL xs ys
 |.tup xs,.tup ys=>Dt.eqL xs ys
 |_,_=>false
def Dt.eqL:List Dt->List Dt->Bool
 |[],[]=>true
 |x::r,y::q=>Dt.eq x y&&Dt.eqL r q
 |_,_=>false
end
structure Xn where
 cls:Str
 f:Str
 d:Dt
abbrev R(α:Type):=Option (Except Xn α)
noncomputable def okR{α:Type}(a:α):R α:=some (.ok a)
noncomputable def zA3{α β:Type}(x:R α)(f:α->R β):R β:=match x with
 |none=>none
 |some (.error e)=>some (.error e)
 |some (.ok a)=>f a
def optR{α:Type}(o:Option α):R α:=match o with
 |none=>none
 |some a=>okR a
@[simp] theorem zA0{α β:Type}(a:α)(f:α->R β):zA3 (okR a) f=f a:=rfl
@[simp] theorem zA7{α β:Type}(f:α->R β):zA3 none f=none:=rfl
@[simp] theorem zAB{α β:Type}(e:Xn)(f:α->R β):zA3 (some (.error e)) f=some (.error e):=rfl
@[simp] theorem zA9{α:Type}(a:α):optR (some a)=okR a:=rfl
@[simp] theorem zAA{α:Type}:optR (none:Option α)=none:=rfl
abbrev Rh:=List (Option Dt)
abbrev Sl:=Dt×Nat
abbrev Ro:=List (Option Sl)
abbrev EM:=Rh->R Dt
abbrev TM:=Rh->R Bool
abbrev AM:=Rh->R (List Dt)
abbrev FM:=List Dt->R Dt
noncomputable def ixA(n:Nat)(i:Int):Option Nat:=if 0<=i then(if i<n then some i.toNat else none)else if -(n:Int)<=i then some (i+n).toNat else none
def itA{α:Type}(xs:List α)(i:Int):Option α:=(ixA xs.length i).bind fun j=>xs[j]?
noncomputable def addD:Dt->Dt->Option Dt
 |.int i,.int j=>some (.int (i+j))
 |.str i,.str j=>@ite _ (i.length+j.length<=100000) (qA4 _) (some (.str (i++j))) none
 |.lst xs,.lst ys=>@ite _ (xs.length+ys.length<=100000) (qA4 _) (some (.lst (xs++ys))) none
 |_,_=>none
noncomputable def subD:Dt->Dt->Option Dt
 |.int i,.int j=>some (.int (i-j))
 |_,_=>none
noncomputable def mulD:Dt->Dt->Option Dt
 |.int i,.int j=>@ite _ (((-18446744073709551616<i/\i<18446744073709551616)\/(-18446744073709551616<j/\j<18446744073709551616))\/i.natAbs.log2+j.natAbs.log2<=67108864) (qA4 _) (some (.int (i*j))) none
 |_,_=>none
noncomputable def divD:Dt->Dt->Option Dt
 |.int i,.int j=>@ite _ (0<j/\j<1000000000000000000000000) (qA4 _) (some (.int (i/j))) none
 |_,_=>none
noncomputable def modD:Dt->Dt->Option Dt
 |.int i,.int j=>if 0<j then some (.int (i%j))else none
 |_,_=>none
noncomputable def powD:Dt->Dt->Option Dt
 |.int i,.int j=>@ite _ (0<=j/\j<=1000000/\i.natAbs<18446744073709551616) (qA4 _) (some (.int (i ^ j.toNat))) none
 |_,_=>none
noncomputable def negD:Dt->Option Dt
 |.int i=>some (.int (-i))
 |_=>none
noncomputable def cmpD(p:Int->Int->Bool):Dt->Dt->Option Dt
 |.int i,.int j=>some (.bl (p i j))
 |_,_=>none
noncomputable def eqD(x y:Dt):Option Dt:=if x.dep<=40/\y.dep<=40 then some (.bl (Dt.eq x y))else none
noncomputable def neD(x y:Dt):Option Dt:=if x.dep<=40/\y.dep<=40 then some (.bl (!Dt.eq x y))else none
noncomputable def isNonD:Dt->Bool
 |.non=>true
 |_=>false
def isD(x y:Dt):Option Dt:=match y with
 |.non=>some (.bl (isNonD x))
 |_=>none
noncomputable def isntD(x y:Dt):Option Dt:=match y with
 |.non=>some (.bl (!isNonD x))
 |_=>none
def ixD:Dt->Dt->Option Dt
 |.lst xs,.int i=>itA xs i
 |.tup xs,.int i=>itA xs i
 |.scr ns,.int i=>(itA ns i).map .int
 |.str z,.int i=>@ite _ (z.length<=100000) (qA4 _) ((itA z.cps.toList i).map fun c=>.str ⟨#[c]⟩) none
 |_,_=>none
noncomputable def lenD:List Dt->Option Dt
 |[.lst xs]=>some (.int xs.length)
 |[.tup xs]=>some (.int xs.length)
 |[.scr ns]=>some (.int ns.length)
 |[.str z]=>@ite _ (z.length<=100000) (qA4 _) (some (.int z.length)) none
 |_=>none
noncomputable def listD:List Dt->Option Dt
 |[.lst xs]=>some (.lst xs)
 |[.tup xs]=>some (.lst xs)
 |[.scr ns]=>some (.lst (ns.map .int))
 |_=>none
noncomputable def nums(lo:Int)(n:Nat):List Dt:=(qA6 n).map fun i:Nat=>.int (lo+(i:Int))
noncomputable def tyD:Dt->String
 |.non=>"NoneType"
 |.bl _=>"bool"
 |.int _=>"int"
 |.str _=>"str"
 |.lst _=>"list"
 |.tup _=>"tuple"
 |.scr _=>""
 |.exc _ _ _=>""
 |.ins _ _=>""
 |.dct _=>""
def isiD(n:String)(x:Dt):Option Dt:=if tyD x = "" then none else some (.bl (tyD x==n||(tyD x == "bool" && n == "int")))
noncomputable def boolsD:List Dt->Option (List Bool)
 |[]=>some []
 |.bl b::r=>(boolsD r).map (b::·)
 |_::_=>none
def allD:List Dt->Option Dt
 |[.lst xs]=>(boolsD xs).map fun bs=>.bl (bs.all id)
 |_=>none
noncomputable def intD:List Dt->Option Dt
 |[.int i]=>some (.int i)
 |[.bl k]=>some (.int (if k=true then 1 else 0))
 |_=>none
noncomputable def maxD:List Dt->Option Dt
 |[.int i,.int j]=>some (.int (if j>i then j else i))
 |_=>none
noncomputable def minD:List Dt->Option Dt
 |[.int i,.int j]=>some (.int (if j<i then j else i))
 |_=>none
noncomputable def absD:List Dt->Option Dt
 |[.int i]=>some (.int (if i<0 then -i else i))
 |_=>none
noncomputable def hasD(x:Dt)(ys:List Dt):Option Bool:=if x.dep=0/\Dt.depL ys=0 then some (ys.any fun y=>Dt.eq y x)else none
def inD(ng:Bool)(x y:Dt):Option Dt:=match y with
 |.lst ys=>(hasD x ys).map fun b=>.bl (if ng=true then !b else b)
 |.tup ys=>(hasD x ys).map fun b=>.bl (if ng=true then !b else b)
 |.str z=>match x with
  |.str y=>match y.cps.toList with
   |[c]=>some (.bl (if ng=true then !decide (c∈z.cps.toList)else decide (c∈z.cps.toList)))
   |_=>none
  |_=>none
 |_=>none
noncomputable def cutIx(n d:Nat):Option Int->Nat
 |none=>d
 |some v=>if v<0 then(v+(n:Int)).toNat else min v.toNat n
def cutA{α:Type}(xs:List α)(lo hi:Option Int):List α:=(xs.drop (cutIx xs.length 0 lo)).take (cutIx xs.length xs.length hi-cutIx xs.length 0 lo)
def slD:Dt->Option Int->Option Int->Option Dt
 |.lst xs,lo,hi=>some (.lst (cutA xs lo hi))
 |.str z,lo,hi=>@ite _ (z.length<=100000) (qA4 _) (some (.str ⟨(cutA z.cps.toList lo hi).toArray⟩)) none
 |_,_,_=>none
abbrev OM:=Rh->R (Option Int)
def oNo:OM:=fun _=>okR none
def oE(e:Rh->R Dt):OM:=fun ρ=>zA3 (e ρ) fun d=>match d with
 |.int i=>okR (some i)
 |_=>none
def eSl(a:Rh->R Dt)(lo hi:OM):Rh->R Dt:=fun ρ=>zA3 (a ρ) fun x=>zA3 (lo ρ) fun l=>zA3 (hi ρ) fun h=>optR (slD x l h)
noncomputable def posC(c:Nat):List Nat->Option Nat
 |[]=>none
 |x::r=>if x=c then some 0 else(posC c r).map (·+1)
def findD(x:Dt)(ys:List Dt):Option Dt:=match x,ys with
 |.str z,[.str y]=>match y.cps.toList with
  |[c]=>some (.int (match posC c z.cps.toList with|some i=>(i:Int)|none=>-1))
  |_=>none
 |_,_=>none
def indexD(x:Dt)(ys:List Dt):Option Dt:=match x,ys with
 |.str z,[.str y]=>match y.cps.toList with
  |[c]=>(posC c z.cps.toList).map fun i=>.int (i:Int)
  |_=>none
 |_,_=>none
noncomputable def countD(x:Dt)(ys:List Dt):Option Dt:=match x,ys with
 |.str z,[.str y]=>match y.cps.toList with
  |[c]=>some (.int (z.cps.toList.count c:Nat))
  |_=>none
 |_,_=>none
noncomputable def strsD:List Dt->Option (List Str)
 |[]=>some []
 |.str z::r=>(strsD r).map (z::·)
 |_::_=>none
def joinD(x:Dt)(ys:List Dt):Option Dt:=match x,ys with
 |.str z,[.lst ds]=>match strsD ds with
  |some zs=>@ite _ ((zs.map (·.length)).sum+zs.length*z.length<=100000) (qA4 _) (some (.str (Str.join z zs))) none
  |none=>none
 |_,_=>none
noncomputable def zNM:Dt->Bool
 |.str _=>true
 |_=>false
def eMt(f:Dt->List Dt->Option Dt)(a:Rh->R Dt)(am:Rh->R (List Dt)):Rh->R Dt:=fun ρ=>zA3 (a ρ) fun x=>if zNM x=true then zA3 (am ρ) fun xs=>optR (f x xs)else none
noncomputable def signsD(z:Str):List Dt:=z.cps.toList.map fun c=>.str ⟨#[c]⟩
def eC(d:Dt):EM:=fun _=>okR d
def eV(i:Nat):EM:=fun ρ=>match ρ[i]? with
 |some (some d)=>okR d
 |_=>none
def eB(f:Dt->Dt->Option Dt)(a b:EM):EM:=fun ρ=>zA3 (a ρ) fun x=>zA3 (b ρ) fun y=>optR (f x y)
def eU(f:Dt->Option Dt)(a:EM):EM:=fun ρ=>zA3 (a ρ) fun x=>optR (f x)
def eAnd(a b:EM):EM:=fun ρ=>zA3 (a ρ) fun x=>match x with
 |.bl k=>if k=true then b ρ else okR (.bl false)
 |_=>none
def eOr(a b:EM):EM:=fun ρ=>zA3 (a ρ) fun x=>match x with
 |.bl k=>if k=true then okR (.bl true)else b ρ
 |_=>none
def eNot(a:EM):EM:=fun ρ=>zA3 (a ρ) fun x=>match x with
 |.bl k=>okR (.bl (!k))
 |_=>none
def zb9(p q:Dt->Dt->Option Dt)(a b c:EM):EM:=fun ρ=>zA3 (a ρ) fun x=>zA3 (b ρ) fun y=>zA3 (optR (p x y)) fun z=>match z with
 |.bl k=>if k=true then zA3 (c ρ) fun w=>optR (q y w)else okR (.bl false)
 |_=>none
def eIf(c:TM)(a b:EM):EM:=fun ρ=>zA3 (c ρ) fun k=>if k=true then a ρ else b ρ
def aNil:AM:=fun _=>okR []
def aCons(e:EM)(r:AM):AM:=fun ρ=>zA3 (e ρ) fun x=>zA3 (r ρ) fun xs=>okR (x::xs)
def eLst(a:AM):EM:=fun ρ=>zA3 (a ρ) fun xs=>@ite _ (xs.length<=100000) (qA4 _) (okR (.lst xs)) none
def eTup(a:AM):EM:=fun ρ=>zA3 (a ρ) fun xs=>@ite _ (xs.length<=100000) (qA4 _) (okR (.tup xs)) none
def eCall(f:FM)(a:AM):EM:=fun ρ=>zA3 (a ρ) f
def eBi(f:List Dt->Option Dt)(a:AM):EM:=fun ρ=>zA3 (a ρ) fun xs=>optR (f xs)
def eIsi(n:String)(a:EM):EM:=fun ρ=>zA3 (a ρ) fun x=>optR (isiD n x)
def tB(a:EM):TM:=fun ρ=>zA3 (a ρ) fun x=>match x with
 |.bl k=>okR k
 |_=>none
def tM(a:EM):TM:=fun ρ=>zA3 (a ρ) fun x=>match x with
 |.bl k=>okR k
 |.int i=>okR (i != 0)
 |.non=>okR false
 |_=>none
def tAn(a b:TM):TM:=fun ρ=>zA3 (a ρ) fun k=>if k=true then b ρ else okR false
def tOr(a b:TM):TM:=fun ρ=>zA3 (a ρ) fun k=>if k=true then okR true else b ρ
def tNo(a:TM):TM:=fun ρ=>zA3 (a ρ) fun k=>okR (!k)
def tYes:TM:=fun _=>okR true
abbrev IM:=Rh->R (List Dt)
def iSq(e:EM):IM:=fun ρ=>zA3 (e ρ) fun d=>match d with
 |.lst xs=>okR xs
 |.tup xs=>okR xs
 |.scr ns=>okR (ns.map .int)
 |.str z=>okR (signsD z)
 |_=>none
def iR1(e:AM):IM:=fun ρ=>zA3 (e ρ) fun vs=>match vs with
 |[.int j]=>@ite _ (-4611686018427387904<=j/\j<4611686018427387904) (qA4 _) (okR (nums 0 j.toNat)) none
 |_=>none
def iR2(e:AM):IM:=fun ρ=>zA3 (e ρ) fun vs=>match vs with
 |[.int i,.int j]=>@ite _ (-4611686018427387904<=i/\i<4611686018427387904/\-4611686018427387904<=j/\j<4611686018427387904) (qA4 _) (okR (nums i (j-i).toNat)) none
 |_=>none
noncomputable def enumD(n:Nat):List Dt->List Dt
 |[]=>[]
 |x::r=>.tup [.int n,x]::enumD (n+1) r
def iEn(e:AM):IM:=fun ρ=>zA3 (e ρ) fun vs=>match vs with
 |[.lst xs]=>okR (enumD 0 xs)
 |_=>none
noncomputable def zipD:List Dt->List Dt->List Dt
 |x::r,y::q=>.tup [x,y]::zipD r q
 |_,_=>[]
def iZi(e:AM):IM:=fun ρ=>zA3 (e ρ) fun vs=>match vs with
 |[.lst xs,.lst ys]=>okR (zipD xs ys)
 |_=>none
inductive Tg where
 |one (i:Nat)
 |tup (is:List Nat)
noncomputable def zAP:Tg->Dt->Option (List (Nat×Dt))
 |.one i,d=>some [(i,d)]
 |.tup is,.tup ds=>if ds.length=is.length then some (is.zip ds)else none
 |.tup _,_=>none
noncomputable def Tg.idx:Tg->List Nat
 |.one i=>[i]
 |.tup is=>is
noncomputable def zAN:Rh->List (Nat×Dt)->Rh
 |ρ,[]=>ρ
 |ρ,(i,d)::r=>zAN (ρ.set i (some d)) r
noncomputable def zAT:Ro->List (Nat×Dt)->Ro
 |ρ,[]=>ρ
 |ρ,(i,d)::r=>zAT (ρ.set i (some (d,0))) r
def compGo(ρ:Rh)(k:Nat)(tg:Tg)(c:TM)(e:EM):List Dt->List Dt->R (List Dt)
 |[],acc=>okR acc
 |d::ds,acc=>match zAP tg d with
  |none=>none
  |some bs=>zA3 (c (zAN (ρ++qA9 k none) bs)) fun b=>if b=true then zA3 (e (zAN (ρ++qA9 k none) bs)) fun x=>compGo ρ k tg c e ds (acc++[x])else compGo ρ k tg c e ds acc
def eComp(it:IM)(k:Nat)(tg:Tg)(c:TM)(e:EM):EM:=fun ρ=>zA3 (it ρ) fun ds=>@ite _ (ds.length<=100000/\(tg.idx.all fun i=>decide (ρ.length<=i))=true) (qA4 _) (zA3 (compGo ρ k tg c e ds []) fun es=>okR (.lst es)) none
inductive Out where
 |nx (ρ:Ro)|rt (d:Dt)|bk (ρ:Ro)|ct (ρ:Ro)
abbrev SM:=Ro->R Out
noncomputable def full(ρ:Ro):Rh:=ρ.map fun o=>o.map qHm
noncomputable def frz(ρ:Ro):Rh:=ρ.map fun o=>match o with
 |some (d,n)=>if n=0\/d.dep=0 then some d else none
 |none=>none
noncomputable def frz1(i:Nat)(ρ:Ro):Ro:=match ρ[i]? with
 |some (some (d,_))=>ρ.set i (some (d,0))
 |_=>ρ
def frzAt:List Nat->Ro->Ro
 |[],ρ=>ρ
 |i::r,ρ=>frzAt r (frz1 i ρ)
def sNil:SM:=fun ρ=>okR (.nx ρ)
def sSeq(a b:SM):SM:=fun ρ=>zA3 (a ρ) fun o=>match o with
 |.nx ρ'=>b ρ'
 |o=>okR o
noncomputable def zZL:SM:=fun _=>none
def zZN:SM:=fun ρ=>okR (.bk ρ)
def zcE:SM:=fun ρ=>okR (.ct ρ)
def sIf(c:TM)(a b:SM):SM:=fun ρ=>zA3 (c (full ρ)) fun k=>if k=true then a ρ else b ρ
def zcD(e:EM):SM:=fun ρ=>zA3 (e (full ρ)) fun _=>okR (.nx ρ)
def sSet(i n:Nat)(vs:List Nat)(e:EM):SM:=fun ρ=>zA3 (e (full ρ)) fun d=>
 if d.dep<=n then okR (.nx (ρ.set i (some (d,n))))else zA3 (e (frz (frzAt vs ρ))) fun d'=>okR (.nx ((frzAt vs ρ).set i (some (d',n))))
def sUnp(is:List Nat)(vs:List Nat)(e:EM):SM:=fun ρ=>zA3 (e (frz (frzAt vs ρ))) fun d=>match zAP (.tup is) d with
 |none=>none
 |some bs=>okR (.nx (zAT (frzAt vs ρ) bs))
def sRet(L n:Nat)(vs:List Nat)(e:EM):SM:=fun ρ=>zA3 (e (full ρ)) fun d=>
 if d.dep<=n/\d.dep<=L then okR (.rt d)else if n=L then zA3 (e (frz (frzAt vs ρ))) fun d'=>okR (.rt d')else none
def zcB:SM:=fun _=>okR (.rt .non)
def sRetV(L i:Nat):SM:=fun ρ=>match ρ[i]? with
 |some (some (d,k))=>if k=L\/L=0\/(d.dep<=k/\d.dep<=L/\k<1000)then okR (.rt d)else none
 |_=>none
def sApp(i n:Nat)(e:EM):SM:=fun ρ=>match ρ[i]? with
 |some (some (.lst ds,k+1))=>zA3 (e (full ρ)) fun d=>@ite _ (ds.length<=100000/\d.dep<=n/\d.dep<=k) (qA4 _) (okR (.nx (ρ.set i (some (.lst (ds++[d]),k+1))))) none
 |_=>none
def sPop(j i:Nat)(e:EM):SM:=fun ρ=>match ρ[i]? with
 |some (some (.lst ds,k+1))=>zA3 (e (full ρ)) fun d=>match d with
  |.int z=>match ixA ds.length z with
   |some q=>match ds[q]? with
    |some c=>@ite _ (i≠j/\ds.length<=1000000) (qA4 _) (okR (.nx ((ρ.set i (some (.lst (ds.eraseIdx q),k+1))).set j (some (c,k))))) none
    |none=>none
   |none=>none
  |_=>none
 |_=>none
def forGo(tg:Tg)(b:SM):List Dt->SM
 |[],ρ=>okR (.nx ρ)
 |d::ds,ρ=>match zAP tg d with
  |none=>none
  |some bs=>zA3 (b (zAT ρ bs)) fun o=>match o with
   |.nx ρ'=>forGo tg b ds ρ'
   |.ct ρ'=>forGo tg b ds ρ'
   |.bk ρ'=>okR (.nx ρ')
   |.rt d=>okR (.rt d)
def sFor(vs:List Nat)(it:IM)(tg:Tg)(b:SM):SM:=fun ρ=>zA3 (it (frz (frzAt vs ρ))) fun ds=>forGo tg b ds (frzAt vs ρ)
def sForR(it:IM)(i:Nat)(b:SM):SM:=fun ρ=>zA3 (it (full ρ)) fun ds=>forGo (.one i) b ds ρ
def whGo(c:TM)(b:SM):Nat->SM
 |0,_=>none
 |m+1,ρ=>zA3 (c (full ρ)) fun k=>if k=true then zA3 (b ρ) fun o=>match o with
   |.nx ρ'=>whGo c b m ρ'
   |.ct ρ'=>whGo c b m ρ'
   |.bk ρ'=>okR (.nx ρ')
   |.rt d=>okR (.rt d)
  else okR (.nx ρ)
noncomputable def WNs:{ n:Nat // n=1000000 }:=Classical.choice ⟨⟨1000000,rfl⟩⟩
noncomputable def WN:Nat:=WNs.val
theorem zd5:WN=1000000:=WNs.property
def sWhile(c:TM)(b:SM):SM:=fun ρ=>whGo c b WN ρ
noncomputable def startO(n:Nat)(ds:List Dt):Ro:=ds.map (fun d=>some (d,0))++qA9 (n-ds.length) none
def endF:Out->R Dt
 |.nx _=>okR .non
 |.rt d=>okR d
 |_=>none
def runF(P n:Nat)(b:SM):FM:=fun ds=>if ds.length=P then zA3 (b (startO n ds)) endF else none
end
end Mi
namespace L2
open PySem PySem.Spec PyProof.Rows
theorem zWD(n d:Nat)(o:Option Int)(hd:d<=n):HT.sIx n d o<=n:=by
 cases o with
 |none=>exact hd
 |some v=>
  show(if v<0 then(v+(n:Int)).toNat else min v.toNat n)<=n
  split<;>omega
theorem zP3(lo hi:Option Int)(n:Nat):Builtin.Str.strSliceIndices lo hi 1 n=(qA6 (HT.sIx n n hi-HT.sIx n 0 lo)).map fun k=>HT.sIx n 0 lo+k:=by
 unfold Builtin.Str.strSliceIndices sliceRange;have c1:∀(o:Option Int)(d:Nat),(match o with|none=>(d:Int)|some i=>(if(1:Int)>0 then max 0 (min (if i<0 then i+(n:Int)else i) n)else max (-1) (min (if i<0 then i+(n:Int)else i) (n-1))))=((HT.sIx n d o:Nat):Int):=by
  intro o d;cases o with
  |none=>rfl
  |some v=>
   show _=(((if v<0 then(v+(n:Int)).toNat else min v.toNat n:Nat)):Int)
   dsimp only;rw[if_pos (by decide)]
   split<;>omega
 dsimp only;rw[if_pos (show(1:Int)>0 by decide),if_pos (show(1:Int)>0 by decide),if_pos (show(1:Int)>0 by decide)];have e1:=c1 lo 0;have e2:=c1 hi n;rw[show((0:Nat):Int)=0 by rfl]at e1;have h1:∀a b:Int,a=((HT.sIx n 0 lo:Nat):Int)->b=((HT.sIx n n hi:Nat):Int)->(qA6 ((if a<b then(b-a+1-1)/1 else 0).toNat)).map (fun k:Nat=>(a+1*(k:Int)).toNat)=(qA6 (HT.sIx n n hi-HT.sIx n 0 lo)).map fun k=>HT.sIx n 0 lo+k:=by
  intro a b ha hb;subst ha hb;have e:(if((HT.sIx n 0 lo:Nat):Int)<((HT.sIx n n hi:Nat):Int)then(((HT.sIx n n hi:Nat):Int)-((HT.sIx n 0 lo:Nat):Int)+1-1)/1 else 0).toNat=HT.sIx n n hi-HT.sIx n 0 lo:=by
   split
   ·rw[Int.ediv_one];omega
   ·omega
  rw[e];refine qAs fun k _=>?_
  omega
 exact h1 _ _ e1 e2
theorem zQC:∀(xs:List Nat)(a k:Nat),a+k<=xs.length->((qA6 k).map fun j=>a+j).filterMap (xs[·]?)=(xs.drop a).take k:=by
 intro xs a k h
 induction k with
 |zero=>simp
 |succ k ih=>
  rw[qBq,qB7,List.filterMap_append,ih (by omega),List.take_add_one]
  congr 1
  have:a+k<xs.length:=by omega
  simp[List.getElem?_drop,this]
theorem zSU(z:Str)(lo hi:Option Int):Txt.slice z lo hi=⟨(Mi.cutA z.cps.toList lo hi).toArray⟩:=by
 obtain⟨⟨xs⟩⟩:=z;have hl:(⟨⟨xs⟩⟩:Str).length=xs.length:=rfl;unfold Txt.slice;rw[zP3,hl];have e0:∀o d,Mi.cutIx xs.length d o=HT.sIx xs.length d o:=fun o d=>by cases o<;>rfl
 have hb:=zWD xs.length xs.length hi (qA7 _);have ha:=zWD xs.length 0 lo (qAk _);have hc:Mi.cutA xs lo hi=(xs.drop (HT.sIx xs.length 0 lo)).take (HT.sIx xs.length xs.length hi-HT.sIx xs.length 0 lo):=by
  unfold Mi.cutA;rw[e0,e0]
 show _=(⟨(Mi.cutA xs lo hi).toArray⟩:Str)
 rw[hc]
 split
 ·rename_i h
  have h':HT.sIx xs.length xs.length hi-HT.sIx xs.length 0 lo=xs.length:=by simpa using h
  have a0:HT.sIx xs.length 0 lo=0:=by omega
  rw[h',a0,qE6,qGg]
 ·by_cases hle:HT.sIx xs.length 0 lo<=HT.sIx xs.length xs.length hi
  ·have:=zQC xs (HT.sIx xs.length 0 lo) (HT.sIx xs.length xs.length hi-HT.sIx xs.length 0 lo) (by omega)
   rw[<- this];simp
  ·rw[show HT.sIx xs.length xs.length hi-HT.sIx xs.length 0 lo=0 by omega];simp
section
variable{X:Cx}
def rSlU(K:qA1):V->Option Int->Option Int->Hp->VK->Prop:=fun x lo hi H Q=>match x with
 |.str z=>z.length<=sizeLine/\Q (.str ⟨(Mi.cutA z.cps.toList lo hi).toArray⟩) H
 |.ref a=>∃xs,SqL K H a xs/\∀p,H p=none->Q (.ref p) (upd H p (.lst (cutV xs lo hi)))
 |_=>False
theorem zQH{v:Value}{o:Option Int}(h:IsPart v o):∃l:Option (Int×Tok),v=partValue l/\l.map (·.1)=o:=by
 cases h with
 |none=>exact⟨none,rfl,rfl⟩
 |int i t=>exact⟨some (i,t),rfl,rfl⟩
theorem u_sl{K:qA1}(hK:X.K=K:=by rfl):SlR X (rSlU K):=by
 subst hK;intro pins s σ H x v vl vu lo hi sl Q I rx hs pl pu h;cases x with
 |ref a=>
  obtain⟨xs,h1,h2⟩:=h;exact zWW pins s σ H _ v vl vu lo hi sl Q I rx hs pl pu ⟨a,xs,rfl,h1,h2⟩
 |str z=>
  obtain⟨hz,q⟩:=h;obtain⟨t,rfl⟩:=rx;obtain⟨l,rfl,el⟩:=zQH pl;obtain⟨u,rfl,eu⟩:=zQH pu;obtain⟨o,g1,g2,g3⟩:=hs;refine⟨"str",_,F.slot_str_getitem.lookup,typeIs_str _ _ _,wpAny_getItem_str_slice (l:=l) (u:=u) (st:=none) ⟨o,g1,g2,g3⟩ rfl ?_⟩;have hp:(if((1:Int)==1&&(Builtin.Str.strSliceIndices lo hi 1 z.length).length==z.length)=true then Made.val (.str z t)else Made.str ⟨((Builtin.Str.strSliceIndices lo hi 1 z.length).filterMap (z.cps[·]?)).toArray⟩).post (EP X pins σ Q) s:=by
   refine post_val_or_str ⟨qAp (Txt.slice_le z lo hi) hz,fun t' k=>?_⟩;refine⟨.str (Txt.slice z lo hi),H,I.tok _,⟨_,rfl⟩,?_⟩;rw[zSU];exact q
  unfold sliceMade slicePicked;rw[el,eu];exact hp
 |_=>exact qA3 h
end
noncomputable def Its(z:Str):It:=⟨fun i _=>i<z.cps.size,fun i H x H'=>H'=H/\∃c,z.cps[i]?=some c/\x=.str ⟨#[c]⟩,fun i _=>z.cps.size<=i⟩
theorem zSO{P:Program}{w:World}{K:qA1}{tg:Expr}(z:Str)(t:Tok)(it:Addr)(ty:String)(hty:ty=strIterType z):Turn P w K tg (Its z) [it] it (fun i h=>h.IsStrIter it ty z t i) where
 mem:=by simp
 obj:=fun i h st b hb=>by
  have e:b=it:=by simpa using hb
  subst e;obtain⟨o,e,c,d⟩:=st;exact⟨o,e,fun v z=>by rw[d]at z;cases z⟩
 keep:=fun i h h' st k=>by obtain⟨o,ho,r⟩:=st;exact⟨o,k it (by simp) o ho,r⟩
 item:=by
  intro X hP hw hK hc i pins s σ H E I hf st hg;subst hP hw hK;have hi:i<z.cps.size:=hg;have hx:z.cps[i]?=some z.cps[i]:=Array.getElem?_eq_getElem hi;obtain⟨f0,f1,f2,f3,f4,f5⟩:=hf it (by simp);have fin:∀h',h'.IsStrIter it ty z t (i+1)->Heap.SameBut it s.heap h'->∃u,some (Value.str ⟨#[z.cps[i]]⟩ s.toks)=some u/\wpAny (model X.prog X.w) X.A (letOwnedTupleGo tg (.ref it) u) (fun _ s2=>∃x H',Inv X pins σ H' s2/\RelV x u/\(Its z).yld i H x H'/\s2.heap.IsStrIter it ty z t (i+1)/\∀b∈[it],H' b=none) E { s with heap:=h',toks:=s.toks+1 }:=by
   intro h' st' sb;have I1:Inv X pins σ H { s with heap:=h',toks:=s.toks+1 }:=I.turned (t':=s.toks+1) (fun b o hb e=>(sb.2 b hb).trans e) f0 f1 f3 f4 f5;obtain⟨o,e,c,d⟩:=id st';refine⟨_,rfl,zUA (s:={ s with heap:=h',toks:=s.toks+1 }) e c d ?_ ⟨.str ⟨#[z.cps[i]]⟩,H,I1,⟨_,rfl⟩,⟨rfl,_,hx,rfl⟩,st',fun b hb=>(hf b hb).1⟩⟩;rw[hty];unfold strIterType;split<;>decide
  cases ha:z.cps.all (· < 128)
  ·have e:ty = "str_iterator":=by rw[hty];unfold strIterType;rw[ha];rfl
   subst e;exact wpAny_pyNext_wide_item st hx fun h' a b=>fin h' a b
  ·have e:ty = "str_ascii_iterator":=by rw[hty];unfold strIterType;rw[ha];rfl
   subst e;exact wpAny_pyNext_ascii_item st hx fun h' a b=>fin h' a b
 done:=by
  intro X hP hw hK hc i pins s σ H E I hf st hg;subst hP hw hK;have hx:z.cps[i]?=none:=Array.getElem?_eq_none hg;obtain⟨f0,f1,f2,f3,f4,f5⟩:=hf it (by simp);have fin:∀h',Heap.ExtBut it s.heap h'->(none:Option Value)=none/\Inv X pins σ H { s with heap:=h' }:=fun h' eb=>⟨rfl,I.turned (t':=s.toks) (fun b o hb e=>eb b o hb e) f0 f1 f3 f4 f5⟩
  cases ha:z.cps.all (· < 128)
  ·have e:ty = "str_iterator":=by rw[hty];unfold strIterType;rw[ha];rfl
   subst e;exact wpAny_pyNext_wide_end (I.ok.hd hc) st hx fun h' a=>fin h' a
  ·have e:ty = "str_ascii_iterator":=by rw[hty];unfold strIterType;rw[ha];rfl
   subst e;exact wpAny_pyNext_ascii_end (I.ok.hd hc) st hx fun h' a=>fin h' a
 self:=fun A i s Q E st h=>by
  cases ha:z.cps.all (· < 128)
  ·have e:ty = "str_iterator":=by rw[hty];unfold strIterType;rw[ha];rfl
   subst e;exact wpAny_pyIter_striter_wide st h
  ·have e:ty = "str_ascii_iterator":=by rw[hty];unfold strIterType;rw[ha];rfl
   subst e;exact wpAny_pyIter_striter_ascii st h
section
variable{X:Cx}
def iAny(K:qA1)(tl:TE):TI:=fun σ H R=>tl σ H fun x H1=>match x with
 |.ref a=>(∃xs,SqL K H1 a xs)/\R (Itl K a) H1\/(∃xs,SqT K H1 a xs)/\R (Itt K a) H1
 |.str z=>R (Its z) H1
 |_=>False
theorem zF3{K:qA1}{tg l:Expr}{tl:TE}(hl:PE X l tl)(hK:X.K=K:=by rfl):PI X tg l (iAny K tl):=by
 subst hK;intro pins s σ H R I h;refine thn (hl pins s σ H _ I h) fun v s1 z0=>?_
 obtain⟨x,H1,I1,r1,q1⟩:=z0;cases x with
 |ref a=>
  cases r1
  rcases q1 with⟨⟨xs,hq⟩,q⟩|⟨⟨xs,hq⟩,q⟩
  ·obtain⟨its,rv,p,hz⟩:=I1.list hq;refine wpAny_pyIter_list p.isList ?_;refine⟨s1.heap.objs.size,[s1.heap.objs.size],_,_,H1,rfl,I1.kept (t':=s1.toks) fun b o e=>Heap.get?_push_of_some _ e,zPP a _,⟨_,Heap.get?_push_size _ rfl,rfl,rfl⟩,fun b hb=>?_,q⟩;have e:b=s1.heap.objs.size:=by simpa using hb
   subst e;exact I1.fpOk (qA7 _) (I1.hok.fresh (qA7 _))
  ·obtain⟨its,rv,p,hz⟩:=I1.tuple hq;refine wpAny_pyIter_tuple (show s1.heap.IsTuple a its.toArray from p) ?_;refine⟨s1.heap.objs.size,[s1.heap.objs.size],_,_,H1,rfl,I1.kept (t':=s1.toks) fun b o e=>Heap.get?_push_of_some _ e,zO9 a _,⟨_,Heap.get?_push_size _ rfl,rfl,rfl⟩,fun b hb=>?_,q⟩;have e:b=s1.heap.objs.size:=by simpa using hb
   subst e;exact I1.fpOk (qA7 _) (I1.hok.fresh (qA7 _))
 |str z=>
  obtain⟨t,rfl⟩:=r1;refine wpAny_pyIter_strU ?_;refine⟨s1.heap.objs.size,[s1.heap.objs.size],_,_,H1,rfl,I1.kept (t':=s1.toks) fun b o e=>Heap.get?_push_of_some _ e,zSO z t _ _ rfl,⟨_,Heap.get?_push_size _ rfl,rfl,rfl⟩,fun b hb=>?_,q1⟩;have e:b=s1.heap.objs.size:=by simpa using hb
  subst e;exact I1.fpOk (qA7 _) (I1.hok.fresh (qA7 _))
 |_=>exact qA3 q1
def zb6:V->List V->Hp->VK->Prop:=fun x vs H Q=>match x,vs with
 |.str z,[.str y]=>Q (.int (Txt.find z y)) H
 |_,_=>False
theorem zTP:MtR X "str.find" zb6:=by
 intro pins s σ H x vs v us Q I rx rv h;cases x with
 |str z=>
  cases vs with
  |nil=>exact qA3 h
  |cons y t=>
   cases y with
   |str y=>
    cases t with
    |nil=>
     obtain⟨t,rfl⟩:=rx;obtain⟨u,rfl,ru⟩:=zCR rv;obtain⟨t2,rfl⟩:=ru;exact SC.find ⟨.int _,H,I.tok _,⟨_,rfl⟩,h⟩
    |cons _ _=>exact qA3 h
   |_=>exact qA3 h
 |_=>exact qA3 h
def zWE:V->List V->Hp->VK->Prop:=fun x vs H Q=>match x,vs with
 |.str z,[.str y]=>Q (.int (Txt.count z y)) H
 |_,_=>False
theorem zQW:MtR X "str.count" zWE:=by
 intro pins s σ H x vs v us Q I rx rv h;cases x with
 |str z=>
  cases vs with
  |nil=>exact qA3 h
  |cons hd1 tl1=>
   cases hd1 with
   |str y=>
    cases tl1 with
    |nil=>
     obtain⟨t,rfl⟩:=rx;obtain⟨u,rfl,ru⟩:=zCR rv;obtain⟨t2,rfl⟩:=ru;exact SC.count ⟨.int _,H,I.tok _,⟨_,rfl⟩,h⟩
    |cons _ _=>exact qA3 h
   |_=>exact qA3 h
 |_=>exact qA3 h
def zVV:V->List V->Hp->VK->Prop:=fun x vs H Q=>match x,vs with
 |.str z,[.str y]=>∃(i:Nat)(rest:List Nat),Builtin.Str.occurrences z y 0 z.length 1=i::rest/\Q (.int i) H
 |_,_=>False
theorem zG2:MtR X "str.index" zVV:=by
 intro pins s σ H x vs v us Q I rx rv h;cases x with
 |str z=>
  cases vs with
  |nil=>exact qA3 h
  |cons hd1 tl1=>
   cases hd1 with
   |str y=>
    cases tl1 with
    |nil=>
     obtain⟨t,rfl⟩:=rx;obtain⟨u,rfl,ru⟩:=zCR rv;obtain⟨t2,rfl⟩:=ru;obtain⟨i,rest,h1,h2⟩:=h;exact SC.index h1 ⟨.int _,H,I.tok _,⟨_,rfl⟩,h2⟩
    |cons _ _=>exact qA3 h
   |_=>exact qA3 h
 |_=>exact qA3 h
theorem zJD:∀{ys:List Str}{us:List Value},Vals (ys.map V.str) us->StrsAre us ys
 |[],_,.nil=>.nil
 |y::ys,_,.cons r t=>by obtain⟨k,rfl⟩:=r;exact .cons y k (zJD t)
def zaR:V->List V->Hp->VK->Prop:=fun x vs H Q=>match x,vs with
 |.str z,[.ref a]=>∃ys:List Str,H a=some (.lst (ys.map V.str))/\(ys.map (·.length)).sum+ys.length*z.length<=16777216/\Q (.str (Str.join z ys)) H
 |_,_=>False
theorem zNF:MtR X "str.join" zaR:=by
 intro pins s σ H x vs v us Q I rx rv h;cases x with
 |str z=>
  cases vs with
  |nil=>exact qA3 h
  |cons hd1 tl1=>
   cases hd1 with
   |ref a=>
    cases tl1 with
    |nil=>
     obtain⟨t,rfl⟩:=rx;obtain⟨u,rfl,ru⟩:=zCR rv;cases ru;obtain⟨ys,h1,h2,h3⟩:=h;obtain⟨its,rv,hl⟩:=zAQ I.hok h1;exact join_list hl (by simpa using zJD rv) h2 fun t' k=>⟨.str (Str.join z ys),H,I.tok _,⟨t',by rw[eq_of_beq (join_closes (ys:=ys) (rfl:z=z))]⟩,h3⟩
    |cons _ _=>exact qA3 h
   |_=>exact qA3 h
 |_=>exact qA3 h
end
theorem zL3(z:Str)(c i:Nat):(i+1<=z.length/\Builtin.Str.subAt z ⟨#[c]⟩ i=true)↔z.cps.toList[i]?=some c:=by
 obtain⟨⟨xs⟩⟩:=z;unfold Builtin.Str.subAt
 show(i+1<=xs.length/\((⟨xs⟩:Array Nat).extract i (i+1)==#[c])=true)↔xs[i]?=some c
 constructor
 ·rintro⟨h1,h2⟩
  have h3:=congrArg qG8 (eq_of_beq h2);simp at h3;have hlt:i<xs.length:=by omega
  rw[qA2 hlt];have h4:(qI4 1 (qF2 i xs))=[c]:=by
   have:=h3
   simpa[qE7]using this
  rw[qB8 hlt,qFm]at h4;exact congrArg some (qHn h4).1
 ·intro h;have hlt:i<xs.length:=(qA5.mp h).1;have he:xs[i]=c:=(qA5.mp h).2;refine⟨by omega,?_⟩
  have:(⟨xs⟩:Array Nat).extract i (i+1)=#[c]:=by
   apply Array.toList_inj.mp
   simp[qE7];rw[qB8 hlt];simp[he]
  rw[this];simp
theorem zHZ(c:Nat):∀(xs:List Nat),(Mi.posC c xs=none/\∀i:Nat,xs[i]?≠some c)\/∃i:Nat,Mi.posC c xs=some i/\xs[i]?=some c/\∀j:Nat,j<i->xs[j]?≠some c
 |[]=>.inl ⟨rfl,fun i=>by simp⟩
 |x::r=>by
  rw[Mi.posC]
  by_cases h:x=c
  ·rw[if_pos h];exact .inr ⟨0,rfl,by simp[h],fun j hj=>by omega⟩
  ·rw[if_neg h]
   rcases zHZ c r with⟨h1,h2⟩|⟨i,h1,h2,h3⟩
   ·rw[h1];refine .inl ⟨rfl,fun i=>?_⟩;cases i with
    |zero=>simpa using h
    |succ i=>simpa using h2 i
   ·rw[h1];refine .inr ⟨i+1,rfl,by simpa using h2,fun j hj=>?_⟩;cases j with
    |zero=>simpa using h
    |succ j=>simpa using h3 j (by omega)
theorem zK0(z y:Str)(hi:Nat):∀(l:List Nat)(free:Nat),(∀i∈l,free<=i)->l.Pairwise (· < ·) ->
  ((forIn l ((#[]:Array Nat),free) (StrLaws.occBody z y hi 1)).run.fst.toList=[]/\∀i∈l,¬(i+y.length<=hi/\Builtin.Str.subAt z y i=true)) \/
  ∃i,i∈l/\(forIn l ((#[]:Array Nat),free) (StrLaws.occBody z y hi 1)).run.fst.toList=[i]/\(i+y.length<=hi/\Builtin.Str.subAt z y i=true)/\∀j∈l,j<i->¬(j+y.length<=hi/\Builtin.Str.subAt z y j=true)
 |[],free,_,_=>.inl ⟨by simp,fun i h=>by simp at h⟩
 |a::l,free,hf,hp=>by
  rw[qF1];unfold StrLaws.occBody;have ha:free<=a:=hf a qAz;have hp':=qBs.mp hp
  by_cases hc:a+y.length<=hi/\Builtin.Str.subAt z y a=true
  ·have c1:(((#[]:Array Nat),free).fst.size<1/\((#[]:Array Nat),free).snd<=a)/\a+y.length<=hi:=⟨⟨by simp,ha⟩,hc.1⟩
   rw[if_pos ⟨c1,hc.2⟩];refine .inr ⟨a,qAz,?_,hc,fun j hj hlt=>?_⟩
   ·have stay:∀(l:List Nat)(st:Array Nat×Nat),st.fst.size=1->(forIn l st (StrLaws.occBody z y hi 1)).run.fst=st.fst:=by
     intro l
     induction l with
     |nil=>intro st _;rfl
     |cons b l ih=>
      intro st hs;rw[qF1];unfold StrLaws.occBody;rw[if_neg (by rw[hs];intro h;omega)];exact ih (st.fst,st.snd) hs
    have:=stay l (#[a],a+y.length) rfl
    show(forIn l (#[a],a+y.length) (StrLaws.occBody z y hi 1)).run.fst.toList=[a]
    rw[this]
   ·rcases qAb.mp hj with rfl|hm
    ·omega
    ·have:=hp'.1 j hm;omega
  ·have c2:¬(((((#[]:Array Nat),free).fst.size<1/\((#[]:Array Nat),free).snd<=a)/\a+y.length<=hi)/\Builtin.Str.subAt z y a=true):=fun h=>hc ⟨h.1.2,h.2⟩
   rw[if_neg c2]
   rcases zK0 z y hi l free (fun i hi'=>hf i (qAt _ hi')) hp'.2 with⟨h1,h2⟩|⟨i,h1,h2,h3,h4⟩
   ·refine .inl ⟨h1,fun i hi'=>?_⟩
    rcases qAb.mp hi' with rfl|hm
    ·exact hc
    ·exact h2 i hm
   ·refine .inr ⟨i,qAt _ h1,h2,h3,fun j hj hlt=>?_⟩
    rcases qAb.mp hj with rfl|hm
    ·exact hc
    ·exact h4 j hm hlt
theorem zQQ(z:Str)(c:Nat):Builtin.Str.occurrences z ⟨#[c]⟩ 0 z.length 1=(match Mi.posC c z.cps.toList with|some i=>[i]|none=>[]):=by
 rw[StrLaws.occ_eq];have hlen:(⟨#[c]⟩:Str).length=1:=rfl;have hzl:z.length=z.cps.toList.length:=by simp[Str.length]
 have hm:∀i,i<z.length->i∈qFn 0 (z.length+1-0):=fun i hi=>by simp[List.mem_range'];omega
 rcases zK0 z ⟨#[c]⟩ z.length (qFn 0 (z.length+1-0)) 0 (fun _ _=>qAk _) (List.pairwise_lt_range' (s:=0) (n:=z.length+1-0) (step:=1) (by decide))with⟨h1,h2⟩|⟨i,h1,h2,h3,h4⟩
 ·rw[h1]
  rcases zHZ c z.cps.toList with⟨g1,_⟩|⟨j,g1,g2,_⟩
  ·rw[g1]
  ·exact absurd ((zL3 z c j).mpr g2) (h2 j (hm j (by rw[hzl];exact(qA5.mp g2).1)))
 ·rw[h2];have hi:=(zL3 z c i).mp h3
  rcases zHZ c z.cps.toList with⟨_,g2⟩|⟨j,g1,g2,g3⟩
  ·exact absurd hi (g2 i)
  ·rw[g1];have hj:j<z.length:=by rw[hzl];exact(qA5.mp g2).1
   rcases qG4 i j with q|q|q
   ·exact absurd hi (g3 i q)
   ·rw[q]
   ·exact absurd ((zL3 z c j).mpr g2) (h4 j (hm j hj) q)
theorem zUD(z:Str)(c:Nat):Txt.find z ⟨#[c]⟩=(match Mi.posC c z.cps.toList with|some i=>(i:Int)|none=>-1):=by
 unfold Txt.find;rw[zQQ];cases Mi.posC c z.cps.toList<;>rfl
theorem zS6(z:Str)(c:Nat):Txt.count z ⟨#[c]⟩=(z.cps.toList.count c:Nat):=by
 rw[count_is];show cnt c z.cps.toList=_
 generalize z.cps.toList=xs
 induction xs with
 |nil=>rfl
 |cons x r ih=>
  rw[cnt_cons,ih,List.count_cons]
  by_cases h:x=c<;>simp[h]
  omega
end L2
namespace L2
open PySem PySem.Spec PyProof.Rows
section
variable{X:Cx}{K:qA1}
end
end L2
namespace L2
open PySem PySem.Spec PyProof.Rows
def XO(e:Addr)(C:Value)(d:Option Addr)(h:Heap):Prop:=∃oe vs,h.get? e=some oe/\oe.cls=C/\oe.dict=d/\oe.data=.fields vs/\1<vs.size
abbrev xo(e:Addr)(C:Value)(d:Option Addr):HO:=.ext (XO e C d)
def Fl(n:Nat)(e:Addr)(C:Value)(d:Option Addr)(mk:Value)(H:Hp)(h:Heap):Prop:=
 ∃oe vs T oT ts,h.get? e=some oe/\oe.cls=C/\oe.dict=d/\oe.data=.fields vs/\vs[1]?=some (.ref T)/\n<=T/\T≠e/\H T=none/\h.get? T=some oT/\oT.data=.fields ts/\ts[3]?=some mk
def Fly(n:Nat)(e:Addr)(C:Value)(d:Option Addr)(H:Hp)(h:Heap):Prop:=
 H e=some (xo e C d)/\((∃oe vs,h.get? e=some oe/\oe.cls=C/\oe.dict=d/\oe.data=.fields vs/\vs[1]?=some .none)\/Fl n e C d .none H h)
def Held(n:Nat)(e:Addr)(C:Value)(d:Option Addr)(L:Addr)(H:Hp)(h:Heap):Prop:=H e=some (xo e C d)/\Fl n e C d (rawInt L) H h
theorem Fly.mono{n n':Nat}{e:Addr}{C:Value}{d:Option Addr}{H:Hp}{h:Heap}(x:Fly n e C d H h)(hn:n'<=n):Fly n' e C d H h:=by
 obtain⟨a,b|⟨oe,vs,T,oT,ts,h1,h2,h3,h4,h5,h6,h7⟩⟩:=x
 ·exact⟨a,.inl b⟩
 ·exact⟨a,.inr ⟨oe,vs,T,oT,ts,h1,h2,h3,h4,h5,qAp hn h6,h7⟩⟩
structure Nt(n:Nat)(fs ch:List Addr)(e:Addr)(H:Hp)(h h':Heap):Prop where
 keep:∀b o,h.get? b=some o->b≠e->b∉fs->b∉ch->h'.get? b=some o
 slot:∀b o,h.get? b=some o->b≠e->b∉ch->∃sl,h'.get? b=some { o with slots:=sl }
 there:∀b o,h.get? b=some o->∃o',h'.get? b=some o'
 old:∀b∈ch,n<=b/\H b=none/\∃o vs,h.get? b=some o/\o.data=.fields vs
section
variable{M:Model}{A:Around}{E:Value->Shared->Prop}{s:Shared}{n:Nat}{e L:Addr}{C:Value}{d:Option Addr}{H:Hp}{base:Heap}{env:Env}{outer:List Env}
theorem zW3{oe:Obj}{vs:Array Value}{head:Value}{hadNext:Bool}{Q:Unit->Shared->Prop}
  (hfr:A.frames=some (env::outer)) (hl:s.heap.FunFrames base (env::outer)) (hf:env.frame=some L)
  (he:s.heap.get? e=some oe) (hc:oe.cls=C) (hdi:oe.dict=d) (hd:oe.data=.fields vs) (hsz:1<vs.size) (hn:n<=s.heap.objs.size) (hH:∀b,s.heap.objs.size<=b->H b=none)
  (h:∀h',(∀b o,s.heap.get? b=some o->b≠e->b∉frs (env::outer)->h'.get? b=some o)->(∀b o,s.heap.get? b=some o->b≠e->∃sl,h'.get? b=some { o with slots:=sl }) ->
   (∃o',h'.get? e=some o')->Fl n e C d (rawInt L) H h'->Q () { s with heap:=h' }) :
  wpAny M A (do let a <- frameOf env;let pl <- entryPlaceOf L hadNext;let b <- EntryCells.newEntry head a .none (rawInt L) .none pl;setField (.ref e) 1 b) Q E s:=by
 have hene:e∉(env::outer).filterMap (·.frame):=fun hm=>by
  obtain⟨_,o,ho,hnf⟩:=hl.mem hm;rw[he]at ho;injection ho with ho;subst ho;exact hnf vs hd
 refine wpAny_bind (wpAny_frameOf_fun hfr hl hf fun h₁ hs₁=>?_);refine wpAny_bind (wpAny_entryPlaceOf fun pl hpl=>?_);unfold EntryCells.newEntry newFields;refine wpAny_bind (wpAny_newObj_type ?_ (hpl.sizeOk5 _ _ _ _ _));have he₁:h₁.get? e=some oe:=(hs₁.2.1 e hene).trans he;have he₂:=Heap.get?_push_of_some (h:=h₁) { cls:=.type "traceback",dict:=none,data:=.fields ([head,.ref L,.none,rawInt L,.none]++(if pl.isEmpty then qA9 6 Value.none else pl)).toArray } he₁;have hTe:h₁.objs.size≠e:=qBp (Heap.lt_size he₁);have hd₃:=Obj.data_mapFields hd (·.setIfInBounds 1 (Value.ref h₁.objs.size));have he₃:=Heap.get?_update_self (Obj.mapFields (·.setIfInBounds 1 (Value.ref h₁.objs.size))) he₂ (Obj.isFreed_of_fields hd₃);have hT₃:=(Heap.get?_update_other (h₁.push { cls:=.type "traceback",dict:=none,data:=.fields ([head,.ref L,.none,rawInt L,.none]++(if pl.isEmpty then qA9 6 Value.none else pl)).toArray })
  (Obj.mapFields (·.setIfInBounds 1 (Value.ref h₁.objs.size))) (qCf hTe)).trans (Heap.get?_push_size h₁ rfl)
 have keep:∀b o,b≠e->h₁.get? b=some o ->
   ((h₁.push { cls:=.type "traceback",dict:=none,data:=.fields ([head,.ref L,.none,rawInt L,.none]++(if pl.isEmpty then qA9 6 Value.none else pl)).toArray }).update e (Obj.mapFields (·.setIfInBounds 1 (Value.ref h₁.objs.size)))).get? b=some o:=
  fun b o hbe hb=>by
   rw[Heap.get?_update_other _ _ (qCf hbe)];exact Heap.get?_push_of_some _ hb
 have hsz1:h₁.objs.size=s.heap.objs.size:=hs₁.1;refine wpAny_setField he₂ hd hsz (h _ (fun b o hb hbe hbf=>keep b o hbe ((hs₁.2.1 b hbf).trans hb)) (fun b o hb hbe=>?_) ⟨_,he₃⟩ ?_)
 ·obtain⟨sl,e1⟩:=hs₁.2.2 b o hb;exact⟨sl,keep b _ hbe e1⟩
 ·have hdo:∀(o:Obj) f,(Obj.mapFields f o).dict=o.dict:=fun o f=>by unfold Obj.mapFields;split<;>rfl
  exact⟨_,_,h₁.objs.size,_,_,he₃,(Obj.cls_mapFields _ _).trans hc,(hdo _ _).trans hdi,hd₃,by simp[hsz],by rw[hsz1];exact hn,hTe,hH _ (by rw[hsz1];exact qA7 _),hT₃,rfl,
   by first|(simp;done)|(rcases hpl with rfl|⟨_,_,_,_,_,_,_,rfl⟩<;>simp)⟩
theorem zXJ{Q:Unit->Shared->Prop}(hfr:A.frames=some (env::outer))(hl:s.heap.FunFrames base (env::outer))(hf:env.frame=some L)(x:Fly n e C d H s.heap)(hn:n<=s.heap.objs.size)(hH:∀b,s.heap.objs.size<=b->H b=none)
  (h:∀h' ch,Nt n (frs (env::outer)) ch e H s.heap h'->Held n e C d L H h'->Q () { s with heap:=h' }):wpAny M A (noteFrame (.ref e) env) Q E s:=by
 obtain⟨hx,⟨oe,vs,he,hc,hdi,hd,h1⟩|⟨oe,vs,T,oT,ts,he,hc,hdi,hd,h1,hnT,hTe,hHT,hT,hdT,h3⟩⟩:=x
 ·unfold noteFrame;simp only[hf];refine wpAny_bind (wpAny_field he hd h1 ?_);rw[if_neg (by decide)];refine zW3 hfr hl hf he hc hdi hd (qBm.mp h1).1 hn hH fun h' k1 k2 k3 k4=>?_
  refine h h' [] ⟨fun b o hb hbe hbf _=>k1 b o hb hbe hbf,fun b o hb hbe _=>k2 b o hb hbe,fun b o hb=>?_,fun b hb=>nomatch hb⟩ ⟨hx,k4⟩
  by_cases z:b=e
  ·rw[z];exact k3
  ·obtain⟨sl,q⟩:=k2 b o hb z;exact⟨_,q⟩
 ·unfold noteFrame;simp only[hf];refine wpAny_bind (wpAny_field he hd h1 ?_);rw[if_pos (show(Value.ref T != Value.none)=true from by simp)];refine wpAny_bind (wpAny_field hT hdT h3 ?_);rw[if_neg (show ¬((Value.none==rawInt L)=true) from by simp[rawInt])];refine wpAny_bind (wpAny_setField hT hdT (qBm.mp h3).1 ?_);have other:∀b,b≠T->(s.heap.update T (Obj.mapFields (·.setIfInBounds 3 Value.none))).get? b=s.heap.get? b:=fun b hb=>Heap.get?_update_other _ _ (qCf hb)
  have noRecord:∀b o,s.heap.get? b=some o->(∀vs,o.data≠.fields vs)->b≠T:=fun b o hb hnf q=>by
   rw[q,hT]at hb;injection hb with hb;subst hb;exact hnf ts hdT
  have hl1:=hl.of_keeps (h':=s.heap.update T (Obj.mapFields (·.setIfInBounds 3 Value.none))) fun b o hb hnf=>⟨o,(other b (noRecord b o hb hnf)).trans hb,rfl⟩
  have hself:=Heap.get?_update_self (Obj.mapFields (·.setIfInBounds 3 Value.none)) hT (Obj.isFreed_of_fields (Obj.data_mapFields hdT _));have hsz:(s.heap.update T (Obj.mapFields (·.setIfInBounds 3 Value.none))).objs.size=s.heap.objs.size:=by simp
  refine zW3 (s:={ s with heap:=s.heap.update T (Obj.mapFields (·.setIfInBounds 3 Value.none)) }) hfr hl1 hf ((other e (qCf hTe)).trans he) hc hdi hd (qBm.mp h1).1 (by rw[hsz];exact hn) (by rw[hsz];exact hH) fun h' k1 k2 k3 k4=>?_
  have nT:∀b,b∉[T]->b≠T:=fun b hb z=>hb (by simp[z])
  refine h h' [T] ⟨fun b o hb hbe hbf hc=>k1 b o ((other b (nT b hc)).trans hb) hbe hbf,fun b o hb hbe hc=>k2 b o ((other b (nT b hc)).trans hb) hbe,fun b o hb=>?_,fun b hb=>?_⟩ ⟨hx,k4⟩
  ·by_cases z:b=e
   ·rw[z];exact k3
   ·by_cases z':b=T
    ·rw[z'];obtain⟨sl,q⟩:=k2 T _ hself hTe;exact⟨_,q⟩
    ·obtain⟨sl,q⟩:=k2 b o ((other b z').trans hb) z;exact⟨_,q⟩
  ·obtain rfl:b=T:=by simpa using hb
   exact⟨hnT,hHT,oT,ts,hT,hdT⟩
theorem zXP{Q:Unit->Shared->Prop}{fs:List Addr}{mk:Value}(x:Fl n e C d mk H s.heap)
  (h:∀h' ch,Nt n fs ch e H s.heap h'->Fl n e C d .none H h'->Q () { s with heap:=h' }):wpAny M A (setFlight (.ref e) none) Q E s:=by
 obtain⟨oe,vs,T,oT,ts,he,hc,hdi,hd,h1,hnT,hTe,hHT,hT,hdT,h3⟩:=x;have hsz3:3<ts.size:=(qBm.mp h3).1;have other:∀b,b≠T->(s.heap.update T (Obj.mapFields (·.setIfInBounds 3 ((none:Option Addr).elim Value.none fun f=>rawInt f)))).get? b=s.heap.get? b:=
  fun b hb=>Heap.get?_update_other _ _ (qCf hb)
 have hself:=Heap.get?_update_self (Obj.mapFields (·.setIfInBounds 3 ((none:Option Addr).elim Value.none fun f=>rawInt f))) hT (Obj.isFreed_of_fields (Obj.data_mapFields hdT _));have nT:∀b,b∉[T]->b≠T:=fun b hb z=>hb (by simp[z])
 unfold setFlight;refine wpAny_bind (wpAny_field he hd h1 ?_);rw[if_pos (show(Value.ref T != Value.none)=true from by simp)];refine wpAny_setField hT hdT hsz3 (h _ [T] ⟨fun b o hb _ _ hc=>(other b (nT b hc)).trans hb,fun b o hb _ hc=>⟨o.slots,(other b (nT b hc)).trans hb⟩,fun b o hb=>?_,fun b hb=>?_⟩ ?_)
 ·by_cases z:b=T
  ·rw[z];exact⟨_,hself⟩
  ·exact⟨o,(other b z).trans hb⟩
 ·obtain rfl:b=T:=by simpa using hb
  exact⟨hnT,hHT,oT,ts,hT,hdT⟩
 ·exact⟨oe,vs,T,_,_,(other e (qCf hTe)).trans he,hc,hdi,hd,h1,hnT,hTe,hHT,hself,Obj.data_mapFields hdT _,by simp[hsz3]⟩
end
section
variable{X:Cx}{pins:List (Addr×Obj)}{σ:St}{H:Hp}{s:Shared}{n:Nat}{e:Addr}{C:Value}{d:Option Addr}{A:Around}{E:Value->Shared->Prop}{fs ch:List Addr}{h h':Heap}
theorem Nt.hok{P:Program}{w:World}(t:Nt n fs ch e H h h')(k:HOk P w H h)(he:H e=some (xo e C d))(hfs:∀b∈fs,H b=none)(f:XO e C d h'):HOk P w H h':=fun a o ha=>by
 by_cases z:a=e
 ·subst z;rw[he]at ha;cases ha;obtain⟨oe,vs,h1,r⟩:=id f;exact⟨f,⟨oe,h1⟩,(k a _ he).2.2⟩
 ·refine(k a o ha).stay (fun b u hb q=>?_) (fun _ q=>q) fun _ _ q=>q
  have hb':H b≠none:=by
   rcases hb with rfl|hb
   ·rw[ha];exact fun z=>by cases z
   ·rw[hb];exact fun z=>by cases z
  have hbe:b≠e:=by
   rcases hb with rfl|hb
   ·exact z
   ·intro y;rw[y,he]at hb;cases hb
  exact t.keep b u q hbe (fun y=>hb' (hfs b y)) fun y=>hb' (t.old b y).2.1
theorem Fl.xo{mk:Value}(f:Fl n e C d mk H h):XO e C d h:=by
 obtain⟨oe,vs,T,oT,ts,h1,h2,h3,h4,h5,_⟩:=f;exact⟨oe,vs,h1,h2,h3,h4,(qBm.mp h5).1⟩
theorem Nt.un(t:Nt n fs ch e H h h')(he:H e=some (xo e C d)):Un fs ch H H h h':=
 ⟨fun b o q hn hf hc=>t.keep b o q (fun z=>by rw[z,he]at hn;cases hn) hf hc,fun b o q hn _ hc=>t.slot b o q (fun z=>by rw[z,he]at hn;cases hn) hc,fun _ _ _ hn _=>hn,fun b o q _=>t.there b o q,fun _ _ q=>q,fun _ _ _ q=>q,fun b ps q=>⟨#[],by simpa using q⟩⟩
theorem Inv.noted(I:Inv X pins σ H s)(t:Nt n (frs X.stack) ch e H s.heap h')(he:H e=some (xo e C d))(f:XO e C d h')(hn:X.s₀.heap.objs.size<=n)(hp:∀p∈X.pn++pins,p.1<n):Inv X pins σ H { s with heap:=h' }:=by
 refine I.call' rfl (t.un he) (t.hok I.hok he I.stkFree f) I.bare fun b hb=>?_
 obtain⟨h1,h2,o,vs,h3,h4⟩:=t.old b hb;refine⟨.inr (qAp hn h1),?_,?_,fun p hp' z=>?_⟩
 ·intro z;obtain⟨m,⟨o',es,ep,ho',hd',_⟩,_⟩:=I.loc;rw[z,ho']at h3;cases h3;rw[hd']at h4;cases h4
 ·intro x c hx z;obtain⟨v,o',ho',hd'⟩:=I.cell x c hx;rw[<- z,ho']at h3;cases h3;rw[hd']at h4;cases h4
 ·have:=hp p hp'
  rw[z]at this;exact absurd h1 (Nat.not_le_of_lt this)
theorem zTM{Q:Unit->Shared->Prop}{M:Model}(I:Inv X pins σ H s)(hA:A.frames=some X.stack)(hs:X.stack=X.env::X.outer/\X.env.frame=some X.env.locals)(x:Fly n e C d H s.heap)(hn:X.s₀.heap.objs.size<=n)(hn':n<=s.heap.objs.size)
  (hp:∀p∈X.pn++pins,p.1<n) (h:∀s',Inv X pins σ H s'->Held n e C d X.env.locals H s'.heap->Q () s'):wpAny M A (noteFrame (.ref e) X.env) Q E s:=by
 have hst:=I.stack;rw[hs.1]at hA hst;refine zXJ hA hst hs.2 x hn' (fun b hb=>I.hok.fresh hb) fun h' ch t y=>h _ (I.noted (ch:=ch) (by rw[hs.1];exact t) x.1 y.2.xo hn hp) y
theorem zTR{Q:Unit->Shared->Prop}{M:Model}{mk:Value}(I:Inv X pins σ H s)(hx:H e=some (xo e C d))(x:Fl n e C d mk H s.heap)(hn:X.s₀.heap.objs.size<=n)
  (hp:∀p∈X.pn++pins,p.1<n) (h:∀s',Inv X pins σ H s'->Fl n e C d .none H s'.heap->Q () s'):wpAny M A (setFlight (.ref e) none) Q E s:=
 zXP (fs:=frs X.stack) x fun h' ch t y=>h _ (I.noted t hx y.xo hn hp) y
theorem zR2{Q:Unit->Shared->Prop}{M:Model}(I:Inv X pins σ H s)(hA:A.frames=some X.stack)(hs:X.stack=X.env::X.outer/\X.env.frame=some X.env.locals)(x:Fly n e C d H s.heap)(hn:X.s₀.heap.objs.size<=n)(hn':n<=s.heap.objs.size)
  (hp:∀p∈X.pn++pins,p.1<n) (h:∀s',Inv X pins σ H s'->Fly n e C d H s'.heap->Q () s'):wpAny M A (leaving X.env (.ref e)) Q E s:=by
 unfold leaving;exact wpAny_bind (zTM I hA hs x hn hn' hp fun s1 I1 y=>zTR I1 y.1 y.2 hn hp fun s2 I2 z=>h s2 I2 ⟨y.1,.inr z⟩)
end
def CXe(P:Program)(w:World):CXT:=fun outer H s E x s'=>∃e C d H',x=.ref e/\s'.os=s.os/\AllBare s'.gens/\Un (frs outer) [] H H' s.heap s'.heap/\HOk P w H' s'.heap/\Fly s.heap.objs.size e C d H' s'.heap/\s.heap.objs.size<=s'.heap.objs.size/\E x d H'
section
variable{X:Cx}{pins:List (Addr×Obj)}{σ:St}{H:Hp}{s s':Shared}{E E':XK}
theorem Inv.pinlt(I:Inv X pins σ H s):∀p∈X.pn++pins,p.1<s.heap.objs.size:=fun p hp=>Heap.lt_size (I.pin p hp).1
def XP(X:Cx)(pins:List (Addr×Obj))(σ:St)(E:XK)(x:Value)(s':Shared):Prop:=∃n e C d H',x=.ref e/\Inv X pins σ H' s'/\Fly n e C d H' s'.heap/\X.s₀.heap.objs.size<=n/\n<=s'.heap.objs.size/\(∀p∈X.pn++pins,p.1<n)/\E x d H'
theorem Inv.flown{x:Value}(I:Inv X pins σ H s)(h:CXe X.prog X.w X.stack H s E x s'):XP X pins σ E x s':=by
 obtain⟨e,C,d,H',rfl,ho,hb,u,hk,f,hz,q⟩:=h;exact⟨_,e,C,d,H',rfl,I.call' ho u hk hb (fun b z=>absurd z (by simp)),f,I.sz,hz,I.pinlt,q⟩
end
section
variable{P:Program}{w:World}{K:qA1}{mg:Str->Option Value}{base:Heap}{N:List Str}{qual:Str}{scope:Scope}{f:Addr}{cd:Value}{A:Around}{outer:List Env}{s:Shared}{H:Hp}{E E':XK}
theorem zZ3{pins:List (Addr×Obj)}{σ:St}{x:Value}{s':Shared}(hE:∀C d H',E' C d H'->E C d H')
  (h:XP (cxOf (CXe P w) P w K mg base N qual scope f cd A outer s H E) pins σ E' x s'):(cxOf (CXe P w) P w K mg base N qual scope f cd A outer s H E).xe x s':=by
 obtain⟨n,e,C,d,H',rfl,I,fl,hn,hz,hp,q⟩:=h;refine zR2 I I.ok.frames ⟨rfl,rfl⟩ fl hn hz hp fun s2 I2 f2=>?_
 exact⟨e,C,d,H',rfl,I2.os,I2.bare,I2.base,I2.hok,f2.mono hn,I2.sz,hE _ _ _ q⟩
end
end L2
namespace L2
open PySem PySem.Spec PyProof.Rows
abbrev TEX:=St->Hp->VK->XK->Prop
abbrev TSX:=Ends->(St->XK)->St->Hp->Prop
section
variable{X:Cx}{k:Nat}{f:Addr}{fd:FuncData}{ps:List Str}{sp:Sp}{dvs:List V}{ds:List Value}{x:Str}{p pos:Pos}{e:Expr}{es:List Expr}{t:TA}{te:TE}{tx:TEX}{st:Stmt}{rest:List Stmt}{u u':TSX}
variable{pins:List (Addr×Obj)}{σ:St}{H:Hp}{s:Shared}{a:Addr}
end
end L2
namespace PySem.W
open PySem PySem.Calls PyProof.Rows Builtin Builtin.ObjectAttr
noncomputable def excTail:List Value->Bool
 |.ref _::r=>excTail r
 |[.type a,.type b,.type c,.type d]=>a == "ValueError" && b == "Exception" && c == "BaseException" && d == "object"
 |_=>false
theorem zM2{a b c d:String}(e:excTail [.type a,.type b,.type c,.type d]=true):a = "ValueError"/\b = "Exception"/\c = "BaseException"/\d = "object":=by
 simp only[excTail,qBc,beq_iff_eq]at e;exact⟨e.1.1.1,e.1.1.2,e.1.2,e.2⟩
theorem zBX:∀{l:List Value},excTail l=true->∃as:List Addr,l=as.map Value.ref++[.type "ValueError",.type "Exception",.type "BaseException",.type "object"]
 |.ref a::r,e=>by
  obtain⟨as,rfl⟩:=zBX (l:=r) e;exact⟨a::as,rfl⟩
 |[.type a,.type b,.type c,.type d],e=>by
  obtain⟨rfl,rfl,rfl,rfl⟩:=zM2 e;exact⟨[],rfl⟩
theorem zOL(self:Value){l:List Value}(e:excTail l=true):refuseLoop self "__setattr__" l=pure ():=by
 obtain⟨as,rfl⟩:=zBX e
 induction as with
 |nil=>exact PySem.F.store_ValueError.passes self
 |cons a r ih=>
  rw[qAi,qEt,refuseLoop_ref];exact ih (by simpa[excTail]using e)
theorem zYB{l:List Value}(e:excTail l=true):l.contains (.type "object")=true:=by
 obtain⟨as,rfl⟩:=zBX e;rw[List.contains_iff_exists_mem_beq];exact⟨.type "object",by simp,by simp⟩
def excOver(K:Frag)(C:Addr):Bool:=(clsIn K C).any fun cd=>excTail cd.mro
section
variable{prog:Program}{w:World}{A:Around}{s:Shared}{K:Frag}{x C:Addr}{R:Result->Shared->Prop}
theorem zQI{ox:Obj}{od:Option Obj}{name:Str}{tk:Tok}{v:Value}{r:Option Value}(X:K.In s.heap)(I:InstAt s.heap x ox C od)(hp:excOver K C=true)(ht:takerIn K C name=some r)
  (h:∀b,wpAny (model prog w) A.in1 (match r with|some a=>setByDescriptor a (.ref x) v|none=>storeInOwnDict (.ref x) (.ref C) (.str name tk) name v b)
   (fun fin s'=>match fin with | .done f=>R (.ok f) s' | .again c'=>c'.quiet=true/\codeAny (model prog w) A c' R s') (fun e s'=>R (.error e) s') s) :
  codeAny (model prog w) A (.call (.builtin "object.__setattr__") ⟨[.ref x,.str name tk,v],[]⟩) R s:=by
 have SF:=PySem.F.store_object;obtain⟨cd,hc,ho⟩:=any_some hp;have ne:cd.mro.isEmpty=false:=by cases q:cd.mro with|nil=>rw[q]at ho;cases ho|cons _ _=>rfl
 have sub:Looks (model prog w) s.heap (isInstance (.ref x) (.type "object")) true:=I.type.andThen (looks_mroIn X (by unfold mroIn;rw[hc,Option.bind_some,if_neg (by rw[ne];decide),zYB ho]));refine codeAny_call_builtin SF.slot.plain SF.entry (@check_slot (model prog w) _ _ s "object.__setattr__" "object" "__setattr__" (.ref x) [.str name tk,v] [] _ SF.kind SF.split sub (SF.args (.ref x) (.str name tk) v) ?_);obtain⟨attr,ha,hr⟩:=Option.bind_eq_some_iff.mp ht;have hm:Looks (model prog w) s.heap (mroOf (.ref C)) cd.mro:=(looks_clsIn X hc).andThen .now;have L3:Looks (model prog w) s.heap (storeTaker? attr) r:=by
  cases attr with
  |none=>cases hr;exact .now
  |some a=>
   obtain⟨b,hb,rfl⟩:=qDd.mp hr;refine(looks_takesIn X hb).andThen ?_;cases b<;>exact .now
 rw[osa_eq,refuse_eq];refine wpAny_bind (wpAny_bind (I.type.here (wpAny_bind (hm.here ?_))));rw[zOL _ ho];refine wpAny_pure (wpAny_bind (I.type.here (wpAny_bind ((looks_findIn X ha).here (wpAny_bind (L3.here ?_))))));exact h _
theorem set_exc{E:Value->Shared->Prop}{name:Str}{v:Value}{Q:Unit->Shared->Prop}{vs:Array Value}{sl:Array (Option Value)}(X:K.In s.heap)(hx:s.heap.get? x=some ⟨.ref C,none,.fields vs,sl⟩)
  (hs:findIn K (.ref C) "__setattr__" = some (some (.builtin "object.__setattr__"))) (hp:excOver K C=true) (ht:takerIn K C name=some none) (hh:(clsIn K C).any (·.hasDict)=true)
  (h:∀h' tk',h'.Ns1 s.heap.objs.size (fun y=>if y=name then some v else none)->h'.get? x=some ⟨.ref C,some s.heap.objs.size,.fields vs,sl⟩->(∀b o,b≠x->s.heap.get? b=some o->h'.get? b=some o)->Q () { s with heap:=h',toks:=tk' }) :
  wpAny (model prog w) A (setAttr (.ref x) name v) Q E s:=by
 have I:InstAt s.heap x ⟨.ref C,none,.fields vs,sl⟩ C none:=⟨hx,rfl,rfl,trivial⟩
 refine set_plain X I hs (zQI (s:={ s with toks:=s.toks+1 }) (r:=none) X I hp ht fun b=>?_);obtain⟨cd,hc,hd'⟩:=any_some hh;obtain⟨h0,g,d,t,os⟩:=s;dsimp only at hx X I h ⊢;refine wpAny_bind (wpAny_pure (wpAny_bind (wpAny_bind (wpAny_loadPart hx (wpAny_bind (Looks.here (s:=⟨h0,g,d,t+1,os⟩) (looks_clsIn X hc) ?_))))));rw[hd'];have hx₁:(h0.push { cls:=.type "dict",data:=.dict #[] }).get? x=some ⟨.ref C,none,.fields vs,sl⟩:=Heap.get?_push_of_some _ hx;have hxs:x≠h0.objs.size:=qAn (Heap.lt_size hx);refine wpAny_bind (wpAny_alloc' ?_);refine wpAny_bind (wpAny_update' hx₁ ?_);refine wpAny_pure ?_;have hx₂:((h0.push { cls:=.type "dict",data:=.dict #[] }).update x fun o=>{ cls:=o.cls,dict:=some h0.objs.size,data:=o.data,slots:=o.slots }).get? x=some ⟨.ref C,some h0.objs.size,.fields vs,sl⟩:=Heap.get?_update_self _ hx₁ rfl;have hgd:((h0.push { cls:=.type "dict",data:=.dict #[] }).update x fun o=>{ cls:=o.cls,dict:=some h0.objs.size,data:=o.data,slots:=o.slots }).get? h0.objs.size
   = some { cls:=.type "dict",data:=.dict #[] }:=(Heap.get?_update_ne _ _ _ _ hxs.symm).trans (Heap.get?_push_at rfl rfl)
 have hnd:((h0.push { cls:=.type "dict",data:=.dict #[] }).update x fun o=>{ cls:=o.cls,dict:=some h0.objs.size,data:=o.data,slots:=o.slots }).Ns h0.objs.size (fun _=>none):=
  ⟨_,#[],_,hgd,rfl,fun e he=>absurd he (by simp),fun _=>rfl⟩
 show wpAny _ _ (storeInDict h0.objs.size (.str name t) name v) _ _ _;unfold storeInDict newKeyGuard;refine wpAny_bind (wpAny_pure (wpAny_bind (wpAny_nsSet1 (Heap.Ns1.of_empty hnd) fun h' hn' hs'=>?_)));obtain⟨oD,esD,epD,hoD,hdD,hcD⟩:=hn'.count (Within.cons name v Within.nil);refine wpAny_bind (wpAny_lookBehind hoD (by rw[hdD];exact pastItsLine_dict (qAp hcD (by rw[qAu,qEz,sizeLine_eq];omega))) ?_);exact wpAny_pure (h h' _ hn' ((hs'.2 x hxs).trans hx₂) fun b ob hbx hb=>(hs'.2 b (qAn (Heap.lt_size hb))).trans ((Heap.get?_update_ne _ _ _ _ hbx).trans (Heap.get?_push_of_some _ hb)))
end
end PySem.W
namespace PySem.Xc
open PySem
section
variable{M:Model}{prog:Program}{w:World}{A:Around}{E:Value->Shared->Prop}{h:Heap}{g:Array GenState}{d:Drawn}{t:Nat}{os:OsState}{R:Result->Shared->Prop}
variable{nm q:Str}{C N:Addr}{bs bm bmB:List Value}{hdct:Bool}{sn:List Str}{sub:List Value}{ab:Bool}{col:Option Bool}{dd:Option Addr}{k0 k1 k2 k3 k5:Option Value}{B newId initId:String}
theorem zP8(F:ExcBaseFacts B newId initId bmB)(hB:bm.contains (.type B)=true){rest:List Value}{Q:Unit->Shared->Prop}(hC:h.get? C=some (excClassObj nm q C N bs bm hdct sn sub ab col dd k0 k1 k2 k3 k5 newId))
  (hq:Q () ⟨h,g,d,t,os⟩):wpAny M A (checkBuiltinCall newId ⟨.ref C::rest,[]⟩) Q E ⟨h,g,d,t,os⟩:=by
 have hcont:(Value.ref C::bm).contains (.type B)=true:=by rw[qBt,hB,qF3]
 have hstar:=F.noStar;simp only[checkBuiltinCall,F.newKind,F.newSplit,F.newRow]
 repeat (first|refine wpAny_loadPart_at hC ?_|(refine wpAny_isSubtype_exc hC ?_;rw[hcont])|refine wpAny_staticBase_exc hC ?_|refine wpAny_madeBy_exc hC ?_|simp only[bne_self_eq_false,qFu,if_false]|wp_step)
 exact hq
theorem zS7(F:ExcBaseFacts B newId initId bmB)(hB:bm.contains (.type B)=true)(hA:bm.contains (.type "AttributeError")=false)(hN:bm.contains (.type "NameError")=false){rest:List Value}(hC:h.get? C=some (excClassObj nm q C N bs bm hdct sn sub ab col dd k0 k1 k2 k3 k5 newId))
  (hq:R (.ok (.ret (.ref (h.objs.size+1)))) ⟨(h.push { cls:=.type "tuple",data:=.seq rest.toArray }).push
   { cls:=.ref C,data:=.fields #[.ref h.objs.size,.none,.none,.none,.bool false,.none] },g,d,t,os⟩) (hrest:rest.length<=sizeLine) :
  codeAny (model prog w) A (.builtin newId ⟨.ref C::rest,[]⟩) R ⟨h,g,d,t,os⟩:=by
 have hends:=F.ends;have hcB:(Value.ref C::bm).contains (.type B)=true:=by rw[qBt,hB,qF3]
 have hcA:(Value.ref C::bm).contains (.type "AttributeError")=false:=by rw[qBt,hA];rfl
 have hcN:(Value.ref C::bm).contains (.type "NameError")=false:=by rw[qBt,hN];rfl
 refine codeAny_builtinAt F.entry ?_;unfold Builtin.«BaseException.__new__»;refine wpAt_bind ?_;show wpAt _ _ _ (stack >>= _) _ _ _;refine wpAt_bind (wpAt_stack fun p below=>wpAt_of_wpAny ?_)
 wp_walk
 refine wpAt_of_wpAny ?_;rw[F.owner]
 repeat (first|with_reducible refine wpAny_madeHere_exc F.canon hC ?_|with_reducible refine wpAny_loadPart_at hC ?_|(with_reducible refine wpAny_isSubtype_exc hC ?_;first|rw[hcB]|rw[hcA]|rw[hcN])|wp_step)
 show R _ _;rw[Heap.size_push];exact hq
theorem zMD(F:ExcBaseFacts B newId initId bmB)(hB:bm.contains (.type B)=true){e:Addr}{oe:Obj}{rest:List Value}{Q:Unit->Shared->Prop}{newId':String}
  (hC:h.get? C=some (excClassObj nm q C N bs bm hdct sn sub ab col dd k0 k1 k2 k3 k5 newId')) (he:h.get? e=some oe) (hcls:oe.cls=.ref C) (hq:Q () ⟨h,g,d,t,os⟩) :
  wpAny M A (checkBuiltinCall initId ⟨.ref e::rest,[]⟩) Q E ⟨h,g,d,t,os⟩:=by
 have hcB:(Value.ref C::bm).contains (.type B)=true:=by rw[qBt,hB,qF3]
 have hshort:=F.noStar;simp only[checkBuiltinCall,F.initKind,F.initSplit,F.initRow]
 repeat (first|(with_reducible refine wpAny_loadPart_at he ?_;rw[hcls])|with_reducible refine wpAny_loadPart_at hC ?_|(with_reducible refine wpAny_isSubtype_exc hC ?_;rw[hcB])|wp_step)
 refine wpAny_onRaise ?_;rw[show ∀(a b:String)(n:Nat),Bind.check ⟨.positional,"*",B,.self,[⟨"args",.varPos,false⟩]⟩ a b n (List.map (fun x=>x.fst) ({ pos:=Value.ref e::rest }:Args).kw)=pure () from
  fun a b n=>check_star_args _ _ _ _ _ _]
 exact wpAny_pure hq
theorem zFO(F:ExcBaseFacts B newId initId bmB)(hB:bm.contains (.type B)=true)(hA:bm.contains (.type "AttributeError")=false)(hN:bm.contains (.type "NameError")=false){rest:List Value}{fI:Addr}{oI:Obj}{Q:Fin->Shared->Prop}
  (hC:h.get? C=some (excClassObj nm q C N bs bm hdct sn sub ab col dd k0 k1 k2 k3 k5 newId)) (hi:qHo (model prog w) h (typeLookup (.ref C) "__init__") (some (.ref fI)))
  (hfI:h.get? fI=some oI) (hfc:oI.cls=.type "function")
  (hq:∀h' e,Heap.MadeExcOf h h' e (.ref C) rest->h.objs.size<=e ->
   wpAny (model prog w) A (call (.ref fI) (.ref e::rest)) (fun r s'=>r=.none/\Q (.done (.ret (.ref e))) s') E ⟨h',g,d,t,os⟩) (hrest:rest.length<=sizeLine) :
  wpAny (model prog w) A (Builtin.«type.__call__» ⟨.ref C::rest,[]⟩) Q E ⟨h,g,d,t,os⟩:=by
 repeat (first|with_reducible refine wpAny_loadPart_at hC ?_|with_reducible refine wpAny_madeBy_exc hC ?_|wp_step)
 refine codeAny_call_builtin_code (Code.quiet_builtin _ F.quiet) (zP8 F hB hC ?_);refine zS7 F hB hA hN hC ?_ hrest;show wpAny _ _ _ _ _ _;have hC₁:=Heap.get?_push_of_some { cls:=.ref C,data:=.fields #[.ref h.objs.size,.none,.none,.none,.bool false,.none] }
  (Heap.get?_push_of_some { cls:=.type "tuple",data:=.seq rest.toArray } hC)
 have hfI₁:=Heap.get?_push_of_some { cls:=.ref C,data:=.fields #[.ref h.objs.size,.none,.none,.none,.bool false,.none] }
  (Heap.get?_push_of_some { cls:=.type "tuple",data:=.seq rest.toArray } hfI)
 have hi₁:=hi.keeps (h':=(h.push { cls:=.type "tuple",data:=.seq rest.toArray }).push { cls:=.ref C,data:=.fields #[.ref h.objs.size,.none,.none,.none,.bool false,.none] }) fun b o e=>Heap.get?_push_of_some _ (Heap.get?_push_of_some _ e)
 have hget:((h.push { cls:=.type "tuple",data:=.seq rest.toArray }).push
   { cls:=.ref C,data:=.fields #[.ref h.objs.size,.none,.none,.none,.bool false,.none] }).get? (h.objs.size+1)=some
   { cls:=.ref C,data:=.fields #[.ref h.objs.size,.none,.none,.none,.bool false,.none] }:=by heap_get
 have hcC:(Value.ref C::bm).contains (.ref C)=true:=by simp
 unfold isInstance
 repeat (first|with_reducible refine wpAny_loadPart_at hget ?_|(with_reducible refine wpAny_isSubtype_exc hC₁ ?_;rw[hcC])|wp_step)
 show wpAny _ _ (typeLookup (.ref C) _) _ _ _;refine hi₁.here ?_;refine wpAny_holding (wpAny_bind ?_);unfold bindSpecial;refine wpAny_bind (wpAny_typeOf (T:="function") ⟨_,hfI₁,hfc⟩ ?_);rw[if_pos (by decide)];refine wpAny_pure (wpAny_bind (wpAny_mono (hq _ (h.objs.size+1) ⟨fun b o hb=>Heap.get?_push_of_some _ (Heap.get?_push_of_some _ hb),Heap.get?_none_of_le (qC6 _),h.objs.size,hget,Heap.get?_none_of_le (qA7 _),?_⟩ (qC6 _)) (fun r s' hr=>?_) fun _ _ x=>x))
 ·exact Heap.get?_push_of_some _ (Heap.get?_push_at rfl rfl)
 ·obtain⟨rfl,hQ⟩:=hr
  wp_walk
  exact hQ
theorem call_initX(F:ExcBaseFacts B newId initId bmB)(hB:bm.contains (.type B)=true)(hA:bm.contains (.type "AttributeError")=false)(hN:bm.contains (.type "NameError")=false){rest:List Value}{fI:Addr}{oI:Obj}{Q:Value->Shared->Prop}
  (hC:h.get? C=some (excClassObj nm q C N bs bm hdct sn sub ab col dd k0 k1 k2 k3 k5 newId)) (hi:qHo (model prog w) h (typeLookup (.ref C) "__init__") (some (.ref fI)))
  (hfI:h.get? fI=some oI) (hfc:oI.cls=.type "function")
  (hq:∀h' e,Heap.MadeExcOf h h' e (.ref C) rest->h.objs.size<=e ->
   wpAny (model prog w) (A.under (.builtin "type.__call__" ⟨.ref C::rest,[]⟩)) (call (.ref fI) (.ref e::rest)) (fun r s'=>r=.none/\Q (.ref e) s') E ⟨h',g,d,t,os⟩) (hrest:rest.length<=sizeLine) :
  wpAny (model prog w) A (call (.ref C) rest) Q E ⟨h,g,d,t,os⟩:=by
 have f1:=tc_lookup;have f2:=tc_bind (.ref C);have hT:(⟨h,g,d,t,os⟩:Shared).TypeIs (.ref C) "type":=⟨_,hC,rfl⟩
 refine wpAny_call (codeAny_of_tree ?_);show wpAny _ _ (callAny (.ref C) _) _ _ _
 repeat (any_goals (first|assumption|with_reducible refine wpAny_loadPart_at hC ?_|wp_step))
 refine⟨rfl,?_⟩;refine codeAny_call_builtin_at (Code.quiet_builtin _ (by decide +kernel)) entry_typeCall (wpAny_check_type_call_sub hC (zFO (hrest:=hrest) F hB hA hN hC hi hfI hfc fun h' e hm hz=>?_));exact hq h' e hm hz
theorem call_baseX(F:ExcBaseFacts B newId initId bmB)(hB:bm.contains (.type B)=true){e t1:Addr}{di:Option Addr}{rest:List Value}{Q:Value->Shared->Prop}{newId':String}
  (hC:h.get? C=some (excClassObj nm q C N bs bm hdct sn sub ab col dd k0 k1 k2 k3 k5 newId')) (he:h.get? e=some { cls:=.ref C,dict:=di,data:=.fields #[.ref t1,.none,.none,.none,.bool false,.none] })
  (hq:∀h' t0,(∀b o,b≠e->h.get? b=some o->h'.get? b=some o)->h'.get? e=some { cls:=.ref C,dict:=di,data:=.fields #[.ref t0,.none,.none,.none,.bool false,.none] }->Q .none ⟨h',g,d,t,os⟩) (hrest:rest.length<=sizeLine) :
  wpAny (model prog w) A (call (.builtin initId) (.ref e::rest)) Q E ⟨h,g,d,t,os⟩:=by
 refine wpAny_call (codeAny_call_builtin F.init.plain F.initEntry (zMD F hB hC he rfl ?_))
 wp_walk
 refine hq _ h.objs.size (fun b o hbe hb=>?_) ?_
 ·rw[Heap.get?_update_other _ _ (qCf hbe)];exact Heap.get?_push_of_some _ hb
 ·rw[Heap.get?_update_self _ (Heap.get?_push_of_some _ he) rfl];rfl
end
end PySem.Xc
namespace PySem.W
open PySem
def xcIn(K:Frag)(C:Addr):Bool:=match K.lookup C with
 |some ⟨.type "type",_,.cls cd,sl⟩=>(match cd.mro,sl.toList with
  |.ref C'::bm,[_,_,_,_,some (.builtin n),_]=>C'==C && !cd.hasDel&&excTail bm&&n == "ValueError.__new__" && cd.hasDict
  |_,_=>false)
 |_=>false
theorem xc_cls{K:Frag}{h:Heap}{C:Addr}(X:K.In h)(q:xcIn K C=true):∃nm qn N bs bm hdct sn sub ab col dd k0 k1 k2 k3 k5,
  h.get? C=some (excClassObj nm qn C N bs bm hdct sn sub ab col dd k0 k1 k2 k3 k5 "ValueError.__new__")/\excTail bm=true:=by
 unfold xcIn at q
 split at q
 ·rename_i dd cd sl ho
  split at q
  ·rename_i C' bm k0 k1 k2 k3 n k5 hm hs
   simp only[qBc,beq_iff_eq,Bool.not_eq_true']at q;obtain⟨⟨⟨⟨rfl,hdel⟩,hb⟩,hn⟩,hd⟩:=q;subst hn;obtain⟨nm,bs,mro,ns,qn,hd',sn,sub,ab,col,del⟩:=cd;dsimp only at hm hdel;subst hm hdel;have hsl:sl=#[k0,k1,k2,k3,some (.builtin "ValueError.__new__"),k5]:=by
    obtain⟨l⟩:=sl;simp only at hs;rw[hs]
   subst hsl;exact⟨nm,qn,ns,bs,bm,hd',sn,sub,ab,col,dd,k0,k1,k2,k3,k5,X _ _ ho,hb⟩
  ·cases q
 ·cases q
theorem exc_con{l:List Value}{T:String}{b:Bool}(e:excTail l=true)(hb:List.contains [Value.type "ValueError",.type "Exception",.type "BaseException",.type "object"] (.type T)=b):l.contains (.type T)=b:=by
 obtain⟨as,rfl⟩:=zBX e;clear e
 induction as with
 |nil=>exact hb
 |cons a r ih=>rw[qAi,qEt,qBt,ih];rfl
end PySem.W
namespace PySem.Xc
open PySem
section
variable{M:Model}{A:Around}{E:Value->Shared->Prop}{s:Shared}{env:Env}
variable{nm q:Str}{C N:Addr}{bs bm:List Value}{hdct:Bool}{sn:List Str}{sub:List Value}{ab:Bool}{col:Option Bool}{dd:Option Addr}{k0 k1 k2 k3 k5:Option Value}{newId:String}
theorem raiseX{x:Sem Value}{Q:Flow->Shared->Prop}(hh:A.handled=none)
  (h:wpAny M A x (fun v s₁=>∃e t di nm q C N bs bm hdct sn sub ab col dd k0 k1 k2 k3 k5 newId,v=.ref e/\s₁.heap.get? C=some (excClassObj nm q C N bs bm hdct sn sub ab col dd k0 k1 k2 k3 k5 newId)/\bm.contains (.type "BaseException")=true /\
   s₁.heap.get? e=some { cls:=.ref C,dict:=di,data:=.fields #[.ref t,.none,.none,.none,.bool false,.none] }/\E (.ref e) s₁) E s) :
  wpAny M A (raiseStmt env (some x) none) Q E s:=by
 unfold raiseStmt;refine wpAny_bind (wpAny_mono h (fun v s₁ h₁=>?_) fun _ _ x=>x);obtain⟨e,t,di,nm,q,C,N,bs,bm,hdct,sn,sub,ab,col,dd,k0,k1,k2,k3,k5,newId,rfl,hC,hbase,he,hE⟩:=h₁;have hcB:(Value.ref C::bm).contains (.type "BaseException")=true:=by rw[qBt,hbase,qF3]
 obtain⟨hp,g,d,tk,os⟩:=s₁
 repeat (first|with_reducible refine wpAny_loadPart_at he ?_|with_reducible refine wpAny_loadPart_at hC ?_|(with_reducible refine wpAny_isSubtype_exc hC ?_;rw[hcB])|wp_step)
 exact wpAny_raiseNew_none hh hE
theorem RaiseX{x:Expr}{pos:Pos}{Q:Flow->Shared->Prop}(hh:A.handled=none)
  (h:wpAny M A (eval x env) (fun v s₁=>∃e t di nm q C N bs bm hdct sn sub ab col dd k0 k1 k2 k3 k5 newId,v=.ref e/\s₁.heap.get? C=some (excClassObj nm q C N bs bm hdct sn sub ab col dd k0 k1 k2 k3 k5 newId)/\bm.contains (.type "BaseException")=true /\
   s₁.heap.get? e=some { cls:=.ref C,dict:=di,data:=.fields #[.ref t,.none,.none,.none,.bool false,.none] }/\E (.ref e) s₁) E s) :
  wpAny M A (exec (.Raise (some x) none pos) env) Q E s:=by
 rw[arm_exec_Raise]
 first
  |exact wpAny_bind (wpAny_standAt (raiseX hh (wpAny_bind (wpAny_mono h (fun v s₁ h₁=>wpAny_bind (wpAny_standAt (wpAny_pure h₁))) fun _ _ x=>x))))
  |(simp only[evalOpt,Option.map];exact wpAny_bind (wpAny_standAt (raiseX hh (wpAny_bind (wpAny_mono h (fun v s₁ h₁=>wpAny_bind (wpAny_standAt (wpAny_pure h₁))) fun _ _ x=>x)))))
  |(show wpAny M A (do standAt pos;raiseStmt env (some (do let v <- eval x env;standAt pos;pure v)) none) Q E s;exact wpAny_bind (wpAny_standAt (raiseX hh (wpAny_bind (wpAny_mono h (fun v s₁ h₁=>wpAny_bind (wpAny_standAt (wpAny_pure h₁))) fun _ _ x=>x)))))
end
section
open PySem.W
variable{prog:Program}{w:World}{A:Around}{E:Value->Shared->Prop}{K:Frag}{x C:Addr}{ox:Obj}{od:Option Obj}{name:Str}{expr fill:Bool}{h:Heap}{g:Array GenState}{d:Drawn}{t:Nat}{os:OsState}
end
end PySem.Xc
namespace L2
open PySem PySem.Spec PyProof.Rows
def XN(e:Addr)(C:Value)(d:Option Addr)(h:Heap):Prop:=∃t1,h.get? e=some { cls:=C,dict:=d,data:=.fields #[.ref t1,.none,.none,.none,.bool false,.none] }
abbrev xn(e:Addr)(C:Value)(d:Option Addr):HO:=.ext (XN e C d)
theorem zWK{e:Addr}{C:Value}{d:Option Addr}(h1 h2:Heap)(x:XN e C d h1)(k:∀o,h1.get? e=some o->h2.get? e=some o):XN e C d h2:=let⟨t1,a⟩:=x;⟨t1,k _ a⟩
theorem zWJ{e:Addr}{C:Value}{d:Option Addr}(h1 h2:Heap)(x:XO e C d h1)(k:∀o,h1.get? e=some o->h2.get? e=some o):XO e C d h2:=let⟨oe,vs,a,r⟩:=x;⟨oe,vs,k _ a,r⟩
theorem zXH{P:Program}{w:World}{H:Hp}{h:Heap}{e:Addr}{C:Value}{d:Option Addr}(x:XN e C d h):ObjOk P w H h e (xn e C d):=⟨x,let⟨t1,a⟩:=x;⟨_,a⟩,zWK⟩
theorem zcO{P:Program}{w:World}{H:Hp}{h:Heap}{e:Addr}{C:Value}{d:Option Addr}(x:XO e C d h):ObjOk P w H h e (xo e C d):=⟨x,let⟨oe,vs,a,_⟩:=x;⟨_,a⟩,zWJ⟩
section
variable{X:Cx}{pins:List (Addr×Obj)}{σ:St}{H:Hp}{s:Shared}{k:Nat}{f C:Addr}{fd:FuncData}{ps:List Str}{sp:Sp}{x:Str}{p pos:Pos}{e:Expr}{es:List Expr}{t:TA}{te:TE}
def zMR(C:Addr)(sp:Sp)(E:XK)(t:TA):TE:=fun σ H Q=>t σ H fun vs H1=>vs.length<=sizeLine/\∀e,H1 e=none->sp (.ref e::vs) (upd H1 e (xn e (.ref C) none)) (fun v H2=>v=.non/\Q (.ref e) H2) E
theorem Inv.madeX{h':Heap}{e:Addr}{us:List Value}(I:Inv X pins σ H s)(m:Heap.MadeExcOf s.heap h' e (.ref C) us)(hs:s.heap.objs.size<=e):H e=none/\Inv X pins σ (upd H e (xn e (.ref C) none)) { s with heap:=h' }:=by
 obtain⟨t1,h1,_⟩:=m.there;exact⟨I.hok.fresh hs,I.laid (t':=s.toks) m.keeps hs (zXH ⟨t1,h1⟩)⟩
theorem zQ2{Q:VK}{E:XK}{us:List Value}{vs:List V}(hc:PySem.W.xcIn X.K C=true)(hi:qAo X.K (.ref C) "__init__" = some (some (.ref f)))(hf:qDl X.K (.ref f)=true)(F:FnOk X.prog X.w X.K X.mg X.base (CXe X.prog X.w) k f fd ps sp)
  (hr:Room (k+1) X.A) (hb:Binds X.K fd ps []) (hx:zHH (CXe X.prog X.w) X E) (I:Inv X pins σ H s) (r:Vals vs us) (hz:vs.length<=sizeLine)
  (h:∀e,H e=none->sp (.ref e::vs) (upd H e (xn e (.ref C) none)) (fun v H2=>v=.non/\Q (.ref e) H2) E) :
  wpAny (model X.prog X.w) X.A (call (.ref C) us) (EP X pins σ Q) X.xe s:=by
 obtain⟨nm,qn,N,bs,bm,hdct,sn,sub,ab,col,dd,k0,k1,k2,k3,k5,hC,ht⟩:=PySem.W.xc_cls I.kIn hc;obtain⟨oI,hfI,hfc⟩:∃oI,s.heap.get? f=some oI/\oI.cls=.type "function":=by
  have hf':=beq_iff_eq.mp hf;obtain⟨o,ho,h2⟩:=qDd.mp (show(X.K.lookup f).map (·.cls)=some (.type "function") from hf');exact⟨o,I.kIn _ _ ho,h2⟩
 have hC':s.heap.get? C=some (excClassObj nm qn C N bs bm hdct sn sub ab col dd k0 k1 k2 k3 k5 "ValueError.__new__"):=hC;have hus:us.length<=sizeLine:=by rw[<- r.length];exact hz
 have key:∀h' e,Heap.MadeExcOf s.heap h' e (.ref C) us->s.heap.objs.size<=e->wpAny (model X.prog X.w) (X.A.under (.builtin "type.__call__" ⟨.ref C::us,[]⟩)) (call (.ref f) (.ref e::us)) (fun r s'=>r=.none/\EP X pins σ Q (.ref e) s') X.xe { s with heap:=h' }:=by
  intro h' e m hs;obtain⟨he,I2⟩:=I.madeX m hs;have hq:=h e he;have r2:Vals (V.ref e::vs) (Value.ref e::us):=.cons rfl r;have hl:(Value.ref e::us++[]).length=ps.length:=by
   rw[qCm,<- r2.length];exact F.len _ _ _ _ hq
  have hbb:=hb _ (Value.ref e::us) I2.kIn hl;rw[qCm]at hbb;refine wpAny_call (codeAny_mono (F.run _ X.stack _ _ ⟨Value.ref e::us,[]⟩ (Value.ref e::us) _ _ E (hr.make C us []) (I2.env0.make C us []) hbb r2 hq) fun r s' hq'=>?_);cases r with
  |error x=>exact hx pins σ _ _ x s' I2 hq'
  |ok fl=>
   cases fl with
   |ret u=>
    obtain⟨v,H',I3,rv,ev,q3⟩:=I2.after hq';subst ev;exact⟨rv,⟨V.ref e,H',I3,rfl,q3⟩⟩
   |next=>exact qA3 hq'
   |brk=>exact qA3 hq'
   |cont=>exact qA3 hq'
 have hK:=PySem.W.looks_findIn (M:=model X.prog X.w) I.kIn hi;obtain⟨hh,g,d,tk,os⟩:=s;exact Xc.call_initX qE0 (PySem.W.exc_con ht (by decide)) (PySem.W.exc_con ht (by decide)) (PySem.W.exc_con ht (by decide)) hC' hK hfI hfc key hus
theorem zTE{E:XK}(hc:PySem.W.xcIn X.K C=true)(hi:qAo X.K (.ref C) "__init__" = some (some (.ref f)))(hf:qDl X.K (.ref f)=true)(F:FnOk X.prog X.w X.K X.mg X.base (CXe X.prog X.w) k f fd ps sp)
  (hr:Room (k+1) X.A) (hb:Binds X.K fd ps []) (hx:zHH (CXe X.prog X.w) X E) (hg:Gl X x) (hm:X.mg x=some (.ref C)) (hk:qB5 X.K (.ref C)=true)
  (ha:PA X (e::es) t) (hdb:(x==("__debug__":Str))=false:=by decide) (he:starEach (e::es) X.env=(false,eval e X.env)::starEach es X.env:=by rfl) (hpl:(backTo pos (starEach es X.env)).any (·.1)=false:=by rfl) :
  PE X (.Call (.Name x p) (e::es) [] pos) (zMR C sp E t):=by
 intro pins s σ H Q I h;refine wpAny_Call_Name_kw (zLU I hg hm ?_ hdb);refine qFs (h₀:=X.base) I.ok.mod.kin hk (thn (ha pos pins s σ H _ I h) fun us s1 ⟨vs,H1,I1,r,z,q⟩=>⟨I1.kIn,?_⟩) he hpl;exact zQ2 hc hi hf F hr hb hx I1 r z q
theorem zSM{e:Addr}{o:HO}(h:H e=some o):upd H e o=H:=by
 funext b
 unfold upd
 split
 ·rename_i z;rw[z];exact h.symm
 ·rfl
theorem Inv.xn{e:Addr}{d:Option Addr}{Cv:Value}(I:Inv X pins σ H s)(h:H e=some (xn e Cv d)):XN e Cv d s.heap:=(I.hok e _ h).1
theorem XN.xo{h:Heap}{e:Addr}{d:Option Addr}{Cv:Value}(x:XN e Cv d h):XO e Cv d h:=let⟨t1,a⟩:=x;⟨_,_,a,rfl,rfl,rfl,by simp⟩
theorem Inv.raised{e:Addr}{d:Option Addr}(I:Inv X pins σ H s)(h:H e=some (L2.xn e (.ref C) d))(E:XK)(q:E (.ref e) d (upd H e (xo e (.ref C) d))):XP X pins σ E (.ref e) s:=by
 have x:=I.xn h;obtain⟨t1,a⟩:=id x;have I':Inv X pins σ (upd H e (xo e (.ref C) d)) s:=I.write (t':=s.toks) (h':=s.heap) (e:=e) (by rw[h];trivial) (.inl rfl) (fun _ _ _ q=>q) ⟨_,a⟩ (zcO x.xo);exact⟨s.heap.objs.size,e,.ref C,d,_,rfl,I',⟨zAD,.inl ⟨_,_,a,rfl,rfl,rfl,rfl⟩⟩,I.sz,qA7 _,I.pinlt,q⟩
def Flies(X:Cx)(E:XK):Prop:=∀(pins:List (Addr×Obj))(σ:St)(x:Value)(s':Shared),XP X pins σ E x s'->X.xe x s'
theorem Flies.passes{E:XK}(h:Flies X E):zHH (CXe X.prog X.w) X E:=fun pins σ H s x s' I q=>h pins σ x s' (I.flown q)
def zPS(K:qA1)(E:XK)(te:TE):TS:=fun _ σ H=>te σ H fun v H1=>∃e C d,v=.ref e/\H1 e=some (L2.xn e (.ref C) d)/\PySem.W.xcIn K C=true/\E (.ref e) d (upd H1 e (xo e (.ref C) d))
theorem zTA{E:XK}(he:PE X e te)(hf:Flies X E)(hc:X.calm=true):PS X (.Raise (some e) none pos) (zPS X.K E te):=by
 intro pins s σ H D I h;refine Xc.RaiseX (I.ok.hd hc) (thn (he pins s σ H _ I h) fun v s1 z0=>?_);obtain⟨y,H1,I1,ry,a,C,d,ey,ha,hx,q⟩:=z0;subst ey;cases ry;obtain⟨t1,hg⟩:=I1.xn ha;obtain⟨nm,qn,N,bs,bm,hdct,sn,sub,ab,col,dd,k0,k1,k2,k3,k5,hC,ht⟩:=PySem.W.xc_cls I1.kIn hx;exact⟨a,t1,d,nm,qn,C,N,bs,bm,hdct,sn,sub,ab,col,dd,k0,k1,k2,k3,k5,_,rfl,hC,PySem.W.exc_con ht (by decide),hg,hf pins σ _ _ (I1.raised ha E q)⟩
def zV7(K:qA1)(t:TA):TE:=fun σ H Q=>t σ H fun vs H1=>∃e C d rest,vs=.ref e::rest/\H1 e=some (L2.xn e (.ref C) d)/\PySem.W.xcIn K C=true/\rest.length<=sizeLine/\Q .non H1
structure XBase(K:qA1)(B:Addr):Prop where
 ga:qC9 K (.ref B) "__getattribute__" = some (some (.builtin "type.__getattribute__"))
 rd:qGm K B (.type "type")=true
 fd:qGn K (.ref B) (.type "type") "__init__" = some (.val (.builtin "ValueError.__init__"))
 hi:qEo (.builtin "ValueError.__init__")=true
theorem zTF{B:Addr}{apos:Pos}{pl:Sem Bool}(hB:XBase X.K B)(hg:Gl X x)(hm:X.mg x=some (.ref B))(ha:PA X (e::es) t)(hdb:(x==("__debug__":Str))=false:=by decide)
  (he:starEach (e::es) X.env=(false,eval e X.env)::starEach es X.env:=by rfl) (hpl:(backTo pos (starEach es X.env)).any (·.1)=false:=by rfl)
  (ht:eval (.Call (.Attribute (.Name x p) "__init__" apos) (e::es) [] pos) X.env=(do
   let ov <- eval (.Name x p) X.env
   standAt apos.atName
   let(f,first) <- holding [ov] (getMethod ov "__init__" pl)
   callWith pos f first (backTo pos (starEach (e::es) X.env)) (backToKw pos (keywordEach [] X.env))):=by rfl) :
  PE X (.Call (.Attribute (.Name x p) "__init__" apos) (e::es) [] pos) (zV7 X.K t):=by
 intro pins s σ H Q I h;refine PySem.W.methodCall_KW (pl:=pl) (zLU I hg hm ?_ hdb) ht;refine PySem.W.method_cls I.kIn hB.ga (PySem.W.cls_value I.kIn hB.rd hB.fd hB.hi ?_);have I':=I.tok (s.toks+1);refine qDn (thn (ha pos pins _ σ H _ I' h) fun us s1 z0=>?_) he hpl;obtain⟨vs,H1,I1,r1,a,C,d,rest,ev,ea,hx,hz,q⟩:=z0;subst ev;cases r1 with
 |cons ru r2=>
  cases ru;obtain⟨t1,hg1⟩:=I1.xn ea;obtain⟨nm,qn,N,bs,bm,hdct,sn,sub,ab,col,dd,k0,k1,k2,k3,k5,hC,htl⟩:=PySem.W.xc_cls I1.kIn hx;have hus:=r2.length;obtain⟨hh,g,dr,tk,os⟩:=s1;refine Xc.call_baseX qE0 (PySem.W.exc_con htl (by decide)) hC hg1 (fun h' t0 k1 k2=>?_) (by rw[<- hus];exact hz);have I2:Inv X pins σ (upd H1 a (L2.xn a (.ref C) d)) { heap:=h',gens:=g,drawn:=dr,toks:=tk,os:=os }:=
   I1.write (h':=h') (t':=tk) (e:=a) (by rw[ea];trivial) (.inl rfl) (fun b u hb e=>k1 b u hb e) ⟨_,k2⟩ (zXH ⟨t0,k2⟩)
  rw[zSM ea]at I2;exact⟨.non,H1,I2,rfl,q⟩
structure XSet(K:qA1)(C:Addr)(f:Str):Prop where
 st:qAo K (.ref C) "__setattr__" = some (some (.builtin "object.__setattr__"))
 ov:PySem.W.excOver K C=true
 tk:qGo K C f=some none
 hd:(qEg K C).any (·.hasDict)=true
def zV8(K:qA1)(ta tv:TE)(f:Str):TS:=fun D σ H=>tv σ H fun y H1=>ta σ H1 fun x H2=>∃e C,x=.ref e/\H2 e=some (L2.xn e (.ref C) none)/\XSet K C f /\
 ∀d,H2 d=none->d≠e->D.nx σ (upd (upd H2 d (.xd [(f,y)])) e (L2.xn e (.ref C) (some d)))
theorem zTB{o value:Expr}{f:Str}{pos':Pos}{ta tv:TE}(ha:PE X o ta)(hv:PE X value tv)(hs:swapsWith value (some (.Attribute o f pos')) pos.line X.env=pure false):PS X (.Assign [.Attribute o f pos'] value pos) (zV8 X.K ta tv f):=by
 intro pins s σ H D I h;refine plainObj_wpAny_Assign_Attribute (thn (hv pins s σ H _ I h) fun u s1 ⟨y,H1,I1,ry,q⟩=>thn (ha pins s1 σ H1 _ I1 q) fun ov s2 ⟨x,H2,I2,rx,a,C,ex,ea,c,q2⟩=>?_) hs;subst ex;obtain rfl:ov=Value.ref a:=rx;obtain⟨t1,hg1⟩:=I2.xn ea;refine PySem.W.set_exc I2.kIn hg1 c.st c.ov c.tk c.hd fun h' tk' n1 g2 k2=>?_
 have hdn:H2 s2.heap.objs.size=none:=I2.hok.fresh (qA7 _);have hne:s2.heap.objs.size≠a:=fun z=>by rw[z,ea]at hdn;cases hdn
 refine⟨σ,_,?_,q2 s2.heap.objs.size hdn hne⟩;have nb:∀b,H2 b=none->b≠a:=fun b hb z=>by rw[z,ea]at hb;cases hb
 have ndx:∀b o,s2.heap.get? b=some o->b≠s2.heap.objs.size:=fun b o e=>qAn (Heap.lt_size e)
 have oth:∀b,b≠a->b≠s2.heap.objs.size->upd (upd H2 s2.heap.objs.size (.xd [(f,y)])) a (L2.xn a (.ref C) (some s2.heap.objs.size)) b=H2 b:=fun b h1 h2=>by rw[zAE h1,zAE h2]
 have tr:∀{b:Addr}{o:HO},H2 b=some o->(∀φ,o≠.ext φ)->upd (upd H2 s2.heap.objs.size (.xd [(f,y)])) a (L2.xn a (.ref C) (some s2.heap.objs.size)) b=some o:=fun{b o} hb hn=>by
  rw[oth b (fun z=>by rw[z,ea]at hb;cases hb;exact hn _ rfl) (fun z=>by rw[z,hdn]at hb;cases hb)];exact hb
 refine I2.un (h':=h') (t':=tk') ⟨fun b o e n _ _=>k2 b o (nb b n) e,fun b o e n _ _=>⟨o.slots,k2 b o (nb b n) e⟩,fun b o e n _=>by rw[oth b (nb b n) (ndx b o e)];exact n,fun b o e _=>?_,fun b xs e=>tr e fun _ z=>(by cases z),fun b o u e=>tr e fun _ z=>(by cases z),fun b ps e=>⟨#[],by rw[Array.append_empty];exact tr e fun _ z=>(by cases z)⟩⟩ fun b u e=>?_
 ·by_cases z:b=a
  ·rw[z];exact⟨_,g2⟩
  ·exact⟨o,k2 b o z e⟩
 ·by_cases z:b=a
  ·subst z;rw[zAD]at e;cases e;exact zXH ⟨t1,g2⟩
  ·rw[zAE z]at e
   by_cases z':b=s2.heap.objs.size
   ·subst z';rw[zAD]at e;cases e;refine⟨_,n1,fun g=>?_⟩
    by_cases hgf:g=f
    ·subst hgf;simp[qDx,RelO];exact ry
    ·have hb:(g==f)=false:=beq_eq_false_iff_ne.mpr hgf;simp[qDx,hb,hgf,RelO]
   ·rw[zAE z']at e;refine(I2.hok b u e).stay (fun c w hc q=>k2 c w ?_ q) (fun c q=>?_) fun c xs q=>tr q fun _ z=>(by cases z)
    ·rcases hc with rfl|hc
     ·exact z
     ·intro y;rw[y,ea]at hc;cases hc
    ·exact tr q fun _ z=>(by cases z)
end
end L2
namespace PySem.Xc
open PySem PySem.W
section
variable{prog:Program}{w:World}{A:Around}{E:Value->Shared->Prop}{K:Frag}{x C:Addr}{ox:Obj}{od:Option Obj}{name:Str}{expr fill:Bool}{h:Heap}{g:Array GenState}{d:Drawn}{t:Nat}{os:OsState}
end
structure XIs(K:Frag)(C:Addr):Prop where
 xc:xcIn K C=true
 ga:findIn K (.ref C) "__getattribute__" = some (some (.builtin "BaseException.__getattribute__"))
 gg:findIn K (.ref C) "__getattr__" = some none
 hd:hasDictIn K C=true
 ca:findIn K (.ref C) "__class__" = some (some (.builtin "object.__class__"))
 cg:specialIn K (.builtin "object.__class__") "__get__" = some (some (.builtin "getset_descriptor.__get__"))
 ct:takesIn K (.builtin "object.__class__")=some true
 mo:mroIn K C (.type "object")=some true
end PySem.Xc
namespace L2
open PySem PySem.Spec PyProof.Rows
section
variable{X:Cx}{pins:List (Addr×Obj)}{σ:St}{H:Hp}{s:Shared}{C e d:Addr}{f:Str}{pos:Pos}{ta:TE}
def isX(H:Hp)(e C:Addr)(d:Option Addr):Prop:=H e=some (xn e (.ref C) d)\/H e=some (xo e (.ref C) d)
end
end L2
namespace L2
open PySem PySem.Spec PyProof.Rows
def HasX(P:Program)(w:World)(K:qA1)(mg:Str->Option Value)(base:Heap)(x:Str)(k:Nat)(ps:List Str)(sp:Sp):Prop:=
 ∃f fd,FnOk P w K mg base (CXe P w) k f fd ps sp/\mg x=some (.ref f)/\qB5 K (.ref f)=true/\Binds K fd ps []
section
variable{P:Program}{w:World}{K:qA1}{mg:Str->Option Value}{base:Heap}{x:Str}{k:Nat}{ps N:List Str}{sp sp':Sp}{st:Stmt}
theorem Fun.okX{y qual:Str}{f:Addr}{fd:FuncData}(F:Fun K y qual st f fd)(S:FnScope N ps (zA5 st))(len:∀vs H Q E,sp vs H Q E->vs.length=ps.length)
  (hbody:∀(cdv:Value)(A:Around)(outer:List Env)(s:Shared)(H:Hp)(vs:List V)(Q:VK)(E:XK),Room k (A.deeper (envOfC qual (zA5 st) s.heap.objs.size f cdv))->sp vs H Q E ->
   ∃t,PSs (cxOf (CXe P w) P w K mg base N qual (zA5 st) f cdv A outer s H E) (zB0 st) t/\t { nx:=fun _ H'=>Q .non H',rt:=Q } (start N vs) H):FnOk P w K mg base (CXe P w) (k+1) f fd ps sp:=by
 obtain⟨oc,od,kV,doc,pm,an,cdv,ct,osl,rfl,lk,hcd⟩:=F.ex;exact zb5 lk hcd S len fun A outer s H vs Q E hr hsp=>hbody cdv A outer s H vs Q E hr hsp
theorem Def.okX(D:Def K mg x st)(S:FnScope N ps (zA5 st))
  (hb:∀(kV doc pm:Value)(an:Option Addr)(cdv ct:Value)(us:List Value),us.length=ps.length->bindArgs (qBg x x (zBS st) (zB0 st) (zA5 st) .none kV doc pm an cdv ct) ⟨us,[]⟩=pure (ps.zip us))
  (len:∀vs H Q E,sp vs H Q E->vs.length=ps.length)
  (hbody:∀(f:Addr)(cdv:Value)(A:Around)(outer:List Env)(s:Shared)(H:Hp)(vs:List V)(Q:VK)(E:XK),Room k (A.deeper (envOfC x (zA5 st) s.heap.objs.size f cdv))->sp vs H Q E ->
   ∃t,PSs (cxOf (CXe P w) P w K mg base N x (zA5 st) f cdv A outer s H E) (zB0 st) t/\t { nx:=fun _ H'=>Q .non H',rt:=Q } (start N vs) H):HasX P w K mg base x (k+1) ps sp:=by
 obtain⟨f,fd,F,m⟩:=D;exact⟨f,fd,F.okX S len (fun cdv A outer s H vs Q E hr h=>hbody f cdv A outer s H vs Q E hr h),m,F.kp,F.binds hb⟩
theorem zEL{qual:Str}{scope:Scope}{f:Addr}{cd:Value}{A:Around}{outer:List Env}{s:Shared}{H:Hp}{E:XK}:Flies (cxOf (CXe P w) P w K mg base N qual scope f cd A outer s H E) E:=fun _ _ _ _ h=>zZ3 (fun _ _ _ z=>z) h
end
section
variable{X:Cx}{x:Str}{j k:Nat}{ps:List Str}{sp:Sp}{e:Expr}{es:List Expr}{t:TA}{p pos:Pos}{E:XK}
theorem zVZ:Flies X E0:=fun _ _ _ _ z0=>by
 obtain⟨_,_,_,_,_,_,_,_,_,_,_,h⟩:=z0;exact h.elim
theorem zNA(h:HasX X.prog X.w X.K X.mg X.base x j ps sp)(hjk:j<=k)(hr:Room k X.A)(hf:Flies X E)(hg:Gl X x)(ha:PA X (e::es) t)(hdb:(x==("__debug__":Str))=false:=by decide)
  (he:starEach (e::es) X.env=(false,eval e X.env)::starEach es X.env:=by rfl) (hpl:(backTo pos (starEach es X.env)).any (·.1)=false:=by rfl):PE X (.Call (.Name x p) (e::es) [] pos) (zJB sp [] E t):=by
 obtain⟨f,fd,G,m,kp,b⟩:=h;exact zQG G (hr.mono hjk) hg m kp b .nil hf.passes ha hdb he hpl
end
end L2
namespace Att
open PySem PySem.W PySem.Calls PyProof.Rows
theorem zWO{ns:List Int}(h:WData.weightAll (ns.map WData.int)<=2 ^ 20):∀i∈ns,i.natAbs.log2<2 ^ 20:=by
 induction ns with
 |nil=>intro i hi;cases hi
 |cons n r ih=>
  rw[qAi,WData.weightAll]at h;intro i hi
  rcases qAb.mp hi with rfl|hi
  ·rw[WData.weight]at h
   split at h
   ·rename_i z
    have:i=0:=beq_iff_eq.mp z
    subst this
    decide
   ·omega
  ·exact ih (by omega) i hi
theorem attach_callW{l:OpenLaw}{n:Nat}{q:Program}{loose:List Str}{XP:(Str->Option Value)->Heap->Prop}{YP:World->Heap->Prop}{d:DefRec}
  (hn:l.most=some n) (hdf:d.params.defaults=[])
  (call:∀(w:World)(s₀ s₁:Shared)(mg mb:Str->Option Value)(fa:Addr)(o:Obj)(pm cd doc:Value)(a:Addr)(vs:List Value)(ns:List Int),
   Ground q loose [] XP w s₀ mg mb s₁.heap->YP w s₁.heap ->
   s₁.heap.get? fa=some o->o.data=.func (docDef d.name d.params d.body d.scope pm cd doc)->s₁.heap.CodeRec cd d.name->mg d.name=some (.ref fa) ->
   s₁.heap.get? a=some { cls:=.type "list",data:=.seq vs.toArray }->IntsAre vs ns->ns.length<=n->(∀i∈ns,i.natAbs.log2<2 ^ 20)->s₁.gens=#[] ->
   codeAny (model l.prog w) callerA (.call (.ref fa) ⟨[.ref a],[]⟩) (fun r s'=>r=.ok (.ret (.bool true))/\OldK s₁.heap s'.heap/\s'.os=s₁.os/\AllBare s'.gens) s₁) :
  WalkO q loose XP YP l.row.toRowW d [] (fun f vs=>qHi f vs):=by
 intro w s₀ s₁ mg mb G Y fa o pm cd doc dV kV ho hd hcd hD hmg hg args vals as hpre hlay hrd hwl hlo;obtain rfl:dV=.none:=Dflts.none hD hdf;obtain rfl:kV=.none:=Dflts.noKw hD;obtain⟨a,vs,ns,rfl,rfl,hobj,hints,hlen⟩:=zQ1 hn hpre hwl;have hw:∀i∈ns,i.natAbs.log2<2 ^ 20:=by
  have hl:WData.layableAll [WData.list (ns.map WData.int)]=true:=hlay;simp only[WData.layableAll,qCh,List.all_nil,qEf,WData.layable,qBc,decide_eq_true_eq]at hl;exact zWO (by have:=hl.2;rw[WData.weight]at this;exact this)
 refine enter_call (codeAny_mono (call w s₀ s₁ mg mb fa o pm cd doc a vs ns G Y ho (fd_plain hd) hcd hmg hobj hints hlen hw hg) fun r s' hq=>?_);obtain⟨rfl,h2,h3,h4⟩:=hq;exact⟨.inl ⟨.bool true,.bool true,[],rfl,fun _=>rfl,.bool true,zQA l _,fun _=>⟨qG3,fun _ hm=>(nomatch hm)⟩⟩,h2,h3,h4⟩
end Att
namespace L2
open PySem PySem.Spec PyProof.Rows
theorem walk_ofW{l:qF4}{n k:Nat}{q:Program}{loose:List Str}{XP:(Str->Option Value)->Heap->Prop}{YP:World->Heap->Prop}{d:DefRec}{K:Params->qA1}{CX:World->CXT}{sp:World->Sp}{x:Str}
  (hn:l.most=some n) (hn2:n<=sizeLine) (hdf:d.params.defaults=[]) (hr:Room k callerA)
  (hY:∀(w:World)(h:Heap),YP w h->(K w.params).In h)
  (F:∀(w:World)(mg:Str->Option Value)(fa:Addr)(h:Heap),(K w.params).In h->h.Ns mainGlobals mg->mg d.name=some (.ref fa) ->
   ∃fd:FuncData,(∀(s:Shared)(u:Value),BindsTo s fd ⟨[u],[]⟩ [(x,u)]) /\
    ∀base:Heap,(K w.params).In base->base.Ns mainGlobals mg->FnOk l.prog w (K w.params) mg base (CX w) k fa fd [x] (sp w))
  (hsp:∀(w:World)(H:Hp)(a:Addr)(ns:List Int),ns.length<=n->(∀i∈ns,i.natAbs.log2<2 ^ 20)->Only H->SqL (K w.params) H a (ns.map V.int)->sp w [.ref a] H (fun v _=>v=.bl true) fun _ _ _=>False)
  (hCX:∀(w:World)(H:Hp)(s:Shared)(e:Value)(s':Shared),CX w [] H s (fun _ _ _=>False) e s'->False) :
  qHp q loose XP YP l.row.toRowW d [] (fun f vs=>qHi f vs):=by
 refine Att.attach_callW hn hdf fun w s₀ s₁ mg mb fa o pm cd doc a vs ns G Y ho hd hcd hmg hobj hints hlen hw hg=>?_
 have KX:=hY w _ Y;obtain⟨fd,hb,hF⟩:=F w mg fa _ KX G.T.g hmg;exact zTW KX G.T.g G.T.b G.T.builtins G.T.nolimit hg hobj hints (qAp hlen hn2) hr hF hb (fun H hO hS=>hsp w H a ns hlen hw hO hS) fun H e s'=>hCX w H s₁ e s'
def MulOk(i j:Int):Prop:=((-(2 ^ 64)<i/\i<2 ^ 64)\/(-(2 ^ 64)<j/\j<2 ^ 64))\/i.natAbs.log2+j.natAbs.log2<=67108864
theorem zSB(i:Int):Builtin.Int.intBits i<=i.natAbs.log2+1:=by
 unfold Builtin.Int.intBits
 split<;>omega
theorem MulOk.ok{i j:Int}(h:MulOk i j):IntMulOk i j:=by
 rcases h with h|h
 ·exact CMul.ok h
 ·unfold IntMulOk;have h1:=zSB i;have h2:=zSB j;have h3:Builtin.Int.intTooBig ((Builtin.Int.intBits i:Int)+(Builtin.Int.intBits j:Int))=false:=by
   unfold Builtin.Int.intTooBig
   have:(bitsLine:Int)=134217728:=by decide
   rw[this];simp only[gt_iff_lt,decide_eq_false_iff_not,Int.not_lt];omega
  rw[h3,qCu];exact qAe
section
variable{X:Cx}
noncomputable def za0:R2:=fun x y H Q=>match x,y with
 |.int i,.int j=>MulOk i j/\Q (.int (i*j)) H
 |_,_=>False
theorem zXE:OpR X (binaryOp .Mult) (rI MulOk fun i j=>.int (i*j)):=opI fun _ _ _ _ _ _ _ hc q=>mul_int q hc.ok
theorem zCJ:OpR X (binaryOp .Mult) za0:=by
 intro pins s σ H x y v u Q I rx ry h;cases x<;>cases y<;>first
  |exact zXE pins s σ H _ _ v u Q I rx ry ⟨_,_,rfl,rfl,h.1,h.2⟩
  |exact qA3 h
noncomputable def za3:R2:=fun x y H Q=>match x,y with
 |.int i,.int j=>(0<j/\j<1000000000000000000000000)/\Q (.int (i/j)) H
 |_,_=>False
theorem log2_lt{n:Nat}(h:n<1000000000000000000000000):n.log2<9000:=by
 by_cases z:n=0
 ·subst z;decide
 ·have h2:n<2 ^ 80:=by omega
  have:=(Nat.log2_lt z).mpr h2
  omega
theorem zXF:OpR X (binaryOp .FloorDiv) (rI (fun _ j=>0<j/\j<1000000000000000000000000) fun i j=>.int (i/j)):=opI fun i j _ _ _ _ _ hc q=>by
 have h1:(0:Int)<j:=hc.1;have h2:j<1000000000000000000000000:=hc.2;exact floordiv_int (by omega) (by rw[Int.fdiv_eq_ediv_of_nonneg i (by omega)];exact q) (.inl (PyProof.noPylong_of_log2 (log2_lt (by omega))))
theorem zJ9:OpR X (binaryOp .FloorDiv) za3:=by
 intro pins s σ H x y v u Q I rx ry h;cases x<;>cases y<;>first
  |exact zXF pins s σ H _ _ v u Q I rx ry ⟨_,_,rfl,rfl,h.1,h.2⟩
  |exact qA3 h
end
end L2
namespace L3
open PySem PySem.Spec
open L2 hiding Rep RepL
open Mi (Dt Xn R okR zA3 optR zA0 zA7 zAB zA9 zAA Rh Sl Ro EM TM AM FM IM SM Tg Out zAP zAN zAT full frz frz1 frzAt)
class Kc where
 K:qA1
variable[Kc]
noncomputable def clK(K:qA1)(c:Str):Option Addr:=match qDp K mainGlobals c with
 |some (some (.ref C))=>some C
 |_=>none
def SqR(K:qA1)(H:Hp)(a:Addr)(xs:List V):Prop:=SqL K H a xs\/SqT K H a xs
theorem zFT{K:qA1}{H H':Hp}{a:Addr}{xs:List V}(e:Same H H')(h:SqT K H a xs):SqT K H' a xs:=by
 rcases h with(h|⟨o,h⟩)|h
 ·exact .inl (.inl (e _ _ h))
 ·exact .inl (.inr ⟨o,e _ _ h⟩)
 ·exact .inr h
theorem zEC{K:qA1}{H H':Hp}{a:Addr}{xs:List V}(e:Same H H')(h:SqR K H a xs):SqR K H' a xs:=h.imp (fun z=>e.seq z) fun z=>zFT e z
noncomputable def svV:Mi.Sv->V
 |.i n=>.int n
 |.s x=>.str x
noncomputable def swV:Mi.Sw->V
 |.non=>.non
 |.bl b=>.bl b
 |.int i=>.int i
 |.str x=>.str x
mutual
def Rep(H:Hp):Dt->V->Prop
 |.non,v=>v=.non
 |.bl b,v=>v=.bl b
 |.int i,v=>v=.int i
 |.str x,v=>v=.str x
 |.lst ds,v=>∃a xs,v=.ref a/\H a=some (.lst xs)/\RepL H ds xs
 |.tup ds,v=>∃a xs,v=.ref a/\H a=some (.tup xs)/\RepL H ds xs
 |.scr ns,v=>∃a,v=.ref a/\SqR Kc.K H a (ns.map V.int)
 |.exc c f d,v=>∃e C da,v=.ref e/\isX H e C da/\clK Kc.K c=some C/\((da=none/\f = "")\/∃a gs w,da=some a/\H a=some (.xd gs)/\gs.lookup f=some w/\Rep H d w)
 |.ins c fs,v=>∃a C dx,v=.ref a/\clK Kc.K c=some C/\H a=some (.ins C dx (fs.map fun p=>(p.1,svV p.2)))
 |.dct kvs,v=>∃a,v=.ref a/\H a=some (.dK (kvs.map fun p=>(p.1,swV p.2)))
def RepL(H:Hp):List Dt->List V->Prop
 |[],xs=>xs=[]
 |d::r,xs=>∃x q,xs=x::q/\Rep H d x/\RepL H r q
end
mutual
theorem Rep.mono{H H':Hp}(s:Same H H'):∀{d:Dt}{v:V},Rep H d v->Rep H' d v
 |.non,_,h=>h
 |.bl _,_,h=>h
 |.int _,_,h=>h
 |.str _,_,h=>h
 |.lst _,_,h=>by obtain⟨a,xs,e,e',r⟩:=h;exact⟨a,xs,e,s _ _ e',RepL.mono s r⟩
 |.tup _,_,h=>by obtain⟨a,xs,e,e',r⟩:=h;exact⟨a,xs,e,s _ _ e',RepL.mono s r⟩
 |.scr _,_,h=>by obtain⟨a,e,e'⟩:=h;exact⟨a,e,zEC s e'⟩
 |.exc _ _ _,_,h=>by
  obtain⟨a,C,da,e,e',hc,r⟩:=h;refine⟨a,C,da,e,e'.imp (fun z=>s _ _ z) fun z=>s _ _ z,hc,r.imp (fun z=>z) ?_⟩
  rintro⟨b,gs,w,h1,h2,h3,h4⟩
  exact⟨b,gs,w,h1,s _ _ h2,h3,Rep.mono s h4⟩
 |.ins _ _,_,h=>by obtain⟨a,C,dx,e,hc,h1⟩:=h;exact⟨a,C,dx,e,hc,s _ _ h1⟩
 |.dct _,_,h=>by obtain⟨a,e,h1⟩:=h;exact⟨a,e,s _ _ h1⟩
theorem RepL.mono{H H':Hp}(s:Same H H'):∀{ds:List Dt}{xs:List V},RepL H ds xs->RepL H' ds xs
 |[],_,h=>h
 |_::_,_,h=>by obtain⟨x,q,e,r,t⟩:=h;exact⟨x,q,e,Rep.mono s r,RepL.mono s t⟩
end
theorem RepL.length{H:Hp}:∀{ds:List Dt}{xs:List V},RepL H ds xs->xs.length=ds.length
 |[],_,h=>by cases h;rfl
 |_::_,_,h=>by obtain⟨x,q,e,r,t⟩:=h;subst e;simp[RepL.length t]
mutual
def conv:Dt->L2.Dat
 |.non=>.non
 |.bl b=>.bl b
 |.int i=>.int i
 |.str x=>.str x
 |.lst ds=>.lst (convL ds)
 |.tup ds=>.tup (convL ds)
 |.scr _=>.non
 |.exc _ _ _=>.non
 |.ins _ _=>.non
 |.dct _=>.non
def convL:List Dt->List L2.Dat
 |[]=>[]
 |d::r=>conv d::convL r
end
mutual
theorem zEN:∀{d:Dt},d.dep<=40->(conv d).dep<=d.dep
 |.non,_=>qA7 _
 |.bl _,_=>qA7 _
 |.int _,_=>qA7 _
 |.str _,_=>qA7 _
 |.lst ds,h=>by rw[Dt.dep]at h ⊢;rw[conv,L2.Dat.dep];have:=conv_depL (ds:=ds) (by omega);omega
 |.tup ds,h=>by rw[Dt.dep]at h ⊢;rw[conv,L2.Dat.dep];have:=conv_depL (ds:=ds) (by omega);omega
 |.scr _,h=>by rw[Dt.dep]at h;omega
 |.exc _ _ _,h=>by rw[Dt.dep]at h;omega
 |.ins _ _,h=>by rw[Dt.dep]at h;omega
 |.dct _,h=>by rw[Dt.dep]at h;omega
theorem conv_depL:∀{ds:List Dt},Dt.depL ds<=40->L2.Dat.depL (convL ds)<=Dt.depL ds
 |[],_=>qA7 _
 |d::r,h=>by
  rw[Dt.depL]at h ⊢;rw[convL,L2.Dat.depL];have h1:=zEN (d:=d) (by omega);have h2:=conv_depL (ds:=r) (by omega);omega
end
mutual
theorem zDO{H:Hp}:∀{d:Dt}{v:V},d.dep<=40->Rep H d v->L2.Rep H (conv d) v
 |.non,_,_,h=>h
 |.bl _,_,_,h=>h
 |.int _,_,_,h=>h
 |.str _,_,_,h=>h
 |.lst ds,_,hd,h=>by obtain⟨a,xs,e,e',r⟩:=h;exact⟨a,xs,e,e',conv_repL (by rw[Dt.dep]at hd;omega) r⟩
 |.tup ds,_,hd,h=>by obtain⟨a,xs,e,e',r⟩:=h;exact⟨a,xs,e,e',conv_repL (by rw[Dt.dep]at hd;omega) r⟩
 |.scr _,_,h,_=>by rw[Dt.dep]at h;omega
 |.exc _ _ _,_,h,_=>by rw[Dt.dep]at h;omega
 |.ins _ _,_,h,_=>by rw[Dt.dep]at h;omega
 |.dct _,_,h,_=>by rw[Dt.dep]at h;omega
theorem conv_repL{H:Hp}:∀{ds:List Dt}{xs:List V},Dt.depL ds<=40->RepL H ds xs->L2.RepL H (convL ds) xs
 |[],_,_,h=>h
 |d::r,_,hd,h=>by
  rw[Dt.depL]at hd;obtain⟨x,q,e,a,b⟩:=h;exact⟨x,q,e,zDO (by omega) a,conv_repL (by omega) b⟩
end
mutual
theorem zMB:∀{d e:Dt},d.dep<=40->e.dep<=40->L2.Dat.eq (conv d) (conv e)=Dt.eq d e
 |.scr _,_,h,_=>by rw[Dt.dep]at h;omega
 |.exc _ _ _,_,h,_=>by rw[Dt.dep]at h;omega
 |.ins _ _,_,h,_=>by rw[Dt.dep]at h;omega
 |.dct _,_,h,_=>by rw[Dt.dep]at h;omega
 |.lst ds,e,h,h'=>by
  rw[Dt.dep]at h;cases e with
  |lst es=>rw[Dt.dep]at h';rw[conv,conv,L2.Dat.eq,Dt.eq];exact conv_eqL (by omega) (by omega)
  |scr _=>rw[Dt.dep]at h';omega
  |exc _ _ _=>rw[Dt.dep]at h';omega
  |ins _ _=>rw[Dt.dep]at h';omega
  |dct _=>rw[Dt.dep]at h';omega
  |_=>simp[conv,L2.Dat.eq,Dt.eq]
 |.tup ds,e,h,h'=>by
  rw[Dt.dep]at h;cases e with
  |tup es=>rw[Dt.dep]at h';rw[conv,conv,L2.Dat.eq,Dt.eq];exact conv_eqL (by omega) (by omega)
  |scr _=>rw[Dt.dep]at h';omega
  |exc _ _ _=>rw[Dt.dep]at h';omega
  |ins _ _=>rw[Dt.dep]at h';omega
  |dct _=>rw[Dt.dep]at h';omega
  |_=>simp[conv,L2.Dat.eq,Dt.eq]
 |.non,e,_,h'=>by
  cases e with
  |scr _=>rw[Dt.dep]at h';omega
  |exc _ _ _=>rw[Dt.dep]at h';omega
  |ins _ _=>rw[Dt.dep]at h';omega
  |dct _=>rw[Dt.dep]at h';omega
  |_=>simp[conv,L2.Dat.eq,Dt.eq]
 |.bl _,e,_,h'=>by
  cases e with
  |scr _=>rw[Dt.dep]at h';omega
  |exc _ _ _=>rw[Dt.dep]at h';omega
  |ins _ _=>rw[Dt.dep]at h';omega
  |dct _=>rw[Dt.dep]at h';omega
  |_=>simp[conv,L2.Dat.eq,Dt.eq]
 |.int _,e,_,h'=>by
  cases e with
  |scr _=>rw[Dt.dep]at h';omega
  |exc _ _ _=>rw[Dt.dep]at h';omega
  |ins _ _=>rw[Dt.dep]at h';omega
  |dct _=>rw[Dt.dep]at h';omega
  |_=>simp[conv,L2.Dat.eq,Dt.eq]
 |.str _,e,_,h'=>by
  cases e with
  |scr _=>rw[Dt.dep]at h';omega
  |exc _ _ _=>rw[Dt.dep]at h';omega
  |ins _ _=>rw[Dt.dep]at h';omega
  |dct _=>rw[Dt.dep]at h';omega
  |_=>simp[conv,L2.Dat.eq,Dt.eq]
theorem conv_eqL:∀{ds es:List Dt},Dt.depL ds<=40->Dt.depL es<=40->L2.Dat.eqL (convL ds) (convL es)=Dt.eqL ds es
 |[],[],_,_=>by simp[convL,L2.Dat.eqL,Dt.eqL]
 |[],_::_,_,_=>by simp[convL,L2.Dat.eqL,Dt.eqL]
 |_::_,[],_,_=>by simp[convL,L2.Dat.eqL,Dt.eqL]
 |d::r,e::t,h,h'=>by
  rw[Dt.depL]at h h';rw[convL,convL,L2.Dat.eqL,Dt.eqL,zMB (by omega) (by omega),conv_eqL (by omega) (by omega)]
end
theorem zT4{G:Hp}{ds:List Dt}{xs:List V}(h:RepL G ds xs):xs.length=ds.length:=RepL.length h
theorem zCF{G:Hp}:∀{ds:List Dt}{xs:List V}{q:Nat}{d:Dt}{x:V},RepL G ds xs->ds[q]?=some d->xs[q]?=some x->Rep G d x
 |[],_,_,_,_,_,h,_=>by simp at h
 |d::r,xs,0,e,y,h,h1,h2=>by
  obtain⟨x,t,rfl,a,b⟩:=h;simp at h1 h2;subst h1;subst h2;exact a
 |d::r,xs,q+1,e,y,h,h1,h2=>by
  obtain⟨x,t,rfl,a,b⟩:=h;exact zCF b (by simpa using h1) (by simpa using h2)
theorem zEP{G:Hp}:∀{ds:List Dt}{xs:List V},xs.length=ds.length->(∀(q:Nat)(d:Dt)(x:V),ds[q]?=some d->xs[q]?=some x->Rep G d x)->RepL G ds xs
 |[],[],_,_=>rfl
 |[],_::_,h,_=>by simp at h
 |_::_,[],h,_=>by simp at h
 |d::r,x::t,h,k=>⟨x,t,rfl,k 0 d x rfl rfl,zEP (by simpa using h) fun q e y h1 h2=>k (q+1) e y (by simpa using h1) (by simpa using h2)⟩
theorem zDI{n:Nat}:∀{ds:List Dt},Dt.depL ds<=n->∀{q:Nat}{d:Dt},ds[q]?=some d->d.dep<=n
 |[],_,_,_,h=>by simp at h
 |e::r,h,0,d,h1=>by simp at h1;subst h1;rw[Dt.depL]at h;omega
 |e::r,h,q+1,d,h1=>by rw[Dt.depL]at h;exact zDI (ds:=r) (by omega) (q:=q) (by simpa using h1)
theorem Rep.scalar{G G2:Hp}{d:Dt}{v:V}(h:Rep G d v)(hd:d.dep=0):Rep G2 d v:=by
 cases d with
 |lst ds=>rw[Dt.dep]at hd;omega
 |tup ds=>rw[Dt.dep]at hd;omega
 |scr ns=>rw[Dt.dep]at hd;omega
 |exc _ _ _=>rw[Dt.dep]at hd;omega
 |ins _ _=>rw[Dt.dep]at hd;omega
 |dct _=>rw[Dt.dep]at hd;omega
 |_=>exact h
structure Kids(P:(Addr->Prop)->Dt->V->Prop)(S:Addr->Prop)(a:Addr)(ds:List Dt)(xs:List V)(T:Nat->Addr->Prop):Prop where
 len:xs.length=ds.length
 own:∀(q:Nat)(d:Dt)(x:V),ds[q]?=some d->xs[q]?=some x->P (T q) d x
 top:S a
 out:∀q,¬T q a
 dis:∀q r b,T q b->T r b->q=r
 sub:∀q b,T q b->S b
def Own(G H:Hp):Nat->(Addr->Prop)->Dt->V->Prop
 |0,_,d,v=>Rep G d v
 |n+1,S,d,v=>match d with
  |.lst ds=>∃a xs T,v=.ref a/\H a=some (.lst xs)/\Kids (Own G H n) S a ds xs T
  |.tup ds=>∃a xs T,v=.ref a/\H a=some (.tup xs)/\Kids (Own G H n) S a ds xs T
  |.dct kvs=>∃a,v=.ref a/\H a=some (.dK (kvs.map fun p=>(p.1,swV p.2)))/\S a
  |d=>Rep G d v
theorem Kids.imp{P P':(Addr->Prop)->Dt->V->Prop}{S S':Addr->Prop}{a:Addr}{ds:List Dt}{xs:List V}{T:Nat->Addr->Prop}(k:Kids P S a ds xs T)
  (h:∀q d x,ds[q]?=some d->P (T q) d x->P' (T q) d x) (hs:∀b,S b->S' b):Kids P' S' a ds xs T:=
 ⟨k.len,fun q d x h1 h2=>h q d x h1 (k.own q d x h1 h2),hs _ k.top,k.out,k.dis,fun q b t=>hs _ (k.sub q b t)⟩
theorem Own.mono{G G' H H':Hp}(sG:Same G G')(sH:Same H H'):∀{n:Nat}{S:Addr->Prop}{d:Dt}{v:V},Own G H n S d v->Own G' H' n S d v
 |0,S,d,v,h=>Rep.mono sG h
 |n+1,S,d,v,h=>by
  cases d with
  |lst ds=>obtain⟨a,xs,T,e,ha,k⟩:=h;exact⟨a,xs,T,e,sH _ _ ha,k.imp (fun _ _ _ _ p=>Own.mono sG sH p) fun _ z=>z⟩
  |tup ds=>obtain⟨a,xs,T,e,ha,k⟩:=h;exact⟨a,xs,T,e,sH _ _ ha,k.imp (fun _ _ _ _ p=>Own.mono sG sH p) fun _ z=>z⟩
  |dct kvs=>obtain⟨a,e,ha,hs⟩:=h;exact⟨a,e,sH _ _ ha,hs⟩
  |_=>exact Rep.mono sG h
theorem Own.sub{G H:Hp}{n:Nat}{S S':Addr->Prop}{d:Dt}{v:V}(h:Own G H n S d v)(hs:∀b,S b->S' b):Own G H n S' d v:=by
 cases n with
 |zero=>exact h
 |succ n=>
  cases d with
  |lst ds=>obtain⟨a,xs,T,e,ha,k⟩:=h;exact⟨a,xs,T,e,ha,k.imp (fun _ _ _ _ p=>p) hs⟩
  |tup ds=>obtain⟨a,xs,T,e,ha,k⟩:=h;exact⟨a,xs,T,e,ha,k.imp (fun _ _ _ _ p=>p) hs⟩
  |dct kvs=>obtain⟨a,e,ha,h2⟩:=h;exact⟨a,e,ha,hs _ h2⟩
  |_=>exact h
theorem Own.rep{G H J:Hp}(sG:Same G J):∀{n:Nat}{S:Addr->Prop}{d:Dt}{v:V},Own G H n S d v->(∀a o,S a->H a=some o->J a=some o)->Rep J d v
 |0,S,d,v,h,_=>Rep.mono sG h
 |n+1,S,d,v,h,hj=>by
  cases d with
  |lst ds=>obtain⟨a,xs,T,e,ha,k⟩:=h;exact⟨a,xs,e,hj _ _ k.top ha,zEP k.len fun q d x h1 h2=>Own.rep sG (k.own q d x h1 h2) fun b o t hb=>hj b o (k.sub q b t) hb⟩
  |tup ds=>obtain⟨a,xs,T,e,ha,k⟩:=h;exact⟨a,xs,e,hj _ _ k.top ha,zEP k.len fun q d x h1 h2=>Own.rep sG (k.own q d x h1 h2) fun b o t hb=>hj b o (k.sub q b t) hb⟩
  |dct kvs=>obtain⟨a,e,ha,hs⟩:=h;exact⟨a,e,hj _ _ hs ha⟩
  |_=>exact Rep.mono sG h
theorem Own.at{G G2 H:Hp}:∀{n k:Nat}{S:Addr->Prop}{d:Dt}{v:V},Own G H n S d v->d.dep<=n->d.dep<=k->n<1000->Own G2 H k S d v
 |n,k,S,d,v,h,hn,hk,hz=>by
  cases d with
  |lst ds=>
   rw[Dt.dep]at hn hk;cases n with
   |zero=>omega
   |succ n=>
    cases k with
    |zero=>omega
    |succ k=>
     obtain⟨a,xs,T,e,ha,kd⟩:=h;refine⟨a,xs,T,e,ha,kd.imp (fun q d x h1 p=>?_) fun _ z=>z⟩;exact Own.at p (zDI (by omega) h1) (zDI (by omega) h1) (by omega)
  |tup ds=>
   rw[Dt.dep]at hn hk;cases n with
   |zero=>omega
   |succ n=>
    cases k with
    |zero=>omega
    |succ k=>
     obtain⟨a,xs,T,e,ha,kd⟩:=h;refine⟨a,xs,T,e,ha,kd.imp (fun q d x h1 p=>?_) fun _ z=>z⟩;exact Own.at p (zDI (by omega) h1) (zDI (by omega) h1) (by omega)
  |non=>cases n<;>cases k<;>exact h
  |bl b=>cases n<;>cases k<;>exact h
  |int i=>cases n<;>cases k<;>exact h
  |str x=>cases n<;>cases k<;>exact h
  |scr ns=>rw[Dt.dep]at hn;omega
  |exc _ _ _=>rw[Dt.dep]at hn;omega
  |ins _ _=>rw[Dt.dep]at hn;omega
  |dct _=>rw[Dt.dep]at hn;omega
termination_by n=>n
theorem Own.scalar{G H G2 H2:Hp}{n k:Nat}{S S2:Addr->Prop}{d:Dt}{v:V}(h:Own G H n S d v)(hd:d.dep=0):Own G2 H2 k S2 d v:=by
 cases d with
 |lst ds=>rw[Dt.dep]at hd;omega
 |tup ds=>rw[Dt.dep]at hd;omega
 |non=>cases n<;>cases k<;>exact h
 |bl b=>cases n<;>cases k<;>exact h
 |int i=>cases n<;>cases k<;>exact h
 |str x=>cases n<;>cases k<;>exact h
 |scr ns=>rw[Dt.dep]at hd;omega
 |exc _ _ _=>rw[Dt.dep]at hd;omega
 |ins _ _=>rw[Dt.dep]at hd;omega
 |dct _=>rw[Dt.dep]at hd;omega
theorem zVN{G H:Hp}{n:Nat}{S:Addr->Prop}{d:Dt}{v:V}(h:Rep G d v)(hd:d.dep=0):Own G H n S d v:=Own.scalar (n:=0) (G:=G) (H:=H) (S:=S) h hd
theorem Own.upd{G H:Hp}{p:Addr}{o:HO}:∀{n:Nat}{S:Addr->Prop}{d:Dt}{v:V},Own G H n S d v->¬S p->Own G (upd H p o) n S d v
 |0,S,d,v,h,_=>h
 |n+1,S,d,v,h,hp=>by
  cases d with
  |lst ds=>
   obtain⟨a,xs,T,e,ha,k⟩:=h;have hap:a≠p:=fun z=>hp (z▸k.top)
   exact⟨a,xs,T,e,(zAE hap).trans ha,k.imp (fun q _ _ _ w=>Own.upd w fun z=>hp (k.sub q _ z)) fun _ z=>z⟩
  |tup ds=>
   obtain⟨a,xs,T,e,ha,k⟩:=h;have hap:a≠p:=fun z=>hp (z▸k.top)
   exact⟨a,xs,T,e,(zAE hap).trans ha,k.imp (fun q _ _ _ w=>Own.upd w fun z=>hp (k.sub q _ z)) fun _ z=>z⟩
  |dct kvs=>
   obtain⟨a,e,ha,hs⟩:=h;have hap:a≠p:=fun z=>hp (z▸hs)
   exact⟨a,e,(zAE hap).trans ha,hs⟩
  |_=>exact h
structure Ext(G H G' H':Hp):Prop where
 g:Same G G'
 h:Same H H'
 in':Same G' H'
 old:∀b,H b≠none->G' b=G b
theorem Ext.refl{G H:Hp}(s:Same G H):Ext G H G H:=⟨Same.refl _,Same.refl _,s,fun _ _=>rfl⟩
theorem _root_.L2.Same.some{H H':Hp}(s:Same H H'){b:Addr}(h:H b≠qFl):H' b≠qFl:=by
 cases e:H b with
 |none=>exact absurd e h
 |some o=>rw[s _ _ e];simp
theorem Ext.trans{G H G1 H1 G2 H2:Hp}(a:Ext G H G1 H1)(b:Ext G1 H1 G2 H2):Ext G H G2 H2:=
 ⟨a.g.trans b.g,a.h.trans b.h,b.in',fun c hc=>(b.old c (a.h.some hc)).trans (a.old c hc)⟩
structure Fr(G H G' H':Hp)(S:Addr->Prop):Prop where
 ext:Ext G H G' H'
 new:∀a,S a->H a=none/\G' a=none/\H' a≠none
open Classical in
noncomputable def over(G H:Hp)(S:Addr->Prop):Hp:=fun b=>if S b then H b else G b
theorem zD9{G H:Hp}{S:Addr->Prop}{a:Addr}(h:S a):over G H S a=H a:=by unfold over;rw[if_pos h]
theorem zBL{G H:Hp}{S:Addr->Prop}{a:Addr}(h:¬S a):over G H S a=G a:=by unfold over;rw[if_neg h]
theorem zC5{G H:Hp}{S:Addr->Prop}(s:Same G H):Same G (over G H S)/\Same (over G H S) H:=by
 constructor
 ·intro b o e
  by_cases z:S b
  ·rw[zD9 z];exact s _ _ e
  ·rw[zBL z];exact e
 ·intro b o e
  by_cases z:S b
  ·rw[zD9 z]at e;exact e
  ·rw[zBL z]at e;exact s _ _ e
theorem Fr.frz{G H G' H':Hp}{S:Addr->Prop}{n:Nat}{d:Dt}{v:V}(f:Fr G H G' H' S)(o:Own G' H' n S d v):Ext G H (over G' H' S) H'/\Rep (over G' H' S) d v:=by
 obtain⟨s1,s2⟩:=zC5 (S:=S) f.ext.in';refine⟨⟨f.ext.g.trans s1,f.ext.h,s2,fun b hb=>?_⟩,o.rep s1 fun a u ha e=>by rw[zD9 ha];exact e⟩;have z:¬S b:=fun z=>hb (f.new b z).1
 rw[zBL z];exact f.ext.old b hb
structure View(G:Hp)(σ:St)(ρ:Rh):Prop where
 len:ρ.length=σ.length
 «at»:∀(i:Nat)(d:Dt),ρ[i]?=some (some d)->∃v,σ[i]?=some (some v)/\Rep G d v
theorem View.mono{G G':Hp}{σ:St}{ρ:Rh}(s:Same G G')(h:View G σ ρ):View G' σ ρ:=⟨h.len,fun i d e=>let⟨v,a,b⟩:=h.at i d e;⟨v,a,Rep.mono s b⟩⟩
def XRep(mg:Str->Option Value)(x:Xn)(c:Value)(da:Option Addr)(G H:Hp):Prop:=
 ∃e C,c=.ref e/\G e=some (xo e (.ref C) da)/\clK Kc.K x.cls=some C/\((da=none/\x.f = "")\/∃a gs w,da=some a/\G a=some (.xd gs)/\gs.lookup x.f=some w/\Rep G x.d w)
def PostE(mg:Str->Option Value)(E:XK)(G H:Hp)(n:Nat)(r:R Dt)(Q:VK):Prop:=match r with
 |none=>False
 |some (.error x)=>∀c da G' H',Ext G H G' H'->XRep mg x c da G' H'->E c da H'
 |some (.ok d)=>∀v G' H' S,Fr G H G' H' S->Own G' H' n S d v->Q v H'
def PostT(mg:Str->Option Value)(E:XK)(G H:Hp)(r:R Bool)(Q:Bool->Hp->Prop):Prop:=match r with
 |none=>False
 |some (.error x)=>∀c da G' H',Ext G H G' H'->XRep mg x c da G' H'->E c da H'
 |some (.ok b)=>∀H',Same H H'->Q b H'
structure OwnA(G H:Hp)(n:Nat)(S:Addr->Prop)(ds:List Dt)(xs:List V)(T:Nat->Addr->Prop):Prop where
 len:xs.length=ds.length
 own:∀(q:Nat)(d:Dt)(x:V),ds[q]?=some d->xs[q]?=some x->Own G H n (T q) d x
 dis:∀q r b,T q b->T r b->q=r
 sub:∀q b,T q b->S b
def zbT(mg:Str->Option Value)(E:XK)(G H:Hp)(n:Nat)(r:R (List Dt))(Q:List V->Hp->Prop):Prop:=match r with
 |none=>False
 |some (.error x)=>∀c da G' H',Ext G H G' H'->XRep mg x c da G' H'->E c da H'
 |some (.ok ds)=>∀vs G' H' S T,Fr G H G' H' S->OwnA G' H' n S ds vs T->Q vs H'
def DE(mg:Str->Option Value)(E:XK)(t:TE)(m:EM)(n:Nat):Prop:=∀(G H:Hp)(σ:St)(ρ:Rh)(Q:VK),Same G H->View G σ ρ->PostE mg E G H n (m ρ) Q->t σ H Q
def DT(mg:Str->Option Value)(E:XK)(t:TT)(m:TM):Prop:=∀(G H:Hp)(σ:St)(ρ:Rh)(Q:Bool->Hp->Prop),Same G H->View G σ ρ->PostT mg E G H (m ρ) Q->t σ H Q
def DA(mg:Str->Option Value)(E:XK)(t:TA)(m:AM)(n:Nat):Prop:=∀(G H:Hp)(σ:St)(ρ:Rh)(Q:List V->Hp->Prop),Same G H->View G σ ρ->zbT mg E G H n (m ρ) Q->t σ H Q
structure Err(mg:Str->Option Value)(E:XK)(G H:Hp){β:Type}(P:R β->Prop):Prop where
 no:P none->False
 er:∀x,P (some (.error x))->∀c da G' H',Ext G H G' H'->XRep mg x c da G' H'->E c da H'
theorem Ext.same{G H H':Hp}(s:Same G H)(h:Same H H'):Ext G H G H':=⟨Same.refl _,h,s.trans h,fun _ _=>rfl⟩
theorem Err.from{mg:Str->Option Value}{E:XK}{G H G' H':Hp}{β:Type}{P:R β->Prop}(e:Err mg E G H P)(x:Ext G H G' H'):Err mg E G' H' P:=⟨e.no,fun y p c da G2 H2 z w=>e.er y p c da G2 H2 (x.trans z) w⟩
section
variable{mg:Str->Option Value}{E:XK}{n:Nat}
theorem errE{G H:Hp}{Q:VK}:Err mg E G H (fun r=>PostE mg E G H n r Q):=⟨fun h=>h,fun _ h=>h⟩
theorem errT{G H:Hp}{Q:Bool->Hp->Prop}:Err mg E G H (fun r=>PostT mg E G H r Q):=⟨fun h=>h,fun _ h=>h⟩
theorem errA{G H:Hp}{Q:List V->Hp->Prop}:Err mg E G H (fun r=>zbT mg E G H n r Q):=⟨fun h=>h,fun _ h=>h⟩
theorem DE.step{β:Type}{t:TE}{m:EM}(D:DE mg E t m n){G H:Hp}{σ:St}{ρ:Rh}{Q:VK}{P:R β->Prop}{f:Dt->R β}(hE:Err mg E G H P)(s:Same G H)(w:View G σ ρ)(p:P (zA3 (m ρ) f))
  (h:∀d v G' H' S,m ρ=okR d->Fr G H G' H' S->Own G' H' n S d v->P (f d)->Q v H'):t σ H Q:=by
 refine D G H σ ρ Q s w ?_;cases e:m ρ with
 |none=>rw[e]at p;exact hE.no p
 |some r=>
  rw[e]at p;cases r with
  |error x=>exact hE.er x p
  |ok d=>exact fun v G' H' S fr o=>h d v G' H' S e fr o p
theorem DT.step{β:Type}{t:TT}{m:TM}(D:DT mg E t m){G H:Hp}{σ:St}{ρ:Rh}{Q:Bool->Hp->Prop}{P:R β->Prop}{f:Bool->R β}(hE:Err mg E G H P)(s:Same G H)(w:View G σ ρ)(p:P (zA3 (m ρ) f))
  (h:∀b H',m ρ=okR b->Same H H'->P (f b)->Q b H'):t σ H Q:=by
 refine D G H σ ρ Q s w ?_;cases e:m ρ with
 |none=>rw[e]at p;exact hE.no p
 |some r=>
  rw[e]at p;cases r with
  |error x=>exact hE.er x p
  |ok b=>exact fun H' sH=>h b H' e sH p
theorem DA.step{β:Type}{t:TA}{m:AM}(D:DA mg E t m n){G H:Hp}{σ:St}{ρ:Rh}{Q:List V->Hp->Prop}{P:R β->Prop}{f:List Dt->R β}(hE:Err mg E G H P)(s:Same G H)(w:View G σ ρ)(p:P (zA3 (m ρ) f))
  (h:∀ds vs G' H' S T,m ρ=okR ds->Fr G H G' H' S->OwnA G' H' n S ds vs T->P (f ds)->Q vs H'):t σ H Q:=by
 refine D G H σ ρ Q s w ?_;cases e:m ρ with
 |none=>rw[e]at p;exact hE.no p
 |some r=>
  rw[e]at p;cases r with
  |error x=>exact hE.er x p
  |ok ds=>exact fun vs G' H' S T fr o=>h ds vs G' H' S T e fr o p
theorem PostE.from{G H G' H':Hp}{Q:VK}{r:R Dt}(p:PostE mg E G H n r Q)(x:Ext G H G' H'):PostE mg E G' H' n r Q:=by
 cases r with
 |none=>exact p
 |some r=>
  cases r with
  |error y=>exact fun c da G2 H2 z w=>p c da G2 H2 (x.trans z) w
  |ok d=>
   exact fun v G2 H2 S fr o=>p v G2 H2 S ⟨x.trans fr.ext,fun a ha=>⟨x.h.free (fr.new a ha).1,(fr.new a ha).2⟩⟩ o
theorem PostT.from{G H G' H':Hp}{Q:Bool->Hp->Prop}{r:R Bool}(p:PostT mg E G H r Q)(x:Ext G H G' H'):PostT mg E G' H' r Q:=by
 cases r with
 |none=>exact p
 |some r=>
  cases r with
  |error y=>exact fun c da G2 H2 z w=>p c da G2 H2 (x.trans z) w
  |ok d=>exact fun H2 s=>p H2 (x.h.trans s)
theorem Fr.from{G H G1 H1 G2 H2:Hp}{S:Addr->Prop}(x:Ext G H G1 H1)(f:Fr G1 H1 G2 H2 S):Fr G H G2 H2 S:=⟨x.trans f.ext,fun a ha=>⟨x.h.free (f.new a ha).1,(f.new a ha).2⟩⟩
theorem PostE.val{G H G' H':Hp}{d:Dt}{v:V}{Q:VK}(p:PostE mg E G H n (okR d) Q)(x:Ext G H G' H')(hd:d.dep=0)(h:Rep G' d v):Q v H':=
 p v G' H' (fun _=>False) ⟨x,fun _ z=>z.elim⟩ (zVN h hd)
theorem PostE.kept{G H G' H':Hp}{d:Dt}{v:V}{Q:VK}(p:PostE mg E G H 0 (okR d) Q)(x:Ext G H G' H')(h:Rep G' d v):Q v H':=
 p v G' H' (fun _=>False) ⟨x,fun _ z=>z.elim⟩ h
theorem zAO{t:TE}{m:EM}{n:Nat}(D:DE mg E t m n):DE mg E t m 0:=by
 intro G H σ ρ Q s w p;refine D G H σ ρ Q s w ?_;cases e:m ρ with
 |none=>rw[e]at p;exact p
 |some r=>
  rw[e]at p;cases r with
  |error x=>exact p
  |ok d=>
   intro v G' H' S fr o;obtain⟨x,r⟩:=fr.frz o;exact PostE.kept p x r
end
end L3
namespace L3
open PySem PySem.Spec
open L2 hiding Rep RepL
open Mi (Dt Xn R okR zA3 optR zA0 zA7 zAB zA9 zAA Rh Sl Ro EM TM AM FM IM SM Tg Out zAP zAN zAT full frz frz1 frzAt)
section
variable[Kc]{mg:Str->Option Value}{E:XK}{n k l:Nat}{ta tb tc:TE}{ma mb mc:EM}
theorem zAC{i:Int}:DE mg E (tC (.int i)) (Mi.eC (.int i)) n:=fun G H σ ρ Q s w p=>PostE.val p (Ext.refl s) rfl rfl
theorem zbJ{b:Bool}:DE mg E (tC (.bl b)) (Mi.eC (.bl b)) n:=fun G H σ ρ Q s w p=>PostE.val p (Ext.refl s) rfl rfl
theorem zWC:DE mg E (tC .non) (Mi.eC .non) n:=fun G H σ ρ Q s w p=>PostE.val p (Ext.refl s) rfl rfl
theorem zNT{x:Str}:DE mg E (tC (.str x)) (Mi.eC (.str x)) n:=fun G H σ ρ Q s w p=>PostE.val p (Ext.refl s) rfl rfl
theorem de_v(i:Nat):DE mg E (vM i) (Mi.eV i) 0:=by
 intro G H σ ρ Q s w p;unfold Mi.eV at p;cases e:ρ[i]? with
 |none=>rw[e]at p;exact p.elim
 |some o=>
  rw[e]at p;cases o with
  |none=>exact p.elim
  |some d=>
   obtain⟨v,h1,h2⟩:=w.at i d e;unfold vM;rw[h1];exact PostE.kept p (Ext.refl s) h2
def ROp(r:R2)(f:Dt->Dt->Option Dt)(n:Nat):Prop:=∀(mg:Str->Option Value)(E:XK)(G H:Hp)(d e:Dt)(x y:V)(Q:VK),Same G H->Rep G d x->Rep G e y->PostE mg E G H n (optR (f d e)) Q->r x y H Q
theorem zAG{r:R2}{f:Dt->Dt->Option Dt}(hr:ROp r f n)(A:DE mg E ta ma k)(B:DE mg E tb mb l):DE mg E (tOp r ta tb) (Mi.eB f ma mb) n:=by
 intro G H σ ρ Q s w p;refine(zAO A).step errE s w p fun d v G1 H1 S _ fr o p1=>?_
 refine(zAO B).step (errE.from fr.ext) fr.ext.in' (w.mono fr.ext.g) p1 fun e u G2 H2 S2 _ fr2 o2 p2=>?_
 exact hr mg E G2 H2 d e v u Q fr2.ext.in' (Rep.mono fr2.ext.g o) o2 (PostE.from p2 (fr.ext.trans fr2.ext))
theorem zS0(A:DE mg E ta ma k)(B:DE mg E tb mb n):DE mg E (fun σ H Q=>ta σ H fun x H1=>match x with | .bl c=>if c=true then tb σ H1 Q else Q (.bl false) H1|_=>False) (Mi.eAnd ma mb) n:=by
 intro G H σ ρ Q s w p;refine(zAO A).step errE s w p fun d v G1 H1 S _ fr o p1=>?_
 cases d with
 |bl b=>
  cases(show v=.bl b from o)
  cases b with
  |true=>exact B G1 H1 σ ρ Q fr.ext.in' (w.mono fr.ext.g) (PostE.from p1 fr.ext)
  |false=>exact PostE.val (PostE.from p1 fr.ext) (Ext.refl fr.ext.in') rfl rfl
 |_=>exact p1.elim
theorem zbI(A:DE mg E ta ma k):DE mg E (fun σ H Q=>ta σ H fun x H1=>match x with | .bl c=>Q (.bl (!c)) H1|_=>False) (Mi.eNot ma) n:=by
 intro G H σ ρ Q s w p;refine(zAO A).step errE s w p fun d v G1 H1 S _ fr o p1=>?_
 cases d with
 |bl b=>
  cases(show v=.bl b from o)
  exact PostE.val (PostE.from p1 fr.ext) (Ext.refl fr.ext.in') rfl rfl
 |_=>exact p1.elim
theorem zRW{tA:TT}{c:TM}(C:DT mg E tA c)(A:DE mg E ta ma n)(B:DE mg E tb mb n):DE mg E (tIf tA ta tb) (Mi.eIf c ma mb) n:=by
 intro G H σ ρ Q s w p;refine C.step errE s w p fun b H' _ sH p1=>?_
 have p2:=PostE.from p1 (Ext.same s sH);cases b with
 |true=>exact A G H' σ ρ Q (s.trans sH) w p2
 |false=>exact B G H' σ ρ Q (s.trans sH) w p2
theorem dt_b(A:DE mg E ta ma k):DT mg E (fun σ H Q=>ta σ H fun z H3=>match z with | .bl k=>Q k H3|_=>False) (Mi.tB ma):=by
 intro G H σ ρ Q s w p;refine(zAO A).step errT s w p fun d v G1 H1 S _ fr o p1=>?_
 cases d with
 |bl b=>
  cases(show v=.bl b from o)
  exact p1 H1 fr.ext.h
 |_=>exact p1.elim
theorem dt_m(A:DE mg E ta ma k):DT mg E (bM ta) (Mi.tM ma):=by
 intro G H σ ρ Q s w p;refine(zAO A).step errT s w p fun d v G1 H1 S _ fr o p1=>?_
 cases d with
 |bl b=>cases(show v=.bl b from o);exact p1 H1 fr.ext.h
 |int b=>cases(show v=.int b from o);exact p1 H1 fr.ext.h
 |non=>cases(show v=.non from o);exact p1 H1 fr.ext.h
 |_=>exact p1.elim
variable{tA tB:TT}{cA cB:TM}
theorem zbB(A:DT mg E tA cA)(B:DT mg E tB cB):DT mg E (L2.tAnd tA tB) (Mi.tAn cA cB):=by
 intro G H σ ρ Q s w p;refine A.step errT s w p fun b H' _ sH p1=>?_
 cases b with
 |true=>exact B G H' σ ρ Q (s.trans sH) w (PostT.from p1 (Ext.same s sH))
 |false=>exact p1 H' sH
theorem zbA(A:DT mg E tA cA)(B:DT mg E tB cB):DT mg E (L2.tOr tA tB) (Mi.tOr cA cB):=by
 intro G H σ ρ Q s w p;refine A.step errT s w p fun b H' _ sH p1=>?_
 cases b with
 |false=>exact B G H' σ ρ Q (s.trans sH) w (PostT.from p1 (Ext.same s sH))
 |true=>exact p1 H' sH
theorem zW4(A:DT mg E tA cA):DT mg E (L2.tNot tA) (Mi.tNo cA):=by
 intro G H σ ρ Q s w p;exact A.step errT s w p fun b H' _ sH p1=>p1 H' sH
theorem zDH:DT mg E L2.tYes Mi.tYes:=fun G H σ ρ Q s w p=>p H (Same.refl _)
variable{t:TA}{m:AM}
theorem zA8:DA mg E tNil Mi.aNil n:=fun G H σ ρ Q s w p=>p [] G H (fun _=>False) (fun _ _=>False) ⟨Ext.refl s,fun _ z=>z.elim⟩ ⟨rfl,fun q d x h=>by simp at h,fun _ _ _ z=>z.elim,fun _ _ z=>z.elim⟩
theorem zA2(A:DE mg E ta ma n)(B:DA mg E t m n):DA mg E (zDR ta t) (Mi.aCons ma m) n:=by
 intro G H σ ρ Q s w p;refine A.step errA s w p fun d v G1 H1 S1 _ fr o p1=>?_
 refine B.step (errA.from fr.ext) fr.ext.in' (w.mono fr.ext.g) p1 fun ds vs G2 H2 S2 T2 _ fr2 o2 p2=>?_
 refine p2 (v::vs) G2 H2 (fun a=>S1 a\/S2 a) (fun q=>match q with|0=>S1|q+1=>T2 q) ⟨fr.ext.trans fr2.ext,fun a ha=>?_⟩ ⟨by simp[o2.len],fun q d' x h1 h2=>?_,fun q r b h1 h2=>?_,fun q b h=>?_⟩
 ·rcases ha with ha|ha
  ·obtain⟨n1,n2,n3⟩:=fr.new a ha;exact⟨n1,(fr2.ext.old a n3).trans n2,fr2.ext.h.some n3⟩
  ·obtain⟨n1,n2,n3⟩:=fr2.new a ha;exact⟨fr.ext.h.free n1,n2,n3⟩
 ·cases q with
  |zero=>simp at h1 h2;subst h1;subst h2;exact o.mono fr2.ext.g fr2.ext.h
  |succ q=>exact o2.own q d' x (by simpa using h1) (by simpa using h2)
 ·have ap:∀r b,S1 b->T2 r b->False:=fun r b h1 h2=>(fr.new b h1).2.2 (fr2.new b (o2.sub r b h2)).1
  cases q with
  |zero=>
   cases r with
   |zero=>rfl
   |succ r=>exact(ap r b h1 h2).elim
  |succ q=>
   cases r with
   |zero=>exact(ap q b h2 h1).elim
   |succ r=>rw[o2.dis q r b h1 h2]
 ·cases q with
  |zero=>exact .inl h
  |succ q=>exact .inr (o2.sub q b h)
theorem OwnA.repL{G H:Hp}{S:Addr->Prop}{ds:List Dt}{vs:List V}{T:Nat->Addr->Prop}(o:OwnA G H 0 S ds vs T):RepL G ds vs:=zEP o.len fun q d x h1 h2=>o.own q d x h1 h2
theorem big'{n:Nat}(h:n<=100000):n<=sizeLine:=qCl (L2.big h)
theorem Fr.add{G H G' H':Hp}{S:Addr->Prop}(f:Fr G H G' H' S){p:Addr}(hp:H' p=none)(o:HO):Fr G H G' (upd H' p o) (fun a=>a=p\/S a):=by
 have sn:=L2.same_new hp o;refine⟨⟨f.ext.g,f.ext.h.trans sn,f.ext.in'.trans sn,f.ext.old⟩,fun a ha=>?_⟩
 rcases ha with rfl|ha
 ·exact⟨f.ext.h.free hp,f.ext.in'.free hp,by rw[zAD];simp⟩
 ·obtain⟨n1,n2,n3⟩:=f.new a ha;exact⟨n1,n2,sn.some n3⟩
theorem OwnA.kids{G' H':Hp}{S:Addr->Prop}{ds:List Dt}{vs:List V}{T:Nat->Addr->Prop}(o:OwnA G' H' n S ds vs T)(hn:∀a,S a->H' a≠none){p:Addr}(hp:H' p=none)(ob:HO) :
  Kids (Own G' (upd H' p ob) n) (fun a=>a=p\/S a) p ds vs T:=
 ⟨o.len,fun q d x h1 h2=>(o.own q d x h1 h2).mono (Same.refl _) (L2.same_new hp ob),.inl rfl,fun q z=>hn p (o.sub q p z) hp,o.dis,fun q b z=>.inr (o.sub q b z)⟩
theorem zD3(A:DA mg E t m n):DE mg E (tLst t) (Mi.eLst m) (n+1):=by
 intro G H σ ρ Q s w p;refine A.step errE s w p fun ds vs G1 H1 S T _ fr o p1=>?_
 by_cases hz:ds.length<=100000
 ·rw[if_pos hz]at p1;refine⟨by rw[o.len];exact big' hz,fun a ha=>?_⟩;exact p1 (.ref a) G1 _ _ (fr.add ha _) ⟨a,vs,T,rfl,zAD,o.kids (fun b hb=>(fr.new b hb).2.2) ha _⟩
 ·rw[if_neg hz]at p1;exact p1.elim
theorem zWA(A:DA mg E t m n):DE mg E (tTup t) (Mi.eTup m) (n+1):=by
 intro G H σ ρ Q s w p;refine A.step errE s w p fun ds vs G1 H1 S T _ fr o p1=>?_
 by_cases hz:ds.length<=100000
 ·rw[if_pos hz]at p1;refine⟨by rw[o.len];exact big' hz,fun a ha=>?_⟩;exact p1 (.ref a) G1 _ _ (fr.add ha _) ⟨a,vs,T,rfl,zAD,o.kids (fun b hb=>(fr.new b hb).2.2) ha _⟩
 ·rw[if_neg hz]at p1;exact p1.elim
theorem PostE.lst{G H G' H':Hp}{ds:List Dt}{xs:List V}{Q:VK}(p:PostE mg E G H 1 (okR (.lst ds)) Q)(x:Ext G H G' H')(r:RepL G' ds xs){a:Addr}(ha:H' a=none):Q (.ref a) (upd H' a (.lst xs)):=by
 have fr:Fr G H G' H' (fun _=>False):=⟨x,fun _ z=>z.elim⟩
 refine p (.ref a) G' _ _ (fr.add ha (.lst xs)) ⟨a,xs,fun _ _=>False,rfl,zAD,⟨r.length,fun q d y h1 h2=>zCF r h1 h2,.inl rfl,fun _ z=>z,fun _ _ _ z=>z.elim,fun _ _ z=>z.elim⟩⟩
def CBi(r:List V->Hp->VK->Prop)(f:List Dt->Option Dt)(n:Nat):Prop:=∀(mg:Str->Option Value)(E:XK)(G H:Hp)(ds:List Dt)(vs:List V)(Q:VK),Same G H->RepL G ds vs->PostE mg E G H n (optR (f ds)) Q->r vs H Q
theorem zCG{r:List V->Hp->VK->Prop}{f:List Dt->Option Dt}(hr:CBi r f n)(A:DA mg E t m 0):DE mg E (tCB r t) (Mi.eBi f m) n:=by
 intro G H σ ρ Q s w p;refine A.step errE s w p fun ds vs G1 H1 S T _ fr o p1=>?_
 exact hr mg E G1 H1 ds vs Q fr.ext.in' o.repL (PostE.from p1 fr.ext)
noncomputable def spM(mg:Str->Option Value)(L:Nat)(f:FM):Sp:=fun vs H Q E=>∃G ds,Same G H/\RepL G ds vs/\PostE mg E G H L (f ds) Q
theorem zAV{f:FM}(A:DA mg E t m 0):DE mg E (zJB (spM mg n f) [] E t) (Mi.eCall f m) n:=by
 intro G H σ ρ Q s w p;refine A.step errE s w p fun ds vs G1 H1 S T _ fr o p1=>?_
 exact⟨G1,ds,fr.ext.in',by rw[qCm];exact o.repL,PostE.from p1 fr.ext⟩
theorem zT7{G H:Hp}{o:Option Dt}{Q:VK}{d:Dt}{v:V}(s:Same G H)(p:PostE mg E G H n (optR o) Q)(e:o=some d)(hd:d.dep=0)(h:Rep G d v):Q v H:=by
 subst e;exact PostE.val p (Ext.refl s) hd h
theorem zBU:ROp zX6 Mi.addD 1:=by
 intro mg E G H d e x y Q s h1 h2 p;cases d with
 |int i=>
  cases e with
  |int j=>cases(show x=.int i from h1);cases(show y=.int j from h2);exact zT7 s p rfl rfl rfl
  |_=>exact p.elim
 |str i=>
  cases e with
  |str j=>
   cases(show x=.str i from h1);cases(show y=.str j from h2)
   rw[Mi.addD]at p
   by_cases hz:i.length+j.length<=100000
   ·rw[if_pos hz]at p;exact⟨big' hz,PostE.val p (Ext.refl s) rfl rfl⟩
   ·rw[if_neg hz]at p;exact p.elim
  |_=>exact p.elim
 |lst ds=>
  cases e with
  |lst es=>
   obtain⟨a,xs,rfl,ha,ra⟩:=h1;obtain⟨b,ys,rfl,hb,rb⟩:=h2;rw[Mi.addD]at p
   by_cases hz:ds.length+es.length<=100000
   ·rw[if_pos hz]at p;refine⟨xs,ys,s _ _ ha,s _ _ hb,by rw[ra.length,rb.length];exact big' hz,fun q hq=>?_⟩;refine PostE.lst p (Ext.refl s) (zEP (by simp[ra.length,rb.length]) fun j d' x' e1 e2=>?_) hq
    by_cases hj:j<ds.length
    ·rw[qAa hj]at e1;rw[qAa (by rw[ra.length];exact hj)]at e2;exact zCF ra e1 e2
    ·rw[qA8 (by omega)]at e1;rw[qA8 (by rw[ra.length];omega),ra.length]at e2;exact zCF rb e1 e2
   ·rw[if_neg hz]at p;exact p.elim
  |_=>exact p.elim
 |_=>exact p.elim
theorem zZQ:ROp zZW Mi.subD n:=by
 intro mg E G H d e x y Q s h1 h2 p;cases d with
 |int i=>
  cases e with
  |int j=>cases(show x=.int i from h1);cases(show y=.int j from h2);exact zT7 s p rfl rfl rfl
  |_=>exact p.elim
 |_=>exact p.elim
theorem zCK:ROp za0 Mi.mulD n:=by
 intro mg E G H d e x y Q s h1 h2 p;cases d with
 |int i=>
  cases e with
  |int j=>
   cases(show x=.int i from h1);cases(show y=.int j from h2)
   rw[Mi.mulD]at p
   split at p
   ·rename_i hz;exact⟨hz,PostE.val p (Ext.refl s) rfl rfl⟩
   ·exact p.elim
  |_=>exact p.elim
 |_=>exact p.elim
theorem zJM:ROp za3 Mi.divD n:=by
 intro mg E G H d e x y Q s h1 h2 p;cases d with
 |int i=>
  cases e with
  |int j=>
   cases(show x=.int i from h1);cases(show y=.int j from h2)
   rw[Mi.divD]at p
   split at p
   ·rename_i hz;exact⟨hz,PostE.val p (Ext.refl s) rfl rfl⟩
   ·exact p.elim
  |_=>exact p.elim
 |_=>exact p.elim
theorem zD2:ROp za1 Mi.modD n:=by
 intro mg E G H d e x y Q s h1 h2 p;cases d with
 |int i=>
  cases e with
  |int j=>
   cases(show x=.int i from h1);cases(show y=.int j from h2)
   rw[Mi.modD]at p
   split at p
   ·rename_i hz;exact⟨hz,PostE.val p (Ext.refl s) rfl rfl⟩
   ·exact p.elim
  |_=>exact p.elim
 |_=>exact p.elim
theorem zV9:ROp zZY Mi.powD n:=by
 intro mg E G H d e x y Q s h1 h2 p;cases d with
 |int i=>
  cases e with
  |int j=>
   cases(show x=.int i from h1);cases(show y=.int j from h2)
   rw[Mi.powD]at p
   split at p
   ·rename_i hz;exact⟨hz,PostE.val p (Ext.refl s) rfl rfl⟩
   ·exact p.elim
  |_=>exact p.elim
 |_=>exact p.elim
theorem zMZ{q:Int->Int->Bool}:ROp (zX4 q) (Mi.cmpD q) n:=by
 intro mg E G H d e x y Q s h1 h2 p;cases d with
 |int i=>
  cases e with
  |int j=>cases(show x=.int i from h1);cases(show y=.int j from h2);exact zT7 s p rfl rfl rfl
  |_=>exact p.elim
 |_=>exact p.elim
theorem zW1{G H:Hp}{d e:Dt}{x y:V}{Q:VK}{ng:Bool}(s:Same G H)(h1:Rep G d x)(h2:Rep G e y)(hd:d.dep<=40)(he:e.dep<=40)(q:Q (.bl (if ng then !Dt.eq d e else Dt.eq d e)) H) :
  ∃d' e',L2.Rep H d' x/\L2.Rep H e' y/\d'.dep<=40/\Q (.bl (if ng then !L2.Dat.eq d' e' else L2.Dat.eq d' e')) H:=
 ⟨conv d,conv e,zDO hd (Rep.mono s h1),zDO he (Rep.mono s h2),qAp (zEN hd) hd,by rw[zMB hd he];exact q⟩
theorem zEW{α:Type}[DecidableEq α](a b:α):(a==b)=decide (a=b):=by
 by_cases h:a=b
 ·subst h;simp
 ·simp[h]
theorem zHX{G:Hp}{d:Dt}{i:Int}(h:Rep G d (.int i)):d=.int i:=by
 cases d with
 |int k=>cases h;rfl
 |non=>cases h
 |bl _=>cases h
 |str _=>cases h
 |lst _=>obtain⟨_,_,z,_⟩:=h;cases z
 |tup _=>obtain⟨_,_,z,_⟩:=h;cases z
 |scr _=>obtain⟨_,z,_⟩:=h;cases z
 |exc _ _ _=>obtain⟨_,_,_,z,_⟩:=h;cases z
 |ins _ _=>obtain⟨_,_,_,z,_⟩:=h;cases z
 |dct _=>obtain⟨_,z,_⟩:=h;cases z
theorem zHW{G:Hp}{d:Dt}{i:Str}(h:Rep G d (.str i)):d=.str i:=by
 cases d with
 |str k=>cases h;rfl
 |non=>cases h
 |bl _=>cases h
 |int _=>cases h
 |lst _=>obtain⟨_,_,z,_⟩:=h;cases z
 |tup _=>obtain⟨_,_,z,_⟩:=h;cases z
 |scr _=>obtain⟨_,z,_⟩:=h;cases z
 |exc _ _ _=>obtain⟨_,_,_,z,_⟩:=h;cases z
 |ins _ _=>obtain⟨_,_,_,z,_⟩:=h;cases z
 |dct _=>obtain⟨_,z,_⟩:=h;cases z
theorem zN1{G:Hp}{d:Dt}{i:Bool}(h:Rep G d (.bl i)):d=.bl i:=by
 cases d with
 |bl k=>cases h;rfl
 |non=>cases h
 |str _=>cases h
 |int _=>cases h
 |lst _=>obtain⟨_,_,z,_⟩:=h;cases z
 |tup _=>obtain⟨_,_,z,_⟩:=h;cases z
 |scr _=>obtain⟨_,z,_⟩:=h;cases z
 |exc _ _ _=>obtain⟨_,_,_,z,_⟩:=h;cases z
 |ins _ _=>obtain⟨_,_,_,z,_⟩:=h;cases z
 |dct _=>obtain⟨_,z,_⟩:=h;cases z
theorem zHU:ROp rEqU Mi.eqD n:=by
 intro mg E G H d e x y Q s h1 h2 p;unfold Mi.eqD at p
 split at p
 ·rename_i hz
  have q:Q (.bl (Dt.eq d e)) H:=PostE.val p (Ext.refl s) rfl rfl;have g:=zW1 (ng:=false) (Q:=Q) s h1 h2 hz.1 hz.2 q;unfold rEqU
  split
  ·rw[zHX h1,zHX h2,Dt.eq,zEW]at q;exact q
  ·rw[zHW h1,zHW h2,Dt.eq,zEW]at q;exact q
  ·rw[zN1 h1,zN1 h2,Dt.eq,zEW]at q;exact q
  ·exact g
 ·exact p.elim
theorem zZR:ROp rNeU Mi.neD n:=by
 intro mg E G H d e x y Q s h1 h2 p;unfold Mi.neD at p
 split at p
 ·rename_i hz
  have q:Q (.bl (!Dt.eq d e)) H:=PostE.val p (Ext.refl s) rfl rfl;have g:=zW1 (ng:=true) (Q:=Q) s h1 h2 hz.1 hz.2 q;unfold rNeU
  split
  ·rw[zHX h1,zHX h2,Dt.eq,zEW]at q;exact q
  ·rw[zHW h1,zHW h2,Dt.eq,zEW]at q;exact q
  ·rw[zN1 h1,zN1 h2,Dt.eq,zEW]at q;exact q
  ·exact g
 ·exact p.elim
theorem zU3{G:Hp}{d:Dt}{x:V}(h:Rep G d x):decide (x=.non)=Mi.isNonD d:=by
 cases d with
 |non=>cases h;rfl
 |bl _=>cases h;rfl
 |int _=>cases h;rfl
 |str _=>cases h;rfl
 |lst _=>obtain⟨_,_,rfl,_⟩:=h;rfl
 |tup _=>obtain⟨_,_,rfl,_⟩:=h;rfl
 |scr _=>obtain⟨_,rfl,_⟩:=h;rfl
 |exc _ _ _=>obtain⟨_,_,_,rfl,_⟩:=h;rfl
 |ins _ _=>obtain⟨_,_,_,rfl,_⟩:=h;rfl
 |dct _=>obtain⟨_,rfl,_⟩:=h;rfl
theorem zWZ:ROp (fun x y H Q=>y=.non/\Q (.bl (!decide (x=.non))) H) Mi.isntD n:=by
 intro mg E G H d e x y Q s h1 h2 p;cases e with
 |non=>exact⟨h2,by rw[zU3 h1];exact PostE.val p (Ext.refl s) rfl rfl⟩
 |_=>exact p.elim
theorem zNL(n:Nat)(i:Int):Mi.ixA n i=ixN n i:=rfl
theorem zRC{α:Type}(xs:List α)(i:Int):Mi.itA xs i=atI xs i:=rfl
theorem zWF{G:Hp}{ds:List Dt}{xs:List V}{i:Int}{d:Dt}(r:RepL G ds xs)(h:Mi.itA ds i=some d):∃x,atI xs i=some x/\Rep G d x:=by
 rw[zRC]at h;unfold atI at h ⊢;rw[r.length];cases e:ixN ds.length i with
 |none=>rw[e]at h;cases h
 |some j=>
  rw[e]at h;have h':ds[j]?=some d:=h;have hj:j<xs.length:=by rw[r.length];exact(qA5.mp h').1
  exact⟨xs[j],by simp[hj],zCF r h' (by simp[hj])⟩
theorem zC9:ROp (rIxU Kc.K) Mi.ixD 0:=by
 intro mg E G H d e x y Q s h1 h2 p;cases e with
 |int i=>
  cases(show y=.int i from h2)
  cases d with
  |lst ds=>
   obtain⟨a,xs,rfl,ha,ra⟩:=h1;cases er:Mi.itA ds i with
   |none=>rw[Mi.ixD,er]at p;exact p.elim
   |some c=>
    rw[Mi.ixD,er]at p;obtain⟨v,e1,r1⟩:=zWF ra er;exact⟨xs,v,.inl (SqL.of (s _ _ ha)),e1,PostE.kept p (Ext.refl s) r1⟩
  |tup ds=>
   obtain⟨a,xs,rfl,ha,ra⟩:=h1;cases er:Mi.itA ds i with
   |none=>rw[Mi.ixD,er]at p;exact p.elim
   |some c=>
    rw[Mi.ixD,er]at p;obtain⟨v,e1,r1⟩:=zWF ra er;exact⟨xs,v,.inr (SqT.of (s _ _ ha)),e1,PostE.kept p (Ext.refl s) r1⟩
  |scr ns=>
   obtain⟨a,rfl,ha⟩:=h1;cases er:Mi.itA ns i with
   |none=>rw[Mi.ixD,er]at p;exact p.elim
   |some c=>
    rw[Mi.ixD,er]at p;refine⟨ns.map V.int,.int c,zEC s ha,?_,PostE.kept p (Ext.refl s) rfl⟩;rw[zRC]at er;unfold atI at er ⊢;rw[qAm];cases e:ixN ns.length i with
    |none=>rw[e]at er;cases er
    |some j=>
     rw[e]at er;have er':ns[j]?=some c:=er
     show(ns.map V.int)[j]?=some (.int c)
     rw[qAh,er'];rfl
  |str z=>
   cases(show x=.str z from h1)
   rw[Mi.ixD]at p
   by_cases hz:z.length<=100000
   ·rw[if_pos hz]at p;cases er:Mi.itA z.cps.toList i with
    |none=>rw[er]at p;exact p.elim
    |some c=>rw[er]at p;exact⟨c,big' hz,er,PostE.kept p (Ext.refl s) rfl⟩
   ·rw[if_neg hz]at p;exact p.elim
  |_=>exact p.elim
 |_=>cases d<;>exact p.elim
theorem zCA{G:Hp}{d:Dt}{vs:List V}(h:RepL G [d] vs):∃x,vs=[x]/\Rep G d x:=by
 obtain⟨x,q,rfl,a,b⟩:=h
 cases(show q=[] from b)
 exact⟨x,rfl,a⟩
theorem zZS{G:Hp}{d e:Dt}{vs:List V}(h:RepL G [d,e] vs):∃x y,vs=[x,y]/\Rep G d x/\Rep G e y:=by
 obtain⟨x,q,rfl,a,b⟩:=h;obtain⟨y,rfl,c⟩:=zCA b;exact⟨x,y,rfl,a,c⟩
theorem zBQ:CBi (zX2 Kc.K) Mi.lenD n:=by
 intro mg E G H ds vs Q s h p;cases ds with
 |nil=>exact p.elim
 |cons a0 r0=>
  cases r0 with
  |cons _ _=>cases a0<;>exact p.elim
  |nil=>
   cases a0 with
   |lst es=>
    obtain⟨x,rfl,a,xs,rfl,ha,ra⟩:=zCA h;exact⟨xs,.inl (SqL.of (s _ _ ha)),by rw[ra.length];exact PostE.val p (Ext.refl s) rfl rfl⟩
   |tup es=>
    obtain⟨x,rfl,a,xs,rfl,ha,ra⟩:=zCA h;exact⟨xs,.inr (SqT.of (s _ _ ha)),by rw[ra.length];exact PostE.val p (Ext.refl s) rfl rfl⟩
   |scr ns=>
    obtain⟨x,rfl,a,rfl,ha⟩:=zCA h;refine⟨ns.map V.int,zEC s ha,?_⟩;rw[qAm];exact PostE.val p (Ext.refl s) rfl rfl
   |str z=>
    obtain⟨x,rfl,hx⟩:=zCA h
    cases(show x=.str z from hx)
    rw[Mi.lenD]at p
    by_cases hz:z.length<=100000
    ·rw[if_pos hz]at p;exact⟨big' hz,PostE.val p (Ext.refl s) rfl rfl⟩
    ·rw[if_neg hz]at p;exact p.elim
   |_=>exact p.elim
theorem zCL{G:Hp}:∀(ns:List Int),RepL G (ns.map Dt.int) (ns.map V.int)
 |[]=>rfl
 |_::r=>⟨_,_,rfl,rfl,zCL r⟩
theorem zME:CBi (zQ7 Kc.K) Mi.listD 1:=by
 intro mg E G H ds vs Q s h p;cases ds with
 |nil=>exact p.elim
 |cons a0 r0=>
  cases r0 with
  |cons _ _=>cases a0<;>exact p.elim
  |nil=>
   cases a0 with
   |lst es=>
    obtain⟨x,rfl,a,xs,rfl,ha,ra⟩:=zCA h;exact .inl ⟨xs,.inl (SqL.of (s _ _ ha)),fun l hl=>PostE.lst p (Ext.refl s) ra hl⟩
   |tup es=>
    obtain⟨x,rfl,a,xs,rfl,ha,ra⟩:=zCA h;exact .inl ⟨xs,.inr (SqT.of (s _ _ ha)),fun l hl=>PostE.lst p (Ext.refl s) ra hl⟩
   |scr ns=>
    obtain⟨x,rfl,a,rfl,ha⟩:=zCA h;exact .inl ⟨ns.map V.int,zEC s ha,fun l hl=>PostE.lst p (Ext.refl s) (zCL ns) hl⟩
   |_=>exact p.elim
theorem zc9{G H:Hp}{d:Dt}{x:V}(s:Same G H)(h:Rep G d x)(hd:Mi.tyD d≠""):zFP H x=some (Mi.tyD d):=by
 cases d with
 |non=>cases h;rfl
 |bl _=>cases h;rfl
 |int _=>cases h;rfl
 |str _=>cases h;rfl
 |lst _=>obtain⟨a,xs,rfl,ha,_⟩:=h;unfold zFP;dsimp only;rw[s _ _ ha];rfl
 |tup _=>obtain⟨a,xs,rfl,ha,_⟩:=h;unfold zFP;dsimp only;rw[s _ _ ha];rfl
 |scr _=>exact absurd rfl hd
 |exc _ _ _=>exact absurd rfl hd
 |ins _ _=>exact absurd rfl hd
 |dct _=>exact absurd rfl hd
theorem zRV{nm:String}(hn:nm∈["int","bool","str","list","tuple","dict"])(A:DE mg E ta ma k):DE mg E (tCB za2 (zDR ta (zDR (tC (.ty nm)) tNil))) (Mi.eIsi nm ma) n:=by
 intro G H σ ρ Q s w p;refine(zAO A).step errE s w p fun d v G1 H1 S _ fr o p1=>?_
 have p2:=PostE.from p1 fr.ext;unfold Mi.isiD at p2
 split at p2
 ·exact p2.elim
 ·rename_i hd
  exact⟨Mi.tyD d,zc9 fr.ext.in' o hd,hn,PostE.val p2 (Ext.refl fr.ext.in') rfl rfl⟩
theorem zKO{G:Hp}:∀{ds:List Dt}{bs:List Bool}{xs:List V},Mi.boolsD ds=some bs->RepL G ds xs->xs=bs.map V.bl
 |[],bs,xs,h,r=>by cases h;exact r
 |.bl b::ds,bs,xs,h,r=>by
  obtain⟨x,q,rfl,a,c⟩:=r;rw[Mi.boolsD]at h;cases e:Mi.boolsD ds with
  |none=>rw[e]at h;cases h
  |some cs=>
   rw[e]at h;cases h;rw[zKO e c,show x=.bl b from a];rfl
 |.non::_,_,_,h,_=>by simp[Mi.boolsD]at h
 |.int _::_,_,_,h,_=>by simp[Mi.boolsD]at h
 |.str _::_,_,_,h,_=>by simp[Mi.boolsD]at h
 |.lst _::_,_,_,h,_=>by simp[Mi.boolsD]at h
 |.tup _::_,_,_,h,_=>by simp[Mi.boolsD]at h
 |.scr _::_,_,_,h,_=>by simp[Mi.boolsD]at h
 |.exc _ _ _::_,_,_,h,_=>by simp[Mi.boolsD]at h
 |.ins _ _::_,_,_,h,_=>by simp[Mi.boolsD]at h
 |.dct _::_,_,_,h,_=>by simp[Mi.boolsD]at h
theorem zbQ:CBi za4 Mi.allD n:=by
 intro mg E G H ds vs Q s h p;cases ds with
 |nil=>exact qA3 p
 |cons hd1 tl1=>
  cases hd1 with
  |lst es=>
   cases tl1 with
   |nil=>
    obtain⟨x,rfl,a,xs,rfl,ha,ra⟩:=zCA h;rw[Mi.allD]at p;cases e:Mi.boolsD es with
    |none=>rw[e]at p;exact p.elim
    |some bs=>
     rw[e]at p;exact⟨bs,by rw[<- zKO e ra];exact s _ _ ha,PostE.val p (Ext.refl s) rfl rfl⟩
   |cons _ _=>exact qA3 p
  |_=>exact qA3 p
end
end L3
namespace L3
open PySem PySem.Spec
open L2 hiding Rep RepL
open Mi (Dt Xn R okR zA3 optR zA0 zA7 zAB zA9 zAA Rh Sl Ro EM TM AM FM IM SM Tg Out zAP zAN zAT full frz frz1 frzAt)
variable[Kc]
def ItOk(J:It)(G:Hp)(ds:List Dt):Prop:=∀(i:Nat)(G1 H1:Hp),Same G G1->Same G1 H1->(i<ds.length->J.go i H1)/\(ds.length<=i->J.stop i H1)/\∀x H2 d,ds[i]?=some d->J.yld i H1 x H2->∃G2,Ext G1 H1 G2 H2/\Rep G2 d x
noncomputable def zSD(ind:Bool)(G:Hp):Hp:=if ind=true then(fun _=>none)else G
def zbS(mg:Str->Option Value)(E:XK)(G H:Hp)(ind:Bool)(r:R (List Dt))(Q:It->Hp->Prop):Prop:=match r with
 |none=>False
 |some (.error x)=>∀c da G' H',Ext G H G' H'->XRep mg x c da G' H'->E c da H'
 |some (.ok ds)=>∀J G' H',Ext G H G' H'->ItOk J (zSD ind G') ds->Q J H'
def DI(mg:Str->Option Value)(E:XK)(t:TI)(m:IM)(ind:Bool):Prop:=∀(G H:Hp)(σ:St)(ρ:Rh)(Q:It->Hp->Prop),Same G H->View G σ ρ->zbS mg E G H ind (m ρ) Q->t σ H Q
section
variable{mg:Str->Option Value}{E:XK}{n k l:Nat}{ta te:TE}{ma me:EM}{t:TA}{m:AM}{ind:Bool}
theorem errI{G H:Hp}{Q:It->Hp->Prop}:Err mg E G H (fun r=>zbS mg E G H ind r Q):=⟨fun h=>h,fun _ h=>h⟩
theorem errB{G H:Hp}{α β:Type}{P:R β->Prop}(e:Err mg E G H P)(g:α->R β):Err mg E G H (fun r=>P (zA3 r g)):=⟨fun h=>e.no h,fun x h=>e.er x h⟩
theorem DI.step{β:Type}{t:TI}{m:IM}(D:DI mg E t m ind){G H:Hp}{σ:St}{ρ:Rh}{Q:It->Hp->Prop}{P:R β->Prop}{f:List Dt->R β}(hE:Err mg E G H P)(s:Same G H)(w:View G σ ρ)(p:P (zA3 (m ρ) f))
  (h:∀ds J G' H',m ρ=okR ds->Ext G H G' H'->ItOk J (zSD ind G') ds->P (f ds)->Q J H'):t σ H Q:=by
 refine D G H σ ρ Q s w ?_;cases e:m ρ with
 |none=>rw[e]at p;exact hE.no p
 |some r=>
  rw[e]at p;cases r with
  |error x=>exact hE.er x p
  |ok ds=>exact fun J G' H' x i=>h ds J G' H' e x i p
theorem zVS{K:qA1}{G:Hp}{a:Addr}{xs:List V}{ds:List Dt}(ha:SqL K G a xs)(r:RepL G ds xs):ItOk (Itl K a) G ds:=by
 intro i G1 H1 s1 s2;have hS:SqL K H1 a xs:=(s1.trans s2).seq ha;refine⟨fun hi=>⟨xs,xs[i]'(by rw[r.length];exact hi),hS,by simp⟩,fun hi=>⟨xs,hS,by rw[r.length];exact hi⟩,fun x H2 d hd hy=>?_⟩;obtain⟨rfl,hy⟩:=hy;exact⟨G1,Ext.refl s2,Rep.mono s1 (zCF r hd (hy xs hS))⟩
theorem zVQ{K:qA1}{G:Hp}{a:Addr}{xs:List V}{ds:List Dt}(ha:SqT K G a xs)(r:RepL G ds xs):ItOk (Itt K a) G ds:=by
 intro i G1 H1 s1 s2;have hS:SqT K H1 a xs:=zFT (s1.trans s2) ha;refine⟨fun hi=>⟨xs,xs[i]'(by rw[r.length];exact hi),hS,by simp⟩,fun hi=>⟨xs,hS,by rw[r.length];exact hi⟩,fun x H2 d hd hy=>?_⟩;obtain⟨rfl,hy⟩:=hy;exact⟨G1,Ext.refl s2,Rep.mono s1 (zCF r hd (hy xs hS))⟩
theorem zVR{G:Hp}(lo:Int)(k:Nat):ItOk (Itr lo k) G (Mi.nums lo k):=by
 intro i G1 H1 s1 s2;have hl:(Mi.nums lo k).length=k:=by simp[Mi.nums]
 refine⟨fun hi=>by rw[hl]at hi;exact hi,fun hi=>by rw[hl]at hi;exact hi,fun x H2 d hd hy=>?_⟩;obtain⟨rfl,rfl⟩:=hy;refine⟨G1,Ext.refl s2,?_⟩;unfold Mi.nums at hd;rw[qAh]at hd;cases e:(qA6 k)[i]? with
 |none=>rw[e]at hd;cases hd
 |some j=>
  rw[e]at hd;cases hd;have hj:j=i:=by
   obtain⟨h1,h2⟩:=qA5.mp e;rw[qC3]at h2;exact h2.symm
  subst hj;rfl
theorem zEM(A:DA mg E t m 0):DI mg E (zb1 t) (Mi.iR1 m) true:=by
 intro G H σ ρ Q s w p;refine A.step errI s w p fun ds vs G1 H1 S T _ fr o p1=>?_
 have r:=o.repL;cases ds with
 |nil=>exact qA3 p1
 |cons hd1 tl1=>
  cases hd1 with
  |int j=>
   cases tl1 with
   |nil=>
    obtain⟨x,rfl,hx⟩:=zCA r
    cases(show x=.int j from hx)
    dsimp only at p1
    split at p1
    ·rename_i hz
     exact⟨j,rfl,by omega,by omega,p1 _ G1 H1 fr.ext (zVR 0 _)⟩
    ·exact p1.elim
   |cons _ _=>exact qA3 p1
  |_=>exact qA3 p1
theorem zd2(A:DA mg E t m 0):DI mg E (zb0 t) (Mi.iR2 m) true:=by
 intro G H σ ρ Q s w p;refine A.step errI s w p fun ds vs G1 H1 S T _ fr o p1=>?_
 have r:=o.repL;cases ds with
 |nil=>exact p1.elim
 |cons a0 r0=>
  cases a0 with
  |int i=>
   cases r0 with
   |nil=>exact p1.elim
   |cons b0 r1=>
    cases r1 with
    |cons _ _=>cases b0<;>exact p1.elim
    |nil=>
     cases b0 with
     |int j=>
      obtain⟨x,y,rfl,hx,hy⟩:=zZS r
      cases(show x=.int i from hx)
      cases(show y=.int j from hy)
      dsimp only at p1
      split at p1
      ·rename_i hz
       exact⟨i,j,rfl,⟨by omega,by omega,by omega,by omega⟩,p1 _ G1 H1 fr.ext (zVR i _)⟩
      ·exact p1.elim
     |_=>exact p1.elim
  |_=>rcases r0 with _|⟨_,_|_⟩<;>exact p1.elim
theorem zGH:∀(ds:List Dt)(n:Nat),(Mi.enumD n ds).length=ds.length
 |[],_=>rfl
 |_::r,n=>by rw[Mi.enumD,qAu,qAu,zGH r]
theorem zGI:∀(ds:List Dt)(n i:Nat)(d:Dt),(Mi.enumD n ds)[i]?=some d->∃e,ds[i]?=some e/\d=.tup [.int ((n+i:Nat):Int),e]
 |[],_,_,_,h=>by simp[Mi.enumD]at h
 |x::r,n,0,d,h=>by simp[Mi.enumD]at h;exact⟨x,by simp,by rw[<- h];rfl⟩
 |x::r,n,i+1,d,h=>by
  rw[Mi.enumD]at h;obtain⟨e,h1,h2⟩:=zGI r (n+1) i d (by simpa using h);exact⟨e,by simpa using h1,by rw[h2,show n+1+i=n+(i+1) by omega]⟩
theorem Ext.new{G H:Hp}(s:Same G H){T:Addr}(hT:H T=none)(o:HO):Ext G H (upd G T o) (upd H T o):=by
 refine⟨L2.same_new (s.free hT) o,L2.same_new hT o,fun b u e=>?_,fun b hb=>zAE fun z=>hb (z▸hT)⟩
 by_cases z:b=T
 ·subst z;rw[zAD]at e ⊢;exact e
 ·rw[zAE z]at e ⊢;exact s _ _ e
theorem zVT{K:qA1}{G:Hp}{a:Addr}{xs:List V}{ds:List Dt}(ha:G a=some (.lst xs))(r:RepL G ds xs):ItOk (Ite K a) G (Mi.enumD 0 ds):=by
 intro i G1 H1 s1 s2;have hS:SqL K H1 a xs:=SqL.of (s2 _ _ (s1 _ _ ha));rw[zGH];refine⟨fun hi=>⟨xs,xs[i]'(by rw[r.length];exact hi),hS,by simp⟩,fun hi=>⟨xs,hS,by rw[r.length];exact hi⟩,fun x H2 d hd hy=>?_⟩;obtain⟨T,y,rfl,hT,rfl,hy⟩:=hy;obtain⟨e,h1,rfl⟩:=zGI ds 0 i d hd;have x1:=Ext.new s2 hT (.tup [.int i,y]);refine⟨_,x1,T,_,rfl,zAD,_,_,rfl,?_,_,_,rfl,Rep.mono (s1.trans x1.g) (zCF r h1 (hy xs hS)),rfl⟩;show V.int (i:Int)=.int ((0+i:Nat):Int);rw[qC4]
theorem zd3{K:qA1}(A:DA mg E t m 0):DI mg E (zY6 K t) (Mi.iEn m) false:=by
 intro G H σ ρ Q s w p;refine A.step errI s w p fun ds vs G1 H1 S T _ fr o p1=>?_
 have r:=o.repL;cases ds with
 |nil=>exact qA3 p1
 |cons hd1 tl1=>
  cases hd1 with
  |lst es=>
   cases tl1 with
   |nil=>
    obtain⟨x,rfl,a,xs,rfl,ha,ra⟩:=zCA r;exact⟨⟨xs,SqL.of (fr.ext.in' _ _ ha)⟩,p1 _ G1 H1 fr.ext (zVT ha ra)⟩
   |cons _ _=>exact qA3 p1
  |_=>exact qA3 p1
noncomputable def zFR:St->List (Nat×V)->St
 |σ,[]=>σ
 |σ,(i,v)::r=>zFR (σ.set i (some v)) r
inductive BsRep(G:Hp):List (Nat×Dt)->List (Nat×V)->Prop
 |nil:BsRep G [] []
 |cons {i d v bs ws}:Rep G d v->BsRep G bs ws->BsRep G ((i,d)::bs) ((i,v)::ws)
theorem View.set{G:Hp}{σ:St}{ρ:Rh}{i:Nat}{d:Dt}{v:V}(w:View G σ ρ)(r:Rep G d v):View G (σ.set i (some v)) (ρ.set i (some d)):=by
 refine⟨by simp[w.len],fun j e h=>?_⟩;have hj:j<ρ.length:=by
  have:=(qA5.mp h).1
  simpa using this
 by_cases z:i=j
 ·subst z;rw[qAj hj]at h;cases h;exact⟨v,qAj (by rw[<- w.len];exact hj),r⟩
 ·rw[qAq z]at h;obtain⟨u,h1,h2⟩:=w.at j e h;exact⟨u,by rw[qAq z];exact h1,h2⟩
theorem View.sets{G:Hp}{bs ws}(h:BsRep G bs ws):∀{σ:St}{ρ:Rh},View G σ ρ->View G (zFR σ ws) (zAN ρ bs):=by
 induction h with
 |nil=>exact fun w=>w
 |cons r _ ih=>exact fun w=>ih (w.set r)
def TgOk(g:TG)(tg:Tg):Prop:=∀(G H:Hp)(σ:St)(d:Dt)(x:V)(bs:List (Nat×Dt))(Q:St->Hp->Prop),Same G H->Rep G d x->zAP tg d=some bs->(∀ws,BsRep G bs ws->Q (zFR σ ws) H)->g x σ H Q
def zUW(g:TGs)(is:List Nat):Prop:=∀(G H:Hp)(σ:St)(ds:List Dt)(xs:List V)(Q:St->Hp->Prop),RepL G ds xs->ds.length=is.length->(∀ws,BsRep G (is.zip ds) ws->Q (zFR σ ws) H)->g xs σ H Q
theorem zBB(i:Nat):TgOk (zEK i) (.one i):=by
 intro G H σ d x bs Q s r e h;cases e;exact h [(i,x)] (.cons r .nil)
theorem zHL:zUW gNil []:=by
 intro G H σ ds xs Q r hl h;cases ds with
 |nil=>cases(show xs=[] from r);exact⟨rfl,h [] .nil⟩
 |cons _ _=>simp at hl
theorem zCB(i:Nat){g:TGs}{is:List Nat}(hg:zUW g is):zUW (zb3 (zEK i) g) (i::is):=by
 intro G H σ ds xs Q r hl h;cases ds with
 |nil=>simp at hl
 |cons d ds=>
  obtain⟨x,q,rfl,a,b⟩:=r;exact⟨x,q,rfl,hg G H _ ds q Q b (by simpa using hl) fun ws hw=>h ((i,x)::ws) (.cons a hw)⟩
theorem zMQ{K:qA1}{g:TGs}{is:List Nat}{k:Nat}(hg:zUW g is)(hk:is.length=k):TgOk (gTup K k g) (.tup is):=by
 intro G H σ d x bs Q s r e h;cases d with
 |tup ds=>
  obtain⟨a,xs,rfl,ha,ra⟩:=r;rw[zAP]at e
  by_cases hz:ds.length=is.length
  ·rw[if_pos hz]at e;cases e;exact⟨a,xs,rfl,SqT.of (s _ _ ha),by rw[ra.length,hz,hk],hg G H σ ds xs Q ra hz h⟩
  ·rw[if_neg hz]at e;cases e
 |_=>simp[zAP]at e
theorem zJK:∀(ws:List (Nat×V))(σ own:St),(∀p∈ws,σ.length<=p.1)->∃own':St,own'.length=own.length/\zFR (σ++own) ws=σ++own'
 |[],σ,own,_=>⟨own,rfl,rfl⟩
 |(i,v)::r,σ,own,h=>by
  have hi:σ.length<=i:=h (i,v) (by simp);rw[zFR,List.set_append_right _ _ hi];obtain⟨o,h1,h2⟩:=zJK r σ (own.set (i-σ.length) (some v)) fun p hp=>h p (by simp[hp])
  exact⟨o,by rw[h1,qEy],h2⟩
theorem BsRep.idx{G:Hp}{bs ws}(h:BsRep G bs ws):ws.map (·.1)=bs.map (·.1):=by
 induction h with
 |nil=>rfl
 |cons _ _ ih=>simp[ih]
theorem zSC{tg:Tg}{d:Dt}{bs:List (Nat×Dt)}(h:zAP tg d=some bs):∀i∈bs.map (·.1),i∈tg.idx:=by
 cases tg with
 |one i=>cases h;simp[Tg.idx]
 |tup is=>
  cases d with
  |tup ds=>
   rw[zAP]at h
   split at h
   ·cases h;intro i hi;obtain⟨p,hp,e⟩:=qAd.mp hi;rw[<- e];obtain⟨a,b⟩:=p;exact(qDw hp).1
   ·cases h
  |_=>simp[zAP]at h
theorem zBC{wi:TI}{g:TG}{tif:TT}{it:IM}{tg:Tg}{c:TM}(I:DI mg E wi it ind)(hT:TgOk g tg)(C:DT mg E tif c)(B:DE mg E te me n):DE mg E (zWS wi k g tif te) (Mi.eComp it k tg c me) (n+1):=by
 intro G H σ ρ Q s w p;refine I.step errE s w p fun ds J G1 H1 _ x1 io p1=>?_
 by_cases hz:ds.length<=100000/\(tg.idx.all fun i=>decide (ρ.length<=i))=true
 case neg=>rw[if_neg hz]at p1;exact p1.elim
 rw[if_pos hz]at p1;obtain⟨hz,hix⟩:=hz;have hb1:Same (zSD ind G1) G1:=by
  unfold zSD
  split
  ·exact fun b o e=>by cases e
  ·exact Same.refl _
 refine⟨fun i m acc H'=>m=ds.length-i/\i<=ds.length/\∃G' as S T,Fr G H G' H' S/\Same G1 G'/\OwnA G' H' n S as acc T/\as.length<=i/\PostE mg E G H (n+1) (zA3 (Mi.compGo ρ k tg c me (ds.drop i) as) fun es=>okR (.lst es)) Q,
  ⟨_,rfl,qAk _,G1,[],fun _=>False,fun _ _=>False,⟨x1,fun _ z=>z.elim⟩,Same.refl _,⟨rfl,fun q d x h=>by simp at h,fun _ _ _ z=>z.elim,fun _ _ z=>z.elim⟩,qA7 _,by rw[qE6];exact p1⟩,?_⟩
 rintro i m acc H' ⟨rfl,hi,G',as,S,T,fr,sg,o,hl,p⟩
 obtain⟨j1,j2,j3⟩:=io i G' H' (hb1.trans sg) fr.ext.in'
 by_cases hlt:i<ds.length
 ·refine .inr ⟨j1 hlt,by rw[o.len];exact L2.big (by omega),fun acc' H''=>ds.length-(i+1)=ds.length-(i+1)/\i+1<=ds.length/\∃G' as S T,Fr G H G' H'' S/\Same G1 G'/\OwnA G' H'' n S as acc' T/\as.length<=i+1/\PostE mg E G H (n+1) (zA3 (Mi.compGo ρ k tg c me (ds.drop (i+1)) as) fun es=>okR (.lst es)) Q,
   fun acc' H'' q=>⟨ds.length-(i+1),by omega,q⟩,fun x H2 hy=>?_⟩
  have hd:ds[i]?=some ds[i]:=qA2 hlt;obtain⟨G2,x2,r2⟩:=j3 x H2 ds[i] hd hy;rw[qB8 hlt,Mi.compGo]at p;cases eb:zAP tg ds[i]with
  |none=>rw[eb]at p;exact p.elim
  |some bs=>
   rw[eb]at p;dsimp only at p;refine hT G2 H2 _ _ x bs _ x2.in' r2 eb fun ws hb=>?_
   have hsl:∀q∈ws,σ.length<=q.1:=fun q hq=>by
    have h1:q.1∈bs.map (·.1):=by rw[<- hb.idx];exact List.mem_map_of_mem hq
    have h2:=qEr.mp hix q.1 (zSC eb q.1 h1);rw[<- w.len];exact of_decide_eq_true h2
   obtain⟨own,ho1,ho2⟩:=zJK ws σ (qA9 k none) hsl;refine⟨own,by rw[ho1,qDm],ho2,?_⟩;have x02:=fr.ext.trans x2;have w2:View G2 (zFR (σ++qA9 k none) ws) (zAN (ρ++qA9 k none) bs):=by
    refine View.sets hb ⟨by simp[w.len],fun j d h=>?_⟩
    by_cases hj:j<ρ.length
    ·rw[qAa hj]at h;obtain⟨v,a,b⟩:=w.at j d h;exact⟨v,by rw[qAa (by rw[<- w.len];exact hj)];exact a,Rep.mono x02.g b⟩
    ·rw[qA8 (by omega),qBj]at h
     split at h<;>cases h
   refine C.step ((errB errE _).from x02) x2.in' w2 p fun b H3 _ s3 p3=>?_
   have x3:Ext G2 H2 G2 H3:=Ext.same x2.in' s3;have x03:=x02.trans x3;have newS:∀a,S a->H a=none/\G2 a=none/\H3 a≠none:=fun a ha=>by
    obtain⟨n1,n2,n3⟩:=fr.new a ha;exact⟨n1,(x2.old a n3).trans n2,s3.some (x2.h.some n3)⟩
   have own3:OwnA G2 H3 n S as acc T:=⟨o.len,fun q d y h1 h2=>(o.own q d y h1 h2).mono x2.g (x2.h.trans s3),o.dis,o.sub⟩
   cases b with
   |false=>exact⟨rfl,hlt,G2,as,S,T,⟨x03,newS⟩,sg.trans x2.g,own3,by omega,p3⟩
   |true=>
    refine B.step ((errB errE _).from x03) x3.in' w2 p3 fun e v G4 H4 S4 _ fr4 o4 p4=>?_
    have ap:∀q b,T q b->S4 b->False:=fun q b h1 h2=>(newS b (o.sub q b h1)).2.2 (fr4.new b h2).1
    refine⟨rfl,hlt,G4,as++[e],fun a=>S a\/S4 a,fun q b=>(q<as.length/\T q b)\/(q=as.length/\S4 b),⟨x03.trans fr4.ext,fun a ha=>?_⟩,sg.trans (x2.g.trans fr4.ext.g),⟨by simp[o.len],fun q d y h1 h2=>?_,fun q r b h1 h2=>?_,fun q b h=>?_⟩,by simp;omega,p4⟩
    ·rcases ha with ha|ha
     ·obtain⟨n1,n2,n3⟩:=newS a ha;exact⟨n1,(fr4.ext.old a n3).trans n2,fr4.ext.h.some n3⟩
     ·obtain⟨n1,n2,n3⟩:=fr4.new a ha;exact⟨x03.h.free n1,n2,n3⟩
    ·by_cases hq:q<as.length
     ·rw[qAa hq]at h1;rw[qAa (by rw[o.len];exact hq)]at h2;exact((own3.own q d y h1 h2).mono fr4.ext.g fr4.ext.h).sub fun b z=>.inl ⟨hq,z⟩
     ·rw[qA8 (by omega)]at h1;rw[qA8 (by rw[o.len];omega),o.len]at h2;have hq0:q-as.length=0:=by
       have:=(qA5.mp h1).1
       simp at this;omega
      rw[hq0]at h1 h2;simp at h1 h2;subst h1;subst h2;exact o4.sub fun b z=>.inr ⟨by omega,z⟩
    ·rcases h1 with⟨a1,t1⟩|⟨a1,t1⟩<;>rcases h2 with⟨a2,t2⟩|⟨a2,t2⟩
     ·exact o.dis q r b t1 t2
     ·exact(ap q b t1 t2).elim
     ·exact(ap r b t2 t1).elim
     ·omega
    ·rcases h with⟨_,z⟩|⟨_,z⟩
     ·exact .inl (o.sub q b z)
     ·exact .inr z
 ·have e:i=ds.length:=by omega
  subst e;refine .inl ⟨j2 (qA7 _),fun D hD=>?_⟩;rw[qGh,Mi.compGo]at p;exact p (.ref D) G' _ _ (fr.add hD _) ⟨D,acc,T,rfl,zAD,o.kids (fun b hb=>(fr.new b hb).2.2) hD _⟩
end
end L3
namespace L3
open PySem PySem.Spec
open L2 hiding Rep RepL
open Mi (Dt Xn R okR zA3 optR zA0 zA7 zAB zA9 zAA Rh Sl Ro EM TM AM FM IM SM Tg Out zAP zAN zAT full frz frz1 frzAt)
variable[Kc]
structure Sat(G0 H0 S0:Hp)(σ:St)(ρ:Ro)(G H:Hp)(As:Nat->Addr->Prop):Prop where
 ext:Ext G0 H0 G H
 stb:Same S0 G
 len:ρ.length=σ.length
 «at»:∀(i:Nat)(d:Dt)(n:Nat),ρ[i]?=some (some (d,n))->∃v,σ[i]?=some (some v)/\Own G H n (As i) d v
 dis:∀i j a,As i a->As j a->i=j
 new:∀i a,As i a->H0 a=none/\G a=none/\H a≠none
section
variable{G0 H0 S0:Hp}{σ:St}{ρ:Ro}{G H:Hp}{As:Nat->Addr->Prop}
theorem Sat.grow(a:Sat G0 H0 S0 σ ρ G H As){H':Hp}(s:Same H H'):Sat G0 H0 S0 σ ρ G H' As:=
 ⟨a.ext.trans (Ext.same a.ext.in' s),a.stb,a.len,fun i d n e=>let⟨v,h1,h2⟩:=a.at i d n e;⟨v,h1,h2.mono (Same.refl _) s⟩,a.dis,fun i b h=>let⟨n1,n2,n3⟩:=a.new i b h;⟨n1,n2,s.some n3⟩⟩
theorem Sat.wider(a:Sat G0 H0 S0 σ ρ G H As){G' H':Hp}(x:Ext G H G' H'):Sat G0 H0 S0 σ ρ G' H' As:=
 ⟨a.ext.trans x,a.stb.trans x.g,a.len,fun i d n e=>let⟨v,h1,h2⟩:=a.at i d n e;⟨v,h1,h2.mono x.g x.h⟩,a.dis,fun i b h=>let⟨n1,n2,n3⟩:=a.new i b h;⟨n1,(x.old b n3).trans n2,x.h.some n3⟩⟩
theorem Sat.full(a:Sat G0 H0 S0 σ ρ G H As):∃J,Ext G0 H0 J H/\Same G J/\View J σ (full ρ):=by
 obtain⟨s1,s2⟩:=zC5 (S:=fun b=>∃i,As i b) a.ext.in';refine⟨over G H fun b=>∃i,As i b,⟨a.ext.g.trans s1,a.ext.h,s2,fun b hb=>?_⟩,s1,by simp[Mi.full,a.len],fun i d e=>?_⟩
 ·have z:¬ ∃i,As i b:=fun⟨i,z⟩=>hb (a.new i b z).1
  rw[zBL z];exact a.ext.old b hb
 ·unfold Mi.full at e;rw[qAh]at e;cases e1:ρ[i]? with
  |none=>rw[e1]at e;cases e
  |some o=>
   rw[e1]at e;cases o with
   |none=>cases e
   |some sl=>
    obtain⟨d',n⟩:=sl;cases e;obtain⟨v,h1,h2⟩:=a.at i _ n e1;exact⟨v,h1,h2.rep s1 fun b o hb e=>by rw[zD9 ⟨i,hb⟩];exact e⟩
theorem Sat.put(a:Sat G0 H0 S0 σ ρ G H As){i n:Nat}{d:Dt}{v:V}{S:Addr->Prop}(o:Own G H n S d v)(hS:∀b,S b->H0 b=none/\G b=none/\H b≠none)(hd:∀j b,j≠i->As j b->S b->False) :
  Sat G0 H0 S0 (σ.set i (some v)) (ρ.set i (some (d,n))) G H (fun j=>if j=i then S else As j):=by
 refine⟨a.ext,a.stb,by simp[a.len],fun j e k h=>?_,fun j l b h1 h2=>?_,fun j b h=>?_⟩
 ·have hj:j<ρ.length:=by
   have:=(qA5.mp h).1
   simpa using this
  by_cases z:i=j
  ·subst z;rw[qAj hj]at h;cases h;exact⟨v,qAj (by rw[<- a.len];exact hj),by rw[if_pos rfl];exact o⟩
  ·rw[qAq z]at h;obtain⟨u,h1,h2⟩:=a.at j e k h;exact⟨u,by rw[qAq z];exact h1,by rw[if_neg (fun q=>z q.symm)];exact h2⟩
 ·try dsimp only at h1 h2
  by_cases z1:j=i
  ·by_cases z2:l=i
   ·rw[z1,z2]
   ·rw[if_pos z1]at h1;rw[if_neg z2]at h2;exact(hd l b z2 h2 h1).elim
  ·by_cases z2:l=i
   ·rw[if_neg z1]at h1;rw[if_pos z2]at h2;exact(hd j b z1 h1 h2).elim
   ·rw[if_neg z1]at h1;rw[if_neg z2]at h2;exact a.dis j l b h1 h2
 ·try dsimp only at h
  by_cases z1:j=i
  ·rw[if_pos z1]at h;exact hS b h
  ·rw[if_neg z1]at h;exact a.new j b h
theorem Sat.set(a:Sat G0 H0 S0 σ ρ G H As){H':Hp}{i n:Nat}{d:Dt}{v:V}{S:Addr->Prop}(s:Same H H')(o:Own G H' n S d v)(hS:∀b,S b->H b=none/\G b=none/\H' b≠none) :
  Sat G0 H0 S0 (σ.set i (some v)) (ρ.set i (some (d,n))) G H' (fun j=>if j=i then S else As j):=
 (a.grow s).put o (fun b hb=>⟨a.ext.h.free (hS b hb).1,(hS b hb).2⟩) fun j b _ h1 h2=>(a.new j b h1).2.2 (hS b h2).1
theorem Sat.frz1(a:Sat G0 H0 S0 σ ρ G H As)(i:Nat):∃G1 As1,Sat G0 H0 S0 σ (Mi.frz1 i ρ) G1 H As1:=by
 unfold Mi.frz1;cases e1:ρ[i]? with
 |none=>exact⟨G,As,a⟩
 |some o=>
  cases o with
  |none=>exact⟨G,As,a⟩
  |some sl=>
   obtain⟨d,n⟩:=sl;dsimp only;obtain⟨v,h1,h2⟩:=a.at i d n e1;obtain⟨s1,s2⟩:=zC5 (S:=As i) a.ext.in';have x:Ext G0 H0 (over G H (As i)) H:=⟨a.ext.g.trans s1,a.ext.h,s2,fun b hb=>by
    have z:¬As i b:=fun z=>hb (a.new i b z).1
    rw[zBL z];exact a.ext.old b hb⟩
   have hv:(σ.set i (some v))=σ:=by
    have hi:i<σ.length:=(qA5.mp h1).1;have he:=(qA5.mp h1).2;rw[<- he,qF5]
   have b:Sat G0 H0 S0 σ (ρ.set i (some (d,0))) (over G H (As i)) H (fun j b=>j≠i/\As j b):=by
    refine⟨x,a.stb.trans s1,by simp[a.len],fun j e k h=>?_,fun j l b p q=>a.dis j l b p.2 q.2,fun j b p=>?_⟩
    ·have hj:j<ρ.length:=by
      have:=(qA5.mp h).1
      simpa using this
     by_cases z:i=j
     ·subst z;rw[qAj hj]at h;cases h;exact⟨v,h1,h2.rep s1 fun b o hb e=>by rw[zD9 hb];exact e⟩
     ·rw[qAq z]at h;obtain⟨u,q1,q2⟩:=a.at j e k h;exact⟨u,q1,(q2.mono s1 (Same.refl _)).sub fun b hb=>⟨fun q=>z q.symm,hb⟩⟩
    ·obtain⟨n1,n2,n3⟩:=a.new j b p.2;have z:¬As i b:=fun z=>p.1 (a.dis j i b p.2 z)
     exact⟨n1,by rw[zBL z];exact n2,n3⟩
   exact⟨_,_,b⟩
theorem Sat.frzAt:∀(vs:List Nat){ρ:Ro}{G:Hp}{As:Nat->Addr->Prop},Sat G0 H0 S0 σ ρ G H As->∃G1 As1,Sat G0 H0 S0 σ (Mi.frzAt vs ρ) G1 H As1
 |[],_,_,_,a=>⟨_,_,a⟩
 |i::r,_,_,_,a=>by
  obtain⟨G1,As1,b⟩:=a.frz1 i;exact Sat.frzAt r b
theorem Sat.frz(a:Sat G0 H0 S0 σ ρ G H As):View G σ (Mi.frz ρ):=by
 refine⟨by simp[Mi.frz,a.len],fun i d e=>?_⟩;unfold Mi.frz at e;rw[qAh]at e;cases e1:ρ[i]? with
 |none=>rw[e1]at e;cases e
 |some o=>
  rw[e1]at e;cases o with
  |none=>cases e
  |some sl=>
   obtain⟨d',n⟩:=sl;obtain⟨v,h1,h2⟩:=a.at i d' n e1;simp only[Option.map_some,qI1]at e
   split at e
   ·rename_i hz
    cases e
    rcases hz with hz|hz
    ·subst hz;exact⟨v,h1,h2⟩
    ·exact⟨v,h1,Own.scalar (k:=0) (G2:=G) (H2:=H) (S2:=fun _=>False) h2 hz⟩
   ·cases e
theorem Sat.store(a:Sat G0 H0 S0 σ ρ G H As){i n:Nat}{d:Dt}{v:V}{p:Addr}{o:HO}{S:Addr->Prop}(hp:As i p)(hv:σ[i]?=some (some v))(w:Own G (upd H p o) n S d v)
  (hS:∀b,S b->As i b\/(H0 b=none/\G b=none/\H b≠none/\∀j,¬As j b)):Sat G0 H0 S0 σ (ρ.set i (some (d,n))) G (upd H p o) (fun j=>if j=i then S else As j):=by
 obtain⟨p1,p2,p3⟩:=a.new i p hp;have hn:∀b,H b≠none->upd H p o b≠none:=fun b hb=>by
  by_cases z:b=p
  ·subst z;rw[zAD];simp
  ·rw[zAE z];exact hb
 refine⟨⟨a.ext.g,L2.Same.upd a.ext.h p1 o,L2.Same.upd a.ext.in' p2 o,a.ext.old⟩,a.stb,by simp[a.len],fun j e k h=>?_,fun j l b h1 h2=>?_,fun j b h=>?_⟩
 ·have hj:j<ρ.length:=by
   have:=(qA5.mp h).1
   simpa using this
  by_cases z:i=j
  ·subst z;rw[qAj hj]at h;cases h;exact⟨v,hv,by rw[if_pos rfl];exact w⟩
  ·rw[qAq z]at h;obtain⟨u,h1,h2⟩:=a.at j e k h;exact⟨u,h1,by rw[if_neg (fun q=>z q.symm)];exact h2.upd fun q=>z (a.dis i j p hp q)⟩
 ·have key:∀j b,j≠i->As j b->S b->False:=fun j b hj h1 h2=>by
   rcases hS b h2 with q|⟨_,_,_,q⟩
   ·exact hj (a.dis j i b h1 q)
   ·exact q j h1
  try dsimp only at h1 h2
  by_cases z1:j=i
  ·by_cases z2:l=i
   ·rw[z1,z2]
   ·rw[if_pos z1]at h1;rw[if_neg z2]at h2;exact(key l b z2 h2 h1).elim
  ·by_cases z2:l=i
   ·rw[if_neg z1]at h1;rw[if_pos z2]at h2;exact(key j b z1 h1 h2).elim
   ·rw[if_neg z1]at h1;rw[if_neg z2]at h2;exact a.dis j l b h1 h2
 ·try dsimp only at h
  by_cases z1:j=i
  ·rw[if_pos z1]at h
   rcases hS b h with q|⟨q1,q2,q3,_⟩
   ·obtain⟨n1,n2,n3⟩:=a.new i b q;exact⟨n1,n2,hn b n3⟩
   ·exact⟨q1,q2,hn b q3⟩
  ·rw[if_neg z1]at h;obtain⟨n1,n2,n3⟩:=a.new j b h;exact⟨n1,n2,hn b n3⟩
end
def zEZ(mg:Str->Option Value)(E:XK)(G0 H0 S0:Hp)(L:Nat)(r:R Out)(D:Ends):Prop:=match r with
 |none=>False
 |some (.error x)=>∀c da G' H',Ext G0 H0 G' H'->XRep mg x c da G' H'->E c da H'
 |some (.ok (.nx ρ))=>∀σ G H As,Sat G0 H0 S0 σ ρ G H As->D.nx σ H
 |some (.ok (.bk ρ))=>∀σ G H As,Sat G0 H0 S0 σ ρ G H As->D.bk σ H
 |some (.ok (.ct ρ))=>∀σ G H As,Sat G0 H0 S0 σ ρ G H As->D.ct σ H
 |some (.ok (.rt d))=>∀v G H S,Fr G0 H0 G H S->Own G H L S d v->D.rt v H
def DS(mg:Str->Option Value)(E:XK)(L:Nat)(t:TS)(m:SM):Prop:=∀(G0 H0 S0:Hp)(σ:St)(ρ:Ro)(G H:Hp)(As:Nat->Addr->Prop)(D:Ends),Sat G0 H0 S0 σ ρ G H As->zEZ mg E G0 H0 S0 L (m ρ) D->t D σ H
section
variable{mg:Str->Option Value}{E:XK}{L n k l:Nat}{te ta tb:TE}{e ea eb:EM}{t u:TS}{m m':SM}
theorem errS{G0 H0 S0:Hp}{D:Ends}:Err mg E G0 H0 (fun r=>zEZ mg E G0 H0 S0 L r D):=⟨fun h=>h,fun _ h=>h⟩
theorem zGL:DS mg E L zZG Mi.sNil:=fun G0 H0 S0 σ ρ G H As D a p=>p σ G H As a
theorem zAH(A:DS mg E L t m)(B:DS mg E L u m'):DS mg E L (tSeq t u) (Mi.sSeq m m'):=by
 intro G0 H0 S0 σ ρ G H As D a p;refine A G0 H0 S0 σ ρ G H As _ a ?_;unfold Mi.sSeq at p;cases e:m ρ with
 |none=>rw[e]at p;exact p
 |some r=>
  rw[e]at p;cases r with
  |error x=>exact p
  |ok o=>
   cases o with
   |nx ρ'=>exact fun σ' G' H' As' a'=>B G0 H0 S0 σ' ρ' G' H' As' D a' p
   |rt d=>exact p
   |bk ρ'=>exact p
   |ct ρ'=>exact p
theorem zM5{tc:TT}{c:TM}(C:DT mg E tc c)(A:DS mg E L t m)(B:DS mg E L u m'):DS mg E L (tIfS tc t u) (Mi.sIf c m m'):=by
 intro G0 H0 S0 σ ρ G H As D a p;obtain⟨J,x,s,w⟩:=a.full;refine C.step (errS.from x) x.in' w p fun b H' _ sH p1=>?_
 cases b with
 |true=>exact A G0 H0 S0 σ ρ G H' As D (a.grow sH) p1
 |false=>exact B G0 H0 S0 σ ρ G H' As D (a.grow sH) p1
theorem whole{G0 H0 S0:Hp}{σ:St}{ρ:Ro}{G H J G1 H1:Hp}{As:Nat->Addr->Prop}{S:Addr->Prop}{d:Dt}{v:V}(a:Sat G0 H0 S0 σ ρ G H As)(s:Same G J)(fr:Fr J H G1 H1 S)(o:Own G1 H1 n S d v)(hn:n<1000)(hd:d.dep<=n)(hk:d.dep<=k) :
  Own G H1 k S d v/\∀b,S b->H b=none/\G b=none/\H1 b≠none:=
 ⟨o.at hd hk hn,fun b hb=>let⟨n1,n2,n3⟩:=fr.new b hb;⟨n1,a.ext.in'.free n1,n3⟩⟩
theorem zAK{i:Nat}(vs:List Nat)(A:DE mg E te e n)(hn:n<1000:=by decide):DS mg E L (tAsg te (zEK i)) (Mi.sSet i n vs e):=by
 intro G0 H0 S0 σ ρ G H As D a p;obtain⟨J,x,s,w⟩:=a.full;unfold Mi.sSet at p;cases ee:e (full ρ)with
 |none=>rw[ee]at p;exact p.elim
 |some r=>
  cases r with
  |error y=>exact A.step (errS.from x) x.in' w p fun d v G1 H1 S e1 fr o p1=>by rw[ee]at e1;cases e1
  |ok d=>
   by_cases hd:d.dep<=n
   ·refine A.step (errS.from x) x.in' w p fun d' v G1 H1 S e1 fr o p1=>?_
    rw[ee]at e1;cases e1;rw[if_pos hd]at p1;obtain⟨q1,q2⟩:=whole (k:=n) a s fr o hn hd hd;exact p1 _ G H1 _ (a.set fr.ext.h q1 q2)
   ·rw[ee]at p;have p':zEZ mg E G0 H0 S0 L (zA3 (e (frz (frzAt vs ρ))) fun d'=>okR (.nx ((frzAt vs ρ).set i (some (d',n))))) D:=by
     have p2:zEZ mg E G0 H0 S0 L (if d.dep<=n then okR (.nx (ρ.set i (some (d,n))))else zA3 (e (frz (frzAt vs ρ))) fun d'=>okR (.nx ((frzAt vs ρ).set i (some (d',n))))) D:=p;rw[if_neg hd]at p2;exact p2
    obtain⟨G1,As1,a1⟩:=Sat.frzAt vs a;refine A.step (errS.from a1.ext) a1.ext.in' a1.frz p' fun d' v G2 H2 S _ fr o p1=>?_
    exact p1 _ G2 H2 _ ((a1.wider fr.ext).put o (fun b hb=>let⟨n1,n2,n3⟩:=fr.new b hb;⟨a1.ext.h.free n1,n2,n3⟩) fun j b _ h1 h2=>(a1.new j b h1).2.2 (fr.new b h2).1)
theorem zB8(vs:List Nat)(A:DE mg E te e n)(hn:n<1000:=by decide):DS mg E L (tRet te) (Mi.sRet L n vs e):=by
 intro G0 H0 S0 σ ρ G H As D a p;obtain⟨J,x,s,w⟩:=a.full;unfold Mi.sRet at p;cases ee:e (full ρ)with
 |none=>rw[ee]at p;exact p.elim
 |some r=>
  cases r with
  |error y=>exact A.step (errS.from x) x.in' w p fun d v G1 H1 S e1 fr o p1=>by rw[ee]at e1;cases e1
  |ok d=>
   by_cases hd:d.dep<=n/\d.dep<=L
   ·refine A.step (errS.from x) x.in' w p fun d' v G1 H1 S e1 fr o p1=>?_
    rw[ee]at e1;cases e1;rw[if_pos hd]at p1;exact p1 v G1 H1 S (Fr.from x fr) (o.at hd.1 hd.2 hn)
   ·rw[ee]at p;have p2:zEZ mg E G0 H0 S0 L (if d.dep<=n/\d.dep<=L then okR (.rt d)else if n=L then zA3 (e (frz (frzAt vs ρ))) fun d'=>okR (.rt d')else none) D:=p;rw[if_neg hd]at p2
    by_cases hl:n=L
    ·rw[if_pos hl]at p2;subst hl;obtain⟨G1,As1,a1⟩:=Sat.frzAt vs a;refine A.step (errS.from a1.ext) a1.ext.in' a1.frz p2 fun d' v G2 H2 S _ fr o p1=>?_
     exact p1 v G2 H2 S (Fr.from a1.ext fr) o
    ·rw[if_neg hl]at p2;exact p2.elim
theorem zGK(i:Nat):DS mg E L (tRet (vM i)) (Mi.sRetV L i):=by
 intro G0 H0 S0 σ ρ G H As D a p;unfold Mi.sRetV at p;cases e1:ρ[i]? with
 |none=>rw[e1]at p;exact p.elim
 |some o=>
  rw[e1]at p;cases o with
  |none=>exact p.elim
  |some sl=>
   obtain⟨d,k⟩:=sl;obtain⟨v,h1,h2⟩:=a.at i d k e1;show vM i σ H D.rt;unfold vM;rw[h1];dsimp only at p
   split at p
   ·rename_i hz
    rcases hz with hz|hz|hz
    ·subst hz;exact p v G H (As i) ⟨a.ext,fun b hb=>a.new i b hb⟩ h2
    ·subst hz;obtain⟨s1,s2⟩:=zC5 (S:=As i) a.ext.in';refine p v (over G H (As i)) H (fun _=>False) ⟨⟨a.ext.g.trans s1,a.ext.h,s2,fun b hb=>?_⟩,fun _ z=>z.elim⟩ (h2.rep s1 fun b o hb e=>by rw[zD9 hb];exact e);have z:¬As i b:=fun z=>hb (a.new i b z).1
     rw[zBL z];exact a.ext.old b hb
    ·exact p v G H (As i) ⟨a.ext,fun b hb=>a.new i b hb⟩ (h2.at hz.1 hz.2.1 hz.2.2)
   ·exact p.elim
theorem Sat.puts{G0 H0 S0 G H:Hp}{bs:List (Nat×Dt)}{ws:List (Nat×V)}(h:BsRep G bs ws):∀{σ:St}{ρ:Ro}{As:Nat->Addr->Prop},Sat G0 H0 S0 σ ρ G H As->∃As',Sat G0 H0 S0 (zFR σ ws) (zAT ρ bs) G H As':=by
 induction h with
 |nil=>exact fun a=>⟨_,a⟩
 |cons r _ ih=>exact fun a=>ih (a.put (n:=0) (S:=fun _=>False) r (fun _ z=>z.elim) fun _ _ _ _ z=>z.elim)
theorem zbC{g:TG}{is:List Nat}(vs:List Nat)(hT:TgOk g (.tup is))(A:DE mg E te e n):DS mg E L (tAsg te g) (Mi.sUnp is vs e):=by
 intro G0 H0 S0 σ ρ G H As D a p;obtain⟨G1,As1,a1⟩:=Sat.frzAt vs a;refine(zAO A).step (errS.from a1.ext) a1.ext.in' a1.frz p fun d v G2 H2 S _ fr o p1=>?_
 cases eb:zAP (.tup is) d with
 |none=>rw[eb]at p1;exact p1.elim
 |some bs=>
  rw[eb]at p1;refine hT G2 H2 σ d v bs _ fr.ext.in' o eb fun ws hw=>?_
  obtain⟨As',a2⟩:=Sat.puts hw (a1.wider fr.ext);exact p1 _ G2 H2 As' a2
theorem zW7(i:Nat)(A:DE mg E te e n)(hn:n<1000:=by decide):DS mg E L (zGU (tML appM (vM i) (zDR te tNil))) (Mi.sApp i n e):=by
 intro G0 H0 S0 σ ρ G H As D a p;obtain⟨J,x,s,w⟩:=a.full;unfold Mi.sApp at p;cases e1:ρ[i]? with
 |none=>rw[e1]at p;exact p.elim
 |some o=>
  rw[e1]at p
  match o,e1,p with
  |none,_,p=>exact p.elim
  |some (.lst ds,k+1),e1,p=>
   obtain⟨v,h1,q,xs,T,rfl,hq,kd⟩:=a.at i _ _ e1;unfold zGU tML vM;rw[h1];refine⟨xs,hq,?_⟩;refine A.step (errS.from x) x.in' w p fun d y G1 H1 S _ fr o p1=>?_
   split at p1
   ·rename_i hz
    obtain⟨q1,q2⟩:=whole (k:=k) a s fr o hn hz.2.1 hz.2.2;refine⟨xs,fr.ext.h _ _ hq,by rw[kd.len];exact L2.big (by omega),?_⟩;have hp:=kd.top;have a1:=a.grow fr.ext.h;have nS:¬S q:=fun z=>(a.new i q hp).2.2 (q2 q z).1
    have ap:∀r b,T r b->S b->False:=fun r b h1 h2=>(a.new i b (kd.sub r b h1)).2.2 (q2 b h2).1
    refine p1 σ G _ _ (a1.store (S:=fun b=>As i b\/S b) hp h1 ⟨q,_,fun r b=>(r<ds.length/\T r b)\/(r=ds.length/\S b),rfl,zAD,⟨by simp[kd.len],fun r d' z g1 g2=>?_,.inl hp,fun r z=>?_,fun r r' b z1 z2=>?_,fun r b z=>?_⟩⟩ fun b z=>?_)
    ·by_cases hr:r<ds.length
     ·rw[qAa hr]at g1;rw[qAa (by rw[kd.len];exact hr)]at g2;exact(((kd.own r d' z g1 g2).mono (Same.refl _) fr.ext.h).upd (kd.out r)).sub fun b z=>.inl ⟨hr,z⟩
     ·rw[qA8 (by omega)]at g1;rw[qA8 (by rw[kd.len];omega),kd.len]at g2;have hq0:r-ds.length=0:=by
       have:=(qA5.mp g1).1
       simp at this;omega
      rw[hq0]at g1 g2;simp at g1 g2;subst g1;subst g2;exact(q1.upd nS).sub fun b z=>.inr ⟨by omega,z⟩
    ·rcases z with⟨_,z⟩|⟨_,z⟩
     ·exact kd.out r z
     ·exact nS z
    ·rcases z1 with⟨c1,t1⟩|⟨c1,t1⟩<;>rcases z2 with⟨c2,t2⟩|⟨c2,t2⟩
     ·exact kd.dis r r' b t1 t2
     ·exact(ap r b t1 t2).elim
     ·exact(ap r' b t2 t1).elim
     ·omega
    ·rcases z with⟨_,z⟩|⟨_,z⟩
     ·exact .inl (kd.sub r b z)
     ·exact .inr z
    ·rcases z with z|z
     ·exact .inl z
     ·obtain⟨n1,n2,n3⟩:=q2 b z;exact .inr ⟨a.ext.h.free n1,n2,n3,fun j y=>(a.new j b y).2.2 n1⟩
   ·exact p1.elim
  |some (.lst ds,0),_,p=>exact p.elim
  |some (.non,_),_,p=>exact p.elim
  |some (.bl _,_),_,p=>exact p.elim
  |some (.int _,_),_,p=>exact p.elim
  |some (.str _,_),_,p=>exact p.elim
  |some (.tup _,_),_,p=>exact p.elim
  |some (.scr _,_),_,p=>exact p.elim
  |some (.exc _ _ _,_),_,p=>exact p.elim
  |some (.ins _ _,_),_,p=>exact p.elim
  |some (.dct _,_),_,p=>exact p.elim
theorem Kids.pop{P:(Addr->Prop)->Dt->V->Prop}{S:Addr->Prop}{a:Addr}{ds:List Dt}{xs:List V}{T:Nat->Addr->Prop}(k:Kids P S a ds xs T)(q:Nat) :
  Kids P (fun b=>S b/\¬T q b) a (ds.eraseIdx q) (xs.eraseIdx q) (fun r=>if r<q then T r else T (r+1)):=by
 refine⟨by rw[qFf,qFf,k.len],fun r d x h1 h2=>?_,⟨k.top,k.out q⟩,fun r=>?_,fun r r' b z1 z2=>?_,fun r b z=>?_⟩
 ·rw[List.getElem?_eraseIdx]at h1 h2
  try dsimp only
  by_cases hr:r<q
  ·rw[if_pos hr]at h1 h2 ⊢;exact k.own r d x h1 h2
  ·rw[if_neg hr]at h1 h2 ⊢;exact k.own (r+1) d x h1 h2
 ·try dsimp only
  split
  ·exact k.out _
  ·exact k.out _
 ·try dsimp only at z1 z2
  by_cases h1:r<q<;>by_cases h2:r'<q
  ·rw[if_pos h1]at z1;rw[if_pos h2]at z2;exact k.dis _ _ b z1 z2
  ·rw[if_pos h1]at z1;rw[if_neg h2]at z2;have:=k.dis _ _ b z1 z2;omega
  ·rw[if_neg h1]at z1;rw[if_pos h2]at z2;have:=k.dis _ _ b z1 z2;omega
  ·rw[if_neg h1]at z1;rw[if_neg h2]at z2;have:=k.dis _ _ b z1 z2;omega
 ·try dsimp only at z
  by_cases h1:r<q
  ·rw[if_pos h1]at z;exact⟨k.sub _ b z,fun w=>by have:=k.dis _ _ b z w;omega⟩
  ·rw[if_neg h1]at z;exact⟨k.sub _ b z,fun w=>by have:=k.dis _ _ b z w;omega⟩
theorem zVM{G H:Hp}{p:Addr}{o:HO}{S:Addr->Prop}{a:Addr}{ds:List Dt}{xs:List V}{T:Nat->Addr->Prop}(k:Kids (Own G H n) S a ds xs T)(hp:∀q,¬T q p):Kids (Own G (upd H p o) n) S a ds xs T:=
 ⟨k.len,fun q d x h1 h2=>(k.own q d x h1 h2).upd (hp q),k.top,k.out,k.dis,k.sub⟩
theorem zbD(j i:Nat)(A:DE mg E te e n):DS mg E L (tAsg (tML popM (vM i) (zDR te tNil)) (zEK j)) (Mi.sPop j i e):=by
 intro G0 H0 S0 σ ρ G H As D a p;obtain⟨J,x,s,w⟩:=a.full;unfold Mi.sPop at p;cases e1:ρ[i]? with
 |none=>rw[e1]at p;exact p.elim
 |some o=>
  rw[e1]at p
  match o,e1,p with
  |none,_,p=>exact p.elim
  |some (.lst ds,k+1),e1,p=>
   obtain⟨v,h1,q,xs,T,rfl,hq,kd⟩:=a.at i _ _ e1;unfold tAsg tML vM;rw[h1];refine⟨xs,hq,?_⟩;refine(zAO A).step (errS.from x) x.in' w p fun d y G1 H1 S _ fr o p1=>?_
   cases d with
   |int z=>
    cases(show y=.int z from o)
    dsimp only at p1;cases ei:Mi.ixA ds.length z with
    |none=>rw[ei]at p1;exact p1.elim
    |some c=>
     rw[ei]at p1;dsimp only at p1;cases ec:ds[c]? with
     |none=>rw[ec]at p1;exact p1.elim
     |some dc=>
      rw[ec]at p1;dsimp only at p1
      split at p1
      ·rename_i hz
       rw[zNL]at ei;obtain⟨g1,g2,g3,g4⟩:=zIF ei;have hc:c<xs.length:=by rw[kd.len];exact g2
       have hx:xs[c]?=some xs[c]:=qA2 hc;refine⟨xs,c,xs[c],fr.ext.h _ _ hq,⟨by omega,by omega⟩,by rw[kd.len];exact g1,hx,?_⟩;have a1:=a.grow fr.ext.h;have kd1:Kids (Own G H1 k) (As i) q ds xs T:=kd.imp (fun _ _ _ _ w=>w.mono (Same.refl _) fr.ext.h) fun _ z=>z
       have a2:=a1.store (o:=.lst (xs.eraseIdx c)) (n:=k+1) (d:=.lst (ds.eraseIdx c)) (S:=fun b=>As i b/\¬T c b) kd.top h1 ⟨q,_,_,rfl,zAD,zVM (kd1.pop c) fun r=>by split<;>exact kd.out _⟩ fun b z=>.inl z.1
       refine p1 _ G _ _ (a2.put (S:=T c) ((kd1.own c dc _ ec hx).upd (kd.out c)) (fun b hb=>?_) fun l b hl z1 z2=>?_)
       ·obtain⟨n1,n2,n3⟩:=a1.new i b (kd.sub c b hb);refine⟨n1,n2,?_⟩;rw[zAE (fun z:b=q=>kd.out c (z▸hb))];exact n3
       ·try dsimp only at z1
        by_cases z:l=i
        ·rw[if_pos z]at z1;exact z1.2 z2
        ·rw[if_neg z]at z1;exact z (a.dis l i b z1 (kd.sub c b z2))
      ·exact p1.elim
   |_=>exact p1.elim
  |some (.lst ds,0),_,p=>exact p.elim
  |some (.non,_),_,p=>exact p.elim
  |some (.bl _,_),_,p=>exact p.elim
  |some (.int _,_),_,p=>exact p.elim
  |some (.str _,_),_,p=>exact p.elim
  |some (.tup _,_),_,p=>exact p.elim
  |some (.scr _,_),_,p=>exact p.elim
  |some (.exc _ _ _,_),_,p=>exact p.elim
  |some (.ins _ _,_),_,p=>exact p.elim
  |some (.dct _,_),_,p=>exact p.elim
end
end L3
namespace L3
open PySem PySem.Spec
open L2 hiding Rep RepL
open Mi (Dt Xn R okR zA3 optR zA0 zA7 zAB zA9 zAA Rh Sl Ro EM TM AM FM IM SM Tg Out zAP zAN zAT full frz frz1 frzAt)
section
variable[Kc]{mg:Str->Option Value}{E:XK}{L n k l:Nat}{te ta tb:TE}{e ea eb:EM}{t u:TS}{m m':SM}
theorem zVY{G0 H0 S0:Hp}{D:Ends}{g:TG}{tg:Tg}{J:It}{ds:List Dt}{GJ:Hp}(hT:TgOk g tg)(B:DS mg E L t m)(io:ItOk J GJ ds){σ:St}{ρ:Ro}{G H:Hp}{As:Nat->Addr->Prop}(a:Sat G0 H0 S0 σ ρ G H As)(sJ:Same GJ G)
  (p:zEZ mg E G0 H0 S0 L (Mi.forGo tg m ds ρ) D):zSQ g t D σ J H:=by
 refine⟨fun i c σ H=>c=ds.length-i/\i<=ds.length/\∃ρ G As,Sat G0 H0 S0 σ ρ G H As/\Same GJ G/\zEZ mg E G0 H0 S0 L (Mi.forGo tg m (ds.drop i) ρ) D,
  ⟨_,rfl,qAk _,ρ,G,As,a,sJ,by rw[qE6];exact p⟩,?_⟩
 rintro i c σ H ⟨rfl,hi,ρ,G,As,a,sJ,p⟩
 obtain⟨j1,j2,j3⟩:=io i G H sJ a.ext.in'
 by_cases hlt:i<ds.length
 ·refine .inr ⟨j1 hlt,fun σ' H'=>i+1<=ds.length/\∃ρ G As,Sat G0 H0 S0 σ' ρ G H' As/\Same GJ G/\zEZ mg E G0 H0 S0 L (Mi.forGo tg m (ds.drop (i+1)) ρ) D,fun σ' H' q=>⟨ds.length-(i+1),by omega,rfl,q⟩,fun x H2 hy=>?_⟩;have hd:ds[i]?=some ds[i]:=qA2 hlt;obtain⟨G2,x2,r2⟩:=j3 x H2 ds[i] hd hy;rw[qB8 hlt,Mi.forGo]at p;cases eb:zAP tg ds[i]with
  |none=>rw[eb]at p;exact p.elim
  |some bs=>
   rw[eb]at p
   try dsimp only at p
   refine hT G2 H2 _ _ x bs _ x2.in' r2 eb fun ws hb=>?_
   obtain⟨As2,a2⟩:=Sat.puts hb (a.wider x2);have a3:Sat G0 H0 GJ (zFR σ ws) (zAT ρ bs) G2 H2 As2:=⟨a2.ext,sJ.trans x2.g,a2.len,a2.at,a2.dis,a2.new⟩
   have key:∀(S1:Hp),Same S0 S1->Same GJ S1->Sat G0 H0 S1 (zFR σ ws) (zAT ρ bs) G2 H2 As2->t { D with nx:=fun σ' H'=>i+1<=ds.length/\∃ρ G As,Sat G0 H0 S0 σ' ρ G H' As/\Same GJ G/\zEZ mg E G0 H0 S0 L (Mi.forGo tg m (ds.drop (i+1)) ρ) D,ct:=fun σ' H'=>i+1<=ds.length/\∃ρ G As,Sat G0 H0 S0 σ' ρ G H' As/\Same GJ G/\zEZ mg E G0 H0 S0 L (Mi.forGo tg m (ds.drop (i+1)) ρ) D,bk:=D.nx } (zFR σ ws) H2:=by
    intro S1 s1 s2 a4;refine B G0 H0 S1 _ _ G2 H2 As2 _ a4 ?_;have back:∀{σ':St}{ρ':Ro}{G' H':Hp}{As':Nat->Addr->Prop},Sat G0 H0 S1 σ' ρ' G' H' As'->Sat G0 H0 S0 σ' ρ' G' H' As'/\Same GJ G':=fun a5=>⟨⟨a5.ext,s1.trans a5.stb,a5.len,a5.at,a5.dis,a5.new⟩,s2.trans a5.stb⟩
    cases em:m (zAT ρ bs)with
    |none=>rw[em]at p;exact p
    |some r=>
     rw[em]at p;cases r with
     |error y=>exact p
     |ok o=>
      cases o with
      |nx ρ'=>exact fun σ' G' H' As' a5=>⟨hlt,ρ',G',As',(back a5).1,(back a5).2,p⟩
      |ct ρ'=>exact fun σ' G' H' As' a5=>⟨hlt,ρ',G',As',(back a5).1,(back a5).2,p⟩
      |bk ρ'=>exact fun σ' G' H' As' a5=>p σ' G' H' As' (back a5).1
      |rt d=>exact p
   exact key G2 a2.stb (sJ.trans x2.g) ⟨a2.ext,Same.refl _,a2.len,a2.at,a2.dis,a2.new⟩
 ·have e:i=ds.length:=by omega
  subst e;rw[qGh,Mi.forGo]at p;exact .inl ⟨j2 (qA7 _),p σ G H As a⟩
theorem zW5{wi:TI}{it:IM}{g:TG}{tg:Tg}(vs:List Nat){ind:Bool}(I:DI mg E wi it ind)(hT:TgOk g tg)(B:DS mg E L t m):DS mg E L (fun D σ H=>wi σ H (zSQ g t D σ)) (Mi.sFor vs it tg m):=by
 intro G0 H0 S0 σ ρ G H As D a p;obtain⟨G1,As1,a1⟩:=Sat.frzAt vs a;refine I.step (errS.from a1.ext) a1.ext.in' a1.frz p fun ds J G2 H2 _ x2 io p1=>?_
 refine zVY hT B io (a1.wider x2) ?_ p1;unfold zSD
 split
 ·exact fun b o e=>by cases e
 ·exact Same.refl _
theorem zCX{wi:TI}{it:IM}{i:Nat}(I:DI mg E wi it true)(B:DS mg E L t m):DS mg E L (fun D σ H=>wi σ H (zSQ (zEK i) t D σ)) (Mi.sForR it i m):=by
 intro G0 H0 S0 σ ρ G H As D a p;obtain⟨J,x,s,w⟩:=a.full;refine I.step (errS.from x) x.in' w p fun ds J G2 H2 _ x2 io p1=>?_
 exact zVY (zBB i) B io (a.grow x2.h) (fun b o e=>by cases e) p1
theorem zc3{G0 H0 S0:Hp}{D:Ends}{tc:TT}{c:TM}(C:DT mg E tc c)(B:DS mg E L t m)(N:Nat){σ:St}{ρ:Ro}{G H:Hp}{As:Nat->Addr->Prop}(a:Sat G0 H0 S0 σ ρ G H As)(p:zEZ mg E G0 H0 S0 L (Mi.whGo c m N ρ) D):zPR tc t D σ H:=by
 refine⟨fun i σ H=>∃ρ G As,Sat G0 H0 S0 σ ρ G H As/\zEZ mg E G0 H0 S0 L (Mi.whGo c m i ρ) D,⟨N,ρ,G,As,a,p⟩,?_⟩
 rintro i σ H ⟨ρ,G,As,a,p⟩
 cases i with
 |zero=>exact p.elim
 |succ i=>
  obtain⟨J,x,s,w⟩:=a.full;rw[Mi.whGo]at p;refine C.step (errS.from x) x.in' w p fun b H' _ sH p1=>?_
  cases b with
  |false=>exact p1 σ G H' As (a.grow sH)
  |true=>
   rw[if_pos rfl];refine⟨fun σ' H'=>∃ρ G As,Sat G0 H0 S0 σ' ρ G H' As/\zEZ mg E G0 H0 S0 L (Mi.whGo c m i ρ) D,fun σ' H' q=>⟨i,qBv i,q⟩,?_⟩;refine B G0 H0 S0 σ ρ G H' As _ (a.grow sH) ?_;rw[if_pos rfl]at p1;cases em:m ρ with
   |none=>rw[em]at p1;exact p1
   |some r=>
    rw[em]at p1;cases r with
    |error y=>exact p1
    |ok o=>
     cases o with
     |nx ρ'=>exact fun σ' G' H' As' a5=>⟨ρ',G',As',a5,p1⟩
     |ct ρ'=>exact fun σ' G' H' As' a5=>⟨ρ',G',As',a5,p1⟩
     |bk ρ'=>exact fun σ' G' H' As' a5=>p1 σ' G' H' As' a5
     |rt d=>exact p1
theorem zUF{tc:TT}{c:TM}(C:DT mg E tc c)(B:DS mg E L t m):DS mg E L (zPR tc t) (Mi.sWhile c m):=fun G0 H0 S0 σ ρ G H As D a p=>zc3 C B _ a p
theorem dz(A:DE mg E te e 0):DE mg E te e 0:=A
theorem zL6{P N:Nat}{vs:List V}{H:Hp}{Q:VK}{E:XK}(h:spM mg L (Mi.runF P N m) vs H Q E):vs.length=P:=by
 obtain⟨G,ds,s,r,p⟩:=h;rw[r.length];unfold Mi.runF at p
 split at p
 ·rename_i h;exact h
 ·exact p.elim
theorem zB1{P:Nat}{N:List Str}{vs:List V}{H:Hp}{Q:VK}(B:DS mg E L t m)(h:spM mg L (Mi.runF P N.length m) vs H Q E):t { nx:=fun _ H'=>Q .non H',rt:=Q } (L2.start N vs) H:=by
 obtain⟨G,ds,s,r,p⟩:=h;unfold Mi.runF at p
 split at p
 ·refine B G H G _ (Mi.startO N.length ds) G H (fun _ _=>False) _ ⟨Ext.refl s,Same.refl _,?_,fun i d n e=>?_,fun _ _ _ z=>z.elim,fun _ _ z=>z.elim⟩ ?_
  ·unfold Mi.startO L2.start;simp[r.length]
  ·unfold Mi.startO at e
   by_cases hi:i<ds.length
   ·rw[qAa (by simpa using hi),qAh]at e;cases e1:ds[i]? with
    |none=>rw[e1]at e;cases e
    |some d'=>
     rw[e1]at e;cases e;have hv:vs[i]?=some (vs[i]'(by rw[r.length];exact hi)):=by simp
     refine⟨vs[i]'(by rw[r.length];exact hi),?_,zCF r e1 hv⟩;unfold L2.start;rw[qAa (by simpa[r.length]using hi),qAh,hv];rfl
   ·rw[qA8 (by simpa using hi),qBj]at e
    split at e<;>cases e
  ·cases em:m (Mi.startO N.length ds)with
   |none=>rw[em]at p;exact p
   |some r=>
    rw[em]at p;cases r with
    |error y=>exact p
    |ok o=>
     cases o with
     |nx ρ'=>exact fun σ' G' H' As' a=>PostE.val (d:=.non) p a.ext rfl rfl
     |rt d=>exact p
     |bk ρ'=>exact p.elim
     |ct ρ'=>exact p.elim
 ·exact p.elim
end
end L3
namespace L3
open PySem PySem.Spec
open L2 hiding Rep RepL
open Mi (Dt FM okR)
def sp0(K:qA1)(mg:Str->Option Value)(L:Nat)(f:FM):Sp:=fun vs H Q _=>@spM ⟨K⟩ mg L f vs H Q E0
end L3
namespace L3
open PySem PySem.Spec
open L2 hiding Rep RepL
open Mi (Dt Xn R okR zA3 optR zA0 zA7 zAB zA9 zAA Rh Sl Ro EM TM AM FM IM SM OM Tg Out zAP zAN zAT full frz frz1 frzAt)
section
variable[Kc]{mg:Str->Option Value}{E:XK}{L n k l:Nat}{te ta tb:TE}{e ea eb:EM}{t u:TS}{m m':SM}
theorem zbP:CBi (fun xs H Q=>(∃i,xs=[.int i]/\Q (.int i) H)\/∃k,xs=[.bl k]/\Q (.int (if k then 1 else 0)) H) Mi.intD n:=by
 intro mg E G H ds vs Q s h p;cases ds with
 |nil=>exact qA3 p
 |cons hd1 tl1=>
  cases hd1 with
  |int i=>
   cases tl1 with
   |nil=>
    obtain⟨x,rfl,hx⟩:=zCA h
    cases(show x=.int i from hx)
    exact .inl ⟨i,rfl,PostE.val p (Ext.refl s) rfl rfl⟩
   |cons _ _=>exact qA3 p
  |bl b=>
   cases tl1 with
   |nil=>
    obtain⟨x,rfl,hx⟩:=zCA h
    cases(show x=.bl b from hx)
    exact .inr ⟨b,rfl,PostE.val p (Ext.refl s) rfl rfl⟩
   |cons _ _=>exact qA3 p
  |_=>exact qA3 p
theorem zbM{f:List Dt->Option Dt}{g:Int->Int->Int}{r:List V->Hp->VK->Prop}(hr:∀i j H Q,Q (.int (g i j)) H->r [.int i,.int j] H Q)(hf:∀i j,f [.int i,.int j]=some (.int (g i j)))(hn:∀ds,(∀i j,ds≠[.int i,.int j])->f ds=none):CBi r f n:=by
 intro mg E G H ds vs Q s h p
 by_cases hd:∃i j,ds=[.int i,.int j]
 ·obtain⟨i,j,rfl⟩:=hd;obtain⟨x,y,rfl,hx,hy⟩:=zZS h
  cases(show x=.int i from hx)
  cases(show y=.int j from hy)
  rw[hf]at p;exact hr i j H Q (PostE.val p (Ext.refl s) rfl rfl)
 ·rw[hn ds fun i j e=>hd ⟨i,j,e⟩]at p;exact p.elim
theorem zSN{f:List Dt->Option Dt}(h1:f []=none)(h2:∀x,f [x]=none)(h3:∀x y z r,f (x::y::z::r)=none)(h4:∀x y,(∀i j,[x,y]≠[.int i,.int j])->f [x,y]=none):∀ds,(∀i j,ds≠[.int i,.int j])->f ds=none:=by
 intro ds h
 match ds,h with
 |[],_=>exact h1
 |[x],_=>exact h2 x
 |[x,y],h=>exact h4 x y h
 |x::y::z::r,_=>exact h3 x y z r
theorem zbO:CBi (fun xs H Q=>∃i j,xs=[.int i,.int j]/\Q (.int (if j<i then j else i)) H) Mi.minD n:=
 zbM (g:=fun i j=>if j<i then j else i) (fun i j H Q q=>⟨i,j,rfl,q⟩) (fun _ _=>rfl) (zSN rfl (fun x=>by cases x<;>rfl) (fun x y z r=>by cases x<;>cases y<;>rfl) (fun x y h=>by cases x<;>cases y<;>first|rfl|exact absurd rfl (h _ _)))
theorem zGG{G:Hp}{d:Dt}{v:V}(h:Rep G d v)(hd:d.dep=0):zDG v=true:=(zDO (by omega) h).flat (qFo.mp (qAp (zEN (by omega)) (qF0 hd)))
theorem zKD{G:Hp}{d e:Dt}{v u:V}(h:Rep G d v)(h':Rep G e u)(hd:d.dep=0)(he:e.dep=0):eqV v u=Dt.eq d e:=by
 rw[<- zMB (by omega) (by omega)];exact(zDO (by omega) h).flatEq (zDO (by omega) h') (qFo.mp (qAp (zEN (by omega)) (qF0 hd))) (qFo.mp (qAp (zEN (by omega)) (qF0 he)))
theorem zY3{G:Hp}{d:Dt}{v:V}(h:Rep G d v)(hd:d.dep=0):∀{ds:List Dt}{vs:List V},RepL G ds vs->Dt.depL ds=0->vs.all zDG=true/\inV v vs=ds.any fun y=>Dt.eq y d
 |[],vs,r,_=>by cases(show vs=[] from r);exact⟨rfl,rfl⟩
 |e::ds,vs,r,hz=>by
  obtain⟨x,q,rfl,a,b⟩:=r;rw[Dt.depL]at hz;obtain⟨h1,h2⟩:=zY3 h hd b (by omega);have he:e.dep=0:=by omega
  refine⟨by simp[zGG a he,h1],?_⟩;unfold inV at h2 ⊢;rw[qC2,qC2,h2,zKD a h he hd]
theorem zT0{ng:Bool}:ROp (rInU Kc.K ng) (Mi.inD ng) n:=by
 intro mg E G H d e x y Q s h1 h2 p;cases e with
 |lst ys=>
  obtain⟨a,vs,rfl,ha,r⟩:=h2;unfold Mi.inD Mi.hasD at p;dsimp only at p
  by_cases hz:d.dep=0/\Dt.depL ys=0
  ·rw[if_pos hz]at p;obtain⟨g1,g2⟩:=zY3 h1 hz.1 r hz.2;refine⟨vs,.inl (SqL.of (s _ _ ha)),zGG h1 hz.1,g1,?_⟩;rw[g2];exact PostE.val p (Ext.refl s) rfl rfl
  ·rw[if_neg hz]at p;exact p.elim
 |tup ys=>
  obtain⟨a,vs,rfl,ha,r⟩:=h2;unfold Mi.inD Mi.hasD at p;dsimp only at p
  by_cases hz:d.dep=0/\Dt.depL ys=0
  ·rw[if_pos hz]at p;obtain⟨g1,g2⟩:=zY3 h1 hz.1 r hz.2;refine⟨vs,.inr (SqT.of (s _ _ ha)),zGG h1 hz.1,g1,?_⟩;rw[g2];exact PostE.val p (Ext.refl s) rfl rfl
  ·rw[if_neg hz]at p;exact p.elim
 |str z=>
  cases(show y=.str z from h2)
  cases d with
  |str w=>
   cases(show x=.str w from h1)
   obtain⟨⟨wl⟩⟩:=w;cases wl with
   |nil=>exact qA3 p
   |cons c tl1=>
    cases tl1 with
    |nil=>
     have p':PostE mg E G H n (okR (.bl (if ng=true then !decide (c∈z.cps.toList)else decide (c∈z.cps.toList)))) Q:=p;have q:=PostE.val (v:=.bl (if ng=true then !decide (c∈z.cps.toList)else decide (c∈z.cps.toList))) p' (Ext.refl s) rfl rfl;rw[<- StrLaws.found_one z c]at q;exact q
    |cons _ _=>exact qA3 p
  |_=>exact p.elim
 |_=>exact p.elim
def DO(mg:Str->Option Value)(E:XK)(t:TO)(m:OM):Prop:=∀(G H:Hp)(σ:St)(ρ:Rh)(Q:Option Int->Hp->Prop),Same G H->View G σ ρ ->
 (match m ρ with
  |none=>False
  |some (.error x)=>∀c da G' H',Ext G H G' H'->XRep mg x c da G' H'->E c da H'
  |some (.ok o)=>∀H',Same H H'->Q o H')->t σ H Q
theorem DO.step{β:Type}{t:TO}{m:OM}(D:DO mg E t m){G H:Hp}{σ:St}{ρ:Rh}{Q:Option Int->Hp->Prop}{P:R β->Prop}{f:Option Int->R β}(hE:Err mg E G H P)(s:Same G H)(w:View G σ ρ)(p:P (zA3 (m ρ) f))
  (h:∀b H',m ρ=okR b->Same H H'->P (f b)->Q b H'):t σ H Q:=by
 refine D G H σ ρ Q s w ?_;cases e:m ρ with
 |none=>rw[e]at p;exact hE.no p
 |some r=>
  rw[e]at p;cases r with
  |error x=>exact hE.er x p
  |ok b=>exact fun H' sH=>h b H' e sH p
theorem zd0:DO mg E zPT Mi.oNo:=fun G H σ ρ Q s w p=>p H (Same.refl _)
theorem do_e(A:DE mg E te e k):DO mg E (zZF te) (Mi.oE e):=by
 intro G H σ ρ Q s w p;unfold Mi.oE at p;refine(zAO A).step (P:=fun r=>match r with
  |none=>False
  |some (.error x)=>∀c da G' H',Ext G H G' H'->XRep mg x c da G' H'->E c da H'
  |some (.ok o)=>∀H',Same H H'->Q o H') ⟨fun h=>h,fun _ h=>h⟩ s w p fun d v G1 H1 S _ fr o p1=>?_
 cases d with
 |int i=>exact⟨i,o,p1 H1 fr.ext.h⟩
 |_=>exact p1.elim
theorem zNV(n d:Nat)(o:Option Int):Mi.cutIx n d o=HT.sIx n d o:=by cases o<;>rfl
theorem zJQ{G:Hp}:∀{ds:List Dt}{xs:List V}(i:Nat),RepL G ds xs->RepL G (ds.drop i) (xs.drop i)
 |ds,xs,0,r=>by simpa using r
 |[],xs,i+1,r=>by cases(show xs=[] from r);exact rfl
 |d::ds,xs,i+1,r=>by
  obtain⟨x,q,rfl,a,b⟩:=r;exact zJQ i b
theorem zJO{G:Hp}:∀{ds:List Dt}{xs:List V}(i:Nat),RepL G ds xs->RepL G (ds.take i) (xs.take i)
 |ds,xs,0,r=>by simp;exact rfl
 |[],xs,i+1,r=>by cases(show xs=[] from r);exact rfl
 |d::ds,xs,i+1,r=>by
  obtain⟨x,q,rfl,a,b⟩:=r;exact⟨x,_,rfl,a,zJO i b⟩
theorem zT5{G:Hp}{ds:List Dt}{xs:List V}(r:RepL G ds xs)(lo hi:Option Int):RepL G (Mi.cutA ds lo hi) (cutV xs lo hi):=by
 unfold Mi.cutA cutV;rw[zNV,zNV,r.length];exact zJO _ (zJQ _ r)
def RSl(r:V->Option Int->Option Int->Hp->VK->Prop)(n:Nat):Prop:=∀(mg:Str->Option Value)(E:XK)(G H:Hp)(d:Dt)(x:V)(lo hi:Option Int)(Q:VK),Same G H->Rep G d x->PostE mg E G H n (optR (Mi.slD d lo hi)) Q->r x lo hi H Q
theorem zbG{r:V->Option Int->Option Int->Hp->VK->Prop}{tl th:TO}{ml mh:OM}(hr:RSl r n)(A:DE mg E te e k)(B:DO mg E tl ml)(C:DO mg E th mh):DE mg E (tSl r te tl th) (Mi.eSl e ml mh) n:=by
 intro G H σ ρ Q s w p;refine(zAO A).step errE s w p fun d v G1 H1 S _ fr o p1=>?_
 refine B.step (errE.from fr.ext) fr.ext.in' (w.mono fr.ext.g) p1 fun lo H2 _ s2 p2=>?_
 have x2:=fr.ext.trans (Ext.same fr.ext.in' s2);refine C.step (errE.from x2) x2.in' (w.mono fr.ext.g) p2 fun hi H3 _ s3 p3=>?_
 have x3:=x2.trans (Ext.same x2.in' s3);exact hr mg E G1 H3 d v lo hi Q x3.in' o (PostE.from p3 x3)
end
end L3
namespace L3
open PySem PySem.Spec
open L2 hiding Rep RepL
open Mi (Dt Xn R okR zA3 optR zA0 zA7 zAB zA9 zAA Rh Sl Ro EM TM AM FM IM SM OM Tg Out zAP zAN zAT full frz frz1 frzAt)
section
variable[Kc]{mg:Str->Option Value}{E:XK}{L n k l:Nat}{te ta tb:TE}{e ea eb ma:EM}{t:TA}{m:AM}
theorem rs_u:RSl (rSlU Kc.K) 1:=by
 intro mg E G H d x lo hi Q s h p;cases d with
 |lst ds=>
  obtain⟨a,xs,rfl,ha,r⟩:=h;exact⟨xs,SqL.of (s _ _ ha),fun q hq=>PostE.lst p (Ext.refl s) (zT5 r lo hi) hq⟩
 |str z=>
  cases(show x=.str z from h)
  rw[Mi.slD]at p
  by_cases hz:z.length<=100000
  ·rw[if_pos hz]at p;exact⟨big' hz,PostE.val p (Ext.refl s) rfl rfl⟩
  ·rw[if_neg hz]at p;exact p.elim
 |_=>exact p.elim
theorem zbH{tl th:TO}{ml mh:OM}(A:DE mg E te e k)(B:DO mg E tl ml)(C:DO mg E th mh):DE mg E (tSl (rSlU Kc.K) te tl th) (Mi.eSl e ml mh) 1:=zbG rs_u A B C
theorem zaX{G:Hp}(z:Str):ItOk (Its z) G (Mi.signsD z):=by
 intro i G1 H1 s1 s2;have hl:(Mi.signsD z).length=z.cps.size:=by simp[Mi.signsD]
 refine⟨fun hi=>by rw[hl]at hi;exact hi,fun hi=>by rw[hl]at hi;exact hi,fun x H2 d hd hy=>?_⟩;obtain⟨rfl,c,hc,rfl⟩:=hy;refine⟨G1,Ext.refl s2,?_⟩;unfold Mi.signsD at hd;rw[qAh]at hd;have hc':z.cps.toList[i]?=some c:=by simpa using hc
 rw[hc']at hd;cases hd;rfl
theorem zF6(A:DE mg E ta ma k):DI mg E (iAny Kc.K ta) (Mi.iSq ma) false:=by
 intro G H σ ρ Q s w p;refine(zAO A).step errI s w p fun d v G1 H1 S _ fr o p1=>?_
 cases d with
 |lst ds=>
  obtain⟨a,xs,rfl,ha,r⟩:=o;exact .inl ⟨⟨xs,SqL.of (fr.ext.in' _ _ ha)⟩,p1 _ G1 H1 fr.ext (zVS (SqL.of ha) r)⟩
 |tup ds=>
  obtain⟨a,xs,rfl,ha,r⟩:=o;exact .inr ⟨⟨xs,SqT.of (fr.ext.in' _ _ ha)⟩,p1 _ G1 H1 fr.ext (zVQ (SqT.of ha) r)⟩
 |scr ns=>
  obtain⟨a,rfl,ha⟩:=o
  rcases ha with ha|ha
  ·exact .inl ⟨⟨_,fr.ext.in'.seq ha⟩,p1 _ G1 H1 fr.ext (zVS ha (zCL ns))⟩
  ·exact .inr ⟨⟨_,zFT fr.ext.in' ha⟩,p1 _ G1 H1 fr.ext (zVQ ha (zCL ns))⟩
 |str z=>
  cases(show v=.str z from o)
  exact p1 _ G1 H1 fr.ext (zaX z)
 |_=>exact p1.elim
def RMt(r:V->List V->Hp->VK->Prop)(f:Dt->List Dt->Option Dt)(n:Nat):Prop:=∀(mg:Str->Option Value)(E:XK)(G H:Hp)(z:Str)(ds:List Dt)(vs:List V)(Q:VK),Same G H->RepL G ds vs->PostE mg E G H n (optR (f (.str z) ds)) Q->r (.str z) vs H Q
theorem zKF{r:V->List V->Hp->VK->Prop}{f:Dt->List Dt->Option Dt}(hr:RMt r f n)(A:DE mg E te e k)(B:DA mg E t m 0):DE mg E (tBM Kc.K "str" r te t) (Mi.eMt f e m) n:=by
 intro G H σ ρ Q s w p;refine(zAO A).step errE s w p fun d v G1 H1 S _ fr o p1=>?_
 cases d with
 |str z=>
  cases(show v=.str z from o)
  refine⟨rfl,?_⟩;have p2:PostE mg E G H n (zA3 (m ρ) fun xs=>optR (f (.str z) xs)) Q:=p1;refine B.step (errE.from fr.ext) fr.ext.in' (w.mono fr.ext.g) p2 fun ds vs G2 H2 S2 T2 _ fr2 o2 p3=>?_
  exact hr mg E G2 H2 z ds vs Q fr2.ext.in' o2.repL (PostE.from p3 (fr.ext.trans fr2.ext))
 |_=>exact p1.elim
theorem zN0{r:V->List V->Hp->VK->Prop}{f:Dt->List Dt->Option Dt}(hf:∀z ds,(∀c,ds≠[.str ⟨#[c]⟩])->f (.str z) ds=none)
  (hr:∀(mg:Str->Option Value)(E:XK)(G H:Hp)(z:Str)(c:Nat)(Q:VK),Same G H->PostE mg E G H n (optR (f (.str z) [.str ⟨#[c]⟩])) Q->r (.str z) [.str ⟨#[c]⟩] H Q):RMt r f n:=by
 intro mg E G H z ds vs Q s h p
 by_cases hd:∃c,ds=[.str ⟨#[c]⟩]
 ·obtain⟨c,rfl⟩:=hd;obtain⟨x,rfl,hx⟩:=zCA h
  cases(show x=.str ⟨#[c]⟩ from hx)
  exact hr mg E G H z c Q s p
 ·rw[hf z ds fun c e=>hd ⟨c,e⟩]at p;exact p.elim
theorem zFF{f:Dt->List Dt->Option Dt}{z:Str}(h1:f (.str z) []=none)(h2:∀d,(∀y,d≠.str y)->f (.str z) [d]=none)(h3:∀d e r,f (.str z) (d::e::r)=none)(h4:f (.str z) [.str ⟨#[]⟩]=none)(h5:∀a b r,f (.str z) [.str ⟨⟨a::b::r⟩⟩]=none) :
  ∀ds,(∀c,ds≠[.str ⟨#[c]⟩])->f (.str z) ds=none:=by
 intro ds h
 match ds,h with
 |[],_=>exact h1
 |[.str ⟨⟨[]⟩⟩],_=>exact h4
 |[.str ⟨⟨[c]⟩⟩],h=>exact absurd rfl (h c)
 |[.str ⟨⟨a::b::r⟩⟩],_=>exact h5 a b r
 |[.non],_=>exact h2 _ fun _ e=>by cases e
 |[.bl _],_=>exact h2 _ fun _ e=>by cases e
 |[.int _],_=>exact h2 _ fun _ e=>by cases e
 |[.lst _],_=>exact h2 _ fun _ e=>by cases e
 |[.tup _],_=>exact h2 _ fun _ e=>by cases e
 |[.scr _],_=>exact h2 _ fun _ e=>by cases e
 |[.exc _ _ _],_=>exact h2 _ fun _ e=>by cases e
 |[.ins _ _],_=>exact h2 _ fun _ e=>by cases e
 |[.dct _],_=>exact h2 _ fun _ e=>by cases e
 |d::e::r,_=>exact h3 d e r
theorem zX0:RMt zb6 Mi.findD n:=zN0 (fun z=>zFF rfl (fun d h=>by cases d<;>first|rfl|exact absurd rfl (h _)) (fun d e r=>by cases d<;>rfl) rfl fun a b r=>rfl) fun mg E G H z c Q s p=>by
 show Q (.int (Txt.find z ⟨#[c]⟩)) H;rw[zUD];exact PostE.val p (Ext.refl s) rfl rfl
theorem zT2:RMt zWE Mi.countD n:=zN0 (fun z=>zFF rfl (fun d h=>by cases d<;>first|rfl|exact absurd rfl (h _)) (fun d e r=>by cases d<;>rfl) rfl fun a b r=>rfl) fun mg E G H z c Q s p=>by
 show Q (.int (Txt.count z ⟨#[c]⟩)) H;rw[zS6];exact PostE.val p (Ext.refl s) rfl rfl
theorem zHV:RMt zVV Mi.indexD n:=zN0 (fun z=>zFF rfl (fun d h=>by cases d<;>first|rfl|exact absurd rfl (h _)) (fun d e r=>by cases d<;>rfl) rfl fun a b r=>rfl) fun mg E G H z c Q s p=>by
 have p':PostE mg E G H n (optR ((Mi.posC c z.cps.toList).map fun i=>Dt.int (i:Int))) Q:=p;show ∃(i:Nat)(rest:List Nat),Builtin.Str.occurrences z ⟨#[c]⟩ 0 z.length 1=i::rest/\Q (.int i) H;rw[zQQ];cases e:Mi.posC c z.cps.toList with
 |none=>rw[e]at p';exact p'.elim
 |some i=>rw[e]at p';exact⟨i,[],rfl,PostE.val p' (Ext.refl s) rfl rfl⟩
theorem zMU{G:Hp}:∀{ds:List Dt}{zs:List Str}{xs:List V},Mi.strsD ds=some zs->RepL G ds xs->xs=zs.map V.str
 |[],zs,xs,h,r=>by cases h;exact r
 |.str b::ds,zs,xs,h,r=>by
  obtain⟨x,q,rfl,a,c⟩:=r;rw[Mi.strsD]at h;cases e:Mi.strsD ds with
  |none=>rw[e]at h;cases h
  |some cs=>
   rw[e]at h;cases h;rw[zMU e c,show x=.str b from a];rfl
 |.non::_,_,_,h,_=>by simp[Mi.strsD]at h
 |.int _::_,_,_,h,_=>by simp[Mi.strsD]at h
 |.bl _::_,_,_,h,_=>by simp[Mi.strsD]at h
 |.lst _::_,_,_,h,_=>by simp[Mi.strsD]at h
 |.tup _::_,_,_,h,_=>by simp[Mi.strsD]at h
 |.scr _::_,_,_,h,_=>by simp[Mi.strsD]at h
 |.exc _ _ _::_,_,_,h,_=>by simp[Mi.strsD]at h
 |.ins _ _::_,_,_,h,_=>by simp[Mi.strsD]at h
 |.dct _::_,_,_,h,_=>by simp[Mi.strsD]at h
theorem zQ5:RMt zaR Mi.joinD n:=by
 intro mg E G H z ds vs Q s h p;cases ds with
 |nil=>exact qA3 p
 |cons hd1 tl1=>
  cases hd1 with
  |lst es=>
   cases tl1 with
   |nil=>
    obtain⟨x,rfl,a,xs,rfl,ha,ra⟩:=zCA h;have p':PostE mg E G H n (optR (match Mi.strsD es with
     |some zs=>@ite _ ((zs.map (·.length)).sum+zs.length*z.length<=100000) (qA4 _) (some (.str (Str.join z zs))) none
     |none=>none)) Q:=p
    cases e:Mi.strsD es with
    |none=>rw[e]at p';exact p'.elim
    |some zs=>
     rw[e]at p';dsimp only at p'
     split at p'
     ·rename_i hz
      exact⟨zs,by rw[<- zMU e ra];exact s _ _ ha,by omega,PostE.val p' (Ext.refl s) rfl rfl⟩
     ·exact p'.elim
   |cons _ _=>exact qA3 p
  |_=>exact qA3 p
end
end L3
namespace Mi
open PySem
noncomputable section
def noE{α:Type}(r:R α):R α:=match r with
 |some (.ok a)=>okR a
 |_=>none
def eCallN(f:FM)(am:AM):EM:=fun ρ=>zA3 (am ρ) fun ds=>noE (f ds)
def eMkX(c f:Str)(am:AM):EM:=fun ρ=>zA3 (am ρ) fun ds=>match ds with
 |[d]=>okR (.exc c f d)
 |_=>none
def sRaise(c f:Str)(am:AM):SM:=fun r=>zA3 (am (full r)) fun ds=>match ds with
 |[d]=>some (.error ⟨c,f,d⟩)
 |_=>none
def eAtX(hs:List Str)(f:Str)(a:EM):EM:=fun ρ=>zA3 (a ρ) fun d=>match d with
 |.exc c g x=>if c∈hs/\g=f then okR x else none
 |_=>none
def eIsX(ys ns:List Str)(a:EM):EM:=fun ρ=>zA3 (a ρ) fun d=>match d with
 |.exc c _ _=>if c∈ys then okR (.bl true)else if c∈ns then okR (.bl false)else none
 |_=>none
noncomputable def zb2(i:Nat):Out->Out
 |.nx r=>.nx (r.set i none)
 |.rt d=>.rt d
 |.bk r=>.bk (r.set i none)
 |.ct r=>.ct (r.set i none)
end
end Mi
namespace L3
open PySem PySem.Spec
open L2 hiding Rep RepL
open Mi (Dt Xn R okR zA3 optR zA0 zA7 zAB zA9 zAA Rh Sl Ro EM TM AM FM IM SM OM Tg Out zAP zAN zAT full frz frz1 frzAt)
section
variable[Kc]{mg:Str->Option Value}{E:XK}{L n k l:Nat}{te ta tb:TE}{e ea eb ma:EM}{t:TA}{m:AM}
theorem zNU{f:FM}(A:DA mg E t m 0):DE mg E (zJB (spM mg n f) [] E0 t) (Mi.eCallN f m) n:=by
 intro G H σ ρ Q s w p;refine A.step errE s w p fun ds vs G1 H1 S T _ fr o p1=>?_
 refine⟨G1,ds,fr.ext.in',by rw[qCm];exact o.repL,?_⟩;have p2:=PostE.from p1 fr.ext;cases e:f ds with
 |none=>rw[e]at p2;exact p2
 |some r=>
  rw[e]at p2;cases r with
  |error x=>exact p2.elim
  |ok d=>exact p2
def zFQ(K:qA1)(f:Str):Sp:=fun vs H Q _=>∃e C y,vs=[.ref e,y]/\H e=some (xn e (.ref C) none)/\PySem.W.xcIn K C=true/\XSet K C f/\∀d,H d=none->d≠e->Q .non (upd (upd H d (.xd [(f,y)])) e (xn e (.ref C) (some d)))
theorem madeX{G H:Hp}{a e C:Addr}{f:Str}{y:V}{d:Dt}{o:HO}(s:Same G H)(ha:H a=none)(he:H e=none)(hne:a≠e)(r:Rep G d y) :
  Ext G H (upd (upd G a (.xd [(f,y)])) e o) (upd (upd H a (.xd [(f,y)])) e o)/\Rep (upd (upd G a (.xd [(f,y)])) e o) d y:=by
 have sg:Same G (upd (upd G a (.xd [(f,y)])) e o):=fun b u hb=>by
  have h1:b≠e:=fun z=>by rw[z]at hb;rw[s _ _ hb]at he;cases he
  have h2:b≠a:=fun z=>by rw[z]at hb;rw[s _ _ hb]at ha;cases ha
  rw[zAE h1,zAE h2];exact hb
 have sh:Same H (upd (upd H a (.xd [(f,y)])) e o):=fun b u hb=>by
  have h1:b≠e:=fun z=>by rw[z,he]at hb;cases hb
  have h2:b≠a:=fun z=>by rw[z,ha]at hb;cases hb
  rw[zAE h1,zAE h2];exact hb
 refine⟨⟨sg,sh,fun b u hb=>?_,fun b hb=>?_⟩,Rep.mono sg r⟩
 ·by_cases h1:b=e
  ·rw[h1,zAD]at hb;rw[h1,zAD];exact hb
  ·rw[zAE h1]at hb;rw[zAE h1]
   by_cases h2:b=a
   ·rw[h2,zAD]at hb;rw[h2,zAD];exact hb
   ·rw[zAE h2]at hb;rw[zAE h2];exact s _ _ hb
 ·have h1:b≠e:=fun z=>hb (by rw[z];exact he)
  have h2:b≠a:=fun z=>hb (by rw[z];exact ha)
  rw[zAE h1,zAE h2]
theorem zZT{G:Hp}{ds:List Dt}{vs:List V}(r:RepL G ds vs){d:Dt}(h:ds=[d]):∃y,vs=[y]/\Rep G d y:=by
 subst h;obtain⟨x,q,rfl,a,b⟩:=r
 cases(show q=[] from b)
 exact⟨x,rfl,a⟩
theorem zUG{c f:Str}{C:Addr}{E':XK}(hC:clK Kc.K c=some C)(hx:PySem.W.xcIn Kc.K C=true)(hs:XSet Kc.K C f)(A:DA mg E t m 0):DS mg E L (zPS Kc.K E (zMR C (zFQ Kc.K f) E' t)) (Mi.sRaise c f m):=by
 intro G0 H0 S0 σ ρ G H As D a p;obtain⟨J,x,s,w⟩:=a.full;refine A.step (errS.from x) x.in' w p fun ds vs G1 H1 S T _ fr o p1=>?_
 cases ds with
 |nil=>exact qA3 p1
 |cons d tl1=>
  cases tl1 with
  |nil=>
   obtain⟨y,rfl,r⟩:=zZT o.repL rfl;refine⟨by show 1<=sizeLine;decide,fun e he=>⟨e,C,y,rfl,zAD,hx,hs,fun b hb hne=>⟨rfl,e,C,some b,rfl,zAD,hx,?_⟩⟩⟩;have hb':H1 b=none:=by rw[zAE hne]at hb;exact hb
   have hu:upd (upd (upd (upd H1 e (xn e (.ref C) none)) b (.xd [(f,y)])) e (xn e (.ref C) (some b))) e (xo e (.ref C) (some b))=upd (upd H1 b (.xd [(f,y)])) e (xo e (.ref C) (some b)):=by
    funext z
    by_cases h1:z=e
    ·rw[h1,zAD,zAD]
    ·rw[zAE h1,zAE h1,zAE h1]
     by_cases h2:z=b
     ·rw[h2,zAD,zAD]
     ·rw[zAE h2,zAE h2,zAE h1]
   rw[hu];obtain⟨x2,r'⟩:=madeX (C:=C) (f:=f) (o:=xo e (.ref C) (some b)) fr.ext.in' hb' he hne r;exact p1 (.ref e) (some b) _ _ ((x.trans fr.ext).trans x2) ⟨e,C,rfl,zAD,hC,.inr ⟨b,_,y,rfl,by rw[zAE hne,zAD],by simp[qDx],r'⟩⟩
  |cons _ _=>exact qA3 p1
end
end L3
namespace L3
open PySem PySem.Spec
open L2 hiding Rep RepL
open Mi (Dt Xn R okR zA3 optR zA0 zA7 zAB zA9 zAA Rh Sl Ro EM TM AM FM IM SM OM Tg Out zAP zAN zAT full frz frz1 frzAt)
section
variable{K:qA1}{C D:Addr}{dd:Option Addr}{cd:ClassData}{sl:Array (Option Value)}{b:Bool}
def xcD(C:Addr)(cd:ClassData)(sl:Array (Option Value)):Bool:=match cd.mro,sl.toList with
 |.ref C'::bm,[_,_,_,_,some (.builtin n),_]=>C'==C && !cd.hasDel&&PySem.W.excTail bm&&n == "ValueError.__new__" && cd.hasDict
 |_,_=>false
theorem zPI(h:K.lookup C=some ⟨.type "type",dd,.cls cd,sl⟩)(h':xcD C cd sl=true):PySem.W.xcIn K C=true:=by
 unfold PySem.W.xcIn;rw[h];exact h'
theorem zXB(h:qEg K C=some cd)(h':PySem.W.excTail cd.mro=true):PySem.W.excOver K C=true:=by
 unfold PySem.W.excOver;rw[h];exact h'
end
structure XCls(K:qA1)(mg:Str->Option Value)(c:Str)(C:Addr):Prop where
 cl:clK K c=some C
 gm:mg c=some (.ref C)
 is:Xc.XIs K C
structure XIni(P:Program)(w:World)(K:qA1)(mg:Str->Option Value)(base:Heap)(c f:Str)(C:Addr):Prop extends XCls K mg c C where
 kp:qB5 K (.ref C)=true
 st:XSet K C f
 fa:qAo K (.ref C) f=some none
 ini:∃fI fd ps,qAo K (.ref C) "__init__" = some (some (.ref fI))/\qDl K (.ref fI)=true/\FnOk P w K mg base (CXe P w) 1 fI fd ps (zFQ K f)/\Binds K fd ps []
theorem za9{X:Cx}{c f:Str}{C:Addr}{k:Nat}{E:XK}{e:Expr}{es:List Expr}{t:TA}{p pos:Pos}(h:XIni X.prog X.w X.K X.mg X.base c f C)(hr:Room k X.A)(hk:2<=k)(hf:Flies X E)(hg:Gl X c)(ha:PA X (e::es) t)(hdb:(c==("__debug__":Str))=false:=by decide)
  (he:starEach (e::es) X.env=(false,eval e X.env)::starEach es X.env:=by rfl) (hpl:(backTo pos (starEach es X.env)).any (·.1)=false:=by rfl):PE X (.Call (.Name c p) (e::es) [] pos) (zMR C (zFQ X.K f) E t):=by
 obtain⟨fI,fd,ps,h1,h2,F,hb⟩:=h.ini;exact zTE h.is.xc h1 h2 F (hr.mono hk) hb hf.passes hg h.gm h.kp ha hdb he hpl
theorem zU5{K:qA1}{f a0 a1:Str}{vs:List V}{H:Hp}{Q:VK}{E:XK}(h:zFQ K f vs H Q E) :
  tSeq (zGU (zV7 K (zDR (tVar 0) (zDR (tVar 1) tNil)))) (zV8 K (tVar 0) (tVar 1) f) { nx:=fun _ H'=>Q .non H',rt:=Q } (start [a0,a1] vs) H:=by
 obtain⟨e,C,y,rfl,he,hx,hs,q⟩:=h;exact⟨.ref e,rfl,y,rfl,e,C,none,[y],rfl,he,hx,(by show 1<=sizeLine;decide),y,rfl,.ref e,rfl,e,C,rfl,he,hs,q⟩
theorem zU6{K:qA1}{f:Str}{ps:List Str}(hp:ps.length=2):∀vs H Q E,zFQ K f vs H Q E->vs.length=ps.length:=by
 rintro vs H Q E ⟨e,C,y,rfl,_⟩
 rw[hp];rfl
theorem zbL{K:qA1}{c:Str}{C:Addr}(h:qDp K mainGlobals c=some (some (.ref C))):clK K c=some C:=by unfold clK;rw[h]
theorem zcV:qEo (.builtin "ValueError.__init__")=true:=by decide +kernel
noncomputable def zcU:Stmt->Stmt
 |.ClassDef _ _ _ body _ _ _ _ _ _ _=>body.getD 0 (.Pass ⟨0,0,0,0⟩)
 |s=>s
def spE(K:qA1)(mg:Str->Option Value)(L:Nat)(f:Mi.FM):Sp:=fun vs H Q E=>@spM ⟨K⟩ mg L f vs H Q E
section
variable[Kc]{mg:Str->Option Value}{E:XK}{L n k l:Nat}{te ta tb:TE}{e ea eb ma:EM}{t:TA}{m:AM}
theorem zUM{f:FM}{E':XK}(A:DA mg E t m 0):DE mg E (zJB (sp0 Kc.K mg n f) [] E' t) (Mi.eCallN f m) n:=zNU A
theorem zIP{f:FM}(A:DA mg E t m 0):DE mg E (zJB (spE Kc.K mg n f) [] E t) (Mi.eCall f m) n:=zAV A
theorem zRZ{f:FM}(A:DA mg E t m 0):DE mg E (zJB (spE Kc.K mg n f) [] E0 t) (Mi.eCallN f m) n:=zNU A
theorem zRO{P:Program}{w:World}{base:Heap}{c f:Str}{C:Addr}{E':XK}(h:XIni P w Kc.K mg base c f C)(A:DA mg E t m 0):DS mg E L (zPS Kc.K E (zMR C (zFQ Kc.K f) E' t)) (Mi.sRaise c f m):=zUG h.cl h.is.xc h.st A
end
noncomputable def zJG(K:qA1):Sp:=fun vs H Q _=>∃(a:Addr)(ns:List Int),vs=[.ref a]/\SqL K H a (ns.map V.int)/\ns.length<=63/\(∀i∈ns,i.natAbs.log2<2 ^ 20)/\∀H',Q (.bl true) H'
theorem zTV{K:qA1}{mg:Str->Option Value}{L:Nat}{f:FM}(hf:∀ns:List Int,ns.length<=63->(∀i∈ns,i.natAbs.log2<2 ^ 20)->f [.scr ns]=okR (.bl true)):∀vs H Q E,zJG K vs H Q E->sp0 K mg L f vs H Q E:=by
 letI:Kc:=⟨K⟩
 rintro vs H Q E ⟨a,ns,rfl,hS,hl,hw,q⟩
 refine⟨H,[.scr ns],Same.refl _,⟨_,_,rfl,⟨a,rfl,.inl hS⟩,rfl⟩,?_⟩;rw[hf ns hl hw];intro v G' H' S fr o
 cases(show v=.bl true by cases L<;>exact o)
 exact q H'
end L3
namespace Mi
open PySem
section
variable(ρ:Rh)(r:Ro)(a b c:EM)(s t:SM)(q q':TM)(am:AM)
@[simp] theorem x_eC(d:Dt):eC d ρ=okR d:=rfl
@[simp] theorem x_eV(i:Nat):eV i ρ=match ρ[i]? with|some (some d)=>okR d|_=>none:=rfl
@[simp] theorem x_eB(f:Dt->Dt->Option Dt):eB f a b ρ=zA3 (a ρ) fun x=>zA3 (b ρ) fun y=>optR (f x y):=rfl
@[simp] theorem x_eU(f:Dt->Option Dt):eU f a ρ=zA3 (a ρ) fun x=>optR (f x):=rfl
@[simp] theorem zFK:aNil ρ=okR []:=rfl
@[simp] theorem zD5:aCons a am ρ=zA3 (a ρ) fun x=>zA3 (am ρ) fun xs=>okR (x::xs):=rfl
@[simp] theorem zKZ(f:FM):eCall f am ρ=zA3 (am ρ) f:=rfl
@[simp] theorem zZ7(f:List Dt->Option Dt):eBi f am ρ=zA3 (am ρ) fun xs=>optR (f xs):=rfl
@[simp] theorem x_eLst:eLst am ρ=zA3 (am ρ) fun xs=>@ite _ (xs.length<=100000) (qA4 _) (okR (.lst xs)) none:=rfl
@[simp] theorem x_eTup:eTup am ρ=zA3 (am ρ) fun xs=>@ite _ (xs.length<=100000) (qA4 _) (okR (.tup xs)) none:=rfl
@[simp] theorem x_eIsi(n:String):eIsi n a ρ=zA3 (a ρ) fun x=>optR (isiD n x):=rfl
@[simp] theorem x_eAnd:eAnd a b ρ=zA3 (a ρ) fun x=>match x with | .bl k=>if k=true then b ρ else okR (.bl false)|_=>none:=rfl
@[simp] theorem x_eOr:eOr a b ρ=zA3 (a ρ) fun x=>match x with | .bl k=>if k=true then okR (.bl true)else b ρ|_=>none:=rfl
@[simp] theorem x_eNot:eNot a ρ=zA3 (a ρ) fun x=>match x with | .bl k=>okR (.bl (!k))|_=>none:=rfl
@[simp] theorem x_eChain(f g:Dt->Dt->Option Dt):zb9 f g a b c ρ=zA3 (a ρ) fun x=>zA3 (b ρ) fun y=>zA3 (optR (f x y)) fun z=>match z with | .bl k=>if k=true then zA3 (c ρ) fun w=>optR (g y w)else okR (.bl false)|_=>none:=rfl
@[simp] theorem x_eIf:eIf q a b ρ=zA3 (q ρ) fun k=>if k=true then a ρ else b ρ:=rfl
@[simp] theorem x_tB:tB a ρ=zA3 (a ρ) fun x=>match x with | .bl k=>okR k|_=>none:=rfl
@[simp] theorem x_tM:tM a ρ=zA3 (a ρ) fun x=>match x with | .bl k=>okR k | .int i=>okR (i != 0) | .non=>okR false|_=>none:=rfl
@[simp] theorem zZ6:tAn q q' ρ=zA3 (q ρ) fun k=>if k=true then q' ρ else okR false:=rfl
@[simp] theorem zbX:tOr q q' ρ=zA3 (q ρ) fun k=>if k=true then okR true else q' ρ:=rfl
@[simp] theorem zbY:tNo q ρ=zA3 (q ρ) fun k=>okR (!k):=rfl
@[simp] theorem zZ5:tYes ρ=okR true:=rfl
@[simp] theorem zUZ:sNil r=okR (.nx r):=rfl
@[simp] theorem zCI:sSeq s t r=zA3 (s r) fun o=>match o with | .nx ρ'=>t ρ'|o=>okR o:=rfl
@[simp] theorem zJ4:sIf q s t r=zA3 (q (full r)) fun k=>if k=true then s r else t r:=rfl
@[simp] theorem x_sDrop:zcD a r=zA3 (a (full r)) fun _=>okR (.nx r):=rfl
@[simp] theorem x_sBreak:zZN r=okR (.bk r):=rfl
@[simp] theorem x_sCont:zcE r=okR (.ct r):=rfl
@[simp] theorem x_sNever:zZL r=none:=rfl
@[simp] theorem x_sRetN:zcB r=okR (.rt .non):=rfl
@[simp] theorem zPJ(i n:Nat)(vs:List Nat):sSet i n vs a r=zA3 (a (full r)) fun d=>if d.dep<=n then okR (.nx (r.set i (some (d,n))))else zA3 (a (frz (frzAt vs r))) fun d'=>okR (.nx ((frzAt vs r).set i (some (d',n)))):=rfl
@[simp] theorem zUY(L n:Nat)(vs:List Nat):sRet L n vs a r=zA3 (a (full r)) fun d=>if d.dep<=n/\d.dep<=L then okR (.rt d)else if n=L then zA3 (a (frz (frzAt vs r))) fun d'=>okR (.rt d')else none:=rfl
@[simp] theorem x_sRetV(L i:Nat):sRetV L i r=match r[i]? with|some (some (d,k))=>if k=L\/L=0\/(d.dep<=k/\d.dep<=L/\k<1000)then okR (.rt d)else none|_=>none:=rfl
@[simp] theorem x_full_nil:full []=[]:=rfl
@[simp] theorem x_full_cons(o:Option Sl)(r:Ro):full (o::r)=o.map qHm::full r:=rfl
@[simp] theorem x_frz_nil:frz []=[]:=rfl
@[simp] theorem x_frz_none(r:Ro):frz (none::r)=none::frz r:=rfl
@[simp] theorem x_frz_some(d:Dt)(n:Nat)(r:Ro):frz (some (d,n)::r)=(if n=0\/d.dep=0 then some d else none)::frz r:=rfl
@[simp] theorem x_frzAt_nil(r:Ro):frzAt [] r=r:=rfl
@[simp] theorem x_frzAt_cons(i:Nat)(v:List Nat)(r:Ro):frzAt (i::v) r=frzAt v (frz1 i r):=rfl
@[simp] theorem x_frz1(i:Nat)(r:Ro):frz1 i r=match r[i]? with|some (some (d,_))=>r.set i (some (d,0))|_=>r:=rfl
@[simp] theorem x_startO(n:Nat)(ds:List Dt):startO n ds=ds.map (fun d=>some (d,0))++qA9 (n-ds.length) none:=rfl
@[simp] theorem x_runF(P n:Nat)(ds:List Dt):runF P n s ds=if ds.length=P then zA3 (s (startO n ds)) endF else none:=rfl
@[simp] theorem x_end1(r:Ro):endF (.nx r)=okR .non:=rfl
@[simp] theorem x_end2(d:Dt):endF (.rt d)=okR d:=rfl
end
@[simp] theorem v_add(i j:Int):addD (.int i) (.int j)=some (.int (i+j)):=rfl
@[simp] theorem zZ9(i j:Str):addD (.str i) (.str j)=@ite _ (i.length+j.length<=100000) (qA4 _) (some (.str (i++j))) none:=rfl
@[simp] theorem v_addL(i j:List Dt):addD (.lst i) (.lst j)=@ite _ (i.length+j.length<=100000) (qA4 _) (some (.lst (i++j))) none:=rfl
@[simp] theorem v_sub(i j:Int):subD (.int i) (.int j)=some (.int (i-j)):=rfl
@[simp] theorem zWP(i j:Int):mulD (.int i) (.int j)=@ite _ (((-18446744073709551616<i/\i<18446744073709551616)\/(-18446744073709551616<j/\j<18446744073709551616))\/i.natAbs.log2+j.natAbs.log2<=67108864) (qA4 _) (some (.int (i*j))) none:=rfl
@[simp] theorem zSL(i j:Int):divD (.int i) (.int j)=@ite _ (0<j/\j<1000000000000000000000000) (qA4 _) (some (.int (i/j))) none:=rfl
@[simp] theorem v_mod(i j:Int):modD (.int i) (.int j)=if 0<j then some (.int (i%j))else none:=rfl
@[simp] theorem v_pow(i j:Int):powD (.int i) (.int j)=@ite _ (0<=j/\j<=1000000/\i.natAbs<18446744073709551616) (qA4 _) (some (.int (i ^ j.toNat))) none:=rfl
@[simp] theorem v_neg(i:Int):negD (.int i)=some (.int (-i)):=rfl
@[simp] theorem v_cmp(p:Int->Int->Bool)(i j:Int):cmpD p (.int i) (.int j)=some (.bl (p i j)):=rfl
@[simp] theorem v_eq(x y:Dt):eqD x y=if x.dep<=40/\y.dep<=40 then some (.bl (Dt.eq x y))else none:=rfl
@[simp] theorem v_ne(x y:Dt):neD x y=if x.dep<=40/\y.dep<=40 then some (.bl (!Dt.eq x y))else none:=rfl
@[simp] theorem v_is(x:Dt):isD x .non=some (.bl (isNonD x)):=rfl
@[simp] theorem v_isnt(x:Dt):isntD x .non=some (.bl (!isNonD x)):=rfl
@[simp] theorem v_isN1:isNonD .non=true:=rfl
@[simp] theorem v_isN2(i:Int):isNonD (.int i)=false:=rfl
@[simp] theorem v_isN3(i:List Dt):isNonD (.lst i)=false:=rfl
@[simp] theorem v_isN4(i:List Dt):isNonD (.tup i)=false:=rfl
@[simp] theorem v_isN5(i:Str):isNonD (.str i)=false:=rfl
@[simp] theorem v_isN6(i:Bool):isNonD (.bl i)=false:=rfl
@[simp] theorem v_ixL(xs:List Dt)(i:Int):ixD (.lst xs) (.int i)=itA xs i:=rfl
@[simp] theorem zWQ(xs:List Dt)(i:Int):ixD (.tup xs) (.int i)=itA xs i:=rfl
@[simp] theorem v_ixS(ns:List Int)(i:Int):ixD (.scr ns) (.int i)=(itA ns i).map .int:=rfl
@[simp] theorem v_lenL(xs:List Dt):lenD [.lst xs]=some (.int xs.length):=rfl
@[simp] theorem v_lenT(xs:List Dt):lenD [.tup xs]=some (.int xs.length):=rfl
@[simp] theorem v_lenS(ns:List Int):lenD [.scr ns]=some (.int ns.length):=rfl
@[simp] theorem v_listL(xs:List Dt):listD [.lst xs]=some (.lst xs):=rfl
@[simp] theorem v_listT(xs:List Dt):listD [.tup xs]=some (.lst xs):=rfl
@[simp] theorem v_listS(ns:List Int):listD [.scr ns]=some (.lst (ns.map .int)):=rfl
@[simp] theorem v_dn:Dt.non.dep=0:=rfl
@[simp] theorem v_db(b:Bool):(Dt.bl b).dep=0:=rfl
@[simp] theorem v_di(b:Int):(Dt.int b).dep=0:=rfl
@[simp] theorem v_ds(b:Str):(Dt.str b).dep=0:=rfl
@[simp] theorem v_dS(b:List Int):(Dt.scr b).dep=1000:=by rw[Dt.dep]
@[simp] theorem v_dl(xs:List Dt):(Dt.lst xs).dep=Dt.depL xs+1:=by rw[Dt.dep]
@[simp] theorem v_dt(xs:List Dt):(Dt.tup xs).dep=Dt.depL xs+1:=by rw[Dt.dep]
@[simp] theorem v_dnil:Dt.depL []=0:=by rw[Dt.depL]
@[simp] theorem zFM(x:Dt)(r:List Dt):Dt.depL (x::r)=max x.dep (Dt.depL r):=by rw[Dt.depL]
@[simp] theorem v_e1(i j:Int):Dt.eq (.int i) (.int j)=decide (i=j):=by rw[Dt.eq];by_cases h:i=j<;>simp[h]
@[simp] theorem v_e2(i j:Str):Dt.eq (.str i) (.str j)=decide (i=j):=by rw[Dt.eq];by_cases h:i=j<;>simp[h]
@[simp] theorem v_e3(i j:Bool):Dt.eq (.bl i) (.bl j)=decide (i=j):=by rw[Dt.eq];by_cases h:i=j<;>simp[h]
@[simp] theorem v_e4(i j:List Dt):Dt.eq (.lst i) (.lst j)=Dt.eqL i j:=by rw[Dt.eq]
@[simp] theorem v_e5(i j:List Dt):Dt.eq (.tup i) (.tup j)=Dt.eqL i j:=by rw[Dt.eq]
@[simp] theorem v_e6:Dt.eq .non .non=true:=by rw[Dt.eq]
@[simp] theorem zC7:∀(ns:List Int),Dt.depL (ns.map Dt.int)=0
 |[]=>by simp
 |n::r=>by rw[qAi,zFM,zC7 r];rfl
@[simp] theorem zUL:∀(xs ys:List Dt),Dt.depL (xs++ys)=max (Dt.depL xs) (Dt.depL ys)
 |[],ys=>by simp
 |x::r,ys=>by rw[qEt,zFM,zFM,zUL r ys];exact(Nat.max_assoc _ _ _).symm
@[simp] theorem zFI:∀(ns ms:List Int),Dt.eqL (ns.map Dt.int) (ms.map Dt.int)=decide (ns=ms)
 |[],[]=>by simp[Dt.eqL]
 |[],_::_=>by simp[Dt.eqL]
 |_::_,[]=>by simp[Dt.eqL]
 |n::r,m::q=>by rw[qAi,qAi,Dt.eqL,zFI r q,v_e1];simp
theorem zDW{α:Type}{xs:List α}{i:Int}{j:Nat}{v:α}(e:i=(j:Int))(h:xs[j]?=some v):itA xs i=some v:=by
 have hj:j<xs.length:=(qA5.mp h).1;subst e;unfold itA ixA;rw[if_pos (by omega),if_pos (by omega)]
 simpa using h
theorem zNK{n:Nat}{i:Int}(h0:0<=i)(h1:i<n):ixA n i=some i.toNat:=by
 unfold ixA;rw[if_pos h0,if_pos h1]
theorem zU2{ns:List Int}{i:Int}(h0:0<=i)(h1:i<ns.length):itA (ns.map Dt.int) i=some (.int (ns.getD i.toNat 0)):=by
 refine zDW (j:=i.toNat) (by omega) ?_;rw[qAh,qA0,qA2 (by omega)];rfl
theorem zY0{ns:List Int}{i:Int}(h0:0<=i)(h1:i<ns.length):itA ns i=some (ns.getD i.toNat 0):=by
 refine zDW (j:=i.toNat) (by omega) ?_;rw[qA0,qA2 (by omega)];rfl
@[simp] theorem set_int(ns:List Int)(i:Nat)(x:Int):(ns.map Dt.int).set i (.int x)=(ns.set i x).map Dt.int:=by rw[List.map_set]
theorem zO0{ρ:Rh}{k:Nat}{tg:Tg}{c:TM}{e:EM}(f:Dt->Dt):∀(ds acc:List Dt),(∀d∈ds,∃bs,zAP tg d=some bs/\c (zAN (ρ++qA9 k none) bs)=okR true/\e (zAN (ρ++qA9 k none) bs)=okR (f d))->compGo ρ k tg c e ds acc=okR (acc++ds.map f)
 |[],acc,_=>by simp[compGo]
 |d::ds,acc,h=>by
  obtain⟨bs,h1,h2,h3⟩:=h d (by simp);rw[compGo,h1];simp only;rw[h2,zA0,if_pos rfl,h3,zA0,zO0 f ds (acc++[f d]) fun d hd=>h d (by simp[hd])];simp
theorem zBK{ρ:Rh}{k:Nat}{tg:Tg}{c:TM}{e:EM}(p:Dt->Bool)(f:Dt->Dt):∀(ds acc:List Dt),(∀d∈ds,∃bs,zAP tg d=some bs/\c (zAN (ρ++qA9 k none) bs)=okR (p d)/\(p d=true->e (zAN (ρ++qA9 k none) bs)=okR (f d)))->compGo ρ k tg c e ds acc=okR (acc++(ds.filter p).map f)
 |[],acc,_=>by simp[compGo]
 |d::ds,acc,h=>by
  obtain⟨bs,h1,h2,h3⟩:=h d (by simp);rw[compGo,h1];simp only;rw[h2,zA0];cases hp:p d with
  |true=>
   rw[if_pos rfl,h3 hp,zA0,zBK p f ds (acc++[f d]) fun d hd=>h d (by simp[hd])];simp[hp]
  |false=>
   rw[if_neg (by decide),zBK p f ds acc fun d hd=>h d (by simp[hd])];simp[hp]
theorem zLZ{tg:Tg}{b:SM}(Pv:Nat->Ro->Prop):∀(ds:List Dt)(i:Nat)(r:Ro),Pv i r->(∀(j:Nat)(d:Dt)(r:Ro),ds[j]?=some d->Pv (i+j) r->∃bs r',zAP tg d=some bs/\b (zAT r bs)=okR (.nx r')/\Pv (i+j+1) r') ->
  ∃r',forGo tg b ds r=okR (.nx r')/\Pv (i+ds.length) r'
 |[],i,r,h,_=>⟨r,by simp[forGo],by simpa using h⟩
 |d::ds,i,r,h,hs=>by
  obtain⟨bs,r1,h1,h2,h3⟩:=hs 0 d r (by simp) (by simpa using h);obtain⟨r2,h4,h5⟩:=zLZ Pv ds (i+1) r1 (by simpa using h3) fun j e r he hp=>by
   have:=hs (j+1) e r (by simpa using he) (by rw[show i+(j+1)=i+1+j by omega];exact hp)
   rw[show i+1+j+1=i+(j+1)+1 by omega];exact this
  refine⟨r2,?_,by rw[qAu,show i+(ds.length+1)=i+1+ds.length by omega];exact h5⟩;rw[forGo,h1];simp only;rw[h2,zA0];exact h4
theorem zJ5{c:TM}{b:SM}(Pv:Ro->Prop)(μ:Ro->Nat)(Rv:Ro->Prop)(hc:∀r,Pv r->(c (full r)=okR false/\Rv r)\/(c (full r)=okR true/\∃r',b r=okR (.nx r')/\Pv r'/\μ r'<μ r)) :
  ∀(m:Nat)(r:Ro),Pv r->μ r<m->∃r',whGo c b m r=okR (.nx r')/\Rv r'
 |0,r,_,h=>by omega
 |m+1,r,h,hm=>by
  rw[whGo]
  rcases hc r h with⟨h1,h2⟩|⟨h1,r1,h2,h3,h4⟩
  ·rw[h1,zA0,if_neg (by decide)];exact⟨r,rfl,h2⟩
  ·rw[h1,zA0,if_pos rfl,h2,zA0];exact zJ5 Pv μ Rv hc m r1 h3 (by omega)
theorem zOH{c:TM}{b:SM}(Pv:Ro->Prop)(μ:Ro->Nat)(Rv:Ro->Prop){r:Ro}(h0:Pv r)(hm:μ r<1000000)(hc:∀r,Pv r->(c (full r)=okR false/\Rv r)\/(c (full r)=okR true/\∃r',b r=okR (.nx r')/\Pv r'/\μ r'<μ r)):∃r',sWhile c b r=okR (.nx r')/\Rv r':=
 zJ5 Pv μ Rv hc WN r h0 (by rw[zd5];exact hm)
end Mi
namespace Mi
open PySem
section
variable(ρ:Rh)(r:Ro)(a:EM)(am:AM)(s:SM)
@[simp] theorem x_noE_ok{α:Type}(x:α):noE (okR x)=okR x:=rfl
@[simp] theorem x_noE_none{α:Type}:noE (none:R α)=none:=rfl
@[simp] theorem x_noE_err{α:Type}(e:Xn):noE (some (.error e):R α)=none:=rfl
@[simp] theorem x_eCallN(f:FM):eCallN f am ρ=zA3 (am ρ) fun ds=>noE (f ds):=rfl
@[simp] theorem x_eMkX(c f:Str):eMkX c f am ρ=zA3 (am ρ) fun ds=>match ds with|[d]=>okR (.exc c f d)|_=>none:=rfl
@[simp] theorem x_sRaise(c f:Str):sRaise c f am r=zA3 (am (full r)) fun ds=>match ds with|[d]=>some (.error ⟨c,f,d⟩)|_=>none:=rfl
@[simp] theorem x_eAtX(hs:List Str)(f:Str):eAtX hs f a ρ=zA3 (a ρ) fun d=>match d with | .exc c g x=>if c∈hs/\g=f then okR x else none|_=>none:=rfl
@[simp] theorem x_eIsX(ys ns:List Str):eIsX ys ns a ρ=zA3 (a ρ) fun d=>match d with | .exc c _ _=>if c∈ys then okR (.bl true)else if c∈ns then okR (.bl false)else none|_=>none:=rfl
@[simp] theorem x_gone_nx(i:Nat):zb2 i (.nx r)=.nx (r.set i none):=rfl
@[simp] theorem x_gone_rt(i:Nat)(d:Dt):zb2 i (.rt d)=.rt d:=rfl
end
example (d:Dt):True:=trivial
end Mi
namespace L2
open PySem PySem.Spec PyProof.Rows
section
variable{X:Cx}
noncomputable def zZV:R2:=fun x y H Q=>match x,y with
 |.int i,.int j=>Q (.int (Builtin.bitXor i j)) H
 |_,_=>False
theorem zc7:OpR X (binaryOp .BitXor) zZV:=by
 intro pins s σ H x y v u Q I rx ry h;cases x<;>cases y<;>first
  |exact zaB pins s σ H _ _ v u Q I rx ry ⟨_,_,rfl,rfl,h⟩
  |exact qA3 h
def rRepU:R2:=fun x y H Q=>match x,y with
 |.ref l,.int k=>∃xs,H l=some (.lst xs)/\(-(2 ^ 63)<=k/\k<2 ^ 63)/\xs.length*k.toNat<=sizeLine/\∀p,H p=none->Q (.ref p) (upd H p (.lst (qA9 k.toNat xs).flatten))
 |_,_=>False
noncomputable def bL(K:qA1)(t:TE):TT:=fun σ H Q=>t σ H fun x H'=>match x with
 |.bl k=>Q k H'
 |.int i=>Q (i != 0) H'
 |.non=>Q false H'
 |.ref p=>∃xs,(SqL K H' p xs\/SqT K H' p xs)/\Q (!xs.isEmpty) H'
 |_=>False
theorem pt_l{K:qA1}{a:Expr}{ta:TE}(ha:PE X a ta)(he:∀whole,isTrue a X.env whole=(do let v <- whole;standAt a.pos;holding [v] (truthy v)):=by intro _;rfl)(hK:X.K=K:=by rfl):PT X a (bL K ta):=by
 subst hK;intro pins s σ H Q I h;refine isTrue_plain (thn (ha pins s σ H _ I h) fun v s1 z0=>?_) (he _);obtain⟨x,H1,I1,r1,q1⟩:=z0;refine thn (zV4 pins s1 σ H1 x v Q I1 r1 ?_) fun _ _ q=>q
 cases x with
 |bl k=>exact⟨k,rfl,q1⟩
 |int i=>exact⟨_,rfl,q1⟩
 |non=>exact⟨_,rfl,q1⟩
 |ref p=>
  obtain⟨xs,h1|h1,h2⟩:=q1
  ·exact⟨_,.inl ⟨xs,h1,rfl⟩,h2⟩
  ·exact⟨_,.inr (.inl ⟨xs,h1,rfl⟩),h2⟩
 |_=>exact qA3 q1
def extM:V->List V->Hp->VK->Prop:=fun x vs H Q=>match x,vs with
 |.ref l,[.ref b]=>∃xs zs,H l=some (.lst xs)/\H b=some (.lst zs)/\xs.length+zs.length<=sizeLine/\Q .non (upd H l (.lst (xs++zs)))
 |_,_=>False
theorem zLP:MtR X "list.extend" extM:=by
 intro pins s σ H x vs v us Q I rx rv h;cases x with
 |ref l=>
  cases vs with
  |nil=>exact qA3 h
  |cons hd1 tl1=>
   cases hd1 with
   |ref b=>
    cases tl1 with
    |nil=>
     obtain⟨xs,zs,h1,h2,h3,h4⟩:=h;exact zQV pins s σ H _ _ v us Q I rx rv ⟨l,b,xs,zs,rfl,rfl,h1,h2,h3,h4⟩
    |cons _ _=>exact qA3 h
   |_=>exact qA3 h
 |_=>exact qA3 h
end
section
variable{X:Cx}{K:qA1}
end
end L2
namespace Mi
open PySem
noncomputable section
noncomputable def xorD:Dt->Dt->Option Dt
 |.int i,.int j=>some (.int (Builtin.bitXor i j))
 |_,_=>none
noncomputable def repD:Dt->Dt->Option Dt
 |.lst xs,.int k=>@ite _ ((-4611686018427387904<=k/\k<4611686018427387904)/\xs.length*k.toNat<=100000) (qA4 _) (some (.lst (qA9 k.toNat xs).flatten)) none
 |_,_=>none
def tL(a:EM):TM:=fun ρ=>zA3 (a ρ) fun x=>match x with
 |.bl k=>okR k
 |.int i=>okR (i != 0)
 |.non=>okR false
 |.lst xs=>okR (!xs.isEmpty)
 |.tup xs=>okR (!xs.isEmpty)
 |_=>none
def iRv(e:AM):IM:=fun ρ=>zA3 (e ρ) fun vs=>match vs with
 |[.lst xs]=>okR xs.reverse
 |_=>none
def eMl(f:List Dt->List Dt->Option Dt)(a:EM)(am:AM):EM:=fun ρ=>zA3 (a ρ) fun x=>match x with
 |.lst xs=>zA3 (am ρ) fun ds=>optR (f xs ds)
 |_=>none
def sExt(i n:Nat)(e:EM):SM:=fun ρ=>match ρ[i]? with
 |some (some (.lst ds,k+1))=>zA3 (e (full ρ)) fun d=>match d with
  |.lst es=>@ite _ (ds.length+es.length<=100000/\Dt.depL es<=n/\Dt.depL es<=k) (qA4 _) (okR (.nx (ρ.set i (some (.lst (ds++es),k+1))))) none
  |_=>none
 |_=>none
noncomputable def low(i:Nat)(ρ:Ro):Ro:=match ρ[i]? with
 |some (some (.lst ds,_+1))=>ρ.set i (some (.lst ds,1))
 |_=>ρ
def sAppF(i:Nat)(vs:List Nat)(e:EM):SM:=fun ρ=>match(frzAt vs (low i ρ))[i]? with
 |some (some (.lst ds,1))=>zA3 (e (frz (frzAt vs (low i ρ)))) fun d=>@ite _ (ds.length<=100000) (qA4 _) (okR (.nx ((frzAt vs (low i ρ)).set i (some (.lst (ds++[d]),1))))) none
 |_=>none
def sItemF(i:Nat)(vs:List Nat)(e1 e2:EM):SM:=fun ρ=>zA3 (e2 (frz (frzAt vs (low i ρ)))) fun d=>match(frzAt vs (low i ρ))[i]? with
 |some (some (.lst ds,1))=>zA3 (e1 (full (frzAt vs (low i ρ)))) fun z=>match z with
  |.int z=>match ixA ds.length z with
   |some q=>okR (.nx ((frzAt vs (low i ρ)).set i (some (.lst (ds.set q d),1))))
   |none=>none
  |_=>none
 |_=>none
def sItemS(i:Nat)(e1 e2:EM):SM:=fun ρ=>match(low i ρ)[i]? with
 |some (some (.lst ds,1))=>zA3 (e2 (full (low i ρ))) fun y=>match y with
  |.int y=>match itA ds y with
   |some d=>zA3 (e1 (full (low i ρ))) fun z=>match z with
    |.int z=>match ixA ds.length z with
     |some q=>okR (.nx ((low i ρ).set i (some (.lst (ds.set q d),1))))
     |none=>none
    |_=>none
   |none=>none
  |_=>none
 |_=>none
end
end Mi
namespace L3
open PySem PySem.Spec
open L2 hiding Rep RepL
open Mi (Dt Xn R okR zA3 optR zA0 zA7 zAB zA9 zAA Rh Sl Ro EM TM AM FM IM SM Tg Out zAP zAN zAT full frz frz1 frzAt)
section
variable[Kc]{mg:Str->Option Value}{E:XK}{L n k l:Nat}{te ta tb:TE}{e ea eb ma:EM}{t:TA}{m:AM}
theorem zZP:ROp zZV Mi.xorD n:=by
 intro mg E G H d e x y Q s h1 h2 p;cases d with
 |int i=>
  cases e with
  |int j=>cases(show x=.int i from h1);cases(show y=.int j from h2);exact zT7 s p rfl rfl rfl
  |_=>exact p.elim
 |_=>exact p.elim
theorem zGD{G:Hp}{ds:List Dt}{xs:List V}(r:RepL G ds xs):(!xs.isEmpty) = !ds.isEmpty:=by
 have:=r.length
 cases xs<;>cases ds<;>simp_all
theorem dt_l(A:DE mg E ta ma k):DT mg E (bL Kc.K ta) (Mi.tL ma):=by
 intro G H σ ρ Q s w p;refine(zAO A).step errT s w p fun d v G1 H1 S _ fr o p1=>?_
 cases d with
 |bl b=>cases(show v=.bl b from o);exact p1 H1 fr.ext.h
 |int b=>cases(show v=.int b from o);exact p1 H1 fr.ext.h
 |non=>cases(show v=.non from o);exact p1 H1 fr.ext.h
 |lst ds=>
  obtain⟨a,xs,rfl,ha,r⟩:=o;refine⟨xs,.inl (SqL.of (fr.ext.in' _ _ ha)),?_⟩;rw[zGD r];exact p1 H1 fr.ext.h
 |tup ds=>
  obtain⟨a,xs,rfl,ha,r⟩:=o;refine⟨xs,.inr (SqT.of (fr.ext.in' _ _ ha)),?_⟩;rw[zGD r];exact p1 H1 fr.ext.h
 |_=>exact p1.elim
def RMl(r:V->List V->Hp->VK->Prop)(f:List Dt->List Dt->Option Dt)(n:Nat):Prop:=∀(mg:Str->Option Value)(E:XK)(G H:Hp)(a:Addr)(es ds:List Dt)(xs vs:List V)(Q:VK),Same G H->G a=some (.lst xs)->RepL G es xs->RepL G ds vs->PostE mg E G H n (optR (f es ds)) Q->r (.ref a) vs H Q
theorem zd4{r:V->List V->Hp->VK->Prop}{f:List Dt->List Dt->Option Dt}(hr:RMl r f n)(A:DE mg E te e k)(B:DA mg E t m 0):DE mg E (tML r te t) (Mi.eMl f e m) n:=by
 intro G H σ ρ Q s w p;refine(zAO A).step errE s w p fun d v G1 H1 S _ fr o p1=>?_
 cases d with
 |lst es=>
  obtain⟨a,xs,rfl,ha,ra⟩:=o;refine⟨xs,fr.ext.in' _ _ ha,?_⟩;have p2:PostE mg E G H n (zA3 (m ρ) fun ds=>optR (f es ds)) Q:=p1;refine B.step (errE.from fr.ext) fr.ext.in' (w.mono fr.ext.g) p2 fun ds vs G2 H2 S2 T2 _ fr2 o2 p3=>?_
  exact hr mg E G2 H2 a es ds xs vs Q fr2.ext.in' (fr2.ext.g _ _ ha) (RepL.mono fr2.ext.g ra) o2.repL (PostE.from p3 (fr.ext.trans fr2.ext))
 |_=>exact p1.elim
end
end L3
namespace L3
open PySem PySem.Spec
open L2 hiding Rep RepL
open Mi (Dt Xn R okR zA3 optR zA0 zA7 zAB zA9 zAA Rh Sl Ro EM TM AM FM IM SM Tg Out zAP zAN zAT full frz frz1 frzAt)
section
variable[Kc]{G0 H0 S0:Hp}{σ:St}{ρ:Ro}{G H:Hp}{As:Nat->Addr->Prop}
theorem Sat.low(a:Sat G0 H0 S0 σ ρ G H As)(i:Nat):∃G1 As1,Sat G0 H0 S0 σ (Mi.low i ρ) G1 H As1:=by
 unfold Mi.low
 split
 ·rename_i ds k e1
  obtain⟨v,h1,q,xs,T,rfl,hq,kd⟩:=a.at i _ _ e1;obtain⟨s1,s2⟩:=zC5 (S:=fun b=>∃r,T r b) a.ext.in';have ui:∀b,(∃r,T r b)->As i b:=fun b ⟨r,z⟩=>kd.sub r b z
  have x:Ext G0 H0 (over G H fun b=>∃r,T r b) H:=⟨a.ext.g.trans s1,a.ext.h,s2,fun b hb=>by
   have z:¬ ∃r,T r b:=fun z=>hb (a.new i b (ui b z)).1
   rw[zBL z];exact a.ext.old b hb⟩
  refine⟨over G H fun b=>∃r,T r b,fun j b=>As j b/\¬ ∃r,T r b,x,a.stb.trans s1,by simp[a.len],fun j e n h=>?_,fun j l b p q=>a.dis j l b p.1 q.1,fun j b p=>?_⟩
  ·have hj:j<ρ.length:=by
    have:=(qA5.mp h).1
    simpa using this
   by_cases z:i=j
   ·subst z;rw[qAj hj]at h;cases h;exact⟨.ref q,h1,q,xs,fun _ _=>False,rfl,hq,⟨kd.len,fun r d x g1 g2=>(kd.own r d x g1 g2).rep s1 fun b o hb e=>by rw[zD9 ⟨r,hb⟩];exact e,⟨kd.top,fun⟨r,z⟩=>kd.out r z⟩,fun _ z=>z,fun _ _ _ z=>z.elim,fun _ _ z=>z.elim⟩⟩
   ·rw[qAq z]at h;obtain⟨u,q1,q2⟩:=a.at j e n h;exact⟨u,q1,(q2.mono s1 (Same.refl _)).sub fun b hb=>⟨hb,fun w=>z (a.dis i j b (ui b w) hb)⟩⟩
  ·obtain⟨n1,n2,n3⟩:=a.new j b p.1;exact⟨n1,by rw[zBL p.2];exact n2,n3⟩
 ·exact⟨G,As,a⟩
end
section
variable[Kc]{mg:Str->Option Value}{E:XK}{L n k l:Nat}{te ta tb:TE}{e ea eb ma:EM}{t:TA}{m:AM}
theorem zYH(i:Nat)(vs:List Nat)(A:DE mg E te e n):DS mg E L (zGU (tML appM (vM i) (zDR te tNil))) (Mi.sAppF i vs e):=by
 intro G0 H0 S0 σ ρ G H As D a p;obtain⟨G1,As1,a1⟩:=a.low i;obtain⟨G2,As2,a2⟩:=Sat.frzAt vs a1;unfold Mi.sAppF at p
 generalize hρ:frzAt vs (Mi.low i ρ)=ρ2 at p a2
 split at p
 ·rename_i ds e1
  obtain⟨v,h1,q,xs,T,rfl,hq,kd⟩:=a2.at i _ _ e1;unfold zGU tML vM;rw[h1];refine⟨xs,hq,?_⟩;refine(zAO A).step (errS.from a2.ext) a2.ext.in' a2.frz p fun d y G3 H3 S _ fr o p1=>?_
  split at p1
  ·rename_i hz
   refine⟨xs,fr.ext.h _ _ hq,by rw[kd.len];exact L2.big (by omega),?_⟩;have a3:=a2.wider fr.ext;have kd1:Kids (Own G3 H3 0) (As2 i) q ds xs T:=kd.imp (fun _ _ _ _ w=>w.mono fr.ext.g fr.ext.h) fun _ z=>z
   refine p1 σ G3 _ _ (a3.store (S:=As2 i) kd.top h1 ⟨q,_,fun _ _=>False,rfl,zAD,⟨by simp[kd.len],fun r d' z g1 g2=>?_,kd.top,fun _ z=>z,fun _ _ _ z=>z.elim,fun _ _ z=>z.elim⟩⟩ fun b z=>.inl z)
   by_cases hr:r<ds.length
   ·rw[qAa hr]at g1;rw[qAa (by rw[kd.len];exact hr)]at g2;exact kd1.own r d' z g1 g2
   ·rw[qA8 (by omega)]at g1;rw[qA8 (by rw[kd.len];omega),kd.len]at g2;have hq0:r-ds.length=0:=by
     have:=(qA5.mp g1).1
     simp at this;omega
    rw[hq0]at g1 g2;simp at g1 g2;subst g1;subst g2;exact o
  ·exact p1.elim
 ·exact p.elim
theorem zUI(i:Nat)(vs:List Nat){n1:Nat}{t1 t2:TE}{e1 e2:EM}(A:DE mg E t1 e1 n1)(B:DE mg E t2 e2 n):DS mg E L (tAsg t2 (gSub (vM i) t1 setM)) (Mi.sItemF i vs e1 e2):=by
 intro G0 H0 S0 σ ρ G H As D a p;obtain⟨G1,As1,a1⟩:=a.low i;obtain⟨G2,As2,a2⟩:=Sat.frzAt vs a1;unfold Mi.sItemF at p
 generalize hρ:frzAt vs (Mi.low i ρ)=ρ2 at p a2
 refine(zAO B).step (errS.from a2.ext) a2.ext.in' a2.frz p fun d y G3 H3 S _ fr o p1=>?_
 have a3:=a2.wider fr.ext
 split at p1
 ·rename_i ds er
  obtain⟨v,h1,q,xs,T,rfl,hq,kd⟩:=a3.at i _ _ er;unfold gSub vM;rw[h1];obtain⟨J,x,s,w⟩:=a3.full;refine(zAO A).step (errS.from x) x.in' w p1 fun z u G4 H4 S2 ee fr2 o2 p2=>?_
  split at p2
  ·rename_i z
   cases(show u=.int z from o2)
   split at p2
   ·rename_i c ei
    rw[zNL]at ei;refine⟨xs,c,fr2.ext.h _ _ hq,by rw[kd.len];exact ei,?_⟩;have a4:=a3.grow fr2.ext.h;refine p2 σ G3 _ _ (a4.store (S:=As2 i) kd.top h1 ⟨q,_,fun _ _=>False,rfl,zAD,⟨by simp[kd.len],fun r d' z' g1 g2=>?_,kd.top,fun _ z=>z,fun _ _ _ z=>z.elim,fun _ _ z=>z.elim⟩⟩ fun b z=>.inl z)
    by_cases hr:c=r
    ·subst hr;have hc:c<ds.length:=by
      have:=(qA5.mp g1).1
      simpa using this
     rw[qAj hc]at g1;rw[qAj (by rw[kd.len];exact hc)]at g2;cases g1;cases g2;exact o
    ·rw[qAq hr]at g1 g2;exact kd.own r d' z' g1 g2
   ·exact p2.elim
  ·exact p2.elim
 ·exact p1.elim
theorem zUH(i:Nat){n1 n2:Nat}{t1 t2:TE}{e1 e2:EM}(A:DE mg E t1 e1 n1)(B:DE mg E t2 e2 n2):DS mg E L (tAsg (tOp (rIxU Kc.K) (vM i) t2) (gSub (vM i) t1 setM)) (Mi.sItemS i e1 e2):=by
 intro G0 H0 S0 σ ρ G H As D a p;obtain⟨G1,As1,a2⟩:=a.low i;unfold Mi.sItemS at p
 generalize hρ:Mi.low i ρ=ρ2 at p a2
 split at p
 ·rename_i ds er
  obtain⟨v,h1,q,xs,T,rfl,hq,kd⟩:=a2.at i _ _ er;unfold tAsg tOp vM;rw[h1];obtain⟨J,x,s,w⟩:=a2.full;refine(zAO B).step (errS.from x) x.in' w p fun z u G4 H4 S2 ee fr2 o2 p2=>?_
  split at p2
  ·rename_i y
   cases(show u=.int y from o2)
   split at p2
   ·rename_i d ed
    have ed':=ed;unfold Mi.itA at ed;cases ej:Mi.ixA ds.length y with
    |none=>rw[ej]at ed;cases ed
    |some j=>
     rw[ej]at ed;have edj:ds[j]?=some d:=ed;have hj:j<xs.length:=by rw[kd.len];exact(qA5.mp edj).1
     refine⟨xs,xs[j],.inl (SqL.of (fr2.ext.h _ _ hq)),?_,?_⟩
     ·rw[<- zRC];unfold Mi.itA;rw[kd.len,ej];exact qA2 hj
     have a3:=a2.grow fr2.ext.h;obtain⟨J3,x3,s3,w3⟩:=a3.full;unfold gSub;dsimp only;rw[h1];refine(zAO A).step (errS.from x3) x3.in' w3 p2 fun z u G5 H5 S3 ee3 fr3 o3 p3=>?_
     split at p3
     ·rename_i z
      cases(show u=.int z from o3)
      split at p3
      ·rename_i c ei
       rw[zNL]at ei;refine⟨xs,c,fr3.ext.h _ _ (fr2.ext.h _ _ hq),by rw[kd.len];exact ei,?_⟩;have a4:=a3.grow fr3.ext.h;refine p3 σ G1 _ _ (a4.store (S:=As1 i) kd.top h1 ⟨q,_,fun _ _=>False,rfl,zAD,⟨by simp[kd.len],fun r d' z' g1 g2=>?_,kd.top,fun _ z=>z,fun _ _ _ z=>z.elim,fun _ _ z=>z.elim⟩⟩ fun b z=>.inl z)
       by_cases hr:c=r
       ·subst hr;have hc:c<ds.length:=by
         have:=(qA5.mp g1).1
         simpa using this
        rw[qAj hc]at g1;rw[qAj (by rw[kd.len];exact hc)]at g2;cases g1;cases g2;exact kd.own j d _ edj (qA2 hj)
       ·rw[qAq hr]at g1 g2;exact kd.own r d' z' g1 g2
      ·exact p3.elim
     ·exact p3.elim
   ·exact p2.elim
  ·exact p2.elim
 ·exact p.elim
theorem zW6(i:Nat)(A:DE mg E te e (n+1))(hn:n<1000:=by decide):DS mg E L (zGU (tML extM (vM i) (zDR te tNil))) (Mi.sExt i n e):=by
 intro G0 H0 S0 σ ρ G H As D a p;obtain⟨J,x,s,w⟩:=a.full;unfold Mi.sExt at p
 split at p
 ·rename_i ds k e1
  obtain⟨v,h1,q,xs,T,rfl,hq,kd⟩:=a.at i _ _ e1;unfold zGU tML vM;rw[h1];refine⟨xs,hq,?_⟩;refine A.step (errS.from x) x.in' w p fun d y G1 H1 S _ fr o p1=>?_
  split at p1
  ·rename_i es
   obtain⟨b0,zs,T2,rfl,hb0,kd2⟩:=o
   split at p1
   ·rename_i hz
    refine⟨xs,zs,fr.ext.h _ _ hq,hb0,by rw[kd.len,kd2.len];exact big' (by omega),?_⟩;have hp:=kd.top;have a1:=a.grow fr.ext.h;have q2:∀b,S b->H b=none/\G b=none/\H1 b≠none:=fun b hb=>let⟨n1,n2,n3⟩:=fr.new b hb;⟨n1,a.ext.in'.free n1,n3⟩
    have nS:∀r,¬T2 r q:=fun r z=>(a.new i q hp).2.2 (q2 q (kd2.sub r q z)).1
    have ap:∀r r' b,T r b->T2 r' b->False:=fun r r' b h1 h2=>(a.new i b (kd.sub r b h1)).2.2 (q2 b (kd2.sub r' b h2)).1
    refine p1 σ G _ _ (a1.store (S:=fun b=>As i b\/∃r,T2 r b) hp h1 ⟨q,_,fun r b=>(r<ds.length/\T r b)\/(ds.length<=r/\T2 (r-ds.length) b),rfl,zAD,⟨by simp[kd.len,kd2.len],fun r d' z g1 g2=>?_,.inl hp,fun r z=>?_,fun r r' b z1 z2=>?_,fun r b z=>?_⟩⟩ fun b z=>?_)
    ·by_cases hr:r<ds.length
     ·rw[qAa hr]at g1;rw[qAa (by rw[kd.len];exact hr)]at g2;exact(((kd.own r d' z g1 g2).mono (Same.refl _) fr.ext.h).upd (kd.out r)).sub fun b z=>.inl ⟨hr,z⟩
     ·rw[qA8 (by omega)]at g1;rw[qA8 (by rw[kd.len];omega),kd.len]at g2;exact(((kd2.own _ d' z g1 g2).at (zDI hz.2.1 g1) (zDI hz.2.2 g1) hn).upd (nS _)).sub fun b z=>.inr ⟨by omega,z⟩
    ·rcases z with⟨_,z⟩|⟨_,z⟩
     ·exact kd.out r z
     ·exact nS _ z
    ·rcases z1 with⟨c1,t1⟩|⟨c1,t1⟩<;>rcases z2 with⟨c2,t2⟩|⟨c2,t2⟩
     ·exact kd.dis r r' b t1 t2
     ·exact(ap _ _ b t1 t2).elim
     ·exact(ap _ _ b t2 t1).elim
     ·have:=kd2.dis _ _ b t1 t2;omega
    ·rcases z with⟨_,z⟩|⟨_,z⟩
     ·exact .inl (kd.sub r b z)
     ·exact .inr ⟨_,z⟩
    ·rcases z with z|⟨r,z⟩
     ·exact .inl z
     ·obtain⟨n1,n2,n3⟩:=q2 b (kd2.sub r b z);exact .inr ⟨a.ext.h.free n1,n2,n3,fun j y=>(a.new j b y).2.2 n1⟩
   ·exact p1.elim
  ·exact p1.elim
 ·exact p.elim
end
end L3
namespace L3
open PySem PySem.Spec
open L2 hiding Rep RepL
open Mi (Dt Xn R okR zA3 optR zA0 zA7 zAB zA9 zAA Rh Sl Ro EM TM AM FM IM SM Tg Out zAP zAN zAT full frz frz1 frzAt)
structure XNo(K:qA1)(mg:Str->Option Value)(c:Str)(C:Addr):Prop extends XCls K mg c C where
 kp:qB5 K (.ref C)=true
 ini:qAo K (.ref C) "__init__" = some (some (.builtin "ValueError.__init__"))
section
variable[Kc]{mg:Str->Option Value}{E:XK}{L n k l:Nat}{te ta tb:TE}{e ea eb ma:EM}{t:TA}{m:AM}
end
end L3
namespace L2
open PySem PySem.Spec PyProof.Rows
section
variable{X:Cx}
noncomputable def zH6(z:Str):List V:=z.cps.toList.map fun c=>.str ⟨#[c]⟩
theorem zOG{z:Str}{acc:Array Value}(h:ItemsOf (SignAt z) acc z.cps.size):Vals (zH6 z) acc.toList:=by
 obtain⟨h1,h2⟩:=h;have key:∀(cs:List Nat)(us:List Value)(k:Nat),us.length=cs.length->(∀(j:Nat)(v:Value),us[j]?=some v->∃(c:Nat)(u:Tok),cs[j]?=some c/\v=Value.str ⟨#[c]⟩ u)->Vals (cs.map fun c=>V.str ⟨#[c]⟩) us:=by
  intro cs
  induction cs with
  |nil=>intro us k e _;cases us with
   |nil=>exact .nil
   |cons a r=>simp at e
  |cons c r ih=>
   intro us k e h;cases us with
   |nil=>simp at e
   |cons a q=>
    obtain⟨c',u,e1,e2⟩:=h 0 a rfl;simp at e1;subst e1;exact .cons ⟨u,e2⟩ (ih q k (by simpa using e) fun j v hj=>h (j+1) v (by simpa using hj))
 refine key z.cps.toList acc.toList 0 (by simp[h1]) fun j v hj=>?_
 obtain⟨c,u,e1,e2⟩:=h2 j v (by rw[<- hj,qB6]);exact⟨c,u,by rw[<- e1,qB6],e2⟩
def zVC(K:qA1):List V->Hp->VK->Prop:=fun vs H Q=>match vs with
 |[.str z]=>z.length<=sizeLine/\∀l,H l=none->Q (.ref l) (upd H l (.lst (zH6 z)))
 |_=>zQ7 K vs H Q
theorem zXV{K:qA1}(hc:X.calm=true)(hK:X.K=K:=by rfl):zD4 X (.type "list") (zVC K):=by
 subst hK;intro pins s σ H vs us Q I r h
 match vs,r,h with
 |[.str z],r,h=>
  obtain⟨hz,q⟩:=h;obtain⟨u,rfl,rx⟩:=zCR r;obtain⟨t,rfl⟩:=rx;refine call_list_str (I.ok.hd hc) z t (fun h' tk acc' c' hk hl hi=>?_) hz;have hv:=zOG hi;refine⟨.ref _,_,I.laid (t':=tk) (o:=.lst (zH6 z)) hk (qA7 _) ⟨?_,acc'.toList,c',hv,by simpa using hl⟩,rfl,q _ I.fresh⟩;simp[zH6];exact hz
 |[],r,h=>exact zEI hc pins s σ H _ us Q I r h
 |[.non],r,h=>exact zEI hc pins s σ H _ us Q I r h
 |[.bl _],r,h=>exact zEI hc pins s σ H _ us Q I r h
 |[.int _],r,h=>exact zEI hc pins s σ H _ us Q I r h
 |[.byt _],r,h=>exact zEI hc pins s σ H _ us Q I r h
 |[.flt _],r,h=>exact zEI hc pins s σ H _ us Q I r h
 |[.ty _],r,h=>exact zEI hc pins s σ H _ us Q I r h
 |[.ref _],r,h=>exact zEI hc pins s σ H _ us Q I r h
 |a::b::c,r,h=>exact zEI hc pins s σ H _ us Q I r (by cases a<;>exact h)
theorem zJE:∀{ns:List Str}{vs:List Value},StrsAre vs ns->Vals (ns.map V.str) vs
 |_,_,.nil=>.nil
 |_,_,.cons n t h=>.cons ⟨t,rfl⟩ (zJE h)
def zVA:V->List V->Hp->VK->Prop:=fun x vs H Q=>match x,vs with
 |.str z,[.str y]=>Q (.int (Txt.rfind z y)) H
 |_,_=>False
theorem zQT:MtR X "str.rfind" zVA:=by
 intro pins s σ H x vs v us Q I rx rv h;cases x with
 |str z=>
  cases vs with
  |nil=>exact qA3 h
  |cons hd1 tl1=>
   cases hd1 with
   |str y=>
    cases tl1 with
    |nil=>
     obtain⟨t,rfl⟩:=rx;obtain⟨u,rfl,ru⟩:=zCR rv;obtain⟨t2,rfl⟩:=ru;exact SC.rfind ⟨.int _,H,I.tok _,⟨_,rfl⟩,h⟩
    |cons _ _=>exact qA3 h
   |_=>exact qA3 h
 |_=>exact qA3 h
end
def Itw(z:Str):It:=
 ⟨fun i H=>i<z.cps.size,fun i H x H'=>∃T c,x=.ref T/\H T=none/\H'=upd H T (.tup [.int i,.str ⟨#[c]⟩])/\z.cps[i]?=some c,fun i H=>z.cps.size<=i⟩
theorem zW8{prog:Program}{w:World}{A:Around}(hh:A.handled=none)(it:Addr)(x:Str)(t:Tok) :
  Draws prog w A it [it] x.cps.size (fun i v=>∃c u,x.cps[i]?=some c/\v=.str ⟨#[c]⟩ u) (fun i h=>h.IsStrIter it (strIterType x) x t i):=by
 unfold strIterType;cases ha:x.cps.all (· < 128)
 ·exact Draws.strWide hh it x t
 ·exact Draws.strAscii hh it x t
theorem zOB{P:Program}{w:World}{K:qA1}{ts:List Expr}{kk:Nat}{tp:Pos}(z:Str)(t:Tok)(e it:Addr)(hei:e≠it) :
  Turn P w K (.Tuple ts kk tp) (Itw z) [e,it] e (fun i h=>i<=z.cps.size/\(∃old,IsEnum h e it i old)/\h.IsStrIter it (strIterType z) z t i) where
 mem:=by simp
 obj:=fun i h st b hb=>by
  rcases qAb.mp hb with y|y
  ·subst y;obtain⟨_,⟨old,he⟩,_⟩:=st;exact⟨_,he,fun v z=>by cases z⟩
  ·have z':b=it:=by simpa using y
   subst z';obtain⟨_,_,o,e,c,d⟩:=st;exact⟨o,e,fun v z=>by rw[d]at z;cases z⟩
 keep:=fun i h h' st k=>⟨st.1,by obtain⟨_,⟨old,he⟩,_⟩:=st;exact⟨old,k e (by simp) _ he⟩,by obtain⟨_,_,o,ho,r⟩:=st;exact⟨o,k it (by simp) o ho,r⟩⟩
 item:=by
  intro X hP hw hK hc i pins s σ H E I hf st hg;subst hP hw hK;have hi:i<z.cps.size:=hg;obtain⟨_,⟨old,he⟩,hit⟩:=st;have hhd:X.A.in1.handled=none:=I.ok.hd hc;refine wpAny_pyNext_enum_itemD (zW8 hhd it z t) he hit hi hei (by simpa using hei) fun x h' tk hP ho hit' hT hsz hk=>?_
  obtain⟨c,u,hcx,rfl⟩:=hP;refine⟨_,rfl,wpAny_letOwnedTupleGo_enum ho fun h'' he'' hs''=>?_⟩;have hTe:s.heap.objs.size≠e:=qBp (Heap.lt_size he);have hTi:s.heap.objs.size≠it:=by obtain⟨o,ho',_⟩:=hit;exact qBp (Heap.lt_size ho')
  have kk:∀b u,b∉[e,it]->s.heap.get? b=some u->h''.get? b=some u:=fun b u hb q=>by
   have b1:b≠e:=fun z=>hb (by simp[z])
   have b2:b≠it:=fun z=>hb (by simp[z])
   exact(hs''.2 b b1).trans (hk b u b1 b2 q)
  have hT'':=(hs''.2 _ hTe).trans hT;refine⟨.ref s.heap.objs.size,_,I.turnedNew (t':=tk+1) (o:=.tup [.int i,.str ⟨#[c]⟩]) hf kk (qA7 _) ⟨by show 2<=sizeLine;decide,[.int i tk,.str ⟨#[c]⟩ u],.cons ⟨_,rfl⟩ (.cons ⟨_,rfl⟩ .nil),⟨_,hT'',rfl,_,rfl⟩⟩,rfl,
   ⟨_,c,rfl,I.fresh,rfl,hcx⟩,⟨hi,⟨_,by simpa using he''⟩,by obtain⟨o,ho,r⟩:=hit';exact⟨o,(hs''.2 it hei.symm).trans ho,r⟩⟩,fun b hb=>?_⟩
  have hbs:b<s.heap.objs.size:=by
   rcases qAb.mp hb with z|z
   ·rw[z];exact Heap.lt_size he
   ·have z':b=it:=by simpa using z
    rw[z'];obtain⟨o,ho',_⟩:=hit;exact Heap.lt_size ho'
  rw[zAE (qAn hbs)];exact(hf b hb).1
 done:=by
  intro X hP hw hK hc i pins s σ H E I hf st hg;subst hP hw hK;obtain⟨hle,⟨old,he⟩,hit⟩:=st;have hi:i=z.cps.size:=qDy hle hg;subst hi;have hhd:X.A.in1.handled=none:=I.ok.hd hc;exact wpAny_pyNext_enum_endD (zW8 hhd it z t) he hit fun h' eb=>⟨rfl,I.turnedL (t':=s.toks) hf fun b u hb q=>eb b u (fun z=>hb (by simp[z])) q⟩
 self:=fun _ _ _ _ _ st h=>by obtain⟨_,⟨old,he⟩,_⟩:=st;exact wpAny_pyIter_enum he h
section
variable{X:Cx}{K:qA1}
def zVX(K:qA1)(tl:TA):TI:=fun σ H R=>tl σ H fun vs H1=>match vs with
 |[.ref a]=>(∃xs,SqL K H1 a xs)/\R (Ite K a) H1
 |[.str z]=>R (Itw z) H1
 |_=>False
theorem zN7{ts:List Expr}{kk:Nat}{tp p pos:Pos}{a:Expr}{ta:TA}(hg:Gl X "enumerate")(hm:X.mg "enumerate" = none)(ha:PA X [a] ta)(hs:starEach [a] X.env=[(false,eval a X.env)]:=by rfl)(hK:X.K=K:=by rfl) :
  PI X (.Tuple ts kk tp) (.Call (.Name "enumerate" p) [a] [] pos) (zVX K ta):=by
 subst hK;intro pins s σ H R I h;refine Call_ (zGA I hg hm boot_enumerate (qBi (thn (ha pos pins s σ H _ I h) fun us s1 z0=>?_) hs rfl));obtain⟨vs,H1,I1,r1,q1⟩:=z0;have hne:s1.heap.objs.size+1≠s1.heap.objs.size:=by omega
 have hb':∀b∈[s1.heap.objs.size+1,s1.heap.objs.size],s1.heap.objs.size<=b:=fun b hb=>by
  rcases qAb.mp hb with z|z
  ·rw[z];exact qC6 _
  ·have z':b=s1.heap.objs.size:=by simpa using z
   rw[z'];exact qA7 _
 cases vs with
 |nil=>exact qA3 q1
 |cons hd1 tl1=>
  cases hd1 with
  |ref l=>
   cases tl1 with
   |nil=>
    obtain⟨⟨xs,hq⟩,q⟩:=q1;obtain⟨u,rfl,rx⟩:=zCR r1;cases rx;obtain⟨its,rv,pl,hz⟩:=I1.list hq;refine call_enumerate_list pl.isList fun h' he hit hsz hk=>?_
    refine wpAny_pyIter_enum he ?_;exact⟨s1.heap.objs.size+1,[s1.heap.objs.size+1,s1.heap.objs.size],_,_,H1,rfl,I1.kept (t':=s1.toks) hk,zJA l _ _ hne,⟨⟨_,he⟩,hit⟩,fun b hb=>I1.fpOk (hb' b hb) (I1.hok.fresh (hb' b hb)),q⟩
   |cons _ _=>exact qA3 q1
  |str z=>
   cases tl1 with
   |nil=>
    obtain⟨u,rfl,rx⟩:=zCR r1;obtain⟨t,rfl⟩:=rx;refine call_enumerate_str fun h' he hit hsz hk=>?_
    refine wpAny_pyIter_enum he ?_;exact⟨s1.heap.objs.size+1,[s1.heap.objs.size+1,s1.heap.objs.size],_,_,H1,rfl,I1.kept (t':=s1.toks) hk,zOB z t _ _ hne,⟨qAk _,⟨_,he⟩,hit⟩,fun b hb=>I1.fpOk (hb' b hb) (I1.hok.fresh (hb' b hb)),q1⟩
   |cons _ _=>exact qA3 q1
  |_=>exact qA3 q1
end
end L2
namespace Mi
open PySem
noncomputable section
def listXD(ds:List Dt):Option Dt:=match ds with
 |[.str z]=>@ite _ (z.length<=100000) (qA4 _) (some (.lst (signsD z))) none
 |ds=>listD ds
def iEnX(e:AM):IM:=fun ρ=>zA3 (e ρ) fun vs=>match vs with
 |[.lst xs]=>okR (enumD 0 xs)
 |[.str z]=>okR (enumD 0 (signsD z))
 |_=>none
end
end Mi
namespace L3
open PySem PySem.Spec
open L2 hiding Rep RepL
open Mi (Dt Xn R okR zA3 optR zA0 zA7 zAB zA9 zAA Rh Sl Ro EM TM AM FM IM SM Tg Out zAP zAN zAT full frz frz1 frzAt)
section
variable[Kc]{mg:Str->Option Value}{E:XK}{L n k l:Nat}{te ta tb:TE}{e ea eb ma:EM}{t:TA}{m:AM}
theorem zOK{G:Hp}(z:Str):RepL G (Mi.signsD z) (zH6 z):=by
 unfold Mi.signsD zH6
 induction z.cps.toList with
 |nil=>rfl
 |cons c r ih=>exact⟨_,_,rfl,rfl,ih⟩
theorem zUR:CBi (zVC Kc.K) Mi.listXD 1:=by
 intro mg E G H ds vs Q s h p;cases ds with
 |nil=>exact qA3 p
 |cons hd1 tl1=>
  cases hd1 with
  |str z=>
   cases tl1 with
   |nil=>
    obtain⟨x,rfl,hx⟩:=zCA h
    cases(show x=.str z from hx)
    unfold Mi.listXD at p;dsimp only at p
    split at p
    ·rename_i hz
     exact⟨big' hz,fun l hl=>PostE.lst p (Ext.refl s) (zOK z) hl⟩
    ·exact p.elim
   |cons _ _=>exact qA3 p
  |lst _=>
   cases tl1 with
   |nil=>
    have q:=zME mg E G H _ vs Q s h p;obtain⟨x,rfl,a,xs,rfl,ha,ra⟩:=zCA h;exact q
   |cons _ _=>exact qA3 p
  |tup _=>
   cases tl1 with
   |nil=>
    have q:=zME mg E G H _ vs Q s h p;obtain⟨x,rfl,a,xs,rfl,ha,ra⟩:=zCA h;exact q
   |cons _ _=>exact qA3 p
  |scr _=>
   cases tl1 with
   |nil=>
    have q:=zME mg E G H _ vs Q s h p;obtain⟨x,rfl,a,rfl,ha⟩:=zCA h;exact q
   |cons _ _=>exact qA3 p
  |_=>exact qA3 p
theorem zaW{G:Hp}(z:Str):ItOk (Itw z) G (Mi.enumD 0 (Mi.signsD z)):=by
 intro i G1 H1 s1 s2;rw[zGH];have hl:(Mi.signsD z).length=z.cps.size:=by simp[Mi.signsD]
 rw[hl];refine⟨fun hi=>hi,fun hi=>hi,fun x H2 d hd hy=>?_⟩;obtain⟨T,c,rfl,hT,rfl,hc⟩:=hy;obtain⟨e,h1,rfl⟩:=zGI _ 0 i d hd;have x1:=Ext.new s2 hT (.tup [.int i,.str ⟨#[c]⟩]);have he:e=.str ⟨#[c]⟩:=by
  unfold Mi.signsD at h1;rw[qAh,qB6,hc]at h1;cases h1;rfl
 subst he;refine⟨_,x1,T,_,rfl,zAD,_,_,rfl,?_,_,_,rfl,rfl,rfl⟩;show V.int (i:Int)=.int ((0+i:Nat):Int);rw[qC4]
theorem zW9(A:DA mg E t m 0):DI mg E (zVX Kc.K t) (Mi.iEnX m) false:=by
 intro G H σ ρ Q s w p;refine A.step errI s w p fun ds vs G1 H1 S T _ fr o p1=>?_
 have r:=o.repL;cases ds with
 |nil=>exact qA3 p1
 |cons hd1 tl1=>
  cases hd1 with
  |lst es=>
   cases tl1 with
   |nil=>
    obtain⟨x,rfl,a,xs,rfl,ha,ra⟩:=zCA r;exact⟨⟨xs,SqL.of (fr.ext.in' _ _ ha)⟩,p1 _ G1 H1 fr.ext (zVT ha ra)⟩
   |cons _ _=>exact qA3 p1
  |str z=>
   cases tl1 with
   |nil=>
    obtain⟨x,rfl,hx⟩:=zCA r
    cases(show x=.str z from hx)
    exact p1 _ G1 H1 fr.ext (zaW z)
   |cons _ _=>exact qA3 p1
  |_=>exact qA3 p1
end
end L3
namespace L3
open PySem PySem.Spec
open L2 hiding Rep RepL
open Mi (Dt Xn R okR zA3 optR zA0 zA7 zAB zA9 zAA Rh Sl Ro EM TM AM FM IM SM Tg Out zAP zAN zAT full frz frz1 frzAt)
section
variable[Kc]{G0 H0 S0:Hp}{σ:St}{ρ:Ro}{G H:Hp}{As:Nat->Addr->Prop}
end
section
variable[Kc]{mg:Str->Option Value}{E:XK}{L n k l:Nat}{te ta tb:TE}{e ea eb ma:EM}{t:TA}{m:AM}
end
end L3
namespace L2
open PySem PySem.Spec PyProof.Rows
section
variable{X:Cx}
end
end L2
namespace Mi
open PySem
noncomputable section
end
end Mi
namespace L3
open PySem PySem.Spec
open L2 hiding Rep RepL
open Mi (Dt Xn R okR zA3 optR zA0 zA7 zAB zA9 zAA Rh Sl Ro EM TM AM FM IM SM Tg Out zAP zAN zAT full frz frz1 frzAt)
section
variable[Kc]{mg:Str->Option Value}{E:XK}{L n k l:Nat}{te ta tb:TE}{e ea eb ma:EM}{t:TA}{m:AM}
end
end L3
namespace L2
open PySem PySem.Spec PyProof.Rows
structure RoomH(k:Nat)(A:Around):Prop where
 dp:A.depth+3*k+5<recursionLimit
 un:A.units+16*k+200<cLine
structure FnOkH(P:Program)(w:World)(K:qA1)(mg:Str->Option Value)(base:Heap)(k:Nat)(f:Addr)(fd:FuncData)(ps:List Str)(sp:Sp):Prop where
 len:∀vs H Q E,sp vs H Q E->vs.length=ps.length
 run:∀(A:Around)(outer:List Env)(s:Shared)(H:Hp)(args:Args)(us:List Value)(vs:List V)(Q:VK)(E:XK),RoomH k A->Env0 P w K mg base A outer s H->BindsTo s fd args (ps.zip us)->Vals vs us->sp vs H Q E ->
  codeAny (model P w) A (.call (.ref f) args) (CR CX0 outer P w H s Q E) s
section
variable{X:Cx}{x:Str}{j k:Nat}{ps:List Str}{sp:Sp}{e:Expr}{es:List Expr}{t:TA}{p pos:Pos}
end
end L2
namespace L2
open PySem PySem.Spec PyProof.Rows
end L2
namespace Mi
end Mi
namespace L3
open PySem PySem.Spec
open L2 hiding Rep RepL
open Mi (Dt Xn R okR zA3 optR zA0 zA7 zAB zA9 zAA Rh Sl Ro EM TM AM FM IM SM Tg Out zAP zAN zAT full frz frz1 frzAt)
section
variable[Kc]{mg:Str->Option Value}{E:XK}{L n n1:Nat}{t1 t2:TE}{e1 e2:EM}
end
end L3
namespace Mi
def sSetL(i j:Nat)(vs:List Nat)(e:EM):SM:=fun ρ=>match(frzAt vs (low j ρ))[j]? with
 |some (some (.lst ds,1))=>zA3 (e ((frz (frzAt vs (low j ρ))).set j (some (.lst ds)))) fun d=>match d with
  |.lst es=>if Dt.depL es=0/\es.length≠ds.length then okR (.nx ((frzAt vs (low j ρ)).set i (some (.lst es,0))))else none
  |_=>none
 |_=>none
end Mi
namespace L3
open PySem PySem.Spec
open L2 hiding Rep RepL
open Mi (Dt Xn R okR zA3 optR zA0 zA7 zAB zA9 zAA Rh Sl Ro EM TM AM FM IM SM Tg Out zAP zAN zAT full frz frz1 frzAt)
section
variable[Kc]{mg:Str->Option Value}{E:XK}{L n:Nat}{te:TE}{e:EM}
theorem zJP{G G2:Hp}:∀{es:List Dt}{ys:List V},RepL G es ys->Dt.depL es=0->RepL G2 es ys
 |[],_,h,_=>h
 |d::r,_,h,hd=>by
  obtain⟨x,q,rfl,h1,h2⟩:=h;have h3:d.dep=0/\Dt.depL r=0:=by
   simp only[Dt.depL]at hd;omega
  exact⟨x,q,rfl,h1.scalar h3.1,zJP h2 h3.2⟩
theorem zFE{G H:Hp}{q:Addr}:over G H (fun b=>b=q) q=H q:=zD9 (S:=fun b=>b=q) rfl
theorem zFY{G H:Hp}{b q:Addr}(h:b≠q):over G H (fun b=>b=q) b=G b:=zBL (S:=fun b=>b=q) h
theorem zRN(i j:Nat)(vs:List Nat)(A:DE mg E te e n):DS mg E L (tAsg te (zEK i)) (Mi.sSetL i j vs e):=by
 intro G0 H0 S0 σ ρ G H As D a p;unfold Mi.sSetL at p;obtain⟨G1,As1,a1⟩:=Sat.low a j;obtain⟨G2,As2,a2⟩:=Sat.frzAt vs a1
 split at p
 ·rename_i ds e1
  obtain⟨v,h1,q,xs,T,rfl,hq,kd⟩:=a2.at j _ _ e1;obtain⟨nq1,nq2,nq3⟩:=a2.new j q kd.top;obtain⟨s1,s2⟩:=zC5 (S:=fun b=>b=q) a2.ext.in';have x3:Ext G0 H0 (over G2 H fun b=>b=q) H:=⟨a2.ext.g.trans s1,a2.ext.h,s2,fun b hb=>by
   rw[zFY (fun z=>hb (by rw[z];exact nq1))];exact a2.ext.old b hb⟩
  have rq:Rep (over G2 H fun b=>b=q) (.lst ds) (.ref q):=⟨q,xs,rfl,by rw[zFE];exact hq,zEP kd.len fun r d x g1 g2=>Rep.mono s1 (kd.own r d x g1 g2)⟩
  have w:=(View.mono s1 a2.frz)
  have w2:View (over G2 H fun b=>b=q) σ ((frz (frzAt vs (Mi.low j ρ))).set j (some (.lst ds))):=by
   have:=w.set (i:=j) rq
   rwa [show σ.set j (some (.ref q))=σ by
    have:=(qA5.mp h1).2
    rw[<- this,qF5]]at this
  refine(zAO A).step (errS.from x3) s2 w2 p fun d u G4 H4 S4 _ fr o p1=>?_
  split at p1
  ·rename_i es _
   split at p1
   ·rename_i hz
    obtain⟨pa,ys,rfl,k1,k2⟩:=(show Rep G4 (.lst es) u from o)
    have hne:pa≠q:=fun z=>by
     subst z
     have:=fr.ext.old pa nq3
     rw[k1,zFE,hq]at this;cases this;exact hz.2 (by rw[<- zT4 k2,kd.len])
    have hin:Same G2 H4:=a2.ext.in'.trans fr.ext.h;obtain⟨t1,t2⟩:=zC5 (S:=fun b=>b=pa) hin;have hpa:H4 pa=some (.lst ys):=fr.ext.in' _ _ k1;have x5:Ext G2 H (over G2 H4 fun b=>b=pa) H4:=⟨t1,fr.ext.h,t2,fun b hb=>by
     by_cases z:b=pa
     ·subst z;have g:=fr.ext.old b hb;rw[k1,zFY hne]at g;rw[zFE,hpa,<- g]
     ·rw[zFY z]⟩
    have o5:Own (over G2 H4 fun b=>b=pa) H4 0 (fun _=>False) (.lst es) (.ref pa):=⟨pa,ys,rfl,by rw[zFE];exact hpa,zJP k2 hz.1⟩
    exact p1 _ _ H4 _ ((a2.wider x5).put o5 (fun b z=>z.elim) fun _ _ _ _ z=>z.elim)
   ·exact p1.elim
  ·exact p1.elim
 ·exact p.elim
end
end L3
namespace L2
open PySem PySem.Spec PyProof.Rows
section
variable{X:Cx}{e m1:Expr}{te ts:TE}{pos p2:Pos}
theorem zMV:∀{vs:List Value}{zs:List Str},StrsAre vs zs->vs.length=zs.length
 |_,_,.nil=>rfl
 |_,_,.cons _ _ r=>by simp[zMV r]
end
end L2
namespace Mi
open PySem
noncomputable section
theorem zWV{a b:Str}(h:a.cps.toList=b.cps.toList):a=b:=by
 obtain⟨⟨x⟩⟩:=a;obtain⟨⟨y⟩⟩:=b
 have:x=y:=h
 rw[this]
theorem uniqZ:∀{a b:List Str},a.Perm b->a.Pairwise (fun a b=>a.cps.toList<=b.cps.toList)->b.Pairwise (fun a b=>a.cps.toList<=b.cps.toList)->a=b
 |[],b,h,_,_=>(List.nil_perm.mp h).symm
 |x::r,[],h,_,_=>by simpa using h.length_eq
 |x::r,y::q,h,ha,hb=>by
  have e:x=y:=by
   rcases qAb.mp (h.mem_iff.mp (qAz (a:=x) (l:=r)))with z|z
   ·exact z
   ·rcases qAb.mp (h.mem_iff.mpr (qAz (a:=y) (l:=q)))with u|u
    ·exact u.symm
    ·exact zWV (List.le_antisymm ((qBs.mp ha).1 y u) ((qBs.mp hb).1 x z))
  subst e;rw[uniqZ (List.Perm.cons_inv h) (qBs.mp ha).2 (qBs.mp hb).2]
end
end Mi
namespace L3
open PySem PySem.Spec
open PyProof.Rows (risingS sortedS ltCps_eq)
open L2 hiding Rep RepL
open Mi (Dt Xn R okR zA3 optR zA0 zA7 zAB zA9 zAA Rh Sl Ro EM TM AM FM IM SM OM Tg Out zAP zAN zAT full frz frz1 frzAt)
section
variable[Kc]{mg:Str->Option Value}{E:XK}{L n k l:Nat}{te ta tb:TE}{e ea eb ma:EM}{t:TA}{m:AM}
theorem zJN:∀(l:List Str)(p:Str),risingS p l=true->(p::l).Pairwise (fun a b=>a.cps.toList<=b.cps.toList)
 |[],p,_=>by simp
 |x::r,p,h=>by
  rw[risingS,qBc,ltCps_eq]at h;have h1:p.cps.toList<=x.cps.toList:=by
   have:=h.1
   simpa[qHz]using this
  have h2:=zJN r x h.2;refine qBs.mpr ⟨fun y hy=>?_,h2⟩
  rcases qAb.mp hy with rfl|hy
  ·exact h1
  ·exact List.le_trans h1 ((qBs.mp h2).1 y hy)
theorem zPX{l:List Str}(h:sortedS l=true):l.Pairwise (fun a b=>a.cps.toList<=b.cps.toList):=by
 cases l with
 |nil=>exact .nil
 |cons x r=>exact zJN r x h
end
end L3
namespace L2
open PySem PySem.Spec PyProof.Rows
section
variable{X:Cx}{x:Str}{C:Addr}{p pos:Pos}
end
def zcA(K:qA1)(fl:List Str):Sp:=fun vs H Q _=>∃(x C dx:Addr)(ys:List V),vs=.ref x::ys/\ys.length=fl.length/\H x=some (.ins C dx [])/\Cls K C/\(∀f∈fl,zWG K C f)/\Q .non (upd H x (.ins C dx (fl.zip ys)))
section
variable{X:Cx}{m:Str}{k:Nat}{E:XK}{o e:Expr}{es:List Expr}{ta:TE}{t:TA}{apos pos:Pos}{tb:List (Addr×Sp)}
end
structure OIs(K:qA1)(C:Addr):Prop where
 cl:Cls K C
 ha:qAo K (.ref C) "__class__" = some (some (.builtin "object.__class__"))
 hn:qC9 K (.builtin "object.__class__") "__get__" = some (some (.builtin "getset_descriptor.__get__"))
 htk:qEx K (.builtin "object.__class__")=some true
 hm:qEe K C (.type "object")=some true
end L2
namespace Mi
open PySem
noncomputable section
noncomputable def svD:Dt->Option Sv
 |.int i=>some (.i i)
 |.str x=>some (.s x)
 |_=>none
def svsD:List Dt->Option (List Sv)
 |[]=>some []
 |d::r=>match svD d,svsD r with
  |some v,some vs=>some (v::vs)
  |_,_=>none
noncomputable def dSv:Sv->Dt
 |.i n=>.int n
 |.s x=>.str x
def eNew(c:Str)(fl:List Str)(am:AM):EM:=fun ρ=>zA3 (am ρ) fun ds=>match svsD ds with
 |some vs=>if vs.length=fl.length then okR (.ins c (fl.zip vs))else none
 |none=>none
def zcX(c:Str):EM:=fun _=>okR (.ins c [])
def eFld(hs:List Str)(f:Str)(e:EM):EM:=fun ρ=>zA3 (e ρ) fun d=>match d with
 |.ins c fs=>if c∈hs then(match fs.lookup f with|some v=>okR (dSv v)|none=>none)else none
 |_=>none
def zcY(tb:List (Str×FM))(m:Str)(e:EM)(am:AM):EM:=fun ρ=>zA3 (e ρ) fun d=>match d with
 |.ins c fs=>match tb.lookup c with
  |some g=>match fs.lookup m with
   |none=>zA3 (am ρ) fun ds=>g (d::ds)
   |some _=>none
  |none=>none
 |_=>none
def eIsO(ys ns:List Str)(e:EM):EM:=fun ρ=>zA3 (e ρ) fun d=>match d with
 |.ins c _=>if c∈ys then okR (.bl true)else if c∈ns then okR (.bl false)else none
 |_=>none
end
end Mi
namespace L3
open PySem PySem.Spec
open L2 hiding Rep RepL
open Mi (Dt Xn R okR zA3 optR zA0 zA7 zAB zA9 zAA Rh Sl Ro EM TM AM FM IM SM OM Tg Out zAP zAN zAT full frz frz1 frzAt)
structure OCls(K:qA1)(mg:Str->Option Value)(c:Str)(C:Addr):Prop where
 cl:clK K c=some C
 gm:mg c=some (.ref C)
 is:OIs K C
structure ONew(K:qA1)(mg:Str->Option Value)(c:Str)(C:Addr):Prop extends OCls K mg c C where
 mks:qGk K C=true
 ini:qAo K (.ref C) "__init__" = some (some (.builtin "object.__init__"))
 kp:qB5 K (.ref C)=true
structure OIni(P:Program)(w:World)(K:qA1)(mg:Str->Option Value)(base:Heap)(c:Str)(fl:List Str)(C:Addr):Prop extends OCls K mg c C where
 na:∀f∈fl,zWG K C f
 ini:∃fI fd ps,Mk K C fI/\FnOk P w K mg base (CXe P w) 1 fI fd ps (zcA K fl)/\Binds K fd ps []
section
variable{X:Cx}{c:Str}{fl:List Str}{C:Addr}{k:Nat}{E:XK}{e:Expr}{es:List Expr}{t:TA}{p pos:Pos}
end
section
variable[Kc]{mg:Str->Option Value}{E:XK}{L n k l:Nat}{te ta tb:TE}{e ea eb ma:EM}{t:TA}{m:AM}
end
end L3
namespace Mi
open PySem
noncomputable section
def lastC(c:Nat)(l:List Nat):Option Nat:=(posC c l.reverse).map fun i=>l.length-1-i
def rfindD(x:Dt)(ys:List Dt):Option Dt:=match x,ys with
 |.str z,[.str y]=>match y.cps.toList with
  |[c]=>some (.int (match lastC c z.cps.toList with|some i=>(i:Int)|none=>-1))
  |_=>none
 |_,_=>none
end
end Mi
namespace L2
open PySem PySem.Spec PyProof.Rows
section
variable{X:Cx}{m:Str}{k:Nat}{o e:Expr}{es:List Expr}{ta:TE}{t:TA}{apos pos:Pos}{tb:List (Addr×Sp)}
end
section
variable{prog:Program}{w:World}{A:Around}{E:Value->Shared->Prop}{s:Shared}
end
section
variable{X:Cx}{pos:Pos}
end
theorem zTX(z:Str)(c:Nat):Txt.rfind z ⟨#[c]⟩=(match Mi.lastC c z.cps.toList with|some i=>(i:Int)|none=>-1):=by
 have hone:∀i,StrLaws.At z ⟨#[c]⟩ z.length i↔z.cps.toList[i]?=some c:=fun i=>StrLaws.subAt_one z c i
 generalize hl:z.cps.toList=l at hone
 have pos_none:∀{r:List Nat},Mi.posC c r=none->c∉r:=by
  intro r
  induction r with
  |nil=>intro _ h;simp at h
  |cons a r ih=>
   intro h;have h':(if a=c then some 0 else(Mi.posC c r).map (·+1))=none:=h
   split at h'
   ·cases h'
   ·rename_i hne
    have:=ih (by cases e:Mi.posC c r with|none=>rfl|some _=>rw[e]at h';cases h')
    intro z
    rcases qAb.mp z with q|q
    ·exact hne q.symm
    ·exact this q
 have pos_some:∀{r:List Nat}{i:Nat},Mi.posC c r=some i->r[i]?=some c/\∀j,j<i->r[j]?≠some c:=by
  intro r
  induction r with
  |nil=>intro i h;cases h
  |cons a r ih=>
   intro i h;have h':(if a=c then some 0 else(Mi.posC c r).map (·+1))=some i:=h
   split at h'
   ·rename_i hac
    cases h';exact⟨by simp[hac],fun j hj=>by omega⟩
   ·rename_i hne
    cases e:Mi.posC c r with
    |none=>rw[e]at h';cases h'
    |some k=>
     rw[e]at h';cases h';obtain⟨q1,q2⟩:=ih e;refine⟨by simpa using q1,fun j hj=>?_⟩;cases j with
     |zero=>simpa using hne
     |succ j=>simpa using q2 j (Nat.lt_of_succ_lt_succ hj)
 unfold Mi.lastC;cases e:Mi.posC c l.reverse with
 |none=>
  have hn:=pos_none e
  rcases rfind_whole z ⟨#[c]⟩with⟨h,_⟩|⟨i,_,h,_⟩
  ·exact h
  ·have:=(hone i).mp h
   exact absurd (List.mem_reverse.mpr (qAx this)) hn
 |some i=>
  obtain⟨q1,q2⟩:=pos_some e;have hil:i<l.length:=by
   have:=(qA5.mp q1).1
   simpa using this
  have q3:l[l.length-1-i]?=some c:=by rw[<- q1,qF6 hil]
  rcases rfind_whole z ⟨#[c]⟩with⟨_,h⟩|⟨j,h1,h2,h3⟩
  ·exact absurd ((hone _).mpr q3) (h _)
  ·have hj:=(hone j).mp h2;have hjl:j<l.length:=(qA5.mp hj).1;have hle:¬j<l.length-1-i:=fun z=>h3 _ z ((hone _).mpr q3)
   have hge:¬l.length-1-i<j:=fun z=>q2 (l.length-1-j) (by omega) (by rw[qF6 (by omega)];rw[show l.length-1-(l.length-1-j)=j by omega];exact hj)
   rw[h1]
   show(j:Int)=((l.length-1-i:Nat):Int)
   omega
end L2
namespace L3
open PySem PySem.Spec
open L2 hiding Rep RepL
open Mi (Dt Xn R okR zA3 optR zA0 zA7 zAB zA9 zAA Rh Sl Ro EM TM AM FM IM SM OM Tg Out zAP zAN zAT full frz frz1 frzAt)
section
variable[Kc]{mg:Str->Option Value}{E:XK}{L n k l:Nat}{te ta tb:TE}{e ea eb ma:EM}{t:TA}{m:AM}
theorem zT1:RMt zVA Mi.rfindD n:=zN0 (fun z=>zFF rfl (fun d h=>by cases d<;>first|rfl|exact absurd rfl (h _)) (fun d e r=>by cases d<;>rfl) rfl fun a b r=>rfl) fun mg E G H z c Q s p=>by
 show Q (.int (Txt.rfind z ⟨#[c]⟩)) H;rw[zTX];exact PostE.val p (Ext.refl s) rfl rfl
end
end L3
namespace L2
open PySem PySem.Spec PyProof.Rows
theorem zHI{M:Model}{A:Around}{E:Value->Shared->Prop}{s:Shared}{src:Source}{n:Nat}{Q:Nat->Shared->Prop}(hn:n≠0)(h:∀i d,i<n->Q i { s with drawn:=d }):wpAny M A (choose src n) Q E s:=
 fun Γ p hΓ=>⟨hn,h _ _ (qBy _ (Nat.pos_of_ne_zero hn))⟩
theorem zOZ(t:SetTable)(es:Array (Int×Value))(h:Int)(x:Value):(layNew t es h x).2.1.led=t.led:=by
 unfold layNew
 split
 ·dsimp only;unfold SetTable.orStandIn
  split<;>rfl
 ·rfl
theorem zOY(t:SetTable)(es:Array (Int×Value))(h:Int)(x:Value)(hp:t.plain=false):(layNew t es h x).2.1.plain=false:=by
 unfold layNew
 split
 ·dsimp only;unfold SetTable.orStandIn
  split
  ·exact hp
  ·rfl
 ·rfl
theorem zJR{t t':SetTable}{hs:Array Int}{w:Nat}{o:Array Nat}(h:t.relaid hs w=some (t',o)):t'.led=t.led/\t'.plain=t.plain:=by
 unfold SetTable.relaid SetTable.laid at h;cases e:SetTable.layClean (SetTable.sizeAbove w-1) hs with
 |none=>rw[e]at h;cases h
 |some ow=>
  rw[e]at h;have h':=qBa h
  have:=congrArg qHm h'
  dsimp only at this;rw[<- this];exact⟨rfl,rfl⟩
theorem zGV(t:SetTable)(es:Array (Int×Value))(wanted:Nat):(relayAll t es wanted).2.1.led=t.led/\(t.plain=false->(relayAll t es wanted).2.1.plain=false):=by
 unfold relayAll
 split
 ·rename_i t' order e
  obtain⟨h1,h2⟩:=zJR e;dsimp only
  split
  ·exact⟨h1,fun h=>h2.trans h⟩
  ·exact⟨rfl,fun _=>rfl⟩
 ·exact⟨rfl,fun _=>rfl⟩
section
variable{prog:Program}{w:World}{A:Around}{E:Value->Shared->Prop}{s:Shared}
def SetZ(prog:Program)(w:World)(h:Heap)(a:Addr)(led:Bool)(ks:List Str):Prop:=
 ∃o es ep t,h.get? a=some o/\o.ExactSet/\o.data=.set es ep t/\ElemsOf (strKind prog w) es.toList/\es.toList.map (fun e=>strOf e.2)=ks/\ks.Nodup/\es.size<scanBound/\t.fits es.size=true/\t.led=led/\(0<es.size->t.plain=false)
theorem SetZ.at{h h':Heap}{a:Addr}{led:Bool}{ks:List Str}(hS:SetZ prog w h a led ks)(hk:∀o,h.get? a=some o->h'.get? a=some o):SetZ prog w h' a led ks:=by
 obtain⟨o,es,ep,t,ho,r⟩:=hS;exact⟨o,es,ep,t,hk o ho,r⟩
theorem zGC{k:Str}{v:Value}(h:(strKind prog w).is k v=true):∃t,v=.str k t:=Value.isStrOf_shape h
theorem zIK{es:List (Int×Value)}(h:ElemsOf (strKind prog w) es){e:Int×Value}(he:e∈es):∃k t,e.2=.str k t:=by
 obtain⟨⟨k,hk,_⟩,_⟩:=h e he;obtain⟨t,e1⟩:=zGC hk;exact⟨k,t,e1⟩
theorem zVU{es:List (Int×Value)}(h:ElemsOf (strKind prog w) es){e:Int×Value}(he:e∈es)(k:Str):(strKind prog w).is k e.2=true↔strOf e.2=k:=by
 obtain⟨k',t,e1⟩:=zIK h he;rw[e1];constructor
 ·intro z;obtain⟨t',e2⟩:=zGC z
  injection e2 with e3
 ·rintro rfl
  exact strKind_is prog w _ t
theorem zSY{a:Addr}{led:Bool}{ks:List Str}{k:Str}{tk:Tok}{Q:Bool->Shared->Prop}(hS:SetZ prog w s.heap a led ks)(hroom:ks.length+1<scanBound)
  (h:∀h' ks' b,Heap.SameBut a s.heap h'->SetZ prog w h' a led ks'->(k∈ks->ks'=ks)->(k∉ks->ks'.Perm (ks++[k]))->Q b { s with heap:=h' }) :
  wpAny (model prog w) A (setAddHashed a (.str k tk) ((strKind prog w).hash k)) Q E s:=by
 obtain⟨o,es,ep,t,ho,hex,hd,hel,hks,hnd,hb,hf,hled,hpl⟩:=hS;have hn:es.size=ks.length:=by rw[<- hks,qAm,qB2]
 have hb1:es.size+1<scanBound:=by omega
 have hkey:(strKind prog w).is k (.str k tk)=true:=strKind_is prog w k tk;have hsc:(Value.str k tk).scannable=true:=rfl;unfold setAddHashed setAddHashedIn;refine wpAny_holding (wpAny_bind (wpAny_setState_of ho hd hf ?_));dsimp only;rw[byScan_of hsc hb hel];simp only[↓reduceIte];unfold setAddByScan;refine wpAny_bind ?_;refine wpAny_bind (wpAny_rule ?_);refine wpAny_bind (wpAny_setScan_of hkey ho hd hf hel ?_);cases hr:List.findIdx? (fun e=>(strKind prog w).is k e.2) es.toList with
 |some j=>
  dsimp only;obtain⟨hj,hpj,_⟩:=qD5.mp hr;have hin:k∈ks:=by
   rw[<- hks];exact qAd.mpr ⟨es.toList[j],qBz hj,(zVU hel (qBz hj) k).mp hpj⟩
  refine wpAny_pure (wpAny_pure ?_);have e:s={ s with heap:=s.heap }:=by cases s;rfl
  rw[e];exact h s.heap ks false (Heap.SameBut.refl a s.heap) ⟨o,es,ep,t,ho,hex,hd,hel,hks,hnd,hb,hf,hled,hpl⟩ (fun _=>rfl) (fun z=>absurd hin z)
 |none=>
  dsimp only;have hnin:k∉ks:=by
   intro z;rw[<- hks]at z;obtain⟨e,he,e1⟩:=qAd.mp z
   have:=List.findIdx?_eq_none_iff.mp hr e he
   rw[(zVU hel he k).mpr e1]at this;exact Bool.noConfusion this
  have hgw:∀(b:Bool){s₁:Shared}{Q':Unit->Shared->Prop},Q' () s₁->wpAny (model prog w) A (match b with|true=>rule "set.scan.the-table-gave-way" | false=>pure ()) Q' E s₁:=
   fun b s₁ Q' hq=>by cases b<;>first|exact wpAny_pure hq|exact wpAny_rule hq
  have hperm:=layNew_perm t es ((strKind prog w).hash k) (.str k tk);have hfits:=layNew_fits t es ((strKind prog w).hash k) (.str k tk);have hled1:=zOZ t es ((strKind prog w).hash k) (.str k tk);have hoff1:=zOY t es ((strKind prog w).hash k) (.str k tk)
  generalize hL:layNew t es ((strKind prog w).hash k) (.str k tk)=L at hperm hfits hled1 hoff1 ⊢
  obtain⟨es1,t1,wasDummy,gave⟩:=L;dsimp only at hperm hfits hled1 hoff1 ⊢;rw[qG5]at hperm;have hel1:ElemsOf (strKind prog w) es1.toList:=(hel.push hkey hsc).perm hperm;have hks1:(es1.toList.map fun e=>strOf e.2).Perm (ks++[k]):=by
   have:=hperm.map fun e:Int×Value=>strOf e.2
   rw[qB7,hks]at this;exact this
  have hnd1:(es1.toList.map fun e=>strOf e.2).Nodup:=hks1.nodup_iff.mpr (by
   rw[qDj];exact⟨hnd,by simp,fun x hx y hy e=>hnin (by rw[qAv]at hy;rw[<- hy,<- e];exact hx)⟩)
  have hb1':es1.size<scanBound:=by rw[<- qB2,hperm.length_eq,qAl,qB2];simpa using hb1
  refine wpAny_bind (hgw _ ?_);have tail:∀t2:SetTable,t2.fits es1.size=true->t2.led=led->t2.plain=false->wpAny (model prog w) A (do
    storeSet a es1 t2
    if(!wasDummy&&t2.tooFull)=true then do
      (match(relayAll t2 es1 (SetTable.grown es1.size)).2.2 with|true=>rule "set.scan.the-table-gave-way" | false=>pure ())
      storeSet a (relayAll t2 es1 (SetTable.grown es1.size)).1 (relayAll t2 es1 (SetTable.grown es1.size)).2.1
      pure (some true)
     else pure (some true)) (fun r s'=>wpAny (model prog w) A (match r with|some added=>pure added|none=>setAddHashedIn a (.str k tk) ((strKind prog w).hash k) 99999) Q E s') E s:=by
   intro t2 f2 l2 p2;refine wpAny_bind (wpAny_storeSet_of ho hd ?_ (fits_of_scanBound hb1'));have hg:(s.heap.update a (Obj.putSet es1 t2)).get? a=some { o with data:=.set es1 (ep+1) t2 }:=by
    have:=Heap.get?_update_self (Obj.putSet es1 t2) ho (by rw[putSet_of es1 t2 hd];rfl)
    rw[putSet_of es1 t2 hd]at this;exact this
   have hsb1:=Heap.SameBut.update s.heap a (Obj.putSet es1 t2)
   split
   ·have hp:=relayAll_perm t2 es1 (SetTable.grown es1.size);have hfr:=relayAll_fits t2 es1 (SetTable.grown es1.size);have hkp:=zGV t2 es1 (SetTable.grown es1.size)
    generalize hRl:relayAll t2 es1 (SetTable.grown es1.size)=Rl at hp hfr hkp ⊢
    obtain⟨es2,t3,gave2⟩:=Rl;dsimp only at hp hfr hkp ⊢;have hsz:es2.size=es1.size:=by rw[<- qB2,hp.length_eq,qB2]
    refine wpAny_bind (hgw _ ?_);refine wpAny_bind (wpAny_storeSet_of hg rfl ?_ (fits_of_scanBound (by rw[hsz];exact hb1')));have hg2:=Heap.get?_update_self (Obj.putSet es2 t3) hg (by rw[putSet_of (o:={ o with data:=.set es1 (ep+1) t2 }) es2 t3 rfl];rfl);rw[putSet_of (o:={ o with data:=.set es1 (ep+1) t2 }) es2 t3 rfl]at hg2;have hks2:=hp.map fun e:Int×Value=>strOf e.2
    refine wpAny_pure (wpAny_pure (h _ (es2.toList.map fun e=>strOf e.2) _ (hsb1.trans (Heap.SameBut.update _ a _)) ⟨_,es2,ep+2,t3,hg2,hex,rfl,hel1.perm hp,rfl,hks2.nodup_iff.mpr hnd1,by rw[hsz];exact hb1',hfr,hkp.1.trans l2,fun _=>hkp.2 p2⟩ (fun z=>absurd z hnin) fun _=>hks2.trans hks1))
   ·exact wpAny_pure (wpAny_pure (h _ (es1.toList.map fun e=>strOf e.2) _ hsb1 ⟨_,es1,ep+1,t2,hg,hex,rfl,hel1,rfl,hnd1,hb1',f2,l2,fun _=>p2⟩ (fun z=>absurd z hnin) fun _=>hks1))
  split
  ·refine wpAny_bind ?_;rw[hashByValue_scannable 8 hsc];refine wpAny_pure ?_;exact tail { t1 with plain:=false } (SetTable.fits_plain_off hfits) (hled1.trans hled) rfl
  ·rename_i hp1
   refine wpAny_bind (wpAny_pure ?_);simp only[↓reduceIte];exact tail t1 hfits (hled1.trans hled) (by simpa using hp1)
end
end L2
namespace L2
open PySem PySem.Spec PyProof.Rows
section
variable{prog:Program}{w:World}{A:Around}{R:Result->Shared->Prop}{I:Addr}{fp wr:List Addr}{G:Array GenState->Array GenState->Prop}{n:Nat}{St:Nat->Shared->Prop}{led:Bool}{z:Str}
theorem loopZ(W:WalksS prog w A.in1 I fp wr G z.cps.size (SignAt z) St)(S:Addr)(hSf:S∉fp)(hb:z.cps.size+1<scanBound) :
  ∀(k i:Nat)(s:Shared)(ks:List Str),z.cps.size-i=k->i<=z.cps.size->St i s->SetZ prog w s.heap S led ks->ks.length<=i->(∀c,c∈ks↔∃j d,j<i/\z.cps[j]?=some d/\c=⟨#[d]⟩) ->
   (∀s' ks',Moved (S::wr) G s s'->SetZ prog w s'.heap S led ks'->(∀c,c∈ks'↔∃j d,j<z.cps.size/\z.cps[j]?=some d/\c=⟨#[d]⟩)->R (.ok (.ret .none)) s') ->
   codeAny (model prog w) A (.builtin "set.update.loop" ⟨[.ref S,.ref I],[]⟩) R s:=by
 have hSw:S∉wr:=fun h=>hSf (W.sub _ h)
 have hsub:∀b∈wr,b∈S::wr:=fun b hb=>qAt _ hb
 intro k
 induction k with
 |zero=>
  intro i s ks hk hi hst hS hkl hks hR;have hin:i=z.cps.size:=by omega
  subst hin;refine codeAny_builtin qCv ?_;rw[Around.under_plainId qBx _];show wpAny _ A.in1 (pyNext (.ref I) >>= _) _ _ s;refine wpAny_bind (W.done s _ _ hst fun s' hm=>?_);show wpAny _ A.in1 (ret Value.none) _ _ s';exact wpAny_pure (hR s' ks (hm.mono hsub) (hS.at fun o ho=>hm.heap S o hSw ho) hks)
 |succ k ih=>
  intro i s ks hk hi hst hS hkl hks hR;have hlt:i<z.cps.size:=by omega
  refine codeAny_builtin qCv ?_;rw[Around.under_plainId qBx _];show wpAny _ A.in1 (pyNext (.ref I) >>= _) _ _ s;refine wpAny_bind (W.item i s _ _ hlt hst fun v s' hP hst' hm=>?_);obtain⟨c,u,hc,rfl⟩:=hP;have hS':SetZ prog w s'.heap S led ks:=hS.at fun o ho=>hm.heap S o hSw ho
  show wpAny _ A.in1 (holding [Value.str ⟨#[c]⟩ u] (setAdd S (.str ⟨#[c]⟩ u)) >>= _) _ _ s';refine wpAny_bind (wpAny_holding ?_);unfold setAdd;refine wpAny_holding ?_;refine wpAny_bind ((strKind prog w).pyHash (k:=⟨#[c]⟩) (strKind_is prog w _ _) ?_);refine zSY (s:={ s' with toks:=s'.toks+1 }) hS' (by omega) fun h' ks' b hsb hS2 hin hout=>?_
  have hmem:∀x,x∈ks'↔∃j d,j<i+1/\z.cps[j]?=some d/\x=⟨#[d]⟩:=by
   intro x;have step:x∈ks'↔x∈ks\/x=⟨#[c]⟩:=by
    by_cases h:(⟨#[c]⟩:Str)∈ks
    ·rw[hin h];exact⟨.inl,fun z=>z.elim id fun e=>e▸h⟩
    ·rw[(hout h).mem_iff,qAw,qAv]
   rw[step,hks];constructor
   ·rintro(⟨j,d,hj,e1,e2⟩|rfl)
    ·exact⟨j,d,by omega,e1,e2⟩
    ·exact⟨i,c,by omega,hc,rfl⟩
   ·rintro⟨j,d,hj,e1,e2⟩
    by_cases hji:j=i
    ·subst hji;rw[hc]at e1;cases e1;exact .inr e2
    ·exact .inl ⟨j,d,by omega,e1,e2⟩
  have hlen:ks'.length<=i+1:=by
   by_cases h:(⟨#[c]⟩:Str)∈ks
   ·rw[hin h];omega
   ·rw[(hout h).length_eq,qAl];simp;omega
  refine wpAny_pure ⟨plainId_quiet qBx _,ih (i+1) _ ks' (by omega) hlt (W.frame _ s' _ _ hst' (qC6 _) fun b hb o e=>?_) hS2 hlen hmem fun s'' ks'' hm'' hS'' hk''=>?_⟩
  ·rw[hsb.2 b (fun h:b=S=>hSf (by rw[<- h];exact hb))];exact e
  ·refine hR s'' ks'' (Moved.trans W.gtrans ((hm.mono hsub).then_heap (qC6 _) fun b o hb e=>?_) hm'') hS'' hk'';rw[hsb.2 b (fun h:b=S=>hb (by rw[h];exact qAz))];exact e
end
end L2
namespace PySem
open PyProof.Rows
theorem zHR{prog:Program}{w:World}{A:Around}{E:Value->Shared->Prop}{s:Shared}(a:Value){Q₁:Value->Shared->Prop}
  (h:Q₁ (.ref s.heap.objs.size) { s with heap:=s.heap.push { cls:=.type "set",dict:=none,data:=.set #[] 0 (.fresh 0 0 (!w.params.followText "set-order")) } }) :
  codeAny (model prog w) A (.call (.builtin "set.__new__") ⟨[.type "set",a],[]⟩) (wants Q₁ E) s:=by
 refine codeAny_of_tree ?_;show wpAny _ A.in1 (do checkBuiltinCall "set.__new__" ⟨[.type "set",a],[]⟩;again (.builtin "set.__new__" ⟨[.type "set",a],[]⟩)) _ _ s;refine wpAny_bind (wpAny_of_eq (F.newCall_set_1 a) (wpAny_pure ⟨plainId_quiet F.plain_set_new _,codeAny_builtin F.entry_set_new ?_⟩));rw[Around.under_plainId F.plain_set_new _];unfold Builtin.«set.__new__» Builtin.Frozenset.newClass;have hsub:=sub_set_self;obtain⟨hp,g,d,tk,os⟩:=s;dsimp only
 wp_walk
 refine wpAny_askSetting (wpAny_pure ?_);dsimp only;simp only[newObj];refine wpAny_bind (wpAny_alloc (wpAny_pure ?_));exact wpAny_pure h
theorem zJL:isSubtype (.type "str") (.type "set")=pure false:=by rw[isSubtype_type];kernel_rfl
theorem zHQ:isSubtype (.type "str") (.type "frozenset")=pure false:=by rw[isSubtype_type];kernel_rfl
set_option maxHeartbeats 3200000 in
theorem zHS{prog:Program}{w:World}{A:Around}{E:Value->Shared->Prop}{s:Shared}{z:Str}{t:Tok}{Q:Value->Shared->Prop}
  (hh:A.handled=none) (hb:z.cps.size+1<scanBound)
  (h:∀(h':Heap)(tk:Nat)(ks:List Str),L2.SetZ prog w h' s.heap.objs.size (!w.params.followText "set-order") ks->(∀c,c∈ks↔∃j d,j<z.cps.size/\z.cps[j]?=some d/\c=⟨#[d]⟩) ->
   (∀b o,b<s.heap.objs.size->s.heap.get? b=some o->h'.get? b=some o)->s.heap.objs.size<h'.objs.size->Q (.ref s.heap.objs.size) { s with heap:=h',toks:=tk }) :
  wpAny (model prog w) A (call (.type "set") [.str z t]) Q E s:=by
 obtain⟨c,tl,hmro⟩:=F.called_set.mro;have hmade:=F.called_set.made;have hsub:=F.called_set.sub;refine wpAny_call (codeAny_of_tree ?_);show wpAny _ _ (callAny (.type "set") _) _ _ _;refine wpAny_pure ⟨Code.quiet_builtin _ (by decide +kernel),codeAny_builtin F.entry_type_call ?_⟩;rw[Around.under_plain (weight_type_call_type "set" [.str z t] []) rfl];have h1:=F.called_set.notType;have h2:=F.called_set.canCreate;have hct:=F.typeCall_set_1 (.str z t)
 repeat (any_goals (first|assumption|wp_step))
 refine codeAny_mono (zHR (.str z t) (E:=E) (Q₁:=fun obj s₁=>obj=.ref s.heap.objs.size/\s₁={ s with heap:=s.heap.push { cls:=.type "set",dict:=none,data:=.set #[] 0 (.fresh 0 0 (!w.params.followText "set-order")) } }) ⟨rfl,rfl⟩) fun r s₁ hr=>?_
 generalize(!w.params.followText "set-order")=led at hr h
 cases r with
 |error e=>exact hr
 |ok fl=>
  cases fl with
  |ret obj=>
   obtain⟨rfl,rfl⟩:=hr;have hS:(s.heap.push { cls:=.type "set",dict:=none,data:=.set #[] 0 (.fresh 0 0 led) }).get? s.heap.objs.size=some { cls:=.type "set",dict:=none,data:=.set #[] 0 (.fresh 0 0 led) }:=Heap.get?_push_size _ rfl;have hT:Shared.TypeIs { s with heap:=s.heap.push { cls:=.type "set",dict:=none,data:=.set #[] 0 (.fresh 0 0 led) } } (.ref s.heap.objs.size) "set":=⟨_,hS,rfl⟩
   have hli:=F.called_set.init.lookup;have hbi:=F.called_set.init.bind (.ref s.heap.objs.size)
   repeat (any_goals (first|assumption|wp_step))
   refine codeAny_mono (codeAny_call_builtin (R:=wants (fun r s₂=>r=.none/\∃h' tk ks,s₂={ s with heap:=h',toks:=tk }/\L2.SetZ prog w h' s.heap.objs.size led ks/\(∀c,c∈ks↔∃j d,j<z.cps.size/\z.cps[j]?=some d/\c=⟨#[d]⟩) /\
     (∀b o,b<s.heap.objs.size->s.heap.get? b=some o->h'.get? b=some o)) E) F.called_set.init.plain F.entry_set_init (check_set_init_1 hT ?_)) fun r₂ s₂ hr₂=>?_
   ·have hsls:=zJL;have hslf:=zHQ;have hne:(Value.type "str" == Value.type "dict")=false:=by decide
    unfold Builtin.«set.__init__» noKeywords Builtin.Frozenset.updateFrom
    generalize hPI:pyIter=PI
    wp_walk
    subst hPI;refine wpAny_pyIter_str fun o St W hst=>?_
    refine wpAny_bind (wpAny_runValue ?_);have hh3:A.in1.in1.in1.handled=none:=by simp[hh]
    have hSf:s.heap.objs.size∉[(s.heap.push { cls:=.type "set",dict:=none,data:=.set #[] 0 (.fresh 0 0 led) }).objs.size]:=by
     rw[Heap.size_push];simp only[qAb,qBe,or_false];exact qAn (qBv _)
    refine L2.loopZ (led:=led) (W _ hh3).toS s.heap.objs.size hSf hb (z.cps.size-0) 0 _ [] (by omega) (qAk _) hst ?hS0 (qA7 _) (fun c=>⟨fun z=>by simp at z,fun⟨j,d,hj,_⟩=>by omega⟩) ?hR
    case hS0=>
     exact⟨_,#[],0,_,Heap.get?_push_of_some _ hS,⟨rfl,rfl,rfl⟩,rfl,fun e he=>by simp at he,rfl,.nil,by decide,rfl,rfl,fun z=>by simp at z⟩
    case hR=>
     intro s' ks hm hS' hk;obtain⟨h',g',d',tk',os'⟩:=s';have eg:g'=s.gens:=hm.gens;have ed:d'=s.drawn:=hm.drawn;have eo:os'=s.os:=hm.os;subst eg;subst ed;subst eo;show wpAny _ _ _ _ _ _;refine wpAny_pure ?_;show wpAny _ _ (ret Value.none) _ _ _;refine wpAny_pure ⟨rfl,h',tk',ks,rfl,hS',hk,fun b o hb e=>?_⟩;have hb1:b≠s.heap.objs.size:=qAn hb;have hb2:b≠(s.heap.push { cls:=.type "set",dict:=none,data:=.set #[] 0 (.fresh 0 0 led) }).objs.size:=by
      rw[Heap.size_push];exact qAn (qBh hb)
     exact hm.heap b o (by simp only[qAb,qBe,or_false,not_or];exact⟨hb1,hb2⟩) (Heap.get?_push_of_some _ (Heap.get?_push_of_some _ e))
   ·cases r₂ with
    |error e=>exact hr₂
    |ok fl₂=>
     cases fl₂ with
     |ret r=>
      obtain⟨rfl,h',tk,ks,rfl,hS',hk,hk'⟩:=hr₂
      repeat (any_goals (first|assumption|wp_step))
      exact h _ _ ks hS' hk hk' (by obtain⟨o,_,_,_,ho,_⟩:=hS';exact Heap.lt_size ho)
     |_=>exact hr₂.elim
  |_=>exact hr.elim
end PySem
namespace L2
open PySem PySem.Spec PyProof.Rows
theorem slot_si_next:Slot "set_iterator" "__next__" "set_iterator.__next__":=
 .of (owner:="set_iterator") (n:="__next__") (by rw[typeLookup_type,builtinLookup_eq_fast];kernel_rfl) (by decide +kernel) (by decide +kernel) (by decide +kernel)
  (by first|exact .inl (by decide +kernel)|exact .inr (by decide +kernel)) (by rw[isSubtype_type];kernel_rfl)
theorem zF0:Slot "set_iterator" "__iter__" "set_iterator.__iter__":=
 .of (owner:="set_iterator") (n:="__iter__") (by rw[typeLookup_type,builtinLookup_eq_fast];kernel_rfl) (by decide +kernel) (by decide +kernel) (by decide +kernel)
  (by first|exact .inl (by decide +kernel)|exact .inr (by decide +kernel)) (by rw[isSubtype_type];kernel_rfl)
theorem zBY:entryFor table "set_iterator.__next__" = some Builtin.«set_iterator.__next__»:=entryFor_of_fast (by kernel_rfl)
theorem zIJ:entryFor table "set_iterator.__iter__" = some Builtin.«dict_keyiterator.__iter__»:=entryFor_alias (id':="dict_keyiterator.__iter__") (by kernel_rfl) rfl (by decide +kernel) (by kernel_rfl)
theorem zGJ:entryFor table "set.__iter__" = some Builtin.«frozenset.__iter__»:=entryFor_alias (id':="frozenset.__iter__") (by kernel_rfl) rfl (by decide +kernel) (by kernel_rfl)
theorem zCE(a:Value):argsOk "set_iterator.__next__" ⟨[a],[]⟩:=by unfold argsOk;kernel_rfl
theorem zKX(a:Value):argsOk "set_iterator.__iter__" ⟨[a],[]⟩:=by unfold argsOk;kernel_rfl
def IsSI(h:Heap)(it:Addr)(vs:Array Value):Prop:=∃o,h.get? it=some o/\o.cls=.type "set_iterator"/\o.data=.fields vs
section
variable{prog:Program}{w:World}{A:Around}{E:Value->Shared->Prop}{s:Shared}
theorem zPZ{it:Addr}{vs:Array Value}{Q:Value->Shared->Prop}(hit:IsSI s.heap it vs)(h:Q (.ref it) s):wpAny (model prog w) A (pyIter (.ref it)) Q E s:=by
 obtain⟨o,ho,hc,hd⟩:=hit;have hT:s.TypeIs (.ref it) "set_iterator":=⟨o,ho,hc⟩
 refine wpAny_pyIter_slot hT zF0 (wpAny_call_entry zF0 hT zIJ ?_ (zKX _));show wpAny _ _ (ret (.ref it)) _ _ s;exact wpAny_pure ⟨_,rfl,"set_iterator",_,hT,slot_si_next.lookup,h⟩
theorem zPY{P:Fin->Shared->Prop}{E':Value->Shared->Prop}(hh:A.handled=none)(h:∀x h',Heap.ExtBut s.heap.objs.size s.heap h'->(∀b o,s.heap.get? b=some o->h'.get? b=some o)->(∃ox,h'.get? x=some ox/\ox.cls=.type "StopIteration")->E' (.ref x) { s with heap:=h' }) :
  wpAny (model prog w) A (newExc (.type "StopIteration") [] >>= fun x=>(raiseNew x:Sem Fin)) P E' s:=by
 refine wpAny_bind ?_;simp only[newExc,newTuple];refine wpAny_bind (wpAny_newObj_type ?_ (by size_fits));refine wpAny_bind (m:=firstArgMember _ _) (wpAny_of_eq (a:=Value.none) (by first|rfl|(simp only[firstArgMember];rfl)) ?_);refine wpAny_newObj_type ?_ (by size_fits);simp only[raiseNew];refine wpAny_bind (wpAny_handled ?_);rw[hh];refine wpAny_bind (wpAny_pure (wpAny_throw ?_));exact h _ _ (fun b o hb e=>Heap.get?_push_of_some _ (Heap.get?_push_of_some _ e)) (fun b o e=>Heap.get?_push_of_some _ (Heap.get?_push_of_some _ e)) ⟨_,Heap.get?_push_size _ rfl,rfl⟩
theorem zJI{it a:Addr}{es:Array (Int×Value)}{ep:Nat}{tb:SetTable}{os:Obj}{sl i nx:Nat}{x:Value}{Q:Option Value->Shared->Prop}(hne:a≠it)
  (hit:IsSI s.heap it #[.int sl 0,.int i 0,.ref a,.int es.size 0,.int ep 0]) (ho:s.heap.get? a=some os) (hd:os.data=.set es ep tb) (hf:tb.fits es.size=true)
  (hN:∀(s:Shared)(Q:Option (Value×Nat)->Shared->Prop)(A:Around)(E:Value->Shared->Prop),s.heap.get? a=some os->Q (some (x,nx)) s->wpAny (model prog w) A (setNext a sl i ep) Q E s)
  (hQ:∀h',IsSI h' it #[.int nx 0,.int (i+1:Nat) 0,.ref a,.int es.size 0,.int ep 0]->Heap.SameBut it s.heap h'->Q (some x) { s with heap:=h' }) :
  wpAny (model prog w) A (pyNext (.ref it)) Q E s:=by
 obtain⟨o,hoi,hc,hdi⟩:=hit;have hT:s.TypeIs (.ref it) "set_iterator":=⟨o,hoi,hc⟩
 unfold pyNext;refine wpAny_bind (wpAny_attempt (wpAny_callSpecial?_slot (name:=Str.ofString "__next__") hT slot_si_next (wpAny_call_entry slot_si_next hT zBY ?_ (zCE _))));unfold Builtin.«set_iterator.__next__»;refine wpAny_bind (m:=slotArgs "__next__" 0 _) (wpAny_pure ?_);refine wpAny_bind (wpAny_fieldsOf hoi hdi ?_);dsimp only;refine wpAny_bind (wpAny_setEntries_of ho hd hf ?_);rw[if_neg (by simp)];refine wpAny_bind (hN _ _ _ _ ho ?_);dsimp only;refine wpAny_bind (wpAny_setField hoi hdi (by simp) ?_);have e1:=Heap.get?_update_self (Obj.mapFields (·.setIfInBounds 0 (rawInt (nx:Nat)))) hoi (Obj.isFreed_of_fields (Obj.data_mapFields hdi _));refine wpAny_bind (wpAny_setField e1 (Obj.data_mapFields hdi _) (by simp) ?_);have e2:=Heap.get?_update_self (Obj.mapFields (·.setIfInBounds 1 (rawInt ((i:Int)+1)))) e1 (Obj.isFreed_of_fields (Obj.data_mapFields (Obj.data_mapFields hdi _) _));refine wpAny_pure ⟨x,rfl,wpAny_pure (hQ _ ⟨_,e2,?_,?_⟩ ((Heap.SameBut.update ..).trans (Heap.SameBut.update ..)))⟩
 ·rw[Obj.cls_mapFields,Obj.cls_mapFields,hc]
 ·rw[Obj.data_mapFields (Obj.data_mapFields hdi _)];simp[rawInt]
theorem zL8{it a:Addr}{es:Array (Int×Value)}{ep:Nat}{tb:SetTable}{os:Obj}{sl i:Nat}{Q:Option Value->Shared->Prop}(hh:A.handled=none)(hne:a≠it)
  (hit:IsSI s.heap it #[.int sl 0,.int i 0,.ref a,.int es.size 0,.int ep 0]) (ho:s.heap.get? a=some os) (hd:os.data=.set es ep tb) (hf:tb.fits es.size=true)
  (hN:∀(s:Shared)(Q:Option (Value×Nat)->Shared->Prop)(A:Around)(E:Value->Shared->Prop),s.heap.get? a=some os->Q none s->wpAny (model prog w) A (setNext a sl i ep) Q E s)
  (hQ:∀h',Heap.ExtBut it s.heap h'->Q none { s with heap:=h' }) :
  wpAny (model prog w) A (pyNext (.ref it)) Q E s:=by
 obtain⟨o,hoi,hc,hdi⟩:=hit;have hT:s.TypeIs (.ref it) "set_iterator":=⟨o,hoi,hc⟩
 unfold pyNext;refine wpAny_bind (wpAny_attempt (wpAny_callSpecial?_slot (name:=Str.ofString "__next__") hT slot_si_next (wpAny_call_entry slot_si_next hT zBY ?_ (zCE _))));unfold Builtin.«set_iterator.__next__»;refine wpAny_bind (m:=slotArgs "__next__" 0 _) (wpAny_pure ?_);refine wpAny_bind (wpAny_fieldsOf hoi hdi ?_);dsimp only;refine wpAny_bind (wpAny_setEntries_of ho hd hf ?_);rw[if_neg (by simp)];refine wpAny_bind (hN _ _ _ _ ho ?_);dsimp only;refine wpAny_bind (wpAny_setField hoi hdi (by simp) ?_);refine zPY hh fun x h' _ hk hx=>?_
 obtain⟨ox,hox,hcx⟩:=hx;refine wpAny_bind (wpAny_isInstance (T:="StopIteration") (b:=true) ⟨ox,hox,hcx⟩ isSubtype_stop ?_);exact wpAny_pure (hQ _ fun b o' hb e=>hk b o' ((Heap.get?_update_other _ _ (qCf hb)).trans e))
theorem zJJ{it a T:Addr}{es:Array (Int×Value)}{ep:Nat}{tb:SetTable}{os:Obj}{i p:Nat}{t0:Tok}{h0:Int}{x:Value}{ps:Array Value}{Q:Option Value->Shared->Prop}(hne:a≠it)
  (hit:IsSI s.heap it #[.ref T,.int i 0,.ref a,.int es.size 0,.int ep 0]) (ho:s.heap.get? a=some os) (hd:os.data=.set es ep tb) (hf:tb.fits es.size=true)
  (hT0:∃oT n,s.heap.get? T=some oT/\oT.data=.seq ps n) (hp:ps[i]?=some (.int p t0)) (hx:es[p]?=some (h0,x))
  (hQ:∀h',IsSI h' it #[.ref T,.int (i+1:Nat) 0,.ref a,.int es.size 0,.int ep 0]->Heap.SameBut it s.heap h'->Q (some x) { s with heap:=h' }) :
  wpAny (model prog w) A (pyNext (.ref it)) Q E s:=by
 obtain⟨o,hoi,hc,hdi⟩:=hit;obtain⟨oT,nT,hoT,hdT⟩:=hT0;have hT:s.TypeIs (.ref it) "set_iterator":=⟨o,hoi,hc⟩
 unfold pyNext;refine wpAny_bind (wpAny_attempt (wpAny_callSpecial?_slot (name:=Str.ofString "__next__") hT slot_si_next (wpAny_call_entry slot_si_next hT zBY ?_ (zCE _))));unfold Builtin.«set_iterator.__next__»;refine wpAny_bind (m:=slotArgs "__next__" 0 _) (wpAny_pure ?_);refine wpAny_bind (wpAny_fieldsOf hoi hdi ?_);dsimp only;refine wpAny_bind (wpAny_setEntries_of ho hd hf ?_);rw[if_neg (by simp)];refine wpAny_bind (wpAny_seqItems hoT hdT ?_);dsimp only;simp only[qBo,hp];refine wpAny_bind ?_;unfold setNextDrawn;refine wpAny_bind (wpAny_setState_of ho hd hf ?_);dsimp only;rw[if_neg (by simp)];simp only[qBo,hx];refine wpAny_pure ?_;refine wpAny_bind (wpAny_setField hoi hdi (by simp) ?_);have e1:=Heap.get?_update_self (Obj.mapFields (·.setIfInBounds 1 (rawInt ((i:Int)+1)))) hoi (Obj.isFreed_of_fields (Obj.data_mapFields hdi _));refine wpAny_pure ⟨x,rfl,wpAny_pure (hQ _ ⟨_,e1,?_,?_⟩ (Heap.SameBut.update ..))⟩
 ·rw[Obj.cls_mapFields,hc]
 ·rw[Obj.data_mapFields hdi];simp[rawInt]
theorem zL9{it a T:Addr}{es:Array (Int×Value)}{ep:Nat}{tb:SetTable}{os:Obj}{i:Nat}{ps:Array Value}{Q:Option Value->Shared->Prop}(hh:A.handled=none)(hne:a≠it)
  (hit:IsSI s.heap it #[.ref T,.int i 0,.ref a,.int es.size 0,.int ep 0]) (ho:s.heap.get? a=some os) (hd:os.data=.set es ep tb) (hf:tb.fits es.size=true)
  (hT0:∃oT n,s.heap.get? T=some oT/\oT.data=.seq ps n) (hp:ps[i]?=none)
  (hQ:∀h',Heap.ExtBut it s.heap h'->Q none { s with heap:=h' }) :
  wpAny (model prog w) A (pyNext (.ref it)) Q E s:=by
 obtain⟨o,hoi,hc,hdi⟩:=hit;obtain⟨oT,nT,hoT,hdT⟩:=hT0;have hT:s.TypeIs (.ref it) "set_iterator":=⟨o,hoi,hc⟩
 unfold pyNext;refine wpAny_bind (wpAny_attempt (wpAny_callSpecial?_slot (name:=Str.ofString "__next__") hT slot_si_next (wpAny_call_entry slot_si_next hT zBY ?_ (zCE _))));unfold Builtin.«set_iterator.__next__»;refine wpAny_bind (m:=slotArgs "__next__" 0 _) (wpAny_pure ?_);refine wpAny_bind (wpAny_fieldsOf hoi hdi ?_);dsimp only;refine wpAny_bind (wpAny_setEntries_of ho hd hf ?_);rw[if_neg (by simp)];refine wpAny_bind (wpAny_seqItems hoT hdT ?_);dsimp only;simp only[qBo,hp];refine wpAny_bind (wpAny_setField hoi hdi (by simp) ?_);have e1:=Heap.get?_update_self (Obj.mapFields (·.setIfInBounds 0 (rawInt 0))) hoi (Obj.isFreed_of_fields (Obj.data_mapFields hdi _));refine wpAny_bind (wpAny_setField e1 (Obj.data_mapFields hdi _) (by simp) ?_);refine zPY hh fun x h' _ hk hx=>?_
 obtain⟨ox,hox,hcx⟩:=hx;refine wpAny_bind (wpAny_isInstance (T:="StopIteration") (b:=true) ⟨ox,hox,hcx⟩ isSubtype_stop ?_);exact wpAny_pure (hQ _ fun b o' hb e=>hk b o' ((Heap.get?_update_other _ _ (qCf hb)).trans ((Heap.get?_update_other _ _ (qCf hb)).trans e)))
end
end L2
namespace L2
open PySem PySem.Spec PyProof.Rows
section
variable{prog:Program}{w:World}{A:Around}{E:Value->Shared->Prop}{s:Shared}
theorem zJ6(hh:A.handled=none){it a:Addr}(hne:a≠it){es:Array (Int×Value)}{ep:Nat}{tb:SetTable}{os:Obj}(hd:os.data=.set es ep tb)(hf:tb.fits es.size=true)(vs:Nat->Value)(sl:Nat->Nat)
  (hN:∀i,i<es.size->∀(s:Shared)(Q:Option (Value×Nat)->Shared->Prop)(A:Around)(E:Value->Shared->Prop),s.heap.get? a=some os->Q (some (vs i,sl (i+1))) s->wpAny (model prog w) A (setNext a (sl i) i ep) Q E s)
  (hE:∀(s:Shared)(Q:Option (Value×Nat)->Shared->Prop)(A:Around)(E:Value->Shared->Prop),s.heap.get? a=some os->Q none s->wpAny (model prog w) A (setNext a (sl es.size) es.size ep) Q E s) :
  Walks prog w A it [it,a] [it] es.size (fun i v=>v=vs i) (fun i h=>IsSI h it #[.int (sl i) 0,.int i 0,.ref a,.int es.size 0,.int ep 0]/\h.get? a=some os) where
 sub:=fun b hb=>by simp at hb;simp[hb]
 frame:=fun i h h' st hk=>⟨let⟨o,ho,r⟩:=st.1;⟨o,hk it (by simp) o ho,r⟩,hk a (by simp) _ st.2⟩
 item:=fun i s Q E hi st hQ=>by
  have hs:s={ s with toks:=s.toks }:=by cases s;rfl
  refine zJI hne st.1 st.2 hd hf (hN i hi) fun h' hit' hs'=>?_
  exact hQ _ h' s.toks rfl ⟨hit',(hs'.2 a hne).trans st.2⟩ fun b o hb e=>(hs'.2 b fun z=>hb (by simp[z])).trans e
 done:=fun s Q E st hQ=>by
  refine zL8 hh hne st.1 st.2 hd hf hE fun h' he'=>?_
  exact hQ h' s.toks fun b o hb e=>he' b o (fun z=>hb (by simp[z])) e
 self:=fun i s Q E st hQ=>zPZ st.1 hQ
theorem zPM(hh:A.handled=none){it a T:Addr}(hne:a≠it)(hTi:T≠it){es:Array (Int×Value)}{ep:Nat}{tb:SetTable}{os oT:Obj}{nT:Nat}(hd:os.data=.set es ep tb)(hf:tb.fits es.size=true)(ps:List Nat)(hps:ps.length=es.size)(hlt:∀p∈ps,p<es.size)(hdT:oT.data=.seq (ps.map fun p:Nat=>rawInt (p:Int)).toArray nT) :
  Walks prog w A it [it,a,T] [it] es.size (fun i v=>∃p h0,ps[i]?=some p/\es[p]?=some (h0,v)) (fun i h=>IsSI h it #[.ref T,.int i 0,.ref a,.int es.size 0,.int ep 0]/\h.get? a=some os/\h.get? T=some oT) where
 sub:=fun b hb=>by simp at hb;simp[hb]
 frame:=fun i h h' st hk=>⟨let⟨o,ho,r⟩:=st.1;⟨o,hk it (by simp) o ho,r⟩,hk a (by simp) _ st.2.1,hk T (by simp) _ st.2.2⟩
 item:=fun i s Q E hi st hQ=>by
  have hpi:ps[i]?=some ps[i]:=qA2 (by omega);have hpl:ps[i]<es.size:=hlt _ (qBz _);have hx:es[ps[i]]?=some (es[ps[i]].1,es[ps[i]].2):=by simp[hpl]
  refine zJJ (p:=ps[i]) (t0:=0) hne st.1 st.2.1 hd hf ⟨oT,nT,st.2.2,hdT⟩ (by rw[List.getElem?_toArray,qAh,hpi];rfl) hx fun h' hit' hs'=>?_
  exact hQ _ h' s.toks ⟨_,_,hpi,hx⟩ ⟨hit',(hs'.2 a hne).trans st.2.1,(hs'.2 T hTi).trans st.2.2⟩ fun b o hb e=>(hs'.2 b fun z=>hb (by simp[z])).trans e
 done:=fun s Q E st hQ=>by
  refine zL9 hh hne st.1 st.2.1 hd hf ⟨oT,nT,st.2.2,hdT⟩ (by simp[hps]) fun h' he'=>?_
  exact hQ h' s.toks fun b o hb e=>he' b o (fun z=>hb (by simp[z])) e
 self:=fun i s Q E st hQ=>zPZ st.1 hQ
theorem zET{α:Type}:∀(l:List α){i:Nat}(h:i<l.length),(l[i]::l.eraseIdx i).Perm l
 |a::r,0,h=>by simp
 |a::r,i+1,h=>by
  have:=zET r (i:=i) (by simpa using h)
  simp only[qDe,qBk];exact(qFi _ _ _).trans (this.cons a)
theorem zHE{α:Type}:∀(n:Nat)(xs:List α)(s:Shared)(Q:List α->Shared->Prop),xs.length=n->(∀ys d,ys.Perm xs->Q ys { s with drawn:=d })->wpAny (model prog w) A (drawOrder n xs) Q E s
 |0,xs,s,Q,hl,h=>by
  have e:xs=[]:=qD6.mp hl;subst e;unfold drawOrder
  have:=h [] s.drawn (qH3 _)
  exact wpAny_pure this
 |n+1,[],s,Q,hl,h=>by simp at hl
 |n+1,x::xs,s,Q,hl,h=>by
  unfold drawOrder;refine wpAny_bind (zHI (by simp) fun i d hi=>?_);have hget:(x::xs)[i]?=some ((x::xs)[i]'hi):=qA2 hi;rw[hget];dsimp only;refine wpAny_bind (zHE n _ _ _ (by rw[qBn hi];simp at hl ⊢;omega) fun ys d' hp=>wpAny_pure ?_);exact h _ d' ((hp.cons _).trans (zET _ hi))
theorem zQD{α:Type}(next:Nat->Nat):∀(fuel k:Nat)(left:List α)(out:Array α),left.length=fuel->(pickOrder.go next fuel k left out).toList.Perm (out.toList++left)
 |0,k,left,out,hl=>by
  have e:left=[]:=qD6.mp hl;subst e;simp[pickOrder.go]
 |fuel+1,k,left,out,hl=>by
  unfold pickOrder.go;have hi:next k%left.length<left.length:=qBy _ (by omega)
  have hget:left[next k%left.length]?=some (left[next k%left.length]'hi):=qA2 hi;rw[hget];dsimp only;refine(zQD next fuel (k+1) _ _ (by rw[qBn hi];omega)).trans ?_;rw[qG5,qCb];exact qCo _ (zET left hi)
theorem zFW(next:Nat->Nat){α:Type}(xs:Array α):(pickOrder next xs).toList.Perm xs.toList:=by
 have:=zQD next xs.size 0 xs.toList #[] (by simp)
 unfold pickOrder
 simpa using this
theorem zEB{es:List (Int×Value)}(h:ElemsOf (strKind prog w) es):StrsAre (es.map (·.2)) (es.map fun e=>strOf e.2):=by
 induction es with
 |nil=>exact .nil
 |cons e r ih=>
  obtain⟨k,t,e1⟩:=zIK h (qAz ..)
  have:=ih h.tail
  rw[qAi,qAi,e1];exact .cons k t this
theorem zOE{vs:List Value}{zs:List Str}{acc:Array Value}{n:Nat}{P:Nat->Value->Prop}(hi:ItemsOf P acc n)(hn:vs.length=n)(hP:∀i v,i<n->P i v->vs[i]?=some v)(hz:StrsAre vs zs):StrsAre acc.toList zs:=by
 have:acc.toList=vs:=by
  refine List.ext_getElem? fun i=>?_
  by_cases h:i<n
  ·have hs:i<acc.size:=by rw[hi.1];exact h
   have h1:acc[i]?=some acc[i]:=by simp[hs]
   rw[qB6,h1,hP i _ h (hi.2 i _ h1)]
  ·rw[qCp (by simp[hi.1];omega),qCp (by omega)]
 rw[this];exact hz
theorem zRB{a:Addr}{ks:List Str}(hS:SetZ prog w s.heap a (!w.params.followText "set-order") ks)(hk:ks≠[]){Q:Value->Shared->Prop}
  (hQ:∀(it:Addr)(h2:Heap)(d2:Drawn)(fp:List Addr)(St:Nat->Heap->Prop)(P:Nat->Value->Prop)(vs:List Value)(zs:List Str),(∀A':Around,A'.handled=none->Walks prog w A' it fp [it] ks.length P St)->(∀i v,i<ks.length->P i v->vs[i]?=some v)->vs.length=ks.length->StrsAre vs zs->zs.Perm ks ->
   St 0 h2->(∀b∈fp,b<h2.objs.size)->(∀b∈fp,b=a\/s.heap.objs.size<=b)->s.heap.objs.size<=it->(∀b o,s.heap.get? b=some o->h2.get? b=some o)->Q (.ref it) { s with heap:=h2,drawn:=d2 }) :
  wpAny (model prog w) A (pyIter (.ref a)) Q E s:=by
 obtain⟨o,es,ep,t,ho,hex,hd,hel,hks,hnd,hb,hf,hled,hpl⟩:=hS;have hn:es.size=ks.length:=by rw[<- hks,qAm,qB2]
 have hn1:0<es.size:=by rw[hn];exact List.length_pos_iff.mpr hk
 have hpl:=hpl hn1;have hT:s.TypeIs (.ref a) "set":=⟨o,ho,hex.1⟩
 have hlt:a<s.heap.objs.size:=Heap.lt_size ho;refine wpAny_pyIter_slot hT qF7 (wpAny_call_entry qF7 hT zGJ ?_ (PySem.F.args_set_iter_1 _));unfold Builtin.«frozenset.__iter__»;refine wpAny_bind (m:=Builtin.Frozenset.slot0 "__iter__" _) (wpAny_pure ?_);refine wpAny_bind (m:=Builtin.Frozenset.sizeOf a) (wpAny_bind (wpAny_setEntries_of ho hd hf (wpAny_pure ?_)));refine wpAny_bind (m:=setDrawn a) ?_;unfold setDrawn;refine wpAny_bind (wpAny_setState_of ho hd hf ?_);dsimp only;unfold setsByText;refine wpAny_bind (wpAny_bind (wpAny_askSetting (wpAny_pure ?_)));refine wpAny_pure ?_;show wpAny _ _ (if(!w.params.followText "set-order" && (!t.plain&&decide (es.size>1)))=true then _ else _) _ _ _;rw[hpl];have ne1:a≠s.heap.objs.size:=qAn hlt;rw[<- hn]at hQ;cases hbt:w.params.followText "set-order" with
 |true=>
  rw[if_neg (by simp)];refine wpAny_bind (wpAny_pure ?_);refine wpAny_bind (wpAny_setEpoch_of ho hd hf ?_);refine wpAny_bind (wpAny_newObj_type (wpAny_pure ⟨_,rfl,"set_iterator",_,⟨_,Heap.get?_push_size _ rfl,rfl⟩,slot_si_next.lookup,?_⟩));have hpk:=zFW (w.params.setOrder a ep) es;have hpl':(pickOrder (w.params.setOrder a ep) es).size=es.size:=by rw[<- qB2,hpk.length_eq,qB2]
  generalize hpo:pickOrder (w.params.setOrder a ep) es=pk at hpk hpl'
  have hnext:∀(i:Nat)(s:Shared)(Q:Option (Value×Nat)->Shared->Prop)(A:Around)(E:Value->Shared->Prop),s.heap.get? a=some o->Q ((pk[i]?).map fun e=>(e.2,0)) s->wpAny (model prog w) A (setNext a 0 i ep) Q E s:=by
   intro i s Q A E ho' hq;unfold setNext;refine wpAny_bind (wpAny_setState_of ho' hd hf ?_);dsimp only;unfold setsByText;refine wpAny_bind (wpAny_bind (wpAny_askSetting (wpAny_pure ?_)));show wpAny _ _ (if w.params.followText "set-order" = true then _ else _) _ _ _;rw[hbt,if_pos rfl];rw[if_neg (by simp)];refine wpAny_bind ?_;unfold setWalk;refine wpAny_bind (wpAny_setState_of ho' hd hf ?_);dsimp only;unfold setsByText;refine wpAny_bind (wpAny_bind (wpAny_askSetting (wpAny_pure ?_)));show wpAny _ _ (if w.params.followText "set-order" = true then _ else _) _ _ _;rw[hbt,if_pos rfl];refine wpAny_bind (wpAny_askSetting ?_);refine wpAny_pure ?_;show wpAny _ _ (pure (((pickOrder (w.params.setOrder a ep) es)[i]?).map fun e=>(e.2,0))) _ _ _;rw[hpo];exact wpAny_pure hq
  refine hQ s.heap.objs.size _ s.drawn [s.heap.objs.size,a] _ _ (pk.toList.map (·.2)) (pk.toList.map fun e=>strOf e.2) (fun A' hA'=>zJ6 hA' ne1 hd hf (fun i=>((pk[i]?).map (·.2)).getD .none) (fun _=>0) (fun i hi s Q A E ho' hq=>hnext i s Q A E ho' ?_) (fun s Q A E ho' hq=>hnext _ s Q A E ho' ?_)) (fun i v hi hv=>?_) (by rw[qAm,qB2,hpl']) (zEB (hel.perm hpk)) (by rw[<- hks];exact hpk.map _) ⟨⟨_,Heap.get?_push_size _ rfl,rfl,rfl⟩,Heap.get?_push_of_some _ ho⟩ (fun b hb=>?_) (fun b hb=>by simp only[qAb,qBe,or_false]at hb;rcases hb with rfl|rfl;exact .inr (qA7 _);exact .inl rfl) (qA7 _) (fun b o e=>Heap.get?_push_of_some _ e)
  ·have:pk[i]?=some pk[i]:=by simp[hpl',hi]
   rw[this]at hq ⊢;exact hq
  ·have:pk[es.size]?=none:=by simp[hpl']
   rw[this];exact hq
  ·rw[hv,qAh,qB6]
   have:pk[i]?=some pk[i]:=by simp[hpl',hi]
   rw[this];rfl
  ·show b<(s.heap.push _).objs.size;rw[Heap.size_push];simp only[qAb,qBe,or_false]at hb
   rcases hb with rfl|rfl
   ·exact qBv _
   ·exact qBh hlt
 |false=>
  by_cases h2:1<es.size
  ·rw[if_pos (by simp[h2])];refine wpAny_bind (zHE es.size (qA6 es.size) s _ (by simp) fun ps d hps=>?_);have hpn:ps.length=es.size:=by rw[hps.length_eq,qG6]
   refine wpAny_bind (wpAny_newTuple ?_ (hsz:=by rw[qAm,hpn];exact fits_of_scanBound hb));have ho1:(s.heap.push (seqObj "tuple" (ps.map fun i:Nat=>rawInt (i:Int)).toArray 0)).get? a=some o:=Heap.get?_push_of_some _ ho;refine wpAny_bind (wpAny_setEpoch_of (s:={ heap:=s.heap.push (seqObj "tuple" (ps.map fun i:Nat=>rawInt (i:Int)).toArray 0),gens:=s.gens,drawn:=d,toks:=s.toks,os:=s.os }) ho1 hd hf ?_);refine wpAny_bind (wpAny_newObj_type (wpAny_pure ⟨_,rfl,"set_iterator",_,⟨_,Heap.get?_push_size _ rfl,rfl⟩,slot_si_next.lookup,?_⟩));have hsz:(s.heap.push (seqObj "tuple" (ps.map fun i:Nat=>rawInt (i:Int)).toArray 0)).objs.size=s.heap.objs.size+1:=Heap.size_push _ _;have hpl3:∀p∈ps,p<es.size:=fun p hp=>qCi.mp (hps.mem_iff.mp hp)
   have hvs:∀(i:Nat)(v:Value),(∃(p:Nat)(h0:Int),ps[i]?=some p/\es[p]?=some (h0,v))->(ps.map fun p=>((es[p]?).map (·.2)).getD .none)[i]?=some v:=fun i v ⟨p,h0,e1,e2⟩=>by
    rw[qAh,e1];show some (((es[p]?).map (·.2)).getD .none)=_;rw[e2];rfl
   have hall:∀f:Int×Value->Str,((qA6 es.size).map fun p=>((es[p]?).map f).getD ⟨#[]⟩)=es.toList.map f:=fun f=>by
    refine qBf (by simp) fun i h1 h2=>?_
    have hi:i<es.size:=by simpa using h1
    simp[hi]
   have hallv:((qA6 es.size).map fun p=>((es[p]?).map (·.2)).getD Value.none)=es.toList.map (·.2):=by
    refine qBf (by simp) fun i h1 h2=>?_
    have hi:i<es.size:=by simpa using h1
    simp[hi]
   have hstr:StrsAre (ps.map fun p=>((es[p]?).map (·.2)).getD .none) (ps.map fun p=>((es[p]?).map fun e=>strOf e.2).getD ⟨#[]⟩):=by
    have gen:∀l:List Nat,(∀p∈l,p<es.size)->StrsAre (l.map fun p=>((es[p]?).map (·.2)).getD .none) (l.map fun p=>((es[p]?).map fun e=>strOf e.2).getD ⟨#[]⟩):=by
     intro l
     induction l with
     |nil=>intro _;exact .nil
     |cons p r ih=>
      intro hl;have hp:=hl p (by simp);have hg:es[p]?=some es[p]:=by simp[hp]
      obtain⟨k,tk,e1⟩:=zIK hel (e:=es[p]) (by rw[<- Array.getElem_toList];exact qBz _);rw[qAi,qAi,hg];show StrsAre (es[p].2::_) (strOf es[p].2::_);rw[e1];exact .cons k tk (ih fun q hq=>hl q (by simp[hq]))
    exact gen ps hpl3
   refine hQ (s.heap.push (seqObj "tuple" (ps.map fun i:Nat=>rawInt (i:Int)).toArray 0)).objs.size _ d [(s.heap.push (seqObj "tuple" (ps.map fun i:Nat=>rawInt (i:Int)).toArray 0)).objs.size,a,s.heap.objs.size] _ _ _ _ (fun A' hA'=>zPM (T:=s.heap.objs.size) (oT:=seqObj "tuple" (ps.map fun i:Nat=>rawInt (i:Int)).toArray 0) hA' (by rw[hsz];exact qAn (qBh hlt)) (by rw[hsz];exact qAn (qBv _)) hd hf ps hpn hpl3 rfl) (fun i v _ hv=>hvs i v hv) (by rw[qAm,hpn]) hstr ?_ ⟨⟨_,Heap.get?_push_size _ rfl,rfl,rfl⟩,Heap.get?_push_of_some _ ho1,Heap.get?_push_of_some _ (Heap.get?_push_size _ rfl)⟩ (fun b hb=>?_) (fun b hb=>by rw[hsz]at hb;simp only[qAb,qBe,or_false]at hb;rcases hb with rfl|rfl|rfl;exact .inr (qC6 _);exact .inl rfl;exact .inr (qA7 _)) (by rw[hsz];exact qC6 _) (fun b o e=>Heap.get?_push_of_some _ (Heap.get?_push_of_some _ e))
   ·rw[<- hks,<- hall];exact hps.map _
   ·show b<(Heap.push _ _).objs.size;rw[Heap.size_push,hsz];rw[hsz]at hb;simp only[qAb,qBe,or_false]at hb
    rcases hb with rfl|rfl|rfl
    ·exact qBv _
    ·exact qBh (qBh hlt)
    ·exact qBh (qBv _)
  ·rw[if_neg (by simp[h2])];refine wpAny_bind (wpAny_pure ?_);refine wpAny_bind (wpAny_setEpoch_of ho hd hf ?_);refine wpAny_bind (wpAny_newObj_type (wpAny_pure ⟨_,rfl,"set_iterator",_,⟨_,Heap.get?_push_size _ rfl,rfl⟩,slot_si_next.lookup,?_⟩));have hs1:es.size=1:=by omega
   have hled':t.led=true:=by rw[hled,hbt];rfl
   have hps1:t.place.size=1:=by
    simp only[SetTable.fits,qBc,beq_iff_eq]at hf;rw[hf.1,hs1]
   obtain⟨es0⟩:=es;obtain⟨e0,rfl⟩:∃e0,es0=[e0]:=qEv.mp (by simpa using hs1);obtain⟨j,hj⟩:∃j,t.place=#[j]:=by
    obtain⟨l⟩:Nonempty Unit:=⟨()⟩
    have:t.place.toList.length=1:=by simpa using hps1
    obtain⟨j,e⟩:=qEv.mp this;exact⟨j,Array.ext' e⟩
   have b0:SetTable.below t.place 0=0:=by rw[hj];simp[SetTable.below,SetTable.below.go]
   have b1:SetTable.below t.place (j+1)=1:=by rw[hj];simp[SetTable.below,SetTable.below.go]
   have hnext:∀(sl i:Nat)(s:Shared)(Q:Option (Value×Nat)->Shared->Prop)(A:Around)(E:Value->Shared->Prop),s.heap.get? a=some o->Q (match(#[e0]:Array (Int×Value))[SetTable.below t.place sl]?,t.place[SetTable.below t.place sl]? with|some (_,x),some j=>some (x,j+1)|_,_=>none) s->wpAny (model prog w) A (setNext a sl i ep) Q E s:=by
    intro sl i s Q A E ho' hq;unfold setNext;refine wpAny_bind (wpAny_setState_of ho' hd hf ?_);dsimp only;unfold setsByText;refine wpAny_bind (wpAny_bind (wpAny_askSetting (wpAny_pure ?_)));show wpAny _ _ (if w.params.followText "set-order" = true then _ else _) _ _ _;rw[hbt,if_neg (by decide)];show wpAny _ _ (if(!t.plain&&decide ((#[e0]:Array (Int×Value)).size>1))=true then _ else _) _ _ _;rw[if_neg (by simp)];refine wpAny_bind ?_;show wpAny _ _ (if(!t.led && !(#[e0]:Array (Int×Value)).isEmpty)=true then _ else _) _ _ _;rw[hled',if_neg (by simp)];exact wpAny_pure (wpAny_pure hq)
   refine hQ s.heap.objs.size _ s.drawn [s.heap.objs.size,a] _ _ [e0.2] [strOf e0.2] (fun A' hA'=>zJ6 hA' ne1 hd hf (fun _=>e0.2) (fun i=>if i=0 then 0 else j+1) (fun i hi s Q A E ho' hq=>hnext _ i s Q A E ho' ?_) (fun s Q A E ho' hq=>hnext _ _ s Q A E ho' ?_)) (fun i v hi hv=>?_) rfl ?_ (by rw[<- hks];exact qH3 _) ⟨⟨_,Heap.get?_push_size _ rfl,rfl,rfl⟩,Heap.get?_push_of_some _ ho⟩ (fun b hb=>?_) (fun b hb=>by simp only[qAb,qBe,or_false]at hb;rcases hb with rfl|rfl;exact .inr (qA7 _);exact .inl rfl) (qA7 _) (fun b o e=>Heap.get?_push_of_some _ e)
   ·have hi0:i=0:=by simp at hi;exact hi
    subst hi0;rw[if_pos rfl,b0,hj]
    simpa using hq
   ·simp only[qAc,qAu,qEz,qC4,Nat.one_ne_zero,if_false,b1]
    simpa using hq
   ·have hi0:i=0:=by simp at hi;exact hi
    subst hi0;rw[hv];rfl
   ·have:=zEB hel
    simpa using this
   ·show b<(s.heap.push _).objs.size;rw[Heap.size_push];simp only[qAb,qBe,or_false]at hb
    rcases hb with rfl|rfl
    ·exact qBv _
    ·exact qBh hlt
end
end L2
namespace L2
open PySem PySem.Spec PyProof.Rows
theorem zWY:typeLookup (.type "set") "__len__" = pure (some (.builtin "set.__len__")):=by rw[typeLookup_type,builtinLookup_eq_fast];kernel_rfl
section
variable{prog:Program}{w:World}{A:Around}{E:Value->Shared->Prop}{s:Shared}
theorem SetZ.type{h:Heap}{a:Addr}{led:Bool}{ks:List Str}(hS:SetZ prog w h a led ks):∃o,h.get? a=some o/\o.cls=.type "set":=by
 obtain⟨o,_,_,_,ho,hex,_⟩:=hS;exact⟨o,ho,hex.1⟩
theorem zKI{a:Addr}{ks:List Str}(hh:A.handled=none)(hS:SetZ prog w s.heap a (!w.params.followText "set-order") ks)(hk:ks≠[])(hlen:ks.length<=sizeLine){Q:List Value->Shared->Prop}
  (hQ:∀(h':Heap)(d:Drawn)(tk:Nat)(acc:List Value)(zs:List Str),StrsAre acc zs->zs.Perm ks->s.heap.objs.size<h'.objs.size->(∀b o,s.heap.get? b=some o->h'.get? b=some o)->Q acc { s with heap:=h',drawn:=d,toks:=tk }) :
  wpAny (model prog w) A (collect (.ref a)) Q E s:=by
 obtain⟨o0,ho0,hc0⟩:=hS.type;have hlt:a<s.heap.objs.size:=Heap.lt_size ho0;unfold collect;refine wpAny_bind (wpAny_runValue (codeAny_builtin PySem.F.entry_proto_collect ?_));rw[Around.under_plainId PySem.F.plain_proto_collect _];show wpAny _ A.in1 (newList [] >>= fun l=>again (.builtin "list.__iadd__" ⟨[l,.ref a],[]⟩)) _ _ s;refine wpAny_bind (wpAny_newObj_type ?_);refine wpAny_pure ⟨plainId_quiet qEh _,codeAny_builtin PySem.F.entry_list_iadd ?_⟩;rw[Around.under_plainId qEh _];show wpAny _ A.in1 (Builtin.List.listExtendWith (.ref s.heap.objs.size) (.ref a) (.ref s.heap.objs.size)) _ _ _;unfold Builtin.List.listExtendWith;have ho1:(s.heap.push { cls:=.type "list",data:=.seq ([]:List Value).toArray }).get? a=some o0:=Heap.get?_push_of_some _ ho0;refine wpAny_bind (wpAny_typeOf (T:="set") ⟨o0,ho1,hc0⟩ ?_);have h1:Builtin.List.listSameRef (.ref s.heap.objs.size) (.ref a)=false:=by simp[Builtin.List.listSameRef];exact qBp hlt
 have h2:(Value.type "set" == Value.type "list")=false:=by decide
 have h3:(Value.type "set" == Value.type "tuple")=false:=by decide
 simp only[h1,h2,h3,qHl,qFu,if_false];refine wpAny_bind (zRB (hS.at fun o e=>Heap.get?_push_of_some _ e) hk fun it h2 d2 fp St P vs zs W hP hvl hsa hzp hst hfp hfa hit hkeep=>?_);have hS1:h2.get? s.heap.objs.size=some { cls:=.type "list",data:=.seq ([]:List Value).toArray }:=hkeep _ _ (Heap.get?_push_size _ rfl);have hsz:(s.heap.push { cls:=.type "list",data:=.seq ([]:List Value).toArray }).objs.size=s.heap.objs.size+1:=Heap.size_push _ _;have hSf:s.heap.objs.size∉fp:=fun hm=>by
  rcases hfa _ hm with e|e
  ·exact qBp hlt e
  ·rw[hsz]at e;exact Nat.not_succ_le_self _ e
 refine wpAny_bind (wpAny_holding ?_);unfold Builtin.List.listLengthHint;have ho2:h2.get? a=some o0:=hkeep _ _ ho1;refine wpAny_bind (wpAny_specialOf (T:="set") (v:=.ref a) ⟨o0,ho2,hc0⟩ zWY ?_)
 wp_delta
 refine wpAny_bind (wpAny_isInstance (T:="set") (v:=.ref a) (b:=true) ⟨o0,ho2,hc0⟩ (by rw[isSubtype_type];kernel_rfl) ?_);show wpAny _ A.in1 (typeOf (Value.ref a) >>= _) _ _ _;refine wpAny_bind (wpAny_typeOf (T:="set") (v:=.ref a) ⟨o0,ho2,hc0⟩ ?_);refine wpAny_pure ?_;show wpAny _ A.in1 (rule "list.extend.makes-room" >>= fun _=>Builtin.List.listTouch (.ref s.heap.objs.size) >>= fun _=>
  again (.builtin "list.extend.loop" ⟨[.ref s.heap.objs.size,.ref it,.ref s.heap.objs.size],[]⟩)) _ _ _
 refine wpAny_bind (wpAny_rule ?_);refine wpAny_bind ?_;show wpAny _ A.in1 (updateSeq s.heap.objs.size (·.push .none) >>= fun _=>updateSeq s.heap.objs.size (·.pop)) _ _ _;refine wpAny_bind (wpAny_updateSeq hS1 rfl ?_);have hS₂:=Heap.get?_update_self (Obj.mapSeq (·.push Value.none)) hS1 rfl;refine wpAny_updateSeq hS₂ rfl ?_;have hS₃:=Heap.get?_update_self (Obj.mapSeq (·.pop)) hS₂ rfl;have oth:∀b o,b≠s.heap.objs.size->h2.get? b=some o->((h2.update s.heap.objs.size (Obj.mapSeq (·.push Value.none))).update s.heap.objs.size (Obj.mapSeq (·.pop))).get? b=some o:=
  fun b o hb e=>(Heap.get?_update_other _ _ (qCf hb)).trans ((Heap.get?_update_other _ _ (qCf hb)).trans e)
 refine wpAny_pure ⟨plainId_quiet PySem.F.plain_extend_loop _,codeAny_extend_loopS (W A.in1 hh).toS hlen _ hSf _ ks.length 0 _ _ _ rfl (qAk _) ((W A.in1 hh).frame 0 h2 _ hst fun b hb o e=>oth b o (fun z=>hSf (z▸hb)) e) hS₃ (ItemsOf.nil P) fun s' acc' c' hm hS' hacc=>?_⟩;show wpAny _ A (load s.heap.objs.size >>= _) _ _ s';refine wpAny_bind (wpAny_load hS' ?_);obtain⟨h',g',d',tk',os'⟩:=s';have eg:g'=s.gens:=hm.gens;have ed:d'=d2:=hm.drawn;have eo:os'=s.os:=hm.os;subst eg;subst ed;subst eo;refine wpAny_pure (hQ h' d' tk' acc'.toList zs (zOE hacc hvl hP hsa) hzp (Heap.lt_size hS') fun b o e=>?_);have hbl:b<s.heap.objs.size:=Heap.lt_size e;refine hm.heap b o (fun hb=>?_) (oth b o (qAn hbl) (hkeep b o (Heap.get?_push_of_some _ e)));simp only[qAb,qBe,or_false]at hb
 rcases hb with rfl|rfl
 ·exact qC1 _ hbl
 ·rw[hsz]at hit;exact absurd hbl (Nat.not_lt.mpr (Nat.le_of_succ_le hit))
theorem zL7{a:Addr}{ks:List Str}(hh:A.handled=none)(hS:SetZ prog w s.heap a (!w.params.followText "set-order") ks)(hk:ks≠[])(hlen:ks.length<64){Q:Value->Shared->Prop}
  (hQ:∀(h':Heap)(d:Drawn)(tk:Nat)(L:Addr)(out:Array Value)(e:Nat)(zs:List Str),StrsAre out.toList zs->zs.Perm ks->sortedS zs=true->s.heap.objs.size<=L->h'.get? L=some (seqObj "list" out e)->(∀b o,s.heap.get? b=some o->h'.get? b=some o)->Q (.ref L) { s with heap:=h',drawn:=d,toks:=tk }) :
  wpAny (model prog w) A (call (.builtin "sorted") [.ref a]) Q E s:=by
 refine Calls.call_function_entry kind_sorted plain_sorted entry_sorted (args_sorted1 _) ?_;unfold Builtin.«sorted»;refine wpAny_bind (m:=checkCount "sorted" 1 1 _) (wpAny_pure ?_);refine wpAny_bind (zKI (A:=A.in1) hh hS hk (by rw[sizeLine_eq];omega) fun h' d tk acc zs hsa hzp hgr hkeep=>?_);have hal:acc.length=ks.length:=by rw[zMV hsa,hzp.length_eq]
 refine wpAny_bind (wpAny_newList ?_ (hsz:=by rw[hal,sizeLine_eq];omega));have hoL:(h'.push (seqObj "list" acc.toArray 0)).get? h'.objs.size=some (seqObj "list" acc.toArray 0):=Heap.get?_push_size _ rfl;refine wpAny_bind (wpAny_holding (wpAny_call_entry slot_list_sort ⟨_,hoL,rfl⟩ entry_list_sort (list_sort_treeK strKind_oneLt hoL hsa.keysOf (fun v₁ v₂ rest e=>keyKind_strs (by rw[<- e];exact hsa)) (by omega) fun st' a1 a2=>⟨_,rfl,?_⟩) (args_list_sort _)));obtain⟨zs',b1,b2,b3⟩:=sorted_out_str hsa a1 a2;obtain⟨e,he⟩:=sortedHeap_at (vs:=acc) (out:=(arrOf st').map (·.2)) hoL;refine wpAny_pure ⟨_,rfl,hQ _ d tk h'.objs.size _ e zs' b1 (b2.trans hzp) b3 ?_ he fun b o eb=>?_⟩
 ·exact qCl hgr
 ·have h1:=hkeep b o eb;have hlt:b<h'.objs.size:=Heap.lt_size h1;rw[sortedHeap_old (qAn hlt) (by rw[size_push'];exact qBh hlt)];exact Heap.get?_push_of_some _ h1
end
end L2
namespace Mi
open PySem
noncomputable section
noncomputable def ded:List Nat->List Nat
 |[]=>[]
 |a::r=>if a∈ded r then ded r else a::ded r
def sosL(l:List Nat):List Nat:=(ded l).mergeSort fun a b=>decide (a<=b)
def sosD:List Dt->Option Dt
 |[.str z]=>@ite _ (0<z.length/\z.length<=60) (qA4 _) (some (.lst ((sosL z.cps.toList).map fun c=>.str ⟨#[c]⟩))) none
 |_=>none
theorem zIN(x:Nat):∀l:List Nat,x∈ded l↔x∈l
 |[]=>by simp[ded]
 |a::r=>by
  unfold ded
  split
  ·rename_i h
   rw[zIN x r,qAb];constructor
   ·exact .inr
   ·rintro(rfl|h')
    ·exact(zIN x r).mp h
    ·exact h'
  ·rw[qAb,qAb,zIN x r]
theorem zGN:∀l:List Nat,(ded l).Nodup
 |[]=>by simp[ded]
 |a::r=>by
  unfold ded
  split
  ·exact zGN r
  ·rename_i h
   exact qBb.mpr ⟨h,zGN r⟩
theorem sos_mem(x:Nat)(l:List Nat):x∈sosL l↔x∈l:=by
 unfold sosL;rw[(qCw _ _).mem_iff,zIN]
theorem sos_nodup(l:List Nat):(sosL l).Nodup:=by
 unfold sosL;exact(qCw _ _).nodup_iff.mpr (zGN l)
theorem sos_asc(l:List Nat):(sosL l).Pairwise (·<=·):=by
 have:=List.pairwise_mergeSort (le:=fun a b:Nat=>decide (a<=b)) (fun a b c h1 h2=>by simp at h1 h2 ⊢;omega) (fun a b=>by simp;omega) (ded l)
 exact this.imp fun h=>by simpa using h
end
end Mi
namespace L2
open PySem PySem.Spec PyProof.Rows
section
variable{X:Cx}{pins:List (Addr×Obj)}{σ:List (Option V)}{H:Hp}{s:Shared}
theorem Inv.drawn(I:Inv X pins σ H s)(d:Drawn):Inv X pins σ H { s with drawn:=d }:=⟨I.ok,I.os,I.bare,I.base,I.loc,I.cell,I.free,I.freeC,I.pin,I.hok,I.len⟩
noncomputable def zQ0(P:Program)(w:World)(a:Addr)(ks:List Str):HO:=.ext fun h=>SetZ P w h a (!w.params.followText "set-order") ks
def zZX(P:Program)(w:World):List V->Hp->VK->Prop:=fun vs H Q=>match vs with
 |[.str z]=>z.cps.size<=1000/\∀a ks,H a=none->ks.Nodup->(∀c,c∈ks↔∃d∈z.cps.toList,c=(⟨#[d]⟩:Str))->Q (.ref a) (upd H a (zQ0 P w a ks))
 |_=>False
theorem zVP(hc:X.calm=true):zD4 X (.type "set") (zZX X.prog X.w):=by
 intro pins s σ H vs us Q I r h;cases vs with
 |nil=>exact qA3 h
 |cons hd1 tl1=>
  cases hd1 with
  |str z=>
   cases tl1 with
   |nil=>
    obtain⟨hz,q⟩:=h;obtain⟨u,rfl,rx⟩:=zCR r;obtain⟨t,rfl⟩:=rx;refine zHS (I.ok.hd hc) (by unfold scanBound;omega) fun h' tk ks hS hks hk hsz=>?_
    have hS':=hS;obtain⟨o,es,ep,tb,ho,hex,hd,hel,hkse,hnd,_⟩:=hS;refine⟨.ref _,_,I.laid (t':=tk) (o:=zQ0 X.prog X.w s.heap.objs.size ks) (fun b u e=>hk b u (Heap.lt_size e) e) (qA7 _) ⟨hS',⟨o,ho⟩,fun h1 h2 z f=>z.at f⟩,rfl,q _ ks (I.hok.fresh (qA7 _)) hnd fun c=>?_⟩;rw[hks c];constructor
    ·rintro⟨j,d,_,e1,e2⟩
     exact⟨d,by rw[<- qB6]at e1;exact qAx e1,e2⟩
    ·rintro⟨d,hd',e2⟩
     obtain⟨j,e1⟩:=List.getElem?_of_mem hd';have hj:j<z.cps.size:=by have:=(qA5.mp e1).1;simpa using this
     exact⟨j,d,hj,by rw[<- qB6];exact e1,e2⟩
   |cons _ _=>exact qA3 h
  |_=>exact qA3 h
def zVB(P:Program)(w:World):List V->Hp->VK->Prop:=fun vs H Q=>match vs with
 |[.ref a]=>∃ks,H a=some (zQ0 P w a ks)/\ks≠[]/\ks.length<64/\∀ys:List Str,ys.Perm ks->sortedS ys=true->∀l,H l=none->Q (.ref l) (upd H l (.lst (ys.map V.str)))
 |_=>False
theorem zR8(hc:X.calm=true):zD4 X (.builtin "sorted") (zVB X.prog X.w):=by
 intro pins s σ H vs us Q I r h;cases vs with
 |nil=>exact qA3 h
 |cons hd1 tl1=>
  cases hd1 with
  |ref a=>
   cases tl1 with
   |nil=>
    obtain⟨ks,ha,hne,hlen,q⟩:=h;obtain⟨u,rfl,rx⟩:=zCR r;cases rx;have hok:ObjOk X.prog X.w H s.heap a (zQ0 X.prog X.w a ks):=I.hok a _ ha;have hS:SetZ X.prog X.w s.heap a (!X.w.params.followText "set-order") ks:=hok.1;refine zL7 (I.ok.hd hc) hS hne hlen fun h' d tk L out e zs b1 b2 b3 hL hl hk=>?_
    have I2:Inv X pins σ H { s with drawn:=d }:=I.drawn d;have hz':zs.length<=sizeLine:=by rw[b2.length_eq,sizeLine_eq];omega
    exact⟨.ref _,_,I2.laid (t':=tk) (o:=.lst (zs.map V.str)) (fun b o e=>hk b o e) hL ⟨by rw[qAm];exact hz',out.toList,e,zJE b1,by simpa[seqObj]using hl⟩,rfl,q zs b2 b3 _ (I2.hok.fresh hL)⟩
   |cons _ _=>exact qA3 h
  |_=>exact qA3 h
end
theorem zKN:bootBuiltins "set" = some (.type "set"):=by decide +kernel
end L2
namespace L3
open PySem PySem.Spec
open PyProof.Rows (risingS sortedS ltCps_eq)
open L2 hiding Rep RepL
open Mi (Dt Xn R okR zA3 optR zA0 zA7 zAB zA9 zAA Rh Sl Ro EM TM AM FM IM SM OM Tg Out zAP zAN zAT full frz frz1 frzAt)
section
variable[Kc]{mg:Str->Option Value}{E:XK}{L n k l:Nat}{te ta tb:TE}{e ea eb ma:EM}{t:TA}{m:AM}
theorem one_le{c d:Nat}:([c]:List Nat)<=[d]↔c<=d:=by
 constructor
 ·intro h
  by_cases z:c<=d
  ·exact z
  ·exact absurd (show([d]:List Nat) < [c] from .rel (by omega)) (qHz.mpr h)
 ·intro h
  rcases Nat.lt_or_eq_of_le h with h|h
  ·exact List.le_of_lt (.rel h)
  ·rw[h];exact List.le_refl _
theorem zWX{l:List Nat}(h:l.Nodup):(l.map fun c=>(⟨#[c]⟩:Str)).Nodup:=by
 rw[qHj,qDk];refine h.imp fun hne e=>hne ?_
 have:[_]=[_]:=congrArg (fun s:Str=>s.cps.toList) e
 simpa using this
theorem zN2{G:Hp}:∀(l:List Nat),RepL G (l.map fun c=>Dt.str ⟨#[c]⟩) ((l.map fun c=>(⟨#[c]⟩:Str)).map V.str)
 |[]=>rfl
 |_::r=>⟨_,_,rfl,rfl,zN2 r⟩
theorem zWB{P:Program}{w:World}(A:DE mg E te e k):DE mg E (tCB (zVB P w) (zDR (tCB (zZX P w) (zDR te tNil)) tNil)) (Mi.eBi Mi.sosD (Mi.aCons e Mi.aNil)) 1:=by
 intro G H σ ρ Q s w' p;have p0:PostE mg E G H 1 (zA3 (e ρ) fun d=>optR (Mi.sosD [d])) Q:=by
  have:(Mi.eBi Mi.sosD (Mi.aCons e Mi.aNil)) ρ=zA3 (e ρ) fun d=>optR (Mi.sosD [d]):=by
   show zA3 (zA3 (e ρ) fun x=>zA3 (okR []) fun xs=>okR (x::xs)) (fun xs=>optR (Mi.sosD xs))=_;cases e ρ with
   |none=>rfl
   |some r=>cases r<;>rfl
  rw[<- this];exact p
 refine(zAO A).step errE s w' p0 fun d v G1 H1 S _ fr o p1=>?_
 cases d with
 |str z=>
  cases(show v=.str z from o)
  have p2:PostE mg E G H 1 (optR (@ite _ (0<z.length/\z.length<=60) (qA4 _) (some (Dt.lst ((Mi.sosL z.cps.toList).map fun c=>Dt.str ⟨#[c]⟩))) none)) Q:=p1
  split at p2
  ·rename_i hz
   have hzl:z.length=z.cps.size:=rfl;refine⟨by omega,fun a ks ha hnd hks=>?_⟩;have hperm:ks.Perm ((Mi.sosL z.cps.toList).map fun c=>(⟨#[c]⟩:Str)):=by
    refine(List.perm_ext_iff_of_nodup hnd (zWX (Mi.sos_nodup _))).mpr fun c=>?_
    rw[hks c,qAd];constructor
    ·rintro⟨d,hd,rfl⟩;exact⟨d,(Mi.sos_mem d _).mpr hd,rfl⟩
    ·rintro⟨d,hd,rfl⟩;exact⟨d,(Mi.sos_mem d _).mp hd,rfl⟩
   have hsl:(Mi.sosL z.cps.toList).length<=60:=by
    have h1:(Mi.sosL z.cps.toList).length=(Mi.ded z.cps.toList).length:=(qCw _ _).length_eq;have h2:∀l:List Nat,(Mi.ded l).length<=l.length:=by
     intro l
     induction l with
     |nil=>exact qA7 _
     |cons a r ih=>
      unfold Mi.ded
      split
      ·simp only[qAu];omega
      ·simp only[qAu];omega
    have h3:=h2 z.cps.toList;simp at h3;omega
   refine⟨ks,zAD,?_,by rw[hperm.length_eq,qAm];omega,fun ys h1 h2 l hl=>?_⟩
   ·intro hnil;have hz0:0<z.cps.toList.length:=by simp;omega
    have hm:z.cps.toList[0]∈z.cps.toList:=qBz hz0
    have:=(hks ⟨#[z.cps.toList[0]]⟩).mpr ⟨_,hm,rfl⟩
    rw[hnil]at this;simp at this
   ·have hy:ys=(Mi.sosL z.cps.toList).map fun c=>(⟨#[c]⟩:Str):=by
     refine Mi.uniqZ (h1.trans hperm) (zPX h2) ?_;rw[qDk];exact(Mi.sos_asc _).imp fun h=>one_le.mpr h
    subst hy;have hla:l≠a:=fun z=>by rw[z,zAD]at hl;cases hl
    have hl1:H1 l=none:=by rw[zAE hla]at hl;exact hl
    have x1:Ext G1 H1 G1 (upd H1 a (zQ0 P w a ks)):=⟨Same.refl _,fun b o e=>by
      by_cases z:b=a
      ·rw[z,ha]at e;cases e
      ·rw[zAE z];exact e,fun b o e=>by
      have e2:=fr.ext.in' _ _ e
      by_cases z:b=a
      ·rw[z,ha]at e2;cases e2
      ·rw[zAE z];exact e2,fun _ _=>rfl⟩
    exact PostE.lst p2 (fr.ext.trans x1) (zN2 _) hl
  ·exact p2.elim
 |_=>exact p1.elim
end
end L3
namespace Mi
open PySem
noncomputable section
def index2D(x:Dt)(ys:List Dt):Option Dt:=match x,ys with
 |.str z,[.str y,.int n]=>match y.cps.toList with
  |[c]=>@ite _ (0<=n) (qA4 _) ((posC c (z.cps.toList.drop n.toNat)).map fun i=>.int (n+(i:Int))) none
  |_=>none
 |_,_=>none
def sAddPop(j i:Nat)(e:EM):SM:=fun ρ=>match ρ[j]?,ρ[i]? with
 |some (some (.str z,_)),some (some (.lst ds,k+1))=>zA3 (e (full ρ)) fun d=>match d with
  |.int y=>match ixA ds.length y with
   |some q=>match ds[q]? with
    |some (.str u)=>@ite _ (i≠j/\ds.length<=1000000/\z.length+u.length<=100000) (qA4 _) (okR (.nx ((ρ.set i (some (.lst (ds.eraseIdx q),k+1))).set j (some (.str (z++u),0))))) none
    |_=>none
   |none=>none
  |_=>none
 |_,_=>none
end
end Mi
namespace PySem
open Builtin Builtin.Str PySem.Spec
end PySem
namespace L2
open PySem PySem.Spec PyProof.Rows
section
variable{X:Cx}{pins:List (Addr×Obj)}{σ:List (Option V)}{H:Hp}{s:Shared}
end
end L2
namespace L3
open PySem PySem.Spec
open PyProof.Rows (risingS sortedS ltCps_eq)
open L2 hiding Rep RepL
open Mi (Dt Xn R okR zA3 optR zA0 zA7 zAB zA9 zAA Rh Sl Ro EM TM AM FM IM SM OM Tg Out zAP zAN zAT full frz frz1 frzAt)
section
variable[Kc]{mg:Str->Option Value}{E:XK}{L n k l:Nat}{te ta tb:TE}{e ea eb ma:EM}{t:TA}{m:AM}
theorem own_str{G H:Hp}{S:Addr->Prop}{u:Str}{v:V}:∀{n:Nat},Own G H n S (.str u) v->v=.str u
 |0,h=>h
 |_+1,h=>h
theorem zRP(j i:Nat)(A:DE mg E te e n):DS mg E L (tAsg (tOp zX6 (vM j) (tML popM (vM i) (zDR te tNil))) (zEK j)) (Mi.sAddPop j i e):=by
 intro G0 H0 S0 σ ρ G H As D a p;obtain⟨J,x,s,w⟩:=a.full;unfold Mi.sAddPop at p;cases f1:ρ[j]? with
 |none=>rw[f1]at p;exact p.elim
 |some oj=>
  rw[f1]at p
  match oj,f1,p with
  |none,_,p=>exact p.elim
  |some (.str z0,l0),f1,p=>
   cases e1:ρ[i]? with
   |none=>rw[e1]at p;exact p.elim
   |some o=>
    rw[e1]at p
    match o,e1,p with
    |none,_,p=>exact p.elim
    |some (.lst ds,k+1),e1,p=>
     obtain⟨v',g1,own'⟩:=a.at j _ _ f1;cases own_str own';obtain⟨v,h1,q,xs,T,rfl,hq,kd⟩:=a.at i _ _ e1;unfold tAsg tOp tML vM;rw[g1];dsimp only;rw[h1];refine⟨xs,hq,?_⟩;refine(zAO A).step (errS.from x) x.in' w p fun d y G1 H1 S _ fr o p1=>?_
     cases d with
     |int z=>
      cases(show y=.int z from o)
      try dsimp only at p1
      cases ei:Mi.ixA ds.length z with
      |none=>rw[ei]at p1;exact p1.elim
      |some c=>
       rw[ei]at p1
       try dsimp only at p1
       cases ec:ds[c]? with
       |none=>rw[ec]at p1;exact p1.elim
       |some dc=>
        rw[ec]at p1;cases dc with
        |str u=>
         try dsimp only at p1
         split at p1
         ·rename_i hz
          obtain⟨hij,hz1,hz2⟩:=hz;rw[zNL]at ei;obtain⟨b1,b2,b3,b4⟩:=zIF ei;have hc:c<xs.length:=by rw[kd.len];exact b2
          have hx:xs[c]?=some xs[c]:=qA2 hc;refine⟨xs,c,xs[c],fr.ext.h _ _ hq,⟨by omega,by omega⟩,by rw[kd.len];exact b1,hx,?_⟩;have a1:=a.grow fr.ext.h;have kd1:Kids (Own G H1 k) (As i) q ds xs T:=kd.imp (fun _ _ _ _ w=>w.mono (Same.refl _) fr.ext.h) fun _ z=>z
          have a2:=a1.store (o:=.lst (xs.eraseIdx c)) (n:=k+1) (d:=.lst (ds.eraseIdx c)) (S:=fun b=>As i b/\¬T c b) kd.top h1 ⟨q,_,_,rfl,zAD,zVM (kd1.pop c) fun r=>by split<;>exact kd.out _⟩ fun b z=>.inl z.1
          rw[own_str (kd1.own c _ _ ec hx)];refine⟨big' hz2,?_⟩;exact p1 _ G _ _ (a2.put (i:=j) (n:=0) (d:=.str (z0++u)) (v:=.str (z0++u)) (S:=fun _=>False) rfl (fun _ h=>h.elim) fun _ _ _ _ h=>h.elim)
         ·exact p1.elim
        |_=>exact p1.elim
     |_=>exact p1.elim
    |some (.lst ds,0),_,p=>exact p.elim
    |some (.non,_),_,p=>exact p.elim
    |some (.bl _,_),_,p=>exact p.elim
    |some (.int _,_),_,p=>exact p.elim
    |some (.str _,_),_,p=>exact p.elim
    |some (.tup _,_),_,p=>exact p.elim
    |some (.scr _,_),_,p=>exact p.elim
    |some (.exc _ _ _,_),_,p=>exact p.elim
    |some (.ins _ _,_),_,p=>exact p.elim
    |some (.dct _,_),_,p=>exact p.elim
  |some (.lst ds,_),_,p=>cases e1:ρ[i]?<;>(rw[e1]at p;exact p.elim)
  |some (.non,_),_,p=>cases e1:ρ[i]?<;>(rw[e1]at p;exact p.elim)
  |some (.bl _,_),_,p=>cases e1:ρ[i]?<;>(rw[e1]at p;exact p.elim)
  |some (.int _,_),_,p=>cases e1:ρ[i]?<;>(rw[e1]at p;exact p.elim)
  |some (.tup _,_),_,p=>cases e1:ρ[i]?<;>(rw[e1]at p;exact p.elim)
  |some (.scr _,_),_,p=>cases e1:ρ[i]?<;>(rw[e1]at p;exact p.elim)
  |some (.exc _ _ _,_),_,p=>cases e1:ρ[i]?<;>(rw[e1]at p;exact p.elim)
  |some (.ins _ _,_),_,p=>cases e1:ρ[i]?<;>(rw[e1]at p;exact p.elim)
  |some (.dct _,_),_,p=>cases e1:ρ[i]?<;>(rw[e1]at p;exact p.elim)
end
end L3
namespace Mi
open PySem
noncomputable section
end
end Mi
namespace L2
open PySem PySem.Spec PyProof.Rows
section
variable{prog:Program}{w:World}{A:Around}{E:Value->Shared->Prop}{s:Shared}
end
section
variable{X:Cx}{pins:List (Addr×Obj)}{σ:List (Option V)}{H:Hp}{s:Shared}
end
end L2
namespace L3
open PySem PySem.Spec
open L2 hiding Rep RepL
open Mi (Dt Xn R okR zA3 optR zA0 zA7 zAB zA9 zAA Rh Sl Ro EM TM AM FM IM SM OM Tg Out zAP zAN zAT full frz frz1 frzAt)
section
variable[Kc]{mg:Str->Option Value}{E:XK}{L n k l:Nat}{te ta tb:TE}{e ea eb ma:EM}{t:TA}{m:AM}
end
end L3
namespace L2
open PySem PySem.Spec
structure Dr(p:Prop):Prop where
 h:p
section
variable{X:Cx}
theorem zBZ{st:Stmt}{rest:List Stmt}{t u:TS}(h1:Dr (PS X st t))(h2:Dr (PSs X rest u)):Dr (PSs X (st::rest) (tSeq t u)):=⟨zA6 h1.h h2.h⟩
theorem zYF{st:Stmt}{t:TS}(h1:Dr (PS X st t)):Dr (PSs X [st] t):=⟨zAJ h1.h⟩
theorem zIO{es:List Expr}{t:TA}{pos:Pos}(h:Dr (PA X es t)):Dr (PE X (.List es pos) (tLst t)):=⟨zED h.h⟩
theorem zBA{e:Expr}{es:List Expr}{te:TE}{t:TA}(h1:Dr (PE X e te))(h2:Dr (PA X es t))(hs:starEach (e::es) X.env=(false,eval e X.env)::starEach es X.env:=by rfl):Dr (PA X (e::es) (zDR te t)):=⟨zA1 h1.h h2.h hs⟩
theorem zIR:Dr (PA X [] tNil):=⟨zA4⟩
theorem zBT{i:Int}{j:Nat}{pos:Pos}:Dr (PE X (.Constant (.int i) j pos) (tC (.int i))):=⟨zAI⟩
end
end L2
namespace Mi
open PySem
noncomputable section
end
end Mi
namespace L2
open PySem PySem.Spec PyProof.Rows
structure Walk1(prog:Program)(w:World)(A:Around)(I:Addr)(fp:List Addr)(n:Nat)(P:Nat->Value->Prop)(St:Nat->Heap->Prop):Prop where
 me:I∈fp
 frame:∀i h h',St i h->(∀b∈fp,∀o,h.get? b=some o->h'.get? b=some o)->St i h'
 item:∀i (s:Shared) (Q:Option Value->Shared->Prop) (E:Value->Shared->Prop),i<n->St i s.heap ->
  (∀v h' tk,P i v->St (i+1) h'->(∀b o,b≠I->s.heap.get? b=some o->h'.get? b=some o)->Q (some v) { s with heap:=h',toks:=tk })->wpAny (model prog w) A (pyNext (.ref I)) Q E s
 done:∀(s:Shared)(Q:Option Value->Shared->Prop)(E:Value->Shared->Prop),St n s.heap ->
  (∀h' tk,(∀b o,b≠I->s.heap.get? b=some o->h'.get? b=some o)->(∃u,h'.get? I=some u)->Q none { s with heap:=h',toks:=tk })->wpAny (model prog w) A (pyNext (.ref I)) Q E s
 self:∀i (s:Shared) (Q:Value->Shared->Prop) (E:Value->Shared->Prop),St i s.heap->Q (.ref I) s->wpAny (model prog w) A (pyIter (.ref I)) Q E s
structure Once(prog:Program)(w:World)(T:String)(r:Addr)(fp:List Addr)(n:Nat)(P:Nat->Value->Prop)(St:Nat->Heap->Prop):Prop where
 ty:∀(s:Shared) i,St i s.heap->s.TypeIs (.ref r) T
 nl:(Value.type T==Value.type "list")=false
 nt:(Value.type T==Value.type "tuple")=false
 me:r∈fp
 hint:∀(A:Around)(E:Value->Shared->Prop)(s:Shared)(Q:Bool->Shared->Prop),A.handled=none->St 0 s.heap->(∀b tk,Q b { s with toks:=tk })->wpAny (model prog w) A (Builtin.List.listLengthHint (.ref r)) Q E s
 walk:∀(A:Around),A.handled=none->Walk1 prog w A r fp n P St
section
variable{prog:Program}{w:World}{A:Around}{E:Value->Shared->Prop}{s:Shared}{T:String}{r:Addr}{fp:List Addr}{n:Nat}{P:Nat->Value->Prop}{St:Nat->Heap->Prop}
end
section
variable{prog:Program}{w:World}{A:Around}{E:Value->Shared->Prop}{s:Shared}{x:Str}{t:Tok}
end
end L2
namespace L2
open PySem PySem.Spec PyProof.Rows
section
variable{X:Cx}{pins:List (Addr×Obj)}{σ:List (Option V)}{H:Hp}{s:Shared}
end
end L2
namespace L3
open PySem PySem.Spec
open L2 hiding Rep RepL
open Mi (Dt Xn R okR zA3 optR zA0 zA7 zAB zA9 zAA Rh Sl Ro EM TM AM FM IM SM OM Tg Out zAP zAN zAT full frz frz1 frzAt)
section
variable[Kc]{mg:Str->Option Value}{E:XK}{L n k l:Nat}{te ta tb:TE}{e ea eb ma:EM}{t:TA}{m:AM}
end
end L3
namespace Mi
open PySem
noncomputable section
end
end Mi
namespace L3
open PySem PySem.Spec
open L2 hiding Rep RepL
open Mi (Dt Xn R okR zA3 optR zA0 zA7 zAB zA9 zAA Rh Sl Ro EM TM AM FM IM SM OM Tg Out zAP zAN zAT full frz frz1 frzAt)
section
variable[Kc]{mg:Str->Option Value}{E:XK}{L n k l:Nat}
end
end L3
namespace Mi
open PySem
noncomputable section
noncomputable def lifD(xs ds:List Dt):Option Dt:=match ds with
 |[d]=>if d.dep=0/\Dt.depL xs=0 then(xs.findIdx? fun y=>Dt.eq y d).map fun j=>.int (j:Int)else none
 |_=>none
end
end Mi
namespace PySem
open Builtin Builtin.Str PySem.Spec
end PySem
namespace L2
open PySem PySem.Spec PyProof.Rows
section
variable{X:Cx}{pins:List (Addr×Obj)}{σ:List (Option V)}{H:Hp}{s:Shared}
def find2M:V->List V->Hp->VK->Prop:=fun x vs H Q=>match x,vs with
 |.str z,[.str y,.int n]=>∃k:Nat,n=(k:Int)/\Q (.int (match Builtin.Str.occurrences z y k z.length 1 with|i::_=>(i:Int)|[]=>-1)) H
 |_,_=>False
def lifM:V->List V->Hp->VK->Prop:=fun x vs H Q=>match x,vs with
 |.ref l,[y]=>∃xs j,H l=some (.lst xs)/\zDG y=true/\xs.all zDG=true/\xs.findIdx? (fun z=>eqV z y)=some j/\Q (.int (j:Nat)) H
 |_,_=>False
theorem zNR{y:V}:∀{xs:List V}{us:List Value}{j:Nat},Vals xs us->xs.all zDG=true->xs.findIdx? (fun z=>eqV z y)=some j->us.findIdx? (eqU y)=some j
 |_,_,_,.nil,_,h=>by simp at h
 |x::xs,u::us,j,.cons r t,f,h=>by
  rw[qCh,qBc]at f;rw[qD7]at h ⊢;rw[zRL r f.1]
  split at h
  ·rename_i hc
   rw[if_pos hc];exact h
  ·rename_i hc
   rw[if_neg hc];cases e:xs.findIdx? (fun z=>eqV z y)with
   |none=>rw[e]at h;simp at h
   |some i=>
    rw[e]at h;rw[zNR t f.2 e];exact h
theorem zXM:MtR X "list.index" lifM:=by
 intro pins s σ H x vs v us Q I rx rv h;cases x with
 |ref l=>
  cases vs with
  |nil=>exact qA3 h
  |cons y tl1=>
   cases tl1 with
   |nil=>
    obtain⟨xs,j,h1,h2,h3,h5,h4⟩:=h;cases rx;obtain⟨u,rfl,ru⟩:=zCR rv;obtain⟨z,its,n,r,hl,e⟩:=I.lstM h1;have hf:=zNR r h3 h5;obtain⟨a,b,c⟩:=qD5.mp hf;have hlen:=r.length;rw[sizeLine_eq]at z;refine call_meets qEi ⟨_,e,rfl⟩ PySem.F.entry_list_index (PySem.F.args_list_index_2 _ _)
     (SeqAt.list_indexAt l its.toArray n none #[] u (eqU y) j (by simpa using a) (by omega) (by simpa using b) (fun m hm hlt=>by simpa using c m hlt)) ⟨e,fun w hw=>zDM ru h2 r h3 w (by simpa using hw),?_⟩
    exact⟨.int _,H,I.tok _,⟨_,rfl⟩,h4⟩
   |cons _ _=>exact qA3 h
 |_=>exact qA3 h
end
end L2
namespace L3
open PySem PySem.Spec
open L2 hiding Rep RepL
open Mi (Dt Xn R okR zA3 optR zA0 zA7 zAB zA9 zAA Rh Sl Ro EM TM AM FM IM SM OM Tg Out zAP zAN zAT full frz frz1 frzAt)
section
variable[Kc]{mg:Str->Option Value}{E:XK}{L n k l:Nat}
theorem zRK{G:Hp}{d:Dt}{v:V}(h:Rep G d v)(hd:d.dep=0):∀{ds:List Dt}{vs:List V},RepL G ds vs->Dt.depL ds=0->vs.all zDG=true/\(vs.findIdx? fun z=>eqV z v)=ds.findIdx? fun y=>Dt.eq y d
 |[],_,r,_=>by cases r;exact⟨rfl,rfl⟩
 |e::q,_,r,hz=>by
  obtain⟨x,t,rfl,a,b⟩:=r;rw[Dt.depL]at hz;obtain⟨g1,g2⟩:=zRK h hd b (by omega);refine⟨by rw[qCh,zGG a (by omega),g1];rfl,?_⟩;rw[qD7,qD7,g2,zKD a h (by omega) hd]
theorem zQ6:RMl lifM Mi.lifD n:=by
 intro mg E G H a es ds xs vs Q s ha ra rv p;cases ds with
 |nil=>exact qA3 p
 |cons d tl1=>
  cases tl1 with
  |nil=>
   obtain⟨x,rfl,hx⟩:=zCA rv;have p':PostE mg E G H n (optR (if d.dep=0/\Dt.depL es=0 then(es.findIdx? fun y=>Dt.eq y d).map fun j=>Dt.int (j:Int)else none)) Q:=p
   split at p'
   ·rename_i hz
    obtain⟨g1,g2⟩:=zRK hx hz.1 ra hz.2;cases e:es.findIdx? fun y=>Dt.eq y d with
    |none=>rw[e]at p';exact p'.elim
    |some j=>
     rw[e]at p';refine⟨xs,j,s _ _ ha,zGG hx hz.1,g1,by rw[g2];exact e,?_⟩;exact PostE.val p' (Ext.refl s) rfl rfl
   ·exact p'.elim
  |cons _ _=>exact qA3 p
end
end L3
namespace PySem
open Sem (wp)
section
variable{prog:Program}{w:World}{A:Around}{K:Type}[DecidableEq K]{knd:KeyKind prog w K}
end
end PySem
namespace Mi
open PySem
noncomputable section
noncomputable def kyD:Dt->Option (Sum Int Str)
 |.int i=>some (.inl i)
 |.str x=>some (.inr x)
 |_=>none
noncomputable def swD:Dt->Option Sw
 |.non=>some .non
 |.bl b=>some (.bl b)
 |.int i=>some (.int i)
 |.str x=>some (.str x)
 |_=>none
noncomputable def swT:Sw->Dt
 |.non=>.non
 |.bl b=>.bl b
 |.int i=>.int i
 |.str x=>.str x
noncomputable def getW(kvs:List (Sum Int Str×Sw))(k:Sum Int Str):Option Sw:=(kvs.find? fun p=>decide (p.1=k)).map (·.2)
noncomputable def putW(kvs:List (Sum Int Str×Sw))(k:Sum Int Str)(v:Sw):List (Sum Int Str×Sw):=
 if(kvs.any fun p=>decide (p.1=k))=true then kvs.map (fun p=>if p.1=k then(p.1,v)else p)else kvs++[(k,v)]
def eDct0:EM:=fun _=>okR (.dct [])
def dinD(ng:Bool)(x y:Dt):Option Dt:=match y with
 |.dct kvs=>match kyD x with
  |some k=>some (.bl (if ng=true then !(getW kvs k).isSome else(getW kvs k).isSome))
  |none=>none
 |_=>none
def sDput(i:Nat)(e1 e2:EM):SM:=fun ρ=>zA3 (e2 (full ρ)) fun v=>match ρ[i]? with
 |some (some (.dct kvs,k+1))=>zA3 (e1 (full ρ)) fun y=>match kyD y,swD v with
  |some q,some u=>@ite _ (kvs.length<=100000) (qA4 _) (okR (.nx (ρ.set i (some (.dct (putW kvs q u),k+1))))) none
  |_,_=>none
 |_=>none
def zVK:List Dt->Option (List (Sum Int Str×Sw))
 |[]=>some []
 |.tup [a,b]::r=>match kyD a,swD b,zVK r with
  |some k,some v,some q=>some ((k,v)::q)
  |_,_,_=>none
 |_::_=>none
def zcC(i:Nat)(e:EM):SM:=fun ρ=>match ρ[i]? with
 |some (some (.dct kvs,k+1))=>zA3 (e (full ρ)) fun d=>match d with
  |.lst ds=>match zVK ds with
   |some ps=>@ite _ (kvs.length+ps.length<=50000) (qA4 _) (okR (.nx (ρ.set i (some (.dct (ps.foldl (fun m p=>putW m p.1 p.2) kvs),k+1))))) none
   |none=>none
  |_=>none
 |_=>none
end
end Mi
namespace L2
open PySem PySem.Spec PyProof.Rows
section
variable{X:Cx}
variable{o e:Expr}{es:List Expr}{to:TE}{t:TA}{name:Str}{apos cpos:Pos}{T id:String}{r:V->List V->Hp->VK->Prop}
end
end L2
namespace L3
open PySem PySem.Spec
open L2 hiding Rep RepL
open Mi (Dt Xn R okR zA3 optR zA0 zA7 zAB zA9 zAA Rh Sl Ro EM TM AM FM IM SM OM Tg Out zAP zAN zAT full frz frz1 frzAt)
abbrev wk(kvs:List (Sum Int Str×Mi.Sw)):List (Key×V):=kvs.map fun p=>(p.1,swV p.2)
theorem zc5(kvs:List (Sum Int Str×Mi.Sw))(k:Key):valV (wk kvs) k=(Mi.getW kvs k).map swV:=by
 unfold valV Mi.getW wk
 induction kvs with
 |nil=>rfl
 |cons p r ih=>
  simp only[qAi,qCa]
  by_cases h:p.1=k
  ·simp[h]
  ·simp only[h,decide_false];exact ih
theorem zcG(kvs:List (Sum Int Str×Mi.Sw))(k:Key)(u:Mi.Sw):putK (wk kvs) k (swV u)=wk (Mi.putW kvs k u):=by
 unfold putK Mi.putW wk;have e:(kvs.map fun p=>((p.1,swV p.2):Key×V)).any (fun kv=>decide (kv.1=k))=kvs.any fun p=>decide (p.1=k):=by
  rw[List.any_map];rfl
 rw[e]
 split
 ·rw[qB3,qB3];refine qAs fun p _=>?_
  by_cases h:p.1=k
  ·simp[h]
  ·simp[h]
 ·simp
section
variable[Kc]{mg:Str->Option Value}{E:XK}{L n k l:Nat}{te ta tb tx td:TE}{e ea eb ex ed ma:EM}{t:TA}{m:AM}
theorem ky_rep{G:Hp}{d:Dt}{v:V}{q:Sum Int Str}(h:Rep G d v)(e:Mi.kyD d=some q):v=kV q:=by
 cases d with
 |int i=>cases e;exact h
 |str x=>cases e;exact h
 |_=>cases e
theorem sw_rep{G:Hp}{d:Dt}{v:V}{u:Mi.Sw}(h:Rep G d v)(e:Mi.swD d=some u):v=swV u:=by
 cases d with
 |non=>cases e;exact h
 |bl _=>cases e;exact h
 |int i=>cases e;exact h
 |str x=>cases e;exact h
 |_=>cases e
theorem zX1{G:Hp}(u:Mi.Sw):Rep G (Mi.swT u) (swV u):=by cases u<;>rfl
theorem zYK(u:Mi.Sw):(Mi.swT u).dep=0:=by cases u<;>rfl
theorem zRY:DE mg E zV5 Mi.eDct0 1:=by
 intro G H σ ρ Q s w p a ha;have fr:Fr G H G H (fun _=>False):=⟨Ext.refl s,fun _ z=>z.elim⟩
 exact p (.ref a) G _ _ (fr.add ha (.dK [])) ⟨a,rfl,zAD,.inl rfl⟩
theorem zM6(i:Nat){n1 n2:Nat}{t1 t2:TE}{e1 e2:EM}(A:DE mg E t1 e1 n1)(B:DE mg E t2 e2 n2):DS mg E L (zZM (vM i) t1 t2) (Mi.sDput i e1 e2):=by
 intro G0 H0 S0 σ ρ G H As D a p;obtain⟨J,x,s,w⟩:=a.full;refine(zAO B).step (errS.from x) x.in' w p fun d y G1 H1 S _ fr o p1=>?_
 cases er:ρ[i]? with
 |none=>rw[er]at p1;exact p1.elim
 |some sl=>
  rw[er]at p1
  match sl,er,p1 with
  |none,_,p=>exact p.elim
  |some (.dct kvs,k+1),er,p1=>
   obtain⟨v,h1,q,rfl,hq,hs⟩:=a.at i _ _ er;unfold vM;rw[h1];have x1:Ext J H J H1:=Ext.same x.in' fr.ext.h;refine(zAO A).step (errS.from (x.trans x1)) x1.in' w p1 fun z u G2 H2 S2 _ fr2 o2 p2=>?_
   cases ek:Mi.kyD z with
   |none=>rw[ek]at p2;exact p2.elim
   |some c=>
    cases ev:Mi.swD d with
    |none=>rw[ek,ev]at p2;exact p2.elim
    |some uu=>
     rw[ek,ev]at p2;dsimp only at p2
     split at p2
     ·rename_i hz
      cases ky_rep o2 ek;cases sw_rep o ev;have sH:=fr.ext.h.trans fr2.ext.h;have a1:=a.grow sH;refine⟨q,_,rfl,DPut.k (sH _ _ hq) (by rw[qAm,sizeLine_eq];omega),?_⟩;rw[zcG];exact p2 σ G _ _ (a1.store (o:=.dK (wk (Mi.putW kvs c uu))) (n:=k+1) (d:=.dct (Mi.putW kvs c uu)) (S:=As i) hs h1 ⟨q,rfl,zAD,hs⟩ fun b z=>.inl z)
     ·exact p2.elim
  |some (.dct _,0),_,p=>exact p.elim
  |some (.lst _,_),_,p=>exact p.elim
  |some (.non,_),_,p=>exact p.elim
  |some (.bl _,_),_,p=>exact p.elim
  |some (.int _,_),_,p=>exact p.elim
  |some (.str _,_),_,p=>exact p.elim
  |some (.tup _,_),_,p=>exact p.elim
  |some (.scr _,_),_,p=>exact p.elim
  |some (.exc _ _ _,_),_,p=>exact p.elim
  |some (.ins _ _,_),_,p=>exact p.elim
end
end L3
namespace Mi
open PySem
noncomputable section
end
end Mi
namespace L2
open PySem PySem.Spec PyProof.Rows
section
variable{X:Cx}{pins:List (Addr×Obj)}{σ:List (Option V)}{H:Hp}{s:Shared}
theorem zCM(ns:List Int):(qA6 ns.length).map (fun i=>ns.getD i 0)=ns:=by
 refine qBf (by simp) fun i h1 h2=>?_
 simp[h2]
end
section
variable{X:Cx}
end
end L2
namespace L3
open PySem PySem.Spec
open L2 hiding Rep RepL
open Mi (Dt Xn R okR zA3 optR zA0 zA7 zAB zA9 zAA Rh Sl Ro EM TM AM FM IM SM OM Tg Out zAP zAN zAT full frz frz1 frzAt)
section
variable[Kc]{mg:Str->Option Value}{E:XK}{L n k l:Nat}{te ta tb:TE}{e ea eb ma:EM}{t:TA}{m:AM}
end
end L3
namespace Mi
open PySem
noncomputable section
end
end Mi
namespace L2
open PySem PySem.Spec PyProof.Rows
section
variable{X:Cx}{e m1:Expr}{te ts:TE}{pos p2:Pos}
theorem zYC{b:List Stmt}{t:TS}{R:TS->Prop}(h:Dr (PSs X b t))(r:R t):∃t,PSs X b t/\R t:=⟨t,h.h,r⟩
theorem zIS{xs es:List Expr}{p:Pos}{te:TE}{t:TA}(h1:Dr (PE X (.List xs p) te))(h2:Dr (PA X es t)):Dr (PA X (.List xs p::es) (zDR te t)):=⟨zA1 h1.h h2.h rfl⟩
theorem zRN{pos:Pos}{i:Nat}{x:Str}{es:List Expr}{p:Pos}{te:TE}{pos':Pos}(hN:X.N.Nodup)(hi:X.N[i]?=some x)(hx:Loc X.env.scope x)(he:Dr (PE X (.List es p) te))(hf:X.fn x=true\/X.env.scope.names.lookup x=some .local:=by first|exact .inl rfl|exact .inr rfl|assumption) :
  Dr (PS X (.Assign [.Name x pos'] (.List es p) pos) (tAsg te (zEK i))):=⟨zVF hN hi hx he.h rfl hf⟩
end
end L2
namespace L3
open PySem PySem.Spec
open L2 hiding Rep RepL
open Mi (Dt Xn R okR zA3 optR zA0 zA7 zAB zA9 zAA Rh Sl Ro EM TM AM FM IM SM OM Tg Out zAP zAN zAT full frz frz1 frzAt)
section
variable[Kc]{mg:Str->Option Value}{E:XK}{L n k l:Nat}
end
end L3
namespace Mi
open PySem
noncomputable section
end
end Mi
namespace L2
open PySem PySem.Spec PyProof.Rows
section
variable{X:Cx}
end
end L2
namespace L3
open PySem PySem.Spec PyProof.Rows
open L2 hiding Rep RepL
open Mi (Dt R Rh EM TM SM AM IM Xn Sl Ro Out okR zA3 optR full frz frzAt)
section
variable[Kc]{mg:Str->Option Value}{E:XK}{n L:Nat}{te ta tb:TE}{e:EM}{m m':SM}
end
end L3
namespace Mi
open PySem
noncomputable section
end
end Mi
namespace L2
open PySem PySem.Spec PyProof.Rows
section
variable{X:Cx}{tg:Expr}
end
section
variable{prog:Program}{w:World}{A:Around}{E:Value->Shared->Prop}{s:Shared}
end
section
variable{X:Cx}
end
end L2
namespace L3
open PySem PySem.Spec
open PyProof.Rows (risingS sortedS ltCps_eq)
open L2 hiding Rep RepL
open Mi (Dt Xn R okR zA3 optR zA0 zA7 zAB zA9 zAA Rh Sl Ro EM TM AM FM IM SM OM Tg Out zAP zAN zAT full frz frz1 frzAt)
section
variable[Kc]{mg:Str->Option Value}{E:XK}{L n k l:Nat}{t:TA}{m:AM}
end
end L3
namespace Mi
open PySem
noncomputable section
end
end Mi
namespace L3
open PySem PySem.Spec
open L2 hiding Rep RepL
open Mi (Dt Xn R okR zA3 optR zA0 zA7 zAB zA9 zAA Rh Sl Ro EM TM AM FM IM SM OM Tg Out zAP zAN zAT full frz frz1 frzAt)
section
variable[Kc]{mg:Str->Option Value}{E:XK}{L n k l:Nat}{te:TE}{e:EM}
section
variable{G0 H0 S0:Hp}{σ:St}{ρ:Ro}{G H:Hp}{As:Nat->Addr->Prop}
end
end
end L3
namespace Mi
open PySem
noncomputable section
noncomputable def dlenD:List Dt->Option Dt
 |[.dct kvs]=>some (.int (kvs.length:Int))
 |_=>none
def eDIx(d k:EM):EM:=fun ρ=>zA3 (d ρ) fun D=>match D with
 |.dct kvs=>zA3 (k ρ) fun y=>match kyD y with
  |some q=>match getW kvs q with
   |some w=>okR (swT w)
   |none=>none
  |none=>none
 |_=>none
end
end Mi
namespace L2
open PySem PySem.Spec PyProof.Rows
section
variable{X:Cx}
end
end L2
namespace L3
open PySem PySem.Spec
open L2 hiding Rep RepL
open Mi (Dt Xn R okR zA3 optR zA0 zA7 zAB zA9 zAA Rh Sl Ro EM TM AM FM IM SM OM Tg Out zAP zAN zAT full frz frz1 frzAt)
section
variable[Kc]{mg:Str->Option Value}{E:XK}{L n k l:Nat}{te ta tb tx td:TE}{e ea eb ex ed ma:EM}{t:TA}{m:AM}
theorem zRX(D:DE mg E td ed k)(A:DE mg E ta ea l):DE mg E (zZH td ta) (Mi.eDIx ed ea) n:=by
 intro G H σ ρ Q s w p;refine(zAO D).step errE s w p fun d v G1 H1 S _ fr o p1=>?_
 cases d with
 |dct kvs=>
  obtain⟨a,rfl,ha⟩:=o;have p1':PostE mg E G H n (zA3 (ea ρ) fun y=>match Mi.kyD y with|some q=>(match Mi.getW kvs q with|some w=>okR (Mi.swT w)|none=>none)|none=>none) Q:=p1;refine(zAO A).step (errE.from fr.ext) fr.ext.in' (w.mono fr.ext.g) p1' fun y u G2 H2 S2 _ fr2 o2 p2=>?_
  have x2:=fr.ext.trans fr2.ext;cases ek:Mi.kyD y with
  |none=>rw[ek]at p2;exact p2.elim
  |some q=>
   rw[ek]at p2;cases ky_rep o2 ek;cases eg:Mi.getW kvs q with
   |none=>dsimp only at p2;rw[eg]at p2;exact p2.elim
   |some u=>
    dsimp only at p2;rw[eg]at p2;have p4:=PostE.from p2 x2;have h:=DGet.k (k:=q) (fr2.ext.h _ _ (fr.ext.in' _ _ ha));rw[zc5,eg]at h;exact⟨a,swV u,rfl,h,PostE.val p4 (Ext.refl fr2.ext.in') (zYK u) (zX1 u)⟩
 |_=>exact p1.elim
end
end L3
namespace Mi
open PySem
noncomputable section
end
end Mi
namespace L2
open PySem PySem.Spec PyProof.Rows
section
variable{prog:Program}{w:World}{A:Around}{E:Value->Shared->Prop}{s:Shared}
end
section
variable{X:Cx}
end
end L2
namespace L3
open PySem PySem.Spec
open L2 hiding Rep RepL
open Mi (Dt Xn R okR zA3 optR zA0 zA7 zAB zA9 zAA Rh Sl Ro EM TM AM FM IM SM OM Tg Out zAP zAN zAT full frz frz1 frzAt)
section
variable[Kc]{mg:Str->Option Value}{E:XK}{L n k l:Nat}
end
end L3
namespace Mi
open PySem
noncomputable section
end
end Mi
namespace L2
open PySem PySem.Spec PyProof.Rows
section
variable{prog:Program}{w:World}{A:Around}{E:Value->Shared->Prop}{s:Shared}
end
section
variable{X:Cx}{o:Expr}{td:TE}{p apos cpos pos:Pos}
end
end L2
namespace L3
open PySem PySem.Spec
open PyProof.Rows (risingS sortedS ltCps_eq)
open L2 hiding Rep RepL
open Mi (Dt Xn R okR zA3 optR zA0 zA7 zAB zA9 zAA Rh Sl Ro EM TM AM FM IM SM OM Tg Out zAP zAN zAT full frz frz1 frzAt)
section
variable[Kc]{mg:Str->Option Value}{E:XK}{L n k l:Nat}{te ta td:TE}{e ea ed:EM}
end
end L3
namespace Mi
open PySem
noncomputable section
end
end Mi
namespace L2
open PySem
end L2
namespace L2
open PySem PySem.Spec PyProof.Rows
section
variable{prog:Program}{w:World}{A:Around}{E:Value->Shared->Prop}{s:Shared}
end
section
variable{prog:Program}{w:World}{A:Around}{R:Result->Shared->Prop}{I:Addr}{fp wr:List Addr}{G:Array GenState->Array GenState->Prop}{n:Nat}{St:Nat->Shared->Prop}{led:Bool}{items:Array Value}{ns:List Int}
end
end L2
namespace PySem
open PyProof.Rows
end PySem
namespace L2
open PySem PySem.Spec PyProof.Rows
section
variable{prog:Program}{w:World}{A:Around}{E:Value->Shared->Prop}{s:Shared}
end
section
variable{X:Cx}{pins:List (Addr×Obj)}{σ:List (Option V)}{H:Hp}{s:Shared}
end
end L2
namespace L3
open PySem PySem.Spec
open L2 hiding Rep RepL
open Mi (Dt Xn R okR zA3 optR zA0 zA7 zAB zA9 zAA Rh Sl Ro EM TM AM FM IM SM OM Tg Out zAP zAN zAT full frz frz1 frzAt)
section
variable[Kc]{mg:Str->Option Value}{E:XK}{L n k l:Nat}{te ta tb:TE}{e ea eb ma:EM}{t:TA}{m:AM}
end
end L3
namespace Mi
open PySem
noncomputable section
end
end Mi
namespace L2
open PySem PySem.Spec PyProof.Rows
section
variable{prog:Program}{w:World}{A:Around}{E:Value->Shared->Prop}{s:Shared}
structure ZipX(z TI TO i1 i2:Addr):Prop where
 TIz:TI≠z
 TOz:TO≠z
 i1z:i1≠z
 i2z:i2≠z
 TITO:TI≠TO
 TIi1:TI≠i1
 TIi2:TI≠i2
 TOi1:TO≠i1
 TOi2:TO≠i2
 i12:i1≠i2
end
section
variable{X:Cx}{K:qA1}
end
section
variable{X:Cx}{e m1:Expr}{te ts:TE}{pos p2:Pos}
end
end L2
namespace L2
open PySem PySem.Spec PyProof.Rows
section
variable{prog:Program}{w:World}{A:Around}{R:Result->Shared->Prop}{I:Addr}{fp wr:List Addr}{G:Array GenState->Array GenState->Prop}{n:Nat}{St:Nat->Shared->Prop}{led:Bool}{items:Array Value}{zs:List Str}
end
end L2
namespace PySem
open PyProof.Rows
end PySem
namespace L2
open PySem PySem.Spec PyProof.Rows
section
variable{X:Cx}{pins:List (Addr×Obj)}{σ:List (Option V)}{H:Hp}{s:Shared}
end
end L2
namespace L3
open PySem PySem.Spec
open L2 hiding Rep RepL
open Mi (Dt Xn R okR zA3 optR zA0 zA7 zAB zA9 zAA Rh Sl Ro EM TM AM FM IM SM OM Tg Out zAP zAN zAT full frz frz1 frzAt)
section
variable[Kc]{mg:Str->Option Value}{E:XK}{L n k l:Nat}{te ta tb:TE}{e ea eb ma:EM}{t:TA}{m:AM}
end
end L3
namespace L2
open PySem
theorem uw1{P:List Value->Prop}(h:∀a,P [a]):∀us:List Value,us.length=1->P us
 |[a],_=>h a
theorem uw2{P:List Value->Prop}(h:∀a b,P [a,b]):∀us:List Value,us.length=2->P us
 |a::us,hl=>uw1 (P:=fun us=>P (a::us)) (h a) us (qHt hl)
theorem uw3{P:List Value->Prop}(h:∀a b c,P [a,b,c]):∀us:List Value,us.length=3->P us
 |a::us,hl=>uw2 (P:=fun us=>P (a::us)) (h a) us (qHt hl)
theorem oi{p q:Prop}(h:p\/q:=by first|exact qI0 rfl|exact qHh rfl):p\/q:=h
end L2
namespace L3
open PySem PyProof.Rows
open L2 hiding Rep RepL
theorem fsc{N P:List Str}{sc:Scope}(a:sc.kind=.function:=by rfl)(b:sc.isCoroutine=false:=by rfl)(c:sc.isGenerator=false:=by rfl)(d:N.Nodup:=by decide +kernel)(e:N.take P.length=P:=by rfl)
  (f:∀x∈P,sc.names.lookup x=some .local\/sc.names.lookup x=some .cell:=by decide +kernel) (g:∀y∈sc.names,y.2≠.free:=by decide +kernel):FnScope N P sc:=⟨a,b,c,d,e,f,g⟩
section
variable{P:Program}{w:World}{K:qA1}{mg:Str->Option Value}{base:Heap}{x:Str}{st:Stmt}{N ps:List Str}{k:Nat}{sp:Sp}
theorem dfM{L n:Nat}{m:Mi.SM}(D:Def K mg x st)(S:FnScope N ps (zA5 st))
  (hb:∀(kV doc pm:Value)(an:Option Addr)(cdv ct:Value)(us:List Value),us.length=ps.length->bindArgs (qBg x x (zBS st) (zB0 st) (zA5 st) .none kV doc pm an cdv ct) ⟨us,[]⟩=pure (ps.zip us))
  (hbody:∀{f:Addr}{cdv:Value}{A:Around}{outer:List Env}{s:Shared}{H:Hp}{vs:List V}{Q:VK}{E:XK},Room k (A.deeper (envOfC x (zA5 st) s.heap.objs.size f cdv))->(A.deeper (envOfC x (zA5 st) s.heap.objs.size f cdv)).units+64<cLine->sp0 K mg L (Mi.runF ps.length n m) vs H Q E ->
   ∃t,PSs (cxOf CX0 P w K mg base N x (zA5 st) f cdv A outer s H E).nox (zB0 st) t/\t { nx:=fun _ H'=>Q .non H',rt:=Q } (start N vs) H):Has P w K mg base x (k+1) ps (sp0 K mg L (Mi.runF ps.length n m)):=
 D.ok S hb (fun _ _ _ _ h=>@zL6 ⟨K⟩ _ _ _ _ _ _ _ _ _ h) fun _ _ _ _ _ _ _ _ _ hr h=>hbody hr hr.units h
theorem dfX{L n:Nat}{m:Mi.SM}(D:Def K mg x st)(S:FnScope N ps (zA5 st))
  (hb:∀(kV doc pm:Value)(an:Option Addr)(cdv ct:Value)(us:List Value),us.length=ps.length->bindArgs (qBg x x (zBS st) (zB0 st) (zA5 st) .none kV doc pm an cdv ct) ⟨us,[]⟩=pure (ps.zip us))
  (hbody:∀{f:Addr}{cdv:Value}{A:Around}{outer:List Env}{s:Shared}{H:Hp}{vs:List V}{Q:VK}{E:XK},Room k (A.deeper (envOfC x (zA5 st) s.heap.objs.size f cdv))->(A.deeper (envOfC x (zA5 st) s.heap.objs.size f cdv)).units+64<cLine->spE K mg L (Mi.runF ps.length n m) vs H Q E ->
   ∃t,PSs (cxOf (CXe P w) P w K mg base N x (zA5 st) f cdv A outer s H E) (zB0 st) t/\t { nx:=fun _ H'=>Q .non H',rt:=Q } (start N vs) H):HasX P w K mg base x (k+1) ps (spE K mg L (Mi.runF ps.length n m)):=
 D.okX S hb (fun _ _ _ _ h=>@zL6 ⟨K⟩ _ _ _ _ _ _ _ _ _ h) fun _ _ _ _ _ _ _ _ _ hr h=>hbody hr hr.units h
theorem mkD{K:qA1}{h:Heap}{mg:Str->Option Value}{nm:Str}{st:Stmt}{f:Addr}{oc kV dc pm cd ct:Value}{od an:Option Addr}{sl:Array (Option Value)}(X:K.In h)(G:h.Ns mainGlobals mg)(a:qDp K mainGlobals nm=some (some (.ref f)))(l:K.lookup f=some ⟨oc,od,.func (qBg nm nm (zBS st) (zB0 st) (zA5 st) .none kV dc pm an cd ct),sl⟩)(c:qCt K cd nm=true)(k:qB5 K (.ref f)=true):Def K mg nm st:=⟨f,_,zRI (st:=st) l c k,qEj X G a⟩
end
section
variable{X:Cx}{pos:Pos}
theorem pgn(i:Nat){x:Str}(hN:decide X.N.Nodup=true:=by kernel_rfl)(hi:X.N[i]?=some x:=by rfl)(hx:Loc X.env.scope x:=by exact oi)(hf:X.fn x=true\/X.env.scope.names.lookup x=some .local:=by first|exact .inl rfl|exact .inr rfl|assumption):PG X (.Name x pos) (zEK i):=zB4 (of_decide_eq_true hN) hi hx hf
theorem pst(i:Nat){x:Str}{e:Expr}{te:TE}{pos':Pos}(hN:X.N.Nodup)(he:PE X e te)(hi:X.N[i]?=some x:=by rfl)(hx:Loc X.env.scope x:=by exact oi)(hs:swapsWith e (some (.Name x pos')) pos.line X.env=pure false:=by rfl)(hf:X.fn x=true\/X.env.scope.names.lookup x=some .local:=by first|exact .inl rfl|exact .inr rfl|assumption):PS X (.Assign [.Name x pos'] e pos) (tAsg te (zEK i)):=zVF hN hi hx he hs hf
end
end L3
namespace Mi
open PySem
noncomputable section
end
end Mi
namespace L3
open PySem PySem.Spec
open L2 hiding Rep RepL
open Mi (Dt Xn R okR zA3 optR zA0 zA7 zAB zA9 zAA Rh Sl Ro EM TM AM FM IM SM Tg Out zAP zAN zAT full frz frz1 frzAt)
section
variable[Kc]
section
variable{G0 H0 S0:Hp}{σ:St}{ρ:Ro}{G H:Hp}{As:Nat->Addr->Prop}
end
variable{mg:Str->Option Value}{E:XK}{L n k l:Nat}{te ta tb:TE}{e ea eb ma:EM}{t:TA}{m:AM}
theorem zYG(i:Nat)(A:DE mg E te e 0):DS mg E L (zGU (tML extM (vM i) (zDR te tNil))) (Mi.sExt i 0 e):=by
 intro G0 H0 S0 σ ρ G H As D a p;obtain⟨J,x,s,w⟩:=a.full;unfold Mi.sExt at p
 split at p
 ·rename_i ds k e1
  obtain⟨v,h1,q,xs,T,rfl,hq,kd⟩:=a.at i _ _ e1;unfold zGU tML vM;rw[h1];refine⟨xs,hq,?_⟩;refine A.step (errS.from x) x.in' w p fun d y G1 H1 S _ fr o p1=>?_
  split at p1
  ·rename_i es
   obtain⟨b0,zs,rfl,hb0,rz⟩:=o
   split at p1
   ·rename_i hz
    refine⟨xs,zs,fr.ext.h _ _ hq,fr.ext.in' _ _ hb0,by rw[kd.len,rz.length];exact big' (by omega),?_⟩;have hp:=kd.top;have a1:=a.grow fr.ext.h;refine p1 σ G _ _ (a1.store (S:=As i) hp h1 ⟨q,_,fun r b=>r<ds.length/\T r b,rfl,zAD,⟨by simp[kd.len,rz.length],fun r d' z g1 g2=>?_,hp,fun r z=>kd.out r z.2,fun r r' b z1 z2=>kd.dis r r' b z1.2 z2.2,fun r b z=>kd.sub r b z.2⟩⟩ fun b z=>.inl z)
    by_cases hr:r<ds.length
    ·rw[qAa hr]at g1;rw[qAa (by rw[kd.len];exact hr)]at g2;exact(((kd.own r d' z g1 g2).mono (Same.refl _) fr.ext.h).upd (kd.out r)).sub fun b z=>⟨hr,z⟩
    ·rw[qA8 (by omega)]at g1;rw[qA8 (by rw[kd.len];omega),kd.len]at g2;have hd:d'.dep=0:=qFo.mp (zDI hz.2.1 g1);exact zVN (Rep.scalar (zCF rz g1 g2) hd) hd
   ·exact p1.elim
  ·exact p1.elim
 ·exact p.elim
end
end L3
namespace Mp
noncomputable section
open Mi PySem
def zF8:SM:=(sRet 0 0 [0] (eAnd (eIsi "int" (eV 0)) (eNot (eIsi "bool" (eV 0)))))
def zBO:FM:=runF 1 1 zF8
def zSF:SM:=(sRet 1 1 [0,1] (eComp (iR1 (aCons (eBi lenD (aCons (eV 0) aNil)) aNil)) 1 (.one 2) Mi.tYes (eB xorD (eB ixD (eV 0) (eV 2)) (eB ixD (eV 1) (eV 2)))))
def zG5:FM:=runF 2 2 zSF
def zGS:SM:=(sRet 2 2 [1,0] (eComp (iSq (eV 1)) 1 (.one 2) Mi.tYes (eComp (iSq (eV 1)) 1 (.one 3) Mi.tYes (eB ixD (eB ixD (eV 0) (eV 2)) (eV 3)))))
def zCV:FM:=runF 2 2 zGS
def zKU:SM:=(sSeq (sSet 3 0 [0,2] (eB ixD (eV 0) (eV 2)))
 (sSeq (sSet 4 1 [0,3,1] (eComp (iSq (eV 0)) 1 (.one 5) Mi.tYes (eIf (tB (eB eqD (eB ixD (eV 5) (eV 1)) (eC (.int 1)))) (eCall zG5 (aCons (eV 5) (aCons (eV 3) aNil))) (eV 5))))
 (sSeq (sItemS 4 (eV 2) (eV 1))
 (sSeq (sItemF 4 [3] (eV 1) (eV 3))
 (sRetV 1 4)))))
def zDB:FM:=runF 3 5 zKU
def zHG:SM:=(sRet 1 1 [1,0] (eComp (iR1 (aCons (eV 0) aNil)) 1 (.one 2) Mi.tYes (eIf (tB (eB eqD (eV 2) (eV 1))) (eC (.int 1)) (eC (.int 0)))))
def zCO:FM:=runF 2 2 zHG
def zGQ:SM:=(sSeq (sSet 1 0 [0] (eBi lenD (aCons (eV 0) aNil)))
 (sSeq (sSet 2 2 [0,1] (eComp (iR1 (aCons (eV 1) aNil)) 1 (.one 5) Mi.tYes (eB addD (eB ixD (eV 0) (eV 5)) (eCall zCO (aCons (eV 1) (aCons (eV 5) aNil))))))
 (sSeq (sForR (iR1 (aCons (eV 1) aNil)) 3 (sSeq (sSet 4 1 [3,1,2] (eComp (iR2 (aCons (eV 3) (aCons (eV 1) aNil))) 1 (.one 5) (tB (eB eqD (eB ixD (eB ixD (eV 2) (eV 5)) (eV 3)) (eC (.int 1)))) (eV 5)))
 (sSeq (sIf (tNo (tL (eV 4))) (sRet 2 2 [] (eC .non)) sNil)
 (sSet 2 1 [2,3,4] (eCall zDB (aCons (eV 2) (aCons (eV 3) (aCons (eB ixD (eV 4) (eC (.int 0))) aNil))))))))
 (sRet 2 2 [2,1] (eComp (iSq (eV 2)) 1 (.one 5) Mi.tYes (eSl (eV 5) (oE (eV 1)) oNo))))))
def zG4:FM:=runF 1 5 zGQ
def zGR:SM:=(sRet 0 0 [0] (eBi allD (aCons (eComp (iSq (eV 0)) 1 (.one 1) Mi.tYes (eCall zBO (aCons (eV 1) aNil))) aNil)))
def zCU:FM:=runF 1 1 zGR
def zO3:SM:=(sRet 0 0 [1,0] (eAnd (eCall zCU (aCons (eV 1) aNil)) (eB eqD (eV 1) (eComp (iR1 (aCons (eBi lenD (aCons (eV 0) aNil)) aNil)) 1 (.one 2) (tB (eB (inD false) (eV 2) (eV 1))) (eV 2)))))
def zFG:FM:=runF 2 2 zO3
def zPB:SM:=(sRet 0 0 [0,1] (eAnd (eCall zFG (aCons (eV 0) (aCons (eV 1) aNil))) (eB isntD (eCall zG4 (aCons (eCall zCV (aCons (eV 0) (aCons (eV 1) aNil))) aNil)) (eC .non))))
def zES:FM:=runF 2 2 zPB
def zC8:SM:=(sSeq (sSet 2 0 [] (eC (.int 0)))
 (sSeq (sIf (tB (eB (cmpD fun i j=>decide (j<i)) (eBi lenD (aCons (eV 0) aNil)) (eC (.int 0)))) (sSet 2 0 [0,1] (eB ixD (eV 0) (eB modD (eV 1) (eBi lenD (aCons (eV 0) aNil))))) sNil)
 (sSeq (sSet 3 0 [2,1] (eB modD (eB mulD (eB addD (eB modD (eV 2) (eC (.int 2147483629))) (eB mulD (eC (.int 104729)) (eB addD (eV 1) (eC (.int 1))))) (eC (.int 48271))) (eC (.int 2147483647))))
 (sRet 0 0 [3] (eB modD (eB mulD (eV 3) (eC (.int 69621))) (eC (.int 2147483629)))))))
def zC6:FM:=runF 2 4 zC8
def zCZ:SM:=(sSeq (sSet 2 0 [] (eC (.int 0)))
 (sSeq (sIf (tAn (tB (eB (cmpD fun i j=>decide (j<i)) (eBi lenD (aCons (eV 0) aNil)) (eC (.int 0)))) (tB (eB eqD (eB modD (eB ixD (eV 0) (eC (.int 0))) (eC (.int 2))) (eC (.int 1))))) (sSeq (sIf (tB (eB (cmpD fun i j=>decide (i<j)) (eV 1) (eBi lenD (aCons (eV 0) aNil)))) (sSet 2 0 [0,1] (eB divD (eB modD (eB ixD (eV 0) (eV 1)) (eB mulD (eC (.int 2)) (eB powD (eC (.int 10)) (eC (.int 60))))) (eB subD (eC (.int 2)) (eBi minD (aCons (eV 1) (aCons (eC (.int 1)) aNil)))))) sNil)
 (sRetV 1 2)) sNil)
 (sSeq (sForR (iR1 (aCons (eC (.int 7)) aNil)) 3 (sSet 2 1 [2,0,3,1] (eB addD (eB mulD (eV 2) (eC (.int 2147483629))) (eCall zC6 (aCons (eV 0) (aCons (eB addD (eB mulD (eC (.int 7)) (eV 1)) (eV 3)) aNil))))))
 (sRet 1 1 [2] (eB modD (eV 2) (eB powD (eC (.int 10)) (eC (.int 60))))))))
def zAX:FM:=runF 2 4 zCZ
def zCY:SM:=(sSeq (sIf (Mi.tOr (tB (eB neD (eBi lenD (aCons (eV 1) aNil)) (eC (.int 1)))) (tB (eB (inD true) (eV 1) (eV 0)))) (sRaise "NoLetter" "letter" (aCons (eV 1) aNil)) sNil)
 (sRet 0 0 [1,0] (eMt findD (eV 0) (aCons (eV 1) aNil))))
def zCT:FM:=runF 2 2 zCY
def zE7:SM:=(sRet 1 1 [0,1] (eTup (aCons (eCall zCT (aCons (eV 0) (aCons (eV 1) aNil))) (aCons (eMt rfindD (eV 0) (aCons (eV 1) aNil)) aNil))))
def zE3:FM:=runF 2 2 zE7
def zF7:SM:=(sRet 0 0 [0] (eMt joinD (eC (.str "")) (aCons (eBi sosD (aCons (eV 0) aNil)) aNil)))
def zB2:FM:=runF 1 1 zF7
def zEX:SM:=(sSeq (sSet 3 1 [0,1] (eCall zE3 (aCons (eV 0) (aCons (eV 1) aNil))))
 (sRet 0 0 [2,0,3] (eB eqD (eMt countD (eSl (eV 0) (oE (eB addD (eB ixD (eV 3) (eC (.int 0))) (eC (.int 1)))) (oE (eB ixD (eV 3) (eC (.int 1))))) (aCons (eV 2) aNil)) (eC (.int 1)))))
def zDN:FM:=runF 3 4 zEX
def zE8:SM:=(sSeq (sSet 1 0 [0] (eCallN zB2 (aCons (eV 0) aNil)))
 (sRet 2 2 [1,0] (eComp (iSq (eV 1)) 1 (.one 2) Mi.tYes (eComp (iSq (eV 1)) 1 (.one 3) Mi.tYes (eIf (tM (eCallN zDN (aCons (eV 0) (aCons (eV 2) (aCons (eV 3) aNil))))) (eC (.int 1)) (eC (.int 0)))))))
def zE4:FM:=runF 1 2 zE8
def zIX:SM:=(sSeq (sSet 2 0 [0,1] (eB ixD (eLst (aCons (eTup (aCons (eC (.int 1)) (aCons (eC (.int 0)) (aCons (eC (.int 3)) (aCons (eC (.int 2)) aNil))))) (aCons (eTup (aCons (eC (.int 2)) (aCons (eC (.int 3)) (aCons (eC (.int 0)) (aCons (eC (.int 1)) aNil))))) (aCons (eTup (aCons (eC (.int 3)) (aCons (eC (.int 2)) (aCons (eC (.int 1)) (aCons (eC (.int 0)) aNil))))) aNil)))) (eB ixD (eV 0) (eB divD (eV 1) (eC (.int 4))))))
 (sRet 1 1 [1,2] (eB addD (eB subD (eV 1) (eB modD (eV 1) (eC (.int 4)))) (eB ixD (eV 2) (eB modD (eV 1) (eC (.int 4)))))))
def zIC:FM:=runF 2 3 zIX
def zKW:SM:=(sSeq (sSet 3 9 [] (eLst aNil))
 (sSeq (sSet 4 0 [2] (eV 2))
 (sSeq (sWhile (Mi.tOr (tB (eB eqD (eV 3) (eLst aNil))) (tB (eB neD (eV 4) (eV 2)))) (sSeq (sApp 3 0 (eV 4))
 (sSeq (sApp 3 1 (eCall zIC (aCons (eV 1) (aCons (eV 4) aNil))))
 (sSet 4 0 [0,3] (eB ixD (eV 0) (eB ixD (eV 3) (eU negD (eC (.int 1)))))))))
 (sRetV 9 3))))
def zK6:FM:=runF 3 5 zKW
def zIW:SM:=(sSeq (sSet 2 1 [] eDct0)
 (sSeq (sSet 3 9 [] (eLst aNil))
 (sSeq (sForR (iR1 (aCons (eBi lenD (aCons (eV 0) aNil)) aNil)) 4 (sIf (tB (eB (dinD true) (eV 4) (eV 2))) (sSeq (sSet 5 9 [0,1,4] (eCall zK6 (aCons (eV 0) (aCons (eV 1) (aCons (eV 4) aNil)))))
 (sSeq (sFor [5] (iSq (eV 5)) (.one 6) (sDput 2 (eV 6) (eC (.bl true))))
 (sAppF 3 [5] (eV 5)))) sNil))
 (sRetV 1 3))))
def zIB:FM:=runF 2 7 zIW
def zUT:SM:=(sRet 0 0 [1,0] (eB xorD (eV 1) (eB addD (eV 0) (eC (.int 1)))))
def zTS:FM:=runF 2 2 zUT
def zKT:SM:=(sSeq (sSet 2 0 [1] (eB divD (eV 1) (eC (.int 4))))
 (sRet 1 1 [2,0,1] (eB addD (eB mulD (eV 2) (eC (.int 4))) (eCall zTS (aCons (eB ixD (eV 0) (eV 2)) (aCons (eB modD (eV 1) (eC (.int 4))) aNil))))))
def zF4:FM:=runF 2 3 zKT
def zPA:SM:=(sSeq (sSet 3 1 [2,1] (eLst (aCons (eV 2) (aCons (eCall zF4 (aCons (eV 1) (aCons (eV 2) aNil))) aNil))))
 (sSeq (sWhile (tB (eB neD (eB ixD (eV 0) (eB ixD (eV 3) (eU negD (eC (.int 1))))) (eV 2))) (sSeq (sSet 4 0 [0,3] (eB ixD (eV 0) (eB ixD (eV 3) (eU negD (eC (.int 1))))))
 (sExt 3 0 (eLst (aCons (eV 4) (aCons (eCall zF4 (aCons (eV 1) (aCons (eV 4) aNil))) aNil))))))
 (sRetV 1 3)))
def zH9:FM:=runF 3 5 zPA
def zMI:SM:=(sSeq (sSet 2 9 [] (eLst aNil))
 (sSeq (sSet 3 1 [] eDct0)
 (sSeq (sForR (iR1 (aCons (eBi lenD (aCons (eV 0) aNil)) aNil)) 4 (sIf (tB (eB (dinD true) (eV 4) (eV 3))) (sSeq (sSet 5 1 [0,1,4] (eCall zH9 (aCons (eV 0) (aCons (eV 1) (aCons (eV 4) aNil)))))
 (sSeq (sAppF 2 [5] (eV 5))
 (zcC 3 (eComp (iSq (eV 5)) 1 (.one 6) Mi.tYes (eTup (aCons (eV 6) (aCons (eC (.bl true)) aNil))))))) sNil))
 (sRetV 1 2))))
def zLT:FM:=runF 2 6 zMI
def zCH:SM:=(sSeq (sSet 2 1 [0,1] (eB addD (eC (.int 1)) (eB modD (eV 0) (eV 1))))
 (sSeq (sSet 3 0 [0,1] (eB divD (eV 0) (eV 1)))
 (sSeq (sSet 4 1 [] (eBi listXD (aCons (eC (.str "abcdefghijklmnopqrstuvwxyz")) aNil)))
 (sSeq (sSet 5 9 [] (eLst aNil))
 (sSeq (sForR (iR1 (aCons (eV 2) aNil)) 6 (sSeq (sPop 7 4 (eB modD (eV 3) (eBi lenD (aCons (eV 4) aNil))))
 (sSeq (sSet 3 0 [3,4] (eB divD (eV 3) (eB addD (eBi lenD (aCons (eV 4) aNil)) (eC (.int 1)))))
 (sExt 5 0 (eLst (aCons (eV 7) (aCons (eV 7) aNil)))))))
 (sSeq (sSet 8 0 [] (eC (.str "")))
 (sSeq (sForR (iR1 (aCons (eB mulD (eC (.int 2)) (eV 2)) aNil)) 6 (sSeq (sAddPop 8 5 (eB modD (eV 3) (eBi lenD (aCons (eV 5) aNil))))
 (sSet 3 0 [3,5] (eB divD (eV 3) (eB addD (eBi lenD (aCons (eV 5) aNil)) (eC (.int 1)))))))
 (sRetV 0 8))))))))
def zBM:FM:=runF 2 9 zCH
def zIZ:SM:=(sSeq (sSet 3 9 [] (eLst aNil))
 (sSeq (sForR (iR1 (aCons (eV 2) aNil)) 4 (sSeq (sApp 3 0 (eB modD (eV 0) (eV 1)))
 (sSet 0 0 [0,1] (eB divD (eV 0) (eV 1)))))
 (sRetV 9 3)))
def zBG:FM:=runF 3 5 zIZ
def zIY:SM:=(sRet 1 1 [0] (eComp (iEnX (aCons (eV 0) aNil)) 2 (.tup [1,2]) (tB (eB eqD (eMt indexD (eV 0) (aCons (eV 2) aNil)) (eV 1))) (eV 2)))
def zCW:FM:=runF 1 1 zIY
def zKV:SM:=(sSeq (sSet 2 0 [0] (eCall zB2 (aCons (eV 0) aNil)))
 (sSeq (sSet 3 1 [0] (eCall zCW (aCons (eV 0) aNil)))
 (sSeq (sSet 4 2 [] (eLst (aCons (eLst (aCons (eC (.int 1)) (aCons (eC (.int 0)) (aCons (eC (.int 3)) (aCons (eC (.int 2)) aNil))))) (aCons (eLst (aCons (eC (.int 2)) (aCons (eC (.int 3)) (aCons (eC (.int 0)) (aCons (eC (.int 1)) aNil))))) (aCons (eLst (aCons (eC (.int 3)) (aCons (eC (.int 2)) (aCons (eC (.int 1)) (aCons (eC (.int 0)) aNil))))) aNil)))))
 (sSeq (sSet 5 1 [] eDct0)
 (sSeq (sFor [3] (iEn (aCons (eV 3) aNil)) (.tup [6,7]) (sSeq (sSet 8 0 [4,1,7,2] (eB ixD (eV 4) (eB ixD (eV 1) (eMt indexD (eV 2) (aCons (eV 7) aNil)))))
 (sForR (iR1 (aCons (eC (.int 4)) aNil)) 9 (sDput 5 (eB addD (eB mulD (eC (.int 4)) (eV 6)) (eV 9)) (eB addD (eB mulD (eC (.int 4)) (eV 6)) (eB ixD (eV 8) (eV 9)))))))
 (sSeq (sSet 10 9 [] (eLst aNil))
 (sSeq (sFor [0] (iEnX (aCons (eV 0) aNil)) (.tup [11,7]) (sApp 10 1 (eB addD (eB mulD (eC (.int 4)) (eMl lifD (eV 3) (aCons (eV 7) aNil))) (eB mulD (eC (.int 2)) (eBi intD (aCons (eB (cmpD fun i j=>decide (i<j)) (eMt indexD (eV 0) (aCons (eV 7) aNil)) (eV 11)) aNil))))))
 (sSeq (sSet 12 1 [] eDct0)
 (sSeq (sForR (iR1 (aCons (eBi lenD (aCons (eV 0) aNil)) aNil)) 11 (sSeq (sSet 13 0 [10,11,0] (eB ixD (eV 10) (eB modD (eB addD (eV 11) (eC (.int 1))) (eBi lenD (aCons (eV 0) aNil)))))
 (sSeq (sDput 12 (eB addD (eB ixD (eV 10) (eV 11)) (eC (.int 1))) (eV 13))
 (sDput 12 (eV 13) (eB addD (eB ixD (eV 10) (eV 11)) (eC (.int 1)))))))
 (sRet 1 1 [5,12] (eTup (aCons (eV 5) (aCons (eV 12) aNil)))))))))))))
def zCD:FM:=runF 2 14 zKV
def zFB:SM:=(sSeq (sUnp [2,3] [0,1] (eCall zCD (aCons (eV 0) (aCons (eV 1) aNil))))
 (sSeq (sSet 4 9 [] (eLst aNil))
 (sSeq (sSet 5 9 [] (eLst aNil))
 (sSeq (sForR (iR1 (aCons (eB mulD (eC (.int 2)) (eBi lenD (aCons (eV 0) aNil))) aNil)) 6 (sIf (tB (eB (inD true) (eV 6) (eV 4))) (sSeq (sSet 7 9 [] (eLst aNil))
 (sSeq (sSet 8 0 [6] (eV 6))
 (sSeq (sWhile (tB (eB (inD true) (eV 8) (eV 7))) (sSeq (sExt 7 0 (eLst (aCons (eV 8) (aCons (eDIx (eV 2) (eV 8)) aNil))))
 (sSet 8 0 [3,2,8] (eDIx (eV 3) (eDIx (eV 2) (eV 8))))))
 (sSeq (sExt 4 0 (eV 7))
 (sAppF 5 [7] (eV 7)))))) sNil))
 (sRetV 1 5)))))
def zB9:FM:=runF 2 9 zFB
def zSE:SM:=(sSeq (sSet 1 0 [0] (eCall zBM (aCons (eCall zAX (aCons (eV 0) (aCons (eC (.int 0)) aNil))) (aCons (eC (.int 10)) aNil))))
 (sSeq (sSet 2 0 [1] (eBi lenD (aCons (eCall zB2 (aCons (eV 1) aNil)) aNil)))
 (sSeq (sSet 3 2 [1] (eCall zE4 (aCons (eV 1) aNil)))
 (sSeq (sForR (iR1 (aCons (eC (.int 4)) aNil)) 4 (sSeq (sSet 5 1 [2,0,4] (eComp (iSq (eCall zBG (aCons (eCall zAX (aCons (eV 0) (aCons (eB addD (eC (.int 1)) (eV 4)) aNil))) (aCons (eC (.int 2)) (aCons (eV 2) aNil))))) 1 (.one 8) Mi.tYes (eB mulD (eC (.int 2)) (eV 8))))
 (sSeq (sSet 6 1 [2,5] (eComp (iR1 (aCons (eV 2) aNil)) 1 (.one 8) (tB (eB eqD (eB ixD (eV 5) (eV 8)) (eC (.int 2)))) (eV 8)))
 (sSeq (sSet 7 0 [3,6] (eCall zES (aCons (eV 3) (aCons (eV 6) aNil))))
 (sIf (Mi.tOr (tNo (tM (eIsi "bool" (eV 7)))) (tB (eB neD (eV 7) (eB eqD (eBi lenD (aCons (eCall zB9 (aCons (eV 1) (aCons (eV 5) aNil))) aNil)) (eC (.int 1)))))) (sRet 0 0 [] (eC (.bl false))) sNil)))))
 (sRet 0 0 [] (eC (.bl true)))))))
def zK5:FM:=runF 1 8 zSE
end
end Mp
namespace Mp
open Mi PySem
theorem zKA(i:Int):zBO [.int i]=okR (.bl true):=by
 unfold zBO zF8;simp[isiD,tyD]
end Mp
namespace Mi
open PySem
section
variable(ρ:Rh)(r:Ro)(a:EM)(am:AM)
@[simp] theorem x_tL:tL a ρ=zA3 (a ρ) fun x=>match x with | .bl k=>okR k | .int i=>okR (i != 0) | .non=>okR false | .lst xs=>okR (!xs.isEmpty) | .tup xs=>okR (!xs.isEmpty)|_=>none:=rfl
@[simp] theorem x_eMl(f:List Dt->List Dt->Option Dt):eMl f a am ρ=zA3 (a ρ) fun x=>match x with | .lst xs=>zA3 (am ρ) fun ds=>optR (f xs ds)|_=>none:=rfl
@[simp] theorem x_iRv:iRv am ρ=zA3 (am ρ) fun vs=>match vs with|[.lst xs]=>okR xs.reverse|_=>none:=rfl
@[simp] theorem v_xor(i j:Int):xorD (.int i) (.int j)=some (.int (Builtin.bitXor i j)):=rfl
@[simp] theorem v_rep(xs:List Dt)(k:Int):repD (.lst xs) (.int k)=@ite _ ((-4611686018427387904<=k/\k<4611686018427387904)/\xs.length*k.toNat<=100000) (qA4 _) (some (.lst (qA9 k.toNat xs).flatten)) none:=rfl
end
end Mi
namespace Mi
open PySem
@[simp] theorem okR_inj{α:Type}{a b:α}:okR a=okR b↔a=b:=⟨fun h=>by cases h;rfl,fun h=>by rw[h]⟩
@[simp] theorem zV0(vs:List Nat)(it:IM)(tg:Tg)(b:SM)(r:Ro):sFor vs it tg b r=zA3 (it (frz (frzAt vs r))) fun ds=>forGo tg b ds (frzAt vs r):=rfl
@[simp] theorem zCQ(it:IM)(i:Nat)(b:SM)(r:Ro):sForR it i b r=zA3 (it (full r)) fun ds=>forGo (.one i) b ds r:=rfl
@[simp] theorem x_iSq(e:EM)(ρ:Rh):iSq e ρ=zA3 (e ρ) fun d=>match d with | .lst xs=>okR xs | .tup xs=>okR xs | .scr ns=>okR (ns.map .int) | .str z=>okR (signsD z)|_=>none:=rfl
@[simp] theorem x_iEn(e:AM)(ρ:Rh):iEn e ρ=zA3 (e ρ) fun vs=>match vs with|[.lst xs]=>okR (enumD 0 xs)|_=>none:=rfl
@[simp] theorem x_iZi(e:AM)(ρ:Rh):iZi e ρ=zA3 (e ρ) fun vs=>match vs with|[.lst xs,.lst ys]=>okR (zipD xs ys)|_=>none:=rfl
theorem zE9{e:AM}{ρ:Rh}{n:Nat}(h:e ρ=okR [.int n])(hn:n<=100000):iR1 e ρ=okR (nums 0 n):=by
 unfold iR1;rw[h,zA0];dsimp only;rw[if_pos (by omega)];simp
theorem zDK(n:Nat):nums 0 n=(qA6 n).map fun i:Nat=>Dt.int (i:Int):=by
 unfold nums;exact qAs fun i _=>by simp
def nxR(x:R Out)(P:Ro->Prop):Prop:=match x with
 |some (.ok (.nx r))=>P r
 |_=>False
@[simp] theorem x_nxR(r:Ro)(P:Ro->Prop):nxR (okR (.nx r)) P=P r:=rfl
theorem zBE{x:R Out}{P:Ro->Prop}(h:nxR x P):∃r',x=okR (.nx r')/\P r':=by
 unfold nxR at h
 split at h
 ·exact⟨_,rfl,h⟩
 ·exact h.elim
theorem zAS{x:R Out}{P:Ro->Prop}{r:Ro}(h:x=okR (.nx r))(hp:P r):nxR x P:=by rw[h];exact hp
theorem zc2{i n:Nat}{e:EM}{r:Ro}{ds:List Dt}{k:Nat}{d:Dt}(h:r[i]?=some (some (.lst ds,k+1)))(he:e (full r)=okR d)(h1:ds.length<=100000)(h2:d.dep<=n)(h3:d.dep<=k):sApp i n e r=okR (.nx (r.set i (some (.lst (ds++[d]),k+1)))):=by
 unfold sApp;rw[h];dsimp only;rw[he,zA0,if_pos ⟨h1,h2,h3⟩]
theorem zI9{i j:Int}(h:-18446744073709551616<i)(h':i<18446744073709551616):mulD (.int i) (.int j)=some (.int (i*j)):=by
 rw[zWP,if_pos (.inl (.inl ⟨h,h'⟩))]
theorem zXL{i j:Int}(h:-18446744073709551616<j)(h':j<18446744073709551616):mulD (.int i) (.int j)=some (.int (i*j)):=by
 rw[zWP,if_pos (.inl (.inr ⟨h,h'⟩))]
theorem zEV{ρ:Rh}{c:TM}{e:EM}{i:Nat}(g:Nat->Dt)(n:Nat)(hc:c=tYes)(hi:i=ρ.length)(h:∀k,k<n->e (ρ++[some (.int (k:Nat))])=okR (g k))(it:IM)(hit:it ρ=okR (nums 0 n))(hn:n<=100000):eComp it 1 (.one i) c e ρ=okR (.lst ((qA6 n).map g)):=by
 subst hc hi;unfold eComp;rw[hit,zA0,if_pos ⟨by simpa[nums]using hn,by simp[Tg.idx]⟩];rw[zO0 (fun d=>match d with | .int k=>g k.toNat|_=>.non) _ [] fun d hd=>?_]
 ·rw[zA0,zDK,qB3];simp only[List.nil_append]
  congr 2
 ·rw[zDK]at hd;obtain⟨k,hk,rfl⟩:=qAd.mp hd;refine⟨_,rfl,rfl,?_⟩
  have:zAN (ρ++qA9 1 none) [(ρ.length,Dt.int (k:Int))]=ρ++[some (.int (k:Nat))]:=by
   simp[zAN]
  rw[this]
  simpa using h k (by simpa using hk)
theorem zBD{ρ:Rh}{c:TM}{e:EM}{i:Nat}{β:Type}(en:β->Dt)(g:β->Dt)(ns:List β)(hc:c=tYes)(hi:i=ρ.length)(h:∀k,k∈ns->e (ρ++[some (en k)])=okR (g k))(it:IM)(hit:it ρ=okR (ns.map en))(hn:ns.length<=100000):eComp it 1 (.one i) c e ρ=okR (.lst (ns.map g)):=by
 subst hc hi;unfold eComp;rw[hit,zA0,if_pos ⟨by simpa using hn,by simp[Tg.idx]⟩]
 have:∀(ns:List β)(acc:List Dt),(∀k,k∈ns->e (ρ++[some (en k)])=okR (g k))->compGo ρ 1 (.one ρ.length) tYes e (ns.map en) acc=okR (acc++ns.map g):=by
  intro ns
  induction ns with
  |nil=>intro acc _;simp[compGo]
  |cons d r ih=>
   intro acc h;rw[qAi,compGo];have e1:zAN (ρ++qA9 1 none) [(ρ.length,en d)]=ρ++[some (en d)]:=by simp[zAN]
   show zA3 (tYes _) _=_;simp only[zZ5,zA0,if_true];show zA3 (e (zAN (ρ++qA9 1 none) [(ρ.length,en d)])) _=_;rw[e1,h d (by simp),zA0,ih _ fun k hk=>h k (by simp[hk])];simp
 rw[this ns [] h,zA0];simp
theorem zD1{a b:SM}{r:Ro}{X:R Out}(h:∀bb:SM,bb=b->nxR (a r) fun r1=>bb r1=X):sSeq a b r=X:=by
 obtain⟨r1,h1,h2⟩:=zBE (h b rfl);unfold sSeq;rw[h1,zA0];exact h2
theorem zD0{a b:SM}{r:Ro}{P:Ro->Prop}(h:∀bb:SM,bb=b->nxR (a r) fun r1=>nxR (bb r1) P):nxR (sSeq a b r) P:=by
 obtain⟨r1,h1,h2⟩:=zBE (h b rfl);unfold sSeq;rw[h1,zA0];exact h2
theorem zZK{a b:SM}{r:Ro}{d:Dt}(h:a r=okR (.rt d)):sSeq a b r=okR (.rt d):=by
 unfold sSeq;rw[h,zA0]
theorem zBN{P n:Nat}{b:SM}{ds:List Dt}{d:Dt}(h:ds.length=P)(hb:b (startO n ds)=okR (.rt d)):runF P n b ds=okR d:=by
 unfold runF;rw[if_pos h,hb];rfl
theorem zK1{j n:Nat}{b:SM}{r:Ro}{X:Ro->Prop}(Pv:Nat->Ro->Prop)(h:Pv 0 r)(hs:∀k,k<n->∀r,Pv k r->nxR (b (r.set j (some (.int (k:Nat),0)))) (Pv (k+1)))(hK:∀r',Pv n r'->X r'):nxR (forGo (.one j) b (nums 0 n) r) X:=by
 obtain⟨r',h1,h2⟩:∃r',forGo (.one j) b (nums 0 n) r=okR (.nx r')/\Pv n r':=by
  obtain⟨r',h1,h2⟩:=zLZ (tg:=.one j) (b:=b) Pv (nums 0 n) 0 r h fun k d r hd hp=>by
   rw[zDK,qAh]at hd;cases e:(qA6 n)[k]? with
   |none=>rw[e]at hd;cases hd
   |some q=>
    rw[e]at hd;cases hd;obtain⟨h1,h2⟩:=qA5.mp e;rw[qC3]at h2;subst h2;rw[qC4]at hp;obtain⟨r',g1,g2⟩:=zBE (hs k (by simpa using h1) r hp);exact⟨_,r',rfl,g1,by rw[qC4];exact g2⟩
  exact⟨r',h1,by simpa[nums]using h2⟩
 rw[h1];exact hK r' h2
theorem zTJ{c:TM}{b:SM}{r:Ro}{X:Ro->Prop}(Pv:Ro->Prop)(μ:Ro->Nat)(Rv:Ro->Prop)(h0:Pv r)(hm:μ r<1000000)(hc:∀r,Pv r->(c (full r)=okR false/\Rv r)\/(c (full r)=okR true/\nxR (b r) fun r'=>Pv r'/\μ r'<μ r))(hK:∀r',Rv r'->X r'):nxR (sWhile c b r) X:=by
 obtain⟨r',h1,h2⟩:=zOH Pv μ Rv h0 hm fun r hr=>(hc r hr).imp (fun z=>z) fun z=>⟨z.1,zBE z.2⟩
 rw[h1];exact hK r' h2
theorem zK4:∀(a b:List Char),a.map qI2=b.map qI2->a=b
 |[],[],_=>rfl
 |[],_::_,h=>by simp at h
 |_::_,[],h=>by simp at h
 |x::r,y::q,h=>by
  simp only[qAi,List.cons.injEq]at h;rw[zK4 r q h.2]
  have:x=y:=Char.toNat_inj.mp h.1
  rw[this]
@[simp] theorem str_inj(a b:String):(Str.ofString a=Str.ofString b)↔a=b:=by
 constructor
 ·intro h;rw[Str.ofString_eq_toList,Str.ofString_eq_toList]at h;simp only[Str.mk.injEq,List.toArray_inj]at h
  have:=zK4 _ _ (by simpa using h)
  exact String.toList_inj.mp this
 ·intro h;rw[h]
theorem zNS:∀(ds:List Dt)(n i:Nat)(d:Dt),(enumD n ds)[i]?=some d->∃e,ds[i]?=some e/\d=.tup [.int ((n+i:Nat):Int),e]
 |[],_,_,_,h=>by simp[enumD]at h
 |x::r,n,0,d,h=>by simp[enumD]at h;exact⟨x,by simp,by rw[<- h];rfl⟩
 |x::r,n,i+1,d,h=>by
  rw[enumD]at h;obtain⟨e,h1,h2⟩:=zNS r (n+1) i d (by simpa using h);exact⟨e,by simpa using h1,by rw[h2,show n+1+i=n+(i+1) by omega]⟩
theorem zII:∀(ds:List Dt)(n:Nat),(enumD n ds).length=ds.length
 |[],_=>rfl
 |_::r,n=>by rw[enumD,qAu,qAu,zII r]
theorem zQR{a b:Nat}{s:SM}{r:Ro}{X:Ro->Prop}(xs:List Dt)(Pv:Nat->Ro->Prop)(h:Pv 0 r)(hs:∀k x,xs[k]?=some x->∀r,Pv k r->nxR (s ((r.set a (some (.int (k:Nat),0))).set b (some (x,0)))) (Pv (k+1)))(hK:∀r',Pv xs.length r'->X r'):nxR (forGo (.tup [a,b]) s (enumD 0 xs) r) X:=by
 obtain⟨r',h1,h2⟩:=zLZ (tg:=.tup [a,b]) (b:=s) Pv (enumD 0 xs) 0 r h fun k d r hd hp=>by
  obtain⟨e,g1,rfl⟩:=zNS xs 0 k d hd;rw[qC4]at hp;obtain⟨r',g2,g3⟩:=zBE (hs k e g1 r hp);refine⟨_,r',rfl,?_,by rw[qC4];exact g3⟩;rw[qC4];exact g2
 rw[h1];exact hK r' (by simpa[zII]using h2)
end Mi
namespace Mi
open PySem
section
variable(ρ:Rh)(a:EM)(am:AM)(lo hi:OM)
@[simp] theorem zc0:eSl a lo hi ρ=zA3 (a ρ) fun x=>zA3 (lo ρ) fun l=>zA3 (hi ρ) fun h=>optR (slD x l h):=rfl
@[simp] theorem zbZ:oNo ρ=okR none:=rfl
@[simp] theorem x_oE:oE a ρ=zA3 (a ρ) fun d=>match d with | .int i=>okR (some i)|_=>none:=rfl
@[simp] theorem zc1(f:Dt->List Dt->Option Dt):eMt f a am ρ=zA3 (a ρ) fun x=>if zNM x=true then zA3 (am ρ) fun xs=>optR (f x xs)else none:=rfl
@[simp] theorem v_isStr(z:Str):zNM (.str z)=true:=rfl
end
@[simp] theorem v_slL(xs:List Dt)(l h:Option Int):slD (.lst xs) l h=some (.lst (cutA xs l h)):=rfl
@[simp] theorem zc6(z:Str)(l h:Option Int):slD (.str z) l h=@ite _ (z.length<=100000) (qA4 _) (some (.str ⟨(cutA z.cps.toList l h).toArray⟩)) none:=rfl
@[simp] theorem v_ixSt(z:Str)(i:Int):ixD (.str z) (.int i)=@ite _ (z.length<=100000) (qA4 _) ((itA z.cps.toList i).map fun c=>.str ⟨#[c]⟩) none:=rfl
@[simp] theorem v_lenSt(z:Str):lenD [.str z]=@ite _ (z.length<=100000) (qA4 _) (some (.int z.length)) none:=rfl
@[simp] theorem v_count1(z:Str)(c:Nat):countD (.str z) [.str ⟨#[c]⟩]=some (.int (z.cps.toList.count c:Nat)):=rfl
@[simp] theorem v_in1(ng:Bool)(z:Str)(c:Nat):inD ng (.str ⟨#[c]⟩) (.str z)=some (.bl (if ng=true then !decide (c∈z.cps.toList)else decide (c∈z.cps.toList))):=rfl
@[simp] theorem v_find1(z:Str)(c:Nat):findD (.str z) [.str ⟨#[c]⟩]=some (.int (match posC c z.cps.toList with|some i=>(i:Int)|none=>-1)):=rfl
theorem zUN{α:Type}(xs:List α)(k:Nat):cutA xs (some (k:Int)) none=xs.drop k:=by
 unfold cutA cutIx;dsimp only;rw[if_neg (by omega)]
 by_cases h:k<=xs.length
 ·rw[show min (k:Int).toNat xs.length=k by omega];exact List.take_of_length_le (by simp)
 ·rw[show min (k:Int).toNat xs.length=xs.length by omega];simp;omega
theorem zL4(a b:Str):(a++b).cps.toList=a.cps.toList++b.cps.toList:=by
 show(Str.mk (a.cps++b.cps)).cps.toList=_
 simp
theorem zR1(z:Str):z.length=z.cps.toList.length:=by
 unfold Str.length;simp
theorem zHB(l:List Nat):(Str.mk l.toArray).length=l.length:=by rw[zR1]
end Mi
namespace Mi
open PySem
end Mi
namespace Mp
open Mi PySem
theorem sg{i n:Nat}{vs:List Nat}{e:EM}{b:SM}{r:Ro}{d:Dt}{X:R Out}(he:e (full r)=okR d)(hd:d.dep<=n)(h:b (r.set i (some (d,n)))=X):sSeq (sSet i n vs e) b r=X:=by
 rw[zCI,zPJ,he,zA0,if_pos hd,zA0];exact h
theorem sp{c:TM}{a b:SM}{r:Ro}{X:R Out}(hc:c (full r)=okR false)(h:b r=X):sSeq (sIf c a sNil) b r=X:=by
 rw[zCI,zJ4,hc,zA0,if_neg (by simp),zUZ,zA0];exact h
theorem st{c:TM}{a b:SM}{r r':Ro}{X:R Out}(hc:c (full r)=okR true)(ha:a r=okR (.nx r'))(h:b r'=X):sSeq (sIf c a sNil) b r=X:=by
 rw[zCI,zJ4,hc,zA0,if_pos rfl,ha,zA0];exact h
theorem su{is vs:List Nat}{e:EM}{b:SM}{r:Ro}{ds:List Dt}{X:R Out}(he:e (frz (frzAt vs r))=okR (.tup ds))(hl:ds.length=is.length)(h:b (zAT (frzAt vs r) (is.zip ds))=X):sSeq (sUnp is vs e) b r=X:=by
 rw[zCI];unfold sUnp;rw[he,zA0,zAP,if_pos hl];exact h
theorem c2{m:FM}{e1 e2:EM}{ρ:Rh}{d1 d2:Dt}{X:R Dt}(h1:e1 ρ=okR d1)(h2:e2 ρ=okR d2)(h:m [d1,d2]=X):eCall m (aCons e1 (aCons e2 aNil)) ρ=X:=by
 simp only[zKZ,zD5,zFK,h1,h2,zA0];exact h
theorem c1{m:FM}{e1:EM}{ρ:Rh}{d1:Dt}{X:R Dt}(h1:e1 ρ=okR d1)(h:m [d1]=X):eCall m (aCons e1 aNil) ρ=X:=by
 simp only[zKZ,zD5,zFK,h1,zA0];exact h
theorem b2{o:Dt->Dt->Option Dt}{e1 e2:EM}{ρ:Rh}{d1 d2 d:Dt}(h1:e1 ρ=okR d1)(h2:e2 ρ=okR d2)(h:o d1 d2=some d):eB o e1 e2 ρ=okR d:=by
 rw[x_eB,h1,zA0,h2,zA0,h];rfl
theorem bi1{o:List Dt->Option Dt}{e1:EM}{ρ:Rh}{d1 d:Dt}(h1:e1 ρ=okR d1)(h:o [d1]=some d):eBi o (aCons e1 aNil) ρ=okR d:=by
 simp only[zZ7,zD5,zFK,h1,zA0,h];rfl
theorem el2{e1 e2:EM}{ρ:Rh}{d1 d2:Dt}(h1:e1 ρ=okR d1)(h2:e2 ρ=okR d2):eLst (aCons e1 (aCons e2 aNil)) ρ=okR (.lst [d1,d2]):=by simp[h1,h2]
theorem tb1{e:EM}{ρ:Rh}{k:Bool}(h:e ρ=okR (.bl k)):tB e ρ=okR k:=by rw[x_tB,h,zA0]
theorem tm1{e:EM}{ρ:Rh}{k:Bool}(h:e ρ=okR (.bl k)):tM e ρ=okR k:=by rw[x_tM,h,zA0]
theorem tn1{t:TM}{ρ:Rh}{k:Bool}(h:t ρ=okR k):tNo t ρ=okR (!k):=by rw[zbY,h,zA0]
theorem to0{t t':TM}{ρ:Rh}{k:Bool}(h:t ρ=okR false)(h':t' ρ=okR k):Mi.tOr t t' ρ=okR k:=by rw[zbX,h,zA0,if_neg (by simp),h']
theorem ta1{t t':TM}{ρ:Rh}{k:Bool}(h:t ρ=okR true)(h':t' ρ=okR k):tAn t t' ρ=okR k:=by rw[zZ6,h,zA0,if_pos rfl,h']
theorem ta0{t t':TM}{ρ:Rh}(h:t ρ=okR false):tAn t t' ρ=okR false:=by rw[zZ6,h,zA0,if_neg (by simp)]
theorem ss{i n:Nat}{vs:List Nat}{e:EM}{r:Ro}{d:Dt}(he:e (full r)=okR d)(hd:d.dep<=n):sSet i n vs e r=okR (.nx (r.set i (some (d,n)))):=by
 rw[zPJ,he,zA0,if_pos hd]
theorem sr{L n:Nat}{vs:List Nat}{e:EM}{r:Ro}{d:Dt}(he:e (full r)=okR d)(hd:d.dep<=n/\d.dep<=L):sRet L n vs e r=okR (.rt d):=by
 rw[zUY,he,zA0,if_pos hd]
theorem tl{k k':Bool}{x:Option Dt}(h:x=some (.bl k))(e:k=k'):x=some (.bl k'):=e▸h
theorem bi2{o:List Dt->Option Dt}{e1 e2:EM}{ρ:Rh}{d1 d2 d:Dt}(h1:e1 ρ=okR d1)(h2:e2 ρ=okR d2)(h:o [d1,d2]=some d):eBi o (aCons e1 (aCons e2 aNil)) ρ=okR d:=by
 simp only[zZ7,zD5,zFK,h1,h2,zA0,h];rfl
theorem sl1{a b:EM}{ρ:Rh}{x d:Dt}{i:Int}(h1:a ρ=okR x)(h2:b ρ=okR (.int i))(h:slD x (some i) none=some d):eSl a (oE b) oNo ρ=okR d:=by
 rw[zc0,h1,zA0,x_oE,h2,zA0,zA0,zbZ,zA0,h];rfl
theorem sf{c:TM}{a:SM}{r:Ro}(hc:c (full r)=okR false):sIf c a sNil r=okR (.nx r):=by
 rw[zJ4,hc,zA0,if_neg (by simp),zUZ]
theorem et2{e1 e2:EM}{ρ:Rh}{d1 d2:Dt}(h1:e1 ρ=okR d1)(h2:e2 ρ=okR d2):eTup (aCons e1 (aCons e2 aNil)) ρ=okR (.tup [d1,d2]):=by simp[h1,h2]
theorem mt1{f:Dt->List Dt->Option Dt}{a e:EM}{ρ:Rh}{x y d:Dt}(h1:a ρ=okR x)(hs:zNM x=true)(h2:e ρ=okR y)(h:f x [y]=some d):eMt f a (aCons e aNil) ρ=okR d:=by
 rw[zc1,h1,zA0,if_pos hs,zD5,h2,zA0,zFK,zA0,zA0,h];rfl
theorem eqi{e1 e2:EM}{ρ:Rh}{a b:Int}{k:Bool}(h1:e1 ρ=okR (.int a))(h2:e2 ρ=okR (.int b))(h:decide (a=b)=k):tB (eB eqD e1 e2) ρ=okR k:=by
 refine tb1 (b2 h1 h2 ?_);rw[<- h];simp[Dt.eq];rfl
theorem mdi{i j k:Int}(h:0<j)(e:i%j=k):modD (.int i) (.int j)=some (.int k):=by rw[<- e];exact if_pos h
theorem dvi{i j:Int}(h:0<j/\j<1000000000000000000000000):divD (.int i) (.int j)=some (.int (i/j)):=@if_pos _ (qA4 _) h _ _ _
theorem c3{m:FM}{e1 e2 e3:EM}{ρ:Rh}{d1 d2 d3:Dt}{X:R Dt}(h1:e1 ρ=okR d1)(h2:e2 ρ=okR d2)(h3:e3 ρ=okR d3)(h:m [d1,d2,d3]=X):eCall m (aCons e1 (aCons e2 (aCons e3 aNil))) ρ=X:=by
 simp only[zKZ,zD5,zFK,h1,h2,h3,zA0];exact h
theorem an1{e1 e2:EM}{ρ:Rh}{a b:Bool}(h1:e1 ρ=okR (.bl a))(h2:e2 ρ=okR (.bl b)):eAnd e1 e2 ρ=okR (.bl (a&&b)):=by cases a<;>simp[h1,h2]
theorem rt1{e:EM}{d:Dt}{ρ:Ro}{vs:List Nat}(h1:e (full ρ)=okR d)(h2:e (frz (frzAt vs ρ))=okR d):sRet 1 1 vs e ρ=okR (.rt d):=by
 rw[zUY,h1,zA0]
 by_cases z:d.dep<=1/\d.dep<=1
 ·rw[if_pos z]
 ·rw[if_neg z,if_pos rfl,h2,zA0]
theorem el0{ρ:Rh}:eLst aNil ρ=okR (.lst []):=by simp
theorem sw{s t:SM}{r r':Ro}{X:R Out}(h:s r=okR (.nx r'))(h2:t r'=X):sSeq s t r=X:=by rw[zCI,h,zA0];exact h2
theorem s2s{i n:Nat}{vs:List Nat}{e:EM}{r:Ro}{d:Dt}(h1:e (full r)=okR d)(h2:e (frz (frzAt vs r))=okR d)(hr:frzAt vs r=r):sSet i n vs e r=okR (.nx (r.set i (some (d,n)))):=by
 rw[zPJ,h1,zA0]
 by_cases z:d.dep<=n
 ·rw[if_pos z]
 ·rw[if_neg z,h2,zA0,hr]
theorem if1{c:TM}{a b:EM}{ρ:Rh}{X:R Dt}(hc:c ρ=okR true)(h:a ρ=X):eIf c a b ρ=X:=by unfold eIf;rw[hc,zA0,if_pos rfl];exact h
theorem if0{c:TM}{a b:EM}{ρ:Rh}{X:R Dt}(hc:c ρ=okR false)(h:b ρ=X):eIf c a b ρ=X:=by unfold eIf;rw[hc,zA0,if_neg qAe];exact h
theorem v1{i:Nat}{ρ:Rh}{d:Dt}(h:ρ[i]?=some (some d)):eV i ρ=okR d:=by rw[x_eV,h]
theorem al0{e:EM}{ρ:Rh}{d:Dt}(h:e ρ=okR d):aCons e aNil ρ=okR [d]:=by rw[zD5,h];rfl
theorem adi{a b c:Int}(h:a+b=c):addD (.int a) (.int b)=some (.int c):=by rw[<- h];rfl
theorem k1{d d':Dt}{ρ:Rh}(h:d=d'):eC d ρ=okR d':=by rw[<- h];rfl
noncomputable def rowD(r:List Int):Dt:=.lst (r.map .int)
def mat(A:List (List Int)):Dt:=.lst (A.map rowD)
noncomputable def tab(n:Nat)(f:Nat->Nat->Int):List (List Int):=(qA6 n).map fun i=>(qA6 n).map fun j=>f i j
def Bits(n:Nat)(f:Nat->Nat->Int):Prop:=∀i j,i<n->j<n->f i j=0\/f i j=1
def Sym(n:Nat)(f:Nat->Nat->Int):Prop:=∀i j,i<n->j<n->f i j=f j i
@[simp] theorem zYL(r:List Int):(rowD r).dep=1:=by simp[rowD]
theorem ixR{n:Nat}{g:Nat->Int}{j:Nat}(h:j<n):ixD (rowD ((qA6 n).map g)) (.int (j:Int))=some (.int (g j)):=by
 refine zDW rfl ?_;simp[h]
@[simp] theorem lenR(r:List Int):lenD [rowD r]=some (.int r.length):=by
 show some (Dt.int ((r.map Dt.int).length:Int))=_;rw[qAm]
@[simp] theorem listR(r:List Int):listD [rowD r]=some (rowD r):=rfl
@[simp] theorem lenM(A:List (List Int)):lenD [mat A]=some (.int A.length):=by
 show some (Dt.int ((A.map rowD).length:Int))=_;rw[qAm]
theorem zKE:∀A:List (List Int),Dt.depL (A.map rowD)<=1
 |[]=>by simp
 |r::A=>by
  have:=zKE A
  rw[qAi,zFM,zYL];omega
theorem zIM(A:List (List Int)):(mat A).dep<=2:=by
 have:=zKE A
 unfold mat;rw[v_dl];omega
theorem zHM(n:Nat)(f:Nat->Nat->Int):(tab n f).length=n:=by simp[tab]
theorem zPQ{n:Nat}{f:Nat->Nat->Int}{i:Nat}(h:i<n):(tab n f)[i]?=some ((qA6 n).map fun j=>f i j):=by
 simp[tab,h]
theorem zaU{n:Nat}{f:Nat->Nat->Int}{i:Nat}(h:i<n):itA ((tab n f).map rowD) (i:Int)=some (rowD ((qA6 n).map fun j=>f i j)):=by
 refine zDW rfl ?_;rw[qAh,zPQ h];rfl
theorem ixM{n:Nat}{f:Nat->Nat->Int}{i:Nat}(h:i<n):ixD (mat (tab n f)) (.int (i:Int))=some (rowD ((qA6 n).map fun j=>f i j)):=zaU h
theorem zb8(a b:List Int):Dt.eq (rowD a) (rowD b)=decide (a=b):=by
 unfold rowD;rw[v_e4,zFI]
theorem zNZ{ρ:Rh}{e:EM}{it:IM}{i n:Nat}(g:Nat->Int)(hi:i=ρ.length)(hn:n<=1000)(h1:it ρ=okR (nums 0 n))(h:∀a,a<n->e (ρ++[some (.int (a:Nat))])=okR (.int (g a))):eComp it 1 (.one i) tYes e ρ=okR (rowD ((qA6 n).map g)):=by
 rw[zEV (fun b=>.int (g b)) n rfl hi (fun b hb=>h b hb) it h1 (by omega)];unfold rowD;rw[qB3];rfl
def Bit(x:Int):Prop:=x=0\/x=1
def RowN(n:Nat)(r:List Int):Prop:=r.length=n/\∀x∈r,Bit x
theorem zS4(r:List Int)(l h:Option Int):slD (rowD r) l h=some (rowD (cutA r l h)):=by
 show some (Dt.lst (cutA (r.map Dt.int) l h))=_;unfold cutA rowD;simp
theorem zSP{n:Nat}{f:Nat->Nat->Int}(hb:Bits n f):∀r∈tab n f,r.length=n/\∀x∈r,Bit x:=by
 intro r hr;unfold tab at hr;obtain⟨i,hi,rfl⟩:=qAd.mp hr;refine⟨by simp,fun x hx=>?_⟩;obtain⟨j,hj,rfl⟩:=qAd.mp hx;exact hb i j (by simpa using hi) (by simpa using hj)
theorem zR9(r:List Int)(i:Nat)(h:i<r.length):ixD (rowD r) (.int (i:Int))=some (.int (r.getD i 0)):=by
 have:=zU2 (ns:=r) (i:=(i:Int)) (by omega) (by omega)
 rw[qBo]at this;exact this
theorem zU1(A:List (List Int))(i:Nat)(h:i<A.length):ixD (mat A) (.int (i:Int))=some (rowD (A.getD i [])):=by
 refine zDW rfl ?_;rw[qAh,qA2 h,qA0,qA2 h];rfl
theorem addR(a b:List Int)(h:a.length+b.length<=100000):addD (rowD a) (rowD b)=some (rowD (a++b)):=by
 show(@ite _ ((a.map Dt.int).length+(b.map Dt.int).length<=100000) (qA4 _) (some (Dt.lst (a.map Dt.int++b.map Dt.int))) none)=_
 rw[if_pos (by simpa using h)];unfold rowD;simp
theorem zWI{a b:Int}(ha:Bit a)(hb:Bit b):Builtin.bitXor a b=(a+b)%2:=by
 rcases ha with rfl|rfl<;>rcases hb with rfl|rfl<;>decide
noncomputable def sumN(n:Nat)(f:Nat->Int):Int:=((qA6 n).map f).sum
theorem zXO(n:Nat)(f:Nat->Nat->Int):mat (tab n f)=.lst ((qA6 n).map fun i=>rowD ((qA6 n).map fun j=>f i j)):=by
 unfold mat tab;rw[qB3];rfl
theorem zY8{ds:List Dt}(h:∀d∈ds,d.dep=0):Dt.depL ds=0:=by
 induction ds with
 |nil=>simp
 |cons a r ih=>rw[zFM,h a (by simp),ih fun d hd=>h d (by simp[hd])];rfl
noncomputable def numL(ks:List Nat):List Int:=ks.map fun k:Nat=>(k:Int)
theorem numD(ks:List Nat):rowD (numL ks)=.lst (ks.map fun k:Nat=>Dt.int (k:Int)):=by
 unfold rowD numL;rw[qB3];rfl
theorem zK3{α:Type}(ks:List Nat)(g:Nat->α):ks.map g=(qA6 ks.length).map fun a=>g (ks.getD a 0):=by
 apply qBf
 ·simp
 ·intro i h1 h2;simp at h1;simp[h1]
theorem zE6{ks:List Nat}{n a:Nat}(hk:∀k∈ks,k<n)(ha:a<ks.length):ks.getD a 0<n:=by
 refine hk _ ?_;rw[qA0,qA2 ha];simp
noncomputable def sub(ks:List Nat)(f:Nat->Nat->Int):Nat->Nat->Int:=fun a b=>f (ks.getD a 0) (ks.getD b 0)
theorem zTG(n:Nat)(f:Nat->Nat->Int)(ks:List Nat)(hk:∀k∈ks,k<n)(hz:ks.length<=1000):zCV [mat (tab n f),rowD (numL ks)]=okR (mat (tab ks.length (sub ks f))):=by
 have hm:mat (tab ks.length (sub ks f))=.lst (ks.map fun i=>rowD (ks.map fun j=>f i j)):=by
  rw[zXO,zK3 ks fun i=>rowD (ks.map fun j=>f i j)]
  congr 1
  refine qAs fun a ha=>?_
  rw[zK3 ks fun j=>f (ks.getD a 0) j];rfl
 unfold zCV zGS;have hc:eComp (iSq (eV 1)) 1 (.one 2) Mi.tYes (eComp (iSq (eV 1)) 1 (.one 3) Mi.tYes (eB ixD (eB ixD (eV 0) (eV 2)) (eV 3))) [some (mat (tab n f)),some (rowD (numL ks))]=okR (mat (tab ks.length (sub ks f))):=by
  rw[hm];refine zBD (fun k:Nat=>Dt.int (k:Int)) _ ks rfl rfl (fun i hi=>?_) _ (by simp[numD]) (by omega);have h2:=zBD (ρ:=[some (mat (tab n f)),some (rowD (numL ks))]++[some (Dt.int (i:Int))]) (c:=tYes) (i:=3) (e:=eB ixD (eB ixD (eV 0) (eV 2)) (eV 3)) (fun k:Nat=>Dt.int (k:Int)) (fun j=>Dt.int (f i j)) ks rfl rfl (fun j hj=>by
   have e1:=ixM (f:=f) (hk i hi);have e2:=ixR (g:=fun j=>f i j) (hk j hj);simp[e1,e2]) (iSq (eV 1)) (by simp[numD]) (by omega)
  rw[h2];unfold rowD;rw[qB3];rfl
 have hd:=zIM (tab ks.length (sub ks f));simp[hc,hd]
theorem zP9{α:Type}(l:List α):allD [.lst (l.map fun _=>Dt.bl true)]=some (.bl true):=by
 have hall:∀l:List α,boolsD (l.map fun _=>Dt.bl true)=some (l.map fun _=>true):=by
  intro l
  induction l with
  |nil=>rfl
  |cons a r ih=>simp[boolsD,ih]
 simp[allD,hall]
noncomputable def sgn(c:Nat):Dt:=.str ⟨#[c]⟩
theorem zNQ(cs:List Nat):∀d∈cs.map sgn,d.dep=0:=by
 intro d hd;obtain⟨c,_,rfl⟩:=qAd.mp hd;rfl
@[simp] theorem depL_sgn(cs:List Nat):Dt.depL (cs.map sgn)=0:=zY8 (zNQ cs)
theorem zMT:∀cs:List Nat,strsD (cs.map sgn)=some (cs.map fun c=>⟨#[c]⟩)
 |[]=>rfl
 |c::r=>by
  show(strsD (r.map sgn)).map _=_
  rw[zMT r];rfl
theorem zGO:(Str.ofString "").cps.toList=[]:=by
 rw[Str.ofString_eq_toList];rfl
theorem zNJ:∀zs:List Str,(Str.join (Str.ofString "") zs).cps.toList=(zs.map (·.cps.toList)).flatten
 |[]=>rfl
 |[x]=>by simp[Str.join]
 |x::y::r=>by
  rw[Str.join,zL4,zL4,zGO,zNJ (y::r)]
  ·simp
  ·simp
theorem zSR(cs:List Nat):((cs.map fun c=>(⟨#[c]⟩:Str)).map (·.length)).sum=cs.length:=by
 induction cs with
 |nil=>rfl
 |cons c r ih=>simp only[qAi,List.sum_cons,ih,qAu];show 1+r.length=_;omega
theorem zR0:(Str.ofString "").length=0:=by rw[zR1,zGO];rfl
theorem zU0(cs:List Nat)(hz:cs.length<=100000):joinD (.str (Str.ofString "")) [.lst (cs.map sgn)]=some (.str ⟨cs.toArray⟩):=by
 show(match strsD (cs.map sgn)with|some zs=>_|none=>none)=_
 rw[zMT];dsimp only;rw[if_pos (by rw[zSR,zR0];omega)]
 congr 2
 have h:=zNJ (cs.map fun c=>(⟨#[c]⟩:Str));have e:(List.map (·.cps.toList) (cs.map fun c=>(⟨#[c]⟩:Str))).flatten=cs:=by
  rw[qB3];clear h hz
  induction cs with
  |nil=>rfl
  |cons c r ih=>simpa using ih
 rw[e]at h
 generalize Str.join (Str.ofString "") (cs.map fun c=>(⟨#[c]⟩:Str))=z at h ⊢
 obtain⟨a⟩:=z;simp at h;rw[<- h]
end Mp
namespace Mp
noncomputable def ords(row:List Nat):List Nat:=row.foldl (fun o p=>if p∈o then o else o++[p]) []
theorem zEF(row:List Nat)(p:Nat):ords (row++[p])=if p∈ords row then ords row else ords row++[p]:=by
 unfold ords;rw[qCc];rfl
theorem zDZ{α:Type}{P:List α->Prop}(h0:P [])(h1:∀l a,P l->P (l++[a])):∀l,P l:=by
 intro l
 have:∀m:List α,P m.reverse:=by
  intro m
  induction m with
  |nil=>exact h0
  |cons a r ih=>rw[List.reverse_cons];exact h1 _ _ ih
 have h:=this l.reverse
 rwa [List.reverse_reverse]at h
theorem ords_mem:∀(row:List Nat)(x:Nat),x∈ords row↔x∈row:=by
 refine zDZ (fun x=>by simp[ords]) fun l a ih x=>?_
 rw[zEF]
 split
 ·rename_i h
  rw[ih x,qAw,qAv];constructor
  ·exact .inl
  ·rintro(h'|rfl)
   ·exact h'
   ·exact(ih x).mp h
 ·rw[qAw,qAw,ih x]
theorem ords_nodup:∀row:List Nat,(ords row).Nodup:=by
 refine zDZ (by simp[ords]) fun l a ih=>?_
 rw[zEF]
 split
 ·exact ih
 ·rename_i h
  rw[qDj];exact⟨ih,by simp,fun x hx y hy z=>h (by rw[qAv]at hy;rw[<- hy,<- z];exact hx)⟩
theorem zON:∀row:List Nat,ords row=((qA6 row.length).filter fun k=>decide (row.idxOf (row.getD k 0)=k)).map fun k=>row.getD k 0:=by
 refine zDZ (by simp[ords]) fun l a ih=>?_
 rw[zEF,ih,qAl,qDo,qBq,qFv,qB7];have e1:∀k,k<l.length->(l++[a]).getD k 0=l.getD k 0:=fun k hk=>by
  rw[qA0,qA0,qAa hk]
 have e2:(l++[a]).getD l.length 0=a:=by
  rw[qA0,qA8 (qA7 _)];simp
 have e3:((qA6 l.length).filter fun k=>decide ((l++[a]).idxOf ((l++[a]).getD k 0)=k))=(qA6 l.length).filter fun k=>decide (l.idxOf (l.getD k 0)=k):=by
  refine qEc fun k hk=>?_
  have hk':k<l.length:=by simpa using hk
  have hm:l.getD k 0∈l:=by rw[qA0,qA2 hk'];simp
  rw[e1 k hk',qCd,if_pos hm]
 have e4:(((qA6 l.length).filter fun k=>decide (l.idxOf (l.getD k 0)=k)).map fun k=>(l++[a]).getD k 0)=((qA6 l.length).filter fun k=>decide (l.idxOf (l.getD k 0)=k)).map fun k=>l.getD k 0:=by
  refine qAs fun k hk=>?_
  have:=(qAr.mp hk).1
  exact e1 k (by simpa using this)
 rw[e3,e4,<- ih]
 by_cases h:a∈ords l
 ·have ha:=(ords_mem l a).mp h;rw[if_pos h,qD8]
  ·simp
  ·rw[e2,qCd,if_pos ha]
   have:=qAg ha
   simp;omega
 ·have ha:¬a∈l:=fun z=>h ((ords_mem l a).mpr z)
  rw[if_neg h,qD9]
  ·simp[e2]
  ·rw[e2,qCd,if_neg ha];simp
noncomputable def puts(S:List (Nat×Int))(N:List Int):List Int:=S.foldl (fun N p=>N.set p.1 p.2) N
def inA(row:List Nat)(a:Nat):Nat:=4*(ords row).idxOf (row.getD a 0)+2*(row.take a).count (row.getD a 0)
theorem zY5{l:List Nat}{x y:Nat}(hx:x∈l)(h:l.idxOf x=l.idxOf y):x=y:=by
 have h1:=qAg hx;have e1:=qDa h1;have h2:l.idxOf y<l.length:=by rw[<- h];exact h1
 have e2:=qDa h2;rw[<- e1,<- e2]
 congr 1
theorem zNY{row:List Nat}{a b:Nat}(hab:a<b)(hb:b<row.length)(h:row.getD a 0=row.getD b 0):(row.take a).count (row.getD a 0)<(row.take b).count (row.getD b 0):=by
 have ha:a<row.length:=by omega
 have e:row.take b=row.take a++(row.drop a).take (b-a):=by
  rw[<- List.take_add]
  congr 1
  omega
 rw[<- h,e,qCr];have hd:(row.drop a).take (b-a)=row[a]::(row.drop (a+1)).take (b-a-1):=by
  rw[qB8 ha,show b-a=(b-a-1)+1 by omega,qFm];simp
 have hg:row.getD a 0=row[a]:=by rw[qA0,qA2 ha];rfl
 rw[hd,hg,qC8];omega
theorem zLV{row:List Nat}(h1:∀a,a<row.length->(row.take a).count (row.getD a 0)<=1){a b:Nat}(ha:a<row.length)(hb:b<row.length)(h:inA row a=inA row b):a=b:=by
 unfold inA at h;have ca:=h1 a ha;have cb:=h1 b hb;have hi:(ords row).idxOf (row.getD a 0)=(ords row).idxOf (row.getD b 0):=by omega
 have hc:(row.take a).count (row.getD a 0)=(row.take b).count (row.getD b 0):=by omega
 have hm:row.getD a 0∈ords row:=(ords_mem row _).mpr (by rw[qA0,qA2 ha];simp);have he:=zY5 hm hi
 rcases qG4 a b with z|z|z
 ·have:=zNY z hb he;omega
 ·exact z
 ·have:=zNY z ha he.symm;omega
def tieP(row:List Nat)(a:Nat):List (Nat×Int):=[(inA row ((a+row.length-1)%row.length)+1,(inA row a:Int)),(inA row a,((inA row ((a+row.length-1)%row.length)+1:Nat):Int))]
theorem zWR{row:List Nat}(h1:∀a,a<row.length->(row.take a).count (row.getD a 0)<=1){a b:Nat}(ha:a<row.length)(hb:b<row.length):∀x∈tieP row a,∀y∈tieP row b,x.1=y.1->x.2=y.2:=by
 have hL:0<row.length:=by omega
 have ma:=qBy (a+row.length-1) hL;have mb:=qBy (b+row.length-1) hL;have pinj:(a+row.length-1)%row.length=(b+row.length-1)%row.length->a=b:=fun h=>by
  by_cases za:a=0
  ·subst za;rw[show 0+row.length-1=row.length-1 by omega,qB0 (show row.length-1<row.length by omega)]at h
   by_cases zb:b=0
   ·exact zb.symm
   ·rw[show b+row.length-1=(b-1)+row.length by omega,qCs,qB0 (by omega)]at h;omega
  ·rw[show a+row.length-1=(a-1)+row.length by omega,qCs,qB0 (by omega)]at h
   by_cases zb:b=0
   ·subst zb;rw[show 0+row.length-1=row.length-1 by omega,qB0 (show row.length-1<row.length by omega)]at h;omega
   ·rw[show b+row.length-1=(b-1)+row.length by omega,qCs,qB0 (by omega)]at h;omega
 have ev:∀c,inA row c%2=0:=fun c=>by unfold inA;omega
 intro x hx y hy hxy;simp only[tieP,qAb,qBe,or_false]at hx hy;have eva:=ev a;have evb:=ev b;have evpa:=ev ((a+row.length-1)%row.length);have evpb:=ev ((b+row.length-1)%row.length)
 rcases hx with rfl|rfl<;>rcases hy with rfl|rfl
 ·have:=pinj (zLV h1 ma mb (by simpa using hxy))
  subst this;rfl
 ·simp at hxy;omega
 ·simp at hxy;omega
 ·have:=zLV h1 ha hb (by simpa using hxy)
  subst this;rfl
end Mp
namespace Mp
open Mi PySem
theorem zBI{α:Type}[DecidableEq α]:∀(l1 l2:List α),l1.Nodup->(∀x∈l1,x∈l2)->l1.length<=l2.length
 |[],_,_,_=>by simp
 |a::r,l2,h,hs=>by
  have ha:=hs a (by simp);rw[qBb]at h
  have:=zBI r (l2.erase a) h.2 fun x hx=>(qDu (fun z:x=a=>h.1 (by rw[<- z];exact hx))).mpr (hs x (by simp[hx]))
  rw[qCy ha]at this
  have:=qCj ha
  simp;omega
theorem zNN(ng:Bool)(i:Nat)(ks:List Nat):inD ng (.int (i:Int)) (rowD (numL ks))=some (.bl (if ng=true then !decide (i∈ks)else decide (i∈ks))):=by
 show(hasD (.int (i:Int)) ((numL ks).map Dt.int)).map _=_
 rw[hasD,if_pos ⟨rfl,zC7 _⟩]
 have:((numL ks).map Dt.int).any (fun y=>Dt.eq y (.int (i:Int)))=decide (i∈ks):=by
  unfold numL;rw[qB3]
  induction ks with
  |nil=>rfl
  |cons k r ih=>
   rw[qAi,qC2,ih]
   by_cases h:i=k
   ·subst h;simp
   ·simp[h,show ¬(k:Int)=(i:Int) by omega]
 show some (Dt.bl (if ng=true then !(((numL ks).map Dt.int).any fun y=>Dt.eq y (.int (i:Int)))else((numL ks).map Dt.int).any fun y=>Dt.eq y (.int (i:Int))))=_;rw[this]
theorem zXY(ks:List Nat)(a:Nat)(h:a<ks.length):ixD (rowD (numL ks)) (.int (a:Int))=some (.int (ks.getD a 0:Nat)):=by
 have i1:=zR9 (numL ks) a (by simp[numL];exact h);rw[show(numL ks).getD a 0=((ks.getD a 0:Nat):Int) by
  unfold numL;simp[qA0,qA2 h]]at i1
 exact i1
def lawS(row:List Nat)(k:Nat):List (Nat×Int):=((qA6 k).map fun k=>tieP row ((k+1)%row.length)).flatten
theorem zT8(S:List (Nat×Int)):∀N:List Int,(puts S N).length=N.length:=by
 unfold puts
 induction S with
 |nil=>intro N;rfl
 |cons a r ih=>intro N;rw[List.foldl_cons,ih,qEy]
theorem zJS{k L:Nat}(hk:k<L):((k+1)%L+L-1)%L=k:=by
 by_cases h:k+1=L
 ·subst h;rw[qGa,show 0+(k+1)-1=k by omega];exact qB0 (by omega)
 ·rw[qB0 (show k+1<L by omega),show k+1+L-1=k+L by omega,qCs];exact qB0 hk
theorem zMC{ρ:Rh}{e:EM}{c:TM}{i j:Nat}(xs:List Dt)(g:Nat->Dt)(f:Nat->Bool)(hi:i=ρ.length)(hj:j=ρ.length+1)(it:IM)(hit:it ρ=okR (enumD 0 xs))(hn:xs.length<=100000)(hc:∀k x,xs[k]?=some x->c (ρ++[some (.int (k:Nat)),some x])=okR (f k))(h:∀k x,xs[k]?=some x->e (ρ++[some (.int (k:Nat)),some x])=okR (g k)):eComp it 2 (.tup [i,j]) c e ρ=okR (.lst (((qA6 xs.length).filter f).map g)):=by
 subst hi hj;unfold eComp;rw[hit,zA0,if_pos ⟨by rw[zII];exact hn,by simp[Tg.idx]⟩];have go:∀(m k:Nat)(acc:List Dt),k+m=xs.length->compGo ρ 2 (.tup [ρ.length,ρ.length+1]) c e (enumD k (xs.drop k)) acc=okR (acc++((qFn k m).filter f).map g):=by
  intro m
  induction m with
  |zero=>
   intro k acc hk;rw[List.drop_of_length_le (by omega)];simp[enumD,compGo]
  |succ m ih=>
   intro k acc hk;have hx:xs[k]?=some xs[k]:=qA2 (by omega);rw[qB8 (by omega),enumD,compGo];have es:zAN (ρ++qA9 2 none) [(ρ.length,.int (k:Nat)),(ρ.length+1,xs[k])]=ρ++[some (.int (k:Nat)),some xs[k]]:=by
    simp[zAN]
   show zA3 (c (zAN (ρ++qA9 2 none) [(ρ.length,.int (k:Nat)),(ρ.length+1,xs[k])])) _=_;rw[es,hc k _ hx,zA0,qGi];cases hf:f k with
   |true=>
    rw[if_pos rfl];show zA3 (e (zAN (ρ++qA9 2 none) [(ρ.length,.int (k:Nat)),(ρ.length+1,xs[k])])) _=_;rw[es,h k _ hx,zA0,ih (k+1) _ (by omega),qD9 hf];simp
   |false=>
    rw[if_neg (by simp),ih (k+1) _ (by omega),qD8 (by simp[hf])]
 have:=go xs.length 0 [] (by omega)
 rw[qE6]at this;rw[this,zA0,qFg];simp
noncomputable def wrd(ls row:List Nat):List Nat:=row.map fun p=>ls.getD p 0
theorem zFD{c:Nat}:∀{l:List Nat},c∈l->posC c l=some (l.idxOf c)
 |a::r,h=>by
  show(if a=c then some 0 else(posC c r).map (·+1))=_
  by_cases z:a=c
  ·subst z;simp
  ·have:=zFD (l:=r) ((qAb.mp h).elim (fun y=>absurd y.symm z) fun y=>y)
   rw[if_neg z,this,qCq,show(a==c)=false by simpa using z];rfl
theorem zUC{c:Nat}{cs:List Nat}(h:c∈cs):findD (.str ⟨cs.toArray⟩) [sgn c]=some (.int (cs.idxOf c:Nat)):=by
 show some (Dt.int (match posC c cs with|some i=>(i:Int)|none=>-1))=_;rw[zFD h]
noncomputable def fsts(cs:List Nat):List Nat:=(qA6 cs.length).filter fun k=>decide (cs.idxOf (cs.getD k 0)=k)
theorem zRG{f:Nat->Nat}{x:Nat}:∀{l:List Nat},(∀y∈l,f y=f x->y=x)->(l.map f).idxOf (f x)=l.idxOf x
 |[],_=>rfl
 |a::r,h=>by
  rw[qAi,qCq,qCq,zRG (l:=r) fun y hy=>h y (by simp[hy])]
  by_cases z:a=x
  ·subst z;simp
  ·have hne:¬f a=f x:=fun w=>z (h a (by simp) w)
   rw[show(f a==f x)=false by simpa using hne,show(a==x)=false by simpa using z]
def zbV(ls row:List Nat):Prop:=∀x∈row,∀y∈row,ls.getD x 0=ls.getD y 0->x=y
theorem zWN{ls row:List Nat}{k:Nat}(h:k<row.length):(wrd ls row).getD k 0=ls.getD (row.getD k 0) 0:=by
 unfold wrd;simp[qA0,qA2 h]
theorem zF2{row:List Nat}{k:Nat}(h:k<row.length):row.getD k 0∈row:=by
 rw[qA0,qA2 h];simp
theorem zWM{ls row:List Nat}(ha:zbV ls row){k:Nat}(h:k<row.length):(wrd ls row).idxOf ((wrd ls row).getD k 0)=row.idxOf (row.getD k 0):=by
 rw[zWN h];exact zRG (f:=fun p=>ls.getD p 0) fun y hy e=>ha y hy _ (zF2 h) e
theorem zM1{row:List Nat}{a:Nat}(h:a<row.length):row.idxOf (row.getD a 0)=a↔(row.take a).count (row.getD a 0)=0:=by
 have hm:=zF2 h;have hlt:=qAg hm;have e:row[row.idxOf (row.getD a 0)]=row.getD a 0:=qDa hlt;rw[qBu];constructor
 ·intro h1 h2;have h3:=qAg h2;have h4:row.idxOf (row.getD a 0)=(row.take a).idxOf (row.getD a 0):=by
   conv=>lhs;rw[<- qC5 a row]
   rw[qCd,if_pos]
   ·rw[qC5]
   ·rw[qC5];exact h2
  rw[h1]at h4;rw[qDr]at h3;omega
 ·intro h1;have h2:row.idxOf (row.getD a 0)<=a:=by
   rcases qHu a (row.idxOf (row.getD a 0))with z|z
   ·have:=List.not_of_lt_findIdx (p:=(·==row.getD a 0)) (xs:=row) (i:=a) z
    rw[show row[a]=row.getD a 0 by rw[qA0,qA2 h];rfl]at this;simp at this
   ·exact z
  rcases qHu (row.idxOf (row.getD a 0)) a with z|z
  ·exfalso
   apply h1
   rw[List.mem_take_iff_getElem];exact⟨row.idxOf (row.getD a 0),by omega,e⟩
  ·omega
theorem zEH{cs:List Nat}(h:cs.length<=1000):lenD [.str ⟨cs.toArray⟩]=some (.int (cs.length:Int)):=by
 have:=zHB cs
 simp[lenD,this]
 try omega
structure Twice(n:Nat)(row:List Nat):Prop where
 len:row.length=2*n
 cnt:∀v,row.count v=if v<n then 2 else 0
section
variable{n:Nat}{row:List Nat}(t:Twice n row)
include t
theorem Twice.mem(v:Nat):v∈row↔v<n:=by
 rw[<- qE3,t.cnt v]
 split<;>omega
theorem Twice.le1{a:Nat}(h:a<row.length):(row.take a).count (row.getD a 0)<=1:=by
 have h1:=t.cnt (row.getD a 0);have hg:row.getD a 0=row[a]:=by rw[qA0,qA2 h];rfl
 have h2:row.count (row.getD a 0)=(row.take a).count (row.getD a 0)+(row.drop a).count (row.getD a 0):=by
  rw[<- qCr,qC5]
 rw[qB8 h,hg,qC8]at h2;rw[hg]at h1 ⊢
 split at h1<;>omega
theorem Twice.ords:(ords row).length=n:=by
 have h1:=zBI (Mp.ords row) (qA6 n) (ords_nodup row) fun x hx=>by
  have:=(t.mem x).mp ((ords_mem row x).mp hx)
  simpa using this
 have h2:=zBI (qA6 n) (Mp.ords row) qDs fun x hx=>(ords_mem row x).mpr ((t.mem x).mpr (by simpa using hx))
 simp at h1 h2;omega
theorem Twice.pos{a:Nat}(h:a<row.length):inA row a+1<2*row.length:=by
 have h1:=t.le1 h;have h2:=qAg ((ords_mem row _).mpr (zF2 h));have h3:=t.ords;have h4:=t.len;unfold inA;omega
end
end Mp
namespace Mp
open Mi PySem
noncomputable def addB:List Int->List Int->List Int
 |a::r,b::s=>(a+b)%2::addB r s
 |_,_=>[]
noncomputable def dot:List Int->List Int->Int
 |a::r,b::x=>a*b+dot r x
 |_,_=>0
theorem zMH(x:Int):Bit (x%2):=by show _%2=0\/_%2=1;omega
theorem zJ0:∀(a b:List Int),a.length=b.length->(addB a b).length=a.length
 |[],[],_=>rfl
 |a::r,b::s,h=>by simp[addB,zJ0 r s (by simpa using h)]
 |[],_::_,h=>by simp at h
 |_::_,[],h=>by simp at h
theorem zO6:∀(a b:List Int),∀x∈addB a b,Bit x
 |[],_,x,h=>by simp[addB]at h
 |_::_,[],x,h=>by simp[addB]at h
 |a::r,b::s,x,h=>by
  rw[addB,qAb]at h
  rcases h with rfl|h
  ·exact zMH _
  ·exact zO6 r s x h
theorem zUV{m:Nat}{a b:List Int}(ha:RowN m a)(hb:RowN m b):RowN m (addB a b):=
 ⟨by rw[zJ0 a b (by rw[ha.1,hb.1]),ha.1],zO6 a b⟩
theorem zJ1:∀(a b:List Int)(k:Nat),a.length=b.length->k<a.length->(addB a b).getD k 0=(a.getD k 0+b.getD k 0)%2
 |[],_,k,_,h=>by simp at h
 |_::_,[],k,h,_=>by simp at h
 |a::r,b::s,0,_,_=>rfl
 |a::r,b::s,k+1,h,hk=>by
  have:=zJ1 r s k (by simpa using h) (by simpa using hk)
  simpa[addB]using this
theorem zM7:∀(a b x:List Int),a.length=b.length->(∀y∈x,Bit y)->dot (addB a b) x%2=(dot a x+dot b x)%2
 |[],[],x,_,_=>by simp[addB,dot]
 |[],_::_,x,h,_=>by simp at h
 |_::_,[],x,h,_=>by simp at h
 |a::r,b::s,[],_,_=>by simp[addB,dot]
 |a::r,b::s,c::x,h,hx=>by
  have ih:=zM7 r s x (by simpa using h) fun y hy=>hx y (by simp[hy])
  simp only[addB,dot]
  rcases hx c (by simp)with rfl|rfl<;>omega
def Ker(A:List (List Int))(x:List Int):Prop:=∀r∈A,dot r x%2=0
noncomputable def ent(A:List (List Int))(i k:Nat):Int:=(A.getD i []).getD k 0
theorem zAF{α:Type}{l:List α}{d:α}{i:Nat}(h:i<l.length):l.getD i d∈l:=by
 rw[qA0,qA2 h];simp
theorem zNP{α:Type}{l:List α}{d a:α}{i j:Nat}(h:i<l.length):(l.set i a).getD j d=if i=j then a else l.getD j d:=by
 simp only[qA0,List.getElem?_set]
 by_cases z:i=j
 ·subst z;simp[h]
 ·simp[z]
theorem zEJ{α β:Type}{l:List α}{d:α}{e:β}{g:α->β}{i:Nat}(h:i<l.length):(l.map g).getD i e=g (l.getD i d):=by
 simp[qA0,qA2 h]
theorem zBW{α:Type}{l:List α}{d x:α}(h:x∈l):∃i,i<l.length/\l.getD i d=x:=by
 obtain⟨i,hi,rfl⟩:=List.mem_iff_getElem.mp h;exact⟨i,hi,by simp[qA0,qA2 hi]⟩
def oth(A:List (List Int))(c:Nat)(lead:List Int):List (List Int):=A.map fun r=>if r.getD c 0=1 then addB r lead else r
def clr(A:List (List Int))(c t:Nat):List (List Int):=
 ((oth A c (A.getD t [])).set t ((oth A c (A.getD t [])).getD c [])).set c (A.getD t [])
section
variable{A:List (List Int)}{c t m:Nat}(hm:∀r∈A,RowN m r)(ht:t<A.length)(hc:c<=t)(hl:ent A t c=1)(hcm:c<m)
theorem zFZ(A:List (List Int))(c:Nat)(l:List Int):(oth A c l).length=A.length:=by simp[oth]
theorem zGP(A:List (List Int))(c t:Nat):(clr A c t).length=A.length:=by simp[clr,oth]
include hm ht in
theorem zTH:∀r∈oth A c (A.getD t []),RowN m r:=by
 intro r hr;obtain⟨q,hq,rfl⟩:=qAd.mp hr;have h1:=hm q hq;have h2:=hm _ (zAF (d:=[]) ht)
 split
 ·exact zUV h1 h2
 ·exact h1
include hm ht hc in
theorem zUQ:∀r∈clr A c t,RowN m r:=by
 intro r hr;have ho:=zTH (c:=c) hm ht
 rcases qC7 hr with hr|rfl
 ·rcases qC7 hr with hr|rfl
  ·exact ho r hr
  ·exact ho _ (zAF (by rw[zFZ];omega))
 ·exact hm _ (zAF ht)
include ht hc in
theorem zIT(i:Nat)(hi:i<A.length):(clr A c t).getD i []=if c=i then A.getD t []else if t=i then(oth A c (A.getD t [])).getD c []else(oth A c (A.getD t [])).getD i []:=by
 unfold clr;rw[zNP (by simp[zFZ];omega),zNP (by rw[zFZ];omega)]
include hm ht hc in
theorem zYS(x:List Int)(hx:∀y∈x,Bit y):Ker (clr A c t) x↔Ker A x:=by
 have hlr:=hm _ (zAF (d:=[]) ht);constructor
 ·intro h r hr;have hlead:dot (A.getD t []) x%2=0:=by
   have:=h _ (zAF (d:=[]) (i:=c) (by rw[zGP];omega))
   rwa [zIT ht hc c (by omega),if_pos rfl]at this
  obtain⟨i,hi,rfl⟩:=zBW (d:=[]) hr
  by_cases hit:t=i
  ·subst hit;exact hlead
  ·have key:(oth A c (A.getD t [])).getD i []∈clr A c t:=by
    by_cases hic:c=i
    ·subst hic
     have:=zAF (l:=clr A c t) (d:=[]) (i:=t) (by rw[zGP];omega)
     rwa [zIT ht hc t ht,if_neg (fun z=>hit z.symm),if_pos rfl]at this
    ·have:=zAF (l:=clr A c t) (d:=[]) (i:=i) (by rw[zGP];omega)
     rwa [zIT ht hc i hi,if_neg hic,if_neg hit]at this
   have k2:=h _ key;unfold oth at k2;rw[zEJ (d:=[]) hi]at k2
   split at k2
   ·rw[zM7 _ _ x (by rw[(hm _ (zAF hi)).1,hlr.1]) hx]at k2;omega
   ·exact k2
 ·intro h r hr;have hlead:=h _ (zAF (d:=[]) ht);have ho:∀r∈oth A c (A.getD t []),dot r x%2=0:=by
   intro r hr;obtain⟨q,hq,rfl⟩:=qAd.mp hr
   have:=h q hq
   split
   ·rw[zM7 _ _ x (by rw[(hm _ hq).1,hlr.1]) hx];omega
   ·exact this
  rcases qC7 hr with hr|rfl
  ·rcases qC7 hr with hr|rfl
   ·exact ho r hr
   ·exact ho _ (zAF (by rw[zFZ];omega))
  ·exact hlead
end
def zYZ(A:List (List Int))(c:Nat):Prop:=∀i k,i<A.length->k<c->ent A i k=if i=k then 1 else 0
theorem zM3{A:List (List Int)}{m i k:Nat}(hm:∀r∈A,RowN m r)(hi:i<A.length)(hk:k<m):Bit (ent A i k):=by
 have h:=hm _ (zAF (d:=[]) hi);exact h.2 _ (zAF (by rw[h.1];exact hk))
theorem zXC{A:List (List Int)}{c t m i k:Nat}(hm:∀r∈A,RowN m r)(ht:t<A.length)(hi:i<A.length)(hk:k<m):((oth A c (A.getD t [])).getD i []).getD k 0=if ent A i c=1 then(ent A i k+ent A t k)%2 else ent A i k:=by
 unfold oth;rw[zEJ (d:=[]) hi];have h1:=hm _ (zAF (d:=[]) hi);have h2:=hm _ (zAF (d:=[]) ht)
 show(if ent A i c=1 then _ else _:List Int).getD k 0=_
 split
 ·rw[zJ1 _ _ k (by rw[h1.1,h2.1]) (by rw[h1.1];exact hk)];rfl
 ·rfl
theorem zUP{A:List (List Int)}{c t m:Nat}(hm:∀r∈A,RowN m r)(ht:t<A.length)(hc:c<=t)(hl:ent A t c=1)(hcm:c<m)(hu:zYZ A c):zYZ (clr A c t) (c+1):=by
 intro i k hi hk;rw[zGP]at hi;have hk2:k<m:=by omega
 have e0:∀j,j<A.length->((oth A c (A.getD t [])).getD j []).getD k 0=if k=c then 0 else if j=k then 1 else 0:=by
  intro j hj;rw[zXC hm ht hj hk2]
  by_cases hkc:k=c
  ·subst hkc;have hb:=zM3 (k:=k) hm hj hk2;rw[if_pos rfl]
   split
   ·rename_i h;rw[h,hl];rfl
   ·rename_i h
    rcases hb with hb|hb
    ·exact hb
    ·exact absurd hb h
  ·rw[if_neg hkc];have h1:=hu j k hj (by omega);have h2:=hu t k ht (by omega);rw[if_neg (by omega)]at h2;rw[h1,h2]
   split<;>split<;>rfl
 unfold ent;rw[zIT ht hc i hi]
 by_cases h1:c=i
 ·subst h1;rw[if_pos rfl]
  by_cases hkc:c=k
  ·subst hkc;rw[if_pos rfl];exact hl
  ·rw[if_neg hkc]
   have:=hu t k ht (by omega)
   rw[if_neg (by omega)]at this;exact this
 ·rw[if_neg h1]
  by_cases h2:t=i
  ·subst h2;rw[if_pos rfl,e0 c (by omega)]
   by_cases hkc:k=c
   ·subst hkc;rw[if_pos rfl,if_neg (fun z=>h1 z.symm)]
   ·rw[if_neg hkc,if_neg (fun z=>hkc z.symm),if_neg (by omega)]
  ·rw[if_neg h2,e0 i hi]
   by_cases hkc:k=c
   ·subst hkc;rw[if_pos rfl,if_neg (fun z=>h1 z.symm)]
   ·rw[if_neg hkc]
theorem zB6(n:Nat)(f:Nat->Int):sumN (n+1) f=sumN n f+f n:=by
 unfold sumN;rw[qBq,qB7,List.sum_append];simp
theorem zB5{n:Nat}{f:Nat->Int}(h:∀k,k<n->f k=0):sumN n f=0:=by
 induction n with
 |zero=>rfl
 |succ n ih=>rw[zB6,ih fun k hk=>h k (by omega),h n (by omega)];rfl
theorem zHO{n:Nat}{f:Nat->Int}{j:Nat}(hj:j<n)(h:∀k,k<n->k≠j->f k=0):sumN n f=f j:=by
 induction n with
 |zero=>omega
 |succ n ih=>
  rw[zB6]
  by_cases z:j=n
  ·subst z;rw[zB5 fun k hk=>h k (by omega) (by omega)];omega
  ·rw[ih (by omega) fun k hk=>h k (by omega),h n (by omega) (fun y=>z y.symm)];omega
theorem zST{n:Nat}{f:Nat->Int}{i j:Nat}(hi:i<j)(hj:j<n)(h:∀k,k<n->k≠i->k≠j->f k=0):sumN n f=f i+f j:=by
 induction n with
 |zero=>omega
 |succ n ih=>
  rw[zB6]
  by_cases z:j=n
  ·subst z;rw[zHO hi fun k hk hki=>h k (by omega) hki (by omega)]
  ·rw[ih (by omega) fun k hk=>h k (by omega),h n (by omega) (by omega) (fun y=>z y.symm)];omega
theorem zOC(n:Nat)(f:Nat->Int):sumN (n+1) f=f 0+sumN n fun k=>f (k+1):=by
 induction n with
 |zero=>simp[sumN]
 |succ n ih=>rw[zB6,ih,zB6];omega
theorem zEU:∀(r x:List Int)(m:Nat),x.length<=m->dot r x=sumN m fun k=>r.getD k 0*x.getD k 0
 |[],x,m,_=>by rw[zB5 fun k _=>by simp];rfl
 |a::r,[],m,_=>by rw[zB5 fun k _=>by simp];rfl
 |a::r,b::x,0,h=>by simp at h
 |a::r,b::x,m+1,h=>by
  rw[dot,zEU r x m (by simpa using h),zOC];simp
theorem zIL:∀(a b u v:List Int),a.length=u.length->dot (a++b) (u++v)=dot a u+dot b v
 |[],b,[],v,_=>by simp[dot]
 |[],b,_::_,v,h=>by simp at h
 |_::_,b,[],v,h=>by simp at h
 |a::r,b,c::u,v,h=>by
  have:=zIL r b u v (by simpa using h)
  simp[dot,this];omega
theorem zYI(r:List Int):dot r []=0:=by cases r<;>rfl
theorem zLA{n k:Nat}{x:List Int}(hx:RowN n x):Bit (x.getD k 0):=by
 by_cases h:k<x.length
 ·exact hx.2 _ (zAF h)
 ·left;simp[qA0,qCp (by omega:x.length<=k)]
structure Rk(n:Nat)(T A:List (List Int))(p q:Nat):Prop where
 rows:∀r∈A,RowN n r
 zero:∀r∈A,∀k,k<p->r.getD k 0=0
 le:q<=p
 all:q=p->∀x,RowN n x->Ker T x->Ker A x/\((∀j,p<=j->x.getD j 0=0)->∀j,x.getD j 0=0)
 some:q<p->∃x,RowN n x/\Ker T x/\∃j,j<n/\x.getD j 0=1
 lift:∀x,RowN n x->Ker A x->∃y,RowN n y/\Ker T y/\∀j,p<=j->y.getD j 0=x.getD j 0
end Mp
namespace Mp
open Mi PySem
theorem zFS{r:Ro}{i n:Nat}{vs:List Nat}{e:EM}{d:Dt}{P:Ro->Prop}(h1:e (full r)=okR d)(h2:e (frz (frzAt vs r))=okR d)(p1:P (r.set i (some (d,n))))(p2:P ((frzAt vs r).set i (some (d,n)))):nxR (sSet i n vs e r) P:=by
 unfold sSet;rw[h1,zA0]
 split
 ·exact p1
 ·rw[h2,zA0];exact p2
theorem zBK{ρ:Rh}{c:TM}{e:EM}{i:Nat}{β:Type}(en:β->Dt)(g:β->Dt)(f:β->Bool)(ns:List β)(hi:i=ρ.length)(hc:∀k,k∈ns->c (ρ++[some (en k)])=okR (f k))(h:∀k,k∈ns->f k=true->e (ρ++[some (en k)])=okR (g k))(it:IM)(hit:it ρ=okR (ns.map en))(hn:ns.length<=100000):eComp it 1 (.one i) c e ρ=okR (.lst ((ns.filter f).map g)):=by
 subst hi;unfold eComp;rw[hit,zA0,if_pos ⟨by simpa using hn,by simp[Tg.idx]⟩];have go:∀(l:List β)(acc:List Dt),(∀k∈l,k∈ns)->compGo ρ 1 (.one ρ.length) c e (l.map en) acc=okR (acc++(l.filter f).map g):=by
  intro l
  induction l with
  |nil=>intro acc _;simp[compGo]
  |cons a r ih=>
   intro acc hl;have h1:=hc a (hl a (by simp));have h2:=h a (hl a (by simp));have ih':=fun acc=>ih acc fun k hk=>hl k (by simp[hk])
   have es:zAN (ρ++qA9 1 none) [(ρ.length,en a)]=ρ++[some (en a)]:=by
    simp[zAN]
   rw[qAi,compGo];show zA3 (c (zAN (ρ++qA9 1 none) [(ρ.length,en a)])) _=_;rw[es,h1,zA0];cases hf:f a with
   |true=>
    rw[if_pos rfl];rw[h2 hf,zA0,ih',qD9 hf];simp
   |false=>
    rw[if_neg (by simp),ih',qD8 (by simp[hf])]
 rw[go _ _ fun k hk=>hk,zA0];simp
theorem zQ3{n:Nat}{a:List Int}(h:a.length=n):a=(qA6 n).map fun j=>a.getD j 0:=by
 apply qBf
 ·simp[h]
 ·intro i h1 h2;simp[qA0,qA2 h1]
theorem zPD{n:Nat}{a b:List Int}(h:a.length=n)(h':b.length=n):addB a b=(qA6 n).map fun j=>(a.getD j 0+b.getD j 0)%2:=by
 rw[zQ3 (n:=n) (a:=addB a b) (by rw[zJ0 a b (by omega),h])];exact qAs fun j hj=>zJ1 a b j (by omega) (by simp at hj;omega)
noncomputable def zFN(n i:Nat):List Int:=(qA6 n).map fun j=>if j=i then 1 else 0
theorem zCM{n k:Nat}{g:Nat->Int}(h:k<n):((qA6 n).map g).getD k 0=g k:=by
 simp[qA0,h]
theorem zMP(n i:Nat):RowN n (zFN n i):=⟨by simp[zFN],fun x hx=>by
 obtain⟨k,_,rfl⟩:=qAd.mp hx;show Bit (if _ then 1 else 0)
 split<;>simp[Bit]⟩
theorem zUJ{n i:Nat}{v:List Int}(hi:i<n)(hv:v.length=n):dot (zFN n i) v=v.getD i 0:=by
 rw[zEU _ v n (by omega),zHO hi fun k hk hki=>?_]
 ·rw[zFN,zCM hi,if_pos rfl];simp
 ·rw[zFN,zCM hk,if_neg hki];simp
def aug(n:Nat)(T:List (List Int)):List (List Int):=(qA6 n).map fun i=>T.getD i []++zFN n i
theorem zYV{n:Nat}{T:List (List Int)}(hT:T.length=n)(hr:∀r∈T,RowN n r){u v:List Int}(hu:u.length=n)(hv:v.length=n):Ker (aug n T) (u++v)↔∀i,i<n->(dot (T.getD i []) u+v.getD i 0)%2=0:=by
 have key:∀i,i<n->dot (T.getD i []++zFN n i) (u++v)=dot (T.getD i []) u+v.getD i 0:=fun i hi=>by
  rw[zIL _ _ _ _ (by rw[(hr _ (zAF (by omega))).1,hu]),zUJ hi hv]
 constructor
 ·intro h i hi;rw[<- key i hi];exact h _ (qAd.mpr ⟨i,by simpa using hi,rfl⟩)
 ·intro h r hr;obtain⟨i,hi,rfl⟩:=qAd.mp hr;have hi':i<n:=by simpa using hi
  rw[key i hi'];exact h i hi'
theorem zUU{n:Nat}{T:List (List Int)}(hT:T.length=n)(hr:∀r∈T,RowN n r){u:List Int}(hu:u.length=n)(h:Ker (aug n T) u):Ker T u:=by
 intro r hrt;obtain⟨i,hi,rfl⟩:=zBW (d:=[]) hrt
 have:=h _ (qAd.mpr ⟨i,by simp;omega,rfl⟩)
 rw[<- qCm u,zIL _ _ _ _ (by rw[(hr _ (zAF hi)).1,hu]),zYI]at this
 simpa using this
structure Un(n:Nat)(T A:List (List Int))(c:Nat):Prop where
 len:A.length=n
 rows:∀r∈A,RowN (n+n) r
 unit:zYZ A c
 ker:∀x,(∀y∈x,Bit y)->(Ker A x↔Ker (aug n T) x)
theorem Un.none{n c:Nat}{T A:List (List Int)}(a:Un n T A c)(hT:T.length=n)(hr:∀r∈T,RowN n r)(hc:c<n)(h:∀t,c<=t->t<n->ent A t c≠1):∃x,RowN n x/\Ker T x/\∃j,j<n/\x.getD j 0=1:=by
 let x:List Int:=(qA6 n).map fun k=>if k<c then ent A k c else if k=c then 1 else 0
 have hx:∀k,k<n->x.getD k 0=if k<c then ent A k c else if k=c then 1 else 0:=fun k hk=>zCM hk
 have hl:=a.len;have hxr:RowN n x:=⟨by simp[x],fun y hy=>by
  obtain⟨k,hk,rfl⟩:=qAd.mp hy;have hk':k<n:=by simpa using hk
  show Bit (if k<c then ent A k c else if k=c then 1 else 0)
  split
  ·exact zM3 a.rows (by omega) (by omega)
  ·split<;>simp[Bit]⟩
 refine⟨x,hxr,zUU hT hr hxr.1 ((a.ker x hxr.2).mp fun r hrA=>?_),c,hc,by rw[hx c hc,if_neg (by omega),if_pos rfl]⟩;obtain⟨i,hi,rfl⟩:=zBW (d:=[]) hrA;rw[zEU _ x n (by rw[hxr.1];exact qA7 _)]
 by_cases hic:i<c
 ·rw[zST hic hc fun k hk h1 h2=>?_]
  ·rw[hx i (by omega),if_pos hic,hx c hc,if_neg (by omega),if_pos rfl]
   have:=a.unit i i hi hic
   rw[if_pos rfl]at this
   show(ent A i i*ent A i c+ent A i c*1)%2=0
   rw[this];omega
  ·rw[hx k hk]
   by_cases hkc:k<c
   ·have:=a.unit i k hi hkc
    rw[if_neg (fun z=>h1 z.symm)]at this;show ent A i k*_=0;rw[this];simp
   ·rw[if_neg hkc,if_neg h2];simp
 ·rw[zB5 fun k hk=>?_]
  ·rfl
  ·rw[hx k hk]
   by_cases hkc:k<c
   ·have:=a.unit i k hi hkc
    rw[if_neg (by omega)]at this;show ent A i k*_=0;rw[this];simp
   ·rw[if_neg hkc]
    by_cases h2:k=c
    ·subst h2;have hb:=zM3 (k:=k) a.rows hi (by omega)
     have:ent A i k=0:=hb.elim (fun z=>z) fun z=>absurd z (h i (by omega) (by omega))
     show ent A i k*_=0;rw[this];simp
    ·rw[if_neg h2];simp
theorem Un.full{n:Nat}{T A:List (List Int)}(a:Un n T A n)(hT:T.length=n)(hr:∀r∈T,RowN n r){u v:List Int}(hu:RowN n u)(hv:RowN n v) :
  (∀i,i<n->(dot (T.getD i []) u+v.getD i 0)%2=0)↔∀i,i<n->(u.getD i 0+dot ((A.map (qF2 n)).getD i []) v)%2=0:=by
 have hl:=a.len;rw[<- zYV hT hr hu.1 hv.1,<- a.ker (u++v) fun y hy=>(qAw.mp hy).elim (hu.2 y) (hv.2 y)];have key:∀i,i<n->dot (A.getD i []) (u++v)=u.getD i 0+dot ((A.map (qF2 n)).getD i []) v:=fun i hi=>by
  have hrow:=a.rows _ (zAF (d:=[]) (i:=i) (by omega));rw[zEJ (d:=[]) (by omega)]
  conv=>lhs;rw[<- qC5 n (A.getD i [])]
  rw[zIL _ _ _ _ (by rw[hu.1,qDr,hrow.1];omega)]
  congr 1
  rw[zEU _ u n (by rw[hu.1];exact qA7 _)];have e:∀k,k<n->((A.getD i []).take n).getD k 0=if i=k then 1 else 0:=fun k hk=>by
   have:=a.unit i k (by omega) hk
   unfold ent at this;rw[<- this]
   generalize A.getD i []=row
   rw[qA0,qA0,qEb hk]
  rw[zHO hi fun k hk hki=>by rw[e k hk,if_neg (fun z=>hki z.symm)];simp,e i hi,if_pos rfl];simp
 constructor
 ·intro h i hi;rw[<- key i hi];exact h _ (zAF (by omega))
 ·intro h r hrA;obtain⟨i,hi,rfl⟩:=zBW (d:=[]) hrA;rw[key i (by omega)];exact h i (by omega)
theorem Un.start{n:Nat}{T:List (List Int)}(hT:T.length=n)(hr:∀r∈T,RowN n r):Un n T (aug n T) 0:=by
 refine⟨by simp[aug],fun r hrA=>?_,fun i k _ hk=>by omega,fun _ _=>Iff.rfl⟩;obtain⟨i,hi,rfl⟩:=qAd.mp hrA;have h1:=hr _ (zAF (d:=[]) (i:=i) (by rw[hT];simpa using hi));have h2:=zMP n i;exact⟨by rw[qAl,h1.1,h2.1],fun x hx=>(qAw.mp hx).elim (h1.2 x) (h2.2 x)⟩
theorem Un.step{n c t:Nat}{T A:List (List Int)}(a:Un n T A c)(hc:c<n)(ht:c<=t)(htn:t<n)(h:ent A t c=1):Un n T (clr A c t) (c+1):=by
 have hl:=a.len;exact⟨by rw[zGP,a.len],zUQ a.rows (by omega) ht,zUP a.rows (by omega) ht h (by omega) a.unit,fun x hx=>(zYS a.rows (by omega) ht x hx).trans (a.ker x hx)⟩
def eiR(x:R Out)(P:Ro->Prop)(Q:Dt->Prop):Prop:=(∃r,x=okR (.nx r)/\P r)\/∃d,x=okR (.rt d)/\Q d
theorem zM4{x:R Out}{P:Ro->Prop}{Q:Dt->Prop}(h:nxR x P):eiR x P Q:=.inl (zBE h)
theorem zcW{j n:Nat}{b:SM}{r:Ro}(Pv:Nat->Ro->Prop)(Q:Dt->Prop)(h:Pv 0 r)(hs:∀k,k<n->∀r,Pv k r->eiR (b (r.set j (some (.int (k:Nat),0)))) (Pv (k+1)) Q):eiR (forGo (.one j) b (nums 0 n) r) (Pv n) Q:=by
 have go:∀(m k:Nat)(r:Ro),k+m=n->Pv k r->eiR (forGo (.one j) b ((qFn k m).map fun i:Nat=>Dt.int (i:Int)) r) (Pv n) Q:=by
  intro m
  induction m with
  |zero=>intro k r hk hp;exact .inl ⟨r,rfl,by rw[<- hk];exact hp⟩
  |succ m ih=>
   intro k r hk hp;rw[qGi,qAi,forGo];show eiR (zA3 (b (r.set j (some (.int (k:Nat),0)))) _) _ _
   rcases hs k (by omega) r hp with⟨r',e,h'⟩|⟨d,e,hq⟩
   ·rw[e,zA0];exact ih (k+1) r' (by omega) h'
   ·rw[e,zA0];exact .inr ⟨d,rfl,hq⟩
 rw[zDK,qFg];exact go n 0 r (by omega) h
theorem zF1{a b:SM}{r:Ro}{P P':Ro->Prop}{Q:Dt->Prop}(h:eiR (a r) P Q)(hb:∀r',P r'->eiR (b r') P' Q):eiR (sSeq a b r) P' Q:=by
 unfold sSeq
 rcases h with⟨r',e,h'⟩|⟨d,e,hq⟩
 ·rw[e,zA0];exact hb r' h'
 ·rw[e,zA0];exact .inr ⟨d,rfl,hq⟩
theorem zSI{n:Nat}{a b:List Int}(h:RowN n a)(h':RowN n b)(hn:n<=1000):zG5 [rowD a,rowD b]=okR (rowD (addB a b)):=by
 rw[zPD h.1 h'.1];unfold zG5 zSF;have hc:eComp (iR1 (aCons (eBi lenD (aCons (eV 0) aNil)) aNil)) 1 (.one 2) Mi.tYes (eB xorD (eB ixD (eV 0) (eV 2)) (eB ixD (eV 1) (eV 2))) [some (rowD a),some (rowD b)]=okR (rowD ((qA6 n).map fun j=>(a.getD j 0+b.getD j 0)%2)):=by
  refine zNZ _ rfl (by omega) (zE9 (by simp[-qA0,h.1]) (by omega)) fun j hj=>?_
  have i1:=zR9 a j (by rw[h.1];exact hj);have i2:=zR9 b j (by rw[h'.1];exact hj);simp[-qA0,i1,i2,zWI (zLA (k:=j) h) (zLA (k:=j) h')]
 simp[hc]
theorem zPO(n i:Nat)(hn:n<=1000):zCO [.int (n:Int),.int (i:Int)]=okR (rowD (zFN n i)):=by
 unfold zCO zHG;have hc:eComp (iR1 (aCons (eV 0) aNil)) 1 (.one 2) Mi.tYes (eIf (tB (eB eqD (eV 2) (eV 1))) (eC (.int 1)) (eC (.int 0))) [some (.int (n:Int)),some (.int (i:Int))]=okR (rowD (zFN n i)):=by
  refine zNZ _ rfl (by omega) (zE9 (by simp) (by omega)) fun j hj=>?_
  by_cases h:j=i
  ·subst h;simp
  ·simp[h,show ¬(j:Int)=(i:Int) by omega]
 simp[hc]
theorem zKJ{A:List (List Int)}{c t m:Nat}(hm:∀r∈A,RowN m r)(ht:t<A.length)(hc:c<=t)(hcm:c<m)(hz:m<=1000)(hA:A.length<=1000):zDB [mat A,.int (c:Int),.int (t:Int)]=okR (mat (clr A c t)):=by
 have hlr:=hm _ (zAF (d:=[]) ht);have hcomp:∀o2 o4:Option Dt,eComp (iSq (eV 0)) 1 (.one 5) Mi.tYes (eIf (tB (eB eqD (eB ixD (eV 5) (eV 1)) (eC (.int 1)))) (eCall zG5 (aCons (eV 5) (aCons (eV 3) aNil))) (eV 5)) [some (mat A),some (.int (c:Int)),o2,some (rowD (A.getD t [])),o4]=okR (mat (oth A c (A.getD t []))):=by
  intro o2 o4;refine qGj (zBD (i:=5) rowD (fun r=>rowD (if r.getD c 0=1 then addB r (A.getD t [])else r)) A rfl rfl (fun r hr=>?_) _ (by simp[mat]) (by omega)) ?_
  ·have h1:=hm r hr;have i1:=zR9 r c (by rw[h1.1];exact hcm);have a1:=zSI h1 hlr hz
   by_cases h:r.getD c 0=1
   ·rw[if_pos h];exact if1 (eqi (b2 rfl rfl i1) rfl (decide_eq_true h)) (c2 rfl rfl a1)
   ·rw[if_neg h];exact if0 (eqi (b2 rfl rfl i1) rfl (decide_eq_false h)) rfl
  ·unfold mat oth;rw[qB3];rfl
 have i0:=zU1 A t ht;unfold zDB zKU;refine zBN rfl (zD1 fun bb hb=>?_);simp[startO,i0];subst hb;refine zD1 fun bb hb=>?_
 have fin:∀l0 l1 l2 l3,bb [some (mat A,l0),some (.int (c:Int),l1),some (.int (t:Int),l2),some (rowD (A.getD t []),l3),some (mat (oth A c (A.getD t [])),1)]=okR (.rt (mat (clr A c t))):=by
  intro l0 l1 l2 l3;subst hb;have hol:=zFZ A c (A.getD t []);have i1:itA ((oth A c (A.getD t [])).map rowD) (c:Int)=some (rowD ((oth A c (A.getD t [])).getD c [])):=zU1 (oth A c (A.getD t [])) c (by omega);have q1:ixA (oth A c (A.getD t [])).length (t:Int)=some t:=by rw[zNK (by omega) (by omega)];simp
  refine zD1 fun bb hb=>?_
  refine zAS (r:=[some (mat A,l0),some (.int (c:Int),l1),some (.int (t:Int),l2),some (rowD (A.getD t []),l3),some (mat ((oth A c (A.getD t [])).set t ((oth A c (A.getD t [])).getD c [])),1)]) ?_ ?_
  ·unfold sItemS;simp only[low,mat,qBw,qEk,qFw,qFx];simp[-qA0,i1,q1]
  subst hb;refine zD1 fun bb hb=>?_
  have q2:ixA (oth A c (A.getD t [])).length (c:Int)=some c:=by rw[zNK (by omega) (by omega)];simp[-qA0]
  refine zAS (r:=[some (mat A,l0),some (.int (c:Int),l1),some (.int (t:Int),l2),some (rowD (A.getD t []),0),some (mat (clr A c t),1)]) ?_ ?_
  ·unfold sItemF;simp only[low,mat,qBw,qEk,qFw,qFx];simp[-qA0,q2,clr]
  subst hb;simp[sRetV]
 exact zFS (hcomp _ _) (by simp;exact hcomp _ _) (fin _ _ _ _) (fin _ _ _ _)
def UnD(n:Nat)(T:List (List Int))(d:Dt):Prop:=
 (d=.non/\∃x,RowN n x/\Ker T x/\∃j,j<n/\x.getD j 0=1)\/∃R,d=mat R/\R.length=n/\(∀r∈R,RowN n r)/\∀u v,RowN n u->RowN n v->((∀i,i<n->(dot (T.getD i []) u+v.getD i 0)%2=0)↔∀i,i<n->(u.getD i 0+dot (R.getD i []) v)%2=0)
def UnS(n:Nat)(T:List (List Int))(c:Nat)(r:Ro):Prop:=∃A l0 l2 o3 o4,r=[some (mat T,l0),some (.int (n:Int),0),some (mat A,l2),o3,o4]/\Un n T A c
theorem zJ8(n:Nat)(T:List (List Int))(hT:T.length=n)(hr:∀r∈T,RowN n r)(hn:n<=10):∃d,zG4 [mat T]=okR d/\UnD n T d:=by
 suffices h:eiR (zGQ [some (mat T,0),none,none,none,none]) (fun _=>False) (UnD n T) by
  rcases h with⟨_,_,z⟩|⟨d,h1,h2⟩
  ·exact z.elim
  ·exact⟨d,zBN rfl h1,h2⟩
 have hlT:lenD [mat T]=some (.int (n:Int)):=by unfold mat;simp[hT]
 unfold zGQ;refine zF1 (P:=fun r=>r=[some (mat T,0),some (.int (n:Int),0),none,none,none]) (zM4 (zAS (ss (bi1 rfl hlT) (qAk 0)) rfl)) ?_
 rintro r rfl
 refine zF1 (P:=UnS n T 0) (zM4 ?_) ?_
 ·have hc:∀o2 o3 o4:Option Dt,eComp (iR1 (aCons (eV 1) aNil)) 1 (.one 5) Mi.tYes (eB addD (eB ixD (eV 0) (eV 5)) (eCall zCO (aCons (eV 1) (aCons (eV 5) aNil)))) [some (mat T),some (.int (n:Int)),o2,o3,o4]=okR (mat (aug n T)):=by
   intro o2 o3 o4;refine qGj (zEV (fun i=>rowD (T.getD i []++zFN n i)) n rfl rfl (fun i hi=>?_) _ (zE9 (al0 rfl) (by omega)) (by omega)) ?_
   ·have i0:=zU1 T i (by omega);have u0:=zPO n i (by omega);have a0:=addR (T.getD i []) (zFN n i) (by rw[(hr _ (zAF (by omega))).1,(zMP n i).1];omega);exact b2 (b2 rfl rfl i0) (c2 rfl rfl u0) a0
   ·unfold mat aug;rw[qB3];rfl
  exact zFS (hc _ _ _) (hc _ _ _) ⟨aug n T,_,_,_,_,rfl,Un.start hT hr⟩ ⟨aug n T,_,_,_,_,rfl,Un.start hT hr⟩
 intro r hr0;refine zF1 (P:=UnS n T n) ?_ ?_
 ·obtain⟨A,l0,l2,o3,o4,rfl,ha⟩:=hr0;rw[zCQ];rw[zE9 (n:=n) (al0 rfl) (by omega),zA0];refine zcW (UnS n T) (UnD n T) ⟨A,l0,l2,o3,o4,rfl,ha⟩ ?_
  rintro c hc r ⟨A,l0,l2,o3,o4,rfl,ha⟩
  have hlA:=ha.len
  let ls:List Nat:=((qA6 (n-c)).map fun k=>c+k).filter fun t=>decide (ent A t c=1)
  have hls:∀o0 o4:Option Dt,eComp (iR2 (aCons (eV 3) (aCons (eV 1) aNil))) 1 (.one 5) (tB (eB eqD (eB ixD (eB ixD (eV 2) (eV 5)) (eV 3)) (eC (.int 1)))) (eV 5) [o0,some (.int (n:Int)),some (mat A),some (.int (c:Nat)),o4]=okR (.lst (ls.map fun t:Nat=>Dt.int (t:Int))):=by
   intro o0 o4;refine zBK (fun t:Nat=>Dt.int (t:Int)) _ (fun t=>decide (ent A t c=1)) ((qA6 (n-c)).map fun k=>c+k) rfl (fun t ht=>?_) (fun t ht _=>rfl) _ ?_ (by simp;omega)
   ·obtain⟨k,hk,rfl⟩:=qAd.mp ht;have hk':k<n-c:=by simpa using hk
    have i1:=zU1 A (c+k) (by omega);have i2:=zR9 (A.getD (c+k) []) c (by rw[(ha.rows _ (zAF (by omega))).1];omega);exact eqi (b2 (b2 rfl rfl i1) rfl i2) rfl rfl
   ·unfold iR2;simp;rw[if_pos (by omega)];unfold nums
    congr 2
  refine zF1 (P:=fun r=>∃l0 l2 o4,r=[some (mat T,l0),some (.int (n:Int),0),some (mat A,l2),some (.int (c:Nat),0),some (.lst (ls.map fun t:Nat=>Dt.int (t:Int)),o4)]) (zM4 ?_) ?_
  ·exact zFS (hls _ _) (hls _ _) ⟨_,_,_,rfl⟩ ⟨_,_,_,rfl⟩
  rintro r ⟨l0,l2,l4,rfl⟩
  cases hlz:ls with
  |nil=>
   refine .inr ⟨.non,zZK ?_,.inl ⟨rfl,ha.none hT hr hc fun t h1 h2 h3=>?_⟩⟩
   ·simp
   ·have:t∈ls:=qAr.mpr ⟨qAd.mpr ⟨t-c,by simp;omega,by omega⟩,by simpa using h3⟩
    rw[hlz]at this;simp at this
  |cons t l=>
   have ht:t∈ls:=by rw[hlz];simp
   obtain⟨g1,g2⟩:=qAr.mp ht;obtain⟨k,g3,rfl⟩:=qAd.mp g1;have g4:k<n-c:=by simpa using g3
   have g5:ent A (c+k) c=1:=by simpa using g2
   refine zF1 (P:=fun r=>r=[some (mat T,l0),some (.int (n:Int),0),some (mat A,l2),some (.int (c:Nat),0),some (.lst (((c+k)::l).map fun t:Nat=>Dt.int (t:Int)),l4)]) (zM4 (by simp)) ?_
   rintro r rfl
   clear hls;have i0:ixD (.lst (((c+k)::l).map fun t:Nat=>Dt.int (t:Int))) (.int 0)=some (.int ((c+k:Nat):Int)):=zDW (i:=0) rfl (by simp);have cl:=zKJ (A:=A) (c:=c) (t:=c+k) ha.rows (by omega) (by omega) (by omega) (by omega) (by omega)
   generalize Dt.lst (((c+k)::l).map fun t:Nat=>Dt.int (t:Int))=L at i0
   have he:∀o0 o1:Option Dt,eCall zDB (aCons (eV 2) (aCons (eV 3) (aCons (eB ixD (eV 4) (eC (.int 0))) aNil))) [o0,o1,some (mat A),some (.int (c:Nat)),some L]=okR (mat (clr A c (c+k))):=by
    intro o0 o1;exact c3 rfl rfl (b2 rfl rfl i0) cl
   exact zM4 (zFS (he _ _) (c3 rfl rfl (b2 rfl rfl i0) cl) ⟨_,_,_,_,_,rfl,ha.step hc (by omega) (by omega) g5⟩ ⟨_,_,_,_,_,rfl,ha.step hc (by omega) (by omega) g5⟩)
 ·rintro r ⟨A,l0,l2,o3,o4,rfl,ha⟩
  have hlA:=ha.len;have hc:∀o0 o3 o4:Option Dt,eComp (iSq (eV 2)) 1 (.one 5) Mi.tYes (eSl (eV 5) (oE (eV 1)) oNo) [o0,some (.int (n:Int)),some (mat A),o3,o4]=okR (mat (A.map (qF2 n))):=by
   intro o0 o3 o4;refine qGj (zBD (i:=5) rowD (fun r=>rowD (r.drop n)) A rfl rfl (fun r hrA=>?_) _ (by simp[mat]) (by omega)) ?_
   ·exact sl1 rfl rfl (by rw[zS4,zUN])
   ·unfold mat;rw[qB3];rfl
  have hd:=zIM (A.map (qF2 n));refine .inr ⟨mat (A.map (qF2 n)),?_,.inr ⟨_,rfl,by simp[hlA],fun r hrA=>?_,fun u v hu hv=>ha.full hT hr hu hv⟩⟩
  ·simp[hc,hd]
  ·obtain⟨q,hq,rfl⟩:=qAd.mp hrA;have h1:=ha.rows q hq;exact⟨by rw[qGc,h1.1];omega,fun x hx=>h1.2 x (List.mem_of_mem_drop hx)⟩
theorem zPW{z:Str}{l:List Nat}(h:z.cps.toList=l):z=⟨l.toArray⟩:=by
 cases z with
 |mk a=>subst h;simp
theorem add_str{a b:List Nat}(h:a.length+b.length<=1000):addD (.str ⟨a.toArray⟩) (.str ⟨b.toArray⟩)=some (.str ⟨(a++b).toArray⟩):=by
 rw[zZ9,if_pos (by rw[zHB,zHB];omega)]
 congr 2
 exact zPW (by rw[zL4])
theorem zZI{a:List Nat}(l h:Option Int)(hz:a.length<=1000):slD (.str ⟨a.toArray⟩) l h=some (.str ⟨(cutA a l h).toArray⟩):=by
 show(@ite _ ((Str.mk a.toArray).length<=100000) (qA4 _) (some (Dt.str ⟨(cutA a l h).toArray⟩)) none)=_
 rw[if_pos (by rw[zHB];omega)]
theorem zFW{α:Type}:∀(l:List α){i:Nat}(h:i<l.length),l.Perm (l[i]::l.eraseIdx i)
 |a::r,0,h=>by simp
 |a::r,i+1,h=>by
  have:=zFW r (i:=i) (by simpa using h)
  simp only[qDe,qBk];exact(this.cons a).trans (qFi _ _ _)
theorem zYY:(Str.ofString "abcdefghijklmnopqrstuvwxyz").cps.toList=(qA6 26).map (97 + ·):=by
 rw[Str.ofString_eq_toList]
 decide
end Mp
namespace Mp
noncomputable def sh(s:Nat)(cs:List Nat):List Nat:=cs.drop s++cs.take s
def wr(cs:List Nat):List Nat:=cs.map fun c=>97+(ords cs).idxOf c
end Mp
namespace Mp
open Mi PySem
theorem zYX:(Str.ofString "abcdefghijklmnopqrstuvwxyz")=⟨((qA6 26).map (97 + ·)).toArray⟩:=zPW zYY
theorem zG3{α β:Type}(g:α->β):∀(l:List α)(q:Nat),(l.eraseIdx q).map g=(l.map g).eraseIdx q
 |[],_=>rfl
 |_::_,0=>rfl
 |a::r,q+1=>by rw[qBk,qAi,qAi,qBk,zG3 g r q]
theorem zSK{j i:Nat}{e:EM}{r:Ro}{z u:Str}{l0 k q:Nat}{ds:List Dt}(hj:r[j]?=some (some (.str z,l0)))(hi:r[i]?=some (some (.lst ds,k+1)))(he:e (full r)=okR (.int (q:Int)))(hd:ds[q]?=some (.str u))(hij:i≠j)(h1:ds.length<=1000000)(h2:z.length+u.length<=100000):sAddPop j i e r=okR (.nx ((r.set i (some (.lst (ds.eraseIdx q),k+1))).set j (some (.str (z++u),0)))):=by
 have hq:q<ds.length:=(qA5.mp hd).1;unfold sAddPop;rw[hj,hi];dsimp only;rw[he,zA0];dsimp only;rw[zNK (by omega) (by omega)];dsimp only;rw[qBo,hd];dsimp only;rw[if_pos ⟨hij,h1,h2⟩]
theorem zWL{i n:Nat}{e:EM}{r:Ro}{ds es:List Dt}{k:Nat}(h:r[i]?=some (some (.lst ds,k+1)))(he:e (full r)=okR (.lst es))(h1:ds.length+es.length<=100000)(h2:Dt.depL es<=n)(h3:Dt.depL es<=k):sExt i n e r=okR (.nx (r.set i (some (.lst (ds++es),k+1)))):=by
 unfold sExt;rw[h];dsimp only;rw[he,zA0];dsimp only;rw[if_pos ⟨h1,h2,h3⟩]
@[simp] theorem x_eNew0(c:Str)(ρ:Rh):zcX c ρ=okR (.ins c []):=rfl
@[simp] theorem x_eNew(c:Str)(fl:List Str)(am:AM)(ρ:Rh):eNew c fl am ρ=zA3 (am ρ) fun ds=>match svsD ds with
 |some vs=>if vs.length=fl.length then okR (.ins c (fl.zip vs))else none
 |none=>none:=rfl
@[simp] theorem x_eFld(hs:List Str)(f:Str)(e:EM)(ρ:Rh):eFld hs f e ρ=zA3 (e ρ) fun d=>match d with
 |.ins c fs=>if c∈hs then(match fs.lookup f with|some v=>okR (dSv v)|none=>none)else none
 |_=>none:=rfl
@[simp] theorem x_eMeth(tb:List (Str×FM))(m:Str)(e:EM)(am:AM)(ρ:Rh):zcY tb m e am ρ=zA3 (e ρ) fun d=>match d with
 |.ins c fs=>match tb.lookup c with
  |some g=>match fs.lookup m with
   |none=>zA3 (am ρ) fun ds=>g (d::ds)
   |some _=>none
  |none=>none
 |_=>none:=rfl
@[simp] theorem x_eIsO(ys ns:List Str)(e:EM)(ρ:Rh):eIsO ys ns e ρ=zA3 (e ρ) fun d=>match d with
 |.ins c _=>if c∈ys then okR (.bl true)else if c∈ns then okR (.bl false)else none
 |_=>none:=rfl
@[simp] theorem v_dins(c:Str)(fs:List (Str×Sv)):(Dt.ins c fs).dep=1000:=rfl
noncomputable def zb4(o:Option Sl):Option Dt:=match o with
 |some (d,n)=>if n=0\/d.dep=0 then some d else none
 |none=>none
theorem zRJ(o:Option Sl)(r:Ro):frz (o::r)=zb4 o::frz r:=by
 cases o with
 |none=>rfl
 |some p=>rfl
theorem zDJ{cs:List Nat}{x:Nat}(h:cs.count x=2):∃A B C:List Nat,cs=A++x::(B++x::C)/\x∉A/\x∉B/\x∉C:=by
 have h1:x∈cs:=qE3.mp (by omega);obtain⟨A,R,rfl,hA⟩:=qE1 h1;rw[qCr,qBu.mpr hA,qC8]at h;have h2:x∈R:=qE3.mp (by omega);obtain⟨B,C,rfl,hB⟩:=qE1 h2;rw[qCr,qBu.mpr hB,qC8]at h;exact⟨A,B,C,rfl,hA,hB,qBu.mp (by omega)⟩
theorem zNO{A R:List Nat}{x:Nat}(h:x∉A):(A++x::R).idxOf x=A.length:=by
 rw[qCd,if_neg h,List.idxOf_cons_self];omega
theorem zT3{A B C:List Nat}{x:Nat}(hC:x∉C):rfindD (.str ⟨(A++x::(B++x::C)).toArray⟩) [sgn x]=some (.int ((A.length+1+B.length:Nat):Int)):=by
 have hr:(A++x::(B++x::C)).reverse=C.reverse++x::(B.reverse++x::A.reverse):=by simp
 have hp:posC x (A++x::(B++x::C)).reverse=some C.length:=by
  rw[hr,zFD (by simp),zNO (by simpa using hC),List.length_reverse]
 show some (Dt.int (match lastC x (A++x::(B++x::C))with|some i=>(i:Int)|none=>-1))=_;unfold lastC;rw[hp];show some (Dt.int (((A++x::(B++x::C)).length-1-C.length:Nat):Int))=_
 congr 3
 simp;omega
theorem zY9{A R:List Nat}{x:Nat}(h:x∉A):findD (.str ⟨(A++x::R).toArray⟩) [sgn x]=some (.int (A.length:Int)):=by
 rw[zUC (by simp),zNO h]
theorem zYO{α:Type}(xs:List α){i j:Nat}(hi:i<=xs.length)(hj:j<=xs.length):cutA xs (some (i:Int)) (some (j:Int))=(xs.drop i).take (j-i):=by
 unfold cutA cutIx;dsimp only;rw[if_neg (by omega),if_neg (by omega)];simp only[qBo];rw[qGp hi,qGp hj]
theorem len1(x:Nat):lenD [sgn x]=some (.int 1):=zEH (cs:=[x]) (by simp)
theorem zaZ(x:Nat)(cs:List Nat):inD true (sgn x) (.str ⟨cs.toArray⟩)=some (.bl (!decide (x∈cs))):=rfl
theorem zUB{A R:List Nat}{x:Nat}(h:x∉A):zCT [.str ⟨(A++x::R).toArray⟩,sgn x]=okR (.int (A.length:Int)):=by
 have key:zCY [some (.str ⟨(A++x::R).toArray⟩,0),some (sgn x,0)]=okR (.rt (.int (A.length:Int))):=by
  have f:=zY9 (R:=R) h;have i:=zaZ x (A++x::R);rw[show(!decide (x∈A++x::R))=false by simp]at i;have l:=len1 x
  generalize(A++x::R)=cs at f i
  unfold zCY;refine zD1 fun bb hb=>?_
  refine zAS (r:=[some (.str ⟨cs.toArray⟩,0),some (sgn x,0)]) (by simp[i,l]) ?_;subst hb;simp[f]
 exact zBN rfl key
theorem zQB{A B C:List Nat}{x:Nat}(hA:x∉A)(hC:x∉C):zE3 [.str ⟨(A++x::(B++x::C)).toArray⟩,sgn x]=okR (.tup [.int (A.length:Int),.int ((A.length+1+B.length:Nat):Int)]):=by
 have key:zE7 [some (.str ⟨(A++x::(B++x::C)).toArray⟩,0),some (sgn x,0)]=okR (.rt (.tup [.int (A.length:Int),.int ((A.length+1+B.length:Nat):Int)])):=by
  have f:=zUB (R:=B++x::C) hA;have r:=zT3 (A:=A) (B:=B) hC
  generalize(A++x::(B++x::C))=cs at f r
  generalize((A.length+1+B.length:Nat):Int)=b at r ⊢
  unfold zE7;simp[f,r]
 exact zBN rfl key
theorem cuts{A B C:List Nat}{x:Nat}:(A++x::(B++x::C)).take (A.length+1)=A++[x]/\((A++x::(B++x::C)).drop (A.length+1)).take B.length=B/\(A++x::(B++x::C)).drop (A.length+1+B.length)=x::C:=by
 have e:A++x::(B++x::C)=(A++[x])++(B++x::C):=by simp
 have l:(A++[x]).length=A.length+1:=by simp
 refine⟨?_,?_,?_⟩
 ·rw[e,<- l,qCe];rfl
 ·rw[e,<- l,qDz,qCe]
  ·rfl
  ·rfl
 ·rw[<- List.drop_drop,e,<- l,qDz,qDz]
  ·rfl
  ·rfl
theorem zKG{ls cs:List Nat}(hp:cs.Perm (ls++ls))(hn:ls.Nodup){x:Nat}(hx:x∈cs):cs.count x=2:=by
 have hl:x∈ls:=by have:=hp.mem_iff.mp hx;simpa using this
 rw[hp.count_eq,qCr,qI3 hn,if_pos hl]
end Mp
namespace FW
structure NetL(ns:List Int)(n:Nat):Prop where
 len:ns.length=n
 tie:∀i:Nat,i<n->∃j:Nat,j<n/\j≠i/\ns[i]?=some (j:Int)/\ns[j]?=some (i:Int)
structure Part(left:List Nat)(ns:List Int)(n:Nat):Prop where
 len:ns.length=n
 nd:left.Nodup
 lt:∀i∈left,i<n
 ev:left.length%2=0
 tie:∀i:Nat,i<n->i∉left->∃j:Nat,j<n/\j∉left/\j≠i/\ns[i]?=some (j:Int)/\ns[j]?=some (i:Int)
theorem zG9{l:List Nat}{k:Nat}(h:k<l.length):(l.eraseIdx k).length+1=l.length:=by
 rw[qBn h];omega
end FW
namespace Mp
open Mi PySem
theorem zTT{P:Nat->Prop}:∀(n:Nat),P n->∃p,p<=n/\P p/\∀q,q<p->¬P q:=by
 intro n
 induction n using qGq with
 |ind n ih=>
  intro h
  by_cases hq:∃q,q<n/\P q
  ·obtain⟨q,h1,h2⟩:=hq;obtain⟨p,h3,h4,h5⟩:=ih q h1 h2;exact⟨p,by omega,h4,h5⟩
  ·exact⟨n,qA7 _,h,fun q h1 h2=>hq ⟨q,h1,h2⟩⟩
noncomputable def itr(f:Nat->Nat):Nat->Nat->Nat
 |0,x=>x
 |k+1,x=>f (itr f k x)
theorem zF5{f:Nat->Nat}{M:Nat}(hf:∀x,x<M->f x<M){x:Nat}(hx:x<M):∀k,itr f k x<M
 |0=>hx
 |k+1=>hf _ (zF5 hf hx k)
theorem zIG{f:Nat->Nat}{M:Nat}(hf:∀x,x<M->f x<M)(hi:∀x y,x<M->y<M->f x=f y->x=y){x:Nat}(hx:x<M):∀i d,itr f i x=itr f (i+d) x->itr f d x=x
 |0,d,h=>by rw[qC4]at h;exact h.symm
 |i+1,d,h=>by
  rw[show i+1+d=(i+d)+1 by omega]at h;exact zIG hf hi hx i d (hi _ _ (zF5 hf hx i) (zF5 hf hx (i+d)) h)
theorem zK2:∀l:List Nat,¬l.Nodup->∃i j,i<j/\j<l.length/\l.getD i 0=l.getD j 0
 |[],h=>absurd List.nodup_nil h
 |a::l,h=>by
  by_cases ha:a∈l
  ·obtain⟨j,hj,e⟩:=List.getElem_of_mem ha;exact⟨0,j+1,by omega,by simp;omega,by simp[hj,e]⟩
  ·have:¬l.Nodup:=fun hn=>h (qBb.mpr ⟨ha,hn⟩)
   obtain⟨i,j,h1,h2,h3⟩:=zK2 l this;exact⟨i+1,j+1,by omega,by simp;omega,by simpa using h3⟩
theorem zG1:∀{a b:List Nat},a.Nodup->(∀x∈a,x∈b)->a.length<=b.length
 |[],b,_,_=>by simp
 |x::a,b,hn,h=>by
  obtain⟨h1,h2⟩:=qBb.mp hn;have hx:=h x (by simp)
  have:=zG1 (b:=b.erase x) h2 fun y hy=>by
   have hne:y≠x:=fun z=>h1 (z▸hy)
   exact(qDu hne).mpr (h y (by simp[hy]))
  rw[qCy hx]at this
  have:=qCj hx
  simp only[qAu];omega
theorem zP7{f:Nat->Nat}{M:Nat}(hf:∀x,x<M->f x<M)(hi:∀x y,x<M->y<M->f x=f y->x=y){x:Nat}(hx:x<M):∃p,1<=p/\p<=M/\itr f p x=x/\∀q,1<=q->q<p->itr f q x≠x:=by
 have hn:¬((qA6 (M+1)).map fun k=>itr f k x).Nodup:=fun hn=>by
  have:=zG1 (b:=qA6 M) hn fun y hy=>by
   obtain⟨k,_,rfl⟩:=qAd.mp hy;exact qCi.mpr (zF5 hf hx k)
  simp at this;omega
 obtain⟨i,j,h1,h2,h3⟩:=zK2 _ hn;simp at h2;have e:itr f i x=itr f j x:=by
  simpa[show i<M+1 by omega,h2]using h3
 have hb:itr f (j-i) x=x:=zIG hf hi hx i (j-i) (by rw[show i+(j-i)=j by omega];exact e);obtain⟨p,h4,h5,h6⟩:=zTT (P:=fun p=>1<=p/\itr f p x=x) (j-i) ⟨by omega,hb⟩;exact⟨p,h5.1,by omega,h5.2,fun q h7 h8 h9=>h6 q h8 ⟨h7,h9⟩⟩
noncomputable def jn(cs:List Nat)(e:Nat):Nat:=e/4*4+(e%4^^^(cs.getD (e/4) 0+1))
theorem xor4:∀s,s<4->∀w,w<3->(s^^^(w+1))<4/\((s^^^(w+1))^^^(w+1))=s:=by decide
theorem zE5{cs:List Nat}{n e:Nat}(hl:cs.length=n)(hw:∀c∈cs,c<3)(he:e<4*n):jn cs e<4*n/\jn cs (jn cs e)=e:=by
 have hc:cs.getD (e/4) 0<3:=zE6 hw (by omega);obtain⟨h1,h2⟩:=xor4 (e%4) (by omega) _ hc;have hq:jn cs e/4=e/4:=by unfold jn;omega
 have hr:jn cs e%4=(e%4^^^(cs.getD (e/4) 0+1)):=by unfold jn;omega
 refine⟨by unfold jn;omega,?_⟩;show jn cs e/4*4+(jn cs e%4^^^(cs.getD (jn cs e/4) 0+1))=e;rw[hq,hr,h2];omega
noncomputable def nt(ts:List Nat)(e:Nat):Nat:=ts.getD e 0
structure NetN(ts:List Nat)(M:Nat):Prop where
 len:ts.length=M
 lt:∀e,e<M->nt ts e<M
 inv:∀e,e<M->nt ts (nt ts e)=e
def stp(ts cs:List Nat)(e:Nat):Nat:=nt ts (jn cs e)
theorem zH5{ts cs:List Nat}{n:Nat}(hN:NetN ts (4*n))(hl:cs.length=n)(hw:∀c∈cs,c<3):(∀x,x<4*n->stp ts cs x<4*n)/\∀x y,x<4*n->y<4*n->stp ts cs x=stp ts cs y->x=y:=by
 refine⟨fun x hx=>hN.lt _ (zE5 hl hw hx).1,fun x y hx hy e=>?_⟩;have h1:=congrArg (nt ts) e;unfold stp at h1;rw[hN.inv _ (zE5 hl hw hx).1,hN.inv _ (zE5 hl hw hy).1]at h1;have h2:=congrArg (jn cs) h1;rw[(zE5 hl hw hx).2,(zE5 hl hw hy).2]at h2;exact h2
def orb(ts cs:List Nat)(e:Nat)(k:Nat):List Nat:=(qA6 k).flatMap fun i=>[itr (stp ts cs) i e,jn cs (itr (stp ts cs) i e)]
theorem zNC(ts cs:List Nat)(e k:Nat):orb ts cs e (k+1)=orb ts cs e k++[itr (stp ts cs) k e,jn cs (itr (stp ts cs) k e)]:=by
 unfold orb;rw[qBq,List.flatMap_append];simp
theorem zLK(ts cs:List Nat)(e:Nat):∀k,(orb ts cs e k).length=2*k
 |0=>rfl
 |k+1=>by rw[zNC,qAl,zLK ts cs e k];simp;omega
abbrev Kv:=List (Sum Int Str×Sw)
def zER(D:Kv)(l:List Nat):Kv:=l.foldl (fun(m:Kv)(x:Nat)=>putW m (.inl (x:Int)) (.bl true)) D
theorem zFC(D:Kv)(k:Sum Int Str)(v:Sw):(putW D k v).length<=D.length+1:=by
 unfold putW
 split
 ·simp
 ·simp
theorem zTQ(l:List Nat):∀D:Kv,(zER D l).length<=D.length+l.length:=by
 induction l with
 |nil=>intro D;exact qA7 _
 |cons x r ih=>
  intro D;have h1:=ih (putW D (.inl (x:Int)) (.bl true));have h2:=zFC D (.inl (x:Int)) (.bl true)
  show(zER (putW D (.inl (x:Int)) (.bl true)) r).length<=_
  simp only[qAu];omega
def rdS(f:Nat->List Nat):Nat->List (List Nat)×Kv
 |0=>([],[])
 |k+1=>if(getW (rdS f k).2 (.inl (k:Int))).isSome=true then rdS f k else((rdS f k).1++[f k],zER (rdS f k).2 (f k))
theorem zLE{f:Nat->List Nat}{B:Nat}(hf:∀k,(f k).length<=B):∀k,(rdS f k).1.length<=k/\(rdS f k).2.length<=k*B
 |0=>by simp[rdS]
 |k+1=>by
  obtain⟨h1,h2⟩:=zLE hf k;have hb:=hf k;have hm:=zTQ (f k) (rdS f k).2;unfold rdS
  split
  ·exact⟨by omega,by rw[qF8];omega⟩
  ·exact⟨by simp;omega,by show(zER (rdS f k).2 (f k)).length<=_;rw[qF8];omega⟩
def zD7(R:List (List Nat)):Dt:=.lst (R.map fun l=>rowD (numL l))
theorem zSG{r:Ro}{i v:Nat}{R:List (List Nat)}{l:List Nat}{lv lx:Nat}{e:EM}(hi:r[i]?=some (some (zD7 R,lv+1)))(hv:r[v]?=some (some (rowD (numL l),lx)))(hne:v≠i)(he:∀ρ:Rh,ρ[v]?=some (some (rowD (numL l)))->e ρ=okR (rowD (numL l)))(hz:R.length<=1000) :
  sAppF i [v] e r=okR (.nx (((r.set i (some (zD7 R,1))).set v (some (rowD (numL l),0))).set i (some (zD7 (R++[l]),1)))):=by
 have hil:i<r.length:=by
  have:=(qA5.mp hi).1
  exact this
 have hvl:v<r.length:=(qA5.mp hv).1;have h1:low i r=r.set i (some (zD7 R,1)):=by
  unfold low;rw[hi];rfl
 have h2:frzAt [v] (r.set i (some (zD7 R,1)))=(r.set i (some (zD7 R,1))).set v (some (rowD (numL l),0)):=by
  show frz1 v _=_;unfold frz1;rw[qAq (qCf hne),hv]
 unfold sAppF;rw[h1,h2];have h3:((r.set i (some (zD7 R,1))).set v (some (rowD (numL l),0)))[i]?=some (some (zD7 R,1)):=by
  rw[qAq hne,qAj hil]
 rw[h3];have h4:(frz ((r.set i (some (zD7 R,1))).set v (some (rowD (numL l),0))))[v]?=some (some (rowD (numL l))):=by
  unfold frz;rw[qAh,qAj (by simpa using hvl)];simp
 show zA3 (e _) _=_;rw[he _ h4,zA0,if_pos (by simp;omega)]
 congr 5
 simp[zD7]
structure Seats(R:List (List Nat))(n:Nat):Prop where
 len:R.length=n
 per:∀l∈R,l.Perm [0,1,2,3]
end Mp
namespace Mp
open Mi PySem
section
variable{R:List (List Nat)}{row:List Nat}{n:Nat}(hS:Seats R n)(tw:Twice n row)
include hS
include tw
omit hS in
omit hS in
omit hS in
omit hS in
omit hS tw in
omit hS tw in
end
end Mp
namespace Mp
open Mi PySem
theorem zIH(D:Kv)(k q:Sum Int Str)(v:Sw):getW (putW D k v) q=if q=k then some v else getW D q:=by
 unfold putW getW
 by_cases h:(D.any fun p=>decide (p.1=k))=true
 ·rw[if_pos h,List.find?_map];have e:((fun p:Sum Int Str×Sw=>decide (p.1=q))∘fun p=>if p.1=k then(p.1,v)else p)=fun p:Sum Int Str×Sw=>decide (p.1=q):=by
   funext p
   show decide ((if p.1=k then(p.1,v)else p).1=q)=decide (p.1=q)
   split<;>rfl
  rw[e];cases hf:D.find? fun p:Sum Int Str×Sw=>decide (p.1=q)with
  |none=>
   have hq:¬q=k:=fun z=>by
    subst z;obtain⟨x,hx,hd⟩:=qEs.mp h
    have:=qFy.mp hf x hx
    exact this hd
   rw[if_neg hq];rfl
  |some x=>
   have hx:x.1=q:=by have:=List.find?_some hf;simpa using this
   by_cases hq:q=k
   ·rw[if_pos hq];simp[hx,hq]
   ·rw[if_neg hq];simp[hx,hq]
 ·rw[if_neg h,List.find?_append];have hn:∀x∈D,¬x.1=k:=fun x hx e=>h (qEs.mpr ⟨x,hx,by simpa using e⟩)
  by_cases hq:q=k
  ·subst hq
   have:(D.find? fun p:Sum Int Str×Sw=>decide (p.1=q))=none:=qFy.mpr fun x hx=>by simpa using hn x hx
   rw[this,if_pos rfl];simp
  ·have hk:¬k=q:=fun z=>hq z.symm
   rw[if_neg hq];cases D.find? fun p:Sum Int Str×Sw=>decide (p.1=q)with
   |none=>simp[hk]
   |some x=>simp
theorem zZ4:∀s,s<4->∀w,w<3->(s^^^(w+1))≠s:=by decide
theorem zcT{cs:List Nat}{n e:Nat}(hl:cs.length=n)(hw:∀c∈cs,c<3)(he:e<4*n):jn cs e≠e:=fun h=>by
 have hc:cs.getD (e/4) 0<3:=zE6 hw (by omega);have h1:=zZ4 (e%4) (by omega) _ hc;unfold jn at h;omega
theorem zRA(f:Nat->Nat)(x p:Nat):∀k,itr f (k+p) x=itr f k (itr f p x)
 |0=>by rw[qC4];rfl
 |k+1=>by rw[show k+1+p=(k+p)+1 by omega];show f (itr f (k+p) x)=_;rw[zRA f x p k];rfl
section
variable{ts cs:List Nat}{n e:Nat}(hN:NetN ts (4*n))(hne:∀x,x<4*n->nt ts x≠x)(hl:cs.length=n)(hw:∀c∈cs,c<3)(he:e<4*n)
include hN hne hl hw he
theorem zQS:∀d j,itr (stp ts cs) (j+d) e≠jn cs (itr (stp ts cs) j e):=by
 obtain⟨st1,_⟩:=zH5 hN hl hw;have hlt:∀k,itr (stp ts cs) k e<4*n:=zF5 st1 he;intro d
 induction d using qGq with
 |ind d ih=>
  intro j h
  match d,ih,h with
  |0,_,h=>exact zcT hl hw (hlt j) h.symm
  |1,_,h=>
   have:itr (stp ts cs) (j+1) e=nt ts (jn cs (itr (stp ts cs) j e)):=rfl
   rw[this]at h;exact hne _ (zE5 hl hw (hlt j)).1 h
  |d+2,ih,h=>
   have h1:itr (stp ts cs) (j+(d+2)) e=nt ts (jn cs (itr (stp ts cs) (j+1+d) e)):=by
    rw[show j+(d+2)=(j+1+d)+1 by omega];rfl
   rw[h1]at h;have h2:=congrArg (nt ts) h;rw[hN.inv _ (zE5 hl hw (hlt _)).1]at h2;have h3:=congrArg (jn cs) h2;rw[(zE5 hl hw (hlt _)).2]at h3;exact ih d (by omega) (j+1) h3
variable{p:Nat}(p3:itr (stp ts cs) p e=e)(p4:∀q,1<=q->q<p->itr (stp ts cs) q e≠e)
include p3 p4
theorem zXZ{i j:Nat}(hi:i<j)(hj:j<p):itr (stp ts cs) i e≠itr (stp ts cs) j e:=fun h=>by
 obtain⟨st1,st2⟩:=zH5 hN hl hw
 have:=zIG st1 st2 he i (j-i) (by rw[show i+(j-i)=j by omega];exact h)
 exact p4 (j-i) (by omega) (by omega) this
theorem zaY{i j:Nat}(hi:i<p)(hj:j<p):itr (stp ts cs) i e≠jn cs (itr (stp ts cs) j e):=fun h=>by
 by_cases z:j<=i
 ·exact zQS hN hne hl hw he (i-j) j (by rw[show j+(i-j)=i by omega];exact h)
 ·have h1:itr (stp ts cs) (i+p) e=itr (stp ts cs) i e:=by rw[zRA,p3]
  exact zQS hN hne hl hw he (i+p-j) j (by rw[show j+(i+p-j)=i+p by omega,h1];exact h)
omit hN hne hl hw he p3 p4 in
theorem orb_mem{k x:Nat}:x∈orb ts cs e k↔∃i,i<k/\(x=itr (stp ts cs) i e\/x=jn cs (itr (stp ts cs) i e)):=by
 unfold orb;simp[List.mem_flatMap]
end
end Mp
namespace Mp
open Mi PySem
theorem zIA(x:Nat):∀(l:List Nat)(D:Kv),(getW (zER D l) (.inl (x:Int))).isSome=true↔(getW D (.inl (x:Int))).isSome=true\/x∈l
 |[],D=>by simp[zER]
 |y::l,D=>by
  show(getW (zER (putW D (.inl (y:Int)) (.bl true)) l) (.inl (x:Int))).isSome=true↔_
  rw[zIA x l,zIH]
  by_cases h:x=y
  ·subst h;simp
  ·have:¬(qFk (x:Int):Sum Int Str)=.inl (y:Int):=fun e=>h (by injection e with e;omega)
   rw[if_neg this];simp[h]
theorem zD8(f:Nat->List Nat)(x:Nat):∀k,(getW (rdS f k).2 (.inl (x:Int))).isSome=true↔∃l∈(rdS f k).1,x∈l
 |0=>by simp[rdS,getW]
 |k+1=>by
  by_cases h:(getW (rdS f k).2 (.inl (k:Int))).isSome=true
  ·have e:rdS f (k+1)=rdS f k:=by rw[rdS,if_pos h]
   rw[e];exact zD8 f x k
  ·have e:rdS f (k+1)=((rdS f k).1++[f k],zER (rdS f k).2 (f k)):=by rw[rdS,if_neg h]
   rw[e]
   show(getW (zER (rdS f k).2 (f k)) (.inl (x:Int))).isSome=true↔∃l∈(rdS f k).1++[f k],x∈l
   rw[zIA,zD8 f x k];constructor
   ·rintro(⟨l,h1,h2⟩|h1)
    ·exact⟨l,by simp[h1],h2⟩
    ·exact⟨f k,by simp,h1⟩
   ·rintro⟨l,h1,h2⟩
    rcases qAw.mp h1 with h3|h3
    ·exact .inl ⟨l,h3,h2⟩
    ·simp at h3;subst h3;exact .inr h2
theorem zFV(f:Nat->List Nat):∀k,(∀e,e<k->e∈f e)->∀e,e<k->(getW (rdS f k).2 (.inl (e:Int))).isSome=true
 |0,_,e,he=>by omega
 |k+1,hf,e,he=>by
  by_cases h:(getW (rdS f k).2 (.inl (k:Int))).isSome=true
  ·have e1:rdS f (k+1)=rdS f k:=by rw[rdS,if_pos h]
   rw[e1]
   by_cases z:e=k
   ·subst z;exact h
   ·exact zFV f k (fun e he=>hf e (by omega)) e (by omega)
  ·have e1:rdS f (k+1)=((rdS f k).1++[f k],zER (rdS f k).2 (f k)):=by rw[rdS,if_neg h]
   rw[e1]
   show(getW (zER (rdS f k).2 (f k)) (.inl (e:Int))).isSome=true
   rw[zIA]
   by_cases z:e=k
   ·subst z;exact .inr (hf e (by omega))
   ·exact .inl (zFV f k (fun e he=>hf e (by omega)) e (by omega))
theorem zN3(f:Nat->List Nat):∀k,∃t,(rdS f (k+1)).1=f 0::t
 |0=>⟨[],by simp[rdS,getW]⟩
 |k+1=>by
  obtain⟨t,ht⟩:=zN3 f k
  by_cases h:(getW (rdS f (k+1)).2 (.inl ((k+1:Nat):Int))).isSome=true
  ·have e:rdS f (k+1+1)=rdS f (k+1):=by rw[rdS,if_pos h]
   exact⟨t,by rw[e];exact ht⟩
  ·have e:rdS f (k+1+1)=((rdS f (k+1)).1++[f (k+1)],zER (rdS f (k+1)).2 (f (k+1))):=by rw[rdS,if_neg h]
   exact⟨t++[f (k+1)],by rw[e];show(rdS f (k+1)).1++[f (k+1)]=_;rw[ht];rfl⟩
structure Rnds(ts cs:List Nat)(n:Nat)(RR:List (List Nat)):Prop where
 prog:zLT [rowD (numL ts),rowD (numL cs)]=okR (zD7 RR)
 law:zIB [rowD (numL ts),rowD (numL cs)]=okR (zD7 RR)
 pos:1<=RR.length
 le:RR.length<=4*n
 one:RR.length=1->∃F:List Nat,zH9 [rowD (numL ts),rowD (numL cs),.int 0]=okR (rowD (numL F))/\F.length=4*n/\∀x∈F,x<4*n
theorem zQJ{g:Nat->Nat}:∀(l:List Nat),(∀x∈l,∀y∈l,g x=g y->x=y)->ords (l.map g)=(ords l).map g:=by
 refine zDZ (P:=fun l=>(∀x∈l,∀y∈l,g x=g y->x=y)->ords (l.map g)=(ords l).map g) (fun _=>rfl) (fun l a ih hi=>?_);have ih:=ih fun x hx y hy=>hi x (qB4 _ hx) y (qB4 _ hy)
 rw[qB7,qE4,zEF,zEF,ih];have e:g a∈(ords l).map g↔a∈ords l:=by
  rw[qAd];constructor
  ·rintro⟨b,hb,e⟩
   have hb':=(ords_mem l b).mp hb;rw[<- hi b (qB4 _ hb') a (by simp) e];exact hb
  ·exact fun h=>⟨a,h,rfl⟩
 by_cases h:a∈ords l
 ·rw[if_pos h,if_pos (e.mpr h)]
 ·rw[if_neg h,if_neg fun z=>h (e.mp z),qB7,qE4]
theorem getD_idx{l:List Nat}{c:Nat}(h:c∈l):l.getD (l.idxOf c) 0=c:=by
 have hl:=qAg h;rw[qA0,qA2 hl];exact qDa hl
theorem idx_getD{l:List Nat}(hn:l.Nodup){v:Nat}(h:v<l.length):l.idxOf (l.getD v 0)=v:=by
 rw[qA0,qA2 h];exact hn.idxOf_getElem v h
def rowW(cs:List Nat):List Nat:=cs.map fun c=>(ords cs).idxOf c
structure Wd(n:Nat)(cs:List Nat):Prop where
 tw:Twice n (rowW cs)
 wr:wrd (ords cs) (rowW cs)=cs
 ap:zbV (ords cs) (rowW cs)
 od:ords (rowW cs)=qA6 n
 ol:(ords cs).length=n
 len:cs.length=2*n
theorem zc4{cs ls:List Nat}(hp:cs.Perm (ls++ls))(hn:ls.Nodup):Wd ls.length cs:=by
 have mem:∀x,x∈cs↔x∈ls:=fun x=>by rw[hp.mem_iff,qAw];exact⟨fun h=>h.elim id id,.inl⟩
 have ol:(ords cs).length=ls.length:=qDy
  (zBI _ _ (ords_nodup cs) fun x hx=>(mem x).mp ((ords_mem cs x).mp hx))
  (zBI _ _ hn fun x hx=>(ords_mem cs x).mpr ((mem x).mpr hx))
 have hl:cs.length=2*ls.length:=by rw[hp.length_eq,qAl];omega
 have inj:∀x∈cs,∀y∈cs,(ords cs).idxOf x=(ords cs).idxOf y->x=y:=fun x hx y hy e=>by
  rw[<- getD_idx ((ords_mem cs x).mpr hx),e,getD_idx ((ords_mem cs y).mpr hy)]
 have idl:∀x∈cs,(ords cs).idxOf x<ls.length:=fun x hx=>by rw[<- ol];exact qAg ((ords_mem cs x).mpr hx)
 refine⟨⟨by rw[rowW,qAm,hl],fun v=>?_⟩,?_,?_,?_,ol,hl⟩
 ·by_cases hv:v<ls.length
  ·rw[if_pos hv];have hm:(ords cs).getD v 0∈cs:=(ords_mem cs _).mp (zAF (by omega));rw[<- zKG hp hn hm];unfold rowW;rw[qHk,List.countP_map,qHk];refine List.countP_congr fun c hc=>?_
   simp only[Function.comp,beq_iff_eq];constructor
   ·intro e;rw[<- e,getD_idx ((ords_mem cs c).mpr hc)]
   ·intro e;rw[e,idx_getD (ords_nodup cs) (by omega)]
  ·rw[if_neg hv];refine qBu.mpr fun h=>?_
   obtain⟨c,hc,rfl⟩:=qAd.mp h;exact hv (idl c hc)
 ·unfold wrd rowW;rw[qB3]
  conv=>rhs;rw[<- List.map_id cs]
  exact qAs fun c hc=>getD_idx ((ords_mem cs c).mpr hc)
 ·intro x hx y hy e;obtain⟨c,hc,rfl⟩:=qAd.mp hx;obtain⟨d,hd,rfl⟩:=qAd.mp hy;rw[getD_idx ((ords_mem cs c).mpr hc),getD_idx ((ords_mem cs d).mpr hd)]at e;rw[e]
 ·unfold rowW;rw[zQJ cs inj];refine qBf (by simp[ol]) fun i h1 h2=>?_
  rw[qC0,qC3];exact(ords_nodup cs).idxOf_getElem i (by simpa using h1)
theorem zOT{α β:Type}{l:List α}{f:α->β}(h:l.Nodup)(hi:∀x∈l,∀y∈l,f x=f y->x=y):(l.map f).Nodup:=by
 unfold qHj;rw[qDk];exact qEd (fun{a b} ha hb hab z=>hab (hi a ha b hb z)) h
theorem zWT{g:Nat->Nat}{N:Nat}(hg:∀k,k<N->g k<N)(hi:∀a b,a<N->b<N->g a=g b->a=b){y:Nat}(hy:y<N):∃k,k<N/\g k=y:=by
 refine qE8 fun z=>?_
 have h:=zG1 (a:=y::(qA6 N).map g) (b:=qA6 N) ?_ ?_
 ·simp at h;omega
 ·refine qBb.mpr ⟨fun h=>?_,?_⟩
  ·obtain⟨k,hk,e⟩:=qAd.mp h;exact z ⟨k,by simpa using hk,e⟩
  ·exact zOT qDs (fun a ha b hb e=>hi a b (by simpa using ha) (by simpa using hb) e)
 ·intro x hx
  rcases qAb.mp hx with rfl|hx
  ·simpa using hy
  ·obtain⟨k,hk,rfl⟩:=qAd.mp hx
   simpa using hg k (by simpa using hk)
theorem zN6{e:Nat}{v:Int}:∀(S:List (Nat×Int)),(∀x∈S,∀y∈S,x.1=y.1->x.2=y.2)->(e,v)∈S->∀{N:List Int},e<N.length->(puts S N).getD e 0=v:=by
 refine zDZ (P:=fun S=>(∀x∈S,∀y∈S,x.1=y.1->x.2=y.2)->(e,v)∈S->∀{N:List Int},e<N.length->(puts S N).getD e 0=v) (fun _ h=>by simp at h) fun S a ih hc hm N hN=>?_
 have hl:=zT8 S N;have hs:puts (S++[a]) N=(puts S N).set a.1 a.2:=by unfold puts;rw[qCc];rfl
 rw[hs,qA0]
 by_cases h:a.1=e
 ·have:=hc a (by simp) (e,v) hm h
  rw[h,qAj (by omega),this];rfl
 ·rw[qAq h,<- qA0];refine ih (fun x hx y hy=>hc x (qB4 _ hx) y (qB4 _ hy)) ?_ hN
  rcases qAw.mp hm with z|z
  ·exact z
  ·rw[qAv]at z;exact absurd (by rw[<- z]) h
noncomputable def zN(n:Nat):List Int:=qA9 (4*n) 0
def tsW(n:Nat)(row:List Nat):List Nat:=(qA6 (4*n)).map fun e=>((puts (lawS row row.length) (zN n)).getD e 0).toNat
section
variable{n:Nat}{row:List Nat}(t:Twice n row)
include t
theorem zNH:∀x∈lawS row row.length,∀y∈lawS row row.length,x.1=y.1->x.2=y.2:=fun x hx y hy h=>by
 unfold lawS at hx hy;obtain⟨l1,h1,h2⟩:=qDt.mp hx;obtain⟨l2,h3,h4⟩:=qDt.mp hy;obtain⟨a,ha,rfl⟩:=qAd.mp h1;obtain⟨b,hb,rfl⟩:=qAd.mp h3;have la:a<row.length:=by simpa using ha
 exact zWR (fun a h=>t.le1 h) (qBy _ (by omega)) (qBy _ (by omega)) x h2 y h4 h
theorem zR3{k:Nat}(hk:k<row.length):(inA row k+1,(inA row ((k+1)%row.length):Int))∈lawS row row.length/\(inA row ((k+1)%row.length),((inA row k+1:Nat):Int))∈lawS row row.length:=by
 have e:tieP row ((k+1)%row.length)=[(inA row k+1,(inA row ((k+1)%row.length):Int)),(inA row ((k+1)%row.length),((inA row k+1:Nat):Int))]:=by
  unfold tieP;rw[zJS hk]
 have m:∀x∈tieP row ((k+1)%row.length),x∈lawS row row.length:=fun x hx=>qDt.mpr ⟨_,qAd.mpr ⟨k,by simpa using hk,rfl⟩,hx⟩
 rw[e]at m;exact⟨m _ (by simp),m _ (by simp)⟩
theorem zDE{k:Nat}(hk:k<row.length):inA row k+1<4*n:=by
 have:=t.pos hk
 rw[t.len]at this;omega
theorem zDC{k:Nat}(hk:k<row.length):(puts (lawS row row.length) (zN n)).getD (inA row k+1) 0=(inA row ((k+1)%row.length):Int)/\(puts (lawS row row.length) (zN n)).getD (inA row ((k+1)%row.length)) 0=((inA row k+1:Nat):Int):=by
 obtain⟨h1,h2⟩:=zR3 t hk;have l1:=zDE t hk;have l2:=zDE t (qBy (k+1) (show 0<row.length by omega));exact⟨zN6 _ (zNH t) h1 (by simp[zN];omega),zN6 _ (zNH t) h2 (by simp[zN];omega)⟩
theorem zHD{e:Nat}(he:e<4*n):∃k,k<row.length/\(e=inA row k+1\/e=inA row ((k+1)%row.length)):=by
 have hl:=t.len;have ev:∀k,inA row k%2=0:=fun k=>by unfold inA;omega
 obtain⟨k,hk,e1⟩:=zWT (g:=fun k=>inA row k/2) (N:=2*n) (fun k hk=>by have:=zDE t (k:=k) (by omega);show inA row k/2<2*n;omega) (fun a b ha hb h=>by
  have h1:=ev a;have h2:=ev b;have h:inA row a/2=inA row b/2:=h;exact zLV (fun a h=>t.le1 h) (by omega) (by omega) (by omega)) (y:=e/2) (by omega)
 have h1:=ev k;have e1:inA row k/2=e/2:=e1
 by_cases h:e%2=1
 ·exact⟨k,by omega,.inl (by omega)⟩
 ·have hm:(k+row.length-1)%row.length<row.length:=qBy _ (by omega);refine⟨(k+row.length-1)%row.length,hm,.inr ?_⟩
  have:((k+row.length-1)%row.length+1)%row.length=k:=by
   by_cases z:k=0
   ·subst z;rw[show 0+row.length-1=row.length-1 by omega,qB0 (show row.length-1<row.length by omega),show row.length-1+1=row.length by omega,qGa]
   ·rw[show k+row.length-1=(k-1)+row.length by omega,qCs,qB0 (show k-1<row.length by omega),show k-1+1=k by omega,qB0 (by omega)]
  rw[this];omega
theorem zH3{e:Nat}(he:e<4*n):(puts (lawS row row.length) (zN n)).getD e 0=(nt (tsW n row) e:Int)/\nt (tsW n row) e<4*n:=by
 have hv:∃v:Nat,(puts (lawS row row.length) (zN n)).getD e 0=(v:Int)/\v<4*n:=by
  obtain⟨k,hk,rfl|rfl⟩:=zHD t he
  ·exact⟨_,(zDC t hk).1,by have:=zDE t (qBy (k+1) (show 0<row.length by omega));omega⟩
  ·exact⟨_,(zDC t hk).2,zDE t hk⟩
 obtain⟨v,h1,h2⟩:=hv
 have:nt (tsW n row) e=v:=by
  unfold nt tsW;rw[qA0,qAh,qFp he]
  show((puts (lawS row row.length) (zN n)).getD e 0).toNat=v
  rw[h1];rfl
 rw[this];exact⟨h1,h2⟩
theorem zV3:NetN (tsW n row) (4*n)/\∀x,x<4*n->nt (tsW n row) x≠x:=by
 have ev:∀k,inA row k%2=0:=fun k=>by unfold inA;omega
 have v1:∀{k},k<row.length->nt (tsW n row) (inA row k+1)=inA row ((k+1)%row.length):=fun{k} hk=>by
  have h1:=(zH3 t (zDE t hk)).1;rw[(zDC t hk).1]at h1;omega
 have v2:∀{k},k<row.length->nt (tsW n row) (inA row ((k+1)%row.length))=inA row k+1:=fun{k} hk=>by
  have l2:=zDE t (qBy (k+1) (show 0<row.length by omega));have h1:=(zH3 t (e:=inA row ((k+1)%row.length)) (by omega)).1;rw[(zDC t hk).2]at h1;omega
 refine⟨⟨by simp[tsW],fun e he=>(zH3 t he).2,fun e he=>?_⟩,fun e he=>?_⟩
 ·obtain⟨k,hk,rfl|rfl⟩:=zHD t he
  ·rw[v1 hk,v2 hk]
  ·rw[v2 hk,v1 hk]
 ·obtain⟨k,hk,rfl|rfl⟩:=zHD t he
  ·rw[v1 hk];have:=ev ((k+1)%row.length);have:=ev k;omega
  ·rw[v2 hk];have:=ev ((k+1)%row.length);have:=ev k;omega
end
end Mp
namespace Mp
open Mi PySem
noncomputable def btw(cs:List Nat)(x:Nat):List Nat:=(cs.drop (cs.idxOf x+1)).take ((cs.drop (cs.idxOf x+1)).idxOf x)
theorem zO2{A B C:List Nat}{x:Nat}(hA:x∉A)(hB:x∉B):btw (A++x::(B++x::C)) x=B:=by
 unfold btw;have e:A++x::(B++x::C)=(A++[x])++(B++x::C):=by simp
 have l:(A++[x]).length=A.length+1:=by simp
 rw[zNO hA,<- l,e,qDz,zNO hB,qCe]
 ·rfl
 ·rfl
def crs(cs:List Nat)(x y:Nat):Int:=if(btw cs x).count y=1 then 1 else 0
theorem zNW{cs:List Nat}{x:Nat}(h:cs.count x=2):crs cs x x=0:=by
 obtain⟨A,B,C,rfl,hA,hB,hC⟩:=zDJ h;unfold crs;rw[zO2 hA hB,qBu.mpr hB];rfl
theorem zS5(cs:List Nat)(y:Nat):countD (.str ⟨cs.toArray⟩) [sgn y]=some (.int (cs.count y:Nat)):=rfl
theorem zM8{cs:List Nat}{x y:Nat}(hz:cs.length<=100)(hx:cs.count x=2):zDN [.str ⟨cs.toArray⟩,sgn x,sgn y]=okR (.bl (decide ((btw cs x).count y=1))):=by
 obtain⟨A,B,C,rfl,hA,hB,hC⟩:=zDJ hx;rw[zO2 hA hB];have p:=zQB (B:=B) hA hC;obtain⟨c1,c2,c3⟩:=cuts (A:=A) (B:=B) (C:=C) (x:=x);have hl:(A++x::(B++x::C)).length=A.length+1+B.length+1+C.length:=by simp;omega
 have e1:((A.length:Int)+1)=((A.length+1:Nat):Int):=by omega
 have s2:=zZI (a:=A++x::(B++x::C)) (some ((A.length+1:Nat):Int)) (some ((A.length+1+B.length:Nat):Int)) (by omega);rw[zYO _ (by omega) (by omega),show A.length+1+B.length-(A.length+1)=B.length by omega,c2,<- e1]at s2;have cn:=zS5 B y
 generalize((A.length+1+B.length:Nat):Int)=b at *
 generalize(A.length:Int)=a at *
 generalize A++x::(B++x::C)=cs at *
 have i0:ixD (.tup [.int a,.int b]) (.int 0)=some (.int a):=by rw[zWQ];exact zDW (j:=0) rfl rfl
 have i1:ixD (.tup [.int a,.int b]) (.int 1)=some (.int b):=by rw[zWQ];exact zDW (j:=1) rfl rfl
 have hd:(decide ((B.count y:Int)=1))=decide (B.count y=1):=decide_eq_decide.mpr (by omega);have key:zEX [some (.str ⟨cs.toArray⟩,0),some (sgn x,0),some (sgn y,0),none]=okR (.rt (.bl (decide (B.count y=1)))):=by
  unfold zEX;refine zD1 fun bb hb=>?_
  refine zAS (r:=[some (.str ⟨cs.toArray⟩,0),some (sgn x,0),some (sgn y,0),some (.tup [.int a,.int b],1)]) (by simp[p]) ?_;subst hb;simp[zRJ,zb4,i0,i1,s2,cn,-zc6,-zWQ];omega
 exact zBN rfl key
def crsT(cs sl:List Nat):Nat->Nat->Int:=fun i j=>crs cs (sl.getD i 0) (sl.getD j 0)
theorem zNX(cs sl:List Nat):Dt.lst (sl.map fun x=>Dt.lst (sl.map fun y=>Dt.int (crs cs x y)))=mat (tab sl.length (crsT cs sl)):=by
 have g:∀(h:Nat->Dt),sl.map h=(qA6 sl.length).map fun i=>h (sl.getD i 0):=fun h=>by
  apply qBf
  ·simp
  ·intro i h1 h2;have hi:i<sl.length:=by simpa using h1
   simp[qA0,qA2 hi]
 unfold mat tab;rw[g,qB3]
 congr 1
 refine qAs fun i _=>?_
 show Dt.lst (sl.map fun y=>Dt.int (crs cs (sl.getD i 0) y))=rowD ((qA6 sl.length).map fun j=>crsT cs sl i j);unfold rowD;rw[g,qB3];rfl
theorem zG7{cs:List Nat}(h0:0<cs.length)(h1:cs.length<=60):zB2 [.str ⟨cs.toArray⟩]=okR (.str ⟨(sosL cs).toArray⟩):=by
 have hso:sosD [.str ⟨cs.toArray⟩]=some (.lst ((sosL cs).map sgn)):=by
  show(@ite _ (0<(⟨cs.toArray⟩:Str).length/\(⟨cs.toArray⟩:Str).length<=60) (qA4 _) (some (Dt.lst ((sosL cs.toArray.toList).map fun c=>Dt.str ⟨#[c]⟩))) none)=_
  rw[if_pos ⟨by show 0<cs.toArray.size;simpa using h0,by show cs.toArray.size<=60;simpa using h1⟩];rfl
 have hsl:(sosL cs).length<=100000:=by
  have h2:(sosL cs).length=(ded cs).length:=(qCw _ _).length_eq;have h3:∀l:List Nat,(ded l).length<=l.length:=by
   intro l
   induction l with
   |nil=>exact qA7 _
   |cons a r ih=>
    unfold ded
    split
    ·simp only[qAu];omega
    ·simp only[qAu];omega
  have h4:=h3 cs;omega
 have hj:=zU0 (sosL cs) hsl;unfold zB2 zF7;exact zBN rfl (by simp[hso,hj])
theorem zH0{cs:List Nat}(h0:0<cs.length)(hz:cs.length<=60)(h2:∀x∈cs,cs.count x=2)(hs:(sosL cs).length<=10):zE4 [.str ⟨cs.toArray⟩]=okR (mat (tab (sosL cs).length (crsT cs (sosL cs)))):=by
 have lp:=zG7 h0 hz;have hm:=fun x=>sos_mem x cs
 rw[<- zNX];have hd:(Dt.lst ((sosL cs).map fun x=>Dt.lst ((sosL cs).map fun y=>Dt.int (crs cs x y)))).dep<=2:=by rw[zNX];exact zIM _
 generalize sosL cs=sl at *
 have hc:eComp (iSq (eV 1)) 1 (.one 2) Mi.tYes (eComp (iSq (eV 1)) 1 (.one 3) Mi.tYes (eIf (tM (eCallN zDN (aCons (eV 0) (aCons (eV 2) (aCons (eV 3) aNil))))) (eC (.int 1)) (eC (.int 0)))) [some (.str ⟨cs.toArray⟩),some (.str ⟨sl.toArray⟩)]=okR (.lst (sl.map fun x=>Dt.lst (sl.map fun y=>Dt.int (crs cs x y)))):=by
  refine zBD (ρ:=[some (.str ⟨cs.toArray⟩),some (.str ⟨sl.toArray⟩)]) sgn (fun x=>Dt.lst (sl.map fun y=>Dt.int (crs cs x y))) sl rfl rfl (fun x hx=>?_) (iSq (eV 1)) rfl (by omega);refine zBD (ρ:=[some (.str ⟨cs.toArray⟩),some (.str ⟨sl.toArray⟩)]++[some (sgn x)]) sgn (fun y=>Dt.int (crs cs x y)) sl rfl rfl (fun y hy=>?_) (iSq (eV 1)) rfl (by omega)
  have:=zM8 (cs:=cs) (x:=x) (y:=y) (by omega) (h2 x ((hm x).mp hx))
  unfold crs
  by_cases h:(btw cs x).count y=1
  ·rw[decide_eq_true h]at this;simp[this,h]
  ·rw[decide_eq_false h]at this;simp[this,h]
 generalize Dt.lst (sl.map fun x=>Dt.lst (sl.map fun y=>Dt.int (crs cs x y)))=V at *
 have key:zE8 [some (.str ⟨cs.toArray⟩,0),none]=okR (.rt V):=by
  unfold zE8;refine zD1 fun bb hb=>?_
  refine zAS (r:=[some (.str ⟨cs.toArray⟩,0),some (.str ⟨sl.toArray⟩,0)]) (by simp[lp]) ?_;subst hb;simp[hc,hd]
 exact zBN rfl key
theorem zYD(a c:Nat):Dt.eq (sgn a) (sgn c)=decide (a=c):=by
 have:(({ cps:=#[a] }:Str)={ cps:=#[c] })↔a=c:=by
  constructor
  ·intro h
   have:=congrArg (fun s:Str=>s.cps.toList) h
   simpa using this
  ·rintro rfl;rfl
 show Dt.eq (.str _) (.str _)=_;rw[Dt.eq,qD4,beq_iff_eq,decide_eq_true_iff];exact this
theorem zNG(c:Nat):∀l:List Nat,c∈l->(l.map sgn).findIdx? (fun y=>Dt.eq y (sgn c))=some (l.idxOf c)
 |a::l,h=>by
  rw[qAi,qD7,zYD,qCq]
  by_cases e:a=c
  ·subst e;simp
  ·have hm:c∈l:=by
    rcases qAb.mp h with z|z
    ·exact absurd z.symm e
    ·exact z
   have hb:(a==c)=false:=by simpa using e
   rw[zNG c l hm];simp[e,hb]
 |[],h=>by simp at h
theorem zXQ{c:Nat}{l:List Nat}(h:c∈l):lifD (l.map sgn) [sgn c]=some (.int (l.idxOf c:Nat)):=by
 show(if(sgn c).dep=0/\Dt.depL (l.map sgn)=0 then((l.map sgn).findIdx? fun y=>Dt.eq y (sgn c)).map fun j=>Dt.int (j:Int)else none)=_
 rw[if_pos ⟨rfl,zY8 (zNQ l)⟩,zNG c l h];rfl
theorem zRQ{r:Ro}{i k:Nat}{e1 e2:EM}{a b:Int}{kvs:Kv}(h:r[i]?=some (some (.dct kvs,k+1)))(h2:e2 (full r)=okR (.int b))(h1:e1 (full r)=okR (.int a))(hz:kvs.length<=10000) :
  sDput i e1 e2 r=okR (.nx (r.set i (some (.dct (putW kvs (.inl a) (.int b)),k+1)))):=by
 unfold sDput;rw[h2,zA0,h];dsimp only;rw[h1,zA0];exact if_pos (by omega)
theorem zGF{c:Nat}{cs:List Nat}(h:c∈cs):indexD (.str ⟨cs.toArray⟩) [sgn c]=some (.int (cs.idxOf c:Nat)):=by
 unfold indexD sgn;simp[zFD h]
theorem zQK(cs:List Nat):((fsts cs).map fun k=>cs.getD k 0)=ords cs:=(zON cs).symm
theorem zM0(cs:List Nat)(hz:cs.length<=1000):zCW [.str ⟨cs.toArray⟩]=okR (.lst ((ords cs).map sgn)):=by
 have hc:eComp (iEnX (aCons (eV 0) aNil)) 2 (.tup [1,2]) (tB (eB eqD (eMt indexD (eV 0) (aCons (eV 2) aNil)) (eV 1))) (eV 2) [some (.str ⟨cs.toArray⟩)]=okR (.lst (((fsts cs).map fun k=>cs.getD k 0).map sgn)):=by
  have:=zMC (ρ:=[some (.str ⟨cs.toArray⟩)]) (c:=tB (eB eqD (eMt indexD (eV 0) (aCons (eV 2) aNil)) (eV 1))) (e:=eV 2) (i:=1) (j:=2) (cs.map sgn) (fun k=>sgn (cs.getD k 0)) (fun k=>decide (cs.idxOf (cs.getD k 0)=k)) rfl rfl (iEnX (aCons (eV 0) aNil)) rfl (by simp;omega) (fun k x hx=>?_) (fun k x hx=>?_)
  ·rw[this];unfold fsts;rw[qB3,qAm];rfl
  ·obtain⟨hk,e⟩:=qA5.mp hx;have hk:k<cs.length:=by simpa using hk
   have ex:x=sgn (cs.getD k 0):=by rw[<- e,qC0,qA0,qA2 hk];rfl
   subst ex;refine eqi (mt1 rfl rfl rfl (zGF (zF2 hk))) rfl ?_;exact decide_eq_decide.mpr ⟨fun h=>by omega,fun h=>by omega⟩
  ·obtain⟨hk,e⟩:=qA5.mp hx;have hk:k<cs.length:=by simpa using hk
   have ex:x=sgn (cs.getD k 0):=by rw[<- e,qC0,qA0,qA2 hk];rfl
   subst ex;rfl
 rw[zQK]at hc;refine zBN rfl (rt1 hc hc)
noncomputable def cbW(c ls O:List Nat):List Nat:=O.map fun x=>c.getD (ls.idxOf x) 0
def kvA(c:List Nat)(p s:Nat):Kv:=(qA6 (4*p+s)).foldl (fun(m:Kv)(e:Nat)=>putW m (.inl (e:Int)) (.int (jn c e:Int))) []
theorem zTY(c:List Nat)(p s:Nat):kvA c p (s+1)=putW (kvA c p s) (.inl ((4*p+s:Nat):Int)) (.int (jn c (4*p+s):Int)):=by
 unfold kvA;rw[show 4*p+(s+1)=(4*p+s)+1 by omega,qBq,qCc];rfl
theorem zXS(c:List Nat)(p:Nat):∀s,(kvA c p s).length<=4*p+s:=fun s=>by
 unfold kvA
 generalize 4*p+s=k
 induction k with
 |zero=>exact qA7 0
 |succ k ih=>
  rw[qBq,qCc]
  have:=zFC ((qA6 k).foldl (fun(m:Kv)(e:Nat)=>putW m (.inl (e:Int)) (.int (jn c e:Int))) []) (.inl (k:Int)) (.int (jn c k:Int))
  show(putW _ _ _).length<=_
  omega
theorem zXT(c:List Nat){e k:Nat}(h:e<k):getW ((qA6 k).foldl (fun(m:Kv)(e:Nat)=>putW m (.inl (e:Int)) (.int (jn c e:Int))) []) (.inl (e:Int))=some (.int (jn c e:Int)):=by
 induction k with
 |zero=>omega
 |succ k ih=>
  rw[qBq,qCc];show getW (putW _ (.inl (k:Int)) _) _=_;rw[zIH]
  by_cases z:e=k
  ·subst z;rw[if_pos rfl]
  ·rw[if_neg fun y=>z (by injection y with y;omega)];exact ih (by omega)
def kvL(S:List (Nat×Int)):Kv:=S.foldl (fun(m:Kv) q=>putW m (.inl (q.1:Int)) (.int q.2)) []
theorem zIE(S:List (Nat×Int))(q:Nat×Int):kvL (S++[q])=putW (kvL S) (.inl (q.1:Int)) (.int q.2):=by unfold kvL;rw[qCc];rfl
theorem zXR:∀S:List (Nat×Int),(kvL S).length<=S.length:=by
 refine zDZ (qA7 0) fun S q ih=>?_
 rw[zIE,qAl]
 have:=zFC (kvL S) (.inl (q.1:Int)) (.int q.2)
 simp;omega
theorem zR4{e:Nat}{v:Int}:∀(S:List (Nat×Int)),(∀x∈S,∀y∈S,x.1=y.1->x.2=y.2)->(e,v)∈S->getW (kvL S) (.inl (e:Int))=some (.int v):=by
 refine zDZ (P:=fun S=>(∀x∈S,∀y∈S,x.1=y.1->x.2=y.2)->(e,v)∈S->getW (kvL S) (.inl (e:Int))=some (.int v)) (fun _ h=>by simp at h) fun S a ih hc hm=>?_
 rw[zIE,zIH]
 by_cases h:a.1=e
 ·have:=hc a (by simp) (e,v) hm h
  rw[if_pos (by rw[h]),this]
 ·rw[if_neg fun y=>h (by injection y with y;omega)];refine ih (fun x hx y hy=>hc x (qB4 _ hx) y (qB4 _ hy)) ?_
  rcases qAw.mp hm with z|z
  ·exact z
  ·rw[qAv]at z;exact absurd (by rw[<- z]) h
theorem zSH{n:Nat}{row:List Nat}(t:Twice n row){e:Nat}(he:e<4*n):getW (kvL (lawS row row.length)) (.inl (e:Int))=some (.int (nt (tsW n row) e:Int)):=by
 rw[<- (zH3 t he).1];obtain⟨k,hk,rfl|rfl⟩:=zHD t he
 ·rw[(zDC t hk).1];exact zR4 _ (zNH t) (zR3 t hk).1
 ·rw[(zDC t hk).2];exact zR4 _ (zNH t) (zR3 t hk).2
theorem jn4(c:List Nat){p s:Nat}(hs:s<4):jn c (4*p+s)=4*p+(s^^^(c.getD p 0+1)):=by
 unfold jn;rw[show(4*p+s)/4=p by omega,show(4*p+s)%4=s by omega];omega
noncomputable def JS:Dt:=.lst [.lst [.int 1,.int 0,.int 3,.int 2],.lst [.int 2,.int 3,.int 0,.int 1],.lst [.int 3,.int 2,.int 1,.int 0]]
noncomputable def JR(w:Nat):Dt:=.lst ((qA6 4).map fun s:Nat=>Dt.int ((s^^^(w+1):Nat):Int))
theorem zcR{w:Nat}(h:w<3):ixD JS (.int (w:Int))=some (JR w):=by
 have:w=0\/w=1\/w=2:=by omega
 rcases this with rfl|rfl|rfl<;>rfl
theorem zcS(w:Nat){s:Nat}(h:s<4):ixD (JR w) (.int (s:Int))=some (.int ((s^^^(w+1):Nat):Int)):=by
 have:s=0\/s=1\/s=2\/s=3:=by omega
 rcases this with rfl|rfl|rfl|rfl<;>rfl
theorem app1{r:Ro}{i n k:Nat}{e:EM}{ds:List Dt}{d:Dt}(h:r[i]?=some (some (.lst ds,k+1)))(he:e (full r)=okR d)(hl:ds.length<=100000)(hd:d.dep=0):sApp i n e r=okR (.nx (r.set i (some (.lst (ds++[d]),k+1)))):=by
 unfold sApp;rw[h];dsimp only;rw[he,zA0];exact if_pos ⟨hl,by omega,by omega⟩
theorem ml1{f:List Dt->List Dt->Option Dt}{a e:EM}{ρ:Rh}{ds:List Dt}{y d:Dt}(h1:a ρ=okR (.lst ds))(h2:e ρ=okR y)(h:f ds [y]=some d):eMl f a (aCons e aNil) ρ=okR d:=by
 unfold eMl;rw[h1,zA0];dsimp only;rw[zD5,h2,zA0,zFK,zA0,zA0,h];rfl
theorem zSZ{n:Nat}{cs:List Nat}(w:Wd n cs){k:Nat}(hk:k<cs.length):(rowW cs).getD k 0=(ords cs).idxOf (cs.getD k 0):=by
 unfold rowW;rw[qA0,qAh,qA0,qA2 hk];rfl
theorem zRF{v n:Nat}(h:v<n):(qA6 n).idxOf v=v:=by
 have:=qDs.idxOf_getElem v (by simpa using h:v<(qA6 n).length)
 rwa [qC3]at this
theorem zVW:∀(l:List Nat)(k:Nat),k<l.length->l.idxOf (l.getD k 0)<=k
 |a::l,0,_=>by simp
 |a::l,k+1,h=>by
  have ih:=zVW l k (by simpa using h);rw[qCq]
  show(bif a==l.getD k 0 then 0 else l.idxOf (l.getD k 0)+1)<=k+1
  cases a==l.getD k 0
  ·exact qGe ih
  ·exact qAk _
theorem zKB{n:Nat}{cs:List Nat}(w:Wd n cs){k:Nat}(hk:k<cs.length):inA (rowW cs) k=4*(ords cs).idxOf (cs.getD k 0)+2*(if cs.idxOf (cs.getD k 0)<k then 1 else 0):=by
 have hl:(rowW cs).length=cs.length:=by simp[rowW]
 have hkr:k<(rowW cs).length:=by omega
 have hm:=w.tw.mem ((rowW cs).getD k 0);have hlt:=hm.mp (zF2 hkr);unfold inA;rw[w.od,zRF hlt];have e1:cs.idxOf (cs.getD k 0)=(rowW cs).idxOf ((rowW cs).getD k 0):=by
  have:=zWM w.ap hkr
  rw[w.wr]at this;exact this
 have f1:=zM1 hkr;have le:=w.tw.le1 hkr;have hle:=zVW (rowW cs) k hkr;rw[<- zSZ w hk];rw[e1]
 split
 ·rename_i h
  have:(qHk ((rowW cs).getD k 0) (qI4 k (rowW cs)))≠0:=fun z=>by have:=f1.mpr z;omega
  omega
 ·rename_i h
  have:(rowW cs).idxOf ((rowW cs).getD k 0)=k:=by omega
  rw[f1.mp this]
theorem zMF(c ls O:List Nat){k:Nat}(h:k<O.length):(cbW c ls O).getD k 0=c.getD (ls.idxOf (O.getD k 0)) 0:=by
 unfold cbW;rw[qA0,qAh,qA0 (l:=O),qA2 h];rfl
theorem zbR{c ls O:List Nat}{n:Nat}(hw:∀x∈c,x<3)(hc:c.length=n)(hl:ls.length=n)(hO:∀x∈O,x∈ls):∀x∈cbW c ls O,x<3:=fun x hx=>by
 obtain⟨y,hy,rfl⟩:=qAd.mp hx;exact zE6 hw (by rw[hc,<- hl];exact qAg (hO y hy))
theorem zLX{l:List Nat}{k:Nat}{x:Dt}(h:(l.map sgn)[k]?=some x):k<l.length/\x=sgn (l.getD k 0):=by
 obtain⟨hk,e⟩:=qA5.mp h;have hk:k<l.length:=by simpa using hk
 exact⟨hk,by rw[<- e,qC0,qA0,qA2 hk];rfl⟩
abbrev stA(W C L F:Dt)(l4:Nat)(kv:Kv)(o6 o7 o8 o9:Option Sl):Ro:=[some (W,0),some (C,0),some (L,0),some (F,0),some (JS,l4),some (.dct kv,1),o6,o7,o8,o9,none,none,none,none]
abbrev stB(W C L F:Dt)(l4:Nat)(kv:Kv)(o6 o7 o8 o9:Option Sl)(es:List Nat)(l10:Nat)(o11 o12 o13:Option Sl):Ro:=[some (W,0),some (C,0),some (L,0),some (F,0),some (JS,l4),some (.dct kv,1),o6,o7,o8,o9,some (rowD (numL es),l10+1),o11,o12,o13]
theorem zSV(l:List Nat):(Dt.lst (l.map sgn)).dep<=1:=by
 have:∀l:List Nat,Dt.depL (l.map sgn)=0:=fun l=>by
  induction l with
  |nil=>rfl
  |cons a l ih=>rw[qAi,Dt.depL,ih];rfl
 rw[Dt.dep,this];exact qA7 1
theorem zTK(l:List Nat)(x:Nat):numL (l++[x])=numL l++[(x:Int)]:=by simp[numL]
theorem zK8(row:List Nat)(k:Nat):lawS row (k+1)=lawS row k++tieP row ((k+1)%row.length):=by
 unfold lawS;rw[qBq,qB7,qFq];simp
theorem zMK{n:Nat}{cs c:List Nat}(w:Wd n cs)(hn:n<=10)(hc:c.length=n)(hw:∀x∈c,x<3)(hsl:(sosL cs).length=n) :
  nxR (forGo (.tup [6,7]) (sSeq (sSet 8 0 [4,1,7,2] (eB ixD (eV 4) (eB ixD (eV 1) (eMt indexD (eV 2) (aCons (eV 7) aNil)))))
   (sForR (iR1 (aCons (eC (.int 4)) aNil)) 9 (sDput 5 (eB addD (eB mulD (eC (.int 4)) (eV 6)) (eV 9)) (eB addD (eB mulD (eC (.int 4)) (eV 6)) (eB ixD (eV 8) (eV 9)))))) (enumD 0 ((ords cs).map sgn))
   (stA (.str ⟨cs.toArray⟩) (rowD (numL c)) (.str ⟨(sosL cs).toArray⟩) (.lst ((ords cs).map sgn)) 2 [] none none none none))
   fun r=>∃l4 o6 o7 o8 o9,r=stA (.str ⟨cs.toArray⟩) (rowD (numL c)) (.str ⟨(sosL cs).toArray⟩) (.lst ((ords cs).map sgn)) l4 (kvA (cbW c (sosL cs) (ords cs)) n 0) o6 o7 o8 o9:=by
 have memO:∀x∈ords cs,x∈sosL cs:=fun x hx=>(sos_mem x cs).mpr ((ords_mem cs x).mp hx)
 refine zQR ((ords cs).map sgn) (fun q r=>∃l4 o6 o7 o8 o9,r=stA (.str ⟨cs.toArray⟩) (rowD (numL c)) (.str ⟨(sosL cs).toArray⟩) (.lst ((ords cs).map sgn)) l4 (kvA (cbW c (sosL cs) (ords cs)) q 0) o6 o7 o8 o9) ⟨2,none,none,none,none,rfl⟩ (fun k x hx r hr=>?_) fun r hr=>by rw[qAm,w.ol]at hr;exact hr
 obtain⟨l4,o6,o7,o8,o9,rfl⟩:=hr;obtain⟨hk,rfl⟩:=zLX hx;have hkn:k<n:=by rw[<- w.ol];exact hk
 have hm:=memO _ (zAF (d:=0) hk);have hi:(sosL cs).idxOf ((ords cs).getD k 0)<c.length:=by rw[hc,<- hsl];exact qAg hm
 have h3:c.getD ((sosL cs).idxOf ((ords cs).getD k 0)) 0<3:=zE6 hw hi;have hcb:=zMF c (sosL cs) (ords cs) hk
 generalize cbW c (sosL cs) (ords cs)=C' at hcb ⊢
 have hix:=zGF hm;have hnu:=zXY c _ hi;have hjs:=zcR h3;rw[<- hcb]at hnu hjs;have m4:mulD (.int 4) (.int (k:Int))=some (.int (4*(k:Int))):=zI9 (by decide) (by decide);have inner:∀l4 o9,nxR (sForR (iR1 (aCons (eC (.int 4)) aNil)) 9 (sDput 5 (eB addD (eB mulD (eC (.int 4)) (eV 6)) (eV 9)) (eB addD (eB mulD (eC (.int 4)) (eV 6)) (eB ixD (eV 8) (eV 9))))
   (stA (.str ⟨cs.toArray⟩) (rowD (numL c)) (.str ⟨(sosL cs).toArray⟩) (.lst ((ords cs).map sgn)) l4 (kvA C' k 0) (some (.int (k:Int),0)) (some (sgn ((ords cs).getD k 0),0)) (some (JR (C'.getD k 0),0)) o9))
   fun r=>∃l4 o6 o7 o8 o9,r=stA (.str ⟨cs.toArray⟩) (rowD (numL c)) (.str ⟨(sosL cs).toArray⟩) (.lst ((ords cs).map sgn)) l4 (kvA C' (k+1) 0) o6 o7 o8 o9:=fun l4 o9=>by
  rw[zCQ,zE9 (n:=4) (al0 rfl) (by omega),zA0];refine zK1 (fun s r=>∃o9,r=stA (.str ⟨cs.toArray⟩) (rowD (numL c)) (.str ⟨(sosL cs).toArray⟩) (.lst ((ords cs).map sgn)) l4 (kvA C' k s) (some (.int (k:Int),0)) (some (sgn ((ords cs).getD k 0),0)) (some (JR (C'.getD k 0),0)) o9) ⟨o9,rfl⟩ (fun s hs r hr=>?_) fun r hr=>?_
  ·obtain⟨o9,rfl⟩:=hr;have hl:=zXS C' k s;refine zAS (zRQ (k:=0) (a:=((4*k+s:Nat):Int)) (b:=(jn C' (4*k+s):Int)) rfl (b2 (b2 rfl rfl m4) (b2 rfl rfl (zcS _ hs)) (adi (by rw[jn4 C' hs];omega))) (b2 (b2 rfl rfl m4) rfl (adi (by omega))) (by omega)) ⟨some (.int (s:Int),0),?_⟩;rw[zTY];rfl
  ·obtain⟨o9,rfl⟩:=hr;exact⟨l4,_,_,_,o9,by rw[show kvA C' k 4=kvA C' (k+1) 0 by unfold kvA;rw[show 4*k+4=4*(k+1)+0 by omega]]⟩
 refine zD0 fun bb hb=>?_
 have he:∀ρ:Rh,ρ[4]?=some (some JS)->ρ[1]?=some (some (rowD (numL c)))->ρ[2]?=some (some (.str ⟨(sosL cs).toArray⟩))->ρ[7]?=some (some (sgn ((ords cs).getD k 0)))->eB ixD (eV 4) (eB ixD (eV 1) (eMt indexD (eV 2) (aCons (eV 7) aNil))) ρ=okR (JR (C'.getD k 0)):=fun ρ a4 a1 a2 a7=>b2 (v1 a4) (b2 (v1 a1) (mt1 (v1 a2) rfl (v1 a7) hix) hnu) hjs
 subst hb;exact zFS (he _ rfl rfl rfl rfl) (he _ rfl rfl rfl rfl) (inner _ _) (inner _ _)
theorem zOI(l:List Nat)(x:Nat):rowD (numL (l++[x]))=.lst ((numL l).map Dt.int++[.int (x:Int)]):=by
 unfold rowD;rw[zTK,qB7];rfl
theorem zRM{n:Nat}{cs:List Nat}(w:Wd n cs)(hn:n<=10){C L:Dt}{l4:Nat}{kv:Kv}{o6 o7 o8 o9:Option Sl} :
  nxR (forGo (.tup [11,7]) (sApp 10 1 (eB addD (eB mulD (eC (.int 4)) (eMl lifD (eV 3) (aCons (eV 7) aNil))) (eB mulD (eC (.int 2)) (eBi intD (aCons (eB (cmpD fun i j=>decide (i<j)) (eMt indexD (eV 0) (aCons (eV 7) aNil)) (eV 11)) aNil))))) (enumD 0 (cs.map sgn))
   (stB (.str ⟨cs.toArray⟩) C L (.lst ((ords cs).map sgn)) l4 kv o6 o7 o8 o9 [] 8 none none none))
   fun r=>∃o7 o11,r=stB (.str ⟨cs.toArray⟩) C L (.lst ((ords cs).map sgn)) l4 kv o6 o7 o8 o9 ((qA6 cs.length).map (inA (rowW cs))) 8 o11 none none:=by
 refine zQR (cs.map sgn) (fun q r=>∃o7 o11,r=stB (.str ⟨cs.toArray⟩) C L (.lst ((ords cs).map sgn)) l4 kv o6 o7 o8 o9 ((qA6 q).map (inA (rowW cs))) 8 o11 none none) ⟨o7,none,rfl⟩ (fun k x hx r hr=>?_) fun r hr=>by rw[qAm]at hr;exact hr
 obtain⟨o7,o11,rfl⟩:=hr;obtain⟨hk,rfl⟩:=zLX hx;have hl:=w.len;have hmc:=zF2 hk;have h1:=zXQ ((ords_mem cs _).mpr hmc);have h2:=zGF hmc;have m4:mulD (.int 4) (.int ((ords cs).idxOf (cs.getD k 0):Nat))=some (.int (4*((ords cs).idxOf (cs.getD k 0):Nat))):=zI9 (by decide) (by decide);have m2:mulD (.int 2) (.int (if cs.idxOf (cs.getD k 0)<k then 1 else 0))=some (.int (2*(if cs.idxOf (cs.getD k 0)<k then 1 else 0))):=zI9 (by decide) (by decide);have hin:intD [.bl (decide (((cs.idxOf (cs.getD k 0):Nat):Int)<(k:Int)))]=some (.int (if cs.idxOf (cs.getD k 0)<k then 1 else 0)):=by
  by_cases z:cs.idxOf (cs.getD k 0)<k
  ·rw[if_pos z,decide_eq_true (by omega)];rfl
  ·rw[if_neg z,decide_eq_false (by omega)];rfl
 have hv:=zKB w hk;refine zAS (app1 (k:=8) (ds:=(numL ((qA6 k).map (inA (rowW cs)))).map Dt.int) (d:=.int (inA (rowW cs) k:Int)) rfl (b2 (b2 rfl (ml1 rfl rfl h1) m4) (b2 rfl (bi1 (b2 (mt1 rfl rfl rfl h2) rfl rfl) hin) m2) (adi (by rw[hv];split<;>omega))) (by simp[numL];omega) rfl) ⟨some (sgn (cs.getD k 0),0),some (.int (k:Int),0),?_⟩;rw[qBq,qB7,qE4];show _=[_,_,_,_,_,_,_,_,_,_,some (rowD (numL ((qA6 k).map (inA (rowW cs))++[inA (rowW cs) k])),8+1),_,_,_]
 rw[zOI];rfl
theorem zPC{n:Nat}{cs:List Nat}(w:Wd n cs)(n1:1<=n)(hn:n<=10){C L F:Dt}{l4 l10:Nat}{kv:Kv}{o6 o7 o8 o9 o11:Option Sl} :
  nxR (forGo (.one 11) (sSeq (sSet 13 0 [10,11,0] (eB ixD (eV 10) (eB modD (eB addD (eV 11) (eC (.int 1))) (eBi lenD (aCons (eV 0) aNil)))))
   (sSeq (sDput 12 (eB addD (eB ixD (eV 10) (eV 11)) (eC (.int 1))) (eV 13)) (sDput 12 (eV 13) (eB addD (eB ixD (eV 10) (eV 11)) (eC (.int 1)))))) (nums 0 cs.length)
   (stB (.str ⟨cs.toArray⟩) C L F l4 kv o6 o7 o8 o9 ((qA6 cs.length).map (inA (rowW cs))) l10 o11 (some (.dct [],1)) none))
   fun r=>∃o11 o13,r=stB (.str ⟨cs.toArray⟩) C L F l4 kv o6 o7 o8 o9 ((qA6 cs.length).map (inA (rowW cs))) l10 o11 (some (.dct (kvL (lawS (rowW cs) cs.length)),1)) o13:=by
 have hl:=w.len;have hrl:(rowW cs).length=cs.length:=by simp[rowW]
 have lcs:=zEH (cs:=cs) (by omega);have hix:∀k,k<cs.length->ixD (rowD (numL ((qA6 cs.length).map (inA (rowW cs))))) (.int (k:Int))=some (.int (inA (rowW cs) k:Nat)):=fun k hk=>by
  rw[zXY _ k (by simpa using hk)];rw[qA0,qAh,qFp hk];rfl
 have slen:∀q,(lawS (rowW cs) q).length=2*q:=fun q=>by
  induction q with
  |zero=>rfl
  |succ q ih=>rw[zK8,qAl,ih];simp[tieP];omega
 refine zK1 (fun q r=>∃o11 o13,r=stB (.str ⟨cs.toArray⟩) C L F l4 kv o6 o7 o8 o9 ((qA6 cs.length).map (inA (rowW cs))) l10 o11 (some (.dct (kvL (lawS (rowW cs) q)),1)) o13) ⟨o11,none,rfl⟩ (fun k hk r hr=>?_) fun r hr=>hr
 obtain⟨o11,o13,rfl⟩:=hr;have hm:(k+1)%cs.length<cs.length:=qBy _ (by omega);have i1:=hix k hk;have i2:=hix _ hm;have hmd:modD (.int ((k:Int)+1)) (.int (cs.length:Int))=some (.int (((k+1)%cs.length:Nat):Int)):=mdi (by omega) rfl;have l1:=zXR (lawS (rowW cs) k);rw[slen]at l1;have l2:=zFC (kvL (lawS (rowW cs) k)) (.inl ((inA (rowW cs) k+1:Nat):Int)) (.int (inA (rowW cs) ((k+1)%cs.length):Int));refine zD0 fun bb hb=>zAS (ss (b2 rfl (b2 (b2 rfl rfl rfl) (bi1 rfl lcs) hmd) i2) (qAk 0)) ?_
 subst hb;refine zD0 fun bb hb=>zAS (zRQ (k:=0) (a:=((inA (rowW cs) k+1:Nat):Int)) (b:=(inA (rowW cs) ((k+1)%cs.length):Int)) rfl rfl (b2 (b2 rfl rfl i1) rfl (adi (by omega))) (by omega)) ?_
 subst hb;refine zAS (zRQ (k:=0) (a:=(inA (rowW cs) ((k+1)%cs.length):Int)) (b:=((inA (rowW cs) k+1:Nat):Int)) rfl (b2 (b2 rfl rfl i1) rfl (adi (by omega))) rfl (by omega)) ⟨some (.int (k:Int),0),some (.int (inA (rowW cs) ((k+1)%cs.length):Int),0),?_⟩;have e:tieP (rowW cs) ((k+1)%(rowW cs).length)=[(inA (rowW cs) k+1,(inA (rowW cs) ((k+1)%cs.length):Int))]++[(inA (rowW cs) ((k+1)%cs.length),((inA (rowW cs) k+1:Nat):Int))]:=by
  unfold tieP;rw[zJS (show k<(rowW cs).length by omega),hrl];rfl
 rw[zK8,e,<- qCb,zIE,zIE];rfl
theorem zOF{n:Nat}{cs c:List Nat}(w:Wd n cs)(n1:1<=n)(hn:n<=10)(hc:c.length=n)(hw:∀x∈c,x<3)(hsl:(sosL cs).length=n):zCD [.str ⟨cs.toArray⟩,rowD (numL c)]=okR (.tup [.dct (kvA (cbW c (sosL cs) (ords cs)) n 0),.dct (kvL (lawS (rowW cs) cs.length))]):=by
 have hlen:=w.len;have hL:=zG7 (cs:=cs) (by omega) (by omega);have hF:=zM0 cs (by omega);have lcs:=zEH (cs:=cs) (by omega);have hJ:∀ρ:Rh,eLst (aCons (eLst (aCons (eC (.int 1)) (aCons (eC (.int 0)) (aCons (eC (.int 3)) (aCons (eC (.int 2)) aNil))))) (aCons (eLst (aCons (eC (.int 2)) (aCons (eC (.int 3)) (aCons (eC (.int 0)) (aCons (eC (.int 1)) aNil))))) (aCons (eLst (aCons (eC (.int 3)) (aCons (eC (.int 2)) (aCons (eC (.int 1)) (aCons (eC (.int 0)) aNil))))) aNil))) ρ=okR JS:=fun ρ=>by simp[JS]
 have dJ:JS.dep<=2:=by simp[JS,Dt.depL]
 refine zBN rfl (sg (c1 rfl hL) (qAk 0) (sg (c1 rfl hF) (zSV _) (sg (hJ _) dJ (sw (s2s rfl rfl rfl) ?_))));refine zD1 fun bb hb=>?_
 obtain⟨r1,g1,l4,o6,o7,o8,o9,rfl⟩:=zBE (zMK w hn hc hw hsl);refine zAS (r:=stA (.str ⟨cs.toArray⟩) (rowD (numL c)) (.str ⟨(sosL cs).toArray⟩) (.lst ((ords cs).map sgn)) l4 (kvA (cbW c (sosL cs) (ords cs)) n 0) o6 o7 o8 o9) ?_ ?_
 ·rw[zV0];exact g1
 subst hb;refine sg el0 (by simp) ?_;refine zD1 fun bb hb=>?_
 obtain⟨r2,g2,p7,p11,rfl⟩:=zBE (zRM w hn (C:=rowD (numL c)) (L:=.str ⟨(sosL cs).toArray⟩) (l4:=l4) (kv:=kvA (cbW c (sosL cs) (ords cs)) n 0) (o6:=o6) (o7:=o7) (o8:=o8) (o9:=o9));refine zAS (r:=stB (.str ⟨cs.toArray⟩) (rowD (numL c)) (.str ⟨(sosL cs).toArray⟩) (.lst ((ords cs).map sgn)) l4 (kvA (cbW c (sosL cs) (ords cs)) n 0) o6 p7 o8 o9 ((qA6 cs.length).map (inA (rowW cs))) 8 p11 none none) ?_ ?_
 ·rw[zV0];exact g2
 subst hb;refine sw (s2s (d:=.dct []) rfl rfl rfl) ?_;refine zD1 fun bb hb=>?_
 obtain⟨r3,g3,q11,q13,rfl⟩:=zBE (zPC w n1 hn (C:=rowD (numL c)) (L:=.str ⟨(sosL cs).toArray⟩) (F:=.lst ((ords cs).map sgn)) (l4:=l4) (l10:=8) (kv:=kvA (cbW c (sosL cs) (ords cs)) n 0) (o6:=o6) (o7:=p7) (o8:=o8) (o9:=o9) (o11:=p11));refine zAS (r:=stB (.str ⟨cs.toArray⟩) (rowD (numL c)) (.str ⟨(sosL cs).toArray⟩) (.lst ((ords cs).map sgn)) l4 (kvA (cbW c (sosL cs) (ords cs)) n 0) o6 p7 o8 o9 ((qA6 cs.length).map (inA (rowW cs))) 8 q11 (some (.dct (kvL (lawS (rowW cs) cs.length)),1)) q13) ?_ ?_
 ·rw[zCQ,zE9 (n:=cs.length) (al0 (bi1 rfl lcs)) (by omega),zA0];exact g3
 subst hb;exact rt1 (et2 rfl rfl) (et2 rfl rfl)
theorem dix{d k:EM}{ρ:Rh}{kvs:Kv}{a v:Int}(h1:d ρ=okR (.dct kvs))(h2:k ρ=okR (.int a))(h:getW kvs (.inl a)=some (.int v)):eDIx d k ρ=okR (.int v):=by
 unfold eDIx;rw[h1,zA0];dsimp only;rw[h2,zA0]
 show(match getW kvs (.inl a)with|some w=>okR (swT w)|none=>none)=_
 rw[h];rfl
abbrev stR(W C A L:Dt)(met:List Nat)(l4:Nat)(R:List (List Nat))(l5:Nat)(o6 o7 o8:Option Sl):Ro:=[some (W,0),some (C,0),some (A,0),some (L,0),some (rowD (numL met),l4+1),some (zD7 R,l5+1),o6,o7,o8]
noncomputable def zaM(r:Ro):Nat:=match(r[7]?:Option (Option Sl))with
 |some (some (Dt.lst ds,_))=>ds.length
 |_=>0
theorem nlen(l:List Nat):((numL l).map Dt.int).length=l.length:=by simp[numL]
theorem zLC(l:List Nat)(x y:Nat):rowD (numL (l++[x,y]))=.lst ((numL l).map Dt.int++[.int (x:Int),.int (y:Int)]):=by
 unfold rowD numL;rw[qB7,qB7];rfl
theorem zLB(l m:List Nat):rowD (numL (l++m))=.lst ((numL l).map Dt.int++(numL m).map Dt.int):=by
 unfold rowD numL;rw[qB7,qB7]
section
variable{ts C':List Nat}{n:Nat}(hN:NetN ts (4*n))(hne:∀x,x<4*n->nt ts x≠x)(hl:C'.length=n)(hw:∀c∈C',c<3)(hn:n<=10)(n1:1<=n)
include hN hne hl hw hn n1
theorem zPL{ka kl:Kv}(hA:∀x,x<4*n->getW ka (.inl (x:Int))=some (.int (jn C' x:Int)))(hL:∀x,x<4*n->getW kl (.inl (x:Int))=some (.int (nt ts x:Int)))
  {e p:Nat} (he:e<4*n) (p1:1<=p) (p2:p<=4*n) (p3:itr (stp ts C') p e=e) (p4:∀q,1<=q->q<p->itr (stp ts C') q e≠e) {W C:Dt} {met:List Nat} {l4 l5:Nat} {R:List (List Nat)} {o6:Option Sl} :
  nxR (sWhile (tB (eB (inD true) (eV 8) (eV 7))) (sSeq (sExt 7 0 (eLst (aCons (eV 8) (aCons (eDIx (eV 2) (eV 8)) aNil)))) (sSet 8 0 [3,2,8] (eDIx (eV 3) (eDIx (eV 2) (eV 8)))))
   (stR W C (.dct ka) (.dct kl) met l4 R l5 o6 (some (.lst [],9)) (some (.int (e:Int),0))))
   fun r=>∃o8,r=stR W C (.dct ka) (.dct kl) met l4 R l5 o6 (some (rowD (numL (orb ts C' e p)),9)) o8:=by
 obtain⟨st1,_⟩:=zH5 hN hl hw;have lt:∀j,itr (stp ts C') j e<4*n:=zF5 st1 he;refine zTJ (fun r=>∃j,j<=p/\r=stR W C (.dct ka) (.dct kl) met l4 R l5 o6 (some (rowD (numL (orb ts C' e j)),9)) (some (.int (itr (stp ts C') j e:Int),0))) (fun r=>2*p-zaM r) (fun r=>∃o8,r=stR W C (.dct ka) (.dct kl) met l4 R l5 o6 (some (rowD (numL (orb ts C' e p)),9)) o8) ⟨0,qAk _,rfl⟩ (by omega) ?_ fun r h=>h
 rintro r ⟨j,hj,rfl⟩
 have hin:=zNN true (itr (stp ts C') j e) (orb ts C' e j)
 by_cases z:j=p
 ·subst z;refine .inl ⟨tb1 (b2 rfl rfl (hin.trans ?_)),_,rfl⟩;rw[if_pos rfl,decide_eq_true (orb_mem.mpr ⟨0,by omega,.inl (by rw[p3];rfl)⟩)];rfl
 ·have hlt:j<p:=by omega
  have hnm:itr (stp ts C') j e∉orb ts C' e j:=fun h=>by
   obtain⟨i,hi,h1|h1⟩:=orb_mem.mp h
   ·exact zXZ hN hne hl hw he p3 p4 hi hlt h1.symm
   ·exact zaY hN hne hl hw he p3 p4 hlt (by omega) h1
  refine .inr ⟨tb1 (b2 rfl rfl (hin.trans ?_)),?_⟩
  ·rw[if_pos rfl,decide_eq_false hnm];rfl
  have ll:=zLK ts C' e j;have a1:=hA _ (lt j);have a2:=hL _ (zE5 hl hw (lt j)).1;refine zD0 fun bb hb=>zAS (zWL (k:=8) (ds:=(numL (orb ts C' e j)).map Dt.int) (es:=[.int (itr (stp ts C') j e:Int),.int (jn C' (itr (stp ts C') j e):Int)]) rfl (el2 rfl (dix rfl rfl a1)) (by simp[numL,ll];omega) (by simp[Dt.depL]) (by simp[Dt.depL])) ?_
  subst hb;refine zAS (ss (dix rfl (dix rfl rfl a1) a2) (qAk 0)) ⟨⟨j+1,hlt,?_⟩,?_⟩
  ·rw[zNC,zLC];rfl
  ·show 2*p-(((numL (orb ts C' e j)).map Dt.int)++[Dt.int (itr (stp ts C') j e:Int),.int (jn C' (itr (stp ts C') j e):Int)]).length<2*p-((numL (orb ts C' e j)).map Dt.int).length;simp[numL,ll];omega
theorem zID{cs:List Nat}{Cd:Dt}{ka kl:Kv}(hcs:cs.length=2*n)(hst:zCD [.str ⟨cs.toArray⟩,Cd]=okR (.tup [.dct ka,.dct kl]))
  (hA:∀x,x<4*n->getW ka (.inl (x:Int))=some (.int (jn C' x:Int))) (hL:∀x,x<4*n->getW kl (.inl (x:Int))=some (.int (nt ts x:Int)))
  {f:Nat->List Nat} {g:Nat->Nat} (hf:∀e,e<4*n->f e=orb ts C' e (g e)/\1<=g e/\g e<=4*n/\itr (stp ts C') (g e) e=e/\∀q,1<=q->q<g e->itr (stp ts C') q e≠e) (hfl:∀k,(f k).length<=8*n) :
  zB9 [.str ⟨cs.toArray⟩,Cd]=okR (zD7 (rdS f (4*n)).1):=by
 have lcs:=zEH (cs:=cs) (by omega);have m2:mulD (.int 2) (.int (cs.length:Int))=some (.int ((4*n:Nat):Int)):=by
  rw[zI9 (by decide) (by decide)]
  congr 2
  omega
 have mk:∀k (x:Nat),(getW (rdS f k).2 (.inl (x:Int))).isSome=true↔x∈(rdS f k).1.flatten:=fun k x=>by
  rw[zD8,qDt]
 have fl:∀k,(rdS f k).1.flatten.length<=k*(8*n):=fun k=>by
  induction k with
  |zero=>simp[rdS]
  |succ k ih=>
   rw[rdS]
   split
   ·rw[qF8];omega
   ·show((rdS f k).1++[f k]).flatten.length<=_
    have e:[f k].flatten=f k:=by simp
    rw[qFq,qAl,qF8,e]
    have:=hfl k
    omega
 refine zBN rfl (su (ds:=[.dct ka,.dct kl]) (c2 rfl rfl hst) rfl (sg el0 (by simp) (sg el0 (by simp) ?_)));refine zD1 fun bb hb=>?_
 suffices key:nxR (sForR (iR1 (aCons (eB mulD (eC (.int 2)) (eBi lenD (aCons (eV 0) aNil))) aNil)) 6 (sIf (tB (eB (inD true) (eV 6) (eV 4))) (sSeq (sSet 7 9 [] (eLst aNil)) (sSeq (sSet 8 0 [6] (eV 6)) (sSeq (sWhile (tB (eB (inD true) (eV 8) (eV 7))) (sSeq (sExt 7 0 (eLst (aCons (eV 8) (aCons (eDIx (eV 2) (eV 8)) aNil)))) (sSet 8 0 [3,2,8] (eDIx (eV 3) (eDIx (eV 2) (eV 8)))))) (sSeq (sExt 4 0 (eV 7)) (sAppF 5 [7] (eV 7)))))) sNil)
   (stR (.str ⟨cs.toArray⟩) Cd (.dct ka) (.dct kl) [] 8 [] 8 none none none)) fun r=>∃l4 l5 o6 o7 o8,r=stR (.str ⟨cs.toArray⟩) Cd (.dct ka) (.dct kl) (rdS f (4*n)).1.flatten l4 (rdS f (4*n)).1 l5 o6 o7 o8/\(l5=0\/(rdS f (4*n)).1=[]) by
  obtain⟨r,h1,l4,l5,o6,o7,o8,rfl,h5⟩:=zBE key;refine zAS h1 ?_;subst hb
  rcases h5 with rfl|h5
  ·rfl
  ·obtain⟨t,ht⟩:=zN3 f (4*n-1);rw[show 4*n-1+1=4*n by omega,h5]at ht;cases ht
 rw[zCQ,zE9 (n:=4*n) (al0 (b2 rfl (bi1 rfl lcs) m2)) (by omega),zA0];refine zK1 (fun q r=>∃l4 l5 o6 o7 o8,r=stR (.str ⟨cs.toArray⟩) Cd (.dct ka) (.dct kl) (rdS f q).1.flatten l4 (rdS f q).1 l5 o6 o7 o8/\(l5=0\/(rdS f q).1=[])) ⟨8,8,none,none,none,rfl,.inr rfl⟩ (fun k hk r hr=>?_) fun r hr=>hr
 obtain⟨l4,l5,o6,o7,o8,rfl,h5⟩:=hr;have hin:=zNN true k (rdS f k).1.flatten
 by_cases hm:k∈(rdS f k).1.flatten
 ·have e:rdS f (k+1)=rdS f k:=by rw[rdS,if_pos ((mk k k).mpr hm)]
  rw[e];refine zAS (sf (tb1 (b2 rfl rfl (hin.trans ?_)))) ⟨l4,l5,_,_,_,rfl,h5⟩;rw[if_pos rfl,decide_eq_true hm];rfl
 ·have e:rdS f (k+1)=((rdS f k).1++[f k],zER (rdS f k).2 (f k)):=by rw[rdS,if_neg fun h=>hm ((mk k k).mp h)]
  rw[e];obtain⟨q0,q1,q2,q3,q4⟩:=hf k hk;have fk:=fl k;have hk8:k*(8*n)<=40*80:=Nat.mul_le_mul (by omega) (by omega);have rl:=(zLE (f:=f) (B:=8*n) hfl k).1;have fkl:=hfl k;rw[zJ4,show tB (eB (inD true) (eV 6) (eV 4)) (full ((stR (.str ⟨cs.toArray⟩) Cd (.dct ka) (.dct kl) (rdS f k).1.flatten l4 (rdS f k).1 l5 o6 o7 o8).set 6 (some (.int (k:Nat),0))))=okR true from tb1 (b2 rfl rfl (hin.trans (by rw[if_pos rfl,decide_eq_false hm];rfl))),zA0,if_pos rfl];refine zD0 fun bb hb=>zAS (ss el0 (by simp)) ?_
  subst hb;refine zD0 fun bb hb=>zAS (ss (d:=.int (k:Int)) rfl (qAk 0)) ?_
  subst hb;refine zD0 fun bb hb=>?_
  obtain⟨r',g1,p8,rfl⟩:=zBE (zPL hN hne hl hw hn n1 hA hL hk q1 q2 q3 q4 (W:=.str ⟨cs.toArray⟩) (C:=Cd) (met:=(rdS f k).1.flatten) (l4:=l4) (l5:=l5) (R:=(rdS f k).1) (o6:=some (.int (k:Int),0)));refine zAS g1 ?_;subst hb;rw[<- q0];refine zD0 fun bb hb=>zAS (zWL (k:=l4) (ds:=(numL (rdS f k).1.flatten).map Dt.int) (es:=(numL (f k)).map Dt.int) rfl rfl (by rw[nlen,nlen];omega) (by rw[zC7];exact qAk _) (by rw[zC7];exact qAk _)) ?_
  subst hb;refine zAS (zSG (R:=(rdS f k).1) (l:=f k) (lv:=l5) (lx:=9) rfl rfl (by decide) (fun ρ h=>v1 h) (by omega)) ⟨l4,0,some (.int (k:Int),0),some (rowD (numL (f k)),0),p8,?_,.inl rfl⟩;have e2:((rdS f k).1++[f k]).flatten=(rdS f k).1.flatten++f k:=by simp
  show _=[_,_,_,_,some (rowD (numL ((rdS f k).1++[f k]).flatten),l4+1),_,_,_,_]
  rw[e2,zLB];rfl
end
end Mp
namespace Mp
open Mi PySem
theorem zGM{n:Nat}{g:Nat->Int}{x:List Int}(hx:x.length=n):dot ((qA6 n).map g) x=sumN n fun k=>g k*x.getD k 0:=by
 rw[zEU _ x n (by omega)];unfold sumN
 congr 1
 refine qAs fun k hk=>?_
 rw[zCM (by simpa using hk)]
def NS(n:Nat)(f:Nat->Nat->Int):Prop:=∀x,RowN n x->(∀a,a<n->sumN n (fun b=>f a b*x.getD b 0)%2=0)->∀j,x.getD j 0=0
theorem zOD{n:Nat}{f g:Nat->Int}(h:∀k,k<n->f k=g k):sumN n f=sumN n g:=by
 unfold sumN
 congr 1
 exact qAs fun k hk=>h k (by simpa using hk)
theorem zMS{n i:Nat}{f g:Nat->Int}(hi:i<n)(h:∀k,k<n->k≠i->f k=g k):sumN n f=sumN n g+(f i-g i):=by
 induction n with
 |zero=>omega
 |succ n ih=>
  rw[zB6,zB6]
  by_cases z:i=n
  ·subst z;rw[zOD fun k hk=>h k (by omega) (by omega)];omega
  ·rw[ih (by omega) fun k hk=>h k (by omega),h n (by omega) (fun y=>z y.symm)];omega
theorem zPV{n:Nat}{f g h:Nat->Int}(e:∀k,k<n->f k%2=(g k+h k)%2):sumN n f%2=(sumN n g+sumN n h)%2:=by
 induction n with
 |zero=>rfl
 |succ n ih=>
  rw[zB6,zB6,zB6];have h1:=ih fun k hk=>e k (by omega)
  have h2:=e n (by omega);omega
structure BI(n p:Nat)(fl:Bool)(f:Nat->Nat->Int):Prop where
 le:p<=n
 bits:Bits n f
 sym:Sym n f
 out:∀a b,a<n->b<n->p<=a\/p<=b->f a b=0
 ns:fl=true->∀x,RowN n x->(∀a,a<p->sumN n (fun b=>f a b*x.getD b 0)%2=0)->∀b,b<p->x.getD b 0=0
noncomputable def allv:Nat->List (List Int)
 |0=>[[]]
 |n+1=>(allv n).map (qHv 0)++(allv n).map (qHv 1)
theorem zO4:∀n,(allv n).length=2 ^ n
 |0=>rfl
 |n+1=>by simp[allv,zO4 n];omega
theorem zG0{α β:Type}{l:List α}{f:α->β}(h:l.Nodup)(hi:∀x∈l,∀y∈l,f x=f y->x=y):(l.map f).Nodup:=by
 unfold qHj;rw[qDk];exact qEd (fun{a b} ha hb hab z=>hab (hi a ha b hb z)) h
theorem zEY:∀n,(allv n).Nodup
 |0=>by simp[allv]
 |n+1=>by
  have ih:=zEY n;rw[allv,qDj];refine⟨zG0 ih fun x _ y _ h=>by simpa using h,zG0 ih fun x _ y _ h=>by simpa using h,fun a ha b hb=>?_⟩;obtain⟨x,_,rfl⟩:=qAd.mp ha;obtain⟨y,_,rfl⟩:=qAd.mp hb;simp
theorem allv_mem:∀{n:Nat}{x:List Int},x∈allv n↔RowN n x
 |0,x=>by
  simp only[allv,qAv];constructor
  ·rintro rfl;exact⟨rfl,fun y hy=>by simp at hy⟩
  ·rintro⟨h,_⟩;exact List.eq_nil_of_length_eq_zero h
 |n+1,x=>by
  rw[allv,qAw];constructor
  ·rintro(h|h)
   all_goals
    obtain⟨y,hy,rfl⟩:=qAd.mp h
    have:=allv_mem.mp hy
    refine⟨by simp[this.1],fun z hz=>?_⟩
    rcases qAb.mp hz with rfl|hz
    ·simp[Bit]
    ·exact this.2 z hz
  ·rintro⟨h1,h2⟩
   cases x with
   |nil=>simp at h1
   |cons a r=>
    have hr:r∈allv n:=allv_mem.mpr ⟨by simpa using h1,fun z hz=>h2 z (by simp[hz])⟩
    rcases h2 a (by simp)with rfl|rfl
    ·exact .inl (qAd.mpr ⟨r,hr,rfl⟩)
    ·exact .inr (qAd.mpr ⟨r,hr,rfl⟩)
theorem zEG{α:Type}[DecidableEq α]:∀(l1 l2:List α),l1.Nodup->(∀x∈l1,x∈l2)->l1.length<=l2.length
 |[],_,_,_=>by simp
 |a::r,l2,h,hs=>by
  have ha:=hs a (by simp);rw[qBb]at h
  have:=zEG r (l2.erase a) h.2 fun x hx=>(qDu (fun z:x=a=>h.1 (by rw[<- z];exact hx))).mpr (hs x (by simp[hx]))
  rw[qCy ha]at this
  have:=qCj ha
  simp;omega
noncomputable def cnt(n:Nat)(P:List Int->Prop):Nat:=by
 classical exact((allv n).filter fun x=>decide (P x)).length
theorem zYR(n:Nat):cnt n (fun _=>True)=2 ^ n:=by
 unfold cnt;rw[List.filter_eq_self.mpr (by simp),zO4]
def Ev(n:Nat)(g:Nat->Int)(x:List Int):Prop:=sumN n (fun k=>g k*x.getD k 0)%2=0
structure BC(n p q:Nat)(f:Nat->Nat->Int):Prop where
 out:∀a b,a<n->b<n->p<=a\/p<=b->f a b=0
 num:cnt n (fun x=>∀a,a<p->Ev n (f a) x)*2 ^ p=2 ^ (n+q)
def KerF(n:Nat)(f:Nat->Nat->Int)(x:List Int):Prop:=∀a,a<n->Ev n (f a) x
section
variable{n i j:Nat}{f:Nat->Nat->Int}(hb:Bits n f)(hi:i<n)(hj:j<n)(hij:i≠j)
include hi in
include hi hij in
include hb hi hj hij in
include hb hi hj hij in
end
end Mp
namespace Mp
open Mi PySem
theorem zL2{n i:Nat}{f:Nat->Nat->Int}(h:i<n):(tab n f).getD i []=(qA6 n).map fun j=>f i j:=by
 rw[qA0,zPQ h];rfl
theorem zXU{n:Nat}{f:Nat->Nat->Int}{x:List Int}(hx:x.length=n):Ker (tab n f) x↔∀a,a<n->sumN n (fun b=>f a b*x.getD b 0)%2=0:=by
 constructor
 ·intro h a ha
  have:=h _ (zAF (d:=[]) (i:=a) (by rw[zHM];exact ha))
  rw[zL2 ha,zGM hx]at this;exact this
 ·intro h r hr;obtain⟨i,hi,rfl⟩:=zBW (d:=[]) hr;rw[zHM]at hi;rw[zL2 hi,zGM hx];exact h i hi
theorem zZA{n:Nat}{f:Nat->Nat->Int}{R:List (List Int)}(h:∀u v,RowN n u->RowN n v->((∀i,i<n->(dot ((tab n f).getD i []) u+v.getD i 0)%2=0)↔∀i,i<n->(u.getD i 0+dot (R.getD i []) v)%2=0)):NS n f:=by
 intro x hx hk j;have hz:RowN n (qA9 n 0):=⟨by simp,fun y hy=>.inl (qCz hy)⟩
 have gz:∀k,(qA9 n (0:Int)).getD k 0=0:=fun k=>by
  rw[qA0,qBj];split<;>rfl
 by_cases hj:j<n
 ·have:=(h x (qA9 n 0) hx hz).mp (fun i hi=>by
   rw[zL2 hi,zGM hx.1,gz]
   have:=hk i hi
   omega) j hj
  rw[zEU _ (qA9 n 0) n (by simp),zB5 fun k _=>by rw[gz];simp]at this
  rcases zLA (k:=j) hx with w|w
  ·exact w
  ·rw[w]at this;simp at this
 ·simp[qA0,qCp (show x.length<=j by rw[hx.1];omega)]
noncomputable def fst1:List Int->Nat
 |[]=>0
 |a::r=>if a=1 then 0 else fst1 r+1
section
variable{n:Nat}
def Lds(ls:List (List Int)):Prop:=ls.Pairwise fun l s=>s.getD (fst1 l) 0=0
structure GP(n:Nat)(T ls:List (List Int))(k:Nat):Prop where
 rows:∀l∈ls,RowN n l/\1∈l
 lds:Lds ls
 le:ls.length<=k
 ker:∀x,RowN n x->(Ker ls x↔Ker (T.take k) x)
structure GK(n:Nat)(T:List (List Int))(ks:List Nat)(k:Nat):Prop where
 lt:∀j∈ks,j<k
 up:ks.Pairwise (· < ·)
 ker:∀x,RowN n x->(Ker (ks.map fun j=>T.getD j []) x↔Ker (T.take k) x)
end
end Mp
namespace Mp
open Mi PySem
structure LR(n:Nat)(T A:List (List Int))(ps:List (List Int×Nat))(p q:Nat):Prop where
 rows:∀r∈A,RowN n r
 zero:∀r∈A,∀k,k<p->r.getD k 0=0
 one:∀a∈ps,a.1.getD a.2 0=1/\a.2<p
 pw:ps.Pairwise fun a b=>b.1.getD a.2 0=0
 num:ps.length+q=p
 ker:∀x,RowN n x->(Ker T x↔Ker (ps.map qHm) x/\Ker A x)
section
variable{n p q:Nat}{T A:List (List Int)}{ps:List (List Int×Nat)}
end
end Mp
namespace Mp
open Mi PySem
noncomputable def dg(v:Nat->Int)(q:Nat)(ks:List Nat)(g:Nat->Nat->Int):Nat->Nat->Int:=fun a b=>if a=b/\a<q then v (ks.getD a 0)else g a b
noncomputable def kept(n:Nat)(c:List Int):List Nat:=(qA6 n).filter fun k=>decide (c.getD k 0≠0)
theorem zGB{n:Nat}{c:List Int}:∀k∈kept n c,k<n:=fun k hk=>by
 have:=(qAr.mp hk).1
 simpa using this
theorem zTZ(n:Nat)(c:List Int):(kept n c).length<=n:=qAp (qF9 _ _) (by simp)
def cpF(n:Nat)(c:List Int)(f:Nat->Nat->Int):Nat->Nat->Int:=dg (fun k=>if c.getD k 0=1 then 1 else 0) (kept n c).length (kept n c) (sub (kept n c) f)
theorem zS8{n m:Nat}{P Q:List Int->Prop}(f:List Int->List Int)(hf:∀x,RowN n x->P x->RowN m (f x)/\Q (f x))(hi:∀x y,RowN n x->P x->RowN n y->P y->f x=f y->x=y):cnt n P<=cnt m Q:=by
 classical
 unfold cnt;have h1:(((allv n).filter fun x=>decide (P x)).map f).Nodup:=zG0 ((zEY n).filter _) fun x hx y hy=>by
  obtain⟨a1,a2⟩:=qAr.mp hx;obtain⟨b1,b2⟩:=qAr.mp hy;exact hi x y (allv_mem.mp a1) (by simpa using a2) (allv_mem.mp b1) (by simpa using b2)
 have h2:=zEG _ ((allv m).filter fun x=>decide (Q x)) h1 fun z hz=>by
  obtain⟨x,hx,rfl⟩:=qAd.mp hz;obtain⟨g1,g2⟩:=qAr.mp hx;obtain⟨k1,k2⟩:=hf x (allv_mem.mp g1) (by simpa using g2);exact qAr.mpr ⟨allv_mem.mpr k1,by simpa using k2⟩
 rw[qAm]at h2;exact h2
theorem zUO{m:Nat}{P:List Int->Prop}:cnt (m+1) (fun z=>P z.tail)=2*cnt m P:=by
 classical
 unfold cnt;rw[allv,qFv,qAl,qGr,qGr,qAm,qAm];have e:∀b:Int,((fun z:List Int=>decide (P z.tail))∘qHv b)=fun x=>decide (P x):=fun b=>rfl
 rw[e,e];omega
noncomputable def sY(Y:Nat->Int)(l:List Nat):Int:=(l.map Y).sum
theorem zH7(Y:Nat->Int)(a b:List Nat):sY Y (a++b)=sY Y a+sY Y b:=by simp[sY]
theorem zDY(Y:Nat->Int)(a:Nat)(l:List Nat):sY Y (a::l)=Y a+sY Y l:=by simp[sY]
theorem zHT(Y:Nat->Int){sl:List Nat}(hn:sl.Nodup):∀B:List Nat,(∀b∈B,b∈sl)->sY Y B=sumN sl.length (fun i=>(B.count (sl.getD i 0):Int)*Y (sl.getD i 0))
 |[],_=>by rw[zB5 fun k _=>by simp];rfl
 |b::B,h=>by
  have ih:=zHT Y hn B fun x hx=>h x (by simp[hx])
  have hb:=h b (by simp);have hi:=qAg hb;have eb:=getD_idx hb;rw[zDY,ih,zMS (f:=fun i=>((b::B).count (sl.getD i 0):Int)*Y (sl.getD i 0)) (g:=fun i=>(B.count (sl.getD i 0):Int)*Y (sl.getD i 0)) hi fun k hk hne=>?_]
  ·rw[eb,qC8]
   have:((B.count b+1:Nat):Int)*Y b=(B.count b:Int)*Y b+Y b:=by rw[Int.natCast_add,Int.add_mul];simp
   rw[this];omega
  ·have:b≠sl.getD k 0:=fun z=>hne (by rw[z,idx_getD hn hk])
   rw[List.count_cons_of_ne this]
theorem zHN{n:Nat}{f g:Nat->Int}(e:∀k,k<n->f k%2=g k%2):sumN n f%2=sumN n g%2:=by
 have:=zPV (n:=n) (f:=f) (g:=g) (h:=fun _=>0) (fun k hk=>by rw[e k hk,qE5])
 rw[this,zB5 (f:=fun _=>0) fun _ _=>rfl,qE5]
theorem zYU(Y:Nat->Int){cs sl:List Nat}(hn:sl.Nodup)(hm:∀b∈cs,b∈sl)(h2:∀x∈cs,cs.count x=2)(x:Nat):sY Y (btw cs x)%2=sumN sl.length (fun i=>crs cs x (sl.getD i 0)*Y (sl.getD i 0))%2:=by
 have hs:(btw cs x).Sublist cs:=by unfold btw;exact(qG2 _ _).trans (List.drop_sublist _ _)
 rw[zHT Y hn _ fun b hb=>hm b (hs.subset hb)];refine zHN fun k hk=>?_
 have hle:(btw cs x).count (sl.getD k 0)<=2:=by
  have h:=hs.count_le (sl.getD k 0)
  by_cases z:sl.getD k 0∈cs
  ·rw[h2 _ z]at h;exact h
  ·rw[qBu.mpr z]at h;omega
 unfold crs
 generalize Y (sl.getD k 0)=y
 generalize(btw cs x).count (sl.getD k 0)=q at hle
 have hq:q=0\/q=1\/q=2:=by omega
 rcases hq with rfl|rfl|rfl<;>simp
theorem zH4(g:Nat->Int)(p:Nat->Bool):∀l:List Nat,(∀k∈l,p k=false->g k=0)->(l.map g).sum=((l.filter p).map g).sum
 |[],_=>rfl
 |a::l,h=>by
  have ih:=zH4 g p l fun k hk=>h k (by simp[hk])
  rw[qEp];cases e:p a
  ·simp[ih,h a (by simp) e]
  ·simp[ih]
theorem zPU(g:Nat->Int)(ks:List Nat):sumN ks.length (fun a=>g (ks.getD a 0))=(ks.map g).sum:=by
 unfold sumN
 congr 1
 refine qBf (by simp) fun i h1 h2=>?_
 have hi:i<ks.length:=by simpa using h2
 rw[qC0,qC0,qC3,qA0,qA2 hi];rfl
theorem zNI{Y:Nat->Int}{cs sl:List Nat}{ci:List Int}(hn:sl.Nodup)(hm:∀b,b∈cs↔b∈sl)(h2:∀x∈cs,cs.count x=2)(hz:∀k,k<sl.length->ci.getD k 0=0->Y (sl.getD k 0)=0) :
  KerF (kept sl.length ci).length (cpF sl.length ci (crsT cs sl)) ((kept sl.length ci).map fun k=>Y (sl.getD k 0))↔∀k,k<sl.length->ci.getD k 0≠0->(sY Y (btw cs (sl.getD k 0))+(if ci.getD k 0=1 then Y (sl.getD k 0)else 0))%2=0:=by
 have key:∀a,a<(kept sl.length ci).length->(Ev (kept sl.length ci).length (cpF sl.length ci (crsT cs sl) a) ((kept sl.length ci).map fun k=>Y (sl.getD k 0))↔(sY Y (btw cs (sl.getD ((kept sl.length ci).getD a 0) 0))+(if ci.getD ((kept sl.length ci).getD a 0) 0=1 then Y (sl.getD ((kept sl.length ci).getD a 0) 0)else 0))%2=0):=fun a ha=>by
  have hka:=zGB (n:=sl.length) (c:=ci) _ (zAF (d:=0) ha);have hfil:=zH4 (fun k=>crsT cs sl ((kept sl.length ci).getD a 0) k*Y (sl.getD k 0)) (fun k=>decide (ci.getD k 0≠0)) (qA6 sl.length) fun k hk e=>by
   show _*_=_;rw[hz k (qCi.mp hk) (by simpa using e),qGb]
  have hpar:=zYU Y hn (fun b hb=>(hm b).mp hb) h2 (sl.getD ((kept sl.length ci).getD a 0) 0);have hself:crsT cs sl ((kept sl.length ci).getD a 0) ((kept sl.length ci).getD a 0)=0:=zNW (h2 _ ((hm _).mpr (zAF hka)));have hdef:kept sl.length ci=(qA6 sl.length).filter fun k=>decide (ci.getD k 0≠0):=rfl
  rw[<- hdef]at hfil;unfold Ev;rw[zMS (f:=fun b=>cpF sl.length ci (crsT cs sl) a b*(((kept sl.length ci).map fun k=>Y (sl.getD k 0)).getD b 0)) (g:=fun b=>crsT cs sl ((kept sl.length ci).getD a 0) ((kept sl.length ci).getD b 0)*Y (sl.getD ((kept sl.length ci).getD b 0) 0)) ha fun b hb hne=>by
   rw[zEJ (d:=0) hb];unfold cpF dg sub;rw[if_neg fun z=>hne z.1.symm]]
  rw[zPU (fun k=>crsT cs sl ((kept sl.length ci).getD a 0) k*Y (sl.getD k 0)),<- hfil,hself,zEJ (d:=0) ha];have hd:cpF sl.length ci (crsT cs sl) a a=if ci.getD ((kept sl.length ci).getD a 0) 0=1 then 1 else 0:=by
   unfold cpF dg;rw[if_pos ⟨rfl,ha⟩]
  rw[hd];unfold sumN at hpar;have hs:((qA6 sl.length).map fun i=>crs cs (sl.getD ((kept sl.length ci).getD a 0) 0) (sl.getD i 0)*Y (sl.getD i 0))=(qA6 sl.length).map fun k=>crsT cs sl ((kept sl.length ci).getD a 0) k*Y (sl.getD k 0):=rfl
  rw[hs]at hpar
  generalize((qA6 sl.length).map fun k=>crsT cs sl ((kept sl.length ci).getD a 0) k*Y (sl.getD k 0)).sum=S at hpar ⊢
  generalize sY Y (btw cs (sl.getD ((kept sl.length ci).getD a 0) 0))=T at hpar ⊢
  generalize Y (sl.getD ((kept sl.length ci).getD a 0) 0)=y
  split<;>omega
 constructor
 ·intro h k hk hc;have hmk:k∈kept sl.length ci:=qAr.mpr ⟨by simpa using hk,by simpa using hc⟩;obtain⟨a,ha,e⟩:=zBW (d:=0) hmk
  have:=(key a ha).mp (h a ha)
  rw[e]at this;exact this
 ·intro h a ha;have hmk:(kept sl.length ci).getD a 0∈kept sl.length ci:=zAF ha;obtain⟨h3,h4⟩:=qAr.mp hmk;exact(key a ha).mpr (h _ (by simpa using h3) (by simpa using h4))
structure Cst(ts C:List Nat)(n:Nat)(F:Nat->Int):Prop where
 hb:∀e,Bit (F e)
 hn:∀e,e<4*n->F (nt ts e)=F e
 hj:∀e,e<4*n->F (jn C e)=F e
theorem zaS{C:List Nat}{p n:Nat}{F:Nat->Int}(hp:p<n)(hw:C.getD p 0<3):(∀e,e<4*n->e/4=p->F (jn C e)=F e)↔(C.getD p 0=0->F (4*p)=F (4*p+1)/\F (4*p+2)=F (4*p+3))/\(C.getD p 0=1->F (4*p)=F (4*p+2)/\F (4*p+1)=F (4*p+3))/\(C.getD p 0=2->F (4*p)=F (4*p+3)/\F (4*p+1)=F (4*p+2)):=by
 have hs:∀s,s<4->jn C (4*p+s)=4*p+(s^^^(C.getD p 0+1)):=fun s h=>jn4 C h
 generalize C.getD p 0=w at hw hs
 constructor
 ·intro h;have g:∀s,s<4->F (4*p+(s^^^(w+1)))=F (4*p+s):=fun s hs4=>by rw[<- hs s hs4];exact h _ (by omega) (by omega)
  have hw':w=0\/w=1\/w=2:=by omega
  rcases hw' with rfl|rfl|rfl
  ·exact⟨fun _=>⟨(g 0 (by omega)).symm,(g 2 (by omega)).symm⟩,fun z=>by omega,fun z=>by omega⟩
  ·exact⟨fun z=>by omega,fun _=>⟨(g 0 (by omega)).symm,(g 1 (by omega)).symm⟩,fun z=>by omega⟩
  ·exact⟨fun z=>by omega,fun z=>by omega,fun _=>⟨(g 0 (by omega)).symm,(g 1 (by omega)).symm⟩⟩
 ·intro h e he hep;have hw':w=0\/w=1\/w=2:=by omega
  have hs4:e%4=0\/e%4=1\/e%4=2\/e%4=3:=by omega
  have ee:e=4*p+e%4:=by omega
  rw[ee,hs _ (by omega)]
  rcases hw' with rfl|rfl|rfl
  ·obtain⟨a,b⟩:=h.1 rfl
   rcases hs4 with z|z|z|z<;>rw[z]
   ·exact a.symm
   ·exact a
   ·exact b.symm
   ·exact b
  ·obtain⟨a,b⟩:=h.2.1 rfl
   rcases hs4 with z|z|z|z<;>rw[z]
   ·exact a.symm
   ·exact b.symm
   ·exact a
   ·exact b
  ·obtain⟨a,b⟩:=h.2.2 rfl
   rcases hs4 with z|z|z|z<;>rw[z]
   ·exact a.symm
   ·exact b.symm
   ·exact b
   ·exact a
theorem zTC{cs:List Nat}{k x:Nat}(hg:cs[k]?=some x)(h2:cs.count x=2):∃A B C:List Nat,cs=A++x::(B++x::C)/\x∉A/\x∉B/\x∉C/\(k=A.length\/k=A.length+1+B.length):=by
 obtain⟨A,B,C,e,hA,hB,hC⟩:=zDJ h2;refine⟨A,B,C,e,hA,hB,hC,?_⟩;rw[e]at hg
 by_cases h1:k<A.length
 ·rw[qAa h1]at hg;exact absurd (qAx hg) hA
 ·rw[qA8 (by omega)]at hg;cases hj:k-A.length with
  |zero=>exact .inl (by omega)
  |succ j=>
   rw[hj,qBw]at hg
   by_cases h3:j<B.length
   ·rw[qAa h3]at hg;exact absurd (qAx hg) hB
   ·rw[qA8 (by omega)]at hg;cases hi:j-B.length with
    |zero=>exact .inr (by omega)
    |succ i=>
     rw[hi,qBw]at hg;exact absurd (qAx hg) hC
theorem zZE(A B C:List Nat)(x:Nat):(A++x::(B++x::C)).take A.length=A/\(A++x::(B++x::C)).take (A.length+1)=A++[x]/\(A++x::(B++x::C)).take (A.length+1+B.length)=A++x::B/\(A++x::(B++x::C)).take (A.length+1+B.length+1)=A++x::(B++[x]):=by
 refine⟨qCe rfl,?_,?_,?_⟩
 ·rw[show A++x::(B++x::C)=(A++[x])++(B++x::C) by simp];exact qCe (by simp)
 ·rw[show A++x::(B++x::C)=(A++x::B)++(x::C) by simp];exact qCe (by simp;omega)
 ·rw[show A++x::(B++x::C)=(A++x::(B++[x]))++C by simp];exact qCe (by simp;omega)
theorem zKC{A R:List Nat}{x:Nat}(h:x∉A):(A++x::R).idxOf x=A.length:=by
 rw[qCd,if_neg h];simp
def fW(cs O:List Nat)(Y:Nat->Int)(b:Int)(e:Nat):Int:=(b+sY Y (cs.take (cs.idxOf (O.getD (e/4) 0)))+(if e%4=0 then 0 else if e%4=1 then Y (O.getD (e/4) 0)else if e%4=2 then Y (O.getD (e/4) 0)+sY Y (btw cs (O.getD (e/4) 0))else Y (O.getD (e/4) 0)+sY Y (btw cs (O.getD (e/4) 0))+Y (O.getD (e/4) 0)))%2
theorem zW0(cs O:List Nat)(Y:Nat->Int)(b:Int)(e:Nat):Bit (fW cs O Y b e):=zMH _
section
variable{n:Nat}{cs:List Nat}(w:Wd n cs)(h2:∀x∈cs,cs.count x=2)
include w h2
theorem zYA(Y:Nat->Int)(b:Int){k:Nat}(hk:k<cs.length):fW cs (ords cs) Y b (inA (rowW cs) k)=(b+sY Y (cs.take k))%2/\fW cs (ords cs) Y b (inA (rowW cs) k+1)=(b+sY Y (cs.take (k+1)))%2:=by
 have hm:=zF2 hk;have hg:cs[k]?=some (cs.getD k 0):=by rw[qA0,qA2 hk];rfl
 have hv:=zKB w hk;have hO:=getD_idx ((ords_mem cs _).mpr hm)
 generalize cs.getD k 0=x at hm hg hv hO
 obtain⟨A,B,C,e,hA,hB,hC,hk2⟩:=zTC hg (h2 x hm);have hidx:cs.idxOf x=A.length:=by rw[e];exact zKC hA
 have hbt:btw cs x=B:=by rw[e];exact zO2 hA hB
 obtain⟨t0,t1,t2,t3⟩:=zZE A B C x;rw[<- e]at t0 t1 t2 t3;rw[hidx]at hv;unfold fW
 rcases hk2 with rfl|rfl
 ·rw[if_neg (by omega)]at hv;rw[hv,show(4*(ords cs).idxOf x+2*0)/4=(ords cs).idxOf x by omega,show(4*(ords cs).idxOf x+2*0+1)/4=(ords cs).idxOf x by omega,show(4*(ords cs).idxOf x+2*0)%4=0 by omega,show(4*(ords cs).idxOf x+2*0+1)%4=1 by omega,hO,hidx,t0,t1,zH7,zDY];refine⟨by simp,?_⟩;rw[if_neg (by omega),if_pos rfl];simp[sY];omega
 ·rw[if_pos (by omega)]at hv;rw[hv,show(4*(ords cs).idxOf x+2*1)/4=(ords cs).idxOf x by omega,show(4*(ords cs).idxOf x+2*1+1)/4=(ords cs).idxOf x by omega,show(4*(ords cs).idxOf x+2*1)%4=2 by omega,show(4*(ords cs).idxOf x+2*1+1)%4=3 by omega,hO,hidx,hbt,t0,t2,t3];rw[zH7,zH7,zDY,zDY,zH7,zDY];rw[if_neg (by omega),if_neg (by omega),if_pos rfl,if_neg (by omega),if_neg (by omega),if_neg (by omega)]
  have:sY Y []=0:=rfl
  rw[this];exact⟨by omega,by omega⟩
theorem zSS(Y:Nat->Int):sY Y cs%2=0:=by
 rw[zHT Y (ords_nodup cs) cs fun b hb=>(ords_mem cs b).mpr hb];rw[zHN (g:=fun _=>0) fun k hk=>?_]
 ·rw[zB5 fun _ _=>rfl];rfl
 ·rw[h2 _ ((ords_mem cs _).mp (zAF hk))]
  generalize Y ((ords cs).getD k 0)=y
  omega
end
theorem zVO{n:Nat}{row:List Nat}(t:Twice n row){k:Nat}(hk:k<row.length):nt (tsW n row) (inA row k+1)=inA row ((k+1)%row.length)/\nt (tsW n row) (inA row ((k+1)%row.length))=inA row k+1:=by
 have h1:=(zH3 t (zDE t hk)).1;rw[(zDC t hk).1]at h1;have l2:=zDE t (qBy (k+1) (show 0<row.length by omega));have h2:=(zH3 t (e:=inA row ((k+1)%row.length)) (by omega)).1;rw[(zDC t hk).2]at h2;exact⟨by omega,by omega⟩
end Mp
namespace Mp
open Mi PySem
section
variable{n:Nat}{cs c:List Nat}(w:Wd n cs)(h2:∀x∈cs,cs.count x=2)(n1:1<=n)(hc:c.length=n)(hw:∀x∈c,x<3)(hsl:(sosL cs).length=n)
include w h2 n1 hc hw hsl
theorem zV1{p:Nat}(hp:p<n):(ords cs).getD p 0∈cs/\(cbW c (sosL cs) (ords cs)).getD p 0=c.getD ((sosL cs).idxOf ((ords cs).getD p 0)) 0/\(cbW c (sosL cs) (ords cs)).getD p 0<3:=by
 have ho:=w.ol;have hm:=zAF (d:=0) (show p<(ords cs).length by omega);refine⟨(ords_mem cs _).mp hm,zMF c (sosL cs) (ords cs) (by omega),?_⟩;rw[zMF c (sosL cs) (ords cs) (by omega)];exact zE6 hw (by rw[hc,<- hsl];exact qAg ((sos_mem _ cs).mpr ((ords_mem cs _).mp hm)))
theorem zb7{Y:Nat->Int}{b:Int}(h0:∀x∈cs,c.getD ((sosL cs).idxOf x) 0=0->Y x=0)(h1:∀x∈cs,c.getD ((sosL cs).idxOf x) 0=1->(sY Y (btw cs x)+Y x)%2=0)(h3:∀x∈cs,c.getD ((sosL cs).idxOf x) 0=2->sY Y (btw cs x)%2=0):Cst (tsW n (rowW cs)) (cbW c (sosL cs) (ords cs)) n (fW cs (ords cs) Y b):=by
 have hrl:(rowW cs).length=cs.length:=by simp[rowW]
 have hl:=w.len;refine⟨zW0 _ _ _ _,fun e he=>?_,fun e he=>?_⟩
 ·obtain⟨k,hk,he2⟩:=zHD w.tw he;have hkc:k<cs.length:=by omega
  have hm:(k+1)%(rowW cs).length<cs.length:=by rw[<- hrl];exact qBy _ (by omega)
  have key:fW cs (ords cs) Y b (inA (rowW cs) ((k+1)%(rowW cs).length))=fW cs (ords cs) Y b (inA (rowW cs) k+1):=by
   rw[(zYA w h2 Y b hkc).2,(zYA w h2 Y b hm).1]
   by_cases z:k+1=cs.length
   ·rw[hrl,z,qGa,qFj,qGg]
    have:=zSS w h2 Y
    have e0:sY Y []=0:=rfl;rw[e0];omega
   ·rw[hrl,qB0 (by omega)]
  obtain⟨a1,a2⟩:=zVO w.tw hk
  rcases he2 with rfl|rfl
  ·rw[a1];exact key
  ·rw[a2];exact key.symm
 ·have hp:e/4<n:=by omega
  obtain⟨m,g1,g2⟩:=zV1 w h2 n1 hc hw hsl hp;refine(zaS (n:=n) (F:=fW cs (ords cs) Y b) hp g2).mpr ?_ e he rfl
  generalize e/4=p at hp m g1 g2
  have q0:=h0 _ m;have q1:=h1 _ m;have q3:=h3 _ m;rw[<- g1]at q0 q1 q3;have v:∀s,s<4->fW cs (ords cs) Y b (4*p+s)=(b+sY Y (cs.take (cs.idxOf ((ords cs).getD p 0)))+(if s=0 then 0 else if s=1 then Y ((ords cs).getD p 0)else if s=2 then Y ((ords cs).getD p 0)+sY Y (btw cs ((ords cs).getD p 0))else Y ((ords cs).getD p 0)+sY Y (btw cs ((ords cs).getD p 0))+Y ((ords cs).getD p 0)))%2:=fun s hs=>by
   unfold fW;rw[show(4*p+s)/4=p by omega,show(4*p+s)%4=s by omega]
  have v0:=v 0 (by omega);have v1:=v 1 (by omega);have v2:=v 2 (by omega);have v3:=v 3 (by omega);rw[if_pos rfl]at v0;rw[if_neg (by omega),if_pos rfl]at v1;rw[if_neg (by omega),if_neg (by omega),if_pos rfl]at v2;rw[if_neg (by omega),if_neg (by omega),if_neg (by omega)]at v3;rw[Nat.add_zero]at v0;rw[v0,v1,v2,v3]
  generalize Y ((ords cs).getD p 0)=y at q0 q1 q3
  generalize sY Y (btw cs ((ords cs).getD p 0))=z at q1 q3
  generalize sY Y (cs.take (cs.idxOf ((ords cs).getD p 0)))=t
  refine⟨fun h=>?_,fun h=>?_,fun h=>?_⟩
  ·have:=q0 h;subst this;exact⟨by omega,by omega⟩
  ·have:=q1 h;exact⟨by omega,by omega⟩
  ·have:=q3 h;exact⟨by omega,by omega⟩
end
def yF(cs:List Nat)(F:Nat->Int)(x:Nat):Int:=(F (4*(ords cs).idxOf x)+F (4*(ords cs).idxOf x+1))%2
section
variable{n:Nat}{cs c:List Nat}{F:Nat->Int}(w:Wd n cs)(h2:∀x∈cs,cs.count x=2)(n1:1<=n)(hc:c.length=n)(hw:∀x∈c,x<3)(hsl:(sosL cs).length=n)(hF:Cst (tsW n (rowW cs)) (cbW c (sosL cs) (ords cs)) n F)
include w h2 n1 hc hw hsl hF
theorem zLY{x:Nat}(hx:x∈cs):(c.getD ((sosL cs).idxOf x) 0=0->F (4*(ords cs).idxOf x)=F (4*(ords cs).idxOf x+1)/\F (4*(ords cs).idxOf x+2)=F (4*(ords cs).idxOf x+3))/\(c.getD ((sosL cs).idxOf x) 0=1->F (4*(ords cs).idxOf x)=F (4*(ords cs).idxOf x+2)/\F (4*(ords cs).idxOf x+1)=F (4*(ords cs).idxOf x+3))/\(c.getD ((sosL cs).idxOf x) 0=2->F (4*(ords cs).idxOf x)=F (4*(ords cs).idxOf x+3)/\F (4*(ords cs).idxOf x+1)=F (4*(ords cs).idxOf x+2))/\c.getD ((sosL cs).idxOf x) 0<3:=by
 have hi:(ords cs).idxOf x<n:=by rw[<- w.ol];exact qAg ((ords_mem cs x).mpr hx)
 obtain⟨_,g1,g2⟩:=zV1 w h2 n1 hc hw hsl hi;rw[getD_idx ((ords_mem cs x).mpr hx)]at g1
 have:=(zaS (n:=n) (F:=F) hi g2).mp fun e he _=>hF.hj e he
 rw[g1]at this g2;exact⟨this.1,this.2.1,this.2.2,g2⟩
theorem zL5{k:Nat}(hk:k<cs.length):F (inA (rowW cs) ((k+1)%cs.length))=F (inA (rowW cs) k+1)/\(F (inA (rowW cs) k)+F (inA (rowW cs) k+1))%2=yF cs F (cs.getD k 0):=by
 have hrl:(rowW cs).length=cs.length:=by simp[rowW]
 have hkr:k<(rowW cs).length:=by omega
 refine⟨?_,?_⟩
 ·have:=hF.hn _ (zDE w.tw hkr)
  rw[(zVO w.tw hkr).1,hrl]at this;exact this
 ·have hv:=zKB w hk;obtain⟨f0,f1,f2,f3⟩:=zLY w h2 n1 hc hw hsl hF (zF2 hk);unfold yF
  generalize cs.getD k 0=x at hv f0 f1 f2 f3
  generalize c.getD ((sosL cs).idxOf x) 0=u at f0 f1 f2 f3
  by_cases z:cs.idxOf x<k
  ·rw[if_pos z]at hv;rw[hv];have hu:u=0\/u=1\/u=2:=by omega
   rcases hu with rfl|rfl|rfl
   ·obtain⟨a,b⟩:=f0 rfl
    show(F (4*(ords cs).idxOf x+2)+F (4*(ords cs).idxOf x+3))%2=_
    rw[a,b];omega
   ·obtain⟨a,b⟩:=f1 rfl
    show(F (4*(ords cs).idxOf x+2)+F (4*(ords cs).idxOf x+3))%2=_
    rw[a,b]
   ·obtain⟨a,b⟩:=f2 rfl
    show(F (4*(ords cs).idxOf x+2)+F (4*(ords cs).idxOf x+3))%2=_
    rw[a,b,Int.add_comm]
  ·rw[if_neg z]at hv;rw[hv];rfl
theorem zJC:∀{k:Nat},k<=cs.length->F (inA (rowW cs) (k%cs.length))%2=(F (inA (rowW cs) 0)+sY (yF cs F) (cs.take k))%2
 |0,_=>by rw[Nat.zero_mod,qFj];show _=(_+0)%2;rw[qE5]
 |k+1,hk=>by
  have ih:=zJC (k:=k) (by omega);rw[qB0 (show k<cs.length by omega)]at ih;obtain⟨s1,s2⟩:=zL5 w h2 n1 hc hw hsl hF (show k<cs.length by omega);have ht:cs.take (k+1)=cs.take k++[cs.getD k 0]:=by
   rw[List.take_succ_eq_append_getElem (show k<cs.length by omega),qA0,qA2 (show k<cs.length by omega)];rfl
  rw[s1,ht,zH7,zDY,<- s2];have e0:sY (yF cs F) []=0:=rfl;rw[e0];omega
theorem zIQ{x:Nat}(hx:x∈cs):(c.getD ((sosL cs).idxOf x) 0=0->yF cs F x=0)/\(c.getD ((sosL cs).idxOf x) 0=1->(sY (yF cs F) (btw cs x)+yF cs F x)%2=0)/\(c.getD ((sosL cs).idxOf x) 0=2->sY (yF cs F) (btw cs x)%2=0):=by
 obtain⟨f0,f1,f2,_⟩:=zLY w h2 n1 hc hw hsl hF hx;obtain⟨A,B,C,e,hA,hB,hC⟩:=zDJ (h2 x hx);have hidx:cs.idxOf x=A.length:=by rw[e];exact zKC hA
 have hbt:btw cs x=B:=by rw[e];exact zO2 hA hB
 obtain⟨t0,t1,t2,t3⟩:=zZE A B C x;rw[<- e]at t0 t1 t2 t3;have hlen:cs.length=A.length+1+B.length+1+C.length:=by rw[e];simp;omega
 have ga:cs.getD A.length 0=x:=by rw[e,qA0,qA8 (qA7 _)];simp
 have gb:cs.getD (A.length+1+B.length) 0=x:=by
  rw[e,qA0,qA8 (by omega),show A.length+1+B.length-A.length=B.length+1 by omega,qBw,qA8 (qA7 _)];simp
 have ia:=zKB w (k:=A.length) (by omega);have ib:=zKB w (k:=A.length+1+B.length) (by omega);rw[ga,hidx,if_neg (by omega)]at ia;rw[gb,hidx,if_pos (by omega)]at ib;have sa:=zJC w h2 n1 hc hw hsl hF (k:=A.length) (by omega);have sb:=zJC w h2 n1 hc hw hsl hF (k:=A.length+1+B.length) (by omega);rw[qB0 (by omega),t0,ia]at sa;rw[qB0 (by omega),t2,ib,zH7,zDY]at sb;have ea:4*(ords cs).idxOf x+2*0=4*(ords cs).idxOf x:=by omega
 have eb:4*(ords cs).idxOf x+2*1=4*(ords cs).idxOf x+2:=by omega
 rw[ea]at sa;rw[eb]at sb;rw[hbt];have hy:yF cs F x=(F (4*(ords cs).idxOf x)+F (4*(ords cs).idxOf x+1))%2:=rfl
 generalize sY (yF cs F) A=SA at sa sb
 generalize sY (yF cs F) B=SB at sb ⊢
 generalize yF cs F x=y at hy sb ⊢
 refine⟨fun h=>?_,fun h=>?_,fun h=>?_⟩
 ·have:=(f0 h).1;rw[hy,this];omega
 ·have:=(f1 h).1;omega
 ·have:=(f2 h).2;omega
end
end Mp
namespace Mp
open Mi PySem
section
variable{ts C:List Nat}{n:Nat}(hN:NetN ts (4*n))(hl:C.length=n)(hw:∀c∈C,c<3)
include hN hl hw
theorem zOO{e p x:Nat}(he:e<4*n)(p1:1<=p)(p3:itr (stp ts C) p e=e)(hx:x∈orb ts C e p):nt ts x∈orb ts C e p/\jn C x∈orb ts C e p/\x<4*n:=by
 obtain⟨st1,_⟩:=zH5 hN hl hw;have lt:∀j,itr (stp ts C) j e<4*n:=zF5 st1 he;obtain⟨i,hi,rfl|rfl⟩:=orb_mem.mp hx
 ·refine⟨?_,orb_mem.mpr ⟨i,hi,.inr rfl⟩,lt i⟩;cases i with
  |zero=>
   refine orb_mem.mpr ⟨p-1,by omega,.inr ?_⟩;have h:itr (stp ts C) (p-1+1) e=e:=by rw[show p-1+1=p by omega];exact p3
   show nt ts e=_
   conv=>lhs;rw[<- h]
   exact hN.inv _ (zE5 hl hw (lt (p-1))).1
  |succ j=>exact orb_mem.mpr ⟨j,by omega,.inr (hN.inv _ (zE5 hl hw (lt j)).1)⟩
 ·refine⟨?_,orb_mem.mpr ⟨i,hi,.inl (zE5 hl hw (lt i)).2⟩,(zE5 hl hw (lt i)).1⟩
  by_cases z:i+1=p
  ·refine orb_mem.mpr ⟨0,by omega,.inl ?_⟩;show itr (stp ts C) (i+1) e=e;rw[z];exact p3
  ·exact orb_mem.mpr ⟨i+1,by omega,.inl rfl⟩
theorem zYP{F:Nat->Int}(hF:Cst ts C n F){e p x:Nat}(he:e<4*n)(hx:x∈orb ts C e p):F x=F e:=by
 obtain⟨st1,_⟩:=zH5 hN hl hw;have lt:∀j,itr (stp ts C) j e<4*n:=zF5 st1 he;have hi:∀j,F (itr (stp ts C) j e)=F e:=fun j=>by
  induction j with
  |zero=>rfl
  |succ j ih=>
   show F (nt ts (jn C (itr (stp ts C) j e)))=_;rw[hF.hn _ (zE5 hl hw (lt j)).1,hF.hj _ (lt j),ih]
 obtain⟨i,_,rfl|rfl⟩:=orb_mem.mp hx
 ·exact hi i
 ·rw[hF.hj _ (lt i),hi i]
end
theorem zFU(f:Nat->List Nat):∀k r,r<(rdS f k).1.length->∃e,e<k/\(rdS f k).1.getD r []=f e/\∀i,i<r->e∉(rdS f k).1.getD i []
 |0,r,h=>by simp[rdS]at h
 |k+1,r,h=>by
  by_cases hg:(getW (rdS f k).2 (.inl (k:Int))).isSome=true
  ·have e:rdS f (k+1)=rdS f k:=by rw[rdS,if_pos hg]
   rw[e]at h ⊢;obtain⟨x,h1,h2⟩:=zFU f k r h;exact⟨x,by omega,h2⟩
  ·have e:(rdS f (k+1)).1=(rdS f k).1++[f k]:=by rw[rdS,if_neg hg]
   rw[e]at h ⊢;have gl:∀i,i<(rdS f k).1.length->((rdS f k).1++[f k]).getD i []=(rdS f k).1.getD i []:=fun i hi=>by
    rw[qA0,qAa hi,qA0]
   by_cases z:r<(rdS f k).1.length
   ·obtain⟨x,h1,h2,h3⟩:=zFU f k r z;refine⟨x,by omega,by rw[gl r z];exact h2,fun i hi=>?_⟩;rw[gl i (by omega)];exact h3 i hi
   ·have hr:r=(rdS f k).1.length:=by simp at h;omega
    subst hr;refine⟨k,by omega,?_,fun i hi hm=>?_⟩
    ·rw[qA0,qA8 (qA7 _)];simp
    ·rw[gl i hi]at hm;exact hg ((zD8 f k k).mpr ⟨_,zAF hi,hm⟩)
noncomputable def rI(R:List (List Nat))(e:Nat):Nat:=(R.map fun l=>decide (e∈l)).idxOf true
theorem zN5{R:List (List Nat)}{e e':Nat}(h:∀l∈R,e∈l↔e'∈l):rI R e=rI R e':=by
 unfold rI
 congr 1
 exact qAs fun l hl=>by simp[h l hl]
theorem zQ8:∀{R:List (List Nat)}{r e:Nat},r<R.length->e∈R.getD r []->(∀i,i<r->e∉R.getD i [])->rI R e=r
 |[],r,e,h,_,_=>by simp at h
 |l::R,0,e,_,hm,_=>by
  have:e∈l:=hm
  simp[rI,this]
 |l::R,r+1,e,h,hm,hn=>by
  have h0:e∉l:=hn 0 (by omega);have ih:=zQ8 (R:=R) (r:=r) (e:=e) (by simpa using h) hm fun i hi=>hn (i+1) (by omega)
  unfold rI at ih ⊢;rw[qAi,decide_eq_false h0,qCq]
  show(bif false==true then 0 else _)=_
  rw[show((false==true)=false) from rfl,cond_false,ih]
end Mp
namespace Mp
open Mi PySem
theorem zCS(c:List Nat)(k:Nat):(numL c).getD k 0=((c.getD k 0:Nat):Int):=by
 unfold numL;rw[qA0,qAh,qA0];cases c[k]?<;>rfl
theorem mem_kept{n k:Nat}{c:List Int}:k∈kept n c↔k<n/\c.getD k 0≠0:=by
 unfold kept;rw[qAr,qCi,decide_eq_true_iff]
theorem zP1(n:Nat)(c:List Int):(kept n c).Nodup:=qDs.filter _
def dat(cs c:List Nat)(F:Nat->Int):List Int:=F (inA (rowW cs) 0)::(kept (sosL cs).length (numL c)).map fun k=>yF cs F ((sosL cs).getD k 0)
section
variable{n:Nat}{cs c:List Nat}(w:Wd n cs)
include w
theorem zbW(Y:Nat->Int)(b:Int){x:Nat}(hx:x∈cs):yF cs (fW cs (ords cs) Y b) x=Y x%2:=by
 have hO:=getD_idx ((ords_mem cs x).mpr hx);unfold yF fW
 generalize(ords cs).idxOf x=i at hO
 rw[show 4*i/4=i by omega,show(4*i+1)/4=i by omega,show 4*i%4=0 by omega,show(4*i+1)%4=1 by omega,hO,if_pos rfl,if_neg (by omega),if_pos rfl];omega
end
section
variable{n:Nat}{cs c:List Nat}{F:Nat->Int}(w:Wd n cs)(h2:∀x∈cs,cs.count x=2)(n1:1<=n)(hc:c.length=n)(hw:∀x∈c,x<3)(hsl:(sosL cs).length=n)(hF:Cst (tsW n (rowW cs)) (cbW c (sosL cs) (ords cs)) n F)
include w h2 n1 hc hw hsl hF
theorem zYQ{G:Nat->Int}(hG:Cst (tsW n (rowW cs)) (cbW c (sosL cs) (ords cs)) n G)(h0:F (inA (rowW cs) 0)=G (inA (rowW cs) 0))(hy:∀x∈cs,yF cs F x=yF cs G x){e:Nat}(he:e<4*n):F e=G e:=by
 have hrl:(rowW cs).length=cs.length:=by simp[rowW]
 have sy:∀k,sY (yF cs F) (cs.take k)=sY (yF cs G) (cs.take k):=fun k=>by
  unfold sY
  congr 1
  exact qAs fun x hx=>hy x (List.mem_of_mem_take hx)
 have key:∀k,k<=cs.length->F (inA (rowW cs) (k%cs.length))=G (inA (rowW cs) (k%cs.length)):=fun k hk=>by
  have a:=zJC w h2 n1 hc hw hsl hF hk;have b:=zJC w h2 n1 hc hw hsl hG hk;rw[sy k,h0,<- b]at a
  rcases hF.hb (inA (rowW cs) (k%cs.length))with z|z<;>rcases hG.hb (inA (rowW cs) (k%cs.length))with y|y<;>omega
 obtain⟨k,hk,h⟩:=zHD w.tw he;have h1:=key (k+1) (by omega)
 rcases h with rfl|rfl
 ·rw[(zL5 w h2 n1 hc hw hsl hF (by omega)).1,(zL5 w h2 n1 hc hw hsl hG (by omega)).1]at h1;exact h1
 ·rw[hrl];exact h1
theorem zYM:RowN ((kept (sosL cs).length (numL c)).length+1) (dat cs c F)/\KerF (kept (sosL cs).length (numL c)).length (cpF (sosL cs).length (numL c) (crsT cs (sosL cs))) (dat cs c F).tail:=by
 refine⟨⟨by simp[dat],fun x hx=>?_⟩,?_⟩
 ·rcases qAb.mp hx with rfl|hx
  ·exact hF.hb _
  ·obtain⟨k,_,rfl⟩:=qAd.mp hx;exact zMH _
 have at_:∀k,k<(sosL cs).length->(sosL cs).getD k 0∈cs/\(sosL cs).idxOf ((sosL cs).getD k 0)=k:=fun k hk=>⟨(sos_mem _ cs).mp (zAF hk),idx_getD (sos_nodup cs) hk⟩
 refine(zNI (Y:=yF cs F) (sos_nodup cs) (fun b=>(sos_mem b cs).symm) h2 fun k hk h=>?_).mpr fun k hk h=>?_
 ·obtain⟨m,e⟩:=at_ k hk;obtain⟨d0,_,_⟩:=zIQ w h2 n1 hc hw hsl hF m;rw[e]at d0;rw[zCS]at h;exact d0 (by omega)
 ·obtain⟨m,e⟩:=at_ k hk;obtain⟨_,d1,d2⟩:=zIQ w h2 n1 hc hw hsl hF m;have h3:=(zLY w h2 n1 hc hw hsl hF m).2.2.2;rw[e]at d1 d2 h3;rw[zCS]at h ⊢
  by_cases z:c.getD k 0=1
  ·rw[if_pos (by omega)];exact d1 z
  ·rw[if_neg (by omega),qE5];exact d2 (by omega)
theorem zYN{G:Nat->Int}(hG:Cst (tsW n (rowW cs)) (cbW c (sosL cs) (ords cs)) n G)(h:dat cs c F=dat cs c G){e:Nat}(he:e<4*n):F e=G e:=by
 unfold dat at h;obtain⟨h0,ht⟩:=qHn h;refine zYQ w h2 n1 hc hw hsl hF hG h0 (fun x hx=>?_) he;have hi:=qAg ((sos_mem x cs).mpr hx);have ex:=getD_idx ((sos_mem x cs).mpr hx)
 by_cases z:c.getD ((sosL cs).idxOf x) 0=0
 ·rw[(zIQ w h2 n1 hc hw hsl hF hx).1 z,(zIQ w h2 n1 hc hw hsl hG hx).1 z]
 ·have hm:(sosL cs).idxOf x∈kept (sosL cs).length (numL c):=mem_kept.mpr ⟨hi,by rw[zCS];omega⟩
  have:=qG7.mp ht _ hm
  rw[ex]at this;exact this
end
def yZ(cs:List Nat)(ks:List Nat)(z:List Int)(x:Nat):Int:=if(sosL cs).idxOf x∈ks then z.getD (ks.idxOf ((sosL cs).idxOf x)+1) 0 else 0
theorem zWH{cs ks:List Nat}{z:List Int}(hk:∀k∈ks,k<(sosL cs).length)(hn:ks.Nodup)(hz:z.length=ks.length+1):(ks.map fun k=>yZ cs ks z ((sosL cs).getD k 0))=z.tail:=by
 refine qBf (by simp[hz]) fun i h1 h2=>?_
 have hi:i<ks.length:=by simpa using h1
 rw[qC0,List.getElem_tail];unfold yZ;rw[idx_getD (sos_nodup cs) (hk _ (qBz hi)),if_pos (qBz hi),hn.idxOf_getElem i hi,qA0,qA2 (by omega)];rfl
theorem zZ2{cs ks:List Nat}{z:List Int}(hz:∀x∈z,Bit x)(x:Nat):Bit (yZ cs ks z x):=by
 unfold yZ
 split
 ·rw[qA0];cases h:z[ks.idxOf ((sosL cs).idxOf x)+1]? with
  |none=>exact .inl rfl
  |some y=>exact hz y (qAx h)
 ·exact .inl rfl
section
variable{n:Nat}{cs c:List Nat}(w:Wd n cs)(h2:∀x∈cs,cs.count x=2)(n1:1<=n)(hc:c.length=n)(hw:∀x∈c,x<3)(hsl:(sosL cs).length=n)
include w h2 n1 hc hw hsl
theorem zQ4{z:List Int}(hz:RowN ((kept (sosL cs).length (numL c)).length+1) z)(hk:KerF (kept (sosL cs).length (numL c)).length (cpF (sosL cs).length (numL c) (crsT cs (sosL cs))) z.tail) :
  Cst (tsW n (rowW cs)) (cbW c (sosL cs) (ords cs)) n (fW cs (ords cs) (yZ cs (kept (sosL cs).length (numL c)) z) (z.getD 0 0))/\dat cs c (fW cs (ords cs) (yZ cs (kept (sosL cs).length (numL c)) z) (z.getD 0 0))=z:=by
 have yt:=zWH (cs:=cs) (ks:=kept (sosL cs).length (numL c)) (z:=z) (fun k h=>zGB k h) (zP1 _ _) hz.1;have y0:∀x∈cs,c.getD ((sosL cs).idxOf x) 0=0->yZ cs (kept (sosL cs).length (numL c)) z x=0:=fun x hx h=>by
  unfold yZ;exact if_neg fun hm=>(mem_kept.mp hm).2 (by rw[zCS,h];rfl)
 have yb:=zZ2 (cs:=cs) (ks:=kept (sosL cs).length (numL c)) hz.2
 generalize yZ cs (kept (sosL cs).length (numL c)) z=Y at yt y0 yb ⊢
 rw[<- yt]at hk;have hkw:=(zNI (Y:=Y) (sos_nodup cs) (fun b=>(sos_mem b cs).symm) h2 fun k hk h=>by
  rw[zCS]at h;refine y0 _ ((sos_mem _ cs).mp (zAF hk)) ?_;rw[idx_getD (sos_nodup cs) hk]
  omega).mp hk
 have at_:∀x∈cs,c.getD ((sosL cs).idxOf x) 0≠0->(sY Y (btw cs x)+(if c.getD ((sosL cs).idxOf x) 0=1 then Y x else 0))%2=0:=fun x hx h=>by
  have hi:=qAg ((sos_mem x cs).mpr hx)
  have:=hkw _ hi (by rw[zCS];omega)
  rw[zCS,getD_idx ((sos_mem x cs).mpr hx)]at this
  by_cases e:c.getD ((sosL cs).idxOf x) 0=1
  ·rw[if_pos (by omega)]at this;rw[if_pos e];exact this
  ·rw[if_neg (by omega)]at this;rw[if_neg e];exact this
 refine⟨zb7 w h2 n1 hc hw hsl y0 (fun x hx h=>?_) fun x hx h=>?_,?_⟩
 ·have:=at_ x hx (by omega)
  rw[if_pos h]at this;exact this
 ·have:=at_ x hx (by omega)
  rw[if_neg (by omega),qE5]at this;exact this
 ·have hl:=w.len;unfold dat;rw[(zYA w h2 Y (z.getD 0 0) (k:=0) (by omega)).1,qFj];have e1:((kept (sosL cs).length (numL c)).map fun k=>yF cs (fW cs (ords cs) Y (z.getD 0 0)) ((sosL cs).getD k 0))=(kept (sosL cs).length (numL c)).map fun k=>Y ((sosL cs).getD k 0):=qAs fun k hk=>by
   rw[zbW w Y _ ((sos_mem _ cs).mp (zAF (zGB k hk)))]
   rcases yb ((sosL cs).getD k 0)with e|e<;>rw[e]<;>rfl
  rw[e1,yt];have hzl:=hz.1;cases z with
  |nil=>simp at hzl
  |cons b t=>
   have hb:=hz.2 b (by simp)
   show(b+0)%2::t=_
   congr 1
   rcases hb with e|e<;>rw[e]<;>rfl
end
end Mp
namespace Mp
open Mi PySem
theorem zMY{m:Nat}{x y:List Int}(hx:RowN m x)(hy:RowN m y)(h:∀r,r<m->x.getD r 0=y.getD r 0):x=y:=by
 have h1:=hx.1;have h2:=hy.1;refine qBf (by omega) fun i g1 g2=>?_
 have:=h i (by omega)
 rw[qA0,qA2 g1,qA0,qA2 g2]at this;exact this
theorem zMX{m:Nat}{x:List Int}(hx:RowN m x)(r:Nat):Bit (x.getD r 0):=by
 rw[qA0];cases h:x[r]? with
 |none=>exact .inl rfl
 |some y=>exact hx.2 y (qAx h)
structure Hds(ts C:List Nat)(n:Nat)(R:List (List Nat))(hd:Nat->Nat):Prop where
 lt:∀r,r<R.length->hd r<4*n
 mem:∀r,r<R.length->hd r∈R.getD r []
 fst:∀r,r<R.length->∀i,i<r->hd r∉R.getD i []
 same:∀r,r<R.length->∀e,e∈R.getD r []->∀F,Cst ts C n F->F e=F (hd r)
 cls:∀r,r<R.length->∀e,e∈R.getD r []->nt ts e∈R.getD r []/\jn C e∈R.getD r []
 cov:∀e,e<4*n->∃r,r<R.length/\e∈R.getD r []
section
variable{ts C:List Nat}{n:Nat}(hN:NetN ts (4*n))(hl:C.length=n)(hw:∀c∈C,c<3)
include hN hl hw
theorem zU8{f:Nat->List Nat}{g:Nat->Nat}(hf:∀e,e<4*n->f e=orb ts C e (g e)/\1<=g e/\g e<=4*n/\itr (stp ts C) (g e) e=e/\∀q,1<=q->q<g e->itr (stp ts C) q e≠e):∃hd,Hds ts C n (rdS f (4*n)).1 hd:=by
 have h1:∀r:Nat,∃e,r<(rdS f (4*n)).1.length->e<4*n/\(rdS f (4*n)).1.getD r []=f e/\∀i,i<r->e∉(rdS f (4*n)).1.getD i []:=fun r=>by
  by_cases h:r<(rdS f (4*n)).1.length
  ·obtain⟨e,he⟩:=zFU f (4*n) r h;exact⟨e,fun _=>he⟩
  ·exact⟨0,fun z=>absurd z h⟩
 obtain⟨hd,hh⟩:=qEl h1;have self:∀e,e<4*n->e∈f e:=fun e he=>by
  obtain⟨a,b,_⟩:=hf e he;rw[a];exact orb_mem.mpr ⟨0,by omega,.inl rfl⟩
 refine⟨hd,fun r h=>(hh r h).1,fun r h=>?_,fun r h=>(hh r h).2.2,fun r h e he F hF=>?_,fun r h e he=>?_,fun e he=>?_⟩
 ·obtain⟨a,b,_⟩:=hh r h;rw[b];exact self _ a
 ·obtain⟨a,b,_⟩:=hh r h;rw[b,(hf _ a).1]at he;exact zYP hN hl hw hF a he
 ·obtain⟨a,b,_⟩:=hh r h;obtain⟨q0,q1,_,q3,_⟩:=hf _ a;rw[b,q0]at he ⊢;obtain⟨c1,c2,_⟩:=zOO hN hl hw a q1 q3 he;exact⟨c1,c2⟩
 ·obtain⟨l,hm,hx⟩:=(zD8 f e (4*n)).mp (zFV f (4*n) self e he);obtain⟨r,hr,rfl⟩:=zBW (d:=[]) hm;exact⟨r,hr,hx⟩
variable{R:List (List Nat)}{hd:Nat->Nat}(H:Hds ts C n R hd)
include H
theorem zY7{F G:Nat->Int}(hF:Cst ts C n F)(hG:Cst ts C n G)(h:∀r,r<R.length->F (hd r)=G (hd r)){e:Nat}(he:e<4*n):F e=G e:=by
 obtain⟨r,hr,hm⟩:=H.cov e he;rw[H.same r hr e hm F hF,H.same r hr e hm G hG,h r hr]
theorem zLW{x:List Int}(hx:RowN R.length x):Cst ts C n (fun e=>x.getD (rI R e) 0)/\∀r,r<R.length->x.getD (rI R (hd r)) 0=x.getD r 0:=by
 refine⟨⟨fun e=>zMX hx _,fun e he=>?_,fun e he=>?_⟩,fun r hr=>?_⟩
 ·show x.getD (rI R (nt ts e)) 0=_;rw[zN5 (e:=nt ts e) (e':=e) fun l hm=>?_];obtain⟨r,hr,rfl⟩:=zBW (d:=[]) hm;refine⟨fun h=>?_,fun h=>(H.cls r hr _ h).1⟩
  have:=(H.cls r hr _ h).1
  rw[hN.inv e he]at this;exact this
 ·show x.getD (rI R (jn C e)) 0=_;rw[zN5 (e:=jn C e) (e':=e) fun l hm=>?_];obtain⟨r,hr,rfl⟩:=zBW (d:=[]) hm;refine⟨fun h=>?_,fun h=>(H.cls r hr _ h).2⟩
  have:=(H.cls r hr _ h).2
  rw[(zE5 hl hw he).2]at this;exact this
 ·rw[zQ8 hr (H.mem r hr) (H.fst r hr)]
end
theorem zOJ{n:Nat}{cs c:List Nat}{R:List (List Nat)}{hd:Nat->Nat}(w:Wd n cs)(h2:∀x∈cs,cs.count x=2)(n1:1<=n)(hc:c.length=n)(hw:∀x∈c,x<3)(hsl:(sosL cs).length=n)
  (hlC:(cbW c (sosL cs) (ords cs)).length=n) (hwC:∀x∈cbW c (sosL cs) (ords cs),x<3) (H:Hds (tsW n (rowW cs)) (cbW c (sosL cs) (ords cs)) n R hd):2 ^ R.length=2*cnt (kept (sosL cs).length (numL c)).length (KerF (kept (sosL cs).length (numL c)).length (cpF (sosL cs).length (numL c) (crsT cs (sosL cs)))):=by
 have hN:=(zV3 w.tw).1;rw[<- zUO,<- zYR];refine qDy (zS8 (fun x=>dat cs c fun e=>x.getD (rI R e) 0) (fun x hx _=>?_) fun x y hx _ hy _ he=>?_) (zS8 (fun z=>(qA6 R.length).map fun r=>fW cs (ords cs) (yZ cs (kept (sosL cs).length (numL c)) z) (z.getD 0 0) (hd r)) (fun z hz hk=>?_) fun y z hy ky hz kz he=>?_)
 ·exact zYM w h2 n1 hc hw hsl (zLW hN hlC hwC H hx).1
 ·obtain⟨c1,g1⟩:=zLW hN hlC hwC H hx;obtain⟨c2,g2⟩:=zLW hN hlC hwC H hy;refine zMY hx hy fun r hr=>?_
  rw[<- g1 r hr,<- g2 r hr];exact zYN w h2 n1 hc hw hsl c1 c2 he (H.lt r hr)
 ·refine⟨⟨by simp,fun x hx=>?_⟩,trivial⟩;obtain⟨r,_,rfl⟩:=qAd.mp hx;exact zW0 _ _ _ _ _
 ·obtain⟨c1,d1⟩:=zQ4 w h2 n1 hc hw hsl hy ky;obtain⟨c2,d2⟩:=zQ4 w h2 n1 hc hw hsl hz kz;rw[<- d1,<- d2];have eq:∀e,e<4*n->fW cs (ords cs) (yZ cs (kept (sosL cs).length (numL c)) y) (y.getD 0 0) e=fW cs (ords cs) (yZ cs (kept (sosL cs).length (numL c)) z) (z.getD 0 0) e:=fun e he2=>zY7 hN hlC hwC H c1 c2 (fun r hr=>qG7.mp he r (qCi.mpr hr)) he2
  generalize fW cs (ords cs) (yZ cs (kept (sosL cs).length (numL c)) y) (y.getD 0 0)=F at eq
  generalize fW cs (ords cs) (yZ cs (kept (sosL cs).length (numL c)) z) (z.getD 0 0)=G at eq
  have hlen:=w.len;have hrl:(rowW cs).length=cs.length:=by simp[rowW]
  unfold dat;have e0:=eq _ (show inA (rowW cs) 0<4*n by have:=zDE w.tw (k:=0) (by omega);omega);rw[e0]
  congr 1
  refine qAs fun k hk=>?_
  have hx:=(sos_mem _ cs).mp (zAF (d:=0) (zGB k hk));have hi:(ords cs).idxOf ((sosL cs).getD k 0)<n:=by rw[<- w.ol];exact qAg ((ords_mem cs _).mpr hx)
  unfold yF;rw[eq _ (by omega),eq _ (by omega)]
end Mp
namespace Mp
open Mi PySem
theorem zXN(k:Int){m:Nat}(hm:0<m):modD (.int k) (.int (m:Int))=some (.int (k%(m:Int))):=by simp[hm]
theorem zOU(ns:List Int)(k:Int)(h0:0<=k)(h1:k<100000):∃c:Int,zC6 [.scr ns,.int k]=okR (.int c):=by
 have m1:mulD (.int 104729) (.int (k+1))=some (.int (104729*(k+1))):=zI9 (by omega) (by omega);have m2:∀z:Int,mulD (.int z) (.int 48271)=some (.int (z*48271)):=fun z=>zXL (by decide) (by decide)
 have m3:∀z:Int,mulD (.int z) (.int 69621)=some (.int (z*69621)):=fun z=>zXL (by decide) (by decide)
 have d1:∀z:Int,modD (.int z) (.int 2147483629)=some (.int (z%2147483629)):=fun z=>by simp
 have d2:∀z:Int,modD (.int z) (.int 2147483647)=some (.int (z%2147483647)):=fun z=>by simp
 have go:∀z:Int,∃c:Int,sSeq (sSet 3 0 [2,1] (eB modD (eB mulD (eB addD (eB modD (eV 2) (eC (.int 2147483629))) (eB mulD (eC (.int 104729)) (eB addD (eV 1) (eC (.int 1))))) (eC (.int 48271))) (eC (.int 2147483647)))) (sRet 0 0 [3] (eB modD (eB mulD (eV 3) (eC (.int 69621))) (eC (.int 2147483629)))) [some (.scr ns,0),some (.int k,0),some (.int z,0),none]=okR (.rt (.int c)):=fun z=>
  ⟨_,sg (b2 (b2 (b2 (b2 rfl rfl (d1 z)) (b2 rfl (b2 rfl rfl rfl) m1) rfl) rfl (m2 _)) rfl (d2 _)) (qA7 0) (sr (b2 (b2 rfl rfl (m3 _)) rfl (d1 _)) ⟨qA7 0,qA7 0⟩)⟩
 suffices h:∃c:Int,zC8 [some (.scr ns,0),some (.int k,0),none,none]=okR (.rt (.int c)) from h.imp fun c h=>zBN rfl h
 unfold zC8
 by_cases hk:0<ns.length
 ·have hk':(0:Int)<(ns.length:Int):=qFa.mpr hk;have i1:=zY0 (qDb k (Int.ne_of_gt hk')) (qCk k hk');have d3:=zXN k hk;obtain⟨c,hc⟩:=go (ns[(k%(ns.length:Int)).toNat]?.getD 0);refine⟨c,sg rfl (qA7 0) (st (r':=[some (.scr ns,0),some (.int k,0),some (.int (ns[(k%(ns.length:Int)).toNat]?.getD 0),0),none]) (tb1 (b2 (bi1 rfl rfl) rfl (tl rfl (decide_eq_true hk')))) (ss (b2 rfl (b2 rfl (bi1 rfl rfl) d3) ?_) (qA7 0)) hc)⟩
  show(itA ns _).map _=_
  rw[i1];rfl
 ·have hk':¬(0:Int)<(ns.length:Int):=fun z=>hk (qFa.mp z)
  obtain⟨c,hc⟩:=go 0;exact⟨c,sg rfl (qA7 0) (sp (tb1 (b2 (bi1 rfl rfl) rfl (tl rfl (decide_eq_false hk')))) hc)⟩
theorem zcH{r:Ro}{j i l:Nat}{e:EM}{z:Int}{ds:List Dt}{c:Dt}(h:r[i]?=some (some (.lst ds,l+1)))(he:e (full r)=okR (.int z))(h0:0<=z)(h1:z<ds.length)(hc:ds[z.toNat]?=some c)(hij:i≠j)(hz:ds.length<=1000) :
  sPop j i e r=okR (.nx ((r.set i (some (.lst (ds.eraseIdx z.toNat),l+1))).set j (some (c,l)))):=by
 unfold sPop;rw[h];dsimp only;rw[he,zA0];dsimp only;rw[zNK h0 h1];dsimp only;rw[hc];dsimp only;rw[if_pos ⟨hij,by omega⟩]
theorem zI0{α:Type}:∀(l:List α){i:Nat}(h:i<l.length),l.Perm (l[i]::l.eraseIdx i)
 |a::r,0,h=>by simp
 |a::r,i+1,h=>by
  have:=zI0 r (i:=i) (by simpa using h)
  simp only[qDe,qBk];exact(this.cons a).trans (qFi _ _ _)
abbrev abcL:List Nat:=(qA6 26).map (97 + ·)
theorem zPE:abcL.Nodup:=by decide
theorem zQZ:listXD [.str "abcdefghijklmnopqrstuvwxyz"]=some (.lst (abcL.map sgn)):=by
 rw[zYX]
 show(@ite _ ((⟨abcL.toArray⟩:Str).length<=100000) (qA4 _) (some (Dt.lst (signsD ⟨abcL.toArray⟩))) none)=_
 rw[if_pos (by rw[zHB];decide)];rfl
theorem zPK(M:Nat)(M1:1<=M)(M2:M<=10)(N:Int):∃cs ls:List Nat,zBM [.int N,.int (M:Int)]=okR (.str ⟨cs.toArray⟩)/\cs.Perm (ls++ls)/\ls.Nodup/\1<=ls.length/\ls.length<=M:=by
 have e0:(Str.ofString "")=⟨([]:List Nat).toArray⟩:=zPW zGO;have z0:=qDb N (show(M:Int)≠0 by omega);have z1:=qCk N (show(0:Int)<(M:Int) by omega);obtain⟨n,hn⟩:∃n:Nat,1+N%(M:Int)=(n:Int):=⟨(1+N%(M:Int)).toNat,by omega⟩
 have hn1:1<=n:=by omega
 have hn2:n<=M:=by omega
 have hla:=zQZ;have key:∃cs ls:List Nat,(cs.Perm (ls++ls)/\ls.Nodup/\ls.length=n)/\zCH [some (.int N,0),some (.int (M:Int),0),none,none,none,none,none,none,none]=okR (.rt (.str ⟨cs.toArray⟩)):=by
  have L1:nxR (forGo (.one 6) (sSeq (sPop 7 4 (eB modD (eV 3) (eBi lenD (aCons (eV 4) aNil)))) (sSeq (sSet 3 0 [3,4] (eB divD (eV 3) (eB addD (eBi lenD (aCons (eV 4) aNil)) (eC (.int 1))))) (sExt 5 0 (eLst (aCons (eV 7) (aCons (eV 7) aNil)))))) (nums 0 n) [some (.int N,0),some (.int (M:Int),0),some (.int (n:Int),1),some (.int (N/(M:Int)),0),some (.lst (abcL.map sgn),1),some (.lst [],9),none,none,none]) fun r=>∃(w:Int)(ls lf ps:List Nat)(o6 o7:Option Sl),r=[some (.int N,0),some (.int (M:Int),0),some (.int (n:Int),1),some (.int w,0),some (.lst (lf.map sgn),1),some (.lst (ps.map sgn),9),o6,o7,none]/\ps.Perm (ls++ls)/\(ls++lf).Perm abcL/\ls.length=n:=by
   refine zK1 (fun i r=>∃(w:Int)(ls lf ps:List Nat)(o6 o7:Option Sl),r=[some (.int N,0),some (.int (M:Int),0),some (.int (n:Int),1),some (.int w,0),some (.lst (lf.map sgn),1),some (.lst (ps.map sgn),9),o6,o7,none]/\ps.Perm (ls++ls)/\(ls++lf).Perm abcL/\ls.length=i) ⟨_,[],abcL,[],_,_,rfl,by simp,by simp,rfl⟩ (fun i hi r hr=>?_) fun r h=>h
   obtain⟨w,ls,lf,ps,o6,o7,rfl,hps,hlf,hll⟩:=hr;have hpl:=hps.length_eq;have hfl:=hlf.length_eq;simp only[qAl,qAm,qG6]at hpl hfl;obtain⟨q,hq⟩:∃q:Nat,w%(lf.length:Int)=(q:Int):=⟨(w%(lf.length:Int)).toNat,by have:=qDb w (show(lf.length:Int)≠0 by omega);omega⟩
   have hql:q<lf.length:=by have:=qCk w (show(0:Int)<lf.length by omega);omega
   have hlen:lenD [.lst (lf.map sgn)]=some (.int (lf.length:Int)):=by simp
   have hp:(0:Int)<(lf.length:Int):=by omega
   have hpop:=zcH (r:=[some (.int N,0),some (.int (M:Int),0),some (.int (n:Int),1),some (.int w,0),some (.lst (lf.map sgn),1),some (.lst (ps.map sgn),9),some (.int (i:Nat),0),o7,none]) (j:=7) (i:=4) (l:=0) (e:=eB modD (eV 3) (eBi lenD (aCons (eV 4) aNil))) (z:=(q:Int)) (ds:=lf.map sgn) (c:=sgn lf[q]) rfl (by
    generalize Dt.lst (lf.map sgn)=LF at hlen ⊢
    generalize Dt.lst (ps.map sgn)=PS
    generalize(lf.length:Int)=K at hlen hp hq ⊢
    simp[hlen,hp,hq]) (by omega) (by simp;omega) (by rw[qBo,qAh,qA2 hql];rfl) (by decide) (by simp;omega)
   rw[qBo,<- zG3]at hpop;refine zD0 fun bb hb=>?_
   refine zAS (r:=[some (.int N,0),some (.int (M:Int),0),some (.int (n:Int),1),some (.int w,0),some (.lst ((lf.eraseIdx q).map sgn),1),some (.lst (ps.map sgn),9),some (.int (i:Nat),0),some (sgn lf[q],0),none]) hpop ?_;subst hb;have hel:(lf.eraseIdx q).length=lf.length-1:=qBn hql;have hlen2:lenD [.lst ((lf.eraseIdx q).map sgn)]=some (.int ((lf.eraseIdx q).length:Int)):=by simp
   have hdiv:divD (.int w) (.int (((lf.eraseIdx q).length:Int)+1))=some (.int (w/(((lf.eraseIdx q).length:Int)+1))):=by
    simp only[zSL];rw[if_pos];omega
   refine zD0 fun bb hb=>?_
   refine zAS (r:=[some (.int N,0),some (.int (M:Int),0),some (.int (n:Int),1),some (.int (w/(((lf.eraseIdx q).length:Int)+1)),0),some (.lst ((lf.eraseIdx q).map sgn),1),some (.lst (ps.map sgn),9),some (.int (i:Nat),0),some (sgn lf[q],0),none]) (by
    generalize Dt.lst ((lf.eraseIdx q).map sgn)=LF at hlen2 ⊢
    generalize Dt.lst (ps.map sgn)=PS
    generalize((lf.eraseIdx q).length:Int)=K at hlen2 hdiv ⊢
    generalize sgn lf[q]=S
    simp[hlen2,hdiv,-zSL]) ?_
   subst hb;refine zAS (r:=[some (.int N,0),some (.int (M:Int),0),some (.int (n:Int),1),some (.int (w/(((lf.eraseIdx q).length:Int)+1)),0),some (.lst ((lf.eraseIdx q).map sgn),1),some (.lst ((ps++[lf[q],lf[q]]).map sgn),9),some (.int (i:Nat),0),some (sgn lf[q],0),none]) (by
    rw[zWL (n:=0) (ds:=ps.map sgn) (es:=[sgn lf[q],sgn lf[q]]) (k:=8) rfl (by simp) (by simp;omega) (qA7 _) (qAk _)]
    simp) ⟨_,ls++[lf[q]],lf.eraseIdx q,ps++[lf[q],lf[q]],_,_,rfl,?_,?_,by simp;omega⟩
   ·generalize lf[q]=x
    refine(List.Perm.append_right _ hps).trans ?_;have e1:ls++ls++[x,x]=ls++(ls++[x,x]):=by simp
    have e2:ls++[x]++(ls++[x])=ls++([x]++(ls++[x])):=by simp
    rw[e1,e2];refine qCo _ ?_;have e3:ls++[x,x]=ls++x::[x]:=rfl;rw[e3];refine List.perm_middle.trans ?_;simp
   ·rw[qCb];refine(qCo _ ?_).trans hlf;exact(zI0 lf hql).symm
  obtain⟨r1,g1,w,ls,lf,ps,o6,o7,rfl,hps,hlf,hll⟩:=zBE L1;have hpl:=hps.length_eq;simp only[qAl]at hpl;have hnd:ls.Nodup:=(qDj.mp (hlf.nodup_iff.mpr zPE)).1;have L2:nxR (forGo (.one 6) (sSeq (sAddPop 8 5 (eB modD (eV 3) (eBi lenD (aCons (eV 5) aNil)))) (sSet 3 0 [3,5] (eB divD (eV 3) (eB addD (eBi lenD (aCons (eV 5) aNil)) (eC (.int 1)))))) (nums 0 (2*n)) [some (.int N,0),some (.int (M:Int),0),some (.int (n:Int),1),some (.int w,0),some (.lst (lf.map sgn),1),some (.lst (ps.map sgn),9),o6,o7,some (.str ⟨([]:List Nat).toArray⟩,0)]) fun r=>∃(w:Int)(ws:List Nat)(o5 o6:Option Sl),r=[some (.int N,0),some (.int (M:Int),0),some (.int (n:Int),1),some (.int w,0),some (.lst (lf.map sgn),1),o5,o6,o7,some (.str ⟨ws.toArray⟩,0)]/\ws.Perm ps:=by
   refine zK1 (fun i r=>∃(w:Int)(o6:Option Sl)(qs ws:List Nat),r=[some (.int N,0),some (.int (M:Int),0),some (.int (n:Int),1),some (.int w,0),some (.lst (lf.map sgn),1),some (.lst (qs.map sgn),9),o6,o7,some (.str ⟨ws.toArray⟩,0)]/\(ws++qs).Perm ps/\qs.length+i=2*n) ⟨w,o6,ps,[],rfl,by simp,by omega⟩ (fun i hi r hr=>?_) fun r hr=>?_
   ·obtain⟨w,o6,qs,ws,rfl,hw,hq⟩:=hr;have hwl:=hw.length_eq;simp only[qAl]at hwl;obtain⟨q,hqe⟩:∃q:Nat,w%(qs.length:Int)=(q:Int):=⟨(w%(qs.length:Int)).toNat,by have:=qDb w (show(qs.length:Int)≠0 by omega);omega⟩
    have hql:q<qs.length:=by have:=qCk w (show(0:Int)<qs.length by omega);omega
    have hlen:lenD [.lst (qs.map sgn)]=some (.int (qs.length:Int)):=by simp
    have hp:(0:Int)<(qs.length:Int):=by omega
    have hel:(qs.eraseIdx q).length=qs.length-1:=qBn hql;refine zD0 fun bb hb=>?_
    refine zAS (r:=[some (.int N,0),some (.int (M:Int),0),some (.int (n:Int),1),some (.int w,0),some (.lst (lf.map sgn),1),some (.lst ((qs.eraseIdx q).map sgn),9),some (.int (i:Nat),0),o7,some (.str ⟨(ws++[qs[q]]).toArray⟩,0)]) (by
     show(sAddPop 8 5 (eB modD (eV 3) (eBi lenD (aCons (eV 5) aNil)))) [some (.int N,0),some (.int (M:Int),0),some (.int (n:Int),1),some (.int w,0),some (.lst (lf.map sgn),1),some (.lst (qs.map sgn),9),some (.int (i:Nat),0),o7,some (.str ⟨ws.toArray⟩,0)]=_
     rw[zSK (ds:=qs.map sgn) (k:=8) (q:=q) (z:=⟨ws.toArray⟩) (u:=⟨#[qs[q]]⟩) (l0:=0) rfl rfl (by
       generalize Dt.lst (qs.map sgn)=QS at hlen ⊢
       generalize Dt.lst (lf.map sgn)=LF
       generalize(qs.length:Int)=M at hlen hp hqe ⊢
       simp[hlen,hp,hqe]) (by rw[qAh,qA2 hql];rfl) (by decide) (by simp;omega) (by
       rw[zHB];show ws.length+1<=_
       omega)]
     have ez:(⟨ws.toArray⟩:Str)++⟨#[qs[q]]⟩=⟨(ws++[qs[q]]).toArray⟩:=by
      show(⟨ws.toArray++#[qs[q]]⟩:Str)=_
      simp
     rw[ez,zG3]
     rfl) ?_
    subst hb;have hlen2:lenD [.lst ((qs.eraseIdx q).map sgn)]=some (.int ((qs.eraseIdx q).length:Int)):=by simp
    have hdiv:divD (.int w) (.int (((qs.eraseIdx q).length:Int)+1))=some (.int (w/(((qs.eraseIdx q).length:Int)+1))):=by
     simp only[zSL];rw[if_pos];omega
    refine zAS (r:=[some (.int N,0),some (.int (M:Int),0),some (.int (n:Int),1),some (.int (w/(((qs.eraseIdx q).length:Int)+1)),0),some (.lst (lf.map sgn),1),some (.lst ((qs.eraseIdx q).map sgn),9),some (.int (i:Nat),0),o7,some (.str ⟨(ws++[qs[q]]).toArray⟩,0)]) (by
     generalize Dt.lst ((qs.eraseIdx q).map sgn)=QS at hlen2 ⊢
     generalize Dt.lst (lf.map sgn)=LF
     generalize((qs.eraseIdx q).length:Int)=M at hlen2 hdiv ⊢
     generalize Dt.str ⟨(ws++[qs[q]]).toArray⟩=S
     simp[hlen2,hdiv,-zSL]) ⟨_,_,_,_,rfl,?_,by omega⟩
    rw[qCb];refine(qCo _ ?_).trans hw;exact(zI0 qs hql).symm
   ·obtain⟨w,o6,qs,ws,rfl,hw,hq⟩:=hr
    have:qs=[]:=qD6.mp (by omega)
    subst this;exact⟨w,ws,_,_,rfl,by simpa using hw⟩
  obtain⟨r2,g2,w',ws,o5,o6',rfl,hws⟩:=zBE L2;refine⟨ws,ls,⟨hws.trans hps,hnd,hll⟩,?_⟩;unfold zCH;have s1:sSet 2 1 [0,1] (eB addD (eC (.int 1)) (eB modD (eV 0) (eV 1))) [some (.int N,0),some (.int (M:Int),0),none,none,none,none,none,none,none]=okR (.nx [some (.int N,0),some (.int (M:Int),0),some (.int (n:Int),1),none,none,none,none,none,none]):=by
   exact ss (b2 rfl (b2 rfl rfl (mdi (by omega) rfl)) (adi hn)) (qAk 1)
  have s2:sSet 3 0 [0,1] (eB divD (eV 0) (eV 1)) [some (.int N,0),some (.int (M:Int),0),some (.int (n:Int),1),none,none,none,none,none,none]=okR (.nx [some (.int N,0),some (.int (M:Int),0),some (.int (n:Int),1),some (.int (N/(M:Int)),0),none,none,none,none,none]):=by
   exact ss (b2 rfl rfl (dvi ⟨by omega,by omega⟩)) (qAk 0)
  have dA:(Dt.lst (abcL.map sgn)).dep<=1:=by
   rw[Dt.dep,zY8 (by intro d hd;obtain⟨l,_,rfl⟩:=qAd.mp hd;rfl)];omega
  have s3:sSet 4 1 [] (eBi listXD (aCons (eC (.str "abcdefghijklmnopqrstuvwxyz")) aNil)) [some (.int N,0),some (.int (M:Int),0),some (.int (n:Int),1),some (.int (N/(M:Int)),0),none,none,none,none,none]=okR (.nx [some (.int N,0),some (.int (M:Int),0),some (.int (n:Int),1),some (.int (N/(M:Int)),0),some (.lst (abcL.map sgn),1),none,none,none,none]):=by
   generalize Dt.lst (abcL.map sgn)=AB at hla dA ⊢
   generalize Dt.str "abcdefghijklmnopqrstuvwxyz" = Z at hla ⊢
   simp[hla,dA]
  have s4:sSet 5 9 [] (eLst aNil) [some (.int N,0),some (.int (M:Int),0),some (.int (n:Int),1),some (.int (N/(M:Int)),0),some (.lst (abcL.map sgn),1),none,none,none,none]=okR (.nx [some (.int N,0),some (.int (M:Int),0),some (.int (n:Int),1),some (.int (N/(M:Int)),0),some (.lst (abcL.map sgn),1),some (.lst [],9),none,none,none]):=by
   generalize Dt.lst (abcL.map sgn)=AB
   simp
  have s6:sSet 8 0 [] (eC (.str "")) [some (.int N,0),some (.int (M:Int),0),some (.int (n:Int),1),some (.int w,0),some (.lst (lf.map sgn),1),some (.lst (ps.map sgn),9),o6,o7,none]=okR (.nx [some (.int N,0),some (.int (M:Int),0),some (.int (n:Int),1),some (.int w,0),some (.lst (lf.map sgn),1),some (.lst (ps.map sgn),9),o6,o7,some (.str ⟨([]:List Nat).toArray⟩,0)]):=by
   rw[e0]
   generalize Dt.lst (lf.map sgn)=LF
   generalize Dt.lst (ps.map sgn)=PS
   simp
  have i1:iR1 (aCons (eV 2) aNil) (full [some (.int N,0),some (.int (M:Int),0),some (.int (n:Int),1),some (.int (N/(M:Int)),0),some (.lst (abcL.map sgn),1),some (.lst [],9),none,none,none])=okR (nums 0 n):=zE9 (n:=n) (by
   generalize Dt.lst (abcL.map sgn)=AB
   simp) (by omega)
  have i2:iR1 (aCons (eB mulD (eC (.int 2)) (eV 2)) aNil) (full [some (.int N,0),some (.int (M:Int),0),some (.int (n:Int),1),some (.int w,0),some (.lst (lf.map sgn),1),some (.lst (ps.map sgn),9),o6,o7,some (.str ⟨([]:List Nat).toArray⟩,0)])=okR (nums 0 (2*n)):=zE9 (n:=2*n) (by
   have m2:mulD (.int 2) (.int (n:Int))=some (.int ((2*n:Nat):Int)):=by rw[zI9 (by omega) (by omega)];congr 2
   generalize Dt.lst (lf.map sgn)=LF
   generalize Dt.lst (ps.map sgn)=PS
   generalize((2*n:Nat):Int)=M at m2 ⊢
   generalize(n:Int)=K at m2 ⊢
   simp[m2,-zWP]) (by omega)
  rw[zCI,s1,zA0];dsimp only;rw[zCI,s2,zA0];dsimp only;rw[zCI,s3,zA0];dsimp only;rw[zCI,s4,zA0];dsimp only;rw[zCI,zCQ,i1,zA0,g1,zA0];dsimp only;rw[zCI,s6,zA0];dsimp only;rw[zCI,zCQ,i2,zA0,g2,zA0];rfl
 obtain⟨cs,ls,⟨h1,h2,h3⟩,h4⟩:=key;exact⟨cs,ls,zBN rfl h4,h1,h2,by omega,by omega⟩
theorem zO7(N:Int):∃cs ls:List Nat,zBM [.int N,.int 10]=okR (.str ⟨cs.toArray⟩)/\cs.Perm (ls++ls)/\ls.Nodup/\1<=ls.length/\ls.length<=10:=zPK 10 (by omega) (by omega) N
theorem zND(ns:List Int)(k:Nat)(hk:k<100):∃N:Int,zAX [.scr ns,.int (k:Int)]=okR (.int N):=by
 suffices h:eiR (zCZ [some (.scr ns,0),some (.int (k:Int),0),none,none]) (fun _=>False) (fun d=>∃N:Int,d=.int N) by
  rcases h with⟨_,_,z⟩|⟨d,h1,N,rfl⟩
  ·exact z.elim
  ·exact⟨N,zBN rfl h1⟩
 have pw:powD (.int 10) (.int 60)=some (.int 1000000000000000000000000000000000000000000000000000000000000):=by simp
 unfold zCZ;refine zF1 (P:=fun r=>r=[some (.scr ns,0),some (.int (k:Int),0),some (.int 0,0),none]) (zM4 (zAS (ss rfl (qA7 0)) rfl)) ?_
 rintro r rfl
 refine zF1 (P:=fun r=>r=[some (.scr ns,0),some (.int (k:Int),0),some (.int 0,0),none]) ?_ ?_
 ·cases ns with
  |nil=>exact .inl ⟨_,by rw[zJ4,ta0 (tb1 (k:=false) (b2 (bi1 rfl rfl) rfl rfl)),zA0,if_neg (by simp)];rfl,rfl⟩
  |cons a t=>
   have i1:ixD (.scr (a::t)) (.int 0)=some (.int a):=by
    show(itA (a::t) 0).map _=_
    rw[show itA (a::t) 0=some a from zDW (j:=0) rfl rfl];rfl
   have hA:tB (eB (cmpD fun i j=>decide (j<i)) (eBi lenD (aCons (eV 0) aNil)) (eC (.int 0))) (full [some (.scr (a::t),0),some (.int (k:Int),0),some (.int 0,0),none])=okR true:=tb1 (b2 (bi1 rfl rfl) rfl (tl rfl (decide_eq_true (qFa.mpr (Nat.succ_pos _)))));have p2:mulD (.int 2) (.int 1000000000000000000000000000000000000000000000000000000000000)=some (.int 2000000000000000000000000000000000000000000000000000000000000):=by rw[zI9 (by decide) (by decide)];rfl
   have hm2:modD (.int a) (.int 2)=some (.int (a%2)):=by simp
   by_cases hp:a%2=1
   ·have hB:tB (eB eqD (eB modD (eB ixD (eV 0) (eC (.int 0))) (eC (.int 2))) (eC (.int 1))) (full [some (.scr (a::t),0),some (.int (k:Int),0),some (.int 0,0),none])=okR true:=tb1 (b2 (b2 (b2 rfl rfl i1) rfl hm2) rfl (by simp[hp]));have hC:tB (eB (cmpD fun i j=>decide (i<j)) (eV 1) (eBi lenD (aCons (eV 0) aNil))) (full [some (.scr (a::t),0),some (.int (k:Int),0),some (.int 0,0),none])=okR (decide ((k:Int)<((a::t).length:Int))):=tb1 (b2 rfl (bi1 rfl rfl) rfl);have rv:∀z:Int,sRetV 1 2 [some (.scr (a::t),0),some (.int (k:Int),0),some (.int z,0),none]=okR (.rt (.int z)):=fun z=>by simp
    by_cases hl:k<(a::t).length
    ·obtain⟨c,hc⟩:∃c,itA (a::t) (k:Int)=some c:=⟨_,zDW (j:=k) rfl (qA2 hl)⟩
     have hc':ixD (.scr (a::t)) (.int (k:Int))=some (.int c):=by
      show(itA (a::t) (k:Int)).map _=_
      rw[hc];rfl
     obtain⟨q,hq,hq1,hq2⟩:∃q:Int,subD (.int 2) (.int (if(1:Int)<(k:Int)then 1 else(k:Int)))=some (.int q)/\0<q/\q<1000000000000000000000000:=⟨2-(if(1:Int)<(k:Int)then 1 else(k:Int)),rfl,by split<;>omega,by split<;>omega⟩
     have d1:∀z:Int,divD (.int z) (.int q)=some (.int (z/q)):=fun z=>by simp[hq1,hq2]
     have d2:modD (.int c) (.int 2000000000000000000000000000000000000000000000000000000000000)=some (.int (c%2000000000000000000000000000000000000000000000000000000000000)):=by simp
     refine .inr ⟨.int (c%2000000000000000000000000000000000000000000000000000000000000/q),?_,_,rfl⟩;rw[zJ4,ta1 hA hB,zA0,if_pos rfl];rw[decide_eq_true (qHw.mpr hl)]at hC;exact st (r':=[some (.scr (a::t),0),some (.int (k:Int),0),some (.int (c%2000000000000000000000000000000000000000000000000000000000000/q),0),none]) hC (ss (b2 (b2 (b2 rfl rfl hc') (b2 rfl (b2 rfl rfl pw) p2) d2) (b2 rfl (bi2 rfl rfl rfl) hq) (d1 _)) (qA7 0)) (rv _)
    ·refine .inr ⟨.int 0,?_,_,rfl⟩;rw[zJ4,ta1 hA hB,zA0,if_pos rfl];rw[decide_eq_false fun z=>hl (qHw.mp z)]at hC;exact sp hC (rv 0)
   ·refine .inl ⟨_,?_,rfl⟩;have hB:tB (eB eqD (eB modD (eB ixD (eV 0) (eC (.int 0))) (eC (.int 2))) (eC (.int 1))) (full [some (.scr (a::t),0),some (.int (k:Int),0),some (.int 0,0),none])=okR false:=tb1 (b2 (b2 (b2 rfl rfl i1) rfl hm2) rfl (by simp[hp]));rw[zJ4,ta1 hA hB,zA0,if_neg (by simp)];rfl
 rintro r rfl
 refine zF1 (P:=fun r=>∃N:Int,∃l2 o3,r=[some (.scr ns,0),some (.int (k:Int),0),some (.int N,l2),o3]) (zM4 ?_) ?_
 ·rw[zCQ,show iR1 (aCons (eC (.int 7)) aNil) (full [some (.scr ns,0),some (.int (k:Int),0),some (.int 0,0),none])=okR (nums 0 7) from zE9 (n:=7) (by simp) (by decide),zA0];refine zK1 (fun _ r=>∃N:Int,∃l2 o3,r=[some (.scr ns,0),some (.int (k:Int),0),some (.int N,l2),o3]) ⟨0,0,none,rfl⟩ (fun j hj r hr=>?_) fun r h=>h
  obtain⟨N,l2,o3,rfl⟩:=hr;obtain⟨c,hc⟩:=zOU ns (7*(k:Int)+(j:Int)) (by omega) (by omega);have m2:mulD (.int N) (.int 2147483629)=some (.int (N*2147483629)):=zXL (by decide) (by decide);have m3:mulD (.int 7) (.int (k:Int))=some (.int (7*(k:Int))):=by rw[zI9 (by decide) (by decide)]
  exact zAS (ss (b2 (b2 rfl rfl m2) (c2 rfl (b2 (b2 rfl rfl m3) rfl rfl) hc) rfl) (qAk _)) ⟨_,_,_,rfl⟩
 rintro r ⟨N,l2,o3,rfl⟩
 have d3:modD (.int N) (.int 1000000000000000000000000000000000000000000000000000000000000)=some (.int (N%1000000000000000000000000000000000000000000000000000000000000)):=by simp
 exact .inr ⟨_,sr (b2 rfl (b2 rfl rfl pw) d3) ⟨qAk _,qAk _⟩,_,rfl⟩
theorem zQL{ts C:List Nat}{n:Nat}(hN:NetN ts (4*n))(hl:C.length=n)(hw:∀c∈C,c<3):∃(f:Nat->List Nat)(g:Nat->Nat),(∀e,e<4*n->f e=orb ts C e (g e)/\1<=g e/\g e<=4*n/\itr (stp ts C) (g e) e=e/\∀q,1<=q->q<g e->itr (stp ts C) q e≠e)/\∀k,(f k).length<=8*n:=by
 obtain⟨s1,s2⟩:=zH5 hN hl hw;have hg:∀e:Nat,∃p,e<4*n->1<=p/\p<=4*n/\itr (stp ts C) p e=e/\∀q,1<=q->q<p->itr (stp ts C) q e≠e:=fun e=>by
  by_cases he:e<4*n
  ·obtain⟨p,h⟩:=zP7 s1 s2 he;exact⟨p,fun _=>h⟩
  ·exact⟨0,fun z=>absurd z he⟩
 obtain⟨g,hg⟩:=qEl hg;have h1:∀e,e<4*n->(if e<4*n then orb ts C e (g e)else[])=orb ts C e (g e):=fun e he=>if_pos he
 refine⟨fun e=>if e<4*n then orb ts C e (g e)else[],g,fun e he=>⟨h1 e he,hg e he⟩,fun k=>?_⟩
 show(if k<4*n then orb ts C k (g k)else[]).length<=_
 by_cases z:k<4*n
 ·rw[h1 k z,zLK]
  have:=(hg k z).2.1
  omega
 ·rw[if_neg z];exact qAk _
section
variable{n:Nat}{cs c:List Nat}(w:Wd n cs)(n1:1<=n)(hn:n<=10)(hc:c.length=n)(hw:∀x∈c,x<3)(hsl:(sosL cs).length=n)
include w n1 hn hc hw hsl
theorem zbN:(cbW c (sosL cs) (ords cs)).length=n/\∀x∈cbW c (sosL cs) (ords cs),x<3:=by
 refine⟨?_,zbR (ls:=sosL cs) (O:=ords cs) hw hc hsl fun x hx=>(sos_mem x cs).mpr ((ords_mem cs x).mp hx)⟩;unfold cbW;rw[qAm,w.ol]
theorem zK7:∃(R:List (List Nat))(hd:Nat->Nat),Hds (tsW n (rowW cs)) (cbW c (sosL cs) (ords cs)) n R hd/\R.length<=4*n/\zB9 [.str ⟨cs.toArray⟩,rowD (numL c)]=okR (zD7 R):=by
 obtain⟨hN,hne⟩:=zV3 w.tw;obtain⟨hlC,hwC⟩:=zbN w n1 hn hc hw hsl;have hst:=zOF w n1 hn hc hw hsl;have hrl:(rowW cs).length=cs.length:=by simp[rowW]
 obtain⟨f,g,hf,hfl⟩:=zQL hN hlC hwC;obtain⟨hd,H⟩:=zU8 hN hlC hwC hf;exact⟨_,hd,H,(zLE (f:=f) (B:=8*n) hfl (4*n)).1,zID hN hne hlC hwC hn n1 w.len hst (fun x hx=>zXT _ (by omega)) (fun x hx=>by rw[<- hrl];exact zSH w.tw hx) hf hfl⟩
end
theorem zZJ{n:Nat}{cs:List Nat}(w:Wd n cs):(sosL cs).length=n:=by
 rw[<- w.ol];exact qDy (zBI _ _ (sos_nodup cs) fun x hx=>(ords_mem cs x).mpr ((sos_mem x cs).mp hx)) (zBI _ _ (ords_nodup cs) fun x hx=>(sos_mem x cs).mpr ((ords_mem cs x).mp hx))
theorem zRR(N:Int){b:Nat}(b1:1<=b)(b2':b<=10)(n:Nat)(hn:n<=1000):∃c:List Nat,c.length=n/\(∀x∈c,x<b)/\zBG [.int N,.int (b:Int),.int (n:Int)]=okR (rowD (numL c)):=by
 suffices key:nxR (forGo (.one 4) (sSeq (sApp 3 0 (eB modD (eV 0) (eV 1))) (sSet 0 0 [0,1] (eB divD (eV 0) (eV 1)))) (nums 0 n) [some (.int N,0),some (.int (b:Int),0),some (.int (n:Int),0),some (rowD (numL []),9),none]) fun r=>∃(c:List Nat)(M:Int)(o:Option Sl),r=[some (.int M,0),some (.int (b:Int),0),some (.int (n:Int),0),some (rowD (numL c),9),o]/\c.length=n/\∀x∈c,x<b by
  obtain⟨r,h1,c,M,o,rfl,h2,h3⟩:=zBE key;refine⟨c,h2,h3,zBN rfl (sg el0 (by simp) ?_)⟩;rw[zCI,zCQ,zE9 (n:=n) (al0 rfl) (by omega),zA0];refine qGj (congrArg (fun z=>zA3 z _) h1) ?_;rfl
 refine zK1 (fun k r=>∃(c:List Nat)(M:Int)(o:Option Sl),r=[some (.int M,0),some (.int (b:Int),0),some (.int (n:Int),0),some (rowD (numL c),9),o]/\c.length=k/\∀x∈c,x<b) ⟨[],N,none,rfl,rfl,fun x hx=>by cases hx⟩ (fun k hk r hr=>?_) fun r h=>h
 obtain⟨c,M,o,rfl,h2,h3⟩:=hr;obtain⟨d,hd⟩:∃d:Nat,M%(b:Int)=(d:Int):=⟨(M%(b:Int)).toNat,by have:=qDb M (show(b:Int)≠0 by omega);omega⟩
 have hdl:d<b:=by have:=qCk M (show(0:Int)<b by omega);omega
 refine zD0 fun bb hb=>zAS (zc2 (ds:=(numL c).map Dt.int) (k:=8) (d:=.int (d:Int)) rfl (b2 rfl rfl (mdi (by omega) hd)) (by simp[numL];omega) (qAk _) (qAk _)) ?_
 subst hb;refine zAS (ss (d:=.int (M/(b:Int))) (b2 rfl rfl (dvi ⟨by omega,by omega⟩)) (qAk 0)) ⟨c++[d],M/(b:Int),some (.int (k:Nat),0),?_,by simp[h2],fun x hx=>?_⟩
 ·have e:rowD (numL (c++[d]))=.lst ((numL c).map Dt.int++[.int (d:Int)]):=by
   unfold rowD numL;simp
  rw[e];rfl
 ·rcases qAw.mp hx with h|h
  ·exact h3 x h
  ·rw[qAv.mp h];exact hdl
end Mp
namespace Mp
open Mi PySem
noncomputable def pB(p:Prop):Bool:=@decide p (qA4 p)
theorem zVL(p:Prop):pB p=true↔p:=by unfold pB;simp
theorem pB_t{p:Prop}(h:p):pB p=true:=(zVL p).mpr h
theorem pB_f{p:Prop}(h:¬p):pB p=false:=by
 cases e:pB p
 ·rfl
 ·exact absurd ((zVL p).mp e) h
theorem zO8(ks:List Nat)(hz:ks.length<=1000):zCU [rowD (numL ks)]=okR (.bl true):=by
 unfold zCU zGR;have hw:=zKA;have hc:eComp (iSq (eV 0)) 1 (.one 1) Mi.tYes (eCall zBO (aCons (eV 1) aNil)) [some (rowD (numL ks))]=okR (.lst (ks.map fun _=>Dt.bl true)):=by
  refine zBD (fun k:Nat=>Dt.int (k:Int)) _ ks rfl rfl (fun k _=>by simp[hw]) _ (by rw[numD];simp) (by omega)
 have hb:=zP9 ks;simp[startO,hc,hb]
def Rise(n:Nat)(ks:List Nat):Prop:=ks=(qA6 n).filter fun i=>decide (i∈ks)
theorem zLD(n:Nat)(p:Nat->Bool):Rise n ((qA6 n).filter p):=by
 unfold Rise;refine(qEc fun i hi=>?_);simp only[qAr,hi,true_and];cases p i<;>rfl
theorem Rise.lt{n:Nat}{ks:List Nat}(h:Rise n ks):∀k∈ks,k<n:=fun k hk=>by
 rw[h]at hk
 simpa using(qAr.mp hk).1
theorem Rise.le{n:Nat}{ks:List Nat}(h:Rise n ks):ks.length<=n:=by
 rw[h];exact qAp (qF9 _ _) (by simp)
theorem zU9(i:Nat)(ks:List Nat):hasD (.int (i:Int)) ((numL ks).map Dt.int)=some (decide (i∈ks)):=by
 rw[hasD,if_pos ⟨rfl,zC7 _⟩]
 congr 1
 unfold numL;rw[qB3]
 induction ks with
 |nil=>rfl
 |cons k r ih=>
  rw[qAi,qC2,ih]
  by_cases h:i=k
  ·subst h;simp
  ·simp[h,show ¬(k:Int)=(i:Int) by omega]
theorem zY4(i:Nat)(ks:List Nat):inD false (.int (i:Int)) (rowD (numL ks))=some (.bl (decide (i∈ks))):=by
 show(hasD (.int (i:Int)) ((numL ks).map Dt.int)).map _=_
 rw[zU9];rfl
theorem zSW(n:Nat)(f:Nat->Nat->Int)(ks:List Nat)(hn:n<=10)(hr:Rise n ks):zFG [mat (tab n f),rowD (numL ks)]=okR (.bl true):=by
 have hz:ks.length<=n:=hr.le;have hw:=zO8 ks (by omega);have hc:eComp (iR1 (aCons (eBi lenD (aCons (eV 0) aNil)) aNil)) 1 (.one 2) (tB (eB (inD false) (eV 2) (eV 1))) (eV 2) [some (mat (tab n f)),some (rowD (numL ks))]=okR (rowD (numL ks)):=by
  have:=zBK (ρ:=[some (mat (tab n f)),some (rowD (numL ks))]) (c:=tB (eB (inD false) (eV 2) (eV 1))) (e:=eV 2) (i:=2) (fun k:Nat=>Dt.int (k:Int)) (fun k:Nat=>Dt.int (k:Int)) (fun i=>decide (i∈ks)) (qA6 n) rfl (fun i hi=>by simp[zY4]) (fun i _ _=>by simp) (iR1 (aCons (eBi lenD (aCons (eV 0) aNil)) aNil)) (by rw[zE9 (n:=n) (by simp[zHM]) (by omega),zDK]) (by simp;omega)
  rw[this,numD];have hr':ks=(qA6 n).filter fun i=>decide (i∈ks):=hr
  rw[<- hr']
 unfold zFG zO3;have he:=zb8 (numL ks) (numL ks);simp[startO,hw,hc,he]
theorem zaK{m:Nat}{f:Nat->Nat->Int}:NS m f↔cnt m (KerF m f)=1:=by
 classical
 have hz:RowN m (qA9 m 0):=⟨by simp,fun x hx=>.inl (qCz hx)⟩
 have g0:∀j,(qA9 m (0:Int)).getD j 0=0:=fun j=>by
  rcases zMX hz j with e|e
  ·exact e
  ·rw[qA0]at e ⊢;cases hg:(qA9 m (0:Int))[j]? with
   |none=>rfl
   |some y=>exact qCz (qAx hg)
 have nd:((allv m).filter fun x=>decide (KerF m f x)).Nodup:=(zEY m).filter _;unfold cnt;constructor
 ·intro hns
  have:=zEG _ [qA9 m (0:Int)] nd fun x hx=>by
   obtain⟨a1,a2⟩:=qAr.mp hx;have hx:=allv_mem.mp a1;have a3:KerF m f x:=by simpa using a2
   have h0:=hns x hx a3;exact qAv.mpr (zMY hx hz fun r _=>by rw[h0 r,g0 r])
  have h1:=qCj (qAr.mpr ⟨allv_mem.mpr hz,decide_eq_true fun a _=>?_⟩:qA9 m (0:Int)∈(allv m).filter fun x=>decide (KerF m f x))
  ·have h2:_<=1:=this;omega
  ·unfold Ev;rw[zB5 fun k _=>by rw[g0 k,qGb]];rfl
 ·intro h x hx hk j
  apply qE8
  intro hne
  have:=zEG [qA9 m (0:Int),x] ((allv m).filter fun x=>decide (KerF m f x)) (by
   refine qBb.mpr ⟨fun hm=>?_,by simp⟩;rw[<- qAv.mp hm]at hne;exact hne (g0 j)) fun y hy=>by
   rcases qAb.mp hy with rfl|hy
   ·refine qAr.mpr ⟨allv_mem.mpr hz,decide_eq_true fun a _=>?_⟩;unfold Ev;rw[zB5 fun k _=>by rw[g0 k,qGb]];rfl
   ·rw[qAv.mp hy];exact qAr.mpr ⟨allv_mem.mpr hx,decide_eq_true hk⟩
  rw[h]at this;simp at this
theorem zTL{m:Nat}{f g:Nat->Nat->Int}(h:∀a b,a<m->b<m->f a b=g a b):NS m f↔NS m g:=by
 have e:∀(x:List Int) a,a<m->sumN m (fun b=>f a b*x.getD b 0)%2=sumN m (fun b=>g a b*x.getD b 0)%2:=fun x a ha=>zHN fun k hk=>by rw[h a k ha hk]
 exact⟨fun n x hx hk=>n x hx fun a ha=>by rw[e x a ha];exact hk a ha,fun n x hx hk=>n x hx fun a ha=>by rw[<- e x a ha];exact hk a ha⟩
theorem zbK{cs sl:List Nat}{c:List Int}(h2:∀x∈sl,cs.count x=2)(h1:∀k,c.getD k 0≠1)(a b:Nat)(ha:a<(kept sl.length c).length):cpF sl.length c (crsT cs sl) a b=sub (kept sl.length c) (crsT cs sl) a b:=by
 unfold cpF dg
 by_cases z:a=b/\a<(kept sl.length c).length
 ·rw[if_pos z,<- z.1];refine qGj (if_neg (h1 _)) ?_;exact(zNW (h2 _ (zAF (zGB _ (zAF ha))))).symm
 ·rw[if_neg z]
theorem zYT{n:Nat}{f:Nat->Nat->Int}{ks:List Nat}(hn:n<=10)(hb:Bits n f)(hr:Rise n ks):zES [mat (tab n f),rowD (numL ks)]=okR (.bl (pB (NS ks.length (sub ks f)))):=by
 have hz:ks.length<=n:=hr.le;have hk:∀k∈ks,k<n:=hr.lt;have hp:=zTG n f ks hk (by omega);have hbs:Bits ks.length (sub ks f):=fun i j hi hj=>hb _ _ (zE6 hk hi) (zE6 hk hj)
 have hs:=zSW n f ks hn hr;obtain⟨d,u1,u2⟩:=zJ8 ks.length (tab ks.length (sub ks f)) (zHM _ _) (zSP hbs) (by omega)
 rcases u2 with⟨rfl,x,x1,x2,j,x3,x4⟩|⟨R,rfl,g1,g2,g3⟩
 ·rw[pB_f fun hns=>?_]
  ·exact zBN rfl (sr (an1 (c2 rfl rfl hs) (b2 (c1 (c2 rfl rfl hp) u1) rfl rfl)) ⟨qAk _,qAk _⟩)
  ·have:=hns x x1 ((zXU x1.1).mp x2) j
   rw[x4]at this;exact absurd this (by decide)
 ·rw[pB_t (zZA g3)];exact zBN rfl (sr (an1 (c2 rfl rfl hs) (b2 (c1 (c2 rfl rfl hp) u1) rfl rfl)) ⟨qAk _,qAk _⟩)
theorem zXG{L c:Nat}(h:2 ^ L=2*c):L=1↔c=1:=by
 constructor
 ·rintro rfl
  omega
 ·rintro rfl
  rcases L with _|_|L
  ·simp at h
  ·rfl
  ·have:=Nat.one_le_two_pow (n:=L)
   rw[qHx,qHx]at h;omega
theorem zTU(ns:List Int)(hl:ns.length<=63)(hw:∀i∈ns,i.natAbs.log2<2 ^ 20):zK5 [.scr ns]=okR (.bl true):=by
 obtain⟨N0,hN0⟩:=zND ns 0 (by omega);obtain⟨cs,ls,hword,hp,hnd,n1,hn⟩:=zO7 N0;have w:=zc4 hp hnd;have h2:∀x∈cs,cs.count x=2:=fun x hx=>zKG hp hnd hx
 have hlen:=w.len
 generalize ls.length=n at w hlen n1 hn
 have hsl:=zZJ w;have hL:=zG7 (cs:=cs) (by omega) (by omega);have lL:lenD [.str ⟨(sosL cs).toArray⟩]=some (.int (n:Int)):=by rw[zEH (by omega),hsl]
 have hcr:=zH0 (cs:=cs) (by omega) (by omega) h2 (by omega);have dl:∀(l:List Int) m,(rowD l).dep<=m+1:=fun l m=>by unfold rowD;simp
 refine zBN rfl (sg (c2 (c2 rfl rfl hN0) rfl hword) (qAk 0) (sg (bi1 (c1 rfl hL) lL) (qAk 0) (sg (c1 rfl hcr) (zIM _) ?_)));refine zD1 fun bb hb=>?_
 rw[zCQ,zE9 (n:=4) (al0 rfl) (by omega),zA0];refine zK1 (fun k r=>∃(o4 o5 o6 o7:Option Sl),r=[some (.scr ns,0),some (.str ⟨cs.toArray⟩,0),some (.int (n:Int),0),some (mat (tab (sosL cs).length (crsT cs (sosL cs))),2),o4,o5,o6,o7]) ⟨_,_,_,_,rfl⟩ (fun k hk r hr=>?_) fun r hr=>?_
 ·obtain⟨o4,o5,o6,o7,rfl⟩:=hr;obtain⟨N1,hN1⟩:=zND ns (1+k) (by omega);obtain⟨b,hbl,hb2,hdig⟩:=zRR N1 (b:=2) (by omega) (by omega) n (by omega);have hc:(b.map fun x=>2*x).length=n:=by simp[hbl]
  have hc02:∀x∈b.map fun x=>2*x,x=0\/x=2:=fun x hx=>by
   obtain⟨y,hy,rfl⟩:=qAd.mp hx
   have:=hb2 y hy
   omega
  have hcomp:∀o,eComp (iSq (eCall zBG (aCons (eCall zAX (aCons (eV 0) (aCons (eB addD (eC (.int 1)) (eV 4)) aNil))) (aCons (eC (.int 2)) (aCons (eV 2) aNil))))) 1 (.one 8) Mi.tYes (eB mulD (eC (.int 2)) (eV 8)) (full [some (.scr ns,0),some (.str ⟨cs.toArray⟩,0),some (.int (n:Int),0),some (mat (tab (sosL cs).length (crsT cs (sosL cs))),2),some (.int (k:Nat),0),o5,o6,o])=okR (rowD (numL (b.map fun x=>2*x))):=fun o=>by
   have:=zBD (ρ:=full [some (.scr ns,0),some (.str ⟨cs.toArray⟩,0),some (.int (n:Int),0),some (mat (tab (sosL cs).length (crsT cs (sosL cs))),2),some (.int (k:Nat),0),o5,o6,o]) (c:=tYes) (i:=8) (e:=eB mulD (eC (.int 2)) (eV 8)) (fun e:Nat=>Dt.int (e:Int)) (fun e:Nat=>Dt.int ((2*e:Nat):Int)) b rfl rfl (fun e hm=>b2 rfl rfl (by rw[zI9 (by decide) (by decide)];simp)) (iSq (eCall zBG (aCons (eCall zAX (aCons (eV 0) (aCons (eB addD (eC (.int 1)) (eV 4)) aNil))) (aCons (eC (.int 2)) (aCons (eV 2) aNil))))) (by
    have hd:=c3 (e1:=eCall zAX (aCons (eV 0) (aCons (eB addD (eC (.int 1)) (eV 4)) aNil))) (e2:=eC (.int 2)) (e3:=eV 2) (ρ:=full [some (.scr ns,0),some (.str ⟨cs.toArray⟩,0),some (.int (n:Int),0),some (mat (tab (sosL cs).length (crsT cs (sosL cs))),2),some (.int (k:Nat),0),o5,o6,o]) (c2 rfl (b2 rfl rfl (adi (by omega))) hN1) rfl rfl hdig;unfold iSq;rw[hd,zA0];show okR ((numL b).map Dt.int)=_;unfold numL;rw[qB3]
    rfl) (by omega)
   rw[this];unfold rowD numL;simp[qB3,Function.comp_def]
  generalize b.map (fun x=>2*x)=c at hc hc02 hcomp
  have hc3:∀x∈c,x<3:=fun x hx=>by have:=hc02 x hx;omega
  have hg02:∀j,c.getD j 0=0\/c.getD j 0=2:=fun j=>by
   rw[qA0];cases h:c[j]? with
   |none=>exact .inl rfl
   |some y=>exact hc02 y (qAx h)
  have hks:kept (sosL cs).length (numL c)=(qA6 n).filter fun j=>decide (c.getD j 0=2):=by
   unfold kept;rw[hsl];refine qEc fun j _=>?_
   rw[zCS]
   have:=hg02 j
   by_cases z:c.getD j 0=2
   ·rw[decide_eq_true z,decide_eq_true (by omega)]
   ·rw[decide_eq_false z,decide_eq_false (by omega)]
  have hcomp2:∀o,eComp (iR1 (aCons (eV 2) aNil)) 1 (.one 8) (tB (eB eqD (eB ixD (eV 5) (eV 8)) (eC (.int 2)))) (eV 8) (full [some (.scr ns,0),some (.str ⟨cs.toArray⟩,0),some (.int (n:Int),0),some (mat (tab (sosL cs).length (crsT cs (sosL cs))),2),some (.int (k:Nat),0),some (rowD (numL c),1),o6,o])=okR (rowD (numL (kept (sosL cs).length (numL c)))):=fun o=>by
   rw[zBK (c:=tB (eB eqD (eB ixD (eV 5) (eV 8)) (eC (.int 2)))) (e:=eV 8) (i:=8) (fun k:Nat=>Dt.int (k:Int)) (fun k:Nat=>Dt.int (k:Int)) (fun j:Nat=>decide (c.getD j 0=2)) (qA6 n) rfl (fun j hj=>by
    have hj:j<c.length:=by rw[hc];simpa using hj
    refine eqi (b2 rfl rfl (zXY c j hj)) rfl ?_
    by_cases z:c.getD j 0=2
    ·rw[decide_eq_true (by omega),decide_eq_true z]
    ·rw[decide_eq_false (by omega),decide_eq_false z]) (fun j _ _=>rfl) (iR1 (aCons (eV 2) aNil)) (by rw[zE9 (n:=n) (al0 rfl) (by omega),zDK]) (by simp;omega),hks,numD]
  obtain⟨R,hd,H,hRl,hro⟩:=zK7 w n1 hn hc hc3 hsl;obtain⟨hlC,hwC⟩:=zbN w n1 hn hc hc3 hsl;have hkl:=zTZ (sosL cs).length (numL c);have hR:=zXG (zOJ w h2 n1 hc hc3 hsl hlC hwC H);have lR:lenD [zD7 R]=some (.int (R.length:Int)):=by
   unfold zD7;simp
  have hrise:Rise (sosL cs).length (kept (sosL cs).length (numL c)):=zLD _ _;have hcan:=zYT (by omega) (fun i j _ _=>by show crs cs _ _=0\/crs cs _ _=1;unfold crs;split;exact .inr rfl;exact .inl rfl) hrise (f:=crsT cs (sosL cs));have hiff:NS (kept (sosL cs).length (numL c)).length (sub (kept (sosL cs).length (numL c)) (crsT cs (sosL cs)))↔R.length=1:=by
   rw[hR,<- zaK];exact(zTL fun a b ha _=>zbK (fun x hx=>h2 x ((sos_mem x cs).mp hx)) (fun k z=>by rw[zCS]at z;have:=hg02 k;omega) a b ha).symm
  have hpb:pB (NS (kept (sosL cs).length (numL c)).length (sub (kept (sosL cs).length (numL c)) (crsT cs (sosL cs))))=decide ((R.length:Int)=1):=by
   by_cases z:R.length=1
   ·rw[pB_t (hiff.mpr z),decide_eq_true (by omega)]
   ·rw[pB_f fun y=>z (hiff.mp y),decide_eq_false (by omega)]
  rw[hpb]at hcan;refine zAS (r:=[some (.scr ns,0),some (.str ⟨cs.toArray⟩,0),some (.int (n:Int),0),some (mat (tab (sosL cs).length (crsT cs (sosL cs))),2),some (.int (k:Nat),0),some (rowD (numL c),1),some (rowD (numL (kept (sosL cs).length (numL c))),1),some (.bl (decide ((R.length:Int)=1)),0)]) ?_ ⟨_,_,_,_,rfl⟩;refine sg (hcomp o7) (dl _ 0) (sg (hcomp2 o7) (dl _ 0) (sg (c2 rfl rfl hcan) (qAk 0) (sf (to0 (tn1 (k:=true) (tm1 rfl)) (tb1 (b2 rfl (b2 (d:=.bl (decide ((R.length:Int)=1))) (bi1 (c2 rfl rfl hro) lR) rfl ?_) ?_))))))
  ·simp[Dt.eq];rfl
  ·simp[Dt.eq,neD]
 ·obtain⟨o4,o5,o6,o7,rfl⟩:=hr;subst hb;exact sr rfl ⟨qAk _,qAk _⟩
end Mp
set_option maxHeartbeats 4000000
namespace Q49
open PySem PyProof.Rows
open L2 hiding Rep RepL
open L3
open Mp
noncomputable def top(i:Nat):Stmt:=qDq.main.body.getD i (.Pass ⟨0,0,0,0⟩)
theorem S__law_digits:FnScope ["_law_rest","_law_base","_law_many","_law_row","_law_k"] ["_law_rest","_law_base","_law_many"] (zA5 (top 27)):=fsc
theorem zH1:FnScope ["_law_word_here"] ["_law_word_here"] (zA5 (top 26)):=fsc
theorem S__law_mixed:FnScope ["_law_script","_law_k","_law_cell","_law_mixed_here"] ["_law_script","_law_k"] (zA5 (top 23)):=fsc
theorem S__law_number:FnScope ["_law_script","_law_k","_law_number_here","_law_turn"] ["_law_script","_law_k"] (zA5 (top 24)):=fsc
theorem zJ3:FnScope ["_law_word_here"] ["_law_word_here"] (zA5 (top 28)):=fsc
theorem S__law_steps:FnScope ["_law_word_here","_law_choice","_law_letters_here","_law_firsts_here","_law_joins","_law_across","_law_place","_law_letter","_law_some","_law_seat","_law_ends","_law_k","_law_along","_law_behind"] ["_law_word_here","_law_choice"] (zA5 (top 29)):=fsc
theorem S__law_rounds:FnScope ["_law_word_here","_law_choice","_law_across","_law_along","_law_met","_law_rounds_here","_law_start","_law_ends","_law_end"] ["_law_word_here","_law_choice"] (zA5 (top 30)):=fsc
theorem S__law_word:FnScope ["_law_number_here","_law_most","_law_many","_law_rest","_law_left","_law_pool","_law_k","_law_letter","_law_word_here"] ["_law_number_here","_law_most"] (zA5 (top 25)):=fsc
theorem zPG:FnScope ["thing"] ["thing"] (zA5 (top 4)):=fsc
theorem zMN:FnScope ["numbers"] ["numbers"] (zA5 (top 19)):=fsc
theorem zUX:FnScope ["table","numbers"] ["table","numbers"] (zA5 (top 16)):=fsc
theorem zSJ:FnScope ["table","numbers"] ["table","numbers"] (zA5 (top 11)):=fsc
theorem zZ0:FnScope ["one","other"] ["one","other"] (zA5 (top 12)):=fsc
theorem S_cleared:FnScope ["rows","column","at","lead","others"] ["rows","column","at"] (zA5 (top 17)):=fsc
theorem zPF:FnScope ["size","number"] ["size","number"] (zA5 (top 18)):=fsc
theorem S_undoing:FnScope ["table","size","rows","column","leads"] ["table"] (zA5 (top 15)):=fsc
theorem zPH:FnScope ["table","numbers"] ["table","numbers"] (zA5 (top 21)):=fsc
theorem zJ2:FnScope ["text","letter"] ["text","letter"] (zA5 (top 8)):=fsc
theorem zMM:FnScope ["word","letter"] ["word","letter"] (zA5 (top 7)):=fsc
theorem S_do_cross:FnScope ["word","one","other","places"] ["word","one","other"] (zA5 (top 13)):=fsc
theorem zKY:FnScope ["word"] ["word"] (zA5 (top 6)):=fsc
theorem S_crossings:FnScope ["word","letters"] ["word"] (zA5 (top 10)):=fsc
theorem S_law:FnScope ["_law_script","_law_word_here","_law_many","_law_web","_law_k","_law_choice","_law_numbers","_law_found"] ["_law_script"] (zA5 (top 31)):=fsc
section
variable{P:Program}{w:World}{K:qA1}{mg:Str->Option Value}{base:Heap}
abbrev zBH:Stmt:=zcU (top 2)
theorem zML:FnScope ["self","letter"] ["self","letter"] (zA5 zBH):=⟨rfl,rfl,rfl,by decide +kernel,rfl,by decide +kernel,by decide +kernel⟩
theorem zFA{f:Addr}{fd:FuncData}(F:Fun K "__init__" "NoLetter.__init__" zBH f fd){B:Addr}(hB:XBase K B)(hm:mg "RoundError" = some (.ref B)):FnOk P w K mg base (CXe P w) 1 f fd ["self","letter"] (zFQ K "letter"):=by
 refine F.okX (k:=0) zML (zU6 rfl) (fun cdv A outer s H vs Q E hr h=>?_);exact⟨_,zA6 (zE2 (zTF hB rfl hm (zA1 (pv 0) (zA1 (pv 1) zA4)))) (zAJ (zTB (pv 0) (pv 1) rfl)),zU5 h⟩
structure Bd(K:qA1)(mg:Str->Option Value):Prop where
 d0:Def K mg "_law_digits" (top 27)
 d1:Def K mg "_law_letters" (top 26)
 d2:Def K mg "_law_mixed" (top 23)
 d3:Def K mg "_law_number" (top 24)
 d4:Def K mg "_law_firsts" (top 28)
 d5:Def K mg "_law_steps" (top 29)
 d6:Def K mg "_law_rounds" (top 30)
 d7:Def K mg "_law_word" (top 25)
 d8:Def K mg "is_whole" (top 4)
 d9:Def K mg "are_whole" (top 19)
 d10:Def K mg "is_set" (top 16)
 d11:Def K mg "part_at" (top 11)
 d12:Def K mg "added" (top 12)
 d13:Def K mg "cleared" (top 17)
 d14:Def K mg "unit_row" (top 18)
 d15:Def K mg "undoing" (top 15)
 d16:Def K mg "can_undo" (top 21)
 d17:Def K mg "first_place" (top 8)
 d18:Def K mg "places_of" (top 7)
 d19:Def K mg "do_cross" (top 13)
 d20:Def K mg "letters_of" (top 6)
 d21:Def K mg "crossings" (top 10)
 e0:mg "all" = none
 e1:mg "bool" = none
 e2:mg "enumerate" = none
 e3:mg "int" = none
 e4:mg "isinstance" = none
 e5:mg "len" = none
 e6:mg "list" = none
 e7:mg "min" = none
 e8:mg "range" = none
 e9:mg "set" = none
 e10:mg "sorted" = none
structure Bn(P:Program)(w:World)(K:qA1)(mg:Str->Option Value)(base:Heap):Type where
 S:Bd K mg
 a_NoLetter:Addr
 x_NoLetter:XIni P w K mg base "NoLetter" "letter" a_NoLetter
variable(B:Bn P w K mg base)
include B
theorem zGZ:Has P w K mg base "_law_digits" 1 ["_law_rest","_law_base","_law_many"] (sp0 K mg 9 zBG):=by
 letI:Kc:=⟨K⟩
 exact dfM B.S.d0 S__law_digits (fun _ _ _ _ _ _=>uw3 fun _ _ _=>rfl) fun hr hu h=>⟨_,(zA6 (pst 3 S__law_digits.nd (zED zA4))
   (zA6 (zC3 PassesOwn.never rfl (zAU rfl B.S.e8 (zA1 (pn 2) zA4)) (zB4 (i:=4) S__law_digits.nd rfl oi) (zA6 (zE2 (zI3 qB1 qD0 qD1 zLQ (pn 3) (zA1 (zAR zF9 (pn 0) (pn 1)) zA4)))
   (zAJ (pst 0 S__law_digits.nd (zAR zJ9 (pn 0) (pn 1))))))
   (zAJ (zAW (pn 3))))),(zB1 (zAH (zAK (n:=9) [] (zD3 (n:=8) zA8))
   (zAH (zCX (zEM (zA2 (de_v 2) zA8)) (zAH (zW7 3 (n:=0) (zAG zD2 (de_v 0) (de_v 1)))
   (zAK (n:=0) [0,1] (zAG zJM (de_v 0) (de_v 1)))))
   (zGK 3))) h)⟩
theorem zDA:Has P w K mg base "_law_letters" 1 ["_law_word_here"] (sp0 K mg 0 zB2):=by
 letI:Kc:=⟨K⟩
 exact dfM B.S.d1 zH1 (fun _ _ _ _ _ _=>uw1 fun _=>rfl) fun hr hu h=>⟨_,(zAJ (zAW (zJT qB9 qFb qFc zNF zN8 (zA1 (zAM (zR8 rfl) rfl B.S.e10 boot_sorted (zA1 (zEE (zVP rfl) rfl B.S.e9 zKN (zA1 (pn 0) zA4)) zA4)) zA4)))),(zB1 (zB8 (n:=0) [0] (zKF zQ5 (dz zNT) (zA2 (zAO (zWB (de_v 0))) zA8))) h)⟩
theorem zI7:Has P w K mg base "_law_mixed" 1 ["_law_script","_law_k"] (sp0 K mg 0 zC6):=by
 letI:Kc:=⟨K⟩
 exact dfM B.S.d2 S__law_mixed (fun _ _ _ _ _ _=>uw2 fun _ _=>rfl) fun hr hu h=>⟨_,(zA6 (pst 2 S__law_mixed.nd zAI)
   (zA6 (zLF (zE0 u_gt (zAM (zBP (K:=K)) rfl B.S.e5 boot_len (zA1 (pn 0) zA4)) zAI (zBV _)) (zAJ (pst 2 S__law_mixed.nd (zC4 (zC1 (K:=K)) (pn 0) (zAR zF9 (pn 1) (zAM (zBP (K:=K)) rfl B.S.e5 boot_len (zA1 (pn 0) zA4))) (fun _ _=>rfl)))) zE1)
   (zA6 (pst 3 S__law_mixed.nd (zAR zF9 (zAR zCJ (zAR zD6 (zAR zF9 (pn 2) zAI) (zAR zCJ zAI (zAR zD6 (pn 1) zAI))) zAI) zAI))
   (zAJ (zAW (zAR zF9 (zAR zCJ (pn 3) zAI) zAI)))))),(zB1 (zAH (zAK (n:=0) [] zAC)
   (zAH (zM5 (dt_b (dz (zAG zMZ (dz (zCG zBQ (zA2 (de_v 0) zA8))) (dz zAC)))) (zAK (n:=0) [0,1] (zAG zC9 (de_v 0) (dz (zAG zD2 (de_v 1) (dz (zCG zBQ (zA2 (de_v 0) zA8))))))) zGL)
   (zAH (zAK (n:=0) [2,1] (zAG zD2 (dz (zAG zCK (zAG zBU (dz (zAG zD2 (de_v 2) (dz zAC))) (dz (zAG zCK (dz zAC) (zAG zBU (de_v 1) (dz zAC))))) (dz zAC))) (dz zAC)))
   (zB8 (n:=0) [3] (zAG zD2 (dz (zAG zCK (de_v 3) (dz zAC))) (dz zAC)))))) h)⟩
theorem zDT:Has P w K mg base "_law_number" 2 ["_law_script","_law_k"] (sp0 K mg 1 zAX):=by
 letI:Kc:=⟨K⟩
 exact dfM B.S.d3 S__law_number (fun _ _ _ _ _ _=>uw2 fun _ _=>rfl) fun hr hu h=>⟨_,(zA6 (pst 2 S__law_number.nd zAI)
   (zA6 (zLF (pt_w (za6 (zE0 u_gt (zAM (zBP (K:=K)) rfl B.S.e5 boot_len (zA1 (pn 0) zA4)) zAI (zBV _)) (zX7 (zE0 (u_eq hu) (zAR zF9 (zC4 (zC1 (K:=K)) (pn 0) zAI (fun _ _=>rfl)) zAI) zAI (zBV _))))) (zA6 (zLF (zE0 u_lt (pn 1) (zAM (zBP (K:=K)) rfl B.S.e5 boot_len (zA1 (pn 0) zA4)) (zBV _)) (zAJ (pst 2 S__law_number.nd (zAR zJ9 (zAR zF9 (zC4 (zC1 (K:=K)) (pn 0) (pn 1) (fun _ _=>rfl)) (zAR zCJ zAI (zAR zZC zAI zAI))) (zAR zc8 zAI (zAM (zS9 rfl) rfl B.S.e7 boot_min (zA1 (pn 1) (zA1 zAI zA4))))))) zE1)
   (zAJ (zAW (pn 2)))) zE1)
   (zA6 (zC3 PassesOwn.never rfl (zAU rfl B.S.e8 (zA1 zAI zA4)) (zB4 (i:=3) S__law_number.nd rfl oi) (zAJ (pst 2 S__law_number.nd (zAR zD6 (zAR zCJ (pn 2) zAI) (zCN (zI7 B) (by decide) hr rfl (zA1 (pn 0) (zA1 (zAR zD6 (zAR zCJ zAI (pn 1)) (pn 3)) zA4)))))))
   (zAJ (zAW (zAR zF9 (pn 2) (zAR zZC zAI zAI))))))),(zB1 (zAH (zAK (n:=0) [] zAC)
   (zAH (zM5 (zbB (dt_b (dz (zAG zMZ (dz (zCG zBQ (zA2 (de_v 0) zA8))) (dz zAC)))) (dt_b (dz (zAG zHU (dz (zAG zD2 (zAG zC9 (de_v 0) (dz zAC)) (dz zAC))) (dz zAC))))) (zAH (zM5 (dt_b (dz (zAG zMZ (de_v 1) (dz (zCG zBQ (zA2 (de_v 0) zA8)))))) (zAK (n:=0) [0,1] (zAG zJM (dz (zAG zD2 (zAG zC9 (de_v 0) (de_v 1)) (dz (zAG zCK (dz zAC) (dz (zAG zV9 (dz zAC) (dz zAC))))))) (dz (zAG zZQ (dz zAC) (dz (zCG zbO (zA2 (de_v 1) (zA2 zAC zA8)))))))) zGL)
   (zGK 2)) zGL)
   (zAH (zCX (zEM (zA2 zAC zA8)) (zAK (n:=1) [2,0,3,1] (zAG zBU (dz (zAG zCK (de_v 2) (dz zAC))) (zAV (zA2 (de_v 0) (zA2 (zAO (zAG zBU (dz (zAG zCK (dz zAC) (de_v 1))) (de_v 3))) zA8))))))
   (zB8 (n:=1) [2] (zAG zD2 (de_v 2) (dz (zAG zV9 (dz zAC) (dz zAC)))))))) h)⟩
theorem zGY:Has P w K mg base "_law_firsts" 1 ["_law_word_here"] (sp0 K mg 1 zCW):=by
 letI:Kc:=⟨K⟩
 exact dfM B.S.d4 zJ3 (fun _ _ _ _ _ _=>uw1 fun _=>rfl) fun hr hu h=>⟨_,(zAJ (zAW (zBR rfl (cn ["_law_word_here","_law_k","_law_sign"] 2 (by kernel_rfl)) (zN7 (K:=K) rfl B.S.e2 (zA1 (pn 0) zA4)) (fun _ _ _ _=>zI2 (K:=K) rfl (zCC (pgn 1) (zCC (pgn 2) zI1))) (fun _ _ _ _=>zHY (zE0 (u_eq hu) (zJT qB9 qDf qDg zG2 (pn 0) (zA1 (pn 2) zA4)) (pn 1) (zBV _))) (fun _ _ _ _=>(pn 2))))),(zB1 (zB8 (n:=1) [0] (zBC (n:=0) (zW9 (zA2 (de_v 0) zA8)) (zMQ (zCB 1 (zCB 2 zHL)) rfl) (dt_b (dz (zAG zHU (dz (zKF zHV (de_v 0) (zA2 (de_v 2) zA8))) (de_v 1)))) (de_v 2))) h)⟩
theorem zI6:Has P w K mg base "_law_steps" 2 ["_law_word_here","_law_choice"] (sp0 K mg 1 zCD):=by
 letI:Kc:=⟨K⟩
 exact dfM B.S.d5 S__law_steps (fun _ _ _ _ _ _=>uw2 fun _ _=>rfl) fun hr hu h=>zYC (zBZ ⟨(pst 2 S__law_steps.nd (zCN (zDA B) (by decide) hr rfl (zA1 (pn 0) zA4)))⟩
   (zBZ ⟨(pst 3 S__law_steps.nd (zCN (zGY B) (by decide) hr rfl (zA1 (pn 0) zA4)))⟩
   (zBZ (zRN (i:=4) S__law_steps.nd rfl oi (zIO (zIS (zIO (zBA zBT (zBA zBT (zBA zBT (zBA zBT zIR))))) (zIS (zIO (zBA zBT (zBA zBT (zBA zBT (zBA zBT zIR))))) (zIS (zIO (zBA zBT (zBA zBT (zBA zBT (zBA zBT zIR))))) zIR)))))
   (zBZ ⟨(pst 5 S__law_steps.nd zNB)⟩
   (zBZ ⟨(zC3 PassesOwn.never rfl (zTD (K:=K) rfl B.S.e2 (zA1 (pn 3) zA4)) (zI2 (K:=K) rfl (zCC (zB4 (i:=6) S__law_steps.nd rfl oi) (zCC (zB4 (i:=7) S__law_steps.nd rfl oi) zI1))) (zA6 (pst 8 S__law_steps.nd (zC4 (zC1 (K:=K)) (pn 4) (zC4 (zC1 (K:=K)) (pn 1) (zJT qB9 qDf qDg zG2 (pn 2) (zA1 (pn 7) zA4)) (fun _ _=>rfl)) (fun _ _=>rfl)))
   (zAJ (zC3 PassesOwn.never rfl (zAU rfl B.S.e8 (zA1 zAI zA4)) (zB4 (i:=9) S__law_steps.nd rfl oi) (zAJ (zLG (zP4 hr) (pn 5) (zAR zD6 (zAR zCJ zAI (pn 6)) (pn 9)) (zAR zD6 (zAR zCJ zAI (pn 6)) (zC4 (zC1 (K:=K)) (pn 8) (pn 9) (fun _ _=>rfl))) rfl))))))⟩
   (zBZ ⟨(pst 10 S__law_steps.nd (zED zA4))⟩
   (zBZ ⟨(zC3 PassesOwn.never rfl (zN7 (K:=K) rfl B.S.e2 (zA1 (pn 0) zA4)) (zI2 (K:=K) rfl (zCC (zB4 (i:=11) S__law_steps.nd rfl oi) (zCC (zB4 (i:=7) S__law_steps.nd rfl oi) zI1))) (zAJ (zE2 (zI3 qB1 qD0 qD1 zLQ (pn 10) (zA1 (zAR zD6 (zAR zCJ zAI (zI3 qB1 qEi PySem.F.type_list_index zXM (pn 3) (zA1 (pn 7) zA4))) (zAR zCJ zAI (zEE zSA rfl B.S.e3 boot_int (zA1 (zFX u_lt (zJT qB9 qDf qDg zG2 (pn 0) (zA1 (pn 7) zA4)) (pn 11) (zBV _)) zA4)))) zA4)))))⟩
   (zBZ ⟨(pst 12 S__law_steps.nd zNB)⟩
   (zBZ ⟨(zC3 PassesOwn.never rfl (zAU rfl B.S.e8 (zA1 (zAM (zBP (K:=K)) rfl B.S.e5 boot_len (zA1 (pn 0) zA4)) zA4)) (zB4 (i:=11) S__law_steps.nd rfl oi) (zA6 (pst 13 S__law_steps.nd (zC4 (zC1 (K:=K)) (pn 10) (zAR zF9 (zAR zD6 (pn 11) zAI) (zAM (zBP (K:=K)) rfl B.S.e5 boot_len (zA1 (pn 0) zA4))) (fun _ _=>rfl)))
   (zA6 (zLG (zP4 hr) (pn 12) (zAR zD6 (zC4 (zC1 (K:=K)) (pn 10) (pn 11) (fun _ _=>rfl)) zAI) (pn 13) rfl)
   (zAJ (zLG (zP4 hr) (pn 12) (pn 13) (zAR zD6 (zC4 (zC1 (K:=K)) (pn 10) (pn 11) (fun _ _=>rfl)) zAI) rfl)))))⟩
   (zYF ⟨(zAW (zVI (zA1 (pn 5) (zA1 (pn 12) zA4))))⟩)))))))))) (zB1 (zAH (zAK (n:=0) [0] (zAV (zA2 (de_v 0) zA8)))
   (zAH (zAK (n:=1) [0] (zAV (zA2 (de_v 0) zA8)))
   (zAH (zAK (n:=2) [] (zD3 (n:=1) (zA2 (zD3 (n:=0) (zA2 zAC (zA2 zAC (zA2 zAC (zA2 zAC zA8))))) (zA2 (zD3 (n:=0) (zA2 zAC (zA2 zAC (zA2 zAC (zA2 zAC zA8))))) (zA2 (zD3 (n:=0) (zA2 zAC (zA2 zAC (zA2 zAC (zA2 zAC zA8))))) zA8)))))
   (zAH (zAK (n:=1) [] zRY)
   (zAH (zW5 [3] (zd3 (zA2 (de_v 3) zA8)) (zMQ (zCB 6 (zCB 7 zHL)) rfl) (zAH (zAK (n:=0) [4,1,7,2] (zAG zC9 (de_v 4) (zAG zC9 (de_v 1) (dz (zKF zHV (de_v 2) (zA2 (de_v 7) zA8))))))
   (zCX (zEM (zA2 zAC zA8)) (zM6 5 (zAG zBU (dz (zAG zCK (dz zAC) (de_v 6))) (de_v 9)) (zAG zBU (dz (zAG zCK (dz zAC) (de_v 6))) (zAG zC9 (de_v 8) (de_v 9)))))))
   (zAH (zAK (n:=9) [] (zD3 (n:=8) zA8))
   (zAH (zW5 [0] (zW9 (zA2 (de_v 0) zA8)) (zMQ (zCB 11 (zCB 7 zHL)) rfl) (zW7 10 (n:=1) (zAG zBU (dz (zAG zCK (dz zAC) (dz (zd4 zQ6 (de_v 3) (zA2 (de_v 7) zA8))))) (dz (zAG zCK (dz zAC) (dz (zCG zbP (zA2 (zAG zMZ (dz (zKF zHV (de_v 0) (zA2 (de_v 7) zA8))) (de_v 11)) zA8))))))))
   (zAH (zAK (n:=1) [] zRY)
   (zAH (zCX (zEM (zA2 (zCG zBQ (zA2 (de_v 0) zA8)) zA8)) (zAH (zAK (n:=0) [10,11,0] (zAG zC9 (de_v 10) (dz (zAG zD2 (zAG zBU (de_v 11) (dz zAC)) (dz (zCG zBQ (zA2 (de_v 0) zA8)))))))
   (zAH (zM6 12 (zAG zBU (zAG zC9 (de_v 10) (de_v 11)) (dz zAC)) (de_v 13))
   (zM6 12 (de_v 13) (zAG zBU (zAG zC9 (de_v 10) (de_v 11)) (dz zAC))))))
   (zB8 (n:=1) [5,12] (zWA (n:=0) (zA2 (de_v 5) (zA2 (de_v 12) zA8))))))))))))) h)
theorem zGX:Has P w K mg base "_law_rounds" 3 ["_law_word_here","_law_choice"] (sp0 K mg 1 zB9):=by
 letI:Kc:=⟨K⟩
 exact dfM B.S.d6 S__law_rounds (fun _ _ _ _ _ _=>uw2 fun _ _=>rfl) fun hr hu h=>⟨_,(zA6 (zQ9 (zCN (zI6 B) (by decide) hr rfl (zA1 (pn 0) (zA1 (pn 1) zA4))) (zI2 (K:=K) rfl (zCC (zB4 (i:=2) S__law_rounds.nd rfl oi) (zCC (zB4 (i:=3) S__law_rounds.nd rfl oi) zI1))))
   (zA6 (pst 4 S__law_rounds.nd (zED zA4))
   (zA6 (pst 5 S__law_rounds.nd (zED zA4))
   (zA6 (zC3 PassesOwn.never rfl (zAU rfl B.S.e8 (zA1 (zAR zCJ zAI (zAM (zBP (K:=K)) rfl B.S.e5 boot_len (zA1 (pn 0) zA4))) zA4)) (zB4 (i:=6) S__law_rounds.nd rfl oi) (zAJ (zLF (zE0 (zL0 (K:=K)) (pn 6) (pn 4) rfl) (zA6 (pst 7 S__law_rounds.nd (zED zA4))
   (zA6 (pst 8 S__law_rounds.nd (pn 6))
   (zA6 (zT9 PassesOwn.never (zE0 (zL0 (K:=K)) (pn 8) (pn 7) rfl) (zA6 (zE2 (zI3 qB1 qD2 qD3 zLP (pn 7) (zA1 (zED (zA1 (pn 8) (zA1 (zLI (zP4 hr) (pn 2) (pn 8) (fun _ _=>rfl)) zA4))) zA4)))
   (zAJ (pst 8 S__law_rounds.nd (zLI (zP4 hr) (pn 3) (zLI (zP4 hr) (pn 2) (pn 8) (fun _ _=>rfl)) (fun _ _=>rfl))))))
   (zA6 (zE2 (zI3 qB1 qD2 qD3 zLP (pn 4) (zA1 (pn 7) zA4)))
   (zAJ (zE2 (zI3 qB1 qD0 qD1 zLQ (pn 5) (zA1 (pn 7) zA4)))))))) zE1)))
   (zAJ (zAW (pn 5))))))),(zB1 (zAH (zbC [0,1] (zMQ (zCB 2 (zCB 3 zHL)) rfl) (zAV (zA2 (de_v 0) (zA2 (de_v 1) zA8))))
   (zAH (zAK (n:=9) [] (zD3 (n:=8) zA8))
   (zAH (zAK (n:=9) [] (zD3 (n:=8) zA8))
   (zAH (zCX (zEM (zA2 (zAG zCK (dz zAC) (dz (zCG zBQ (zA2 (de_v 0) zA8)))) zA8)) (zM5 (dt_b (dz (zAG zT0 (de_v 6) (de_v 4)))) (zAH (zAK (n:=9) [] (zD3 (n:=8) zA8))
   (zAH (zAK (n:=0) [6] (de_v 6))
   (zAH (zUF (dt_b (dz (zAG zT0 (de_v 8) (de_v 7)))) (zAH (zW6 7 (n:=0) (zD3 (n:=0) (zA2 (de_v 8) (zA2 (zRX (de_v 2) (de_v 8)) zA8))))
   (zAK (n:=0) [3,2,8] (zRX (de_v 3) (dz (zRX (de_v 2) (de_v 8)))))))
   (zAH (zYG 4 (de_v 7))
   (zYH 5 [7] (de_v 7)))))) zGL))
   (zGK 5))))) h)⟩
theorem zJZ:Has P w K mg base "_law_word" 1 ["_law_number_here","_law_most"] (sp0 K mg 0 zBM):=by
 letI:Kc:=⟨K⟩
 exact dfM B.S.d7 S__law_word (fun _ _ _ _ _ _=>uw2 fun _ _=>rfl) fun hr hu h=>⟨_,(zA6 (pst 2 S__law_word.nd (zAR zD6 zAI (zAR zF9 (pn 0) (pn 1))))
   (zA6 (pst 3 S__law_word.nd (zAR zJ9 (pn 0) (pn 1)))
   (zA6 (pst 4 S__law_word.nd (zEE (zXV (K:=K) rfl) rfl B.S.e6 boot_list (zA1 zN8 zA4)))
   (zA6 (pst 5 S__law_word.nd (zED zA4))
   (zA6 (zC3 PassesOwn.never rfl (zAU rfl B.S.e8 (zA1 (pn 2) zA4)) (zB4 (i:=6) S__law_word.nd rfl oi) (zA6 (pst 7 S__law_word.nd (zI3 qB1 qFd qFe zQU (pn 4) (zA1 (zAR zF9 (pn 3) (zAM (zBP (K:=K)) rfl B.S.e5 boot_len (zA1 (pn 4) zA4))) zA4)))
   (zA6 (pst 3 S__law_word.nd (zAR zJ9 (pn 3) (zAR zD6 (zAM (zBP (K:=K)) rfl B.S.e5 boot_len (zA1 (pn 4) zA4)) zAI)))
   (zAJ (zE2 (zI3 qB1 qD2 qD3 zLP (pn 5) (zA1 (zED (zA1 (pn 7) (zA1 (pn 7) zA4))) zA4)))))))
   (zA6 (pst 8 S__law_word.nd zN8)
   (zA6 (zC3 PassesOwn.never rfl (zAU rfl B.S.e8 (zA1 (zAR zCJ zAI (pn 2)) zA4)) (zB4 (i:=6) S__law_word.nd rfl oi) (zA6 (pst 8 S__law_word.nd (zAR zD6 (pn 8) (zI3 qB1 qFd qFe zQU (pn 5) (zA1 (zAR zF9 (pn 3) (zAM (zBP (K:=K)) rfl B.S.e5 boot_len (zA1 (pn 5) zA4))) zA4))))
   (zAJ (pst 3 S__law_word.nd (zAR zJ9 (pn 3) (zAR zD6 (zAM (zBP (K:=K)) rfl B.S.e5 boot_len (zA1 (pn 5) zA4)) zAI))))))
   (zAJ (zAW (pn 8)))))))))),(zB1 (zAH (zAK (n:=1) [0,1] (zAG zBU (dz zAC) (dz (zAG zD2 (de_v 0) (de_v 1)))))
   (zAH (zAK (n:=0) [0,1] (zAG zJM (de_v 0) (de_v 1)))
   (zAH (zAK (n:=1) [] (zCG zUR (zA2 zNT zA8)))
   (zAH (zAK (n:=9) [] (zD3 (n:=8) zA8))
   (zAH (zCX (zEM (zA2 (de_v 2) zA8)) (zAH (zbD 7 4 (dz (zAG zD2 (de_v 3) (dz (zCG zBQ (zA2 (de_v 4) zA8))))))
   (zAH (zAK (n:=0) [3,4] (zAG zJM (de_v 3) (zAG zBU (dz (zCG zBQ (zA2 (de_v 4) zA8))) (dz zAC))))
   (zW6 5 (n:=0) (zD3 (n:=0) (zA2 (de_v 7) (zA2 (de_v 7) zA8)))))))
   (zAH (zAK (n:=0) [] zNT)
   (zAH (zCX (zEM (zA2 (zAG zCK (dz zAC) (de_v 2)) zA8)) (zAH (zRP 8 5 (dz (zAG zD2 (de_v 3) (dz (zCG zBQ (zA2 (de_v 5) zA8))))))
   (zAK (n:=0) [3,5] (zAG zJM (de_v 3) (zAG zBU (dz (zCG zBQ (zA2 (de_v 5) zA8))) (dz zAC))))))
   (zGK 8)))))))) h)⟩
theorem zLM:Has P w K mg base "is_whole" 1 ["thing"] (sp0 K mg 0 zBO):=by
 letI:Kc:=⟨K⟩
 exact dfM B.S.d8 zPG (fun _ _ _ _ _ _=>uw1 fun _=>rfl) fun hr hu h=>⟨_,(zAJ (zAW (zXA (zAM zDD rfl B.S.e4 boot_isinstance (zA1 (pn 0) (zA1 (zLJ (v:=.ty "int") rfl B.S.e3 boot_int rfl) zA4))) (zQF (zcI (zAM zDD rfl B.S.e4 boot_isinstance (zA1 (pn 0) (zA1 (zLJ (v:=.ty "bool") rfl B.S.e1 boot_bool rfl) zA4)))))))),(zB1 (zB8 (n:=0) [0] (zS0 (dz (zRV (by decide) (de_v 0))) (zbI (dz (zRV (by decide) (de_v 0)))))) h)⟩
theorem zJY:Has P w K mg base "are_whole" 2 ["numbers"] (sp0 K mg 0 zCU):=by
 letI:Kc:=⟨K⟩
 exact dfM B.S.d9 zMN (fun _ _ _ _ _ _=>uw1 fun _=>rfl) fun hr hu h=>⟨_,(zAJ (zAW (zAM (zcQ rfl) rfl B.S.e0 boot_all (zA1 (zBR rfl (cn ["0","number"] 1 (by kernel_rfl)) (zF3 (K:=K) (pn 0)) (fun _ _ _ _=>(pgn 1)) (fun _ _ _ _=>zC2) (fun _ _ _ _=>(zCN (zLM B) (by decide) hr rfl (zA1 (pn 1) zA4)))) zA4)))),(zB1 (zB8 (n:=0) [0] (zCG zbQ (zA2 (zAO (zBC (n:=0) (zF6 (de_v 0)) (zBB 1) zDH (zAV (zA2 (de_v 1) zA8)))) zA8))) h)⟩
theorem zQO:Has P w K mg base "is_set" 3 ["table","numbers"] (sp0 K mg 0 zFG):=by
 letI:Kc:=⟨K⟩
 exact dfM B.S.d10 zUX (fun _ _ _ _ _ _=>uw2 fun _ _=>rfl) fun hr hu h=>⟨_,(zAJ (zAW (zXA (zCN (zJY B) (by decide) hr rfl (zA1 (pn 1) zA4)) (zQF (zFX (u_eq hu) (pn 1) (zBR rfl (cn ["0","numbers","i"] 1 (by kernel_rfl)) (zAU rfl B.S.e8 (zA1 (zAM (zBP (K:=K)) rfl B.S.e5 boot_len (zA1 (pn 0) zA4)) zA4)) (fun _ _ _ _=>(pgn 2)) (fun _ _ _ _=>zHY (zE0 (u_in (K:=K)) (pn 2) (pn 1) rfl)) (fun _ _ _ _=>(pn 2))) (zBV _)))))),(zB1 (zB8 (n:=0) [1,0] (zS0 (zAV (zA2 (de_v 1) zA8)) (zAG zHU (de_v 1) (zBC (n:=0) (zEM (zA2 (zCG zBQ (zA2 (de_v 0) zA8)) zA8)) (zBB 2) (dt_b (dz (zAG zT0 (de_v 2) (de_v 1)))) (de_v 2))))) h)⟩
theorem zOR:Has P w K mg base "part_at" 1 ["table","numbers"] (sp0 K mg 2 zCV):=by
 letI:Kc:=⟨K⟩
 exact dfM B.S.d11 zSJ (fun _ _ _ _ _ _=>uw2 fun _ _=>rfl) fun hr hu h=>⟨_,(zAJ (zAW (zBR rfl (cn ["table","numbers","i"] 1 (by kernel_rfl)) (zF3 (K:=K) (pn 1)) (fun _ _ _ _=>(pgn 2)) (fun _ _ _ _=>zC2) (fun _ _ _ _=>(zBR rfl (cn ["table","1","i","j"] 1 (by kernel_rfl)) (zF3 (K:=K) (pn 1)) (fun _ _ _ _=>(pgn 3)) (fun _ _ _ _=>zC2) (fun _ _ _ _=>(zC4 (zC1 (K:=K)) (zC4 (zC1 (K:=K)) (pn 0) (pn 2) (fun _ _=>rfl)) (pn 3) (fun _ _=>rfl)))))))),(zB1 (zB8 (n:=2) [1,0] (zBC (n:=1) (zF6 (de_v 1)) (zBB 2) zDH (zBC (n:=0) (zF6 (de_v 1)) (zBB 3) zDH (zAG zC9 (zAG zC9 (de_v 0) (de_v 2)) (de_v 3))))) h)⟩
theorem zTI:Has P w K mg base "added" 1 ["one","other"] (sp0 K mg 1 zG5):=by
 letI:Kc:=⟨K⟩
 exact dfM B.S.d12 zZ0 (fun _ _ _ _ _ _=>uw2 fun _ _=>rfl) fun hr hu h=>⟨_,(zAJ (zAW (zBR rfl (cn ["one","other","j"] 1 (by kernel_rfl)) (zAU rfl B.S.e8 (zA1 (zAM (zBP (K:=K)) rfl B.S.e5 boot_len (zA1 (pn 0) zA4)) zA4)) (fun _ _ _ _=>(pgn 2)) (fun _ _ _ _=>zC2) (fun _ _ _ _=>(zAR zc7 (zC4 (zC1 (K:=K)) (pn 0) (pn 2) (fun _ _=>rfl)) (zC4 (zC1 (K:=K)) (pn 1) (pn 2) (fun _ _=>rfl))))))),(zB1 (zB8 (n:=1) [0,1] (zBC (n:=0) (zEM (zA2 (zCG zBQ (zA2 (de_v 0) zA8)) zA8)) (zBB 2) zDH (zAG zZP (zAG zC9 (de_v 0) (de_v 2)) (zAG zC9 (de_v 1) (de_v 2))))) h)⟩
theorem zOS:Has P w K mg base "cleared" 2 ["rows","column","at"] (sp0 K mg 1 zDB):=by
 letI:Kc:=⟨K⟩
 exact dfM B.S.d13 S_cleared (fun _ _ _ _ _ _=>uw3 fun _ _ _=>rfl) fun hr hu h=>⟨_,(zA6 (pst 3 S_cleared.nd (zC4 (zC1 (K:=K)) (pn 0) (pn 2) (fun _ _=>rfl)))
   (zA6 (zEQ (i:=4) S_cleared.nd rfl oi rfl (cn ["0","column","2","lead","4","row"] 1 (by kernel_rfl)) (zF3 (K:=K) (pn 0)) (fun _ _ _ _=>(pgn 5)) (fun _ _ _ _=>zC2) (fun _ _ _ _=>(zI4 (zE0 (u_eq hu) (zC4 (zC1 (K:=K)) (pn 5) (pn 1) (fun _ _=>rfl)) zAI (zBV _)) (zCN (zTI B) (by decide) hr rfl (zA1 (pn 5) (zA1 (pn 3) zA4))) (pn 5))))
   (zA6 (zQ9 (zC4 (zC1 (K:=K)) (pn 4) (pn 1) (fun _ _=>rfl)) (zVG (pn 4) (pn 2) zZB))
   (zA6 (zQ9 (pn 3) (zVG (pn 4) (pn 1) zZB))
   (zAJ (zAW (pn 4))))))),(zB1 (zAH (zAK (n:=0) [0,2] (zAG zC9 (de_v 0) (de_v 2)))
   (zAH (zAK (n:=1) [0,3,1] (zBC (n:=0) (zF6 (de_v 0)) (zBB 5) zDH (zRW (dt_b (dz (zAG zHU (zAG zC9 (de_v 5) (de_v 1)) (dz zAC)))) (zAO (zAV (zA2 (de_v 5) (zA2 (de_v 3) zA8)))) (de_v 5))))
   (zAH (zUH 4 (de_v 2) (de_v 1))
   (zAH (zUI 4 [3] (de_v 1) (de_v 3))
   (zGK 4))))) h)⟩
theorem zLL:Has P w K mg base "unit_row" 1 ["size","number"] (sp0 K mg 1 zCO):=by
 letI:Kc:=⟨K⟩
 exact dfM B.S.d14 zPF (fun _ _ _ _ _ _=>uw2 fun _ _=>rfl) fun hr hu h=>⟨_,(zAJ (zAW (zBR rfl (cn ["0","number","i"] 1 (by kernel_rfl)) (zAU rfl B.S.e8 (zA1 (pn 0) zA4)) (fun _ _ _ _=>(pgn 2)) (fun _ _ _ _=>zC2) (fun _ _ _ _=>(zI4 (zE0 (u_eq hu) (pn 2) (pn 1) (zBV _)) zAI zAI))))),(zB1 (zB8 (n:=1) [1,0] (zBC (n:=0) (zEM (zA2 (de_v 0) zA8)) (zBB 2) zDH (zRW (dt_b (dz (zAG zHU (de_v 2) (de_v 1)))) zAC zAC))) h)⟩
theorem zOQ:Has P w K mg base "undoing" 3 ["table"] (sp0 K mg 2 zG4):=by
 letI:Kc:=⟨K⟩
 exact dfM B.S.d15 S_undoing (fun _ _ _ _ _ _=>uw1 fun _=>rfl) fun hr hu h=>⟨_,(zA6 (pst 1 S_undoing.nd (zAM (zBP (K:=K)) rfl B.S.e5 boot_len (zA1 (pn 0) zA4)))
   (zA6 (pst 2 S_undoing.nd (zBR rfl (cn ["table","size","2","3","4","i"] 1 (by kernel_rfl)) (zAU rfl B.S.e8 (zA1 (pn 1) zA4)) (fun _ _ _ _=>(pgn 5)) (fun _ _ _ _=>zC2) (fun _ _ _ _=>(zAR zD6 (zC4 (zC1 (K:=K)) (pn 0) (pn 5) (fun _ _=>rfl)) (zCN (zLL B) (by decide) hr rfl (zA1 (pn 1) (zA1 (pn 5) zA4)))))))
   (zA6 (zC3 PassesOwn.never rfl (zAU rfl B.S.e8 (zA1 (pn 1) zA4)) (zB4 (i:=3) S_undoing.nd rfl oi) (zA6 (zEQ (i:=4) S_undoing.nd rfl oi rfl (cn ["0","1","rows","column","4","at"] 1 (by kernel_rfl)) (zQE rfl B.S.e8 (zA1 (pn 3) (zA1 (pn 1) zA4))) (fun _ _ _ _=>(pgn 5)) (fun _ _ _ _=>zHY (zE0 (u_eq hu) (zC4 (zC1 (K:=K)) (zC4 (zC1 (K:=K)) (pn 2) (pn 5) (fun _ _=>rfl)) (pn 3) (fun _ _=>rfl)) zAI (zBV _))) (fun _ _ _ _=>(pn 5)))
   (zA6 (zLF (zVE (pt_l (K:=K) (pn 4))) (zAJ (zAW zVJ)) zE1)
   (zAJ (pst 2 S_undoing.nd (zCN (zOS B) (by decide) hr rfl (zA1 (pn 2) (zA1 (pn 3) (zA1 (zC4 (zC1 (K:=K)) (pn 4) zAI (fun _ _=>rfl)) zA4)))))))))
   (zAJ (zAW (zBR rfl (cn ["0","size","2","3","4","row"] 1 (by kernel_rfl)) (zF3 (K:=K) (pn 2)) (fun _ _ _ _=>(pgn 5)) (fun _ _ _ _=>zC2) (fun _ _ _ _=>(zN9 (u_sl (K:=K)) (pn 5) (zLH (pn 1)) zX8)))))))),(zB1 (zAH (zAK (n:=0) [0] (zCG zBQ (zA2 (de_v 0) zA8)))
   (zAH (zAK (n:=2) [0,1] (zBC (n:=1) (zEM (zA2 (de_v 1) zA8)) (zBB 5) zDH (zAG zBU (zAG zC9 (de_v 0) (de_v 5)) (zAV (zA2 (de_v 1) (zA2 (de_v 5) zA8))))))
   (zAH (zCX (zEM (zA2 (de_v 1) zA8)) (zAH (zAK (n:=1) [3,1,2] (zBC (n:=0) (zd2 (zA2 (de_v 3) (zA2 (de_v 1) zA8))) (zBB 5) (dt_b (dz (zAG zHU (zAG zC9 (zAG zC9 (de_v 2) (de_v 5)) (de_v 3)) (dz zAC)))) (de_v 5)))
   (zAH (zM5 (zW4 (dt_l (de_v 4))) (zB8 (n:=2) [] zWC) zGL)
   (zAK (n:=1) [2,3,4] (zAV (zA2 (de_v 2) (zA2 (de_v 3) (zA2 (zAG zC9 (de_v 4) (dz zAC)) zA8))))))))
   (zB8 (n:=2) [2,1] (zBC (n:=1) (zF6 (de_v 2)) (zBB 5) zDH (zbH (de_v 5) (do_e (de_v 1)) zd0)))))) h)⟩
theorem zLO:Has P w K mg base "can_undo" 4 ["table","numbers"] (sp0 K mg 0 zES):=by
 letI:Kc:=⟨K⟩
 exact dfM B.S.d16 zPH (fun _ _ _ _ _ _=>uw2 fun _ _=>rfl) fun hr hu h=>⟨_,(zAJ (zAW (zXA (zCN (zQO B) (by decide) hr rfl (zA1 (pn 0) (zA1 (pn 1) zA4))) (zQF (zFX zXD (zCN (zOQ B) (by decide) hr rfl (zA1 (zCN (zOR B) (by decide) hr rfl (zA1 (pn 0) (zA1 (pn 1) zA4))) zA4)) zVJ (zBV _)))))),(zB1 (zB8 (n:=0) [0,1] (zS0 (zAV (zA2 (de_v 0) (zA2 (de_v 1) zA8))) (zAG zWZ (zAV (zA2 (zAO (zAV (zA2 (de_v 0) (zA2 (de_v 1) zA8)))) zA8)) (dz zWC)))) h)⟩
theorem zGW:HasX P w K mg base "first_place" 3 ["text","letter"] (spE K mg 0 zCT):=by
 letI:Kc:=⟨K⟩
 exact dfX B.S.d17 zJ2 (fun _ _ _ _ _ _=>uw2 fun _ _=>rfl) fun hr hu h=>⟨_,(zA6 (zLF (pt_w (za5 (zE0 (u_ne hu) (zAM (zBP (K:=K)) rfl B.S.e5 boot_len (zA1 (pn 1) zA4)) zAI (zBV _)) (zVD (zE0 (zL0 (K:=K)) (pn 1) (pn 0) rfl)))) (zAJ (zTA (za9 B.x_NoLetter hr (by decide) zEL rfl (zA1 (pn 1) zA4)) zEL rfl)) zE1)
   (zAJ (zAW (zJT qB9 PySem.F.slot_str_find PySem.F.type_str_find zTP (pn 0) (zA1 (pn 1) zA4))))),(zB1 (zAH (zM5 (zbA (dt_b (dz (zAG zZR (dz (zCG zBQ (zA2 (de_v 1) zA8))) (dz zAC)))) (dt_b (dz (zAG zT0 (de_v 1) (de_v 0))))) (zRO B.x_NoLetter (zA2 (de_v 1) zA8)) zGL)
   (zB8 (n:=0) [1,0] (zKF zX0 (de_v 0) (zA2 (de_v 1) zA8)))) h)⟩
theorem zJW:HasX P w K mg base "places_of" 4 ["word","letter"] (spE K mg 1 zE3):=by
 letI:Kc:=⟨K⟩
 exact dfX B.S.d18 zMM (fun _ _ _ _ _ _=>uw2 fun _ _=>rfl) fun hr hu h=>⟨_,(zAJ (zAW (zVI (zA1 (zNA (zGW B) (by decide) hr zEL rfl (zA1 (pn 0) (zA1 (pn 1) zA4))) (zA1 (zJT qB9 PySem.F.slot_str_rfind PySem.F.type_str_rfind zQT (pn 0) (zA1 (pn 1) zA4)) zA4))))),(zB1 (zB8 (n:=1) [0,1] (zWA (n:=0) (zA2 (zIP (zA2 (de_v 0) (zA2 (de_v 1) zA8))) (zA2 (zKF zT1 (de_v 0) (zA2 (de_v 1) zA8)) zA8)))) h)⟩
theorem zLN:HasX P w K mg base "do_cross" 5 ["word","one","other"] (spE K mg 0 zDN):=by
 letI:Kc:=⟨K⟩
 exact dfX B.S.d19 S_do_cross (fun _ _ _ _ _ _=>uw3 fun _ _ _=>rfl) fun hr hu h=>⟨_,(zA6 (pst 3 S_do_cross.nd (zNA (zJW B) (by decide) hr zEL rfl (zA1 (pn 0) (zA1 (pn 1) zA4))))
   (zAJ (zAW (zFX (u_eq hu) (zJT qB9 PySem.F.slot_str_count PySem.F.type_str_count zQW (zN9 (u_sl (K:=K)) (pn 0) (zLH (zAR zD6 (zC4 (zC1 (K:=K)) (pn 3) zAI (fun _ _=>rfl)) zAI)) (zLH (zC4 (zC1 (K:=K)) (pn 3) zAI (fun _ _=>rfl)))) (zA1 (pn 2) zA4)) zAI (zBV _))))),(zB1 (zAH (zAK (n:=1) [0,1] (zIP (zA2 (de_v 0) (zA2 (de_v 1) zA8))))
   (zB8 (n:=0) [2,0,3] (zAG zHU (dz (zKF zT2 (zbH (de_v 0) (do_e (zAG zBU (zAG zC9 (de_v 3) (dz zAC)) (dz zAC))) (do_e (zAG zC9 (de_v 3) (dz zAC)))) (zA2 (de_v 2) zA8))) (dz zAC)))) h)⟩
theorem zI5:Has P w K mg base "letters_of" 1 ["word"] (sp0 K mg 0 zB2):=by
 letI:Kc:=⟨K⟩
 exact dfM B.S.d20 zKY (fun _ _ _ _ _ _=>uw1 fun _=>rfl) fun hr hu h=>⟨_,(zAJ (zAW (zJT qB9 qFb qFc zNF zN8 (zA1 (zAM (zR8 rfl) rfl B.S.e10 boot_sorted (zA1 (zEE (zVP rfl) rfl B.S.e9 zKN (zA1 (pn 0) zA4)) zA4)) zA4)))),(zB1 (zB8 (n:=0) [0] (zKF zQ5 (dz zNT) (zA2 (zAO (zWB (de_v 0))) zA8))) h)⟩
theorem zJX:HasX P w K mg base "crossings" 6 ["word"] (spE K mg 2 zE4):=by
 letI:Kc:=⟨K⟩
 exact dfX B.S.d21 S_crossings (fun _ _ _ _ _ _=>uw1 fun _=>rfl) fun hr hu h=>⟨_,(zA6 (pst 1 S_crossings.nd (zCN (zI5 B) (by decide) hr rfl (zA1 (pn 0) zA4)))
   (zAJ (zAW (zBR rfl (cn ["word","letters","one"] 1 (by kernel_rfl)) (zF3 (K:=K) (pn 1)) (fun _ _ _ _=>(pgn 2)) (fun _ _ _ _=>zC2) (fun _ _ _ _=>(zBR rfl (cn ["word","1","one","other"] 1 (by kernel_rfl)) (zF3 (K:=K) (pn 1)) (fun _ _ _ _=>(pgn 3)) (fun _ _ _ _=>zC2) (fun _ _ _ _=>(zI4 (pt_m (zNA (zLN B) (by decide) hr zVZ rfl (zA1 (pn 0) (zA1 (pn 2) (zA1 (pn 3) zA4))))) zAI zAI)))))))),(zB1 (zAH (zAK (n:=0) [0] (zUM (zA2 (de_v 0) zA8)))
   (zB8 (n:=2) [1,0] (zBC (n:=1) (zF6 (de_v 1)) (zBB 2) zDH (zBC (n:=0) (zF6 (de_v 1)) (zBB 3) zDH (zRW (dt_m (zRZ (zA2 (de_v 0) (zA2 (de_v 2) (zA2 (de_v 3) zA8))))) zAC zAC))))) h)⟩
theorem zaJ{f:Addr}{fd:FuncData}(F:Fun K "law" "law" (top 31) f fd):FnOk P w K mg base CX0 7 f fd ["_law_script"] (zJG K):=by
 letI:Kc:=⟨K⟩
 refine(F.ok S_law (sp:=sp0 K mg 0 zK5) (fun vs H Q E h=>zL6 h) (fun cdv A outer s H vs Q E hr h=>?_)).imp (zTV zTU);have hu:=hr.units;exact⟨_,(zA6 (pst 1 S_law.nd (zCN (zJZ B) (by decide) hr rfl (zA1 (zCN (zDT B) (by decide) hr rfl (zA1 (pn 0) (zA1 zAI zA4))) (zA1 zAI zA4))))
   (zA6 (pst 2 S_law.nd (zAM (zBP (K:=K)) rfl B.S.e5 boot_len (zA1 (zCN (zDA B) (by decide) hr rfl (zA1 (pn 1) zA4)) zA4)))
   (zA6 (pst 3 S_law.nd (zNA (zJX B) (by decide) hr zVZ rfl (zA1 (pn 1) zA4)))
   (zA6 (zC3 PassesOwn.never rfl (zAU rfl B.S.e8 (zA1 zAI zA4)) (zB4 (i:=4) S_law.nd rfl oi) (zA6 (pst 5 S_law.nd (zBR rfl (cn ["0","1","2","3","4","5","6","7","_law_bit"] 1 (by kernel_rfl)) (zF3 (K:=K) (zCN (zGZ B) (by decide) hr rfl (zA1 (zCN (zDT B) (by decide) hr rfl (zA1 (pn 0) (zA1 (zAR zD6 zAI (pn 4)) zA4))) (zA1 zAI (zA1 (pn 2) zA4))))) (fun _ _ _ _=>(pgn 8)) (fun _ _ _ _=>zC2) (fun _ _ _ _=>(zAR zCJ zAI (pn 8)))))
   (zA6 (zEQ (i:=6) S_law.nd rfl oi rfl (cn ["0","1","2","3","4","_law_choice","6","7","_law_i"] 1 (by kernel_rfl)) (zAU rfl B.S.e8 (zA1 (pn 2) zA4)) (fun _ _ _ _=>(pgn 8)) (fun _ _ _ _=>zHY (zE0 (u_eq hu) (zC4 (zC1 (K:=K)) (pn 5) (pn 8) (fun _ _=>rfl)) zAI (zBV _))) (fun _ _ _ _=>(pn 8)))
   (zA6 (pst 7 S_law.nd (zCN (zLO B) (by decide) hr rfl (zA1 (pn 3) (zA1 (pn 6) zA4))))
   (zAJ (zLF (pt_w (za5 (zVE (pt_m (zAM zDD rfl B.S.e4 boot_isinstance (zA1 (pn 7) (zA1 (zLJ (v:=.ty "bool") rfl B.S.e1 boot_bool rfl) zA4))))) (zVD (zE0 (u_ne hu) (pn 7) (zFX (u_eq hu) (zAM (zBP (K:=K)) rfl B.S.e5 boot_len (zA1 (zCN (zGX B) (by decide) hr rfl (zA1 (pn 1) (zA1 (pn 5) zA4))) zA4)) zAI (zBV _)) (zBV _))))) (zAJ (zAW zaA)) zE1))))))
   (zAJ (zAW zaA)))))),(zB1 (zAH (zAK (n:=0) [0] (zAV (zA2 (zAO (zAV (zA2 (de_v 0) (zA2 zAC zA8)))) (zA2 zAC zA8))))
   (zAH (zAK (n:=0) [1] (zCG zBQ (zA2 (zAV (zA2 (de_v 1) zA8)) zA8)))
   (zAH (zAK (n:=2) [1] (zIP (zA2 (de_v 1) zA8)))
   (zAH (zCX (zEM (zA2 zAC zA8)) (zAH (zAK (n:=1) [2,0,4] (zBC (n:=0) (zF6 (zAV (zA2 (zAO (zAV (zA2 (de_v 0) (zA2 (zAO (zAG zBU (dz zAC) (de_v 4))) zA8)))) (zA2 zAC (zA2 (de_v 2) zA8))))) (zBB 8) zDH (zAG zCK (dz zAC) (de_v 8))))
   (zAH (zAK (n:=1) [2,5] (zBC (n:=0) (zEM (zA2 (de_v 2) zA8)) (zBB 8) (dt_b (dz (zAG zHU (zAG zC9 (de_v 5) (de_v 8)) (dz zAC)))) (de_v 8)))
   (zAH (zAK (n:=0) [3,6] (zAV (zA2 (de_v 3) (zA2 (de_v 6) zA8))))
   (zM5 (zbA (zW4 (dt_m (dz (zRV (by decide) (de_v 7))))) (dt_b (dz (zAG zZR (de_v 7) (dz (zAG zHU (dz (zCG zBQ (zA2 (zAO (zAV (zA2 (de_v 1) (zA2 (de_v 5) zA8)))) zA8))) (dz zAC))))))) (zB8 (n:=0) [] zbJ) zGL)))))
   (zB8 (n:=0) [] zbJ))))) h)⟩
end
theorem all_mk{l:qF4}{w:World}{K:qA1}{h:Heap}{mg:Str->Option Value}{fa f22 f23 a_RoundError a_NoLetter:Addr}{dd_RoundError dd_NoLetter:Option Addr}{cd_RoundError cd_NoLetter:ClassData}{sl_RoundError sl_NoLetter:Array (Option Value)}(X:K.In h)(G:h.Ns mainGlobals mg)(hfa:mg "law" = some (.ref fa))
  {od22 an22 od23 an23:Option Addr} {sl22 sl23:Array (Option Value)} {oc22 kV22 dc22 pm22 cd22 ct22 oc23 kV23 dc23 pm23 cd23 ct23:Value}
  (S:Bd K mg)
  (a22:qDp K mainGlobals "law" = some (some (.ref f22)))
  (l22:K.lookup f22=some ⟨oc22,od22,.func (qBg "law" "law" (zBS (top 31)) (zB0 (top 31)) (zA5 (top 31)) .none kV22 dc22 pm22 an22 cd22 ct22),sl22⟩)
  (c22:qCt K cd22 "law" = true)
  (k22:qB5 K (.ref f22)=true)
  (xa_RoundError:qDp K mainGlobals "RoundError" = some (some (.ref a_RoundError)))
  (xl_RoundError:K.lookup a_RoundError=some ⟨.type "type",dd_RoundError,.cls cd_RoundError,sl_RoundError⟩)
  (xd_RoundError:xcD a_RoundError cd_RoundError sl_RoundError=true)
  (xn_RoundError:qEg K a_RoundError=some cd_RoundError)
  (xo_RoundError:PySem.W.excTail cd_RoundError.mro=true)
  (xt_RoundError:qH4 K (.ref a_RoundError)=some (.type "type"))
  (xg_RoundError:qAo K (.ref a_RoundError) "__getattribute__" = some (some (.builtin "BaseException.__getattribute__")))
  (xh_RoundError:qAo K (.ref a_RoundError) "__getattr__" = some none)
  (xj_RoundError:qDh K a_RoundError=true)
  (xm_RoundError:qAo K (.ref a_RoundError) "__class__" = some (some (.builtin "object.__class__")))
  (xp_RoundError:qEe K a_RoundError (.type "object")=some true)
  (xv_RoundError:qEm K (.ref a_RoundError) (.type "ValueError")=some true)
  (xw_RoundError:qEm K (.ref a_RoundError) (.type "BaseException")=some true)
  (xa_NoLetter:qDp K mainGlobals "NoLetter" = some (some (.ref a_NoLetter)))
  (xl_NoLetter:K.lookup a_NoLetter=some ⟨.type "type",dd_NoLetter,.cls cd_NoLetter,sl_NoLetter⟩)
  (xd_NoLetter:xcD a_NoLetter cd_NoLetter sl_NoLetter=true)
  (xn_NoLetter:qEg K a_NoLetter=some cd_NoLetter)
  (xo_NoLetter:PySem.W.excTail cd_NoLetter.mro=true)
  (xt_NoLetter:qH4 K (.ref a_NoLetter)=some (.type "type"))
  (xg_NoLetter:qAo K (.ref a_NoLetter) "__getattribute__" = some (some (.builtin "BaseException.__getattribute__")))
  (xh_NoLetter:qAo K (.ref a_NoLetter) "__getattr__" = some none)
  (xj_NoLetter:qDh K a_NoLetter=true)
  (xm_NoLetter:qAo K (.ref a_NoLetter) "__class__" = some (some (.builtin "object.__class__")))
  (xp_NoLetter:qEe K a_NoLetter (.type "object")=some true)
  (xv_NoLetter:qEm K (.ref a_NoLetter) (.type "ValueError")=some true)
  (xw_NoLetter:qEm K (.ref a_NoLetter) (.type "BaseException")=some true)
  (ycg:qC9 K (.builtin "object.__class__") "__get__" = some (some (.builtin "getset_descriptor.__get__")))
  (yct:qEx K (.builtin "object.__class__")=some true)
  (xc_NoLetter:qAo K (.ref a_NoLetter) "__setattr__" = some (some (.builtin "object.__setattr__")))
  (xq_NoLetter:qGo K a_NoLetter "letter" = some none)
  (xr_NoLetter:qAo K (.ref a_NoLetter) "letter" = some none)
  (xs_NoLetter:qB5 K (.ref a_NoLetter)=true)
  (xi_NoLetter:qAo K (.ref a_NoLetter) "__init__" = some (some (.ref f23)))
  (xf_NoLetter:qDl K (.ref f23)=true)
  (l23:K.lookup f23=some ⟨oc23,od23,.func (qBg "__init__" "NoLetter.__init__" (zBS zBH) (zB0 zBH) (zA5 zBH) .none kV23 dc23 pm23 an23 cd23 ct23),sl23⟩)
  (c23:qCt K cd23 "NoLetter.__init__" = true)
  (k23:qB5 K (.ref f23)=true)
  (wg_RoundError:qC9 K (.ref a_RoundError) "__getattribute__" = some (some (.builtin "type.__getattribute__")))
  (wr_RoundError:qGm K a_RoundError (.type "type")=true)
  (wf_RoundError:qGn K (.ref a_RoundError) (.type "type") "__init__" = some (.val (.builtin "ValueError.__init__")))
  :∃fd:FuncData,(∀(s:Shared)(v:Value),BindsTo s fd ⟨[v],[]⟩ [("_law_script",v)])/\∀base:Heap,K.In base->base.Ns mainGlobals mg->FnOk l.prog w K mg base CX0 7 fa fd ["_law_script"] (zJG K):=by
 have e:=hfa.symm.trans (qEj X G a22);cases e;have i_RoundError:Xc.XIs K a_RoundError:=⟨zPI xl_RoundError xd_RoundError,xg_RoundError,xh_RoundError,xj_RoundError,xm_RoundError,ycg,yct,xp_RoundError⟩
 have i_NoLetter:Xc.XIs K a_NoLetter:=⟨zPI xl_NoLetter xd_NoLetter,xg_NoLetter,xh_NoLetter,xj_NoLetter,xm_NoLetter,ycg,yct,xp_NoLetter⟩
 have n_RoundError:XCls K mg "RoundError" a_RoundError:=⟨zbL xa_RoundError,qEj X G xa_RoundError,i_RoundError⟩
 have n_NoLetter:XCls K mg "NoLetter" a_NoLetter:=⟨zbL xa_NoLetter,qEj X G xa_NoLetter,i_NoLetter⟩
 have w_RoundError:XBase K a_RoundError:=⟨wg_RoundError,wr_RoundError,wf_RoundError,zcV⟩
 refine⟨qBg "law" "law" (zBS (top 31)) (zB0 (top 31)) (zA5 (top 31)) .none kV22 dc22 pm22 an22 cd22 ct22,fun s v=>.of_eq rfl,fun base _ _=>?_⟩;have F_NoLetter:=zRI (x:="__init__") (qual:="NoLetter.__init__") (st:=zBH) l23 c23 k23;have x_NoLetter:XIni l.prog w K mg base "NoLetter" "letter" a_NoLetter:=⟨n_NoLetter,xs_NoLetter,⟨xc_NoLetter,zXB xn_NoLetter xo_NoLetter,xq_NoLetter,xj_NoLetter⟩,xr_NoLetter,f23,_,["self","letter"],xi_NoLetter,xf_NoLetter,zFA F_NoLetter w_RoundError n_RoundError.gm,F_NoLetter.binds (fun _ _ _ _ _ _=>uw2 fun _ _=>rfl)⟩
 exact zaJ ⟨S,_,x_NoLetter⟩ (zRI (st:=(top 31)) l22 c22 k22)
theorem walk{l:qF4}{q:Program}{loose:List Str}{XP:(Str->Option Value)->Heap->Prop}{YP:World->Heap->Prop}{d:DefRec}{K:Params->qA1}(hn:l.most=some 63)(hdf:d.params.defaults=[])
  (hY:∀(w:World)(h:Heap),YP w h->(K w.params).In h)
  (F:∀(w:World)(mg:Str->Option Value)(fa:Addr)(h:Heap),(K w.params).In h->h.Ns mainGlobals mg->mg d.name=some (.ref fa) ->
   ∃fd:FuncData,(∀(s:Shared)(u:Value),BindsTo s fd ⟨[u],[]⟩ [("_law_script",u)])/\∀base:Heap,(K w.params).In base->base.Ns mainGlobals mg->FnOk l.prog w (K w.params) mg base CX0 7 fa fd ["_law_script"] (zJG (K w.params))) :
  qHp q loose XP YP l.row.toRowW d [] (fun f vs=>qHi f vs):=
 L2.walk_ofW (n:=63) (k:=7) (x:="_law_script") (CX:=fun _=>CX0) (sp:=fun w=>zJG (K w.params)) hn (by decide) hdf ⟨rfl,by decide,by decide⟩ hY F (fun _ _ a ns hl hw _ hS=>⟨a,ns,rfl,hS,hl,hw,fun _=>rfl⟩) fun _ _ _ _ _ z=>z
end Q49
open PySem PySem.W PyProof.Rows
set_option maxRecDepth 100000 in
set_option maxHeartbeats 0 in
theorem PySem.Challenge.cw_fourway_k49_whole_sets_leave_one_round_holds : PySem.Challenge.rw_fourway_k49_whole_sets_leave_one_round.Holds := by
 w_on;o_law;k_head;(case hw=>w_witness2)
 k_fill
 refine Q49.walk (l:=qBr) rfl rfl (fun w h Y=>PySem.W.kIn_of Y) ?F
 case F=>
  intro w mg fa h KX G hmg;refine' Q49.all_mk KX G hmg (by constructor<;>first|exact L3.mkD KX G (by k_is) (by k_is) (by k_is) (by k_is)|exact PySem.W.mg_none_of KX G (by k_is)) (by k_is) (by k_is) (by k_is) (by k_is) (by k_is) (by k_is) (by rfl) (by k_is) (by rfl) (by k_is) (by k_is) (by k_is) (by k_is) (by k_is) (by k_is) (by k_is) (by k_is) (by k_is) (by k_is) (by rfl) (by k_is) (by rfl) (by k_is) (by k_is) (by k_is) (by k_is) (by k_is) (by k_is) (by k_is) (by k_is) (by k_is) (by k_is) (by k_is) (by k_is) (by k_is) (by k_is) (by k_is) (by k_is) (by k_is) (by k_is) (by k_is) (by k_is) (by k_is) (by k_is)
