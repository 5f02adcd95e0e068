import PyProof.Rows.All
import Wide.All
import OpenK.AllK
import Wide.FinOn
import Lean
import PyProof.EqAt
import PyProof.EqKinds
import PyProof.TupleCall
import PyProof.NeKinds
import KE.KLam
import KE.KNestM
import PySem.Challenge.RW_fourway_k54_changes_back
set_option Elab.async false
set_option linter.all false
set_option maxRecDepth 100000
open Array renaming length_toList->qB3,getElem?_toList->qBf,getElem?_eq_some_iff->qBk,getElem?_eq_getElem->qE3,toList_push->qG0,toList->qG3
open Bool renaming false_ne_true->qAj,and_eq_true->qB9,false_eq_true->qCu,and_false->qDg,eq_iff_iff->qDo,or_false->qEe,and_true->qEg,or_true->qF4,or_eq_true->qGe
open Char renaming toNat->qHk
open Classical renaming propDecidable->qA2
open False renaming elim->qA6
open ForInStep renaming yield->qCy
open Int renaming emod_nonneg->qCc,toNat_natCast->qCi,toNat_of_nonneg->qCo,emod_lt_of_pos->qCv,ediv_one->qH9,mul_one->qHd
open List renaming getD_eq_getElem?_getD->qA1,getElem?_eq_some_iff->qA3,mem_cons->qA7,getElem?_append_right->qA8,getElem?_eq_getElem->qA9,getElem?_append_left->qAa,range->qAe,not_mem_nil->qAg,size_toArray->qAk,count_eq_zero->qAl,replicate->qAm,getElem?_map->qAn,mem_cons_of_mem->qAo,length_cons->qAp,length_map->qAq,count_append->qAs,map_cons->qAu,mem_cons_self->qAv,mem_append_right->qAw,lookup_cons->qB0,getElem?_set_self->qB1,length_append->qB2,getElem?_set_ne->qB4,lookup->qB6,append_assoc->qB7,cons_append->qBa,drop_eq_getElem_cons->qBc,count_cons_self->qBd,getElem?_cons_succ->qBj,mem_of_getElem?->qBl,mem_singleton->qBs,append_nil->qBw,count_cons_of_ne->qBx,pairwise_cons->qBy,contains_cons->qBz,getElem?_replicate->qC5,mem_range->qC7,mem_map->qC8,mergeSort_perm->qCb,getElem_range->qCe,getElem?_reverse->qCf,mem_append->qCg,map_append->qCh,filterMap_cons->qCk,getElem?_cons_zero->qCn,getElem_mem->qCq,drop_zero->qCr,take_of_length_le->qCs,nodup_cons->qCx,drop_left'->qD0,eq_append_cons_of_mem->qD5,mem_append_left->qD6,length_nil->qDb,pairwise_mergeSort->qDc,take_left'->qDd,getElem_cons_succ->qDf,length_replicate->qDh,ext_getElem->qDl,all_cons->qDm,of_mem_zip->qDq,map_congr_left->qDr,range_succ->qDs,count_cons->qDt,perm_iff_count->qDy,length_eraseIdx_of_lt->qDz,count_pos_iff->qE1,extract_eq_drop_take->qE4,getElem?_take_of_lt->qE9,Nodup->qEb,pairwise_map->qEc,any_cons->qEf,eraseIdx_cons_succ->qEh,length_eq_zero_iff->qEi,filter_cons_of_pos->qEk,filter_cons_of_neg->qEl,length_take->qEo,length_drop->qEp,all_eq_true->qEr,take_length->qEs,drop_length->qEt,length_eq_one_iff->qEx,filter_eq_nil_iff->qEy,length_singleton->qF2,forIn_cons->qF3,getElem?_eq_none->qF6,take_append_drop->qFa,nil_append->qFb,take_succ_cons->qFg,map_eq_nil_iff->qFi,reverse_append->qFj,mem_filterMap->qFk,getElem?_drop->qFn,filterMap_map->qFo,filter_append->qFq,take_add_one->qFx,reverse_cons->qFz,length_range->qG1,map_nil->qG4,filter_cons->qG9,mem_filter->qGd,range'->qGf,map_map->qHc,not_lt->qHe,take->qHn,drop->qHo
open List.Nodup renaming count->qHm
open List.Pairwise renaming nil->qFw,imp_of_mem->qH8
open List.Perm renaming swap->qD9,cons->qE6,append_left->qF5,refl->qFd
open Nat renaming le_refl->qA4,lt_of_lt_of_le->qAc,ne_of_lt->qAf,zero_le->qAi,le_trans->qAr,lt_succ_of_lt->qBh,ne_of_gt->qBm,lt_succ_self->qBp,le_succ->qBr,lt_irrefl->qC3,le_of_lt->qCj,zero_add->qCz,le_of_eq->qE0,mod_add_mod->qF9,mod_lt->qFc,lt_of_le_of_lt->qFm,min_self->qG5,le_add_right->qGa,mod_eq_of_lt->qGc,le_zero->qGi,min_eq_left->qGk
open Nat.succ renaming inj->qHb
open Ne renaming symm->qC2
open Option renaming map_some->qDu,isSome_iff_exists->qE8,getD_some->qEq,map_eq_some_iff->qEw,none->qFf,isSome_some->qFl,getD_none->qG8,map_none->qGj
open Option.some renaming inj->qBq,injEq->qHj
open Or renaming inr->qH7,inl->qHg
open Prod renaming fst->qHh
open PyProof.Rows renaming callWith_type1->qCw,callWith_builtin1->qDi
open PyProof.Rows.F renaming plain_set_update_loop->qC9,entry_set_update_loop->qD8
open PySem renaming mem_of_lookup->qCl,call->qFy,Within->qG2
open PySem.Challenge renaming rw_fourway_k54_changes_back->qCp,pw_fourway_k54_changes_back->qEm
open PySem.EqMixed renaming eq_bool_str->qGo,eq_str_bool->qGp,ne_bool_str->qGt,ne_str_bool->qGu,eq_int_str->qGy,eq_str_int->qH0,ne_int_str->qH4,ne_str_int->qH6
open PySem.EqNone renaming eq_none_none->qGl,eq_none_bool->qGm,eq_bool_none->qGn,ne_none_none->qGq,ne_none_bool->qGr,ne_bool_none->qGs,eq_none_int->qGv,eq_none_str->qGw,eq_int_none->qGx,eq_str_none->qGz,ne_none_int->qH1,ne_none_str->qH2,ne_int_none->qH3,ne_str_none->qH5
open PySem.F renaming plain_extend_loop->qBo,slot_list_append->qC0,type_list_append->qC1,plainAttrs_list->qC6,plainAttrs_str->qCd,plain_list_iadd->qCm,excBase_ValueError->qD3,plain_reversed_new->qD4,entry_proto_collect->qDv,plain_proto_collect->qDw,entry_extend_loop->qE5,args_tuple_add_2->qEa,entry_tuple_add->qEd,entry_list_iadd->qEj,slot_tuple_add->qEv,slot_str_count->qEz,type_str_count->qF0,slot_set_iter->qF7,slot_lri_next->qF8
open PySem.W renaming Frag->qA0,findIn->qA5,kitOne->qAb,keepIn->qAd,subIn->qAh,nsIn->qAt,fnOf->qAx,codeIn->qAy,emptyDict->qAz,instObj->qB5,isFn->qB8,hasDictIn->qBb,mg_none_of->qBe,typeIn->qBg,clsIn->qBi,kia_one->qBn,plainGet->qBt,mg_of->qBu,makesIn->qBv,mroIn->qC4,plainOver->qCa,callWith_K->qCt,Looks->qD1,specialIn->qD2,looks_findIn->qD7,takerIn->qDa,cellsFrom_some->qDe,methodCall_KW->qDj,handedIn->qDk,plainGet_of->qDp,OpenLaw->qDx,lookIn->qE2,methodObj->qE7,makes_of->qEn,codeHdIn->qEu,takesIn->qF1,tabObj->qFe,callWith_K0->qFh,WalkO->qFp,make_core->qFt,kitx_list->qFu,kitx_dict->qFv,envX->qG6,InitBack->qG7,lks_uniq->qGb,readsIn->qGg,findCls->qGh
open PySem.W.Looks renaming of_pure->qHa,here->qHf,ld->qHl
open PySem.Within renaming cons->qHi
open Sum renaming inl->qFr,inr->qFs
open True renaming intro->qDn
set_option compiler.extract_closed false
set_option genSizeOf false
set_option genSizeOfSpec false
set_option bootstrap.genMatcherCode false
noncomputable section
set_option maxHeartbeats 0 in
def hdZ:PSigma fun H:Prop=>H->PySem.Challenge.rw_fourway_k54_changes_back.Holds:=by
 refine' ⟨_,fun x=>?go⟩
 case' go=>w_on;o_law;refine' And.left (b:=_) ⟨?main,And.intro ?hl ?hc⟩
 case main=>
  k_head
  case hw=>w_witness2
 case hc=>exact x
 case hl=>intro w;unfold PySem.W.openEnds PySem.W.fencedOpening PySem.W.topFrom;rewrite[PySem.W.Fast.te10274390034422433532,PySem.W.Fast.te14289696077712309145,PySem.W.Fast.te14082659384304107361,PySem.W.Fast.te4187177175401517315,PySem.W.Fast.te1435165496053646825,PySem.W.Fast.te14364793385576792824];kernel_rfl
namespace L2
open PySem PySem.Spec PyProof.Rows
abbrev Key:=Sum Int Str
noncomputable def zWO:Key->Value->Bool
 |.inl k,v=>Value.isInt k v
 |.inr x,v=>Value.isStrOf x v
noncomputable def keyH(w:World):Key->Int
 |.inl k=>hashInt k
 |.inr x=>hashStr w x
theorem zBD:∀{k:Key}{v:Value},zWO k v=true->(∃i t,k=qFr i/\v=Value.int i t)\/(∃x t,k=qFs x/\v=Value.str x t)
 |.inl i,v,h=>by
  obtain⟨t,e⟩:=Value.isInt_shape (k:=i) (v:=v) h;exact .inl ⟨i,t,rfl,e⟩
 |.inr x,v,h=>by
  obtain⟨t,e⟩:=Value.isStrOf_shape (x:=x) (v:=v) h;exact .inr ⟨x,t,rfl,e⟩
theorem zWN(a b:Int):decide ((qFr a:Key)=qFr b)=(a==b):=by
 by_cases e:a=b
 ·subst e;simp
 ·have h:¬(qFr a:Key)=qFr b:=fun q=>e (Sum.inl.inj q)
  rw[decide_eq_false h];exact(beq_eq_false_iff_ne.mpr e).symm
theorem zWK(a b:Str):decide ((qFs a:Key)=qFs b)=decide (a=b):=by
 by_cases e:a=b
 ·subst e;simp
 ·have h:¬(qFs a:Key)=qFs b:=fun q=>e (Sum.inr.inj q)
  rw[decide_eq_false h,decide_eq_false e]
theorem zWM(a:Int)(b:Str):decide ((qFr a:Key)=qFs b)=false:=decide_eq_false (fun q=>nomatch q)
theorem zWL(a:Str)(b:Int):decide ((qFs a:Key)=qFr b)=false:=decide_eq_false (fun q=>nomatch q)
def zLD(prog:Program)(w:World):PySem.KeyKind prog w Key where
 is:=zWO
 hash:=keyH w
 inj:=fun v a b ha hb=>by
  rcases zBD ha with⟨i,t,rfl,rfl⟩|⟨x,t,rfl,rfl⟩
  ·rcases zBD hb with⟨j,u,rfl,e⟩|⟨y,u,rfl,e⟩
   ·injection e with e1 _;rw[e1]
   ·exact nomatch e
  ·rcases zBD hb with⟨j,u,rfl,e⟩|⟨y,u,rfl,e⟩
   ·exact nomatch e
   ·injection e with e1 _;rw[e1]
 byValue:=fun k v h=>by
  rcases zBD h with⟨i,t,rfl,rfl⟩|⟨x,t,rfl,rfl⟩<;>rfl
 pyHash:=fun hv h=>by
  rcases zBD hv with⟨i,t,rfl,rfl⟩|⟨x,t,rfl,rfl⟩
  ·exact wpAny_pyHash_int h
  ·exact wpAny_pyHash_str h
 eqBool:=fun hu hv h=>by
  rcases zBD hu with⟨i,t,rfl,rfl⟩|⟨x,t,rfl,rfl⟩
  ·rcases zBD hv with⟨j,u,rfl,rfl⟩|⟨y,u,rfl,rfl⟩
   ·rw[zWN]at h;exact wpAny_eqBool_int h
   ·rw[zWM]at h;exact SeqAt.EqAt.int_str i t y u _ _ _ _ h
  ·rcases zBD hv with⟨j,u,rfl,rfl⟩|⟨y,u,rfl,rfl⟩
   ·rw[zWL]at h;exact SeqAt.EqAt.str_int x t j u _ _ _ _ h
   ·rw[zWK]at h;exact wpAny_eqBool_str h
 «strs»:=fun k x t v h=>by
  rcases zBD h with⟨i,u,rfl,e⟩|⟨y,u,rfl,e⟩
  ·exact nomatch e
  ·injection e with e1 _
   subst e1;cases v<;>rfl
inductive V where
 |non|bl (b:Bool)|int (i:Int)|str (x:Str)|byt (b:Array UInt8)|flt (b:UInt64)|ref (a:Addr)|ty (n:String)
 deriving DecidableEq
noncomputable def RelV:V->Value->Prop
 |.non,u=>u=Value.none
 |.bl b,u=>u=Value.bool b
 |.int i,u=>∃t,u=Value.int i t
 |.str x,u=>∃t,u=Value.str x t
 |.byt b,u=>∃t,u=Value.bytes b t
 |.flt b,u=>∃t,u=Value.float b t
 |.ref a,u=>u=Value.ref a
 |.ty n,u=>u=Value.type n
abbrev Vals:List V->List Value->Prop:=Paired RelV
theorem Vals.length{xs:List V}{us:List Value}(r:Vals xs us):xs.length=us.length:=Paired.length r
theorem Vals.get:∀{xs:List V}{us:List Value}{i:Nat}{x:V},Vals xs us->xs[i]?=some x->∃u,us[i]?=some u/\RelV x u
 |_,_,_,_,.nil,e=>by simp at e
 |_,_,0,_,.cons r _,e=>by simp at e;subst e;exact⟨_,rfl,r⟩
 |_,_,i+1,x,.cons _ t,e=>by
  obtain⟨u,h1,h2⟩:=Vals.get (i:=i) (x:=x) t (by simpa using e);exact⟨u,by simpa using h1,h2⟩
theorem Vals.append:∀{xs ys:List V}{us ws:List Value},Vals xs us->Vals ys ws->Vals (xs++ys) (us++ws)
 |_,_,_,_,.nil,s=>s
 |_,_,_,_,.cons r t,s=>.cons r (Vals.append t s)
theorem Vals.take:∀{xs:List V}{us:List Value}(n:Nat),Vals xs us->Vals (xs.take n) (us.take n)
 |_,_,0,_=>.nil
 |_,_,_+1,.nil=>.nil
 |_,_,n+1,.cons r t=>.cons r (Vals.take n t)
theorem Vals.drop:∀{xs:List V}{us:List Value}(n:Nat),Vals xs us->Vals (xs.drop n) (us.drop n)
 |_,_,0,r=>r
 |_,_,_+1,.nil=>.nil
 |_,_,n+1,.cons _ t=>Vals.drop n t
def RelO:Option V->Option Value->Prop
 |some v,some u=>RelV v u
 |none,none=>True
 |_,_=>False
def KV{κ:Type}:List (κ×V)->List (κ×Value)->Prop:=Paired fun(p:κ×V)(q:κ×Value)=>p.1=q.1/\RelV p.2 q.2
noncomputable def kV:Key->V
 |.inl i=>.int i
 |.inr x=>.str x
inductive HO where
 |lst (xs:List V)
 |tup (xs:List V)
 |dK (kvs:List (Key×V))|dT (kvs:List (List Key×V))
 |set (S:Int->Bool) (n:Nat)
 |ins (C dx:Addr) (fs:List (Str×V))
 |own (x:Addr)
 |xd (fs:List (Str×V))
 |met (f x:Addr)
 |rng (lo hi:Int)
 |frz (o:Obj) (u:HO)
 |tbl (ps:Array Value)
 |lam (q:Str)
 |fn (o:Obj) (q:Str)
 |ext (φ:Heap->Prop)
abbrev Hp:=Addr->Option HO
noncomputable def upd(H:Hp)(a:Addr)(o:HO):Hp:=fun b=>if b=a then some o else H b
theorem zAD{H:Hp}{a:Addr}{o:HO}:upd H a o a=some o:=by unfold upd;rw[if_pos rfl]
theorem zA6{H:Hp}{a b:Addr}{o:HO}(h:b≠a):upd H a o b=H b:=by unfold upd;rw[if_neg h]
theorem zO1{H:Hp}{a:Addr}{o u:HO}:upd (upd H a o) a u=upd H a u:=by
 funext b;unfold upd;split<;>rfl
theorem zRC{H:Hp}{a b:Addr}{o u:HO}(h:H a=some o)(h':H b=some u)(d:o≠u):a≠b:=by
 intro e;subst e;rw[h]at h';exact d (qBq h')
theorem zAI{H:Hp}{a b:Addr}{o:HO}(h:H a=some o)(h':H b=none):a≠b:=by
 intro e;subst e;rw[h]at h';cases h'
def CodR(o:Obj)(q:Str):Prop:=∃vs t,o.data=.fields vs/\vs[1]?=some (.str q t)
section
variable(P:Program)(w:World)
def ObjOk(H:Hp)(h:Heap)(a:Addr):HO->Prop
 |.lst xs=>xs.length<=sizeLine/\∃(its:List Value)(n:Nat),Vals xs its/\h.get? a=some { cls:=.type "list",data:=.seq its.toArray n }
 |.tup xs=>xs.length<=sizeLine/\∃its:List Value,Vals xs its/\IsTup h a its.toArray
 |.dK kvs=>kvs.length<=sizeLine/\(a==sysModules)=false/\∃vs,KV kvs vs/\h.DictOf (zLD P w) a vs
 |.dT kvs=>kvs.length<=sizeLine/\(a==sysModules)=false/\∃xs:List (List Key×Addr×Value),
   Paired (fun(p:List Key×V)(q:List Key×Addr×Value)=>p.1=q.1/\H q.2.1=some (.tup (p.1.map kV))/\RelV p.2 q.2.2) kvs xs /\
   ∃o es ep,h.get? a=some o/\o.ExactDict/\o.data=.dict es ep/\es.toList=xs.map (entryOfKey (tupleKind (zLD P w)))/\(xs.map (·.1)).Nodup
 |.set S n=>h.SetOf (intKind P w) a S n
 |.ins C dx fs=>H dx=some (.own a)/\fs.length<=1000/\dx≠a/\h.get? a=some (qB5 C dx) /\
   ∃mA,h.Ns1 dx mA/\(∀f,RelO (fs.lookup f) (mA f))/\qG2 mA (fs.map (·.1))
 |.own _=>∃o,h.get? a=some o
 |.xd fs=>∃mA,h.Ns1 a mA/\∀f,RelO (fs.lookup f) (mA f)
 |.rng lo hi=>∃t u v,h.get? a=some { cls:=.type "range",data:=.fields #[.int lo t,.int hi u,.int 1 v] }
 |.frz o u=>h.get? a=some o/\ObjOk H h a u
 |.tbl ps=>h.get? a=some { cls:=.none,data:=.fields ps }
 |.lam q=>∃ps:Array Value,h.get? a=some { cls:=.none,data:=.fields ps }/\TriplesOk ps.toList/\∀pos cv,codeAmong pos ps.toList=some cv->∃c oc u,cv=.ref c/\H c=some (.frz oc u)/\CodR oc q
 |.fn o q=>h.get? a=some o/\∃fd c oc u,o.data=.func fd/\fd.code=.ref c/\H c=some (.frz oc u)/\CodR oc q
 |.met f x=>h.get? a=some (qE7 (.ref f) (.ref x))
 |.ext φ=>φ h/\(∃o,h.get? a=some o)/\∀h1 h2:Heap,φ h1->(∀o,h1.get? a=some o->h2.get? a=some o)->φ h2
def HOk(H:Hp)(h:Heap):Prop:=∀a o,H a=some o->ObjOk P w H h a o
end
section
variable{P:Program}{w:World}{H H':Hp}{h h':Heap}{a:Addr}{o:HO}
theorem ObjOk.lt(x:ObjOk P w H h a o):a<h.objs.size:=by
 cases o with
 |lst xs=>obtain⟨_,_,_,_,e⟩:=x;exact Heap.lt_size e
 |tup xs=>obtain⟨_,_,_,p⟩:=x;exact p.lt
 |dK kvs=>obtain⟨_,_,_,_,o,_,_,e,_⟩:=x;exact Heap.lt_size e
 |dT kvs=>obtain⟨_,_,_,_,o,_,_,e,_⟩:=x;exact Heap.lt_size e
 |set S n=>obtain⟨o,_,_,_,e,_⟩:=x;exact Heap.lt_size e
 |ins C dx fs=>obtain⟨_,_,_,e,_⟩:=x;exact Heap.lt_size e
 |own y=>obtain⟨_,e⟩:=x;exact Heap.lt_size e
 |xd fs=>obtain⟨_,⟨_,_,_,e,_⟩,_⟩:=x;exact Heap.lt_size e
 |rng lo hi=>obtain⟨_,_,_,e⟩:=x;exact Heap.lt_size e
 |frz ob u=>obtain⟨e,_⟩:=x;exact Heap.lt_size e
 |tbl ps=>exact Heap.lt_size (show h.get? a=some _ from x)
 |lam q=>obtain⟨_,e,_⟩:=x;exact Heap.lt_size e
 |fn ob q=>obtain⟨e,_⟩:=x;exact Heap.lt_size e
 |met f y=>exact Heap.lt_size (show h.get? a=some _ from x)
 |ext φ=>obtain⟨_,⟨_,e⟩,_⟩:=x;exact Heap.lt_size e
theorem Paired.mapP{α β:Type}{F G:α->β->Prop}:∀{l₁:List α}{l₂:List β},Paired F l₁ l₂->(∀a b,F a b->G a b)->Paired G l₁ l₂
 |_,_,.nil,_=>.nil
 |_,_,.cons r t,f=>.cons (f _ _ r) (Paired.mapP t f)
theorem ObjOk.stay(x:ObjOk P w H h a o)(k:∀b u,(b=a\/H b=some (.own a))->h.get? b=some u->h'.get? b=some u)
  (ho:∀b,H b=some (.own a)->H' b=some (.own a)) (ht:∀b xs,H b=some (.tup xs)->H' b=some (.tup xs)) (hf:∀b o u,H b=some (.frz o u)->(∃vs,o.data=.fields vs)->H' b=some (.frz o u)):ObjOk P w H' h' a o:=by
 induction o with
 |lst xs=>obtain⟨z,its,n,r,e⟩:=x;exact⟨z,its,n,r,k _ _ (.inl rfl) e⟩
 |tup xs=>obtain⟨z,its,r,ob,e,c⟩:=x;exact⟨z,its,r,ob,k _ _ (.inl rfl) e,c⟩
 |dK kvs=>obtain⟨z,y,vs,r,ob,es,ep,e,c⟩:=x;exact⟨z,y,vs,r,ob,es,ep,k _ _ (.inl rfl) e,c⟩
 |dT kvs=>
  obtain⟨z,y,xs,r,ob,es,ep,e,c⟩:=x;exact⟨z,y,xs,Paired.mapP r fun p q z=>⟨z.1,ht _ _ z.2.1,z.2.2⟩,ob,es,ep,k _ _ (.inl rfl) e,c⟩
 |set S n=>obtain⟨ob,es,ep,t,e,c⟩:=x;exact⟨ob,es,ep,t,k _ _ (.inl rfl) e,c⟩
 |ins C dx fs=>
  obtain⟨d,z,ne,e,mA,⟨od,es,ep,e2,c⟩,r⟩:=x;exact⟨ho _ d,z,ne,k _ _ (.inl rfl) e,mA,⟨od,es,ep,k _ _ (.inr d) e2,c⟩,r⟩
 |own y=>obtain⟨ob,e⟩:=x;exact⟨ob,k _ _ (.inl rfl) e⟩
 |xd fs=>obtain⟨mA,⟨od,es,ep,e,c⟩,r⟩:=x;exact⟨mA,⟨od,es,ep,k _ _ (.inl rfl) e,c⟩,r⟩
 |rng lo hi=>obtain⟨t,u,v,e⟩:=x;exact⟨t,u,v,k _ _ (.inl rfl) e⟩
 |frz ob u ih=>obtain⟨e,q⟩:=x;exact⟨k _ _ (.inl rfl) e,ih q⟩
 |tbl ps=>
  have e:h.get? a=some { cls:=.none,data:=.fields ps }:=x;show h'.get? a=some { cls:=.none,data:=.fields ps };exact k a _ (.inl rfl) e
 |lam q=>
  obtain⟨ps,e,t,r⟩:=x;exact⟨ps,k _ _ (.inl rfl) e,t,fun pos cv z=>let⟨c,oc,u,e1,e2,e3⟩:=r pos cv z;⟨c,oc,u,e1,hf _ _ _ e2 (let⟨vs,_,d,_⟩:=e3;⟨vs,d⟩),e3⟩⟩
 |fn ob q=>
  obtain⟨e,fd,c,oc,u,e1,e2,e3,e4⟩:=x;exact⟨k _ _ (.inl rfl) e,fd,c,oc,u,e1,e2,hf _ _ _ e3 (let⟨vs,_,d,_⟩:=e4;⟨vs,d⟩),e4⟩
 |met f y=>
  have e:h.get? a=some (qE7 (.ref f) (.ref y)):=x;show h'.get? a=some (qE7 (.ref f) (.ref y));exact k a _ (.inl rfl) e
 |ext φ=>obtain⟨p,⟨o,e⟩,st⟩:=x;exact⟨st _ _ p fun o q=>k _ _ (.inl rfl) q,⟨o,k _ _ (.inl rfl) e⟩,st⟩
theorem HOk.lt(x:HOk P w H h)(e:H a=some o):a<h.objs.size:=(x a o e).lt
theorem HOk.fresh(x:HOk P w H h)(e:h.objs.size<=a):H a=none:=by
 cases q:H a with
 |none=>rfl
 |some u=>exact absurd (qAc (x.lt q) e) (qC3 _)
theorem HOk.kept(x:HOk P w H h)(k:∀b u,h.get? b=some u->h'.get? b=some u):HOk P w H h':=fun a o e=>
 (x a o e).stay (fun b u _ q=>k b u q) (fun _ q=>q) (fun _ _ q=>q) fun _ _ _ q _=>q
theorem HOk.laid(x:HOk P w H h)(k:∀b u,h.get? b=some u->h'.get? b=some u)(hp:h.objs.size<=a)(new:ObjOk P w (upd H a o) h' a o):HOk P w (upd H a o) h':=fun b u e=>by
 have hn:=x.fresh hp
 by_cases hb:b=a
 ·subst hb;rw[zAD]at e;cases e;exact new
 ·rw[zA6 hb]at e;exact(x b u e).stay (fun c v _ q=>k c v q) (fun c q=>by rw[zA6 (zAI q hn)];exact q) (fun c xs q=>by rw[zA6 (zAI q hn)];exact q) fun c _ _ q _=>by rw[zA6 (zAI q hn)];exact q
end
def Rd(H:Hp)(a:Addr)(u:HO):Prop:=H a=some u\/∃o,H a=some (.frz o u)
theorem Rd.ok{P:Program}{w:World}{H:Hp}{h:Heap}{a:Addr}{u:HO}(r:Rd H a u)(x:HOk P w H h):ObjOk P w H h a u:=by
 rcases r with r|⟨o,r⟩
 ·exact x a u r
 ·obtain⟨_,q⟩:=x a _ r;exact q
noncomputable def Mut:Option HO->Prop
 |some (.lst _)=>True
 |some (.dK _)=>True
 |some (.dT _)=>True
 |some (.set _ _)=>True
 |some (.ins _ _ _)=>True
 |some (.ext _)=>True
 |some (.lam _)=>True
 |_=>False
section
variable{P:Program}{w:World}{H:Hp}{h h':Heap}{x e:Addr}{o':HO}
theorem HOk.write(ok:HOk P w H h)(mu:Mut (H x))(he:e=x\/H e=some (.own x))(k:∀b u,b≠e->h.get? b=some u->h'.get? b=some u)(heo:∃u,h'.get? e=some u)
  (new:ObjOk P w (upd H x o') h' x o'):HOk P w (upd H x o') h':=fun b u q=>by
 have nown:∀c y,H c=some (.own y)->c≠x:=fun c y r z=>by subst z;rw[r]at mu;exact mu
 have ntup:∀c xs,H c=some (.tup xs)->c≠x:=fun c xs r z=>by subst z;rw[r]at mu;exact mu
 have nfrz:∀c o v,H c=some (.frz o v)->c≠x:=fun c o v r z=>by subst z;rw[r]at mu;exact mu
 by_cases hb:b=x
 ·subst hb;rw[zAD]at q;cases q;exact new
 ·rw[zA6 hb]at q
  by_cases hbe:b=e
  ·have q':H b=some (.own x):=by
    rcases he with z|z
    ·exact absurd (hbe.trans z) hb
    ·rw[hbe];exact z
   rw[q]at q';cases q';obtain⟨v,hv⟩:=heo;exact⟨v,by rw[hbe];exact hv⟩
  ·refine(ok b u q).stay (fun c v hc r=>k c v ?_ r) (fun c r=>by rw[zA6 (nown c b r)];exact r) (fun c xs r=>by rw[zA6 (ntup c xs r)];exact r) fun c o v r _=>by rw[zA6 (nfrz c o v r)];exact r
   rcases hc with rfl|hc
   ·exact hbe
   ·rintro rfl
    rcases he with z|z
    ·exact nown c b hc z
    ·rw[hc]at z;cases z;exact hb rfl
end
structure Un(fs ex:List Addr)(H H':Hp)(h h':Heap):Prop where
 keep:∀b o,h.get? b=some o->H b=none->b∉fs->b∉ex->h'.get? b=some o
 slot:∀b o,h.get? b=some o->H b=none->b∈fs->b∉ex->∃sl,h'.get? b=some { o with slots:=sl }
 free:∀b o,h.get? b=some o->H b=none->b∉ex->H' b=none
 there:∀b o,h.get? b=some o->b∉ex->∃o',h'.get? b=some o'
 tups:∀b xs,H b=some (.tup xs)->H' b=some (.tup xs)
 frzs:∀b o u,H b=some (.frz o u)->H' b=some (.frz o u)
 tbls:∀b ps,H b=some (.tbl ps)->∃more,H' b=some (.tbl (ps++more))
section
variable{fs fs' ex ex':List Addr}{H H1 H2:Hp}{h h1 h2 h':Heap}{a x e:Addr}{o:HO}
theorem Un.any(u:Un fs ex H H1 h h1){b:Addr}{ob:Obj}(q:h.get? b=some ob)(n:H b=none)(hx:b∉ex):∃sl,h1.get? b=some { ob with slots:=sl }:=by
 by_cases hb:b∈fs
 ·exact u.slot b ob q n hb hx
 ·exact⟨ob.slots,u.keep b ob q n hb hx⟩
theorem Un.kept(k:∀b u,h.get? b=some u->h'.get? b=some u):Un fs ex H H h h':=
 ⟨fun b ob q _ _ _=>k b ob q,fun b ob q _ _ _=>⟨ob.slots,k b ob q⟩,fun _ _ _ n _=>n,fun b ob q _=>⟨ob,k b ob q⟩,fun _ _ q=>q,fun _ _ _ q=>q,fun _ ps q=>⟨#[],by rw[q];simp⟩⟩
theorem Un.refl:Un fs ex H H h h:=Un.kept fun _ _ q=>q
theorem Un.laid(k:∀b u,h.get? b=some u->h'.get? b=some u)(hp:h.objs.size<=a)(hn:H a=none):Un fs ex H (upd H a o) h h' where
 keep:=fun b u q _ _ _=>k b u q
 slot:=fun b u q _ _ _=>⟨u.slots,k b u q⟩
 free:=fun b u q n _=>by rw[zA6 (qAf (qAc (Heap.lt_size q) hp))];exact n
 there:=fun b u q _=>⟨u,k b u q⟩
 tups:=fun b xs q=>by rw[zA6 (zAI q hn)];exact q
 frzs:=fun b u xs q=>by rw[zA6 (zAI q hn)];exact q
 tbls:=fun b ps q=>⟨#[],by rw[zA6 (zAI q hn),q];simp⟩
theorem Un.write(mu:Mut (H x))(he:e=x\/H e=some (.own x))(k:∀b u,b≠e->h.get? b=some u->h'.get? b=some u)(heo:∃u,h'.get? e=some u):Un fs ex H (upd H x o) h h':=by
 have hx:∀b,H b=none->b≠x:=fun b n z=>by subst z;rw[n]at mu;exact mu
 have hb:∀b,H b=none->b≠e:=fun b n z=>by
  subst z
  rcases he with r|r
  ·exact hx b n r
  ·rw[n]at r;cases r
 have hm:∀b u,H b=some u->¬Mut (some u)->b≠x:=fun b u q nm z=>by subst z;rw[q]at mu;exact nm mu
 refine⟨fun b u q n _ _=>k b u (hb b n) q,fun b u q n _ _=>⟨u.slots,k b u (hb b n) q⟩,fun b u q n _=>by rw[zA6 (hx b n)];exact n,fun b u q _=>?_,
  fun b xs q=>by rw[zA6 (hm b _ q fun z=>z)];exact q,fun b u xs q=>by rw[zA6 (hm b _ q fun z=>z)];exact q,fun b ps q=>⟨#[],by rw[zA6 (hm b _ q fun z=>z),q];simp⟩⟩
 by_cases hbe:b=e
 ·subst hbe;exact heo
 ·exact⟨u,k b u hbe q⟩
end
noncomputable def trk(h:Heap)(H:Hp):List Addr:=(qAe h.objs.size).filter fun a=>(H a).isSome
def hidT(h:Heap)(H:Hp):Heap:=PySem.W.hideAll h (trk h H)
theorem zPO(h:Heap)(H:Hp):(hidT h H).objs.size=h.objs.size:=PySem.W.hideAll_size _ _
theorem zRS{h:Heap}{H:Hp}{b:Addr}{o:Obj}(e:h.get? b=some o)(n:H b=none):(hidT h H).get? b=some o:=
 PySem.W.hideAll_get _ e fun hm=>by
  have q:(H b).isSome=true:=(qGd.mp hm).2;rw[n]at q;simp at q
theorem zUB{h:Heap}{H:Hp}{b:Addr}{o:Obj}(e:(hidT h H).get? b=some o):h.get? b=some o/\H b=none:=by
 have e':h.get? b=some o:=PySem.W.of_hideAll (trk h H) e;refine⟨e',?_⟩;cases q:H b with
 |none=>rfl
 |some x=>
  have hm:b∈trk h H:=qGd.mpr ⟨qC7.mpr (Heap.lt_size e'),by simp[q]⟩;have z:(hidT h H).get? b=none:=PySem.W.hideAll_none (trk h H) hm;rw[z]at e;cases e
noncomputable def zV3(g h:Heap)(L:Addr):List (Addr×Obj):=(qAe h.objs.size).filterMap fun a=>if a=L\/(g.get? a).isSome=true then none else(h.get? a).map fun o=>(a,o)
def rest(g h:Heap)(L d:Addr):List (Addr×Obj):=(zV3 g h L).filter fun p=>decide (p.1≠d)
end L2
namespace L2
open PySem PySem.Spec PyProof.Rows
structure Mod(K:qA0)(mg:Str->Option Value)(base:Heap):Prop where
 kin:K.In base
 glob:base.Ns mainGlobals mg
 blt:∃mb,base.Ns builtinsNs mb/\∀x:Str,x≠"__name__"->mb x=bootBuiltins x
 nolimit:base.NoLimit
 bm:∃bm ob,mg "__builtins__" = some (.ref bm)/\bm≠builtinsNs/\base.get? bm=some ob/\ob.cls=.type "module"/\ob.dict=some builtinsNs/\ob.data=.plain
structure Cx where
 prog:Program
 w:World
 K:qA0
 mg:Str->Option Value
 base:Heap
 A:Around
 N:List Str
 s₀:Shared
 H₀:Hp
 env:Env
 outer:List Env
 stack:List Env
 ex:List Addr
 fn:Str->Bool
 calm:Bool
 pn:List (Addr×Obj)
 xe:Value->Shared->Prop
noncomputable def frs(l:List Env):List Addr:=l.filterMap (·.frame)
abbrev Cx.fs(X:Cx):List Addr:=frs X.outer
def Vis(sc:Scope)(x:Str):Prop:=sc.names.lookup x=some .local\/sc.names.lookup x=some .cell\/sc.names.lookup x=some .free
def Loc(sc:Scope)(x:Str):Prop:=sc.names.lookup x=some .local\/sc.names.lookup x=some .cell
def Look(env:Env)(h:Heap)(m:Str->Option Value)(x:Str)(u:Value):Prop:=
 (env.kindOf x=some .local/\m x=some u)\/((env.kindOf x=some .cell\/env.kindOf x=some .free)/\∃c,env.cells.lookup x=some c/\h.IsCell c (some u))
structure Cx.Ok(X:Cx):Prop where
 mod:Mod X.K X.mg X.base
 kind:X.env.scope.kind=.function
 glob:X.env.globals=mainGlobals
 blt:X.env.builtins=builtinsNs
 above:X.s₀.heap.objs.size<=X.env.locals
 inj:∀x y c,X.env.cells.lookup x=some c->X.env.cells.lookup y=some c->x=y
 has:∀x,(X.env.kindOf x=some .cell\/X.env.kindOf x=some .free)->∃c,X.env.cells.lookup x=some c
 cab:∀x c,X.fn x=true->X.env.cells.lookup x=some c->X.s₀.heap.objs.size<=c
 hd:X.calm=true->X.A.handled=none
 frames:X.A.frames=some X.stack
 stk:X.stack=X.outer\/(X.stack=X.env::X.outer/\X.env.frame=some X.env.locals)
 exf:∀b∈X.ex,b≠X.env.locals/\∀x c,X.env.cells.lookup x=some c->c≠b
 bs:∀b o,X.base.get? b=some o->X.s₀.heap.get? b=some o/\X.H₀ b=none
 bsz:X.base.objs.size<=X.s₀.heap.objs.size
 noex:∀b o,X.base.get? b=some o->b∉X.ex
 exfs:∀b∈X.ex,b∉X.fs
 funs:X.s₀.heap.FunFrames X.base X.outer
 frf:∀b∈X.fs,X.H₀ b=none
structure Inv(X:Cx)(pins:List (Addr×Obj))(σ:List (Option V))(H:Hp)(s:Shared):Prop where
 ok:X.Ok
 os:s.os=X.s₀.os
 bare:AllBare s.gens
 base:Un X.fs X.ex X.H₀ H X.s₀.heap s.heap
 loc:∃m,s.heap.Ns X.env.locals m/\∀(i:Nat)(x:Str)(v:V),X.N[i]?=some x->σ[i]?=some (some v)->Vis X.env.scope x->∃u,RelV v u/\Look X.env s.heap m x u
 cell:∀x c,X.env.cells.lookup x=some c->∃v,s.heap.IsCell c v
 free:H X.env.locals=none
 freeC:∀x c,X.env.cells.lookup x=some c->H c=none
 pin:∀p∈X.pn++pins,s.heap.get? p.1=some p.2/\H p.1=none/\p.1≠X.env.locals/\p.1∉X.fs/\∀v,p.2.data≠.cell v
 hok:HOk X.prog X.w H s.heap
 len:σ.length=X.N.length
section
variable{X:Cx}{pins:List (Addr×Obj)}{σ:List (Option V)}{H H':Hp}{s:Shared}{h':Heap}
theorem Cx.Ok.nofr(ok:X.Ok){b:Addr}{o:Obj}(e:X.base.get? b=some o):b∉X.fs:=fun hb=>by
 have:=(ok.funs.mem hb).1
 rw[e]at this;cases this
theorem Inv.bs(I:Inv X pins σ H s):∀b o,X.base.get? b=some o->s.heap.get? b=some o/\H b=none:=fun b o e=>
 ⟨I.base.keep b o (I.ok.bs b o e).1 (I.ok.bs b o e).2 (I.ok.nofr e) (I.ok.noex b o e),I.base.free b o (I.ok.bs b o e).1 (I.ok.bs b o e).2 (I.ok.noex b o e)⟩
theorem Inv.bk(I:Inv X pins σ H s):∀b o,X.base.get? b=some o->s.heap.get? b=some o:=fun b o e=>(I.bs b o e).1
theorem Inv.mod(I:Inv X pins σ H s):Mod X.K X.mg X.base:=I.ok.mod
theorem Inv.kIn(I:Inv X pins σ H s):X.K.In s.heap:=I.ok.mod.kin.keeps I.bk
theorem Inv.fr(I:Inv X pins σ H s):∃m,Fr X.base X.env.locals s.heap m:=
 let⟨m,hn,_⟩:=I.loc
 ⟨m,hn,I.bk,qAr I.ok.bsz I.ok.above⟩
theorem Inv.lt(I:Inv X pins σ H s):X.env.locals<s.heap.objs.size:=let⟨_,hn,_⟩:=I.loc;hn.lt
theorem Inv.sz(I:Inv X pins σ H s):X.s₀.heap.objs.size<=s.heap.objs.size:=qAr I.ok.above (qCj I.lt)
theorem Inv.nofs(I:Inv X pins σ H s){a:Addr}(h:s.heap.objs.size<=a):a∉X.fs:=fun hb=>by
 obtain⟨_,o,ho,_⟩:=I.ok.funs.mem hb;exact absurd (qAc (Heap.lt_size ho) (qAr I.sz h)) (qC3 _)
theorem Inv.cne(I:Inv X pins σ H s):∀x c,X.env.cells.lookup x=some c->c≠X.env.locals:=fun x c e z=>by
 obtain⟨v,o,ho,hd⟩:=I.cell x c e;obtain⟨m,⟨o',es,ep,ho',hd',_⟩,_⟩:=I.loc;rw[z,ho']at ho;cases ho;rw[hd']at hd;cases hd
theorem Inv.funs(I:Inv X pins σ H s):s.heap.FunFrames X.base X.outer:=by
 have all:∀(l:List Env),(∀b∈frs l,b∈X.fs)->X.s₀.heap.FunFrames X.base l->s.heap.FunFrames X.base l:=by
  intro l
  induction l with
  |nil=>intro _ _;trivial
  |cons env r ih=>
   intro hs hl;obtain⟨hk,⟨L,o,hf,hn,ho,hd⟩,hr⟩:=hl;have hL:L∈X.fs:=hs L (by unfold frs;rw[qCk,hf];exact qAv);obtain⟨sl,e⟩:=I.base.slot L o ho (I.ok.frf L hL) hL fun z=>I.ok.exfs L z hL
   exact⟨hk,⟨L,_,hf,hn,e,hd⟩,ih (fun b hb=>hs b (by unfold frs;rw[qCk,hf];exact qAo _ hb)) hr⟩
 exact all X.outer (fun _ hb=>hb) I.ok.funs
theorem Inv.stack(I:Inv X pins σ H s):s.heap.FunFrames X.base X.stack:=by
 rcases I.ok.stk with e|⟨e,hf⟩
 ·rw[e];exact I.funs
 ·rw[e];obtain⟨m,hn,_⟩:=I.loc;refine .cons (by rw[I.ok.kind];decide) hf hn ?_ I.funs;exact Heap.get?_none_of_le (qAr I.ok.bsz I.ok.above)
theorem Inv.stkSub(I:Inv X pins σ H s):∀b∈frs X.stack,b∈X.env.locals::X.fs:=fun b hb=>by
 rcases I.ok.stk with e|⟨e,hf⟩
 ·rw[e]at hb;exact qAo _ hb
 ·rw[e]at hb;unfold frs at hb;rw[qCk,hf]at hb;exact hb
theorem Inv.stkFree(I:Inv X pins σ H s):∀b∈frs X.stack,H b=none:=fun b hb=>by
 rcases qA7.mp (I.stkSub b hb)with e|hb
 ·rw[e];exact I.free
 ·obtain⟨_,o,ho,_⟩:=I.ok.funs.mem hb;exact I.base.free b o ho (I.ok.frf b hb) fun z=>I.ok.exfs b z hb
theorem Inv.step{g':Array GenState}{t':Nat}{d':Drawn}{ch:List Addr}(I:Inv X pins σ H s)
  (hch:∀b∈ch,(b∈X.ex\/X.s₀.heap.objs.size<=b)/\b≠X.env.locals/\(∀x c,X.env.cells.lookup x=some c->c≠b)/\∀p∈X.pn++pins,p.1≠b)
  (keep:∀b o,b≠X.env.locals->b∉X.fs->b∉ch->s.heap.get? b=some o->H b=none->h'.get? b=some o)
  (slot:∀b o,b≠X.env.locals->b∈X.fs->b∉ch->s.heap.get? b=some o->H b=none->∃sl,h'.get? b=some { o with slots:=sl }) (free:∀b o,b∉ch->s.heap.get? b=some o->H b=none->H' b=none)
  (there:∀b o,b∉ch->s.heap.get? b=some o->∃o',h'.get? b=some o')
  (tups:∀b xs,H b=some (.tup xs)->H' b=some (.tup xs)) (frzs:∀b o u,H b=some (.frz o u)->H' b=some (.frz o u)) (tbls:∀b ps,H b=some (.tbl ps)->∃more,H' b=some (.tbl (ps++more)))
  (ns:∀m,s.heap.Ns X.env.locals m->h'.Ns X.env.locals m) (hok:HOk X.prog X.w H' h') (hg:AllBare g') :
  Inv X pins σ H' { s with heap:=h',gens:=g',drawn:=d',toks:=t' }:=by
 have neL:∀b o,X.s₀.heap.get? b=some o->b≠X.env.locals:=fun b o e=>qAf (qAc (Heap.lt_size e) I.ok.above)
 have neC:∀b o,X.s₀.heap.get? b=some o->b∉X.ex->b∉ch:=fun b o e hx hb=>by
  rcases(hch b hb).1 with z|z
  ·exact hx z
  ·exact absurd (qAc (Heap.lt_size e) z) (qC3 _)
 have cellK:∀x c,X.env.cells.lookup x=some c->∀v,s.heap.IsCell c v->h'.IsCell c v:=fun x c e v ⟨o,ho,hd⟩=>by
  have nch:c∉ch:=fun z=>(hch c z).2.2.1 x c e rfl
  by_cases hc:c∈X.fs
  ·obtain⟨sl,q⟩:=slot c o (I.cne x c e) hc nch ho (I.freeC x c e);exact⟨_,q,hd⟩
  ·exact⟨o,keep c o (I.cne x c e) hc nch ho (I.freeC x c e),hd⟩
 refine⟨I.ok,I.os,hg,⟨fun b o e n hb hx=>?_,fun b o e n hb hx=>?_,fun b o e n hx=>?_,fun b o e hx=>?_,fun b xs e=>tups b xs (I.base.tups b xs e),fun b o xs e=>frzs b o xs (I.base.frzs b o xs e),fun b ps e=>?_⟩,?_,fun x c e=>?_,?_,fun x c e=>?_,fun p hp=>?_,hok,I.len⟩
 ·exact keep b o (neL b o e) hb (neC b o e hx) (I.base.keep b o e n hb hx) (I.base.free b o e n hx)
 ·obtain⟨sl,e1⟩:=I.base.slot b o e n hb hx;obtain⟨sl',e2⟩:=slot b _ (neL b o e) hb (neC b o e hx) e1 (I.base.free b o e n hx);exact⟨sl',e2⟩
 ·obtain⟨o',e1⟩:=I.base.there b o e hx;exact free b o' (neC b o e hx) e1 (I.base.free b o e n hx)
 ·obtain⟨o',e1⟩:=I.base.there b o e hx;exact there b o' (neC b o e hx) e1
 ·obtain⟨m1,e1⟩:=I.base.tbls b ps e;obtain⟨m2,e2⟩:=tbls b _ e1;exact⟨m1++m2,by rw[e2,Array.append_assoc]⟩
 ·obtain⟨m,hn,hl⟩:=I.loc;refine⟨m,ns m hn,fun i x v e1 e2 e3=>?_⟩;obtain⟨u,r,l⟩:=hl i x v e1 e2 e3;refine⟨u,r,?_⟩
  rcases l with l|⟨k,c,e,z⟩
  ·exact .inl l
  ·exact .inr ⟨k,c,e,cellK x c e _ z⟩
 ·obtain⟨v,z⟩:=I.cell x c e;exact⟨v,cellK x c e v z⟩
 ·obtain⟨m,⟨o,_,_,ho,_⟩,_⟩:=I.loc;exact free _ o (fun z=>(hch _ z).2.1 rfl) ho I.free
 ·obtain⟨v,o,ho,hd⟩:=I.cell x c e;exact free c o (fun z=>(hch c z).2.2.1 x c e rfl) ho (I.freeC x c e)
 ·obtain⟨e,n,ne,nf,d⟩:=I.pin p hp;have nch:p.1∉ch:=fun z=>(hch p.1 z).2.2.2 p hp rfl
  exact⟨keep p.1 p.2 ne nf nch e n,free p.1 p.2 nch e n,ne,nf,d⟩
theorem Inv.un{t':Nat}(I:Inv X pins σ H s)(u:Un X.fs [] H H' s.heap h')(hok:HOk X.prog X.w H' h'):Inv X pins σ H' { s with heap:=h',toks:=t' }:=by
 obtain⟨m,⟨o,es,ep,ho,r⟩,_⟩:=id I.loc;obtain⟨sl,hL⟩:=u.any ho I.free (by simp);exact I.step (g':=s.gens) (d':=s.drawn) (ch:=[]) (fun _ z=>nomatch z) (fun b o _ hb _ e n=>u.keep b o e n hb (by simp)) (fun b o _ hb _ e n=>u.slot b o e n hb (by simp)) (fun b o _ e n=>u.free b o e n (by simp)) (fun b o _ e=>u.there b o e (by simp)) u.tups u.frzs u.tbls (fun m' hm=>by
  obtain⟨o',es',ep',ho',r'⟩:=hm;rw[ho]at ho';cases ho';exact⟨_,es',ep',hL,r'⟩) hok I.bare
theorem Inv.call{g':Array GenState}{t':Nat}{d':Drawn}{ch:List Addr}(I:Inv X pins σ H s)(u:Un (frs X.stack) ch H H' s.heap h')(hok:HOk X.prog X.w H' h')(hg:AllBare g')
  (hch:∀b∈ch,(b∈X.ex\/X.s₀.heap.objs.size<=b)/\b≠X.env.locals/\(∀x c,X.env.cells.lookup x=some c->c≠b)/\∀p∈X.pn++pins,p.1≠b) :
  Inv X pins σ H' { s with heap:=h',gens:=g',drawn:=d',toks:=t' }:=by
 obtain⟨m,⟨o,es,ep,ho,r⟩,_⟩:=id I.loc;obtain⟨sl,hL⟩:=u.any ho I.free fun z=>(hch _ z).2.1 rfl
 exact I.step (ch:=ch) hch (fun b o hL hb hc e n=>u.keep b o e n (fun z=>(qA7.mp (I.stkSub b z)).elim hL hb) hc) (fun b o _ _ hc e n=>u.any e n hc) (fun b o hc e n=>u.free b o e n hc) (fun b o hc e=>u.there b o e hc) u.tups u.frzs u.tbls (fun m' hm=>by
  obtain⟨o',es',ep',ho',r'⟩:=hm;rw[ho]at ho';cases ho';exact⟨_,es',ep',hL,r'⟩) hok hg
theorem Inv.turned{t':Nat}{it:Addr}(I:Inv X pins σ H s)(k:∀b o,b≠it->s.heap.get? b=some o->h'.get? b=some o)(hn:H it=none)(hL:it≠X.env.locals)
  (h1:it∈X.ex\/X.s₀.heap.objs.size<=it) (h2:∀x c,X.env.cells.lookup x=some c->c≠it) (h3:∀p∈X.pn++pins,p.1≠it):Inv X pins σ H { s with heap:=h',toks:=t' }:=by
 have nit:∀b u,H b=some u->b≠it:=fun b u e z=>by rw[z,hn]at e;cases e
 refine I.step (g':=s.gens) (d':=s.drawn) (ch:=[it]) (fun b hb=>?_) (fun b o _ _ hc e _=>k b o (fun z=>hc (by simp[z])) e) (fun b o _ _ hc e _=>⟨o.slots,k b o (fun z=>hc (by simp[z])) e⟩) (fun _ _ _ _ n=>n)
  (fun b o hc e=>⟨o,k b o (fun z=>hc (by simp[z])) e⟩) (fun _ _ e=>e) (fun _ _ _ e=>e) (fun b ps e=>⟨#[],by rw[e];simp⟩) (fun m hm=>?_) (fun b u e=>?_) I.bare
 ·have e:b=it:=by simpa using hb
  subst e;exact⟨h1,hL,h2,h3⟩
 ·obtain⟨o,es,ep,ho,r⟩:=hm;exact⟨o,es,ep,k _ o (qC2 hL) ho,r⟩
 ·refine(I.hok b u e).stay (fun c v hc q=>k c v ?_ q) (fun _ q=>q) (fun _ _ q=>q) fun _ _ _ q _=>q
  rcases hc with z|z
  ·rw[z];exact nit b u e
  ·exact nit c _ z
theorem Inv.tok(I:Inv X pins σ H s)(t:Nat):Inv X pins σ H { s with toks:=t }:=I.un (h':=s.heap) (t':=t) Un.refl I.hok
theorem Inv.kept{t':Nat}(I:Inv X pins σ H s)(k:∀b u,s.heap.get? b=some u->h'.get? b=some u):Inv X pins σ H { s with heap:=h',toks:=t' }:=I.un (Un.kept k) (I.hok.kept k)
theorem Inv.laid{a:Addr}{o:HO}{t':Nat}(I:Inv X pins σ H s)(k:∀b u,s.heap.get? b=some u->h'.get? b=some u)(hp:s.heap.objs.size<=a)(new:ObjOk X.prog X.w (upd H a o) h' a o) :
  Inv X pins σ (upd H a o) { s with heap:=h',toks:=t' }:=I.un (Un.laid k hp (I.hok.fresh hp)) (I.hok.laid k hp new)
theorem Inv.write{x e:Addr}{o:HO}{t':Nat}(I:Inv X pins σ H s)(mu:Mut (H x))(he:e=x\/H e=some (.own x))(k:∀b u,b≠e->s.heap.get? b=some u->h'.get? b=some u)(heo:∃u,h'.get? e=some u)
  (new:ObjOk X.prog X.w (upd H x o) h' x o):Inv X pins σ (upd H x o) { s with heap:=h',toks:=t' }:=I.un (Un.write mu he k heo) (I.hok.write mu he k heo new)
theorem Inv.weak{σ':List (Option V)}(I:Inv X pins σ H s)(hl:σ'.length=σ.length)(w:∀(i:Nat) v,σ'[i]?=some (some v)->σ[i]?=some (some v)):Inv X pins σ' H s:=
 ⟨I.ok,I.os,I.bare,I.base,let⟨m,hn,hl'⟩:=I.loc;⟨m,hn,fun i x v e1 e2 e3=>hl' i x v e1 (w i v e2) e3⟩,I.cell,I.free,I.freeC,I.pin,I.hok,hl.trans I.len⟩
theorem Inv.pins_of{pins':List (Addr×Obj)}(I:Inv X pins σ H s)(h:∀p∈pins',s.heap.get? p.1=some p.2/\H p.1=none/\p.1≠X.env.locals/\p.1∉X.fs/\∀v,p.2.data≠.cell v):Inv X pins' σ H s:=
 ⟨I.ok,I.os,I.bare,I.base,I.loc,I.cell,I.free,I.freeC,fun p hp=>(qCg.mp hp).elim (fun z=>I.pin p (qD6 _ z)) (h p),I.hok,I.len⟩
theorem zMJ{N:List Str}(hN:N.Nodup){i j:Nat}{x:Str}(a:N[i]?=some x)(b:N[j]?=some x):i=j:=by
 obtain⟨h1,e1⟩:=qA3.mp a;obtain⟨h2,e2⟩:=qA3.mp b;exact(List.getElem_inj hN).mp (e1.trans e2.symm)
theorem zJE{M:Model}{A:Around}{E:Value->Shared->Prop}{i:Nat}{x:Str}{v:V}{u:Value}{Q:Unit->Shared->Prop}(I:Inv X pins σ H s)(hN:X.N.Nodup)(hi:X.N[i]?=some x)(hx:Loc X.env.scope x)(r:RelV v u)
  (h:∀s',Inv X pins (σ.set i (some v)) H s'->(∃a,Heap.SameBut a s.heap s'.heap/\(a=X.env.locals\/X.env.cells.lookup x=some a))->Q () s') (hf:X.fn x=true\/X.env.scope.names.lookup x=some .local:=by first|exact .inl rfl|exact .inr rfl|assumption):wpAny M A (storeName X.env x u) Q E s:=by
 obtain⟨m,hn,hl⟩:=id I.loc;have hcls:(X.env.scope.kind==.class||(X.env.scope.kind==.module&&X.env.locals != X.env.globals))=false:=by rw[I.ok.kind];rfl
 have hiσ:i<σ.length:=by rw[I.len];exact(qA3.mp hi).1
 have cne:=I.cne;have tracked:∀{a:Addr}{h':Heap},(∃o,s.heap.get? a=some o/\H a=none)->Heap.SameBut a s.heap h'->HOk X.prog X.w H h':=fun{a h'} ha hs b ob e=>by
  obtain⟨_,_,hfree⟩:=ha;refine(I.hok b ob e).stay (fun c w' hc q=>(hs.2 c ?_).trans q) (fun _ q=>q) (fun _ _ q=>q) fun _ _ _ q _=>q
  rintro rfl
  rcases hc with rfl|hc
  ·rw[hfree]at e;cases e
  ·rw[hfree]at hc;cases hc
 rcases hx with hk|hk
 ·refine wpAny_storeName_local hk hn (fun h' hn' hs=>?_) hcls;obtain⟨oL,_,_,hoL,_⟩:=id hn;refine h _ ⟨I.ok,I.os,I.bare,⟨fun b o e n hb hx=>?_,fun b o e n hb hx=>?_,I.base.free,fun b o e hx=>?_,I.base.tups,I.base.frzs,I.base.tbls⟩,⟨_,hn',fun j y v' e1 e2 e3=>?_⟩,fun y c e=>?_,I.free,I.freeC,fun p hp=>?_,tracked ⟨oL,hoL,I.free⟩ hs,by simpa using I.len⟩ ⟨_,hs,.inl rfl⟩
  ·exact(hs.2 b (qAf (qAc (Heap.lt_size e) I.ok.above))).trans (I.base.keep b o e n hb hx)
  ·obtain⟨sl,e1⟩:=I.base.slot b o e n hb hx;exact⟨sl,(hs.2 b (qAf (qAc (Heap.lt_size e) I.ok.above))).trans e1⟩
  ·obtain⟨o',e1⟩:=I.base.there b o e hx;exact⟨o',(hs.2 b (qAf (qAc (Heap.lt_size e) I.ok.above))).trans e1⟩
  ·by_cases hj:j=i
   ·subst hj;rw[hi]at e1;cases e1;rw[qB1 hiσ]at e2;cases e2;exact⟨u,r,.inl ⟨hk,by simp⟩⟩
   ·rw[qB4 (qC2 hj)]at e2;obtain⟨u',r',q⟩:=hl j y v' e1 e2 e3;refine⟨u',r',?_⟩
    rcases q with⟨k,e⟩|⟨k,c,e,z⟩
    ·refine .inl ⟨k,?_⟩
     have:y≠x:=fun e=>hj (zMJ hN e1 (e▸hi))
     simp[this,e]
    ·exact .inr ⟨k,c,e,z.sameBut hs (cne y c e)⟩
  ·obtain⟨w',z⟩:=I.cell y c e;exact⟨w',z.sameBut hs (cne y c e)⟩
  ·obtain⟨e,n,ne,nf,d⟩:=I.pin p hp;exact⟨(hs.2 p.1 ne).trans e,n,ne,nf,d⟩
 ·have hfn:X.fn x=true:=by
   rcases hf with z|z
   ·exact z
   ·rw[z]at hk;cases hk
  obtain⟨c,hc⟩:=I.ok.has x (.inl hk);obtain⟨w',z⟩:=I.cell x c hc;refine wpAny_storeName_cell I.ok.kind hk hc z (fun h' hc' hs=>?_);obtain⟨oc,hoc,hocd⟩:=id z;refine h { s with heap:=h' } ⟨I.ok,I.os,I.bare,⟨fun b o e n hb hx=>?_,fun b o e n hb hx=>?_,I.base.free,fun b o e hx=>?_,I.base.tups,I.base.frzs,I.base.tbls⟩,⟨m,hn.sameBut hs (qC2 (cne x c hc)),fun j y v' e1 e2 e3=>?_⟩,fun y c' e=>?_,I.free,I.freeC,fun p hp=>?_,tracked ⟨oc,hoc,I.freeC x c hc⟩ hs,by simpa using I.len⟩ ⟨c,hs,.inr hc⟩
  ·exact(hs.2 b (qAf (qAc (Heap.lt_size e) (I.ok.cab x c hfn hc)))).trans (I.base.keep b o e n hb hx)
  ·obtain⟨sl,e1⟩:=I.base.slot b o e n hb hx;exact⟨sl,(hs.2 b (qAf (qAc (Heap.lt_size e) (I.ok.cab x c hfn hc)))).trans e1⟩
  ·obtain⟨o',e1⟩:=I.base.there b o e hx;exact⟨o',(hs.2 b (qAf (qAc (Heap.lt_size e) (I.ok.cab x c hfn hc)))).trans e1⟩
  ·by_cases hj:j=i
   ·subst hj;rw[hi]at e1;cases e1;rw[qB1 hiσ]at e2;cases e2;exact⟨u,r,.inr ⟨.inl hk,c,hc,hc'⟩⟩
   ·rw[qB4 (qC2 hj)]at e2;obtain⟨u',r',q⟩:=hl j y v' e1 e2 e3;refine⟨u',r',?_⟩
    rcases q with q|⟨k,c',e,z'⟩
    ·exact .inl q
    ·refine .inr ⟨k,c',e,z'.sameBut hs ?_⟩
     rintro rfl
     exact hj (zMJ hN e1 (I.ok.inj _ _ _ e hc▸hi))
  ·by_cases hcc:c'=c
   ·subst hcc;exact⟨_,hc'⟩
   ·obtain⟨w2,z2⟩:=I.cell y c' e;exact⟨w2,z2.sameBut hs hcc⟩
  ·obtain⟨e,n,ne,nf,d⟩:=I.pin p hp;refine⟨(hs.2 p.1 ?_).trans e,n,ne,nf,d⟩;intro q;rw[q,hoc]at e;have q':oc=p.2:=qBq e;exact d w' (by rw[<- q'];exact hocd)
theorem zM6{M:Model}{A:Around}{E:Value->Shared->Prop}{i:Nat}{x:Str}{v:V}{u:Value}{Q:Unit->Shared->Prop}(I:Inv X pins σ H s)(hN:X.N.Nodup)(hi:X.N[i]?=some x)(hx:Loc X.env.scope x)(r:RelV v u)
  (h:∀s',Inv X pins (σ.set i (some v)) H s'->Q () s') (hf:X.fn x=true\/X.env.scope.names.lookup x=some .local:=by first|exact .inl rfl|exact .inr rfl|assumption):wpAny M A (storeName X.env x u) Q E s:=
 zJE I hN hi hx r (fun s' I' _=>h s' I') hf
theorem Inv.call'{s':Shared}{ch:List Addr}(I:Inv X pins σ H s)(ho:s'.os=s.os)(u:Un (frs X.stack) ch H H' s.heap s'.heap)(hok:HOk X.prog X.w H' s'.heap)(hg:AllBare s'.gens)
  (hch:∀b∈ch,(b∈X.ex\/X.s₀.heap.objs.size<=b)/\b≠X.env.locals/\(∀x c,X.env.cells.lookup x=some c->c≠b)/\∀p∈X.pn++pins,p.1≠b):Inv X pins σ H' s':=by
 obtain⟨h',g',d',t',o'⟩:=s';have e:o'=s.os:=ho;subst e;exact I.call (g':=g') (t':=t') (d':=d') u hok hg hch
end
abbrev XK:=Value->Option Addr->Hp->Prop
abbrev St:=List (Option V)
abbrev VK:=V->Hp->Prop
abbrev TE:=St->Hp->VK->Prop
abbrev TT:=St->Hp->(Bool->Hp->Prop)->Prop
abbrev TA:=St->Hp->(List V->Hp->Prop)->Prop
structure Ends where
 nx:St->Hp->Prop
 rt:VK
 bk:St->Hp->Prop:=fun _ _=>False
 ct:St->Hp->Prop:=fun _ _=>False
abbrev TS:=Ends->St->Hp->Prop
def EP(X:Cx)(pins:List (Addr×Obj))(σ:St)(Q:VK)(u:Value)(s':Shared):Prop:=∃v H',Inv X pins σ H' s'/\RelV v u/\Q v H'
def TP(X:Cx)(pins:List (Addr×Obj))(σ:St)(Q:Bool->Hp->Prop)(b:Bool)(s':Shared):Prop:=∃H',Inv X pins σ H' s'/\Q b H'
def AP(X:Cx)(pins:List (Addr×Obj))(σ:St)(Q:List V->Hp->Prop)(us:List Value)(s':Shared):Prop:=∃vs H',Inv X pins σ H' s'/\Vals vs us/\Q vs H'
def SP(X:Cx)(pins:List (Addr×Obj))(D:Ends)(f:Flow)(s':Shared):Prop:=
 match f with
 |.next=>∃σ' H',Inv X pins σ' H' s'/\D.nx σ' H'
 |.brk=>∃σ' H',Inv X pins σ' H' s'/\D.bk σ' H'
 |.cont=>∃σ' H',Inv X pins σ' H' s'/\D.ct σ' H'
 |.ret u=>∃v σ' H',Inv X pins σ' H' s'/\RelV v u/\D.rt v H'
def PE(X:Cx)(e:Expr)(t:TE):Prop:=
 ∀(pins:List (Addr×Obj))(s:Shared)(σ:St)(H:Hp)(Q:VK),Inv X pins σ H s->t σ H Q->wpAny (model X.prog X.w) X.A (eval e X.env) (EP X pins σ Q) X.xe s
def PT(X:Cx)(e:Expr)(t:TT):Prop:=
 ∀(pins:List (Addr×Obj))(s:Shared)(σ:St)(H:Hp)(Q:Bool->Hp->Prop),Inv X pins σ H s->t σ H Q->wpAny (model X.prog X.w) X.A (isTrue e X.env (eval e X.env)) (TP X pins σ Q) X.xe s
def PW(X:Cx)(e:Expr)(t:TT):Prop:=
 ∀(whole:Sem Value)(pins:List (Addr×Obj))(s:Shared)(σ:St)(H:Hp)(Q:Bool->Hp->Prop),Inv X pins σ H s->t σ H Q->wpAny (model X.prog X.w) X.A (isTrue e X.env whole) (TP X pins σ Q) X.xe s
theorem PW.pt{X:Cx}{e:Expr}{t:TT}(h:PW X e t):PT X e t:=h _
def PA(X:Cx)(es:List Expr)(t:TA):Prop:=
 ∀(pos:Pos)(pins:List (Addr×Obj))(s:Shared)(σ:St)(H:Hp)(Q:List V->Hp->Prop),Inv X pins σ H s->t σ H Q->wpAny (model X.prog X.w) X.A (spliced (backTo pos (starEach es X.env))) (AP X pins σ Q) X.xe s
def PS(X:Cx)(st:Stmt)(t:TS):Prop:=
 ∀(pins:List (Addr×Obj))(s:Shared)(σ:St)(H:Hp)(D:Ends),Inv X pins σ H s->t D σ H->wpAny (model X.prog X.w) X.A (exec st X.env) (SP X pins D) X.xe s
def PSs(X:Cx)(st:List Stmt)(t:TS):Prop:=
 ∀(pins:List (Addr×Obj))(s:Shared)(σ:St)(H:Hp)(D:Ends),Inv X pins σ H s->t D σ H->wpAny (model X.prog X.w) X.A (execs st X.env) (SP X pins D) X.xe s
theorem thn{α:Type}{t:Sem α}{Q Q':α->Shared->Prop}{M:Model}{A:Around}{E:Value->Shared->Prop}{s:Shared}(h:wpAny M A t Q E s)(hQ:∀a s,Q a s->Q' a s):wpAny M A t Q' E s:=wpAny_mono h hQ fun _ _ x=>x
end L2
namespace L2
open PySem PySem.Spec PyProof.Rows
section
variable{X:Cx}
noncomputable def tVar(i:Nat):TE:=fun σ H Q=>∃v,σ[i]?=some (some v)/\Q v H
noncomputable def tC(v:V):TE:=fun _ H Q=>Q v H
theorem zSO{i:Nat}{x:Str}{pos:Pos}(hN:X.N[i]?=some x)(hv:Vis X.env.scope x)(hd:(x==("__debug__":Str))=false:=by decide)(hcd:(x==("__classdict__":Str))=false:=by decide):PE X (.Name x pos) (tVar i):=by
 intro pins s σ H Q I h;obtain⟨v,e,h⟩:=h;obtain⟨m,hn,hl⟩:=I.loc;obtain⟨u,r,l⟩:=hl i x v hN e hv;have fin:EP X pins σ Q u s:=⟨v,H,I,r,h⟩
 rcases l with⟨hk,hm⟩|⟨hk,c,hc,hcell⟩
 ·exact wpAny_Name (wpAny_loadName_local I.ok.kind hk hn hm fin) hd
 ·rcases hk with hk|hk
  ·exact wpAny_Name (wpAny_loadName_cell I.ok.kind hk hc hcell fin) hd
  ·exact wpAny_Name (wpAny_loadName_free I.ok.kind hk hc hcell fin hcd) hd
theorem zAA{i j pos}:PE X (.Constant (.int i) j pos) (tC (.int i)):=fun _ _ _ H _ I h=>wpAny_Constant_int ⟨.int i,H,I.tok _,⟨_,rfl⟩,h⟩
theorem zU5{b j pos}:PE X (.Constant (.bool b) j pos) (tC (.bl b)):=fun _ _ _ H _ I h=>Constant_bool ⟨.bl b,H,I,rfl,h⟩
theorem zDI{x j pos}:PE X (.Constant (.str x) j pos) (tC (.str x)):=fun _ _ _ H _ I h=>Calls.Constant_str ⟨.str x,H,I.tok _,⟨_,rfl⟩,h⟩
def Gl(X:Cx)(x:Str):Prop:=X.env.kindOf x=some .globalImplicit
theorem zEO{E:Value->Shared->Prop}{pins:List (Addr×Obj)}{s:Shared}{σ:St}{H:Hp}{x:Str}{u:Value}{pos:Pos}{Q:Value->Shared->Prop}(I:Inv X pins σ H s)(hg:Gl X x)(hm:X.mg x=some u)(h:Q u s)
  (hd:(x==("__debug__":Str))=false:=by decide):wpAny (model X.prog X.w) X.A (eval (.Name x pos) X.env) Q E s:=
 Calls.Name_function_global I.ok.kind hg (Calls.loadGlobal_global (by rw[I.ok.glob];exact I.mod.glob.keeps I.bk) hm h) hd
theorem zML{E:Value->Shared->Prop}{pins:List (Addr×Obj)}{s:Shared}{σ:St}{H:Hp}{x:Str}{u:Value}{pos:Pos}{Q:Value->Shared->Prop}(I:Inv X pins σ H s)(hg:Gl X x)(hm:X.mg x=none)(hv:bootBuiltins x=some u)(h:Q u s)
  (hn:x≠"__name__":=by decide) (hd:(x==("__debug__":Str))=false:=by decide):wpAny (model X.prog X.w) X.A (eval (.Name x pos) X.env) Q E s:=by
 obtain⟨mb,h1,h2⟩:=I.mod.blt;exact Calls.Name_function_global I.ok.kind hg (Calls.loadGlobal_builtin (by rw[I.ok.glob];exact I.mod.glob.keeps I.bk) hm (by rw[I.ok.blt];exact h1.keeps I.bk) ((h2 x hn).trans hv) h) hd
variable{a b:Expr}{ta tb:TE}{pos:Pos}
noncomputable def tB(t:TE):TT:=fun σ H Q=>t σ H fun x H1=>∃c,x=.bl c/\Q c H1
variable{tA tB':TT}{rest:List Expr}
noncomputable def tAnd(t u:TT):TT:=fun σ H Q=>t σ H fun c H1=>if c=true then u σ H1 Q else Q false H1
noncomputable def tOr(t u:TT):TT:=fun σ H Q=>t σ H fun c H1=>if c=true then Q true H1 else u σ H1 Q
noncomputable def tNot(t:TT):TT:=fun σ H Q=>t σ H fun c H1=>Q (!c) H1
theorem zOM(ha:PT X a tA):PW X (.BoolOp .And [a] pos) tA:=by
 intro wh pins s σ H Q I h;refine isTrue_and (thn (ha pins s σ H Q I h) fun c s1 e=>?_);cases c with
 |true=>exact isTrue_and_nil e
 |false=>exact e
theorem zME(ha:PT X a tA):PW X (.BoolOp .Or [a] pos) tA:=by
 intro wh pins s σ H Q I h;refine isTrue_or (thn (ha pins s σ H Q I h) fun c s1 e=>?_);cases c with
 |false=>exact isTrue_or_nil e
 |true=>exact e
theorem zSM(ha:PT X a tA)(hb:PW X (.BoolOp .And (b::rest) pos) tB'):PW X (.BoolOp .And (a::b::rest) pos) (tAnd tA tB'):=by
 intro wh pins s σ H Q I h;refine isTrue_and (thn (ha pins s σ H _ I h) fun c s1 z0=>?_);obtain⟨H1,I1,q1⟩:=z0;cases c with
 |true=>exact hb wh pins s1 σ H1 Q I1 q1
 |false=>exact⟨H1,I1,q1⟩
theorem zNF(ha:PT X a tA)(hb:PW X (.BoolOp .Or (b::rest) pos) tB'):PW X (.BoolOp .Or (a::b::rest) pos) (tOr tA tB'):=by
 intro wh pins s σ H Q I h;refine isTrue_or (thn (ha pins s σ H _ I h) fun c s1 z0=>?_);obtain⟨H1,I1,q1⟩:=z0;cases c with
 |true=>exact⟨H1,I1,q1⟩
 |false=>exact hb wh pins s1 σ H1 Q I1 q1
theorem zOO(ha:PT X a tA):PT X (.UnaryOp .Not a pos) (tNot tA):=by
 intro pins s σ H Q I h;exact isTrue_not (ha pins s σ H (fun c H1=>Q (!c) H1) I h)
end
end L2
namespace L2
open PySem PySem.Spec PyProof.Rows
def SqL(K:qA0)(H:Hp)(a:Addr)(xs:List V):Prop:=
 Rd H a (.lst xs) \/
  ∃(o:Obj)(its:Array Value)(n:Nat),K.lookup a=some o/\o.cls=.type "list"/\o.dict=none/\o.data=.seq its n/\its.size<=sizeLine/\Vals xs its.toList
def SqT(K:qA0)(H:Hp)(a:Addr)(xs:List V):Prop:=
 Rd H a (.tup xs) \/
  ∃(o:Obj)(its:Array Value)(n:Nat),K.lookup a=some o/\o.cls=.type "tuple"/\o.data=.seq its n/\its.size<=sizeLine/\Vals xs its.toList
noncomputable def absV:Value->Option V
 |.none=>some .non
 |.bool b=>some (.bl b)
 |.int i _=>some (.int i)
 |.str x _=>some (.str x)
 |.bytes b _=>some (.byt b)
 |.float b _=>some (.flt b)
 |.ref a=>some (.ref a)
 |.type n=>some (.ty n)
 |_=>none
theorem RelV.abs{x:V}{u:Value}(r:RelV x u):absV u=some x:=by
 cases x with
 |non=>cases r;rfl
 |bl _=>cases r;rfl
 |int _=>obtain⟨t,rfl⟩:=r;rfl
 |str _=>obtain⟨t,rfl⟩:=r;rfl
 |byt _=>obtain⟨t,rfl⟩:=r;rfl
 |flt _=>obtain⟨t,rfl⟩:=r;rfl
 |ref _=>cases r;rfl
 |ty _=>cases r;rfl
theorem RelV.inj{x y:V}{u:Value}(r:RelV x u)(q:RelV y u):x=y:=qBq (r.abs.symm.trans q.abs)
theorem Vals.inj:∀{xs ys:List V}{us:List Value},Vals xs us->Vals ys us->xs=ys
 |_,_,_,.nil,.nil=>rfl
 |_,_,_,.cons r t,.cons r' t'=>by rw[r.inj r',Vals.inj t t']
section
variable{X:Cx}{pins:List (Addr×Obj)}{σ:St}{H:Hp}{s:Shared}{a:Addr}{xs ys:List V}
theorem SqL.of{K:qA0}(h:H a=some (.lst xs)):SqL K H a xs:=.inl (.inl h)
theorem SqT.of{K:qA0}(h:H a=some (.tup xs)):SqT K H a xs:=.inl (.inl h)
theorem Inv.list(I:Inv X pins σ H s)(h:SqL X.K H a xs):∃its:List Value,Vals xs its/\PlainL s.heap a its.toArray/\xs.length<=sizeLine:=by
 rcases h with h|⟨o,its,n,hk,hc,hd,hs,hz,r⟩
 ·obtain⟨z,its,n,r,e⟩:=h.ok I.hok;exact⟨its,r,⟨_,n,e,rfl,rfl,rfl⟩,z⟩
 ·refine⟨its.toList,r,⟨o,n,I.kIn a o hk,hc,hd,by simpa using hs⟩,?_⟩;have e:=r.length;simp only[qB3]at e;omega
theorem Inv.tuple(I:Inv X pins σ H s)(h:SqT X.K H a xs):∃its:List Value,Vals xs its/\IsTup s.heap a its.toArray/\xs.length<=sizeLine:=by
 rcases h with h|⟨o,its,n,hk,hc,hs,hz,r⟩
 ·obtain⟨z,its,r,p⟩:=h.ok I.hok;exact⟨its,r,p,z⟩
 ·refine⟨its.toList,r,⟨o,I.kIn a o hk,hc,n,by simpa using hs⟩,?_⟩;have e:=r.length;simp only[qB3]at e;omega
theorem Inv.list_inj(I:Inv X pins σ H s)(h:SqL X.K H a xs)(h':SqL X.K H a ys):xs=ys:=by
 obtain⟨its,r,⟨o,n,e,_,_,d⟩,_⟩:=I.list h;obtain⟨its',r',⟨o',n',e',_,_,d'⟩,_⟩:=I.list h';rw[e]at e';cases e';rw[d]at d'
 injection d' with d1 _
 have:its=its':=by simpa using congrArg qG3 d1
 subst this;exact r.inj r'
theorem Inv.tuple_inj(I:Inv X pins σ H s)(h:SqT X.K H a xs)(h':SqT X.K H a ys):xs=ys:=by
 obtain⟨its,r,⟨o,e,_,n,d⟩,_⟩:=I.tuple h;obtain⟨its',r',⟨o',e',_,n',d'⟩,_⟩:=I.tuple h';rw[e]at e';cases e';rw[d]at d'
 injection d' with d1 _
 have:its=its':=by simpa using congrArg qG3 d1
 subst this;exact r.inj r'
end
abbrev Cx.wish(X:Cx)(E:Value->Shared->Prop):Cx:={ X with xe:=E }
abbrev Cx.nox(X:Cx):Cx:=X.wish fun _ _=>False
theorem Cx.Ok.wish{X:Cx}(ok:X.Ok)(E:Value->Shared->Prop):(X.wish E).Ok:=
 ⟨ok.mod,ok.kind,ok.glob,ok.blt,ok.above,ok.inj,ok.has,ok.cab,ok.hd,ok.frames,ok.stk,ok.exf,ok.bs,ok.bsz,ok.noex,ok.exfs,ok.funs,ok.frf⟩
theorem Cx.Ok.unwish{X:Cx}{E:Value->Shared->Prop}(ok:(X.wish E).Ok):X.Ok:=
 ⟨ok.mod,ok.kind,ok.glob,ok.blt,ok.above,ok.inj,ok.has,ok.cab,ok.hd,ok.frames,ok.stk,ok.exf,ok.bs,ok.bsz,ok.noex,ok.exfs,ok.funs,ok.frf⟩
section
variable{X:Cx}{pins:List (Addr×Obj)}{σ:St}{H:Hp}{s:Shared}{E:Value->Shared->Prop}
theorem Inv.wish(I:Inv X pins σ H s)(E:Value->Shared->Prop):Inv (X.wish E) pins σ H s:=⟨I.ok.wish E,I.os,I.bare,I.base,I.loc,I.cell,I.free,I.freeC,I.pin,I.hok,I.len⟩
theorem Inv.unwish(I:Inv (X.wish E) pins σ H s):Inv X pins σ H s:=⟨I.ok.unwish,I.os,I.bare,I.base,I.loc,I.cell,I.free,I.freeC,I.pin,I.hok,I.len⟩
theorem SP.unwish{D:Ends}{f:Flow}{s':Shared}(h:SP (X.wish E) pins D f s'):SP X pins D f s':=by
 cases f with
 |next=>obtain⟨σ',H',I,q⟩:=h;exact⟨σ',H',I.unwish,q⟩
 |brk=>obtain⟨σ',H',I,q⟩:=h;exact⟨σ',H',I.unwish,q⟩
 |cont=>obtain⟨σ',H',I,q⟩:=h;exact⟨σ',H',I.unwish,q⟩
 |ret u=>obtain⟨v,σ',H',I,r,q⟩:=h;exact⟨v,σ',H',I.unwish,r,q⟩
theorem PSs.nox{st:List Stmt}{t:TS}(h:PSs X.nox st t):PSs X st t:=fun pins s σ H D I hw=>
 wpAny_mono (h pins s σ H D (I.wish _) hw) (fun _ _ q=>q.unwish) fun _ _ z=>qA6 z
end
section
variable{X:Cx}{st:Stmt}{rest:List Stmt}{t u:TS}{e:Expr}{te:TE}{pos:Pos}
noncomputable def zN3:TS:=fun D σ H=>D.nx σ H
noncomputable def tSeq(t u:TS):TS:=fun D σ H=>t { D with nx:=u D } σ H
theorem zBT:PSs X [] zN3:=fun _ _ σ H _ I h=>wpAny_execs_nil ⟨σ,H,I,h⟩
theorem zA4(h1:PS X st t)(h2:PSs X rest u):PSs X (st::rest) (tSeq t u):=by
 intro pins s σ H D I h;refine wpAny_execs_cons (thn (h1 pins s σ H { D with nx:=u D } I h) fun f s1 q=>?_);cases f with
 |next=>
  obtain⟨σ',H',I',q⟩:=q;exact h2 pins s1 σ' H' D I' q
 |ret v=>exact q
 |brk=>exact q
 |cont=>exact q
theorem zAH(h1:PS X st t):PSs X [st] t:=by
 intro pins s σ H D I h;refine wpAny_execs_cons (thn (h1 pins s σ H D I h) fun f s1 q=>?_);cases f with
 |next=>exact wpAny_execs_nil q
 |ret v=>exact q
 |brk=>exact q
 |cont=>exact q
theorem Inv.quiet{pins:List (Addr×Obj)}{σ:St}{H:Hp}{s:Shared}(I:Inv X pins σ H s):interactive X.env=false:=by simp[interactive,I.ok.kind]
noncomputable def zN4(te:TE):TS:=fun D σ H=>te σ H fun _ H1=>D.nx σ H1
theorem zFK(he:PE X e te)(hs:swapsWith e none pos.line X.env=pure false:=by rfl):PS X (.Expr e pos) (zN4 te):=by
 intro pins s σ H D I h;exact wpAny_Expr_any (thn (he pins s σ H _ I h) fun v s1 ⟨x,H1,I1,r1,q1⟩=>⟨σ,H1,I1,q1⟩) I.quiet hs
noncomputable def tRet(te:TE):TS:=fun D σ H=>te σ H D.rt
theorem zAZ(he:PE X e te):PS X (.Return (some e) pos) (tRet te):=by
 intro pins s σ H D I h;exact wpAny_Return_some (thn (he pins s σ H _ I h) fun v s1 ⟨x,H1,I1,r1,q1⟩=>⟨x,σ,H1,I1,r1,q1⟩)
noncomputable def tIfS(c:TT)(t u:TS):TS:=fun D σ H=>c σ H fun b H1=>if b=true then t D σ H1 else u D σ H1
theorem zEK{c:Expr}{a b:List Stmt}{tc:TT}(hc:PT X c tc)(ha:PSs X a t)(hb:PSs X b u):PS X (.If c a b pos) (tIfS tc t u):=by
 intro pins s σ H D I h;refine wpAny_If (thn (hc pins s σ H _ I h) fun d s1 z0=>?_);obtain⟨H1,I1,q1⟩:=z0;cases d with
 |true=>exact ha pins s1 σ H1 D I1 q1
 |false=>exact hb pins s1 σ H1 D I1 q1
end
abbrev TG:=V->St->Hp->(St->Hp->Prop)->Prop
abbrev TGs:=List V->St->Hp->(St->Hp->Prop)->Prop
def PG(X:Cx)(target:Expr)(t:TG):Prop:=
 ∀(pins:List (Addr×Obj))(s:Shared)(σ:St)(H:Hp)(v:V)(u:Value)(Q:St->Hp->Prop),Inv X pins σ H s->RelV v u->t v σ H Q ->
  wpAny (model X.prog X.w) X.A (assign target X.env u) (fun _ s'=>∃σ' H',Inv X pins σ' H' s'/\Q σ' H') X.xe s
def PGs(X:Cx)(ts:List Expr)(t:TGs):Prop:=
 ∀(pins:List (Addr×Obj))(s:Shared)(σ:St)(H:Hp)(vs:List V)(us:List Value)(Q:St->Hp->Prop),Inv X pins σ H s->Vals vs us->t vs σ H Q ->
  wpAny (model X.prog X.w) X.A (assignInOrder ((assignEach ts X.env).map (·.2)) us) (fun _ s'=>∃σ' H',Inv X pins σ' H' s'/\Q σ' H') X.xe s
section
variable{X:Cx}{pos:Pos}
noncomputable def zH9(i:Nat):TG:=fun v σ H Q=>Q (σ.set i (some v)) H
theorem zB8{i:Nat}{x:Str}(hN:X.N.Nodup)(hi:X.N[i]?=some x)(hx:Loc X.env.scope x)(hf:X.fn x=true\/X.env.scope.names.lookup x=some .local:=by first|exact .inl rfl|exact .inr rfl|assumption):PG X (.Name x pos) (zH9 i):=by
 intro pins s σ H v u Q I r h;exact wpAny_assign_Name (zM6 I hN hi hx r (fun s' I'=>⟨_,H,I',h⟩) hf)
noncomputable def gNil:TGs:=fun vs σ H Q=>vs=[]/\Q σ H
noncomputable def zX3(t:TG)(u:TGs):TGs:=fun vs σ H Q=>∃v r,vs=v::r/\t v σ H fun σ' H'=>u r σ' H' Q
theorem zFL:PGs X [] gNil:=by
 intro pins s σ H vs us Q I r h;obtain⟨e,h⟩:=h;subst e;cases r;exact assignInOrder_nil ⟨σ,H,I,h⟩
theorem zBS{e:Expr}{es:List Expr}{t:TG}{u:TGs}(h1:PG X e t)(h2:PGs X es u)
  (hs:(assignEach (e::es) X.env).map (·.2)=assign e X.env::(assignEach es X.env).map (·.2):=by rfl):PGs X (e::es) (zX3 t u):=by
 intro pins s σ H vs us Q I r h;obtain⟨v,vr,e1,h⟩:=h;subst e1;cases r with
 |cons r rr=>
  rw[hs];refine assignInOrder_cons (thn (h1 pins s σ H _ _ _ I r h) fun _ s1 z0=>?_);obtain⟨σ1,H1,I1,q1⟩:=z0;exact h2 pins s1 σ1 H1 _ _ Q I1 rr q1
noncomputable def gTup(K:qA0)(n:Nat)(t:TGs):TG:=fun v σ H Q=>∃a xs,v=.ref a/\SqT K H a xs/\xs.length=n/\t xs σ H Q
theorem zW5{es:List Expr}{k:Nat}{t:TGs}{n:Nat}(hc:X.calm=true)(h:PGs X es t)
  (hn:(assignEach es X.env).length=n:=by rfl) (hst:(assignEach es X.env).findIdx? (·.1)=none:=by rfl):PG X (.Tuple es k pos) (gTup X.K n t):=by
 intro pins s σ H v u Q I r hw;obtain⟨a,xs,e1,hq,hl,hw⟩:=hw;subst e1;cases r;obtain⟨its,rv,ht,hz⟩:=I.tuple hq;refine assign_Tuple_tuple (I.ok.hd hc) ht (by simp[hn,<- hl,rv.length]) hst fun h' hx=>?_
 have I1:Inv X pins σ H { s with heap:=h' }:=I.kept (t':=s.toks) fun b o e=>hx b o (qAf (Heap.lt_size e)) e
 exact h pins _ σ H xs _ Q I1 (by simpa using rv) hw
noncomputable def tAsg(te:TE)(g:TG):TS:=fun D σ H=>te σ H fun x H1=>g x σ H1 D.nx
theorem zMH{tg e:Expr}{te:TE}{g:TG}(he:PE X e te)(hg:PG X tg g)(hs:swapsWithSole [tg] e pos.line X.env=pure false:=by rfl)(hw:swappedStores [tg] e X.env=pure none:=by rfl)
  (h1:(assignEach [tg] X.env).map (·.2)=[assign tg X.env]:=by rfl):PS X (.Assign [tg] e pos) (tAsg te g):=by
 intro pins s σ H D I h;refine wpAny_Assign_stores (thn (he pins s σ H _ I h) fun v s1 z0=>?_) hs hw;obtain⟨x,H1,I1,r1,q1⟩:=z0;rw[h1];exact thn (hg pins s1 σ H1 x v _ I1 r1 q1) fun _ s2 q=>q
theorem zAQ{i:Nat}{x:Str}{e:Expr}{te:TE}{pos':Pos}(hN:X.N.Nodup)(hi:X.N[i]?=some x)(hx:Loc X.env.scope x)(he:PE X e te)(hs:swapsWith e (some (.Name x pos')) pos.line X.env=pure false:=by rfl)(hf:X.fn x=true\/X.env.scope.names.lookup x=some .local:=by first|exact .inl rfl|exact .inr rfl|assumption) :
  PS X (.Assign [.Name x pos'] e pos) (tAsg te (zH9 i)):=by
 intro pins s σ H D I h;refine wpAny_Assign_Name (thn (he pins s σ H _ I h) fun v s1 z0=>?_) hs;obtain⟨y,H1,I1,r1,q1⟩:=z0;exact zM6 I1 hN hi hx r1 (fun s2 I2=>⟨_,H1,I2,q1⟩) hf
end
structure It where
 go:Nat->Hp->Prop
 yld:Nat->Hp->V->Hp->Prop
 stop:Nat->Hp->Prop
def FpOk(X:Cx)(pins:List (Addr×Obj))(H:Hp)(b:Addr):Prop:=
 H b=none/\b≠X.env.locals/\b∉X.fs/\(b∈X.ex\/X.s₀.heap.objs.size<=b)/\(∀x c,X.env.cells.lookup x=some c->c≠b)/\∀p∈X.pn++pins,p.1≠b
theorem Inv.fpOk{X:Cx}{pins:List (Addr×Obj)}{σ:St}{H H':Hp}{s:Shared}{b:Addr}(I:Inv X pins σ H s)(hb:s.heap.objs.size<=b)(hn:H' b=none):FpOk X pins H' b:=by
 refine⟨hn,qBm (qAc I.lt hb),I.nofs hb,.inr (qAr I.sz hb),fun x c e z=>?_,fun p hp z=>?_⟩
 ·obtain⟨v,q⟩:=I.cell x c e;exact absurd (qAc q.lt (by rw[z];exact hb)) (qC3 _)
 ·exact absurd (qAc (Heap.lt_size (I.pin p hp).1) (by rw[z];exact hb)) (qC3 _)
structure Turn(P:Program)(w:World)(K:qA0)(tg:Expr)(J:It)(fp:List Addr)(it:Addr)(tn:Nat->Heap->Prop):Prop where
 mem:it∈fp
 obj:∀i h,tn i h->∀b∈fp,∃o,h.get? b=some o/\∀v,o.data≠.cell v
 keep:∀i h h',tn i h->(∀b∈fp,∀o,h.get? b=some o->h'.get? b=some o)->tn i h'
 item:∀(X:Cx),X.prog=P->X.w=w->X.K=K->X.calm=true->∀(i:Nat)(pins:List (Addr×Obj))(s:Shared)(σ:St)(H:Hp)(E:Value->Shared->Prop),Inv X pins σ H s->(∀b∈fp,FpOk X pins H b)->tn i s.heap->J.go i H ->
  wpAny (model P w) X.A (pyNext (.ref it)) (fun r s1=>∃u,r=some u /\
   wpAny (model P w) X.A (letOwnedTupleGo tg (.ref it) u) (fun _ s2=>∃x H',Inv X pins σ H' s2/\RelV x u/\J.yld i H x H'/\tn (i+1) s2.heap/\∀b∈fp,H' b=none) E s1) E s
 done:∀(X:Cx),X.prog=P->X.w=w->X.K=K->X.calm=true->∀(i:Nat)(pins:List (Addr×Obj))(s:Shared)(σ:St)(H:Hp)(E:Value->Shared->Prop),Inv X pins σ H s->(∀b∈fp,FpOk X pins H b)->tn i s.heap->J.stop i H ->
  wpAny (model P w) X.A (pyNext (.ref it)) (fun r s1=>r=none/\Inv X pins σ H s1) E s
 self:∀(A:Around)(i:Nat)(s:Shared)(Q:Value->Shared->Prop)(E:Value->Shared->Prop),tn i s.heap->Q (.ref it) s->wpAny (model P w) A (pyIter (.ref it)) Q E s
abbrev TI:=St->Hp->(It->Hp->Prop)->Prop
def PIE(X:Cx)(pins:List (Addr×Obj))(σ:St)(tg:Expr)(R:It->Hp->Prop)(itv:Value)(s2:Shared):Prop:=
 ∃(it:Addr)(fp:List Addr)(tn:Nat->Heap->Prop)(J:It)(H':Hp),itv=.ref it/\Inv X pins σ H' s2/\Turn X.prog X.w X.K tg J fp it tn/\tn 0 s2.heap/\(∀b∈fp,FpOk X pins H' b)/\R J H'
def PI(X:Cx)(tg iter:Expr)(wi:TI):Prop:=
 ∀(pins:List (Addr×Obj))(s:Shared)(σ:St)(H:Hp)(R:It->Hp->Prop),Inv X pins σ H s->wi σ H R ->
  wpAny (model X.prog X.w) X.A (eval iter X.env) (fun v s1=>wpAny (model X.prog X.w) X.A (pyIter v) (PIE X pins σ tg R) X.xe s1) X.xe s
theorem zRT{M:Model}{A:Around}{E:Value->Shared->Prop}{s:Shared}{tg:Expr}{it:Addr}{u:Value}{o:Obj}{n:String}{vs:Array Value}{Q:Unit->Shared->Prop}(ho:s.heap.get? it=some o)(hc:o.cls=.type n)(hd:o.data=.fields vs)
  (hn:["enumerate","zip","dict_itemiterator","dict_reverseitemiterator","odict_iterator","itertools.zip_longest","itertools.pairwise"].contains n=false) (hQ:Q () s):wpAny M A (letOwnedTupleGo tg (.ref it) u) Q E s:=by
 unfold letOwnedTupleGo;cases tg<;>first
  |exact wpAny_pure hQ
  |(cases u<;>first
    |exact wpAny_pure hQ
    |(refine wpAny_bind (wpAny_load ho ?_)
      rw[hc,hd];show wpAny M A (if(["enumerate","zip","dict_itemiterator","dict_reverseitemiterator","odict_iterator","itertools.zip_longest","itertools.pairwise"].contains n&&vs[0]?==some (rawInt _))=true then _ else _) Q E s;rw[if_neg (by intro h;rw[hn,Bool.false_and]at h;cases h)];exact wpAny_pure hQ))
noncomputable def Itl(K:qA0)(a:Addr):It:=
 ⟨fun i H=>∃xs x,SqL K H a xs/\xs[i]?=some x,fun i H x H'=>H'=H/\∀xs,SqL K H a xs->xs[i]?=some x,fun i H=>∃xs,SqL K H a xs/\xs.length<=i⟩
noncomputable def Itt(K:qA0)(a:Addr):It:=
 ⟨fun i H=>∃xs x,SqT K H a xs/\xs[i]?=some x,fun i H x H'=>H'=H/\∀xs,SqT K H a xs->xs[i]?=some x,fun i H=>∃xs,SqT K H a xs/\xs.length<=i⟩
noncomputable def Itr(lo:Int)(n:Nat):It:=⟨fun i _=>i<n,fun i H x H'=>H'=H/\x=.int (lo+i),fun i _=>n<=i⟩
theorem zO3{P:Program}{w:World}{K:qA0}{tg:Expr}(a it:Addr):Turn P w K tg (Itl K a) [it] it (fun i h=>h.IsListIter it a i) where
 mem:=by simp
 obj:=fun i h st b hb=>by
  have e:b=it:=by simpa using hb
  subst e;obtain⟨o,e,c,d⟩:=st;exact⟨o,e,fun v z=>by rw[d]at z;cases z⟩
 keep:=fun i h h' st k=>st.at fun o e=>k it (by simp) o e
 item:=by
  intro X hP hw hK hc i pins s σ H E I hf st hg;subst hP hw hK;obtain⟨xs,x,hq,hx⟩:=hg;obtain⟨its,rv,p,hz⟩:=I.list hq;obtain⟨u,hu,ru⟩:=rv.get hx;obtain⟨f0,f1,f2,f3,f4,f5⟩:=hf it (by simp);refine wpAny_pyNext_list_item st p.isList (x:=u) (by simpa using hu) fun h' st' sb=>?_
  have I1:Inv X pins σ H { s with heap:=h' }:=I.turned (t':=s.toks) (fun b o hb e=>(sb.2 b hb).trans e) f0 f1 f3 f4 f5;obtain⟨o,e,c,d⟩:=id st';exact⟨u,rfl,zRT (s:={ s with heap:=h' }) e c d (by decide) ⟨x,H,I1,ru,⟨rfl,fun ys hy=>by rw[I.list_inj hy hq];exact hx⟩,st',fun b hb=>(hf b hb).1⟩⟩
 done:=by
  intro X hP hw hK hc i pins s σ H E I hf st hg;subst hP hw hK;obtain⟨xs,hq,hx⟩:=hg;obtain⟨its,rv,p,hz⟩:=I.list hq;obtain⟨f0,f1,f2,f3,f4,f5⟩:=hf it (by simp);have hl:=rv.length;exact wpAny_pyNext_list_end (I.ok.hd hc) st p.isList (by simp;omega) fun h' eb=>⟨rfl,I.turned (t':=s.toks) (fun b o hb e=>eb b o hb e) f0 f1 f3 f4 f5⟩
 self:=fun _ _ _ _ _ st h=>wpAny_pyIter_listiter st h
theorem zN0{P:Program}{w:World}{K:qA0}{tg:Expr}(a it:Addr):Turn P w K tg (Itt K a) [it] it (fun i h=>h.IsTupleIter it a i) where
 mem:=by simp
 obj:=fun i h st b hb=>by
  have e:b=it:=by simpa using hb
  subst e;obtain⟨o,e,c,d⟩:=st;exact⟨o,e,fun v z=>by rw[d]at z;cases z⟩
 keep:=fun i h h' st k=>st.at fun o e=>k it (by simp) o e
 item:=by
  intro X hP hw hK hc i pins s σ H E I hf st hg;subst hP hw hK;obtain⟨xs,x,hq,hx⟩:=hg;obtain⟨its,rv,p,hz⟩:=I.tuple hq;obtain⟨u,hu,ru⟩:=rv.get hx;obtain⟨f0,f1,f2,f3,f4,f5⟩:=hf it (by simp);refine wpAny_pyNext_tuple_item st (show s.heap.IsTuple a its.toArray from p) (x:=u) (by simpa using hu) fun h' st' sb=>?_
  have I1:Inv X pins σ H { s with heap:=h' }:=I.turned (t':=s.toks) (fun b o hb e=>(sb.2 b hb).trans e) f0 f1 f3 f4 f5;obtain⟨o,e,c,d⟩:=id st';exact⟨u,rfl,zRT (s:={ s with heap:=h' }) e c d (by decide) ⟨x,H,I1,ru,⟨rfl,fun ys hy=>by rw[I.tuple_inj hy hq];exact hx⟩,st',fun b hb=>(hf b hb).1⟩⟩
 done:=by
  intro X hP hw hK hc i pins s σ H E I hf st hg;subst hP hw hK;obtain⟨xs,hq,hx⟩:=hg;obtain⟨its,rv,p,hz⟩:=I.tuple hq;obtain⟨f0,f1,f2,f3,f4,f5⟩:=hf it (by simp);have hl:=rv.length;exact wpAny_pyNext_tuple_end (I.ok.hd hc) st (show s.heap.IsTuple a its.toArray from p) (by simp;omega) fun h' eb=>⟨rfl,I.turned (t':=s.toks) (fun b o hb e=>eb b o hb e) f0 f1 f3 f4 f5⟩
 self:=fun _ _ _ _ _ st h=>wpAny_pyIter_tupleiter st h
theorem zN1{P:Program}{w:World}{K:qA0}{tg:Expr}(it:Addr)(lo:Int)(n:Nat):Turn P w K tg (Itr lo n) [it] it (fun i h=>IsRangeIter h it (lo+(i:Nat)*1) ((n:Int)-(i:Nat)) 1) where
 mem:=by simp
 obj:=fun i h st b hb=>by
  have e:b=it:=by simpa using hb
  subst e;exact⟨_,st,fun v z=>by
   have z':Data.fields _=Data.cell v:=z;cases z'⟩
 keep:=fun i h h' st k=>k it (by simp) _ st
 item:=by
  intro X hP hw hK hc i pins s σ H E I hf st hg;subst hP hw hK;obtain⟨f0,f1,f2,f3,f4,f5⟩:=hf it (by simp);have W:=Walks.range (prog:=X.prog) (w:=X.w) (I.ok.hd hc) it lo 1 n;refine W.item i s _ _ hg st fun v h' tk hv st' kk=>?_
  obtain⟨t,rfl⟩:=hv;have I1:Inv X pins σ H { s with heap:=h',toks:=tk }:=I.turned (fun b o hb e=>kk b o (by simpa using hb) e) f0 f1 f3 f4 f5;refine⟨_,rfl,zRT (s:={ s with heap:=h',toks:=tk }) (n:="range_iterator") st' rfl rfl (by decide) ⟨.int (lo+i),H,I1,⟨t,?_⟩,⟨rfl,rfl⟩,st',fun b hb=>(hf b hb).1⟩⟩;rw[qHd]
 done:=by
  intro X hP hw hK hc i pins s σ H E I hf st hg;subst hP hw hK;obtain⟨f0,f1,f2,f3,f4,f5⟩:=hf it (by simp);exact wpAny_pyNext_range_end (I.ok.hd hc) st (by have:n<=i:=hg;omega) fun h' eb=>⟨rfl,I.turned (t':=s.toks) (fun b o hb e=>eb b o hb e) f0 f1 f3 f4 f5⟩
 self:=fun _ _ _ _ _ st h=>wpAny_pyIter_rangeiter st h
end L2
namespace L2
open PySem PySem.Spec PyProof.Rows
section
variable{X:Cx}{tg:Expr}
theorem zR2{pins:List (Addr×Obj)}{σ:St}{H:Hp}{s:Shared}{R:It->Hp->Prop}{E:Value->Shared->Prop}{lo hi:Int}{t u v:Tok}{tk:Nat}(I:Inv X pins σ H s)(h1:-(2 ^ 62)<=lo)(h2:lo<2 ^ 62)(h3:-(2 ^ 62)<=hi)(h4:hi<2 ^ 62)
  (q:R (Itr lo (hi-lo).toNat) H):wpAny (model X.prog X.w) X.A (pyIter (.ref s.heap.objs.size)) (PIE X pins σ tg R) E { s with heap:=s.heap.push { cls:=.type "range",data:=.fields #[.int lo t,.int hi u,.int 1 v] },toks:=tk }:=by
 refine wpAny_pyIter_range (IsRange.new ..) (small_one h1 h2 h3 h4) ?_;have I1:Inv X pins σ H { s with heap:=s.heap.push { cls:=.type "range",data:=.fields #[.int lo t,.int hi u,.int 1 v] },toks:=tk }:=I.kept fun b o e=>Heap.get?_push_of_some _ e
 refine⟨(s.heap.push { cls:=.type "range",data:=.fields #[.int lo t,.int hi u,.int 1 v] }).objs.size,[(s.heap.push { cls:=.type "range",data:=.fields #[.int lo t,.int hi u,.int 1 v] }).objs.size],_,_,H,rfl,
  I1.kept (t':=tk) fun b o e=>Heap.get?_push_of_some _ e,zN1 _ lo (hi-lo).toNat,?_,fun b hb=>?_,q⟩
 ·have e1:lo+((0:Nat):Int)*1=lo:=by simp
  have e2:(((hi-lo).toNat:Nat):Int)-((0:Nat):Int)=Builtin.Range.rangeSize lo hi 1:=by rw[rangeSize_one];split<;>omega
  show IsRangeIter _ _ (lo+((0:Nat):Int)*1) ((((hi-lo).toNat:Nat):Int)-((0:Nat):Int)) 1;rw[e1,e2];exact Heap.get?_push_size _ rfl
 ·have e:b=(s.heap.push { cls:=.type "range",data:=.fields #[.int lo t,.int hi u,.int 1 v] }).objs.size:=by simpa using hb
  subst e;exact I1.fpOk (qA4 _) (I1.hok.fresh (qA4 _))
def zX1(ta:TA):TI:=fun σ H R=>ta σ H fun vs H1=>∃j:Int,vs=[.int j]/\-(2 ^ 62)<=j/\j<2 ^ 62/\R (Itr 0 j.toNat) H1
theorem zGD{a:Expr}{ta:TA}{p pos:Pos}(hg:Gl X "range")(hm:X.mg "range" = none)(ha:PA X [a] ta)(hs:starEach [a] X.env=[(false,eval a X.env)]:=by rfl):PI X tg (.Call (.Name "range" p) [a] [] pos) (zX1 ta):=by
 intro pins s σ H R I h;refine Call_ (zML I hg hm boot_range (qCw (thn (ha pos pins s σ H _ I h) fun us s1 z0=>?_) hs rfl));obtain⟨vs,H1,I1,r1,q1⟩:=z0;obtain⟨j,e,q1,q2,q⟩:=q1;subst e;cases r1 with
 |cons r rr=>
  cases rr;obtain⟨t,rfl⟩:=r;exact call_range_1 (zR2 I1 (by omega) (by omega) q1 q2 (by simpa using q))
noncomputable def tFor(wi:TI)(g:TG)(tb:TS):TS:=fun D σ H=>wi σ H fun J H1=>∃W:Nat->Nat->St->Hp->Prop,(∃m,W 0 m σ H1)/\∀i m σ H,W i m σ H ->
 (J.stop i H/\D.nx σ H)\/(J.go i H/\∃N:St->Hp->Prop,(∀σ' H',N σ' H'->∃m',m'<m/\W (i+1) m' σ' H')/\∀x H',J.yld i H x H'->g x σ H' fun σ2 H2=>tb { D with nx:=N,ct:=N,bk:=D.nx } σ2 H2)
noncomputable def zHJ(fp:List Addr)(h:Heap):List (Addr×Obj):=fp.filterMap fun b=>(h.get? b).map fun o=>(b,o)
theorem zDX{fp:List Addr}{h:Heap}{b:Addr}{o:Obj}(hb:b∈fp)(e:h.get? b=some o):(b,o)∈zHJ fp h:=qFk.mpr ⟨b,hb,by rw[e];rfl⟩
theorem zP4{fp:List Addr}{h:Heap}{p:Addr×Obj}(hp:p∈zHJ fp h):p.1∈fp/\h.get? p.1=some p.2:=by
 obtain⟨b,hb,e⟩:=qFk.mp hp;cases q:h.get? b with
 |none=>rw[q]at e;cases e
 |some o=>
  rw[q]at e;have e':(b,o)=p:=qBq e;subst e';exact⟨hb,q⟩
theorem Inv.pinned{pins:List (Addr×Obj)}{σ:St}{H:Hp}{s:Shared}{fp:List Addr}(I:Inv X pins σ H s)(hf:∀b∈fp,FpOk X pins H b)(ho:∀b∈fp,∃o,s.heap.get? b=some o/\∀v,o.data≠.cell v):Inv X (pins++zHJ fp s.heap) σ H s:=
 I.pins_of fun p hp=>(qCg.mp hp).elim (fun z=>I.pin p (qAw _ z)) fun z=>by
  obtain⟨hb,e⟩:=zP4 z;obtain⟨f0,f1,f2,_⟩:=hf p.1 hb;obtain⟨o,e',d⟩:=ho p.1 hb;rw[e]at e';cases e';exact⟨e,f0,f1,f2,d⟩
theorem Inv.unpinned{pins pl:List (Addr×Obj)}{σ:St}{H:Hp}{s:Shared}(I:Inv X (pins++pl) σ H s):Inv X pins σ H s:=I.pins_of fun p hp=>I.pin p (qAw _ (qD6 _ hp))
theorem zW4{iter:Expr}{body:List Stmt}{wi:TI}{g:TG}{tb:TS}{pos:Pos}(hp:PassesOwn (model X.prog X.w) X.A X.env X.xe)(hc:X.calm=true)(hi:PI X tg iter wi)(hg:PG X tg g)(hb:PSs X body tb)
  (hs:∀x,foldedSetIterable iter X.env x=pure x:=by intro _;rfl):PS X (.For tg iter body [] pos) (tFor wi g tb):=by
 intro pins s σ H D I h;refine wpAny_For (thn (hi pins s σ H _ I h) fun v s1 h1=>thn h1 fun itv s2 h2=>?_) hs;obtain⟨it,fp,tn,J,H2,e,I2,T,st2,f2,W,⟨m0,w0⟩,turn⟩:=h2;subst e;have stat:∀{H':Hp},(∀b∈fp,H' b=none)->∀b∈fp,FpOk X pins H' b:=fun hn b hb=>⟨hn b hb,(f2 b hb).2⟩
 refine codeAny_forLoop_any (fun n s'=>∃i σ' H',Inv X pins σ' H' s'/\tn i s'.heap/\(∀b∈fp,H' b=none)/\W i n σ' H') ?_ m0 ⟨0,σ,H2,I2,st2,fun b hb=>(f2 b hb).1,w0⟩
 rintro n s3 ⟨i,σ3,H3,I3,st3,fr3,w3⟩
 rcases turn i n σ3 H3 w3 with⟨stop,qn⟩|⟨go,N,hN,step⟩
 ·refine wpAny_passesOwn hp (thn (T.done X rfl rfl rfl hc i pins s3 σ3 H3 X.xe I3 (stat fr3) st3 stop) fun r s4 z0=>?_);obtain⟨hr,I4⟩:=z0;subst hr;exact wpAny_execs_nil ⟨σ3,H3,I4,qn⟩
 ·refine wpAny_passesOwn hp (thn (T.item X rfl rfl rfl hc i pins s3 σ3 H3 X.xe I3 (stat fr3) st3 go) fun r s4 z0=>?_);obtain⟨u,hr,h4⟩:=z0;subst hr;refine wpAny_passesOwn hp (thn h4 fun _ s5 z0=>?_);obtain⟨x,H5,I5,r5,y5,st5,fr5⟩:=z0;have I5':=I5.pinned (stat fr5) (T.obj _ _ st5);refine wpAny_passesOwn hp (thn (hg _ s5 σ3 H5 x u _ I5' r5 (step x H5 y5)) fun _ s6 z0=>?_);obtain⟨σ6,H6,I6,q6⟩:=z0;refine wpAny_passesOwn hp (thn (hb _ s6 σ6 H6 _ I6 q6) fun f s7 q7=>?_);have again:∀{σ7:St}{H7:Hp},Inv X (pins++zHJ fp s5.heap) σ7 H7 s7->N σ7 H7->∃m,m<n/\∃i σ' H',Inv X pins σ' H' s7/\tn i s7.heap/\(∀b∈fp,H' b=none)/\W i m σ' H':=fun{σ7 H7} I7 n7=>by
   obtain⟨m',hm,w7⟩:=hN σ7 H7 n7;refine⟨m',hm,i+1,σ7,H7,I7.unpinned,T.keep _ _ _ st5 fun b hb o e=>(I7.pin (b,o) (qAw _ (qAw _ (zDX hb e)))).1,fun b hb=>?_,w7⟩;obtain⟨o,e,d⟩:=T.obj _ _ st5 b hb;exact(I7.pin (b,o) (qAw _ (qAw _ (zDX hb e)))).2.1
  cases f with
  |next=>obtain⟨σ7,H7,I7,n7⟩:=q7;exact again I7 n7
  |cont=>obtain⟨σ7,H7,I7,n7⟩:=q7;exact again I7 n7
  |brk=>obtain⟨σ7,H7,I7,q7⟩:=q7;exact⟨σ7,H7,I7.unpinned,q7⟩
  |ret v=>obtain⟨x7,σ7,H7,I7,r7,q7⟩:=q7;exact⟨x7,σ7,H7,I7.unpinned,r7,q7⟩
end
end L2
namespace L2
open PySem PySem.Spec PyProof.Rows
abbrev R2:=V->V->Hp->VK->Prop
def OpR(X:Cx)(f:Value->Value->Sem Value)(r:R2):Prop:=
 ∀(pins:List (Addr×Obj))(s:Shared)(σ:St)(H:Hp)(x y:V)(v u:Value)(Q:VK),Inv X pins σ H s->RelV x v->RelV y u->r x y H Q ->
  wpAny (model X.prog X.w) X.A (f v u) (EP X pins σ Q) X.xe s
def UnR(X:Cx)(f:Value->Sem Value)(r:V->Hp->VK->Prop):Prop:=
 ∀(pins:List (Addr×Obj))(s:Shared)(σ:St)(H:Hp)(x:V)(v:Value)(Q:VK),Inv X pins σ H s->RelV x v->r x H Q ->
  wpAny (model X.prog X.w) X.A (f v) (EP X pins σ Q) X.xe s
def zDM(X:Cx)(f:Value)(r:List V->Hp->VK->Prop):Prop:=
 ∀(pins:List (Addr×Obj))(s:Shared)(σ:St)(H:Hp)(xs:List V)(us:List Value)(Q:VK),Inv X pins σ H s->Vals xs us->r xs H Q ->
  wpAny (model X.prog X.w) X.A (call f us) (EP X pins σ Q) X.xe s
def TruR(X:Cx)(r:V->Hp->(Bool->Hp->Prop)->Prop):Prop:=
 ∀(pins:List (Addr×Obj))(s:Shared)(σ:St)(H:Hp)(x:V)(v:Value)(Q:Bool->Hp->Prop),Inv X pins σ H s->RelV x v->r x H Q ->
  wpAny (model X.prog X.w) X.A (truthy v) (TP X pins σ Q) X.xe s
noncomputable def tOp(r:R2)(ta tb:TE):TE:=fun σ H Q=>ta σ H fun x H1=>tb σ H1 fun y H2=>r x y H2 Q
noncomputable def tUn(r:V->Hp->VK->Prop)(ta:TE):TE:=fun σ H Q=>ta σ H fun x H1=>r x H1 Q
noncomputable def rI(C:Int->Int->Prop)(g:Int->Int->V):R2:=fun x y H Q=>∃i j,x=.int i/\y=.int j/\C i j/\Q (g i j) H
noncomputable def rI0(g:Int->Int->V):R2:=fun x y H Q=>∃i j,x=.int i/\y=.int j/\Q (g i j) H
def rU(g:Int->V):V->Hp->VK->Prop:=fun x H Q=>∃i,x=.int i/\Q (g i) H
section
variable{X:Cx}{a b c:Expr}{ta tb tc:TE}{pos:Pos}
theorem binT(ha:PE X a ta)(hb:PE X b tb){pins:List (Addr×Obj)}{s:Shared}{σ:St}{H:Hp}{R:V->V->Hp->Prop}(I:Inv X pins σ H s)
  (h:ta σ H fun x H1=>tb σ H1 fun y H2=>R x y H2) {Q:Value->Shared->Prop} {f:Value->Value->Sem Value}
  (hf:∀v u s2 x y H2,Inv X pins σ H2 s2->RelV x v->RelV y u->R x y H2->wpAny (model X.prog X.w) X.A (f v u) Q X.xe s2) :
  wpAny (model X.prog X.w) X.A (eval a X.env) (fun v s₁=>wpAny (model X.prog X.w) X.A (eval b X.env) (fun u s₂=>wpAny (model X.prog X.w) X.A (f v u) Q X.xe s₂) X.xe s₁) X.xe s:=by
 refine thn (ha pins s σ H _ I h) fun v s1 z0=>?_
 obtain⟨x,H1,I1,r1,q1⟩:=z0;refine thn (hb pins s1 σ H1 _ I1 q1) fun u s2 z0=>?_
 obtain⟨y,H2,I2,r2,q2⟩:=z0;exact hf v u s2 x y H2 I2 r1 r2 q2
theorem zAK{op:Operator}{r:R2}(ho:OpR X (binaryOp op) r)(ha:PE X a ta)(hb:PE X b tb):PE X (.BinOp a op b pos) (tOp r ta tb):=by
 intro pins s σ H Q I h;exact wpAny_BinOp (binT ha hb I h fun v u s2 x y H2 I2 rx ry q=>ho pins s2 σ H2 x y v u Q I2 rx ry q)
theorem zU2{op:UnaryOp}{r:V->Hp->VK->Prop}(ho:UnR X (unaryOp op) r)(ha:PE X a ta):PE X (.UnaryOp op a pos) (tUn r ta):=by
 intro pins s σ H Q I h;exact UnaryOp_ (thn (ha pins s σ H _ I h) fun v s1 ⟨x,H1,I1,r1,q1⟩=>ho pins s1 σ H1 x v Q I1 r1 q1)
theorem opI{f:Value->Value->Sem Value}{C:Int->Int->Prop}{g:Int->Int->Int}
  (rule:∀(i j:Int)(t u:Tok)(s:Shared)(Q:Value->Shared->Prop)(E:Value->Shared->Prop),C i j->Q (.int (g i j) s.toks) { s with toks:=s.toks+1 }->wpAny (model X.prog X.w) X.A (f (.int i t) (.int j u)) Q E s) :
  OpR X f (rI C fun i j=>.int (g i j)):=by
 intro pins s σ H x y v u Q I rx ry h;obtain⟨i,j,rfl,rfl,hc,q⟩:=h;obtain⟨t,rfl⟩:=rx;obtain⟨t',rfl⟩:=ry;exact rule i j t t' s _ _ hc ⟨.int (g i j),H,I.tok _,⟨_,rfl⟩,q⟩
theorem opI0{f:Value->Value->Sem Value}{g:Int->Int->Int}
  (rule:∀(i j:Int)(t u:Tok)(s:Shared)(Q:Value->Shared->Prop)(E:Value->Shared->Prop),Q (.int (g i j) s.toks) { s with toks:=s.toks+1 }->wpAny (model X.prog X.w) X.A (f (.int i t) (.int j u)) Q E s) :
  OpR X f (rI0 fun i j=>.int (g i j)):=by
 intro pins s σ H x y v u Q I rx ry h;obtain⟨i,j,rfl,rfl,q⟩:=h;obtain⟨t,rfl⟩:=rx;obtain⟨t',rfl⟩:=ry;exact rule i j t t' s _ _ ⟨.int (g i j),H,I.tok _,⟨_,rfl⟩,q⟩
theorem opB0{f:Value->Value->Sem Value}{g:Int->Int->Bool}
  (rule:∀(i j:Int)(t u:Tok)(s:Shared)(Q:Value->Shared->Prop)(E:Value->Shared->Prop),Q (.bool (g i j)) s->wpAny (model X.prog X.w) X.A (f (.int i t) (.int j u)) Q E s) :
  OpR X f (rI0 fun i j=>.bl (g i j)):=by
 intro pins s σ H x y v u Q I rx ry h;obtain⟨i,j,rfl,rfl,q⟩:=h;obtain⟨t,rfl⟩:=rx;obtain⟨t',rfl⟩:=ry;exact rule i j t t' s _ _ ⟨.bl (g i j),H,I,rfl,q⟩
def CMul(i j:Int):Prop:=(-(2 ^ 64)<i/\i<2 ^ 64)\/(-(2 ^ 64)<j/\j<2 ^ 64)
theorem CMul.ok{i j:Int}(h:CMul i j):IntMulOk i j:=by
 rcases h with⟨h1,h2⟩|⟨h1,h2⟩
 ·exact .of_left (intBits_le_64 h1 h2)
 ·exact .of_right (intBits_le_64 h1 h2)
theorem zWF:OpR X (binaryOp .Add) (rI0 fun i j=>.int (i+j)):=opI0 fun _ _ _ _ _ _ _ q=>add_int q
theorem zWA:OpR X (binaryOp .Sub) (rI0 fun i j=>.int (i-j)):=opI0 fun _ _ _ _ _ _ _ q=>sub_int q
theorem zWC:OpR X (binaryOp .Mod) (rI (fun _ j=>0<j) fun i j=>.int (i%j)):=opI fun i j _ _ _ _ _ hc q=>by
 have h1:(0:Int)<j:=hc;exact mod_int' (by omega) (by rw[Int.fmod_eq_emod_of_nonneg i (by omega)];exact q)
theorem unI{f:Value->Sem Value}{g:Int->Int}
  (rule:∀(i:Int)(t:Tok)(s:Shared)(Q:Value->Shared->Prop)(E:Value->Shared->Prop),Q (.int (g i) s.toks) { s with toks:=s.toks+1 }->wpAny (model X.prog X.w) X.A (f (.int i t)) Q E s) :
  UnR X f (rU fun i=>.int (g i)):=by
 intro pins s σ H x v Q I rx h;obtain⟨i,rfl,q⟩:=h;obtain⟨t,rfl⟩:=rx;exact rule i t s _ _ ⟨.int (g i),H,I.tok _,⟨_,rfl⟩,q⟩
theorem zVF:UnR X (unaryOp .USub) (rU fun i=>.int (-i)):=unI fun _ _ _ _ _ q=>neg_int q
end
noncomputable def scal:V->V->Bool
 |.non,.non=>true | .non,.int _=>true | .int _,.non=>true | .non,.bl _=>true | .bl _,.non=>true | .non,.str _=>true | .str _,.non=>true
 |.int _,.int _=>true | .bl _,.bl _=>true | .str _,.str _=>true | .byt _,.byt _=>true
 |.int _,.str _=>true | .str _,.int _=>true | .bl _,.str _=>true | .str _,.bl _=>true
 |_,_=>false
def rEq:R2:=fun x y H Q=>scal x y=true/\Q (.bl (decide (x=y))) H
def rNe:R2:=fun x y H Q=>scal x y=true/\Q (.bl (!decide (x=y))) H
theorem zQ2{i j:Int}:decide (V.int i=V.int j)=(i==j):=by
 rw[qDo];simp
theorem dec_bl{i j:Bool}:decide (V.bl i=V.bl j)=(i==j):=by
 rw[qDo];simp
theorem zQ1{i j:Str}:decide (V.str i=V.str j)=(i==j):=by
 rw[qDo];simp
theorem zQ3{i j:Array UInt8}:decide (V.byt i=V.byt j)=(i.toList==j.toList):=by
 rw[qDo];cases i;cases j;simp
section
variable{X:Cx}{a b c:Expr}{ta tb tc:TE}{pos:Pos}
theorem fin_bl{pins:List (Addr×Obj)}{σ:St}{H:Hp}{s:Shared}{Q:VK}{k k':Bool}(I:Inv X pins σ H s)(q:Q (.bl k) H)(e:k=k'):EP X pins σ Q (.bool k') s:=by
 subst e;exact⟨.bl k,H,I,rfl,q⟩
theorem zXZ:OpR X (compareOp .Eq) rEq:=by
 intro pins s σ H x y v u Q I rx ry h;obtain⟨hs,q⟩:=h;cases x with
 |non=>
  cases rx;cases y with
  |non=>cases ry;exact qGl (fin_bl I q (by simp))
  |bl j=>cases ry;exact qGm (fin_bl I q (by simp))
  |int j=>obtain⟨t',rfl⟩:=ry;exact qGv (fin_bl I q (by simp))
  |str j=>obtain⟨t',rfl⟩:=ry;exact qGw (fin_bl I q (by simp))
  |_=>exact absurd (show false=true from hs) qAj
 |bl i=>
  cases rx;cases y with
  |non=>cases ry;exact qGn (fin_bl I q (by simp))
  |bl j=>cases ry;exact eq_bool (fin_bl I q dec_bl)
  |str j=>obtain⟨t',rfl⟩:=ry;exact qGo (fin_bl I q (by simp))
  |_=>exact absurd (show false=true from hs) qAj
 |int i=>
  obtain⟨t,rfl⟩:=rx;cases y with
  |non=>cases ry;exact qGx (fin_bl I q (by simp))
  |int j=>obtain⟨t',rfl⟩:=ry;exact eq_int (fin_bl I q zQ2)
  |str j=>obtain⟨t',rfl⟩:=ry;exact qGy (fin_bl I q (by simp))
  |_=>exact absurd (show false=true from hs) qAj
 |str i=>
  obtain⟨t,rfl⟩:=rx;cases y with
  |non=>cases ry;exact qGz (fin_bl I q (by simp))
  |bl j=>cases ry;exact qGp (fin_bl I q (by simp))
  |int j=>obtain⟨t',rfl⟩:=ry;exact qH0 (fin_bl I q (by simp))
  |str j=>obtain⟨t',rfl⟩:=ry;exact eq_str (fin_bl I q zQ1)
  |_=>exact absurd (show false=true from hs) qAj
 |byt i=>
  obtain⟨t,rfl⟩:=rx;cases y with
  |byt j=>obtain⟨t',rfl⟩:=ry;exact PySem.W.eq_bytes (fin_bl I q zQ3)
  |_=>exact absurd (show false=true from hs) qAj
 |_=>cases y<;>exact absurd (show false=true from hs) qAj
theorem zXW:OpR X (compareOp .NotEq) rNe:=by
 intro pins s σ H x y v u Q I rx ry h;obtain⟨hs,q⟩:=h;cases x with
 |non=>
  cases rx;cases y with
  |non=>cases ry;exact qGq (fin_bl I q (by simp))
  |bl j=>cases ry;exact qGr (fin_bl I q (by simp))
  |int j=>obtain⟨t',rfl⟩:=ry;exact qH1 (fin_bl I q (by simp))
  |str j=>obtain⟨t',rfl⟩:=ry;exact qH2 (fin_bl I q (by simp))
  |_=>exact absurd (show false=true from hs) qAj
 |bl i=>
  cases rx;cases y with
  |non=>cases ry;exact qGs (fin_bl I q (by simp))
  |bl j=>cases ry;exact ne_bool (fin_bl I q (congrArg not dec_bl))
  |str j=>obtain⟨t',rfl⟩:=ry;exact qGt (fin_bl I q (by simp))
  |_=>exact absurd (show false=true from hs) qAj
 |int i=>
  obtain⟨t,rfl⟩:=rx;cases y with
  |non=>cases ry;exact qH3 (fin_bl I q (by simp))
  |int j=>obtain⟨t',rfl⟩:=ry;exact ne_int (fin_bl I q (congrArg not zQ2))
  |str j=>obtain⟨t',rfl⟩:=ry;exact qH4 (fin_bl I q (by simp))
  |_=>exact absurd (show false=true from hs) qAj
 |str i=>
  obtain⟨t,rfl⟩:=rx;cases y with
  |non=>cases ry;exact qH5 (fin_bl I q (by simp))
  |bl j=>cases ry;exact qGu (fin_bl I q (by simp))
  |int j=>obtain⟨t',rfl⟩:=ry;exact qH6 (fin_bl I q (by simp))
  |str j=>obtain⟨t',rfl⟩:=ry;exact ne_str (fin_bl I q (congrArg not zQ1))
  |_=>exact absurd (show false=true from hs) qAj
 |byt i=>
  obtain⟨t,rfl⟩:=rx;cases y with
  |byt j=>obtain⟨t',rfl⟩:=ry;exact PySem.W.ne_bytes (fin_bl I q (congrArg not zQ3))
  |_=>exact absurd (show false=true from hs) qAj
 |_=>cases y<;>exact absurd (show false=true from hs) qAj
theorem zXX:OpR X (compareOp .Lt) (rI0 fun i j=>.bl (decide (i<j))):=opB0 fun _ _ _ _ _ _ _ q=>lt_int q
theorem zXY:OpR X (compareOp .Gt) (rI0 fun i j=>.bl (decide (j<i))):=opB0 fun _ _ _ _ _ _ _ q=>gt_int q
theorem zP2:OpR X (compareOp .In) (fun x y H Q=>∃i j,x=.str i/\y=.str j/\Q (.bl (!(Builtin.Str.occurrences j i 0 j.length 1).isEmpty)) H):=by
 intro pins s σ H x y v u Q I rx ry h;obtain⟨i,j,rfl,rfl,q⟩:=h;obtain⟨t,rfl⟩:=rx;obtain⟨t',rfl⟩:=ry;exact in_str (fin_bl I q rfl)
theorem zC3(b:Expr){op:CmpOp}(h:op≠.In:=by decide)(h2:op≠.NotIn:=by decide):behindInMarks op b=false:=by
 have e1:(op==CmpOp.In)=false:=by cases op<;>first|rfl|exact absurd rfl h
 have e2:(op==CmpOp.NotIn)=false:=by cases op<;>first|rfl|exact absurd rfl h2
 cases b<;>simp[behindInMarks,e1,e2]
theorem zOX{op:CmpOp}{r:R2}(ho:OpR X (compareOp op) r)(ha:PE X a ta)(hb:PE X b tb)(hm:behindInMarks op b=false):PE X (.Compare a [op] [b] pos) (tOp r ta tb):=by
 intro pins s σ H Q I h;exact wpAny_Compare1 (binT ha hb I h fun v u s2 x y H2 I2 rx ry q=>ho pins s2 σ H2 x y v u Q I2 rx ry q) hm
def TruV(K:qA0)(x:V)(H:Hp)(k:Bool):Prop:=
 match x with
 |.non=>k=false
 |.bl b=>k=b
 |.int i=>k=(i != 0)
 |.str y=>y.length<=sizeLine/\k=((y.length:Int) != 0)
 |.byt y=>y.size<=sizeLine/\k=((y.size:Int) != 0)
 |.ref p=>(∃xs,SqL K H p xs/\k = !xs.isEmpty)\/(∃xs,SqT K H p xs/\k = !xs.isEmpty)\/∃kvs,H p=some (.dK kvs)/\k = !kvs.isEmpty
 |_=>False
theorem zNO{κ:Type}{kvs:List (κ×V)}{vs:List (κ×Value)}(r:KV kvs vs):(!vs.isEmpty) = !kvs.isEmpty:=by
 cases r<;>rfl
theorem zHQ{xs:List V}{its:List Value}(r:Vals xs its):(!its.toArray.isEmpty) = !xs.isEmpty:=by
 cases r<;>simp
theorem zF5:(sizeLine:Nat)<2 ^ 63:=by rw[sizeLine_eq];decide
theorem zVH:TruR X (fun x H Q=>∃k,TruV X.K x H k/\Q k H):=by
 intro pins s σ H x v Q I rx h;obtain⟨k,e,q⟩:=h;have hl:=zF5;have hs:sizeLine=16777216:=sizeLine_eq;cases x with
 |non=>
  cases rx;have e':k=false:=e;subst e';exact truthy_none ⟨H,I,q⟩
 |bl b=>
  cases rx;have e':k=b:=e;subst e';exact wpAny_truthy_bool ⟨H,I,q⟩
 |int i=>
  obtain⟨t,rfl⟩:=rx;have e':k=(i != 0):=e;subst e';exact PySem.P.truthy_int ⟨H,I,q⟩
 |str y=>
  obtain⟨t,rfl⟩:=rx;obtain⟨hy,e'⟩:y.length<=sizeLine/\k=((y.length:Int) != 0):=e;subst e';exact PySem.P.truthy_str (by omega) ⟨H,I.tok _,q⟩
 |byt y=>
  obtain⟨t,rfl⟩:=rx;obtain⟨hy,e'⟩:y.size<=sizeLine/\k=((y.size:Int) != 0):=e;subst e';exact PySem.W.truthy_bytes (by omega) ⟨H,I.tok _,q⟩
 |ref p=>
  cases rx;have e':(∃xs,SqL X.K H p xs/\k = !xs.isEmpty)\/(∃xs,SqT X.K H p xs/\k = !xs.isEmpty)\/∃kvs,H p=some (.dK kvs)/\k = !kvs.isEmpty:=e
  rcases e' with⟨xs,hx,e'⟩|⟨xs,hx,e'⟩|⟨kvs,hx,e'⟩
  ·subst e';obtain⟨its,r,pl,hz⟩:=I.list hx;have hlen:=r.length;exact wpAny_truthy_list pl.isList (by simp only[qAk];omega) ⟨H,I.tok _,by rw[zHQ r];exact q⟩
  ·subst e';obtain⟨its,r,pl,hz⟩:=I.tuple hx;have hlen:=r.length;exact truthy_tuple pl (by simp only[qAk];omega) ⟨H,I.tok _,by rw[zHQ r];exact q⟩
  ·subst e';obtain⟨hz,hS,vs,r,m⟩:kvs.length<=sizeLine/\(p==sysModules)=false/\∃vs,KV kvs vs/\s.heap.DictOf (zLD X.prog X.w) p vs:=I.hok p _ hx;have hlen:kvs.length=vs.length:=Paired.length r;exact wpAny_truthy_dict hS m (by omega) ⟨H,I.tok _,by rw[zNO r];exact q⟩
 |_=>exact(show False from e).elim
theorem zNH:OpR X (binaryOp .Add) (fun x y H Q=>∃i j,x=.str i/\y=.str j/\i.length+j.length<=sizeLine/\Q (.str (i++j)) H):=by
 intro pins s σ H x y v u Q I rx ry h;obtain⟨i,j,rfl,rfl,hz,q⟩:=h;obtain⟨t,rfl⟩:=rx;obtain⟨t',rfl⟩:=ry;exact add_str (fun t' tk=>⟨.str (i++j),H,I.tok _,⟨_,rfl⟩,q⟩) hz
theorem zE4{x:V}{us:List Value}(r:Vals [x] us):∃u,us=[u]/\RelV x u:=by
 cases r with
 |cons r1 r2=>cases r2;exact⟨_,rfl,r1⟩
theorem zVC{x y:V}{us:List Value}(r:Vals [x,y] us):∃u w',us=[u,w']/\RelV x u/\RelV y w':=by
 cases r with
 |cons r1 r2=>
  cases r2 with
  |cons r3 r4=>cases r4;exact⟨_,_,rfl,r1,r3⟩
theorem zQB(hc:X.calm=true):zDM X (.builtin "max") (fun xs H Q=>∃i j,xs=[.int i,.int j]/\Q (.int (if j>i then j else i)) H):=by
 intro pins s σ H xs us Q I r h;obtain⟨i,j,rfl,q⟩:=h;obtain⟨u,w',rfl,⟨t,rfl⟩,⟨t',rfl⟩⟩:=zVC r;refine max_two_ints (I.ok.hd hc) fun h' tk k=>⟨_,H,I.kept k,?_,q⟩
 by_cases hj:j>i
 ·rw[if_pos hj,if_pos hj];exact⟨_,rfl⟩
 ·rw[if_neg hj,if_neg hj];exact⟨_,rfl⟩
theorem zQA(hc:X.calm=true):zDM X (.builtin "min") (fun xs H Q=>∃i j,xs=[.int i,.int j]/\Q (.int (if j<i then j else i)) H):=by
 intro pins s σ H xs us Q I r h;obtain⟨i,j,rfl,q⟩:=h;obtain⟨u,w',rfl,⟨t,rfl⟩,⟨t',rfl⟩⟩:=zVC r;refine min_two_ints (I.ok.hd hc) fun h' tk k=>⟨_,H,I.kept k,?_,q⟩
 by_cases hj:j<i
 ·rw[if_pos hj,if_pos hj];exact⟨_,rfl⟩
 ·rw[if_neg hj,if_neg hj];exact⟨_,rfl⟩
end
end L2
namespace L2
open PySem PySem.Spec PyProof.Rows
structure ObjM(h:Heap)(x dx C:Addr)(mA:Str->Option Value):Prop where
 obj:h.get? x=some (qB5 C dx)
 ns:h.Ns1 dx mA
 ne:dx≠x
theorem zPC{h:Heap}{dx:Addr}{mA:Str->Option Value}(n:h.Ns1 dx mA):∃od,h.get? dx=some od/\∀name,qE2 name od=some (mA name):=by
 obtain⟨o,es,ep,ho,hd,hk,_,hm⟩:=n;refine⟨o,ho,fun name=>?_⟩;have e:=hm name;unfold nsFind findBy at e;rw[<- Array.find?_toList]at e;unfold qE2;rw[hd];dsimp only
 split
 ·rename_i y q
  rw[q]at e;exact congrArg some e
 ·rename_i q
  rw[q]at e;have a:es.toList.any (·.refKey)=false:=by
   rw[List.any_eq_false];intro y hy;obtain⟨z,t,hkey⟩:=hk y (Array.mem_toList_iff.mp hy);simp[DictEntry.refKey,hkey]
  have a':¬es.toList.any (·.refKey)=true:=by rw[a];exact qAj
  rw[if_neg a'];exact congrArg some e
theorem ObjM.look{h:Heap}{x dx C:Addr}{mA:Str->Option Value}(I:ObjM h x dx C mA):∃od,PySem.W.InstAt h x (qB5 C dx) C (some od)/\∀name,qE2 name od=some (mA name):=
 let⟨od,ho,hl⟩:=zPC I.ns
 ⟨od,⟨I.obj,rfl,rfl,ho⟩,hl⟩
section
variable{prog:Program}{w:World}{A:Around}{E:Value->Shared->Prop}{s:Shared}{K:qA0}{x dx C f:Addr}{mA:Str->Option Value}{name:Str}{v:Value}
theorem zUP{expr:Bool}{Q:Value->Shared->Prop}(X:K.In s.heap)(I:ObjM s.heap x dx C mA)(hg:qBt K C name=true)(hh:qBb K C=true)
  (ha:qA5 K (.ref C) name=some none) (hv:mA name=some v) (hv':qDk v=true) (h:Q v { s with toks:=s.toks+1 }) :
  wpAny (model prog w) A (getAttr (.ref x) name expr) Q E s:=by
 obtain⟨od,J,hl⟩:=I.look;exact PySem.W.get_value X J (qDp hg).1 (PySem.W.findObj_own hh ha rfl (by rw[hl,hv])) hv' h
theorem zRU{pl:Sem Bool}{Q:Value×List Value->Shared->Prop}(X:K.In s.heap)(I:ObjM s.heap x dx C mA)(hg:qBt K C name=true)
  (hf:qA5 K (.ref C) name=some (some (.ref f))) (ht:qB8 K (.ref f)=true) (hv:mA name=none) (h:Q (.ref f,[.ref x]) s) :
  wpAny (model prog w) A (getMethod (.ref x) name pl) Q E s:=by
 obtain⟨od,J,hl⟩:=I.look;exact PySem.W.method_fn X J (qDp hg).1 (qDp hg).2 hf (beq_iff_eq.mp ht) (by show(qE2 name od).map (·.isSome)=some false;rw[hl,hv];rfl) h
theorem zTT{ns:List Str}{Q:Unit->Shared->Prop}(X:K.In s.heap)(I:ObjM s.heap x dx C mA)
  (hs:qA5 K (.ref C) "__setattr__" = some (some (.builtin "object.__setattr__"))) (hp:qCa K C=true) (ht:qDa K C name=some none) (hh:qBb K C=true)
  (hw:qG2 mA ns) (hsz:ns.length<=sizeLine)
  (h:∀h',ObjM h' x dx C (fun y=>if y=name then some v else mA y)->Heap.SameBut dx s.heap h'->Q () { s with heap:=h',toks:=s.toks+2 }) :
  wpAny (model prog w) A (setAttr (.ref x) name v) Q E s:=by
 obtain⟨od,J,hl⟩:=I.look;refine PySem.W.set_plain X J hs (PySem.W.osa_open (s:={ s with toks:=s.toks+1 }) (r:=none) X J hp ht fun b=>?_);obtain⟨cd,hc,hd'⟩:=PySem.W.any_some hh;have hx:s.heap.get? x=some ⟨.ref C,some dx,.plain,#[]⟩:=I.obj;refine wpAny_bind (wpAny_pure (wpAny_bind (wpAny_bind (wpAny_loadPart hx (wpAny_bind (qHf (s:={ s with toks:=s.toks+1 }) (PySem.W.looks_clsIn X hc) ?_))))));rw[hd'];refine wpAny_pure (a:=some dx) (wpAny_bind (wpAny_pure (wpAny_bind ?_)));refine wpAny_nsSet1 (s:={ s with toks:=s.toks+1 }) I.ns fun h' hn2 hs2=>?_
 obtain⟨oD,esD,epD,hoD,hdD,hcD⟩:=hn2.count (qHi name v hw);refine wpAny_bind (wpAny_lookBehind hoD (by rw[hdD];exact pastItsLine_dict (qAr hcD (by rw[qAp];omega))) ?_);exact wpAny_pure (h _ ⟨(hs2.2 _ (qC2 I.ne)).trans I.obj,hn2,I.ne⟩ hs2)
theorem zRG{R:Result->Shared->Prop}{vs:List Value}{kw:List (Str×Value)}(X:K.In s.heap)(hm:qBv K C=true)
  (hi:qA5 K (.ref C) "__init__" = some (some (.ref f))) (hf:qBg K (.ref f)=some (.type "function"))
  (h:codeAny (model prog w) (A.under (.builtin "type.__call__" ⟨.ref C::vs,kw⟩)) (.call (.ref f) ⟨.ref (s.heap.objs.size+1)::vs,kw⟩) (qG7 (s.heap.objs.size+1) R)
   { s with heap:=(s.heap.push qAz).push (qB5 C s.heap.objs.size) }) :
  codeAny (model prog w) A (.call (.ref C) ⟨vs,kw⟩) R s:=by
 obtain⟨hh,g,d,t,os⟩:=s;exact qFt (qEn X hm) (qD7 X hi) (fun self=>PySem.W.bind_fn X self hf) (.inl rfl) h
theorem zP9{R:Result->Shared->Prop}(X:K.In s.heap)(hm:qBv K C=true)
  (hi:qA5 K (.ref C) "__init__" = some (some (.builtin "object.__init__")))
  (hb:∀self,qD1 (model prog w) s.heap (bindSpecial (.builtin "object.__init__") self) (.builtin "object.__init__",[self]))
  (h:codeAny (model prog w) (A.under (.builtin "type.__call__" ⟨[.ref C],[]⟩)) (.call (.builtin "object.__init__") ⟨[.ref (s.heap.objs.size+1)],[]⟩) (qG7 (s.heap.objs.size+1) R)
   { s with heap:=(s.heap.push qAz).push (qB5 C s.heap.objs.size) }) :
  codeAny (model prog w) A (.call (.ref C) ⟨[],[]⟩) R s:=by
 obtain⟨hh,g,d,t,os⟩:=s;exact qFt (qEn X hm) (qD7 X hi) hb (.inr ⟨rfl,rfl⟩) h
end
noncomputable def putF(f:Str)(v:V):List (Str×V)->List (Str×V)
 |[]=>[(f,v)]
 |(g,x)::r=>if g=f then(g,v)::r else(g,x)::putF f v r
theorem zGI(f g:Str)(v:V):∀fs:List (Str×V),(putF f v fs).lookup g=if g=f then some v else fs.lookup g
 |[]=>by
  show qB6 g [(f,v)]=_
  by_cases h:g=f
  ·have hb:(g==f)=true:=beq_iff_eq.mpr h;simp only[qB6,hb,if_pos h]
  ·have hb:(g==f)=false:=beq_eq_false_iff_ne.mpr h;simp only[qB6,hb,if_neg h]
 |(k,x)::r=>by
  have ih:=zGI f g v r;rw[show putF f v ((k,x)::r)=(if k=f then(k,v)::r else(k,x)::putF f v r) from rfl]
  by_cases hk:k=f
  ·rw[if_pos hk]
   by_cases h:g=k
   ·have hb:(g==k)=true:=beq_iff_eq.mpr h;simp only[qB6,hb,if_pos (h.trans hk)]
   ·have hb:(g==k)=false:=beq_eq_false_iff_ne.mpr h;simp only[qB6,hb,if_neg (fun e:g=f=>h (e.trans hk.symm))]
  ·rw[if_neg hk]
   by_cases h:g=k
   ·have hb:(g==k)=true:=beq_iff_eq.mpr h;simp only[qB6,hb,if_neg (fun e:g=f=>hk (h.symm.trans e))]
   ·have hb:(g==k)=false:=beq_eq_false_iff_ne.mpr h;simp only[qB6,hb];exact ih
theorem zGK(f:Str)(v:V):∀fs:List (Str×V),f∈(putF f v fs).map (·.1)/\∀g,g∈fs.map (·.1)->g∈(putF f v fs).map (·.1)
 |[]=>⟨by simp[putF],fun g h=>by simp at h⟩
 |(k,x)::r=>by
  obtain⟨i1,i2⟩:=zGK f v r;rw[show putF f v ((k,x)::r)=(if k=f then(k,v)::r else(k,x)::putF f v r) from rfl]
  by_cases hk:k=f
  ·rw[if_pos hk];subst hk;exact⟨by simp,fun g h=>by simpa using h⟩
  ·rw[if_neg hk];refine⟨?_,fun g h=>?_⟩
   ·rw[qAu];exact qAo _ i1
   ·rw[qAu]at h ⊢
    rcases qA7.mp h with e|e
    ·exact qA7.mpr (.inl e)
    ·exact qAo _ (i2 g e)
theorem zGJ(f:Str)(v:V):∀fs:List (Str×V),(putF f v fs).length<=fs.length+1
 |[]=>by simp[putF]
 |(k,x)::r=>by
  have ih:=zGJ f v r;rw[show putF f v ((k,x)::r)=(if k=f then(k,v)::r else(k,x)::putF f v r) from rfl]
  by_cases hk:k=f
  ·rw[if_pos hk,qAp,qAp];omega
  ·rw[if_neg hk,qAp,qAp];omega
theorem RelO.some_of{v:V}{o:Option Value}(r:RelO (some v) o):∃u,o=some u/\RelV v u:=by
 cases o with
 |none=>exact(show False from r).elim
 |some u=>exact⟨u,rfl,r⟩
theorem RelO.none_of{o:Option Value}(r:RelO none o):o=none:=by
 cases o with
 |none=>rfl
 |some u=>exact(show False from r).elim
theorem zPP{v:V}{u:Value}(r:RelV v u):qDk u=true:=by
 cases v with
 |non=>cases(show u=Value.none from r);rfl
 |bl b=>cases(show u=Value.bool b from r);rfl
 |int i=>obtain⟨t,e⟩:=(show ∃t,u=Value.int i t from r);cases e;rfl
 |str x=>obtain⟨t,e⟩:=(show ∃t,u=Value.str x t from r);cases e;rfl
 |byt b=>obtain⟨t,e⟩:=(show ∃t,u=Value.bytes b t from r);cases e;rfl
 |flt b=>obtain⟨t,e⟩:=(show ∃t,u=Value.float b t from r);cases e;rfl
 |ref a=>cases(show u=Value.ref a from r);rfl
 |ty n=>cases(show u=Value.type n from r);rfl
section
variable{P:Program}{w:World}{H H':Hp}{h h':Heap}{a C dx:Addr}{fs fs':List (Str×V)}
theorem zIQ(hok:HOk P w H h)(e:H a=some (.ins C dx fs)):∃mA,ObjM h a dx C mA/\(∀f,RelO (fs.lookup f) (mA f))/\qG2 mA (fs.map (·.1))/\fs.length<=1000/\H dx=some (.own a):=by
 obtain⟨d,z,ne,ob,mA,n,r,q⟩:=(show ObjOk P w H h a (.ins C dx fs) from hok a _ e)
 exact⟨mA,⟨ob,n,ne⟩,r,q,z,d⟩
end
structure Cls(K:qA0)(C:Addr):Prop where
 pg:qBt K C Str.empty=true
 hd:qBb K C=true
 po:qCa K C=true
 sa:qA5 K (.ref C) "__setattr__" = some (some (.builtin "object.__setattr__"))
theorem Cls.get{K:qA0}{C:Addr}(c:Cls K C)(f:Str):qBt K C f=true:=c.pg
def NoAttr(K:qA0)(C:Addr)(f:Str):Prop:=qA5 K (.ref C) f=some none
theorem NoAttr.taker{K:qA0}{C:Addr}{f:Str}(n:NoAttr K C f):qDa K C f=some none:=by
 unfold qDa;rw[show qA5 K (.ref C) f=some none from n];rfl
structure Meth(K:qA0)(C:Addr)(m:Str)(f:Addr):Prop where
 at_:qA5 K (.ref C) m=some (some (.ref f))
 fn:qB8 K (.ref f)=true
 kp:qAd K (.ref f)=true
section
variable{X:Cx}{pins:List (Addr×Obj)}{σ:St}{H:Hp}{s:Shared}{a C dx:Addr}{fs:List (Str×V)}{f:Str}{v:V}{A:Around}{E:Value->Shared->Prop}
theorem zNQ{b:Bool}{Q:Value->Shared->Prop}(I:Inv X pins σ H s)(e:H a=some (.ins C dx fs))(c:Cls X.K C)(n:NoAttr X.K C f)(l:fs.lookup f=some v)
  (h:∀u s',Inv X pins σ H s'->RelV v u->Q u s'):wpAny (model X.prog X.w) A (getAttr (.ref a) f b) Q E s:=by
 obtain⟨mA,O,r,_,_,_⟩:=zIQ I.hok e;obtain⟨u,hu,ru⟩:=RelO.some_of (v:=v) (o:=mA f) (by rw[<- l];exact r f);exact zUP I.kIn O (c.get f) c.hd n hu (zPP ru) (h u _ (I.tok _) ru)
theorem zHR{m:Str}{g:Addr}{pl:Sem Bool}{Q:Value×List Value->Shared->Prop}(I:Inv X pins σ H s)(e:H a=some (.ins C dx fs))(c:Cls X.K C)(k:Meth X.K C m g)(l:fs.lookup m=none)
  (h:Q (.ref g,[.ref a]) s):wpAny (model X.prog X.w) A (getMethod (.ref a) m pl) Q E s:=by
 obtain⟨mA,O,r,_,_,_⟩:=zIQ I.hok e;have hn:mA m=none:=RelO.none_of (by rw[<- l];exact r m);exact zRU I.kIn O (c.get m) k.at_ k.fn hn h
theorem zN9{y:V}{u:Value}{Q:Unit->Shared->Prop}(I:Inv X pins σ H s)(e:H a=some (.ins C dx fs))(c:Cls X.K C)(n:NoAttr X.K C f)(hl:fs.length<1000)(ry:RelV y u)
  (h:∀s',Inv X pins σ (upd H a (.ins C dx (putF f y fs))) s'->Q () s'):wpAny (model X.prog X.w) A (setAttr (.ref a) f u) Q E s:=by
 obtain⟨mA,O,r,wi,_,ho⟩:=zIQ I.hok e;have hz:(fs.map (·.1)).length<=sizeLine:=by rw[qAq,sizeLine_eq];omega
 refine zTT I.kIn O c.sa c.po n.taker c.hd wi hz fun h' O' sb=>h _ ?_
 have hd:∃o,h'.get? dx=some o:=let⟨o,_,_,e',_⟩:=O'.ns;⟨o,e'⟩
 refine I.write (x:=a) (e:=dx) (by rw[e];exact qDn) (.inr ho) (fun b q hb z=>(sb.2 b hb).trans z) hd ?_;refine⟨by rw[zA6 O.ne];exact ho,?_,O.ne,O'.obj,_,O'.ns,fun g=>?_,fun g hg=>?_⟩
 ·have:=zGJ f y fs;omega
 ·show RelO ((putF f y fs).lookup g) (if g=f then some u else mA g);rw[zGI]
  by_cases q:g=f
  ·rw[if_pos q,if_pos q];exact ry
  ·rw[if_neg q,if_neg q];exact r g
 ·by_cases q:g=f
  ·rw[q];exact(zGK f y fs).1
  ·refine(zGK f y fs).2 g (wi g fun z=>hg ?_)
   show(if g=f then some u else mA g)=none
   rw[if_neg q];exact z
theorem Inv.made(I:Inv X pins σ H s):Inv X pins σ (upd (upd H s.heap.objs.size (.own (s.heap.objs.size+1))) (s.heap.objs.size+1) (.ins C s.heap.objs.size []))
  { s with heap:=(s.heap.push qAz).push (qB5 C s.heap.objs.size) }:=by
 have e1:(s.heap.push qAz).get? s.heap.objs.size=some qAz:=Heap.get?_push_size s.heap rfl;have e2:((s.heap.push qAz).push (qB5 C s.heap.objs.size)).get? (s.heap.objs.size+1)=some (qB5 C s.heap.objs.size):=by
  have:=Heap.get?_push_size (s.heap.push qAz) (o:=qB5 C s.heap.objs.size) rfl
  rwa [Heap.size_push]at this
 have e3:(s.heap.push qAz).Ns s.heap.objs.size (fun _=>none):=⟨qAz,#[],_,e1,rfl,(fun e he=>absurd he (by simp)),fun _=>rfl⟩
 have I1:=I.laid (a:=s.heap.objs.size) (o:=.own (s.heap.objs.size+1)) (h':=s.heap.push qAz) (t':=s.toks) (fun b u q=>Heap.get?_push_of_some _ q) (qA4 _) ⟨_,e1⟩;refine I1.laid (a:=s.heap.objs.size+1) (o:=.ins C s.heap.objs.size []) (t':=s.toks) (fun b u q=>Heap.get?_push_of_some _ q) (qE0 (Heap.size_push _ _)) ?_;have ne:s.heap.objs.size≠s.heap.objs.size+1:=qAf (qBp _);refine⟨by rw[zA6 ne,zAD],qAi _,ne,e2,fun _=>none,(Heap.Ns1.of_empty e3).at fun o q=>Heap.get?_push_of_some _ q,fun _=>qDn,fun y hy=>absurd rfl hy⟩
theorem zV0{prog:Program}{w:World}{env:Env}{e:Expr}{f:Str}{pos:Pos}{s:Shared}{Q:Value->Shared->Prop}(hb:attributeBase e f env (eval e env)=eval e env)
  (h:wpAny (model prog w) A (eval e env) (fun o s₁=>wpAny (model prog w) A (getAttr o f true) Q E s₁) E s):wpAny (model prog w) A (eval (.Attribute e f pos) env) Q E s:=
 Attribute_any_ h (by rw[arm_eval_Attribute,hb])
end
noncomputable def tFld(K:qA0)(ta:TE)(f:Str):TE:=fun σ H Q=>ta σ H fun x H1=>∃a C dx fs v,x=.ref a/\H1 a=some (.ins C dx fs)/\Cls K C/\NoAttr K C f/\fs.lookup f=some v/\Q v H1
def sFld(K:qA0)(ta tv:TE)(f:Str):TS:=fun D σ H=>tv σ H fun y H1=>ta σ H1 fun x H2=>∃a C dx fs,x=.ref a/\H2 a=some (.ins C dx fs)/\Cls K C/\NoAttr K C f/\fs.length<1000 /\
 D.nx σ (upd H2 a (.ins C dx (putF f y fs)))
section
variable{X:Cx}{o e value:Expr}{f:Str}{pos pos' tpos:Pos}{ta tv:TE}
theorem zCR(he:PE X e ta)(hb:attributeBase e f X.env (eval e X.env)=eval e X.env):PE X (.Attribute e f pos) (tFld X.K ta f):=by
 intro pins s σ H Q I h;refine zV0 hb (thn (he pins s σ H _ I h) fun u s1 z0=>?_);obtain⟨x,H1,I1,rx,a,C,dx,fs,v,ex,ea,c,n,l,q⟩:=z0;subst ex;obtain rfl:u=Value.ref a:=rx;exact zNQ I1 ea c n l fun u' s2 I2 ru=>⟨v,H1,I2,ru,q⟩
theorem zMG(ha:PE X o ta)(hv:PE X value tv)(hs:swapsWith value (some (.Attribute o f pos')) pos.line X.env=pure false):PS X (.Assign [.Attribute o f pos'] value pos) (sFld X.K ta tv f):=by
 intro pins s σ H D I h;refine plainObj_wpAny_Assign_Attribute (thn (hv pins s σ H _ I h) fun u s1 ⟨y,H1,I1,ry,q⟩=>thn (ha pins s1 σ H1 _ I1 q) fun ov s2 ⟨x,H2,I2,rx,a,C,dx,fs,ex,ea,c,n,l,q2⟩=>?_) hs;subst ex;obtain rfl:ov=Value.ref a:=rx;exact zN9 I2 ea c n l ry fun s3 I3=>⟨σ,_,I3,q2⟩
end
section
variable{X:Cx}{pins:List (Addr×Obj)}{σ:St}{H:Hp}{s:Shared}{A:Around}{E:Value->Shared->Prop}{Q:Value->Shared->Prop}{c:Value}{b:Bool}
inductive TyOf(K:qA0)(H:Hp):V->Value->Prop where
 |non:TyOf K H .non (.type "NoneType")
 |bl (x:Bool):TyOf K H (.bl x) (.type "bool")
 |int (i:Int):TyOf K H (.int i) (.type "int")
 |str (x:Str):TyOf K H (.str x) (.type "str")
 |flt (x:UInt64):TyOf K H (.flt x) (.type "float")
 |lst {a:Addr} {xs:List V} (e:H a=some (.lst xs)):TyOf K H (.ref a) (.type "list")
 |frz {a:Addr} {o:Obj} {xs:List V} (e:H a=some (.frz o (.lst xs))):TyOf K H (.ref a) (.type "list")
 |tup {a:Addr} {xs:List V} (e:H a=some (.tup xs)):TyOf K H (.ref a) (.type "tuple")
 |dK {a:Addr} {kvs:List (Key×V)} (e:H a=some (.dK kvs)):TyOf K H (.ref a) (.type "dict")
 |dT {a:Addr} {kvs:List (List Key×V)} (e:H a=some (.dT kvs)):TyOf K H (.ref a) (.type "dict")
 |ins {a C dx:Addr} {fs:List (Str×V)} (e:H a=some (.ins C dx fs)) (cl:Cls K C) (ha:qA5 K (.ref C) "__class__" = some (some (.builtin "object.__class__")))
   (hn:qD2 K (.builtin "object.__class__") "__get__" = some (some (.builtin "getset_descriptor.__get__"))) (htk:qF1 K (.builtin "object.__class__")=some true)
   (hm:qC4 K C (.type "object")=some true):TyOf K H (.ref a) (.ref C)
theorem zPL{x:V}{u t:Value}(I:Inv X pins σ H s)(rx:RelV x u)(ty:TyOf X.K H x t)(e:qAb X.K t c=some b)(h:∀tk,Q (.bool b) { s with toks:=tk }) :
  wpAny (model X.prog X.w) A (call (.builtin "isinstance") [u,c]) Q E s:=by
 cases ty with
 |non=>cases(show u=Value.none from rx);exact qBn PySem.W.kitx_none I.kIn qDn e (fun z=>nomatch z) h
 |bl y=>cases(show u=Value.bool y from rx);exact qBn PySem.W.kitx_bool I.kIn qDn e (fun z=>nomatch z) h
 |int i=>obtain⟨t,q⟩:=(show ∃t,u=Value.int i t from rx);cases q;exact qBn PySem.W.kitx_int I.kIn qDn e (fun z=>nomatch z) h
 |str y=>obtain⟨t,q⟩:=(show ∃t,u=Value.str y t from rx);cases q;exact qBn PySem.W.kitx_str I.kIn qDn e (fun z=>nomatch z) h
 |flt y=>obtain⟨t,q⟩:=(show ∃t,u=Value.float y t from rx);cases q;exact qBn PySem.W.kitx_float I.kIn qDn e (fun z=>nomatch z) h
 |@lst a xs ea=>
  cases(show u=Value.ref a from rx)
  obtain⟨_,_,n,_,h1⟩:=(show ObjOk X.prog X.w H s.heap a (.lst xs) from I.hok a _ ea)
  exact qBn qFu I.kIn ⟨_,h1,rfl⟩ e (fun z=>nomatch z) h
 |@frz a ob xs ea=>
  cases(show u=Value.ref a from rx)
  obtain⟨_,_,_,n,_,h1⟩:=(show ObjOk X.prog X.w H s.heap a (.frz ob (.lst xs)) from I.hok a _ ea)
  exact qBn qFu I.kIn ⟨_,h1,rfl⟩ e (fun z=>nomatch z) h
 |@tup a xs ea=>
  cases(show u=Value.ref a from rx)
  obtain⟨_,_,_,p⟩:=(show ObjOk X.prog X.w H s.heap a (.tup xs) from I.hok a _ ea)
  obtain⟨o,h1,h2,_⟩:=p;exact qBn PySem.W.kitx_tuple I.kIn ⟨o,h1,h2⟩ e (fun z=>nomatch z) h
 |@dK a kvs ea=>
  cases(show u=Value.ref a from rx)
  obtain⟨_,_,vs,_,p⟩:=(show ObjOk X.prog X.w H s.heap a (.dK kvs) from I.hok a _ ea)
  obtain⟨o,es,ep,h1,h2,_⟩:=p;exact qBn qFv I.kIn ⟨o,h1,h2.1⟩ e (fun z=>nomatch z) h
 |@dT a kvs ea=>
  cases(show u=Value.ref a from rx)
  obtain⟨_,_,xs,_,o,es,ep,h1,h2,_⟩:=(show ObjOk X.prog X.w H s.heap a (.dT kvs) from I.hok a _ ea)
  exact qBn qFv I.kIn ⟨o,h1,h2.1⟩ e (fun z=>nomatch z) h
 |@ins a C dx fs ea cl ha hn htk hm=>
  cases(show u=Value.ref a from rx)
  obtain⟨mA,O,_⟩:=zIQ I.hok ea;obtain⟨od,J,_⟩:=O.look;exact qBn (PySem.W.kitx_own (cl.get _) cl.hd ha hn htk hm) I.kIn J e (fun z=>nomatch z) h
end
end L2
namespace L2
open PySem PySem.Spec PyProof.Rows
structure Room(k:Nat)(A:Around):Prop where
 hd:A.handled=none
 dp:A.depth+3*k+5<recursionLimit
 un:A.units+16*k+200<cLine
theorem Room.mono{j k:Nat}{A:Around}(r:Room k A)(h:j<=k):Room j A:=⟨r.hd,by have:=r.dp;omega,by have:=r.un;omega⟩
theorem Room.deeper{k:Nat}{A:Around}(r:Room (k+1) A)(env:Env):Room k (A.deeper env):=
 ⟨r.hd,by have:=r.dp;show A.depth+1+3*k+5<_;omega,by have:=r.un;show A.units+3+16*k+200<_;omega⟩
theorem zNK{A:Around}{C:Addr}{us:List Value}{kw:List (Str×Value)}:(A.under (.builtin "type.__call__" ⟨.ref C::us,kw⟩)).depth=A.depth+1:=by
 first|rfl|simp[Around.under,Code.weight,Code.isCreation,Code.isGuard,Code.isCaller,Code.frames,Code.isFrame,guardIds]
theorem zNJ{A:Around}{C:Addr}{us:List Value}{kw:List (Str×Value)}:(A.under (.builtin "type.__call__" ⟨.ref C::us,kw⟩)).units=A.units+1:=by
 first|rfl|simp[Around.under,Code.cUnits,Code.frames,Code.isFrame]
theorem Room.make{k:Nat}{A:Around}(r:Room (k+1) A)(C:Addr)(us:List Value)(kw:List (Str×Value)):Room k (A.under (.builtin "type.__call__" ⟨.ref C::us,kw⟩)):=
 ⟨r.hd,by have:=r.dp;rw[zNK];omega,by have:=r.un;rw[zNJ];omega⟩
theorem Room.depth{k:Nat}{A:Around}(r:Room k A):A.depth<recursionLimit:=by have:=r.dp;omega
theorem Room.units{k:Nat}{A:Around}(r:Room k A):A.units+64<cLine:=by have:=r.un;omega
noncomputable def tNil:TA:=fun _ H Q=>Q [] H
noncomputable def zEV(ta:TE)(tr:TA):TA:=fun σ H Q=>ta σ H fun x H1=>tr σ H1 fun xs H2=>Q (x::xs) H2
section
variable{X:Cx}{e:Expr}{es:List Expr}{te:TE}{t:TA}{pos:Pos}
theorem zA7:PA X [] tNil:=fun _ _ _ _ H Q I h=>Calls.spliced_nil ⟨[],H,I,.nil,h⟩
theorem zA1(ha:PE X e te)(hr:PA X es t)(hs:starEach (e::es) X.env=(false,eval e X.env)::starEach es X.env:=by rfl):PA X (e::es) (zEV te t):=by
 intro pos pins s σ H Q I h;rw[hs];show wpAny _ _ (spliced ((false,eval e X.env)::backTo pos (starEach es X.env))) _ _ s;refine Calls.spliced_cons (thn (ha pins s σ H _ I h) fun u s1 z0=>?_);obtain⟨x,H1,I1,r1,q1⟩:=z0;exact thn (hr pos pins s1 σ H1 _ I1 q1) fun us s2 ⟨xs,H2,I2,r2,q2⟩=>⟨x::xs,H2,I2,.cons r1 r2,q2⟩
def tTup(t:TA):TE:=fun σ H Q=>t σ H fun xs H1=>xs.length<=sizeLine/\∀p,H1 p=none->Q (.ref p) (upd H1 p (.tup xs))
def tLst(t:TA):TE:=fun σ H Q=>t σ H fun xs H1=>xs.length<=sizeLine/\∀p,H1 p=none->Q (.ref p) (upd H1 p (.lst xs))
theorem zCY{x1}(h:PA X es t):PE X (.Tuple es x1 pos) (tTup t):=by
 intro pins s σ H Q I hq;refine wpAny_Tuple_spliced (thn (h pos pins s σ H _ I hq) fun us s1 ⟨xs,H1,I1,r,z,q⟩=>⟨by rw[<- r.length];exact z,?_⟩);have hf:H1 s1.heap.objs.size=none:=I1.hok.fresh (qA4 _);refine⟨.ref s1.heap.objs.size,upd H1 s1.heap.objs.size (.tup xs),I1.laid (t':=s1.toks) (fun b u e=>Heap.get?_push_of_some _ e) (qA4 _) ?_,rfl,q _ hf⟩;exact⟨z,us,r,⟨_,Heap.get?_push_size _ rfl,rfl,_,rfl⟩⟩
theorem zGE(h:PA X es t):PE X (.List es pos) (tLst t):=by
 intro pins s σ H Q I hq;refine wpAny_List_spliced (thn (h pos pins s σ H _ I hq) fun us s1 ⟨xs,H1,I1,r,z,q⟩=>⟨by rw[<- r.length];exact z,?_⟩);have hf:H1 s1.heap.objs.size=none:=I1.hok.fresh (qA4 _);refine⟨.ref s1.heap.objs.size,upd H1 s1.heap.objs.size (.lst xs),I1.laid (t':=s1.toks) (fun b u e=>Heap.get?_push_of_some _ e) (qA4 _) ?_,rfl,q _ hf⟩;exact⟨z,us,0,r,Heap.get?_push_size _ rfl⟩
end
abbrev Sp:=List V->Hp->VK->XK->Prop
abbrev CXT:=List Env->Hp->Shared->XK->Value->Shared->Prop
structure Env0(P:Program)(w:World)(K:qA0)(mg:Str->Option Value)(base:Heap)(A:Around)(outer:List Env)(s:Shared)(H:Hp):Prop where
 frames:A.frames=some outer
 mod:Mod K mg base
 bs:∀b o,base.get? b=some o->s.heap.get? b=some o/\H b=none
 bsz:base.objs.size<=s.heap.objs.size
 funs:s.heap.FunFrames base outer
 frf:∀b∈frs outer,H b=none
 hok:HOk P w H s.heap
 bare:AllBare s.gens
def CE(outer:List Env)(P:Program)(w:World)(H:Hp)(s:Shared)(Q:VK)(u:Value)(s':Shared):Prop:=
 ∃v H',s'.os=s.os/\AllBare s'.gens/\Un (frs outer) [] H H' s.heap s'.heap/\HOk P w H' s'.heap/\RelV v u/\Q v H'
def CR(CX:CXT)(outer:List Env)(P:Program)(w:World)(H:Hp)(s:Shared)(Q:VK)(E:XK)(r:Result)(s':Shared):Prop:=
 match r with
 |.ok (.ret u)=>CE outer P w H s Q u s'
 |.ok _=>False
 |.error e=>CX outer H s E e s'
structure FnOk(P:Program)(w:World)(K:qA0)(mg:Str->Option Value)(base:Heap)(CX:CXT)(k:Nat)(f:Addr)(fd:FuncData)(ps:List Str)(sp:Sp):Prop where
 len:∀vs H Q E,sp vs H Q E->vs.length=ps.length
 run:∀(A:Around)(outer:List Env)(s:Shared)(H:Hp)(args:Args)(us:List Value)(vs:List V)(Q:VK)(E:XK),Room k A->Env0 P w K mg base A outer s H->BindsTo s fd args (ps.zip us)->Vals vs us->sp vs H Q E ->
  codeAny (model P w) A (.call (.ref f) args) (CR CX outer P w H s Q E) s
theorem FnOk.imp{P:Program}{w:World}{K:qA0}{mg:Str->Option Value}{base:Heap}{CX:CXT}{k:Nat}{f:Addr}{fd:FuncData}{ps:List Str}{sp sp':Sp}(F:FnOk P w K mg base CX k f fd ps sp)
  (h:∀vs H Q E,sp' vs H Q E->sp vs H Q E):FnOk P w K mg base CX k f fd ps sp':=
 ⟨fun vs H Q E q=>F.len vs H Q E (h _ _ _ _ q),fun A outer s H args us vs Q E hr he hb hv hs=>F.run A outer s H args us vs Q E hr he hb hv (h _ _ _ _ hs)⟩
theorem Env0.make{P:Program}{w:World}{K:qA0}{mg:Str->Option Value}{base:Heap}{A:Around}{outer:List Env}{s:Shared}{H:Hp}(e:Env0 P w K mg base A outer s H)(C:Addr)(us:List Value)(kw:List (Str×Value)) :
  Env0 P w K mg base (A.under (.builtin "type.__call__" ⟨.ref C::us,kw⟩)) outer s H:=⟨by first|exact e.frames|(simpa[Around.under,Code.envs,Code.isFrame,pushEnvs]using e.frames),e.mod,e.bs,e.bsz,e.funs,e.frf,e.hok,e.bare⟩
section
variable{X:Cx}{pins:List (Addr×Obj)}{σ:St}{H:Hp}{s s':Shared}
theorem Inv.env0(I:Inv X pins σ H s):Env0 X.prog X.w X.K X.mg X.base X.A X.stack s H:=
 ⟨I.ok.frames,I.ok.mod,I.bs,qAr I.ok.bsz I.sz,I.stack,I.stkFree,I.hok,I.bare⟩
theorem Inv.after{Q:VK}{u:Value}(I:Inv X pins σ H s)(h:CE X.stack X.prog X.w H s Q u s'):EP X pins σ Q u s':=by
 obtain⟨v,H',os,bare,un,hok,r,q⟩:=h;obtain⟨hh,g,d,t,os'⟩:=s';obtain rfl:os'=s.os:=os;exact⟨v,H',I.call (h':=hh) (g':=g) (d':=d) (t':=t) (ch:=[]) un hok bare (fun b z=>absurd z (by simp)),r,q⟩
end
noncomputable def zL2(sp:Sp)(dvs:List V)(E:XK)(t:TA):TE:=fun σ H Q=>t σ H fun vs H1=>sp (vs++dvs) H1 Q E
def zTL(C:Addr)(sp:Sp)(dvs:List V)(E:XK)(t:TA):TE:=fun σ H Q=>t σ H fun vs H1=>∀x dx,H1 x=none->H1 dx=none->dx≠x ->
 sp (.ref x::(vs++dvs)) (upd (upd H1 dx (.own x)) x (.ins C dx [])) (fun v H2=>v=.non/\Q (.ref x) H2) E
def Binds(K:qA0)(fd:FuncData)(ps:List Str)(ds:List Value):Prop:=
 ∀(s:Shared)(us:List Value),K.In s.heap->(us++ds).length=ps.length->BindsTo s fd ⟨us,[]⟩ (ps.zip (us++ds))
theorem Binds.all{K:qA0}{fd:FuncData}{ps:List Str}(h:∀us:List Value,us.length=ps.length->bindArgs fd ⟨us,[]⟩=pure (ps.zip us)):Binds K fd ps []:=fun s us _ hl=>by
 rw[qBw]at hl ⊢;exact .of_eq (h us hl)
def zFT(CX:CXT)(X:Cx)(E:XK):Prop:=∀(pins:List (Addr×Obj))(σ:St)(H:Hp)(s:Shared)(e:Value)(s':Shared),Inv X pins σ H s->CX X.stack H s E e s'->X.xe e s'
section
variable{X:Cx}{CX:CXT}{k:Nat}{f C:Addr}{fd:FuncData}{ps:List Str}{sp:Sp}{dvs:List V}{ds:List Value}{E:XK}{x m:Str}{p pos apos:Pos}{e o:Expr}{es:List Expr}{ta:TE}{t:TA}
theorem zOI{pins:List (Addr×Obj)}{σ:St}{H:Hp}{s:Shared}{Q:VK}{us:List Value}{vs:List V}(F:FnOk X.prog X.w X.K X.mg X.base CX k f fd ps sp)(hr:Room k X.A)(hb:Binds X.K fd ps ds)(hd:Vals dvs ds)(hx:zFT CX X E)
  (I:Inv X pins σ H s) (r:Vals vs us) (h:sp (vs++dvs) H Q E):wpAny (model X.prog X.w) X.A (call (.ref f) us) (EP X pins σ Q) X.xe s:=by
 have r2:Vals (vs++dvs) (us++ds):=r.append hd;have hl:(us++ds).length=ps.length:=by rw[<- r2.length];exact F.len _ _ _ _ h
 refine wpAny_call (codeAny_mono (F.run X.A X.stack s H ⟨us,[]⟩ (us++ds) (vs++dvs) Q E hr I.env0 (hb s us I.kIn hl) r2 h) fun r s' hq=>?_);cases r with
 |error e=>exact hx pins σ H s e s' I hq
 |ok fl=>
  cases fl with
  |ret u=>exact I.after hq
  |next=>exact qA6 hq
  |brk=>exact qA6 hq
  |cont=>exact qA6 hq
theorem zOY(F:FnOk X.prog X.w X.K X.mg X.base CX k f fd ps sp)(hr:Room k X.A)(hg:Gl X x)(hm:X.mg x=some (.ref f))(hk:qAd X.K (.ref f)=true)(hb:Binds X.K fd ps ds)(hd:Vals dvs ds)(hx:zFT CX X E)
  (ha:PA X (e::es) t) (hdb:(x==("__debug__":Str))=false:=by decide) (he:starEach (e::es) X.env=(false,eval e X.env)::starEach es X.env:=by rfl) (hpl:(backTo pos (starEach es X.env)).any (·.1)=false:=by rfl) :
  PE X (.Call (.Name x p) (e::es) [] pos) (zL2 sp dvs E t):=by
 intro pins s σ H Q I h;refine wpAny_Call_Name_kw (zEO I hg hm ?_ hdb);refine qCt (h₀:=X.base) I.ok.mod.kin hk (thn (ha pos pins s σ H _ I h) fun us s1 ⟨vs,H1,I1,r,q⟩=>⟨I1.kIn,?_⟩) he hpl;exact zOI F hr hb hd hx I1 r q
structure Mk(K:qA0)(C f:Addr):Prop where
 makes:qBv K C=true
 init:qA5 K (.ref C) "__init__" = some (some (.ref f))
 fn:qB8 K (.ref f)=true
 kp:qAd K (.ref C)=true
theorem zQV{pins:List (Addr×Obj)}{σ:St}{H:Hp}{s:Shared}{Q:VK}{us:List Value}{vs:List V}(M:Mk X.K C f)(F:FnOk X.prog X.w X.K X.mg X.base CX k f fd ps sp)(hr:Room (k+1) X.A)(hb:Binds X.K fd ps ds)(hd:Vals dvs ds)
  (hx:zFT CX X E) (I:Inv X pins σ H s) (r:Vals vs us)
  (h:∀x dx,H x=none->H dx=none->dx≠x->sp (.ref x::(vs++dvs)) (upd (upd H dx (.own x)) x (.ins C dx [])) (fun v H2=>v=.non/\Q (.ref x) H2) E) :
  wpAny (model X.prog X.w) X.A (call (.ref C) us) (EP X pins σ Q) X.xe s:=by
 have hq:=h (s.heap.objs.size+1) s.heap.objs.size (I.hok.fresh (qBr _)) (I.hok.fresh (qA4 _)) (qAf (qBp _));have I2:=Inv.made (C:=C) I;have r2:Vals (V.ref (s.heap.objs.size+1)::(vs++dvs)) (Value.ref (s.heap.objs.size+1)::(us++ds)):=.cons rfl (r.append hd);have hl:(Value.ref (s.heap.objs.size+1)::us++ds).length=ps.length:=by
  have e:=r2.length;rw[F.len _ _ _ _ hq]at e;exact e.symm
 refine wpAny_call (zRG (f:=f) I.kIn M.makes M.init (beq_iff_eq.mp M.fn) (codeAny_mono (F.run _ X.stack _ _ ⟨Value.ref (s.heap.objs.size+1)::us,[]⟩ (Value.ref (s.heap.objs.size+1)::(us++ds)) _ _ E (hr.make C us [])
  (I2.env0.make C us []) (hb _ (Value.ref (s.heap.objs.size+1)::us) I2.kIn hl) r2 hq) fun r s' hq'=>?_))
 cases r with
 |error e=>exact hx pins σ _ _ e s' I2 hq'
 |ok fl=>
  cases fl with
  |ret u=>
   obtain⟨v,H',I3,rv,ev,q3⟩:=I2.after hq';subst ev;exact⟨rv,⟨V.ref (s.heap.objs.size+1),H',I3,rfl,q3⟩⟩
  |next=>exact qA6 hq'
  |brk=>exact qA6 hq'
  |cont=>exact qA6 hq'
theorem zU3(M:Mk X.K C f)(F:FnOk X.prog X.w X.K X.mg X.base CX k f fd ps sp)(hr:Room (k+1) X.A)(hg:Gl X x)(hm:X.mg x=some (.ref C))(hb:Binds X.K fd ps ds)(hd:Vals dvs ds)(hx:zFT CX X E)
  (ha:PA X (e::es) t) (hdb:(x==("__debug__":Str))=false:=by decide) (he:starEach (e::es) X.env=(false,eval e X.env)::starEach es X.env:=by rfl) (hpl:(backTo pos (starEach es X.env)).any (·.1)=false:=by rfl) :
  PE X (.Call (.Name x p) (e::es) [] pos) (zTL C sp dvs E t):=by
 intro pins s σ H Q I h;refine wpAny_Call_Name_kw (zEO I hg hm ?_ hdb);refine qCt (h₀:=X.base) I.ok.mod.kin M.kp (thn (ha pos pins s σ H _ I h) fun us s1 ⟨vs,H1,I1,r,q⟩=>⟨I1.kIn,?_⟩) he hpl;exact zQV M F hr hb hd hx I1 r q
end
section
variable{X:Cx}{CX:CXT}{k:Nat}{f C:Addr}{fd:FuncData}{ps ks:List Str}{sp:Sp}{E:XK}{x m:Str}{p pos apos kpos:Pos}{e o:Expr}{es:List Expr}{kws:List Keyword}{te ta:TE}{t tk:TA}{nm:Option Str}
variable{g:List Value->List Value->List Value}{gV:List V->List V->List V}
end
structure FnScope(N P:List Str)(sc:Scope):Prop where
 kind:sc.kind=.function
 co:sc.isCoroutine=false
 gen:sc.isGenerator=false
 nd:N.Nodup
 pre:N.take P.length=P
 par:∀x∈P,sc.names.lookup x=some .local\/sc.names.lookup x=some .cell
 nofree:∀y∈sc.names,y.2≠.free
theorem zKM{kindOf:Str->Option NameKind}{x:Str}:∀{binds:List (Str×Value)}{m:Str->Option Value},(∀v,(x,v)∉binds)->bindL kindOf binds m x=m x
 |[],_,_=>rfl
 |(n,v)::r,m,h=>by
  unfold bindL;rw[zKM fun w hw=>h w (qAo _ hw)]
  split
  ·have:x≠n:=by rintro rfl;exact h v qAv
   simp[this]
  ·rfl
theorem zKO{kindOf:Str->Option NameKind}{x:Str}:∀{binds:List (Str×Value)}{m:Str->Option Value},(∀v,(x,v)∉binds)->bindC kindOf binds m x=m x
 |[],_,_=>rfl
 |(n,v)::r,m,h=>by
  unfold bindC;rw[zKO fun w hw=>h w (qAo _ hw)]
  split
  ·rfl
  ·have:x≠n:=by rintro rfl;exact h v qAv
   simp[this]
theorem zKN{kindOf:Str->Option NameKind}{x:Str}{v:Value}:∀{P:List Str}{vs:List Value}{i:Nat}{m:Str->Option Value},P.Nodup->P[i]?=some x->vs[i]?=some v->kindOf x=some .local ->
  bindL kindOf (P.zip vs) m x=some v
 |[],_,_,_,_,h,_,_=>by simp at h
 |_::_,[],_,_,_,_,h,_=>by simp at h
 |p::P,w::vs,0,m,nd,h1,h2,hk=>by
  simp at h1 h2;subst h1;subst h2;show bindL kindOf ((p,w)::P.zip vs) m p=_;unfold bindL;rw[zKM fun v hv=>(qCx.mp nd).1 (qDq hv).1,if_pos hk];simp
 |p::P,w::vs,i+1,m,nd,h1,h2,hk=>by
  show bindL kindOf ((p,w)::P.zip vs) m x=_;unfold bindL;exact zKN (i:=i) (qCx.mp nd).2 (by simpa using h1) (by simpa using h2) hk
theorem zKP{kindOf:Str->Option NameKind}{x:Str}{v:Value}:∀{P:List Str}{vs:List Value}{i:Nat}{m:Str->Option Value},P.Nodup->P[i]?=some x->vs[i]?=some v->kindOf x≠some .local ->
  bindC kindOf (P.zip vs) m x=some v
 |[],_,_,_,_,h,_,_=>by simp at h
 |_::_,[],_,_,_,_,h,_=>by simp at h
 |p::P,w::vs,0,m,nd,h1,h2,hk=>by
  simp at h1 h2;subst h1;subst h2;show bindC kindOf ((p,w)::P.zip vs) m p=_;unfold bindC;rw[zKO fun v hv=>(qCx.mp nd).1 (qDq hv).1,if_neg hk];simp
 |p::P,w::vs,i+1,m,nd,h1,h2,hk=>by
  show bindC kindOf ((p,w)::P.zip vs) m x=_;unfold bindC;exact zKP (i:=i) (qCx.mp nd).2 (by simpa using h1) (by simpa using h2) hk
noncomputable def start(N:List Str)(vs:List V):St:=vs.map some++qAm (N.length-vs.length) none
noncomputable def cxOf(CX:CXT)(P:Program)(w:World)(K:qA0)(mg:Str->Option Value)(base:Heap)(N:List Str)(qual:Str)(scope:Scope)(f:Addr)(cd:Value)(A:Around)(outer:List Env)(s:Shared)(H:Hp)(E:XK):Cx where
 prog:=P
 w:=w
 K:=K
 mg:=mg
 base:=base
 A:=A.deeper (envOfC qual scope s.heap.objs.size f cd)
 N:=N
 s₀:=s
 H₀:=H
 env:=envOfC qual scope s.heap.objs.size f cd
 outer:=outer
 stack:=envOfC qual scope s.heap.objs.size f cd::outer
 ex:=[]
 calm:=true
 fn:=fun _=>true
 pn:=[]
 xe:=fun e s'=>wpAny (model P w) (A.deeper (envOfC qual scope s.heap.objs.size f cd)) (leaving (envOfC qual scope s.heap.objs.size f cd) e) (fun _ s''=>CX outer H s E e s'') (fun e' s''=>CX outer H s E e' s'') s'
theorem zMW{sc:Scope}{n:Nat}{x:Str}(h:sc.names.lookup x=some .cell):∃c,(cellsFrom n sc.names []).lookup x=some c:=by
 have q:=qDe sc.names n [] (.inl h);exact qE8.mp q
theorem zPM{CX:CXT}{P:Program}{w:World}{K:qA0}{mg:Str->Option Value}{base:Heap}{N ps:List Str}{qual:Str}{scope:Scope}{f:Addr}{cd:Value}{A:Around}{outer:List Env}{s s1:Shared}{H:Hp}{E:XK}{us:List Value}{vs:List V}
  (S:FnScope N ps scope) (hd:A.handled=none) (e0:Env0 P w K mg base A outer s H) (hl:vs.length=ps.length) (r:Vals vs us)
  (x:InCallC s s.heap.objs.size (bindL (envOfC qual scope s.heap.objs.size f cd).kindOf (ps.zip us) fun _=>none) (cellsFrom (s.heap.objs.size+1) scope.names []) (bindC (envOfC qual scope s.heap.objs.size f cd).kindOf (ps.zip us) fun _=>none) s1) :
  Inv (cxOf CX P w K mg base N qual scope f cd A outer s H E) [] (start N vs) H s1:=by
 have hpl:ps.length<=N.length:=by have:=congrArg List.length S.pre;rw[qEo]at this;omega
 obtain⟨h1,tk,rfl,hk⟩:=x.done;have noA:∀b:Addr,b∉(cxOf CX P w K mg base N qual scope f cd A outer s H E).ex:=fun b z=>absurd (show b∈([]:List Addr) from z) (by simp)
 refine⟨⟨e0.mod,S.kind,rfl,rfl,qA4 _,fun y z c h1 h2=>?_,fun y hy=>?_,fun y c _ h=>?_,fun _=>hd,Around.frames_deeper e0.frames,.inr ⟨rfl,rfl⟩,fun b z=>absurd z (noA b),e0.bs,e0.bsz,fun b _ _=>noA b,fun b z=>absurd z (noA b),e0.funs,e0.frf⟩,
  rfl,e0.bare,Un.kept hk,⟨_,x.toInCall.ns,fun i y v h1 h2 h3=>?_⟩,fun y c h=>⟨_,x.cell y c h⟩,e0.hok.fresh (qA4 _),fun y c h=>?_,fun p hp=>absurd (show p∈([]:List (Addr×Obj)) from hp) (by simp),e0.hok.kept hk,?_⟩
 ·exact name_of_addr x.apart (qCl h1) (qCl h2)
 ·have hy:scope.names.lookup y=some .cell\/scope.names.lookup y=some .free:=hy
  rcases hy with hy|hy
  ·exact zMW hy
  ·exact absurd rfl (S.nofree _ (qCl hy))
 ·exact qCj (x.above y c (qCl h))
 ·have hi:i<vs.length:=by
   unfold start at h2
   by_cases hi:i<vs.length
   ·exact hi
   ·rw[qA8 (by simpa using hi)]at h2;rw[qC5]at h2
    split at h2<;>cases h2
  have ha:vs[i]?=some v:=by
   unfold start at h2;rw[qAa (by simpa using hi),qAn]at h2;cases e:vs[i]? with
   |none=>rw[e]at h2;cases h2
   |some a=>rw[e]at h2;cases h2;rfl
  obtain⟨u,hu,rv⟩:=r.get ha;have hp:ps[i]?=some y:=by
   rw[<- S.pre,qE9 (by omega)];exact h1
  have ndP:ps.Nodup:=by rw[<- S.pre];exact S.nd.sublist (List.take_sublist _ _)
  refine⟨u,rv,?_⟩
  rcases S.par y (qBl hp)with k|k
  ·exact .inl ⟨k,zKN ndP hp hu k⟩
  ·obtain⟨c,e⟩:=zMW (n:=s.heap.objs.size+1) k;refine .inr ⟨.inl k,c,e,?_⟩;have q:=x.cell y c e;rw[zKP ndP hp hu (by show scope.names.lookup y≠_;rw[k];decide)]at q;exact q
 ·exact e0.hok.fresh (qCj (x.above y c (qCl h)))
 ·unfold start;show _=N.length;rw[qB2,qAq,qDh];omega
theorem zX4{CX:CXT}{P:Program}{w:World}{K:qA0}{mg:Str->Option Value}{base:Heap}{k:Nat}{f:Addr}{name qual:Str}{params:Arguments}{body:List Stmt}{scope:Scope}{dV kV doc pm cdv ct oc:Value}{an od:Option Addr}
  {osl:Array (Option Value)} {N ps:List Str} {sp:Sp} (lk:K.lookup f=some ⟨oc,od,.func (qAx name qual params body scope dV kV doc pm an cdv ct),osl⟩) (hcd:qAy K cdv qual=true) (S:FnScope N ps scope)
  (len:∀vs H Q E,sp vs H Q E->vs.length=ps.length)
  (hbody:∀(A:Around)(outer:List Env)(s:Shared)(H:Hp)(vs:List V)(Q:VK)(E:XK),Room k (A.deeper (envOfC qual scope s.heap.objs.size f cdv))->sp vs H Q E ->
   ∃t,PSs (cxOf CX P w K mg base N qual scope f cdv A outer s H E) body t/\t { nx:=fun _ H'=>Q .non H',rt:=Q } (start N vs) H) :
  FnOk P w K mg base CX (k+1) f (qAx name qual params body scope dV kV doc pm an cdv ct) ps sp:=by
 refine⟨len,fun A outer s H args us vs Q E hr e0 hb r hsp=>?_⟩;have hl:=len _ _ _ _ hsp;have KX:K.In s.heap:=e0.mod.kin.keeps fun b o e=>(e0.bs b o e).1
 have lim:s.heap.NoLimit:=e0.mod.nolimit.keeps fun b o e=>(e0.bs b o e).1
 have hkind:∀y∈ps.zip us,scope.names.lookup y.1=some .local\/(scope.names.lookup y.1=some .cell/\((cellsFrom (s.heap.objs.size+1) scope.names []).lookup y.1).isSome=true):=fun⟨n,v⟩ hy=>by
  rcases S.par n (qDq hy).1 with q|q
  ·exact .inl q
  ·exact .inr ⟨q,qDe _ _ _ (.inl q)⟩
 refine codeAny_call_function hr.depth (KX _ _ lk) rfl S.co S.gen rfl (PySem.W.codeRec_of KX hcd) (hb _ _ _ _ ?_);refine wpAny_newFunctionEnv_cells S.kind hkind fun env he s1 x=>?_
 subst he;refine⟨lim.keeps x.toInCall.keep,codeAny_func ?_⟩;obtain⟨t,ht,hq⟩:=hbody A outer s H vs Q E (hr.deeper _) hsp;have I:Inv (cxOf CX P w K mg base N qual scope f cdv A outer s H E) [] (start N vs) H s1:=zPM S hr.hd e0 hl r x;refine wpAny_mono (ht [] s1 (start N vs) H _ I hq) (fun fl s' hs=>?_) fun e s' hs=>hs
 have fin:∀{σ':St}{H':Hp}{v:V}{u:Value},Inv (cxOf CX P w K mg base N qual scope f cdv A outer s H E) [] σ' H' s'->RelV v u->Q v H'->CE outer P w H s Q u s':=
  fun{σ' H' v u} J rv q=>⟨v,H',J.os,J.bare,J.base,J.hok,rv,q⟩
 cases fl with
 |ret u=>
  obtain⟨v,σ',H',J,rv,q⟩:=hs;exact fin J rv q
 |next=>
  obtain⟨σ',H',J,q⟩:=hs;exact fin (v:=V.non) (u:=Value.none) J rfl q
 |brk=>
  obtain⟨_,_,_,q⟩:=hs;exact qA6 q
 |cont=>
  obtain⟨_,_,_,q⟩:=hs;exact qA6 q
end L2
namespace L2
open PySem PySem.Spec PyProof.Rows
section
variable{X:Cx}{x:Str}{p pos:Pos}{e:Expr}{es:List Expr}{t:TA}{id T:String}{r:List V->Hp->VK->Prop}
noncomputable def tCB(r:List V->Hp->VK->Prop)(t:TA):TE:=fun σ H Q=>t σ H fun vs H1=>r vs H1 Q
theorem zAU(hc:zDM X (.builtin id) r)(hg:Gl X x)(hm:X.mg x=none)(hv:bootBuiltins x=some (.builtin id))(ha:PA X (e::es) t)(hn:x≠"__name__":=by decide)(hdb:(x==("__debug__":Str))=false:=by decide)
  (he:starEach (e::es) X.env=(false,eval e X.env)::starEach es X.env:=by rfl) (hpl:(backTo pos (starEach es X.env)).any (·.1)=false:=by rfl):PE X (.Call (.Name x p) (e::es) [] pos) (tCB r t):=by
 intro pins s σ H Q I h;refine wpAny_Call_Name_kw (zML I hg hm hv ?_ hn hdb);exact qDi (thn (ha pos pins s σ H _ I h) fun us s1 ⟨vs,H1,I1,r1,q1⟩=>hc pins s1 σ H1 vs us Q I1 r1 q1) he hpl
theorem zD5(hc:zDM X (.type T) r)(hg:Gl X x)(hm:X.mg x=none)(hv:bootBuiltins x=some (.type T))(ha:PA X (e::es) t)(hn:x≠"__name__":=by decide)(hdb:(x==("__debug__":Str))=false:=by decide)
  (he:starEach (e::es) X.env=(false,eval e X.env)::starEach es X.env:=by rfl) (hpl:(backTo pos (starEach es X.env)).any (·.1)=false:=by rfl):PE X (.Call (.Name x p) (e::es) [] pos) (tCB r t):=by
 intro pins s σ H Q I h;refine wpAny_Call_Name_kw (zML I hg hm hv ?_ hn hdb);exact qCw (thn (ha pos pins s σ H _ I h) fun us s1 ⟨vs,H1,I1,r1,q1⟩=>hc pins s1 σ H1 vs us Q I1 r1 q1) he hpl
end
end L2
namespace HT
open PySem PyProof.Rows
section
open PySem.SeqAt
open PySem.AutoSeq1 (wpAny_loadPart')
open PySem.MeetsSeq PySem.MeetsSeq2 PySem.MeetsSeq3
end
section
variable{prog:Program}{w:World}{A:Around}{E:Value->Shared->Prop}{s:Shared}
theorem cat_tup{t b:Addr}{vs ws:List Value}{Q:Value->Shared->Prop}(ht:IsTup s.heap t vs.toArray)(hb:IsTup s.heap b ws.toArray)(hv:vs≠[])
  (h1:ws=[]->Q (.ref t) s) (h2:ws≠[]->Q (.ref s.heap.objs.size) { s with heap:=s.heap.push { cls:=.type "tuple",data:=.seq (vs++ws).toArray } })
  (hsz:vs.length+ws.length<=sizeLine):wpAny (model prog w) A (binaryOp .Add (.ref t) (.ref b)) Q E s:=by
 obtain⟨⟨cls,dd,data,sl⟩,ho,hc,n,hd⟩:=id ht;obtain⟨⟨cls2,dd2,data2,sl2⟩,ho2,hc2,n2,hd2⟩:=id hb;simp only at hc hd hc2 hd2;subst hc hd hc2 hd2;have e:vs.toArray++ws.toArray=(vs++ws).toArray:=by simp
 by_cases hw:ws=[]
 ·exact concat_meets ⟨_,ho,rfl⟩ ⟨_,ho2,rfl⟩ noFill_tuple_add seq_tuple_add qEv qEd (qEa _ _)
   (tuple_addW1 t b vs.toArray ws.toArray n n2 dd dd2 sl sl2 (by simpa using hv) (by simp[hw])) ⟨ho,ho2,h1 hw⟩
 ·refine concat_meets ⟨_,ho,rfl⟩ ⟨_,ho2,rfl⟩ noFill_tuple_add seq_tuple_add qEv qEd (qEa _ _)
   (tuple_addW2 t b vs.toArray ws.toArray n n2 dd dd2 sl sl2 (by simpa using hv) (by simpa using hw) (by rw[qAk,qAk];exact hsz)) ⟨ho,ho2,?_⟩
  rw[e];exact h2 hw
noncomputable def sIx(n d:Nat):Option Int->Nat
 |none=>d
 |some v=>if v<0 then(v+(n:Int)).toNat else min v.toNat n
end
end HT
namespace L2
open PySem PySem.Spec PyProof.Rows
abbrev TO:=St->Hp->(Option Int->Hp->Prop)->Prop
def PO(X:Cx)(e:Option Expr)(t:TO):Prop:=
 ∀(pins:List (Addr×Obj))(s:Shared)(σ:St)(H:Hp)(Q:Option Int->Hp->Prop),Inv X pins σ H s->t σ H Q ->
  wpAny (model X.prog X.w) X.A (evalPart e X.env) (fun u s'=>∃o H',Inv X pins σ H' s'/\IsPart u o/\Q o H') X.xe s
noncomputable def zO5:TO:=fun _ H Q=>Q none H
noncomputable def zVJ(t:TE):TO:=fun σ H Q=>t σ H fun x H1=>∃i,x=.int i/\Q (some i) H1
section
variable{X:Cx}{e:Expr}{te:TE}{lo hi:Option Expr}{tl th:TO}{pos p2:Pos}
theorem zBX:PO X none zO5:=by
 intro pins s σ H Q I h;rw[evalPart_none];exact wpAny_pure ⟨none,H,I,.none,h⟩
theorem zAL(h:PE X e te):PO X (some e) (zVJ te):=by
 intro pins s σ H Q I hw;rw[evalPart_some];refine thn (h pins s σ H _ I hw) fun u s1 z0=>?_
 obtain⟨x,H1,I1,r1,q1⟩:=z0;obtain⟨i,rfl,q⟩:=q1;obtain⟨t,rfl⟩:=r1;exact⟨some i,H1,I1,.int i t,q⟩
def SlR(X:Cx)(r:V->Option Int->Option Int->Hp->VK->Prop):Prop:=
 ∀(pins:List (Addr×Obj))(s:Shared)(σ:St)(H:Hp)(x:V)(v vl vu:Value)(lo hi:Option Int)(sl:Addr)(Q:VK),Inv X pins σ H s->RelV x v->s.heap.IsSliceOf sl vl vu .none->IsPart vl lo->IsPart vu hi->r x lo hi H Q ->
  ∃T id,typeLookup (.type T) "__getitem__" = pure (some (.builtin id))/\s.TypeIs v T/\wpAny (model X.prog X.w) X.A (getItem v (.ref sl)) (EP X pins σ Q) X.xe s
noncomputable def tSl(r:V->Option Int->Option Int->Hp->VK->Prop)(te:TE)(tl th:TO):TE:=fun σ H Q=>te σ H fun x H1=>tl σ H1 fun l H2=>th σ H2 fun u H3=>r x l u H3 Q
theorem zAN{r:V->Option Int->Option Int->Hp->VK->Prop}(hr:SlR X r)(he:PE X e te)(hl:PO X lo tl)(hu:PO X hi th):PE X (.Subscript e (.Slice lo hi none p2) pos) (tSl r te tl th):=by
 intro pins s σ H Q I h;refine Subscript_ (thn (he pins s σ H _ I h) fun v s1 z0=>?_);obtain⟨x,H1,I1,r1,q1⟩:=z0;refine wpAny_Slice (thn (hl pins s1 σ H1 _ I1 q1) fun vl s2 ⟨l,H2,I2,pl,q2⟩=>thn (hu pins s2 σ H2 _ I2 q2) fun vu s3 ⟨u,H3,I3,pu,q3⟩=>?_);rw[evalPart_none];refine wpAny_pure ?_;have I4:Inv X pins σ H3 { s3 with heap:=s3.heap.push { cls:=.type "slice",data:=.fields #[vl,vu,.none] } }:=I3.kept (t':=s3.toks) fun b ob q=>Heap.get?_push_of_some _ q
 obtain⟨T,id,hT,ht,hg⟩:=hr pins { s3 with heap:=s3.heap.push { cls:=.type "slice",data:=.fields #[vl,vu,.none] } } σ H3 x v vl vu l u s3.heap.objs.size Q I4 r1 (Heap.IsSliceOf.new ..) pl pu q3;show wpAny (model X.prog X.w) X.A (subscriptTail e (.Slice lo hi none p2) v (.ref s3.heap.objs.size)) (EP X pins σ Q) X.xe { s3 with heap:=s3.heap.push { cls:=.type "slice",data:=.fields #[vl,vu,.none] } };exact tail_any (ops:=[.ref s3.heap.objs.size,v]) ht hT hg (by with_unfolding_all rfl)
def cutV(xs:List V)(lo hi:Option Int):List V:=(xs.drop (HT.sIx xs.length 0 lo)).take (HT.sIx xs.length xs.length hi-HT.sIx xs.length 0 lo)
theorem zLK(xs:List V)(lo hi:Option Int):(cutV xs lo hi).length<=xs.length:=by
 unfold cutV;rw[qEo,qEp];omega
def zW2(K:qA0):R2:=fun x y H Q=>∃a b xs ys,x=.ref a/\y=.ref b/\SqT K H a xs/\SqT K H b ys/\xs≠[]/\xs.length+ys.length<=sizeLine /\
 (ys=[]->Q (.ref a) H)/\(ys≠[]->∀p,H p=none->Q (.ref p) (upd H p (.tup (xs++ys))))
theorem Vals.nil_iff{xs:List V}{us:List Value}(r:Vals xs us):us=[]↔xs=[]:=by
 cases r with
 |nil=>simp
 |cons _ _=>simp
theorem zU9:OpR X (binaryOp .Add) (zW2 X.K):=by
 intro pins s σ H x y v u Q I rx ry h;obtain⟨a,b,xs,ys,rfl,rfl,ha,hb,hx,hz,q1,q2⟩:=h;cases rx;cases ry;obtain⟨its,r1,p1,_⟩:=I.tuple ha;obtain⟨its2,r2,p2,_⟩:=I.tuple hb;refine HT.cat_tup p1 p2 (fun z=>hx (r1.nil_iff.mp z)) (fun z=>⟨.ref a,H,I,rfl,q1 (r2.nil_iff.mp z)⟩) (fun z=>?_) (by rw[<- r1.length,<- r2.length];exact hz);refine⟨.ref s.heap.objs.size,_,I.laid (t':=s.toks) (o:=.tup (xs++ys)) (fun b ob q=>Heap.get?_push_of_some _ q) (qA4 _) ?_,rfl,q2 (fun w=>z (r2.nil_iff.mpr w)) _ (I.hok.fresh (qA4 _))⟩;exact⟨by rw[qB2];exact hz,_,r1.append r2,IsTup.new _ _⟩
end
end L2
namespace L2
open PySem PySem.Spec PyProof.Rows
noncomputable def ixN(n:Nat)(i:Int):Option Nat:=if 0<=i then(if i<n then some i.toNat else none)else if -(n:Int)<=i then some (i+n).toNat else none
def atI{α:Type}(xs:List α)(i:Int):Option α:=(ixN xs.length i).bind fun j=>xs[j]?
theorem zUM{n:Nat}{i:Int}{j:Nat}(h:ixN n i=some j):seqIndex? i n=some j/\j<n/\-(n:Int)<=i/\i<n:=by
 unfold ixN at h
 by_cases h0:0<=i
 ·rw[if_pos h0]at h
  by_cases h1:i<n
  ·rw[if_pos h1]at h;have e:i.toNat=j:=qBq h;exact⟨by rw[seqIndex_of h0 h1,e],by omega,by omega,h1⟩
  ·rw[if_neg h1]at h;cases h
 ·rw[if_neg h0]at h
  by_cases h1:-(n:Int)<=i
  ·rw[if_pos h1]at h;have e:(i+n).toNat=j:=qBq h;exact⟨by rw[seqIndex_neg (by omega) h1,e],by omega,h1,by omega⟩
  ·rw[if_neg h1]at h;cases h
theorem zLR{α:Type}{xs:List α}{i:Int}{v:α}(h:atI xs i=some v):∃j,seqIndex? i xs.length=some j/\xs[j]?=some v/\j<xs.length/\-(xs.length:Int)<=i/\i<xs.length:=by
 unfold atI at h;cases e:ixN xs.length i with
 |none=>rw[e]at h;cases h
 |some j=>
  rw[e]at h;obtain⟨h1,h2,h3,h4⟩:=zUM e;exact⟨j,h1,h,h2,h3,h4⟩
def zV8(b:Expr):Prop:=∀o i,subscripted b false o i=operate [o,i] (getItem o i)
def IxR(X:Cx)(r:R2):Prop:=
 ∀(value slice:Expr)(pins:List (Addr×Obj))(s:Shared)(σ:St)(H:Hp)(x y:V)(v u:Value)(Q:VK),Inv X pins σ H s->RelV x v->RelV y u->r x y H Q ->
  subscripted slice false v u=operate [v,u] (getItem v u)->wpAny (model X.prog X.w) X.A (subscriptTail value slice v u) (EP X pins σ Q) X.xe s
def MtR(X:Cx)(id:String)(r:V->List V->Hp->VK->Prop):Prop:=
 ∀(pins:List (Addr×Obj))(s:Shared)(σ:St)(H:Hp)(x:V)(xs:List V)(v:Value)(us:List Value)(Q:VK),Inv X pins σ H s->RelV x v->Vals xs us->r x xs H Q ->
  wpAny (model X.prog X.w) X.A (call (.builtin id) (v::us)) (EP X pins σ Q) X.xe s
section
variable{X:Cx}{a b:Expr}{ta tb:TE}{pos:Pos}
theorem zBJ{r:R2}(hr:IxR X r)(ha:PE X a ta)(hb:PE X b tb)(hs:zV8 b):PE X (.Subscript a b pos) (tOp r ta tb):=by
 intro pins s σ H Q I h;exact Subscript_ (binT ha hb I h fun v u s2 x y H2 I2 rx ry q=>hr a b pins s2 σ H2 x y v u Q I2 rx ry q (hs _ _))
def rIxL(K:qA0):R2:=fun x y H Q=>∃p xs i v,x=.ref p/\y=.int i/\SqL K H p xs/\atI xs i=some v/\Q v H
def rIxT(K:qA0):R2:=fun x y H Q=>∃p xs i v,x=.ref p/\y=.int i/\SqT K H p xs/\atI xs i=some v/\Q v H
def rIxS:R2:=fun x y H Q=>∃z i c,x=.str z/\y=.int i/\z.length<=sizeLine/\atI z.cps.toList i=some c/\Q (.str ⟨#[c]⟩) H
theorem zUK:IxR X (rIxL X.K):=by
 intro value slice pins s σ H x y v u Q I rx ry h hs;obtain⟨p,xs,i,z,rfl,rfl,hq,he,q⟩:=h;cases rx;obtain⟨t,rfl⟩:=ry;obtain⟨its,r,pl,hz⟩:=I.list hq;obtain⟨j,h1,h2,h3,h4,h5⟩:=zLR he;obtain⟨w,ew,rw'⟩:=r.get h2;have hl:=r.length;have hn:=zF5;have fin:EP X pins σ Q w s:=⟨z,H,I,rw',q⟩
 by_cases h0:0<=i
 ·have hj:i.toNat=j:=by
   rw[seqIndex_of h0 h5]at h1;exact qBq h1
  exact item_listR pl.isList h0 (by omega) (by rw[hj];simpa using ew) fin hs
 ·have hj:(i+(its.toArray.size:Int)).toNat=j:=by
   rw[seqIndex_neg (by omega) h4]at h1;rw[qAk,<- hl];exact qBq h1
  exact subscriptTail_builtinR (x:=w) pl.isList.typeIs slot_list_getitem.lookup
   (wpAny_getItem_list_neg (Q:=fun r s'=>r=w/\EP X pins σ Q r s') pl.isList (by omega) (by rw[qAk]<;>omega) (by omega) (by rw[hj];simpa using ew) ⟨rfl,fin⟩) hs
theorem zWT:IxR X (rIxT X.K):=by
 intro value slice pins s σ H x y v u Q I rx ry h hs;obtain⟨p,xs,i,z,rfl,rfl,hq,he,q⟩:=h;cases rx;obtain⟨t,rfl⟩:=ry;obtain⟨its,r,pl,hz⟩:=I.tuple hq;obtain⟨j,h1,h2,h3,h4,h5⟩:=zLR he;obtain⟨w,ew,rw'⟩:=r.get h2;have hl:=r.length;have hn:=zF5;have fin:EP X pins σ Q w s:=⟨z,H,I,rw',q⟩
 exact subscriptTail_builtinR (x:=w) pl.typeIs slot_tuple_getitem.lookup
  (getItem_tuple (j:=j) (Q:=fun r s'=>r=w/\EP X pins σ Q r s') pl (by omega) (by omega) (by rw[qAk,<- hl];exact h1) (by simpa using ew) ⟨rfl,fin⟩) hs
theorem zWU:IxR X rIxS:=by
 intro value slice pins s σ H x y v u Q I rx ry h hs;obtain⟨z,i,c,rfl,rfl,hz,he,q⟩:=h;obtain⟨t,rfl⟩:=rx;obtain⟨t',rfl⟩:=ry;obtain⟨j,h1,h2,h3,h4,h5⟩:=zLR he;have hl:z.cps.toList.length=z.length:=by simp[Str.length]
 rw[hl]at h1 h4 h5;have hn:=zF5;exact tail_any (typeIs_str s z t) slot_str_getitem.lookup (getItem_str (c:=c) (by
  have e1:decide (i < -(2 ^ 63:Int))=false:=decide_eq_false (by omega);have e2:decide (i>=2 ^ 63)=false:=decide_eq_false (by omega);rw[e1,e2,qEe]) (by rw[h1];simpa using h2) ⟨.str ⟨#[c]⟩,H,I.tok _,⟨_,rfl⟩,q⟩) hs
theorem zJF(lo hi:Option Int)(n:Nat):(sliceBounds lo hi none n).1=((HT.sIx n 0 lo:Nat):Int)/\(sliceBounds lo hi none n).2.1=((HT.sIx n n hi:Nat):Int)/\(sliceBounds lo hi none n).2.2=1:=by
 refine⟨?_,?_,rfl⟩
 ·cases lo with
  |none=>simp[sliceBounds,HT.sIx]
  |some i=>
   simp only[sliceBounds,HT.sIx,qG8,show(1:Int)>0 by decide,if_true]
   by_cases h:i<0
   ·simp only[h,if_true]<;>omega
   ·simp only[h,if_false]<;>omega
 ·cases hi with
  |none=>simp[sliceBounds,HT.sIx]
  |some i=>
   simp only[sliceBounds,HT.sIx,qG8,show(1:Int)>0 by decide,if_true]
   by_cases h:i<0
   ·simp only[h,if_true]<;>omega
   ·simp only[h,if_false]<;>omega
theorem zI5(its:List Value)(lo hi:Option Int):slicePick its.toArray lo hi none=((its.drop (HT.sIx its.length 0 lo)).take (HT.sIx its.length its.length hi-HT.sIx its.length 0 lo)).toArray:=by
 obtain⟨h1,h2,h3⟩:=zJF lo hi its.toArray.size;unfold slicePick;rw[h1,h2,h3];simp only[sliceRange_one,pick_run,qAk]<;>rfl
def rSlL(K:qA0):V->Option Int->Option Int->Hp->VK->Prop:=fun x lo hi H Q=>∃a xs,x=.ref a/\SqL K H a xs/\∀p,H p=none->Q (.ref p) (upd H p (.lst (cutV xs lo hi)))
theorem zTP:SlR X (rSlL X.K):=by
 intro pins s σ H x v vl vu lo hi sl Q I rx hs pl pu h;obtain⟨a,xs,rfl,hx,q⟩:=h;cases rx;obtain⟨its,r,ht,hz⟩:=I.list hx;have hlen:=r.length;refine⟨"list",_,slot_list_getitem.lookup,ht.isList.typeIs,?_⟩;refine wpAny_getItem_list_slice ht.isList hs pl pu .none (by simp) ?_ (by rw[qAk]<;>omega);rw[zI5,<- hlen];refine⟨.ref s.heap.objs.size,_,I.laid (t':=s.toks) (o:=.lst (cutV xs lo hi)) (fun b ob q=>Heap.get?_push_of_some _ q) (qA4 _) ?_,rfl,q _ (I.hok.fresh (qA4 _))⟩;exact⟨qAr (zLK xs lo hi) hz,_,0,(r.drop (HT.sIx xs.length 0 lo)).take (HT.sIx xs.length xs.length hi-HT.sIx xs.length 0 lo),Heap.get?_push_size _ rfl⟩
noncomputable def zFN:V->Bool
 |.non=>true
 |.bl _=>true
 |.int _=>true
 |.str _=>true
 |_=>false
noncomputable def eqV:V->V->Bool
 |.non,.non=>true
 |.bl a,.bl b=>a==b
 |.bl a,.int b=>(if a then 1 else 0)==b
 |.int a,.bl b=>a==(if b then 1 else 0)
 |.int a,.int b=>a==b
 |.str a,.str b=>a==b
 |_,_=>false
theorem zT0{A:Around}{s:Shared}{y x:V}{u v:Value}(ry:RelV y u)(rx:RelV x v)(fy:zFN y=true)(fx:zFN x=true):SeqAt.EqAt A s u v (eqV y x):=by
 cases y with
 |non=>
  cases ry;cases x with
  |non=>cases rx;exact SeqAt.EqAt.same _
  |bl b=>cases rx;exact SeqAt.EqAt.none_bool b
  |int b=>obtain⟨t,rfl⟩:=rx;exact SeqAt.EqAt.none_int b t
  |str b=>obtain⟨t,rfl⟩:=rx;exact SeqAt.EqAt.none_str b t
  |_=>exact absurd (show false=true from fx) qAj
 |bl a=>
  cases ry;cases x with
  |non=>cases rx;exact SeqAt.EqAt.bool_none a
  |bl b=>cases rx;exact SeqAt.EqAt.bool_bool a b
  |int b=>obtain⟨t,rfl⟩:=rx;exact SeqAt.EqAt.bool_int a b t
  |str b=>obtain⟨t,rfl⟩:=rx;exact SeqAt.EqAt.bool_str a b t
  |_=>exact absurd (show false=true from fx) qAj
 |int a=>
  obtain⟨t',rfl⟩:=ry;cases x with
  |non=>cases rx;exact SeqAt.EqAt.int_none a t'
  |bl b=>cases rx;exact SeqAt.EqAt.int_bool a t' b
  |int b=>obtain⟨t,rfl⟩:=rx;exact SeqAt.EqAt.int_int a t' b t
  |str b=>obtain⟨t,rfl⟩:=rx;exact SeqAt.EqAt.int_str a t' b t
  |_=>exact absurd (show false=true from fx) qAj
 |str a=>
  obtain⟨t',rfl⟩:=ry;cases x with
  |non=>cases rx;exact SeqAt.EqAt.str_none a t'
  |bl b=>cases rx;exact SeqAt.EqAt.str_bool a t' b
  |int b=>obtain⟨t,rfl⟩:=rx;exact SeqAt.EqAt.str_int a t' b t
  |str b=>obtain⟨t,rfl⟩:=rx;exact SeqAt.EqAt.str_str a t' b t
  |_=>exact absurd (show false=true from fx) qAj
 |_=>exact absurd (show false=true from fy) qAj
def eqU(x:V)(u:Value):Bool:=match u with
 |.none=>eqV .non x
 |.bool b=>eqV (.bl b) x
 |.int i _=>eqV (.int i) x
 |.str z _=>eqV (.str z) x
 |_=>false
theorem zSZ{x y:V}{u:Value}(r:RelV y u)(f:zFN y=true):eqU x u=eqV y x:=by
 cases y with
 |non=>cases r;rfl
 |bl b=>cases r;rfl
 |int i=>obtain⟨t,rfl⟩:=r;rfl
 |str z=>obtain⟨t,rfl⟩:=r;rfl
 |_=>exact absurd (show false=true from f) qAj
theorem zH0{x:V}:∀{xs:List V}{us:List Value},Vals xs us->xs.all zFN=true->us.any (eqU x)=xs.any fun y=>eqV y x
 |_,_,.nil,_=>rfl
 |y::xs,u::us,.cons r t,f=>by
  rw[qDm,qB9]at f;rw[qEf,qEf,zSZ r f.1,zH0 t f.2]
theorem zF3{A:Around}{s:Shared}{x:V}{v:Value}(rx:RelV x v)(fx:zFN x=true):∀{xs:List V}{us:List Value},Vals xs us->xs.all zFN=true->∀u∈us,SeqAt.EqAt A s u v (eqU x u)
 |_,_,.nil,_=>fun u hu=>by cases hu
 |y::xs,u::us,.cons r t,f=>fun u' hu=>by
  rw[qDm,qB9]at f
  rcases qA7.mp hu with rfl|hu
  ·rw[zSZ r f.1];exact zT0 r rx f.1 fx
  ·exact zF3 rx fx t f.2 u' hu
def inV(x:V)(xs:List V):Bool:=xs.any fun y=>eqV y x
def rIn(K:qA0)(neg:Bool):R2:=fun x y H Q=>∃p xs,y=.ref p/\(SqL K H p xs\/SqT K H p xs)/\zFN x=true/\xs.all zFN=true/\Q (.bl (if neg then !inV x xs else inV x xs)) H
theorem zP3:OpR X (compareOp .In) (rIn X.K false):=by
 intro pins s σ H x y v u Q I rx ry h;obtain⟨p,xs,rfl,hq,fx,fs,q⟩:=h;cases ry
 rcases hq with hq|hq
 ·obtain⟨its,r,pl,hz⟩:=I.list hq;refine SeqAt.in_listAt (eqU x) pl.isList (fun w hw=>zF3 rx fx r fs w (by simpa using hw)) ⟨.bl _,H,I,rfl,?_⟩;rw[show its.toArray.any (eqU x)=its.any (eqU x) by simp,zH0 r fs];exact q
 ·obtain⟨its,r,pl,hz⟩:=I.tuple hq;refine SeqAt.in_tupleAt (eqU x) pl (fun w hw=>zF3 rx fx r fs w (by simpa using hw)) ⟨.bl _,H,I,rfl,?_⟩;rw[show its.toArray.any (eqU x)=its.any (eqU x) by simp,zH0 r fs];exact q
theorem zJU:OpR X (compareOp .NotIn) (rIn X.K true):=by
 intro pins s σ H x y v u Q I rx ry h;obtain⟨p,xs,rfl,hq,fx,fs,q⟩:=h;cases ry
 rcases hq with hq|hq
 ·obtain⟨its,r,pl,hz⟩:=I.list hq;refine SeqAt.notIn_listAt (eqU x) pl.isList (fun w hw=>zF3 rx fx r fs w (by simpa using hw)) ⟨.bl _,H,I,rfl,?_⟩;rw[show its.toArray.any (eqU x)=its.any (eqU x) by simp,zH0 r fs];exact q
 ·obtain⟨its,r,pl,hz⟩:=I.tuple hq;refine SeqAt.notIn_tupleAt (eqU x) pl (fun w hw=>zF3 rx fx r fs w (by simpa using hw)) ⟨.bl _,H,I,rfl,?_⟩;rw[show its.toArray.any (eqU x)=its.any (eqU x) by simp,zH0 r fs];exact q
theorem zJT:OpR X (compareOp .NotIn) (fun x y H Q=>∃i j,x=.str i/\y=.str j/\Q (.bl (!(!(Builtin.Str.occurrences j i 0 j.length 1).isEmpty))) H):=by
 intro pins s σ H x y v u Q I rx ry h;obtain⟨i,j,rfl,rfl,q⟩:=h;obtain⟨t,rfl⟩:=rx;obtain⟨t',rfl⟩:=ry;exact notIn_str ⟨.bl _,H,I,rfl,q⟩
theorem zKK:zDM X (.builtin "len") (fun xs H Q=>∃p ys,xs=[.ref p]/\(SqL X.K H p ys\/SqT X.K H p ys)/\Q (.int ys.length) H):=by
 intro pins s σ H xs us Q I r h;obtain⟨p,ys,rfl,hq,q⟩:=h;obtain⟨u,rfl,rx⟩:=zE4 r;cases rx;have hn:=zF5
 rcases hq with hq|hq
 ·obtain⟨its,r',pl,hz⟩:=I.list hq;have hlen:=r'.length;exact Calls.call_len_list pl.isList (by simp only[qAk]<;>omega) ⟨.int ys.length,H,I.tok _,⟨s.toks+1,by rw[qAk,hlen]⟩,q⟩
 ·obtain⟨its,r',pl,hz⟩:=I.tuple hq;have hlen:=r'.length;exact len_tuple pl (by simp only[qAk]<;>omega) ⟨.int ys.length,H,I.tok _,⟨s.toks+1,by rw[qAk,hlen]⟩,q⟩
theorem zKJ:zDM X (.builtin "len") (fun xs H Q=>∃z,xs=[.str z]/\z.length<=sizeLine/\Q (.int z.length) H):=by
 intro pins s σ H xs us Q I r h;obtain⟨z,rfl,hz,q⟩:=h;obtain⟨u,rfl,t,rfl⟩:=zE4 r;have hn:=zF5;exact len_str (by omega) ⟨.int z.length,H,I.tok _,⟨_,rfl⟩,q⟩
theorem zKI:zDM X (.type "list") (fun xs H Q=>∃p ys,xs=[.ref p]/\(SqL X.K H p ys\/SqT X.K H p ys)/\∀l,H l=none->Q (.ref l) (upd H l (.lst ys))):=by
 intro pins s σ H xs us Q I r h;obtain⟨p,ys,rfl,hq,q⟩:=h;obtain⟨u,rfl,rx⟩:=zE4 r;cases rx;have fin:∀(its:List Value),Vals ys its->ys.length<=sizeLine->∀(h':Heap)(c':Nat),(∀b o',s.heap.get? b=some o'->h'.get? b=some o') ->
   h'.get? s.heap.objs.size=some { cls:=.type "list",dict:=none,data:=.seq its.toArray c',slots:=#[] }->EP X pins σ Q (.ref s.heap.objs.size) { s with heap:=h' }:=fun its r' hz h' c' kp e=>
  ⟨.ref s.heap.objs.size,_,I.laid (t':=s.toks) kp (qA4 _) (show ObjOk X.prog X.w _ h' _ (.lst ys) from⟨hz,its,c',r',e⟩),rfl,q _ (I.hok.fresh (qA4 _))⟩
 rcases hq with hq|hq
 ·obtain⟨its,r',pl,hz⟩:=I.list hq;have hlen:=r'.length;obtain⟨o,ho,hc,n,hd⟩:=pl.isList;exact call_list_seq p (.inl rfl) ho hc hd (fun h' c' kp e=>fin its r' hz h' c' kp e) (by simp only[qAk]<;>omega)
 ·obtain⟨its,r',pl,hz⟩:=I.tuple hq;have hlen:=r'.length;obtain⟨o,ho,hc,n,hd⟩:=pl;exact call_list_seq p (.inr rfl) ho hc hd (fun h' c' kp e=>fin its r' hz h' c' kp e) (by simp only[qAk]<;>omega)
def tyV(K:qA0)(T:String)(x:V)(H:Hp):Prop:=match x with
 |.str _=>T = "str"
 |.int _=>T = "int"
 |.ref p=>(T = "list"/\∃xs,SqL K H p xs)\/(T = "tuple"/\∃o,K.lookup p=some o/\o.cls=.type "tuple"/\o.dict=none) \/
   (T = "dict"/\((∃kvs,H p=some (.dK kvs))\/∃kvs,H p=some (.dT kvs)))\/(T = "set"/\∃S n,H p=some (.set S n))
 |_=>False
theorem zSC{pins:List (Addr×Obj)}{σ:St}{H:Hp}{s:Shared}{T:String}{x:V}{v:Value}(I:Inv X pins σ H s)(r:RelV x v)(ty:tyV X.K T x H) :
  s.TypeIs v T/\∀a,v=.ref a->∃ob,s.heap.get? a=some ob/\ob.dict=none:=by
 cases x with
 |str z=>
  obtain⟨t,rfl⟩:=r
  cases(show T = "str" from ty)
  exact⟨typeIs_str s z t,fun _ e=>nomatch e⟩
 |int i=>
  obtain⟨t,rfl⟩:=r
  cases(show T = "int" from ty)
  exact⟨typeIs_int s i t,fun _ e=>nomatch e⟩
 |ref p=>
  cases r
  rcases ty with⟨rfl,xs,hq⟩|⟨rfl,o,hk,hc,hd⟩|⟨rfl,hk⟩|⟨rfl,S,n,hk⟩
  ·obtain⟨its,_,pl,_⟩:=I.list hq;refine⟨pl.isList.typeIs,fun a e=>?_⟩;cases e;obtain⟨o,n,e,c,hd,_⟩:=pl;exact⟨o,e,hd⟩
  ·refine⟨⟨o,I.kIn p o hk,hc⟩,fun a e=>?_⟩;cases e;exact⟨o,I.kIn _ o hk,hd⟩
  ·have z:∃o,s.heap.get? p=some o/\o.ExactDict:=by
    rcases hk with⟨kvs,hk⟩|⟨kvs,hk⟩
    ·obtain⟨_,_,_,_,o,_,_,e,ex,_⟩:=I.hok p _ hk;exact⟨o,e,ex⟩
    ·obtain⟨_,_,_,_,o,_,_,e,ex,_⟩:=I.hok p _ hk;exact⟨o,e,ex⟩
   obtain⟨o,e,ex⟩:=z;refine⟨⟨o,e,ex.1⟩,fun a e2=>?_⟩;cases e2;exact⟨o,e,ex.2.1⟩
  ·obtain⟨o,_,_,_,e,ex,_⟩:=I.hok p _ hk;refine⟨⟨o,e,ex.1⟩,fun a e2=>?_⟩;cases e2;exact⟨o,e,ex.2.1⟩
 |_=>exact qA6 ty
noncomputable def tBM(K:qA0)(T:String)(r:V->List V->Hp->VK->Prop)(to:TE)(t:TA):TE:=fun σ H Q=>to σ H fun x H1=>tyV K T x H1/\t σ H1 fun xs H2=>r x xs H2 Q
variable{o e:Expr}{es:List Expr}{to:TE}{t:TA}{name:Str}{apos cpos:Pos}{T id:String}{r:V->List V->Hp->VK->Prop}
theorem zOZ(pa:PlainAttrs T)(slot:Slot T name id)(hty:typeOf (.builtin id)=pure (.type "method_descriptor"))(hm:MtR X id r)(ho:PE X o to)(ha:PA X (e::es) t)
  (hbase:attributeBase o name X.env (eval o X.env)=eval o X.env:=by rfl)
  (hfew:((backTo cpos (starEach (e::es) X.env)).all (fun x=>!x.1)&&(backToKw cpos (keywordEach [] X.env)).all (fun x=>x.1.isSome)
   && decide ((e::es).length+([]:List Keyword).length+(if([]:List Keyword).isEmpty then 0 else 1)<30))=true:=by rfl)
  (hline:(apos.endLine==cpos.line)=true:=by rfl) (hs:starEach (e::es) X.env=(false,eval e X.env)::starEach es X.env:=by rfl) (hplain:(backTo cpos (starEach es X.env)).any (·.1)=false:=by rfl) :
  PE X (.Call (.Attribute o name apos) (e::es) [] cpos) (tBM X.K T r to t):=by
 intro pins s σ H Q I h;refine wpAny_Call_method_late hbase hfew hline rfl (thn (ho pins s σ H _ I h) fun v s1 z0=>?_);obtain⟨x,H1,I1,r1,ty,q1⟩:=z0;obtain⟨h1,h2⟩:=zSC I1 r1 ty;refine⟨T,id,pa,slot,hty,h1,h2,?_⟩;have hA:=ha cpos pins s1 σ H1 _ I1 q1;rw[hs]at hA ⊢;refine Calls.callWith_builtin (by show(false||(backTo cpos (starEach es X.env)).any (·.1))=false;rw[hplain]<;>rfl) (Calls.evalArgs_plain ?_);exact thn hA fun us s2 ⟨vs,H2,I2,r2,q2⟩=>hm pins s2 σ H2 x vs v us Q I2 r1 r2 q2
end
end L2
namespace L2
open PySem PySem.Spec PyProof.Rows
def MtM(X:Cx)(id:String)(r:V->List V->Hp->VK->Prop):Prop:=
 ∀(pins:List (Addr×Obj))(s:Shared)(σ:St)(H:Hp)(x:V)(xs:List V)(v:Value)(us:List Value)(Q:VK),Inv X pins σ H s->RelV x v->Vals xs us->r x xs H Q ->
  wpAny (model X.prog X.w) X.A (call (.builtin id) (v::us)) (EP X pins σ Q) X.xe s
theorem Vals.one:∀{x:V}{us:List Value},Vals [x] us->∃u,us=[u]/\RelV x u
 |_,_,.cons r .nil=>⟨_,rfl,r⟩
section
variable{X:Cx}{pins:List (Addr×Obj)}{σ:St}{H:Hp}{s:Shared}{l b:Addr}{xs ys zs:List V}
theorem Inv.lset{its its':List Value}{n:Nat}{f:Array Value->Array Value}{t':Nat}(I:Inv X pins σ H s)(hH:H l=some (.lst xs))
  (e:s.heap.get? l=some { cls:=.type "list",data:=.seq its.toArray n }) (hf:f its.toArray=its'.toArray) (hv:Vals ys its') (hz:ys.length<=sizeLine) :
  Inv X pins σ (upd H l (.lst ys)) { s with heap:=s.heap.update l (Obj.mapSeq f),toks:=t' }:=by
 have q:=PySem.IsL.update e f;rw[hf]at q;refine I.write (x:=l) (e:=l) (by rw[hH];exact trivial) (.inl rfl) (fun b' u hb hu=>(Heap.get?_update_other s.heap (Obj.mapSeq f) (qC2 hb)).trans hu) ⟨_,q⟩ ?_;exact⟨hz,its',_,hv,q⟩
theorem Inv.lnew{its:List Value}{t':Nat}(I:Inv X pins σ H s)(hv:Vals ys its)(hz:ys.length<=sizeLine) :
  Inv X pins σ (upd H s.heap.objs.size (.lst ys)) { s with heap:=s.heap.push { cls:=.type "list",data:=.seq its.toArray },toks:=t' }:=
 I.laid (fun _ _ q=>Heap.get?_push_of_some _ q) (qA4 _) ⟨hz,its,0,hv,Heap.get?_push_size _ rfl⟩
theorem Inv.fresh(I:Inv X pins σ H s):H s.heap.objs.size=none:=I.hok.fresh (qA4 _)
theorem Inv.lstM(I:Inv X pins σ H s)(hH:H l=some (.lst xs)):xs.length<=sizeLine/\∃(its:List Value)(n:Nat),Vals xs its/\xs.length=its.length/\s.heap.get? l=some { cls:=.type "list",data:=.seq its.toArray n }:=by
 obtain⟨z,its,n,r,e⟩:=I.hok l _ hH;exact⟨z,its,n,r,r.length,e⟩
end
section
variable{X:Cx}
def zU1:V->List V->Hp->VK->Prop:=fun x vs H Q=>∃l xs y,x=.ref l/\vs=[y]/\H l=some (.lst xs)/\xs.length<sizeLine/\Q .non (upd H l (.lst (xs++[y])))
theorem zP7:MtM X "list.append" zU1:=by
 intro pins s σ H x vs v us Q I rx rv h;obtain⟨l,xs,y,rfl,rfl,hH,hz,q⟩:=h;cases rx;obtain⟨u,rfl,ru⟩:=rv.one;obtain⟨z,its,n,r,hl,e⟩:=I.lstM hH;refine call_meets F.slot_list_append ⟨_,e,rfl⟩ F.entry_list_append (F.args_list_append_2 _ _) (PySem.list_append l its.toArray n u (by rw[qAk];omega)) ⟨e,?_⟩;refine⟨.non,_,I.lset (its':=its++[u]) hH e (by simp) (r.append (.cons ru .nil)) ?_,rfl,q⟩;rw[qB2,qF2];omega
def rCat:R2:=fun x y H Q=>∃l b xs zs,x=.ref l/\y=.ref b/\H l=some (.lst xs)/\H b=some (.lst zs)/\xs.length+zs.length<=sizeLine/\∀p,H p=none->Q (.ref p) (upd H p (.lst (xs++zs)))
theorem zWE:OpR X (binaryOp .Add) rCat:=by
 intro pins s σ H x y v u Q I rx ry h;obtain⟨l,b,xs,zs,rfl,rfl,hH,hB,hz,q⟩:=h;cases rx;cases ry;obtain⟨z,its,n,r,hl,e⟩:=I.lstM hH;obtain⟨z2,its2,n2,r2,hl2,e2⟩:=I.lstM hB;refine PySem.P.add_list e e2 ?_ (by rw[qAk,qAk];omega);have ea:its.toArray++its2.toArray=(its++its2).toArray:=by simp
 rw[ea];exact⟨.ref _,_,I.lnew (t':=s.toks) (r.append r2) (by rw[qB2];omega),rfl,q _ I.fresh⟩
end
section
variable{prog:Program}{w:World}{A:Around}{E:Value->Shared->Prop}{s:Shared}
end
section
variable{X:Cx}
end
end L2
namespace L2
open PySem PySem.Spec PyProof.Rows
section
variable{κ:Type}[DecidableEq κ]
noncomputable def zX7(kvs:List (κ×V))(k:κ):List (κ×V):=kvs.filter fun kv=>decide (kv.1≠k)
theorem KV.drop{kvs:List (κ×V)}{vs:List (κ×Value)}(r:KV kvs vs)(k:κ):KV (zX7 kvs k) (without vs k):=by
 unfold KV at r ⊢;unfold zX7 without
 induction r with
 |nil=>exact .nil
 |@cons p q ps qs h t ih=>
  obtain⟨h1,h2⟩:=h;rw[qG9,qG9]
  by_cases e:p.1=k
  ·have a:¬decide (p.1≠k)=true:=by simp[e]
   have b:¬decide (q.1≠k)=true:=by simp[h1.symm.trans e]
   rw[if_neg a,if_neg b];exact ih
  ·have e':¬q.1=k:=fun z=>e (h1.trans z)
   have a:decide (p.1≠k)=true:=by simp[e]
   have b:decide (q.1≠k)=true:=by simp[e']
   rw[if_pos a,if_pos b];exact .cons ⟨h1,h2⟩ ih
end
section
variable{P:Program}{w:World}{H:Hp}{h:Heap}{a:Addr}
end
section
variable{X:Cx}{pins:List (Addr×Obj)}{σ:St}{H:Hp}{s:Shared}{a:Addr}{y v:V}{u r:Value}{o:Option V}{A:Around}{E:Value->Shared->Prop}
end
section
variable{X:Cx}{pins:List (Addr×Obj)}{σ:St}{H:Hp}{s:Shared}{a:Addr}{kvs:List (Key×V)}{k:Key}{u:Value}{A:Around}{E:Value->Shared->Prop}
end
section
variable{X:Cx}{o i e value:Expr}{pos pos' tpos:Pos}{td ty tv:TE}
end
section
variable{X:Cx}{pos:Pos}
end
section
variable{X:Cx}{pins:List (Addr×Obj)}{σ:St}{H:Hp}{s:Shared}{a:Addr}{y d:V}{u r:Value}{o:Option V}{A:Around}{E:Value->Shared->Prop}
end
section
variable{X:Cx}{o e f:Expr}{apos cpos:Pos}{td ty tx:TE}
end
section
variable{X:Cx}{pins:List (Addr×Obj)}{σ:St}{H:Hp}{s:Shared}{a:Addr}{kvs:List (Key×V)}{A:Around}{E:Value->Shared->Prop}
end
section
variable{X:Cx}{pins:List (Addr×Obj)}{σ:St}{H:Hp}{s:Shared}{a:Addr}{y:V}{u:Value}{A:Around}{E:Value->Shared->Prop}
end
end L2
namespace Att
open PySem PySem.W PySem.Calls PyProof.Rows
theorem zGM{P:Params}{h:Heap}:∀(ns:List Int)(vs:List Value),WellAll P h vs (ns.map WData.int)->IntsAre vs ns:=by
 intro ns
 induction ns with
 |nil=>
  intro vs w;rw[qG4]at w;cases w;exact .nil
 |cons n ns ih=>
  intro vs w;rw[qAu]at w;cases w with
  |cons a b=>
   cases a;exact .cons _ _ (ih _ b)
theorem zOG{l:OpenLaw}{n:Nat}(hn:l.most=some n){P:Params}{h:Heap}{args:List WData}{vals:List Value}
  (hpre:l.row.toRowW.claim.pre args=true) (hwl:WellAll P h vals args) :
  ∃a vs ns,vals=[Value.ref a]/\args=[WData.list (ns.map WData.int)]/\h.get? a=some { cls:=.type "list",data:=.seq vs.toArray }/\IntsAre vs ns/\ns.length<=n:=by
 have hsh:WShape.hasAll [] args [.list .int]=true:=(pre_splitW hpre).1;have hc:l.pre.holds [] { args:=args }=true:=(pre_splitW hpre).2;obtain⟨d,r,rfl,h1,h2⟩:=hasAllW_cons hsh;obtain rfl:=hasAllW_nil h2;obtain⟨xs,rfl,h3⟩:=hasW_list h1;obtain⟨ns,rfl⟩:=items_int h3;have hlen:ns.length<=n:=by
  unfold OpenLaw.pre at hc;have h4:(WTm.not (.lt (.lit (.int (n:Int))) (.len (.arg 0)))).holds [] { args:=[.list (ns.map .int)] }=true:=by
   have h4:=(holds_andW hc).1;rw[hn]at h4;exact h4
  have h5:=condW_of h4 (w_not (w_lt w_lit (w_len_list (w_arg rfl))));rw[qAq]at h5;refine Nat.le_of_not_lt fun q=>?_
  have q':(n:Int)<((ns.length:Nat):Int):=by omega
  first
   |(rw[decide_eq_true q']at h5;exact absurd h5 (by decide))
   |(simp at h5;omega)
 cases hwl with
 |cons w1 w2=>
  cases w2;cases w1 with
  |list ho hall=>exact⟨_,_,ns,rfl,rfl,ho,zGM ns _ hall,hlen⟩
theorem zOP(l:OpenLaw)(args:List WData):l.row.toRowW.claim.post args (.bool true) args=true:=
 postW_of (r:=l.row.toRowW) (X:=(true==true))
  (show WShape.has [] (.bool true) .bool=true by first|rfl|decide|simp[WShape.has,WShape.arms,WShape.armsAll])
  (show(WTm.eq .res (.lit (.bool true))).value [] { args:=args,res:=some (.bool true),after:=args }=some (.bool (true==true)) from w_eq_bool (w_res rfl) w_lit) rfl
section
variable{prog:Program}{w:World}{A:Around}{E:Value->Shared->Prop}{s:Shared}{K:Frag}
end
end Att
namespace L2
open PySem PySem.Spec PyProof.Rows
theorem zJ8:∀{vs:List Value}{ns:List Int},IntsAre vs ns->Vals (ns.map V.int) vs
 |_,_,.nil=>.nil
 |_,_,.cons n t h=>.cons ⟨t,rfl⟩ (zJ8 h)
abbrev KOf{K:qA0}{h:Heap}(_:K.In h):qA0:=K
noncomputable def zB5(s:Stmt):Arguments:=match s with
 |.FunctionDef _ a _ _ _ _ _ _ _ _=>a
 |_=>{ posonlyargs:=[],args:=[],vararg:=none,kwonlyargs:=[],kw_defaults:=[],kwarg:=none,defaults:=[] }
noncomputable def zAY(s:Stmt):List Stmt:=match s with
 |.FunctionDef _ _ b _ _ _ _ _ _ _=>b
 |_=>[]
noncomputable def zA5(s:Stmt):Scope:=match s with
 |.FunctionDef _ _ _ _ _ _ sc _ _ _=>sc
 |_=>{ kind:=.function,names:=[],isGenerator:=false,isCoroutine:=false }
abbrev CX0:CXT:=fun _ _ _ _ _ _=>False
abbrev E0:XK:=fun _ _ _=>False
theorem zXV{X:Cx}:zFT CX0 X E0:=fun _ _ _ _ _ _ _ h=>h.elim
structure Fun(K:qA0)(x qual:Str)(st:Stmt)(f:Addr)(fd:FuncData):Prop where
 ex:∃(oc:Value)(od:Option Addr)(kV doc pm:Value)(an:Option Addr)(cdv ct:Value)(osl:Array (Option Value)),
  fd=qAx x qual (zB5 st) (zAY st) (zA5 st) .none kV doc pm an cdv ct/\K.lookup f=some ⟨oc,od,.func fd,osl⟩/\qAy K cdv qual=true
 kp:qAd K (.ref f)=true
section
variable{P:Program}{w:World}{K:qA0}{mg:Str->Option Value}{base:Heap}
theorem Fun.ok{x qual:Str}{st:Stmt}{f:Addr}{fd:FuncData}{N ps:List Str}{k:Nat}{sp:Sp}(F:Fun K x qual st f fd)(S:FnScope N ps (zA5 st))(len:∀vs H Q E,sp vs H Q E->vs.length=ps.length)
  (hbody:∀(cdv:Value)(A:Around)(outer:List Env)(s:Shared)(H:Hp)(vs:List V)(Q:VK)(E:XK),Room k (A.deeper (envOfC qual (zA5 st) s.heap.objs.size f cdv))->sp vs H Q E ->
   ∃t,PSs (cxOf CX0 P w K mg base N qual (zA5 st) f cdv A outer s H E).nox (zAY st) t/\t { nx:=fun _ H'=>Q .non H',rt:=Q } (start N vs) H):FnOk P w K mg base CX0 (k+1) f fd ps sp:=by
 obtain⟨oc,od,kV,doc,pm,an,cdv,ct,osl,rfl,lk,hcd⟩:=F.ex;refine zX4 lk hcd S len fun A outer s H vs Q E hr hsp=>?_
 obtain⟨t,h,q⟩:=hbody cdv A outer s H vs Q E hr hsp;exact⟨t,h.nox,q⟩
theorem Fun.binds{x qual:Str}{st:Stmt}{f:Addr}{fd:FuncData}{ps:List Str}(F:Fun K x qual st f fd)
  (h:∀(kV doc pm:Value)(an:Option Addr)(cdv ct:Value)(us:List Value),us.length=ps.length->bindArgs (qAx x qual (zB5 st) (zAY st) (zA5 st) .none kV doc pm an cdv ct) ⟨us,[]⟩=pure (ps.zip us)):Binds K fd ps []:=by
 obtain⟨oc,od,kV,doc,pm,an,cdv,ct,osl,rfl,lk,hcd⟩:=F.ex;exact .all (h kV doc pm an cdv ct)
theorem zCU{x qual:Str}{st:Stmt}{f:Addr}{oc:Value}{od an:Option Addr}{osl:Array (Option Value)}{kV doc pm cdv ct:Value}(l:K.lookup f=some ⟨oc,od,.func (qAx x qual (zB5 st) (zAY st) (zA5 st) .none kV doc pm an cdv ct),osl⟩)
  (c:qAy K cdv qual=true) (k:qAd K (.ref f)=true):Fun K x qual st f (qAx x qual (zB5 st) (zAY st) (zA5 st) .none kV doc pm an cdv ct):=⟨⟨oc,od,kV,doc,pm,an,cdv,ct,osl,rfl,l,c⟩,k⟩
end
section
variable{X:Cx}
theorem pv(i:Nat){x:Str}{pos:Pos}(hN:X.N[i]?=some x:=by rfl)(hv:Vis X.env.scope x:=by first|exact qHg rfl|exact qH7 (qHg rfl)|exact qH7 (qH7 rfl))(hd:(x==("__debug__":Str))=false:=by decide)
  (hcd:(x==("__classdict__":Str))=false:=by decide):PE X (.Name x pos) (tVar i):=zSO hN hv hd hcd
end
def Same(H H':Hp):Prop:=∀b o,H b=some o->H' b=some o
theorem Same.refl(H:Hp):Same H H:=fun _ _ h=>h
theorem Same.trans{H H1 H2:Hp}(a:Same H H1)(b:Same H1 H2):Same H H2:=fun c o h=>b c o (a c o h)
theorem Same.free{H H':Hp}(e:Same H H'){l:Addr}(h:H' l=qFf):H l=qFf:=by
 cases q:H l with
 |none=>rfl
 |some o=>
  rw[e l o q]at h;cases h
theorem Same.seq{K:qA0}{H H':Hp}{a:Addr}{xs:List V}(e:Same H H')(h:SqL K H a xs):SqL K H' a xs:=by
 rcases h with(h|⟨o,h⟩)|h
 ·exact .inl (.inl (e _ _ h))
 ·exact .inl (.inr ⟨o,e _ _ h⟩)
 ·exact .inr h
section
variable{κ:Type}[DecidableEq κ]
end
end L2
namespace L2
open PySem PySem.Spec PyProof.Rows
theorem asN{a b:Nat}(h:a<b):a<b:=h
theorem asL{a b:Nat}(h:a<=b):a<=b:=h
theorem asE{a b:Nat}(h:a=b):a=b:=h
noncomputable def clos(cells:List (Str×Addr)):List (Str×NameKind)->List (Str×Addr)->List (Str×Addr)
 |[],acc=>acc
 |(n,k)::r,acc=>if k==.free then clos cells r ((n,(cells.lookup n).getD 0)::acc)else clos cells r acc
theorem zE3(cells:List (Str×Addr)):∀(names:List (Str×NameKind))(acc:List (Str×Addr)),clos cells names acc=clos cells names []++acc
 |[],_=>rfl
 |(n,k)::r,acc=>by
  unfold clos
  split
  ·rw[zE3 cells r (_::acc),zE3 cells r [_],qB7];rfl
  ·exact zE3 cells r acc
theorem zG1{cells:List (Str×Addr)}{x:Str}{c:Addr}:∀{names:List (Str×NameKind)},(x,c)∈clos cells names []->(x,NameKind.free)∈names/\c=(cells.lookup x).getD 0
 |[],h=>by simp[clos]at h
 |(n,k)::r,h=>by
  unfold clos at h
  split at h
  ·rename_i hk
   rw[zE3]at h
   rcases qCg.mp h with h|h
   ·obtain⟨h1,h2⟩:=zG1 h;exact⟨qAo _ h1,h2⟩
   ·have e:=qBs.mp h
    injection e with e1 e2
    subst e1;have hk':k=.free:=by simpa using hk
    subst hk';exact⟨qAv,e2⟩
  ·obtain⟨h1,h2⟩:=zG1 h;exact⟨qAo _ h1,h2⟩
theorem zIX{cells:List (Str×Addr)}{x:Str}:∀{names:List (Str×NameKind)},(x,NameKind.free)∈names->(x,(cells.lookup x).getD 0)∈clos cells names []
 |[],h=>by simp at h
 |(n,k)::r,h=>by
  unfold clos
  rcases qA7.mp h with e|h
  ·injection e with e1 e2
   subst e1;subst e2;rw[if_pos (by rfl),zE3];exact qAw _ (by simp)
  ·split
   ·rw[zE3];exact qD6 _ (zIX h)
   ·exact zIX h
theorem zBP:∀(names:List (Str×NameKind))(n:Nat)(acc:List (Str×Addr)),cellsFrom n names acc=cellsFrom n names []++acc
 |[],_,_=>rfl
 |(x,k)::r,n,acc=>by
  unfold cellsFrom
  split
  ·rw[zBP r (n+1) (_::acc),zBP r (n+1) [_],qB7];rfl
  ·exact zBP r n acc
theorem zCO{x:Str}{c:Addr}:∀{names:List (Str×NameKind)}{n:Nat},(x,c)∈cellsFrom n names []->(x,NameKind.cell)∈names
 |[],_,h=>by simp[cellsFrom]at h
 |(y,k)::r,n,h=>by
  unfold cellsFrom at h
  split at h
  ·rename_i hk
   rw[zBP]at h
   rcases qCg.mp h with h|h
   ·exact qAo _ (zCO h)
   ·have e:=qBs.mp h
    injection e with e1 e2
    subst e1;have hk':k=.cell:=by simpa using hk
    subst hk';exact qAv
  ·exact qAo _ (zCO h)
theorem zCB{α:Type}{x:Str}{a:α}:∀{l:List (Str×α)},(l.map (·.1)).Nodup->(x,a)∈l->l.lookup x=some a
 |[],_,h=>by simp at h
 |(y,b)::r,nd,h=>by
  have nd':(y::r.map (·.1)).Nodup:=nd;obtain⟨h1,h2⟩:=qCx.mp nd'
  rcases qA7.mp h with e|hm
  ·injection e with e1 e2
   subst e1;subst e2;rw[qB0,beq_self_eq_true]
  ·have hne:(x==y)=false:=by
    rw[beq_eq_false_iff_ne]
    rintro rfl
    exact h1 (qC8.mpr ⟨(x,a),hm,rfl⟩)
   rw[qB0,hne];exact zCB h2 hm
theorem zE9{α:Type}{x:Str}:∀{l:List (Str×α)},(∀a,(x,a)∉l)->l.lookup x=none
 |[],_=>rfl
 |(y,b)::r,h=>by
  have hne:(x==y)=false:=by
   rw[beq_eq_false_iff_ne]
   rintro rfl
   exact h b qAv
  rw[qB0,hne];exact zE9 fun a m=>h a (qAo _ m)
theorem zE8{α:Type}{x:Str}{a:α}:∀{l:List (Str×α)},(x,a)∈l->∃b,l.lookup x=some b
 |[],h=>by simp at h
 |(y,b)::r,h=>by
  rw[qB0];cases e:x==y with
  |true=>exact⟨b,rfl⟩
  |false=>
   rcases qA7.mp h with q|q
   ·injection q with q1 _
    subst q1;rw[beq_self_eq_true]at e;cases e
   ·exact zE8 q
theorem zHO{α:Type}{x:Str}:∀(l k:List (Str×α)),(l++k).lookup x=(l.lookup x).or (k.lookup x)
 |[],k=>by simp
 |(y,b)::r,k=>by
  show qB6 x ((y,b)::(r++k))=_;rw[qB0,qB0];cases x==y with
  |true=>rfl
  |false=>exact zHO r k
def zXG(sc:Scope)(env:Env):Prop:=∀x,(x,NameKind.free)∈sc.names->env.kindOf x=some .cell\/env.kindOf x=some .free
theorem zFA{sc:Scope}{env:Env}(h:∀x,(x,NameKind.free)∈sc.names->∃c,env.cells.lookup x=some c):closureFor sc env=pure (clos env.cells sc.names []):=by
 have go:∀(names:List (Str×NameKind))(acc:List (Str×Addr)),(∀x,(x,NameKind.free)∈names->∃c,env.cells.lookup x=some c) ->
   (forIn names acc fun(x:Str×NameKind)(cs:List (Str×Addr))=>(match x with|(name,kind)=>if(kind==NameKind.free)=true then(do let c <- cellOf env name;pure (qCy ((name,c)::cs)))else pure (qCy cs):Sem (ForInStep (List (Str×Addr)))))=pure (clos env.cells names acc):=by
  intro names
  induction names with
  |nil=>intro acc _;rfl
  |cons p r ih=>
   intro acc hn;obtain⟨n,k⟩:=p;have hr:∀x,(x,NameKind.free)∈r->∃c,env.cells.lookup x=some c:=fun x hx=>hn x (qAo _ hx)
   rw[qF3];unfold clos
   by_cases hk:(k==NameKind.free)=true
   ·have hk':k=.free:=by simpa using hk
    subst hk';obtain⟨c,hc⟩:=hn n qAv;have e:cellOf env n=pure c:=by unfold cellOf;rw[hc]
    rw[if_pos (by rfl)];simp only[if_pos (show(NameKind.free==NameKind.free)=true from rfl),e,hc,qEq,pure_bind];exact ih _ hr
   ·rw[if_neg hk];simp only[if_neg hk,pure_bind];exact ih _ hr
 unfold closureFor;have q:=go sc.names [] h
 first
  |(rw[show(forIn sc.names ([]:List (Str×Addr)) _:Sem (List (Str×Addr)))=_ from q];rfl)
  |(refine(congrArg (fun z=>z >>= pure) q).trans ?_;rfl)
  |(simp only[q];rfl)
  |exact q
def zE2(sc:Scope)(C:Addr)(env:Env):Env:=
 { scope:=relabel sc env,locals:=C,globals:=env.globals,cells:=cellsFrom (C+1) sc.names (clos env.cells sc.names []),qual:=env.qual,func:=none,code:=env.code,frame:=env.frame,builtins:=env.builtins }
theorem zET{M:Model}{A:Around}{E:Value->Shared->Prop}{s:Shared}{sc:Scope}{env:Env}{cl:List (Str×Addr)}{Q:Env->Shared->Prop}
  (hQ:Q { scope:=sc,locals:=s.heap.objs.size,globals:=env.globals,cells:=cellsFrom (s.heap.objs.size+1) sc.names cl,qual:=env.qual,func:=none,code:=env.code,frame:=env.frame,builtins:=env.builtins }
   { s with heap:=pushCells (s.heap.push { cls:=.type "dict",data:=.dict #[] }) sc.names }) :
  wpAny M A (newFunctionEnv sc env.globals cl [] env.qual none .none (some env)) Q E s:=by
 simp only[newFunctionEnv,qFl,if_true];refine wpAny_bind (wpAny_alloc ?_);refine wpAny_bind (wpAny_layCells _ (fun name kind cells=>by cases hkc:kind==NameKind.cell<;>simp[hkc]) _ _ _ _ ?_);rw[show({ s with heap:=s.heap.push { cls:=.type "dict",data:=.dict #[] } }:Shared).heap.objs.size=s.heap.objs.size+1 from Heap.size_push ..];refine wpAny_bind ?_;rw[List.forIn_nil];exact wpAny_pure (wpAny_pure hQ)
def zD6(X:Cx)(N':List Str)(sc:Scope)(C:Addr)(s:Shared)(H:Hp)(fp:List Addr):Cx:=
 { X with N:=N',s₀:=s,H₀:=H,env:=zE2 sc C X.env,outer:=X.stack,stack:=X.stack,ex:=fp,fn:=fun x=>sc.names.lookup x==some .cell,pn:=[],xe:=fun _ _=>False }
def PTs(X:Cx)(ifs:List Expr)(t:TT):Prop:=
 ∀(pins:List (Addr×Obj))(s:Shared)(σ:St)(H:Hp)(Q:Bool->Hp->Prop),Inv X pins σ H s->t σ H Q ->
  wpAny (model X.prog X.w) X.A (forIn ifs true fun c r=>if r=true then do let ok <- isTrue c X.env (eval c X.env);pure (qCy ok)else pure (qCy r)) (TP X pins σ Q) X.xe s
noncomputable def tYes:TT:=fun _ H Q=>Q true H
theorem zON{X:Cx}{c:Expr}{t:TT}(h:PT X c t):PTs X [c] t:=fun pins s σ H Q I q=>wpAny_tests_one (h pins s σ H Q I q)
structure CompNames(N N':List Str)(k:Nat)(sc:Scope)(env:Env):Prop where
 kind:sc.kind=.function
 nd:(sc.names.map (·.1)).Nodup
 len:N'.length=N.length+k
 old:∀(i:Nat)(x:Str),N'[i]?=some x->i<N.length->(x,NameKind.free)∈sc.names/\N[i]?=some x\/sc.names.lookup x=none
 free:zXG sc env
theorem zBQ{sc:Scope}{env:Env}{x:Str}{k:NameKind}:∀{names:List (Str×NameKind)},
  (names.map fun(n,k)=>if(k==NameKind.free&&env.scope.kind==.function&&env.kindOf n==some .cell)then(n,NameKind.cell)else(n,k)).lookup x=some k ->
  names.lookup x=some k\/(names.lookup x=some .free/\k=.cell)
 |[],h=>by simp at h
 |(n,j)::r,h=>by
  have ih:=@zBQ sc env x k r;rw[qAu]at h;rw[qB0]
  by_cases hc:(j==NameKind.free&&env.scope.kind==.function&&env.kindOf n==some .cell)=true
  ·have h':qB6 x ((n,NameKind.cell)::(r.map fun(n,k)=>if(k==NameKind.free&&env.scope.kind==.function&&env.kindOf n==some .cell)then(n,NameKind.cell)else(n,k)))=some k:=by
    rw[<- h];simp only[if_pos hc]
   rw[qB0]at h';cases e:x==n with
   |true=>
    rw[e]at h';have hk:k=.cell:=(qBq h').symm;have hj:j=.free:=by
     simp only[qB9,beq_iff_eq]at hc;exact hc.1.1
    subst hj;exact .inr ⟨rfl,hk⟩
   |false=>
    rw[e]at h';exact ih h'
  ·have h':qB6 x ((n,j)::(r.map fun(n,k)=>if(k==NameKind.free&&env.scope.kind==.function&&env.kindOf n==some .cell)then(n,NameKind.cell)else(n,k)))=some k:=by
    rw[<- h];simp only[if_neg hc]
   rw[qB0]at h';cases e:x==n with
   |true=>rw[e]at h';exact .inl h'
   |false=>rw[e]at h';exact ih h'
section
variable{X:Cx}{N':List Str}{k:Nat}{sc:Scope}{pins:List (Addr×Obj)}{σ:St}{H:Hp}{s:Shared}
theorem zNS{C:Addr}{x:Str}{c:Addr}(nd:(sc.names.map (·.1)).Nodup)(h:(zE2 sc C X.env).cells.lookup x=some c) :
  ((x,c)∈cellsFrom (C+1) sc.names []/\(x,NameKind.cell)∈sc.names)\/((x,NameKind.free)∈sc.names/\c=(X.env.cells.lookup x).getD 0):=by
 have m:=mem_of_lookup h;have m':(x,c)∈cellsFrom (C+1) sc.names (clos X.env.cells sc.names []):=m;rw[zBP]at m'
 rcases qCg.mp m' with z|z
 ·exact .inl ⟨z,zCO z⟩
 ·exact .inr (zG1 z)
theorem zEC{C:Addr}{x:Str}(nd:(sc.names.map (·.1)).Nodup)(h:(x,NameKind.free)∈sc.names):(zE2 sc C X.env).cells.lookup x=some ((X.env.cells.lookup x).getD 0):=by
 show(cellsFrom (C+1) sc.names (clos X.env.cells sc.names [])).lookup x=_
 rw[zBP,zHO,zE9 (fun a m=>?_),Option.none_or]
 ·obtain⟨b,hb⟩:=zE8 (zIX (cells:=X.env.cells) h)
  have:=(zG1 (mem_of_lookup hb)).2
  rw[hb,this]
 ·have e1:=zCB nd (zCO m);rw[zCB nd h]at e1;cases e1
theorem zRO(I:Inv X pins σ H s)(hc:X.calm=true)(S:CompNames X.N N' k sc X.env){fp:List Addr}(hf:∀b∈fp,FpOk X pins H b)(hfo:∀b∈fp,∃o,s.heap.get? b=some o)
  {s4:Shared} {D C:Addr} (eD:D=s.heap.objs.size) (eC:C=s.heap.objs.size+1)
  (e4:s4={ s with heap:=pushCells ((s.heap.push { cls:=.type "list",data:=.seq #[] 0 }).push { cls:=.type "dict",data:=.dict #[] }) sc.names }) :
  Inv (zD6 X N' sc C s H fp) [(D,{ cls:=.type "list",data:=.seq #[] 0 })] (σ++qAm k none) H s4/\∀b∈fp,FpOk (zD6 X N' sc C s H fp) [(D,{ cls:=.type "list",data:=.seq #[] 0 })] H b:=by
 subst eD eC e4
 generalize hh1:s.heap.push { cls:=.type "list",data:=.seq #[] 0 }=h1
 generalize hh2:h1.push { cls:=.type "dict",data:=.dict #[] }=h2
 have sz1:h1.objs.size=s.heap.objs.size+1:=by rw[<- hh1];exact Heap.size_push ..
 have sz2:h2.objs.size=s.heap.objs.size+2:=by rw[<- hh2,Heap.size_push,sz1]
 have k1:∀b o,s.heap.get? b=some o->h1.get? b=some o:=fun b o e=>by rw[<- hh1];exact Heap.get?_push_of_some _ e
 have k2:∀b o,h1.get? b=some o->h2.get? b=some o:=fun b o e=>by rw[<- hh2];exact Heap.get?_push_of_some _ e
 have k3:∀b o,h2.get? b=some o->(pushCells h2 sc.names).get? b=some o:=pushCells_keeps sc.names h2;have kk:∀b o,s.heap.get? b=some o->(pushCells h2 sc.names).get? b=some o:=fun b o e=>k3 b o (k2 b o (k1 b o e))
 have own:CellsOk (pushCells h2 sc.names) h2.objs.size (cellsFrom h2.objs.size sc.names []):=cellsFrom_ok sc.names h2 h2.objs.size [] ⟨fun _ _ hm=>(nomatch hm),qFw⟩ (qA4 _);have eC1:s.heap.objs.size+1+1=h2.objs.size:=by rw[sz2]
 have freeCell:∀x,(x,NameKind.free)∈sc.names->∃c,X.env.cells.lookup x=some c:=fun x hx=>I.ok.has x (S.free x hx)
 have cells:∀x c,(zE2 sc (s.heap.objs.size+1) X.env).cells.lookup x=some c ->
   ((x,c)∈cellsFrom h2.objs.size sc.names []/\(x,NameKind.cell)∈sc.names/\(pushCells h2 sc.names).IsCell c none/\h2.objs.size<=c)\/((x,NameKind.free)∈sc.names/\X.env.cells.lookup x=some c):=fun x c e=>by
  rcases zNS S.nd e with⟨m,q⟩|⟨m,q⟩
  ·rw[eC1]at m;exact .inl ⟨m,q,(own.empty x c m).1,(own.empty x c m).2⟩
  ·obtain⟨c',hc'⟩:=freeCell x m;rw[hc',qEq]at q;subst q;exact .inr ⟨m,hc'⟩
 have old:∀x c,X.env.cells.lookup x=some c->c<s.heap.objs.size:=fun x c e=>by
  obtain⟨v,q⟩:=I.cell x c e;exact q.lt
 have fpl:∀b∈fp,b<s.heap.objs.size:=fun b hb=>by
  obtain⟨o,e⟩:=hfo b hb;exact Heap.lt_size e
 have hCn:H (s.heap.objs.size+1)=none:=I.hok.fresh (qBr _);have hDn:H s.heap.objs.size=none:=I.hok.fresh (qA4 _);have nofs:∀a,s.heap.objs.size<=a->a∉frs X.stack:=fun a ha hb=>by
  rcases qA7.mp (I.stkSub a hb)with e|hb
  ·have t1:=asN I.lt;have t2:=asE e;have t3:=asL ha
   lia
  ·exact I.nofs ha hb
 have fin:∀b∈fp,b∉frs X.stack:=fun b hb z=>by
  obtain⟨f0,f1,f2,f3,f4,f5⟩:=hf b hb
  rcases qA7.mp (I.stkSub b z)with e|z
  ·exact f1 e
  ·exact f2 z
 have ok:(zD6 X N' sc (s.heap.objs.size+1) s H fp).Ok:=by
  refine⟨I.ok.mod,S.kind,I.ok.glob,I.ok.blt,qBr _,?_,?_,?_,I.ok.hd,I.ok.frames,.inl rfl,?_,I.bs,qAr I.ok.bsz I.sz,?_,fin,I.stack,I.stkFree⟩
  ·intro x y c hx hy
   rcases cells x c hx with⟨m1,_,_,g1⟩|⟨m1,g1⟩<;>rcases cells y c hy with⟨m2,_,_,g2⟩|⟨m2,g2⟩
   ·exact name_of_addr own.apart m1 m2
   ·exact absurd (qAc (old y c g2) (qAr (by rw[sz2];exact qGa _ _) g1)) (qC3 _)
   ·exact absurd (qAc (old x c g1) (qAr (by rw[sz2];exact qGa _ _) g2)) (qC3 _)
   ·exact I.ok.inj x y c g1 g2
  ·intro x hx;have hx:(relabel sc X.env).names.lookup x=some .cell\/(relabel sc X.env).names.lookup x=some .free:=hx;have two:sc.names.lookup x=some .cell\/sc.names.lookup x=some .free:=by
    rcases hx with hx|hx
    ·rcases zBQ (sc:=sc) hx with q|⟨q,_⟩
     ·exact .inl q
     ·exact .inr q
    ·rcases zBQ (sc:=sc) hx with q|⟨_,q⟩
     ·exact .inr q
     ·cases q
   rcases two with q|q
   ·have:=qDe sc.names (s.heap.objs.size+1+1) (clos X.env.cells sc.names []) (.inl q)
    exact qE8.mp this
   ·exact⟨_,zEC S.nd (mem_of_lookup q)⟩
  ·intro x c hx e;have hx:(sc.names.lookup x==some NameKind.cell)=true:=hx;have hx':sc.names.lookup x=some .cell:=by simpa using hx
   rcases cells x c e with⟨_,_,_,g⟩|⟨m,_⟩
   ·show s.heap.objs.size<=c
    lia
   ·rw[zCB S.nd m]at hx';cases hx'
  ·intro b hb;refine⟨?_,fun x c e z=>?_⟩
   ·exact qAf (qBh (fpl b hb))
   ·rcases cells x c e with⟨_,_,_,g⟩|⟨_,g⟩
    ·have t1:=asN (fpl b hb);have t2:=asL g;have t3:=asE z
     lia
    ·exact(hf b hb).2.2.2.2.1 x c g z
  ·intro b o e hb
   rcases(hf b hb).2.2.2.1 with z|z
   ·exact I.ok.noex b o e z
   ·exact absurd (qAc (Heap.lt_size e) (qAr I.ok.bsz z)) (qC3 _)
 have ns:(pushCells h2 sc.names).Ns (s.heap.objs.size+1) fun _=>none:=by
  have q:h2.Ns h1.objs.size fun _=>none:=by rw[<- hh2];exact Heap.Ns.new h1 (.type "dict")
  rw[sz1]at q;exact q.keeps k3
 have hD1:h1.get? s.heap.objs.size=some { cls:=.type "list",data:=.seq #[] 0 }:=by rw[<- hh1];exact Heap.get?_push_size _ rfl
 refine⟨⟨ok,rfl,I.bare,Un.kept kk,⟨_,ns,?_⟩,?_,hCn,?_,?_,I.hok.kept kk,?_⟩,?_⟩
 ·intro i x v h1 h2 h3;have hi:i<X.N.length:=by
   rw[<- I.len]
   by_cases hi:i<σ.length
   ·exact hi
   ·rw[qA8 (by lia),qC5]at h2
    split at h2<;>cases h2
  have h2':σ[i]?=some (some v):=by
   rw[qAa (by rw[I.len];exact hi)]at h2;exact h2
  have h1:N'[i]?=some x:=h1
  rcases S.old i x h1 hi with⟨m,e⟩|e
  ·obtain⟨mm,hn,hl⟩:=I.loc;have hv:Vis X.env.scope x:=(S.free x m).elim (fun z=>.inr (.inl z)) fun z=>.inr (.inr z)
   obtain⟨u,r,l⟩:=hl i x v e h2' hv;refine⟨u,r,?_⟩
   rcases l with⟨z,_⟩|⟨_,c,hc,hcell⟩
   ·rcases S.free x m with z'|z'<;>rw[z]at z'<;>cases z'
   ·refine .inr ⟨?_,c,?_,hcell.keeps kk⟩
    ·have hv3:(relabel sc X.env).names.lookup x=some .local\/(relabel sc X.env).names.lookup x=some .cell\/(relabel sc X.env).names.lookup x=some .free:=h3
     rcases hv3 with q|q|q
     ·rcases zBQ (sc:=sc) q with q|⟨_,q⟩
      ·rw[zCB S.nd m]at q;cases q
      ·cases q
     ·exact .inl q
     ·exact .inr q
    ·have q:=zEC (X:=X) (C:=s.heap.objs.size+1) S.nd m;rw[hc,qEq]at q;exact q
  ·exfalso
   have hv3:(relabel sc X.env).names.lookup x=some .local\/(relabel sc X.env).names.lookup x=some .cell\/(relabel sc X.env).names.lookup x=some .free:=h3
   rcases hv3 with q|q|q<;>rcases zBQ (sc:=sc) q with q|⟨q,_⟩<;>rw[e]at q<;>cases q
 ·intro x c e
  rcases cells x c e with⟨_,_,g,_⟩|⟨_,g⟩
  ·exact⟨_,g⟩
  ·obtain⟨v,q⟩:=I.cell x c g;exact⟨v,q.keeps kk⟩
 ·intro x c e
  rcases cells x c e with⟨_,_,_,g⟩|⟨_,g⟩
  ·exact I.hok.fresh (by lia)
  ·exact I.freeC x c g
 ·intro p hp;have hp':p=(s.heap.objs.size,{ cls:=.type "list",data:=.seq #[] 0 }):=by
   have:p∈([]++[(s.heap.objs.size,({ cls:=.type "list",data:=.seq #[] 0 }:Obj))]:List (Addr×Obj)):=hp
   simpa using this
  subst hp';refine⟨k3 _ _ (k2 _ _ hD1),hDn,?_,nofs _ (qA4 _),fun v z=>by cases z⟩;show s.heap.objs.size≠s.heap.objs.size+1
  lia
 ·show(σ++qAm k none).length=N'.length
  rw[qB2,qDh,I.len,S.len]
 ·intro b hb;obtain⟨f0,f1,f2,f3,f4,f5⟩:=hf b hb;refine⟨f0,(ok.exf b hb).1,fin b hb,.inl hb,fun x c e=>(ok.exf b hb).2 x c e,fun p hp=>?_⟩;have hp':p=(s.heap.objs.size,{ cls:=.type "list",data:=.seq #[] 0 }):=by
   have:p∈([]++[(s.heap.objs.size,({ cls:=.type "list",data:=.seq #[] 0 }:Obj))]:List (Addr×Obj)):=hp
   simpa using this
  subst hp';exact qBm (fpl b hb)
end
theorem zE5{prog:Program}{w:World}{A:Around}{R:Result->Shared->Prop}{s:Shared}{elt target iter:Expr}{ifs:List Expr}{scope:Scope}{pos:Pos}{it acc:Value}{env:Env}(I:Nat->Shared->Prop)
  (turn:∀n s,I n s->wpAny (model prog w) A (pyNext it) (fun r s₁=>match r with
   |none=>R (.ok .next) s₁
   |some v=>wpAny (model prog w) A (letOwnedTupleGo target it v) (fun _ s₂'=>wpAny (model prog w) A (assign target env v) (fun _ s₂=>
     wpAny (model prog w) A (forIn ifs true fun c r=>if r=true then do let ok <- isTrue c env (eval c env);pure (qCy ok)else pure (qCy r)) (fun ok s₃=>
      if ok=true then wpAny (model prog w) A (eval elt env) (fun x s₄=>
       wpAny (model prog w) A (call (.builtin "list.append") [acc,x]) (fun _ s₅=>∃m,m<n/\I m s₅) (fun _ _=>False) s₄) (fun _ _=>False) s₃
      else ∃m,m<n/\I m s₃) (fun _ _=>False) s₂) (fun _ _=>False) s₂') (fun _ _=>False) s₁) (fun _ _=>False) s)
  (n:Nat) (h:I n s) :
  codeAny (model prog w) A (.compLoop (.ListComp elt [⟨target,iter,ifs,0⟩] scope pos) 0 it acc env) R s:=by
 refine codeAny_loop rfl I (fun n s hI=>?_) n h;show wpAny _ A ((compTurn (.ListComp elt [⟨target,iter,ifs,0⟩] scope pos) 0 it acc env).onRaise (fun x=>do noteFrame x env;theTreesLotGoes x)) _ _ s;refine wpAny_noted ?_;rw[compTurn_list];refine wpAny_bind (wpAny_standAt (wpAny_bind (wpAny_mono (turn n s hI) (fun r s₁ h₁=>?_) fun _ _ z=>z.elim)));cases r with
 |none=>exact wpAny_pure h₁
 |some v=>
  refine wpAny_bind (wpAny_mono h₁ (fun _ s₂' h₂'=>?_) fun _ _ z=>z.elim);refine wpAny_bind (wpAny_mono h₂' (fun _ s₂ h₂=>wpAny_bind (wpAny_mono h₂ (fun ok s₃ h₃=>?_) fun _ _ z=>z.elim)) fun _ _ z=>z.elim);cases ok with
  |false=>exact wpAny_pure ⟨rfl,h₃⟩
  |true=>
   exact wpAny_bind (wpAny_bind (wpAny_mono h₃ (fun x s₄ h₄=>wpAny_bind (wpAny_mono h₄ (fun _ s₅ h₅=>wpAny_pure (wpAny_pure ⟨rfl,h₅⟩)) fun _ _ z=>z.elim)) fun _ _ z=>z.elim))
def zVL(k:Nat)(g:TG)(tif:TT)(te:TE)(σ:St)(Q:VK)(J:It)(H1:Hp):Prop:=∃W:Nat->Nat->List V->Hp->Prop,(∃m,W 0 m [] H1)/\∀i m acc H,W i m acc H ->
 (J.stop i H/\∀D,H D=none->Q (.ref D) (upd H D (.lst acc))) \/
 (J.go i H/\acc.length<sizeLine/\∃N:List V->Hp->Prop,(∀acc' H',N acc' H'->∃m',m'<m/\W (i+1) m' acc' H')/\∀x H',J.yld i H x H'->g x (σ++qAm k none) H' fun σ2 H2=>∃own:St,own.length=k/\σ2=σ++own/\tif σ2 H2 fun b H3=>if b=true then te σ2 H3 fun v H4=>N (acc++[v]) H4 else N acc H3)
noncomputable def zTM(wi:TI)(k:Nat)(g:TG)(tif:TT)(te:TE):TE:=fun σ H Q=>wi σ H (zVL k g tif te σ Q)
theorem HOk.track{P:Program}{w:World}{H:Hp}{h:Heap}{a:Addr}{o:HO}(x:HOk P w H h)(hn:H a=none)(new:ObjOk P w (upd H a o) h a o):HOk P w (upd H a o) h:=fun b u e=>by
 by_cases hb:b=a
 ·subst hb;rw[zAD]at e;cases e;exact new
 ·rw[zA6 hb]at e;exact(x b u e).stay (fun c v _ q=>q) (fun c q=>by rw[zA6 (zAI q hn)];exact q) (fun c xs q=>by rw[zA6 (zAI q hn)];exact q) fun c _ _ q _=>by rw[zA6 (zAI q hn)];exact q
section
variable{X:Cx}{N':List Str}{k:Nat}{sc:Scope}{tg iter elt:Expr}{ifs:List Expr}{wi:TI}{g:TG}{tif:TT}{te:TE}{pos:Pos}
theorem zHZ{pins:List (Addr×Obj)}{σ:St}{H2:Hp}{s2:Shared}{Q:VK}{RR:Value->Addr->Result->Shared->Prop}{E:Value->Shared->Prop}(hc:X.calm=true)(S:CompNames X.N N' k sc X.env)
  (hg:∀C s H fp,PG (zD6 X N' sc C s H fp) tg g) (hif:∀C s H fp,PTs (zD6 X N' sc C s H fp) ifs tif) (he:∀C s H fp,PE (zD6 X N' sc C s H fp) elt te)
  {it:Addr} {fp:List Addr} {tn:Nat->Heap->Prop} {J:It} (I2:Inv X pins σ H2 s2) (T:Turn X.prog X.w X.K tg J fp it tn) (st2:tn 0 s2.heap) (f2:∀b∈fp,FpOk X pins H2 b)
  {W:Nat->Nat->List V->Hp->Prop} {m0:Nat} (w0:W 0 m0 [] H2)
  (turn:∀i m acc H,W i m acc H->(J.stop i H/\∀D,H D=none->Q (.ref D) (upd H D (.lst acc))) \/
   (J.go i H/\acc.length<sizeLine/\∃N:List V->Hp->Prop,(∀acc' H',N acc' H'->∃m',m'<m/\W (i+1) m' acc' H')/\∀x H',J.yld i H x H'->g x (σ++qAm k none) H' fun σ2 H2=>∃own:St,own.length=k/\σ2=σ++own/\tif σ2 H2 fun b H3=>if b=true then te σ2 H3 fun v H4=>N (acc++[v]) H4 else N acc H3))
  (hRR:∀D C s' H',D<C->s2.heap.objs.size<=D->(∃m,s'.heap.Ns C m)->H' C=none->C∉frs X.stack->Inv X pins σ H' s'->Q (.ref D) H'->RR (.ref D) C (.ok .next) s') :
  wpAny (model X.prog X.w) X.A (newList []) (fun acc s₃=>wpAny (model X.prog X.w) X.A (newFunctionEnv sc X.env.globals (clos X.env.cells sc.names []) [] X.env.qual none .none (some X.env)) (fun cenv s₄=>
   codeAny (model X.prog X.w) X.A (.compStart (.ListComp elt [⟨tg,iter,ifs,0⟩] sc pos) 0 (.ref it) acc { cenv with scope:=relabel sc X.env }) (RR acc cenv.locals) s₄) E s₃) E s2:=by
 refine wpAny_newObj_type (zET ?_);show codeAny _ _ (.compStart _ 0 (.ref it) (.ref s2.heap.objs.size) _) _ _;have szp:(s2.heap.push { cls:=.type "list",dict:=none,data:=.seq ([]:List Value).toArray }).objs.size=s2.heap.objs.size+1:=Heap.size_push ..;obtain⟨I4,F4⟩:=zRO (s4:={ s2 with heap:=pushCells ((s2.heap.push { cls:=.type "list",data:=.seq #[] 0 }).push { cls:=.type "dict",data:=.dict #[] }) sc.names }) I2 hc S f2 (fun b hb=>let⟨o,e,_⟩:=T.obj 0 _ st2 b hb;⟨o,e⟩) rfl rfl rfl
 generalize hC:(s2.heap.push { cls:=.type "list",dict:=none,data:=.seq ([]:List Value).toArray }).objs.size=C at *
 have eC:C=s2.heap.objs.size+1:=szp;rw[<- eC]at I4 F4
 generalize hs4:({ s2 with heap:=pushCells ((s2.heap.push { cls:=.type "list",data:=.seq #[] 0 }).push { cls:=.type "dict",data:=.dict #[] }) sc.names }:Shared)=s4 at I4 F4
 have kk:∀b o,s2.heap.get? b=some o->s4.heap.get? b=some o:=fun b o e=>by
  rw[<- hs4];exact pushCells_keeps sc.names _ b o (Heap.get?_push_of_some _ (Heap.get?_push_of_some _ e))
 have st4:tn 0 s4.heap:=T.keep 0 _ _ st2 fun b _ o e=>kk b o e
 generalize hX':zD6 X N' sc C s2 H2 fp=X' at I4 F4
 have henv:X'.env=zE2 sc C X.env:=by rw[<- hX'];rfl
 have xprog:X'.prog=X.prog:=by rw[<- hX'];rfl
 have xw:X'.w=X.w:=by rw[<- hX'];rfl
 have xK:X'.K=X.K:=by rw[<- hX'];rfl
 have xcalm:X'.calm=true:=by rw[<- hX'];exact hc
 have xA:X'.A=X.A:=by rw[<- hX'];rfl
 have xpn:X'.pn=[]:=by rw[<- hX'];rfl
 have xxe:X'.xe=fun _ _=>False:=by rw[<- hX'];rfl
 have xs0:X'.s₀=s2:=by rw[<- hX'];rfl
 have xH0:X'.H₀=H2:=by rw[<- hX'];rfl
 have xfs:X'.fs=frs X.stack:=by rw[<- hX'];rfl
 have xex:X'.ex=fp:=by rw[<- hX'];rfl
 have hgX:PG X' tg g:=by rw[<- hX'];exact hg C s2 H2 fp
 have hifX:PTs X' ifs tif:=by rw[<- hX'];exact hif C s2 H2 fp
 have heX:PE X' elt te:=by rw[<- hX'];exact he C s2 H2 fp
 have locC:X'.env.locals=C:=by rw[henv];rfl
 generalize hDd:s2.heap.objs.size=D at *
 have loop:codeAny (model X.prog X.w) X.A (.compLoop (.ListComp elt [⟨tg,iter,ifs,0⟩] sc pos) 0 (.ref it) (.ref D) (zE2 sc C X.env)) (RR (.ref D) C) s4:=by
  refine zE5 (fun n s'=>∃i H' acc its nn,Inv X' [] (σ++qAm k none) H' s'/\tn i s'.heap/\(∀b∈fp,H' b=none)/\H' D=none/\W i n acc H'/\acc.length<=sizeLine/\Vals acc its/\s'.heap.get? D=some { cls:=.type "list",data:=.seq its.toArray nn }) ?_ m0 ?_
  ·rintro n s5 ⟨i,H5,acc,its,nn,I5,st5,fr5,hD5,w5,hz5,rv5,hL5⟩
   have hDlt:D<C:=by rw[eC];exact qBp _
   have pinD:Inv X' [(D,{ cls:=.type "list",data:=.seq its.toArray nn })] (σ++qAm k none) H5 s5:=I5.pins_of fun p hp=>by
    have hp':p=(D,{ cls:=.type "list",data:=.seq its.toArray nn }):=by simpa using hp
    subst hp';refine⟨hL5,hD5,?_,?_,fun v z=>by cases z⟩
    ·rw[locC];exact qAf hDlt
    ·have q:=(I4.pin (D,{ cls:=.type "list",data:=.seq #[] 0 }) (by simp)).2.2.2.1;exact q
   have fpD:∀{H':Hp}{oo:Obj},(∀b∈fp,H' b=none)->∀b∈fp,FpOk X' [(D,oo)] H' b:=fun{H' oo} hn b hb=>by
    obtain⟨f0,f1,f2,f3,f4,f5⟩:=F4 b hb;refine⟨hn b hb,f1,f2,f3,f4,fun p hp=>?_⟩;have hp':p=(D,oo):=by
     rw[xpn]at hp
     simpa using hp
    subst hp';exact f5 (D,{ cls:=.type "list",data:=.seq #[] 0 }) (by simp)
   rcases turn i n acc H5 w5 with⟨stop,q⟩|⟨go,hlt,N,hN,step⟩
   ·have dn:=T.done X' xprog xw xK xcalm i _ s5 _ H5 (fun _ _=>False) pinD (fpD fr5) st5 stop;rw[xA]at dn;refine thn dn fun r s6 z0=>?_
    obtain⟨hr,I6⟩:=z0;subst hr;show RR (.ref D) C (.ok .next) s6;have hL6:=(I6.pin (D,{ cls:=.type "list",data:=.seq its.toArray nn }) (by simp)).1;have un6:Un (frs X.stack) fp H2 H5 s2.heap s6.heap:=by
     have:=I6.base
     rw[xs0,xH0,xfs,xex]at this;exact this
    have hok6:HOk X.prog X.w H5 s6.heap:=by
     have:=I6.hok
     rw[xprog,xw]at this;exact this
    have hDno:s2.heap.get? D=none:=Heap.get?_none_of_le (by rw[hDd];exact qA4 _);have un7:Un (frs X.stack) fp H2 (upd H5 D (.lst acc)) s2.heap s6.heap:=
     ⟨un6.keep,un6.slot,fun b o e n hx=>by
       have hb:b≠D:=by rintro rfl;rw[hDno]at e;cases e
       rw[zA6 hb];exact un6.free b o e n hx,un6.there,
      fun b xs e=>by
       have e':=un6.tups b xs e;rw[zA6 (zAI e' hD5)];exact e',
      fun b o u e=>by
       have e':=un6.frzs b o u e;rw[zA6 (zAI e' hD5)];exact e',
      fun b ps e=>by
       obtain⟨more,e'⟩:=un6.tbls b ps e;exact⟨more,by rw[zA6 (zAI e' hD5)];exact e'⟩⟩
    have hok7:HOk X.prog X.w (upd H5 D (.lst acc)) s6.heap:=hok6.track hD5 ⟨hz5,its,nn,rv5,hL6⟩;have os6:s6.os=s2.os:=by have:=I6.os;rw[xs0]at this;exact this
    have I7:Inv X pins σ (upd H5 D (.lst acc)) s6:=I2.call' os6 un7 hok7 I6.bare fun b hb=>by
     obtain⟨f0,f1,f2,f3,f4,f5⟩:=f2 b hb;exact⟨f3,f1,f4,f5⟩
    obtain⟨mm,hn,_⟩:=I6.loc;rw[locC]at hn;have hC5:H5 C=none:=by have:=I6.free;rw[locC]at this;exact this
    refine hRR D C s6 (upd H5 D (.lst acc)) hDlt (qA4 _) ⟨mm,hn⟩ ?_ ?_ I7 (q D hD5)
    ·rw[zA6 (qBm hDlt)];exact hC5
    ·intro hb
     rcases qA7.mp (I2.stkSub C hb)with e|hb
     ·have t1:=asN I2.lt;have t2:=asE e;rw[hDd]at t1;have t3:=asN hDlt
      lia
     ·exact I2.nofs (by rw[hDd];exact qCj hDlt) hb
   ·have itm:=T.item X' xprog xw xK xcalm i _ s5 _ H5 (fun _ _=>False) pinD (fpD fr5) st5 go;rw[xA]at itm;refine thn itm fun r s6 z0=>?_
    obtain⟨u,hr,h6⟩:=z0;subst hr;refine thn h6 fun _ s7 z0=>?_
    obtain⟨x,H7,I7,r7,y7,st7,fr7⟩:=z0;have I7':Inv X' ([(D,{ cls:=.type "list",data:=.seq its.toArray nn })]++zHJ fp s7.heap) (σ++qAm k none) H7 s7:=I7.pinned (fpD fr7) (T.obj _ _ st7);have asg:=hgX _ s7 _ H7 x u _ I7' r7 (step x H7 y7);rw[xprog,xw,xA,henv,xxe]at asg;refine thn asg fun _ s8 z0=>?_
    obtain⟨σ8,H8,I8,own,hown,hσ8,q8⟩:=z0;have weak:∀{pl:List (Addr×Obj)}{H':Hp}{s':Shared},Inv X' pl σ8 H' s'->Inv X' [] (σ++qAm k none) H' s':=fun{pl H' s'} J'=>by
     have J0:Inv X' [] σ8 H' s':=J'.pins_of (fun p hp=>by simp at hp);refine J0.weak (by rw[hσ8];simp[hown]) fun j v hj=>?_
     rw[hσ8]
     by_cases hjl:j<σ.length
     ·rw[qAa hjl]at hj ⊢;exact hj
     ·rw[qA8 (by lia),qC5]at hj
      split at hj<;>cases hj
    have tst:=hifX _ s8 σ8 H8 _ I8 q8;rw[xprog,xw,xA,henv,xxe]at tst;refine thn tst fun b s9 z0=>?_
    obtain⟨H9,I9,q9⟩:=z0;have pin9:∀{σ':St}{H':Hp}{s':Shared},Inv X' ([(D,{ cls:=.type "list",data:=.seq its.toArray nn })]++zHJ fp s7.heap) σ' H' s' ->
      s'.heap.get? D=some { cls:=.type "list",data:=.seq its.toArray nn }/\H' D=none/\tn (i+1) s'.heap/\(∀b∈fp,H' b=none):=fun{σ' H' s'} J'=>by
     have a1:=J'.pin (D,{ cls:=.type "list",data:=.seq its.toArray nn }) (by simp);refine⟨a1.1,a1.2.1,T.keep _ _ _ st7 fun b hb o e=>(J'.pin (b,o) (qAw _ (qAw _ (zDX hb e)))).1,fun b hb=>?_⟩;obtain⟨o,e,d⟩:=T.obj _ _ st7 b hb;exact(J'.pin (b,o) (qAw _ (qAw _ (zDX hb e)))).2.1
    cases b with
    |false=>
     rw[if_neg qAj];rw[if_neg qAj]at q9;obtain⟨m',hm,w9⟩:=hN _ _ q9;obtain⟨p1,p2,p3,p4⟩:=pin9 I9;exact⟨m',hm,i+1,H9,acc,its,nn,weak I9,p3,p4,p2,w9,hz5,rv5,p1⟩
    |true=>
     rw[if_pos rfl];rw[if_pos rfl]at q9;have ev:=heX _ s9 σ8 H9 _ I9 q9;rw[xprog,xw,xA,henv,xxe]at ev;refine thn ev fun y s10 z0=>?_
     obtain⟨v,H10,I10,r10,n10⟩:=z0;obtain⟨m',hm,w10⟩:=hN _ _ n10;obtain⟨p1,p2,p3,p4⟩:=pin9 I10;have hlen:its.length=acc.length:=rv5.length.symm;refine wpAny_list_append_plain (items:=its.toArray) ⟨nn,p1⟩ (fun h' hl' hs'=>?_) (by simp only[qAk];lia);have hDfp:D∉fp:=fun hb=>(F4 D hb).2.2.2.2.2 (D,{ cls:=.type "list",data:=.seq #[] 0 }) (by simp) rfl
     have I11:Inv X' [] (σ++qAm k none) H10 { s10 with heap:=h' }:=by
      have J0:Inv X' [] (σ++qAm k none) H10 s10:=weak I10;refine J0.turned (t':=s10.toks) (it:=D) (fun b o hb e=>(hs'.2 b hb).trans e) p2 ?_ (.inr ?_) (fun x c e z=>?_) (fun p hp=>?_)
      ·rw[locC];exact qAf hDlt
      ·rw[xs0,hDd];exact qA4 _
      ·obtain⟨v',q⟩:=J0.cell x c e;obtain⟨o,ho,hd⟩:=q;rw[z,p1]at ho;cases ho;cases hd
      ·rw[xpn]at hp;simp at hp
     obtain⟨n',hk⟩:=hl';have hk':h'.get? D=some { cls:=.type "list",data:=.seq (its++[y]).toArray n' }:=by rw[hk];simp
     refine⟨m',hm,i+1,H10,acc++[v],its++[y],n',I11,T.keep _ _ _ p3 fun b hb o e=>(hs'.2 b (fun z=>hDfp (z▸hb))).trans e,p4,p2,w10,?_,rv5.append (.cons r10 .nil),hk'⟩;rw[qB2,qF2]
     lia
  ·refine⟨0,H2,[],[],0,I4.pins_of (fun p hp=>by simp at hp),st4,fun b hb=>(f2 b hb).1,I2.hok.fresh (by rw[hDd];exact qA4 _),w0,qAi _,.nil,?_⟩;exact(I4.pin (D,{ cls:=.type "list",data:=.seq #[] 0 }) (by simp)).1
 exact codeAny_compStart_list loop (T.self _ 0 _ _ _ st4 loop)
theorem zU4(hc:X.calm=true)(S:CompNames X.N N' k sc X.env)(hi:PI X tg iter wi)
  (hg:∀C s H fp,PG (zD6 X N' sc C s H fp) tg g) (hif:∀C s H fp,PTs (zD6 X N' sc C s H fp) ifs tif) (he:∀C s H fp,PE (zD6 X N' sc C s H fp) elt te)
  (hs:∀x,foldedSetIterable iter X.env x=pure x:=by intro _;rfl):PE X (.ListComp elt [⟨tg,iter,ifs,0⟩] sc pos) (zTM wi k g tif te):=by
 intro pins s σ H Q I h;rw[eval_ListComp];have hfree:∀x,(x,NameKind.free)∈sc.names->∃c,X.env.cells.lookup x=some c:=fun x hx=>I.ok.has x (S.free x hx)
 refine wpAny_comprehension_free (use:=none) rfl hs (zFA hfree) S.kind (fun x hx hl=>?_) ?_
 ·obtain⟨n,kd⟩:=x;dsimp only at hl ⊢;subst hl;exact zCB S.nd hx
 ·refine thn (hi pins s σ H _ I h) fun v s1 h1=>thn h1 fun itv s2 h2=>?_
  obtain⟨it,fp,tn,J,H2,e,I2,T,st2,f2,W,⟨m0,w0⟩,turn⟩:=h2;subst e;refine zHZ (RR:=fun acc C=>compPost (model X.prog X.w) X.A X.xe none (EP X pins σ Q) acc C) hc S hg hif he I2 T st2 f2 w0 turn ?_;intro D C s' H' hDC hD hn hCn hCf I' q;obtain⟨m,hn⟩:=hn;refine⟨m,hn,fun h' hs'=>⟨.ref D,H',?_,rfl,q⟩⟩;have hCb:s2.heap.objs.size<=C:=qCj (qFm hD hDC);refine I'.turned (t':=s'.toks) (it:=C) (fun b o hb e=>(hs'.2 b hb).trans e) hCn ?_ (.inr (qAr I2.sz hCb)) (fun x c e z=>?_) (fun p hp z=>?_)
  ·exact qBm (qAc I2.lt hCb)
  ·obtain⟨v,q⟩:=I2.cell x c e;exact absurd z (qAf (qAc q.lt hCb))
  ·exact absurd z (qAf (qAc (Heap.lt_size (I2.pin p hp).1) hCb))
theorem zNG{i:Nat}{x:Str}{pos' spos:Pos}(hN:X.N.Nodup)(hi':X.N[i]?=some x)(hx:Loc X.env.scope x)(hc:X.calm=true)(S:CompNames X.N N' k sc X.env)(hi:PI X tg iter wi)
  (hg:∀C s H fp,PG (zD6 X N' sc C s H fp) tg g) (hif:∀C s H fp,PTs (zD6 X N' sc C s H fp) ifs tif) (he:∀C s H fp,PE (zD6 X N' sc C s H fp) elt te)
  (hsw:swapsWith (.ListComp elt [⟨tg,iter,ifs,0⟩] sc pos) (some (.Name x pos')) spos.line X.env=pure true:=by rfl)
  (hs:∀x,foldedSetIterable iter X.env x=pure x:=by intro _;rfl) (hf:X.fn x=true\/X.env.scope.names.lookup x=some .local:=by first|exact .inl rfl|exact .inr rfl|assumption) :
  PS X (.Assign [.Name x pos'] (.ListComp elt [⟨tg,iter,ifs,0⟩] sc pos) spos) (tAsg (zTM wi k g tif te) (zH9 i)):=by
 intro pins s σ H Dn I h;rw[exec_Assign_Name_used _ _ _ _ hsw];refine wpAny_bind (wpAny_standAt (wpAny_bind ?_));show wpAny _ X.A (do let _ <- comprehension (.ListComp elt [⟨tg,iter,ifs,0⟩] sc pos) sc X.env _ (newList []) false (eval iter X.env) (some (assign (.Name x pos') X.env))) _ _ s;have hfree:∀x,(x,NameKind.free)∈sc.names->∃c,X.env.cells.lookup x=some c:=fun x hx=>I.ok.has x (S.free x hx)
 refine wpAny_bind (wpAny_mono (wpAny_comprehension_free (use:=some (assign (.Name x pos') X.env)) (Q:=fun _ s'=>SP X pins Dn .next s') rfl hs (zFA hfree) S.kind (fun x hx hl=>?_) ?_)
  (fun _ s' hq=>wpAny_pure (wpAny_pure hq)) fun _ _ e=>e)
 ·obtain⟨n,kd⟩:=x;dsimp only at hl ⊢;subst hl;exact zCB S.nd hx
 ·refine thn (hi pins s σ H _ I h) fun v s1 h1=>thn h1 fun itv s2 h2=>?_
  obtain⟨it,fp,tn,J,H2,e,I2,T,st2,f2,W,⟨m0,w0⟩,turn⟩:=h2;subst e;refine zHZ (Q:=fun v H'=>zH9 i v σ H' Dn.nx) (RR:=fun acc C=>compPost (model X.prog X.w) X.A X.xe (some (assign (.Name x pos') X.env)) (fun _ s'=>SP X pins Dn .next s') acc C) hc S hg hif he I2 T st2 f2 w0 turn ?_;intro D C s' H' hDC hD hn hCn hCf I' q;obtain⟨m,hn⟩:=hn;show wpAny _ _ (assign (.Name x pos') X.env (.ref D)) _ _ _;have hCb:s2.heap.objs.size<=C:=qCj (qFm hD hDC);have hCL:C≠X.env.locals:=qBm (qAc I2.lt hCb);have hCc:∀x c,X.env.cells.lookup x=some c->c≠C:=fun x c e z=>by
   obtain⟨v,q⟩:=I2.cell x c e;exact absurd z (qAf (qAc q.lt hCb))
  refine wpAny_assign_Name (zJE (v:=.ref D) I' hN hi' hx rfl (fun s'' I'' ⟨a,sb,ha⟩=>?_) hf);have hCa:C≠a:=by
   rcases ha with e|e
   ·rw[e];exact hCL
   ·exact fun z=>hCc x a e z.symm
  refine⟨m,hn.sameBut sb hCa,fun h' hs'=>⟨_,H',?_,q⟩⟩;refine I''.turned (t':=s''.toks) (it:=C) (fun b o hb e=>(hs'.2 b hb).trans e) hCn hCL (.inr (qAr I2.sz hCb)) hCc (fun p hp z=>?_);exact absurd z (qAf (qAc (Heap.lt_size (I2.pin p hp).1) hCb))
def zQN(g:TG)(tb:TS)(D:Ends)(σ:St)(J:It)(H1:Hp):Prop:=∃W:Nat->Nat->St->Hp->Prop,(∃m,W 0 m σ H1)/\∀i m σ H,W i m σ H ->
 (J.stop i H/\D.nx σ H)\/(J.go i H/\∃N:St->Hp->Prop,(∀σ' H',N σ' H'->∃m',m'<m/\W (i+1) m' σ' H')/\∀x H',J.yld i H x H'->g x σ H' fun σ2 H2=>tb { D with nx:=N,ct:=N,bk:=D.nx } σ2 H2)
theorem zDB{body:List Stmt}{tb:TS}(hp:PassesOwn (model X.prog X.w) X.A X.env X.xe)(hc:X.calm=true)(hi:PI X tg iter wi)(hg:PG X tg g)(hb:PSs X body tb)
  (hs:∀x,foldedSetIterable iter X.env x=pure x:=by intro _;rfl):PS X (.For tg iter body [] pos) (fun D σ H=>wi σ H (zQN g tb D σ)):=zW4 hp hc hi hg hb hs
end
end L2
namespace L2
open PySem PySem.Spec PyProof.Rows
inductive Dat where
 |non|bl (b:Bool)|int (i:Int)|str (x:Str)|lst (xs:List Dat)|tup (xs:List Dat)
mutual
def Dat.dep:Dat->Nat
 |.lst xs=>Dat.depL xs+1
 |.tup xs=>Dat.depL xs+1
 |_=>0
def Dat.depL:List Dat->Nat
 |[]=>0
 |x::r=>max x.dep (Dat.depL r)
end
mutual
def Dat.eq:Dat->Dat->Bool
 |.non,.non=>true
 |.bl a,.bl b=>a==b
 |.bl a,.int b=>(if a then 1 else 0)==b
 |.int a,.bl b=>a==(if b then 1 else 0)
 |.int a,.int b=>a==b
 |.str a,.str b=>a==b
 |.lst xs,.lst ys=>Dat.eqL xs ys
 |.tup xs,.tup ys=>Dat.eqL xs ys
 |_,_=>false
def Dat.eqL:List Dat->List Dat->Bool
 |[],[]=>true
 |x::r,y::q=>Dat.eq x y&&Dat.eqL r q
 |_,_=>false
end
mutual
def Rep(H:Hp):Dat->V->Prop
 |.non,v=>v=.non
 |.bl b,v=>v=.bl b
 |.int i,v=>v=.int i
 |.str x,v=>v=.str x
 |.lst ds,v=>∃a xs,v=.ref a/\H a=some (.lst xs)/\RepL H ds xs
 |.tup ds,v=>∃a xs,v=.ref a/\H a=some (.tup xs)/\RepL H ds xs
def RepL(H:Hp):List Dat->List V->Prop
 |[],xs=>xs=[]
 |d::r,xs=>∃x q,xs=x::q/\Rep H d x/\RepL H r q
end
mutual
theorem Rep.mono{H H':Hp}(s:Same H H'):∀{d:Dat}{v:V},Rep H d v->Rep H' d v
 |.non,_,h=>h
 |.bl _,_,h=>h
 |.int _,_,h=>h
 |.str _,_,h=>h
 |.lst _,_,h=>by obtain⟨a,xs,e,e',r⟩:=h;exact⟨a,xs,e,s _ _ e',RepL.mono s r⟩
 |.tup _,_,h=>by obtain⟨a,xs,e,e',r⟩:=h;exact⟨a,xs,e,s _ _ e',RepL.mono s r⟩
theorem RepL.mono{H H':Hp}(s:Same H H'):∀{ds:List Dat}{xs:List V},RepL H ds xs->RepL H' ds xs
 |[],_,h=>h
 |_::_,_,h=>by obtain⟨x,q,e,r,t⟩:=h;exact⟨x,q,e,Rep.mono s r,RepL.mono s t⟩
end
mutual
theorem Rep.inj{H:Hp}:∀{d e:Dat}{v:V},Rep H d v->Rep H e v->d=e
 |.non,e,v,h,h'=>by cases h;cases e<;>first|rfl|(cases h';done)|(obtain⟨a,xs,z,_⟩:=h';cases z)
 |.bl b,e,v,h,h'=>by cases h;cases e<;>first|(cases h';rfl)|(cases h';done)|(obtain⟨a,xs,z,_⟩:=h';cases z)
 |.int b,e,v,h,h'=>by cases h;cases e<;>first|(cases h';rfl)|(cases h';done)|(obtain⟨a,xs,z,_⟩:=h';cases z)
 |.str b,e,v,h,h'=>by cases h;cases e<;>first|(cases h';rfl)|(cases h';done)|(obtain⟨a,xs,z,_⟩:=h';cases z)
 |.lst ds,e,v,h,h'=>by
  obtain⟨a,xs,rfl,ha,q⟩:=h;cases e with
  |lst es=>
   obtain⟨b,ys,z,hb,q'⟩:=h';cases z;rw[ha]at hb;cases hb;rw[RepL.inj q q']
  |tup es=>
   obtain⟨b,ys,z,hb,q'⟩:=h';cases z;rw[ha]at hb;cases hb
  |_=>cases h'
 |.tup ds,e,v,h,h'=>by
  obtain⟨a,xs,rfl,ha,q⟩:=h;cases e with
  |tup es=>
   obtain⟨b,ys,z,hb,q'⟩:=h';cases z;rw[ha]at hb;cases hb;rw[RepL.inj q q']
  |lst es=>
   obtain⟨b,ys,z,hb,q'⟩:=h';cases z;rw[ha]at hb;cases hb
  |_=>cases h'
theorem RepL.inj{H:Hp}:∀{ds es:List Dat}{xs:List V},RepL H ds xs->RepL H es xs->ds=es
 |[],[],_,_,_=>rfl
 |[],_::_,_,h,h'=>by cases h;obtain⟨x,q,e,_⟩:=h';cases e
 |_::_,[],_,h,h'=>by cases h';obtain⟨x,q,e,_⟩:=h;cases e
 |d::r,e::t,_,h,h'=>by
  obtain⟨x,q,rfl,r1,t1⟩:=h;obtain⟨x',q',z,r2,t2⟩:=h';cases z;rw[Rep.inj r1 r2,RepL.inj t1 t2]
end
mutual
theorem Dat.eq_refl:∀d:Dat,Dat.eq d d=true
 |.non=>by simp[Dat.eq]
 |.bl _=>by simp[Dat.eq]
 |.int _=>by simp[Dat.eq]
 |.str _=>by simp[Dat.eq]
 |.lst xs=>by rw[Dat.eq];exact Dat.eqL_refl xs
 |.tup xs=>by rw[Dat.eq];exact Dat.eqL_refl xs
theorem Dat.eqL_refl:∀ds:List Dat,Dat.eqL ds ds=true
 |[]=>by simp[Dat.eqL]
 |d::r=>by rw[Dat.eqL,Dat.eq_refl d,Dat.eqL_refl r];rfl
end
theorem RepL.length{H:Hp}:∀{ds:List Dat}{xs:List V},RepL H ds xs->xs.length=ds.length
 |[],_,h=>by cases h;rfl
 |_::_,_,h=>by obtain⟨x,q,e,r,t⟩:=h;subst e;simp[RepL.length t]
theorem Dat.eqL_len:∀{xs ys:List Dat},xs.length≠ys.length->Dat.eqL xs ys=false
 |[],[],h=>absurd rfl h
 |[],_::_,_=>by simp[Dat.eqL]
 |_::_,[],_=>by simp[Dat.eqL]
 |x::r,y::q,h=>by
  rw[Dat.eqL,Dat.eqL_len (fun e=>h (by simp[e])),qDg]
theorem Dat.eqL_all:∀{xs ys:List Dat},xs.length=ys.length->∀(e:Nat->Bool),(∀j (h1:j<xs.length) (h2:j<ys.length),e j=Dat.eq xs[j] ys[j])->(qAe xs.length).all e=Dat.eqL xs ys
 |[],[],_,_,_=>by simp[Dat.eqL]
 |[],_::_,h,_,_=>by simp at h
 |_::_,[],h,_,_=>by simp at h
 |x::r,y::q,h,e,he=>by
  have hl:r.length=q.length:=by simpa using h
  rw[qAp,List.range_succ_eq_map,qDm,Dat.eqL,he 0 (by simp) (by simp)]
  have:=Dat.eqL_all (xs:=r) (ys:=q) hl (fun j=>e (j+1)) (fun j h1 h2=>by
   rw[he (j+1) (by simpa using h1) (by simpa using h2)];simp)
  rw[<- this,List.all_map];rfl
theorem RepL.get{H:Hp}:∀{ds:List Dat}{xs:List V}{i:Nat}{x:V},RepL H ds xs->xs[i]?=some x->∃d,ds[i]?=some d/\Rep H d x
 |[],_,_,_,h,e=>by cases h;simp at e
 |d::_,_,0,_,h,e=>by obtain⟨x,q,e1,r,t⟩:=h;subst e1;simp at e;subst e;exact⟨d,rfl,r⟩
 |_::_,_,i+1,_,h,e=>by
  obtain⟨x,q,e1,r,t⟩:=h;subst e1;obtain⟨d',h1,h2⟩:=RepL.get (i:=i) t (by simpa using e);exact⟨d',by simpa using h1,h2⟩
theorem Dat.depL_mem{d:Dat}:∀{ds:List Dat},d∈ds->d.dep<=Dat.depL ds
 |_::_,h=>by
  rw[Dat.depL]
  rcases qA7.mp h with rfl|h
  ·exact Nat.le_max_left _ _
  ·exact qAr (Dat.depL_mem h) (Nat.le_max_right _ _)
section
variable{P:Program}{w:World}{H:Hp}
theorem zDR(A:Around):A.in1.units=A.units+1:=rfl
theorem zAX{s:Shared}{a:Addr}{xs:List V}(ok:HOk P w H s.heap)(h:H a=some (.lst xs)):∃its:List Value,Vals xs its/\s.heap.IsList a its.toArray:=by
 obtain⟨_,its,n,r,e⟩:=ok a _ h;exact⟨its,r,⟨_,e,rfl,n,rfl⟩⟩
theorem zBF{s:Shared}{a:Addr}{xs:List V}(ok:HOk P w H s.heap)(h:H a=some (.tup xs)):∃its:List Value,Vals xs its/\s.heap.IsTuple a its.toArray:=by
 obtain⟨_,its,r,e⟩:=ok a _ h;exact⟨its,r,e⟩
theorem Rep.flat{d:Dat}{v:V}(h:Rep H d v)(hf:d.dep=0):zFN v=true:=by
 cases d with
 |non=>cases h;rfl
 |bl _=>cases h;rfl
 |int _=>cases h;rfl
 |str _=>cases h;rfl
 |lst _=>simp[Dat.dep]at hf
 |tup _=>simp[Dat.dep]at hf
theorem Rep.flatEq{d e:Dat}{v u:V}(h:Rep H d v)(h':Rep H e u)(hf:d.dep=0)(hf':e.dep=0):eqV v u=Dat.eq d e:=by
 cases d<;>cases e<;>first
  |(simp[Dat.dep]at hf;done)
  |(simp[Dat.dep]at hf';done)
  |(cases h;cases h';simp[eqV,Dat.eq];done)
theorem zS1:∀(n:Nat){d e:Dat}{v u:V}{x y:Value}{A:Around}{s:Shared},d.dep<=n->HOk P w H s.heap->Rep H d v->Rep H e u->RelV v x->RelV u y->A.units+n<cLine->SeqAt.EqAt A s x y (Dat.eq d e):=by
 intro n
 induction n with
 |zero=>
  intro d e v u x y A s hd ok h1 h2 r1 r2 hu;have f1:=h1.flat (by lia)
  by_cases he:e.dep=0
  ·have f2:=h2.flat he
   have:=zT0 (A:=A) (s:=s) r1 r2 f1 f2
   rw[h1.flatEq h2 (by lia) he]at this;exact this
  ·have hu':A.units<cLine:=by lia
   cases e with
   |lst ys=>
    obtain⟨a,xs,rfl,ha,_⟩:=h2;obtain⟨its,_,hl⟩:=zAX ok ha;cases r2;cases d with
    |non=>cases h1;cases r1;exact SeqAt.EqAt.none_list hl hu'
    |bl b=>cases h1;cases r1;exact SeqAt.EqAt.bool_list b hl hu'
    |int i=>cases h1;obtain⟨t,rfl⟩:=r1;exact SeqAt.EqAt.int_list i t hl hu'
    |str z=>cases h1;obtain⟨t,rfl⟩:=r1;exact SeqAt.EqAt.str_list z t hl hu'
    |lst _=>simp[Dat.dep]at hd
    |tup _=>simp[Dat.dep]at hd
   |tup ys=>
    obtain⟨a,xs,rfl,ha,_⟩:=h2;obtain⟨its,_,hl⟩:=zBF ok ha;cases r2;cases d with
    |non=>cases h1;cases r1;exact SeqAt.EqAt.none_tuple hl hu'
    |bl b=>cases h1;cases r1;exact SeqAt.EqAt.bool_tuple b hl hu'
    |int i=>cases h1;obtain⟨t,rfl⟩:=r1;exact SeqAt.EqAt.int_tuple i t hl hu'
    |str z=>cases h1;obtain⟨t,rfl⟩:=r1;exact SeqAt.EqAt.str_tuple z t hl hu'
    |lst _=>simp[Dat.dep]at hd
    |tup _=>simp[Dat.dep]at hd
   |_=>simp[Dat.dep]at he
 |succ n ih=>
  intro d e v u x y A s hd ok h1 h2 r1 r2 hu
  by_cases hd0:d.dep<=n
  ·exact ih hd0 ok h1 h2 r1 r2 (by lia)
  have hu':A.units<cLine:=by lia
  have pairs:∀{ds es:List Dat}{xs ys:List V}{its its2:List Value},Dat.depL ds<=n->RepL H ds xs->RepL H es ys->Vals xs its->Vals ys its2->∀j (h1:j<its.toArray.size) (h2:j<its2.toArray.size),
    SeqAt.EqAt A.in1 s its.toArray[j] its2.toArray[j] (Dat.eq (ds.getD j .non) (es.getD j .non)):=by
   intro ds es xs ys its its2 hdl q1 q2 v1 v2 j j1 j2;have l1:j<xs.length:=by have:=v1.length;simp at j1;lia
   have l2:j<ys.length:=by have:=v2.length;simp at j2;lia
   obtain⟨d',e1,p1⟩:=q1.get (i:=j) (x:=xs[j]) (by simp[l1]);obtain⟨e',e2,p2⟩:=q2.get (i:=j) (x:=ys[j]) (by simp[l2]);obtain⟨w1,g1,z1⟩:=v1.get (i:=j) (x:=xs[j]) (by simp[l1]);obtain⟨w2,g2,z2⟩:=v2.get (i:=j) (x:=ys[j]) (by simp[l2]);have k1:its.toArray[j]=w1:=by
    obtain⟨_,k⟩:=qA3.mp g1
    simpa using k
   have k2:its2.toArray[j]=w2:=by
    obtain⟨_,k⟩:=qA3.mp g2
    simpa using k
   rw[k1,k2,qA1,qA1,e1,e2];exact ih (qAr (Dat.depL_mem (qBl e1)) hdl) ok p1 p2 z1 z2 (by rw[zDR];lia)
  cases d with
  |lst ds=>
   have hdl:Dat.depL ds<=n:=by rw[Dat.dep]at hd;lia
   obtain⟨a,xs,rfl,ha,q1⟩:=h1;obtain⟨its,v1,hl1⟩:=zAX ok ha;cases r1;cases e with
   |non=>cases h2;cases r2;exact SeqAt.EqAt.list_none hl1 hu'
   |bl b=>cases h2;cases r2;exact SeqAt.EqAt.list_bool b hl1 hu'
   |int i=>cases h2;obtain⟨t,rfl⟩:=r2;exact SeqAt.EqAt.list_int i t hl1 hu'
   |str z=>cases h2;obtain⟨t,rfl⟩:=r2;exact SeqAt.EqAt.list_str z t hl1 hu'
   |tup es=>
    obtain⟨b,ys,rfl,hb,q2⟩:=h2;obtain⟨its2,v2,hl2⟩:=zBF ok hb;cases r2;exact SeqAt.EqAt.of_refs (zRC ha hb (fun z=>nomatch z)) (SeqAt.RcAt.list_tuple hl1 hl2 hu')
   |lst es=>
    obtain⟨b,ys,rfl,hb,q2⟩:=h2;obtain⟨its2,v2,hl2⟩:=zAX ok hb;cases r2;have len1:its.toArray.size=ds.length:=by have:=v1.length;have:=q1.length;simp;lia
    have len2:its2.toArray.size=es.length:=by have:=v2.length;have:=q2.length;simp;lia
    show SeqAt.EqAt A s (.ref a) (.ref b) (Dat.eqL ds es)
    by_cases hne:a=b
    ·
     subst hne;rw[ha]at hb;cases hb;have same:Dat.eqL ds es=true:=by
      rw[RepL.inj q1 q2];exact Dat.eqL_refl _
     rw[same];exact SeqAt.EqAt.same _
    ·refine SeqAt.EqAt.of_refs hne ?_
     by_cases hs:ds.length=es.length
     ·have:=SeqAt.RcAt.lists (A:=A) (s:=s) hl1 hl2 (by rw[len1,len2,hs]) hu' (pairs hdl q1 q2 v1 v2)
      rw[len1,Dat.eqL_all hs _ (fun j h1 h2=>by rw[qA1,qA1];simp[h1,h2])]at this;exact this
     ·rw[Dat.eqL_len hs];exact SeqAt.RcAt.lists_lengths hl1 hl2 (by rw[len1,len2];simpa using hs) hu'
  |tup ds=>
   have hdl:Dat.depL ds<=n:=by rw[Dat.dep]at hd;lia
   obtain⟨a,xs,rfl,ha,q1⟩:=h1;obtain⟨its,v1,hl1⟩:=zBF ok ha;cases r1;cases e with
   |non=>cases h2;cases r2;exact SeqAt.EqAt.tuple_none hl1 hu'
   |bl b=>cases h2;cases r2;exact SeqAt.EqAt.tuple_bool b hl1 hu'
   |int i=>cases h2;obtain⟨t,rfl⟩:=r2;exact SeqAt.EqAt.tuple_int i t hl1 hu'
   |str z=>cases h2;obtain⟨t,rfl⟩:=r2;exact SeqAt.EqAt.tuple_str z t hl1 hu'
   |lst es=>
    obtain⟨b,ys,rfl,hb,q2⟩:=h2;obtain⟨its2,v2,hl2⟩:=zAX ok hb;cases r2;exact SeqAt.EqAt.of_refs (zRC ha hb (fun z=>nomatch z)) (SeqAt.RcAt.tuple_list hl1 hl2 hu')
   |tup es=>
    obtain⟨b,ys,rfl,hb,q2⟩:=h2;obtain⟨its2,v2,hl2⟩:=zBF ok hb;cases r2;have len1:its.toArray.size=ds.length:=by have:=v1.length;have:=q1.length;simp;lia
    have len2:its2.toArray.size=es.length:=by have:=v2.length;have:=q2.length;simp;lia
    show SeqAt.EqAt A s (.ref a) (.ref b) (Dat.eqL ds es)
    by_cases hne:a=b
    ·subst hne;rw[ha]at hb;cases hb;have same:Dat.eqL ds es=true:=by
      rw[RepL.inj q1 q2];exact Dat.eqL_refl _
     rw[same];exact SeqAt.EqAt.same _
    ·refine SeqAt.EqAt.of_refs hne ?_
     have:=SeqAt.RcAt.tuples (A:=A) (s:=s) hl1 hl2 hu' (pairs hdl q1 q2 v1 v2)
     by_cases hs:ds.length=es.length
     ·rw[len1,len2,<- hs,qG5,beq_self_eq_true,qEg,Dat.eqL_all hs _ (fun j h1 h2=>by rw[qA1,qA1];simp[h1,h2])]at this;exact this
     ·rw[len1,len2,show(ds.length==es.length)=false by simpa using hs,qDg]at this;rw[Dat.eqL_len hs];exact this
  |_=>simp[Dat.dep]at hd0
theorem zG0{n:Nat}{A:Around}{s:Shared}(ok:HOk P w H s.heap){ds es:List Dat}{xs ys:List V}{its its2:List Value}(hdl:Dat.depL ds<=n)(hu:A.units+n<cLine)(q1:RepL H ds xs)(q2:RepL H es ys)(v1:Vals xs its)(v2:Vals ys its2) :
  ∀j (h1:j<its.toArray.size) (h2:j<its2.toArray.size),SeqAt.EqAt A s its.toArray[j] its2.toArray[j] (Dat.eq (ds.getD j .non) (es.getD j .non)):=by
 intro j j1 j2;have l1:j<xs.length:=by have:=v1.length;simp at j1;lia
 have l2:j<ys.length:=by have:=v2.length;simp at j2;lia
 obtain⟨d',e1,p1⟩:=q1.get (i:=j) (x:=xs[j]) (by simp[l1]);obtain⟨e',e2,p2⟩:=q2.get (i:=j) (x:=ys[j]) (by simp[l2]);obtain⟨w1,g1,z1⟩:=v1.get (i:=j) (x:=xs[j]) (by simp[l1]);obtain⟨w2,g2,z2⟩:=v2.get (i:=j) (x:=ys[j]) (by simp[l2]);have k1:its.toArray[j]=w1:=by
  obtain⟨_,k⟩:=qA3.mp g1
  simpa using k
 have k2:its2.toArray[j]=w2:=by
  obtain⟨_,k⟩:=qA3.mp g2
  simpa using k
 rw[k1,k2,qA1,qA1,e1,e2];exact zS1 n (qAr (Dat.depL_mem (qBl e1)) hdl) ok p1 p2 z1 z2 hu
theorem zR1(n:Nat){d e:Dat}{v u:V}{x y:Value}{A:Around}{s:Shared}(hd:d.dep<=n)(ok:HOk P w H s.heap)(h1:Rep H d v)(h2:Rep H e u)(r1:RelV v x)(r2:RelV u y)(hu:A.units+n<cLine):SeqAt.RcAt A s x y (Dat.eq d e):=by
 have hu':A.units<cLine:=by lia
 cases d with
 |non=>
  cases h1;cases r1;cases e with
  |non=>
   cases h2;cases r2;exact SeqAt.RcAt.none_none
  |bl b=>
   cases h2;cases r2;exact SeqAt.RcAt.none_bool b
  |int b=>
   cases h2;obtain⟨t2,rfl⟩:=r2;exact SeqAt.RcAt.none_int b t2
  |str b=>
   cases h2;obtain⟨t2,rfl⟩:=r2;exact SeqAt.RcAt.none_str b t2
  |lst es=>
   obtain⟨p2,ys,rfl,hb,q2⟩:=h2;obtain⟨its2,v2,hl2⟩:=zAX ok hb;cases r2;exact SeqAt.RcAt.none_list hl2 hu'
  |tup es=>
   obtain⟨p2,ys,rfl,hb,q2⟩:=h2;obtain⟨its2,v2,hl2⟩:=zBF ok hb;cases r2;exact SeqAt.RcAt.none_tuple hl2 hu'
 |bl a=>
  cases h1;cases r1;cases e with
  |non=>
   cases h2;cases r2;exact SeqAt.RcAt.bool_none a
  |bl b=>
   cases h2;cases r2;exact SeqAt.RcAt.bool_bool a b
  |int b=>
   cases h2;obtain⟨t2,rfl⟩:=r2;exact SeqAt.RcAt.bool_int a b t2
  |str b=>
   cases h2;obtain⟨t2,rfl⟩:=r2;exact SeqAt.RcAt.bool_str a b t2
  |lst es=>
   obtain⟨p2,ys,rfl,hb,q2⟩:=h2;obtain⟨its2,v2,hl2⟩:=zAX ok hb;cases r2;exact SeqAt.RcAt.bool_list a hl2 hu'
  |tup es=>
   obtain⟨p2,ys,rfl,hb,q2⟩:=h2;obtain⟨its2,v2,hl2⟩:=zBF ok hb;cases r2;exact SeqAt.RcAt.bool_tuple a hl2 hu'
 |int a=>
  cases h1;obtain⟨t1,rfl⟩:=r1;cases e with
  |non=>
   cases h2;cases r2;exact SeqAt.RcAt.int_none a t1
  |bl b=>
   cases h2;cases r2;exact SeqAt.RcAt.int_bool a t1 b
  |int b=>
   cases h2;obtain⟨t2,rfl⟩:=r2;exact SeqAt.RcAt.int_int a t1 b t2
  |str b=>
   cases h2;obtain⟨t2,rfl⟩:=r2;exact SeqAt.RcAt.int_str a t1 b t2
  |lst es=>
   obtain⟨p2,ys,rfl,hb,q2⟩:=h2;obtain⟨its2,v2,hl2⟩:=zAX ok hb;cases r2;exact SeqAt.RcAt.int_list a t1 hl2 hu'
  |tup es=>
   obtain⟨p2,ys,rfl,hb,q2⟩:=h2;obtain⟨its2,v2,hl2⟩:=zBF ok hb;cases r2;exact SeqAt.RcAt.int_tuple a t1 hl2 hu'
 |str a=>
  cases h1;obtain⟨t1,rfl⟩:=r1;cases e with
  |non=>
   cases h2;cases r2;exact SeqAt.RcAt.str_none a t1
  |bl b=>
   cases h2;cases r2;exact SeqAt.RcAt.str_bool a t1 b
  |int b=>
   cases h2;obtain⟨t2,rfl⟩:=r2;exact SeqAt.RcAt.str_int a t1 b t2
  |str b=>
   cases h2;obtain⟨t2,rfl⟩:=r2;exact SeqAt.RcAt.str_str a t1 b t2
  |lst es=>
   obtain⟨p2,ys,rfl,hb,q2⟩:=h2;obtain⟨its2,v2,hl2⟩:=zAX ok hb;cases r2;exact SeqAt.RcAt.str_list a t1 hl2 hu'
  |tup es=>
   obtain⟨p2,ys,rfl,hb,q2⟩:=h2;obtain⟨its2,v2,hl2⟩:=zBF ok hb;cases r2;exact SeqAt.RcAt.str_tuple a t1 hl2 hu'
 |lst ds=>
  have hdl:Dat.depL ds+1<=n:=by rw[Dat.dep]at hd;exact hd
  obtain⟨p,xs,rfl,ha,q1⟩:=h1;obtain⟨its,v1,hl1⟩:=zAX ok ha;cases r1;cases e with
  |non=>
   cases h2;cases r2;exact SeqAt.RcAt.list_none hl1 hu'
  |bl b=>
   cases h2;cases r2;exact SeqAt.RcAt.list_bool b hl1 hu'
  |int b=>
   cases h2;obtain⟨t2,rfl⟩:=r2;exact SeqAt.RcAt.list_int b t2 hl1 hu'
  |str b=>
   cases h2;obtain⟨t2,rfl⟩:=r2;exact SeqAt.RcAt.list_str b t2 hl1 hu'
  |lst es=>
   obtain⟨p2,ys,rfl,hb,q2⟩:=h2;obtain⟨its2,v2,hl2⟩:=zAX ok hb;cases r2;have len1:its.toArray.size=ds.length:=by have:=v1.length;have:=q1.length;simp;lia
   have len2:its2.toArray.size=es.length:=by have:=v2.length;have:=q2.length;simp;lia
   show SeqAt.RcAt A s (.ref p) (.ref p2) (Dat.eqL ds es)
   by_cases hs:ds.length=es.length
   ·have:=SeqAt.RcAt.lists (A:=A) (s:=s) hl1 hl2 (by rw[len1,len2,hs]) hu' (zG0 ok (by lia) (by rw[zDR];lia:A.in1.units+(n-1)<cLine) q1 q2 v1 v2)
    rw[len1,Dat.eqL_all hs _ (fun j h1 h2=>by rw[qA1,qA1];simp[h1,h2])]at this;exact this
   ·rw[Dat.eqL_len hs];exact SeqAt.RcAt.lists_lengths hl1 hl2 (by rw[len1,len2];simpa using hs) hu'
  |tup es=>
   obtain⟨p2,ys,rfl,hb,q2⟩:=h2;obtain⟨its2,v2,hl2⟩:=zBF ok hb;cases r2;exact SeqAt.RcAt.list_tuple hl1 hl2 hu'
 |tup ds=>
  have hdl:Dat.depL ds+1<=n:=by rw[Dat.dep]at hd;exact hd
  obtain⟨p,xs,rfl,ha,q1⟩:=h1;obtain⟨its,v1,hl1⟩:=zBF ok ha;cases r1;cases e with
  |non=>
   cases h2;cases r2;exact SeqAt.RcAt.tuple_none hl1 hu'
  |bl b=>
   cases h2;cases r2;exact SeqAt.RcAt.tuple_bool b hl1 hu'
  |int b=>
   cases h2;obtain⟨t2,rfl⟩:=r2;exact SeqAt.RcAt.tuple_int b t2 hl1 hu'
  |str b=>
   cases h2;obtain⟨t2,rfl⟩:=r2;exact SeqAt.RcAt.tuple_str b t2 hl1 hu'
  |lst es=>
   obtain⟨p2,ys,rfl,hb,q2⟩:=h2;obtain⟨its2,v2,hl2⟩:=zAX ok hb;cases r2;exact SeqAt.RcAt.tuple_list hl1 hl2 hu'
  |tup es=>
   obtain⟨p2,ys,rfl,hb,q2⟩:=h2;obtain⟨its2,v2,hl2⟩:=zBF ok hb;cases r2;have len1:its.toArray.size=ds.length:=by have:=v1.length;have:=q1.length;simp;lia
   have len2:its2.toArray.size=es.length:=by have:=v2.length;have:=q2.length;simp;lia
   show SeqAt.RcAt A s (.ref p) (.ref p2) (Dat.eqL ds es)
   have:=SeqAt.RcAt.tuples (A:=A) (s:=s) hl1 hl2 hu' (zG0 ok (by lia) (by rw[zDR];lia:A.in1.units+(n-1)<cLine) q1 q2 v1 v2)
   by_cases hs:ds.length=es.length
   ·rw[len1,len2,<- hs,qG5,beq_self_eq_true,qEg,Dat.eqL_all hs _ (fun j h1 h2=>by rw[qA1,qA1];simp[h1,h2])]at this;exact this
   ·rw[len1,len2,show(ds.length==es.length)=false by simpa using hs,qDg]at this;rw[Dat.eqL_len hs];exact this
theorem zNE(n:Nat){d e:Dat}{v u:V}{x y:Value}{A:Around}{s:Shared}(hd:d.dep<=n)(ok:HOk P w H s.heap)(h1:Rep H d v)(h2:Rep H e u)(r1:RelV v x)(r2:RelV u y)(hu:A.units+n<cLine):SeqAt.RcNeAt A s x y (!Dat.eq d e):=by
 have hu':A.units<cLine:=by lia
 cases d with
 |non=>
  cases h1;cases r1;cases e with
  |non=>
   cases h2;cases r2;exact SeqAt.RcNeAt.none_none
  |bl b=>
   cases h2;cases r2;exact SeqAt.RcNeAt.none_bool b
  |int b=>
   cases h2;obtain⟨t2,rfl⟩:=r2;exact SeqAt.RcNeAt.none_int b t2
  |str b=>
   cases h2;obtain⟨t2,rfl⟩:=r2;exact SeqAt.RcNeAt.none_str b t2
  |lst es=>
   obtain⟨p2,ys,rfl,hb,q2⟩:=h2;obtain⟨its2,v2,hl2⟩:=zAX ok hb;cases r2;exact SeqAt.RcNeAt.none_list hl2 hu'
  |tup es=>
   obtain⟨p2,ys,rfl,hb,q2⟩:=h2;obtain⟨its2,v2,hl2⟩:=zBF ok hb;cases r2;exact SeqAt.RcNeAt.none_tuple hl2 hu'
 |bl a=>
  cases h1;cases r1;cases e with
  |non=>
   cases h2;cases r2;exact SeqAt.RcNeAt.bool_none a
  |bl b=>
   cases h2;cases r2;exact SeqAt.RcNeAt.bool_bool a b
  |int b=>
   cases h2;obtain⟨t2,rfl⟩:=r2;exact SeqAt.RcNeAt.bool_int a b t2
  |str b=>
   cases h2;obtain⟨t2,rfl⟩:=r2;exact SeqAt.RcNeAt.bool_str a b t2
  |lst es=>
   obtain⟨p2,ys,rfl,hb,q2⟩:=h2;obtain⟨its2,v2,hl2⟩:=zAX ok hb;cases r2;exact SeqAt.RcNeAt.bool_list a hl2 hu'
  |tup es=>
   obtain⟨p2,ys,rfl,hb,q2⟩:=h2;obtain⟨its2,v2,hl2⟩:=zBF ok hb;cases r2;exact SeqAt.RcNeAt.bool_tuple a hl2 hu'
 |int a=>
  cases h1;obtain⟨t1,rfl⟩:=r1;cases e with
  |non=>
   cases h2;cases r2;exact SeqAt.RcNeAt.int_none a t1
  |bl b=>
   cases h2;cases r2;exact SeqAt.RcNeAt.int_bool a t1 b
  |int b=>
   cases h2;obtain⟨t2,rfl⟩:=r2;exact SeqAt.RcNeAt.int_int a t1 b t2
  |str b=>
   cases h2;obtain⟨t2,rfl⟩:=r2;exact SeqAt.RcNeAt.int_str a t1 b t2
  |lst es=>
   obtain⟨p2,ys,rfl,hb,q2⟩:=h2;obtain⟨its2,v2,hl2⟩:=zAX ok hb;cases r2;exact SeqAt.RcNeAt.int_list a t1 hl2 hu'
  |tup es=>
   obtain⟨p2,ys,rfl,hb,q2⟩:=h2;obtain⟨its2,v2,hl2⟩:=zBF ok hb;cases r2;exact SeqAt.RcNeAt.int_tuple a t1 hl2 hu'
 |str a=>
  cases h1;obtain⟨t1,rfl⟩:=r1;cases e with
  |non=>
   cases h2;cases r2;exact SeqAt.RcNeAt.str_none a t1
  |bl b=>
   cases h2;cases r2;exact SeqAt.RcNeAt.str_bool a t1 b
  |int b=>
   cases h2;obtain⟨t2,rfl⟩:=r2;exact SeqAt.RcNeAt.str_int a t1 b t2
  |str b=>
   cases h2;obtain⟨t2,rfl⟩:=r2;exact SeqAt.RcNeAt.str_str a t1 b t2
  |lst es=>
   obtain⟨p2,ys,rfl,hb,q2⟩:=h2;obtain⟨its2,v2,hl2⟩:=zAX ok hb;cases r2;exact SeqAt.RcNeAt.str_list a t1 hl2 hu'
  |tup es=>
   obtain⟨p2,ys,rfl,hb,q2⟩:=h2;obtain⟨its2,v2,hl2⟩:=zBF ok hb;cases r2;exact SeqAt.RcNeAt.str_tuple a t1 hl2 hu'
 |lst ds=>
  have hdl:Dat.depL ds+1<=n:=by rw[Dat.dep]at hd;exact hd
  obtain⟨p,xs,rfl,ha,q1⟩:=h1;obtain⟨its,v1,hl1⟩:=zAX ok ha;cases r1;cases e with
  |non=>
   cases h2;cases r2;exact SeqAt.RcNeAt.list_none hl1 hu'
  |bl b=>
   cases h2;cases r2;exact SeqAt.RcNeAt.list_bool b hl1 hu'
  |int b=>
   cases h2;obtain⟨t2,rfl⟩:=r2;exact SeqAt.RcNeAt.list_int b t2 hl1 hu'
  |str b=>
   cases h2;obtain⟨t2,rfl⟩:=r2;exact SeqAt.RcNeAt.list_str b t2 hl1 hu'
  |lst es=>
   obtain⟨p2,ys,rfl,hb,q2⟩:=h2;obtain⟨its2,v2,hl2⟩:=zAX ok hb;cases r2;have len1:its.toArray.size=ds.length:=by have:=v1.length;have:=q1.length;simp;lia
   have len2:its2.toArray.size=es.length:=by have:=v2.length;have:=q2.length;simp;lia
   show SeqAt.RcNeAt A s (.ref p) (.ref p2) (!Dat.eqL ds es)
   by_cases hs:ds.length=es.length
   ·have:=SeqAt.RcNeAt.lists (A:=A) (s:=s) hl1 hl2 (by rw[len1,len2,hs]) hu' (zG0 ok (by lia) (by rw[zDR];lia:A.in1.units+(n-1)<cLine) q1 q2 v1 v2)
    rw[len1,Dat.eqL_all hs _ (fun j h1 h2=>by rw[qA1,qA1];simp[h1,h2])]at this;exact this
   ·rw[Dat.eqL_len hs];exact SeqAt.RcNeAt.lists_lengths hl1 hl2 (by rw[len1,len2];simpa using hs) hu'
  |tup es=>
   obtain⟨p2,ys,rfl,hb,q2⟩:=h2;obtain⟨its2,v2,hl2⟩:=zBF ok hb;cases r2;exact SeqAt.RcNeAt.list_tuple hl1 hl2 hu'
 |tup ds=>
  have hdl:Dat.depL ds+1<=n:=by rw[Dat.dep]at hd;exact hd
  obtain⟨p,xs,rfl,ha,q1⟩:=h1;obtain⟨its,v1,hl1⟩:=zBF ok ha;cases r1;cases e with
  |non=>
   cases h2;cases r2;exact SeqAt.RcNeAt.tuple_none hl1 hu'
  |bl b=>
   cases h2;cases r2;exact SeqAt.RcNeAt.tuple_bool b hl1 hu'
  |int b=>
   cases h2;obtain⟨t2,rfl⟩:=r2;exact SeqAt.RcNeAt.tuple_int b t2 hl1 hu'
  |str b=>
   cases h2;obtain⟨t2,rfl⟩:=r2;exact SeqAt.RcNeAt.tuple_str b t2 hl1 hu'
  |lst es=>
   obtain⟨p2,ys,rfl,hb,q2⟩:=h2;obtain⟨its2,v2,hl2⟩:=zAX ok hb;cases r2;exact SeqAt.RcNeAt.tuple_list hl1 hl2 hu'
  |tup es=>
   obtain⟨p2,ys,rfl,hb,q2⟩:=h2;obtain⟨its2,v2,hl2⟩:=zBF ok hb;cases r2;have len1:its.toArray.size=ds.length:=by have:=v1.length;have:=q1.length;simp;lia
   have len2:its2.toArray.size=es.length:=by have:=v2.length;have:=q2.length;simp;lia
   show SeqAt.RcNeAt A s (.ref p) (.ref p2) (!Dat.eqL ds es)
   have:=SeqAt.RcNeAt.tuples (A:=A) (s:=s) hl1 hl2 hu' (zG0 ok (by lia) (by rw[zDR];lia:A.in1.units+(n-1)<cLine) q1 q2 v1 v2)
   by_cases hs:ds.length=es.length
   ·rw[len1,len2,<- hs,qG5,beq_self_eq_true,qEg,Dat.eqL_all hs _ (fun j h1 h2=>by rw[qA1,qA1];simp[h1,h2])]at this;exact this
   ·rw[len1,len2,show(ds.length==es.length)=false by simpa using hs,qDg]at this;rw[Dat.eqL_len hs];exact this
end
section
variable{X:Cx}
noncomputable def rEqD:R2:=fun x y H Q=>∃d e,Rep H d x/\Rep H e y/\d.dep<=40/\Q (.bl (Dat.eq d e)) H
noncomputable def rNeD:R2:=fun x y H Q=>∃d e,Rep H d x/\Rep H e y/\d.dep<=40/\Q (.bl (!Dat.eq d e)) H
theorem zWD(hu:X.A.units+64<cLine):OpR X (compareOp .Eq) rEqD:=by
 intro pins s σ H x y v u Q I rx ry h;obtain⟨d,e,h1,h2,hd,q⟩:=h;exact zR1 40 hd I.hok h1 h2 rx ry (by lia) _ _ _ _ ⟨.bl _,H,I,rfl,q⟩
theorem zWB(hu:X.A.units+64<cLine):OpR X (compareOp .NotEq) rNeD:=by
 intro pins s σ H x y v u Q I rx ry h;obtain⟨d,e,h1,h2,hd,q⟩:=h;exact zNE 40 hd I.hok h1 h2 rx ry (by lia) _ _ _ _ ⟨.bl _,H,I,rfl,q⟩
noncomputable def zIN(lo:Int)(n:Nat):List V:=(qAe n).map fun i=>.int (lo+(i:Nat))
theorem zG2:∀{xs:List V}{its:List Value},xs.length=its.length->(∀(j:Nat)(x:V)(v:Value),xs[j]?=some x->its[j]?=some v->RelV x v)->Vals xs its
 |[],[],_,_=>.nil
 |[],_::_,h,_=>by simp at h
 |_::_,[],h,_=>by simp at h
 |x::xs,v::its,h,g=>.cons (g 0 x v rfl rfl) (zG2 (by simpa using h) fun j y u e1 e2=>g (j+1) y u (by simpa using e1) (by simpa using e2))
theorem zNY{lo:Int}{n:Nat}{its:List Value}(hl:its.length=n)(h:∀(j:Nat) (v:Value),its[j]?=some v->∃t,v=Value.int (lo+(j:Int)*1) t):Vals (zIN lo n) its:=by
 refine zG2 (by simp[zIN,hl]) fun j x v e1 e2=>?_
 unfold zIN at e1;rw[qAn]at e1;cases e:(qAe n)[j]? with
 |none=>rw[e]at e1;cases e1
 |some i=>
  rw[e]at e1;cases e1;have hi:i=j:=by
   obtain⟨h1,h2⟩:=qA3.mp e;rw[qCe]at h2;exact h2.symm
  subst hi;obtain⟨t,ht⟩:=h i v e2;exact⟨t,by rw[ht,qHd]⟩
theorem zIY(hc:X.calm=true):zDM X (.type "list") (fun vs H Q=>∃p lo hi,vs=[.ref p]/\H p=some (.rng lo hi)/\(-(2 ^ 62)<=lo/\lo<2 ^ 62/\-(2 ^ 62)<=hi/\hi<2 ^ 62)/\hi-lo<=1000000/\∀l,H l=none->Q (.ref l) (upd H l (.lst (zIN lo (hi-lo).toNat)))):=by
 intro pins s σ H vs us Q I r h;obtain⟨p,lo,hi,rfl,hp,⟨b1,b2,b3,b4⟩,hz,q⟩:=h;obtain⟨u,rfl,rx⟩:=zE4 r;cases rx;obtain⟨t,u,v,e⟩:=(show ObjOk X.prog X.w H s.heap p (.rng lo hi) from I.hok p _ hp)
 have hn:Builtin.Range.rangeSize lo hi 1=(((hi-lo).toNat:Nat):Int):=by rw[rangeSize_one];split<;>lia
 refine call_list_range (n:=(hi-lo).toNat) (I.ok.hd hc) e (small_one b1 b2 b3 b4) hn (by lia) fun h' tk acc' c' hk hS hacc=>?_
 have rv:Vals (zIN lo (hi-lo).toNat) acc'.toList:=zNY (by simpa using hacc.1) fun j v hj=>hacc.2 j v (by simpa using hj)
 refine⟨.ref _,_,I.laid (o:=.lst (zIN lo (hi-lo).toNat)) hk (qA4 _) ⟨?_,acc'.toList,c',rv,by simpa using hS⟩,rfl,q _ I.fresh⟩;have hl:(zIN lo (hi-lo).toNat).length=(hi-lo).toNat:=by simp[zIN]
 rw[hl,sizeLine_eq]
 lia
end
end L2
namespace L2
open PySem PySem.Spec PyProof.Rows
section
variable{X:Cx}
def zW3:R2:=fun x y H Q=>match x,y with
 |.int i,.int j=>Q (.int (i+j)) H
 |.str i,.str j=>i.length+j.length<=sizeLine/\Q (.str (i++j)) H
 |.ref l,.ref b=>∃xs zs,H l=some (.lst xs)/\H b=some (.lst zs)/\xs.length+zs.length<=sizeLine/\∀p,H p=none->Q (.ref p) (upd H p (.lst (xs++zs)))
 |_,_=>False
theorem zBC:OpR X (binaryOp .Add) zW3:=by
 intro pins s σ H x y v u Q I rx ry h;cases x<;>cases y<;>first
  |exact zWF pins s σ H _ _ v u Q I rx ry ⟨_,_,rfl,rfl,h⟩
  |exact zNH pins s σ H _ _ v u Q I rx ry ⟨_,_,rfl,rfl,h.1,h.2⟩
  |(obtain⟨xs,zs,h1,h2,h3,h4⟩:=h;exact zWE pins s σ H _ _ v u Q I rx ry ⟨_,_,xs,zs,rfl,rfl,h1,h2,h3,h4⟩)
  |exact qA6 h
noncomputable def rMulU:R2:=fun x y H Q=>match x,y with
 |.int i,.int j=>CMul i j/\Q (.int (i*j)) H
 |_,_=>False
noncomputable def zVT:R2:=fun x y H Q=>match x,y with
 |.int i,.int j=>Q (.int (i-j)) H
 |_,_=>False
theorem zVG:OpR X (binaryOp .Sub) zVT:=by
 intro pins s σ H x y v u Q I rx ry h;cases x<;>cases y<;>first
  |exact zWA pins s σ H _ _ v u Q I rx ry ⟨_,_,rfl,rfl,h⟩
  |exact qA6 h
noncomputable def zVZ:R2:=fun x y H Q=>match x,y with
 |.int i,.int j=>0<j/\Q (.int (i%j)) H
 |_,_=>False
theorem zDK:OpR X (binaryOp .Mod) zVZ:=by
 intro pins s σ H x y v u Q I rx ry h;cases x<;>cases y<;>first
  |exact zWC pins s σ H _ _ v u Q I rx ry ⟨_,_,rfl,rfl,h.1,h.2⟩
  |exact qA6 h
def zVX:V->Hp->VK->Prop:=fun x H Q=>match x with
 |.int i=>Q (.int (-i)) H
 |_=>False
theorem zTK:UnR X (unaryOp .USub) zVX:=by
 intro pins s σ H x v Q I rx h;cases x<;>first
  |exact zVF pins s σ H _ v Q I rx ⟨_,rfl,h⟩
  |exact qA6 h
noncomputable def zU0(p:Int->Int->Bool):R2:=fun x y H Q=>match x,y with
 |.int i,.int j=>Q (.bl (p i j)) H
 |_,_=>False
theorem u_lt:OpR X (compareOp .Lt) (zU0 fun i j=>decide (i<j)):=by
 intro pins s σ H x y v u Q I rx ry h;cases x<;>cases y<;>first
  |exact zXX pins s σ H _ _ v u Q I rx ry ⟨_,_,rfl,rfl,h⟩
  |exact qA6 h
theorem u_gt:OpR X (compareOp .Gt) (zU0 fun i j=>decide (j<i)):=by
 intro pins s σ H x y v u Q I rx ry h;cases x<;>cases y<;>first
  |exact zXY pins s σ H _ _ v u Q I rx ry ⟨_,_,rfl,rfl,h⟩
  |exact qA6 h
def rEqU:R2:=fun x y H Q=>match x,y with
 |.int i,.int j=>Q (.bl (decide (i=j))) H
 |.str i,.str j=>Q (.bl (decide (i=j))) H
 |.bl i,.bl j=>Q (.bl (decide (i=j))) H
 |x,y=>rEqD x y H Q
def rNeU:R2:=fun x y H Q=>match x,y with
 |.int i,.int j=>Q (.bl (!decide (i=j))) H
 |.str i,.str j=>Q (.bl (!decide (i=j))) H
 |.bl i,.bl j=>Q (.bl (!decide (i=j))) H
 |x,y=>rNeD x y H Q
theorem u_eq(hu:X.A.units+64<cLine):OpR X (compareOp .Eq) rEqU:=by
 intro pins s σ H x y v u Q I rx ry h;cases x<;>cases y<;>first
  |(refine zXZ pins s σ H _ _ v u Q I rx ry ⟨rfl,?_⟩;have h':=h;simp only[rEqU]at h';simpa using h')
  |exact zWD hu pins s σ H _ _ v u Q I rx ry h
theorem u_ne(hu:X.A.units+64<cLine):OpR X (compareOp .NotEq) rNeU:=by
 intro pins s σ H x y v u Q I rx ry h;cases x<;>cases y<;>first
  |(refine zXW pins s σ H _ _ v u Q I rx ry ⟨rfl,?_⟩;have h':=h;simp only[rNeU]at h';simpa using h')
  |exact zWB hu pins s σ H _ _ v u Q I rx ry h
def rIxU(K:qA0):R2:=fun x y H Q=>match x,y with
 |.str z,.int i=>∃c,z.length<=sizeLine/\atI z.cps.toList i=some c/\Q (.str ⟨#[c]⟩) H
 |.ref p,.int i=>∃xs v,(SqL K H p xs\/SqT K H p xs)/\atI xs i=some v/\Q v H
 |_,_=>False
theorem u_ix:IxR X (rIxU X.K):=by
 intro value slice pins s σ H x y v u Q I rx ry h hs;cases x<;>cases y<;>first
  |(obtain⟨c,h1,h2,h3⟩:=h;exact zWU value slice pins s σ H _ _ v u Q I rx ry ⟨_,_,c,rfl,rfl,h1,h2,h3⟩ hs)
  |(obtain⟨xs,w,h1|h1,h2,h3⟩:=h
    ·exact zUK value slice pins s σ H _ _ v u Q I rx ry ⟨_,xs,_,w,rfl,rfl,h1,h2,h3⟩ hs
    ·exact zWT value slice pins s σ H _ _ v u Q I rx ry ⟨_,xs,_,w,rfl,rfl,h1,h2,h3⟩ hs)
  |exact qA6 h
def zTZ(K:qA0):List V->Hp->VK->Prop:=fun vs H Q=>match vs with
 |[.str z]=>z.length<=sizeLine/\Q (.int z.length) H
 |[.ref p]=>∃xs,(SqL K H p xs\/SqT K H p xs)/\Q (.int xs.length) H
 |_=>False
theorem zY2:zDM X (.builtin "len") (zTZ X.K):=by
 intro pins s σ H vs us Q I r h;cases vs with
 |nil=>exact qA6 h
 |cons hd1 tl1=>
  cases hd1 with
  |str z=>
   cases tl1 with
   |nil=>
    exact zKJ pins s σ H _ us Q I r ⟨z,rfl,h.1,h.2⟩
   |cons _ _=>exact qA6 h
  |ref p=>
   cases tl1 with
   |nil=>
    obtain⟨xs,h1,h2⟩:=h;exact zKK pins s σ H _ us Q I r ⟨p,xs,rfl,h1,h2⟩
   |cons _ _=>exact qA6 h
  |_=>exact qA6 h
def zHI(K:qA0):List V->Hp->VK->Prop:=fun vs H Q=>match vs with
 |[.ref p]=>(∃xs,(SqL K H p xs\/SqT K H p xs)/\∀l,H l=none->Q (.ref l) (upd H l (.lst xs))) \/
   ∃lo hi,H p=some (.rng lo hi)/\(-(2 ^ 62)<=lo/\lo<2 ^ 62/\-(2 ^ 62)<=hi/\hi<2 ^ 62)/\hi-lo<=1000000/\∀l,H l=none->Q (.ref l) (upd H l (.lst (zIN lo (hi-lo).toNat)))
 |_=>False
theorem zWR(hc:X.calm=true):zDM X (.type "list") (zHI X.K):=by
 intro pins s σ H vs us Q I r h;cases vs with
 |nil=>exact qA6 h
 |cons hd1 tl1=>
  cases hd1 with
  |ref p=>
   cases tl1 with
   |nil=>
    rcases h with⟨xs,h1,h2⟩|⟨lo,hi,h1,h2,h3,h4⟩
    ·exact zKI pins s σ H _ us Q I r ⟨p,xs,rfl,h1,h2⟩
    ·exact zIY hc pins s σ H _ us Q I r ⟨p,lo,hi,rfl,h1,h2,h3,h4⟩
   |cons _ _=>exact qA6 h
  |_=>exact qA6 h
end
noncomputable def zKF(N N':List Str)(k:Nat)(sc esc:Scope):Bool:=
 (sc.kind==.function)&&decide ((sc.names.map (·.1)).Nodup)&&(N'.length==N.length+k) &&
 ((qAe N.length).all fun i=>match N'[i]? with
  |none=>true
  |some x=>(sc.names.lookup x==none)||(sc.names.any (fun p=>p.1==x&&p.2==.free)&&N[i]?==some x)) &&
 (sc.names.all fun p=>p.2 != .free||esc.names.lookup p.1==some .cell||esc.names.lookup p.1==some .free)
theorem cn{X:Cx}{sc:Scope}(N':List Str)(k:Nat)(h:zKF X.N N' k sc X.env.scope=true):CompNames X.N N' k sc X.env:=by
 unfold zKF at h;simp only[qB9,decide_eq_true_eq,beq_iff_eq]at h;obtain⟨⟨⟨⟨h1,h2⟩,h3⟩,h4⟩,h5⟩:=h;refine⟨h1,h2,h3,fun i x e hi=>?_,fun x hx=>?_⟩
 ·have q:=qEr.mp h4 i (qC7.mpr hi);rw[e]at q;simp only[qGe,qB9,beq_iff_eq,List.any_eq_true]at q
  rcases q with q|⟨⟨p,hp,e1,e2⟩,e3⟩
  ·exact .inr q
  ·obtain⟨y,kk⟩:=p;dsimp only at e1 e2;subst e1;subst e2;exact .inl ⟨hp,e3⟩
 ·have q:=qEr.mp h5 _ hx;simp only[qGe,bne_iff_ne,ne_eq,not_true_eq_false,false_or,beq_iff_eq]at q;exact q
theorem PE.imp{X:Cx}{e:Expr}{t t':TE}(h:PE X e t)(i:∀σ H Q,t' σ H Q->t σ H Q):PE X e t':=fun pins s σ H Q I q=>h pins s σ H Q I (i σ H Q q)
noncomputable def vM(i:Nat):TE:=fun σ H Q=>match σ[i]? with
 |some (some v)=>Q v H
 |_=>False
theorem pn{X:Cx}(i:Nat){x:Str}{pos:Pos}(hN:X.N[i]?=some x:=by rfl)(hv:Vis X.env.scope x:=by first|exact qHg rfl|exact qH7 (qHg rfl)|exact qH7 (qH7 rfl))(hd:(x==("__debug__":Str))=false:=by decide)
  (hcd:(x==("__classdict__":Str))=false:=by decide):PE X (.Name x pos) (vM i):=(zSO hN hv hd hcd).imp fun σ H Q h=>by
 unfold vM at h;cases e:σ[i]? with
 |none=>rw[e]at h;exact qA6 h
 |some w=>
  rw[e]at h;cases w with
  |none=>exact qA6 h
  |some v=>exact⟨v,e,h⟩
noncomputable def bM(t:TE):TT:=fun σ H Q=>t σ H fun x H'=>match x with
 |.bl k=>Q k H'
 |.int i=>Q (i != 0) H'
 |.non=>Q false H'
 |_=>False
section
variable{X:Cx}{a b c:Expr}{ta tb tc:TE}{tA tB:TT}{rest:List Expr}{pos:Pos}
theorem zVI{K:qA0}{x:V}{H:Hp}{Q:Bool->Hp->Prop}(h:match x with | .bl k=>Q k H | .int i=>Q (i != 0) H | .non=>Q false H|_=>False):∃k,TruV K x H k/\Q k H:=by
 cases x with
 |bl k=>exact⟨k,rfl,h⟩
 |int i=>exact⟨_,rfl,h⟩
 |non=>exact⟨_,rfl,h⟩
 |_=>exact qA6 h
theorem pt_m(ha:PE X a ta)(he:∀whole,isTrue a X.env whole=(do let v <- whole;standAt a.pos;holding [v] (truthy v)):=by intro _;rfl):PT X a (bM ta):=by
 intro pins s σ H Q I h;refine isTrue_plain (thn (ha pins s σ H _ I h) fun v s1 z0=>?_) (he _);obtain⟨x,H1,I1,r1,q1⟩:=z0;exact thn (zVH pins s1 σ H1 x v Q I1 r1 (zVI q1)) fun _ _ q=>q
theorem zDL{op:CmpOp}{r:R2}(ho:OpR X (compareOp op) r)(ha:PE X a ta)(hb:PE X b tb)(hm:behindInMarks op b=false):PT X (.Compare a [op] [b] pos) (fun σ H Q=>ta σ H fun x H1=>tb σ H1 fun y H2=>r x y H2 fun z H3=>match z with | .bl k=>Q k H3|_=>False):=by
 intro pins s σ H Q I h;refine wpAny_isTrue_Compare1 (thn (ha pins s σ H _ I h) fun v s1 ⟨x,H1,I1,r1,q1⟩=>thn (hb pins s1 σ H1 _ I1 q1) fun u s2 ⟨y,H2,I2,r2,q2⟩=>
  thn (ho pins s2 σ H2 x y v u _ I2 r1 r2 q2) fun d s3 ⟨z,H3,I3,r3,q3⟩=>?_) hm
 cases z with
 |bl k=>cases r3;exact wpAny_truthy_bool ⟨H3,I3,q3⟩
 |_=>exact qA6 q3
def appM:V->List V->Hp->VK->Prop:=fun x vs H Q=>match x,vs with
 |.ref l,[y]=>∃xs,H l=some (.lst xs)/\xs.length<sizeLine/\Q .non (upd H l (.lst (xs++[y])))
 |_,_=>False
theorem zGG:MtR X "list.append" appM:=by
 intro pins s σ H x vs v us Q I rx rv h;cases x with
 |ref l=>
  cases vs with
  |nil=>exact qA6 h
  |cons y t=>
   cases t with
   |nil=>
    obtain⟨xs,h1,h2,h3⟩:=h;exact zP7 pins s σ H _ _ v us Q I rx rv ⟨l,xs,y,rfl,rfl,h1,h2,h3⟩
   |cons _ _=>exact qA6 h
 |_=>exact qA6 h
end
theorem pt_w{X:Cx}{e:Expr}{t:TT}(h:PW X e t):PT X e t:=h.pt
def Has(P:Program)(w:World)(K:qA0)(mg:Str->Option Value)(base:Heap)(x:Str)(k:Nat)(ps:List Str)(sp:Sp):Prop:=
 ∃f fd,FnOk P w K mg base CX0 k f fd ps sp/\mg x=some (.ref f)/\qAd K (.ref f)=true/\Binds K fd ps []
def Def(K:qA0)(mg:Str->Option Value)(x:Str)(st:Stmt):Prop:=∃f fd,Fun K x x st f fd/\mg x=some (.ref f)
section
variable{X:Cx}{x:Str}{j k:Nat}{ps:List Str}{sp:Sp}{e:Expr}{es:List Expr}{t:TA}{p pos:Pos}
theorem zEL(h:Has X.prog X.w X.K X.mg X.base x j ps sp)(hjk:j<=k)(hr:Room k X.A)(hg:Gl X x)(ha:PA X (e::es) t)(hdb:(x==("__debug__":Str))=false:=by decide)
  (he:starEach (e::es) X.env=(false,eval e X.env)::starEach es X.env:=by rfl) (hpl:(backTo pos (starEach es X.env)).any (·.1)=false:=by rfl):PE X (.Call (.Name x p) (e::es) [] pos) (zL2 sp [] E0 t):=by
 obtain⟨f,fd,G,m,kp,b⟩:=h;exact zOY G (hr.mono hjk) hg m kp b .nil zXV ha hdb he hpl
end
section
variable{P:Program}{w:World}{K:qA0}{mg:Str->Option Value}{base:Heap}
theorem Def.ok{x:Str}{st:Stmt}{N ps:List Str}{k:Nat}{sp:Sp}(D:Def K mg x st)(S:FnScope N ps (zA5 st))
  (hb:∀(kV doc pm:Value)(an:Option Addr)(cdv ct:Value)(us:List Value),us.length=ps.length->bindArgs (qAx x x (zB5 st) (zAY st) (zA5 st) .none kV doc pm an cdv ct) ⟨us,[]⟩=pure (ps.zip us))
  (len:∀vs H Q E,sp vs H Q E->vs.length=ps.length)
  (hbody:∀(f:Addr)(cdv:Value)(A:Around)(outer:List Env)(s:Shared)(H:Hp)(vs:List V)(Q:VK)(E:XK),Room k (A.deeper (envOfC x (zA5 st) s.heap.objs.size f cdv))->sp vs H Q E ->
   ∃t,PSs (cxOf CX0 P w K mg base N x (zA5 st) f cdv A outer s H E).nox (zAY st) t/\t { nx:=fun _ H'=>Q .non H',rt:=Q } (start N vs) H):Has P w K mg base x (k+1) ps sp:=by
 obtain⟨f,fd,F,m⟩:=D;exact⟨f,fd,F.ok S len (fun cdv A outer s H vs Q E hr h=>hbody f cdv A outer s H vs Q E hr h),m,F.kp,F.binds hb⟩
end
end L2
namespace L2
open PySem PySem.Spec PyProof.Rows
section
variable{X:Cx}{pins:List (Addr×Obj)}{σ:St}{H:Hp}{s:Shared}
theorem Inv.turnedNew{h':Heap}{t':Nat}{fp:List Addr}{a:Addr}{o:HO}(I:Inv X pins σ H s)(hf:∀b∈fp,FpOk X pins H b)(k:∀b u,b∉fp->s.heap.get? b=some u->h'.get? b=some u)
  (hp:s.heap.objs.size<=a) (new:ObjOk X.prog X.w (upd H a o) h' a o):Inv X pins σ (upd H a o) { s with heap:=h',toks:=t' }:=by
 have hn:H a=none:=I.hok.fresh hp;have ne:∀b u,s.heap.get? b=some u->b≠a:=fun b u e=>qAf (qAc (Heap.lt_size e) hp)
 have nfp:∀b u,H b=some u->b∉fp:=fun b u e z=>by rw[(hf b z).1]at e;cases e
 refine I.step (g':=s.gens) (d':=s.drawn) (ch:=fp) (fun b hb=>⟨(hf b hb).2.2.2.1,(hf b hb).2.1,(hf b hb).2.2.2.2.1,(hf b hb).2.2.2.2.2⟩) (fun b u _ _ hc e _=>k b u hc e) (fun b u _ _ hc e _=>⟨u.slots,k b u hc e⟩)
  (fun b u _ e n=>by rw[zA6 (ne b u e)];exact n) (fun b u hc e=>⟨u,k b u hc e⟩) (fun b xs e=>by rw[zA6 (zAI e hn)];exact e) (fun b u xs e=>by rw[zA6 (zAI e hn)];exact e)
  (fun b ps e=>⟨#[],by rw[zA6 (zAI e hn),e];simp⟩) (fun m hm=>?_) (fun b u e=>?_) I.bare
 ·obtain⟨u,es,ep,ho,r⟩:=hm;exact⟨u,es,ep,k _ u (fun z=>(hf _ z).2.1 rfl) ho,r⟩
 ·by_cases hb:b=a
  ·subst hb;rw[zAD]at e;cases e;exact new
  ·rw[zA6 hb]at e;refine(I.hok b u e).stay (fun c v hc q=>k c v ?_ q) (fun c q=>by rw[zA6 (zAI q hn)];exact q) (fun c xs q=>by rw[zA6 (zAI q hn)];exact q) fun c _ _ q _=>by rw[zA6 (zAI q hn)];exact q
   rcases hc with z|z
   ·rw[z];exact nfp b u e
   ·exact nfp c _ z
theorem Inv.turnedL{h':Heap}{t':Nat}{fp:List Addr}(I:Inv X pins σ H s)(hf:∀b∈fp,FpOk X pins H b)(k:∀b u,b∉fp->s.heap.get? b=some u->h'.get? b=some u):Inv X pins σ H { s with heap:=h',toks:=t' }:=by
 have nfp:∀b u,H b=some u->b∉fp:=fun b u e z=>by rw[(hf b z).1]at e;cases e
 refine I.step (g':=s.gens) (d':=s.drawn) (ch:=fp) (fun b hb=>⟨(hf b hb).2.2.2.1,(hf b hb).2.1,(hf b hb).2.2.2.2.1,(hf b hb).2.2.2.2.2⟩) (fun b u _ _ hc e _=>k b u hc e) (fun b u _ _ hc e _=>⟨u.slots,k b u hc e⟩)
  (fun b u _ e n=>n) (fun b u hc e=>⟨u,k b u hc e⟩) (fun b xs e=>e) (fun b u xs e=>e)
  (fun b ps e=>⟨#[],by rw[e];simp⟩) (fun m hm=>?_) (fun b u e=>?_) I.bare
 ·obtain⟨u,es,ep,ho,r⟩:=hm;exact⟨u,es,ep,k _ u (fun z=>(hf _ z).2.1 rfl) ho,r⟩
 ·refine(I.hok b u e).stay (fun c v hc q=>k c v ?_ q) (fun c q=>q) (fun c xs q=>q) fun c _ _ q _=>q
  rcases hc with z|z
  ·rw[z];exact nfp b u e
  ·exact nfp c _ z
def Ite(K:qA0)(a:Addr):It:=
 ⟨fun i H=>∃xs x,SqL K H a xs/\xs[i]?=some x,fun i H x H'=>∃T y,x=.ref T/\H T=none/\H'=upd H T (.tup [.int i,y])/\∀xs,SqL K H a xs->xs[i]?=some y,fun i H=>∃xs,SqL K H a xs/\xs.length<=i⟩
theorem zO4{P:Program}{w:World}{K:qA0}{ts:List Expr}{kk:Nat}{tp:Pos}(a e it:Addr)(hei:e≠it) :
  Turn P w K (.Tuple ts kk tp) (Ite K a) [e,it] e (fun i h=>(∃old,IsEnum h e it i old)/\h.IsListIter it a i) where
 mem:=by simp
 obj:=fun i h st b hb=>by
  rcases qA7.mp hb with z|z
  ·subst z;obtain⟨⟨old,he⟩,_⟩:=st;exact⟨_,he,fun v z=>by cases z⟩
  ·have z':b=it:=by simpa using z
   subst z';obtain⟨_,o,e,c,d⟩:=st;exact⟨o,e,fun v z=>by rw[d]at z;cases z⟩
 keep:=fun i h h' st k=>⟨by obtain⟨⟨old,he⟩,_⟩:=st;exact⟨old,k e (by simp) _ he⟩,st.2.at fun o x=>k it (by simp) o x⟩
 item:=by
  intro X hP hw hK hc i pins s σ H E I hf st hg;subst hP hw hK;obtain⟨xs,x,hq,hx⟩:=hg;obtain⟨its,rv,p,hz⟩:=I.list hq;obtain⟨u,hu,ru⟩:=rv.get hx;obtain⟨⟨old,he⟩,hit⟩:=st;refine wpAny_pyNext_enum_item he hit p.isList (x:=u) (by simpa using hu) hei fun h' ho hit' hT hsz hk=>?_
  refine⟨_,rfl,wpAny_letOwnedTupleGo_enum ho fun h'' he'' hs''=>?_⟩;have hTe:s.heap.objs.size≠e:=qBm (Heap.lt_size he);have hTi:s.heap.objs.size≠it:=by obtain⟨o,ho',_⟩:=hit;exact qBm (Heap.lt_size ho')
  have kk:∀b u,b∉[e,it]->s.heap.get? b=some u->h''.get? b=some u:=fun b u hb q=>by
   have b1:b≠e:=fun z=>hb (by simp[z])
   have b2:b≠it:=fun z=>hb (by simp[z])
   exact(hs''.2 b b1).trans (hk b u b1 b2 q)
  have hT'':=(hs''.2 _ hTe).trans hT;refine⟨.ref s.heap.objs.size,_,I.turnedNew (t':=s.toks+1) (o:=.tup [.int i,x]) hf kk (qA4 _) ⟨by show 2<=sizeLine;decide,[.int i s.toks,u],.cons ⟨_,rfl⟩ (.cons ru .nil),⟨_,hT'',rfl,_,rfl⟩⟩,rfl,
   ⟨_,x,rfl,I.fresh,rfl,fun ys hy=>by rw[I.list_inj hy hq];exact hx⟩,⟨⟨_,by simpa using he''⟩,hit'.at fun o x=>(hs''.2 it hei.symm).trans x⟩,fun b hb=>?_⟩
  have hbs:b<s.heap.objs.size:=by
   rcases qA7.mp hb with z|z
   ·rw[z];exact Heap.lt_size he
   ·have z':b=it:=by simpa using z
    rw[z'];obtain⟨o,ho',_⟩:=hit;exact Heap.lt_size ho'
  rw[zA6 (qAf hbs)];exact(hf b hb).1
 done:=by
  intro X hP hw hK hc i pins s σ H E I hf st hg;subst hP hw hK;obtain⟨xs,hq,hx⟩:=hg;obtain⟨its,rv,p,hz⟩:=I.list hq;have hl:=rv.length;obtain⟨⟨old,he⟩,hit⟩:=st;exact wpAny_pyNext_enum_end (I.ok.hd hc) he hit p.isList (by simp;lia) fun h' eb=>⟨rfl,I.turnedL (t':=s.toks) hf fun b u hb q=>eb b u (fun z=>hb (by simp[z])) q⟩
 self:=fun _ _ _ _ _ st h=>by obtain⟨⟨old,he⟩,_⟩:=st;exact wpAny_pyIter_enum he h
def iEnum(K:qA0)(tl:TA):TI:=fun σ H R=>tl σ H fun vs H1=>match vs with
 |[.ref a]=>(∃xs,SqL K H1 a xs)/\R (Ite K a) H1
 |_=>False
end
section
variable{X:Cx}{K:qA0}
theorem zDQ(hK:X.K=K:=by rfl):zDM X (.builtin "len") (zTZ K):=hK▸zY2
theorem zUJ(hc:X.calm=true)(hK:X.K=K:=by rfl):zDM X (.type "list") (zHI K):=hK▸zWR hc
theorem zBH(hK:X.K=K:=by rfl):IxR X (rIxU K):=hK▸u_ix
theorem zIG{es:List Expr}{k:Nat}{t:TGs}{n:Nat}{pos:Pos}(hc:X.calm=true)(h:PGs X es t)
  (hn:(assignEach es X.env).length=n:=by rfl) (hst:(assignEach es X.env).findIdx? (·.1)=none:=by rfl) (hK:X.K=K:=by rfl):PG X (.Tuple es k pos) (gTup K n t):=hK▸zW5 hc h hn hst
noncomputable def tML(r:V->List V->Hp->VK->Prop)(to:TE)(t:TA):TE:=fun σ H Q=>to σ H fun x H1=>match x with
 |.ref p=>∃xs,H1 p=some (.lst xs)/\t σ H1 fun vs H2=>r x vs H2 Q
 |_=>False
variable{o e:Expr}{es:List Expr}{to:TE}{t:TA}{name:Str}{apos cpos:Pos}{T id:String}{r:V->List V->Hp->VK->Prop}
theorem zOT(pa:PlainAttrs "list")(slot:Slot "list" name id)(hty:typeOf (.builtin id)=pure (.type "method_descriptor"))(hm:MtR X id r)(ho:PE X o to)(ha:PA X (e::es) t)
  (hbase:attributeBase o name X.env (eval o X.env)=eval o X.env:=by rfl)
  (hfew:((backTo cpos (starEach (e::es) X.env)).all (fun x=>!x.1)&&(backToKw cpos (keywordEach [] X.env)).all (fun x=>x.1.isSome)
   && decide ((e::es).length+([]:List Keyword).length+(if([]:List Keyword).isEmpty then 0 else 1)<30))=true:=by rfl)
  (hline:(apos.endLine==cpos.line)=true:=by rfl) (hs:starEach (e::es) X.env=(false,eval e X.env)::starEach es X.env:=by rfl) (hplain:(backTo cpos (starEach es X.env)).any (·.1)=false:=by rfl) :
  PE X (.Call (.Attribute o name apos) (e::es) [] cpos) (tML r to t):=by
 intro pins s σ H Q I h;refine wpAny_Call_method_late hbase hfew hline rfl (thn (ho pins s σ H _ I h) fun v s1 z0=>?_);obtain⟨x,H1,I1,r1,q1⟩:=z0;cases x with
 |ref p=>?_
 |_=>exact qA6 q1
 obtain⟨xs,hx,q1⟩:=q1;obtain⟨h1,h2⟩:=zSC (T:="list") I1 r1 (.inl ⟨rfl,xs,SqL.of hx⟩);refine⟨"list",id,pa,slot,hty,h1,h2,?_⟩;have hA:=ha cpos pins s1 σ H1 _ I1 q1;rw[hs]at hA ⊢;refine Calls.callWith_builtin (by show(false||(backTo cpos (starEach es X.env)).any (·.1))=false;rw[hplain]<;>rfl) (Calls.evalArgs_plain ?_);exact thn hA fun us s2 ⟨vs,H2,I2,r2,q2⟩=>hm pins s2 σ H2 (.ref p) vs v us Q I2 r1 r2 q2
end
end L2
namespace L2
open PySem PySem.Spec PyProof.Rows
theorem same_new{H:Hp}{p:Addr}(h:H p=none)(o:HO):Same H (upd H p o):=fun b u q=>by rw[zA6 (zAI q h)];exact q
theorem Same.upd{H H':Hp}{p:Addr}(s:Same H H')(h:H p=none)(o:HO):Same H (upd H' p o):=fun b u q=>by rw[zA6 (zAI q h)];exact s b u q
theorem SqL.sq{K:qA0}{H H':Hp}{a:Addr}{xs:List V}(h:SqL K H a xs)(s:Same H H'):SqL K H' a xs:=s.seq h
theorem zD4{H:Hp}:∀(ns:List Int),RepL H (ns.map Dat.int) (ns.map V.int)
 |[]=>rfl
 |n::r=>⟨.int n,r.map V.int,rfl,rfl,zD4 r⟩
theorem zGS:∀(ns:List Int),Dat.depL (ns.map Dat.int)=0
 |[]=>rfl
 |n::r=>by
  rw[qAu,Dat.depL,zGS r];rfl
theorem zIR:∀(ns ms:List Int),Dat.eqL (ns.map Dat.int) (ms.map Dat.int)=decide (ns=ms)
 |[],[]=>by simp[Dat.eqL]
 |[],_::_=>by simp[Dat.eqL]
 |_::_,[]=>by simp[Dat.eqL]
 |n::r,m::q=>by
  rw[qAu,qAu,Dat.eqL,zIR r q,Dat.eq]
  by_cases h:n=m
  ·subst h;simp
  ·simp[h]
theorem big{n:Nat}(h:n<=100000):n<sizeLine:=by rw[sizeLine_eq];lia
theorem zKA:∀{ns:List Int}{vs:List Value},Vals (ns.map V.int) vs->IntsAre vs ns
 |[],_,.nil=>.nil
 |n::r,_,.cons h t=>by
  obtain⟨tk,rfl⟩:=h;exact .cons n tk (zKA t)
section
variable{X:Cx}
def rInU(K:qA0)(neg:Bool):R2:=fun x y H Q=>match y with
 |.ref p=>∃xs,(SqL K H p xs\/SqT K H p xs)/\zFN x=true/\xs.all zFN=true/\Q (.bl (if neg then !inV x xs else inV x xs)) H
 |.str j=>match x with
  |.str i=>Q (.bl (if neg then !(!(Builtin.Str.occurrences j i 0 j.length 1).isEmpty)else !(Builtin.Str.occurrences j i 0 j.length 1).isEmpty)) H
  |_=>False
 |_=>False
theorem u_in{K:qA0}(hK:X.K=K:=by rfl):OpR X (compareOp .In) (rInU K false):=by
 subst hK;intro pins s σ H x y v u Q I rx ry h;cases y with
 |ref p=>
  obtain⟨xs,h1,h2,h3,h4⟩:=h;exact zP3 pins s σ H _ _ v u Q I rx ry ⟨p,xs,rfl,h1,h2,h3,h4⟩
 |str j=>
  cases x with
  |str i=>exact zP2 pins s σ H _ _ v u Q I rx ry ⟨i,j,rfl,rfl,h⟩
  |_=>exact qA6 h
 |_=>exact qA6 h
theorem zTJ{K:qA0}(hK:X.K=K:=by rfl):OpR X (compareOp .NotIn) (rInU K true):=by
 subst hK;intro pins s σ H x y v u Q I rx ry h;cases y with
 |ref p=>
  obtain⟨xs,h1,h2,h3,h4⟩:=h;exact zJU pins s σ H _ _ v u Q I rx ry ⟨p,xs,rfl,h1,h2,h3,h4⟩
 |str j=>
  cases x with
  |str i=>exact zJT pins s σ H _ _ v u Q I rx ry ⟨i,j,rfl,rfl,h⟩
  |_=>exact qA6 h
 |_=>exact qA6 h
end
end L2
namespace Mi
open PySem
noncomputable section
inductive Sv where
 |i (n:Int)|s (x:Str)
inductive Sw where
 |non|bl (b:Bool)|int (i:Int)|str (x:Str)
inductive Dt where
 |non|bl (b:Bool)|int (i:Int)|str (x:Str)|lst (xs:List Dt)|tup (xs:List Dt)|scr (ns:List Int)|exc (c f:Str) (d:Dt)|ins (c:Str) (fs:List (Str×Sv))|dct (kvs:List (Sum Int Str×Sw))|fn (x:Str) (d:Dt)
mutual
def Dt.dep:Dt->Nat
 |.lst xs=>Dt.depL xs+1
 |.tup xs=>Dt.depL xs+1
 |.scr _=>1000
 |.exc _ _ _=>1000
 |.fn _ _=>1000
 |.ins _ _=>1000
 |.dct _=>1000
 |_=>0
def Dt.depL:List Dt->Nat
 |[]=>0
 |x::r=>max x.dep (Dt.depL r)
end
mutual
def Dt.eq:Dt->Dt->Bool
 |.non,.non=>true
 |.bl a,.bl b=>a==b
 |.bl a,.int b=>(if a then 1 else 0)==b
 |.int a,.bl b=>a==(if b then 1 else 0)
 |.int a,.int b=>a==b
 |.str a,.str b=>a==b
 |.lst xs,.lst ys=>Dt.eqL xs ys
 |.tup xs,.tup ys=>Dt.eqL xs ys
 |_,_=>false
def Dt.eqL:List Dt->List Dt->Bool
 |[],[]=>true
 |x::r,y::q=>Dt.eq x y&&Dt.eqL r q
 |_,_=>false
end
structure Xn where
 cls:Str
 f:Str
 d:Dt
abbrev R(α:Type):=Option (Except Xn α)
noncomputable def okR{α:Type}(a:α):R α:=some (.ok a)
noncomputable def zA3{α β:Type}(x:R α)(f:α->R β):R β:=match x with
 |none=>none
 |some (.error e)=>some (.error e)
 |some (.ok a)=>f a
def optR{α:Type}(o:Option α):R α:=match o with
 |none=>none
 |some a=>okR a
@[simp] theorem zA0{α β:Type}(a:α)(f:α->R β):zA3 (okR a) f=f a:=rfl
@[simp] theorem zA8{α β:Type}(f:α->R β):zA3 none f=none:=rfl
@[simp] theorem zAG{α β:Type}(e:Xn)(f:α->R β):zA3 (some (.error e)) f=some (.error e):=rfl
@[simp] theorem zA9{α:Type}(a:α):optR (some a)=okR a:=rfl
@[simp] theorem zAE{α:Type}:optR (none:Option α)=none:=rfl
abbrev Rh:=List (Option Dt)
abbrev Sl:=Dt×Nat
abbrev Ro:=List (Option Sl)
abbrev EM:=Rh->R Dt
abbrev TM:=Rh->R Bool
abbrev AM:=Rh->R (List Dt)
abbrev FM:=List Dt->R Dt
noncomputable def ixA(n:Nat)(i:Int):Option Nat:=if 0<=i then(if i<n then some i.toNat else none)else if -(n:Int)<=i then some (i+n).toNat else none
def itA{α:Type}(xs:List α)(i:Int):Option α:=(ixA xs.length i).bind fun j=>xs[j]?
noncomputable def addD:Dt->Dt->Option Dt
 |.int i,.int j=>some (.int (i+j))
 |.str i,.str j=>@ite _ (i.length+j.length<=100000) (qA2 _) (some (.str (i++j))) none
 |.lst xs,.lst ys=>@ite _ (xs.length+ys.length<=100000) (qA2 _) (some (.lst (xs++ys))) none
 |_,_=>none
noncomputable def subD:Dt->Dt->Option Dt
 |.int i,.int j=>some (.int (i-j))
 |_,_=>none
noncomputable def mulD:Dt->Dt->Option Dt
 |.int i,.int j=>@ite _ (((-18446744073709551616<i/\i<18446744073709551616)\/(-18446744073709551616<j/\j<18446744073709551616))\/i.natAbs.log2+j.natAbs.log2<=67108864) (qA2 _) (some (.int (i*j))) none
 |_,_=>none
noncomputable def divD:Dt->Dt->Option Dt
 |.int i,.int j=>@ite _ (0<j/\j<1000000000000000000000000) (qA2 _) (some (.int (i/j))) none
 |_,_=>none
noncomputable def modD:Dt->Dt->Option Dt
 |.int i,.int j=>if 0<j then some (.int (i%j))else none
 |_,_=>none
noncomputable def powD:Dt->Dt->Option Dt
 |.int i,.int j=>@ite _ (0<=j/\j<=1000000/\i.natAbs<18446744073709551616) (qA2 _) (some (.int (i ^ j.toNat))) none
 |_,_=>none
noncomputable def negD:Dt->Option Dt
 |.int i=>some (.int (-i))
 |_=>none
noncomputable def cmpD(p:Int->Int->Bool):Dt->Dt->Option Dt
 |.int i,.int j=>some (.bl (p i j))
 |_,_=>none
noncomputable def eqD(x y:Dt):Option Dt:=if x.dep<=40/\y.dep<=40 then some (.bl (Dt.eq x y))else none
noncomputable def neD(x y:Dt):Option Dt:=if x.dep<=40/\y.dep<=40 then some (.bl (!Dt.eq x y))else none
noncomputable def zEA:Dt->Bool
 |.non=>true
 |_=>false
def isD(x y:Dt):Option Dt:=match y with
 |.non=>some (.bl (zEA x))
 |_=>none
noncomputable def zY3(x y:Dt):Option Dt:=match y with
 |.non=>some (.bl (!zEA x))
 |_=>none
def ixD:Dt->Dt->Option Dt
 |.lst xs,.int i=>itA xs i
 |.tup xs,.int i=>itA xs i
 |.scr ns,.int i=>(itA ns i).map .int
 |.str z,.int i=>@ite _ (z.length<=100000) (qA2 _) ((itA z.cps.toList i).map fun c=>.str ⟨#[c]⟩) none
 |_,_=>none
noncomputable def lenD:List Dt->Option Dt
 |[.lst xs]=>some (.int xs.length)
 |[.tup xs]=>some (.int xs.length)
 |[.scr ns]=>some (.int ns.length)
 |[.str z]=>@ite _ (z.length<=100000) (qA2 _) (some (.int z.length)) none
 |_=>none
noncomputable def zPD:List Dt->Option Dt
 |[.lst xs]=>some (.lst xs)
 |[.tup xs]=>some (.lst xs)
 |[.scr ns]=>some (.lst (ns.map .int))
 |_=>none
noncomputable def nums(lo:Int)(n:Nat):List Dt:=(qAe n).map fun i:Nat=>.int (lo+(i:Int))
noncomputable def tyD:Dt->String
 |.non=>"NoneType"
 |.bl _=>"bool"
 |.int _=>"int"
 |.str _=>"str"
 |.lst _=>"list"
 |.tup _=>"tuple"
 |.scr _=>""
 |.exc _ _ _=>""
 |.fn _ _=>""
 |.ins _ _=>""
 |.dct _=>""
def isiD(n:String)(x:Dt):Option Dt:=if tyD x = "" then none else some (.bl (tyD x==n||(tyD x == "bool" && n == "int")))
noncomputable def zXD:List Dt->Option (List Bool)
 |[]=>some []
 |.bl b::r=>(zXD r).map (b::·)
 |_::_=>none
noncomputable def maxD:List Dt->Option Dt
 |[.int i,.int j]=>some (.int (if j>i then j else i))
 |_=>none
noncomputable def minD:List Dt->Option Dt
 |[.int i,.int j]=>some (.int (if j<i then j else i))
 |_=>none
noncomputable def absD:List Dt->Option Dt
 |[.int i]=>some (.int (if i<0 then -i else i))
 |_=>none
noncomputable def hasD(x:Dt)(ys:List Dt):Option Bool:=if x.dep=0/\Dt.depL ys=0 then some (ys.any fun y=>Dt.eq y x)else none
def inD(ng:Bool)(x y:Dt):Option Dt:=match y with
 |.lst ys=>(hasD x ys).map fun b=>.bl (if ng=true then !b else b)
 |.tup ys=>(hasD x ys).map fun b=>.bl (if ng=true then !b else b)
 |.str z=>match x with
  |.str y=>match y.cps.toList with
   |[c]=>some (.bl (if ng=true then !decide (c∈z.cps.toList)else decide (c∈z.cps.toList)))
   |_=>none
  |_=>none
 |_=>none
noncomputable def cutIx(n d:Nat):Option Int->Nat
 |none=>d
 |some v=>if v<0 then(v+(n:Int)).toNat else min v.toNat n
def cutA{α:Type}(xs:List α)(lo hi:Option Int):List α:=(xs.drop (cutIx xs.length 0 lo)).take (cutIx xs.length xs.length hi-cutIx xs.length 0 lo)
def slD:Dt->Option Int->Option Int->Option Dt
 |.lst xs,lo,hi=>some (.lst (cutA xs lo hi))
 |.str z,lo,hi=>@ite _ (z.length<=100000) (qA2 _) (some (.str ⟨(cutA z.cps.toList lo hi).toArray⟩)) none
 |_,_,_=>none
abbrev OM:=Rh->R (Option Int)
def oNo:OM:=fun _=>okR none
def oE(e:Rh->R Dt):OM:=fun ρ=>zA3 (e ρ) fun d=>match d with
 |.int i=>okR (some i)
 |_=>none
def eSl(a:Rh->R Dt)(lo hi:OM):Rh->R Dt:=fun ρ=>zA3 (a ρ) fun x=>zA3 (lo ρ) fun l=>zA3 (hi ρ) fun h=>optR (slD x l h)
noncomputable def posC(c:Nat):List Nat->Option Nat
 |[]=>none
 |x::r=>if x=c then some 0 else(posC c r).map (·+1)
def findD(x:Dt)(ys:List Dt):Option Dt:=match x,ys with
 |.str z,[.str y]=>match y.cps.toList with
  |[c]=>some (.int (match posC c z.cps.toList with|some i=>(i:Int)|none=>-1))
  |_=>none
 |_,_=>none
noncomputable def countD(x:Dt)(ys:List Dt):Option Dt:=match x,ys with
 |.str z,[.str y]=>match y.cps.toList with
  |[c]=>some (.int (z.cps.toList.count c:Nat))
  |_=>none
 |_,_=>none
noncomputable def strsD:List Dt->Option (List Str)
 |[]=>some []
 |.str z::r=>(strsD r).map (z::·)
 |_::_=>none
def joinD(x:Dt)(ys:List Dt):Option Dt:=match x,ys with
 |.str z,[.lst ds]=>match strsD ds with
  |some zs=>@ite _ ((zs.map (·.length)).sum+zs.length*z.length<=100000) (qA2 _) (some (.str (Str.join z zs))) none
  |none=>none
 |_,_=>none
noncomputable def zMN:Dt->Bool
 |.str _=>true
 |_=>false
def eMt(f:Dt->List Dt->Option Dt)(a:Rh->R Dt)(am:Rh->R (List Dt)):Rh->R Dt:=fun ρ=>zA3 (a ρ) fun x=>if zMN x=true then zA3 (am ρ) fun xs=>optR (f x xs)else none
noncomputable def signsD(z:Str):List Dt:=z.cps.toList.map fun c=>.str ⟨#[c]⟩
def eC(d:Dt):EM:=fun _=>okR d
def eV(i:Nat):EM:=fun ρ=>match ρ[i]? with
 |some (some d)=>okR d
 |_=>none
def eB(f:Dt->Dt->Option Dt)(a b:EM):EM:=fun ρ=>zA3 (a ρ) fun x=>zA3 (b ρ) fun y=>optR (f x y)
def eU(f:Dt->Option Dt)(a:EM):EM:=fun ρ=>zA3 (a ρ) fun x=>optR (f x)
def eAnd(a b:EM):EM:=fun ρ=>zA3 (a ρ) fun x=>match x with
 |.bl k=>if k=true then b ρ else okR (.bl false)
 |_=>none
def eOr(a b:EM):EM:=fun ρ=>zA3 (a ρ) fun x=>match x with
 |.bl k=>if k=true then okR (.bl true)else b ρ
 |_=>none
def eNot(a:EM):EM:=fun ρ=>zA3 (a ρ) fun x=>match x with
 |.bl k=>okR (.bl (!k))
 |_=>none
def zX6(p q:Dt->Dt->Option Dt)(a b c:EM):EM:=fun ρ=>zA3 (a ρ) fun x=>zA3 (b ρ) fun y=>zA3 (optR (p x y)) fun z=>match z with
 |.bl k=>if k=true then zA3 (c ρ) fun w=>optR (q y w)else okR (.bl false)
 |_=>none
def eIf(c:TM)(a b:EM):EM:=fun ρ=>zA3 (c ρ) fun k=>if k=true then a ρ else b ρ
def aNil:AM:=fun _=>okR []
def aCons(e:EM)(r:AM):AM:=fun ρ=>zA3 (e ρ) fun x=>zA3 (r ρ) fun xs=>okR (x::xs)
def eLst(a:AM):EM:=fun ρ=>zA3 (a ρ) fun xs=>@ite _ (xs.length<=100000) (qA2 _) (okR (.lst xs)) none
def eTup(a:AM):EM:=fun ρ=>zA3 (a ρ) fun xs=>@ite _ (xs.length<=100000) (qA2 _) (okR (.tup xs)) none
def eCall(f:FM)(a:AM):EM:=fun ρ=>zA3 (a ρ) f
def eBi(f:List Dt->Option Dt)(a:AM):EM:=fun ρ=>zA3 (a ρ) fun xs=>optR (f xs)
def eIsi(n:String)(a:EM):EM:=fun ρ=>zA3 (a ρ) fun x=>optR (isiD n x)
def tB(a:EM):TM:=fun ρ=>zA3 (a ρ) fun x=>match x with
 |.bl k=>okR k
 |_=>none
def tM(a:EM):TM:=fun ρ=>zA3 (a ρ) fun x=>match x with
 |.bl k=>okR k
 |.int i=>okR (i != 0)
 |.non=>okR false
 |_=>none
def tAn(a b:TM):TM:=fun ρ=>zA3 (a ρ) fun k=>if k=true then b ρ else okR false
def tOr(a b:TM):TM:=fun ρ=>zA3 (a ρ) fun k=>if k=true then okR true else b ρ
def tNo(a:TM):TM:=fun ρ=>zA3 (a ρ) fun k=>okR (!k)
def tYes:TM:=fun _=>okR true
abbrev IM:=Rh->R (List Dt)
def iSq(e:EM):IM:=fun ρ=>zA3 (e ρ) fun d=>match d with
 |.lst xs=>okR xs
 |.tup xs=>okR xs
 |.scr ns=>okR (ns.map .int)
 |.str z=>okR (signsD z)
 |_=>none
def iR1(e:AM):IM:=fun ρ=>zA3 (e ρ) fun vs=>match vs with
 |[.int j]=>@ite _ (-4611686018427387904<=j/\j<4611686018427387904) (qA2 _) (okR (nums 0 j.toNat)) none
 |_=>none
noncomputable def enumD(n:Nat):List Dt->List Dt
 |[]=>[]
 |x::r=>.tup [.int n,x]::enumD (n+1) r
def iEn(e:AM):IM:=fun ρ=>zA3 (e ρ) fun vs=>match vs with
 |[.lst xs]=>okR (enumD 0 xs)
 |_=>none
noncomputable def zipD:List Dt->List Dt->List Dt
 |x::r,y::q=>.tup [x,y]::zipD r q
 |_,_=>[]
def iZi(e:AM):IM:=fun ρ=>zA3 (e ρ) fun vs=>match vs with
 |[.lst xs,.lst ys]=>okR (zipD xs ys)
 |_=>none
inductive Tg where
 |one (i:Nat)
 |tup (is:List Nat)
noncomputable def zAT:Tg->Dt->Option (List (Nat×Dt))
 |.one i,d=>some [(i,d)]
 |.tup is,.tup ds=>if ds.length=is.length then some (is.zip ds)else none
 |.tup _,_=>none
noncomputable def Tg.idx:Tg->List Nat
 |.one i=>[i]
 |.tup is=>is
noncomputable def zB3:Rh->List (Nat×Dt)->Rh
 |ρ,[]=>ρ
 |ρ,(i,d)::r=>zB3 (ρ.set i (some d)) r
noncomputable def zB1:Ro->List (Nat×Dt)->Ro
 |ρ,[]=>ρ
 |ρ,(i,d)::r=>zB1 (ρ.set i (some (d,0))) r
def compGo(ρ:Rh)(k:Nat)(tg:Tg)(c:TM)(e:EM):List Dt->List Dt->R (List Dt)
 |[],acc=>okR acc
 |d::ds,acc=>match zAT tg d with
  |none=>none
  |some bs=>zA3 (c (zB3 (ρ++qAm k none) bs)) fun b=>if b=true then zA3 (e (zB3 (ρ++qAm k none) bs)) fun x=>compGo ρ k tg c e ds (acc++[x])else compGo ρ k tg c e ds acc
def eComp(it:IM)(k:Nat)(tg:Tg)(c:TM)(e:EM):EM:=fun ρ=>zA3 (it ρ) fun ds=>@ite _ (ds.length<=100000/\(tg.idx.all fun i=>decide (ρ.length<=i))=true) (qA2 _) (zA3 (compGo ρ k tg c e ds []) fun es=>okR (.lst es)) none
inductive Out where
 |nx (ρ:Ro)|rt (d:Dt)|bk (ρ:Ro)|ct (ρ:Ro)
abbrev SM:=Ro->R Out
noncomputable def full(ρ:Ro):Rh:=ρ.map fun o=>o.map qHh
noncomputable def frz(ρ:Ro):Rh:=ρ.map fun o=>match o with
 |some (d,n)=>if n=0\/d.dep=0 then some d else none
 |none=>none
noncomputable def frz1(i:Nat)(ρ:Ro):Ro:=match ρ[i]? with
 |some (some (d,_))=>ρ.set i (some (d,0))
 |_=>ρ
def frzAt:List Nat->Ro->Ro
 |[],ρ=>ρ
 |i::r,ρ=>frzAt r (frz1 i ρ)
def sNil:SM:=fun ρ=>okR (.nx ρ)
def sSeq(a b:SM):SM:=fun ρ=>zA3 (a ρ) fun o=>match o with
 |.nx ρ'=>b ρ'
 |o=>okR o
noncomputable def zVP:SM:=fun _=>none
def zVQ:SM:=fun ρ=>okR (.bk ρ)
def zXT:SM:=fun ρ=>okR (.ct ρ)
def sIf(c:TM)(a b:SM):SM:=fun ρ=>zA3 (c (full ρ)) fun k=>if k=true then a ρ else b ρ
def zXS(e:EM):SM:=fun ρ=>zA3 (e (full ρ)) fun _=>okR (.nx ρ)
def sSet(i n:Nat)(vs:List Nat)(e:EM):SM:=fun ρ=>zA3 (e (full ρ)) fun d=>
 if d.dep<=n then okR (.nx (ρ.set i (some (d,n))))else zA3 (e (frz (frzAt vs ρ))) fun d'=>okR (.nx ((frzAt vs ρ).set i (some (d',n))))
def sUnp(is:List Nat)(vs:List Nat)(e:EM):SM:=fun ρ=>zA3 (e (frz (frzAt vs ρ))) fun d=>match zAT (.tup is) d with
 |none=>none
 |some bs=>okR (.nx (zB1 (frzAt vs ρ) bs))
def sRet(L n:Nat)(vs:List Nat)(e:EM):SM:=fun ρ=>zA3 (e (full ρ)) fun d=>
 if d.dep<=n/\d.dep<=L then okR (.rt d)else if n=L then zA3 (e (frz (frzAt vs ρ))) fun d'=>okR (.rt d')else none
def zXR:SM:=fun _=>okR (.rt .non)
def sRetV(L i:Nat):SM:=fun ρ=>match ρ[i]? with
 |some (some (d,k))=>if k=L\/L=0\/(d.dep<=k/\d.dep<=L/\k<1000)then okR (.rt d)else none
 |_=>none
def sApp(i n:Nat)(e:EM):SM:=fun ρ=>match ρ[i]? with
 |some (some (.lst ds,k+1))=>zA3 (e (full ρ)) fun d=>@ite _ (ds.length<=100000/\d.dep<=n/\d.dep<=k) (qA2 _) (okR (.nx (ρ.set i (some (.lst (ds++[d]),k+1))))) none
 |_=>none
def forGo(tg:Tg)(b:SM):List Dt->SM
 |[],ρ=>okR (.nx ρ)
 |d::ds,ρ=>match zAT tg d with
  |none=>none
  |some bs=>zA3 (b (zB1 ρ bs)) fun o=>match o with
   |.nx ρ'=>forGo tg b ds ρ'
   |.ct ρ'=>forGo tg b ds ρ'
   |.bk ρ'=>okR (.nx ρ')
   |.rt d=>okR (.rt d)
def sFor(vs:List Nat)(it:IM)(tg:Tg)(b:SM):SM:=fun ρ=>zA3 (it (frz (frzAt vs ρ))) fun ds=>forGo tg b ds (frzAt vs ρ)
def sForR(it:IM)(i:Nat)(b:SM):SM:=fun ρ=>zA3 (it (full ρ)) fun ds=>forGo (.one i) b ds ρ
noncomputable def startO(n:Nat)(ds:List Dt):Ro:=ds.map (fun d=>some (d,0))++qAm (n-ds.length) none
def endF:Out->R Dt
 |.nx _=>okR .non
 |.rt d=>okR d
 |_=>none
def runF(P n:Nat)(b:SM):FM:=fun ds=>if ds.length=P then zA3 (b (startO n ds)) endF else none
end
end Mi
namespace L2
open PySem PySem.Spec PyProof.Rows
theorem zT8(n d:Nat)(o:Option Int)(hd:d<=n):HT.sIx n d o<=n:=by
 cases o with
 |none=>exact hd
 |some v=>
  show(if v<0 then(v+(n:Int)).toNat else min v.toNat n)<=n
  split<;>lia
theorem zNP(lo hi:Option Int)(n:Nat):Builtin.Str.strSliceIndices lo hi 1 n=(qAe (HT.sIx n n hi-HT.sIx n 0 lo)).map fun k=>HT.sIx n 0 lo+k:=by
 unfold Builtin.Str.strSliceIndices sliceRange;have c1:∀(o:Option Int)(d:Nat),(match o with|none=>(d:Int)|some i=>(if(1:Int)>0 then max 0 (min (if i<0 then i+(n:Int)else i) n)else max (-1) (min (if i<0 then i+(n:Int)else i) (n-1))))=((HT.sIx n d o:Nat):Int):=by
  intro o d;cases o with
  |none=>rfl
  |some v=>
   show _=(((if v<0 then(v+(n:Int)).toNat else min v.toNat n:Nat)):Int)
   dsimp only;rw[if_pos (by decide)]
   split<;>lia
 dsimp only;rw[if_pos (show(1:Int)>0 by decide),if_pos (show(1:Int)>0 by decide),if_pos (show(1:Int)>0 by decide)];have e1:=c1 lo 0;have e2:=c1 hi n;rw[show((0:Nat):Int)=0 by rfl]at e1;have h1:∀a b:Int,a=((HT.sIx n 0 lo:Nat):Int)->b=((HT.sIx n n hi:Nat):Int)->(qAe ((if a<b then(b-a+1-1)/1 else 0).toNat)).map (fun k:Nat=>(a+1*(k:Int)).toNat)=(qAe (HT.sIx n n hi-HT.sIx n 0 lo)).map fun k=>HT.sIx n 0 lo+k:=by
  intro a b ha hb;subst ha hb;have e:(if((HT.sIx n 0 lo:Nat):Int)<((HT.sIx n n hi:Nat):Int)then(((HT.sIx n n hi:Nat):Int)-((HT.sIx n 0 lo:Nat):Int)+1-1)/1 else 0).toNat=HT.sIx n n hi-HT.sIx n 0 lo:=by
   split
   ·rw[qH9];lia
   ·lia
  rw[e];refine qDr fun k _=>?_
  lia
 exact h1 _ _ e1 e2
theorem zJS:∀(xs:List Nat)(a k:Nat),a+k<=xs.length->((qAe k).map fun j=>a+j).filterMap (xs[·]?)=(xs.drop a).take k:=by
 intro xs a k h
 induction k with
 |zero=>simp
 |succ k ih=>
  rw[qDs,qCh,List.filterMap_append,ih (by lia),qFx]
  congr 1
  have:a+k<xs.length:=by lia
  simp[qFn,this]
theorem zQP(z:Str)(lo hi:Option Int):Txt.slice z lo hi=⟨(Mi.cutA z.cps.toList lo hi).toArray⟩:=by
 obtain⟨⟨xs⟩⟩:=z;have hl:(⟨⟨xs⟩⟩:Str).length=xs.length:=rfl;unfold Txt.slice;rw[zNP,hl];have e0:∀o d,Mi.cutIx xs.length d o=HT.sIx xs.length d o:=fun o d=>by cases o<;>rfl
 have hb:=zT8 xs.length xs.length hi (qA4 _);have ha:=zT8 xs.length 0 lo (qAi _);have hc:Mi.cutA xs lo hi=(xs.drop (HT.sIx xs.length 0 lo)).take (HT.sIx xs.length xs.length hi-HT.sIx xs.length 0 lo):=by
  unfold Mi.cutA;rw[e0,e0]
 show _=(⟨(Mi.cutA xs lo hi).toArray⟩:Str)
 rw[hc]
 split
 ·rename_i h
  have h':HT.sIx xs.length xs.length hi-HT.sIx xs.length 0 lo=xs.length:=by simpa using h
  have a0:HT.sIx xs.length 0 lo=0:=by lia
  rw[h',a0,qCr,qEs]
 ·by_cases hle:HT.sIx xs.length 0 lo<=HT.sIx xs.length xs.length hi
  ·have:=zJS xs (HT.sIx xs.length 0 lo) (HT.sIx xs.length xs.length hi-HT.sIx xs.length 0 lo) (by lia)
   rw[<- this];simp
  ·rw[show HT.sIx xs.length xs.length hi-HT.sIx xs.length 0 lo=0 by lia];simp
section
variable{X:Cx}
def rSlU(K:qA0):V->Option Int->Option Int->Hp->VK->Prop:=fun x lo hi H Q=>match x with
 |.str z=>z.length<=sizeLine/\Q (.str ⟨(Mi.cutA z.cps.toList lo hi).toArray⟩) H
 |.ref a=>∃xs,SqL K H a xs/\∀p,H p=none->Q (.ref p) (upd H p (.lst (cutV xs lo hi)))
 |_=>False
theorem zP0{v:Value}{o:Option Int}(h:IsPart v o):∃l:Option (Int×Tok),v=partValue l/\l.map (·.1)=o:=by
 cases h with
 |none=>exact⟨none,rfl,rfl⟩
 |int i t=>exact⟨some (i,t),rfl,rfl⟩
theorem u_sl{K:qA0}(hK:X.K=K:=by rfl):SlR X (rSlU K):=by
 subst hK;intro pins s σ H x v vl vu lo hi sl Q I rx hs pl pu h;cases x with
 |ref a=>
  obtain⟨xs,h1,h2⟩:=h;exact zTP pins s σ H _ v vl vu lo hi sl Q I rx hs pl pu ⟨a,xs,rfl,h1,h2⟩
 |str z=>
  obtain⟨hz,q⟩:=h;obtain⟨t,rfl⟩:=rx;obtain⟨l,rfl,el⟩:=zP0 pl;obtain⟨u,rfl,eu⟩:=zP0 pu;obtain⟨o,g1,g2,g3⟩:=hs;refine⟨"str",_,F.slot_str_getitem.lookup,typeIs_str _ _ _,wpAny_getItem_str_slice (l:=l) (u:=u) (st:=none) ⟨o,g1,g2,g3⟩ rfl ?_⟩;have hp:(if((1:Int)==1&&(Builtin.Str.strSliceIndices lo hi 1 z.length).length==z.length)=true then Made.val (.str z t)else Made.str ⟨((Builtin.Str.strSliceIndices lo hi 1 z.length).filterMap (z.cps[·]?)).toArray⟩).post (EP X pins σ Q) s:=by
   refine post_val_or_str ⟨qAr (Txt.slice_le z lo hi) hz,fun t' k=>?_⟩;refine⟨.str (Txt.slice z lo hi),H,I.tok _,⟨_,rfl⟩,?_⟩;rw[zQP];exact q
  unfold sliceMade slicePicked;rw[el,eu];exact hp
 |_=>exact qA6 h
end
noncomputable def Its(z:Str):It:=⟨fun i _=>i<z.cps.size,fun i H x H'=>H'=H/\∃c,z.cps[i]?=some c/\x=.str ⟨#[c]⟩,fun i _=>z.cps.size<=i⟩
theorem zQM{P:Program}{w:World}{K:qA0}{tg:Expr}(z:Str)(t:Tok)(it:Addr)(ty:String)(hty:ty=strIterType z):Turn P w K tg (Its z) [it] it (fun i h=>h.IsStrIter it ty z t i) where
 mem:=by simp
 obj:=fun i h st b hb=>by
  have e:b=it:=by simpa using hb
  subst e;obtain⟨o,e,c,d⟩:=st;exact⟨o,e,fun v z=>by rw[d]at z;cases z⟩
 keep:=fun i h h' st k=>by obtain⟨o,ho,r⟩:=st;exact⟨o,k it (by simp) o ho,r⟩
 item:=by
  intro X hP hw hK hc i pins s σ H E I hf st hg;subst hP hw hK;have hi:i<z.cps.size:=hg;have hx:z.cps[i]?=some z.cps[i]:=qE3 hi;obtain⟨f0,f1,f2,f3,f4,f5⟩:=hf it (by simp);have fin:∀h',h'.IsStrIter it ty z t (i+1)->Heap.SameBut it s.heap h'->∃u,some (Value.str ⟨#[z.cps[i]]⟩ s.toks)=some u/\wpAny (model X.prog X.w) X.A (letOwnedTupleGo tg (.ref it) u) (fun _ s2=>∃x H',Inv X pins σ H' s2/\RelV x u/\(Its z).yld i H x H'/\s2.heap.IsStrIter it ty z t (i+1)/\∀b∈[it],H' b=none) E { s with heap:=h',toks:=s.toks+1 }:=by
   intro h' st' sb;have I1:Inv X pins σ H { s with heap:=h',toks:=s.toks+1 }:=I.turned (t':=s.toks+1) (fun b o hb e=>(sb.2 b hb).trans e) f0 f1 f3 f4 f5;obtain⟨o,e,c,d⟩:=id st';refine⟨_,rfl,zRT (s:={ s with heap:=h',toks:=s.toks+1 }) e c d ?_ ⟨.str ⟨#[z.cps[i]]⟩,H,I1,⟨_,rfl⟩,⟨rfl,_,hx,rfl⟩,st',fun b hb=>(hf b hb).1⟩⟩;rw[hty];unfold strIterType;split<;>decide
  cases ha:z.cps.all (· < 128)
  ·have e:ty = "str_iterator":=by rw[hty];unfold strIterType;rw[ha];rfl
   subst e;exact wpAny_pyNext_wide_item st hx fun h' a b=>fin h' a b
  ·have e:ty = "str_ascii_iterator":=by rw[hty];unfold strIterType;rw[ha];rfl
   subst e;exact wpAny_pyNext_ascii_item st hx fun h' a b=>fin h' a b
 done:=by
  intro X hP hw hK hc i pins s σ H E I hf st hg;subst hP hw hK;have hx:z.cps[i]?=none:=Array.getElem?_eq_none hg;obtain⟨f0,f1,f2,f3,f4,f5⟩:=hf it (by simp);have fin:∀h',Heap.ExtBut it s.heap h'->(none:Option Value)=none/\Inv X pins σ H { s with heap:=h' }:=fun h' eb=>⟨rfl,I.turned (t':=s.toks) (fun b o hb e=>eb b o hb e) f0 f1 f3 f4 f5⟩
  cases ha:z.cps.all (· < 128)
  ·have e:ty = "str_iterator":=by rw[hty];unfold strIterType;rw[ha];rfl
   subst e;exact wpAny_pyNext_wide_end (I.ok.hd hc) st hx fun h' a=>fin h' a
  ·have e:ty = "str_ascii_iterator":=by rw[hty];unfold strIterType;rw[ha];rfl
   subst e;exact wpAny_pyNext_ascii_end (I.ok.hd hc) st hx fun h' a=>fin h' a
 self:=fun A i s Q E st h=>by
  cases ha:z.cps.all (· < 128)
  ·have e:ty = "str_iterator":=by rw[hty];unfold strIterType;rw[ha];rfl
   subst e;exact wpAny_pyIter_striter_wide st h
  ·have e:ty = "str_ascii_iterator":=by rw[hty];unfold strIterType;rw[ha];rfl
   subst e;exact wpAny_pyIter_striter_ascii st h
section
variable{X:Cx}
def iAny(K:qA0)(tl:TE):TI:=fun σ H R=>tl σ H fun x H1=>match x with
 |.ref a=>(∃xs,SqL K H1 a xs)/\R (Itl K a) H1\/(∃xs,SqT K H1 a xs)/\R (Itt K a) H1
 |.str z=>R (Its z) H1
 |_=>False
theorem zHK{K:qA0}{tg l:Expr}{tl:TE}(hl:PE X l tl)(hK:X.K=K:=by rfl):PI X tg l (iAny K tl):=by
 subst hK;intro pins s σ H R I h;refine thn (hl pins s σ H _ I h) fun v s1 z0=>?_
 obtain⟨x,H1,I1,r1,q1⟩:=z0;cases x with
 |ref a=>
  cases r1
  rcases q1 with⟨⟨xs,hq⟩,q⟩|⟨⟨xs,hq⟩,q⟩
  ·obtain⟨its,rv,p,hz⟩:=I1.list hq;refine wpAny_pyIter_list p.isList ?_;refine⟨s1.heap.objs.size,[s1.heap.objs.size],_,_,H1,rfl,I1.kept (t':=s1.toks) fun b o e=>Heap.get?_push_of_some _ e,zO3 a _,⟨_,Heap.get?_push_size _ rfl,rfl,rfl⟩,fun b hb=>?_,q⟩;have e:b=s1.heap.objs.size:=by simpa using hb
   subst e;exact I1.fpOk (qA4 _) (I1.hok.fresh (qA4 _))
  ·obtain⟨its,rv,p,hz⟩:=I1.tuple hq;refine wpAny_pyIter_tuple (show s1.heap.IsTuple a its.toArray from p) ?_;refine⟨s1.heap.objs.size,[s1.heap.objs.size],_,_,H1,rfl,I1.kept (t':=s1.toks) fun b o e=>Heap.get?_push_of_some _ e,zN0 a _,⟨_,Heap.get?_push_size _ rfl,rfl,rfl⟩,fun b hb=>?_,q⟩;have e:b=s1.heap.objs.size:=by simpa using hb
   subst e;exact I1.fpOk (qA4 _) (I1.hok.fresh (qA4 _))
 |str z=>
  obtain⟨t,rfl⟩:=r1;refine wpAny_pyIter_strU ?_;refine⟨s1.heap.objs.size,[s1.heap.objs.size],_,_,H1,rfl,I1.kept (t':=s1.toks) fun b o e=>Heap.get?_push_of_some _ e,zQM z t _ _ rfl,⟨_,Heap.get?_push_size _ rfl,rfl,rfl⟩,fun b hb=>?_,q1⟩;have e:b=s1.heap.objs.size:=by simpa using hb
  subst e;exact I1.fpOk (qA4 _) (I1.hok.fresh (qA4 _))
 |_=>exact qA6 q1
def zX5:V->List V->Hp->VK->Prop:=fun x vs H Q=>match x,vs with
 |.str z,[.str y]=>Q (.int (Txt.find z y)) H
 |_,_=>False
theorem zRE:MtR X "str.find" zX5:=by
 intro pins s σ H x vs v us Q I rx rv h;cases x with
 |str z=>
  cases vs with
  |nil=>exact qA6 h
  |cons y t=>
   cases y with
   |str y=>
    cases t with
    |nil=>
     obtain⟨t,rfl⟩:=rx;obtain⟨u,rfl,ru⟩:=zE4 rv;obtain⟨t2,rfl⟩:=ru;exact SC.find ⟨.int _,H,I.tok _,⟨_,rfl⟩,h⟩
    |cons _ _=>exact qA6 h
   |_=>exact qA6 h
 |_=>exact qA6 h
def zT9:V->List V->Hp->VK->Prop:=fun x vs H Q=>match x,vs with
 |.str z,[.str y]=>Q (.int (Txt.count z y)) H
 |_,_=>False
theorem zK5:MtR X "str.count" zT9:=by
 intro pins s σ H x vs v us Q I rx rv h;cases x with
 |str z=>
  cases vs with
  |nil=>exact qA6 h
  |cons hd1 tl1=>
   cases hd1 with
   |str y=>
    cases tl1 with
    |nil=>
     obtain⟨t,rfl⟩:=rx;obtain⟨u,rfl,ru⟩:=zE4 rv;obtain⟨t2,rfl⟩:=ru;exact SC.count ⟨.int _,H,I.tok _,⟨_,rfl⟩,h⟩
    |cons _ _=>exact qA6 h
   |_=>exact qA6 h
 |_=>exact qA6 h
theorem zJC:∀{ys:List Str}{us:List Value},Vals (ys.map V.str) us->StrsAre us ys
 |[],_,.nil=>.nil
 |y::ys,_,.cons r t=>by obtain⟨k,rfl⟩:=r;exact .cons y k (zJC t)
def zWS:V->List V->Hp->VK->Prop:=fun x vs H Q=>match x,vs with
 |.str z,[.ref a]=>∃ys:List Str,H a=some (.lst (ys.map V.str))/\(ys.map (·.length)).sum+ys.length*z.length<=16777216/\Q (.str (Str.join z ys)) H
 |_,_=>False
theorem zRD:MtR X "str.join" zWS:=by
 intro pins s σ H x vs v us Q I rx rv h;cases x with
 |str z=>
  cases vs with
  |nil=>exact qA6 h
  |cons hd1 tl1=>
   cases hd1 with
   |ref a=>
    cases tl1 with
    |nil=>
     obtain⟨t,rfl⟩:=rx;obtain⟨u,rfl,ru⟩:=zE4 rv;cases ru;obtain⟨ys,h1,h2,h3⟩:=h;obtain⟨its,rv,hl⟩:=zAX I.hok h1;exact join_list hl (by simpa using zJC rv) h2 fun t' k=>⟨.str (Str.join z ys),H,I.tok _,⟨t',by rw[eq_of_beq (join_closes (ys:=ys) (rfl:z=z))]⟩,h3⟩
    |cons _ _=>exact qA6 h
   |_=>exact qA6 h
 |_=>exact qA6 h
end
theorem zL3(z:Str)(c i:Nat):(i+1<=z.length/\Builtin.Str.subAt z ⟨#[c]⟩ i=true)↔z.cps.toList[i]?=some c:=by
 obtain⟨⟨xs⟩⟩:=z;unfold Builtin.Str.subAt
 show(i+1<=xs.length/\((⟨xs⟩:Array Nat).extract i (i+1)==#[c])=true)↔xs[i]?=some c
 constructor
 ·rintro⟨h1,h2⟩
  have h3:=congrArg qG3 (eq_of_beq h2);simp at h3;have hlt:i<xs.length:=by lia
  rw[qA9 hlt];have h4:(qHn 1 (qHo i xs))=[c]:=by
   have:=h3
   simpa[qE4]using this
  rw[qBc hlt,qFg]at h4;exact congrArg some (List.cons.inj h4).1
 ·intro h;have hlt:i<xs.length:=(qA3.mp h).1;have he:xs[i]=c:=(qA3.mp h).2;refine⟨by lia,?_⟩
  have:(⟨xs⟩:Array Nat).extract i (i+1)=#[c]:=by
   apply Array.toList_inj.mp
   simp[qE4];rw[qBc hlt];simp[he]
  rw[this];simp
theorem zIE(c:Nat):∀(xs:List Nat),(Mi.posC c xs=none/\∀i:Nat,xs[i]?≠some c)\/∃i:Nat,Mi.posC c xs=some i/\xs[i]?=some c/\∀j:Nat,j<i->xs[j]?≠some c
 |[]=>.inl ⟨rfl,fun i=>by simp⟩
 |x::r=>by
  rw[Mi.posC]
  by_cases h:x=c
  ·rw[if_pos h];exact .inr ⟨0,rfl,by simp[h],fun j hj=>by lia⟩
  ·rw[if_neg h]
   rcases zIE c r with⟨h1,h2⟩|⟨i,h1,h2,h3⟩
   ·rw[h1];refine .inl ⟨rfl,fun i=>?_⟩;cases i with
    |zero=>simpa using h
    |succ i=>simpa using h2 i
   ·rw[h1];refine .inr ⟨i+1,rfl,by simpa using h2,fun j hj=>?_⟩;cases j with
    |zero=>simpa using h
    |succ j=>simpa using h3 j (by lia)
theorem zK4(z y:Str)(hi:Nat):∀(l:List Nat)(free:Nat),(∀i∈l,free<=i)->l.Pairwise (· < ·) ->
  ((forIn l ((#[]:Array Nat),free) (StrLaws.occBody z y hi 1)).run.fst.toList=[]/\∀i∈l,¬(i+y.length<=hi/\Builtin.Str.subAt z y i=true)) \/
  ∃i,i∈l/\(forIn l ((#[]:Array Nat),free) (StrLaws.occBody z y hi 1)).run.fst.toList=[i]/\(i+y.length<=hi/\Builtin.Str.subAt z y i=true)/\∀j∈l,j<i->¬(j+y.length<=hi/\Builtin.Str.subAt z y j=true)
 |[],free,_,_=>.inl ⟨by simp,fun i h=>by simp at h⟩
 |a::l,free,hf,hp=>by
  rw[qF3];unfold StrLaws.occBody;have ha:free<=a:=hf a qAv;have hp':=qBy.mp hp
  by_cases hc:a+y.length<=hi/\Builtin.Str.subAt z y a=true
  ·have c1:(((#[]:Array Nat),free).fst.size<1/\((#[]:Array Nat),free).snd<=a)/\a+y.length<=hi:=⟨⟨by simp,ha⟩,hc.1⟩
   rw[if_pos ⟨c1,hc.2⟩];refine .inr ⟨a,qAv,?_,hc,fun j hj hlt=>?_⟩
   ·have stay:∀(l:List Nat)(st:Array Nat×Nat),st.fst.size=1->(forIn l st (StrLaws.occBody z y hi 1)).run.fst=st.fst:=by
     intro l
     induction l with
     |nil=>intro st _;rfl
     |cons b l ih=>
      intro st hs;rw[qF3];unfold StrLaws.occBody;rw[if_neg (by rw[hs];intro h;lia)];exact ih (st.fst,st.snd) hs
    have:=stay l (#[a],a+y.length) rfl
    show(forIn l (#[a],a+y.length) (StrLaws.occBody z y hi 1)).run.fst.toList=[a]
    rw[this]
   ·rcases qA7.mp hj with rfl|hm
    ·lia
    ·have:=hp'.1 j hm;lia
  ·have c2:¬(((((#[]:Array Nat),free).fst.size<1/\((#[]:Array Nat),free).snd<=a)/\a+y.length<=hi)/\Builtin.Str.subAt z y a=true):=fun h=>hc ⟨h.1.2,h.2⟩
   rw[if_neg c2]
   rcases zK4 z y hi l free (fun i hi'=>hf i (qAo _ hi')) hp'.2 with⟨h1,h2⟩|⟨i,h1,h2,h3,h4⟩
   ·refine .inl ⟨h1,fun i hi'=>?_⟩
    rcases qA7.mp hi' with rfl|hm
    ·exact hc
    ·exact h2 i hm
   ·refine .inr ⟨i,qAo _ h1,h2,h3,fun j hj hlt=>?_⟩
    rcases qA7.mp hj with rfl|hm
    ·exact hc
    ·exact h4 j hm hlt
theorem zUC(z:Str)(c:Nat):Builtin.Str.occurrences z ⟨#[c]⟩ 0 z.length 1=(match Mi.posC c z.cps.toList with|some i=>[i]|none=>[]):=by
 rw[StrLaws.occ_eq];have hlen:(⟨#[c]⟩:Str).length=1:=rfl;have hzl:z.length=z.cps.toList.length:=by simp[Str.length]
 have hm:∀i,i<z.length->i∈qGf 0 (z.length+1-0):=fun i hi=>by simp[List.mem_range'];lia
 rcases zK4 z ⟨#[c]⟩ z.length (qGf 0 (z.length+1-0)) 0 (fun _ _=>qAi _) (List.pairwise_lt_range' (s:=0) (n:=z.length+1-0) (step:=1) (by decide))with⟨h1,h2⟩|⟨i,h1,h2,h3,h4⟩
 ·rw[h1]
  rcases zIE c z.cps.toList with⟨g1,_⟩|⟨j,g1,g2,_⟩
  ·rw[g1]
  ·exact absurd ((zL3 z c j).mpr g2) (h2 j (hm j (by rw[hzl];exact(qA3.mp g2).1)))
 ·rw[h2];have hi:=(zL3 z c i).mp h3
  rcases zIE c z.cps.toList with⟨_,g2⟩|⟨j,g1,g2,g3⟩
  ·exact absurd hi (g2 i)
  ·rw[g1];have hj:j<z.length:=by rw[hzl];exact(qA3.mp g2).1
   rcases Nat.lt_trichotomy i j with q|q|q
   ·exact absurd hi (g3 i q)
   ·rw[q]
   ·exact absurd ((zL3 z c j).mpr g2) (h4 j (hm j hj) q)
theorem zRZ(z:Str)(c:Nat):Txt.find z ⟨#[c]⟩=(match Mi.posC c z.cps.toList with|some i=>(i:Int)|none=>-1):=by
 unfold Txt.find;rw[zUC];cases Mi.posC c z.cps.toList<;>rfl
theorem zQ8(z:Str)(c:Nat):Txt.count z ⟨#[c]⟩=(z.cps.toList.count c:Nat):=by
 rw[count_is];show cnt c z.cps.toList=_
 generalize z.cps.toList=xs
 induction xs with
 |nil=>rfl
 |cons x r ih=>
  rw[cnt_cons,ih,qDt]
  by_cases h:x=c<;>simp[h]
  lia
end L2
namespace L2
open PySem PySem.Spec PyProof.Rows
section
variable{X:Cx}{K:qA0}
end
end L2
namespace L2
open PySem PySem.Spec PyProof.Rows
def XO(e:Addr)(C:Value)(d:Option Addr)(h:Heap):Prop:=∃oe vs,h.get? e=some oe/\oe.cls=C/\oe.dict=d/\oe.data=.fields vs/\1<vs.size
abbrev xo(e:Addr)(C:Value)(d:Option Addr):HO:=.ext (XO e C d)
def Fl(n:Nat)(e:Addr)(C:Value)(d:Option Addr)(mk:Value)(H:Hp)(h:Heap):Prop:=
 ∃oe vs T oT ts,h.get? e=some oe/\oe.cls=C/\oe.dict=d/\oe.data=.fields vs/\vs[1]?=some (.ref T)/\n<=T/\T≠e/\H T=none/\h.get? T=some oT/\oT.data=.fields ts/\ts[3]?=some mk
def Fly(n:Nat)(e:Addr)(C:Value)(d:Option Addr)(H:Hp)(h:Heap):Prop:=
 H e=some (xo e C d)/\((∃oe vs,h.get? e=some oe/\oe.cls=C/\oe.dict=d/\oe.data=.fields vs/\vs[1]?=some .none)\/Fl n e C d .none H h)
def Held(n:Nat)(e:Addr)(C:Value)(d:Option Addr)(L:Addr)(H:Hp)(h:Heap):Prop:=H e=some (xo e C d)/\Fl n e C d (rawInt L) H h
theorem Fly.mono{n n':Nat}{e:Addr}{C:Value}{d:Option Addr}{H:Hp}{h:Heap}(x:Fly n e C d H h)(hn:n'<=n):Fly n' e C d H h:=by
 obtain⟨a,b|⟨oe,vs,T,oT,ts,h1,h2,h3,h4,h5,h6,h7⟩⟩:=x
 ·exact⟨a,.inl b⟩
 ·exact⟨a,.inr ⟨oe,vs,T,oT,ts,h1,h2,h3,h4,h5,qAr hn h6,h7⟩⟩
structure Nt(n:Nat)(fs ch:List Addr)(e:Addr)(H:Hp)(h h':Heap):Prop where
 keep:∀b o,h.get? b=some o->b≠e->b∉fs->b∉ch->h'.get? b=some o
 slot:∀b o,h.get? b=some o->b≠e->b∉ch->∃sl,h'.get? b=some { o with slots:=sl }
 there:∀b o,h.get? b=some o->∃o',h'.get? b=some o'
 old:∀b∈ch,n<=b/\H b=none/\∃o vs,h.get? b=some o/\o.data=.fields vs
section
variable{M:Model}{A:Around}{E:Value->Shared->Prop}{s:Shared}{n:Nat}{e L:Addr}{C:Value}{d:Option Addr}{H:Hp}{base:Heap}{env:Env}{outer:List Env}
theorem zT1{oe:Obj}{vs:Array Value}{head:Value}{hadNext:Bool}{Q:Unit->Shared->Prop}
  (hfr:A.frames=some (env::outer)) (hl:s.heap.FunFrames base (env::outer)) (hf:env.frame=some L)
  (he:s.heap.get? e=some oe) (hc:oe.cls=C) (hdi:oe.dict=d) (hd:oe.data=.fields vs) (hsz:1<vs.size) (hn:n<=s.heap.objs.size) (hH:∀b,s.heap.objs.size<=b->H b=none)
  (h:∀h',(∀b o,s.heap.get? b=some o->b≠e->b∉frs (env::outer)->h'.get? b=some o)->(∀b o,s.heap.get? b=some o->b≠e->∃sl,h'.get? b=some { o with slots:=sl }) ->
   (∃o',h'.get? e=some o')->Fl n e C d (rawInt L) H h'->Q () { s with heap:=h' }) :
  wpAny M A (do let a <- frameOf env;let pl <- entryPlaceOf L hadNext;let b <- EntryCells.newEntry head a .none (rawInt L) .none pl;setField (.ref e) 1 b) Q E s:=by
 have hene:e∉(env::outer).filterMap (·.frame):=fun hm=>by
  obtain⟨_,o,ho,hnf⟩:=hl.mem hm;rw[he]at ho;injection ho with ho;subst ho;exact hnf vs hd
 refine wpAny_bind (wpAny_frameOf_fun hfr hl hf fun h₁ hs₁=>?_);refine wpAny_bind (wpAny_entryPlaceOf fun pl hpl=>?_);unfold EntryCells.newEntry newFields;refine wpAny_bind (wpAny_newObj_type ?_ (hpl.sizeOk5 _ _ _ _ _));have he₁:h₁.get? e=some oe:=(hs₁.2.1 e hene).trans he;have he₂:=Heap.get?_push_of_some (h:=h₁) { cls:=.type "traceback",dict:=none,data:=.fields ([head,.ref L,.none,rawInt L,.none]++(if pl.isEmpty then qAm 6 Value.none else pl)).toArray } he₁;have hTe:h₁.objs.size≠e:=qBm (Heap.lt_size he₁);have hd₃:=Obj.data_mapFields hd (·.setIfInBounds 1 (Value.ref h₁.objs.size));have he₃:=Heap.get?_update_self (Obj.mapFields (·.setIfInBounds 1 (Value.ref h₁.objs.size))) he₂ (Obj.isFreed_of_fields hd₃);have hT₃:=(Heap.get?_update_other (h₁.push { cls:=.type "traceback",dict:=none,data:=.fields ([head,.ref L,.none,rawInt L,.none]++(if pl.isEmpty then qAm 6 Value.none else pl)).toArray })
  (Obj.mapFields (·.setIfInBounds 1 (Value.ref h₁.objs.size))) (qC2 hTe)).trans (Heap.get?_push_size h₁ rfl)
 have keep:∀b o,b≠e->h₁.get? b=some o ->
   ((h₁.push { cls:=.type "traceback",dict:=none,data:=.fields ([head,.ref L,.none,rawInt L,.none]++(if pl.isEmpty then qAm 6 Value.none else pl)).toArray }).update e (Obj.mapFields (·.setIfInBounds 1 (Value.ref h₁.objs.size)))).get? b=some o:=
  fun b o hbe hb=>by
   rw[Heap.get?_update_other _ _ (qC2 hbe)];exact Heap.get?_push_of_some _ hb
 have hsz1:h₁.objs.size=s.heap.objs.size:=hs₁.1;refine wpAny_setField he₂ hd hsz (h _ (fun b o hb hbe hbf=>keep b o hbe ((hs₁.2.1 b hbf).trans hb)) (fun b o hb hbe=>?_) ⟨_,he₃⟩ ?_)
 ·obtain⟨sl,e1⟩:=hs₁.2.2 b o hb;exact⟨sl,keep b _ hbe e1⟩
 ·have hdo:∀(o:Obj) f,(Obj.mapFields f o).dict=o.dict:=fun o f=>by unfold Obj.mapFields;split<;>rfl
  exact⟨_,_,h₁.objs.size,_,_,he₃,(Obj.cls_mapFields _ _).trans hc,(hdo _ _).trans hdi,hd₃,by simp[hsz],by rw[hsz1];exact hn,hTe,hH _ (by rw[hsz1];exact qA4 _),hT₃,rfl,
   by first|(simp;done)|(rcases hpl with rfl|⟨_,_,_,_,_,_,_,rfl⟩<;>simp)⟩
theorem zUD{Q:Unit->Shared->Prop}(hfr:A.frames=some (env::outer))(hl:s.heap.FunFrames base (env::outer))(hf:env.frame=some L)(x:Fly n e C d H s.heap)(hn:n<=s.heap.objs.size)(hH:∀b,s.heap.objs.size<=b->H b=none)
  (h:∀h' ch,Nt n (frs (env::outer)) ch e H s.heap h'->Held n e C d L H h'->Q () { s with heap:=h' }):wpAny M A (noteFrame (.ref e) env) Q E s:=by
 obtain⟨hx,⟨oe,vs,he,hc,hdi,hd,h1⟩|⟨oe,vs,T,oT,ts,he,hc,hdi,hd,h1,hnT,hTe,hHT,hT,hdT,h3⟩⟩:=x
 ·unfold noteFrame;simp only[hf];refine wpAny_bind (wpAny_field he hd h1 ?_);rw[if_neg (by decide)];refine zT1 hfr hl hf he hc hdi hd (qBk.mp h1).1 hn hH fun h' k1 k2 k3 k4=>?_
  refine h h' [] ⟨fun b o hb hbe hbf _=>k1 b o hb hbe hbf,fun b o hb hbe _=>k2 b o hb hbe,fun b o hb=>?_,fun b hb=>nomatch hb⟩ ⟨hx,k4⟩
  by_cases z:b=e
  ·rw[z];exact k3
  ·obtain⟨sl,q⟩:=k2 b o hb z;exact⟨_,q⟩
 ·unfold noteFrame;simp only[hf];refine wpAny_bind (wpAny_field he hd h1 ?_);rw[if_pos (show(Value.ref T != Value.none)=true from by simp)];refine wpAny_bind (wpAny_field hT hdT h3 ?_);rw[if_neg (show ¬((Value.none==rawInt L)=true) from by simp[rawInt])];refine wpAny_bind (wpAny_setField hT hdT (qBk.mp h3).1 ?_);have other:∀b,b≠T->(s.heap.update T (Obj.mapFields (·.setIfInBounds 3 Value.none))).get? b=s.heap.get? b:=fun b hb=>Heap.get?_update_other _ _ (qC2 hb)
  have noRecord:∀b o,s.heap.get? b=some o->(∀vs,o.data≠.fields vs)->b≠T:=fun b o hb hnf q=>by
   rw[q,hT]at hb;injection hb with hb;subst hb;exact hnf ts hdT
  have hl1:=hl.of_keeps (h':=s.heap.update T (Obj.mapFields (·.setIfInBounds 3 Value.none))) fun b o hb hnf=>⟨o,(other b (noRecord b o hb hnf)).trans hb,rfl⟩
  have hself:=Heap.get?_update_self (Obj.mapFields (·.setIfInBounds 3 Value.none)) hT (Obj.isFreed_of_fields (Obj.data_mapFields hdT _));have hsz:(s.heap.update T (Obj.mapFields (·.setIfInBounds 3 Value.none))).objs.size=s.heap.objs.size:=by simp
  refine zT1 (s:={ s with heap:=s.heap.update T (Obj.mapFields (·.setIfInBounds 3 Value.none)) }) hfr hl1 hf ((other e (qC2 hTe)).trans he) hc hdi hd (qBk.mp h1).1 (by rw[hsz];exact hn) (by rw[hsz];exact hH) fun h' k1 k2 k3 k4=>?_
  have nT:∀b,b∉[T]->b≠T:=fun b hb z=>hb (by simp[z])
  refine h h' [T] ⟨fun b o hb hbe hbf hc=>k1 b o ((other b (nT b hc)).trans hb) hbe hbf,fun b o hb hbe hc=>k2 b o ((other b (nT b hc)).trans hb) hbe,fun b o hb=>?_,fun b hb=>?_⟩ ⟨hx,k4⟩
  ·by_cases z:b=e
   ·rw[z];exact k3
   ·by_cases z':b=T
    ·rw[z'];obtain⟨sl,q⟩:=k2 T _ hself hTe;exact⟨_,q⟩
    ·obtain⟨sl,q⟩:=k2 b o ((other b z').trans hb) z;exact⟨_,q⟩
  ·obtain rfl:b=T:=by simpa using hb
   exact⟨hnT,hHT,oT,ts,hT,hdT⟩
theorem zUF{Q:Unit->Shared->Prop}{fs:List Addr}{mk:Value}(x:Fl n e C d mk H s.heap)
  (h:∀h' ch,Nt n fs ch e H s.heap h'->Fl n e C d .none H h'->Q () { s with heap:=h' }):wpAny M A (setFlight (.ref e) none) Q E s:=by
 obtain⟨oe,vs,T,oT,ts,he,hc,hdi,hd,h1,hnT,hTe,hHT,hT,hdT,h3⟩:=x;have hsz3:3<ts.size:=(qBk.mp h3).1;have other:∀b,b≠T->(s.heap.update T (Obj.mapFields (·.setIfInBounds 3 ((none:Option Addr).elim Value.none fun f=>rawInt f)))).get? b=s.heap.get? b:=
  fun b hb=>Heap.get?_update_other _ _ (qC2 hb)
 have hself:=Heap.get?_update_self (Obj.mapFields (·.setIfInBounds 3 ((none:Option Addr).elim Value.none fun f=>rawInt f))) hT (Obj.isFreed_of_fields (Obj.data_mapFields hdT _));have nT:∀b,b∉[T]->b≠T:=fun b hb z=>hb (by simp[z])
 unfold setFlight;refine wpAny_bind (wpAny_field he hd h1 ?_);rw[if_pos (show(Value.ref T != Value.none)=true from by simp)];refine wpAny_setField hT hdT hsz3 (h _ [T] ⟨fun b o hb _ _ hc=>(other b (nT b hc)).trans hb,fun b o hb _ hc=>⟨o.slots,(other b (nT b hc)).trans hb⟩,fun b o hb=>?_,fun b hb=>?_⟩ ?_)
 ·by_cases z:b=T
  ·rw[z];exact⟨_,hself⟩
  ·exact⟨o,(other b z).trans hb⟩
 ·obtain rfl:b=T:=by simpa using hb
  exact⟨hnT,hHT,oT,ts,hT,hdT⟩
 ·exact⟨oe,vs,T,_,_,(other e (qC2 hTe)).trans he,hc,hdi,hd,h1,hnT,hTe,hHT,hself,Obj.data_mapFields hdT _,by simp[hsz3]⟩
end
section
variable{X:Cx}{pins:List (Addr×Obj)}{σ:St}{H:Hp}{s:Shared}{n:Nat}{e:Addr}{C:Value}{d:Option Addr}{A:Around}{E:Value->Shared->Prop}{fs ch:List Addr}{h h':Heap}
theorem Nt.hok{P:Program}{w:World}(t:Nt n fs ch e H h h')(k:HOk P w H h)(he:H e=some (xo e C d))(hfs:∀b∈fs,H b=none)(f:XO e C d h'):HOk P w H h':=fun a o ha=>by
 by_cases z:a=e
 ·subst z;rw[he]at ha;cases ha;obtain⟨oe,vs,h1,r⟩:=id f;exact⟨f,⟨oe,h1⟩,(k a _ he).2.2⟩
 ·refine(k a o ha).stay (fun b u hb q=>?_) (fun _ q=>q) (fun _ _ q=>q) fun _ _ _ q _=>q
  have hb':H b≠none:=by
   rcases hb with rfl|hb
   ·rw[ha];exact fun z=>by cases z
   ·rw[hb];exact fun z=>by cases z
  have hbe:b≠e:=by
   rcases hb with rfl|hb
   ·exact z
   ·intro y;rw[y,he]at hb;cases hb
  exact t.keep b u q hbe (fun y=>hb' (hfs b y)) fun y=>hb' (t.old b y).2.1
theorem Fl.xo{mk:Value}(f:Fl n e C d mk H h):XO e C d h:=by
 obtain⟨oe,vs,T,oT,ts,h1,h2,h3,h4,h5,_⟩:=f;exact⟨oe,vs,h1,h2,h3,h4,(qBk.mp h5).1⟩
theorem Nt.un(t:Nt n fs ch e H h h')(he:H e=some (xo e C d)):Un fs ch H H h h':=
 ⟨fun b o q hn hf hc=>t.keep b o q (fun z=>by rw[z,he]at hn;cases hn) hf hc,fun b o q hn _ hc=>t.slot b o q (fun z=>by rw[z,he]at hn;cases hn) hc,fun _ _ _ hn _=>hn,fun b o q _=>t.there b o q,fun _ _ q=>q,fun _ _ _ q=>q,fun b ps q=>⟨#[],by simpa using q⟩⟩
theorem Inv.noted(I:Inv X pins σ H s)(t:Nt n (frs X.stack) ch e H s.heap h')(he:H e=some (xo e C d))(f:XO e C d h')(hn:X.s₀.heap.objs.size<=n)(hp:∀p∈X.pn++pins,p.1<n):Inv X pins σ H { s with heap:=h' }:=by
 refine I.call' rfl (t.un he) (t.hok I.hok he I.stkFree f) I.bare fun b hb=>?_
 obtain⟨h1,h2,o,vs,h3,h4⟩:=t.old b hb;refine⟨.inr (qAr hn h1),?_,?_,fun p hp' z=>?_⟩
 ·intro z;obtain⟨m,⟨o',es,ep,ho',hd',_⟩,_⟩:=I.loc;rw[z,ho']at h3;cases h3;rw[hd']at h4;cases h4
 ·intro x c hx z;obtain⟨v,o',ho',hd'⟩:=I.cell x c hx;rw[<- z,ho']at h3;cases h3;rw[hd']at h4;cases h4
 ·have:=hp p hp'
  rw[z]at this;exact absurd h1 (Nat.not_le_of_lt this)
theorem zRB{Q:Unit->Shared->Prop}{M:Model}(I:Inv X pins σ H s)(hA:A.frames=some X.stack)(hs:X.stack=X.env::X.outer/\X.env.frame=some X.env.locals)(x:Fly n e C d H s.heap)(hn:X.s₀.heap.objs.size<=n)(hn':n<=s.heap.objs.size)
  (hp:∀p∈X.pn++pins,p.1<n) (h:∀s',Inv X pins σ H s'->Held n e C d X.env.locals H s'.heap->Q () s'):wpAny M A (noteFrame (.ref e) X.env) Q E s:=by
 have hst:=I.stack;rw[hs.1]at hA hst;refine zUD hA hst hs.2 x hn' (fun b hb=>I.hok.fresh hb) fun h' ch t y=>h _ (I.noted (ch:=ch) (by rw[hs.1];exact t) x.1 y.2.xo hn hp) y
theorem zRF{Q:Unit->Shared->Prop}{M:Model}{mk:Value}(I:Inv X pins σ H s)(hx:H e=some (xo e C d))(x:Fl n e C d mk H s.heap)(hn:X.s₀.heap.objs.size<=n)
  (hp:∀p∈X.pn++pins,p.1<n) (h:∀s',Inv X pins σ H s'->Fl n e C d .none H s'.heap->Q () s'):wpAny M A (setFlight (.ref e) none) Q E s:=
 zUF (fs:=frs X.stack) x fun h' ch t y=>h _ (I.noted t hx y.xo hn hp) y
theorem zPG{Q:Unit->Shared->Prop}{M:Model}(I:Inv X pins σ H s)(hA:A.frames=some X.stack)(hs:X.stack=X.env::X.outer/\X.env.frame=some X.env.locals)(x:Fly n e C d H s.heap)(hn:X.s₀.heap.objs.size<=n)(hn':n<=s.heap.objs.size)
  (hp:∀p∈X.pn++pins,p.1<n) (h:∀s',Inv X pins σ H s'->Fly n e C d H s'.heap->Q () s'):wpAny M A (leaving X.env (.ref e)) Q E s:=by
 unfold leaving;exact wpAny_bind (zRB I hA hs x hn hn' hp fun s1 I1 y=>zRF I1 y.1 y.2 hn hp fun s2 I2 z=>h s2 I2 ⟨y.1,.inr z⟩)
end
def CXe(P:Program)(w:World):CXT:=fun outer H s E x s'=>∃e C d H',x=.ref e/\s'.os=s.os/\AllBare s'.gens/\Un (frs outer) [] H H' s.heap s'.heap/\HOk P w H' s'.heap/\Fly s.heap.objs.size e C d H' s'.heap/\s.heap.objs.size<=s'.heap.objs.size/\E x d H'
section
variable{X:Cx}{pins:List (Addr×Obj)}{σ:St}{H:Hp}{s s':Shared}{E E':XK}
theorem Inv.pinlt(I:Inv X pins σ H s):∀p∈X.pn++pins,p.1<s.heap.objs.size:=fun p hp=>Heap.lt_size (I.pin p hp).1
def XP(X:Cx)(pins:List (Addr×Obj))(σ:St)(E:XK)(x:Value)(s':Shared):Prop:=∃n e C d H',x=.ref e/\Inv X pins σ H' s'/\Fly n e C d H' s'.heap/\X.s₀.heap.objs.size<=n/\n<=s'.heap.objs.size/\(∀p∈X.pn++pins,p.1<n)/\E x d H'
theorem Inv.flown{x:Value}(I:Inv X pins σ H s)(h:CXe X.prog X.w X.stack H s E x s'):XP X pins σ E x s':=by
 obtain⟨e,C,d,H',rfl,ho,hb,u,hk,f,hz,q⟩:=h;exact⟨_,e,C,d,H',rfl,I.call' ho u hk hb (fun b z=>absurd z (by simp)),f,I.sz,hz,I.pinlt,q⟩
end
section
variable{P:Program}{w:World}{K:qA0}{mg:Str->Option Value}{base:Heap}{N:List Str}{qual:Str}{scope:Scope}{f:Addr}{cd:Value}{A:Around}{outer:List Env}{s:Shared}{H:Hp}{E E':XK}
theorem zV9{pins:List (Addr×Obj)}{σ:St}{x:Value}{s':Shared}(hE:∀C d H',E' C d H'->E C d H')
  (h:XP (cxOf (CXe P w) P w K mg base N qual scope f cd A outer s H E) pins σ E' x s'):(cxOf (CXe P w) P w K mg base N qual scope f cd A outer s H E).xe x s':=by
 obtain⟨n,e,C,d,H',rfl,I,fl,hn,hz,hp,q⟩:=h;refine zPG I I.ok.frames ⟨rfl,rfl⟩ fl hn hz hp fun s2 I2 f2=>?_
 exact⟨e,C,d,H',rfl,I2.os,I2.bare,I2.base,I2.hok,f2.mono hn,I2.sz,hE _ _ _ q⟩
end
end L2
namespace L2
open PySem PySem.Spec PyProof.Rows
abbrev TEX:=St->Hp->VK->XK->Prop
abbrev TSX:=Ends->(St->XK)->St->Hp->Prop
section
variable{X:Cx}{k:Nat}{f:Addr}{fd:FuncData}{ps:List Str}{sp:Sp}{dvs:List V}{ds:List Value}{x:Str}{p pos:Pos}{e:Expr}{es:List Expr}{t:TA}{te:TE}{tx:TEX}{st:Stmt}{rest:List Stmt}{u u':TSX}
variable{pins:List (Addr×Obj)}{σ:St}{H:Hp}{s:Shared}{a:Addr}
end
end L2
namespace PySem.W
open PySem PySem.Calls PyProof.Rows Builtin Builtin.ObjectAttr
noncomputable def excTail:List Value->Bool
 |.ref _::r=>excTail r
 |[.type a,.type b,.type c,.type d]=>a == "ValueError" && b == "Exception" && c == "BaseException" && d == "object"
 |_=>false
theorem zLH{a b c d:String}(e:excTail [.type a,.type b,.type c,.type d]=true):a = "ValueError"/\b = "Exception"/\c = "BaseException"/\d = "object":=by
 simp only[excTail,qB9,beq_iff_eq]at e;exact⟨e.1.1.1,e.1.1.2,e.1.2,e.2⟩
theorem zCM:∀{l:List Value},excTail l=true->∃as:List Addr,l=as.map Value.ref++[.type "ValueError",.type "Exception",.type "BaseException",.type "object"]
 |.ref a::r,e=>by
  obtain⟨as,rfl⟩:=zCM (l:=r) e;exact⟨a::as,rfl⟩
 |[.type a,.type b,.type c,.type d],e=>by
  obtain⟨rfl,rfl,rfl,rfl⟩:=zLH e;exact⟨[],rfl⟩
theorem zND(self:Value){l:List Value}(e:excTail l=true):refuseLoop self "__setattr__" l=pure ():=by
 obtain⟨as,rfl⟩:=zCM e
 induction as with
 |nil=>exact PySem.F.store_ValueError.passes self
 |cons a r ih=>
  rw[qAu,qBa,refuseLoop_ref];exact ih (by simpa[excTail]using e)
theorem zUV{l:List Value}(e:excTail l=true):l.contains (.type "object")=true:=by
 obtain⟨as,rfl⟩:=zCM e;rw[List.contains_iff_exists_mem_beq];exact⟨.type "object",by simp,by simp⟩
def excOver(K:Frag)(C:Addr):Bool:=(clsIn K C).any fun cd=>excTail cd.mro
section
variable{prog:Program}{w:World}{A:Around}{s:Shared}{K:Frag}{x C:Addr}{R:Result->Shared->Prop}
theorem zP1{ox:Obj}{od:Option Obj}{name:Str}{tk:Tok}{v:Value}{r:Option Value}(X:K.In s.heap)(I:InstAt s.heap x ox C od)(hp:excOver K C=true)(ht:takerIn K C name=some r)
  (h:∀b,wpAny (model prog w) A.in1 (match r with|some a=>setByDescriptor a (.ref x) v|none=>storeInOwnDict (.ref x) (.ref C) (.str name tk) name v b)
   (fun fin s'=>match fin with | .done f=>R (.ok f) s' | .again c'=>c'.quiet=true/\codeAny (model prog w) A c' R s') (fun e s'=>R (.error e) s') s) :
  codeAny (model prog w) A (.call (.builtin "object.__setattr__") ⟨[.ref x,.str name tk,v],[]⟩) R s:=by
 have SF:=PySem.F.store_object;obtain⟨cd,hc,ho⟩:=any_some hp;have ne:cd.mro.isEmpty=false:=by cases q:cd.mro with|nil=>rw[q]at ho;cases ho|cons _ _=>rfl
 have sub:Looks (model prog w) s.heap (isInstance (.ref x) (.type "object")) true:=I.type.andThen (looks_mroIn X (by unfold mroIn;rw[hc,Option.bind_some,if_neg (by rw[ne];decide),zUV ho]));refine codeAny_call_builtin SF.slot.plain SF.entry (@check_slot (model prog w) _ _ s "object.__setattr__" "object" "__setattr__" (.ref x) [.str name tk,v] [] _ SF.kind SF.split sub (SF.args (.ref x) (.str name tk) v) ?_);obtain⟨attr,ha,hr⟩:=Option.bind_eq_some_iff.mp ht;have hm:Looks (model prog w) s.heap (mroOf (.ref C)) cd.mro:=(looks_clsIn X hc).andThen .now;have L3:Looks (model prog w) s.heap (storeTaker? attr) r:=by
  cases attr with
  |none=>cases hr;exact .now
  |some a=>
   obtain⟨b,hb,rfl⟩:=qEw.mp hr;refine(looks_takesIn X hb).andThen ?_;cases b<;>exact .now
 rw[osa_eq,refuse_eq];refine wpAny_bind (wpAny_bind (I.type.here (wpAny_bind (hm.here ?_))));rw[zND _ ho];refine wpAny_pure (wpAny_bind (I.type.here (wpAny_bind ((looks_findIn X ha).here (wpAny_bind (L3.here ?_))))));exact h _
theorem set_exc{E:Value->Shared->Prop}{name:Str}{v:Value}{Q:Unit->Shared->Prop}{vs:Array Value}{sl:Array (Option Value)}(X:K.In s.heap)(hx:s.heap.get? x=some ⟨.ref C,none,.fields vs,sl⟩)
  (hs:findIn K (.ref C) "__setattr__" = some (some (.builtin "object.__setattr__"))) (hp:excOver K C=true) (ht:takerIn K C name=some none) (hh:(clsIn K C).any (·.hasDict)=true)
  (h:∀h' tk',h'.Ns1 s.heap.objs.size (fun y=>if y=name then some v else none)->h'.get? x=some ⟨.ref C,some s.heap.objs.size,.fields vs,sl⟩->(∀b o,b≠x->s.heap.get? b=some o->h'.get? b=some o)->Q () { s with heap:=h',toks:=tk' }) :
  wpAny (model prog w) A (setAttr (.ref x) name v) Q E s:=by
 have I:InstAt s.heap x ⟨.ref C,none,.fields vs,sl⟩ C none:=⟨hx,rfl,rfl,trivial⟩
 refine set_plain X I hs (zP1 (s:={ s with toks:=s.toks+1 }) (r:=none) X I hp ht fun b=>?_);obtain⟨cd,hc,hd'⟩:=any_some hh;obtain⟨h0,g,d,t,os⟩:=s;dsimp only at hx X I h ⊢;refine wpAny_bind (wpAny_pure (wpAny_bind (wpAny_bind (wpAny_loadPart hx (wpAny_bind (Looks.here (s:=⟨h0,g,d,t+1,os⟩) (looks_clsIn X hc) ?_))))));rw[hd'];have hx₁:(h0.push { cls:=.type "dict",data:=.dict #[] }).get? x=some ⟨.ref C,none,.fields vs,sl⟩:=Heap.get?_push_of_some _ hx;have hxs:x≠h0.objs.size:=qAf (Heap.lt_size hx);refine wpAny_bind (wpAny_alloc' ?_);refine wpAny_bind (wpAny_update' hx₁ ?_);refine wpAny_pure ?_;have hx₂:((h0.push { cls:=.type "dict",data:=.dict #[] }).update x fun o=>{ cls:=o.cls,dict:=some h0.objs.size,data:=o.data,slots:=o.slots }).get? x=some ⟨.ref C,some h0.objs.size,.fields vs,sl⟩:=Heap.get?_update_self _ hx₁ rfl;have hgd:((h0.push { cls:=.type "dict",data:=.dict #[] }).update x fun o=>{ cls:=o.cls,dict:=some h0.objs.size,data:=o.data,slots:=o.slots }).get? h0.objs.size
   = some { cls:=.type "dict",data:=.dict #[] }:=(Heap.get?_update_ne _ _ _ _ hxs.symm).trans (Heap.get?_push_at rfl rfl)
 have hnd:((h0.push { cls:=.type "dict",data:=.dict #[] }).update x fun o=>{ cls:=o.cls,dict:=some h0.objs.size,data:=o.data,slots:=o.slots }).Ns h0.objs.size (fun _=>none):=
  ⟨_,#[],_,hgd,rfl,fun e he=>absurd he (by simp),fun _=>rfl⟩
 show wpAny _ _ (storeInDict h0.objs.size (.str name t) name v) _ _ _;unfold storeInDict newKeyGuard;refine wpAny_bind (wpAny_pure (wpAny_bind (wpAny_nsSet1 (Heap.Ns1.of_empty hnd) fun h' hn' hs'=>?_)));obtain⟨oD,esD,epD,hoD,hdD,hcD⟩:=hn'.count (Within.cons name v Within.nil);refine wpAny_bind (wpAny_lookBehind hoD (by rw[hdD];exact pastItsLine_dict (qAr hcD (by rw[qAp,qDb,sizeLine_eq];lia))) ?_);exact wpAny_pure (h h' _ hn' ((hs'.2 x hxs).trans hx₂) fun b ob hbx hb=>(hs'.2 b (qAf (Heap.lt_size hb))).trans ((Heap.get?_update_ne _ _ _ _ hbx).trans (Heap.get?_push_of_some _ hb)))
end
end PySem.W
namespace PySem.Xc
open PySem
section
variable{M:Model}{prog:Program}{w:World}{A:Around}{E:Value->Shared->Prop}{h:Heap}{g:Array GenState}{d:Drawn}{t:Nat}{os:OsState}{R:Result->Shared->Prop}
variable{nm q:Str}{C N:Addr}{bs bm bmB:List Value}{hdct:Bool}{sn:List Str}{sub:List Value}{ab:Bool}{col:Option Bool}{dd:Option Addr}{k0 k1 k2 k3 k5:Option Value}{B newId initId:String}
theorem zI0(F:ExcBaseFacts B newId initId bmB)(hB:bm.contains (.type B)=true){rest:List Value}{Q:Unit->Shared->Prop}(hC:h.get? C=some (excClassObj nm q C N bs bm hdct sn sub ab col dd k0 k1 k2 k3 k5 newId))
  (hq:Q () ⟨h,g,d,t,os⟩):wpAny M A (checkBuiltinCall newId ⟨.ref C::rest,[]⟩) Q E ⟨h,g,d,t,os⟩:=by
 have hcont:(Value.ref C::bm).contains (.type B)=true:=by rw[qBz,hB,qF4]
 have hstar:=F.noStar;simp only[checkBuiltinCall,F.newKind,F.newSplit,F.newRow]
 repeat (first|refine wpAny_loadPart_at hC ?_|(refine wpAny_isSubtype_exc hC ?_;rw[hcont])|refine wpAny_staticBase_exc hC ?_|refine wpAny_madeBy_exc hC ?_|simp only[bne_self_eq_false,qCu,if_false]|wp_step)
 exact hq
theorem zKH(F:ExcBaseFacts B newId initId bmB)(hB:bm.contains (.type B)=true)(hA:bm.contains (.type "AttributeError")=false)(hN:bm.contains (.type "NameError")=false){rest:List Value}(hC:h.get? C=some (excClassObj nm q C N bs bm hdct sn sub ab col dd k0 k1 k2 k3 k5 newId))
  (hq:R (.ok (.ret (.ref (h.objs.size+1)))) ⟨(h.push { cls:=.type "tuple",data:=.seq rest.toArray }).push
   { cls:=.ref C,data:=.fields #[.ref h.objs.size,.none,.none,.none,.bool false,.none] },g,d,t,os⟩) (hrest:rest.length<=sizeLine) :
  codeAny (model prog w) A (.builtin newId ⟨.ref C::rest,[]⟩) R ⟨h,g,d,t,os⟩:=by
 have hends:=F.ends;have hcB:(Value.ref C::bm).contains (.type B)=true:=by rw[qBz,hB,qF4]
 have hcA:(Value.ref C::bm).contains (.type "AttributeError")=false:=by rw[qBz,hA];rfl
 have hcN:(Value.ref C::bm).contains (.type "NameError")=false:=by rw[qBz,hN];rfl
 refine codeAny_builtinAt F.entry ?_;unfold Builtin.«BaseException.__new__»;refine wpAt_bind ?_;show wpAt _ _ _ (stack >>= _) _ _ _;refine wpAt_bind (wpAt_stack fun p below=>wpAt_of_wpAny ?_)
 wp_walk
 refine wpAt_of_wpAny ?_;rw[F.owner]
 repeat (first|with_reducible refine wpAny_madeHere_exc F.canon hC ?_|with_reducible refine wpAny_loadPart_at hC ?_|(with_reducible refine wpAny_isSubtype_exc hC ?_;first|rw[hcB]|rw[hcA]|rw[hcN])|wp_step)
 show R _ _;rw[Heap.size_push];exact hq
theorem zGX(F:ExcBaseFacts B newId initId bmB)(hB:bm.contains (.type B)=true){e:Addr}{oe:Obj}{rest:List Value}{Q:Unit->Shared->Prop}{newId':String}
  (hC:h.get? C=some (excClassObj nm q C N bs bm hdct sn sub ab col dd k0 k1 k2 k3 k5 newId')) (he:h.get? e=some oe) (hcls:oe.cls=.ref C) (hq:Q () ⟨h,g,d,t,os⟩) :
  wpAny M A (checkBuiltinCall initId ⟨.ref e::rest,[]⟩) Q E ⟨h,g,d,t,os⟩:=by
 have hcB:(Value.ref C::bm).contains (.type B)=true:=by rw[qBz,hB,qF4]
 have hshort:=F.noStar;simp only[checkBuiltinCall,F.initKind,F.initSplit,F.initRow]
 repeat (first|(with_reducible refine wpAny_loadPart_at he ?_;rw[hcls])|with_reducible refine wpAny_loadPart_at hC ?_|(with_reducible refine wpAny_isSubtype_exc hC ?_;rw[hcB])|wp_step)
 refine wpAny_onRaise ?_;rw[show ∀(a b:String)(n:Nat),Bind.check ⟨.positional,"*",B,.self,[⟨"args",.varPos,false⟩]⟩ a b n (List.map (fun x=>x.fst) ({ pos:=Value.ref e::rest }:Args).kw)=pure () from
  fun a b n=>check_star_args _ _ _ _ _ _]
 exact wpAny_pure hq
theorem zG4(F:ExcBaseFacts B newId initId bmB)(hB:bm.contains (.type B)=true)(hA:bm.contains (.type "AttributeError")=false)(hN:bm.contains (.type "NameError")=false){rest:List Value}{fI:Addr}{oI:Obj}{Q:Fin->Shared->Prop}
  (hC:h.get? C=some (excClassObj nm q C N bs bm hdct sn sub ab col dd k0 k1 k2 k3 k5 newId)) (hi:qD1 (model prog w) h (typeLookup (.ref C) "__init__") (some (.ref fI)))
  (hfI:h.get? fI=some oI) (hfc:oI.cls=.type "function")
  (hq:∀h' e,Heap.MadeExcOf h h' e (.ref C) rest->h.objs.size<=e ->
   wpAny (model prog w) A (call (.ref fI) (.ref e::rest)) (fun r s'=>r=.none/\Q (.done (.ret (.ref e))) s') E ⟨h',g,d,t,os⟩) (hrest:rest.length<=sizeLine) :
  wpAny (model prog w) A (Builtin.«type.__call__» ⟨.ref C::rest,[]⟩) Q E ⟨h,g,d,t,os⟩:=by
 repeat (first|with_reducible refine wpAny_loadPart_at hC ?_|with_reducible refine wpAny_madeBy_exc hC ?_|wp_step)
 refine codeAny_call_builtin_code (Code.quiet_builtin _ F.quiet) (zI0 F hB hC ?_);refine zKH F hB hA hN hC ?_ hrest;show wpAny _ _ _ _ _ _;have hC₁:=Heap.get?_push_of_some { cls:=.ref C,data:=.fields #[.ref h.objs.size,.none,.none,.none,.bool false,.none] }
  (Heap.get?_push_of_some { cls:=.type "tuple",data:=.seq rest.toArray } hC)
 have hfI₁:=Heap.get?_push_of_some { cls:=.ref C,data:=.fields #[.ref h.objs.size,.none,.none,.none,.bool false,.none] }
  (Heap.get?_push_of_some { cls:=.type "tuple",data:=.seq rest.toArray } hfI)
 have hi₁:=hi.keeps (h':=(h.push { cls:=.type "tuple",data:=.seq rest.toArray }).push { cls:=.ref C,data:=.fields #[.ref h.objs.size,.none,.none,.none,.bool false,.none] }) fun b o e=>Heap.get?_push_of_some _ (Heap.get?_push_of_some _ e)
 have hget:((h.push { cls:=.type "tuple",data:=.seq rest.toArray }).push
   { cls:=.ref C,data:=.fields #[.ref h.objs.size,.none,.none,.none,.bool false,.none] }).get? (h.objs.size+1)=some
   { cls:=.ref C,data:=.fields #[.ref h.objs.size,.none,.none,.none,.bool false,.none] }:=by heap_get
 have hcC:(Value.ref C::bm).contains (.ref C)=true:=by simp
 unfold isInstance
 repeat (first|with_reducible refine wpAny_loadPart_at hget ?_|(with_reducible refine wpAny_isSubtype_exc hC₁ ?_;rw[hcC])|wp_step)
 show wpAny _ _ (typeLookup (.ref C) _) _ _ _;refine hi₁.here ?_;refine wpAny_holding (wpAny_bind ?_);unfold bindSpecial;refine wpAny_bind (wpAny_typeOf (T:="function") ⟨_,hfI₁,hfc⟩ ?_);rw[if_pos (by decide)];refine wpAny_pure (wpAny_bind (wpAny_mono (hq _ (h.objs.size+1) ⟨fun b o hb=>Heap.get?_push_of_some _ (Heap.get?_push_of_some _ hb),Heap.get?_none_of_le (qBr _),h.objs.size,hget,Heap.get?_none_of_le (qA4 _),?_⟩ (qBr _)) (fun r s' hr=>?_) fun _ _ x=>x))
 ·exact Heap.get?_push_of_some _ (Heap.get?_push_at rfl rfl)
 ·obtain⟨rfl,hQ⟩:=hr
  wp_walk
  exact hQ
theorem call_initX(F:ExcBaseFacts B newId initId bmB)(hB:bm.contains (.type B)=true)(hA:bm.contains (.type "AttributeError")=false)(hN:bm.contains (.type "NameError")=false){rest:List Value}{fI:Addr}{oI:Obj}{Q:Value->Shared->Prop}
  (hC:h.get? C=some (excClassObj nm q C N bs bm hdct sn sub ab col dd k0 k1 k2 k3 k5 newId)) (hi:qD1 (model prog w) h (typeLookup (.ref C) "__init__") (some (.ref fI)))
  (hfI:h.get? fI=some oI) (hfc:oI.cls=.type "function")
  (hq:∀h' e,Heap.MadeExcOf h h' e (.ref C) rest->h.objs.size<=e ->
   wpAny (model prog w) (A.under (.builtin "type.__call__" ⟨.ref C::rest,[]⟩)) (call (.ref fI) (.ref e::rest)) (fun r s'=>r=.none/\Q (.ref e) s') E ⟨h',g,d,t,os⟩) (hrest:rest.length<=sizeLine) :
  wpAny (model prog w) A (call (.ref C) rest) Q E ⟨h,g,d,t,os⟩:=by
 have f1:=tc_lookup;have f2:=tc_bind (.ref C);have hT:(⟨h,g,d,t,os⟩:Shared).TypeIs (.ref C) "type":=⟨_,hC,rfl⟩
 refine wpAny_call (codeAny_of_tree ?_);show wpAny _ _ (callAny (.ref C) _) _ _ _
 repeat (any_goals (first|assumption|with_reducible refine wpAny_loadPart_at hC ?_|wp_step))
 refine⟨rfl,?_⟩;refine codeAny_call_builtin_at (Code.quiet_builtin _ (by decide +kernel)) entry_typeCall (wpAny_check_type_call_sub hC (zG4 (hrest:=hrest) F hB hA hN hC hi hfI hfc fun h' e hm hz=>?_));exact hq h' e hm hz
theorem zMZ(F:ExcBaseFacts B newId initId bmB)(hB:bm.contains (.type B)=true)(hA:bm.contains (.type "AttributeError")=false)(hN:bm.contains (.type "NameError")=false){rest:List Value}{Q:Fin->Shared->Prop}
  (hC:h.get? C=some (excClassObj nm q C N bs bm hdct sn sub ab col dd k0 k1 k2 k3 k5 newId)) (hi:qD1 (model prog w) h (typeLookup (.ref C) "__init__") (some (.builtin initId)))
  (hq:∀h' e,Heap.MadeExcOf h h' e (.ref C) rest->h.objs.size<=e->Q (.done (.ret (.ref e))) ⟨h',g,d,t,os⟩) (hrest:rest.length<=sizeLine) :
  wpAny (model prog w) A (Builtin.«type.__call__» ⟨.ref C::rest,[]⟩) Q E ⟨h,g,d,t,os⟩:=by
 repeat (first|with_reducible refine wpAny_loadPart_at hC ?_|with_reducible refine wpAny_madeBy_exc hC ?_|wp_step)
 refine codeAny_call_builtin_code (Code.quiet_builtin _ F.quiet) (zI0 F hB hC ?_);refine zKH F hB hA hN hC ?_ hrest;show wpAny _ _ _ _ _ _;have hC₁:=Heap.get?_push_of_some { cls:=.ref C,data:=.fields #[.ref h.objs.size,.none,.none,.none,.bool false,.none] }
  (Heap.get?_push_of_some { cls:=.type "tuple",data:=.seq rest.toArray } hC)
 have hi₁:=hi.keeps (h':=(h.push { cls:=.type "tuple",data:=.seq rest.toArray }).push { cls:=.ref C,data:=.fields #[.ref h.objs.size,.none,.none,.none,.bool false,.none] }) fun b o e=>Heap.get?_push_of_some _ (Heap.get?_push_of_some _ e)
 have hget:((h.push { cls:=.type "tuple",data:=.seq rest.toArray }).push
   { cls:=.ref C,data:=.fields #[.ref h.objs.size,.none,.none,.none,.bool false,.none] }).get? (h.objs.size+1)=some
   { cls:=.ref C,data:=.fields #[.ref h.objs.size,.none,.none,.none,.bool false,.none] }:=by heap_get
 have hcC:(Value.ref C::bm).contains (.ref C)=true:=by simp
 unfold isInstance
 repeat (first|with_reducible refine wpAny_loadPart_at hget ?_|(with_reducible refine wpAny_isSubtype_exc hC₁ ?_;rw[hcC])|wp_step)
 show wpAny _ _ (typeLookup (.ref C) _) _ _ _;refine hi₁.here ?_;refine wpAny_holding (wpAny_bind (wpAny_of_eq (F.init.bind _) ?_));refine wpAny_bind (wpAny_call (codeAny_call_builtin F.init.plain F.initEntry (zGX F hB hC₁ hget rfl ?_)))
 wp_walk
 refine hq _ _ ⟨fun b o hb=>?_,Heap.get?_none_of_le (qBr _),h.objs.size+2,?_,Heap.get?_none_of_le (by lia),?_⟩ (qBr _)
 ·rw[Heap.get?_update_other _ _ (qBm (qBh (Heap.lt_size hb)))];exact Heap.get?_push_of_some _ (Heap.get?_push_of_some _ (Heap.get?_push_of_some _ hb))
 ·rw[Heap.get?_update_self _ (Heap.get?_push_of_some _ hget) rfl];simp only[Heap.size_push];rfl
 ·rw[Heap.get?_update_other _ _ (show h.objs.size+1≠h.objs.size+2 by lia)];exact Heap.get?_push_at (by simp only[Heap.size_push]) rfl
theorem callX(F:ExcBaseFacts B newId initId bmB)(hB:bm.contains (.type B)=true)(hA:bm.contains (.type "AttributeError")=false)(hN:bm.contains (.type "NameError")=false){rest:List Value}{Q:Value->Shared->Prop}
  (hC:h.get? C=some (excClassObj nm q C N bs bm hdct sn sub ab col dd k0 k1 k2 k3 k5 newId)) (hi:qD1 (model prog w) h (typeLookup (.ref C) "__init__") (some (.builtin initId)))
  (hq:∀h' e,Heap.MadeExcOf h h' e (.ref C) rest->h.objs.size<=e->Q (.ref e) ⟨h',g,d,t,os⟩) (hrest:rest.length<=sizeLine) :
  wpAny (model prog w) A (call (.ref C) rest) Q E ⟨h,g,d,t,os⟩:=by
 have f1:=tc_lookup;have f2:=tc_bind (.ref C);have hT:(⟨h,g,d,t,os⟩:Shared).TypeIs (.ref C) "type":=⟨_,hC,rfl⟩
 refine wpAny_call (codeAny_of_tree ?_);show wpAny _ _ (callAny (.ref C) _) _ _ _
 repeat (any_goals (first|assumption|with_reducible refine wpAny_loadPart_at hC ?_|wp_step))
 refine⟨rfl,?_⟩;refine codeAny_call_builtin_at (Code.quiet_builtin _ (by decide +kernel)) entry_typeCall (wpAny_check_type_call_sub hC (zMZ (hrest:=hrest) F hB hA hN hC hi fun h' e hm hz=>?_));exact hq h' e hm hz
theorem call_baseX(F:ExcBaseFacts B newId initId bmB)(hB:bm.contains (.type B)=true){e t1:Addr}{di:Option Addr}{rest:List Value}{Q:Value->Shared->Prop}{newId':String}
  (hC:h.get? C=some (excClassObj nm q C N bs bm hdct sn sub ab col dd k0 k1 k2 k3 k5 newId')) (he:h.get? e=some { cls:=.ref C,dict:=di,data:=.fields #[.ref t1,.none,.none,.none,.bool false,.none] })
  (hq:∀h' t0,(∀b o,b≠e->h.get? b=some o->h'.get? b=some o)->h'.get? e=some { cls:=.ref C,dict:=di,data:=.fields #[.ref t0,.none,.none,.none,.bool false,.none] }->Q .none ⟨h',g,d,t,os⟩) (hrest:rest.length<=sizeLine) :
  wpAny (model prog w) A (call (.builtin initId) (.ref e::rest)) Q E ⟨h,g,d,t,os⟩:=by
 refine wpAny_call (codeAny_call_builtin F.init.plain F.initEntry (zGX F hB hC he rfl ?_))
 wp_walk
 refine hq _ h.objs.size (fun b o hbe hb=>?_) ?_
 ·rw[Heap.get?_update_other _ _ (qC2 hbe)];exact Heap.get?_push_of_some _ hb
 ·rw[Heap.get?_update_self _ (Heap.get?_push_of_some _ he) rfl];rfl
end
end PySem.Xc
namespace PySem.W
open PySem
def xcIn(K:Frag)(C:Addr):Bool:=match K.lookup C with
 |some ⟨.type "type",_,.cls cd,sl⟩=>(match cd.mro,sl.toList with
  |.ref C'::bm,[_,_,_,_,some (.builtin n),_]=>C'==C && !cd.hasDel&&excTail bm&&n == "ValueError.__new__" && cd.hasDict
  |_,_=>false)
 |_=>false
theorem xc_cls{K:Frag}{h:Heap}{C:Addr}(X:K.In h)(q:xcIn K C=true):∃nm qn N bs bm hdct sn sub ab col dd k0 k1 k2 k3 k5,
  h.get? C=some (excClassObj nm qn C N bs bm hdct sn sub ab col dd k0 k1 k2 k3 k5 "ValueError.__new__")/\excTail bm=true:=by
 unfold xcIn at q
 split at q
 ·rename_i dd cd sl ho
  split at q
  ·rename_i C' bm k0 k1 k2 k3 n k5 hm hs
   simp only[qB9,beq_iff_eq,Bool.not_eq_true']at q;obtain⟨⟨⟨⟨rfl,hdel⟩,hb⟩,hn⟩,hd⟩:=q;subst hn;obtain⟨nm,bs,mro,ns,qn,hd',sn,sub,ab,col,del⟩:=cd;dsimp only at hm hdel;subst hm hdel;have hsl:sl=#[k0,k1,k2,k3,some (.builtin "ValueError.__new__"),k5]:=by
    obtain⟨l⟩:=sl;simp only at hs;rw[hs]
   subst hsl;exact⟨nm,qn,ns,bs,bm,hd',sn,sub,ab,col,dd,k0,k1,k2,k3,k5,X _ _ ho,hb⟩
  ·cases q
 ·cases q
theorem exc_con{l:List Value}{T:String}{b:Bool}(e:excTail l=true)(hb:List.contains [Value.type "ValueError",.type "Exception",.type "BaseException",.type "object"] (.type T)=b):l.contains (.type T)=b:=by
 obtain⟨as,rfl⟩:=zCM e;clear e
 induction as with
 |nil=>exact hb
 |cons a r ih=>rw[qAu,qBa,qBz,ih];rfl
end PySem.W
namespace PySem.Xc
open PySem
section
variable{M:Model}{A:Around}{E:Value->Shared->Prop}{s:Shared}{env:Env}
variable{nm q:Str}{C N:Addr}{bs bm:List Value}{hdct:Bool}{sn:List Str}{sub:List Value}{ab:Bool}{col:Option Bool}{dd:Option Addr}{k0 k1 k2 k3 k5:Option Value}{newId:String}
theorem raiseX{x:Sem Value}{Q:Flow->Shared->Prop}(hh:A.handled=none)
  (h:wpAny M A x (fun v s₁=>∃e t di nm q C N bs bm hdct sn sub ab col dd k0 k1 k2 k3 k5 newId,v=.ref e/\s₁.heap.get? C=some (excClassObj nm q C N bs bm hdct sn sub ab col dd k0 k1 k2 k3 k5 newId)/\bm.contains (.type "BaseException")=true /\
   s₁.heap.get? e=some { cls:=.ref C,dict:=di,data:=.fields #[.ref t,.none,.none,.none,.bool false,.none] }/\E (.ref e) s₁) E s) :
  wpAny M A (raiseStmt env (some x) none) Q E s:=by
 unfold raiseStmt;refine wpAny_bind (wpAny_mono h (fun v s₁ h₁=>?_) fun _ _ x=>x);obtain⟨e,t,di,nm,q,C,N,bs,bm,hdct,sn,sub,ab,col,dd,k0,k1,k2,k3,k5,newId,rfl,hC,hbase,he,hE⟩:=h₁;have hcB:(Value.ref C::bm).contains (.type "BaseException")=true:=by rw[qBz,hbase,qF4]
 obtain⟨hp,g,d,tk,os⟩:=s₁
 repeat (first|with_reducible refine wpAny_loadPart_at he ?_|with_reducible refine wpAny_loadPart_at hC ?_|(with_reducible refine wpAny_isSubtype_exc hC ?_;rw[hcB])|wp_step)
 exact wpAny_raiseNew_none hh hE
theorem RaiseX{x:Expr}{pos:Pos}{Q:Flow->Shared->Prop}(hh:A.handled=none)
  (h:wpAny M A (eval x env) (fun v s₁=>∃e t di nm q C N bs bm hdct sn sub ab col dd k0 k1 k2 k3 k5 newId,v=.ref e/\s₁.heap.get? C=some (excClassObj nm q C N bs bm hdct sn sub ab col dd k0 k1 k2 k3 k5 newId)/\bm.contains (.type "BaseException")=true /\
   s₁.heap.get? e=some { cls:=.ref C,dict:=di,data:=.fields #[.ref t,.none,.none,.none,.bool false,.none] }/\E (.ref e) s₁) E s) :
  wpAny M A (exec (.Raise (some x) none pos) env) Q E s:=by
 rw[arm_exec_Raise]
 first
  |exact wpAny_bind (wpAny_standAt (raiseX hh (wpAny_bind (wpAny_mono h (fun v s₁ h₁=>wpAny_bind (wpAny_standAt (wpAny_pure h₁))) fun _ _ x=>x))))
  |(simp only[evalOpt,Option.map];exact wpAny_bind (wpAny_standAt (raiseX hh (wpAny_bind (wpAny_mono h (fun v s₁ h₁=>wpAny_bind (wpAny_standAt (wpAny_pure h₁))) fun _ _ x=>x)))))
  |(show wpAny M A (do standAt pos;raiseStmt env (some (do let v <- eval x env;standAt pos;pure v)) none) Q E s;exact wpAny_bind (wpAny_standAt (raiseX hh (wpAny_bind (wpAny_mono h (fun v s₁ h₁=>wpAny_bind (wpAny_standAt (wpAny_pure h₁))) fun _ _ x=>x)))))
end
section
open PySem.W
variable{prog:Program}{w:World}{A:Around}{E:Value->Shared->Prop}{K:Frag}{x C:Addr}{ox:Obj}{od:Option Obj}{name:Str}{expr fill:Bool}{h:Heap}{g:Array GenState}{d:Drawn}{t:Nat}{os:OsState}
end
end PySem.Xc
namespace L2
open PySem PySem.Spec PyProof.Rows
def XN(e:Addr)(C:Value)(d:Option Addr)(h:Heap):Prop:=∃t1,h.get? e=some { cls:=C,dict:=d,data:=.fields #[.ref t1,.none,.none,.none,.bool false,.none] }
abbrev xn(e:Addr)(C:Value)(d:Option Addr):HO:=.ext (XN e C d)
theorem zTD{e:Addr}{C:Value}{d:Option Addr}(h1 h2:Heap)(x:XN e C d h1)(k:∀o,h1.get? e=some o->h2.get? e=some o):XN e C d h2:=let⟨t1,a⟩:=x;⟨t1,k _ a⟩
theorem zTC{e:Addr}{C:Value}{d:Option Addr}(h1 h2:Heap)(x:XO e C d h1)(k:∀o,h1.get? e=some o->h2.get? e=some o):XO e C d h2:=let⟨oe,vs,a,r⟩:=x;⟨oe,vs,k _ a,r⟩
theorem zUA{P:Program}{w:World}{H:Hp}{h:Heap}{e:Addr}{C:Value}{d:Option Addr}(x:XN e C d h):ObjOk P w H h e (xn e C d):=⟨x,let⟨t1,a⟩:=x;⟨_,a⟩,zTD⟩
theorem zY0{P:Program}{w:World}{H:Hp}{h:Heap}{e:Addr}{C:Value}{d:Option Addr}(x:XO e C d h):ObjOk P w H h e (xo e C d):=⟨x,let⟨oe,vs,a,_⟩:=x;⟨_,a⟩,zTC⟩
section
variable{X:Cx}{pins:List (Addr×Obj)}{σ:St}{H:Hp}{s:Shared}{k:Nat}{f C:Addr}{fd:FuncData}{ps:List Str}{sp:Sp}{x:Str}{p pos:Pos}{e:Expr}{es:List Expr}{t:TA}{te:TE}
def zM0(C:Addr)(sp:Sp)(E:XK)(t:TA):TE:=fun σ H Q=>t σ H fun vs H1=>vs.length<=sizeLine/\∀e,H1 e=none->sp (.ref e::vs) (upd H1 e (xn e (.ref C) none)) (fun v H2=>v=.non/\Q (.ref e) H2) E
def zL1(C:Addr)(t:TA):TE:=fun σ H Q=>t σ H fun vs H1=>vs.length<=sizeLine/\∀e,H1 e=none->Q (.ref e) (upd H1 e (xn e (.ref C) none))
theorem Inv.madeX{h':Heap}{e:Addr}{us:List Value}(I:Inv X pins σ H s)(m:Heap.MadeExcOf s.heap h' e (.ref C) us)(hs:s.heap.objs.size<=e):H e=none/\Inv X pins σ (upd H e (xn e (.ref C) none)) { s with heap:=h' }:=by
 obtain⟨t1,h1,_⟩:=m.there;exact⟨I.hok.fresh hs,I.laid (t':=s.toks) m.keeps hs (zUA ⟨t1,h1⟩)⟩
theorem zOH{Q:VK}{E:XK}{us:List Value}{vs:List V}(hc:PySem.W.xcIn X.K C=true)(hi:qA5 X.K (.ref C) "__init__" = some (some (.ref f)))(hf:qB8 X.K (.ref f)=true)(F:FnOk X.prog X.w X.K X.mg X.base (CXe X.prog X.w) k f fd ps sp)
  (hr:Room (k+1) X.A) (hb:Binds X.K fd ps []) (hx:zFT (CXe X.prog X.w) X E) (I:Inv X pins σ H s) (r:Vals vs us) (hz:vs.length<=sizeLine)
  (h:∀e,H e=none->sp (.ref e::vs) (upd H e (xn e (.ref C) none)) (fun v H2=>v=.non/\Q (.ref e) H2) E) :
  wpAny (model X.prog X.w) X.A (call (.ref C) us) (EP X pins σ Q) X.xe s:=by
 obtain⟨nm,qn,N,bs,bm,hdct,sn,sub,ab,col,dd,k0,k1,k2,k3,k5,hC,ht⟩:=PySem.W.xc_cls I.kIn hc;obtain⟨oI,hfI,hfc⟩:∃oI,s.heap.get? f=some oI/\oI.cls=.type "function":=by
  have hf':=beq_iff_eq.mp hf;obtain⟨o,ho,h2⟩:=qEw.mp (show(X.K.lookup f).map (·.cls)=some (.type "function") from hf');exact⟨o,I.kIn _ _ ho,h2⟩
 have hC':s.heap.get? C=some (excClassObj nm qn C N bs bm hdct sn sub ab col dd k0 k1 k2 k3 k5 "ValueError.__new__"):=hC;have hus:us.length<=sizeLine:=by rw[<- r.length];exact hz
 have key:∀h' e,Heap.MadeExcOf s.heap h' e (.ref C) us->s.heap.objs.size<=e->wpAny (model X.prog X.w) (X.A.under (.builtin "type.__call__" ⟨.ref C::us,[]⟩)) (call (.ref f) (.ref e::us)) (fun r s'=>r=.none/\EP X pins σ Q (.ref e) s') X.xe { s with heap:=h' }:=by
  intro h' e m hs;obtain⟨he,I2⟩:=I.madeX m hs;have hq:=h e he;have r2:Vals (V.ref e::vs) (Value.ref e::us):=.cons rfl r;have hl:(Value.ref e::us++[]).length=ps.length:=by
   rw[qBw,<- r2.length];exact F.len _ _ _ _ hq
  have hbb:=hb _ (Value.ref e::us) I2.kIn hl;rw[qBw]at hbb;refine wpAny_call (codeAny_mono (F.run _ X.stack _ _ ⟨Value.ref e::us,[]⟩ (Value.ref e::us) _ _ E (hr.make C us []) (I2.env0.make C us []) hbb r2 hq) fun r s' hq'=>?_);cases r with
  |error x=>exact hx pins σ _ _ x s' I2 hq'
  |ok fl=>
   cases fl with
   |ret u=>
    obtain⟨v,H',I3,rv,ev,q3⟩:=I2.after hq';subst ev;exact⟨rv,⟨V.ref e,H',I3,rfl,q3⟩⟩
   |next=>exact qA6 hq'
   |brk=>exact qA6 hq'
   |cont=>exact qA6 hq'
 have hK:=qD7 (M:=model X.prog X.w) I.kIn hi;obtain⟨hh,g,d,tk,os⟩:=s;exact Xc.call_initX qD3 (PySem.W.exc_con ht (by decide)) (PySem.W.exc_con ht (by decide)) (PySem.W.exc_con ht (by decide)) hC' hK hfI hfc key hus
theorem zNB{Q:VK}{us:List Value}{vs:List V}(hc:PySem.W.xcIn X.K C=true)(hi:qA5 X.K (.ref C) "__init__" = some (some (.builtin "ValueError.__init__")))
  (I:Inv X pins σ H s) (r:Vals vs us) (hz:vs.length<=sizeLine) (h:∀e,H e=none->Q (.ref e) (upd H e (xn e (.ref C) none))):wpAny (model X.prog X.w) X.A (call (.ref C) us) (EP X pins σ Q) X.xe s:=by
 obtain⟨nm,qn,N,bs,bm,hdct,sn,sub,ab,col,dd,k0,k1,k2,k3,k5,hC,ht⟩:=PySem.W.xc_cls I.kIn hc;have hus:us.length<=sizeLine:=by rw[<- r.length];exact hz
 have key:∀h' e,Heap.MadeExcOf s.heap h' e (.ref C) us->s.heap.objs.size<=e->EP X pins σ Q (.ref e) { s with heap:=h' }:=by
  intro h' e m hs;obtain⟨he,I2⟩:=I.madeX m hs;exact⟨.ref e,_,I2,rfl,h e he⟩
 have hK:=qD7 (M:=model X.prog X.w) I.kIn hi;obtain⟨hh,g,d,tk,os⟩:=s;exact Xc.callX qD3 (PySem.W.exc_con ht (by decide)) (PySem.W.exc_con ht (by decide)) (PySem.W.exc_con ht (by decide)) hC hK key hus
theorem zR6{E:XK}(hc:PySem.W.xcIn X.K C=true)(hi:qA5 X.K (.ref C) "__init__" = some (some (.ref f)))(hf:qB8 X.K (.ref f)=true)(F:FnOk X.prog X.w X.K X.mg X.base (CXe X.prog X.w) k f fd ps sp)
  (hr:Room (k+1) X.A) (hb:Binds X.K fd ps []) (hx:zFT (CXe X.prog X.w) X E) (hg:Gl X x) (hm:X.mg x=some (.ref C)) (hk:qAd X.K (.ref C)=true)
  (ha:PA X (e::es) t) (hdb:(x==("__debug__":Str))=false:=by decide) (he:starEach (e::es) X.env=(false,eval e X.env)::starEach es X.env:=by rfl) (hpl:(backTo pos (starEach es X.env)).any (·.1)=false:=by rfl) :
  PE X (.Call (.Name x p) (e::es) [] pos) (zM0 C sp E t):=by
 intro pins s σ H Q I h;refine wpAny_Call_Name_kw (zEO I hg hm ?_ hdb);refine qCt (h₀:=X.base) I.ok.mod.kin hk (thn (ha pos pins s σ H _ I h) fun us s1 ⟨vs,H1,I1,r,z,q⟩=>⟨I1.kIn,?_⟩) he hpl;exact zOH hc hi hf F hr hb hx I1 r z q
theorem zOV(hc:PySem.W.xcIn X.K C=true)(hi:qA5 X.K (.ref C) "__init__" = some (some (.builtin "ValueError.__init__")))(hg:Gl X x)(hm:X.mg x=some (.ref C))(hk:qAd X.K (.ref C)=true)
  (ha:PA X (e::es) t) (hdb:(x==("__debug__":Str))=false:=by decide) (he:starEach (e::es) X.env=(false,eval e X.env)::starEach es X.env:=by rfl) (hpl:(backTo pos (starEach es X.env)).any (·.1)=false:=by rfl) :
  PE X (.Call (.Name x p) (e::es) [] pos) (zL1 C t):=by
 intro pins s σ H Q I h;refine wpAny_Call_Name_kw (zEO I hg hm ?_ hdb);refine qCt (h₀:=X.base) I.ok.mod.kin hk (thn (ha pos pins s σ H _ I h) fun us s1 ⟨vs,H1,I1,r,z,q⟩=>⟨I1.kIn,?_⟩) he hpl;exact zNB hc hi I1 r z q
theorem zQL{e:Addr}{o:HO}(h:H e=some o):upd H e o=H:=by
 funext b
 unfold upd
 split
 ·rename_i z;rw[z];exact h.symm
 ·rfl
theorem Inv.xn{e:Addr}{d:Option Addr}{Cv:Value}(I:Inv X pins σ H s)(h:H e=some (xn e Cv d)):XN e Cv d s.heap:=(I.hok e _ h).1
theorem XN.xo{h:Heap}{e:Addr}{d:Option Addr}{Cv:Value}(x:XN e Cv d h):XO e Cv d h:=let⟨t1,a⟩:=x;⟨_,_,a,rfl,rfl,rfl,by simp⟩
theorem Inv.raised{e:Addr}{d:Option Addr}(I:Inv X pins σ H s)(h:H e=some (L2.xn e (.ref C) d))(E:XK)(q:E (.ref e) d (upd H e (xo e (.ref C) d))):XP X pins σ E (.ref e) s:=by
 have x:=I.xn h;obtain⟨t1,a⟩:=id x;have I':Inv X pins σ (upd H e (xo e (.ref C) d)) s:=I.write (t':=s.toks) (h':=s.heap) (e:=e) (by rw[h];trivial) (.inl rfl) (fun _ _ _ q=>q) ⟨_,a⟩ (zY0 x.xo);exact⟨s.heap.objs.size,e,.ref C,d,_,rfl,I',⟨zAD,.inl ⟨_,_,a,rfl,rfl,rfl,rfl⟩⟩,I.sz,qA4 _,I.pinlt,q⟩
def Flies(X:Cx)(E:XK):Prop:=∀(pins:List (Addr×Obj))(σ:St)(x:Value)(s':Shared),XP X pins σ E x s'->X.xe x s'
theorem Flies.passes{E:XK}(h:Flies X E):zFT (CXe X.prog X.w) X E:=fun pins σ H s x s' I q=>h pins σ x s' (I.flown q)
def zLZ(K:qA0)(E:XK)(te:TE):TS:=fun _ σ H=>te σ H fun v H1=>∃e C d,v=.ref e/\H1 e=some (L2.xn e (.ref C) d)/\PySem.W.xcIn K C=true/\E (.ref e) d (upd H1 e (xo e (.ref C) d))
theorem zMF{E:XK}(he:PE X e te)(hf:Flies X E)(hc:X.calm=true):PS X (.Raise (some e) none pos) (zLZ X.K E te):=by
 intro pins s σ H D I h;refine Xc.RaiseX (I.ok.hd hc) (thn (he pins s σ H _ I h) fun v s1 z0=>?_);obtain⟨y,H1,I1,ry,a,C,d,ey,ha,hx,q⟩:=z0;subst ey;cases ry;obtain⟨t1,hg⟩:=I1.xn ha;obtain⟨nm,qn,N,bs,bm,hdct,sn,sub,ab,col,dd,k0,k1,k2,k3,k5,hC,ht⟩:=PySem.W.xc_cls I1.kIn hx;exact⟨a,t1,d,nm,qn,C,N,bs,bm,hdct,sn,sub,ab,col,dd,k0,k1,k2,k3,k5,_,rfl,hC,PySem.W.exc_con ht (by decide),hg,hf pins σ _ _ (I1.raised ha E q)⟩
def zSD(K:qA0)(t:TA):TE:=fun σ H Q=>t σ H fun vs H1=>∃e C d rest,vs=.ref e::rest/\H1 e=some (L2.xn e (.ref C) d)/\PySem.W.xcIn K C=true/\rest.length<=sizeLine/\Q .non H1
structure XBase(K:qA0)(B:Addr):Prop where
 ga:qD2 K (.ref B) "__getattribute__" = some (some (.builtin "type.__getattribute__"))
 rd:qGg K B (.type "type")=true
 fd:qGh K (.ref B) (.type "type") "__init__" = some (.val (.builtin "ValueError.__init__"))
 hi:qDk (.builtin "ValueError.__init__")=true
theorem zR7{B:Addr}{apos:Pos}{pl:Sem Bool}(hB:XBase X.K B)(hg:Gl X x)(hm:X.mg x=some (.ref B))(ha:PA X (e::es) t)(hdb:(x==("__debug__":Str))=false:=by decide)
  (he:starEach (e::es) X.env=(false,eval e X.env)::starEach es X.env:=by rfl) (hpl:(backTo pos (starEach es X.env)).any (·.1)=false:=by rfl)
  (ht:eval (.Call (.Attribute (.Name x p) "__init__" apos) (e::es) [] pos) X.env=(do
   let ov <- eval (.Name x p) X.env
   standAt apos.atName
   let(f,first) <- holding [ov] (getMethod ov "__init__" pl)
   callWith pos f first (backTo pos (starEach (e::es) X.env)) (backToKw pos (keywordEach [] X.env))):=by rfl) :
  PE X (.Call (.Attribute (.Name x p) "__init__" apos) (e::es) [] pos) (zSD X.K t):=by
 intro pins s σ H Q I h;refine qDj (pl:=pl) (zEO I hg hm ?_ hdb) ht;refine PySem.W.method_cls I.kIn hB.ga (PySem.W.cls_value I.kIn hB.rd hB.fd hB.hi ?_);have I':=I.tok (s.toks+1);refine qDi (thn (ha pos pins _ σ H _ I' h) fun us s1 z0=>?_) he hpl;obtain⟨vs,H1,I1,r1,a,C,d,rest,ev,ea,hx,hz,q⟩:=z0;subst ev;cases r1 with
 |cons ru r2=>
  cases ru;obtain⟨t1,hg1⟩:=I1.xn ea;obtain⟨nm,qn,N,bs,bm,hdct,sn,sub,ab,col,dd,k0,k1,k2,k3,k5,hC,htl⟩:=PySem.W.xc_cls I1.kIn hx;have hus:=r2.length;obtain⟨hh,g,dr,tk,os⟩:=s1;refine Xc.call_baseX qD3 (PySem.W.exc_con htl (by decide)) hC hg1 (fun h' t0 k1 k2=>?_) (by rw[<- hus];exact hz);have I2:Inv X pins σ (upd H1 a (L2.xn a (.ref C) d)) { heap:=h',gens:=g,drawn:=dr,toks:=tk,os:=os }:=
   I1.write (h':=h') (t':=tk) (e:=a) (by rw[ea];trivial) (.inl rfl) (fun b u hb e=>k1 b u hb e) ⟨_,k2⟩ (zUA ⟨t0,k2⟩)
  rw[zQL ea]at I2;exact⟨.non,H1,I2,rfl,q⟩
structure XSet(K:qA0)(C:Addr)(f:Str):Prop where
 st:qA5 K (.ref C) "__setattr__" = some (some (.builtin "object.__setattr__"))
 ov:PySem.W.excOver K C=true
 tk:qDa K C f=some none
 hd:(qBi K C).any (·.hasDict)=true
def zSE(K:qA0)(ta tv:TE)(f:Str):TS:=fun D σ H=>tv σ H fun y H1=>ta σ H1 fun x H2=>∃e C,x=.ref e/\H2 e=some (L2.xn e (.ref C) none)/\XSet K C f /\
 ∀d,H2 d=none->d≠e->D.nx σ (upd (upd H2 d (.xd [(f,y)])) e (L2.xn e (.ref C) (some d)))
theorem zR5{o value:Expr}{f:Str}{pos':Pos}{ta tv:TE}(ha:PE X o ta)(hv:PE X value tv)(hs:swapsWith value (some (.Attribute o f pos')) pos.line X.env=pure false):PS X (.Assign [.Attribute o f pos'] value pos) (zSE X.K ta tv f):=by
 intro pins s σ H D I h;refine plainObj_wpAny_Assign_Attribute (thn (hv pins s σ H _ I h) fun u s1 ⟨y,H1,I1,ry,q⟩=>thn (ha pins s1 σ H1 _ I1 q) fun ov s2 ⟨x,H2,I2,rx,a,C,ex,ea,c,q2⟩=>?_) hs;subst ex;obtain rfl:ov=Value.ref a:=rx;obtain⟨t1,hg1⟩:=I2.xn ea;refine PySem.W.set_exc I2.kIn hg1 c.st c.ov c.tk c.hd fun h' tk' n1 g2 k2=>?_
 have hdn:H2 s2.heap.objs.size=none:=I2.hok.fresh (qA4 _);have hne:s2.heap.objs.size≠a:=fun z=>by rw[z,ea]at hdn;cases hdn
 refine⟨σ,_,?_,q2 s2.heap.objs.size hdn hne⟩;have nb:∀b,H2 b=none->b≠a:=fun b hb z=>by rw[z,ea]at hb;cases hb
 have ndx:∀b o,s2.heap.get? b=some o->b≠s2.heap.objs.size:=fun b o e=>qAf (Heap.lt_size e)
 have oth:∀b,b≠a->b≠s2.heap.objs.size->upd (upd H2 s2.heap.objs.size (.xd [(f,y)])) a (L2.xn a (.ref C) (some s2.heap.objs.size)) b=H2 b:=fun b h1 h2=>by rw[zA6 h1,zA6 h2]
 have tr:∀{b:Addr}{o:HO},H2 b=some o->(∀φ,o≠.ext φ)->upd (upd H2 s2.heap.objs.size (.xd [(f,y)])) a (L2.xn a (.ref C) (some s2.heap.objs.size)) b=some o:=fun{b o} hb hn=>by
  rw[oth b (fun z=>by rw[z,ea]at hb;cases hb;exact hn _ rfl) (fun z=>by rw[z,hdn]at hb;cases hb)];exact hb
 refine I2.un (h':=h') (t':=tk') ⟨fun b o e n _ _=>k2 b o (nb b n) e,fun b o e n _ _=>⟨o.slots,k2 b o (nb b n) e⟩,fun b o e n _=>by rw[oth b (nb b n) (ndx b o e)];exact n,fun b o e _=>?_,fun b xs e=>tr e fun _ z=>(by cases z),fun b o u e=>tr e fun _ z=>(by cases z),fun b ps e=>⟨#[],by rw[Array.append_empty];exact tr e fun _ z=>(by cases z)⟩⟩ fun b u e=>?_
 ·by_cases z:b=a
  ·rw[z];exact⟨_,g2⟩
  ·exact⟨o,k2 b o z e⟩
 ·by_cases z:b=a
  ·subst z;rw[zAD]at e;cases e;exact zUA ⟨t1,g2⟩
  ·rw[zA6 z]at e
   by_cases z':b=s2.heap.objs.size
   ·subst z';rw[zAD]at e;cases e;refine⟨_,n1,fun g=>?_⟩
    by_cases hgf:g=f
    ·subst hgf;simp[qB6,RelO];exact ry
    ·have hb:(g==f)=false:=beq_eq_false_iff_ne.mpr hgf;simp[qB6,hb,hgf,RelO]
   ·rw[zA6 z']at e;refine(I2.hok b u e).stay (fun c w hc q=>k2 c w ?_ q) (fun c q=>?_) (fun c xs q=>tr q fun _ z=>(by cases z)) fun c _ _ q _=>tr q fun _ z=>(by cases z)
    ·rcases hc with rfl|hc
     ·exact z
     ·intro y;rw[y,ea]at hc;cases hc
    ·exact tr q fun _ z=>(by cases z)
end
end L2
namespace PySem.Xc
open PySem PySem.W
section
variable{prog:Program}{w:World}{A:Around}{E:Value->Shared->Prop}{K:Frag}{x C:Addr}{ox:Obj}{od:Option Obj}{name:Str}{expr fill:Bool}{h:Heap}{g:Array GenState}{d:Drawn}{t:Nat}{os:OsState}
end
structure XIs(K:Frag)(C:Addr):Prop where
 xc:xcIn K C=true
 ga:findIn K (.ref C) "__getattribute__" = some (some (.builtin "BaseException.__getattribute__"))
 gg:findIn K (.ref C) "__getattr__" = some none
 hd:hasDictIn K C=true
 ca:findIn K (.ref C) "__class__" = some (some (.builtin "object.__class__"))
 cg:specialIn K (.builtin "object.__class__") "__get__" = some (some (.builtin "getset_descriptor.__get__"))
 ct:takesIn K (.builtin "object.__class__")=some true
 mo:mroIn K C (.type "object")=some true
end PySem.Xc
namespace L2
open PySem PySem.Spec PyProof.Rows
section
variable{X:Cx}{pins:List (Addr×Obj)}{σ:St}{H:Hp}{s:Shared}{C e d:Addr}{f:Str}{pos:Pos}{ta:TE}
def isX(H:Hp)(e C:Addr)(d:Option Addr):Prop:=H e=some (xn e (.ref C) d)\/H e=some (xo e (.ref C) d)
end
end L2
namespace L2
open PySem PySem.Spec PyProof.Rows
def HasX(P:Program)(w:World)(K:qA0)(mg:Str->Option Value)(base:Heap)(x:Str)(k:Nat)(ps:List Str)(sp:Sp):Prop:=
 ∃f fd,FnOk P w K mg base (CXe P w) k f fd ps sp/\mg x=some (.ref f)/\qAd K (.ref f)=true/\Binds K fd ps []
section
variable{P:Program}{w:World}{K:qA0}{mg:Str->Option Value}{base:Heap}{x:Str}{k:Nat}{ps N:List Str}{sp sp':Sp}{st:Stmt}
theorem Fun.okX{y qual:Str}{f:Addr}{fd:FuncData}(F:Fun K y qual st f fd)(S:FnScope N ps (zA5 st))(len:∀vs H Q E,sp vs H Q E->vs.length=ps.length)
  (hbody:∀(cdv:Value)(A:Around)(outer:List Env)(s:Shared)(H:Hp)(vs:List V)(Q:VK)(E:XK),Room k (A.deeper (envOfC qual (zA5 st) s.heap.objs.size f cdv))->sp vs H Q E ->
   ∃t,PSs (cxOf (CXe P w) P w K mg base N qual (zA5 st) f cdv A outer s H E) (zAY st) t/\t { nx:=fun _ H'=>Q .non H',rt:=Q } (start N vs) H):FnOk P w K mg base (CXe P w) (k+1) f fd ps sp:=by
 obtain⟨oc,od,kV,doc,pm,an,cdv,ct,osl,rfl,lk,hcd⟩:=F.ex;exact zX4 lk hcd S len fun A outer s H vs Q E hr hsp=>hbody cdv A outer s H vs Q E hr hsp
theorem Def.okX(D:Def K mg x st)(S:FnScope N ps (zA5 st))
  (hb:∀(kV doc pm:Value)(an:Option Addr)(cdv ct:Value)(us:List Value),us.length=ps.length->bindArgs (qAx x x (zB5 st) (zAY st) (zA5 st) .none kV doc pm an cdv ct) ⟨us,[]⟩=pure (ps.zip us))
  (len:∀vs H Q E,sp vs H Q E->vs.length=ps.length)
  (hbody:∀(f:Addr)(cdv:Value)(A:Around)(outer:List Env)(s:Shared)(H:Hp)(vs:List V)(Q:VK)(E:XK),Room k (A.deeper (envOfC x (zA5 st) s.heap.objs.size f cdv))->sp vs H Q E ->
   ∃t,PSs (cxOf (CXe P w) P w K mg base N x (zA5 st) f cdv A outer s H E) (zAY st) t/\t { nx:=fun _ H'=>Q .non H',rt:=Q } (start N vs) H):HasX P w K mg base x (k+1) ps sp:=by
 obtain⟨f,fd,F,m⟩:=D;exact⟨f,fd,F.okX S len (fun cdv A outer s H vs Q E hr h=>hbody f cdv A outer s H vs Q E hr h),m,F.kp,F.binds hb⟩
theorem zBE{qual:Str}{scope:Scope}{f:Addr}{cd:Value}{A:Around}{outer:List Env}{s:Shared}{H:Hp}{E:XK}:Flies (cxOf (CXe P w) P w K mg base N qual scope f cd A outer s H E) E:=fun _ _ _ _ h=>zV9 (fun _ _ _ z=>z) h
end
section
variable{X:Cx}{x:Str}{j k:Nat}{ps:List Str}{sp:Sp}{e:Expr}{es:List Expr}{t:TA}{p pos:Pos}{E:XK}
theorem zGN:Flies X E0:=fun _ _ _ _ z0=>by
 obtain⟨_,_,_,_,_,_,_,_,_,_,_,h⟩:=z0;exact h.elim
theorem zHM(h:HasX X.prog X.w X.K X.mg X.base x j ps sp)(hjk:j<=k)(hr:Room k X.A)(hf:Flies X E)(hg:Gl X x)(ha:PA X (e::es) t)(hdb:(x==("__debug__":Str))=false:=by decide)
  (he:starEach (e::es) X.env=(false,eval e X.env)::starEach es X.env:=by rfl) (hpl:(backTo pos (starEach es X.env)).any (·.1)=false:=by rfl):PE X (.Call (.Name x p) (e::es) [] pos) (zL2 sp [] E t):=by
 obtain⟨f,fd,G,m,kp,b⟩:=h;exact zOY G (hr.mono hjk) hg m kp b .nil hf.passes ha hdb he hpl
theorem zHN{C:Addr}(hg:Gl X x)(hm:X.mg x=some (.ref C))(hdb:(x==("__debug__":Str))=false:=by decide):PE X (.Name x pos) (tC (.ref C)):=fun pins s σ H Q I h=>zEO I hg hm ⟨.ref C,H,I,rfl,h⟩ hdb
end
end L2
namespace Att
open PySem PySem.W PySem.Calls PyProof.Rows
theorem zTH{ns:List Int}(h:WData.weightAll (ns.map WData.int)<=2 ^ 20):∀i∈ns,i.natAbs.log2<2 ^ 20:=by
 induction ns with
 |nil=>intro i hi;cases hi
 |cons n r ih=>
  rw[qAu,WData.weightAll]at h;intro i hi
  rcases qA7.mp hi with rfl|hi
  ·rw[WData.weight]at h
   split at h
   ·rename_i z
    have:i=0:=beq_iff_eq.mp z
    subst this
    decide
   ·lia
  ·exact ih (by lia) i hi
theorem attach_callW{l:OpenLaw}{n:Nat}{q:Program}{loose:List Str}{XP:(Str->Option Value)->Heap->Prop}{YP:World->Heap->Prop}{d:DefRec}
  (hn:l.most=some n) (hdf:d.params.defaults=[])
  (call:∀(w:World)(s₀ s₁:Shared)(mg mb:Str->Option Value)(fa:Addr)(o:Obj)(pm cd doc:Value)(a:Addr)(vs:List Value)(ns:List Int),
   Ground q loose [] XP w s₀ mg mb s₁.heap->YP w s₁.heap ->
   s₁.heap.get? fa=some o->o.data=.func (docDef d.name d.params d.body d.scope pm cd doc)->s₁.heap.CodeRec cd d.name->mg d.name=some (.ref fa) ->
   s₁.heap.get? a=some { cls:=.type "list",data:=.seq vs.toArray }->IntsAre vs ns->ns.length<=n->(∀i∈ns,i.natAbs.log2<2 ^ 20)->s₁.gens=#[] ->
   codeAny (model l.prog w) callerA (.call (.ref fa) ⟨[.ref a],[]⟩) (fun r s'=>r=.ok (.ret (.bool true))/\OldK s₁.heap s'.heap/\s'.os=s₁.os/\AllBare s'.gens) s₁) :
  WalkO q loose XP YP l.row.toRowW d [] (fun f vs=>qFy f vs):=by
 intro w s₀ s₁ mg mb G Y fa o pm cd doc dV kV ho hd hcd hD hmg hg args vals as hpre hlay hrd hwl hlo;obtain rfl:dV=.none:=Dflts.none hD hdf;obtain rfl:kV=.none:=Dflts.noKw hD;obtain⟨a,vs,ns,rfl,rfl,hobj,hints,hlen⟩:=zOG hn hpre hwl;have hw:∀i∈ns,i.natAbs.log2<2 ^ 20:=by
  have hl:WData.layableAll [WData.list (ns.map WData.int)]=true:=hlay;simp only[WData.layableAll,qDm,List.all_nil,qEg,WData.layable,qB9,decide_eq_true_eq]at hl;exact zTH (by have:=hl.2;rw[WData.weight]at this;exact this)
 refine enter_call (codeAny_mono (call w s₀ s₁ mg mb fa o pm cd doc a vs ns G Y ho (fd_plain hd) hcd hmg hobj hints hlen hw hg) fun r s' hq=>?_);obtain⟨rfl,h2,h3,h4⟩:=hq;exact⟨.inl ⟨.bool true,.bool true,[],rfl,fun _=>rfl,.bool true,zOP l _,fun _=>⟨qFw,fun _ hm=>(nomatch hm)⟩⟩,h2,h3,h4⟩
end Att
namespace L2
open PySem PySem.Spec PyProof.Rows
def MulOk(i j:Int):Prop:=((-(2 ^ 64)<i/\i<2 ^ 64)\/(-(2 ^ 64)<j/\j<2 ^ 64))\/i.natAbs.log2+j.natAbs.log2<=67108864
theorem zQD(i:Int):Builtin.Int.intBits i<=i.natAbs.log2+1:=by
 unfold Builtin.Int.intBits
 split<;>lia
theorem MulOk.ok{i j:Int}(h:MulOk i j):IntMulOk i j:=by
 rcases h with h|h
 ·exact CMul.ok h
 ·unfold IntMulOk;have h1:=zQD i;have h2:=zQD j;have h3:Builtin.Int.intTooBig ((Builtin.Int.intBits i:Int)+(Builtin.Int.intBits j:Int))=false:=by
   unfold Builtin.Int.intTooBig
   have:(bitsLine:Int)=134217728:=by decide
   rw[this];simp only[gt_iff_lt,decide_eq_false_iff_not,Int.not_lt]
   lia
  rw[h3,qDg];exact qAj
section
variable{X:Cx}
noncomputable def zVY:R2:=fun x y H Q=>match x,y with
 |.int i,.int j=>MulOk i j/\Q (.int (i*j)) H
 |_,_=>False
theorem zU7:OpR X (binaryOp .Mult) (rI MulOk fun i j=>.int (i*j)):=opI fun _ _ _ _ _ _ _ hc q=>mul_int q hc.ok
theorem zG3:OpR X (binaryOp .Mult) zVY:=by
 intro pins s σ H x y v u Q I rx ry h;cases x<;>cases y<;>first
  |exact zU7 pins s σ H _ _ v u Q I rx ry ⟨_,_,rfl,rfl,h.1,h.2⟩
  |exact qA6 h
noncomputable def zW1:R2:=fun x y H Q=>match x,y with
 |.int i,.int j=>(0<j/\j<1000000000000000000000000)/\Q (.int (i/j)) H
 |_,_=>False
theorem log2_lt{n:Nat}(h:n<1000000000000000000000000):n.log2<9000:=by
 by_cases z:n=0
 ·subst z;decide
 ·have h2:n<2 ^ 80:=by lia
  have:=(Nat.log2_lt z).mpr h2
  lia
theorem zU8:OpR X (binaryOp .FloorDiv) (rI (fun _ j=>0<j/\j<1000000000000000000000000) fun i j=>.int (i/j)):=opI fun i j _ _ _ _ _ hc q=>by
 have h1:(0:Int)<j:=hc.1;have h2:j<1000000000000000000000000:=hc.2;exact floordiv_int (by lia) (by rw[Int.fdiv_eq_ediv_of_nonneg i (by lia)];exact q) (.inl (PyProof.noPylong_of_log2 (log2_lt (by lia))))
theorem zHE:OpR X (binaryOp .FloorDiv) zW1:=by
 intro pins s σ H x y v u Q I rx ry h;cases x<;>cases y<;>first
  |exact zU8 pins s σ H _ _ v u Q I rx ry ⟨_,_,rfl,rfl,h.1,h.2⟩
  |exact qA6 h
end
end L2
namespace L2
open PySem PySem.Spec PyProof.Rows
noncomputable def del(H:Hp)(a:Addr):Hp:=fun b=>if b=a then none else H b
theorem zT6{H:Hp}{a b:Addr}(h:b≠a):del H a b=H b:=by unfold del;rw[if_neg h]
abbrev cel(co:Obj):HO:=.frz co (.ext fun _=>True)
section
variable{P:Program}{w:World}{H H':Hp}{h h':Heap}{a:Addr}{co:Obj}{fs:List Addr}
end
abbrev lamO(q:Str)(params:Arguments)(body:Expr)(scope:Scope)(clos:List (Str×Addr))(pm cdv ctv:Value):Obj:=
 { cls:=.type "function",data:=.func (PySem.W.kla_fn "<lambda>" q params body scope clos pm cdv ctv) }
section
variable{X:Cx}
end
end L2
namespace L2
open PySem PySem.Spec PyProof.Rows
section
variable{X:Cx}{k:Nat}{f cl:Addr}{fd:FuncData}{ps:List Str}{sp:Sp}{x nm:Str}{p pos:Pos}{e:Expr}{es:List Expr}{t:TA}{i:Nat}
end
def cxLam(X:Cx)(N:List Str)(q:Str)(scope:Scope)(f:Addr)(cd:Value)(clos:List (Str×Addr))(s:Shared)(H:Hp):Cx where
 prog:=X.prog
 w:=X.w
 K:=X.K
 mg:=X.mg
 base:=X.base
 A:=X.A.deeper (qG6 q scope s.heap.objs.size f cd clos)
 N:=N
 s₀:=s
 H₀:=H
 env:=qG6 q scope s.heap.objs.size f cd clos
 outer:=X.stack
 stack:=qG6 q scope s.heap.objs.size f cd clos::X.stack
 ex:=[]
 fn:=fun _=>false
 calm:=true
 pn:=[]
 xe:=fun _ _=>False
section
variable{X:Cx}{pins:List (Addr×Obj)}{σ:St}{H:Hp}{s:Shared}{Q:VK}{us:List Value}{vs:List V}{f cl:Addr}{q nm:Str}{params:Arguments}{body:Expr}{scope:Scope}{pm cdv ctv:Value}{co:Obj}{val:Value}{v:V}{ps:List Str}
end
section
variable{X:Cx}{i:Nat}{x:Str}{p pos:Pos}{e:Expr}{es:List Expr}{t:TA}{r:Addr->List V->Hp->VK->Prop}
end
end L2
namespace L3
open PySem PySem.Spec
open L2 hiding Rep RepL
open Mi (Dt Xn R okR zA3 optR zA0 zA8 zAG zA9 zAE Rh Sl Ro EM TM AM FM IM SM Tg Out zAT zB3 zB1 full frz frz1 frzAt)
class Kc where
 K:qA0
variable[Kc]
noncomputable def clK(K:qA0)(c:Str):Option Addr:=match qAt K mainGlobals c with
 |some (some (.ref C))=>some C
 |_=>none
def SqR(K:qA0)(H:Hp)(a:Addr)(xs:List V):Prop:=SqL K H a xs\/SqT K H a xs
theorem zG7{K:qA0}{H H':Hp}{a:Addr}{xs:List V}(e:Same H H')(h:SqT K H a xs):SqT K H' a xs:=by
 rcases h with(h|⟨o,h⟩)|h
 ·exact .inl (.inl (e _ _ h))
 ·exact .inl (.inr ⟨o,e _ _ h⟩)
 ·exact .inr h
theorem zG8{K:qA0}{H H':Hp}{a:Addr}{xs:List V}(e:Same H H')(h:SqR K H a xs):SqR K H' a xs:=h.imp (fun z=>e.seq z) fun z=>zG7 e z
noncomputable def svV:Mi.Sv->V
 |.i n=>.int n
 |.s x=>.str x
noncomputable def swV:Mi.Sw->V
 |.non=>.non
 |.bl b=>.bl b
 |.int i=>.int i
 |.str x=>.str x
noncomputable def zUW:Expr->Option (Arguments×Expr×Scope×Str)
 |.Call _ [_,.Lambda ps b sc _] _ _=>match sc.names.find? fun p=>p.2==.free with
  |some (x,_)=>some (ps,b,sc,x)
  |none=>none
 |_=>none
def zXN:Stmt->Option (Arguments×Expr×Scope×Str)
 |.Return (some e) _=>zUW e
 |.Assign _ e _=>zUW e
 |.If _ (_::.Return (some e) _::_) _ _=>zUW e
 |_=>none
def zY1(l:List Stmt):Option (Arguments×Expr×Scope×Str):=l.findSome? zXN
def lamK(K:qA0)(x:Str):Option (Arguments×Expr×Scope×Str):=match qAt K mainGlobals x with
 |some (some (.ref f))=>match K.lookup f with
  |some o=>match o.data with
   |.func fd=>match fd.body with
    |.stmts b=>zY1 b
    |_=>none
   |_=>none
  |none=>none
 |_=>none
noncomputable def lamQ(x:Str):Str:=x ++ ".<locals>." ++ "<lambda>"
noncomputable def codP(K:qA0)(x:Str):Option Addr:=match qAt K mainGlobals x with
 |some (some (.ref f))=>match K.lookup f with
  |some o=>match o.data with
   |.func fd=>match fd.code with
    |.ref c=>match K.lookup c with
     |some o=>match o.data with
      |.fields vs=>match(vs[11]?:Option Value)with
       |some (.ref P)=>some P
       |_=>none
      |_=>none
     |none=>none
    |_=>none
   |_=>none
  |none=>none
 |_=>none
noncomputable def makers:List Str:=["turned_at","exchanged_at","pivoted"]
def tabK(K:qA0):Hp:=fun P=>(makers.find? fun x=>codP K x==some P&&(lamK K x).isSome).map fun x=>.lam (lamQ x)
mutual
def Rep(H:Hp):Dt->V->Prop
 |.non,v=>v=.non
 |.bl b,v=>v=.bl b
 |.int i,v=>v=.int i
 |.str x,v=>v=.str x
 |.lst ds,v=>∃a xs,v=.ref a/\H a=some (.lst xs)/\RepL H ds xs
 |.tup ds,v=>∃a xs,v=.ref a/\H a=some (.tup xs)/\RepL H ds xs
 |.scr ns,v=>∃a,v=.ref a/\SqR Kc.K H a (ns.map V.int)
 |.exc c f d,v=>∃e C da,v=.ref e/\isX H e C da/\clK Kc.K c=some C/\((da=none/\f = "")\/∃a gs w,da=some a/\H a=some (.xd gs)/\gs.lookup f=some w/\Rep H d w)
 |.ins c fs,v=>∃a C dx,v=.ref a/\clK Kc.K c=some C/\H a=some (.ins C dx (fs.map fun p=>(p.1,svV p.2)))
 |.dct kvs,v=>∃a,v=.ref a/\H a=some (.dK (kvs.map fun p=>(p.1,swV p.2)))
 |.fn x d,v=>∃f,v=.ref f/\∃L cl pm cdv ctv co val w,lamK Kc.K x=some L/\H f=some (.fn (lamO (lamQ x) L.1 L.2.1 L.2.2.1 [(L.2.2.2,cl)] pm cdv ctv) (lamQ x))/\H cl=some (cel co)/\co.data=.cell (some val)/\RelV w val/\Rep H d w
def RepL(H:Hp):List Dt->List V->Prop
 |[],xs=>xs=[]
 |d::r,xs=>∃x q,xs=x::q/\Rep H d x/\RepL H r q
end
mutual
theorem Rep.mono{H H':Hp}(s:Same H H'):∀{d:Dt}{v:V},Rep H d v->Rep H' d v
 |.non,_,h=>h
 |.bl _,_,h=>h
 |.int _,_,h=>h
 |.str _,_,h=>h
 |.lst _,_,h=>by obtain⟨a,xs,e,e',r⟩:=h;exact⟨a,xs,e,s _ _ e',RepL.mono s r⟩
 |.tup _,_,h=>by obtain⟨a,xs,e,e',r⟩:=h;exact⟨a,xs,e,s _ _ e',RepL.mono s r⟩
 |.scr _,_,h=>by obtain⟨a,e,e'⟩:=h;exact⟨a,e,zG8 s e'⟩
 |.exc _ _ _,_,h=>by
  obtain⟨a,C,da,e,e',hc,r⟩:=h;refine⟨a,C,da,e,e'.imp (fun z=>s _ _ z) fun z=>s _ _ z,hc,r.imp (fun z=>z) ?_⟩
  rintro⟨b,gs,w,h1,h2,h3,h4⟩
  exact⟨b,gs,w,h1,s _ _ h2,h3,Rep.mono s h4⟩
 |.ins _ _,_,h=>by obtain⟨a,C,dx,e,hc,h1⟩:=h;exact⟨a,C,dx,e,hc,s _ _ h1⟩
 |.dct _,_,h=>by obtain⟨a,e,h1⟩:=h;exact⟨a,e,s _ _ h1⟩
 |.fn _ _,_,h=>by obtain⟨f,e,L,cl,pm,cdv,ctv,co,val,w,h1,h2,h3,h4,h5,h6⟩:=h;exact⟨f,e,L,cl,pm,cdv,ctv,co,val,w,h1,s _ _ h2,s _ _ h3,h4,h5,Rep.mono s h6⟩
theorem RepL.mono{H H':Hp}(s:Same H H'):∀{ds:List Dt}{xs:List V},RepL H ds xs->RepL H' ds xs
 |[],_,h=>h
 |_::_,_,h=>by obtain⟨x,q,e,r,t⟩:=h;exact⟨x,q,e,Rep.mono s r,RepL.mono s t⟩
end
theorem RepL.length{H:Hp}:∀{ds:List Dt}{xs:List V},RepL H ds xs->xs.length=ds.length
 |[],_,h=>by cases h;rfl
 |_::_,_,h=>by obtain⟨x,q,e,r,t⟩:=h;subst e;simp[RepL.length t]
mutual
def conv:Dt->L2.Dat
 |.non=>.non
 |.bl b=>.bl b
 |.int i=>.int i
 |.str x=>.str x
 |.lst ds=>.lst (convL ds)
 |.tup ds=>.tup (convL ds)
 |.scr _=>.non
 |.exc _ _ _=>.non
 |.fn _ _=>.non
 |.ins _ _=>.non
 |.dct _=>.non
def convL:List Dt->List L2.Dat
 |[]=>[]
 |d::r=>conv d::convL r
end
mutual
theorem zF9:∀{d:Dt},d.dep<=40->(conv d).dep<=d.dep
 |.non,_=>qA4 _
 |.bl _,_=>qA4 _
 |.int _,_=>qA4 _
 |.str _,_=>qA4 _
 |.lst ds,h=>by rw[Dt.dep]at h ⊢;rw[conv,L2.Dat.dep];have:=conv_depL (ds:=ds) (by lia);lia
 |.tup ds,h=>by rw[Dt.dep]at h ⊢;rw[conv,L2.Dat.dep];have:=conv_depL (ds:=ds) (by lia);lia
 |.scr _,h=>by rw[Dt.dep]at h;lia
 |.exc _ _ _,h=>by rw[Dt.dep]at h;lia
 |.fn _ _,h=>by rw[Dt.dep]at h;lia
 |.ins _ _,h=>by rw[Dt.dep]at h;lia
 |.dct _,h=>by rw[Dt.dep]at h;lia
theorem conv_depL:∀{ds:List Dt},Dt.depL ds<=40->L2.Dat.depL (convL ds)<=Dt.depL ds
 |[],_=>qA4 _
 |d::r,h=>by
  rw[Dt.depL]at h ⊢;rw[convL,L2.Dat.depL];have h1:=zF9 (d:=d) (by lia);have h2:=conv_depL (ds:=r) (by lia)
  lia
end
mutual
theorem zE1{H:Hp}:∀{d:Dt}{v:V},d.dep<=40->Rep H d v->L2.Rep H (conv d) v
 |.non,_,_,h=>h
 |.bl _,_,_,h=>h
 |.int _,_,_,h=>h
 |.str _,_,_,h=>h
 |.lst ds,_,hd,h=>by obtain⟨a,xs,e,e',r⟩:=h;exact⟨a,xs,e,e',conv_repL (by rw[Dt.dep]at hd;lia) r⟩
 |.tup ds,_,hd,h=>by obtain⟨a,xs,e,e',r⟩:=h;exact⟨a,xs,e,e',conv_repL (by rw[Dt.dep]at hd;lia) r⟩
 |.scr _,_,h,_=>by rw[Dt.dep]at h;lia
 |.exc _ _ _,_,h,_=>by rw[Dt.dep]at h;lia
 |.fn _ _,_,h,_=>by rw[Dt.dep]at h;lia
 |.ins _ _,_,h,_=>by rw[Dt.dep]at h;lia
 |.dct _,_,h,_=>by rw[Dt.dep]at h;lia
theorem conv_repL{H:Hp}:∀{ds:List Dt}{xs:List V},Dt.depL ds<=40->RepL H ds xs->L2.RepL H (convL ds) xs
 |[],_,_,h=>h
 |d::r,_,hd,h=>by
  rw[Dt.depL]at hd;obtain⟨x,q,e,a,b⟩:=h;exact⟨x,q,e,zE1 (by lia) a,conv_repL (by lia) b⟩
end
mutual
theorem zLL:∀{d e:Dt},d.dep<=40->e.dep<=40->L2.Dat.eq (conv d) (conv e)=Dt.eq d e
 |.scr _,_,h,_=>by rw[Dt.dep]at h;lia
 |.exc _ _ _,_,h,_=>by rw[Dt.dep]at h;lia
 |.fn _ _,_,h,_=>by rw[Dt.dep]at h;lia
 |.ins _ _,_,h,_=>by rw[Dt.dep]at h;lia
 |.dct _,_,h,_=>by rw[Dt.dep]at h;lia
 |.lst ds,e,h,h'=>by
  rw[Dt.dep]at h;cases e with
  |lst es=>rw[Dt.dep]at h';rw[conv,conv,L2.Dat.eq,Dt.eq];exact conv_eqL (by lia) (by lia)
  |scr _=>rw[Dt.dep]at h';lia
  |exc _ _ _=>rw[Dt.dep]at h';lia
  |fn _ _=>rw[Dt.dep]at h';lia
  |ins _ _=>rw[Dt.dep]at h';lia
  |dct _=>rw[Dt.dep]at h';lia
  |_=>simp[conv,L2.Dat.eq,Dt.eq]
 |.tup ds,e,h,h'=>by
  rw[Dt.dep]at h;cases e with
  |tup es=>rw[Dt.dep]at h';rw[conv,conv,L2.Dat.eq,Dt.eq];exact conv_eqL (by lia) (by lia)
  |scr _=>rw[Dt.dep]at h';lia
  |exc _ _ _=>rw[Dt.dep]at h';lia
  |fn _ _=>rw[Dt.dep]at h';lia
  |ins _ _=>rw[Dt.dep]at h';lia
  |dct _=>rw[Dt.dep]at h';lia
  |_=>simp[conv,L2.Dat.eq,Dt.eq]
 |.non,e,_,h'=>by
  cases e with
  |scr _=>rw[Dt.dep]at h';lia
  |exc _ _ _=>rw[Dt.dep]at h';lia
  |fn _ _=>rw[Dt.dep]at h';lia
  |ins _ _=>rw[Dt.dep]at h';lia
  |dct _=>rw[Dt.dep]at h';lia
  |_=>simp[conv,L2.Dat.eq,Dt.eq]
 |.bl _,e,_,h'=>by
  cases e with
  |scr _=>rw[Dt.dep]at h';lia
  |exc _ _ _=>rw[Dt.dep]at h';lia
  |fn _ _=>rw[Dt.dep]at h';lia
  |ins _ _=>rw[Dt.dep]at h';lia
  |dct _=>rw[Dt.dep]at h';lia
  |_=>simp[conv,L2.Dat.eq,Dt.eq]
 |.int _,e,_,h'=>by
  cases e with
  |scr _=>rw[Dt.dep]at h';lia
  |exc _ _ _=>rw[Dt.dep]at h';lia
  |fn _ _=>rw[Dt.dep]at h';lia
  |ins _ _=>rw[Dt.dep]at h';lia
  |dct _=>rw[Dt.dep]at h';lia
  |_=>simp[conv,L2.Dat.eq,Dt.eq]
 |.str _,e,_,h'=>by
  cases e with
  |scr _=>rw[Dt.dep]at h';lia
  |exc _ _ _=>rw[Dt.dep]at h';lia
  |fn _ _=>rw[Dt.dep]at h';lia
  |ins _ _=>rw[Dt.dep]at h';lia
  |dct _=>rw[Dt.dep]at h';lia
  |_=>simp[conv,L2.Dat.eq,Dt.eq]
theorem conv_eqL:∀{ds es:List Dt},Dt.depL ds<=40->Dt.depL es<=40->L2.Dat.eqL (convL ds) (convL es)=Dt.eqL ds es
 |[],[],_,_=>by simp[convL,L2.Dat.eqL,Dt.eqL]
 |[],_::_,_,_=>by simp[convL,L2.Dat.eqL,Dt.eqL]
 |_::_,[],_,_=>by simp[convL,L2.Dat.eqL,Dt.eqL]
 |d::r,e::t,h,h'=>by
  rw[Dt.depL]at h h';rw[convL,convL,L2.Dat.eqL,Dt.eqL,zLL (by lia) (by lia),conv_eqL (by lia) (by lia)]
end
theorem zCG{G:Hp}:∀{ds:List Dt}{xs:List V}{q:Nat}{d:Dt}{x:V},RepL G ds xs->ds[q]?=some d->xs[q]?=some x->Rep G d x
 |[],_,_,_,_,_,h,_=>by simp at h
 |d::r,xs,0,e,y,h,h1,h2=>by
  obtain⟨x,t,rfl,a,b⟩:=h;simp at h1 h2;subst h1;subst h2;exact a
 |d::r,xs,q+1,e,y,h,h1,h2=>by
  obtain⟨x,t,rfl,a,b⟩:=h;exact zCG b (by simpa using h1) (by simpa using h2)
theorem zFJ{G:Hp}:∀{ds:List Dt}{xs:List V},xs.length=ds.length->(∀(q:Nat)(d:Dt)(x:V),ds[q]?=some d->xs[q]?=some x->Rep G d x)->RepL G ds xs
 |[],[],_,_=>rfl
 |[],_::_,h,_=>by simp at h
 |_::_,[],h,_=>by simp at h
 |d::r,x::t,h,k=>⟨x,t,rfl,k 0 d x rfl rfl,zFJ (by simpa using h) fun q e y h1 h2=>k (q+1) e y (by simpa using h1) (by simpa using h2)⟩
theorem zGR{n:Nat}:∀{ds:List Dt},Dt.depL ds<=n->∀{q:Nat}{d:Dt},ds[q]?=some d->d.dep<=n
 |[],_,_,_,h=>by simp at h
 |e::r,h,0,d,h1=>by simp at h1;subst h1;rw[Dt.depL]at h;lia
 |e::r,h,q+1,d,h1=>by rw[Dt.depL]at h;exact zGR (ds:=r) (by lia) (q:=q) (by simpa using h1)
structure Kids(P:(Addr->Prop)->Dt->V->Prop)(S:Addr->Prop)(a:Addr)(ds:List Dt)(xs:List V)(T:Nat->Addr->Prop):Prop where
 len:xs.length=ds.length
 own:∀(q:Nat)(d:Dt)(x:V),ds[q]?=some d->xs[q]?=some x->P (T q) d x
 top:S a
 out:∀q,¬T q a
 dis:∀q r b,T q b->T r b->q=r
 sub:∀q b,T q b->S b
def Own(G H:Hp):Nat->(Addr->Prop)->Dt->V->Prop
 |0,_,d,v=>Rep G d v
 |n+1,S,d,v=>match d with
  |.lst ds=>∃a xs T,v=.ref a/\H a=some (.lst xs)/\Kids (Own G H n) S a ds xs T
  |.tup ds=>∃a xs T,v=.ref a/\H a=some (.tup xs)/\Kids (Own G H n) S a ds xs T
  |.dct kvs=>∃a,v=.ref a/\H a=some (.dK (kvs.map fun p=>(p.1,swV p.2)))/\S a
  |d=>Rep G d v
theorem Kids.imp{P P':(Addr->Prop)->Dt->V->Prop}{S S':Addr->Prop}{a:Addr}{ds:List Dt}{xs:List V}{T:Nat->Addr->Prop}(k:Kids P S a ds xs T)
  (h:∀q d x,ds[q]?=some d->P (T q) d x->P' (T q) d x) (hs:∀b,S b->S' b):Kids P' S' a ds xs T:=
 ⟨k.len,fun q d x h1 h2=>h q d x h1 (k.own q d x h1 h2),hs _ k.top,k.out,k.dis,fun q b t=>hs _ (k.sub q b t)⟩
theorem Own.mono{G G' H H':Hp}(sG:Same G G')(sH:Same H H'):∀{n:Nat}{S:Addr->Prop}{d:Dt}{v:V},Own G H n S d v->Own G' H' n S d v
 |0,S,d,v,h=>Rep.mono sG h
 |n+1,S,d,v,h=>by
  cases d with
  |lst ds=>obtain⟨a,xs,T,e,ha,k⟩:=h;exact⟨a,xs,T,e,sH _ _ ha,k.imp (fun _ _ _ _ p=>Own.mono sG sH p) fun _ z=>z⟩
  |tup ds=>obtain⟨a,xs,T,e,ha,k⟩:=h;exact⟨a,xs,T,e,sH _ _ ha,k.imp (fun _ _ _ _ p=>Own.mono sG sH p) fun _ z=>z⟩
  |dct kvs=>obtain⟨a,e,ha,hs⟩:=h;exact⟨a,e,sH _ _ ha,hs⟩
  |_=>exact Rep.mono sG h
theorem Own.sub{G H:Hp}{n:Nat}{S S':Addr->Prop}{d:Dt}{v:V}(h:Own G H n S d v)(hs:∀b,S b->S' b):Own G H n S' d v:=by
 cases n with
 |zero=>exact h
 |succ n=>
  cases d with
  |lst ds=>obtain⟨a,xs,T,e,ha,k⟩:=h;exact⟨a,xs,T,e,ha,k.imp (fun _ _ _ _ p=>p) hs⟩
  |tup ds=>obtain⟨a,xs,T,e,ha,k⟩:=h;exact⟨a,xs,T,e,ha,k.imp (fun _ _ _ _ p=>p) hs⟩
  |dct kvs=>obtain⟨a,e,ha,h2⟩:=h;exact⟨a,e,ha,hs _ h2⟩
  |_=>exact h
theorem Own.rep{G H J:Hp}(sG:Same G J):∀{n:Nat}{S:Addr->Prop}{d:Dt}{v:V},Own G H n S d v->(∀a o,S a->H a=some o->J a=some o)->Rep J d v
 |0,S,d,v,h,_=>Rep.mono sG h
 |n+1,S,d,v,h,hj=>by
  cases d with
  |lst ds=>obtain⟨a,xs,T,e,ha,k⟩:=h;exact⟨a,xs,e,hj _ _ k.top ha,zFJ k.len fun q d x h1 h2=>Own.rep sG (k.own q d x h1 h2) fun b o t hb=>hj b o (k.sub q b t) hb⟩
  |tup ds=>obtain⟨a,xs,T,e,ha,k⟩:=h;exact⟨a,xs,e,hj _ _ k.top ha,zFJ k.len fun q d x h1 h2=>Own.rep sG (k.own q d x h1 h2) fun b o t hb=>hj b o (k.sub q b t) hb⟩
  |dct kvs=>obtain⟨a,e,ha,hs⟩:=h;exact⟨a,e,hj _ _ hs ha⟩
  |_=>exact Rep.mono sG h
theorem Own.at{G G2 H:Hp}:∀{n k:Nat}{S:Addr->Prop}{d:Dt}{v:V},Own G H n S d v->d.dep<=n->d.dep<=k->n<1000->Own G2 H k S d v
 |n,k,S,d,v,h,hn,hk,hz=>by
  cases d with
  |lst ds=>
   rw[Dt.dep]at hn hk;cases n with
   |zero=>lia
   |succ n=>
    cases k with
    |zero=>lia
    |succ k=>
     obtain⟨a,xs,T,e,ha,kd⟩:=h;refine⟨a,xs,T,e,ha,kd.imp (fun q d x h1 p=>?_) fun _ z=>z⟩;exact Own.at p (zGR (by lia) h1) (zGR (by lia) h1) (by lia)
  |tup ds=>
   rw[Dt.dep]at hn hk;cases n with
   |zero=>lia
   |succ n=>
    cases k with
    |zero=>lia
    |succ k=>
     obtain⟨a,xs,T,e,ha,kd⟩:=h;refine⟨a,xs,T,e,ha,kd.imp (fun q d x h1 p=>?_) fun _ z=>z⟩;exact Own.at p (zGR (by lia) h1) (zGR (by lia) h1) (by lia)
  |non=>cases n<;>cases k<;>exact h
  |bl b=>cases n<;>cases k<;>exact h
  |int i=>cases n<;>cases k<;>exact h
  |str x=>cases n<;>cases k<;>exact h
  |scr ns=>rw[Dt.dep]at hn;lia
  |exc _ _ _=>rw[Dt.dep]at hn;lia
  |fn _ _=>rw[Dt.dep]at hn;lia
  |ins _ _=>rw[Dt.dep]at hn;lia
  |dct _=>rw[Dt.dep]at hn;lia
termination_by n=>n
theorem Own.scalar{G H G2 H2:Hp}{n k:Nat}{S S2:Addr->Prop}{d:Dt}{v:V}(h:Own G H n S d v)(hd:d.dep=0):Own G2 H2 k S2 d v:=by
 cases d with
 |lst ds=>rw[Dt.dep]at hd;lia
 |tup ds=>rw[Dt.dep]at hd;lia
 |non=>cases n<;>cases k<;>exact h
 |bl b=>cases n<;>cases k<;>exact h
 |int i=>cases n<;>cases k<;>exact h
 |str x=>cases n<;>cases k<;>exact h
 |scr ns=>rw[Dt.dep]at hd;lia
 |exc _ _ _=>rw[Dt.dep]at hd;lia
 |fn _ _=>rw[Dt.dep]at hd;lia
 |ins _ _=>rw[Dt.dep]at hd;lia
 |dct _=>rw[Dt.dep]at hd;lia
theorem zW9{G H:Hp}{n:Nat}{S:Addr->Prop}{d:Dt}{v:V}(h:Rep G d v)(hd:d.dep=0):Own G H n S d v:=Own.scalar (n:=0) (G:=G) (H:=H) (S:=S) h hd
theorem Own.upd{G H:Hp}{p:Addr}{o:HO}:∀{n:Nat}{S:Addr->Prop}{d:Dt}{v:V},Own G H n S d v->¬S p->Own G (upd H p o) n S d v
 |0,S,d,v,h,_=>h
 |n+1,S,d,v,h,hp=>by
  cases d with
  |lst ds=>
   obtain⟨a,xs,T,e,ha,k⟩:=h;have hap:a≠p:=fun z=>hp (z▸k.top)
   exact⟨a,xs,T,e,(zA6 hap).trans ha,k.imp (fun q _ _ _ w=>Own.upd w fun z=>hp (k.sub q _ z)) fun _ z=>z⟩
  |tup ds=>
   obtain⟨a,xs,T,e,ha,k⟩:=h;have hap:a≠p:=fun z=>hp (z▸k.top)
   exact⟨a,xs,T,e,(zA6 hap).trans ha,k.imp (fun q _ _ _ w=>Own.upd w fun z=>hp (k.sub q _ z)) fun _ z=>z⟩
  |dct kvs=>
   obtain⟨a,e,ha,hs⟩:=h;have hap:a≠p:=fun z=>hp (z▸hs)
   exact⟨a,e,(zA6 hap).trans ha,hs⟩
  |_=>exact h
structure Ext(G H G' H':Hp):Prop where
 g:Same G G'
 h:Same H H'
 in':Same G' H'
 old:∀b,H b≠none->G' b=G b
theorem Ext.refl{G H:Hp}(s:Same G H):Ext G H G H:=⟨Same.refl _,Same.refl _,s,fun _ _=>rfl⟩
theorem _root_.L2.Same.some{H H':Hp}(s:Same H H'){b:Addr}(h:H b≠qFf):H' b≠qFf:=by
 cases e:H b with
 |none=>exact absurd e h
 |some o=>rw[s _ _ e];simp
theorem Ext.trans{G H G1 H1 G2 H2:Hp}(a:Ext G H G1 H1)(b:Ext G1 H1 G2 H2):Ext G H G2 H2:=
 ⟨a.g.trans b.g,a.h.trans b.h,b.in',fun c hc=>(b.old c (a.h.some hc)).trans (a.old c hc)⟩
structure Fr(G H G' H':Hp)(S:Addr->Prop):Prop where
 ext:Ext G H G' H'
 new:∀a,S a->H a=none/\G' a=none/\H' a≠none
open Classical in
noncomputable def over(G H:Hp)(S:Addr->Prop):Hp:=fun b=>if S b then H b else G b
theorem zEM{G H:Hp}{S:Addr->Prop}{a:Addr}(h:S a):over G H S a=H a:=by unfold over;rw[if_pos h]
theorem zCJ{G H:Hp}{S:Addr->Prop}{a:Addr}(h:¬S a):over G H S a=G a:=by unfold over;rw[if_neg h]
theorem zDP{G H:Hp}{S:Addr->Prop}(s:Same G H):Same G (over G H S)/\Same (over G H S) H:=by
 constructor
 ·intro b o e
  by_cases z:S b
  ·rw[zEM z];exact s _ _ e
  ·rw[zCJ z];exact e
 ·intro b o e
  by_cases z:S b
  ·rw[zEM z]at e;exact e
  ·rw[zCJ z]at e;exact s _ _ e
theorem Fr.frz{G H G' H':Hp}{S:Addr->Prop}{n:Nat}{d:Dt}{v:V}(f:Fr G H G' H' S)(o:Own G' H' n S d v):Ext G H (over G' H' S) H'/\Rep (over G' H' S) d v:=by
 obtain⟨s1,s2⟩:=zDP (S:=S) f.ext.in';refine⟨⟨f.ext.g.trans s1,f.ext.h,s2,fun b hb=>?_⟩,o.rep s1 fun a u ha e=>by rw[zEM ha];exact e⟩;have z:¬S b:=fun z=>hb (f.new b z).1
 rw[zCJ z];exact f.ext.old b hb
structure View(G:Hp)(σ:St)(ρ:Rh):Prop where
 len:ρ.length=σ.length
 «at»:∀(i:Nat)(d:Dt),ρ[i]?=some (some d)->∃v,σ[i]?=some (some v)/\Rep G d v
 tab:Same (tabK Kc.K) G
theorem View.mono{G G':Hp}{σ:St}{ρ:Rh}(s:Same G G')(h:View G σ ρ):View G' σ ρ:=⟨h.len,fun i d e=>let⟨v,a,b⟩:=h.at i d e;⟨v,a,Rep.mono s b⟩,h.tab.trans s⟩
def XRep(mg:Str->Option Value)(x:Xn)(c:Value)(da:Option Addr)(G H:Hp):Prop:=
 ∃e C,c=.ref e/\G e=some (xo e (.ref C) da)/\clK Kc.K x.cls=some C/\((da=none/\x.f = "")\/∃a gs w,da=some a/\G a=some (.xd gs)/\gs.lookup x.f=some w/\Rep G x.d w)
def PostE(mg:Str->Option Value)(E:XK)(G H:Hp)(n:Nat)(r:R Dt)(Q:VK):Prop:=match r with
 |none=>False
 |some (.error x)=>∀c da G' H',Ext G H G' H'->XRep mg x c da G' H'->E c da H'
 |some (.ok d)=>∀v G' H' S,Fr G H G' H' S->Own G' H' n S d v->Q v H'
def PostT(mg:Str->Option Value)(E:XK)(G H:Hp)(r:R Bool)(Q:Bool->Hp->Prop):Prop:=match r with
 |none=>False
 |some (.error x)=>∀c da G' H',Ext G H G' H'->XRep mg x c da G' H'->E c da H'
 |some (.ok b)=>∀H',Same H H'->Q b H'
structure OwnA(G H:Hp)(n:Nat)(S:Addr->Prop)(ds:List Dt)(xs:List V)(T:Nat->Addr->Prop):Prop where
 len:xs.length=ds.length
 own:∀(q:Nat)(d:Dt)(x:V),ds[q]?=some d->xs[q]?=some x->Own G H n (T q) d x
 dis:∀q r b,T q b->T r b->q=r
 sub:∀q b,T q b->S b
def zXF(mg:Str->Option Value)(E:XK)(G H:Hp)(n:Nat)(r:R (List Dt))(Q:List V->Hp->Prop):Prop:=match r with
 |none=>False
 |some (.error x)=>∀c da G' H',Ext G H G' H'->XRep mg x c da G' H'->E c da H'
 |some (.ok ds)=>∀vs G' H' S T,Fr G H G' H' S->OwnA G' H' n S ds vs T->Q vs H'
def DE(mg:Str->Option Value)(E:XK)(t:TE)(m:EM)(n:Nat):Prop:=∀(G H:Hp)(σ:St)(ρ:Rh)(Q:VK),Same G H->View G σ ρ->PostE mg E G H n (m ρ) Q->t σ H Q
def DT(mg:Str->Option Value)(E:XK)(t:TT)(m:TM):Prop:=∀(G H:Hp)(σ:St)(ρ:Rh)(Q:Bool->Hp->Prop),Same G H->View G σ ρ->PostT mg E G H (m ρ) Q->t σ H Q
def DA(mg:Str->Option Value)(E:XK)(t:TA)(m:AM)(n:Nat):Prop:=∀(G H:Hp)(σ:St)(ρ:Rh)(Q:List V->Hp->Prop),Same G H->View G σ ρ->zXF mg E G H n (m ρ) Q->t σ H Q
structure Err(mg:Str->Option Value)(E:XK)(G H:Hp){β:Type}(P:R β->Prop):Prop where
 no:P none->False
 er:∀x,P (some (.error x))->∀c da G' H',Ext G H G' H'->XRep mg x c da G' H'->E c da H'
theorem Ext.same{G H H':Hp}(s:Same G H)(h:Same H H'):Ext G H G H':=⟨Same.refl _,h,s.trans h,fun _ _=>rfl⟩
theorem Err.from{mg:Str->Option Value}{E:XK}{G H G' H':Hp}{β:Type}{P:R β->Prop}(e:Err mg E G H P)(x:Ext G H G' H'):Err mg E G' H' P:=⟨e.no,fun y p c da G2 H2 z w=>e.er y p c da G2 H2 (x.trans z) w⟩
section
variable{mg:Str->Option Value}{E:XK}{n:Nat}
theorem errE{G H:Hp}{Q:VK}:Err mg E G H (fun r=>PostE mg E G H n r Q):=⟨fun h=>h,fun _ h=>h⟩
theorem errT{G H:Hp}{Q:Bool->Hp->Prop}:Err mg E G H (fun r=>PostT mg E G H r Q):=⟨fun h=>h,fun _ h=>h⟩
theorem errA{G H:Hp}{Q:List V->Hp->Prop}:Err mg E G H (fun r=>zXF mg E G H n r Q):=⟨fun h=>h,fun _ h=>h⟩
theorem DE.step{β:Type}{t:TE}{m:EM}(D:DE mg E t m n){G H:Hp}{σ:St}{ρ:Rh}{Q:VK}{P:R β->Prop}{f:Dt->R β}(hE:Err mg E G H P)(s:Same G H)(w:View G σ ρ)(p:P (zA3 (m ρ) f))
  (h:∀d v G' H' S,m ρ=okR d->Fr G H G' H' S->Own G' H' n S d v->P (f d)->Q v H'):t σ H Q:=by
 refine D G H σ ρ Q s w ?_;cases e:m ρ with
 |none=>rw[e]at p;exact hE.no p
 |some r=>
  rw[e]at p;cases r with
  |error x=>exact hE.er x p
  |ok d=>exact fun v G' H' S fr o=>h d v G' H' S e fr o p
theorem DT.step{β:Type}{t:TT}{m:TM}(D:DT mg E t m){G H:Hp}{σ:St}{ρ:Rh}{Q:Bool->Hp->Prop}{P:R β->Prop}{f:Bool->R β}(hE:Err mg E G H P)(s:Same G H)(w:View G σ ρ)(p:P (zA3 (m ρ) f))
  (h:∀b H',m ρ=okR b->Same H H'->P (f b)->Q b H'):t σ H Q:=by
 refine D G H σ ρ Q s w ?_;cases e:m ρ with
 |none=>rw[e]at p;exact hE.no p
 |some r=>
  rw[e]at p;cases r with
  |error x=>exact hE.er x p
  |ok b=>exact fun H' sH=>h b H' e sH p
theorem DA.step{β:Type}{t:TA}{m:AM}(D:DA mg E t m n){G H:Hp}{σ:St}{ρ:Rh}{Q:List V->Hp->Prop}{P:R β->Prop}{f:List Dt->R β}(hE:Err mg E G H P)(s:Same G H)(w:View G σ ρ)(p:P (zA3 (m ρ) f))
  (h:∀ds vs G' H' S T,m ρ=okR ds->Fr G H G' H' S->OwnA G' H' n S ds vs T->P (f ds)->Q vs H'):t σ H Q:=by
 refine D G H σ ρ Q s w ?_;cases e:m ρ with
 |none=>rw[e]at p;exact hE.no p
 |some r=>
  rw[e]at p;cases r with
  |error x=>exact hE.er x p
  |ok ds=>exact fun vs G' H' S T fr o=>h ds vs G' H' S T e fr o p
theorem PostE.from{G H G' H':Hp}{Q:VK}{r:R Dt}(p:PostE mg E G H n r Q)(x:Ext G H G' H'):PostE mg E G' H' n r Q:=by
 cases r with
 |none=>exact p
 |some r=>
  cases r with
  |error y=>exact fun c da G2 H2 z w=>p c da G2 H2 (x.trans z) w
  |ok d=>
   exact fun v G2 H2 S fr o=>p v G2 H2 S ⟨x.trans fr.ext,fun a ha=>⟨x.h.free (fr.new a ha).1,(fr.new a ha).2⟩⟩ o
theorem PostT.from{G H G' H':Hp}{Q:Bool->Hp->Prop}{r:R Bool}(p:PostT mg E G H r Q)(x:Ext G H G' H'):PostT mg E G' H' r Q:=by
 cases r with
 |none=>exact p
 |some r=>
  cases r with
  |error y=>exact fun c da G2 H2 z w=>p c da G2 H2 (x.trans z) w
  |ok d=>exact fun H2 s=>p H2 (x.h.trans s)
theorem Fr.from{G H G1 H1 G2 H2:Hp}{S:Addr->Prop}(x:Ext G H G1 H1)(f:Fr G1 H1 G2 H2 S):Fr G H G2 H2 S:=⟨x.trans f.ext,fun a ha=>⟨x.h.free (f.new a ha).1,(f.new a ha).2⟩⟩
theorem PostE.val{G H G' H':Hp}{d:Dt}{v:V}{Q:VK}(p:PostE mg E G H n (okR d) Q)(x:Ext G H G' H')(hd:d.dep=0)(h:Rep G' d v):Q v H':=
 p v G' H' (fun _=>False) ⟨x,fun _ z=>z.elim⟩ (zW9 h hd)
theorem PostE.kept{G H G' H':Hp}{d:Dt}{v:V}{Q:VK}(p:PostE mg E G H 0 (okR d) Q)(x:Ext G H G' H')(h:Rep G' d v):Q v H':=
 p v G' H' (fun _=>False) ⟨x,fun _ z=>z.elim⟩ h
theorem zB7{t:TE}{m:EM}{n:Nat}(D:DE mg E t m n):DE mg E t m 0:=by
 intro G H σ ρ Q s w p;refine D G H σ ρ Q s w ?_;cases e:m ρ with
 |none=>rw[e]at p;exact p
 |some r=>
  rw[e]at p;cases r with
  |error x=>exact p
  |ok d=>
   intro v G' H' S fr o;obtain⟨x,r⟩:=fr.frz o;exact PostE.kept p x r
end
end L3
namespace L3
open PySem PySem.Spec
open L2 hiding Rep RepL
open Mi (Dt Xn R okR zA3 optR zA0 zA8 zAG zA9 zAE Rh Sl Ro EM TM AM FM IM SM Tg Out zAT zB3 zB1 full frz frz1 frzAt)
section
variable[Kc]{mg:Str->Option Value}{E:XK}{n k l:Nat}{ta tb tc:TE}{ma mb mc:EM}
theorem zAB{i:Int}:DE mg E (tC (.int i)) (Mi.eC (.int i)) n:=fun G H σ ρ Q s w p=>PostE.val p (Ext.refl s) rfl rfl
theorem zS7{b:Bool}:DE mg E (tC (.bl b)) (Mi.eC (.bl b)) n:=fun G H σ ρ Q s w p=>PostE.val p (Ext.refl s) rfl rfl
theorem zDJ{x:Str}:DE mg E (tC (.str x)) (Mi.eC (.str x)) n:=fun G H σ ρ Q s w p=>PostE.val p (Ext.refl s) rfl rfl
theorem de_v(i:Nat):DE mg E (vM i) (Mi.eV i) 0:=by
 intro G H σ ρ Q s w p;unfold Mi.eV at p;cases e:ρ[i]? with
 |none=>rw[e]at p;exact p.elim
 |some o=>
  rw[e]at p;cases o with
  |none=>exact p.elim
  |some d=>
   obtain⟨v,h1,h2⟩:=w.at i d e;unfold vM;rw[h1];exact PostE.kept p (Ext.refl s) h2
def ROp(r:R2)(f:Dt->Dt->Option Dt)(n:Nat):Prop:=∀(mg:Str->Option Value)(E:XK)(G H:Hp)(d e:Dt)(x y:V)(Q:VK),Same G H->Rep G d x->Rep G e y->PostE mg E G H n (optR (f d e)) Q->r x y H Q
theorem zAC{r:R2}{f:Dt->Dt->Option Dt}(hr:ROp r f n)(A:DE mg E ta ma k)(B:DE mg E tb mb l):DE mg E (tOp r ta tb) (Mi.eB f ma mb) n:=by
 intro G H σ ρ Q s w p;refine(zB7 A).step errE s w p fun d v G1 H1 S _ fr o p1=>?_
 refine(zB7 B).step (errE.from fr.ext) fr.ext.in' (w.mono fr.ext.g) p1 fun e u G2 H2 S2 _ fr2 o2 p2=>?_
 exact hr mg E G2 H2 d e v u Q fr2.ext.in' (Rep.mono fr2.ext.g o) o2 (PostE.from p2 (fr.ext.trans fr2.ext))
def ROp1(r:V->Hp->VK->Prop)(f:Dt->Option Dt)(n:Nat):Prop:=∀(mg:Str->Option Value)(E:XK)(G H:Hp)(d:Dt)(x:V)(Q:VK),Same G H->Rep G d x->PostE mg E G H n (optR (f d)) Q->r x H Q
theorem zUZ{r:V->Hp->VK->Prop}{f:Dt->Option Dt}(hr:ROp1 r f n)(A:DE mg E ta ma k):DE mg E (tUn r ta) (Mi.eU f ma) n:=by
 intro G H σ ρ Q s w p;refine(zB7 A).step errE s w p fun d v G1 H1 S _ fr o p1=>?_
 exact hr mg E G1 H1 d v Q fr.ext.in' o (PostE.from p1 fr.ext)
theorem de_and(A:DE mg E ta ma k)(B:DE mg E tb mb n):DE mg E (fun σ H Q=>ta σ H fun x H1=>match x with | .bl c=>if c=true then tb σ H1 Q else Q (.bl false) H1|_=>False) (Mi.eAnd ma mb) n:=by
 intro G H σ ρ Q s w p;refine(zB7 A).step errE s w p fun d v G1 H1 S _ fr o p1=>?_
 cases d with
 |bl b=>
  cases(show v=.bl b from o)
  cases b with
  |true=>exact B G1 H1 σ ρ Q fr.ext.in' (w.mono fr.ext.g) (PostE.from p1 fr.ext)
  |false=>exact PostE.val (PostE.from p1 fr.ext) (Ext.refl fr.ext.in') rfl rfl
 |_=>exact p1.elim
theorem dt_b(A:DE mg E ta ma k):DT mg E (fun σ H Q=>ta σ H fun z H3=>match z with | .bl k=>Q k H3|_=>False) (Mi.tB ma):=by
 intro G H σ ρ Q s w p;refine(zB7 A).step errT s w p fun d v G1 H1 S _ fr o p1=>?_
 cases d with
 |bl b=>
  cases(show v=.bl b from o)
  exact p1 H1 fr.ext.h
 |_=>exact p1.elim
theorem dt_m(A:DE mg E ta ma k):DT mg E (bM ta) (Mi.tM ma):=by
 intro G H σ ρ Q s w p;refine(zB7 A).step errT s w p fun d v G1 H1 S _ fr o p1=>?_
 cases d with
 |bl b=>cases(show v=.bl b from o);exact p1 H1 fr.ext.h
 |int b=>cases(show v=.int b from o);exact p1 H1 fr.ext.h
 |non=>cases(show v=.non from o);exact p1 H1 fr.ext.h
 |_=>exact p1.elim
variable{tA tB:TT}{cA cB:TM}
theorem zT2(A:DT mg E tA cA)(B:DT mg E tB cB):DT mg E (L2.tAnd tA tB) (Mi.tAn cA cB):=by
 intro G H σ ρ Q s w p;refine A.step errT s w p fun b H' _ sH p1=>?_
 cases b with
 |true=>exact B G H' σ ρ Q (s.trans sH) w (PostT.from p1 (Ext.same s sH))
 |false=>exact p1 H' sH
theorem zS2(A:DT mg E tA cA)(B:DT mg E tB cB):DT mg E (L2.tOr tA tB) (Mi.tOr cA cB):=by
 intro G H σ ρ Q s w p;refine A.step errT s w p fun b H' _ sH p1=>?_
 cases b with
 |false=>exact B G H' σ ρ Q (s.trans sH) w (PostT.from p1 (Ext.same s sH))
 |true=>exact p1 H' sH
theorem zPT(A:DT mg E tA cA):DT mg E (L2.tNot tA) (Mi.tNo cA):=by
 intro G H σ ρ Q s w p;exact A.step errT s w p fun b H' _ sH p1=>p1 H' sH
variable{t:TA}{m:AM}
theorem zAF:DA mg E tNil Mi.aNil n:=fun G H σ ρ Q s w p=>p [] G H (fun _=>False) (fun _ _=>False) ⟨Ext.refl s,fun _ z=>z.elim⟩ ⟨rfl,fun q d x h=>by simp at h,fun _ _ _ z=>z.elim,fun _ _ z=>z.elim⟩
theorem zA2(A:DE mg E ta ma n)(B:DA mg E t m n):DA mg E (zEV ta t) (Mi.aCons ma m) n:=by
 intro G H σ ρ Q s w p;refine A.step errA s w p fun d v G1 H1 S1 _ fr o p1=>?_
 refine B.step (errA.from fr.ext) fr.ext.in' (w.mono fr.ext.g) p1 fun ds vs G2 H2 S2 T2 _ fr2 o2 p2=>?_
 refine p2 (v::vs) G2 H2 (fun a=>S1 a\/S2 a) (fun q=>match q with|0=>S1|q+1=>T2 q) ⟨fr.ext.trans fr2.ext,fun a ha=>?_⟩ ⟨by simp[o2.len],fun q d' x h1 h2=>?_,fun q r b h1 h2=>?_,fun q b h=>?_⟩
 ·rcases ha with ha|ha
  ·obtain⟨n1,n2,n3⟩:=fr.new a ha;exact⟨n1,(fr2.ext.old a n3).trans n2,fr2.ext.h.some n3⟩
  ·obtain⟨n1,n2,n3⟩:=fr2.new a ha;exact⟨fr.ext.h.free n1,n2,n3⟩
 ·cases q with
  |zero=>simp at h1 h2;subst h1;subst h2;exact o.mono fr2.ext.g fr2.ext.h
  |succ q=>exact o2.own q d' x (by simpa using h1) (by simpa using h2)
 ·have ap:∀r b,S1 b->T2 r b->False:=fun r b h1 h2=>(fr.new b h1).2.2 (fr2.new b (o2.sub r b h2)).1
  cases q with
  |zero=>
   cases r with
   |zero=>rfl
   |succ r=>exact(ap r b h1 h2).elim
  |succ q=>
   cases r with
   |zero=>exact(ap q b h2 h1).elim
   |succ r=>rw[o2.dis q r b h1 h2]
 ·cases q with
  |zero=>exact .inl h
  |succ q=>exact .inr (o2.sub q b h)
theorem OwnA.repL{G H:Hp}{S:Addr->Prop}{ds:List Dt}{vs:List V}{T:Nat->Addr->Prop}(o:OwnA G H 0 S ds vs T):RepL G ds vs:=zFJ o.len fun q d x h1 h2=>o.own q d x h1 h2
theorem big'{n:Nat}(h:n<=100000):n<=sizeLine:=qCj (L2.big h)
theorem Fr.add{G H G' H':Hp}{S:Addr->Prop}(f:Fr G H G' H' S){p:Addr}(hp:H' p=none)(o:HO):Fr G H G' (upd H' p o) (fun a=>a=p\/S a):=by
 have sn:=L2.same_new hp o;refine⟨⟨f.ext.g,f.ext.h.trans sn,f.ext.in'.trans sn,f.ext.old⟩,fun a ha=>?_⟩
 rcases ha with rfl|ha
 ·exact⟨f.ext.h.free hp,f.ext.in'.free hp,by rw[zAD];simp⟩
 ·obtain⟨n1,n2,n3⟩:=f.new a ha;exact⟨n1,n2,sn.some n3⟩
theorem OwnA.kids{G' H':Hp}{S:Addr->Prop}{ds:List Dt}{vs:List V}{T:Nat->Addr->Prop}(o:OwnA G' H' n S ds vs T)(hn:∀a,S a->H' a≠none){p:Addr}(hp:H' p=none)(ob:HO) :
  Kids (Own G' (upd H' p ob) n) (fun a=>a=p\/S a) p ds vs T:=
 ⟨o.len,fun q d x h1 h2=>(o.own q d x h1 h2).mono (Same.refl _) (L2.same_new hp ob),.inl rfl,fun q z=>hn p (o.sub q p z) hp,o.dis,fun q b z=>.inr (o.sub q b z)⟩
theorem zGU(A:DA mg E t m n):DE mg E (tLst t) (Mi.eLst m) (n+1):=by
 intro G H σ ρ Q s w p;refine A.step errE s w p fun ds vs G1 H1 S T _ fr o p1=>?_
 by_cases hz:ds.length<=100000
 ·rw[if_pos hz]at p1;refine⟨by rw[o.len];exact big' hz,fun a ha=>?_⟩;exact p1 (.ref a) G1 _ _ (fr.add ha _) ⟨a,vs,T,rfl,zAD,o.kids (fun b hb=>(fr.new b hb).2.2) ha _⟩
 ·rw[if_neg hz]at p1;exact p1.elim
theorem zCZ(A:DA mg E t m n):DE mg E (tTup t) (Mi.eTup m) (n+1):=by
 intro G H σ ρ Q s w p;refine A.step errE s w p fun ds vs G1 H1 S T _ fr o p1=>?_
 by_cases hz:ds.length<=100000
 ·rw[if_pos hz]at p1;refine⟨by rw[o.len];exact big' hz,fun a ha=>?_⟩;exact p1 (.ref a) G1 _ _ (fr.add ha _) ⟨a,vs,T,rfl,zAD,o.kids (fun b hb=>(fr.new b hb).2.2) ha _⟩
 ·rw[if_neg hz]at p1;exact p1.elim
theorem PostE.lst{G H G' H':Hp}{ds:List Dt}{xs:List V}{Q:VK}(p:PostE mg E G H 1 (okR (.lst ds)) Q)(x:Ext G H G' H')(r:RepL G' ds xs){a:Addr}(ha:H' a=none):Q (.ref a) (upd H' a (.lst xs)):=by
 have fr:Fr G H G' H' (fun _=>False):=⟨x,fun _ z=>z.elim⟩
 refine p (.ref a) G' _ _ (fr.add ha (.lst xs)) ⟨a,xs,fun _ _=>False,rfl,zAD,⟨r.length,fun q d y h1 h2=>zCG r h1 h2,.inl rfl,fun _ z=>z,fun _ _ _ z=>z.elim,fun _ _ z=>z.elim⟩⟩
def CBi(r:List V->Hp->VK->Prop)(f:List Dt->Option Dt)(n:Nat):Prop:=∀(mg:Str->Option Value)(E:XK)(G H:Hp)(ds:List Dt)(vs:List V)(Q:VK),Same G H->RepL G ds vs->PostE mg E G H n (optR (f ds)) Q->r vs H Q
theorem zFP{r:List V->Hp->VK->Prop}{f:List Dt->Option Dt}(hr:CBi r f n)(A:DA mg E t m 0):DE mg E (tCB r t) (Mi.eBi f m) n:=by
 intro G H σ ρ Q s w p;refine A.step errE s w p fun ds vs G1 H1 S T _ fr o p1=>?_
 exact hr mg E G1 H1 ds vs Q fr.ext.in' o.repL (PostE.from p1 fr.ext)
def spM(mg:Str->Option Value)(L:Nat)(f:FM):Sp:=fun vs H Q E=>∃G ds,Same (tabK Kc.K) G/\Same G H/\RepL G ds vs/\PostE mg E G H L (f ds) Q
theorem zC1{f:FM}(A:DA mg E t m 0):DE mg E (zL2 (spM mg n f) [] E t) (Mi.eCall f m) n:=by
 intro G H σ ρ Q s w p;refine A.step errE s w p fun ds vs G1 H1 S T _ fr o p1=>?_
 exact⟨G1,ds,w.tab.trans fr.ext.g,fr.ext.in',by rw[qBw];exact o.repL,PostE.from p1 fr.ext⟩
theorem zR3{G H:Hp}{o:Option Dt}{Q:VK}{d:Dt}{v:V}(s:Same G H)(p:PostE mg E G H n (optR o) Q)(e:o=some d)(hd:d.dep=0)(h:Rep G d v):Q v H:=by
 subst e;exact PostE.val p (Ext.refl s) hd h
theorem zAM:ROp zW3 Mi.addD 1:=by
 intro mg E G H d e x y Q s h1 h2 p;cases d with
 |int i=>
  cases e with
  |int j=>cases(show x=.int i from h1);cases(show y=.int j from h2);exact zR3 s p rfl rfl rfl
  |_=>exact p.elim
 |str i=>
  cases e with
  |str j=>
   cases(show x=.str i from h1);cases(show y=.str j from h2)
   rw[Mi.addD]at p
   by_cases hz:i.length+j.length<=100000
   ·rw[if_pos hz]at p;exact⟨big' hz,PostE.val p (Ext.refl s) rfl rfl⟩
   ·rw[if_neg hz]at p;exact p.elim
  |_=>exact p.elim
 |lst ds=>
  cases e with
  |lst es=>
   obtain⟨a,xs,rfl,ha,ra⟩:=h1;obtain⟨b,ys,rfl,hb,rb⟩:=h2;rw[Mi.addD]at p
   by_cases hz:ds.length+es.length<=100000
   ·rw[if_pos hz]at p;refine⟨xs,ys,s _ _ ha,s _ _ hb,by rw[ra.length,rb.length];exact big' hz,fun q hq=>?_⟩;refine PostE.lst p (Ext.refl s) (zFJ (by simp[ra.length,rb.length]) fun j d' x' e1 e2=>?_) hq
    by_cases hj:j<ds.length
    ·rw[qAa hj]at e1;rw[qAa (by rw[ra.length];exact hj)]at e2;exact zCG ra e1 e2
    ·rw[qA8 (by lia)]at e1;rw[qA8 (by rw[ra.length];lia),ra.length]at e2;exact zCG rb e1 e2
   ·rw[if_neg hz]at p;exact p.elim
  |_=>exact p.elim
 |_=>exact p.elim
theorem zSF:ROp zVT Mi.subD n:=by
 intro mg E G H d e x y Q s h1 h2 p;cases d with
 |int i=>
  cases e with
  |int j=>cases(show x=.int i from h1);cases(show y=.int j from h2);exact zR3 s p rfl rfl rfl
  |_=>exact p.elim
 |_=>exact p.elim
theorem zGB:ROp zVY Mi.mulD n:=by
 intro mg E G H d e x y Q s h1 h2 p;cases d with
 |int i=>
  cases e with
  |int j=>
   cases(show x=.int i from h1);cases(show y=.int j from h2)
   rw[Mi.mulD]at p
   split at p
   ·rename_i hz;exact⟨hz,PostE.val p (Ext.refl s) rfl rfl⟩
   ·exact p.elim
  |_=>exact p.elim
 |_=>exact p.elim
theorem zHH:ROp zW1 Mi.divD n:=by
 intro mg E G H d e x y Q s h1 h2 p;cases d with
 |int i=>
  cases e with
  |int j=>
   cases(show x=.int i from h1);cases(show y=.int j from h2)
   rw[Mi.divD]at p
   split at p
   ·rename_i hz;exact⟨hz,PostE.val p (Ext.refl s) rfl rfl⟩
   ·exact p.elim
  |_=>exact p.elim
 |_=>exact p.elim
theorem zC2:ROp zVZ Mi.modD n:=by
 intro mg E G H d e x y Q s h1 h2 p;cases d with
 |int i=>
  cases e with
  |int j=>
   cases(show x=.int i from h1);cases(show y=.int j from h2)
   rw[Mi.modD]at p
   split at p
   ·rename_i hz;exact⟨hz,PostE.val p (Ext.refl s) rfl rfl⟩
   ·exact p.elim
  |_=>exact p.elim
 |_=>exact p.elim
theorem zOJ:ROp1 zVX Mi.negD n:=by
 intro mg E G H d x Q s h1 p;cases d with
 |int i=>cases(show x=.int i from h1);exact zR3 s p rfl rfl rfl
 |_=>exact p.elim
theorem zSH{q:Int->Int->Bool}:ROp (zU0 q) (Mi.cmpD q) n:=by
 intro mg E G H d e x y Q s h1 h2 p;cases d with
 |int i=>
  cases e with
  |int j=>cases(show x=.int i from h1);cases(show y=.int j from h2);exact zR3 s p rfl rfl rfl
  |_=>exact p.elim
 |_=>exact p.elim
theorem zSX{G H:Hp}{d e:Dt}{x y:V}{Q:VK}{ng:Bool}(s:Same G H)(h1:Rep G d x)(h2:Rep G e y)(hd:d.dep<=40)(he:e.dep<=40)(q:Q (.bl (if ng then !Dt.eq d e else Dt.eq d e)) H) :
  ∃d' e',L2.Rep H d' x/\L2.Rep H e' y/\d'.dep<=40/\Q (.bl (if ng then !L2.Dat.eq d' e' else L2.Dat.eq d' e')) H:=
 ⟨conv d,conv e,zE1 hd (Rep.mono s h1),zE1 he (Rep.mono s h2),qAr (zF9 hd) hd,by rw[zLL hd he];exact q⟩
theorem zFQ{α:Type}[DecidableEq α](a b:α):(a==b)=decide (a=b):=by
 by_cases h:a=b
 ·subst h;simp
 ·simp[h]
theorem zID{G:Hp}{d:Dt}{i:Int}(h:Rep G d (.int i)):d=.int i:=by
 cases d with
 |int k=>cases h;rfl
 |non=>cases h
 |bl _=>cases h
 |str _=>cases h
 |lst _=>obtain⟨_,_,z,_⟩:=h;cases z
 |tup _=>obtain⟨_,_,z,_⟩:=h;cases z
 |scr _=>obtain⟨_,z,_⟩:=h;cases z
 |exc _ _ _=>obtain⟨_,_,_,z,_⟩:=h;cases z
 |fn _ _=>obtain⟨_,z,_⟩:=h;cases z
 |ins _ _=>obtain⟨_,_,_,z,_⟩:=h;cases z
 |dct _=>obtain⟨_,z,_⟩:=h;cases z
theorem zIC{G:Hp}{d:Dt}{i:Str}(h:Rep G d (.str i)):d=.str i:=by
 cases d with
 |str k=>cases h;rfl
 |non=>cases h
 |bl _=>cases h
 |int _=>cases h
 |lst _=>obtain⟨_,_,z,_⟩:=h;cases z
 |tup _=>obtain⟨_,_,z,_⟩:=h;cases z
 |scr _=>obtain⟨_,z,_⟩:=h;cases z
 |exc _ _ _=>obtain⟨_,_,_,z,_⟩:=h;cases z
 |fn _ _=>obtain⟨_,z,_⟩:=h;cases z
 |ins _ _=>obtain⟨_,_,_,z,_⟩:=h;cases z
 |dct _=>obtain⟨_,z,_⟩:=h;cases z
theorem zMB{G:Hp}{d:Dt}{i:Bool}(h:Rep G d (.bl i)):d=.bl i:=by
 cases d with
 |bl k=>cases h;rfl
 |non=>cases h
 |str _=>cases h
 |int _=>cases h
 |lst _=>obtain⟨_,_,z,_⟩:=h;cases z
 |tup _=>obtain⟨_,_,z,_⟩:=h;cases z
 |scr _=>obtain⟨_,z,_⟩:=h;cases z
 |exc _ _ _=>obtain⟨_,_,_,z,_⟩:=h;cases z
 |fn _ _=>obtain⟨_,z,_⟩:=h;cases z
 |ins _ _=>obtain⟨_,_,_,z,_⟩:=h;cases z
 |dct _=>obtain⟨_,z,_⟩:=h;cases z
theorem zJN:ROp rEqU Mi.eqD n:=by
 intro mg E G H d e x y Q s h1 h2 p;unfold Mi.eqD at p
 split at p
 ·rename_i hz
  have q:Q (.bl (Dt.eq d e)) H:=PostE.val p (Ext.refl s) rfl rfl;have g:=zSX (ng:=false) (Q:=Q) s h1 h2 hz.1 hz.2 q;unfold rEqU
  split
  ·rw[zID h1,zID h2,Dt.eq,zFQ]at q;exact q
  ·rw[zIC h1,zIC h2,Dt.eq,zFQ]at q;exact q
  ·rw[zMB h1,zMB h2,Dt.eq,zFQ]at q;exact q
  ·exact g
 ·exact p.elim
theorem zL9:ROp rNeU Mi.neD n:=by
 intro mg E G H d e x y Q s h1 h2 p;unfold Mi.neD at p
 split at p
 ·rename_i hz
  have q:Q (.bl (!Dt.eq d e)) H:=PostE.val p (Ext.refl s) rfl rfl;have g:=zSX (ng:=true) (Q:=Q) s h1 h2 hz.1 hz.2 q;unfold rNeU
  split
  ·rw[zID h1,zID h2,Dt.eq,zFQ]at q;exact q
  ·rw[zIC h1,zIC h2,Dt.eq,zFQ]at q;exact q
  ·rw[zMB h1,zMB h2,Dt.eq,zFQ]at q;exact q
  ·exact g
 ·exact p.elim
theorem zSS{α:Type}(xs:List α)(i:Int):Mi.itA xs i=atI xs i:=rfl
theorem zTB{G:Hp}{ds:List Dt}{xs:List V}{i:Int}{d:Dt}(r:RepL G ds xs)(h:Mi.itA ds i=some d):∃x,atI xs i=some x/\Rep G d x:=by
 rw[zSS]at h;unfold atI at h ⊢;rw[r.length];cases e:ixN ds.length i with
 |none=>rw[e]at h;cases h
 |some j=>
  rw[e]at h;have h':ds[j]?=some d:=h;have hj:j<xs.length:=by rw[r.length];exact(qA3.mp h').1
  exact⟨xs[j],by simp[hj],zCG r h' (by simp[hj])⟩
theorem zBI:ROp (rIxU Kc.K) Mi.ixD 0:=by
 intro mg E G H d e x y Q s h1 h2 p;cases e with
 |int i=>
  cases(show y=.int i from h2)
  cases d with
  |lst ds=>
   obtain⟨a,xs,rfl,ha,ra⟩:=h1;cases er:Mi.itA ds i with
   |none=>rw[Mi.ixD,er]at p;exact p.elim
   |some c=>
    rw[Mi.ixD,er]at p;obtain⟨v,e1,r1⟩:=zTB ra er;exact⟨xs,v,.inl (SqL.of (s _ _ ha)),e1,PostE.kept p (Ext.refl s) r1⟩
  |tup ds=>
   obtain⟨a,xs,rfl,ha,ra⟩:=h1;cases er:Mi.itA ds i with
   |none=>rw[Mi.ixD,er]at p;exact p.elim
   |some c=>
    rw[Mi.ixD,er]at p;obtain⟨v,e1,r1⟩:=zTB ra er;exact⟨xs,v,.inr (SqT.of (s _ _ ha)),e1,PostE.kept p (Ext.refl s) r1⟩
  |scr ns=>
   obtain⟨a,rfl,ha⟩:=h1;cases er:Mi.itA ns i with
   |none=>rw[Mi.ixD,er]at p;exact p.elim
   |some c=>
    rw[Mi.ixD,er]at p;refine⟨ns.map V.int,.int c,zG8 s ha,?_,PostE.kept p (Ext.refl s) rfl⟩;rw[zSS]at er;unfold atI at er ⊢;rw[qAq];cases e:ixN ns.length i with
    |none=>rw[e]at er;cases er
    |some j=>
     rw[e]at er;have er':ns[j]?=some c:=er
     show(ns.map V.int)[j]?=some (.int c)
     rw[qAn,er'];rfl
  |str z=>
   cases(show x=.str z from h1)
   rw[Mi.ixD]at p
   by_cases hz:z.length<=100000
   ·rw[if_pos hz]at p;cases er:Mi.itA z.cps.toList i with
    |none=>rw[er]at p;exact p.elim
    |some c=>rw[er]at p;exact⟨c,big' hz,er,PostE.kept p (Ext.refl s) rfl⟩
   ·rw[if_neg hz]at p;exact p.elim
  |_=>exact p.elim
 |_=>cases d<;>exact p.elim
theorem zFU{G:Hp}{d:Dt}{vs:List V}(h:RepL G [d] vs):∃x,vs=[x]/\Rep G d x:=by
 obtain⟨x,q,rfl,a,b⟩:=h
 cases(show q=[] from b)
 exact⟨x,rfl,a⟩
theorem zXU{G:Hp}{d e:Dt}{vs:List V}(h:RepL G [d,e] vs):∃x y,vs=[x,y]/\Rep G d x/\Rep G e y:=by
 obtain⟨x,q,rfl,a,b⟩:=h;obtain⟨y,rfl,c⟩:=zFU b;exact⟨x,y,rfl,a,c⟩
theorem zDS:CBi (zTZ Kc.K) Mi.lenD n:=by
 intro mg E G H ds vs Q s h p;cases ds with
 |nil=>exact p.elim
 |cons a0 r0=>
  cases r0 with
  |cons _ _=>cases a0<;>exact p.elim
  |nil=>
   cases a0 with
   |lst es=>
    obtain⟨x,rfl,a,xs,rfl,ha,ra⟩:=zFU h;exact⟨xs,.inl (SqL.of (s _ _ ha)),by rw[ra.length];exact PostE.val p (Ext.refl s) rfl rfl⟩
   |tup es=>
    obtain⟨x,rfl,a,xs,rfl,ha,ra⟩:=zFU h;exact⟨xs,.inr (SqT.of (s _ _ ha)),by rw[ra.length];exact PostE.val p (Ext.refl s) rfl rfl⟩
   |scr ns=>
    obtain⟨x,rfl,a,rfl,ha⟩:=zFU h;refine⟨ns.map V.int,zG8 s ha,?_⟩;rw[qAq];exact PostE.val p (Ext.refl s) rfl rfl
   |str z=>
    obtain⟨x,rfl,hx⟩:=zFU h
    cases(show x=.str z from hx)
    rw[Mi.lenD]at p
    by_cases hz:z.length<=100000
    ·rw[if_pos hz]at p;exact⟨big' hz,PostE.val p (Ext.refl s) rfl rfl⟩
    ·rw[if_neg hz]at p;exact p.elim
   |_=>exact p.elim
theorem zD4{G:Hp}:∀(ns:List Int),RepL G (ns.map Dt.int) (ns.map V.int)
 |[]=>rfl
 |_::r=>⟨_,_,rfl,rfl,zD4 r⟩
end
end L3
namespace L3
open PySem PySem.Spec
open L2 hiding Rep RepL
open Mi (Dt Xn R okR zA3 optR zA0 zA8 zAG zA9 zAE Rh Sl Ro EM TM AM FM IM SM Tg Out zAT zB3 zB1 full frz frz1 frzAt)
variable[Kc]
def ItOk(J:It)(G:Hp)(ds:List Dt):Prop:=∀(i:Nat)(G1 H1:Hp),Same G G1->Same G1 H1->(i<ds.length->J.go i H1)/\(ds.length<=i->J.stop i H1)/\∀x H2 d,ds[i]?=some d->J.yld i H1 x H2->∃G2,Ext G1 H1 G2 H2/\Rep G2 d x
noncomputable def zQF(ind:Bool)(G:Hp):Hp:=if ind=true then(fun _=>none)else G
def zXE(mg:Str->Option Value)(E:XK)(G H:Hp)(ind:Bool)(r:R (List Dt))(Q:It->Hp->Prop):Prop:=match r with
 |none=>False
 |some (.error x)=>∀c da G' H',Ext G H G' H'->XRep mg x c da G' H'->E c da H'
 |some (.ok ds)=>∀J G' H',Ext G H G' H'->ItOk J (zQF ind G') ds->Q J H'
def DI(mg:Str->Option Value)(E:XK)(t:TI)(m:IM)(ind:Bool):Prop:=∀(G H:Hp)(σ:St)(ρ:Rh)(Q:It->Hp->Prop),Same G H->View G σ ρ->zXE mg E G H ind (m ρ) Q->t σ H Q
section
variable{mg:Str->Option Value}{E:XK}{n k l:Nat}{ta te:TE}{ma me:EM}{t:TA}{m:AM}{ind:Bool}
theorem errI{G H:Hp}{Q:It->Hp->Prop}:Err mg E G H (fun r=>zXE mg E G H ind r Q):=⟨fun h=>h,fun _ h=>h⟩
theorem errB{G H:Hp}{α β:Type}{P:R β->Prop}(e:Err mg E G H P)(g:α->R β):Err mg E G H (fun r=>P (zA3 r g)):=⟨fun h=>e.no h,fun x h=>e.er x h⟩
theorem DI.step{β:Type}{t:TI}{m:IM}(D:DI mg E t m ind){G H:Hp}{σ:St}{ρ:Rh}{Q:It->Hp->Prop}{P:R β->Prop}{f:List Dt->R β}(hE:Err mg E G H P)(s:Same G H)(w:View G σ ρ)(p:P (zA3 (m ρ) f))
  (h:∀ds J G' H',m ρ=okR ds->Ext G H G' H'->ItOk J (zQF ind G') ds->P (f ds)->Q J H'):t σ H Q:=by
 refine D G H σ ρ Q s w ?_;cases e:m ρ with
 |none=>rw[e]at p;exact hE.no p
 |some r=>
  rw[e]at p;cases r with
  |error x=>exact hE.er x p
  |ok ds=>exact fun J G' H' x i=>h ds J G' H' e x i p
theorem zSR{K:qA0}{G:Hp}{a:Addr}{xs:List V}{ds:List Dt}(ha:SqL K G a xs)(r:RepL G ds xs):ItOk (Itl K a) G ds:=by
 intro i G1 H1 s1 s2;have hS:SqL K H1 a xs:=(s1.trans s2).seq ha;refine⟨fun hi=>⟨xs,xs[i]'(by rw[r.length];exact hi),hS,by simp⟩,fun hi=>⟨xs,hS,by rw[r.length];exact hi⟩,fun x H2 d hd hy=>?_⟩;obtain⟨rfl,hy⟩:=hy;exact⟨G1,Ext.refl s2,Rep.mono s1 (zCG r hd (hy xs hS))⟩
theorem zSQ{K:qA0}{G:Hp}{a:Addr}{xs:List V}{ds:List Dt}(ha:SqT K G a xs)(r:RepL G ds xs):ItOk (Itt K a) G ds:=by
 intro i G1 H1 s1 s2;have hS:SqT K H1 a xs:=zG7 (s1.trans s2) ha;refine⟨fun hi=>⟨xs,xs[i]'(by rw[r.length];exact hi),hS,by simp⟩,fun hi=>⟨xs,hS,by rw[r.length];exact hi⟩,fun x H2 d hd hy=>?_⟩;obtain⟨rfl,hy⟩:=hy;exact⟨G1,Ext.refl s2,Rep.mono s1 (zCG r hd (hy xs hS))⟩
theorem zWX{G:Hp}(lo:Int)(k:Nat):ItOk (Itr lo k) G (Mi.nums lo k):=by
 intro i G1 H1 s1 s2;have hl:(Mi.nums lo k).length=k:=by simp[Mi.nums]
 refine⟨fun hi=>by rw[hl]at hi;exact hi,fun hi=>by rw[hl]at hi;exact hi,fun x H2 d hd hy=>?_⟩;obtain⟨rfl,rfl⟩:=hy;refine⟨G1,Ext.refl s2,?_⟩;unfold Mi.nums at hd;rw[qAn]at hd;cases e:(qAe k)[i]? with
 |none=>rw[e]at hd;cases hd
 |some j=>
  rw[e]at hd;cases hd;have hj:j=i:=by
   obtain⟨h1,h2⟩:=qA3.mp e;rw[qCe]at h2;exact h2.symm
  subst hj;rfl
theorem zUY(A:DA mg E t m 0):DI mg E (zX1 t) (Mi.iR1 m) true:=by
 intro G H σ ρ Q s w p;refine A.step errI s w p fun ds vs G1 H1 S T _ fr o p1=>?_
 have r:=o.repL;cases ds with
 |nil=>exact qA6 p1
 |cons hd1 tl1=>
  cases hd1 with
  |int j=>
   cases tl1 with
   |nil=>
    obtain⟨x,rfl,hx⟩:=zFU r
    cases(show x=.int j from hx)
    dsimp only at p1
    split at p1
    ·rename_i hz
     exact⟨j,rfl,by lia,by lia,p1 _ G1 H1 fr.ext (zWX 0 _)⟩
    ·exact p1.elim
   |cons _ _=>exact qA6 p1
  |_=>exact qA6 p1
theorem zGO:∀(ds:List Dt)(n:Nat),(Mi.enumD n ds).length=ds.length
 |[],_=>rfl
 |_::r,n=>by rw[Mi.enumD,qAp,qAp,zGO r]
theorem zGP:∀(ds:List Dt)(n i:Nat)(d:Dt),(Mi.enumD n ds)[i]?=some d->∃e,ds[i]?=some e/\d=.tup [.int ((n+i:Nat):Int),e]
 |[],_,_,_,h=>by simp[Mi.enumD]at h
 |x::r,n,0,d,h=>by simp[Mi.enumD]at h;exact⟨x,by simp,by rw[<- h];rfl⟩
 |x::r,n,i+1,d,h=>by
  rw[Mi.enumD]at h;obtain⟨e,h1,h2⟩:=zGP r (n+1) i d (by simpa using h);exact⟨e,by simpa using h1,by rw[h2,show n+1+i=n+(i+1) by lia]⟩
theorem Ext.new{G H:Hp}(s:Same G H){T:Addr}(hT:H T=none)(o:HO):Ext G H (upd G T o) (upd H T o):=by
 refine⟨L2.same_new (s.free hT) o,L2.same_new hT o,fun b u e=>?_,fun b hb=>zA6 fun z=>hb (z▸hT)⟩
 by_cases z:b=T
 ·subst z;rw[zAD]at e ⊢;exact e
 ·rw[zA6 z]at e ⊢;exact s _ _ e
theorem zWY{K:qA0}{G:Hp}{a:Addr}{xs:List V}{ds:List Dt}(ha:G a=some (.lst xs))(r:RepL G ds xs):ItOk (Ite K a) G (Mi.enumD 0 ds):=by
 intro i G1 H1 s1 s2;have hS:SqL K H1 a xs:=SqL.of (s2 _ _ (s1 _ _ ha));rw[zGO];refine⟨fun hi=>⟨xs,xs[i]'(by rw[r.length];exact hi),hS,by simp⟩,fun hi=>⟨xs,hS,by rw[r.length];exact hi⟩,fun x H2 d hd hy=>?_⟩;obtain⟨T,y,rfl,hT,rfl,hy⟩:=hy;obtain⟨e,h1,rfl⟩:=zGP ds 0 i d hd;have x1:=Ext.new s2 hT (.tup [.int i,y]);refine⟨_,x1,T,_,rfl,zAD,_,_,rfl,?_,_,_,rfl,Rep.mono (s1.trans x1.g) (zCG r h1 (hy xs hS)),rfl⟩;show V.int (i:Int)=.int ((0+i:Nat):Int);rw[qCz]
noncomputable def zG6:St->List (Nat×V)->St
 |σ,[]=>σ
 |σ,(i,v)::r=>zG6 (σ.set i (some v)) r
inductive BsRep(G:Hp):List (Nat×Dt)->List (Nat×V)->Prop
 |nil:BsRep G [] []
 |cons {i d v bs ws}:Rep G d v->BsRep G bs ws->BsRep G ((i,d)::bs) ((i,v)::ws)
theorem View.set{G:Hp}{σ:St}{ρ:Rh}{i:Nat}{d:Dt}{v:V}(w:View G σ ρ)(r:Rep G d v):View G (σ.set i (some v)) (ρ.set i (some d)):=by
 refine⟨by simp[w.len],fun j e h=>?_,w.tab⟩;have hj:j<ρ.length:=by
  have:=(qA3.mp h).1
  simpa using this
 by_cases z:i=j
 ·subst z;rw[qB1 hj]at h;cases h;exact⟨v,qB1 (by rw[<- w.len];exact hj),r⟩
 ·rw[qB4 z]at h;obtain⟨u,h1,h2⟩:=w.at j e h;exact⟨u,by rw[qB4 z];exact h1,h2⟩
theorem View.sets{G:Hp}{bs ws}(h:BsRep G bs ws):∀{σ:St}{ρ:Rh},View G σ ρ->View G (zG6 σ ws) (zB3 ρ bs):=by
 induction h with
 |nil=>exact fun w=>w
 |cons r _ ih=>exact fun w=>ih (w.set r)
def TgOk(g:TG)(tg:Tg):Prop:=∀(G H:Hp)(σ:St)(d:Dt)(x:V)(bs:List (Nat×Dt))(Q:St->Hp->Prop),Same G H->Rep G d x->zAT tg d=some bs->(∀ws,BsRep G bs ws->Q (zG6 σ ws) H)->g x σ H Q
def zQI(g:TGs)(is:List Nat):Prop:=∀(G H:Hp)(σ:St)(ds:List Dt)(xs:List V)(Q:St->Hp->Prop),RepL G ds xs->ds.length=is.length->(∀ws,BsRep G (is.zip ds) ws->Q (zG6 σ ws) H)->g xs σ H Q
theorem zEF(i:Nat):TgOk (zH9 i) (.one i):=by
 intro G H σ d x bs Q s r e h;cases e;exact h [(i,x)] (.cons r .nil)
theorem zFE:zQI gNil []:=by
 intro G H σ ds xs Q r hl h;cases ds with
 |nil=>cases(show xs=[] from r);exact⟨rfl,h [] .nil⟩
 |cons _ _=>simp at hl
theorem zBR(i:Nat){g:TGs}{is:List Nat}(hg:zQI g is):zQI (zX3 (zH9 i) g) (i::is):=by
 intro G H σ ds xs Q r hl h;cases ds with
 |nil=>simp at hl
 |cons d ds=>
  obtain⟨x,q,rfl,a,b⟩:=r;exact⟨x,q,rfl,hg G H _ ds q Q b (by simpa using hl) fun ws hw=>h ((i,x)::ws) (.cons a hw)⟩
theorem zLY{K:qA0}{g:TGs}{is:List Nat}{k:Nat}(hg:zQI g is)(hk:is.length=k):TgOk (gTup K k g) (.tup is):=by
 intro G H σ d x bs Q s r e h;cases d with
 |tup ds=>
  obtain⟨a,xs,rfl,ha,ra⟩:=r;rw[zAT]at e
  by_cases hz:ds.length=is.length
  ·rw[if_pos hz]at e;cases e;exact⟨a,xs,rfl,SqT.of (s _ _ ha),by rw[ra.length,hz,hk],hg G H σ ds xs Q ra hz h⟩
  ·rw[if_neg hz]at e;cases e
 |_=>simp[zAT]at e
theorem zJI:∀(ws:List (Nat×V))(σ own:St),(∀p∈ws,σ.length<=p.1)->∃own':St,own'.length=own.length/\zG6 (σ++own) ws=σ++own'
 |[],σ,own,_=>⟨own,rfl,rfl⟩
 |(i,v)::r,σ,own,h=>by
  have hi:σ.length<=i:=h (i,v) (by simp);rw[zG6,List.set_append_right _ _ hi];obtain⟨o,h1,h2⟩:=zJI r σ (own.set (i-σ.length) (some v)) fun p hp=>h p (by simp[hp])
  exact⟨o,by rw[h1,List.length_set],h2⟩
theorem BsRep.idx{G:Hp}{bs ws}(h:BsRep G bs ws):ws.map (·.1)=bs.map (·.1):=by
 induction h with
 |nil=>rfl
 |cons _ _ ih=>simp[ih]
theorem zQE{tg:Tg}{d:Dt}{bs:List (Nat×Dt)}(h:zAT tg d=some bs):∀i∈bs.map (·.1),i∈tg.idx:=by
 cases tg with
 |one i=>cases h;simp[Tg.idx]
 |tup is=>
  cases d with
  |tup ds=>
   rw[zAT]at h
   split at h
   ·cases h;intro i hi;obtain⟨p,hp,e⟩:=qC8.mp hi;rw[<- e];obtain⟨a,b⟩:=p;exact(qDq hp).1
   ·cases h
  |_=>simp[zAT]at h
theorem zQ6{wi:TI}{g:TG}{tif:TT}{it:IM}{tg:Tg}{c:TM}(I:DI mg E wi it ind)(hT:TgOk g tg)(C:DT mg E tif c)(B:DE mg E te me n):DE mg E (zTM wi k g tif te) (Mi.eComp it k tg c me) (n+1):=by
 intro G H σ ρ Q s w p;refine I.step errE s w p fun ds J G1 H1 _ x1 io p1=>?_
 by_cases hz:ds.length<=100000/\(tg.idx.all fun i=>decide (ρ.length<=i))=true
 case neg=>rw[if_neg hz]at p1;exact p1.elim
 rw[if_pos hz]at p1;obtain⟨hz,hix⟩:=hz;have hb1:Same (zQF ind G1) G1:=by
  unfold zQF
  split
  ·exact fun b o e=>by cases e
  ·exact Same.refl _
 refine⟨fun i m acc H'=>m=ds.length-i/\i<=ds.length/\∃G' as S T,Fr G H G' H' S/\Same G1 G'/\OwnA G' H' n S as acc T/\as.length<=i/\PostE mg E G H (n+1) (zA3 (Mi.compGo ρ k tg c me (ds.drop i) as) fun es=>okR (.lst es)) Q,
  ⟨_,rfl,qAi _,G1,[],fun _=>False,fun _ _=>False,⟨x1,fun _ z=>z.elim⟩,Same.refl _,⟨rfl,fun q d x h=>by simp at h,fun _ _ _ z=>z.elim,fun _ _ z=>z.elim⟩,qA4 _,by rw[qCr];exact p1⟩,?_⟩
 rintro i m acc H' ⟨rfl,hi,G',as,S,T,fr,sg,o,hl,p⟩
 obtain⟨j1,j2,j3⟩:=io i G' H' (hb1.trans sg) fr.ext.in'
 by_cases hlt:i<ds.length
 ·refine .inr ⟨j1 hlt,by rw[o.len];exact L2.big (by lia),fun acc' H''=>ds.length-(i+1)=ds.length-(i+1)/\i+1<=ds.length/\∃G' as S T,Fr G H G' H'' S/\Same G1 G'/\OwnA G' H'' n S as acc' T/\as.length<=i+1/\PostE mg E G H (n+1) (zA3 (Mi.compGo ρ k tg c me (ds.drop (i+1)) as) fun es=>okR (.lst es)) Q,
   fun acc' H'' q=>⟨ds.length-(i+1),by lia,q⟩,fun x H2 hy=>?_⟩
  have hd:ds[i]?=some ds[i]:=qA9 hlt;obtain⟨G2,x2,r2⟩:=j3 x H2 ds[i] hd hy;rw[qBc hlt,Mi.compGo]at p;cases eb:zAT tg ds[i]with
  |none=>rw[eb]at p;exact p.elim
  |some bs=>
   rw[eb]at p;dsimp only at p;refine hT G2 H2 _ _ x bs _ x2.in' r2 eb fun ws hb=>?_
   have hsl:∀q∈ws,σ.length<=q.1:=fun q hq=>by
    have h1:q.1∈bs.map (·.1):=by rw[<- hb.idx];exact List.mem_map_of_mem hq
    have h2:=qEr.mp hix q.1 (zQE eb q.1 h1);rw[<- w.len];exact of_decide_eq_true h2
   obtain⟨own,ho1,ho2⟩:=zJI ws σ (qAm k none) hsl;refine⟨own,by rw[ho1,qDh],ho2,?_⟩;have x02:=fr.ext.trans x2;have w2:View G2 (zG6 (σ++qAm k none) ws) (zB3 (ρ++qAm k none) bs):=by
    refine View.sets hb ⟨by simp[w.len],fun j d h=>?_,w.tab.trans x02.g⟩
    by_cases hj:j<ρ.length
    ·rw[qAa hj]at h;obtain⟨v,a,b⟩:=w.at j d h;exact⟨v,by rw[qAa (by rw[<- w.len];exact hj)];exact a,Rep.mono x02.g b⟩
    ·rw[qA8 (by lia),qC5]at h
     split at h<;>cases h
   refine C.step ((errB errE _).from x02) x2.in' w2 p fun b H3 _ s3 p3=>?_
   have x3:Ext G2 H2 G2 H3:=Ext.same x2.in' s3;have x03:=x02.trans x3;have newS:∀a,S a->H a=none/\G2 a=none/\H3 a≠none:=fun a ha=>by
    obtain⟨n1,n2,n3⟩:=fr.new a ha;exact⟨n1,(x2.old a n3).trans n2,s3.some (x2.h.some n3)⟩
   have own3:OwnA G2 H3 n S as acc T:=⟨o.len,fun q d y h1 h2=>(o.own q d y h1 h2).mono x2.g (x2.h.trans s3),o.dis,o.sub⟩
   cases b with
   |false=>exact⟨rfl,hlt,G2,as,S,T,⟨x03,newS⟩,sg.trans x2.g,own3,by lia,p3⟩
   |true=>
    refine B.step ((errB errE _).from x03) x3.in' w2 p3 fun e v G4 H4 S4 _ fr4 o4 p4=>?_
    have ap:∀q b,T q b->S4 b->False:=fun q b h1 h2=>(newS b (o.sub q b h1)).2.2 (fr4.new b h2).1
    refine⟨rfl,hlt,G4,as++[e],fun a=>S a\/S4 a,fun q b=>(q<as.length/\T q b)\/(q=as.length/\S4 b),⟨x03.trans fr4.ext,fun a ha=>?_⟩,sg.trans (x2.g.trans fr4.ext.g),⟨by simp[o.len],fun q d y h1 h2=>?_,fun q r b h1 h2=>?_,fun q b h=>?_⟩,by simp;lia,p4⟩
    ·rcases ha with ha|ha
     ·obtain⟨n1,n2,n3⟩:=newS a ha;exact⟨n1,(fr4.ext.old a n3).trans n2,fr4.ext.h.some n3⟩
     ·obtain⟨n1,n2,n3⟩:=fr4.new a ha;exact⟨x03.h.free n1,n2,n3⟩
    ·by_cases hq:q<as.length
     ·rw[qAa hq]at h1;rw[qAa (by rw[o.len];exact hq)]at h2;exact((own3.own q d y h1 h2).mono fr4.ext.g fr4.ext.h).sub fun b z=>.inl ⟨hq,z⟩
     ·rw[qA8 (by lia)]at h1;rw[qA8 (by rw[o.len];lia),o.len]at h2;have hq0:q-as.length=0:=by
       have:=(qA3.mp h1).1
       simp at this;lia
      rw[hq0]at h1 h2;simp at h1 h2;subst h1;subst h2;exact o4.sub fun b z=>.inr ⟨by lia,z⟩
    ·rcases h1 with⟨a1,t1⟩|⟨a1,t1⟩<;>rcases h2 with⟨a2,t2⟩|⟨a2,t2⟩
     ·exact o.dis q r b t1 t2
     ·exact(ap q b t1 t2).elim
     ·exact(ap r b t2 t1).elim
     ·lia
    ·rcases h with⟨_,z⟩|⟨_,z⟩
     ·exact .inl (o.sub q b z)
     ·exact .inr z
 ·have e:i=ds.length:=by lia
  subst e;refine .inl ⟨j2 (qA4 _),fun D hD=>?_⟩;rw[qEt,Mi.compGo]at p;exact p (.ref D) G' _ _ (fr.add hD _) ⟨D,acc,T,rfl,zAD,o.kids (fun b hb=>(fr.new b hb).2.2) hD _⟩
end
end L3
namespace L3
open PySem PySem.Spec
open L2 hiding Rep RepL
open Mi (Dt Xn R okR zA3 optR zA0 zA8 zAG zA9 zAE Rh Sl Ro EM TM AM FM IM SM Tg Out zAT zB3 zB1 full frz frz1 frzAt)
variable[Kc]
structure Sat(G0 H0 S0:Hp)(σ:St)(ρ:Ro)(G H:Hp)(As:Nat->Addr->Prop):Prop where
 ext:Ext G0 H0 G H
 stb:Same S0 G
 tab:Same (tabK Kc.K) G0
 len:ρ.length=σ.length
 «at»:∀(i:Nat)(d:Dt)(n:Nat),ρ[i]?=some (some (d,n))->∃v,σ[i]?=some (some v)/\Own G H n (As i) d v
 dis:∀i j a,As i a->As j a->i=j
 new:∀i a,As i a->H0 a=none/\G a=none/\H a≠none
section
variable{G0 H0 S0:Hp}{σ:St}{ρ:Ro}{G H:Hp}{As:Nat->Addr->Prop}
theorem Sat.grow(a:Sat G0 H0 S0 σ ρ G H As){H':Hp}(s:Same H H'):Sat G0 H0 S0 σ ρ G H' As:=
 ⟨a.ext.trans (Ext.same a.ext.in' s),a.stb,a.tab,a.len,fun i d n e=>let⟨v,h1,h2⟩:=a.at i d n e;⟨v,h1,h2.mono (Same.refl _) s⟩,a.dis,fun i b h=>let⟨n1,n2,n3⟩:=a.new i b h;⟨n1,n2,s.some n3⟩⟩
theorem Sat.wider(a:Sat G0 H0 S0 σ ρ G H As){G' H':Hp}(x:Ext G H G' H'):Sat G0 H0 S0 σ ρ G' H' As:=
 ⟨a.ext.trans x,a.stb.trans x.g,a.tab,a.len,fun i d n e=>let⟨v,h1,h2⟩:=a.at i d n e;⟨v,h1,h2.mono x.g x.h⟩,a.dis,fun i b h=>let⟨n1,n2,n3⟩:=a.new i b h;⟨n1,(x.old b n3).trans n2,x.h.some n3⟩⟩
theorem Sat.full(a:Sat G0 H0 S0 σ ρ G H As):∃J,Ext G0 H0 J H/\Same G J/\View J σ (full ρ):=by
 obtain⟨s1,s2⟩:=zDP (S:=fun b=>∃i,As i b) a.ext.in';refine⟨over G H fun b=>∃i,As i b,⟨a.ext.g.trans s1,a.ext.h,s2,fun b hb=>?_⟩,s1,by simp[Mi.full,a.len],fun i d e=>?_,a.tab.trans (a.ext.g.trans s1)⟩
 ·have z:¬ ∃i,As i b:=fun⟨i,z⟩=>hb (a.new i b z).1
  rw[zCJ z];exact a.ext.old b hb
 ·unfold Mi.full at e;rw[qAn]at e;cases e1:ρ[i]? with
  |none=>rw[e1]at e;cases e
  |some o=>
   rw[e1]at e;cases o with
   |none=>cases e
   |some sl=>
    obtain⟨d',n⟩:=sl;cases e;obtain⟨v,h1,h2⟩:=a.at i _ n e1;exact⟨v,h1,h2.rep s1 fun b o hb e=>by rw[zEM ⟨i,hb⟩];exact e⟩
theorem Sat.put(a:Sat G0 H0 S0 σ ρ G H As){i n:Nat}{d:Dt}{v:V}{S:Addr->Prop}(o:Own G H n S d v)(hS:∀b,S b->H0 b=none/\G b=none/\H b≠none)(hd:∀j b,j≠i->As j b->S b->False) :
  Sat G0 H0 S0 (σ.set i (some v)) (ρ.set i (some (d,n))) G H (fun j=>if j=i then S else As j):=by
 refine⟨a.ext,a.stb,a.tab,by simp[a.len],fun j e k h=>?_,fun j l b h1 h2=>?_,fun j b h=>?_⟩
 ·have hj:j<ρ.length:=by
   have:=(qA3.mp h).1
   simpa using this
  by_cases z:i=j
  ·subst z;rw[qB1 hj]at h;cases h;exact⟨v,qB1 (by rw[<- a.len];exact hj),by rw[if_pos rfl];exact o⟩
  ·rw[qB4 z]at h;obtain⟨u,h1,h2⟩:=a.at j e k h;exact⟨u,by rw[qB4 z];exact h1,by rw[if_neg (fun q=>z q.symm)];exact h2⟩
 ·try dsimp only at h1 h2
  by_cases z1:j=i
  ·by_cases z2:l=i
   ·rw[z1,z2]
   ·rw[if_pos z1]at h1;rw[if_neg z2]at h2;exact(hd l b z2 h2 h1).elim
  ·by_cases z2:l=i
   ·rw[if_neg z1]at h1;rw[if_pos z2]at h2;exact(hd j b z1 h1 h2).elim
   ·rw[if_neg z1]at h1;rw[if_neg z2]at h2;exact a.dis j l b h1 h2
 ·try dsimp only at h
  by_cases z1:j=i
  ·rw[if_pos z1]at h;exact hS b h
  ·rw[if_neg z1]at h;exact a.new j b h
theorem Sat.set(a:Sat G0 H0 S0 σ ρ G H As){H':Hp}{i n:Nat}{d:Dt}{v:V}{S:Addr->Prop}(s:Same H H')(o:Own G H' n S d v)(hS:∀b,S b->H b=none/\G b=none/\H' b≠none) :
  Sat G0 H0 S0 (σ.set i (some v)) (ρ.set i (some (d,n))) G H' (fun j=>if j=i then S else As j):=
 (a.grow s).put o (fun b hb=>⟨a.ext.h.free (hS b hb).1,(hS b hb).2⟩) fun j b _ h1 h2=>(a.new j b h1).2.2 (hS b h2).1
theorem Sat.frz1(a:Sat G0 H0 S0 σ ρ G H As)(i:Nat):∃G1 As1,Sat G0 H0 S0 σ (Mi.frz1 i ρ) G1 H As1:=by
 unfold Mi.frz1;cases e1:ρ[i]? with
 |none=>exact⟨G,As,a⟩
 |some o=>
  cases o with
  |none=>exact⟨G,As,a⟩
  |some sl=>
   obtain⟨d,n⟩:=sl;dsimp only;obtain⟨v,h1,h2⟩:=a.at i d n e1;obtain⟨s1,s2⟩:=zDP (S:=As i) a.ext.in';have x:Ext G0 H0 (over G H (As i)) H:=⟨a.ext.g.trans s1,a.ext.h,s2,fun b hb=>by
    have z:¬As i b:=fun z=>hb (a.new i b z).1
    rw[zCJ z];exact a.ext.old b hb⟩
   have hv:(σ.set i (some v))=σ:=by
    have hi:i<σ.length:=(qA3.mp h1).1;have he:=(qA3.mp h1).2;rw[<- he,List.set_getElem_self]
   have b:Sat G0 H0 S0 σ (ρ.set i (some (d,0))) (over G H (As i)) H (fun j b=>j≠i/\As j b):=by
    refine⟨x,a.stb.trans s1,a.tab,by simp[a.len],fun j e k h=>?_,fun j l b p q=>a.dis j l b p.2 q.2,fun j b p=>?_⟩
    ·have hj:j<ρ.length:=by
      have:=(qA3.mp h).1
      simpa using this
     by_cases z:i=j
     ·subst z;rw[qB1 hj]at h;cases h;exact⟨v,h1,h2.rep s1 fun b o hb e=>by rw[zEM hb];exact e⟩
     ·rw[qB4 z]at h;obtain⟨u,q1,q2⟩:=a.at j e k h;exact⟨u,q1,(q2.mono s1 (Same.refl _)).sub fun b hb=>⟨fun q=>z q.symm,hb⟩⟩
    ·obtain⟨n1,n2,n3⟩:=a.new j b p.2;have z:¬As i b:=fun z=>p.1 (a.dis j i b p.2 z)
     exact⟨n1,by rw[zCJ z];exact n2,n3⟩
   exact⟨_,_,b⟩
theorem Sat.frzAt:∀(vs:List Nat){ρ:Ro}{G:Hp}{As:Nat->Addr->Prop},Sat G0 H0 S0 σ ρ G H As->∃G1 As1,Sat G0 H0 S0 σ (Mi.frzAt vs ρ) G1 H As1
 |[],_,_,_,a=>⟨_,_,a⟩
 |i::r,_,_,_,a=>by
  obtain⟨G1,As1,b⟩:=a.frz1 i;exact Sat.frzAt r b
theorem Sat.frz(a:Sat G0 H0 S0 σ ρ G H As):View G σ (Mi.frz ρ):=by
 refine⟨by simp[Mi.frz,a.len],fun i d e=>?_,a.tab.trans a.ext.g⟩;unfold Mi.frz at e;rw[qAn]at e;cases e1:ρ[i]? with
 |none=>rw[e1]at e;cases e
 |some o=>
  rw[e1]at e;cases o with
  |none=>cases e
  |some sl=>
   obtain⟨d',n⟩:=sl;obtain⟨v,h1,h2⟩:=a.at i d' n e1;simp only[qDu,qHj]at e
   split at e
   ·rename_i hz
    cases e
    rcases hz with hz|hz
    ·subst hz;exact⟨v,h1,h2⟩
    ·exact⟨v,h1,Own.scalar (k:=0) (G2:=G) (H2:=H) (S2:=fun _=>False) h2 hz⟩
   ·cases e
theorem Sat.store(a:Sat G0 H0 S0 σ ρ G H As){i n:Nat}{d:Dt}{v:V}{p:Addr}{o:HO}{S:Addr->Prop}(hp:As i p)(hv:σ[i]?=some (some v))(w:Own G (upd H p o) n S d v)
  (hS:∀b,S b->As i b\/(H0 b=none/\G b=none/\H b≠none/\∀j,¬As j b)):Sat G0 H0 S0 σ (ρ.set i (some (d,n))) G (upd H p o) (fun j=>if j=i then S else As j):=by
 obtain⟨p1,p2,p3⟩:=a.new i p hp;have hn:∀b,H b≠none->upd H p o b≠none:=fun b hb=>by
  by_cases z:b=p
  ·subst z;rw[zAD];simp
  ·rw[zA6 z];exact hb
 refine⟨⟨a.ext.g,L2.Same.upd a.ext.h p1 o,L2.Same.upd a.ext.in' p2 o,a.ext.old⟩,a.stb,a.tab,by simp[a.len],fun j e k h=>?_,fun j l b h1 h2=>?_,fun j b h=>?_⟩
 ·have hj:j<ρ.length:=by
   have:=(qA3.mp h).1
   simpa using this
  by_cases z:i=j
  ·subst z;rw[qB1 hj]at h;cases h;exact⟨v,hv,by rw[if_pos rfl];exact w⟩
  ·rw[qB4 z]at h;obtain⟨u,h1,h2⟩:=a.at j e k h;exact⟨u,h1,by rw[if_neg (fun q=>z q.symm)];exact h2.upd fun q=>z (a.dis i j p hp q)⟩
 ·have key:∀j b,j≠i->As j b->S b->False:=fun j b hj h1 h2=>by
   rcases hS b h2 with q|⟨_,_,_,q⟩
   ·exact hj (a.dis j i b h1 q)
   ·exact q j h1
  try dsimp only at h1 h2
  by_cases z1:j=i
  ·by_cases z2:l=i
   ·rw[z1,z2]
   ·rw[if_pos z1]at h1;rw[if_neg z2]at h2;exact(key l b z2 h2 h1).elim
  ·by_cases z2:l=i
   ·rw[if_neg z1]at h1;rw[if_pos z2]at h2;exact(key j b z1 h1 h2).elim
   ·rw[if_neg z1]at h1;rw[if_neg z2]at h2;exact a.dis j l b h1 h2
 ·try dsimp only at h
  by_cases z1:j=i
  ·rw[if_pos z1]at h
   rcases hS b h with q|⟨q1,q2,q3,_⟩
   ·obtain⟨n1,n2,n3⟩:=a.new i b q;exact⟨n1,n2,hn b n3⟩
   ·exact⟨q1,q2,hn b q3⟩
  ·rw[if_neg z1]at h;obtain⟨n1,n2,n3⟩:=a.new j b h;exact⟨n1,n2,hn b n3⟩
end
def zHB(mg:Str->Option Value)(E:XK)(G0 H0 S0:Hp)(L:Nat)(r:R Out)(D:Ends):Prop:=match r with
 |none=>False
 |some (.error x)=>∀c da G' H',Ext G0 H0 G' H'->XRep mg x c da G' H'->E c da H'
 |some (.ok (.nx ρ))=>∀σ G H As,Sat G0 H0 S0 σ ρ G H As->D.nx σ H
 |some (.ok (.bk ρ))=>∀σ G H As,Sat G0 H0 S0 σ ρ G H As->D.bk σ H
 |some (.ok (.ct ρ))=>∀σ G H As,Sat G0 H0 S0 σ ρ G H As->D.ct σ H
 |some (.ok (.rt d))=>∀v G H S,Fr G0 H0 G H S->Own G H L S d v->D.rt v H
def DS(mg:Str->Option Value)(E:XK)(L:Nat)(t:TS)(m:SM):Prop:=∀(G0 H0 S0:Hp)(σ:St)(ρ:Ro)(G H:Hp)(As:Nat->Addr->Prop)(D:Ends),Sat G0 H0 S0 σ ρ G H As->zHB mg E G0 H0 S0 L (m ρ) D->t D σ H
section
variable{mg:Str->Option Value}{E:XK}{L n k l:Nat}{te ta tb:TE}{e ea eb:EM}{t u:TS}{m m':SM}
theorem errS{G0 H0 S0:Hp}{D:Ends}:Err mg E G0 H0 (fun r=>zHB mg E G0 H0 S0 L r D):=⟨fun h=>h,fun _ h=>h⟩
theorem zCV:DS mg E L zN3 Mi.sNil:=fun G0 H0 S0 σ ρ G H As D a p=>p σ G H As a
theorem zAJ(A:DS mg E L t m)(B:DS mg E L u m'):DS mg E L (tSeq t u) (Mi.sSeq m m'):=by
 intro G0 H0 S0 σ ρ G H As D a p;refine A G0 H0 S0 σ ρ G H As _ a ?_;unfold Mi.sSeq at p;cases e:m ρ with
 |none=>rw[e]at p;exact p
 |some r=>
  rw[e]at p;cases r with
  |error x=>exact p
  |ok o=>
   cases o with
   |nx ρ'=>exact fun σ' G' H' As' a'=>B G0 H0 S0 σ' ρ' G' H' As' D a' p
   |rt d=>exact p
   |bk ρ'=>exact p
   |ct ρ'=>exact p
theorem zF6{tc:TT}{c:TM}(C:DT mg E tc c)(A:DS mg E L t m)(B:DS mg E L u m'):DS mg E L (tIfS tc t u) (Mi.sIf c m m'):=by
 intro G0 H0 S0 σ ρ G H As D a p;obtain⟨J,x,s,w⟩:=a.full;refine C.step (errS.from x) x.in' w p fun b H' _ sH p1=>?_
 cases b with
 |true=>exact A G0 H0 S0 σ ρ G H' As D (a.grow sH) p1
 |false=>exact B G0 H0 S0 σ ρ G H' As D (a.grow sH) p1
theorem whole{G0 H0 S0:Hp}{σ:St}{ρ:Ro}{G H J G1 H1:Hp}{As:Nat->Addr->Prop}{S:Addr->Prop}{d:Dt}{v:V}(a:Sat G0 H0 S0 σ ρ G H As)(s:Same G J)(fr:Fr J H G1 H1 S)(o:Own G1 H1 n S d v)(hn:n<1000)(hd:d.dep<=n)(hk:d.dep<=k) :
  Own G H1 k S d v/\∀b,S b->H b=none/\G b=none/\H1 b≠none:=
 ⟨o.at hd hk hn,fun b hb=>let⟨n1,n2,n3⟩:=fr.new b hb;⟨n1,a.ext.in'.free n1,n3⟩⟩
theorem zAR{i:Nat}(vs:List Nat)(A:DE mg E te e n)(hn:n<1000:=by decide):DS mg E L (tAsg te (zH9 i)) (Mi.sSet i n vs e):=by
 intro G0 H0 S0 σ ρ G H As D a p;obtain⟨J,x,s,w⟩:=a.full;unfold Mi.sSet at p;cases ee:e (full ρ)with
 |none=>rw[ee]at p;exact p.elim
 |some r=>
  cases r with
  |error y=>exact A.step (errS.from x) x.in' w p fun d v G1 H1 S e1 fr o p1=>by rw[ee]at e1;cases e1
  |ok d=>
   by_cases hd:d.dep<=n
   ·refine A.step (errS.from x) x.in' w p fun d' v G1 H1 S e1 fr o p1=>?_
    rw[ee]at e1;cases e1;rw[if_pos hd]at p1;obtain⟨q1,q2⟩:=whole (k:=n) a s fr o hn hd hd;exact p1 _ G H1 _ (a.set fr.ext.h q1 q2)
   ·rw[ee]at p;have p':zHB mg E G0 H0 S0 L (zA3 (e (frz (frzAt vs ρ))) fun d'=>okR (.nx ((frzAt vs ρ).set i (some (d',n))))) D:=by
     have p2:zHB mg E G0 H0 S0 L (if d.dep<=n then okR (.nx (ρ.set i (some (d,n))))else zA3 (e (frz (frzAt vs ρ))) fun d'=>okR (.nx ((frzAt vs ρ).set i (some (d',n))))) D:=p;rw[if_neg hd]at p2;exact p2
    obtain⟨G1,As1,a1⟩:=Sat.frzAt vs a;refine A.step (errS.from a1.ext) a1.ext.in' a1.frz p' fun d' v G2 H2 S _ fr o p1=>?_
    exact p1 _ G2 H2 _ ((a1.wider fr.ext).put o (fun b hb=>let⟨n1,n2,n3⟩:=fr.new b hb;⟨a1.ext.h.free n1,n2,n3⟩) fun j b _ h1 h2=>(a1.new j b h1).2.2 (fr.new b h2).1)
theorem zB4(vs:List Nat)(A:DE mg E te e n)(hn:n<1000:=by decide):DS mg E L (tRet te) (Mi.sRet L n vs e):=by
 intro G0 H0 S0 σ ρ G H As D a p;obtain⟨J,x,s,w⟩:=a.full;unfold Mi.sRet at p;cases ee:e (full ρ)with
 |none=>rw[ee]at p;exact p.elim
 |some r=>
  cases r with
  |error y=>exact A.step (errS.from x) x.in' w p fun d v G1 H1 S e1 fr o p1=>by rw[ee]at e1;cases e1
  |ok d=>
   by_cases hd:d.dep<=n/\d.dep<=L
   ·refine A.step (errS.from x) x.in' w p fun d' v G1 H1 S e1 fr o p1=>?_
    rw[ee]at e1;cases e1;rw[if_pos hd]at p1;exact p1 v G1 H1 S (Fr.from x fr) (o.at hd.1 hd.2 hn)
   ·rw[ee]at p;have p2:zHB mg E G0 H0 S0 L (if d.dep<=n/\d.dep<=L then okR (.rt d)else if n=L then zA3 (e (frz (frzAt vs ρ))) fun d'=>okR (.rt d')else none) D:=p;rw[if_neg hd]at p2
    by_cases hl:n=L
    ·rw[if_pos hl]at p2;subst hl;obtain⟨G1,As1,a1⟩:=Sat.frzAt vs a;refine A.step (errS.from a1.ext) a1.ext.in' a1.frz p2 fun d' v G2 H2 S _ fr o p1=>?_
     exact p1 v G2 H2 S (Fr.from a1.ext fr) o
    ·rw[if_neg hl]at p2;exact p2.elim
theorem zIU(i:Nat):DS mg E L (tRet (vM i)) (Mi.sRetV L i):=by
 intro G0 H0 S0 σ ρ G H As D a p;unfold Mi.sRetV at p;cases e1:ρ[i]? with
 |none=>rw[e1]at p;exact p.elim
 |some o=>
  rw[e1]at p;cases o with
  |none=>exact p.elim
  |some sl=>
   obtain⟨d,k⟩:=sl;obtain⟨v,h1,h2⟩:=a.at i d k e1;show vM i σ H D.rt;unfold vM;rw[h1];dsimp only at p
   split at p
   ·rename_i hz
    rcases hz with hz|hz|hz
    ·subst hz;exact p v G H (As i) ⟨a.ext,fun b hb=>a.new i b hb⟩ h2
    ·subst hz;obtain⟨s1,s2⟩:=zDP (S:=As i) a.ext.in';refine p v (over G H (As i)) H (fun _=>False) ⟨⟨a.ext.g.trans s1,a.ext.h,s2,fun b hb=>?_⟩,fun _ z=>z.elim⟩ (h2.rep s1 fun b o hb e=>by rw[zEM hb];exact e);have z:¬As i b:=fun z=>hb (a.new i b z).1
     rw[zCJ z];exact a.ext.old b hb
    ·exact p v G H (As i) ⟨a.ext,fun b hb=>a.new i b hb⟩ (h2.at hz.1 hz.2.1 hz.2.2)
   ·exact p.elim
theorem Sat.puts{G0 H0 S0 G H:Hp}{bs:List (Nat×Dt)}{ws:List (Nat×V)}(h:BsRep G bs ws):∀{σ:St}{ρ:Ro}{As:Nat->Addr->Prop},Sat G0 H0 S0 σ ρ G H As->∃As',Sat G0 H0 S0 (zG6 σ ws) (zB1 ρ bs) G H As':=by
 induction h with
 |nil=>exact fun a=>⟨_,a⟩
 |cons r _ ih=>exact fun a=>ih (a.put (n:=0) (S:=fun _=>False) r (fun _ z=>z.elim) fun _ _ _ _ z=>z.elim)
theorem zT3{g:TG}{is:List Nat}(vs:List Nat)(hT:TgOk g (.tup is))(A:DE mg E te e n):DS mg E L (tAsg te g) (Mi.sUnp is vs e):=by
 intro G0 H0 S0 σ ρ G H As D a p;obtain⟨G1,As1,a1⟩:=Sat.frzAt vs a;refine(zB7 A).step (errS.from a1.ext) a1.ext.in' a1.frz p fun d v G2 H2 S _ fr o p1=>?_
 cases eb:zAT (.tup is) d with
 |none=>rw[eb]at p1;exact p1.elim
 |some bs=>
  rw[eb]at p1;refine hT G2 H2 σ d v bs _ fr.ext.in' o eb fun ws hw=>?_
  obtain⟨As',a2⟩:=Sat.puts hw (a1.wider fr.ext);exact p1 _ G2 H2 As' a2
theorem zPY(i:Nat)(A:DE mg E te e n)(hn:n<1000:=by decide):DS mg E L (zN4 (tML appM (vM i) (zEV te tNil))) (Mi.sApp i n e):=by
 intro G0 H0 S0 σ ρ G H As D a p;obtain⟨J,x,s,w⟩:=a.full;unfold Mi.sApp at p;cases e1:ρ[i]? with
 |none=>rw[e1]at p;exact p.elim
 |some o=>
  rw[e1]at p
  match o,e1,p with
  |none,_,p=>exact p.elim
  |some (.lst ds,k+1),e1,p=>
   obtain⟨v,h1,q,xs,T,rfl,hq,kd⟩:=a.at i _ _ e1;unfold zN4 tML vM;rw[h1];refine⟨xs,hq,?_⟩;refine A.step (errS.from x) x.in' w p fun d y G1 H1 S _ fr o p1=>?_
   split at p1
   ·rename_i hz
    obtain⟨q1,q2⟩:=whole (k:=k) a s fr o hn hz.2.1 hz.2.2;refine⟨xs,fr.ext.h _ _ hq,by rw[kd.len];exact L2.big (by lia),?_⟩;have hp:=kd.top;have a1:=a.grow fr.ext.h;have nS:¬S q:=fun z=>(a.new i q hp).2.2 (q2 q z).1
    have ap:∀r b,T r b->S b->False:=fun r b h1 h2=>(a.new i b (kd.sub r b h1)).2.2 (q2 b h2).1
    refine p1 σ G _ _ (a1.store (S:=fun b=>As i b\/S b) hp h1 ⟨q,_,fun r b=>(r<ds.length/\T r b)\/(r=ds.length/\S b),rfl,zAD,⟨by simp[kd.len],fun r d' z g1 g2=>?_,.inl hp,fun r z=>?_,fun r r' b z1 z2=>?_,fun r b z=>?_⟩⟩ fun b z=>?_)
    ·by_cases hr:r<ds.length
     ·rw[qAa hr]at g1;rw[qAa (by rw[kd.len];exact hr)]at g2;exact(((kd.own r d' z g1 g2).mono (Same.refl _) fr.ext.h).upd (kd.out r)).sub fun b z=>.inl ⟨hr,z⟩
     ·rw[qA8 (by lia)]at g1;rw[qA8 (by rw[kd.len];lia),kd.len]at g2;have hq0:r-ds.length=0:=by
       have:=(qA3.mp g1).1
       simp at this;lia
      rw[hq0]at g1 g2;simp at g1 g2;subst g1;subst g2;exact(q1.upd nS).sub fun b z=>.inr ⟨by lia,z⟩
    ·rcases z with⟨_,z⟩|⟨_,z⟩
     ·exact kd.out r z
     ·exact nS z
    ·rcases z1 with⟨c1,t1⟩|⟨c1,t1⟩<;>rcases z2 with⟨c2,t2⟩|⟨c2,t2⟩
     ·exact kd.dis r r' b t1 t2
     ·exact(ap r b t1 t2).elim
     ·exact(ap r' b t2 t1).elim
     ·lia
    ·rcases z with⟨_,z⟩|⟨_,z⟩
     ·exact .inl (kd.sub r b z)
     ·exact .inr z
    ·rcases z with z|z
     ·exact .inl z
     ·obtain⟨n1,n2,n3⟩:=q2 b z;exact .inr ⟨a.ext.h.free n1,n2,n3,fun j y=>(a.new j b y).2.2 n1⟩
   ·exact p1.elim
  |some (.lst ds,0),_,p=>exact p.elim
  |some (.non,_),_,p=>exact p.elim
  |some (.bl _,_),_,p=>exact p.elim
  |some (.int _,_),_,p=>exact p.elim
  |some (.str _,_),_,p=>exact p.elim
  |some (.tup _,_),_,p=>exact p.elim
  |some (.scr _,_),_,p=>exact p.elim
  |some (.exc _ _ _,_),_,p=>exact p.elim
  |some (.fn _ _,_),_,p=>exact p.elim
  |some (.ins _ _,_),_,p=>exact p.elim
  |some (.dct _,_),_,p=>exact p.elim
end
end L3
namespace L3
open PySem PySem.Spec
open L2 hiding Rep RepL
open Mi (Dt Xn R okR zA3 optR zA0 zA8 zAG zA9 zAE Rh Sl Ro EM TM AM FM IM SM Tg Out zAT zB3 zB1 full frz frz1 frzAt)
section
variable[Kc]{mg:Str->Option Value}{E:XK}{L n k l:Nat}{te ta tb:TE}{e ea eb:EM}{t u:TS}{m m':SM}
theorem zSW{G0 H0 S0:Hp}{D:Ends}{g:TG}{tg:Tg}{J:It}{ds:List Dt}{GJ:Hp}(hT:TgOk g tg)(B:DS mg E L t m)(io:ItOk J GJ ds){σ:St}{ρ:Ro}{G H:Hp}{As:Nat->Addr->Prop}(a:Sat G0 H0 S0 σ ρ G H As)(sJ:Same GJ G)
  (p:zHB mg E G0 H0 S0 L (Mi.forGo tg m ds ρ) D):zQN g t D σ J H:=by
 refine⟨fun i c σ H=>c=ds.length-i/\i<=ds.length/\∃ρ G As,Sat G0 H0 S0 σ ρ G H As/\Same GJ G/\zHB mg E G0 H0 S0 L (Mi.forGo tg m (ds.drop i) ρ) D,
  ⟨_,rfl,qAi _,ρ,G,As,a,sJ,by rw[qCr];exact p⟩,?_⟩
 rintro i c σ H ⟨rfl,hi,ρ,G,As,a,sJ,p⟩
 obtain⟨j1,j2,j3⟩:=io i G H sJ a.ext.in'
 by_cases hlt:i<ds.length
 ·refine .inr ⟨j1 hlt,fun σ' H'=>i+1<=ds.length/\∃ρ G As,Sat G0 H0 S0 σ' ρ G H' As/\Same GJ G/\zHB mg E G0 H0 S0 L (Mi.forGo tg m (ds.drop (i+1)) ρ) D,fun σ' H' q=>⟨ds.length-(i+1),by lia,rfl,q⟩,fun x H2 hy=>?_⟩;have hd:ds[i]?=some ds[i]:=qA9 hlt;obtain⟨G2,x2,r2⟩:=j3 x H2 ds[i] hd hy;rw[qBc hlt,Mi.forGo]at p;cases eb:zAT tg ds[i]with
  |none=>rw[eb]at p;exact p.elim
  |some bs=>
   rw[eb]at p
   try dsimp only at p
   refine hT G2 H2 _ _ x bs _ x2.in' r2 eb fun ws hb=>?_
   obtain⟨As2,a2⟩:=Sat.puts hb (a.wider x2);have a3:Sat G0 H0 GJ (zG6 σ ws) (zB1 ρ bs) G2 H2 As2:=⟨a2.ext,sJ.trans x2.g,a2.tab,a2.len,a2.at,a2.dis,a2.new⟩
   have key:∀(S1:Hp),Same S0 S1->Same GJ S1->Sat G0 H0 S1 (zG6 σ ws) (zB1 ρ bs) G2 H2 As2->t { D with nx:=fun σ' H'=>i+1<=ds.length/\∃ρ G As,Sat G0 H0 S0 σ' ρ G H' As/\Same GJ G/\zHB mg E G0 H0 S0 L (Mi.forGo tg m (ds.drop (i+1)) ρ) D,ct:=fun σ' H'=>i+1<=ds.length/\∃ρ G As,Sat G0 H0 S0 σ' ρ G H' As/\Same GJ G/\zHB mg E G0 H0 S0 L (Mi.forGo tg m (ds.drop (i+1)) ρ) D,bk:=D.nx } (zG6 σ ws) H2:=by
    intro S1 s1 s2 a4;refine B G0 H0 S1 _ _ G2 H2 As2 _ a4 ?_;have back:∀{σ':St}{ρ':Ro}{G' H':Hp}{As':Nat->Addr->Prop},Sat G0 H0 S1 σ' ρ' G' H' As'->Sat G0 H0 S0 σ' ρ' G' H' As'/\Same GJ G':=fun a5=>⟨⟨a5.ext,s1.trans a5.stb,a5.tab,a5.len,a5.at,a5.dis,a5.new⟩,s2.trans a5.stb⟩
    cases em:m (zB1 ρ bs)with
    |none=>rw[em]at p;exact p
    |some r=>
     rw[em]at p;cases r with
     |error y=>exact p
     |ok o=>
      cases o with
      |nx ρ'=>exact fun σ' G' H' As' a5=>⟨hlt,ρ',G',As',(back a5).1,(back a5).2,p⟩
      |ct ρ'=>exact fun σ' G' H' As' a5=>⟨hlt,ρ',G',As',(back a5).1,(back a5).2,p⟩
      |bk ρ'=>exact fun σ' G' H' As' a5=>p σ' G' H' As' (back a5).1
      |rt d=>exact p
   exact key G2 a2.stb (sJ.trans x2.g) ⟨a2.ext,Same.refl _,a2.tab,a2.len,a2.at,a2.dis,a2.new⟩
 ·have e:i=ds.length:=by lia
  subst e;rw[qEt,Mi.forGo]at p;exact .inl ⟨j2 (qA4 _),p σ G H As a⟩
theorem zHS{wi:TI}{it:IM}{g:TG}{tg:Tg}(vs:List Nat){ind:Bool}(I:DI mg E wi it ind)(hT:TgOk g tg)(B:DS mg E L t m):DS mg E L (fun D σ H=>wi σ H (zQN g t D σ)) (Mi.sFor vs it tg m):=by
 intro G0 H0 S0 σ ρ G H As D a p;obtain⟨G1,As1,a1⟩:=Sat.frzAt vs a;refine I.step (errS.from a1.ext) a1.ext.in' a1.frz p fun ds J G2 H2 _ x2 io p1=>?_
 refine zSW hT B io (a1.wider x2) ?_ p1;unfold zQF
 split
 ·exact fun b o e=>by cases e
 ·exact Same.refl _
theorem zLI{wi:TI}{it:IM}{i:Nat}(I:DI mg E wi it true)(B:DS mg E L t m):DS mg E L (fun D σ H=>wi σ H (zQN (zH9 i) t D σ)) (Mi.sForR it i m):=by
 intro G0 H0 S0 σ ρ G H As D a p;obtain⟨J,x,s,w⟩:=a.full;refine I.step (errS.from x) x.in' w p fun ds J G2 H2 _ x2 io p1=>?_
 exact zSW (zEF i) B io (a.grow x2.h) (fun b o e=>by cases e) p1
theorem dz(A:DE mg E te e 0):DE mg E te e 0:=A
theorem zB2{P N:Nat}{vs:List V}{H:Hp}{Q:VK}{E:XK}(h:spM mg L (Mi.runF P N m) vs H Q E):vs.length=P:=by
 obtain⟨G,ds,_,s,r,p⟩:=h;rw[r.length];unfold Mi.runF at p
 split at p
 ·rename_i h;exact h
 ·exact p.elim
theorem zBK{P:Nat}{N:List Str}{vs:List V}{H:Hp}{Q:VK}(B:DS mg E L t m)(h:spM mg L (Mi.runF P N.length m) vs H Q E):t { nx:=fun _ H'=>Q .non H',rt:=Q } (L2.start N vs) H:=by
 obtain⟨G,ds,tb,s,r,p⟩:=h;unfold Mi.runF at p
 split at p
 ·refine B G H G _ (Mi.startO N.length ds) G H (fun _ _=>False) _ ⟨Ext.refl s,Same.refl _,tb,?_,fun i d n e=>?_,fun _ _ _ z=>z.elim,fun _ _ z=>z.elim⟩ ?_
  ·unfold Mi.startO L2.start;simp[r.length]
  ·unfold Mi.startO at e
   by_cases hi:i<ds.length
   ·rw[qAa (by simpa using hi),qAn]at e;cases e1:ds[i]? with
    |none=>rw[e1]at e;cases e
    |some d'=>
     rw[e1]at e;cases e;have hv:vs[i]?=some (vs[i]'(by rw[r.length];exact hi)):=by simp
     refine⟨vs[i]'(by rw[r.length];exact hi),?_,zCG r e1 hv⟩;unfold L2.start;rw[qAa (by simpa[r.length]using hi),qAn,hv];rfl
   ·rw[qA8 (by simpa using hi),qC5]at e
    split at e<;>cases e
  ·cases em:m (Mi.startO N.length ds)with
   |none=>rw[em]at p;exact p
   |some r=>
    rw[em]at p;cases r with
    |error y=>exact p
    |ok o=>
     cases o with
     |nx ρ'=>exact fun σ' G' H' As' a=>PostE.val (d:=.non) p a.ext rfl rfl
     |rt d=>exact p
     |bk ρ'=>exact p.elim
     |ct ρ'=>exact p.elim
 ·exact p.elim
end
end L3
namespace L3
open PySem PySem.Spec
open L2 hiding Rep RepL
open Mi (Dt FM okR)
def sp0(K:qA0)(mg:Str->Option Value)(L:Nat)(f:FM):Sp:=fun vs H Q _=>@spM ⟨K⟩ mg L f vs H Q E0
end L3
namespace L3
open PySem PySem.Spec
open L2 hiding Rep RepL
open Mi (Dt Xn R okR zA3 optR zA0 zA8 zAG zA9 zAE Rh Sl Ro EM TM AM FM IM SM OM Tg Out zAT zB3 zB1 full frz frz1 frzAt)
section
variable[Kc]{mg:Str->Option Value}{E:XK}{L n k l:Nat}{te ta tb:TE}{e ea eb:EM}{t u:TS}{m m':SM}
theorem zTA{f:List Dt->Option Dt}{g:Int->Int->Int}{r:List V->Hp->VK->Prop}(hr:∀i j H Q,Q (.int (g i j)) H->r [.int i,.int j] H Q)(hf:∀i j,f [.int i,.int j]=some (.int (g i j)))(hn:∀ds,(∀i j,ds≠[.int i,.int j])->f ds=none):CBi r f n:=by
 intro mg E G H ds vs Q s h p
 by_cases hd:∃i j,ds=[.int i,.int j]
 ·obtain⟨i,j,rfl⟩:=hd;obtain⟨x,y,rfl,hx,hy⟩:=zXU h
  cases(show x=.int i from hx)
  cases(show y=.int j from hy)
  rw[hf]at p;exact hr i j H Q (PostE.val p (Ext.refl s) rfl rfl)
 ·rw[hn ds fun i j e=>hd ⟨i,j,e⟩]at p;exact p.elim
theorem zLX{f:List Dt->Option Dt}(h1:f []=none)(h2:∀x,f [x]=none)(h3:∀x y z r,f (x::y::z::r)=none)(h4:∀x y,(∀i j,[x,y]≠[.int i,.int j])->f [x,y]=none):∀ds,(∀i j,ds≠[.int i,.int j])->f ds=none:=by
 intro ds h
 match ds,h with
 |[],_=>exact h1
 |[x],_=>exact h2 x
 |[x,y],h=>exact h4 x y h
 |x::y::z::r,_=>exact h3 x y z r
theorem zXC:CBi (fun xs H Q=>∃i j,xs=[.int i,.int j]/\Q (.int (if j>i then j else i)) H) Mi.maxD n:=
 zTA (g:=fun i j=>if j>i then j else i) (fun i j H Q q=>⟨i,j,rfl,q⟩) (fun _ _=>rfl) (zLX rfl (fun x=>by cases x<;>rfl) (fun x y z r=>by cases x<;>cases y<;>rfl) (fun x y h=>by cases x<;>cases y<;>first|rfl|exact absurd rfl (h _ _)))
theorem zXB:CBi (fun xs H Q=>∃i j,xs=[.int i,.int j]/\Q (.int (if j<i then j else i)) H) Mi.minD n:=
 zTA (g:=fun i j=>if j<i then j else i) (fun i j H Q q=>⟨i,j,rfl,q⟩) (fun _ _=>rfl) (zLX rfl (fun x=>by cases x<;>rfl) (fun x y z r=>by cases x<;>cases y<;>rfl) (fun x y h=>by cases x<;>cases y<;>first|rfl|exact absurd rfl (h _ _)))
theorem zLG{G:Hp}{d:Dt}{v:V}(h:Rep G d v)(hd:d.dep=0):zFN v=true:=(zE1 (by lia) h).flat (qGi.mp (qAr (zF9 (by lia)) (qE0 hd)))
theorem zPS{G:Hp}{d e:Dt}{v u:V}(h:Rep G d v)(h':Rep G e u)(hd:d.dep=0)(he:e.dep=0):eqV v u=Dt.eq d e:=by
 rw[<- zLL (by lia) (by lia)];exact(zE1 (by lia) h).flatEq (zE1 (by lia) h') (qGi.mp (qAr (zF9 (by lia)) (qE0 hd))) (qGi.mp (qAr (zF9 (by lia)) (qE0 he)))
theorem zUO{G:Hp}{d:Dt}{v:V}(h:Rep G d v)(hd:d.dep=0):∀{ds:List Dt}{vs:List V},RepL G ds vs->Dt.depL ds=0->vs.all zFN=true/\inV v vs=ds.any fun y=>Dt.eq y d
 |[],vs,r,_=>by cases(show vs=[] from r);exact⟨rfl,rfl⟩
 |e::ds,vs,r,hz=>by
  obtain⟨x,q,rfl,a,b⟩:=r;rw[Dt.depL]at hz;obtain⟨h1,h2⟩:=zUO h hd b (by lia);have he:e.dep=0:=by lia
  refine⟨by simp[zLG a he,h1],?_⟩;unfold inV at h2 ⊢;rw[qEf,qEf,h2,zPS a h he hd]
theorem zVR{ng:Bool}:ROp (rInU Kc.K ng) (Mi.inD ng) n:=by
 intro mg E G H d e x y Q s h1 h2 p;cases e with
 |lst ys=>
  obtain⟨a,vs,rfl,ha,r⟩:=h2;unfold Mi.inD Mi.hasD at p;dsimp only at p
  by_cases hz:d.dep=0/\Dt.depL ys=0
  ·rw[if_pos hz]at p;obtain⟨g1,g2⟩:=zUO h1 hz.1 r hz.2;refine⟨vs,.inl (SqL.of (s _ _ ha)),zLG h1 hz.1,g1,?_⟩;rw[g2];exact PostE.val p (Ext.refl s) rfl rfl
  ·rw[if_neg hz]at p;exact p.elim
 |tup ys=>
  obtain⟨a,vs,rfl,ha,r⟩:=h2;unfold Mi.inD Mi.hasD at p;dsimp only at p
  by_cases hz:d.dep=0/\Dt.depL ys=0
  ·rw[if_pos hz]at p;obtain⟨g1,g2⟩:=zUO h1 hz.1 r hz.2;refine⟨vs,.inr (SqT.of (s _ _ ha)),zLG h1 hz.1,g1,?_⟩;rw[g2];exact PostE.val p (Ext.refl s) rfl rfl
  ·rw[if_neg hz]at p;exact p.elim
 |str z=>
  cases(show y=.str z from h2)
  cases d with
  |str w=>
   cases(show x=.str w from h1)
   obtain⟨⟨wl⟩⟩:=w;cases wl with
   |nil=>exact qA6 p
   |cons c tl1=>
    cases tl1 with
    |nil=>
     have p':PostE mg E G H n (okR (.bl (if ng=true then !decide (c∈z.cps.toList)else decide (c∈z.cps.toList)))) Q:=p;have q:=PostE.val (v:=.bl (if ng=true then !decide (c∈z.cps.toList)else decide (c∈z.cps.toList))) p' (Ext.refl s) rfl rfl;rw[<- StrLaws.found_one z c]at q;exact q
    |cons _ _=>exact qA6 p
  |_=>exact p.elim
 |_=>exact p.elim
def DO(mg:Str->Option Value)(E:XK)(t:TO)(m:OM):Prop:=∀(G H:Hp)(σ:St)(ρ:Rh)(Q:Option Int->Hp->Prop),Same G H->View G σ ρ ->
 (match m ρ with
  |none=>False
  |some (.error x)=>∀c da G' H',Ext G H G' H'->XRep mg x c da G' H'->E c da H'
  |some (.ok o)=>∀H',Same H H'->Q o H')->t σ H Q
theorem DO.step{β:Type}{t:TO}{m:OM}(D:DO mg E t m){G H:Hp}{σ:St}{ρ:Rh}{Q:Option Int->Hp->Prop}{P:R β->Prop}{f:Option Int->R β}(hE:Err mg E G H P)(s:Same G H)(w:View G σ ρ)(p:P (zA3 (m ρ) f))
  (h:∀b H',m ρ=okR b->Same H H'->P (f b)->Q b H'):t σ H Q:=by
 refine D G H σ ρ Q s w ?_;cases e:m ρ with
 |none=>rw[e]at p;exact hE.no p
 |some r=>
  rw[e]at p;cases r with
  |error x=>exact hE.er x p
  |ok b=>exact fun H' sH=>h b H' e sH p
theorem zF7:DO mg E zO5 Mi.oNo:=fun G H σ ρ Q s w p=>p H (Same.refl _)
theorem do_e(A:DE mg E te e k):DO mg E (zVJ te) (Mi.oE e):=by
 intro G H σ ρ Q s w p;unfold Mi.oE at p;refine(zB7 A).step (P:=fun r=>match r with
  |none=>False
  |some (.error x)=>∀c da G' H',Ext G H G' H'->XRep mg x c da G' H'->E c da H'
  |some (.ok o)=>∀H',Same H H'->Q o H') ⟨fun h=>h,fun _ h=>h⟩ s w p fun d v G1 H1 S _ fr o p1=>?_
 cases d with
 |int i=>exact⟨i,o,p1 H1 fr.ext.h⟩
 |_=>exact p1.elim
theorem zMV(n d:Nat)(o:Option Int):Mi.cutIx n d o=HT.sIx n d o:=by cases o<;>rfl
theorem zJQ{G:Hp}:∀{ds:List Dt}{xs:List V}(i:Nat),RepL G ds xs->RepL G (ds.drop i) (xs.drop i)
 |ds,xs,0,r=>by simpa using r
 |[],xs,i+1,r=>by cases(show xs=[] from r);exact rfl
 |d::ds,xs,i+1,r=>by
  obtain⟨x,q,rfl,a,b⟩:=r;exact zJQ i b
theorem zJP{G:Hp}:∀{ds:List Dt}{xs:List V}(i:Nat),RepL G ds xs->RepL G (ds.take i) (xs.take i)
 |ds,xs,0,r=>by simp;exact rfl
 |[],xs,i+1,r=>by cases(show xs=[] from r);exact rfl
 |d::ds,xs,i+1,r=>by
  obtain⟨x,q,rfl,a,b⟩:=r;exact⟨x,_,rfl,a,zJP i b⟩
theorem zQZ{G:Hp}{ds:List Dt}{xs:List V}(r:RepL G ds xs)(lo hi:Option Int):RepL G (Mi.cutA ds lo hi) (cutV xs lo hi):=by
 unfold Mi.cutA cutV;rw[zMV,zMV,r.length];exact zJP _ (zJQ _ r)
def RSl(r:V->Option Int->Option Int->Hp->VK->Prop)(n:Nat):Prop:=∀(mg:Str->Option Value)(E:XK)(G H:Hp)(d:Dt)(x:V)(lo hi:Option Int)(Q:VK),Same G H->Rep G d x->PostE mg E G H n (optR (Mi.slD d lo hi)) Q->r x lo hi H Q
theorem zX9{r:V->Option Int->Option Int->Hp->VK->Prop}{tl th:TO}{ml mh:OM}(hr:RSl r n)(A:DE mg E te e k)(B:DO mg E tl ml)(C:DO mg E th mh):DE mg E (tSl r te tl th) (Mi.eSl e ml mh) n:=by
 intro G H σ ρ Q s w p;refine(zB7 A).step errE s w p fun d v G1 H1 S _ fr o p1=>?_
 refine B.step (errE.from fr.ext) fr.ext.in' (w.mono fr.ext.g) p1 fun lo H2 _ s2 p2=>?_
 have x2:=fr.ext.trans (Ext.same fr.ext.in' s2);refine C.step (errE.from x2) x2.in' (w.mono fr.ext.g) p2 fun hi H3 _ s3 p3=>?_
 have x3:=x2.trans (Ext.same x2.in' s3);exact hr mg E G1 H3 d v lo hi Q x3.in' o (PostE.from p3 x3)
end
end L3
namespace L3
open PySem PySem.Spec
open L2 hiding Rep RepL
open Mi (Dt Xn R okR zA3 optR zA0 zA8 zAG zA9 zAE Rh Sl Ro EM TM AM FM IM SM OM Tg Out zAT zB3 zB1 full frz frz1 frzAt)
section
variable[Kc]{mg:Str->Option Value}{E:XK}{L n k l:Nat}{te ta tb:TE}{e ea eb ma:EM}{t:TA}{m:AM}
theorem rs_u:RSl (rSlU Kc.K) 1:=by
 intro mg E G H d x lo hi Q s h p;cases d with
 |lst ds=>
  obtain⟨a,xs,rfl,ha,r⟩:=h;exact⟨xs,SqL.of (s _ _ ha),fun q hq=>PostE.lst p (Ext.refl s) (zQZ r lo hi) hq⟩
 |str z=>
  cases(show x=.str z from h)
  rw[Mi.slD]at p
  by_cases hz:z.length<=100000
  ·rw[if_pos hz]at p;exact⟨big' hz,PostE.val p (Ext.refl s) rfl rfl⟩
  ·rw[if_neg hz]at p;exact p.elim
 |_=>exact p.elim
theorem zCW{tl th:TO}{ml mh:OM}(A:DE mg E te e k)(B:DO mg E tl ml)(C:DO mg E th mh):DE mg E (tSl (rSlU Kc.K) te tl th) (Mi.eSl e ml mh) 1:=zX9 rs_u A B C
theorem zWW{G:Hp}(z:Str):ItOk (Its z) G (Mi.signsD z):=by
 intro i G1 H1 s1 s2;have hl:(Mi.signsD z).length=z.cps.size:=by simp[Mi.signsD]
 refine⟨fun hi=>by rw[hl]at hi;exact hi,fun hi=>by rw[hl]at hi;exact hi,fun x H2 d hd hy=>?_⟩;obtain⟨rfl,c,hc,rfl⟩:=hy;refine⟨G1,Ext.refl s2,?_⟩;unfold Mi.signsD at hd;rw[qAn]at hd;have hc':z.cps.toList[i]?=some c:=by simpa using hc
 rw[hc']at hd;cases hd;rfl
theorem zHV(A:DE mg E ta ma k):DI mg E (iAny Kc.K ta) (Mi.iSq ma) false:=by
 intro G H σ ρ Q s w p;refine(zB7 A).step errI s w p fun d v G1 H1 S _ fr o p1=>?_
 cases d with
 |lst ds=>
  obtain⟨a,xs,rfl,ha,r⟩:=o;exact .inl ⟨⟨xs,SqL.of (fr.ext.in' _ _ ha)⟩,p1 _ G1 H1 fr.ext (zSR (SqL.of ha) r)⟩
 |tup ds=>
  obtain⟨a,xs,rfl,ha,r⟩:=o;exact .inr ⟨⟨xs,SqT.of (fr.ext.in' _ _ ha)⟩,p1 _ G1 H1 fr.ext (zSQ (SqT.of ha) r)⟩
 |scr ns=>
  obtain⟨a,rfl,ha⟩:=o
  rcases ha with ha|ha
  ·exact .inl ⟨⟨_,fr.ext.in'.seq ha⟩,p1 _ G1 H1 fr.ext (zSR ha (zD4 ns))⟩
  ·exact .inr ⟨⟨_,zG7 fr.ext.in' ha⟩,p1 _ G1 H1 fr.ext (zSQ ha (zD4 ns))⟩
 |str z=>
  cases(show v=.str z from o)
  exact p1 _ G1 H1 fr.ext (zWW z)
 |_=>exact p1.elim
def RMt(r:V->List V->Hp->VK->Prop)(f:Dt->List Dt->Option Dt)(n:Nat):Prop:=∀(mg:Str->Option Value)(E:XK)(G H:Hp)(z:Str)(ds:List Dt)(vs:List V)(Q:VK),Same G H->RepL G ds vs->PostE mg E G H n (optR (f (.str z) ds)) Q->r (.str z) vs H Q
theorem zQ5{r:V->List V->Hp->VK->Prop}{f:Dt->List Dt->Option Dt}(hr:RMt r f n)(A:DE mg E te e k)(B:DA mg E t m 0):DE mg E (tBM Kc.K "str" r te t) (Mi.eMt f e m) n:=by
 intro G H σ ρ Q s w p;refine(zB7 A).step errE s w p fun d v G1 H1 S _ fr o p1=>?_
 cases d with
 |str z=>
  cases(show v=.str z from o)
  refine⟨rfl,?_⟩;have p2:PostE mg E G H n (zA3 (m ρ) fun xs=>optR (f (.str z) xs)) Q:=p1;refine B.step (errE.from fr.ext) fr.ext.in' (w.mono fr.ext.g) p2 fun ds vs G2 H2 S2 T2 _ fr2 o2 p3=>?_
  exact hr mg E G2 H2 z ds vs Q fr2.ext.in' o2.repL (PostE.from p3 (fr.ext.trans fr2.ext))
 |_=>exact p1.elim
theorem zOK{r:V->List V->Hp->VK->Prop}{f:Dt->List Dt->Option Dt}(hf:∀z ds,(∀c,ds≠[.str ⟨#[c]⟩])->f (.str z) ds=none)
  (hr:∀(mg:Str->Option Value)(E:XK)(G H:Hp)(z:Str)(c:Nat)(Q:VK),Same G H->PostE mg E G H n (optR (f (.str z) [.str ⟨#[c]⟩])) Q->r (.str z) [.str ⟨#[c]⟩] H Q):RMt r f n:=by
 intro mg E G H z ds vs Q s h p
 by_cases hd:∃c,ds=[.str ⟨#[c]⟩]
 ·obtain⟨c,rfl⟩:=hd;obtain⟨x,rfl,hx⟩:=zFU h
  cases(show x=.str ⟨#[c]⟩ from hx)
  exact hr mg E G H z c Q s p
 ·rw[hf z ds fun c e=>hd ⟨c,e⟩]at p;exact p.elim
theorem zII{f:Dt->List Dt->Option Dt}{z:Str}(h1:f (.str z) []=none)(h2:∀d,(∀y,d≠.str y)->f (.str z) [d]=none)(h3:∀d e r,f (.str z) (d::e::r)=none)(h4:f (.str z) [.str ⟨#[]⟩]=none)(h5:∀a b r,f (.str z) [.str ⟨⟨a::b::r⟩⟩]=none) :
  ∀ds,(∀c,ds≠[.str ⟨#[c]⟩])->f (.str z) ds=none:=by
 intro ds h
 match ds,h with
 |[],_=>exact h1
 |[.str ⟨⟨[]⟩⟩],_=>exact h4
 |[.str ⟨⟨[c]⟩⟩],h=>exact absurd rfl (h c)
 |[.str ⟨⟨a::b::r⟩⟩],_=>exact h5 a b r
 |[.non],_=>exact h2 _ fun _ e=>by cases e
 |[.bl _],_=>exact h2 _ fun _ e=>by cases e
 |[.int _],_=>exact h2 _ fun _ e=>by cases e
 |[.lst _],_=>exact h2 _ fun _ e=>by cases e
 |[.tup _],_=>exact h2 _ fun _ e=>by cases e
 |[.scr _],_=>exact h2 _ fun _ e=>by cases e
 |[.exc _ _ _],_=>exact h2 _ fun _ e=>by cases e
 |[.fn _ _],_=>exact h2 _ fun _ e=>by cases e
 |[.ins _ _],_=>exact h2 _ fun _ e=>by cases e
 |[.dct _],_=>exact h2 _ fun _ e=>by cases e
 |d::e::r,_=>exact h3 d e r
theorem zTY:RMt zX5 Mi.findD n:=zOK (fun z=>zII rfl (fun d h=>by cases d<;>first|rfl|exact absurd rfl (h _)) (fun d e r=>by cases d<;>rfl) rfl fun a b r=>rfl) fun mg E G H z c Q s p=>by
 show Q (.int (Txt.find z ⟨#[c]⟩)) H;rw[zRZ];exact PostE.val p (Ext.refl s) rfl rfl
theorem zMA:RMt zT9 Mi.countD n:=zOK (fun z=>zII rfl (fun d h=>by cases d<;>first|rfl|exact absurd rfl (h _)) (fun d e r=>by cases d<;>rfl) rfl fun a b r=>rfl) fun mg E G H z c Q s p=>by
 show Q (.int (Txt.count z ⟨#[c]⟩)) H;rw[zQ8];exact PostE.val p (Ext.refl s) rfl rfl
theorem zM3{G:Hp}:∀{ds:List Dt}{zs:List Str}{xs:List V},Mi.strsD ds=some zs->RepL G ds xs->xs=zs.map V.str
 |[],zs,xs,h,r=>by cases h;exact r
 |.str b::ds,zs,xs,h,r=>by
  obtain⟨x,q,rfl,a,c⟩:=r;rw[Mi.strsD]at h;cases e:Mi.strsD ds with
  |none=>rw[e]at h;cases h
  |some cs=>
   rw[e]at h;cases h;rw[zM3 e c,show x=.str b from a];rfl
 |.non::_,_,_,h,_=>by simp[Mi.strsD]at h
 |.int _::_,_,_,h,_=>by simp[Mi.strsD]at h
 |.bl _::_,_,_,h,_=>by simp[Mi.strsD]at h
 |.lst _::_,_,_,h,_=>by simp[Mi.strsD]at h
 |.tup _::_,_,_,h,_=>by simp[Mi.strsD]at h
 |.scr _::_,_,_,h,_=>by simp[Mi.strsD]at h
 |.exc _ _ _::_,_,_,h,_=>by simp[Mi.strsD]at h
 |.fn _ _::_,_,_,h,_=>by simp[Mi.strsD]at h
 |.ins _ _::_,_,_,h,_=>by simp[Mi.strsD]at h
 |.dct _::_,_,_,h,_=>by simp[Mi.strsD]at h
theorem zTX:RMt zWS Mi.joinD n:=by
 intro mg E G H z ds vs Q s h p;cases ds with
 |nil=>exact qA6 p
 |cons hd1 tl1=>
  cases hd1 with
  |lst es=>
   cases tl1 with
   |nil=>
    obtain⟨x,rfl,a,xs,rfl,ha,ra⟩:=zFU h;have p':PostE mg E G H n (optR (match Mi.strsD es with
     |some zs=>@ite _ ((zs.map (·.length)).sum+zs.length*z.length<=100000) (qA2 _) (some (.str (Str.join z zs))) none
     |none=>none)) Q:=p
    cases e:Mi.strsD es with
    |none=>rw[e]at p';exact p'.elim
    |some zs=>
     rw[e]at p';dsimp only at p'
     split at p'
     ·rename_i hz
      exact⟨zs,by rw[<- zM3 e ra];exact s _ _ ha,by lia,PostE.val p' (Ext.refl s) rfl rfl⟩
     ·exact p'.elim
   |cons _ _=>exact qA6 p
  |_=>exact qA6 p
end
end L3
namespace Mi
open PySem
noncomputable section
def noE{α:Type}(r:R α):R α:=match r with
 |some (.ok a)=>okR a
 |_=>none
def eCallN(f:FM)(am:AM):EM:=fun ρ=>zA3 (am ρ) fun ds=>noE (f ds)
def eMkX(c f:Str)(am:AM):EM:=fun ρ=>zA3 (am ρ) fun ds=>match ds with
 |[d]=>okR (.exc c f d)
 |_=>none
def sRaise(c f:Str)(am:AM):SM:=fun r=>zA3 (am (full r)) fun ds=>match ds with
 |[d]=>some (.error ⟨c,f,d⟩)
 |_=>none
def sRaise0(c:Str)(am:AM):SM:=fun r=>zA3 (am (full r)) fun ds=>@ite _ (ds.length<=1000) (qA2 _) (some (.error ⟨c,"",.non⟩)) none
def eAtX(hs:List Str)(f:Str)(a:EM):EM:=fun ρ=>zA3 (a ρ) fun d=>match d with
 |.exc c g x=>if c∈hs/\g=f then okR x else none
 |_=>none
def eIsX(ys ns:List Str)(a:EM):EM:=fun ρ=>zA3 (a ρ) fun d=>match d with
 |.exc c _ _=>if c∈ys then okR (.bl true)else if c∈ns then okR (.bl false)else none
 |_=>none
noncomputable def zX2(i:Nat):Out->Out
 |.nx r=>.nx (r.set i none)
 |.rt d=>.rt d
 |.bk r=>.bk (r.set i none)
 |.ct r=>.ct (r.set i none)
end
end Mi
namespace L3
open PySem PySem.Spec
open L2 hiding Rep RepL
open Mi (Dt Xn R okR zA3 optR zA0 zA8 zAG zA9 zAE Rh Sl Ro EM TM AM FM IM SM OM Tg Out zAT zB3 zB1 full frz frz1 frzAt)
section
variable[Kc]{mg:Str->Option Value}{E:XK}{L n k l:Nat}{te ta tb:TE}{e ea eb ma:EM}{t:TA}{m:AM}
theorem zS6{f:FM}(A:DA mg E t m 0):DE mg E (zL2 (spM mg n f) [] E0 t) (Mi.eCallN f m) n:=by
 intro G H σ ρ Q s w p;refine A.step errE s w p fun ds vs G1 H1 S T _ fr o p1=>?_
 refine⟨G1,ds,w.tab.trans fr.ext.g,fr.ext.in',by rw[qBw];exact o.repL,?_⟩;have p2:=PostE.from p1 fr.ext;cases e:f ds with
 |none=>rw[e]at p2;exact p2
 |some r=>
  rw[e]at p2;cases r with
  |error x=>exact p2.elim
  |ok d=>exact p2
def zG5(K:qA0)(f:Str):Sp:=fun vs H Q _=>∃e C y,vs=[.ref e,y]/\H e=some (xn e (.ref C) none)/\PySem.W.xcIn K C=true/\XSet K C f/\∀d,H d=none->d≠e->Q .non (upd (upd H d (.xd [(f,y)])) e (xn e (.ref C) (some d)))
theorem madeX{G H:Hp}{a e C:Addr}{f:Str}{y:V}{d:Dt}{o:HO}(s:Same G H)(ha:H a=none)(he:H e=none)(hne:a≠e)(r:Rep G d y) :
  Ext G H (upd (upd G a (.xd [(f,y)])) e o) (upd (upd H a (.xd [(f,y)])) e o)/\Rep (upd (upd G a (.xd [(f,y)])) e o) d y:=by
 have sg:Same G (upd (upd G a (.xd [(f,y)])) e o):=fun b u hb=>by
  have h1:b≠e:=fun z=>by rw[z]at hb;rw[s _ _ hb]at he;cases he
  have h2:b≠a:=fun z=>by rw[z]at hb;rw[s _ _ hb]at ha;cases ha
  rw[zA6 h1,zA6 h2];exact hb
 have sh:Same H (upd (upd H a (.xd [(f,y)])) e o):=fun b u hb=>by
  have h1:b≠e:=fun z=>by rw[z,he]at hb;cases hb
  have h2:b≠a:=fun z=>by rw[z,ha]at hb;cases hb
  rw[zA6 h1,zA6 h2];exact hb
 refine⟨⟨sg,sh,fun b u hb=>?_,fun b hb=>?_⟩,Rep.mono sg r⟩
 ·by_cases h1:b=e
  ·rw[h1,zAD]at hb;rw[h1,zAD];exact hb
  ·rw[zA6 h1]at hb;rw[zA6 h1]
   by_cases h2:b=a
   ·rw[h2,zAD]at hb;rw[h2,zAD];exact hb
   ·rw[zA6 h2]at hb;rw[zA6 h2];exact s _ _ hb
 ·have h1:b≠e:=fun z=>hb (by rw[z];exact he)
  have h2:b≠a:=fun z=>hb (by rw[z];exact ha)
  rw[zA6 h1,zA6 h2]
theorem zVS{G:Hp}{ds:List Dt}{vs:List V}(r:RepL G ds vs){d:Dt}(h:ds=[d]):∃y,vs=[y]/\Rep G d y:=by
 subst h;obtain⟨x,q,rfl,a,b⟩:=r
 cases(show q=[] from b)
 exact⟨x,rfl,a⟩
theorem zS3{c f:Str}{C:Addr}{E':XK}(hC:clK Kc.K c=some C)(hx:PySem.W.xcIn Kc.K C=true)(hs:XSet Kc.K C f)(A:DA mg E t m 0):DS mg E L (zLZ Kc.K E (zM0 C (zG5 Kc.K f) E' t)) (Mi.sRaise c f m):=by
 intro G0 H0 S0 σ ρ G H As D a p;obtain⟨J,x,s,w⟩:=a.full;refine A.step (errS.from x) x.in' w p fun ds vs G1 H1 S T _ fr o p1=>?_
 cases ds with
 |nil=>exact qA6 p1
 |cons d tl1=>
  cases tl1 with
  |nil=>
   obtain⟨y,rfl,r⟩:=zVS o.repL rfl;refine⟨by show 1<=sizeLine;decide,fun e he=>⟨e,C,y,rfl,zAD,hx,hs,fun b hb hne=>⟨rfl,e,C,some b,rfl,zAD,hx,?_⟩⟩⟩;have hb':H1 b=none:=by rw[zA6 hne]at hb;exact hb
   have hu:upd (upd (upd (upd H1 e (xn e (.ref C) none)) b (.xd [(f,y)])) e (xn e (.ref C) (some b))) e (xo e (.ref C) (some b))=upd (upd H1 b (.xd [(f,y)])) e (xo e (.ref C) (some b)):=by
    funext z
    by_cases h1:z=e
    ·rw[h1,zAD,zAD]
    ·rw[zA6 h1,zA6 h1,zA6 h1]
     by_cases h2:z=b
     ·rw[h2,zAD,zAD]
     ·rw[zA6 h2,zA6 h2,zA6 h1]
   rw[hu];obtain⟨x2,r'⟩:=madeX (C:=C) (f:=f) (o:=xo e (.ref C) (some b)) fr.ext.in' hb' he hne r;exact p1 (.ref e) (some b) _ _ ((x.trans fr.ext).trans x2) ⟨e,C,rfl,zAD,hC,.inr ⟨b,_,y,rfl,by rw[zA6 hne,zAD],by simp[qB6],r'⟩⟩
  |cons _ _=>exact qA6 p1
end
end L3
namespace L3
open PySem PySem.Spec
open L2 hiding Rep RepL
open Mi (Dt Xn R okR zA3 optR zA0 zA8 zAG zA9 zAE Rh Sl Ro EM TM AM FM IM SM OM Tg Out zAT zB3 zB1 full frz frz1 frzAt)
section
variable{K:qA0}{C D:Addr}{dd:Option Addr}{cd:ClassData}{sl:Array (Option Value)}{b:Bool}
def xcD(C:Addr)(cd:ClassData)(sl:Array (Option Value)):Bool:=match cd.mro,sl.toList with
 |.ref C'::bm,[_,_,_,_,some (.builtin n),_]=>C'==C && !cd.hasDel&&PySem.W.excTail bm&&n == "ValueError.__new__" && cd.hasDict
 |_,_=>false
theorem zKW(h:K.lookup C=some ⟨.type "type",dd,.cls cd,sl⟩)(h':xcD C cd sl=true):PySem.W.xcIn K C=true:=by
 unfold PySem.W.xcIn;rw[h];exact h'
theorem zU6(h:qBi K C=some cd)(h':PySem.W.excTail cd.mro=true):PySem.W.excOver K C=true:=by
 unfold PySem.W.excOver;rw[h];exact h'
theorem zK9(h1:qBi K D=some cd)(h2:qBg K (.ref D)=some (.type "type"))(h3:qAh K (.ref C) (.ref D)=some b):PySem.W.kitCls K (.ref C) (.ref D)=some b:=by
 show(if((qBi K D).isSome&&qBg K (.ref D)==some (.type "type"))=true then qAh K (.ref C) (.ref D)else none)=some b
 rw[h1,h2,if_pos (by rw[qFl,Bool.true_and];exact beq_self_eq_true _)];exact h3
theorem zCL(h1:qBi K D=some cd)(h2:qBg K (.ref D)=some (.type "type"))(h3:qAh K (.ref C) (.ref D)=some true):qAb K (.ref C) (.ref D)=some true:=by
 unfold qAb
 split
 ·rfl
 ·exact zK9 h1 h2 h3
theorem zBB(h1:qBi K D=some cd)(h2:qBg K (.ref D)=some (.type "type"))(h3:qAh K (.ref C) (.ref D)=some false)(ne:(C==D)=false):qAb K (.ref C) (.ref D)=some false:=by
 unfold qAb
 split
 ·rename_i z
  have:C=D:=Value.ref.inj (beq_iff_eq.mp z)
  rw[this,beq_self_eq_true]at ne;cases ne
 ·exact zK9 h1 h2 h3
end
structure XCls(K:qA0)(mg:Str->Option Value)(c:Str)(C:Addr):Prop where
 cl:clK K c=some C
 gm:mg c=some (.ref C)
 is:Xc.XIs K C
structure XIni(P:Program)(w:World)(K:qA0)(mg:Str->Option Value)(base:Heap)(c f:Str)(C:Addr):Prop extends XCls K mg c C where
 kp:qAd K (.ref C)=true
 st:XSet K C f
 fa:qA5 K (.ref C) f=some none
 ini:∃fI fd ps,qA5 K (.ref C) "__init__" = some (some (.ref fI))/\qB8 K (.ref fI)=true/\FnOk P w K mg base (CXe P w) 1 fI fd ps (zG5 K f)/\Binds K fd ps []
theorem zW6{X:Cx}{c f:Str}{C:Addr}{k:Nat}{E:XK}{e:Expr}{es:List Expr}{t:TA}{p pos:Pos}(h:XIni X.prog X.w X.K X.mg X.base c f C)(hr:Room k X.A)(hk:2<=k)(hf:Flies X E)(hg:Gl X c)(ha:PA X (e::es) t)(hdb:(c==("__debug__":Str))=false:=by decide)
  (he:starEach (e::es) X.env=(false,eval e X.env)::starEach es X.env:=by rfl) (hpl:(backTo pos (starEach es X.env)).any (·.1)=false:=by rfl):PE X (.Call (.Name c p) (e::es) [] pos) (zM0 C (zG5 X.K f) E t):=by
 obtain⟨fI,fd,ps,h1,h2,F,hb⟩:=h.ini;exact zR6 h.is.xc h1 h2 F (hr.mono hk) hb hf.passes hg h.gm h.kp ha hdb he hpl
theorem zRQ{K:qA0}{f a0 a1:Str}{vs:List V}{H:Hp}{Q:VK}{E:XK}(h:zG5 K f vs H Q E) :
  tSeq (zN4 (zSD K (zEV (tVar 0) (zEV (tVar 1) tNil)))) (zSE K (tVar 0) (tVar 1) f) { nx:=fun _ H'=>Q .non H',rt:=Q } (start [a0,a1] vs) H:=by
 obtain⟨e,C,y,rfl,he,hx,hs,q⟩:=h;exact⟨.ref e,rfl,y,rfl,e,C,none,[y],rfl,he,hx,(by show 1<=sizeLine;decide),y,rfl,.ref e,rfl,e,C,rfl,he,hs,q⟩
theorem zRR{K:qA0}{f:Str}{ps:List Str}(hp:ps.length=2):∀vs H Q E,zG5 K f vs H Q E->vs.length=ps.length:=by
 rintro vs H Q E ⟨e,C,y,rfl,_⟩
 rw[hp];rfl
theorem zBG{K:qA0}{c:Str}{C:Addr}(h:qAt K mainGlobals c=some (some (.ref C))):clK K c=some C:=by unfold clK;rw[h]
theorem zY5:qDk (.builtin "ValueError.__init__")=true:=by decide +kernel
noncomputable def zY4:Stmt->Stmt
 |.ClassDef _ _ _ body _ _ _ _ _ _ _=>body.getD 0 (.Pass ⟨0,0,0,0⟩)
 |s=>s
def spE(K:qA0)(mg:Str->Option Value)(L:Nat)(f:Mi.FM):Sp:=fun vs H Q E=>@spM ⟨K⟩ mg L f vs H Q E
section
variable[Kc]{mg:Str->Option Value}{E:XK}{L n k l:Nat}{te ta tb:TE}{e ea eb ma:EM}{t:TA}{m:AM}
theorem zMU{f:FM}{E':XK}(A:DA mg E t m 0):DE mg E (zL2 (sp0 Kc.K mg n f) [] E' t) (Mi.eCallN f m) n:=zS6 A
theorem zDZ{f:FM}(A:DA mg E t m 0):DE mg E (zL2 (spE Kc.K mg n f) [] E t) (Mi.eCall f m) n:=zC1 A
theorem zPV{P:Program}{w:World}{base:Heap}{c f:Str}{C:Addr}{E':XK}(h:XIni P w Kc.K mg base c f C)(A:DA mg E t m 0):DS mg E L (zLZ Kc.K E (zM0 C (zG5 Kc.K f) E' t)) (Mi.sRaise c f m):=zS3 h.cl h.is.xc h.st A
end
def zHF(K:qA0):Sp:=fun vs H Q _=>∃(a:Addr)(ns:List Int),vs=[.ref a]/\Same (tabK K) H/\SqL K H a (ns.map V.int)/\ns.length<=63/\(∀i∈ns,i.natAbs.log2<2 ^ 20)/\∀H',Same (tabK K) H'->Q (.bl true) H'
theorem zRL{K:qA0}{mg:Str->Option Value}{L:Nat}{f:FM}(hf:∀ns:List Int,ns.length<=63->(∀i∈ns,i.natAbs.log2<2 ^ 20)->f [.scr ns]=okR (.bl true)):∀vs H Q E,zHF K vs H Q E->sp0 K mg L f vs H Q E:=by
 letI:Kc:=⟨K⟩
 rintro vs H Q E ⟨a,ns,rfl,tb,hS,hl,hw,q⟩
 refine⟨H,[.scr ns],tb,Same.refl _,⟨_,_,rfl,⟨a,rfl,.inl hS⟩,rfl⟩,?_⟩;rw[hf ns hl hw];intro v G' H' S fr o
 cases(show v=.bl true by cases L<;>exact o)
 exact q H' (tb.trans fr.ext.h)
end L3
namespace Mi
open PySem
section
variable(ρ:Rh)(r:Ro)(a b c:EM)(s t:SM)(q q':TM)(am:AM)
@[simp] theorem x_eC(d:Dt):eC d ρ=okR d:=rfl
@[simp] theorem x_eV(i:Nat):eV i ρ=match ρ[i]? with|some (some d)=>okR d|_=>none:=rfl
@[simp] theorem x_eB(f:Dt->Dt->Option Dt):eB f a b ρ=zA3 (a ρ) fun x=>zA3 (b ρ) fun y=>optR (f x y):=rfl
@[simp] theorem x_eU(f:Dt->Option Dt):eU f a ρ=zA3 (a ρ) fun x=>optR (f x):=rfl
@[simp] theorem zES:aNil ρ=okR []:=rfl
@[simp] theorem zCP:aCons a am ρ=zA3 (a ρ) fun x=>zA3 (am ρ) fun xs=>okR (x::xs):=rfl
@[simp] theorem zI1(f:FM):eCall f am ρ=zA3 (am ρ) f:=rfl
@[simp] theorem zTG(f:List Dt->Option Dt):eBi f am ρ=zA3 (am ρ) fun xs=>optR (f xs):=rfl
@[simp] theorem x_eLst:eLst am ρ=zA3 (am ρ) fun xs=>@ite _ (xs.length<=100000) (qA2 _) (okR (.lst xs)) none:=rfl
@[simp] theorem x_eTup:eTup am ρ=zA3 (am ρ) fun xs=>@ite _ (xs.length<=100000) (qA2 _) (okR (.tup xs)) none:=rfl
@[simp] theorem x_eIsi(n:String):eIsi n a ρ=zA3 (a ρ) fun x=>optR (isiD n x):=rfl
@[simp] theorem x_eAnd:eAnd a b ρ=zA3 (a ρ) fun x=>match x with | .bl k=>if k=true then b ρ else okR (.bl false)|_=>none:=rfl
@[simp] theorem x_eOr:eOr a b ρ=zA3 (a ρ) fun x=>match x with | .bl k=>if k=true then okR (.bl true)else b ρ|_=>none:=rfl
@[simp] theorem x_eNot:eNot a ρ=zA3 (a ρ) fun x=>match x with | .bl k=>okR (.bl (!k))|_=>none:=rfl
@[simp] theorem x_eChain(f g:Dt->Dt->Option Dt):zX6 f g a b c ρ=zA3 (a ρ) fun x=>zA3 (b ρ) fun y=>zA3 (optR (f x y)) fun z=>match z with | .bl k=>if k=true then zA3 (c ρ) fun w=>optR (g y w)else okR (.bl false)|_=>none:=rfl
@[simp] theorem x_eIf:eIf q a b ρ=zA3 (q ρ) fun k=>if k=true then a ρ else b ρ:=rfl
@[simp] theorem x_tB:tB a ρ=zA3 (a ρ) fun x=>match x with | .bl k=>okR k|_=>none:=rfl
@[simp] theorem x_tM:tM a ρ=zA3 (a ρ) fun x=>match x with | .bl k=>okR k | .int i=>okR (i != 0) | .non=>okR false|_=>none:=rfl
@[simp] theorem zVA:tAn q q' ρ=zA3 (q ρ) fun k=>if k=true then q' ρ else okR false:=rfl
@[simp] theorem zXH:tOr q q' ρ=zA3 (q ρ) fun k=>if k=true then okR true else q' ρ:=rfl
@[simp] theorem zXI:tNo q ρ=zA3 (q ρ) fun k=>okR (!k):=rfl
@[simp] theorem x_tYes:tYes ρ=okR true:=rfl
@[simp] theorem zSB:sNil r=okR (.nx r):=rfl
@[simp] theorem zHC:sSeq s t r=zA3 (s r) fun o=>match o with | .nx ρ'=>t ρ'|o=>okR o:=rfl
@[simp] theorem zJ6:sIf q s t r=zA3 (q (full r)) fun k=>if k=true then s r else t r:=rfl
@[simp] theorem x_sDrop:zXS a r=zA3 (a (full r)) fun _=>okR (.nx r):=rfl
@[simp] theorem x_sBreak:zVQ r=okR (.bk r):=rfl
@[simp] theorem x_sCont:zXT r=okR (.ct r):=rfl
@[simp] theorem x_sNever:zVP r=none:=rfl
@[simp] theorem x_sRetN:zXR r=okR (.rt .non):=rfl
@[simp] theorem zJ5(i n:Nat)(vs:List Nat):sSet i n vs a r=zA3 (a (full r)) fun d=>if d.dep<=n then okR (.nx (r.set i (some (d,n))))else zA3 (a (frz (frzAt vs r))) fun d'=>okR (.nx ((frzAt vs r).set i (some (d',n)))):=rfl
@[simp] theorem zSA(L n:Nat)(vs:List Nat):sRet L n vs a r=zA3 (a (full r)) fun d=>if d.dep<=n/\d.dep<=L then okR (.rt d)else if n=L then zA3 (a (frz (frzAt vs r))) fun d'=>okR (.rt d')else none:=rfl
@[simp] theorem x_sRetV(L i:Nat):sRetV L i r=match r[i]? with|some (some (d,k))=>if k=L\/L=0\/(d.dep<=k/\d.dep<=L/\k<1000)then okR (.rt d)else none|_=>none:=rfl
@[simp] theorem zFC:full []=[]:=rfl
@[simp] theorem zEE(o:Option Sl)(r:Ro):full (o::r)=o.map qHh::full r:=rfl
@[simp] theorem x_frz_nil:frz []=[]:=rfl
@[simp] theorem x_frz_none(r:Ro):frz (none::r)=none::frz r:=rfl
@[simp] theorem x_frz_some(d:Dt)(n:Nat)(r:Ro):frz (some (d,n)::r)=(if n=0\/d.dep=0 then some d else none)::frz r:=rfl
@[simp] theorem x_frzAt_nil(r:Ro):frzAt [] r=r:=rfl
@[simp] theorem x_frzAt_cons(i:Nat)(v:List Nat)(r:Ro):frzAt (i::v) r=frzAt v (frz1 i r):=rfl
@[simp] theorem x_frz1(i:Nat)(r:Ro):frz1 i r=match r[i]? with|some (some (d,_))=>r.set i (some (d,0))|_=>r:=rfl
@[simp] theorem x_startO(n:Nat)(ds:List Dt):startO n ds=ds.map (fun d=>some (d,0))++qAm (n-ds.length) none:=rfl
@[simp] theorem x_runF(P n:Nat)(ds:List Dt):runF P n s ds=if ds.length=P then zA3 (s (startO n ds)) endF else none:=rfl
@[simp] theorem x_end1(r:Ro):endF (.nx r)=okR .non:=rfl
@[simp] theorem x_end2(d:Dt):endF (.rt d)=okR d:=rfl
end
@[simp] theorem zVE(i j:Int):addD (.int i) (.int j)=some (.int (i+j)):=rfl
@[simp] theorem zJ9(i j:Str):addD (.str i) (.str j)=@ite _ (i.length+j.length<=100000) (qA2 _) (some (.str (i++j))) none:=rfl
@[simp] theorem v_addL(i j:List Dt):addD (.lst i) (.lst j)=@ite _ (i.length+j.length<=100000) (qA2 _) (some (.lst (i++j))) none:=rfl
@[simp] theorem v_sub(i j:Int):subD (.int i) (.int j)=some (.int (i-j)):=rfl
@[simp] theorem zTI(i j:Int):mulD (.int i) (.int j)=@ite _ (((-18446744073709551616<i/\i<18446744073709551616)\/(-18446744073709551616<j/\j<18446744073709551616))\/i.natAbs.log2+j.natAbs.log2<=67108864) (qA2 _) (some (.int (i*j))) none:=rfl
@[simp] theorem v_div(i j:Int):divD (.int i) (.int j)=@ite _ (0<j/\j<1000000000000000000000000) (qA2 _) (some (.int (i/j))) none:=rfl
@[simp] theorem zO0(i j:Int):modD (.int i) (.int j)=if 0<j then some (.int (i%j))else none:=rfl
@[simp] theorem v_pow(i j:Int):powD (.int i) (.int j)=@ite _ (0<=j/\j<=1000000/\i.natAbs<18446744073709551616) (qA2 _) (some (.int (i ^ j.toNat))) none:=rfl
@[simp] theorem v_neg(i:Int):negD (.int i)=some (.int (-i)):=rfl
@[simp] theorem v_cmp(p:Int->Int->Bool)(i j:Int):cmpD p (.int i) (.int j)=some (.bl (p i j)):=rfl
@[simp] theorem v_eq(x y:Dt):eqD x y=if x.dep<=40/\y.dep<=40 then some (.bl (Dt.eq x y))else none:=rfl
@[simp] theorem v_ne(x y:Dt):neD x y=if x.dep<=40/\y.dep<=40 then some (.bl (!Dt.eq x y))else none:=rfl
@[simp] theorem v_is(x:Dt):isD x .non=some (.bl (zEA x)):=rfl
@[simp] theorem v_isnt(x:Dt):zY3 x .non=some (.bl (!zEA x)):=rfl
@[simp] theorem v_isN1:zEA .non=true:=rfl
@[simp] theorem v_isN2(i:Int):zEA (.int i)=false:=rfl
@[simp] theorem v_isN3(i:List Dt):zEA (.lst i)=false:=rfl
@[simp] theorem v_isN4(i:List Dt):zEA (.tup i)=false:=rfl
@[simp] theorem v_isN5(i:Str):zEA (.str i)=false:=rfl
@[simp] theorem v_isN6(i:Bool):zEA (.bl i)=false:=rfl
@[simp] theorem zEU(xs:List Dt)(i:Int):ixD (.lst xs) (.int i)=itA xs i:=rfl
@[simp] theorem zL0(xs:List Dt)(i:Int):ixD (.tup xs) (.int i)=itA xs i:=rfl
@[simp] theorem v_ixS(ns:List Int)(i:Int):ixD (.scr ns) (.int i)=(itA ns i).map .int:=rfl
@[simp] theorem v_lenL(xs:List Dt):lenD [.lst xs]=some (.int xs.length):=rfl
@[simp] theorem v_lenT(xs:List Dt):lenD [.tup xs]=some (.int xs.length):=rfl
@[simp] theorem v_lenS(ns:List Int):lenD [.scr ns]=some (.int ns.length):=rfl
@[simp] theorem v_listL(xs:List Dt):zPD [.lst xs]=some (.lst xs):=rfl
@[simp] theorem v_listT(xs:List Dt):zPD [.tup xs]=some (.lst xs):=rfl
@[simp] theorem v_listS(ns:List Int):zPD [.scr ns]=some (.lst (ns.map .int)):=rfl
@[simp] theorem v_dn:Dt.non.dep=0:=rfl
@[simp] theorem v_db(b:Bool):(Dt.bl b).dep=0:=rfl
@[simp] theorem v_di(b:Int):(Dt.int b).dep=0:=rfl
@[simp] theorem v_ds(b:Str):(Dt.str b).dep=0:=rfl
@[simp] theorem v_dS(b:List Int):(Dt.scr b).dep=1000:=by rw[Dt.dep]
@[simp] theorem v_dl(xs:List Dt):(Dt.lst xs).dep=Dt.depL xs+1:=by rw[Dt.dep]
@[simp] theorem v_dt(xs:List Dt):(Dt.tup xs).dep=Dt.depL xs+1:=by rw[Dt.dep]
@[simp] theorem v_dnil:Dt.depL []=0:=by rw[Dt.depL]
@[simp] theorem zI3(x:Dt)(r:List Dt):Dt.depL (x::r)=max x.dep (Dt.depL r):=by rw[Dt.depL]
@[simp] theorem v_e1(i j:Int):Dt.eq (.int i) (.int j)=decide (i=j):=by rw[Dt.eq];by_cases h:i=j<;>simp[h]
@[simp] theorem v_e2(i j:Str):Dt.eq (.str i) (.str j)=decide (i=j):=by rw[Dt.eq];by_cases h:i=j<;>simp[h]
@[simp] theorem v_e3(i j:Bool):Dt.eq (.bl i) (.bl j)=decide (i=j):=by rw[Dt.eq];by_cases h:i=j<;>simp[h]
@[simp] theorem v_e4(i j:List Dt):Dt.eq (.lst i) (.lst j)=Dt.eqL i j:=by rw[Dt.eq]
@[simp] theorem v_e5(i j:List Dt):Dt.eq (.tup i) (.tup j)=Dt.eqL i j:=by rw[Dt.eq]
@[simp] theorem v_e6:Dt.eq .non .non=true:=by rw[Dt.eq]
@[simp] theorem zGS:∀(ns:List Int),Dt.depL (ns.map Dt.int)=0
 |[]=>by simp
 |n::r=>by rw[qAu,zI3,zGS r];rfl
@[simp] theorem zS5:∀(xs ys:List Dt),Dt.depL (xs++ys)=max (Dt.depL xs) (Dt.depL ys)
 |[],ys=>by simp
 |x::r,ys=>by rw[qBa,zI3,zI3,zS5 r ys];exact(Nat.max_assoc _ _ _).symm
@[simp] theorem zIR:∀(ns ms:List Int),Dt.eqL (ns.map Dt.int) (ms.map Dt.int)=decide (ns=ms)
 |[],[]=>by simp[Dt.eqL]
 |[],_::_=>by simp[Dt.eqL]
 |_::_,[]=>by simp[Dt.eqL]
 |n::r,m::q=>by rw[qAu,qAu,Dt.eqL,zIR r q,v_e1];simp
theorem zC4{α:Type}{xs:List α}{i:Int}{j:Nat}{v:α}(e:i=(j:Int))(h:xs[j]?=some v):itA xs i=some v:=by
 have hj:j<xs.length:=(qA3.mp h).1;subst e;unfold itA ixA;rw[if_pos (by lia),if_pos (by lia)]
 simpa using h
theorem zUN{ns:List Int}{i:Int}(h0:0<=i)(h1:i<ns.length):itA ns i=some (ns.getD i.toNat 0):=by
 refine zC4 (j:=i.toNat) (by lia) ?_;rw[qA1,qA9 (by lia)];rfl
@[simp] theorem set_int(ns:List Int)(i:Nat)(x:Int):(ns.map Dt.int).set i (.int x)=(ns.set i x).map Dt.int:=by rw[List.map_set]
theorem zLF{tg:Tg}{b:SM}(Pv:Nat->Ro->Prop):∀(ds:List Dt)(i:Nat)(r:Ro),Pv i r->(∀(j:Nat)(d:Dt)(r:Ro),ds[j]?=some d->Pv (i+j) r->∃bs r',zAT tg d=some bs/\b (zB1 r bs)=okR (.nx r')/\Pv (i+j+1) r') ->
  ∃r',forGo tg b ds r=okR (.nx r')/\Pv (i+ds.length) r'
 |[],i,r,h,_=>⟨r,by simp[forGo],by simpa using h⟩
 |d::ds,i,r,h,hs=>by
  obtain⟨bs,r1,h1,h2,h3⟩:=hs 0 d r (by simp) (by simpa using h);obtain⟨r2,h4,h5⟩:=zLF Pv ds (i+1) r1 (by simpa using h3) fun j e r he hp=>by
   have:=hs (j+1) e r (by simpa using he) (by rw[show i+(j+1)=i+1+j by lia];exact hp)
   rw[show i+1+j+1=i+(j+1)+1 by lia];exact this
  refine⟨r2,?_,by rw[qAp,show i+(ds.length+1)=i+1+ds.length by lia];exact h5⟩;rw[forGo,h1];simp only;rw[h2,zA0];exact h4
end Mi
namespace Mi
open PySem
section
variable(ρ:Rh)(r:Ro)(a:EM)(am:AM)(s:SM)
@[simp] theorem x_noE_ok{α:Type}(x:α):noE (okR x)=okR x:=rfl
@[simp] theorem x_noE_none{α:Type}:noE (none:R α)=none:=rfl
@[simp] theorem x_noE_err{α:Type}(e:Xn):noE (some (.error e):R α)=none:=rfl
@[simp] theorem x_eCallN(f:FM):eCallN f am ρ=zA3 (am ρ) fun ds=>noE (f ds):=rfl
@[simp] theorem x_eMkX(c f:Str):eMkX c f am ρ=zA3 (am ρ) fun ds=>match ds with|[d]=>okR (.exc c f d)|_=>none:=rfl
@[simp] theorem x_sRaise(c f:Str):sRaise c f am r=zA3 (am (full r)) fun ds=>match ds with|[d]=>some (.error ⟨c,f,d⟩)|_=>none:=rfl
@[simp] theorem x_eAtX(hs:List Str)(f:Str):eAtX hs f a ρ=zA3 (a ρ) fun d=>match d with | .exc c g x=>if c∈hs/\g=f then okR x else none|_=>none:=rfl
@[simp] theorem x_eIsX(ys ns:List Str):eIsX ys ns a ρ=zA3 (a ρ) fun d=>match d with | .exc c _ _=>if c∈ys then okR (.bl true)else if c∈ns then okR (.bl false)else none|_=>none:=rfl
@[simp] theorem x_gone_nx(i:Nat):zX2 i (.nx r)=.nx (r.set i none):=rfl
@[simp] theorem x_gone_rt(i:Nat)(d:Dt):zX2 i (.rt d)=.rt d:=rfl
end
example (d:Dt):True:=trivial
end Mi
namespace L2
open PySem PySem.Spec PyProof.Rows
section
variable{X:Cx}
end
section
variable{X:Cx}{K:qA0}
end
end L2
namespace Mi
open PySem
noncomputable section
noncomputable def xorD:Dt->Dt->Option Dt
 |.int i,.int j=>some (.int (Builtin.bitXor i j))
 |_,_=>none
noncomputable def repD:Dt->Dt->Option Dt
 |.lst xs,.int k=>@ite _ ((-4611686018427387904<=k/\k<4611686018427387904)/\xs.length*k.toNat<=100000) (qA2 _) (some (.lst (qAm k.toNat xs).flatten)) none
 |_,_=>none
def tL(a:EM):TM:=fun ρ=>zA3 (a ρ) fun x=>match x with
 |.bl k=>okR k
 |.int i=>okR (i != 0)
 |.non=>okR false
 |.lst xs=>okR (!xs.isEmpty)
 |.tup xs=>okR (!xs.isEmpty)
 |_=>none
def iRv(e:AM):IM:=fun ρ=>zA3 (e ρ) fun vs=>match vs with
 |[.lst xs]=>okR xs.reverse
 |_=>none
noncomputable def intsD:List Dt->Option (List Int)
 |[]=>some []
 |.int i::r=>(intsD r).map (i::·)
 |_::_=>none
def eMl(f:List Dt->List Dt->Option Dt)(a:EM)(am:AM):EM:=fun ρ=>zA3 (a ρ) fun x=>match x with
 |.lst xs=>zA3 (am ρ) fun ds=>optR (f xs ds)
 |_=>none
def sExt(i n:Nat)(e:EM):SM:=fun ρ=>match ρ[i]? with
 |some (some (.lst ds,k+1))=>zA3 (e (full ρ)) fun d=>match d with
  |.lst es=>@ite _ (ds.length+es.length<=100000/\Dt.depL es<=n/\Dt.depL es<=k) (qA2 _) (okR (.nx (ρ.set i (some (.lst (ds++es),k+1))))) none
  |_=>none
 |_=>none
noncomputable def low(i:Nat)(ρ:Ro):Ro:=match ρ[i]? with
 |some (some (.lst ds,_+1))=>ρ.set i (some (.lst ds,1))
 |_=>ρ
def sAppF(i:Nat)(vs:List Nat)(e:EM):SM:=fun ρ=>match(frzAt vs (low i ρ))[i]? with
 |some (some (.lst ds,1))=>zA3 (e (frz (frzAt vs (low i ρ)))) fun d=>@ite _ (ds.length<=100000) (qA2 _) (okR (.nx ((frzAt vs (low i ρ)).set i (some (.lst (ds++[d]),1))))) none
 |_=>none
end
end Mi
namespace L3
open PySem PySem.Spec
open L2 hiding Rep RepL
open Mi (Dt Xn R okR zA3 optR zA0 zA8 zAG zA9 zAE Rh Sl Ro EM TM AM FM IM SM Tg Out zAT zB3 zB1 full frz frz1 frzAt)
section
variable[Kc]{mg:Str->Option Value}{E:XK}{L n k l:Nat}{te ta tb:TE}{e ea eb ma:EM}{t:TA}{m:AM}
theorem zR0{G:Hp}{ds es:List Dt}{xs ys:List V}(ra:RepL G ds xs)(rb:RepL G es ys):RepL G (ds++es) (xs++ys):=by
 refine zFJ (by simp[ra.length,rb.length]) fun j d' x' e1 e2=>?_
 by_cases hj:j<ds.length
 ·rw[qAa hj]at e1;rw[qAa (by rw[ra.length];exact hj)]at e2;exact zCG ra e1 e2
 ·rw[qA8 (by lia)]at e1;rw[qA8 (by rw[ra.length];lia),ra.length]at e2;exact zCG rb e1 e2
theorem zMD{G:Hp}{ds:List Dt}{xs:List V}(r:RepL G ds xs):RepL G ds.reverse xs.reverse:=by
 induction ds generalizing xs with
 |nil=>cases r;rfl
 |cons d q ih=>
  obtain⟨x,t,rfl,a,b⟩:=r;rw[qFz,qFz];exact zR0 (ih b) ⟨x,[],rfl,a,rfl⟩
theorem intsD_rep{G:Hp}:∀{ds:List Dt}{ns:List Int}{xs:List V},Mi.intsD ds=some ns->RepL G ds xs->xs=ns.map V.int
 |[],ns,xs,h,r=>by cases h;exact r
 |d::q,ns,xs,h,r=>by
  cases d with
  |int i=>
   rw[Mi.intsD]at h;cases e:Mi.intsD q with
   |none=>rw[e]at h;cases h
   |some ms=>
    rw[e]at h;cases h;obtain⟨x,t,rfl,a,b⟩:=r
    cases(show x=.int i from a)
    rw[intsD_rep e b];rfl
  |_=>cases h
end
end L3
namespace L3
open PySem PySem.Spec
open L2 hiding Rep RepL
open Mi (Dt Xn R okR zA3 optR zA0 zA8 zAG zA9 zAE Rh Sl Ro EM TM AM FM IM SM Tg Out zAT zB3 zB1 full frz frz1 frzAt)
section
variable[Kc]{G0 H0 S0:Hp}{σ:St}{ρ:Ro}{G H:Hp}{As:Nat->Addr->Prop}
theorem Sat.low(a:Sat G0 H0 S0 σ ρ G H As)(i:Nat):∃G1 As1,Sat G0 H0 S0 σ (Mi.low i ρ) G1 H As1:=by
 unfold Mi.low
 split
 ·rename_i ds k e1
  obtain⟨v,h1,q,xs,T,rfl,hq,kd⟩:=a.at i _ _ e1;obtain⟨s1,s2⟩:=zDP (S:=fun b=>∃r,T r b) a.ext.in';have ui:∀b,(∃r,T r b)->As i b:=fun b ⟨r,z⟩=>kd.sub r b z
  have x:Ext G0 H0 (over G H fun b=>∃r,T r b) H:=⟨a.ext.g.trans s1,a.ext.h,s2,fun b hb=>by
   have z:¬ ∃r,T r b:=fun z=>hb (a.new i b (ui b z)).1
   rw[zCJ z];exact a.ext.old b hb⟩
  refine⟨over G H fun b=>∃r,T r b,fun j b=>As j b/\¬ ∃r,T r b,x,a.stb.trans s1,a.tab,by simp[a.len],fun j e n h=>?_,fun j l b p q=>a.dis j l b p.1 q.1,fun j b p=>?_⟩
  ·have hj:j<ρ.length:=by
    have:=(qA3.mp h).1
    simpa using this
   by_cases z:i=j
   ·subst z;rw[qB1 hj]at h;cases h;exact⟨.ref q,h1,q,xs,fun _ _=>False,rfl,hq,⟨kd.len,fun r d x g1 g2=>(kd.own r d x g1 g2).rep s1 fun b o hb e=>by rw[zEM ⟨r,hb⟩];exact e,⟨kd.top,fun⟨r,z⟩=>kd.out r z⟩,fun _ z=>z,fun _ _ _ z=>z.elim,fun _ _ z=>z.elim⟩⟩
   ·rw[qB4 z]at h;obtain⟨u,q1,q2⟩:=a.at j e n h;exact⟨u,q1,(q2.mono s1 (Same.refl _)).sub fun b hb=>⟨hb,fun w=>z (a.dis i j b (ui b w) hb)⟩⟩
  ·obtain⟨n1,n2,n3⟩:=a.new j b p.1;exact⟨n1,by rw[zCJ p.2];exact n2,n3⟩
 ·exact⟨G,As,a⟩
end
section
variable[Kc]{mg:Str->Option Value}{E:XK}{L n k l:Nat}{te ta tb:TE}{e ea eb ma:EM}{t:TA}{m:AM}
theorem zPX(i:Nat)(vs:List Nat)(A:DE mg E te e n):DS mg E L (zN4 (tML appM (vM i) (zEV te tNil))) (Mi.sAppF i vs e):=by
 intro G0 H0 S0 σ ρ G H As D a p;obtain⟨G1,As1,a1⟩:=a.low i;obtain⟨G2,As2,a2⟩:=Sat.frzAt vs a1;unfold Mi.sAppF at p
 generalize hρ:frzAt vs (Mi.low i ρ)=ρ2 at p a2
 split at p
 ·rename_i ds e1
  obtain⟨v,h1,q,xs,T,rfl,hq,kd⟩:=a2.at i _ _ e1;unfold zN4 tML vM;rw[h1];refine⟨xs,hq,?_⟩;refine(zB7 A).step (errS.from a2.ext) a2.ext.in' a2.frz p fun d y G3 H3 S _ fr o p1=>?_
  split at p1
  ·rename_i hz
   refine⟨xs,fr.ext.h _ _ hq,by rw[kd.len];exact L2.big (by lia),?_⟩;have a3:=a2.wider fr.ext;have kd1:Kids (Own G3 H3 0) (As2 i) q ds xs T:=kd.imp (fun _ _ _ _ w=>w.mono fr.ext.g fr.ext.h) fun _ z=>z
   refine p1 σ G3 _ _ (a3.store (S:=As2 i) kd.top h1 ⟨q,_,fun _ _=>False,rfl,zAD,⟨by simp[kd.len],fun r d' z g1 g2=>?_,kd.top,fun _ z=>z,fun _ _ _ z=>z.elim,fun _ _ z=>z.elim⟩⟩ fun b z=>.inl z)
   by_cases hr:r<ds.length
   ·rw[qAa hr]at g1;rw[qAa (by rw[kd.len];exact hr)]at g2;exact kd1.own r d' z g1 g2
   ·rw[qA8 (by lia)]at g1;rw[qA8 (by rw[kd.len];lia),kd.len]at g2;have hq0:r-ds.length=0:=by
     have:=(qA3.mp g1).1
     simp at this;lia
    rw[hq0]at g1 g2;simp at g1 g2;subst g1;subst g2;exact o
  ·exact p1.elim
 ·exact p.elim
end
end L3
namespace L3
open PySem PySem.Spec
open L2 hiding Rep RepL
open Mi (Dt Xn R okR zA3 optR zA0 zA8 zAG zA9 zAE Rh Sl Ro EM TM AM FM IM SM Tg Out zAT zB3 zB1 full frz frz1 frzAt)
structure XNo(K:qA0)(mg:Str->Option Value)(c:Str)(C:Addr):Prop extends XCls K mg c C where
 kp:qAd K (.ref C)=true
 ini:qA5 K (.ref C) "__init__" = some (some (.builtin "ValueError.__init__"))
theorem zW7{X:Cx}{c:Str}{C:Addr}{e:Expr}{es:List Expr}{t:TA}{p pos:Pos}(h:XNo X.K X.mg c C)(hg:Gl X c)(ha:PA X (e::es) t)(hdb:(c==("__debug__":Str))=false:=by decide)
  (he:starEach (e::es) X.env=(false,eval e X.env)::starEach es X.env:=by rfl) (hpl:(backTo pos (starEach es X.env)).any (·.1)=false:=by rfl):PE X (.Call (.Name c p) (e::es) [] pos) (zL1 C t):=
 zOV h.is.xc h.ini hg h.gm h.kp ha hdb he hpl
section
variable[Kc]{mg:Str->Option Value}{E:XK}{L n k l:Nat}{te ta tb:TE}{e ea eb ma:EM}{t:TA}{m:AM}
theorem zPW{c:Str}{C:Addr}(h:XNo Kc.K mg c C)(A:DA mg E t m 0):DS mg E L (zLZ Kc.K E (zL1 C t)) (Mi.sRaise0 c m):=by
 intro G0 H0 S0 σ ρ G H As D a p;obtain⟨J,x,s,w⟩:=a.full;refine A.step (errS.from x) x.in' w p fun ds vs G1 H1 S T _ fr o p1=>?_
 split at p1
 ·rename_i hz
  refine⟨by rw[o.len];exact big' (by lia),fun e he=>⟨e,C,none,rfl,zAD,h.is.xc,?_⟩⟩;have hu:upd (upd H1 e (xn e (.ref C) none)) e (xo e (.ref C) none)=upd H1 e (xo e (.ref C) none):=by
   funext z
   by_cases h1:z=e
   ·rw[h1,zAD,zAD]
   ·rw[zA6 h1,zA6 h1,zA6 h1]
  rw[hu];exact p1 (.ref e) none _ _ ((x.trans fr.ext).trans (Ext.new fr.ext.in' he _)) ⟨e,C,rfl,zAD,h.cl,.inl ⟨rfl,rfl⟩⟩
 ·exact p1.elim
end
end L3
namespace L2
open PySem PySem.Spec PyProof.Rows
section
variable{X:Cx}
noncomputable def zE6(z:Str):List V:=z.cps.toList.map fun c=>.str ⟨#[c]⟩
def rListX(K:qA0):List V->Hp->VK->Prop:=fun vs H Q=>match vs with
 |[.str z]=>z.length<=sizeLine/\∀l,H l=none->Q (.ref l) (upd H l (.lst (zE6 z)))
 |_=>zHI K vs H Q
theorem zKB:∀{ns:List Int}{vs:List Value},IntsAre vs ns->Vals (ns.map V.int) vs
 |_,_,.nil=>.nil
 |_,_,.cons n t h=>.cons ⟨t,rfl⟩ (zKB h)
theorem zJD:∀{ns:List Str}{vs:List Value},StrsAre vs ns->Vals (ns.map V.str) vs
 |_,_,.nil=>.nil
 |_,_,.cons n t h=>.cons ⟨t,rfl⟩ (zJD h)
def zSI:V->List V->Hp->VK->Prop:=fun x vs H Q=>match x,vs with
 |.str z,[.str y]=>Q (.int (Txt.rfind z y)) H
 |_,_=>False
theorem zP6:MtR X "str.rfind" zSI:=by
 intro pins s σ H x vs v us Q I rx rv h;cases x with
 |str z=>
  cases vs with
  |nil=>exact qA6 h
  |cons hd1 tl1=>
   cases hd1 with
   |str y=>
    cases tl1 with
    |nil=>
     obtain⟨t,rfl⟩:=rx;obtain⟨u,rfl,ru⟩:=zE4 rv;obtain⟨t2,rfl⟩:=ru;exact SC.rfind ⟨.int _,H,I.tok _,⟨_,rfl⟩,h⟩
    |cons _ _=>exact qA6 h
   |_=>exact qA6 h
 |_=>exact qA6 h
end
def Itw(z:Str):It:=
 ⟨fun i H=>i<z.cps.size,fun i H x H'=>∃T c,x=.ref T/\H T=none/\H'=upd H T (.tup [.int i,.str ⟨#[c]⟩])/\z.cps[i]?=some c,fun i H=>z.cps.size<=i⟩
theorem zT4{prog:Program}{w:World}{A:Around}(hh:A.handled=none)(it:Addr)(x:Str)(t:Tok) :
  Draws prog w A it [it] x.cps.size (fun i v=>∃c u,x.cps[i]?=some c/\v=.str ⟨#[c]⟩ u) (fun i h=>h.IsStrIter it (strIterType x) x t i):=by
 unfold strIterType;cases ha:x.cps.all (· < 128)
 ·exact Draws.strWide hh it x t
 ·exact Draws.strAscii hh it x t
theorem zN2{P:Program}{w:World}{K:qA0}{ts:List Expr}{kk:Nat}{tp:Pos}(z:Str)(t:Tok)(e it:Addr)(hei:e≠it) :
  Turn P w K (.Tuple ts kk tp) (Itw z) [e,it] e (fun i h=>i<=z.cps.size/\(∃old,IsEnum h e it i old)/\h.IsStrIter it (strIterType z) z t i) where
 mem:=by simp
 obj:=fun i h st b hb=>by
  rcases qA7.mp hb with y|y
  ·subst y;obtain⟨_,⟨old,he⟩,_⟩:=st;exact⟨_,he,fun v z=>by cases z⟩
  ·have z':b=it:=by simpa using y
   subst z';obtain⟨_,_,o,e,c,d⟩:=st;exact⟨o,e,fun v z=>by rw[d]at z;cases z⟩
 keep:=fun i h h' st k=>⟨st.1,by obtain⟨_,⟨old,he⟩,_⟩:=st;exact⟨old,k e (by simp) _ he⟩,by obtain⟨_,_,o,ho,r⟩:=st;exact⟨o,k it (by simp) o ho,r⟩⟩
 item:=by
  intro X hP hw hK hc i pins s σ H E I hf st hg;subst hP hw hK;have hi:i<z.cps.size:=hg;obtain⟨_,⟨old,he⟩,hit⟩:=st;have hhd:X.A.in1.handled=none:=I.ok.hd hc;refine wpAny_pyNext_enum_itemD (zT4 hhd it z t) he hit hi hei (by simpa using hei) fun x h' tk hP ho hit' hT hsz hk=>?_
  obtain⟨c,u,hcx,rfl⟩:=hP;refine⟨_,rfl,wpAny_letOwnedTupleGo_enum ho fun h'' he'' hs''=>?_⟩;have hTe:s.heap.objs.size≠e:=qBm (Heap.lt_size he);have hTi:s.heap.objs.size≠it:=by obtain⟨o,ho',_⟩:=hit;exact qBm (Heap.lt_size ho')
  have kk:∀b u,b∉[e,it]->s.heap.get? b=some u->h''.get? b=some u:=fun b u hb q=>by
   have b1:b≠e:=fun z=>hb (by simp[z])
   have b2:b≠it:=fun z=>hb (by simp[z])
   exact(hs''.2 b b1).trans (hk b u b1 b2 q)
  have hT'':=(hs''.2 _ hTe).trans hT;refine⟨.ref s.heap.objs.size,_,I.turnedNew (t':=tk+1) (o:=.tup [.int i,.str ⟨#[c]⟩]) hf kk (qA4 _) ⟨by show 2<=sizeLine;decide,[.int i tk,.str ⟨#[c]⟩ u],.cons ⟨_,rfl⟩ (.cons ⟨_,rfl⟩ .nil),⟨_,hT'',rfl,_,rfl⟩⟩,rfl,
   ⟨_,c,rfl,I.fresh,rfl,hcx⟩,⟨hi,⟨_,by simpa using he''⟩,by obtain⟨o,ho,r⟩:=hit';exact⟨o,(hs''.2 it hei.symm).trans ho,r⟩⟩,fun b hb=>?_⟩
  have hbs:b<s.heap.objs.size:=by
   rcases qA7.mp hb with z|z
   ·rw[z];exact Heap.lt_size he
   ·have z':b=it:=by simpa using z
    rw[z'];obtain⟨o,ho',_⟩:=hit;exact Heap.lt_size ho'
  rw[zA6 (qAf hbs)];exact(hf b hb).1
 done:=by
  intro X hP hw hK hc i pins s σ H E I hf st hg;subst hP hw hK;obtain⟨hle,⟨old,he⟩,hit⟩:=st;have hi:i=z.cps.size:=Nat.le_antisymm hle hg;subst hi;have hhd:X.A.in1.handled=none:=I.ok.hd hc;exact wpAny_pyNext_enum_endD (zT4 hhd it z t) he hit fun h' eb=>⟨rfl,I.turnedL (t':=s.toks) hf fun b u hb q=>eb b u (fun z=>hb (by simp[z])) q⟩
 self:=fun _ _ _ _ _ st h=>by obtain⟨_,⟨old,he⟩,_⟩:=st;exact wpAny_pyIter_enum he h
section
variable{X:Cx}{K:qA0}
def zSU(K:qA0)(tl:TA):TI:=fun σ H R=>tl σ H fun vs H1=>match vs with
 |[.ref a]=>(∃xs,SqL K H1 a xs)/\R (Ite K a) H1
 |[.str z]=>R (Itw z) H1
 |_=>False
theorem zMI{ts:List Expr}{kk:Nat}{tp p pos:Pos}{a:Expr}{ta:TA}(hg:Gl X "enumerate")(hm:X.mg "enumerate" = none)(ha:PA X [a] ta)(hs:starEach [a] X.env=[(false,eval a X.env)]:=by rfl)(hK:X.K=K:=by rfl) :
  PI X (.Tuple ts kk tp) (.Call (.Name "enumerate" p) [a] [] pos) (zSU K ta):=by
 subst hK;intro pins s σ H R I h;refine Call_ (zML I hg hm boot_enumerate (qCw (thn (ha pos pins s σ H _ I h) fun us s1 z0=>?_) hs rfl));obtain⟨vs,H1,I1,r1,q1⟩:=z0;have hne:s1.heap.objs.size+1≠s1.heap.objs.size:=by lia
 have hb':∀b∈[s1.heap.objs.size+1,s1.heap.objs.size],s1.heap.objs.size<=b:=fun b hb=>by
  rcases qA7.mp hb with z|z
  ·rw[z];exact qBr _
  ·have z':b=s1.heap.objs.size:=by simpa using z
   rw[z'];exact qA4 _
 cases vs with
 |nil=>exact qA6 q1
 |cons hd1 tl1=>
  cases hd1 with
  |ref l=>
   cases tl1 with
   |nil=>
    obtain⟨⟨xs,hq⟩,q⟩:=q1;obtain⟨u,rfl,rx⟩:=zE4 r1;cases rx;obtain⟨its,rv,pl,hz⟩:=I1.list hq;refine call_enumerate_list pl.isList fun h' he hit hsz hk=>?_
    refine wpAny_pyIter_enum he ?_;exact⟨s1.heap.objs.size+1,[s1.heap.objs.size+1,s1.heap.objs.size],_,_,H1,rfl,I1.kept (t':=s1.toks) hk,zO4 l _ _ hne,⟨⟨_,he⟩,hit⟩,fun b hb=>I1.fpOk (hb' b hb) (I1.hok.fresh (hb' b hb)),q⟩
   |cons _ _=>exact qA6 q1
  |str z=>
   cases tl1 with
   |nil=>
    obtain⟨u,rfl,rx⟩:=zE4 r1;obtain⟨t,rfl⟩:=rx;refine call_enumerate_str fun h' he hit hsz hk=>?_
    refine wpAny_pyIter_enum he ?_;exact⟨s1.heap.objs.size+1,[s1.heap.objs.size+1,s1.heap.objs.size],_,_,H1,rfl,I1.kept (t':=s1.toks) hk,zN2 z t _ _ hne,⟨qAi _,⟨_,he⟩,hit⟩,fun b hb=>I1.fpOk (hb' b hb) (I1.hok.fresh (hb' b hb)),q1⟩
   |cons _ _=>exact qA6 q1
  |_=>exact qA6 q1
end
end L2
namespace Mi
open PySem
noncomputable section
def listXD(ds:List Dt):Option Dt:=match ds with
 |[.str z]=>@ite _ (z.length<=100000) (qA2 _) (some (.lst (signsD z))) none
 |ds=>zPD ds
def iEnX(e:AM):IM:=fun ρ=>zA3 (e ρ) fun vs=>match vs with
 |[.lst xs]=>okR (enumD 0 xs)
 |[.str z]=>okR (enumD 0 (signsD z))
 |_=>none
noncomputable def sortI(ns:List Int):List Int:=ns.mergeSort fun a b=>decide (a<=b)
end
end Mi
namespace L3
open PySem PySem.Spec
open L2 hiding Rep RepL
open Mi (Dt Xn R okR zA3 optR zA0 zA8 zAG zA9 zAE Rh Sl Ro EM TM AM FM IM SM Tg Out zAT zB3 zB1 full frz frz1 frzAt)
section
variable[Kc]{mg:Str->Option Value}{E:XK}{L n k l:Nat}{te ta tb:TE}{e ea eb ma:EM}{t:TA}{m:AM}
theorem zNC{G:Hp}(z:Str):RepL G (Mi.signsD z) (zE6 z):=by
 unfold Mi.signsD zE6
 induction z.cps.toList with
 |nil=>rfl
 |cons c r ih=>exact⟨_,_,rfl,rfl,ih⟩
theorem zWV{G:Hp}(z:Str):ItOk (Itw z) G (Mi.enumD 0 (Mi.signsD z)):=by
 intro i G1 H1 s1 s2;rw[zGO];have hl:(Mi.signsD z).length=z.cps.size:=by simp[Mi.signsD]
 rw[hl];refine⟨fun hi=>hi,fun hi=>hi,fun x H2 d hd hy=>?_⟩;obtain⟨T,c,rfl,hT,rfl,hc⟩:=hy;obtain⟨e,h1,rfl⟩:=zGP _ 0 i d hd;have x1:=Ext.new s2 hT (.tup [.int i,.str ⟨#[c]⟩]);have he:e=.str ⟨#[c]⟩:=by
  unfold Mi.signsD at h1;rw[qAn,qBf,hc]at h1;cases h1;rfl
 subst he;refine⟨_,x1,T,_,rfl,zAD,_,_,rfl,?_,_,_,rfl,rfl,rfl⟩;show V.int (i:Int)=.int ((0+i:Nat):Int);rw[qCz]
theorem zT5(A:DA mg E t m 0):DI mg E (zSU Kc.K t) (Mi.iEnX m) false:=by
 intro G H σ ρ Q s w p;refine A.step errI s w p fun ds vs G1 H1 S T _ fr o p1=>?_
 have r:=o.repL;cases ds with
 |nil=>exact qA6 p1
 |cons hd1 tl1=>
  cases hd1 with
  |lst es=>
   cases tl1 with
   |nil=>
    obtain⟨x,rfl,a,xs,rfl,ha,ra⟩:=zFU r;exact⟨⟨xs,SqL.of (fr.ext.in' _ _ ha)⟩,p1 _ G1 H1 fr.ext (zWY ha ra)⟩
   |cons _ _=>exact qA6 p1
  |str z=>
   cases tl1 with
   |nil=>
    obtain⟨x,rfl,hx⟩:=zFU r
    cases(show x=.str z from hx)
    exact p1 _ G1 H1 fr.ext (zWV z)
   |cons _ _=>exact qA6 p1
  |_=>exact qA6 p1
theorem zN8(ns:List Int):(Mi.sortI ns).Perm ns:=qCb ns _
theorem zOB(ns:List Int):(Mi.sortI ns).Pairwise (·<=·):=by
 have:=qDc (le:=fun a b:Int=>decide (a<=b)) (fun a b c h1 h2=>by simp at h1 h2 ⊢;lia) (fun a b=>by simp;lia) ns
 exact this.imp fun h=>by simpa using h
end
end L3
namespace L3
open PySem PySem.Spec
open L2 hiding Rep RepL
open Mi (Dt Xn R okR zA3 optR zA0 zA8 zAG zA9 zAE Rh Sl Ro EM TM AM FM IM SM Tg Out zAT zB3 zB1 full frz frz1 frzAt)
section
variable[Kc]{G0 H0 S0:Hp}{σ:St}{ρ:Ro}{G H:Hp}{As:Nat->Addr->Prop}
end
section
variable[Kc]{mg:Str->Option Value}{E:XK}{L n k l:Nat}{te ta tb:TE}{e ea eb ma:EM}{t:TA}{m:AM}
end
end L3
namespace L2
open PySem PySem.Spec PyProof.Rows
section
variable{X:Cx}
end
end L2
namespace Mi
open PySem
noncomputable section
end
end Mi
namespace L3
open PySem PySem.Spec
open L2 hiding Rep RepL
open Mi (Dt Xn R okR zA3 optR zA0 zA8 zAG zA9 zAE Rh Sl Ro EM TM AM FM IM SM Tg Out zAT zB3 zB1 full frz frz1 frzAt)
section
variable[Kc]{mg:Str->Option Value}{E:XK}{L n k l:Nat}{te ta tb:TE}{e ea eb ma:EM}{t:TA}{m:AM}
end
end L3
namespace L2
open PySem PySem.Spec PyProof.Rows
section
variable{X:Cx}{x:Str}{j k:Nat}{ps:List Str}{sp:Sp}{e:Expr}{es:List Expr}{t:TA}{p pos:Pos}
end
end L2
namespace L2
open PySem PySem.Spec PyProof.Rows
end L2
namespace Mi
end Mi
namespace L3
open PySem PySem.Spec
open L2 hiding Rep RepL
open Mi (Dt Xn R okR zA3 optR zA0 zA8 zAG zA9 zAE Rh Sl Ro EM TM AM FM IM SM Tg Out zAT zB3 zB1 full frz frz1 frzAt)
section
variable[Kc]{mg:Str->Option Value}{E:XK}{L n n1:Nat}{t1 t2:TE}{e1 e2:EM}
end
end L3
namespace Mi
end Mi
namespace L3
open PySem PySem.Spec
open L2 hiding Rep RepL
open Mi (Dt Xn R okR zA3 optR zA0 zA8 zAG zA9 zAE Rh Sl Ro EM TM AM FM IM SM Tg Out zAT zB3 zB1 full frz frz1 frzAt)
section
variable[Kc]{mg:Str->Option Value}{E:XK}{L n:Nat}{te:TE}{e:EM}
end
end L3
namespace L2
open PySem PySem.Spec PyProof.Rows
section
variable{X:Cx}{e m1:Expr}{te ts:TE}{pos p2:Pos}
noncomputable def zVW:R2:=fun x y H Q=>∃z:Str,x=.str z/\y=.int (-1)/\z.length<=sizeLine/\Q (.str ⟨z.cps.toList.reverse.toArray⟩) H
theorem zMR{f g:Nat->Option Nat}:∀{l:List Nat},(∀k∈l,f k=g k)->l.filterMap f=l.filterMap g
 |[],_=>rfl
 |a::r,h=>by rw[qCk,qCk,h a (by simp),zMR fun k hk=>h k (by simp[hk])]
theorem zQY(xs:List Nat):(Builtin.Str.strSliceIndices none none (-1) xs.length).filterMap (xs[·]?)=xs.reverse:=by
 have e:Builtin.Str.strSliceIndices none none (-1) xs.length=(qAe xs.length).map fun k=>xs.length-1-k:=by
  unfold Builtin.Str.strSliceIndices sliceRange;dsimp only;rw[if_neg (show ¬((-1:Int)>0) by decide),if_neg (show ¬((-1:Int)>0) by decide),if_neg (show ¬((-1:Int)>0) by decide)];have hc:(if((xs.length:Int)-1) > -1 then((xs.length:Int)-1 - -1 - -1-1)/(- -1)else 0).toNat=xs.length:=by
   rw[show(- -1:Int)=1 by rfl,qH9]
   split<;>lia
  rw[hc];refine qDr fun k hk=>?_
  have:=qC7.mp hk
  lia
 rw[e,qFo];have h2:(qAe xs.length).filterMap ((xs[·]?)∘fun k=>xs.length-1-k)=((qAe xs.length).map fun j=>0+j).filterMap (xs.reverse[·]?):=by
  rw[qFo];refine zMR fun k hk=>?_
  have hk':=qC7.mp hk;show xs[xs.length-1-k]?=xs.reverse[0+k]?;rw[qCz,qCf hk']
 rw[h2,zJS xs.reverse 0 xs.length (by simp),qCr];exact qCs (by simp)
theorem zOR(he:PE X e te)(hs:PE X m1 ts):PE X (.Subscript e (.Slice none none (some m1) p2) pos) (tOp zVW te ts):=by
 intro pins s σ H Q I h;refine Subscript_ (thn (he pins s σ H _ I h) fun v s1 z0=>?_);obtain⟨x,H1,I1,r1,q1⟩:=z0;refine wpAny_Slice ?_;rw[evalPart_none];refine wpAny_pure ?_;refine wpAny_pure ?_;rw[evalPart_some];refine thn (hs pins s1 σ H1 _ I1 q1) fun u s2 z0=>?_
 obtain⟨y,H2,I2,r2,q2⟩:=z0;obtain⟨z,rfl,rfl,hz,q⟩:=q2;obtain⟨t,rfl⟩:=r1;obtain⟨t2,rfl⟩:=r2;have I3:Inv X pins σ H2 { s2 with heap:=s2.heap.push { cls:=.type "slice",data:=.fields #[.none,.none,.int (-1) t2] } }:=I2.kept (t':=s2.toks) fun b ob q=>Heap.get?_push_of_some _ q
 have hm:sliceMade z t none none (some (-1,t2))=.str ⟨z.cps.toList.reverse.toArray⟩:=by
  unfold sliceMade slicePicked;rw[if_neg (by simp)]
  congr 2
  obtain⟨⟨xs⟩⟩:=z
  have:=zQY xs
  have hlen:(Str.mk ⟨xs⟩).length=xs.length:=rfl;rw[hlen]
  simpa using this
 show wpAny (model X.prog X.w) X.A (subscriptTail e (.Slice none none (some m1) p2) (.str z t) (.ref s2.heap.objs.size)) (EP X pins σ Q) X.xe { s2 with heap:=s2.heap.push { cls:=.type "slice",data:=.fields #[.none,.none,.int (-1) t2] } };refine tail_any (ops:=[.ref s2.heap.objs.size,.str z t]) (typeIs_str _ _ _) F.slot_str_getitem.lookup (wpAny_getItem_str_slice (l:=none) (u:=none) (st:=some (-1,t2)) ⟨_,Heap.get?_push_size _ rfl,rfl,rfl⟩ rfl ?_) (by with_unfolding_all rfl);rw[hm];refine⟨?_,.str _,H2,I3.tok _,⟨_,rfl⟩,q⟩
 have:(⟨z.cps.toList.reverse.toArray⟩:Str).length=z.length:=by simp[Str.length]
 rw[this];exact hz
theorem zM4:∀{vs:List Value}{zs:List Str},StrsAre vs zs->vs.length=zs.length
 |_,_,.nil=>rfl
 |_,_,.cons _ _ r=>by simp[zM4 r]
end
end L2
namespace Mi
open PySem
noncomputable section
noncomputable def revD:Dt->Dt->Option Dt
 |.str z,.int j=>@ite _ (j = -1/\z.length<=100000) (qA2 _) (some (.str ⟨z.cps.toList.reverse.toArray⟩)) none
 |_,_=>none
theorem zTN{a b:Str}(h:a.cps.toList=b.cps.toList):a=b:=by
 obtain⟨⟨x⟩⟩:=a;obtain⟨⟨y⟩⟩:=b
 have:x=y:=h
 rw[this]
theorem uniqZ:∀{a b:List Str},a.Perm b->a.Pairwise (fun a b=>a.cps.toList<=b.cps.toList)->b.Pairwise (fun a b=>a.cps.toList<=b.cps.toList)->a=b
 |[],b,h,_,_=>(List.nil_perm.mp h).symm
 |x::r,[],h,_,_=>by simpa using h.length_eq
 |x::r,y::q,h,ha,hb=>by
  have e:x=y:=by
   rcases qA7.mp (h.mem_iff.mp (qAv (a:=x) (l:=r)))with z|z
   ·exact z
   ·rcases qA7.mp (h.mem_iff.mpr (qAv (a:=y) (l:=q)))with u|u
    ·exact u.symm
    ·exact zTN (List.le_antisymm ((qBy.mp ha).1 y u) ((qBy.mp hb).1 x z))
  subst e;rw[uniqZ (List.Perm.cons_inv h) (qBy.mp ha).2 (qBy.mp hb).2]
end
end Mi
namespace L3
open PySem PySem.Spec
open PyProof.Rows (risingS sortedS ltCps_eq)
open L2 hiding Rep RepL
open Mi (Dt Xn R okR zA3 optR zA0 zA8 zAG zA9 zAE Rh Sl Ro EM TM AM FM IM SM OM Tg Out zAT zB3 zB1 full frz frz1 frzAt)
section
variable[Kc]{mg:Str->Option Value}{E:XK}{L n k l:Nat}{te ta tb:TE}{e ea eb ma:EM}{t:TA}{m:AM}
theorem zSG:ROp zVW Mi.revD n:=by
 intro mg E G H d e x y Q s h1 h2 p;cases d with
 |str z=>
  cases e with
  |int j=>
   cases(show x=.str z from h1)
   cases(show y=.int j from h2)
   rw[Mi.revD]at p
   split at p
   ·rename_i hj
    obtain⟨rfl,hz⟩:=hj;exact⟨z,rfl,rfl,by rw[sizeLine_eq];lia,PostE.val p (Ext.refl s) rfl rfl⟩
   ·exact p.elim
  |_=>exact p.elim
 |_=>exact p.elim
theorem zJO:∀(l:List Str)(p:Str),risingS p l=true->(p::l).Pairwise (fun a b=>a.cps.toList<=b.cps.toList)
 |[],p,_=>by simp
 |x::r,p,h=>by
  rw[risingS,qB9,ltCps_eq]at h;have h1:p.cps.toList<=x.cps.toList:=by
   have:=h.1
   simpa[qHe]using this
  have h2:=zJO r x h.2;refine qBy.mpr ⟨fun y hy=>?_,h2⟩
  rcases qA7.mp hy with rfl|hy
  ·exact h1
  ·exact List.le_trans h1 ((qBy.mp h2).1 y hy)
theorem zOA{l:List Str}(h:sortedS l=true):l.Pairwise (fun a b=>a.cps.toList<=b.cps.toList):=by
 cases l with
 |nil=>exact .nil
 |cons x r=>exact zJO r x h
end
end L3
namespace L2
open PySem PySem.Spec PyProof.Rows
section
variable{X:Cx}{x:Str}{C:Addr}{p pos:Pos}
def zO7(C:Addr):TE:=fun σ H Q=>∀x dx,H x=none->H dx=none->dx≠x->Q (.ref x) (upd (upd H dx (.own x)) x (.ins C dx []))
theorem zOW(hmk:qBv X.K C=true)(hi:qA5 X.K (.ref C) "__init__" = some (some (.builtin "object.__init__")))(kp:qAd X.K (.ref C)=true)(hg:Gl X x)(hm:X.mg x=some (.ref C))
  (hdb:(x==("__debug__":Str))=false:=by decide):PE X (.Call (.Name x p) [] [] pos) (zO7 C):=by
 intro pins s σ H Q I h;refine wpAny_Call_Name_kw (zEO I hg hm ?_ hdb);refine qFh I.kIn kp ?_;have hq:=h (s.heap.objs.size+1) s.heap.objs.size (I.hok.fresh (qBr _)) (I.hok.fresh (qA4 _)) (qAf (qBp _));have I2:=Inv.made (C:=C) I;have Y:=qEn (M:=model X.prog X.w) I.kIn hmk;refine wpAny_call (zP9 I.kIn hmk hi (fun self=>qHa (PySem.W.oi_bind self)) ?_);have hx:((s.heap.push qAz).push (qB5 C s.heap.objs.size)).get? (s.heap.objs.size+1)=some (qB5 C s.heap.objs.size):=by
  have:=Heap.get?_push_size (s.heap.push qAz) (o:=qB5 C s.heap.objs.size) rfl
  rwa [Heap.size_push]at this
 have t1:qD1 (model X.prog X.w) ((s.heap.push qAz).push (qB5 C s.heap.objs.size)) (typeOf (.ref (s.heap.objs.size+1))) (.ref C):=(qHl hx).andThen .now;have t2:qD1 (model X.prog X.w) ((s.heap.push qAz).push (qB5 C s.heap.objs.size)) (isInstance (.ref (s.heap.objs.size+1)) (.type "object")) true:=t1.andThen (Y.top.keeps fun b o e=>Heap.get?_push_of_some _ (Heap.get?_push_of_some _ e));obtain⟨hh,g,d,t,os⟩:=s;refine codeAny_call_builtin PySem.W.oi_plain PySem.W.entry_oi (@PySem.W.check_slot (model X.prog X.w) _ _ _ "object.__init__" "object" "__init__" (.ref (hh.objs.size+1)) [] [] _ PySem.W.oi_kind PySem.W.oi_split t2 (PySem.W.oi_args (.ref (hh.objs.size+1))) ?_);rw[PySem.W.oi_run];exact wpAny_pure (And.intro rfl ⟨.ref _,_,I2,rfl,hq⟩)
end
def zI4(K:qA0)(fl:List Str):Sp:=fun vs H Q _=>∃(x C dx:Addr)(ys:List V),vs=.ref x::ys/\ys.length=fl.length/\H x=some (.ins C dx [])/\Cls K C/\(∀f∈fl,NoAttr K C f)/\Q .non (upd H x (.ins C dx (fl.zip ys)))
theorem zLE{K:qA0}{fl ps:List Str}(hp:ps.length=fl.length+1):∀vs H Q E,zI4 K fl vs H Q E->vs.length=ps.length:=by
 rintro vs H Q E ⟨x,C,dx,ys,rfl,hl,_⟩
 rw[hp,qAp,hl]
theorem zMO{K:qA0}{f a0 a1:Str}{vs:List V}{H:Hp}{Q:VK}{E:XK}(h:zI4 K [f] vs H Q E) :
  sFld K (tVar 0) (tVar 1) f { nx:=fun _ H'=>Q .non H',rt:=Q } (start [a0,a1] vs) H:=by
 obtain⟨x,C,dx,ys,rfl,hl,hx,hc,hn,q⟩:=h
 match ys,hl,q with
 |[y],_,q=>exact⟨y,rfl,.ref x,rfl,x,C,dx,[],rfl,hx,hc,hn f (by simp),by decide,q⟩
theorem zRP{K:qA0}{f g a0 a1 a2:Str}{vs:List V}{H:Hp}{Q:VK}{E:XK}(hfg:f≠g)(h:zI4 K [f,g] vs H Q E) :
  tSeq (sFld K (tVar 0) (tVar 1) f) (sFld K (tVar 0) (tVar 2) g) { nx:=fun _ H'=>Q .non H',rt:=Q } (start [a0,a1,a2] vs) H:=by
 obtain⟨x,C,dx,ys,rfl,hl,hx,hc,hn,q⟩:=h
 match ys,hl,q with
 |[y,z],_,q=>
  refine⟨y,rfl,.ref x,rfl,x,C,dx,[],rfl,hx,hc,hn f (by simp),by decide,z,rfl,.ref x,rfl,x,C,dx,putF f y [],rfl,zAD,hc,hn g (by simp),(by decide:1<1000),?_⟩;rw[zO1,show putF g z (putF f y [])=[(f,y),(g,z)] from(show(if f=g then(f,z)::[]else(f,y)::putF g z [])=[(f,y),(g,z)] by rw[if_neg hfg];rfl)];exact q
def HasM(P:Program)(w:World)(K:qA0)(mg:Str->Option Value)(base:Heap)(C:Addr)(m:Str)(k:Nat)(ps:List Str)(sp:Sp):Prop:=
 ∃f fd,Cls K C/\Meth K C m f/\FnOk P w K mg base (CXe P w) k f fd ps sp/\Binds K fd ps []
section
variable{X:Cx}{m:Str}{k:Nat}{E:XK}{o e:Expr}{es:List Expr}{ta:TE}{t:TA}{apos pos:Pos}{tb:List (Addr×Sp)}
noncomputable def zO6(tb:List (Addr×Sp))(m:Str)(E:XK)(ta:TE)(t:TA):TE:=fun σ H Q=>ta σ H fun x H1=>∃a C dx fs sp,x=.ref a/\H1 a=some (.ins C dx fs)/\fs.lookup m=none/\(C,sp)∈tb/\t σ H1 fun vs H2=>sp (x::vs) H2 Q E
theorem zIH{pl:Sem Bool}(he:PE X o ta)(hM:∀p∈tb,∃j ps,j<=k/\HasM X.prog X.w X.K X.mg X.base p.1 m j ps p.2)(hr:Room k X.A)(hf:Flies X E)(ha:PA X (e::es) t)
  (hst:starEach (e::es) X.env=(false,eval e X.env)::starEach es X.env:=by rfl) (hpl:(backTo pos (starEach es X.env)).any (·.1)=false:=by rfl)
  (ht:eval (.Call (.Attribute o m apos) (e::es) [] pos) X.env=(do
   let ov <- eval o X.env
   standAt apos.atName
   let(f,first) <- holding [ov] (getMethod ov m pl)
   callWith pos f first (backTo pos (starEach (e::es) X.env)) (backToKw pos (keywordEach [] X.env))):=by rfl) :
  PE X (.Call (.Attribute o m apos) (e::es) [] pos) (zO6 tb m E ta t):=by
 intro pins s σ H Q I h;refine qDj (pl:=pl) (thn (he pins s σ H _ I h) fun u s1 z0=>?_) ht;obtain⟨x,H1,I1,rx,a,C,dx,fs,sp,ex,ea,l,ht,q⟩:=z0;subst ex;obtain rfl:u=Value.ref a:=rx;obtain⟨j,ps,hj,f,fd,c,hm,F,hb⟩:=hM _ ht;refine zHR I1 ea c hm l ?_;refine qCt (first:=[.ref a]) (h₀:=X.base) I.ok.mod.kin hm.kp (thn (ha pos pins s1 σ H1 _ I1 q) fun us s2 ⟨vs,H2,I2,r,q2⟩=>⟨I2.kIn,?_⟩) hst hpl;exact zOI (us:=.ref a::us) (vs:=.ref a::vs) (dvs:=[]) (ds:=[]) F (hr.mono hj) hb .nil hf.passes I2 (.cons rfl r) (by rw[qBw];exact q2)
theorem zF2:∀p∈([]:List (Addr×Sp)),∃j ps,j<=k/\HasM X.prog X.w X.K X.mg X.base p.1 m j ps p.2:=fun p h=>by simp at h
theorem zAP{C C':Addr}{sp:Sp}{j:Nat}{ps:List Str}(hc:C'=C)(h:HasM X.prog X.w X.K X.mg X.base C m j ps sp)(hj:j<=k)(hr:∀p∈tb,∃j ps,j<=k/\HasM X.prog X.w X.K X.mg X.base p.1 m j ps p.2) :
  ∀p∈(C',sp)::tb,∃j ps,j<=k/\HasM X.prog X.w X.K X.mg X.base p.1 m j ps p.2:=fun p hp=>by
 rcases qA7.mp hp with rfl|hp
 ·exact⟨j,ps,hj,by subst hc;exact h⟩
 ·exact hr p hp
def zW0(K:qA0):List V->Hp->VK->Prop:=fun vs H Q=>match vs with
 |[x,.ref D]=>∃t b,TyOf K H x t/\qAb K t (.ref D)=some b/\Q (.bl b) H
 |_=>False
theorem zD7:zDM X (.builtin "isinstance") (zW0 X.K):=by
 intro pins s σ H vs us Q I r h
 match vs,r,h with
 |[x,.ref D],r,h=>
  obtain⟨t,b,ty,e,q⟩:=h;cases r with
  |cons r1 r2=>
   cases r2 with
   |cons r3 r4=>
    cases r4;cases r3;exact zPL I r1 ty e fun tk=>⟨.bl b,H,I.kept (t':=tk) fun _ _ z=>z,rfl,q⟩
end
structure OIs(K:qA0)(C:Addr):Prop where
 cl:Cls K C
 ha:qA5 K (.ref C) "__class__" = some (some (.builtin "object.__class__"))
 hn:qD2 K (.builtin "object.__class__") "__get__" = some (some (.builtin "getset_descriptor.__get__"))
 htk:qF1 K (.builtin "object.__class__")=some true
 hm:qC4 K C (.type "object")=some true
end L2
namespace Mi
open PySem
noncomputable section
noncomputable def svD:Dt->Option Sv
 |.int i=>some (.i i)
 |.str x=>some (.s x)
 |_=>none
def svsD:List Dt->Option (List Sv)
 |[]=>some []
 |d::r=>match svD d,svsD r with
  |some v,some vs=>some (v::vs)
  |_,_=>none
noncomputable def dSv:Sv->Dt
 |.i n=>.int n
 |.s x=>.str x
def eNew(c:Str)(fl:List Str)(am:AM):EM:=fun ρ=>zA3 (am ρ) fun ds=>match svsD ds with
 |some vs=>if vs.length=fl.length then okR (.ins c (fl.zip vs))else none
 |none=>none
def eNew0(c:Str):EM:=fun _=>okR (.ins c [])
def eFld(hs:List Str)(f:Str)(e:EM):EM:=fun ρ=>zA3 (e ρ) fun d=>match d with
 |.ins c fs=>if c∈hs then(match fs.lookup f with|some v=>okR (dSv v)|none=>none)else none
 |_=>none
def eMeth(tb:List (Str×FM))(m:Str)(e:EM)(am:AM):EM:=fun ρ=>zA3 (e ρ) fun d=>match d with
 |.ins c fs=>match tb.lookup c with
  |some g=>match fs.lookup m with
   |none=>zA3 (am ρ) fun ds=>g (d::ds)
   |some _=>none
  |none=>none
 |_=>none
def eIsO(ys ns:List Str)(e:EM):EM:=fun ρ=>zA3 (e ρ) fun d=>match d with
 |.ins c _=>if c∈ys then okR (.bl true)else if c∈ns then okR (.bl false)else none
 |_=>none
end
end Mi
namespace L3
open PySem PySem.Spec
open L2 hiding Rep RepL
open Mi (Dt Xn R okR zA3 optR zA0 zA8 zAG zA9 zAE Rh Sl Ro EM TM AM FM IM SM OM Tg Out zAT zB3 zB1 full frz frz1 frzAt)
theorem zCI{K:qA0}{c:Str}{C:Addr}(h:clK K c=some C):(clK K c).getD 0=C:=by rw[h];rfl
noncomputable def zDT(j:Nat):Stmt->Stmt
 |.ClassDef _ _ _ body _ _ _ _ _ _ _=>body.getD j (.Pass ⟨0,0,0,0⟩)
 |s=>s
structure OCls(K:qA0)(mg:Str->Option Value)(c:Str)(C:Addr):Prop where
 cl:clK K c=some C
 gm:mg c=some (.ref C)
 is:OIs K C
structure ONew(K:qA0)(mg:Str->Option Value)(c:Str)(C:Addr):Prop extends OCls K mg c C where
 mks:qBv K C=true
 ini:qA5 K (.ref C) "__init__" = some (some (.builtin "object.__init__"))
 kp:qAd K (.ref C)=true
structure OIni(P:Program)(w:World)(K:qA0)(mg:Str->Option Value)(base:Heap)(c:Str)(fl:List Str)(C:Addr):Prop extends OCls K mg c C where
 na:∀f∈fl,NoAttr K C f
 ini:∃fI fd ps,Mk K C fI/\FnOk P w K mg base (CXe P w) 1 fI fd ps (zI4 K fl)/\Binds K fd ps []
section
variable{X:Cx}{c:Str}{fl:List Str}{C:Addr}{k:Nat}{E:XK}{e:Expr}{es:List Expr}{t:TA}{p pos:Pos}
theorem zHL(h:OIni X.prog X.w X.K X.mg X.base c fl C)(hr:Room k X.A)(hk:2<=k)(hf:Flies X E)(hg:Gl X c)(ha:PA X (e::es) t)(hdb:(c==("__debug__":Str))=false:=by decide)
  (he:starEach (e::es) X.env=(false,eval e X.env)::starEach es X.env:=by rfl) (hpl:(backTo pos (starEach es X.env)).any (·.1)=false:=by rfl):PE X (.Call (.Name c p) (e::es) [] pos) (zTL C (zI4 X.K fl) [] E t):=by
 obtain⟨fI,fd,ps,M,F,hb⟩:=h.ini;exact zU3 M F (hr.mono hk) hg h.gm hb .nil hf.passes ha hdb he hpl
theorem zOS(h:ONew X.K X.mg c C)(hg:Gl X c)(hdb:(c==("__debug__":Str))=false:=by decide):PE X (.Call (.Name c p) [] [] pos) (zO7 C):=zOW h.mks h.ini h.kp hg h.gm hdb
end
section
variable[Kc]{mg:Str->Option Value}{E:XK}{L n k l:Nat}{te ta tb:TE}{e ea eb ma:EM}{t:TA}{m:AM}
theorem zO8{G:Hp}:∀{ds:List Dt}{vs:List Mi.Sv}{xs:List V},Mi.svsD ds=some vs->RepL G ds xs->xs=vs.map svV
 |[],vs,xs,h,r=>by cases h;exact r
 |d::ds,vs,xs,h,r=>by
  obtain⟨x,q,rfl,a,b⟩:=r;rw[Mi.svsD]at h;cases e:Mi.svsD ds with
  |none=>rw[e]at h;cases e2:Mi.svD d<;>rw[e2]at h<;>cases h
  |some us=>
   rw[e]at h;have ih:=zO8 e b;cases d with
   |int i=>cases h;cases(show x=.int i from a);rw[ih];rfl
   |str z=>cases h;cases(show x=.str z from a);rw[ih];rfl
   |_=>cases h
theorem zWJ{G H:Hp}(s:Same G H){x dx:Addr}{o:HO}(hx:H x=none)(hdx:H dx=none)(hne:dx≠x):Ext G H (upd G x o) (upd (upd H dx (.own x)) x o):=by
 have gx:G x=none:=by
  cases e:G x with
  |none=>rfl
  |some u=>rw[s _ _ e]at hx;cases hx
 refine⟨fun b u e=>?_,fun b u e=>?_,fun b u e=>?_,fun b hb=>?_⟩
 ·by_cases z:b=x
  ·rw[z,gx]at e;cases e
  ·rw[zA6 z];exact e
 ·by_cases z:b=x
  ·rw[z,hx]at e;cases e
  ·by_cases y:b=dx
   ·rw[y,hdx]at e;cases e
   ·rw[zA6 z,zA6 y];exact e
 ·by_cases z:b=x
  ·rw[z,zAD]at e ⊢;exact e
  ·rw[zA6 z]at e;have e2:=s _ _ e
   by_cases y:b=dx
   ·rw[y,hdx]at e2;cases e2
   ·rw[zA6 z,zA6 y];exact e2
 ·by_cases z:b=x
  ·rw[z]at hb;exact absurd hx hb
  ·rw[zA6 z]
theorem zS9:∀(fl:List Str)(vs:List Mi.Sv),fl.zip (vs.map svV)=(fl.zip vs).map fun p=>(p.1,svV p.2)
 |[],_=>by simp
 |_::_,[]=>by simp
 |f::fl,v::vs=>by simp[zS9 fl vs]
theorem zHW{P:Program}{w:World}{base:Heap}{c:Str}{fl:List Str}{C:Addr}{E':XK}(h:OIni P w Kc.K mg base c fl C)(A:DA mg E t m 0):DE mg E (zTL C (zI4 Kc.K fl) [] E' t) (Mi.eNew c fl m) 0:=by
 intro G H σ ρ Q s w p;refine A.step errE s w p fun ds vs G1 H1 S T _ fr o p1=>?_
 cases e:Mi.svsD ds with
 |none=>rw[e]at p1;exact p1.elim
 |some us=>
  rw[e]at p1;dsimp only at p1
  split at p1
  ·rename_i hl
   have hv:=zO8 e o.repL;intro x dx hx hdx hne;rw[qBw];refine⟨x,C,dx,vs,rfl,by rw[hv,qAq];exact hl,zAD,h.is.cl,h.na,rfl,?_⟩;rw[zO1];exact PostE.kept p1 (fr.ext.trans (zWJ fr.ext.in' hx hdx hne)) ⟨x,C,dx,rfl,h.cl,by rw[zAD,hv,zS9]⟩
  ·exact p1.elim
theorem zQ4{c:Str}{C:Addr}(h:ONew Kc.K mg c C):DE mg E (zO7 C) (Mi.eNew0 c) 0:=by
 intro G H σ ρ Q s w p x dx hx hdx hne;exact PostE.kept p (zWJ s hx hdx hne) ⟨x,C,dx,rfl,h.cl,zAD⟩
theorem zIP(f:Str):∀fs:List (Str×Mi.Sv),(fs.map fun p=>(p.1,svV p.2)).lookup f=(fs.lookup f).map svV
 |[]=>rfl
 |(g,v)::r=>by
  rw[qAu,qB0,qB0,zIP f r];cases f==g<;>rfl
theorem zCX{f:Str}{hs:List Str}(hf:∀c∈hs,∃C,clK Kc.K c=some C/\OIs Kc.K C/\NoAttr Kc.K C f)(A:DE mg E ta ma k):DE mg E (tFld Kc.K ta f) (Mi.eFld hs f ma) n:=by
 intro G H σ ρ Q s w p;refine(zB7 A).step errE s w p fun d v G1 H1 S _ fr o p1=>?_
 cases d with
 |ins c fs=>
  obtain⟨a,C,dx,rfl,hc,ha⟩:=o;dsimp only at p1
  split at p1
  ·rename_i hm
   obtain⟨C',hc',c1,c2⟩:=hf c hm;rw[hc]at hc';cases hc';cases e:fs.lookup f with
   |none=>rw[e]at p1;exact p1.elim
   |some v=>
    rw[e]at p1;refine⟨a,C,dx,_,svV v,rfl,fr.ext.in' _ _ ha,c1.cl,c2,by rw[zIP,e];rfl,?_⟩;cases v with
    |i z=>exact PostE.val p1 fr.ext rfl rfl
    |s z=>exact PostE.val p1 fr.ext rfl rfl
  ·exact p1.elim
 |_=>exact p1.elim
theorem zMK{g:FM}{c:Str}:∀{tb:List (Str×FM)},tb.lookup c=some g->(c,g)∈tb
 |(d,h)::r,e=>by
  rw[qB0]at e;cases z:c==d with
  |true=>rw[z]at e;cases e;rw[beq_iff_eq.mp z];exact qAv ..
  |false=>rw[z]at e;exact qAo _ (zMK e)
theorem zIW{tb:List (Str×FM)}{mn:Str}(A:DE mg E ta e k)(B:DA mg E t m 0):DE mg E (zO6 (tb.map fun p=>((clK Kc.K p.1).getD 0,spE Kc.K mg n p.2)) mn E ta t) (Mi.eMeth tb mn e m) n:=by
 intro G H σ ρ Q s w p;refine(zB7 A).step errE s w p fun d v G1 H1 S _ fr o p1=>?_
 cases d with
 |ins c fs=>
  obtain⟨a,C,dx,rfl,hc,ha⟩:=o;dsimp only at p1;cases e1:tb.lookup c with
  |none=>rw[e1]at p1;exact p1.elim
  |some g=>
   rw[e1]at p1;dsimp only at p1;cases e2:fs.lookup mn with
   |some _=>rw[e2]at p1;exact p1.elim
   |none=>
    rw[e2]at p1;dsimp only at p1;refine⟨a,C,dx,_,spE Kc.K mg n g,rfl,fr.ext.in' _ _ ha,by rw[zIP,e2];rfl,qC8.mpr ⟨(c,g),zMK e1,by rw[hc];rfl⟩,?_⟩;refine B.step (errE.from fr.ext) fr.ext.in' (w.mono fr.ext.g) p1 fun ds vs G2 H2 S2 T _ fr2 o2 p2=>?_
    exact⟨G2,.ins c fs::ds,(w.tab.trans fr.ext.g).trans fr2.ext.g,fr2.ext.in',⟨_,_,rfl,⟨a,C,dx,rfl,hc,fr2.ext.g _ _ ha⟩,o2.repL⟩,PostE.from p2 (fr.ext.trans fr2.ext)⟩
 |_=>exact p1.elim
theorem zHX{ys ns:List Str}{D:Addr}(hy:∀c∈ys,∃C,clK Kc.K c=some C/\OIs Kc.K C/\qAb Kc.K (.ref C) (.ref D)=some true)(hn:∀c∈ns,∃C,clK Kc.K c=some C/\OIs Kc.K C/\qAb Kc.K (.ref C) (.ref D)=some false)(A:DE mg E ta ma k) :
  DE mg E (tCB (zW0 Kc.K) (zEV ta (zEV (tC (.ref D)) tNil))) (Mi.eIsO ys ns ma) n:=by
 intro G H σ ρ Q s w p;refine(zB7 A).step errE s w p fun d v G1 H1 S _ fr o p1=>?_
 cases d with
 |ins c fs=>
  obtain⟨a,C,dx,rfl,hc,ha⟩:=o;dsimp only at p1
  split at p1
  ·rename_i hm
   obtain⟨C',hc',c1,c2⟩:=hy c hm;rw[hc]at hc';cases hc';exact⟨.ref C,true,.ins (fr.ext.in' _ _ ha) c1.cl c1.ha c1.hn c1.htk c1.hm,c2,PostE.val p1 fr.ext rfl rfl⟩
  ·split at p1
   ·rename_i hm
    obtain⟨C',hc',c1,c2⟩:=hn c hm;rw[hc]at hc';cases hc';exact⟨.ref C,false,.ins (fr.ext.in' _ _ ha) c1.cl c1.ha c1.hn c1.htk c1.hm,c2,PostE.val p1 fr.ext rfl rfl⟩
   ·exact p1.elim
 |_=>exact p1.elim
end
end L3
namespace Mi
open PySem
noncomputable section
def lastC(c:Nat)(l:List Nat):Option Nat:=(posC c l.reverse).map fun i=>l.length-1-i
def rfindD(x:Dt)(ys:List Dt):Option Dt:=match x,ys with
 |.str z,[.str y]=>match y.cps.toList with
  |[c]=>some (.int (match lastC c z.cps.toList with|some i=>(i:Int)|none=>-1))
  |_=>none
 |_,_=>none
def sUnpL(is:List Nat)(vs:List Nat)(e:EM):SM:=fun ρ=>zA3 (e (frz (frzAt vs ρ))) fun d=>match d with
 |.lst ds=>match zAT (.tup is) (.tup ds)with
  |none=>none
  |some bs=>okR (.nx (zB1 (frzAt vs ρ) bs))
 |_=>none
end
end Mi
namespace L2
open PySem PySem.Spec PyProof.Rows
section
variable{X:Cx}{m:Str}{k:Nat}{o e:Expr}{es:List Expr}{ta:TE}{t:TA}{apos pos:Pos}{tb:List (Addr×Sp)}
end
section
variable{prog:Program}{w:World}{A:Around}{E:Value->Shared->Prop}{s:Shared}
theorem zK8{h h':Heap}{it l:Addr}{items:Array Value}(hl:h.IsList l items)(hs:Heap.SameBut it h h')(hne:l≠it):h'.IsList l items:=by
 obtain⟨o,ho,r⟩:=hl;exact⟨o,(hs.2 l hne).trans ho,r⟩
theorem zHU{it t:Addr}{items:Array Value}(hne:t≠it):∀(n i:Nat)(s:Shared)(Q:List Value->Shared->Prop),s.heap.IsListIter it t i->s.heap.IsList t items->i+n<=items.size ->
  (∀h',h'.IsListIter it t (i+n)->Heap.SameBut it s.heap h'->Q ((items.toList.drop i).take n) { s with heap:=h' })->wpAny (model prog w) A (draw (.ref it) n) Q E s
 |0,i,s,Q,hit,_,_,hQ=>by
  show wpAny _ _ (pure []) Q E s;exact wpAny_pure (by simpa using hQ s.heap hit (Heap.SameBut.refl ..))
 |n+1,i,s,Q,hit,ht,hle,hQ=>by
  have hlt:i<items.size:=by lia
  show wpAny _ _ (pyNext (.ref it) >>= _) Q E s;refine wpAny_bind (wpAny_pyNext_list_item hit ht (x:=items[i]) (by simp[hlt]) fun h₁ hit₁ hs₁=>?_);refine wpAny_bind (wpAny_holding (zHU hne n (i+1) _ _ hit₁ (zK8 ht hs₁ hne) (by lia) fun h₂ hit₂ hs₂=>wpAny_pure ?_));have hd:items.toList.drop i=items[i]::items.toList.drop (i+1):=by simp[qBc,hlt]
  have:=hQ h₂ (by rw[show i+(n+1)=i+1+n by lia];exact hit₂) (hs₁.trans hs₂)
  rw[hd,qFg]at this;exact this
theorem zFD{t:Addr}{items:Array Value}{Q:List Value->Shared->Prop}(hh:A.handled=none)(ht:s.heap.IsList t items)
  (hQ:∀h',Heap.ExtBut s.heap.objs.size s.heap h'->Q items.toList { s with heap:=h' }):wpAny (model prog w) A (unpackItems (.ref t) items.size none) Q E s:=by
 have hlt:t≠s.heap.objs.size:=by obtain⟨o,ho,_⟩:=ht;exact qAf (Heap.lt_size ho)
 unfold unpackItems;refine wpAny_bind ?_
 ·unfold notIterableAtAll;refine wpAny_bind (wpAny_specialOf ht.typeIs slot_list_iter.lookup ?_);refine wpAny_pure ?_;simp only[qCu,if_false];refine wpAny_bind (wpAny_holding (wpAny_pyIter_list ht ?_));refine wpAny_bind (wpAny_holding (zHU hlt items.size 0 _ _ ⟨_,Heap.get?_push_size _ rfl,rfl,rfl⟩ (ht.push _) (by lia) fun h₁ hit₁ hs₁=>?_));have hall:qHn items.size (qHo 0 items.toList)=items.toList:=by
   rw[qCr];exact qCs (by simp)
  rw[hall];rw[if_neg (by simp)];have ht₁:h₁.IsList t items:=zK8 (ht.push _) hs₁ hlt;refine wpAny_bind (wpAny_holding (wpAny_pyNext_list_end hh hit₁ ht₁ (by simp) fun h₂ he₂=>?_));simp only[Option.isSome_none,qCu,if_false];refine wpAny_pure (hQ h₂ fun b o hb e=>he₂ b o hb (hs₁.extBut b o hb (Heap.get?_push_of_some _ e)))
theorem zFB{env:Env}{elts:List Expr}{x1}{pos:Pos}{t:Addr}{items:Array Value}{Q:Unit->Shared->Prop}(hh:A.handled=none)(ht:s.heap.IsList t items)
  (hn:(assignEach elts env).length=items.size) (hstar:(assignEach elts env).findIdx? (·.1)=none)
  (h:∀h',Heap.ExtBut s.heap.objs.size s.heap h'->wpAny (model prog w) A (assignInOrder ((assignEach elts env).map (·.2)) items.toList) Q E { s with heap:=h' }) :
  wpAny (model prog w) A (assign (.Tuple elts x1 pos) env (.ref t)) Q E s:=by
 rw[assign_Tuple];refine wpAny_bind (wpAny_standAt ?_);unfold unpack;rw[hn,hstar];exact wpAny_bind (wpAny_holding (zFD hh ht h))
end
section
variable{X:Cx}{pos:Pos}
noncomputable def gUnL(K:qA0)(n:Nat)(t:TGs):TG:=fun v σ H Q=>∃a xs,v=.ref a/\SqL K H a xs/\xs.length=n/\t xs σ H Q
theorem zSN{K:qA0}{es:List Expr}{k:Nat}{t:TGs}{n:Nat}(hc:X.calm=true)(h:PGs X es t)
  (hn:(assignEach es X.env).length=n:=by rfl) (hst:(assignEach es X.env).findIdx? (·.1)=none:=by rfl) (hK:X.K=K:=by rfl):PG X (.Tuple es k pos) (gUnL K n t):=by
 subst hK;intro pins s σ H v u Q I r hw;obtain⟨a,xs,e1,hq,hl,hw⟩:=hw;subst e1;cases r;obtain⟨its,rv,ht,hz⟩:=I.list hq;refine zFB (I.ok.hd hc) ht.isList (by simp[hn,<- hl,rv.length]) hst fun h' hx=>?_
 have I1:Inv X pins σ H { s with heap:=h' }:=I.kept (t':=s.toks) fun b o e=>hx b o (qAf (Heap.lt_size e)) e
 exact h pins _ σ H xs _ Q I1 (by simpa using rv) hw
end
theorem zRM(z:Str)(c:Nat):Txt.rfind z ⟨#[c]⟩=(match Mi.lastC c z.cps.toList with|some i=>(i:Int)|none=>-1):=by
 have hone:∀i,StrLaws.At z ⟨#[c]⟩ z.length i↔z.cps.toList[i]?=some c:=fun i=>StrLaws.subAt_one z c i
 generalize hl:z.cps.toList=l at hone
 have pos_none:∀{r:List Nat},Mi.posC c r=none->c∉r:=by
  intro r
  induction r with
  |nil=>intro _ h;simp at h
  |cons a r ih=>
   intro h;have h':(if a=c then some 0 else(Mi.posC c r).map (·+1))=none:=h
   split at h'
   ·cases h'
   ·rename_i hne
    have:=ih (by cases e:Mi.posC c r with|none=>rfl|some _=>rw[e]at h';cases h')
    intro z
    rcases qA7.mp z with q|q
    ·exact hne q.symm
    ·exact this q
 have pos_some:∀{r:List Nat}{i:Nat},Mi.posC c r=some i->r[i]?=some c/\∀j,j<i->r[j]?≠some c:=by
  intro r
  induction r with
  |nil=>intro i h;cases h
  |cons a r ih=>
   intro i h;have h':(if a=c then some 0 else(Mi.posC c r).map (·+1))=some i:=h
   split at h'
   ·rename_i hac
    cases h';exact⟨by simp[hac],fun j hj=>by lia⟩
   ·rename_i hne
    cases e:Mi.posC c r with
    |none=>rw[e]at h';cases h'
    |some k=>
     rw[e]at h';cases h';obtain⟨q1,q2⟩:=ih e;refine⟨by simpa using q1,fun j hj=>?_⟩;cases j with
     |zero=>simpa using hne
     |succ j=>simpa using q2 j (Nat.lt_of_succ_lt_succ hj)
 unfold Mi.lastC;cases e:Mi.posC c l.reverse with
 |none=>
  have hn:=pos_none e
  rcases rfind_whole z ⟨#[c]⟩with⟨h,_⟩|⟨i,_,h,_⟩
  ·exact h
  ·have:=(hone i).mp h
   exact absurd (List.mem_reverse.mpr (qBl this)) hn
 |some i=>
  obtain⟨q1,q2⟩:=pos_some e;have hil:i<l.length:=by
   have:=(qA3.mp q1).1
   simpa using this
  have q3:l[l.length-1-i]?=some c:=by rw[<- q1,qCf hil]
  rcases rfind_whole z ⟨#[c]⟩with⟨_,h⟩|⟨j,h1,h2,h3⟩
  ·exact absurd ((hone _).mpr q3) (h _)
  ·have hj:=(hone j).mp h2;have hjl:j<l.length:=(qA3.mp hj).1;have hle:¬j<l.length-1-i:=fun z=>h3 _ z ((hone _).mpr q3)
   have hge:¬l.length-1-i<j:=fun z=>q2 (l.length-1-j) (by lia) (by rw[qCf (by lia)];rw[show l.length-1-(l.length-1-j)=j by lia];exact hj)
   rw[h1]
   show(j:Int)=((l.length-1-i:Nat):Int)
   lia
end L2
namespace L3
open PySem PySem.Spec
open L2 hiding Rep RepL
open Mi (Dt Xn R okR zA3 optR zA0 zA8 zAG zA9 zAE Rh Sl Ro EM TM AM FM IM SM OM Tg Out zAT zB3 zB1 full frz frz1 frzAt)
section
variable[Kc]{mg:Str->Option Value}{E:XK}{L n k l:Nat}{te ta tb:TE}{e ea eb ma:EM}{t:TA}{m:AM}
theorem zQW:RMt zSI Mi.rfindD n:=zOK (fun z=>zII rfl (fun d h=>by cases d<;>first|rfl|exact absurd rfl (h _)) (fun d e r=>by cases d<;>rfl) rfl fun a b r=>rfl) fun mg E G H z c Q s p=>by
 show Q (.int (Txt.rfind z ⟨#[c]⟩)) H;rw[zRM];exact PostE.val p (Ext.refl s) rfl rfl
theorem zPU{K:qA0}{g:TGs}{is:List Nat}{kk:Nat}(vs:List Nat)(hg:zQI g is)(hk:is.length=kk)(A:DE mg E te e n):DS mg E L (tAsg te (gUnL K kk g)) (Mi.sUnpL is vs e):=by
 intro G0 H0 S0 σ ρ G H As D a p;obtain⟨G1,As1,a1⟩:=Sat.frzAt vs a;refine(zB7 A).step (errS.from a1.ext) a1.ext.in' a1.frz p fun d v G2 H2 S _ fr o p1=>?_
 cases d with
 |lst ds=>
  dsimp only at p1;obtain⟨b,xs,rfl,hb,rb⟩:=o;cases eb:zAT (.tup is) (.tup ds)with
  |none=>rw[eb]at p1;exact p1.elim
  |some bs=>
   rw[eb]at p1;rw[zAT]at eb
   by_cases hz:ds.length=is.length
   ·rw[if_pos hz]at eb;cases eb;refine⟨b,xs,rfl,.inl (.inl (fr.ext.in' _ _ hb)),by rw[rb.length,hz,hk],hg G2 H2 σ ds xs _ rb hz fun ws hw=>?_⟩;obtain⟨As',a2⟩:=Sat.puts hw (a1.wider fr.ext);exact p1 _ G2 H2 As' a2
   ·rw[if_neg hz]at eb;cases eb
 |_=>exact p1.elim
end
end L3
namespace L2
open PySem PySem.Spec PyProof.Rows
theorem zI2{M:Model}{A:Around}{E:Value->Shared->Prop}{s:Shared}{src:Source}{n:Nat}{Q:Nat->Shared->Prop}(hn:n≠0)(h:∀i d,i<n->Q i { s with drawn:=d }):wpAny M A (choose src n) Q E s:=
 fun Γ p hΓ=>⟨hn,h _ _ (qFc _ (Nat.pos_of_ne_zero hn))⟩
theorem zNN(t:SetTable)(es:Array (Int×Value))(h:Int)(x:Value):(layNew t es h x).2.1.led=t.led:=by
 unfold layNew
 split
 ·dsimp only;unfold SetTable.orStandIn
  split<;>rfl
 ·rfl
theorem zNM(t:SetTable)(es:Array (Int×Value))(h:Int)(x:Value)(hp:t.plain=false):(layNew t es h x).2.1.plain=false:=by
 unfold layNew
 split
 ·dsimp only;unfold SetTable.orStandIn
  split
  ·exact hp
  ·rfl
 ·rfl
theorem zJR{t t':SetTable}{hs:Array Int}{w:Nat}{o:Array Nat}(h:t.relaid hs w=some (t',o)):t'.led=t.led/\t'.plain=t.plain:=by
 unfold SetTable.relaid SetTable.laid at h;cases e:SetTable.layClean (SetTable.sizeAbove w-1) hs with
 |none=>rw[e]at h;cases h
 |some ow=>
  rw[e]at h;have h':=qBq h
  have:=congrArg qHh h'
  dsimp only at this;rw[<- this];exact⟨rfl,rfl⟩
theorem zH3(t:SetTable)(es:Array (Int×Value))(wanted:Nat):(relayAll t es wanted).2.1.led=t.led/\(t.plain=false->(relayAll t es wanted).2.1.plain=false):=by
 unfold relayAll
 split
 ·rename_i t' order e
  obtain⟨h1,h2⟩:=zJR e;dsimp only
  split
  ·exact⟨h1,fun h=>h2.trans h⟩
  ·exact⟨rfl,fun _=>rfl⟩
 ·exact⟨rfl,fun _=>rfl⟩
section
variable{prog:Program}{w:World}{A:Around}{E:Value->Shared->Prop}{s:Shared}
def SetZ(prog:Program)(w:World)(h:Heap)(a:Addr)(led:Bool)(ks:List Str):Prop:=
 ∃o es ep t,h.get? a=some o/\o.ExactSet/\o.data=.set es ep t/\ElemsOf (strKind prog w) es.toList/\es.toList.map (fun e=>strOf e.2)=ks/\ks.Nodup/\es.size<scanBound/\t.fits es.size=true/\t.led=led/\(0<es.size->t.plain=false)
theorem SetZ.at{h h':Heap}{a:Addr}{led:Bool}{ks:List Str}(hS:SetZ prog w h a led ks)(hk:∀o,h.get? a=some o->h'.get? a=some o):SetZ prog w h' a led ks:=by
 obtain⟨o,es,ep,t,ho,r⟩:=hS;exact⟨o,es,ep,t,hk o ho,r⟩
theorem zGL{k:Str}{v:Value}(h:(strKind prog w).is k v=true):∃t,v=.str k t:=Value.isStrOf_shape h
theorem zIT{es:List (Int×Value)}(h:ElemsOf (strKind prog w) es){e:Int×Value}(he:e∈es):∃k t,e.2=.str k t:=by
 obtain⟨⟨k,hk,_⟩,_⟩:=h e he;obtain⟨t,e1⟩:=zGL hk;exact⟨k,t,e1⟩
theorem zST{es:List (Int×Value)}(h:ElemsOf (strKind prog w) es){e:Int×Value}(he:e∈es)(k:Str):(strKind prog w).is k e.2=true↔strOf e.2=k:=by
 obtain⟨k',t,e1⟩:=zIT h he;rw[e1];constructor
 ·intro z;obtain⟨t',e2⟩:=zGL z
  injection e2 with e3
 ·rintro rfl
  exact strKind_is prog w _ t
theorem zQQ{a:Addr}{led:Bool}{ks:List Str}{k:Str}{tk:Tok}{Q:Bool->Shared->Prop}(hS:SetZ prog w s.heap a led ks)(hroom:ks.length+1<scanBound)
  (h:∀h' ks' b,Heap.SameBut a s.heap h'->SetZ prog w h' a led ks'->(k∈ks->ks'=ks)->(k∉ks->ks'.Perm (ks++[k]))->Q b { s with heap:=h' }) :
  wpAny (model prog w) A (setAddHashed a (.str k tk) ((strKind prog w).hash k)) Q E s:=by
 obtain⟨o,es,ep,t,ho,hex,hd,hel,hks,hnd,hb,hf,hled,hpl⟩:=hS;have hn:es.size=ks.length:=by rw[<- hks,qAq,qB3]
 have hb1:es.size+1<scanBound:=by lia
 have hkey:(strKind prog w).is k (.str k tk)=true:=strKind_is prog w k tk;have hsc:(Value.str k tk).scannable=true:=rfl;unfold setAddHashed setAddHashedIn;refine wpAny_holding (wpAny_bind (wpAny_setState_of ho hd hf ?_));dsimp only;rw[byScan_of hsc hb hel];simp only[↓reduceIte];unfold setAddByScan;refine wpAny_bind ?_;refine wpAny_bind (wpAny_rule ?_);refine wpAny_bind (wpAny_setScan_of hkey ho hd hf hel ?_);cases hr:List.findIdx? (fun e=>(strKind prog w).is k e.2) es.toList with
 |some j=>
  dsimp only;obtain⟨hj,hpj,_⟩:=List.findIdx?_eq_some_iff_getElem.mp hr;have hin:k∈ks:=by
   rw[<- hks];exact qC8.mpr ⟨es.toList[j],qCq hj,(zST hel (qCq hj) k).mp hpj⟩
  refine wpAny_pure (wpAny_pure ?_);have e:s={ s with heap:=s.heap }:=by cases s;rfl
  rw[e];exact h s.heap ks false (Heap.SameBut.refl a s.heap) ⟨o,es,ep,t,ho,hex,hd,hel,hks,hnd,hb,hf,hled,hpl⟩ (fun _=>rfl) (fun z=>absurd hin z)
 |none=>
  dsimp only;have hnin:k∉ks:=by
   intro z;rw[<- hks]at z;obtain⟨e,he,e1⟩:=qC8.mp z
   have:=List.findIdx?_eq_none_iff.mp hr e he
   rw[(zST hel he k).mpr e1]at this;exact Bool.noConfusion this
  have hgw:∀(b:Bool){s₁:Shared}{Q':Unit->Shared->Prop},Q' () s₁->wpAny (model prog w) A (match b with|true=>rule "set.scan.the-table-gave-way" | false=>pure ()) Q' E s₁:=
   fun b s₁ Q' hq=>by cases b<;>first|exact wpAny_pure hq|exact wpAny_rule hq
  have hperm:=layNew_perm t es ((strKind prog w).hash k) (.str k tk);have hfits:=layNew_fits t es ((strKind prog w).hash k) (.str k tk);have hled1:=zNN t es ((strKind prog w).hash k) (.str k tk);have hoff1:=zNM t es ((strKind prog w).hash k) (.str k tk)
  generalize hL:layNew t es ((strKind prog w).hash k) (.str k tk)=L at hperm hfits hled1 hoff1 ⊢
  obtain⟨es1,t1,wasDummy,gave⟩:=L;dsimp only at hperm hfits hled1 hoff1 ⊢;rw[qG0]at hperm;have hel1:ElemsOf (strKind prog w) es1.toList:=(hel.push hkey hsc).perm hperm;have hks1:(es1.toList.map fun e=>strOf e.2).Perm (ks++[k]):=by
   have:=hperm.map fun e:Int×Value=>strOf e.2
   rw[qCh,hks]at this;exact this
  have hnd1:(es1.toList.map fun e=>strOf e.2).Nodup:=hks1.nodup_iff.mpr (by
   rw[List.nodup_append];exact⟨hnd,by simp,fun x hx y hy e=>hnin (by rw[qBs]at hy;rw[<- hy,<- e];exact hx)⟩)
  have hb1':es1.size<scanBound:=by rw[<- qB3,hperm.length_eq,qB2,qB3];simpa using hb1
  refine wpAny_bind (hgw _ ?_);have tail:∀t2:SetTable,t2.fits es1.size=true->t2.led=led->t2.plain=false->wpAny (model prog w) A (do
    storeSet a es1 t2
    if(!wasDummy&&t2.tooFull)=true then do
      (match(relayAll t2 es1 (SetTable.grown es1.size)).2.2 with|true=>rule "set.scan.the-table-gave-way" | false=>pure ())
      storeSet a (relayAll t2 es1 (SetTable.grown es1.size)).1 (relayAll t2 es1 (SetTable.grown es1.size)).2.1
      pure (some true)
     else pure (some true)) (fun r s'=>wpAny (model prog w) A (match r with|some added=>pure added|none=>setAddHashedIn a (.str k tk) ((strKind prog w).hash k) 99999) Q E s') E s:=by
   intro t2 f2 l2 p2;refine wpAny_bind (wpAny_storeSet_of ho hd ?_ (fits_of_scanBound hb1'));have hg:(s.heap.update a (Obj.putSet es1 t2)).get? a=some { o with data:=.set es1 (ep+1) t2 }:=by
    have:=Heap.get?_update_self (Obj.putSet es1 t2) ho (by rw[putSet_of es1 t2 hd];rfl)
    rw[putSet_of es1 t2 hd]at this;exact this
   have hsb1:=Heap.SameBut.update s.heap a (Obj.putSet es1 t2)
   split
   ·have hp:=relayAll_perm t2 es1 (SetTable.grown es1.size);have hfr:=relayAll_fits t2 es1 (SetTable.grown es1.size);have hkp:=zH3 t2 es1 (SetTable.grown es1.size)
    generalize hRl:relayAll t2 es1 (SetTable.grown es1.size)=Rl at hp hfr hkp ⊢
    obtain⟨es2,t3,gave2⟩:=Rl;dsimp only at hp hfr hkp ⊢;have hsz:es2.size=es1.size:=by rw[<- qB3,hp.length_eq,qB3]
    refine wpAny_bind (hgw _ ?_);refine wpAny_bind (wpAny_storeSet_of hg rfl ?_ (fits_of_scanBound (by rw[hsz];exact hb1')));have hg2:=Heap.get?_update_self (Obj.putSet es2 t3) hg (by rw[putSet_of (o:={ o with data:=.set es1 (ep+1) t2 }) es2 t3 rfl];rfl);rw[putSet_of (o:={ o with data:=.set es1 (ep+1) t2 }) es2 t3 rfl]at hg2;have hks2:=hp.map fun e:Int×Value=>strOf e.2
    refine wpAny_pure (wpAny_pure (h _ (es2.toList.map fun e=>strOf e.2) _ (hsb1.trans (Heap.SameBut.update _ a _)) ⟨_,es2,ep+2,t3,hg2,hex,rfl,hel1.perm hp,rfl,hks2.nodup_iff.mpr hnd1,by rw[hsz];exact hb1',hfr,hkp.1.trans l2,fun _=>hkp.2 p2⟩ (fun z=>absurd z hnin) fun _=>hks2.trans hks1))
   ·exact wpAny_pure (wpAny_pure (h _ (es1.toList.map fun e=>strOf e.2) _ hsb1 ⟨_,es1,ep+1,t2,hg,hex,rfl,hel1,rfl,hnd1,hb1',f2,l2,fun _=>p2⟩ (fun z=>absurd z hnin) fun _=>hks1))
  split
  ·refine wpAny_bind ?_;rw[hashByValue_scannable 8 hsc];refine wpAny_pure ?_;exact tail { t1 with plain:=false } (SetTable.fits_plain_off hfits) (hled1.trans hled) rfl
  ·rename_i hp1
   refine wpAny_bind (wpAny_pure ?_);simp only[↓reduceIte];exact tail t1 hfits (hled1.trans hled) (by simpa using hp1)
end
end L2
namespace L2
open PySem PySem.Spec PyProof.Rows
section
variable{prog:Program}{w:World}{A:Around}{R:Result->Shared->Prop}{I:Addr}{fp wr:List Addr}{G:Array GenState->Array GenState->Prop}{n:Nat}{St:Nat->Shared->Prop}{led:Bool}{z:Str}
theorem loopZ(W:WalksS prog w A.in1 I fp wr G z.cps.size (SignAt z) St)(S:Addr)(hSf:S∉fp)(hb:z.cps.size+1<scanBound) :
  ∀(k i:Nat)(s:Shared)(ks:List Str),z.cps.size-i=k->i<=z.cps.size->St i s->SetZ prog w s.heap S led ks->ks.length<=i->(∀c,c∈ks↔∃j d,j<i/\z.cps[j]?=some d/\c=⟨#[d]⟩) ->
   (∀s' ks',Moved (S::wr) G s s'->SetZ prog w s'.heap S led ks'->(∀c,c∈ks'↔∃j d,j<z.cps.size/\z.cps[j]?=some d/\c=⟨#[d]⟩)->R (.ok (.ret .none)) s') ->
   codeAny (model prog w) A (.builtin "set.update.loop" ⟨[.ref S,.ref I],[]⟩) R s:=by
 have hSw:S∉wr:=fun h=>hSf (W.sub _ h)
 have hsub:∀b∈wr,b∈S::wr:=fun b hb=>qAo _ hb
 intro k
 induction k with
 |zero=>
  intro i s ks hk hi hst hS hkl hks hR;have hin:i=z.cps.size:=by lia
  subst hin;refine codeAny_builtin qD8 ?_;rw[Around.under_plainId qC9 _];show wpAny _ A.in1 (pyNext (.ref I) >>= _) _ _ s;refine wpAny_bind (W.done s _ _ hst fun s' hm=>?_);show wpAny _ A.in1 (ret Value.none) _ _ s';exact wpAny_pure (hR s' ks (hm.mono hsub) (hS.at fun o ho=>hm.heap S o hSw ho) hks)
 |succ k ih=>
  intro i s ks hk hi hst hS hkl hks hR;have hlt:i<z.cps.size:=by lia
  refine codeAny_builtin qD8 ?_;rw[Around.under_plainId qC9 _];show wpAny _ A.in1 (pyNext (.ref I) >>= _) _ _ s;refine wpAny_bind (W.item i s _ _ hlt hst fun v s' hP hst' hm=>?_);obtain⟨c,u,hc,rfl⟩:=hP;have hS':SetZ prog w s'.heap S led ks:=hS.at fun o ho=>hm.heap S o hSw ho
  show wpAny _ A.in1 (holding [Value.str ⟨#[c]⟩ u] (setAdd S (.str ⟨#[c]⟩ u)) >>= _) _ _ s';refine wpAny_bind (wpAny_holding ?_);unfold setAdd;refine wpAny_holding ?_;refine wpAny_bind ((strKind prog w).pyHash (k:=⟨#[c]⟩) (strKind_is prog w _ _) ?_);refine zQQ (s:={ s' with toks:=s'.toks+1 }) hS' (by lia) fun h' ks' b hsb hS2 hin hout=>?_
  have hmem:∀x,x∈ks'↔∃j d,j<i+1/\z.cps[j]?=some d/\x=⟨#[d]⟩:=by
   intro x;have step:x∈ks'↔x∈ks\/x=⟨#[c]⟩:=by
    by_cases h:(⟨#[c]⟩:Str)∈ks
    ·rw[hin h];exact⟨.inl,fun z=>z.elim id fun e=>e▸h⟩
    ·rw[(hout h).mem_iff,qCg,qBs]
   rw[step,hks];constructor
   ·rintro(⟨j,d,hj,e1,e2⟩|rfl)
    ·exact⟨j,d,by lia,e1,e2⟩
    ·exact⟨i,c,by lia,hc,rfl⟩
   ·rintro⟨j,d,hj,e1,e2⟩
    by_cases hji:j=i
    ·subst hji;rw[hc]at e1;cases e1;exact .inr e2
    ·exact .inl ⟨j,d,by lia,e1,e2⟩
  have hlen:ks'.length<=i+1:=by
   by_cases h:(⟨#[c]⟩:Str)∈ks
   ·rw[hin h];lia
   ·rw[(hout h).length_eq,qB2];simp;lia
  refine wpAny_pure ⟨plainId_quiet qC9 _,ih (i+1) _ ks' (by lia) hlt (W.frame _ s' _ _ hst' (qBr _) fun b hb o e=>?_) hS2 hlen hmem fun s'' ks'' hm'' hS'' hk''=>?_⟩
  ·rw[hsb.2 b (fun h:b=S=>hSf (by rw[<- h];exact hb))];exact e
  ·refine hR s'' ks'' (Moved.trans W.gtrans ((hm.mono hsub).then_heap (qBr _) fun b o hb e=>?_) hm'') hS'' hk'';rw[hsb.2 b (fun h:b=S=>hb (by rw[h];exact qAv))];exact e
end
end L2
namespace PySem
open PyProof.Rows
theorem zI7{prog:Program}{w:World}{A:Around}{E:Value->Shared->Prop}{s:Shared}(a:Value){Q₁:Value->Shared->Prop}
  (h:Q₁ (.ref s.heap.objs.size) { s with heap:=s.heap.push { cls:=.type "set",dict:=none,data:=.set #[] 0 (.fresh 0 0 (!w.params.followText "set-order")) } }) :
  codeAny (model prog w) A (.call (.builtin "set.__new__") ⟨[.type "set",a],[]⟩) (wants Q₁ E) s:=by
 refine codeAny_of_tree ?_;show wpAny _ A.in1 (do checkBuiltinCall "set.__new__" ⟨[.type "set",a],[]⟩;again (.builtin "set.__new__" ⟨[.type "set",a],[]⟩)) _ _ s;refine wpAny_bind (wpAny_of_eq (F.newCall_set_1 a) (wpAny_pure ⟨plainId_quiet F.plain_set_new _,codeAny_builtin F.entry_set_new ?_⟩));rw[Around.under_plainId F.plain_set_new _];unfold Builtin.«set.__new__» Builtin.Frozenset.newClass;have hsub:=sub_set_self;obtain⟨hp,g,d,tk,os⟩:=s;dsimp only
 wp_walk
 refine wpAny_askSetting (wpAny_pure ?_);dsimp only;simp only[newObj];refine wpAny_bind (wpAny_alloc (wpAny_pure ?_));exact wpAny_pure h
theorem zJJ:isSubtype (.type "str") (.type "set")=pure false:=by rw[isSubtype_type];kernel_rfl
theorem zI6:isSubtype (.type "str") (.type "frozenset")=pure false:=by rw[isSubtype_type];kernel_rfl
set_option maxHeartbeats 3200000 in
theorem zI8{prog:Program}{w:World}{A:Around}{E:Value->Shared->Prop}{s:Shared}{z:Str}{t:Tok}{Q:Value->Shared->Prop}
  (hh:A.handled=none) (hb:z.cps.size+1<scanBound)
  (h:∀(h':Heap)(tk:Nat)(ks:List Str),L2.SetZ prog w h' s.heap.objs.size (!w.params.followText "set-order") ks->(∀c,c∈ks↔∃j d,j<z.cps.size/\z.cps[j]?=some d/\c=⟨#[d]⟩) ->
   (∀b o,b<s.heap.objs.size->s.heap.get? b=some o->h'.get? b=some o)->s.heap.objs.size<h'.objs.size->Q (.ref s.heap.objs.size) { s with heap:=h',toks:=tk }) :
  wpAny (model prog w) A (call (.type "set") [.str z t]) Q E s:=by
 obtain⟨c,tl,hmro⟩:=F.called_set.mro;have hmade:=F.called_set.made;have hsub:=F.called_set.sub;refine wpAny_call (codeAny_of_tree ?_);show wpAny _ _ (callAny (.type "set") _) _ _ _;refine wpAny_pure ⟨Code.quiet_builtin _ (by decide +kernel),codeAny_builtin F.entry_type_call ?_⟩;rw[Around.under_plain (weight_type_call_type "set" [.str z t] []) rfl];have h1:=F.called_set.notType;have h2:=F.called_set.canCreate;have hct:=F.typeCall_set_1 (.str z t)
 repeat (any_goals (first|assumption|wp_step))
 refine codeAny_mono (zI7 (.str z t) (E:=E) (Q₁:=fun obj s₁=>obj=.ref s.heap.objs.size/\s₁={ s with heap:=s.heap.push { cls:=.type "set",dict:=none,data:=.set #[] 0 (.fresh 0 0 (!w.params.followText "set-order")) } }) ⟨rfl,rfl⟩) fun r s₁ hr=>?_
 generalize(!w.params.followText "set-order")=led at hr h
 cases r with
 |error e=>exact hr
 |ok fl=>
  cases fl with
  |ret obj=>
   obtain⟨rfl,rfl⟩:=hr;have hS:(s.heap.push { cls:=.type "set",dict:=none,data:=.set #[] 0 (.fresh 0 0 led) }).get? s.heap.objs.size=some { cls:=.type "set",dict:=none,data:=.set #[] 0 (.fresh 0 0 led) }:=Heap.get?_push_size _ rfl;have hT:Shared.TypeIs { s with heap:=s.heap.push { cls:=.type "set",dict:=none,data:=.set #[] 0 (.fresh 0 0 led) } } (.ref s.heap.objs.size) "set":=⟨_,hS,rfl⟩
   have hli:=F.called_set.init.lookup;have hbi:=F.called_set.init.bind (.ref s.heap.objs.size)
   repeat (any_goals (first|assumption|wp_step))
   refine codeAny_mono (codeAny_call_builtin (R:=wants (fun r s₂=>r=.none/\∃h' tk ks,s₂={ s with heap:=h',toks:=tk }/\L2.SetZ prog w h' s.heap.objs.size led ks/\(∀c,c∈ks↔∃j d,j<z.cps.size/\z.cps[j]?=some d/\c=⟨#[d]⟩) /\
     (∀b o,b<s.heap.objs.size->s.heap.get? b=some o->h'.get? b=some o)) E) F.called_set.init.plain F.entry_set_init (check_set_init_1 hT ?_)) fun r₂ s₂ hr₂=>?_
   ·have hsls:=zJJ;have hslf:=zI6;have hne:(Value.type "str" == Value.type "dict")=false:=by decide
    unfold Builtin.«set.__init__» noKeywords Builtin.Frozenset.updateFrom
    generalize hPI:pyIter=PI
    wp_walk
    subst hPI;refine wpAny_pyIter_str fun o St W hst=>?_
    refine wpAny_bind (wpAny_runValue ?_);have hh3:A.in1.in1.in1.handled=none:=by simp[hh]
    have hSf:s.heap.objs.size∉[(s.heap.push { cls:=.type "set",dict:=none,data:=.set #[] 0 (.fresh 0 0 led) }).objs.size]:=by
     rw[Heap.size_push];simp only[qA7,qAg,or_false];exact qAf (qBp _)
    refine L2.loopZ (led:=led) (W _ hh3).toS s.heap.objs.size hSf hb (z.cps.size-0) 0 _ [] (by lia) (qAi _) hst ?hS0 (qA4 _) (fun c=>⟨fun z=>by simp at z,fun⟨j,d,hj,_⟩=>by lia⟩) ?hR
    case hS0=>
     exact⟨_,#[],0,_,Heap.get?_push_of_some _ hS,⟨rfl,rfl,rfl⟩,rfl,fun e he=>by simp at he,rfl,.nil,by decide,rfl,rfl,fun z=>by simp at z⟩
    case hR=>
     intro s' ks hm hS' hk;obtain⟨h',g',d',tk',os'⟩:=s';have eg:g'=s.gens:=hm.gens;have ed:d'=s.drawn:=hm.drawn;have eo:os'=s.os:=hm.os;subst eg;subst ed;subst eo;show wpAny _ _ _ _ _ _;refine wpAny_pure ?_;show wpAny _ _ (ret Value.none) _ _ _;refine wpAny_pure ⟨rfl,h',tk',ks,rfl,hS',hk,fun b o hb e=>?_⟩;have hb1:b≠s.heap.objs.size:=qAf hb;have hb2:b≠(s.heap.push { cls:=.type "set",dict:=none,data:=.set #[] 0 (.fresh 0 0 led) }).objs.size:=by
      rw[Heap.size_push];exact qAf (qBh hb)
     exact hm.heap b o (by simp only[qA7,qAg,or_false,not_or];exact⟨hb1,hb2⟩) (Heap.get?_push_of_some _ (Heap.get?_push_of_some _ e))
   ·cases r₂ with
    |error e=>exact hr₂
    |ok fl₂=>
     cases fl₂ with
     |ret r=>
      obtain⟨rfl,h',tk,ks,rfl,hS',hk,hk'⟩:=hr₂
      repeat (any_goals (first|assumption|wp_step))
      exact h _ _ ks hS' hk hk' (by obtain⟨o,_,_,_,ho,_⟩:=hS';exact Heap.lt_size ho)
     |_=>exact hr₂.elim
  |_=>exact hr.elim
end PySem
namespace L2
open PySem PySem.Spec PyProof.Rows
theorem slot_si_next:Slot "set_iterator" "__next__" "set_iterator.__next__":=
 .of (owner:="set_iterator") (n:="__next__") (by rw[typeLookup_type,builtinLookup_eq_fast];kernel_rfl) (by decide +kernel) (by decide +kernel) (by decide +kernel)
  (by first|exact .inl (by decide +kernel)|exact .inr (by decide +kernel)) (by rw[isSubtype_type];kernel_rfl)
theorem zFS:Slot "set_iterator" "__iter__" "set_iterator.__iter__":=
 .of (owner:="set_iterator") (n:="__iter__") (by rw[typeLookup_type,builtinLookup_eq_fast];kernel_rfl) (by decide +kernel) (by decide +kernel) (by decide +kernel)
  (by first|exact .inl (by decide +kernel)|exact .inr (by decide +kernel)) (by rw[isSubtype_type];kernel_rfl)
theorem zCN:entryFor table "set_iterator.__next__" = some Builtin.«set_iterator.__next__»:=entryFor_of_fast (by kernel_rfl)
theorem zIS:entryFor table "set_iterator.__iter__" = some Builtin.«dict_keyiterator.__iter__»:=entryFor_alias (id':="dict_keyiterator.__iter__") (by kernel_rfl) rfl (by decide +kernel) (by kernel_rfl)
theorem zGQ:entryFor table "set.__iter__" = some Builtin.«frozenset.__iter__»:=entryFor_alias (id':="frozenset.__iter__") (by kernel_rfl) rfl (by decide +kernel) (by kernel_rfl)
theorem zD0(a:Value):argsOk "set_iterator.__next__" ⟨[a],[]⟩:=by unfold argsOk;kernel_rfl
theorem zKS(a:Value):argsOk "set_iterator.__iter__" ⟨[a],[]⟩:=by unfold argsOk;kernel_rfl
def IsSI(h:Heap)(it:Addr)(vs:Array Value):Prop:=∃o,h.get? it=some o/\o.cls=.type "set_iterator"/\o.data=.fields vs
section
variable{prog:Program}{w:World}{A:Around}{E:Value->Shared->Prop}{s:Shared}
theorem zOD{it:Addr}{vs:Array Value}{Q:Value->Shared->Prop}(hit:IsSI s.heap it vs)(h:Q (.ref it) s):wpAny (model prog w) A (pyIter (.ref it)) Q E s:=by
 obtain⟨o,ho,hc,hd⟩:=hit;have hT:s.TypeIs (.ref it) "set_iterator":=⟨o,ho,hc⟩
 refine wpAny_pyIter_slot hT zFS (wpAny_call_entry zFS hT zIS ?_ (zKS _));show wpAny _ _ (ret (.ref it)) _ _ s;exact wpAny_pure ⟨_,rfl,"set_iterator",_,hT,slot_si_next.lookup,h⟩
theorem zOC{P:Fin->Shared->Prop}{E':Value->Shared->Prop}(hh:A.handled=none)(h:∀x h',Heap.ExtBut s.heap.objs.size s.heap h'->(∀b o,s.heap.get? b=some o->h'.get? b=some o)->(∃ox,h'.get? x=some ox/\ox.cls=.type "StopIteration")->E' (.ref x) { s with heap:=h' }) :
  wpAny (model prog w) A (newExc (.type "StopIteration") [] >>= fun x=>(raiseNew x:Sem Fin)) P E' s:=by
 refine wpAny_bind ?_;simp only[newExc,newTuple];refine wpAny_bind (wpAny_newObj_type ?_ (by size_fits));refine wpAny_bind (m:=firstArgMember _ _) (wpAny_of_eq (a:=Value.none) (by first|rfl|(simp only[firstArgMember];rfl)) ?_);refine wpAny_newObj_type ?_ (by size_fits);simp only[raiseNew];refine wpAny_bind (wpAny_handled ?_);rw[hh];refine wpAny_bind (wpAny_pure (wpAny_throw ?_));exact h _ _ (fun b o hb e=>Heap.get?_push_of_some _ (Heap.get?_push_of_some _ e)) (fun b o e=>Heap.get?_push_of_some _ (Heap.get?_push_of_some _ e)) ⟨_,Heap.get?_push_size _ rfl,rfl⟩
theorem zJG{it a:Addr}{es:Array (Int×Value)}{ep:Nat}{tb:SetTable}{os:Obj}{sl i nx:Nat}{x:Value}{Q:Option Value->Shared->Prop}(hne:a≠it)
  (hit:IsSI s.heap it #[.int sl 0,.int i 0,.ref a,.int es.size 0,.int ep 0]) (ho:s.heap.get? a=some os) (hd:os.data=.set es ep tb) (hf:tb.fits es.size=true)
  (hN:∀(s:Shared)(Q:Option (Value×Nat)->Shared->Prop)(A:Around)(E:Value->Shared->Prop),s.heap.get? a=some os->Q (some (x,nx)) s->wpAny (model prog w) A (setNext a sl i ep) Q E s)
  (hQ:∀h',IsSI h' it #[.int nx 0,.int (i+1:Nat) 0,.ref a,.int es.size 0,.int ep 0]->Heap.SameBut it s.heap h'->Q (some x) { s with heap:=h' }) :
  wpAny (model prog w) A (pyNext (.ref it)) Q E s:=by
 obtain⟨o,hoi,hc,hdi⟩:=hit;have hT:s.TypeIs (.ref it) "set_iterator":=⟨o,hoi,hc⟩
 unfold pyNext;refine wpAny_bind (wpAny_attempt (wpAny_callSpecial?_slot (name:=Str.ofString "__next__") hT slot_si_next (wpAny_call_entry slot_si_next hT zCN ?_ (zD0 _))));unfold Builtin.«set_iterator.__next__»;refine wpAny_bind (m:=slotArgs "__next__" 0 _) (wpAny_pure ?_);refine wpAny_bind (wpAny_fieldsOf hoi hdi ?_);dsimp only;refine wpAny_bind (wpAny_setEntries_of ho hd hf ?_);rw[if_neg (by simp)];refine wpAny_bind (hN _ _ _ _ ho ?_);dsimp only;refine wpAny_bind (wpAny_setField hoi hdi (by simp) ?_);have e1:=Heap.get?_update_self (Obj.mapFields (·.setIfInBounds 0 (rawInt (nx:Nat)))) hoi (Obj.isFreed_of_fields (Obj.data_mapFields hdi _));refine wpAny_bind (wpAny_setField e1 (Obj.data_mapFields hdi _) (by simp) ?_);have e2:=Heap.get?_update_self (Obj.mapFields (·.setIfInBounds 1 (rawInt ((i:Int)+1)))) e1 (Obj.isFreed_of_fields (Obj.data_mapFields (Obj.data_mapFields hdi _) _));refine wpAny_pure ⟨x,rfl,wpAny_pure (hQ _ ⟨_,e2,?_,?_⟩ ((Heap.SameBut.update ..).trans (Heap.SameBut.update ..)))⟩
 ·rw[Obj.cls_mapFields,Obj.cls_mapFields,hc]
 ·rw[Obj.data_mapFields (Obj.data_mapFields hdi _)];simp[rawInt]
theorem zL6{it a:Addr}{es:Array (Int×Value)}{ep:Nat}{tb:SetTable}{os:Obj}{sl i:Nat}{Q:Option Value->Shared->Prop}(hh:A.handled=none)(hne:a≠it)
  (hit:IsSI s.heap it #[.int sl 0,.int i 0,.ref a,.int es.size 0,.int ep 0]) (ho:s.heap.get? a=some os) (hd:os.data=.set es ep tb) (hf:tb.fits es.size=true)
  (hN:∀(s:Shared)(Q:Option (Value×Nat)->Shared->Prop)(A:Around)(E:Value->Shared->Prop),s.heap.get? a=some os->Q none s->wpAny (model prog w) A (setNext a sl i ep) Q E s)
  (hQ:∀h',Heap.ExtBut it s.heap h'->Q none { s with heap:=h' }) :
  wpAny (model prog w) A (pyNext (.ref it)) Q E s:=by
 obtain⟨o,hoi,hc,hdi⟩:=hit;have hT:s.TypeIs (.ref it) "set_iterator":=⟨o,hoi,hc⟩
 unfold pyNext;refine wpAny_bind (wpAny_attempt (wpAny_callSpecial?_slot (name:=Str.ofString "__next__") hT slot_si_next (wpAny_call_entry slot_si_next hT zCN ?_ (zD0 _))));unfold Builtin.«set_iterator.__next__»;refine wpAny_bind (m:=slotArgs "__next__" 0 _) (wpAny_pure ?_);refine wpAny_bind (wpAny_fieldsOf hoi hdi ?_);dsimp only;refine wpAny_bind (wpAny_setEntries_of ho hd hf ?_);rw[if_neg (by simp)];refine wpAny_bind (hN _ _ _ _ ho ?_);dsimp only;refine wpAny_bind (wpAny_setField hoi hdi (by simp) ?_);refine zOC hh fun x h' _ hk hx=>?_
 obtain⟨ox,hox,hcx⟩:=hx;refine wpAny_bind (wpAny_isInstance (T:="StopIteration") (b:=true) ⟨ox,hox,hcx⟩ isSubtype_stop ?_);exact wpAny_pure (hQ _ fun b o' hb e=>hk b o' ((Heap.get?_update_other _ _ (qC2 hb)).trans e))
theorem zJH{it a T:Addr}{es:Array (Int×Value)}{ep:Nat}{tb:SetTable}{os:Obj}{i p:Nat}{t0:Tok}{h0:Int}{x:Value}{ps:Array Value}{Q:Option Value->Shared->Prop}(hne:a≠it)
  (hit:IsSI s.heap it #[.ref T,.int i 0,.ref a,.int es.size 0,.int ep 0]) (ho:s.heap.get? a=some os) (hd:os.data=.set es ep tb) (hf:tb.fits es.size=true)
  (hT0:∃oT n,s.heap.get? T=some oT/\oT.data=.seq ps n) (hp:ps[i]?=some (.int p t0)) (hx:es[p]?=some (h0,x))
  (hQ:∀h',IsSI h' it #[.ref T,.int (i+1:Nat) 0,.ref a,.int es.size 0,.int ep 0]->Heap.SameBut it s.heap h'->Q (some x) { s with heap:=h' }) :
  wpAny (model prog w) A (pyNext (.ref it)) Q E s:=by
 obtain⟨o,hoi,hc,hdi⟩:=hit;obtain⟨oT,nT,hoT,hdT⟩:=hT0;have hT:s.TypeIs (.ref it) "set_iterator":=⟨o,hoi,hc⟩
 unfold pyNext;refine wpAny_bind (wpAny_attempt (wpAny_callSpecial?_slot (name:=Str.ofString "__next__") hT slot_si_next (wpAny_call_entry slot_si_next hT zCN ?_ (zD0 _))));unfold Builtin.«set_iterator.__next__»;refine wpAny_bind (m:=slotArgs "__next__" 0 _) (wpAny_pure ?_);refine wpAny_bind (wpAny_fieldsOf hoi hdi ?_);dsimp only;refine wpAny_bind (wpAny_setEntries_of ho hd hf ?_);rw[if_neg (by simp)];refine wpAny_bind (wpAny_seqItems hoT hdT ?_);dsimp only;simp only[qCi,hp];refine wpAny_bind ?_;unfold setNextDrawn;refine wpAny_bind (wpAny_setState_of ho hd hf ?_);dsimp only;rw[if_neg (by simp)];simp only[qCi,hx];refine wpAny_pure ?_;refine wpAny_bind (wpAny_setField hoi hdi (by simp) ?_);have e1:=Heap.get?_update_self (Obj.mapFields (·.setIfInBounds 1 (rawInt ((i:Int)+1)))) hoi (Obj.isFreed_of_fields (Obj.data_mapFields hdi _));refine wpAny_pure ⟨x,rfl,wpAny_pure (hQ _ ⟨_,e1,?_,?_⟩ (Heap.SameBut.update ..))⟩
 ·rw[Obj.cls_mapFields,hc]
 ·rw[Obj.data_mapFields hdi];simp[rawInt]
theorem zL7{it a T:Addr}{es:Array (Int×Value)}{ep:Nat}{tb:SetTable}{os:Obj}{i:Nat}{ps:Array Value}{Q:Option Value->Shared->Prop}(hh:A.handled=none)(hne:a≠it)
  (hit:IsSI s.heap it #[.ref T,.int i 0,.ref a,.int es.size 0,.int ep 0]) (ho:s.heap.get? a=some os) (hd:os.data=.set es ep tb) (hf:tb.fits es.size=true)
  (hT0:∃oT n,s.heap.get? T=some oT/\oT.data=.seq ps n) (hp:ps[i]?=none)
  (hQ:∀h',Heap.ExtBut it s.heap h'->Q none { s with heap:=h' }) :
  wpAny (model prog w) A (pyNext (.ref it)) Q E s:=by
 obtain⟨o,hoi,hc,hdi⟩:=hit;obtain⟨oT,nT,hoT,hdT⟩:=hT0;have hT:s.TypeIs (.ref it) "set_iterator":=⟨o,hoi,hc⟩
 unfold pyNext;refine wpAny_bind (wpAny_attempt (wpAny_callSpecial?_slot (name:=Str.ofString "__next__") hT slot_si_next (wpAny_call_entry slot_si_next hT zCN ?_ (zD0 _))));unfold Builtin.«set_iterator.__next__»;refine wpAny_bind (m:=slotArgs "__next__" 0 _) (wpAny_pure ?_);refine wpAny_bind (wpAny_fieldsOf hoi hdi ?_);dsimp only;refine wpAny_bind (wpAny_setEntries_of ho hd hf ?_);rw[if_neg (by simp)];refine wpAny_bind (wpAny_seqItems hoT hdT ?_);dsimp only;simp only[qCi,hp];refine wpAny_bind (wpAny_setField hoi hdi (by simp) ?_);have e1:=Heap.get?_update_self (Obj.mapFields (·.setIfInBounds 0 (rawInt 0))) hoi (Obj.isFreed_of_fields (Obj.data_mapFields hdi _));refine wpAny_bind (wpAny_setField e1 (Obj.data_mapFields hdi _) (by simp) ?_);refine zOC hh fun x h' _ hk hx=>?_
 obtain⟨ox,hox,hcx⟩:=hx;refine wpAny_bind (wpAny_isInstance (T:="StopIteration") (b:=true) ⟨ox,hox,hcx⟩ isSubtype_stop ?_);exact wpAny_pure (hQ _ fun b o' hb e=>hk b o' ((Heap.get?_update_other _ _ (qC2 hb)).trans ((Heap.get?_update_other _ _ (qC2 hb)).trans e)))
end
end L2
namespace L2
open PySem PySem.Spec PyProof.Rows
section
variable{prog:Program}{w:World}{A:Around}{E:Value->Shared->Prop}{s:Shared}
theorem zJ7(hh:A.handled=none){it a:Addr}(hne:a≠it){es:Array (Int×Value)}{ep:Nat}{tb:SetTable}{os:Obj}(hd:os.data=.set es ep tb)(hf:tb.fits es.size=true)(vs:Nat->Value)(sl:Nat->Nat)
  (hN:∀i,i<es.size->∀(s:Shared)(Q:Option (Value×Nat)->Shared->Prop)(A:Around)(E:Value->Shared->Prop),s.heap.get? a=some os->Q (some (vs i,sl (i+1))) s->wpAny (model prog w) A (setNext a (sl i) i ep) Q E s)
  (hE:∀(s:Shared)(Q:Option (Value×Nat)->Shared->Prop)(A:Around)(E:Value->Shared->Prop),s.heap.get? a=some os->Q none s->wpAny (model prog w) A (setNext a (sl es.size) es.size ep) Q E s) :
  Walks prog w A it [it,a] [it] es.size (fun i v=>v=vs i) (fun i h=>IsSI h it #[.int (sl i) 0,.int i 0,.ref a,.int es.size 0,.int ep 0]/\h.get? a=some os) where
 sub:=fun b hb=>by simp at hb;simp[hb]
 frame:=fun i h h' st hk=>⟨let⟨o,ho,r⟩:=st.1;⟨o,hk it (by simp) o ho,r⟩,hk a (by simp) _ st.2⟩
 item:=fun i s Q E hi st hQ=>by
  have hs:s={ s with toks:=s.toks }:=by cases s;rfl
  refine zJG hne st.1 st.2 hd hf (hN i hi) fun h' hit' hs'=>?_
  exact hQ _ h' s.toks rfl ⟨hit',(hs'.2 a hne).trans st.2⟩ fun b o hb e=>(hs'.2 b fun z=>hb (by simp[z])).trans e
 done:=fun s Q E st hQ=>by
  refine zL6 hh hne st.1 st.2 hd hf hE fun h' he'=>?_
  exact hQ h' s.toks fun b o hb e=>he' b o (fun z=>hb (by simp[z])) e
 self:=fun i s Q E st hQ=>zOD st.1 hQ
theorem zNX(hh:A.handled=none){it a T:Addr}(hne:a≠it)(hTi:T≠it){es:Array (Int×Value)}{ep:Nat}{tb:SetTable}{os oT:Obj}{nT:Nat}(hd:os.data=.set es ep tb)(hf:tb.fits es.size=true)(ps:List Nat)(hps:ps.length=es.size)(hlt:∀p∈ps,p<es.size)(hdT:oT.data=.seq (ps.map fun p:Nat=>rawInt (p:Int)).toArray nT) :
  Walks prog w A it [it,a,T] [it] es.size (fun i v=>∃p h0,ps[i]?=some p/\es[p]?=some (h0,v)) (fun i h=>IsSI h it #[.ref T,.int i 0,.ref a,.int es.size 0,.int ep 0]/\h.get? a=some os/\h.get? T=some oT) where
 sub:=fun b hb=>by simp at hb;simp[hb]
 frame:=fun i h h' st hk=>⟨let⟨o,ho,r⟩:=st.1;⟨o,hk it (by simp) o ho,r⟩,hk a (by simp) _ st.2.1,hk T (by simp) _ st.2.2⟩
 item:=fun i s Q E hi st hQ=>by
  have hpi:ps[i]?=some ps[i]:=qA9 (by lia);have hpl:ps[i]<es.size:=hlt _ (qCq _);have hx:es[ps[i]]?=some (es[ps[i]].1,es[ps[i]].2):=by simp[hpl]
  refine zJH (p:=ps[i]) (t0:=0) hne st.1 st.2.1 hd hf ⟨oT,nT,st.2.2,hdT⟩ (by rw[List.getElem?_toArray,qAn,hpi];rfl) hx fun h' hit' hs'=>?_
  exact hQ _ h' s.toks ⟨_,_,hpi,hx⟩ ⟨hit',(hs'.2 a hne).trans st.2.1,(hs'.2 T hTi).trans st.2.2⟩ fun b o hb e=>(hs'.2 b fun z=>hb (by simp[z])).trans e
 done:=fun s Q E st hQ=>by
  refine zL7 hh hne st.1 st.2.1 hd hf ⟨oT,nT,st.2.2,hdT⟩ (by simp[hps]) fun h' he'=>?_
  exact hQ h' s.toks fun b o hb e=>he' b o (fun z=>hb (by simp[z])) e
 self:=fun i s Q E st hQ=>zOD st.1 hQ
theorem zFO{α:Type}:∀(l:List α){i:Nat}(h:i<l.length),(l[i]::l.eraseIdx i).Perm l
 |a::r,0,h=>by simp
 |a::r,i+1,h=>by
  have:=zFO r (i:=i) (by simpa using h)
  simp only[qDf,qEh];exact(qD9 _ _ _).trans (this.cons a)
theorem zHT{α:Type}:∀(n:Nat)(xs:List α)(s:Shared)(Q:List α->Shared->Prop),xs.length=n->(∀ys d,ys.Perm xs->Q ys { s with drawn:=d })->wpAny (model prog w) A (drawOrder n xs) Q E s
 |0,xs,s,Q,hl,h=>by
  have e:xs=[]:=qEi.mp hl;subst e;unfold drawOrder
  have:=h [] s.drawn (qFd _)
  exact wpAny_pure this
 |n+1,[],s,Q,hl,h=>by simp at hl
 |n+1,x::xs,s,Q,hl,h=>by
  unfold drawOrder;refine wpAny_bind (zI2 (by simp) fun i d hi=>?_);have hget:(x::xs)[i]?=some ((x::xs)[i]'hi):=qA9 hi;rw[hget];dsimp only;refine wpAny_bind (zHT n _ _ _ (by rw[qDz hi];simp at hl ⊢;lia) fun ys d' hp=>wpAny_pure ?_);exact h _ d' ((hp.cons _).trans (zFO _ hi))
theorem zOQ{α:Type}(next:Nat->Nat):∀(fuel k:Nat)(left:List α)(out:Array α),left.length=fuel->(pickOrder.go next fuel k left out).toList.Perm (out.toList++left)
 |0,k,left,out,hl=>by
  have e:left=[]:=qEi.mp hl;subst e;simp[pickOrder.go]
 |fuel+1,k,left,out,hl=>by
  unfold pickOrder.go;have hi:next k%left.length<left.length:=qFc _ (by lia)
  have hget:left[next k%left.length]?=some (left[next k%left.length]'hi):=qA9 hi;rw[hget];dsimp only;refine(zOQ next fuel (k+1) _ _ (by rw[qDz hi];lia)).trans ?_;rw[qG0,qB7];exact qF5 _ (zFO left hi)
theorem zGC(next:Nat->Nat){α:Type}(xs:Array α):(pickOrder next xs).toList.Perm xs.toList:=by
 have:=zOQ next xs.size 0 xs.toList #[] (by simp)
 unfold pickOrder
 simpa using this
theorem zEW{es:List (Int×Value)}(h:ElemsOf (strKind prog w) es):StrsAre (es.map (·.2)) (es.map fun e=>strOf e.2):=by
 induction es with
 |nil=>exact .nil
 |cons e r ih=>
  obtain⟨k,t,e1⟩:=zIT h (qAv ..)
  have:=ih h.tail
  rw[qAu,qAu,e1];exact .cons k t this
theorem zN5{vs:List Value}{zs:List Str}{acc:Array Value}{n:Nat}{P:Nat->Value->Prop}(hi:ItemsOf P acc n)(hn:vs.length=n)(hP:∀i v,i<n->P i v->vs[i]?=some v)(hz:StrsAre vs zs):StrsAre acc.toList zs:=by
 have:acc.toList=vs:=by
  refine List.ext_getElem? fun i=>?_
  by_cases h:i<n
  ·have hs:i<acc.size:=by rw[hi.1];exact h
   have h1:acc[i]?=some acc[i]:=by simp[hs]
   rw[qBf,h1,hP i _ h (hi.2 i _ h1)]
  ·rw[qF6 (by simp[hi.1];lia),qF6 (by lia)]
 rw[this];exact hz
theorem zPK{a:Addr}{ks:List Str}(hS:SetZ prog w s.heap a (!w.params.followText "set-order") ks)(hk:ks≠[]){Q:Value->Shared->Prop}
  (hQ:∀(it:Addr)(h2:Heap)(d2:Drawn)(fp:List Addr)(St:Nat->Heap->Prop)(P:Nat->Value->Prop)(vs:List Value)(zs:List Str),(∀A':Around,A'.handled=none->Walks prog w A' it fp [it] ks.length P St)->(∀i v,i<ks.length->P i v->vs[i]?=some v)->vs.length=ks.length->StrsAre vs zs->zs.Perm ks ->
   St 0 h2->(∀b∈fp,b<h2.objs.size)->(∀b∈fp,b=a\/s.heap.objs.size<=b)->s.heap.objs.size<=it->(∀b o,s.heap.get? b=some o->h2.get? b=some o)->Q (.ref it) { s with heap:=h2,drawn:=d2 }) :
  wpAny (model prog w) A (pyIter (.ref a)) Q E s:=by
 obtain⟨o,es,ep,t,ho,hex,hd,hel,hks,hnd,hb,hf,hled,hpl⟩:=hS;have hn:es.size=ks.length:=by rw[<- hks,qAq,qB3]
 have hn1:0<es.size:=by rw[hn];exact List.length_pos_iff.mpr hk
 have hpl:=hpl hn1;have hT:s.TypeIs (.ref a) "set":=⟨o,ho,hex.1⟩
 have hlt:a<s.heap.objs.size:=Heap.lt_size ho;refine wpAny_pyIter_slot hT qF7 (wpAny_call_entry qF7 hT zGQ ?_ (PySem.F.args_set_iter_1 _));unfold Builtin.«frozenset.__iter__»;refine wpAny_bind (m:=Builtin.Frozenset.slot0 "__iter__" _) (wpAny_pure ?_);refine wpAny_bind (m:=Builtin.Frozenset.sizeOf a) (wpAny_bind (wpAny_setEntries_of ho hd hf (wpAny_pure ?_)));refine wpAny_bind (m:=setDrawn a) ?_;unfold setDrawn;refine wpAny_bind (wpAny_setState_of ho hd hf ?_);dsimp only;unfold setsByText;refine wpAny_bind (wpAny_bind (wpAny_askSetting (wpAny_pure ?_)));refine wpAny_pure ?_;show wpAny _ _ (if(!w.params.followText "set-order" && (!t.plain&&decide (es.size>1)))=true then _ else _) _ _ _;rw[hpl];have ne1:a≠s.heap.objs.size:=qAf hlt;rw[<- hn]at hQ;cases hbt:w.params.followText "set-order" with
 |true=>
  rw[if_neg (by simp)];refine wpAny_bind (wpAny_pure ?_);refine wpAny_bind (wpAny_setEpoch_of ho hd hf ?_);refine wpAny_bind (wpAny_newObj_type (wpAny_pure ⟨_,rfl,"set_iterator",_,⟨_,Heap.get?_push_size _ rfl,rfl⟩,slot_si_next.lookup,?_⟩));have hpk:=zGC (w.params.setOrder a ep) es;have hpl':(pickOrder (w.params.setOrder a ep) es).size=es.size:=by rw[<- qB3,hpk.length_eq,qB3]
  generalize hpo:pickOrder (w.params.setOrder a ep) es=pk at hpk hpl'
  have hnext:∀(i:Nat)(s:Shared)(Q:Option (Value×Nat)->Shared->Prop)(A:Around)(E:Value->Shared->Prop),s.heap.get? a=some o->Q ((pk[i]?).map fun e=>(e.2,0)) s->wpAny (model prog w) A (setNext a 0 i ep) Q E s:=by
   intro i s Q A E ho' hq;unfold setNext;refine wpAny_bind (wpAny_setState_of ho' hd hf ?_);dsimp only;unfold setsByText;refine wpAny_bind (wpAny_bind (wpAny_askSetting (wpAny_pure ?_)));show wpAny _ _ (if w.params.followText "set-order" = true then _ else _) _ _ _;rw[hbt,if_pos rfl];rw[if_neg (by simp)];refine wpAny_bind ?_;unfold setWalk;refine wpAny_bind (wpAny_setState_of ho' hd hf ?_);dsimp only;unfold setsByText;refine wpAny_bind (wpAny_bind (wpAny_askSetting (wpAny_pure ?_)));show wpAny _ _ (if w.params.followText "set-order" = true then _ else _) _ _ _;rw[hbt,if_pos rfl];refine wpAny_bind (wpAny_askSetting ?_);refine wpAny_pure ?_;show wpAny _ _ (pure (((pickOrder (w.params.setOrder a ep) es)[i]?).map fun e=>(e.2,0))) _ _ _;rw[hpo];exact wpAny_pure hq
  refine hQ s.heap.objs.size _ s.drawn [s.heap.objs.size,a] _ _ (pk.toList.map (·.2)) (pk.toList.map fun e=>strOf e.2) (fun A' hA'=>zJ7 hA' ne1 hd hf (fun i=>((pk[i]?).map (·.2)).getD .none) (fun _=>0) (fun i hi s Q A E ho' hq=>hnext i s Q A E ho' ?_) (fun s Q A E ho' hq=>hnext _ s Q A E ho' ?_)) (fun i v hi hv=>?_) (by rw[qAq,qB3,hpl']) (zEW (hel.perm hpk)) (by rw[<- hks];exact hpk.map _) ⟨⟨_,Heap.get?_push_size _ rfl,rfl,rfl⟩,Heap.get?_push_of_some _ ho⟩ (fun b hb=>?_) (fun b hb=>by simp only[qA7,qAg,or_false]at hb;rcases hb with rfl|rfl;exact .inr (qA4 _);exact .inl rfl) (qA4 _) (fun b o e=>Heap.get?_push_of_some _ e)
  ·have:pk[i]?=some pk[i]:=by simp[hpl',hi]
   rw[this]at hq ⊢;exact hq
  ·have:pk[es.size]?=none:=by simp[hpl']
   rw[this];exact hq
  ·rw[hv,qAn,qBf]
   have:pk[i]?=some pk[i]:=by simp[hpl',hi]
   rw[this];rfl
  ·show b<(s.heap.push _).objs.size;rw[Heap.size_push];simp only[qA7,qAg,or_false]at hb
   rcases hb with rfl|rfl
   ·exact qBp _
   ·exact qBh hlt
 |false=>
  by_cases h2:1<es.size
  ·rw[if_pos (by simp[h2])];refine wpAny_bind (zHT es.size (qAe es.size) s _ (by simp) fun ps d hps=>?_);have hpn:ps.length=es.size:=by rw[hps.length_eq,qG1]
   refine wpAny_bind (wpAny_newTuple ?_ (hsz:=by rw[qAq,hpn];exact fits_of_scanBound hb));have ho1:(s.heap.push (seqObj "tuple" (ps.map fun i:Nat=>rawInt (i:Int)).toArray 0)).get? a=some o:=Heap.get?_push_of_some _ ho;refine wpAny_bind (wpAny_setEpoch_of (s:={ heap:=s.heap.push (seqObj "tuple" (ps.map fun i:Nat=>rawInt (i:Int)).toArray 0),gens:=s.gens,drawn:=d,toks:=s.toks,os:=s.os }) ho1 hd hf ?_);refine wpAny_bind (wpAny_newObj_type (wpAny_pure ⟨_,rfl,"set_iterator",_,⟨_,Heap.get?_push_size _ rfl,rfl⟩,slot_si_next.lookup,?_⟩));have hsz:(s.heap.push (seqObj "tuple" (ps.map fun i:Nat=>rawInt (i:Int)).toArray 0)).objs.size=s.heap.objs.size+1:=Heap.size_push _ _;have hpl3:∀p∈ps,p<es.size:=fun p hp=>qC7.mp (hps.mem_iff.mp hp)
   have hvs:∀(i:Nat)(v:Value),(∃(p:Nat)(h0:Int),ps[i]?=some p/\es[p]?=some (h0,v))->(ps.map fun p=>((es[p]?).map (·.2)).getD .none)[i]?=some v:=fun i v ⟨p,h0,e1,e2⟩=>by
    rw[qAn,e1];show some (((es[p]?).map (·.2)).getD .none)=_;rw[e2];rfl
   have hall:∀f:Int×Value->Str,((qAe es.size).map fun p=>((es[p]?).map f).getD ⟨#[]⟩)=es.toList.map f:=fun f=>by
    refine qDl (by simp) fun i h1 h2=>?_
    have hi:i<es.size:=by simpa using h1
    simp[hi]
   have hallv:((qAe es.size).map fun p=>((es[p]?).map (·.2)).getD Value.none)=es.toList.map (·.2):=by
    refine qDl (by simp) fun i h1 h2=>?_
    have hi:i<es.size:=by simpa using h1
    simp[hi]
   have hstr:StrsAre (ps.map fun p=>((es[p]?).map (·.2)).getD .none) (ps.map fun p=>((es[p]?).map fun e=>strOf e.2).getD ⟨#[]⟩):=by
    have gen:∀l:List Nat,(∀p∈l,p<es.size)->StrsAre (l.map fun p=>((es[p]?).map (·.2)).getD .none) (l.map fun p=>((es[p]?).map fun e=>strOf e.2).getD ⟨#[]⟩):=by
     intro l
     induction l with
     |nil=>intro _;exact .nil
     |cons p r ih=>
      intro hl;have hp:=hl p (by simp);have hg:es[p]?=some es[p]:=by simp[hp]
      obtain⟨k,tk,e1⟩:=zIT hel (e:=es[p]) (by rw[<- Array.getElem_toList];exact qCq _);rw[qAu,qAu,hg];show StrsAre (es[p].2::_) (strOf es[p].2::_);rw[e1];exact .cons k tk (ih fun q hq=>hl q (by simp[hq]))
    exact gen ps hpl3
   refine hQ (s.heap.push (seqObj "tuple" (ps.map fun i:Nat=>rawInt (i:Int)).toArray 0)).objs.size _ d [(s.heap.push (seqObj "tuple" (ps.map fun i:Nat=>rawInt (i:Int)).toArray 0)).objs.size,a,s.heap.objs.size] _ _ _ _ (fun A' hA'=>zNX (T:=s.heap.objs.size) (oT:=seqObj "tuple" (ps.map fun i:Nat=>rawInt (i:Int)).toArray 0) hA' (by rw[hsz];exact qAf (qBh hlt)) (by rw[hsz];exact qAf (qBp _)) hd hf ps hpn hpl3 rfl) (fun i v _ hv=>hvs i v hv) (by rw[qAq,hpn]) hstr ?_ ⟨⟨_,Heap.get?_push_size _ rfl,rfl,rfl⟩,Heap.get?_push_of_some _ ho1,Heap.get?_push_of_some _ (Heap.get?_push_size _ rfl)⟩ (fun b hb=>?_) (fun b hb=>by rw[hsz]at hb;simp only[qA7,qAg,or_false]at hb;rcases hb with rfl|rfl|rfl;exact .inr (qBr _);exact .inl rfl;exact .inr (qA4 _)) (by rw[hsz];exact qBr _) (fun b o e=>Heap.get?_push_of_some _ (Heap.get?_push_of_some _ e))
   ·rw[<- hks,<- hall];exact hps.map _
   ·show b<(Heap.push _ _).objs.size;rw[Heap.size_push,hsz];rw[hsz]at hb;simp only[qA7,qAg,or_false]at hb
    rcases hb with rfl|rfl|rfl
    ·exact qBp _
    ·exact qBh (qBh hlt)
    ·exact qBh (qBp _)
  ·rw[if_neg (by simp[h2])];refine wpAny_bind (wpAny_pure ?_);refine wpAny_bind (wpAny_setEpoch_of ho hd hf ?_);refine wpAny_bind (wpAny_newObj_type (wpAny_pure ⟨_,rfl,"set_iterator",_,⟨_,Heap.get?_push_size _ rfl,rfl⟩,slot_si_next.lookup,?_⟩));have hs1:es.size=1:=by lia
   have hled':t.led=true:=by rw[hled,hbt];rfl
   have hps1:t.place.size=1:=by
    simp only[SetTable.fits,qB9,beq_iff_eq]at hf;rw[hf.1,hs1]
   obtain⟨es0⟩:=es;obtain⟨e0,rfl⟩:∃e0,es0=[e0]:=qEx.mp (by simpa using hs1);obtain⟨j,hj⟩:∃j,t.place=#[j]:=by
    obtain⟨l⟩:Nonempty Unit:=⟨()⟩
    have:t.place.toList.length=1:=by simpa using hps1
    obtain⟨j,e⟩:=qEx.mp this;exact⟨j,Array.ext' e⟩
   have b0:SetTable.below t.place 0=0:=by rw[hj];simp[SetTable.below,SetTable.below.go]
   have b1:SetTable.below t.place (j+1)=1:=by rw[hj];simp[SetTable.below,SetTable.below.go]
   have hnext:∀(sl i:Nat)(s:Shared)(Q:Option (Value×Nat)->Shared->Prop)(A:Around)(E:Value->Shared->Prop),s.heap.get? a=some o->Q (match(#[e0]:Array (Int×Value))[SetTable.below t.place sl]?,t.place[SetTable.below t.place sl]? with|some (_,x),some j=>some (x,j+1)|_,_=>none) s->wpAny (model prog w) A (setNext a sl i ep) Q E s:=by
    intro sl i s Q A E ho' hq;unfold setNext;refine wpAny_bind (wpAny_setState_of ho' hd hf ?_);dsimp only;unfold setsByText;refine wpAny_bind (wpAny_bind (wpAny_askSetting (wpAny_pure ?_)));show wpAny _ _ (if w.params.followText "set-order" = true then _ else _) _ _ _;rw[hbt,if_neg (by decide)];show wpAny _ _ (if(!t.plain&&decide ((#[e0]:Array (Int×Value)).size>1))=true then _ else _) _ _ _;rw[if_neg (by simp)];refine wpAny_bind ?_;show wpAny _ _ (if(!t.led && !(#[e0]:Array (Int×Value)).isEmpty)=true then _ else _) _ _ _;rw[hled',if_neg (by simp)];exact wpAny_pure (wpAny_pure hq)
   refine hQ s.heap.objs.size _ s.drawn [s.heap.objs.size,a] _ _ [e0.2] [strOf e0.2] (fun A' hA'=>zJ7 hA' ne1 hd hf (fun _=>e0.2) (fun i=>if i=0 then 0 else j+1) (fun i hi s Q A E ho' hq=>hnext _ i s Q A E ho' ?_) (fun s Q A E ho' hq=>hnext _ _ s Q A E ho' ?_)) (fun i v hi hv=>?_) rfl ?_ (by rw[<- hks];exact qFd _) ⟨⟨_,Heap.get?_push_size _ rfl,rfl,rfl⟩,Heap.get?_push_of_some _ ho⟩ (fun b hb=>?_) (fun b hb=>by simp only[qA7,qAg,or_false]at hb;rcases hb with rfl|rfl;exact .inr (qA4 _);exact .inl rfl) (qA4 _) (fun b o e=>Heap.get?_push_of_some _ e)
   ·have hi0:i=0:=by simp at hi;exact hi
    subst hi0;rw[if_pos rfl,b0,hj]
    simpa using hq
   ·simp only[qAk,qAp,qDb,qCz,Nat.one_ne_zero,if_false,b1]
    simpa using hq
   ·have hi0:i=0:=by simp at hi;exact hi
    subst hi0;rw[hv];rfl
   ·have:=zEW hel
    simpa using this
   ·show b<(s.heap.push _).objs.size;rw[Heap.size_push];simp only[qA7,qAg,or_false]at hb
    rcases hb with rfl|rfl
    ·exact qBp _
    ·exact qBh hlt
end
end L2
namespace L2
open PySem PySem.Spec PyProof.Rows
theorem zTU:typeLookup (.type "set") "__len__" = pure (some (.builtin "set.__len__")):=by rw[typeLookup_type,builtinLookup_eq_fast];kernel_rfl
section
variable{prog:Program}{w:World}{A:Around}{E:Value->Shared->Prop}{s:Shared}
theorem SetZ.type{h:Heap}{a:Addr}{led:Bool}{ks:List Str}(hS:SetZ prog w h a led ks):∃o,h.get? a=some o/\o.cls=.type "set":=by
 obtain⟨o,_,_,_,ho,hex,_⟩:=hS;exact⟨o,ho,hex.1⟩
theorem zKG{a:Addr}{ks:List Str}(hh:A.handled=none)(hS:SetZ prog w s.heap a (!w.params.followText "set-order") ks)(hk:ks≠[])(hlen:ks.length<=sizeLine){Q:List Value->Shared->Prop}
  (hQ:∀(h':Heap)(d:Drawn)(tk:Nat)(acc:List Value)(zs:List Str),StrsAre acc zs->zs.Perm ks->s.heap.objs.size<h'.objs.size->(∀b o,s.heap.get? b=some o->h'.get? b=some o)->Q acc { s with heap:=h',drawn:=d,toks:=tk }) :
  wpAny (model prog w) A (collect (.ref a)) Q E s:=by
 obtain⟨o0,ho0,hc0⟩:=hS.type;have hlt:a<s.heap.objs.size:=Heap.lt_size ho0;unfold collect;refine wpAny_bind (wpAny_runValue (codeAny_builtin qDv ?_));rw[Around.under_plainId qDw _];show wpAny _ A.in1 (newList [] >>= fun l=>again (.builtin "list.__iadd__" ⟨[l,.ref a],[]⟩)) _ _ s;refine wpAny_bind (wpAny_newObj_type ?_);refine wpAny_pure ⟨plainId_quiet qCm _,codeAny_builtin qEj ?_⟩;rw[Around.under_plainId qCm _];show wpAny _ A.in1 (Builtin.List.listExtendWith (.ref s.heap.objs.size) (.ref a) (.ref s.heap.objs.size)) _ _ _;unfold Builtin.List.listExtendWith;have ho1:(s.heap.push { cls:=.type "list",data:=.seq ([]:List Value).toArray }).get? a=some o0:=Heap.get?_push_of_some _ ho0;refine wpAny_bind (wpAny_typeOf (T:="set") ⟨o0,ho1,hc0⟩ ?_);have h1:Builtin.List.listSameRef (.ref s.heap.objs.size) (.ref a)=false:=by simp[Builtin.List.listSameRef];exact qBm hlt
 have h2:(Value.type "set" == Value.type "list")=false:=by decide
 have h3:(Value.type "set" == Value.type "tuple")=false:=by decide
 simp only[h1,h2,h3,qEe,qCu,if_false];refine wpAny_bind (zPK (hS.at fun o e=>Heap.get?_push_of_some _ e) hk fun it h2 d2 fp St P vs zs W hP hvl hsa hzp hst hfp hfa hit hkeep=>?_);have hS1:h2.get? s.heap.objs.size=some { cls:=.type "list",data:=.seq ([]:List Value).toArray }:=hkeep _ _ (Heap.get?_push_size _ rfl);have hsz:(s.heap.push { cls:=.type "list",data:=.seq ([]:List Value).toArray }).objs.size=s.heap.objs.size+1:=Heap.size_push _ _;have hSf:s.heap.objs.size∉fp:=fun hm=>by
  rcases hfa _ hm with e|e
  ·exact qBm hlt e
  ·rw[hsz]at e;exact Nat.not_succ_le_self _ e
 refine wpAny_bind (wpAny_holding ?_);unfold Builtin.List.listLengthHint;have ho2:h2.get? a=some o0:=hkeep _ _ ho1;refine wpAny_bind (wpAny_specialOf (T:="set") (v:=.ref a) ⟨o0,ho2,hc0⟩ zTU ?_)
 wp_delta
 refine wpAny_bind (wpAny_isInstance (T:="set") (v:=.ref a) (b:=true) ⟨o0,ho2,hc0⟩ (by rw[isSubtype_type];kernel_rfl) ?_);show wpAny _ A.in1 (typeOf (Value.ref a) >>= _) _ _ _;refine wpAny_bind (wpAny_typeOf (T:="set") (v:=.ref a) ⟨o0,ho2,hc0⟩ ?_);refine wpAny_pure ?_;show wpAny _ A.in1 (rule "list.extend.makes-room" >>= fun _=>Builtin.List.listTouch (.ref s.heap.objs.size) >>= fun _=>
  again (.builtin "list.extend.loop" ⟨[.ref s.heap.objs.size,.ref it,.ref s.heap.objs.size],[]⟩)) _ _ _
 refine wpAny_bind (wpAny_rule ?_);refine wpAny_bind ?_;show wpAny _ A.in1 (updateSeq s.heap.objs.size (·.push .none) >>= fun _=>updateSeq s.heap.objs.size (·.pop)) _ _ _;refine wpAny_bind (wpAny_updateSeq hS1 rfl ?_);have hS₂:=Heap.get?_update_self (Obj.mapSeq (·.push Value.none)) hS1 rfl;refine wpAny_updateSeq hS₂ rfl ?_;have hS₃:=Heap.get?_update_self (Obj.mapSeq (·.pop)) hS₂ rfl;have oth:∀b o,b≠s.heap.objs.size->h2.get? b=some o->((h2.update s.heap.objs.size (Obj.mapSeq (·.push Value.none))).update s.heap.objs.size (Obj.mapSeq (·.pop))).get? b=some o:=
  fun b o hb e=>(Heap.get?_update_other _ _ (qC2 hb)).trans ((Heap.get?_update_other _ _ (qC2 hb)).trans e)
 refine wpAny_pure ⟨plainId_quiet qBo _,codeAny_extend_loopS (W A.in1 hh).toS hlen _ hSf _ ks.length 0 _ _ _ rfl (qAi _) ((W A.in1 hh).frame 0 h2 _ hst fun b hb o e=>oth b o (fun z=>hSf (z▸hb)) e) hS₃ (ItemsOf.nil P) fun s' acc' c' hm hS' hacc=>?_⟩;show wpAny _ A (load s.heap.objs.size >>= _) _ _ s';refine wpAny_bind (wpAny_load hS' ?_);obtain⟨h',g',d',tk',os'⟩:=s';have eg:g'=s.gens:=hm.gens;have ed:d'=d2:=hm.drawn;have eo:os'=s.os:=hm.os;subst eg;subst ed;subst eo;refine wpAny_pure (hQ h' d' tk' acc'.toList zs (zN5 hacc hvl hP hsa) hzp (Heap.lt_size hS') fun b o e=>?_);have hbl:b<s.heap.objs.size:=Heap.lt_size e;refine hm.heap b o (fun hb=>?_) (oth b o (qAf hbl) (hkeep b o (Heap.get?_push_of_some _ e)));simp only[qA7,qAg,or_false]at hb
 rcases hb with rfl|rfl
 ·exact qC3 _ hbl
 ·rw[hsz]at hit;exact absurd hbl (Nat.not_lt.mpr (Nat.le_of_succ_le hit))
theorem zL5{a:Addr}{ks:List Str}(hh:A.handled=none)(hS:SetZ prog w s.heap a (!w.params.followText "set-order") ks)(hk:ks≠[])(hlen:ks.length<64){Q:Value->Shared->Prop}
  (hQ:∀(h':Heap)(d:Drawn)(tk:Nat)(L:Addr)(out:Array Value)(e:Nat)(zs:List Str),StrsAre out.toList zs->zs.Perm ks->sortedS zs=true->s.heap.objs.size<=L->h'.get? L=some (seqObj "list" out e)->(∀b o,s.heap.get? b=some o->h'.get? b=some o)->Q (.ref L) { s with heap:=h',drawn:=d,toks:=tk }) :
  wpAny (model prog w) A (call (.builtin "sorted") [.ref a]) Q E s:=by
 refine Calls.call_function_entry kind_sorted plain_sorted entry_sorted (args_sorted1 _) ?_;unfold Builtin.«sorted»;refine wpAny_bind (m:=checkCount "sorted" 1 1 _) (wpAny_pure ?_);refine wpAny_bind (zKG (A:=A.in1) hh hS hk (by rw[sizeLine_eq];lia) fun h' d tk acc zs hsa hzp hgr hkeep=>?_);have hal:acc.length=ks.length:=by rw[zM4 hsa,hzp.length_eq]
 refine wpAny_bind (wpAny_newList ?_ (hsz:=by rw[hal,sizeLine_eq];lia));have hoL:(h'.push (seqObj "list" acc.toArray 0)).get? h'.objs.size=some (seqObj "list" acc.toArray 0):=Heap.get?_push_size _ rfl;refine wpAny_bind (wpAny_holding (wpAny_call_entry slot_list_sort ⟨_,hoL,rfl⟩ entry_list_sort (list_sort_treeK strKind_oneLt hoL hsa.keysOf (fun v₁ v₂ rest e=>keyKind_strs (by rw[<- e];exact hsa)) (by lia) fun st' a1 a2=>⟨_,rfl,?_⟩) (args_list_sort _)));obtain⟨zs',b1,b2,b3⟩:=sorted_out_str hsa a1 a2;obtain⟨e,he⟩:=sortedHeap_at (vs:=acc) (out:=(arrOf st').map (·.2)) hoL;refine wpAny_pure ⟨_,rfl,hQ _ d tk h'.objs.size _ e zs' b1 (b2.trans hzp) b3 ?_ he fun b o eb=>?_⟩
 ·exact qCj hgr
 ·have h1:=hkeep b o eb;have hlt:b<h'.objs.size:=Heap.lt_size h1;rw[sortedHeap_old (qAf hlt) (by rw[size_push'];exact qBh hlt)];exact Heap.get?_push_of_some _ h1
end
end L2
namespace Mi
open PySem
noncomputable section
noncomputable def ded:List Nat->List Nat
 |[]=>[]
 |a::r=>if a∈ded r then ded r else a::ded r
def sosL(l:List Nat):List Nat:=(ded l).mergeSort fun a b=>decide (a<=b)
def sosD:List Dt->Option Dt
 |[.str z]=>@ite _ (0<z.length/\z.length<=60) (qA2 _) (some (.lst ((sosL z.cps.toList).map fun c=>.str ⟨#[c]⟩))) none
 |_=>none
theorem zIV(x:Nat):∀l:List Nat,x∈ded l↔x∈l
 |[]=>by simp[ded]
 |a::r=>by
  unfold ded
  split
  ·rename_i h
   rw[zIV x r,qA7];constructor
   ·exact .inr
   ·rintro(rfl|h')
    ·exact(zIV x r).mp h
    ·exact h'
  ·rw[qA7,qA7,zIV x r]
theorem zGT:∀l:List Nat,(ded l).Nodup
 |[]=>by simp[ded]
 |a::r=>by
  unfold ded
  split
  ·exact zGT r
  ·rename_i h
   exact qCx.mpr ⟨h,zGT r⟩
theorem sos_mem(x:Nat)(l:List Nat):x∈sosL l↔x∈l:=by
 unfold sosL;rw[(qCb _ _).mem_iff,zIV]
theorem sos_nodup(l:List Nat):(sosL l).Nodup:=by
 unfold sosL;exact(qCb _ _).nodup_iff.mpr (zGT l)
theorem sos_asc(l:List Nat):(sosL l).Pairwise (·<=·):=by
 have:=qDc (le:=fun a b:Nat=>decide (a<=b)) (fun a b c h1 h2=>by simp at h1 h2 ⊢;lia) (fun a b=>by simp;lia) (ded l)
 exact this.imp fun h=>by simpa using h
end
end Mi
namespace L2
open PySem PySem.Spec PyProof.Rows
section
variable{X:Cx}{pins:List (Addr×Obj)}{σ:List (Option V)}{H:Hp}{s:Shared}
theorem Inv.drawn(I:Inv X pins σ H s)(d:Drawn):Inv X pins σ H { s with drawn:=d }:=⟨I.ok,I.os,I.bare,I.base,I.loc,I.cell,I.free,I.freeC,I.pin,I.hok,I.len⟩
noncomputable def zOF(P:Program)(w:World)(a:Addr)(ks:List Str):HO:=.ext fun h=>SetZ P w h a (!w.params.followText "set-order") ks
def zVU(P:Program)(w:World):List V->Hp->VK->Prop:=fun vs H Q=>match vs with
 |[.str z]=>z.cps.size<=1000/\∀a ks,H a=none->ks.Nodup->(∀c,c∈ks↔∃d∈z.cps.toList,c=(⟨#[d]⟩:Str))->Q (.ref a) (upd H a (zOF P w a ks))
 |_=>False
theorem zWP(hc:X.calm=true):zDM X (.type "set") (zVU X.prog X.w):=by
 intro pins s σ H vs us Q I r h;cases vs with
 |nil=>exact qA6 h
 |cons hd1 tl1=>
  cases hd1 with
  |str z=>
   cases tl1 with
   |nil=>
    obtain⟨hz,q⟩:=h;obtain⟨u,rfl,rx⟩:=zE4 r;obtain⟨t,rfl⟩:=rx;refine zI8 (I.ok.hd hc) (by unfold scanBound;lia) fun h' tk ks hS hks hk hsz=>?_
    have hS':=hS;obtain⟨o,es,ep,tb,ho,hex,hd,hel,hkse,hnd,_⟩:=hS;refine⟨.ref _,_,I.laid (t':=tk) (o:=zOF X.prog X.w s.heap.objs.size ks) (fun b u e=>hk b u (Heap.lt_size e) e) (qA4 _) ⟨hS',⟨o,ho⟩,fun h1 h2 z f=>z.at f⟩,rfl,q _ ks (I.hok.fresh (qA4 _)) hnd fun c=>?_⟩;rw[hks c];constructor
    ·rintro⟨j,d,_,e1,e2⟩
     exact⟨d,by rw[<- qBf]at e1;exact qBl e1,e2⟩
    ·rintro⟨d,hd',e2⟩
     obtain⟨j,e1⟩:=List.getElem?_of_mem hd';have hj:j<z.cps.size:=by have:=(qA3.mp e1).1;simpa using this
     exact⟨j,d,hj,by rw[<- qBf];exact e1,e2⟩
   |cons _ _=>exact qA6 h
  |_=>exact qA6 h
def zSJ(P:Program)(w:World):List V->Hp->VK->Prop:=fun vs H Q=>match vs with
 |[.ref a]=>∃ks,H a=some (zOF P w a ks)/\ks≠[]/\ks.length<64/\∀ys:List Str,ys.Perm ks->sortedS ys=true->∀l,H l=none->Q (.ref l) (upd H l (.lst (ys.map V.str)))
 |_=>False
theorem zUH(hc:X.calm=true):zDM X (.builtin "sorted") (zSJ X.prog X.w):=by
 intro pins s σ H vs us Q I r h;cases vs with
 |nil=>exact qA6 h
 |cons hd1 tl1=>
  cases hd1 with
  |ref a=>
   cases tl1 with
   |nil=>
    obtain⟨ks,ha,hne,hlen,q⟩:=h;obtain⟨u,rfl,rx⟩:=zE4 r;cases rx;have hok:ObjOk X.prog X.w H s.heap a (zOF X.prog X.w a ks):=I.hok a _ ha;have hS:SetZ X.prog X.w s.heap a (!X.w.params.followText "set-order") ks:=hok.1;refine zL5 (I.ok.hd hc) hS hne hlen fun h' d tk L out e zs b1 b2 b3 hL hl hk=>?_
    have I2:Inv X pins σ H { s with drawn:=d }:=I.drawn d;have hz':zs.length<=sizeLine:=by rw[b2.length_eq,sizeLine_eq];lia
    exact⟨.ref _,_,I2.laid (t':=tk) (o:=.lst (zs.map V.str)) (fun b o e=>hk b o e) hL ⟨by rw[qAq];exact hz',out.toList,e,zJD b1,by simpa[seqObj]using hl⟩,rfl,q zs b2 b3 _ (I2.hok.fresh hL)⟩
   |cons _ _=>exact qA6 h
  |_=>exact qA6 h
end
theorem zQC:bootBuiltins "set" = some (.type "set"):=by decide +kernel
end L2
namespace L3
open PySem PySem.Spec
open PyProof.Rows (risingS sortedS ltCps_eq)
open L2 hiding Rep RepL
open Mi (Dt Xn R okR zA3 optR zA0 zA8 zAG zA9 zAE Rh Sl Ro EM TM AM FM IM SM OM Tg Out zAT zB3 zB1 full frz frz1 frzAt)
section
variable[Kc]{mg:Str->Option Value}{E:XK}{L n k l:Nat}{te ta tb:TE}{e ea eb ma:EM}{t:TA}{m:AM}
theorem one_le{c d:Nat}:([c]:List Nat)<=[d]↔c<=d:=by
 constructor
 ·intro h
  by_cases z:c<=d
  ·exact z
  ·exact absurd (show([d]:List Nat) < [c] from .rel (by lia)) (qHe.mpr h)
 ·intro h
  rcases Nat.lt_or_eq_of_le h with h|h
  ·exact List.le_of_lt (.rel h)
  ·rw[h];exact List.le_refl _
theorem zTS{l:List Nat}(h:l.Nodup):(l.map fun c=>(⟨#[c]⟩:Str)).Nodup:=by
 rw[qEb,qEc];refine h.imp fun hne e=>hne ?_
 have:[_]=[_]:=congrArg (fun s:Str=>s.cps.toList) e
 simpa using this
theorem zMC{G:Hp}:∀(l:List Nat),RepL G (l.map fun c=>Dt.str ⟨#[c]⟩) ((l.map fun c=>(⟨#[c]⟩:Str)).map V.str)
 |[]=>rfl
 |_::r=>⟨_,_,rfl,rfl,zMC r⟩
theorem zX8{P:Program}{w:World}(A:DE mg E te e k):DE mg E (tCB (zSJ P w) (zEV (tCB (zVU P w) (zEV te tNil)) tNil)) (Mi.eBi Mi.sosD (Mi.aCons e Mi.aNil)) 1:=by
 intro G H σ ρ Q s w' p;have p0:PostE mg E G H 1 (zA3 (e ρ) fun d=>optR (Mi.sosD [d])) Q:=by
  have:(Mi.eBi Mi.sosD (Mi.aCons e Mi.aNil)) ρ=zA3 (e ρ) fun d=>optR (Mi.sosD [d]):=by
   show zA3 (zA3 (e ρ) fun x=>zA3 (okR []) fun xs=>okR (x::xs)) (fun xs=>optR (Mi.sosD xs))=_;cases e ρ with
   |none=>rfl
   |some r=>cases r<;>rfl
  rw[<- this];exact p
 refine(zB7 A).step errE s w' p0 fun d v G1 H1 S _ fr o p1=>?_
 cases d with
 |str z=>
  cases(show v=.str z from o)
  have p2:PostE mg E G H 1 (optR (@ite _ (0<z.length/\z.length<=60) (qA2 _) (some (Dt.lst ((Mi.sosL z.cps.toList).map fun c=>Dt.str ⟨#[c]⟩))) none)) Q:=p1
  split at p2
  ·rename_i hz
   have hzl:z.length=z.cps.size:=rfl;refine⟨by lia,fun a ks ha hnd hks=>?_⟩;have hperm:ks.Perm ((Mi.sosL z.cps.toList).map fun c=>(⟨#[c]⟩:Str)):=by
    refine(List.perm_ext_iff_of_nodup hnd (zTS (Mi.sos_nodup _))).mpr fun c=>?_
    rw[hks c,qC8];constructor
    ·rintro⟨d,hd,rfl⟩;exact⟨d,(Mi.sos_mem d _).mpr hd,rfl⟩
    ·rintro⟨d,hd,rfl⟩;exact⟨d,(Mi.sos_mem d _).mp hd,rfl⟩
   have hsl:(Mi.sosL z.cps.toList).length<=60:=by
    have h1:(Mi.sosL z.cps.toList).length=(Mi.ded z.cps.toList).length:=(qCb _ _).length_eq;have h2:∀l:List Nat,(Mi.ded l).length<=l.length:=by
     intro l
     induction l with
     |nil=>exact qA4 _
     |cons a r ih=>
      unfold Mi.ded
      split
      ·simp only[qAp];lia
      ·simp only[qAp];lia
    have h3:=h2 z.cps.toList;simp at h3
    lia
   refine⟨ks,zAD,?_,by rw[hperm.length_eq,qAq];lia,fun ys h1 h2 l hl=>?_⟩
   ·intro hnil;have hz0:0<z.cps.toList.length:=by simp;lia
    have hm:z.cps.toList[0]∈z.cps.toList:=qCq hz0
    have:=(hks ⟨#[z.cps.toList[0]]⟩).mpr ⟨_,hm,rfl⟩
    rw[hnil]at this;simp at this
   ·have hy:ys=(Mi.sosL z.cps.toList).map fun c=>(⟨#[c]⟩:Str):=by
     refine Mi.uniqZ (h1.trans hperm) (zOA h2) ?_;rw[qEc];exact(Mi.sos_asc _).imp fun h=>one_le.mpr h
    subst hy;have hla:l≠a:=fun z=>by rw[z,zAD]at hl;cases hl
    have hl1:H1 l=none:=by rw[zA6 hla]at hl;exact hl
    have x1:Ext G1 H1 G1 (upd H1 a (zOF P w a ks)):=⟨Same.refl _,fun b o e=>by
      by_cases z:b=a
      ·rw[z,ha]at e;cases e
      ·rw[zA6 z];exact e,fun b o e=>by
      have e2:=fr.ext.in' _ _ e
      by_cases z:b=a
      ·rw[z,ha]at e2;cases e2
      ·rw[zA6 z];exact e2,fun _ _=>rfl⟩
    exact PostE.lst p2 (fr.ext.trans x1) (zMC _) hl
  ·exact p2.elim
 |_=>exact p1.elim
end
end L3
namespace Mi
open PySem
noncomputable section
end
end Mi
namespace PySem
open Builtin Builtin.Str PySem.Spec
end PySem
namespace L2
open PySem PySem.Spec PyProof.Rows
section
variable{X:Cx}{pins:List (Addr×Obj)}{σ:List (Option V)}{H:Hp}{s:Shared}
end
end L2
namespace L3
open PySem PySem.Spec
open PyProof.Rows (risingS sortedS ltCps_eq)
open L2 hiding Rep RepL
open Mi (Dt Xn R okR zA3 optR zA0 zA8 zAG zA9 zAE Rh Sl Ro EM TM AM FM IM SM OM Tg Out zAT zB3 zB1 full frz frz1 frzAt)
section
variable[Kc]{mg:Str->Option Value}{E:XK}{L n k l:Nat}{te ta tb:TE}{e ea eb ma:EM}{t:TA}{m:AM}
end
end L3
namespace Mi
open PySem
noncomputable section
def sadD(x y:Dt):Option Dt:=match x,y with
 |.tup as,.tup bs=>match intsD as,intsD bs with
  |some ns,some ms=>@ite _ (ns≠[]/\ms≠[]/\ns.length+ms.length<64) (qA2 _) (some (.lst ((sortI (ns++ms)).map .int))) none
  |_,_=>none
 |_,_=>none
end
end Mi
namespace L2
open PySem PySem.Spec PyProof.Rows
section
variable{prog:Program}{w:World}{A:Around}{E:Value->Shared->Prop}{s:Shared}
theorem zLM{l:Addr}{vs:List Value}{Q:List Value->Shared->Prop}(hl:IsTup s.heap l vs.toArray)
  (h:Q vs { s with heap:=(s.heap.push (seqObj "list" #[] 0)).update s.heap.objs.size (Obj.mapSeq (·++vs.toArray)) }) (hsz:vs.length<=sizeLine) :
  wpAny (model prog w) A (collect (.ref l)) Q E s:=by
 obtain⟨o,ho,hc,n,hd⟩:=id hl;unfold collect;refine wpAny_bind (wpAny_runValue (codeAny_builtin qDv ?_));rw[Around.under_plainId qDw _];show wpAny _ A.in1 (newList [] >>= fun l'=>again (.builtin "list.__iadd__" ⟨[l',.ref l],[]⟩)) _ _ s;refine wpAny_bind (wpAny_newList (wpAny_pure ⟨plainId_quiet qCm _,codeAny_builtin qEj ?_⟩));rw[Around.under_plainId qCm _];show wpAny _ _ (Builtin.List.listExtendWith (.ref s.heap.objs.size) (.ref l) (.ref s.heap.objs.size)) _ _ { s with heap:=s.heap.push (seqObj "list" #[] 0) };unfold Builtin.List.listExtendWith;have ho':(s.heap.push (seqObj "list" #[] 0)).get? l=some o:=Heap.get?_push_of_some _ ho;refine wpAny_bind (wpAny_typeOf (T:="tuple") ⟨o,ho',hc⟩ ?_);have ht:(Value.type "tuple" == Value.type "tuple")=true:=by rfl
 rw[if_pos (by rw[ht];simp)];refine wpAny_bind (listItems_at ho' hd ?_);refine wpAny_bind (listItems_at (xs:=#[]) (n:=0) (Heap.get?_push_size _ rfl) rfl ?_);rw[if_neg (by simp)];refine wpAny_bind (listUpdate_at (xs:=#[]) (n:=0) (Heap.get?_push_size _ rfl) rfl ?_ (qAi _) (by show(#[]++vs.toArray).size<=sizeLine+1;simp only[Array.size_append,qAk,qDb];lia));refine wpAny_pure ?_;show wpAny (model prog w) A (do
   let o <- load s.heap.objs.size
   match o.data with
   |.seq xs _=>pure xs.toList
   |_=>unsupported "internal:collect") Q E { s with heap:=(s.heap.push (seqObj "list" #[] 0)).update s.heap.objs.size (Obj.mapSeq (·++vs.toArray)) }
 refine wpAny_bind (wpAny_load (get?_update_seq (Heap.get?_push_size _ rfl) _) ?_);show wpAny _ _ (pure ((#[]:Array Value)++vs.toArray).toList) Q E _;rw[show((#[]:Array Value)++vs.toArray).toList=vs by simp];exact wpAny_pure h
theorem zN7{l:Addr}{vs:List Value}{ns:List Int}{Q:Value->Shared->Prop}(hl:IsTup s.heap l vs.toArray)(hI:IntsAre vs ns)(h64:vs.length<64)
  (h:∀(out:Array Value)(ns':List Int),IntsAre out.toList ns'->ns'.Perm ns->ns'.Pairwise (·<=·)->Q (.ref (s.heap.objs.size+1)) { s with heap:=sortedAll s.heap vs out }) :
  wpAny (model prog w) A (call (.builtin "sorted") [.ref l]) Q E s:=by
 refine Calls.call_function_entry kind_sorted plain_sorted entry_sorted (args_sorted1 _) ?_;unfold Builtin.«sorted»;refine wpAny_bind (m:=checkCount "sorted" 1 1 _) (wpAny_pure ?_);refine wpAny_bind (zLM hl ?_ (by rw[sizeLine_eq];lia));refine wpAny_bind (wpAny_newList ?_ (hsz:=by rw[sizeLine_eq];lia));have hsz:((s.heap.push (seqObj "list" #[] 0)).update s.heap.objs.size (Obj.mapSeq (·++vs.toArray))).objs.size=s.heap.objs.size+1:=by
  rw[Heap.size_update,size_push']
 have hoL:(((s.heap.push (seqObj "list" #[] 0)).update s.heap.objs.size (Obj.mapSeq (·++vs.toArray))).push (seqObj "list" vs.toArray 0)).get? (s.heap.objs.size+1)=some (seqObj "list" vs.toArray 0):=by
  rw[<- hsz];exact Heap.get?_push_size _ rfl
 show wpAny _ _ _ _ _ { s with heap:=((s.heap.push (seqObj "list" #[] 0)).update s.heap.objs.size (Obj.mapSeq (·++vs.toArray))).push (seqObj "list" vs.toArray 0) };rw[hsz];refine wpAny_bind (wpAny_holding (wpAny_call_entry slot_list_sort ⟨_,hoL,rfl⟩ entry_list_sort (list_sort_tree hoL hI h64 fun out ns' a1 a2 a3=>⟨_,rfl,?_⟩) (args_list_sort _)));exact wpAny_pure ⟨_,rfl,h out ns' a1 a2 a3⟩
end
section
variable{X:Cx}{pins:List (Addr×Obj)}{σ:List (Option V)}{H:Hp}{s:Shared}
def zSK:List V->Hp->VK->Prop:=fun vs H Q=>match vs with
 |[.ref a]=>∃ns:List Int,H a=some (.tup (ns.map V.int))/\ns.length<64/\∀ms:List Int,ms.Perm ns->ms.Pairwise (·<=·)->∀l,H l=none->Q (.ref l) (upd H l (.lst (ms.map V.int)))
 |_=>False
theorem zUI:zDM X (.builtin "sorted") zSK:=by
 intro pins s σ H vs us Q I r h;cases vs with
 |nil=>exact qA6 h
 |cons hd1 tl1=>
  cases hd1 with
  |ref a=>
   cases tl1 with
   |nil=>
    obtain⟨u,rfl,rx⟩:=zE4 r;cases rx;obtain⟨ns,ha,hz,q⟩:=h;obtain⟨its,rv,hl,_⟩:=I.tuple (SqT.of ha);have hlen:=rv.length;rw[qAq]at hlen;refine zN7 hl (zKA rv) (by lia) fun out ms h1 h2 h3=>?_
    obtain⟨e,he⟩:=sortedAll_at s.heap its out;have hz':ms.length<=sizeLine:=by rw[h2.length_eq,sizeLine_eq];lia
    exact⟨.ref _,_,I.laid (t':=s.toks) (o:=.lst (ms.map V.int)) (fun b o q=>sortedAll_old q) (qBr _) ⟨by rw[qAq];exact hz',out.toList,e,zKB h1,by simpa[seqObj]using he⟩,rfl,q ms h2 h3 _ (I.hok.fresh (qBr _))⟩
   |cons _ _=>exact qA6 h
  |_=>exact qA6 h
end
end L2
namespace L3
open PySem PySem.Spec
open L2 hiding Rep RepL
open Mi (Dt Xn R okR zA3 optR zA0 zA8 zAG zA9 zAE Rh Sl Ro EM TM AM FM IM SM OM Tg Out zAT zB3 zB1 full frz frz1 frzAt)
section
variable[Kc]{mg:Str->Option Value}{E:XK}{L n k l:Nat}{te ta tb:TE}{e ea eb ma:EM}{t:TA}{m:AM}
theorem zXA(A:DE mg E ta ea k)(B:DE mg E tb eb l):DE mg E (tCB zSK (zEV (tOp (zW2 Kc.K) ta tb) tNil)) (Mi.eB Mi.sadD ea eb) 1:=by
 intro G H σ ρ Q s w' p;have p0:PostE mg E G H 1 (zA3 (ea ρ) fun d=>zA3 (eb ρ) fun c=>optR (Mi.sadD d c)) Q:=p;refine(zB7 A).step errE s w' p0 fun d v G1 H1 S _ fr o p1=>?_
 refine(zB7 B).step (errE.from fr.ext) fr.ext.in' (w'.mono fr.ext.g) p1 fun c u G2 H2 S2 _ fr2 o2 p2=>?_
 have o':=Rep.mono fr2.ext.g o;cases d with
 |tup as=>
  cases c with
  |tup bs=>
   obtain⟨a,xs,rfl,ha,ra⟩:=o';obtain⟨b,ys,rfl,hb,rb⟩:=o2;cases e1:Mi.intsD as with
   |none=>rw[Mi.sadD,e1]at p2;exact p2.elim
   |some ns=>
    cases e2:Mi.intsD bs with
    |none=>rw[Mi.sadD,e1,e2]at p2;exact p2.elim
    |some ms=>
     rw[Mi.sadD,e1,e2]at p2;dsimp only at p2
     split at p2
     ·rename_i hz
      cases intsD_rep e1 ra;cases intsD_rep e2 rb;have n1:ns.map V.int≠[]:=fun z=>hz.1 (qFi.mp z)
      have n2:ms.map V.int≠[]:=fun z=>hz.2.1 (qFi.mp z)
      refine⟨a,b,_,_,rfl,rfl,SqT.of (fr2.ext.in' _ _ ha),SqT.of (fr2.ext.in' _ _ hb),n1,by rw[qAq,qAq];exact big' (by lia),fun z=>absurd z n2,fun _ q hq=>?_⟩;refine⟨ns++ms,by rw[zAD,qCh],by rw[qB2];exact hz.2.2,fun zs h1 h2 l' hl'=>?_⟩
      have:zs=Mi.sortI (ns++ms):=qGb (h1.trans (zN8 _).symm) h2 (zOB _)
      subst this;have x1:Ext G2 H2 G2 (upd H2 q (.tup (ns.map V.int++ms.map V.int))):=⟨Same.refl _,fun b o e=>by
        by_cases z:b=q
        ·rw[z,hq]at e;cases e
        ·rw[zA6 z];exact e,fun b o e=>by
        have e2:=fr2.ext.in' _ _ e
        by_cases z:b=q
        ·rw[z,hq]at e2;cases e2
        ·rw[zA6 z];exact e2,fun _ _=>rfl⟩
      exact PostE.lst p2 ((fr.ext.trans fr2.ext).trans x1) (zD4 _) hl'
     ·exact p2.elim
  |_=>exact p2.elim
 |_=>exact p2.elim
end
end L3
namespace L2
open PySem PySem.Spec
section
variable{X:Cx}
end
end L2
namespace Mi
open PySem
noncomputable section
def rvsD:List Dt->Option Dt
 |[.lst xs]=>some (.lst xs.reverse)
 |[.str z]=>@ite _ (z.length<=1000) (qA2 _) (some (.lst (signsD z).reverse)) none
 |_=>none
end
end Mi
namespace L2
open PySem PySem.Spec PyProof.Rows
theorem zGA:Manifest.owners.lookup (String.ofList ['d','e','s','r','e','v','e','r'].reverse)=some Manifest.sig_reversed:=by kernel_rfl
theorem rvd_slot_next:Slot "reversed" "__next__" "reversed.__next__":=
 Slot.of (owner:="reversed") (n:="__next__") (by rw[typeLookup_type,builtinLookup_eq_fast];kernel_rfl) (by decide +kernel) (by decide +kernel) (by decide +kernel) (by first|exact .inl (by decide +kernel)|exact .inr (by decide +kernel)) (by rw[isSubtype_type];kernel_rfl)
theorem zE7:entryFor table "reversed.__next__" = some Builtin.«reversed.__next__»:=entryFor_of_tree (by kernel_rfl)
theorem zF0(a:Value):argsOk "reversed.__next__" ⟨[a],[]⟩:=by
 unfold argsOk;rw[signature?_of (id:="reversed.__next__") (n:=['_','_','t','x','e','n','_','_']) (o:=['d','e','s','r','e','v','e','r']) (by kernel_rfl) zGA];kernel_rfl
theorem zEZ:Slot "reversed" "__iter__" "reversed.__iter__":=
 Slot.of (owner:="reversed") (n:="__iter__") (by rw[typeLookup_type,builtinLookup_eq_fast];kernel_rfl) (by decide +kernel) (by decide +kernel) (by decide +kernel) (by first|exact .inl (by decide +kernel)|exact .inr (by decide +kernel)) (by rw[isSubtype_type];kernel_rfl)
theorem zIA(a:Value):argsOk "reversed.__iter__" ⟨[a],[]⟩:=by
 unfold argsOk;rw[signature?_of (id:="reversed.__iter__") (n:=['_','_','r','e','t','i','_','_']) (o:=['d','e','s','r','e','v','e','r']) (by kernel_rfl) zGA];kernel_rfl
theorem zH1:entryFor table "reversed.__iter__" = some Builtin.«dict_keyiterator.__iter__»:=
 entryFor_alias (id':="dict_keyiterator.__iter__") (by kernel_rfl) (by first|rfl|decide +kernel|(unfold String.splitOn;simp +decide [String.splitOnAux])) (by decide +kernel) (by kernel_rfl)
theorem rvd_slot_hint:Slot "reversed" "__length_hint__" "reversed.__length_hint__":=
 Slot.of (owner:="reversed") (n:="__length_hint__") (by rw[typeLookup_type,builtinLookup_eq_fast];kernel_rfl) (by decide +kernel) (by decide +kernel) (by decide +kernel) (by first|exact .inl (by decide +kernel)|exact .inr (by decide +kernel)) (by rw[isSubtype_type];kernel_rfl)
theorem zH2:entryFor table "reversed.__length_hint__" = some Builtin.«reversed.__length_hint__»:=entryFor_of_tree (by kernel_rfl)
theorem zIB(a:Value):argsOk "reversed.__length_hint__" ⟨[a],[]⟩:=by
 unfold argsOk;rw[signature?_of (id:="reversed.__length_hint__") (n:=['_','_','t','n','i','h','_','h','t','g','n','e','l','_','_']) (o:=['d','e','s','r','e','v','e','r']) (by kernel_rfl) zGA];kernel_rfl
theorem zNA:typeLookup (.type "reversed") "__len__" = pure none:=by rw[typeLookup_type,builtinLookup_eq_fast];kernel_rfl
theorem rvd_called:TypeCalled "reversed" "reversed.__new__" "object.__init__" where
 notType:=by decide +kernel
 canCreate:=PySem.F.create_reversed
 mro:=⟨_,_,PySem.F.mro_reversed⟩
 made:=PySem.F.made_reversed
 plain:=qD4
 sub:=PySem.F.sub_reversed_self
 init:=Slot.of (owner:="object") (n:="__init__") (by rw[typeLookup_type,builtinLookup_eq_fast];kernel_rfl) (by decide +kernel) (by decide +kernel) (by decide +kernel) (by first|exact .inl (by decide +kernel)|exact .inr (by decide +kernel)) (by rw[isSubtype_type];kernel_rfl)
theorem zNL:typeLookup (.type "list_reverseiterator") "__len__" = pure none:=by rw[typeLookup_type,builtinLookup_eq_fast];kernel_rfl
theorem zRH:typeLookup (.type "list_reverseiterator") "__length_hint__" = pure (some (.builtin "list_reverseiterator.__length_hint__")):=by rw[typeLookup_type,builtinLookup_eq_fast];kernel_rfl
theorem zN6:typeLookup (.type "str") "__reversed__" = pure none:=by rw[typeLookup_type,builtinLookup_eq_fast];kernel_rfl
structure Walk1(prog:Program)(w:World)(A:Around)(I:Addr)(fp:List Addr)(n:Nat)(P:Nat->Value->Prop)(St:Nat->Heap->Prop):Prop where
 me:I∈fp
 frame:∀i h h',St i h->(∀b∈fp,∀o,h.get? b=some o->h'.get? b=some o)->St i h'
 item:∀i (s:Shared) (Q:Option Value->Shared->Prop) (E:Value->Shared->Prop),i<n->St i s.heap ->
  (∀v h' tk,P i v->St (i+1) h'->(∀b o,b≠I->s.heap.get? b=some o->h'.get? b=some o)->Q (some v) { s with heap:=h',toks:=tk })->wpAny (model prog w) A (pyNext (.ref I)) Q E s
 done:∀(s:Shared)(Q:Option Value->Shared->Prop)(E:Value->Shared->Prop),St n s.heap ->
  (∀h' tk,(∀b o,b≠I->s.heap.get? b=some o->h'.get? b=some o)->(∃u,h'.get? I=some u)->Q none { s with heap:=h',toks:=tk })->wpAny (model prog w) A (pyNext (.ref I)) Q E s
 self:∀i (s:Shared) (Q:Value->Shared->Prop) (E:Value->Shared->Prop),St i s.heap->Q (.ref I) s->wpAny (model prog w) A (pyIter (.ref I)) Q E s
theorem zMY{prog:Program}{w:World}{A:Around}{I:Addr}{fp:List Addr}{n:Nat}{P:Nat->Value->Prop}{St:Nat->Heap->Prop}{R:Result->Shared->Prop}(W:Walk1 prog w A.in1 I fp n P St)(hn:n<=sizeLine)(S:Addr)(hSf:S∉fp)(res:Value) :
  ∀(k i:Nat)(s:Shared)(acc:Array Value)(c:Nat),n-i=k->i<=n->St i s.heap->s.heap.get? S=some { cls:=.type "list",dict:=none,data:=.seq acc c,slots:=#[] }->ItemsOf P acc i ->
  (∀h' tk acc' c',(∀b o,b≠S->b≠I->s.heap.get? b=some o->h'.get? b=some o)->(∃u,h'.get? I=some u)->h'.get? S=some { cls:=.type "list",dict:=none,data:=.seq acc' c',slots:=#[] }->ItemsOf P acc' n->R (.ok (.ret res)) { s with heap:=h',toks:=tk }) ->
  codeAny (model prog w) A (.builtin "list.extend.loop" ⟨[.ref S,.ref I,res],[]⟩) R s:=by
 have hSI:S≠I:=fun h=>hSf (h▸W.me)
 intro k
 induction k with
 |zero=>
  intro i s acc c hk hi hst hS hacc hR;have hin:i=n:=by lia
  subst hin;refine codeAny_builtin qE5 ?_;rw[Around.under_plainId qBo _];show wpAny _ A.in1 (pyNext (.ref I) >>= _) _ _ s;refine wpAny_bind (W.done s _ _ hst fun h' tk hk hu=>?_);exact wpAny_pure (hR h' tk acc c (fun b o _ hb e=>hk b o hb e) hu (hk S _ hSI hS) hacc)
 |succ k ih=>
  intro i s acc c hk hi hst hS hacc hR;have hlt:i<n:=by lia
  refine codeAny_builtin qE5 ?_;rw[Around.under_plainId qBo _];show wpAny _ A.in1 (pyNext (.ref I) >>= _) _ _ s;refine wpAny_bind (W.item i s _ _ hlt hst fun v h1 t1 hP hst' hk1=>?_);have hS':=hk1 S _ hSI hS;show wpAny _ A.in1 (updateSeq S (·.push v) >>= _) _ _ _;refine wpAny_bind ?_;refine wpAny_updateSeq hS' rfl (wpAny_pure ⟨plainId_quiet qBo _,ih (i+1) _ (acc.push v) _ (by lia) hlt (W.frame _ h1 _ hst' fun b hb o e=>?_) (Heap.get?_update_self _ hS' rfl) (hacc.push hP) fun h'' tk acc' c' hk2 hu hS'' hacc'=>?_⟩)
   (by rw[hacc.1];lia) (by show(acc.push v).size<=sizeLine+1;rw[Array.size_push,hacc.1];lia)
  ·exact(Heap.get?_update_other _ _ (fun h:S=b=>hSf (by rw[h];exact hb))).trans e
  ·refine hR h'' tk acc' c' (fun b o hb hb2 e=>hk2 b o hb hb2 ?_) hu hS'' hacc';exact(Heap.get?_update_other _ _ (qC2 hb)).trans (hk1 b o hb2 e)
structure Once(prog:Program)(w:World)(T:String)(r:Addr)(fp:List Addr)(n:Nat)(P:Nat->Value->Prop)(St:Nat->Heap->Prop):Prop where
 ty:∀(s:Shared) i,St i s.heap->s.TypeIs (.ref r) T
 nl:(Value.type T==Value.type "list")=false
 nt:(Value.type T==Value.type "tuple")=false
 me:r∈fp
 hint:∀(A:Around)(E:Value->Shared->Prop)(s:Shared)(Q:Bool->Shared->Prop),A.handled=none->St 0 s.heap->(∀b tk,Q b { s with toks:=tk })->wpAny (model prog w) A (Builtin.List.listLengthHint (.ref r)) Q E s
 walk:∀(A:Around),A.handled=none->Walk1 prog w A r fp n P St
section
variable{prog:Program}{w:World}{A:Around}{E:Value->Shared->Prop}{s:Shared}{T:String}{r:Addr}{fp:List Addr}{n:Nat}{P:Nat->Value->Prop}{St:Nat->Heap->Prop}
theorem zLA{R:Result->Shared->Prop}(K:Once prog w T r fp n P St)(hh:A.handled=none)(st:St 0 s.heap)(S:Addr)(hSf:S∉fp)(res:Value)(c₀:Nat)(hS:s.heap.get? S=some { cls:=.type "list",data:=.seq #[] c₀ })
  (hR:∀h' tk acc' c',(∀b o,b≠S->b≠r->s.heap.get? b=some o->h'.get? b=some o)->(∃u,h'.get? r=some u)->h'.get? S=some { cls:=.type "list",dict:=none,data:=.seq acc' c',slots:=#[] }->ItemsOf P acc' n->R (.ok (.ret res)) { s with heap:=h',toks:=tk }) (hn:n<=sizeLine) :
  wpAny (model prog w) A.in1 (Builtin.List.listExtendWith (.ref S) (.ref r) res)
   (fun fin s'=>match fin with | .done f=>R (.ok f) s' | .again c'=>c'.quiet=true/\codeAny (model prog w) A c' R s') (fun e s'=>R (.error e) s') s:=by
 have W:=K.walk A.in1 hh;have hSr:S≠r:=fun z=>hSf (z▸K.me)
 have key:∀(h:Heap)(c₁ tk:Nat),St 0 h->(∀b o,b≠S->s.heap.get? b=some o->h.get? b=some o) ->
   h.get? S=some { cls:=.type "list",data:=.seq #[] c₁ }->codeAny (model prog w) A (.builtin "list.extend.loop" ⟨[.ref S,.ref r,res],[]⟩) R { s with heap:=h,toks:=tk }:=by
  intro h c₁ tk hst hk hS₁;refine zMY W hn S hSf res n 0 _ #[] c₁ rfl (qAi _) hst hS₁ (ItemsOf.nil _) fun h' tk' acc' c' hm hu hS' hacc=>?_
  exact hR h' tk' acc' c' (fun b o hb hb2 e=>hm b o hb hb2 (hk b o hb e)) hu hS' hacc
 unfold Builtin.List.listExtendWith;refine wpAny_bind (wpAny_typeOf (T:=T) (K.ty s 0 st) ?_);have h1:Builtin.List.listSameRef (.ref S) (.ref r)=false:=by simp[Builtin.List.listSameRef,hSr]
 simp only[h1,K.nl,K.nt,qEe,qCu,if_false];refine wpAny_bind (W.self 0 s _ _ st ?_);refine wpAny_bind (wpAny_holding (K.hint _ _ _ _ hh st fun b tk=>?_));refine wpAny_ite_split (fun _=>?_) (fun _=>wpAny_pure ⟨plainId_quiet qBo _,key _ c₀ _ st (fun b o _ e=>e) hS⟩);refine wpAny_bind (wpAny_rule ?_);refine wpAny_bind ?_;show wpAny _ _ (updateSeq S (·.push .none) >>= fun _=>updateSeq S (·.pop)) _ _ _;refine wpAny_bind (wpAny_updateSeq hS rfl ?_);have hS₂:=Heap.get?_update_self (Obj.mapSeq (·.push Value.none)) hS rfl;refine wpAny_updateSeq (hz:=by seq_fits) hS₂ rfl ?_;have hS₃:=Heap.get?_update_self (Obj.mapSeq (·.pop)) hS₂ rfl;refine wpAny_pure ⟨plainId_quiet qBo _,key _ _ _ ?_ (fun b o hb e=>?_) hS₃⟩
 ·refine W.frame 0 _ _ st fun b hb o e=>?_
  have hbS:b≠S:=fun h=>hSf (h▸hb)
  exact(Heap.get?_update_other _ _ (qC2 hbS)).trans ((Heap.get?_update_other _ _ (qC2 hbS)).trans e)
 ·exact(Heap.get?_update_other _ _ (qC2 hb)).trans ((Heap.get?_update_other _ _ (qC2 hb)).trans e)
theorem zJV{Q:Value->Shared->Prop}(K:Once prog w T r fp n P St)(hh:A.handled=none)(st:St 0 s.heap)(hfp:∀b∈fp,b<s.heap.objs.size)(hn:n<=sizeLine)
  (hQ:∀h' tk acc' c',(∀b o,b≠r->s.heap.get? b=some o->h'.get? b=some o)->(∃u,h'.get? r=some u)->h'.get? s.heap.objs.size=some { cls:=.type "list",dict:=none,data:=.seq acc' c',slots:=#[] }->ItemsOf P acc' n->Q (.ref s.heap.objs.size) { s with heap:=h',toks:=tk }) :
  wpAny (model prog w) A (call (.type "list") [.ref r]) Q E s:=by
 refine callType_codes (Q₁:=fun obj s₁=>obj=.ref s.heap.objs.size/\s₁={ s with heap:=s.heap.push { cls:=.type "list",data:=.seq #[] } }) PySem.F.called_list (PySem.F.typeCall_list_1 _) PySem.F.entry_list_init (code_list_new _ ⟨rfl,rfl⟩) fun obj s₁ h₁=>?_
 obtain⟨rfl,rfl⟩:=h₁;have hS:(s.heap.push { cls:=.type "list",data:=.seq #[] }).get? s.heap.objs.size=some { cls:=.type "list",data:=.seq #[] }:=Heap.get?_push_size _ rfl;have hSf:s.heap.objs.size∉fp:=fun hm=>qC3 _ (hfp _ hm)
 refine⟨⟨_,hS,rfl⟩,PySem.F.args_list_init_2 _ _,?_⟩
 generalize hg:s.heap.push { cls:=.type "list",data:=.seq #[] }=g at hS ⊢
 show wpAny _ _ (do let old <- Builtin.List.listItems (.ref s.heap.objs.size);Builtin.List.listUpdate (.ref s.heap.objs.size) (fun _=>#[]);letGo old.toList.reverse;Builtin.List.listExtendWith (.ref s.heap.objs.size) (.ref r) .none) _ _ _;refine wpAny_bind ?_;unfold Builtin.List.listItems;refine wpAny_bind (wpAny_seqItems hS rfl (wpAny_pure ?_));show wpAny _ _ (updateSeq s.heap.objs.size (fun _=>#[]) >>= fun _=>letGo (#[]:Array Value).toList.reverse >>= fun _=>Builtin.List.listExtendWith (.ref s.heap.objs.size) (.ref r) .none) _ _ _;refine wpAny_bind (wpAny_updateSeq hS rfl ?_);have hS₂:=Heap.get?_update_self (Obj.mapSeq (fun _=>(#[]:Array Value))) hS rfl;have oth:∀b o,b≠s.heap.objs.size->s.heap.get? b=some o->(g.update s.heap.objs.size (Obj.mapSeq (fun _=>(#[]:Array Value)))).get? b=some o:=
  fun b o hb e=>(Heap.get?_update_other _ _ (qC2 hb)).trans (by rw[<- hg];exact Heap.get?_push_of_some _ e)
 refine wpAny_bind (wpAny_letGo ?_);refine zLA (A:=A.in1) K hh ((K.walk A hh).frame 0 _ _ st fun b hb o e=>oth b o (qAf (hfp b hb)) e) _ hSf .none _ hS₂ (fun h' tk acc' c' hk hu hS' hacc=>?_) hn;exact⟨rfl,hQ h' tk acc' c' (fun b o hb e=>hk b o (qAf (Heap.lt_size e)) hb (oth b o (qAf (Heap.lt_size e)) e)) hu hS' hacc⟩
end
theorem zUG{prog:Program}{w:World}{A:Around}{E:Value->Shared->Prop}{s:Shared}{it l:Addr}{Q:Option Value->Shared->Prop}(hh:A.handled=none)(hit:s.heap.IsRevIter it l (-1))
  (hQ:∀h',(∀b o,s.heap.get? b=some o->h'.get? b=some o)->Q none { s with heap:=h' }):wpAny (model prog w) A (pyNext (.ref it)) Q E s:=by
 obtain⟨o,ho,hc,hd⟩:=id hit;unfold pyNext;refine wpAny_bind (wpAny_attempt (wpAny_callSpecial?_slot (name:=Str.ofString "__next__") hit.typeIs qF8 (wpAny_call_entry qF8 hit.typeIs PySem.F.entry_lri_next ?_ (PySem.F.args_lri_next_1 _))));unfold Builtin.«list_reverseiterator.__next__»;refine wpAny_bind (wpAny_of_eq (a:=(Value.ref it,[])) rfl ?_)
 try dsimp only
 refine wpAny_bind (wpAny_field ho hd (x:=rawInt (-1)) rfl ?_);show wpAny _ _ (if(-1:Int)<0 then _ else _) _ _ s;rw[if_pos (by decide)];refine wpAny_bind (wpAny_rule ?_)
 first
 |show wpAny _ _ (newExc (.type "StopIteration") [] >>= _) _ _ _
 |(refine wpAny_bind ?_;show wpAny _ _ (newExc (.type "StopIteration") [] >>= _) _ _ _)
 refine wpAny_bind ?_;simp only[newExc,newTuple];refine wpAny_bind (wpAny_newObj_type ?_ (by size_fits));refine wpAny_bind (m:=firstArgMember _ _) (wpAny_of_eq (a:=Value.none) (by first|rfl|(simp only[firstArgMember];rfl)) ?_);refine wpAny_newObj_type ?_ (by size_fits);simp only[raiseNew];refine wpAny_bind (wpAny_handled ?_)
 first|rw[show A.in1.handled=none from hh]|rw[hh]
 refine wpAny_bind (wpAny_pure (wpAny_throw ?_));refine wpAny_bind (wpAny_isInstance (T:="StopIteration") (b:=true) ⟨_,Heap.get?_push_size _ rfl,rfl⟩ isSubtype_stop ?_);exact wpAny_pure (hQ _ fun b o e=>Heap.get?_push_of_some _ (Heap.get?_push_of_some _ e))
theorem zR9{prog:Program}{w:World}(I l:Addr)(hne:l≠I)(items:Array Value) :
  Once prog w "list_reverseiterator" I [I,l] items.size (fun i v=>items[items.size-1-i]?=some v) (fun i h=>i<=items.size/\h.IsRevIter I l ((items.size:Int)-1-(i:Int))/\h.IsList l items) where
 ty:=fun s i st=>st.2.1.typeIs
 nl:=by decide
 nt:=by decide
 me:=by simp
 hint:=fun A E s Q hh st hQ=>by
  have hT:=st.2.1.typeIs;unfold Builtin.List.listLengthHint;refine wpAny_bind (wpAny_specialOf hT zNL ?_);show wpAny _ _ (specialOf (Value.ref I) (Str.ofString "__length_hint__") >>= _) _ _ _;refine wpAny_bind (wpAny_specialOf hT zRH ?_)
  generalize hid:("list_reverseiterator.__length_hint__":String)=id0
  wp_delta
  rw[show splitId id0=some ("list_reverseiterator","__length_hint__") from by subst hid;decide +kernel];subst hid;refine wpAny_bind (wpAny_isInstance (T:="list_reverseiterator") (b:=true) hT (by rw[isSubtype_type];kernel_rfl) ?_);refine wpAny_ite_split (fun hab=>absurd hab (by decide)) (fun _=>?_);refine wpAny_ite_split (fun _=>?_) (fun hab=>absurd (by decide +kernel) hab);refine wpAny_ite_split (fun hab=>absurd hab (by decide +kernel)) (fun _=>?_);exact wpAny_pure (hQ false s.toks)
 walk:=fun A hh=>{
  me:=by simp
  frame:=(Walks.listRev (prog:=prog) (w:=w) hh I l hne items).frame
  item:=fun i s Q E hi st hQ=>(Walks.listRev (prog:=prog) (w:=w) hh I l hne items).item i s Q E hi st fun v h' tk hv hs hk=>hQ v h' tk hv hs fun b o hb e=>hk b o (fun z=>hb (qBs.mp z)) e
  done:=fun s Q E st hQ=>by
   have e:(items.size:Int)-1-(items.size:Int) = -1:=by lia
   have hit:=st.2.1;rw[e]at hit;obtain⟨o,ho,_⟩:=id hit;exact zUG hh hit fun h' he'=>hQ h' s.toks (fun b o _ eo=>he' b o eo) ⟨o,he' _ _ ho⟩
  self:=(Walks.listRev (prog:=prog) (w:=w) hh I l hne items).self }
noncomputable def zM9(x:Str)(t:Tok)(i:Int):Obj:={ cls:=.type "reversed",data:=.fields #[.str x t,rawInt i] }
def IsRvd(h:Heap)(a:Addr)(x:Str)(t:Tok)(i:Int):Prop:=∃o,h.get? a=some o/\o.cls=.type "reversed"/\o.data=.fields #[.str x t,rawInt i]
section
variable{prog:Program}{w:World}{A:Around}{E:Value->Shared->Prop}{s:Shared}{x:Str}{t:Tok}
theorem IsRvd.type{a:Addr}{i:Int}(h:IsRvd s.heap a x t i):s.TypeIs (.ref a) "reversed":=let⟨o,ho,hc,_⟩:=h;⟨o,ho,hc⟩
theorem IsRvd.at{h h':Heap}{a:Addr}{i:Int}(z:IsRvd h a x t i)(e:∀o,h.get? a=some o->h'.get? a=some o):IsRvd h' a x t i:=let⟨o,ho,r⟩:=z;⟨o,e _ ho,r⟩
theorem zTV{Q₁:Value->Shared->Prop}(hx:x.length<=sizeLine)
  (h:∀tk,Q₁ (.ref s.heap.objs.size) { s with heap:=s.heap.push (zM9 x t ((x.length:Int)-1)),toks:=tk }) :
  codeAny (model prog w) A (.call (.builtin "reversed.__new__") ⟨[.type "reversed",.str x t],[]⟩) (wants Q₁ E) s:=by
 have hn:=zF5;refine codeAny_of_tree ?_;show wpAny _ A.in1 (do checkBuiltinCall "reversed.__new__" ⟨[.type "reversed",.str x t],[]⟩;again (.builtin "reversed.__new__" ⟨[.type "reversed",.str x t],[]⟩)) _ _ s;refine wpAny_bind (wpAny_of_eq (PySem.F.newCall_reversed_1 _) (wpAny_pure ⟨plainId_quiet qD4 _,codeAny_builtin PySem.F.entry_reversed_new ?_⟩));rw[Around.under_plainId qD4 _];unfold Builtin.«reversed.__new__»;refine wpAny_bind (wpAny_of_eq (newClass_reversed _) ?_)
 try dsimp only
 refine wpAny_bind (wpAny_of_eq (a:=()) (by first|rfl|kernel_rfl) ?_);refine wpAny_bind (wpAny_of_eq (a:=()) (by first|rfl|kernel_rfl) ?_)
 try dsimp only
 refine wpAny_bind (wpAny_specialOf (typeIs_str s x t) zN6 ?_);refine wpAny_bind ?_;show wpAny _ _ (isInstance (.str x t) (.type "dict") >>= _) _ _ _;refine wpAny_bind (wpAny_isInstance (T:="str") (v:=.str x t) (b:=false) rfl (by rw[isSubtype_type];kernel_rfl) ?_);show wpAny _ _ (specialOf (.str x t) "__getitem__" >>= _) _ _ _;refine wpAny_bind (wpAny_specialOf (typeIs_str s x t) slot_str_getitem.lookup ?_);refine wpAny_of_eq (a:=true) (by first|rfl|kernel_rfl) ?_;show wpAny _ _ (call (Value.builtin "len") [Value.str x t] >>= _) _ _ _;refine wpAny_bind (len_str (by lia) ?_);refine wpAny_bind (wpAny_of_eq (a:=some (x.length:Int)) (by first|rfl|kernel_rfl) ?_);refine wpAny_bind ?_;show wpAny _ _ (newObj (.type "reversed") (.fields #[Value.str x t,rawInt ((x.length:Int)-1)])) _ _ _;refine wpAny_newObj_type ?_;exact wpAny_pure (h _)
theorem zQT{Q:Value->Shared->Prop}(hx:x.length<=sizeLine)
  (h:∀tk,Q (.ref s.heap.objs.size) { s with heap:=s.heap.push (zM9 x t ((x.length:Int)-1)),toks:=tk }):wpAny (model prog w) A (call (.type "reversed") [.str x t]) Q E s:=by
 refine callType_codes (Q₁:=fun obj s₁=>obj=.ref s.heap.objs.size/\∃tk,s₁={ s with heap:=s.heap.push (zM9 x t ((x.length:Int)-1)),toks:=tk }) rvd_called (PySem.F.typeCall_reversed_1 _) PySem.F.entry_object_init (zTV hx fun tk=>⟨rfl,tk,rfl⟩) fun obj s₁ h₁=>?_
 obtain⟨rfl,tk,rfl⟩:=h₁;have hT:Shared.TypeIs { s with heap:=s.heap.push (zM9 x t ((x.length:Int)-1)),toks:=tk } (.ref s.heap.objs.size) "reversed":=⟨_,Heap.get?_push_size _ rfl,rfl⟩
 exact⟨hT,PySem.F.args_object_init_2 _ _,object_init_meets rvd_called.init.lookup rvd_called.made (by decide) prog w A.in1 _ _ ⟨hT,rfl,h tk⟩⟩
theorem zJK{i n:Nat}(h:i<n):seqIndex? (i:Int) n=some i:=by
 unfold seqIndex?;simp
 lia
theorem zQS{it:Addr}{i:Nat}{c:Nat}{Q:Option Value->Shared->Prop}(hit:IsRvd s.heap it x t (i:Int))(hx:x.length<=sizeLine)(hc:x.cps[i]?=some c)
  (hQ:∀h' u tk,IsRvd h' it x t ((i:Int)-1)->Heap.SameBut it s.heap h'->Q (some (.str ⟨#[c]⟩ u)) { s with heap:=h',toks:=tk }):wpAny (model prog w) A (pyNext (.ref it)) Q E s:=by
 obtain⟨o,ho,hcl,hd⟩:=id hit;have hn:=zF5;have hlt:i<x.length:=(qBk.mp hc).1;unfold pyNext;refine wpAny_bind (wpAny_attempt (wpAny_callSpecial?_slot (name:=Str.ofString "__next__") hit.type rvd_slot_next
  (wpAny_call_entry rvd_slot_next hit.type zE7 ?_ (zF0 _))))
 unfold Builtin.«reversed.__next__»;refine wpAny_bind (wpAny_of_eq (a:=(Value.ref it,[])) rfl ?_)
 try dsimp only
 refine wpAny_bind (wpAny_field ho hd (x:=.str x t) rfl ?_);refine wpAny_bind (wpAny_field ho hd (x:=rawInt (i:Int)) rfl ?_);show wpAny _ _ (if(i:Int)<0 then _ else _) _ _ s;rw[if_neg (by lia)];show wpAny _ _ (specialOf (.str x t) "__getitem__" >>= _) _ _ _;refine wpAny_bind (wpAny_specialOf (typeIs_str s x t) slot_str_getitem.lookup ?_);show wpAny _ _ (mkInt (i:Int) >>= _) _ _ _;refine wpAny_bind (wpAny_mkInt ?_);have e1:decide ((i:Int) < -(2 ^ 63:Int))=false:=decide_eq_false (by lia);have e2:decide ((i:Int)>=2 ^ 63)=false:=decide_eq_false (by lia);refine wpAny_bind (wpAny_attempt (getItem_str (c:=c) (by rw[e1,e2,qEe]) (by rw[zJK hlt];exact hc) ?_));show wpAny _ _ (field (Value.ref it) 1 >>= _) _ _ _;refine wpAny_bind (wpAny_field ho hd (x:=rawInt (i:Int)) rfl ?_);show wpAny _ _ (setField (Value.ref it) 1 (rawInt ((i:Int)-1)) >>= _) _ _ _;refine wpAny_bind (wpAny_setField ho hd (by simp) ?_);refine wpAny_pure ⟨_,rfl,wpAny_pure (hQ _ _ _ ?_ (Heap.SameBut.update ..))⟩;exact⟨_,Heap.get?_update_self _ ho (Obj.isFreed_of_fields (Obj.data_mapFields hd _)),(Obj.cls_mapFields ..).trans hcl,by
  rw[Obj.data_mapFields hd];simp⟩
theorem zQR{it:Addr}{i:Int}{Q:Value->Shared->Prop}(hit:IsRvd s.heap it x t i)(h:Q (.ref it) s):wpAny (model prog w) A (pyIter (.ref it)) Q E s:=by
 refine wpAny_pyIter_slot hit.type zEZ (wpAny_call_entry zEZ hit.type zH1 ?_ (zIA _));show wpAny _ _ (ret (.ref it)) _ _ s;exact wpAny_pure ⟨_,rfl,"reversed",_,hit.type,rvd_slot_next.lookup,h⟩
theorem zTW{it:Addr}{Q:Option Value->Shared->Prop}(hh:A.handled=none)(hit:IsRvd s.heap it x t (-1))
  (hQ:∀h',Heap.ExtBut it s.heap h'->(∃u,h'.get? it=some u)->Q none { s with heap:=h' }):wpAny (model prog w) A (pyNext (.ref it)) Q E s:=by
 obtain⟨o,ho,hc,hd⟩:=id hit;unfold pyNext;refine wpAny_bind (wpAny_attempt (wpAny_callSpecial?_slot (name:=Str.ofString "__next__") hit.type rvd_slot_next
  (wpAny_call_entry rvd_slot_next hit.type zE7 ?_ (zF0 _))))
 unfold Builtin.«reversed.__next__»;refine wpAny_bind (wpAny_of_eq (a:=(Value.ref it,[])) rfl ?_)
 try dsimp only
 refine wpAny_bind (wpAny_field ho hd (x:=.str x t) rfl ?_);refine wpAny_bind (wpAny_field ho hd (x:=rawInt (-1)) rfl ?_);show wpAny _ _ (if(-1:Int)<0 then _ else _) _ _ s;rw[if_pos (by decide)];refine wpAny_bind (wpAny_rule ?_);refine wpAny_bind ?_;show wpAny _ _ (setField (.ref it) 1 (rawInt (-1)) >>= fun _=>setField (.ref it) 0 .none) _ _ _;refine wpAny_bind (wpAny_setField ho hd (by simp) ?_);have ho2:=Heap.get?_update_self (Obj.mapFields fun x=>x.setIfInBounds 1 (rawInt (-1))) ho (Obj.isFreed_of_fields (Obj.data_mapFields hd _));refine wpAny_setField ho2 (Obj.data_mapFields hd _) (by simp) ?_;refine wpAny_bind ?_;have hB:Heap.ExtBut it s.heap ((s.heap.update it (Obj.mapFields fun x=>x.setIfInBounds 1 (rawInt (-1)))).update it (Obj.mapFields fun x=>x.setIfInBounds 0 Value.none)):=
  fun b o hb e=>(Heap.get?_update_other _ _ (qC2 hb)).trans ((Heap.get?_update_other _ _ (qC2 hb)).trans e)
 have hU:=Heap.get?_update_self (Obj.mapFields fun x=>x.setIfInBounds 0 Value.none) ho2 (Obj.isFreed_of_fields (Obj.data_mapFields (Obj.data_mapFields hd _) _))
 generalize((s.heap.update it (Obj.mapFields fun x=>x.setIfInBounds 1 (rawInt (-1)))).update it (Obj.mapFields fun x=>x.setIfInBounds 0 Value.none))=g at hB hU ⊢
 show wpAny _ _ (newExc (.type "StopIteration") [] >>= _) _ _ _;refine wpAny_bind ?_;simp only[newExc,newTuple];refine wpAny_bind (wpAny_newObj_type ?_ (by size_fits));refine wpAny_bind (m:=firstArgMember _ _) (wpAny_of_eq (a:=Value.none) (by first|rfl|(simp only[firstArgMember];rfl)) ?_);refine wpAny_newObj_type ?_ (by size_fits);simp only[raiseNew];refine wpAny_bind (wpAny_handled ?_);rw[show A.in1.handled=none from hh];refine wpAny_bind (wpAny_pure (wpAny_throw ?_));refine wpAny_bind (wpAny_isInstance (T:="StopIteration") (b:=true) ⟨_,Heap.get?_push_size _ rfl,rfl⟩ isSubtype_stop ?_);exact wpAny_pure (hQ _ ((hB.push _).push _) ⟨_,Heap.get?_push_of_some _ (Heap.get?_push_of_some _ hU)⟩)
theorem zR8{I:Addr}(hx:x.length<=sizeLine) :
  Once prog w "reversed" I [I] x.length (fun i v=>∃c u,x.cps[x.length-1-i]?=some c/\v=.str ⟨#[c]⟩ u) (fun i h=>i<=x.length/\IsRvd h I x t ((x.length:Int)-1-(i:Int))) where
 ty:=fun s i st=>st.2.type
 nl:=by decide
 nt:=by decide
 me:=by simp
 hint:=fun A E s Q hh st hQ=>by
  have hn:=zF5;have hT:=st.2.type;obtain⟨o,ho,hc,hd⟩:=st.2;unfold Builtin.List.listLengthHint;refine wpAny_bind (wpAny_specialOf hT zNA ?_);show wpAny _ _ (specialOf (Value.ref I) (Str.ofString "__length_hint__") >>= _) _ _ _;refine wpAny_bind (wpAny_specialOf hT rvd_slot_hint.lookup ?_)
  generalize hid:("reversed.__length_hint__":String)=id0
  wp_delta
  rw[show splitId id0=some ("reversed","__length_hint__") from by subst hid;decide +kernel];subst hid;refine wpAny_bind (wpAny_isInstance (T:="reversed") (b:=true) hT (by rw[isSubtype_type];kernel_rfl) ?_);refine wpAny_ite_split (fun hab=>absurd hab (by decide)) (fun _=>?_);refine wpAny_ite_split (fun hab=>absurd hab (by decide +kernel)) (fun _=>?_);refine wpAny_bind (wpAny_rule ?_);refine wpAny_bind (wpAny_of_eq (rvd_slot_hint.bind _) ?_)
  try dsimp only
  refine wpAny_bind (wpAny_attempt (wpAny_call_entry rvd_slot_hint hT zH2 ?_ (zIB _)));unfold Builtin.«reversed.__length_hint__»;refine wpAny_bind (wpAny_of_eq (a:=Value.ref I) rfl ?_);refine wpAny_bind (wpAny_field ho hd (x:=.str x t) rfl ?_);show wpAny _ _ (call (Value.builtin "len") [Value.str x t] >>= _) _ _ _;refine wpAny_bind (len_str (by lia) ?_);refine wpAny_bind (wpAny_of_eq (a:=some (x.length:Int)) (by first|rfl|kernel_rfl) ?_)
  try dsimp only
  refine wpAny_bind (wpAny_field ho hd (x:=rawInt ((x.length:Int)-1-((0:Nat):Int))) rfl ?_);show wpAny _ _ (if(x.length:Int)<(x.length:Int)-1-((0:Nat):Int)+1 then _ else _) _ _ _;rw[if_neg (by lia)];refine wpAny_bind (wpAny_mkInt (wpAny_pure ⟨_,rfl,?_⟩));have hF:Builtin.List.listFitsIndex ((x.length:Int)-1-((0:Nat):Int)+1)=true:=by unfold Builtin.List.listFitsIndex;simp;lia
  have hL:Builtin.List.listTooLong ((x.length:Int)-1-((0:Nat):Int)+1).toNat=false:=by unfold Builtin.List.listTooLong;simp;lia
  show wpAny _ _ (asInt? (Value.int ((x.length:Int)-1-((0:Nat):Int)+1) _) >>= _) _ _ _;refine wpAny_bind (wpAny_of_eq (a:=some ((x.length:Int)-1-((0:Nat):Int)+1)) (by first|rfl|kernel_rfl) ?_)
  try dsimp only
  rw[hF,hL];refine wpAny_ite_split (fun hab=>absurd hab (by decide)) (fun _=>?_);refine wpAny_ite_split (fun hab=>absurd hab (by lia)) (fun _=>?_);refine wpAny_ite_split (fun hab=>absurd hab (by decide)) (fun _=>?_);exact wpAny_pure (hQ _ _)
 walk:=fun A hh=>{
  me:=by simp
  frame:=fun i h h' st hk=>⟨st.1,st.2.at fun o e=>hk I (by simp) o e⟩
  item:=fun i s Q E hi st hQ=>by
   have e:(x.length:Int)-1-(i:Int)=((x.length-1-i:Nat):Int):=by lia
   have hit:=st.2;rw[e]at hit;have hlt:x.length-1-i<x.cps.size:=by show _<x.length;lia
   have hc:x.cps[x.length-1-i]?=some (x.cps[x.length-1-i]'hlt):=qE3 hlt;refine zQS hit hx hc fun h' u tk hit' hs'=>?_
   have e2:((x.length-1-i:Nat):Int)-1=(x.length:Int)-1-((i+1:Nat):Int):=by lia
   rw[e2]at hit';exact hQ _ h' tk ⟨_,u,hc,rfl⟩ ⟨hi,hit'⟩ fun b o hb eo=>hs'.extBut b o hb eo
  done:=fun s Q E st hQ=>by
   have e:(x.length:Int)-1-(x.length:Int) = -1:=by lia
   have hit:=st.2;rw[e]at hit;exact zTW hh hit fun h' he' hu=>hQ h' s.toks (fun b o hb eo=>he' b o hb eo) hu
  self:=fun _ _ _ _ st hQ=>zQR st.2 hQ }
end
end L2
namespace L2
open PySem PySem.Spec PyProof.Rows
noncomputable def zRI(p a:Addr)(n:Nat):HO:=.ext fun h=>h.IsRevIter p a ((n:Int)-1)
noncomputable def zQU(p:Addr)(z:Str):HO:=.ext fun h=>∃t,IsRvd h p z t ((z.length:Int)-1)
noncomputable def zEB(p:Addr):HO:=.ext fun h=>∃o,h.get? p=some o
section
variable{X:Cx}{pins:List (Addr×Obj)}{σ:List (Option V)}{H:Hp}{s:Shared}
theorem Inv.spent{p:Addr}{h':Heap}{t':Nat}(I:Inv X pins σ H s)(mu:Mut (H p))(k:∀b u,b≠p->s.heap.get? b=some u->h'.get? b=some u)(hp:∃u,h'.get? p=some u) :
  Inv X pins σ (upd H p (zEB p)) { s with heap:=h',toks:=t' }:=
 I.write mu (.inl rfl) k hp ⟨hp,hp,fun h1 h2 z f=>let⟨o,e⟩:=z;⟨o,f o e⟩⟩
theorem Inv.walked{p l:Addr}{h':Heap}{t':Nat}{o:HO}(I:Inv X pins σ H s)(mu:Mut (H p))(hl:s.heap.objs.size<=l)(k:∀b u,b≠p->s.heap.get? b=some u->h'.get? b=some u)(hp:∃u,h'.get? p=some u)
  (new:ObjOk X.prog X.w (upd (upd H p (zEB p)) l o) h' l o):Inv X pins σ (upd (upd H p (zEB p)) l o) { s with heap:=h',toks:=t' }:=by
 have hn:H l=none:=I.hok.fresh hl;have hpl:l≠p:=fun z=>by subst z;rw[hn]at mu;exact mu
 have w:Un X.fs [] H (upd H p (zEB p)) s.heap h':=Un.write mu (.inl rfl) k hp;have hn2:upd H p (zEB p) l=none:=by rw[zA6 hpl];exact hn
 refine I.un ⟨w.keep,w.slot,fun b u q n x=>?_,w.there,fun b xs q=>?_,fun b u xs q=>?_,fun b ps q=>?_⟩ fun b u e=>?_
 ·rw[zA6 (qAf (qAc (Heap.lt_size q) hl))];exact w.free b u q n x
 ·rw[zA6 (zAI q hn)];exact w.tups b xs q
 ·rw[zA6 (zAI q hn)];exact w.frzs b u xs q
 ·rw[zA6 (zAI q hn)];exact w.tbls b ps q
 ·by_cases hb:b=l
  ·subst hb;rw[zAD]at e;cases e;exact new
  ·rw[zA6 hb]at e;have h0:HOk X.prog X.w (upd H p (zEB p)) h':=I.hok.write mu (.inl rfl) k hp ⟨hp,hp,fun h1 h2 z f=>let⟨o,e⟩:=z;⟨o,f o e⟩⟩;exact(h0 b u e).stay (fun c v _ q=>q) (fun c q=>by rw[zA6 (zAI q hn2)];exact q) (fun c xs q=>by rw[zA6 (zAI q hn2)];exact q) fun c _ _ q _=>by rw[zA6 (zAI q hn2)];exact q
def zVV(K:qA0):List V->Hp->VK->Prop:=fun vs H Q=>match vs with
 |[.ref a]=>∃xs,SqL K H a xs/\∀p,H p=none->Q (.ref p) (upd H p (zRI p a xs.length))
 |[.str z]=>z.length<=sizeLine/\∀p,H p=none->Q (.ref p) (upd H p (zQU p z))
 |_=>False
theorem zWQ{K:qA0}(hK:X.K=K:=by rfl):zDM X (.type "reversed") (zVV K):=by
 subst hK;intro pins s σ H vs us Q I r h
 match vs,r,h with
 |[.ref a],r,h=>
  obtain⟨xs,hq,q⟩:=h;obtain⟨u,rfl,rx⟩:=zE4 r;cases rx;obtain⟨its,rv,pl,hz⟩:=I.list hq;have hlen:=rv.length;refine call_reversed_list pl.isList ?_;have e:((its.toArray.size:Nat):Int)-1=(xs.length:Int)-1:=by simp;lia
  rw[e];exact⟨.ref _,_,I.laid (t':=s.toks) (o:=zRI s.heap.objs.size a xs.length) (fun b o e=>Heap.get?_push_of_some _ e) (qA4 _) ⟨⟨_,Heap.get?_push_size _ rfl,rfl,rfl⟩,⟨_,Heap.get?_push_size _ rfl⟩,fun h1 h2 z f=>z.at f⟩,rfl,q _ I.fresh⟩
 |[.str z],r,h=>
  obtain⟨hz,q⟩:=h;obtain⟨u,rfl,rx⟩:=zE4 r;obtain⟨t,rfl⟩:=rx;refine zQT hz fun tk=>?_
  exact⟨.ref _,_,I.laid (t':=tk) (o:=zQU s.heap.objs.size z) (fun b o e=>Heap.get?_push_of_some _ e) (qA4 _) ⟨⟨t,_,Heap.get?_push_size _ rfl,rfl,rfl⟩,⟨_,Heap.get?_push_size _ rfl⟩,fun h1 h2 z f=>let⟨t,y⟩:=z;⟨t,y.at f⟩⟩,rfl,q _ I.fresh⟩
theorem zKZ:∀{xs:List V}{us:List Value},us.length=xs.length->(∀(j:Nat)(u:Value)(x:V),us[j]?=some u->xs[j]?=some x->RelV x u)->Vals xs us
 |[],[],_,_=>.nil
 |x::xs,u::us,e,h=>.cons (h 0 u x rfl rfl) (zKZ (by simpa using e) fun j u' x' h1 h2=>h (j+1) u' x' (by simpa using h1) (by simpa using h2))
 |[],_::_,e,_=>by simp at e
 |_::_,[],e,_=>by simp at e
theorem zLW:∀{xs:List V}{us:List Value},Vals xs us->∀(j:Nat)(u:Value)(x:V),us[j]?=some u->xs[j]?=some x->RelV x u
 |_,_,.nil,j,u,x,h1,h2=>by simp at h1
 |_,_,.cons a b,0,u,x,h1,h2=>by simp at h1 h2;subst h1;subst h2;exact a
 |_,_,.cons a b,j+1,u,x,h1,h2=>zLW b j u x (by simpa using h1) (by simpa using h2)
def zSL(K:qA0):List V->Hp->VK->Prop:=fun vs H Q=>match vs with
 |[.ref p]=>(∃a xs,H p=some (zRI p a xs.length)/\a≠p/\SqL K H a xs/\∀l,upd H p (zEB p) l=none->Q (.ref l) (upd (upd H p (zEB p)) l (.lst xs.reverse))) \/
   ∃z,H p=some (zQU p z)/\z.length<=sizeLine/\∀l,upd H p (zEB p) l=none->Q (.ref l) (upd (upd H p (zEB p)) l (.lst (zE6 z).reverse))
 |_=>False
theorem zPI{K:qA0}(hc:X.calm=true)(hK:X.K=K:=by rfl):zDM X (.type "list") (zSL K):=by
 subst hK;intro pins s σ H vs us Q I r h;cases vs with
 |nil=>exact qA6 h
 |cons hd1 tl1=>
  cases hd1 with
  |ref p=>
   cases tl1 with
   |nil=>
    obtain⟨u,rfl,rx⟩:=zE4 r;cases rx
    rcases h with⟨a,xs,hp,hap,hq,q⟩|⟨z,hp,hz,q⟩
    ·obtain⟨its,rv,pl,hz⟩:=I.list hq;have hlen:=rv.length;have hok:ObjOk X.prog X.w H s.heap p (zRI p a xs.length):=I.hok p _ hp;have hit:s.heap.IsRevIter p a ((xs.length:Int)-1):=hok.1;have hpl:p<s.heap.objs.size:=hok.lt;have hal:a<s.heap.objs.size:=by obtain⟨o,ho,_⟩:=pl.isList;exact Heap.lt_size ho
     have mu:Mut (H p):=by rw[hp];trivial
     have st:0<=its.toArray.size/\s.heap.IsRevIter p a ((its.toArray.size:Int)-1-((0:Nat):Int))/\s.heap.IsList a its.toArray:=⟨qAi _,by
      have e:((its.toArray.size:Nat):Int)-1-((0:Nat):Int)=(xs.length:Int)-1:=by simp;lia
      rw[e];exact hit,pl.isList⟩
     refine zJV (zR9 p a hap its.toArray) (I.ok.hd hc) st (fun b hb=>by
      rcases qA7.mp hb with e|e
      ·rw[e];exact hpl
      ·rw[qBs.mp e];exact hal) (by simp;lia) fun h' tk acc' c' hk hu hl hi=>?_
     have hv:Vals xs.reverse acc'.toList:=by
      refine zKZ (by simp[hi.1];lia) fun j u x h1 h2=>?_
      have hj:j<xs.length:=by have:=(qA3.mp h2).1;simpa using this
      have e1:=hi.2 j u (by rw[<- qBf];exact h1);rw[qCf hj]at h2;refine zLW rv _ u x ?_ h2;have e2:its.toArray.size-1-j=xs.length-1-j:=by simp;lia
      rw[e2]at e1
      simpa using e1
     have hl0:H s.heap.objs.size=none:=I.fresh;exact⟨.ref _,_,I.walked (t':=tk) (o:=.lst xs.reverse) mu (qA4 _) (fun b o hb e=>hk b o hb e) hu ⟨by simpa using hz,acc'.toList,c',hv,by simpa using hl⟩,rfl,q _ (by rw[zA6 (qBm hpl)];exact hl0)⟩
    ·have hok:ObjOk X.prog X.w H s.heap p (zQU p z):=I.hok p _ hp;obtain⟨t,hit⟩:∃t,IsRvd s.heap p z t ((z.length:Int)-1):=hok.1;have hpl:p<s.heap.objs.size:=hok.lt;have mu:Mut (H p):=by rw[hp];trivial
     have st:0<=z.length/\IsRvd s.heap p z t ((z.length:Int)-1-((0:Nat):Int)):=⟨qAi _,by simpa using hit⟩
     refine zJV (zR8 (I:=p) hz) (I.ok.hd hc) st (fun b hb=>by rw[qBs.mp hb];exact hpl) hz fun h' tk acc' c' hk hu hl hi=>?_
     have hsl:(zE6 z).length=z.length:=by simp[zE6,Str.length]
     have hv:Vals (zE6 z).reverse acc'.toList:=by
      refine zKZ (by simp[hi.1,hsl]) fun j u x h1 h2=>?_
      have hj:j<(zE6 z).length:=by have:=(qA3.mp h2).1;simpa using this
      obtain⟨c,w,e1,rfl⟩:=hi.2 j u (by rw[<- qBf];exact h1);rw[qCf hj,hsl]at h2;unfold zE6 at h2;rw[qAn,qBf,e1]at h2;cases h2;exact⟨w,rfl⟩
     have hl0:H s.heap.objs.size=none:=I.fresh;exact⟨.ref _,_,I.walked (t':=tk) (o:=.lst (zE6 z).reverse) mu (qA4 _) (fun b o hb e=>hk b o hb e) hu ⟨by simpa[hsl]using hz,acc'.toList,c',hv,by simpa using hl⟩,rfl,q _ (by rw[zA6 (qBm hpl)];exact hl0)⟩
   |cons _ _=>exact qA6 h
  |_=>exact qA6 h
theorem zED:bootBuiltins "reversed" = some (.type "reversed"):=by decide +kernel
end
end L2
namespace L3
open PySem PySem.Spec
open L2 hiding Rep RepL
open Mi (Dt Xn R okR zA3 optR zA0 zA8 zAG zA9 zAE Rh Sl Ro EM TM AM FM IM SM OM Tg Out zAT zB3 zB1 full frz frz1 frzAt)
section
variable[Kc]{mg:Str->Option Value}{E:XK}{L n k l:Nat}{te ta tb:TE}{e ea eb ma:EM}{t:TA}{m:AM}
theorem zJL{H:Hp}{p:Addr}(h:H p=none)(o u:HO):L2.Same H (upd (upd H p o) p u):=fun b w q=>by
 have hb:b≠p:=fun z=>by rw[z,h]at q;cases q
 rw[zA6 hb,zA6 hb];exact q
theorem zT7(A:DA mg E t m 0):DE mg E (tCB (zSL Kc.K) (zEV (tCB (zVV Kc.K) t) tNil)) (Mi.eBi Mi.rvsD m) 1:=by
 intro G H σ ρ Q s w p;refine A.step errE s w p fun ds vs G1 H1 S T _ fr o p1=>?_
 have p2:=PostE.from p1 fr.ext;have r:=o.repL;have s1:=fr.ext.in'
 match ds,r,p2 with
 |[.lst es],r,p2=>
  obtain⟨x,rfl,a,xs,rfl,ha,ra⟩:=zFU r;have hs:SqL Kc.K H1 a xs:=SqL.of (s1 _ _ ha);refine⟨xs,hs,fun q hq=>.inl ⟨a,xs,zAD,fun z=>?_,hs.sq (L2.same_new hq _),fun l hl=>?_⟩⟩
  ·have:=s1 _ _ ha
   rw[z,hq]at this;cases this
  ·exact PostE.lst p2 (Ext.same s1 (zJL hq _ _)) (zMD ra) hl
 |[.str z],r,p2=>
  obtain⟨x,rfl,hx⟩:=zFU r
  cases(show x=.str z from hx)
  rw[Mi.rvsD]at p2
  split at p2
  ·rename_i hz
   have hzl:z.length<=sizeLine:=by rw[sizeLine_eq];lia
   refine⟨hzl,fun q hq=>.inr ⟨z,zAD,hzl,fun l hl=>?_⟩⟩;exact PostE.lst p2 (Ext.same s1 (zJL hq _ _)) (zMD (zNC z)) hl
  ·exact p2.elim
 |[],_,p=>exact p.elim
 |[.non],_,p=>exact p.elim
 |[.bl _],_,p=>exact p.elim
 |[.int _],_,p=>exact p.elim
 |[.tup _],_,p=>exact p.elim
 |[.scr _],_,p=>exact p.elim
 |[.exc _ _ _],_,p=>exact p.elim
 |[.fn _ _],_,p=>exact p.elim
 |[.ins _ _],_,p=>exact p.elim
 |[.dct _],_,p=>exact p.elim
 |x::_::_,_,p=>cases x<;>exact p.elim
end
end L3
namespace Mi
open PySem
noncomputable section
end
end Mi
namespace L3
open PySem PySem.Spec
open L2 hiding Rep RepL
open Mi (Dt Xn R okR zA3 optR zA0 zA8 zAG zA9 zAE Rh Sl Ro EM TM AM FM IM SM OM Tg Out zAT zB3 zB1 full frz frz1 frzAt)
section
variable[Kc]{mg:Str->Option Value}{E:XK}{L n k l:Nat}
end
end L3
namespace Mi
open PySem
noncomputable section
end
end Mi
namespace PySem
open Builtin Builtin.Str PySem.Spec
end PySem
namespace L2
open PySem PySem.Spec PyProof.Rows
section
variable{X:Cx}{pins:List (Addr×Obj)}{σ:List (Option V)}{H:Hp}{s:Shared}
end
end L2
namespace L3
open PySem PySem.Spec
open L2 hiding Rep RepL
open Mi (Dt Xn R okR zA3 optR zA0 zA8 zAG zA9 zAE Rh Sl Ro EM TM AM FM IM SM OM Tg Out zAT zB3 zB1 full frz frz1 frzAt)
section
variable[Kc]{mg:Str->Option Value}{E:XK}{L n k l:Nat}
end
end L3
namespace PySem
open Sem (wp)
section
variable{prog:Program}{w:World}{A:Around}{K:Type}[DecidableEq K]{knd:KeyKind prog w K}
end
end PySem
namespace Mi
open PySem
noncomputable section
end
end Mi
namespace L2
open PySem PySem.Spec PyProof.Rows
section
variable{X:Cx}
variable{o e:Expr}{es:List Expr}{to:TE}{t:TA}{name:Str}{apos cpos:Pos}{T id:String}{r:V->List V->Hp->VK->Prop}
end
end L2
namespace L3
open PySem PySem.Spec
open L2 hiding Rep RepL
open Mi (Dt Xn R okR zA3 optR zA0 zA8 zAG zA9 zAE Rh Sl Ro EM TM AM FM IM SM OM Tg Out zAT zB3 zB1 full frz frz1 frzAt)
section
variable[Kc]{mg:Str->Option Value}{E:XK}{L n k l:Nat}{te ta tb tx td:TE}{e ea eb ex ed ma:EM}{t:TA}{m:AM}
end
end L3
namespace Mi
open PySem
noncomputable section
end
end Mi
namespace L2
open PySem PySem.Spec PyProof.Rows
section
variable{X:Cx}{pins:List (Addr×Obj)}{σ:List (Option V)}{H:Hp}{s:Shared}
end
section
variable{X:Cx}
end
end L2
namespace L3
open PySem PySem.Spec
open L2 hiding Rep RepL
open Mi (Dt Xn R okR zA3 optR zA0 zA8 zAG zA9 zAE Rh Sl Ro EM TM AM FM IM SM OM Tg Out zAT zB3 zB1 full frz frz1 frzAt)
section
variable[Kc]{mg:Str->Option Value}{E:XK}{L n k l:Nat}{te ta tb:TE}{e ea eb ma:EM}{t:TA}{m:AM}
end
end L3
namespace Mi
open PySem
noncomputable section
end
end Mi
namespace L2
open PySem PySem.Spec PyProof.Rows
section
variable{X:Cx}{e m1:Expr}{te ts:TE}{pos p2:Pos}
end
end L2
namespace L3
open PySem PySem.Spec
open L2 hiding Rep RepL
open Mi (Dt Xn R okR zA3 optR zA0 zA8 zAG zA9 zAE Rh Sl Ro EM TM AM FM IM SM OM Tg Out zAT zB3 zB1 full frz frz1 frzAt)
section
variable[Kc]{mg:Str->Option Value}{E:XK}{L n k l:Nat}
end
end L3
namespace Mi
open PySem
noncomputable section
end
end Mi
namespace L2
open PySem PySem.Spec PyProof.Rows
section
variable{X:Cx}
end
end L2
namespace L3
open PySem PySem.Spec PyProof.Rows
open L2 hiding Rep RepL
open Mi (Dt R Rh EM TM SM AM IM Xn Sl Ro Out okR zA3 optR full frz frzAt)
section
variable[Kc]{mg:Str->Option Value}{E:XK}{n L:Nat}{te ta tb:TE}{e:EM}{m m':SM}
end
end L3
namespace Mi
open PySem
noncomputable section
end
end Mi
namespace L2
open PySem PySem.Spec PyProof.Rows
section
variable{X:Cx}{tg:Expr}
end
section
variable{prog:Program}{w:World}{A:Around}{E:Value->Shared->Prop}{s:Shared}
end
section
variable{X:Cx}
end
end L2
namespace L3
open PySem PySem.Spec
open PyProof.Rows (risingS sortedS ltCps_eq)
open L2 hiding Rep RepL
open Mi (Dt Xn R okR zA3 optR zA0 zA8 zAG zA9 zAE Rh Sl Ro EM TM AM FM IM SM OM Tg Out zAT zB3 zB1 full frz frz1 frzAt)
section
variable[Kc]{mg:Str->Option Value}{E:XK}{L n k l:Nat}{t:TA}{m:AM}
end
end L3
namespace Mi
open PySem
noncomputable section
end
end Mi
namespace L3
open PySem PySem.Spec
open L2 hiding Rep RepL
open Mi (Dt Xn R okR zA3 optR zA0 zA8 zAG zA9 zAE Rh Sl Ro EM TM AM FM IM SM OM Tg Out zAT zB3 zB1 full frz frz1 frzAt)
section
variable[Kc]{mg:Str->Option Value}{E:XK}{L n k l:Nat}{te:TE}{e:EM}
section
variable{G0 H0 S0:Hp}{σ:St}{ρ:Ro}{G H:Hp}{As:Nat->Addr->Prop}
end
end
end L3
namespace Mi
open PySem
noncomputable section
end
end Mi
namespace L2
open PySem PySem.Spec PyProof.Rows
section
variable{X:Cx}
end
end L2
namespace L3
open PySem PySem.Spec
open L2 hiding Rep RepL
open Mi (Dt Xn R okR zA3 optR zA0 zA8 zAG zA9 zAE Rh Sl Ro EM TM AM FM IM SM OM Tg Out zAT zB3 zB1 full frz frz1 frzAt)
section
variable[Kc]{mg:Str->Option Value}{E:XK}{L n k l:Nat}{te ta tb tx td:TE}{e ea eb ex ed ma:EM}{t:TA}{m:AM}
end
end L3
namespace Mi
open PySem
noncomputable section
end
end Mi
namespace L2
open PySem PySem.Spec PyProof.Rows
section
variable{prog:Program}{w:World}{A:Around}{E:Value->Shared->Prop}{s:Shared}
end
section
variable{X:Cx}
end
end L2
namespace L3
open PySem PySem.Spec
open L2 hiding Rep RepL
open Mi (Dt Xn R okR zA3 optR zA0 zA8 zAG zA9 zAE Rh Sl Ro EM TM AM FM IM SM OM Tg Out zAT zB3 zB1 full frz frz1 frzAt)
section
variable[Kc]{mg:Str->Option Value}{E:XK}{L n k l:Nat}
end
end L3
namespace Mi
open PySem
noncomputable section
end
end Mi
namespace L2
open PySem PySem.Spec PyProof.Rows
section
variable{prog:Program}{w:World}{A:Around}{E:Value->Shared->Prop}{s:Shared}
end
section
variable{X:Cx}{o:Expr}{td:TE}{p apos cpos pos:Pos}
end
end L2
namespace L3
open PySem PySem.Spec
open PyProof.Rows (risingS sortedS ltCps_eq)
open L2 hiding Rep RepL
open Mi (Dt Xn R okR zA3 optR zA0 zA8 zAG zA9 zAE Rh Sl Ro EM TM AM FM IM SM OM Tg Out zAT zB3 zB1 full frz frz1 frzAt)
section
variable[Kc]{mg:Str->Option Value}{E:XK}{L n k l:Nat}{te ta td:TE}{e ea ed:EM}
end
end L3
namespace Mi
open PySem
noncomputable section
end
end Mi
namespace L2
open PySem
end L2
namespace L2
open PySem PySem.Spec PyProof.Rows
section
variable{prog:Program}{w:World}{A:Around}{E:Value->Shared->Prop}{s:Shared}
end
section
variable{prog:Program}{w:World}{A:Around}{R:Result->Shared->Prop}{I:Addr}{fp wr:List Addr}{G:Array GenState->Array GenState->Prop}{n:Nat}{St:Nat->Shared->Prop}{led:Bool}{items:Array Value}{ns:List Int}
end
end L2
namespace PySem
open PyProof.Rows
end PySem
namespace L2
open PySem PySem.Spec PyProof.Rows
section
variable{prog:Program}{w:World}{A:Around}{E:Value->Shared->Prop}{s:Shared}
end
section
variable{X:Cx}{pins:List (Addr×Obj)}{σ:List (Option V)}{H:Hp}{s:Shared}
end
end L2
namespace L3
open PySem PySem.Spec
open L2 hiding Rep RepL
open Mi (Dt Xn R okR zA3 optR zA0 zA8 zAG zA9 zAE Rh Sl Ro EM TM AM FM IM SM OM Tg Out zAT zB3 zB1 full frz frz1 frzAt)
section
variable[Kc]{mg:Str->Option Value}{E:XK}{L n k l:Nat}{te ta tb:TE}{e ea eb ma:EM}{t:TA}{m:AM}
end
end L3
namespace Mi
open PySem
noncomputable section
end
end Mi
namespace L2
open PySem PySem.Spec PyProof.Rows
section
variable{prog:Program}{w:World}{A:Around}{E:Value->Shared->Prop}{s:Shared}
end
section
variable{X:Cx}{K:qA0}
end
section
variable{X:Cx}{e m1:Expr}{te ts:TE}{pos p2:Pos}
end
end L2
namespace L2
open PySem PySem.Spec PyProof.Rows
section
variable{prog:Program}{w:World}{A:Around}{R:Result->Shared->Prop}{I:Addr}{fp wr:List Addr}{G:Array GenState->Array GenState->Prop}{n:Nat}{St:Nat->Shared->Prop}{led:Bool}{items:Array Value}{zs:List Str}
end
end L2
namespace PySem
open PyProof.Rows
end PySem
namespace L2
open PySem PySem.Spec PyProof.Rows
section
variable{X:Cx}{pins:List (Addr×Obj)}{σ:List (Option V)}{H:Hp}{s:Shared}
end
end L2
namespace L3
open PySem PySem.Spec
open L2 hiding Rep RepL
open Mi (Dt Xn R okR zA3 optR zA0 zA8 zAG zA9 zAE Rh Sl Ro EM TM AM FM IM SM OM Tg Out zAT zB3 zB1 full frz frz1 frzAt)
section
variable[Kc]{mg:Str->Option Value}{E:XK}{L n k l:Nat}{te ta tb:TE}{e ea eb ma:EM}{t:TA}{m:AM}
end
end L3
namespace L2
open PySem
theorem uw1{P:List Value->Prop}(h:∀a,P [a]):∀us:List Value,us.length=1->P us
 |[a],_=>h a
theorem uw2{P:List Value->Prop}(h:∀a b,P [a,b]):∀us:List Value,us.length=2->P us
 |a::us,hl=>uw1 (P:=fun us=>P (a::us)) (h a) us (qHb hl)
theorem uw3{P:List Value->Prop}(h:∀a b c,P [a,b,c]):∀us:List Value,us.length=3->P us
 |a::us,hl=>uw2 (P:=fun us=>P (a::us)) (h a) us (qHb hl)
theorem oi{p q:Prop}(h:p\/q:=by first|exact qHg rfl|exact qH7 rfl):p\/q:=h
end L2
namespace L3
open PySem PyProof.Rows
open L2 hiding Rep RepL
section
variable{P:Program}{w:World}{K:qA0}{mg:Str->Option Value}{base:Heap}{x:Str}{st:Stmt}{N ps:List Str}{k:Nat}{sp:Sp}
theorem mkD{K:qA0}{h:Heap}{mg:Str->Option Value}{nm:Str}{st:Stmt}{f:Addr}{oc kV dc pm cd ct:Value}{od an:Option Addr}{sl:Array (Option Value)}(X:K.In h)(G:h.Ns mainGlobals mg)(a:qAt K mainGlobals nm=some (some (.ref f)))(l:K.lookup f=some ⟨oc,od,.func (qAx nm nm (zB5 st) (zAY st) (zA5 st) .none kV dc pm an cd ct),sl⟩)(c:qAy K cd nm=true)(k:qAd K (.ref f)=true):Def K mg nm st:=⟨f,_,zCU (st:=st) l c k,qBu X G a⟩
end
section
variable{X:Cx}{pos:Pos}
end
end L3
namespace Mi
open PySem
noncomputable section
end
end Mi
namespace L3
open PySem PySem.Spec
open L2 hiding Rep RepL
open Mi (Dt Xn R okR zA3 optR zA0 zA8 zAG zA9 zAE Rh Sl Ro EM TM AM FM IM SM Tg Out zAT zB3 zB1 full frz frz1 frzAt)
section
variable[Kc]
section
variable{G0 H0 S0:Hp}{σ:St}{ρ:Ro}{G H:Hp}{As:Nat->Addr->Prop}
end
variable{mg:Str->Option Value}{E:XK}{L n k l:Nat}{te ta tb:TE}{e ea eb ma:EM}{t:TA}{m:AM}
end
end L3
namespace Mi
open PySem
noncomputable def lamF(n:Nat)(e:EM):FM:=fun ds=>if ds.length=n then e (ds.map some)else none
end Mi
namespace L3
open PySem PySem.Spec
open L2 hiding Rep RepL
open Mi (Dt Xn R okR zA3 optR zA0 zA8 zAG zA9 zAE Rh Sl Ro EM TM AM FM IM SM Tg Out zAT zB3 zB1 full frz frz1 frzAt)
variable[Kc]
section
variable{G H:Hp}{cl:Addr}{co:Obj}
mutual
theorem Rep.del(hc:G cl=some (cel co)):∀{d:Dt}{v:V},d.dep<=40->Rep G d v->Rep (del G cl) d v
 |.non,_,_,h=>h
 |.bl _,_,_,h=>h
 |.int _,_,_,h=>h
 |.str _,_,_,h=>h
 |.lst ds,_,hd,h=>by
  obtain⟨a,xs,e,e',r⟩:=h;exact⟨a,xs,e,(zT6 (zRC e' hc (by simp))).trans e',RepL.del hc (by rw[Dt.dep]at hd;lia) r⟩
 |.tup ds,_,hd,h=>by
  obtain⟨a,xs,e,e',r⟩:=h;exact⟨a,xs,e,(zT6 (zRC e' hc (by simp))).trans e',RepL.del hc (by rw[Dt.dep]at hd;lia) r⟩
 |.scr _,_,h,_=>by rw[Dt.dep]at h;lia
 |.exc _ _ _,_,h,_=>by rw[Dt.dep]at h;lia
 |.ins _ _,_,h,_=>by rw[Dt.dep]at h;lia
 |.dct _,_,h,_=>by rw[Dt.dep]at h;lia
 |.fn _ _,_,h,_=>by rw[Dt.dep]at h;lia
theorem RepL.del(hc:G cl=some (cel co)):∀{ds:List Dt}{xs:List V},Dt.depL ds<=40->RepL G ds xs->RepL (del G cl) ds xs
 |[],_,_,h=>h
 |d::r,_,hd,h=>by
  rw[Dt.depL]at hd;obtain⟨x,q,e,a,b⟩:=h;exact⟨x,q,e,Rep.del hc (by lia) a,RepL.del hc (by lia) b⟩
end
end
variable{mg:Str->Option Value}{E:XK}{n:Nat}
end L3
namespace L3
open PySem PySem.Spec
open L2 hiding Rep RepL
open Mi (Dt EM FM okR)
end L3
namespace L3
open PySem PySem.Spec PyProof.Rows
open L2 hiding Rep RepL
structure Tabs(K:qA0)(ts:List Addr):Prop where
 no:∀P∈ts,K.lookup P=none
 «in»:∀x∈makers,∀P,codP K x=some P->(lamK K x).isSome=true->P∈ts/\∃c,qEu K c P=true
theorem zJA{K:qA0}{ts:List Addr}(T:Tabs K ts){P:Addr}{u:HO}(h:tabK K P=some u):P∈ts/\(∃q,u=.lam q)/\∃c,qEu K c P=true:=by
 unfold tabK at h;cases e:makers.find? fun x=>codP K x==some P&&(lamK K x).isSome with
 |none=>rw[e]at h;cases h
 |some x=>
  rw[e]at h;cases h;have h1:=List.mem_of_find?_eq_some e;have h2:=List.find?_some e;simp only[qB9,beq_iff_eq]at h2;obtain⟨a,b⟩:=T.in x h1 P h2.1 h2.2;exact⟨a,⟨_,rfl⟩,b⟩
theorem zPH{P:Program}{w:World}{K:qA0}{mg mb:Str->Option Value}{CX:CXT}{k:Nat}{fa a:Addr}{fd:FuncData}{x:Str}{sp:Sp}{s₁:Shared}{vs:List Value}{ns:List Int}{ts:List Addr}
  (KX:K.In s₁.heap) (hT:∀P∈ts,s₁.heap.get? P=some (qFe #[])) (T:Tabs K ts) (hns:s₁.heap.Ns mainGlobals mg) (hb:s₁.heap.Ns builtinsNs mb) (hbb:∀x:Str,x≠"__name__"->mb x=bootBuiltins x) (hlim:s₁.heap.NoLimit)
  (hbm:∃bm ob,mg "__builtins__" = some (.ref bm)/\bm≠builtinsNs/\s₁.heap.get? bm=some ob/\ob.cls=.type "module"/\ob.dict=some builtinsNs/\ob.data=.plain) (hg:s₁.gens=#[])
  (ha:s₁.heap.get? a=some { cls:=.type "list",data:=.seq vs.toArray }) (hi:IntsAre vs ns) (hl:ns.length<=sizeLine) (hr:Room k callerA)
  (F:∀base:Heap,K.In base->base.Ns mainGlobals mg->FnOk P w K mg base CX k fa fd [x] sp) (hbind:∀(s:Shared)(u:Value),BindsTo s fd ⟨[u],[]⟩ [(x,u)])
  (hsp:∀H:Hp,Same (tabK K) H->SqL K H a (ns.map V.int)->sp [.ref a] H (fun v H'=>v=.bl true/\Same (tabK K) H') fun _ _ _=>False)
  (hCX:∀H e s',CX [] H s₁ (fun _ _ _=>False) e s'->False) :
  codeAny (model P w) callerA (.call (.ref fa) ⟨[.ref a],[]⟩) (fun r s'=>r=.ok (.ret (.bool true))/\OldK s₁.heap s'.heap/\s'.os=s₁.os/\AllBare s'.gens) s₁:=by
 have rv:=zJ8 hi;have lenV:=hi.length;have tabO:∀{b:Addr}{u:HO},tabK K b=some u->s₁.heap.get? b=some (qFe #[]):=fun e=>hT _ (zJA T e).1
 have core:∀H:Hp,(∀b u,H b=some u->(b=a/\∃o xs,u=.frz o (.lst xs))\/tabK K b=some u)->Same (tabK K) H->SqL K H a (ns.map V.int)->HOk P w H s₁.heap->(∀b,H b≠none->K.lookup b=none) ->
   codeAny (model P w) callerA (.call (.ref fa) ⟨[.ref a],[]⟩) (fun r s'=>r=.ok (.ret (.bool true))/\OldK s₁.heap s'.heap/\s'.os=s₁.os/\AllBare s'.gens) s₁:=by
  intro H hO hTab hS hok hK;have base_of:∀{b:Addr}{o:Obj},s₁.heap.get? b=some o->H b=none->(hidT s₁.heap H).get? b=some o:=fun e n=>zRS e n
  have noA:∀{b:Addr}{o:Obj},s₁.heap.get? b=some o->(∀v,o.data≠.fields v)->(∀v n,o.data≠.seq v n)->H b=none:=fun{b o} e d1 d2=>by
   cases q:H b with
   |none=>rfl
   |some u=>
    rcases hO b u q with⟨z,_⟩|z
    ·subst z;rw[ha]at e;cases e;exact absurd rfl (d2 _ _)
    ·rw[tabO z]at e;cases e;exact absurd rfl (d1 _)
  have nsK:∀{b:Addr}{m:Str->Option Value},s₁.heap.Ns b m->(hidT s₁.heap H).Ns b m:=fun{b m} ⟨o,es,ep,e,d,r⟩=>⟨o,es,ep,base_of e (noA e (fun v z=>by rw[d]at z;cases z) fun v n z=>by rw[d]at z;cases z),d,r⟩
  have hKb:K.In (hidT s₁.heap H):=fun b o e=>base_of (KX b o e) (by
   cases q:H b with
   |none=>rfl
   |some u=>rw[hK b (by rw[q];simp)]at e;cases e)
  have hM:Mod K mg (hidT s₁.heap H):=⟨hKb,nsK hns,⟨mb,nsK hb,hbb⟩,let⟨mc,h1,h2⟩:=hlim;⟨mc,nsK h1,h2⟩,let⟨bm,ob,e1,e2,e3,e4,e5,e6⟩:=hbm;⟨bm,ob,e1,e2,base_of e3 (noA e3 (fun v z=>by rw[e6]at z;cases z) fun v n z=>by rw[e6]at z;cases z),e4,e5,e6⟩⟩
  have e0:Env0 P w K mg (hidT s₁.heap H) callerA [] s₁ H:=⟨rfl,hM,fun b o e=>zUB e,qE0 (zPO _ _),trivial,fun b hb=>absurd (show b∈([]:List Addr) from hb) (by simp),hok,.of_eq hg⟩
  refine codeAny_mono ((F _ hKb (nsK hns)).run callerA [] s₁ H ⟨[.ref a],[]⟩ [.ref a] [.ref a] _ _ hr e0 (hbind s₁ (.ref a)) (.cons rfl .nil) (hsp H hTab hS)) fun r s' h=>?_
  cases r with
  |error e=>exact(hCX H e s' h).elim
  |ok fl=>
   cases fl with
   |next=>exact qA6 h
   |brk=>exact qA6 h
   |cont=>exact qA6 h
   |ret u=>
    obtain⟨v,H',os,bare,un,hok',r',q,qT⟩:=h;subst q;obtain rfl:u=Value.bool true:=r';refine⟨rfl,⟨fun b o e=>?_,fun b o e=>un.there b o e (by simp)⟩,os,bare⟩;cases q:H b with
    |none=>exact .inl (un.keep b o e q (by intro z;exact absurd (show b∈([]:List Addr) from z) (by simp)) (by simp))
    |some u=>
     rcases hO b u q with⟨_,ob,xs,rfl⟩|z
     ·have z2:=un.frzs b ob _ q;obtain⟨e1,_⟩:=hok b _ q;obtain⟨e2,_⟩:=hok' b _ z2;rw[e]at e1;cases e1;exact .inl e2
     ·obtain⟨hts,⟨qq,rfl⟩,c,hc⟩:=zJA T z;obtain⟨ps,e2,_⟩:=hok' b _ (qT _ _ z);have e3:=hT b hts;rw[e3]at e;cases e;exact .inr (.inl ⟨((PySem.W.codeHd_of_K KX hc).tab e3).isCodeTable,rfl,#[],ps,rfl,by rw[e2];simp⟩)
 have tOk:∀{H:Hp}{b:Addr}{u:HO},tabK K b=some u->ObjOk P w H s₁.heap b u:=fun{H b u} z=>by
  obtain⟨hts,⟨q,rfl⟩,_⟩:=zJA T z;exact⟨#[],hT b hts,trivial,fun pos cv y=>by simp[codeAmong]at y⟩
 have nta:tabK K a=none:=by
  cases z:tabK K a with
  |none=>rfl
  |some u=>have:=tabO z;rw[ha]at this;cases this
 cases hk:K.lookup a with
 |some o=>
  have e:=KX a o hk;rw[ha]at e;cases e;exact core (tabK K) (fun b u z=>.inr z) (Same.refl _) (.inr ⟨_,vs.toArray,_,hk,rfl,rfl,rfl,by rw[qAk,lenV];exact hl,by simpa using rv⟩) (fun b u z=>tOk z) fun b z=>by
   cases y:tabK K b with
   |none=>exact absurd y z
   |some u=>exact T.no b (zJA T y).1
 |none=>
  refine core (upd (tabK K) a (.frz { cls:=.type "list",data:=.seq vs.toArray } (.lst (ns.map V.int)))) (fun b u z=>?_) (fun b u z=>?_) (.inl (.inr ⟨{ cls:=.type "list",data:=.seq vs.toArray },zAD⟩)) (fun b u z=>?_) fun b z=>?_
  ·by_cases hb:b=a
   ·subst hb;rw[zAD]at z;cases z;exact .inl ⟨rfl,_,_,rfl⟩
   ·rw[zA6 hb]at z;exact .inr z
  ·rw[zA6 (zAI z nta)];exact z
  ·by_cases hb:b=a
   ·subst hb;rw[zAD]at z;cases z;exact⟨ha,by rw[qAq];exact hl,vs,_,rv,ha⟩
   ·rw[zA6 hb]at z;exact tOk z
  ·by_cases hb:b=a
   ·subst hb;exact hk
   ·rw[zA6 hb]at z;cases y:tabK K b with
    |none=>exact absurd y z
    |some u=>exact T.no b (zJA T y).1
theorem zQK{l:qDx}{n k:Nat}{q:Program}{loose:List Str}{XP:(Str->Option Value)->Heap->Prop}{YP:World->Heap->Prop}{d:DefRec}{K:Params->qA0}{CX:World->CXT}{sp:World->Sp}{x:Str}{ts:List Addr}
  (hn:l.most=some n) (hn2:n<=sizeLine) (hdf:d.params.defaults=[]) (hr:Room k callerA)
  (hY:∀(w:World)(h:Heap),YP w h->(K w.params).In h/\∀P∈ts,h.get? P=some (qFe #[]))
  (F:∀(w:World)(mg:Str->Option Value)(fa:Addr)(h:Heap),(K w.params).In h->h.Ns mainGlobals mg->mg d.name=some (.ref fa) ->
   Tabs (K w.params) ts/\∃fd:FuncData,(∀(s:Shared)(u:Value),BindsTo s fd ⟨[u],[]⟩ [(x,u)]) /\
    ∀base:Heap,(K w.params).In base->base.Ns mainGlobals mg->FnOk l.prog w (K w.params) mg base (CX w) k fa fd [x] (sp w))
  (hsp:∀(w:World)(H:Hp)(a:Addr)(ns:List Int),ns.length<=n->(∀i∈ns,i.natAbs.log2<2 ^ 20)->Same (tabK (K w.params)) H->SqL (K w.params) H a (ns.map V.int)->sp w [.ref a] H (fun v H'=>v=.bl true/\Same (tabK (K w.params)) H') fun _ _ _=>False)
  (hCX:∀(w:World)(H:Hp)(s:Shared)(e:Value)(s':Shared),CX w [] H s (fun _ _ _=>False) e s'->False) :
  qFp q loose XP YP l.row.toRowW d [] (fun f vs=>qFy f vs):=by
 refine Att.attach_callW hn hdf fun w s₀ s₁ mg mb fa o pm cd doc a vs ns G Y ho hd hcd hmg hobj hints hlen hw hg=>?_
 obtain⟨KX,hT⟩:=hY w _ Y;obtain⟨T,fd,hb,hF⟩:=F w mg fa _ KX G.T.g hmg;exact zPH KX hT T G.T.g G.T.b G.T.builtins G.T.nolimit G.T.bmain hg hobj hints (qAr hlen hn2) hr hF hb (fun H hO hS=>hsp w H a ns hlen hw hO hS) fun H e s'=>hCX w H s₁ e s'
end L3
namespace L2
open PySem PySem.Spec PyProof.Rows
section
variable{X:Cx}
end
end L2
namespace L3
open PySem PyProof.Rows
open L2 hiding Rep RepL
section
variable{P:Program}{w:World}{K:qA0}{mg:Str->Option Value}{base:Heap}{x:Str}{st:Stmt}{N ps:List Str}{k:Nat}{sp:Sp}{T:Addr}
end
end L3
namespace L3
open PySem PyProof.Rows
open L2 hiding Rep RepL
structure Mk1(K:qA0)(ts:List Addr)(x:Str)(r:Option Addr):Prop where
 cod:codP K x=r
 lam:(lamK K x).isSome=r.isSome
 hd:∀P,r=some P->P∈ts/\∃c,qEu K c P=true
theorem mk1_none{K:qA0}{ts:List Addr}{x:Str}(a:qAt K mainGlobals x=some none):Mk1 K ts x none:=
 ⟨by unfold codP;rw[a],by unfold lamK;rw[a];rfl,fun _ z=>by cases z⟩
structure Tb(K:qA0)(ts:List Addr)(r1 r2 r3:Option Addr):Prop where
 m1:Mk1 K ts "turned_at" r1
 m2:Mk1 K ts "exchanged_at" r2
 m3:Mk1 K ts "pivoted" r3
section
variable{K:qA0}{ts:List Addr}{r1 r2 r3:Option Addr}
theorem Tb.tabs(T:Tb K ts r1 r2 r3)(no:∀P∈ts,K.lookup P=none):Tabs K ts:=⟨no,fun x hx P h _=>by
 unfold makers at hx;simp only[qA7,qAg,or_false]at hx
 rcases hx with rfl|rfl|rfl
 ·exact T.m1.hd P (T.m1.cod.symm.trans h)
 ·exact T.m2.hd P (T.m2.cod.symm.trans h)
 ·exact T.m3.hd P (T.m3.cod.symm.trans h)⟩
end
def TbE(K:qA0)(ts:List Addr):Prop:=∃r1 r2 r3,Tb K ts r1 r2 r3
theorem walk_of0{l:qDx}{n k:Nat}{q:Program}{loose:List Str}{XP:(Str->Option Value)->Heap->Prop}{YP:World->Heap->Prop}{d:DefRec}{K:Params->qA0}{x:Str}
  (hn:l.most=some n) (h63:n<=63) (hdf:d.params.defaults=[]) (hr:Room k callerA) (hY:∀(w:World)(h:Heap),YP w h->(K w.params).In h)
  (F:∀(w:World)(mg:Str->Option Value)(fa:Addr)(h:Heap),(K w.params).In h->h.Ns mainGlobals mg->mg d.name=some (.ref fa) ->
   TbE (K w.params) []/\∃fd:FuncData,(∀(s:Shared)(u:Value),BindsTo s fd ⟨[u],[]⟩ [(x,u)]) /\
    ∀base:Heap,(K w.params).In base->base.Ns mainGlobals mg->FnOk l.prog w (K w.params) mg base CX0 k fa fd [x] (zHF (K w.params))) :
  qFp q loose XP YP l.row.toRowW d [] (fun f vs=>qFy f vs):=
 zQK (K:=K) (ts:=[]) (CX:=fun _=>CX0) (sp:=fun w=>zHF (K w.params)) hn (qAr h63 (by decide)) hdf hr (fun w h Y=>⟨hY w h Y,fun P z=>absurd z (by simp)⟩)
  (fun w mg fa h KX G hm=>let⟨⟨_,_,_,T⟩,r⟩:=F w mg fa h KX G hm;⟨T.tabs fun P z=>absurd z (by simp),r⟩)
  (fun _ _ a ns hl hw hT hS=>⟨a,ns,rfl,hT,hS,qAr hl h63,hw,fun _ z=>⟨rfl,z⟩⟩) fun _ _ _ _ _ z=>z
end L3
namespace Mi
end Mi
namespace L3
open PySem PySem.Spec
open L2 hiding Rep RepL
open Mi (Dt okR)
variable[Kc]{mg:Str->Option Value}{E:XK}{L:Nat}
end L3
namespace Mi
end Mi
namespace L2
open PySem PySem.Spec PyProof.Rows
section
variable{X:Cx}
end
end L2
namespace L3
open PySem PySem.Spec
open L2 hiding Rep RepL
open Mi (Dt okR)
variable[Kc]{n:Nat}
end L3
namespace L3
open PySem PySem.Spec
open L2 hiding Rep RepL
section
variable[Kc]{mg:Str->Option Value}{E:XK}{L:Nat}
end
end L3
namespace Mi
open PySem
noncomputable section
noncomputable def isIns:Dt->Bool
 |.ins _ _=>true
 |_=>false
def sKept(k c:Nat)(A B:TM):SM:=fun ρ=>match(frz1 c ρ)[c]? with
 |some (some (.lst ds,0))=>if(c≠k/\k<(frz1 c ρ).length)/\ds.all isIns=true then sIf A (sRet 0 0 [] (eC (.bl false))) (sIf B (sRet 0 0 [] (eC (.bl false))) sNil) ((frz1 c ρ).set k (some (.lst ds,1)))else none
 |_=>none
end
end Mi
namespace L2
open PySem PySem.Spec PyProof.Rows
section
variable{X:Cx}
theorem vals_ref:∀{xs:List V}{its its2:List Value},(∀x∈xs,∃c,x=V.ref c)->Vals xs its->Vals xs its2->its=its2
 |_,_,_,_,.nil,.nil=>rfl
 |_,_,_,h,.cons r v,.cons r2 v2=>by
  obtain⟨c,rfl⟩:=h _ qAv;cases r;cases r2;rw[vals_ref (fun x hx=>h x (by simp[hx])) v v2]
noncomputable def rNeS:R2:=fun x y H Q=>∃a b xs,x=.ref a/\y=.ref b/\H a=some (.lst xs)/\H b=some (.lst xs)/\(∀x∈xs,∃c,x=V.ref c)/\Q (.bl false) H
theorem zXM(hu:X.A.units+64<cLine):OpR X (compareOp .NotEq) rNeS:=by
 intro pins s σ H x y v u Q I rx ry h;obtain⟨a,b,xs,rfl,rfl,ha,hb,hr,q⟩:=h;cases rx;cases ry;obtain⟨its,v1,hl1⟩:=zAX I.hok ha;obtain⟨its2,v2,hl2⟩:=zAX I.hok hb;cases vals_ref hr v1 v2
 have:=SeqAt.RcNeAt.lists (A:=X.A) (s:=s) (e:=fun _=>true) hl1 hl2 rfl (by lia) fun j _ _=>SeqAt.EqAt.same _
 rw[show(!(qAe its.toArray.size).all fun _=>true)=false by simp]at this;exact this _ _ _ _ ⟨.bl _,H,I,rfl,q⟩
end
end L2
namespace L3
open PySem PySem.Spec
open L2 hiding Rep RepL
open Mi (Dt Xn R okR zA3 optR zA0 zA8 zAG zA9 zAE Rh Sl Ro EM TM AM FM IM SM Tg Out full frz frz1 frzAt)
section
variable[Kc]{mg:Str->Option Value}{E:XK}{L:Nat}{tA tB:TT}{A B:TM}
theorem zMP{G:Hp}:∀{ds:List Dt}{xs:List V},ds.all Mi.isIns=true->RepL G ds xs->∀x∈xs,∃c,x=V.ref c
 |[],_,_,h,x,hx=>by cases h;simp at hx
 |d::r,_,hi,h,x,hx=>by
  obtain⟨y,q,rfl,h1,h2⟩:=h;rw[qDm,qB9]at hi
  rcases qA7.mp hx with rfl|hx
  ·cases d with
   |ins c fs=>obtain⟨a,_,_,e,_⟩:=h1;exact⟨a,e⟩
   |_=>exact absurd hi.1 (by simp[Mi.isIns])
  ·exact zMP hi.2 h2 x hx
def tSm(c k:Nat):TT:=fun σ H Q=>vM c σ H fun x H1=>vM k σ H1 fun y H2=>rNeS x y H2 fun z H3=>match z with | .bl k=>Q k H3|_=>False
def zVK(k c:Nat)(tA tB:TT):TS:=tSeq (tAsg (tCB (zHI Kc.K) (zEV (vM c) tNil)) (zH9 k)) (tIfS (L2.tOr tA (L2.tOr (tSm c k) tB)) (tRet (tC (.bl false))) zN3)
theorem zS4(k c:Nat)(A':DT mg E tA A)(B':DT mg E tB B):DS mg E L (zVK k c tA tB) (Mi.sKept k c A B):=by
 intro G0 H0 S0 σ ρ G H As D a p;obtain⟨G1,As1,b⟩:=a.frz1 c;unfold Mi.sKept at p
 generalize Mi.frz1 c ρ=ρ' at b p
 split at p
 ·rename_i ds e1
  split at p
  ·rename_i hz
   obtain⟨⟨hck,hk⟩,hi⟩:=hz;obtain⟨v,hv,o⟩:=b.at c _ _ e1;obtain⟨q,xs,rfl,hq,rl⟩:=o;have hqH:H q=some (.lst xs):=b.ext.in' _ _ hq;have hxs:=zMP hi rl;show vM c σ H fun x H1=>zHI Kc.K [x] H1 fun y H2=>tIfS (L2.tOr tA (L2.tOr (tSm c k) tB)) (tRet (tC (.bl false))) zN3 D (σ.set k (some y)) H2
   unfold vM;rw[hv];refine .inl ⟨xs,.inl (SqL.of hqH),fun l hl=>?_⟩;show tIfS (L2.tOr tA (L2.tOr (tSm c k) tB)) (tRet (tC (.bl false))) zN3 D (σ.set k (some (V.ref l))) (upd H l (.lst xs));have hne:q≠l:=fun z=>by rw[z,hl]at hqH;cases hqH
   have g1:upd H l (.lst xs) q=some (.lst xs):=by rw[zA6 hne];exact hqH
   have g2:upd H l (.lst xs) l=some (.lst xs):=zAD;have b2:=b.set (i:=k) (n:=1) (d:=.lst ds) (v:=.ref l) (S:=fun x=>x=l) (H':=upd H l (.lst xs)) (Same.upd (Same.refl _) hl _) ⟨l,xs,fun _ _=>False,rfl,g2,⟨rl.length,fun q d x h1 h2=>zCG rl h1 h2,rfl,fun _ z=>z,fun _ _ _ z _=>z.elim,fun _ _ z=>z.elim⟩⟩ (fun x hx=>by
    subst hx;refine⟨hl,?_,by rw[g2];simp⟩;cases e:G1 x with
    |none=>rfl
    |some u=>have:=b.ext.in' _ _ e;rw[hl]at this;cases this)
   have s1:(σ.set k (some (V.ref l)))[c]?=some (some (.ref q)):=by rw[qB4 (fun z=>hck z.symm)];exact hv
   have s2:(σ.set k (some (V.ref l)))[k]?=some (some (.ref l)):=qB1 (by rw[<- b.len];exact hk)
   generalize σ.set k (some (V.ref l))=σ1 at b2 s1 s2
   generalize upd H l (.lst xs)=H1 at b2 g1 g2
   generalize ρ'.set k (some (.lst ds,1))=ρ1 at b2 p
   show tA σ1 H1 _;obtain⟨J,x,s,w⟩:=b2.full;refine A'.step (errS.from x) x.in' w p fun bb H' _ sH p1=>?_
   cases bb with
   |true=>exact(zB4 (n:=0) [] zS7) G0 H0 S0 _ _ _ H' _ D (b2.grow sH) p1
   |false=>
    show tSm c k σ1 H' _;unfold tSm vM;rw[s1];dsimp only;rw[s2];refine⟨q,l,xs,rfl,rfl,sH _ _ g1,sH _ _ g2,hxs,?_⟩;obtain⟨J2,x2,s3,w2⟩:=(b2.grow sH).full;refine B'.step (errS.from x2) x2.in' w2 p1 fun bb H'' _ sH2 p2=>?_
    cases bb with
    |true=>exact(zB4 (n:=0) [] zS7) G0 H0 S0 _ _ _ H'' _ D ((b2.grow sH).grow sH2) p2
    |false=>exact zCV G0 H0 S0 _ _ _ H'' _ D ((b2.grow sH).grow sH2) p2
  ·exact p.elim
 ·exact p.elim
theorem zUX(k c:Nat){u:TS}{m:SM}(A':DT mg E tA A)(B':DT mg E tB B)(R:DS mg E L u m):DS mg E L (tSeq (tAsg (tCB (zHI Kc.K) (zEV (vM c) tNil)) (zH9 k)) (tSeq (tIfS (L2.tOr tA (L2.tOr (fun σ H Q=>vM c σ H fun x H1=>vM k σ H1 fun y H2=>rNeS x y H2 fun z H3=>match z with | .bl k=>Q k H3|_=>False) tB)) (tRet (tC (.bl false))) zN3) u)) (Mi.sSeq (Mi.sKept k c A B) m):=
 fun G0 H0 S0 σ ρ G H As D a p=>by
 show tSeq (zVK k c tA tB) u D σ H;exact zAJ (zS4 k c A' B') R G0 H0 S0 σ ρ G H As D a p
end
end L3
namespace L2
open PySem PySem.Spec PyProof.Rows
section
variable{X:Cx}{m:Str}{k:Nat}{E:XK}{o:Expr}{ta:TE}{apos pos:Pos}{tb:List (Addr×Sp)}
theorem zOU{pl:Sem Bool}(he:PE X o ta)(hM:∀p∈tb,∃j ps,j<=k/\HasM X.prog X.w X.K X.mg X.base p.1 m j ps p.2)(hr:Room k X.A)(hf:Flies X E)
  (ht:eval (.Call (.Attribute o m apos) [] [] pos) X.env=(do
   let ov <- eval o X.env
   standAt apos.atName
   let(f,first) <- holding [ov] (getMethod ov m pl)
   callWith pos f first (backTo pos (starEach [] X.env)) (backToKw pos (keywordEach [] X.env))):=by rfl) :
  PE X (.Call (.Attribute o m apos) [] [] pos) (zO6 tb m E ta tNil):=by
 intro pins s σ H Q I h;refine qDj (pl:=pl) (thn (he pins s σ H _ I h) fun u s1 z0=>?_) ht;obtain⟨x,H1,I1,rx,a,C,dx,fs,sp,ex,ea,l,ht,q⟩:=z0;subst ex;obtain rfl:u=Value.ref a:=rx;obtain⟨j,ps,hj,f,fd,c,hm,F,hb⟩:=hM _ ht;refine zHR I1 ea c hm l ?_;refine qFh (first:=[.ref a]) I1.kIn hm.kp ?_;exact zOI (us:=[.ref a]) (vs:=[.ref a]) (dvs:=[]) (ds:=[]) F (hr.mono hj) hb .nil hf.passes I1 (.cons rfl .nil) (by rw[qBw];exact q)
end
end L2
namespace Mp
noncomputable section
open Mi PySem
def zKQ:SM:=(sSeq (sSet 2 9 [] (eLst aNil))
 (sSeq (sForR (iR1 (aCons (eBi maxD (aCons (eV 1) (aCons (eBi minD (aCons (eC (.int 63)) (aCons (eBi lenD (aCons (eV 0) aNil)) aNil))) aNil))) aNil)) 3 (sSeq (sSet 4 0 [] (eC (.int 0)))
 (sSeq (sIf (tB (eB (cmpD fun i j=>decide (i<j)) (eV 3) (eBi lenD (aCons (eV 0) aNil)))) (sSet 4 0 [0,3] (eB modD (eB ixD (eV 0) (eV 3)) (eC (.int 1000003)))) sNil)
 (sSeq (sSet 5 0 [4,3] (eB modD (eB mulD (eB modD (eB addD (eB mulD (eB addD (eV 4) (eC (.int 1))) (eC (.int 48271))) (eB mulD (eB mulD (eV 3) (eV 3)) (eC (.int 7919)))) (eC (.int 1000000007))) (eC (.int 40692))) (eC (.int 2147483399))))
 (sApp 2 1 (eB addD (eB mulD (eV 5) (eC (.int 2147483647))) (eB modD (eB addD (eB mulD (eV 5) (eC (.int 69621))) (eV 3)) (eC (.int 2147483647)))))))))
 (sRetV 9 2)))
def zCE:FM:=runF 2 6 zKQ
def zGY:SM:=(sSeq (sSet 2 0 [1,0] (eB modD (eV 1) (eBi lenD (aCons (eV 0) aNil))))
 (sRet 1 1 [0,2] (eB addD (eSl (eV 0) (oE (eV 2)) oNo) (eSl (eV 0) oNo (oE (eV 2))))))
def zF4:FM:=runF 2 3 zGY
def zDH:SM:=(sRet 0 0 [1] (eB revD (eV 1) (eU negD (eC (.int 1)))))
def zAW:FM:=runF 2 2 zDH
def zDV:SM:=(sRet 0 0 [1,0] (eCallN zF4 (aCons (eV 1) (aCons (eFld ["Shift"] "by" (eV 0)) aNil))))
def zB0:FM:=runF 2 2 zDV
def zD2:SM:=(sSeq (sSet 2 0 [] (eC (.str "abcdefghijklmnopqrstuvwxyz")))
 (sSeq (sSet 3 0 [] (eC (.str "")))
 (sSeq (sForR (iR1 (aCons (eB addD (eC (.int 1)) (eB modD (eB ixD (eV 0) (eC (.int 0))) (eV 1))) aNil)) 4 (sSeq (sSet 5 0 [2,4,0] (eB ixD (eV 2) (eB modD (eB addD (eB divD (eB ixD (eV 0) (eC (.int 0))) (eC (.int 16))) (eB mulD (eB ixD (eLst (aCons (eC (.int 1)) (aCons (eC (.int 3)) (aCons (eC (.int 5)) (aCons (eC (.int 7)) (aCons (eC (.int 9)) (aCons (eC (.int 11)) aNil))))))) (eB modD (eB divD (eB ixD (eV 0) (eC (.int 0))) (eC (.int 512))) (eC (.int 6)))) (eV 4))) (eC (.int 26)))))
 (sFor [0,4,3] (iSq (eTup (aCons (eB modD (eB ixD (eV 0) (eB addD (eC (.int 1)) (eV 4))) (eB addD (eBi lenD (aCons (eV 3) aNil)) (eC (.int 1)))) (aCons (eB modD (eB divD (eB ixD (eV 0) (eB addD (eC (.int 1)) (eV 4))) (eC (.int 32))) (eB addD (eBi lenD (aCons (eV 3) aNil)) (eC (.int 2)))) aNil)))) (.one 6) (sSet 3 1 [5,3,6] (eB addD (eB addD (eSl (eV 3) oNo (oE (eV 6))) (eV 5)) (eSl (eV 3) (oE (eV 6)) oNo))))))
 (sRetV 1 3))))
def zCC:FM:=runF 2 7 zD2
def zDF:SM:=(sSeq (sIf (Mi.tOr (tB (eB neD (eBi lenD (aCons (eV 1) aNil)) (eC (.int 1)))) (tB (eB (inD true) (eV 1) (eV 0)))) (sRaise "NoLetter" "letter" (aCons (eV 1) aNil)) sNil)
 (sRet 0 0 [1,0] (eMt findD (eV 0) (aCons (eV 1) aNil))))
def zCK:FM:=runF 2 2 zDF
def zEP:SM:=(sRet 1 1 [0,1] (eTup (aCons (eCall zCK (aCons (eV 0) (aCons (eV 1) aNil))) (aCons (eMt rfindD (eV 0) (aCons (eV 1) aNil)) aNil))))
def zAS:FM:=runF 2 2 zEP
def zEQ:SM:=(sSeq (sSet 2 1 [1,0] (eCall zAS (aCons (eV 1) (aCons (eFld ["Turn"] "letter" (eV 0)) aNil))))
 (sSeq (sSet 3 1 [2] (eB addD (eB ixD (eV 2) (eC (.int 0))) (eC (.int 1))))
 (sRet 0 0 [1,3,2] (eB addD (eB addD (eSl (eV 1) oNo (oE (eV 3))) (eB revD (eSl (eV 1) (oE (eV 3)) (oE (eB ixD (eV 2) (eC (.int 1))))) (eU negD (eC (.int 1))))) (eSl (eV 1) (oE (eB ixD (eV 2) (eC (.int 1)))) oNo)))))
def zBA:FM:=runF 2 4 zEQ
def zDU:SM:=(sRet 1 1 [0,1] (eComp (iEnX (aCons (eV 0) aNil)) 2 (.tup [2,3]) (tB (eB eqD (eV 3) (eV 1))) (eV 2)))
def zBL:FM:=runF 2 2 zDU
def zDG:SM:=(sSeq (sUnpL [2,3] [0,1] (eCall zBL (aCons (eV 0) (aCons (eV 1) aNil))))
 (sSeq (sSet 4 0 [] (eC (.str "")))
 (sSeq (sFor [0,3,2] (iSq (eSl (eV 0) (oE (eB addD (eV 2) (eC (.int 1)))) (oE (eV 3)))) (.one 5) (sSet 4 1 [5,4] (eB addD (eV 5) (eV 4))))
 (sRet 1 1 [4,0,3,2] (eB addD (eB addD (eSl (eV 0) oNo (oE (eB addD (eV 2) (eC (.int 1))))) (eV 4)) (eSl (eV 0) (oE (eV 3)) oNo))))))
def zBO:FM:=runF 2 6 zDG
def zFR:SM:=(sSeq (sSet 3 1 [0,1] (eCall zAS (aCons (eV 0) (aCons (eV 1) aNil))))
 (sRet 0 0 [2,0,3] (eB eqD (eMt countD (eSl (eV 0) (oE (eB addD (eB ixD (eV 3) (eC (.int 0))) (eC (.int 1)))) (oE (eB ixD (eV 3) (eC (.int 1))))) (aCons (eV 2) aNil)) (eC (.int 1)))))
def zDY:FM:=runF 3 4 zFR
def zLN:SM:=(sSeq (sSet 2 1 [0,1] (eSl (eV 0) (oE (eB addD (eB ixD (eV 1) (eC (.int 0))) (eC (.int 1)))) (oE (eB ixD (eV 1) (eC (.int 1))))))
 (sSeq (sSet 3 1 [0,1] (eSl (eV 0) (oE (eB ixD (eV 1) (eC (.int 1)))) (oE (eB addD (eB ixD (eV 1) (eC (.int 2))) (eC (.int 1))))))
 (sSeq (sSet 4 1 [0,1] (eSl (eV 0) (oE (eB addD (eB ixD (eV 1) (eC (.int 2))) (eC (.int 1)))) (oE (eB ixD (eV 1) (eC (.int 3))))))
 (sRet 1 1 [2,0,3,4,1] (eB addD (eB addD (eB addD (eB addD (eSl (eV 0) oNo (oE (eB addD (eB ixD (eV 1) (eC (.int 0))) (eC (.int 1))))) (eV 4)) (eV 3)) (eV 2)) (eSl (eV 0) (oE (eB ixD (eV 1) (eC (.int 3)))) oNo))))))
def zDC:FM:=runF 2 5 zLN
def zER:SM:=(sSeq (sSet 2 1 [1,0] (eB sadD (eCall zAS (aCons (eV 1) (aCons (eFld ["Swap"] "one" (eV 0)) aNil))) (eCall zAS (aCons (eV 1) (aCons (eFld ["Swap"] "other" (eV 0)) aNil)))))
 (sSeq (sIf (tNo (tM (eCall zDY (aCons (eV 1) (aCons (eFld ["Swap"] "one" (eV 0)) (aCons (eFld ["Swap"] "other" (eV 0)) aNil)))))) (sRaise0 "NoCross" (aCons (eC (.str "the letters do not cross in the word")) aNil)) sNil)
 (sRet 0 0 [1,2] (eCallN zDC (aCons (eV 1) (aCons (eV 2) aNil))))))
def zAO:FM:=runF 2 3 zER
def zJ0:SM:=(sRet 0 0 [] (eNew0 "Mirror"))
def zC0:FM:=runF 1 1 zJ0
def zKR:SM:=(sRet 0 0 [0] (eNew "Shift" ["by"] (aCons (eU negD (eFld ["Shift"] "by" (eV 0))) aNil)))
def zCF:FM:=runF 1 1 zKR
def zLQ:SM:=(sRet 0 0 [0] (eNew "Swap" ["one","other"] (aCons (eFld ["Swap"] "one" (eV 0)) (aCons (eFld ["Swap"] "other" (eV 0)) aNil))))
def zCT:FM:=runF 1 1 zLQ
def zLP:SM:=(sRet 0 0 [0] (eNew "Turn" ["letter"] (aCons (eFld ["Turn"] "letter" (eV 0)) aNil)))
def zCS:FM:=runF 1 1 zLP
def zGZ:SM:=(sSeq (sSet 1 1 [0] (eBi sosD (aCons (eV 0) aNil)))
 (sSeq (sSet 2 9 [] (eLst aNil))
 (sSeq (sFor [1] (iSq (eV 1)) (.one 3) (sSeq (sUnpL [4,5] [0,3] (eCall zBL (aCons (eV 0) (aCons (eV 3) aNil))))
 (sFor [1] (iSq (eV 1)) (.one 6) (sIf (tAn (tB (eB neD (eV 6) (eV 3))) (tB (eB eqD (eMt countD (eSl (eV 0) (oE (eV 4)) (oE (eV 5))) (aCons (eV 6) aNil)) (eC (.int 1))))) (sApp 2 1 (eTup (aCons (eV 3) (aCons (eV 6) aNil)))) sNil))))
 (sRetV 9 2))))
def zBZ:FM:=runF 1 7 zGZ
def zHA:SM:=(sSeq (sSet 3 1 [5,0,1,2] (eComp (iEnX (aCons (eV 0) aNil)) 2 (.tup [7,8]) (tB (eB (inD false) (eV 8) (eTup (aCons (eV 1) (aCons (eV 2) aNil))))) (eV 7)))
 (sSeq (sSet 4 2 [0,3] (eLst (aCons (eSl (eV 0) oNo (oE (eB addD (eB ixD (eV 3) (eC (.int 0))) (eC (.int 1))))) aNil)))
 (sSeq (sForR (iR1 (aCons (eC (.int 3)) aNil)) 5 (sApp 4 1 (eSl (eV 0) (oE (eB addD (eB ixD (eV 3) (eV 5)) (eC (.int 1)))) (oE (eB ixD (eV 3) (eB addD (eV 5) (eC (.int 1))))))))
 (sSeq (sSet 6 1 [0,4,3] (eB addD (eB addD (eB ixD (eV 0) (eB ixD (eV 3) (eC (.int 1)))) (eB ixD (eV 4) (eC (.int 2)))) (eB ixD (eV 0) (eB ixD (eV 3) (eC (.int 2))))))
 (sRet 1 1 [0,6,4,3] (eB addD (eB addD (eB addD (eB addD (eB ixD (eV 4) (eC (.int 0))) (eB ixD (eV 4) (eC (.int 3)))) (eV 6)) (eB ixD (eV 4) (eC (.int 1)))) (eSl (eV 0) (oE (eB ixD (eV 3) (eC (.int 3)))) oNo)))))))
def zB9:FM:=runF 3 7 zHA
def zLO:SM:=(sSeq (sSet 2 0 [0,1] (eB ixD (eV 0) (eB modD (eB divD (eV 1) (eC (.int 4))) (eBi lenD (aCons (eV 0) aNil)))))
 (sSeq (sSet 3 9 [0] (eCall zBZ (aCons (eV 0) aNil)))
 (sSeq (sIf (tAn (tB (eB eqD (eB modD (eV 1) (eC (.int 4))) (eC (.int 1)))) (tB (eB (cmpD fun i j=>decide (j<i)) (eBi lenD (aCons (eV 3) aNil)) (eC (.int 0))))) (sSeq (sUnp [4,5] [3,1] (eB ixD (eV 3) (eB modD (eB divD (eV 1) (eC (.int 4))) (eBi lenD (aCons (eV 3) aNil)))))
 (sRet 1 1 [4,5,0] (eTup (aCons (eNew "Swap" ["one","other"] (aCons (eV 4) (aCons (eV 5) aNil))) (aCons (eCall zB9 (aCons (eV 0) (aCons (eV 4) (aCons (eV 5) aNil)))) aNil))))) sNil)
 (sSeq (sIf (tB (eB eqD (eB modD (eV 1) (eC (.int 4))) (eC (.int 2)))) (sRet 1 1 [0] (eTup (aCons (eNew0 "Mirror") (aCons (eMt joinD (eC (.str "")) (aCons (eBi rvsD (aCons (eV 0) aNil)) aNil)) aNil)))) sNil)
 (sSeq (sIf (tB (eB eqD (eB modD (eV 1) (eC (.int 4))) (eC (.int 3)))) (sSeq (sSet 6 0 [1] (eB subD (eB modD (eB divD (eV 1) (eC (.int 4))) (eC (.int 61))) (eC (.int 30))))
 (sRet 1 1 [6,0] (eTup (aCons (eNew "Shift" ["by"] (aCons (eV 6) aNil)) (aCons (eB addD (eSl (eV 0) (oE (eB modD (eV 6) (eBi lenD (aCons (eV 0) aNil)))) oNo) (eSl (eV 0) oNo (oE (eB modD (eV 6) (eBi lenD (aCons (eV 0) aNil)))))) aNil))))) sNil)
 (sRet 1 1 [2,0] (eTup (aCons (eNew "Turn" ["letter"] (aCons (eV 2) aNil)) (aCons (eCall zBO (aCons (eV 0) (aCons (eV 2) aNil))) aNil)))))))))
def zDD:FM:=runF 2 7 zLO
def zIZ:SM:=(sSeq (sIf (tM (eIsO ["Turn"] ["Change","Swap","Mirror","Shift"] (eV 0))) (sRet 1 1 [0] (eTup (aCons (eC (.str "turn")) (aCons (eFld ["Turn"] "letter" (eV 0)) aNil)))) sNil)
 (sSeq (sIf (tM (eIsO ["Swap"] ["Change","Turn","Mirror","Shift"] (eV 0))) (sRet 1 1 [0] (eTup (aCons (eC (.str "swap")) (aCons (eFld ["Swap"] "one" (eV 0)) (aCons (eFld ["Swap"] "other" (eV 0)) aNil))))) sNil)
 (sSeq (sIf (tM (eIsO ["Mirror"] ["Change","Turn","Swap","Shift"] (eV 0))) (sRet 1 1 [] (eTup (aCons (eC (.str "mirror")) aNil))) sNil)
 (sSeq (sIf (tM (eIsO ["Shift"] ["Change","Turn","Swap","Mirror"] (eV 0))) (sRet 1 1 [0] (eTup (aCons (eC (.str "shift")) (aCons (eFld ["Shift"] "by" (eV 0)) aNil)))) sNil)
 (sRet 1 1 [] (eTup (aCons (eC (.str "none")) aNil)))))))
def zAV:FM:=runF 1 1 zIZ
def zNT:SM:=(sSeq (sSet 2 0 [0] (eV 0))
 (sSeq (sFor [1] (iSq (eV 1)) (.one 3) (sSet 2 0 [2,3] (eMeth [("Turn",zBA),("Swap",zAO),("Mirror",zAW),("Shift",zB0)] "done" (eV 3) (aCons (eV 2) aNil))))
 (sRetV 0 2)))
def zBW:FM:=runF 2 4 zNT
def zQG:SM:=(sSeq (sSet 1 9 [0] (eCall zCE (aCons (eV 0) (aCons (eC (.int 14)) aNil))))
 (sSeq (sSet 2 1 [1] (eCall zCC (aCons (eV 1) (aCons (eC (.int 10)) aNil))))
 (sSeq (sSet 3 0 [2] (eV 2))
 (sSeq (sSet 4 9 [] (eLst aNil))
 (sSeq (sSet 5 9 [] (eLst aNil))
 (sSeq (sFor [1] (iSq (eSl (eV 1) (oE (eC (.int 11))) (oE (eC (.int 31))))) (.one 6) (sSeq (sUnp [7,8] [3,6] (eCall zDD (aCons (eV 3) (aCons (eV 6) aNil))))
 (sSeq (sIf (Mi.tOr (tNo (tM (eIsO ["Change","Turn","Swap","Mirror","Shift"] [] (eV 7)))) (tB (eB neD (eMeth [("Turn",zBA),("Swap",zAO),("Mirror",zAW),("Shift",zB0)] "done" (eV 7) (aCons (eV 3) aNil)) (eV 8)))) (sRet 0 0 [] (eC (.bl false))) sNil)
 (sSeq (sSet 9 0 [7] (eMeth [("Turn",zCS),("Swap",zCT),("Mirror",zC0),("Shift",zCF)] "back" (eV 7) aNil))
 (sSeq (sSet 10 1 [7] (eCall zAV (aCons (eV 7) aNil)))
 (sSeq (sIf (tB (eB eqD (eB ixD (eV 10) (eC (.int 0))) (eC (.str "shift")))) (sSet 10 1 [7] (eTup (aCons (eC (.str "shift")) (aCons (eB subD (eC (.int 0)) (eFld ["Shift"] "by" (eV 7))) aNil)))) sNil)
 (sSeq (sIf (Mi.tOr (tNo (tM (eIsO ["Change","Turn","Swap","Mirror","Shift"] [] (eV 9)))) (Mi.tOr (tB (eB neD (eCall zAV (aCons (eV 9) aNil)) (eV 10))) (tB (eB neD (eMeth [("Turn",zBA),("Swap",zAO),("Mirror",zAW),("Shift",zB0)] "done" (eV 9) (aCons (eV 8) aNil)) (eV 3))))) (sRet 0 0 [] (eC (.bl false))) sNil)
 (sSeq (sAppF 4 [7] (eV 7))
 (sSeq (sAppF 5 [9] (eV 9))
 (sSet 3 0 [8] (eV 8)))))))))))
 (sSeq (sKept 11 4 (tB (eB neD (eCall zBW (aCons (eV 2) (aCons (eV 4) aNil))) (eV 3))) (tB (eB neD (eCall zBW (aCons (eV 2) (aCons (eLst aNil) aNil))) (eV 2))))
 (sRet 0 0 [2,3,5] (eB eqD (eCall zBW (aCons (eV 3) (aCons (eBi rvsD (aCons (eV 5) aNil)) aNil))) (eV 2))))))))))
def zK7:FM:=runF 1 12 zQG
end
end Mp
namespace Mp
open Mi PySem
end Mp
namespace Mi
open PySem
section
variable(ρ:Rh)(r:Ro)(a:EM)(am:AM)
@[simp] theorem x_tL:tL a ρ=zA3 (a ρ) fun x=>match x with | .bl k=>okR k | .int i=>okR (i != 0) | .non=>okR false | .lst xs=>okR (!xs.isEmpty) | .tup xs=>okR (!xs.isEmpty)|_=>none:=rfl
@[simp] theorem x_eMl(f:List Dt->List Dt->Option Dt):eMl f a am ρ=zA3 (a ρ) fun x=>match x with | .lst xs=>zA3 (am ρ) fun ds=>optR (f xs ds)|_=>none:=rfl
@[simp] theorem x_iRv:iRv am ρ=zA3 (am ρ) fun vs=>match vs with|[.lst xs]=>okR xs.reverse|_=>none:=rfl
@[simp] theorem v_xor(i j:Int):xorD (.int i) (.int j)=some (.int (Builtin.bitXor i j)):=rfl
@[simp] theorem v_rep(xs:List Dt)(k:Int):repD (.lst xs) (.int k)=@ite _ ((-4611686018427387904<=k/\k<4611686018427387904)/\xs.length*k.toNat<=100000) (qA2 _) (some (.lst (qAm k.toNat xs).flatten)) none:=rfl
end
end Mi
namespace Mi
open PySem
@[simp] theorem okR_inj{α:Type}{a b:α}:okR a=okR b↔a=b:=⟨fun h=>by cases h;rfl,fun h=>by rw[h]⟩
@[simp] theorem zHD(vs:List Nat)(it:IM)(tg:Tg)(b:SM)(r:Ro):sFor vs it tg b r=zA3 (it (frz (frzAt vs r))) fun ds=>forGo tg b ds (frzAt vs r):=rfl
@[simp] theorem zKX(it:IM)(i:Nat)(b:SM)(r:Ro):sForR it i b r=zA3 (it (full r)) fun ds=>forGo (.one i) b ds r:=rfl
@[simp] theorem zXJ(e:EM)(ρ:Rh):iSq e ρ=zA3 (e ρ) fun d=>match d with | .lst xs=>okR xs | .tup xs=>okR xs | .scr ns=>okR (ns.map .int) | .str z=>okR (signsD z)|_=>none:=rfl
@[simp] theorem x_iEn(e:AM)(ρ:Rh):iEn e ρ=zA3 (e ρ) fun vs=>match vs with|[.lst xs]=>okR (enumD 0 xs)|_=>none:=rfl
@[simp] theorem x_iZi(e:AM)(ρ:Rh):iZi e ρ=zA3 (e ρ) fun vs=>match vs with|[.lst xs,.lst ys]=>okR (zipD xs ys)|_=>none:=rfl
theorem zTF{e:AM}{ρ:Rh}{n:Nat}(h:e ρ=okR [.int n])(hn:n<=100000):iR1 e ρ=okR (nums 0 n):=by
 unfold iR1;rw[h,zA0];dsimp only;rw[if_pos (by lia)];simp
theorem zRA(n:Nat):nums 0 n=(qAe n).map fun i:Nat=>Dt.int (i:Int):=by
 unfold nums;exact qDr fun i _=>by simp
def nxR(x:R Out)(P:Ro->Prop):Prop:=match x with
 |some (.ok (.nx r))=>P r
 |_=>False
@[simp] theorem x_nxR(r:Ro)(P:Ro->Prop):nxR (okR (.nx r)) P=P r:=rfl
theorem zEN{x:R Out}{P:Ro->Prop}(h:nxR x P):∃r',x=okR (.nx r')/\P r':=by
 unfold nxR at h
 split at h
 ·exact⟨_,rfl,h⟩
 ·exact h.elim
theorem zBY{x:R Out}{P:Ro->Prop}{r:Ro}(h:x=okR (.nx r))(hp:P r):nxR x P:=by rw[h];exact hp
theorem zWI{i j:Int}(h:-18446744073709551616<i)(h':i<18446744073709551616):mulD (.int i) (.int j)=some (.int (i*j)):=by
 rw[zTI,if_pos (.inl (.inl ⟨h,h'⟩))]
theorem zP5{i j:Int}(h:-18446744073709551616<j)(h':j<18446744073709551616):mulD (.int i) (.int j)=some (.int (i*j)):=by
 rw[zTI,if_pos (.inl (.inr ⟨h,h'⟩))]
theorem zCH{a b:SM}{r:Ro}{X:R Out}(h:∀bb:SM,bb=b->nxR (a r) fun r1=>bb r1=X):sSeq a b r=X:=by
 obtain⟨r1,h1,h2⟩:=zEN (h b rfl);unfold sSeq;rw[h1,zA0];exact h2
theorem zVO{a b:SM}{r:Ro}{P:Ro->Prop}(h:∀bb:SM,bb=b->nxR (a r) fun r1=>nxR (bb r1) P):nxR (sSeq a b r) P:=by
 obtain⟨r1,h1,h2⟩:=zEN (h b rfl);unfold sSeq;rw[h1,zA0];exact h2
theorem zB6{P n:Nat}{b:SM}{ds:List Dt}{d:Dt}(h:ds.length=P)(hb:b (startO n ds)=okR (.rt d)):runF P n b ds=okR d:=by
 unfold runF;rw[if_pos h,hb];rfl
theorem zWH{j n:Nat}{b:SM}{r:Ro}{X:Ro->Prop}(Pv:Nat->Ro->Prop)(h:Pv 0 r)(hs:∀k,k<n->∀r,Pv k r->nxR (b (r.set j (some (.int (k:Nat),0)))) (Pv (k+1)))(hK:∀r',Pv n r'->X r'):nxR (forGo (.one j) b (nums 0 n) r) X:=by
 obtain⟨r',h1,h2⟩:∃r',forGo (.one j) b (nums 0 n) r=okR (.nx r')/\Pv n r':=by
  obtain⟨r',h1,h2⟩:=zLF (tg:=.one j) (b:=b) Pv (nums 0 n) 0 r h fun k d r hd hp=>by
   rw[zRA,qAn]at hd;cases e:(qAe n)[k]? with
   |none=>rw[e]at hd;cases hd
   |some q=>
    rw[e]at hd;cases hd;obtain⟨h1,h2⟩:=qA3.mp e;rw[qCe]at h2;subst h2;rw[qCz]at hp;obtain⟨r',g1,g2⟩:=zEN (hs k (by simpa using h1) r hp);exact⟨_,r',rfl,g1,by rw[qCz];exact g2⟩
  exact⟨r',h1,by simpa[nums]using h2⟩
 rw[h1];exact hK r' h2
theorem zFM{γ:Type}{j:Nat}{b:SM}{r:Ro}{X:Ro->Prop}(en:γ->Dt)(ns:List γ)(Pv:Nat->Ro->Prop)(h:Pv 0 r)(hs:∀k x,ns[k]?=some x->∀r,Pv k r->nxR (b (r.set j (some (en x,0)))) (Pv (k+1)))(hK:∀r',Pv ns.length r'->X r'):nxR (forGo (.one j) b (ns.map en) r) X:=by
 obtain⟨r',h1,h2⟩:=zLF (tg:=.one j) (b:=b) Pv (ns.map en) 0 r h fun k d r hd hp=>by
  rw[qAn]at hd;cases e:ns[k]? with
  |none=>rw[e]at hd;cases hd
  |some q=>
   rw[e]at hd;cases hd;rw[qCz]at hp;obtain⟨r',g1,g2⟩:=zEN (hs k q e r hp);exact⟨_,r',rfl,g1,by rw[qCz];exact g2⟩
 rw[h1];exact hK r' (by simpa using h2)
theorem zK6:∀(a b:List Char),a.map qHk=b.map qHk->a=b
 |[],[],_=>rfl
 |[],_::_,h=>by simp at h
 |_::_,[],h=>by simp at h
 |x::r,y::q,h=>by
  simp only[qAu,List.cons.injEq]at h;rw[zK6 r q h.2]
  have:x=y:=Char.toNat_inj.mp h.1
  rw[this]
@[simp] theorem str_inj(a b:String):(Str.ofString a=Str.ofString b)↔a=b:=by
 constructor
 ·intro h;rw[Str.ofString_eq_toList,Str.ofString_eq_toList]at h;simp only[Str.mk.injEq,List.toArray_inj]at h
  have:=zK6 _ _ (by simpa using h)
  exact String.toList_inj.mp this
 ·intro h;rw[h]
theorem zMT:∀(ds:List Dt)(n:Nat),(enumD n ds).length=ds.length
 |[],_=>rfl
 |_::r,n=>by rw[enumD,qAp,qAp,zMT r]
end Mi
namespace Mi
open PySem
section
variable(ρ:Rh)(a:EM)(am:AM)(lo hi:OM)
@[simp] theorem zQJ:eSl a lo hi ρ=zA3 (a ρ) fun x=>zA3 (lo ρ) fun l=>zA3 (hi ρ) fun h=>optR (slD x l h):=rfl
@[simp] theorem zTE:oNo ρ=okR none:=rfl
@[simp] theorem x_oE:oE a ρ=zA3 (a ρ) fun d=>match d with | .int i=>okR (some i)|_=>none:=rfl
@[simp] theorem zXK(f:Dt->List Dt->Option Dt):eMt f a am ρ=zA3 (a ρ) fun x=>if zMN x=true then zA3 (am ρ) fun xs=>optR (f x xs)else none:=rfl
@[simp] theorem v_isStr(z:Str):zMN (.str z)=true:=rfl
end
@[simp] theorem v_slL(xs:List Dt)(l h:Option Int):slD (.lst xs) l h=some (.lst (cutA xs l h)):=rfl
@[simp] theorem zNZ(z:Str)(l h:Option Int):slD (.str z) l h=@ite _ (z.length<=100000) (qA2 _) (some (.str ⟨(cutA z.cps.toList l h).toArray⟩)) none:=rfl
@[simp] theorem zVD(z:Str)(i:Int):ixD (.str z) (.int i)=@ite _ (z.length<=100000) (qA2 _) ((itA z.cps.toList i).map fun c=>.str ⟨#[c]⟩) none:=rfl
@[simp] theorem v_lenSt(z:Str):lenD [.str z]=@ite _ (z.length<=100000) (qA2 _) (some (.int z.length)) none:=rfl
@[simp] theorem v_count1(z:Str)(c:Nat):countD (.str z) [.str ⟨#[c]⟩]=some (.int (z.cps.toList.count c:Nat)):=rfl
@[simp] theorem v_in1(ng:Bool)(z:Str)(c:Nat):inD ng (.str ⟨#[c]⟩) (.str z)=some (.bl (if ng=true then !decide (c∈z.cps.toList)else decide (c∈z.cps.toList))):=rfl
@[simp] theorem v_find1(z:Str)(c:Nat):findD (.str z) [.str ⟨#[c]⟩]=some (.int (match posC c z.cps.toList with|some i=>(i:Int)|none=>-1)):=rfl
theorem zHY{α:Type}(xs:List α)(k:Nat):cutA xs none (some (k:Int))=xs.take k:=by
 unfold cutA cutIx;simp only[qCr,Nat.sub_zero];rw[if_neg (by lia)]
 by_cases h:k<=xs.length
 ·rw[show min (k:Int).toNat xs.length=k by lia]
 ·rw[show min (k:Int).toNat xs.length=xs.length by lia,qEs,qCs (by lia)]
theorem zE0{α:Type}(xs:List α)(k:Nat):cutA xs (some (k:Int)) none=xs.drop k:=by
 unfold cutA cutIx;dsimp only;rw[if_neg (by lia)]
 by_cases h:k<=xs.length
 ·rw[show min (k:Int).toNat xs.length=k by lia];exact qCs (by simp)
 ·rw[show min (k:Int).toNat xs.length=xs.length by lia];simp
  lia
theorem zL4(a b:Str):(a++b).cps.toList=a.cps.toList++b.cps.toList:=by
 show(Str.mk (a.cps++b.cps)).cps.toList=_
 simp
theorem zPF(z:Str):z.length=z.cps.toList.length:=by
 unfold Str.length;simp
theorem zHP(l:List Nat):(Str.mk l.toArray).length=l.length:=by rw[zPF]
end Mi
namespace Mi
open PySem
end Mi
namespace Mp
open Mi PySem
theorem sg{i n:Nat}{vs:List Nat}{e:EM}{b:SM}{r:Ro}{d:Dt}{X:R Out}(he:e (full r)=okR d)(hd:d.dep<=n)(h:b (r.set i (some (d,n)))=X):sSeq (sSet i n vs e) b r=X:=by
 rw[zHC,zJ5,he,zA0,if_pos hd,zA0];exact h
theorem sp{c:TM}{a b:SM}{r:Ro}{X:R Out}(hc:c (full r)=okR false)(h:b r=X):sSeq (sIf c a sNil) b r=X:=by
 rw[zHC,zJ6,hc,zA0,if_neg (by simp),zSB,zA0];exact h
theorem st{c:TM}{a b:SM}{r r':Ro}{X:R Out}(hc:c (full r)=okR true)(ha:a r=okR (.nx r'))(h:b r'=X):sSeq (sIf c a sNil) b r=X:=by
 rw[zHC,zJ6,hc,zA0,if_pos rfl,ha,zA0];exact h
theorem c2{m:FM}{e1 e2:EM}{ρ:Rh}{d1 d2:Dt}{X:R Dt}(h1:e1 ρ=okR d1)(h2:e2 ρ=okR d2)(h:m [d1,d2]=X):eCall m (aCons e1 (aCons e2 aNil)) ρ=X:=by
 simp only[zI1,zCP,zES,h1,h2,zA0];exact h
theorem c1{m:FM}{e1:EM}{ρ:Rh}{d1:Dt}{X:R Dt}(h1:e1 ρ=okR d1)(h:m [d1]=X):eCall m (aCons e1 aNil) ρ=X:=by
 simp only[zI1,zCP,zES,h1,zA0];exact h
theorem c4{m:FM}{e1 e2 e3 e4:EM}{ρ:Rh}{d1 d2 d3 d4:Dt}{X:R Dt}(h1:e1 ρ=okR d1)(h2:e2 ρ=okR d2)(h3:e3 ρ=okR d3)(h4:e4 ρ=okR d4)(h:m [d1,d2,d3,d4]=X):eCall m (aCons e1 (aCons e2 (aCons e3 (aCons e4 aNil)))) ρ=X:=by
 simp only[zI1,zCP,zES,h1,h2,h3,h4,zA0];exact h
theorem b2{o:Dt->Dt->Option Dt}{e1 e2:EM}{ρ:Rh}{d1 d2 d:Dt}(h1:e1 ρ=okR d1)(h2:e2 ρ=okR d2)(h:o d1 d2=some d):eB o e1 e2 ρ=okR d:=by
 rw[x_eB,h1,zA0,h2,zA0,h];rfl
theorem bi1{o:List Dt->Option Dt}{e1:EM}{ρ:Rh}{d1 d:Dt}(h1:e1 ρ=okR d1)(h:o [d1]=some d):eBi o (aCons e1 aNil) ρ=okR d:=by
 simp only[zTG,zCP,zES,h1,zA0,h];rfl
theorem el1{e1:EM}{ρ:Rh}{d1:Dt}(h1:e1 ρ=okR d1):eLst (aCons e1 aNil) ρ=okR (.lst [d1]):=by simp[h1]
theorem tb1{e:EM}{ρ:Rh}{k:Bool}(h:e ρ=okR (.bl k)):tB e ρ=okR k:=by rw[x_tB,h,zA0]
theorem tm1{e:EM}{ρ:Rh}{k:Bool}(h:e ρ=okR (.bl k)):tM e ρ=okR k:=by rw[x_tM,h,zA0]
theorem tn1{t:TM}{ρ:Rh}{k:Bool}(h:t ρ=okR k):tNo t ρ=okR (!k):=by rw[zXI,h,zA0]
theorem to0{t t':TM}{ρ:Rh}{k:Bool}(h:t ρ=okR false)(h':t' ρ=okR k):Mi.tOr t t' ρ=okR k:=by rw[zXH,h,zA0,if_neg (by simp),h']
theorem ta1{t t':TM}{ρ:Rh}{k:Bool}(h:t ρ=okR true)(h':t' ρ=okR k):tAn t t' ρ=okR k:=by rw[zVA,h,zA0,if_pos rfl,h']
theorem ta0{t t':TM}{ρ:Rh}(h:t ρ=okR false):tAn t t' ρ=okR false:=by rw[zVA,h,zA0,if_neg (by simp)]
theorem ss{i n:Nat}{vs:List Nat}{e:EM}{r:Ro}{d:Dt}(he:e (full r)=okR d)(hd:d.dep<=n):sSet i n vs e r=okR (.nx (r.set i (some (d,n)))):=by
 rw[zJ5,he,zA0,if_pos hd]
theorem sr{L n:Nat}{vs:List Nat}{e:EM}{r:Ro}{d:Dt}(he:e (full r)=okR d)(hd:d.dep<=n/\d.dep<=L):sRet L n vs e r=okR (.rt d):=by
 rw[zSA,he,zA0,if_pos hd]
theorem tl{k k':Bool}{x:Option Dt}(h:x=some (.bl k))(e:k=k'):x=some (.bl k'):=e▸h
theorem bi2{o:List Dt->Option Dt}{e1 e2:EM}{ρ:Rh}{d1 d2 d:Dt}(h1:e1 ρ=okR d1)(h2:e2 ρ=okR d2)(h:o [d1,d2]=some d):eBi o (aCons e1 (aCons e2 aNil)) ρ=okR d:=by
 simp only[zTG,zCP,zES,h1,h2,zA0,h];rfl
theorem sl0{a b:EM}{ρ:Rh}{x d:Dt}{i:Int}(h1:a ρ=okR x)(h2:b ρ=okR (.int i))(h:slD x none (some i)=some d):eSl a oNo (oE b) ρ=okR d:=by
 rw[zQJ,h1,zA0,zTE,zA0,x_oE,h2,zA0,zA0,h];rfl
theorem sl1{a b:EM}{ρ:Rh}{x d:Dt}{i:Int}(h1:a ρ=okR x)(h2:b ρ=okR (.int i))(h:slD x (some i) none=some d):eSl a (oE b) oNo ρ=okR d:=by
 rw[zQJ,h1,zA0,x_oE,h2,zA0,zA0,zTE,zA0,h];rfl
theorem sl2{a b c:EM}{ρ:Rh}{x d:Dt}{i j:Int}(h1:a ρ=okR x)(h2:b ρ=okR (.int i))(h3:c ρ=okR (.int j))(h:slD x (some i) (some j)=some d):eSl a (oE b) (oE c) ρ=okR d:=by
 rw[zQJ,h1,zA0,x_oE,h2,zA0,zA0,x_oE,h3,zA0,zA0,h];rfl
theorem sf{c:TM}{a:SM}{r:Ro}(hc:c (full r)=okR false):sIf c a sNil r=okR (.nx r):=by
 rw[zJ6,hc,zA0,if_neg (by simp),zSB]
theorem mt1{f:Dt->List Dt->Option Dt}{a e:EM}{ρ:Rh}{x y d:Dt}(h1:a ρ=okR x)(hs:zMN x=true)(h2:e ρ=okR y)(h:f x [y]=some d):eMt f a (aCons e aNil) ρ=okR d:=by
 rw[zXK,h1,zA0,if_pos hs,zCP,h2,zA0,zES,zA0,zA0,h];rfl
theorem eqi{e1 e2:EM}{ρ:Rh}{a b:Int}{k:Bool}(h1:e1 ρ=okR (.int a))(h2:e2 ρ=okR (.int b))(h:decide (a=b)=k):tB (eB eqD e1 e2) ρ=okR k:=by
 refine tb1 (b2 h1 h2 ?_);rw[<- h];simp[Dt.eq];rfl
theorem sx{c:TM}{a b:SM}{r:Ro}{d:Dt}(hc:c (full r)=okR true)(ha:a r=okR (.rt d)):sSeq (sIf c a sNil) b r=okR (.rt d):=by
 rw[zHC,zJ6,hc,zA0,if_pos rfl,ha,zA0]
theorem mdi{i j k:Int}(h:0<j)(e:i%j=k):modD (.int i) (.int j)=some (.int k):=by rw[<- e];exact if_pos h
theorem dvi{i j:Int}(h:0<j/\j<1000000000000000000000000):divD (.int i) (.int j)=some (.int (i/j)):=@if_pos _ (qA2 _) h _ _ _
theorem c3{m:FM}{e1 e2 e3:EM}{ρ:Rh}{d1 d2 d3:Dt}{X:R Dt}(h1:e1 ρ=okR d1)(h2:e2 ρ=okR d2)(h3:e3 ρ=okR d3)(h:m [d1,d2,d3]=X):eCall m (aCons e1 (aCons e2 (aCons e3 aNil))) ρ=X:=by
 simp only[zI1,zCP,zES,h1,h2,h3,zA0];exact h
theorem an1{e1 e2:EM}{ρ:Rh}{a b:Bool}(h1:e1 ρ=okR (.bl a))(h2:e2 ρ=okR (.bl b)):eAnd e1 e2 ρ=okR (.bl (a&&b)):=by cases a<;>simp[h1,h2]
theorem sw{s t:SM}{r r':Ro}{X:R Out}(h:s r=okR (.nx r'))(h2:t r'=X):sSeq s t r=X:=by rw[zHC,h,zA0];exact h2
theorem nsw{s t:SM}{r r':Ro}{P:Ro->Prop}(h:s r=okR (.nx r'))(h2:nxR (t r') P):nxR (sSeq s t r) P:=by rw[zHC,h,zA0];exact h2
theorem v1{i:Nat}{ρ:Rh}{d:Dt}(h:ρ[i]?=some (some d)):eV i ρ=okR d:=by rw[x_eV,h]
theorem al0{e:EM}{ρ:Rh}{d:Dt}(h:e ρ=okR d):aCons e aNil ρ=okR [d]:=by rw[zCP,h];rfl
theorem adi{a b c:Int}(h:a+b=c):addD (.int a) (.int b)=some (.int c):=by rw[<- h];rfl
theorem sbi{a b c:Int}(h:a-b=c):subD (.int a) (.int b)=some (.int c):=by rw[<- h];rfl
theorem k1{d d':Dt}{ρ:Rh}(h:d=d'):eC d ρ=okR d':=by rw[<- h];rfl
theorem cmi{p:Int->Int->Bool}{a b:Int}{k:Bool}(h:p a b=k):cmpD p (.int a) (.int b)=some (.bl k):=by rw[<- h];rfl
noncomputable def rowD(r:List Int):Dt:=.lst (r.map .int)
def mat(A:List (List Int)):Dt:=.lst (A.map rowD)
noncomputable def tab(n:Nat)(f:Nat->Nat->Int):List (List Int):=(qAe n).map fun i=>(qAe n).map fun j=>f i j
@[simp] theorem dep_row(r:List Int):(rowD r).dep=1:=by simp[rowD]
@[simp] theorem lenR(r:List Int):lenD [rowD r]=some (.int r.length):=by
 show some (Dt.int ((r.map Dt.int).length:Int))=_;rw[qAq]
@[simp] theorem listR(r:List Int):zPD [rowD r]=some (rowD r):=rfl
@[simp] theorem lenM(A:List (List Int)):lenD [mat A]=some (.int A.length):=by
 show some (Dt.int ((A.map rowD).length:Int))=_;rw[qAq]
def Bit(x:Int):Prop:=x=0\/x=1
def RowN(n:Nat)(r:List Int):Prop:=r.length=n/\∀x∈r,Bit x
theorem zUT{ds:List Dt}(h:∀d∈ds,d.dep=0):Dt.depL ds=0:=by
 induction ds with
 |nil=>simp
 |cons a r ih=>rw[zI3,h a (by simp),ih fun d hd=>h d (by simp[hd])];rfl
noncomputable def numL(ks:List Nat):List Int:=ks.map fun k:Nat=>(k:Int)
theorem numD(ks:List Nat):rowD (numL ks)=.lst (ks.map fun k:Nat=>Dt.int (k:Int)):=by
 unfold rowD numL;rw[qHc];rfl
noncomputable def sub(ks:List Nat)(f:Nat->Nat->Int):Nat->Nat->Int:=fun a b=>f (ks.getD a 0) (ks.getD b 0)
noncomputable def sgn(c:Nat):Dt:=.str ⟨#[c]⟩
theorem zRW(cs:List Nat):∀d∈cs.map sgn,d.dep=0:=by
 intro d hd;obtain⟨c,_,rfl⟩:=qC8.mp hd;rfl
@[simp] theorem depL_sgn(cs:List Nat):Dt.depL (cs.map sgn)=0:=zUT (zRW cs)
theorem zM2:∀cs:List Nat,strsD (cs.map sgn)=some (cs.map fun c=>⟨#[c]⟩)
 |[]=>rfl
 |c::r=>by
  show(strsD (r.map sgn)).map _=_
  rw[zM2 r];rfl
theorem zF8:(Str.ofString "").cps.toList=[]:=by
 rw[Str.ofString_eq_toList];rfl
theorem zMM:∀zs:List Str,(Str.join (Str.ofString "") zs).cps.toList=(zs.map (·.cps.toList)).flatten
 |[]=>rfl
 |[x]=>by simp[Str.join]
 |x::y::r=>by
  rw[Str.join,zL4,zL4,zF8,zMM (y::r)]
  ·simp
  ·simp
theorem zQO(cs:List Nat):((cs.map fun c=>(⟨#[c]⟩:Str)).map (·.length)).sum=cs.length:=by
 induction cs with
 |nil=>rfl
 |cons c r ih=>simp only[qAu,List.sum_cons,ih,qAp];show 1+r.length=_;lia
theorem zPE:(Str.ofString "").length=0:=by rw[zPF,zF8];rfl
theorem zRN(cs:List Nat)(hz:cs.length<=100000):joinD (.str (Str.ofString "")) [.lst (cs.map sgn)]=some (.str ⟨cs.toArray⟩):=by
 show(match strsD (cs.map sgn)with|some zs=>_|none=>none)=_
 rw[zM2];dsimp only;rw[if_pos (by rw[zQO,zPE];lia)]
 congr 2
 have h:=zMM (cs.map fun c=>(⟨#[c]⟩:Str));have e:(List.map (·.cps.toList) (cs.map fun c=>(⟨#[c]⟩:Str))).flatten=cs:=by
  rw[qHc];clear h hz
  induction cs with
  |nil=>rfl
  |cons c r ih=>simpa using ih
 rw[e]at h
 generalize Str.join (Str.ofString "") (cs.map fun c=>(⟨#[c]⟩:Str))=z at h ⊢
 obtain⟨a⟩:=z;simp at h;rw[<- h]
end Mp
namespace Mp
noncomputable def ords(row:List Nat):List Nat:=row.foldl (fun o p=>if p∈o then o else o++[p]) []
end Mp
namespace Mp
open Mi PySem
theorem zGW{ρ:Rh}{e:EM}{c:TM}{i j:Nat}(xs:List Dt)(g:Nat->Dt)(f:Nat->Bool)(hi:i=ρ.length)(hj:j=ρ.length+1)(it:IM)(hit:it ρ=okR (enumD 0 xs))(hn:xs.length<=100000)(hc:∀k x,xs[k]?=some x->c (ρ++[some (.int (k:Nat)),some x])=okR (f k))(h:∀k x,xs[k]?=some x->e (ρ++[some (.int (k:Nat)),some x])=okR (g k)):eComp it 2 (.tup [i,j]) c e ρ=okR (.lst (((qAe xs.length).filter f).map g)):=by
 subst hi hj;unfold eComp;rw[hit,zA0,if_pos ⟨by rw[zMT];exact hn,by simp[Tg.idx]⟩];have go:∀(m k:Nat)(acc:List Dt),k+m=xs.length->compGo ρ 2 (.tup [ρ.length,ρ.length+1]) c e (enumD k (xs.drop k)) acc=okR (acc++((qGf k m).filter f).map g):=by
  intro m
  induction m with
  |zero=>
   intro k acc hk;rw[List.drop_of_length_le (by lia)];simp[enumD,compGo]
  |succ m ih=>
   intro k acc hk;have hx:xs[k]?=some xs[k]:=qA9 (by lia);rw[qBc (by lia),enumD,compGo];have es:zB3 (ρ++qAm 2 none) [(ρ.length,.int (k:Nat)),(ρ.length+1,xs[k])]=ρ++[some (.int (k:Nat)),some xs[k]]:=by
    simp[zB3]
   show zA3 (c (zB3 (ρ++qAm 2 none) [(ρ.length,.int (k:Nat)),(ρ.length+1,xs[k])])) _=_;rw[es,hc k _ hx,zA0,List.range'_succ];cases hf:f k with
   |true=>
    rw[if_pos rfl];show zA3 (e (zB3 (ρ++qAm 2 none) [(ρ.length,.int (k:Nat)),(ρ.length+1,xs[k])])) _=_;rw[es,h k _ hx,zA0,ih (k+1) _ (by lia),qEk hf];simp
   |false=>
    rw[if_neg (by simp),ih (k+1) _ (by lia),qEl (by simp[hf])]
 have:=go xs.length 0 [] (by lia)
 rw[qCr]at this;rw[this,zA0,List.range_eq_range'];simp
theorem zIF{c:Nat}:∀{l:List Nat},c∈l->posC c l=some (l.idxOf c)
 |a::r,h=>by
  show(if a=c then some 0 else(posC c r).map (·+1))=_
  by_cases z:a=c
  ·subst z;simp
  ·have:=zIF (l:=r) ((qA7.mp h).elim (fun y=>absurd y.symm z) fun y=>y)
   rw[if_neg z,this,List.idxOf_cons,show(a==c)=false by simpa using z];rfl
theorem zRY{c:Nat}{cs:List Nat}(h:c∈cs):findD (.str ⟨cs.toArray⟩) [sgn c]=some (.int (cs.idxOf c:Nat)):=by
 show some (Dt.int (match posC c cs with|some i=>(i:Int)|none=>-1))=_;rw[zIF h]
theorem zPJ{cs:List Nat}{k:Nat}(h:k<cs.length)(hz:cs.length<=1000):ixD (.str ⟨cs.toArray⟩) (.int (k:Int))=some (sgn (cs.getD k 0)):=by
 show(@ite _ ((Str.mk cs.toArray).length<=100000) (qA2 _) ((itA cs (k:Int)).map fun c=>Dt.str ⟨#[c]⟩) none)=_
 rw[if_pos (by rw[zHP];lia),zC4 (j:=k) (v:=cs.getD k 0) rfl (by rw[qA1,qA9 h];rfl)];rfl
theorem zFY{cs:List Nat}(h:cs.length<=1000):lenD [.str ⟨cs.toArray⟩]=some (.int (cs.length:Int)):=by
 have:=zHP cs
 simp[lenD,this]
 try lia
structure Twice(n:Nat)(row:List Nat):Prop where
 len:row.length=2*n
 cnt:∀v,row.count v=if v<n then 2 else 0
section
variable{n:Nat}{row:List Nat}(t:Twice n row)
include t
end
end Mp
namespace Mp
open Mi PySem
noncomputable def addB:List Int->List Int->List Int
 |a::r,b::s=>(a+b)%2::addB r s
 |_,_=>[]
noncomputable def dot:List Int->List Int->Int
 |a::r,b::x=>a*b+dot r x
 |_,_=>0
def Ker(A:List (List Int))(x:List Int):Prop:=∀r∈A,dot r x%2=0
noncomputable def ent(A:List (List Int))(i k:Nat):Int:=(A.getD i []).getD k 0
theorem zRV{α:Type}{l:List α}{d:α}{i:Nat}(h:i<l.length):l.getD i d∈l:=by
 rw[qA1,qA9 h];simp
def oth(A:List (List Int))(c:Nat)(lead:List Int):List (List Int):=A.map fun r=>if r.getD c 0=1 then addB r lead else r
section
variable{A:List (List Int)}{c t m:Nat}(hm:∀r∈A,RowN m r)(ht:t<A.length)(hc:c<=t)(hl:ent A t c=1)(hcm:c<m)
include hm ht in
include hm ht hc in
include ht hc in
include hm ht hc in
end
def zY6(A:List (List Int))(c:Nat):Prop:=∀i k,i<A.length->k<c->ent A i k=if i=k then 1 else 0
end Mp
namespace Mp
open Mi PySem
noncomputable def zXL(n i:Nat):List Int:=(qAe n).map fun j=>if j=i then 1 else 0
def aug(n:Nat)(T:List (List Int)):List (List Int):=(qAe n).map fun i=>T.getD i []++zXL n i
structure Un(n:Nat)(T A:List (List Int))(c:Nat):Prop where
 len:A.length=n
 rows:∀r∈A,RowN (n+n) r
 unit:zY6 A c
 ker:∀x,(∀y∈x,Bit y)->(Ker A x↔Ker (aug n T) x)
theorem zM5{z:Str}{l:List Nat}(h:z.cps.toList=l):z=⟨l.toArray⟩:=by
 cases z with
 |mk a=>subst h;simp
theorem add_str{a b:List Nat}(h:a.length+b.length<=1000):addD (.str ⟨a.toArray⟩) (.str ⟨b.toArray⟩)=some (.str ⟨(a++b).toArray⟩):=by
 rw[zJ9,if_pos (by rw[zHP,zHP];lia)]
 congr 2
 exact zM5 (by rw[zL4])
theorem zCD{a:List Nat}(l h:Option Int)(hz:a.length<=1000):slD (.str ⟨a.toArray⟩) l h=some (.str ⟨(cutA a l h).toArray⟩):=by
 show(@ite _ ((Str.mk a.toArray).length<=100000) (qA2 _) (some (Dt.str ⟨(cutA a l h).toArray⟩)) none)=_
 rw[if_pos (by rw[zHP];lia)]
theorem zGC{α:Type}:∀(l:List α){i:Nat}(h:i<l.length),l.Perm (l[i]::l.eraseIdx i)
 |a::r,0,h=>by simp
 |a::r,i+1,h=>by
  have:=zGC r (i:=i) (by simpa using h)
  simp only[qDf,qEh];exact(this.cons a).trans (qD9 _ _ _)
theorem zV5:(Str.ofString "abcdefghijklmnopqrstuvwxyz").cps.toList=(qAe 26).map (97 + ·):=by
 rw[Str.ofString_eq_toList]
 decide
end Mp
namespace Mp
noncomputable def sh(s:Nat)(cs:List Nat):List Nat:=cs.drop s++cs.take s
theorem zEY(s:Nat)(cs:List Nat):(sh s cs).length=cs.length:=by
 unfold sh;simp
 lia
theorem zS0{a b:List Nat}(hl:a.length=b.length)(h:∀i,i<a.length->a.getD i 0=b.getD i 0):a=b:=by
 refine qDl hl fun i h1 h2=>?_
 have:=h i h1
 rwa [qA1,qA1,qA9 h1,qA9 h2]at this
theorem zOE{s i:Nat}{cs:List Nat}(hs:s<=cs.length)(hi:i<cs.length):(sh s cs).getD i 0=cs.getD ((i+s)%cs.length) 0:=by
 unfold sh;rw[qA1,qA1]
 congr 1
 by_cases h:i<cs.length-s
 ·rw[qAa (by simpa using h),qFn,qGc (by lia),Nat.add_comm]
 ·rw[qA8 (by simpa using h),qEp,qE9 (by lia)]
  congr 1
  rw[show i+s=(i-(cs.length-s))+cs.length by lia,Nat.add_mod_right,qGc (by lia)]
theorem zTR(cs:List Nat):sh 0 cs=cs:=by simp[sh]
theorem zXQ{s t:Nat}{cs:List Nat}(hs:s<=cs.length)(ht:t<=cs.length):sh t (sh s cs)=sh ((s+t)%cs.length) cs:=by
 refine zS0 (by rw[zEY,zEY,zEY]) fun i hi=>?_
 rw[zEY,zEY]at hi;have hp:0<cs.length:=by lia
 have hm:∀x,x%cs.length<cs.length:=fun x=>qFc _ hp
 rw[zOE (by rw[zEY];exact ht) (by rw[zEY];exact hi),zEY,zOE hs (hm _),zOE (qCj (hm _)) hi]
 congr 1
 rw[qF9,Nat.add_mod_mod]
 congr 1
 lia
def wr(cs:List Nat):List Nat:=cs.map fun c=>97+(ords cs).idxOf c
end Mp
namespace Mp
open Mi PySem
theorem zV4:(Str.ofString "abcdefghijklmnopqrstuvwxyz")=⟨((qAe 26).map (97 + ·)).toArray⟩:=zM5 zV5
theorem zUQ{n k:Nat}(h:k<n):((qAe n).map (97 + ·)).getD k 0=97+k:=by
 rw[qA1,qAn,List.getElem?_range h];rfl
theorem zRJ{k:Nat}(h:k<26):ixD (.str "abcdefghijklmnopqrstuvwxyz") (.int (k:Int))=some (sgn (97+k)):=by
 rw[zV4,zPJ (by simpa using h) (by simp),zUQ h]
theorem zOL(cs:List Nat)(hz:cs.length<=1000):revD (.str ⟨cs.toArray⟩) (.int (-1))=some (.str ⟨cs.reverse.toArray⟩):=by
 show(@ite _ ((-1:Int) = -1/\(Str.mk cs.toArray).length<=100000) (qA2 _) (some (Dt.str ⟨cs.reverse.toArray⟩)) none)=_
 rw[if_pos ⟨rfl,by rw[zHP];lia⟩]
noncomputable def mixC(ns:List Int)(k:Nat):Int:=
 let c:Int:=if k<ns.length then ns.getD k 0%1000003 else 0
 let f:Int:=((c+1)*48271+(k:Int)*k*7919)%1000000007*40692%2147483399
 f*2147483647+(f*69621+k)%2147483647
def mixL(ns:List Int)(n:Nat):List Int:=(qAe n).map (mixC ns)
theorem zUE(ns:List Int)(k:Nat):0<=mixC ns k/\mixC ns k<4611686018427387904:=by
 unfold mixC;dsimp only
 generalize((if k<ns.length then ns.getD k 0%1000003 else 0)+1)*48271+(k:Int)*k*7919=q
 lia
theorem zP8(ns:List Int)(n:Nat)(hn:n<=63)(hl:ns.length<=63):zCE [.scr ns,.int n]=okR (.lst ((mixL ns (max n ns.length)).map .int)):=by
 have hmin:minD [.int 63,.int (ns.length:Int)]=some (.int (ns.length:Int)):=by
  show some (Dt.int (if(ns.length:Int)<63 then(ns.length:Int)else 63))=_
  split
  ·rfl
  ·rw[show(63:Int)=(ns.length:Int) by lia]
 have hmax:maxD [.int (n:Int),.int (ns.length:Int)]=some (.int ((max n ns.length:Nat):Int)):=by
  show some (Dt.int (if(ns.length:Int)>(n:Int)then(ns.length:Int)else(n:Int)))=_;rw[show(if(ns.length:Int)>(n:Int)then(ns.length:Int)else(n:Int))=((max n ns.length:Nat):Int) by split<;>lia]
 generalize hm:max n ns.length=m at hmax
 refine zB6 rfl (sg (d:=.lst []) (by simp) (by decide) (zCH fun bb hb=>?_));rw[zKX,zTF (n:=m) (al0 (bi2 rfl (bi2 rfl (bi1 rfl rfl) hmin) hmax)) (by lia),zA0];refine zWH (fun k r=>∃o3 o4 o5,r=[some (.scr ns,0),some (.int n,0),some (.lst (((qAe k).map (mixC ns)).map .int),8+1),o3,o4,o5]) ⟨none,none,none,rfl⟩ (fun k hk r hr=>?_) fun r hr=>?_
 ·obtain⟨o3,o4,o5,rfl⟩:=hr;refine nsw (ss rfl (qA4 0)) ?_;have hif:sIf (tB (eB (cmpD fun i j=>decide (i<j)) (eV 3) (eBi lenD (aCons (eV 0) aNil)))) (sSet 4 0 [0,3] (eB modD (eB ixD (eV 0) (eV 3)) (eC (.int 1000003)))) sNil [some (.scr ns,0),some (.int n,0),some (.lst (((qAe k).map (mixC ns)).map .int),8+1),some (.int (k:Int),0),some (.int 0,0),o5]=okR (.nx [some (.scr ns,0),some (.int n,0),some (.lst (((qAe k).map (mixC ns)).map .int),8+1),some (.int (k:Int),0),some (.int (if k<ns.length then ns.getD k 0%1000003 else 0),0),o5]):=by
   by_cases h:k<ns.length
   ·have hi:ixD (.scr ns) (.int (k:Int))=some (.int (ns.getD k 0)):=by
     have:=zUN (ns:=ns) (i:=(k:Int)) (by lia) (by lia)
     rw[qCi]at this
     show(itA ns (k:Int)).map Dt.int=_
     rw[this];rfl
    rw[if_pos h,zJ6,tb1 (b2 rfl (bi1 rfl rfl) (cmi (decide_eq_true (show(k:Int)<ns.length by lia)))),zA0,if_pos rfl];exact ss (b2 (b2 rfl rfl hi) rfl (mdi (by decide) rfl)) (qA4 0)
   ·rw[if_neg h];exact sf (tb1 (b2 rfl (bi1 rfl rfl) (cmi (decide_eq_false (show ¬(k:Int)<ns.length by lia)))))
  refine nsw hif ?_;have e1:mixC ns k=((((if k<ns.length then ns.getD k 0%1000003 else 0)+1)*48271+(k:Int)*k*7919)%1000000007*40692%2147483399)*2147483647+((((if k<ns.length then ns.getD k 0%1000003 else 0)+1)*48271+(k:Int)*k*7919)%1000000007*40692%2147483399*69621+k)%2147483647:=rfl
  generalize(if k<ns.length then ns.getD k 0%1000003 else 0)=c at e1
  have h1:mulD (.int (k:Int)) (.int (k:Int))=some (.int ((k:Int)*k)):=zWI (by lia) (by lia);refine nsw (ss (b2 (b2 (b2 (b2 (b2 (b2 rfl rfl (adi rfl)) rfl (zP5 (by decide) (by decide))) (b2 (b2 rfl rfl h1) rfl (zP5 (by decide) (by decide))) (adi rfl)) rfl (mdi (by decide) rfl)) rfl (zP5 (by decide) (by decide))) rfl (mdi (by decide) rfl)) (qA4 0)) ?_
  generalize((c+1)*48271+(k:Int)*k*7919)%1000000007*40692%2147483399=f at e1
  refine zBY (r:=[some (.scr ns,0),some (.int n,0),some (.lst (((qAe k).map (mixC ns)).map .int++[.int (mixC ns k)]),8+1),some (.int (k:Int),0),some (.int c,0),some (.int f,0)]) ?_ ⟨_,_,_,by rw[qDs,qCh,qCh];rfl⟩;unfold sApp;show zA3 (eB addD (eB mulD (eV 5) (eC (.int 2147483647))) (eB modD (eB addD (eB mulD (eV 5) (eC (.int 69621))) (eV 3)) (eC (.int 2147483647))) [some (.scr ns),some (.int n),some (.lst (((qAe k).map (mixC ns)).map .int)),some (.int (k:Int)),some (.int c),some (.int f)]) _=_;rw[b2 (b2 rfl rfl (zP5 (by decide) (by decide))) (b2 (b2 (b2 rfl rfl (zP5 (by decide) (by decide))) rfl (adi rfl)) rfl (mdi (by decide) rfl)) (adi e1.symm),zA0];exact if_pos ⟨by simp;lia,qAi _,qAi _⟩
 ·obtain⟨o3,o4,o5,rfl⟩:=hr;subst hb;show sRetV 9 2 _=_;simp[mixL]
theorem zQ9{cl:List Int}{j:Nat}{i:Int}(hi:i=(j:Int))(h:j<cl.length):ixD (.lst (cl.map Dt.int)) (.int i)=some (.int (cl.getD j 0)):=by
 rw[zEU];exact zC4 hi (by rw[qAn,qA9 h,qA1,qA9 h];rfl)
theorem zR4(x p:Nat)(ws:List Nat):(ws.take p++[x]++ws.drop p).Perm (x::ws):=by
 rw[qB7];refine(List.perm_middle (l₁:=ws.take p) (l₂:=ws.drop p) (a:=x)).trans ?_;rw[qFa]
noncomputable def ltr(q st i:Nat):Nat:=97+(q+st*i)%26
theorem zPB:∀st,st∈[1,3,5,7,9,11]->∀r,r<26->∀i,i<10->∀j,j<10->(r+st*i)%26=(r+st*j)%26->i=j:=by decide +kernel
theorem zPA{q st n:Nat}(hs:st∈[1,3,5,7,9,11])(hn:n<=10):((qAe n).map (ltr q st)).Nodup:=by
 rw[qEb,qEc];refine qH8 (R:=(·≠·)) (fun{i j} hi hj hne e=>hne ?_) List.nodup_range;have hi':=qC7.mp hi;have hj':=qC7.mp hj;have e':(q+st*i)%26=(q+st*j)%26:=by unfold ltr at e;lia
 exact zPB st hs (q%26) (qFc _ (by decide)) i (by lia) j (by lia) (by rw[qF9,qF9];exact e')
theorem zO9(z:Int)(h0:0<=z)(h6:z<6):∃st:Nat,st∈[1,3,5,7,9,11]/\ixD (.lst [.int 1,.int 3,.int 5,.int 7,.int 9,.int 11]) (.int z)=some (.int (st:Int)):=by
 obtain⟨n,rfl⟩:∃n:Nat,z=(n:Int):=⟨z.toNat,by lia⟩
 have hn:n<6:=by lia
 match n,hn with
 |0,_=>exact⟨1,by simp,by rw[zEU];exact zC4 (j:=0) rfl rfl⟩
 |1,_=>exact⟨3,by simp,by rw[zEU];exact zC4 (j:=1) rfl rfl⟩
 |2,_=>exact⟨5,by simp,by rw[zEU];exact zC4 (j:=2) rfl rfl⟩
 |3,_=>exact⟨7,by simp,by rw[zEU];exact zC4 (j:=3) rfl rfl⟩
 |4,_=>exact⟨9,by simp,by rw[zEU];exact zC4 (j:=4) rfl rfl⟩
 |5,_=>exact⟨11,by simp,by rw[zEU];exact zC4 (j:=5) rfl rfl⟩
theorem zMX(cl:List Int)(h12:12<=cl.length)(hz:cl.length<=1000)(hp:∀c∈cl,0<=c):∃cs ls:List Nat,zCC [.lst (cl.map .int),.int 10]=okR (.str ⟨cs.toArray⟩)/\cs.Perm (ls++ls)/\ls.Nodup/\1<=ls.length/\ls.length<=10/\∀c∈ls,97<=c/\c<123:=by
 have e0:(Str.ofString "")=⟨([]:List Nat).toArray⟩:=zM5 zF8;have hget:∀j,j<cl.length->0<=cl.getD j 0:=fun j hj=>hp _ (by rw[qA1,qA9 hj];simp)
 have g0:=hget 0 (by lia);have c0:=zQ9 (cl:=cl) (j:=0) (i:=0) rfl (by lia);obtain⟨q0,hq0⟩:∃q0:Nat,cl.getD 0 0=(q0:Int):=⟨(cl.getD 0 0).toNat,by lia⟩
 rw[hq0]at c0 g0;obtain⟨n,hn⟩:∃n:Nat,1+(q0:Int)%10=(n:Int):=⟨(1+(q0:Int)%10).toNat,by lia⟩
 have hn1:1<=n:=by lia
 have hn2:n<=10:=by lia
 obtain⟨st,hst,ist⟩:=zO9 ((q0:Int)/512%6) (by lia) (by lia);have hst12:st<12:=by simp at hst;lia
 have key:∃cs:List Nat,zD2 [some (.lst (cl.map .int),0),some (.int 10,0),none,none,none,none,none]=okR (.rt (.str ⟨cs.toArray⟩))/\cs.Perm ((qAe n).map (ltr (q0/16) st)++(qAe n).map (ltr (q0/16) st)):=by
  suffices h:∃r,(nxR ((sForR (iR1 (aCons (eB addD (eC (.int 1)) (eB modD (eB ixD (eV 0) (eC (.int 0))) (eV 1))) aNil)) 4 (sSeq (sSet 5 0 [2,4,0] (eB ixD (eV 2) (eB modD (eB addD (eB divD (eB ixD (eV 0) (eC (.int 0))) (eC (.int 16))) (eB mulD (eB ixD (eLst (aCons (eC (.int 1)) (aCons (eC (.int 3)) (aCons (eC (.int 5)) (aCons (eC (.int 7)) (aCons (eC (.int 9)) (aCons (eC (.int 11)) aNil))))))) (eB modD (eB divD (eB ixD (eV 0) (eC (.int 0))) (eC (.int 512))) (eC (.int 6)))) (eV 4))) (eC (.int 26)))))
 (sFor [0,4,3] (iSq (eTup (aCons (eB modD (eB ixD (eV 0) (eB addD (eC (.int 1)) (eV 4))) (eB addD (eBi lenD (aCons (eV 3) aNil)) (eC (.int 1)))) (aCons (eB modD (eB divD (eB ixD (eV 0) (eB addD (eC (.int 1)) (eV 4))) (eC (.int 32))) (eB addD (eBi lenD (aCons (eV 3) aNil)) (eC (.int 2)))) aNil)))) (.one 6) (sSet 3 1 [5,3,6] (eB addD (eB addD (eSl (eV 3) oNo (oE (eV 6))) (eV 5)) (eSl (eV 3) (oE (eV 6)) oNo)))))) [some (.lst (cl.map .int),0),some (.int 10,0),some (.str "abcdefghijklmnopqrstuvwxyz",0),some (.str ⟨([]:List Nat).toArray⟩,0),none,none,none]) fun r'=>r'=r)/\∃(ws:List Nat)(l3:Nat)(o4 o5 o6:Option Sl),r=[some (.lst (cl.map .int),0),some (.int 10,0),some (.str "abcdefghijklmnopqrstuvwxyz",0),some (.str ⟨ws.toArray⟩,l3),o4,o5,o6]/\l3<=1/\ws.Perm ((qAe n).map (ltr (q0/16) st)++(qAe n).map (ltr (q0/16) st)) by
   obtain⟨r,h1,ws,l3,o4,o5,o6,rfl,hl3,hw⟩:=h;refine⟨ws,?_,hw⟩;unfold zD2;refine zCH fun bb hb=>?_
   refine zBY (r:=[some (.lst (cl.map .int),0),some (.int 10,0),some (.str "abcdefghijklmnopqrstuvwxyz",0),none,none,none,none]) (by simp) ?_;subst hb;refine zCH fun bb hb=>?_
   refine zBY (r:=[some (.lst (cl.map .int),0),some (.int 10,0),some (.str "abcdefghijklmnopqrstuvwxyz",0),some (.str ⟨([]:List Nat).toArray⟩,0),none,none,none]) (by simp[<- e0]) ?_;subst hb;refine zCH fun bb hb=>?_
   obtain⟨r',h2,h3⟩:=zEN h1;rw[h2,h3];subst hb;show sRetV 1 3 _=_;simp;intro _ h
   lia
  have main:nxR ((sForR (iR1 (aCons (eB addD (eC (.int 1)) (eB modD (eB ixD (eV 0) (eC (.int 0))) (eV 1))) aNil)) 4 (sSeq (sSet 5 0 [2,4,0] (eB ixD (eV 2) (eB modD (eB addD (eB divD (eB ixD (eV 0) (eC (.int 0))) (eC (.int 16))) (eB mulD (eB ixD (eLst (aCons (eC (.int 1)) (aCons (eC (.int 3)) (aCons (eC (.int 5)) (aCons (eC (.int 7)) (aCons (eC (.int 9)) (aCons (eC (.int 11)) aNil))))))) (eB modD (eB divD (eB ixD (eV 0) (eC (.int 0))) (eC (.int 512))) (eC (.int 6)))) (eV 4))) (eC (.int 26)))))
 (sFor [0,4,3] (iSq (eTup (aCons (eB modD (eB ixD (eV 0) (eB addD (eC (.int 1)) (eV 4))) (eB addD (eBi lenD (aCons (eV 3) aNil)) (eC (.int 1)))) (aCons (eB modD (eB divD (eB ixD (eV 0) (eB addD (eC (.int 1)) (eV 4))) (eC (.int 32))) (eB addD (eBi lenD (aCons (eV 3) aNil)) (eC (.int 2)))) aNil)))) (.one 6) (sSet 3 1 [5,3,6] (eB addD (eB addD (eSl (eV 3) oNo (oE (eV 6))) (eV 5)) (eSl (eV 3) (oE (eV 6)) oNo)))))) [some (.lst (cl.map .int),0),some (.int 10,0),some (.str "abcdefghijklmnopqrstuvwxyz",0),some (.str ⟨([]:List Nat).toArray⟩,0),none,none,none]) (fun r=>∃(ws:List Nat)(l3:Nat)(o4 o5 o6:Option Sl),r=[some (.lst (cl.map .int),0),some (.int 10,0),some (.str "abcdefghijklmnopqrstuvwxyz",0),some (.str ⟨ws.toArray⟩,l3),o4,o5,o6]/\l3<=1/\ws.Perm ((qAe n).map (ltr (q0/16) st)++(qAe n).map (ltr (q0/16) st))):=by
   rw[zKX,zTF (n:=n) (by
    simp only[zCP,zES,x_eB,x_eV,x_eC,zEE,zFC,qDu,qGj,qCn,qBj,zA0,c0,zA9,zO0,zVE];rw[if_pos (by decide),zA9,zA0,zVE,zA9,zA0,hn]) (by lia),zA0]
   refine zWH (fun k r=>∃(ws:List Nat)(l3:Nat)(o4 o5 o6:Option Sl),r=[some (.lst (cl.map .int),0),some (.int 10,0),some (.str "abcdefghijklmnopqrstuvwxyz",0),some (.str ⟨ws.toArray⟩,l3),o4,o5,o6]/\l3<=1/\ws.Perm ((qAe k).map (ltr (q0/16) st)++(qAe k).map (ltr (q0/16) st))) ⟨[],0,none,none,none,rfl,by lia,by simp⟩ (fun k hk r hr=>?_) fun r h=>h
   obtain⟨ws,l3,o4,o5,o6,rfl,hl3,hw⟩:=hr;have hwl:=hw.length_eq;simp at hwl
   generalize hx:ltr (q0/16) st k=x
   have m1:mulD (.int (st:Int)) (.int (k:Int))=some (.int ((st:Int)*(k:Int))):=zWI (by lia) (by lia);have ilt:ixD (.str "abcdefghijklmnopqrstuvwxyz") (.int (((q0:Int)/16+(st:Int)*(k:Int))%26))=some (sgn x):=by
    have:((q0:Int)/16+(st:Int)*(k:Int))%26=(((q0/16+st*k)%26:Nat):Int):=by
     push_cast
     rfl
    rw[this,zRJ (qFc _ (by decide)),<- hx];rfl
   refine zVO fun bb hb=>?_
   refine zBY (r:=[some (.lst (cl.map .int),0),some (.int 10,0),some (.str "abcdefghijklmnopqrstuvwxyz",0),some (.str ⟨ws.toArray⟩,l3),some (.int (k:Nat),0),some (sgn x,0),o6]) (by
    generalize cl.map Dt.int=ds at c0 ⊢
    simp[c0,ist,m1,ilt,-zEU,-zTI,-zVD]) ?_
   subst hb;have ck:=zQ9 (cl:=cl) (j:=1+k) (i:=1+(k:Int)) (by lia) (by lia);have gk:=hget (1+k) (by lia);obtain⟨qk,hqk⟩:∃qk:Nat,cl.getD (1+k) 0=(qk:Int):=⟨(cl.getD (1+k) 0).toNat,by lia⟩
   rw[hqk]at ck gk;have hlen:=zFY (cs:=ws) (by lia);obtain⟨p1,hp1⟩:∃p1:Nat,(qk:Int)%((ws.length:Int)+1)=(p1:Int):=⟨((qk:Int)%((ws.length:Int)+1)).toNat,by have:=qCc (qk:Int) (show(ws.length:Int)+1≠0 by lia);lia⟩
   obtain⟨p2,hp2⟩:∃p2:Nat,(qk:Int)/32%((ws.length:Int)+2)=(p2:Int):=⟨((qk:Int)/32%((ws.length:Int)+2)).toNat,by have:=qCc ((qk:Int)/32) (show(ws.length:Int)+2≠0 by lia);lia⟩
   rw[zHD];have hit:iSq (eTup (aCons (eB modD (eB ixD (eV 0) (eB addD (eC (.int 1)) (eV 4))) (eB addD (eBi lenD (aCons (eV 3) aNil)) (eC (.int 1)))) (aCons (eB modD (eB divD (eB ixD (eV 0) (eB addD (eC (.int 1)) (eV 4))) (eC (.int 32))) (eB addD (eBi lenD (aCons (eV 3) aNil)) (eC (.int 2)))) aNil))) (frz (frzAt [0,4,3] [some (.lst (cl.map .int),0),some (.int 10,0),some (.str "abcdefghijklmnopqrstuvwxyz",0),some (.str ⟨ws.toArray⟩,l3),some (.int (k:Nat),0),some (sgn x,0),o6]))=okR ([p1,p2].map fun p:Nat=>Dt.int (p:Int)):=by
    have d1:modD (.int (qk:Int)) (.int ((ws.length:Int)+1))=some (.int (p1:Int)):=by rw[zO0,if_pos (by lia),hp1]
    have d2:modD (.int ((qk:Int)/32)) (.int ((ws.length:Int)+2))=some (.int (p2:Int)):=by rw[zO0,if_pos (by lia),hp2]
    generalize cl.map Dt.int=ds at ck ⊢
    simp[ck,hlen,d1,d2,-zEU,-zO0]
   rw[hit,zA0];refine zFM (fun p:Nat=>Dt.int (p:Int)) [p1,p2] (fun j r=>∃(us:List Nat)(l3:Nat)(o6:Option Sl),r=[some (.lst (cl.map .int),0),some (.int 10,0),some (.str "abcdefghijklmnopqrstuvwxyz",0),some (.str ⟨us.toArray⟩,l3),some (.int (k:Nat),0),some (sgn x,0),o6]/\l3<=1/\us.Perm (qAm j x++ws)) ⟨ws,0,o6,by simp,by lia,by simp⟩ (fun j p hpj r hr=>?_) fun r hr=>?_
   ·obtain⟨us,l,o,rfl,hl,hu⟩:=hr;have hj:j<2:=by have:=(qA3.mp hpj).1;simpa using this
    have hul:=hu.length_eq;simp at hul;have s1:=zCD (a:=us) none (some (p:Int)) (by lia);have s2:=zCD (a:=us) (some (p:Int)) none (by lia);rw[zHY]at s1;rw[zE0]at s2;have a1:addD (.str ⟨(us.take p).toArray⟩) (sgn x)=some (.str ⟨(us.take p++[x]).toArray⟩):=add_str (b:=[x]) (by simp;lia);have a2:=add_str (a:=us.take p++[x]) (b:=us.drop p) (by simp;lia);refine zBY (r:=[some (.lst (cl.map .int),0),some (.int 10,0),some (.str "abcdefghijklmnopqrstuvwxyz",0),some (.str ⟨(us.take p++[x]++us.drop p).toArray⟩,1),some (.int (k:Nat),0),some (sgn x,0),some (.int (p:Int),0)]) ?_ ⟨_,_,_,rfl,by lia,?_⟩
    ·generalize cl.map Dt.int=ds
     simp only[List.set_cons_succ,List.set_cons_zero,zJ5,zEE,zFC,qDu,x_eB,x_eV,zQJ,x_oE,zTE,qBj,qCn,zA0,s1,s2,a1,a2,zA9];rfl
    ·exact(zR4 x p us).trans ((hu.cons x).trans (by rw[List.replicate_succ,qBa]))
   ·obtain⟨us,l,o,rfl,hl,hu⟩:=hr;refine⟨us,l,_,_,o,rfl,hl,hu.trans ?_⟩;rw[qDs,qCh];simp only[qAu,qG4,hx]
    generalize(qAe k).map (ltr (q0/16) st)=A at hw ⊢
    refine(qF5 _ hw).trans ?_
    show([x,x]++(A++A)).Perm _
    refine qDy.mpr fun a=>?_
    simp only[qAs,qDt,List.count_nil]
    lia
  obtain⟨r',h1,h2⟩:=zEN main;refine⟨r',?_,h2⟩;rw[h1];rfl
 obtain⟨cs,k1,k2⟩:=key;refine⟨cs,(qAe n).map (ltr (q0/16) st),zB6 rfl k1,k2,zPA hst hn2,by simpa using hn1,by simpa using hn2,fun c hc=>?_⟩;obtain⟨i,_,rfl⟩:=qC8.mp hc;unfold ltr
 lia
@[simp] theorem zKY(c:Str)(ρ:Rh):eNew0 c ρ=okR (.ins c []):=rfl
@[simp] theorem zNV(c:Str)(fl:List Str)(am:AM)(ρ:Rh):eNew c fl am ρ=zA3 (am ρ) fun ds=>match svsD ds with
 |some vs=>if vs.length=fl.length then okR (.ins c (fl.zip vs))else none
 |none=>none:=rfl
@[simp] theorem zVB(hs:List Str)(f:Str)(e:EM)(ρ:Rh):eFld hs f e ρ=zA3 (e ρ) fun d=>match d with
 |.ins c fs=>if c∈hs then(match fs.lookup f with|some v=>okR (dSv v)|none=>none)else none
 |_=>none:=rfl
@[simp] theorem zNW(tb:List (Str×FM))(m:Str)(e:EM)(am:AM)(ρ:Rh):eMeth tb m e am ρ=zA3 (e ρ) fun d=>match d with
 |.ins c fs=>match tb.lookup c with
  |some g=>match fs.lookup m with
   |none=>zA3 (am ρ) fun ds=>g (d::ds)
   |some _=>none
  |none=>none
 |_=>none:=rfl
@[simp] theorem x_eIsO(ys ns:List Str)(e:EM)(ρ:Rh):eIsO ys ns e ρ=zA3 (e ρ) fun d=>match d with
 |.ins c _=>if c∈ys then okR (.bl true)else if c∈ns then okR (.bl false)else none
 |_=>none:=rfl
@[simp] theorem v_dins(c:Str)(fs:List (Str×Sv)):(Dt.ins c fs).dep=1000:=rfl
noncomputable def zUS(o:Option Sl):Option Dt:=match o with
 |some (d,n)=>if n=0\/d.dep=0 then some d else none
 |none=>none
theorem zKC(o:Option Sl)(r:Ro):frz (o::r)=zUS o::frz r:=by
 cases o with
 |none=>rfl
 |some p=>rfl
theorem zL8(cs:List Nat)(hz:cs.length<=100)(hp:0<cs.length)(b:Int):zF4 [.str ⟨cs.toArray⟩,.int b]=okR (.str ⟨(sh (b%(cs.length:Int)).toNat cs).toArray⟩):=by
 have h0:=qCc b (show(cs.length:Int)≠0 by lia);have h1:=qCv b (show(0:Int)<cs.length by lia);obtain⟨s,hs⟩:∃s:Nat,b%(cs.length:Int)=(s:Int):=⟨(b%(cs.length:Int)).toNat,by lia⟩
 rw[hs];have key:zGY [some (.str ⟨cs.toArray⟩,0),some (.int b,0),none]=okR (.rt (.str ⟨(sh s cs).toArray⟩)):=by
  unfold zGY;have d1:modD (.int b) (.int (cs.length:Int))=some (.int (s:Int)):=by rw[zO0,if_pos (by lia),hs]
  have s1:=zCD (a:=cs) none (some (s:Int)) (by lia);have s2:=zCD (a:=cs) (some (s:Int)) none (by lia);rw[zHY]at s1;rw[zE0]at s2;have a2:=add_str (a:=cs.drop s) (b:=cs.take s) (by simp;lia);have hl:=zFY (cs:=cs) (by lia);refine zCH fun bb hb=>?_
  simp only[zJ5,zEE,zFC,qDu,qGj,x_eB,x_eV,zTG,zCP,zES,qBj,qCn,zA0,hl,zA9,d1];simp;subst hb;simp[s1,s2,a2,-zNZ,-zJ9];rfl
 exact zB6 rfl key
theorem zGH(cs:List Nat)(hz:cs.length<=100)(d:Dt):zAW [d,.str ⟨cs.toArray⟩]=okR (.str ⟨cs.reverse.toArray⟩):=by
 have h:=zOL cs (by lia);have key:zDH [some (d,0),some (.str ⟨cs.toArray⟩,0)]=okR (.rt (.str ⟨cs.reverse.toArray⟩)):=by
  unfold zDH;simp[h]
 exact zB6 rfl key
theorem zHG(cs:List Nat)(hz:cs.length<=100)(hp:0<cs.length)(b:Int):zB0 [.ins "Shift" [("by",.i b)],.str ⟨cs.toArray⟩]=okR (.str ⟨(sh (b%(cs.length:Int)).toNat cs).toArray⟩):=by
 have h:=zL8 cs hz hp b;have lk:qB6 ("by":Str) [(("by":Str),Sv.i b)]=some (Sv.i b):=by simp[qB6]
 have key:zDV [some (.ins "Shift" [("by",.i b)],0),some (.str ⟨cs.toArray⟩,0)]=okR (.rt (.str ⟨(sh (b%(cs.length:Int)).toNat cs).toArray⟩)):=by
  unfold zDV;simp[h,dSv]
 exact zB6 rfl key
theorem zC5{cs:List Nat}{x:Nat}(h:cs.count x=2):∃A B C:List Nat,cs=A++x::(B++x::C)/\x∉A/\x∉B/\x∉C:=by
 have h1:x∈cs:=qE1.mp (by lia);obtain⟨A,R,rfl,hA⟩:=qD5 h1;rw[qAs,qAl.mpr hA,qBd]at h;have h2:x∈R:=qE1.mp (by lia);obtain⟨B,C,rfl,hB⟩:=qD5 h2;rw[qAs,qAl.mpr hB,qBd]at h;exact⟨A,B,C,rfl,hA,hB,qAl.mp (by lia)⟩
theorem zMQ{A R:List Nat}{x:Nat}(h:x∉A):(A++x::R).idxOf x=A.length:=by
 rw[List.idxOf_append,if_neg h,List.idxOf_cons_self]
 lia
theorem zQX{A B C:List Nat}{x:Nat}(hC:x∉C):rfindD (.str ⟨(A++x::(B++x::C)).toArray⟩) [sgn x]=some (.int ((A.length+1+B.length:Nat):Int)):=by
 have hr:(A++x::(B++x::C)).reverse=C.reverse++x::(B.reverse++x::A.reverse):=by simp
 have hp:posC x (A++x::(B++x::C)).reverse=some C.length:=by
  rw[hr,zIF (by simp),zMQ (by simpa using hC),List.length_reverse]
 show some (Dt.int (match lastC x (A++x::(B++x::C))with|some i=>(i:Int)|none=>-1))=_;unfold lastC;rw[hp];show some (Dt.int (((A++x::(B++x::C)).length-1-C.length:Nat):Int))=_
 congr 3
 simp
 lia
theorem zUU{A R:List Nat}{x:Nat}(h:x∉A):findD (.str ⟨(A++x::R).toArray⟩) [sgn x]=some (.int (A.length:Int)):=by
 rw[zRY (by simp),zMQ h]
theorem zGV{α:Type}(xs:List α){i j:Nat}(hi:i<=xs.length)(hj:j<=xs.length):cutA xs (some (i:Int)) (some (j:Int))=(xs.drop i).take (j-i):=by
 unfold cutA cutIx;dsimp only;rw[if_neg (by lia),if_neg (by lia)];simp only[qCi];rw[qGk hi,qGk hj]
theorem len1(x:Nat):lenD [sgn x]=some (.int 1):=zFY (cs:=[x]) (by simp)
theorem zX0(x:Nat)(cs:List Nat):inD true (sgn x) (.str ⟨cs.toArray⟩)=some (.bl (!decide (x∈cs))):=rfl
theorem zRX{A R:List Nat}{x:Nat}(h:x∉A):zCK [.str ⟨(A++x::R).toArray⟩,sgn x]=okR (.int (A.length:Int)):=by
 have key:zDF [some (.str ⟨(A++x::R).toArray⟩,0),some (sgn x,0)]=okR (.rt (.int (A.length:Int))):=by
  have f:=zUU (R:=R) h;have i:=zX0 x (A++x::R);rw[show(!decide (x∈A++x::R))=false by simp]at i;have l:=len1 x
  generalize(A++x::R)=cs at f i
  unfold zDF;refine zCH fun bb hb=>?_
  refine zBY (r:=[some (.str ⟨cs.toArray⟩,0),some (sgn x,0)]) (by simp[i,l]) ?_;subst hb;simp[f]
 exact zB6 rfl key
theorem zF1{A B C:List Nat}{x:Nat}(hA:x∉A)(hC:x∉C):zAS [.str ⟨(A++x::(B++x::C)).toArray⟩,sgn x]=okR (.tup [.int (A.length:Int),.int ((A.length+1+B.length:Nat):Int)]):=by
 have key:zEP [some (.str ⟨(A++x::(B++x::C)).toArray⟩,0),some (sgn x,0)]=okR (.rt (.tup [.int (A.length:Int),.int ((A.length+1+B.length:Nat):Int)])):=by
  have f:=zRX (R:=B++x::C) hA;have r:=zQX (A:=A) (B:=B) hC
  generalize(A++x::(B++x::C))=cs at f r
  generalize((A.length+1+B.length:Nat):Int)=b at r ⊢
  unfold zEP;simp[f,r]
 exact zB6 rfl key
noncomputable def trn(A B C:List Nat)(x:Nat):List Nat:=A++x::(B.reverse++x::C)
theorem cuts{A B C:List Nat}{x:Nat}:(A++x::(B++x::C)).take (A.length+1)=A++[x]/\((A++x::(B++x::C)).drop (A.length+1)).take B.length=B/\(A++x::(B++x::C)).drop (A.length+1+B.length)=x::C:=by
 have e:A++x::(B++x::C)=(A++[x])++(B++x::C):=by simp
 have l:(A++[x]).length=A.length+1:=by simp
 refine⟨?_,?_,?_⟩
 ·rw[e,<- l,qDd];rfl
 ·rw[e,<- l,qD0,qDd]
  ·rfl
  ·rfl
 ·rw[<- List.drop_drop,e,<- l,qD0,qD0]
  ·rfl
  ·rfl
theorem zPZ{A B C:List Nat}{x:Nat}(hz:(A++x::(B++x::C)).length<=100)(hA:x∉A)(hC:x∉C):zBA [.ins "Turn" [("letter",.s ⟨#[x]⟩)],.str ⟨(A++x::(B++x::C)).toArray⟩]=okR (.str ⟨(trn A B C x).toArray⟩):=by
 have key:zEQ [some (.ins "Turn" [("letter",.s ⟨#[x]⟩)],0),some (.str ⟨(A++x::(B++x::C)).toArray⟩,0),none,none]=okR (.rt (.str ⟨(trn A B C x).toArray⟩)):=by
  have p:=zF1 (B:=B) hA hC;obtain⟨c1,c2,c3⟩:=cuts (A:=A) (B:=B) (C:=C) (x:=x);have hl:(A++x::(B++x::C)).length=A.length+1+B.length+1+C.length:=by simp;lia
  have s1:=zCD (a:=A++x::(B++x::C)) none (some ((A.length:Int)+1)) (by lia);rw[show((A.length:Int)+1)=((A.length+1:Nat):Int) by lia,zHY,c1]at s1;have s2:=zCD (a:=A++x::(B++x::C)) (some ((A.length+1:Nat):Int)) (some ((A.length+1+B.length:Nat):Int)) (by lia);rw[zGV _ (by lia) (by lia),show A.length+1+B.length-(A.length+1)=B.length by lia,c2]at s2;have s3:=zCD (a:=A++x::(B++x::C)) (some ((A.length+1+B.length:Nat):Int)) none (by lia);rw[zE0,c3]at s3;have r:=zOL B (by lia);have a1:=add_str (a:=A++[x]) (b:=B.reverse) (by simp;lia);have a2:=add_str (a:=A++[x]++B.reverse) (b:=x::C) (by simp;lia);rw[show A++[x]++B.reverse++x::C=trn A B C x by simp[trn]]at a2;have lk:qB6 ("letter":Str) [(("letter":Str),Sv.s ⟨#[x]⟩)]=some (Sv.s ⟨#[x]⟩):=by simp[qB6]
  have ds:dSv (Sv.s ⟨#[x]⟩)=sgn x:=rfl;have e1:((A.length:Int)+1)=((A.length+1:Nat):Int):=by lia
  generalize((A.length+1+B.length:Nat):Int)=b at p s2 s3
  generalize A++x::(B++x::C)=cs at p s1 s2 s3
  unfold zEQ;refine zCH fun bb hb=>?_
  refine zBY (r:=[some (.ins "Turn" [("letter",.s ⟨#[x]⟩)],0),some (.str ⟨cs.toArray⟩,0),some (.tup [.int (A.length:Int),.int b],1),none]) (by
   simp[lk,ds,p]) ?_
  subst hb;refine zCH fun bb hb=>?_
  have i0:ixD (.tup [.int (A.length:Int),.int b]) (.int 0)=some (.int (A.length:Int)):=by rw[zL0];exact zC4 (j:=0) rfl rfl
  have i1:ixD (.tup [.int (A.length:Int),.int b]) (.int 1)=some (.int b):=by rw[zL0];exact zC4 (j:=1) rfl rfl
  refine zBY (r:=[some (.ins "Turn" [("letter",.s ⟨#[x]⟩)],0),some (.str ⟨cs.toArray⟩,0),some (.tup [.int (A.length:Int),.int b],1),some (.int ((A.length+1:Nat):Int),1)]) (by
   rw[<- e1];simp[i0,-zL0]) ?_
  subst hb
  generalize((A.length+1:Nat):Int)=a at s1 s2 ⊢
  generalize Dt.tup [Dt.int (A.length:Int),Dt.int b]=tp at i0 i1 ⊢
  generalize A++[x]++B.reverse=AB at a1 a2
  generalize A++[x]=A1 at s1 a1
  simp[s1,s2,s3,i1,r,a1,a2,-zNZ,-zJ9,-zL0]
 exact zB6 rfl key
theorem zSY(c x:Nat):eqD (sgn c) (sgn x)=some (.bl (decide (c=x))):=by
 show(if(sgn c).dep<=40/\(sgn x).dep<=40 then some (Dt.bl (Dt.eq (sgn c) (sgn x)))else none)=_
 rw[if_pos ⟨qAi _,qAi _⟩]
 congr 2
 show((⟨#[c]⟩:Str)==⟨#[x]⟩)=decide (c=x)
 by_cases h:c=x
 ·subst h;simp
 ·rw[decide_eq_false h,beq_eq_false_iff_ne];intro z
  have:[c]=[x]:=congrArg (fun s:Str=>s.cps.toList) z
  simp at this;exact h this
theorem zMS{a b:Nat}(hab:a<b):∀n,(qAe n).filter (fun k=>decide (k=a\/k=b))=if n<=a then[]else if n<=b then[a]else[a,b]
 |0=>by simp
 |n+1=>by
  rw[qDs,qFq,zMS hab n]
  by_cases h1:n=a
  ·subst h1;rw[if_pos (qA4 _),if_neg (by lia),if_pos (by lia)];simp
  ·by_cases h2:n=b
   ·subst h2;rw[if_neg (by lia),if_pos (qA4 _),if_neg (by lia),if_neg (by lia)];simp
   ·rw[qEl (by simp[h1,h2]),List.filter_nil,qBw]
    by_cases h3:n<=a
    ·rw[if_pos h3,if_pos (by lia)]
    ·by_cases h4:n<=b
     ·rw[if_neg h3,if_pos h4,if_neg (show ¬n+1<=a by lia),if_pos (show n+1<=b by lia)]
     ·rw[if_neg h3,if_neg h4,if_neg (show ¬n+1<=a by lia),if_neg (show ¬n+1<=b by lia)]
theorem zPQ{A B C:List Nat}{x:Nat}(hA:x∉A)(hB:x∉B)(hC:x∉C){k:Nat}(hk:k<(A++x::(B++x::C)).length):(A++x::(B++x::C)).getD k 0=x↔k=A.length\/k=A.length+1+B.length:=by
 have gm:∀{l:List Nat}{j:Nat},j<l.length->l.getD j 0∈l:=fun{l j} h=>by rw[qA1,qA9 h];simp
 simp only[qB2,qAp]at hk;rw[qA1]
 by_cases h1:k<A.length
 ·rw[qAa h1,<- qA1];exact⟨fun e=>absurd (e▸gm h1) hA,fun h=>by lia⟩
 ·rw[qA8 (by lia)]
  by_cases h2:k=A.length
  ·subst h2;simp
  ·obtain⟨j,hj⟩:∃j,k-A.length=j+1:=⟨k-A.length-1,by lia⟩
   rw[hj,qBj]
   by_cases h3:j<B.length
   ·rw[qAa h3,<- qA1];exact⟨fun e=>absurd (e▸gm h3) hB,fun h=>by lia⟩
   ·rw[qA8 (by lia)]
    by_cases h4:j=B.length
    ·subst h4;simp;lia
    ·obtain⟨i,hi⟩:∃i,j-B.length=i+1:=⟨j-B.length-1,by lia⟩
     rw[hi,qBj,<- qA1];exact⟨fun e=>absurd (e▸gm (show i<C.length by lia)) hC,fun h=>by lia⟩
theorem zM7{A B C:List Nat}{x:Nat}(hz:(A++x::(B++x::C)).length<=100)(hA:x∉A)(hB:x∉B)(hC:x∉C):zBL [.str ⟨(A++x::(B++x::C)).toArray⟩,sgn x]=okR (.lst [.int (A.length:Int),.int ((A.length+1+B.length:Nat):Int)]):=by
 have hl:(A++x::(B++x::C)).length=A.length+1+B.length+1+C.length:=by simp;lia
 have hw:=@zPQ A B C x hA hB hC;have hf:=zMS (a:=A.length) (b:=A.length+1+B.length) (by lia) (A++x::(B++x::C)).length;rw[if_neg (by lia),if_neg (by lia)]at hf
 generalize A++x::(B++x::C)=cs at *
 generalize A.length+1+B.length=b at *
 generalize A.length=a at *
 have hc:eComp (iEnX (aCons (eV 0) aNil)) 2 (.tup [2,3]) (tB (eB eqD (eV 3) (eV 1))) (eV 2) [some (.str ⟨cs.toArray⟩),some (sgn x)]=okR (.lst [.int (a:Int),.int (b:Int)]):=by
  rw[zGW (ρ:=[some (.str ⟨cs.toArray⟩),some (sgn x)]) (c:=tB (eB eqD (eV 3) (eV 1))) (e:=eV 2) (i:=2) (j:=3) (cs.map sgn) (fun k=>.int (k:Int)) (fun k=>decide (k=a\/k=b)) rfl rfl (iEnX (aCons (eV 0) aNil)) (by simp[iEnX];rfl) (by simp;lia) (fun k y hy=>?_) (fun k y hy=>?_)]
  ·rw[qAq,hf];rfl
  ·have hk:k<cs.length:=by have:=(qA3.mp hy).1;simpa using this
   have hy':y=sgn (cs.getD k 0):=by
    rw[qAn,qA9 hk]at hy;cases hy;simp[qA1,qA9 hk]
   subst hy';have he:=zSY (cs.getD k 0) x;have hd:decide (cs.getD k 0=x)=decide (k=a\/k=b):=decide_eq_decide.mpr (hw hk);rw[hd]at he
   generalize cs.getD k 0=z at he
   show tB (eB eqD (eV 3) (eV 1)) [some (.str ⟨cs.toArray⟩),some (sgn x),some (.int (k:Nat)),some (sgn z)]=_;simp only[x_tB,x_eB,x_eV,qCn,qBj,zA0,he,zA9]
  ·show eV 2 [some (.str ⟨cs.toArray⟩),some (sgn x),some (.int (k:Nat)),some y]=_;rfl
 have key:zDU [some (.str ⟨cs.toArray⟩,0),some (sgn x,0)]=okR (.rt (.lst [.int (a:Int),.int (b:Int)])):=by
  unfold zDU;simp[hc]
 exact zB6 rfl key
theorem zO2{A B C:List Nat}{x:Nat}(hz:(A++x::(B++x::C)).length<=100)(hA:x∉A)(hB:x∉B)(hC:x∉C):zBO [.str ⟨(A++x::(B++x::C)).toArray⟩,sgn x]=okR (.str ⟨(trn A B C x).toArray⟩):=by
 have sp:=zM7 hz hA hB hC;obtain⟨c1,c2,c3⟩:=cuts (A:=A) (B:=B) (C:=C) (x:=x);have hl:(A++x::(B++x::C)).length=A.length+1+B.length+1+C.length:=by simp;lia
 have e1:((A.length:Int)+1)=((A.length+1:Nat):Int):=by lia
 have s1:=zCD (a:=A++x::(B++x::C)) none (some ((A.length:Int)+1)) (by lia);rw[e1,zHY,c1]at s1;have s2:=zCD (a:=A++x::(B++x::C)) (some ((A.length+1:Nat):Int)) (some ((A.length+1+B.length:Nat):Int)) (by lia);rw[zGV _ (by lia) (by lia),show A.length+1+B.length-(A.length+1)=B.length by lia,c2]at s2;have s3:=zCD (a:=A++x::(B++x::C)) (some ((A.length+1+B.length:Nat):Int)) none (by lia);rw[zE0,c3]at s3;rw[<- e1]at s1 s2;have a1:=add_str (a:=A++[x]) (b:=B.reverse) (by simp;lia);have a2:=add_str (a:=A++[x]++B.reverse) (b:=x::C) (by simp;lia);rw[show A++[x]++B.reverse++x::C=trn A B C x by simp[trn]]at a2
 generalize A++[x]++B.reverse=AB at a1 a2
 generalize A++[x]=A1 at s1 a1
 generalize trn A B C x=due at *
 have hB100:B.length<=100:=by lia
 generalize((A.length+1+B.length:Nat):Int)=b at *
 generalize(A.length:Int)=a at *
 generalize A++x::(B++x::C)=cs at *
 have e0:(Str.ofString "")=⟨([]:List Nat).toArray⟩:=zM5 zF8;have key:zDG [some (.str ⟨cs.toArray⟩,0),some (sgn x,0),none,none,none,none]=okR (.rt (.str ⟨due.toArray⟩)):=by
  unfold zDG;refine zCH fun bb hb=>?_
  refine zBY (r:=[some (.str ⟨cs.toArray⟩,0),some (sgn x,0),some (.int a,0),some (.int b,0),none,none]) (by
   unfold sUnpL;simp[sp,zAT,zB1]) ?_
  subst hb;refine zCH fun bb hb=>?_
  refine zBY (r:=[some (.str ⟨cs.toArray⟩,0),some (sgn x,0),some (.int a,0),some (.int b,0),some (.str ⟨([]:List Nat).toArray⟩,0),none]) (by simp[<- e0]) ?_;subst hb;refine zCH fun bb hb=>?_
  rw[zHD];have hit:iSq (eSl (eV 0) (oE (eB addD (eV 2) (eC (.int 1)))) (oE (eV 3))) (frz (frzAt [0,3,2] [some (.str ⟨cs.toArray⟩,0),some (sgn x,0),some (.int a,0),some (.int b,0),some (.str ⟨([]:List Nat).toArray⟩,0),none]))=okR (B.map sgn):=by
   simp[s2,-zNZ];rfl
  rw[hit,zA0];refine zFM sgn B (fun k r=>∃l4 o5,l4<=1/\r=[some (.str ⟨cs.toArray⟩,0),some (sgn x,0),some (.int a,0),some (.int b,0),some (.str ⟨(B.take k).reverse.toArray⟩,l4),o5]) ⟨0,none,by lia,by simp⟩ (fun k y hy r hr=>?_) fun r hr=>?_
  ·obtain⟨l4,o5,_,rfl⟩:=hr;have hk:k<B.length:=(qA3.mp hy).1;have aa:addD (sgn y) (.str ⟨(B.take k).reverse.toArray⟩)=some (.str ⟨(B.take (k+1)).reverse.toArray⟩):=by
    rw[show B.take (k+1)=B.take k++[y] by rw[qFx,hy];rfl,qFj];exact add_str (a:=[y]) (by simp;lia)
   exact zBY (r:=[some (.str ⟨cs.toArray⟩,0),some (sgn x,0),some (.int a,0),some (.int b,0),some (.str ⟨(B.take (k+1)).reverse.toArray⟩,1),some (sgn y,0)]) (by simp[aa,-zJ9]) ⟨_,_,by lia,rfl⟩
  ·obtain⟨l4,o5,_,rfl⟩:=hr;rw[qEs];subst hb;simp[s1,s3,a1,a2,-zNZ,-zJ9]
 exact zB6 rfl key
theorem zQ7{ls cs:List Nat}(hp:cs.Perm (ls++ls))(hn:ls.Nodup){x:Nat}(hx:x∈cs):cs.count x=2:=by
 have hl:x∈ls:=by have:=hp.mem_iff.mp hx;simpa using this
 rw[hp.count_eq,qAs,qHm hn,if_pos hl]
noncomputable def btw(cs:List Nat)(x:Nat):List Nat:=(cs.drop (cs.idxOf x+1)).take ((cs.drop (cs.idxOf x+1)).idxOf x)
theorem zKL{A B C:List Nat}{x:Nat}(hA:x∉A)(hB:x∉B):btw (A++x::(B++x::C)) x=B:=by
 unfold btw;have e:A++x::(B++x::C)=(A++[x])++(B++x::C):=by simp
 have l:(A++[x]).length=A.length+1:=by simp
 rw[zMQ hA,<- l,e,qD0,zMQ hB,qDd]
 ·rfl
 ·rfl
theorem zKE(cs:List Nat)(y:Nat):countD (.str ⟨cs.toArray⟩) [sgn y]=some (.int (cs.count y:Nat)):=rfl
theorem zLJ{cs:List Nat}{x y:Nat}(hz:cs.length<=100)(hx:cs.count x=2):zDY [.str ⟨cs.toArray⟩,sgn x,sgn y]=okR (.bl (decide ((btw cs x).count y=1))):=by
 obtain⟨A,B,C,rfl,hA,hB,hC⟩:=zC5 hx;rw[zKL hA hB];have p:=zF1 (B:=B) hA hC;obtain⟨c1,c2,c3⟩:=cuts (A:=A) (B:=B) (C:=C) (x:=x);have hl:(A++x::(B++x::C)).length=A.length+1+B.length+1+C.length:=by simp;lia
 have e1:((A.length:Int)+1)=((A.length+1:Nat):Int):=by lia
 have s2:=zCD (a:=A++x::(B++x::C)) (some ((A.length+1:Nat):Int)) (some ((A.length+1+B.length:Nat):Int)) (by lia);rw[zGV _ (by lia) (by lia),show A.length+1+B.length-(A.length+1)=B.length by lia,c2,<- e1]at s2;have cn:=zKE B y
 generalize((A.length+1+B.length:Nat):Int)=b at *
 generalize(A.length:Int)=a at *
 generalize A++x::(B++x::C)=cs at *
 have i0:ixD (.tup [.int a,.int b]) (.int 0)=some (.int a):=by rw[zL0];exact zC4 (j:=0) rfl rfl
 have i1:ixD (.tup [.int a,.int b]) (.int 1)=some (.int b):=by rw[zL0];exact zC4 (j:=1) rfl rfl
 have hd:(decide ((B.count y:Int)=1))=decide (B.count y=1):=decide_eq_decide.mpr (by lia);have key:zFR [some (.str ⟨cs.toArray⟩,0),some (sgn x,0),some (sgn y,0),none]=okR (.rt (.bl (decide (B.count y=1)))):=by
  unfold zFR;refine zCH fun bb hb=>?_
  refine zBY (r:=[some (.str ⟨cs.toArray⟩,0),some (sgn x,0),some (sgn y,0),some (.tup [.int a,.int b],1)]) (by simp[p]) ?_;subst hb;simp[zKC,zUS,i0,i1,s2,cn,-zNZ,-zL0]
  lia
 exact zB6 rfl key
noncomputable def idxs(p:Nat->Bool)(l:List Nat):List Nat:=(qAe l.length).filter fun k=>p (l.getD k 0)
theorem zPN{p:Nat->Bool}{l:List Nat}(h:∀x∈l,p x=false):idxs p l=[]:=by
 unfold idxs;rw[qEy];intro k hk;have hk':=qC7.mp hk;rw[h _ (by rw[qA1,qA9 hk'];simp)];simp
theorem zFZ{p:Nat->Bool}{P R:List Nat}{a:Nat}(hP:∀x∈P,p x=false)(ha:p a=true):idxs p (P++a::R)=P.length::(idxs p R).map (·+(P.length+1)):=by
 unfold idxs;have e:qAe (P++a::R).length=qAe P.length++P.length::(qAe R.length).map (·+(P.length+1)):=by
  apply qDl
  ·simp
  ·intro i h1 h2;rw[qCe]
   by_cases h3:i<P.length
   ·rw[List.getElem_append_left (by simpa using h3),qCe]
   ·rw[List.getElem_append_right (by simpa using h3)];simp only[qG1];obtain⟨j,hj⟩:∃j,i=P.length+j:=⟨i-P.length,by lia⟩
    subst hj;simp only[Nat.add_sub_cancel_left];cases j with
    |zero=>rfl
    |succ j=>
     rw[qDf,List.getElem_map,qCe]
     lia
 rw[e,qFq];have f1:(qAe P.length).filter (fun k=>p ((P++a::R).getD k 0))=[]:=by
  rw[qEy];intro k hk;have hk':=qC7.mp hk;rw[qA1,qAa hk',qA9 hk'];simp[hP]
 rw[f1,qFb,qEk (by rw[qA1,qA8 (qA4 _)];simpa using ha),List.filter_map]
 congr 2
 refine List.filter_congr fun k _=>?_
 show p ((P++a::R).getD (k+(P.length+1)) 0)=p (R.getD k 0);rw[qA1,qA8 (by lia),show k+(P.length+1)-P.length=k+1 by lia,qBj,<- qA1]
noncomputable def fv(P0 P1 P2 P3 P4:List Nat)(a b c d:Nat):List Nat:=P0++a::(P1++b::(P2++c::(P3++d::P4)))
theorem zSV(P0 P1 P2 P3 P4:List Nat)(a b c d:Nat):(fv P0 P1 P2 P3 P4 a b c d).length=P0.length+P1.length+P2.length+P3.length+P4.length+4:=by
 unfold fv;simp
 lia
section
variable{P0 P1 P2 P3 P4:List Nat}{a b c d x y:Nat}
noncomputable def q0(P0:List Nat):Nat:=P0.length
noncomputable def q1(P0 P1:List Nat):Nat:=P0.length+1+P1.length
noncomputable def q2(P0 P1 P2:List Nat):Nat:=P0.length+1+P1.length+1+P2.length
noncomputable def q3(P0 P1 P2 P3:List Nat):Nat:=P0.length+1+P1.length+1+P2.length+1+P3.length
theorem zUR{p:Nat->Bool}(h0:∀x∈P0,p x=false)(h1:∀x∈P1,p x=false)(h2:∀x∈P2,p x=false)(h3:∀x∈P3,p x=false)(h4:∀x∈P4,p x=false)(ha:p a=true)(hb:p b=true)(hc:p c=true)(hd:p d=true):idxs p (fv P0 P1 P2 P3 P4 a b c d)=[q0 P0,q1 P0 P1,q2 P0 P1 P2,q3 P0 P1 P2 P3]:=by
 unfold fv q0 q1 q2 q3;rw[zFZ h0 ha,zFZ h1 hb,zFZ h2 hc,zFZ h3 hd,zPN h4];simp only[qAu,qG4]
 congr 1
 congr 1
 ·lia
 congr 1
 ·lia
 congr 1
 lia
theorem zM8{cs U V W:List Nat}{i j:Int}(e:cs=U++(V++W))(hi:i=(U.length:Int))(hj:j=((U.length+V.length:Nat):Int))(hz:cs.length<=1000):slD (.str ⟨cs.toArray⟩) (some i) (some j)=some (.str ⟨V.toArray⟩):=by
 subst hi hj;have hl:cs.length=U.length+(V.length+W.length):=by rw[e];simp
 rw[zCD _ _ hz,zGV _ (by lia) (by lia),e,qD0,show U.length+V.length-U.length=V.length by lia,qDd]
 ·rfl
 ·rfl
theorem zXP{cs U W:List Nat}{j:Int}(e:cs=U++W)(hj:j=(U.length:Int))(hz:cs.length<=1000):slD (.str ⟨cs.toArray⟩) none (some j)=some (.str ⟨U.toArray⟩):=by
 subst hj;rw[zCD _ _ hz,zHY,e,qDd];rfl
theorem zTQ{cs U W:List Nat}{j:Int}(e:cs=U++W)(hj:j=(U.length:Int))(hz:cs.length<=1000):slD (.str ⟨cs.toArray⟩) (some j) none=some (.str ⟨W.toArray⟩):=by
 subst hj;rw[zCD _ _ hz,zE0,e,qD0];rfl
theorem zUL{cs U W:List Nat}{z:Nat}{j:Int}(e:cs=U++z::W)(hj:j=(U.length:Int))(hz:cs.length<=1000):ixD (.str ⟨cs.toArray⟩) (.int j)=some (sgn z):=by
 subst hj;have hl:cs.length=U.length+(W.length+1):=by rw[e];simp
 rw[zPJ (by lia) hz,e]
 congr 2
 rw[qA1,qA8 (qA4 _)];simp
structure Cuts(cs:List Nat)(P0 P1 P2 P3 P4:List Nat)(a b c d:Nat)(i0 i1 i2 i3:Int):Prop where
 s0:slD (.str ⟨cs.toArray⟩) none (some (i0+1))=some (.str ⟨(P0++[a]).toArray⟩)
 s1:slD (.str ⟨cs.toArray⟩) (some (i0+1)) (some i1)=some (.str ⟨P1.toArray⟩)
 s2:slD (.str ⟨cs.toArray⟩) (some (i1+1)) (some i2)=some (.str ⟨P2.toArray⟩)
 sb:slD (.str ⟨cs.toArray⟩) (some i1) (some (i2+1))=some (.str ⟨(b::(P2++[c])).toArray⟩)
 s3:slD (.str ⟨cs.toArray⟩) (some (i2+1)) (some i3)=some (.str ⟨P3.toArray⟩)
 s4:slD (.str ⟨cs.toArray⟩) (some i3) none=some (.str ⟨(d::P4).toArray⟩)
 x0:ixD (.str ⟨cs.toArray⟩) (.int i0)=some (sgn a)
 x1:ixD (.str ⟨cs.toArray⟩) (.int i1)=some (sgn b)
 x2:ixD (.str ⟨cs.toArray⟩) (.int i2)=some (sgn c)
theorem zPR(hz:(fv P0 P1 P2 P3 P4 a b c d).length<=1000):Cuts (fv P0 P1 P2 P3 P4 a b c d) P0 P1 P2 P3 P4 a b c d (q0 P0) (q1 P0 P1) (q2 P0 P1 P2) (q3 P0 P1 P2 P3):=by
 have hq0:q0 P0=P0.length:=rfl;have hq1:q1 P0 P1=P0.length+1+P1.length:=rfl;have hq2:q2 P0 P1 P2=P0.length+1+P1.length+1+P2.length:=rfl;have hq3:q3 P0 P1 P2 P3=P0.length+1+P1.length+1+P2.length+1+P3.length:=rfl;refine⟨zXP (W:=P1++b::(P2++c::(P3++d::P4))) ?_ ?_ hz,zM8 (U:=P0++[a]) (W:=b::(P2++c::(P3++d::P4))) ?_ ?_ ?_ hz,zM8 (U:=P0++a::(P1++[b])) (W:=c::(P3++d::P4)) ?_ ?_ ?_ hz,zM8 (U:=P0++a::P1) (W:=P3++d::P4) ?_ ?_ ?_ hz,zM8 (U:=P0++a::(P1++b::(P2++[c]))) (W:=d::P4) ?_ ?_ ?_ hz,zTQ (U:=P0++a::(P1++b::(P2++c::P3))) ?_ ?_ hz,zUL (U:=P0) (W:=P1++b::(P2++c::(P3++d::P4))) ?_ ?_ hz,zUL (U:=P0++a::P1) (W:=P2++c::(P3++d::P4)) ?_ ?_ hz,zUL (U:=P0++a::(P1++b::P2)) (W:=P3++d::P4) ?_ ?_ hz⟩
 all_goals first
  |(unfold fv;simp;done)
  |(simp only[hq0,hq1,hq2,hq3,qB2,qAp,qDb];done)
  |(simp only[hq0,hq1,hq2,hq3,qB2,qAp,qDb];lia)
  |(simp[hq0,hq1,hq2,hq3];done)
  |(simp[hq0,hq1,hq2,hq3];lia)
theorem ix4{i0 i1 i2 i3:Int}:ixD (.lst [.int i0,.int i1,.int i2,.int i3]) (.int 0)=some (.int i0)/\ixD (.lst [.int i0,.int i1,.int i2,.int i3]) (.int 1)=some (.int i1)/\ixD (.lst [.int i0,.int i1,.int i2,.int i3]) (.int 2)=some (.int i2)/\ixD (.lst [.int i0,.int i1,.int i2,.int i3]) (.int 3)=some (.int i3):=by
 refine⟨?_,?_,?_,?_⟩
 ·rw[zEU];exact zC4 (j:=0) rfl rfl
 ·rw[zEU];exact zC4 (j:=1) rfl rfl
 ·rw[zEU];exact zC4 (j:=2) rfl rfl
 ·rw[zEU];exact zC4 (j:=3) rfl rfl
theorem zKD{cs:List Nat}{i0 i1 i2 i3:Int}(K:Cuts cs P0 P1 P2 P3 P4 a b c d i0 i1 i2 i3)(hl:P0.length+P1.length+P2.length+P3.length+P4.length<=100):zDC [.str ⟨cs.toArray⟩,.lst [.int i0,.int i1,.int i2,.int i3]]=okR (.str ⟨(fv P0 P3 P2 P1 P4 a b c d).toArray⟩):=by
 obtain⟨s0,s1,s2,sb,s3,s4,x0,x1,x2⟩:=K;obtain⟨j0,j1,j2,j3⟩:=ix4 (i0:=i0) (i1:=i1) (i2:=i2) (i3:=i3)
 generalize Dt.lst [Dt.int i0,Dt.int i1,Dt.int i2,Dt.int i3]=S at *
 have a1:=add_str (a:=P0++[a]) (b:=P3) (by simp;lia);have a2:=add_str (a:=P0++[a]++P3) (b:=b::(P2++[c])) (by simp;lia);have a3:=add_str (a:=P0++[a]++P3++(b::(P2++[c]))) (b:=P1) (by simp;lia);have a4:=add_str (a:=P0++[a]++P3++(b::(P2++[c]))++P1) (b:=d::P4) (by simp;lia);rw[show P0++[a]++P3++(b::(P2++[c]))++P1++(d::P4)=fv P0 P3 P2 P1 P4 a b c d by simp only[fv,qB7,qBa,qFb]]at a4;exact zB6 rfl (sg (sl2 rfl (b2 (b2 rfl rfl j0) rfl (adi rfl)) (b2 rfl rfl j1) s1) (qAi _) (sg (sl2 rfl (b2 rfl rfl j1) (b2 (b2 rfl rfl j2) rfl (adi rfl)) sb) (qAi _) (sg (sl2 rfl (b2 (b2 rfl rfl j2) rfl (adi rfl)) (b2 rfl rfl j3) s3) (qAi _) (sr (b2 (b2 (b2 (b2 (sl0 rfl (b2 (b2 rfl rfl j0) rfl (adi rfl)) s0) rfl a1) rfl a2) rfl a3) (sl1 rfl (b2 rfl rfl j3) s4) a4) ⟨qAi _,qAi _⟩))))
theorem zTO{l m:List Int}(h:m.Perm l)(hm:m.Pairwise (·<=·)):sortI l=m:=by
 have h1:(sortI l).Perm l:=qCb l _;have h2:(sortI l).Pairwise (·<=·):=by
  have:=qDc (le:=fun a b:Int=>decide (a<=b)) (fun a b c h1 h2=>by simp at h1 h2 ⊢;lia) (fun a b=>by simp;lia) l
  exact this.imp fun h=>by simpa using h
 exact qGb (h1.trans h.symm) h2 hm
theorem zJM{u v u' v' i0 i1 i2 i3:Int}(h:[i0,i1,i2,i3].Perm [u,v,u',v'])(h1:i0<=i1)(h2:i1<=i2)(h3:i2<=i3):sadD (.tup [.int u,.int v]) (.tup [.int u',.int v'])=some (.lst [.int i0,.int i1,.int i2,.int i3]):=by
 have e:=zTO h (by simp;lia)
 show(@ite _ (([u,v]:List Int)≠[]/\([u',v']:List Int)≠[]/\([u,v]:List Int).length+([u',v']:List Int).length<64) (qA2 _) (some (Dt.lst ((sortI [u,v,u',v']).map .int))) none)=_
 rw[if_pos ⟨by simp,by simp,by simp⟩,e];rfl
noncomputable def swp(x y:Nat):Dt:=.ins "Swap" [("one",.s ⟨#[x]⟩),("other",.s ⟨#[y]⟩)]
theorem zM1{cs:List Nat}{i0 i1 i2 i3 u v u' v':Int}(K:Cuts cs P0 P1 P2 P3 P4 a b c d i0 i1 i2 i3)(hl:P0.length+P1.length+P2.length+P3.length+P4.length<=90)(hz:cs.length<=100)(hx:cs.count x=2)(hcr:(btw cs x).count y=1)
  (px:zAS [.str ⟨cs.toArray⟩,sgn x]=okR (.tup [.int u,.int v])) (py:zAS [.str ⟨cs.toArray⟩,sgn y]=okR (.tup [.int u',.int v'])) (hs:sadD (.tup [.int u,.int v]) (.tup [.int u',.int v'])=some (.lst [.int i0,.int i1,.int i2,.int i3])) :
  zAO [swp x y,.str ⟨cs.toArray⟩]=okR (.str ⟨(fv P0 P3 P2 P1 P4 a b c d).toArray⟩):=by
 have ex:=zKD K (by lia);have dc:=zLJ (y:=y) hz hx;rw[decide_eq_true hcr]at dc;have l1:qB6 ("one":Str) [(("one":Str),Sv.s ⟨#[x]⟩),(("other":Str),Sv.s ⟨#[y]⟩)]=some (Sv.s ⟨#[x]⟩):=by simp[qB6]
 have l2:qB6 ("other":Str) [(("one":Str),Sv.s ⟨#[x]⟩),(("other":Str),Sv.s ⟨#[y]⟩)]=some (Sv.s ⟨#[y]⟩):=by
  rw[qB0,show(("other":Str)==("one":Str))=false by decide +kernel];simp[qB6]
 have d1:dSv (Sv.s ⟨#[x]⟩)=sgn x:=rfl;have d2:dSv (Sv.s ⟨#[y]⟩)=sgn y:=rfl
 generalize fv P0 P3 P2 P1 P4 a b c d=out at *
 have hcd:(Dt.lst [Dt.int i0,Dt.int i1,Dt.int i2,Dt.int i3]).dep=1:=by simp
 generalize Dt.lst [Dt.int i0,Dt.int i1,Dt.int i2,Dt.int i3]=cu at *
 generalize Dt.tup [Dt.int u,Dt.int v]=tx at *
 generalize Dt.tup [Dt.int u',Dt.int v']=ty at *
 unfold swp;have key:zER [some (.ins "Swap" [("one",.s ⟨#[x]⟩),("other",.s ⟨#[y]⟩)],0),some (.str ⟨cs.toArray⟩,0),none]=okR (.rt (.str ⟨out.toArray⟩)):=by
  unfold zER;refine zCH fun bb hb=>?_
  refine zBY (r:=[some (.ins "Swap" [("one",.s ⟨#[x]⟩),("other",.s ⟨#[y]⟩)],0),some (.str ⟨cs.toArray⟩,0),some (cu,1)]) (by
   simp[l1,l2,d1,d2,px,py,hs,hcd]) ?_
  subst hb;refine zCH fun bb hb=>?_
  refine zBY (r:=[some (.ins "Swap" [("one",.s ⟨#[x]⟩),("other",.s ⟨#[y]⟩)],0),some (.str ⟨cs.toArray⟩,0),some (cu,1)]) (by
   simp[l1,l2,d1,d2,dc]) ?_
  subst hb;simp[zKC,zUS,ex]
 exact zB6 rfl key
structure Free(P0 P1 P2 P3 P4:List Nat)(x:Nat):Prop where
 f0:x∉P0
 f1:x∉P1
 f2:x∉P2
 f3:x∉P3
 f4:x∉P4
theorem Free.turn(F:Free P0 P1 P2 P3 P4 x):Free P0 P3 P2 P1 P4 x:=⟨F.f0,F.f3,F.f2,F.f1,F.f4⟩
theorem fv_a:fv P0 P1 P2 P3 P4 a b a b=P0++a::((P1++b::P2)++a::(P3++b::P4)):=by unfold fv;simp
theorem fv_b:fv P0 P1 P2 P3 P4 a b a b=(P0++a::P1)++b::((P2++a::P3)++b::P4):=by unfold fv;simp
theorem zNU(Fa:Free P0 P1 P2 P3 P4 a)(Fb:Free P0 P1 P2 P3 P4 b)(hne:a≠b):zAS [.str ⟨(fv P0 P1 P2 P3 P4 a b a b).toArray⟩,sgn a]=okR (.tup [.int (q0 P0:Nat),.int (q2 P0 P1 P2:Nat)])/\zAS [.str ⟨(fv P0 P1 P2 P3 P4 a b a b).toArray⟩,sgn b]=okR (.tup [.int (q1 P0 P1:Nat),.int (q3 P0 P1 P2 P3:Nat)]):=by
 constructor
 ·rw[fv_a,zF1 Fa.f0 (by simp[Fa.f3,Fa.f4,hne])];unfold q0 q2;rw[show P0.length+1+(P1++b::P2).length=P0.length+1+P1.length+1+P2.length by simp;lia]
 ·rw[fv_b,zF1 (by simp[Fb.f0,Fb.f1,hne.symm]) Fb.f4];unfold q1 q3;rw[show(P0++a::P1).length+1+(P2++a::P3).length=P0.length+1+P1.length+1+P2.length+1+P3.length by simp;lia,show(P0++a::P1).length=P0.length+1+P1.length by simp;lia]
theorem zV2(Fa:Free P0 P1 P2 P3 P4 a)(Fb:Free P0 P1 P2 P3 P4 b)(hne:a≠b):(btw (fv P0 P1 P2 P3 P4 a b a b) a).count b=1/\(btw (fv P0 P1 P2 P3 P4 a b a b) b).count a=1:=by
 constructor
 ·rw[fv_a,zKL Fa.f0 (by simp[Fa.f1,Fa.f2,hne]),qAs,qBd,qAl.mpr Fb.f1,qAl.mpr Fb.f2]
 ·rw[fv_b,zKL (by simp[Fb.f0,Fb.f1,hne.symm]) (by simp[Fb.f2,Fb.f3,hne.symm]),qAs,qBd,qAl.mpr Fa.f2,qAl.mpr Fa.f3]
theorem zQH(Fa:Free P0 P1 P2 P3 P4 a)(Fb:Free P0 P1 P2 P3 P4 b)(hne:a≠b):(fv P0 P1 P2 P3 P4 a b a b).count a=2/\(fv P0 P1 P2 P3 P4 a b a b).count b=2:=by
 have z0:=qAl.mpr Fa.f0;have z1:=qAl.mpr Fa.f1;have z2:=qAl.mpr Fa.f2;have z3:=qAl.mpr Fa.f3;have z4:=qAl.mpr Fa.f4;have y0:=qAl.mpr Fb.f0;have y1:=qAl.mpr Fb.f1;have y2:=qAl.mpr Fb.f2;have y3:=qAl.mpr Fb.f3;have y4:=qAl.mpr Fb.f4;unfold fv;constructor
 ·rw[qAs,qBd,qAs,qBx hne.symm,qAs,qBd,qAs,qBx hne.symm]
  lia
 ·rw[qAs,qBx hne,qAs,qBd,qAs,qBx hne,qAs,qBd]
  lia
theorem zFX(Fa:Free P0 P1 P2 P3 P4 a)(Fb:Free P0 P1 P2 P3 P4 b)(hne:a≠b)(hl:P0.length+P1.length+P2.length+P3.length+P4.length<=90) :
  zAO [swp a b,.str ⟨(fv P0 P1 P2 P3 P4 a b a b).toArray⟩]=okR (.str ⟨(fv P0 P3 P2 P1 P4 a b a b).toArray⟩)/\zAO [swp b a,.str ⟨(fv P0 P1 P2 P3 P4 a b a b).toArray⟩]=okR (.str ⟨(fv P0 P3 P2 P1 P4 a b a b).toArray⟩):=by
 have hz:(fv P0 P1 P2 P3 P4 a b a b).length<=100:=by rw[zSV];lia
 have K:=zPR (P0:=P0) (P1:=P1) (P2:=P2) (P3:=P3) (P4:=P4) (a:=a) (b:=b) (c:=a) (d:=b) (by lia);obtain⟨pa,pb⟩:=zNU Fa Fb hne;obtain⟨ba,bb⟩:=zV2 Fa Fb hne;obtain⟨ca,cb⟩:=zQH Fa Fb hne;have o1:(q0 P0:Int)<=(q1 P0 P1:Int):=by unfold q0 q1;lia
 have o2:(q1 P0 P1:Int)<=(q2 P0 P1 P2:Int):=by unfold q1 q2;lia
 have o3:(q2 P0 P1 P2:Int)<=(q3 P0 P1 P2 P3:Int):=by unfold q2 q3;lia
 generalize(q0 P0:Int)=i0 at *
 generalize(q1 P0 P1:Int)=i1 at *
 generalize(q2 P0 P1 P2:Int)=i2 at *
 generalize(q3 P0 P1 P2 P3:Int)=i3 at *
 refine⟨zM1 K hl hz ca ba pa pb (zJM ?_ o1 o2 o3),zM1 K hl hz cb bb pb pa (zJM ?_ o1 o2 o3)⟩
 ·exact qE6 _ (qD9 _ _ _)
 ·have h1:[i0,i1,i2,i3].Perm [i1,i0,i2,i3]:=qD9 _ _ _;have h2:[i1,i0,i2,i3].Perm [i1,i0,i3,i2]:=qE6 _ (qE6 _ (qD9 _ _ _));have h3:[i1,i0,i3,i2].Perm [i1,i3,i0,i2]:=qE6 _ (qD9 _ _ _);exact h1.trans (h2.trans h3)
theorem nmA{x y:Nat}{A1 A2:List Nat}(h:x∉A1++y::A2):x∉A1/\x∉A2:=⟨fun z=>h (qD6 _ z),fun z=>h (qAw _ (qAo _ z))⟩
theorem nmB{x y:Nat}{A1 A2 A3:List Nat}(h:x∉A1++y::(A2++y::A3)):x∉A1/\x∉A2/\x∉A3:=⟨(nmA h).1,nmA (nmA h).2⟩
theorem four{cs:List Nat}(hx:cs.count x=2)(hy:cs.count y=2)(hne:x≠y):∃P0 P1 P2 P3 P4 a b c d,cs=fv P0 P1 P2 P3 P4 a b c d/\Free P0 P1 P2 P3 P4 x/\Free P0 P1 P2 P3 P4 y/\(a=x\/a=y)/\(b=x\/b=y)/\(c=x\/c=y)/\(d=x\/d=y) /\
  (((btw cs x).count y≠1/\(a=b\/a≠c))\/((btw cs x).count y=1/\c=a/\d=b/\a≠b)):=by
 obtain⟨A,B,C,rfl,hA,hB,hC⟩:=zC5 hx;have hb:=zKL (C:=C) hA hB;simp only[qAs,qBx hne]at hy;have split1:∀{L:List Nat},L.count y=1->∃L1 L2,L=L1++y::L2/\y∉L1/\y∉L2:=fun{L} h=>by
  obtain⟨L1,L2,rfl,h1⟩:=qD5 (qE1.mp (show 0<L.count y by lia));rw[qAs,qAl.mpr h1,qBd]at h;exact⟨L1,L2,rfl,h1,qAl.mp (by lia)⟩
 have z0:∀{L:List Nat},L.count y=0->y∉L:=fun h=>qAl.mp h
 rw[hb]
 rcases(show(A.count y=2/\B.count y=0/\C.count y=0)\/(A.count y=0/\B.count y=2/\C.count y=0)\/(A.count y=0/\B.count y=0/\C.count y=2)\/(A.count y=1/\B.count y=1/\C.count y=0)\/(A.count y=1/\B.count y=0/\C.count y=1)\/(A.count y=0/\B.count y=1/\C.count y=1) by lia)with⟨h1,h2,h3⟩|⟨h1,h2,h3⟩|⟨h1,h2,h3⟩|⟨h1,h2,h3⟩|⟨h1,h2,h3⟩|⟨h1,h2,h3⟩
 ·obtain⟨A1,A2,A3,rfl,g1,g2,g3⟩:=zC5 h1;refine⟨A1,A2,A3,B,C,y,y,x,x,by simp only[fv,qB7,qBa],⟨(nmB hA).1,(nmB hA).2.1,(nmB hA).2.2,hB,hC⟩,⟨g1,g2,g3,z0 h2,z0 h3⟩,.inr rfl,.inr rfl,.inl rfl,.inl rfl,.inl ⟨by lia,.inl rfl⟩⟩
 ·obtain⟨B1,B2,B3,rfl,g1,g2,g3⟩:=zC5 h2;refine⟨A,B1,B2,B3,C,x,y,y,x,by simp only[fv,qB7,qBa],⟨hA,(nmB hB).1,(nmB hB).2.1,(nmB hB).2.2,hC⟩,⟨z0 h1,g1,g2,g3,z0 h3⟩,.inl rfl,.inr rfl,.inr rfl,.inl rfl,.inl ⟨by lia,.inr hne⟩⟩
 ·obtain⟨C1,C2,C3,rfl,g1,g2,g3⟩:=zC5 h3;refine⟨A,B,C1,C2,C3,x,x,y,y,by simp only[fv,qB7,qBa],⟨hA,hB,(nmB hC).1,(nmB hC).2.1,(nmB hC).2.2⟩,⟨z0 h1,z0 h2,g1,g2,g3⟩,.inl rfl,.inl rfl,.inr rfl,.inr rfl,.inl ⟨by lia,.inl rfl⟩⟩
 ·obtain⟨A1,A2,rfl,g1,g2⟩:=split1 h1;obtain⟨B1,B2,rfl,g3,g4⟩:=split1 h2;refine⟨A1,A2,B1,B2,C,y,x,y,x,by simp only[fv,qB7,qBa],⟨(nmA hA).1,(nmA hA).2,(nmA hB).1,(nmA hB).2,hC⟩,⟨g1,g2,g3,g4,z0 h3⟩,.inr rfl,.inl rfl,.inr rfl,.inl rfl,.inr ⟨h2,rfl,rfl,hne.symm⟩⟩
 ·obtain⟨A1,A2,rfl,g1,g2⟩:=split1 h1;obtain⟨C1,C2,rfl,g3,g4⟩:=split1 h3;refine⟨A1,A2,B,C1,C2,y,x,x,y,by simp only[fv,qB7,qBa],⟨(nmA hA).1,(nmA hA).2,hB,(nmA hC).1,(nmA hC).2⟩,⟨g1,g2,z0 h2,g3,g4⟩,.inr rfl,.inl rfl,.inl rfl,.inr rfl,.inl ⟨by lia,.inr hne.symm⟩⟩
 ·obtain⟨B1,B2,rfl,g1,g2⟩:=split1 h2;obtain⟨C1,C2,rfl,g3,g4⟩:=split1 h3;refine⟨A,B1,B2,C1,C2,x,y,x,y,by simp only[fv,qB7,qBa],⟨hA,(nmA hB).1,(nmA hB).2,(nmA hC).1,(nmA hC).2⟩,⟨z0 h1,g1,g2,g3,g4⟩,.inl rfl,.inr rfl,.inl rfl,.inr rfl,.inr ⟨h2,rfl,rfl,hne⟩⟩
theorem zWZ(z x y:Nat):inD false (sgn z) (.tup [sgn x,sgn y])=some (.bl (decide (z=x)||decide (z=y))):=by
 have e:∀c,Dt.eq (sgn c) (sgn z)=decide (z=c):=fun c=>by
  show((⟨#[c]⟩:Str)==⟨#[z]⟩)=decide (z=c)
  by_cases h:z=c
  ·subst h;simp
  ·rw[decide_eq_false h,beq_eq_false_iff_ne];intro w
   have:[c]=[z]:=congrArg (fun s:Str=>s.cps.toList) w
   simp at this;exact h this.symm
 show(hasD (sgn z) [sgn x,sgn y]).map _=_
 unfold hasD;rw[if_pos ⟨rfl,rfl⟩];simp[e]
end
end Mp
namespace Mp
open Mi PySem
section
variable{P0 P1 P2 P3 P4:List Nat}{a b c d x y:Nat}
noncomputable def isXY(x y z:Nat):Bool:=decide (z=x)||decide (z=y)
theorem zVN{cs:List Nat}(hz:cs.length<=1000):eComp (iEnX (aCons (eV 0) aNil)) 2 (.tup [7,8]) (tB (eB (inD false) (eV 8) (eTup (aCons (eV 1) (aCons (eV 2) aNil))))) (eV 7) [some (.str ⟨cs.toArray⟩),some (sgn x),some (sgn y),none,none,none,none]=okR (rowD (numL (idxs (isXY x y) cs))):=by
 rw[zGW (ρ:=[some (.str ⟨cs.toArray⟩),some (sgn x),some (sgn y),none,none,none,none]) (c:=tB (eB (inD false) (eV 8) (eTup (aCons (eV 1) (aCons (eV 2) aNil))))) (e:=eV 7) (i:=7) (j:=8) (cs.map sgn) (fun k=>.int (k:Int)) (fun k=>isXY x y (cs.getD k 0)) rfl rfl (iEnX (aCons (eV 0) aNil)) (by simp[iEnX];rfl) (by simp;lia) (fun k w hw=>?_) (fun k w hw=>?_)]
 ·rw[qAq,numD];rfl
 ·have hk:k<cs.length:=by have:=(qA3.mp hw).1;simpa using this
  have hw':w=sgn (cs.getD k 0):=by
   rw[qAn,qA9 hk]at hw;cases hw;simp[qA1,qA9 hk]
  subst hw';have he:=zWZ (cs.getD k 0) x y;show tB (eB (inD false) (eV 8) (eTup (aCons (eV 1) (aCons (eV 2) aNil)))) [some (.str ⟨cs.toArray⟩),some (sgn x),some (sgn y),none,none,none,none,some (.int (k:Nat)),some (sgn (cs.getD k 0))]=okR (isXY x y (cs.getD k 0));unfold isXY
  generalize cs.getD k 0=z at he
  simp[he]
 ·rfl
theorem zSP(c x:Nat):neD (sgn c) (sgn x)=some (.bl (!decide (c=x))):=by
 have h:=zSY c x;have h1:eqD (sgn c) (sgn x)=some (.bl (Dt.eq (sgn c) (sgn x))):=by
  show(if(sgn c).dep<=40/\(sgn x).dep<=40 then some (Dt.bl (Dt.eq (sgn c) (sgn x)))else none)=_
  rw[if_pos ⟨qAi _,qAi _⟩]
 have h2:Dt.eq (sgn c) (sgn x)=decide (c=x):=by rw[h1]at h;injection h with h;injection h
 show(if(sgn c).dep<=40/\(sgn x).dep<=40 then some (Dt.bl (!Dt.eq (sgn c) (sgn x)))else none)=_
 rw[if_pos ⟨qAi _,qAi _⟩,h2]
theorem zD3{L:List Nat}(h1:x∉L)(h2:y∉L):∀z∈L,isXY x y z=false:=fun z hz=>by
 unfold isXY;rw[decide_eq_false (show ¬z=x from fun e=>h1 (by rw[<- e];exact hz)),decide_eq_false (show ¬z=y from fun e=>h2 (by rw[<- e];exact hz))];rfl
theorem zEX{z:Nat}(h:z=x\/z=y):isXY x y z=true:=by
 unfold isXY
 rcases h with rfl|rfl<;>simp
end
theorem zIO(u:Str):neD (.str u) (.str u)=some (.bl false):=by
 show(if(Dt.str u).dep<=40/\(Dt.str u).dep<=40 then some (Dt.bl (!Dt.eq (.str u) (.str u)))else none)=_
 rw[if_pos ⟨qAi _,qAi _⟩];show some (Dt.bl (!(u==u)))=_;rw[beq_self_eq_true];rfl
section
variable{cs u v:List Nat}
end
end Mp
namespace Mp
open Mi PySem
section
variable{P0 P1 P2 P3 P4:List Nat}{a b c d x y:Nat}
theorem zV1{r:Ro}{i n k:Nat}{e:EM}{ds:List Dt}{d:Dt}(h:r[i]?=some (some (.lst ds,k+1)))(he:e (full r)=okR d)(hl:ds.length<=100000)(h1:d.dep<=n)(h2:d.dep<=k):sApp i n e r=okR (.nx (r.set i (some (.lst (ds++[d]),k+1)))):=by
 unfold sApp;rw[h];dsimp only;rw[he,zA0];exact if_pos ⟨hl,h1,h2⟩
theorem zJB{cs:List Nat}{p0 p1 p2 p3:Nat}(hz:cs.length<=1000)(hp:idxs (isXY x y) cs=[p0,p1,p2,p3])(K:Cuts cs P0 P1 P2 P3 P4 a b c d (p0:Nat) (p1:Nat) (p2:Nat) (p3:Nat))(hl:P0.length+P1.length+P2.length+P3.length+P4.length<=90) :
  zB9 [.str ⟨cs.toArray⟩,sgn x,sgn y]=okR (.str ⟨(fv P0 P3 P2 P1 P4 a b c d).toArray⟩):=by
 have hc:=zVN (x:=x) (y:=y) hz;rw[hp]at hc;have hS:rowD (numL [p0,p1,p2,p3])=.lst [.int (p0:Int),.int (p1:Int),.int (p2:Int),.int (p3:Int)]:=rfl;rw[hS]at hc;obtain⟨s0,s1,s2,sb,s3,s4,x0,x1,x2⟩:=K
 generalize(p0:Int)=i0 at *
 generalize(p1:Int)=i1 at *
 generalize(p2:Int)=i2 at *
 generalize(p3:Int)=i3 at *
 obtain⟨j0,j1,j2,j3⟩:=ix4 (i0:=i0) (i1:=i1) (i2:=i2) (i3:=i3);have hd:(Dt.lst [Dt.int i0,Dt.int i1,Dt.int i2,Dt.int i3]).dep<=1:=qA4 1
 generalize Dt.lst [Dt.int i0,Dt.int i1,Dt.int i2,Dt.int i3]=S at *
 have a0:addD (sgn b) (.str ⟨P2.toArray⟩)=some (.str ⟨([b]++P2).toArray⟩):=add_str (a:=[b]) (b:=P2) (by simp;lia);have a0':addD (.str ⟨([b]++P2).toArray⟩) (sgn c)=some (.str ⟨([b]++P2++[c]).toArray⟩):=add_str (a:=[b]++P2) (b:=[c]) (by simp;lia);have a1:=add_str (a:=P0++[a]) (b:=P3) (by simp;lia);have a2:=add_str (a:=P0++[a]++P3) (b:=[b]++P2++[c]) (by simp;lia);have a3:=add_str (a:=P0++[a]++P3++([b]++P2++[c])) (b:=P1) (by simp;lia);have a4:=add_str (a:=P0++[a]++P3++([b]++P2++[c])++P1) (b:=d::P4) (by simp;lia);rw[show P0++[a]++P3++([b]++P2++[c])++P1++(d::P4)=fv P0 P3 P2 P1 P4 a b c d by simp only[fv,qB7,qBa,qFb]]at a4;have k0:ixD (.lst [.str ⟨(P0++[a]).toArray⟩,.str ⟨P1.toArray⟩,.str ⟨P2.toArray⟩,.str ⟨P3.toArray⟩]) (.int 0)=some (.str ⟨(P0++[a]).toArray⟩):=rfl;have k1:ixD (.lst [.str ⟨(P0++[a]).toArray⟩,.str ⟨P1.toArray⟩,.str ⟨P2.toArray⟩,.str ⟨P3.toArray⟩]) (.int 1)=some (.str ⟨P1.toArray⟩):=rfl;have k2:ixD (.lst [.str ⟨(P0++[a]).toArray⟩,.str ⟨P1.toArray⟩,.str ⟨P2.toArray⟩,.str ⟨P3.toArray⟩]) (.int 2)=some (.str ⟨P2.toArray⟩):=rfl;have k3:ixD (.lst [.str ⟨(P0++[a]).toArray⟩,.str ⟨P1.toArray⟩,.str ⟨P2.toArray⟩,.str ⟨P3.toArray⟩]) (.int 3)=some (.str ⟨P3.toArray⟩):=rfl;have L3:sForR (iR1 (aCons (eC (.int 3)) aNil)) 5 (sApp 4 1 (eSl (eV 0) (oE (eB addD (eB ixD (eV 3) (eV 5)) (eC (.int 1)))) (oE (eB ixD (eV 3) (eB addD (eV 5) (eC (.int 1))))))) [some (.str ⟨cs.toArray⟩,0),some (sgn x,0),some (sgn y,0),some (S,1),some (.lst [.str ⟨(P0++[a]).toArray⟩],1+1),none,none]=okR (.nx [some (.str ⟨cs.toArray⟩,0),some (sgn x,0),some (sgn y,0),some (S,1),some (.lst [.str ⟨(P0++[a]).toArray⟩,.str ⟨P1.toArray⟩,.str ⟨P2.toArray⟩,.str ⟨P3.toArray⟩],1+1),some (.int 2,0),none]):=by
  rw[zKX,zTF (n:=3) (al0 rfl) (by decide),zA0];show zA3 (sApp 4 1 _ _) _=_;rw[zV1 (d:=.str ⟨P1.toArray⟩) rfl (sl2 rfl (b2 (b2 rfl rfl j0) rfl (adi rfl)) (b2 rfl (b2 rfl rfl (adi rfl)) j1) s1) (by simp) (qAi _) (qAi _),zA0];show zA3 (sApp 4 1 _ _) _=_;rw[zV1 (d:=.str ⟨P2.toArray⟩) rfl (sl2 rfl (b2 (b2 rfl rfl j1) rfl (adi rfl)) (b2 rfl (b2 rfl rfl (adi rfl)) j2) s2) (by simp) (qAi _) (qAi _),zA0];show zA3 (sApp 4 1 _ _) _=_;rw[zV1 (d:=.str ⟨P3.toArray⟩) rfl (sl2 rfl (b2 (b2 rfl rfl j2) rfl (adi rfl)) (b2 rfl (b2 rfl rfl (adi rfl)) j3) s3) (by simp) (qAi _) (qAi _),zA0];rfl
 exact zB6 rfl (sg hc hd (sg (el1 (sl0 rfl (b2 (b2 rfl rfl j0) rfl (adi rfl)) s0)) (show 1<=2 by decide) (sw L3 (sg (b2 (b2 (b2 rfl (b2 rfl rfl j1) x1) (b2 rfl rfl k2) a0) (b2 rfl (b2 rfl rfl j2) x2) a0') (qAi _) (sr (b2 (b2 (b2 (b2 (b2 rfl rfl k0) (b2 rfl rfl k3) a1) rfl a2) (b2 rfl rfl k1) a3) (sl1 rfl (b2 rfl rfl j3) s4) a4) ⟨qAi _,qAi _⟩)))))
theorem zW8{cs:List Nat}(hz:cs.length<=90)(hx:cs.count x=2)(hy:cs.count y=2)(hne:x≠y)(hc:(btw cs x).count y=1):∃out:List Nat,zB9 [.str ⟨cs.toArray⟩,sgn x,sgn y]=okR (.str ⟨out.toArray⟩)/\zAO [swp x y,.str ⟨cs.toArray⟩]=okR (.str ⟨out.toArray⟩)/\zAO [swp x y,.str ⟨out.toArray⟩]=okR (.str ⟨cs.toArray⟩)/\out.Perm cs:=by
 obtain⟨P0,P1,P2,P3,P4,a,b,c,d,e,Fx,Fy,ha,hb,hc',hd,hh⟩:=four hx hy hne;have hlen:=zSV P0 P1 P2 P3 P4 a b c d;have hl:P0.length+P1.length+P2.length+P3.length+P4.length<=90:=by rw[e,hlen]at hz;lia
 have K:=zPR (P0:=P0) (P1:=P1) (P2:=P2) (P3:=P3) (P4:=P4) (a:=a) (b:=b) (c:=c) (d:=d) (by lia);have hi:idxs (isXY x y) cs=[q0 P0,q1 P0 P1,q2 P0 P1 P2,q3 P0 P1 P2 P3]:=by
  rw[e];exact zUR (zD3 Fx.f0 Fy.f0) (zD3 Fx.f1 Fy.f1) (zD3 Fx.f2 Fy.f2) (zD3 Fx.f3 Fy.f3) (zD3 Fx.f4 Fy.f4) (zEX ha) (zEX hb) (zEX hc') (zEX hd)
 rw[<- e]at K;have du:=zJB (by lia) hi K hl
 rcases hh with⟨h1,_⟩|⟨h1,h2,h3,h4⟩
 ·exact absurd hc h1
 ·subst h2 h3;refine⟨_,du,?_⟩;rw[e];have pm:(fv P0 P3 P2 P1 P4 c d c d).Perm (fv P0 P1 P2 P3 P4 c d c d):=qDy.mpr fun z=>by
   unfold fv;simp only[qAs,qDt]
   lia
  rcases ha with rfl|rfl
  ·rcases hb with rfl|rfl
   ·exact absurd rfl h4
   ·exact⟨(zFX Fx Fy h4 hl).1,(zFX Fx.turn Fy.turn h4 (by lia)).1,pm⟩
  ·rcases hb with rfl|rfl
   ·exact⟨(zFX Fy Fx h4 hl).2,(zFX Fy.turn Fx.turn h4 (by lia)).2,pm⟩
   ·exact absurd rfl h4
end
def okp(cs:List Nat)(p:Nat×Nat):Prop:=cs.count p.1=2/\cs.count p.2=2/\p.1≠p.2/\(btw cs p.1).count p.2=1
def tp4(p:Nat×Nat):Dt:=.tup [sgn p.1,sgn p.2]
theorem zXO{cs:List Nat}(h0:0<cs.length)(h1:cs.length<=60):sosD [.str ⟨cs.toArray⟩]=some (.lst ((sosL cs).map sgn)):=by
 show(@ite _ (0<(⟨cs.toArray⟩:Str).length/\(⟨cs.toArray⟩:Str).length<=60) (qA2 _) (some (Dt.lst ((sosL cs.toArray.toList).map fun c=>Dt.str ⟨#[c]⟩))) none)=_
 rw[if_pos ⟨by show 0<cs.toArray.size;simpa using h0,by show cs.toArray.size<=60;simpa using h1⟩];rfl
theorem app4{r:Ro}{i n k:Nat}{e:EM}{ds:List Dt}{d:Dt}(h:r[i]?=some (some (.lst ds,k+1)))(he:e (full r)=okR d)(hl:ds.length<=100000)(h1:d.dep<=n)(h2:d.dep<=k):sApp i n e r=okR (.nx (r.set i (some (.lst (ds++[d]),k+1)))):=by
 unfold sApp;rw[h];dsimp only;rw[he,zA0];exact if_pos ⟨hl,h1,h2⟩
theorem et24{e1 e2:EM}{ρ:Rh}{d1 d2:Dt}(h1:e1 ρ=okR d1)(h2:e2 ρ=okR d2):eTup (aCons e1 (aCons e2 aNil)) ρ=okR (.tup [d1,d2]):=by simp[h1,h2]
theorem eqI4(a b:Int):eqD (.int a) (.int b)=some (.bl (decide (a=b))):=by simp[eqD,Dt.eq];rfl
theorem el0'{ρ:Rh}:eLst aNil ρ=okR (.lst []):=by simp
theorem st4{c:TM}{a:SM}{r:Ro}{X:R Out}(hc:c (full r)=okR true)(ha:a r=X):sIf c a sNil r=X:=by
 rw[zJ6,hc,zA0,if_pos rfl,ha]
theorem zNR{cs:List Nat}(h0:0<cs.length)(hz:cs.length<=60)(h2:∀x∈cs,cs.count x=2):∃prs:List (Nat×Nat),zBZ [.str ⟨cs.toArray⟩]=okR (.lst (prs.map tp4))/\(∀p∈prs,okp cs p)/\prs.length<=3600:=by
 have so:=zXO h0 hz;have hsm:=fun x=>sos_mem x cs
 have hsl:(sosL cs).length<=60:=by
  have h2:(sosL cs).length=(ded cs).length:=(qCb _ _).length_eq;have h3:∀l:List Nat,(ded l).length<=l.length:=by
   intro l
   induction l with
   |nil=>exact qA4 _
   |cons a r ih=>
    unfold ded
    split
    ·simp only[qAp];lia
    ·simp only[qAp];lia
  have:=h3 cs
  lia
 generalize sosL cs=sl at so hsm hsl
 have hdl:(Dt.lst (sl.map sgn)).dep<=1:=by
  have:Dt.depL (sl.map sgn)=0:=zUT fun d hd=>by obtain⟨c,_,rfl⟩:=qC8.mp hd;rfl
  show Dt.depL (sl.map sgn)+1<=1
  lia
 have main:nxR (sFor [1] (iSq (eV 1)) (.one 3) (sSeq (sUnpL [4,5] [0,3] (eCall zBL (aCons (eV 0) (aCons (eV 3) aNil))))
 (sFor [1] (iSq (eV 1)) (.one 6) (sIf (tAn (tB (eB neD (eV 6) (eV 3))) (tB (eB eqD (eMt countD (eSl (eV 0) (oE (eV 4)) (oE (eV 5))) (aCons (eV 6) aNil)) (eC (.int 1))))) (sApp 2 1 (eTup (aCons (eV 3) (aCons (eV 6) aNil)))) sNil))) [some (.str ⟨cs.toArray⟩,0),some (.lst (sl.map sgn),1),some (.lst [],9),none,none,none,none]) fun r=>∃(prs:List (Nat×Nat))(o3 o4 o5 o6:Option Sl),(∀p∈prs,okp cs p)/\prs.length<=60*sl.length/\r=[some (.str ⟨cs.toArray⟩,0),some (.lst (sl.map sgn),0),some (.lst (prs.map tp4),9),o3,o4,o5,o6]:=by
  rw[zHD];show nxR (zA3 (okR (sl.map sgn)) fun ds=>forGo (.one 3) _ ds [some (.str ⟨cs.toArray⟩,0),some (.lst (sl.map sgn),0),some (.lst [],9),none,none,none,none]) _;rw[zA0];refine zFM sgn sl (fun k r=>∃(prs:List (Nat×Nat))(o3 o4 o5 o6:Option Sl),(∀p∈prs,okp cs p)/\prs.length<=60*k/\r=[some (.str ⟨cs.toArray⟩,0),some (.lst (sl.map sgn),0),some (.lst (prs.map tp4),9),o3,o4,o5,o6]) ⟨[],none,none,none,none,fun p hp=>by simp at hp,by simp,rfl⟩ (fun k x hx r hr=>?_) fun r h=>h
  obtain⟨prs,o3,o4,o5,o6,hp,hpl,rfl⟩:=hr;have hk:k<sl.length:=(qA3.mp hx).1;have hxc:=h2 x ((hsm x).mp (qBl hx));obtain⟨A,B,C,e,hA,hB,hC⟩:=zC5 hxc;have hbt:btw cs x=B:=by rw[e];exact zKL hA hB
  have hle:cs.length=A.length+1+B.length+1+C.length:=by rw[e];simp;lia
  have sp:=zM7 (A:=A) (B:=B) (C:=C) (by rw[<- e];lia) hA hB hC;rw[<- e]at sp;have sl2':=zCD (a:=cs) (some (A.length:Int)) (some ((A.length+1+B.length:Nat):Int)) (by lia);rw[zGV _ (by lia) (by lia),show A.length+1+B.length-A.length=B.length+1 by lia,show(cs.drop A.length).take (B.length+1)=x::B by rw[e];simp]at sl2';refine nsw (r':=[some (.str ⟨cs.toArray⟩,0),some (.lst (sl.map sgn),0),some (.lst (prs.map tp4),9),some (sgn x,0),some (.int (A.length:Int),0),some (.int ((A.length+1+B.length:Nat):Int),0),o6]) (by
   unfold sUnpL;rw[c2 rfl rfl sp,zA0]
   rfl) ?_
  rw[zHD];show nxR (zA3 (okR (sl.map sgn)) fun ds=>forGo (.one 6) _ ds [some (.str ⟨cs.toArray⟩,0),some (.lst (sl.map sgn),0),some (.lst (prs.map tp4),9),some (sgn x,0),some (.int (A.length:Int),0),some (.int ((A.length+1+B.length:Nat):Int),0),o6]) _;rw[zA0];refine zFM sgn sl (fun j r=>∃(prs':List (Nat×Nat))(o6:Option Sl),(∀p∈prs',okp cs p)/\prs'.length<=prs.length+j/\r=[some (.str ⟨cs.toArray⟩,0),some (.lst (sl.map sgn),0),some (.lst (prs'.map tp4),9),some (sgn x,0),some (.int (A.length:Int),0),some (.int ((A.length+1+B.length:Nat):Int),0),o6]) ⟨prs,o6,hp,by lia,rfl⟩ (fun j y hy r hr=>?_) fun r h=>?_
  ·obtain⟨prs',o6,hp',hpl',rfl⟩:=hr;have hj:j<sl.length:=(qA3.mp hy).1;have hyc:=h2 y ((hsm y).mp (qBl hy))
   by_cases hyx:y=x
   ·exact zBY (sf (ta0 (tb1 (b2 rfl rfl ((zSP y x).trans (by rw[decide_eq_true hyx];rfl)))))) ⟨prs',_,hp',by lia,rfl⟩
   ·have n1:neD (sgn y) (sgn x)=some (.bl true):=(zSP y x).trans (by rw[decide_eq_false hyx];rfl);have hcn:(x::B).count y=B.count y:=qBx (fun z=>hyx z.symm);have hq:∀ρ:Rh,ρ[0]?=some (some (.str ⟨cs.toArray⟩))->ρ[4]?=some (some (.int (A.length:Int)))->ρ[5]?=some (some (.int ((A.length+1+B.length:Nat):Int)))->ρ[6]?=some (some (sgn y))->eB eqD (eMt countD (eSl (eV 0) (oE (eV 4)) (oE (eV 5))) (aCons (eV 6) aNil)) (eC (.int 1)) ρ=okR (.bl (decide ((B.count y:Nat)=(1:Int)))):=fun ρ h0 h4 h5 h6=>
     b2 (mt1 (sl2 (v1 h0) (v1 h4) (v1 h5) sl2') rfl (v1 h6) ((zKE _ _).trans (by rw[hcn]))) rfl (eqI4 _ _)
    by_cases hc1:B.count y=1
    ·refine zBY (st4 (ta1 (tb1 (b2 rfl rfl n1)) (tb1 ((hq _ rfl rfl rfl rfl).trans (by rw[decide_eq_true (by lia)])))) (app4 (d:=tp4 (x,y)) rfl (et24 rfl rfl) (by simp;lia) (qA4 1) (show 1<=8 by decide))) ⟨prs'++[(x,y)],some (sgn y,0),fun p hp=>?_,by simp;lia,?_⟩
     ·rcases qCg.mp hp with h|h
      ·exact hp' p h
      ·rw[qBs]at h;subst h;exact⟨hxc,hyc,fun z=>hyx z.symm,by rw[hbt];exact hc1⟩
     ·rw[qCh];rfl
    ·exact zBY (sf (ta1 (tb1 (b2 rfl rfl n1)) (tb1 ((hq _ rfl rfl rfl rfl).trans (by rw[decide_eq_false (by lia)]))))) ⟨prs',_,hp',by lia,rfl⟩
  ·obtain⟨prs',o6,hp',hpl',rfl⟩:=h;exact⟨prs',_,_,_,_,hp',by lia,rfl⟩
 obtain⟨r',g,prs,o3,o4,o5,o6,hp,hpl,rfl⟩:=zEN main;refine⟨prs,zB6 rfl (sg (bi1 rfl so) hdl (sg el0' (by decide) (sw g ?_))),hp,by lia⟩;show sRetV 9 2 [some (.str ⟨cs.toArray⟩,0),some (.lst (sl.map sgn),0),some (.lst (prs.map tp4),9),o3,o4,o5,o6]=_;simp
end Mp
namespace Mp
open Mi PySem
theorem lkY4{β:Type}{a:Str}{x:β}{l:List (Str×β)}:((a,x)::l).lookup a=some x:=by rw[qB0,beq_self_eq_true]
theorem lkN4{β:Type}{a b:Str}{x:β}{l:List (Str×β)}{o:Option β}(h:(a==b)=false)(h2:l.lookup a=o):((b,x)::l).lookup a=o:=by rw[qB0,h,<- h2]
theorem fld4{hs:List Str}{f c:Str}{fs:List (Str×Sv)}{v:Sv}{e:EM}{ρ:Rh}(h:e ρ=okR (.ins c fs))(hc:c∈hs)(hf:fs.lookup f=some v):eFld hs f e ρ=okR (dSv v):=by
 rw[zVB,h,zA0];dsimp only;rw[if_pos hc,hf]
theorem mt14{tb:List (Str×FM)}{m c:Str}{fs:List (Str×Sv)}{g:FM}{e0 e1:EM}{ρ:Rh}{d1:Dt}{X:R Dt}(h0:e0 ρ=okR (.ins c fs))(hl:tb.lookup c=some g)(hf:fs.lookup m=none)(h1:e1 ρ=okR d1)(hg:g [.ins c fs,d1]=X):eMeth tb m e0 (aCons e1 aNil) ρ=X:=by
 rw[zNW,h0,zA0];dsimp only;rw[hl];dsimp only;rw[hf];dsimp only;rw[al0 h1,zA0];exact hg
theorem mt04{tb:List (Str×FM)}{m c:Str}{fs:List (Str×Sv)}{g:FM}{e0:EM}{ρ:Rh}{X:R Dt}(h0:e0 ρ=okR (.ins c fs))(hl:tb.lookup c=some g)(hf:fs.lookup m=none)(hg:g [.ins c fs]=X):eMeth tb m e0 aNil ρ=X:=by
 rw[zNW,h0,zA0];dsimp only;rw[hl];dsimp only;rw[hf];dsimp only;exact hg
theorem srf{L n:Nat}{vs:List Nat}{e:EM}{r:Ro}{d:Dt}(he:e (full r)=okR d)(hd:¬(d.dep<=n/\d.dep<=L))(hn:n=L)(he2:e (frz (frzAt vs r))=okR d):sRet L n vs e r=okR (.rt d):=by
 rw[zSA,he,zA0,if_neg hd,if_pos hn,he2];rfl
theorem big4{d:Dt}{n L:Nat}(h:d.dep=1000)(hn:n<=2):¬(d.dep<=n/\d.dep<=L):=fun z=>by lia
noncomputable def tn4(x:Nat):Dt:=.ins "Turn" [("letter",.s ⟨#[x]⟩)]
noncomputable def sh4(b:Int):Dt:=.ins "Shift" [("by",.i b)]
noncomputable def mi4:Dt:=.ins "Mirror" []
theorem n1:(("Swap":Str)==("Turn":Str))=false:=by decide +kernel
theorem n2:(("Mirror":Str)==("Turn":Str))=false:=by decide +kernel
theorem n3:(("Mirror":Str)==("Swap":Str))=false:=by decide +kernel
theorem n4:(("Shift":Str)==("Turn":Str))=false:=by decide +kernel
theorem n5:(("Shift":Str)==("Swap":Str))=false:=by decide +kernel
theorem n6:(("Shift":Str)==("Mirror":Str))=false:=by decide +kernel
theorem m1:(("done":Str)==("letter":Str))=false:=by decide +kernel
theorem m2:(("done":Str)==("one":Str))=false:=by decide +kernel
theorem m3:(("done":Str)==("other":Str))=false:=by decide +kernel
theorem m4:(("done":Str)==("by":Str))=false:=by decide +kernel
theorem kb1:(("back":Str)==("letter":Str))=false:=by decide +kernel
theorem kb2:(("back":Str)==("one":Str))=false:=by decide +kernel
theorem kb3:(("back":Str)==("other":Str))=false:=by decide +kernel
theorem kb4:(("back":Str)==("by":Str))=false:=by decide +kernel
theorem o1:(("other":Str)==("one":Str))=false:=by decide +kernel
theorem nwT{e:EM}{ρ:Rh}{x:Nat}(h:e ρ=okR (sgn x)):eNew "Turn" ["letter"] (aCons e aNil) ρ=okR (tn4 x):=by
 rw[zNV,al0 h];rfl
theorem nwH{e:EM}{ρ:Rh}{b:Int}(h:e ρ=okR (.int b)):eNew "Shift" ["by"] (aCons e aNil) ρ=okR (sh4 b):=by
 rw[zNV,al0 h];rfl
theorem nwS{e1 e2:EM}{ρ:Rh}{x y:Nat}(h1:e1 ρ=okR (sgn x))(h2:e2 ρ=okR (sgn y)):eNew "Swap" ["one","other"] (aCons e1 (aCons e2 aNil)) ρ=okR (swp x y):=by
 rw[zNV,zCP,h1,zA0,al0 h2];rfl
theorem bkT(x:Nat):zCS [tn4 x]=okR (tn4 x):=
 zB6 rfl (srf (nwT (fld4 (v:=.s ⟨#[x]⟩) rfl (by decide) lkY4)) (big4 rfl (by decide)) rfl (nwT (fld4 (v:=.s ⟨#[x]⟩) rfl (by decide) lkY4)))
theorem bkS(x y:Nat):zCT [swp x y]=okR (swp x y):=
 zB6 rfl (srf (nwS (fld4 (v:=.s ⟨#[x]⟩) rfl (by decide) lkY4) (fld4 (v:=.s ⟨#[y]⟩) rfl (by decide) (lkN4 o1 lkY4))) (big4 rfl (by decide)) rfl (nwS (fld4 (v:=.s ⟨#[x]⟩) rfl (by decide) lkY4) (fld4 (v:=.s ⟨#[y]⟩) rfl (by decide) (lkN4 o1 lkY4))))
theorem bkM:zC0 [mi4]=okR mi4:=zB6 rfl (srf (zKY _ _) (big4 rfl (by decide)) rfl (zKY _ _))
theorem eu4{o:Dt->Option Dt}{e:EM}{ρ:Rh}{d d':Dt}(h:e ρ=okR d)(h2:o d=some d'):eU o e ρ=okR d':=by simp[h,h2]
theorem bkH(b:Int):zCF [sh4 b]=okR (sh4 (-b)):=
 zB6 rfl (srf (nwH (eu4 (fld4 (v:=.i b) rfl (by decide) lkY4) rfl)) (big4 rfl (by decide)) rfl (nwH (eu4 (fld4 (v:=.i b) rfl (by decide) lkY4) rfl)))
theorem iso4{ys ns:List Str}{c:Str}{fs:List (Str×Sv)}{e:EM}{ρ:Rh}{b:Bool}(h:e ρ=okR (.ins c fs))(h2:(if c∈ys then okR (Dt.bl true)else if c∈ns then okR (Dt.bl false)else none)=okR (.bl b)):eIsO ys ns e ρ=okR (.bl b):=by
 unfold eIsO;rw[h,zA0];exact h2
theorem et14{e1:EM}{ρ:Rh}{d1:Dt}(h1:e1 ρ=okR d1):eTup (aCons e1 aNil) ρ=okR (.tup [d1]):=by simp[h1]
theorem et34{e1 e2 e3:EM}{ρ:Rh}{d1 d2 d3:Dt}(h1:e1 ρ=okR d1)(h2:e2 ρ=okR d2)(h3:e3 ρ=okR d3):eTup (aCons e1 (aCons e2 (aCons e3 aNil))) ρ=okR (.tup [d1,d2,d3]):=by simp[h1,h2,h3]
theorem no4{c:Str}{ys ns:List Str}(h:¬c∈ys)(h2:c∈ns):(if c∈ys then okR (Dt.bl true)else if c∈ns then okR (Dt.bl false)else none)=okR (.bl false):=by rw[if_neg h,if_pos h2]
theorem vlT(x:Nat):zAV [tn4 x]=okR (.tup [.str "turn",sgn x]):=
 zB6 rfl (sx (tm1 (iso4 rfl (if_pos (by decide)))) (sr (et24 rfl (fld4 (v:=.s ⟨#[x]⟩) rfl (by decide) lkY4)) ⟨qA4 1,qA4 1⟩))
theorem vlS(x y:Nat):zAV [swp x y]=okR (.tup [.str "swap",sgn x,sgn y]):=
 zB6 rfl (sp (tm1 (iso4 rfl (no4 (by decide) (by decide)))) (sx (tm1 (iso4 rfl (if_pos (by decide)))) (sr (et34 rfl (fld4 (v:=.s ⟨#[x]⟩) rfl (by decide) lkY4) (fld4 (v:=.s ⟨#[y]⟩) rfl (by decide) (lkN4 o1 lkY4))) ⟨qA4 1,qA4 1⟩)))
theorem vlM:zAV [mi4]=okR (.tup [.str "mirror"]):=
 zB6 rfl (sp (tm1 (iso4 rfl (no4 (by decide) (by decide)))) (sp (tm1 (iso4 rfl (no4 (by decide) (by decide)))) (sx (tm1 (iso4 rfl (if_pos (by decide)))) (sr (et14 rfl) ⟨qA4 1,qA4 1⟩))))
theorem vlH(b:Int):zAV [sh4 b]=okR (.tup [.str "shift",.int b]):=
 zB6 rfl (sp (tm1 (iso4 rfl (no4 (by decide) (by decide)))) (sp (tm1 (iso4 rfl (no4 (by decide) (by decide)))) (sp (tm1 (iso4 rfl (no4 (by decide) (by decide)))) (sx (tm1 (iso4 rfl (if_pos (by decide)))) (sr (et24 rfl (fld4 (v:=.i b) rfl (by decide) lkY4)) ⟨qA4 1,qA4 1⟩)))))
structure Chg(cs:List Nat)(ch bk:Dt)(due:List Nat)(v v2:Dt):Prop where
 ic:∃c fs,ch=.ins c fs/\c∈(["Change","Turn","Swap","Mirror","Shift"]:List Str)
 ib:∃c fs,bk=.ins c fs/\c∈(["Change","Turn","Swap","Mirror","Shift"]:List Str)
 dn:∀(e0 e1:EM)(ρ:Rh),e0 ρ=okR ch->e1 ρ=okR (.str ⟨cs.toArray⟩)->eMeth [("Turn",zBA),("Swap",zAO),("Mirror",zAW),("Shift",zB0)] "done" e0 (aCons e1 aNil) ρ=okR (.str ⟨due.toArray⟩)
 nb:∀(e0 e1:EM)(ρ:Rh),e0 ρ=okR bk->e1 ρ=okR (.str ⟨due.toArray⟩)->eMeth [("Turn",zBA),("Swap",zAO),("Mirror",zAW),("Shift",zB0)] "done" e0 (aCons e1 aNil) ρ=okR (.str ⟨cs.toArray⟩)
 bc:∀(e0:EM)(ρ:Rh),e0 ρ=okR ch->eMeth [("Turn",zCS),("Swap",zCT),("Mirror",zC0),("Shift",zCF)] "back" e0 aNil ρ=okR bk
 vl:zAV [ch]=okR v
 vb:zAV [bk]=okR v2
 vd:v.dep<=1/\v2.dep<=1
 fx:(∃(k:Str)(r:List Dt),v=.tup (.str k::r)/\(k==("shift":Str))=false/\v2=v)\/∃b,ch=sh4 b/\v=.tup [.str "shift",.int b]/\v2=.tup [.str "shift",.int (0-b)]
 pm:due.Perm cs
 nv:neD v2 v2=some (.bl false)
theorem chT{cs:List Nat}{x:Nat}(hz:cs.length<=90)(hx:cs.count x=2):∃due,zBO [.str ⟨cs.toArray⟩,sgn x]=okR (.str ⟨due.toArray⟩)/\Chg cs (tn4 x) (tn4 x) due (.tup [.str "turn",sgn x]) (.tup [.str "turn",sgn x]):=by
 obtain⟨A,B,C,rfl,hA,hB,hC⟩:=zC5 hx;have d1:=zPZ (A:=A) (B:=B) (C:=C) (x:=x) (by lia) hA hC;have d2:=zPZ (A:=A) (B:=B.reverse) (C:=C) (x:=x) (by simp at hz ⊢;lia) hA hC;rw[show trn A B.reverse C x=A++x::(B++x::C) by simp[trn]]at d2;exact⟨_,zO2 (by lia) hA hB hC,⟨_,_,rfl,by decide⟩,⟨_,_,rfl,by decide⟩,fun e0 e1 ρ h0 h1=>mt14 h0 lkY4 (lkN4 m1 rfl) h1 d1,fun e0 e1 ρ h0 h1=>mt14 h0 lkY4 (lkN4 m1 rfl) h1 d2,fun e0 ρ h0=>mt04 h0 lkY4 (lkN4 kb1 rfl) (bkT x),vlT x,vlT x,⟨qA4 1,qA4 1⟩,.inl ⟨_,_,rfl,by decide +kernel,rfl⟩,qDy.mpr fun z=>by
  unfold trn;simp only[qAs,qDt,List.count_reverse],by simp[Dt.eqL,Dt.eq,sgn]⟩
theorem chS{cs:List Nat}{p:Nat×Nat}(hz:cs.length<=90)(hp:okp cs p):∃due,zB9 [.str ⟨cs.toArray⟩,sgn p.1,sgn p.2]=okR (.str ⟨due.toArray⟩)/\Chg cs (swp p.1 p.2) (swp p.1 p.2) due (.tup [.str "swap",sgn p.1,sgn p.2]) (.tup [.str "swap",sgn p.1,sgn p.2]):=by
 obtain⟨due,h1,h2,h3,h4⟩:=zW8 hz hp.1 hp.2.1 hp.2.2.1 hp.2.2.2;exact⟨due,h1,⟨_,_,rfl,by decide⟩,⟨_,_,rfl,by decide⟩,fun e0 e1 ρ h0 g=>mt14 h0 (lkN4 n1 lkY4) (lkN4 m2 (lkN4 m3 rfl)) g h2,fun e0 e1 ρ h0 g=>mt14 h0 (lkN4 n1 lkY4) (lkN4 m2 (lkN4 m3 rfl)) g h3,fun e0 ρ h0=>mt04 h0 (lkN4 n1 lkY4) (lkN4 kb2 (lkN4 kb3 rfl)) (bkS _ _),vlS _ _,vlS _ _,⟨qA4 1,qA4 1⟩,.inl ⟨_,_,rfl,by decide +kernel,rfl⟩,h4,by simp[Dt.eqL,Dt.eq,sgn]⟩
theorem chM{cs:List Nat}(hz:cs.length<=90):Chg cs mi4 mi4 cs.reverse (.tup [.str "mirror"]) (.tup [.str "mirror"]):=by
 have d2:=zGH cs.reverse (by simp;lia) mi4;rw[List.reverse_reverse]at d2;exact⟨⟨_,_,rfl,by decide⟩,⟨_,_,rfl,by decide⟩,fun e0 e1 ρ h0 g=>mt14 h0 (lkN4 n2 (lkN4 n3 lkY4)) rfl g (zGH cs (by lia) _),fun e0 e1 ρ h0 g=>mt14 h0 (lkN4 n2 (lkN4 n3 lkY4)) rfl g d2,fun e0 ρ h0=>mt04 h0 (lkN4 n2 (lkN4 n3 lkY4)) rfl bkM,vlM,vlM,⟨qA4 1,qA4 1⟩,.inl ⟨_,_,rfl,by decide +kernel,rfl⟩,List.reverse_perm _,by simp[Dt.eqL,Dt.eq,sgn]⟩
theorem chH{cs:List Nat}(hz:cs.length<=90)(h0:0<cs.length)(b:Int):Chg cs (sh4 b) (sh4 (-b)) (sh (b%(cs.length:Int)).toNat cs) (.tup [.str "shift",.int b]) (.tup [.str "shift",.int (-b)]):=by
 have d1:=zHG cs (by lia) h0 b;have hl:=zEY (b%(cs.length:Int)).toNat cs;have d2:=zHG (sh (b%(cs.length:Int)).toNat cs) (by lia) (by lia) (-b);have a0:=qCc b (show(cs.length:Int)≠0 by lia);have a1:=qCv b (show(0:Int)<cs.length by lia);have c0:=qCc (-b) (show(cs.length:Int)≠0 by lia);have c1:=qCv (-b) (show(0:Int)<cs.length by lia);have hs:((b%(cs.length:Int)).toNat+((-b)%(cs.length:Int)).toNat)%cs.length=0:=by
  have h:=Int.add_emod b (-b) (cs.length:Int);rw[Int.add_right_neg,Int.zero_emod]at h;have e:((((b%(cs.length:Int)).toNat+((-b)%(cs.length:Int)).toNat)%cs.length:Nat):Int)=0:=by
   rw[Int.natCast_emod,Int.natCast_add,qCo a0,qCo c0];exact h.symm
  exact Int.natCast_eq_zero.mp e
 rw[hl,zXQ (by lia) (by lia),hs,zTR]at d2;exact⟨⟨_,_,rfl,by decide⟩,⟨_,_,rfl,by decide⟩,fun e0 e1 ρ h0 g=>mt14 h0 (lkN4 n4 (lkN4 n5 (lkN4 n6 lkY4))) (lkN4 m4 rfl) g d1,fun e0 e1 ρ h0 g=>mt14 h0 (lkN4 n4 (lkN4 n5 (lkN4 n6 lkY4))) (lkN4 m4 rfl) g d2,fun e0 ρ h0=>mt04 h0 (lkN4 n4 (lkN4 n5 (lkN4 n6 lkY4))) (lkN4 kb4 rfl) (bkH b),vlH b,vlH (-b),⟨qA4 1,qA4 1⟩,.inr ⟨b,rfl,rfl,by rw[Int.zero_sub]⟩,by
  unfold sh;exact(List.perm_append_comm).trans (by rw[qFa]),by simp[Dt.eqL,Dt.eq,sgn]⟩
theorem zQ0:∀prs:List (Nat×Nat),Dt.depL (prs.map tp4)<=1
 |[]=>qAi _
 |p::r=>by
  rw[qAu,Dt.depL]
  have:=zQ0 r
  have h:(tp4 p).dep=1:=rfl
  lia
theorem zVM{cs:List Nat}(h0:0<cs.length)(hz:cs.length<=60)(h2:∀x∈cs,cs.count x=2)(z:Int)(hz0:0<=z):∃ch bk due v v2,zDD [.str ⟨cs.toArray⟩,.int z]=okR (.tup [ch,.str ⟨due.toArray⟩])/\Chg cs ch bk due v v2:=by
 obtain⟨prs,hcr,hpr,hpl⟩:=zNR h0 hz h2;have hlen:=zFY (cs:=cs) (by lia);obtain⟨q,hq⟩:∃q:Nat,z/4%(cs.length:Int)=(q:Int):=⟨_,(qCo (qCc (z/4) (show(cs.length:Int)≠0 by lia))).symm⟩
 have hql:q<cs.length:=by have:=qCv (z/4) (show(0:Int)<cs.length by lia);lia
 have hx:=zPJ (cs:=cs) (k:=q) hql (by lia);have hxm:cs.getD q 0∈cs:=zRV hql
 generalize cs.getD q 0=x at hx hxm
 have hdp:(Dt.lst (prs.map tp4)).dep<=9:=by
  have:=zQ0 prs
  show Dt.depL (prs.map tp4)+1<=9
  lia
 have hll:lenD [.lst (prs.map tp4)]=some (.int (prs.length:Int)):=by simp[show prs.length<=100000 by lia]
 have d4:∀ρ:Rh,ρ[1]?=some (some (.int z))->eB divD (eV 1) (eC (.int 4)) ρ=okR (.int (z/4)):=fun ρ h=>b2 (v1 h) rfl (dvi ⟨by decide,by decide⟩)
 have q4:∀ρ:Rh,ρ[1]?=some (some (.int z))->eB modD (eV 1) (eC (.int 4)) ρ=okR (.int (z%4)):=fun ρ h=>b2 (v1 h) rfl (mdi (by decide) rfl)
 by_cases hA:z%4=1/\0<prs.length
 ·obtain⟨u,hu⟩:∃u:Nat,z/4%(prs.length:Int)=(u:Int):=⟨_,(qCo (qCc (z/4) (show(prs.length:Int)≠0 by lia))).symm⟩
  have hul:u<prs.length:=by have:=qCv (z/4) (show(0:Int)<prs.length by lia);lia
  have hix:ixD (.lst (prs.map tp4)) (.int (u:Int))=some (tp4 prs[u]):=by
   rw[zEU];exact zC4 (j:=u) rfl (by rw[qAn,qA9 hul];rfl)
  have hp:=hpr prs[u] (qCq hul)
  generalize prs[u]=p at hix hp
  obtain⟨due,e,C⟩:=chS (by lia) hp;have hv:∀ρ:Rh,ρ[4]?=some (some (sgn p.1))->ρ[5]?=some (some (sgn p.2))->ρ[0]?=some (some (.str ⟨cs.toArray⟩))->eTup (aCons (eNew "Swap" ["one","other"] (aCons (eV 4) (aCons (eV 5) aNil))) (aCons (eCall zB9 (aCons (eV 0) (aCons (eV 4) (aCons (eV 5) aNil)))) aNil)) ρ=okR (.tup [swp p.1 p.2,.str ⟨due.toArray⟩]):=fun ρ a b c=>et24 (nwS (v1 a) (v1 b)) (c3 (v1 c) (v1 a) (v1 b) e)
  refine⟨_,_,due,_,_,zB6 rfl (sg (b2 rfl (b2 (d4 _ rfl) (bi1 rfl hlen) (mdi (by lia) hq)) hx) (qA4 0) (sg (c1 rfl hcr) hdp (sx (ta1 (eqi (q4 _ rfl) rfl (decide_eq_true hA.1)) (tb1 (b2 (bi1 rfl hll) rfl (cmi (decide_eq_true (by lia)))))) (sw (r':=[some (.str ⟨cs.toArray⟩,0),some (.int z,0),some (sgn x,0),some (.lst (prs.map tp4),0),some (sgn p.1,0),some (sgn p.2,0),none]) (by
   unfold sUnp;rw[b2 rfl (b2 (d4 _ rfl) (bi1 rfl hll) (mdi (by lia) hu)) hix,zA0]
   rfl) (srf (hv _ rfl rfl rfl) (fun w=>absurd w.1 (show ¬(1001<=1) by decide)) rfl (hv _ rfl rfl rfl)))))),C⟩
 ·have cf:∀ρ:Rh,ρ[1]?=some (some (.int z))->ρ[3]?=some (some (.lst (prs.map tp4)))->tAn (tB (eB eqD (eB modD (eV 1) (eC (.int 4))) (eC (.int 1)))) (tB (eB (cmpD fun i j=>decide (j<i)) (eBi lenD (aCons (eV 3) aNil)) (eC (.int 0)))) ρ=okR false:=fun ρ a b=>by
   by_cases h1:z%4=1
   ·exact ta1 (eqi (q4 _ a) rfl (decide_eq_true h1)) (tb1 (b2 (bi1 (v1 b) hll) rfl (cmi (decide_eq_false (fun w=>hA ⟨h1,by lia⟩)))))
   ·exact ta0 (eqi (q4 _ a) rfl (decide_eq_false h1))
  by_cases hB:z%4=2
  ·have hr:rvsD [.str ⟨cs.toArray⟩]=some (.lst (cs.reverse.map sgn)):=by
    show(@ite _ ((⟨cs.toArray⟩:Str).length<=1000) (qA2 _) (some (Dt.lst (signsD ⟨cs.toArray⟩).reverse)) none)=_
    rw[if_pos (by show cs.toArray.size<=1000;simp;lia),List.map_reverse];rfl
   have hv:∀ρ:Rh,ρ[0]?=some (some (.str ⟨cs.toArray⟩))->eTup (aCons (eNew0 "Mirror") (aCons (eMt joinD (eC (.str "")) (aCons (eBi rvsD (aCons (eV 0) aNil)) aNil)) aNil)) ρ=okR (.tup [mi4,.str ⟨cs.reverse.toArray⟩]):=fun ρ a=>et24 (zKY _ _) (mt1 rfl rfl (bi1 (v1 a) hr) (zRN cs.reverse (by simp;lia)))
   exact⟨_,_,_,_,_,zB6 rfl (sg (b2 rfl (b2 (d4 _ rfl) (bi1 rfl hlen) (mdi (by lia) hq)) hx) (qA4 0) (sg (c1 rfl hcr) hdp (sp (cf _ rfl rfl) (sx (eqi (q4 _ rfl) rfl (decide_eq_true hB)) (srf (hv _ rfl) (fun w=>absurd w.1 (show ¬(1001<=1) by decide)) rfl (hv _ rfl)))))),chM (by lia)⟩
  ·by_cases hC:z%4=3
   ·obtain⟨b,hb⟩:∃b:Int,z/4%61-30=b:=⟨_,rfl⟩
    have c0:=qCc b (show(cs.length:Int)≠0 by lia);obtain⟨s,hs⟩:∃s:Nat,b%(cs.length:Int)=(s:Int):=⟨_,(qCo c0).symm⟩
    have s1:=zCD (a:=cs) none (some (s:Int)) (by lia);have s2:=zCD (a:=cs) (some (s:Int)) none (by lia);rw[zHY]at s1;rw[zE0]at s2;have a2:=add_str (a:=cs.drop s) (b:=cs.take s) (by simp;lia);have C:=chH (cs:=cs) (by lia) h0 b;rw[hs,qCi]at C;have hv:∀ρ:Rh,ρ[6]?=some (some (.int b))->ρ[0]?=some (some (.str ⟨cs.toArray⟩))->eTup (aCons (eNew "Shift" ["by"] (aCons (eV 6) aNil)) (aCons (eB addD (eSl (eV 0) (oE (eB modD (eV 6) (eBi lenD (aCons (eV 0) aNil)))) oNo) (eSl (eV 0) oNo (oE (eB modD (eV 6) (eBi lenD (aCons (eV 0) aNil)))))) aNil)) ρ=okR (.tup [sh4 b,.str ⟨(sh s cs).toArray⟩]):=fun ρ a c=>by
     have mm:=b2 (o:=modD) (v1 a) (bi1 (v1 c) hlen) (mdi (by lia) hs);exact et24 (nwH (v1 a)) (b2 (sl1 (v1 c) mm s2) (sl0 (v1 c) mm s1) a2)
    exact⟨_,_,_,_,_,zB6 rfl (sg (b2 rfl (b2 (d4 _ rfl) (bi1 rfl hlen) (mdi (by lia) hq)) hx) (qA4 0) (sg (c1 rfl hcr) hdp (sp (cf _ rfl rfl) (sp (eqi (q4 _ rfl) rfl (decide_eq_false hB)) (sx (eqi (q4 _ rfl) rfl (decide_eq_true hC)) (sg (b2 (b2 (d4 _ rfl) rfl (mdi (by decide) rfl)) rfl (sbi hb)) (qA4 0) (srf (hv _ rfl rfl) (fun w=>absurd w.1 (show ¬(1001<=1) by decide)) rfl (hv _ rfl rfl)))))))),C⟩
   ·obtain⟨due,e,C⟩:=chT (cs:=cs) (x:=x) (by lia) (h2 x hxm);have hv:∀ρ:Rh,ρ[2]?=some (some (sgn x))->ρ[0]?=some (some (.str ⟨cs.toArray⟩))->eTup (aCons (eNew "Turn" ["letter"] (aCons (eV 2) aNil)) (aCons (eCall zBO (aCons (eV 0) (aCons (eV 2) aNil))) aNil)) ρ=okR (.tup [tn4 x,.str ⟨due.toArray⟩]):=fun ρ a c=>et24 (nwT (v1 a)) (c2 (v1 c) (v1 a) e)
    exact⟨_,_,due,_,_,zB6 rfl (sg (b2 rfl (b2 (d4 _ rfl) (bi1 rfl hlen) (mdi (by lia) hq)) hx) (qA4 0) (sg (c1 rfl hcr) hdp (sp (cf _ rfl rfl) (sp (eqi (q4 _ rfl) rfl (decide_eq_false hB)) (sp (eqi (q4 _ rfl) rfl (decide_eq_false hC)) (srf (hv _ rfl rfl) (fun w=>absurd w.1 (show ¬(1001<=1) by decide)) rfl (hv _ rfl rfl))))))),C⟩
def Dn4(w:List Nat)(ch:Dt)(w':List Nat):Prop:=∀(e0 e1:EM)(ρ:Rh),e0 ρ=okR ch->e1 ρ=okR (.str ⟨w.toArray⟩)->eMeth [("Turn",zBA),("Swap",zAO),("Mirror",zAW),("Shift",zB0)] "done" e0 (aCons e1 aNil) ρ=okR (.str ⟨w'.toArray⟩)
inductive Chn:List Nat->List Dt->List Nat->Prop
 |nil (w:List Nat):Chn w [] w
 |cons {w w' wn:List Nat} {ch:Dt} {chs:List Dt} (h:Dn4 w ch w') (t:Chn w' chs wn):Chn w (ch::chs) wn
theorem Chn.snoc{w wn wm:List Nat}{ch:Dt}{chs:List Dt}(h:Chn w chs wn)(d:Dn4 wn ch wm):Chn w (chs++[ch]) wm:=by
 induction h with
 |nil w=>exact .cons d (.nil _)
 |cons h t ih=>exact .cons h (ih d)
theorem zDE{w wn:List Nat}{chs:List Dt}(h:Chn w chs wn):zBW [.str ⟨w.toArray⟩,.lst chs]=okR (.str ⟨wn.toArray⟩):=by
 refine zB6 rfl (sg rfl (qA4 0) (zCH fun bb hb=>?_));rw[zHD];show nxR (zA3 (okR chs) fun ds=>forGo (.one 3) _ ds [some (.str ⟨w.toArray⟩,0),some (.lst chs,0),some (.str ⟨w.toArray⟩,0),none]) _;rw[zA0,show chs=chs.map id from(List.map_id _).symm];refine zFM id chs (fun k r=>∃(u:List Nat)(o3:Option Sl),Chn u (chs.drop k) wn/\r=[some (.str ⟨w.toArray⟩,0),some (.lst (chs.map id),0),some (.str ⟨u.toArray⟩,0),o3]) ⟨w,none,h,rfl⟩ (fun k ch hch r hr=>?_) fun r hr=>?_
 ·obtain⟨u,o3,hu,rfl⟩:=hr;obtain⟨hk,ek⟩:=qA3.mp hch;rw[qBc hk,ek]at hu;cases hu with
  |cons d t=>exact zBY (ss (d _ _ _ rfl rfl) (qA4 0)) ⟨_,_,t,rfl⟩
 ·obtain⟨u,o3,hu,rfl⟩:=hr;rw[qEt]at hu;cases hu;subst hb;show sRetV 0 2 [some (.str ⟨w.toArray⟩,0),some (.lst (chs.map id),0),some (.str ⟨wn.toArray⟩,0),o3]=_;simp
theorem apF4{r:Ro}{i:Nat}{vs:List Nat}{e:EM}{ds:List Dt}{d:Dt}(h:(frzAt vs (low i r))[i]?=some (some (.lst ds,1)))(he:e (frz (frzAt vs (low i r)))=okR d)(hl:ds.length<=100000):sAppF i vs e r=okR (.nx ((frzAt vs (low i r)).set i (some (.lst (ds++[d]),1)))):=by
 unfold sAppF;rw[h];rw[he]
 show(@ite _ (ds.length<=100000) (qA2 _) _ none)=_
 exact if_pos hl
theorem ssf4{i n:Nat}{vs:List Nat}{e:EM}{r:Ro}{d:Dt}(he:e (full r)=okR d)(hd:¬d.dep<=n)(he2:e (frz (frzAt vs r))=okR d):sSet i n vs e r=okR (.nx ((frzAt vs r).set i (some (d,n)))):=by
 rw[zJ5,he,zA0,if_neg hd,he2];rfl
theorem eq4(u:Str):eqD (.str u) (.str u)=some (.bl true):=by
 show(if(Dt.str u).dep<=40/\(Dt.str u).dep<=40 then some (Dt.bl (Dt.eq (.str u) (.str u)))else none)=_
 rw[if_pos ⟨qAi _,qAi _⟩];show some (Dt.bl (u==u))=_;rw[beq_self_eq_true]
theorem eqF4{u v:Str}(h:(u==v)=false):eqD (.str u) (.str v)=some (.bl false):=by
 show(if(Dt.str u).dep<=40/\(Dt.str v).dep<=40 then some (Dt.bl (Dt.eq (.str u) (.str v)))else none)=_
 rw[if_pos ⟨qAi _,qAi _⟩];show some (Dt.bl (u==v))=_;rw[h]
theorem zRK(ns:List Int)(hl:ns.length<=63)(hw:∀i∈ns,i.natAbs.log2<2 ^ 20):zK7 [.scr ns]=okR (.bl true):=by
 have e0:zCE [.scr ns,.int 14]=okR (.lst ((mixL ns (max 14 ns.length)).map .int)):=zP8 ns 14 (by lia) hl
 generalize hcl:mixL ns (max 14 ns.length)=cl at e0
 have hcl2:14<=cl.length/\cl.length<=63:=by rw[<- hcl];simp[mixL];lia
 have hb:∀c∈cl,0<=c:=by
  intro c hc;rw[<- hcl]at hc;obtain⟨k,_,rfl⟩:=qC8.mp hc;exact(zUE ns k).1
 obtain⟨w0,ls,ew,hp,hn,l1,l2,hab⟩:=zMX cl (by lia) (by lia) hb;have hw0:=hp.length_eq;simp at hw0;have h20:∀x∈w0,w0.count x=2:=fun x hx=>zQ7 hp hn hx
 have hdep:(Dt.lst (cl.map Dt.int)).dep<=9:=by
  have:Dt.depL (cl.map Dt.int)=0:=zUT fun d hd=>by obtain⟨c,_,rfl⟩:=qC8.mp hd;rfl
  show Dt.depL (cl.map Dt.int)+1<=9
  lia
 obtain⟨cc,hcc,hcm,hcn⟩:∃cc:List Int,slD (.lst (cl.map Dt.int)) (some 11) (some 31)=some (.lst (cc.map Dt.int))/\(∀c∈cc,0<=c)/\cc.length<=63:=by
  refine⟨cutA cl (some 11) (some 31),?_,fun c hc=>?_,?_⟩
  ·show some (Dt.lst (cutA (cl.map Dt.int) (some 11) (some 31)))=_;unfold cutA;rw[qAq,List.map_take,List.map_drop]
  ·unfold cutA at hc;exact hb c (List.mem_of_mem_drop (List.mem_of_mem_take hc))
  ·unfold cutA;simp only[qEo,qEp]
   lia
 generalize Dt.lst (cl.map Dt.int)=CL at e0 ew hdep hcc
 refine zB6 rfl (sg (c2 rfl rfl e0) hdep (sg (c2 rfl rfl ew) (qAi _) (sg rfl (qA4 0) (sg el0' (by decide) (sg el0' (by decide) (zCH fun bb hb2=>?_))))));rw[zHD];have hit:∀ρ:Rh,ρ[1]?=some (some CL)->iSq (eSl (eV 1) (oE (eC (.int 11))) (oE (eC (.int 31)))) ρ=okR (cc.map Dt.int):=fun ρ h=>by
  rw[zXJ,sl2 (v1 h) rfl rfl hcc,zA0]
 rw[hit _ rfl,zA0];show nxR (forGo (.one 6) _ _ [some (.scr ns,0),some (CL,0),some (.str ⟨w0.toArray⟩,1),some (.str ⟨w0.toArray⟩,0),some (.lst [],8+1),some (.lst [],8+1),none,none,none,none,none,none]) _;refine zFM Dt.int cc (fun k r=>∃(here:List Nat)(chs bks:List Dt)(l4 l5:Nat)(o6 o7 o8 o9 o10:Option Sl),(Chn w0 chs here/\Chn here bks.reverse w0/\here.Perm w0/\chs.all isIns=true/\chs.length<=k/\bks.length<=k)/\r=[some (.scr ns,0),some (CL,0),some (.str ⟨w0.toArray⟩,1),some (.str ⟨here.toArray⟩,0),some (.lst chs,l4+1),some (.lst bks,l5+1),o6,o7,o8,o9,o10,none]) ⟨w0,[],[],8,8,none,none,none,none,none,⟨.nil _,.nil _,qFd _,rfl,qA4 0,qA4 0⟩,rfl⟩ (fun k z hz r hr=>?_) fun r hr=>?_
 ·obtain⟨here,chs,bks,l4,l5,o6,o7,o8,o9,o10,⟨c1',c2',hpm,hins,hk1,hk2⟩,rfl⟩:=hr;have hk:k<cc.length:=(qA3.mp hz).1;have hzl:=hpm.length_eq;obtain⟨ch,bk,due,v,v2,hs,C⟩:=zVM (cs:=here) (by lia) (by lia) (fun x hx=>by rw[hpm.count_eq];exact h20 x (hpm.mem_iff.mp hx)) z (hcm z (qBl hz));obtain⟨cn,fs,rfl,hcn1⟩:=C.ic;obtain⟨cb,fb,rfl,hcn2⟩:=C.ib;refine nsw (r':=[some (.scr ns,0),some (CL,0),some (.str ⟨w0.toArray⟩,1),some (.str ⟨here.toArray⟩,0),some (.lst chs,l4+1),some (.lst bks,l5+1),some (.int z,0),some (.ins cn fs,0),some (.str ⟨due.toArray⟩,0),o9,o10,none]) (by
   unfold sUnp;rw[c2 rfl rfl hs,zA0]
   rfl) ?_
  refine nsw (sf (to0 (tn1 (tm1 (iso4 (b:=true) rfl (if_pos hcn1)))) (tb1 (b2 (C.dn _ _ _ rfl rfl) rfl (zIO _))))) ?_;refine nsw (ssf4 (C.bc _ _ rfl) (show ¬(1000<=0) by decide) (C.bc _ _ rfl)) ?_;refine nsw (ss (c1 rfl C.vl) C.vd.1) ?_;have hfix:sIf (tB (eB eqD (eB ixD (eV 10) (eC (.int 0))) (eC (.str "shift")))) (sSet 10 1 [7] (eTup (aCons (eC (.str "shift")) (aCons (eB subD (eC (.int 0)) (eFld ["Shift"] "by" (eV 7))) aNil)))) sNil [some (.scr ns,0),some (CL,0),some (.str ⟨w0.toArray⟩,1),some (.str ⟨here.toArray⟩,0),some (.lst chs,l4+1),some (.lst bks,l5+1),some (.int z,0),some (.ins cn fs,0),some (.str ⟨due.toArray⟩,0),some (.ins cb fb,0),some (v,1),none]=okR (.nx [some (.scr ns,0),some (CL,0),some (.str ⟨w0.toArray⟩,1),some (.str ⟨here.toArray⟩,0),some (.lst chs,l4+1),some (.lst bks,l5+1),some (.int z,0),some (.ins cn fs,0),some (.str ⟨due.toArray⟩,0),some (.ins cb fb,0),some (v2,1),none]):=by
   rcases C.fx with⟨kk,rr,hv,hne,hv2⟩|⟨b,hb',hv,hv2⟩
   ·have hix:ixD v (.int 0)=some (.str kk):=by
     rw[hv];show itA (Dt.str kk::rr) 0=_;simp[itA,ixA]
    rw[hv2];exact sf (tb1 (b2 (b2 rfl rfl hix) rfl (eqF4 hne)))
   ·have hix:ixD v (.int 0)=some (.str "shift"):=by rw[hv];rfl
    rw[hv2,hb'];exact st4 (tb1 (b2 (b2 rfl rfl hix) rfl (eq4 _))) (ss (et24 rfl (b2 rfl (fld4 (v:=.i b) rfl (by decide) lkY4) (sbi rfl))) (qA4 1))
  refine nsw hfix ?_;refine nsw (sf (to0 (tn1 (tm1 (iso4 (b:=true) rfl (if_pos hcn2)))) (to0 (tb1 (b2 (c1 rfl C.vb) rfl C.nv)) (tb1 (b2 (C.nb _ _ _ rfl rfl) rfl (zIO _)))))) ?_;refine nsw (apF4 (ds:=chs) (d:=.ins cn fs) rfl rfl (by lia)) ?_;refine nsw (apF4 (ds:=bks) (d:=.ins cb fb) rfl rfl (by lia)) ?_;refine zBY (ss (d:=.str ⟨due.toArray⟩) rfl (qA4 0)) ⟨due,chs++[.ins cn fs],bks++[.ins cb fb],0,0,_,_,_,_,_,⟨c1'.snoc (show Dn4 here (.ins cn fs) due from C.dn),?_,C.pm.trans hpm,?_,by simp;lia,by simp;lia⟩,rfl⟩
  ·rw[qFj];exact .cons (show Dn4 due (.ins cb fb) here from C.nb) c2'
  ·rw[List.all_append,hins];rfl
 ·obtain⟨here,chs,bks,l4,l5,o6,o7,o8,o9,o10,⟨c1',c2',hpm,hins,hk1,hk2⟩,rfl⟩:=hr;subst hb2;have hkept:sKept 11 4 (tB (eB neD (eCall zBW (aCons (eV 2) (aCons (eV 4) aNil))) (eV 3))) (tB (eB neD (eCall zBW (aCons (eV 2) (aCons (eLst aNil) aNil))) (eV 2))) [some (.scr ns,0),some (CL,0),some (.str ⟨w0.toArray⟩,1),some (.str ⟨here.toArray⟩,0),some (.lst chs,l4+1),some (.lst bks,l5+1),o6,o7,o8,o9,o10,none]=okR (.nx [some (.scr ns,0),some (CL,0),some (.str ⟨w0.toArray⟩,1),some (.str ⟨here.toArray⟩,0),some (.lst chs,0),some (.lst bks,l5+1),o6,o7,o8,o9,o10,some (.lst chs,1)]):=by
   unfold sKept
   show(if(4≠11/\11<12)/\chs.all isIns=true then _ else none)=_
   refine(if_pos ⟨⟨by decide,by decide⟩,hins⟩).trans ?_;show sIf _ _ _ [some (.scr ns,0),some (CL,0),some (.str ⟨w0.toArray⟩,1),some (.str ⟨here.toArray⟩,0),some (.lst chs,0),some (.lst bks,l5+1),o6,o7,o8,o9,o10,some (.lst chs,1)]=_;rw[zJ6,tb1 (b2 (c2 rfl rfl (zDE c1')) rfl (zIO _)),zA0,if_neg (by decide),zJ6,tb1 (b2 (c2 rfl el0' (zDE (Chn.nil _))) rfl (zIO _)),zA0,if_neg (by decide)];rfl
  refine sw hkept (sr (b2 (c2 rfl (bi1 rfl ?_) (zDE c2')) rfl (eq4 _)) ⟨qA4 0,qA4 0⟩);rfl
end Mp
set_option maxHeartbeats 4000000
namespace Q54
open PySem PyProof.Rows
open L2 hiding Rep RepL
open L3
open Mp
noncomputable def top(i:Nat):Stmt:=qEm.main.body.getD i (.Pass ⟨0,0,0,0⟩)
abbrev zBN:Stmt:=zDT 2 (top 14)
theorem zJ4:FnScope ["self"] ["self"] (zA5 zBN):=⟨rfl,rfl,rfl,by decide +kernel,rfl,by decide +kernel,by decide +kernel⟩
abbrev zBM:Stmt:=zDT 0 (top 14)
theorem zJ3:FnScope ["self","word"] ["self","word"] (zA5 zBM):=⟨rfl,rfl,rfl,by decide +kernel,rfl,by decide +kernel,by decide +kernel⟩
abbrev zBV:Stmt:=zDT 3 (top 15)
theorem zKV:FnScope ["self"] ["self"] (zA5 zBV):=⟨rfl,rfl,rfl,by decide +kernel,rfl,by decide +kernel,by decide +kernel⟩
abbrev zG9:Stmt:=top 17
theorem S_shifted:FnScope ["word","by","signs"] ["word","by"] (zA5 zG9):=⟨rfl,rfl,rfl,by decide +kernel,rfl,by decide +kernel,by decide +kernel⟩
abbrev zBU:Stmt:=zDT 1 (top 15)
theorem zKU:FnScope ["self","word"] ["self","word"] (zA5 zBU):=⟨rfl,rfl,rfl,by decide +kernel,rfl,by decide +kernel,by decide +kernel⟩
abbrev zCA:Stmt:=zDT 3 (top 13)
theorem zLV:FnScope ["self"] ["self"] (zA5 zCA):=⟨rfl,rfl,rfl,by decide +kernel,rfl,by decide +kernel,by decide +kernel⟩
abbrev zD8:Stmt:=top 7
theorem zJ1:FnScope ["text","letter"] ["text","letter"] (zA5 zD8):=⟨rfl,rfl,rfl,by decide +kernel,rfl,by decide +kernel,by decide +kernel⟩
abbrev zEG:Stmt:=top 6
theorem zLT:FnScope ["word","letter"] ["word","letter"] (zA5 zEG):=⟨rfl,rfl,rfl,by decide +kernel,rfl,by decide +kernel,by decide +kernel⟩
abbrev zFI:Stmt:=top 9
theorem S_do_cross:FnScope ["word","one","other","places"] ["word","one","other"] (zA5 zFI):=⟨rfl,rfl,rfl,by decide +kernel,rfl,by decide +kernel,by decide +kernel⟩
abbrev zEH:Stmt:=top 18
theorem S_exchanged:FnScope ["word","cuts","first","between","second"] ["word","cuts"] (zA5 zEH):=⟨rfl,rfl,rfl,by decide +kernel,rfl,by decide +kernel,by decide +kernel⟩
abbrev zC9:Stmt:=zDT 1 (top 13)
theorem S_Swap_done:FnScope ["self","word","cuts"] ["self","word"] (zA5 zC9):=⟨rfl,rfl,rfl,by decide +kernel,rfl,by decide +kernel,by decide +kernel⟩
abbrev zC8:Stmt:=zDT 3 (top 12)
theorem zLU:FnScope ["self"] ["self"] (zA5 zC8):=⟨rfl,rfl,rfl,by decide +kernel,rfl,by decide +kernel,by decide +kernel⟩
abbrev zC7:Stmt:=zDT 1 (top 12)
theorem S_Turn_done:FnScope ["self","word","places","start"] ["self","word"] (zA5 zC7):=⟨rfl,rfl,rfl,by decide +kernel,rfl,by decide +kernel,by decide +kernel⟩
abbrev zDO:Stmt:=top 20
theorem S__law_mixed:FnScope ["_law_script","_law_least","_law_made","_law_k","_law_cell","_law_first"] ["_law_script","_law_least"] (zA5 zDO):=⟨rfl,rfl,rfl,by decide +kernel,rfl,by decide +kernel,by decide +kernel⟩
abbrev zDN:Stmt:=top 22
theorem zKT:FnScope ["_law_word_here","_law_letter"] ["_law_word_here","_law_letter"] (zA5 zDN):=⟨rfl,rfl,rfl,by decide +kernel,rfl,by decide +kernel,by decide +kernel⟩
abbrev zCQ:Stmt:=top 24
theorem S__law_crossing:FnScope ["_law_word_here","_law_letters","_law_found","_law_one","_law_first","_law_second","_law_other"] ["_law_word_here"] (zA5 zCQ):=⟨rfl,rfl,rfl,by decide +kernel,rfl,by decide +kernel,by decide +kernel⟩
abbrev zD1:Stmt:=top 25
theorem S__law_swapped:FnScope ["_law_word_here","_law_one","_law_other","_law_spots_here","_law_parts","_law_k","_law_middle"] ["_law_word_here","_law_one","_law_other"] (zA5 zD1):=⟨rfl,rfl,rfl,by decide +kernel,rfl,by decide +kernel,by decide +kernel⟩
abbrev zDA:Stmt:=top 23
theorem S__law_turned:FnScope ["_law_word_here","_law_letter","_law_first","_law_second","_law_stretch","_law_sign"] ["_law_word_here","_law_letter"] (zA5 zDA):=⟨rfl,rfl,rfl,by decide +kernel,rfl,by decide +kernel,by decide +kernel⟩
abbrev zEJ:Stmt:=top 26
theorem S__law_step:FnScope ["_law_word_here","_law_cell","_law_letter","_law_pairs","_law_one","_law_other","_law_by"] ["_law_word_here","_law_cell"] (zA5 zEJ):=⟨rfl,rfl,rfl,by decide +kernel,rfl,by decide +kernel,by decide +kernel⟩
abbrev zD9:Stmt:=top 27
theorem zJ2:FnScope ["_law_change"] ["_law_change"] (zA5 zD9):=⟨rfl,rfl,rfl,by decide +kernel,rfl,by decide +kernel,by decide +kernel⟩
abbrev zEI:Stmt:=top 21
theorem S__law_word:FnScope ["_law_cells","_law_most","_law_letters","_law_word_here","_law_k","_law_letter","_law_place"] ["_law_cells","_law_most"] (zA5 zEI):=⟨rfl,rfl,rfl,by decide +kernel,rfl,by decide +kernel,by decide +kernel⟩
abbrev zFH:Stmt:=top 16
theorem S_done_all:FnScope ["word","changes","told","change"] ["word","changes"] (zA5 zFH):=⟨rfl,rfl,rfl,by decide +kernel,rfl,by decide +kernel,by decide +kernel⟩
abbrev zI9:Stmt:=top 28
theorem S_law:FnScope ["_law_script","_law_cells","_law_word_here","_law_here","_law_changes","_law_backs","_law_cell","_law_change","_law_due","_law_back","_law_values_here","_law_kept"] ["_law_script"] (zA5 zI9):=⟨rfl,rfl,rfl,by decide +kernel,rfl,by decide +kernel,by decide +kernel⟩
section
variable{P:Program}{w:World}{K:qA0}{mg:Str->Option Value}{base:Heap}
abbrev zC6:Stmt:=zY4 (top 3)
theorem zLS:FnScope ["self","letter"] ["self","letter"] (zA5 zC6):=⟨rfl,rfl,rfl,by decide +kernel,rfl,by decide +kernel,by decide +kernel⟩
theorem zFV{f:Addr}{fd:FuncData}(F:Fun K "__init__" "NoLetter.__init__" zC6 f fd){B:Addr}(hB:XBase K B)(hm:mg "RoundError" = some (.ref B)):FnOk P w K mg base (CXe P w) 1 f fd ["self","letter"] (zG5 K "letter"):=by
 refine F.okX (k:=0) zLS (zRR rfl) (fun cdv A outer s H vs Q E hr h=>?_);exact⟨_,zA4 (zFK (zR7 hB rfl hm (zA1 (pv 0) (zA1 (pv 1) zA7)))) (zAH (zR5 (pv 0) (pv 1) rfl)),zRQ h⟩
abbrev zFF:Stmt:=zDT 0 (top 12)
theorem zV6:FnScope ["self","letter"] ["self","letter"] (zA5 zFF):=⟨rfl,rfl,rfl,by decide +kernel,rfl,by decide +kernel,by decide +kernel⟩
theorem ok_oini_Turn{f:Addr}{fd:FuncData}(F:Fun K "__init__" "Turn.__init__" zFF f fd):FnOk P w K mg base (CXe P w) 1 f fd ["self","letter"] (zI4 K ["letter"]):=by
 refine F.okX (k:=0) zV6 (zLE rfl) (fun cdv A outer s H vs Q E hr h=>?_);exact⟨_,(zAH (zMG (pv 0) (pv 1) rfl)),zMO h⟩
abbrev zFG:Stmt:=zDT 0 (top 13)
theorem zV7:FnScope ["self","one","other"] ["self","one","other"] (zA5 zFG):=⟨rfl,rfl,rfl,by decide +kernel,rfl,by decide +kernel,by decide +kernel⟩
theorem ok_oini_Swap{f:Addr}{fd:FuncData}(F:Fun K "__init__" "Swap.__init__" zFG f fd):FnOk P w K mg base (CXe P w) 1 f fd ["self","one","other"] (zI4 K ["one","other"]):=by
 refine F.okX (k:=0) zV7 (zLE rfl) (fun cdv A outer s H vs Q E hr h=>?_);exact⟨_,(zA4 (zMG (pv 0) (pv 1) rfl) (zAH (zMG (pv 0) (pv 2) rfl))),zRP (by decide) h⟩
abbrev zDW:Stmt:=zDT 0 (top 15)
theorem zS8:FnScope ["self","by"] ["self","by"] (zA5 zDW):=⟨rfl,rfl,rfl,by decide +kernel,rfl,by decide +kernel,by decide +kernel⟩
theorem ok_oini_Shift{f:Addr}{fd:FuncData}(F:Fun K "__init__" "Shift.__init__" zDW f fd):FnOk P w K mg base (CXe P w) 1 f fd ["self","by"] (zI4 K ["by"]):=by
 refine F.okX (k:=0) zS8 (zLE rfl) (fun cdv A outer s H vs Q E hr h=>?_);exact⟨_,(zAH (zMG (pv 0) (pv 1) rfl)),zMO h⟩
theorem zH8{f:Addr}{fd:FuncData}(F:Fun K "back" "Mirror.back" zBN f fd){a_Mirror:Addr}(on_Mirror:ONew K mg "Mirror" a_Mirror):FnOk P w K mg base (CXe P w) 3 f fd ["self"] (spE K mg 0 zC0):=by
 letI:Kc:=⟨K⟩
 refine F.okX zJ4 (fun vs H Q E h=>zB2 h) (fun cdv A outer s H vs Q E hr h=>?_);have hu:=hr.units;exact⟨_,(zAH (zAZ (zOS on_Mirror rfl))),
  zBK (N:=["self"]) (zB4 (n:=0) [] (zQ4 on_Mirror)) h⟩
theorem zH7{f:Addr}{fd:FuncData}(F:Fun K "done" "Mirror.done" zBM f fd):FnOk P w K mg base (CXe P w) 1 f fd ["self","word"] (spE K mg 0 zAW):=by
 letI:Kc:=⟨K⟩
 refine F.okX zJ3 (fun vs H Q E h=>zB2 h) (fun cdv A outer s H vs Q E hr h=>?_);have hu:=hr.units;exact⟨_,(zAH (zAZ (zOR (pn 1) (zU2 zTK zAA)))),
  zBK (N:=["self","word"]) (zB4 (n:=0) [1] (zAC zSG (de_v 1) (dz (zUZ zOJ (dz zAB))))) h⟩
theorem zIM{f:Addr}{fd:FuncData}(F:Fun K "back" "Shift.back" zBV f fd){a_Shift:Addr}(oi_Shift:OIni P w K mg base "Shift" ["by"] a_Shift)(q0:(∀c∈(["Shift"]:List Str),∃C,clK K c=some C/\OIs K C/\NoAttr K C "by")):FnOk P w K mg base (CXe P w) 3 f fd ["self"] (spE K mg 0 zCF):=by
 letI:Kc:=⟨K⟩
 refine F.okX zKV (fun vs H Q E h=>zB2 h) (fun cdv A outer s H vs Q E hr h=>?_);have hu:=hr.units;exact⟨_,(zAH (zAZ (zHL oi_Shift hr (by decide) zBE rfl (zA1 (zU2 zTK (zCR (pn 0) rfl)) zA7)))),
  zBK (N:=["self"]) (zB4 (n:=0) [0] (zHW oi_Shift (zA2 (zUZ zOJ (dz (zCX q0 (de_v 0)))) zAF))) h⟩
theorem zNI(D:Def K mg "shifted" zG9)(b_len:mg "len" = none):Has P w K mg base "shifted" 1 ["word","by"] (sp0 K mg 1 zF4):=by
 letI:Kc:=⟨K⟩
 refine D.ok S_shifted (fun _ _ _ _ _ _=>uw2 fun _ _=>rfl) (fun vs H Q E h=>zB2 h) (fun f cdv A outer s H vs Q E hr h=>?_);have hu:=hr.units;exact⟨_,(zA4 (zAQ (i:=2) S_shifted.nd rfl oi (zAK zDK (pn 1) (zAU (zDQ (K:=K)) rfl b_len boot_len (zA1 (pn 0) zA7))))
   (zAH (zAZ (zAK zBC (zAN (u_sl (K:=K)) (pn 0) (zAL (pn 2)) zBX) (zAN (u_sl (K:=K)) (pn 0) zBX (zAL (pn 2))))))),
  (zBK (N:=["word","by","signs"]) (zAJ (zAR (n:=0) [1,0] (zAC zC2 (de_v 1) (dz (zFP zDS (zA2 (de_v 0) zAF)))))
   (zB4 (n:=1) [0,2] (zAC zAM (zCW (de_v 0) (do_e (de_v 2)) zF7) (zCW (de_v 0) zF7 (do_e (de_v 2)))))) h)⟩
theorem zIL{f:Addr}{fd:FuncData}(F:Fun K "done" "Shift.done" zBU f fd)(h_shifted:Has P w K mg base "shifted" 1 ["word","by"] (sp0 K mg 1 zF4))(q0:(∀c∈(["Shift"]:List Str),∃C,clK K c=some C/\OIs K C/\NoAttr K C "by")):FnOk P w K mg base (CXe P w) 2 f fd ["self","word"] (spE K mg 0 zB0):=by
 letI:Kc:=⟨K⟩
 refine F.okX zKU (fun vs H Q E h=>zB2 h) (fun cdv A outer s H vs Q E hr h=>?_);have hu:=hr.units;exact⟨_,(zAH (zAZ (zEL h_shifted (by decide) hr rfl (zA1 (pn 1) (zA1 (zCR (pn 0) rfl) zA7))))),
  zBK (N:=["self","word"]) (zB4 (n:=0) [1,0] (zB7 (zMU (zA2 (de_v 1) (zA2 (zCX q0 (de_v 0)) zAF))))) h⟩
theorem zK3{f:Addr}{fd:FuncData}(F:Fun K "back" "Swap.back" zCA f fd){a_Swap:Addr}(oi_Swap:OIni P w K mg base "Swap" ["one","other"] a_Swap)(q1:(∀c∈(["Swap"]:List Str),∃C,clK K c=some C/\OIs K C/\NoAttr K C "one"))(q2:(∀c∈(["Swap"]:List Str),∃C,clK K c=some C/\OIs K C/\NoAttr K C "other")):FnOk P w K mg base (CXe P w) 3 f fd ["self"] (spE K mg 0 zCT):=by
 letI:Kc:=⟨K⟩
 refine F.okX zLV (fun vs H Q E h=>zB2 h) (fun cdv A outer s H vs Q E hr h=>?_);have hu:=hr.units;exact⟨_,(zAH (zAZ (zHL oi_Swap hr (by decide) zBE rfl (zA1 (zCR (pn 0) rfl) (zA1 (zCR (pn 0) rfl) zA7))))),
  zBK (N:=["self"]) (zB4 (n:=0) [0] (zHW oi_Swap (zA2 (zCX q1 (de_v 0)) (zA2 (zCX q2 (de_v 0)) zAF)))) h⟩
theorem zH4(D:Def K mg "first_place" zD8){a_NoLetter:Addr}(b_len:mg "len" = none)(x_NoLetter:XIni P w K mg base "NoLetter" "letter" a_NoLetter):HasX P w K mg base "first_place" 3 ["text","letter"] (spE K mg 0 zCK):=by
 letI:Kc:=⟨K⟩
 refine D.okX zJ1 (fun _ _ _ _ _ _=>uw2 fun _ _=>rfl) (fun vs H Q E h=>zB2 h) (fun f cdv A outer s H vs Q E hr h=>?_);have hu:=hr.units;exact⟨_,(zA4 (zEK (pt_w (zNF (zDL (u_ne hu) (zAU (zDQ (K:=K)) rfl b_len boot_len (zA1 (pn 1) zA7)) zAA (zC3 _)) (zME (zDL (zTJ (K:=K)) (pn 1) (pn 0) rfl)))) (zAH (zMF (zW6 x_NoLetter hr (by decide) zBE rfl (zA1 (pn 1) zA7)) zBE rfl)) zBT)
   (zAH (zAZ (zOZ qCd PySem.F.slot_str_find PySem.F.type_str_find zRE (pn 0) (zA1 (pn 1) zA7))))),
  (zBK (N:=["text","letter"]) (zAJ (zF6 (zS2 (dt_b (dz (zAC zL9 (dz (zFP zDS (zA2 (de_v 1) zAF))) (dz zAB)))) (dt_b (dz (zAC zVR (de_v 1) (de_v 0))))) (zPV x_NoLetter (zA2 (de_v 1) zAF)) zCV)
   (zB4 (n:=0) [1,0] (zQ5 zTY (de_v 0) (zA2 (de_v 1) zAF)))) h)⟩
theorem zJW(D:Def K mg "places_of" zEG)(h_first_place:HasX P w K mg base "first_place" 3 ["text","letter"] (spE K mg 0 zCK)):HasX P w K mg base "places_of" 4 ["word","letter"] (spE K mg 1 zAS):=by
 letI:Kc:=⟨K⟩
 refine D.okX zLT (fun _ _ _ _ _ _=>uw2 fun _ _=>rfl) (fun vs H Q E h=>zB2 h) (fun f cdv A outer s H vs Q E hr h=>?_);have hu:=hr.units;exact⟨_,(zAH (zAZ (zCY (zA1 (zHM h_first_place (by decide) hr zBE rfl (zA1 (pn 0) (zA1 (pn 1) zA7))) (zA1 (zOZ qCd PySem.F.slot_str_rfind PySem.F.type_str_rfind zP6 (pn 0) (zA1 (pn 1) zA7)) zA7))))),
  (zBK (N:=["word","letter"]) (zB4 (n:=1) [0,1] (zCZ (n:=0) (zA2 (zDZ (zA2 (de_v 0) (zA2 (de_v 1) zAF))) (zA2 (zQ5 zQW (de_v 0) (zA2 (de_v 1) zAF)) zAF)))) h)⟩
theorem zLC(D:Def K mg "do_cross" zFI)(h_places_of:HasX P w K mg base "places_of" 4 ["word","letter"] (spE K mg 1 zAS)):HasX P w K mg base "do_cross" 5 ["word","one","other"] (spE K mg 0 zDY):=by
 letI:Kc:=⟨K⟩
 refine D.okX S_do_cross (fun _ _ _ _ _ _=>uw3 fun _ _ _=>rfl) (fun vs H Q E h=>zB2 h) (fun f cdv A outer s H vs Q E hr h=>?_);have hu:=hr.units;exact⟨_,(zA4 (zAQ (i:=3) S_do_cross.nd rfl oi (zHM h_places_of (by decide) hr zBE rfl (zA1 (pn 0) (zA1 (pn 1) zA7))))
   (zAH (zAZ (zOX (u_eq hu) (zOZ qCd qEz qF0 zK5 (zAN (u_sl (K:=K)) (pn 0) (zAL (zAK zBC (zBJ (zBH (K:=K)) (pn 3) zAA (fun _ _=>rfl)) zAA)) (zAL (zBJ (zBH (K:=K)) (pn 3) zAA (fun _ _=>rfl)))) (zA1 (pn 2) zA7)) zAA (zC3 _))))),
  (zBK (N:=["word","one","other","places"]) (zAJ (zAR (n:=1) [0,1] (zDZ (zA2 (de_v 0) (zA2 (de_v 1) zAF))))
   (zB4 (n:=0) [2,0,3] (zAC zJN (dz (zQ5 zMA (zCW (de_v 0) (do_e (zAC zAM (zAC zBI (de_v 3) (dz zAB)) (dz zAB))) (do_e (zAC zBI (de_v 3) (dz zAB)))) (zA2 (de_v 2) zAF))) (dz zAB)))) h)⟩
theorem zJX(D:Def K mg "exchanged" zEH):Has P w K mg base "exchanged" 1 ["word","cuts"] (sp0 K mg 1 zDC):=by
 letI:Kc:=⟨K⟩
 refine D.ok S_exchanged (fun _ _ _ _ _ _=>uw2 fun _ _=>rfl) (fun vs H Q E h=>zB2 h) (fun f cdv A outer s H vs Q E hr h=>?_);have hu:=hr.units;exact⟨_,(zA4 (zAQ (i:=2) S_exchanged.nd rfl oi (zAN (u_sl (K:=K)) (pn 0) (zAL (zAK zBC (zBJ (zBH (K:=K)) (pn 1) zAA (fun _ _=>rfl)) zAA)) (zAL (zBJ (zBH (K:=K)) (pn 1) zAA (fun _ _=>rfl)))))
   (zA4 (zAQ (i:=3) S_exchanged.nd rfl oi (zAN (u_sl (K:=K)) (pn 0) (zAL (zBJ (zBH (K:=K)) (pn 1) zAA (fun _ _=>rfl))) (zAL (zAK zBC (zBJ (zBH (K:=K)) (pn 1) zAA (fun _ _=>rfl)) zAA))))
   (zA4 (zAQ (i:=4) S_exchanged.nd rfl oi (zAN (u_sl (K:=K)) (pn 0) (zAL (zAK zBC (zBJ (zBH (K:=K)) (pn 1) zAA (fun _ _=>rfl)) zAA)) (zAL (zBJ (zBH (K:=K)) (pn 1) zAA (fun _ _=>rfl)))))
   (zAH (zAZ (zAK zBC (zAK zBC (zAK zBC (zAK zBC (zAN (u_sl (K:=K)) (pn 0) zBX (zAL (zAK zBC (zBJ (zBH (K:=K)) (pn 1) zAA (fun _ _=>rfl)) zAA))) (pn 4)) (pn 3)) (pn 2)) (zAN (u_sl (K:=K)) (pn 0) (zAL (zBJ (zBH (K:=K)) (pn 1) zAA (fun _ _=>rfl))) zBX))))))),
  (zBK (N:=["word","cuts","first","between","second"]) (zAJ (zAR (n:=1) [0,1] (zCW (de_v 0) (do_e (zAC zAM (zAC zBI (de_v 1) (dz zAB)) (dz zAB))) (do_e (zAC zBI (de_v 1) (dz zAB)))))
   (zAJ (zAR (n:=1) [0,1] (zCW (de_v 0) (do_e (zAC zBI (de_v 1) (dz zAB))) (do_e (zAC zAM (zAC zBI (de_v 1) (dz zAB)) (dz zAB)))))
   (zAJ (zAR (n:=1) [0,1] (zCW (de_v 0) (do_e (zAC zAM (zAC zBI (de_v 1) (dz zAB)) (dz zAB))) (do_e (zAC zBI (de_v 1) (dz zAB)))))
   (zB4 (n:=1) [2,0,3,4,1] (zAC zAM (zAC zAM (zAC zAM (zAC zAM (zCW (de_v 0) zF7 (do_e (zAC zAM (zAC zBI (de_v 1) (dz zAB)) (dz zAB)))) (de_v 4)) (de_v 3)) (de_v 2)) (zCW (de_v 0) (do_e (zAC zBI (de_v 1) (dz zAB))) zF7)))))) h)⟩
theorem zK2{f:Addr}{fd:FuncData}(F:Fun K "done" "Swap.done" zC9 f fd){a_NoCross:Addr}(h_do_cross:HasX P w K mg base "do_cross" 5 ["word","one","other"] (spE K mg 0 zDY))(h_exchanged:Has P w K mg base "exchanged" 1 ["word","cuts"] (sp0 K mg 1 zDC))(h_places_of:HasX P w K mg base "places_of" 4 ["word","letter"] (spE K mg 1 zAS))(b_sorted:mg "sorted" = none)(z_NoCross:XNo K mg "NoCross" a_NoCross)(q1:(∀c∈(["Swap"]:List Str),∃C,clK K c=some C/\OIs K C/\NoAttr K C "one"))(q2:(∀c∈(["Swap"]:List Str),∃C,clK K c=some C/\OIs K C/\NoAttr K C "other")):FnOk P w K mg base (CXe P w) 6 f fd ["self","word"] (spE K mg 0 zAO):=by
 letI:Kc:=⟨K⟩
 refine F.okX S_Swap_done (fun vs H Q E h=>zB2 h) (fun cdv A outer s H vs Q E hr h=>?_);have hu:=hr.units;exact⟨_,(zA4 (zAQ (i:=2) S_Swap_done.nd rfl oi (zAU zUI rfl b_sorted boot_sorted (zA1 (zAK zU9 (zHM h_places_of (by decide) hr zBE rfl (zA1 (pn 1) (zA1 (zCR (pn 0) rfl) zA7))) (zHM h_places_of (by decide) hr zBE rfl (zA1 (pn 1) (zA1 (zCR (pn 0) rfl) zA7)))) zA7)))
   (zA4 (zEK (zOO (pt_m (zHM h_do_cross (by decide) hr zBE rfl (zA1 (pn 1) (zA1 (zCR (pn 0) rfl) (zA1 (zCR (pn 0) rfl) zA7)))))) (zAH (zMF (zW7 z_NoCross rfl (zA1 zDI zA7)) zBE rfl)) zBT)
   (zAH (zAZ (zEL h_exchanged (by decide) hr rfl (zA1 (pn 1) (zA1 (pn 2) zA7))))))),
  zBK (N:=["self","word","cuts"]) (zAJ (zAR (n:=1) [1,0] (zXA (zDZ (zA2 (de_v 1) (zA2 (zCX q1 (de_v 0)) zAF))) (zDZ (zA2 (de_v 1) (zA2 (zCX q2 (de_v 0)) zAF)))))
   (zAJ (zF6 (zPT (dt_m (zDZ (zA2 (de_v 1) (zA2 (zCX q1 (de_v 0)) (zA2 (zCX q2 (de_v 0)) zAF)))))) (zPW z_NoCross (zA2 zDJ zAF)) zCV)
   (zB4 (n:=0) [1,2] (zB7 (zMU (zA2 (de_v 1) (zA2 (de_v 2) zAF))))))) h⟩
theorem zK1{f:Addr}{fd:FuncData}(F:Fun K "back" "Turn.back" zC8 f fd){a_Turn:Addr}(oi_Turn:OIni P w K mg base "Turn" ["letter"] a_Turn)(q3:(∀c∈(["Turn"]:List Str),∃C,clK K c=some C/\OIs K C/\NoAttr K C "letter")):FnOk P w K mg base (CXe P w) 3 f fd ["self"] (spE K mg 0 zCS):=by
 letI:Kc:=⟨K⟩
 refine F.okX zLU (fun vs H Q E h=>zB2 h) (fun cdv A outer s H vs Q E hr h=>?_);have hu:=hr.units;exact⟨_,(zAH (zAZ (zHL oi_Turn hr (by decide) zBE rfl (zA1 (zCR (pn 0) rfl) zA7)))),
  zBK (N:=["self"]) (zB4 (n:=0) [0] (zHW oi_Turn (zA2 (zCX q3 (de_v 0)) zAF))) h⟩
theorem zK0{f:Addr}{fd:FuncData}(F:Fun K "done" "Turn.done" zC7 f fd)(h_places_of:HasX P w K mg base "places_of" 4 ["word","letter"] (spE K mg 1 zAS))(q3:(∀c∈(["Turn"]:List Str),∃C,clK K c=some C/\OIs K C/\NoAttr K C "letter")):FnOk P w K mg base (CXe P w) 5 f fd ["self","word"] (spE K mg 0 zBA):=by
 letI:Kc:=⟨K⟩
 refine F.okX S_Turn_done (fun vs H Q E h=>zB2 h) (fun cdv A outer s H vs Q E hr h=>?_);have hu:=hr.units;exact⟨_,(zA4 (zAQ (i:=2) S_Turn_done.nd rfl oi (zHM h_places_of (by decide) hr zBE rfl (zA1 (pn 1) (zA1 (zCR (pn 0) rfl) zA7))))
   (zA4 (zAQ (i:=3) S_Turn_done.nd rfl oi (zAK zBC (zBJ (zBH (K:=K)) (pn 2) zAA (fun _ _=>rfl)) zAA))
   (zAH (zAZ (zAK zBC (zAK zBC (zAN (u_sl (K:=K)) (pn 1) zBX (zAL (pn 3))) (zOR (zAN (u_sl (K:=K)) (pn 1) (zAL (pn 3)) (zAL (zBJ (zBH (K:=K)) (pn 2) zAA (fun _ _=>rfl)))) (zU2 zTK zAA))) (zAN (u_sl (K:=K)) (pn 1) (zAL (zBJ (zBH (K:=K)) (pn 2) zAA (fun _ _=>rfl))) zBX)))))),
  zBK (N:=["self","word","places","start"]) (zAJ (zAR (n:=1) [1,0] (zDZ (zA2 (de_v 1) (zA2 (zCX q3 (de_v 0)) zAF))))
   (zAJ (zAR (n:=1) [2] (zAC zAM (zAC zBI (de_v 2) (dz zAB)) (dz zAB)))
   (zB4 (n:=0) [1,3,2] (zB7 (zAC zAM (zAC zAM (zCW (de_v 1) zF7 (do_e (de_v 3))) (dz (zAC zSG (zCW (de_v 1) (do_e (de_v 3)) (do_e (zAC zBI (de_v 2) (dz zAB)))) (dz (zUZ zOJ (dz zAB)))))) (zCW (de_v 1) (do_e (zAC zBI (de_v 2) (dz zAB))) zF7)))))) h⟩
theorem zIK(D:Def K mg "_law_mixed" zDO)(b_len:mg "len" = none)(b_max:mg "max" = none)(b_min:mg "min" = none)(b_range:mg "range" = none):Has P w K mg base "_law_mixed" 1 ["_law_script","_law_least"] (sp0 K mg 9 zCE):=by
 letI:Kc:=⟨K⟩
 refine D.ok S__law_mixed (fun _ _ _ _ _ _=>uw2 fun _ _=>rfl) (fun vs H Q E h=>zB2 h) (fun f cdv A outer s H vs Q E hr h=>?_);have hu:=hr.units;exact⟨_,(zA4 (zAQ (i:=2) S__law_mixed.nd rfl oi (zGE zA7))
   (zA4 (zDB PassesOwn.never rfl (zGD rfl b_range (zA1 (zAU (zQB rfl) rfl b_max boot_max (zA1 (pn 1) (zA1 (zAU (zQA rfl) rfl b_min boot_min (zA1 zAA (zA1 (zAU (zDQ (K:=K)) rfl b_len boot_len (zA1 (pn 0) zA7)) zA7))) zA7))) zA7)) (zB8 (i:=3) S__law_mixed.nd rfl oi) (zA4 (zAQ (i:=4) S__law_mixed.nd rfl oi zAA)
   (zA4 (zEK (zDL u_lt (pn 3) (zAU (zDQ (K:=K)) rfl b_len boot_len (zA1 (pn 0) zA7)) (zC3 _)) (zAH (zAQ (i:=4) S__law_mixed.nd rfl oi (zAK zDK (zBJ (zBH (K:=K)) (pn 0) (pn 3) (fun _ _=>rfl)) zAA))) zBT)
   (zA4 (zAQ (i:=5) S__law_mixed.nd rfl oi (zAK zDK (zAK zG3 (zAK zDK (zAK zBC (zAK zG3 (zAK zBC (pn 4) zAA) zAA) (zAK zG3 (zAK zG3 (pn 3) (pn 3)) zAA)) zAA) zAA) zAA))
   (zAH (zFK (zOT qC6 qC0 qC1 zGG (pn 2) (zA1 (zAK zBC (zAK zG3 (pn 5) zAA) (zAK zDK (zAK zBC (zAK zG3 (pn 5) zAA) (pn 3)) zAA)) zA7))))))))
   (zAH (zAZ (pn 2))))),
  (zBK (N:=["_law_script","_law_least","_law_made","_law_k","_law_cell","_law_first"]) (zAJ (zAR (n:=9) [] (zGU (n:=8) zAF))
   (zAJ (zLI (zUY (zA2 (zFP zXC (zA2 (de_v 1) (zA2 (zFP zXB (zA2 zAB (zA2 (zFP zDS (zA2 (de_v 0) zAF)) zAF))) zAF))) zAF)) (zAJ (zAR (n:=0) [] zAB)
   (zAJ (zF6 (dt_b (dz (zAC zSH (de_v 3) (dz (zFP zDS (zA2 (de_v 0) zAF)))))) (zAR (n:=0) [0,3] (zAC zC2 (zAC zBI (de_v 0) (de_v 3)) (dz zAB))) zCV)
   (zAJ (zAR (n:=0) [4,3] (zAC zC2 (dz (zAC zGB (dz (zAC zC2 (zAC zAM (dz (zAC zGB (zAC zAM (de_v 4) (dz zAB)) (dz zAB))) (dz (zAC zGB (dz (zAC zGB (de_v 3) (de_v 3))) (dz zAB)))) (dz zAB))) (dz zAB))) (dz zAB)))
   (zPY 2 (n:=1) (zAC zAM (dz (zAC zGB (de_v 5) (dz zAB))) (dz (zAC zC2 (zAC zAM (dz (zAC zGB (de_v 5) (dz zAB))) (de_v 3)) (dz zAB)))))))))
   (zIU 2))) h)⟩
theorem zIJ(D:Def K mg "_law_spots" zDN)(b_enumerate:mg "enumerate" = none):Has P w K mg base "_law_spots" 1 ["_law_word_here","_law_letter"] (sp0 K mg 1 zBL):=by
 letI:Kc:=⟨K⟩
 refine D.ok zKT (fun _ _ _ _ _ _=>uw2 fun _ _=>rfl) (fun vs H Q E h=>zB2 h) (fun f cdv A outer s H vs Q E hr h=>?_);have hu:=hr.units;exact⟨_,(zAH (zAZ (zU4 rfl (cn ["0","_law_letter","_law_k","_law_sign"] 2 (by kernel_rfl)) (zMI (K:=K) rfl b_enumerate (zA1 (pn 0) zA7)) (fun _ _ _ _=>zIG (K:=K) rfl (zBS (zB8 (i:=2) (by show qEb (["0","_law_letter","_law_k","_law_sign"]:List Str);decide +kernel) rfl oi) (zBS (zB8 (i:=3) (by show qEb (["0","_law_letter","_law_k","_law_sign"]:List Str);decide +kernel) rfl oi) zFL))) (fun _ _ _ _=>zON (zDL (u_eq hu) (pn 3) (pn 1) (zC3 _))) (fun _ _ _ _=>(pn 2))))),
  (zBK (N:=["_law_word_here","_law_letter"]) (zB4 (n:=1) [0,1] (zQ6 (n:=0) (zT5 (zA2 (de_v 0) zAF)) (zLY (zBR 2 (zBR 3 zFE)) rfl) (dt_b (dz (zAC zJN (de_v 3) (de_v 1)))) (de_v 2))) h)⟩
theorem zFW(D:Def K mg "_law_crossing" zCQ)(h__law_spots:Has P w K mg base "_law_spots" 1 ["_law_word_here","_law_letter"] (sp0 K mg 1 zBL))(b_set:mg "set" = none)(b_sorted:mg "sorted" = none):Has P w K mg base "_law_crossing" 2 ["_law_word_here"] (sp0 K mg 9 zBZ):=by
 letI:Kc:=⟨K⟩
 refine D.ok S__law_crossing (fun _ _ _ _ _ _=>uw1 fun _=>rfl) (fun vs H Q E h=>zB2 h) (fun f cdv A outer s H vs Q E hr h=>?_);have hu:=hr.units;exact⟨_,(zA4 (zAQ (i:=1) S__law_crossing.nd rfl oi (zAU (zUH rfl) rfl b_sorted boot_sorted (zA1 (zD5 (zWP rfl) rfl b_set zQC (zA1 (pn 0) zA7)) zA7)))
   (zA4 (zAQ (i:=2) S__law_crossing.nd rfl oi (zGE zA7))
   (zA4 (zDB PassesOwn.never rfl (zHK (K:=K) (pn 1)) (zB8 (i:=3) S__law_crossing.nd rfl oi) (zA4 (zMH (zEL h__law_spots (by decide) hr rfl (zA1 (pn 0) (zA1 (pn 3) zA7))) (zSN (K:=K) rfl (zBS (zB8 (i:=4) S__law_crossing.nd rfl oi) (zBS (zB8 (i:=5) S__law_crossing.nd rfl oi) zFL))))
   (zAH (zDB PassesOwn.never rfl (zHK (K:=K) (pn 1)) (zB8 (i:=6) S__law_crossing.nd rfl oi) (zAH (zEK (pt_w (zSM (zDL (u_ne hu) (pn 6) (pn 3) (zC3 _)) (zOM (zDL (u_eq hu) (zOZ qCd qEz qF0 zK5 (zAN (u_sl (K:=K)) (pn 0) (zAL (pn 4)) (zAL (pn 5))) (zA1 (pn 6) zA7)) zAA (zC3 _))))) (zAH (zFK (zOT qC6 qC0 qC1 zGG (pn 2) (zA1 (zCY (zA1 (pn 3) (zA1 (pn 6) zA7))) zA7)))) zBT))))))
   (zAH (zAZ (pn 2)))))),
  (zBK (N:=["_law_word_here","_law_letters","_law_found","_law_one","_law_first","_law_second","_law_other"]) (zAJ (zAR (n:=1) [0] (zX8 (de_v 0)))
   (zAJ (zAR (n:=9) [] (zGU (n:=8) zAF))
   (zAJ (zHS [1] (zHV (de_v 1)) (zEF 3) (zAJ (zPU [0,3] (zBR 4 (zBR 5 zFE)) rfl (zC1 (zA2 (de_v 0) (zA2 (de_v 3) zAF))))
   (zHS [1] (zHV (de_v 1)) (zEF 6) (zF6 (zT2 (dt_b (dz (zAC zL9 (de_v 6) (de_v 3)))) (dt_b (dz (zAC zJN (dz (zQ5 zMA (zCW (de_v 0) (do_e (de_v 4)) (do_e (de_v 5))) (zA2 (de_v 6) zAF))) (dz zAB))))) (zPY 2 (n:=1) (zCZ (n:=0) (zA2 (de_v 3) (zA2 (de_v 6) zAF)))) zCV))))
   (zIU 2)))) h)⟩
theorem zGF(D:Def K mg "_law_swapped" zD1)(b_enumerate:mg "enumerate" = none)(b_range:mg "range" = none):Has P w K mg base "_law_swapped" 1 ["_law_word_here","_law_one","_law_other"] (sp0 K mg 1 zB9):=by
 letI:Kc:=⟨K⟩
 refine D.ok S__law_swapped (fun _ _ _ _ _ _=>uw3 fun _ _ _=>rfl) (fun vs H Q E h=>zB2 h) (fun f cdv A outer s H vs Q E hr h=>?_);have hu:=hr.units;exact⟨_,(zA4 (zNG (i:=3) S__law_swapped.nd rfl oi rfl (cn ["0","_law_one","_law_other","3","4","5","6","_law_k","_law_sign"] 2 (by kernel_rfl)) (zMI (K:=K) rfl b_enumerate (zA1 (pn 0) zA7)) (fun _ _ _ _=>zIG (K:=K) rfl (zBS (zB8 (i:=7) (by show qEb (["0","_law_one","_law_other","3","4","5","6","_law_k","_law_sign"]:List Str);decide +kernel) rfl oi) (zBS (zB8 (i:=8) (by show qEb (["0","_law_one","_law_other","3","4","5","6","_law_k","_law_sign"]:List Str);decide +kernel) rfl oi) zFL))) (fun _ _ _ _=>zON (zDL (u_in (K:=K)) (pn 8) (zCY (zA1 (pn 1) (zA1 (pn 2) zA7))) rfl)) (fun _ _ _ _=>(pn 7)))
   (zA4 (zAQ (i:=4) S__law_swapped.nd rfl oi (zGE (zA1 (zAN (u_sl (K:=K)) (pn 0) zBX (zAL (zAK zBC (zBJ (zBH (K:=K)) (pn 3) zAA (fun _ _=>rfl)) zAA))) zA7)))
   (zA4 (zDB PassesOwn.never rfl (zGD rfl b_range (zA1 zAA zA7)) (zB8 (i:=5) S__law_swapped.nd rfl oi) (zAH (zFK (zOT qC6 qC0 qC1 zGG (pn 4) (zA1 (zAN (u_sl (K:=K)) (pn 0) (zAL (zAK zBC (zBJ (zBH (K:=K)) (pn 3) (pn 5) (fun _ _=>rfl)) zAA)) (zAL (zBJ (zBH (K:=K)) (pn 3) (zAK zBC (pn 5) zAA) (fun _ _=>rfl)))) zA7)))))
   (zA4 (zAQ (i:=6) S__law_swapped.nd rfl oi (zAK zBC (zAK zBC (zBJ (zBH (K:=K)) (pn 0) (zBJ (zBH (K:=K)) (pn 3) zAA (fun _ _=>rfl)) (fun _ _=>rfl)) (zBJ (zBH (K:=K)) (pn 4) zAA (fun _ _=>rfl))) (zBJ (zBH (K:=K)) (pn 0) (zBJ (zBH (K:=K)) (pn 3) zAA (fun _ _=>rfl)) (fun _ _=>rfl))))
   (zAH (zAZ (zAK zBC (zAK zBC (zAK zBC (zAK zBC (zBJ (zBH (K:=K)) (pn 4) zAA (fun _ _=>rfl)) (zBJ (zBH (K:=K)) (pn 4) zAA (fun _ _=>rfl))) (pn 6)) (zBJ (zBH (K:=K)) (pn 4) zAA (fun _ _=>rfl))) (zAN (u_sl (K:=K)) (pn 0) (zAL (zBJ (zBH (K:=K)) (pn 3) zAA (fun _ _=>rfl))) zBX)))))))),
  (zBK (N:=["_law_word_here","_law_one","_law_other","_law_spots_here","_law_parts","_law_k","_law_middle"]) (zAJ (zAR (n:=1) [5,0,1,2] (zQ6 (n:=0) (zT5 (zA2 (de_v 0) zAF)) (zLY (zBR 7 (zBR 8 zFE)) rfl) (dt_b (dz (zAC zVR (de_v 8) (zCZ (n:=0) (zA2 (de_v 1) (zA2 (de_v 2) zAF)))))) (de_v 7)))
   (zAJ (zAR (n:=2) [0,3] (zGU (n:=1) (zA2 (zCW (de_v 0) zF7 (do_e (zAC zAM (zAC zBI (de_v 3) (dz zAB)) (dz zAB)))) zAF)))
   (zAJ (zLI (zUY (zA2 zAB zAF)) (zPY 4 (n:=1) (zCW (de_v 0) (do_e (zAC zAM (zAC zBI (de_v 3) (de_v 5)) (dz zAB))) (do_e (zAC zBI (de_v 3) (zAC zAM (de_v 5) (dz zAB)))))))
   (zAJ (zAR (n:=1) [0,4,3] (zAC zAM (zAC zAM (zAC zBI (de_v 0) (zAC zBI (de_v 3) (dz zAB))) (zAC zBI (de_v 4) (dz zAB))) (zAC zBI (de_v 0) (zAC zBI (de_v 3) (dz zAB)))))
   (zB4 (n:=1) [0,6,4,3] (zAC zAM (zAC zAM (zAC zAM (zAC zAM (zAC zBI (de_v 4) (dz zAB)) (zAC zBI (de_v 4) (dz zAB))) (de_v 6)) (zAC zBI (de_v 4) (dz zAB))) (zCW (de_v 0) (do_e (zAC zBI (de_v 3) (dz zAB))) zF7))))))) h)⟩
theorem zH6(D:Def K mg "_law_turned" zDA)(h__law_spots:Has P w K mg base "_law_spots" 1 ["_law_word_here","_law_letter"] (sp0 K mg 1 zBL)):Has P w K mg base "_law_turned" 2 ["_law_word_here","_law_letter"] (sp0 K mg 1 zBO):=by
 letI:Kc:=⟨K⟩
 refine D.ok S__law_turned (fun _ _ _ _ _ _=>uw2 fun _ _=>rfl) (fun vs H Q E h=>zB2 h) (fun f cdv A outer s H vs Q E hr h=>?_);have hu:=hr.units;exact⟨_,(zA4 (zMH (zEL h__law_spots (by decide) hr rfl (zA1 (pn 0) (zA1 (pn 1) zA7))) (zSN (K:=K) rfl (zBS (zB8 (i:=2) S__law_turned.nd rfl oi) (zBS (zB8 (i:=3) S__law_turned.nd rfl oi) zFL))))
   (zA4 (zAQ (i:=4) S__law_turned.nd rfl oi zDI)
   (zA4 (zDB PassesOwn.never rfl (zHK (K:=K) (zAN (u_sl (K:=K)) (pn 0) (zAL (zAK zBC (pn 2) zAA)) (zAL (pn 3)))) (zB8 (i:=5) S__law_turned.nd rfl oi) (zAH (zAQ (i:=4) S__law_turned.nd rfl oi (zAK zBC (pn 5) (pn 4)))))
   (zAH (zAZ (zAK zBC (zAK zBC (zAN (u_sl (K:=K)) (pn 0) zBX (zAL (zAK zBC (pn 2) zAA))) (pn 4)) (zAN (u_sl (K:=K)) (pn 0) (zAL (pn 3)) zBX))))))),
  (zBK (N:=["_law_word_here","_law_letter","_law_first","_law_second","_law_stretch","_law_sign"]) (zAJ (zPU [0,1] (zBR 2 (zBR 3 zFE)) rfl (zC1 (zA2 (de_v 0) (zA2 (de_v 1) zAF))))
   (zAJ (zAR (n:=0) [] zDJ)
   (zAJ (zHS [0,3,2] (zHV (zCW (de_v 0) (do_e (zAC zAM (de_v 2) (dz zAB))) (do_e (de_v 3)))) (zEF 5) (zAR (n:=1) [5,4] (zAC zAM (de_v 5) (de_v 4))))
   (zB4 (n:=1) [4,0,3,2] (zAC zAM (zAC zAM (zCW (de_v 0) zF7 (do_e (zAC zAM (de_v 2) (dz zAB)))) (de_v 4)) (zCW (de_v 0) (do_e (de_v 3)) zF7)))))) h)⟩
theorem zJZ(D:Def K mg "_law_step" zEJ){a_Mirror:Addr}{a_Shift:Addr}{a_Swap:Addr}{a_Turn:Addr}(h__law_crossing:Has P w K mg base "_law_crossing" 2 ["_law_word_here"] (sp0 K mg 9 zBZ))(h__law_swapped:Has P w K mg base "_law_swapped" 1 ["_law_word_here","_law_one","_law_other"] (sp0 K mg 1 zB9))(h__law_turned:Has P w K mg base "_law_turned" 2 ["_law_word_here","_law_letter"] (sp0 K mg 1 zBO))(b_len:mg "len" = none)(b_list:mg "list" = none)(b_reversed:mg "reversed" = none)(oi_Turn:OIni P w K mg base "Turn" ["letter"] a_Turn)(oi_Swap:OIni P w K mg base "Swap" ["one","other"] a_Swap)(oi_Shift:OIni P w K mg base "Shift" ["by"] a_Shift)(on_Mirror:ONew K mg "Mirror" a_Mirror):Has P w K mg base "_law_step" 3 ["_law_word_here","_law_cell"] (sp0 K mg 1 zDD):=by
 letI:Kc:=⟨K⟩
 refine D.ok S__law_step (fun _ _ _ _ _ _=>uw2 fun _ _=>rfl) (fun vs H Q E h=>zB2 h) (fun f cdv A outer s H vs Q E hr h=>?_);have hu:=hr.units;exact⟨_,(zA4 (zAQ (i:=2) S__law_step.nd rfl oi (zBJ (zBH (K:=K)) (pn 0) (zAK zDK (zAK zHE (pn 1) zAA) (zAU (zDQ (K:=K)) rfl b_len boot_len (zA1 (pn 0) zA7))) (fun _ _=>rfl)))
   (zA4 (zAQ (i:=3) S__law_step.nd rfl oi (zEL h__law_crossing (by decide) hr rfl (zA1 (pn 0) zA7)))
   (zA4 (zEK (pt_w (zSM (zDL (u_eq hu) (zAK zDK (pn 1) zAA) zAA (zC3 _)) (zOM (zDL u_gt (zAU (zDQ (K:=K)) rfl b_len boot_len (zA1 (pn 3) zA7)) zAA (zC3 _))))) (zA4 (zMH (zBJ (zBH (K:=K)) (pn 3) (zAK zDK (zAK zHE (pn 1) zAA) (zAU (zDQ (K:=K)) rfl b_len boot_len (zA1 (pn 3) zA7))) (fun _ _=>rfl)) (zIG (K:=K) rfl (zBS (zB8 (i:=4) S__law_step.nd rfl oi) (zBS (zB8 (i:=5) S__law_step.nd rfl oi) zFL))))
   (zAH (zAZ (zCY (zA1 (zHL oi_Swap hr (by decide) zGN rfl (zA1 (pn 4) (zA1 (pn 5) zA7))) (zA1 (zEL h__law_swapped (by decide) hr rfl (zA1 (pn 0) (zA1 (pn 4) (zA1 (pn 5) zA7)))) zA7)))))) zBT)
   (zA4 (zEK (zDL (u_eq hu) (zAK zDK (pn 1) zAA) zAA (zC3 _)) (zAH (zAZ (zCY (zA1 (zOS on_Mirror rfl) (zA1 (zOZ qCd PySem.F.slot_str_join PySem.F.type_str_join zRD zDI (zA1 (zD5 (zPI (K:=K) rfl) rfl b_list boot_list (zA1 (zD5 (zWQ (K:=K)) rfl b_reversed zED (zA1 (pn 0) zA7)) zA7)) zA7)) zA7))))) zBT)
   (zA4 (zEK (zDL (u_eq hu) (zAK zDK (pn 1) zAA) zAA (zC3 _)) (zA4 (zAQ (i:=6) S__law_step.nd rfl oi (zAK zVG (zAK zDK (zAK zHE (pn 1) zAA) zAA) zAA))
   (zAH (zAZ (zCY (zA1 (zHL oi_Shift hr (by decide) zGN rfl (zA1 (pn 6) zA7)) (zA1 (zAK zBC (zAN (u_sl (K:=K)) (pn 0) (zAL (zAK zDK (pn 6) (zAU (zDQ (K:=K)) rfl b_len boot_len (zA1 (pn 0) zA7)))) zBX) (zAN (u_sl (K:=K)) (pn 0) zBX (zAL (zAK zDK (pn 6) (zAU (zDQ (K:=K)) rfl b_len boot_len (zA1 (pn 0) zA7)))))) zA7)))))) zBT)
   (zAH (zAZ (zCY (zA1 (zHL oi_Turn hr (by decide) zGN rfl (zA1 (pn 2) zA7)) (zA1 (zEL h__law_turned (by decide) hr rfl (zA1 (pn 0) (zA1 (pn 2) zA7))) zA7)))))))))),
  (zBK (N:=["_law_word_here","_law_cell","_law_letter","_law_pairs","_law_one","_law_other","_law_by"]) (zAJ (zAR (n:=0) [0,1] (zAC zBI (de_v 0) (dz (zAC zC2 (dz (zAC zHH (de_v 1) (dz zAB))) (dz (zFP zDS (zA2 (de_v 0) zAF)))))))
   (zAJ (zAR (n:=9) [0] (zC1 (zA2 (de_v 0) zAF)))
   (zAJ (zF6 (zT2 (dt_b (dz (zAC zJN (dz (zAC zC2 (de_v 1) (dz zAB))) (dz zAB)))) (dt_b (dz (zAC zSH (dz (zFP zDS (zA2 (de_v 3) zAF))) (dz zAB))))) (zAJ (zT3 [3,1] (zLY (zBR 4 (zBR 5 zFE)) rfl) (zAC zBI (de_v 3) (dz (zAC zC2 (dz (zAC zHH (de_v 1) (dz zAB))) (dz (zFP zDS (zA2 (de_v 3) zAF)))))))
   (zB4 (n:=1) [4,5,0] (zCZ (n:=0) (zA2 (zHW oi_Swap (zA2 (de_v 4) (zA2 (de_v 5) zAF))) (zA2 (zB7 (zC1 (zA2 (de_v 0) (zA2 (de_v 4) (zA2 (de_v 5) zAF))))) zAF))))) zCV)
   (zAJ (zF6 (dt_b (dz (zAC zJN (dz (zAC zC2 (de_v 1) (dz zAB))) (dz zAB)))) (zB4 (n:=1) [0] (zCZ (n:=0) (zA2 (zQ4 on_Mirror) (zA2 (zQ5 zTX (dz zDJ) (zA2 (zB7 (zT7 (zA2 (de_v 0) zAF))) zAF)) zAF)))) zCV)
   (zAJ (zF6 (dt_b (dz (zAC zJN (dz (zAC zC2 (de_v 1) (dz zAB))) (dz zAB)))) (zAJ (zAR (n:=0) [1] (zAC zSF (dz (zAC zC2 (dz (zAC zHH (de_v 1) (dz zAB))) (dz zAB))) (dz zAB)))
   (zB4 (n:=1) [6,0] (zCZ (n:=0) (zA2 (zHW oi_Shift (zA2 (de_v 6) zAF)) (zA2 (zB7 (zAC zAM (zCW (de_v 0) (do_e (dz (zAC zC2 (de_v 6) (dz (zFP zDS (zA2 (de_v 0) zAF)))))) zF7) (zCW (de_v 0) zF7 (do_e (dz (zAC zC2 (de_v 6) (dz (zFP zDS (zA2 (de_v 0) zAF))))))))) zAF))))) zCV)
   (zB4 (n:=1) [2,0] (zCZ (n:=0) (zA2 (zHW oi_Turn (zA2 (de_v 2) zAF)) (zA2 (zB7 (zC1 (zA2 (de_v 0) (zA2 (de_v 2) zAF)))) zAF))))))))) h)⟩
theorem zH5(D:Def K mg "_law_values" zD9){a_Mirror:Addr}{a_Shift:Addr}{a_Swap:Addr}{a_Turn:Addr}(b_isinstance:mg "isinstance" = none)(o_Turn:OCls K mg "Turn" a_Turn)(o_Swap:OCls K mg "Swap" a_Swap)(o_Mirror:OCls K mg "Mirror" a_Mirror)(o_Shift:OCls K mg "Shift" a_Shift)(q0:(∀c∈(["Shift"]:List Str),∃C,clK K c=some C/\OIs K C/\NoAttr K C "by"))(q1:(∀c∈(["Swap"]:List Str),∃C,clK K c=some C/\OIs K C/\NoAttr K C "one"))(q2:(∀c∈(["Swap"]:List Str),∃C,clK K c=some C/\OIs K C/\NoAttr K C "other"))(q3:(∀c∈(["Turn"]:List Str),∃C,clK K c=some C/\OIs K C/\NoAttr K C "letter"))(q4:(∀c∈(["Shift"]:List Str),∃C,clK K c=some C/\OIs K C/\qAb K (.ref C) (.ref a_Shift)=some true)/\(∀c∈(["Change","Turn","Swap","Mirror"]:List Str),∃C,clK K c=some C/\OIs K C/\qAb K (.ref C) (.ref a_Shift)=some false))(q5:(∀c∈(["Mirror"]:List Str),∃C,clK K c=some C/\OIs K C/\qAb K (.ref C) (.ref a_Mirror)=some true)/\(∀c∈(["Change","Turn","Swap","Shift"]:List Str),∃C,clK K c=some C/\OIs K C/\qAb K (.ref C) (.ref a_Mirror)=some false))(q6:(∀c∈(["Swap"]:List Str),∃C,clK K c=some C/\OIs K C/\qAb K (.ref C) (.ref a_Swap)=some true)/\(∀c∈(["Change","Turn","Mirror","Shift"]:List Str),∃C,clK K c=some C/\OIs K C/\qAb K (.ref C) (.ref a_Swap)=some false))(q7:(∀c∈(["Turn"]:List Str),∃C,clK K c=some C/\OIs K C/\qAb K (.ref C) (.ref a_Turn)=some true)/\(∀c∈(["Change","Swap","Mirror","Shift"]:List Str),∃C,clK K c=some C/\OIs K C/\qAb K (.ref C) (.ref a_Turn)=some false)):Has P w K mg base "_law_values" 1 ["_law_change"] (sp0 K mg 1 zAV):=by
 letI:Kc:=⟨K⟩
 refine D.ok zJ2 (fun _ _ _ _ _ _=>uw1 fun _=>rfl) (fun vs H Q E h=>zB2 h) (fun f cdv A outer s H vs Q E hr h=>?_);have hu:=hr.units;exact⟨_,(zA4 (zEK (pt_m (zAU zD7 rfl b_isinstance boot_isinstance (zA1 (pn 0) (zA1 (zHN rfl o_Turn.gm) zA7)))) (zAH (zAZ (zCY (zA1 zDI (zA1 (zCR (pn 0) rfl) zA7))))) zBT)
   (zA4 (zEK (pt_m (zAU zD7 rfl b_isinstance boot_isinstance (zA1 (pn 0) (zA1 (zHN rfl o_Swap.gm) zA7)))) (zAH (zAZ (zCY (zA1 zDI (zA1 (zCR (pn 0) rfl) (zA1 (zCR (pn 0) rfl) zA7)))))) zBT)
   (zA4 (zEK (pt_m (zAU zD7 rfl b_isinstance boot_isinstance (zA1 (pn 0) (zA1 (zHN rfl o_Mirror.gm) zA7)))) (zAH (zAZ (zCY (zA1 zDI zA7)))) zBT)
   (zA4 (zEK (pt_m (zAU zD7 rfl b_isinstance boot_isinstance (zA1 (pn 0) (zA1 (zHN rfl o_Shift.gm) zA7)))) (zAH (zAZ (zCY (zA1 zDI (zA1 (zCR (pn 0) rfl) zA7))))) zBT)
   (zAH (zAZ (zCY (zA1 zDI zA7)))))))),
  (zBK (N:=["_law_change"]) (zAJ (zF6 (dt_m (dz (zHX q7.1 q7.2 (de_v 0)))) (zB4 (n:=1) [0] (zCZ (n:=0) (zA2 zDJ (zA2 (zCX q3 (de_v 0)) zAF)))) zCV)
   (zAJ (zF6 (dt_m (dz (zHX q6.1 q6.2 (de_v 0)))) (zB4 (n:=1) [0] (zCZ (n:=0) (zA2 zDJ (zA2 (zCX q1 (de_v 0)) (zA2 (zCX q2 (de_v 0)) zAF))))) zCV)
   (zAJ (zF6 (dt_m (dz (zHX q5.1 q5.2 (de_v 0)))) (zB4 (n:=1) [] (zCZ (n:=0) (zA2 zDJ zAF))) zCV)
   (zAJ (zF6 (dt_m (dz (zHX q4.1 q4.2 (de_v 0)))) (zB4 (n:=1) [0] (zCZ (n:=0) (zA2 zDJ (zA2 (zCX q0 (de_v 0)) zAF)))) zCV)
   (zB4 (n:=1) [] (zCZ (n:=0) (zA2 zDJ zAF))))))) h)⟩
theorem zJY(D:Def K mg "_law_word" zEI)(b_len:mg "len" = none)(b_range:mg "range" = none):Has P w K mg base "_law_word" 1 ["_law_cells","_law_most"] (sp0 K mg 1 zCC):=by
 letI:Kc:=⟨K⟩
 refine D.ok S__law_word (fun _ _ _ _ _ _=>uw2 fun _ _=>rfl) (fun vs H Q E h=>zB2 h) (fun f cdv A outer s H vs Q E hr h=>?_);have hu:=hr.units;exact⟨_,(zA4 (zAQ (i:=2) S__law_word.nd rfl oi zDI)
   (zA4 (zAQ (i:=3) S__law_word.nd rfl oi zDI)
   (zA4 (zDB PassesOwn.never rfl (zGD rfl b_range (zA1 (zAK zBC zAA (zAK zDK (zBJ (zBH (K:=K)) (pn 0) zAA (fun _ _=>rfl)) (pn 1))) zA7)) (zB8 (i:=4) S__law_word.nd rfl oi) (zA4 (zAQ (i:=5) S__law_word.nd rfl oi (zBJ (zBH (K:=K)) (pn 2) (zAK zDK (zAK zBC (zAK zHE (zBJ (zBH (K:=K)) (pn 0) zAA (fun _ _=>rfl)) zAA) (zAK zG3 (zBJ (zBH (K:=K)) (zGE (zA1 zAA (zA1 zAA (zA1 zAA (zA1 zAA (zA1 zAA (zA1 zAA zA7))))))) (zAK zDK (zAK zHE (zBJ (zBH (K:=K)) (pn 0) zAA (fun _ _=>rfl)) zAA) zAA) (fun _ _=>rfl)) (pn 4))) zAA) (fun _ _=>rfl)))
   (zAH (zDB PassesOwn.never rfl (zHK (K:=K) (zCY (zA1 (zAK zDK (zBJ (zBH (K:=K)) (pn 0) (zAK zBC zAA (pn 4)) (fun _ _=>rfl)) (zAK zBC (zAU (zDQ (K:=K)) rfl b_len boot_len (zA1 (pn 3) zA7)) zAA)) (zA1 (zAK zDK (zAK zHE (zBJ (zBH (K:=K)) (pn 0) (zAK zBC zAA (pn 4)) (fun _ _=>rfl)) zAA) (zAK zBC (zAU (zDQ (K:=K)) rfl b_len boot_len (zA1 (pn 3) zA7)) zAA)) zA7)))) (zB8 (i:=6) S__law_word.nd rfl oi) (zAH (zAQ (i:=3) S__law_word.nd rfl oi (zAK zBC (zAK zBC (zAN (u_sl (K:=K)) (pn 3) zBX (zAL (pn 6))) (pn 5)) (zAN (u_sl (K:=K)) (pn 3) (zAL (pn 6)) zBX))))))))
   (zAH (zAZ (pn 3)))))),
  (zBK (N:=["_law_cells","_law_most","_law_letters","_law_word_here","_law_k","_law_letter","_law_place"]) (zAJ (zAR (n:=0) [] zDJ)
   (zAJ (zAR (n:=0) [] zDJ)
   (zAJ (zLI (zUY (zA2 (zB7 (zAC zAM (dz zAB) (dz (zAC zC2 (zAC zBI (de_v 0) (dz zAB)) (de_v 1))))) zAF)) (zAJ (zAR (n:=0) [2,4,0] (zAC zBI (de_v 2) (dz (zAC zC2 (zAC zAM (dz (zAC zHH (zAC zBI (de_v 0) (dz zAB)) (dz zAB))) (dz (zAC zGB (zAC zBI (zGU (n:=0) (zA2 zAB (zA2 zAB (zA2 zAB (zA2 zAB (zA2 zAB (zA2 zAB zAF))))))) (dz (zAC zC2 (dz (zAC zHH (zAC zBI (de_v 0) (dz zAB)) (dz zAB))) (dz zAB)))) (de_v 4)))) (dz zAB)))))
   (zHS [0,4,3] (zHV (zCZ (n:=0) (zA2 (zAC zC2 (zAC zBI (de_v 0) (zAC zAM (dz zAB) (de_v 4))) (zAC zAM (dz (zFP zDS (zA2 (de_v 3) zAF))) (dz zAB))) (zA2 (zAC zC2 (dz (zAC zHH (zAC zBI (de_v 0) (zAC zAM (dz zAB) (de_v 4))) (dz zAB))) (zAC zAM (dz (zFP zDS (zA2 (de_v 3) zAF))) (dz zAB))) zAF)))) (zEF 6) (zAR (n:=1) [5,3,6] (zAC zAM (zAC zAM (zCW (de_v 3) zF7 (do_e (de_v 6))) (de_v 5)) (zCW (de_v 3) (do_e (de_v 6)) zF7))))))
   (zIU 3)))) h)⟩
theorem zLB(D:Def K mg "done_all" zFH){a_Mirror:Addr}{a_Shift:Addr}{a_Swap:Addr}{a_Turn:Addr}(h_Turn_done:HasM P w K mg base a_Turn "done" 5 ["self","word"] (spE K mg 0 zBA))(h_Swap_done:HasM P w K mg base a_Swap "done" 6 ["self","word"] (spE K mg 0 zAO))(h_Mirror_done:HasM P w K mg base a_Mirror "done" 1 ["self","word"] (spE K mg 0 zAW))(h_Shift_done:HasM P w K mg base a_Shift "done" 2 ["self","word"] (spE K mg 0 zB0))(o_Turn:OCls K mg "Turn" a_Turn)(o_Swap:OCls K mg "Swap" a_Swap)(o_Mirror:OCls K mg "Mirror" a_Mirror)(o_Shift:OCls K mg "Shift" a_Shift):Has P w K mg base "done_all" 7 ["word","changes"] (sp0 K mg 0 zBW):=by
 letI:Kc:=⟨K⟩
 refine D.ok S_done_all (fun _ _ _ _ _ _=>uw2 fun _ _=>rfl) (fun vs H Q E h=>zB2 h) (fun f cdv A outer s H vs Q E hr h=>?_);have hu:=hr.units;exact⟨_,(zA4 (zAQ (i:=2) S_done_all.nd rfl oi (pn 0))
   (zA4 (zDB PassesOwn.never rfl (zHK (K:=K) (pn 1)) (zB8 (i:=3) S_done_all.nd rfl oi) (zAH (zAQ (i:=2) S_done_all.nd rfl oi (zIH (m:="done") (pn 3) (zAP (zCI o_Turn.cl) h_Turn_done (by decide) (zAP (zCI o_Swap.cl) h_Swap_done (by decide) (zAP (zCI o_Mirror.cl) h_Mirror_done (by decide) (zAP (zCI o_Shift.cl) h_Shift_done (by decide) zF2)))) hr zGN (zA1 (pn 2) zA7)))))
   (zAH (zAZ (pn 2))))),
  (zBK (N:=["word","changes","told","change"]) (zAJ (zAR (n:=0) [0] (de_v 0))
   (zAJ (zHS [1] (zHV (de_v 1)) (zEF 3) (zAR (n:=0) [2,3] (zIW (de_v 3) (zA2 (de_v 2) zAF))))
   (zIU 2))) h)⟩
theorem zWG{f:Addr}{fd:FuncData}(F:Fun K "law" "law" zI9 f fd){a_Change:Addr}{a_Mirror:Addr}{a_Shift:Addr}{a_Swap:Addr}{a_Turn:Addr}(h__law_mixed:Has P w K mg base "_law_mixed" 1 ["_law_script","_law_least"] (sp0 K mg 9 zCE))(h__law_step:Has P w K mg base "_law_step" 3 ["_law_word_here","_law_cell"] (sp0 K mg 1 zDD))(h__law_values:Has P w K mg base "_law_values" 1 ["_law_change"] (sp0 K mg 1 zAV))(h__law_word:Has P w K mg base "_law_word" 1 ["_law_cells","_law_most"] (sp0 K mg 1 zCC))(h_done_all:Has P w K mg base "done_all" 7 ["word","changes"] (sp0 K mg 0 zBW))(h_Turn_back:HasM P w K mg base a_Turn "back" 3 ["self"] (spE K mg 0 zCS))(h_Swap_back:HasM P w K mg base a_Swap "back" 3 ["self"] (spE K mg 0 zCT))(h_Mirror_back:HasM P w K mg base a_Mirror "back" 3 ["self"] (spE K mg 0 zC0))(h_Shift_back:HasM P w K mg base a_Shift "back" 3 ["self"] (spE K mg 0 zCF))(h_Turn_done:HasM P w K mg base a_Turn "done" 5 ["self","word"] (spE K mg 0 zBA))(h_Swap_done:HasM P w K mg base a_Swap "done" 6 ["self","word"] (spE K mg 0 zAO))(h_Mirror_done:HasM P w K mg base a_Mirror "done" 1 ["self","word"] (spE K mg 0 zAW))(h_Shift_done:HasM P w K mg base a_Shift "done" 2 ["self","word"] (spE K mg 0 zB0))(b_isinstance:mg "isinstance" = none)(b_list:mg "list" = none)(b_reversed:mg "reversed" = none)(o_Change:OCls K mg "Change" a_Change)(o_Turn:OCls K mg "Turn" a_Turn)(o_Swap:OCls K mg "Swap" a_Swap)(o_Mirror:OCls K mg "Mirror" a_Mirror)(o_Shift:OCls K mg "Shift" a_Shift)(q0:(∀c∈(["Shift"]:List Str),∃C,clK K c=some C/\OIs K C/\NoAttr K C "by"))(q8:(∀c∈(["Change","Turn","Swap","Mirror","Shift"]:List Str),∃C,clK K c=some C/\OIs K C/\qAb K (.ref C) (.ref a_Change)=some true)/\(∀c∈([]:List Str),∃C,clK K c=some C/\OIs K C/\qAb K (.ref C) (.ref a_Change)=some false)):FnOk P w K mg base CX0 8 f fd ["_law_script"] (zHF K):=by
 letI:Kc:=⟨K⟩
 refine(F.ok S_law (sp:=sp0 K mg 0 zK7) (fun vs H Q E h=>zB2 h) (fun cdv A outer s H vs Q E hr h=>?_)).imp (zRL zRK);have hu:=hr.units;exact⟨_,(zA4 (zAQ (i:=1) S_law.nd rfl oi (zEL h__law_mixed (by decide) hr rfl (zA1 (pn 0) (zA1 zAA zA7))))
   (zA4 (zAQ (i:=2) S_law.nd rfl oi (zEL h__law_word (by decide) hr rfl (zA1 (pn 1) (zA1 zAA zA7))))
   (zA4 (zAQ (i:=3) S_law.nd rfl oi (pn 2))
   (zA4 (zAQ (i:=4) S_law.nd rfl oi (zGE zA7))
   (zA4 (zAQ (i:=5) S_law.nd rfl oi (zGE zA7))
   (zA4 (zDB PassesOwn.never rfl (zHK (K:=K) (zAN (u_sl (K:=K)) (pn 1) (zAL zAA) (zAL zAA))) (zB8 (i:=6) S_law.nd rfl oi) (zA4 (zMH (zEL h__law_step (by decide) hr rfl (zA1 (pn 3) (zA1 (pn 6) zA7))) (zIG (K:=K) rfl (zBS (zB8 (i:=7) S_law.nd rfl oi) (zBS (zB8 (i:=8) S_law.nd rfl oi) zFL))))
   (zA4 (zEK (pt_w (zNF (zOO (pt_m (zAU zD7 rfl b_isinstance boot_isinstance (zA1 (pn 7) (zA1 (zHN rfl o_Change.gm) zA7))))) (zME (zDL (u_ne hu) (zIH (m:="done") (pn 7) (zAP (zCI o_Turn.cl) h_Turn_done (by decide) (zAP (zCI o_Swap.cl) h_Swap_done (by decide) (zAP (zCI o_Mirror.cl) h_Mirror_done (by decide) (zAP (zCI o_Shift.cl) h_Shift_done (by decide) zF2)))) hr zGN (zA1 (pn 3) zA7)) (pn 8) (zC3 _))))) (zAH (zAZ zU5)) zBT)
   (zA4 (zAQ (i:=9) S_law.nd rfl oi (zOU (m:="back") (pn 7) (zAP (zCI o_Turn.cl) h_Turn_back (by decide) (zAP (zCI o_Swap.cl) h_Swap_back (by decide) (zAP (zCI o_Mirror.cl) h_Mirror_back (by decide) (zAP (zCI o_Shift.cl) h_Shift_back (by decide) zF2)))) hr zGN))
   (zA4 (zAQ (i:=10) S_law.nd rfl oi (zEL h__law_values (by decide) hr rfl (zA1 (pn 7) zA7)))
   (zA4 (zEK (zDL (u_eq hu) (zBJ (zBH (K:=K)) (pn 10) zAA (fun _ _=>rfl)) zDI (zC3 _)) (zAH (zAQ (i:=10) S_law.nd rfl oi (zCY (zA1 zDI (zA1 (zAK zVG zAA (zCR (pn 7) rfl)) zA7))))) zBT)
   (zA4 (zEK (pt_w (zNF (zOO (pt_m (zAU zD7 rfl b_isinstance boot_isinstance (zA1 (pn 9) (zA1 (zHN rfl o_Change.gm) zA7))))) (zNF (zDL (u_ne hu) (zEL h__law_values (by decide) hr rfl (zA1 (pn 9) zA7)) (pn 10) (zC3 _)) (zME (zDL (u_ne hu) (zIH (m:="done") (pn 9) (zAP (zCI o_Turn.cl) h_Turn_done (by decide) (zAP (zCI o_Swap.cl) h_Swap_done (by decide) (zAP (zCI o_Mirror.cl) h_Mirror_done (by decide) (zAP (zCI o_Shift.cl) h_Shift_done (by decide) zF2)))) hr zGN (zA1 (pn 8) zA7)) (pn 3) (zC3 _)))))) (zAH (zAZ zU5)) zBT)
   (zA4 (zFK (zOT qC6 qC0 qC1 zGG (pn 4) (zA1 (pn 7) zA7)))
   (zA4 (zFK (zOT qC6 qC0 qC1 zGG (pn 5) (zA1 (pn 9) zA7)))
   (zAH (zAQ (i:=3) S_law.nd rfl oi (pn 8))))))))))))
   (zA4 (zAQ (i:=11) S_law.nd rfl oi (zD5 (zUJ (K:=K) rfl) rfl b_list boot_list (zA1 (pn 4) zA7)))
   (zA4 (zEK (pt_w (zNF (zDL (u_ne hu) (zEL h_done_all (by decide) hr rfl (zA1 (pn 2) (zA1 (pn 4) zA7))) (pn 3) (zC3 _)) (zNF (zDL (zXM hu) (pn 4) (pn 11) (zC3 _)) (zME (zDL (u_ne hu) (zEL h_done_all (by decide) hr rfl (zA1 (pn 2) (zA1 (zGE zA7) zA7))) (pn 2) (zC3 _)))))) (zAH (zAZ zU5)) zBT)
   (zAH (zAZ (zOX (u_eq hu) (zEL h_done_all (by decide) hr rfl (zA1 (pn 3) (zA1 (zD5 (zPI (K:=K) rfl) rfl b_list boot_list (zA1 (zD5 (zWQ (K:=K)) rfl b_reversed zED (zA1 (pn 5) zA7)) zA7)) zA7))) (pn 2) (zC3 _)))))))))))),
  zBK (N:=["_law_script","_law_cells","_law_word_here","_law_here","_law_changes","_law_backs","_law_cell","_law_change","_law_due","_law_back","_law_values_here","_law_kept"]) (zAJ (zAR (n:=9) [0] (zC1 (zA2 (de_v 0) (zA2 zAB zAF))))
   (zAJ (zAR (n:=1) [1] (zC1 (zA2 (de_v 1) (zA2 zAB zAF))))
   (zAJ (zAR (n:=0) [2] (de_v 2))
   (zAJ (zAR (n:=9) [] (zGU (n:=8) zAF))
   (zAJ (zAR (n:=9) [] (zGU (n:=8) zAF))
   (zAJ (zHS [1] (zHV (zCW (de_v 1) (do_e (dz zAB)) (do_e (dz zAB)))) (zEF 6) (zAJ (zT3 [3,6] (zLY (zBR 7 (zBR 8 zFE)) rfl) (zC1 (zA2 (de_v 3) (zA2 (de_v 6) zAF))))
   (zAJ (zF6 (zS2 (zPT (dt_m (dz (zHX q8.1 q8.2 (de_v 7))))) (dt_b (dz (zAC zL9 (zIW (de_v 7) (zA2 (de_v 3) zAF)) (de_v 8))))) (zB4 (n:=0) [] zS7) zCV)
   (zAJ (zAR (n:=0) [7] (zIW (de_v 7) zAF))
   (zAJ (zAR (n:=1) [7] (zC1 (zA2 (de_v 7) zAF)))
   (zAJ (zF6 (dt_b (dz (zAC zJN (zAC zBI (de_v 10) (dz zAB)) (dz zDJ)))) (zAR (n:=1) [7] (zCZ (n:=0) (zA2 zDJ (zA2 (zAC zSF (dz zAB) (dz (zCX q0 (de_v 7)))) zAF)))) zCV)
   (zAJ (zF6 (zS2 (zPT (dt_m (dz (zHX q8.1 q8.2 (de_v 9))))) (zS2 (dt_b (dz (zAC zL9 (zC1 (zA2 (de_v 9) zAF)) (de_v 10)))) (dt_b (dz (zAC zL9 (zIW (de_v 9) (zA2 (de_v 8) zAF)) (de_v 3)))))) (zB4 (n:=0) [] zS7) zCV)
   (zAJ (zPX 4 [7] (de_v 7))
   (zAJ (zPX 5 [9] (de_v 9))
   (zAR (n:=0) [8] (de_v 8)))))))))))
   (zUX 11 4 (dt_b (dz (zAC zL9 (zC1 (zA2 (de_v 2) (zA2 (de_v 4) zAF))) (de_v 3)))) (dt_b (dz (zAC zL9 (zC1 (zA2 (de_v 2) (zA2 (zB7 (zGU (n:=8) zAF)) zAF))) (de_v 2))))
   (zB4 (n:=0) [2,3,5] (zAC zJN (zC1 (zA2 (de_v 3) (zA2 (zB7 (zT7 (zA2 (de_v 5) zAF))) zAF))) (de_v 2)))))))))) h⟩
end
theorem mkD{K:qA0}{h:Heap}{mg:Str->Option Value}{nm:Str}{st:Stmt}{f:Addr}{oc kV dc pm cd ct:Value}{od an:Option Addr}{sl:Array (Option Value)}(X:K.In h)(G:h.Ns mainGlobals mg)(a:qAt K mainGlobals nm=some (some (.ref f)))(l:K.lookup f=some ⟨oc,od,.func (qAx nm nm (zB5 st) (zAY st) (zA5 st) .none kV dc pm an cd ct),sl⟩)(c:qAy K cd nm=true)(k:qAd K (.ref f)=true):Def K mg nm st:=⟨f,_,zCU (st:=st) l c k,qBu X G a⟩
theorem all_mk{l:qDx}{w:World}{K:qA0}{h:Heap}{mg:Str->Option Value}{fa f0 f1 f2 f4 f5 f10 f11 f12 f22 f23 f24 f25 f26 a_RoundError a_NoLetter a_NoCross a_Change a_Turn a_Swap a_Mirror a_Shift:Addr}{cd_Change cd_Turn cd_Swap cd_Mirror cd_Shift:ClassData}{dd_RoundError dd_NoLetter dd_NoCross:Option Addr}{cd_RoundError cd_NoLetter cd_NoCross:ClassData}{sl_RoundError sl_NoLetter sl_NoCross:Array (Option Value)}(X:K.In h)(G:h.Ns mainGlobals mg)(hfa:mg "law" = some (.ref fa))
  {od0 an0 od1 an1 od2 an2 od4 an4 od5 an5 od10 an10 od11 an11 od12 an12 od22 an22 od23 an23 od24 an24 od25 an25 od26 an26:Option Addr} {sl0 sl1 sl2 sl4 sl5 sl10 sl11 sl12 sl22 sl23 sl24 sl25 sl26:Array (Option Value)} {oc0 kV0 dc0 pm0 cd0 ct0 oc1 kV1 dc1 pm1 cd1 ct1 oc2 kV2 dc2 pm2 cd2 ct2 oc4 kV4 dc4 pm4 cd4 ct4 oc5 kV5 dc5 pm5 cd5 ct5 oc10 kV10 dc10 pm10 cd10 ct10 oc11 kV11 dc11 pm11 cd11 ct11 oc12 kV12 dc12 pm12 cd12 ct12 oc22 kV22 dc22 pm22 cd22 ct22 oc23 kV23 dc23 pm23 cd23 ct23 oc24 kV24 dc24 pm24 cd24 ct24 oc25 kV25 dc25 pm25 cd25 ct25 oc26 kV26 dc26 pm26 cd26 ct26:Value}
  (D3:Def K mg "shifted" zG9)
  (D6:Def K mg "first_place" zD8)
  (D7:Def K mg "places_of" zEG)
  (D8:Def K mg "do_cross" zFI)
  (D9:Def K mg "exchanged" zEH)
  (D13:Def K mg "_law_mixed" zDO)
  (D14:Def K mg "_law_spots" zDN)
  (D15:Def K mg "_law_crossing" zCQ)
  (D16:Def K mg "_law_swapped" zD1)
  (D17:Def K mg "_law_turned" zDA)
  (D18:Def K mg "_law_step" zEJ)
  (D19:Def K mg "_law_values" zD9)
  (D20:Def K mg "_law_word" zEI)
  (D21:Def K mg "done_all" zFH)
  (a22:qAt K mainGlobals "law" = some (some (.ref f22)))
  (l22:K.lookup f22=some ⟨oc22,od22,.func (qAx "law" "law" (zB5 zI9) (zAY zI9) (zA5 zI9) .none kV22 dc22 pm22 an22 cd22 ct22),sl22⟩)
  (c22:qAy K cd22 "law" = true)
  (k22:qAd K (.ref f22)=true)
  (z0:qAt K mainGlobals "enumerate" = some none)
  (z1:qAt K mainGlobals "isinstance" = some none)
  (z2:qAt K mainGlobals "len" = some none)
  (z3:qAt K mainGlobals "list" = some none)
  (z4:qAt K mainGlobals "max" = some none)
  (z5:qAt K mainGlobals "min" = some none)
  (z6:qAt K mainGlobals "range" = some none)
  (z7:qAt K mainGlobals "reversed" = some none)
  (z8:qAt K mainGlobals "set" = some none)
  (z9:qAt K mainGlobals "sorted" = some none)
  (xa_RoundError:qAt K mainGlobals "RoundError" = some (some (.ref a_RoundError)))
  (xl_RoundError:K.lookup a_RoundError=some ⟨.type "type",dd_RoundError,.cls cd_RoundError,sl_RoundError⟩)
  (xd_RoundError:xcD a_RoundError cd_RoundError sl_RoundError=true)
  (xn_RoundError:qBi K a_RoundError=some cd_RoundError)
  (xo_RoundError:PySem.W.excTail cd_RoundError.mro=true)
  (xt_RoundError:qBg K (.ref a_RoundError)=some (.type "type"))
  (xg_RoundError:qA5 K (.ref a_RoundError) "__getattribute__" = some (some (.builtin "BaseException.__getattribute__")))
  (xh_RoundError:qA5 K (.ref a_RoundError) "__getattr__" = some none)
  (xj_RoundError:qBb K a_RoundError=true)
  (xm_RoundError:qA5 K (.ref a_RoundError) "__class__" = some (some (.builtin "object.__class__")))
  (xp_RoundError:qC4 K a_RoundError (.type "object")=some true)
  (xv_RoundError:qAh K (.ref a_RoundError) (.type "ValueError")=some true)
  (xw_RoundError:qAh K (.ref a_RoundError) (.type "BaseException")=some true)
  (xa_NoLetter:qAt K mainGlobals "NoLetter" = some (some (.ref a_NoLetter)))
  (xl_NoLetter:K.lookup a_NoLetter=some ⟨.type "type",dd_NoLetter,.cls cd_NoLetter,sl_NoLetter⟩)
  (xd_NoLetter:xcD a_NoLetter cd_NoLetter sl_NoLetter=true)
  (xn_NoLetter:qBi K a_NoLetter=some cd_NoLetter)
  (xo_NoLetter:PySem.W.excTail cd_NoLetter.mro=true)
  (xt_NoLetter:qBg K (.ref a_NoLetter)=some (.type "type"))
  (xg_NoLetter:qA5 K (.ref a_NoLetter) "__getattribute__" = some (some (.builtin "BaseException.__getattribute__")))
  (xh_NoLetter:qA5 K (.ref a_NoLetter) "__getattr__" = some none)
  (xj_NoLetter:qBb K a_NoLetter=true)
  (xm_NoLetter:qA5 K (.ref a_NoLetter) "__class__" = some (some (.builtin "object.__class__")))
  (xp_NoLetter:qC4 K a_NoLetter (.type "object")=some true)
  (xv_NoLetter:qAh K (.ref a_NoLetter) (.type "ValueError")=some true)
  (xw_NoLetter:qAh K (.ref a_NoLetter) (.type "BaseException")=some true)
  (xa_NoCross:qAt K mainGlobals "NoCross" = some (some (.ref a_NoCross)))
  (xl_NoCross:K.lookup a_NoCross=some ⟨.type "type",dd_NoCross,.cls cd_NoCross,sl_NoCross⟩)
  (xd_NoCross:xcD a_NoCross cd_NoCross sl_NoCross=true)
  (xn_NoCross:qBi K a_NoCross=some cd_NoCross)
  (xo_NoCross:PySem.W.excTail cd_NoCross.mro=true)
  (xt_NoCross:qBg K (.ref a_NoCross)=some (.type "type"))
  (xg_NoCross:qA5 K (.ref a_NoCross) "__getattribute__" = some (some (.builtin "BaseException.__getattribute__")))
  (xh_NoCross:qA5 K (.ref a_NoCross) "__getattr__" = some none)
  (xj_NoCross:qBb K a_NoCross=true)
  (xm_NoCross:qA5 K (.ref a_NoCross) "__class__" = some (some (.builtin "object.__class__")))
  (xp_NoCross:qC4 K a_NoCross (.type "object")=some true)
  (xv_NoCross:qAh K (.ref a_NoCross) (.type "ValueError")=some true)
  (xw_NoCross:qAh K (.ref a_NoCross) (.type "BaseException")=some true)
  (xa_Change:qAt K mainGlobals "Change" = some (some (.ref a_Change)))
  (xn_Change:qBi K a_Change=some cd_Change)
  (xt_Change:qBg K (.ref a_Change)=some (.type "type"))
  (og_Change:qBt K a_Change Str.empty=true)
  (oh_Change:qBb K a_Change=true)
  (op_Change:qCa K a_Change=true)
  (oz_Change:qA5 K (.ref a_Change) "__setattr__" = some (some (.builtin "object.__setattr__")))
  (xm_Change:qA5 K (.ref a_Change) "__class__" = some (some (.builtin "object.__class__")))
  (xp_Change:qC4 K a_Change (.type "object")=some true)
  (xa_Turn:qAt K mainGlobals "Turn" = some (some (.ref a_Turn)))
  (xn_Turn:qBi K a_Turn=some cd_Turn)
  (xt_Turn:qBg K (.ref a_Turn)=some (.type "type"))
  (og_Turn:qBt K a_Turn Str.empty=true)
  (oh_Turn:qBb K a_Turn=true)
  (op_Turn:qCa K a_Turn=true)
  (oz_Turn:qA5 K (.ref a_Turn) "__setattr__" = some (some (.builtin "object.__setattr__")))
  (xm_Turn:qA5 K (.ref a_Turn) "__class__" = some (some (.builtin "object.__class__")))
  (xp_Turn:qC4 K a_Turn (.type "object")=some true)
  (xa_Swap:qAt K mainGlobals "Swap" = some (some (.ref a_Swap)))
  (xn_Swap:qBi K a_Swap=some cd_Swap)
  (xt_Swap:qBg K (.ref a_Swap)=some (.type "type"))
  (og_Swap:qBt K a_Swap Str.empty=true)
  (oh_Swap:qBb K a_Swap=true)
  (op_Swap:qCa K a_Swap=true)
  (oz_Swap:qA5 K (.ref a_Swap) "__setattr__" = some (some (.builtin "object.__setattr__")))
  (xm_Swap:qA5 K (.ref a_Swap) "__class__" = some (some (.builtin "object.__class__")))
  (xp_Swap:qC4 K a_Swap (.type "object")=some true)
  (xa_Mirror:qAt K mainGlobals "Mirror" = some (some (.ref a_Mirror)))
  (xn_Mirror:qBi K a_Mirror=some cd_Mirror)
  (xt_Mirror:qBg K (.ref a_Mirror)=some (.type "type"))
  (og_Mirror:qBt K a_Mirror Str.empty=true)
  (oh_Mirror:qBb K a_Mirror=true)
  (op_Mirror:qCa K a_Mirror=true)
  (oz_Mirror:qA5 K (.ref a_Mirror) "__setattr__" = some (some (.builtin "object.__setattr__")))
  (xm_Mirror:qA5 K (.ref a_Mirror) "__class__" = some (some (.builtin "object.__class__")))
  (xp_Mirror:qC4 K a_Mirror (.type "object")=some true)
  (xa_Shift:qAt K mainGlobals "Shift" = some (some (.ref a_Shift)))
  (xn_Shift:qBi K a_Shift=some cd_Shift)
  (xt_Shift:qBg K (.ref a_Shift)=some (.type "type"))
  (og_Shift:qBt K a_Shift Str.empty=true)
  (oh_Shift:qBb K a_Shift=true)
  (op_Shift:qCa K a_Shift=true)
  (oz_Shift:qA5 K (.ref a_Shift) "__setattr__" = some (some (.builtin "object.__setattr__")))
  (xm_Shift:qA5 K (.ref a_Shift) "__class__" = some (some (.builtin "object.__class__")))
  (xp_Shift:qC4 K a_Shift (.type "object")=some true)
  (ycg:qD2 K (.builtin "object.__class__") "__get__" = some (some (.builtin "getset_descriptor.__get__")))
  (yct:qF1 K (.builtin "object.__class__")=some true)
  (zk_NoCross:qAd K (.ref a_NoCross)=true)
  (zi_NoCross:qA5 K (.ref a_NoCross) "__init__" = some (some (.builtin "ValueError.__init__")))
  (xc_NoLetter:qA5 K (.ref a_NoLetter) "__setattr__" = some (some (.builtin "object.__setattr__")))
  (xq_NoLetter:qDa K a_NoLetter "letter" = some none)
  (xr_NoLetter:qA5 K (.ref a_NoLetter) "letter" = some none)
  (xs_NoLetter:qAd K (.ref a_NoLetter)=true)
  (xi_NoLetter:qA5 K (.ref a_NoLetter) "__init__" = some (some (.ref f23)))
  (xf_NoLetter:qB8 K (.ref f23)=true)
  (l23:K.lookup f23=some ⟨oc23,od23,.func (qAx "__init__" "NoLetter.__init__" (zB5 zC6) (zAY zC6) (zA5 zC6) .none kV23 dc23 pm23 an23 cd23 ct23),sl23⟩)
  (c23:qAy K cd23 "NoLetter.__init__" = true)
  (k23:qAd K (.ref f23)=true)
  (zm_Mirror:qBv K a_Mirror=true)
  (zi_Mirror:qA5 K (.ref a_Mirror) "__init__" = some (some (.builtin "object.__init__")))
  (zk_Mirror:qAd K (.ref a_Mirror)=true)
  (zm_Turn:qBv K a_Turn=true)
  (xi_Turn:qA5 K (.ref a_Turn) "__init__" = some (some (.ref f24)))
  (xf_Turn:qB8 K (.ref f24)=true)
  (zk_Turn:qAd K (.ref a_Turn)=true)
  (l24:K.lookup f24=some ⟨oc24,od24,.func (qAx "__init__" "Turn.__init__" (zB5 zFF) (zAY zFF) (zA5 zFF) .none kV24 dc24 pm24 an24 cd24 ct24),sl24⟩)
  (c24:qAy K cd24 "Turn.__init__" = true)
  (k24:qAd K (.ref f24)=true)
  (na_Turn_letter:qA5 K (.ref a_Turn) "letter" = some none)
  (zm_Swap:qBv K a_Swap=true)
  (xi_Swap:qA5 K (.ref a_Swap) "__init__" = some (some (.ref f25)))
  (xf_Swap:qB8 K (.ref f25)=true)
  (zk_Swap:qAd K (.ref a_Swap)=true)
  (l25:K.lookup f25=some ⟨oc25,od25,.func (qAx "__init__" "Swap.__init__" (zB5 zFG) (zAY zFG) (zA5 zFG) .none kV25 dc25 pm25 an25 cd25 ct25),sl25⟩)
  (c25:qAy K cd25 "Swap.__init__" = true)
  (k25:qAd K (.ref f25)=true)
  (na_Swap_one:qA5 K (.ref a_Swap) "one" = some none)
  (na_Swap_other:qA5 K (.ref a_Swap) "other" = some none)
  (zm_Shift:qBv K a_Shift=true)
  (xi_Shift:qA5 K (.ref a_Shift) "__init__" = some (some (.ref f26)))
  (xf_Shift:qB8 K (.ref f26)=true)
  (zk_Shift:qAd K (.ref a_Shift)=true)
  (l26:K.lookup f26=some ⟨oc26,od26,.func (qAx "__init__" "Shift.__init__" (zB5 zDW) (zAY zDW) (zA5 zDW) .none kV26 dc26 pm26 an26 cd26 ct26),sl26⟩)
  (c26:qAy K cd26 "Shift.__init__" = true)
  (k26:qAd K (.ref f26)=true)
  (na_Shift_by:qA5 K (.ref a_Shift) "by" = some none)
  (mt_Mirror_back:qA5 K (.ref a_Mirror) "back" = some (some (.ref f0)))
  (l0:K.lookup f0=some ⟨oc0,od0,.func (qAx "back" "Mirror.back" (zB5 zBN) (zAY zBN) (zA5 zBN) .none kV0 dc0 pm0 an0 cd0 ct0),sl0⟩)
  (c0:qAy K cd0 "Mirror.back" = true)
  (k0:qAd K (.ref f0)=true)
  (mf0:qB8 K (.ref f0)=true)
  (mt_Mirror_done:qA5 K (.ref a_Mirror) "done" = some (some (.ref f1)))
  (l1:K.lookup f1=some ⟨oc1,od1,.func (qAx "done" "Mirror.done" (zB5 zBM) (zAY zBM) (zA5 zBM) .none kV1 dc1 pm1 an1 cd1 ct1),sl1⟩)
  (c1:qAy K cd1 "Mirror.done" = true)
  (k1:qAd K (.ref f1)=true)
  (mf1:qB8 K (.ref f1)=true)
  (mt_Shift_back:qA5 K (.ref a_Shift) "back" = some (some (.ref f2)))
  (l2:K.lookup f2=some ⟨oc2,od2,.func (qAx "back" "Shift.back" (zB5 zBV) (zAY zBV) (zA5 zBV) .none kV2 dc2 pm2 an2 cd2 ct2),sl2⟩)
  (c2:qAy K cd2 "Shift.back" = true)
  (k2:qAd K (.ref f2)=true)
  (mf2:qB8 K (.ref f2)=true)
  (mt_Shift_done:qA5 K (.ref a_Shift) "done" = some (some (.ref f4)))
  (l4:K.lookup f4=some ⟨oc4,od4,.func (qAx "done" "Shift.done" (zB5 zBU) (zAY zBU) (zA5 zBU) .none kV4 dc4 pm4 an4 cd4 ct4),sl4⟩)
  (c4:qAy K cd4 "Shift.done" = true)
  (k4:qAd K (.ref f4)=true)
  (mf4:qB8 K (.ref f4)=true)
  (mt_Swap_back:qA5 K (.ref a_Swap) "back" = some (some (.ref f5)))
  (l5:K.lookup f5=some ⟨oc5,od5,.func (qAx "back" "Swap.back" (zB5 zCA) (zAY zCA) (zA5 zCA) .none kV5 dc5 pm5 an5 cd5 ct5),sl5⟩)
  (c5:qAy K cd5 "Swap.back" = true)
  (k5:qAd K (.ref f5)=true)
  (mf5:qB8 K (.ref f5)=true)
  (mt_Swap_done:qA5 K (.ref a_Swap) "done" = some (some (.ref f10)))
  (l10:K.lookup f10=some ⟨oc10,od10,.func (qAx "done" "Swap.done" (zB5 zC9) (zAY zC9) (zA5 zC9) .none kV10 dc10 pm10 an10 cd10 ct10),sl10⟩)
  (c10:qAy K cd10 "Swap.done" = true)
  (k10:qAd K (.ref f10)=true)
  (mf10:qB8 K (.ref f10)=true)
  (mt_Turn_back:qA5 K (.ref a_Turn) "back" = some (some (.ref f11)))
  (l11:K.lookup f11=some ⟨oc11,od11,.func (qAx "back" "Turn.back" (zB5 zC8) (zAY zC8) (zA5 zC8) .none kV11 dc11 pm11 an11 cd11 ct11),sl11⟩)
  (c11:qAy K cd11 "Turn.back" = true)
  (k11:qAd K (.ref f11)=true)
  (mf11:qB8 K (.ref f11)=true)
  (mt_Turn_done:qA5 K (.ref a_Turn) "done" = some (some (.ref f12)))
  (l12:K.lookup f12=some ⟨oc12,od12,.func (qAx "done" "Turn.done" (zB5 zC7) (zAY zC7) (zA5 zC7) .none kV12 dc12 pm12 an12 cd12 ct12),sl12⟩)
  (c12:qAy K cd12 "Turn.done" = true)
  (k12:qAd K (.ref f12)=true)
  (mf12:qB8 K (.ref f12)=true)
  (wg_RoundError:qD2 K (.ref a_RoundError) "__getattribute__" = some (some (.builtin "type.__getattribute__")))
  (wr_RoundError:qGg K a_RoundError (.type "type")=true)
  (wf_RoundError:qGh K (.ref a_RoundError) (.type "type") "__init__" = some (.val (.builtin "ValueError.__init__")))
  (s_Shift_Shift:qAh K (.ref a_Shift) (.ref a_Shift)=some true)
  (s_Change_Shift:qAh K (.ref a_Change) (.ref a_Shift)=some false)
  (e_Change_Shift:(a_Change==a_Shift)=false)
  (s_Turn_Shift:qAh K (.ref a_Turn) (.ref a_Shift)=some false)
  (e_Turn_Shift:(a_Turn==a_Shift)=false)
  (s_Swap_Shift:qAh K (.ref a_Swap) (.ref a_Shift)=some false)
  (e_Swap_Shift:(a_Swap==a_Shift)=false)
  (s_Mirror_Shift:qAh K (.ref a_Mirror) (.ref a_Shift)=some false)
  (e_Mirror_Shift:(a_Mirror==a_Shift)=false)
  (s_Mirror_Mirror:qAh K (.ref a_Mirror) (.ref a_Mirror)=some true)
  (s_Change_Mirror:qAh K (.ref a_Change) (.ref a_Mirror)=some false)
  (e_Change_Mirror:(a_Change==a_Mirror)=false)
  (s_Turn_Mirror:qAh K (.ref a_Turn) (.ref a_Mirror)=some false)
  (e_Turn_Mirror:(a_Turn==a_Mirror)=false)
  (s_Swap_Mirror:qAh K (.ref a_Swap) (.ref a_Mirror)=some false)
  (e_Swap_Mirror:(a_Swap==a_Mirror)=false)
  (s_Shift_Mirror:qAh K (.ref a_Shift) (.ref a_Mirror)=some false)
  (e_Shift_Mirror:(a_Shift==a_Mirror)=false)
  (s_Swap_Swap:qAh K (.ref a_Swap) (.ref a_Swap)=some true)
  (s_Change_Swap:qAh K (.ref a_Change) (.ref a_Swap)=some false)
  (e_Change_Swap:(a_Change==a_Swap)=false)
  (s_Turn_Swap:qAh K (.ref a_Turn) (.ref a_Swap)=some false)
  (e_Turn_Swap:(a_Turn==a_Swap)=false)
  (s_Mirror_Swap:qAh K (.ref a_Mirror) (.ref a_Swap)=some false)
  (e_Mirror_Swap:(a_Mirror==a_Swap)=false)
  (s_Shift_Swap:qAh K (.ref a_Shift) (.ref a_Swap)=some false)
  (e_Shift_Swap:(a_Shift==a_Swap)=false)
  (s_Turn_Turn:qAh K (.ref a_Turn) (.ref a_Turn)=some true)
  (s_Change_Turn:qAh K (.ref a_Change) (.ref a_Turn)=some false)
  (e_Change_Turn:(a_Change==a_Turn)=false)
  (s_Swap_Turn:qAh K (.ref a_Swap) (.ref a_Turn)=some false)
  (e_Swap_Turn:(a_Swap==a_Turn)=false)
  (s_Mirror_Turn:qAh K (.ref a_Mirror) (.ref a_Turn)=some false)
  (e_Mirror_Turn:(a_Mirror==a_Turn)=false)
  (s_Shift_Turn:qAh K (.ref a_Shift) (.ref a_Turn)=some false)
  (e_Shift_Turn:(a_Shift==a_Turn)=false)
  (s_Change_Change:qAh K (.ref a_Change) (.ref a_Change)=some true)
  (s_Turn_Change:qAh K (.ref a_Turn) (.ref a_Change)=some true)
  (s_Swap_Change:qAh K (.ref a_Swap) (.ref a_Change)=some true)
  (s_Mirror_Change:qAh K (.ref a_Mirror) (.ref a_Change)=some true)
  (s_Shift_Change:qAh K (.ref a_Shift) (.ref a_Change)=some true)
  :∃fd:FuncData,(∀(s:Shared)(v:Value),BindsTo s fd ⟨[v],[]⟩ [("_law_script",v)])/\∀base:Heap,K.In base->base.Ns mainGlobals mg->FnOk l.prog w K mg base CX0 8 fa fd ["_law_script"] (zHF K):=by
 have e:=hfa.symm.trans (qBu X G a22);cases e;have D0:=zCU (x:="back") (qual:="Mirror.back") (st:=zBN) l0 c0 k0;have D1:=zCU (x:="done") (qual:="Mirror.done") (st:=zBM) l1 c1 k1;have D2:=zCU (x:="back") (qual:="Shift.back") (st:=zBV) l2 c2 k2;have D4:=zCU (x:="done") (qual:="Shift.done") (st:=zBU) l4 c4 k4;have D5:=zCU (x:="back") (qual:="Swap.back") (st:=zCA) l5 c5 k5;have D10:=zCU (x:="done") (qual:="Swap.done") (st:=zC9) l10 c10 k10;have D11:=zCU (x:="back") (qual:="Turn.back") (st:=zC8) l11 c11 k11;have D12:=zCU (x:="done") (qual:="Turn.done") (st:=zC7) l12 c12 k12;have b_enumerate:=qBe X G z0;have b_isinstance:=qBe X G z1;have b_len:=qBe X G z2;have b_list:=qBe X G z3;have b_max:=qBe X G z4;have b_min:=qBe X G z5;have b_range:=qBe X G z6;have b_reversed:=qBe X G z7;have b_set:=qBe X G z8;have b_sorted:=qBe X G z9;have i_RoundError:Xc.XIs K a_RoundError:=⟨zKW xl_RoundError xd_RoundError,xg_RoundError,xh_RoundError,xj_RoundError,xm_RoundError,ycg,yct,xp_RoundError⟩
 have i_NoLetter:Xc.XIs K a_NoLetter:=⟨zKW xl_NoLetter xd_NoLetter,xg_NoLetter,xh_NoLetter,xj_NoLetter,xm_NoLetter,ycg,yct,xp_NoLetter⟩
 have i_NoCross:Xc.XIs K a_NoCross:=⟨zKW xl_NoCross xd_NoCross,xg_NoCross,xh_NoCross,xj_NoCross,xm_NoCross,ycg,yct,xp_NoCross⟩
 have i_Change:OIs K a_Change:=⟨⟨og_Change,oh_Change,op_Change,oz_Change⟩,xm_Change,ycg,yct,xp_Change⟩
 have o_Change:OCls K mg "Change" a_Change:=⟨zBG xa_Change,qBu X G xa_Change,i_Change⟩
 have i_Turn:OIs K a_Turn:=⟨⟨og_Turn,oh_Turn,op_Turn,oz_Turn⟩,xm_Turn,ycg,yct,xp_Turn⟩
 have o_Turn:OCls K mg "Turn" a_Turn:=⟨zBG xa_Turn,qBu X G xa_Turn,i_Turn⟩
 have i_Swap:OIs K a_Swap:=⟨⟨og_Swap,oh_Swap,op_Swap,oz_Swap⟩,xm_Swap,ycg,yct,xp_Swap⟩
 have o_Swap:OCls K mg "Swap" a_Swap:=⟨zBG xa_Swap,qBu X G xa_Swap,i_Swap⟩
 have i_Mirror:OIs K a_Mirror:=⟨⟨og_Mirror,oh_Mirror,op_Mirror,oz_Mirror⟩,xm_Mirror,ycg,yct,xp_Mirror⟩
 have o_Mirror:OCls K mg "Mirror" a_Mirror:=⟨zBG xa_Mirror,qBu X G xa_Mirror,i_Mirror⟩
 have i_Shift:OIs K a_Shift:=⟨⟨og_Shift,oh_Shift,op_Shift,oz_Shift⟩,xm_Shift,ycg,yct,xp_Shift⟩
 have o_Shift:OCls K mg "Shift" a_Shift:=⟨zBG xa_Shift,qBu X G xa_Shift,i_Shift⟩
 have on_Mirror:ONew K mg "Mirror" a_Mirror:=⟨o_Mirror,zm_Mirror,zi_Mirror,zk_Mirror⟩
 have n_RoundError:XCls K mg "RoundError" a_RoundError:=⟨zBG xa_RoundError,qBu X G xa_RoundError,i_RoundError⟩
 have n_NoLetter:XCls K mg "NoLetter" a_NoLetter:=⟨zBG xa_NoLetter,qBu X G xa_NoLetter,i_NoLetter⟩
 have n_NoCross:XCls K mg "NoCross" a_NoCross:=⟨zBG xa_NoCross,qBu X G xa_NoCross,i_NoCross⟩
 have z_NoCross:XNo K mg "NoCross" a_NoCross:=⟨n_NoCross,zk_NoCross,zi_NoCross⟩
 have w_RoundError:XBase K a_RoundError:=⟨wg_RoundError,wr_RoundError,wf_RoundError,zY5⟩
 have q0:(∀c∈(["Shift"]:List Str),∃C,clK K c=some C/\OIs K C/\NoAttr K C "by"):=by
  intro c h;simp only[qA7,qAg,or_false]at h;subst h;exact⟨a_Shift,zBG xa_Shift,i_Shift,na_Shift_by⟩
 have q1:(∀c∈(["Swap"]:List Str),∃C,clK K c=some C/\OIs K C/\NoAttr K C "one"):=by
  intro c h;simp only[qA7,qAg,or_false]at h;subst h;exact⟨a_Swap,zBG xa_Swap,i_Swap,na_Swap_one⟩
 have q2:(∀c∈(["Swap"]:List Str),∃C,clK K c=some C/\OIs K C/\NoAttr K C "other"):=by
  intro c h;simp only[qA7,qAg,or_false]at h;subst h;exact⟨a_Swap,zBG xa_Swap,i_Swap,na_Swap_other⟩
 have q3:(∀c∈(["Turn"]:List Str),∃C,clK K c=some C/\OIs K C/\NoAttr K C "letter"):=by
  intro c h;simp only[qA7,qAg,or_false]at h;subst h;exact⟨a_Turn,zBG xa_Turn,i_Turn,na_Turn_letter⟩
 have q4_y:(∀c∈(["Shift"]:List Str),∃C,clK K c=some C/\OIs K C/\qAb K (.ref C) (.ref a_Shift)=some true):=by
  intro c h;simp only[qA7,qAg,or_false]at h;subst h;exact⟨a_Shift,zBG xa_Shift,i_Shift,(zCL xn_Shift xt_Shift s_Shift_Shift)⟩
 have q4_n:(∀c∈(["Change","Turn","Swap","Mirror"]:List Str),∃C,clK K c=some C/\OIs K C/\qAb K (.ref C) (.ref a_Shift)=some false):=by
  intro c h;simp only[qA7,qAg,or_false]at h
  rcases h with rfl|rfl|rfl|rfl
  ·exact⟨a_Change,zBG xa_Change,i_Change,(zBB xn_Shift xt_Shift s_Change_Shift e_Change_Shift)⟩
  ·exact⟨a_Turn,zBG xa_Turn,i_Turn,(zBB xn_Shift xt_Shift s_Turn_Shift e_Turn_Shift)⟩
  ·exact⟨a_Swap,zBG xa_Swap,i_Swap,(zBB xn_Shift xt_Shift s_Swap_Shift e_Swap_Shift)⟩
  ·exact⟨a_Mirror,zBG xa_Mirror,i_Mirror,(zBB xn_Shift xt_Shift s_Mirror_Shift e_Mirror_Shift)⟩
 have q4:(∀c∈(["Shift"]:List Str),∃C,clK K c=some C/\OIs K C/\qAb K (.ref C) (.ref a_Shift)=some true)/\(∀c∈(["Change","Turn","Swap","Mirror"]:List Str),∃C,clK K c=some C/\OIs K C/\qAb K (.ref C) (.ref a_Shift)=some false):=⟨q4_y,q4_n⟩
 have q5_y:(∀c∈(["Mirror"]:List Str),∃C,clK K c=some C/\OIs K C/\qAb K (.ref C) (.ref a_Mirror)=some true):=by
  intro c h;simp only[qA7,qAg,or_false]at h;subst h;exact⟨a_Mirror,zBG xa_Mirror,i_Mirror,(zCL xn_Mirror xt_Mirror s_Mirror_Mirror)⟩
 have q5_n:(∀c∈(["Change","Turn","Swap","Shift"]:List Str),∃C,clK K c=some C/\OIs K C/\qAb K (.ref C) (.ref a_Mirror)=some false):=by
  intro c h;simp only[qA7,qAg,or_false]at h
  rcases h with rfl|rfl|rfl|rfl
  ·exact⟨a_Change,zBG xa_Change,i_Change,(zBB xn_Mirror xt_Mirror s_Change_Mirror e_Change_Mirror)⟩
  ·exact⟨a_Turn,zBG xa_Turn,i_Turn,(zBB xn_Mirror xt_Mirror s_Turn_Mirror e_Turn_Mirror)⟩
  ·exact⟨a_Swap,zBG xa_Swap,i_Swap,(zBB xn_Mirror xt_Mirror s_Swap_Mirror e_Swap_Mirror)⟩
  ·exact⟨a_Shift,zBG xa_Shift,i_Shift,(zBB xn_Mirror xt_Mirror s_Shift_Mirror e_Shift_Mirror)⟩
 have q5:(∀c∈(["Mirror"]:List Str),∃C,clK K c=some C/\OIs K C/\qAb K (.ref C) (.ref a_Mirror)=some true)/\(∀c∈(["Change","Turn","Swap","Shift"]:List Str),∃C,clK K c=some C/\OIs K C/\qAb K (.ref C) (.ref a_Mirror)=some false):=⟨q5_y,q5_n⟩
 have q6_y:(∀c∈(["Swap"]:List Str),∃C,clK K c=some C/\OIs K C/\qAb K (.ref C) (.ref a_Swap)=some true):=by
  intro c h;simp only[qA7,qAg,or_false]at h;subst h;exact⟨a_Swap,zBG xa_Swap,i_Swap,(zCL xn_Swap xt_Swap s_Swap_Swap)⟩
 have q6_n:(∀c∈(["Change","Turn","Mirror","Shift"]:List Str),∃C,clK K c=some C/\OIs K C/\qAb K (.ref C) (.ref a_Swap)=some false):=by
  intro c h;simp only[qA7,qAg,or_false]at h
  rcases h with rfl|rfl|rfl|rfl
  ·exact⟨a_Change,zBG xa_Change,i_Change,(zBB xn_Swap xt_Swap s_Change_Swap e_Change_Swap)⟩
  ·exact⟨a_Turn,zBG xa_Turn,i_Turn,(zBB xn_Swap xt_Swap s_Turn_Swap e_Turn_Swap)⟩
  ·exact⟨a_Mirror,zBG xa_Mirror,i_Mirror,(zBB xn_Swap xt_Swap s_Mirror_Swap e_Mirror_Swap)⟩
  ·exact⟨a_Shift,zBG xa_Shift,i_Shift,(zBB xn_Swap xt_Swap s_Shift_Swap e_Shift_Swap)⟩
 have q6:(∀c∈(["Swap"]:List Str),∃C,clK K c=some C/\OIs K C/\qAb K (.ref C) (.ref a_Swap)=some true)/\(∀c∈(["Change","Turn","Mirror","Shift"]:List Str),∃C,clK K c=some C/\OIs K C/\qAb K (.ref C) (.ref a_Swap)=some false):=⟨q6_y,q6_n⟩
 have q7_y:(∀c∈(["Turn"]:List Str),∃C,clK K c=some C/\OIs K C/\qAb K (.ref C) (.ref a_Turn)=some true):=by
  intro c h;simp only[qA7,qAg,or_false]at h;subst h;exact⟨a_Turn,zBG xa_Turn,i_Turn,(zCL xn_Turn xt_Turn s_Turn_Turn)⟩
 have q7_n:(∀c∈(["Change","Swap","Mirror","Shift"]:List Str),∃C,clK K c=some C/\OIs K C/\qAb K (.ref C) (.ref a_Turn)=some false):=by
  intro c h;simp only[qA7,qAg,or_false]at h
  rcases h with rfl|rfl|rfl|rfl
  ·exact⟨a_Change,zBG xa_Change,i_Change,(zBB xn_Turn xt_Turn s_Change_Turn e_Change_Turn)⟩
  ·exact⟨a_Swap,zBG xa_Swap,i_Swap,(zBB xn_Turn xt_Turn s_Swap_Turn e_Swap_Turn)⟩
  ·exact⟨a_Mirror,zBG xa_Mirror,i_Mirror,(zBB xn_Turn xt_Turn s_Mirror_Turn e_Mirror_Turn)⟩
  ·exact⟨a_Shift,zBG xa_Shift,i_Shift,(zBB xn_Turn xt_Turn s_Shift_Turn e_Shift_Turn)⟩
 have q7:(∀c∈(["Turn"]:List Str),∃C,clK K c=some C/\OIs K C/\qAb K (.ref C) (.ref a_Turn)=some true)/\(∀c∈(["Change","Swap","Mirror","Shift"]:List Str),∃C,clK K c=some C/\OIs K C/\qAb K (.ref C) (.ref a_Turn)=some false):=⟨q7_y,q7_n⟩
 have q8_y:(∀c∈(["Change","Turn","Swap","Mirror","Shift"]:List Str),∃C,clK K c=some C/\OIs K C/\qAb K (.ref C) (.ref a_Change)=some true):=by
  intro c h;simp only[qA7,qAg,or_false]at h
  rcases h with rfl|rfl|rfl|rfl|rfl
  ·exact⟨a_Change,zBG xa_Change,i_Change,(zCL xn_Change xt_Change s_Change_Change)⟩
  ·exact⟨a_Turn,zBG xa_Turn,i_Turn,(zCL xn_Change xt_Change s_Turn_Change)⟩
  ·exact⟨a_Swap,zBG xa_Swap,i_Swap,(zCL xn_Change xt_Change s_Swap_Change)⟩
  ·exact⟨a_Mirror,zBG xa_Mirror,i_Mirror,(zCL xn_Change xt_Change s_Mirror_Change)⟩
  ·exact⟨a_Shift,zBG xa_Shift,i_Shift,(zCL xn_Change xt_Change s_Shift_Change)⟩
 have q8_n:(∀c∈([]:List Str),∃C,clK K c=some C/\OIs K C/\qAb K (.ref C) (.ref a_Change)=some false):=by
  intro c h;simp only[qA7,qAg,or_false]at h
 have q8:(∀c∈(["Change","Turn","Swap","Mirror","Shift"]:List Str),∃C,clK K c=some C/\OIs K C/\qAb K (.ref C) (.ref a_Change)=some true)/\(∀c∈([]:List Str),∃C,clK K c=some C/\OIs K C/\qAb K (.ref C) (.ref a_Change)=some false):=⟨q8_y,q8_n⟩
 refine⟨qAx "law" "law" (zB5 zI9) (zAY zI9) (zA5 zI9) .none kV22 dc22 pm22 an22 cd22 ct22,fun s v=>.of_eq rfl,fun base _ _=>?_⟩;have F_NoLetter:=zCU (x:="__init__") (qual:="NoLetter.__init__") (st:=zC6) l23 c23 k23;have x_NoLetter:XIni l.prog w K mg base "NoLetter" "letter" a_NoLetter:=⟨n_NoLetter,xs_NoLetter,⟨xc_NoLetter,zU6 xn_NoLetter xo_NoLetter,xq_NoLetter,xj_NoLetter⟩,xr_NoLetter,f23,_,["self","letter"],xi_NoLetter,xf_NoLetter,zFV F_NoLetter w_RoundError n_RoundError.gm,F_NoLetter.binds (fun _ _ _ _ _ _=>uw2 fun _ _=>rfl)⟩
 have F_Turn:=zCU (x:="__init__") (qual:="Turn.__init__") (st:=zFF) l24 c24 k24;have oi_Turn:OIni l.prog w K mg base "Turn" ["letter"] a_Turn:=⟨o_Turn,by intro f h;simp only[qA7,qAg,or_false]at h;subst h;exact na_Turn_letter,f24,_,["self","letter"],⟨zm_Turn,xi_Turn,xf_Turn,zk_Turn⟩,ok_oini_Turn F_Turn,F_Turn.binds (fun _ _ _ _ _ _=>uw2 fun _ _=>rfl)⟩
 have F_Swap:=zCU (x:="__init__") (qual:="Swap.__init__") (st:=zFG) l25 c25 k25;have oi_Swap:OIni l.prog w K mg base "Swap" ["one","other"] a_Swap:=⟨o_Swap,by intro f h;simp only[qA7,qAg,or_false]at h;rcases h with rfl|rfl;exact na_Swap_one;exact na_Swap_other,f25,_,["self","one","other"],⟨zm_Swap,xi_Swap,xf_Swap,zk_Swap⟩,ok_oini_Swap F_Swap,F_Swap.binds (fun _ _ _ _ _ _=>uw3 fun _ _ _=>rfl)⟩
 have F_Shift:=zCU (x:="__init__") (qual:="Shift.__init__") (st:=zDW) l26 c26 k26;have oi_Shift:OIni l.prog w K mg base "Shift" ["by"] a_Shift:=⟨o_Shift,by intro f h;simp only[qA7,qAg,or_false]at h;subst h;exact na_Shift_by,f26,_,["self","by"],⟨zm_Shift,xi_Shift,xf_Shift,zk_Shift⟩,ok_oini_Shift F_Shift,F_Shift.binds (fun _ _ _ _ _ _=>uw2 fun _ _=>rfl)⟩
 have ok0:=zH8 (P:=l.prog) (w:=w) (base:=base) (mg:=mg) D0 on_Mirror;have ok1:=zH7 (P:=l.prog) (w:=w) (base:=base) (mg:=mg) D1;have ok2:=zIM (P:=l.prog) (w:=w) (base:=base) (mg:=mg) D2 oi_Shift q0;have h_shifted:=zNI (P:=l.prog) (w:=w) (base:=base) D3 b_len;have ok4:=zIL (P:=l.prog) (w:=w) (base:=base) (mg:=mg) D4 h_shifted q0;have ok5:=zK3 (P:=l.prog) (w:=w) (base:=base) (mg:=mg) D5 oi_Swap q1 q2;have h_first_place:=zH4 (P:=l.prog) (w:=w) (base:=base) D6 b_len x_NoLetter;have h_places_of:=zJW (P:=l.prog) (w:=w) (base:=base) D7 h_first_place;have h_do_cross:=zLC (P:=l.prog) (w:=w) (base:=base) D8 h_places_of;have h_exchanged:=zJX (P:=l.prog) (w:=w) (base:=base) D9;have ok10:=zK2 (P:=l.prog) (w:=w) (base:=base) (mg:=mg) D10 h_do_cross h_exchanged h_places_of b_sorted z_NoCross q1 q2;have ok11:=zK1 (P:=l.prog) (w:=w) (base:=base) (mg:=mg) D11 oi_Turn q3;have ok12:=zK0 (P:=l.prog) (w:=w) (base:=base) (mg:=mg) D12 h_places_of q3;have h__law_mixed:=zIK (P:=l.prog) (w:=w) (base:=base) D13 b_len b_max b_min b_range;have h__law_spots:=zIJ (P:=l.prog) (w:=w) (base:=base) D14 b_enumerate;have h__law_crossing:=zFW (P:=l.prog) (w:=w) (base:=base) D15 h__law_spots b_set b_sorted;have h__law_swapped:=zGF (P:=l.prog) (w:=w) (base:=base) D16 b_enumerate b_range;have h__law_turned:=zH6 (P:=l.prog) (w:=w) (base:=base) D17 h__law_spots;have h__law_step:=zJZ (P:=l.prog) (w:=w) (base:=base) D18 h__law_crossing h__law_swapped h__law_turned b_len b_list b_reversed oi_Turn oi_Swap oi_Shift on_Mirror;have h__law_values:=zH5 (P:=l.prog) (w:=w) (base:=base) D19 b_isinstance o_Turn o_Swap o_Mirror o_Shift q0 q1 q2 q3 q4 q5 q6 q7;have h__law_word:=zJY (P:=l.prog) (w:=w) (base:=base) D20 b_len b_range;have h_Turn_done:HasM l.prog w K mg base a_Turn "done" 5 ["self","word"] _:=⟨f12,_,i_Turn.cl,⟨mt_Turn_done,mf12,k12⟩,ok12,D12.binds (fun _ _ _ _ _ _=>uw2 fun _ _=>rfl)⟩
 have h_Swap_done:HasM l.prog w K mg base a_Swap "done" 6 ["self","word"] _:=⟨f10,_,i_Swap.cl,⟨mt_Swap_done,mf10,k10⟩,ok10,D10.binds (fun _ _ _ _ _ _=>uw2 fun _ _=>rfl)⟩
 have h_Mirror_done:HasM l.prog w K mg base a_Mirror "done" 1 ["self","word"] _:=⟨f1,_,i_Mirror.cl,⟨mt_Mirror_done,mf1,k1⟩,ok1,D1.binds (fun _ _ _ _ _ _=>uw2 fun _ _=>rfl)⟩
 have h_Shift_done:HasM l.prog w K mg base a_Shift "done" 2 ["self","word"] _:=⟨f4,_,i_Shift.cl,⟨mt_Shift_done,mf4,k4⟩,ok4,D4.binds (fun _ _ _ _ _ _=>uw2 fun _ _=>rfl)⟩
 have h_done_all:=zLB (P:=l.prog) (w:=w) (base:=base) D21 h_Turn_done h_Swap_done h_Mirror_done h_Shift_done o_Turn o_Swap o_Mirror o_Shift;have h_Turn_back:HasM l.prog w K mg base a_Turn "back" 3 ["self"] _:=⟨f11,_,i_Turn.cl,⟨mt_Turn_back,mf11,k11⟩,ok11,D11.binds (fun _ _ _ _ _ _=>uw1 fun _=>rfl)⟩
 have h_Swap_back:HasM l.prog w K mg base a_Swap "back" 3 ["self"] _:=⟨f5,_,i_Swap.cl,⟨mt_Swap_back,mf5,k5⟩,ok5,D5.binds (fun _ _ _ _ _ _=>uw1 fun _=>rfl)⟩
 have h_Mirror_back:HasM l.prog w K mg base a_Mirror "back" 3 ["self"] _:=⟨f0,_,i_Mirror.cl,⟨mt_Mirror_back,mf0,k0⟩,ok0,D0.binds (fun _ _ _ _ _ _=>uw1 fun _=>rfl)⟩
 have h_Shift_back:HasM l.prog w K mg base a_Shift "back" 3 ["self"] _:=⟨f2,_,i_Shift.cl,⟨mt_Shift_back,mf2,k2⟩,ok2,D2.binds (fun _ _ _ _ _ _=>uw1 fun _=>rfl)⟩
 exact zWG (zCU (st:=zI9) l22 c22 k22) h__law_mixed h__law_step h__law_values h__law_word h_done_all h_Turn_back h_Swap_back h_Mirror_back h_Shift_back h_Turn_done h_Swap_done h_Mirror_done h_Shift_done b_isinstance b_list b_reversed o_Change o_Turn o_Swap o_Mirror o_Shift q0 q8
theorem walk{l:qDx}{q:Program}{loose:List Str}{XP:(Str->Option Value)->Heap->Prop}{d:DefRec}{K:Params->qA0}{YP:World->Heap->Prop}(hn:l.most=some 63)(hdf:d.params.defaults=[])(hY:∀(w:World) (h:Heap),YP w h->(K w.params).In h)
  (F:∀(w:World)(mg:Str->Option Value)(fa:Addr)(h:Heap),(K w.params).In h->h.Ns mainGlobals mg->mg d.name=some (.ref fa) ->
   TbE (K w.params) []/\∃fd:FuncData,(∀(s:Shared)(u:Value),BindsTo s fd ⟨[u],[]⟩ [("_law_script",u)])/\∀base:Heap,(K w.params).In base->base.Ns mainGlobals mg->FnOk l.prog w (K w.params) mg base CX0 8 fa fd ["_law_script"] (zHF (K w.params))) :
  qFp q loose XP YP l.row.toRowW d [] (fun f vs=>qFy f vs):=
 L3.walk_of0 (n:=63) (k:=8) (x:="_law_script") hn (by decide) hdf ⟨rfl,by decide,by decide⟩ hY F
end Q54
open PySem PySem.W PyProof.Rows
set_option maxRecDepth 100000 in
set_option maxHeartbeats 0 in
theorem PySem.Challenge.cw_fourway_k54_changes_back_holds : PySem.Challenge.rw_fourway_k54_changes_back.Holds := by
 refine hdZ.2 ?_;dsimp only[hdZ]
 k_fill
 refine Q54.walk (l:=qCp) rfl rfl (fun w h Y=>PySem.W.kIn_of Y) ?F
 case F=>
  intro w mg fa h KX G hmg;have T:L3.Tb (L2.KOf KX) [] none none none:=by
   dsimp only[L2.KOf];exact⟨L3.mk1_none (by k_is),L3.mk1_none (by k_is),L3.mk1_none (by k_is)⟩
  refine' ⟨⟨_,_,_,T⟩,?_⟩;refine' Q54.all_mk KX G hmg (Q54.mkD KX G ?a3 ?l3 ?c3 ?k3) (Q54.mkD KX G ?a6 ?l6 ?c6 ?k6) (Q54.mkD KX G ?a7 ?l7 ?c7 ?k7) (Q54.mkD KX G ?a8 ?l8 ?c8 ?k8) (Q54.mkD KX G ?a9 ?l9 ?c9 ?k9) (Q54.mkD KX G ?a13 ?l13 ?c13 ?k13) (Q54.mkD KX G ?a14 ?l14 ?c14 ?k14) (Q54.mkD KX G ?a15 ?l15 ?c15 ?k15) (Q54.mkD KX G ?a16 ?l16 ?c16 ?k16) (Q54.mkD KX G ?a17 ?l17 ?c17 ?k17) (Q54.mkD KX G ?a18 ?l18 ?c18 ?k18) (Q54.mkD KX G ?a19 ?l19 ?c19 ?k19) (Q54.mkD KX G ?a20 ?l20 ?c20 ?k20) (Q54.mkD KX G ?a21 ?l21 ?c21 ?k21) ?a22 ?l22 ?c22 ?k22 ?z0 ?z1 ?z2 ?z3 ?z4 ?z5 ?z6 ?z7 ?z8 ?z9 ?xa_RoundError ?xl_RoundError ?xd_RoundError ?xn_RoundError ?xo_RoundError ?xt_RoundError ?xg_RoundError ?xh_RoundError ?xj_RoundError ?xm_RoundError ?xp_RoundError ?xv_RoundError ?xw_RoundError ?xa_NoLetter ?xl_NoLetter ?xd_NoLetter ?xn_NoLetter ?xo_NoLetter ?xt_NoLetter ?xg_NoLetter ?xh_NoLetter ?xj_NoLetter ?xm_NoLetter ?xp_NoLetter ?xv_NoLetter ?xw_NoLetter ?xa_NoCross ?xl_NoCross ?xd_NoCross ?xn_NoCross ?xo_NoCross ?xt_NoCross ?xg_NoCross ?xh_NoCross ?xj_NoCross ?xm_NoCross ?xp_NoCross ?xv_NoCross ?xw_NoCross ?xa_Change ?xn_Change ?xt_Change ?og_Change ?oh_Change ?op_Change ?oz_Change ?xm_Change ?xp_Change ?xa_Turn ?xn_Turn ?xt_Turn ?og_Turn ?oh_Turn ?op_Turn ?oz_Turn ?xm_Turn ?xp_Turn ?xa_Swap ?xn_Swap ?xt_Swap ?og_Swap ?oh_Swap ?op_Swap ?oz_Swap ?xm_Swap ?xp_Swap ?xa_Mirror ?xn_Mirror ?xt_Mirror ?og_Mirror ?oh_Mirror ?op_Mirror ?oz_Mirror ?xm_Mirror ?xp_Mirror ?xa_Shift ?xn_Shift ?xt_Shift ?og_Shift ?oh_Shift ?op_Shift ?oz_Shift ?xm_Shift ?xp_Shift ?ycg ?yct ?zk_NoCross ?zi_NoCross ?xc_NoLetter ?xq_NoLetter ?xr_NoLetter ?xs_NoLetter ?xi_NoLetter ?xf_NoLetter ?l23 ?c23 ?k23 ?zm_Mirror ?zi_Mirror ?zk_Mirror ?zm_Turn ?xi_Turn ?xf_Turn ?zk_Turn ?l24 ?c24 ?k24 ?na_Turn_letter ?zm_Swap ?xi_Swap ?xf_Swap ?zk_Swap ?l25 ?c25 ?k25 ?na_Swap_one ?na_Swap_other ?zm_Shift ?xi_Shift ?xf_Shift ?zk_Shift ?l26 ?c26 ?k26 ?na_Shift_by ?mt_Mirror_back ?l0 ?c0 ?k0 ?mf0 ?mt_Mirror_done ?l1 ?c1 ?k1 ?mf1 ?mt_Shift_back ?l2 ?c2 ?k2 ?mf2 ?mt_Shift_done ?l4 ?c4 ?k4 ?mf4 ?mt_Swap_back ?l5 ?c5 ?k5 ?mf5 ?mt_Swap_done ?l10 ?c10 ?k10 ?mf10 ?mt_Turn_back ?l11 ?c11 ?k11 ?mf11 ?mt_Turn_done ?l12 ?c12 ?k12 ?mf12 ?wg_RoundError ?wr_RoundError ?wf_RoundError ?s_Shift_Shift ?s_Change_Shift ?e_Change_Shift ?s_Turn_Shift ?e_Turn_Shift ?s_Swap_Shift ?e_Swap_Shift ?s_Mirror_Shift ?e_Mirror_Shift ?s_Mirror_Mirror ?s_Change_Mirror ?e_Change_Mirror ?s_Turn_Mirror ?e_Turn_Mirror ?s_Swap_Mirror ?e_Swap_Mirror ?s_Shift_Mirror ?e_Shift_Mirror ?s_Swap_Swap ?s_Change_Swap ?e_Change_Swap ?s_Turn_Swap ?e_Turn_Swap ?s_Mirror_Swap ?e_Mirror_Swap ?s_Shift_Swap ?e_Shift_Swap ?s_Turn_Turn ?s_Change_Turn ?e_Change_Turn ?s_Swap_Turn ?e_Swap_Turn ?s_Mirror_Turn ?e_Mirror_Turn ?s_Shift_Turn ?e_Shift_Turn ?s_Change_Change ?s_Turn_Change ?s_Swap_Change ?s_Mirror_Change ?s_Shift_Change
  (case a3=>k_is)
  (case l3=>k_is)
  (case c3=>k_is)
  (case k3=>k_is)
  (case a6=>k_is)
  (case l6=>k_is)
  (case c6=>k_is)
  (case k6=>k_is)
  (case a7=>k_is)
  (case l7=>k_is)
  (case c7=>k_is)
  (case k7=>k_is)
  (case a8=>k_is)
  (case l8=>k_is)
  (case c8=>k_is)
  (case k8=>k_is)
  (case a9=>k_is)
  (case l9=>k_is)
  (case c9=>k_is)
  (case k9=>k_is)
  (case a13=>k_is)
  (case l13=>k_is)
  (case c13=>k_is)
  (case k13=>k_is)
  (case a14=>k_is)
  (case l14=>k_is)
  (case c14=>k_is)
  (case k14=>k_is)
  (case a15=>k_is)
  (case l15=>k_is)
  (case c15=>k_is)
  (case k15=>k_is)
  (case a16=>k_is)
  (case l16=>k_is)
  (case c16=>k_is)
  (case k16=>k_is)
  (case a17=>k_is)
  (case l17=>k_is)
  (case c17=>k_is)
  (case k17=>k_is)
  (case a18=>k_is)
  (case l18=>k_is)
  (case c18=>k_is)
  (case k18=>k_is)
  (case a19=>k_is)
  (case l19=>k_is)
  (case c19=>k_is)
  (case k19=>k_is)
  (case a20=>k_is)
  (case l20=>k_is)
  (case c20=>k_is)
  (case k20=>k_is)
  (case a21=>k_is)
  (case l21=>k_is)
  (case c21=>k_is)
  (case k21=>k_is)
  (case a22=>k_is)
  (case l22=>k_is)
  (case c22=>k_is)
  (case k22=>k_is)
  (case z0=>k_is)
  (case z1=>k_is)
  (case z2=>k_is)
  (case z3=>k_is)
  (case z4=>k_is)
  (case z5=>k_is)
  (case z6=>k_is)
  (case z7=>k_is)
  (case z8=>k_is)
  (case z9=>k_is)
  (case xa_RoundError=>k_is)
  (case xl_RoundError=>k_is)
  (case xd_RoundError=>rfl)
  (case xn_RoundError=>k_is)
  (case xo_RoundError=>rfl)
  (case xt_RoundError=>k_is)
  (case xg_RoundError=>k_is)
  (case xh_RoundError=>k_is)
  (case xj_RoundError=>k_is)
  (case xm_RoundError=>k_is)
  (case xp_RoundError=>k_is)
  (case xv_RoundError=>k_is)
  (case xw_RoundError=>k_is)
  (case xa_NoLetter=>k_is)
  (case xl_NoLetter=>k_is)
  (case xd_NoLetter=>rfl)
  (case xn_NoLetter=>k_is)
  (case xo_NoLetter=>rfl)
  (case xt_NoLetter=>k_is)
  (case xg_NoLetter=>k_is)
  (case xh_NoLetter=>k_is)
  (case xj_NoLetter=>k_is)
  (case xm_NoLetter=>k_is)
  (case xp_NoLetter=>k_is)
  (case xv_NoLetter=>k_is)
  (case xw_NoLetter=>k_is)
  (case xa_NoCross=>k_is)
  (case xl_NoCross=>k_is)
  (case xd_NoCross=>rfl)
  (case xn_NoCross=>k_is)
  (case xo_NoCross=>rfl)
  (case xt_NoCross=>k_is)
  (case xg_NoCross=>k_is)
  (case xh_NoCross=>k_is)
  (case xj_NoCross=>k_is)
  (case xm_NoCross=>k_is)
  (case xp_NoCross=>k_is)
  (case xv_NoCross=>k_is)
  (case xw_NoCross=>k_is)
  (case xa_Change=>k_is)
  (case xn_Change=>k_is)
  (case xt_Change=>k_is)
  (case og_Change=>k_is)
  (case oh_Change=>k_is)
  (case op_Change=>k_is)
  (case oz_Change=>k_is)
  (case xm_Change=>k_is)
  (case xp_Change=>k_is)
  (case xa_Turn=>k_is)
  (case xn_Turn=>k_is)
  (case xt_Turn=>k_is)
  (case og_Turn=>k_is)
  (case oh_Turn=>k_is)
  (case op_Turn=>k_is)
  (case oz_Turn=>k_is)
  (case xm_Turn=>k_is)
  (case xp_Turn=>k_is)
  (case xa_Swap=>k_is)
  (case xn_Swap=>k_is)
  (case xt_Swap=>k_is)
  (case og_Swap=>k_is)
  (case oh_Swap=>k_is)
  (case op_Swap=>k_is)
  (case oz_Swap=>k_is)
  (case xm_Swap=>k_is)
  (case xp_Swap=>k_is)
  (case xa_Mirror=>k_is)
  (case xn_Mirror=>k_is)
  (case xt_Mirror=>k_is)
  (case og_Mirror=>k_is)
  (case oh_Mirror=>k_is)
  (case op_Mirror=>k_is)
  (case oz_Mirror=>k_is)
  (case xm_Mirror=>k_is)
  (case xp_Mirror=>k_is)
  (case xa_Shift=>k_is)
  (case xn_Shift=>k_is)
  (case xt_Shift=>k_is)
  (case og_Shift=>k_is)
  (case oh_Shift=>k_is)
  (case op_Shift=>k_is)
  (case oz_Shift=>k_is)
  (case xm_Shift=>k_is)
  (case xp_Shift=>k_is)
  (case ycg=>k_is)
  (case yct=>k_is)
  (case zk_NoCross=>k_is)
  (case zi_NoCross=>k_is)
  (case xc_NoLetter=>k_is)
  (case xq_NoLetter=>k_is)
  (case xr_NoLetter=>k_is)
  (case xs_NoLetter=>k_is)
  (case xi_NoLetter=>k_is)
  (case xf_NoLetter=>k_is)
  (case l23=>k_is)
  (case c23=>k_is)
  (case k23=>k_is)
  (case zm_Mirror=>k_is)
  (case zi_Mirror=>k_is)
  (case zk_Mirror=>k_is)
  (case zm_Turn=>k_is)
  (case xi_Turn=>k_is)
  (case xf_Turn=>k_is)
  (case zk_Turn=>k_is)
  (case l24=>k_is)
  (case c24=>k_is)
  (case k24=>k_is)
  (case na_Turn_letter=>k_is)
  (case zm_Swap=>k_is)
  (case xi_Swap=>k_is)
  (case xf_Swap=>k_is)
  (case zk_Swap=>k_is)
  (case l25=>k_is)
  (case c25=>k_is)
  (case k25=>k_is)
  (case na_Swap_one=>k_is)
  (case na_Swap_other=>k_is)
  (case zm_Shift=>k_is)
  (case xi_Shift=>k_is)
  (case xf_Shift=>k_is)
  (case zk_Shift=>k_is)
  (case l26=>k_is)
  (case c26=>k_is)
  (case k26=>k_is)
  (case na_Shift_by=>k_is)
  (case mt_Mirror_back=>k_is)
  (case l0=>k_is)
  (case c0=>k_is)
  (case k0=>k_is)
  (case mf0=>k_is)
  (case mt_Mirror_done=>k_is)
  (case l1=>k_is)
  (case c1=>k_is)
  (case k1=>k_is)
  (case mf1=>k_is)
  (case mt_Shift_back=>k_is)
  (case l2=>k_is)
  (case c2=>k_is)
  (case k2=>k_is)
  (case mf2=>k_is)
  (case mt_Shift_done=>k_is)
  (case l4=>k_is)
  (case c4=>k_is)
  (case k4=>k_is)
  (case mf4=>k_is)
  (case mt_Swap_back=>k_is)
  (case l5=>k_is)
  (case c5=>k_is)
  (case k5=>k_is)
  (case mf5=>k_is)
  (case mt_Swap_done=>k_is)
  (case l10=>k_is)
  (case c10=>k_is)
  (case k10=>k_is)
  (case mf10=>k_is)
  (case mt_Turn_back=>k_is)
  (case l11=>k_is)
  (case c11=>k_is)
  (case k11=>k_is)
  (case mf11=>k_is)
  (case mt_Turn_done=>k_is)
  (case l12=>k_is)
  (case c12=>k_is)
  (case k12=>k_is)
  (case mf12=>k_is)
  (case wg_RoundError=>k_is)
  (case wr_RoundError=>k_is)
  (case wf_RoundError=>k_is)
  (case s_Shift_Shift=>k_is)
  (case s_Change_Shift=>k_is)
  (case e_Change_Shift=>rfl)
  (case s_Turn_Shift=>k_is)
  (case e_Turn_Shift=>rfl)
  (case s_Swap_Shift=>k_is)
  (case e_Swap_Shift=>rfl)
  (case s_Mirror_Shift=>k_is)
  (case e_Mirror_Shift=>rfl)
  (case s_Mirror_Mirror=>k_is)
  (case s_Change_Mirror=>k_is)
  (case e_Change_Mirror=>rfl)
  (case s_Turn_Mirror=>k_is)
  (case e_Turn_Mirror=>rfl)
  (case s_Swap_Mirror=>k_is)
  (case e_Swap_Mirror=>rfl)
  (case s_Shift_Mirror=>k_is)
  (case e_Shift_Mirror=>rfl)
  (case s_Swap_Swap=>k_is)
  (case s_Change_Swap=>k_is)
  (case e_Change_Swap=>rfl)
  (case s_Turn_Swap=>k_is)
  (case e_Turn_Swap=>rfl)
  (case s_Mirror_Swap=>k_is)
  (case e_Mirror_Swap=>rfl)
  (case s_Shift_Swap=>k_is)
  (case e_Shift_Swap=>rfl)
  (case s_Turn_Turn=>k_is)
  (case s_Change_Turn=>k_is)
  (case e_Change_Turn=>rfl)
  (case s_Swap_Turn=>k_is)
  (case e_Swap_Turn=>rfl)
  (case s_Mirror_Turn=>k_is)
  (case e_Mirror_Turn=>rfl)
  (case s_Shift_Turn=>k_is)
  (case e_Shift_Turn=>rfl)
  (case s_Change_Change=>k_is)
  (case s_Turn_Change=>k_is)
  (case s_Swap_Change=>k_is)
  (case s_Mirror_Change=>k_is)
  (case s_Shift_Change=>k_is)
