import PyProof.Rows.All
import Wide.All
import OpenK.AllK
import Wide.FinOn
import Lean
import PyProof.EqAt
import PyProof.EqKinds
import PyProof.TupleCall
import PyProof.NeKinds
import PySem.Challenge.RW_fourway_k34_lookers_at_papers
set_option Elab.async false
set_option linter.all false
set_option maxRecDepth 100000
open Array renaming length_toList->qAy,getElem?_toList->qC8,getElem?_eq_getElem->qDt,toList_push->qDx,getD->qEk,getElem_toList->qEm,toList->qGx
open Bool renaming false_ne_true->qAc,and_eq_true->qBf,and_false->qCg,eq_iff_iff->qDi,false_eq_true->qDo,and_true->qE1,or_eq_true->qFq,or_false->qGq
open Char renaming toNat->qH6
open Classical renaming propDecidable->qA4,not_forall->qDf
open Eq renaming trans->qFk
open False renaming elim->qA5
open ForInStep renaming yield->qC5
open Int renaming toNat_natCast->qBm,mul_emod->qBq,emod_lt_of_pos->qC3,emod_nonneg->qC9,mul_comm->qDb,toNat->qDd,mul_one->qDh,natCast_nonneg->qDp,emod_emod->qE5,toNat_of_nonneg->qEr,mul_left_comm->qF5,mul_nonneg->qG7,mul_assoc->qGv
open List renaming getD_eq_getElem?_getD->qA0,range->qA1,getElem?_eq_some_iff->qA3,replicate->qA6,getElem?_eq_getElem->qA8,mem_cons->qA9,mem_map->qAa,getElem?_set_self->qAb,map_cons->qAd,length_append->qAe,getElem?_append_left->qAf,getElem?_append_right->qAg,size_toArray->qAh,getElem?_set_ne->qAj,getElem?_map->qAk,length_map->qAl,mem_singleton->qAm,map_map->qAo,map_congr_left->qAq,mem_cons_of_mem->qAr,mem_filter->qAs,mem_append_right->qAt,mem_append->qAv,length_cons->qAw,length_singleton->qAx,not_mem_nil->qB0,mem_cons_self->qB2,replicate_succ->qB5,getElem?_eq_none->qB6,nodup_cons->qB9,getElem?_replicate->qBa,lookup_cons->qBb,take_of_length_le->qBc,mem_or_eq_of_mem_set->qBd,pairwise_cons->qBe,mem_append_left->qBh,flatten_cons->qBl,any_cons->qBp,drop_eq_getElem_cons->qBt,any_eq_false->qBu,length_take->qBx,any_eq_true->qBy,eq_nil_of_length_eq_zero->qBz,getElem_mem->qC0,ext_getElem->qC1,pairwise_lt_range->qC2,of_mem_zip->qC4,range_succ->qC6,append_assoc->qCa,length_eraseIdx_of_lt->qCc,mem_of_getElem?->qCd,pairwise_append->qCe,take_length->qCi,mergeSort_perm->qCj,all_cons->qCn,foldl_cons->qCo,getElem_range->qCp,map_append->qCq,sum_cons->qCr,pairwise_mergeSort->qCs,length_eq_zero_iff->qCt,filter_cons_of_neg->qCu,filter_cons_of_pos->qCv,getElem?_cons_succ->qCw,getElem?_cons_zero->qCx,take_succ_eq_append_getElem->qCy,range_succ_eq_map->qD0,reverse_cons->qD2,ext_getElem?->qD3,getElem?_set->qD4,pairwise_map->qD5,drop_zero->qD7,length_replicate->qD8,set_getElem_self->qDa,length_filter_le->qDc,filterMap_cons->qDg,append_nil->qDj,getElem_of_mem->qDk,length_reverse->qDl,mem_range->qDr,getElem?_take_of_lt->qDw,nodup_append->qDy,length_range->qDz,filter_congr->qE0,getElem_inj->qE6,filter_cons->qE7,all_eq_true->qEa,drop_length->qEb,set_append_right->qEf,set_set->qEg,take_append_drop->qEh,mem_of_mem_take->qEl,range_eq_range'->qEn,mem_of_mem_drop->qEo,mem_filterMap->qEs,drop->qEu,set_cons_succ->qEv,set_cons_zero->qEw,zip_cons_cons->qEy,take_add_one->qF3,foldl_append->qF4,map_set->qFa,length_drop->qFe,range'_succ->qFh,nodup_range->qFi,length_set->qFn,nil_append->qFo,lookup->qFp,foldl->qGk,set_comm->qGt,map_nil->qGy,all_map->qGz,range'->qH3,cons->qH9
open List.Pairwise renaming nil->qCb,filter->qDe,imp_of_mem->qGo,and_mem->qH2,imp->qH7
open Nat renaming le_refl->qA7,lt_of_lt_of_le->qAi,ne_of_lt->qAn,zero_le->qAp,le_trans->qAu,lt_succ_of_lt->qB1,lt_succ_self->qBg,ne_of_gt->qBi,lt_irrefl->qBn,le_of_lt->qBo,le_succ->qBs,zero_add->qC7,mul_le_mul_right->qCf,pow_le_pow_iff_right->qCk,mul_comm->qD9,eq_of_mul_eq_mul_right->qDm,pow_add->qE4,le_add_right->qE9,le_of_eq->qEd,lt_of_le_of_lt->qEt,mul_assoc->qEx,min_self->qF8,pow_succ->qFc,le_zero->qFs,min_eq_left->qFu,mod_lt->qGn,lt_or_ge->qH0,lt_trans->qH1,pow_pos->qH4
open Nat.succ renaming inj->qFb
open Ne renaming symm->qDs
open Option renaming isSome_iff_exists->qDv,getD_some->qE8,none->qEq,getD_none->qFf,map_some->qFr
open Option.some renaming inj->qAz,injEq->qH5
open Or renaming inr->qH8
open Prod renaming fst->qFj
open PyProof.Rows renaming callWith_type1->qB8,isInt->qDn,callWith_builtin1->qF7,preSum_getD->qGm
open PyProof.Rows.F renaming plain_set_update_loop->qBk,entry_set_update_loop->qCh
open PyProof.Rows.IntsAre renaming int_at->qFv
open PySem renaming mem_of_lookup->qBv,call->qGl,Within->qGw
open PySem.Challenge renaming rw_fourway_k34_lookers_at_papers->qBr,pw_fourway_k34_lookers_at_papers->qDq
open PySem.EqMixed renaming eq_bool_str->qFz,eq_str_bool->qG0,ne_bool_str->qG4,ne_str_bool->qG5,eq_int_str->qGb,eq_str_int->qGd,ne_int_str->qGh,ne_str_int->qGj
open PySem.EqNone renaming eq_none_none->qFw,eq_none_bool->qFx,eq_bool_none->qFy,ne_none_none->qG1,ne_none_bool->qG2,ne_bool_none->qG3,eq_none_int->qG8,eq_none_str->qG9,eq_int_none->qGa,eq_str_none->qGc,ne_none_int->qGe,ne_none_str->qGf,ne_int_none->qGg,ne_str_none->qGi
open PySem.F renaming plainAttrs_list->qBw,slot_list_append->qCl,type_list_append->qCm,slot_list_index->qE2,plain_list_iadd->qE3,slot_set_iter->qEi
open PySem.W renaming Frag->qA2,findIn->qB3,kia_one->qB4,keepIn->qB7,fnOf->qBj,cellsFrom_some->qCz,specialIn->qD1,codeIn->qD6,methodObj->qDu,instObj->qEc,OpenLaw->qEe,lookIn->qEp,kitx_list->qF1,kitx_dict->qF2,isFn->qF6,nsIn->qF9,plainGet->qFd,lks_uniq->qFg,takesIn->qFl,makesIn->qFm,kf_ints->qFt,kitOne->qG6,mroIn->qGp,WalkO->qGr,kf_at->qGs,mg_of->qGu
open Sum renaming inl->qEz,inr->qF0
open True renaming intro->qEj
set_option compiler.extract_closed false
set_option genSizeOf false
set_option genSizeOfSpec false
set_option bootstrap.genMatcherCode false
noncomputable section
namespace L2
open PySem PySem.Spec PyProof.Rows
abbrev Key:=Sum Int Str
noncomputable def zZ6:Key->Value->Bool
 |.inl k,v=>Value.isInt k v
 |.inr x,v=>Value.isStrOf x v
noncomputable def keyH(w:World):Key->Int
 |.inl k=>hashInt k
 |.inr x=>hashStr w x
theorem zBV:∀{k:Key}{v:Value},zZ6 k v=true->(∃i t,k=qEz i/\v=Value.int i t)\/(∃x t,k=qF0 x/\v=Value.str x t)
 |.inl i,v,h=>by
  obtain⟨t,e⟩:=Value.isInt_shape (k:=i) (v:=v) h;exact .inl ⟨i,t,rfl,e⟩
 |.inr x,v,h=>by
  obtain⟨t,e⟩:=Value.isStrOf_shape (x:=x) (v:=v) h;exact .inr ⟨x,t,rfl,e⟩
theorem zZ5(a b:Int):decide ((qEz a:Key)=qEz b)=(a==b):=by
 by_cases e:a=b
 ·subst e;simp
 ·have h:¬(qEz a:Key)=qEz b:=fun q=>e (Sum.inl.inj q)
  rw[decide_eq_false h];exact(beq_eq_false_iff_ne.mpr e).symm
theorem zZ2(a b:Str):decide ((qF0 a:Key)=qF0 b)=decide (a=b):=by
 by_cases e:a=b
 ·subst e;simp
 ·have h:¬(qF0 a:Key)=qF0 b:=fun q=>e (Sum.inr.inj q)
  rw[decide_eq_false h,decide_eq_false e]
theorem zZ4(a:Int)(b:Str):decide ((qEz a:Key)=qF0 b)=false:=decide_eq_false (fun q=>nomatch q)
theorem zZ3(a:Str)(b:Int):decide ((qF0 a:Key)=qEz b)=false:=decide_eq_false (fun q=>nomatch q)
def zN7(prog:Program)(w:World):PySem.KeyKind prog w Key where
 is:=zZ6
 hash:=keyH w
 inj:=fun v a b ha hb=>by
  rcases zBV ha with⟨i,t,rfl,rfl⟩|⟨x,t,rfl,rfl⟩
  ·rcases zBV hb with⟨j,u,rfl,e⟩|⟨y,u,rfl,e⟩
   ·injection e with e1 _;rw[e1]
   ·exact nomatch e
  ·rcases zBV hb with⟨j,u,rfl,e⟩|⟨y,u,rfl,e⟩
   ·exact nomatch e
   ·injection e with e1 _;rw[e1]
 byValue:=fun k v h=>by
  rcases zBV h with⟨i,t,rfl,rfl⟩|⟨x,t,rfl,rfl⟩<;>rfl
 pyHash:=fun hv h=>by
  rcases zBV hv with⟨i,t,rfl,rfl⟩|⟨x,t,rfl,rfl⟩
  ·exact wpAny_pyHash_int h
  ·exact wpAny_pyHash_str h
 eqBool:=fun hu hv h=>by
  rcases zBV hu with⟨i,t,rfl,rfl⟩|⟨x,t,rfl,rfl⟩
  ·rcases zBV hv with⟨j,u,rfl,rfl⟩|⟨y,u,rfl,rfl⟩
   ·rw[zZ5]at h;exact wpAny_eqBool_int h
   ·rw[zZ4]at h;exact SeqAt.EqAt.int_str i t y u _ _ _ _ h
  ·rcases zBV hv with⟨j,u,rfl,rfl⟩|⟨y,u,rfl,rfl⟩
   ·rw[zZ3]at h;exact SeqAt.EqAt.str_int x t j u _ _ _ _ h
   ·rw[zZ2]at h;exact wpAny_eqBool_str h
 «strs»:=fun k x t v h=>by
  rcases zBV h with⟨i,u,rfl,e⟩|⟨y,u,rfl,e⟩
  ·exact nomatch e
  ·injection e with e1 _
   subst e1;cases v<;>rfl
inductive V where
 |non|bl (b:Bool)|int (i:Int)|str (x:Str)|byt (b:Array UInt8)|flt (b:UInt64)|ref (a:Addr)|ty (n:String)
 deriving DecidableEq
noncomputable def RelV:V->Value->Prop
 |.non,u=>u=Value.none
 |.bl b,u=>u=Value.bool b
 |.int i,u=>∃t,u=Value.int i t
 |.str x,u=>∃t,u=Value.str x t
 |.byt b,u=>∃t,u=Value.bytes b t
 |.flt b,u=>∃t,u=Value.float b t
 |.ref a,u=>u=Value.ref a
 |.ty n,u=>u=Value.type n
abbrev Vals:List V->List Value->Prop:=Paired RelV
theorem Vals.length{xs:List V}{us:List Value}(r:Vals xs us):xs.length=us.length:=Paired.length r
theorem Vals.get:∀{xs:List V}{us:List Value}{i:Nat}{x:V},Vals xs us->xs[i]?=some x->∃u,us[i]?=some u/\RelV x u
 |_,_,_,_,.nil,e=>by simp at e
 |_,_,0,_,.cons r _,e=>by simp at e;subst e;exact⟨_,rfl,r⟩
 |_,_,i+1,x,.cons _ t,e=>by
  obtain⟨u,h1,h2⟩:=Vals.get (i:=i) (x:=x) t (by simpa using e);exact⟨u,by simpa using h1,h2⟩
theorem Vals.set{x:V}{u:Value}(r:RelV x u):∀{xs:List V}{us:List Value}(i:Nat),Vals xs us->Vals (xs.set i x) (us.set i u)
 |_,_,_,.nil=>.nil
 |_,_,0,.cons _ t=>.cons r t
 |_,_,i+1,.cons q t=>.cons q (Vals.set r i t)
theorem Vals.append:∀{xs ys:List V}{us ws:List Value},Vals xs us->Vals ys ws->Vals (xs++ys) (us++ws)
 |_,_,_,_,.nil,s=>s
 |_,_,_,_,.cons r t,s=>.cons r (Vals.append t s)
theorem Vals.take:∀{xs:List V}{us:List Value}(n:Nat),Vals xs us->Vals (xs.take n) (us.take n)
 |_,_,0,_=>.nil
 |_,_,_+1,.nil=>.nil
 |_,_,n+1,.cons r t=>.cons r (Vals.take n t)
theorem Vals.drop:∀{xs:List V}{us:List Value}(n:Nat),Vals xs us->Vals (xs.drop n) (us.drop n)
 |_,_,0,r=>r
 |_,_,_+1,.nil=>.nil
 |_,_,n+1,.cons _ t=>Vals.drop n t
def RelO:Option V->Option Value->Prop
 |some v,some u=>RelV v u
 |none,none=>True
 |_,_=>False
def KV{κ:Type}:List (κ×V)->List (κ×Value)->Prop:=Paired fun(p:κ×V)(q:κ×Value)=>p.1=q.1/\RelV p.2 q.2
noncomputable def kV:Key->V
 |.inl i=>.int i
 |.inr x=>.str x
inductive HO where
 |lst (xs:List V)
 |tup (xs:List V)
 |dK (kvs:List (Key×V))|dT (kvs:List (List Key×V))
 |set (S:Int->Bool) (n:Nat)
 |ins (C dx:Addr) (fs:List (Str×V))
 |own (x:Addr)
 |xd (fs:List (Str×V))
 |met (f x:Addr)
 |rng (lo hi:Int)
 |frz (o:Obj) (u:HO)
 |tbl (ps:Array Value)
 |ext (φ:Heap->Prop)
abbrev Hp:=Addr->Option HO
noncomputable def upd(H:Hp)(a:Addr)(o:HO):Hp:=fun b=>if b=a then some o else H b
theorem zBB{H:Hp}{a:Addr}{o:HO}:upd H a o a=some o:=by unfold upd;rw[if_pos rfl]
theorem zB0{H:Hp}{a b:Addr}{o:HO}(h:b≠a):upd H a o b=H b:=by unfold upd;rw[if_neg h]
theorem zYZ{H:Hp}{a b:Addr}{o u:HO}(h:H a=some o)(h':H b=some u)(d:o≠u):a≠b:=by
 intro e;subst e;rw[h]at h';exact d (qAz h')
theorem zB5{H:Hp}{a b:Addr}{o:HO}(h:H a=some o)(h':H b=none):a≠b:=by
 intro e;subst e;rw[h]at h';cases h'
section
variable(P:Program)(w:World)
def ObjOk(H:Hp)(h:Heap)(a:Addr):HO->Prop
 |.lst xs=>xs.length<=sizeLine/\∃(its:List Value)(n:Nat),Vals xs its/\h.get? a=some { cls:=.type "list",data:=.seq its.toArray n }
 |.tup xs=>xs.length<=sizeLine/\∃its:List Value,Vals xs its/\IsTup h a its.toArray
 |.dK kvs=>kvs.length<=sizeLine/\(a==sysModules)=false/\∃vs,KV kvs vs/\h.DictOf (zN7 P w) a vs
 |.dT kvs=>kvs.length<=sizeLine/\(a==sysModules)=false/\∃xs:List (List Key×Addr×Value),
   Paired (fun(p:List Key×V)(q:List Key×Addr×Value)=>p.1=q.1/\H q.2.1=some (.tup (p.1.map kV))/\RelV p.2 q.2.2) kvs xs /\
   ∃o es ep,h.get? a=some o/\o.ExactDict/\o.data=.dict es ep/\es.toList=xs.map (entryOfKey (tupleKind (zN7 P w)))/\(xs.map (·.1)).Nodup
 |.set S n=>h.SetOf (intKind P w) a S n
 |.ins C dx fs=>H dx=some (.own a)/\fs.length<=1000/\dx≠a/\h.get? a=some (qEc C dx) /\
   ∃mA,h.Ns1 dx mA/\(∀f,RelO (fs.lookup f) (mA f))/\qGw mA (fs.map (·.1))
 |.own _=>∃o,h.get? a=some o
 |.xd fs=>∃mA,h.Ns1 a mA/\∀f,RelO (fs.lookup f) (mA f)
 |.rng lo hi=>∃t u v,h.get? a=some { cls:=.type "range",data:=.fields #[.int lo t,.int hi u,.int 1 v] }
 |.frz o u=>h.get? a=some o/\ObjOk H h a u
 |.tbl ps=>h.get? a=some { cls:=.none,data:=.fields ps }
 |.met f x=>h.get? a=some (qDu (.ref f) (.ref x))
 |.ext φ=>φ h/\(∃o,h.get? a=some o)/\∀h1 h2:Heap,φ h1->(∀o,h1.get? a=some o->h2.get? a=some o)->φ h2
def HOk(H:Hp)(h:Heap):Prop:=∀a o,H a=some o->ObjOk P w H h a o
end
section
variable{P:Program}{w:World}{H H':Hp}{h h':Heap}{a:Addr}{o:HO}
theorem ObjOk.lt(x:ObjOk P w H h a o):a<h.objs.size:=by
 cases o with
 |lst xs=>obtain⟨_,_,_,_,e⟩:=x;exact Heap.lt_size e
 |tup xs=>obtain⟨_,_,_,p⟩:=x;exact p.lt
 |dK kvs=>obtain⟨_,_,_,_,o,_,_,e,_⟩:=x;exact Heap.lt_size e
 |dT kvs=>obtain⟨_,_,_,_,o,_,_,e,_⟩:=x;exact Heap.lt_size e
 |set S n=>obtain⟨o,_,_,_,e,_⟩:=x;exact Heap.lt_size e
 |ins C dx fs=>obtain⟨_,_,_,e,_⟩:=x;exact Heap.lt_size e
 |own y=>obtain⟨_,e⟩:=x;exact Heap.lt_size e
 |xd fs=>obtain⟨_,⟨_,_,_,e,_⟩,_⟩:=x;exact Heap.lt_size e
 |rng lo hi=>obtain⟨_,_,_,e⟩:=x;exact Heap.lt_size e
 |frz ob u=>obtain⟨e,_⟩:=x;exact Heap.lt_size e
 |tbl ps=>exact Heap.lt_size (show h.get? a=some _ from x)
 |met f y=>exact Heap.lt_size (show h.get? a=some _ from x)
 |ext φ=>obtain⟨_,⟨_,e⟩,_⟩:=x;exact Heap.lt_size e
theorem Paired.mapP{α β:Type}{F G:α->β->Prop}:∀{l₁:List α}{l₂:List β},Paired F l₁ l₂->(∀a b,F a b->G a b)->Paired G l₁ l₂
 |_,_,.nil,_=>.nil
 |_,_,.cons r t,f=>.cons (f _ _ r) (Paired.mapP t f)
theorem ObjOk.stay(x:ObjOk P w H h a o)(k:∀b u,(b=a\/H b=some (.own a))->h.get? b=some u->h'.get? b=some u)
  (ho:∀b,H b=some (.own a)->H' b=some (.own a)) (ht:∀b xs,H b=some (.tup xs)->H' b=some (.tup xs)):ObjOk P w H' h' a o:=by
 induction o with
 |lst xs=>obtain⟨z,its,n,r,e⟩:=x;exact⟨z,its,n,r,k _ _ (.inl rfl) e⟩
 |tup xs=>obtain⟨z,its,r,ob,e,c⟩:=x;exact⟨z,its,r,ob,k _ _ (.inl rfl) e,c⟩
 |dK kvs=>obtain⟨z,y,vs,r,ob,es,ep,e,c⟩:=x;exact⟨z,y,vs,r,ob,es,ep,k _ _ (.inl rfl) e,c⟩
 |dT kvs=>
  obtain⟨z,y,xs,r,ob,es,ep,e,c⟩:=x;exact⟨z,y,xs,Paired.mapP r fun p q z=>⟨z.1,ht _ _ z.2.1,z.2.2⟩,ob,es,ep,k _ _ (.inl rfl) e,c⟩
 |set S n=>obtain⟨ob,es,ep,t,e,c⟩:=x;exact⟨ob,es,ep,t,k _ _ (.inl rfl) e,c⟩
 |ins C dx fs=>
  obtain⟨d,z,ne,e,mA,⟨od,es,ep,e2,c⟩,r⟩:=x;exact⟨ho _ d,z,ne,k _ _ (.inl rfl) e,mA,⟨od,es,ep,k _ _ (.inr d) e2,c⟩,r⟩
 |own y=>obtain⟨ob,e⟩:=x;exact⟨ob,k _ _ (.inl rfl) e⟩
 |xd fs=>obtain⟨mA,⟨od,es,ep,e,c⟩,r⟩:=x;exact⟨mA,⟨od,es,ep,k _ _ (.inl rfl) e,c⟩,r⟩
 |rng lo hi=>obtain⟨t,u,v,e⟩:=x;exact⟨t,u,v,k _ _ (.inl rfl) e⟩
 |frz ob u ih=>obtain⟨e,q⟩:=x;exact⟨k _ _ (.inl rfl) e,ih q⟩
 |tbl ps=>
  have e:h.get? a=some { cls:=.none,data:=.fields ps }:=x;show h'.get? a=some { cls:=.none,data:=.fields ps };exact k a _ (.inl rfl) e
 |met f y=>
  have e:h.get? a=some (qDu (.ref f) (.ref y)):=x;show h'.get? a=some (qDu (.ref f) (.ref y));exact k a _ (.inl rfl) e
 |ext φ=>obtain⟨p,⟨o,e⟩,st⟩:=x;exact⟨st _ _ p fun o q=>k _ _ (.inl rfl) q,⟨o,k _ _ (.inl rfl) e⟩,st⟩
theorem HOk.lt(x:HOk P w H h)(e:H a=some o):a<h.objs.size:=(x a o e).lt
theorem HOk.fresh(x:HOk P w H h)(e:h.objs.size<=a):H a=none:=by
 cases q:H a with
 |none=>rfl
 |some u=>exact absurd (qAi (x.lt q) e) (qBn _)
theorem HOk.kept(x:HOk P w H h)(k:∀b u,h.get? b=some u->h'.get? b=some u):HOk P w H h':=fun a o e=>
 (x a o e).stay (fun b u _ q=>k b u q) (fun _ q=>q) fun _ _ q=>q
theorem HOk.laid(x:HOk P w H h)(k:∀b u,h.get? b=some u->h'.get? b=some u)(hp:h.objs.size<=a)(new:ObjOk P w (upd H a o) h' a o):HOk P w (upd H a o) h':=fun b u e=>by
 have hn:=x.fresh hp
 by_cases hb:b=a
 ·subst hb;rw[zBB]at e;cases e;exact new
 ·rw[zB0 hb]at e;exact(x b u e).stay (fun c v _ q=>k c v q) (fun c q=>by rw[zB0 (zB5 q hn)];exact q) fun c xs q=>by rw[zB0 (zB5 q hn)];exact q
end
def Rd(H:Hp)(a:Addr)(u:HO):Prop:=H a=some u\/∃o,H a=some (.frz o u)
theorem Rd.ok{P:Program}{w:World}{H:Hp}{h:Heap}{a:Addr}{u:HO}(r:Rd H a u)(x:HOk P w H h):ObjOk P w H h a u:=by
 rcases r with r|⟨o,r⟩
 ·exact x a u r
 ·obtain⟨_,q⟩:=x a _ r;exact q
noncomputable def Mut:Option HO->Prop
 |some (.lst _)=>True
 |some (.dK _)=>True
 |some (.dT _)=>True
 |some (.set _ _)=>True
 |some (.ins _ _ _)=>True
 |some (.ext _)=>True
 |_=>False
section
variable{P:Program}{w:World}{H:Hp}{h h':Heap}{x e:Addr}{o':HO}
theorem HOk.write(ok:HOk P w H h)(mu:Mut (H x))(he:e=x\/H e=some (.own x))(k:∀b u,b≠e->h.get? b=some u->h'.get? b=some u)(heo:∃u,h'.get? e=some u)
  (new:ObjOk P w (upd H x o') h' x o'):HOk P w (upd H x o') h':=fun b u q=>by
 have nown:∀c y,H c=some (.own y)->c≠x:=fun c y r z=>by subst z;rw[r]at mu;exact mu
 have ntup:∀c xs,H c=some (.tup xs)->c≠x:=fun c xs r z=>by subst z;rw[r]at mu;exact mu
 by_cases hb:b=x
 ·subst hb;rw[zBB]at q;cases q;exact new
 ·rw[zB0 hb]at q
  by_cases hbe:b=e
  ·have q':H b=some (.own x):=by
    rcases he with z|z
    ·exact absurd (hbe.trans z) hb
    ·rw[hbe];exact z
   rw[q]at q';cases q';obtain⟨v,hv⟩:=heo;exact⟨v,by rw[hbe];exact hv⟩
  ·refine(ok b u q).stay (fun c v hc r=>k c v ?_ r) (fun c r=>by rw[zB0 (nown c b r)];exact r) fun c xs r=>by rw[zB0 (ntup c xs r)];exact r
   rcases hc with rfl|hc
   ·exact hbe
   ·rintro rfl
    rcases he with z|z
    ·exact nown c b hc z
    ·rw[hc]at z;cases z;exact hb rfl
end
structure Un(fs ex:List Addr)(H H':Hp)(h h':Heap):Prop where
 keep:∀b o,h.get? b=some o->H b=none->b∉fs->b∉ex->h'.get? b=some o
 slot:∀b o,h.get? b=some o->H b=none->b∈fs->b∉ex->∃sl,h'.get? b=some { o with slots:=sl }
 free:∀b o,h.get? b=some o->H b=none->b∉ex->H' b=none
 there:∀b o,h.get? b=some o->b∉ex->∃o',h'.get? b=some o'
 tups:∀b xs,H b=some (.tup xs)->H' b=some (.tup xs)
 frzs:∀b o u,H b=some (.frz o u)->H' b=some (.frz o u)
 tbls:∀b ps,H b=some (.tbl ps)->∃more,H' b=some (.tbl (ps++more))
section
variable{fs fs' ex ex':List Addr}{H H1 H2:Hp}{h h1 h2 h':Heap}{a x e:Addr}{o:HO}
theorem Un.any(u:Un fs ex H H1 h h1){b:Addr}{ob:Obj}(q:h.get? b=some ob)(n:H b=none)(hx:b∉ex):∃sl,h1.get? b=some { ob with slots:=sl }:=by
 by_cases hb:b∈fs
 ·exact u.slot b ob q n hb hx
 ·exact⟨ob.slots,u.keep b ob q n hb hx⟩
theorem Un.kept(k:∀b u,h.get? b=some u->h'.get? b=some u):Un fs ex H H h h':=
 ⟨fun b ob q _ _ _=>k b ob q,fun b ob q _ _ _=>⟨ob.slots,k b ob q⟩,fun _ _ _ n _=>n,fun b ob q _=>⟨ob,k b ob q⟩,fun _ _ q=>q,fun _ _ _ q=>q,fun _ ps q=>⟨#[],by rw[q];simp⟩⟩
theorem Un.refl:Un fs ex H H h h:=Un.kept fun _ _ q=>q
theorem Un.laid(k:∀b u,h.get? b=some u->h'.get? b=some u)(hp:h.objs.size<=a)(hn:H a=none):Un fs ex H (upd H a o) h h' where
 keep:=fun b u q _ _ _=>k b u q
 slot:=fun b u q _ _ _=>⟨u.slots,k b u q⟩
 free:=fun b u q n _=>by rw[zB0 (qAn (qAi (Heap.lt_size q) hp))];exact n
 there:=fun b u q _=>⟨u,k b u q⟩
 tups:=fun b xs q=>by rw[zB0 (zB5 q hn)];exact q
 frzs:=fun b u xs q=>by rw[zB0 (zB5 q hn)];exact q
 tbls:=fun b ps q=>⟨#[],by rw[zB0 (zB5 q hn),q];simp⟩
theorem Un.write(mu:Mut (H x))(he:e=x\/H e=some (.own x))(k:∀b u,b≠e->h.get? b=some u->h'.get? b=some u)(heo:∃u,h'.get? e=some u):Un fs ex H (upd H x o) h h':=by
 have hx:∀b,H b=none->b≠x:=fun b n z=>by subst z;rw[n]at mu;exact mu
 have hb:∀b,H b=none->b≠e:=fun b n z=>by
  subst z
  rcases he with r|r
  ·exact hx b n r
  ·rw[n]at r;cases r
 have hm:∀b u,H b=some u->¬Mut (some u)->b≠x:=fun b u q nm z=>by subst z;rw[q]at mu;exact nm mu
 refine⟨fun b u q n _ _=>k b u (hb b n) q,fun b u q n _ _=>⟨u.slots,k b u (hb b n) q⟩,fun b u q n _=>by rw[zB0 (hx b n)];exact n,fun b u q _=>?_,
  fun b xs q=>by rw[zB0 (hm b _ q fun z=>z)];exact q,fun b u xs q=>by rw[zB0 (hm b _ q fun z=>z)];exact q,fun b ps q=>⟨#[],by rw[zB0 (hm b _ q fun z=>z),q];simp⟩⟩
 by_cases hbe:b=e
 ·subst hbe;exact heo
 ·exact⟨u,k b u hbe q⟩
end
noncomputable def trk(h:Heap)(H:Hp):List Addr:=(qA1 h.objs.size).filter fun a=>(H a).isSome
def hidT(h:Heap)(H:Hp):Heap:=PySem.W.hideAll h (trk h H)
theorem zRQ(h:Heap)(H:Hp):(hidT h H).objs.size=h.objs.size:=PySem.W.hideAll_size _ _
theorem zTN{h:Heap}{H:Hp}{b:Addr}{o:Obj}(e:h.get? b=some o)(n:H b=none):(hidT h H).get? b=some o:=
 PySem.W.hideAll_get _ e fun hm=>by
  have q:(H b).isSome=true:=(qAs.mp hm).2;rw[n]at q;simp at q
theorem zW8{h:Heap}{H:Hp}{b:Addr}{o:Obj}(e:(hidT h H).get? b=some o):h.get? b=some o/\H b=none:=by
 have e':h.get? b=some o:=PySem.W.of_hideAll (trk h H) e;refine⟨e',?_⟩;cases q:H b with
 |none=>rfl
 |some x=>
  have hm:b∈trk h H:=qAs.mpr ⟨qDr.mpr (Heap.lt_size e'),by simp[q]⟩;have z:(hidT h H).get? b=none:=PySem.W.hideAll_none (trk h H) hm;rw[z]at e;cases e
noncomputable def zX7(g h:Heap)(L:Addr):List (Addr×Obj):=(qA1 h.objs.size).filterMap fun a=>if a=L\/(g.get? a).isSome=true then none else(h.get? a).map fun o=>(a,o)
def rest(g h:Heap)(L d:Addr):List (Addr×Obj):=(zX7 g h L).filter fun p=>decide (p.1≠d)
end L2
namespace L2
open PySem PySem.Spec PyProof.Rows
structure Mod(K:qA2)(mg:Str->Option Value)(base:Heap):Prop where
 kin:K.In base
 glob:base.Ns mainGlobals mg
 blt:∃mb,base.Ns builtinsNs mb/\∀x:Str,x≠"__name__"->mb x=bootBuiltins x
 nolimit:base.NoLimit
structure Cx where
 prog:Program
 w:World
 K:qA2
 mg:Str->Option Value
 base:Heap
 A:Around
 N:List Str
 s₀:Shared
 H₀:Hp
 env:Env
 outer:List Env
 stack:List Env
 ex:List Addr
 fn:Str->Bool
 calm:Bool
 pn:List (Addr×Obj)
 xe:Value->Shared->Prop
noncomputable def frs(l:List Env):List Addr:=l.filterMap (·.frame)
abbrev Cx.fs(X:Cx):List Addr:=frs X.outer
def Vis(sc:Scope)(x:Str):Prop:=sc.names.lookup x=some .local\/sc.names.lookup x=some .cell\/sc.names.lookup x=some .free
def Loc(sc:Scope)(x:Str):Prop:=sc.names.lookup x=some .local\/sc.names.lookup x=some .cell
def Look(env:Env)(h:Heap)(m:Str->Option Value)(x:Str)(u:Value):Prop:=
 (env.kindOf x=some .local/\m x=some u)\/((env.kindOf x=some .cell\/env.kindOf x=some .free)/\∃c,env.cells.lookup x=some c/\h.IsCell c (some u))
structure Cx.Ok(X:Cx):Prop where
 mod:Mod X.K X.mg X.base
 kind:X.env.scope.kind=.function
 glob:X.env.globals=mainGlobals
 blt:X.env.builtins=builtinsNs
 above:X.s₀.heap.objs.size<=X.env.locals
 inj:∀x y c,X.env.cells.lookup x=some c->X.env.cells.lookup y=some c->x=y
 has:∀x,(X.env.kindOf x=some .cell\/X.env.kindOf x=some .free)->∃c,X.env.cells.lookup x=some c
 cab:∀x c,X.fn x=true->X.env.cells.lookup x=some c->X.s₀.heap.objs.size<=c
 hd:X.calm=true->X.A.handled=none
 frames:X.A.frames=some X.stack
 stk:X.stack=X.outer\/(X.stack=X.env::X.outer/\X.env.frame=some X.env.locals)
 exf:∀b∈X.ex,b≠X.env.locals/\∀x c,X.env.cells.lookup x=some c->c≠b
 bs:∀b o,X.base.get? b=some o->X.s₀.heap.get? b=some o/\X.H₀ b=none
 bsz:X.base.objs.size<=X.s₀.heap.objs.size
 noex:∀b o,X.base.get? b=some o->b∉X.ex
 exfs:∀b∈X.ex,b∉X.fs
 funs:X.s₀.heap.FunFrames X.base X.outer
 frf:∀b∈X.fs,X.H₀ b=none
structure Inv(X:Cx)(pins:List (Addr×Obj))(σ:List (Option V))(H:Hp)(s:Shared):Prop where
 ok:X.Ok
 os:s.os=X.s₀.os
 bare:AllBare s.gens
 base:Un X.fs X.ex X.H₀ H X.s₀.heap s.heap
 loc:∃m,s.heap.Ns X.env.locals m/\∀(i:Nat)(x:Str)(v:V),X.N[i]?=some x->σ[i]?=some (some v)->Vis X.env.scope x->∃u,RelV v u/\Look X.env s.heap m x u
 cell:∀x c,X.env.cells.lookup x=some c->∃v,s.heap.IsCell c v
 free:H X.env.locals=none
 freeC:∀x c,X.env.cells.lookup x=some c->H c=none
 pin:∀p∈X.pn++pins,s.heap.get? p.1=some p.2/\H p.1=none/\p.1≠X.env.locals/\p.1∉X.fs/\∀v,p.2.data≠.cell v
 hok:HOk X.prog X.w H s.heap
 len:σ.length=X.N.length
section
variable{X:Cx}{pins:List (Addr×Obj)}{σ:List (Option V)}{H H':Hp}{s:Shared}{h':Heap}
theorem Cx.Ok.nofr(ok:X.Ok){b:Addr}{o:Obj}(e:X.base.get? b=some o):b∉X.fs:=fun hb=>by
 have:=(ok.funs.mem hb).1
 rw[e]at this;cases this
theorem Inv.bs(I:Inv X pins σ H s):∀b o,X.base.get? b=some o->s.heap.get? b=some o/\H b=none:=fun b o e=>
 ⟨I.base.keep b o (I.ok.bs b o e).1 (I.ok.bs b o e).2 (I.ok.nofr e) (I.ok.noex b o e),I.base.free b o (I.ok.bs b o e).1 (I.ok.bs b o e).2 (I.ok.noex b o e)⟩
theorem Inv.bk(I:Inv X pins σ H s):∀b o,X.base.get? b=some o->s.heap.get? b=some o:=fun b o e=>(I.bs b o e).1
theorem Inv.mod(I:Inv X pins σ H s):Mod X.K X.mg X.base:=I.ok.mod
theorem Inv.kIn(I:Inv X pins σ H s):X.K.In s.heap:=I.ok.mod.kin.keeps I.bk
theorem Inv.fr(I:Inv X pins σ H s):∃m,Fr X.base X.env.locals s.heap m:=
 let⟨m,hn,_⟩:=I.loc
 ⟨m,hn,I.bk,qAu I.ok.bsz I.ok.above⟩
theorem Inv.lt(I:Inv X pins σ H s):X.env.locals<s.heap.objs.size:=let⟨_,hn,_⟩:=I.loc;hn.lt
theorem Inv.sz(I:Inv X pins σ H s):X.s₀.heap.objs.size<=s.heap.objs.size:=qAu I.ok.above (qBo I.lt)
theorem Inv.nofs(I:Inv X pins σ H s){a:Addr}(h:s.heap.objs.size<=a):a∉X.fs:=fun hb=>by
 obtain⟨_,o,ho,_⟩:=I.ok.funs.mem hb;exact absurd (qAi (Heap.lt_size ho) (qAu I.sz h)) (qBn _)
theorem Inv.cne(I:Inv X pins σ H s):∀x c,X.env.cells.lookup x=some c->c≠X.env.locals:=fun x c e z=>by
 obtain⟨v,o,ho,hd⟩:=I.cell x c e;obtain⟨m,⟨o',es,ep,ho',hd',_⟩,_⟩:=I.loc;rw[z,ho']at ho;cases ho;rw[hd']at hd;cases hd
theorem Inv.funs(I:Inv X pins σ H s):s.heap.FunFrames X.base X.outer:=by
 have all:∀(l:List Env),(∀b∈frs l,b∈X.fs)->X.s₀.heap.FunFrames X.base l->s.heap.FunFrames X.base l:=by
  intro l
  induction l with
  |nil=>intro _ _;trivial
  |cons env r ih=>
   intro hs hl;obtain⟨hk,⟨L,o,hf,hn,ho,hd⟩,hr⟩:=hl;have hL:L∈X.fs:=hs L (by unfold frs;rw[qDg,hf];exact qB2);obtain⟨sl,e⟩:=I.base.slot L o ho (I.ok.frf L hL) hL fun z=>I.ok.exfs L z hL
   exact⟨hk,⟨L,_,hf,hn,e,hd⟩,ih (fun b hb=>hs b (by unfold frs;rw[qDg,hf];exact qAr _ hb)) hr⟩
 exact all X.outer (fun _ hb=>hb) I.ok.funs
theorem Inv.stack(I:Inv X pins σ H s):s.heap.FunFrames X.base X.stack:=by
 rcases I.ok.stk with e|⟨e,hf⟩
 ·rw[e];exact I.funs
 ·rw[e];obtain⟨m,hn,_⟩:=I.loc;refine .cons (by rw[I.ok.kind];decide) hf hn ?_ I.funs;exact Heap.get?_none_of_le (qAu I.ok.bsz I.ok.above)
theorem Inv.stkSub(I:Inv X pins σ H s):∀b∈frs X.stack,b∈X.env.locals::X.fs:=fun b hb=>by
 rcases I.ok.stk with e|⟨e,hf⟩
 ·rw[e]at hb;exact qAr _ hb
 ·rw[e]at hb;unfold frs at hb;rw[qDg,hf]at hb;exact hb
theorem Inv.stkFree(I:Inv X pins σ H s):∀b∈frs X.stack,H b=none:=fun b hb=>by
 rcases qA9.mp (I.stkSub b hb)with e|hb
 ·rw[e];exact I.free
 ·obtain⟨_,o,ho,_⟩:=I.ok.funs.mem hb;exact I.base.free b o ho (I.ok.frf b hb) fun z=>I.ok.exfs b z hb
theorem Inv.step{g':Array GenState}{t':Nat}{d':Drawn}{ch:List Addr}(I:Inv X pins σ H s)
  (hch:∀b∈ch,(b∈X.ex\/X.s₀.heap.objs.size<=b)/\b≠X.env.locals/\(∀x c,X.env.cells.lookup x=some c->c≠b)/\∀p∈X.pn++pins,p.1≠b)
  (keep:∀b o,b≠X.env.locals->b∉X.fs->b∉ch->s.heap.get? b=some o->H b=none->h'.get? b=some o)
  (slot:∀b o,b≠X.env.locals->b∈X.fs->b∉ch->s.heap.get? b=some o->H b=none->∃sl,h'.get? b=some { o with slots:=sl }) (free:∀b o,b∉ch->s.heap.get? b=some o->H b=none->H' b=none)
  (there:∀b o,b∉ch->s.heap.get? b=some o->∃o',h'.get? b=some o')
  (tups:∀b xs,H b=some (.tup xs)->H' b=some (.tup xs)) (frzs:∀b o u,H b=some (.frz o u)->H' b=some (.frz o u)) (tbls:∀b ps,H b=some (.tbl ps)->∃more,H' b=some (.tbl (ps++more)))
  (ns:∀m,s.heap.Ns X.env.locals m->h'.Ns X.env.locals m) (hok:HOk X.prog X.w H' h') (hg:AllBare g') :
  Inv X pins σ H' { s with heap:=h',gens:=g',drawn:=d',toks:=t' }:=by
 have neL:∀b o,X.s₀.heap.get? b=some o->b≠X.env.locals:=fun b o e=>qAn (qAi (Heap.lt_size e) I.ok.above)
 have neC:∀b o,X.s₀.heap.get? b=some o->b∉X.ex->b∉ch:=fun b o e hx hb=>by
  rcases(hch b hb).1 with z|z
  ·exact hx z
  ·exact absurd (qAi (Heap.lt_size e) z) (qBn _)
 have cellK:∀x c,X.env.cells.lookup x=some c->∀v,s.heap.IsCell c v->h'.IsCell c v:=fun x c e v ⟨o,ho,hd⟩=>by
  have nch:c∉ch:=fun z=>(hch c z).2.2.1 x c e rfl
  by_cases hc:c∈X.fs
  ·obtain⟨sl,q⟩:=slot c o (I.cne x c e) hc nch ho (I.freeC x c e);exact⟨_,q,hd⟩
  ·exact⟨o,keep c o (I.cne x c e) hc nch ho (I.freeC x c e),hd⟩
 refine⟨I.ok,I.os,hg,⟨fun b o e n hb hx=>?_,fun b o e n hb hx=>?_,fun b o e n hx=>?_,fun b o e hx=>?_,fun b xs e=>tups b xs (I.base.tups b xs e),fun b o xs e=>frzs b o xs (I.base.frzs b o xs e),fun b ps e=>?_⟩,?_,fun x c e=>?_,?_,fun x c e=>?_,fun p hp=>?_,hok,I.len⟩
 ·exact keep b o (neL b o e) hb (neC b o e hx) (I.base.keep b o e n hb hx) (I.base.free b o e n hx)
 ·obtain⟨sl,e1⟩:=I.base.slot b o e n hb hx;obtain⟨sl',e2⟩:=slot b _ (neL b o e) hb (neC b o e hx) e1 (I.base.free b o e n hx);exact⟨sl',e2⟩
 ·obtain⟨o',e1⟩:=I.base.there b o e hx;exact free b o' (neC b o e hx) e1 (I.base.free b o e n hx)
 ·obtain⟨o',e1⟩:=I.base.there b o e hx;exact there b o' (neC b o e hx) e1
 ·obtain⟨m1,e1⟩:=I.base.tbls b ps e;obtain⟨m2,e2⟩:=tbls b _ e1;exact⟨m1++m2,by rw[e2,Array.append_assoc]⟩
 ·obtain⟨m,hn,hl⟩:=I.loc;refine⟨m,ns m hn,fun i x v e1 e2 e3=>?_⟩;obtain⟨u,r,l⟩:=hl i x v e1 e2 e3;refine⟨u,r,?_⟩
  rcases l with l|⟨k,c,e,z⟩
  ·exact .inl l
  ·exact .inr ⟨k,c,e,cellK x c e _ z⟩
 ·obtain⟨v,z⟩:=I.cell x c e;exact⟨v,cellK x c e v z⟩
 ·obtain⟨m,⟨o,_,_,ho,_⟩,_⟩:=I.loc;exact free _ o (fun z=>(hch _ z).2.1 rfl) ho I.free
 ·obtain⟨v,o,ho,hd⟩:=I.cell x c e;exact free c o (fun z=>(hch c z).2.2.1 x c e rfl) ho (I.freeC x c e)
 ·obtain⟨e,n,ne,nf,d⟩:=I.pin p hp;have nch:p.1∉ch:=fun z=>(hch p.1 z).2.2.2 p hp rfl
  exact⟨keep p.1 p.2 ne nf nch e n,free p.1 p.2 nch e n,ne,nf,d⟩
theorem Inv.un{t':Nat}(I:Inv X pins σ H s)(u:Un X.fs [] H H' s.heap h')(hok:HOk X.prog X.w H' h'):Inv X pins σ H' { s with heap:=h',toks:=t' }:=by
 obtain⟨m,⟨o,es,ep,ho,r⟩,_⟩:=id I.loc;obtain⟨sl,hL⟩:=u.any ho I.free (by simp);exact I.step (g':=s.gens) (d':=s.drawn) (ch:=[]) (fun _ z=>nomatch z) (fun b o _ hb _ e n=>u.keep b o e n hb (by simp)) (fun b o _ hb _ e n=>u.slot b o e n hb (by simp)) (fun b o _ e n=>u.free b o e n (by simp)) (fun b o _ e=>u.there b o e (by simp)) u.tups u.frzs u.tbls (fun m' hm=>by
  obtain⟨o',es',ep',ho',r'⟩:=hm;rw[ho]at ho';cases ho';exact⟨_,es',ep',hL,r'⟩) hok I.bare
theorem Inv.call{g':Array GenState}{t':Nat}{d':Drawn}{ch:List Addr}(I:Inv X pins σ H s)(u:Un (frs X.stack) ch H H' s.heap h')(hok:HOk X.prog X.w H' h')(hg:AllBare g')
  (hch:∀b∈ch,(b∈X.ex\/X.s₀.heap.objs.size<=b)/\b≠X.env.locals/\(∀x c,X.env.cells.lookup x=some c->c≠b)/\∀p∈X.pn++pins,p.1≠b) :
  Inv X pins σ H' { s with heap:=h',gens:=g',drawn:=d',toks:=t' }:=by
 obtain⟨m,⟨o,es,ep,ho,r⟩,_⟩:=id I.loc;obtain⟨sl,hL⟩:=u.any ho I.free fun z=>(hch _ z).2.1 rfl
 exact I.step (ch:=ch) hch (fun b o hL hb hc e n=>u.keep b o e n (fun z=>(qA9.mp (I.stkSub b z)).elim hL hb) hc) (fun b o _ _ hc e n=>u.any e n hc) (fun b o hc e n=>u.free b o e n hc) (fun b o hc e=>u.there b o e hc) u.tups u.frzs u.tbls (fun m' hm=>by
  obtain⟨o',es',ep',ho',r'⟩:=hm;rw[ho]at ho';cases ho';exact⟨_,es',ep',hL,r'⟩) hok hg
theorem Inv.turned{t':Nat}{it:Addr}(I:Inv X pins σ H s)(k:∀b o,b≠it->s.heap.get? b=some o->h'.get? b=some o)(hn:H it=none)(hL:it≠X.env.locals)
  (h1:it∈X.ex\/X.s₀.heap.objs.size<=it) (h2:∀x c,X.env.cells.lookup x=some c->c≠it) (h3:∀p∈X.pn++pins,p.1≠it):Inv X pins σ H { s with heap:=h',toks:=t' }:=by
 have nit:∀b u,H b=some u->b≠it:=fun b u e z=>by rw[z,hn]at e;cases e
 refine I.step (g':=s.gens) (d':=s.drawn) (ch:=[it]) (fun b hb=>?_) (fun b o _ _ hc e _=>k b o (fun z=>hc (by simp[z])) e) (fun b o _ _ hc e _=>⟨o.slots,k b o (fun z=>hc (by simp[z])) e⟩) (fun _ _ _ _ n=>n)
  (fun b o hc e=>⟨o,k b o (fun z=>hc (by simp[z])) e⟩) (fun _ _ e=>e) (fun _ _ _ e=>e) (fun b ps e=>⟨#[],by rw[e];simp⟩) (fun m hm=>?_) (fun b u e=>?_) I.bare
 ·have e:b=it:=by simpa using hb
  subst e;exact⟨h1,hL,h2,h3⟩
 ·obtain⟨o,es,ep,ho,r⟩:=hm;exact⟨o,es,ep,k _ o (qDs hL) ho,r⟩
 ·refine(I.hok b u e).stay (fun c v hc q=>k c v ?_ q) (fun _ q=>q) fun _ _ q=>q
  rcases hc with z|z
  ·rw[z];exact nit b u e
  ·exact nit c _ z
theorem Inv.tok(I:Inv X pins σ H s)(t:Nat):Inv X pins σ H { s with toks:=t }:=I.un (h':=s.heap) (t':=t) Un.refl I.hok
theorem Inv.kept{t':Nat}(I:Inv X pins σ H s)(k:∀b u,s.heap.get? b=some u->h'.get? b=some u):Inv X pins σ H { s with heap:=h',toks:=t' }:=I.un (Un.kept k) (I.hok.kept k)
theorem Inv.laid{a:Addr}{o:HO}{t':Nat}(I:Inv X pins σ H s)(k:∀b u,s.heap.get? b=some u->h'.get? b=some u)(hp:s.heap.objs.size<=a)(new:ObjOk X.prog X.w (upd H a o) h' a o) :
  Inv X pins σ (upd H a o) { s with heap:=h',toks:=t' }:=I.un (Un.laid k hp (I.hok.fresh hp)) (I.hok.laid k hp new)
theorem Inv.write{x e:Addr}{o:HO}{t':Nat}(I:Inv X pins σ H s)(mu:Mut (H x))(he:e=x\/H e=some (.own x))(k:∀b u,b≠e->s.heap.get? b=some u->h'.get? b=some u)(heo:∃u,h'.get? e=some u)
  (new:ObjOk X.prog X.w (upd H x o) h' x o):Inv X pins σ (upd H x o) { s with heap:=h',toks:=t' }:=I.un (Un.write mu he k heo) (I.hok.write mu he k heo new)
theorem Inv.weak{σ':List (Option V)}(I:Inv X pins σ H s)(hl:σ'.length=σ.length)(w:∀(i:Nat) v,σ'[i]?=some (some v)->σ[i]?=some (some v)):Inv X pins σ' H s:=
 ⟨I.ok,I.os,I.bare,I.base,let⟨m,hn,hl'⟩:=I.loc;⟨m,hn,fun i x v e1 e2 e3=>hl' i x v e1 (w i v e2) e3⟩,I.cell,I.free,I.freeC,I.pin,I.hok,hl.trans I.len⟩
theorem Inv.pins_of{pins':List (Addr×Obj)}(I:Inv X pins σ H s)(h:∀p∈pins',s.heap.get? p.1=some p.2/\H p.1=none/\p.1≠X.env.locals/\p.1∉X.fs/\∀v,p.2.data≠.cell v):Inv X pins' σ H s:=
 ⟨I.ok,I.os,I.bare,I.base,I.loc,I.cell,I.free,I.freeC,fun p hp=>(qAv.mp hp).elim (fun z=>I.pin p (qBh _ z)) (h p),I.hok,I.len⟩
theorem zOF{N:List Str}(hN:N.Nodup){i j:Nat}{x:Str}(a:N[i]?=some x)(b:N[j]?=some x):i=j:=by
 obtain⟨h1,e1⟩:=qA3.mp a;obtain⟨h2,e2⟩:=qA3.mp b;exact(qE6 hN).mp (e1.trans e2.symm)
theorem zL7{M:Model}{A:Around}{E:Value->Shared->Prop}{i:Nat}{x:Str}{v:V}{u:Value}{Q:Unit->Shared->Prop}(I:Inv X pins σ H s)(hN:X.N.Nodup)(hi:X.N[i]?=some x)(hx:Loc X.env.scope x)(r:RelV v u)
  (h:∀s',Inv X pins (σ.set i (some v)) H s'->(∃a,Heap.SameBut a s.heap s'.heap/\(a=X.env.locals\/X.env.cells.lookup x=some a))->Q () s') (hf:X.fn x=true\/X.env.scope.names.lookup x=some .local:=by first|exact .inl rfl|exact .inr rfl|assumption):wpAny M A (storeName X.env x u) Q E s:=by
 obtain⟨m,hn,hl⟩:=id I.loc;have hcls:(X.env.scope.kind==.class||(X.env.scope.kind==.module&&X.env.locals != X.env.globals))=false:=by rw[I.ok.kind];rfl
 have hiσ:i<σ.length:=by rw[I.len];exact(qA3.mp hi).1
 have cne:=I.cne;have tracked:∀{a:Addr}{h':Heap},(∃o,s.heap.get? a=some o/\H a=none)->Heap.SameBut a s.heap h'->HOk X.prog X.w H h':=fun{a h'} ha hs b ob e=>by
  obtain⟨_,_,hfree⟩:=ha;refine(I.hok b ob e).stay (fun c w' hc q=>(hs.2 c ?_).trans q) (fun _ q=>q) fun _ _ q=>q
  rintro rfl
  rcases hc with rfl|hc
  ·rw[hfree]at e;cases e
  ·rw[hfree]at hc;cases hc
 rcases hx with hk|hk
 ·refine wpAny_storeName_local hk hn (fun h' hn' hs=>?_) hcls;obtain⟨oL,_,_,hoL,_⟩:=id hn;refine h _ ⟨I.ok,I.os,I.bare,⟨fun b o e n hb hx=>?_,fun b o e n hb hx=>?_,I.base.free,fun b o e hx=>?_,I.base.tups,I.base.frzs,I.base.tbls⟩,⟨_,hn',fun j y v' e1 e2 e3=>?_⟩,fun y c e=>?_,I.free,I.freeC,fun p hp=>?_,tracked ⟨oL,hoL,I.free⟩ hs,by simpa using I.len⟩ ⟨_,hs,.inl rfl⟩
  ·exact(hs.2 b (qAn (qAi (Heap.lt_size e) I.ok.above))).trans (I.base.keep b o e n hb hx)
  ·obtain⟨sl,e1⟩:=I.base.slot b o e n hb hx;exact⟨sl,(hs.2 b (qAn (qAi (Heap.lt_size e) I.ok.above))).trans e1⟩
  ·obtain⟨o',e1⟩:=I.base.there b o e hx;exact⟨o',(hs.2 b (qAn (qAi (Heap.lt_size e) I.ok.above))).trans e1⟩
  ·by_cases hj:j=i
   ·subst hj;rw[hi]at e1;cases e1;rw[qAb hiσ]at e2;cases e2;exact⟨u,r,.inl ⟨hk,by simp⟩⟩
   ·rw[qAj (qDs hj)]at e2;obtain⟨u',r',q⟩:=hl j y v' e1 e2 e3;refine⟨u',r',?_⟩
    rcases q with⟨k,e⟩|⟨k,c,e,z⟩
    ·refine .inl ⟨k,?_⟩
     have:y≠x:=fun e=>hj (zOF hN e1 (e▸hi))
     simp[this,e]
    ·exact .inr ⟨k,c,e,z.sameBut hs (cne y c e)⟩
  ·obtain⟨w',z⟩:=I.cell y c e;exact⟨w',z.sameBut hs (cne y c e)⟩
  ·obtain⟨e,n,ne,nf,d⟩:=I.pin p hp;exact⟨(hs.2 p.1 ne).trans e,n,ne,nf,d⟩
 ·have hfn:X.fn x=true:=by
   rcases hf with z|z
   ·exact z
   ·rw[z]at hk;cases hk
  obtain⟨c,hc⟩:=I.ok.has x (.inl hk);obtain⟨w',z⟩:=I.cell x c hc;refine wpAny_storeName_cell I.ok.kind hk hc z (fun h' hc' hs=>?_);obtain⟨oc,hoc,hocd⟩:=id z;refine h { s with heap:=h' } ⟨I.ok,I.os,I.bare,⟨fun b o e n hb hx=>?_,fun b o e n hb hx=>?_,I.base.free,fun b o e hx=>?_,I.base.tups,I.base.frzs,I.base.tbls⟩,⟨m,hn.sameBut hs (qDs (cne x c hc)),fun j y v' e1 e2 e3=>?_⟩,fun y c' e=>?_,I.free,I.freeC,fun p hp=>?_,tracked ⟨oc,hoc,I.freeC x c hc⟩ hs,by simpa using I.len⟩ ⟨c,hs,.inr hc⟩
  ·exact(hs.2 b (qAn (qAi (Heap.lt_size e) (I.ok.cab x c hfn hc)))).trans (I.base.keep b o e n hb hx)
  ·obtain⟨sl,e1⟩:=I.base.slot b o e n hb hx;exact⟨sl,(hs.2 b (qAn (qAi (Heap.lt_size e) (I.ok.cab x c hfn hc)))).trans e1⟩
  ·obtain⟨o',e1⟩:=I.base.there b o e hx;exact⟨o',(hs.2 b (qAn (qAi (Heap.lt_size e) (I.ok.cab x c hfn hc)))).trans e1⟩
  ·by_cases hj:j=i
   ·subst hj;rw[hi]at e1;cases e1;rw[qAb hiσ]at e2;cases e2;exact⟨u,r,.inr ⟨.inl hk,c,hc,hc'⟩⟩
   ·rw[qAj (qDs hj)]at e2;obtain⟨u',r',q⟩:=hl j y v' e1 e2 e3;refine⟨u',r',?_⟩
    rcases q with q|⟨k,c',e,z'⟩
    ·exact .inl q
    ·refine .inr ⟨k,c',e,z'.sameBut hs ?_⟩
     rintro rfl
     exact hj (zOF hN e1 (I.ok.inj _ _ _ e hc▸hi))
  ·by_cases hcc:c'=c
   ·subst hcc;exact⟨_,hc'⟩
   ·obtain⟨w2,z2⟩:=I.cell y c' e;exact⟨w2,z2.sameBut hs hcc⟩
  ·obtain⟨e,n,ne,nf,d⟩:=I.pin p hp;refine⟨(hs.2 p.1 ?_).trans e,n,ne,nf,d⟩;intro q;rw[q,hoc]at e;have q':oc=p.2:=qAz e;exact d w' (by rw[<- q'];exact hocd)
theorem zNZ{M:Model}{A:Around}{E:Value->Shared->Prop}{i:Nat}{x:Str}{v:V}{u:Value}{Q:Unit->Shared->Prop}(I:Inv X pins σ H s)(hN:X.N.Nodup)(hi:X.N[i]?=some x)(hx:Loc X.env.scope x)(r:RelV v u)
  (h:∀s',Inv X pins (σ.set i (some v)) H s'->Q () s') (hf:X.fn x=true\/X.env.scope.names.lookup x=some .local:=by first|exact .inl rfl|exact .inr rfl|assumption):wpAny M A (storeName X.env x u) Q E s:=
 zL7 I hN hi hx r (fun s' I' _=>h s' I') hf
theorem Inv.call'{s':Shared}{ch:List Addr}(I:Inv X pins σ H s)(ho:s'.os=s.os)(u:Un (frs X.stack) ch H H' s.heap s'.heap)(hok:HOk X.prog X.w H' s'.heap)(hg:AllBare s'.gens)
  (hch:∀b∈ch,(b∈X.ex\/X.s₀.heap.objs.size<=b)/\b≠X.env.locals/\(∀x c,X.env.cells.lookup x=some c->c≠b)/\∀p∈X.pn++pins,p.1≠b):Inv X pins σ H' s':=by
 obtain⟨h',g',d',t',o'⟩:=s';have e:o'=s.os:=ho;subst e;exact I.call (g':=g') (t':=t') (d':=d') u hok hg hch
end
abbrev XK:=Value->Option Addr->Hp->Prop
abbrev St:=List (Option V)
abbrev VK:=V->Hp->Prop
abbrev TE:=St->Hp->VK->Prop
abbrev TT:=St->Hp->(Bool->Hp->Prop)->Prop
abbrev TA:=St->Hp->(List V->Hp->Prop)->Prop
structure Ends where
 nx:St->Hp->Prop
 rt:VK
 bk:St->Hp->Prop:=fun _ _=>False
 ct:St->Hp->Prop:=fun _ _=>False
abbrev TS:=Ends->St->Hp->Prop
def EP(X:Cx)(pins:List (Addr×Obj))(σ:St)(Q:VK)(u:Value)(s':Shared):Prop:=∃v H',Inv X pins σ H' s'/\RelV v u/\Q v H'
def TP(X:Cx)(pins:List (Addr×Obj))(σ:St)(Q:Bool->Hp->Prop)(b:Bool)(s':Shared):Prop:=∃H',Inv X pins σ H' s'/\Q b H'
def AP(X:Cx)(pins:List (Addr×Obj))(σ:St)(Q:List V->Hp->Prop)(us:List Value)(s':Shared):Prop:=∃vs H',Inv X pins σ H' s'/\Vals vs us/\Q vs H'
def SP(X:Cx)(pins:List (Addr×Obj))(D:Ends)(f:Flow)(s':Shared):Prop:=
 match f with
 |.next=>∃σ' H',Inv X pins σ' H' s'/\D.nx σ' H'
 |.brk=>∃σ' H',Inv X pins σ' H' s'/\D.bk σ' H'
 |.cont=>∃σ' H',Inv X pins σ' H' s'/\D.ct σ' H'
 |.ret u=>∃v σ' H',Inv X pins σ' H' s'/\RelV v u/\D.rt v H'
def PE(X:Cx)(e:Expr)(t:TE):Prop:=
 ∀(pins:List (Addr×Obj))(s:Shared)(σ:St)(H:Hp)(Q:VK),Inv X pins σ H s->t σ H Q->wpAny (model X.prog X.w) X.A (eval e X.env) (EP X pins σ Q) X.xe s
def PT(X:Cx)(e:Expr)(t:TT):Prop:=
 ∀(pins:List (Addr×Obj))(s:Shared)(σ:St)(H:Hp)(Q:Bool->Hp->Prop),Inv X pins σ H s->t σ H Q->wpAny (model X.prog X.w) X.A (isTrue e X.env (eval e X.env)) (TP X pins σ Q) X.xe s
def PW(X:Cx)(e:Expr)(t:TT):Prop:=
 ∀(whole:Sem Value)(pins:List (Addr×Obj))(s:Shared)(σ:St)(H:Hp)(Q:Bool->Hp->Prop),Inv X pins σ H s->t σ H Q->wpAny (model X.prog X.w) X.A (isTrue e X.env whole) (TP X pins σ Q) X.xe s
theorem PW.pt{X:Cx}{e:Expr}{t:TT}(h:PW X e t):PT X e t:=h _
def PA(X:Cx)(es:List Expr)(t:TA):Prop:=
 ∀(pos:Pos)(pins:List (Addr×Obj))(s:Shared)(σ:St)(H:Hp)(Q:List V->Hp->Prop),Inv X pins σ H s->t σ H Q->wpAny (model X.prog X.w) X.A (spliced (backTo pos (starEach es X.env))) (AP X pins σ Q) X.xe s
def PS(X:Cx)(st:Stmt)(t:TS):Prop:=
 ∀(pins:List (Addr×Obj))(s:Shared)(σ:St)(H:Hp)(D:Ends),Inv X pins σ H s->t D σ H->wpAny (model X.prog X.w) X.A (exec st X.env) (SP X pins D) X.xe s
def PSs(X:Cx)(st:List Stmt)(t:TS):Prop:=
 ∀(pins:List (Addr×Obj))(s:Shared)(σ:St)(H:Hp)(D:Ends),Inv X pins σ H s->t D σ H->wpAny (model X.prog X.w) X.A (execs st X.env) (SP X pins D) X.xe s
theorem thn{α:Type}{t:Sem α}{Q Q':α->Shared->Prop}{M:Model}{A:Around}{E:Value->Shared->Prop}{s:Shared}(h:wpAny M A t Q E s)(hQ:∀a s,Q a s->Q' a s):wpAny M A t Q' E s:=wpAny_mono h hQ fun _ _ x=>x
end L2
namespace L2
open PySem PySem.Spec PyProof.Rows
section
variable{X:Cx}
noncomputable def tVar(i:Nat):TE:=fun σ H Q=>∃v,σ[i]?=some (some v)/\Q v H
noncomputable def tC(v:V):TE:=fun _ H Q=>Q v H
theorem zYL{i:Nat}{x:Str}{pos:Pos}(hN:X.N[i]?=some x)(hv:Vis X.env.scope x)(hd:(x==("__debug__":Str))=false:=by decide)(hcd:(x==("__classdict__":Str))=false:=by decide):PE X (.Name x pos) (tVar i):=by
 intro pins s σ H Q I h;obtain⟨v,e,h⟩:=h;obtain⟨m,hn,hl⟩:=I.loc;obtain⟨u,r,l⟩:=hl i x v hN e hv;have fin:EP X pins σ Q u s:=⟨v,H,I,r,h⟩
 rcases l with⟨hk,hm⟩|⟨hk,c,hc,hcell⟩
 ·exact wpAny_Name (wpAny_loadName_local I.ok.kind hk hn hm fin) hd
 ·rcases hk with hk|hk
  ·exact wpAny_Name (wpAny_loadName_cell I.ok.kind hk hc hcell fin) hd
  ·exact wpAny_Name (wpAny_loadName_free I.ok.kind hk hc hcell fin hcd) hd
theorem zA7{i j pos}:PE X (.Constant (.int i) j pos) (tC (.int i)):=fun _ _ _ H _ I h=>wpAny_Constant_int ⟨.int i,H,I.tok _,⟨_,rfl⟩,h⟩
theorem zFV{b j pos}:PE X (.Constant (.bool b) j pos) (tC (.bl b)):=fun _ _ _ H _ I h=>Constant_bool ⟨.bl b,H,I,rfl,h⟩
theorem zUQ{j pos}:PE X (.Constant .none j pos) (tC .non):=fun _ _ _ H _ I h=>Constant_none ⟨.non,H,I,rfl,h⟩
def Gl(X:Cx)(x:Str):Prop:=X.env.kindOf x=some .globalImplicit
theorem zWL{E:Value->Shared->Prop}{pins:List (Addr×Obj)}{s:Shared}{σ:St}{H:Hp}{x:Str}{u:Value}{pos:Pos}{Q:Value->Shared->Prop}(I:Inv X pins σ H s)(hg:Gl X x)(hm:X.mg x=some u)(h:Q u s)
  (hd:(x==("__debug__":Str))=false:=by decide):wpAny (model X.prog X.w) X.A (eval (.Name x pos) X.env) Q E s:=
 Calls.Name_function_global I.ok.kind hg (Calls.loadGlobal_global (by rw[I.ok.glob];exact I.mod.glob.keeps I.bk) hm h) hd
theorem zIB{E:Value->Shared->Prop}{pins:List (Addr×Obj)}{s:Shared}{σ:St}{H:Hp}{x:Str}{u:Value}{pos:Pos}{Q:Value->Shared->Prop}(I:Inv X pins σ H s)(hg:Gl X x)(hm:X.mg x=none)(hv:bootBuiltins x=some u)(h:Q u s)
  (hn:x≠"__name__":=by decide) (hd:(x==("__debug__":Str))=false:=by decide):wpAny (model X.prog X.w) X.A (eval (.Name x pos) X.env) Q E s:=by
 obtain⟨mb,h1,h2⟩:=I.mod.blt;exact Calls.Name_function_global I.ok.kind hg (Calls.loadGlobal_builtin (by rw[I.ok.glob];exact I.mod.glob.keeps I.bk) hm (by rw[I.ok.blt];exact h1.keeps I.bk) ((h2 x hn).trans hv) h) hd
theorem zEN{x:Str}{v:V}{u:Value}{pos:Pos}(hg:Gl X x)(hm:X.mg x=none)(hv:bootBuiltins x=some u)(r:RelV v u)(hn:x≠"__name__":=by decide)(hd:(x==("__debug__":Str))=false:=by decide):PE X (.Name x pos) (tC v):=
 fun _ _ _ H _ I h=>zIB I hg hm hv ⟨v,H,I,r,h⟩ hn hd
variable{a b:Expr}{ta tb:TE}{pos:Pos}
noncomputable def tB(t:TE):TT:=fun σ H Q=>t σ H fun x H1=>∃c,x=.bl c/\Q c H1
variable{tA tB':TT}{rest:List Expr}
noncomputable def tAnd(t u:TT):TT:=fun σ H Q=>t σ H fun c H1=>if c=true then u σ H1 Q else Q false H1
noncomputable def tOr(t u:TT):TT:=fun σ H Q=>t σ H fun c H1=>if c=true then Q true H1 else u σ H1 Q
noncomputable def tNot(t:TT):TT:=fun σ H Q=>t σ H fun c H1=>Q (!c) H1
theorem zQR(ha:PT X a tA):PW X (.BoolOp .And [a] pos) tA:=by
 intro wh pins s σ H Q I h;refine isTrue_and (thn (ha pins s σ H Q I h) fun c s1 e=>?_);cases c with
 |true=>exact isTrue_and_nil e
 |false=>exact e
theorem zJC(ha:PT X a tA):PW X (.BoolOp .Or [a] pos) tA:=by
 intro wh pins s σ H Q I h;refine isTrue_or (thn (ha pins s σ H Q I h) fun c s1 e=>?_);cases c with
 |false=>exact isTrue_or_nil e
 |true=>exact e
theorem zUL(ha:PT X a tA)(hb:PW X (.BoolOp .And (b::rest) pos) tB'):PW X (.BoolOp .And (a::b::rest) pos) (tAnd tA tB'):=by
 intro wh pins s σ H Q I h;refine isTrue_and (thn (ha pins s σ H _ I h) fun c s1 z0=>?_);obtain⟨H1,I1,q1⟩:=z0;cases c with
 |true=>exact hb wh pins s1 σ H1 Q I1 q1
 |false=>exact⟨H1,I1,q1⟩
theorem zK2(ha:PT X a tA)(hb:PW X (.BoolOp .Or (b::rest) pos) tB'):PW X (.BoolOp .Or (a::b::rest) pos) (tOr tA tB'):=by
 intro wh pins s σ H Q I h;refine isTrue_or (thn (ha pins s σ H _ I h) fun c s1 z0=>?_);obtain⟨H1,I1,q1⟩:=z0;cases c with
 |true=>exact⟨H1,I1,q1⟩
 |false=>exact hb wh pins s1 σ H1 Q I1 q1
theorem zHZ(ha:PT X a tA):PT X (.UnaryOp .Not a pos) (tNot tA):=by
 intro pins s σ H Q I h;exact isTrue_not (ha pins s σ H (fun c H1=>Q (!c) H1) I h)
theorem zFU{op}{t:TE}(h:PE X a t):PE X (.BoolOp op [a] pos) t:=fun pins s σ H Q I hw=>BoolOp_one (h pins s σ H Q I hw)
noncomputable def tIf(t:TT)(ta tb:TE):TE:=fun σ H Q=>t σ H fun c H1=>if c=true then ta σ H1 Q else tb σ H1 Q
theorem zK3{c:Expr}(hc:PT X c tA)(ha:PE X a ta)(hb:PE X b tb):PE X (.IfExp c a b pos) (tIf tA ta tb):=by
 intro pins s σ H Q I h;refine wpAny_IfExp (thn (hc pins s σ H _ I h) fun d s1 z0=>?_);obtain⟨H1,I1,q1⟩:=z0;cases d with
 |true=>exact ha pins s1 σ H1 Q I1 q1
 |false=>exact hb pins s1 σ H1 Q I1 q1
end
end L2
namespace L2
open PySem PySem.Spec PyProof.Rows
def SqL(K:qA2)(H:Hp)(a:Addr)(xs:List V):Prop:=
 Rd H a (.lst xs) \/
  ∃(o:Obj)(its:Array Value)(n:Nat),K.lookup a=some o/\o.cls=.type "list"/\o.dict=none/\o.data=.seq its n/\its.size<=sizeLine/\Vals xs its.toList
def SqT(K:qA2)(H:Hp)(a:Addr)(xs:List V):Prop:=
 Rd H a (.tup xs) \/
  ∃(o:Obj)(its:Array Value)(n:Nat),K.lookup a=some o/\o.cls=.type "tuple"/\o.data=.seq its n/\its.size<=sizeLine/\Vals xs its.toList
noncomputable def absV:Value->Option V
 |.none=>some .non
 |.bool b=>some (.bl b)
 |.int i _=>some (.int i)
 |.str x _=>some (.str x)
 |.bytes b _=>some (.byt b)
 |.float b _=>some (.flt b)
 |.ref a=>some (.ref a)
 |.type n=>some (.ty n)
 |_=>none
theorem RelV.abs{x:V}{u:Value}(r:RelV x u):absV u=some x:=by
 cases x with
 |non=>cases r;rfl
 |bl _=>cases r;rfl
 |int _=>obtain⟨t,rfl⟩:=r;rfl
 |str _=>obtain⟨t,rfl⟩:=r;rfl
 |byt _=>obtain⟨t,rfl⟩:=r;rfl
 |flt _=>obtain⟨t,rfl⟩:=r;rfl
 |ref _=>cases r;rfl
 |ty _=>cases r;rfl
theorem RelV.inj{x y:V}{u:Value}(r:RelV x u)(q:RelV y u):x=y:=qAz (r.abs.symm.trans q.abs)
theorem Vals.inj:∀{xs ys:List V}{us:List Value},Vals xs us->Vals ys us->xs=ys
 |_,_,_,.nil,.nil=>rfl
 |_,_,_,.cons r t,.cons r' t'=>by rw[r.inj r',Vals.inj t t']
section
variable{X:Cx}{pins:List (Addr×Obj)}{σ:St}{H:Hp}{s:Shared}{a:Addr}{xs ys:List V}
theorem SqL.of{K:qA2}(h:H a=some (.lst xs)):SqL K H a xs:=.inl (.inl h)
theorem SqT.of{K:qA2}(h:H a=some (.tup xs)):SqT K H a xs:=.inl (.inl h)
theorem Inv.list(I:Inv X pins σ H s)(h:SqL X.K H a xs):∃its:List Value,Vals xs its/\PlainL s.heap a its.toArray/\xs.length<=sizeLine:=by
 rcases h with h|⟨o,its,n,hk,hc,hd,hs,hz,r⟩
 ·obtain⟨z,its,n,r,e⟩:=h.ok I.hok;exact⟨its,r,⟨_,n,e,rfl,rfl,rfl⟩,z⟩
 ·refine⟨its.toList,r,⟨o,n,I.kIn a o hk,hc,hd,by simpa using hs⟩,?_⟩;have e:=r.length;simp only[qAy]at e;omega
theorem Inv.tuple(I:Inv X pins σ H s)(h:SqT X.K H a xs):∃its:List Value,Vals xs its/\IsTup s.heap a its.toArray/\xs.length<=sizeLine:=by
 rcases h with h|⟨o,its,n,hk,hc,hs,hz,r⟩
 ·obtain⟨z,its,r,p⟩:=h.ok I.hok;exact⟨its,r,p,z⟩
 ·refine⟨its.toList,r,⟨o,I.kIn a o hk,hc,n,by simpa using hs⟩,?_⟩;have e:=r.length;simp only[qAy]at e;omega
theorem Inv.list_inj(I:Inv X pins σ H s)(h:SqL X.K H a xs)(h':SqL X.K H a ys):xs=ys:=by
 obtain⟨its,r,⟨o,n,e,_,_,d⟩,_⟩:=I.list h;obtain⟨its',r',⟨o',n',e',_,_,d'⟩,_⟩:=I.list h';rw[e]at e';cases e';rw[d]at d'
 injection d' with d1 _
 have:its=its':=by simpa using congrArg qGx d1
 subst this;exact r.inj r'
theorem Inv.tuple_inj(I:Inv X pins σ H s)(h:SqT X.K H a xs)(h':SqT X.K H a ys):xs=ys:=by
 obtain⟨its,r,⟨o,e,_,n,d⟩,_⟩:=I.tuple h;obtain⟨its',r',⟨o',e',_,n',d'⟩,_⟩:=I.tuple h';rw[e]at e';cases e';rw[d]at d'
 injection d' with d1 _
 have:its=its':=by simpa using congrArg qGx d1
 subst this;exact r.inj r'
end
abbrev Cx.wish(X:Cx)(E:Value->Shared->Prop):Cx:={ X with xe:=E }
abbrev Cx.nox(X:Cx):Cx:=X.wish fun _ _=>False
theorem Cx.Ok.wish{X:Cx}(ok:X.Ok)(E:Value->Shared->Prop):(X.wish E).Ok:=
 ⟨ok.mod,ok.kind,ok.glob,ok.blt,ok.above,ok.inj,ok.has,ok.cab,ok.hd,ok.frames,ok.stk,ok.exf,ok.bs,ok.bsz,ok.noex,ok.exfs,ok.funs,ok.frf⟩
theorem Cx.Ok.unwish{X:Cx}{E:Value->Shared->Prop}(ok:(X.wish E).Ok):X.Ok:=
 ⟨ok.mod,ok.kind,ok.glob,ok.blt,ok.above,ok.inj,ok.has,ok.cab,ok.hd,ok.frames,ok.stk,ok.exf,ok.bs,ok.bsz,ok.noex,ok.exfs,ok.funs,ok.frf⟩
section
variable{X:Cx}{pins:List (Addr×Obj)}{σ:St}{H:Hp}{s:Shared}{E:Value->Shared->Prop}
theorem Inv.wish(I:Inv X pins σ H s)(E:Value->Shared->Prop):Inv (X.wish E) pins σ H s:=⟨I.ok.wish E,I.os,I.bare,I.base,I.loc,I.cell,I.free,I.freeC,I.pin,I.hok,I.len⟩
theorem Inv.unwish(I:Inv (X.wish E) pins σ H s):Inv X pins σ H s:=⟨I.ok.unwish,I.os,I.bare,I.base,I.loc,I.cell,I.free,I.freeC,I.pin,I.hok,I.len⟩
theorem SP.unwish{D:Ends}{f:Flow}{s':Shared}(h:SP (X.wish E) pins D f s'):SP X pins D f s':=by
 cases f with
 |next=>obtain⟨σ',H',I,q⟩:=h;exact⟨σ',H',I.unwish,q⟩
 |brk=>obtain⟨σ',H',I,q⟩:=h;exact⟨σ',H',I.unwish,q⟩
 |cont=>obtain⟨σ',H',I,q⟩:=h;exact⟨σ',H',I.unwish,q⟩
 |ret u=>obtain⟨v,σ',H',I,r,q⟩:=h;exact⟨v,σ',H',I.unwish,r,q⟩
theorem PSs.nox{st:List Stmt}{t:TS}(h:PSs X.nox st t):PSs X st t:=fun pins s σ H D I hw=>
 wpAny_mono (h pins s σ H D (I.wish _) hw) (fun _ _ q=>q.unwish) fun _ _ z=>qA5 z
end
section
variable{X:Cx}{st:Stmt}{rest:List Stmt}{t u:TS}{e:Expr}{te:TE}{pos:Pos}
noncomputable def zXR:TS:=fun D σ H=>D.nx σ H
noncomputable def tSeq(t u:TS):TS:=fun D σ H=>t { D with nx:=u D } σ H
theorem zB3:PSs X [] zXR:=fun _ _ σ H _ I h=>wpAny_execs_nil ⟨σ,H,I,h⟩
theorem zA5(h1:PS X st t)(h2:PSs X rest u):PSs X (st::rest) (tSeq t u):=by
 intro pins s σ H D I h;refine wpAny_execs_cons (thn (h1 pins s σ H { D with nx:=u D } I h) fun f s1 q=>?_);cases f with
 |next=>
  obtain⟨σ',H',I',q⟩:=q;exact h2 pins s1 σ' H' D I' q
 |ret v=>exact q
 |brk=>exact q
 |cont=>exact q
theorem zAB(h1:PS X st t):PSs X [st] t:=by
 intro pins s σ H D I h;refine wpAny_execs_cons (thn (h1 pins s σ H D I h) fun f s1 q=>?_);cases f with
 |next=>exact wpAny_execs_nil q
 |ret v=>exact q
 |brk=>exact q
 |cont=>exact q
theorem Inv.quiet{pins:List (Addr×Obj)}{σ:St}{H:Hp}{s:Shared}(I:Inv X pins σ H s):interactive X.env=false:=by simp[interactive,I.ok.kind]
noncomputable def zQ4(te:TE):TS:=fun D σ H=>te σ H fun _ H1=>D.nx σ H1
theorem zN1(he:PE X e te)(hs:swapsWith e none pos.line X.env=pure false:=by rfl):PS X (.Expr e pos) (zQ4 te):=by
 intro pins s σ H D I h;exact wpAny_Expr_any (thn (he pins s σ H _ I h) fun v s1 ⟨x,H1,I1,r1,q1⟩=>⟨σ,H1,I1,q1⟩) I.quiet hs
noncomputable def tRet(te:TE):TS:=fun D σ H=>te σ H D.rt
theorem zAR(he:PE X e te):PS X (.Return (some e) pos) (tRet te):=by
 intro pins s σ H D I h;exact wpAny_Return_some (thn (he pins s σ H _ I h) fun v s1 ⟨x,H1,I1,r1,q1⟩=>⟨x,σ,H1,I1,r1,q1⟩)
noncomputable def tIfS(c:TT)(t u:TS):TS:=fun D σ H=>c σ H fun b H1=>if b=true then t D σ H1 else u D σ H1
theorem zCJ{c:Expr}{a b:List Stmt}{tc:TT}(hc:PT X c tc)(ha:PSs X a t)(hb:PSs X b u):PS X (.If c a b pos) (tIfS tc t u):=by
 intro pins s σ H D I h;refine wpAny_If (thn (hc pins s σ H _ I h) fun d s1 z0=>?_);obtain⟨H1,I1,q1⟩:=z0;cases d with
 |true=>exact ha pins s1 σ H1 D I1 q1
 |false=>exact hb pins s1 σ H1 D I1 q1
end
abbrev TG:=V->St->Hp->(St->Hp->Prop)->Prop
abbrev TGs:=List V->St->Hp->(St->Hp->Prop)->Prop
def PG(X:Cx)(target:Expr)(t:TG):Prop:=
 ∀(pins:List (Addr×Obj))(s:Shared)(σ:St)(H:Hp)(v:V)(u:Value)(Q:St->Hp->Prop),Inv X pins σ H s->RelV v u->t v σ H Q ->
  wpAny (model X.prog X.w) X.A (assign target X.env u) (fun _ s'=>∃σ' H',Inv X pins σ' H' s'/\Q σ' H') X.xe s
def PGs(X:Cx)(ts:List Expr)(t:TGs):Prop:=
 ∀(pins:List (Addr×Obj))(s:Shared)(σ:St)(H:Hp)(vs:List V)(us:List Value)(Q:St->Hp->Prop),Inv X pins σ H s->Vals vs us->t vs σ H Q ->
  wpAny (model X.prog X.w) X.A (assignInOrder ((assignEach ts X.env).map (·.2)) us) (fun _ s'=>∃σ' H',Inv X pins σ' H' s'/\Q σ' H') X.xe s
abbrev TSet:=V->V->V->Hp->(Hp->Prop)->Prop
def PSet(X:Cx)(t:TSet):Prop:=
 ∀(pins:List (Addr×Obj))(s:Shared)(σ:St)(H:Hp)(o i v:V)(ov iv u:Value)(Q:Hp->Prop),Inv X pins σ H s->RelV o ov->RelV i iv->RelV v u->t o i v H Q ->
  wpAny (model X.prog X.w) X.A (setItem ov iv u) (fun _ s'=>∃H',Inv X pins σ H' s'/\Q H') X.xe s
section
variable{X:Cx}{pos:Pos}
noncomputable def zGN(i:Nat):TG:=fun v σ H Q=>Q (σ.set i (some v)) H
theorem zBR{i:Nat}{x:Str}(hN:X.N.Nodup)(hi:X.N[i]?=some x)(hx:Loc X.env.scope x)(hf:X.fn x=true\/X.env.scope.names.lookup x=some .local:=by first|exact .inl rfl|exact .inr rfl|assumption):PG X (.Name x pos) (zGN i):=by
 intro pins s σ H v u Q I r h;exact wpAny_assign_Name (zNZ I hN hi hx r (fun s' I'=>⟨_,H,I',h⟩) hf)
noncomputable def gNil:TGs:=fun vs σ H Q=>vs=[]/\Q σ H
noncomputable def zZI(t:TG)(u:TGs):TGs:=fun vs σ H Q=>∃v r,vs=v::r/\t v σ H fun σ' H'=>u r σ' H' Q
theorem zGK:PGs X [] gNil:=by
 intro pins s σ H vs us Q I r h;obtain⟨e,h⟩:=h;subst e;cases r;exact assignInOrder_nil ⟨σ,H,I,h⟩
theorem zC5{e:Expr}{es:List Expr}{t:TG}{u:TGs}(h1:PG X e t)(h2:PGs X es u)
  (hs:(assignEach (e::es) X.env).map (·.2)=assign e X.env::(assignEach es X.env).map (·.2):=by rfl):PGs X (e::es) (zZI t u):=by
 intro pins s σ H vs us Q I r h;obtain⟨v,vr,e1,h⟩:=h;subst e1;cases r with
 |cons r rr=>
  rw[hs];refine assignInOrder_cons (thn (h1 pins s σ H _ _ _ I r h) fun _ s1 z0=>?_);obtain⟨σ1,H1,I1,q1⟩:=z0;exact h2 pins s1 σ1 H1 _ _ Q I1 rr q1
noncomputable def gTup(K:qA2)(n:Nat)(t:TGs):TG:=fun v σ H Q=>∃a xs,v=.ref a/\SqT K H a xs/\xs.length=n/\t xs σ H Q
theorem zYK{es:List Expr}{k:Nat}{t:TGs}{n:Nat}(hc:X.calm=true)(h:PGs X es t)
  (hn:(assignEach es X.env).length=n:=by rfl) (hst:(assignEach es X.env).findIdx? (·.1)=none:=by rfl):PG X (.Tuple es k pos) (gTup X.K n t):=by
 intro pins s σ H v u Q I r hw;obtain⟨a,xs,e1,hq,hl,hw⟩:=hw;subst e1;cases r;obtain⟨its,rv,ht,hz⟩:=I.tuple hq;refine assign_Tuple_tuple (I.ok.hd hc) ht (by simp[hn,<- hl,rv.length]) hst fun h' hx=>?_
 have I1:Inv X pins σ H { s with heap:=h' }:=I.kept (t':=s.toks) fun b o e=>hx b o (qAn (Heap.lt_size e)) e
 exact h pins _ σ H xs _ Q I1 (by simpa using rv) hw
noncomputable def gSub(to ti:TE)(t:TSet):TG:=fun v σ H Q=>to σ H fun o H1=>ti σ H1 fun i H2=>t o i v H2 fun H3=>Q σ H3
theorem zI0{o i:Expr}{to ti:TE}{t:TSet}(ho:PE X o to)(hi:PE X i ti)(hs:PSet X t)
  (ha:∀v,assign (.Subscript o i pos) X.env v=(do
   let ov <- holding [v] (eval o X.env)
   let iv <- holding [v,ov] (eval i X.env)
   standAt pos
   holding [v,ov,iv] (setItem ov iv v)
   release [v,ov,iv] []):=by intro _;rfl):PG X (.Subscript o i pos) (gSub to ti t):=by
 intro pins s σ H v u Q I r h;rw[ha];refine wpAny_bind (wpAny_holding (thn (ho pins s σ H _ I h) fun ov s1 z0=>?_));obtain⟨x,H1,I1,r1,q1⟩:=z0;refine wpAny_bind (wpAny_holding (thn (hi pins s1 σ H1 _ I1 q1) fun iv s2 z0=>?_));obtain⟨y,H2,I2,r2,q2⟩:=z0;refine wpAny_bind (wpAny_standAt (wpAny_bind (wpAny_holding (thn (hs pins s2 σ H2 x y v ov iv u _ I2 r1 r2 r q2) fun _ s3 z0=>?_))));obtain⟨H3,I3,q3⟩:=z0;exact wpAny_release ⟨σ,H3,I3,q3⟩
noncomputable def tAsg(te:TE)(g:TG):TS:=fun D σ H=>te σ H fun x H1=>g x σ H1 D.nx
theorem zFT{tg e:Expr}{te:TE}{g:TG}(he:PE X e te)(hg:PG X tg g)(hs:swapsWithSole [tg] e pos.line X.env=pure false:=by rfl)(hw:swappedStores [tg] e X.env=pure none:=by rfl)
  (h1:(assignEach [tg] X.env).map (·.2)=[assign tg X.env]:=by rfl):PS X (.Assign [tg] e pos) (tAsg te g):=by
 intro pins s σ H D I h;refine wpAny_Assign_stores (thn (he pins s σ H _ I h) fun v s1 z0=>?_) hs hw;obtain⟨x,H1,I1,r1,q1⟩:=z0;rw[h1];exact thn (hg pins s1 σ H1 x v _ I1 r1 q1) fun _ s2 q=>q
theorem zUM{i:Nat}{x:Str}{e:Expr}{te:TE}{pos':Pos}(hN:X.N.Nodup)(hi:X.N[i]?=some x)(hx:Loc X.env.scope x)(he:PE X e te)(hs:swapsWith e (some (.Name x pos')) pos.line X.env=pure false:=by rfl)(hf:X.fn x=true\/X.env.scope.names.lookup x=some .local:=by first|exact .inl rfl|exact .inr rfl|assumption) :
  PS X (.Assign [.Name x pos'] e pos) (tAsg te (zGN i)):=by
 intro pins s σ H D I h;refine wpAny_Assign_Name (thn (he pins s σ H _ I h) fun v s1 z0=>?_) hs;obtain⟨y,H1,I1,r1,q1⟩:=z0;exact zNZ I1 hN hi hx r1 (fun s2 I2=>⟨_,H1,I2,q1⟩) hf
noncomputable def zQ1(c:TT)(tb:TS):TS:=fun D σ H=>∃W:Nat->St->Hp->Prop,(∃m,W m σ H)/\∀m σ H,W m σ H ->
 c σ H fun b H1=>if b=true then ∃N:St->Hp->Prop,(∀σ' H',N σ' H'->∃m',m'<m/\W m' σ' H')/\tb { D with nx:=N,ct:=N,bk:=D.nx } σ H1 else D.nx σ H1
theorem zT4{c:Expr}{body:List Stmt}{tc:TT}{tb:TS}(hp:PassesOwn (model X.prog X.w) X.A X.env X.xe)(hc:PT X c tc)(hb:PSs X body tb):PS X (.While c body [] pos) (zQ1 tc tb):=by
 intro pins s σ H D I h;obtain⟨W,⟨m0,w0⟩,turn⟩:=h;refine wpAny_While (codeAny_whileLoop (fun n s'=>∃σ' H',Inv X pins σ' H' s'/\W n σ' H') ?_ m0 ⟨σ,H,I,w0⟩)
 rintro n s1 ⟨σ1,H1,I1,w1⟩
 refine wpAny_passesOwn hp (thn (hc pins s1 σ1 H1 _ I1 (turn n σ1 H1 w1)) fun b s2 z0=>?_);obtain⟨H2,I2,q2⟩:=z0;cases b with
 |true=>
  obtain⟨N,hN,q2⟩:=q2;rw[if_pos rfl];refine wpAny_passesOwn hp (thn (hb pins s2 σ1 H2 _ I2 q2) fun f s3 q3=>?_);cases f with
  |next=>
   obtain⟨σ3,H3,I3,n3⟩:=q3;obtain⟨m',hm,w3⟩:=hN σ3 H3 n3;exact⟨m',hm,σ3,H3,I3,w3⟩
  |cont=>
   obtain⟨σ3,H3,I3,n3⟩:=q3;obtain⟨m',hm,w3⟩:=hN σ3 H3 n3;exact⟨m',hm,σ3,H3,I3,w3⟩
  |brk=>exact q3
  |ret v=>exact q3
 |false=>
  rw[if_neg qAc];exact wpAny_execs_nil ⟨σ1,H2,I2,q2⟩
end
structure It where
 go:Nat->Hp->Prop
 yld:Nat->Hp->V->Hp->Prop
 stop:Nat->Hp->Prop
def FpOk(X:Cx)(pins:List (Addr×Obj))(H:Hp)(b:Addr):Prop:=
 H b=none/\b≠X.env.locals/\b∉X.fs/\(b∈X.ex\/X.s₀.heap.objs.size<=b)/\(∀x c,X.env.cells.lookup x=some c->c≠b)/\∀p∈X.pn++pins,p.1≠b
theorem Inv.fpOk{X:Cx}{pins:List (Addr×Obj)}{σ:St}{H H':Hp}{s:Shared}{b:Addr}(I:Inv X pins σ H s)(hb:s.heap.objs.size<=b)(hn:H' b=none):FpOk X pins H' b:=by
 refine⟨hn,qBi (qAi I.lt hb),I.nofs hb,.inr (qAu I.sz hb),fun x c e z=>?_,fun p hp z=>?_⟩
 ·obtain⟨v,q⟩:=I.cell x c e;exact absurd (qAi q.lt (by rw[z];exact hb)) (qBn _)
 ·exact absurd (qAi (Heap.lt_size (I.pin p hp).1) (by rw[z];exact hb)) (qBn _)
structure Turn(P:Program)(w:World)(K:qA2)(tg:Expr)(J:It)(fp:List Addr)(it:Addr)(tn:Nat->Heap->Prop):Prop where
 mem:it∈fp
 obj:∀i h,tn i h->∀b∈fp,∃o,h.get? b=some o/\∀v,o.data≠.cell v
 keep:∀i h h',tn i h->(∀b∈fp,∀o,h.get? b=some o->h'.get? b=some o)->tn i h'
 item:∀(X:Cx),X.prog=P->X.w=w->X.K=K->X.calm=true->∀(i:Nat)(pins:List (Addr×Obj))(s:Shared)(σ:St)(H:Hp)(E:Value->Shared->Prop),Inv X pins σ H s->(∀b∈fp,FpOk X pins H b)->tn i s.heap->J.go i H ->
  wpAny (model P w) X.A (pyNext (.ref it)) (fun r s1=>∃u,r=some u /\
   wpAny (model P w) X.A (letOwnedTupleGo tg (.ref it) u) (fun _ s2=>∃x H',Inv X pins σ H' s2/\RelV x u/\J.yld i H x H'/\tn (i+1) s2.heap/\∀b∈fp,H' b=none) E s1) E s
 done:∀(X:Cx),X.prog=P->X.w=w->X.K=K->X.calm=true->∀(i:Nat)(pins:List (Addr×Obj))(s:Shared)(σ:St)(H:Hp)(E:Value->Shared->Prop),Inv X pins σ H s->(∀b∈fp,FpOk X pins H b)->tn i s.heap->J.stop i H ->
  wpAny (model P w) X.A (pyNext (.ref it)) (fun r s1=>r=none/\Inv X pins σ H s1) E s
 self:∀(A:Around)(i:Nat)(s:Shared)(Q:Value->Shared->Prop)(E:Value->Shared->Prop),tn i s.heap->Q (.ref it) s->wpAny (model P w) A (pyIter (.ref it)) Q E s
abbrev TI:=St->Hp->(It->Hp->Prop)->Prop
def PIE(X:Cx)(pins:List (Addr×Obj))(σ:St)(tg:Expr)(R:It->Hp->Prop)(itv:Value)(s2:Shared):Prop:=
 ∃(it:Addr)(fp:List Addr)(tn:Nat->Heap->Prop)(J:It)(H':Hp),itv=.ref it/\Inv X pins σ H' s2/\Turn X.prog X.w X.K tg J fp it tn/\tn 0 s2.heap/\(∀b∈fp,FpOk X pins H' b)/\R J H'
def PI(X:Cx)(tg iter:Expr)(wi:TI):Prop:=
 ∀(pins:List (Addr×Obj))(s:Shared)(σ:St)(H:Hp)(R:It->Hp->Prop),Inv X pins σ H s->wi σ H R ->
  wpAny (model X.prog X.w) X.A (eval iter X.env) (fun v s1=>wpAny (model X.prog X.w) X.A (pyIter v) (PIE X pins σ tg R) X.xe s1) X.xe s
theorem zTP{M:Model}{A:Around}{E:Value->Shared->Prop}{s:Shared}{tg:Expr}{it:Addr}{u:Value}{o:Obj}{n:String}{vs:Array Value}{Q:Unit->Shared->Prop}(ho:s.heap.get? it=some o)(hc:o.cls=.type n)(hd:o.data=.fields vs)
  (hn:["enumerate","zip","dict_itemiterator","dict_reverseitemiterator","odict_iterator","itertools.zip_longest","itertools.pairwise"].contains n=false) (hQ:Q () s):wpAny M A (letOwnedTupleGo tg (.ref it) u) Q E s:=by
 unfold letOwnedTupleGo;cases tg<;>first
  |exact wpAny_pure hQ
  |(cases u<;>first
    |exact wpAny_pure hQ
    |(refine wpAny_bind (wpAny_load ho ?_)
      rw[hc,hd];show wpAny M A (if(["enumerate","zip","dict_itemiterator","dict_reverseitemiterator","odict_iterator","itertools.zip_longest","itertools.pairwise"].contains n&&vs[0]?==some (rawInt _))=true then _ else _) Q E s;rw[if_neg (by intro h;rw[hn,Bool.false_and]at h;cases h)];exact wpAny_pure hQ))
noncomputable def Itl(K:qA2)(a:Addr):It:=
 ⟨fun i H=>∃xs x,SqL K H a xs/\xs[i]?=some x,fun i H x H'=>H'=H/\∀xs,SqL K H a xs->xs[i]?=some x,fun i H=>∃xs,SqL K H a xs/\xs.length<=i⟩
noncomputable def Itt(K:qA2)(a:Addr):It:=
 ⟨fun i H=>∃xs x,SqT K H a xs/\xs[i]?=some x,fun i H x H'=>H'=H/\∀xs,SqT K H a xs->xs[i]?=some x,fun i H=>∃xs,SqT K H a xs/\xs.length<=i⟩
noncomputable def Itr(lo:Int)(n:Nat):It:=⟨fun i _=>i<n,fun i H x H'=>H'=H/\x=.int (lo+i),fun i _=>n<=i⟩
theorem zPZ{P:Program}{w:World}{K:qA2}{tg:Expr}(a it:Addr):Turn P w K tg (Itl K a) [it] it (fun i h=>h.IsListIter it a i) where
 mem:=by simp
 obj:=fun i h st b hb=>by
  have e:b=it:=by simpa using hb
  subst e;obtain⟨o,e,c,d⟩:=st;exact⟨o,e,fun v z=>by rw[d]at z;cases z⟩
 keep:=fun i h h' st k=>st.at fun o e=>k it (by simp) o e
 item:=by
  intro X hP hw hK hc i pins s σ H E I hf st hg;subst hP hw hK;obtain⟨xs,x,hq,hx⟩:=hg;obtain⟨its,rv,p,hz⟩:=I.list hq;obtain⟨u,hu,ru⟩:=rv.get hx;obtain⟨f0,f1,f2,f3,f4,f5⟩:=hf it (by simp);refine wpAny_pyNext_list_item st p.isList (x:=u) (by simpa using hu) fun h' st' sb=>?_
  have I1:Inv X pins σ H { s with heap:=h' }:=I.turned (t':=s.toks) (fun b o hb e=>(sb.2 b hb).trans e) f0 f1 f3 f4 f5;obtain⟨o,e,c,d⟩:=id st';exact⟨u,rfl,zTP (s:={ s with heap:=h' }) e c d (by decide) ⟨x,H,I1,ru,⟨rfl,fun ys hy=>by rw[I.list_inj hy hq];exact hx⟩,st',fun b hb=>(hf b hb).1⟩⟩
 done:=by
  intro X hP hw hK hc i pins s σ H E I hf st hg;subst hP hw hK;obtain⟨xs,hq,hx⟩:=hg;obtain⟨its,rv,p,hz⟩:=I.list hq;obtain⟨f0,f1,f2,f3,f4,f5⟩:=hf it (by simp);have hl:=rv.length;exact wpAny_pyNext_list_end (I.ok.hd hc) st p.isList (by simp;omega) fun h' eb=>⟨rfl,I.turned (t':=s.toks) (fun b o hb e=>eb b o hb e) f0 f1 f3 f4 f5⟩
 self:=fun _ _ _ _ _ st h=>wpAny_pyIter_listiter st h
theorem zP1{P:Program}{w:World}{K:qA2}{tg:Expr}(a it:Addr):Turn P w K tg (Itt K a) [it] it (fun i h=>h.IsTupleIter it a i) where
 mem:=by simp
 obj:=fun i h st b hb=>by
  have e:b=it:=by simpa using hb
  subst e;obtain⟨o,e,c,d⟩:=st;exact⟨o,e,fun v z=>by rw[d]at z;cases z⟩
 keep:=fun i h h' st k=>st.at fun o e=>k it (by simp) o e
 item:=by
  intro X hP hw hK hc i pins s σ H E I hf st hg;subst hP hw hK;obtain⟨xs,x,hq,hx⟩:=hg;obtain⟨its,rv,p,hz⟩:=I.tuple hq;obtain⟨u,hu,ru⟩:=rv.get hx;obtain⟨f0,f1,f2,f3,f4,f5⟩:=hf it (by simp);refine wpAny_pyNext_tuple_item st (show s.heap.IsTuple a its.toArray from p) (x:=u) (by simpa using hu) fun h' st' sb=>?_
  have I1:Inv X pins σ H { s with heap:=h' }:=I.turned (t':=s.toks) (fun b o hb e=>(sb.2 b hb).trans e) f0 f1 f3 f4 f5;obtain⟨o,e,c,d⟩:=id st';exact⟨u,rfl,zTP (s:={ s with heap:=h' }) e c d (by decide) ⟨x,H,I1,ru,⟨rfl,fun ys hy=>by rw[I.tuple_inj hy hq];exact hx⟩,st',fun b hb=>(hf b hb).1⟩⟩
 done:=by
  intro X hP hw hK hc i pins s σ H E I hf st hg;subst hP hw hK;obtain⟨xs,hq,hx⟩:=hg;obtain⟨its,rv,p,hz⟩:=I.tuple hq;obtain⟨f0,f1,f2,f3,f4,f5⟩:=hf it (by simp);have hl:=rv.length;exact wpAny_pyNext_tuple_end (I.ok.hd hc) st (show s.heap.IsTuple a its.toArray from p) (by simp;omega) fun h' eb=>⟨rfl,I.turned (t':=s.toks) (fun b o hb e=>eb b o hb e) f0 f1 f3 f4 f5⟩
 self:=fun _ _ _ _ _ st h=>wpAny_pyIter_tupleiter st h
theorem zP2{P:Program}{w:World}{K:qA2}{tg:Expr}(it:Addr)(lo:Int)(n:Nat):Turn P w K tg (Itr lo n) [it] it (fun i h=>IsRangeIter h it (lo+(i:Nat)*1) ((n:Int)-(i:Nat)) 1) where
 mem:=by simp
 obj:=fun i h st b hb=>by
  have e:b=it:=by simpa using hb
  subst e;exact⟨_,st,fun v z=>by
   have z':Data.fields _=Data.cell v:=z;cases z'⟩
 keep:=fun i h h' st k=>k it (by simp) _ st
 item:=by
  intro X hP hw hK hc i pins s σ H E I hf st hg;subst hP hw hK;obtain⟨f0,f1,f2,f3,f4,f5⟩:=hf it (by simp);have W:=Walks.range (prog:=X.prog) (w:=X.w) (I.ok.hd hc) it lo 1 n;refine W.item i s _ _ hg st fun v h' tk hv st' kk=>?_
  obtain⟨t,rfl⟩:=hv;have I1:Inv X pins σ H { s with heap:=h',toks:=tk }:=I.turned (fun b o hb e=>kk b o (by simpa using hb) e) f0 f1 f3 f4 f5;refine⟨_,rfl,zTP (s:={ s with heap:=h',toks:=tk }) (n:="range_iterator") st' rfl rfl (by decide) ⟨.int (lo+i),H,I1,⟨t,?_⟩,⟨rfl,rfl⟩,st',fun b hb=>(hf b hb).1⟩⟩;rw[qDh]
 done:=by
  intro X hP hw hK hc i pins s σ H E I hf st hg;subst hP hw hK;obtain⟨f0,f1,f2,f3,f4,f5⟩:=hf it (by simp);exact wpAny_pyNext_range_end (I.ok.hd hc) st (by have:n<=i:=hg;omega) fun h' eb=>⟨rfl,I.turned (t':=s.toks) (fun b o hb e=>eb b o hb e) f0 f1 f3 f4 f5⟩
 self:=fun _ _ _ _ _ st h=>wpAny_pyIter_rangeiter st h
end L2
namespace L2
open PySem PySem.Spec PyProof.Rows
section
variable{X:Cx}{tg:Expr}
theorem zO8{pins:List (Addr×Obj)}{σ:St}{H:Hp}{s:Shared}{R:It->Hp->Prop}{E:Value->Shared->Prop}{lo hi:Int}{t u v:Tok}{tk:Nat}(I:Inv X pins σ H s)(h1:-(2 ^ 62)<=lo)(h2:lo<2 ^ 62)(h3:-(2 ^ 62)<=hi)(h4:hi<2 ^ 62)
  (q:R (Itr lo (hi-lo).toNat) H):wpAny (model X.prog X.w) X.A (pyIter (.ref s.heap.objs.size)) (PIE X pins σ tg R) E { s with heap:=s.heap.push { cls:=.type "range",data:=.fields #[.int lo t,.int hi u,.int 1 v] },toks:=tk }:=by
 refine wpAny_pyIter_range (IsRange.new ..) (small_one h1 h2 h3 h4) ?_;have I1:Inv X pins σ H { s with heap:=s.heap.push { cls:=.type "range",data:=.fields #[.int lo t,.int hi u,.int 1 v] },toks:=tk }:=I.kept fun b o e=>Heap.get?_push_of_some _ e
 refine⟨(s.heap.push { cls:=.type "range",data:=.fields #[.int lo t,.int hi u,.int 1 v] }).objs.size,[(s.heap.push { cls:=.type "range",data:=.fields #[.int lo t,.int hi u,.int 1 v] }).objs.size],_,_,H,rfl,
  I1.kept (t':=tk) fun b o e=>Heap.get?_push_of_some _ e,zP2 _ lo (hi-lo).toNat,?_,fun b hb=>?_,q⟩
 ·have e1:lo+((0:Nat):Int)*1=lo:=by simp
  have e2:(((hi-lo).toNat:Nat):Int)-((0:Nat):Int)=Builtin.Range.rangeSize lo hi 1:=by rw[rangeSize_one];split<;>omega
  show IsRangeIter _ _ (lo+((0:Nat):Int)*1) ((((hi-lo).toNat:Nat):Int)-((0:Nat):Int)) 1;rw[e1,e2];exact Heap.get?_push_size _ rfl
 ·have e:b=(s.heap.push { cls:=.type "range",data:=.fields #[.int lo t,.int hi u,.int 1 v] }).objs.size:=by simpa using hb
  subst e;exact I1.fpOk (qA7 _) (I1.hok.fresh (qA7 _))
def zZG(ta:TA):TI:=fun σ H R=>ta σ H fun vs H1=>∃j:Int,vs=[.int j]/\-(2 ^ 62)<=j/\j<2 ^ 62/\R (Itr 0 j.toNat) H1
def zZF(ta:TA):TI:=fun σ H R=>ta σ H fun vs H1=>∃i j:Int,vs=[.int i,.int j]/\(-(2 ^ 62)<=i/\i<2 ^ 62/\-(2 ^ 62)<=j/\j<2 ^ 62)/\R (Itr i (j-i).toNat) H1
theorem zAS{a:Expr}{ta:TA}{p pos:Pos}(hg:Gl X "range")(hm:X.mg "range" = none)(ha:PA X [a] ta)(hs:starEach [a] X.env=[(false,eval a X.env)]:=by rfl):PI X tg (.Call (.Name "range" p) [a] [] pos) (zZG ta):=by
 intro pins s σ H R I h;refine Call_ (zIB I hg hm boot_range (qB8 (thn (ha pos pins s σ H _ I h) fun us s1 z0=>?_) hs rfl));obtain⟨vs,H1,I1,r1,q1⟩:=z0;obtain⟨j,e,q1,q2,q⟩:=q1;subst e;cases r1 with
 |cons r rr=>
  cases rr;obtain⟨t,rfl⟩:=r;exact call_range_1 (zO8 I1 (by omega) (by omega) q1 q2 (by simpa using q))
theorem zQY{a b:Expr}{ta:TA}{p pos:Pos}(hg:Gl X "range")(hm:X.mg "range" = none)(ha:PA X [a,b] ta)(hs:starEach [a,b] X.env=[(false,eval a X.env),(false,eval b X.env)]:=by rfl)(hs2:starEach [b] X.env=[(false,eval b X.env)]:=by rfl) :
  PI X tg (.Call (.Name "range" p) [a,b] [] pos) (zZF ta):=by
 intro pins s σ H R I h;refine Call_ (zIB I hg hm boot_range (qB8 (thn (ha pos pins s σ H _ I h) fun us s1 z0=>?_) (by rw[hs,hs2]) (by rw[hs2];rfl)));obtain⟨vs,H1,I1,r1,q1⟩:=z0;obtain⟨i,j,e,⟨q1,q2,q3,q4⟩,q⟩:=q1;subst e;cases r1 with
 |cons r rr=>
  cases rr with
  |cons r' rr=>
   cases rr;obtain⟨t,rfl⟩:=r;obtain⟨t',rfl⟩:=r';exact call_range_2 (zO8 I1 q1 q2 q3 q4 q)
noncomputable def tFor(wi:TI)(g:TG)(tb:TS):TS:=fun D σ H=>wi σ H fun J H1=>∃W:Nat->Nat->St->Hp->Prop,(∃m,W 0 m σ H1)/\∀i m σ H,W i m σ H ->
 (J.stop i H/\D.nx σ H)\/(J.go i H/\∃N:St->Hp->Prop,(∀σ' H',N σ' H'->∃m',m'<m/\W (i+1) m' σ' H')/\∀x H',J.yld i H x H'->g x σ H' fun σ2 H2=>tb { D with nx:=N,ct:=N,bk:=D.nx } σ2 H2)
noncomputable def zJD(fp:List Addr)(h:Heap):List (Addr×Obj):=fp.filterMap fun b=>(h.get? b).map fun o=>(b,o)
theorem zF3{fp:List Addr}{h:Heap}{b:Addr}{o:Obj}(hb:b∈fp)(e:h.get? b=some o):(b,o)∈zJD fp h:=qEs.mpr ⟨b,hb,by rw[e];rfl⟩
theorem zR6{fp:List Addr}{h:Heap}{p:Addr×Obj}(hp:p∈zJD fp h):p.1∈fp/\h.get? p.1=some p.2:=by
 obtain⟨b,hb,e⟩:=qEs.mp hp;cases q:h.get? b with
 |none=>rw[q]at e;cases e
 |some o=>
  rw[q]at e;have e':(b,o)=p:=qAz e;subst e';exact⟨hb,q⟩
theorem Inv.pinned{pins:List (Addr×Obj)}{σ:St}{H:Hp}{s:Shared}{fp:List Addr}(I:Inv X pins σ H s)(hf:∀b∈fp,FpOk X pins H b)(ho:∀b∈fp,∃o,s.heap.get? b=some o/\∀v,o.data≠.cell v):Inv X (pins++zJD fp s.heap) σ H s:=
 I.pins_of fun p hp=>(qAv.mp hp).elim (fun z=>I.pin p (qAt _ z)) fun z=>by
  obtain⟨hb,e⟩:=zR6 z;obtain⟨f0,f1,f2,_⟩:=hf p.1 hb;obtain⟨o,e',d⟩:=ho p.1 hb;rw[e]at e';cases e';exact⟨e,f0,f1,f2,d⟩
theorem Inv.unpinned{pins pl:List (Addr×Obj)}{σ:St}{H:Hp}{s:Shared}(I:Inv X (pins++pl) σ H s):Inv X pins σ H s:=I.pins_of fun p hp=>I.pin p (qAt _ (qBh _ hp))
theorem zYJ{iter:Expr}{body:List Stmt}{wi:TI}{g:TG}{tb:TS}{pos:Pos}(hp:PassesOwn (model X.prog X.w) X.A X.env X.xe)(hc:X.calm=true)(hi:PI X tg iter wi)(hg:PG X tg g)(hb:PSs X body tb)
  (hs:∀x,foldedSetIterable iter X.env x=pure x:=by intro _;rfl):PS X (.For tg iter body [] pos) (tFor wi g tb):=by
 intro pins s σ H D I h;refine wpAny_For (thn (hi pins s σ H _ I h) fun v s1 h1=>thn h1 fun itv s2 h2=>?_) hs;obtain⟨it,fp,tn,J,H2,e,I2,T,st2,f2,W,⟨m0,w0⟩,turn⟩:=h2;subst e;have stat:∀{H':Hp},(∀b∈fp,H' b=none)->∀b∈fp,FpOk X pins H' b:=fun hn b hb=>⟨hn b hb,(f2 b hb).2⟩
 refine codeAny_forLoop_any (fun n s'=>∃i σ' H',Inv X pins σ' H' s'/\tn i s'.heap/\(∀b∈fp,H' b=none)/\W i n σ' H') ?_ m0 ⟨0,σ,H2,I2,st2,fun b hb=>(f2 b hb).1,w0⟩
 rintro n s3 ⟨i,σ3,H3,I3,st3,fr3,w3⟩
 rcases turn i n σ3 H3 w3 with⟨stop,qn⟩|⟨go,N,hN,step⟩
 ·refine wpAny_passesOwn hp (thn (T.done X rfl rfl rfl hc i pins s3 σ3 H3 X.xe I3 (stat fr3) st3 stop) fun r s4 z0=>?_);obtain⟨hr,I4⟩:=z0;subst hr;exact wpAny_execs_nil ⟨σ3,H3,I4,qn⟩
 ·refine wpAny_passesOwn hp (thn (T.item X rfl rfl rfl hc i pins s3 σ3 H3 X.xe I3 (stat fr3) st3 go) fun r s4 z0=>?_);obtain⟨u,hr,h4⟩:=z0;subst hr;refine wpAny_passesOwn hp (thn h4 fun _ s5 z0=>?_);obtain⟨x,H5,I5,r5,y5,st5,fr5⟩:=z0;have I5':=I5.pinned (stat fr5) (T.obj _ _ st5);refine wpAny_passesOwn hp (thn (hg _ s5 σ3 H5 x u _ I5' r5 (step x H5 y5)) fun _ s6 z0=>?_);obtain⟨σ6,H6,I6,q6⟩:=z0;refine wpAny_passesOwn hp (thn (hb _ s6 σ6 H6 _ I6 q6) fun f s7 q7=>?_);have again:∀{σ7:St}{H7:Hp},Inv X (pins++zJD fp s5.heap) σ7 H7 s7->N σ7 H7->∃m,m<n/\∃i σ' H',Inv X pins σ' H' s7/\tn i s7.heap/\(∀b∈fp,H' b=none)/\W i m σ' H':=fun{σ7 H7} I7 n7=>by
   obtain⟨m',hm,w7⟩:=hN σ7 H7 n7;refine⟨m',hm,i+1,σ7,H7,I7.unpinned,T.keep _ _ _ st5 fun b hb o e=>(I7.pin (b,o) (qAt _ (qAt _ (zF3 hb e)))).1,fun b hb=>?_,w7⟩;obtain⟨o,e,d⟩:=T.obj _ _ st5 b hb;exact(I7.pin (b,o) (qAt _ (qAt _ (zF3 hb e)))).2.1
  cases f with
  |next=>obtain⟨σ7,H7,I7,n7⟩:=q7;exact again I7 n7
  |cont=>obtain⟨σ7,H7,I7,n7⟩:=q7;exact again I7 n7
  |brk=>obtain⟨σ7,H7,I7,q7⟩:=q7;exact⟨σ7,H7,I7.unpinned,q7⟩
  |ret v=>obtain⟨x7,σ7,H7,I7,r7,q7⟩:=q7;exact⟨x7,σ7,H7,I7.unpinned,r7,q7⟩
end
end L2
namespace L2
open PySem PySem.Spec PyProof.Rows
abbrev R2:=V->V->Hp->VK->Prop
def OpR(X:Cx)(f:Value->Value->Sem Value)(r:R2):Prop:=
 ∀(pins:List (Addr×Obj))(s:Shared)(σ:St)(H:Hp)(x y:V)(v u:Value)(Q:VK),Inv X pins σ H s->RelV x v->RelV y u->r x y H Q ->
  wpAny (model X.prog X.w) X.A (f v u) (EP X pins σ Q) X.xe s
def UnR(X:Cx)(f:Value->Sem Value)(r:V->Hp->VK->Prop):Prop:=
 ∀(pins:List (Addr×Obj))(s:Shared)(σ:St)(H:Hp)(x:V)(v:Value)(Q:VK),Inv X pins σ H s->RelV x v->r x H Q ->
  wpAny (model X.prog X.w) X.A (f v) (EP X pins σ Q) X.xe s
def zDL(X:Cx)(f:Value)(r:List V->Hp->VK->Prop):Prop:=
 ∀(pins:List (Addr×Obj))(s:Shared)(σ:St)(H:Hp)(xs:List V)(us:List Value)(Q:VK),Inv X pins σ H s->Vals xs us->r xs H Q ->
  wpAny (model X.prog X.w) X.A (call f us) (EP X pins σ Q) X.xe s
def TruR(X:Cx)(r:V->Hp->(Bool->Hp->Prop)->Prop):Prop:=
 ∀(pins:List (Addr×Obj))(s:Shared)(σ:St)(H:Hp)(x:V)(v:Value)(Q:Bool->Hp->Prop),Inv X pins σ H s->RelV x v->r x H Q ->
  wpAny (model X.prog X.w) X.A (truthy v) (TP X pins σ Q) X.xe s
noncomputable def tOp(r:R2)(ta tb:TE):TE:=fun σ H Q=>ta σ H fun x H1=>tb σ H1 fun y H2=>r x y H2 Q
noncomputable def tUn(r:V->Hp->VK->Prop)(ta:TE):TE:=fun σ H Q=>ta σ H fun x H1=>r x H1 Q
noncomputable def rI(C:Int->Int->Prop)(g:Int->Int->V):R2:=fun x y H Q=>∃i j,x=.int i/\y=.int j/\C i j/\Q (g i j) H
noncomputable def rI0(g:Int->Int->V):R2:=fun x y H Q=>∃i j,x=.int i/\y=.int j/\Q (g i j) H
def rU(g:Int->V):V->Hp->VK->Prop:=fun x H Q=>∃i,x=.int i/\Q (g i) H
section
variable{X:Cx}{a b c:Expr}{ta tb tc:TE}{pos:Pos}
theorem binT(ha:PE X a ta)(hb:PE X b tb){pins:List (Addr×Obj)}{s:Shared}{σ:St}{H:Hp}{R:V->V->Hp->Prop}(I:Inv X pins σ H s)
  (h:ta σ H fun x H1=>tb σ H1 fun y H2=>R x y H2) {Q:Value->Shared->Prop} {f:Value->Value->Sem Value}
  (hf:∀v u s2 x y H2,Inv X pins σ H2 s2->RelV x v->RelV y u->R x y H2->wpAny (model X.prog X.w) X.A (f v u) Q X.xe s2) :
  wpAny (model X.prog X.w) X.A (eval a X.env) (fun v s₁=>wpAny (model X.prog X.w) X.A (eval b X.env) (fun u s₂=>wpAny (model X.prog X.w) X.A (f v u) Q X.xe s₂) X.xe s₁) X.xe s:=by
 refine thn (ha pins s σ H _ I h) fun v s1 z0=>?_
 obtain⟨x,H1,I1,r1,q1⟩:=z0;refine thn (hb pins s1 σ H1 _ I1 q1) fun u s2 z0=>?_
 obtain⟨y,H2,I2,r2,q2⟩:=z0;exact hf v u s2 x y H2 I2 r1 r2 q2
theorem zAI{op:Operator}{r:R2}(ho:OpR X (binaryOp op) r)(ha:PE X a ta)(hb:PE X b tb):PE X (.BinOp a op b pos) (tOp r ta tb):=by
 intro pins s σ H Q I h;exact wpAny_BinOp (binT ha hb I h fun v u s2 x y H2 I2 rx ry q=>ho pins s2 σ H2 x y v u Q I2 rx ry q)
theorem zYM{op:UnaryOp}{r:V->Hp->VK->Prop}(ho:UnR X (unaryOp op) r)(ha:PE X a ta):PE X (.UnaryOp op a pos) (tUn r ta):=by
 intro pins s σ H Q I h;exact UnaryOp_ (thn (ha pins s σ H _ I h) fun v s1 ⟨x,H1,I1,r1,q1⟩=>ho pins s1 σ H1 x v Q I1 r1 q1)
theorem opI{f:Value->Value->Sem Value}{C:Int->Int->Prop}{g:Int->Int->Int}
  (rule:∀(i j:Int)(t u:Tok)(s:Shared)(Q:Value->Shared->Prop)(E:Value->Shared->Prop),C i j->Q (.int (g i j) s.toks) { s with toks:=s.toks+1 }->wpAny (model X.prog X.w) X.A (f (.int i t) (.int j u)) Q E s) :
  OpR X f (rI C fun i j=>.int (g i j)):=by
 intro pins s σ H x y v u Q I rx ry h;obtain⟨i,j,rfl,rfl,hc,q⟩:=h;obtain⟨t,rfl⟩:=rx;obtain⟨t',rfl⟩:=ry;exact rule i j t t' s _ _ hc ⟨.int (g i j),H,I.tok _,⟨_,rfl⟩,q⟩
theorem opI0{f:Value->Value->Sem Value}{g:Int->Int->Int}
  (rule:∀(i j:Int)(t u:Tok)(s:Shared)(Q:Value->Shared->Prop)(E:Value->Shared->Prop),Q (.int (g i j) s.toks) { s with toks:=s.toks+1 }->wpAny (model X.prog X.w) X.A (f (.int i t) (.int j u)) Q E s) :
  OpR X f (rI0 fun i j=>.int (g i j)):=by
 intro pins s σ H x y v u Q I rx ry h;obtain⟨i,j,rfl,rfl,q⟩:=h;obtain⟨t,rfl⟩:=rx;obtain⟨t',rfl⟩:=ry;exact rule i j t t' s _ _ ⟨.int (g i j),H,I.tok _,⟨_,rfl⟩,q⟩
theorem opB0{f:Value->Value->Sem Value}{g:Int->Int->Bool}
  (rule:∀(i j:Int)(t u:Tok)(s:Shared)(Q:Value->Shared->Prop)(E:Value->Shared->Prop),Q (.bool (g i j)) s->wpAny (model X.prog X.w) X.A (f (.int i t) (.int j u)) Q E s) :
  OpR X f (rI0 fun i j=>.bl (g i j)):=by
 intro pins s σ H x y v u Q I rx ry h;obtain⟨i,j,rfl,rfl,q⟩:=h;obtain⟨t,rfl⟩:=rx;obtain⟨t',rfl⟩:=ry;exact rule i j t t' s _ _ ⟨.bl (g i j),H,I,rfl,q⟩
def CPow(i j:Int):Prop:=0<=j/\j<=1000000/\i.natAbs<2 ^ 64
def CMul(i j:Int):Prop:=(-(2 ^ 64)<i/\i<2 ^ 64)\/(-(2 ^ 64)<j/\j<2 ^ 64)
theorem CMul.ok{i j:Int}(h:CMul i j):IntMulOk i j:=by
 rcases h with⟨h1,h2⟩|⟨h1,h2⟩
 ·exact .of_left (intBits_le_64 h1 h2)
 ·exact .of_right (intBits_le_64 h1 h2)
theorem zYX:OpR X (binaryOp .Add) (rI0 fun i j=>.int (i+j)):=opI0 fun _ _ _ _ _ _ _ q=>add_int q
theorem zYP:OpR X (binaryOp .Sub) (rI0 fun i j=>.int (i-j)):=opI0 fun _ _ _ _ _ _ _ q=>sub_int q
theorem zYT:OpR X (binaryOp .Mod) (rI (fun _ j=>0<j) fun i j=>.int (i%j)):=opI fun i j _ _ _ _ _ hc q=>by
 have h1:(0:Int)<j:=hc;exact mod_int' (by omega) (by rw[Int.fmod_eq_emod_of_nonneg i (by omega)];exact q)
theorem zYR:OpR X (binaryOp .Pow) (rI CPow fun i j=>.int (i ^ j.toNat)):=opI fun _ _ _ _ _ _ _ hc q=>pow_int_small hc.1 hc.2.1 hc.2.2 q
theorem zYO:OpR X (binaryOp .BitXor) (rI0 fun i j=>.int (Builtin.bitXor i j)):=opI0 fun _ _ _ _ _ _ _ q=>xor_int q
theorem unI{f:Value->Sem Value}{g:Int->Int}
  (rule:∀(i:Int)(t:Tok)(s:Shared)(Q:Value->Shared->Prop)(E:Value->Shared->Prop),Q (.int (g i) s.toks) { s with toks:=s.toks+1 }->wpAny (model X.prog X.w) X.A (f (.int i t)) Q E s) :
  UnR X f (rU fun i=>.int (g i)):=by
 intro pins s σ H x v Q I rx h;obtain⟨i,rfl,q⟩:=h;obtain⟨t,rfl⟩:=rx;exact rule i t s _ _ ⟨.int (g i),H,I.tok _,⟨_,rfl⟩,q⟩
theorem zXK:UnR X (unaryOp .USub) (rU fun i=>.int (-i)):=unI fun _ _ _ _ _ q=>neg_int q
end
noncomputable def scal:V->V->Bool
 |.non,.non=>true | .non,.int _=>true | .int _,.non=>true | .non,.bl _=>true | .bl _,.non=>true | .non,.str _=>true | .str _,.non=>true
 |.int _,.int _=>true | .bl _,.bl _=>true | .str _,.str _=>true | .byt _,.byt _=>true
 |.int _,.str _=>true | .str _,.int _=>true | .bl _,.str _=>true | .str _,.bl _=>true
 |_,_=>false
def rEq:R2:=fun x y H Q=>scal x y=true/\Q (.bl (decide (x=y))) H
def rNe:R2:=fun x y H Q=>scal x y=true/\Q (.bl (!decide (x=y))) H
theorem zS0{i j:Int}:decide (V.int i=V.int j)=(i==j):=by
 rw[qDi];simp
theorem dec_bl{i j:Bool}:decide (V.bl i=V.bl j)=(i==j):=by
 rw[qDi];simp
theorem zRZ{i j:Str}:decide (V.str i=V.str j)=(i==j):=by
 rw[qDi];simp
theorem zS1{i j:Array UInt8}:decide (V.byt i=V.byt j)=(i.toList==j.toList):=by
 rw[qDi];cases i;cases j;simp
section
variable{X:Cx}{a b c:Expr}{ta tb tc:TE}{pos:Pos}
theorem fin_bl{pins:List (Addr×Obj)}{σ:St}{H:Hp}{s:Shared}{Q:VK}{k k':Bool}(I:Inv X pins σ H s)(q:Q (.bl k) H)(e:k=k'):EP X pins σ Q (.bool k') s:=by
 subst e;exact⟨.bl k,H,I,rfl,q⟩
theorem zaG:OpR X (compareOp .Eq) rEq:=by
 intro pins s σ H x y v u Q I rx ry h;obtain⟨hs,q⟩:=h;cases x with
 |non=>
  cases rx;cases y with
  |non=>cases ry;exact qFw (fin_bl I q (by simp))
  |bl j=>cases ry;exact qFx (fin_bl I q (by simp))
  |int j=>obtain⟨t',rfl⟩:=ry;exact qG8 (fin_bl I q (by simp))
  |str j=>obtain⟨t',rfl⟩:=ry;exact qG9 (fin_bl I q (by simp))
  |_=>exact absurd (show false=true from hs) qAc
 |bl i=>
  cases rx;cases y with
  |non=>cases ry;exact qFy (fin_bl I q (by simp))
  |bl j=>cases ry;exact eq_bool (fin_bl I q dec_bl)
  |str j=>obtain⟨t',rfl⟩:=ry;exact qFz (fin_bl I q (by simp))
  |_=>exact absurd (show false=true from hs) qAc
 |int i=>
  obtain⟨t,rfl⟩:=rx;cases y with
  |non=>cases ry;exact qGa (fin_bl I q (by simp))
  |int j=>obtain⟨t',rfl⟩:=ry;exact eq_int (fin_bl I q zS0)
  |str j=>obtain⟨t',rfl⟩:=ry;exact qGb (fin_bl I q (by simp))
  |_=>exact absurd (show false=true from hs) qAc
 |str i=>
  obtain⟨t,rfl⟩:=rx;cases y with
  |non=>cases ry;exact qGc (fin_bl I q (by simp))
  |bl j=>cases ry;exact qG0 (fin_bl I q (by simp))
  |int j=>obtain⟨t',rfl⟩:=ry;exact qGd (fin_bl I q (by simp))
  |str j=>obtain⟨t',rfl⟩:=ry;exact eq_str (fin_bl I q zRZ)
  |_=>exact absurd (show false=true from hs) qAc
 |byt i=>
  obtain⟨t,rfl⟩:=rx;cases y with
  |byt j=>obtain⟨t',rfl⟩:=ry;exact PySem.W.eq_bytes (fin_bl I q zS1)
  |_=>exact absurd (show false=true from hs) qAc
 |_=>cases y<;>exact absurd (show false=true from hs) qAc
theorem zaD:OpR X (compareOp .NotEq) rNe:=by
 intro pins s σ H x y v u Q I rx ry h;obtain⟨hs,q⟩:=h;cases x with
 |non=>
  cases rx;cases y with
  |non=>cases ry;exact qG1 (fin_bl I q (by simp))
  |bl j=>cases ry;exact qG2 (fin_bl I q (by simp))
  |int j=>obtain⟨t',rfl⟩:=ry;exact qGe (fin_bl I q (by simp))
  |str j=>obtain⟨t',rfl⟩:=ry;exact qGf (fin_bl I q (by simp))
  |_=>exact absurd (show false=true from hs) qAc
 |bl i=>
  cases rx;cases y with
  |non=>cases ry;exact qG3 (fin_bl I q (by simp))
  |bl j=>cases ry;exact ne_bool (fin_bl I q (congrArg not dec_bl))
  |str j=>obtain⟨t',rfl⟩:=ry;exact qG4 (fin_bl I q (by simp))
  |_=>exact absurd (show false=true from hs) qAc
 |int i=>
  obtain⟨t,rfl⟩:=rx;cases y with
  |non=>cases ry;exact qGg (fin_bl I q (by simp))
  |int j=>obtain⟨t',rfl⟩:=ry;exact ne_int (fin_bl I q (congrArg not zS0))
  |str j=>obtain⟨t',rfl⟩:=ry;exact qGh (fin_bl I q (by simp))
  |_=>exact absurd (show false=true from hs) qAc
 |str i=>
  obtain⟨t,rfl⟩:=rx;cases y with
  |non=>cases ry;exact qGi (fin_bl I q (by simp))
  |bl j=>cases ry;exact qG5 (fin_bl I q (by simp))
  |int j=>obtain⟨t',rfl⟩:=ry;exact qGj (fin_bl I q (by simp))
  |str j=>obtain⟨t',rfl⟩:=ry;exact ne_str (fin_bl I q (congrArg not zRZ))
  |_=>exact absurd (show false=true from hs) qAc
 |byt i=>
  obtain⟨t,rfl⟩:=rx;cases y with
  |byt j=>obtain⟨t',rfl⟩:=ry;exact PySem.W.ne_bytes (fin_bl I q (congrArg not zS1))
  |_=>exact absurd (show false=true from hs) qAc
 |_=>cases y<;>exact absurd (show false=true from hs) qAc
theorem zaE:OpR X (compareOp .Lt) (rI0 fun i j=>.bl (decide (i<j))):=opB0 fun _ _ _ _ _ _ _ q=>lt_int q
theorem zaF:OpR X (compareOp .Gt) (rI0 fun i j=>.bl (decide (j<i))):=opB0 fun _ _ _ _ _ _ _ q=>gt_int q
theorem zR1:OpR X (compareOp .In) (fun x y H Q=>∃i j,x=.str i/\y=.str j/\Q (.bl (!(Builtin.Str.occurrences j i 0 j.length 1).isEmpty)) H):=by
 intro pins s σ H x y v u Q I rx ry h;obtain⟨i,j,rfl,rfl,q⟩:=h;obtain⟨t,rfl⟩:=rx;obtain⟨t',rfl⟩:=ry;exact in_str (fin_bl I q rfl)
theorem zYU:OpR X (compareOp .Is) (fun x y H Q=>y=.non/\Q (.bl (decide (x=.non))) H):=by
 intro pins s σ H x y v u Q I rx ry h;obtain⟨rfl,q⟩:=h;cases ry;refine is_none_gen (fin_bl I q ?_);cases x<;>first
  |(cases rx;rfl)
  |(obtain⟨t,rfl⟩:=rx;rfl)
theorem zAX(b:Expr){op:CmpOp}(h:op≠.In:=by decide)(h2:op≠.NotIn:=by decide):behindInMarks op b=false:=by
 have e1:(op==CmpOp.In)=false:=by cases op<;>first|rfl|exact absurd rfl h
 have e2:(op==CmpOp.NotIn)=false:=by cases op<;>first|rfl|exact absurd rfl h2
 cases b<;>simp[behindInMarks,e1,e2]
theorem zDB{op:CmpOp}{r:R2}(ho:OpR X (compareOp op) r)(ha:PE X a ta)(hb:PE X b tb)(hm:behindInMarks op b=false):PE X (.Compare a [op] [b] pos) (tOp r ta tb):=by
 intro pins s σ H Q I h;exact wpAny_Compare1 (binT ha hb I h fun v u s2 x y H2 I2 rx ry q=>ho pins s2 σ H2 x y v u Q I2 rx ry q) hm
def TruV(K:qA2)(x:V)(H:Hp)(k:Bool):Prop:=
 match x with
 |.non=>k=false
 |.bl b=>k=b
 |.int i=>k=(i != 0)
 |.str y=>y.length<=sizeLine/\k=((y.length:Int) != 0)
 |.byt y=>y.size<=sizeLine/\k=((y.size:Int) != 0)
 |.ref p=>(∃xs,SqL K H p xs/\k = !xs.isEmpty)\/(∃xs,SqT K H p xs/\k = !xs.isEmpty)\/∃kvs,H p=some (.dK kvs)/\k = !kvs.isEmpty
 |_=>False
theorem zPI{κ:Type}{kvs:List (κ×V)}{vs:List (κ×Value)}(r:KV kvs vs):(!vs.isEmpty) = !kvs.isEmpty:=by
 cases r<;>rfl
theorem zJJ{xs:List V}{its:List Value}(r:Vals xs its):(!its.toArray.isEmpty) = !xs.isEmpty:=by
 cases r<;>simp
theorem zIA:(sizeLine:Nat)<2 ^ 63:=by rw[sizeLine_eq];decide
theorem zUD:TruR X (fun x H Q=>∃k,TruV X.K x H k/\Q k H):=by
 intro pins s σ H x v Q I rx h;obtain⟨k,e,q⟩:=h;have hl:=zIA;have hs:sizeLine=16777216:=sizeLine_eq;cases x with
 |non=>
  cases rx;have e':k=false:=e;subst e';exact truthy_none ⟨H,I,q⟩
 |bl b=>
  cases rx;have e':k=b:=e;subst e';exact wpAny_truthy_bool ⟨H,I,q⟩
 |int i=>
  obtain⟨t,rfl⟩:=rx;have e':k=(i != 0):=e;subst e';exact PySem.P.truthy_int ⟨H,I,q⟩
 |str y=>
  obtain⟨t,rfl⟩:=rx;obtain⟨hy,e'⟩:y.length<=sizeLine/\k=((y.length:Int) != 0):=e;subst e';exact PySem.P.truthy_str (by omega) ⟨H,I.tok _,q⟩
 |byt y=>
  obtain⟨t,rfl⟩:=rx;obtain⟨hy,e'⟩:y.size<=sizeLine/\k=((y.size:Int) != 0):=e;subst e';exact PySem.W.truthy_bytes (by omega) ⟨H,I.tok _,q⟩
 |ref p=>
  cases rx;have e':(∃xs,SqL X.K H p xs/\k = !xs.isEmpty)\/(∃xs,SqT X.K H p xs/\k = !xs.isEmpty)\/∃kvs,H p=some (.dK kvs)/\k = !kvs.isEmpty:=e
  rcases e' with⟨xs,hx,e'⟩|⟨xs,hx,e'⟩|⟨kvs,hx,e'⟩
  ·subst e';obtain⟨its,r,pl,hz⟩:=I.list hx;have hlen:=r.length;exact wpAny_truthy_list pl.isList (by simp only[qAh];omega) ⟨H,I.tok _,by rw[zJJ r];exact q⟩
  ·subst e';obtain⟨its,r,pl,hz⟩:=I.tuple hx;have hlen:=r.length;exact truthy_tuple pl (by simp only[qAh];omega) ⟨H,I.tok _,by rw[zJJ r];exact q⟩
  ·subst e';obtain⟨hz,hS,vs,r,m⟩:kvs.length<=sizeLine/\(p==sysModules)=false/\∃vs,KV kvs vs/\s.heap.DictOf (zN7 X.prog X.w) p vs:=I.hok p _ hx;have hlen:kvs.length=vs.length:=Paired.length r;exact wpAny_truthy_dict hS m (by omega) ⟨H,I.tok _,by rw[zPI r];exact q⟩
 |_=>exact(show False from e).elim
theorem zP9:OpR X (binaryOp .Add) (fun x y H Q=>∃i j,x=.str i/\y=.str j/\i.length+j.length<=sizeLine/\Q (.str (i++j)) H):=by
 intro pins s σ H x y v u Q I rx ry h;obtain⟨i,j,rfl,rfl,hz,q⟩:=h;obtain⟨t,rfl⟩:=rx;obtain⟨t',rfl⟩:=ry;exact add_str (fun t' tk=>⟨.str (i++j),H,I.tok _,⟨_,rfl⟩,q⟩) hz
theorem zFL{x:V}{us:List Value}(r:Vals [x] us):∃u,us=[u]/\RelV x u:=by
 cases r with
 |cons r1 r2=>cases r2;exact⟨_,rfl,r1⟩
theorem zSJ{x y:V}{us:List Value}(r:Vals [x,y] us):∃u w',us=[u,w']/\RelV x u/\RelV y w':=by
 cases r with
 |cons r1 r2=>
  cases r2 with
  |cons r3 r4=>cases r4;exact⟨_,_,rfl,r1,r3⟩
theorem zU4:zDL X (.builtin "abs") (fun xs H Q=>∃i,xs=[.int i]/\Q (.int (if i<0 then -i else i)) H):=by
 intro pins s σ H xs us Q I r h;obtain⟨i,rfl,q⟩:=h;obtain⟨u,rfl,t,rfl⟩:=zFL r;exact call_abs_int fun u tk=>⟨.int (if i<0 then -i else i),H,I.tok _,⟨_,rfl⟩,q⟩
theorem zM8(hc:X.calm=true):zDL X (.builtin "max") (fun xs H Q=>∃i j,xs=[.int i,.int j]/\Q (.int (if j>i then j else i)) H):=by
 intro pins s σ H xs us Q I r h;obtain⟨i,j,rfl,q⟩:=h;obtain⟨u,w',rfl,⟨t,rfl⟩,⟨t',rfl⟩⟩:=zSJ r;refine max_two_ints (I.ok.hd hc) fun h' tk k=>⟨_,H,I.kept k,?_,q⟩
 by_cases hj:j>i
 ·rw[if_pos hj,if_pos hj];exact⟨_,rfl⟩
 ·rw[if_neg hj,if_neg hj];exact⟨_,rfl⟩
theorem zM7(hc:X.calm=true):zDL X (.builtin "min") (fun xs H Q=>∃i j,xs=[.int i,.int j]/\Q (.int (if j<i then j else i)) H):=by
 intro pins s σ H xs us Q I r h;obtain⟨i,j,rfl,q⟩:=h;obtain⟨u,w',rfl,⟨t,rfl⟩,⟨t',rfl⟩⟩:=zSJ r;refine min_two_ints (I.ok.hd hc) fun h' tk k=>⟨_,H,I.kept k,?_,q⟩
 by_cases hj:j<i
 ·rw[if_pos hj,if_pos hj];exact⟨_,rfl⟩
 ·rw[if_neg hj,if_neg hj];exact⟨_,rfl⟩
theorem zMC:zDL X (.type "int") (fun xs H Q=>(∃i,xs=[.int i]/\Q (.int i) H)\/∃k,xs=[.bl k]/\Q (.int (if k then 1 else 0)) H):=by
 intro pins s σ H xs us Q I r h
 rcases h with⟨i,rfl,q⟩|⟨k,rfl,q⟩
 ·obtain⟨u,rfl,t,rfl⟩:=zFL r;exact call_int_int ⟨.int i,H,I,⟨_,rfl⟩,q⟩
 ·obtain⟨u,rfl,r1⟩:=zFL r;cases r1;exact call_int_bool ⟨.int (if k then 1 else 0),H,I.tok _,⟨_,rfl⟩,q⟩
end
end L2
namespace L2
open PySem PySem.Spec PyProof.Rows
structure ObjM(h:Heap)(x dx C:Addr)(mA:Str->Option Value):Prop where
 obj:h.get? x=some (qEc C dx)
 ns:h.Ns1 dx mA
 ne:dx≠x
theorem zRB{h:Heap}{dx:Addr}{mA:Str->Option Value}(n:h.Ns1 dx mA):∃od,h.get? dx=some od/\∀name,qEp name od=some (mA name):=by
 obtain⟨o,es,ep,ho,hd,hk,_,hm⟩:=n;refine⟨o,ho,fun name=>?_⟩;have e:=hm name;unfold nsFind findBy at e;rw[<- Array.find?_toList]at e;unfold qEp;rw[hd];dsimp only
 split
 ·rename_i y q
  rw[q]at e;exact congrArg some e
 ·rename_i q
  rw[q]at e;have a:es.toList.any (·.refKey)=false:=by
   rw[qBu];intro y hy;obtain⟨z,t,hkey⟩:=hk y (Array.mem_toList_iff.mp hy);simp[DictEntry.refKey,hkey]
  have a':¬es.toList.any (·.refKey)=true:=by rw[a];exact qAc
  rw[if_neg a'];exact congrArg some e
theorem ObjM.look{h:Heap}{x dx C:Addr}{mA:Str->Option Value}(I:ObjM h x dx C mA):∃od,PySem.W.InstAt h x (qEc C dx) C (some od)/\∀name,qEp name od=some (mA name):=
 let⟨od,ho,hl⟩:=zRB I.ns
 ⟨od,⟨I.obj,rfl,rfl,ho⟩,hl⟩
section
variable{prog:Program}{w:World}{A:Around}{E:Value->Shared->Prop}{s:Shared}{K:qA2}{x dx C f:Addr}{mA:Str->Option Value}{name:Str}{v:Value}
end
section
variable{P:Program}{w:World}{H H':Hp}{h h':Heap}{a C dx:Addr}{fs fs':List (Str×V)}
theorem zWS(hok:HOk P w H h)(e:H a=some (.ins C dx fs)):∃mA,ObjM h a dx C mA/\(∀f,RelO (fs.lookup f) (mA f))/\qGw mA (fs.map (·.1))/\fs.length<=1000/\H dx=some (.own a):=by
 obtain⟨d,z,ne,ob,mA,n,r,q⟩:=(show ObjOk P w H h a (.ins C dx fs) from hok a _ e)
 exact⟨mA,⟨ob,n,ne⟩,r,q,z,d⟩
end
structure Cls(K:qA2)(C:Addr):Prop where
 pg:qFd K C Str.empty=true
 hd:PySem.W.hasDictIn K C=true
 po:PySem.W.plainOver K C=true
 sa:qB3 K (.ref C) "__setattr__" = some (some (.builtin "object.__setattr__"))
theorem Cls.get{K:qA2}{C:Addr}(c:Cls K C)(f:Str):qFd K C f=true:=c.pg
def zVG(K:qA2)(C:Addr)(f:Str):Prop:=qB3 K (.ref C) f=some none
structure Con(K:qA2)(C:Addr)(f:Str)(v:V)(u:Value):Prop where
 at_:qB3 K (.ref C) f=some (some u)
 rel:RelV v u
 get:qD1 K u "__get__" = some none
 cp:PySem.W.copiedNames.contains f=false
structure Meth(K:qA2)(C:Addr)(m:Str)(f:Addr):Prop where
 at_:qB3 K (.ref C) m=some (some (.ref f))
 fn:qF6 K (.ref f)=true
 kp:qB7 K (.ref f)=true
section
variable{X:Cx}{pins:List (Addr×Obj)}{σ:St}{H:Hp}{s:Shared}{a C dx:Addr}{fs:List (Str×V)}{f:Str}{v:V}{A:Around}{E:Value->Shared->Prop}
end
section
variable{X:Cx}{o e value:Expr}{f:Str}{pos pos' tpos:Pos}{ta tv:TE}
end
section
variable{X:Cx}{pins:List (Addr×Obj)}{σ:St}{H:Hp}{s:Shared}{A:Around}{E:Value->Shared->Prop}{Q:Value->Shared->Prop}{c:Value}{b:Bool}
inductive TyOf(K:qA2)(H:Hp):V->Value->Prop where
 |non:TyOf K H .non (.type "NoneType")
 |bl (x:Bool):TyOf K H (.bl x) (.type "bool")
 |int (i:Int):TyOf K H (.int i) (.type "int")
 |str (x:Str):TyOf K H (.str x) (.type "str")
 |flt (x:UInt64):TyOf K H (.flt x) (.type "float")
 |lst {a:Addr} {xs:List V} (e:H a=some (.lst xs)):TyOf K H (.ref a) (.type "list")
 |frz {a:Addr} {o:Obj} {xs:List V} (e:H a=some (.frz o (.lst xs))):TyOf K H (.ref a) (.type "list")
 |tup {a:Addr} {xs:List V} (e:H a=some (.tup xs)):TyOf K H (.ref a) (.type "tuple")
 |dK {a:Addr} {kvs:List (Key×V)} (e:H a=some (.dK kvs)):TyOf K H (.ref a) (.type "dict")
 |dT {a:Addr} {kvs:List (List Key×V)} (e:H a=some (.dT kvs)):TyOf K H (.ref a) (.type "dict")
 |ins {a C dx:Addr} {fs:List (Str×V)} (e:H a=some (.ins C dx fs)) (cl:Cls K C) (ha:qB3 K (.ref C) "__class__" = some (some (.builtin "object.__class__")))
   (hn:qD1 K (.builtin "object.__class__") "__get__" = some (some (.builtin "getset_descriptor.__get__"))) (htk:qFl K (.builtin "object.__class__")=some true)
   (hm:qGp K C (.type "object")=some true):TyOf K H (.ref a) (.ref C)
theorem zRK{x:V}{u t:Value}(I:Inv X pins σ H s)(rx:RelV x u)(ty:TyOf X.K H x t)(e:qG6 X.K t c=some b)(h:∀tk,Q (.bool b) { s with toks:=tk }) :
  wpAny (model X.prog X.w) A (call (.builtin "isinstance") [u,c]) Q E s:=by
 cases ty with
 |non=>cases(show u=Value.none from rx);exact qB4 PySem.W.kitx_none I.kIn qEj e (fun z=>nomatch z) h
 |bl y=>cases(show u=Value.bool y from rx);exact qB4 PySem.W.kitx_bool I.kIn qEj e (fun z=>nomatch z) h
 |int i=>obtain⟨t,q⟩:=(show ∃t,u=Value.int i t from rx);cases q;exact qB4 PySem.W.kitx_int I.kIn qEj e (fun z=>nomatch z) h
 |str y=>obtain⟨t,q⟩:=(show ∃t,u=Value.str y t from rx);cases q;exact qB4 PySem.W.kitx_str I.kIn qEj e (fun z=>nomatch z) h
 |flt y=>obtain⟨t,q⟩:=(show ∃t,u=Value.float y t from rx);cases q;exact qB4 PySem.W.kitx_float I.kIn qEj e (fun z=>nomatch z) h
 |@lst a xs ea=>
  cases(show u=Value.ref a from rx)
  obtain⟨_,_,n,_,h1⟩:=(show ObjOk X.prog X.w H s.heap a (.lst xs) from I.hok a _ ea)
  exact qB4 qF1 I.kIn ⟨_,h1,rfl⟩ e (fun z=>nomatch z) h
 |@frz a ob xs ea=>
  cases(show u=Value.ref a from rx)
  obtain⟨_,_,_,n,_,h1⟩:=(show ObjOk X.prog X.w H s.heap a (.frz ob (.lst xs)) from I.hok a _ ea)
  exact qB4 qF1 I.kIn ⟨_,h1,rfl⟩ e (fun z=>nomatch z) h
 |@tup a xs ea=>
  cases(show u=Value.ref a from rx)
  obtain⟨_,_,_,p⟩:=(show ObjOk X.prog X.w H s.heap a (.tup xs) from I.hok a _ ea)
  obtain⟨o,h1,h2,_⟩:=p;exact qB4 PySem.W.kitx_tuple I.kIn ⟨o,h1,h2⟩ e (fun z=>nomatch z) h
 |@dK a kvs ea=>
  cases(show u=Value.ref a from rx)
  obtain⟨_,_,vs,_,p⟩:=(show ObjOk X.prog X.w H s.heap a (.dK kvs) from I.hok a _ ea)
  obtain⟨o,es,ep,h1,h2,_⟩:=p;exact qB4 qF2 I.kIn ⟨o,h1,h2.1⟩ e (fun z=>nomatch z) h
 |@dT a kvs ea=>
  cases(show u=Value.ref a from rx)
  obtain⟨_,_,xs,_,o,es,ep,h1,h2,_⟩:=(show ObjOk X.prog X.w H s.heap a (.dT kvs) from I.hok a _ ea)
  exact qB4 qF2 I.kIn ⟨o,h1,h2.1⟩ e (fun z=>nomatch z) h
 |@ins a C dx fs ea cl ha hn htk hm=>
  cases(show u=Value.ref a from rx)
  obtain⟨mA,O,_⟩:=zWS I.hok ea;obtain⟨od,J,_⟩:=O.look;exact qB4 (PySem.W.kitx_own (cl.get _) cl.hd ha hn htk hm) I.kIn J e (fun z=>nomatch z) h
end
end L2
namespace L2
open PySem PySem.Spec PyProof.Rows
structure Room(k:Nat)(A:Around):Prop where
 hd:A.handled=none
 dp:A.depth+3*k+5<recursionLimit
 un:A.units+16*k+200<cLine
theorem Room.mono{j k:Nat}{A:Around}(r:Room k A)(h:j<=k):Room j A:=⟨r.hd,by have:=r.dp;omega,by have:=r.un;omega⟩
theorem Room.deeper{k:Nat}{A:Around}(r:Room (k+1) A)(env:Env):Room k (A.deeper env):=
 ⟨r.hd,by have:=r.dp;show A.depth+1+3*k+5<_;omega,by have:=r.un;show A.units+3+16*k+200<_;omega⟩
theorem Room.depth{k:Nat}{A:Around}(r:Room k A):A.depth<recursionLimit:=by have:=r.dp;omega
theorem Room.units{k:Nat}{A:Around}(r:Room k A):A.units+64<cLine:=by have:=r.un;omega
noncomputable def tNil:TA:=fun _ H Q=>Q [] H
noncomputable def zL4(ta:TE)(tr:TA):TA:=fun σ H Q=>ta σ H fun x H1=>tr σ H1 fun xs H2=>Q (x::xs) H2
section
variable{X:Cx}{e:Expr}{es:List Expr}{te:TE}{t:TA}{pos:Pos}
theorem zA3:PA X [] tNil:=fun _ _ _ _ H Q I h=>Calls.spliced_nil ⟨[],H,I,.nil,h⟩
theorem zA0(ha:PE X e te)(hr:PA X es t)(hs:starEach (e::es) X.env=(false,eval e X.env)::starEach es X.env:=by rfl):PA X (e::es) (zL4 te t):=by
 intro pos pins s σ H Q I h;rw[hs];show wpAny _ _ (spliced ((false,eval e X.env)::backTo pos (starEach es X.env))) _ _ s;refine Calls.spliced_cons (thn (ha pins s σ H _ I h) fun u s1 z0=>?_);obtain⟨x,H1,I1,r1,q1⟩:=z0;exact thn (hr pos pins s1 σ H1 _ I1 q1) fun us s2 ⟨xs,H2,I2,r2,q2⟩=>⟨x::xs,H2,I2,.cons r1 r2,q2⟩
def tTup(t:TA):TE:=fun σ H Q=>t σ H fun xs H1=>xs.length<=sizeLine/\∀p,H1 p=none->Q (.ref p) (upd H1 p (.tup xs))
def tLst(t:TA):TE:=fun σ H Q=>t σ H fun xs H1=>xs.length<=sizeLine/\∀p,H1 p=none->Q (.ref p) (upd H1 p (.lst xs))
theorem zI1{x1}(h:PA X es t):PE X (.Tuple es x1 pos) (tTup t):=by
 intro pins s σ H Q I hq;refine wpAny_Tuple_spliced (thn (h pos pins s σ H _ I hq) fun us s1 ⟨xs,H1,I1,r,z,q⟩=>⟨by rw[<- r.length];exact z,?_⟩);have hf:H1 s1.heap.objs.size=none:=I1.hok.fresh (qA7 _);refine⟨.ref s1.heap.objs.size,upd H1 s1.heap.objs.size (.tup xs),I1.laid (t':=s1.toks) (fun b u e=>Heap.get?_push_of_some _ e) (qA7 _) ?_,rfl,q _ hf⟩;exact⟨z,us,r,⟨_,Heap.get?_push_size _ rfl,rfl,_,rfl⟩⟩
theorem zEM(h:PA X es t):PE X (.List es pos) (tLst t):=by
 intro pins s σ H Q I hq;refine wpAny_List_spliced (thn (h pos pins s σ H _ I hq) fun us s1 ⟨xs,H1,I1,r,z,q⟩=>⟨by rw[<- r.length];exact z,?_⟩);have hf:H1 s1.heap.objs.size=none:=I1.hok.fresh (qA7 _);refine⟨.ref s1.heap.objs.size,upd H1 s1.heap.objs.size (.lst xs),I1.laid (t':=s1.toks) (fun b u e=>Heap.get?_push_of_some _ e) (qA7 _) ?_,rfl,q _ hf⟩;exact⟨z,us,0,r,Heap.get?_push_size _ rfl⟩
end
abbrev Sp:=List V->Hp->VK->XK->Prop
abbrev CXT:=List Env->Hp->Shared->XK->Value->Shared->Prop
structure Env0(P:Program)(w:World)(K:qA2)(mg:Str->Option Value)(base:Heap)(A:Around)(outer:List Env)(s:Shared)(H:Hp):Prop where
 frames:A.frames=some outer
 mod:Mod K mg base
 bs:∀b o,base.get? b=some o->s.heap.get? b=some o/\H b=none
 bsz:base.objs.size<=s.heap.objs.size
 funs:s.heap.FunFrames base outer
 frf:∀b∈frs outer,H b=none
 hok:HOk P w H s.heap
 bare:AllBare s.gens
def CE(outer:List Env)(P:Program)(w:World)(H:Hp)(s:Shared)(Q:VK)(u:Value)(s':Shared):Prop:=
 ∃v H',s'.os=s.os/\AllBare s'.gens/\Un (frs outer) [] H H' s.heap s'.heap/\HOk P w H' s'.heap/\RelV v u/\Q v H'
def CR(CX:CXT)(outer:List Env)(P:Program)(w:World)(H:Hp)(s:Shared)(Q:VK)(E:XK)(r:Result)(s':Shared):Prop:=
 match r with
 |.ok (.ret u)=>CE outer P w H s Q u s'
 |.ok _=>False
 |.error e=>CX outer H s E e s'
structure FnOk(P:Program)(w:World)(K:qA2)(mg:Str->Option Value)(base:Heap)(CX:CXT)(k:Nat)(f:Addr)(fd:FuncData)(ps:List Str)(sp:Sp):Prop where
 len:∀vs H Q E,sp vs H Q E->vs.length=ps.length
 run:∀(A:Around)(outer:List Env)(s:Shared)(H:Hp)(args:Args)(us:List Value)(vs:List V)(Q:VK)(E:XK),Room k A->Env0 P w K mg base A outer s H->BindsTo s fd args (ps.zip us)->Vals vs us->sp vs H Q E ->
  codeAny (model P w) A (.call (.ref f) args) (CR CX outer P w H s Q E) s
theorem FnOk.imp{P:Program}{w:World}{K:qA2}{mg:Str->Option Value}{base:Heap}{CX:CXT}{k:Nat}{f:Addr}{fd:FuncData}{ps:List Str}{sp sp':Sp}(F:FnOk P w K mg base CX k f fd ps sp)
  (h:∀vs H Q E,sp' vs H Q E->sp vs H Q E):FnOk P w K mg base CX k f fd ps sp':=
 ⟨fun vs H Q E q=>F.len vs H Q E (h _ _ _ _ q),fun A outer s H args us vs Q E hr he hb hv hs=>F.run A outer s H args us vs Q E hr he hb hv (h _ _ _ _ hs)⟩
section
variable{X:Cx}{pins:List (Addr×Obj)}{σ:St}{H:Hp}{s s':Shared}
theorem Inv.env0(I:Inv X pins σ H s):Env0 X.prog X.w X.K X.mg X.base X.A X.stack s H:=
 ⟨I.ok.frames,I.ok.mod,I.bs,qAu I.ok.bsz I.sz,I.stack,I.stkFree,I.hok,I.bare⟩
theorem Inv.after{Q:VK}{u:Value}(I:Inv X pins σ H s)(h:CE X.stack X.prog X.w H s Q u s'):EP X pins σ Q u s':=by
 obtain⟨v,H',os,bare,un,hok,r,q⟩:=h;obtain⟨hh,g,d,t,os'⟩:=s';obtain rfl:os'=s.os:=os;exact⟨v,H',I.call (h':=hh) (g':=g) (d':=d) (t':=t) (ch:=[]) un hok bare (fun b z=>absurd z (by simp)),r,q⟩
end
noncomputable def zVL(sp:Sp)(dvs:List V)(E:XK)(t:TA):TE:=fun σ H Q=>t σ H fun vs H1=>sp (vs++dvs) H1 Q E
def Binds(K:qA2)(fd:FuncData)(ps:List Str)(ds:List Value):Prop:=
 ∀(s:Shared)(us:List Value),K.In s.heap->(us++ds).length=ps.length->BindsTo s fd ⟨us,[]⟩ (ps.zip (us++ds))
theorem Binds.all{K:qA2}{fd:FuncData}{ps:List Str}(h:∀us:List Value,us.length=ps.length->bindArgs fd ⟨us,[]⟩=pure (ps.zip us)):Binds K fd ps []:=fun s us _ hl=>by
 rw[qDj]at hl ⊢;exact .of_eq (h us hl)
def zSI(CX:CXT)(X:Cx)(E:XK):Prop:=∀(pins:List (Addr×Obj))(σ:St)(H:Hp)(s:Shared)(e:Value)(s':Shared),Inv X pins σ H s->CX X.stack H s E e s'->X.xe e s'
section
variable{X:Cx}{CX:CXT}{k:Nat}{f C:Addr}{fd:FuncData}{ps:List Str}{sp:Sp}{dvs:List V}{ds:List Value}{E:XK}{x m:Str}{p pos apos:Pos}{e o:Expr}{es:List Expr}{ta:TE}{t:TA}
theorem zY2{pins:List (Addr×Obj)}{σ:St}{H:Hp}{s:Shared}{Q:VK}{us:List Value}{vs:List V}(F:FnOk X.prog X.w X.K X.mg X.base CX k f fd ps sp)(hr:Room k X.A)(hb:Binds X.K fd ps ds)(hd:Vals dvs ds)(hx:zSI CX X E)
  (I:Inv X pins σ H s) (r:Vals vs us) (h:sp (vs++dvs) H Q E):wpAny (model X.prog X.w) X.A (call (.ref f) us) (EP X pins σ Q) X.xe s:=by
 have r2:Vals (vs++dvs) (us++ds):=r.append hd;have hl:(us++ds).length=ps.length:=by rw[<- r2.length];exact F.len _ _ _ _ h
 refine wpAny_call (codeAny_mono (F.run X.A X.stack s H ⟨us,[]⟩ (us++ds) (vs++dvs) Q E hr I.env0 (hb s us I.kIn hl) r2 h) fun r s' hq=>?_);cases r with
 |error e=>exact hx pins σ H s e s' I hq
 |ok fl=>
  cases fl with
  |ret u=>exact I.after hq
  |next=>exact qA5 hq
  |brk=>exact qA5 hq
  |cont=>exact qA5 hq
theorem zW2(F:FnOk X.prog X.w X.K X.mg X.base CX k f fd ps sp)(hr:Room k X.A)(hg:Gl X x)(hm:X.mg x=some (.ref f))(hk:qB7 X.K (.ref f)=true)(hb:Binds X.K fd ps ds)(hd:Vals dvs ds)(hx:zSI CX X E)
  (ha:PA X (e::es) t) (hdb:(x==("__debug__":Str))=false:=by decide) (he:starEach (e::es) X.env=(false,eval e X.env)::starEach es X.env:=by rfl) (hpl:(backTo pos (starEach es X.env)).any (·.1)=false:=by rfl) :
  PE X (.Call (.Name x p) (e::es) [] pos) (zVL sp dvs E t):=by
 intro pins s σ H Q I h;refine wpAny_Call_Name_kw (zWL I hg hm ?_ hdb);refine PySem.W.callWith_K (h₀:=X.base) I.ok.mod.kin hk (thn (ha pos pins s σ H _ I h) fun us s1 ⟨vs,H1,I1,r,q⟩=>⟨I1.kIn,?_⟩) he hpl;exact zY2 F hr hb hd hx I1 r q
structure Mk(K:qA2)(C f:Addr):Prop where
 makes:qFm K C=true
 init:qB3 K (.ref C) "__init__" = some (some (.ref f))
 fn:qF6 K (.ref f)=true
 kp:qB7 K (.ref C)=true
end
section
variable{X:Cx}{CX:CXT}{k:Nat}{f C:Addr}{fd:FuncData}{ps ks:List Str}{sp:Sp}{E:XK}{x m:Str}{p pos apos kpos:Pos}{e o:Expr}{es:List Expr}{kws:List Keyword}{te ta:TE}{t tk:TA}{nm:Option Str}
structure KBinds(K:qA2)(fd:FuncData)(ps ks:List Str)(g:List Value->List Value->List Value)(gV:List V->List V->List V):Prop where
 to:∀(s:Shared)(us ws:List Value),K.In s.heap->(g us ws).length=ps.length->BindsTo s fd ⟨us,ks.zip ws⟩ (ps.zip (g us ws))
 rel:∀{vs:List V}{us:List Value}{zs:List V}{ws:List Value},Vals vs us->Vals zs ws->Vals (gV vs zs) (g us ws)
variable{g:List Value->List Value->List Value}{gV:List V->List V->List V}
end
structure FnScope(N P:List Str)(sc:Scope):Prop where
 kind:sc.kind=.function
 co:sc.isCoroutine=false
 gen:sc.isGenerator=false
 nd:N.Nodup
 pre:N.take P.length=P
 par:∀x∈P,sc.names.lookup x=some .local\/sc.names.lookup x=some .cell
 nofree:∀y∈sc.names,y.2≠.free
theorem zMD{kindOf:Str->Option NameKind}{x:Str}:∀{binds:List (Str×Value)}{m:Str->Option Value},(∀v,(x,v)∉binds)->bindL kindOf binds m x=m x
 |[],_,_=>rfl
 |(n,v)::r,m,h=>by
  unfold bindL;rw[zMD fun w hw=>h w (qAr _ hw)]
  split
  ·have:x≠n:=by rintro rfl;exact h v qB2
   simp[this]
  ·rfl
theorem zMF{kindOf:Str->Option NameKind}{x:Str}:∀{binds:List (Str×Value)}{m:Str->Option Value},(∀v,(x,v)∉binds)->bindC kindOf binds m x=m x
 |[],_,_=>rfl
 |(n,v)::r,m,h=>by
  unfold bindC;rw[zMF fun w hw=>h w (qAr _ hw)]
  split
  ·rfl
  ·have:x≠n:=by rintro rfl;exact h v qB2
   simp[this]
theorem zME{kindOf:Str->Option NameKind}{x:Str}{v:Value}:∀{P:List Str}{vs:List Value}{i:Nat}{m:Str->Option Value},P.Nodup->P[i]?=some x->vs[i]?=some v->kindOf x=some .local ->
  bindL kindOf (P.zip vs) m x=some v
 |[],_,_,_,_,h,_,_=>by simp at h
 |_::_,[],_,_,_,_,h,_=>by simp at h
 |p::P,w::vs,0,m,nd,h1,h2,hk=>by
  simp at h1 h2;subst h1;subst h2;show bindL kindOf ((p,w)::P.zip vs) m p=_;unfold bindL;rw[zMD fun v hv=>(qB9.mp nd).1 (qC4 hv).1,if_pos hk];simp
 |p::P,w::vs,i+1,m,nd,h1,h2,hk=>by
  show bindL kindOf ((p,w)::P.zip vs) m x=_;unfold bindL;exact zME (i:=i) (qB9.mp nd).2 (by simpa using h1) (by simpa using h2) hk
theorem zMG{kindOf:Str->Option NameKind}{x:Str}{v:Value}:∀{P:List Str}{vs:List Value}{i:Nat}{m:Str->Option Value},P.Nodup->P[i]?=some x->vs[i]?=some v->kindOf x≠some .local ->
  bindC kindOf (P.zip vs) m x=some v
 |[],_,_,_,_,h,_,_=>by simp at h
 |_::_,[],_,_,_,_,h,_=>by simp at h
 |p::P,w::vs,0,m,nd,h1,h2,hk=>by
  simp at h1 h2;subst h1;subst h2;show bindC kindOf ((p,w)::P.zip vs) m p=_;unfold bindC;rw[zMF fun v hv=>(qB9.mp nd).1 (qC4 hv).1,if_neg hk];simp
 |p::P,w::vs,i+1,m,nd,h1,h2,hk=>by
  show bindC kindOf ((p,w)::P.zip vs) m x=_;unfold bindC;exact zMG (i:=i) (qB9.mp nd).2 (by simpa using h1) (by simpa using h2) hk
noncomputable def start(N:List Str)(vs:List V):St:=vs.map some++qA6 (N.length-vs.length) none
noncomputable def cxOf(CX:CXT)(P:Program)(w:World)(K:qA2)(mg:Str->Option Value)(base:Heap)(N:List Str)(qual:Str)(scope:Scope)(f:Addr)(cd:Value)(A:Around)(outer:List Env)(s:Shared)(H:Hp)(E:XK):Cx where
 prog:=P
 w:=w
 K:=K
 mg:=mg
 base:=base
 A:=A.deeper (envOfC qual scope s.heap.objs.size f cd)
 N:=N
 s₀:=s
 H₀:=H
 env:=envOfC qual scope s.heap.objs.size f cd
 outer:=outer
 stack:=envOfC qual scope s.heap.objs.size f cd::outer
 ex:=[]
 calm:=true
 fn:=fun _=>true
 pn:=[]
 xe:=fun e s'=>wpAny (model P w) (A.deeper (envOfC qual scope s.heap.objs.size f cd)) (leaving (envOfC qual scope s.heap.objs.size f cd) e) (fun _ s''=>CX outer H s E e s'') (fun e' s''=>CX outer H s E e' s'') s'
theorem zOT{sc:Scope}{n:Nat}{x:Str}(h:sc.names.lookup x=some .cell):∃c,(cellsFrom n sc.names []).lookup x=some c:=by
 have q:=qCz sc.names n [] (.inl h);exact qDv.mp q
theorem zRN{CX:CXT}{P:Program}{w:World}{K:qA2}{mg:Str->Option Value}{base:Heap}{N ps:List Str}{qual:Str}{scope:Scope}{f:Addr}{cd:Value}{A:Around}{outer:List Env}{s s1:Shared}{H:Hp}{E:XK}{us:List Value}{vs:List V}
  (S:FnScope N ps scope) (hd:A.handled=none) (e0:Env0 P w K mg base A outer s H) (hl:vs.length=ps.length) (r:Vals vs us)
  (x:InCallC s s.heap.objs.size (bindL (envOfC qual scope s.heap.objs.size f cd).kindOf (ps.zip us) fun _=>none) (cellsFrom (s.heap.objs.size+1) scope.names []) (bindC (envOfC qual scope s.heap.objs.size f cd).kindOf (ps.zip us) fun _=>none) s1) :
  Inv (cxOf CX P w K mg base N qual scope f cd A outer s H E) [] (start N vs) H s1:=by
 have hpl:ps.length<=N.length:=by have:=congrArg List.length S.pre;rw[qBx]at this;omega
 obtain⟨h1,tk,rfl,hk⟩:=x.done;have noA:∀b:Addr,b∉(cxOf CX P w K mg base N qual scope f cd A outer s H E).ex:=fun b z=>absurd (show b∈([]:List Addr) from z) (by simp)
 refine⟨⟨e0.mod,S.kind,rfl,rfl,qA7 _,fun y z c h1 h2=>?_,fun y hy=>?_,fun y c _ h=>?_,fun _=>hd,Around.frames_deeper e0.frames,.inr ⟨rfl,rfl⟩,fun b z=>absurd z (noA b),e0.bs,e0.bsz,fun b _ _=>noA b,fun b z=>absurd z (noA b),e0.funs,e0.frf⟩,
  rfl,e0.bare,Un.kept hk,⟨_,x.toInCall.ns,fun i y v h1 h2 h3=>?_⟩,fun y c h=>⟨_,x.cell y c h⟩,e0.hok.fresh (qA7 _),fun y c h=>?_,fun p hp=>absurd (show p∈([]:List (Addr×Obj)) from hp) (by simp),e0.hok.kept hk,?_⟩
 ·exact name_of_addr x.apart (qBv h1) (qBv h2)
 ·have hy:scope.names.lookup y=some .cell\/scope.names.lookup y=some .free:=hy
  rcases hy with hy|hy
  ·exact zOT hy
  ·exact absurd rfl (S.nofree _ (qBv hy))
 ·exact qBo (x.above y c (qBv h))
 ·have hi:i<vs.length:=by
   unfold start at h2
   by_cases hi:i<vs.length
   ·exact hi
   ·rw[qAg (by simpa using hi)]at h2;rw[qBa]at h2
    split at h2<;>cases h2
  have ha:vs[i]?=some v:=by
   unfold start at h2;rw[qAf (by simpa using hi),qAk]at h2;cases e:vs[i]? with
   |none=>rw[e]at h2;cases h2
   |some a=>rw[e]at h2;cases h2;rfl
  obtain⟨u,hu,rv⟩:=r.get ha;have hp:ps[i]?=some y:=by
   rw[<- S.pre,qDw (by omega)];exact h1
  have ndP:ps.Nodup:=by rw[<- S.pre];exact S.nd.sublist (List.take_sublist _ _)
  refine⟨u,rv,?_⟩
  rcases S.par y (qCd hp)with k|k
  ·exact .inl ⟨k,zME ndP hp hu k⟩
  ·obtain⟨c,e⟩:=zOT (n:=s.heap.objs.size+1) k;refine .inr ⟨.inl k,c,e,?_⟩;have q:=x.cell y c e;rw[zMG ndP hp hu (by show scope.names.lookup y≠_;rw[k];decide)]at q;exact q
 ·exact e0.hok.fresh (qBo (x.above y c (qBv h)))
 ·unfold start;show _=N.length;rw[qAe,qAl,qD8];omega
theorem zaK{CX:CXT}{P:Program}{w:World}{K:qA2}{mg:Str->Option Value}{base:Heap}{k:Nat}{f:Addr}{name qual:Str}{params:Arguments}{body:List Stmt}{scope:Scope}{dV kV doc pm cdv ct oc:Value}{an od:Option Addr}
  {osl:Array (Option Value)} {N ps:List Str} {sp:Sp} (lk:K.lookup f=some ⟨oc,od,.func (qBj name qual params body scope dV kV doc pm an cdv ct),osl⟩) (hcd:qD6 K cdv qual=true) (S:FnScope N ps scope)
  (len:∀vs H Q E,sp vs H Q E->vs.length=ps.length)
  (hbody:∀(A:Around)(outer:List Env)(s:Shared)(H:Hp)(vs:List V)(Q:VK)(E:XK),Room k (A.deeper (envOfC qual scope s.heap.objs.size f cdv))->sp vs H Q E ->
   ∃t,PSs (cxOf CX P w K mg base N qual scope f cdv A outer s H E) body t/\t { nx:=fun _ H'=>Q .non H',rt:=Q } (start N vs) H) :
  FnOk P w K mg base CX (k+1) f (qBj name qual params body scope dV kV doc pm an cdv ct) ps sp:=by
 refine⟨len,fun A outer s H args us vs Q E hr e0 hb r hsp=>?_⟩;have hl:=len _ _ _ _ hsp;have KX:K.In s.heap:=e0.mod.kin.keeps fun b o e=>(e0.bs b o e).1
 have lim:s.heap.NoLimit:=e0.mod.nolimit.keeps fun b o e=>(e0.bs b o e).1
 have hkind:∀y∈ps.zip us,scope.names.lookup y.1=some .local\/(scope.names.lookup y.1=some .cell/\((cellsFrom (s.heap.objs.size+1) scope.names []).lookup y.1).isSome=true):=fun⟨n,v⟩ hy=>by
  rcases S.par n (qC4 hy).1 with q|q
  ·exact .inl q
  ·exact .inr ⟨q,qCz _ _ _ (.inl q)⟩
 refine codeAny_call_function hr.depth (KX _ _ lk) rfl S.co S.gen rfl (PySem.W.codeRec_of KX hcd) (hb _ _ _ _ ?_);refine wpAny_newFunctionEnv_cells S.kind hkind fun env he s1 x=>?_
 subst he;refine⟨lim.keeps x.toInCall.keep,codeAny_func ?_⟩;obtain⟨t,ht,hq⟩:=hbody A outer s H vs Q E (hr.deeper _) hsp;have I:Inv (cxOf CX P w K mg base N qual scope f cdv A outer s H E) [] (start N vs) H s1:=zRN S hr.hd e0 hl r x;refine wpAny_mono (ht [] s1 (start N vs) H _ I hq) (fun fl s' hs=>?_) fun e s' hs=>hs
 have fin:∀{σ':St}{H':Hp}{v:V}{u:Value},Inv (cxOf CX P w K mg base N qual scope f cdv A outer s H E) [] σ' H' s'->RelV v u->Q v H'->CE outer P w H s Q u s':=
  fun{σ' H' v u} J rv q=>⟨v,H',J.os,J.bare,J.base,J.hok,rv,q⟩
 cases fl with
 |ret u=>
  obtain⟨v,σ',H',J,rv,q⟩:=hs;exact fin J rv q
 |next=>
  obtain⟨σ',H',J,q⟩:=hs;exact fin (v:=V.non) (u:=Value.none) J rfl q
 |brk=>
  obtain⟨_,_,_,q⟩:=hs;exact qA5 q
 |cont=>
  obtain⟨_,_,_,q⟩:=hs;exact qA5 q
end L2
namespace L2
open PySem PySem.Spec PyProof.Rows
section
variable{X:Cx}{x:Str}{p pos:Pos}{e:Expr}{es:List Expr}{t:TA}{id T:String}{r:List V->Hp->VK->Prop}
noncomputable def tCB(r:List V->Hp->VK->Prop)(t:TA):TE:=fun σ H Q=>t σ H fun vs H1=>r vs H1 Q
theorem zAG(hc:zDL X (.builtin id) r)(hg:Gl X x)(hm:X.mg x=none)(hv:bootBuiltins x=some (.builtin id))(ha:PA X (e::es) t)(hn:x≠"__name__":=by decide)(hdb:(x==("__debug__":Str))=false:=by decide)
  (he:starEach (e::es) X.env=(false,eval e X.env)::starEach es X.env:=by rfl) (hpl:(backTo pos (starEach es X.env)).any (·.1)=false:=by rfl):PE X (.Call (.Name x p) (e::es) [] pos) (tCB r t):=by
 intro pins s σ H Q I h;refine wpAny_Call_Name_kw (zIB I hg hm hv ?_ hn hdb);exact qF7 (thn (ha pos pins s σ H _ I h) fun us s1 ⟨vs,H1,I1,r1,q1⟩=>hc pins s1 σ H1 vs us Q I1 r1 q1) he hpl
theorem zE5(hc:zDL X (.type T) r)(hg:Gl X x)(hm:X.mg x=none)(hv:bootBuiltins x=some (.type T))(ha:PA X (e::es) t)(hn:x≠"__name__":=by decide)(hdb:(x==("__debug__":Str))=false:=by decide)
  (he:starEach (e::es) X.env=(false,eval e X.env)::starEach es X.env:=by rfl) (hpl:(backTo pos (starEach es X.env)).any (·.1)=false:=by rfl):PE X (.Call (.Name x p) (e::es) [] pos) (tCB r t):=by
 intro pins s σ H Q I h;refine wpAny_Call_Name_kw (zIB I hg hm hv ?_ hn hdb);exact qB8 (thn (ha pos pins s σ H _ I h) fun us s1 ⟨vs,H1,I1,r1,q1⟩=>hc pins s1 σ H1 vs us Q I1 r1 q1) he hpl
end
end L2
namespace HT
open PySem PyProof.Rows
section
open PySem.SeqAt
open PySem.AutoSeq1 (wpAny_loadPart')
open PySem.MeetsSeq PySem.MeetsSeq2 PySem.MeetsSeq3
end
section
variable{prog:Program}{w:World}{A:Around}{E:Value->Shared->Prop}{s:Shared}
noncomputable def sIx(n d:Nat):Option Int->Nat
 |none=>d
 |some v=>if v<0 then(v+(n:Int)).toNat else min v.toNat n
end
end HT
namespace L2
open PySem PySem.Spec PyProof.Rows
abbrev TO:=St->Hp->(Option Int->Hp->Prop)->Prop
def PO(X:Cx)(e:Option Expr)(t:TO):Prop:=
 ∀(pins:List (Addr×Obj))(s:Shared)(σ:St)(H:Hp)(Q:Option Int->Hp->Prop),Inv X pins σ H s->t σ H Q ->
  wpAny (model X.prog X.w) X.A (evalPart e X.env) (fun u s'=>∃o H',Inv X pins σ H' s'/\IsPart u o/\Q o H') X.xe s
noncomputable def zQ2:TO:=fun _ H Q=>Q none H
noncomputable def zXQ(t:TE):TO:=fun σ H Q=>t σ H fun x H1=>∃i,x=.int i/\Q (some i) H1
section
variable{X:Cx}{e:Expr}{te:TE}{lo hi:Option Expr}{tl th:TO}{pos p2:Pos}
theorem zCL:PO X none zQ2:=by
 intro pins s σ H Q I h;rw[evalPart_none];exact wpAny_pure ⟨none,H,I,.none,h⟩
theorem zCK(h:PE X e te):PO X (some e) (zXQ te):=by
 intro pins s σ H Q I hw;rw[evalPart_some];refine thn (h pins s σ H _ I hw) fun u s1 z0=>?_
 obtain⟨x,H1,I1,r1,q1⟩:=z0;obtain⟨i,rfl,q⟩:=q1;obtain⟨t,rfl⟩:=r1;exact⟨some i,H1,I1,.int i t,q⟩
def SlR(X:Cx)(r:V->Option Int->Option Int->Hp->VK->Prop):Prop:=
 ∀(pins:List (Addr×Obj))(s:Shared)(σ:St)(H:Hp)(x:V)(v vl vu:Value)(lo hi:Option Int)(sl:Addr)(Q:VK),Inv X pins σ H s->RelV x v->s.heap.IsSliceOf sl vl vu .none->IsPart vl lo->IsPart vu hi->r x lo hi H Q ->
  ∃T id,typeLookup (.type T) "__getitem__" = pure (some (.builtin id))/\s.TypeIs v T/\wpAny (model X.prog X.w) X.A (getItem v (.ref sl)) (EP X pins σ Q) X.xe s
noncomputable def tSl(r:V->Option Int->Option Int->Hp->VK->Prop)(te:TE)(tl th:TO):TE:=fun σ H Q=>te σ H fun x H1=>tl σ H1 fun l H2=>th σ H2 fun u H3=>r x l u H3 Q
theorem zBP{r:V->Option Int->Option Int->Hp->VK->Prop}(hr:SlR X r)(he:PE X e te)(hl:PO X lo tl)(hu:PO X hi th):PE X (.Subscript e (.Slice lo hi none p2) pos) (tSl r te tl th):=by
 intro pins s σ H Q I h;refine Subscript_ (thn (he pins s σ H _ I h) fun v s1 z0=>?_);obtain⟨x,H1,I1,r1,q1⟩:=z0;refine wpAny_Slice (thn (hl pins s1 σ H1 _ I1 q1) fun vl s2 ⟨l,H2,I2,pl,q2⟩=>thn (hu pins s2 σ H2 _ I2 q2) fun vu s3 ⟨u,H3,I3,pu,q3⟩=>?_);rw[evalPart_none];refine wpAny_pure ?_;have I4:Inv X pins σ H3 { s3 with heap:=s3.heap.push { cls:=.type "slice",data:=.fields #[vl,vu,.none] } }:=I3.kept (t':=s3.toks) fun b ob q=>Heap.get?_push_of_some _ q
 obtain⟨T,id,hT,ht,hg⟩:=hr pins { s3 with heap:=s3.heap.push { cls:=.type "slice",data:=.fields #[vl,vu,.none] } } σ H3 x v vl vu l u s3.heap.objs.size Q I4 r1 (Heap.IsSliceOf.new ..) pl pu q3;show wpAny (model X.prog X.w) X.A (subscriptTail e (.Slice lo hi none p2) v (.ref s3.heap.objs.size)) (EP X pins σ Q) X.xe { s3 with heap:=s3.heap.push { cls:=.type "slice",data:=.fields #[vl,vu,.none] } };exact tail_any (ops:=[.ref s3.heap.objs.size,v]) ht hT hg (by with_unfolding_all rfl)
def cutV(xs:List V)(lo hi:Option Int):List V:=(xs.drop (HT.sIx xs.length 0 lo)).take (HT.sIx xs.length xs.length hi-HT.sIx xs.length 0 lo)
theorem zNG(xs:List V)(lo hi:Option Int):(cutV xs lo hi).length<=xs.length:=by
 unfold cutV;rw[qBx,qFe];omega
end
end L2
namespace L2
open PySem PySem.Spec PyProof.Rows
noncomputable def ixN(n:Nat)(i:Int):Option Nat:=if 0<=i then(if i<n then some i.toNat else none)else if -(n:Int)<=i then some (i+n).toNat else none
def atI{α:Type}(xs:List α)(i:Int):Option α:=(ixN xs.length i).bind fun j=>xs[j]?
theorem zRG{n:Nat}{i:Int}{j:Nat}(h:ixN n i=some j):seqIndex? i n=some j/\j<n/\-(n:Int)<=i/\i<n:=by
 unfold ixN at h
 by_cases h0:0<=i
 ·rw[if_pos h0]at h
  by_cases h1:i<n
  ·rw[if_pos h1]at h;have e:i.toNat=j:=qAz h;exact⟨by rw[seqIndex_of h0 h1,e],by omega,by omega,h1⟩
  ·rw[if_neg h1]at h;cases h
 ·rw[if_neg h0]at h
  by_cases h1:-(n:Int)<=i
  ·rw[if_pos h1]at h;have e:(i+n).toNat=j:=qAz h;exact⟨by rw[seqIndex_neg (by omega) h1,e],by omega,h1,by omega⟩
  ·rw[if_neg h1]at h;cases h
theorem zNN{α:Type}{xs:List α}{i:Int}{v:α}(h:atI xs i=some v):∃j,seqIndex? i xs.length=some j/\xs[j]?=some v/\j<xs.length/\-(xs.length:Int)<=i/\i<xs.length:=by
 unfold atI at h;cases e:ixN xs.length i with
 |none=>rw[e]at h;cases h
 |some j=>
  rw[e]at h;obtain⟨h1,h2,h3,h4⟩:=zRG e;exact⟨j,h1,h,h2,h3,h4⟩
def zXA(b:Expr):Prop:=∀o i,subscripted b false o i=operate [o,i] (getItem o i)
def IxR(X:Cx)(r:R2):Prop:=
 ∀(value slice:Expr)(pins:List (Addr×Obj))(s:Shared)(σ:St)(H:Hp)(x y:V)(v u:Value)(Q:VK),Inv X pins σ H s->RelV x v->RelV y u->r x y H Q ->
  subscripted slice false v u=operate [v,u] (getItem v u)->wpAny (model X.prog X.w) X.A (subscriptTail value slice v u) (EP X pins σ Q) X.xe s
def MtR(X:Cx)(id:String)(r:V->List V->Hp->VK->Prop):Prop:=
 ∀(pins:List (Addr×Obj))(s:Shared)(σ:St)(H:Hp)(x:V)(xs:List V)(v:Value)(us:List Value)(Q:VK),Inv X pins σ H s->RelV x v->Vals xs us->r x xs H Q ->
  wpAny (model X.prog X.w) X.A (call (.builtin id) (v::us)) (EP X pins σ Q) X.xe s
section
variable{X:Cx}{a b:Expr}{ta tb:TE}{pos:Pos}
theorem zBH{r:R2}(hr:IxR X r)(ha:PE X a ta)(hb:PE X b tb)(hs:zXA b):PE X (.Subscript a b pos) (tOp r ta tb):=by
 intro pins s σ H Q I h;exact Subscript_ (binT ha hb I h fun v u s2 x y H2 I2 rx ry q=>hr a b pins s2 σ H2 x y v u Q I2 rx ry q (hs _ _))
def rIxL(K:qA2):R2:=fun x y H Q=>∃p xs i v,x=.ref p/\y=.int i/\SqL K H p xs/\atI xs i=some v/\Q v H
def rIxT(K:qA2):R2:=fun x y H Q=>∃p xs i v,x=.ref p/\y=.int i/\SqT K H p xs/\atI xs i=some v/\Q v H
def rIxS:R2:=fun x y H Q=>∃z i c,x=.str z/\y=.int i/\z.length<=sizeLine/\atI z.cps.toList i=some c/\Q (.str ⟨#[c]⟩) H
theorem zWO:IxR X (rIxL X.K):=by
 intro value slice pins s σ H x y v u Q I rx ry h hs;obtain⟨p,xs,i,z,rfl,rfl,hq,he,q⟩:=h;cases rx;obtain⟨t,rfl⟩:=ry;obtain⟨its,r,pl,hz⟩:=I.list hq;obtain⟨j,h1,h2,h3,h4,h5⟩:=zNN he;obtain⟨w,ew,rw'⟩:=r.get h2;have hl:=r.length;have hn:=zIA;have fin:EP X pins σ Q w s:=⟨z,H,I,rw',q⟩
 by_cases h0:0<=i
 ·have hj:i.toNat=j:=by
   rw[seqIndex_of h0 h5]at h1;exact qAz h1
  exact item_listR pl.isList h0 (by omega) (by rw[hj];simpa using ew) fin hs
 ·have hj:(i+(its.toArray.size:Int)).toNat=j:=by
   rw[seqIndex_neg (by omega) h4]at h1;rw[qAh,<- hl];exact qAz h1
  exact subscriptTail_builtinR (x:=w) pl.isList.typeIs slot_list_getitem.lookup
   (wpAny_getItem_list_neg (Q:=fun r s'=>r=w/\EP X pins σ Q r s') pl.isList (by omega) (by rw[qAh]<;>omega) (by omega) (by rw[hj];simpa using ew) ⟨rfl,fin⟩) hs
theorem zZ9:IxR X (rIxT X.K):=by
 intro value slice pins s σ H x y v u Q I rx ry h hs;obtain⟨p,xs,i,z,rfl,rfl,hq,he,q⟩:=h;cases rx;obtain⟨t,rfl⟩:=ry;obtain⟨its,r,pl,hz⟩:=I.tuple hq;obtain⟨j,h1,h2,h3,h4,h5⟩:=zNN he;obtain⟨w,ew,rw'⟩:=r.get h2;have hl:=r.length;have hn:=zIA;have fin:EP X pins σ Q w s:=⟨z,H,I,rw',q⟩
 exact subscriptTail_builtinR (x:=w) pl.typeIs slot_tuple_getitem.lookup
  (getItem_tuple (j:=j) (Q:=fun r s'=>r=w/\EP X pins σ Q r s') pl (by omega) (by omega) (by rw[qAh,<- hl];exact h1) (by simpa using ew) ⟨rfl,fin⟩) hs
theorem zZB:IxR X rIxS:=by
 intro value slice pins s σ H x y v u Q I rx ry h hs;obtain⟨z,i,c,rfl,rfl,hz,he,q⟩:=h;obtain⟨t,rfl⟩:=rx;obtain⟨t',rfl⟩:=ry;obtain⟨j,h1,h2,h3,h4,h5⟩:=zNN he;have hl:z.cps.toList.length=z.length:=by simp[Str.length]
 rw[hl]at h1 h4 h5;have hn:=zIA;exact tail_any (typeIs_str s z t) slot_str_getitem.lookup (getItem_str (c:=c) (by
  have e1:decide (i < -(2 ^ 63:Int))=false:=decide_eq_false (by omega);have e2:decide (i>=2 ^ 63)=false:=decide_eq_false (by omega);rw[e1,e2,qGq]) (by rw[h1];simpa using h2) ⟨.str ⟨#[c]⟩,H,I.tok _,⟨_,rfl⟩,q⟩) hs
theorem zPE(its:List Value)(n j:Nat)(u:Value):Obj.mapSeq (·.setIfInBounds j u) { cls:=.type "list",data:=.seq its.toArray n }={ cls:=.type "list",data:=.seq (its.set j u).toArray n }:=by
 simp[Obj.mapSeq]
theorem Inv.lst{pins:List (Addr×Obj)}{σ:St}{H:Hp}{s:Shared}{p:Addr}{xs:List V}(I:Inv X pins σ H s)(h:H p=some (.lst xs)) :
  ∃(its:List Value)(n:Nat),Vals xs its/\s.heap.get? p=some { cls:=.type "list",data:=.seq its.toArray n }/\xs.length<=sizeLine:=by
 obtain⟨z,its,n,r,e⟩:=I.hok p _ h;exact⟨its,n,r,e,z⟩
theorem Inv.lstUpd{pins:List (Addr×Obj)}{σ:St}{H:Hp}{s:Shared}{p:Addr}{xs ys:List V}{its its':List Value}{n n':Nat}{f:Obj->Obj}(I:Inv X pins σ H s)(h:H p=some (.lst xs))
  (ho:s.heap.get? p=some { cls:=.type "list",data:=.seq its.toArray n }) (hf:f { cls:=.type "list",data:=.seq its.toArray n }={ cls:=.type "list",data:=.seq its'.toArray n' }) (r:Vals ys its') (hz:ys.length<=sizeLine) (t:Nat) :
  Inv X pins σ (upd H p (.lst ys)) { s with heap:=s.heap.update p f,toks:=t }:=by
 have e:(s.heap.update p f).get? p=some { cls:=.type "list",data:=.seq its'.toArray n' }:=by
  rw[Heap.get?_update_self f ho (by rw[hf]<;>rfl),hf]
 refine I.write (x:=p) (e:=p) (by rw[h];trivial) (.inl rfl) (fun b u hb q=>(Heap.get?_update_other _ _ (qDs hb)).trans q) ⟨_,e⟩ ?_;exact⟨hz,its',n',r,e⟩
def zaB:V->V->V->Hp->(Hp->Prop)->Prop:=fun o i v H Q=>∃p xs k j,o=.ref p/\i=.int k/\H p=some (.lst xs)/\ixN xs.length k=some j/\Q (upd H p (.lst (xs.set j v)))
theorem zSW:PSet X zaB:=by
 intro pins s σ H o i v ov iv u Q I ro ri rv h;obtain⟨p,xs,k,j,rfl,rfl,hp,hj,q⟩:=h;cases ro;obtain⟨t,rfl⟩:=ri;obtain⟨its,n,r,ho,hz⟩:=I.lst hp;obtain⟨h1,h2,h3,h4⟩:=zRG hj;have hl:=r.length;have hn:=zIA;have I':Inv X pins σ (upd H p (.lst (xs.set j v))) { s with heap:=s.heap.update p (Obj.mapSeq (·.setIfInBounds j u)) }:=
  I.lstUpd hp ho (zPE its n j u) (r.set rv j) (by rw[qFn];exact hz) s.toks
 by_cases h0:0<=k
 ·have hk:k.toNat=j:=by
   rw[seqIndex_of h0 h4]at h1;exact qAz h1
  exact PySem.W.ki_setAt ho h0 (by omega) (by rw[qAh,<- hl];exact h4) (by rw[hk];exact⟨_,I',q⟩)
 ·have hk:(k+(its.toArray.size:Int)).toNat=j:=by
   rw[seqIndex_neg (by omega) h3]at h1;rw[qAh,<- hl];exact qAz h1
  exact PySem.W.ki_setBack ho (by omega) (by rw[qAh,<- hl];exact h3) (by omega) (by rw[hk];exact⟨_,I',q⟩)
theorem zLA(lo hi:Option Int)(n:Nat):(sliceBounds lo hi none n).1=((HT.sIx n 0 lo:Nat):Int)/\(sliceBounds lo hi none n).2.1=((HT.sIx n n hi:Nat):Int)/\(sliceBounds lo hi none n).2.2=1:=by
 refine⟨?_,?_,rfl⟩
 ·cases lo with
  |none=>simp[sliceBounds,HT.sIx]
  |some i=>
   simp only[sliceBounds,HT.sIx,qFf,show(1:Int)>0 by decide,if_true]
   by_cases h:i<0
   ·simp only[h,if_true]<;>omega
   ·simp only[h,if_false]<;>omega
 ·cases hi with
  |none=>simp[sliceBounds,HT.sIx]
  |some i=>
   simp only[sliceBounds,HT.sIx,qFf,show(1:Int)>0 by decide,if_true]
   by_cases h:i<0
   ·simp only[h,if_true]<;>omega
   ·simp only[h,if_false]<;>omega
theorem zJW(its:List Value)(lo hi:Option Int):slicePick its.toArray lo hi none=((its.drop (HT.sIx its.length 0 lo)).take (HT.sIx its.length its.length hi-HT.sIx its.length 0 lo)).toArray:=by
 obtain⟨h1,h2,h3⟩:=zLA lo hi its.toArray.size;unfold slicePick;rw[h1,h2,h3];simp only[sliceRange_one,pick_run,qAh]<;>rfl
def rSlL(K:qA2):V->Option Int->Option Int->Hp->VK->Prop:=fun x lo hi H Q=>∃a xs,x=.ref a/\SqL K H a xs/\∀p,H p=none->Q (.ref p) (upd H p (.lst (cutV xs lo hi)))
theorem zVQ:SlR X (rSlL X.K):=by
 intro pins s σ H x v vl vu lo hi sl Q I rx hs pl pu h;obtain⟨a,xs,rfl,hx,q⟩:=h;cases rx;obtain⟨its,r,ht,hz⟩:=I.list hx;have hlen:=r.length;refine⟨"list",_,slot_list_getitem.lookup,ht.isList.typeIs,?_⟩;refine wpAny_getItem_list_slice ht.isList hs pl pu .none (by simp) ?_ (by rw[qAh]<;>omega);rw[zJW,<- hlen];refine⟨.ref s.heap.objs.size,_,I.laid (t':=s.toks) (o:=.lst (cutV xs lo hi)) (fun b ob q=>Heap.get?_push_of_some _ q) (qA7 _) ?_,rfl,q _ (I.hok.fresh (qA7 _))⟩;exact⟨qAu (zNG xs lo hi) hz,_,0,(r.drop (HT.sIx xs.length 0 lo)).take (HT.sIx xs.length xs.length hi-HT.sIx xs.length 0 lo),Heap.get?_push_size _ rfl⟩
noncomputable def zGP:V->Bool
 |.non=>true
 |.bl _=>true
 |.int _=>true
 |.str _=>true
 |_=>false
noncomputable def eqV:V->V->Bool
 |.non,.non=>true
 |.bl a,.bl b=>a==b
 |.bl a,.int b=>(if a then 1 else 0)==b
 |.int a,.bl b=>a==(if b then 1 else 0)
 |.int a,.int b=>a==b
 |.str a,.str b=>a==b
 |_,_=>false
theorem zV2{A:Around}{s:Shared}{y x:V}{u v:Value}(ry:RelV y u)(rx:RelV x v)(fy:zGP y=true)(fx:zGP x=true):SeqAt.EqAt A s u v (eqV y x):=by
 cases y with
 |non=>
  cases ry;cases x with
  |non=>cases rx;exact SeqAt.EqAt.same _
  |bl b=>cases rx;exact SeqAt.EqAt.none_bool b
  |int b=>obtain⟨t,rfl⟩:=rx;exact SeqAt.EqAt.none_int b t
  |str b=>obtain⟨t,rfl⟩:=rx;exact SeqAt.EqAt.none_str b t
  |_=>exact absurd (show false=true from fx) qAc
 |bl a=>
  cases ry;cases x with
  |non=>cases rx;exact SeqAt.EqAt.bool_none a
  |bl b=>cases rx;exact SeqAt.EqAt.bool_bool a b
  |int b=>obtain⟨t,rfl⟩:=rx;exact SeqAt.EqAt.bool_int a b t
  |str b=>obtain⟨t,rfl⟩:=rx;exact SeqAt.EqAt.bool_str a b t
  |_=>exact absurd (show false=true from fx) qAc
 |int a=>
  obtain⟨t',rfl⟩:=ry;cases x with
  |non=>cases rx;exact SeqAt.EqAt.int_none a t'
  |bl b=>cases rx;exact SeqAt.EqAt.int_bool a t' b
  |int b=>obtain⟨t,rfl⟩:=rx;exact SeqAt.EqAt.int_int a t' b t
  |str b=>obtain⟨t,rfl⟩:=rx;exact SeqAt.EqAt.int_str a t' b t
  |_=>exact absurd (show false=true from fx) qAc
 |str a=>
  obtain⟨t',rfl⟩:=ry;cases x with
  |non=>cases rx;exact SeqAt.EqAt.str_none a t'
  |bl b=>cases rx;exact SeqAt.EqAt.str_bool a t' b
  |int b=>obtain⟨t,rfl⟩:=rx;exact SeqAt.EqAt.str_int a t' b t
  |str b=>obtain⟨t,rfl⟩:=rx;exact SeqAt.EqAt.str_str a t' b t
  |_=>exact absurd (show false=true from fx) qAc
 |_=>exact absurd (show false=true from fy) qAc
def eqU(x:V)(u:Value):Bool:=match u with
 |.none=>eqV .non x
 |.bool b=>eqV (.bl b) x
 |.int i _=>eqV (.int i) x
 |.str z _=>eqV (.str z) x
 |_=>false
theorem zV1{x y:V}{u:Value}(r:RelV y u)(f:zGP y=true):eqU x u=eqV y x:=by
 cases y with
 |non=>cases r;rfl
 |bl b=>cases r;rfl
 |int i=>obtain⟨t,rfl⟩:=r;rfl
 |str z=>obtain⟨t,rfl⟩:=r;rfl
 |_=>exact absurd (show false=true from f) qAc
theorem zIZ{x:V}:∀{xs:List V}{us:List Value},Vals xs us->xs.all zGP=true->us.any (eqU x)=xs.any fun y=>eqV y x
 |_,_,.nil,_=>rfl
 |y::xs,u::us,.cons r t,f=>by
  rw[qCn,qBf]at f;rw[qBp,qBp,zV1 r f.1,zIZ t f.2]
theorem zG1{A:Around}{s:Shared}{x:V}{v:Value}(rx:RelV x v)(fx:zGP x=true):∀{xs:List V}{us:List Value},Vals xs us->xs.all zGP=true->∀u∈us,SeqAt.EqAt A s u v (eqU x u)
 |_,_,.nil,_=>fun u hu=>by cases hu
 |y::xs,u::us,.cons r t,f=>fun u' hu=>by
  rw[qCn,qBf]at f
  rcases qA9.mp hu with rfl|hu
  ·rw[zV1 r f.1];exact zV2 r rx f.1 fx
  ·exact zG1 rx fx t f.2 u' hu
def inV(x:V)(xs:List V):Bool:=xs.any fun y=>eqV y x
def rIn(K:qA2)(neg:Bool):R2:=fun x y H Q=>∃p xs,y=.ref p/\(SqL K H p xs\/SqT K H p xs)/\zGP x=true/\xs.all zGP=true/\Q (.bl (if neg then !inV x xs else inV x xs)) H
theorem zR2:OpR X (compareOp .In) (rIn X.K false):=by
 intro pins s σ H x y v u Q I rx ry h;obtain⟨p,xs,rfl,hq,fx,fs,q⟩:=h;cases ry
 rcases hq with hq|hq
 ·obtain⟨its,r,pl,hz⟩:=I.list hq;refine SeqAt.in_listAt (eqU x) pl.isList (fun w hw=>zG1 rx fx r fs w (by simpa using hw)) ⟨.bl _,H,I,rfl,?_⟩;rw[show its.toArray.any (eqU x)=its.any (eqU x) by simp,zIZ r fs];exact q
 ·obtain⟨its,r,pl,hz⟩:=I.tuple hq;refine SeqAt.in_tupleAt (eqU x) pl (fun w hw=>zG1 rx fx r fs w (by simpa using hw)) ⟨.bl _,H,I,rfl,?_⟩;rw[show its.toArray.any (eqU x)=its.any (eqU x) by simp,zIZ r fs];exact q
theorem zLL:OpR X (compareOp .NotIn) (rIn X.K true):=by
 intro pins s σ H x y v u Q I rx ry h;obtain⟨p,xs,rfl,hq,fx,fs,q⟩:=h;cases ry
 rcases hq with hq|hq
 ·obtain⟨its,r,pl,hz⟩:=I.list hq;refine SeqAt.notIn_listAt (eqU x) pl.isList (fun w hw=>zG1 rx fx r fs w (by simpa using hw)) ⟨.bl _,H,I,rfl,?_⟩;rw[show its.toArray.any (eqU x)=its.any (eqU x) by simp,zIZ r fs];exact q
 ·obtain⟨its,r,pl,hz⟩:=I.tuple hq;refine SeqAt.notIn_tupleAt (eqU x) pl (fun w hw=>zG1 rx fx r fs w (by simpa using hw)) ⟨.bl _,H,I,rfl,?_⟩;rw[show its.toArray.any (eqU x)=its.any (eqU x) by simp,zIZ r fs];exact q
theorem zLK:OpR X (compareOp .NotIn) (fun x y H Q=>∃i j,x=.str i/\y=.str j/\Q (.bl (!(!(Builtin.Str.occurrences j i 0 j.length 1).isEmpty))) H):=by
 intro pins s σ H x y v u Q I rx ry h;obtain⟨i,j,rfl,rfl,q⟩:=h;obtain⟨t,rfl⟩:=rx;obtain⟨t',rfl⟩:=ry;exact notIn_str ⟨.bl _,H,I,rfl,q⟩
theorem zMB:zDL X (.builtin "len") (fun xs H Q=>∃p ys,xs=[.ref p]/\(SqL X.K H p ys\/SqT X.K H p ys)/\Q (.int ys.length) H):=by
 intro pins s σ H xs us Q I r h;obtain⟨p,ys,rfl,hq,q⟩:=h;obtain⟨u,rfl,rx⟩:=zFL r;cases rx;have hn:=zIA
 rcases hq with hq|hq
 ·obtain⟨its,r',pl,hz⟩:=I.list hq;have hlen:=r'.length;exact Calls.call_len_list pl.isList (by simp only[qAh]<;>omega) ⟨.int ys.length,H,I.tok _,⟨s.toks+1,by rw[qAh,hlen]⟩,q⟩
 ·obtain⟨its,r',pl,hz⟩:=I.tuple hq;have hlen:=r'.length;exact len_tuple pl (by simp only[qAh]<;>omega) ⟨.int ys.length,H,I.tok _,⟨s.toks+1,by rw[qAh,hlen]⟩,q⟩
theorem zMA:zDL X (.builtin "len") (fun xs H Q=>∃z,xs=[.str z]/\z.length<=sizeLine/\Q (.int z.length) H):=by
 intro pins s σ H xs us Q I r h;obtain⟨z,rfl,hz,q⟩:=h;obtain⟨u,rfl,t,rfl⟩:=zFL r;have hn:=zIA;exact len_str (by omega) ⟨.int z.length,H,I.tok _,⟨_,rfl⟩,q⟩
theorem zM9:zDL X (.type "list") (fun xs H Q=>∃p ys,xs=[.ref p]/\(SqL X.K H p ys\/SqT X.K H p ys)/\∀l,H l=none->Q (.ref l) (upd H l (.lst ys))):=by
 intro pins s σ H xs us Q I r h;obtain⟨p,ys,rfl,hq,q⟩:=h;obtain⟨u,rfl,rx⟩:=zFL r;cases rx;have fin:∀(its:List Value),Vals ys its->ys.length<=sizeLine->∀(h':Heap)(c':Nat),(∀b o',s.heap.get? b=some o'->h'.get? b=some o') ->
   h'.get? s.heap.objs.size=some { cls:=.type "list",dict:=none,data:=.seq its.toArray c',slots:=#[] }->EP X pins σ Q (.ref s.heap.objs.size) { s with heap:=h' }:=fun its r' hz h' c' kp e=>
  ⟨.ref s.heap.objs.size,_,I.laid (t':=s.toks) kp (qA7 _) (show ObjOk X.prog X.w _ h' _ (.lst ys) from⟨hz,its,c',r',e⟩),rfl,q _ (I.hok.fresh (qA7 _))⟩
 rcases hq with hq|hq
 ·obtain⟨its,r',pl,hz⟩:=I.list hq;have hlen:=r'.length;obtain⟨o,ho,hc,n,hd⟩:=pl.isList;exact call_list_seq p (.inl rfl) ho hc hd (fun h' c' kp e=>fin its r' hz h' c' kp e) (by simp only[qAh]<;>omega)
 ·obtain⟨its,r',pl,hz⟩:=I.tuple hq;have hlen:=r'.length;obtain⟨o,ho,hc,n,hd⟩:=pl;exact call_list_seq p (.inr rfl) ho hc hd (fun h' c' kp e=>fin its r' hz h' c' kp e) (by simp only[qAh]<;>omega)
def tyV(K:qA2)(T:String)(x:V)(H:Hp):Prop:=match x with
 |.str _=>T = "str"
 |.int _=>T = "int"
 |.ref p=>(T = "list"/\∃xs,SqL K H p xs)\/(T = "tuple"/\∃o,K.lookup p=some o/\o.cls=.type "tuple"/\o.dict=none) \/
   (T = "dict"/\((∃kvs,H p=some (.dK kvs))\/∃kvs,H p=some (.dT kvs)))\/(T = "set"/\∃S n,H p=some (.set S n))
 |_=>False
theorem zXN{pins:List (Addr×Obj)}{σ:St}{H:Hp}{s:Shared}{T:String}{x:V}{v:Value}(I:Inv X pins σ H s)(r:RelV x v)(ty:tyV X.K T x H) :
  s.TypeIs v T/\∀a,v=.ref a->∃ob,s.heap.get? a=some ob/\ob.dict=none:=by
 cases x with
 |str z=>
  obtain⟨t,rfl⟩:=r
  cases(show T = "str" from ty)
  exact⟨typeIs_str s z t,fun _ e=>nomatch e⟩
 |int i=>
  obtain⟨t,rfl⟩:=r
  cases(show T = "int" from ty)
  exact⟨typeIs_int s i t,fun _ e=>nomatch e⟩
 |ref p=>
  cases r
  rcases ty with⟨rfl,xs,hq⟩|⟨rfl,o,hk,hc,hd⟩|⟨rfl,hk⟩|⟨rfl,S,n,hk⟩
  ·obtain⟨its,_,pl,_⟩:=I.list hq;refine⟨pl.isList.typeIs,fun a e=>?_⟩;cases e;obtain⟨o,n,e,c,hd,_⟩:=pl;exact⟨o,e,hd⟩
  ·refine⟨⟨o,I.kIn p o hk,hc⟩,fun a e=>?_⟩;cases e;exact⟨o,I.kIn _ o hk,hd⟩
  ·have z:∃o,s.heap.get? p=some o/\o.ExactDict:=by
    rcases hk with⟨kvs,hk⟩|⟨kvs,hk⟩
    ·obtain⟨_,_,_,_,o,_,_,e,ex,_⟩:=I.hok p _ hk;exact⟨o,e,ex⟩
    ·obtain⟨_,_,_,_,o,_,_,e,ex,_⟩:=I.hok p _ hk;exact⟨o,e,ex⟩
   obtain⟨o,e,ex⟩:=z;refine⟨⟨o,e,ex.1⟩,fun a e2=>?_⟩;cases e2;exact⟨o,e,ex.2.1⟩
  ·obtain⟨o,_,_,_,e,ex,_⟩:=I.hok p _ hk;refine⟨⟨o,e,ex.1⟩,fun a e2=>?_⟩;cases e2;exact⟨o,e,ex.2.1⟩
 |_=>exact qA5 ty
variable{o e:Expr}{es:List Expr}{to:TE}{t:TA}{name:Str}{apos cpos:Pos}{T id:String}{r:V->List V->Hp->VK->Prop}
end
end L2
namespace L2
open PySem PySem.Spec PyProof.Rows
def MtM(X:Cx)(id:String)(r:V->List V->Hp->VK->Prop):Prop:=
 ∀(pins:List (Addr×Obj))(s:Shared)(σ:St)(H:Hp)(x:V)(xs:List V)(v:Value)(us:List Value)(Q:VK),Inv X pins σ H s->RelV x v->Vals xs us->r x xs H Q ->
  wpAny (model X.prog X.w) X.A (call (.builtin id) (v::us)) (EP X pins σ Q) X.xe s
theorem Vals.one:∀{x:V}{us:List Value},Vals [x] us->∃u,us=[u]/\RelV x u
 |_,_,.cons r .nil=>⟨_,rfl,r⟩
theorem Vals.rep{xs:List V}{us:List Value}(h:Vals xs us):∀k:Nat,Vals (qA6 k xs).flatten (qA6 k us).flatten
 |0=>.nil
 |k+1=>by
  rw[qB5,qB5,qBl,qBl];exact Vals.append h (Vals.rep h k)
theorem zLX(its:List Value):∀(k:Nat)(acc:List Value),
  qGk (fun x1 x2=>x1++x2) acc.toArray (qA6 k its.toArray)=(acc++(qA6 k its).flatten).toArray
 |0,acc=>by simp
 |k+1,acc=>by
  have e:acc.toArray++its.toArray=(acc++its).toArray:=by simp
  have e2:(acc++its)++(qA6 k its).flatten=acc++(qA6 (k+1) its).flatten:=by
   rw[qB5,qBl,qCa]
  rw[<- e2,<- zLX its k (acc++its),<- e,qB5,qCo]
section
variable{X:Cx}{pins:List (Addr×Obj)}{σ:St}{H:Hp}{s:Shared}{l b:Addr}{xs ys zs:List V}
theorem Inv.lset{its its':List Value}{n:Nat}{f:Array Value->Array Value}{t':Nat}(I:Inv X pins σ H s)(hH:H l=some (.lst xs))
  (e:s.heap.get? l=some { cls:=.type "list",data:=.seq its.toArray n }) (hf:f its.toArray=its'.toArray) (hv:Vals ys its') (hz:ys.length<=sizeLine) :
  Inv X pins σ (upd H l (.lst ys)) { s with heap:=s.heap.update l (Obj.mapSeq f),toks:=t' }:=by
 have q:=PySem.IsL.update e f;rw[hf]at q;refine I.write (x:=l) (e:=l) (by rw[hH];exact trivial) (.inl rfl) (fun b' u hb hu=>(Heap.get?_update_other s.heap (Obj.mapSeq f) (qDs hb)).trans hu) ⟨_,q⟩ ?_;exact⟨hz,its',_,hv,q⟩
theorem Inv.lnew{its:List Value}{t':Nat}(I:Inv X pins σ H s)(hv:Vals ys its)(hz:ys.length<=sizeLine) :
  Inv X pins σ (upd H s.heap.objs.size (.lst ys)) { s with heap:=s.heap.push { cls:=.type "list",data:=.seq its.toArray },toks:=t' }:=
 I.laid (fun _ _ q=>Heap.get?_push_of_some _ q) (qA7 _) ⟨hz,its,0,hv,Heap.get?_push_size _ rfl⟩
theorem Inv.fresh(I:Inv X pins σ H s):H s.heap.objs.size=none:=I.hok.fresh (qA7 _)
theorem Inv.lstM(I:Inv X pins σ H s)(hH:H l=some (.lst xs)):xs.length<=sizeLine/\∃(its:List Value)(n:Nat),Vals xs its/\xs.length=its.length/\s.heap.get? l=some { cls:=.type "list",data:=.seq its.toArray n }:=by
 obtain⟨z,its,n,r,e⟩:=I.hok l _ hH;exact⟨z,its,n,r,r.length,e⟩
theorem zOE{n:Nat}(h:n<=sizeLine):Builtin.List.listTooLong n=false:=by
 unfold Builtin.List.listTooLong;exact decide_eq_false (by omega)
end
section
variable{X:Cx}
def zW0:V->List V->Hp->VK->Prop:=fun x vs H Q=>∃l xs y,x=.ref l/\vs=[y]/\H l=some (.lst xs)/\xs.length<sizeLine/\Q .non (upd H l (.lst (xs++[y])))
theorem zR9:MtM X "list.append" zW0:=by
 intro pins s σ H x vs v us Q I rx rv h;obtain⟨l,xs,y,rfl,rfl,hH,hz,q⟩:=h;cases rx;obtain⟨u,rfl,ru⟩:=rv.one;obtain⟨z,its,n,r,hl,e⟩:=I.lstM hH;refine call_meets F.slot_list_append ⟨_,e,rfl⟩ F.entry_list_append (F.args_list_append_2 _ _) (PySem.list_append l its.toArray n u (by rw[qAh];omega)) ⟨e,?_⟩;refine⟨.non,_,I.lset (its':=its++[u]) hH e (by simp) (r.append (.cons ru .nil)) ?_,rfl,q⟩;rw[qAe,qAx];omega
def zVY:V->List V->Hp->VK->Prop:=fun x vs H Q=>∃l b xs zs,x=.ref l/\vs=[.ref b]/\H l=some (.lst xs)/\H b=some (.lst zs)/\xs.length+zs.length<=sizeLine/\Q .non (upd H l (.lst (xs++zs)))
theorem mt_extend:MtM X "list.extend" zVY:=by
 intro pins s σ H x vs v us Q I rx rv h;obtain⟨l,b,xs,zs,rfl,rfl,hH,hB,hz,q⟩:=h;cases rx;obtain⟨u,rfl,ru⟩:=rv.one;cases ru;obtain⟨z,its,n,r,hl,e⟩:=I.lstM hH;obtain⟨z2,its2,n2,r2,hl2,e2⟩:=I.lstM hB;have hsz:its.toArray.size+its2.toArray.size<=sizeLine:=by rw[qAh,qAh];omega
 have hlong:¬(!its.toArray.isEmpty&&Builtin.List.listTooLong (its.toArray.size+its2.toArray.size))=true:=by
  rw[zOE hsz,qCg];exact qAc
 refine call_meets F.slot_list_extend ⟨_,e,rfl⟩ F.entry_list_extend (F.args_list_extend_2 _ _)
  (AutoSeq1.list_extend_list_list_0 l its.toArray n b its2.toArray n2 hlong (by rw[qAh];omega) (by omega)) ⟨e,e2,?_⟩
 refine⟨.non,_,I.lset (its':=its++its2) hH e (by simp) (r.append r2) ?_,rfl,q⟩;rw[qAe];omega
def rCat:R2:=fun x y H Q=>∃l b xs zs,x=.ref l/\y=.ref b/\H l=some (.lst xs)/\H b=some (.lst zs)/\xs.length+zs.length<=sizeLine/\∀p,H p=none->Q (.ref p) (upd H p (.lst (xs++zs)))
theorem zYW:OpR X (binaryOp .Add) rCat:=by
 intro pins s σ H x y v u Q I rx ry h;obtain⟨l,b,xs,zs,rfl,rfl,hH,hB,hz,q⟩:=h;cases rx;cases ry;obtain⟨z,its,n,r,hl,e⟩:=I.lstM hH;obtain⟨z2,its2,n2,r2,hl2,e2⟩:=I.lstM hB;refine PySem.P.add_list e e2 ?_ (by rw[qAh,qAh];omega);have ea:its.toArray++its2.toArray=(its++its2).toArray:=by simp
 rw[ea];exact⟨.ref _,_,I.lnew (t':=s.toks) (r.append r2) (by rw[qAe];omega),rfl,q _ I.fresh⟩
def rRep:R2:=fun x y H Q=>∃l k xs,x=.ref l/\y=.int k/\H l=some (.lst xs)/\-(2 ^ 63)<=k/\k<2 ^ 63/\xs.length*k.toNat<=sizeLine /\
 ∀p,H p=none->Q (.ref p) (upd H p (.lst (qA6 k.toNat xs).flatten))
theorem zWK{α:Type}(xs:List α)(k:Nat):(qA6 k xs).flatten.length=k*xs.length:=by
 induction k with
 |zero=>simp
 |succ k ih=>rw[qB5,qBl,qAe,ih,Nat.succ_mul,Nat.add_comm]
theorem zYQ:OpR X (binaryOp .Mult) rRep:=by
 intro pins s σ H x y v u Q I rx ry h;obtain⟨l,k,xs,rfl,rfl,hH,h1,h2,hz,q⟩:=h;cases rx;obtain⟨t,rfl⟩:=ry;obtain⟨z,its,n,r,hl,e⟩:=I.lstM hH;have hlen:its.toArray.size*k.toNat<=sizeLine:=by rw[qAh,<- hl];exact hz
 have hcap:¬its.toArray.size*k.toNat>(2 ^ 63-1)/8:=by
  have:(sizeLine:Nat)<=(2 ^ 63-1)/8:=by decide
  omega
 have hfit:¬(!Builtin.List.listFitsIndex k)=true:=by
  rw[fitsIndex_both h1 h2];exact qAc
 have hlong:¬Builtin.List.listTooLong (its.toArray.size*k.toNat)=true:=by
  rw[zOE hlen];exact qAc
 have hnew:qGk (fun x1 x2=>x1++x2) #[] (qA6 (if its.toArray.isEmpty=true then 0 else k.toNat) its.toArray)=(qA6 k.toNat its).flatten.toArray:=by
  have f0:∀m:Nat,qGk (fun x1 x2=>x1++x2) #[] (qA6 m its.toArray)=(qA6 m its).flatten.toArray:=fun m=>by
   have:=zLX its m []
   rw[qFo]at this;exact this
  rw[f0];cases its with
  |nil=>simp
  |cons a r'=>rw[if_neg (by simp)]
 refine wpAny_binaryOp_repeat_ref (T:="list") (U:="int") (by decide) ⟨_,e,rfl⟩ (fun s'=>typeIs_int s' k t) noFill_list_mul F.fills_int_mul F.slot_int_rmul repeat_list F.slot_int_index.lookup
  (call_meets F.slot_int_rmul (typeIs_int s k t) F.entry_int_rmul (F.args_int_rmul_2 _ _) (int___rmul___int_list k t l its.toArray n)
   ⟨e,rfl,⟨_,e,rfl⟩,call_meets F.slot_list_mul ⟨_,e,rfl⟩ F.entry_list_mul (F.args_list_mul_2 _ _) (AutoListH.list___mul___list_int_3 l its.toArray n k t hfit hcap hlong) ⟨e,?_⟩⟩)
 rw[hnew];exact⟨.ref _,_,I.lnew (t':=s.toks) (r.rep k.toNat) (by rw[zWK,qD9];exact hz),rfl,q _ I.fresh⟩
end
section
variable{prog:Program}{w:World}{A:Around}{E:Value->Shared->Prop}{s:Shared}
end
section
variable{X:Cx}
end
end L2
namespace L2
open PySem PySem.Spec PyProof.Rows
section
variable{κ:Type}[DecidableEq κ]
noncomputable def zZM(kvs:List (κ×V))(k:κ):List (κ×V):=kvs.filter fun kv=>decide (kv.1≠k)
theorem KV.drop{kvs:List (κ×V)}{vs:List (κ×Value)}(r:KV kvs vs)(k:κ):KV (zZM kvs k) (without vs k):=by
 unfold KV at r ⊢;unfold zZM without
 induction r with
 |nil=>exact .nil
 |@cons p q ps qs h t ih=>
  obtain⟨h1,h2⟩:=h;rw[qE7,qE7]
  by_cases e:p.1=k
  ·have a:¬decide (p.1≠k)=true:=by simp[e]
   have b:¬decide (q.1≠k)=true:=by simp[h1.symm.trans e]
   rw[if_neg a,if_neg b];exact ih
  ·have e':¬q.1=k:=fun z=>e (h1.trans z)
   have a:decide (p.1≠k)=true:=by simp[e]
   have b:decide (q.1≠k)=true:=by simp[e']
   rw[if_pos a,if_pos b];exact .cons ⟨h1,h2⟩ ih
end
section
variable{P:Program}{w:World}{H:Hp}{h:Heap}{a:Addr}
end
section
variable{X:Cx}{pins:List (Addr×Obj)}{σ:St}{H:Hp}{s:Shared}{a:Addr}{y v:V}{u r:Value}{o:Option V}{A:Around}{E:Value->Shared->Prop}
end
section
variable{X:Cx}{pins:List (Addr×Obj)}{σ:St}{H:Hp}{s:Shared}{a:Addr}{kvs:List (Key×V)}{k:Key}{u:Value}{A:Around}{E:Value->Shared->Prop}
end
section
variable{X:Cx}{o i e value:Expr}{pos pos' tpos:Pos}{td ty tv:TE}
end
section
variable{X:Cx}{pos:Pos}
end
structure M1(X:Cx)(o:Expr)(m:Str)(apos:Pos)(e:Expr)(cpos:Pos):Prop where
 base:attributeBase o m X.env (eval o X.env)=eval o X.env
 few:((backTo cpos (starEach [e] X.env)).all (fun x=>!x.1)&&(backToKw cpos (keywordEach [] X.env)).all (fun x=>x.1.isSome)
  && decide (([e]:List Expr).length+([]:List Keyword).length+(if([]:List Keyword).isEmpty then 0 else 1)<30))=true
 line:(apos.endLine==cpos.line)=true
 trees:backTo cpos (starEach [e] X.env)=[(false,eval e X.env)]
structure M2(X:Cx)(o:Expr)(m:Str)(apos:Pos)(e f:Expr)(cpos:Pos):Prop where
 base:attributeBase o m X.env (eval o X.env)=eval o X.env
 few:((backTo cpos (starEach [e,f] X.env)).all (fun x=>!x.1)&&(backToKw cpos (keywordEach [] X.env)).all (fun x=>x.1.isSome)
  && decide (([e,f]:List Expr).length+([]:List Keyword).length+(if([]:List Keyword).isEmpty then 0 else 1)<30))=true
 line:(apos.endLine==cpos.line)=true
 trees:backTo cpos (starEach [e,f] X.env)=[(false,eval e X.env),(false,eval f X.env)]
section
variable{X:Cx}{pins:List (Addr×Obj)}{σ:St}{H:Hp}{s:Shared}{a:Addr}{y d:V}{u r:Value}{o:Option V}{A:Around}{E:Value->Shared->Prop}
end
section
variable{X:Cx}{o e f:Expr}{apos cpos:Pos}{td ty tx:TE}
end
section
variable{X:Cx}{pins:List (Addr×Obj)}{σ:St}{H:Hp}{s:Shared}{a:Addr}{kvs:List (Key×V)}{A:Around}{E:Value->Shared->Prop}
end
section
variable{X:Cx}{pins:List (Addr×Obj)}{σ:St}{H:Hp}{s:Shared}{a:Addr}{y:V}{u:Value}{A:Around}{E:Value->Shared->Prop}
end
end L2
namespace Att
open PySem PySem.W PySem.Calls PyProof.Rows
theorem zIE{P:Params}{h:Heap}:∀(ns:List Int)(vs:List Value),WellAll P h vs (ns.map WData.int)->IntsAre vs ns:=by
 intro ns
 induction ns with
 |nil=>
  intro vs w;rw[qGy]at w;cases w;exact .nil
 |cons n ns ih=>
  intro vs w;rw[qAd]at w;cases w with
  |cons a b=>
   cases a;exact .cons _ _ (ih _ b)
theorem zQI{l:OpenLaw}{n:Nat}(hn:l.most=some n){P:Params}{h:Heap}{args:List WData}{vals:List Value}
  (hpre:l.row.toRowW.claim.pre args=true) (hwl:WellAll P h vals args) :
  ∃a vs ns,vals=[Value.ref a]/\args=[WData.list (ns.map WData.int)]/\h.get? a=some { cls:=.type "list",data:=.seq vs.toArray }/\IntsAre vs ns/\ns.length<=n:=by
 have hsh:WShape.hasAll [] args [.list .int]=true:=(pre_splitW hpre).1;have hc:l.pre.holds [] { args:=args }=true:=(pre_splitW hpre).2;obtain⟨d,r,rfl,h1,h2⟩:=hasAllW_cons hsh;obtain rfl:=hasAllW_nil h2;obtain⟨xs,rfl,h3⟩:=hasW_list h1;obtain⟨ns,rfl⟩:=items_int h3;have hlen:ns.length<=n:=by
  unfold OpenLaw.pre at hc;have h4:(WTm.not (.lt (.lit (.int (n:Int))) (.len (.arg 0)))).holds [] { args:=[.list (ns.map .int)] }=true:=by
   have h4:=(holds_andW hc).1;rw[hn]at h4;exact h4
  have h5:=condW_of h4 (w_not (w_lt w_lit (w_len_list (w_arg rfl))));rw[qAl]at h5;refine Nat.le_of_not_lt fun q=>?_
  have q':(n:Int)<((ns.length:Nat):Int):=by omega
  first
   |(rw[decide_eq_true q']at h5;exact absurd h5 (by decide))
   |(simp at h5;omega)
 cases hwl with
 |cons w1 w2=>
  cases w2;cases w1 with
  |list ho hall=>exact⟨_,_,ns,rfl,rfl,ho,zIE ns _ hall,hlen⟩
theorem zQT(l:OpenLaw)(args:List WData):l.row.toRowW.claim.post args (.bool true) args=true:=
 postW_of (r:=l.row.toRowW) (X:=(true==true))
  (show WShape.has [] (.bool true) .bool=true by first|rfl|decide|simp[WShape.has,WShape.arms,WShape.armsAll])
  (show(WTm.eq .res (.lit (.bool true))).value [] { args:=args,res:=some (.bool true),after:=args }=some (.bool (true==true)) from w_eq_bool (w_res rfl) w_lit) rfl
section
variable{prog:Program}{w:World}{A:Around}{E:Value->Shared->Prop}{s:Shared}{K:Frag}
end
end Att
namespace L2
open PySem PySem.Spec PyProof.Rows
theorem zL2:∀{vs:List Value}{ns:List Int},IntsAre vs ns->Vals (ns.map V.int) vs
 |_,_,.nil=>.nil
 |_,_,.cons n t h=>.cons ⟨t,rfl⟩ (zL2 h)
def Only(H:Hp):Prop:=∀b,H b=none\/∃o xs,H b=some (.frz o (.lst xs))
theorem zTH{P:Program}{w:World}{K:qA2}{mg mb:Str->Option Value}{CX:CXT}{k:Nat}{fa a:Addr}{fd:FuncData}{x:Str}{sp:Sp}{s₁:Shared}{vs:List Value}{ns:List Int}
  (KX:K.In s₁.heap) (hns:s₁.heap.Ns mainGlobals mg) (hb:s₁.heap.Ns builtinsNs mb) (hbb:∀x:Str,x≠"__name__"->mb x=bootBuiltins x) (hlim:s₁.heap.NoLimit) (hg:s₁.gens=#[])
  (ha:s₁.heap.get? a=some { cls:=.type "list",data:=.seq vs.toArray }) (hi:IntsAre vs ns) (hl:ns.length<=sizeLine) (hr:Room k callerA)
  (F:∀base:Heap,K.In base->base.Ns mainGlobals mg->FnOk P w K mg base CX k fa fd [x] sp) (hbind:∀(s:Shared)(u:Value),BindsTo s fd ⟨[u],[]⟩ [(x,u)])
  (hsp:∀H:Hp,Only H->SqL K H a (ns.map V.int)->sp [.ref a] H (fun v _=>v=.bl true) fun _ _ _=>False)
  (hCX:∀H e s',CX [] H s₁ (fun _ _ _=>False) e s'->False) :
  codeAny (model P w) callerA (.call (.ref fa) ⟨[.ref a],[]⟩) (fun r s'=>r=.ok (.ret (.bool true))/\OldK s₁.heap s'.heap/\s'.os=s₁.os/\AllBare s'.gens) s₁:=by
 have rv:=zL2 hi;have lenV:=hi.length;have core:∀H:Hp,Only H->SqL K H a (ns.map V.int)->HOk P w H s₁.heap->(∀b,H b≠none->b=a)->(H a≠none->K.lookup a=none) ->
   codeAny (model P w) callerA (.call (.ref fa) ⟨[.ref a],[]⟩) (fun r s'=>r=.ok (.ret (.bool true))/\OldK s₁.heap s'.heap/\s'.os=s₁.os/\AllBare s'.gens) s₁:=by
  intro H hO hS hok hA hK;have base_of:∀{b:Addr}{o:Obj},s₁.heap.get? b=some o->H b=none->(hidT s₁.heap H).get? b=some o:=fun e n=>zTN e n
  have noA:∀{b:Addr}{o:Obj}{es:Array DictEntry}{ep:Nat},s₁.heap.get? b=some o->o.data=.dict es ep->H b=none:=fun{b o es ep} e d=>by
   cases q:H b with
   |none=>rfl
   |some u=>
    have e':b=a:=hA b (by rw[q];simp);subst e';rw[ha]at e;cases e;have d':Data.seq vs.toArray _=Data.dict es ep:=d;cases d'
  have nsK:∀{b:Addr}{m:Str->Option Value},s₁.heap.Ns b m->(hidT s₁.heap H).Ns b m:=fun{b m} ⟨o,es,ep,e,d,r⟩=>⟨o,es,ep,base_of e (noA e d),d,r⟩
  have hKb:K.In (hidT s₁.heap H):=fun b o e=>base_of (KX b o e) (by
   cases q:H b with
   |none=>rfl
   |some u=>
    have e':b=a:=hA b (by rw[q];simp);subst e';rw[hK (by rw[q];simp)]at e;cases e)
  have hM:Mod K mg (hidT s₁.heap H):=⟨hKb,nsK hns,⟨mb,nsK hb,hbb⟩,let⟨mc,h1,h2⟩:=hlim;⟨mc,nsK h1,h2⟩⟩
  have e0:Env0 P w K mg (hidT s₁.heap H) callerA [] s₁ H:=⟨rfl,hM,fun b o e=>zW8 e,qEd (zRQ _ _),trivial,fun b hb=>absurd (show b∈([]:List Addr) from hb) (by simp),hok,.of_eq hg⟩
  refine codeAny_mono ((F _ hKb (nsK hns)).run callerA [] s₁ H ⟨[.ref a],[]⟩ [.ref a] [.ref a] _ _ hr e0 (hbind s₁ (.ref a)) (.cons rfl .nil) (hsp H hO hS)) fun r s' h=>?_
  cases r with
  |error e=>exact(hCX H e s' h).elim
  |ok fl=>
   cases fl with
   |next=>exact qA5 h
   |brk=>exact qA5 h
   |cont=>exact qA5 h
   |ret u=>
    obtain⟨v,H',os,bare,un,hok',r',q⟩:=h;have q':v=.bl true:=q;subst q';obtain rfl:u=Value.bool true:=r';refine⟨rfl,OldK.of_keep fun b o e=>?_,os,bare⟩;cases q:H b with
    |none=>exact un.keep b o e q (by intro z;exact absurd (show b∈([]:List Addr) from z) (by simp)) (by simp)
    |some u=>
     rcases hO b with z|⟨ob,xs,z⟩
     ·rw[q]at z;cases z
     ·have z2:=un.frzs b ob _ z;obtain⟨e1,_⟩:=hok b _ z;obtain⟨e2,_⟩:=hok' b _ z2;rw[e]at e1;cases e1;exact e2
 cases hk:K.lookup a with
 |some o=>
  have e:=KX a o hk;rw[ha]at e;cases e;refine core (fun _=>none) (fun _=>.inl rfl) (.inr ⟨_,vs.toArray,_,hk,rfl,rfl,rfl,by rw[qAh,lenV];exact hl,by simpa using rv⟩) (fun b u z=>by have z':(none:Option HO)=some u:=z;cases z') (fun b z=>absurd rfl z) fun z=>absurd rfl z
 |none=>
  refine core (fun b=>if b=a then some (.frz { cls:=.type "list",data:=.seq vs.toArray } (.lst (ns.map V.int)))else none) (fun b=>?_) (.inl (.inr ⟨{ cls:=.type "list",data:=.seq vs.toArray },if_pos rfl⟩)) (fun b u z=>?_) (fun b z=>?_) fun _=>hk
  ·by_cases hb:b=a
   ·exact .inr ⟨_,_,if_pos hb⟩
   ·exact .inl (if_neg hb)
  ·by_cases hb:b=a
   ·have z':=(if_pos hb).symm.trans z;cases z';subst hb;exact⟨ha,by rw[qAl];exact hl,vs,_,rv,ha⟩
   ·have z':=(if_neg hb).symm.trans z;cases z'
  ·by_cases hb:b=a
   ·exact hb
   ·exact absurd (if_neg hb) z
noncomputable def zEG(s:Stmt):Arguments:=match s with
 |.FunctionDef _ a _ _ _ _ _ _ _ _=>a
 |_=>{ posonlyargs:=[],args:=[],vararg:=none,kwonlyargs:=[],kw_defaults:=[],kwarg:=none,defaults:=[] }
noncomputable def zDE(s:Stmt):List Stmt:=match s with
 |.FunctionDef _ _ b _ _ _ _ _ _ _=>b
 |_=>[]
noncomputable def zAD(s:Stmt):Scope:=match s with
 |.FunctionDef _ _ _ _ _ _ sc _ _ _=>sc
 |_=>{ kind:=.function,names:=[],isGenerator:=false,isCoroutine:=false }
abbrev CX0:CXT:=fun _ _ _ _ _ _=>False
abbrev E0:XK:=fun _ _ _=>False
theorem zaC{X:Cx}:zSI CX0 X E0:=fun _ _ _ _ _ _ _ h=>h.elim
structure Fun(K:qA2)(x qual:Str)(st:Stmt)(f:Addr)(fd:FuncData):Prop where
 ex:∃(oc:Value)(od:Option Addr)(kV doc pm:Value)(an:Option Addr)(cdv ct:Value)(osl:Array (Option Value)),
  fd=qBj x qual (zEG st) (zDE st) (zAD st) .none kV doc pm an cdv ct/\K.lookup f=some ⟨oc,od,.func fd,osl⟩/\qD6 K cdv qual=true
 kp:qB7 K (.ref f)=true
section
variable{P:Program}{w:World}{K:qA2}{mg:Str->Option Value}{base:Heap}
theorem Fun.ok{x qual:Str}{st:Stmt}{f:Addr}{fd:FuncData}{N ps:List Str}{k:Nat}{sp:Sp}(F:Fun K x qual st f fd)(S:FnScope N ps (zAD st))(len:∀vs H Q E,sp vs H Q E->vs.length=ps.length)
  (hbody:∀(cdv:Value)(A:Around)(outer:List Env)(s:Shared)(H:Hp)(vs:List V)(Q:VK)(E:XK),Room k (A.deeper (envOfC qual (zAD st) s.heap.objs.size f cdv))->sp vs H Q E ->
   ∃t,PSs (cxOf CX0 P w K mg base N qual (zAD st) f cdv A outer s H E).nox (zDE st) t/\t { nx:=fun _ H'=>Q .non H',rt:=Q } (start N vs) H):FnOk P w K mg base CX0 (k+1) f fd ps sp:=by
 obtain⟨oc,od,kV,doc,pm,an,cdv,ct,osl,rfl,lk,hcd⟩:=F.ex;refine zaK lk hcd S len fun A outer s H vs Q E hr hsp=>?_
 obtain⟨t,h,q⟩:=hbody cdv A outer s H vs Q E hr hsp;exact⟨t,h.nox,q⟩
theorem Fun.binds{x qual:Str}{st:Stmt}{f:Addr}{fd:FuncData}{ps:List Str}(F:Fun K x qual st f fd)
  (h:∀(kV doc pm:Value)(an:Option Addr)(cdv ct:Value)(us:List Value),us.length=ps.length->bindArgs (qBj x qual (zEG st) (zDE st) (zAD st) .none kV doc pm an cdv ct) ⟨us,[]⟩=pure (ps.zip us)):Binds K fd ps []:=by
 obtain⟨oc,od,kV,doc,pm,an,cdv,ct,osl,rfl,lk,hcd⟩:=F.ex;exact .all (h kV doc pm an cdv ct)
theorem zUX{x qual:Str}{st:Stmt}{f:Addr}{oc:Value}{od an:Option Addr}{osl:Array (Option Value)}{kV doc pm cdv ct:Value}(l:K.lookup f=some ⟨oc,od,.func (qBj x qual (zEG st) (zDE st) (zAD st) .none kV doc pm an cdv ct),osl⟩)
  (c:qD6 K cdv qual=true) (k:qB7 K (.ref f)=true):Fun K x qual st f (qBj x qual (zEG st) (zDE st) (zAD st) .none kV doc pm an cdv ct):=⟨⟨oc,od,kV,doc,pm,an,cdv,ct,osl,rfl,l,c⟩,k⟩
end
section
variable{X:Cx}
end
def Same(H H':Hp):Prop:=∀b o,H b=some o->H' b=some o
theorem Same.refl(H:Hp):Same H H:=fun _ _ h=>h
theorem Same.trans{H H1 H2:Hp}(a:Same H H1)(b:Same H1 H2):Same H H2:=fun c o h=>b c o (a c o h)
theorem Same.free{H H':Hp}(e:Same H H'){l:Addr}(h:H' l=qEq):H l=qEq:=by
 cases q:H l with
 |none=>rfl
 |some o=>
  rw[e l o q]at h;cases h
theorem Same.seq{K:qA2}{H H':Hp}{a:Addr}{xs:List V}(e:Same H H')(h:SqL K H a xs):SqL K H' a xs:=by
 rcases h with(h|⟨o,h⟩)|h
 ·exact .inl (.inl (e _ _ h))
 ·exact .inl (.inr ⟨o,e _ _ h⟩)
 ·exact .inr h
section
variable{κ:Type}[DecidableEq κ]
end
end L2
namespace L2
open PySem PySem.Spec PyProof.Rows
theorem asN{a b:Nat}(h:a<b):a<b:=h
theorem asL{a b:Nat}(h:a<=b):a<=b:=h
theorem asE{a b:Nat}(h:a=b):a=b:=h
noncomputable def clos(cells:List (Str×Addr)):List (Str×NameKind)->List (Str×Addr)->List (Str×Addr)
 |[],acc=>acc
 |(n,k)::r,acc=>if k==.free then clos cells r ((n,(cells.lookup n).getD 0)::acc)else clos cells r acc
theorem zF8(cells:List (Str×Addr)):∀(names:List (Str×NameKind))(acc:List (Str×Addr)),clos cells names acc=clos cells names []++acc
 |[],_=>rfl
 |(n,k)::r,acc=>by
  unfold clos
  split
  ·rw[zF8 cells r (_::acc),zF8 cells r [_],qCa];rfl
  ·exact zF8 cells r acc
theorem zHN{cells:List (Str×Addr)}{x:Str}{c:Addr}:∀{names:List (Str×NameKind)},(x,c)∈clos cells names []->(x,NameKind.free)∈names/\c=(cells.lookup x).getD 0
 |[],h=>by simp[clos]at h
 |(n,k)::r,h=>by
  unfold clos at h
  split at h
  ·rename_i hk
   rw[zF8]at h
   rcases qAv.mp h with h|h
   ·obtain⟨h1,h2⟩:=zHN h;exact⟨qAr _ h1,h2⟩
   ·have e:=qAm.mp h
    injection e with e1 e2
    subst e1;have hk':k=.free:=by simpa using hk
    subst hk';exact⟨qB2,e2⟩
  ·obtain⟨h1,h2⟩:=zHN h;exact⟨qAr _ h1,h2⟩
theorem zKT{cells:List (Str×Addr)}{x:Str}:∀{names:List (Str×NameKind)},(x,NameKind.free)∈names->(x,(cells.lookup x).getD 0)∈clos cells names []
 |[],h=>by simp at h
 |(n,k)::r,h=>by
  unfold clos
  rcases qA9.mp h with e|h
  ·injection e with e1 e2
   subst e1;subst e2;rw[if_pos (by rfl),zF8];exact qAt _ (by simp)
  ·split
   ·rw[zF8];exact qBh _ (zKT h)
   ·exact zKT h
theorem zCG:∀(names:List (Str×NameKind))(n:Nat)(acc:List (Str×Addr)),cellsFrom n names acc=cellsFrom n names []++acc
 |[],_,_=>rfl
 |(x,k)::r,n,acc=>by
  unfold cellsFrom
  split
  ·rw[zCG r (n+1) (_::acc),zCG r (n+1) [_],qCa];rfl
  ·exact zCG r n acc
theorem zDJ{x:Str}{c:Addr}:∀{names:List (Str×NameKind)}{n:Nat},(x,c)∈cellsFrom n names []->(x,NameKind.cell)∈names
 |[],_,h=>by simp[cellsFrom]at h
 |(y,k)::r,n,h=>by
  unfold cellsFrom at h
  split at h
  ·rename_i hk
   rw[zCG]at h
   rcases qAv.mp h with h|h
   ·exact qAr _ (zDJ h)
   ·have e:=qAm.mp h
    injection e with e1 e2
    subst e1;have hk':k=.cell:=by simpa using hk
    subst hk';exact qB2
  ·exact qAr _ (zDJ h)
theorem zCZ{α:Type}{x:Str}{a:α}:∀{l:List (Str×α)},(l.map (·.1)).Nodup->(x,a)∈l->l.lookup x=some a
 |[],_,h=>by simp at h
 |(y,b)::r,nd,h=>by
  have nd':(y::r.map (·.1)).Nodup:=nd;obtain⟨h1,h2⟩:=qB9.mp nd'
  rcases qA9.mp h with e|hm
  ·injection e with e1 e2
   subst e1;subst e2;rw[qBb,beq_self_eq_true]
  ·have hne:(x==y)=false:=by
    rw[beq_eq_false_iff_ne]
    rintro rfl
    exact h1 (qAa.mpr ⟨(x,a),hm,rfl⟩)
   rw[qBb,hne];exact zCZ h2 hm
theorem zFE{α:Type}{x:Str}:∀{l:List (Str×α)},(∀a,(x,a)∉l)->l.lookup x=none
 |[],_=>rfl
 |(y,b)::r,h=>by
  have hne:(x==y)=false:=by
   rw[beq_eq_false_iff_ne]
   rintro rfl
   exact h b qB2
  rw[qBb,hne];exact zFE fun a m=>h a (qAr _ m)
theorem zFD{α:Type}{x:Str}{a:α}:∀{l:List (Str×α)},(x,a)∈l->∃b,l.lookup x=some b
 |[],h=>by simp at h
 |(y,b)::r,h=>by
  rw[qBb];cases e:x==y with
  |true=>exact⟨b,rfl⟩
  |false=>
   rcases qA9.mp h with q|q
   ·injection q with q1 _
    subst q1;rw[beq_self_eq_true]at e;cases e
   ·exact zFD q
theorem zJI{α:Type}{x:Str}:∀(l k:List (Str×α)),(l++k).lookup x=(l.lookup x).or (k.lookup x)
 |[],k=>by simp
 |(y,b)::r,k=>by
  show qFp x ((y,b)::(r++k))=_;rw[qBb,qBb];cases x==y with
  |true=>rfl
  |false=>exact zJI r k
def zZW(sc:Scope)(env:Env):Prop:=∀x,(x,NameKind.free)∈sc.names->env.kindOf x=some .cell\/env.kindOf x=some .free
theorem zGE{sc:Scope}{env:Env}(h:∀x,(x,NameKind.free)∈sc.names->∃c,env.cells.lookup x=some c):closureFor sc env=pure (clos env.cells sc.names []):=by
 have go:∀(names:List (Str×NameKind))(acc:List (Str×Addr)),(∀x,(x,NameKind.free)∈names->∃c,env.cells.lookup x=some c) ->
   (forIn names acc fun(x:Str×NameKind)(cs:List (Str×Addr))=>(match x with|(name,kind)=>if(kind==NameKind.free)=true then(do let c <- cellOf env name;pure (qC5 ((name,c)::cs)))else pure (qC5 cs):Sem (ForInStep (List (Str×Addr)))))=pure (clos env.cells names acc):=by
  intro names
  induction names with
  |nil=>intro acc _;rfl
  |cons p r ih=>
   intro acc hn;obtain⟨n,k⟩:=p;have hr:∀x,(x,NameKind.free)∈r->∃c,env.cells.lookup x=some c:=fun x hx=>hn x (qAr _ hx)
   rw[List.forIn_cons];unfold clos
   by_cases hk:(k==NameKind.free)=true
   ·have hk':k=.free:=by simpa using hk
    subst hk';obtain⟨c,hc⟩:=hn n qB2;have e:cellOf env n=pure c:=by unfold cellOf;rw[hc]
    rw[if_pos (by rfl)];simp only[if_pos (show(NameKind.free==NameKind.free)=true from rfl),e,hc,qE8,pure_bind];exact ih _ hr
   ·rw[if_neg hk];simp only[if_neg hk,pure_bind];exact ih _ hr
 unfold closureFor;have q:=go sc.names [] h
 first
  |(rw[show(forIn sc.names ([]:List (Str×Addr)) _:Sem (List (Str×Addr)))=_ from q];rfl)
  |(refine(congrArg (fun z=>z >>= pure) q).trans ?_;rfl)
  |(simp only[q];rfl)
  |exact q
def zF7(sc:Scope)(C:Addr)(env:Env):Env:=
 { scope:=relabel sc env,locals:=C,globals:=env.globals,cells:=cellsFrom (C+1) sc.names (clos env.cells sc.names []),qual:=env.qual,func:=none,code:=env.code,frame:=env.frame,builtins:=env.builtins }
theorem zFP{M:Model}{A:Around}{E:Value->Shared->Prop}{s:Shared}{sc:Scope}{env:Env}{cl:List (Str×Addr)}{Q:Env->Shared->Prop}
  (hQ:Q { scope:=sc,locals:=s.heap.objs.size,globals:=env.globals,cells:=cellsFrom (s.heap.objs.size+1) sc.names cl,qual:=env.qual,func:=none,code:=env.code,frame:=env.frame,builtins:=env.builtins }
   { s with heap:=pushCells (s.heap.push { cls:=.type "dict",data:=.dict #[] }) sc.names }) :
  wpAny M A (newFunctionEnv sc env.globals cl [] env.qual none .none (some env)) Q E s:=by
 simp only[newFunctionEnv,Option.isSome_some,if_true];refine wpAny_bind (wpAny_alloc ?_);refine wpAny_bind (wpAny_layCells _ (fun name kind cells=>by cases hkc:kind==NameKind.cell<;>simp[hkc]) _ _ _ _ ?_);rw[show({ s with heap:=s.heap.push { cls:=.type "dict",data:=.dict #[] } }:Shared).heap.objs.size=s.heap.objs.size+1 from Heap.size_push ..];refine wpAny_bind ?_;rw[List.forIn_nil];exact wpAny_pure (wpAny_pure hQ)
def zE9(X:Cx)(N':List Str)(sc:Scope)(C:Addr)(s:Shared)(H:Hp)(fp:List Addr):Cx:=
 { X with N:=N',s₀:=s,H₀:=H,env:=zF7 sc C X.env,outer:=X.stack,stack:=X.stack,ex:=fp,fn:=fun x=>sc.names.lookup x==some .cell,pn:=[],xe:=fun _ _=>False }
def PTs(X:Cx)(ifs:List Expr)(t:TT):Prop:=
 ∀(pins:List (Addr×Obj))(s:Shared)(σ:St)(H:Hp)(Q:Bool->Hp->Prop),Inv X pins σ H s->t σ H Q ->
  wpAny (model X.prog X.w) X.A (forIn ifs true fun c r=>if r=true then do let ok <- isTrue c X.env (eval c X.env);pure (qC5 ok)else pure (qC5 r)) (TP X pins σ Q) X.xe s
noncomputable def tYes:TT:=fun _ H Q=>Q true H
theorem zAW{X:Cx}:PTs X [] tYes:=fun _ _ _ H _ I h=>wpAny_tests_nil ⟨H,I,h⟩
theorem zFO{X:Cx}{c:Expr}{t:TT}(h:PT X c t):PTs X [c] t:=fun pins s σ H Q I q=>wpAny_tests_one (h pins s σ H Q I q)
structure CompNames(N N':List Str)(k:Nat)(sc:Scope)(env:Env):Prop where
 kind:sc.kind=.function
 nd:(sc.names.map (·.1)).Nodup
 len:N'.length=N.length+k
 old:∀(i:Nat)(x:Str),N'[i]?=some x->i<N.length->(x,NameKind.free)∈sc.names/\N[i]?=some x\/sc.names.lookup x=none
 free:zZW sc env
theorem zCN{sc:Scope}{env:Env}{x:Str}{k:NameKind}:∀{names:List (Str×NameKind)},
  (names.map fun(n,k)=>if(k==NameKind.free&&env.scope.kind==.function&&env.kindOf n==some .cell)then(n,NameKind.cell)else(n,k)).lookup x=some k ->
  names.lookup x=some k\/(names.lookup x=some .free/\k=.cell)
 |[],h=>by simp at h
 |(n,j)::r,h=>by
  have ih:=@zCN sc env x k r;rw[qAd]at h;rw[qBb]
  by_cases hc:(j==NameKind.free&&env.scope.kind==.function&&env.kindOf n==some .cell)=true
  ·have h':qFp x ((n,NameKind.cell)::(r.map fun(n,k)=>if(k==NameKind.free&&env.scope.kind==.function&&env.kindOf n==some .cell)then(n,NameKind.cell)else(n,k)))=some k:=by
    rw[<- h];simp only[if_pos hc]
   rw[qBb]at h';cases e:x==n with
   |true=>
    rw[e]at h';have hk:k=.cell:=(qAz h').symm;have hj:j=.free:=by
     simp only[qBf,beq_iff_eq]at hc;exact hc.1.1
    subst hj;exact .inr ⟨rfl,hk⟩
   |false=>
    rw[e]at h';exact ih h'
  ·have h':qFp x ((n,j)::(r.map fun(n,k)=>if(k==NameKind.free&&env.scope.kind==.function&&env.kindOf n==some .cell)then(n,NameKind.cell)else(n,k)))=some k:=by
    rw[<- h];simp only[if_neg hc]
   rw[qBb]at h';cases e:x==n with
   |true=>rw[e]at h';exact .inl h'
   |false=>rw[e]at h';exact ih h'
section
variable{X:Cx}{N':List Str}{k:Nat}{sc:Scope}{pins:List (Addr×Obj)}{σ:St}{H:Hp}{s:Shared}
theorem zPL{C:Addr}{x:Str}{c:Addr}(nd:(sc.names.map (·.1)).Nodup)(h:(zF7 sc C X.env).cells.lookup x=some c) :
  ((x,c)∈cellsFrom (C+1) sc.names []/\(x,NameKind.cell)∈sc.names)\/((x,NameKind.free)∈sc.names/\c=(X.env.cells.lookup x).getD 0):=by
 have m:=mem_of_lookup h;have m':(x,c)∈cellsFrom (C+1) sc.names (clos X.env.cells sc.names []):=m;rw[zCG]at m'
 rcases qAv.mp m' with z|z
 ·exact .inl ⟨z,zDJ z⟩
 ·exact .inr (zHN z)
theorem zFG{C:Addr}{x:Str}(nd:(sc.names.map (·.1)).Nodup)(h:(x,NameKind.free)∈sc.names):(zF7 sc C X.env).cells.lookup x=some ((X.env.cells.lookup x).getD 0):=by
 show(cellsFrom (C+1) sc.names (clos X.env.cells sc.names [])).lookup x=_
 rw[zCG,zJI,zFE (fun a m=>?_),Option.none_or]
 ·obtain⟨b,hb⟩:=zFD (zKT (cells:=X.env.cells) h)
  have:=(zHN (mem_of_lookup hb)).2
  rw[hb,this]
 ·have e1:=zCZ nd (zDJ m);rw[zCZ nd h]at e1;cases e1
theorem zTM(I:Inv X pins σ H s)(hc:X.calm=true)(S:CompNames X.N N' k sc X.env){fp:List Addr}(hf:∀b∈fp,FpOk X pins H b)(hfo:∀b∈fp,∃o,s.heap.get? b=some o)
  {s4:Shared} {D C:Addr} (eD:D=s.heap.objs.size) (eC:C=s.heap.objs.size+1)
  (e4:s4={ s with heap:=pushCells ((s.heap.push { cls:=.type "list",data:=.seq #[] 0 }).push { cls:=.type "dict",data:=.dict #[] }) sc.names }) :
  Inv (zE9 X N' sc C s H fp) [(D,{ cls:=.type "list",data:=.seq #[] 0 })] (σ++qA6 k none) H s4/\∀b∈fp,FpOk (zE9 X N' sc C s H fp) [(D,{ cls:=.type "list",data:=.seq #[] 0 })] H b:=by
 subst eD eC e4
 generalize hh1:s.heap.push { cls:=.type "list",data:=.seq #[] 0 }=h1
 generalize hh2:h1.push { cls:=.type "dict",data:=.dict #[] }=h2
 have sz1:h1.objs.size=s.heap.objs.size+1:=by rw[<- hh1];exact Heap.size_push ..
 have sz2:h2.objs.size=s.heap.objs.size+2:=by rw[<- hh2,Heap.size_push,sz1]
 have k1:∀b o,s.heap.get? b=some o->h1.get? b=some o:=fun b o e=>by rw[<- hh1];exact Heap.get?_push_of_some _ e
 have k2:∀b o,h1.get? b=some o->h2.get? b=some o:=fun b o e=>by rw[<- hh2];exact Heap.get?_push_of_some _ e
 have k3:∀b o,h2.get? b=some o->(pushCells h2 sc.names).get? b=some o:=pushCells_keeps sc.names h2;have kk:∀b o,s.heap.get? b=some o->(pushCells h2 sc.names).get? b=some o:=fun b o e=>k3 b o (k2 b o (k1 b o e))
 have own:CellsOk (pushCells h2 sc.names) h2.objs.size (cellsFrom h2.objs.size sc.names []):=cellsFrom_ok sc.names h2 h2.objs.size [] ⟨fun _ _ hm=>(nomatch hm),qCb⟩ (qA7 _);have eC1:s.heap.objs.size+1+1=h2.objs.size:=by rw[sz2]
 have freeCell:∀x,(x,NameKind.free)∈sc.names->∃c,X.env.cells.lookup x=some c:=fun x hx=>I.ok.has x (S.free x hx)
 have cells:∀x c,(zF7 sc (s.heap.objs.size+1) X.env).cells.lookup x=some c ->
   ((x,c)∈cellsFrom h2.objs.size sc.names []/\(x,NameKind.cell)∈sc.names/\(pushCells h2 sc.names).IsCell c none/\h2.objs.size<=c)\/((x,NameKind.free)∈sc.names/\X.env.cells.lookup x=some c):=fun x c e=>by
  rcases zPL S.nd e with⟨m,q⟩|⟨m,q⟩
  ·rw[eC1]at m;exact .inl ⟨m,q,(own.empty x c m).1,(own.empty x c m).2⟩
  ·obtain⟨c',hc'⟩:=freeCell x m;rw[hc',qE8]at q;subst q;exact .inr ⟨m,hc'⟩
 have old:∀x c,X.env.cells.lookup x=some c->c<s.heap.objs.size:=fun x c e=>by
  obtain⟨v,q⟩:=I.cell x c e;exact q.lt
 have fpl:∀b∈fp,b<s.heap.objs.size:=fun b hb=>by
  obtain⟨o,e⟩:=hfo b hb;exact Heap.lt_size e
 have hCn:H (s.heap.objs.size+1)=none:=I.hok.fresh (qBs _);have hDn:H s.heap.objs.size=none:=I.hok.fresh (qA7 _);have nofs:∀a,s.heap.objs.size<=a->a∉frs X.stack:=fun a ha hb=>by
  rcases qA9.mp (I.stkSub a hb)with e|hb
  ·have t1:=asN I.lt;have t2:=asE e;have t3:=asL ha;omega
  ·exact I.nofs ha hb
 have fin:∀b∈fp,b∉frs X.stack:=fun b hb z=>by
  obtain⟨f0,f1,f2,f3,f4,f5⟩:=hf b hb
  rcases qA9.mp (I.stkSub b z)with e|z
  ·exact f1 e
  ·exact f2 z
 have ok:(zE9 X N' sc (s.heap.objs.size+1) s H fp).Ok:=by
  refine⟨I.ok.mod,S.kind,I.ok.glob,I.ok.blt,qBs _,?_,?_,?_,I.ok.hd,I.ok.frames,.inl rfl,?_,I.bs,qAu I.ok.bsz I.sz,?_,fin,I.stack,I.stkFree⟩
  ·intro x y c hx hy
   rcases cells x c hx with⟨m1,_,_,g1⟩|⟨m1,g1⟩<;>rcases cells y c hy with⟨m2,_,_,g2⟩|⟨m2,g2⟩
   ·exact name_of_addr own.apart m1 m2
   ·exact absurd (qAi (old y c g2) (qAu (by rw[sz2];exact qE9 _ _) g1)) (qBn _)
   ·exact absurd (qAi (old x c g1) (qAu (by rw[sz2];exact qE9 _ _) g2)) (qBn _)
   ·exact I.ok.inj x y c g1 g2
  ·intro x hx;have hx:(relabel sc X.env).names.lookup x=some .cell\/(relabel sc X.env).names.lookup x=some .free:=hx;have two:sc.names.lookup x=some .cell\/sc.names.lookup x=some .free:=by
    rcases hx with hx|hx
    ·rcases zCN (sc:=sc) hx with q|⟨q,_⟩
     ·exact .inl q
     ·exact .inr q
    ·rcases zCN (sc:=sc) hx with q|⟨_,q⟩
     ·exact .inr q
     ·cases q
   rcases two with q|q
   ·have:=qCz sc.names (s.heap.objs.size+1+1) (clos X.env.cells sc.names []) (.inl q)
    exact qDv.mp this
   ·exact⟨_,zFG S.nd (mem_of_lookup q)⟩
  ·intro x c hx e;have hx:(sc.names.lookup x==some NameKind.cell)=true:=hx;have hx':sc.names.lookup x=some .cell:=by simpa using hx
   rcases cells x c e with⟨_,_,_,g⟩|⟨m,_⟩
   ·show s.heap.objs.size<=c;omega
   ·rw[zCZ S.nd m]at hx';cases hx'
  ·intro b hb;refine⟨?_,fun x c e z=>?_⟩
   ·exact qAn (qB1 (fpl b hb))
   ·rcases cells x c e with⟨_,_,_,g⟩|⟨_,g⟩
    ·have t1:=asN (fpl b hb);have t2:=asL g;have t3:=asE z;omega
    ·exact(hf b hb).2.2.2.2.1 x c g z
  ·intro b o e hb
   rcases(hf b hb).2.2.2.1 with z|z
   ·exact I.ok.noex b o e z
   ·exact absurd (qAi (Heap.lt_size e) (qAu I.ok.bsz z)) (qBn _)
 have ns:(pushCells h2 sc.names).Ns (s.heap.objs.size+1) fun _=>none:=by
  have q:h2.Ns h1.objs.size fun _=>none:=by rw[<- hh2];exact Heap.Ns.new h1 (.type "dict")
  rw[sz1]at q;exact q.keeps k3
 have hD1:h1.get? s.heap.objs.size=some { cls:=.type "list",data:=.seq #[] 0 }:=by rw[<- hh1];exact Heap.get?_push_size _ rfl
 refine⟨⟨ok,rfl,I.bare,Un.kept kk,⟨_,ns,?_⟩,?_,hCn,?_,?_,I.hok.kept kk,?_⟩,?_⟩
 ·intro i x v h1 h2 h3;have hi:i<X.N.length:=by
   rw[<- I.len]
   by_cases hi:i<σ.length
   ·exact hi
   ·rw[qAg (by omega),qBa]at h2
    split at h2<;>cases h2
  have h2':σ[i]?=some (some v):=by
   rw[qAf (by rw[I.len];exact hi)]at h2;exact h2
  have h1:N'[i]?=some x:=h1
  rcases S.old i x h1 hi with⟨m,e⟩|e
  ·obtain⟨mm,hn,hl⟩:=I.loc;have hv:Vis X.env.scope x:=(S.free x m).elim (fun z=>.inr (.inl z)) fun z=>.inr (.inr z)
   obtain⟨u,r,l⟩:=hl i x v e h2' hv;refine⟨u,r,?_⟩
   rcases l with⟨z,_⟩|⟨_,c,hc,hcell⟩
   ·rcases S.free x m with z'|z'<;>rw[z]at z'<;>cases z'
   ·refine .inr ⟨?_,c,?_,hcell.keeps kk⟩
    ·have hv3:(relabel sc X.env).names.lookup x=some .local\/(relabel sc X.env).names.lookup x=some .cell\/(relabel sc X.env).names.lookup x=some .free:=h3
     rcases hv3 with q|q|q
     ·rcases zCN (sc:=sc) q with q|⟨_,q⟩
      ·rw[zCZ S.nd m]at q;cases q
      ·cases q
     ·exact .inl q
     ·exact .inr q
    ·have q:=zFG (X:=X) (C:=s.heap.objs.size+1) S.nd m;rw[hc,qE8]at q;exact q
  ·exfalso
   have hv3:(relabel sc X.env).names.lookup x=some .local\/(relabel sc X.env).names.lookup x=some .cell\/(relabel sc X.env).names.lookup x=some .free:=h3
   rcases hv3 with q|q|q<;>rcases zCN (sc:=sc) q with q|⟨q,_⟩<;>rw[e]at q<;>cases q
 ·intro x c e
  rcases cells x c e with⟨_,_,g,_⟩|⟨_,g⟩
  ·exact⟨_,g⟩
  ·obtain⟨v,q⟩:=I.cell x c g;exact⟨v,q.keeps kk⟩
 ·intro x c e
  rcases cells x c e with⟨_,_,_,g⟩|⟨_,g⟩
  ·exact I.hok.fresh (by omega)
  ·exact I.freeC x c g
 ·intro p hp;have hp':p=(s.heap.objs.size,{ cls:=.type "list",data:=.seq #[] 0 }):=by
   have:p∈([]++[(s.heap.objs.size,({ cls:=.type "list",data:=.seq #[] 0 }:Obj))]:List (Addr×Obj)):=hp
   simpa using this
  subst hp';refine⟨k3 _ _ (k2 _ _ hD1),hDn,?_,nofs _ (qA7 _),fun v z=>by cases z⟩;show s.heap.objs.size≠s.heap.objs.size+1;omega
 ·show(σ++qA6 k none).length=N'.length
  rw[qAe,qD8,I.len,S.len]
 ·intro b hb;obtain⟨f0,f1,f2,f3,f4,f5⟩:=hf b hb;refine⟨f0,(ok.exf b hb).1,fin b hb,.inl hb,fun x c e=>(ok.exf b hb).2 x c e,fun p hp=>?_⟩;have hp':p=(s.heap.objs.size,{ cls:=.type "list",data:=.seq #[] 0 }):=by
   have:p∈([]++[(s.heap.objs.size,({ cls:=.type "list",data:=.seq #[] 0 }:Obj))]:List (Addr×Obj)):=hp
   simpa using this
  subst hp';exact qBi (fpl b hb)
end
theorem zFB{prog:Program}{w:World}{A:Around}{R:Result->Shared->Prop}{s:Shared}{elt target iter:Expr}{ifs:List Expr}{scope:Scope}{pos:Pos}{it acc:Value}{env:Env}(I:Nat->Shared->Prop)
  (turn:∀n s,I n s->wpAny (model prog w) A (pyNext it) (fun r s₁=>match r with
   |none=>R (.ok .next) s₁
   |some v=>wpAny (model prog w) A (letOwnedTupleGo target it v) (fun _ s₂'=>wpAny (model prog w) A (assign target env v) (fun _ s₂=>
     wpAny (model prog w) A (forIn ifs true fun c r=>if r=true then do let ok <- isTrue c env (eval c env);pure (qC5 ok)else pure (qC5 r)) (fun ok s₃=>
      if ok=true then wpAny (model prog w) A (eval elt env) (fun x s₄=>
       wpAny (model prog w) A (call (.builtin "list.append") [acc,x]) (fun _ s₅=>∃m,m<n/\I m s₅) (fun _ _=>False) s₄) (fun _ _=>False) s₃
      else ∃m,m<n/\I m s₃) (fun _ _=>False) s₂) (fun _ _=>False) s₂') (fun _ _=>False) s₁) (fun _ _=>False) s)
  (n:Nat) (h:I n s) :
  codeAny (model prog w) A (.compLoop (.ListComp elt [⟨target,iter,ifs,0⟩] scope pos) 0 it acc env) R s:=by
 refine codeAny_loop rfl I (fun n s hI=>?_) n h;show wpAny _ A ((compTurn (.ListComp elt [⟨target,iter,ifs,0⟩] scope pos) 0 it acc env).onRaise (fun x=>do noteFrame x env;theTreesLotGoes x)) _ _ s;refine wpAny_noted ?_;rw[compTurn_list];refine wpAny_bind (wpAny_standAt (wpAny_bind (wpAny_mono (turn n s hI) (fun r s₁ h₁=>?_) fun _ _ z=>z.elim)));cases r with
 |none=>exact wpAny_pure h₁
 |some v=>
  refine wpAny_bind (wpAny_mono h₁ (fun _ s₂' h₂'=>?_) fun _ _ z=>z.elim);refine wpAny_bind (wpAny_mono h₂' (fun _ s₂ h₂=>wpAny_bind (wpAny_mono h₂ (fun ok s₃ h₃=>?_) fun _ _ z=>z.elim)) fun _ _ z=>z.elim);cases ok with
  |false=>exact wpAny_pure ⟨rfl,h₃⟩
  |true=>
   exact wpAny_bind (wpAny_bind (wpAny_mono h₃ (fun x s₄ h₄=>wpAny_bind (wpAny_mono h₄ (fun _ s₅ h₅=>wpAny_pure (wpAny_pure ⟨rfl,h₅⟩)) fun _ _ z=>z.elim)) fun _ _ z=>z.elim))
def zQ5(k:Nat)(g:TG)(tif:TT)(te:TE)(σ:St)(Q:VK)(J:It)(H1:Hp):Prop:=∃W:Nat->Nat->List V->Hp->Prop,(∃m,W 0 m [] H1)/\∀i m acc H,W i m acc H ->
 (J.stop i H/\∀D,H D=none->Q (.ref D) (upd H D (.lst acc))) \/
 (J.go i H/\acc.length<sizeLine/\∃N:List V->Hp->Prop,(∀acc' H',N acc' H'->∃m',m'<m/\W (i+1) m' acc' H')/\∀x H',J.yld i H x H'->g x (σ++qA6 k none) H' fun σ2 H2=>∃own:St,own.length=k/\σ2=σ++own/\tif σ2 H2 fun b H3=>if b=true then te σ2 H3 fun v H4=>N (acc++[v]) H4 else N acc H3)
noncomputable def zVK(wi:TI)(k:Nat)(g:TG)(tif:TT)(te:TE):TE:=fun σ H Q=>wi σ H (zQ5 k g tif te σ Q)
theorem HOk.track{P:Program}{w:World}{H:Hp}{h:Heap}{a:Addr}{o:HO}(x:HOk P w H h)(hn:H a=none)(new:ObjOk P w (upd H a o) h a o):HOk P w (upd H a o) h:=fun b u e=>by
 by_cases hb:b=a
 ·subst hb;rw[zBB]at e;cases e;exact new
 ·rw[zB0 hb]at e;exact(x b u e).stay (fun c v _ q=>q) (fun c q=>by rw[zB0 (zB5 q hn)];exact q) fun c xs q=>by rw[zB0 (zB5 q hn)];exact q
section
variable{X:Cx}{N':List Str}{k:Nat}{sc:Scope}{tg iter elt:Expr}{ifs:List Expr}{wi:TI}{g:TG}{tif:TT}{te:TE}{pos:Pos}
theorem zJN{pins:List (Addr×Obj)}{σ:St}{H2:Hp}{s2:Shared}{Q:VK}{RR:Value->Addr->Result->Shared->Prop}{E:Value->Shared->Prop}(hc:X.calm=true)(S:CompNames X.N N' k sc X.env)
  (hg:∀C s H fp,PG (zE9 X N' sc C s H fp) tg g) (hif:∀C s H fp,PTs (zE9 X N' sc C s H fp) ifs tif) (he:∀C s H fp,PE (zE9 X N' sc C s H fp) elt te)
  {it:Addr} {fp:List Addr} {tn:Nat->Heap->Prop} {J:It} (I2:Inv X pins σ H2 s2) (T:Turn X.prog X.w X.K tg J fp it tn) (st2:tn 0 s2.heap) (f2:∀b∈fp,FpOk X pins H2 b)
  {W:Nat->Nat->List V->Hp->Prop} {m0:Nat} (w0:W 0 m0 [] H2)
  (turn:∀i m acc H,W i m acc H->(J.stop i H/\∀D,H D=none->Q (.ref D) (upd H D (.lst acc))) \/
   (J.go i H/\acc.length<sizeLine/\∃N:List V->Hp->Prop,(∀acc' H',N acc' H'->∃m',m'<m/\W (i+1) m' acc' H')/\∀x H',J.yld i H x H'->g x (σ++qA6 k none) H' fun σ2 H2=>∃own:St,own.length=k/\σ2=σ++own/\tif σ2 H2 fun b H3=>if b=true then te σ2 H3 fun v H4=>N (acc++[v]) H4 else N acc H3))
  (hRR:∀D C s' H',D<C->s2.heap.objs.size<=D->(∃m,s'.heap.Ns C m)->H' C=none->C∉frs X.stack->Inv X pins σ H' s'->Q (.ref D) H'->RR (.ref D) C (.ok .next) s') :
  wpAny (model X.prog X.w) X.A (newList []) (fun acc s₃=>wpAny (model X.prog X.w) X.A (newFunctionEnv sc X.env.globals (clos X.env.cells sc.names []) [] X.env.qual none .none (some X.env)) (fun cenv s₄=>
   codeAny (model X.prog X.w) X.A (.compStart (.ListComp elt [⟨tg,iter,ifs,0⟩] sc pos) 0 (.ref it) acc { cenv with scope:=relabel sc X.env }) (RR acc cenv.locals) s₄) E s₃) E s2:=by
 refine wpAny_newObj_type (zFP ?_);show codeAny _ _ (.compStart _ 0 (.ref it) (.ref s2.heap.objs.size) _) _ _;have szp:(s2.heap.push { cls:=.type "list",dict:=none,data:=.seq ([]:List Value).toArray }).objs.size=s2.heap.objs.size+1:=Heap.size_push ..;obtain⟨I4,F4⟩:=zTM (s4:={ s2 with heap:=pushCells ((s2.heap.push { cls:=.type "list",data:=.seq #[] 0 }).push { cls:=.type "dict",data:=.dict #[] }) sc.names }) I2 hc S f2 (fun b hb=>let⟨o,e,_⟩:=T.obj 0 _ st2 b hb;⟨o,e⟩) rfl rfl rfl
 generalize hC:(s2.heap.push { cls:=.type "list",dict:=none,data:=.seq ([]:List Value).toArray }).objs.size=C at *
 have eC:C=s2.heap.objs.size+1:=szp;rw[<- eC]at I4 F4
 generalize hs4:({ s2 with heap:=pushCells ((s2.heap.push { cls:=.type "list",data:=.seq #[] 0 }).push { cls:=.type "dict",data:=.dict #[] }) sc.names }:Shared)=s4 at I4 F4
 have kk:∀b o,s2.heap.get? b=some o->s4.heap.get? b=some o:=fun b o e=>by
  rw[<- hs4];exact pushCells_keeps sc.names _ b o (Heap.get?_push_of_some _ (Heap.get?_push_of_some _ e))
 have st4:tn 0 s4.heap:=T.keep 0 _ _ st2 fun b _ o e=>kk b o e
 generalize hX':zE9 X N' sc C s2 H2 fp=X' at I4 F4
 have henv:X'.env=zF7 sc C X.env:=by rw[<- hX'];rfl
 have xprog:X'.prog=X.prog:=by rw[<- hX'];rfl
 have xw:X'.w=X.w:=by rw[<- hX'];rfl
 have xK:X'.K=X.K:=by rw[<- hX'];rfl
 have xcalm:X'.calm=true:=by rw[<- hX'];exact hc
 have xA:X'.A=X.A:=by rw[<- hX'];rfl
 have xpn:X'.pn=[]:=by rw[<- hX'];rfl
 have xxe:X'.xe=fun _ _=>False:=by rw[<- hX'];rfl
 have xs0:X'.s₀=s2:=by rw[<- hX'];rfl
 have xH0:X'.H₀=H2:=by rw[<- hX'];rfl
 have xfs:X'.fs=frs X.stack:=by rw[<- hX'];rfl
 have xex:X'.ex=fp:=by rw[<- hX'];rfl
 have hgX:PG X' tg g:=by rw[<- hX'];exact hg C s2 H2 fp
 have hifX:PTs X' ifs tif:=by rw[<- hX'];exact hif C s2 H2 fp
 have heX:PE X' elt te:=by rw[<- hX'];exact he C s2 H2 fp
 have locC:X'.env.locals=C:=by rw[henv];rfl
 generalize hDd:s2.heap.objs.size=D at *
 have loop:codeAny (model X.prog X.w) X.A (.compLoop (.ListComp elt [⟨tg,iter,ifs,0⟩] sc pos) 0 (.ref it) (.ref D) (zF7 sc C X.env)) (RR (.ref D) C) s4:=by
  refine zFB (fun n s'=>∃i H' acc its nn,Inv X' [] (σ++qA6 k none) H' s'/\tn i s'.heap/\(∀b∈fp,H' b=none)/\H' D=none/\W i n acc H'/\acc.length<=sizeLine/\Vals acc its/\s'.heap.get? D=some { cls:=.type "list",data:=.seq its.toArray nn }) ?_ m0 ?_
  ·rintro n s5 ⟨i,H5,acc,its,nn,I5,st5,fr5,hD5,w5,hz5,rv5,hL5⟩
   have hDlt:D<C:=by rw[eC];exact qBg _
   have pinD:Inv X' [(D,{ cls:=.type "list",data:=.seq its.toArray nn })] (σ++qA6 k none) H5 s5:=I5.pins_of fun p hp=>by
    have hp':p=(D,{ cls:=.type "list",data:=.seq its.toArray nn }):=by simpa using hp
    subst hp';refine⟨hL5,hD5,?_,?_,fun v z=>by cases z⟩
    ·rw[locC];exact qAn hDlt
    ·have q:=(I4.pin (D,{ cls:=.type "list",data:=.seq #[] 0 }) (by simp)).2.2.2.1;exact q
   have fpD:∀{H':Hp}{oo:Obj},(∀b∈fp,H' b=none)->∀b∈fp,FpOk X' [(D,oo)] H' b:=fun{H' oo} hn b hb=>by
    obtain⟨f0,f1,f2,f3,f4,f5⟩:=F4 b hb;refine⟨hn b hb,f1,f2,f3,f4,fun p hp=>?_⟩;have hp':p=(D,oo):=by
     rw[xpn]at hp
     simpa using hp
    subst hp';exact f5 (D,{ cls:=.type "list",data:=.seq #[] 0 }) (by simp)
   rcases turn i n acc H5 w5 with⟨stop,q⟩|⟨go,hlt,N,hN,step⟩
   ·have dn:=T.done X' xprog xw xK xcalm i _ s5 _ H5 (fun _ _=>False) pinD (fpD fr5) st5 stop;rw[xA]at dn;refine thn dn fun r s6 z0=>?_
    obtain⟨hr,I6⟩:=z0;subst hr;show RR (.ref D) C (.ok .next) s6;have hL6:=(I6.pin (D,{ cls:=.type "list",data:=.seq its.toArray nn }) (by simp)).1;have un6:Un (frs X.stack) fp H2 H5 s2.heap s6.heap:=by
     have:=I6.base
     rw[xs0,xH0,xfs,xex]at this;exact this
    have hok6:HOk X.prog X.w H5 s6.heap:=by
     have:=I6.hok
     rw[xprog,xw]at this;exact this
    have hDno:s2.heap.get? D=none:=Heap.get?_none_of_le (by rw[hDd];exact qA7 _);have un7:Un (frs X.stack) fp H2 (upd H5 D (.lst acc)) s2.heap s6.heap:=
     ⟨un6.keep,un6.slot,fun b o e n hx=>by
       have hb:b≠D:=by rintro rfl;rw[hDno]at e;cases e
       rw[zB0 hb];exact un6.free b o e n hx,un6.there,
      fun b xs e=>by
       have e':=un6.tups b xs e;rw[zB0 (zB5 e' hD5)];exact e',
      fun b o u e=>by
       have e':=un6.frzs b o u e;rw[zB0 (zB5 e' hD5)];exact e',
      fun b ps e=>by
       obtain⟨more,e'⟩:=un6.tbls b ps e;exact⟨more,by rw[zB0 (zB5 e' hD5)];exact e'⟩⟩
    have hok7:HOk X.prog X.w (upd H5 D (.lst acc)) s6.heap:=hok6.track hD5 ⟨hz5,its,nn,rv5,hL6⟩;have os6:s6.os=s2.os:=by have:=I6.os;rw[xs0]at this;exact this
    have I7:Inv X pins σ (upd H5 D (.lst acc)) s6:=I2.call' os6 un7 hok7 I6.bare fun b hb=>by
     obtain⟨f0,f1,f2,f3,f4,f5⟩:=f2 b hb;exact⟨f3,f1,f4,f5⟩
    obtain⟨mm,hn,_⟩:=I6.loc;rw[locC]at hn;have hC5:H5 C=none:=by have:=I6.free;rw[locC]at this;exact this
    refine hRR D C s6 (upd H5 D (.lst acc)) hDlt (qA7 _) ⟨mm,hn⟩ ?_ ?_ I7 (q D hD5)
    ·rw[zB0 (qBi hDlt)];exact hC5
    ·intro hb
     rcases qA9.mp (I2.stkSub C hb)with e|hb
     ·have t1:=asN I2.lt;have t2:=asE e;rw[hDd]at t1;have t3:=asN hDlt;omega
     ·exact I2.nofs (by rw[hDd];exact qBo hDlt) hb
   ·have itm:=T.item X' xprog xw xK xcalm i _ s5 _ H5 (fun _ _=>False) pinD (fpD fr5) st5 go;rw[xA]at itm;refine thn itm fun r s6 z0=>?_
    obtain⟨u,hr,h6⟩:=z0;subst hr;refine thn h6 fun _ s7 z0=>?_
    obtain⟨x,H7,I7,r7,y7,st7,fr7⟩:=z0;have I7':Inv X' ([(D,{ cls:=.type "list",data:=.seq its.toArray nn })]++zJD fp s7.heap) (σ++qA6 k none) H7 s7:=I7.pinned (fpD fr7) (T.obj _ _ st7);have asg:=hgX _ s7 _ H7 x u _ I7' r7 (step x H7 y7);rw[xprog,xw,xA,henv,xxe]at asg;refine thn asg fun _ s8 z0=>?_
    obtain⟨σ8,H8,I8,own,hown,hσ8,q8⟩:=z0;have weak:∀{pl:List (Addr×Obj)}{H':Hp}{s':Shared},Inv X' pl σ8 H' s'->Inv X' [] (σ++qA6 k none) H' s':=fun{pl H' s'} J'=>by
     have J0:Inv X' [] σ8 H' s':=J'.pins_of (fun p hp=>by simp at hp);refine J0.weak (by rw[hσ8];simp[hown]) fun j v hj=>?_
     rw[hσ8]
     by_cases hjl:j<σ.length
     ·rw[qAf hjl]at hj ⊢;exact hj
     ·rw[qAg (by omega),qBa]at hj
      split at hj<;>cases hj
    have tst:=hifX _ s8 σ8 H8 _ I8 q8;rw[xprog,xw,xA,henv,xxe]at tst;refine thn tst fun b s9 z0=>?_
    obtain⟨H9,I9,q9⟩:=z0;have pin9:∀{σ':St}{H':Hp}{s':Shared},Inv X' ([(D,{ cls:=.type "list",data:=.seq its.toArray nn })]++zJD fp s7.heap) σ' H' s' ->
      s'.heap.get? D=some { cls:=.type "list",data:=.seq its.toArray nn }/\H' D=none/\tn (i+1) s'.heap/\(∀b∈fp,H' b=none):=fun{σ' H' s'} J'=>by
     have a1:=J'.pin (D,{ cls:=.type "list",data:=.seq its.toArray nn }) (by simp);refine⟨a1.1,a1.2.1,T.keep _ _ _ st7 fun b hb o e=>(J'.pin (b,o) (qAt _ (qAt _ (zF3 hb e)))).1,fun b hb=>?_⟩;obtain⟨o,e,d⟩:=T.obj _ _ st7 b hb;exact(J'.pin (b,o) (qAt _ (qAt _ (zF3 hb e)))).2.1
    cases b with
    |false=>
     rw[if_neg qAc];rw[if_neg qAc]at q9;obtain⟨m',hm,w9⟩:=hN _ _ q9;obtain⟨p1,p2,p3,p4⟩:=pin9 I9;exact⟨m',hm,i+1,H9,acc,its,nn,weak I9,p3,p4,p2,w9,hz5,rv5,p1⟩
    |true=>
     rw[if_pos rfl];rw[if_pos rfl]at q9;have ev:=heX _ s9 σ8 H9 _ I9 q9;rw[xprog,xw,xA,henv,xxe]at ev;refine thn ev fun y s10 z0=>?_
     obtain⟨v,H10,I10,r10,n10⟩:=z0;obtain⟨m',hm,w10⟩:=hN _ _ n10;obtain⟨p1,p2,p3,p4⟩:=pin9 I10;have hlen:its.length=acc.length:=rv5.length.symm;refine wpAny_list_append_plain (items:=its.toArray) ⟨nn,p1⟩ (fun h' hl' hs'=>?_) (by simp only[qAh];omega);have hDfp:D∉fp:=fun hb=>(F4 D hb).2.2.2.2.2 (D,{ cls:=.type "list",data:=.seq #[] 0 }) (by simp) rfl
     have I11:Inv X' [] (σ++qA6 k none) H10 { s10 with heap:=h' }:=by
      have J0:Inv X' [] (σ++qA6 k none) H10 s10:=weak I10;refine J0.turned (t':=s10.toks) (it:=D) (fun b o hb e=>(hs'.2 b hb).trans e) p2 ?_ (.inr ?_) (fun x c e z=>?_) (fun p hp=>?_)
      ·rw[locC];exact qAn hDlt
      ·rw[xs0,hDd];exact qA7 _
      ·obtain⟨v',q⟩:=J0.cell x c e;obtain⟨o,ho,hd⟩:=q;rw[z,p1]at ho;cases ho;cases hd
      ·rw[xpn]at hp;simp at hp
     obtain⟨n',hk⟩:=hl';have hk':h'.get? D=some { cls:=.type "list",data:=.seq (its++[y]).toArray n' }:=by rw[hk];simp
     refine⟨m',hm,i+1,H10,acc++[v],its++[y],n',I11,T.keep _ _ _ p3 fun b hb o e=>(hs'.2 b (fun z=>hDfp (z▸hb))).trans e,p4,p2,w10,?_,rv5.append (.cons r10 .nil),hk'⟩;rw[qAe,qAx];omega
  ·refine⟨0,H2,[],[],0,I4.pins_of (fun p hp=>by simp at hp),st4,fun b hb=>(f2 b hb).1,I2.hok.fresh (by rw[hDd];exact qA7 _),w0,qAp _,.nil,?_⟩;exact(I4.pin (D,{ cls:=.type "list",data:=.seq #[] 0 }) (by simp)).1
 exact codeAny_compStart_list loop (T.self _ 0 _ _ _ st4 loop)
theorem zAV(hc:X.calm=true)(S:CompNames X.N N' k sc X.env)(hi:PI X tg iter wi)
  (hg:∀C s H fp,PG (zE9 X N' sc C s H fp) tg g) (hif:∀C s H fp,PTs (zE9 X N' sc C s H fp) ifs tif) (he:∀C s H fp,PE (zE9 X N' sc C s H fp) elt te)
  (hs:∀x,foldedSetIterable iter X.env x=pure x:=by intro _;rfl):PE X (.ListComp elt [⟨tg,iter,ifs,0⟩] sc pos) (zVK wi k g tif te):=by
 intro pins s σ H Q I h;rw[eval_ListComp];have hfree:∀x,(x,NameKind.free)∈sc.names->∃c,X.env.cells.lookup x=some c:=fun x hx=>I.ok.has x (S.free x hx)
 refine wpAny_comprehension_free (use:=none) rfl hs (zGE hfree) S.kind (fun x hx hl=>?_) ?_
 ·obtain⟨n,kd⟩:=x;dsimp only at hl ⊢;subst hl;exact zCZ S.nd hx
 ·refine thn (hi pins s σ H _ I h) fun v s1 h1=>thn h1 fun itv s2 h2=>?_
  obtain⟨it,fp,tn,J,H2,e,I2,T,st2,f2,W,⟨m0,w0⟩,turn⟩:=h2;subst e;refine zJN (RR:=fun acc C=>compPost (model X.prog X.w) X.A X.xe none (EP X pins σ Q) acc C) hc S hg hif he I2 T st2 f2 w0 turn ?_;intro D C s' H' hDC hD hn hCn hCf I' q;obtain⟨m,hn⟩:=hn;refine⟨m,hn,fun h' hs'=>⟨.ref D,H',?_,rfl,q⟩⟩;have hCb:s2.heap.objs.size<=C:=qBo (qEt hD hDC);refine I'.turned (t':=s'.toks) (it:=C) (fun b o hb e=>(hs'.2 b hb).trans e) hCn ?_ (.inr (qAu I2.sz hCb)) (fun x c e z=>?_) (fun p hp z=>?_)
  ·exact qBi (qAi I2.lt hCb)
  ·obtain⟨v,q⟩:=I2.cell x c e;exact absurd z (qAn (qAi q.lt hCb))
  ·exact absurd z (qAn (qAi (Heap.lt_size (I2.pin p hp).1) hCb))
theorem zDM{i:Nat}{x:Str}{pos' spos:Pos}(hN:X.N.Nodup)(hi':X.N[i]?=some x)(hx:Loc X.env.scope x)(hc:X.calm=true)(S:CompNames X.N N' k sc X.env)(hi:PI X tg iter wi)
  (hg:∀C s H fp,PG (zE9 X N' sc C s H fp) tg g) (hif:∀C s H fp,PTs (zE9 X N' sc C s H fp) ifs tif) (he:∀C s H fp,PE (zE9 X N' sc C s H fp) elt te)
  (hsw:swapsWith (.ListComp elt [⟨tg,iter,ifs,0⟩] sc pos) (some (.Name x pos')) spos.line X.env=pure true:=by rfl)
  (hs:∀x,foldedSetIterable iter X.env x=pure x:=by intro _;rfl) (hf:X.fn x=true\/X.env.scope.names.lookup x=some .local:=by first|exact .inl rfl|exact .inr rfl|assumption) :
  PS X (.Assign [.Name x pos'] (.ListComp elt [⟨tg,iter,ifs,0⟩] sc pos) spos) (tAsg (zVK wi k g tif te) (zGN i)):=by
 intro pins s σ H Dn I h;rw[exec_Assign_Name_used _ _ _ _ hsw];refine wpAny_bind (wpAny_standAt (wpAny_bind ?_));show wpAny _ X.A (do let _ <- comprehension (.ListComp elt [⟨tg,iter,ifs,0⟩] sc pos) sc X.env _ (newList []) false (eval iter X.env) (some (assign (.Name x pos') X.env))) _ _ s;have hfree:∀x,(x,NameKind.free)∈sc.names->∃c,X.env.cells.lookup x=some c:=fun x hx=>I.ok.has x (S.free x hx)
 refine wpAny_bind (wpAny_mono (wpAny_comprehension_free (use:=some (assign (.Name x pos') X.env)) (Q:=fun _ s'=>SP X pins Dn .next s') rfl hs (zGE hfree) S.kind (fun x hx hl=>?_) ?_)
  (fun _ s' hq=>wpAny_pure (wpAny_pure hq)) fun _ _ e=>e)
 ·obtain⟨n,kd⟩:=x;dsimp only at hl ⊢;subst hl;exact zCZ S.nd hx
 ·refine thn (hi pins s σ H _ I h) fun v s1 h1=>thn h1 fun itv s2 h2=>?_
  obtain⟨it,fp,tn,J,H2,e,I2,T,st2,f2,W,⟨m0,w0⟩,turn⟩:=h2;subst e;refine zJN (Q:=fun v H'=>zGN i v σ H' Dn.nx) (RR:=fun acc C=>compPost (model X.prog X.w) X.A X.xe (some (assign (.Name x pos') X.env)) (fun _ s'=>SP X pins Dn .next s') acc C) hc S hg hif he I2 T st2 f2 w0 turn ?_;intro D C s' H' hDC hD hn hCn hCf I' q;obtain⟨m,hn⟩:=hn;show wpAny _ _ (assign (.Name x pos') X.env (.ref D)) _ _ _;have hCb:s2.heap.objs.size<=C:=qBo (qEt hD hDC);have hCL:C≠X.env.locals:=qBi (qAi I2.lt hCb);have hCc:∀x c,X.env.cells.lookup x=some c->c≠C:=fun x c e z=>by
   obtain⟨v,q⟩:=I2.cell x c e;exact absurd z (qAn (qAi q.lt hCb))
  refine wpAny_assign_Name (zL7 (v:=.ref D) I' hN hi' hx rfl (fun s'' I'' ⟨a,sb,ha⟩=>?_) hf);have hCa:C≠a:=by
   rcases ha with e|e
   ·rw[e];exact hCL
   ·exact fun z=>hCc x a e z.symm
  refine⟨m,hn.sameBut sb hCa,fun h' hs'=>⟨_,H',?_,q⟩⟩;refine I''.turned (t':=s''.toks) (it:=C) (fun b o hb e=>(hs'.2 b hb).trans e) hCn hCL (.inr (qAu I2.sz hCb)) hCc (fun p hp z=>?_);exact absurd z (qAn (qAi (Heap.lt_size (I2.pin p hp).1) hCb))
theorem zEA{lo:Int}{n:Nat}{σ:St}{H:Hp}{Q:VK}(Pv:Nat->List V->Hp->Prop)(h0:Pv 0 [] H)(hz:∀i acc H,i<n->Pv i acc H->acc.length<sizeLine)
  (hs:∀i acc H,i<n->Pv i acc H->g (.int (lo+i)) (σ++qA6 k none) H fun σ2 H2=>∃own:St,own.length=k/\σ2=σ++own/\tif σ2 H2 fun b H3=>if b=true then te σ2 H3 fun v H4=>Pv (i+1) (acc++[v]) H4 else Pv (i+1) acc H3)
  (hd:∀acc H,Pv n acc H->∀D,H D=none->Q (.ref D) (upd H D (.lst acc))) :
  zQ5 k g tif te σ Q (Itr lo n) H:=by
 refine⟨fun i m acc H=>m=n-i/\i<=n/\Pv i acc H,⟨n,by simp,qAp _,h0⟩,?_⟩
 rintro i m acc H ⟨rfl,hi,p⟩
 by_cases hlt:i<n
 ·refine .inr ⟨hlt,hz i acc H hlt p,Pv (i+1),fun acc' H' p'=>⟨n-(i+1),by omega,rfl,hlt,p'⟩,fun x H' y=>?_⟩;obtain⟨e,y⟩:=y;subst e y;exact hs i acc _ hlt p
 ·have e:i=n:=by omega
  subst e;exact .inl ⟨qA7 _,hd acc H p⟩
def zQ3(g:TG)(tb:TS)(D:Ends)(σ:St)(J:It)(H1:Hp):Prop:=∃W:Nat->Nat->St->Hp->Prop,(∃m,W 0 m σ H1)/\∀i m σ H,W i m σ H ->
 (J.stop i H/\D.nx σ H)\/(J.go i H/\∃N:St->Hp->Prop,(∀σ' H',N σ' H'->∃m',m'<m/\W (i+1) m' σ' H')/\∀x H',J.yld i H x H'->g x σ H' fun σ2 H2=>tb { D with nx:=N,ct:=N,bk:=D.nx } σ2 H2)
theorem zDP{body:List Stmt}{tb:TS}(hp:PassesOwn (model X.prog X.w) X.A X.env X.xe)(hc:X.calm=true)(hi:PI X tg iter wi)(hg:PG X tg g)(hb:PSs X body tb)
  (hs:∀x,foldedSetIterable iter X.env x=pure x:=by intro _;rfl):PS X (.For tg iter body [] pos) (fun D σ H=>wi σ H (zQ3 g tb D σ)):=zYJ hp hc hi hg hb hs
end
end L2
namespace L2
open PySem PySem.Spec PyProof.Rows
inductive Dat where
 |non|bl (b:Bool)|int (i:Int)|str (x:Str)|lst (xs:List Dat)|tup (xs:List Dat)
mutual
def Dat.dep:Dat->Nat
 |.lst xs=>Dat.depL xs+1
 |.tup xs=>Dat.depL xs+1
 |_=>0
def Dat.depL:List Dat->Nat
 |[]=>0
 |x::r=>max x.dep (Dat.depL r)
end
mutual
def Dat.eq:Dat->Dat->Bool
 |.non,.non=>true
 |.bl a,.bl b=>a==b
 |.bl a,.int b=>(if a then 1 else 0)==b
 |.int a,.bl b=>a==(if b then 1 else 0)
 |.int a,.int b=>a==b
 |.str a,.str b=>a==b
 |.lst xs,.lst ys=>Dat.eqL xs ys
 |.tup xs,.tup ys=>Dat.eqL xs ys
 |_,_=>false
def Dat.eqL:List Dat->List Dat->Bool
 |[],[]=>true
 |x::r,y::q=>Dat.eq x y&&Dat.eqL r q
 |_,_=>false
end
mutual
def Rep(H:Hp):Dat->V->Prop
 |.non,v=>v=.non
 |.bl b,v=>v=.bl b
 |.int i,v=>v=.int i
 |.str x,v=>v=.str x
 |.lst ds,v=>∃a xs,v=.ref a/\H a=some (.lst xs)/\RepL H ds xs
 |.tup ds,v=>∃a xs,v=.ref a/\H a=some (.tup xs)/\RepL H ds xs
def RepL(H:Hp):List Dat->List V->Prop
 |[],xs=>xs=[]
 |d::r,xs=>∃x q,xs=x::q/\Rep H d x/\RepL H r q
end
mutual
theorem Rep.mono{H H':Hp}(s:Same H H'):∀{d:Dat}{v:V},Rep H d v->Rep H' d v
 |.non,_,h=>h
 |.bl _,_,h=>h
 |.int _,_,h=>h
 |.str _,_,h=>h
 |.lst _,_,h=>by obtain⟨a,xs,e,e',r⟩:=h;exact⟨a,xs,e,s _ _ e',RepL.mono s r⟩
 |.tup _,_,h=>by obtain⟨a,xs,e,e',r⟩:=h;exact⟨a,xs,e,s _ _ e',RepL.mono s r⟩
theorem RepL.mono{H H':Hp}(s:Same H H'):∀{ds:List Dat}{xs:List V},RepL H ds xs->RepL H' ds xs
 |[],_,h=>h
 |_::_,_,h=>by obtain⟨x,q,e,r,t⟩:=h;exact⟨x,q,e,Rep.mono s r,RepL.mono s t⟩
end
mutual
theorem Rep.inj{H:Hp}:∀{d e:Dat}{v:V},Rep H d v->Rep H e v->d=e
 |.non,e,v,h,h'=>by cases h;cases e<;>first|rfl|(cases h';done)|(obtain⟨a,xs,z,_⟩:=h';cases z)
 |.bl b,e,v,h,h'=>by cases h;cases e<;>first|(cases h';rfl)|(cases h';done)|(obtain⟨a,xs,z,_⟩:=h';cases z)
 |.int b,e,v,h,h'=>by cases h;cases e<;>first|(cases h';rfl)|(cases h';done)|(obtain⟨a,xs,z,_⟩:=h';cases z)
 |.str b,e,v,h,h'=>by cases h;cases e<;>first|(cases h';rfl)|(cases h';done)|(obtain⟨a,xs,z,_⟩:=h';cases z)
 |.lst ds,e,v,h,h'=>by
  obtain⟨a,xs,rfl,ha,q⟩:=h;cases e with
  |lst es=>
   obtain⟨b,ys,z,hb,q'⟩:=h';cases z;rw[ha]at hb;cases hb;rw[RepL.inj q q']
  |tup es=>
   obtain⟨b,ys,z,hb,q'⟩:=h';cases z;rw[ha]at hb;cases hb
  |_=>cases h'
 |.tup ds,e,v,h,h'=>by
  obtain⟨a,xs,rfl,ha,q⟩:=h;cases e with
  |tup es=>
   obtain⟨b,ys,z,hb,q'⟩:=h';cases z;rw[ha]at hb;cases hb;rw[RepL.inj q q']
  |lst es=>
   obtain⟨b,ys,z,hb,q'⟩:=h';cases z;rw[ha]at hb;cases hb
  |_=>cases h'
theorem RepL.inj{H:Hp}:∀{ds es:List Dat}{xs:List V},RepL H ds xs->RepL H es xs->ds=es
 |[],[],_,_,_=>rfl
 |[],_::_,_,h,h'=>by cases h;obtain⟨x,q,e,_⟩:=h';cases e
 |_::_,[],_,h,h'=>by cases h';obtain⟨x,q,e,_⟩:=h;cases e
 |d::r,e::t,_,h,h'=>by
  obtain⟨x,q,rfl,r1,t1⟩:=h;obtain⟨x',q',z,r2,t2⟩:=h';cases z;rw[Rep.inj r1 r2,RepL.inj t1 t2]
end
mutual
theorem Dat.eq_refl:∀d:Dat,Dat.eq d d=true
 |.non=>by simp[Dat.eq]
 |.bl _=>by simp[Dat.eq]
 |.int _=>by simp[Dat.eq]
 |.str _=>by simp[Dat.eq]
 |.lst xs=>by rw[Dat.eq];exact Dat.eqL_refl xs
 |.tup xs=>by rw[Dat.eq];exact Dat.eqL_refl xs
theorem Dat.eqL_refl:∀ds:List Dat,Dat.eqL ds ds=true
 |[]=>by simp[Dat.eqL]
 |d::r=>by rw[Dat.eqL,Dat.eq_refl d,Dat.eqL_refl r];rfl
end
theorem RepL.length{H:Hp}:∀{ds:List Dat}{xs:List V},RepL H ds xs->xs.length=ds.length
 |[],_,h=>by cases h;rfl
 |_::_,_,h=>by obtain⟨x,q,e,r,t⟩:=h;subst e;simp[RepL.length t]
theorem Dat.eqL_len:∀{xs ys:List Dat},xs.length≠ys.length->Dat.eqL xs ys=false
 |[],[],h=>absurd rfl h
 |[],_::_,_=>by simp[Dat.eqL]
 |_::_,[],_=>by simp[Dat.eqL]
 |x::r,y::q,h=>by
  rw[Dat.eqL,Dat.eqL_len (fun e=>h (by simp[e])),qCg]
theorem Dat.eqL_all:∀{xs ys:List Dat},xs.length=ys.length->∀(e:Nat->Bool),(∀j (h1:j<xs.length) (h2:j<ys.length),e j=Dat.eq xs[j] ys[j])->(qA1 xs.length).all e=Dat.eqL xs ys
 |[],[],_,_,_=>by simp[Dat.eqL]
 |[],_::_,h,_,_=>by simp at h
 |_::_,[],h,_,_=>by simp at h
 |x::r,y::q,h,e,he=>by
  have hl:r.length=q.length:=by simpa using h
  rw[qAw,qD0,qCn,Dat.eqL,he 0 (by simp) (by simp)]
  have:=Dat.eqL_all (xs:=r) (ys:=q) hl (fun j=>e (j+1)) (fun j h1 h2=>by
   rw[he (j+1) (by simpa using h1) (by simpa using h2)];simp)
  rw[<- this,qGz];rfl
theorem RepL.get{H:Hp}:∀{ds:List Dat}{xs:List V}{i:Nat}{x:V},RepL H ds xs->xs[i]?=some x->∃d,ds[i]?=some d/\Rep H d x
 |[],_,_,_,h,e=>by cases h;simp at e
 |d::_,_,0,_,h,e=>by obtain⟨x,q,e1,r,t⟩:=h;subst e1;simp at e;subst e;exact⟨d,rfl,r⟩
 |_::_,_,i+1,_,h,e=>by
  obtain⟨x,q,e1,r,t⟩:=h;subst e1;obtain⟨d',h1,h2⟩:=RepL.get (i:=i) t (by simpa using e);exact⟨d',by simpa using h1,h2⟩
theorem Dat.depL_mem{d:Dat}:∀{ds:List Dat},d∈ds->d.dep<=Dat.depL ds
 |_::_,h=>by
  rw[Dat.depL]
  rcases qA9.mp h with rfl|h
  ·exact Nat.le_max_left _ _
  ·exact qAu (Dat.depL_mem h) (Nat.le_max_right _ _)
section
variable{P:Program}{w:World}{H:Hp}
theorem zEU(A:Around):A.in1.units=A.units+1:=rfl
theorem zB2{s:Shared}{a:Addr}{xs:List V}(ok:HOk P w H s.heap)(h:H a=some (.lst xs)):∃its:List Value,Vals xs its/\s.heap.IsList a its.toArray:=by
 obtain⟨_,its,n,r,e⟩:=ok a _ h;exact⟨its,r,⟨_,e,rfl,n,rfl⟩⟩
theorem zBZ{s:Shared}{a:Addr}{xs:List V}(ok:HOk P w H s.heap)(h:H a=some (.tup xs)):∃its:List Value,Vals xs its/\s.heap.IsTuple a its.toArray:=by
 obtain⟨_,its,r,e⟩:=ok a _ h;exact⟨its,r,e⟩
theorem Rep.flat{d:Dat}{v:V}(h:Rep H d v)(hf:d.dep=0):zGP v=true:=by
 cases d with
 |non=>cases h;rfl
 |bl _=>cases h;rfl
 |int _=>cases h;rfl
 |str _=>cases h;rfl
 |lst _=>simp[Dat.dep]at hf
 |tup _=>simp[Dat.dep]at hf
theorem Rep.flatEq{d e:Dat}{v u:V}(h:Rep H d v)(h':Rep H e u)(hf:d.dep=0)(hf':e.dep=0):eqV v u=Dat.eq d e:=by
 cases d<;>cases e<;>first
  |(simp[Dat.dep]at hf;done)
  |(simp[Dat.dep]at hf';done)
  |(cases h;cases h';simp[eqV,Dat.eq];done)
theorem zTQ:∀(n:Nat){d e:Dat}{v u:V}{x y:Value}{A:Around}{s:Shared},d.dep<=n->HOk P w H s.heap->Rep H d v->Rep H e u->RelV v x->RelV u y->A.units+n<cLine->SeqAt.EqAt A s x y (Dat.eq d e):=by
 intro n
 induction n with
 |zero=>
  intro d e v u x y A s hd ok h1 h2 r1 r2 hu;have f1:=h1.flat (by omega)
  by_cases he:e.dep=0
  ·have f2:=h2.flat he
   have:=zV2 (A:=A) (s:=s) r1 r2 f1 f2
   rw[h1.flatEq h2 (by omega) he]at this;exact this
  ·have hu':A.units<cLine:=by omega
   cases e with
   |lst ys=>
    obtain⟨a,xs,rfl,ha,_⟩:=h2;obtain⟨its,_,hl⟩:=zB2 ok ha;cases r2;cases d with
    |non=>cases h1;cases r1;exact SeqAt.EqAt.none_list hl hu'
    |bl b=>cases h1;cases r1;exact SeqAt.EqAt.bool_list b hl hu'
    |int i=>cases h1;obtain⟨t,rfl⟩:=r1;exact SeqAt.EqAt.int_list i t hl hu'
    |str z=>cases h1;obtain⟨t,rfl⟩:=r1;exact SeqAt.EqAt.str_list z t hl hu'
    |lst _=>simp[Dat.dep]at hd
    |tup _=>simp[Dat.dep]at hd
   |tup ys=>
    obtain⟨a,xs,rfl,ha,_⟩:=h2;obtain⟨its,_,hl⟩:=zBZ ok ha;cases r2;cases d with
    |non=>cases h1;cases r1;exact SeqAt.EqAt.none_tuple hl hu'
    |bl b=>cases h1;cases r1;exact SeqAt.EqAt.bool_tuple b hl hu'
    |int i=>cases h1;obtain⟨t,rfl⟩:=r1;exact SeqAt.EqAt.int_tuple i t hl hu'
    |str z=>cases h1;obtain⟨t,rfl⟩:=r1;exact SeqAt.EqAt.str_tuple z t hl hu'
    |lst _=>simp[Dat.dep]at hd
    |tup _=>simp[Dat.dep]at hd
   |_=>simp[Dat.dep]at he
 |succ n ih=>
  intro d e v u x y A s hd ok h1 h2 r1 r2 hu
  by_cases hd0:d.dep<=n
  ·exact ih hd0 ok h1 h2 r1 r2 (by omega)
  have hu':A.units<cLine:=by omega
  have pairs:∀{ds es:List Dat}{xs ys:List V}{its its2:List Value},Dat.depL ds<=n->RepL H ds xs->RepL H es ys->Vals xs its->Vals ys its2->∀j (h1:j<its.toArray.size) (h2:j<its2.toArray.size),
    SeqAt.EqAt A.in1 s its.toArray[j] its2.toArray[j] (Dat.eq (ds.getD j .non) (es.getD j .non)):=by
   intro ds es xs ys its its2 hdl q1 q2 v1 v2 j j1 j2;have l1:j<xs.length:=by have:=v1.length;simp at j1;omega
   have l2:j<ys.length:=by have:=v2.length;simp at j2;omega
   obtain⟨d',e1,p1⟩:=q1.get (i:=j) (x:=xs[j]) (by simp[l1]);obtain⟨e',e2,p2⟩:=q2.get (i:=j) (x:=ys[j]) (by simp[l2]);obtain⟨w1,g1,z1⟩:=v1.get (i:=j) (x:=xs[j]) (by simp[l1]);obtain⟨w2,g2,z2⟩:=v2.get (i:=j) (x:=ys[j]) (by simp[l2]);have k1:its.toArray[j]=w1:=by
    obtain⟨_,k⟩:=qA3.mp g1
    simpa using k
   have k2:its2.toArray[j]=w2:=by
    obtain⟨_,k⟩:=qA3.mp g2
    simpa using k
   rw[k1,k2,qA0,qA0,e1,e2];exact ih (qAu (Dat.depL_mem (qCd e1)) hdl) ok p1 p2 z1 z2 (by rw[zEU];omega)
  cases d with
  |lst ds=>
   have hdl:Dat.depL ds<=n:=by rw[Dat.dep]at hd;omega
   obtain⟨a,xs,rfl,ha,q1⟩:=h1;obtain⟨its,v1,hl1⟩:=zB2 ok ha;cases r1;cases e with
   |non=>cases h2;cases r2;exact SeqAt.EqAt.list_none hl1 hu'
   |bl b=>cases h2;cases r2;exact SeqAt.EqAt.list_bool b hl1 hu'
   |int i=>cases h2;obtain⟨t,rfl⟩:=r2;exact SeqAt.EqAt.list_int i t hl1 hu'
   |str z=>cases h2;obtain⟨t,rfl⟩:=r2;exact SeqAt.EqAt.list_str z t hl1 hu'
   |tup es=>
    obtain⟨b,ys,rfl,hb,q2⟩:=h2;obtain⟨its2,v2,hl2⟩:=zBZ ok hb;cases r2;exact SeqAt.EqAt.of_refs (zYZ ha hb (fun z=>nomatch z)) (SeqAt.RcAt.list_tuple hl1 hl2 hu')
   |lst es=>
    obtain⟨b,ys,rfl,hb,q2⟩:=h2;obtain⟨its2,v2,hl2⟩:=zB2 ok hb;cases r2;have len1:its.toArray.size=ds.length:=by have:=v1.length;have:=q1.length;simp;omega
    have len2:its2.toArray.size=es.length:=by have:=v2.length;have:=q2.length;simp;omega
    show SeqAt.EqAt A s (.ref a) (.ref b) (Dat.eqL ds es)
    by_cases hne:a=b
    ·
     subst hne;rw[ha]at hb;cases hb;have same:Dat.eqL ds es=true:=by
      rw[RepL.inj q1 q2];exact Dat.eqL_refl _
     rw[same];exact SeqAt.EqAt.same _
    ·refine SeqAt.EqAt.of_refs hne ?_
     by_cases hs:ds.length=es.length
     ·have:=SeqAt.RcAt.lists (A:=A) (s:=s) hl1 hl2 (by rw[len1,len2,hs]) hu' (pairs hdl q1 q2 v1 v2)
      rw[len1,Dat.eqL_all hs _ (fun j h1 h2=>by rw[qA0,qA0];simp[h1,h2])]at this;exact this
     ·rw[Dat.eqL_len hs];exact SeqAt.RcAt.lists_lengths hl1 hl2 (by rw[len1,len2];simpa using hs) hu'
  |tup ds=>
   have hdl:Dat.depL ds<=n:=by rw[Dat.dep]at hd;omega
   obtain⟨a,xs,rfl,ha,q1⟩:=h1;obtain⟨its,v1,hl1⟩:=zBZ ok ha;cases r1;cases e with
   |non=>cases h2;cases r2;exact SeqAt.EqAt.tuple_none hl1 hu'
   |bl b=>cases h2;cases r2;exact SeqAt.EqAt.tuple_bool b hl1 hu'
   |int i=>cases h2;obtain⟨t,rfl⟩:=r2;exact SeqAt.EqAt.tuple_int i t hl1 hu'
   |str z=>cases h2;obtain⟨t,rfl⟩:=r2;exact SeqAt.EqAt.tuple_str z t hl1 hu'
   |lst es=>
    obtain⟨b,ys,rfl,hb,q2⟩:=h2;obtain⟨its2,v2,hl2⟩:=zB2 ok hb;cases r2;exact SeqAt.EqAt.of_refs (zYZ ha hb (fun z=>nomatch z)) (SeqAt.RcAt.tuple_list hl1 hl2 hu')
   |tup es=>
    obtain⟨b,ys,rfl,hb,q2⟩:=h2;obtain⟨its2,v2,hl2⟩:=zBZ ok hb;cases r2;have len1:its.toArray.size=ds.length:=by have:=v1.length;have:=q1.length;simp;omega
    have len2:its2.toArray.size=es.length:=by have:=v2.length;have:=q2.length;simp;omega
    show SeqAt.EqAt A s (.ref a) (.ref b) (Dat.eqL ds es)
    by_cases hne:a=b
    ·subst hne;rw[ha]at hb;cases hb;have same:Dat.eqL ds es=true:=by
      rw[RepL.inj q1 q2];exact Dat.eqL_refl _
     rw[same];exact SeqAt.EqAt.same _
    ·refine SeqAt.EqAt.of_refs hne ?_
     have:=SeqAt.RcAt.tuples (A:=A) (s:=s) hl1 hl2 hu' (pairs hdl q1 q2 v1 v2)
     by_cases hs:ds.length=es.length
     ·rw[len1,len2,<- hs,qF8,beq_self_eq_true,qE1,Dat.eqL_all hs _ (fun j h1 h2=>by rw[qA0,qA0];simp[h1,h2])]at this;exact this
     ·rw[len1,len2,show(ds.length==es.length)=false by simpa using hs,qCg]at this;rw[Dat.eqL_len hs];exact this
  |_=>simp[Dat.dep]at hd0
theorem zHK{n:Nat}{A:Around}{s:Shared}(ok:HOk P w H s.heap){ds es:List Dat}{xs ys:List V}{its its2:List Value}(hdl:Dat.depL ds<=n)(hu:A.units+n<cLine)(q1:RepL H ds xs)(q2:RepL H es ys)(v1:Vals xs its)(v2:Vals ys its2) :
  ∀j (h1:j<its.toArray.size) (h2:j<its2.toArray.size),SeqAt.EqAt A s its.toArray[j] its2.toArray[j] (Dat.eq (ds.getD j .non) (es.getD j .non)):=by
 intro j j1 j2;have l1:j<xs.length:=by have:=v1.length;simp at j1;omega
 have l2:j<ys.length:=by have:=v2.length;simp at j2;omega
 obtain⟨d',e1,p1⟩:=q1.get (i:=j) (x:=xs[j]) (by simp[l1]);obtain⟨e',e2,p2⟩:=q2.get (i:=j) (x:=ys[j]) (by simp[l2]);obtain⟨w1,g1,z1⟩:=v1.get (i:=j) (x:=xs[j]) (by simp[l1]);obtain⟨w2,g2,z2⟩:=v2.get (i:=j) (x:=ys[j]) (by simp[l2]);have k1:its.toArray[j]=w1:=by
  obtain⟨_,k⟩:=qA3.mp g1
  simpa using k
 have k2:its2.toArray[j]=w2:=by
  obtain⟨_,k⟩:=qA3.mp g2
  simpa using k
 rw[k1,k2,qA0,qA0,e1,e2];exact zTQ n (qAu (Dat.depL_mem (qCd e1)) hdl) ok p1 p2 z1 z2 hu
theorem zT2(n:Nat){d e:Dat}{v u:V}{x y:Value}{A:Around}{s:Shared}(hd:d.dep<=n)(ok:HOk P w H s.heap)(h1:Rep H d v)(h2:Rep H e u)(r1:RelV v x)(r2:RelV u y)(hu:A.units+n<cLine):SeqAt.RcAt A s x y (Dat.eq d e):=by
 have hu':A.units<cLine:=by omega
 cases d with
 |non=>
  cases h1;cases r1;cases e with
  |non=>
   cases h2;cases r2;exact SeqAt.RcAt.none_none
  |bl b=>
   cases h2;cases r2;exact SeqAt.RcAt.none_bool b
  |int b=>
   cases h2;obtain⟨t2,rfl⟩:=r2;exact SeqAt.RcAt.none_int b t2
  |str b=>
   cases h2;obtain⟨t2,rfl⟩:=r2;exact SeqAt.RcAt.none_str b t2
  |lst es=>
   obtain⟨p2,ys,rfl,hb,q2⟩:=h2;obtain⟨its2,v2,hl2⟩:=zB2 ok hb;cases r2;exact SeqAt.RcAt.none_list hl2 hu'
  |tup es=>
   obtain⟨p2,ys,rfl,hb,q2⟩:=h2;obtain⟨its2,v2,hl2⟩:=zBZ ok hb;cases r2;exact SeqAt.RcAt.none_tuple hl2 hu'
 |bl a=>
  cases h1;cases r1;cases e with
  |non=>
   cases h2;cases r2;exact SeqAt.RcAt.bool_none a
  |bl b=>
   cases h2;cases r2;exact SeqAt.RcAt.bool_bool a b
  |int b=>
   cases h2;obtain⟨t2,rfl⟩:=r2;exact SeqAt.RcAt.bool_int a b t2
  |str b=>
   cases h2;obtain⟨t2,rfl⟩:=r2;exact SeqAt.RcAt.bool_str a b t2
  |lst es=>
   obtain⟨p2,ys,rfl,hb,q2⟩:=h2;obtain⟨its2,v2,hl2⟩:=zB2 ok hb;cases r2;exact SeqAt.RcAt.bool_list a hl2 hu'
  |tup es=>
   obtain⟨p2,ys,rfl,hb,q2⟩:=h2;obtain⟨its2,v2,hl2⟩:=zBZ ok hb;cases r2;exact SeqAt.RcAt.bool_tuple a hl2 hu'
 |int a=>
  cases h1;obtain⟨t1,rfl⟩:=r1;cases e with
  |non=>
   cases h2;cases r2;exact SeqAt.RcAt.int_none a t1
  |bl b=>
   cases h2;cases r2;exact SeqAt.RcAt.int_bool a t1 b
  |int b=>
   cases h2;obtain⟨t2,rfl⟩:=r2;exact SeqAt.RcAt.int_int a t1 b t2
  |str b=>
   cases h2;obtain⟨t2,rfl⟩:=r2;exact SeqAt.RcAt.int_str a t1 b t2
  |lst es=>
   obtain⟨p2,ys,rfl,hb,q2⟩:=h2;obtain⟨its2,v2,hl2⟩:=zB2 ok hb;cases r2;exact SeqAt.RcAt.int_list a t1 hl2 hu'
  |tup es=>
   obtain⟨p2,ys,rfl,hb,q2⟩:=h2;obtain⟨its2,v2,hl2⟩:=zBZ ok hb;cases r2;exact SeqAt.RcAt.int_tuple a t1 hl2 hu'
 |str a=>
  cases h1;obtain⟨t1,rfl⟩:=r1;cases e with
  |non=>
   cases h2;cases r2;exact SeqAt.RcAt.str_none a t1
  |bl b=>
   cases h2;cases r2;exact SeqAt.RcAt.str_bool a t1 b
  |int b=>
   cases h2;obtain⟨t2,rfl⟩:=r2;exact SeqAt.RcAt.str_int a t1 b t2
  |str b=>
   cases h2;obtain⟨t2,rfl⟩:=r2;exact SeqAt.RcAt.str_str a t1 b t2
  |lst es=>
   obtain⟨p2,ys,rfl,hb,q2⟩:=h2;obtain⟨its2,v2,hl2⟩:=zB2 ok hb;cases r2;exact SeqAt.RcAt.str_list a t1 hl2 hu'
  |tup es=>
   obtain⟨p2,ys,rfl,hb,q2⟩:=h2;obtain⟨its2,v2,hl2⟩:=zBZ ok hb;cases r2;exact SeqAt.RcAt.str_tuple a t1 hl2 hu'
 |lst ds=>
  have hdl:Dat.depL ds+1<=n:=by rw[Dat.dep]at hd;exact hd
  obtain⟨p,xs,rfl,ha,q1⟩:=h1;obtain⟨its,v1,hl1⟩:=zB2 ok ha;cases r1;cases e with
  |non=>
   cases h2;cases r2;exact SeqAt.RcAt.list_none hl1 hu'
  |bl b=>
   cases h2;cases r2;exact SeqAt.RcAt.list_bool b hl1 hu'
  |int b=>
   cases h2;obtain⟨t2,rfl⟩:=r2;exact SeqAt.RcAt.list_int b t2 hl1 hu'
  |str b=>
   cases h2;obtain⟨t2,rfl⟩:=r2;exact SeqAt.RcAt.list_str b t2 hl1 hu'
  |lst es=>
   obtain⟨p2,ys,rfl,hb,q2⟩:=h2;obtain⟨its2,v2,hl2⟩:=zB2 ok hb;cases r2;have len1:its.toArray.size=ds.length:=by have:=v1.length;have:=q1.length;simp;omega
   have len2:its2.toArray.size=es.length:=by have:=v2.length;have:=q2.length;simp;omega
   show SeqAt.RcAt A s (.ref p) (.ref p2) (Dat.eqL ds es)
   by_cases hs:ds.length=es.length
   ·have:=SeqAt.RcAt.lists (A:=A) (s:=s) hl1 hl2 (by rw[len1,len2,hs]) hu' (zHK ok (by omega) (by rw[zEU];omega:A.in1.units+(n-1)<cLine) q1 q2 v1 v2)
    rw[len1,Dat.eqL_all hs _ (fun j h1 h2=>by rw[qA0,qA0];simp[h1,h2])]at this;exact this
   ·rw[Dat.eqL_len hs];exact SeqAt.RcAt.lists_lengths hl1 hl2 (by rw[len1,len2];simpa using hs) hu'
  |tup es=>
   obtain⟨p2,ys,rfl,hb,q2⟩:=h2;obtain⟨its2,v2,hl2⟩:=zBZ ok hb;cases r2;exact SeqAt.RcAt.list_tuple hl1 hl2 hu'
 |tup ds=>
  have hdl:Dat.depL ds+1<=n:=by rw[Dat.dep]at hd;exact hd
  obtain⟨p,xs,rfl,ha,q1⟩:=h1;obtain⟨its,v1,hl1⟩:=zBZ ok ha;cases r1;cases e with
  |non=>
   cases h2;cases r2;exact SeqAt.RcAt.tuple_none hl1 hu'
  |bl b=>
   cases h2;cases r2;exact SeqAt.RcAt.tuple_bool b hl1 hu'
  |int b=>
   cases h2;obtain⟨t2,rfl⟩:=r2;exact SeqAt.RcAt.tuple_int b t2 hl1 hu'
  |str b=>
   cases h2;obtain⟨t2,rfl⟩:=r2;exact SeqAt.RcAt.tuple_str b t2 hl1 hu'
  |lst es=>
   obtain⟨p2,ys,rfl,hb,q2⟩:=h2;obtain⟨its2,v2,hl2⟩:=zB2 ok hb;cases r2;exact SeqAt.RcAt.tuple_list hl1 hl2 hu'
  |tup es=>
   obtain⟨p2,ys,rfl,hb,q2⟩:=h2;obtain⟨its2,v2,hl2⟩:=zBZ ok hb;cases r2;have len1:its.toArray.size=ds.length:=by have:=v1.length;have:=q1.length;simp;omega
   have len2:its2.toArray.size=es.length:=by have:=v2.length;have:=q2.length;simp;omega
   show SeqAt.RcAt A s (.ref p) (.ref p2) (Dat.eqL ds es)
   have:=SeqAt.RcAt.tuples (A:=A) (s:=s) hl1 hl2 hu' (zHK ok (by omega) (by rw[zEU];omega:A.in1.units+(n-1)<cLine) q1 q2 v1 v2)
   by_cases hs:ds.length=es.length
   ·rw[len1,len2,<- hs,qF8,beq_self_eq_true,qE1,Dat.eqL_all hs _ (fun j h1 h2=>by rw[qA0,qA0];simp[h1,h2])]at this;exact this
   ·rw[len1,len2,show(ds.length==es.length)=false by simpa using hs,qCg]at this;rw[Dat.eqL_len hs];exact this
theorem zP7(n:Nat){d e:Dat}{v u:V}{x y:Value}{A:Around}{s:Shared}(hd:d.dep<=n)(ok:HOk P w H s.heap)(h1:Rep H d v)(h2:Rep H e u)(r1:RelV v x)(r2:RelV u y)(hu:A.units+n<cLine):SeqAt.RcNeAt A s x y (!Dat.eq d e):=by
 have hu':A.units<cLine:=by omega
 cases d with
 |non=>
  cases h1;cases r1;cases e with
  |non=>
   cases h2;cases r2;exact SeqAt.RcNeAt.none_none
  |bl b=>
   cases h2;cases r2;exact SeqAt.RcNeAt.none_bool b
  |int b=>
   cases h2;obtain⟨t2,rfl⟩:=r2;exact SeqAt.RcNeAt.none_int b t2
  |str b=>
   cases h2;obtain⟨t2,rfl⟩:=r2;exact SeqAt.RcNeAt.none_str b t2
  |lst es=>
   obtain⟨p2,ys,rfl,hb,q2⟩:=h2;obtain⟨its2,v2,hl2⟩:=zB2 ok hb;cases r2;exact SeqAt.RcNeAt.none_list hl2 hu'
  |tup es=>
   obtain⟨p2,ys,rfl,hb,q2⟩:=h2;obtain⟨its2,v2,hl2⟩:=zBZ ok hb;cases r2;exact SeqAt.RcNeAt.none_tuple hl2 hu'
 |bl a=>
  cases h1;cases r1;cases e with
  |non=>
   cases h2;cases r2;exact SeqAt.RcNeAt.bool_none a
  |bl b=>
   cases h2;cases r2;exact SeqAt.RcNeAt.bool_bool a b
  |int b=>
   cases h2;obtain⟨t2,rfl⟩:=r2;exact SeqAt.RcNeAt.bool_int a b t2
  |str b=>
   cases h2;obtain⟨t2,rfl⟩:=r2;exact SeqAt.RcNeAt.bool_str a b t2
  |lst es=>
   obtain⟨p2,ys,rfl,hb,q2⟩:=h2;obtain⟨its2,v2,hl2⟩:=zB2 ok hb;cases r2;exact SeqAt.RcNeAt.bool_list a hl2 hu'
  |tup es=>
   obtain⟨p2,ys,rfl,hb,q2⟩:=h2;obtain⟨its2,v2,hl2⟩:=zBZ ok hb;cases r2;exact SeqAt.RcNeAt.bool_tuple a hl2 hu'
 |int a=>
  cases h1;obtain⟨t1,rfl⟩:=r1;cases e with
  |non=>
   cases h2;cases r2;exact SeqAt.RcNeAt.int_none a t1
  |bl b=>
   cases h2;cases r2;exact SeqAt.RcNeAt.int_bool a t1 b
  |int b=>
   cases h2;obtain⟨t2,rfl⟩:=r2;exact SeqAt.RcNeAt.int_int a t1 b t2
  |str b=>
   cases h2;obtain⟨t2,rfl⟩:=r2;exact SeqAt.RcNeAt.int_str a t1 b t2
  |lst es=>
   obtain⟨p2,ys,rfl,hb,q2⟩:=h2;obtain⟨its2,v2,hl2⟩:=zB2 ok hb;cases r2;exact SeqAt.RcNeAt.int_list a t1 hl2 hu'
  |tup es=>
   obtain⟨p2,ys,rfl,hb,q2⟩:=h2;obtain⟨its2,v2,hl2⟩:=zBZ ok hb;cases r2;exact SeqAt.RcNeAt.int_tuple a t1 hl2 hu'
 |str a=>
  cases h1;obtain⟨t1,rfl⟩:=r1;cases e with
  |non=>
   cases h2;cases r2;exact SeqAt.RcNeAt.str_none a t1
  |bl b=>
   cases h2;cases r2;exact SeqAt.RcNeAt.str_bool a t1 b
  |int b=>
   cases h2;obtain⟨t2,rfl⟩:=r2;exact SeqAt.RcNeAt.str_int a t1 b t2
  |str b=>
   cases h2;obtain⟨t2,rfl⟩:=r2;exact SeqAt.RcNeAt.str_str a t1 b t2
  |lst es=>
   obtain⟨p2,ys,rfl,hb,q2⟩:=h2;obtain⟨its2,v2,hl2⟩:=zB2 ok hb;cases r2;exact SeqAt.RcNeAt.str_list a t1 hl2 hu'
  |tup es=>
   obtain⟨p2,ys,rfl,hb,q2⟩:=h2;obtain⟨its2,v2,hl2⟩:=zBZ ok hb;cases r2;exact SeqAt.RcNeAt.str_tuple a t1 hl2 hu'
 |lst ds=>
  have hdl:Dat.depL ds+1<=n:=by rw[Dat.dep]at hd;exact hd
  obtain⟨p,xs,rfl,ha,q1⟩:=h1;obtain⟨its,v1,hl1⟩:=zB2 ok ha;cases r1;cases e with
  |non=>
   cases h2;cases r2;exact SeqAt.RcNeAt.list_none hl1 hu'
  |bl b=>
   cases h2;cases r2;exact SeqAt.RcNeAt.list_bool b hl1 hu'
  |int b=>
   cases h2;obtain⟨t2,rfl⟩:=r2;exact SeqAt.RcNeAt.list_int b t2 hl1 hu'
  |str b=>
   cases h2;obtain⟨t2,rfl⟩:=r2;exact SeqAt.RcNeAt.list_str b t2 hl1 hu'
  |lst es=>
   obtain⟨p2,ys,rfl,hb,q2⟩:=h2;obtain⟨its2,v2,hl2⟩:=zB2 ok hb;cases r2;have len1:its.toArray.size=ds.length:=by have:=v1.length;have:=q1.length;simp;omega
   have len2:its2.toArray.size=es.length:=by have:=v2.length;have:=q2.length;simp;omega
   show SeqAt.RcNeAt A s (.ref p) (.ref p2) (!Dat.eqL ds es)
   by_cases hs:ds.length=es.length
   ·have:=SeqAt.RcNeAt.lists (A:=A) (s:=s) hl1 hl2 (by rw[len1,len2,hs]) hu' (zHK ok (by omega) (by rw[zEU];omega:A.in1.units+(n-1)<cLine) q1 q2 v1 v2)
    rw[len1,Dat.eqL_all hs _ (fun j h1 h2=>by rw[qA0,qA0];simp[h1,h2])]at this;exact this
   ·rw[Dat.eqL_len hs];exact SeqAt.RcNeAt.lists_lengths hl1 hl2 (by rw[len1,len2];simpa using hs) hu'
  |tup es=>
   obtain⟨p2,ys,rfl,hb,q2⟩:=h2;obtain⟨its2,v2,hl2⟩:=zBZ ok hb;cases r2;exact SeqAt.RcNeAt.list_tuple hl1 hl2 hu'
 |tup ds=>
  have hdl:Dat.depL ds+1<=n:=by rw[Dat.dep]at hd;exact hd
  obtain⟨p,xs,rfl,ha,q1⟩:=h1;obtain⟨its,v1,hl1⟩:=zBZ ok ha;cases r1;cases e with
  |non=>
   cases h2;cases r2;exact SeqAt.RcNeAt.tuple_none hl1 hu'
  |bl b=>
   cases h2;cases r2;exact SeqAt.RcNeAt.tuple_bool b hl1 hu'
  |int b=>
   cases h2;obtain⟨t2,rfl⟩:=r2;exact SeqAt.RcNeAt.tuple_int b t2 hl1 hu'
  |str b=>
   cases h2;obtain⟨t2,rfl⟩:=r2;exact SeqAt.RcNeAt.tuple_str b t2 hl1 hu'
  |lst es=>
   obtain⟨p2,ys,rfl,hb,q2⟩:=h2;obtain⟨its2,v2,hl2⟩:=zB2 ok hb;cases r2;exact SeqAt.RcNeAt.tuple_list hl1 hl2 hu'
  |tup es=>
   obtain⟨p2,ys,rfl,hb,q2⟩:=h2;obtain⟨its2,v2,hl2⟩:=zBZ ok hb;cases r2;have len1:its.toArray.size=ds.length:=by have:=v1.length;have:=q1.length;simp;omega
   have len2:its2.toArray.size=es.length:=by have:=v2.length;have:=q2.length;simp;omega
   show SeqAt.RcNeAt A s (.ref p) (.ref p2) (!Dat.eqL ds es)
   have:=SeqAt.RcNeAt.tuples (A:=A) (s:=s) hl1 hl2 hu' (zHK ok (by omega) (by rw[zEU];omega:A.in1.units+(n-1)<cLine) q1 q2 v1 v2)
   by_cases hs:ds.length=es.length
   ·rw[len1,len2,<- hs,qF8,beq_self_eq_true,qE1,Dat.eqL_all hs _ (fun j h1 h2=>by rw[qA0,qA0];simp[h1,h2])]at this;exact this
   ·rw[len1,len2,show(ds.length==es.length)=false by simpa using hs,qCg]at this;rw[Dat.eqL_len hs];exact this
end
section
variable{X:Cx}
noncomputable def rEqD:R2:=fun x y H Q=>∃d e,Rep H d x/\Rep H e y/\d.dep<=40/\Q (.bl (Dat.eq d e)) H
noncomputable def rNeD:R2:=fun x y H Q=>∃d e,Rep H d x/\Rep H e y/\d.dep<=40/\Q (.bl (!Dat.eq d e)) H
theorem zYV(hu:X.A.units+64<cLine):OpR X (compareOp .Eq) rEqD:=by
 intro pins s σ H x y v u Q I rx ry h;obtain⟨d,e,h1,h2,hd,q⟩:=h;exact zT2 40 hd I.hok h1 h2 rx ry (by omega) _ _ _ _ ⟨.bl _,H,I,rfl,q⟩
theorem zYS(hu:X.A.units+64<cLine):OpR X (compareOp .NotEq) rNeD:=by
 intro pins s σ H x y v u Q I rx ry h;obtain⟨d,e,h1,h2,hd,q⟩:=h;exact zP7 40 hd I.hok h1 h2 rx ry (by omega) _ _ _ _ ⟨.bl _,H,I,rfl,q⟩
noncomputable def zHT(H:Hp):V->Option String
 |.non=>some "NoneType"
 |.bl _=>some "bool"
 |.int _=>some "int"
 |.str _=>some "str"
 |.ref a=>match H a with
  |some (.lst _)=>some "list"
  |some (.tup _)=>some "tuple"
  |some (.dK _)=>some "dict"
  |_=>none
 |_=>none
noncomputable def zWQ(T n:String):Bool:=T==n||(T == "bool" && n == "int")
theorem zNL:zDL X (.builtin "isinstance") (fun vs H Q=>∃x n T,vs=[x,.ty n]/\zHT H x=some T/\n∈["int","bool","str","list","tuple","dict"]/\Q (.bl (zWQ T n)) H):=by
 intro pins s σ H vs us Q I r h;obtain⟨x,n,T,rfl,ht,hn,q⟩:=h;obtain⟨u,w',rfl,rx,rn⟩:=zSJ r
 cases(show w'=Value.type n from rn)
 have key:∃t,TyOf X.K H x t/\t=.type T:=by
  cases x with
  |non=>cases ht;exact⟨_,.non,rfl⟩
  |bl b=>cases ht;exact⟨_,.bl b,rfl⟩
  |int b=>cases ht;exact⟨_,.int b,rfl⟩
  |str b=>cases ht;exact⟨_,.str b,rfl⟩
  |ref a=>
   unfold zHT at ht;dsimp only at ht;cases e:H a with
   |none=>rw[e]at ht;cases ht
   |some o=>
    rw[e]at ht;cases o with
    |lst xs=>cases ht;exact⟨_,.lst e,rfl⟩
    |tup xs=>cases ht;exact⟨_,.tup e,rfl⟩
    |dK xs=>cases ht;exact⟨_,.dK e,rfl⟩
    |_=>cases ht
  |_=>cases ht
 obtain⟨t,ty,rfl⟩:=key;have hT:T∈["NoneType","bool","int","str","list","tuple","dict"]:=by
  cases x with
  |non=>cases ht;decide
  |bl b=>cases ht;decide
  |int b=>cases ht;decide
  |str b=>cases ht;decide
  |ref a=>
   unfold zHT at ht;dsimp only at ht;cases e:H a with
   |none=>rw[e]at ht;cases ht
   |some o=>
    rw[e]at ht;cases o with
    |lst xs=>cases ht;decide
    |tup xs=>cases ht;decide
    |dK xs=>cases ht;decide
    |_=>cases ht
  |_=>cases ht
 have e:qG6 X.K (.type T) (.type n)=some (zWQ T n):=by
  simp only[qA9,List.mem_nil_iff,or_false]at hT hn
  rcases hT with rfl|rfl|rfl|rfl|rfl|rfl|rfl<;>rcases hn with rfl|rfl|rfl|rfl|rfl|rfl<;>rfl
 exact zRK I rx ty e fun tk=>⟨.bl _,H,I.tok tk,rfl,q⟩
theorem zHU{prog:Program}{w:World}{A:Around}{bs:List Bool}:TruthOf prog w A (fun i v=>(bs.map Value.bool).toArray[i]?=some v) (fun i=>bs.getD i false):=by
 intro i v s Q E hv hq;have hv':(bs[i]?).map Value.bool=some v:=by simpa using hv
 cases e:bs[i]? with
 |none=>rw[e]at hv';cases hv'
 |some b=>
  rw[e]at hv';cases hv';dsimp only at hq;rw[qA0,e]at hq;exact wpAny_truthy_bool hq
theorem zGI:∀{bs:List Bool}{its:List Value},Vals (bs.map V.bl) its->its=bs.map Value.bool
 |[],_,.nil=>rfl
 |b::r,_,.cons h t=>by
  have h':_=Value.bool b:=h;rw[h',zGI t];rfl
theorem zOY:∀(bs:List Bool),(qA1 bs.length).all (fun i=>bs.getD i false)=bs.all id
 |[]=>rfl
 |b::r=>by
  rw[qAw,qD0,qCn,qCn,<- zOY r,qGz];rfl
theorem zOW:∀(bs:List Bool),(qA1 bs.length).any (fun i=>bs.getD i false)=bs.any id
 |[]=>rfl
 |b::r=>by
  rw[qAw,qD0,qBp,qBp,<- zOW r,List.any_map];rfl
theorem zU3(hc:X.calm=true):zDL X (.builtin "all") (fun vs H Q=>∃(a:Addr)(bs:List Bool),vs=[.ref a]/\H a=some (.lst (bs.map V.bl))/\Q (.bl (bs.all id)) H):=by
 intro pins s σ H vs us Q I r h;obtain⟨a,bs,rfl,ha,q⟩:=h;obtain⟨u,rfl,rx⟩:=zFL r;cases rx;obtain⟨its,rv,hl⟩:=zB2 I.hok ha;have e:=zGI rv;subst e;refine call_all_walk (wpAny_pyIter_list hl ?_);have hlt:a<s.heap.objs.size:=by obtain⟨o,ho,_⟩:=hl;exact Heap.lt_size ho
 refine⟨s.heap.objs.size,_,_,_,_,_,fun i=>bs.getD i false,rfl,Walks.list (show X.A.in1.handled=none from I.ok.hd hc) s.heap.objs.size a (qAn hlt) _,
  ⟨⟨_,Heap.get?_push_size _ rfl,rfl,rfl⟩,hl.at fun o e=>Heap.get?_push_of_some _ e⟩,zHU,fun h' tk hk=>?_⟩
 refine⟨.bl _,H,I.kept (t':=tk) fun b o e=>hk b o ?_ (Heap.get?_push_of_some _ e),rfl,?_⟩
 ·have:=Heap.lt_size e
  simp only[qAm];exact qAn this
 ·have:(bs.map Value.bool).toArray.size=bs.length:=by simp
  rw[this,zOY];exact q
theorem zU2(hc:X.calm=true):zDL X (.builtin "any") (fun vs H Q=>∃(a:Addr)(bs:List Bool),vs=[.ref a]/\H a=some (.lst (bs.map V.bl))/\Q (.bl (bs.any id)) H):=by
 intro pins s σ H vs us Q I r h;obtain⟨a,bs,rfl,ha,q⟩:=h;obtain⟨u,rfl,rx⟩:=zFL r;cases rx;obtain⟨its,rv,hl⟩:=zB2 I.hok ha;have e:=zGI rv;subst e;refine call_any_walk (wpAny_pyIter_list hl ?_);have hlt:a<s.heap.objs.size:=by obtain⟨o,ho,_⟩:=hl;exact Heap.lt_size ho
 refine⟨s.heap.objs.size,_,_,_,_,_,fun i=>bs.getD i false,rfl,Walks.list (show X.A.in1.handled=none from I.ok.hd hc) s.heap.objs.size a (qAn hlt) _,
  ⟨⟨_,Heap.get?_push_size _ rfl,rfl,rfl⟩,hl.at fun o e=>Heap.get?_push_of_some _ e⟩,zHU,fun h' tk hk=>?_⟩
 refine⟨.bl _,H,I.kept (t':=tk) fun b o e=>hk b o ?_ (Heap.get?_push_of_some _ e),rfl,?_⟩
 ·have:=Heap.lt_size e
  simp only[qAm];exact qAn this
 ·have:(bs.map Value.bool).toArray.size=bs.length:=by simp
  rw[this,zOW];exact q
noncomputable def zK9(lo:Int)(n:Nat):List V:=(qA1 n).map fun i=>.int (lo+(i:Nat))
theorem zHR:∀{xs:List V}{its:List Value},xs.length=its.length->(∀(j:Nat)(x:V)(v:Value),xs[j]?=some x->its[j]?=some v->RelV x v)->Vals xs its
 |[],[],_,_=>.nil
 |[],_::_,h,_=>by simp at h
 |_::_,[],h,_=>by simp at h
 |x::xs,v::its,h,g=>.cons (g 0 x v rfl rfl) (zHR (by simpa using h) fun j y u e1 e2=>g (j+1) y u (by simpa using e1) (by simpa using e2))
theorem zPU{lo:Int}{n:Nat}{its:List Value}(hl:its.length=n)(h:∀(j:Nat) (v:Value),its[j]?=some v->∃t,v=Value.int (lo+(j:Int)*1) t):Vals (zK9 lo n) its:=by
 refine zHR (by simp[zK9,hl]) fun j x v e1 e2=>?_
 unfold zK9 at e1;rw[qAk]at e1;cases e:(qA1 n)[j]? with
 |none=>rw[e]at e1;cases e1
 |some i=>
  rw[e]at e1;cases e1;have hi:i=j:=by
   obtain⟨h1,h2⟩:=qA3.mp e;rw[qCp]at h2;exact h2.symm
  subst hi;obtain⟨t,ht⟩:=h i v e2;exact⟨t,by rw[ht,qDh]⟩
theorem zKU(hc:X.calm=true):zDL X (.type "list") (fun vs H Q=>∃p lo hi,vs=[.ref p]/\H p=some (.rng lo hi)/\(-(2 ^ 62)<=lo/\lo<2 ^ 62/\-(2 ^ 62)<=hi/\hi<2 ^ 62)/\hi-lo<=1000000/\∀l,H l=none->Q (.ref l) (upd H l (.lst (zK9 lo (hi-lo).toNat)))):=by
 intro pins s σ H vs us Q I r h;obtain⟨p,lo,hi,rfl,hp,⟨b1,b2,b3,b4⟩,hz,q⟩:=h;obtain⟨u,rfl,rx⟩:=zFL r;cases rx;obtain⟨t,u,v,e⟩:=(show ObjOk X.prog X.w H s.heap p (.rng lo hi) from I.hok p _ hp)
 have hn:Builtin.Range.rangeSize lo hi 1=(((hi-lo).toNat:Nat):Int):=by rw[rangeSize_one];split<;>omega
 refine call_list_range (n:=(hi-lo).toNat) (I.ok.hd hc) e (small_one b1 b2 b3 b4) hn (by omega) fun h' tk acc' c' hk hS hacc=>?_
 have rv:Vals (zK9 lo (hi-lo).toNat) acc'.toList:=zPU (by simpa using hacc.1) fun j v hj=>hacc.2 j v (by simpa using hj)
 refine⟨.ref _,_,I.laid (o:=.lst (zK9 lo (hi-lo).toNat)) hk (qA7 _) ⟨?_,acc'.toList,c',rv,by simpa using hS⟩,rfl,q _ I.fresh⟩;have hl:(zK9 lo (hi-lo).toNat).length=(hi-lo).toNat:=by simp[zK9]
 rw[hl,sizeLine_eq];omega
end
end L2
namespace L2
open PySem PySem.Spec PyProof.Rows
section
variable{X:Cx}
def zYI:R2:=fun x y H Q=>match x,y with
 |.int i,.int j=>Q (.int (i+j)) H
 |.str i,.str j=>i.length+j.length<=sizeLine/\Q (.str (i++j)) H
 |.ref l,.ref b=>∃xs zs,H l=some (.lst xs)/\H b=some (.lst zs)/\xs.length+zs.length<=sizeLine/\∀p,H p=none->Q (.ref p) (upd H p (.lst (xs++zs)))
 |_,_=>False
theorem zBE:OpR X (binaryOp .Add) zYI:=by
 intro pins s σ H x y v u Q I rx ry h;cases x<;>cases y<;>first
  |exact zYX pins s σ H _ _ v u Q I rx ry ⟨_,_,rfl,rfl,h⟩
  |exact zP9 pins s σ H _ _ v u Q I rx ry ⟨_,_,rfl,rfl,h.1,h.2⟩
  |(obtain⟨xs,zs,h1,h2,h3,h4⟩:=h;exact zYW pins s σ H _ _ v u Q I rx ry ⟨_,_,xs,zs,rfl,rfl,h1,h2,h3,h4⟩)
  |exact qA5 h
noncomputable def rMulU:R2:=fun x y H Q=>match x,y with
 |.int i,.int j=>CMul i j/\Q (.int (i*j)) H
 |_,_=>False
noncomputable def zY7:R2:=fun x y H Q=>match x,y with
 |.int i,.int j=>Q (.int (i-j)) H
 |_,_=>False
theorem zVJ:OpR X (binaryOp .Sub) zY7:=by
 intro pins s σ H x y v u Q I rx ry h;cases x<;>cases y<;>first
  |exact zYP pins s σ H _ _ v u Q I rx ry ⟨_,_,rfl,rfl,h⟩
  |exact qA5 h
noncomputable def zYD:R2:=fun x y H Q=>match x,y with
 |.int i,.int j=>0<j/\Q (.int (i%j)) H
 |_,_=>False
theorem zCI:OpR X (binaryOp .Mod) zYD:=by
 intro pins s σ H x y v u Q I rx ry h;cases x<;>cases y<;>first
  |exact zYT pins s σ H _ _ v u Q I rx ry ⟨_,_,rfl,rfl,h.1,h.2⟩
  |exact qA5 h
noncomputable def zYA:R2:=fun x y H Q=>match x,y with
 |.int i,.int j=>CPow i j/\Q (.int (i ^ j.toNat)) H
 |_,_=>False
theorem za4:OpR X (binaryOp .Pow) zYA:=by
 intro pins s σ H x y v u Q I rx ry h;cases x<;>cases y<;>first
  |exact zYR pins s σ H _ _ v u Q I rx ry ⟨_,_,rfl,rfl,h.1,h.2⟩
  |exact qA5 h
def zYB:V->Hp->VK->Prop:=fun x H Q=>match x with
 |.int i=>Q (.int (-i)) H
 |_=>False
theorem zXM:UnR X (unaryOp .USub) zYB:=by
 intro pins s σ H x v Q I rx h;cases x<;>first
  |exact zXK pins s σ H _ v Q I rx ⟨_,rfl,h⟩
  |exact qA5 h
noncomputable def zVZ(p:Int->Int->Bool):R2:=fun x y H Q=>match x,y with
 |.int i,.int j=>Q (.bl (p i j)) H
 |_,_=>False
theorem u_lt:OpR X (compareOp .Lt) (zVZ fun i j=>decide (i<j)):=by
 intro pins s σ H x y v u Q I rx ry h;cases x<;>cases y<;>first
  |exact zaE pins s σ H _ _ v u Q I rx ry ⟨_,_,rfl,rfl,h⟩
  |exact qA5 h
theorem u_gt:OpR X (compareOp .Gt) (zVZ fun i j=>decide (j<i)):=by
 intro pins s σ H x y v u Q I rx ry h;cases x<;>cases y<;>first
  |exact zaF pins s σ H _ _ v u Q I rx ry ⟨_,_,rfl,rfl,h⟩
  |exact qA5 h
def rEqU:R2:=fun x y H Q=>match x,y with
 |.int i,.int j=>Q (.bl (decide (i=j))) H
 |.str i,.str j=>Q (.bl (decide (i=j))) H
 |.bl i,.bl j=>Q (.bl (decide (i=j))) H
 |x,y=>rEqD x y H Q
def rNeU:R2:=fun x y H Q=>match x,y with
 |.int i,.int j=>Q (.bl (!decide (i=j))) H
 |.str i,.str j=>Q (.bl (!decide (i=j))) H
 |.bl i,.bl j=>Q (.bl (!decide (i=j))) H
 |x,y=>rNeD x y H Q
theorem u_eq(hu:X.A.units+64<cLine):OpR X (compareOp .Eq) rEqU:=by
 intro pins s σ H x y v u Q I rx ry h;cases x<;>cases y<;>first
  |(refine zaG pins s σ H _ _ v u Q I rx ry ⟨rfl,?_⟩;have h':=h;simp only[rEqU]at h';simpa using h')
  |exact zYV hu pins s σ H _ _ v u Q I rx ry h
theorem u_ne(hu:X.A.units+64<cLine):OpR X (compareOp .NotEq) rNeU:=by
 intro pins s σ H x y v u Q I rx ry h;cases x<;>cases y<;>first
  |(refine zaD pins s σ H _ _ v u Q I rx ry ⟨rfl,?_⟩;have h':=h;simp only[rNeU]at h';simpa using h')
  |exact zYS hu pins s σ H _ _ v u Q I rx ry h
def rIxU(K:qA2):R2:=fun x y H Q=>match x,y with
 |.str z,.int i=>∃c,z.length<=sizeLine/\atI z.cps.toList i=some c/\Q (.str ⟨#[c]⟩) H
 |.ref p,.int i=>∃xs v,(SqL K H p xs\/SqT K H p xs)/\atI xs i=some v/\Q v H
 |_,_=>False
theorem u_ix:IxR X (rIxU X.K):=by
 intro value slice pins s σ H x y v u Q I rx ry h hs;cases x<;>cases y<;>first
  |(obtain⟨c,h1,h2,h3⟩:=h;exact zZB value slice pins s σ H _ _ v u Q I rx ry ⟨_,_,c,rfl,rfl,h1,h2,h3⟩ hs)
  |(obtain⟨xs,w,h1|h1,h2,h3⟩:=h
    ·exact zWO value slice pins s σ H _ _ v u Q I rx ry ⟨_,xs,_,w,rfl,rfl,h1,h2,h3⟩ hs
    ·exact zZ9 value slice pins s σ H _ _ v u Q I rx ry ⟨_,xs,_,w,rfl,rfl,h1,h2,h3⟩ hs)
  |exact qA5 h
def zVX(K:qA2):List V->Hp->VK->Prop:=fun vs H Q=>match vs with
 |[.str z]=>z.length<=sizeLine/\Q (.int z.length) H
 |[.ref p]=>∃xs,(SqL K H p xs\/SqT K H p xs)/\Q (.int xs.length) H
 |_=>False
theorem zaI:zDL X (.builtin "len") (zVX X.K):=by
 intro pins s σ H vs us Q I r h;cases vs with
 |nil=>exact qA5 h
 |cons hd1 tl1=>
  cases hd1 with
  |str z=>
   cases tl1 with
   |nil=>
    exact zMA pins s σ H _ us Q I r ⟨z,rfl,h.1,h.2⟩
   |cons _ _=>exact qA5 h
  |ref p=>
   cases tl1 with
   |nil=>
    obtain⟨xs,h1,h2⟩:=h;exact zMB pins s σ H _ us Q I r ⟨p,xs,rfl,h1,h2⟩
   |cons _ _=>exact qA5 h
  |_=>exact qA5 h
def zO9(K:qA2):List V->Hp->VK->Prop:=fun vs H Q=>match vs with
 |[.ref p]=>(∃xs,(SqL K H p xs\/SqT K H p xs)/\∀l,H l=none->Q (.ref l) (upd H l (.lst xs))) \/
   ∃lo hi,H p=some (.rng lo hi)/\(-(2 ^ 62)<=lo/\lo<2 ^ 62/\-(2 ^ 62)<=hi/\hi<2 ^ 62)/\hi-lo<=1000000/\∀l,H l=none->Q (.ref l) (upd H l (.lst (zK9 lo (hi-lo).toNat)))
 |_=>False
theorem zZ8(hc:X.calm=true):zDL X (.type "list") (zO9 X.K):=by
 intro pins s σ H vs us Q I r h;cases vs with
 |nil=>exact qA5 h
 |cons hd1 tl1=>
  cases hd1 with
  |ref p=>
   cases tl1 with
   |nil=>
    rcases h with⟨xs,h1,h2⟩|⟨lo,hi,h1,h2,h3,h4⟩
    ·exact zM9 pins s σ H _ us Q I r ⟨p,xs,rfl,h1,h2⟩
    ·exact zKU hc pins s σ H _ us Q I r ⟨p,lo,hi,rfl,h1,h2,h3,h4⟩
   |cons _ _=>exact qA5 h
  |_=>exact qA5 h
def zYE:List V->Hp->VK->Prop:=fun vs H Q=>match vs with
 |[x,.ty n]=>∃T,zHT H x=some T/\n∈["int","bool","str","list","tuple","dict"]/\Q (.bl (zWQ T n)) H
 |_=>False
theorem zBU:zDL X (.builtin "isinstance") zYE:=by
 intro pins s σ H vs us Q I r h;cases vs with
 |nil=>exact qA5 h
 |cons x tl1=>
  cases tl1 with
  |nil=>exact qA5 h
  |cons hd2 tl2=>
   cases hd2 with
   |ty n=>
    cases tl2 with
    |nil=>
     obtain⟨T,h1,h2,h3⟩:=h;exact zNL pins s σ H _ us Q I r ⟨x,n,T,rfl,h1,h2,h3⟩
    |cons _ _=>exact qA5 h
   |_=>exact qA5 h
def zYH:List V->Hp->VK->Prop:=fun vs H Q=>match vs with
 |[.ref a]=>∃bs:List Bool,H a=some (.lst (bs.map V.bl))/\Q (.bl (bs.all id)) H
 |_=>False
theorem zRF(hc:X.calm=true):zDL X (.builtin "all") zYH:=by
 intro pins s σ H vs us Q I r h;cases vs with
 |nil=>exact qA5 h
 |cons hd1 tl1=>
  cases hd1 with
  |ref a=>
   cases tl1 with
   |nil=>
    obtain⟨bs,h1,h2⟩:=h;exact zU3 hc pins s σ H _ us Q I r ⟨a,bs,rfl,h1,h2⟩
   |cons _ _=>exact qA5 h
  |_=>exact qA5 h
def zYG:List V->Hp->VK->Prop:=fun vs H Q=>match vs with
 |[.ref a]=>∃bs:List Bool,H a=some (.lst (bs.map V.bl))/\Q (.bl (bs.any id)) H
 |_=>False
theorem zTI(hc:X.calm=true):zDL X (.builtin "any") zYG:=by
 intro pins s σ H vs us Q I r h;cases vs with
 |nil=>exact qA5 h
 |cons hd1 tl1=>
  cases hd1 with
  |ref a=>
   cases tl1 with
   |nil=>
    obtain⟨bs,h1,h2⟩:=h;exact zU2 hc pins s σ H _ us Q I r ⟨a,bs,rfl,h1,h2⟩
   |cons _ _=>exact qA5 h
  |_=>exact qA5 h
end
noncomputable def zM2(N N':List Str)(k:Nat)(sc esc:Scope):Bool:=
 (sc.kind==.function)&&decide ((sc.names.map (·.1)).Nodup)&&(N'.length==N.length+k) &&
 ((qA1 N.length).all fun i=>match N'[i]? with
  |none=>true
  |some x=>(sc.names.lookup x==none)||(sc.names.any (fun p=>p.1==x&&p.2==.free)&&N[i]?==some x)) &&
 (sc.names.all fun p=>p.2 != .free||esc.names.lookup p.1==some .cell||esc.names.lookup p.1==some .free)
theorem cn{X:Cx}{sc:Scope}(N':List Str)(k:Nat)(h:zM2 X.N N' k sc X.env.scope=true):CompNames X.N N' k sc X.env:=by
 unfold zM2 at h;simp only[qBf,decide_eq_true_eq,beq_iff_eq]at h;obtain⟨⟨⟨⟨h1,h2⟩,h3⟩,h4⟩,h5⟩:=h;refine⟨h1,h2,h3,fun i x e hi=>?_,fun x hx=>?_⟩
 ·have q:=qEa.mp h4 i (qDr.mpr hi);rw[e]at q;simp only[qFq,qBf,beq_iff_eq,qBy]at q
  rcases q with q|⟨⟨p,hp,e1,e2⟩,e3⟩
  ·exact .inr q
  ·obtain⟨y,kk⟩:=p;dsimp only at e1 e2;subst e1;subst e2;exact .inl ⟨hp,e3⟩
 ·have q:=qEa.mp h5 _ hx;simp only[qFq,bne_iff_ne,ne_eq,not_true_eq_false,false_or,beq_iff_eq]at q;exact q
theorem PE.imp{X:Cx}{e:Expr}{t t':TE}(h:PE X e t)(i:∀σ H Q,t' σ H Q->t σ H Q):PE X e t':=fun pins s σ H Q I q=>h pins s σ H Q I (i σ H Q q)
noncomputable def vM(i:Nat):TE:=fun σ H Q=>match σ[i]? with
 |some (some v)=>Q v H
 |_=>False
theorem pn{X:Cx}(i:Nat){x:Str}{pos:Pos}(hN:X.N[i]?=some x:=by rfl)(hv:Vis X.env.scope x:=by first|exact Or.inl rfl|exact qH8 (Or.inl rfl)|exact qH8 (qH8 rfl))(hd:(x==("__debug__":Str))=false:=by decide)
  (hcd:(x==("__classdict__":Str))=false:=by decide):PE X (.Name x pos) (vM i):=(zYL hN hv hd hcd).imp fun σ H Q h=>by
 unfold vM at h;cases e:σ[i]? with
 |none=>rw[e]at h;exact qA5 h
 |some w=>
  rw[e]at h;cases w with
  |none=>exact qA5 h
  |some v=>exact⟨v,e,h⟩
noncomputable def bM(t:TE):TT:=fun σ H Q=>t σ H fun x H'=>match x with
 |.bl k=>Q k H'
 |.int i=>Q (i != 0) H'
 |.non=>Q false H'
 |_=>False
section
variable{X:Cx}{a b c:Expr}{ta tb tc:TE}{tA tB:TT}{rest:List Expr}{pos:Pos}
theorem zXO{K:qA2}{x:V}{H:Hp}{Q:Bool->Hp->Prop}(h:match x with | .bl k=>Q k H | .int i=>Q (i != 0) H | .non=>Q false H|_=>False):∃k,TruV K x H k/\Q k H:=by
 cases x with
 |bl k=>exact⟨k,rfl,h⟩
 |int i=>exact⟨_,rfl,h⟩
 |non=>exact⟨_,rfl,h⟩
 |_=>exact qA5 h
theorem pt_m(ha:PE X a ta)(he:∀whole,isTrue a X.env whole=(do let v <- whole;standAt a.pos;holding [v] (truthy v)):=by intro _;rfl):PT X a (bM ta):=by
 intro pins s σ H Q I h;refine isTrue_plain (thn (ha pins s σ H _ I h) fun v s1 z0=>?_) (he _);obtain⟨x,H1,I1,r1,q1⟩:=z0;exact thn (zUD pins s1 σ H1 x v Q I1 r1 (zXO q1)) fun _ _ q=>q
theorem zBM{op:CmpOp}{r:R2}(ho:OpR X (compareOp op) r)(ha:PE X a ta)(hb:PE X b tb)(hm:behindInMarks op b=false):PT X (.Compare a [op] [b] pos) (fun σ H Q=>ta σ H fun x H1=>tb σ H1 fun y H2=>r x y H2 fun z H3=>match z with | .bl k=>Q k H3|_=>False):=by
 intro pins s σ H Q I h;refine wpAny_isTrue_Compare1 (thn (ha pins s σ H _ I h) fun v s1 ⟨x,H1,I1,r1,q1⟩=>thn (hb pins s1 σ H1 _ I1 q1) fun u s2 ⟨y,H2,I2,r2,q2⟩=>
  thn (ho pins s2 σ H2 x y v u _ I2 r1 r2 q2) fun d s3 ⟨z,H3,I3,r3,q3⟩=>?_) hm
 cases z with
 |bl k=>cases r3;exact wpAny_truthy_bool ⟨H3,I3,q3⟩
 |_=>exact qA5 q3
theorem zJ3(ha:PE X a ta)(hb:PE X (.BoolOp .And (b::rest) pos) tb):PE X (.BoolOp .And (a::b::rest) pos) (fun σ H Q=>ta σ H fun x H1=>match x with | .bl c=>if c=true then tb σ H1 Q else Q (.bl false) H1|_=>False):=by
 intro pins s σ H Q I h;refine BoolOp_and (thn (ha pins s σ H _ I h) fun v s1 z0=>?_);obtain⟨x,H1,I1,r1,q1⟩:=z0;cases x with
 |bl c=>
  cases r1;refine wpAny_truthy_bool ?_;cases c with
  |true=>exact hb pins s1 σ H1 Q I1 (by simpa using q1)
  |false=>exact⟨.bl false,H1,I1,rfl,by simpa using q1⟩
 |_=>exact qA5 q1
theorem zYN(ha:PE X a ta):PE X (.UnaryOp .Not a pos) (fun σ H Q=>ta σ H fun x H1=>match x with | .bl c=>Q (.bl (!c)) H1|_=>False):=by
 intro pins s σ H Q I h;refine UnaryOp_ (thn (ha pins s σ H _ I h) fun v s1 z0=>?_);obtain⟨x,H1,I1,r1,q1⟩:=z0;cases x with
 |bl c=>cases r1;exact not_of (wpAny_truthy_bool ⟨.bl (!c),H1,I1,rfl,q1⟩)
 |_=>exact qA5 q1
def setM:V->V->V->Hp->(Hp->Prop)->Prop:=fun o i v H Q=>match o,i with
 |.ref p,.int k=>∃xs j,H p=some (.lst xs)/\ixN xs.length k=some j/\Q (upd H p (.lst (xs.set j v)))
 |_,_=>False
theorem zMQ:PSet X setM:=by
 intro pins s σ H o i v ov iv u Q I ro ri rv h;cases o<;>cases i<;>first
  |(obtain⟨xs,j,h1,h2,h3⟩:=h;exact zSW pins s σ H _ _ v ov iv u Q I ro ri rv ⟨_,xs,_,j,rfl,rfl,h1,h2,h3⟩)
  |exact qA5 h
def appM:V->List V->Hp->VK->Prop:=fun x vs H Q=>match x,vs with
 |.ref l,[y]=>∃xs,H l=some (.lst xs)/\xs.length<sizeLine/\Q .non (upd H l (.lst (xs++[y])))
 |_,_=>False
theorem zN6:MtR X "list.append" appM:=by
 intro pins s σ H x vs v us Q I rx rv h;cases x with
 |ref l=>
  cases vs with
  |nil=>exact qA5 h
  |cons y t=>
   cases t with
   |nil=>
    obtain⟨xs,h1,h2,h3⟩:=h;exact zR9 pins s σ H _ _ v us Q I rx rv ⟨l,xs,y,rfl,rfl,h1,h2,h3⟩
   |cons _ _=>exact qA5 h
 |_=>exact qA5 h
end
theorem pt_w{X:Cx}{e:Expr}{t:TT}(h:PW X e t):PT X e t:=h.pt
def Has(P:Program)(w:World)(K:qA2)(mg:Str->Option Value)(base:Heap)(x:Str)(k:Nat)(ps:List Str)(sp:Sp):Prop:=
 ∃f fd,FnOk P w K mg base CX0 k f fd ps sp/\mg x=some (.ref f)/\qB7 K (.ref f)=true/\Binds K fd ps []
def Def(K:qA2)(mg:Str->Option Value)(x:Str)(st:Stmt):Prop:=∃f fd,Fun K x x st f fd/\mg x=some (.ref f)
section
variable{X:Cx}{x:Str}{j k:Nat}{ps:List Str}{sp:Sp}{e:Expr}{es:List Expr}{t:TA}{p pos:Pos}
theorem zB1(h:Has X.prog X.w X.K X.mg X.base x j ps sp)(hjk:j<=k)(hr:Room k X.A)(hg:Gl X x)(ha:PA X (e::es) t)(hdb:(x==("__debug__":Str))=false:=by decide)
  (he:starEach (e::es) X.env=(false,eval e X.env)::starEach es X.env:=by rfl) (hpl:(backTo pos (starEach es X.env)).any (·.1)=false:=by rfl):PE X (.Call (.Name x p) (e::es) [] pos) (zVL sp [] E0 t):=by
 obtain⟨f,fd,G,m,kp,b⟩:=h;exact zW2 G (hr.mono hjk) hg m kp b .nil zaC ha hdb he hpl
end
section
variable{P:Program}{w:World}{K:qA2}{mg:Str->Option Value}{base:Heap}
theorem Def.ok{x:Str}{st:Stmt}{N ps:List Str}{k:Nat}{sp:Sp}(D:Def K mg x st)(S:FnScope N ps (zAD st))
  (hb:∀(kV doc pm:Value)(an:Option Addr)(cdv ct:Value)(us:List Value),us.length=ps.length->bindArgs (qBj x x (zEG st) (zDE st) (zAD st) .none kV doc pm an cdv ct) ⟨us,[]⟩=pure (ps.zip us))
  (len:∀vs H Q E,sp vs H Q E->vs.length=ps.length)
  (hbody:∀(f:Addr)(cdv:Value)(A:Around)(outer:List Env)(s:Shared)(H:Hp)(vs:List V)(Q:VK)(E:XK),Room k (A.deeper (envOfC x (zAD st) s.heap.objs.size f cdv))->sp vs H Q E ->
   ∃t,PSs (cxOf CX0 P w K mg base N x (zAD st) f cdv A outer s H E).nox (zDE st) t/\t { nx:=fun _ H'=>Q .non H',rt:=Q } (start N vs) H):Has P w K mg base x (k+1) ps sp:=by
 obtain⟨f,fd,F,m⟩:=D;exact⟨f,fd,F.ok S len (fun cdv A outer s H vs Q E hr h=>hbody f cdv A outer s H vs Q E hr h),m,F.kp,F.binds hb⟩
end
end L2
namespace L2
open PySem PySem.Spec PyProof.Rows
section
variable{X:Cx}{pins:List (Addr×Obj)}{σ:St}{H:Hp}{s:Shared}
theorem Inv.turnedNew{h':Heap}{t':Nat}{fp:List Addr}{a:Addr}{o:HO}(I:Inv X pins σ H s)(hf:∀b∈fp,FpOk X pins H b)(k:∀b u,b∉fp->s.heap.get? b=some u->h'.get? b=some u)
  (hp:s.heap.objs.size<=a) (new:ObjOk X.prog X.w (upd H a o) h' a o):Inv X pins σ (upd H a o) { s with heap:=h',toks:=t' }:=by
 have hn:H a=none:=I.hok.fresh hp;have ne:∀b u,s.heap.get? b=some u->b≠a:=fun b u e=>qAn (qAi (Heap.lt_size e) hp)
 have nfp:∀b u,H b=some u->b∉fp:=fun b u e z=>by rw[(hf b z).1]at e;cases e
 refine I.step (g':=s.gens) (d':=s.drawn) (ch:=fp) (fun b hb=>⟨(hf b hb).2.2.2.1,(hf b hb).2.1,(hf b hb).2.2.2.2.1,(hf b hb).2.2.2.2.2⟩) (fun b u _ _ hc e _=>k b u hc e) (fun b u _ _ hc e _=>⟨u.slots,k b u hc e⟩)
  (fun b u _ e n=>by rw[zB0 (ne b u e)];exact n) (fun b u hc e=>⟨u,k b u hc e⟩) (fun b xs e=>by rw[zB0 (zB5 e hn)];exact e) (fun b u xs e=>by rw[zB0 (zB5 e hn)];exact e)
  (fun b ps e=>⟨#[],by rw[zB0 (zB5 e hn),e];simp⟩) (fun m hm=>?_) (fun b u e=>?_) I.bare
 ·obtain⟨u,es,ep,ho,r⟩:=hm;exact⟨u,es,ep,k _ u (fun z=>(hf _ z).2.1 rfl) ho,r⟩
 ·by_cases hb:b=a
  ·subst hb;rw[zBB]at e;cases e;exact new
  ·rw[zB0 hb]at e;refine(I.hok b u e).stay (fun c v hc q=>k c v ?_ q) (fun c q=>by rw[zB0 (zB5 q hn)];exact q) fun c xs q=>by rw[zB0 (zB5 q hn)];exact q
   rcases hc with z|z
   ·rw[z];exact nfp b u e
   ·exact nfp c _ z
theorem Inv.turnedL{h':Heap}{t':Nat}{fp:List Addr}(I:Inv X pins σ H s)(hf:∀b∈fp,FpOk X pins H b)(k:∀b u,b∉fp->s.heap.get? b=some u->h'.get? b=some u):Inv X pins σ H { s with heap:=h',toks:=t' }:=by
 have nfp:∀b u,H b=some u->b∉fp:=fun b u e z=>by rw[(hf b z).1]at e;cases e
 refine I.step (g':=s.gens) (d':=s.drawn) (ch:=fp) (fun b hb=>⟨(hf b hb).2.2.2.1,(hf b hb).2.1,(hf b hb).2.2.2.2.1,(hf b hb).2.2.2.2.2⟩) (fun b u _ _ hc e _=>k b u hc e) (fun b u _ _ hc e _=>⟨u.slots,k b u hc e⟩)
  (fun b u _ e n=>n) (fun b u hc e=>⟨u,k b u hc e⟩) (fun b xs e=>e) (fun b u xs e=>e)
  (fun b ps e=>⟨#[],by rw[e];simp⟩) (fun m hm=>?_) (fun b u e=>?_) I.bare
 ·obtain⟨u,es,ep,ho,r⟩:=hm;exact⟨u,es,ep,k _ u (fun z=>(hf _ z).2.1 rfl) ho,r⟩
 ·refine(I.hok b u e).stay (fun c v hc q=>k c v ?_ q) (fun c q=>q) fun c xs q=>q
  rcases hc with z|z
  ·rw[z];exact nfp b u e
  ·exact nfp c _ z
def Ite(K:qA2)(a:Addr):It:=
 ⟨fun i H=>∃xs x,SqL K H a xs/\xs[i]?=some x,fun i H x H'=>∃T y,x=.ref T/\H T=none/\H'=upd H T (.tup [.int i,y])/\∀xs,SqL K H a xs->xs[i]?=some y,fun i H=>∃xs,SqL K H a xs/\xs.length<=i⟩
theorem zQ0{P:Program}{w:World}{K:qA2}{ts:List Expr}{kk:Nat}{tp:Pos}(a e it:Addr)(hei:e≠it) :
  Turn P w K (.Tuple ts kk tp) (Ite K a) [e,it] e (fun i h=>(∃old,IsEnum h e it i old)/\h.IsListIter it a i) where
 mem:=by simp
 obj:=fun i h st b hb=>by
  rcases qA9.mp hb with z|z
  ·subst z;obtain⟨⟨old,he⟩,_⟩:=st;exact⟨_,he,fun v z=>by cases z⟩
  ·have z':b=it:=by simpa using z
   subst z';obtain⟨_,o,e,c,d⟩:=st;exact⟨o,e,fun v z=>by rw[d]at z;cases z⟩
 keep:=fun i h h' st k=>⟨by obtain⟨⟨old,he⟩,_⟩:=st;exact⟨old,k e (by simp) _ he⟩,st.2.at fun o x=>k it (by simp) o x⟩
 item:=by
  intro X hP hw hK hc i pins s σ H E I hf st hg;subst hP hw hK;obtain⟨xs,x,hq,hx⟩:=hg;obtain⟨its,rv,p,hz⟩:=I.list hq;obtain⟨u,hu,ru⟩:=rv.get hx;obtain⟨⟨old,he⟩,hit⟩:=st;refine wpAny_pyNext_enum_item he hit p.isList (x:=u) (by simpa using hu) hei fun h' ho hit' hT hsz hk=>?_
  refine⟨_,rfl,wpAny_letOwnedTupleGo_enum ho fun h'' he'' hs''=>?_⟩;have hTe:s.heap.objs.size≠e:=qBi (Heap.lt_size he);have hTi:s.heap.objs.size≠it:=by obtain⟨o,ho',_⟩:=hit;exact qBi (Heap.lt_size ho')
  have kk:∀b u,b∉[e,it]->s.heap.get? b=some u->h''.get? b=some u:=fun b u hb q=>by
   have b1:b≠e:=fun z=>hb (by simp[z])
   have b2:b≠it:=fun z=>hb (by simp[z])
   exact(hs''.2 b b1).trans (hk b u b1 b2 q)
  have hT'':=(hs''.2 _ hTe).trans hT;refine⟨.ref s.heap.objs.size,_,I.turnedNew (t':=s.toks+1) (o:=.tup [.int i,x]) hf kk (qA7 _) ⟨by show 2<=sizeLine;decide,[.int i s.toks,u],.cons ⟨_,rfl⟩ (.cons ru .nil),⟨_,hT'',rfl,_,rfl⟩⟩,rfl,
   ⟨_,x,rfl,I.fresh,rfl,fun ys hy=>by rw[I.list_inj hy hq];exact hx⟩,⟨⟨_,by simpa using he''⟩,hit'.at fun o x=>(hs''.2 it hei.symm).trans x⟩,fun b hb=>?_⟩
  have hbs:b<s.heap.objs.size:=by
   rcases qA9.mp hb with z|z
   ·rw[z];exact Heap.lt_size he
   ·have z':b=it:=by simpa using z
    rw[z'];obtain⟨o,ho',_⟩:=hit;exact Heap.lt_size ho'
  rw[zB0 (qAn hbs)];exact(hf b hb).1
 done:=by
  intro X hP hw hK hc i pins s σ H E I hf st hg;subst hP hw hK;obtain⟨xs,hq,hx⟩:=hg;obtain⟨its,rv,p,hz⟩:=I.list hq;have hl:=rv.length;obtain⟨⟨old,he⟩,hit⟩:=st;exact wpAny_pyNext_enum_end (I.ok.hd hc) he hit p.isList (by simp;omega) fun h' eb=>⟨rfl,I.turnedL (t':=s.toks) hf fun b u hb q=>eb b u (fun z=>hb (by simp[z])) q⟩
 self:=fun _ _ _ _ _ st h=>by obtain⟨⟨old,he⟩,_⟩:=st;exact wpAny_pyIter_enum he h
def zWV(K:qA2)(tl:TA):TI:=fun σ H R=>tl σ H fun vs H1=>match vs with
 |[.ref a]=>(∃xs,SqL K H1 a xs)/\R (Ite K a) H1
 |_=>False
theorem zW1{ts:List Expr}{kk:Nat}{tp p pos:Pos}{a:Expr}{ta:TA}(hg:Gl X "enumerate")(hm:X.mg "enumerate" = none)(ha:PA X [a] ta)(hs:starEach [a] X.env=[(false,eval a X.env)]:=by rfl) :
  PI X (.Tuple ts kk tp) (.Call (.Name "enumerate" p) [a] [] pos) (zWV X.K ta):=by
 intro pins s σ H R I h;refine Call_ (zIB I hg hm boot_enumerate (qB8 (thn (ha pos pins s σ H _ I h) fun us s1 z0=>?_) hs rfl));obtain⟨vs,H1,I1,r1,q1⟩:=z0;cases vs with
 |nil=>exact qA5 q1
 |cons hd1 tl1=>
  cases hd1 with
  |ref l=>
   cases tl1 with
   |nil=>
    obtain⟨⟨xs,hq⟩,q⟩:=q1;obtain⟨u,rfl,rx⟩:=zFL r1;cases rx;obtain⟨its,rv,pl,hz⟩:=I1.list hq;refine call_enumerate_list pl.isList fun h' he hit hsz hk=>?_
    refine wpAny_pyIter_enum he ?_;have hne:s1.heap.objs.size+1≠s1.heap.objs.size:=by omega
    refine⟨s1.heap.objs.size+1,[s1.heap.objs.size+1,s1.heap.objs.size],_,_,H1,rfl,I1.kept (t':=s1.toks) hk,zQ0 l _ _ hne,⟨⟨_,he⟩,hit⟩,fun b hb=>?_,q⟩;have hb':s1.heap.objs.size<=b:=by
     rcases qA9.mp hb with z|z
     ·rw[z];exact qBs _
     ·have z':b=s1.heap.objs.size:=by simpa using z
      rw[z'];exact qA7 _
    exact I1.fpOk hb' (I1.hok.fresh hb')
   |cons _ _=>exact qA5 q1
  |_=>exact qA5 q1
end
section
variable{X:Cx}{K:qA2}
theorem zC7(hK:X.K=K:=by rfl):zDL X (.builtin "len") (zVX K):=hK▸zaI
theorem zN9(hc:X.calm=true)(hK:X.K=K:=by rfl):zDL X (.type "list") (zO9 K):=hK▸zZ8 hc
theorem zBD(hK:X.K=K:=by rfl):IxR X (rIxU K):=hK▸u_ix
theorem zOB{ts:List Expr}{kk:Nat}{tp p pos:Pos}{a:Expr}{ta:TA}(hg:Gl X "enumerate")(hm:X.mg "enumerate" = none)(ha:PA X [a] ta)(hs:starEach [a] X.env=[(false,eval a X.env)]:=by rfl)(hK:X.K=K:=by rfl) :
  PI X (.Tuple ts kk tp) (.Call (.Name "enumerate" p) [a] [] pos) (zWV K ta):=hK▸zW1 hg hm ha hs
theorem zGL{es:List Expr}{k:Nat}{t:TGs}{n:Nat}{pos:Pos}(hc:X.calm=true)(h:PGs X es t)
  (hn:(assignEach es X.env).length=n:=by rfl) (hst:(assignEach es X.env).findIdx? (·.1)=none:=by rfl) (hK:X.K=K:=by rfl):PG X (.Tuple es k pos) (gTup K n t):=hK▸zYK hc h hn hst
noncomputable def tML(r:V->List V->Hp->VK->Prop)(to:TE)(t:TA):TE:=fun σ H Q=>to σ H fun x H1=>match x with
 |.ref p=>∃xs,H1 p=some (.lst xs)/\t σ H1 fun vs H2=>r x vs H2 Q
 |_=>False
variable{o e:Expr}{es:List Expr}{to:TE}{t:TA}{name:Str}{apos cpos:Pos}{T id:String}{r:V->List V->Hp->VK->Prop}
theorem zT6(pa:PlainAttrs "list")(slot:Slot "list" name id)(hty:typeOf (.builtin id)=pure (.type "method_descriptor"))(hm:MtR X id r)(ho:PE X o to)(ha:PA X (e::es) t)
  (hbase:attributeBase o name X.env (eval o X.env)=eval o X.env:=by rfl)
  (hfew:((backTo cpos (starEach (e::es) X.env)).all (fun x=>!x.1)&&(backToKw cpos (keywordEach [] X.env)).all (fun x=>x.1.isSome)
   && decide ((e::es).length+([]:List Keyword).length+(if([]:List Keyword).isEmpty then 0 else 1)<30))=true:=by rfl)
  (hline:(apos.endLine==cpos.line)=true:=by rfl) (hs:starEach (e::es) X.env=(false,eval e X.env)::starEach es X.env:=by rfl) (hplain:(backTo cpos (starEach es X.env)).any (·.1)=false:=by rfl) :
  PE X (.Call (.Attribute o name apos) (e::es) [] cpos) (tML r to t):=by
 intro pins s σ H Q I h;refine wpAny_Call_method_late hbase hfew hline rfl (thn (ho pins s σ H _ I h) fun v s1 z0=>?_);obtain⟨x,H1,I1,r1,q1⟩:=z0;cases x with
 |ref p=>?_
 |_=>exact qA5 q1
 obtain⟨xs,hx,q1⟩:=q1;obtain⟨h1,h2⟩:=zXN (T:="list") I1 r1 (.inl ⟨rfl,xs,SqL.of hx⟩);refine⟨"list",id,pa,slot,hty,h1,h2,?_⟩;have hA:=ha cpos pins s1 σ H1 _ I1 q1;rw[hs]at hA ⊢;refine Calls.callWith_builtin (by show(false||(backTo cpos (starEach es X.env)).any (·.1))=false;rw[hplain]<;>rfl) (Calls.evalArgs_plain ?_);exact thn hA fun us s2 ⟨vs,H2,I2,r2,q2⟩=>hm pins s2 σ H2 (.ref p) vs v us Q I2 r1 r2 q2
end
end L2
namespace L2
open PySem PySem.Spec PyProof.Rows
theorem same_new{H:Hp}{p:Addr}(h:H p=none)(o:HO):Same H (upd H p o):=fun b u q=>by rw[zB0 (zB5 q h)];exact q
theorem Same.upd{H H':Hp}{p:Addr}(s:Same H H')(h:H p=none)(o:HO):Same H (upd H' p o):=fun b u q=>by rw[zB0 (zB5 q h)];exact s b u q
theorem zD7{H:Hp}:∀(ns:List Int),RepL H (ns.map Dat.int) (ns.map V.int)
 |[]=>rfl
 |n::r=>⟨.int n,r.map V.int,rfl,rfl,zD7 r⟩
theorem zCW:∀(ns:List Int),Dat.depL (ns.map Dat.int)=0
 |[]=>rfl
 |n::r=>by
  rw[qAd,Dat.depL,zCW r];rfl
theorem zGA:∀(ns ms:List Int),Dat.eqL (ns.map Dat.int) (ms.map Dat.int)=decide (ns=ms)
 |[],[]=>by simp[Dat.eqL]
 |[],_::_=>by simp[Dat.eqL]
 |_::_,[]=>by simp[Dat.eqL]
 |n::r,m::q=>by
  rw[qAd,qAd,Dat.eqL,zGA r q,Dat.eq]
  by_cases h:n=m
  ·subst h;simp
  ·simp[h]
theorem big{n:Nat}(h:n<=100000):n<sizeLine:=by rw[sizeLine_eq];omega
theorem zG6:∀{ns:List Int}{vs:List Value},Vals (ns.map V.int) vs->IntsAre vs ns
 |[],_,.nil=>.nil
 |n::r,_,.cons h t=>by
  obtain⟨tk,rfl⟩:=h;exact .cons n tk (zG6 t)
section
variable{X:Cx}
def rInU(K:qA2)(neg:Bool):R2:=fun x y H Q=>match y with
 |.ref p=>∃xs,(SqL K H p xs\/SqT K H p xs)/\zGP x=true/\xs.all zGP=true/\Q (.bl (if neg then !inV x xs else inV x xs)) H
 |.str j=>match x with
  |.str i=>Q (.bl (if neg then !(!(Builtin.Str.occurrences j i 0 j.length 1).isEmpty)else !(Builtin.Str.occurrences j i 0 j.length 1).isEmpty)) H
  |_=>False
 |_=>False
theorem u_in{K:qA2}(hK:X.K=K:=by rfl):OpR X (compareOp .In) (rInU K false):=by
 subst hK;intro pins s σ H x y v u Q I rx ry h;cases y with
 |ref p=>
  obtain⟨xs,h1,h2,h3,h4⟩:=h;exact zR2 pins s σ H _ _ v u Q I rx ry ⟨p,xs,rfl,h1,h2,h3,h4⟩
 |str j=>
  cases x with
  |str i=>exact zR1 pins s σ H _ _ v u Q I rx ry ⟨i,j,rfl,rfl,h⟩
  |_=>exact qA5 h
 |_=>exact qA5 h
theorem zHS{K:qA2}(hK:X.K=K:=by rfl):OpR X (compareOp .NotIn) (rInU K true):=by
 subst hK;intro pins s σ H x y v u Q I rx ry h;cases y with
 |ref p=>
  obtain⟨xs,h1,h2,h3,h4⟩:=h;exact zLL pins s σ H _ _ v u Q I rx ry ⟨p,xs,rfl,h1,h2,h3,h4⟩
 |str j=>
  cases x with
  |str i=>exact zLK pins s σ H _ _ v u Q I rx ry ⟨i,j,rfl,rfl,h⟩
  |_=>exact qA5 h
 |_=>exact qA5 h
end
theorem zM1{K:qA2}{a:Addr}{xs:List V}{k:Nat}{g:TG}{tif:TT}{te:TE}{σ:St}{H:Hp}{Q:VK}(Pv:Nat->List V->Hp->Prop)(h0:Pv 0 [] H)(hl:∀i acc H,i<=xs.length->Pv i acc H->SqL K H a xs)(hz:∀i acc H,i<xs.length->Pv i acc H->acc.length<sizeLine)
  (hs:∀i x acc H T,xs[i]?=some x->Pv i acc H->H T=none->g (.ref T) (σ++qA6 k none) (upd H T (.tup [.int i,x])) fun σ2 H2=>∃own:St,own.length=k/\σ2=σ++own/\tif σ2 H2 fun b H3=>if b=true then te σ2 H3 fun v H4=>Pv (i+1) (acc++[v]) H4 else Pv (i+1) acc H3)
  (hd:∀acc H,Pv xs.length acc H->∀D,H D=none->Q (.ref D) (upd H D (.lst acc))):zQ5 k g tif te σ Q (Ite K a) H:=by
 refine⟨fun i m acc H=>m=xs.length-i/\i<=xs.length/\Pv i acc H,⟨xs.length,by simp,qAp _,h0⟩,?_⟩
 rintro i m acc H ⟨rfl,hi,p⟩
 have q:=hl i acc H hi p
 by_cases hlt:i<xs.length
 ·refine .inr ⟨⟨xs,xs[i],q,by simp[hlt]⟩,hz i acc H hlt p,Pv (i+1),fun acc' H' p'=>⟨xs.length-(i+1),by omega,rfl,hlt,p'⟩,fun x H' y=>?_⟩;obtain⟨T,y,e1,e2,e3,e4⟩:=y;subst e1 e3;exact hs i y acc _ T (e4 xs q) p e2
 ·have e:i=xs.length:=by omega
  subst e;exact .inl ⟨⟨xs,q,qA7 _⟩,hd acc H p⟩
end L2
namespace Mi
open PySem
noncomputable section
inductive Sv where
 |i (n:Int)|s (x:Str)
inductive Sw where
 |non|bl (b:Bool)|int (i:Int)|str (x:Str)
inductive Dt where
 |non|bl (b:Bool)|int (i:Int)|str (x:Str)|lst (xs:List Dt)|tup (xs:List Dt)|scr (ns:List Int)|exc (c f:Str) (d:Dt)|ins (c:Str) (fs:List (Str×Sv))|dct (kvs:List (Sum Int Str×Sw))
mutual
def Dt.dep:Dt->Nat
 |.lst xs=>Dt.depL xs+1
 |.tup xs=>Dt.depL xs+1
 |.scr _=>1000
 |.exc _ _ _=>1000
 |.ins _ _=>1000
 |.dct _=>1000
 |_=>0
def Dt.depL:List Dt->Nat
 |[]=>0
 |x::r=>max x.dep (Dt.depL r)
end
mutual
def Dt.eq:Dt->Dt->Bool
 |.non,.non=>true
 |.bl a,.bl b=>a==b
 |.bl a,.int b=>(if a then 1 else 0)==b
 |.int a,.bl b=>a==(if b then 1 else 0)
 |.int a,.int b=>a==b
 |.str a,.str b=>a==b
 |.lst xs,.lst ys=>Dt.eqL xs ys
 |.tup xs,.tup ys=>Dt.eqL xs ys
 |_,_=>false
def Dt.eqL:List Dt->List Dt->Bool
 |[],[]=>true
 |x::r,y::q=>Dt.eq x y&&Dt.eqL r q
 |_,_=>false
end
structure Xn where
 cls:Str
 f:Str
 d:Dt
abbrev R(α:Type):=Option (Except Xn α)
noncomputable def okR{α:Type}(a:α):R α:=some (.ok a)
noncomputable def zA9{α β:Type}(x:R α)(f:α->R β):R β:=match x with
 |none=>none
 |some (.error e)=>some (.error e)
 |some (.ok a)=>f a
def optR{α:Type}(o:Option α):R α:=match o with
 |none=>none
 |some a=>okR a
@[simp] theorem zA2{α β:Type}(a:α)(f:α->R β):zA9 (okR a) f=f a:=rfl
@[simp] theorem zAE{α β:Type}(f:α->R β):zA9 none f=none:=rfl
@[simp] theorem zAK{α β:Type}(e:Xn)(f:α->R β):zA9 (some (.error e)) f=some (.error e):=rfl
@[simp] theorem zAH{α:Type}(a:α):optR (some a)=okR a:=rfl
@[simp] theorem zAJ{α:Type}:optR (none:Option α)=none:=rfl
abbrev Rh:=List (Option Dt)
abbrev Sl:=Dt×Nat
abbrev Ro:=List (Option Sl)
abbrev EM:=Rh->R Dt
abbrev TM:=Rh->R Bool
abbrev AM:=Rh->R (List Dt)
abbrev FM:=List Dt->R Dt
noncomputable def ixA(n:Nat)(i:Int):Option Nat:=if 0<=i then(if i<n then some i.toNat else none)else if -(n:Int)<=i then some (i+n).toNat else none
def itA{α:Type}(xs:List α)(i:Int):Option α:=(ixA xs.length i).bind fun j=>xs[j]?
noncomputable def addD:Dt->Dt->Option Dt
 |.int i,.int j=>some (.int (i+j))
 |.str i,.str j=>@ite _ (i.length+j.length<=100000) (qA4 _) (some (.str (i++j))) none
 |.lst xs,.lst ys=>@ite _ (xs.length+ys.length<=100000) (qA4 _) (some (.lst (xs++ys))) none
 |_,_=>none
noncomputable def subD:Dt->Dt->Option Dt
 |.int i,.int j=>some (.int (i-j))
 |_,_=>none
noncomputable def mulD:Dt->Dt->Option Dt
 |.int i,.int j=>@ite _ (((-18446744073709551616<i/\i<18446744073709551616)\/(-18446744073709551616<j/\j<18446744073709551616))\/i.natAbs.log2+j.natAbs.log2<=67108864) (qA4 _) (some (.int (i*j))) none
 |_,_=>none
noncomputable def divD:Dt->Dt->Option Dt
 |.int i,.int j=>@ite _ (0<j/\j<1000000000000000000000000) (qA4 _) (some (.int (i/j))) none
 |_,_=>none
noncomputable def modD:Dt->Dt->Option Dt
 |.int i,.int j=>if 0<j then some (.int (i%j))else none
 |_,_=>none
noncomputable def powD:Dt->Dt->Option Dt
 |.int i,.int j=>@ite _ (0<=j/\j<=1000000/\i.natAbs<18446744073709551616) (qA4 _) (some (.int (i ^ j.toNat))) none
 |_,_=>none
noncomputable def negD:Dt->Option Dt
 |.int i=>some (.int (-i))
 |_=>none
noncomputable def cmpD(p:Int->Int->Bool):Dt->Dt->Option Dt
 |.int i,.int j=>some (.bl (p i j))
 |_,_=>none
noncomputable def eqD(x y:Dt):Option Dt:=if x.dep<=40/\y.dep<=40 then some (.bl (Dt.eq x y))else none
noncomputable def neD(x y:Dt):Option Dt:=if x.dep<=40/\y.dep<=40 then some (.bl (!Dt.eq x y))else none
noncomputable def isNonD:Dt->Bool
 |.non=>true
 |_=>false
def isD(x y:Dt):Option Dt:=match y with
 |.non=>some (.bl (isNonD x))
 |_=>none
noncomputable def zaJ(x y:Dt):Option Dt:=match y with
 |.non=>some (.bl (!isNonD x))
 |_=>none
def ixD:Dt->Dt->Option Dt
 |.lst xs,.int i=>itA xs i
 |.tup xs,.int i=>itA xs i
 |.scr ns,.int i=>(itA ns i).map .int
 |.str z,.int i=>@ite _ (z.length<=100000) (qA4 _) ((itA z.cps.toList i).map fun c=>.str ⟨#[c]⟩) none
 |_,_=>none
noncomputable def lenD:List Dt->Option Dt
 |[.lst xs]=>some (.int xs.length)
 |[.tup xs]=>some (.int xs.length)
 |[.scr ns]=>some (.int ns.length)
 |[.str z]=>@ite _ (z.length<=100000) (qA4 _) (some (.int z.length)) none
 |_=>none
noncomputable def listD:List Dt->Option Dt
 |[.lst xs]=>some (.lst xs)
 |[.tup xs]=>some (.lst xs)
 |[.scr ns]=>some (.lst (ns.map .int))
 |_=>none
noncomputable def nums(lo:Int)(n:Nat):List Dt:=(qA1 n).map fun i:Nat=>.int (lo+(i:Int))
noncomputable def tyD:Dt->String
 |.non=>"NoneType"
 |.bl _=>"bool"
 |.int _=>"int"
 |.str _=>"str"
 |.lst _=>"list"
 |.tup _=>"tuple"
 |.scr _=>""
 |.exc _ _ _=>""
 |.ins _ _=>""
 |.dct _=>""
def isiD(n:String)(x:Dt):Option Dt:=if tyD x = "" then none else some (.bl (tyD x==n||(tyD x == "bool" && n == "int")))
noncomputable def boolsD:List Dt->Option (List Bool)
 |[]=>some []
 |.bl b::r=>(boolsD r).map (b::·)
 |_::_=>none
def allD:List Dt->Option Dt
 |[.lst xs]=>(boolsD xs).map fun bs=>.bl (bs.all id)
 |_=>none
def anyD:List Dt->Option Dt
 |[.lst xs]=>(boolsD xs).map fun bs=>.bl (bs.any id)
 |_=>none
noncomputable def intD:List Dt->Option Dt
 |[.int i]=>some (.int i)
 |[.bl k]=>some (.int (if k=true then 1 else 0))
 |_=>none
noncomputable def maxD:List Dt->Option Dt
 |[.int i,.int j]=>some (.int (if j>i then j else i))
 |_=>none
noncomputable def minD:List Dt->Option Dt
 |[.int i,.int j]=>some (.int (if j<i then j else i))
 |_=>none
noncomputable def absD:List Dt->Option Dt
 |[.int i]=>some (.int (if i<0 then -i else i))
 |_=>none
noncomputable def hasD(x:Dt)(ys:List Dt):Option Bool:=if x.dep=0/\Dt.depL ys=0 then some (ys.any fun y=>Dt.eq y x)else none
def inD(ng:Bool)(x y:Dt):Option Dt:=match y with
 |.lst ys=>(hasD x ys).map fun b=>.bl (if ng=true then !b else b)
 |.tup ys=>(hasD x ys).map fun b=>.bl (if ng=true then !b else b)
 |.str z=>match x with
  |.str y=>match y.cps.toList with
   |[c]=>some (.bl (if ng=true then !decide (c∈z.cps.toList)else decide (c∈z.cps.toList)))
   |_=>none
  |_=>none
 |_=>none
noncomputable def cutIx(n d:Nat):Option Int->Nat
 |none=>d
 |some v=>if v<0 then(v+(n:Int)).toNat else min v.toNat n
def cutA{α:Type}(xs:List α)(lo hi:Option Int):List α:=(xs.drop (cutIx xs.length 0 lo)).take (cutIx xs.length xs.length hi-cutIx xs.length 0 lo)
def slD:Dt->Option Int->Option Int->Option Dt
 |.lst xs,lo,hi=>some (.lst (cutA xs lo hi))
 |.str z,lo,hi=>@ite _ (z.length<=100000) (qA4 _) (some (.str ⟨(cutA z.cps.toList lo hi).toArray⟩)) none
 |_,_,_=>none
abbrev OM:=Rh->R (Option Int)
def oNo:OM:=fun _=>okR none
def oE(e:Rh->R Dt):OM:=fun ρ=>zA9 (e ρ) fun d=>match d with
 |.int i=>okR (some i)
 |_=>none
def eSl(a:Rh->R Dt)(lo hi:OM):Rh->R Dt:=fun ρ=>zA9 (a ρ) fun x=>zA9 (lo ρ) fun l=>zA9 (hi ρ) fun h=>optR (slD x l h)
noncomputable def posC(c:Nat):List Nat->Option Nat
 |[]=>none
 |x::r=>if x=c then some 0 else(posC c r).map (·+1)
def zaL(x:Dt)(ys:List Dt):Option Dt:=match x,ys with
 |.str z,[.str y]=>match y.cps.toList with
  |[c]=>some (.int (match posC c z.cps.toList with|some i=>(i:Int)|none=>-1))
  |_=>none
 |_,_=>none
noncomputable def zZR(x:Dt)(ys:List Dt):Option Dt:=match x,ys with
 |.str z,[.str y]=>match y.cps.toList with
  |[c]=>some (.int (z.cps.toList.count c:Nat))
  |_=>none
 |_,_=>none
noncomputable def zXS:List Dt->Option (List Str)
 |[]=>some []
 |.str z::r=>(zXS r).map (z::·)
 |_::_=>none
noncomputable def zRM:Dt->Bool
 |.str _=>true
 |_=>false
def eMt(f:Dt->List Dt->Option Dt)(a:Rh->R Dt)(am:Rh->R (List Dt)):Rh->R Dt:=fun ρ=>zA9 (a ρ) fun x=>if zRM x=true then zA9 (am ρ) fun xs=>optR (f x xs)else none
noncomputable def signsD(z:Str):List Dt:=z.cps.toList.map fun c=>.str ⟨#[c]⟩
def eC(d:Dt):EM:=fun _=>okR d
def eV(i:Nat):EM:=fun ρ=>match ρ[i]? with
 |some (some d)=>okR d
 |_=>none
def eB(f:Dt->Dt->Option Dt)(a b:EM):EM:=fun ρ=>zA9 (a ρ) fun x=>zA9 (b ρ) fun y=>optR (f x y)
def eU(f:Dt->Option Dt)(a:EM):EM:=fun ρ=>zA9 (a ρ) fun x=>optR (f x)
def eAnd(a b:EM):EM:=fun ρ=>zA9 (a ρ) fun x=>match x with
 |.bl k=>if k=true then b ρ else okR (.bl false)
 |_=>none
def eOr(a b:EM):EM:=fun ρ=>zA9 (a ρ) fun x=>match x with
 |.bl k=>if k=true then okR (.bl true)else b ρ
 |_=>none
def eNot(a:EM):EM:=fun ρ=>zA9 (a ρ) fun x=>match x with
 |.bl k=>okR (.bl (!k))
 |_=>none
def zZJ(p q:Dt->Dt->Option Dt)(a b c:EM):EM:=fun ρ=>zA9 (a ρ) fun x=>zA9 (b ρ) fun y=>zA9 (optR (p x y)) fun z=>match z with
 |.bl k=>if k=true then zA9 (c ρ) fun w=>optR (q y w)else okR (.bl false)
 |_=>none
def eIf(c:TM)(a b:EM):EM:=fun ρ=>zA9 (c ρ) fun k=>if k=true then a ρ else b ρ
def aNil:AM:=fun _=>okR []
def aCons(e:EM)(r:AM):AM:=fun ρ=>zA9 (e ρ) fun x=>zA9 (r ρ) fun xs=>okR (x::xs)
def eLst(a:AM):EM:=fun ρ=>zA9 (a ρ) fun xs=>@ite _ (xs.length<=100000) (qA4 _) (okR (.lst xs)) none
def eTup(a:AM):EM:=fun ρ=>zA9 (a ρ) fun xs=>@ite _ (xs.length<=100000) (qA4 _) (okR (.tup xs)) none
def eCall(f:FM)(a:AM):EM:=fun ρ=>zA9 (a ρ) f
def eBi(f:List Dt->Option Dt)(a:AM):EM:=fun ρ=>zA9 (a ρ) fun xs=>optR (f xs)
def eIsi(n:String)(a:EM):EM:=fun ρ=>zA9 (a ρ) fun x=>optR (isiD n x)
def tB(a:EM):TM:=fun ρ=>zA9 (a ρ) fun x=>match x with
 |.bl k=>okR k
 |_=>none
def tM(a:EM):TM:=fun ρ=>zA9 (a ρ) fun x=>match x with
 |.bl k=>okR k
 |.int i=>okR (i != 0)
 |.non=>okR false
 |_=>none
def tAn(a b:TM):TM:=fun ρ=>zA9 (a ρ) fun k=>if k=true then b ρ else okR false
def tOr(a b:TM):TM:=fun ρ=>zA9 (a ρ) fun k=>if k=true then okR true else b ρ
def tNo(a:TM):TM:=fun ρ=>zA9 (a ρ) fun k=>okR (!k)
def tYes:TM:=fun _=>okR true
abbrev IM:=Rh->R (List Dt)
def iSq(e:EM):IM:=fun ρ=>zA9 (e ρ) fun d=>match d with
 |.lst xs=>okR xs
 |.tup xs=>okR xs
 |.scr ns=>okR (ns.map .int)
 |.str z=>okR (signsD z)
 |_=>none
def iR1(e:AM):IM:=fun ρ=>zA9 (e ρ) fun vs=>match vs with
 |[.int j]=>@ite _ (-4611686018427387904<=j/\j<4611686018427387904) (qA4 _) (okR (nums 0 j.toNat)) none
 |_=>none
def iR2(e:AM):IM:=fun ρ=>zA9 (e ρ) fun vs=>match vs with
 |[.int i,.int j]=>@ite _ (-4611686018427387904<=i/\i<4611686018427387904/\-4611686018427387904<=j/\j<4611686018427387904) (qA4 _) (okR (nums i (j-i).toNat)) none
 |_=>none
noncomputable def enumD(n:Nat):List Dt->List Dt
 |[]=>[]
 |x::r=>.tup [.int n,x]::enumD (n+1) r
def iEn(e:AM):IM:=fun ρ=>zA9 (e ρ) fun vs=>match vs with
 |[.lst xs]=>okR (enumD 0 xs)
 |_=>none
noncomputable def zipD:List Dt->List Dt->List Dt
 |x::r,y::q=>.tup [x,y]::zipD r q
 |_,_=>[]
def iZi(e:AM):IM:=fun ρ=>zA9 (e ρ) fun vs=>match vs with
 |[.lst xs,.lst ys]=>okR (zipD xs ys)
 |_=>none
inductive Tg where
 |one (i:Nat)
 |tup (is:List Nat)
noncomputable def zB8:Tg->Dt->Option (List (Nat×Dt))
 |.one i,d=>some [(i,d)]
 |.tup is,.tup ds=>if ds.length=is.length then some (is.zip ds)else none
 |.tup _,_=>none
noncomputable def Tg.idx:Tg->List Nat
 |.one i=>[i]
 |.tup is=>is
noncomputable def zB6:Rh->List (Nat×Dt)->Rh
 |ρ,[]=>ρ
 |ρ,(i,d)::r=>zB6 (ρ.set i (some d)) r
noncomputable def zBI:Ro->List (Nat×Dt)->Ro
 |ρ,[]=>ρ
 |ρ,(i,d)::r=>zBI (ρ.set i (some (d,0))) r
def compGo(ρ:Rh)(k:Nat)(tg:Tg)(c:TM)(e:EM):List Dt->List Dt->R (List Dt)
 |[],acc=>okR acc
 |d::ds,acc=>match zB8 tg d with
  |none=>none
  |some bs=>zA9 (c (zB6 (ρ++qA6 k none) bs)) fun b=>if b=true then zA9 (e (zB6 (ρ++qA6 k none) bs)) fun x=>compGo ρ k tg c e ds (acc++[x])else compGo ρ k tg c e ds acc
def eComp(it:IM)(k:Nat)(tg:Tg)(c:TM)(e:EM):EM:=fun ρ=>zA9 (it ρ) fun ds=>@ite _ (ds.length<=100000/\(tg.idx.all fun i=>decide (ρ.length<=i))=true) (qA4 _) (zA9 (compGo ρ k tg c e ds []) fun es=>okR (.lst es)) none
inductive Out where
 |nx (ρ:Ro)|rt (d:Dt)|bk (ρ:Ro)|ct (ρ:Ro)
abbrev SM:=Ro->R Out
noncomputable def full(ρ:Ro):Rh:=ρ.map fun o=>o.map qFj
noncomputable def frz(ρ:Ro):Rh:=ρ.map fun o=>match o with
 |some (d,n)=>if n=0\/d.dep=0 then some d else none
 |none=>none
noncomputable def frz1(i:Nat)(ρ:Ro):Ro:=match ρ[i]? with
 |some (some (d,_))=>ρ.set i (some (d,0))
 |_=>ρ
def frzAt:List Nat->Ro->Ro
 |[],ρ=>ρ
 |i::r,ρ=>frzAt r (frz1 i ρ)
def sNil:SM:=fun ρ=>okR (.nx ρ)
def sSeq(a b:SM):SM:=fun ρ=>zA9 (a ρ) fun o=>match o with
 |.nx ρ'=>b ρ'
 |o=>okR o
noncomputable def zXY:SM:=fun _=>none
def zXZ:SM:=fun ρ=>okR (.bk ρ)
def za9:SM:=fun ρ=>okR (.ct ρ)
def sIf(c:TM)(a b:SM):SM:=fun ρ=>zA9 (c (full ρ)) fun k=>if k=true then a ρ else b ρ
def za8(e:EM):SM:=fun ρ=>zA9 (e (full ρ)) fun _=>okR (.nx ρ)
def sSet(i n:Nat)(vs:List Nat)(e:EM):SM:=fun ρ=>zA9 (e (full ρ)) fun d=>
 if d.dep<=n then okR (.nx (ρ.set i (some (d,n))))else zA9 (e (frz (frzAt vs ρ))) fun d'=>okR (.nx ((frzAt vs ρ).set i (some (d',n))))
def sUnp(is:List Nat)(vs:List Nat)(e:EM):SM:=fun ρ=>zA9 (e (frz (frzAt vs ρ))) fun d=>match zB8 (.tup is) d with
 |none=>none
 |some bs=>okR (.nx (zBI (frzAt vs ρ) bs))
def sRet(L n:Nat)(vs:List Nat)(e:EM):SM:=fun ρ=>zA9 (e (full ρ)) fun d=>
 if d.dep<=n/\d.dep<=L then okR (.rt d)else if n=L then zA9 (e (frz (frzAt vs ρ))) fun d'=>okR (.rt d')else none
def za7:SM:=fun _=>okR (.rt .non)
def sRetV(L i:Nat):SM:=fun ρ=>match ρ[i]? with
 |some (some (d,k))=>if k=L\/L=0\/(d.dep<=k/\d.dep<=L/\k<1000)then okR (.rt d)else none
 |_=>none
def sApp(i n:Nat)(e:EM):SM:=fun ρ=>match ρ[i]? with
 |some (some (.lst ds,k+1))=>zA9 (e (full ρ)) fun d=>@ite _ (ds.length<=100000/\d.dep<=n/\d.dep<=k) (qA4 _) (okR (.nx (ρ.set i (some (.lst (ds++[d]),k+1))))) none
 |_=>none
def sItem2(i n:Nat)(e0 e1 e2:EM):SM:=fun ρ=>zA9 (e2 (full ρ)) fun d=>match ρ[i]? with
 |some (some (.lst rs,k+2))=>zA9 (e0 (full ρ)) fun y=>match y with
  |.int y=>match ixA rs.length y with
   |some p=>match rs[p]? with
    |some (.lst ds)=>zA9 (e1 (full ρ)) fun z=>match z with
     |.int z=>match ixA ds.length z with
      |some q=>if d.dep<=n/\d.dep<=k then okR (.nx (ρ.set i (some (.lst (rs.set p (.lst (ds.set q d))),k+2))))else none
      |none=>none
     |_=>none
    |_=>none
   |none=>none
  |_=>none
 |_=>none
def forGo(tg:Tg)(b:SM):List Dt->SM
 |[],ρ=>okR (.nx ρ)
 |d::ds,ρ=>match zB8 tg d with
  |none=>none
  |some bs=>zA9 (b (zBI ρ bs)) fun o=>match o with
   |.nx ρ'=>forGo tg b ds ρ'
   |.ct ρ'=>forGo tg b ds ρ'
   |.bk ρ'=>okR (.nx ρ')
   |.rt d=>okR (.rt d)
def sFor(vs:List Nat)(it:IM)(tg:Tg)(b:SM):SM:=fun ρ=>zA9 (it (frz (frzAt vs ρ))) fun ds=>forGo tg b ds (frzAt vs ρ)
def sForR(it:IM)(i:Nat)(b:SM):SM:=fun ρ=>zA9 (it (full ρ)) fun ds=>forGo (.one i) b ds ρ
def whGo(c:TM)(b:SM):Nat->SM
 |0,_=>none
 |m+1,ρ=>zA9 (c (full ρ)) fun k=>if k=true then zA9 (b ρ) fun o=>match o with
   |.nx ρ'=>whGo c b m ρ'
   |.ct ρ'=>whGo c b m ρ'
   |.bk ρ'=>okR (.nx ρ')
   |.rt d=>okR (.rt d)
  else okR (.nx ρ)
noncomputable def WNs:{ n:Nat // n=1000000 }:=Classical.choice ⟨⟨1000000,rfl⟩⟩
noncomputable def WN:Nat:=WNs.val
theorem zaR:WN=1000000:=WNs.property
def sWhile(c:TM)(b:SM):SM:=fun ρ=>whGo c b WN ρ
noncomputable def startO(n:Nat)(ds:List Dt):Ro:=ds.map (fun d=>some (d,0))++qA6 (n-ds.length) none
def endF:Out->R Dt
 |.nx _=>okR .non
 |.rt d=>okR d
 |_=>none
def runF(P n:Nat)(b:SM):FM:=fun ds=>if ds.length=P then zA9 (b (startO n ds)) endF else none
end
end Mi
namespace L2
open PySem PySem.Spec PyProof.Rows
theorem zV9(n d:Nat)(o:Option Int)(hd:d<=n):HT.sIx n d o<=n:=by
 cases o with
 |none=>exact hd
 |some v=>
  show(if v<0 then(v+(n:Int)).toNat else min v.toNat n)<=n
  split<;>omega
theorem zPK(lo hi:Option Int)(n:Nat):Builtin.Str.strSliceIndices lo hi 1 n=(qA1 (HT.sIx n n hi-HT.sIx n 0 lo)).map fun k=>HT.sIx n 0 lo+k:=by
 unfold Builtin.Str.strSliceIndices sliceRange;have c1:∀(o:Option Int)(d:Nat),(match o with|none=>(d:Int)|some i=>(if(1:Int)>0 then max 0 (min (if i<0 then i+(n:Int)else i) n)else max (-1) (min (if i<0 then i+(n:Int)else i) (n-1))))=((HT.sIx n d o:Nat):Int):=by
  intro o d;cases o with
  |none=>rfl
  |some v=>
   show _=(((if v<0 then(v+(n:Int)).toNat else min v.toNat n:Nat)):Int)
   dsimp only;rw[if_pos (by decide)]
   split<;>omega
 dsimp only;rw[if_pos (show(1:Int)>0 by decide),if_pos (show(1:Int)>0 by decide),if_pos (show(1:Int)>0 by decide)];have e1:=c1 lo 0;have e2:=c1 hi n;rw[show((0:Nat):Int)=0 by rfl]at e1;have h1:∀a b:Int,a=((HT.sIx n 0 lo:Nat):Int)->b=((HT.sIx n n hi:Nat):Int)->(qA1 ((if a<b then(b-a+1-1)/1 else 0).toNat)).map (fun k:Nat=>(a+1*(k:Int)).toNat)=(qA1 (HT.sIx n n hi-HT.sIx n 0 lo)).map fun k=>HT.sIx n 0 lo+k:=by
  intro a b ha hb;subst ha hb;have e:(if((HT.sIx n 0 lo:Nat):Int)<((HT.sIx n n hi:Nat):Int)then(((HT.sIx n n hi:Nat):Int)-((HT.sIx n 0 lo:Nat):Int)+1-1)/1 else 0).toNat=HT.sIx n n hi-HT.sIx n 0 lo:=by
   split
   ·rw[Int.ediv_one];omega
   ·omega
  rw[e];refine qAq fun k _=>?_
  omega
 exact h1 _ _ e1 e2
theorem zQV:∀(xs:List Nat)(a k:Nat),a+k<=xs.length->((qA1 k).map fun j=>a+j).filterMap (xs[·]?)=(xs.drop a).take k:=by
 intro xs a k h
 induction k with
 |zero=>simp
 |succ k ih=>
  rw[qC6,qCq,List.filterMap_append,ih (by omega),qF3]
  congr 1
  have:a+k<xs.length:=by omega
  simp[List.getElem?_drop,this]
theorem zSV(z:Str)(lo hi:Option Int):Txt.slice z lo hi=⟨(Mi.cutA z.cps.toList lo hi).toArray⟩:=by
 obtain⟨⟨xs⟩⟩:=z;have hl:(⟨⟨xs⟩⟩:Str).length=xs.length:=rfl;unfold Txt.slice;rw[zPK,hl];have e0:∀o d,Mi.cutIx xs.length d o=HT.sIx xs.length d o:=fun o d=>by cases o<;>rfl
 have hb:=zV9 xs.length xs.length hi (qA7 _);have ha:=zV9 xs.length 0 lo (qAp _);have hc:Mi.cutA xs lo hi=(xs.drop (HT.sIx xs.length 0 lo)).take (HT.sIx xs.length xs.length hi-HT.sIx xs.length 0 lo):=by
  unfold Mi.cutA;rw[e0,e0]
 show _=(⟨(Mi.cutA xs lo hi).toArray⟩:Str)
 rw[hc]
 split
 ·rename_i h
  have h':HT.sIx xs.length xs.length hi-HT.sIx xs.length 0 lo=xs.length:=by simpa using h
  have a0:HT.sIx xs.length 0 lo=0:=by omega
  rw[h',a0,qD7,qCi]
 ·by_cases hle:HT.sIx xs.length 0 lo<=HT.sIx xs.length xs.length hi
  ·have:=zQV xs (HT.sIx xs.length 0 lo) (HT.sIx xs.length xs.length hi-HT.sIx xs.length 0 lo) (by omega)
   rw[<- this];simp
  ·rw[show HT.sIx xs.length xs.length hi-HT.sIx xs.length 0 lo=0 by omega];simp
section
variable{X:Cx}
def rSlU(K:qA2):V->Option Int->Option Int->Hp->VK->Prop:=fun x lo hi H Q=>match x with
 |.str z=>z.length<=sizeLine/\Q (.str ⟨(Mi.cutA z.cps.toList lo hi).toArray⟩) H
 |.ref a=>∃xs,SqL K H a xs/\∀p,H p=none->Q (.ref p) (upd H p (.lst (cutV xs lo hi)))
 |_=>False
theorem zQZ{v:Value}{o:Option Int}(h:IsPart v o):∃l:Option (Int×Tok),v=partValue l/\l.map (·.1)=o:=by
 cases h with
 |none=>exact⟨none,rfl,rfl⟩
 |int i t=>exact⟨some (i,t),rfl,rfl⟩
theorem u_sl{K:qA2}(hK:X.K=K:=by rfl):SlR X (rSlU K):=by
 subst hK;intro pins s σ H x v vl vu lo hi sl Q I rx hs pl pu h;cases x with
 |ref a=>
  obtain⟨xs,h1,h2⟩:=h;exact zVQ pins s σ H _ v vl vu lo hi sl Q I rx hs pl pu ⟨a,xs,rfl,h1,h2⟩
 |str z=>
  obtain⟨hz,q⟩:=h;obtain⟨t,rfl⟩:=rx;obtain⟨l,rfl,el⟩:=zQZ pl;obtain⟨u,rfl,eu⟩:=zQZ pu;obtain⟨o,g1,g2,g3⟩:=hs;refine⟨"str",_,F.slot_str_getitem.lookup,typeIs_str _ _ _,wpAny_getItem_str_slice (l:=l) (u:=u) (st:=none) ⟨o,g1,g2,g3⟩ rfl ?_⟩;have hp:(if((1:Int)==1&&(Builtin.Str.strSliceIndices lo hi 1 z.length).length==z.length)=true then Made.val (.str z t)else Made.str ⟨((Builtin.Str.strSliceIndices lo hi 1 z.length).filterMap (z.cps[·]?)).toArray⟩).post (EP X pins σ Q) s:=by
   refine post_val_or_str ⟨qAu (Txt.slice_le z lo hi) hz,fun t' k=>?_⟩;refine⟨.str (Txt.slice z lo hi),H,I.tok _,⟨_,rfl⟩,?_⟩;rw[zSV];exact q
  unfold sliceMade slicePicked;rw[el,eu];exact hp
 |_=>exact qA5 h
end
noncomputable def Its(z:Str):It:=⟨fun i _=>i<z.cps.size,fun i H x H'=>H'=H/\∃c,z.cps[i]?=some c/\x=.str ⟨#[c]⟩,fun i _=>z.cps.size<=i⟩
theorem zSP{P:Program}{w:World}{K:qA2}{tg:Expr}(z:Str)(t:Tok)(it:Addr)(ty:String)(hty:ty=strIterType z):Turn P w K tg (Its z) [it] it (fun i h=>h.IsStrIter it ty z t i) where
 mem:=by simp
 obj:=fun i h st b hb=>by
  have e:b=it:=by simpa using hb
  subst e;obtain⟨o,e,c,d⟩:=st;exact⟨o,e,fun v z=>by rw[d]at z;cases z⟩
 keep:=fun i h h' st k=>by obtain⟨o,ho,r⟩:=st;exact⟨o,k it (by simp) o ho,r⟩
 item:=by
  intro X hP hw hK hc i pins s σ H E I hf st hg;subst hP hw hK;have hi:i<z.cps.size:=hg;have hx:z.cps[i]?=some z.cps[i]:=qDt hi;obtain⟨f0,f1,f2,f3,f4,f5⟩:=hf it (by simp);have fin:∀h',h'.IsStrIter it ty z t (i+1)->Heap.SameBut it s.heap h'->∃u,some (Value.str ⟨#[z.cps[i]]⟩ s.toks)=some u/\wpAny (model X.prog X.w) X.A (letOwnedTupleGo tg (.ref it) u) (fun _ s2=>∃x H',Inv X pins σ H' s2/\RelV x u/\(Its z).yld i H x H'/\s2.heap.IsStrIter it ty z t (i+1)/\∀b∈[it],H' b=none) E { s with heap:=h',toks:=s.toks+1 }:=by
   intro h' st' sb;have I1:Inv X pins σ H { s with heap:=h',toks:=s.toks+1 }:=I.turned (t':=s.toks+1) (fun b o hb e=>(sb.2 b hb).trans e) f0 f1 f3 f4 f5;obtain⟨o,e,c,d⟩:=id st';refine⟨_,rfl,zTP (s:={ s with heap:=h',toks:=s.toks+1 }) e c d ?_ ⟨.str ⟨#[z.cps[i]]⟩,H,I1,⟨_,rfl⟩,⟨rfl,_,hx,rfl⟩,st',fun b hb=>(hf b hb).1⟩⟩;rw[hty];unfold strIterType;split<;>decide
  cases ha:z.cps.all (· < 128)
  ·have e:ty = "str_iterator":=by rw[hty];unfold strIterType;rw[ha];rfl
   subst e;exact wpAny_pyNext_wide_item st hx fun h' a b=>fin h' a b
  ·have e:ty = "str_ascii_iterator":=by rw[hty];unfold strIterType;rw[ha];rfl
   subst e;exact wpAny_pyNext_ascii_item st hx fun h' a b=>fin h' a b
 done:=by
  intro X hP hw hK hc i pins s σ H E I hf st hg;subst hP hw hK;have hx:z.cps[i]?=none:=Array.getElem?_eq_none hg;obtain⟨f0,f1,f2,f3,f4,f5⟩:=hf it (by simp);have fin:∀h',Heap.ExtBut it s.heap h'->(none:Option Value)=none/\Inv X pins σ H { s with heap:=h' }:=fun h' eb=>⟨rfl,I.turned (t':=s.toks) (fun b o hb e=>eb b o hb e) f0 f1 f3 f4 f5⟩
  cases ha:z.cps.all (· < 128)
  ·have e:ty = "str_iterator":=by rw[hty];unfold strIterType;rw[ha];rfl
   subst e;exact wpAny_pyNext_wide_end (I.ok.hd hc) st hx fun h' a=>fin h' a
  ·have e:ty = "str_ascii_iterator":=by rw[hty];unfold strIterType;rw[ha];rfl
   subst e;exact wpAny_pyNext_ascii_end (I.ok.hd hc) st hx fun h' a=>fin h' a
 self:=fun A i s Q E st h=>by
  cases ha:z.cps.all (· < 128)
  ·have e:ty = "str_iterator":=by rw[hty];unfold strIterType;rw[ha];rfl
   subst e;exact wpAny_pyIter_striter_wide st h
  ·have e:ty = "str_ascii_iterator":=by rw[hty];unfold strIterType;rw[ha];rfl
   subst e;exact wpAny_pyIter_striter_ascii st h
section
variable{X:Cx}
def iAny(K:qA2)(tl:TE):TI:=fun σ H R=>tl σ H fun x H1=>match x with
 |.ref a=>(∃xs,SqL K H1 a xs)/\R (Itl K a) H1\/(∃xs,SqT K H1 a xs)/\R (Itt K a) H1
 |.str z=>R (Its z) H1
 |_=>False
theorem zC4{K:qA2}{tg l:Expr}{tl:TE}(hl:PE X l tl)(hK:X.K=K:=by rfl):PI X tg l (iAny K tl):=by
 subst hK;intro pins s σ H R I h;refine thn (hl pins s σ H _ I h) fun v s1 z0=>?_
 obtain⟨x,H1,I1,r1,q1⟩:=z0;cases x with
 |ref a=>
  cases r1
  rcases q1 with⟨⟨xs,hq⟩,q⟩|⟨⟨xs,hq⟩,q⟩
  ·obtain⟨its,rv,p,hz⟩:=I1.list hq;refine wpAny_pyIter_list p.isList ?_;refine⟨s1.heap.objs.size,[s1.heap.objs.size],_,_,H1,rfl,I1.kept (t':=s1.toks) fun b o e=>Heap.get?_push_of_some _ e,zPZ a _,⟨_,Heap.get?_push_size _ rfl,rfl,rfl⟩,fun b hb=>?_,q⟩;have e:b=s1.heap.objs.size:=by simpa using hb
   subst e;exact I1.fpOk (qA7 _) (I1.hok.fresh (qA7 _))
  ·obtain⟨its,rv,p,hz⟩:=I1.tuple hq;refine wpAny_pyIter_tuple (show s1.heap.IsTuple a its.toArray from p) ?_;refine⟨s1.heap.objs.size,[s1.heap.objs.size],_,_,H1,rfl,I1.kept (t':=s1.toks) fun b o e=>Heap.get?_push_of_some _ e,zP1 a _,⟨_,Heap.get?_push_size _ rfl,rfl,rfl⟩,fun b hb=>?_,q⟩;have e:b=s1.heap.objs.size:=by simpa using hb
   subst e;exact I1.fpOk (qA7 _) (I1.hok.fresh (qA7 _))
 |str z=>
  obtain⟨t,rfl⟩:=r1;refine wpAny_pyIter_strU ?_;refine⟨s1.heap.objs.size,[s1.heap.objs.size],_,_,H1,rfl,I1.kept (t':=s1.toks) fun b o e=>Heap.get?_push_of_some _ e,zSP z t _ _ rfl,⟨_,Heap.get?_push_size _ rfl,rfl,rfl⟩,fun b hb=>?_,q1⟩;have e:b=s1.heap.objs.size:=by simpa using hb
  subst e;exact I1.fpOk (qA7 _) (I1.hok.fresh (qA7 _))
 |_=>exact qA5 q1
theorem zL5:∀{ys:List Str}{us:List Value},Vals (ys.map V.str) us->StrsAre us ys
 |[],_,.nil=>.nil
 |y::ys,_,.cons r t=>by obtain⟨k,rfl⟩:=r;exact .cons y k (zL5 t)
end
end L2
namespace L2
open PySem PySem.Spec PyProof.Rows
def Itz(K:qA2)(a b:Addr):It:=
 ⟨fun i H=>∃xs ys x y,SqL K H a xs/\SqL K H b ys/\xs[i]?=some x/\ys[i]?=some y,fun i H v H'=>∃T x y,v=.ref T/\H T=none/\H'=upd H T (.tup [x,y])/\(∀xs,SqL K H a xs->xs[i]?=some x)/\∀ys,SqL K H b ys->ys[i]?=some y,
  fun i H=>∃xs ys,SqL K H a xs/\SqL K H b ys/\(xs.length<=i\/ys.length<=i)⟩
theorem zSO{P:Program}{w:World}{K:qA2}{ts:List Expr}{kk:Nat}{tp:Pos}{a b z TI TO i1 i2:Addr}(D:ZipApart z TI TO i1 i2 a b) :
  Turn P w K (.Tuple ts kk tp) (Itz K a b) [z,TI,TO,i1,i2] z (fun i h=>IsZip h z TI TO .none/\IsPair h TI (.ref i1) (.ref i2)/\(∃x y,IsPair h TO x y)/\h.IsListIter i1 a i/\h.IsListIter i2 b i) where
 mem:=by simp
 obj:=fun i h st c hc=>by
  obtain⟨hz,hTI,⟨x,y,hTO⟩,h1,h2⟩:=st;have five:c=z\/c=TI\/c=TO\/c=i1\/c=i2:=by simpa using hc
  rcases five with e|e|e|e|e<;>subst e
  ·exact⟨_,hz,fun v q=>by cases q⟩
  ·exact⟨_,hTI,fun v q=>by cases q⟩
  ·exact⟨_,hTO,fun v q=>by cases q⟩
  ·obtain⟨o,e,_,d⟩:=h1;exact⟨o,e,fun v q=>by rw[d]at q;cases q⟩
  ·obtain⟨o,e,_,d⟩:=h2;exact⟨o,e,fun v q=>by rw[d]at q;cases q⟩
 keep:=fun i h h' st k=>by
  obtain⟨hz,hTI,⟨x,y,hTO⟩,h1,h2⟩:=st;exact⟨k z (by simp) _ hz,k TI (by simp) _ hTI,⟨x,y,k TO (by simp) _ hTO⟩,h1.at fun o e=>k i1 (by simp) o e,h2.at fun o e=>k i2 (by simp) o e⟩
 item:=by
  intro X hP hw hK hc i pins s σ H E I hf st hg;subst hP hw hK;obtain⟨xs,ys,x,y,hq1,hq2,hx,hy⟩:=hg;obtain⟨its1,rv1,p1,hz1⟩:=I.list hq1;obtain⟨its2,rv2,p2,hz2⟩:=I.list hq2;obtain⟨u1,hu1,ru1⟩:=rv1.get hx;obtain⟨u2,hu2,ru2⟩:=rv2.get hy;obtain⟨hz,hTI,⟨a0,b0,hTO⟩,h1,h2⟩:=st;refine wpAny_pyNext_zip_item D hz hTI hTO h1 h2 p1.isList p2.isList (x:=u1) (y:=u2) (by simpa using hu1) (by simpa using hu2) fun h' g1 g2 g3 g4 g5 g6 g7=>?_
  refine⟨_,rfl,wpAny_letOwnedTupleGo_zip g1 fun h'' hz'' hs''=>?_⟩;have lt:∀{c:Addr}{o:Obj},s.heap.get? c=some o->c<s.heap.objs.size:=fun e=>Heap.lt_size e
  have hzs:=lt hz;have hTz:s.heap.objs.size≠z:=qBi hzs;have kk':∀c u,c∉[z,TI,TO,i1,i2]->s.heap.get? c=some u->h''.get? c=some u:=fun c u hc q=>by
   have c1:c≠z:=fun e=>hc (by simp[e])
   exact(hs''.2 c c1).trans (g7 c u c1 (fun e=>hc (by simp[e])) (fun e=>hc (by simp[e])) (fun e=>hc (by simp[e])) q)
  have hT'':=(hs''.2 _ hTz).trans g5;refine⟨.ref s.heap.objs.size,_,I.turnedNew (t':=s.toks) (o:=.tup [x,y]) hf kk' (qA7 _) ⟨by show 2<=sizeLine;decide,[u1,u2],.cons ru1 (.cons ru2 .nil),⟨_,hT'',rfl,_,rfl⟩⟩,rfl,
   ⟨_,x,y,rfl,I.fresh,rfl,fun zs hy=>by rw[I.list_inj hy hq1];exact hx,fun zs hy'=>by rw[I.list_inj hy' hq2];exact hy⟩,
   ⟨hz'',(hs''.2 _ D.TIz).trans (g7 TI _ D.TIz D.TITO D.TIi1 D.TIi2 hTI),⟨_,_,(hs''.2 _ D.TOz).trans g2⟩,g3.at fun o e=>(hs''.2 _ D.i1z).trans e,g4.at fun o e=>(hs''.2 _ D.i2z).trans e⟩,fun c hc=>?_⟩
  have hcs:c<s.heap.objs.size:=by
   have five:c=z\/c=TI\/c=TO\/c=i1\/c=i2:=by simpa using hc
   rcases five with e|e|e|e|e<;>subst e
   ·exact hzs
   ·exact lt hTI
   ·exact lt hTO
   ·obtain⟨o,e,_⟩:=h1;exact lt e
   ·obtain⟨o,e,_⟩:=h2;exact lt e
  rw[zB0 (qAn hcs)];exact(hf c hc).1
 done:=by
  intro X hP hw hK hc i pins s σ H E I hf st hg;subst hP hw hK;obtain⟨xs,ys,hq1,hq2,hle⟩:=hg;obtain⟨its1,rv1,p1,hz1⟩:=I.list hq1;obtain⟨its2,rv2,p2,hz2⟩:=I.list hq2;have l1:=rv1.length;have l2:=rv2.length;obtain⟨hz,hTI,⟨a0,b0,hTO⟩,h1,h2⟩:=st;refine wpAny_pyNext_zip_end (I.ok.hd hc) D hz hTI hTO h1 h2 p1.isList p2.isList ?_ fun h' hk=>⟨rfl,I.turnedL (t':=s.toks) hf fun c u hc q=>hk c u (fun e=>hc (by simp[e])) (fun e=>hc (by simp[e])) (fun e=>hc (by simp[e])) (fun e=>hc (by simp[e])) q⟩
  rcases hle with q|q
  ·exact .inl (by simp;omega)
  ·exact .inr (by simp;omega)
 self:=fun _ _ _ _ _ st h=>wpAny_pyIter_zip st.1 h
section
variable{X:Cx}{K:qA2}
def iZip(K:qA2)(tl:TA):TI:=fun σ H R=>tl σ H fun vs H1=>match vs with
 |[.ref a,.ref b]=>(∃xs,SqL K H1 a xs)/\(∃ys,SqL K H1 b ys)/\R (Itz K a b) H1
 |_=>False
theorem zUO{ts:List Expr}{kk:Nat}{tp p pos:Pos}{a b:Expr}{ta:TA}(hg:Gl X "zip")(hm:X.mg "zip" = none)(ha:PA X [a,b] ta)(hs:starEach [a,b] X.env=(false,eval a X.env)::starEach [b] X.env:=by rfl)(hpl:(backTo pos (starEach [b] X.env)).any (·.1)=false:=by rfl)(hK:X.K=K:=by rfl) :
  PI X (.Tuple ts kk tp) (.Call (.Name "zip" p) [a,b] [] pos) (iZip K ta):=by
 subst hK;intro pins s σ H R I h;refine Call_ (zIB I hg hm boot_zip (qB8 (thn (ha pos pins s σ H _ I h) fun us s1 z0=>?_) hs hpl));obtain⟨vs,H1,I1,r1,q1⟩:=z0;cases vs with
 |nil=>exact qA5 q1
 |cons hd1 tl1=>
  cases hd1 with
  |ref l1=>
   cases tl1 with
   |nil=>exact qA5 q1
   |cons hd2 tl2=>
    cases hd2 with
    |ref l2=>
     cases tl2 with
     |nil=>
      obtain⟨⟨xs,hq1⟩,⟨ys,hq2⟩,q⟩:=q1;obtain⟨u1,u2,rfl,rx,ry⟩:=zSJ r1;cases rx;cases ry;obtain⟨its1,rv1,p1,hz1⟩:=I1.list hq1;obtain⟨its2,rv2,p2,hz2⟩:=I1.list hq2;have lt1:l1<s1.heap.objs.size:=by obtain⟨o,ho,_⟩:=p1.isList;exact Heap.lt_size ho
      have lt2:l2<s1.heap.objs.size:=by obtain⟨o,ho,_⟩:=p2.isList;exact Heap.lt_size ho
      refine call_zip_2 p1.isList p2.isList fun h' hz hTI hTO h1 h2 hsz hk=>?_
      refine wpAny_pyIter_zip hz ?_;refine⟨s1.heap.objs.size+4,[s1.heap.objs.size+4,s1.heap.objs.size+2,s1.heap.objs.size+3,s1.heap.objs.size,s1.heap.objs.size+1],_,_,H1,rfl,I1.kept (t':=s1.toks) hk,zSO (zipApart_new lt1 lt2),⟨hz,hTI,⟨_,_,hTO⟩,h1,h2⟩,fun c hc=>?_,q⟩;have hc':s1.heap.objs.size<=c:=by
       have five:c=s1.heap.objs.size+4\/c=s1.heap.objs.size+2\/c=s1.heap.objs.size+3\/c=s1.heap.objs.size\/c=s1.heap.objs.size+1:=by simpa using hc
       rcases five with e|e|e|e|e<;>rw[e]<;>first|exact qA7 _|exact qE9 _ _
      exact I1.fpOk hc' (I1.hok.fresh hc')
     |cons _ _=>exact qA5 q1
    |_=>exact qA5 q1
  |_=>exact qA5 q1
end
end L2
namespace L2
open PySem PySem.Spec PyProof.Rows
def XO(e:Addr)(C:Value)(d:Option Addr)(h:Heap):Prop:=∃oe vs,h.get? e=some oe/\oe.cls=C/\oe.dict=d/\oe.data=.fields vs/\1<vs.size
abbrev xo(e:Addr)(C:Value)(d:Option Addr):HO:=.ext (XO e C d)
def Fl(n:Nat)(e:Addr)(C:Value)(d:Option Addr)(mk:Value)(H:Hp)(h:Heap):Prop:=
 ∃oe vs T oT ts,h.get? e=some oe/\oe.cls=C/\oe.dict=d/\oe.data=.fields vs/\vs[1]?=some (.ref T)/\n<=T/\T≠e/\H T=none/\h.get? T=some oT/\oT.data=.fields ts/\ts[3]?=some mk
def Fly(n:Nat)(e:Addr)(C:Value)(d:Option Addr)(H:Hp)(h:Heap):Prop:=
 H e=some (xo e C d)/\((∃oe vs,h.get? e=some oe/\oe.cls=C/\oe.dict=d/\oe.data=.fields vs/\vs[1]?=some .none)\/Fl n e C d .none H h)
structure Nt(n:Nat)(fs ch:List Addr)(e:Addr)(H:Hp)(h h':Heap):Prop where
 keep:∀b o,h.get? b=some o->b≠e->b∉fs->b∉ch->h'.get? b=some o
 slot:∀b o,h.get? b=some o->b≠e->b∉ch->∃sl,h'.get? b=some { o with slots:=sl }
 there:∀b o,h.get? b=some o->∃o',h'.get? b=some o'
 old:∀b∈ch,n<=b/\H b=none/\∃o vs,h.get? b=some o/\o.data=.fields vs
section
variable{M:Model}{A:Around}{E:Value->Shared->Prop}{s:Shared}{n:Nat}{e L:Addr}{C:Value}{d:Option Addr}{H:Hp}{base:Heap}{env:Env}{outer:List Env}
end
section
variable{X:Cx}{pins:List (Addr×Obj)}{σ:St}{H:Hp}{s:Shared}{n:Nat}{e:Addr}{C:Value}{d:Option Addr}{A:Around}{E:Value->Shared->Prop}{fs ch:List Addr}{h h':Heap}
end
def CXe(P:Program)(w:World):CXT:=fun outer H s E x s'=>∃e C d H',x=.ref e/\s'.os=s.os/\AllBare s'.gens/\Un (frs outer) [] H H' s.heap s'.heap/\HOk P w H' s'.heap/\Fly s.heap.objs.size e C d H' s'.heap/\s.heap.objs.size<=s'.heap.objs.size/\E x d H'
section
variable{X:Cx}{pins:List (Addr×Obj)}{σ:St}{H:Hp}{s s':Shared}{E E':XK}
def XP(X:Cx)(pins:List (Addr×Obj))(σ:St)(E:XK)(x:Value)(s':Shared):Prop:=∃n e C d H',x=.ref e/\Inv X pins σ H' s'/\Fly n e C d H' s'.heap/\X.s₀.heap.objs.size<=n/\n<=s'.heap.objs.size/\(∀p∈X.pn++pins,p.1<n)/\E x d H'
end
section
variable{P:Program}{w:World}{K:qA2}{mg:Str->Option Value}{base:Heap}{N:List Str}{qual:Str}{scope:Scope}{f:Addr}{cd:Value}{A:Around}{outer:List Env}{s:Shared}{H:Hp}{E E':XK}
end
end L2
namespace L2
open PySem PySem.Spec PyProof.Rows
abbrev TEX:=St->Hp->VK->XK->Prop
abbrev TSX:=Ends->(St->XK)->St->Hp->Prop
section
variable{X:Cx}{k:Nat}{f:Addr}{fd:FuncData}{ps:List Str}{sp:Sp}{dvs:List V}{ds:List Value}{x:Str}{p pos:Pos}{e:Expr}{es:List Expr}{t:TA}{te:TE}{tx:TEX}{st:Stmt}{rest:List Stmt}{u u':TSX}
variable{pins:List (Addr×Obj)}{σ:St}{H:Hp}{s:Shared}{a:Addr}
end
end L2
namespace PySem.W
open PySem PySem.Calls PyProof.Rows Builtin Builtin.ObjectAttr
noncomputable def zNF:List Value->Bool
 |.ref _::r=>zNF r
 |[.type a,.type b,.type c,.type d]=>a == "ValueError" && b == "Exception" && c == "BaseException" && d == "object"
 |_=>false
def excOver(K:Frag)(C:Addr):Bool:=(clsIn K C).any fun cd=>zNF cd.mro
section
variable{prog:Program}{w:World}{A:Around}{s:Shared}{K:Frag}{x C:Addr}{R:Result->Shared->Prop}
end
end PySem.W
namespace PySem.Xc
open PySem
section
variable{M:Model}{prog:Program}{w:World}{A:Around}{E:Value->Shared->Prop}{h:Heap}{g:Array GenState}{d:Drawn}{t:Nat}{os:OsState}{R:Result->Shared->Prop}
variable{nm q:Str}{C N:Addr}{bs bm bmB:List Value}{hdct:Bool}{sn:List Str}{sub:List Value}{ab:Bool}{col:Option Bool}{dd:Option Addr}{k0 k1 k2 k3 k5:Option Value}{B newId initId:String}
end
end PySem.Xc
namespace PySem.W
open PySem
def xcIn(K:Frag)(C:Addr):Bool:=match K.lookup C with
 |some ⟨.type "type",_,.cls cd,sl⟩=>(match cd.mro,sl.toList with
  |.ref C'::bm,[_,_,_,_,some (.builtin n),_]=>C'==C && !cd.hasDel&&zNF bm&&n == "ValueError.__new__" && cd.hasDict
  |_,_=>false)
 |_=>false
end PySem.W
namespace PySem.Xc
open PySem
section
variable{M:Model}{A:Around}{E:Value->Shared->Prop}{s:Shared}{env:Env}
variable{nm q:Str}{C N:Addr}{bs bm:List Value}{hdct:Bool}{sn:List Str}{sub:List Value}{ab:Bool}{col:Option Bool}{dd:Option Addr}{k0 k1 k2 k3 k5:Option Value}{newId:String}
end
section
open PySem.W
variable{prog:Program}{w:World}{A:Around}{E:Value->Shared->Prop}{K:Frag}{x C:Addr}{ox:Obj}{od:Option Obj}{name:Str}{expr fill:Bool}{h:Heap}{g:Array GenState}{d:Drawn}{t:Nat}{os:OsState}
end
end PySem.Xc
namespace L2
open PySem PySem.Spec PyProof.Rows
def XN(e:Addr)(C:Value)(d:Option Addr)(h:Heap):Prop:=∃t1,h.get? e=some { cls:=C,dict:=d,data:=.fields #[.ref t1,.none,.none,.none,.bool false,.none] }
abbrev xn(e:Addr)(C:Value)(d:Option Addr):HO:=.ext (XN e C d)
section
variable{X:Cx}{pins:List (Addr×Obj)}{σ:St}{H:Hp}{s:Shared}{k:Nat}{f C:Addr}{fd:FuncData}{ps:List Str}{sp:Sp}{x:Str}{p pos:Pos}{e:Expr}{es:List Expr}{t:TA}{te:TE}
structure XBase(K:qA2)(B:Addr):Prop where
 ga:qD1 K (.ref B) "__getattribute__" = some (some (.builtin "type.__getattribute__"))
 rd:PySem.W.readsIn K B (.type "type")=true
 fd:PySem.W.findCls K (.ref B) (.type "type") "__init__" = some (.val (.builtin "ValueError.__init__"))
 hi:PySem.W.handedIn (.builtin "ValueError.__init__")=true
structure XSet(K:qA2)(C:Addr)(f:Str):Prop where
 st:qB3 K (.ref C) "__setattr__" = some (some (.builtin "object.__setattr__"))
 ov:PySem.W.excOver K C=true
 tk:PySem.W.takerIn K C f=some none
 hd:(PySem.W.clsIn K C).any (·.hasDict)=true
end
end L2
namespace PySem.Xc
open PySem PySem.W
section
variable{prog:Program}{w:World}{A:Around}{E:Value->Shared->Prop}{K:Frag}{x C:Addr}{ox:Obj}{od:Option Obj}{name:Str}{expr fill:Bool}{h:Heap}{g:Array GenState}{d:Drawn}{t:Nat}{os:OsState}
end
structure XIs(K:Frag)(C:Addr):Prop where
 xc:xcIn K C=true
 ga:findIn K (.ref C) "__getattribute__" = some (some (.builtin "BaseException.__getattribute__"))
 gg:findIn K (.ref C) "__getattr__" = some none
 hd:hasDictIn K C=true
 ca:findIn K (.ref C) "__class__" = some (some (.builtin "object.__class__"))
 cg:specialIn K (.builtin "object.__class__") "__get__" = some (some (.builtin "getset_descriptor.__get__"))
 ct:takesIn K (.builtin "object.__class__")=some true
 mo:mroIn K C (.type "object")=some true
end PySem.Xc
namespace L2
open PySem PySem.Spec PyProof.Rows
section
variable{X:Cx}{pins:List (Addr×Obj)}{σ:St}{H:Hp}{s:Shared}{C e d:Addr}{f:Str}{pos:Pos}{ta:TE}
def isX(H:Hp)(e C:Addr)(d:Option Addr):Prop:=H e=some (xn e (.ref C) d)\/H e=some (xo e (.ref C) d)
end
end L2
namespace L2
open PySem PySem.Spec PyProof.Rows
section
variable{P:Program}{w:World}{K:qA2}{mg:Str->Option Value}{base:Heap}{x:Str}{k:Nat}{ps N:List Str}{sp sp':Sp}{st:Stmt}
end
section
variable{X:Cx}{x:Str}{j k:Nat}{ps:List Str}{sp:Sp}{e:Expr}{es:List Expr}{t:TA}{p pos:Pos}{E:XK}
end
end L2
namespace Att
open PySem PySem.W PySem.Calls PyProof.Rows
theorem zVI{ns:List Int}(h:WData.weightAll (ns.map WData.int)<=2 ^ 20):∀i∈ns,i.natAbs.log2<2 ^ 20:=by
 induction ns with
 |nil=>intro i hi;cases hi
 |cons n r ih=>
  rw[qAd,WData.weightAll]at h;intro i hi
  rcases qA9.mp hi with rfl|hi
  ·rw[WData.weight]at h
   split at h
   ·rename_i z
    have:i=0:=beq_iff_eq.mp z
    subst this
    decide
   ·omega
  ·exact ih (by omega) i hi
theorem attach_callW{l:OpenLaw}{n:Nat}{q:Program}{loose:List Str}{XP:(Str->Option Value)->Heap->Prop}{YP:World->Heap->Prop}{d:DefRec}
  (hn:l.most=some n) (hdf:d.params.defaults=[])
  (call:∀(w:World)(s₀ s₁:Shared)(mg mb:Str->Option Value)(fa:Addr)(o:Obj)(pm cd doc:Value)(a:Addr)(vs:List Value)(ns:List Int),
   Ground q loose [] XP w s₀ mg mb s₁.heap->YP w s₁.heap ->
   s₁.heap.get? fa=some o->o.data=.func (docDef d.name d.params d.body d.scope pm cd doc)->s₁.heap.CodeRec cd d.name->mg d.name=some (.ref fa) ->
   s₁.heap.get? a=some { cls:=.type "list",data:=.seq vs.toArray }->IntsAre vs ns->ns.length<=n->(∀i∈ns,i.natAbs.log2<2 ^ 20)->s₁.gens=#[] ->
   codeAny (model l.prog w) callerA (.call (.ref fa) ⟨[.ref a],[]⟩) (fun r s'=>r=.ok (.ret (.bool true))/\OldK s₁.heap s'.heap/\s'.os=s₁.os/\AllBare s'.gens) s₁) :
  WalkO q loose XP YP l.row.toRowW d [] (fun f vs=>qGl f vs):=by
 intro w s₀ s₁ mg mb G Y fa o pm cd doc dV kV ho hd hcd hD hmg hg args vals as hpre hlay hrd hwl hlo;obtain rfl:dV=.none:=Dflts.none hD hdf;obtain rfl:kV=.none:=Dflts.noKw hD;obtain⟨a,vs,ns,rfl,rfl,hobj,hints,hlen⟩:=zQI hn hpre hwl;have hw:∀i∈ns,i.natAbs.log2<2 ^ 20:=by
  have hl:WData.layableAll [WData.list (ns.map WData.int)]=true:=hlay;simp only[WData.layableAll,qCn,List.all_nil,qE1,WData.layable,qBf,decide_eq_true_eq]at hl;exact zVI (by have:=hl.2;rw[WData.weight]at this;exact this)
 refine enter_call (codeAny_mono (call w s₀ s₁ mg mb fa o pm cd doc a vs ns G Y ho (fd_plain hd) hcd hmg hobj hints hlen hw hg) fun r s' hq=>?_);obtain⟨rfl,h2,h3,h4⟩:=hq;exact⟨.inl ⟨.bool true,.bool true,[],rfl,fun _=>rfl,.bool true,zQT l _,fun _=>⟨qCb,fun _ hm=>(nomatch hm)⟩⟩,h2,h3,h4⟩
end Att
namespace L2
open PySem PySem.Spec PyProof.Rows
theorem walk_ofW{l:qEe}{n k:Nat}{q:Program}{loose:List Str}{XP:(Str->Option Value)->Heap->Prop}{YP:World->Heap->Prop}{d:DefRec}{K:Params->qA2}{CX:World->CXT}{sp:World->Sp}{x:Str}
  (hn:l.most=some n) (hn2:n<=sizeLine) (hdf:d.params.defaults=[]) (hr:Room k callerA)
  (hY:∀(w:World)(h:Heap),YP w h->(K w.params).In h)
  (F:∀(w:World)(mg:Str->Option Value)(fa:Addr)(h:Heap),(K w.params).In h->h.Ns mainGlobals mg->mg d.name=some (.ref fa) ->
   ∃fd:FuncData,(∀(s:Shared)(u:Value),BindsTo s fd ⟨[u],[]⟩ [(x,u)]) /\
    ∀base:Heap,(K w.params).In base->base.Ns mainGlobals mg->FnOk l.prog w (K w.params) mg base (CX w) k fa fd [x] (sp w))
  (hsp:∀(w:World)(H:Hp)(a:Addr)(ns:List Int),ns.length<=n->(∀i∈ns,i.natAbs.log2<2 ^ 20)->Only H->SqL (K w.params) H a (ns.map V.int)->sp w [.ref a] H (fun v _=>v=.bl true) fun _ _ _=>False)
  (hCX:∀(w:World)(H:Hp)(s:Shared)(e:Value)(s':Shared),CX w [] H s (fun _ _ _=>False) e s'->False) :
  qGr q loose XP YP l.row.toRowW d [] (fun f vs=>qGl f vs):=by
 refine Att.attach_callW hn hdf fun w s₀ s₁ mg mb fa o pm cd doc a vs ns G Y ho hd hcd hmg hobj hints hlen hw hg=>?_
 have KX:=hY w _ Y;obtain⟨fd,hb,hF⟩:=F w mg fa _ KX G.T.g hmg;exact zTH KX G.T.g G.T.b G.T.builtins G.T.nolimit hg hobj hints (qAu hlen hn2) hr hF hb (fun H hO hS=>hsp w H a ns hlen hw hO hS) fun H e s'=>hCX w H s₁ e s'
def MulOk(i j:Int):Prop:=((-(2 ^ 64)<i/\i<2 ^ 64)\/(-(2 ^ 64)<j/\j<2 ^ 64))\/i.natAbs.log2+j.natAbs.log2<=67108864
theorem zSA(i:Int):Builtin.Int.intBits i<=i.natAbs.log2+1:=by
 unfold Builtin.Int.intBits
 split<;>omega
theorem MulOk.ok{i j:Int}(h:MulOk i j):IntMulOk i j:=by
 rcases h with h|h
 ·exact CMul.ok h
 ·unfold IntMulOk;have h1:=zSA i;have h2:=zSA j;have h3:Builtin.Int.intTooBig ((Builtin.Int.intBits i:Int)+(Builtin.Int.intBits j:Int))=false:=by
   unfold Builtin.Int.intTooBig
   have:(bitsLine:Int)=134217728:=by decide
   rw[this];simp only[gt_iff_lt,decide_eq_false_iff_not,Int.not_lt];omega
  rw[h3,qCg];exact qAc
section
variable{X:Cx}
noncomputable def zYC:R2:=fun x y H Q=>match x,y with
 |.int i,.int j=>MulOk i j/\Q (.int (i*j)) H
 |_,_=>False
theorem zW5:OpR X (binaryOp .Mult) (rI MulOk fun i j=>.int (i*j)):=opI fun _ _ _ _ _ _ _ hc q=>mul_int q hc.ok
theorem zH0:OpR X (binaryOp .Mult) zYC:=by
 intro pins s σ H x y v u Q I rx ry h;cases x<;>cases y<;>first
  |exact zW5 pins s σ H _ _ v u Q I rx ry ⟨_,_,rfl,rfl,h.1,h.2⟩
  |exact qA5 h
noncomputable def zYF:R2:=fun x y H Q=>match x,y with
 |.int i,.int j=>(0<j/\j<1000000000000000000000000)/\Q (.int (i/j)) H
 |_,_=>False
theorem log2_lt{n:Nat}(h:n<1000000000000000000000000):n.log2<9000:=by
 by_cases z:n=0
 ·subst z;decide
 ·have h2:n<2 ^ 80:=by omega
  have:=(Nat.log2_lt z).mpr h2
  omega
theorem zW6:OpR X (binaryOp .FloorDiv) (rI (fun _ j=>0<j/\j<1000000000000000000000000) fun i j=>.int (i/j)):=opI fun i j _ _ _ _ _ hc q=>by
 have h1:(0:Int)<j:=hc.1;have h2:j<1000000000000000000000000:=hc.2;exact floordiv_int (by omega) (by rw[Int.fdiv_eq_ediv_of_nonneg i (by omega)];exact q) (.inl (PyProof.noPylong_of_log2 (log2_lt (by omega))))
theorem zDF:OpR X (binaryOp .FloorDiv) zYF:=by
 intro pins s σ H x y v u Q I rx ry h;cases x<;>cases y<;>first
  |exact zW6 pins s σ H _ _ v u Q I rx ry ⟨_,_,rfl,rfl,h.1,h.2⟩
  |exact qA5 h
end
end L2
namespace L3
open PySem PySem.Spec
open L2 hiding Rep RepL
open Mi (Dt Xn R okR zA9 optR zA2 zAE zAK zAH zAJ Rh Sl Ro EM TM AM FM IM SM Tg Out zB8 zB6 zBI full frz frz1 frzAt)
class Kc where
 K:qA2
variable[Kc]
noncomputable def clK(K:qA2)(c:Str):Option Addr:=match qF9 K mainGlobals c with
 |some (some (.ref C))=>some C
 |_=>none
def SqR(K:qA2)(H:Hp)(a:Addr)(xs:List V):Prop:=SqL K H a xs\/SqT K H a xs
theorem zHX{K:qA2}{H H':Hp}{a:Addr}{xs:List V}(e:Same H H')(h:SqT K H a xs):SqT K H' a xs:=by
 rcases h with(h|⟨o,h⟩)|h
 ·exact .inl (.inl (e _ _ h))
 ·exact .inl (.inr ⟨o,e _ _ h⟩)
 ·exact .inr h
theorem zFR{K:qA2}{H H':Hp}{a:Addr}{xs:List V}(e:Same H H')(h:SqR K H a xs):SqR K H' a xs:=h.imp (fun z=>e.seq z) fun z=>zHX e z
noncomputable def svV:Mi.Sv->V
 |.i n=>.int n
 |.s x=>.str x
noncomputable def swV:Mi.Sw->V
 |.non=>.non
 |.bl b=>.bl b
 |.int i=>.int i
 |.str x=>.str x
mutual
def Rep(H:Hp):Dt->V->Prop
 |.non,v=>v=.non
 |.bl b,v=>v=.bl b
 |.int i,v=>v=.int i
 |.str x,v=>v=.str x
 |.lst ds,v=>∃a xs,v=.ref a/\H a=some (.lst xs)/\RepL H ds xs
 |.tup ds,v=>∃a xs,v=.ref a/\H a=some (.tup xs)/\RepL H ds xs
 |.scr ns,v=>∃a,v=.ref a/\SqR Kc.K H a (ns.map V.int)
 |.exc c f d,v=>∃e C da,v=.ref e/\isX H e C da/\clK Kc.K c=some C/\((da=none/\f = "")\/∃a gs w,da=some a/\H a=some (.xd gs)/\gs.lookup f=some w/\Rep H d w)
 |.ins c fs,v=>∃a C dx,v=.ref a/\clK Kc.K c=some C/\H a=some (.ins C dx (fs.map fun p=>(p.1,svV p.2)))
 |.dct kvs,v=>∃a,v=.ref a/\H a=some (.dK (kvs.map fun p=>(p.1,swV p.2)))
def RepL(H:Hp):List Dt->List V->Prop
 |[],xs=>xs=[]
 |d::r,xs=>∃x q,xs=x::q/\Rep H d x/\RepL H r q
end
mutual
theorem Rep.mono{H H':Hp}(s:Same H H'):∀{d:Dt}{v:V},Rep H d v->Rep H' d v
 |.non,_,h=>h
 |.bl _,_,h=>h
 |.int _,_,h=>h
 |.str _,_,h=>h
 |.lst _,_,h=>by obtain⟨a,xs,e,e',r⟩:=h;exact⟨a,xs,e,s _ _ e',RepL.mono s r⟩
 |.tup _,_,h=>by obtain⟨a,xs,e,e',r⟩:=h;exact⟨a,xs,e,s _ _ e',RepL.mono s r⟩
 |.scr _,_,h=>by obtain⟨a,e,e'⟩:=h;exact⟨a,e,zFR s e'⟩
 |.exc _ _ _,_,h=>by
  obtain⟨a,C,da,e,e',hc,r⟩:=h;refine⟨a,C,da,e,e'.imp (fun z=>s _ _ z) fun z=>s _ _ z,hc,r.imp (fun z=>z) ?_⟩
  rintro⟨b,gs,w,h1,h2,h3,h4⟩
  exact⟨b,gs,w,h1,s _ _ h2,h3,Rep.mono s h4⟩
 |.ins _ _,_,h=>by obtain⟨a,C,dx,e,hc,h1⟩:=h;exact⟨a,C,dx,e,hc,s _ _ h1⟩
 |.dct _,_,h=>by obtain⟨a,e,h1⟩:=h;exact⟨a,e,s _ _ h1⟩
theorem RepL.mono{H H':Hp}(s:Same H H'):∀{ds:List Dt}{xs:List V},RepL H ds xs->RepL H' ds xs
 |[],_,h=>h
 |_::_,_,h=>by obtain⟨x,q,e,r,t⟩:=h;exact⟨x,q,e,Rep.mono s r,RepL.mono s t⟩
end
theorem RepL.length{H:Hp}:∀{ds:List Dt}{xs:List V},RepL H ds xs->xs.length=ds.length
 |[],_,h=>by cases h;rfl
 |_::_,_,h=>by obtain⟨x,q,e,r,t⟩:=h;subst e;simp[RepL.length t]
mutual
def conv:Dt->L2.Dat
 |.non=>.non
 |.bl b=>.bl b
 |.int i=>.int i
 |.str x=>.str x
 |.lst ds=>.lst (convL ds)
 |.tup ds=>.tup (convL ds)
 |.scr _=>.non
 |.exc _ _ _=>.non
 |.ins _ _=>.non
 |.dct _=>.non
def convL:List Dt->List L2.Dat
 |[]=>[]
 |d::r=>conv d::convL r
end
mutual
theorem zGD:∀{d:Dt},d.dep<=40->(conv d).dep<=d.dep
 |.non,_=>qA7 _
 |.bl _,_=>qA7 _
 |.int _,_=>qA7 _
 |.str _,_=>qA7 _
 |.lst ds,h=>by rw[Dt.dep]at h ⊢;rw[conv,L2.Dat.dep];have:=conv_depL (ds:=ds) (by omega);omega
 |.tup ds,h=>by rw[Dt.dep]at h ⊢;rw[conv,L2.Dat.dep];have:=conv_depL (ds:=ds) (by omega);omega
 |.scr _,h=>by rw[Dt.dep]at h;omega
 |.exc _ _ _,h=>by rw[Dt.dep]at h;omega
 |.ins _ _,h=>by rw[Dt.dep]at h;omega
 |.dct _,h=>by rw[Dt.dep]at h;omega
theorem conv_depL:∀{ds:List Dt},Dt.depL ds<=40->L2.Dat.depL (convL ds)<=Dt.depL ds
 |[],_=>qA7 _
 |d::r,h=>by
  rw[Dt.depL]at h ⊢;rw[convL,L2.Dat.depL];have h1:=zGD (d:=d) (by omega);have h2:=conv_depL (ds:=r) (by omega);omega
end
mutual
theorem zF5{H:Hp}:∀{d:Dt}{v:V},d.dep<=40->Rep H d v->L2.Rep H (conv d) v
 |.non,_,_,h=>h
 |.bl _,_,_,h=>h
 |.int _,_,_,h=>h
 |.str _,_,_,h=>h
 |.lst ds,_,hd,h=>by obtain⟨a,xs,e,e',r⟩:=h;exact⟨a,xs,e,e',conv_repL (by rw[Dt.dep]at hd;omega) r⟩
 |.tup ds,_,hd,h=>by obtain⟨a,xs,e,e',r⟩:=h;exact⟨a,xs,e,e',conv_repL (by rw[Dt.dep]at hd;omega) r⟩
 |.scr _,_,h,_=>by rw[Dt.dep]at h;omega
 |.exc _ _ _,_,h,_=>by rw[Dt.dep]at h;omega
 |.ins _ _,_,h,_=>by rw[Dt.dep]at h;omega
 |.dct _,_,h,_=>by rw[Dt.dep]at h;omega
theorem conv_repL{H:Hp}:∀{ds:List Dt}{xs:List V},Dt.depL ds<=40->RepL H ds xs->L2.RepL H (convL ds) xs
 |[],_,_,h=>h
 |d::r,_,hd,h=>by
  rw[Dt.depL]at hd;obtain⟨x,q,e,a,b⟩:=h;exact⟨x,q,e,zF5 (by omega) a,conv_repL (by omega) b⟩
end
mutual
theorem zNH:∀{d e:Dt},d.dep<=40->e.dep<=40->L2.Dat.eq (conv d) (conv e)=Dt.eq d e
 |.scr _,_,h,_=>by rw[Dt.dep]at h;omega
 |.exc _ _ _,_,h,_=>by rw[Dt.dep]at h;omega
 |.ins _ _,_,h,_=>by rw[Dt.dep]at h;omega
 |.dct _,_,h,_=>by rw[Dt.dep]at h;omega
 |.lst ds,e,h,h'=>by
  rw[Dt.dep]at h;cases e with
  |lst es=>rw[Dt.dep]at h';rw[conv,conv,L2.Dat.eq,Dt.eq];exact conv_eqL (by omega) (by omega)
  |scr _=>rw[Dt.dep]at h';omega
  |exc _ _ _=>rw[Dt.dep]at h';omega
  |ins _ _=>rw[Dt.dep]at h';omega
  |dct _=>rw[Dt.dep]at h';omega
  |_=>simp[conv,L2.Dat.eq,Dt.eq]
 |.tup ds,e,h,h'=>by
  rw[Dt.dep]at h;cases e with
  |tup es=>rw[Dt.dep]at h';rw[conv,conv,L2.Dat.eq,Dt.eq];exact conv_eqL (by omega) (by omega)
  |scr _=>rw[Dt.dep]at h';omega
  |exc _ _ _=>rw[Dt.dep]at h';omega
  |ins _ _=>rw[Dt.dep]at h';omega
  |dct _=>rw[Dt.dep]at h';omega
  |_=>simp[conv,L2.Dat.eq,Dt.eq]
 |.non,e,_,h'=>by
  cases e with
  |scr _=>rw[Dt.dep]at h';omega
  |exc _ _ _=>rw[Dt.dep]at h';omega
  |ins _ _=>rw[Dt.dep]at h';omega
  |dct _=>rw[Dt.dep]at h';omega
  |_=>simp[conv,L2.Dat.eq,Dt.eq]
 |.bl _,e,_,h'=>by
  cases e with
  |scr _=>rw[Dt.dep]at h';omega
  |exc _ _ _=>rw[Dt.dep]at h';omega
  |ins _ _=>rw[Dt.dep]at h';omega
  |dct _=>rw[Dt.dep]at h';omega
  |_=>simp[conv,L2.Dat.eq,Dt.eq]
 |.int _,e,_,h'=>by
  cases e with
  |scr _=>rw[Dt.dep]at h';omega
  |exc _ _ _=>rw[Dt.dep]at h';omega
  |ins _ _=>rw[Dt.dep]at h';omega
  |dct _=>rw[Dt.dep]at h';omega
  |_=>simp[conv,L2.Dat.eq,Dt.eq]
 |.str _,e,_,h'=>by
  cases e with
  |scr _=>rw[Dt.dep]at h';omega
  |exc _ _ _=>rw[Dt.dep]at h';omega
  |ins _ _=>rw[Dt.dep]at h';omega
  |dct _=>rw[Dt.dep]at h';omega
  |_=>simp[conv,L2.Dat.eq,Dt.eq]
theorem conv_eqL:∀{ds es:List Dt},Dt.depL ds<=40->Dt.depL es<=40->L2.Dat.eqL (convL ds) (convL es)=Dt.eqL ds es
 |[],[],_,_=>by simp[convL,L2.Dat.eqL,Dt.eqL]
 |[],_::_,_,_=>by simp[convL,L2.Dat.eqL,Dt.eqL]
 |_::_,[],_,_=>by simp[convL,L2.Dat.eqL,Dt.eqL]
 |d::r,e::t,h,h'=>by
  rw[Dt.depL]at h h';rw[convL,convL,L2.Dat.eqL,Dt.eqL,zNH (by omega) (by omega),conv_eqL (by omega) (by omega)]
end
theorem zT0{G:Hp}{ds:List Dt}{xs:List V}(h:RepL G ds xs):xs.length=ds.length:=RepL.length h
theorem zCU{G:Hp}:∀{ds:List Dt}{xs:List V}{q:Nat}{d:Dt}{x:V},RepL G ds xs->ds[q]?=some d->xs[q]?=some x->Rep G d x
 |[],_,_,_,_,_,h,_=>by simp at h
 |d::r,xs,0,e,y,h,h1,h2=>by
  obtain⟨x,t,rfl,a,b⟩:=h;simp at h1 h2;subst h1;subst h2;exact a
 |d::r,xs,q+1,e,y,h,h1,h2=>by
  obtain⟨x,t,rfl,a,b⟩:=h;exact zCU b (by simpa using h1) (by simpa using h2)
theorem zFN{G:Hp}:∀{ds:List Dt}{xs:List V},xs.length=ds.length->(∀(q:Nat)(d:Dt)(x:V),ds[q]?=some d->xs[q]?=some x->Rep G d x)->RepL G ds xs
 |[],[],_,_=>rfl
 |[],_::_,h,_=>by simp at h
 |_::_,[],h,_=>by simp at h
 |d::r,x::t,h,k=>⟨x,t,rfl,k 0 d x rfl rfl,zFN (by simpa using h) fun q e y h1 h2=>k (q+1) e y (by simpa using h1) (by simpa using h2)⟩
theorem zIM{n:Nat}:∀{ds:List Dt},Dt.depL ds<=n->∀{q:Nat}{d:Dt},ds[q]?=some d->d.dep<=n
 |[],_,_,_,h=>by simp at h
 |e::r,h,0,d,h1=>by simp at h1;subst h1;rw[Dt.depL]at h;omega
 |e::r,h,q+1,d,h1=>by rw[Dt.depL]at h;exact zIM (ds:=r) (by omega) (q:=q) (by simpa using h1)
theorem Rep.scalar{G G2:Hp}{d:Dt}{v:V}(h:Rep G d v)(hd:d.dep=0):Rep G2 d v:=by
 cases d with
 |lst ds=>rw[Dt.dep]at hd;omega
 |tup ds=>rw[Dt.dep]at hd;omega
 |scr ns=>rw[Dt.dep]at hd;omega
 |exc _ _ _=>rw[Dt.dep]at hd;omega
 |ins _ _=>rw[Dt.dep]at hd;omega
 |dct _=>rw[Dt.dep]at hd;omega
 |_=>exact h
structure Kids(P:(Addr->Prop)->Dt->V->Prop)(S:Addr->Prop)(a:Addr)(ds:List Dt)(xs:List V)(T:Nat->Addr->Prop):Prop where
 len:xs.length=ds.length
 own:∀(q:Nat)(d:Dt)(x:V),ds[q]?=some d->xs[q]?=some x->P (T q) d x
 top:S a
 out:∀q,¬T q a
 dis:∀q r b,T q b->T r b->q=r
 sub:∀q b,T q b->S b
def Own(G H:Hp):Nat->(Addr->Prop)->Dt->V->Prop
 |0,_,d,v=>Rep G d v
 |n+1,S,d,v=>match d with
  |.lst ds=>∃a xs T,v=.ref a/\H a=some (.lst xs)/\Kids (Own G H n) S a ds xs T
  |.tup ds=>∃a xs T,v=.ref a/\H a=some (.tup xs)/\Kids (Own G H n) S a ds xs T
  |.dct kvs=>∃a,v=.ref a/\H a=some (.dK (kvs.map fun p=>(p.1,swV p.2)))/\S a
  |d=>Rep G d v
theorem Kids.imp{P P':(Addr->Prop)->Dt->V->Prop}{S S':Addr->Prop}{a:Addr}{ds:List Dt}{xs:List V}{T:Nat->Addr->Prop}(k:Kids P S a ds xs T)
  (h:∀q d x,ds[q]?=some d->P (T q) d x->P' (T q) d x) (hs:∀b,S b->S' b):Kids P' S' a ds xs T:=
 ⟨k.len,fun q d x h1 h2=>h q d x h1 (k.own q d x h1 h2),hs _ k.top,k.out,k.dis,fun q b t=>hs _ (k.sub q b t)⟩
theorem Own.mono{G G' H H':Hp}(sG:Same G G')(sH:Same H H'):∀{n:Nat}{S:Addr->Prop}{d:Dt}{v:V},Own G H n S d v->Own G' H' n S d v
 |0,S,d,v,h=>Rep.mono sG h
 |n+1,S,d,v,h=>by
  cases d with
  |lst ds=>obtain⟨a,xs,T,e,ha,k⟩:=h;exact⟨a,xs,T,e,sH _ _ ha,k.imp (fun _ _ _ _ p=>Own.mono sG sH p) fun _ z=>z⟩
  |tup ds=>obtain⟨a,xs,T,e,ha,k⟩:=h;exact⟨a,xs,T,e,sH _ _ ha,k.imp (fun _ _ _ _ p=>Own.mono sG sH p) fun _ z=>z⟩
  |dct kvs=>obtain⟨a,e,ha,hs⟩:=h;exact⟨a,e,sH _ _ ha,hs⟩
  |_=>exact Rep.mono sG h
theorem Own.sub{G H:Hp}{n:Nat}{S S':Addr->Prop}{d:Dt}{v:V}(h:Own G H n S d v)(hs:∀b,S b->S' b):Own G H n S' d v:=by
 cases n with
 |zero=>exact h
 |succ n=>
  cases d with
  |lst ds=>obtain⟨a,xs,T,e,ha,k⟩:=h;exact⟨a,xs,T,e,ha,k.imp (fun _ _ _ _ p=>p) hs⟩
  |tup ds=>obtain⟨a,xs,T,e,ha,k⟩:=h;exact⟨a,xs,T,e,ha,k.imp (fun _ _ _ _ p=>p) hs⟩
  |dct kvs=>obtain⟨a,e,ha,h2⟩:=h;exact⟨a,e,ha,hs _ h2⟩
  |_=>exact h
theorem Own.rep{G H J:Hp}(sG:Same G J):∀{n:Nat}{S:Addr->Prop}{d:Dt}{v:V},Own G H n S d v->(∀a o,S a->H a=some o->J a=some o)->Rep J d v
 |0,S,d,v,h,_=>Rep.mono sG h
 |n+1,S,d,v,h,hj=>by
  cases d with
  |lst ds=>obtain⟨a,xs,T,e,ha,k⟩:=h;exact⟨a,xs,e,hj _ _ k.top ha,zFN k.len fun q d x h1 h2=>Own.rep sG (k.own q d x h1 h2) fun b o t hb=>hj b o (k.sub q b t) hb⟩
  |tup ds=>obtain⟨a,xs,T,e,ha,k⟩:=h;exact⟨a,xs,e,hj _ _ k.top ha,zFN k.len fun q d x h1 h2=>Own.rep sG (k.own q d x h1 h2) fun b o t hb=>hj b o (k.sub q b t) hb⟩
  |dct kvs=>obtain⟨a,e,ha,hs⟩:=h;exact⟨a,e,hj _ _ hs ha⟩
  |_=>exact Rep.mono sG h
theorem Own.at{G G2 H:Hp}:∀{n k:Nat}{S:Addr->Prop}{d:Dt}{v:V},Own G H n S d v->d.dep<=n->d.dep<=k->n<1000->Own G2 H k S d v
 |n,k,S,d,v,h,hn,hk,hz=>by
  cases d with
  |lst ds=>
   rw[Dt.dep]at hn hk;cases n with
   |zero=>omega
   |succ n=>
    cases k with
    |zero=>omega
    |succ k=>
     obtain⟨a,xs,T,e,ha,kd⟩:=h;refine⟨a,xs,T,e,ha,kd.imp (fun q d x h1 p=>?_) fun _ z=>z⟩;exact Own.at p (zIM (by omega) h1) (zIM (by omega) h1) (by omega)
  |tup ds=>
   rw[Dt.dep]at hn hk;cases n with
   |zero=>omega
   |succ n=>
    cases k with
    |zero=>omega
    |succ k=>
     obtain⟨a,xs,T,e,ha,kd⟩:=h;refine⟨a,xs,T,e,ha,kd.imp (fun q d x h1 p=>?_) fun _ z=>z⟩;exact Own.at p (zIM (by omega) h1) (zIM (by omega) h1) (by omega)
  |non=>cases n<;>cases k<;>exact h
  |bl b=>cases n<;>cases k<;>exact h
  |int i=>cases n<;>cases k<;>exact h
  |str x=>cases n<;>cases k<;>exact h
  |scr ns=>rw[Dt.dep]at hn;omega
  |exc _ _ _=>rw[Dt.dep]at hn;omega
  |ins _ _=>rw[Dt.dep]at hn;omega
  |dct _=>rw[Dt.dep]at hn;omega
termination_by n=>n
theorem Own.scalar{G H G2 H2:Hp}{n k:Nat}{S S2:Addr->Prop}{d:Dt}{v:V}(h:Own G H n S d v)(hd:d.dep=0):Own G2 H2 k S2 d v:=by
 cases d with
 |lst ds=>rw[Dt.dep]at hd;omega
 |tup ds=>rw[Dt.dep]at hd;omega
 |non=>cases n<;>cases k<;>exact h
 |bl b=>cases n<;>cases k<;>exact h
 |int i=>cases n<;>cases k<;>exact h
 |str x=>cases n<;>cases k<;>exact h
 |scr ns=>rw[Dt.dep]at hd;omega
 |exc _ _ _=>rw[Dt.dep]at hd;omega
 |ins _ _=>rw[Dt.dep]at hd;omega
 |dct _=>rw[Dt.dep]at hd;omega
theorem zUR{G H:Hp}{n:Nat}{S:Addr->Prop}{d:Dt}{v:V}(h:Rep G d v)(hd:d.dep=0):Own G H n S d v:=Own.scalar (n:=0) (G:=G) (H:=H) (S:=S) h hd
theorem Own.upd{G H:Hp}{p:Addr}{o:HO}:∀{n:Nat}{S:Addr->Prop}{d:Dt}{v:V},Own G H n S d v->¬S p->Own G (upd H p o) n S d v
 |0,S,d,v,h,_=>h
 |n+1,S,d,v,h,hp=>by
  cases d with
  |lst ds=>
   obtain⟨a,xs,T,e,ha,k⟩:=h;have hap:a≠p:=fun z=>hp (z▸k.top)
   exact⟨a,xs,T,e,(zB0 hap).trans ha,k.imp (fun q _ _ _ w=>Own.upd w fun z=>hp (k.sub q _ z)) fun _ z=>z⟩
  |tup ds=>
   obtain⟨a,xs,T,e,ha,k⟩:=h;have hap:a≠p:=fun z=>hp (z▸k.top)
   exact⟨a,xs,T,e,(zB0 hap).trans ha,k.imp (fun q _ _ _ w=>Own.upd w fun z=>hp (k.sub q _ z)) fun _ z=>z⟩
  |dct kvs=>
   obtain⟨a,e,ha,hs⟩:=h;have hap:a≠p:=fun z=>hp (z▸hs)
   exact⟨a,e,(zB0 hap).trans ha,hs⟩
  |_=>exact h
structure Ext(G H G' H':Hp):Prop where
 g:Same G G'
 h:Same H H'
 in':Same G' H'
 old:∀b,H b≠none->G' b=G b
theorem Ext.refl{G H:Hp}(s:Same G H):Ext G H G H:=⟨Same.refl _,Same.refl _,s,fun _ _=>rfl⟩
theorem _root_.L2.Same.some{H H':Hp}(s:Same H H'){b:Addr}(h:H b≠qEq):H' b≠qEq:=by
 cases e:H b with
 |none=>exact absurd e h
 |some o=>rw[s _ _ e];simp
theorem Ext.trans{G H G1 H1 G2 H2:Hp}(a:Ext G H G1 H1)(b:Ext G1 H1 G2 H2):Ext G H G2 H2:=
 ⟨a.g.trans b.g,a.h.trans b.h,b.in',fun c hc=>(b.old c (a.h.some hc)).trans (a.old c hc)⟩
structure Fr(G H G' H':Hp)(S:Addr->Prop):Prop where
 ext:Ext G H G' H'
 new:∀a,S a->H a=none/\G' a=none/\H' a≠none
open Classical in
noncomputable def over(G H:Hp)(S:Addr->Prop):Hp:=fun b=>if S b then H b else G b
theorem zEO{G H:Hp}{S:Addr->Prop}{a:Addr}(h:S a):over G H S a=H a:=by unfold over;rw[if_pos h]
theorem zD3{G H:Hp}{S:Addr->Prop}{a:Addr}(h:¬S a):over G H S a=G a:=by unfold over;rw[if_neg h]
theorem zDQ{G H:Hp}{S:Addr->Prop}(s:Same G H):Same G (over G H S)/\Same (over G H S) H:=by
 constructor
 ·intro b o e
  by_cases z:S b
  ·rw[zEO z];exact s _ _ e
  ·rw[zD3 z];exact e
 ·intro b o e
  by_cases z:S b
  ·rw[zEO z]at e;exact e
  ·rw[zD3 z]at e;exact s _ _ e
theorem Fr.frz{G H G' H':Hp}{S:Addr->Prop}{n:Nat}{d:Dt}{v:V}(f:Fr G H G' H' S)(o:Own G' H' n S d v):Ext G H (over G' H' S) H'/\Rep (over G' H' S) d v:=by
 obtain⟨s1,s2⟩:=zDQ (S:=S) f.ext.in';refine⟨⟨f.ext.g.trans s1,f.ext.h,s2,fun b hb=>?_⟩,o.rep s1 fun a u ha e=>by rw[zEO ha];exact e⟩;have z:¬S b:=fun z=>hb (f.new b z).1
 rw[zD3 z];exact f.ext.old b hb
structure View(G:Hp)(σ:St)(ρ:Rh):Prop where
 len:ρ.length=σ.length
 «at»:∀(i:Nat)(d:Dt),ρ[i]?=some (some d)->∃v,σ[i]?=some (some v)/\Rep G d v
theorem View.mono{G G':Hp}{σ:St}{ρ:Rh}(s:Same G G')(h:View G σ ρ):View G' σ ρ:=⟨h.len,fun i d e=>let⟨v,a,b⟩:=h.at i d e;⟨v,a,Rep.mono s b⟩⟩
def XRep(mg:Str->Option Value)(x:Xn)(c:Value)(da:Option Addr)(G H:Hp):Prop:=
 ∃e C,c=.ref e/\G e=some (xo e (.ref C) da)/\clK Kc.K x.cls=some C/\((da=none/\x.f = "")\/∃a gs w,da=some a/\G a=some (.xd gs)/\gs.lookup x.f=some w/\Rep G x.d w)
def PostE(mg:Str->Option Value)(E:XK)(G H:Hp)(n:Nat)(r:R Dt)(Q:VK):Prop:=match r with
 |none=>False
 |some (.error x)=>∀c da G' H',Ext G H G' H'->XRep mg x c da G' H'->E c da H'
 |some (.ok d)=>∀v G' H' S,Fr G H G' H' S->Own G' H' n S d v->Q v H'
def PostT(mg:Str->Option Value)(E:XK)(G H:Hp)(r:R Bool)(Q:Bool->Hp->Prop):Prop:=match r with
 |none=>False
 |some (.error x)=>∀c da G' H',Ext G H G' H'->XRep mg x c da G' H'->E c da H'
 |some (.ok b)=>∀H',Same H H'->Q b H'
structure OwnA(G H:Hp)(n:Nat)(S:Addr->Prop)(ds:List Dt)(xs:List V)(T:Nat->Addr->Prop):Prop where
 len:xs.length=ds.length
 own:∀(q:Nat)(d:Dt)(x:V),ds[q]?=some d->xs[q]?=some x->Own G H n (T q) d x
 dis:∀q r b,T q b->T r b->q=r
 sub:∀q b,T q b->S b
def zZV(mg:Str->Option Value)(E:XK)(G H:Hp)(n:Nat)(r:R (List Dt))(Q:List V->Hp->Prop):Prop:=match r with
 |none=>False
 |some (.error x)=>∀c da G' H',Ext G H G' H'->XRep mg x c da G' H'->E c da H'
 |some (.ok ds)=>∀vs G' H' S T,Fr G H G' H' S->OwnA G' H' n S ds vs T->Q vs H'
def DE(mg:Str->Option Value)(E:XK)(t:TE)(m:EM)(n:Nat):Prop:=∀(G H:Hp)(σ:St)(ρ:Rh)(Q:VK),Same G H->View G σ ρ->PostE mg E G H n (m ρ) Q->t σ H Q
def DT(mg:Str->Option Value)(E:XK)(t:TT)(m:TM):Prop:=∀(G H:Hp)(σ:St)(ρ:Rh)(Q:Bool->Hp->Prop),Same G H->View G σ ρ->PostT mg E G H (m ρ) Q->t σ H Q
def DA(mg:Str->Option Value)(E:XK)(t:TA)(m:AM)(n:Nat):Prop:=∀(G H:Hp)(σ:St)(ρ:Rh)(Q:List V->Hp->Prop),Same G H->View G σ ρ->zZV mg E G H n (m ρ) Q->t σ H Q
structure Err(mg:Str->Option Value)(E:XK)(G H:Hp){β:Type}(P:R β->Prop):Prop where
 no:P none->False
 er:∀x,P (some (.error x))->∀c da G' H',Ext G H G' H'->XRep mg x c da G' H'->E c da H'
theorem Ext.same{G H H':Hp}(s:Same G H)(h:Same H H'):Ext G H G H':=⟨Same.refl _,h,s.trans h,fun _ _=>rfl⟩
theorem Err.from{mg:Str->Option Value}{E:XK}{G H G' H':Hp}{β:Type}{P:R β->Prop}(e:Err mg E G H P)(x:Ext G H G' H'):Err mg E G' H' P:=⟨e.no,fun y p c da G2 H2 z w=>e.er y p c da G2 H2 (x.trans z) w⟩
section
variable{mg:Str->Option Value}{E:XK}{n:Nat}
theorem errE{G H:Hp}{Q:VK}:Err mg E G H (fun r=>PostE mg E G H n r Q):=⟨fun h=>h,fun _ h=>h⟩
theorem errT{G H:Hp}{Q:Bool->Hp->Prop}:Err mg E G H (fun r=>PostT mg E G H r Q):=⟨fun h=>h,fun _ h=>h⟩
theorem errA{G H:Hp}{Q:List V->Hp->Prop}:Err mg E G H (fun r=>zZV mg E G H n r Q):=⟨fun h=>h,fun _ h=>h⟩
theorem DE.step{β:Type}{t:TE}{m:EM}(D:DE mg E t m n){G H:Hp}{σ:St}{ρ:Rh}{Q:VK}{P:R β->Prop}{f:Dt->R β}(hE:Err mg E G H P)(s:Same G H)(w:View G σ ρ)(p:P (zA9 (m ρ) f))
  (h:∀d v G' H' S,m ρ=okR d->Fr G H G' H' S->Own G' H' n S d v->P (f d)->Q v H'):t σ H Q:=by
 refine D G H σ ρ Q s w ?_;cases e:m ρ with
 |none=>rw[e]at p;exact hE.no p
 |some r=>
  rw[e]at p;cases r with
  |error x=>exact hE.er x p
  |ok d=>exact fun v G' H' S fr o=>h d v G' H' S e fr o p
theorem DT.step{β:Type}{t:TT}{m:TM}(D:DT mg E t m){G H:Hp}{σ:St}{ρ:Rh}{Q:Bool->Hp->Prop}{P:R β->Prop}{f:Bool->R β}(hE:Err mg E G H P)(s:Same G H)(w:View G σ ρ)(p:P (zA9 (m ρ) f))
  (h:∀b H',m ρ=okR b->Same H H'->P (f b)->Q b H'):t σ H Q:=by
 refine D G H σ ρ Q s w ?_;cases e:m ρ with
 |none=>rw[e]at p;exact hE.no p
 |some r=>
  rw[e]at p;cases r with
  |error x=>exact hE.er x p
  |ok b=>exact fun H' sH=>h b H' e sH p
theorem DA.step{β:Type}{t:TA}{m:AM}(D:DA mg E t m n){G H:Hp}{σ:St}{ρ:Rh}{Q:List V->Hp->Prop}{P:R β->Prop}{f:List Dt->R β}(hE:Err mg E G H P)(s:Same G H)(w:View G σ ρ)(p:P (zA9 (m ρ) f))
  (h:∀ds vs G' H' S T,m ρ=okR ds->Fr G H G' H' S->OwnA G' H' n S ds vs T->P (f ds)->Q vs H'):t σ H Q:=by
 refine D G H σ ρ Q s w ?_;cases e:m ρ with
 |none=>rw[e]at p;exact hE.no p
 |some r=>
  rw[e]at p;cases r with
  |error x=>exact hE.er x p
  |ok ds=>exact fun vs G' H' S T fr o=>h ds vs G' H' S T e fr o p
theorem PostE.from{G H G' H':Hp}{Q:VK}{r:R Dt}(p:PostE mg E G H n r Q)(x:Ext G H G' H'):PostE mg E G' H' n r Q:=by
 cases r with
 |none=>exact p
 |some r=>
  cases r with
  |error y=>exact fun c da G2 H2 z w=>p c da G2 H2 (x.trans z) w
  |ok d=>
   exact fun v G2 H2 S fr o=>p v G2 H2 S ⟨x.trans fr.ext,fun a ha=>⟨x.h.free (fr.new a ha).1,(fr.new a ha).2⟩⟩ o
theorem PostT.from{G H G' H':Hp}{Q:Bool->Hp->Prop}{r:R Bool}(p:PostT mg E G H r Q)(x:Ext G H G' H'):PostT mg E G' H' r Q:=by
 cases r with
 |none=>exact p
 |some r=>
  cases r with
  |error y=>exact fun c da G2 H2 z w=>p c da G2 H2 (x.trans z) w
  |ok d=>exact fun H2 s=>p H2 (x.h.trans s)
theorem Fr.from{G H G1 H1 G2 H2:Hp}{S:Addr->Prop}(x:Ext G H G1 H1)(f:Fr G1 H1 G2 H2 S):Fr G H G2 H2 S:=⟨x.trans f.ext,fun a ha=>⟨x.h.free (f.new a ha).1,(f.new a ha).2⟩⟩
theorem PostE.val{G H G' H':Hp}{d:Dt}{v:V}{Q:VK}(p:PostE mg E G H n (okR d) Q)(x:Ext G H G' H')(hd:d.dep=0)(h:Rep G' d v):Q v H':=
 p v G' H' (fun _=>False) ⟨x,fun _ z=>z.elim⟩ (zUR h hd)
theorem PostE.kept{G H G' H':Hp}{d:Dt}{v:V}{Q:VK}(p:PostE mg E G H 0 (okR d) Q)(x:Ext G H G' H')(h:Rep G' d v):Q v H':=
 p v G' H' (fun _=>False) ⟨x,fun _ z=>z.elim⟩ h
theorem zAM{t:TE}{m:EM}{n:Nat}(D:DE mg E t m n):DE mg E t m 0:=by
 intro G H σ ρ Q s w p;refine D G H σ ρ Q s w ?_;cases e:m ρ with
 |none=>rw[e]at p;exact p
 |some r=>
  rw[e]at p;cases r with
  |error x=>exact p
  |ok d=>
   intro v G' H' S fr o;obtain⟨x,r⟩:=fr.frz o;exact PostE.kept p x r
end
end L3
namespace L3
open PySem PySem.Spec
open L2 hiding Rep RepL
open Mi (Dt Xn R okR zA9 optR zA2 zAE zAK zAH zAJ Rh Sl Ro EM TM AM FM IM SM Tg Out zB8 zB6 zBI full frz frz1 frzAt)
section
variable[Kc]{mg:Str->Option Value}{E:XK}{n k l:Nat}{ta tb tc:TE}{ma mb mc:EM}
theorem zA8{i:Int}:DE mg E (tC (.int i)) (Mi.eC (.int i)) n:=fun G H σ ρ Q s w p=>PostE.val p (Ext.refl s) rfl rfl
theorem zGC{b:Bool}:DE mg E (tC (.bl b)) (Mi.eC (.bl b)) n:=fun G H σ ρ Q s w p=>PostE.val p (Ext.refl s) rfl rfl
theorem zV7:DE mg E (tC .non) (Mi.eC .non) n:=fun G H σ ρ Q s w p=>PostE.val p (Ext.refl s) rfl rfl
theorem de_v(i:Nat):DE mg E (vM i) (Mi.eV i) 0:=by
 intro G H σ ρ Q s w p;unfold Mi.eV at p;cases e:ρ[i]? with
 |none=>rw[e]at p;exact p.elim
 |some o=>
  rw[e]at p;cases o with
  |none=>exact p.elim
  |some d=>
   obtain⟨v,h1,h2⟩:=w.at i d e;unfold vM;rw[h1];exact PostE.kept p (Ext.refl s) h2
def ROp(r:R2)(f:Dt->Dt->Option Dt)(n:Nat):Prop:=∀(mg:Str->Option Value)(E:XK)(G H:Hp)(d e:Dt)(x y:V)(Q:VK),Same G H->Rep G d x->Rep G e y->PostE mg E G H n (optR (f d e)) Q->r x y H Q
theorem zA6{r:R2}{f:Dt->Dt->Option Dt}(hr:ROp r f n)(A:DE mg E ta ma k)(B:DE mg E tb mb l):DE mg E (tOp r ta tb) (Mi.eB f ma mb) n:=by
 intro G H σ ρ Q s w p;refine(zAM A).step errE s w p fun d v G1 H1 S _ fr o p1=>?_
 refine(zAM B).step (errE.from fr.ext) fr.ext.in' (w.mono fr.ext.g) p1 fun e u G2 H2 S2 _ fr2 o2 p2=>?_
 exact hr mg E G2 H2 d e v u Q fr2.ext.in' (Rep.mono fr2.ext.g o) o2 (PostE.from p2 (fr.ext.trans fr2.ext))
def ROp1(r:V->Hp->VK->Prop)(f:Dt->Option Dt)(n:Nat):Prop:=∀(mg:Str->Option Value)(E:XK)(G H:Hp)(d:Dt)(x:V)(Q:VK),Same G H->Rep G d x->PostE mg E G H n (optR (f d)) Q->r x H Q
theorem zZO{r:V->Hp->VK->Prop}{f:Dt->Option Dt}(hr:ROp1 r f n)(A:DE mg E ta ma k):DE mg E (tUn r ta) (Mi.eU f ma) n:=by
 intro G H σ ρ Q s w p;refine(zAM A).step errE s w p fun d v G1 H1 S _ fr o p1=>?_
 exact hr mg E G1 H1 d v Q fr.ext.in' o (PostE.from p1 fr.ext)
theorem zFF(A:DE mg E ta ma k)(B:DE mg E tb mb n):DE mg E (fun σ H Q=>ta σ H fun x H1=>match x with | .bl c=>if c=true then tb σ H1 Q else Q (.bl false) H1|_=>False) (Mi.eAnd ma mb) n:=by
 intro G H σ ρ Q s w p;refine(zAM A).step errE s w p fun d v G1 H1 S _ fr o p1=>?_
 cases d with
 |bl b=>
  cases(show v=.bl b from o)
  cases b with
  |true=>exact B G1 H1 σ ρ Q fr.ext.in' (w.mono fr.ext.g) (PostE.from p1 fr.ext)
  |false=>exact PostE.val (PostE.from p1 fr.ext) (Ext.refl fr.ext.in') rfl rfl
 |_=>exact p1.elim
theorem zV6(A:DE mg E ta ma k):DE mg E (fun σ H Q=>ta σ H fun x H1=>match x with | .bl c=>Q (.bl (!c)) H1|_=>False) (Mi.eNot ma) n:=by
 intro G H σ ρ Q s w p;refine(zAM A).step errE s w p fun d v G1 H1 S _ fr o p1=>?_
 cases d with
 |bl b=>
  cases(show v=.bl b from o)
  exact PostE.val (PostE.from p1 fr.ext) (Ext.refl fr.ext.in') rfl rfl
 |_=>exact p1.elim
theorem zS2{tA:TT}{c:TM}(C:DT mg E tA c)(A:DE mg E ta ma n)(B:DE mg E tb mb n):DE mg E (tIf tA ta tb) (Mi.eIf c ma mb) n:=by
 intro G H σ ρ Q s w p;refine C.step errE s w p fun b H' _ sH p1=>?_
 have p2:=PostE.from p1 (Ext.same s sH);cases b with
 |true=>exact A G H' σ ρ Q (s.trans sH) w p2
 |false=>exact B G H' σ ρ Q (s.trans sH) w p2
theorem dt_b(A:DE mg E ta ma k):DT mg E (fun σ H Q=>ta σ H fun z H3=>match z with | .bl k=>Q k H3|_=>False) (Mi.tB ma):=by
 intro G H σ ρ Q s w p;refine(zAM A).step errT s w p fun d v G1 H1 S _ fr o p1=>?_
 cases d with
 |bl b=>
  cases(show v=.bl b from o)
  exact p1 H1 fr.ext.h
 |_=>exact p1.elim
theorem dt_m(A:DE mg E ta ma k):DT mg E (bM ta) (Mi.tM ma):=by
 intro G H σ ρ Q s w p;refine(zAM A).step errT s w p fun d v G1 H1 S _ fr o p1=>?_
 cases d with
 |bl b=>cases(show v=.bl b from o);exact p1 H1 fr.ext.h
 |int b=>cases(show v=.int b from o);exact p1 H1 fr.ext.h
 |non=>cases(show v=.non from o);exact p1 H1 fr.ext.h
 |_=>exact p1.elim
variable{tA tB:TT}{cA cB:TM}
theorem zV3(A:DT mg E tA cA)(B:DT mg E tB cB):DT mg E (L2.tAnd tA tB) (Mi.tAn cA cB):=by
 intro G H σ ρ Q s w p;refine A.step errT s w p fun b H' _ sH p1=>?_
 cases b with
 |true=>exact B G H' σ ρ Q (s.trans sH) w (PostT.from p1 (Ext.same s sH))
 |false=>exact p1 H' sH
theorem zKN(A:DT mg E tA cA)(B:DT mg E tB cB):DT mg E (L2.tOr tA tB) (Mi.tOr cA cB):=by
 intro G H σ ρ Q s w p;refine A.step errT s w p fun b H' _ sH p1=>?_
 cases b with
 |false=>exact B G H' σ ρ Q (s.trans sH) w (PostT.from p1 (Ext.same s sH))
 |true=>exact p1 H' sH
theorem zIJ(A:DT mg E tA cA):DT mg E (L2.tNot tA) (Mi.tNo cA):=by
 intro G H σ ρ Q s w p;exact A.step errT s w p fun b H' _ sH p1=>p1 H' sH
theorem zB9:DT mg E L2.tYes Mi.tYes:=fun G H σ ρ Q s w p=>p H (Same.refl _)
variable{t:TA}{m:AM}
theorem zA4:DA mg E tNil Mi.aNil n:=fun G H σ ρ Q s w p=>p [] G H (fun _=>False) (fun _ _=>False) ⟨Ext.refl s,fun _ z=>z.elim⟩ ⟨rfl,fun q d x h=>by simp at h,fun _ _ _ z=>z.elim,fun _ _ z=>z.elim⟩
theorem zA1(A:DE mg E ta ma n)(B:DA mg E t m n):DA mg E (zL4 ta t) (Mi.aCons ma m) n:=by
 intro G H σ ρ Q s w p;refine A.step errA s w p fun d v G1 H1 S1 _ fr o p1=>?_
 refine B.step (errA.from fr.ext) fr.ext.in' (w.mono fr.ext.g) p1 fun ds vs G2 H2 S2 T2 _ fr2 o2 p2=>?_
 refine p2 (v::vs) G2 H2 (fun a=>S1 a\/S2 a) (fun q=>match q with|0=>S1|q+1=>T2 q) ⟨fr.ext.trans fr2.ext,fun a ha=>?_⟩ ⟨by simp[o2.len],fun q d' x h1 h2=>?_,fun q r b h1 h2=>?_,fun q b h=>?_⟩
 ·rcases ha with ha|ha
  ·obtain⟨n1,n2,n3⟩:=fr.new a ha;exact⟨n1,(fr2.ext.old a n3).trans n2,fr2.ext.h.some n3⟩
  ·obtain⟨n1,n2,n3⟩:=fr2.new a ha;exact⟨fr.ext.h.free n1,n2,n3⟩
 ·cases q with
  |zero=>simp at h1 h2;subst h1;subst h2;exact o.mono fr2.ext.g fr2.ext.h
  |succ q=>exact o2.own q d' x (by simpa using h1) (by simpa using h2)
 ·have ap:∀r b,S1 b->T2 r b->False:=fun r b h1 h2=>(fr.new b h1).2.2 (fr2.new b (o2.sub r b h2)).1
  cases q with
  |zero=>
   cases r with
   |zero=>rfl
   |succ r=>exact(ap r b h1 h2).elim
  |succ q=>
   cases r with
   |zero=>exact(ap q b h2 h1).elim
   |succ r=>rw[o2.dis q r b h1 h2]
 ·cases q with
  |zero=>exact .inl h
  |succ q=>exact .inr (o2.sub q b h)
theorem OwnA.repL{G H:Hp}{S:Addr->Prop}{ds:List Dt}{vs:List V}{T:Nat->Addr->Prop}(o:OwnA G H 0 S ds vs T):RepL G ds vs:=zFN o.len fun q d x h1 h2=>o.own q d x h1 h2
theorem big'{n:Nat}(h:n<=100000):n<=sizeLine:=qBo (L2.big h)
theorem Fr.add{G H G' H':Hp}{S:Addr->Prop}(f:Fr G H G' H' S){p:Addr}(hp:H' p=none)(o:HO):Fr G H G' (upd H' p o) (fun a=>a=p\/S a):=by
 have sn:=L2.same_new hp o;refine⟨⟨f.ext.g,f.ext.h.trans sn,f.ext.in'.trans sn,f.ext.old⟩,fun a ha=>?_⟩
 rcases ha with rfl|ha
 ·exact⟨f.ext.h.free hp,f.ext.in'.free hp,by rw[zBB];simp⟩
 ·obtain⟨n1,n2,n3⟩:=f.new a ha;exact⟨n1,n2,sn.some n3⟩
theorem OwnA.kids{G' H':Hp}{S:Addr->Prop}{ds:List Dt}{vs:List V}{T:Nat->Addr->Prop}(o:OwnA G' H' n S ds vs T)(hn:∀a,S a->H' a≠none){p:Addr}(hp:H' p=none)(ob:HO) :
  Kids (Own G' (upd H' p ob) n) (fun a=>a=p\/S a) p ds vs T:=
 ⟨o.len,fun q d x h1 h2=>(o.own q d x h1 h2).mono (Same.refl _) (L2.same_new hp ob),.inl rfl,fun q z=>hn p (o.sub q p z) hp,o.dis,fun q b z=>.inr (o.sub q b z)⟩
theorem zEV(A:DA mg E t m n):DE mg E (tLst t) (Mi.eLst m) (n+1):=by
 intro G H σ ρ Q s w p;refine A.step errE s w p fun ds vs G1 H1 S T _ fr o p1=>?_
 by_cases hz:ds.length<=100000
 ·rw[if_pos hz]at p1;refine⟨by rw[o.len];exact big' hz,fun a ha=>?_⟩;exact p1 (.ref a) G1 _ _ (fr.add ha _) ⟨a,vs,T,rfl,zBB,o.kids (fun b hb=>(fr.new b hb).2.2) ha _⟩
 ·rw[if_neg hz]at p1;exact p1.elim
theorem zIN(A:DA mg E t m n):DE mg E (tTup t) (Mi.eTup m) (n+1):=by
 intro G H σ ρ Q s w p;refine A.step errE s w p fun ds vs G1 H1 S T _ fr o p1=>?_
 by_cases hz:ds.length<=100000
 ·rw[if_pos hz]at p1;refine⟨by rw[o.len];exact big' hz,fun a ha=>?_⟩;exact p1 (.ref a) G1 _ _ (fr.add ha _) ⟨a,vs,T,rfl,zBB,o.kids (fun b hb=>(fr.new b hb).2.2) ha _⟩
 ·rw[if_neg hz]at p1;exact p1.elim
theorem PostE.lst{G H G' H':Hp}{ds:List Dt}{xs:List V}{Q:VK}(p:PostE mg E G H 1 (okR (.lst ds)) Q)(x:Ext G H G' H')(r:RepL G' ds xs){a:Addr}(ha:H' a=none):Q (.ref a) (upd H' a (.lst xs)):=by
 have fr:Fr G H G' H' (fun _=>False):=⟨x,fun _ z=>z.elim⟩
 refine p (.ref a) G' _ _ (fr.add ha (.lst xs)) ⟨a,xs,fun _ _=>False,rfl,zBB,⟨r.length,fun q d y h1 h2=>zCU r h1 h2,.inl rfl,fun _ z=>z,fun _ _ _ z=>z.elim,fun _ _ z=>z.elim⟩⟩
def CBi(r:List V->Hp->VK->Prop)(f:List Dt->Option Dt)(n:Nat):Prop:=∀(mg:Str->Option Value)(E:XK)(G H:Hp)(ds:List Dt)(vs:List V)(Q:VK),Same G H->RepL G ds vs->PostE mg E G H n (optR (f ds)) Q->r vs H Q
theorem zBK{r:List V->Hp->VK->Prop}{f:List Dt->Option Dt}(hr:CBi r f n)(A:DA mg E t m 0):DE mg E (tCB r t) (Mi.eBi f m) n:=by
 intro G H σ ρ Q s w p;refine A.step errE s w p fun ds vs G1 H1 S T _ fr o p1=>?_
 exact hr mg E G1 H1 ds vs Q fr.ext.in' o.repL (PostE.from p1 fr.ext)
noncomputable def spM(mg:Str->Option Value)(L:Nat)(f:FM):Sp:=fun vs H Q E=>∃G ds,Same G H/\RepL G ds vs/\PostE mg E G H L (f ds) Q
theorem zAF{f:FM}(A:DA mg E t m 0):DE mg E (zVL (spM mg n f) [] E t) (Mi.eCall f m) n:=by
 intro G H σ ρ Q s w p;refine A.step errE s w p fun ds vs G1 H1 S T _ fr o p1=>?_
 exact⟨G1,ds,fr.ext.in',by rw[qDj];exact o.repL,PostE.from p1 fr.ext⟩
theorem zQQ{G H:Hp}{o:Option Dt}{Q:VK}{d:Dt}{v:V}(s:Same G H)(p:PostE mg E G H n (optR o) Q)(e:o=some d)(hd:d.dep=0)(h:Rep G d v):Q v H:=by
 subst e;exact PostE.val p (Ext.refl s) hd h
theorem zAU:ROp zYI Mi.addD 1:=by
 intro mg E G H d e x y Q s h1 h2 p;cases d with
 |int i=>
  cases e with
  |int j=>cases(show x=.int i from h1);cases(show y=.int j from h2);exact zQQ s p rfl rfl rfl
  |_=>exact p.elim
 |str i=>
  cases e with
  |str j=>
   cases(show x=.str i from h1);cases(show y=.str j from h2)
   rw[Mi.addD]at p
   by_cases hz:i.length+j.length<=100000
   ·rw[if_pos hz]at p;exact⟨big' hz,PostE.val p (Ext.refl s) rfl rfl⟩
   ·rw[if_neg hz]at p;exact p.elim
  |_=>exact p.elim
 |lst ds=>
  cases e with
  |lst es=>
   obtain⟨a,xs,rfl,ha,ra⟩:=h1;obtain⟨b,ys,rfl,hb,rb⟩:=h2;rw[Mi.addD]at p
   by_cases hz:ds.length+es.length<=100000
   ·rw[if_pos hz]at p;refine⟨xs,ys,s _ _ ha,s _ _ hb,by rw[ra.length,rb.length];exact big' hz,fun q hq=>?_⟩;refine PostE.lst p (Ext.refl s) (zFN (by simp[ra.length,rb.length]) fun j d' x' e1 e2=>?_) hq
    by_cases hj:j<ds.length
    ·rw[qAf hj]at e1;rw[qAf (by rw[ra.length];exact hj)]at e2;exact zCU ra e1 e2
    ·rw[qAg (by omega)]at e1;rw[qAg (by rw[ra.length];omega),ra.length]at e2;exact zCU rb e1 e2
   ·rw[if_neg hz]at p;exact p.elim
  |_=>exact p.elim
 |_=>exact p.elim
theorem zQM:ROp zY7 Mi.subD n:=by
 intro mg E G H d e x y Q s h1 h2 p;cases d with
 |int i=>
  cases e with
  |int j=>cases(show x=.int i from h1);cases(show y=.int j from h2);exact zQQ s p rfl rfl rfl
  |_=>exact p.elim
 |_=>exact p.elim
theorem zH2:ROp zYC Mi.mulD n:=by
 intro mg E G H d e x y Q s h1 h2 p;cases d with
 |int i=>
  cases e with
  |int j=>
   cases(show x=.int i from h1);cases(show y=.int j from h2)
   rw[Mi.mulD]at p
   split at p
   ·rename_i hz;exact⟨hz,PostE.val p (Ext.refl s) rfl rfl⟩
   ·exact p.elim
  |_=>exact p.elim
 |_=>exact p.elim
theorem zDG:ROp zYF Mi.divD n:=by
 intro mg E G H d e x y Q s h1 h2 p;cases d with
 |int i=>
  cases e with
  |int j=>
   cases(show x=.int i from h1);cases(show y=.int j from h2)
   rw[Mi.divD]at p
   split at p
   ·rename_i hz;exact⟨hz,PostE.val p (Ext.refl s) rfl rfl⟩
   ·exact p.elim
  |_=>exact p.elim
 |_=>exact p.elim
theorem zBG:ROp zYD Mi.modD n:=by
 intro mg E G H d e x y Q s h1 h2 p;cases d with
 |int i=>
  cases e with
  |int j=>
   cases(show x=.int i from h1);cases(show y=.int j from h2)
   rw[Mi.modD]at p
   split at p
   ·rename_i hz;exact⟨hz,PostE.val p (Ext.refl s) rfl rfl⟩
   ·exact p.elim
  |_=>exact p.elim
 |_=>exact p.elim
theorem zY4:ROp zYA Mi.powD n:=by
 intro mg E G H d e x y Q s h1 h2 p;cases d with
 |int i=>
  cases e with
  |int j=>
   cases(show x=.int i from h1);cases(show y=.int j from h2)
   rw[Mi.powD]at p
   split at p
   ·rename_i hz;exact⟨hz,PostE.val p (Ext.refl s) rfl rfl⟩
   ·exact p.elim
  |_=>exact p.elim
 |_=>exact p.elim
theorem zUI:ROp1 zYB Mi.negD n:=by
 intro mg E G H d x Q s h1 p;cases d with
 |int i=>cases(show x=.int i from h1);exact zQQ s p rfl rfl rfl
 |_=>exact p.elim
theorem zH3{q:Int->Int->Bool}:ROp (zVZ q) (Mi.cmpD q) n:=by
 intro mg E G H d e x y Q s h1 h2 p;cases d with
 |int i=>
  cases e with
  |int j=>cases(show x=.int i from h1);cases(show y=.int j from h2);exact zQQ s p rfl rfl rfl
  |_=>exact p.elim
 |_=>exact p.elim
theorem zV0{G H:Hp}{d e:Dt}{x y:V}{Q:VK}{ng:Bool}(s:Same G H)(h1:Rep G d x)(h2:Rep G e y)(hd:d.dep<=40)(he:e.dep<=40)(q:Q (.bl (if ng then !Dt.eq d e else Dt.eq d e)) H) :
  ∃d' e',L2.Rep H d' x/\L2.Rep H e' y/\d'.dep<=40/\Q (.bl (if ng then !L2.Dat.eq d' e' else L2.Dat.eq d' e')) H:=
 ⟨conv d,conv e,zF5 hd (Rep.mono s h1),zF5 he (Rep.mono s h2),qAu (zGD hd) hd,by rw[zNH hd he];exact q⟩
theorem zGT{α:Type}[DecidableEq α](a b:α):(a==b)=decide (a=b):=by
 by_cases h:a=b
 ·subst h;simp
 ·simp[h]
theorem zJZ{G:Hp}{d:Dt}{i:Int}(h:Rep G d (.int i)):d=.int i:=by
 cases d with
 |int k=>cases h;rfl
 |non=>cases h
 |bl _=>cases h
 |str _=>cases h
 |lst _=>obtain⟨_,_,z,_⟩:=h;cases z
 |tup _=>obtain⟨_,_,z,_⟩:=h;cases z
 |scr _=>obtain⟨_,z,_⟩:=h;cases z
 |exc _ _ _=>obtain⟨_,_,_,z,_⟩:=h;cases z
 |ins _ _=>obtain⟨_,_,_,z,_⟩:=h;cases z
 |dct _=>obtain⟨_,z,_⟩:=h;cases z
theorem zJY{G:Hp}{d:Dt}{i:Str}(h:Rep G d (.str i)):d=.str i:=by
 cases d with
 |str k=>cases h;rfl
 |non=>cases h
 |bl _=>cases h
 |int _=>cases h
 |lst _=>obtain⟨_,_,z,_⟩:=h;cases z
 |tup _=>obtain⟨_,_,z,_⟩:=h;cases z
 |scr _=>obtain⟨_,z,_⟩:=h;cases z
 |exc _ _ _=>obtain⟨_,_,_,z,_⟩:=h;cases z
 |ins _ _=>obtain⟨_,_,_,z,_⟩:=h;cases z
 |dct _=>obtain⟨_,z,_⟩:=h;cases z
theorem zO3{G:Hp}{d:Dt}{i:Bool}(h:Rep G d (.bl i)):d=.bl i:=by
 cases d with
 |bl k=>cases h;rfl
 |non=>cases h
 |str _=>cases h
 |int _=>cases h
 |lst _=>obtain⟨_,_,z,_⟩:=h;cases z
 |tup _=>obtain⟨_,_,z,_⟩:=h;cases z
 |scr _=>obtain⟨_,z,_⟩:=h;cases z
 |exc _ _ _=>obtain⟨_,_,_,z,_⟩:=h;cases z
 |ins _ _=>obtain⟨_,_,_,z,_⟩:=h;cases z
 |dct _=>obtain⟨_,z,_⟩:=h;cases z
theorem zCT:ROp rEqU Mi.eqD n:=by
 intro mg E G H d e x y Q s h1 h2 p;unfold Mi.eqD at p
 split at p
 ·rename_i hz
  have q:Q (.bl (Dt.eq d e)) H:=PostE.val p (Ext.refl s) rfl rfl;have g:=zV0 (ng:=false) (Q:=Q) s h1 h2 hz.1 hz.2 q;unfold rEqU
  split
  ·rw[zJZ h1,zJZ h2,Dt.eq,zGT]at q;exact q
  ·rw[zJY h1,zJY h2,Dt.eq,zGT]at q;exact q
  ·rw[zO3 h1,zO3 h2,Dt.eq,zGT]at q;exact q
  ·exact g
 ·exact p.elim
theorem zJ1:ROp rNeU Mi.neD n:=by
 intro mg E G H d e x y Q s h1 h2 p;unfold Mi.neD at p
 split at p
 ·rename_i hz
  have q:Q (.bl (!Dt.eq d e)) H:=PostE.val p (Ext.refl s) rfl rfl;have g:=zV0 (ng:=true) (Q:=Q) s h1 h2 hz.1 hz.2 q;unfold rNeU
  split
  ·rw[zJZ h1,zJZ h2,Dt.eq,zGT]at q;exact q
  ·rw[zJY h1,zJY h2,Dt.eq,zGT]at q;exact q
  ·rw[zO3 h1,zO3 h2,Dt.eq,zGT]at q;exact q
  ·exact g
 ·exact p.elim
theorem zTK{G:Hp}{d:Dt}{x:V}(h:Rep G d x):decide (x=.non)=Mi.isNonD d:=by
 cases d with
 |non=>cases h;rfl
 |bl _=>cases h;rfl
 |int _=>cases h;rfl
 |str _=>cases h;rfl
 |lst _=>obtain⟨_,_,rfl,_⟩:=h;rfl
 |tup _=>obtain⟨_,_,rfl,_⟩:=h;rfl
 |scr _=>obtain⟨_,rfl,_⟩:=h;rfl
 |exc _ _ _=>obtain⟨_,_,_,rfl,_⟩:=h;rfl
 |ins _ _=>obtain⟨_,_,_,rfl,_⟩:=h;rfl
 |dct _=>obtain⟨_,rfl,_⟩:=h;rfl
theorem zaA:ROp (fun x y H Q=>y=.non/\Q (.bl (decide (x=.non))) H) Mi.isD n:=by
 intro mg E G H d e x y Q s h1 h2 p;cases e with
 |non=>exact⟨h2,by rw[zTK h1];exact PostE.val p (Ext.refl s) rfl rfl⟩
 |_=>exact p.elim
theorem zLS(n:Nat)(i:Int):Mi.ixA n i=ixN n i:=rfl
theorem zRJ{α:Type}(xs:List α)(i:Int):Mi.itA xs i=atI xs i:=rfl
theorem zVF{G:Hp}{ds:List Dt}{xs:List V}{i:Int}{d:Dt}(r:RepL G ds xs)(h:Mi.itA ds i=some d):∃x,atI xs i=some x/\Rep G d x:=by
 rw[zRJ]at h;unfold atI at h ⊢;rw[r.length];cases e:ixN ds.length i with
 |none=>rw[e]at h;cases h
 |some j=>
  rw[e]at h;have h':ds[j]?=some d:=h;have hj:j<xs.length:=by rw[r.length];exact(qA3.mp h').1
  exact⟨xs[j],by simp[hj],zCU r h' (by simp[hj])⟩
theorem zBL:ROp (rIxU Kc.K) Mi.ixD 0:=by
 intro mg E G H d e x y Q s h1 h2 p;cases e with
 |int i=>
  cases(show y=.int i from h2)
  cases d with
  |lst ds=>
   obtain⟨a,xs,rfl,ha,ra⟩:=h1;cases er:Mi.itA ds i with
   |none=>rw[Mi.ixD,er]at p;exact p.elim
   |some c=>
    rw[Mi.ixD,er]at p;obtain⟨v,e1,r1⟩:=zVF ra er;exact⟨xs,v,.inl (SqL.of (s _ _ ha)),e1,PostE.kept p (Ext.refl s) r1⟩
  |tup ds=>
   obtain⟨a,xs,rfl,ha,ra⟩:=h1;cases er:Mi.itA ds i with
   |none=>rw[Mi.ixD,er]at p;exact p.elim
   |some c=>
    rw[Mi.ixD,er]at p;obtain⟨v,e1,r1⟩:=zVF ra er;exact⟨xs,v,.inr (SqT.of (s _ _ ha)),e1,PostE.kept p (Ext.refl s) r1⟩
  |scr ns=>
   obtain⟨a,rfl,ha⟩:=h1;cases er:Mi.itA ns i with
   |none=>rw[Mi.ixD,er]at p;exact p.elim
   |some c=>
    rw[Mi.ixD,er]at p;refine⟨ns.map V.int,.int c,zFR s ha,?_,PostE.kept p (Ext.refl s) rfl⟩;rw[zRJ]at er;unfold atI at er ⊢;rw[qAl];cases e:ixN ns.length i with
    |none=>rw[e]at er;cases er
    |some j=>
     rw[e]at er;have er':ns[j]?=some c:=er
     show(ns.map V.int)[j]?=some (.int c)
     rw[qAk,er'];rfl
  |str z=>
   cases(show x=.str z from h1)
   rw[Mi.ixD]at p
   by_cases hz:z.length<=100000
   ·rw[if_pos hz]at p;cases er:Mi.itA z.cps.toList i with
    |none=>rw[er]at p;exact p.elim
    |some c=>rw[er]at p;exact⟨c,big' hz,er,PostE.kept p (Ext.refl s) rfl⟩
   ·rw[if_neg hz]at p;exact p.elim
  |_=>exact p.elim
 |_=>cases d<;>exact p.elim
theorem zEL{G:Hp}{d:Dt}{vs:List V}(h:RepL G [d] vs):∃x,vs=[x]/\Rep G d x:=by
 obtain⟨x,q,rfl,a,b⟩:=h
 cases(show q=[] from b)
 exact⟨x,rfl,a⟩
theorem zVW{G:Hp}{d e:Dt}{vs:List V}(h:RepL G [d,e] vs):∃x y,vs=[x,y]/\Rep G d x/\Rep G e y:=by
 obtain⟨x,q,rfl,a,b⟩:=h;obtain⟨y,rfl,c⟩:=zEL b;exact⟨x,y,rfl,a,c⟩
theorem zC8:CBi (zVX Kc.K) Mi.lenD n:=by
 intro mg E G H ds vs Q s h p;cases ds with
 |nil=>exact p.elim
 |cons a0 r0=>
  cases r0 with
  |cons _ _=>cases a0<;>exact p.elim
  |nil=>
   cases a0 with
   |lst es=>
    obtain⟨x,rfl,a,xs,rfl,ha,ra⟩:=zEL h;exact⟨xs,.inl (SqL.of (s _ _ ha)),by rw[ra.length];exact PostE.val p (Ext.refl s) rfl rfl⟩
   |tup es=>
    obtain⟨x,rfl,a,xs,rfl,ha,ra⟩:=zEL h;exact⟨xs,.inr (SqT.of (s _ _ ha)),by rw[ra.length];exact PostE.val p (Ext.refl s) rfl rfl⟩
   |scr ns=>
    obtain⟨x,rfl,a,rfl,ha⟩:=zEL h;refine⟨ns.map V.int,zFR s ha,?_⟩;rw[qAl];exact PostE.val p (Ext.refl s) rfl rfl
   |str z=>
    obtain⟨x,rfl,hx⟩:=zEL h
    cases(show x=.str z from hx)
    rw[Mi.lenD]at p
    by_cases hz:z.length<=100000
    ·rw[if_pos hz]at p;exact⟨big' hz,PostE.val p (Ext.refl s) rfl rfl⟩
    ·rw[if_neg hz]at p;exact p.elim
   |_=>exact p.elim
theorem zD7{G:Hp}:∀(ns:List Int),RepL G (ns.map Dt.int) (ns.map V.int)
 |[]=>rfl
 |_::r=>⟨_,_,rfl,rfl,zD7 r⟩
theorem zNK:CBi (zO9 Kc.K) Mi.listD 1:=by
 intro mg E G H ds vs Q s h p;cases ds with
 |nil=>exact p.elim
 |cons a0 r0=>
  cases r0 with
  |cons _ _=>cases a0<;>exact p.elim
  |nil=>
   cases a0 with
   |lst es=>
    obtain⟨x,rfl,a,xs,rfl,ha,ra⟩:=zEL h;exact .inl ⟨xs,.inl (SqL.of (s _ _ ha)),fun l hl=>PostE.lst p (Ext.refl s) ra hl⟩
   |tup es=>
    obtain⟨x,rfl,a,xs,rfl,ha,ra⟩:=zEL h;exact .inl ⟨xs,.inr (SqT.of (s _ _ ha)),fun l hl=>PostE.lst p (Ext.refl s) ra hl⟩
   |scr ns=>
    obtain⟨x,rfl,a,rfl,ha⟩:=zEL h;exact .inl ⟨ns.map V.int,zFR s ha,fun l hl=>PostE.lst p (Ext.refl s) (zD7 ns) hl⟩
   |_=>exact p.elim
theorem za5{G H:Hp}{d:Dt}{x:V}(s:Same G H)(h:Rep G d x)(hd:Mi.tyD d≠""):zHT H x=some (Mi.tyD d):=by
 cases d with
 |non=>cases h;rfl
 |bl _=>cases h;rfl
 |int _=>cases h;rfl
 |str _=>cases h;rfl
 |lst _=>obtain⟨a,xs,rfl,ha,_⟩:=h;unfold zHT;dsimp only;rw[s _ _ ha];rfl
 |tup _=>obtain⟨a,xs,rfl,ha,_⟩:=h;unfold zHT;dsimp only;rw[s _ _ ha];rfl
 |scr _=>exact absurd rfl hd
 |exc _ _ _=>exact absurd rfl hd
 |ins _ _=>exact absurd rfl hd
 |dct _=>exact absurd rfl hd
theorem zH9{nm:String}(hn:nm∈["int","bool","str","list","tuple","dict"])(A:DE mg E ta ma k):DE mg E (tCB zYE (zL4 ta (zL4 (tC (.ty nm)) tNil))) (Mi.eIsi nm ma) n:=by
 intro G H σ ρ Q s w p;refine(zAM A).step errE s w p fun d v G1 H1 S _ fr o p1=>?_
 have p2:=PostE.from p1 fr.ext;unfold Mi.isiD at p2
 split at p2
 ·exact p2.elim
 ·rename_i hd
  exact⟨Mi.tyD d,za5 fr.ext.in' o hd,hn,PostE.val p2 (Ext.refl fr.ext.in') rfl rfl⟩
theorem zIR{G:Hp}:∀{ds:List Dt}{bs:List Bool}{xs:List V},Mi.boolsD ds=some bs->RepL G ds xs->xs=bs.map V.bl
 |[],bs,xs,h,r=>by cases h;exact r
 |.bl b::ds,bs,xs,h,r=>by
  obtain⟨x,q,rfl,a,c⟩:=r;rw[Mi.boolsD]at h;cases e:Mi.boolsD ds with
  |none=>rw[e]at h;cases h
  |some cs=>
   rw[e]at h;cases h;rw[zIR e c,show x=.bl b from a];rfl
 |.non::_,_,_,h,_=>by simp[Mi.boolsD]at h
 |.int _::_,_,_,h,_=>by simp[Mi.boolsD]at h
 |.str _::_,_,_,h,_=>by simp[Mi.boolsD]at h
 |.lst _::_,_,_,h,_=>by simp[Mi.boolsD]at h
 |.tup _::_,_,_,h,_=>by simp[Mi.boolsD]at h
 |.scr _::_,_,_,h,_=>by simp[Mi.boolsD]at h
 |.exc _ _ _::_,_,_,h,_=>by simp[Mi.boolsD]at h
 |.ins _ _::_,_,_,h,_=>by simp[Mi.boolsD]at h
 |.dct _::_,_,_,h,_=>by simp[Mi.boolsD]at h
theorem zM6:CBi zYH Mi.allD n:=by
 intro mg E G H ds vs Q s h p;cases ds with
 |nil=>exact qA5 p
 |cons hd1 tl1=>
  cases hd1 with
  |lst es=>
   cases tl1 with
   |nil=>
    obtain⟨x,rfl,a,xs,rfl,ha,ra⟩:=zEL h;rw[Mi.allD]at p;cases e:Mi.boolsD es with
    |none=>rw[e]at p;exact p.elim
    |some bs=>
     rw[e]at p;exact⟨bs,by rw[<- zIR e ra];exact s _ _ ha,PostE.val p (Ext.refl s) rfl rfl⟩
   |cons _ _=>exact qA5 p
  |_=>exact qA5 p
theorem zOU:CBi zYG Mi.anyD n:=by
 intro mg E G H ds vs Q s h p;cases ds with
 |nil=>exact qA5 p
 |cons hd1 tl1=>
  cases hd1 with
  |lst es=>
   cases tl1 with
   |nil=>
    obtain⟨x,rfl,a,xs,rfl,ha,ra⟩:=zEL h;rw[Mi.anyD]at p;cases e:Mi.boolsD es with
    |none=>rw[e]at p;exact p.elim
    |some bs=>
     rw[e]at p;exact⟨bs,by rw[<- zIR e ra];exact s _ _ ha,PostE.val p (Ext.refl s) rfl rfl⟩
   |cons _ _=>exact qA5 p
  |_=>exact qA5 p
end
end L3
namespace L3
open PySem PySem.Spec
open L2 hiding Rep RepL
open Mi (Dt Xn R okR zA9 optR zA2 zAE zAK zAH zAJ Rh Sl Ro EM TM AM FM IM SM Tg Out zB8 zB6 zBI full frz frz1 frzAt)
variable[Kc]
def ItOk(J:It)(G:Hp)(ds:List Dt):Prop:=∀(i:Nat)(G1 H1:Hp),Same G G1->Same G1 H1->(i<ds.length->J.go i H1)/\(ds.length<=i->J.stop i H1)/\∀x H2 d,ds[i]?=some d->J.yld i H1 x H2->∃G2,Ext G1 H1 G2 H2/\Rep G2 d x
noncomputable def zSC(ind:Bool)(G:Hp):Hp:=if ind=true then(fun _=>none)else G
def zZU(mg:Str->Option Value)(E:XK)(G H:Hp)(ind:Bool)(r:R (List Dt))(Q:It->Hp->Prop):Prop:=match r with
 |none=>False
 |some (.error x)=>∀c da G' H',Ext G H G' H'->XRep mg x c da G' H'->E c da H'
 |some (.ok ds)=>∀J G' H',Ext G H G' H'->ItOk J (zSC ind G') ds->Q J H'
def DI(mg:Str->Option Value)(E:XK)(t:TI)(m:IM)(ind:Bool):Prop:=∀(G H:Hp)(σ:St)(ρ:Rh)(Q:It->Hp->Prop),Same G H->View G σ ρ->zZU mg E G H ind (m ρ) Q->t σ H Q
section
variable{mg:Str->Option Value}{E:XK}{n k l:Nat}{ta te:TE}{ma me:EM}{t:TA}{m:AM}{ind:Bool}
theorem errI{G H:Hp}{Q:It->Hp->Prop}:Err mg E G H (fun r=>zZU mg E G H ind r Q):=⟨fun h=>h,fun _ h=>h⟩
theorem errB{G H:Hp}{α β:Type}{P:R β->Prop}(e:Err mg E G H P)(g:α->R β):Err mg E G H (fun r=>P (zA9 r g)):=⟨fun h=>e.no h,fun x h=>e.er x h⟩
theorem DI.step{β:Type}{t:TI}{m:IM}(D:DI mg E t m ind){G H:Hp}{σ:St}{ρ:Rh}{Q:It->Hp->Prop}{P:R β->Prop}{f:List Dt->R β}(hE:Err mg E G H P)(s:Same G H)(w:View G σ ρ)(p:P (zA9 (m ρ) f))
  (h:∀ds J G' H',m ρ=okR ds->Ext G H G' H'->ItOk J (zSC ind G') ds->P (f ds)->Q J H'):t σ H Q:=by
 refine D G H σ ρ Q s w ?_;cases e:m ρ with
 |none=>rw[e]at p;exact hE.no p
 |some r=>
  rw[e]at p;cases r with
  |error x=>exact hE.er x p
  |ok ds=>exact fun J G' H' x i=>h ds J G' H' e x i p
theorem zUU{K:qA2}{G:Hp}{a:Addr}{xs:List V}{ds:List Dt}(ha:SqL K G a xs)(r:RepL G ds xs):ItOk (Itl K a) G ds:=by
 intro i G1 H1 s1 s2;have hS:SqL K H1 a xs:=(s1.trans s2).seq ha;refine⟨fun hi=>⟨xs,xs[i]'(by rw[r.length];exact hi),hS,by simp⟩,fun hi=>⟨xs,hS,by rw[r.length];exact hi⟩,fun x H2 d hd hy=>?_⟩;obtain⟨rfl,hy⟩:=hy;exact⟨G1,Ext.refl s2,Rep.mono s1 (zCU r hd (hy xs hS))⟩
theorem zUS{K:qA2}{G:Hp}{a:Addr}{xs:List V}{ds:List Dt}(ha:SqT K G a xs)(r:RepL G ds xs):ItOk (Itt K a) G ds:=by
 intro i G1 H1 s1 s2;have hS:SqT K H1 a xs:=zHX (s1.trans s2) ha;refine⟨fun hi=>⟨xs,xs[i]'(by rw[r.length];exact hi),hS,by simp⟩,fun hi=>⟨xs,hS,by rw[r.length];exact hi⟩,fun x H2 d hd hy=>?_⟩;obtain⟨rfl,hy⟩:=hy;exact⟨G1,Ext.refl s2,Rep.mono s1 (zCU r hd (hy xs hS))⟩
theorem zUT{G:Hp}(lo:Int)(k:Nat):ItOk (Itr lo k) G (Mi.nums lo k):=by
 intro i G1 H1 s1 s2;have hl:(Mi.nums lo k).length=k:=by simp[Mi.nums]
 refine⟨fun hi=>by rw[hl]at hi;exact hi,fun hi=>by rw[hl]at hi;exact hi,fun x H2 d hd hy=>?_⟩;obtain⟨rfl,rfl⟩:=hy;refine⟨G1,Ext.refl s2,?_⟩;unfold Mi.nums at hd;rw[qAk]at hd;cases e:(qA1 k)[i]? with
 |none=>rw[e]at hd;cases hd
 |some j=>
  rw[e]at hd;cases hd;have hj:j=i:=by
   obtain⟨h1,h2⟩:=qA3.mp e;rw[qCp]at h2;exact h2.symm
  subst hj;rfl
theorem zDD(A:DA mg E t m 0):DI mg E (zZG t) (Mi.iR1 m) true:=by
 intro G H σ ρ Q s w p;refine A.step errI s w p fun ds vs G1 H1 S T _ fr o p1=>?_
 have r:=o.repL;cases ds with
 |nil=>exact qA5 p1
 |cons hd1 tl1=>
  cases hd1 with
  |int j=>
   cases tl1 with
   |nil=>
    obtain⟨x,rfl,hx⟩:=zEL r
    cases(show x=.int j from hx)
    dsimp only at p1
    split at p1
    ·rename_i hz
     exact⟨j,rfl,by omega,by omega,p1 _ G1 H1 fr.ext (zUT 0 _)⟩
    ·exact p1.elim
   |cons _ _=>exact qA5 p1
  |_=>exact qA5 p1
theorem zaP(A:DA mg E t m 0):DI mg E (zZF t) (Mi.iR2 m) true:=by
 intro G H σ ρ Q s w p;refine A.step errI s w p fun ds vs G1 H1 S T _ fr o p1=>?_
 have r:=o.repL;cases ds with
 |nil=>exact p1.elim
 |cons a0 r0=>
  cases a0 with
  |int i=>
   cases r0 with
   |nil=>exact p1.elim
   |cons b0 r1=>
    cases r1 with
    |cons _ _=>cases b0<;>exact p1.elim
    |nil=>
     cases b0 with
     |int j=>
      obtain⟨x,y,rfl,hx,hy⟩:=zVW r
      cases(show x=.int i from hx)
      cases(show y=.int j from hy)
      dsimp only at p1
      split at p1
      ·rename_i hz
       exact⟨i,j,rfl,⟨by omega,by omega,by omega,by omega⟩,p1 _ G1 H1 fr.ext (zUT i _)⟩
      ·exact p1.elim
     |_=>exact p1.elim
  |_=>rcases r0 with _|⟨_,_|_⟩<;>exact p1.elim
theorem zLY:∀(ds:List Dt)(n:Nat),(Mi.enumD n ds).length=ds.length
 |[],_=>rfl
 |_::r,n=>by rw[Mi.enumD,qAw,qAw,zLY r]
theorem zLZ:∀(ds:List Dt)(n i:Nat)(d:Dt),(Mi.enumD n ds)[i]?=some d->∃e,ds[i]?=some e/\d=.tup [.int ((n+i:Nat):Int),e]
 |[],_,_,_,h=>by simp[Mi.enumD]at h
 |x::r,n,0,d,h=>by simp[Mi.enumD]at h;exact⟨x,by simp,by rw[<- h];rfl⟩
 |x::r,n,i+1,d,h=>by
  rw[Mi.enumD]at h;obtain⟨e,h1,h2⟩:=zLZ r (n+1) i d (by simpa using h);exact⟨e,by simpa using h1,by rw[h2,show n+1+i=n+(i+1) by omega]⟩
theorem Ext.new{G H:Hp}(s:Same G H){T:Addr}(hT:H T=none)(o:HO):Ext G H (upd G T o) (upd H T o):=by
 refine⟨L2.same_new (s.free hT) o,L2.same_new hT o,fun b u e=>?_,fun b hb=>zB0 fun z=>hb (z▸hT)⟩
 by_cases z:b=T
 ·subst z;rw[zBB]at e ⊢;exact e
 ·rw[zB0 z]at e ⊢;exact s _ _ e
theorem zZE{K:qA2}{G:Hp}{a:Addr}{xs:List V}{ds:List Dt}(ha:G a=some (.lst xs))(r:RepL G ds xs):ItOk (Ite K a) G (Mi.enumD 0 ds):=by
 intro i G1 H1 s1 s2;have hS:SqL K H1 a xs:=SqL.of (s2 _ _ (s1 _ _ ha));rw[zLY];refine⟨fun hi=>⟨xs,xs[i]'(by rw[r.length];exact hi),hS,by simp⟩,fun hi=>⟨xs,hS,by rw[r.length];exact hi⟩,fun x H2 d hd hy=>?_⟩;obtain⟨T,y,rfl,hT,rfl,hy⟩:=hy;obtain⟨e,h1,rfl⟩:=zLZ ds 0 i d hd;have x1:=Ext.new s2 hT (.tup [.int i,y]);refine⟨_,x1,T,_,rfl,zBB,_,_,rfl,?_,_,_,rfl,Rep.mono (s1.trans x1.g) (zCU r h1 (hy xs hS)),rfl⟩;show V.int (i:Int)=.int ((0+i:Nat):Int);rw[qC7]
theorem zZN{K:qA2}(A:DA mg E t m 0):DI mg E (zWV K t) (Mi.iEn m) false:=by
 intro G H σ ρ Q s w p;refine A.step errI s w p fun ds vs G1 H1 S T _ fr o p1=>?_
 have r:=o.repL;cases ds with
 |nil=>exact qA5 p1
 |cons hd1 tl1=>
  cases hd1 with
  |lst es=>
   cases tl1 with
   |nil=>
    obtain⟨x,rfl,a,xs,rfl,ha,ra⟩:=zEL r;exact⟨⟨xs,SqL.of (fr.ext.in' _ _ ha)⟩,p1 _ G1 H1 fr.ext (zZE ha ra)⟩
   |cons _ _=>exact qA5 p1
  |_=>exact qA5 p1
noncomputable def zHW:St->List (Nat×V)->St
 |σ,[]=>σ
 |σ,(i,v)::r=>zHW (σ.set i (some v)) r
inductive BsRep(G:Hp):List (Nat×Dt)->List (Nat×V)->Prop
 |nil:BsRep G [] []
 |cons {i d v bs ws}:Rep G d v->BsRep G bs ws->BsRep G ((i,d)::bs) ((i,v)::ws)
theorem View.set{G:Hp}{σ:St}{ρ:Rh}{i:Nat}{d:Dt}{v:V}(w:View G σ ρ)(r:Rep G d v):View G (σ.set i (some v)) (ρ.set i (some d)):=by
 refine⟨by simp[w.len],fun j e h=>?_⟩;have hj:j<ρ.length:=by
  have:=(qA3.mp h).1
  simpa using this
 by_cases z:i=j
 ·subst z;rw[qAb hj]at h;cases h;exact⟨v,qAb (by rw[<- w.len];exact hj),r⟩
 ·rw[qAj z]at h;obtain⟨u,h1,h2⟩:=w.at j e h;exact⟨u,by rw[qAj z];exact h1,h2⟩
theorem View.sets{G:Hp}{bs ws}(h:BsRep G bs ws):∀{σ:St}{ρ:Rh},View G σ ρ->View G (zHW σ ws) (zB6 ρ bs):=by
 induction h with
 |nil=>exact fun w=>w
 |cons r _ ih=>exact fun w=>ih (w.set r)
def TgOk(g:TG)(tg:Tg):Prop:=∀(G H:Hp)(σ:St)(d:Dt)(x:V)(bs:List (Nat×Dt))(Q:St->Hp->Prop),Same G H->Rep G d x->zB8 tg d=some bs->(∀ws,BsRep G bs ws->Q (zHW σ ws) H)->g x σ H Q
def zU8(g:TGs)(is:List Nat):Prop:=∀(G H:Hp)(σ:St)(ds:List Dt)(xs:List V)(Q:St->Hp->Prop),RepL G ds xs->ds.length=is.length->(∀ws,BsRep G (is.zip ds) ws->Q (zHW σ ws) H)->g xs σ H Q
theorem zAN(i:Nat):TgOk (zGN i) (.one i):=by
 intro G H σ d x bs Q s r e h;cases e;exact h [(i,x)] (.cons r .nil)
theorem zGJ:zU8 gNil []:=by
 intro G H σ ds xs Q r hl h;cases ds with
 |nil=>cases(show xs=[] from r);exact⟨rfl,h [] .nil⟩
 |cons _ _=>simp at hl
theorem zC2(i:Nat){g:TGs}{is:List Nat}(hg:zU8 g is):zU8 (zZI (zGN i) g) (i::is):=by
 intro G H σ ds xs Q r hl h;cases ds with
 |nil=>simp at hl
 |cons d ds=>
  obtain⟨x,q,rfl,a,b⟩:=r;exact⟨x,q,rfl,hg G H _ ds q Q b (by simpa using hl) fun ws hw=>h ((i,x)::ws) (.cons a hw)⟩
theorem zJ8{K:qA2}{g:TGs}{is:List Nat}{k:Nat}(hg:zU8 g is)(hk:is.length=k):TgOk (gTup K k g) (.tup is):=by
 intro G H σ d x bs Q s r e h;cases d with
 |tup ds=>
  obtain⟨a,xs,rfl,ha,ra⟩:=r;rw[zB8]at e
  by_cases hz:ds.length=is.length
  ·rw[if_pos hz]at e;cases e;exact⟨a,xs,rfl,SqT.of (s _ _ ha),by rw[ra.length,hz,hk],hg G H σ ds xs Q ra hz h⟩
  ·rw[if_neg hz]at e;cases e
 |_=>simp[zB8]at e
theorem zLD:∀(ws:List (Nat×V))(σ own:St),(∀p∈ws,σ.length<=p.1)->∃own':St,own'.length=own.length/\zHW (σ++own) ws=σ++own'
 |[],σ,own,_=>⟨own,rfl,rfl⟩
 |(i,v)::r,σ,own,h=>by
  have hi:σ.length<=i:=h (i,v) (by simp);rw[zHW,qEf _ _ hi];obtain⟨o,h1,h2⟩:=zLD r σ (own.set (i-σ.length) (some v)) fun p hp=>h p (by simp[hp])
  exact⟨o,by rw[h1,qFn],h2⟩
theorem BsRep.idx{G:Hp}{bs ws}(h:BsRep G bs ws):ws.map (·.1)=bs.map (·.1):=by
 induction h with
 |nil=>rfl
 |cons _ _ ih=>simp[ih]
theorem zSB{tg:Tg}{d:Dt}{bs:List (Nat×Dt)}(h:zB8 tg d=some bs):∀i∈bs.map (·.1),i∈tg.idx:=by
 cases tg with
 |one i=>cases h;simp[Tg.idx]
 |tup is=>
  cases d with
  |tup ds=>
   rw[zB8]at h
   split at h
   ·cases h;intro i hi;obtain⟨p,hp,e⟩:=qAa.mp hi;rw[<- e];obtain⟨a,b⟩:=p;exact(qC4 hp).1
   ·cases h
  |_=>simp[zB8]at h
theorem zAP{wi:TI}{g:TG}{tif:TT}{it:IM}{tg:Tg}{c:TM}(I:DI mg E wi it ind)(hT:TgOk g tg)(C:DT mg E tif c)(B:DE mg E te me n):DE mg E (zVK wi k g tif te) (Mi.eComp it k tg c me) (n+1):=by
 intro G H σ ρ Q s w p;refine I.step errE s w p fun ds J G1 H1 _ x1 io p1=>?_
 by_cases hz:ds.length<=100000/\(tg.idx.all fun i=>decide (ρ.length<=i))=true
 case neg=>rw[if_neg hz]at p1;exact p1.elim
 rw[if_pos hz]at p1;obtain⟨hz,hix⟩:=hz;have hb1:Same (zSC ind G1) G1:=by
  unfold zSC
  split
  ·exact fun b o e=>by cases e
  ·exact Same.refl _
 refine⟨fun i m acc H'=>m=ds.length-i/\i<=ds.length/\∃G' as S T,Fr G H G' H' S/\Same G1 G'/\OwnA G' H' n S as acc T/\as.length<=i/\PostE mg E G H (n+1) (zA9 (Mi.compGo ρ k tg c me (ds.drop i) as) fun es=>okR (.lst es)) Q,
  ⟨_,rfl,qAp _,G1,[],fun _=>False,fun _ _=>False,⟨x1,fun _ z=>z.elim⟩,Same.refl _,⟨rfl,fun q d x h=>by simp at h,fun _ _ _ z=>z.elim,fun _ _ z=>z.elim⟩,qA7 _,by rw[qD7];exact p1⟩,?_⟩
 rintro i m acc H' ⟨rfl,hi,G',as,S,T,fr,sg,o,hl,p⟩
 obtain⟨j1,j2,j3⟩:=io i G' H' (hb1.trans sg) fr.ext.in'
 by_cases hlt:i<ds.length
 ·refine .inr ⟨j1 hlt,by rw[o.len];exact L2.big (by omega),fun acc' H''=>ds.length-(i+1)=ds.length-(i+1)/\i+1<=ds.length/\∃G' as S T,Fr G H G' H'' S/\Same G1 G'/\OwnA G' H'' n S as acc' T/\as.length<=i+1/\PostE mg E G H (n+1) (zA9 (Mi.compGo ρ k tg c me (ds.drop (i+1)) as) fun es=>okR (.lst es)) Q,
   fun acc' H'' q=>⟨ds.length-(i+1),by omega,q⟩,fun x H2 hy=>?_⟩
  have hd:ds[i]?=some ds[i]:=qA8 hlt;obtain⟨G2,x2,r2⟩:=j3 x H2 ds[i] hd hy;rw[qBt hlt,Mi.compGo]at p;cases eb:zB8 tg ds[i]with
  |none=>rw[eb]at p;exact p.elim
  |some bs=>
   rw[eb]at p;dsimp only at p;refine hT G2 H2 _ _ x bs _ x2.in' r2 eb fun ws hb=>?_
   have hsl:∀q∈ws,σ.length<=q.1:=fun q hq=>by
    have h1:q.1∈bs.map (·.1):=by rw[<- hb.idx];exact List.mem_map_of_mem hq
    have h2:=qEa.mp hix q.1 (zSB eb q.1 h1);rw[<- w.len];exact of_decide_eq_true h2
   obtain⟨own,ho1,ho2⟩:=zLD ws σ (qA6 k none) hsl;refine⟨own,by rw[ho1,qD8],ho2,?_⟩;have x02:=fr.ext.trans x2;have w2:View G2 (zHW (σ++qA6 k none) ws) (zB6 (ρ++qA6 k none) bs):=by
    refine View.sets hb ⟨by simp[w.len],fun j d h=>?_⟩
    by_cases hj:j<ρ.length
    ·rw[qAf hj]at h;obtain⟨v,a,b⟩:=w.at j d h;exact⟨v,by rw[qAf (by rw[<- w.len];exact hj)];exact a,Rep.mono x02.g b⟩
    ·rw[qAg (by omega),qBa]at h
     split at h<;>cases h
   refine C.step ((errB errE _).from x02) x2.in' w2 p fun b H3 _ s3 p3=>?_
   have x3:Ext G2 H2 G2 H3:=Ext.same x2.in' s3;have x03:=x02.trans x3;have newS:∀a,S a->H a=none/\G2 a=none/\H3 a≠none:=fun a ha=>by
    obtain⟨n1,n2,n3⟩:=fr.new a ha;exact⟨n1,(x2.old a n3).trans n2,s3.some (x2.h.some n3)⟩
   have own3:OwnA G2 H3 n S as acc T:=⟨o.len,fun q d y h1 h2=>(o.own q d y h1 h2).mono x2.g (x2.h.trans s3),o.dis,o.sub⟩
   cases b with
   |false=>exact⟨rfl,hlt,G2,as,S,T,⟨x03,newS⟩,sg.trans x2.g,own3,by omega,p3⟩
   |true=>
    refine B.step ((errB errE _).from x03) x3.in' w2 p3 fun e v G4 H4 S4 _ fr4 o4 p4=>?_
    have ap:∀q b,T q b->S4 b->False:=fun q b h1 h2=>(newS b (o.sub q b h1)).2.2 (fr4.new b h2).1
    refine⟨rfl,hlt,G4,as++[e],fun a=>S a\/S4 a,fun q b=>(q<as.length/\T q b)\/(q=as.length/\S4 b),⟨x03.trans fr4.ext,fun a ha=>?_⟩,sg.trans (x2.g.trans fr4.ext.g),⟨by simp[o.len],fun q d y h1 h2=>?_,fun q r b h1 h2=>?_,fun q b h=>?_⟩,by simp;omega,p4⟩
    ·rcases ha with ha|ha
     ·obtain⟨n1,n2,n3⟩:=newS a ha;exact⟨n1,(fr4.ext.old a n3).trans n2,fr4.ext.h.some n3⟩
     ·obtain⟨n1,n2,n3⟩:=fr4.new a ha;exact⟨x03.h.free n1,n2,n3⟩
    ·by_cases hq:q<as.length
     ·rw[qAf hq]at h1;rw[qAf (by rw[o.len];exact hq)]at h2;exact((own3.own q d y h1 h2).mono fr4.ext.g fr4.ext.h).sub fun b z=>.inl ⟨hq,z⟩
     ·rw[qAg (by omega)]at h1;rw[qAg (by rw[o.len];omega),o.len]at h2;have hq0:q-as.length=0:=by
       have:=(qA3.mp h1).1
       simp at this;omega
      rw[hq0]at h1 h2;simp at h1 h2;subst h1;subst h2;exact o4.sub fun b z=>.inr ⟨by omega,z⟩
    ·rcases h1 with⟨a1,t1⟩|⟨a1,t1⟩<;>rcases h2 with⟨a2,t2⟩|⟨a2,t2⟩
     ·exact o.dis q r b t1 t2
     ·exact(ap q b t1 t2).elim
     ·exact(ap r b t2 t1).elim
     ·omega
    ·rcases h with⟨_,z⟩|⟨_,z⟩
     ·exact .inl (o.sub q b z)
     ·exact .inr z
 ·have e:i=ds.length:=by omega
  subst e;refine .inl ⟨j2 (qA7 _),fun D hD=>?_⟩;rw[qEb,Mi.compGo]at p;exact p (.ref D) G' _ _ (fr.add hD _) ⟨D,acc,T,rfl,zBB,o.kids (fun b hb=>(fr.new b hb).2.2) hD _⟩
end
end L3
namespace L3
open PySem PySem.Spec
open L2 hiding Rep RepL
open Mi (Dt Xn R okR zA9 optR zA2 zAE zAK zAH zAJ Rh Sl Ro EM TM AM FM IM SM Tg Out zB8 zB6 zBI full frz frz1 frzAt)
variable[Kc]
structure Sat(G0 H0 S0:Hp)(σ:St)(ρ:Ro)(G H:Hp)(As:Nat->Addr->Prop):Prop where
 ext:Ext G0 H0 G H
 stb:Same S0 G
 len:ρ.length=σ.length
 «at»:∀(i:Nat)(d:Dt)(n:Nat),ρ[i]?=some (some (d,n))->∃v,σ[i]?=some (some v)/\Own G H n (As i) d v
 dis:∀i j a,As i a->As j a->i=j
 new:∀i a,As i a->H0 a=none/\G a=none/\H a≠none
section
variable{G0 H0 S0:Hp}{σ:St}{ρ:Ro}{G H:Hp}{As:Nat->Addr->Prop}
theorem Sat.grow(a:Sat G0 H0 S0 σ ρ G H As){H':Hp}(s:Same H H'):Sat G0 H0 S0 σ ρ G H' As:=
 ⟨a.ext.trans (Ext.same a.ext.in' s),a.stb,a.len,fun i d n e=>let⟨v,h1,h2⟩:=a.at i d n e;⟨v,h1,h2.mono (Same.refl _) s⟩,a.dis,fun i b h=>let⟨n1,n2,n3⟩:=a.new i b h;⟨n1,n2,s.some n3⟩⟩
theorem Sat.wider(a:Sat G0 H0 S0 σ ρ G H As){G' H':Hp}(x:Ext G H G' H'):Sat G0 H0 S0 σ ρ G' H' As:=
 ⟨a.ext.trans x,a.stb.trans x.g,a.len,fun i d n e=>let⟨v,h1,h2⟩:=a.at i d n e;⟨v,h1,h2.mono x.g x.h⟩,a.dis,fun i b h=>let⟨n1,n2,n3⟩:=a.new i b h;⟨n1,(x.old b n3).trans n2,x.h.some n3⟩⟩
theorem Sat.full(a:Sat G0 H0 S0 σ ρ G H As):∃J,Ext G0 H0 J H/\Same G J/\View J σ (full ρ):=by
 obtain⟨s1,s2⟩:=zDQ (S:=fun b=>∃i,As i b) a.ext.in';refine⟨over G H fun b=>∃i,As i b,⟨a.ext.g.trans s1,a.ext.h,s2,fun b hb=>?_⟩,s1,by simp[Mi.full,a.len],fun i d e=>?_⟩
 ·have z:¬ ∃i,As i b:=fun⟨i,z⟩=>hb (a.new i b z).1
  rw[zD3 z];exact a.ext.old b hb
 ·unfold Mi.full at e;rw[qAk]at e;cases e1:ρ[i]? with
  |none=>rw[e1]at e;cases e
  |some o=>
   rw[e1]at e;cases o with
   |none=>cases e
   |some sl=>
    obtain⟨d',n⟩:=sl;cases e;obtain⟨v,h1,h2⟩:=a.at i _ n e1;exact⟨v,h1,h2.rep s1 fun b o hb e=>by rw[zEO ⟨i,hb⟩];exact e⟩
theorem Sat.put(a:Sat G0 H0 S0 σ ρ G H As){i n:Nat}{d:Dt}{v:V}{S:Addr->Prop}(o:Own G H n S d v)(hS:∀b,S b->H0 b=none/\G b=none/\H b≠none)(hd:∀j b,j≠i->As j b->S b->False) :
  Sat G0 H0 S0 (σ.set i (some v)) (ρ.set i (some (d,n))) G H (fun j=>if j=i then S else As j):=by
 refine⟨a.ext,a.stb,by simp[a.len],fun j e k h=>?_,fun j l b h1 h2=>?_,fun j b h=>?_⟩
 ·have hj:j<ρ.length:=by
   have:=(qA3.mp h).1
   simpa using this
  by_cases z:i=j
  ·subst z;rw[qAb hj]at h;cases h;exact⟨v,qAb (by rw[<- a.len];exact hj),by rw[if_pos rfl];exact o⟩
  ·rw[qAj z]at h;obtain⟨u,h1,h2⟩:=a.at j e k h;exact⟨u,by rw[qAj z];exact h1,by rw[if_neg (fun q=>z q.symm)];exact h2⟩
 ·try dsimp only at h1 h2
  by_cases z1:j=i
  ·by_cases z2:l=i
   ·rw[z1,z2]
   ·rw[if_pos z1]at h1;rw[if_neg z2]at h2;exact(hd l b z2 h2 h1).elim
  ·by_cases z2:l=i
   ·rw[if_neg z1]at h1;rw[if_pos z2]at h2;exact(hd j b z1 h1 h2).elim
   ·rw[if_neg z1]at h1;rw[if_neg z2]at h2;exact a.dis j l b h1 h2
 ·try dsimp only at h
  by_cases z1:j=i
  ·rw[if_pos z1]at h;exact hS b h
  ·rw[if_neg z1]at h;exact a.new j b h
theorem Sat.set(a:Sat G0 H0 S0 σ ρ G H As){H':Hp}{i n:Nat}{d:Dt}{v:V}{S:Addr->Prop}(s:Same H H')(o:Own G H' n S d v)(hS:∀b,S b->H b=none/\G b=none/\H' b≠none) :
  Sat G0 H0 S0 (σ.set i (some v)) (ρ.set i (some (d,n))) G H' (fun j=>if j=i then S else As j):=
 (a.grow s).put o (fun b hb=>⟨a.ext.h.free (hS b hb).1,(hS b hb).2⟩) fun j b _ h1 h2=>(a.new j b h1).2.2 (hS b h2).1
theorem Sat.frz1(a:Sat G0 H0 S0 σ ρ G H As)(i:Nat):∃G1 As1,Sat G0 H0 S0 σ (Mi.frz1 i ρ) G1 H As1:=by
 unfold Mi.frz1;cases e1:ρ[i]? with
 |none=>exact⟨G,As,a⟩
 |some o=>
  cases o with
  |none=>exact⟨G,As,a⟩
  |some sl=>
   obtain⟨d,n⟩:=sl;dsimp only;obtain⟨v,h1,h2⟩:=a.at i d n e1;obtain⟨s1,s2⟩:=zDQ (S:=As i) a.ext.in';have x:Ext G0 H0 (over G H (As i)) H:=⟨a.ext.g.trans s1,a.ext.h,s2,fun b hb=>by
    have z:¬As i b:=fun z=>hb (a.new i b z).1
    rw[zD3 z];exact a.ext.old b hb⟩
   have hv:(σ.set i (some v))=σ:=by
    have hi:i<σ.length:=(qA3.mp h1).1;have he:=(qA3.mp h1).2;rw[<- he,qDa]
   have b:Sat G0 H0 S0 σ (ρ.set i (some (d,0))) (over G H (As i)) H (fun j b=>j≠i/\As j b):=by
    refine⟨x,a.stb.trans s1,by simp[a.len],fun j e k h=>?_,fun j l b p q=>a.dis j l b p.2 q.2,fun j b p=>?_⟩
    ·have hj:j<ρ.length:=by
      have:=(qA3.mp h).1
      simpa using this
     by_cases z:i=j
     ·subst z;rw[qAb hj]at h;cases h;exact⟨v,h1,h2.rep s1 fun b o hb e=>by rw[zEO hb];exact e⟩
     ·rw[qAj z]at h;obtain⟨u,q1,q2⟩:=a.at j e k h;exact⟨u,q1,(q2.mono s1 (Same.refl _)).sub fun b hb=>⟨fun q=>z q.symm,hb⟩⟩
    ·obtain⟨n1,n2,n3⟩:=a.new j b p.2;have z:¬As i b:=fun z=>p.1 (a.dis j i b p.2 z)
     exact⟨n1,by rw[zD3 z];exact n2,n3⟩
   exact⟨_,_,b⟩
theorem Sat.frzAt:∀(vs:List Nat){ρ:Ro}{G:Hp}{As:Nat->Addr->Prop},Sat G0 H0 S0 σ ρ G H As->∃G1 As1,Sat G0 H0 S0 σ (Mi.frzAt vs ρ) G1 H As1
 |[],_,_,_,a=>⟨_,_,a⟩
 |i::r,_,_,_,a=>by
  obtain⟨G1,As1,b⟩:=a.frz1 i;exact Sat.frzAt r b
theorem Sat.frz(a:Sat G0 H0 S0 σ ρ G H As):View G σ (Mi.frz ρ):=by
 refine⟨by simp[Mi.frz,a.len],fun i d e=>?_⟩;unfold Mi.frz at e;rw[qAk]at e;cases e1:ρ[i]? with
 |none=>rw[e1]at e;cases e
 |some o=>
  rw[e1]at e;cases o with
  |none=>cases e
  |some sl=>
   obtain⟨d',n⟩:=sl;obtain⟨v,h1,h2⟩:=a.at i d' n e1;simp only[qFr,qH5]at e
   split at e
   ·rename_i hz
    cases e
    rcases hz with hz|hz
    ·subst hz;exact⟨v,h1,h2⟩
    ·exact⟨v,h1,Own.scalar (k:=0) (G2:=G) (H2:=H) (S2:=fun _=>False) h2 hz⟩
   ·cases e
theorem Sat.store(a:Sat G0 H0 S0 σ ρ G H As){i n:Nat}{d:Dt}{v:V}{p:Addr}{o:HO}{S:Addr->Prop}(hp:As i p)(hv:σ[i]?=some (some v))(w:Own G (upd H p o) n S d v)
  (hS:∀b,S b->As i b\/(H0 b=none/\G b=none/\H b≠none/\∀j,¬As j b)):Sat G0 H0 S0 σ (ρ.set i (some (d,n))) G (upd H p o) (fun j=>if j=i then S else As j):=by
 obtain⟨p1,p2,p3⟩:=a.new i p hp;have hn:∀b,H b≠none->upd H p o b≠none:=fun b hb=>by
  by_cases z:b=p
  ·subst z;rw[zBB];simp
  ·rw[zB0 z];exact hb
 refine⟨⟨a.ext.g,L2.Same.upd a.ext.h p1 o,L2.Same.upd a.ext.in' p2 o,a.ext.old⟩,a.stb,by simp[a.len],fun j e k h=>?_,fun j l b h1 h2=>?_,fun j b h=>?_⟩
 ·have hj:j<ρ.length:=by
   have:=(qA3.mp h).1
   simpa using this
  by_cases z:i=j
  ·subst z;rw[qAb hj]at h;cases h;exact⟨v,hv,by rw[if_pos rfl];exact w⟩
  ·rw[qAj z]at h;obtain⟨u,h1,h2⟩:=a.at j e k h;exact⟨u,h1,by rw[if_neg (fun q=>z q.symm)];exact h2.upd fun q=>z (a.dis i j p hp q)⟩
 ·have key:∀j b,j≠i->As j b->S b->False:=fun j b hj h1 h2=>by
   rcases hS b h2 with q|⟨_,_,_,q⟩
   ·exact hj (a.dis j i b h1 q)
   ·exact q j h1
  try dsimp only at h1 h2
  by_cases z1:j=i
  ·by_cases z2:l=i
   ·rw[z1,z2]
   ·rw[if_pos z1]at h1;rw[if_neg z2]at h2;exact(key l b z2 h2 h1).elim
  ·by_cases z2:l=i
   ·rw[if_neg z1]at h1;rw[if_pos z2]at h2;exact(key j b z1 h1 h2).elim
   ·rw[if_neg z1]at h1;rw[if_neg z2]at h2;exact a.dis j l b h1 h2
 ·try dsimp only at h
  by_cases z1:j=i
  ·rw[if_pos z1]at h
   rcases hS b h with q|⟨q1,q2,q3,_⟩
   ·obtain⟨n1,n2,n3⟩:=a.new i b q;exact⟨n1,n2,hn b n3⟩
   ·exact⟨q1,q2,hn b q3⟩
  ·rw[if_neg z1]at h;obtain⟨n1,n2,n3⟩:=a.new j b h;exact⟨n1,n2,hn b n3⟩
end
def zGZ(mg:Str->Option Value)(E:XK)(G0 H0 S0:Hp)(L:Nat)(r:R Out)(D:Ends):Prop:=match r with
 |none=>False
 |some (.error x)=>∀c da G' H',Ext G0 H0 G' H'->XRep mg x c da G' H'->E c da H'
 |some (.ok (.nx ρ))=>∀σ G H As,Sat G0 H0 S0 σ ρ G H As->D.nx σ H
 |some (.ok (.bk ρ))=>∀σ G H As,Sat G0 H0 S0 σ ρ G H As->D.bk σ H
 |some (.ok (.ct ρ))=>∀σ G H As,Sat G0 H0 S0 σ ρ G H As->D.ct σ H
 |some (.ok (.rt d))=>∀v G H S,Fr G0 H0 G H S->Own G H L S d v->D.rt v H
def DS(mg:Str->Option Value)(E:XK)(L:Nat)(t:TS)(m:SM):Prop:=∀(G0 H0 S0:Hp)(σ:St)(ρ:Ro)(G H:Hp)(As:Nat->Addr->Prop)(D:Ends),Sat G0 H0 S0 σ ρ G H As->zGZ mg E G0 H0 S0 L (m ρ) D->t D σ H
section
variable{mg:Str->Option Value}{E:XK}{L n k l:Nat}{te ta tb:TE}{e ea eb:EM}{t u:TS}{m m':SM}
theorem errS{G0 H0 S0:Hp}{D:Ends}:Err mg E G0 H0 (fun r=>zGZ mg E G0 H0 S0 L r D):=⟨fun h=>h,fun _ h=>h⟩
theorem zBJ:DS mg E L zXR Mi.sNil:=fun G0 H0 S0 σ ρ G H As D a p=>p σ G H As a
theorem zAC(A:DS mg E L t m)(B:DS mg E L u m'):DS mg E L (tSeq t u) (Mi.sSeq m m'):=by
 intro G0 H0 S0 σ ρ G H As D a p;refine A G0 H0 S0 σ ρ G H As _ a ?_;unfold Mi.sSeq at p;cases e:m ρ with
 |none=>rw[e]at p;exact p
 |some r=>
  rw[e]at p;cases r with
  |error x=>exact p
  |ok o=>
   cases o with
   |nx ρ'=>exact fun σ' G' H' As' a'=>B G0 H0 S0 σ' ρ' G' H' As' D a' p
   |rt d=>exact p
   |bk ρ'=>exact p
   |ct ρ'=>exact p
theorem zCM{tc:TT}{c:TM}(C:DT mg E tc c)(A:DS mg E L t m)(B:DS mg E L u m'):DS mg E L (tIfS tc t u) (Mi.sIf c m m'):=by
 intro G0 H0 S0 σ ρ G H As D a p;obtain⟨J,x,s,w⟩:=a.full;refine C.step (errS.from x) x.in' w p fun b H' _ sH p1=>?_
 cases b with
 |true=>exact A G0 H0 S0 σ ρ G H' As D (a.grow sH) p1
 |false=>exact B G0 H0 S0 σ ρ G H' As D (a.grow sH) p1
theorem whole{G0 H0 S0:Hp}{σ:St}{ρ:Ro}{G H J G1 H1:Hp}{As:Nat->Addr->Prop}{S:Addr->Prop}{d:Dt}{v:V}(a:Sat G0 H0 S0 σ ρ G H As)(s:Same G J)(fr:Fr J H G1 H1 S)(o:Own G1 H1 n S d v)(hn:n<1000)(hd:d.dep<=n)(hk:d.dep<=k) :
  Own G H1 k S d v/\∀b,S b->H b=none/\G b=none/\H1 b≠none:=
 ⟨o.at hd hk hn,fun b hb=>let⟨n1,n2,n3⟩:=fr.new b hb;⟨n1,a.ext.in'.free n1,n3⟩⟩
theorem zAO{i:Nat}(vs:List Nat)(A:DE mg E te e n)(hn:n<1000:=by decide):DS mg E L (tAsg te (zGN i)) (Mi.sSet i n vs e):=by
 intro G0 H0 S0 σ ρ G H As D a p;obtain⟨J,x,s,w⟩:=a.full;unfold Mi.sSet at p;cases ee:e (full ρ)with
 |none=>rw[ee]at p;exact p.elim
 |some r=>
  cases r with
  |error y=>exact A.step (errS.from x) x.in' w p fun d v G1 H1 S e1 fr o p1=>by rw[ee]at e1;cases e1
  |ok d=>
   by_cases hd:d.dep<=n
   ·refine A.step (errS.from x) x.in' w p fun d' v G1 H1 S e1 fr o p1=>?_
    rw[ee]at e1;cases e1;rw[if_pos hd]at p1;obtain⟨q1,q2⟩:=whole (k:=n) a s fr o hn hd hd;exact p1 _ G H1 _ (a.set fr.ext.h q1 q2)
   ·rw[ee]at p;have p':zGZ mg E G0 H0 S0 L (zA9 (e (frz (frzAt vs ρ))) fun d'=>okR (.nx ((frzAt vs ρ).set i (some (d',n))))) D:=by
     have p2:zGZ mg E G0 H0 S0 L (if d.dep<=n then okR (.nx (ρ.set i (some (d,n))))else zA9 (e (frz (frzAt vs ρ))) fun d'=>okR (.nx ((frzAt vs ρ).set i (some (d',n))))) D:=p;rw[if_neg hd]at p2;exact p2
    obtain⟨G1,As1,a1⟩:=Sat.frzAt vs a;refine A.step (errS.from a1.ext) a1.ext.in' a1.frz p' fun d' v G2 H2 S _ fr o p1=>?_
    exact p1 _ G2 H2 _ ((a1.wider fr.ext).put o (fun b hb=>let⟨n1,n2,n3⟩:=fr.new b hb;⟨a1.ext.h.free n1,n2,n3⟩) fun j b _ h1 h2=>(a1.new j b h1).2.2 (fr.new b h2).1)
theorem zAT(vs:List Nat)(A:DE mg E te e n)(hn:n<1000:=by decide):DS mg E L (tRet te) (Mi.sRet L n vs e):=by
 intro G0 H0 S0 σ ρ G H As D a p;obtain⟨J,x,s,w⟩:=a.full;unfold Mi.sRet at p;cases ee:e (full ρ)with
 |none=>rw[ee]at p;exact p.elim
 |some r=>
  cases r with
  |error y=>exact A.step (errS.from x) x.in' w p fun d v G1 H1 S e1 fr o p1=>by rw[ee]at e1;cases e1
  |ok d=>
   by_cases hd:d.dep<=n/\d.dep<=L
   ·refine A.step (errS.from x) x.in' w p fun d' v G1 H1 S e1 fr o p1=>?_
    rw[ee]at e1;cases e1;rw[if_pos hd]at p1;exact p1 v G1 H1 S (Fr.from x fr) (o.at hd.1 hd.2 hn)
   ·rw[ee]at p;have p2:zGZ mg E G0 H0 S0 L (if d.dep<=n/\d.dep<=L then okR (.rt d)else if n=L then zA9 (e (frz (frzAt vs ρ))) fun d'=>okR (.rt d')else none) D:=p;rw[if_neg hd]at p2
    by_cases hl:n=L
    ·rw[if_pos hl]at p2;subst hl;obtain⟨G1,As1,a1⟩:=Sat.frzAt vs a;refine A.step (errS.from a1.ext) a1.ext.in' a1.frz p2 fun d' v G2 H2 S _ fr o p1=>?_
     exact p1 v G2 H2 S (Fr.from a1.ext fr) o
    ·rw[if_neg hl]at p2;exact p2.elim
theorem zGS(i:Nat):DS mg E L (tRet (vM i)) (Mi.sRetV L i):=by
 intro G0 H0 S0 σ ρ G H As D a p;unfold Mi.sRetV at p;cases e1:ρ[i]? with
 |none=>rw[e1]at p;exact p.elim
 |some o=>
  rw[e1]at p;cases o with
  |none=>exact p.elim
  |some sl=>
   obtain⟨d,k⟩:=sl;obtain⟨v,h1,h2⟩:=a.at i d k e1;show vM i σ H D.rt;unfold vM;rw[h1];dsimp only at p
   split at p
   ·rename_i hz
    rcases hz with hz|hz|hz
    ·subst hz;exact p v G H (As i) ⟨a.ext,fun b hb=>a.new i b hb⟩ h2
    ·subst hz;obtain⟨s1,s2⟩:=zDQ (S:=As i) a.ext.in';refine p v (over G H (As i)) H (fun _=>False) ⟨⟨a.ext.g.trans s1,a.ext.h,s2,fun b hb=>?_⟩,fun _ z=>z.elim⟩ (h2.rep s1 fun b o hb e=>by rw[zEO hb];exact e);have z:¬As i b:=fun z=>hb (a.new i b z).1
     rw[zD3 z];exact a.ext.old b hb
    ·exact p v G H (As i) ⟨a.ext,fun b hb=>a.new i b hb⟩ (h2.at hz.1 hz.2.1 hz.2.2)
   ·exact p.elim
theorem Sat.puts{G0 H0 S0 G H:Hp}{bs:List (Nat×Dt)}{ws:List (Nat×V)}(h:BsRep G bs ws):∀{σ:St}{ρ:Ro}{As:Nat->Addr->Prop},Sat G0 H0 S0 σ ρ G H As->∃As',Sat G0 H0 S0 (zHW σ ws) (zBI ρ bs) G H As':=by
 induction h with
 |nil=>exact fun a=>⟨_,a⟩
 |cons r _ ih=>exact fun a=>ih (a.put (n:=0) (S:=fun _=>False) r (fun _ z=>z.elim) fun _ _ _ _ z=>z.elim)
theorem zV4{g:TG}{is:List Nat}(vs:List Nat)(hT:TgOk g (.tup is))(A:DE mg E te e n):DS mg E L (tAsg te g) (Mi.sUnp is vs e):=by
 intro G0 H0 S0 σ ρ G H As D a p;obtain⟨G1,As1,a1⟩:=Sat.frzAt vs a;refine(zAM A).step (errS.from a1.ext) a1.ext.in' a1.frz p fun d v G2 H2 S _ fr o p1=>?_
 cases eb:zB8 (.tup is) d with
 |none=>rw[eb]at p1;exact p1.elim
 |some bs=>
  rw[eb]at p1;refine hT G2 H2 σ d v bs _ fr.ext.in' o eb fun ws hw=>?_
  obtain⟨As',a2⟩:=Sat.puts hw (a1.wider fr.ext);exact p1 _ G2 H2 As' a2
theorem zZL(i:Nat)(A:DE mg E te e n)(hn:n<1000:=by decide):DS mg E L (zQ4 (tML appM (vM i) (zL4 te tNil))) (Mi.sApp i n e):=by
 intro G0 H0 S0 σ ρ G H As D a p;obtain⟨J,x,s,w⟩:=a.full;unfold Mi.sApp at p;cases e1:ρ[i]? with
 |none=>rw[e1]at p;exact p.elim
 |some o=>
  rw[e1]at p
  match o,e1,p with
  |none,_,p=>exact p.elim
  |some (.lst ds,k+1),e1,p=>
   obtain⟨v,h1,q,xs,T,rfl,hq,kd⟩:=a.at i _ _ e1;unfold zQ4 tML vM;rw[h1];refine⟨xs,hq,?_⟩;refine A.step (errS.from x) x.in' w p fun d y G1 H1 S _ fr o p1=>?_
   split at p1
   ·rename_i hz
    obtain⟨q1,q2⟩:=whole (k:=k) a s fr o hn hz.2.1 hz.2.2;refine⟨xs,fr.ext.h _ _ hq,by rw[kd.len];exact L2.big (by omega),?_⟩;have hp:=kd.top;have a1:=a.grow fr.ext.h;have nS:¬S q:=fun z=>(a.new i q hp).2.2 (q2 q z).1
    have ap:∀r b,T r b->S b->False:=fun r b h1 h2=>(a.new i b (kd.sub r b h1)).2.2 (q2 b h2).1
    refine p1 σ G _ _ (a1.store (S:=fun b=>As i b\/S b) hp h1 ⟨q,_,fun r b=>(r<ds.length/\T r b)\/(r=ds.length/\S b),rfl,zBB,⟨by simp[kd.len],fun r d' z g1 g2=>?_,.inl hp,fun r z=>?_,fun r r' b z1 z2=>?_,fun r b z=>?_⟩⟩ fun b z=>?_)
    ·by_cases hr:r<ds.length
     ·rw[qAf hr]at g1;rw[qAf (by rw[kd.len];exact hr)]at g2;exact(((kd.own r d' z g1 g2).mono (Same.refl _) fr.ext.h).upd (kd.out r)).sub fun b z=>.inl ⟨hr,z⟩
     ·rw[qAg (by omega)]at g1;rw[qAg (by rw[kd.len];omega),kd.len]at g2;have hq0:r-ds.length=0:=by
       have:=(qA3.mp g1).1
       simp at this;omega
      rw[hq0]at g1 g2;simp at g1 g2;subst g1;subst g2;exact(q1.upd nS).sub fun b z=>.inr ⟨by omega,z⟩
    ·rcases z with⟨_,z⟩|⟨_,z⟩
     ·exact kd.out r z
     ·exact nS z
    ·rcases z1 with⟨c1,t1⟩|⟨c1,t1⟩<;>rcases z2 with⟨c2,t2⟩|⟨c2,t2⟩
     ·exact kd.dis r r' b t1 t2
     ·exact(ap r b t1 t2).elim
     ·exact(ap r' b t2 t1).elim
     ·omega
    ·rcases z with⟨_,z⟩|⟨_,z⟩
     ·exact .inl (kd.sub r b z)
     ·exact .inr z
    ·rcases z with z|z
     ·exact .inl z
     ·obtain⟨n1,n2,n3⟩:=q2 b z;exact .inr ⟨a.ext.h.free n1,n2,n3,fun j y=>(a.new j b y).2.2 n1⟩
   ·exact p1.elim
  |some (.lst ds,0),_,p=>exact p.elim
  |some (.non,_),_,p=>exact p.elim
  |some (.bl _,_),_,p=>exact p.elim
  |some (.int _,_),_,p=>exact p.elim
  |some (.str _,_),_,p=>exact p.elim
  |some (.tup _,_),_,p=>exact p.elim
  |some (.scr _,_),_,p=>exact p.elim
  |some (.exc _ _ _,_),_,p=>exact p.elim
  |some (.ins _ _,_),_,p=>exact p.elim
  |some (.dct _,_),_,p=>exact p.elim
end
end L3
namespace L3
open PySem PySem.Spec
open L2 hiding Rep RepL
open Mi (Dt Xn R okR zA9 optR zA2 zAE zAK zAH zAJ Rh Sl Ro EM TM AM FM IM SM Tg Out zB8 zB6 zBI full frz frz1 frzAt)
section
variable[Kc]{mg:Str->Option Value}{E:XK}{L n k l:Nat}{te ta tb:TE}{e ea eb:EM}{t u:TS}{m m':SM}
theorem Kids.set{G H:Hp}{S:Addr->Prop}{a p:Addr}{ds:List Dt}{xs:List V}{T:Nat->Addr->Prop}{S':Addr->Prop}{d:Dt}{v:V}{o:HO}(k:Kids (Own G H n) S a ds xs T)(q:Nat)(w:Own G (upd H p o) n S' d v)(hp:∀r,r≠q->¬T r p)(ha:¬S' a)
  (hd:∀r b,r≠q->T r b->S' b->False):Kids (Own G (upd H p o) n) (fun b=>S b\/S' b) a (ds.set q d) (xs.set q v) (fun r b=>if r=q then S' b else T r b):=by
 refine⟨by simp[k.len],fun r d' x h1 h2=>?_,.inl k.top,fun r=>?_,fun r r' b z1 z2=>?_,fun r b z=>?_⟩
 ·by_cases z:q=r
  ·subst z;have h:q<ds.length:=by
    have:=(qA3.mp h1).1
    simpa using this
   rw[qAb h]at h1;rw[qAb (by rw[k.len];exact h)]at h2;cases h1;cases h2;exact w.sub fun b hb=>by rw[if_pos rfl];exact hb
  ·rw[qAj z]at h1 h2;exact((k.own r d' x h1 h2).upd (hp r fun y=>z y.symm)).sub fun b hb=>by rw[if_neg (fun y=>z y.symm)];exact hb
 ·try dsimp only
  split
  ·exact ha
  ·exact k.out _
 ·try dsimp only at z1 z2
  by_cases h1:r=q<;>by_cases h2:r'=q
  ·rw[h1,h2]
  ·rw[if_pos h1]at z1;rw[if_neg h2]at z2;exact(hd r' b h2 z2 z1).elim
  ·rw[if_neg h1]at z1;rw[if_pos h2]at z2;exact(hd r b h1 z1 z2).elim
  ·rw[if_neg h1]at z1;rw[if_neg h2]at z2;exact k.dis _ _ b z1 z2
 ·try dsimp only at z
  by_cases h1:r=q
  ·rw[if_pos h1]at z;exact .inr z
  ·rw[if_neg h1]at z;exact .inl (k.sub _ b z)
theorem zUY{G0 H0 S0:Hp}{D:Ends}{g:TG}{tg:Tg}{J:It}{ds:List Dt}{GJ:Hp}(hT:TgOk g tg)(B:DS mg E L t m)(io:ItOk J GJ ds){σ:St}{ρ:Ro}{G H:Hp}{As:Nat->Addr->Prop}(a:Sat G0 H0 S0 σ ρ G H As)(sJ:Same GJ G)
  (p:zGZ mg E G0 H0 S0 L (Mi.forGo tg m ds ρ) D):zQ3 g t D σ J H:=by
 refine⟨fun i c σ H=>c=ds.length-i/\i<=ds.length/\∃ρ G As,Sat G0 H0 S0 σ ρ G H As/\Same GJ G/\zGZ mg E G0 H0 S0 L (Mi.forGo tg m (ds.drop i) ρ) D,
  ⟨_,rfl,qAp _,ρ,G,As,a,sJ,by rw[qD7];exact p⟩,?_⟩
 rintro i c σ H ⟨rfl,hi,ρ,G,As,a,sJ,p⟩
 obtain⟨j1,j2,j3⟩:=io i G H sJ a.ext.in'
 by_cases hlt:i<ds.length
 ·refine .inr ⟨j1 hlt,fun σ' H'=>i+1<=ds.length/\∃ρ G As,Sat G0 H0 S0 σ' ρ G H' As/\Same GJ G/\zGZ mg E G0 H0 S0 L (Mi.forGo tg m (ds.drop (i+1)) ρ) D,fun σ' H' q=>⟨ds.length-(i+1),by omega,rfl,q⟩,fun x H2 hy=>?_⟩;have hd:ds[i]?=some ds[i]:=qA8 hlt;obtain⟨G2,x2,r2⟩:=j3 x H2 ds[i] hd hy;rw[qBt hlt,Mi.forGo]at p;cases eb:zB8 tg ds[i]with
  |none=>rw[eb]at p;exact p.elim
  |some bs=>
   rw[eb]at p
   try dsimp only at p
   refine hT G2 H2 _ _ x bs _ x2.in' r2 eb fun ws hb=>?_
   obtain⟨As2,a2⟩:=Sat.puts hb (a.wider x2);have a3:Sat G0 H0 GJ (zHW σ ws) (zBI ρ bs) G2 H2 As2:=⟨a2.ext,sJ.trans x2.g,a2.len,a2.at,a2.dis,a2.new⟩
   have key:∀(S1:Hp),Same S0 S1->Same GJ S1->Sat G0 H0 S1 (zHW σ ws) (zBI ρ bs) G2 H2 As2->t { D with nx:=fun σ' H'=>i+1<=ds.length/\∃ρ G As,Sat G0 H0 S0 σ' ρ G H' As/\Same GJ G/\zGZ mg E G0 H0 S0 L (Mi.forGo tg m (ds.drop (i+1)) ρ) D,ct:=fun σ' H'=>i+1<=ds.length/\∃ρ G As,Sat G0 H0 S0 σ' ρ G H' As/\Same GJ G/\zGZ mg E G0 H0 S0 L (Mi.forGo tg m (ds.drop (i+1)) ρ) D,bk:=D.nx } (zHW σ ws) H2:=by
    intro S1 s1 s2 a4;refine B G0 H0 S1 _ _ G2 H2 As2 _ a4 ?_;have back:∀{σ':St}{ρ':Ro}{G' H':Hp}{As':Nat->Addr->Prop},Sat G0 H0 S1 σ' ρ' G' H' As'->Sat G0 H0 S0 σ' ρ' G' H' As'/\Same GJ G':=fun a5=>⟨⟨a5.ext,s1.trans a5.stb,a5.len,a5.at,a5.dis,a5.new⟩,s2.trans a5.stb⟩
    cases em:m (zBI ρ bs)with
    |none=>rw[em]at p;exact p
    |some r=>
     rw[em]at p;cases r with
     |error y=>exact p
     |ok o=>
      cases o with
      |nx ρ'=>exact fun σ' G' H' As' a5=>⟨hlt,ρ',G',As',(back a5).1,(back a5).2,p⟩
      |ct ρ'=>exact fun σ' G' H' As' a5=>⟨hlt,ρ',G',As',(back a5).1,(back a5).2,p⟩
      |bk ρ'=>exact fun σ' G' H' As' a5=>p σ' G' H' As' (back a5).1
      |rt d=>exact p
   exact key G2 a2.stb (sJ.trans x2.g) ⟨a2.ext,Same.refl _,a2.len,a2.at,a2.dis,a2.new⟩
 ·have e:i=ds.length:=by omega
  subst e;rw[qEb,Mi.forGo]at p;exact .inl ⟨j2 (qA7 _),p σ G H As a⟩
theorem zM0{wi:TI}{it:IM}{g:TG}{tg:Tg}(vs:List Nat){ind:Bool}(I:DI mg E wi it ind)(hT:TgOk g tg)(B:DS mg E L t m):DS mg E L (fun D σ H=>wi σ H (zQ3 g t D σ)) (Mi.sFor vs it tg m):=by
 intro G0 H0 S0 σ ρ G H As D a p;obtain⟨G1,As1,a1⟩:=Sat.frzAt vs a;refine I.step (errS.from a1.ext) a1.ext.in' a1.frz p fun ds J G2 H2 _ x2 io p1=>?_
 refine zUY hT B io (a1.wider x2) ?_ p1;unfold zSC
 split
 ·exact fun b o e=>by cases e
 ·exact Same.refl _
theorem zIK{wi:TI}{it:IM}{i:Nat}(I:DI mg E wi it true)(B:DS mg E L t m):DS mg E L (fun D σ H=>wi σ H (zQ3 (zGN i) t D σ)) (Mi.sForR it i m):=by
 intro G0 H0 S0 σ ρ G H As D a p;obtain⟨J,x,s,w⟩:=a.full;refine I.step (errS.from x) x.in' w p fun ds J G2 H2 _ x2 io p1=>?_
 exact zUY (zAN i) B io (a.grow x2.h) (fun b o e=>by cases e) p1
theorem zZZ{G0 H0 S0:Hp}{D:Ends}{tc:TT}{c:TM}(C:DT mg E tc c)(B:DS mg E L t m)(N:Nat){σ:St}{ρ:Ro}{G H:Hp}{As:Nat->Addr->Prop}(a:Sat G0 H0 S0 σ ρ G H As)(p:zGZ mg E G0 H0 S0 L (Mi.whGo c m N ρ) D):zQ1 tc t D σ H:=by
 refine⟨fun i σ H=>∃ρ G As,Sat G0 H0 S0 σ ρ G H As/\zGZ mg E G0 H0 S0 L (Mi.whGo c m i ρ) D,⟨N,ρ,G,As,a,p⟩,?_⟩
 rintro i σ H ⟨ρ,G,As,a,p⟩
 cases i with
 |zero=>exact p.elim
 |succ i=>
  obtain⟨J,x,s,w⟩:=a.full;rw[Mi.whGo]at p;refine C.step (errS.from x) x.in' w p fun b H' _ sH p1=>?_
  cases b with
  |false=>exact p1 σ G H' As (a.grow sH)
  |true=>
   rw[if_pos rfl];refine⟨fun σ' H'=>∃ρ G As,Sat G0 H0 S0 σ' ρ G H' As/\zGZ mg E G0 H0 S0 L (Mi.whGo c m i ρ) D,fun σ' H' q=>⟨i,qBg i,q⟩,?_⟩;refine B G0 H0 S0 σ ρ G H' As _ (a.grow sH) ?_;rw[if_pos rfl]at p1;cases em:m ρ with
   |none=>rw[em]at p1;exact p1
   |some r=>
    rw[em]at p1;cases r with
    |error y=>exact p1
    |ok o=>
     cases o with
     |nx ρ'=>exact fun σ' G' H' As' a5=>⟨ρ',G',As',a5,p1⟩
     |ct ρ'=>exact fun σ' G' H' As' a5=>⟨ρ',G',As',a5,p1⟩
     |bk ρ'=>exact fun σ' G' H' As' a5=>p1 σ' G' H' As' a5
     |rt d=>exact p1
theorem zTR{tc:TT}{c:TM}(C:DT mg E tc c)(B:DS mg E L t m):DS mg E L (zQ1 tc t) (Mi.sWhile c m):=fun G0 H0 S0 σ ρ G H As D a p=>zZZ C B _ a p
theorem dz(A:DE mg E te e 0):DE mg E te e 0:=A
theorem zQ8{P N:Nat}{vs:List V}{H:Hp}{Q:VK}{E:XK}(h:spM mg L (Mi.runF P N m) vs H Q E):vs.length=P:=by
 obtain⟨G,ds,s,r,p⟩:=h;rw[r.length];unfold Mi.runF at p
 split at p
 ·rename_i h;exact h
 ·exact p.elim
theorem zBA{P:Nat}{N:List Str}{vs:List V}{H:Hp}{Q:VK}(B:DS mg E L t m)(h:spM mg L (Mi.runF P N.length m) vs H Q E):t { nx:=fun _ H'=>Q .non H',rt:=Q } (L2.start N vs) H:=by
 obtain⟨G,ds,s,r,p⟩:=h;unfold Mi.runF at p
 split at p
 ·refine B G H G _ (Mi.startO N.length ds) G H (fun _ _=>False) _ ⟨Ext.refl s,Same.refl _,?_,fun i d n e=>?_,fun _ _ _ z=>z.elim,fun _ _ z=>z.elim⟩ ?_
  ·unfold Mi.startO L2.start;simp[r.length]
  ·unfold Mi.startO at e
   by_cases hi:i<ds.length
   ·rw[qAf (by simpa using hi),qAk]at e;cases e1:ds[i]? with
    |none=>rw[e1]at e;cases e
    |some d'=>
     rw[e1]at e;cases e;have hv:vs[i]?=some (vs[i]'(by rw[r.length];exact hi)):=by simp
     refine⟨vs[i]'(by rw[r.length];exact hi),?_,zCU r e1 hv⟩;unfold L2.start;rw[qAf (by simpa[r.length]using hi),qAk,hv];rfl
   ·rw[qAg (by simpa using hi),qBa]at e
    split at e<;>cases e
  ·cases em:m (Mi.startO N.length ds)with
   |none=>rw[em]at p;exact p
   |some r=>
    rw[em]at p;cases r with
    |error y=>exact p
    |ok o=>
     cases o with
     |nx ρ'=>exact fun σ' G' H' As' a=>PostE.val (d:=.non) p a.ext rfl rfl
     |rt d=>exact p
     |bk ρ'=>exact p.elim
     |ct ρ'=>exact p.elim
 ·exact p.elim
end
end L3
namespace L3
open PySem PySem.Spec
open L2 hiding Rep RepL
open Mi (Dt FM okR)
def sp0(K:qA2)(mg:Str->Option Value)(L:Nat)(f:FM):Sp:=fun vs H Q _=>@spM ⟨K⟩ mg L f vs H Q E0
end L3
namespace L3
open PySem PySem.Spec
open L2 hiding Rep RepL
open Mi (Dt Xn R okR zA9 optR zA2 zAE zAK zAH zAJ Rh Sl Ro EM TM AM FM IM SM OM Tg Out zB8 zB6 zBI full frz frz1 frzAt)
section
variable[Kc]{mg:Str->Option Value}{E:XK}{L n k l:Nat}{te ta tb:TE}{e ea eb:EM}{t u:TS}{m m':SM}
theorem zVD:CBi (fun xs H Q=>(∃i,xs=[.int i]/\Q (.int i) H)\/∃k,xs=[.bl k]/\Q (.int (if k then 1 else 0)) H) Mi.intD n:=by
 intro mg E G H ds vs Q s h p;cases ds with
 |nil=>exact qA5 p
 |cons hd1 tl1=>
  cases hd1 with
  |int i=>
   cases tl1 with
   |nil=>
    obtain⟨x,rfl,hx⟩:=zEL h
    cases(show x=.int i from hx)
    exact .inl ⟨i,rfl,PostE.val p (Ext.refl s) rfl rfl⟩
   |cons _ _=>exact qA5 p
  |bl b=>
   cases tl1 with
   |nil=>
    obtain⟨x,rfl,hx⟩:=zEL h
    cases(show x=.bl b from hx)
    exact .inr ⟨b,rfl,PostE.val p (Ext.refl s) rfl rfl⟩
   |cons _ _=>exact qA5 p
  |_=>exact qA5 p
theorem zVA{f:List Dt->Option Dt}{g:Int->Int->Int}{r:List V->Hp->VK->Prop}(hr:∀i j H Q,Q (.int (g i j)) H->r [.int i,.int j] H Q)(hf:∀i j,f [.int i,.int j]=some (.int (g i j)))(hn:∀ds,(∀i j,ds≠[.int i,.int j])->f ds=none):CBi r f n:=by
 intro mg E G H ds vs Q s h p
 by_cases hd:∃i j,ds=[.int i,.int j]
 ·obtain⟨i,j,rfl⟩:=hd;obtain⟨x,y,rfl,hx,hy⟩:=zVW h
  cases(show x=.int i from hx)
  cases(show y=.int j from hy)
  rw[hf]at p;exact hr i j H Q (PostE.val p (Ext.refl s) rfl rfl)
 ·rw[hn ds fun i j e=>hd ⟨i,j,e⟩]at p;exact p.elim
theorem zNX{f:List Dt->Option Dt}(h1:f []=none)(h2:∀x,f [x]=none)(h3:∀x y z r,f (x::y::z::r)=none)(h4:∀x y,(∀i j,[x,y]≠[.int i,.int j])->f [x,y]=none):∀ds,(∀i j,ds≠[.int i,.int j])->f ds=none:=by
 intro ds h
 match ds,h with
 |[],_=>exact h1
 |[x],_=>exact h2 x
 |[x,y],h=>exact h4 x y h
 |x::y::z::r,_=>exact h3 x y z r
theorem zVC:CBi (fun xs H Q=>∃i j,xs=[.int i,.int j]/\Q (.int (if j>i then j else i)) H) Mi.maxD n:=
 zVA (g:=fun i j=>if j>i then j else i) (fun i j H Q q=>⟨i,j,rfl,q⟩) (fun _ _=>rfl) (zNX rfl (fun x=>by cases x<;>rfl) (fun x y z r=>by cases x<;>cases y<;>rfl) (fun x y h=>by cases x<;>cases y<;>first|rfl|exact absurd rfl (h _ _)))
theorem zVB:CBi (fun xs H Q=>∃i j,xs=[.int i,.int j]/\Q (.int (if j<i then j else i)) H) Mi.minD n:=
 zVA (g:=fun i j=>if j<i then j else i) (fun i j H Q q=>⟨i,j,rfl,q⟩) (fun _ _=>rfl) (zNX rfl (fun x=>by cases x<;>rfl) (fun x y z r=>by cases x<;>cases y<;>rfl) (fun x y h=>by cases x<;>cases y<;>first|rfl|exact absurd rfl (h _ _)))
theorem zZT:CBi (fun xs H Q=>∃i,xs=[.int i]/\Q (.int (if i<0 then -i else i)) H) Mi.absD n:=by
 intro mg E G H ds vs Q s h p;cases ds with
 |nil=>exact qA5 p
 |cons hd1 tl1=>
  cases hd1 with
  |int i=>
   cases tl1 with
   |nil=>
    obtain⟨x,rfl,hx⟩:=zEL h
    cases(show x=.int i from hx)
    exact⟨i,rfl,PostE.val p (Ext.refl s) rfl rfl⟩
   |cons _ _=>exact qA5 p
  |_=>exact qA5 p
theorem zNE{G:Hp}{d:Dt}{v:V}(h:Rep G d v)(hd:d.dep=0):zGP v=true:=(zF5 (by omega) h).flat (qFs.mp (qAu (zGD (by omega)) (qEd hd)))
theorem zRT{G:Hp}{d e:Dt}{v u:V}(h:Rep G d v)(h':Rep G e u)(hd:d.dep=0)(he:e.dep=0):eqV v u=Dt.eq d e:=by
 rw[<- zNH (by omega) (by omega)];exact(zF5 (by omega) h).flatEq (zF5 (by omega) h') (qFs.mp (qAu (zGD (by omega)) (qEd hd))) (qFs.mp (qAu (zGD (by omega)) (qEd he)))
theorem zWU{G:Hp}{d:Dt}{v:V}(h:Rep G d v)(hd:d.dep=0):∀{ds:List Dt}{vs:List V},RepL G ds vs->Dt.depL ds=0->vs.all zGP=true/\inV v vs=ds.any fun y=>Dt.eq y d
 |[],vs,r,_=>by cases(show vs=[] from r);exact⟨rfl,rfl⟩
 |e::ds,vs,r,hz=>by
  obtain⟨x,q,rfl,a,b⟩:=r;rw[Dt.depL]at hz;obtain⟨h1,h2⟩:=zWU h hd b (by omega);have he:e.dep=0:=by omega
  refine⟨by simp[zNE a he,h1],?_⟩;unfold inV at h2 ⊢;rw[qBp,qBp,h2,zRT a h he hd]
theorem zLF{ng:Bool}:ROp (rInU Kc.K ng) (Mi.inD ng) n:=by
 intro mg E G H d e x y Q s h1 h2 p;cases e with
 |lst ys=>
  obtain⟨a,vs,rfl,ha,r⟩:=h2;unfold Mi.inD Mi.hasD at p;dsimp only at p
  by_cases hz:d.dep=0/\Dt.depL ys=0
  ·rw[if_pos hz]at p;obtain⟨g1,g2⟩:=zWU h1 hz.1 r hz.2;refine⟨vs,.inl (SqL.of (s _ _ ha)),zNE h1 hz.1,g1,?_⟩;rw[g2];exact PostE.val p (Ext.refl s) rfl rfl
  ·rw[if_neg hz]at p;exact p.elim
 |tup ys=>
  obtain⟨a,vs,rfl,ha,r⟩:=h2;unfold Mi.inD Mi.hasD at p;dsimp only at p
  by_cases hz:d.dep=0/\Dt.depL ys=0
  ·rw[if_pos hz]at p;obtain⟨g1,g2⟩:=zWU h1 hz.1 r hz.2;refine⟨vs,.inr (SqT.of (s _ _ ha)),zNE h1 hz.1,g1,?_⟩;rw[g2];exact PostE.val p (Ext.refl s) rfl rfl
  ·rw[if_neg hz]at p;exact p.elim
 |str z=>
  cases(show y=.str z from h2)
  cases d with
  |str w=>
   cases(show x=.str w from h1)
   obtain⟨⟨wl⟩⟩:=w;cases wl with
   |nil=>exact qA5 p
   |cons c tl1=>
    cases tl1 with
    |nil=>
     have p':PostE mg E G H n (okR (.bl (if ng=true then !decide (c∈z.cps.toList)else decide (c∈z.cps.toList)))) Q:=p;have q:=PostE.val (v:=.bl (if ng=true then !decide (c∈z.cps.toList)else decide (c∈z.cps.toList))) p' (Ext.refl s) rfl rfl;rw[<- StrLaws.found_one z c]at q;exact q
    |cons _ _=>exact qA5 p
  |_=>exact p.elim
 |_=>exact p.elim
def DO(mg:Str->Option Value)(E:XK)(t:TO)(m:OM):Prop:=∀(G H:Hp)(σ:St)(ρ:Rh)(Q:Option Int->Hp->Prop),Same G H->View G σ ρ ->
 (match m ρ with
  |none=>False
  |some (.error x)=>∀c da G' H',Ext G H G' H'->XRep mg x c da G' H'->E c da H'
  |some (.ok o)=>∀H',Same H H'->Q o H')->t σ H Q
theorem DO.step{β:Type}{t:TO}{m:OM}(D:DO mg E t m){G H:Hp}{σ:St}{ρ:Rh}{Q:Option Int->Hp->Prop}{P:R β->Prop}{f:Option Int->R β}(hE:Err mg E G H P)(s:Same G H)(w:View G σ ρ)(p:P (zA9 (m ρ) f))
  (h:∀b H',m ρ=okR b->Same H H'->P (f b)->Q b H'):t σ H Q:=by
 refine D G H σ ρ Q s w ?_;cases e:m ρ with
 |none=>rw[e]at p;exact hE.no p
 |some r=>
  rw[e]at p;cases r with
  |error x=>exact hE.er x p
  |ok b=>exact fun H' sH=>h b H' e sH p
theorem zF9:DO mg E zQ2 Mi.oNo:=fun G H σ ρ Q s w p=>p H (Same.refl _)
theorem do_e(A:DE mg E te e k):DO mg E (zXQ te) (Mi.oE e):=by
 intro G H σ ρ Q s w p;unfold Mi.oE at p;refine(zAM A).step (P:=fun r=>match r with
  |none=>False
  |some (.error x)=>∀c da G' H',Ext G H G' H'->XRep mg x c da G' H'->E c da H'
  |some (.ok o)=>∀H',Same H H'->Q o H') ⟨fun h=>h,fun _ h=>h⟩ s w p fun d v G1 H1 S _ fr o p1=>?_
 cases d with
 |int i=>exact⟨i,o,p1 H1 fr.ext.h⟩
 |_=>exact p1.elim
theorem zOP(n d:Nat)(o:Option Int):Mi.cutIx n d o=HT.sIx n d o:=by cases o<;>rfl
theorem zLI{G:Hp}:∀{ds:List Dt}{xs:List V}(i:Nat),RepL G ds xs->RepL G (ds.drop i) (xs.drop i)
 |ds,xs,0,r=>by simpa using r
 |[],xs,i+1,r=>by cases(show xs=[] from r);exact rfl
 |d::ds,xs,i+1,r=>by
  obtain⟨x,q,rfl,a,b⟩:=r;exact zLI i b
theorem zLG{G:Hp}:∀{ds:List Dt}{xs:List V}(i:Nat),RepL G ds xs->RepL G (ds.take i) (xs.take i)
 |ds,xs,0,r=>by simp;exact rfl
 |[],xs,i+1,r=>by cases(show xs=[] from r);exact rfl
 |d::ds,xs,i+1,r=>by
  obtain⟨x,q,rfl,a,b⟩:=r;exact⟨x,_,rfl,a,zLG i b⟩
theorem zT1{G:Hp}{ds:List Dt}{xs:List V}(r:RepL G ds xs)(lo hi:Option Int):RepL G (Mi.cutA ds lo hi) (cutV xs lo hi):=by
 unfold Mi.cutA cutV;rw[zOP,zOP,r.length];exact zLG _ (zLI _ r)
def RSl(r:V->Option Int->Option Int->Hp->VK->Prop)(n:Nat):Prop:=∀(mg:Str->Option Value)(E:XK)(G H:Hp)(d:Dt)(x:V)(lo hi:Option Int)(Q:VK),Same G H->Rep G d x->PostE mg E G H n (optR (Mi.slD d lo hi)) Q->r x lo hi H Q
theorem zZQ{r:V->Option Int->Option Int->Hp->VK->Prop}{tl th:TO}{ml mh:OM}(hr:RSl r n)(A:DE mg E te e k)(B:DO mg E tl ml)(C:DO mg E th mh):DE mg E (tSl r te tl th) (Mi.eSl e ml mh) n:=by
 intro G H σ ρ Q s w p;refine(zAM A).step errE s w p fun d v G1 H1 S _ fr o p1=>?_
 refine B.step (errE.from fr.ext) fr.ext.in' (w.mono fr.ext.g) p1 fun lo H2 _ s2 p2=>?_
 have x2:=fr.ext.trans (Ext.same fr.ext.in' s2);refine C.step (errE.from x2) x2.in' (w.mono fr.ext.g) p2 fun hi H3 _ s3 p3=>?_
 have x3:=x2.trans (Ext.same x2.in' s3);exact hr mg E G1 H3 d v lo hi Q x3.in' o (PostE.from p3 x3)
theorem zHL(i:Nat){n0 n1:Nat}{t0 t1 t2:TE}{e0 e1 e2:EM}(Z:DE mg E t0 e0 n0)(A:DE mg E t1 e1 n1)(B:DE mg E t2 e2 n)(hn:n<1000:=by decide):DS mg E L (tAsg t2 (gSub (tOp (rIxU Kc.K) (vM i) t0) t1 setM)) (Mi.sItem2 i n e0 e1 e2):=by
 intro G0 H0 S0 σ ρ G H As D a p;obtain⟨J,x,s,w⟩:=a.full;refine B.step (errS.from x) x.in' w p fun d y G1 H1 S _ fr o p1=>?_
 cases er:ρ[i]? with
 |none=>rw[er]at p1;exact p1.elim
 |some sl=>
  rw[er]at p1
  match sl,er,p1 with
  |none,_,p=>exact p.elim
  |some (.lst rs,k+2),er,p1=>
   obtain⟨v,h1,q,xs,T,rfl,hq,kd⟩:=a.at i _ _ er;unfold gSub tOp vM;rw[h1];have x1:Ext J H J H1:=Ext.same x.in' fr.ext.h;refine(zAM Z).step (errS.from (x.trans x1)) x1.in' w p1 fun z0 u0 G2 H2 S2 _ fr2 o2 p2=>?_
   cases z0 with
   |int y0=>
    cases(show u0=.int y0 from o2)
    dsimp only at p2;cases ei:Mi.ixA rs.length y0 with
    |none=>rw[ei]at p2;exact p2.elim
    |some c=>
     rw[ei]at p2;dsimp only at p2;cases erow:rs[c]? with
     |none=>rw[erow]at p2;exact p2.elim
     |some row=>
      rw[erow]at p2;cases row with
      |lst ds=>
       have hc:c<xs.length:=by rw[kd.len];exact(qA3.mp erow).1
       have hxc:xs[c]?=some xs[c]:=qA8 hc;obtain⟨qr,ys,U,er2,hqr,kr⟩:=kd.own c _ _ erow hxc;have sH2:=fr.ext.h.trans fr2.ext.h;refine⟨xs,xs[c],.inl (SqL.of (sH2 _ _ hq)),?_,?_⟩
       ·unfold atI;rw[kd.len,<- zLS,ei];exact hxc
       have x2:Ext J H J H2:=Ext.same x.in' sH2;refine(zAM A).step (errS.from (x.trans x2)) x2.in' w p2 fun z u G3 H3 S3 _ fr3 o3 p3=>?_
       cases z with
       |int z=>
        cases(show u=.int z from o3)
        dsimp only at p3;cases ez:Mi.ixA ds.length z with
        |none=>rw[ez]at p3;exact p3.elim
        |some c2=>
         rw[ez]at p3;dsimp only at p3
         split at p3
         ·rename_i hz
          rw[zLS]at ez;obtain⟨q1,q2⟩:=whole (k:=k) a s fr o hn hz.1 hz.2;have sH:=sH2.trans fr3.ext.h;rw[er2];refine⟨ys,c2,sH _ _ hqr,by rw[kr.len];exact ez,?_⟩;have a1:=a.grow sH;have tqr:T c qr:=kr.top;have iqr:As i qr:=kd.sub c qr tqr;have nS:¬S qr:=fun z=>(a.new i qr iqr).2.2 (q2 qr z).1
          have qne:q≠qr:=fun z=>kd.out c (z▸tqr)
          have fresh:∀b,As i b->S b->False:=fun b z1 z2=>(a.new i b z1).2.2 (q2 b z2).1
          have kr1:Kids (Own G H3 k) (T c) qr ds ys U:=kr.imp (fun _ _ _ _ w=>w.mono (Same.refl _) sH) fun _ z=>z
          have rowK:=kr1.set (p:=qr) (o:=.lst (ys.set c2 y)) c2 ((q1.mono (Same.refl _) (fr2.ext.h.trans fr3.ext.h)).upd nS) (fun r _=>kr.out r) nS (fun r b _ z1 z2=>fresh b (kd.sub c b (kr.sub r b z1)) z2);refine p3 σ G _ _ (a1.store (S:=fun b=>As i b\/S b) (d:=.lst (rs.set c (.lst (ds.set c2 d)))) (n:=k+2) (v:=.ref q) iqr h1 ⟨q,xs,fun r b=>if r=c then T c b\/S b else T r b,rfl,(zB0 qne).trans (sH _ _ hq),⟨by simp[kd.len],fun r d' xr g1 g2=>?_,.inl kd.top,fun r=>?_,fun r r' b z1 z2=>?_,fun r b z=>?_⟩⟩ fun b z=>?_)
          ·by_cases hr:c=r
           ·subst hr;rw[qAb (by rw[<- kd.len];exact hc)]at g1;cases g1;rw[hxc]at g2;cases g2;refine⟨qr,_,_,er2,zBB,rowK.imp (fun _ _ _ _ w=>w) fun b z=>?_⟩;rw[if_pos rfl];exact z
           ·rw[qAj hr]at g1;have nr:¬T r qr:=fun z=>hr (kd.dis c r qr tqr z)
            exact(((kd.own r d' xr g1 g2).mono (Same.refl _) sH).upd nr).sub fun b z=>by rw[if_neg (fun z=>hr z.symm)];exact z
          ·try dsimp only
           split
           ·exact fun z=>z.elim (kd.out c) fun z=>fresh q kd.top z
           ·exact kd.out r
          ·try dsimp only at z1 z2
           by_cases g1:r=c<;>by_cases g2:r'=c
           ·rw[g1,g2]
           ·rw[if_pos g1]at z1;rw[if_neg g2]at z2
            rcases z1 with z1|z1
            ·rw[g1];exact kd.dis c r' b z1 z2
            ·exact(fresh b (kd.sub r' b z2) z1).elim
           ·rw[if_neg g1]at z1;rw[if_pos g2]at z2
            rcases z2 with z2|z2
            ·rw[g2];exact kd.dis r c b z1 z2
            ·exact(fresh b (kd.sub r b z1) z2).elim
           ·rw[if_neg g1]at z1;rw[if_neg g2]at z2;exact kd.dis r r' b z1 z2
          ·try dsimp only at z
           by_cases g1:r=c
           ·rw[if_pos g1]at z
            rcases z with z|z
            ·exact .inl (kd.sub c b z)
            ·exact .inr z
           ·rw[if_neg g1]at z;exact .inl (kd.sub r b z)
          ·rcases z with z|z
           ·exact .inl z
           ·obtain⟨n1,n2,n3⟩:=q2 b z;exact .inr ⟨a.ext.h.free n1,n2,(fr2.ext.h.trans fr3.ext.h).some n3,fun j y=>(a.new j b y).2.2 n1⟩
         ·exact p3.elim
       |_=>exact p3.elim
      |_=>exact p2.elim
   |_=>exact p2.elim
  |some (.lst ds,0),_,p=>exact p.elim
  |some (.lst ds,1),_,p=>exact p.elim
  |some (.non,_),_,p=>exact p.elim
  |some (.bl _,_),_,p=>exact p.elim
  |some (.int _,_),_,p=>exact p.elim
  |some (.str _,_),_,p=>exact p.elim
  |some (.tup _,_),_,p=>exact p.elim
  |some (.scr _,_),_,p=>exact p.elim
  |some (.exc _ _ _,_),_,p=>exact p.elim
  |some (.ins _ _,_),_,p=>exact p.elim
  |some (.dct _,_),_,p=>exact p.elim
end
end L3
namespace L3
open PySem PySem.Spec
open L2 hiding Rep RepL
open Mi (Dt Xn R okR zA9 optR zA2 zAE zAK zAH zAJ Rh Sl Ro EM TM AM FM IM SM OM Tg Out zB8 zB6 zBI full frz frz1 frzAt)
section
variable[Kc]{mg:Str->Option Value}{E:XK}{L n k l:Nat}{te ta tb:TE}{e ea eb ma:EM}{t:TA}{m:AM}
theorem rs_u:RSl (rSlU Kc.K) 1:=by
 intro mg E G H d x lo hi Q s h p;cases d with
 |lst ds=>
  obtain⟨a,xs,rfl,ha,r⟩:=h;exact⟨xs,SqL.of (s _ _ ha),fun q hq=>PostE.lst p (Ext.refl s) (zT1 r lo hi) hq⟩
 |str z=>
  cases(show x=.str z from h)
  rw[Mi.slD]at p
  by_cases hz:z.length<=100000
  ·rw[if_pos hz]at p;exact⟨big' hz,PostE.val p (Ext.refl s) rfl rfl⟩
  ·rw[if_neg hz]at p;exact p.elim
 |_=>exact p.elim
theorem zFA{tl th:TO}{ml mh:OM}(A:DE mg E te e k)(B:DO mg E tl ml)(C:DO mg E th mh):DE mg E (tSl (rSlU Kc.K) te tl th) (Mi.eSl e ml mh) 1:=zZQ rs_u A B C
theorem zZD{G:Hp}(z:Str):ItOk (Its z) G (Mi.signsD z):=by
 intro i G1 H1 s1 s2;have hl:(Mi.signsD z).length=z.cps.size:=by simp[Mi.signsD]
 refine⟨fun hi=>by rw[hl]at hi;exact hi,fun hi=>by rw[hl]at hi;exact hi,fun x H2 d hd hy=>?_⟩;obtain⟨rfl,c,hc,rfl⟩:=hy;refine⟨G1,Ext.refl s2,?_⟩;unfold Mi.signsD at hd;rw[qAk]at hd;have hc':z.cps.toList[i]?=some c:=by simpa using hc
 rw[hc']at hd;cases hd;rfl
theorem zCA(A:DE mg E ta ma k):DI mg E (iAny Kc.K ta) (Mi.iSq ma) false:=by
 intro G H σ ρ Q s w p;refine(zAM A).step errI s w p fun d v G1 H1 S _ fr o p1=>?_
 cases d with
 |lst ds=>
  obtain⟨a,xs,rfl,ha,r⟩:=o;exact .inl ⟨⟨xs,SqL.of (fr.ext.in' _ _ ha)⟩,p1 _ G1 H1 fr.ext (zUU (SqL.of ha) r)⟩
 |tup ds=>
  obtain⟨a,xs,rfl,ha,r⟩:=o;exact .inr ⟨⟨xs,SqT.of (fr.ext.in' _ _ ha)⟩,p1 _ G1 H1 fr.ext (zUS (SqT.of ha) r)⟩
 |scr ns=>
  obtain⟨a,rfl,ha⟩:=o
  rcases ha with ha|ha
  ·exact .inl ⟨⟨_,fr.ext.in'.seq ha⟩,p1 _ G1 H1 fr.ext (zUU ha (zD7 ns))⟩
  ·exact .inr ⟨⟨_,zHX fr.ext.in' ha⟩,p1 _ G1 H1 fr.ext (zUS ha (zD7 ns))⟩
 |str z=>
  cases(show v=.str z from o)
  exact p1 _ G1 H1 fr.ext (zZD z)
 |_=>exact p1.elim
theorem zNU:∀(xs ys:List Dt),(Mi.zipD xs ys).length=min xs.length ys.length
 |[],ys=>by simp[Mi.zipD]
 |_::_,[]=>by simp[Mi.zipD]
 |x::r,y::q=>by rw[Mi.zipD,qAw,zNU r q,qAw,qAw];omega
theorem zNV:∀(xs ys:List Dt)(i:Nat)(d:Dt),(Mi.zipD xs ys)[i]?=some d->∃x y,xs[i]?=some x/\ys[i]?=some y/\d=.tup [x,y]
 |[],ys,_,_,h=>by simp[Mi.zipD]at h
 |_::_,[],_,_,h=>by simp[Mi.zipD]at h
 |x::r,y::q,0,d,h=>by simp[Mi.zipD]at h;exact⟨x,y,by simp,by simp,h.symm⟩
 |x::r,y::q,i+1,d,h=>by
  rw[Mi.zipD]at h;obtain⟨a,b,h1,h2,h3⟩:=zNV r q i d (by simpa using h);exact⟨a,b,by simpa using h1,by simpa using h2,h3⟩
theorem zZC{K:qA2}{G:Hp}{a b:Addr}{xs ys:List V}{ds es:List Dt}(ha:G a=some (.lst xs))(r:RepL G ds xs)(hb:G b=some (.lst ys))(r':RepL G es ys):ItOk (Itz K a b) G (Mi.zipD ds es):=by
 intro i G1 H1 s1 s2;have hS:SqL K H1 a xs:=SqL.of (s2 _ _ (s1 _ _ ha));have hS':SqL K H1 b ys:=SqL.of (s2 _ _ (s1 _ _ hb));have l1:=r.length;have l2:=r'.length;rw[zNU];refine⟨fun hi=>⟨xs,ys,xs[i]'(by omega),ys[i]'(by omega),hS,hS',by simp,by simp⟩,fun hi=>⟨xs,ys,hS,hS',by omega⟩,fun x H2 d hd hy=>?_⟩;obtain⟨T,u,v,rfl,hT,rfl,h1,h2⟩:=hy;obtain⟨p,q,g1,g2,rfl⟩:=zNV ds es i d hd;have x1:=Ext.new s2 hT (.tup [u,v]);exact⟨_,x1,T,_,rfl,zBB,_,_,rfl,Rep.mono (s1.trans x1.g) (zCU r g1 (h1 xs hS)),_,_,rfl,Rep.mono (s1.trans x1.g) (zCU r' g2 (h2 ys hS')),rfl⟩
theorem zV5(A:DA mg E t m 0):DI mg E (iZip Kc.K t) (Mi.iZi m) false:=by
 intro G H σ ρ Q s w p;refine A.step errI s w p fun ds vs G1 H1 S T _ fr o p1=>?_
 have r:=o.repL;cases ds with
 |nil=>exact p1.elim
 |cons a0 r0=>
  cases a0 with
  |lst xs=>
   cases r0 with
   |nil=>exact p1.elim
   |cons b0 r1=>
    cases r1 with
    |cons _ _=>cases b0<;>exact p1.elim
    |nil=>
     cases b0 with
     |lst ys=>
      obtain⟨x,y,rfl,⟨a,us,rfl,ha,ra⟩,⟨b,ws,rfl,hb,rb⟩⟩:=zVW r;exact⟨⟨us,SqL.of (fr.ext.in' _ _ ha)⟩,⟨ws,SqL.of (fr.ext.in' _ _ hb)⟩,p1 _ G1 H1 fr.ext (zZC ha ra hb rb)⟩
     |_=>exact p1.elim
  |_=>rcases r0 with _|⟨_,_|_⟩<;>exact p1.elim
end
end L3
namespace Mi
open PySem
noncomputable section
def noE{α:Type}(r:R α):R α:=match r with
 |some (.ok a)=>okR a
 |_=>none
def zZK(f:FM)(am:AM):EM:=fun ρ=>zA9 (am ρ) fun ds=>noE (f ds)
def eMkX(c f:Str)(am:AM):EM:=fun ρ=>zA9 (am ρ) fun ds=>match ds with
 |[d]=>okR (.exc c f d)
 |_=>none
def zXX(c f:Str)(am:AM):SM:=fun r=>zA9 (am (full r)) fun ds=>match ds with
 |[d]=>some (.error ⟨c,f,d⟩)
 |_=>none
def eAtX(hs:List Str)(f:Str)(a:EM):EM:=fun ρ=>zA9 (a ρ) fun d=>match d with
 |.exc c g x=>if c∈hs/\g=f then okR x else none
 |_=>none
def eIsX(ys ns:List Str)(a:EM):EM:=fun ρ=>zA9 (a ρ) fun d=>match d with
 |.exc c _ _=>if c∈ys then okR (.bl true)else if c∈ns then okR (.bl false)else none
 |_=>none
noncomputable def zZH(i:Nat):Out->Out
 |.nx r=>.nx (r.set i none)
 |.rt d=>.rt d
 |.bk r=>.bk (r.set i none)
 |.ct r=>.ct (r.set i none)
end
end Mi
namespace L3
open PySem PySem.Spec
open L2 hiding Rep RepL
open Mi (Dt Xn R okR zA9 optR zA2 zAE zAK zAH zAJ Rh Sl Ro EM TM AM FM IM SM OM Tg Out zB8 zB6 zBI full frz frz1 frzAt)
section
variable[Kc]{mg:Str->Option Value}{E:XK}{L n k l:Nat}{te ta tb:TE}{e ea eb ma:EM}{t:TA}{m:AM}
def zXT(K:qA2)(f:Str):Sp:=fun vs H Q _=>∃e C y,vs=[.ref e,y]/\H e=some (xn e (.ref C) none)/\PySem.W.xcIn K C=true/\XSet K C f/\∀d,H d=none->d≠e->Q .non (upd (upd H d (.xd [(f,y)])) e (xn e (.ref C) (some d)))
end
end L3
namespace L3
open PySem PySem.Spec
open L2 hiding Rep RepL
open Mi (Dt Xn R okR zA9 optR zA2 zAE zAK zAH zAJ Rh Sl Ro EM TM AM FM IM SM OM Tg Out zB8 zB6 zBI full frz frz1 frzAt)
section
variable{K:qA2}{C D:Addr}{dd:Option Addr}{cd:ClassData}{sl:Array (Option Value)}{b:Bool}
end
structure XCls(K:qA2)(mg:Str->Option Value)(c:Str)(C:Addr):Prop where
 cl:clK K c=some C
 gm:mg c=some (.ref C)
 is:Xc.XIs K C
structure XIni(P:Program)(w:World)(K:qA2)(mg:Str->Option Value)(base:Heap)(c f:Str)(C:Addr):Prop extends XCls K mg c C where
 kp:qB7 K (.ref C)=true
 st:XSet K C f
 fa:qB3 K (.ref C) f=some none
 ini:∃fI fd ps,qB3 K (.ref C) "__init__" = some (some (.ref fI))/\qF6 K (.ref fI)=true/\FnOk P w K mg base (CXe P w) 1 fI fd ps (zXT K f)/\Binds K fd ps []
section
variable[Kc]{mg:Str->Option Value}{E:XK}{L n k l:Nat}{te ta tb:TE}{e ea eb ma:EM}{t:TA}{m:AM}
end
noncomputable def zL9(K:qA2):Sp:=fun vs H Q _=>∃(a:Addr)(ns:List Int),vs=[.ref a]/\SqL K H a (ns.map V.int)/\ns.length<=63/\(∀i∈ns,i.natAbs.log2<2 ^ 20)/\∀H',Q (.bl true) H'
theorem zTG{K:qA2}{mg:Str->Option Value}{L:Nat}{f:FM}(hf:∀ns:List Int,ns.length<=63->(∀i∈ns,i.natAbs.log2<2 ^ 20)->f [.scr ns]=okR (.bl true)):∀vs H Q E,zL9 K vs H Q E->sp0 K mg L f vs H Q E:=by
 letI:Kc:=⟨K⟩
 rintro vs H Q E ⟨a,ns,rfl,hS,hl,hw,q⟩
 refine⟨H,[.scr ns],Same.refl _,⟨_,_,rfl,⟨a,rfl,.inl hS⟩,rfl⟩,?_⟩;rw[hf ns hl hw];intro v G' H' S fr o
 cases(show v=.bl true by cases L<;>exact o)
 exact q H'
end L3
namespace Mi
open PySem
section
variable(ρ:Rh)(r:Ro)(a b c:EM)(s t:SM)(q q':TM)(am:AM)
@[simp] theorem x_eC(d:Dt):eC d ρ=okR d:=rfl
@[simp] theorem x_eV(i:Nat):eV i ρ=match ρ[i]? with|some (some d)=>okR d|_=>none:=rfl
@[simp] theorem x_eB(f:Dt->Dt->Option Dt):eB f a b ρ=zA9 (a ρ) fun x=>zA9 (b ρ) fun y=>optR (f x y):=rfl
@[simp] theorem x_eU(f:Dt->Option Dt):eU f a ρ=zA9 (a ρ) fun x=>optR (f x):=rfl
@[simp] theorem zHQ:aNil ρ=okR []:=rfl
@[simp] theorem zEI:aCons a am ρ=zA9 (a ρ) fun x=>zA9 (am ρ) fun xs=>okR (x::xs):=rfl
@[simp] theorem zJQ(f:FM):eCall f am ρ=zA9 (am ρ) f:=rfl
@[simp] theorem zVH(f:List Dt->Option Dt):eBi f am ρ=zA9 (am ρ) fun xs=>optR (f xs):=rfl
@[simp] theorem zXI:eLst am ρ=zA9 (am ρ) fun xs=>@ite _ (xs.length<=100000) (qA4 _) (okR (.lst xs)) none:=rfl
@[simp] theorem x_eTup:eTup am ρ=zA9 (am ρ) fun xs=>@ite _ (xs.length<=100000) (qA4 _) (okR (.tup xs)) none:=rfl
@[simp] theorem x_eIsi(n:String):eIsi n a ρ=zA9 (a ρ) fun x=>optR (isiD n x):=rfl
@[simp] theorem x_eAnd:eAnd a b ρ=zA9 (a ρ) fun x=>match x with | .bl k=>if k=true then b ρ else okR (.bl false)|_=>none:=rfl
@[simp] theorem x_eOr:eOr a b ρ=zA9 (a ρ) fun x=>match x with | .bl k=>if k=true then okR (.bl true)else b ρ|_=>none:=rfl
@[simp] theorem x_eNot:eNot a ρ=zA9 (a ρ) fun x=>match x with | .bl k=>okR (.bl (!k))|_=>none:=rfl
@[simp] theorem x_eChain(f g:Dt->Dt->Option Dt):zZJ f g a b c ρ=zA9 (a ρ) fun x=>zA9 (b ρ) fun y=>zA9 (optR (f x y)) fun z=>match z with | .bl k=>if k=true then zA9 (c ρ) fun w=>optR (g y w)else okR (.bl false)|_=>none:=rfl
@[simp] theorem x_eIf:eIf q a b ρ=zA9 (q ρ) fun k=>if k=true then a ρ else b ρ:=rfl
@[simp] theorem x_tB:tB a ρ=zA9 (a ρ) fun x=>match x with | .bl k=>okR k|_=>none:=rfl
@[simp] theorem x_tM:tM a ρ=zA9 (a ρ) fun x=>match x with | .bl k=>okR k | .int i=>okR (i != 0) | .non=>okR false|_=>none:=rfl
@[simp] theorem zXE:tAn q q' ρ=zA9 (q ρ) fun k=>if k=true then q' ρ else okR false:=rfl
@[simp] theorem zXD:tOr q q' ρ=zA9 (q ρ) fun k=>if k=true then okR true else q' ρ:=rfl
@[simp] theorem zZX:tNo q ρ=zA9 (q ρ) fun k=>okR (!k):=rfl
@[simp] theorem zXC:tYes ρ=okR true:=rfl
@[simp] theorem zUC:sNil r=okR (.nx r):=rfl
@[simp] theorem zDW:sSeq s t r=zA9 (s r) fun o=>match o with | .nx ρ'=>t ρ'|o=>okR o:=rfl
@[simp] theorem zHP:sIf q s t r=zA9 (q (full r)) fun k=>if k=true then s r else t r:=rfl
@[simp] theorem x_sDrop:za8 a r=zA9 (a (full r)) fun _=>okR (.nx r):=rfl
@[simp] theorem x_sBreak:zXZ r=okR (.bk r):=rfl
@[simp] theorem x_sCont:za9 r=okR (.ct r):=rfl
@[simp] theorem x_sNever:zXY r=none:=rfl
@[simp] theorem x_sRetN:za7 r=okR (.rt .non):=rfl
@[simp] theorem zHO(i n:Nat)(vs:List Nat):sSet i n vs a r=zA9 (a (full r)) fun d=>if d.dep<=n then okR (.nx (r.set i (some (d,n))))else zA9 (a (frz (frzAt vs r))) fun d'=>okR (.nx ((frzAt vs r).set i (some (d',n)))):=rfl
@[simp] theorem zUB(L n:Nat)(vs:List Nat):sRet L n vs a r=zA9 (a (full r)) fun d=>if d.dep<=n/\d.dep<=L then okR (.rt d)else if n=L then zA9 (a (frz (frzAt vs r))) fun d'=>okR (.rt d')else none:=rfl
@[simp] theorem x_sRetV(L i:Nat):sRetV L i r=match r[i]? with|some (some (d,k))=>if k=L\/L=0\/(d.dep<=k/\d.dep<=L/\k<1000)then okR (.rt d)else none|_=>none:=rfl
@[simp] theorem zP0:full []=[]:=rfl
@[simp] theorem zMP(o:Option Sl)(r:Ro):full (o::r)=o.map qFj::full r:=rfl
@[simp] theorem x_frz_nil:frz []=[]:=rfl
@[simp] theorem x_frz_none(r:Ro):frz (none::r)=none::frz r:=rfl
@[simp] theorem x_frz_some(d:Dt)(n:Nat)(r:Ro):frz (some (d,n)::r)=(if n=0\/d.dep=0 then some d else none)::frz r:=rfl
@[simp] theorem x_frzAt_nil(r:Ro):frzAt [] r=r:=rfl
@[simp] theorem x_frzAt_cons(i:Nat)(v:List Nat)(r:Ro):frzAt (i::v) r=frzAt v (frz1 i r):=rfl
@[simp] theorem x_frz1(i:Nat)(r:Ro):frz1 i r=match r[i]? with|some (some (d,_))=>r.set i (some (d,0))|_=>r:=rfl
@[simp] theorem x_startO(n:Nat)(ds:List Dt):startO n ds=ds.map (fun d=>some (d,0))++qA6 (n-ds.length) none:=rfl
@[simp] theorem x_runF(P n:Nat)(ds:List Dt):runF P n s ds=if ds.length=P then zA9 (s (startO n ds)) endF else none:=rfl
@[simp] theorem x_end1(r:Ro):endF (.nx r)=okR .non:=rfl
@[simp] theorem x_end2(d:Dt):endF (.rt d)=okR d:=rfl
end
@[simp] theorem za2(i j:Int):addD (.int i) (.int j)=some (.int (i+j)):=rfl
@[simp] theorem v_addS(i j:Str):addD (.str i) (.str j)=@ite _ (i.length+j.length<=100000) (qA4 _) (some (.str (i++j))) none:=rfl
@[simp] theorem v_addL(i j:List Dt):addD (.lst i) (.lst j)=@ite _ (i.length+j.length<=100000) (qA4 _) (some (.lst (i++j))) none:=rfl
@[simp] theorem za0(i j:Int):subD (.int i) (.int j)=some (.int (i-j)):=rfl
@[simp] theorem zSK(i j:Int):mulD (.int i) (.int j)=@ite _ (((-18446744073709551616<i/\i<18446744073709551616)\/(-18446744073709551616<j/\j<18446744073709551616))\/i.natAbs.log2+j.natAbs.log2<=67108864) (qA4 _) (some (.int (i*j))) none:=rfl
@[simp] theorem v_div(i j:Int):divD (.int i) (.int j)=@ite _ (0<j/\j<1000000000000000000000000) (qA4 _) (some (.int (i/j))) none:=rfl
@[simp] theorem v_mod(i j:Int):modD (.int i) (.int j)=if 0<j then some (.int (i%j))else none:=rfl
@[simp] theorem v_pow(i j:Int):powD (.int i) (.int j)=@ite _ (0<=j/\j<=1000000/\i.natAbs<18446744073709551616) (qA4 _) (some (.int (i ^ j.toNat))) none:=rfl
@[simp] theorem v_neg(i:Int):negD (.int i)=some (.int (-i)):=rfl
@[simp] theorem v_cmp(p:Int->Int->Bool)(i j:Int):cmpD p (.int i) (.int j)=some (.bl (p i j)):=rfl
@[simp] theorem v_eq(x y:Dt):eqD x y=if x.dep<=40/\y.dep<=40 then some (.bl (Dt.eq x y))else none:=rfl
@[simp] theorem v_ne(x y:Dt):neD x y=if x.dep<=40/\y.dep<=40 then some (.bl (!Dt.eq x y))else none:=rfl
@[simp] theorem v_is(x:Dt):isD x .non=some (.bl (isNonD x)):=rfl
@[simp] theorem v_isnt(x:Dt):zaJ x .non=some (.bl (!isNonD x)):=rfl
@[simp] theorem v_isN1:isNonD .non=true:=rfl
@[simp] theorem v_isN2(i:Int):isNonD (.int i)=false:=rfl
@[simp] theorem v_isN3(i:List Dt):isNonD (.lst i)=false:=rfl
@[simp] theorem v_isN4(i:List Dt):isNonD (.tup i)=false:=rfl
@[simp] theorem v_isN5(i:Str):isNonD (.str i)=false:=rfl
@[simp] theorem v_isN6(i:Bool):isNonD (.bl i)=false:=rfl
@[simp] theorem v_ixL(xs:List Dt)(i:Int):ixD (.lst xs) (.int i)=itA xs i:=rfl
@[simp] theorem v_ixT(xs:List Dt)(i:Int):ixD (.tup xs) (.int i)=itA xs i:=rfl
@[simp] theorem v_ixS(ns:List Int)(i:Int):ixD (.scr ns) (.int i)=(itA ns i).map .int:=rfl
@[simp] theorem v_lenL(xs:List Dt):lenD [.lst xs]=some (.int xs.length):=rfl
@[simp] theorem v_lenT(xs:List Dt):lenD [.tup xs]=some (.int xs.length):=rfl
@[simp] theorem v_lenS(ns:List Int):lenD [.scr ns]=some (.int ns.length):=rfl
@[simp] theorem v_listL(xs:List Dt):listD [.lst xs]=some (.lst xs):=rfl
@[simp] theorem v_listT(xs:List Dt):listD [.tup xs]=some (.lst xs):=rfl
@[simp] theorem v_listS(ns:List Int):listD [.scr ns]=some (.lst (ns.map .int)):=rfl
@[simp] theorem v_dn:Dt.non.dep=0:=rfl
@[simp] theorem v_db(b:Bool):(Dt.bl b).dep=0:=rfl
@[simp] theorem v_di(b:Int):(Dt.int b).dep=0:=rfl
@[simp] theorem v_ds(b:Str):(Dt.str b).dep=0:=rfl
@[simp] theorem v_dS(b:List Int):(Dt.scr b).dep=1000:=by rw[Dt.dep]
@[simp] theorem v_dl(xs:List Dt):(Dt.lst xs).dep=Dt.depL xs+1:=by rw[Dt.dep]
@[simp] theorem v_dt(xs:List Dt):(Dt.tup xs).dep=Dt.depL xs+1:=by rw[Dt.dep]
@[simp] theorem v_dnil:Dt.depL []=0:=by rw[Dt.depL]
@[simp] theorem zJS(x:Dt)(r:List Dt):Dt.depL (x::r)=max x.dep (Dt.depL r):=by rw[Dt.depL]
@[simp] theorem v_e1(i j:Int):Dt.eq (.int i) (.int j)=decide (i=j):=by rw[Dt.eq];by_cases h:i=j<;>simp[h]
@[simp] theorem v_e2(i j:Str):Dt.eq (.str i) (.str j)=decide (i=j):=by rw[Dt.eq];by_cases h:i=j<;>simp[h]
@[simp] theorem v_e3(i j:Bool):Dt.eq (.bl i) (.bl j)=decide (i=j):=by rw[Dt.eq];by_cases h:i=j<;>simp[h]
@[simp] theorem v_e4(i j:List Dt):Dt.eq (.lst i) (.lst j)=Dt.eqL i j:=by rw[Dt.eq]
@[simp] theorem v_e5(i j:List Dt):Dt.eq (.tup i) (.tup j)=Dt.eqL i j:=by rw[Dt.eq]
@[simp] theorem v_e6:Dt.eq .non .non=true:=by rw[Dt.eq]
@[simp] theorem zCW:∀(ns:List Int),Dt.depL (ns.map Dt.int)=0
 |[]=>by simp
 |n::r=>by rw[qAd,zJS,zCW r];rfl
@[simp] theorem zTV:∀(xs ys:List Dt),Dt.depL (xs++ys)=max (Dt.depL xs) (Dt.depL ys)
 |[],ys=>by simp
 |x::r,ys=>by rw[List.cons_append,zJS,zJS,zTV r ys];exact(Nat.max_assoc _ _ _).symm
@[simp] theorem zGA:∀(ns ms:List Int),Dt.eqL (ns.map Dt.int) (ms.map Dt.int)=decide (ns=ms)
 |[],[]=>by simp[Dt.eqL]
 |[],_::_=>by simp[Dt.eqL]
 |_::_,[]=>by simp[Dt.eqL]
 |n::r,m::q=>by rw[qAd,qAd,Dt.eqL,zGA r q,v_e1];simp
theorem zDA{α:Type}{xs:List α}{i:Int}{j:Nat}{v:α}(e:i=(j:Int))(h:xs[j]?=some v):itA xs i=some v:=by
 have hj:j<xs.length:=(qA3.mp h).1;subst e;unfold itA ixA;rw[if_pos (by omega),if_pos (by omega)]
 simpa using h
theorem zLR{n:Nat}{i:Int}(h0:0<=i)(h1:i<n):ixA n i=some i.toNat:=by
 unfold ixA;rw[if_pos h0,if_pos h1]
theorem zTJ{ns:List Int}{i:Int}(h0:0<=i)(h1:i<ns.length):itA (ns.map Dt.int) i=some (.int (ns.getD i.toNat 0)):=by
 refine zDA (j:=i.toNat) (by omega) ?_;rw[qAk,qA0,qA8 (by omega)];rfl
theorem zWP{ns:List Int}{i:Int}(h0:0<=i)(h1:i<ns.length):itA ns i=some (ns.getD i.toNat 0):=by
 refine zDA (j:=i.toNat) (by omega) ?_;rw[qA0,qA8 (by omega)];rfl
@[simp] theorem set_int(ns:List Int)(i:Nat)(x:Int):(ns.map Dt.int).set i (.int x)=(ns.set i x).map Dt.int:=by rw[qFa]
theorem zOQ{ρ:Rh}{k:Nat}{tg:Tg}{c:TM}{e:EM}(f:Dt->Dt):∀(ds acc:List Dt),(∀d∈ds,∃bs,zB8 tg d=some bs/\c (zB6 (ρ++qA6 k none) bs)=okR true/\e (zB6 (ρ++qA6 k none) bs)=okR (f d))->compGo ρ k tg c e ds acc=okR (acc++ds.map f)
 |[],acc,_=>by simp[compGo]
 |d::ds,acc,h=>by
  obtain⟨bs,h1,h2,h3⟩:=h d (by simp);rw[compGo,h1];simp only;rw[h2,zA2,if_pos rfl,h3,zA2,zOQ f ds (acc++[f d]) fun d hd=>h d (by simp[hd])];simp
theorem zBW{ρ:Rh}{k:Nat}{tg:Tg}{c:TM}{e:EM}(p:Dt->Bool)(f:Dt->Dt):∀(ds acc:List Dt),(∀d∈ds,∃bs,zB8 tg d=some bs/\c (zB6 (ρ++qA6 k none) bs)=okR (p d)/\(p d=true->e (zB6 (ρ++qA6 k none) bs)=okR (f d)))->compGo ρ k tg c e ds acc=okR (acc++(ds.filter p).map f)
 |[],acc,_=>by simp[compGo]
 |d::ds,acc,h=>by
  obtain⟨bs,h1,h2,h3⟩:=h d (by simp);rw[compGo,h1];simp only;rw[h2,zA2];cases hp:p d with
  |true=>
   rw[if_pos rfl,h3 hp,zA2,zBW p f ds (acc++[f d]) fun d hd=>h d (by simp[hd])];simp[hp]
  |false=>
   rw[if_neg (by decide),zBW p f ds acc fun d hd=>h d (by simp[hd])];simp[hp]
theorem zKH{tg:Tg}{b:SM}(Pv:Nat->Ro->Prop):∀(ds:List Dt)(i:Nat)(r:Ro),Pv i r->(∀(j:Nat)(d:Dt)(r:Ro),ds[j]?=some d->Pv (i+j) r->∃bs r',zB8 tg d=some bs/\b (zBI r bs)=okR (.nx r')/\Pv (i+j+1) r') ->
  ∃r',forGo tg b ds r=okR (.nx r')/\Pv (i+ds.length) r'
 |[],i,r,h,_=>⟨r,by simp[forGo],by simpa using h⟩
 |d::ds,i,r,h,hs=>by
  obtain⟨bs,r1,h1,h2,h3⟩:=hs 0 d r (by simp) (by simpa using h);obtain⟨r2,h4,h5⟩:=zKH Pv ds (i+1) r1 (by simpa using h3) fun j e r he hp=>by
   have:=hs (j+1) e r (by simpa using he) (by rw[show i+(j+1)=i+1+j by omega];exact hp)
   rw[show i+1+j+1=i+(j+1)+1 by omega];exact this
  refine⟨r2,?_,by rw[qAw,show i+(ds.length+1)=i+1+ds.length by omega];exact h5⟩;rw[forGo,h1];simp only;rw[h2,zA2];exact h4
theorem zKZ{c:TM}{b:SM}(Pv:Ro->Prop)(μ:Ro->Nat)(Rv:Ro->Prop)(hc:∀r,Pv r->(c (full r)=okR false/\Rv r)\/(c (full r)=okR true/\∃r',b r=okR (.nx r')/\Pv r'/\μ r'<μ r)) :
  ∀(m:Nat)(r:Ro),Pv r->μ r<m->∃r',whGo c b m r=okR (.nx r')/\Rv r'
 |0,r,_,h=>by omega
 |m+1,r,h,hm=>by
  rw[whGo]
  rcases hc r h with⟨h1,h2⟩|⟨h1,r1,h2,h3,h4⟩
  ·rw[h1,zA2,if_neg (by decide)];exact⟨r,rfl,h2⟩
  ·rw[h1,zA2,if_pos rfl,h2,zA2];exact zKZ Pv μ Rv hc m r1 h3 (by omega)
theorem zP6{c:TM}{b:SM}(Pv:Ro->Prop)(μ:Ro->Nat)(Rv:Ro->Prop){r:Ro}(h0:Pv r)(hm:μ r<1000000)(hc:∀r,Pv r->(c (full r)=okR false/\Rv r)\/(c (full r)=okR true/\∃r',b r=okR (.nx r')/\Pv r'/\μ r'<μ r)):∃r',sWhile c b r=okR (.nx r')/\Rv r':=
 zKZ Pv μ Rv hc WN r h0 (by rw[zaR];exact hm)
end Mi
namespace Mi
open PySem
section
variable(ρ:Rh)(r:Ro)(a:EM)(am:AM)(s:SM)
@[simp] theorem x_noE_ok{α:Type}(x:α):noE (okR x)=okR x:=rfl
@[simp] theorem x_noE_none{α:Type}:noE (none:R α)=none:=rfl
@[simp] theorem x_noE_err{α:Type}(e:Xn):noE (some (.error e):R α)=none:=rfl
@[simp] theorem x_eCallN(f:FM):zZK f am ρ=zA9 (am ρ) fun ds=>noE (f ds):=rfl
@[simp] theorem x_eMkX(c f:Str):eMkX c f am ρ=zA9 (am ρ) fun ds=>match ds with|[d]=>okR (.exc c f d)|_=>none:=rfl
@[simp] theorem x_sRaise(c f:Str):zXX c f am r=zA9 (am (full r)) fun ds=>match ds with|[d]=>some (.error ⟨c,f,d⟩)|_=>none:=rfl
@[simp] theorem x_eAtX(hs:List Str)(f:Str):eAtX hs f a ρ=zA9 (a ρ) fun d=>match d with | .exc c g x=>if c∈hs/\g=f then okR x else none|_=>none:=rfl
@[simp] theorem x_eIsX(ys ns:List Str):eIsX ys ns a ρ=zA9 (a ρ) fun d=>match d with | .exc c _ _=>if c∈ys then okR (.bl true)else if c∈ns then okR (.bl false)else none|_=>none:=rfl
@[simp] theorem x_gone_nx(i:Nat):zZH i (.nx r)=.nx (r.set i none):=rfl
@[simp] theorem x_gone_rt(i:Nat)(d:Dt):zZH i (.rt d)=.rt d:=rfl
end
example (d:Dt):True:=trivial
end Mi
namespace L2
open PySem PySem.Spec PyProof.Rows
section
variable{X:Cx}
noncomputable def zY5:R2:=fun x y H Q=>match x,y with
 |.int i,.int j=>Q (.int (Builtin.bitXor i j)) H
 |_,_=>False
theorem za3:OpR X (binaryOp .BitXor) zY5:=by
 intro pins s σ H x y v u Q I rx ry h;cases x<;>cases y<;>first
  |exact zYO pins s σ H _ _ v u Q I rx ry ⟨_,_,rfl,rfl,h⟩
  |exact qA5 h
def zY9:R2:=fun x y H Q=>match x,y with
 |.ref l,.int k=>∃xs,H l=some (.lst xs)/\(-(2 ^ 63)<=k/\k<2 ^ 63)/\xs.length*k.toNat<=sizeLine/\∀p,H p=none->Q (.ref p) (upd H p (.lst (qA6 k.toNat xs).flatten))
 |_,_=>False
theorem zXL:OpR X (binaryOp .Mult) zY9:=by
 intro pins s σ H x y v u Q I rx ry h;cases x<;>cases y<;>first
  |(obtain⟨xs,h1,h2,h3,h4⟩:=h;exact zYQ pins s σ H _ _ v u Q I rx ry ⟨_,_,xs,rfl,rfl,h1,h2.1,h2.2,h3,h4⟩)
  |exact qA5 h
noncomputable def bL(K:qA2)(t:TE):TT:=fun σ H Q=>t σ H fun x H'=>match x with
 |.bl k=>Q k H'
 |.int i=>Q (i != 0) H'
 |.non=>Q false H'
 |.ref p=>∃xs,(SqL K H' p xs\/SqT K H' p xs)/\Q (!xs.isEmpty) H'
 |_=>False
theorem pt_l{K:qA2}{a:Expr}{ta:TE}(ha:PE X a ta)(he:∀whole,isTrue a X.env whole=(do let v <- whole;standAt a.pos;holding [v] (truthy v)):=by intro _;rfl)(hK:X.K=K:=by rfl):PT X a (bL K ta):=by
 subst hK;intro pins s σ H Q I h;refine isTrue_plain (thn (ha pins s σ H _ I h) fun v s1 z0=>?_) (he _);obtain⟨x,H1,I1,r1,q1⟩:=z0;refine thn (zUD pins s1 σ H1 x v Q I1 r1 ?_) fun _ _ q=>q
 cases x with
 |bl k=>exact⟨k,rfl,q1⟩
 |int i=>exact⟨_,rfl,q1⟩
 |non=>exact⟨_,rfl,q1⟩
 |ref p=>
  obtain⟨xs,h1|h1,h2⟩:=q1
  ·exact⟨_,.inl ⟨xs,h1,rfl⟩,h2⟩
  ·exact⟨_,.inr (.inl ⟨xs,h1,rfl⟩),h2⟩
 |_=>exact qA5 q1
def extM:V->List V->Hp->VK->Prop:=fun x vs H Q=>match x,vs with
 |.ref l,[.ref b]=>∃xs zs,H l=some (.lst xs)/\H b=some (.lst zs)/\xs.length+zs.length<=sizeLine/\Q .non (upd H l (.lst (xs++zs)))
 |_,_=>False
noncomputable def posI(k:Int):List Int->Option Nat
 |[]=>none
 |x::r=>if x=k then some 0 else(posI k r).map (·+1)
theorem zRO:∀{ns:List Int}{us:List Value},Vals (ns.map V.int) us->qFt us=true
 |[],_,.nil=>rfl
 |n::r,_,.cons a t=>by obtain⟨k,rfl⟩:=a;have:=zRO (ns:=r) t;simpa[qFt]using this
theorem zUN{k:Int}:∀{ns:List Int}{us:List Value}{j:Nat},Vals (ns.map V.int) us->posI k ns=some j->qGs k us=some j
 |[],_,_,.nil,h=>by cases h
 |n::r,_,j,.cons a t,h=>by
  obtain⟨q,rfl⟩:=a;unfold posI at h;unfold qGs
  by_cases e:n=k
  ·rw[if_pos e]at h;cases h;subst e;simp[qDn]
  ·rw[if_neg e]at h;cases h':posI k r with
   |none=>rw[h']at h;cases h
   |some z=>
    rw[h']at h;cases h;rw[zUN t h'];have hb:(n==k)=false:=by simpa using e
    simp[qDn,hb]
def lixM:V->List V->Hp->VK->Prop:=fun x vs H Q=>match x,vs with
 |.ref l,[.int k]=>∃ns j,H l=some (.lst (ns.map V.int))/\posI k ns=some j/\Q (.int j) H
 |_,_=>False
theorem zWE:MtR X "list.index" lixM:=by
 intro pins s σ H x vs v us Q I rx rv h;cases x with
 |ref l=>
  cases vs with
  |nil=>exact qA5 h
  |cons hd1 tl1=>
   cases hd1 with
   |int k=>
    cases tl1 with
    |nil=>
     obtain⟨ns,j,h1,h2,h3⟩:=h;cases rx;obtain⟨u,rfl,ru⟩:=zFL rv;obtain⟨t,rfl⟩:=ru;obtain⟨z,its,n,r,hl,e⟩:=I.lstM h1;obtain⟨a,b,c⟩:=PySem.W.kf_at_spec (zUN r h2);rw[sizeLine_eq]at z;refine call_meets qE2 ⟨_,e,rfl⟩ PySem.F.entry_list_index (PySem.F.args_list_index_2 _ _)
      (MeetsSeq.list_index l its.toArray n (.int k t) (qDn k) (fun y hy=>PySem.W.kf_eq (zRO r) y (by simpa using hy)) j (by simpa using a) (by omega) (by simpa using b) (fun i hi hlt=>by simpa using c i (by simpa using hi) hlt)) ⟨e,?_⟩
     exact⟨.int _,H,I.tok _,⟨_,rfl⟩,h3⟩
    |cons _ _=>exact qA5 h
   |_=>exact qA5 h
 |_=>exact qA5 h
end
section
variable{X:Cx}{K:qA2}
end
end L2
namespace Mi
open PySem
noncomputable section
noncomputable def xorD:Dt->Dt->Option Dt
 |.int i,.int j=>some (.int (Builtin.bitXor i j))
 |_,_=>none
noncomputable def repD:Dt->Dt->Option Dt
 |.lst xs,.int k=>@ite _ ((-4611686018427387904<=k/\k<4611686018427387904)/\xs.length*k.toNat<=100000) (qA4 _) (some (.lst (qA6 k.toNat xs).flatten)) none
 |_,_=>none
def tL(a:EM):TM:=fun ρ=>zA9 (a ρ) fun x=>match x with
 |.bl k=>okR k
 |.int i=>okR (i != 0)
 |.non=>okR false
 |.lst xs=>okR (!xs.isEmpty)
 |.tup xs=>okR (!xs.isEmpty)
 |_=>none
def iRv(e:AM):IM:=fun ρ=>zA9 (e ρ) fun vs=>match vs with
 |[.lst xs]=>okR xs.reverse
 |_=>none
noncomputable def intsD:List Dt->Option (List Int)
 |[]=>some []
 |.int i::r=>(intsD r).map (i::·)
 |_::_=>none
def posI(k:Int):List Int->Option Nat
 |[]=>none
 |x::r=>if x=k then some 0 else(posI k r).map (·+1)
def eMl(f:List Dt->List Dt->Option Dt)(a:EM)(am:AM):EM:=fun ρ=>zA9 (a ρ) fun x=>match x with
 |.lst xs=>zA9 (am ρ) fun ds=>optR (f xs ds)
 |_=>none
def lixD(xs ds:List Dt):Option Dt:=match ds with
 |[.int k]=>match intsD xs with
  |some ns=>(posI k ns).map fun j=>.int (j:Int)
  |none=>none
 |_=>none
def sExt(i n:Nat)(e:EM):SM:=fun ρ=>match ρ[i]? with
 |some (some (.lst ds,k+1))=>zA9 (e (full ρ)) fun d=>match d with
  |.lst es=>@ite _ (ds.length+es.length<=100000/\Dt.depL es<=n/\Dt.depL es<=k) (qA4 _) (okR (.nx (ρ.set i (some (.lst (ds++es),k+1))))) none
  |_=>none
 |_=>none
noncomputable def low(i:Nat)(ρ:Ro):Ro:=match ρ[i]? with
 |some (some (.lst ds,_+1))=>ρ.set i (some (.lst ds,1))
 |_=>ρ
def sAppF(i:Nat)(vs:List Nat)(e:EM):SM:=fun ρ=>match(frzAt vs (low i ρ))[i]? with
 |some (some (.lst ds,1))=>zA9 (e (frz (frzAt vs (low i ρ)))) fun d=>@ite _ (ds.length<=100000) (qA4 _) (okR (.nx ((frzAt vs (low i ρ)).set i (some (.lst (ds++[d]),1))))) none
 |_=>none
def sItemF(i:Nat)(vs:List Nat)(e1 e2:EM):SM:=fun ρ=>zA9 (e2 (frz (frzAt vs (low i ρ)))) fun d=>match(frzAt vs (low i ρ))[i]? with
 |some (some (.lst ds,1))=>zA9 (e1 (full (frzAt vs (low i ρ)))) fun z=>match z with
  |.int z=>match ixA ds.length z with
   |some q=>okR (.nx ((frzAt vs (low i ρ)).set i (some (.lst (ds.set q d),1))))
   |none=>none
  |_=>none
 |_=>none
def sItemS(i:Nat)(e1 e2:EM):SM:=fun ρ=>match(low i ρ)[i]? with
 |some (some (.lst ds,1))=>zA9 (e2 (full (low i ρ))) fun y=>match y with
  |.int y=>match itA ds y with
   |some d=>zA9 (e1 (full (low i ρ))) fun z=>match z with
    |.int z=>match ixA ds.length z with
     |some q=>okR (.nx ((low i ρ).set i (some (.lst (ds.set q d),1))))
     |none=>none
    |_=>none
   |none=>none
  |_=>none
 |_=>none
end
end Mi
namespace L3
open PySem PySem.Spec
open L2 hiding Rep RepL
open Mi (Dt Xn R okR zA9 optR zA2 zAE zAK zAH zAJ Rh Sl Ro EM TM AM FM IM SM Tg Out zB8 zB6 zBI full frz frz1 frzAt)
section
variable[Kc]{mg:Str->Option Value}{E:XK}{L n k l:Nat}{te ta tb:TE}{e ea eb ma:EM}{t:TA}{m:AM}
theorem zY3:ROp zY5 Mi.xorD n:=by
 intro mg E G H d e x y Q s h1 h2 p;cases d with
 |int i=>
  cases e with
  |int j=>cases(show x=.int i from h1);cases(show y=.int j from h2);exact zQQ s p rfl rfl rfl
  |_=>exact p.elim
 |_=>exact p.elim
theorem zO5{G:Hp}{ds es:List Dt}{xs ys:List V}(ra:RepL G ds xs)(rb:RepL G es ys):RepL G (ds++es) (xs++ys):=by
 refine zFN (by simp[ra.length,rb.length]) fun j d' x' e1 e2=>?_
 by_cases hj:j<ds.length
 ·rw[qAf hj]at e1;rw[qAf (by rw[ra.length];exact hj)]at e2;exact zCU ra e1 e2
 ·rw[qAg (by omega)]at e1;rw[qAg (by rw[ra.length];omega),ra.length]at e2;exact zCU rb e1 e2
theorem zO4{G:Hp}{ds:List Dt}{xs:List V}(r:RepL G ds xs):∀k:Nat,RepL G (qA6 k ds).flatten (qA6 k xs).flatten
 |0=>rfl
 |k+1=>by rw[qB5,qB5,qBl,qBl];exact zO5 r (zO4 r k)
theorem zUH:ROp zY9 Mi.repD 1:=by
 intro mg E G H d e x y Q s h1 h2 p;cases d with
 |lst ds=>
  cases e with
  |int j=>
   obtain⟨a,xs,rfl,ha,ra⟩:=h1
   cases(show y=.int j from h2)
   rw[Mi.repD]at p
   split at p
   ·rename_i hz
    exact⟨xs,s _ _ ha,⟨by omega,by omega⟩,by rw[ra.length];exact big' hz.2,fun q hq=>PostE.lst p (Ext.refl s) (zO4 ra _) hq⟩
   ·exact p.elim
  |_=>exact p.elim
 |_=>exact p.elim
theorem zID{G:Hp}{ds:List Dt}{xs:List V}(r:RepL G ds xs):(!xs.isEmpty) = !ds.isEmpty:=by
 have:=r.length
 cases xs<;>cases ds<;>simp_all
theorem dt_l(A:DE mg E ta ma k):DT mg E (bL Kc.K ta) (Mi.tL ma):=by
 intro G H σ ρ Q s w p;refine(zAM A).step errT s w p fun d v G1 H1 S _ fr o p1=>?_
 cases d with
 |bl b=>cases(show v=.bl b from o);exact p1 H1 fr.ext.h
 |int b=>cases(show v=.int b from o);exact p1 H1 fr.ext.h
 |non=>cases(show v=.non from o);exact p1 H1 fr.ext.h
 |lst ds=>
  obtain⟨a,xs,rfl,ha,r⟩:=o;refine⟨xs,.inl (SqL.of (fr.ext.in' _ _ ha)),?_⟩;rw[zID r];exact p1 H1 fr.ext.h
 |tup ds=>
  obtain⟨a,xs,rfl,ha,r⟩:=o;refine⟨xs,.inr (SqT.of (fr.ext.in' _ _ ha)),?_⟩;rw[zID r];exact p1 H1 fr.ext.h
 |_=>exact p1.elim
theorem zSZ{G:Hp}{ds:List Dt}{xs:List V}(r:RepL G ds xs):RepL G ds.reverse xs.reverse:=by
 induction ds generalizing xs with
 |nil=>cases r;rfl
 |cons d q ih=>
  obtain⟨x,t,rfl,a,b⟩:=r;rw[qD2,qD2];exact zO5 (ih b) ⟨x,[],rfl,a,rfl⟩
def RMl(r:V->List V->Hp->VK->Prop)(f:List Dt->List Dt->Option Dt)(n:Nat):Prop:=∀(mg:Str->Option Value)(E:XK)(G H:Hp)(a:Addr)(es ds:List Dt)(xs vs:List V)(Q:VK),Same G H->G a=some (.lst xs)->RepL G es xs->RepL G ds vs->PostE mg E G H n (optR (f es ds)) Q->r (.ref a) vs H Q
theorem zaQ{r:V->List V->Hp->VK->Prop}{f:List Dt->List Dt->Option Dt}(hr:RMl r f n)(A:DE mg E te e k)(B:DA mg E t m 0):DE mg E (tML r te t) (Mi.eMl f e m) n:=by
 intro G H σ ρ Q s w p;refine(zAM A).step errE s w p fun d v G1 H1 S _ fr o p1=>?_
 cases d with
 |lst es=>
  obtain⟨a,xs,rfl,ha,ra⟩:=o;refine⟨xs,fr.ext.in' _ _ ha,?_⟩;have p2:PostE mg E G H n (zA9 (m ρ) fun ds=>optR (f es ds)) Q:=p1;refine B.step (errE.from fr.ext) fr.ext.in' (w.mono fr.ext.g) p2 fun ds vs G2 H2 S2 T2 _ fr2 o2 p3=>?_
  exact hr mg E G2 H2 a es ds xs vs Q fr2.ext.in' (fr2.ext.g _ _ ha) (RepL.mono fr2.ext.g ra) o2.repL (PostE.from p3 (fr.ext.trans fr2.ext))
 |_=>exact p1.elim
theorem zQU(k:Int):∀ns:List Int,Mi.posI k ns=L2.posI k ns
 |[]=>rfl
 |x::r=>by unfold Mi.posI L2.posI;rw[zQU k r]
theorem zIF{G:Hp}:∀{ds:List Dt}{ns:List Int}{xs:List V},Mi.intsD ds=some ns->RepL G ds xs->xs=ns.map V.int
 |[],ns,xs,h,r=>by cases h;exact r
 |d::q,ns,xs,h,r=>by
  cases d with
  |int i=>
   rw[Mi.intsD]at h;cases e:Mi.intsD q with
   |none=>rw[e]at h;cases h
   |some ms=>
    rw[e]at h;cases h;obtain⟨x,t,rfl,a,b⟩:=r
    cases(show x=.int i from a)
    rw[zIF e b];rfl
  |_=>cases h
theorem zSY:RMl lixM Mi.lixD n:=by
 intro mg E G H a es ds xs vs Q s ha ra rv p;cases ds with
 |nil=>exact qA5 p
 |cons hd1 tl1=>
  cases hd1 with
  |int k=>
   cases tl1 with
   |nil=>
    obtain⟨x,rfl,hx⟩:=zEL rv
    cases(show x=.int k from hx)
    unfold Mi.lixD at p;cases ei:Mi.intsD es with
    |none=>rw[ei]at p;exact p.elim
    |some ns=>
     rw[ei]at p;dsimp only at p;cases ej:Mi.posI k ns with
     |none=>rw[ej]at p;exact p.elim
     |some j=>
      rw[ej]at p;refine⟨ns,j,?_,by rw[<- zQU];exact ej,PostE.val p (Ext.refl s) rfl rfl⟩;rw[s _ _ ha,zIF ei ra]
   |cons _ _=>exact qA5 p
  |_=>exact qA5 p
end
end L3
namespace L3
open PySem PySem.Spec
open L2 hiding Rep RepL
open Mi (Dt Xn R okR zA9 optR zA2 zAE zAK zAH zAJ Rh Sl Ro EM TM AM FM IM SM Tg Out zB8 zB6 zBI full frz frz1 frzAt)
section
variable[Kc]{G0 H0 S0:Hp}{σ:St}{ρ:Ro}{G H:Hp}{As:Nat->Addr->Prop}
theorem Sat.low(a:Sat G0 H0 S0 σ ρ G H As)(i:Nat):∃G1 As1,Sat G0 H0 S0 σ (Mi.low i ρ) G1 H As1:=by
 unfold Mi.low
 split
 ·rename_i ds k e1
  obtain⟨v,h1,q,xs,T,rfl,hq,kd⟩:=a.at i _ _ e1;obtain⟨s1,s2⟩:=zDQ (S:=fun b=>∃r,T r b) a.ext.in';have ui:∀b,(∃r,T r b)->As i b:=fun b ⟨r,z⟩=>kd.sub r b z
  have x:Ext G0 H0 (over G H fun b=>∃r,T r b) H:=⟨a.ext.g.trans s1,a.ext.h,s2,fun b hb=>by
   have z:¬ ∃r,T r b:=fun z=>hb (a.new i b (ui b z)).1
   rw[zD3 z];exact a.ext.old b hb⟩
  refine⟨over G H fun b=>∃r,T r b,fun j b=>As j b/\¬ ∃r,T r b,x,a.stb.trans s1,by simp[a.len],fun j e n h=>?_,fun j l b p q=>a.dis j l b p.1 q.1,fun j b p=>?_⟩
  ·have hj:j<ρ.length:=by
    have:=(qA3.mp h).1
    simpa using this
   by_cases z:i=j
   ·subst z;rw[qAb hj]at h;cases h;exact⟨.ref q,h1,q,xs,fun _ _=>False,rfl,hq,⟨kd.len,fun r d x g1 g2=>(kd.own r d x g1 g2).rep s1 fun b o hb e=>by rw[zEO ⟨r,hb⟩];exact e,⟨kd.top,fun⟨r,z⟩=>kd.out r z⟩,fun _ z=>z,fun _ _ _ z=>z.elim,fun _ _ z=>z.elim⟩⟩
   ·rw[qAj z]at h;obtain⟨u,q1,q2⟩:=a.at j e n h;exact⟨u,q1,(q2.mono s1 (Same.refl _)).sub fun b hb=>⟨hb,fun w=>z (a.dis i j b (ui b w) hb)⟩⟩
  ·obtain⟨n1,n2,n3⟩:=a.new j b p.1;exact⟨n1,by rw[zD3 p.2];exact n2,n3⟩
 ·exact⟨G,As,a⟩
end
section
variable[Kc]{mg:Str->Option Value}{E:XK}{L n k l:Nat}{te ta tb:TE}{e ea eb ma:EM}{t:TA}{m:AM}
theorem zRW(i:Nat)(vs:List Nat)(A:DE mg E te e n):DS mg E L (zQ4 (tML appM (vM i) (zL4 te tNil))) (Mi.sAppF i vs e):=by
 intro G0 H0 S0 σ ρ G H As D a p;obtain⟨G1,As1,a1⟩:=a.low i;obtain⟨G2,As2,a2⟩:=Sat.frzAt vs a1;unfold Mi.sAppF at p
 generalize hρ:frzAt vs (Mi.low i ρ)=ρ2 at p a2
 split at p
 ·rename_i ds e1
  obtain⟨v,h1,q,xs,T,rfl,hq,kd⟩:=a2.at i _ _ e1;unfold zQ4 tML vM;rw[h1];refine⟨xs,hq,?_⟩;refine(zAM A).step (errS.from a2.ext) a2.ext.in' a2.frz p fun d y G3 H3 S _ fr o p1=>?_
  split at p1
  ·rename_i hz
   refine⟨xs,fr.ext.h _ _ hq,by rw[kd.len];exact L2.big (by omega),?_⟩;have a3:=a2.wider fr.ext;have kd1:Kids (Own G3 H3 0) (As2 i) q ds xs T:=kd.imp (fun _ _ _ _ w=>w.mono fr.ext.g fr.ext.h) fun _ z=>z
   refine p1 σ G3 _ _ (a3.store (S:=As2 i) kd.top h1 ⟨q,_,fun _ _=>False,rfl,zBB,⟨by simp[kd.len],fun r d' z g1 g2=>?_,kd.top,fun _ z=>z,fun _ _ _ z=>z.elim,fun _ _ z=>z.elim⟩⟩ fun b z=>.inl z)
   by_cases hr:r<ds.length
   ·rw[qAf hr]at g1;rw[qAf (by rw[kd.len];exact hr)]at g2;exact kd1.own r d' z g1 g2
   ·rw[qAg (by omega)]at g1;rw[qAg (by rw[kd.len];omega),kd.len]at g2;have hq0:r-ds.length=0:=by
     have:=(qA3.mp g1).1
     simp at this;omega
    rw[hq0]at g1 g2;simp at g1 g2;subst g1;subst g2;exact o
  ·exact p1.elim
 ·exact p.elim
theorem zTT(i:Nat)(vs:List Nat){n1:Nat}{t1 t2:TE}{e1 e2:EM}(A:DE mg E t1 e1 n1)(B:DE mg E t2 e2 n):DS mg E L (tAsg t2 (gSub (vM i) t1 setM)) (Mi.sItemF i vs e1 e2):=by
 intro G0 H0 S0 σ ρ G H As D a p;obtain⟨G1,As1,a1⟩:=a.low i;obtain⟨G2,As2,a2⟩:=Sat.frzAt vs a1;unfold Mi.sItemF at p
 generalize hρ:frzAt vs (Mi.low i ρ)=ρ2 at p a2
 refine(zAM B).step (errS.from a2.ext) a2.ext.in' a2.frz p fun d y G3 H3 S _ fr o p1=>?_
 have a3:=a2.wider fr.ext
 split at p1
 ·rename_i ds er
  obtain⟨v,h1,q,xs,T,rfl,hq,kd⟩:=a3.at i _ _ er;unfold gSub vM;rw[h1];obtain⟨J,x,s,w⟩:=a3.full;refine(zAM A).step (errS.from x) x.in' w p1 fun z u G4 H4 S2 ee fr2 o2 p2=>?_
  split at p2
  ·rename_i z
   cases(show u=.int z from o2)
   split at p2
   ·rename_i c ei
    rw[zLS]at ei;refine⟨xs,c,fr2.ext.h _ _ hq,by rw[kd.len];exact ei,?_⟩;have a4:=a3.grow fr2.ext.h;refine p2 σ G3 _ _ (a4.store (S:=As2 i) kd.top h1 ⟨q,_,fun _ _=>False,rfl,zBB,⟨by simp[kd.len],fun r d' z' g1 g2=>?_,kd.top,fun _ z=>z,fun _ _ _ z=>z.elim,fun _ _ z=>z.elim⟩⟩ fun b z=>.inl z)
    by_cases hr:c=r
    ·subst hr;have hc:c<ds.length:=by
      have:=(qA3.mp g1).1
      simpa using this
     rw[qAb hc]at g1;rw[qAb (by rw[kd.len];exact hc)]at g2;cases g1;cases g2;exact o
    ·rw[qAj hr]at g1 g2;exact kd.own r d' z' g1 g2
   ·exact p2.elim
  ·exact p2.elim
 ·exact p1.elim
theorem zTS(i:Nat){n1 n2:Nat}{t1 t2:TE}{e1 e2:EM}(A:DE mg E t1 e1 n1)(B:DE mg E t2 e2 n2):DS mg E L (tAsg (tOp (rIxU Kc.K) (vM i) t2) (gSub (vM i) t1 setM)) (Mi.sItemS i e1 e2):=by
 intro G0 H0 S0 σ ρ G H As D a p;obtain⟨G1,As1,a2⟩:=a.low i;unfold Mi.sItemS at p
 generalize hρ:Mi.low i ρ=ρ2 at p a2
 split at p
 ·rename_i ds er
  obtain⟨v,h1,q,xs,T,rfl,hq,kd⟩:=a2.at i _ _ er;unfold tAsg tOp vM;rw[h1];obtain⟨J,x,s,w⟩:=a2.full;refine(zAM B).step (errS.from x) x.in' w p fun z u G4 H4 S2 ee fr2 o2 p2=>?_
  split at p2
  ·rename_i y
   cases(show u=.int y from o2)
   split at p2
   ·rename_i d ed
    have ed':=ed;unfold Mi.itA at ed;cases ej:Mi.ixA ds.length y with
    |none=>rw[ej]at ed;cases ed
    |some j=>
     rw[ej]at ed;have edj:ds[j]?=some d:=ed;have hj:j<xs.length:=by rw[kd.len];exact(qA3.mp edj).1
     refine⟨xs,xs[j],.inl (SqL.of (fr2.ext.h _ _ hq)),?_,?_⟩
     ·rw[<- zRJ];unfold Mi.itA;rw[kd.len,ej];exact qA8 hj
     have a3:=a2.grow fr2.ext.h;obtain⟨J3,x3,s3,w3⟩:=a3.full;unfold gSub;dsimp only;rw[h1];refine(zAM A).step (errS.from x3) x3.in' w3 p2 fun z u G5 H5 S3 ee3 fr3 o3 p3=>?_
     split at p3
     ·rename_i z
      cases(show u=.int z from o3)
      split at p3
      ·rename_i c ei
       rw[zLS]at ei;refine⟨xs,c,fr3.ext.h _ _ (fr2.ext.h _ _ hq),by rw[kd.len];exact ei,?_⟩;have a4:=a3.grow fr3.ext.h;refine p3 σ G1 _ _ (a4.store (S:=As1 i) kd.top h1 ⟨q,_,fun _ _=>False,rfl,zBB,⟨by simp[kd.len],fun r d' z' g1 g2=>?_,kd.top,fun _ z=>z,fun _ _ _ z=>z.elim,fun _ _ z=>z.elim⟩⟩ fun b z=>.inl z)
       by_cases hr:c=r
       ·subst hr;have hc:c<ds.length:=by
         have:=(qA3.mp g1).1
         simpa using this
        rw[qAb hc]at g1;rw[qAb (by rw[kd.len];exact hc)]at g2;cases g1;cases g2;exact kd.own j d _ edj (qA8 hj)
       ·rw[qAj hr]at g1 g2;exact kd.own r d' z' g1 g2
      ·exact p3.elim
     ·exact p3.elim
   ·exact p2.elim
  ·exact p2.elim
 ·exact p.elim
end
end L3
namespace L3
open PySem PySem.Spec
open L2 hiding Rep RepL
open Mi (Dt Xn R okR zA9 optR zA2 zAE zAK zAH zAJ Rh Sl Ro EM TM AM FM IM SM Tg Out zB8 zB6 zBI full frz frz1 frzAt)
structure XNo(K:qA2)(mg:Str->Option Value)(c:Str)(C:Addr):Prop extends XCls K mg c C where
 kp:qB7 K (.ref C)=true
 ini:qB3 K (.ref C) "__init__" = some (some (.builtin "ValueError.__init__"))
section
variable[Kc]{mg:Str->Option Value}{E:XK}{L n k l:Nat}{te ta tb:TE}{e ea eb ma:EM}{t:TA}{m:AM}
end
end L3
namespace L2
open PySem PySem.Spec PyProof.Rows
section
variable{X:Cx}
noncomputable def zXW(z:Str):List V:=z.cps.toList.map fun c=>.str ⟨#[c]⟩
def rListX(K:qA2):List V->Hp->VK->Prop:=fun vs H Q=>match vs with
 |[.str z]=>z.length<=sizeLine/\∀l,H l=none->Q (.ref l) (upd H l (.lst (zXW z)))
 |_=>zO9 K vs H Q
def zY6:List V->Hp->VK->Prop:=fun vs H Q=>match vs with
 |[.ref a]=>∃ns:List Int,H a=some (.lst (ns.map V.int))/\ns.length<=100000/\(∀n∈ns,-1000000<=n/\n<=1000000)/\Q (.int ns.sum) H
 |_=>False
theorem zUE:∀(ns:List Int),(∀n∈ns,-1000000<=n/\n<=1000000)->-(ns.length*1000000:Int)<=ns.sum/\ns.sum<=(ns.length*1000000:Int)
 |[],_=>by simp
 |n::r,h=>by
  have h1:=zUE r fun m hm=>h m (by simp[hm])
  have h2:=h n (by simp);simp only[qCr,qAw];omega
theorem zaH(hc:X.calm=true):zDL X (.builtin "sum") zY6:=by
 intro pins s σ H vs us Q I r h;cases vs with
 |nil=>exact qA5 h
 |cons hd1 tl1=>
  cases hd1 with
  |ref a=>
   cases tl1 with
   |nil=>
    obtain⟨ns,ha,hz,hb,q⟩:=h;obtain⟨u,rfl,rx⟩:=zFL r;cases rx;obtain⟨its,rv,hl⟩:=zB2 I.hok ha;have hi:IntsAre its ns:=zG6 rv;obtain⟨xs,e⟩:=hi.allInts.items;have en:numsOf its=ns:=hi.numsOf;have en2:numsOf (intItems xs).toList=ns:=by rw[<- e];exact en
    rw[nums_intItems]at en2;have hl':s.heap.IsList a (intItems xs):=by rw[<- e];exact hl
    have hx:∀j,numAt xs j=ns.getD j 0:=fun j=>by rw[numAt_eq,en2]
    have hps:∀j,preSum (numAt xs) j=(ns.take j).sum:=fun j=>by
     rw[show numAt xs=fun i=>ns.getD i 0 from funext hx];exact qGm ns j
    have hxl:xs.size=ns.length:=by rw[<- en2];simp
    refine sum_intList (I.ok.hd hc) hl' (fun j hj=>?_) fun h' tk t' hk=>?_
    ·have hj':j<ns.length:=by omega
     rw[hx,hps];have b1:=hb (ns.getD j 0) (by rw[qA0,qA8 hj'];simp);have b2:=zUE (ns.take (j+1)) fun m hm=>hb m (qEl hm)
     have b3:(ns.take (j+1)).length<=100000:=by rw[qBx];omega
     constructor<;>constructor<;>omega
    ·rw[hps,hxl,qCi];exact⟨.int _,H,I.kept (t':=tk) hk,⟨_,rfl⟩,q⟩
   |cons _ _=>exact qA5 h
  |_=>exact qA5 h
def zUJ:List V->Hp->VK->Prop:=fun vs H Q=>match vs with
 |[.ref a]=>(∃ns:List Int,H a=some (.lst (ns.map V.int))/\ns.length<64/\∀ms:List Int,ms.Perm ns->ms.Pairwise (·<=·)->∀l,H l=none->Q (.ref l) (upd H l (.lst (ms.map V.int)))) \/
   ∃zs:List Str,H a=some (.lst (zs.map V.str))/\zs.length<64/\∀ys:List Str,ys.Perm zs->sortedS ys=true->∀l,H l=none->Q (.ref l) (upd H l (.lst (ys.map V.str)))
 |_=>False
theorem zLT:∀{ns:List Int}{vs:List Value},IntsAre vs ns->Vals (ns.map V.int) vs
 |_,_,.nil=>.nil
 |_,_,.cons n t h=>.cons ⟨t,rfl⟩ (zLT h)
theorem zL6:∀{ns:List Str}{vs:List Value},StrsAre vs ns->Vals (ns.map V.str) vs
 |_,_,.nil=>.nil
 |_,_,.cons n t h=>.cons ⟨t,rfl⟩ (zL6 h)
theorem zOI:zDL X (.builtin "sorted") zUJ:=by
 intro pins s σ H vs us Q I r h;cases vs with
 |nil=>exact qA5 h
 |cons hd1 tl1=>
  cases hd1 with
  |ref a=>
   cases tl1 with
   |nil=>
    obtain⟨u,rfl,rx⟩:=zFL r;cases rx
    rcases h with⟨ns,ha,hz,q⟩|⟨zs,ha,hz,q⟩
    ·obtain⟨its,rv,hl⟩:=zB2 I.hok ha;have hlen:=rv.length;rw[qAl]at hlen;refine sorted_ints hl (zG6 rv) (by omega) fun out ms h1 h2 h3=>?_
     obtain⟨e,he⟩:=sortedAll_at s.heap its out;have hz':ms.length<=sizeLine:=by rw[h2.length_eq,sizeLine_eq];omega
     exact⟨.ref _,_,I.laid (t':=s.toks) (o:=.lst (ms.map V.int)) (fun b o q=>sortedAll_old q) (qBs _) ⟨by rw[qAl];exact hz',out.toList,e,zLT h1,by simpa[seqObj]using he⟩,rfl,q ms h2 h3 _ (I.hok.fresh (qBs _))⟩
    ·obtain⟨its,rv,hl⟩:=zB2 I.hok ha;have hlen:=rv.length;rw[qAl]at hlen;refine sorted_strs hl (zL5 rv) (by omega) fun out ms h1 h2 h3=>?_
     obtain⟨e,he⟩:=sortedAll_at s.heap its out;have hz':ms.length<=sizeLine:=by rw[h2.length_eq,sizeLine_eq];omega
     exact⟨.ref _,_,I.laid (t':=s.toks) (o:=.lst (ms.map V.str)) (fun b o q=>sortedAll_old q) (qBs _) ⟨by rw[qAl];exact hz',out.toList,e,zL6 h1,by simpa[seqObj]using he⟩,rfl,q ms h2 h3 _ (I.hok.fresh (qBs _))⟩
   |cons _ _=>exact qA5 h
  |_=>exact qA5 h
end
section
variable{X:Cx}{K:qA2}
end
end L2
namespace Mi
open PySem
noncomputable section
def listXD(ds:List Dt):Option Dt:=match ds with
 |[.str z]=>@ite _ (z.length<=100000) (qA4 _) (some (.lst (signsD z))) none
 |ds=>listD ds
def sumD:List Dt->Option Dt
 |[.lst ds]=>match intsD ds with
  |some ns=>@ite _ (ns.length<=100000/\∀n∈ns,-1000000<=n/\n<=1000000) (qA4 _) (some (.int ns.sum)) none
  |none=>none
 |_=>none
noncomputable def sortI(ns:List Int):List Int:=ns.mergeSort fun a b=>decide (a<=b)
def sortD:List Dt->Option Dt
 |[.lst ds]=>match intsD ds with
  |some ns=>@ite _ (ns.length<64) (qA4 _) (some (.lst ((sortI ns).map .int))) none
  |none=>none
 |_=>none
end
end Mi
namespace L3
open PySem PySem.Spec
open L2 hiding Rep RepL
open Mi (Dt Xn R okR zA9 optR zA2 zAE zAK zAH zAJ Rh Sl Ro EM TM AM FM IM SM Tg Out zB8 zB6 zBI full frz frz1 frzAt)
section
variable[Kc]{mg:Str->Option Value}{E:XK}{L n k l:Nat}{te ta tb:TE}{e ea eb ma:EM}{t:TA}{m:AM}
theorem zOD{r:List V->Hp->VK->Prop}{f:List Dt->Option Dt}(h0:∀ds,(∀es,ds≠[.lst es])->f ds=none)(h1:∀es,Mi.intsD es=none->f [.lst es]=none)
  (h2:∀(mg:Str->Option Value)(E:XK)(G H:Hp)(a:Addr)(es:List Dt)(ns:List Int)(Q:VK),Same G H->Mi.intsD es=some ns->H a=some (.lst (ns.map V.int))->PostE mg E G H n (optR (f [.lst es])) Q->r [.ref a] H Q):CBi r f n:=by
 intro mg E G H ds vs Q s h p
 by_cases hd:∃es,ds=[.lst es]
 ·obtain⟨es,rfl⟩:=hd;obtain⟨x,rfl,a,xs,rfl,ha,ra⟩:=zEL h;cases ei:Mi.intsD es with
  |none=>rw[h1 es ei]at p;exact p.elim
  |some ns=>exact h2 mg E G H a es ns Q s ei (by rw[s _ _ ha,zIF ei ra]) p
 ·rw[h0 ds fun es z=>hd ⟨es,z⟩]at p;exact p.elim
theorem zR3{f:List Dt->Option Dt}(h1:f []=none)(h2:∀d,(∀es,d≠.lst es)->f [d]=none)(h3:∀a b r,f (a::b::r)=none):∀ds,(∀es,ds≠[.lst es])->f ds=none:=by
 intro ds h
 match ds,h with
 |[],_=>exact h1
 |[d],h=>exact h2 d fun es z=>h es (by rw[z])
 |a::b::r,_=>exact h3 a b r
theorem zZS:CBi zY6 Mi.sumD n:=by
 refine zOD (zR3 rfl (fun d h=>by cases d<;>first|rfl|exact absurd rfl (h _)) fun a b r=>by cases a<;>rfl) (fun es h=>by rw[Mi.sumD,h]) fun mg E G H a es ns Q s ei ha p=>?_
 rw[Mi.sumD,ei]at p;dsimp only at p
 split at p
 ·rename_i hz
  exact⟨ns,ha,hz.1,hz.2,PostE.val p (Ext.refl s) rfl rfl⟩
 ·exact p.elim
theorem zP4(ns:List Int):(Mi.sortI ns).Perm ns:=qCj ns _
theorem zQB(ns:List Int):(Mi.sortI ns).Pairwise (·<=·):=by
 have:=qCs (le:=fun a b:Int=>decide (a<=b)) (fun a b c h1 h2=>by simp at h1 h2 ⊢;omega) (fun a b=>by simp;omega) ns
 exact this.imp fun h=>by simpa using h
theorem zS8:CBi zUJ Mi.sortD 1:=by
 refine zOD (zR3 rfl (fun d h=>by cases d<;>first|rfl|exact absurd rfl (h _)) fun a b r=>by cases a<;>rfl) (fun es h=>by rw[Mi.sortD,h]) fun mg E G H a es ns Q s ei ha p=>?_
 rw[Mi.sortD,ei]at p;dsimp only at p
 split at p
 ·rename_i hz
  refine .inl ⟨ns,ha,hz,fun ms h1 h2 l hl=>?_⟩
  have:ms=Mi.sortI ns:=qFg (h1.trans (zP4 ns).symm) h2 (zQB ns)
  subst this;exact PostE.lst p (Ext.refl s) (zD7 _) hl
 ·exact p.elim
end
end L3
namespace L3
open PySem PySem.Spec
open L2 hiding Rep RepL
open Mi (Dt Xn R okR zA9 optR zA2 zAE zAK zAH zAJ Rh Sl Ro EM TM AM FM IM SM Tg Out zB8 zB6 zBI full frz frz1 frzAt)
section
variable[Kc]{G0 H0 S0:Hp}{σ:St}{ρ:Ro}{G H:Hp}{As:Nat->Addr->Prop}
theorem Sat.forget(a:Sat G0 H0 S0 σ ρ G H As)(r:Nat)(v:V):Sat G0 H0 S0 (σ.set r (some v)) (ρ.set r none) G H As:=by
 refine⟨a.ext,a.stb,by simp[a.len],fun j e k h=>?_,a.dis,a.new⟩
 by_cases z:r=j
 ·subst z;have hj:r<ρ.length:=by
   have:=(qA3.mp h).1
   simpa using this
  rw[qAb hj]at h;cases h
 ·rw[qAj z]at h;obtain⟨u,h1,h2⟩:=a.at j e k h;exact⟨u,by rw[qAj z];exact h1,h2⟩
theorem Sat.row(a:Sat G0 H0 S0 σ ρ G H As){i k c:Nat}{rs ds:List Dt}{q:Addr}(er:ρ[i]?=some (some (.lst rs,k+2)))(hv:σ[i]?=some (some (.ref q)))(ec:rs[c]?=some (.lst ds)) :
  ∃(xs:List V)(qr:Addr)(ys:List V),H q=some (.lst xs)/\xs.length=rs.length/\xs[c]?=some (.ref qr)/\H qr=some (.lst ys)/\ys.length=ds.length /\
   ∀(ds':List Dt)(ys':List V),ys'.length=ds'.length->(∀(r:Nat)(d:Dt)(z:V),ds'[r]?=some d->ys'[r]?=some z->(ds[r]?=some d/\ys[r]?=some z)\/(d.dep=0/\Rep G d z)) ->
    Sat G0 H0 S0 σ (ρ.set i (some (.lst (rs.set c (.lst ds')),k+2))) G (upd H qr (.lst ys')) As:=by
 obtain⟨v,h1,q',xs,T,rfl,hq,kd⟩:=a.at i _ _ er;rw[hv]at h1;cases h1;have hc:c<xs.length:=by rw[kd.len];exact(qA3.mp ec).1
 have hxc:xs[c]?=some xs[c]:=qA8 hc;obtain⟨qr,ys,U,er2,hqr,kr⟩:=kd.own c _ _ ec hxc;refine⟨xs,qr,ys,hq,kd.len,by rw[hxc,er2],hqr,kr.len,fun ds' ys' hl hs=>?_⟩;have tqr:T c qr:=kr.top;have iqr:As i qr:=kd.sub c qr tqr;have qne:q≠qr:=fun z=>kd.out c (z▸tqr)
 have b:=a.store (S:=As i) (p:=qr) (o:=.lst ys') (d:=.lst (rs.set c (.lst ds'))) (n:=k+2) (v:=.ref q) iqr hv ⟨q,xs,T,rfl,(zB0 qne).trans hq,⟨by simp[kd.len],fun r d' xr g1 g2=>?_,kd.top,kd.out,kd.dis,kd.sub⟩⟩ fun b z=>.inl z
 ·refine⟨b.ext,b.stb,b.len,fun j d n h=>?_,a.dis,fun j b' h=>?_⟩
  ·obtain⟨v,g1,g2⟩:=b.at j d n h;refine⟨v,g1,?_⟩
   by_cases z:j=i
   ·subst z;rw[if_pos rfl]at g2;exact g2
   ·rw[if_neg z]at g2;exact g2
  ·have:=b.new j b' (by
    by_cases z:j=i
    ·subst z;rw[if_pos rfl];exact h
    ·rw[if_neg z];exact h)
   exact this
 ·by_cases hr:c=r
  ·subst hr;rw[qAb (by rw[<- kd.len];exact hc)]at g1;cases g1;rw[hxc]at g2;cases g2;refine⟨qr,ys',U,er2,zBB,⟨hl,fun r d z e1 e2=>?_,tqr,kr.out,kr.dis,kr.sub⟩⟩
   rcases hs r d z e1 e2 with⟨g3,g4⟩|⟨g3,g4⟩
   ·exact(kr.own r d z g3 g4).upd (kr.out r)
   ·exact zUR g4 g3
  ·rw[qAj hr]at g1;exact(kd.own r d' xr g1 g2).upd fun z=>hr (kd.dis c r qr tqr z)
end
section
variable[Kc]{mg:Str->Option Value}{E:XK}{L n k l:Nat}{te ta tb:TE}{e ea eb ma:EM}{t:TA}{m:AM}
end
end L3
namespace L2
open PySem PySem.Spec PyProof.Rows
section
variable{X:Cx}
end
end L2
namespace Mi
open PySem
noncomputable section
end
end Mi
namespace L3
open PySem PySem.Spec
open L2 hiding Rep RepL
open Mi (Dt Xn R okR zA9 optR zA2 zAE zAK zAH zAJ Rh Sl Ro EM TM AM FM IM SM Tg Out zB8 zB6 zBI full frz frz1 frzAt)
section
variable[Kc]{mg:Str->Option Value}{E:XK}{L n k l:Nat}{te ta tb:TE}{e ea eb ma:EM}{t:TA}{m:AM}
end
end L3
namespace L2
open PySem PySem.Spec PyProof.Rows
structure RoomH(k:Nat)(A:Around):Prop where
 dp:A.depth+3*k+5<recursionLimit
 un:A.units+16*k+200<cLine
structure FnOkH(P:Program)(w:World)(K:qA2)(mg:Str->Option Value)(base:Heap)(k:Nat)(f:Addr)(fd:FuncData)(ps:List Str)(sp:Sp):Prop where
 len:∀vs H Q E,sp vs H Q E->vs.length=ps.length
 run:∀(A:Around)(outer:List Env)(s:Shared)(H:Hp)(args:Args)(us:List Value)(vs:List V)(Q:VK)(E:XK),RoomH k A->Env0 P w K mg base A outer s H->BindsTo s fd args (ps.zip us)->Vals vs us->sp vs H Q E ->
  codeAny (model P w) A (.call (.ref f) args) (CR CX0 outer P w H s Q E) s
section
variable{X:Cx}{x:Str}{j k:Nat}{ps:List Str}{sp:Sp}{e:Expr}{es:List Expr}{t:TA}{p pos:Pos}
end
end L2
namespace L2
open PySem PySem.Spec PyProof.Rows
end L2
namespace Mi
def rowSet(ρ:Rh)(r:Nat)(e1 e2:EM):Dt->Option Dt
 |.lst ds=>match e2 (ρ.set r (some (.lst ds)))with
  |some (.ok (.int v))=>match e1 (ρ.set r (some (.lst ds)))with
   |some (.ok (.int z))=>match ixA ds.length z with
    |some p=>some (.lst (ds.set p (.int v)))
    |none=>none
   |_=>none
  |_=>none
 |_=>none
def rowsSet(ρ:Rh)(r:Nat)(e1 e2:EM):List Dt->Option (List Dt)
 |[]=>some []
 |d::t=>match rowSet ρ r e1 e2 d with
  |some d'=>(rowsSet ρ r e1 e2 t).map (d'::·)
  |none=>none
def sForSet(i r:Nat)(e1 e2:EM):SM:=fun ρ=>match ρ[i]? with
 |some (some (.lst rs,k+2))=>match rowsSet ((full ρ).set i none) r e1 e2 rs with
  |some rs'=>if i≠r/\r<ρ.length then okR (.nx ((ρ.set i (some (.lst rs',k+2))).set r none))else none
  |none=>none
 |_=>none
end Mi
namespace L3
open PySem PySem.Spec
open L2 hiding Rep RepL
open Mi (Dt Xn R okR zA9 optR zA2 zAE zAK zAH zAJ Rh Sl Ro EM TM AM FM IM SM Tg Out zB8 zB6 zBI full frz frz1 frzAt)
section
variable[Kc]{mg:Str->Option Value}{E:XK}{L n n1:Nat}{t1 t2:TE}{e1 e2:EM}
theorem rowsSet_len{ρ:Rh}{r:Nat}:∀{rs rs':List Dt},Mi.rowsSet ρ r e1 e2 rs=some rs'->rs'.length=rs.length
 |[],rs',h=>by cases h;rfl
 |d::t,rs',h=>by
  rw[Mi.rowsSet]at h
  split at h
  ·cases e:Mi.rowsSet ρ r e1 e2 t with
   |none=>rw[e]at h;cases h
   |some q=>rw[e]at h;cases h;simp[rowsSet_len e]
  ·cases h
theorem zQL{ρ:Rh}{r:Nat}{d d':Dt}(h:Mi.rowSet ρ r e1 e2 d=some d'):∃ds v z p,d=.lst ds/\e2 (ρ.set r (some (.lst ds)))=okR (.int v)/\e1 (ρ.set r (some (.lst ds)))=okR (.int z)/\Mi.ixA ds.length z=some p/\d'=.lst (ds.set p (.int v)):=by
 cases d with
 |lst ds=>
  unfold Mi.rowSet at h;dsimp only at h
  split at h
  ·rename_i v h2
   split at h
   ·rename_i z h1
    split at h
    ·rename_i p hp
     exact⟨ds,v,z,p,rfl,h2,h1,hp,(qAz h).symm⟩
    ·cases h
   ·cases h
  ·cases h
 |_=>cases h
theorem zJB{ρ:Rh}{r:Nat}:∀{rs rs':List Dt}{p:Nat},Mi.rowsSet ρ r e1 e2 rs=some rs'->p<rs.length->∃d d',rs[p]?=some d/\rs'[p]?=some d'/\Mi.rowSet ρ r e1 e2 d=some d'
 |[],rs',p,h,hp=>by simp at hp
 |d::t,rs',p,h,hp=>by
  rw[Mi.rowsSet]at h
  split at h
  ·rename_i d' hd
   cases e:Mi.rowsSet ρ r e1 e2 t with
   |none=>rw[e]at h;cases h
   |some q=>
    rw[e]at h;cases h;cases p with
    |zero=>exact⟨d,d',rfl,rfl,hd⟩
    |succ p=>exact zJB (p:=p) e (by simpa using hp)
  ·cases h
theorem zRV(i r:Nat)(A:DE mg E t1 e1 n1)(B:DE mg E t2 e2 n):DS mg E L (fun D σ H=>iAny Kc.K (vM i) σ H (zQ3 (zGN r) (tAsg t2 (gSub (vM r) t1 setM)) D σ)) (Mi.sForSet i r e1 e2):=by
 intro G0 H0 S0 σ ρ G H As D a p;unfold Mi.sForSet at p
 split at p
 ·rename_i rs k e1'
  split at p
  ·rename_i rs' ea
   split at p
   ·rename_i hir
    obtain⟨v,h1,q,xs0,T0,rfl,hq0,kd0⟩:=a.at i _ _ e1';unfold iAny vM;rw[h1];refine .inl ⟨⟨xs0,SqL.of hq0⟩,?_⟩;have hil:i<ρ.length:=(qA3.mp e1').1;have hal:=rowsSet_len ea;refine⟨fun j cc σ H=>cc=rs.length-j/\j<=rs.length/\σ[i]?=some (some (.ref q))/\(j=0->σ.length=ρ.length)/\∃As,Sat G0 H0 S0 σ (if j=0 then ρ else(ρ.set i (some (.lst (rs'.take j++rs.drop j),k+2))).set r none) G H As,
     ⟨_,rfl,qAp _,h1,fun _=>a.len.symm,As,by rw[if_pos rfl];exact a⟩,?_⟩
    rintro j cc σ H ⟨rfl,hj,hv,hsl,As,a⟩
    generalize hρ:(if j=0 then ρ else(ρ.set i (some (.lst (rs'.take j++rs.drop j),k+2))).set r none)=ρj at a
    have er:ρj[i]?=some (some (.lst (rs'.take j++rs.drop j),k+2)):=by
     rw[<- hρ]
     by_cases z:j=0
     ·subst z;rw[if_pos rfl];simpa using e1'
     ·rw[if_neg z,qAj (fun y=>hir.1 y.symm),qAb hil]
    have hfe:∀d,((full ρj).set i none).set r (some d)=((full ρ).set i none).set r (some d):=fun d=>by
     rw[<- hρ]
     by_cases z:j=0
     ·rw[if_pos z]
     ·rw[if_neg z];unfold Mi.full;rw[qFa,qFa,qGt _ _ (fun y:r=i=>hir.1 y.symm),qEg,qEg]
    obtain⟨v,h2,q',xs,T,e',hq,kd⟩:=a.at i _ _ er;rw[hv]at h2;cases h2;cases e';have hlen:(rs'.take j++rs.drop j).length=rs.length:=by simp[hal];omega
    by_cases hlt:j<rs.length
    ·obtain⟨d0,d1,g1,g2,g3⟩:=zJB ea hlt;obtain⟨ds,vv,zz,pp,rfl,k2,k1,kp,rfl⟩:=zQL g3;have ec:(rs'.take j++rs.drop j)[j]?=some (.lst ds):=by
      rw[qAg (by simp;omega)];simp[hal,qFu (qBo hlt),g1]
     refine .inr ⟨⟨xs,xs[j]'(by rw[kd.len,hlen];exact hlt),SqL.of hq,by simp⟩,fun σ' H'=>j+1<=rs.length/\σ'[i]?=some (some (.ref q))/\(j+1=0->σ'.length=ρ.length)/\∃As,Sat G0 H0 S0 σ' (if j+1=0 then ρ else(ρ.set i (some (.lst (rs'.take (j+1)++rs.drop (j+1)),k+2))).set r none) G H' As,fun σ' H' y=>⟨rs.length-(j+1),by omega,rfl,y⟩,fun x H2 hy=>?_⟩;obtain⟨rfl,hy⟩:=hy;obtain⟨xs2,qr,ys,w1,w2,w3,w4,w5,_⟩:=a.row er hv ec;have hx:=hy xs2 (SqL.of w1);rw[w3]at hx;cases hx;have hrl:r<σ.length:=by rw[<- a.len,<- hρ];by_cases z:j=0<;>simp[z,hir.2]
     obtain⟨J,xj,sj,wj⟩:=a.full;have rj:Rep J (.lst ds) (.ref qr):=by
      obtain⟨u,u1,u2⟩:=wj.at i (.lst (rs'.take j++rs.drop j)) (by unfold Mi.full;rw[qAk,er];rfl);rw[hv]at u1;cases u1;obtain⟨b,zs,z1,z2,z3⟩:=u2;cases z1;have z4:=xj.in' _ _ z2;rw[w1]at z4;cases z4;exact zCU z3 ec w3
     have wv:View J (σ.set r (some (.ref qr))) (((full ρ).set i none).set r (some (.lst ds))):=by
      rw[<- hfe];refine View.set ⟨by simp[wj.len],fun u d hu=>?_⟩ rj
      by_cases z:i=u
      ·subst z;rw[qAb (by rw[wj.len];exact(qA3.mp hv).1)]at hu;cases hu
      ·rw[qAj z]at hu;exact wj.at u d hu
     show tAsg t2 (gSub (vM r) t1 setM) _ (σ.set r (some (.ref qr))) _;refine zAM B J H2 _ _ _ xj.in' wv ?_;rw[k2];intro v2 G1 H1 S1 fr2 o2
     cases(show v2=.int vv from o2)
     unfold gSub vM;rw[qAb hrl];have x1:Ext J H2 J H1:=Ext.same xj.in' fr2.ext.h;refine zAM A J H1 _ _ _ x1.in' wv ?_;rw[k1];intro v3 G3 H3 S3 fr3 o3
     cases(show v3=.int zz from o3)
     have sH:=fr2.ext.h.trans fr3.ext.h;obtain⟨xs3,qr3,ys3,y1,y2,y3,y4,y5,y6⟩:=(a.grow sH).row er hv ec;have y7:=sH _ _ w1;rw[y1]at y7;cases y7;rw[w3]at y3;cases y3;have y8:=sH _ _ w4;rw[y4]at y8;cases y8;refine⟨ys,pp,y4,by rw[y5,<- zLS];exact kp,?_⟩;have a2:=(y6 (ds.set pp (.int vv)) (ys.set pp (.int vv)) (by simp[y5]) fun u d z e3 e4=>by
      by_cases hu:pp=u
      ·subst hu;have h3:=(qA3.mp e3).1;have h4:=(qA3.mp e4).1;rw[qAb (by simpa using h3)]at e3;rw[qAb (by simpa using h4)]at e4;cases e3;cases e4;exact .inr ⟨rfl,rfl⟩
      ·rw[qAj hu]at e3 e4;exact .inl ⟨e3,e4⟩).forget r (.ref qr)
     refine⟨hlt,by rw[qAj (fun y=>hir.1 y.symm)];exact hv,fun z=>by omega,As,?_⟩;rw[if_neg (by omega)];have eset:(rs'.take j++rs.drop j).set j (.lst (ds.set pp (.int vv)))=rs'.take (j+1)++rs.drop (j+1):=by
      have hj2:j<rs'.length:=by omega
      have gj:rs'[j]=.lst (ds.set pp (.int vv)):=by
       have:=qA8 hj2
       rw[g2]at this;exact(qAz this).symm
      rw[qEf _ _ (by simp;omega),qCy hj2,gj];simp only[qBx,qFu (qBo hj2),Nat.sub_self];rw[qCa]
      congr 1
      rw[qBt hlt];rfl
     rw[eset]at a2
     by_cases z:j=0
     ·subst z;rw[if_pos rfl]at hρ;subst hρ;exact a2
     ·rw[if_neg z]at hρ;subst hρ;have e5:(((ρ.set i (some (.lst (rs'.take j++rs.drop j),k+2))).set r none).set i (some (.lst (rs'.take (j+1)++rs.drop (j+1)),k+2))).set r none=(ρ.set i (some (.lst (rs'.take (j+1)++rs.drop (j+1)),k+2))).set r none:=by
       rw[qGt _ _ (fun y:r=i=>hir.1 y.symm),qEg,qEg]
      rw[e5]at a2;exact a2
    ·have ej:j=rs.length:=by omega
     subst ej;refine .inl ⟨⟨xs,SqL.of hq,by rw[kd.len,hlen];exact qA7 _⟩,?_⟩;have e6:rs'.take rs.length++rs.drop rs.length=rs':=by rw[<- hal,qCi,hal,qEb,qDj]
     by_cases z:rs.length=0
     ·rw[if_pos z]at hρ;subst hρ;have hrs:rs=[]:=qBz z;subst hrs
      have:rs'=[]:=qBz hal
      subst this;have e7:ρ.set i (some (.lst [],k+2))=ρ:=by
       have:=(qA3.mp e1').2
       rw[<- this,qDa]
      rw[e7]at p;refine p σ G H As ⟨a.ext,a.stb,by simp[a.len],fun j d n h=>?_,a.dis,a.new⟩
      by_cases y:r=j
      ·subst y;rw[qAb hir.2]at h;cases h
      ·rw[qAj y]at h;exact a.at j d n h
     ·rw[if_neg z,e6]at hρ;subst hρ;exact p σ G H As a
   ·exact p.elim
  ·exact p.elim
 ·exact p.elim
end
end L3
namespace Mi
def sSetL(i j:Nat)(vs:List Nat)(e:EM):SM:=fun ρ=>match(frzAt vs (low j ρ))[j]? with
 |some (some (.lst ds,1))=>zA9 (e ((frz (frzAt vs (low j ρ))).set j (some (.lst ds)))) fun d=>match d with
  |.lst es=>if Dt.depL es=0/\es.length≠ds.length then okR (.nx ((frzAt vs (low j ρ)).set i (some (.lst es,0))))else none
  |_=>none
 |_=>none
end Mi
namespace L3
open PySem PySem.Spec
open L2 hiding Rep RepL
open Mi (Dt Xn R okR zA9 optR zA2 zAE zAK zAH zAJ Rh Sl Ro EM TM AM FM IM SM Tg Out zB8 zB6 zBI full frz frz1 frzAt)
section
variable[Kc]{mg:Str->Option Value}{E:XK}{L n:Nat}{te:TE}{e:EM}
theorem zLH{G G2:Hp}:∀{es:List Dt}{ys:List V},RepL G es ys->Dt.depL es=0->RepL G2 es ys
 |[],_,h,_=>h
 |d::r,_,h,hd=>by
  obtain⟨x,q,rfl,h1,h2⟩:=h;have h3:d.dep=0/\Dt.depL r=0:=by
   simp only[Dt.depL]at hd;omega
  exact⟨x,q,rfl,h1.scalar h3.1,zLH h2 h3.2⟩
theorem zHH{G H:Hp}{q:Addr}:over G H (fun b=>b=q) q=H q:=zEO (S:=fun b=>b=q) rfl
theorem zI2{G H:Hp}{b q:Addr}(h:b≠q):over G H (fun b=>b=q) b=G b:=zD3 (S:=fun b=>b=q) h
theorem zRU(i j:Nat)(vs:List Nat)(A:DE mg E te e n):DS mg E L (tAsg te (zGN i)) (Mi.sSetL i j vs e):=by
 intro G0 H0 S0 σ ρ G H As D a p;unfold Mi.sSetL at p;obtain⟨G1,As1,a1⟩:=Sat.low a j;obtain⟨G2,As2,a2⟩:=Sat.frzAt vs a1
 split at p
 ·rename_i ds e1
  obtain⟨v,h1,q,xs,T,rfl,hq,kd⟩:=a2.at j _ _ e1;obtain⟨nq1,nq2,nq3⟩:=a2.new j q kd.top;obtain⟨s1,s2⟩:=zDQ (S:=fun b=>b=q) a2.ext.in';have x3:Ext G0 H0 (over G2 H fun b=>b=q) H:=⟨a2.ext.g.trans s1,a2.ext.h,s2,fun b hb=>by
   rw[zI2 (fun z=>hb (by rw[z];exact nq1))];exact a2.ext.old b hb⟩
  have rq:Rep (over G2 H fun b=>b=q) (.lst ds) (.ref q):=⟨q,xs,rfl,by rw[zHH];exact hq,zFN kd.len fun r d x g1 g2=>Rep.mono s1 (kd.own r d x g1 g2)⟩
  have w:=(View.mono s1 a2.frz)
  have w2:View (over G2 H fun b=>b=q) σ ((frz (frzAt vs (Mi.low j ρ))).set j (some (.lst ds))):=by
   have:=w.set (i:=j) rq
   rwa [show σ.set j (some (.ref q))=σ by
    have:=(qA3.mp h1).2
    rw[<- this,qDa]]at this
  refine(zAM A).step (errS.from x3) s2 w2 p fun d u G4 H4 S4 _ fr o p1=>?_
  split at p1
  ·rename_i es _
   split at p1
   ·rename_i hz
    obtain⟨pa,ys,rfl,k1,k2⟩:=(show Rep G4 (.lst es) u from o)
    have hne:pa≠q:=fun z=>by
     subst z
     have:=fr.ext.old pa nq3
     rw[k1,zHH,hq]at this;cases this;exact hz.2 (by rw[<- zT0 k2,kd.len])
    have hin:Same G2 H4:=a2.ext.in'.trans fr.ext.h;obtain⟨t1,t2⟩:=zDQ (S:=fun b=>b=pa) hin;have hpa:H4 pa=some (.lst ys):=fr.ext.in' _ _ k1;have x5:Ext G2 H (over G2 H4 fun b=>b=pa) H4:=⟨t1,fr.ext.h,t2,fun b hb=>by
     by_cases z:b=pa
     ·subst z;have g:=fr.ext.old b hb;rw[k1,zI2 hne]at g;rw[zHH,hpa,<- g]
     ·rw[zI2 z]⟩
    have o5:Own (over G2 H4 fun b=>b=pa) H4 0 (fun _=>False) (.lst es) (.ref pa):=⟨pa,ys,rfl,by rw[zHH];exact hpa,zLH k2 hz.1⟩
    exact p1 _ _ H4 _ ((a2.wider x5).put o5 (fun b z=>z.elim) fun _ _ _ _ z=>z.elim)
   ·exact p1.elim
  ·exact p1.elim
 ·exact p.elim
end
end L3
namespace L2
open PySem PySem.Spec PyProof.Rows
section
variable{X:Cx}{e m1:Expr}{te ts:TE}{pos p2:Pos}
end
end L2
namespace Mi
open PySem
noncomputable section
end
end Mi
namespace L3
open PySem PySem.Spec
open PyProof.Rows (risingS sortedS ltCps_eq)
open L2 hiding Rep RepL
open Mi (Dt Xn R okR zA9 optR zA2 zAE zAK zAH zAJ Rh Sl Ro EM TM AM FM IM SM OM Tg Out zB8 zB6 zBI full frz frz1 frzAt)
section
variable[Kc]{mg:Str->Option Value}{E:XK}{L n k l:Nat}{te ta tb:TE}{e ea eb ma:EM}{t:TA}{m:AM}
end
end L3
namespace L2
open PySem PySem.Spec PyProof.Rows
section
variable{X:Cx}{x:Str}{C:Addr}{p pos:Pos}
end
def za6(K:qA2)(fl:List Str):Sp:=fun vs H Q _=>∃(x C dx:Addr)(ys:List V),vs=.ref x::ys/\ys.length=fl.length/\H x=some (.ins C dx [])/\Cls K C/\(∀f∈fl,zVG K C f)/\Q .non (upd H x (.ins C dx (fl.zip ys)))
section
variable{X:Cx}{m:Str}{k:Nat}{E:XK}{o e:Expr}{es:List Expr}{ta:TE}{t:TA}{apos pos:Pos}{tb:List (Addr×Sp)}
end
structure OIs(K:qA2)(C:Addr):Prop where
 cl:Cls K C
 ha:qB3 K (.ref C) "__class__" = some (some (.builtin "object.__class__"))
 hn:qD1 K (.builtin "object.__class__") "__get__" = some (some (.builtin "getset_descriptor.__get__"))
 htk:qFl K (.builtin "object.__class__")=some true
 hm:qGp K C (.type "object")=some true
end L2
namespace Mi
open PySem
noncomputable section
end
end Mi
namespace L3
open PySem PySem.Spec
open L2 hiding Rep RepL
open Mi (Dt Xn R okR zA9 optR zA2 zAE zAK zAH zAJ Rh Sl Ro EM TM AM FM IM SM OM Tg Out zB8 zB6 zBI full frz frz1 frzAt)
structure OCls(K:qA2)(mg:Str->Option Value)(c:Str)(C:Addr):Prop where
 cl:clK K c=some C
 gm:mg c=some (.ref C)
 is:OIs K C
structure ONew(K:qA2)(mg:Str->Option Value)(c:Str)(C:Addr):Prop extends OCls K mg c C where
 mks:qFm K C=true
 ini:qB3 K (.ref C) "__init__" = some (some (.builtin "object.__init__"))
 kp:qB7 K (.ref C)=true
structure OIni(P:Program)(w:World)(K:qA2)(mg:Str->Option Value)(base:Heap)(c:Str)(fl:List Str)(C:Addr):Prop extends OCls K mg c C where
 na:∀f∈fl,zVG K C f
 ini:∃fI fd ps,Mk K C fI/\FnOk P w K mg base (CXe P w) 1 fI fd ps (za6 K fl)/\Binds K fd ps []
section
variable{X:Cx}{c:Str}{fl:List Str}{C:Addr}{k:Nat}{E:XK}{e:Expr}{es:List Expr}{t:TA}{p pos:Pos}
end
section
variable[Kc]{mg:Str->Option Value}{E:XK}{L n k l:Nat}{te ta tb:TE}{e ea eb ma:EM}{t:TA}{m:AM}
end
end L3
namespace Mi
open PySem
noncomputable section
end
end Mi
namespace L2
open PySem PySem.Spec PyProof.Rows
section
variable{X:Cx}{m:Str}{k:Nat}{o e:Expr}{es:List Expr}{ta:TE}{t:TA}{apos pos:Pos}{tb:List (Addr×Sp)}
end
section
variable{prog:Program}{w:World}{A:Around}{E:Value->Shared->Prop}{s:Shared}
end
section
variable{X:Cx}{pos:Pos}
end
end L2
namespace L3
open PySem PySem.Spec
open L2 hiding Rep RepL
open Mi (Dt Xn R okR zA9 optR zA2 zAE zAK zAH zAJ Rh Sl Ro EM TM AM FM IM SM OM Tg Out zB8 zB6 zBI full frz frz1 frzAt)
section
variable[Kc]{mg:Str->Option Value}{E:XK}{L n k l:Nat}{te ta tb:TE}{e ea eb ma:EM}{t:TA}{m:AM}
end
end L3
namespace L2
open PySem PySem.Spec PyProof.Rows
theorem zJR{M:Model}{A:Around}{E:Value->Shared->Prop}{s:Shared}{src:Source}{n:Nat}{Q:Nat->Shared->Prop}(hn:n≠0)(h:∀i d,i<n->Q i { s with drawn:=d }):wpAny M A (choose src n) Q E s:=
 fun Γ p hΓ=>⟨hn,h _ _ (qGn _ (Nat.pos_of_ne_zero hn))⟩
theorem zPF(t:SetTable)(es:Array (Int×Value))(h:Int)(x:Value):(layNew t es h x).2.1.led=t.led:=by
 unfold layNew
 split
 ·dsimp only;unfold SetTable.orStandIn
  split<;>rfl
 ·rfl
theorem zLJ{t t':SetTable}{hs:Array Int}{w:Nat}{o:Array Nat}(h:t.relaid hs w=some (t',o)):t'.led=t.led/\t'.plain=t.plain:=by
 unfold SetTable.relaid SetTable.laid at h;cases e:SetTable.layClean (SetTable.sizeAbove w-1) hs with
 |none=>rw[e]at h;cases h
 |some ow=>
  rw[e]at h;have h':=qAz h
  have:=congrArg qFj h'
  dsimp only at this;rw[<- this];exact⟨rfl,rfl⟩
theorem zJ2(t:SetTable)(es:Array (Int×Value))(wanted:Nat):(relayAll t es wanted).2.1.led=t.led/\(t.plain=false->(relayAll t es wanted).2.1.plain=false):=by
 unfold relayAll
 split
 ·rename_i t' order e
  obtain⟨h1,h2⟩:=zLJ e;dsimp only
  split
  ·exact⟨h1,fun h=>h2.trans h⟩
  ·exact⟨rfl,fun _=>rfl⟩
 ·exact⟨rfl,fun _=>rfl⟩
section
variable{prog:Program}{w:World}{A:Around}{E:Value->Shared->Prop}{s:Shared}
end
end L2
namespace L2
open PySem PySem.Spec PyProof.Rows
section
variable{prog:Program}{w:World}{A:Around}{R:Result->Shared->Prop}{I:Addr}{fp wr:List Addr}{G:Array GenState->Array GenState->Prop}{n:Nat}{St:Nat->Shared->Prop}{led:Bool}{z:Str}
end
end L2
namespace PySem
open PyProof.Rows
theorem zJX{prog:Program}{w:World}{A:Around}{E:Value->Shared->Prop}{s:Shared}(a:Value){Q₁:Value->Shared->Prop}
  (h:Q₁ (.ref s.heap.objs.size) { s with heap:=s.heap.push { cls:=.type "set",dict:=none,data:=.set #[] 0 (.fresh 0 0 (!w.params.followText "set-order")) } }) :
  codeAny (model prog w) A (.call (.builtin "set.__new__") ⟨[.type "set",a],[]⟩) (wants Q₁ E) s:=by
 refine codeAny_of_tree ?_;show wpAny _ A.in1 (do checkBuiltinCall "set.__new__" ⟨[.type "set",a],[]⟩;again (.builtin "set.__new__" ⟨[.type "set",a],[]⟩)) _ _ s;refine wpAny_bind (wpAny_of_eq (F.newCall_set_1 a) (wpAny_pure ⟨plainId_quiet F.plain_set_new _,codeAny_builtin F.entry_set_new ?_⟩));rw[Around.under_plainId F.plain_set_new _];unfold Builtin.«set.__new__» Builtin.Frozenset.newClass;have hsub:=sub_set_self;obtain⟨hp,g,d,tk,os⟩:=s;dsimp only
 wp_walk
 refine wpAny_askSetting (wpAny_pure ?_);dsimp only;simp only[newObj];refine wpAny_bind (wpAny_alloc (wpAny_pure ?_));exact wpAny_pure h
end PySem
namespace L2
open PySem PySem.Spec PyProof.Rows
theorem slot_si_next:Slot "set_iterator" "__next__" "set_iterator.__next__":=
 .of (owner:="set_iterator") (n:="__next__") (by rw[typeLookup_type,builtinLookup_eq_fast];kernel_rfl) (by decide +kernel) (by decide +kernel) (by decide +kernel)
  (by first|exact .inl (by decide +kernel)|exact .inr (by decide +kernel)) (by rw[isSubtype_type];kernel_rfl)
theorem zH1:Slot "set_iterator" "__iter__" "set_iterator.__iter__":=
 .of (owner:="set_iterator") (n:="__iter__") (by rw[typeLookup_type,builtinLookup_eq_fast];kernel_rfl) (by decide +kernel) (by decide +kernel) (by decide +kernel)
  (by first|exact .inl (by decide +kernel)|exact .inr (by decide +kernel)) (by rw[isSubtype_type];kernel_rfl)
theorem zDI:entryFor table "set_iterator.__next__" = some Builtin.«set_iterator.__next__»:=entryFor_of_fast (by kernel_rfl)
theorem zKL:entryFor table "set_iterator.__iter__" = some Builtin.«dict_keyiterator.__iter__»:=entryFor_alias (id':="dict_keyiterator.__iter__") (by kernel_rfl) rfl (by decide +kernel) (by kernel_rfl)
theorem zII:entryFor table "set.__iter__" = some Builtin.«frozenset.__iter__»:=entryFor_alias (id':="frozenset.__iter__") (by kernel_rfl) rfl (by decide +kernel) (by kernel_rfl)
theorem zE3(a:Value):argsOk "set_iterator.__next__" ⟨[a],[]⟩:=by unfold argsOk;kernel_rfl
theorem zML(a:Value):argsOk "set_iterator.__iter__" ⟨[a],[]⟩:=by unfold argsOk;kernel_rfl
def IsSI(h:Heap)(it:Addr)(vs:Array Value):Prop:=∃o,h.get? it=some o/\o.cls=.type "set_iterator"/\o.data=.fields vs
section
variable{prog:Program}{w:World}{A:Around}{E:Value->Shared->Prop}{s:Shared}
theorem zQF{it:Addr}{vs:Array Value}{Q:Value->Shared->Prop}(hit:IsSI s.heap it vs)(h:Q (.ref it) s):wpAny (model prog w) A (pyIter (.ref it)) Q E s:=by
 obtain⟨o,ho,hc,hd⟩:=hit;have hT:s.TypeIs (.ref it) "set_iterator":=⟨o,ho,hc⟩
 refine wpAny_pyIter_slot hT zH1 (wpAny_call_entry zH1 hT zKL ?_ (zML _));show wpAny _ _ (ret (.ref it)) _ _ s;exact wpAny_pure ⟨_,rfl,"set_iterator",_,hT,slot_si_next.lookup,h⟩
theorem zQE{P:Fin->Shared->Prop}{E':Value->Shared->Prop}(hh:A.handled=none)(h:∀x h',Heap.ExtBut s.heap.objs.size s.heap h'->(∀b o,s.heap.get? b=some o->h'.get? b=some o)->(∃ox,h'.get? x=some ox/\ox.cls=.type "StopIteration")->E' (.ref x) { s with heap:=h' }) :
  wpAny (model prog w) A (newExc (.type "StopIteration") [] >>= fun x=>(raiseNew x:Sem Fin)) P E' s:=by
 refine wpAny_bind ?_;simp only[newExc,newTuple];refine wpAny_bind (wpAny_newObj_type ?_ (by size_fits));refine wpAny_bind (m:=firstArgMember _ _) (wpAny_of_eq (a:=Value.none) (by first|rfl|(simp only[firstArgMember];rfl)) ?_);refine wpAny_newObj_type ?_ (by size_fits);simp only[raiseNew];refine wpAny_bind (wpAny_handled ?_);rw[hh];refine wpAny_bind (wpAny_pure (wpAny_throw ?_));exact h _ _ (fun b o hb e=>Heap.get?_push_of_some _ (Heap.get?_push_of_some _ e)) (fun b o e=>Heap.get?_push_of_some _ (Heap.get?_push_of_some _ e)) ⟨_,Heap.get?_push_size _ rfl,rfl⟩
theorem zLB{it a:Addr}{es:Array (Int×Value)}{ep:Nat}{tb:SetTable}{os:Obj}{sl i nx:Nat}{x:Value}{Q:Option Value->Shared->Prop}(hne:a≠it)
  (hit:IsSI s.heap it #[.int sl 0,.int i 0,.ref a,.int es.size 0,.int ep 0]) (ho:s.heap.get? a=some os) (hd:os.data=.set es ep tb) (hf:tb.fits es.size=true)
  (hN:∀(s:Shared)(Q:Option (Value×Nat)->Shared->Prop)(A:Around)(E:Value->Shared->Prop),s.heap.get? a=some os->Q (some (x,nx)) s->wpAny (model prog w) A (setNext a sl i ep) Q E s)
  (hQ:∀h',IsSI h' it #[.int nx 0,.int (i+1:Nat) 0,.ref a,.int es.size 0,.int ep 0]->Heap.SameBut it s.heap h'->Q (some x) { s with heap:=h' }) :
  wpAny (model prog w) A (pyNext (.ref it)) Q E s:=by
 obtain⟨o,hoi,hc,hdi⟩:=hit;have hT:s.TypeIs (.ref it) "set_iterator":=⟨o,hoi,hc⟩
 unfold pyNext;refine wpAny_bind (wpAny_attempt (wpAny_callSpecial?_slot (name:=Str.ofString "__next__") hT slot_si_next (wpAny_call_entry slot_si_next hT zDI ?_ (zE3 _))));unfold Builtin.«set_iterator.__next__»;refine wpAny_bind (m:=slotArgs "__next__" 0 _) (wpAny_pure ?_);refine wpAny_bind (wpAny_fieldsOf hoi hdi ?_);dsimp only;refine wpAny_bind (wpAny_setEntries_of ho hd hf ?_);rw[if_neg (by simp)];refine wpAny_bind (hN _ _ _ _ ho ?_);dsimp only;refine wpAny_bind (wpAny_setField hoi hdi (by simp) ?_);have e1:=Heap.get?_update_self (Obj.mapFields (·.setIfInBounds 0 (rawInt (nx:Nat)))) hoi (Obj.isFreed_of_fields (Obj.data_mapFields hdi _));refine wpAny_bind (wpAny_setField e1 (Obj.data_mapFields hdi _) (by simp) ?_);have e2:=Heap.get?_update_self (Obj.mapFields (·.setIfInBounds 1 (rawInt ((i:Int)+1)))) e1 (Obj.isFreed_of_fields (Obj.data_mapFields (Obj.data_mapFields hdi _) _));refine wpAny_pure ⟨x,rfl,wpAny_pure (hQ _ ⟨_,e2,?_,?_⟩ ((Heap.SameBut.update ..).trans (Heap.SameBut.update ..)))⟩
 ·rw[Obj.cls_mapFields,Obj.cls_mapFields,hc]
 ·rw[Obj.data_mapFields (Obj.data_mapFields hdi _)];simp[rawInt]
theorem zMV{it a:Addr}{es:Array (Int×Value)}{ep:Nat}{tb:SetTable}{os:Obj}{sl i:Nat}{Q:Option Value->Shared->Prop}(hh:A.handled=none)(hne:a≠it)
  (hit:IsSI s.heap it #[.int sl 0,.int i 0,.ref a,.int es.size 0,.int ep 0]) (ho:s.heap.get? a=some os) (hd:os.data=.set es ep tb) (hf:tb.fits es.size=true)
  (hN:∀(s:Shared)(Q:Option (Value×Nat)->Shared->Prop)(A:Around)(E:Value->Shared->Prop),s.heap.get? a=some os->Q none s->wpAny (model prog w) A (setNext a sl i ep) Q E s)
  (hQ:∀h',Heap.ExtBut it s.heap h'->Q none { s with heap:=h' }) :
  wpAny (model prog w) A (pyNext (.ref it)) Q E s:=by
 obtain⟨o,hoi,hc,hdi⟩:=hit;have hT:s.TypeIs (.ref it) "set_iterator":=⟨o,hoi,hc⟩
 unfold pyNext;refine wpAny_bind (wpAny_attempt (wpAny_callSpecial?_slot (name:=Str.ofString "__next__") hT slot_si_next (wpAny_call_entry slot_si_next hT zDI ?_ (zE3 _))));unfold Builtin.«set_iterator.__next__»;refine wpAny_bind (m:=slotArgs "__next__" 0 _) (wpAny_pure ?_);refine wpAny_bind (wpAny_fieldsOf hoi hdi ?_);dsimp only;refine wpAny_bind (wpAny_setEntries_of ho hd hf ?_);rw[if_neg (by simp)];refine wpAny_bind (hN _ _ _ _ ho ?_);dsimp only;refine wpAny_bind (wpAny_setField hoi hdi (by simp) ?_);refine zQE hh fun x h' _ hk hx=>?_
 obtain⟨ox,hox,hcx⟩:=hx;refine wpAny_bind (wpAny_isInstance (T:="StopIteration") (b:=true) ⟨ox,hox,hcx⟩ isSubtype_stop ?_);exact wpAny_pure (hQ _ fun b o' hb e=>hk b o' ((Heap.get?_update_other _ _ (qDs hb)).trans e))
theorem zLC{it a T:Addr}{es:Array (Int×Value)}{ep:Nat}{tb:SetTable}{os:Obj}{i p:Nat}{t0:Tok}{h0:Int}{x:Value}{ps:Array Value}{Q:Option Value->Shared->Prop}(hne:a≠it)
  (hit:IsSI s.heap it #[.ref T,.int i 0,.ref a,.int es.size 0,.int ep 0]) (ho:s.heap.get? a=some os) (hd:os.data=.set es ep tb) (hf:tb.fits es.size=true)
  (hT0:∃oT n,s.heap.get? T=some oT/\oT.data=.seq ps n) (hp:ps[i]?=some (.int p t0)) (hx:es[p]?=some (h0,x))
  (hQ:∀h',IsSI h' it #[.ref T,.int (i+1:Nat) 0,.ref a,.int es.size 0,.int ep 0]->Heap.SameBut it s.heap h'->Q (some x) { s with heap:=h' }) :
  wpAny (model prog w) A (pyNext (.ref it)) Q E s:=by
 obtain⟨o,hoi,hc,hdi⟩:=hit;obtain⟨oT,nT,hoT,hdT⟩:=hT0;have hT:s.TypeIs (.ref it) "set_iterator":=⟨o,hoi,hc⟩
 unfold pyNext;refine wpAny_bind (wpAny_attempt (wpAny_callSpecial?_slot (name:=Str.ofString "__next__") hT slot_si_next (wpAny_call_entry slot_si_next hT zDI ?_ (zE3 _))));unfold Builtin.«set_iterator.__next__»;refine wpAny_bind (m:=slotArgs "__next__" 0 _) (wpAny_pure ?_);refine wpAny_bind (wpAny_fieldsOf hoi hdi ?_);dsimp only;refine wpAny_bind (wpAny_setEntries_of ho hd hf ?_);rw[if_neg (by simp)];refine wpAny_bind (wpAny_seqItems hoT hdT ?_);dsimp only;simp only[qBm,hp];refine wpAny_bind ?_;unfold setNextDrawn;refine wpAny_bind (wpAny_setState_of ho hd hf ?_);dsimp only;rw[if_neg (by simp)];simp only[qBm,hx];refine wpAny_pure ?_;refine wpAny_bind (wpAny_setField hoi hdi (by simp) ?_);have e1:=Heap.get?_update_self (Obj.mapFields (·.setIfInBounds 1 (rawInt ((i:Int)+1)))) hoi (Obj.isFreed_of_fields (Obj.data_mapFields hdi _));refine wpAny_pure ⟨x,rfl,wpAny_pure (hQ _ ⟨_,e1,?_,?_⟩ (Heap.SameBut.update ..))⟩
 ·rw[Obj.cls_mapFields,hc]
 ·rw[Obj.data_mapFields hdi];simp[rawInt]
theorem zMW{it a T:Addr}{es:Array (Int×Value)}{ep:Nat}{tb:SetTable}{os:Obj}{i:Nat}{ps:Array Value}{Q:Option Value->Shared->Prop}(hh:A.handled=none)(hne:a≠it)
  (hit:IsSI s.heap it #[.ref T,.int i 0,.ref a,.int es.size 0,.int ep 0]) (ho:s.heap.get? a=some os) (hd:os.data=.set es ep tb) (hf:tb.fits es.size=true)
  (hT0:∃oT n,s.heap.get? T=some oT/\oT.data=.seq ps n) (hp:ps[i]?=none)
  (hQ:∀h',Heap.ExtBut it s.heap h'->Q none { s with heap:=h' }) :
  wpAny (model prog w) A (pyNext (.ref it)) Q E s:=by
 obtain⟨o,hoi,hc,hdi⟩:=hit;obtain⟨oT,nT,hoT,hdT⟩:=hT0;have hT:s.TypeIs (.ref it) "set_iterator":=⟨o,hoi,hc⟩
 unfold pyNext;refine wpAny_bind (wpAny_attempt (wpAny_callSpecial?_slot (name:=Str.ofString "__next__") hT slot_si_next (wpAny_call_entry slot_si_next hT zDI ?_ (zE3 _))));unfold Builtin.«set_iterator.__next__»;refine wpAny_bind (m:=slotArgs "__next__" 0 _) (wpAny_pure ?_);refine wpAny_bind (wpAny_fieldsOf hoi hdi ?_);dsimp only;refine wpAny_bind (wpAny_setEntries_of ho hd hf ?_);rw[if_neg (by simp)];refine wpAny_bind (wpAny_seqItems hoT hdT ?_);dsimp only;simp only[qBm,hp];refine wpAny_bind (wpAny_setField hoi hdi (by simp) ?_);have e1:=Heap.get?_update_self (Obj.mapFields (·.setIfInBounds 0 (rawInt 0))) hoi (Obj.isFreed_of_fields (Obj.data_mapFields hdi _));refine wpAny_bind (wpAny_setField e1 (Obj.data_mapFields hdi _) (by simp) ?_);refine zQE hh fun x h' _ hk hx=>?_
 obtain⟨ox,hox,hcx⟩:=hx;refine wpAny_bind (wpAny_isInstance (T:="StopIteration") (b:=true) ⟨ox,hox,hcx⟩ isSubtype_stop ?_);exact wpAny_pure (hQ _ fun b o' hb e=>hk b o' ((Heap.get?_update_other _ _ (qDs hb)).trans ((Heap.get?_update_other _ _ (qDs hb)).trans e)))
end
end L2
namespace L2
open PySem PySem.Spec PyProof.Rows
section
variable{prog:Program}{w:World}{A:Around}{E:Value->Shared->Prop}{s:Shared}
theorem zL0(hh:A.handled=none){it a:Addr}(hne:a≠it){es:Array (Int×Value)}{ep:Nat}{tb:SetTable}{os:Obj}(hd:os.data=.set es ep tb)(hf:tb.fits es.size=true)(vs:Nat->Value)(sl:Nat->Nat)
  (hN:∀i,i<es.size->∀(s:Shared)(Q:Option (Value×Nat)->Shared->Prop)(A:Around)(E:Value->Shared->Prop),s.heap.get? a=some os->Q (some (vs i,sl (i+1))) s->wpAny (model prog w) A (setNext a (sl i) i ep) Q E s)
  (hE:∀(s:Shared)(Q:Option (Value×Nat)->Shared->Prop)(A:Around)(E:Value->Shared->Prop),s.heap.get? a=some os->Q none s->wpAny (model prog w) A (setNext a (sl es.size) es.size ep) Q E s) :
  Walks prog w A it [it,a] [it] es.size (fun i v=>v=vs i) (fun i h=>IsSI h it #[.int (sl i) 0,.int i 0,.ref a,.int es.size 0,.int ep 0]/\h.get? a=some os) where
 sub:=fun b hb=>by simp at hb;simp[hb]
 frame:=fun i h h' st hk=>⟨let⟨o,ho,r⟩:=st.1;⟨o,hk it (by simp) o ho,r⟩,hk a (by simp) _ st.2⟩
 item:=fun i s Q E hi st hQ=>by
  have hs:s={ s with toks:=s.toks }:=by cases s;rfl
  refine zLB hne st.1 st.2 hd hf (hN i hi) fun h' hit' hs'=>?_
  exact hQ _ h' s.toks rfl ⟨hit',(hs'.2 a hne).trans st.2⟩ fun b o hb e=>(hs'.2 b fun z=>hb (by simp[z])).trans e
 done:=fun s Q E st hQ=>by
  refine zMV hh hne st.1 st.2 hd hf hE fun h' he'=>?_
  exact hQ h' s.toks fun b o hb e=>he' b o (fun z=>hb (by simp[z])) e
 self:=fun i s Q E st hQ=>zQF st.1 hQ
theorem zPT(hh:A.handled=none){it a T:Addr}(hne:a≠it)(hTi:T≠it){es:Array (Int×Value)}{ep:Nat}{tb:SetTable}{os oT:Obj}{nT:Nat}(hd:os.data=.set es ep tb)(hf:tb.fits es.size=true)(ps:List Nat)(hps:ps.length=es.size)(hlt:∀p∈ps,p<es.size)(hdT:oT.data=.seq (ps.map fun p:Nat=>rawInt (p:Int)).toArray nT) :
  Walks prog w A it [it,a,T] [it] es.size (fun i v=>∃p h0,ps[i]?=some p/\es[p]?=some (h0,v)) (fun i h=>IsSI h it #[.ref T,.int i 0,.ref a,.int es.size 0,.int ep 0]/\h.get? a=some os/\h.get? T=some oT) where
 sub:=fun b hb=>by simp at hb;simp[hb]
 frame:=fun i h h' st hk=>⟨let⟨o,ho,r⟩:=st.1;⟨o,hk it (by simp) o ho,r⟩,hk a (by simp) _ st.2.1,hk T (by simp) _ st.2.2⟩
 item:=fun i s Q E hi st hQ=>by
  have hpi:ps[i]?=some ps[i]:=qA8 (by omega);have hpl:ps[i]<es.size:=hlt _ (qC0 _);have hx:es[ps[i]]?=some (es[ps[i]].1,es[ps[i]].2):=by simp[hpl]
  refine zLC (p:=ps[i]) (t0:=0) hne st.1 st.2.1 hd hf ⟨oT,nT,st.2.2,hdT⟩ (by rw[List.getElem?_toArray,qAk,hpi];rfl) hx fun h' hit' hs'=>?_
  exact hQ _ h' s.toks ⟨_,_,hpi,hx⟩ ⟨hit',(hs'.2 a hne).trans st.2.1,(hs'.2 T hTi).trans st.2.2⟩ fun b o hb e=>(hs'.2 b fun z=>hb (by simp[z])).trans e
 done:=fun s Q E st hQ=>by
  refine zMW hh hne st.1 st.2.1 hd hf ⟨oT,nT,st.2.2,hdT⟩ (by simp[hps]) fun h' he'=>?_
  exact hQ h' s.toks fun b o hb e=>he' b o (fun z=>hb (by simp[z])) e
 self:=fun i s Q E st hQ=>zQF st.1 hQ
theorem zGQ{α:Type}:∀(l:List α){i:Nat}(h:i<l.length),(l[i]::l.eraseIdx i).Perm l
 |a::r,0,h=>by simp
 |a::r,i+1,h=>by
  have:=zGQ r (i:=i) (by simpa using h)
  simp only[List.getElem_cons_succ,List.eraseIdx_cons_succ];exact(List.Perm.swap _ _ _).trans (this.cons a)
theorem zJM{α:Type}:∀(n:Nat)(xs:List α)(s:Shared)(Q:List α->Shared->Prop),xs.length=n->(∀ys d,ys.Perm xs->Q ys { s with drawn:=d })->wpAny (model prog w) A (drawOrder n xs) Q E s
 |0,xs,s,Q,hl,h=>by
  have e:xs=[]:=qCt.mp hl;subst e;unfold drawOrder
  have:=h [] s.drawn (List.Perm.refl _)
  exact wpAny_pure this
 |n+1,[],s,Q,hl,h=>by simp at hl
 |n+1,x::xs,s,Q,hl,h=>by
  unfold drawOrder;refine wpAny_bind (zJR (by simp) fun i d hi=>?_);have hget:(x::xs)[i]?=some ((x::xs)[i]'hi):=qA8 hi;rw[hget];dsimp only;refine wpAny_bind (zJM n _ _ _ (by rw[qCc hi];simp at hl ⊢;omega) fun ys d' hp=>wpAny_pure ?_);exact h _ d' ((hp.cons _).trans (zGQ _ hi))
theorem zQX{α:Type}(next:Nat->Nat):∀(fuel k:Nat)(left:List α)(out:Array α),left.length=fuel->(pickOrder.go next fuel k left out).toList.Perm (out.toList++left)
 |0,k,left,out,hl=>by
  have e:left=[]:=qCt.mp hl;subst e;simp[pickOrder.go]
 |fuel+1,k,left,out,hl=>by
  unfold pickOrder.go;have hi:next k%left.length<left.length:=qGn _ (by omega)
  have hget:left[next k%left.length]?=some (left[next k%left.length]'hi):=qA8 hi;rw[hget];dsimp only;refine(zQX next fuel (k+1) _ _ (by rw[qCc hi];omega)).trans ?_;rw[qDx,qCa];exact List.Perm.append_left _ (zGQ left hi)
theorem zQW(next:Nat->Nat){α:Type}(xs:Array α):(pickOrder next xs).toList.Perm xs.toList:=by
 have:=zQX next xs.size 0 xs.toList #[] (by simp)
 unfold pickOrder
 simpa using this
end
end L2
namespace L2
open PySem PySem.Spec PyProof.Rows
theorem zVS:typeLookup (.type "set") "__len__" = pure (some (.builtin "set.__len__")):=by rw[typeLookup_type,builtinLookup_eq_fast];kernel_rfl
section
variable{prog:Program}{w:World}{A:Around}{E:Value->Shared->Prop}{s:Shared}
end
end L2
namespace Mi
open PySem
noncomputable section
end
end Mi
namespace L2
open PySem PySem.Spec PyProof.Rows
section
variable{X:Cx}{pins:List (Addr×Obj)}{σ:List (Option V)}{H:Hp}{s:Shared}
theorem Inv.drawn(I:Inv X pins σ H s)(d:Drawn):Inv X pins σ H { s with drawn:=d }:=⟨I.ok,I.os,I.bare,I.base,I.loc,I.cell,I.free,I.freeC,I.pin,I.hok,I.len⟩
end
theorem zS9:bootBuiltins "set" = some (.type "set"):=by decide +kernel
end L2
namespace L3
open PySem PySem.Spec
open PyProof.Rows (risingS sortedS ltCps_eq)
open L2 hiding Rep RepL
open Mi (Dt Xn R okR zA9 optR zA2 zAE zAK zAH zAJ Rh Sl Ro EM TM AM FM IM SM OM Tg Out zB8 zB6 zBI full frz frz1 frzAt)
section
variable[Kc]{mg:Str->Option Value}{E:XK}{L n k l:Nat}{te ta tb:TE}{e ea eb ma:EM}{t:TA}{m:AM}
end
end L3
namespace Mi
open PySem
noncomputable section
end
end Mi
namespace PySem
open Builtin Builtin.Str PySem.Spec
end PySem
namespace L2
open PySem PySem.Spec PyProof.Rows
section
variable{X:Cx}{pins:List (Addr×Obj)}{σ:List (Option V)}{H:Hp}{s:Shared}
end
end L2
namespace L3
open PySem PySem.Spec
open PyProof.Rows (risingS sortedS ltCps_eq)
open L2 hiding Rep RepL
open Mi (Dt Xn R okR zA9 optR zA2 zAE zAK zAH zAJ Rh Sl Ro EM TM AM FM IM SM OM Tg Out zB8 zB6 zBI full frz frz1 frzAt)
section
variable[Kc]{mg:Str->Option Value}{E:XK}{L n k l:Nat}{te ta tb:TE}{e ea eb ma:EM}{t:TA}{m:AM}
end
end L3
namespace Mi
open PySem
noncomputable section
end
end Mi
namespace L2
open PySem PySem.Spec PyProof.Rows
section
variable{prog:Program}{w:World}{A:Around}{E:Value->Shared->Prop}{s:Shared}
end
section
variable{X:Cx}{pins:List (Addr×Obj)}{σ:List (Option V)}{H:Hp}{s:Shared}
end
end L2
namespace L3
open PySem PySem.Spec
open L2 hiding Rep RepL
open Mi (Dt Xn R okR zA9 optR zA2 zAE zAK zAH zAJ Rh Sl Ro EM TM AM FM IM SM OM Tg Out zB8 zB6 zBI full frz frz1 frzAt)
section
variable[Kc]{mg:Str->Option Value}{E:XK}{L n k l:Nat}{te ta tb:TE}{e ea eb ma:EM}{t:TA}{m:AM}
end
end L3
namespace L2
open PySem PySem.Spec
structure Dr(p:Prop):Prop where
 h:p
section
variable{X:Cx}
end
end L2
namespace Mi
open PySem
noncomputable section
end
end Mi
namespace L2
open PySem PySem.Spec PyProof.Rows
structure Walk1(prog:Program)(w:World)(A:Around)(I:Addr)(fp:List Addr)(n:Nat)(P:Nat->Value->Prop)(St:Nat->Heap->Prop):Prop where
 me:I∈fp
 frame:∀i h h',St i h->(∀b∈fp,∀o,h.get? b=some o->h'.get? b=some o)->St i h'
 item:∀i (s:Shared) (Q:Option Value->Shared->Prop) (E:Value->Shared->Prop),i<n->St i s.heap ->
  (∀v h' tk,P i v->St (i+1) h'->(∀b o,b≠I->s.heap.get? b=some o->h'.get? b=some o)->Q (some v) { s with heap:=h',toks:=tk })->wpAny (model prog w) A (pyNext (.ref I)) Q E s
 done:∀(s:Shared)(Q:Option Value->Shared->Prop)(E:Value->Shared->Prop),St n s.heap ->
  (∀h' tk,(∀b o,b≠I->s.heap.get? b=some o->h'.get? b=some o)->(∃u,h'.get? I=some u)->Q none { s with heap:=h',toks:=tk })->wpAny (model prog w) A (pyNext (.ref I)) Q E s
 self:∀i (s:Shared) (Q:Value->Shared->Prop) (E:Value->Shared->Prop),St i s.heap->Q (.ref I) s->wpAny (model prog w) A (pyIter (.ref I)) Q E s
structure Once(prog:Program)(w:World)(T:String)(r:Addr)(fp:List Addr)(n:Nat)(P:Nat->Value->Prop)(St:Nat->Heap->Prop):Prop where
 ty:∀(s:Shared) i,St i s.heap->s.TypeIs (.ref r) T
 nl:(Value.type T==Value.type "list")=false
 nt:(Value.type T==Value.type "tuple")=false
 me:r∈fp
 hint:∀(A:Around)(E:Value->Shared->Prop)(s:Shared)(Q:Bool->Shared->Prop),A.handled=none->St 0 s.heap->(∀b tk,Q b { s with toks:=tk })->wpAny (model prog w) A (Builtin.List.listLengthHint (.ref r)) Q E s
 walk:∀(A:Around),A.handled=none->Walk1 prog w A r fp n P St
section
variable{prog:Program}{w:World}{A:Around}{E:Value->Shared->Prop}{s:Shared}{T:String}{r:Addr}{fp:List Addr}{n:Nat}{P:Nat->Value->Prop}{St:Nat->Heap->Prop}
end
section
variable{prog:Program}{w:World}{A:Around}{E:Value->Shared->Prop}{s:Shared}{x:Str}{t:Tok}
end
end L2
namespace L2
open PySem PySem.Spec PyProof.Rows
section
variable{X:Cx}{pins:List (Addr×Obj)}{σ:List (Option V)}{H:Hp}{s:Shared}
end
end L2
namespace L3
open PySem PySem.Spec
open L2 hiding Rep RepL
open Mi (Dt Xn R okR zA9 optR zA2 zAE zAK zAH zAJ Rh Sl Ro EM TM AM FM IM SM OM Tg Out zB8 zB6 zBI full frz frz1 frzAt)
section
variable[Kc]{mg:Str->Option Value}{E:XK}{L n k l:Nat}{te ta tb:TE}{e ea eb ma:EM}{t:TA}{m:AM}
end
end L3
namespace Mi
open PySem
noncomputable section
end
end Mi
namespace L3
open PySem PySem.Spec
open L2 hiding Rep RepL
open Mi (Dt Xn R okR zA9 optR zA2 zAE zAK zAH zAJ Rh Sl Ro EM TM AM FM IM SM OM Tg Out zB8 zB6 zBI full frz frz1 frzAt)
section
variable[Kc]{mg:Str->Option Value}{E:XK}{L n k l:Nat}
end
end L3
namespace Mi
open PySem
noncomputable section
end
end Mi
namespace PySem
open Builtin Builtin.Str PySem.Spec
end PySem
namespace L2
open PySem PySem.Spec PyProof.Rows
section
variable{X:Cx}{pins:List (Addr×Obj)}{σ:List (Option V)}{H:Hp}{s:Shared}
end
end L2
namespace L3
open PySem PySem.Spec
open L2 hiding Rep RepL
open Mi (Dt Xn R okR zA9 optR zA2 zAE zAK zAH zAJ Rh Sl Ro EM TM AM FM IM SM OM Tg Out zB8 zB6 zBI full frz frz1 frzAt)
section
variable[Kc]{mg:Str->Option Value}{E:XK}{L n k l:Nat}
end
end L3
namespace PySem
open Sem (wp)
section
variable{prog:Program}{w:World}{A:Around}{K:Type}[DecidableEq K]{knd:KeyKind prog w K}
end
end PySem
namespace Mi
open PySem
noncomputable section
end
end Mi
namespace L2
open PySem PySem.Spec PyProof.Rows
section
variable{X:Cx}
variable{o e:Expr}{es:List Expr}{to:TE}{t:TA}{name:Str}{apos cpos:Pos}{T id:String}{r:V->List V->Hp->VK->Prop}
end
end L2
namespace L3
open PySem PySem.Spec
open L2 hiding Rep RepL
open Mi (Dt Xn R okR zA9 optR zA2 zAE zAK zAH zAJ Rh Sl Ro EM TM AM FM IM SM OM Tg Out zB8 zB6 zBI full frz frz1 frzAt)
section
variable[Kc]{mg:Str->Option Value}{E:XK}{L n k l:Nat}{te ta tb tx td:TE}{e ea eb ex ed ma:EM}{t:TA}{m:AM}
end
end L3
namespace Mi
open PySem
noncomputable section
noncomputable def dedI(ns:List Int):List Int:=ns.foldl (fun σ v=>if σ.any (·==v)then σ else σ++[v]) []
theorem ded_len(ns:List Int):∀σ:List Int,(ns.foldl (fun σ v=>if σ.any (·==v)then σ else σ++[v]) σ).length<=σ.length+ns.length:=by
 induction ns with
 |nil=>intro σ;simp
 |cons n r ih=>
  intro σ;rw[qCo]
  by_cases h:σ.any (·==n)=true
  ·rw[if_pos h]
   have:=ih σ
   simp only[qAw];omega
  ·rw[if_neg h]
   have:=ih (σ++[n])
   rw[qAe,qAx]at this;simp only[qAw];omega
end
end Mi
namespace L2
open PySem PySem.Spec PyProof.Rows
section
variable{X:Cx}{pins:List (Addr×Obj)}{σ:List (Option V)}{H:Hp}{s:Shared}
theorem zAL(ns:List Int):(qA1 ns.length).map (fun i=>ns.getD i 0)=ns:=by
 refine qC1 (by simp) fun i h1 h2=>?_
 simp[h2]
end
section
variable{X:Cx}
end
end L2
namespace L3
open PySem PySem.Spec
open L2 hiding Rep RepL
open Mi (Dt Xn R okR zA9 optR zA2 zAE zAK zAH zAJ Rh Sl Ro EM TM AM FM IM SM OM Tg Out zB8 zB6 zBI full frz frz1 frzAt)
section
variable[Kc]{mg:Str->Option Value}{E:XK}{L n k l:Nat}{te ta tb:TE}{e ea eb ma:EM}{t:TA}{m:AM}
theorem zOJ{G:Hp}:∀{ds:List Dt}{ns:List Int}{xs:List V},Mi.intsD ds=some ns->RepL G ds xs->xs=ns.map V.int
 |[],ns,xs,h,r=>by cases h;exact r
 |.int i::ds,ns,xs,h,r=>by
  obtain⟨x,ys,rfl,h1,h2⟩:=r;cases e:Mi.intsD ds with
  |none=>rw[Mi.intsD,e]at h;cases h
  |some ms=>
   rw[Mi.intsD,e]at h;cases h;rw[zOJ e h2];cases h1;rfl
 |.non::_,_,_,h,_=>by cases h
 |.bl _::_,_,_,h,_=>by cases h
 |.str _::_,_,_,h,_=>by cases h
 |.lst _::_,_,_,h,_=>by cases h
 |.tup _::_,_,_,h,_=>by cases h
 |.scr _::_,_,_,h,_=>by cases h
 |.exc _ _ _::_,_,_,h,_=>by cases h
 |.ins _ _::_,_,_,h,_=>by cases h
 |.dct _::_,_,_,h,_=>by cases h
end
end L3
namespace Mi
open PySem
noncomputable section
end
end Mi
namespace L2
open PySem PySem.Spec PyProof.Rows
section
variable{X:Cx}{e m1:Expr}{te ts:TE}{pos p2:Pos}
theorem zRU{pos:Pos}{i:Nat}{x:Str}{es:List Expr}{p:Pos}{te:TE}{pos':Pos}(hN:X.N.Nodup)(hi:X.N[i]?=some x)(hx:Loc X.env.scope x)(he:Dr (PE X (.List es p) te))(hf:X.fn x=true\/X.env.scope.names.lookup x=some .local:=by first|exact .inl rfl|exact .inr rfl|assumption) :
  Dr (PS X (.Assign [.Name x pos'] (.List es p) pos) (tAsg te (zGN i))):=⟨zUM hN hi hx he.h rfl hf⟩
end
end L2
namespace L3
open PySem PySem.Spec
open L2 hiding Rep RepL
open Mi (Dt Xn R okR zA9 optR zA2 zAE zAK zAH zAJ Rh Sl Ro EM TM AM FM IM SM OM Tg Out zB8 zB6 zBI full frz frz1 frzAt)
section
variable[Kc]{mg:Str->Option Value}{E:XK}{L n k l:Nat}
end
end L3
namespace Mi
open PySem
noncomputable section
end
end Mi
namespace L2
open PySem PySem.Spec PyProof.Rows
section
variable{X:Cx}
end
end L2
namespace L3
open PySem PySem.Spec PyProof.Rows
open L2 hiding Rep RepL
open Mi (Dt R Rh EM TM SM AM IM Xn Sl Ro Out okR zA9 optR full frz frzAt)
section
variable[Kc]{mg:Str->Option Value}{E:XK}{n L:Nat}{te ta tb:TE}{e:EM}{m m':SM}
end
end L3
namespace Mi
open PySem
noncomputable section
end
end Mi
namespace L2
open PySem PySem.Spec PyProof.Rows
section
variable{X:Cx}{tg:Expr}
end
section
variable{prog:Program}{w:World}{A:Around}{E:Value->Shared->Prop}{s:Shared}
end
section
variable{X:Cx}
end
end L2
namespace L3
open PySem PySem.Spec
open PyProof.Rows (risingS sortedS ltCps_eq)
open L2 hiding Rep RepL
open Mi (Dt Xn R okR zA9 optR zA2 zAE zAK zAH zAJ Rh Sl Ro EM TM AM FM IM SM OM Tg Out zB8 zB6 zBI full frz frz1 frzAt)
section
variable[Kc]{mg:Str->Option Value}{E:XK}{L n k l:Nat}{t:TA}{m:AM}
end
end L3
namespace Mi
open PySem
noncomputable section
end
end Mi
namespace L3
open PySem PySem.Spec
open L2 hiding Rep RepL
open Mi (Dt Xn R okR zA9 optR zA2 zAE zAK zAH zAJ Rh Sl Ro EM TM AM FM IM SM OM Tg Out zB8 zB6 zBI full frz frz1 frzAt)
section
variable[Kc]{mg:Str->Option Value}{E:XK}{L n k l:Nat}{te:TE}{e:EM}
section
variable{G0 H0 S0:Hp}{σ:St}{ρ:Ro}{G H:Hp}{As:Nat->Addr->Prop}
end
end
end L3
namespace Mi
open PySem
noncomputable section
end
end Mi
namespace L2
open PySem PySem.Spec PyProof.Rows
section
variable{X:Cx}
end
end L2
namespace L3
open PySem PySem.Spec
open L2 hiding Rep RepL
open Mi (Dt Xn R okR zA9 optR zA2 zAE zAK zAH zAJ Rh Sl Ro EM TM AM FM IM SM OM Tg Out zB8 zB6 zBI full frz frz1 frzAt)
section
variable[Kc]{mg:Str->Option Value}{E:XK}{L n k l:Nat}{te ta tb tx td:TE}{e ea eb ex ed ma:EM}{t:TA}{m:AM}
end
end L3
namespace Mi
open PySem
noncomputable section
end
end Mi
namespace L2
open PySem PySem.Spec PyProof.Rows
section
variable{prog:Program}{w:World}{A:Around}{E:Value->Shared->Prop}{s:Shared}
end
section
variable{X:Cx}
theorem zJK:∀{ns:List Int}{us:List Value},IntsAre us ns->Vals (ns.map V.int) us
 |_,_,.nil=>.nil
 |_,_,.cons n t r=>.cons ⟨t,rfl⟩ (zJK r)
end
end L2
namespace L3
open PySem PySem.Spec
open L2 hiding Rep RepL
open Mi (Dt Xn R okR zA9 optR zA2 zAE zAK zAH zAJ Rh Sl Ro EM TM AM FM IM SM OM Tg Out zB8 zB6 zBI full frz frz1 frzAt)
section
variable[Kc]{mg:Str->Option Value}{E:XK}{L n k l:Nat}
end
end L3
namespace Mi
open PySem
noncomputable section
end
end Mi
namespace L2
open PySem PySem.Spec PyProof.Rows
section
variable{prog:Program}{w:World}{A:Around}{E:Value->Shared->Prop}{s:Shared}
end
section
variable{X:Cx}{o:Expr}{td:TE}{p apos cpos pos:Pos}
end
end L2
namespace L3
open PySem PySem.Spec
open PyProof.Rows (risingS sortedS ltCps_eq)
open L2 hiding Rep RepL
open Mi (Dt Xn R okR zA9 optR zA2 zAE zAK zAH zAJ Rh Sl Ro EM TM AM FM IM SM OM Tg Out zB8 zB6 zBI full frz frz1 frzAt)
section
variable[Kc]{mg:Str->Option Value}{E:XK}{L n k l:Nat}{te ta td:TE}{e ea ed:EM}
end
end L3
namespace Mi
open PySem
noncomputable section
def soiL(ns:List Int):List Int:=sortI (dedI ns)
def soiD:List Dt->Option Dt
 |[.lst ds]=>match intsD ds with
  |some ns=>@ite _ (ns.length<64) (qA4 _) (some (.lst ((soiL ns).map .int))) none
  |none=>none
 |_=>none
theorem zTX(ns:List Int):∀(σ:List Int)(x:Int),x∈ns.foldl (fun σ v=>if σ.any (·==v)then σ else σ++[v]) σ↔x∈σ\/x∈ns:=by
 induction ns with
 |nil=>intro σ x;simp
 |cons n r ih=>
  intro σ x;rw[qCo,ih]
  by_cases h:σ.any (·==n)=true
  ·rw[if_pos h];have hn:n∈σ:=by
    rw[qBy]at h;obtain⟨y,hy,e⟩:=h
    have:y=n:=by simpa using e
    rw[<- this];exact hy
   simp only[qA9];constructor
   ·rintro(h|h)
    ·exact .inl h
    ·exact .inr (.inr h)
   ·rintro(h|rfl|h)
    ·exact .inl h
    ·exact .inl hn
    ·exact .inr h
  ·rw[if_neg h];simp only[qAv,qA9,qB0,or_false];constructor
   ·rintro((h|h)|h)
    ·exact .inl h
    ·exact .inr (.inl h)
    ·exact .inr (.inr h)
   ·rintro(h|h|h)
    ·exact .inl (.inl h)
    ·exact .inl (.inr h)
    ·exact .inr h
theorem zX3(ns:List Int):∀(σ:List Int),σ.Nodup->(ns.foldl (fun σ v=>if σ.any (·==v)then σ else σ++[v]) σ).Nodup:=by
 induction ns with
 |nil=>intro σ h;exact h
 |cons n r ih=>
  intro σ hn;rw[qCo]
  by_cases h:σ.any (·==n)=true
  ·rw[if_pos h];exact ih σ hn
  ·rw[if_neg h];refine ih _ ?_;rw[qDy];refine⟨hn,by simp,fun a ha b hb e=>h ?_⟩;rw[qAm]at hb;rw[qBy];exact⟨a,ha,by rw[e,hb];simp⟩
theorem dedI_mem(ns:List Int)(x:Int):x∈dedI ns↔x∈ns:=by
 unfold dedI;rw[zTX];simp
theorem dedI_nd(ns:List Int):(dedI ns).Nodup:=zX3 ns [] List.nodup_nil
theorem soiL_perm(ns:List Int):(soiL ns).Perm (dedI ns):=qCj _ _
theorem zSU(ns:List Int)(x:Int):x∈soiL ns↔x∈ns:=by rw[(soiL_perm ns).mem_iff,dedI_mem]
theorem zVP(ns:List Int):(soiL ns).Nodup:=(soiL_perm ns).nodup_iff.mpr (dedI_nd ns)
theorem soiL_asc(ns:List Int):(soiL ns).Pairwise (·<=·):=by
 have h:=qCs (le:=fun a b:Int=>decide (a<=b)) (fun a b c h1 h2=>by simp at *;omega) (fun a b=>by simp;omega) (dedI ns);exact h.imp fun h=>by simpa using h
theorem zQC(ns:List Int):(soiL ns).Pairwise (· < ·):=by
 have h1:=soiL_asc ns;have h2:=zVP ns;exact(h1.and h2).imp fun h=>by
  have:=h.1;have:=h.2;omega
end
end Mi
namespace L2
open PySem
def UpT(t:SetTable):Prop:=t.place.toList.Pairwise (· < ·)/\t.dummies=#[]
theorem zSL{xs:Array Nat}(h:xs.toList.Pairwise (· < ·)){i k:Nat}(hi:i<k)(hk:k<xs.size):xs.getD i 0<xs.getD k 0:=by
 have hi':i<xs.size:=by omega
 have:=List.pairwise_iff_getElem.mp h i k (by simpa using hi') (by simpa using hk) hi
 simp only[qEm]at this
 simpa[qEk,hi',hk]using this
theorem zU5(xs:Array Nat)(j:Nat)(h:xs.toList.Pairwise (· < ·)):∀fuel lo hi,hi-lo<=fuel->lo<=hi->hi<=xs.size->(∀i,i<lo->xs.getD i 0<j)->(∀i,hi<=i->i<xs.size->j<=xs.getD i 0) ->
  lo<=SetTable.below.go xs j fuel lo hi/\SetTable.below.go xs j fuel lo hi<=hi/\(∀i,i<SetTable.below.go xs j fuel lo hi->xs.getD i 0<j)/\(∀i,SetTable.below.go xs j fuel lo hi<=i->i<xs.size->j<=xs.getD i 0):=by
 intro fuel
 induction fuel with
 |zero=>
  intro lo hi hf hl hh h1 h2
  have:lo=hi:=by omega
  subst this;unfold SetTable.below.go;exact⟨qA7 _,qA7 _,h1,h2⟩
 |succ fuel ih=>
  intro lo hi hf hl hh h1 h2;unfold SetTable.below.go
  by_cases hlt:lo<hi
  ·rw[if_pos hlt];dsimp only;have hm:(lo+hi)/2<hi:=by omega
   have hm2:lo<=(lo+hi)/2:=by omega
   have hms:(lo+hi)/2<xs.size:=by omega
   have e:xs.getD ((lo+hi)/2) j=xs.getD ((lo+hi)/2) 0:=by simp[qEk,hms]
   rw[e]
   by_cases hc:xs.getD ((lo+hi)/2) 0<j
   ·rw[if_pos hc];obtain⟨a,b,c,d⟩:=ih ((lo+hi)/2+1) hi (by omega) (by omega) hh (fun i hi'=>by
     rcases qH0 i ((lo+hi)/2)with z|z
     ·exact qH1 (zSL h z hms) hc
     ·have:i=(lo+hi)/2:=by omega
      rw[this];exact hc) h2
    exact⟨by omega,b,c,d⟩
   ·rw[if_neg hc];obtain⟨a,b,c,d⟩:=ih lo ((lo+hi)/2) (by omega) (by omega) (by omega) h1 (fun i hi' his=>by
     rcases qH0 ((lo+hi)/2) i with z|z
     ·have:=zSL h z his;omega
     ·have:i=(lo+hi)/2:=by omega
      rw[this];omega)
    exact⟨a,by omega,c,d⟩
  ·rw[if_neg hlt]
   have:lo=hi:=by omega
   subst this;exact⟨qA7 _,qA7 _,h1,h2⟩
theorem zGU(xs:Array Nat)(j:Nat)(h:xs.toList.Pairwise (· < ·)):SetTable.below xs j<=xs.size/\(∀i,i<SetTable.below xs j->xs.getD i 0<j)/\(∀i,SetTable.below xs j<=i->i<xs.size->j<=xs.getD i 0):=by
 unfold SetTable.below;obtain⟨_,b,c,d⟩:=zU5 xs j h xs.size 0 xs.size (by omega) (by omega) (qA7 _) (fun i hi=>by omega) (fun i h1 h2=>by omega);exact⟨b,c,d⟩
theorem zPM(xs:Array Nat)(h:xs.toList.Pairwise (· < ·)):SetTable.below xs 0=0:=by
 obtain⟨_,c,_⟩:=zGU xs 0 h
 rcases Nat.eq_zero_or_pos (SetTable.below xs 0)with z|z
 ·exact z
 ·have:=c 0 z;omega
theorem zPN(xs:Array Nat)(h:xs.toList.Pairwise (· < ·)){i:Nat}(hi:i<xs.size):SetTable.below xs (xs.getD i 0+1)=i+1:=by
 obtain⟨b,c,d⟩:=zGU xs (xs.getD i 0+1) h
 rcases Nat.lt_trichotomy (SetTable.below xs (xs.getD i 0+1)) (i+1)with z|z|z
 ·have:=d i (by omega) hi;omega
 ·exact z
 ·have h1:=c (i+1) z;have h2:=zSL h (show i<i+1 by omega) (show i+1<xs.size by omega);omega
theorem zNA{α:Type}(xs:Array α)(p:Nat)(x:α)(hp:p<=xs.size):(SetTable.insertAt xs p x).toList=xs.toList.take p++x::xs.toList.drop p:=by
 unfold SetTable.insertAt;simp[Array.toList_append,qDx,Array.toList_extract];exact qBc (by simp)
theorem zPV{xs:Array Nat}{j:Nat}(h:xs.toList.Pairwise (· < ·))(hn:(xs[SetTable.below xs j]?==some j)=false):(SetTable.insertAt xs (SetTable.below xs j) j).toList.Pairwise (· < ·):=by
 obtain⟨b,c,d⟩:=zGU xs j h;rw[zNA xs _ j b,qCe,qBe];have e:=qEh (SetTable.below xs j) xs.toList;have h':=h;rw[<- e,qCe]at h';have gt:∀y∈xs.toList.drop (SetTable.below xs j),j<y:=fun y hy=>by
  obtain⟨i,hi,rfl⟩:=qDk hy;have his:SetTable.below xs j+i<xs.size:=by simp at hi;omega
  have h1:=d (SetTable.below xs j+i) (by omega) his;have e1:xs.getD (SetTable.below xs j+i) 0=(xs.toList.drop (SetTable.below xs j))[i]:=by
   simp[qEk,his]
  rw[<- e1]
  rcases Nat.lt_or_eq_of_le h1 with z|z
  ·exact z
  ·exfalso
   by_cases hi0:i=0
   ·subst hi0;have hs:SetTable.below xs j<xs.size:=by omega
    have e2:xs[SetTable.below xs j]?=some j:=by
     rw[qDt hs];simp only[Nat.add_zero]at z;simp[qEk,hs]at z;exact congrArg some z.symm
    rw[e2]at hn;simp at hn
   ·have h2:=zSL h (show SetTable.below xs j<SetTable.below xs j+i by omega) his;have h3:=d (SetTable.below xs j) (qA7 _) (by omega);omega
 refine⟨h'.1,⟨gt,h'.2.1⟩,fun a ha y hy=>?_⟩;have ha':a<j:=by
  obtain⟨i,hi,rfl⟩:=qDk ha;have hib:i<SetTable.below xs j:=by simp at hi;omega
  have h1:=c i hib;have his:i<xs.size:=by omega
  simpa[qEk,his]using h1
 rcases qA9.mp hy with z|z
 ·rw[z];exact ha'
 ·exact qH1 ha' (gt y z)
theorem zLU(j:Nat):SetTable.has #[] j=false:=by simp[SetTable.has]
theorem zT5{t:SetTable}(hd:t.dummies=#[]){hashAt:Nat->Int}{h:Int}:∀(fuel:Nat)(p:SetTable.Probe){m:SetTable.Met},p.dummy=none->SetTable.probe.go t hashAt h fuel p=some m->∀j dm,m=.empty j dm->dm=none/\(t.place[SetTable.below t.place j]?==some j)=false:=by
 intro fuel
 induction fuel with
 |zero=>intro p m hp e;simp[SetTable.probe.go]at e
 |succ fuel ih=>
  intro p m hp e j dm hm;unfold SetTable.probe.go at e;unfold SetTable.slot at e;dsimp only at e
  by_cases hl:(t.place[SetTable.below t.place p.j]?==some p.j)=true
  ·rw[if_pos hl]at e;dsimp only at e
   split at e
   ·cases e;cases hm
   ·refine ih (t.advance p) ?_ e j dm hm;unfold SetTable.advance
    split
    ·exact hp
    ·exact hp
  ·rw[if_neg hl]at e;rw[hd,zLU]at e;simp only[qDo,if_false]at e;cases e;cases hm;exact⟨hp,by simpa using hl⟩
theorem zND{t:SetTable}(hd:t.dummies=#[]){h:Int}{j:Nat}{b:Bool}(e:t.freeSlot h=some (j,b)):(t.place[SetTable.below t.place j]?==some j)=false:=by
 unfold SetTable.freeSlot at e
 split at e
 ·rename_i i dm hm
  have:=zT5 hd _ _ rfl hm i dm rfl
  obtain⟨rfl,h2⟩:=this;cases e;exact h2
 ·cases e
theorem zF2(t:SetTable)(n:Nat):UpT (t.standIn n):=by
 refine⟨?_,rfl⟩
 show(Array.range n).toList.Pairwise _
 rw[Array.toList_range];exact qC2
theorem zRD{t:SetTable}(hu:UpT t)(es:Array (Int×Value))(h:Int)(x:Value):UpT (layNew t es h x).2.1:=by
 unfold layNew
 split
 ·rename_i sl wd e
  dsimp only;unfold SetTable.orStandIn
  split
  ·refine⟨?_,?_⟩
   ·exact zPV hu.1 (zND hu.2 e)
   ·show(if SetTable.has t.dummies sl=true then _ else t.dummies)=#[]
    rw[hu.2,zLU];rfl
  ·exact zF2 _ _
 ·exact zF2 _ _
theorem zKA(g:Nat->Option Nat):∀l:List Nat,(l.filterMap fun j=>(g j).map fun k=>(j,k)).map (·.1)=l.filter fun j=>(g j).isSome
 |[]=>rfl
 |j::r=>by
  cases e:g j with
  |none=>simp[e,zKA g r]
  |some k=>simp[e,zKA g r]
theorem zN0(t:SetTable)(es:Array (Int×Value))(wanted:Nat):UpT (relayAll t es wanted).2.1:=by
 unfold relayAll
 split
 ·rename_i t' order e
  dsimp only
  split
  ·dsimp only;unfold SetTable.relaid SetTable.laid at e;cases e2:SetTable.layClean (SetTable.sizeAbove wanted-1) (es.map (·.1))with
   |none=>rw[e2]at e;cases e
   |some ow=>
    rw[e2]at e;have e':=congrArg qFj (qAz e);dsimp only at e';rw[<- e'];refine⟨?_,rfl⟩
    show(((qA1 _).filterMap fun j=>((ow.getD j none).map fun k=>(j,k))).map (·.1)).toArray.toList.Pairwise _
    rw[List.toList_toArray,zKA];exact qDe _ qC2
  ·exact zF2 _ _
 ·exact zF2 _ _
end L2
namespace L2
open PySem PySem.Spec PyProof.Rows
noncomputable def zG8:Value->Int
 |.int i _=>i
 |_=>0
section
variable{prog:Program}{w:World}{A:Around}{E:Value->Shared->Prop}{s:Shared}
def SetN(prog:Program)(w:World)(h:Heap)(a:Addr)(led:Bool)(ks:List Int):Prop:=
 ∃o es ep t,h.get? a=some o/\o.ExactSet/\o.data=.set es ep t/\ElemsOf (intKind prog w) es.toList/\es.toList.map (fun e=>zG8 e.2)=ks/\ks.Nodup/\es.size<scanBound/\t.fits es.size=true/\t.led=led/\UpT t
theorem SetN.at{h h':Heap}{a:Addr}{led:Bool}{ks:List Int}(hS:SetN prog w h a led ks)(hk:∀o,h.get? a=some o->h'.get? a=some o):SetN prog w h' a led ks:=by
 obtain⟨o,es,ep,t,ho,r⟩:=hS;exact⟨o,es,ep,t,hk o ho,r⟩
theorem zH8{k:Int}{v:Value}(h:(intKind prog w).is k v=true):∃t,v=.int k t:=Value.isInt_shape h
theorem zKM{es:List (Int×Value)}(h:ElemsOf (intKind prog w) es){e:Int×Value}(he:e∈es):∃k t,e.2=.int k t:=by
 obtain⟨⟨k,hk,_⟩,_⟩:=h e he;obtain⟨t,e1⟩:=zH8 hk;exact⟨k,t,e1⟩
theorem zRL{es:List (Int×Value)}(h:ElemsOf (intKind prog w) es){e:Int×Value}(he:e∈es)(k:Int):(intKind prog w).is k e.2=true↔zG8 e.2=k:=by
 obtain⟨k',t,e1⟩:=zKM h he;rw[e1];constructor
 ·intro z;obtain⟨t',e2⟩:=zH8 z
  injection e2 with e3
 ·rintro rfl
  exact intKind_is prog w _ t
theorem zSX{a:Addr}{led:Bool}{ks:List Int}{k:Int}{tk:Tok}{Q:Bool->Shared->Prop}(hS:SetN prog w s.heap a led ks)(hroom:ks.length+1<scanBound)
  (h:∀h' ks' b,Heap.SameBut a s.heap h'->SetN prog w h' a led ks'->(k∈ks->ks'=ks)->(k∉ks->ks'.Perm (ks++[k]))->Q b { s with heap:=h' }) :
  wpAny (model prog w) A (setAddHashed a (.int k tk) ((intKind prog w).hash k)) Q E s:=by
 obtain⟨o,es,ep,t,ho,hex,hd,hel,hks,hnd,hb,hf,hled,hpl⟩:=hS;have hn:es.size=ks.length:=by rw[<- hks,qAl,qAy]
 have hb1:es.size+1<scanBound:=by omega
 have hkey:(intKind prog w).is k (.int k tk)=true:=intKind_is prog w k tk;have hsc:(Value.int k tk).scannable=true:=rfl;unfold setAddHashed setAddHashedIn;refine wpAny_holding (wpAny_bind (wpAny_setState_of ho hd hf ?_));dsimp only;rw[byScan_of hsc hb hel];simp only[↓reduceIte];unfold setAddByScan;refine wpAny_bind ?_;refine wpAny_bind (wpAny_rule ?_);refine wpAny_bind (wpAny_setScan_of hkey ho hd hf hel ?_);cases hr:List.findIdx? (fun e=>(intKind prog w).is k e.2) es.toList with
 |some j=>
  dsimp only;obtain⟨hj,hpj,_⟩:=List.findIdx?_eq_some_iff_getElem.mp hr;have hin:k∈ks:=by
   rw[<- hks];exact qAa.mpr ⟨es.toList[j],qC0 hj,(zRL hel (qC0 hj) k).mp hpj⟩
  refine wpAny_pure (wpAny_pure ?_);have e:s={ s with heap:=s.heap }:=by cases s;rfl
  rw[e];exact h s.heap ks false (Heap.SameBut.refl a s.heap) ⟨o,es,ep,t,ho,hex,hd,hel,hks,hnd,hb,hf,hled,hpl⟩ (fun _=>rfl) (fun z=>absurd hin z)
 |none=>
  dsimp only;have hnin:k∉ks:=by
   intro z;rw[<- hks]at z;obtain⟨e,he,e1⟩:=qAa.mp z
   have:=List.findIdx?_eq_none_iff.mp hr e he
   rw[(zRL hel he k).mpr e1]at this;exact Bool.noConfusion this
  have hgw:∀(b:Bool){s₁:Shared}{Q':Unit->Shared->Prop},Q' () s₁->wpAny (model prog w) A (match b with|true=>rule "set.scan.the-table-gave-way" | false=>pure ()) Q' E s₁:=
   fun b s₁ Q' hq=>by cases b<;>first|exact wpAny_pure hq|exact wpAny_rule hq
  have hperm:=layNew_perm t es ((intKind prog w).hash k) (.int k tk);have hfits:=layNew_fits t es ((intKind prog w).hash k) (.int k tk);have hled1:=zPF t es ((intKind prog w).hash k) (.int k tk);have hoff1:=zRD hpl es ((intKind prog w).hash k) (.int k tk)
  generalize hL:layNew t es ((intKind prog w).hash k) (.int k tk)=L at hperm hfits hled1 hoff1 ⊢
  obtain⟨es1,t1,wasDummy,gave⟩:=L;dsimp only at hperm hfits hled1 hoff1 ⊢;rw[qDx]at hperm;have hel1:ElemsOf (intKind prog w) es1.toList:=(hel.push hkey hsc).perm hperm;have hks1:(es1.toList.map fun e=>zG8 e.2).Perm (ks++[k]):=by
   have:=hperm.map fun e:Int×Value=>zG8 e.2
   rw[qCq,hks]at this;exact this
  have hnd1:(es1.toList.map fun e=>zG8 e.2).Nodup:=hks1.nodup_iff.mpr (by
   rw[qDy];exact⟨hnd,by simp,fun x hx y hy e=>hnin (by rw[qAm]at hy;rw[<- hy,<- e];exact hx)⟩)
  have hb1':es1.size<scanBound:=by rw[<- qAy,hperm.length_eq,qAe,qAy];simpa using hb1
  refine wpAny_bind (hgw _ ?_);have tail:∀t2:SetTable,t2.fits es1.size=true->t2.led=led->UpT t2->wpAny (model prog w) A (do
    storeSet a es1 t2
    if(!wasDummy&&t2.tooFull)=true then do
      (match(relayAll t2 es1 (SetTable.grown es1.size)).2.2 with|true=>rule "set.scan.the-table-gave-way" | false=>pure ())
      storeSet a (relayAll t2 es1 (SetTable.grown es1.size)).1 (relayAll t2 es1 (SetTable.grown es1.size)).2.1
      pure (some true)
     else pure (some true)) (fun r s'=>wpAny (model prog w) A (match r with|some added=>pure added|none=>setAddHashedIn a (.int k tk) ((intKind prog w).hash k) 99999) Q E s') E s:=by
   intro t2 f2 l2 p2;refine wpAny_bind (wpAny_storeSet_of ho hd ?_ (fits_of_scanBound hb1'));have hg:(s.heap.update a (Obj.putSet es1 t2)).get? a=some { o with data:=.set es1 (ep+1) t2 }:=by
    have:=Heap.get?_update_self (Obj.putSet es1 t2) ho (by rw[putSet_of es1 t2 hd];rfl)
    rw[putSet_of es1 t2 hd]at this;exact this
   have hsb1:=Heap.SameBut.update s.heap a (Obj.putSet es1 t2)
   split
   ·have hp:=relayAll_perm t2 es1 (SetTable.grown es1.size);have hfr:=relayAll_fits t2 es1 (SetTable.grown es1.size);have hkp:=zJ2 t2 es1 (SetTable.grown es1.size);have hup:=zN0 t2 es1 (SetTable.grown es1.size)
    generalize hRl:relayAll t2 es1 (SetTable.grown es1.size)=Rl at hp hfr hkp hup ⊢
    obtain⟨es2,t3,gave2⟩:=Rl;dsimp only at hp hfr hkp hup ⊢;have hsz:es2.size=es1.size:=by rw[<- qAy,hp.length_eq,qAy]
    refine wpAny_bind (hgw _ ?_);refine wpAny_bind (wpAny_storeSet_of hg rfl ?_ (fits_of_scanBound (by rw[hsz];exact hb1')));have hg2:=Heap.get?_update_self (Obj.putSet es2 t3) hg (by rw[putSet_of (o:={ o with data:=.set es1 (ep+1) t2 }) es2 t3 rfl];rfl);rw[putSet_of (o:={ o with data:=.set es1 (ep+1) t2 }) es2 t3 rfl]at hg2;have hks2:=hp.map fun e:Int×Value=>zG8 e.2
    refine wpAny_pure (wpAny_pure (h _ (es2.toList.map fun e=>zG8 e.2) _ (hsb1.trans (Heap.SameBut.update _ a _)) ⟨_,es2,ep+2,t3,hg2,hex,rfl,hel1.perm hp,rfl,hks2.nodup_iff.mpr hnd1,by rw[hsz];exact hb1',hfr,hkp.1.trans l2,hup⟩ (fun z=>absurd z hnin) fun _=>hks2.trans hks1))
   ·exact wpAny_pure (wpAny_pure (h _ (es1.toList.map fun e=>zG8 e.2) _ hsb1 ⟨_,es1,ep+1,t2,hg,hex,rfl,hel1,rfl,hnd1,hb1',f2,l2,p2⟩ (fun z=>absurd z hnin) fun _=>hks1))
  split
  ·refine wpAny_bind ?_;show wpAny _ _ (pure true) _ _ _;refine wpAny_pure ?_;simp only[↓reduceIte];exact tail t1 hfits (hled1.trans hled) hoff1
  ·refine wpAny_bind (wpAny_pure ?_);simp only[↓reduceIte];exact tail t1 hfits (hled1.trans hled) hoff1
end
section
variable{prog:Program}{w:World}{A:Around}{R:Result->Shared->Prop}{I:Addr}{fp wr:List Addr}{G:Array GenState->Array GenState->Prop}{n:Nat}{St:Nat->Shared->Prop}{led:Bool}{items:Array Value}{ns:List Int}
theorem loopN(W:WalksS prog w A.in1 I fp wr G items.size (fun i v=>items[i]?=some v) St)(S:Addr)(hSf:S∉fp)(hb:items.size+1<scanBound)(hval:∀(i:Nat) (v:Value),items[i]?=some v->∃t,v=.int (ns.getD i 0) t) :
  ∀(k i:Nat)(s:Shared)(ks:List Int),items.size-i=k->i<=items.size->St i s->SetN prog w s.heap S led ks->ks.length<=i->(∀c,c∈ks↔∃j,j<i/\c=ns.getD j 0) ->
   (∀s' ks',Moved (S::wr) G s s'->SetN prog w s'.heap S led ks'->(∀c,c∈ks'↔∃j,j<items.size/\c=ns.getD j 0)->R (.ok (.ret .none)) s') ->
   codeAny (model prog w) A (.builtin "set.update.loop" ⟨[.ref S,.ref I],[]⟩) R s:=by
 have hSw:S∉wr:=fun h=>hSf (W.sub _ h)
 have hsub:∀b∈wr,b∈S::wr:=fun b hb=>qAr _ hb
 intro k
 induction k with
 |zero=>
  intro i s ks hk hi hst hS hkl hks hR;have hin:i=items.size:=by omega
  subst hin;refine codeAny_builtin qCh ?_;rw[Around.under_plainId qBk _];show wpAny _ A.in1 (pyNext (.ref I) >>= _) _ _ s;refine wpAny_bind (W.done s _ _ hst fun s' hm=>?_);show wpAny _ A.in1 (ret Value.none) _ _ s';exact wpAny_pure (hR s' ks (hm.mono hsub) (hS.at fun o ho=>hm.heap S o hSw ho) hks)
 |succ k ih=>
  intro i s ks hk hi hst hS hkl hks hR;have hlt:i<items.size:=by omega
  refine codeAny_builtin qCh ?_;rw[Around.under_plainId qBk _];show wpAny _ A.in1 (pyNext (.ref I) >>= _) _ _ s;refine wpAny_bind (W.item i s _ _ hlt hst fun v s' hP hst' hm=>?_);obtain⟨u,rfl⟩:=hval i v hP;have hS':SetN prog w s'.heap S led ks:=hS.at fun o ho=>hm.heap S o hSw ho
  show wpAny _ A.in1 (holding [Value.int (ns.getD i 0) u] (setAdd S (.int (ns.getD i 0) u)) >>= _) _ _ s';refine wpAny_bind (wpAny_holding ?_);unfold setAdd;refine wpAny_holding ?_;refine wpAny_bind ((intKind prog w).pyHash (k:=ns.getD i 0) (intKind_is prog w _ _) ?_);refine zSX (s:={ s' with toks:=s'.toks+1 }) hS' (by omega) fun h' ks' b hsb hS2 hin hout=>?_
  have hmem:∀x,x∈ks'↔∃j,j<i+1/\x=ns.getD j 0:=by
   intro x;have step:x∈ks'↔x∈ks\/x=ns.getD i 0:=by
    by_cases h:ns.getD i 0∈ks
    ·rw[hin h];exact⟨.inl,fun z=>z.elim id fun e=>e▸h⟩
    ·rw[(hout h).mem_iff,qAv,qAm]
   rw[step,hks];constructor
   ·rintro(⟨j,hj,e2⟩|rfl)
    ·exact⟨j,by omega,e2⟩
    ·exact⟨i,by omega,rfl⟩
   ·rintro⟨j,hj,e2⟩
    by_cases hji:j=i
    ·subst hji;exact .inr e2
    ·exact .inl ⟨j,by omega,e2⟩
  have hlen:ks'.length<=i+1:=by
   by_cases h:ns.getD i 0∈ks
   ·rw[hin h];omega
   ·rw[(hout h).length_eq,qAe];simp;omega
  refine wpAny_pure ⟨plainId_quiet qBk _,ih (i+1) _ ks' (by omega) hlt (W.frame _ s' _ _ hst' (qBs _) fun b hb o e=>?_) hS2 hlen hmem fun s'' ks'' hm'' hS'' hk''=>?_⟩
  ·rw[hsb.2 b (fun h:b=S=>hSf (by rw[<- h];exact hb))];exact e
  ·refine hR s'' ks'' (Moved.trans W.gtrans ((hm.mono hsub).then_heap (qBs _) fun b o hb e=>?_) hm'') hS'' hk'';rw[hsb.2 b (fun h:b=S=>hb (by rw[h];exact qB2))];exact e
end
end L2
namespace PySem
open PyProof.Rows
theorem zSM(led:Bool):L2.UpT (.fresh 0 0 led):=⟨qCb,rfl⟩
set_option maxHeartbeats 3200000 in
theorem zJ0{prog:Program}{w:World}{A:Around}{E:Value->Shared->Prop}{s:Shared}{l:Addr}{items:Array Value}{ns:List Int}{Q:Value->Shared->Prop}
  (hh:A.handled=none) (hl:s.heap.IsList l items) (hi:IntsAre items.toList ns) (hb:items.size+1<scanBound)
  (h:∀(h':Heap)(tk:Nat)(ks:List Int),L2.SetN prog w h' s.heap.objs.size (!w.params.followText "set-order") ks->(∀c,c∈ks↔∃j,j<items.size/\c=ns.getD j 0) ->
   (∀b o,b<s.heap.objs.size->s.heap.get? b=some o->h'.get? b=some o)->Q (.ref s.heap.objs.size) { s with heap:=h',toks:=tk }) :
  wpAny (model prog w) A (call (.type "set") [.ref l]) Q E s:=by
 obtain⟨c,tl,hmro⟩:=F.called_set.mro;have hmade:=F.called_set.made;have hsub:=F.called_set.sub;refine wpAny_call (codeAny_of_tree ?_);show wpAny _ _ (callAny (.type "set") _) _ _ _;refine wpAny_pure ⟨Code.quiet_builtin _ (by decide +kernel),codeAny_builtin F.entry_type_call ?_⟩;rw[Around.under_plain (weight_type_call_type "set" [.ref l] []) rfl];have h1:=F.called_set.notType;have h2:=F.called_set.canCreate;have hct:=F.typeCall_set_1 (.ref l)
 repeat (any_goals (first|assumption|wp_step))
 refine codeAny_mono (zJX (.ref l) (E:=E) (Q₁:=fun obj s₁=>obj=.ref s.heap.objs.size/\s₁={ s with heap:=s.heap.push { cls:=.type "set",dict:=none,data:=.set #[] 0 (.fresh 0 0 (!w.params.followText "set-order")) } }) ⟨rfl,rfl⟩) fun r s₁ hr=>?_
 generalize(!w.params.followText "set-order")=led at hr h
 cases r with
 |error e=>exact hr
 |ok fl=>
  cases fl with
  |ret obj=>
   obtain⟨rfl,rfl⟩:=hr;have hS:(s.heap.push { cls:=.type "set",dict:=none,data:=.set #[] 0 (.fresh 0 0 led) }).get? s.heap.objs.size=some { cls:=.type "set",dict:=none,data:=.set #[] 0 (.fresh 0 0 led) }:=Heap.get?_push_size _ rfl;have hT:Shared.TypeIs { s with heap:=s.heap.push { cls:=.type "set",dict:=none,data:=.set #[] 0 (.fresh 0 0 led) } } (.ref s.heap.objs.size) "set":=⟨_,hS,rfl⟩
   have hli:=F.called_set.init.lookup;have hbi:=F.called_set.init.bind (.ref s.heap.objs.size)
   repeat (any_goals (first|assumption|wp_step))
   refine codeAny_mono (codeAny_call_builtin (R:=wants (fun r s₂=>r=.none/\∃h' tk ks,s₂={ s with heap:=h',toks:=tk }/\L2.SetN prog w h' s.heap.objs.size led ks/\(∀c,c∈ks↔∃j,j<items.size/\c=ns.getD j 0) /\
     (∀b o,b<s.heap.objs.size->s.heap.get? b=some o->h'.get? b=some o)) E) F.called_set.init.plain F.entry_set_init (check_set_init_1 hT ?_)) fun r₂ s₂ hr₂=>?_
   ·obtain⟨ol,hol,hcl,nl,hdl⟩:=hl;obtain⟨ocls,odict,odata,oslots⟩:=ol;simp only at hcl hdl;subst hcl;subst hdl;have hol':(s.heap.push { cls:=.type "set",dict:=none,data:=.set #[] 0 (.fresh 0 0 led) }).get? l=some { cls:=.type "list",dict:=odict,data:=.seq items nl,slots:=oslots }:=Heap.get?_push_of_some _ hol;have hsls:=F.sub_list_set;have hslf:=F.sub_list_frozenset;have hne:(Value.type "list" == Value.type "dict")=false:=by decide
    have hl1:(s.heap.push { cls:=.type "set",dict:=none,data:=.set #[] 0 (.fresh 0 0 led) }).IsList l items:=⟨_,hol',rfl,nl,rfl⟩
    unfold Builtin.«set.__init__» noKeywords Builtin.Frozenset.updateFrom
    generalize hPI:pyIter=PI
    wp_walk
    subst hPI;refine wpAny_pyIter_list hl1 ?_;refine wpAny_bind (wpAny_runValue ?_);have hlS:l<s.heap.objs.size:=Heap.lt_size hol;have hh3:A.in1.in1.in1.handled=none:=by simp[hh]
    have hneI:l≠(s.heap.push { cls:=.type "set",dict:=none,data:=.set #[] 0 (.fresh 0 0 led) }).objs.size:=by
     rw[Heap.size_push];exact qAn (qB1 hlS)
    have hSf:s.heap.objs.size∉[(s.heap.push { cls:=.type "set",dict:=none,data:=.set #[] 0 (.fresh 0 0 led) }).objs.size,l]:=by
     rw[Heap.size_push];simp only[qA9,qAm,qB0,or_false,not_or];exact⟨qAn (qBg _),qBi hlS⟩
    have hval:∀(i:Nat)(v:Value),items[i]?=some v->∃t,v=.int (ns.getD i 0) t:=fun i v hv=>
     qFv hi i v (by rw[qC8];exact hv)
    refine L2.loopN (led:=led) (ns:=ns) ((Walks.list hh3 _ l hneI items).toS) s.heap.objs.size hSf hb hval (items.size-0) 0 _ [] (by omega) (qAp _) ⟨⟨_,Heap.get?_push_size _ rfl,rfl,rfl⟩,(hl1.push _)⟩ ?hS0 (qA7 _) (fun c=>⟨fun z=>by simp at z,fun⟨j,hj,_⟩=>by omega⟩) ?hR
    case hS0=>
     exact⟨_,#[],0,_,Heap.get?_push_of_some _ hS,⟨rfl,rfl,rfl⟩,rfl,fun e he=>by simp at he,rfl,.nil,by decide,rfl,rfl,zSM led⟩
    case hR=>
     intro s' ks hm hS' hk;obtain⟨h',g',d',tk',os'⟩:=s';have eg:g'=s.gens:=hm.gens;have ed:d'=s.drawn:=hm.drawn;have eo:os'=s.os:=hm.os;subst eg;subst ed;subst eo;show wpAny _ _ _ _ _ _;refine wpAny_pure ?_;show wpAny _ _ (ret Value.none) _ _ _;refine wpAny_pure ⟨rfl,h',tk',ks,rfl,hS',hk,fun b o hb e=>?_⟩;have hb1:b≠s.heap.objs.size:=qAn hb;have hb2:b≠(s.heap.push { cls:=.type "set",dict:=none,data:=.set #[] 0 (.fresh 0 0 led) }).objs.size:=by
      rw[Heap.size_push];exact qAn (qB1 hb)
     exact hm.heap b o (by simp only[qA9,qAm,qB0,or_false,not_or];exact⟨hb1,hb2⟩) (Heap.get?_push_of_some _ (Heap.get?_push_of_some _ e))
   ·cases r₂ with
    |error e=>exact hr₂
    |ok fl₂=>
     cases fl₂ with
     |ret r=>
      obtain⟨rfl,h',tk,ks,rfl,hS',hk,hk'⟩:=hr₂
      repeat (any_goals (first|assumption|wp_step))
      exact h _ _ _ hS' hk hk'
     |_=>exact hr₂.elim
  |_=>exact hr.elim
end PySem
namespace L2
open PySem PySem.Spec PyProof.Rows
section
variable{prog:Program}{w:World}{A:Around}{E:Value->Shared->Prop}{s:Shared}
theorem zG7{es:List (Int×Value)}(h:ElemsOf (intKind prog w) es):IntsAre (es.map (·.2)) (es.map fun e=>zG8 e.2):=by
 induction es with
 |nil=>exact .nil
 |cons e r ih=>
  obtain⟨k,t,e1⟩:=zKM h (qB2 ..)
  have:=ih h.tail
  rw[qAd,qAd,e1];exact .cons k t this
theorem zPJ{vs:List Value}{zs:List Int}{acc:Array Value}{n:Nat}{P:Nat->Value->Prop}(hi:ItemsOf P acc n)(hn:vs.length=n)(hP:∀i v,i<n->P i v->vs[i]?=some v)(hz:IntsAre vs zs):IntsAre acc.toList zs:=by
 have:acc.toList=vs:=by
  refine qD3 fun i=>?_
  by_cases h:i<n
  ·have hs:i<acc.size:=by rw[hi.1];exact h
   have h1:acc[i]?=some acc[i]:=by simp[hs]
   rw[qC8,h1,hP i _ h (hi.2 i _ h1)]
  ·rw[qB6 (by simp[hi.1];omega),qB6 (by omega)]
 rw[this];exact hz
theorem zRI{a:Addr}{ks:List Int}(hS:SetN prog w s.heap a (!w.params.followText "set-order") ks){Q:Value->Shared->Prop}
  (hQ:∀(it:Addr)(h2:Heap)(d2:Drawn)(fp:List Addr)(St:Nat->Heap->Prop)(P:Nat->Value->Prop)(vs:List Value)(zs:List Int),(∀A':Around,A'.handled=none->Walks prog w A' it fp [it] ks.length P St)->(∀i v,i<ks.length->P i v->vs[i]?=some v)->vs.length=ks.length->IntsAre vs zs->zs.Perm ks ->
   St 0 h2->(∀b∈fp,b<h2.objs.size)->(∀b∈fp,b=a\/s.heap.objs.size<=b)->s.heap.objs.size<=it->(∀b o,s.heap.get? b=some o->h2.get? b=some o)->Q (.ref it) { s with heap:=h2,drawn:=d2 }) :
  wpAny (model prog w) A (pyIter (.ref a)) Q E s:=by
 obtain⟨o,es,ep,t,ho,hex,hd,hel,hks,hnd,hb,hf,hled,hpl⟩:=hS;have hn:es.size=ks.length:=by rw[<- hks,qAl,qAy]
 have hT:s.TypeIs (.ref a) "set":=⟨o,ho,hex.1⟩
 have hlt:a<s.heap.objs.size:=Heap.lt_size ho;refine wpAny_pyIter_slot hT qEi (wpAny_call_entry qEi hT zII ?_ (PySem.F.args_set_iter_1 _));unfold Builtin.«frozenset.__iter__»;refine wpAny_bind (m:=Builtin.Frozenset.slot0 "__iter__" _) (wpAny_pure ?_);refine wpAny_bind (m:=Builtin.Frozenset.sizeOf a) (wpAny_bind (wpAny_setEntries_of ho hd hf (wpAny_pure ?_)));refine wpAny_bind (m:=setDrawn a) ?_;unfold setDrawn;refine wpAny_bind (wpAny_setState_of ho hd hf ?_);dsimp only;unfold setsByText;refine wpAny_bind (wpAny_bind (wpAny_askSetting (wpAny_pure ?_)));refine wpAny_pure ?_;show wpAny _ _ (if(!w.params.followText "set-order" && (!t.plain&&decide (es.size>1)))=true then _ else _) _ _ _;have ne1:a≠s.heap.objs.size:=qAn hlt;rw[<- hn]at hQ;cases hbt:w.params.followText "set-order" with
 |true=>
  rw[if_neg (by simp)];refine wpAny_bind (wpAny_pure ?_);refine wpAny_bind (wpAny_setEpoch_of ho hd hf ?_);refine wpAny_bind (wpAny_newObj_type (wpAny_pure ⟨_,rfl,"set_iterator",_,⟨_,Heap.get?_push_size _ rfl,rfl⟩,slot_si_next.lookup,?_⟩));have hpk:=zQW (w.params.setOrder a ep) es;have hpl':(pickOrder (w.params.setOrder a ep) es).size=es.size:=by rw[<- qAy,hpk.length_eq,qAy]
  generalize hpo:pickOrder (w.params.setOrder a ep) es=pk at hpk hpl'
  have hnext:∀(i:Nat)(s:Shared)(Q:Option (Value×Nat)->Shared->Prop)(A:Around)(E:Value->Shared->Prop),s.heap.get? a=some o->Q ((pk[i]?).map fun e=>(e.2,0)) s->wpAny (model prog w) A (setNext a 0 i ep) Q E s:=by
   intro i s Q A E ho' hq;unfold setNext;refine wpAny_bind (wpAny_setState_of ho' hd hf ?_);dsimp only;unfold setsByText;refine wpAny_bind (wpAny_bind (wpAny_askSetting (wpAny_pure ?_)));show wpAny _ _ (if w.params.followText "set-order" = true then _ else _) _ _ _;rw[hbt,if_pos rfl];rw[if_neg (by simp)];refine wpAny_bind ?_;unfold setWalk;refine wpAny_bind (wpAny_setState_of ho' hd hf ?_);dsimp only;unfold setsByText;refine wpAny_bind (wpAny_bind (wpAny_askSetting (wpAny_pure ?_)));show wpAny _ _ (if w.params.followText "set-order" = true then _ else _) _ _ _;rw[hbt,if_pos rfl];refine wpAny_bind (wpAny_askSetting ?_);refine wpAny_pure ?_;show wpAny _ _ (pure (((pickOrder (w.params.setOrder a ep) es)[i]?).map fun e=>(e.2,0))) _ _ _;rw[hpo];exact wpAny_pure hq
  refine hQ s.heap.objs.size _ s.drawn [s.heap.objs.size,a] _ _ (pk.toList.map (·.2)) (pk.toList.map fun e=>zG8 e.2) (fun A' hA'=>zL0 hA' ne1 hd hf (fun i=>((pk[i]?).map (·.2)).getD .none) (fun _=>0) (fun i hi s Q A E ho' hq=>hnext i s Q A E ho' ?_) (fun s Q A E ho' hq=>hnext _ s Q A E ho' ?_)) (fun i v hi hv=>?_) (by rw[qAl,qAy,hpl']) (zG7 (hel.perm hpk)) (by rw[<- hks];exact hpk.map _) ⟨⟨_,Heap.get?_push_size _ rfl,rfl,rfl⟩,Heap.get?_push_of_some _ ho⟩ (fun b hb=>?_) (fun b hb=>by simp only[qA9,qB0,or_false]at hb;rcases hb with rfl|rfl;exact .inr (qA7 _);exact .inl rfl) (qA7 _) (fun b o e=>Heap.get?_push_of_some _ e)
  ·have:pk[i]?=some pk[i]:=by simp[hpl',hi]
   rw[this]at hq ⊢;exact hq
  ·have:pk[es.size]?=none:=by simp[hpl']
   rw[this];exact hq
  ·rw[hv,qAk,qC8]
   have:pk[i]?=some pk[i]:=by simp[hpl',hi]
   rw[this];rfl
  ·show b<(s.heap.push _).objs.size;rw[Heap.size_push];simp only[qA9,qB0,or_false]at hb
   rcases hb with rfl|rfl
   ·exact qBg _
   ·exact qB1 hlt
 |false=>
  by_cases h2:(!t.plain&&decide (es.size>1))=true
  ·rw[if_pos (by simpa using h2)];refine wpAny_bind (zJM es.size (qA1 es.size) s _ (by simp) fun ps d hps=>?_);have hpn:ps.length=es.size:=by rw[hps.length_eq,qDz]
   refine wpAny_bind (wpAny_newTuple ?_ (hsz:=by rw[qAl,hpn];exact fits_of_scanBound hb));have ho1:(s.heap.push (seqObj "tuple" (ps.map fun i:Nat=>rawInt (i:Int)).toArray 0)).get? a=some o:=Heap.get?_push_of_some _ ho;refine wpAny_bind (wpAny_setEpoch_of (s:={ heap:=s.heap.push (seqObj "tuple" (ps.map fun i:Nat=>rawInt (i:Int)).toArray 0),gens:=s.gens,drawn:=d,toks:=s.toks,os:=s.os }) ho1 hd hf ?_);refine wpAny_bind (wpAny_newObj_type (wpAny_pure ⟨_,rfl,"set_iterator",_,⟨_,Heap.get?_push_size _ rfl,rfl⟩,slot_si_next.lookup,?_⟩));have hsz:(s.heap.push (seqObj "tuple" (ps.map fun i:Nat=>rawInt (i:Int)).toArray 0)).objs.size=s.heap.objs.size+1:=Heap.size_push _ _;have hpl3:∀p∈ps,p<es.size:=fun p hp=>qDr.mp (hps.mem_iff.mp hp)
   have hvs:∀(i:Nat)(v:Value),(∃(p:Nat)(h0:Int),ps[i]?=some p/\es[p]?=some (h0,v))->(ps.map fun p=>((es[p]?).map (·.2)).getD .none)[i]?=some v:=fun i v ⟨p,h0,e1,e2⟩=>by
    rw[qAk,e1];show some (((es[p]?).map (·.2)).getD .none)=_;rw[e2];rfl
   have hall:∀f:Int×Value->Int,((qA1 es.size).map fun p=>((es[p]?).map f).getD 0)=es.toList.map f:=fun f=>by
    refine qC1 (by simp) fun i h1 h2=>?_
    have hi:i<es.size:=by simpa using h1
    simp[hi]
   have hallv:((qA1 es.size).map fun p=>((es[p]?).map (·.2)).getD Value.none)=es.toList.map (·.2):=by
    refine qC1 (by simp) fun i h1 h2=>?_
    have hi:i<es.size:=by simpa using h1
    simp[hi]
   have hstr:IntsAre (ps.map fun p=>((es[p]?).map (·.2)).getD .none) (ps.map fun p=>((es[p]?).map fun e=>zG8 e.2).getD 0):=by
    have gen:∀l:List Nat,(∀p∈l,p<es.size)->IntsAre (l.map fun p=>((es[p]?).map (·.2)).getD .none) (l.map fun p=>((es[p]?).map fun e=>zG8 e.2).getD 0):=by
     intro l
     induction l with
     |nil=>intro _;exact .nil
     |cons p r ih=>
      intro hl;have hp:=hl p (by simp);have hg:es[p]?=some es[p]:=by simp[hp]
      obtain⟨k,tk,e1⟩:=zKM hel (e:=es[p]) (by rw[<- qEm];exact qC0 _);rw[qAd,qAd,hg];show IntsAre (es[p].2::_) (zG8 es[p].2::_);rw[e1];exact .cons k tk (ih fun q hq=>hl q (by simp[hq]))
    exact gen ps hpl3
   refine hQ (s.heap.push (seqObj "tuple" (ps.map fun i:Nat=>rawInt (i:Int)).toArray 0)).objs.size _ d [(s.heap.push (seqObj "tuple" (ps.map fun i:Nat=>rawInt (i:Int)).toArray 0)).objs.size,a,s.heap.objs.size] _ _ _ _ (fun A' hA'=>zPT (T:=s.heap.objs.size) (oT:=seqObj "tuple" (ps.map fun i:Nat=>rawInt (i:Int)).toArray 0) hA' (by rw[hsz];exact qAn (qB1 hlt)) (by rw[hsz];exact qAn (qBg _)) hd hf ps hpn hpl3 rfl) (fun i v _ hv=>hvs i v hv) (by rw[qAl,hpn]) hstr ?_ ⟨⟨_,Heap.get?_push_size _ rfl,rfl,rfl⟩,Heap.get?_push_of_some _ ho1,Heap.get?_push_of_some _ (Heap.get?_push_size _ rfl)⟩ (fun b hb=>?_) (fun b hb=>by rw[hsz]at hb;simp only[qA9,qB0,or_false]at hb;rcases hb with rfl|rfl|rfl;exact .inr (qBs _);exact .inl rfl;exact .inr (qA7 _)) (by rw[hsz];exact qBs _) (fun b o e=>Heap.get?_push_of_some _ (Heap.get?_push_of_some _ e))
   ·rw[<- hks,<- hall];exact hps.map _
   ·show b<(Heap.push _ _).objs.size;rw[Heap.size_push,hsz];rw[hsz]at hb;simp only[qA9,qB0,or_false]at hb
    rcases hb with rfl|rfl|rfl
    ·exact qBg _
    ·exact qB1 (qB1 hlt)
    ·exact qB1 (qBg _)
  ·rw[if_neg (by simpa using h2)];refine wpAny_bind (wpAny_pure ?_);refine wpAny_bind (wpAny_setEpoch_of ho hd hf ?_);refine wpAny_bind (wpAny_newObj_type (wpAny_pure ⟨_,rfl,"set_iterator",_,⟨_,Heap.get?_push_size _ rfl,rfl⟩,slot_si_next.lookup,?_⟩));have hled':t.led=true:=by rw[hled,hbt];rfl
   have hps:t.place.size=es.size:=by
    simp only[SetTable.fits,qBf,beq_iff_eq]at hf;exact hf.1
   have hnext:∀(sl i:Nat)(s:Shared)(Q:Option (Value×Nat)->Shared->Prop)(A:Around)(E:Value->Shared->Prop),s.heap.get? a=some o->Q (match es[SetTable.below t.place sl]?,t.place[SetTable.below t.place sl]? with|some (_,x),some j=>some (x,j+1)|_,_=>none) s->wpAny (model prog w) A (setNext a sl i ep) Q E s:=by
    intro sl i s Q A E ho' hq;unfold setNext;refine wpAny_bind (wpAny_setState_of ho' hd hf ?_);dsimp only;unfold setsByText;refine wpAny_bind (wpAny_bind (wpAny_askSetting (wpAny_pure ?_)));show wpAny _ _ (if w.params.followText "set-order" = true then _ else _) _ _ _;rw[hbt,if_neg (by decide)];show wpAny _ _ (if(!t.plain&&decide (es.size>1))=true then _ else _) _ _ _;rw[if_neg h2];refine wpAny_bind ?_;show wpAny _ _ (if(!t.led && !es.isEmpty)=true then _ else _) _ _ _;rw[hled',if_neg (by simp)];exact wpAny_pure (wpAny_pure hq)
   have hsl:∀i,i<=es.size->SetTable.below t.place (if i=0 then 0 else t.place.getD (i-1) 0+1)=i:=fun i hi=>by
    by_cases h0:i=0
    ·subst h0;rw[if_pos rfl];exact zPM _ hpl.1
    ·rw[if_neg h0,zPN _ hpl.1 (by omega)];omega
   refine hQ s.heap.objs.size _ s.drawn [s.heap.objs.size,a] _ _ (es.toList.map (·.2)) (es.toList.map fun e=>zG8 e.2) (fun A' hA'=>zL0 hA' ne1 hd hf (fun i=>((es[i]?).map (·.2)).getD .none) (fun i=>if i=0 then 0 else t.place.getD (i-1) 0+1) (fun i hi s Q A E ho' hq=>hnext _ i s Q A E ho' ?_) (fun s Q A E ho' hq=>hnext _ _ s Q A E ho' ?_)) (fun i v hi hv=>?_) (by rw[qAl,qAy]) (zG7 hel) (by rw[<- hks]) ⟨⟨_,Heap.get?_push_size _ rfl,rfl,rfl⟩,Heap.get?_push_of_some _ ho⟩ (fun b hb=>?_) (fun b hb=>by simp only[qA9,qB0,or_false]at hb;rcases hb with rfl|rfl;exact .inr (qA7 _);exact .inl rfl) (qA7 _) (fun b o e=>Heap.get?_push_of_some _ e)
   ·rw[hsl i (by omega)];have e1:es[i]?=some es[i]:=by simp[hi]
    have e2:t.place[i]?=some (t.place.getD i 0):=by simp[hps,hi]
    rw[e1,e2];rw[e1]at hq;simp only[Nat.add_one_ne_zero,if_false,Nat.add_sub_cancel]at hq;exact hq
   ·rw[hsl es.size (qA7 _)];have e1:es[es.size]?=none:=by simp
    rw[e1];exact hq
   ·rw[hv,qAk,qC8];have e1:es[i]?=some es[i]:=by simp[hi]
    rw[e1];rfl
   ·show b<(s.heap.push _).objs.size;rw[Heap.size_push];simp only[qA9,qB0,or_false]at hb
    rcases hb with rfl|rfl
    ·exact qBg _
    ·exact qB1 hlt
theorem SetN.type{h:Heap}{a:Addr}{led:Bool}{ks:List Int}(hS:SetN prog w h a led ks):∃o,h.get? a=some o/\o.cls=.type "set":=by
 obtain⟨o,_,_,_,ho,hex,_⟩:=hS;exact⟨o,ho,hex.1⟩
theorem zM3{a:Addr}{ks:List Int}(hh:A.handled=none)(hS:SetN prog w s.heap a (!w.params.followText "set-order") ks)(hlen:ks.length<=sizeLine){Q:List Value->Shared->Prop}
  (hQ:∀(h':Heap)(d:Drawn)(tk:Nat)(acc:List Value)(zs:List Int),IntsAre acc zs->zs.Perm ks->s.heap.objs.size<h'.objs.size->(∀b o,s.heap.get? b=some o->h'.get? b=some o)->Q acc { s with heap:=h',drawn:=d,toks:=tk }) :
  wpAny (model prog w) A (collect (.ref a)) Q E s:=by
 obtain⟨o0,ho0,hc0⟩:=hS.type;have hlt:a<s.heap.objs.size:=Heap.lt_size ho0;unfold collect;refine wpAny_bind (wpAny_runValue (codeAny_builtin PySem.F.entry_proto_collect ?_));rw[Around.under_plainId PySem.F.plain_proto_collect _];show wpAny _ A.in1 (newList [] >>= fun l=>again (.builtin "list.__iadd__" ⟨[l,.ref a],[]⟩)) _ _ s;refine wpAny_bind (wpAny_newObj_type ?_);refine wpAny_pure ⟨plainId_quiet qE3 _,codeAny_builtin PySem.F.entry_list_iadd ?_⟩;rw[Around.under_plainId qE3 _];show wpAny _ A.in1 (Builtin.List.listExtendWith (.ref s.heap.objs.size) (.ref a) (.ref s.heap.objs.size)) _ _ _;unfold Builtin.List.listExtendWith;have ho1:(s.heap.push { cls:=.type "list",data:=.seq ([]:List Value).toArray }).get? a=some o0:=Heap.get?_push_of_some _ ho0;refine wpAny_bind (wpAny_typeOf (T:="set") ⟨o0,ho1,hc0⟩ ?_);have h1:Builtin.List.listSameRef (.ref s.heap.objs.size) (.ref a)=false:=by simp[Builtin.List.listSameRef];exact qBi hlt
 have h2:(Value.type "set" == Value.type "list")=false:=by decide
 have h3:(Value.type "set" == Value.type "tuple")=false:=by decide
 simp only[h1,h2,h3,qGq,qDo,if_false];refine wpAny_bind (zRI (hS.at fun o e=>Heap.get?_push_of_some _ e) fun it h2 d2 fp St P vs zs W hP hvl hsa hzp hst hfp hfa hit hkeep=>?_);have hS1:h2.get? s.heap.objs.size=some { cls:=.type "list",data:=.seq ([]:List Value).toArray }:=hkeep _ _ (Heap.get?_push_size _ rfl);have hsz:(s.heap.push { cls:=.type "list",data:=.seq ([]:List Value).toArray }).objs.size=s.heap.objs.size+1:=Heap.size_push _ _;have hSf:s.heap.objs.size∉fp:=fun hm=>by
  rcases hfa _ hm with e|e
  ·exact qBi hlt e
  ·rw[hsz]at e;exact Nat.not_succ_le_self _ e
 refine wpAny_bind (wpAny_holding ?_);unfold Builtin.List.listLengthHint;have ho2:h2.get? a=some o0:=hkeep _ _ ho1;refine wpAny_bind (wpAny_specialOf (T:="set") (v:=.ref a) ⟨o0,ho2,hc0⟩ zVS ?_)
 wp_delta
 refine wpAny_bind (wpAny_isInstance (T:="set") (v:=.ref a) (b:=true) ⟨o0,ho2,hc0⟩ (by rw[isSubtype_type];kernel_rfl) ?_);show wpAny _ A.in1 (typeOf (Value.ref a) >>= _) _ _ _;refine wpAny_bind (wpAny_typeOf (T:="set") (v:=.ref a) ⟨o0,ho2,hc0⟩ ?_);refine wpAny_pure ?_;show wpAny _ A.in1 (rule "list.extend.makes-room" >>= fun _=>Builtin.List.listTouch (.ref s.heap.objs.size) >>= fun _=>
  again (.builtin "list.extend.loop" ⟨[.ref s.heap.objs.size,.ref it,.ref s.heap.objs.size],[]⟩)) _ _ _
 refine wpAny_bind (wpAny_rule ?_);refine wpAny_bind ?_;show wpAny _ A.in1 (updateSeq s.heap.objs.size (·.push .none) >>= fun _=>updateSeq s.heap.objs.size (·.pop)) _ _ _;refine wpAny_bind (wpAny_updateSeq hS1 rfl ?_);have hS₂:=Heap.get?_update_self (Obj.mapSeq (·.push Value.none)) hS1 rfl;refine wpAny_updateSeq hS₂ rfl ?_;have hS₃:=Heap.get?_update_self (Obj.mapSeq (·.pop)) hS₂ rfl;have oth:∀b o,b≠s.heap.objs.size->h2.get? b=some o->((h2.update s.heap.objs.size (Obj.mapSeq (·.push Value.none))).update s.heap.objs.size (Obj.mapSeq (·.pop))).get? b=some o:=
  fun b o hb e=>(Heap.get?_update_other _ _ (qDs hb)).trans ((Heap.get?_update_other _ _ (qDs hb)).trans e)
 refine wpAny_pure ⟨plainId_quiet PySem.F.plain_extend_loop _,codeAny_extend_loopS (W A.in1 hh).toS hlen _ hSf _ ks.length 0 _ _ _ rfl (qAp _) ((W A.in1 hh).frame 0 h2 _ hst fun b hb o e=>oth b o (fun z=>hSf (z▸hb)) e) hS₃ (ItemsOf.nil P) fun s' acc' c' hm hS' hacc=>?_⟩;show wpAny _ A (load s.heap.objs.size >>= _) _ _ s';refine wpAny_bind (wpAny_load hS' ?_);obtain⟨h',g',d',tk',os'⟩:=s';have eg:g'=s.gens:=hm.gens;have ed:d'=d2:=hm.drawn;have eo:os'=s.os:=hm.os;subst eg;subst ed;subst eo;refine wpAny_pure (hQ h' d' tk' acc'.toList zs (zPJ hacc hvl hP hsa) hzp (Heap.lt_size hS') fun b o e=>?_);have hbl:b<s.heap.objs.size:=Heap.lt_size e;refine hm.heap b o (fun hb=>?_) (oth b o (qAn hbl) (hkeep b o (Heap.get?_push_of_some _ e)));simp only[qA9,qB0,or_false]at hb
 rcases hb with rfl|rfl
 ·exact qBn _ hbl
 ·rw[hsz]at hit;exact absurd hbl (Nat.not_lt.mpr (Nat.le_of_succ_le hit))
theorem zMU{a:Addr}{ks:List Int}(hh:A.handled=none)(hS:SetN prog w s.heap a (!w.params.followText "set-order") ks)(hlen:ks.length<64){Q:Value->Shared->Prop}
  (hQ:∀(h':Heap)(d:Drawn)(tk:Nat)(L:Addr)(out:Array Value)(e:Nat)(ms:List Int),IntsAre out.toList ms->ms.Perm ks->ms.Pairwise (·<=·)->s.heap.objs.size<=L->h'.get? L=some (seqObj "list" out e)->(∀b o,s.heap.get? b=some o->h'.get? b=some o)->Q (.ref L) { s with heap:=h',drawn:=d,toks:=tk }) :
  wpAny (model prog w) A (call (.builtin "sorted") [.ref a]) Q E s:=by
 refine Calls.call_function_entry kind_sorted plain_sorted entry_sorted (args_sorted1 _) ?_;unfold Builtin.«sorted»;refine wpAny_bind (m:=checkCount "sorted" 1 1 _) (wpAny_pure ?_);refine wpAny_bind (zM3 (A:=A.in1) hh hS (by rw[sizeLine_eq];omega) fun h' d tk acc zs hsa hzp hgr hkeep=>?_);have hal:acc.length=ks.length:=by rw[IntsAre.length hsa,hzp.length_eq]
 refine wpAny_bind (wpAny_newList ?_ (hsz:=by rw[hal,sizeLine_eq];omega));have hoL:(h'.push (seqObj "list" acc.toArray 0)).get? h'.objs.size=some (seqObj "list" acc.toArray 0):=Heap.get?_push_size _ rfl;refine wpAny_bind (wpAny_holding (wpAny_call_entry slot_list_sort ⟨_,hoL,rfl⟩ entry_list_sort (list_sort_tree hoL hsa (by omega) fun out ms b1 b2 b3=>⟨_,rfl,?_⟩) (args_list_sort _)));obtain⟨e,he⟩:=sortedHeap_at (vs:=acc) (out:=out) hoL;refine wpAny_pure ⟨_,rfl,hQ _ d tk h'.objs.size _ e ms b1 (b2.trans hzp) b3 ?_ he fun b o eb=>?_⟩
 ·exact qBo hgr
 ·have h1:=hkeep b o eb;have hlt:b<h'.objs.size:=Heap.lt_size h1;rw[sortedHeap_old (qAn hlt) (by rw[size_push'];exact qB1 hlt)];exact Heap.get?_push_of_some _ h1
end
section
variable{X:Cx}{pins:List (Addr×Obj)}{σ:List (Option V)}{H:Hp}{s:Shared}
noncomputable def zQH(P:Program)(w:World)(a:Addr)(ks:List Int):HO:=.ext fun h=>SetN P w h a (!w.params.followText "set-order") ks
def zY8(P:Program)(w:World):List V->Hp->VK->Prop:=fun vs H Q=>match vs with
 |[.ref l]=>∃ns:List Int,H l=some (.lst (ns.map V.int))/\ns.length<=1000/\∀a ks,H a=none->ks.Nodup->(∀c,c∈ks↔c∈ns)->Q (.ref a) (upd H a (zQH P w a ks))
 |_=>False
theorem zZ7(hc:X.calm=true):zDL X (.type "set") (zY8 X.prog X.w):=by
 intro pins s σ H vs us Q I r h;cases vs with
 |nil=>exact qA5 h
 |cons hd1 tl1=>
  cases hd1 with
  |ref l=>
   cases tl1 with
   |nil=>
    obtain⟨ns,ha,hz,q⟩:=h;obtain⟨u,rfl,rx⟩:=zFL r;cases rx;obtain⟨its,rv,hl⟩:=zB2 I.hok ha;have hi:IntsAre its ns:=zG6 rv;have hsz:its.length=ns.length:=by have:=rv.length;simp at this;omega
    refine zJ0 (items:=its.toArray) (ns:=ns) (I.ok.hd hc) hl (by simpa using hi) (by unfold scanBound;simp;omega) fun h' tk ks hS hks hk=>?_
    have hS':=hS;obtain⟨o,es,ep,tb,ho,hex,hd,hel,hkse,hnd,_⟩:=hS;refine⟨.ref _,_,I.laid (t':=tk) (o:=zQH X.prog X.w s.heap.objs.size ks) (fun b u e=>hk b u (Heap.lt_size e) e) (qA7 _) ⟨hS',⟨o,ho⟩,fun h1 h2 z f=>z.at f⟩,rfl,q _ ks (I.hok.fresh (qA7 _)) hnd fun c=>?_⟩;rw[hks c];constructor
    ·rintro⟨j,hj,e1⟩
     have hj':j<ns.length:=by simpa[hsz]using hj
     rw[e1,qA0,qA8 hj'];exact qC0 hj'
    ·intro hc';obtain⟨j,hj,e1⟩:=qDk hc';exact⟨j,by simpa[hsz]using hj,by rw[qA0,qA8 hj];exact e1.symm⟩
   |cons _ _=>exact qA5 h
  |_=>exact qA5 h
def zUK(P:Program)(w:World):List V->Hp->VK->Prop:=fun vs H Q=>match vs with
 |[.ref a]=>∃ks,H a=some (zQH P w a ks)/\ks.length<64/\∀ms:List Int,ms.Perm ks->ms.Pairwise (·<=·)->∀l,H l=none->Q (.ref l) (upd H l (.lst (ms.map V.int)))
 |_=>False
theorem zWN(hc:X.calm=true):zDL X (.builtin "sorted") (zUK X.prog X.w):=by
 intro pins s σ H vs us Q I r h;cases vs with
 |nil=>exact qA5 h
 |cons hd1 tl1=>
  cases hd1 with
  |ref a=>
   cases tl1 with
   |nil=>
    obtain⟨ks,ha,hlen,q⟩:=h;obtain⟨u,rfl,rx⟩:=zFL r;cases rx;have hok:ObjOk X.prog X.w H s.heap a (zQH X.prog X.w a ks):=I.hok a _ ha;have hS:SetN X.prog X.w s.heap a (!X.w.params.followText "set-order") ks:=hok.1;refine zMU (I.ok.hd hc) hS hlen fun h' d tk L out e ms b1 b2 b3 hL hl hk=>?_
    have I2:Inv X pins σ H { s with drawn:=d }:=I.drawn d;have hz':ms.length<=sizeLine:=by rw[b2.length_eq,sizeLine_eq];omega
    exact⟨.ref _,_,I2.laid (t':=tk) (o:=.lst (ms.map V.int)) (fun b o e=>hk b o e) hL ⟨by rw[qAl];exact hz',out.toList,e,zJK b1,by simpa[seqObj]using hl⟩,rfl,q ms b2 b3 _ (I2.hok.fresh hL)⟩
   |cons _ _=>exact qA5 h
  |_=>exact qA5 h
end
end L2
namespace L3
open PySem PySem.Spec
open L2 hiding Rep RepL
open Mi (Dt Xn R okR zA9 optR zA2 zAE zAK zAH zAJ Rh Sl Ro EM TM AM FM IM SM OM Tg Out zB8 zB6 zBI full frz frz1 frzAt)
section
variable[Kc]{mg:Str->Option Value}{E:XK}{L n k l:Nat}{te ta tb:TE}{e ea eb ma:EM}{t:TA}{m:AM}
theorem zZP{P:Program}{w:World}(A:DE mg E te e k):DE mg E (tCB (zUK P w) (zL4 (tCB (zY8 P w) (zL4 te tNil)) tNil)) (Mi.eBi Mi.soiD (Mi.aCons e Mi.aNil)) 1:=by
 intro G H σ ρ Q s w' p;have p0:PostE mg E G H 1 (zA9 (e ρ) fun d=>optR (Mi.soiD [d])) Q:=by
  have:(Mi.eBi Mi.soiD (Mi.aCons e Mi.aNil)) ρ=zA9 (e ρ) fun d=>optR (Mi.soiD [d]):=by
   show zA9 (zA9 (e ρ) fun x=>zA9 (okR []) fun xs=>okR (x::xs)) (fun xs=>optR (Mi.soiD xs))=_;cases e ρ with
   |none=>rfl
   |some r=>cases r<;>rfl
  rw[<- this];exact p
 refine(zAM A).step errE s w' p0 fun d v G1 H1 S _ fr o p1=>?_
 cases d with
 |lst ds=>
  obtain⟨a,xs,rfl,ha,hr⟩:=(show ∃a xs,v=.ref a/\G1 a=some (.lst xs)/\RepL G1 ds xs from o)
  have p2:PostE mg E G H 1 (optR (match Mi.intsD ds with
   |some ns=>@ite _ (ns.length<64) (qA4 _) (some (.lst ((Mi.soiL ns).map .int))) none
   |none=>none)) Q:=p1
  cases hi:Mi.intsD ds with
  |none=>rw[hi]at p2;exact p2.elim
  |some ns=>
   rw[hi]at p2;have hx:=zOJ hi hr;subst hx;dsimp only at p2
   split at p2
   ·rename_i hz
    refine⟨ns,fr.ext.in' _ _ ha,by omega,fun b ks hb hnd hks=>?_⟩;have hperm:ks.Perm (Mi.dedI ns):=(List.perm_ext_iff_of_nodup hnd (Mi.dedI_nd ns)).mpr fun c=>by rw[hks c,Mi.dedI_mem]
    have hlen:ks.length<64:=by
     rw[hperm.length_eq];have h:=Mi.ded_len ns [];unfold Mi.dedI;simp at h ⊢;omega
    refine⟨ks,zBB,hlen,fun ms h1 h2 l hl=>?_⟩;have hy:ms=Mi.soiL ns:=qFg (h1.trans (hperm.trans (Mi.soiL_perm ns).symm)) h2 (Mi.soiL_asc ns);subst hy;have x1:Ext G1 H1 G1 (upd H1 b (zQH P w b ks)):=⟨Same.refl _,fun c o e=>by
      by_cases z:c=b
      ·rw[z,hb]at e;cases e
      ·rw[zB0 z];exact e,fun c o e=>by
      have e2:=fr.ext.in' _ _ e
      by_cases z:c=b
      ·rw[z,hb]at e2;cases e2
      ·rw[zB0 z];exact e2,fun _ _=>rfl⟩
    exact PostE.lst p2 (fr.ext.trans x1) (zD7 _) hl
   ·exact p2.elim
 |_=>exact p1.elim
end
end L3
namespace Mi
open PySem
noncomputable section
noncomputable def dedA{α:Type}[DecidableEq α]:List α->List α
 |[]=>[]
 |a::r=>if a∈r then dedA r else a::dedA r
def lsetS:List Dt->Option Dt
 |[.lst ds]=>match zXS ds with
  |some zs=>@ite _ (zs.length<=1000) (qA4 _) (some (.int (dedA zs).length)) none
  |none=>none
 |_=>none
noncomputable def rvlD:Dt->Dt->Option Dt
 |.lst ds,.int j=>if j = -1 then some (.lst ds.reverse)else none
 |_,_=>none
end
end Mi
namespace L2
open PySem PySem.Spec PyProof.Rows
section
variable{prog:Program}{w:World}{A:Around}{E:Value->Shared->Prop}{s:Shared}
structure ZipX(z TI TO i1 i2:Addr):Prop where
 TIz:TI≠z
 TOz:TO≠z
 i1z:i1≠z
 i2z:i2≠z
 TITO:TI≠TO
 TIi1:TI≠i1
 TIi2:TI≠i2
 TOi1:TO≠i1
 TOi2:TO≠i2
 i12:i1≠i2
end
section
variable{X:Cx}{K:qA2}
end
section
variable{X:Cx}{e m1:Expr}{te ts:TE}{pos p2:Pos}
theorem zNW:∀{xs:List V}{us:List Value},Vals xs us->Vals xs.reverse us.reverse
 |_,_,.nil=>.nil
 |_,_,.cons h t=>by rw[qD2,qD2];exact(zNW t).append (.cons h .nil)
def rRvl:R2:=fun x y H Q=>∃a xs,x=.ref a/\H a=some (.lst xs)/\y=.int (-1)/\∀p,H p=none->Q (.ref p) (upd H p (.lst xs.reverse))
theorem zUP(he:PE X e te)(hs:PE X m1 ts):PE X (.Subscript e (.Slice none none (some m1) p2) pos) (tOp rRvl te ts):=by
 intro pins s σ H Q I h;refine Subscript_ (thn (he pins s σ H _ I h) fun v s1 z0=>?_);obtain⟨x,H1,I1,r1,q1⟩:=z0;refine wpAny_Slice ?_;rw[evalPart_none];refine wpAny_pure ?_;refine wpAny_pure ?_;rw[evalPart_some];refine thn (hs pins s1 σ H1 _ I1 q1) fun u s2 z0=>?_
 obtain⟨y,H2,I2,r2,q2⟩:=z0;obtain⟨a,xs,rfl,ha,rfl,q⟩:=q2;cases r1;obtain⟨t2,rfl⟩:=r2;have I3:Inv X pins σ H2 { s2 with heap:=s2.heap.push { cls:=.type "slice",data:=.fields #[.none,.none,.int (-1) t2] } }:=I2.kept (t':=s2.toks) fun b ob q=>Heap.get?_push_of_some _ q
 obtain⟨its,rv,hl⟩:=zB2 I3.hok ha;have hz:xs.length<=sizeLine:=(I3.hok a _ ha).1;have hlen:=rv.length;show wpAny (model X.prog X.w) X.A (subscriptTail e (.Slice none none (some m1) p2) (.ref a) (.ref s2.heap.objs.size)) (EP X pins σ Q) X.xe { s2 with heap:=s2.heap.push { cls:=.type "slice",data:=.fields #[.none,.none,.int (-1) t2] } };refine tail_any (ops:=[.ref a,.ref s2.heap.objs.size]) hl.typeIs slot_list_getitem.lookup (wpAny_getItem_list_slice hl (lo:=none) (hi:=none) (st:=some (-1)) (Heap.IsSliceOf.new ..) .none .none (.int _ _) (by decide) ?_ (by rw[qAh];omega)) (by with_unfolding_all rfl);rw[PySem.W.krv_pick];refine⟨.ref _,_,I3.laid (t':=s2.toks) (o:=.lst xs.reverse) (fun b ob q=>Heap.get?_push_of_some _ q) (qA7 _) ⟨?_,its.reverse,0,zNW rv,Heap.get?_push_size _ rfl⟩,rfl,q _ (I3.hok.fresh (qA7 _))⟩;rw[qDl];exact hz
end
end L2
namespace L2
open PySem PySem.Spec PyProof.Rows
section
variable{prog:Program}{w:World}{A:Around}{R:Result->Shared->Prop}{I:Addr}{fp wr:List Addr}{G:Array GenState->Array GenState->Prop}{n:Nat}{St:Nat->Shared->Prop}{led:Bool}{items:Array Value}{zs:List Str}
end
end L2
namespace PySem
open PyProof.Rows
end PySem
namespace L2
open PySem PySem.Spec PyProof.Rows
section
variable{X:Cx}{pins:List (Addr×Obj)}{σ:List (Option V)}{H:Hp}{s:Shared}
end
end L2
namespace L3
open PySem PySem.Spec
open L2 hiding Rep RepL
open Mi (Dt Xn R okR zA9 optR zA2 zAE zAK zAH zAJ Rh Sl Ro EM TM AM FM IM SM OM Tg Out zB8 zB6 zBI full frz frz1 frzAt)
section
variable[Kc]{mg:Str->Option Value}{E:XK}{L n k l:Nat}{te ta tb:TE}{e ea eb ma:EM}{t:TA}{m:AM}
theorem zUG:ROp rRvl Mi.rvlD 1:=by
 intro mg E G H d e x y Q s h1 h2 p;cases d with
 |lst ds=>
  cases e with
  |int j=>
   obtain⟨a,xs,rfl,ha,ra⟩:=h1
   cases(show y=.int j from h2)
   rw[Mi.rvlD]at p
   split at p
   ·rename_i hz
    subst hz;exact⟨a,xs,rfl,s _ _ ha,rfl,fun q hq=>PostE.lst p (Ext.refl s) (zSZ ra) hq⟩
   ·exact p.elim
  |_=>exact p.elim
 |_=>exact p.elim
end
end L3
namespace L2
open PySem
theorem uw1{P:List Value->Prop}(h:∀a,P [a]):∀us:List Value,us.length=1->P us
 |[a],_=>h a
theorem uw2{P:List Value->Prop}(h:∀a b,P [a,b]):∀us:List Value,us.length=2->P us
 |a::us,hl=>uw1 (P:=fun us=>P (a::us)) (h a) us (qFb hl)
theorem uw3{P:List Value->Prop}(h:∀a b c,P [a,b,c]):∀us:List Value,us.length=3->P us
 |a::us,hl=>uw2 (P:=fun us=>P (a::us)) (h a) us (qFb hl)
theorem uw4{P:List Value->Prop}(h:∀a b c d,P [a,b,c,d]):∀us:List Value,us.length=4->P us
 |a::us,hl=>uw3 (P:=fun us=>P (a::us)) (h a) us (qFb hl)
theorem oi{p q:Prop}(h:p\/q:=by first|exact Or.inl rfl|exact qH8 rfl):p\/q:=h
end L2
namespace L3
open PySem PyProof.Rows
open L2 hiding Rep RepL
theorem fsc{N P:List Str}{sc:Scope}(a:sc.kind=.function:=by rfl)(b:sc.isCoroutine=false:=by rfl)(c:sc.isGenerator=false:=by rfl)(d:N.Nodup:=by decide +kernel)(e:N.take P.length=P:=by rfl)
  (f:∀x∈P,sc.names.lookup x=some .local\/sc.names.lookup x=some .cell:=by decide +kernel) (g:∀y∈sc.names,y.2≠.free:=by decide +kernel):FnScope N P sc:=⟨a,b,c,d,e,f,g⟩
section
variable{P:Program}{w:World}{K:qA2}{mg:Str->Option Value}{base:Heap}{x:Str}{st:Stmt}{N ps:List Str}{k:Nat}{sp:Sp}
theorem dfM{L n:Nat}{m:Mi.SM}(D:Def K mg x st)(S:FnScope N ps (zAD st))
  (hb:∀(kV doc pm:Value)(an:Option Addr)(cdv ct:Value)(us:List Value),us.length=ps.length->bindArgs (qBj x x (zEG st) (zDE st) (zAD st) .none kV doc pm an cdv ct) ⟨us,[]⟩=pure (ps.zip us))
  (hbody:∀{f:Addr}{cdv:Value}{A:Around}{outer:List Env}{s:Shared}{H:Hp}{vs:List V}{Q:VK}{E:XK},Room k (A.deeper (envOfC x (zAD st) s.heap.objs.size f cdv))->(A.deeper (envOfC x (zAD st) s.heap.objs.size f cdv)).units+64<cLine->sp0 K mg L (Mi.runF ps.length n m) vs H Q E ->
   ∃t,PSs (cxOf CX0 P w K mg base N x (zAD st) f cdv A outer s H E).nox (zDE st) t/\t { nx:=fun _ H'=>Q .non H',rt:=Q } (start N vs) H):Has P w K mg base x (k+1) ps (sp0 K mg L (Mi.runF ps.length n m)):=
 D.ok S hb (fun _ _ _ _ h=>@zQ8 ⟨K⟩ _ _ _ _ _ _ _ _ _ h) fun _ _ _ _ _ _ _ _ _ hr h=>hbody hr hr.units h
theorem mkD{K:qA2}{h:Heap}{mg:Str->Option Value}{nm:Str}{st:Stmt}{f:Addr}{oc kV dc pm cd ct:Value}{od an:Option Addr}{sl:Array (Option Value)}(X:K.In h)(G:h.Ns mainGlobals mg)(a:qF9 K mainGlobals nm=some (some (.ref f)))(l:K.lookup f=some ⟨oc,od,.func (qBj nm nm (zEG st) (zDE st) (zAD st) .none kV dc pm an cd ct),sl⟩)(c:qD6 K cd nm=true)(k:qB7 K (.ref f)=true):Def K mg nm st:=⟨f,_,zUX (st:=st) l c k,qGu X G a⟩
end
section
variable{X:Cx}{pos:Pos}
theorem pgn(i:Nat){x:Str}(hN:decide X.N.Nodup=true:=by kernel_rfl)(hi:X.N[i]?=some x:=by rfl)(hx:Loc X.env.scope x:=by exact oi)(hf:X.fn x=true\/X.env.scope.names.lookup x=some .local:=by first|exact .inl rfl|exact .inr rfl|assumption):PG X (.Name x pos) (zGN i):=zBR (of_decide_eq_true hN) hi hx hf
theorem pst(i:Nat){x:Str}{e:Expr}{te:TE}{pos':Pos}(hN:X.N.Nodup)(he:PE X e te)(hi:X.N[i]?=some x:=by rfl)(hx:Loc X.env.scope x:=by exact oi)(hs:swapsWith e (some (.Name x pos')) pos.line X.env=pure false:=by rfl)(hf:X.fn x=true\/X.env.scope.names.lookup x=some .local:=by first|exact .inl rfl|exact .inr rfl|assumption):PS X (.Assign [.Name x pos'] e pos) (tAsg te (zGN i)):=zUM hN hi hx he hs hf
end
end L3
namespace Mi
open PySem
noncomputable section
end
end Mi
namespace L3
open PySem PySem.Spec
open L2 hiding Rep RepL
open Mi (Dt Xn R okR zA9 optR zA2 zAE zAK zAH zAJ Rh Sl Ro EM TM AM FM IM SM Tg Out zB8 zB6 zBI full frz frz1 frzAt)
section
variable[Kc]
section
variable{G0 H0 S0:Hp}{σ:St}{ρ:Ro}{G H:Hp}{As:Nat->Addr->Prop}
end
variable{mg:Str->Option Value}{E:XK}{L n k l:Nat}{te ta tb:TE}{e ea eb ma:EM}{t:TA}{m:AM}
end
end L3
namespace Mp
noncomputable section
open Mi PySem
def zHA:SM:=(sRet 0 0 [0] (eAnd (eIsi "int" (eV 0)) (eNot (eIsi "bool" (eV 0)))))
def zBT:FM:=runF 1 1 zHA
def zFK:SM:=(sSeq (sSet 2 0 [] (eC (.int 0)))
 (sSeq (sIf (tB (eB (cmpD fun i j=>decide (i<j)) (eV 1) (eBi lenD (aCons (eV 0) aNil)))) (sSet 2 0 [0,1] (eB ixD (eV 0) (eV 1))) sNil)
 (sSeq (sSet 3 0 [2,1] (eB modD (eB mulD (eB addD (eB modD (eV 2) (eC (.int 2147483629))) (eB mulD (eC (.int 104729)) (eB addD (eV 1) (eC (.int 1))))) (eC (.int 48271))) (eC (.int 2147483647))))
 (sRet 1 1 [2,3] (eB addD (eB mulD (eB divD (eV 2) (eC (.int 2147483629))) (eC (.int 2147483647))) (eB modD (eB mulD (eV 3) (eC (.int 69621))) (eC (.int 2147483629))))))))
def zAA:FM:=runF 2 4 zFK
def zIY:SM:=(sRet 2 2 [0] (eComp (iSq (eV 0)) 1 (.one 1) Mi.tYes (eBi listD (aCons (eV 1) aNil))))
def zBC:FM:=runF 1 1 zIY
def zE1:SM:=(sSeq (sSet 3 0 [0,1,2] (eB modD (eCall zAA (aCons (eV 0) (aCons (eV 1) aNil))) (eB addD (eV 2) (eC (.int 1)))))
 (sSeq (sSet 4 0 [3,0,1] (eBi maxD (aCons (eC (.int 1)) (aCons (eB subD (eV 3) (eB modD (eB divD (eCall zAA (aCons (eV 0) (aCons (eV 1) aNil))) (eC (.int 16))) (eC (.int 4)))) aNil))))
 (sSeq (sSet 5 1 [4,3,0,1] (eComp (iR1 (aCons (eV 3) aNil)) 1 (.one 10) Mi.tYes (eB modD (eB divD (eCall zAA (aCons (eV 0) (aCons (eB addD (eV 1) (eC (.int 1))) aNil))) (eB addD (eV 10) (eC (.int 1)))) (eV 4))))
 (sSeq (sIf (tB (eB (cmpD fun i j=>decide (j<i)) (eB modD (eB divD (eCall zAA (aCons (eV 0) (aCons (eV 1) aNil))) (eC (.int 64))) (eC (.int 3))) (eC (.int 0)))) (sSet 5 1 [4,3] (eComp (iR1 (aCons (eV 3) aNil)) 1 (.one 10) Mi.tYes (eB modD (eV 10) (eV 4)))) sNil)
 (sSeq (sSet 6 2 [0,9,4,1] (eComp (iR1 (aCons (eV 4) aNil)) 1 (.one 10) Mi.tYes (eCall zAA (aCons (eV 0) (aCons (eB addD (eB addD (eV 1) (eC (.int 2))) (eV 10)) aNil)))))
 (sSeq (sSet 7 0 [0,1] (eB (cmpD fun i j=>decide (j<i)) (eB modD (eB divD (eCall zAA (aCons (eV 0) (aCons (eV 1) aNil))) (eC (.int 192))) (eC (.int 3))) (eC (.int 0))))
 (sSeq (sSet 8 2 [9,4,6] (eComp (iR1 (aCons (eV 4) aNil)) 1 (.one 10) Mi.tYes (eComp (iR1 (aCons (eV 4) aNil)) 1 (.one 11) Mi.tYes (eB modD (eB divD (eB ixD (eV 6) (eBi maxD (aCons (eV 10) (aCons (eV 11) aNil)))) (eB addD (eB mulD (eBi minD (aCons (eV 10) (aCons (eV 11) aNil))) (eBi minD (aCons (eV 10) (aCons (eV 11) aNil)))) (eC (.int 3)))) (eC (.int 2))))))
 (sSeq (sForR (iR1 (aCons (eV 4) aNil)) 9 (sItem2 8 0 (eV 9) (eV 9) (eB mulD (eB ixD (eB ixD (eV 8) (eV 9)) (eV 9)) (eBi intD (aCons (eV 7) aNil)))))
 (sRet 2 2 [9,3,8,5] (eComp (iR1 (aCons (eV 3) aNil)) 1 (.one 10) Mi.tYes (eComp (iR1 (aCons (eV 3) aNil)) 1 (.one 11) Mi.tYes (eB ixD (eB ixD (eV 8) (eB ixD (eV 5) (eV 10))) (eB ixD (eV 5) (eV 11))))))))))))))
def zE0:FM:=runF 3 10 zE1
def zHB:SM:=(sRet 1 1 [0,1] (eComp (iZi (aCons (eV 0) (aCons (eV 1) aNil))) 2 (.tup [2,3]) Mi.tYes (eB modD (eB addD (eV 2) (eV 3)) (eC (.int 2)))))
def zCR:FM:=runF 2 2 zHB
def zFI:SM:=(sSeq (sSet 2 9 [] (eLst aNil))
 (sSeq (sFor [0] (iSq (eV 0)) (.one 3) (sSeq (sSet 4 1 [1] (eComp (iSq (eV 1)) 1 (.one 6) Mi.tYes (eC (.int 0))))
 (sSeq (sForR (iR1 (aCons (eBi lenD (aCons (eV 1) aNil)) aNil)) 5 (sIf (tB (eB eqD (eB ixD (eV 3) (eV 5)) (eC (.int 1)))) (sSet 4 1 [4,1,5] (eCall zCR (aCons (eV 4) (aCons (eB ixD (eV 1) (eV 5)) aNil)))) sNil))
 (sAppF 2 [4] (eV 4)))))
 (sRetV 1 2)))
def zD5:FM:=runF 2 6 zFI
def zMJ:SM:=(sRet 1 1 [0] (eComp (iR1 (aCons (eBi lenD (aCons (eV 0) aNil)) aNil)) 1 (.one 1) (tB (eB eqD (eB ixD (eV 0) (eV 1)) (eC (.int 1)))) (eV 1)))
def zER:FM:=runF 1 1 zMJ
def zNM:SM:=(sRet 1 1 [0,1] (eComp (iR1 (aCons (eBi lenD (aCons (eV 0) aNil)) aNil)) 1 (.one 2) Mi.tYes (eB xorD (eB ixD (eV 0) (eV 2)) (eB ixD (eV 1) (eV 2)))))
def zED:FM:=runF 2 2 zNM
def zGG:SM:=(sSeq (sSet 2 1 [0] (eB repD (eLst (aCons (eC (.int 0)) aNil)) (eBi lenD (aCons (eV 0) aNil))))
 (sSeq (sFor [1] (iSq (eV 1)) (.one 3) (sSet 2 1 [2,0,3] (eCall zED (aCons (eV 2) (aCons (eB ixD (eV 0) (eV 3)) aNil)))))
 (sRetV 1 2)))
def zDH:FM:=runF 2 4 zGG
def zIX:SM:=(sRet 2 2 [1,0] (eComp (iSq (eV 1)) 1 (.one 2) Mi.tYes (eComp (iSq (eV 1)) 1 (.one 3) Mi.tYes (eB ixD (eB ixD (eV 0) (eV 2)) (eV 3)))))
def zCQ:FM:=runF 2 2 zIX
def zEY:SM:=(sSeq (sSet 2 0 [0] (eBi lenD (aCons (eV 0) aNil)))
 (sSeq (sSet 3 0 [1,2] (eB modD (eV 1) (eV 2)))
 (sSeq (sSet 4 0 [2,3,1] (eB modD (eB addD (eB addD (eV 3) (eC (.int 1))) (eB modD (eB divD (eV 1) (eV 2)) (eB subD (eV 2) (eC (.int 1))))) (eV 2)))
 (sSeq (sSet 0 2 [4,5,0,3] (eComp (iEn (aCons (eV 0) aNil)) 2 (.tup [6,7]) Mi.tYes (eIf (tB (eB eqD (eV 6) (eV 4))) (eCall zCR (aCons (eV 7) (aCons (eB ixD (eV 0) (eV 3)) aNil))) (eBi listD (aCons (eV 7) aNil)))))
 (sSeq (sForSet 0 5 (eV 4) (eB modD (eB addD (eB ixD (eV 5) (eV 4)) (eB ixD (eV 5) (eV 3))) (eC (.int 2))))
 (sRetV 0 0))))))
def zCV:FM:=runF 2 6 zEY
def zE2:SM:=(sSeq (sSet 4 0 [0,1,2] (eB modD (eCall zAA (aCons (eV 0) (aCons (eV 1) aNil))) (eB addD (eV 2) (eC (.int 1)))))
 (sSeq (sSet 5 2 [4] (eComp (iR1 (aCons (eV 4) aNil)) 1 (.one 10) Mi.tYes (eComp (iR1 (aCons (eV 4) aNil)) 1 (.one 11) Mi.tYes (eC (.int 0)))))
 (sSeq (sSet 6 0 [] (eC (.int 0)))
 (sSeq (sSet 7 0 [] (eC (.int 0)))
 (sSeq (sWhile (tB (eB (cmpD fun i j=>decide (i<j)) (eV 7) (eV 4))) (sSeq (sSet 8 0 [0,7,1] (eB modD (eCall zAA (aCons (eV 0) (aCons (eB addD (eB addD (eV 1) (eC (.int 1))) (eV 7)) aNil))) (eC (.int 4))))
 (sIf (tAn (tB (eB eqD (eV 8) (eC (.int 0)))) (tNo (tM (eV 3)))) (sSeq (sSet 6 1 [6] (eB addD (eV 6) (eC (.int 1))))
 (sSet 7 1 [7] (eB addD (eV 7) (eC (.int 1))))) (sIf (tAn (tB (eB (cmpD fun i j=>decide (j<i)) (eV 8) (eC (.int 1)))) (tB (eB (cmpD fun i j=>decide (i<j)) (eB addD (eV 7) (eC (.int 1))) (eV 4)))) (sSeq (sItem2 5 0 (eV 7) (eB addD (eV 7) (eC (.int 1))) (eC (.int 1)))
 (sSeq (sItem2 5 0 (eB addD (eV 7) (eC (.int 1))) (eV 7) (eC (.int 1)))
 (sSet 7 1 [7] (eB addD (eV 7) (eC (.int 2)))))) (sSeq (sItem2 5 0 (eV 7) (eV 7) (eC (.int 1)))
 (sSet 7 1 [7] (eB addD (eV 7) (eC (.int 1)))))))))
 (sSeq (sForR (iR1 (aCons (eC (.int 14)) aNil)) 9 (sIf (tB (eB (cmpD fun i j=>decide (j<i)) (eV 4) (eC (.int 1)))) (sSet 5 0 [5,0,9,1] (eCall zCV (aCons (eV 5) (aCons (eCall zAA (aCons (eV 0) (aCons (eB addD (eB addD (eV 1) (eC (.int 12))) (eV 9)) aNil))) aNil)))) sNil))
 (sRet 1 1 [5,6] (eTup (aCons (eV 5) (aCons (eV 6) aNil))))))))))
def zD9:FM:=runF 4 10 zE2
def zGW:SM:=(sSeq (sIf (tB (eB eqD (eB modD (eCall zAA (aCons (eV 0) (aCons (eC (.int 40)) aNil))) (eC (.int 2))) (eC (.int 0)))) (sRet 0 0 [0,1] (eCall zE0 (aCons (eV 0) (aCons (eC (.int 0)) (aCons (eV 1) aNil))))) sNil)
 (sRet 0 0 [0,1] (eB ixD (eCall zD9 (aCons (eV 0) (aCons (eC (.int 0)) (aCons (eV 1) (aCons (eC (.bl false)) aNil))))) (eC (.int 0)))))
def zE7:FM:=runF 2 2 zGW
def zIW:SM:=(sRet 2 2 [0] (eComp (iR1 (aCons (eV 0) aNil)) 1 (.one 1) Mi.tYes (eComp (iR1 (aCons (eV 0) aNil)) 1 (.one 2) Mi.tYes (eBi intD (aCons (eB eqD (eV 1) (eV 2)) aNil)))))
def zEE:FM:=runF 1 1 zIW
def zMK:SM:=(sSeq (sSet 3 0 [0,2] (eB ixD (eV 0) (eV 2)))
 (sSeq (sSet 4 1 [0,3,1] (eComp (iSq (eV 0)) 1 (.one 5) Mi.tYes (eIf (tB (eB eqD (eB ixD (eV 5) (eV 1)) (eC (.int 1)))) (eCall zED (aCons (eV 5) (aCons (eV 3) aNil))) (eV 5))))
 (sSeq (sItemS 4 (eV 2) (eV 1))
 (sSeq (sItemF 4 [3] (eV 1) (eV 3))
 (sRetV 1 4)))))
def zES:FM:=runF 3 5 zMK
def zJO:SM:=(sRet 1 1 [1,0] (eComp (iR1 (aCons (eV 0) aNil)) 1 (.one 2) Mi.tYes (eIf (tB (eB eqD (eV 2) (eV 1))) (eC (.int 1)) (eC (.int 0)))))
def zE6:FM:=runF 2 2 zJO
def zIS:SM:=(sSeq (sSet 1 0 [0] (eBi lenD (aCons (eV 0) aNil)))
 (sSeq (sSet 2 2 [0,1] (eComp (iR1 (aCons (eV 1) aNil)) 1 (.one 5) Mi.tYes (eB addD (eB ixD (eV 0) (eV 5)) (eCall zE6 (aCons (eV 1) (aCons (eV 5) aNil))))))
 (sSeq (sForR (iR1 (aCons (eV 1) aNil)) 3 (sSeq (sSet 4 1 [3,1,2] (eComp (iR2 (aCons (eV 3) (aCons (eV 1) aNil))) 1 (.one 5) (tB (eB eqD (eB ixD (eB ixD (eV 2) (eV 5)) (eV 3)) (eC (.int 1)))) (eV 5)))
 (sSeq (sIf (tNo (tL (eV 4))) (sRet 2 2 [] (eC .non)) sNil)
 (sSet 2 1 [2,3,4] (eCall zES (aCons (eV 2) (aCons (eV 3) (aCons (eB ixD (eV 4) (eC (.int 0))) aNil))))))))
 (sRet 2 2 [2,1] (eComp (iSq (eV 2)) 1 (.one 5) Mi.tYes (eSl (eV 5) (oE (eV 1)) oNo))))))
def zDS:FM:=runF 1 5 zIS
def zIV:SM:=(sRet 0 0 [0] (eBi allD (aCons (eComp (iSq (eV 0)) 1 (.one 1) Mi.tYes (eCall zBT (aCons (eV 1) aNil))) aNil)))
def zD0:FM:=runF 1 1 zIV
def zOV:SM:=(sRet 0 0 [1,0] (eAnd (eCall zD0 (aCons (eV 1) aNil)) (eB eqD (eV 1) (eComp (iR1 (aCons (eBi lenD (aCons (eV 0) aNil)) aNil)) 1 (.one 2) (tB (eB (inD false) (eV 2) (eV 1))) (eV 2)))))
def zG3:FM:=runF 2 2 zOV
def zFH:SM:=(sSeq (sSet 2 0 [0] (eV 0))
 (sSeq (sFor [1] (iSq (eV 1)) (.one 3) (sIf (tB (eB eqD (eB ixD (eV 2) (eMl lixD (eV 3) (aCons (eC (.int 1)) aNil))) (eC (.int 1)))) (sSet 2 1 [2,3] (eCall zED (aCons (eV 2) (aCons (eV 3) aNil)))) sNil))
 (sRetV 0 2)))
def zCO:FM:=runF 2 4 zFH
def zDV:SM:=(sSeq (sSet 1 9 [] (eLst aNil))
 (sSeq (sSet 2 9 [] (eLst aNil))
 (sSeq (sFor [0] (iEn (aCons (eV 0) aNil)) (.tup [3,4]) (sSeq (sSetL 5 2 [4] (eCall zCO (aCons (eV 4) (aCons (eV 2) aNil))))
 (sIf (tB (eB (inD false) (eC (.int 1)) (eV 5))) (sSeq (sApp 1 0 (eV 3))
 (sAppF 2 [5] (eV 5))) sNil)))
 (sRetV 9 1))))
def zBS:FM:=runF 1 6 zDV
def zMI:SM:=(sRet 0 0 [0] (eB subD (eBi lenD (aCons (eV 0) aNil)) (eBi lenD (aCons (eCall zBS (aCons (eV 0) aNil)) aNil))))
def zLP:FM:=runF 1 1 zMI
def zD2:SM:=(sSeq (sUnp [2,3,4] [1] (eV 1))
 (sSeq (sSet 5 0 [0] (eBi lenD (aCons (eV 0) aNil)))
 (sSeq (sIf (tB (eB neD (eV 2) (eComp (iR1 (aCons (eV 5) aNil)) 1 (.one 9) (tB (eB (inD false) (eV 9) (eV 2))) (eV 9)))) (sRet 0 0 [] (eC (.bl false))) sNil)
 (sSeq (sSet 6 1 [7,5,2] (eComp (iR1 (aCons (eV 5) aNil)) 1 (.one 9) (tB (eB (inD true) (eV 9) (eV 2))) (eV 9)))
 (sSeq (sIf (Mi.tOr (tB (eB neD (eBi lenD (aCons (eV 3) aNil)) (eBi lenD (aCons (eV 2) aNil)))) (Mi.tOr (tM (eBi anyD (aCons (eComp (iSq (eV 3)) 1 (.one 9) Mi.tYes (eB neD (eBi lenD (aCons (eV 9) aNil)) (eBi lenD (aCons (eV 2) aNil)))) aNil))) (tB (eB neD (eBi lenD (aCons (eV 4) aNil)) (eBi lenD (aCons (eV 6) aNil)))))) (sRet 0 0 [] (eC (.bl false))) sNil)
 (sSeq (sIf (tM (eBi anyD (aCons (eComp (iSq (eV 3)) 1 (.one 9) Mi.tYes (eB (cmpD fun i j=>decide (j<i)) (eBi lenD (aCons (eComp (iSq (eV 9)) 1 (.one 10) (tB (eB (inD true) (eV 10) (eTup (aCons (eC (.int 0)) (aCons (eC (.int 1)) aNil))))) (eV 10)) aNil)) (eC (.int 0)))) aNil))) (sRet 0 0 [] (eC (.bl false))) sNil)
 (sSeq (sIf (tB (eB neD (eCall zD5 (aCons (eCall zCQ (aCons (eV 0) (aCons (eV 2) aNil))) (aCons (eV 3) aNil))) (eCall zEE (aCons (eBi lenD (aCons (eV 2) aNil)) aNil)))) (sRet 0 0 [] (eC (.bl false))) sNil)
 (sSeq (sFor [6,4] (iZi (aCons (eV 6) (aCons (eV 4) aNil))) (.tup [7,8]) (sSeq (sIf (Mi.tOr (tB (eB neD (eV 8) (eBi soiD (aCons (eV 8) aNil)))) (Mi.tOr (tB (eB (inD true) (eV 7) (eV 8))) (tM (eBi anyD (aCons (eComp (iSq (eV 8)) 1 (.one 9) Mi.tYes (eAnd (eB neD (eV 9) (eV 7)) (eB (inD true) (eV 9) (eV 2)))) aNil))))) (sRet 0 0 [] (eC (.bl false))) sNil)
 (sIf (tM (eBi anyD (aCons (eComp (iR1 (aCons (eV 5) aNil)) 1 (.one 9) Mi.tYes (eB eqD (eB modD (eBi sumD (aCons (eComp (iSq (eV 8)) 1 (.one 10) Mi.tYes (eB ixD (eB ixD (eV 0) (eV 10)) (eV 9))) aNil)) (eC (.int 2))) (eC (.int 1)))) aNil))) (sRet 0 0 [] (eC (.bl false))) sNil)))
 (sRet 0 0 [] (eC (.bl true)))))))))))
def zCF:FM:=runF 2 9 zD2
def zFJ:SM:=(sRet 0 0 [0] (eAnd (eIsi "list" (eV 0)) (eBi allD (aCons (eComp (iSq (eV 0)) 1 (.one 1) Mi.tYes (eCall zBT (aCons (eV 1) aNil))) aNil))))
def zBX:FM:=runF 1 1 zFJ
def zEC:SM:=(sSeq (sIf (Mi.tOr (tNo (tM (eIsi "tuple" (eV 0)))) (Mi.tOr (tB (eB neD (eBi lenD (aCons (eV 0) aNil)) (eC (.int 3)))) (tNo (tM (eBi allD (aCons (eComp (iSq (eV 0)) 1 (.one 1) Mi.tYes (eIsi "list" (eV 1))) aNil)))))) (sRet 0 0 [] (eC (.bl false))) sNil)
 (sRet 0 0 [0] (eAnd (eCall zBX (aCons (eB ixD (eV 0) (eC (.int 0))) aNil)) (eBi allD (aCons (eComp (iSq (eB addD (eB ixD (eV 0) (eC (.int 1))) (eB ixD (eV 0) (eC (.int 2))))) 1 (.one 1) Mi.tYes (eCall zBX (aCons (eV 1) aNil))) aNil)))))
def zCE:FM:=runF 1 1 zEC
def zD1:SM:=(sSeq (sSet 2 0 [1] (eB modD (eV 1) (eC (.int 5))))
 (sSeq (sSet 3 0 [1,0] (eB modD (eB divD (eV 1) (eC (.int 5))) (eB addD (eBi lenD (aCons (eV 0) aNil)) (eC (.int 1)))))
 (sSeq (sSet 4 0 [1] (eB subD (eB modD (eB divD (eV 1) (eC (.int 60))) (eC (.int 13))) (eC (.int 2))))
 (sSeq (sIf (tB (eB eqD (eB modD (eB divD (eV 1) (eC (.int 780))) (eC (.int 7))) (eC (.int 4)))) (sSet 4 1 [1,4] (eB addD (eB mulD (eB addD (eB mulD (eV 4) (eC (.int 2))) (eC (.int 1))) (eB powD (eC (.int 10)) (eC (.int 58)))) (eB modD (eV 1) (eC (.int 1000))))) sNil)
 (sSeq (sIf (tB (eB eqD (eB modD (eB divD (eV 1) (eC (.int 780))) (eC (.int 7))) (eC (.int 5)))) (sSet 0 1 [0] (eSl (eB repD (eV 0) (eC (.int 4))) oNo (oE (eC (.int 40))))) sNil)
 (sSeq (sIf (tB (eB eqD (eV 2) (eC (.int 0)))) (sRet 1 1 [0,4,3] (eB addD (eB addD (eSl (eV 0) oNo (oE (eV 3))) (eLst (aCons (eV 4) aNil))) (eSl (eV 0) (oE (eV 3)) oNo))) sNil)
 (sSeq (sIf (tB (eB eqD (eV 2) (eC (.int 1)))) (sRet 1 1 [0,3] (eB addD (eSl (eV 0) oNo (oE (eV 3))) (eSl (eV 0) (oE (eB addD (eV 3) (eC (.int 1)))) oNo))) sNil)
 (sSeq (sIf (tB (eB eqD (eV 2) (eC (.int 2)))) (sRet 1 1 [0,4,3] (eB addD (eB addD (eSl (eV 0) oNo (oE (eV 3))) (eLst (aCons (eV 4) aNil))) (eSl (eV 0) (oE (eB addD (eV 3) (eC (.int 1)))) oNo))) sNil)
 (sSeq (sIf (tB (eB eqD (eV 2) (eC (.int 3)))) (sRet 1 1 [0] (eB rvlD (eV 0) (eU negD (eC (.int 1))))) sNil)
 (sRet 1 1 [0,3,4] (eBi sortD (aCons (eB addD (eB addD (eSl (eV 0) oNo (oE (eV 3))) (eLst (aCons (eBi absD (aCons (eV 4) aNil)) aNil))) (eSl (eV 0) (oE (eB addD (eV 3) (eC (.int 1)))) oNo)) aNil))))))))))))
def zCD:FM:=runF 2 5 zD1
def zCY:SM:=(sSeq (sSet 2 0 [1,0] (eB modD (eB divD (eV 1) (eC (.int 7))) (eB addD (eBi lenD (aCons (eV 0) aNil)) (eC (.int 1)))))
 (sSeq (sIf (tB (eB eqD (eB modD (eV 1) (eC (.int 7))) (eC (.int 0)))) (sRet 1 1 [0,2] (eB addD (eB addD (eSl (eV 0) oNo (oE (eV 2))) (eLst (aCons (eLst aNil) aNil))) (eSl (eV 0) (oE (eV 2)) oNo))) sNil)
 (sSeq (sIf (Mi.tOr (tB (eB eqD (eB modD (eV 1) (eC (.int 7))) (eC (.int 1)))) (tB (eB eqD (eV 2) (eBi lenD (aCons (eV 0) aNil))))) (sRet 1 1 [0,2] (eB addD (eSl (eV 0) oNo (oE (eV 2))) (eSl (eV 0) (oE (eB addD (eV 2) (eC (.int 1)))) oNo))) sNil)
 (sSeq (sIf (tB (eB eqD (eB modD (eV 1) (eC (.int 7))) (eC (.int 2)))) (sRet 1 1 [0] (eB rvlD (eV 0) (eU negD (eC (.int 1))))) sNil)
 (sRet 1 1 [0,2,1] (eB addD (eB addD (eSl (eV 0) oNo (oE (eV 2))) (eLst (aCons (eCall zCD (aCons (eB ixD (eV 0) (eV 2)) (aCons (eB divD (eV 1) (eC (.int 49))) aNil))) aNil))) (eSl (eV 0) (oE (eB addD (eV 2) (eC (.int 1)))) oNo)))))))
def zC6:FM:=runF 2 3 zCY
def zHD:SM:=(sSeq (sUnp [2,3,4] [0] (eV 0))
 (sSeq (sIf (tB (eB eqD (eB modD (eV 1) (eC (.int 3))) (eC (.int 0)))) (sRet 1 1 [3,4,2,1] (eTup (aCons (eCall zCD (aCons (eV 2) (aCons (eB divD (eV 1) (eC (.int 3))) aNil))) (aCons (eV 3) (aCons (eV 4) aNil))))) sNil)
 (sSeq (sIf (tB (eB eqD (eB modD (eV 1) (eC (.int 3))) (eC (.int 1)))) (sRet 1 1 [2,4,3,1] (eTup (aCons (eV 2) (aCons (eCall zC6 (aCons (eV 3) (aCons (eB divD (eV 1) (eC (.int 3))) aNil))) (aCons (eV 4) aNil))))) sNil)
 (sRet 1 1 [2,3,4,1] (eTup (aCons (eV 2) (aCons (eV 3) (aCons (eCall zC6 (aCons (eV 4) (aCons (eB divD (eV 1) (eC (.int 3))) aNil))) aNil))))))))
def zCP:FM:=runF 2 5 zHD
def zEX:SM:=(sSeq (sSet 4 1 [1,0,3] (eComp (iSq (eV 1)) 1 (.one 6) Mi.tYes (eB ixD (eB ixD (eV 0) (eV 3)) (eV 6))))
 (sSeq (sSet 5 1 [2,4] (eCall zER (aCons (eCall zDH (aCons (eV 2) (aCons (eCall zER (aCons (eV 4) aNil)) aNil))) aNil)))
 (sRet 1 1 [3,1,5] (eBi sortD (aCons (eB addD (eLst (aCons (eV 3) aNil)) (eComp (iSq (eV 5)) 1 (.one 6) Mi.tYes (eB ixD (eV 1) (eV 6)))) aNil)))))
def zC9:FM:=runF 4 6 zEX
def zGH:SM:=(sRet 2 2 [0,1,2] (eComp (iR1 (aCons (eBi lenD (aCons (eV 0) aNil)) aNil)) 1 (.one 3) (tB (eB (inD true) (eV 3) (eV 1))) (eCall zC9 (aCons (eV 0) (aCons (eV 1) (aCons (eV 2) (aCons (eV 3) aNil)))))))
def zCC:FM:=runF 3 3 zGH
def zGV:SM:=(sSeq (sSet 1 9 [0] (eCall zBS (aCons (eV 0) aNil)))
 (sSeq (sSet 2 2 [0,1] (eCall zDS (aCons (eCall zCQ (aCons (eV 0) (aCons (eV 1) aNil))) aNil)))
 (sRet 1 1 [1,2,0] (eTup (aCons (eV 1) (aCons (eV 2) (aCons (eCall zCC (aCons (eV 0) (aCons (eV 1) (aCons (eV 2) aNil)))) aNil)))))))
def zDN:FM:=runF 1 3 zGV
def zIU:SM:=(sRet 0 0 [0,1] (eAnd (eB eqD (eV 0) (eV 1)) (eBi allD (aCons (eComp (iSq (eV 0)) 1 (.one 2) Mi.tYes (eCall zD0 (aCons (eV 2) aNil))) aNil))))
def zDT:FM:=runF 2 2 zIU
def zMH:SM:=(sSeq (sSet 2 0 [1] (eB ixD (eV 1) (eC (.int 0))))
 (sSeq (sIf (Mi.tOr (tNo (tM (eCall zG3 (aCons (eV 0) (aCons (eV 2) aNil))))) (tB (eB neD (eBi lenD (aCons (eV 2) aNil)) (eBi lenD (aCons (eCall zBS (aCons (eV 0) aNil)) aNil))))) (sRet 0 0 [] (eC (.bl false))) sNil)
 (sSeq (sSet 3 2 [0,2] (eCall zDS (aCons (eCall zCQ (aCons (eV 0) (aCons (eV 2) aNil))) aNil)))
 (sSeq (sIf (tB (eB isD (eV 3) (eC .non))) (sRet 0 0 [] (eC (.bl false))) sNil)
 (sRet 0 0 [3,1,0,2] (eAnd (eCall zDT (aCons (eB ixD (eV 1) (eC (.int 1))) (aCons (eV 3) aNil))) (eCall zDT (aCons (eB ixD (eV 1) (eC (.int 2))) (aCons (eCall zCC (aCons (eV 0) (aCons (eV 2) (aCons (eV 3) aNil)))) aNil)))))))))
def zD8:FM:=runF 2 4 zMH
def zIT:SM:=(sSeq (sSet 1 0 [0] (eCall zE7 (aCons (eV 0) (aCons (eC (.int 8)) aNil))))
 (sSeq (sSet 2 1 [1] (eCall zDN (aCons (eCall zBC (aCons (eV 1) aNil)) aNil)))
 (sSeq (sIf (tNo (tM (eCall zCE (aCons (eV 2) aNil)))) (sRet 0 0 [] (eC (.bl false))) sNil)
 (sSeq (sIf (tB (eB eqD (eB modD (eCall zAA (aCons (eV 0) (aCons (eC (.int 41)) aNil))) (eC (.int 5))) (eC (.int 1)))) (sSet 2 1 [0] (eCall zDN (aCons (eB ixD (eCall zD9 (aCons (eV 0) (aCons (eC (.int 20)) (aCons (eC (.int 8)) (aCons (eC (.bl false)) aNil))))) (eC (.int 0))) aNil))) sNil)
 (sSeq (sForR (iR1 (aCons (eB modD (eCall zAA (aCons (eV 0) (aCons (eC (.int 42)) aNil))) (eC (.int 4))) aNil)) 3 (sSet 2 1 [2,0,3] (eCall zCP (aCons (eV 2) (aCons (eCall zAA (aCons (eV 0) (aCons (eB addD (eC (.int 43)) (eV 3)) aNil))) aNil)))))
 (sSeq (sSet 4 2 [1] (eCall zBC (aCons (eV 1) aNil)))
 (sSeq (sSet 5 1 [2] (eTup (aCons (eBi listD (aCons (eB ixD (eV 2) (eC (.int 0))) aNil)) (aCons (eCall zBC (aCons (eB ixD (eV 2) (eC (.int 1))) aNil)) (aCons (eCall zBC (aCons (eB ixD (eV 2) (eC (.int 2))) aNil)) aNil)))))
 (sSeq (sSet 6 0 [4,5] (eCall zD8 (aCons (eV 4) (aCons (eV 5) aNil))))
 (sSeq (sIf (Mi.tOr (tNo (tM (eIsi "bool" (eV 6)))) (tB (eB neD (eV 6) (eCall zCF (aCons (eV 1) (aCons (eV 2) aNil)))))) (sRet 0 0 [] (eC (.bl false))) sNil)
 (sRet 0 0 [4,1,5,2,6] (eAnd (eB eqD (eV 4) (eV 1)) (eAnd (eB eqD (eV 5) (eV 2)) (eB eqD (eCall zD8 (aCons (eV 4) (aCons (eV 5) aNil))) (eV 6))))))))))))))
def zLQ:FM:=runF 1 7 zIT
end
end Mp
namespace Mp
open Mi PySem
theorem zH7(i:Int):zBT [.int i]=okR (.bl true):=by
 unfold zBT zHA;simp[isiD,tyD]
end Mp
namespace Mi
open PySem
section
variable(ρ:Rh)(r:Ro)(a:EM)(am:AM)
@[simp] theorem x_tL:tL a ρ=zA9 (a ρ) fun x=>match x with | .bl k=>okR k | .int i=>okR (i != 0) | .non=>okR false | .lst xs=>okR (!xs.isEmpty) | .tup xs=>okR (!xs.isEmpty)|_=>none:=rfl
@[simp] theorem x_eMl(f:List Dt->List Dt->Option Dt):eMl f a am ρ=zA9 (a ρ) fun x=>match x with | .lst xs=>zA9 (am ρ) fun ds=>optR (f xs ds)|_=>none:=rfl
@[simp] theorem x_iRv:iRv am ρ=zA9 (am ρ) fun vs=>match vs with|[.lst xs]=>okR xs.reverse|_=>none:=rfl
@[simp] theorem v_xor(i j:Int):xorD (.int i) (.int j)=some (.int (Builtin.bitXor i j)):=rfl
@[simp] theorem za1(xs:List Dt)(k:Int):repD (.lst xs) (.int k)=@ite _ ((-4611686018427387904<=k/\k<4611686018427387904)/\xs.length*k.toNat<=100000) (qA4 _) (some (.lst (qA6 k.toNat xs).flatten)) none:=rfl
end
end Mi
namespace Mi
open PySem
@[simp] theorem okR_inj{α:Type}{a b:α}:okR a=okR b↔a=b:=⟨fun h=>by cases h;rfl,fun h=>by rw[h]⟩
@[simp] theorem zXF(vs:List Nat)(it:IM)(tg:Tg)(b:SM)(r:Ro):sFor vs it tg b r=zA9 (it (frz (frzAt vs r))) fun ds=>forGo tg b ds (frzAt vs r):=rfl
@[simp] theorem zJP(it:IM)(i:Nat)(b:SM)(r:Ro):sForR it i b r=zA9 (it (full r)) fun ds=>forGo (.one i) b ds r:=rfl
@[simp] theorem x_iSq(e:EM)(ρ:Rh):iSq e ρ=zA9 (e ρ) fun d=>match d with | .lst xs=>okR xs | .tup xs=>okR xs | .scr ns=>okR (ns.map .int) | .str z=>okR (signsD z)|_=>none:=rfl
@[simp] theorem x_iEn(e:AM)(ρ:Rh):iEn e ρ=zA9 (e ρ) fun vs=>match vs with|[.lst xs]=>okR (enumD 0 xs)|_=>none:=rfl
@[simp] theorem x_iZi(e:AM)(ρ:Rh):iZi e ρ=zA9 (e ρ) fun vs=>match vs with|[.lst xs,.lst ys]=>okR (zipD xs ys)|_=>none:=rfl
theorem zD6{e:AM}{ρ:Rh}{n:Nat}(h:e ρ=okR [.int n])(hn:n<=100000):iR1 e ρ=okR (nums 0 n):=by
 unfold iR1;rw[h,zA2];dsimp only;rw[if_pos (by omega)];simp
theorem zD4(n:Nat):nums 0 n=(qA1 n).map fun i:Nat=>Dt.int (i:Int):=by
 unfold nums;exact qAq fun i _=>by simp
theorem zLW{α β:Type}{j:Nat}{b:SM}(en:β->Dt)(Enc:α->Ro->Prop)(f:α->β->α):∀(ns:List β)(a:α)(r:Ro),Enc a r->(∀n∈ns,∀a r,Enc a r->∃r',b (r.set j (some (en n,0)))=okR (.nx r')/\Enc (f a n) r')->∃r',forGo (.one j) b (ns.map en) r=okR (.nx r')/\Enc (ns.foldl f a) r'
 |[],a,r,h,_=>⟨r,by simp[forGo],h⟩
 |d::ds,a,r,h,hs=>by
  obtain⟨r1,h2,h3⟩:=hs d (by simp) a r h;obtain⟨r2,h4,h5⟩:=zLW en Enc f ds (f a d) r1 h3 fun e he=>hs e (by simp[he])
  refine⟨r2,?_,h5⟩;rw[qAd,forGo];show zA9 (b (zBI r [(j,en d)])) _=_;show zA9 (b (r.set j (some (en d,0)))) _=_;rw[h2,zA2];exact h4
def nxR(x:R Out)(P:Ro->Prop):Prop:=match x with
 |some (.ok (.nx r))=>P r
 |_=>False
@[simp] theorem x_nxR(r:Ro)(P:Ro->Prop):nxR (okR (.nx r)) P=P r:=rfl
theorem zDC{x:R Out}{P:Ro->Prop}(h:nxR x P):∃r',x=okR (.nx r')/\P r':=by
 unfold nxR at h
 split at h
 ·exact⟨_,rfl,h⟩
 ·exact h.elim
theorem zBO{x:R Out}{P:Ro->Prop}{r:Ro}(h:x=okR (.nx r))(hp:P r):nxR x P:=by rw[h];exact hp
theorem zZY{i n:Nat}{e:EM}{r:Ro}{ds:List Dt}{k:Nat}{d:Dt}(h:r[i]?=some (some (.lst ds,k+1)))(he:e (full r)=okR d)(h1:ds.length<=100000)(h2:d.dep<=n)(h3:d.dep<=k):sApp i n e r=okR (.nx (r.set i (some (.lst (ds++[d]),k+1)))):=by
 unfold sApp;rw[h];dsimp only;rw[he,zA2,if_pos ⟨h1,h2,h3⟩]
theorem zWD{i j:Int}(h:-18446744073709551616<i)(h':i<18446744073709551616):mulD (.int i) (.int j)=some (.int (i*j)):=by
 rw[zSK,if_pos (.inl (.inl ⟨h,h'⟩))]
theorem zTD{i j:Int}(h:-18446744073709551616<j)(h':j<18446744073709551616):mulD (.int i) (.int j)=some (.int (i*j)):=by
 rw[zSK,if_pos (.inl (.inr ⟨h,h'⟩))]
theorem zEA{ρ:Rh}{c:TM}{e:EM}{i:Nat}(g:Nat->Dt)(n:Nat)(hc:c=tYes)(hi:i=ρ.length)(h:∀k,k<n->e (ρ++[some (.int (k:Nat))])=okR (g k))(it:IM)(hit:it ρ=okR (nums 0 n))(hn:n<=100000):eComp it 1 (.one i) c e ρ=okR (.lst ((qA1 n).map g)):=by
 subst hc hi;unfold eComp;rw[hit,zA2,if_pos ⟨by simpa[nums]using hn,by simp[Tg.idx]⟩];rw[zOQ (fun d=>match d with | .int k=>g k.toNat|_=>.non) _ [] fun d hd=>?_]
 ·rw[zA2,zD4,qAo];simp only[qFo]
  congr 2
 ·rw[zD4]at hd;obtain⟨k,hk,rfl⟩:=qAa.mp hd;refine⟨_,rfl,rfl,?_⟩
  have:zB6 (ρ++qA6 1 none) [(ρ.length,Dt.int (k:Int))]=ρ++[some (.int (k:Nat))]:=by
   simp[zB6]
  rw[this]
  simpa using h k (by simpa using hk)
theorem zAZ{ρ:Rh}{c:TM}{e:EM}{i:Nat}{β:Type}(en:β->Dt)(g:β->Dt)(ns:List β)(hc:c=tYes)(hi:i=ρ.length)(h:∀k,k∈ns->e (ρ++[some (en k)])=okR (g k))(it:IM)(hit:it ρ=okR (ns.map en))(hn:ns.length<=100000):eComp it 1 (.one i) c e ρ=okR (.lst (ns.map g)):=by
 subst hc hi;unfold eComp;rw[hit,zA2,if_pos ⟨by simpa using hn,by simp[Tg.idx]⟩]
 have:∀(ns:List β)(acc:List Dt),(∀k,k∈ns->e (ρ++[some (en k)])=okR (g k))->compGo ρ 1 (.one ρ.length) tYes e (ns.map en) acc=okR (acc++ns.map g):=by
  intro ns
  induction ns with
  |nil=>intro acc _;simp[compGo]
  |cons d r ih=>
   intro acc h;rw[qAd,compGo];have e1:zB6 (ρ++qA6 1 none) [(ρ.length,en d)]=ρ++[some (en d)]:=by simp[zB6]
   show zA9 (tYes _) _=_;simp only[zXC,zA2,if_true];show zA9 (e (zB6 (ρ++qA6 1 none) [(ρ.length,en d)])) _=_;rw[e1,h d (by simp),zA2,ih _ fun k hk=>h k (by simp[hk])];simp
 rw[this ns [] h,zA2];simp
theorem zBN{a b:SM}{r:Ro}{X:R Out}(h:∀bb:SM,bb=b->nxR (a r) fun r1=>bb r1=X):sSeq a b r=X:=by
 obtain⟨r1,h1,h2⟩:=zDC (h b rfl);unfold sSeq;rw[h1,zA2];exact h2
theorem zLE{a b:SM}{r:Ro}{P:Ro->Prop}(h:∀bb:SM,bb=b->nxR (a r) fun r1=>nxR (bb r1) P):nxR (sSeq a b r) P:=by
 obtain⟨r1,h1,h2⟩:=zDC (h b rfl);unfold sSeq;rw[h1,zA2];exact h2
theorem zUF{a b:SM}{r:Ro}{d:Dt}(h:a r=okR (.rt d)):sSeq a b r=okR (.rt d):=by
 unfold sSeq;rw[h,zA2]
theorem zC3{P n:Nat}{b:SM}{ds:List Dt}{d:Dt}(h:ds.length=P)(hb:b (startO n ds)=okR (.rt d)):runF P n b ds=okR d:=by
 unfold runF;rw[if_pos h,hb];rfl
theorem zTA{j n:Nat}{b:SM}{r:Ro}{X:Ro->Prop}(Pv:Nat->Ro->Prop)(h:Pv 0 r)(hs:∀k,k<n->∀r,Pv k r->nxR (b (r.set j (some (.int (k:Nat),0)))) (Pv (k+1)))(hK:∀r',Pv n r'->X r'):nxR (forGo (.one j) b (nums 0 n) r) X:=by
 obtain⟨r',h1,h2⟩:∃r',forGo (.one j) b (nums 0 n) r=okR (.nx r')/\Pv n r':=by
  obtain⟨r',h1,h2⟩:=zKH (tg:=.one j) (b:=b) Pv (nums 0 n) 0 r h fun k d r hd hp=>by
   rw[zD4,qAk]at hd;cases e:(qA1 n)[k]? with
   |none=>rw[e]at hd;cases hd
   |some q=>
    rw[e]at hd;cases hd;obtain⟨h1,h2⟩:=qA3.mp e;rw[qCp]at h2;subst h2;rw[qC7]at hp;obtain⟨r',g1,g2⟩:=zDC (hs k (by simpa using h1) r hp);exact⟨_,r',rfl,g1,by rw[qC7];exact g2⟩
  exact⟨r',h1,by simpa[nums]using h2⟩
 rw[h1];exact hK r' h2
theorem zR7{γ:Type}{j:Nat}{b:SM}{r:Ro}{X:Ro->Prop}(en:γ->Dt)(ns:List γ)(Pv:Nat->Ro->Prop)(h:Pv 0 r)(hs:∀k x,ns[k]?=some x->∀r,Pv k r->nxR (b (r.set j (some (en x,0)))) (Pv (k+1)))(hK:∀r',Pv ns.length r'->X r'):nxR (forGo (.one j) b (ns.map en) r) X:=by
 obtain⟨r',h1,h2⟩:=zKH (tg:=.one j) (b:=b) Pv (ns.map en) 0 r h fun k d r hd hp=>by
  rw[qAk]at hd;cases e:ns[k]? with
  |none=>rw[e]at hd;cases hd
  |some q=>
   rw[e]at hd;cases hd;rw[qC7]at hp;obtain⟨r',g1,g2⟩:=zDC (hs k q e r hp);exact⟨_,r',rfl,g1,by rw[qC7];exact g2⟩
 rw[h1];exact hK r' (by simpa using h2)
theorem zW9{α γ:Type}{j:Nat}{b:SM}{r:Ro}{X:Ro->Prop}(en:γ->Dt)(ns:List γ)(Enc:α->Ro->Prop)(f:α->γ->α)(a:α)(h:Enc a r)(hs:∀n∈ns,∀a r,Enc a r->nxR (b (r.set j (some (en n,0)))) (Enc (f a n)))(hK:∀r',Enc (ns.foldl f a) r'->X r'):nxR (forGo (.one j) b (ns.map en) r) X:=by
 obtain⟨r',h1,h2⟩:=zLW en Enc f ns a r h fun n hn a r hr=>zDC (hs n hn a r hr)
 rw[h1];exact hK r' h2
theorem zT9{c:TM}{b:SM}{r:Ro}{X:Ro->Prop}(Pv:Ro->Prop)(μ:Ro->Nat)(Rv:Ro->Prop)(h0:Pv r)(hm:μ r<1000000)(hc:∀r,Pv r->(c (full r)=okR false/\Rv r)\/(c (full r)=okR true/\nxR (b r) fun r'=>Pv r'/\μ r'<μ r))(hK:∀r',Rv r'->X r'):nxR (sWhile c b r) X:=by
 obtain⟨r',h1,h2⟩:=zP6 Pv μ Rv h0 hm fun r hr=>(hc r hr).imp (fun z=>z) fun z=>⟨z.1,zDC z.2⟩
 rw[h1];exact hK r' h2
theorem zLO:∀(a b:List Char),a.map qH6=b.map qH6->a=b
 |[],[],_=>rfl
 |[],_::_,h=>by simp at h
 |_::_,[],h=>by simp at h
 |x::r,y::q,h=>by
  simp only[qAd,List.cons.injEq]at h;rw[zLO r q h.2]
  have:x=y:=Char.toNat_inj.mp h.1
  rw[this]
@[simp] theorem str_inj(a b:String):(Str.ofString a=Str.ofString b)↔a=b:=by
 constructor
 ·intro h;rw[Str.ofString_eq_toList,Str.ofString_eq_toList]at h;simp only[Str.mk.injEq,List.toArray_inj]at h
  have:=zLO _ _ (by simpa using h)
  exact String.toList_inj.mp this
 ·intro h;rw[h]
theorem zOO:∀(ds:List Dt)(n i:Nat)(d:Dt),(enumD n ds)[i]?=some d->∃e,ds[i]?=some e/\d=.tup [.int ((n+i:Nat):Int),e]
 |[],_,_,_,h=>by simp[enumD]at h
 |x::r,n,0,d,h=>by simp[enumD]at h;exact⟨x,by simp,by rw[<- h];rfl⟩
 |x::r,n,i+1,d,h=>by
  rw[enumD]at h;obtain⟨e,h1,h2⟩:=zOO r (n+1) i d (by simpa using h);exact⟨e,by simpa using h1,by rw[h2,show n+1+i=n+(i+1) by omega]⟩
theorem zKK:∀(ds:List Dt)(n:Nat),(enumD n ds).length=ds.length
 |[],_=>rfl
 |_::r,n=>by rw[enumD,qAw,qAw,zKK r]
theorem zWA{a b:Nat}{s:SM}{r:Ro}{X:Ro->Prop}(xs:List Dt)(Pv:Nat->Ro->Prop)(h:Pv 0 r)(hs:∀k x,xs[k]?=some x->∀r,Pv k r->nxR (s ((r.set a (some (.int (k:Nat),0))).set b (some (x,0)))) (Pv (k+1)))(hK:∀r',Pv xs.length r'->X r'):nxR (forGo (.tup [a,b]) s (enumD 0 xs) r) X:=by
 obtain⟨r',h1,h2⟩:=zKH (tg:=.tup [a,b]) (b:=s) Pv (enumD 0 xs) 0 r h fun k d r hd hp=>by
  obtain⟨e,g1,rfl⟩:=zOO xs 0 k d hd;rw[qC7]at hp;obtain⟨r',g2,g3⟩:=zDC (hs k e g1 r hp);refine⟨_,r',rfl,?_,by rw[qC7];exact g3⟩;rw[qC7];exact g2
 rw[h1];exact hK r' (by simpa[zKK]using h2)
end Mi
namespace Mi
open PySem
section
variable(ρ:Rh)(a:EM)(am:AM)(lo hi:OM)
@[simp] theorem zXH:eSl a lo hi ρ=zA9 (a ρ) fun x=>zA9 (lo ρ) fun l=>zA9 (hi ρ) fun h=>optR (slD x l h):=rfl
@[simp] theorem zXG:oNo ρ=okR none:=rfl
@[simp] theorem x_oE:oE a ρ=zA9 (a ρ) fun d=>match d with | .int i=>okR (some i)|_=>none:=rfl
@[simp] theorem x_eMt(f:Dt->List Dt->Option Dt):eMt f a am ρ=zA9 (a ρ) fun x=>if zRM x=true then zA9 (am ρ) fun xs=>optR (f x xs)else none:=rfl
@[simp] theorem v_isStr(z:Str):zRM (.str z)=true:=rfl
end
@[simp] theorem v_slL(xs:List Dt)(l h:Option Int):slD (.lst xs) l h=some (.lst (cutA xs l h)):=rfl
@[simp] theorem v_slS(z:Str)(l h:Option Int):slD (.str z) l h=@ite _ (z.length<=100000) (qA4 _) (some (.str ⟨(cutA z.cps.toList l h).toArray⟩)) none:=rfl
@[simp] theorem v_ixSt(z:Str)(i:Int):ixD (.str z) (.int i)=@ite _ (z.length<=100000) (qA4 _) ((itA z.cps.toList i).map fun c=>.str ⟨#[c]⟩) none:=rfl
@[simp] theorem v_lenSt(z:Str):lenD [.str z]=@ite _ (z.length<=100000) (qA4 _) (some (.int z.length)) none:=rfl
@[simp] theorem v_count1(z:Str)(c:Nat):zZR (.str z) [.str ⟨#[c]⟩]=some (.int (z.cps.toList.count c:Nat)):=rfl
@[simp] theorem v_in1(ng:Bool)(z:Str)(c:Nat):inD ng (.str ⟨#[c]⟩) (.str z)=some (.bl (if ng=true then !decide (c∈z.cps.toList)else decide (c∈z.cps.toList))):=rfl
@[simp] theorem v_find1(z:Str)(c:Nat):zaL (.str z) [.str ⟨#[c]⟩]=some (.int (match posC c z.cps.toList with|some i=>(i:Int)|none=>-1)):=rfl
theorem zV8{α:Type}(xs:List α)(k:Nat):cutA xs none (some (k:Int))=xs.take k:=by
 unfold cutA cutIx;simp only[qD7,Nat.sub_zero];rw[if_neg (by omega)]
 by_cases h:k<=xs.length
 ·rw[show min (k:Int).toNat xs.length=k by omega]
 ·rw[show min (k:Int).toNat xs.length=xs.length by omega,qCi,qBc (by omega)]
theorem zKQ{α:Type}(xs:List α)(k:Nat):cutA xs (some (k:Int)) none=xs.drop k:=by
 unfold cutA cutIx;dsimp only;rw[if_neg (by omega)]
 by_cases h:k<=xs.length
 ·rw[show min (k:Int).toNat xs.length=k by omega];exact qBc (by simp)
 ·rw[show min (k:Int).toNat xs.length=xs.length by omega];simp;omega
end Mi
namespace Mi
open PySem
end Mi
namespace Mp
open Mi PySem
theorem sg{i n:Nat}{vs:List Nat}{e:EM}{b:SM}{r:Ro}{d:Dt}{X:R Out}(he:e (full r)=okR d)(hd:d.dep<=n)(h:b (r.set i (some (d,n)))=X):sSeq (sSet i n vs e) b r=X:=by
 rw[zDW,zHO,he,zA2,if_pos hd,zA2];exact h
theorem sgf{i n:Nat}{vs:List Nat}{e:EM}{b:SM}{r:Ro}{d:Dt}{X:R Out}(he:e (full r)=okR d)(hd:¬d.dep<=n)(he2:e (frz (frzAt vs r))=okR d)(h:b ((frzAt vs r).set i (some (d,n)))=X):sSeq (sSet i n vs e) b r=X:=by
 rw[zDW,zHO,he,zA2,if_neg hd,he2,zA2,zA2];exact h
theorem sp{c:TM}{a b:SM}{r:Ro}{X:R Out}(hc:c (full r)=okR false)(h:b r=X):sSeq (sIf c a sNil) b r=X:=by
 rw[zDW,zHP,hc,zA2,if_neg (by simp),zUC,zA2];exact h
theorem st{c:TM}{a b:SM}{r r':Ro}{X:R Out}(hc:c (full r)=okR true)(ha:a r=okR (.nx r'))(h:b r'=X):sSeq (sIf c a sNil) b r=X:=by
 rw[zDW,zHP,hc,zA2,if_pos rfl,ha,zA2];exact h
theorem c2{m:FM}{e1 e2:EM}{ρ:Rh}{d1 d2:Dt}{X:R Dt}(h1:e1 ρ=okR d1)(h2:e2 ρ=okR d2)(h:m [d1,d2]=X):eCall m (aCons e1 (aCons e2 aNil)) ρ=X:=by
 simp only[zJQ,zEI,zHQ,h1,h2,zA2];exact h
theorem c1{m:FM}{e1:EM}{ρ:Rh}{d1:Dt}{X:R Dt}(h1:e1 ρ=okR d1)(h:m [d1]=X):eCall m (aCons e1 aNil) ρ=X:=by
 simp only[zJQ,zEI,zHQ,h1,zA2];exact h
theorem c4{m:FM}{e1 e2 e3 e4:EM}{ρ:Rh}{d1 d2 d3 d4:Dt}{X:R Dt}(h1:e1 ρ=okR d1)(h2:e2 ρ=okR d2)(h3:e3 ρ=okR d3)(h4:e4 ρ=okR d4)(h:m [d1,d2,d3,d4]=X):eCall m (aCons e1 (aCons e2 (aCons e3 (aCons e4 aNil)))) ρ=X:=by
 simp only[zJQ,zEI,zHQ,h1,h2,h3,h4,zA2];exact h
theorem b2{o:Dt->Dt->Option Dt}{e1 e2:EM}{ρ:Rh}{d1 d2 d:Dt}(h1:e1 ρ=okR d1)(h2:e2 ρ=okR d2)(h:o d1 d2=some d):eB o e1 e2 ρ=okR d:=by
 rw[x_eB,h1,zA2,h2,zA2,h];rfl
theorem bi1{o:List Dt->Option Dt}{e1:EM}{ρ:Rh}{d1 d:Dt}(h1:e1 ρ=okR d1)(h:o [d1]=some d):eBi o (aCons e1 aNil) ρ=okR d:=by
 simp only[zVH,zEI,zHQ,h1,zA2,h];rfl
theorem el1{e1:EM}{ρ:Rh}{d1:Dt}(h1:e1 ρ=okR d1):eLst (aCons e1 aNil) ρ=okR (.lst [d1]):=by simp[h1]
theorem tb1{e:EM}{ρ:Rh}{k:Bool}(h:e ρ=okR (.bl k)):tB e ρ=okR k:=by rw[x_tB,h,zA2]
theorem tm1{e:EM}{ρ:Rh}{k:Bool}(h:e ρ=okR (.bl k)):tM e ρ=okR k:=by rw[x_tM,h,zA2]
theorem tn1{t:TM}{ρ:Rh}{k:Bool}(h:t ρ=okR k):tNo t ρ=okR (!k):=by rw[zZX,h,zA2]
theorem to0{t t':TM}{ρ:Rh}{k:Bool}(h:t ρ=okR false)(h':t' ρ=okR k):Mi.tOr t t' ρ=okR k:=by rw[zXD,h,zA2,if_neg (by simp),h']
theorem to1{t t':TM}{ρ:Rh}(h:t ρ=okR true):Mi.tOr t t' ρ=okR true:=by rw[zXD,h,zA2,if_pos rfl]
theorem ta1{t t':TM}{ρ:Rh}{k:Bool}(h:t ρ=okR true)(h':t' ρ=okR k):tAn t t' ρ=okR k:=by rw[zXE,h,zA2,if_pos rfl,h']
theorem ta0{t t':TM}{ρ:Rh}(h:t ρ=okR false):tAn t t' ρ=okR false:=by rw[zXE,h,zA2,if_neg (by simp)]
theorem ss{i n:Nat}{vs:List Nat}{e:EM}{r:Ro}{d:Dt}(he:e (full r)=okR d)(hd:d.dep<=n):sSet i n vs e r=okR (.nx (r.set i (some (d,n)))):=by
 rw[zHO,he,zA2,if_pos hd]
theorem sr{L n:Nat}{vs:List Nat}{e:EM}{r:Ro}{d:Dt}(he:e (full r)=okR d)(hd:d.dep<=n/\d.dep<=L):sRet L n vs e r=okR (.rt d):=by
 rw[zUB,he,zA2,if_pos hd]
theorem tl{k k':Bool}{x:Option Dt}(h:x=some (.bl k))(e:k=k'):x=some (.bl k'):=e▸h
theorem bi2{o:List Dt->Option Dt}{e1 e2:EM}{ρ:Rh}{d1 d2 d:Dt}(h1:e1 ρ=okR d1)(h2:e2 ρ=okR d2)(h:o [d1,d2]=some d):eBi o (aCons e1 (aCons e2 aNil)) ρ=okR d:=by
 simp only[zVH,zEI,zHQ,h1,h2,zA2,h];rfl
theorem sl0{a b:EM}{ρ:Rh}{x d:Dt}{i:Int}(h1:a ρ=okR x)(h2:b ρ=okR (.int i))(h:slD x none (some i)=some d):eSl a oNo (oE b) ρ=okR d:=by
 rw[zXH,h1,zA2,zXG,zA2,x_oE,h2,zA2,zA2,h];rfl
theorem sl1{a b:EM}{ρ:Rh}{x d:Dt}{i:Int}(h1:a ρ=okR x)(h2:b ρ=okR (.int i))(h:slD x (some i) none=some d):eSl a (oE b) oNo ρ=okR d:=by
 rw[zXH,h1,zA2,x_oE,h2,zA2,zA2,zXG,zA2,h];rfl
theorem sf{c:TM}{a:SM}{r:Ro}(hc:c (full r)=okR false):sIf c a sNil r=okR (.nx r):=by
 rw[zHP,hc,zA2,if_neg (by simp),zUC]
theorem et2{e1 e2:EM}{ρ:Rh}{d1 d2:Dt}(h1:e1 ρ=okR d1)(h2:e2 ρ=okR d2):eTup (aCons e1 (aCons e2 aNil)) ρ=okR (.tup [d1,d2]):=by simp[h1,h2]
theorem eqi{e1 e2:EM}{ρ:Rh}{a b:Int}{k:Bool}(h1:e1 ρ=okR (.int a))(h2:e2 ρ=okR (.int b))(h:decide (a=b)=k):tB (eB eqD e1 e2) ρ=okR k:=by
 refine tb1 (b2 h1 h2 ?_);rw[<- h];simp[Dt.eq];rfl
theorem nei{e1 e2:EM}{ρ:Rh}{a b:Int}{k:Bool}(h1:e1 ρ=okR (.int a))(h2:e2 ρ=okR (.int b))(h:(!decide (a=b))=k):tB (eB neD e1 e2) ρ=okR k:=by
 refine tb1 (b2 h1 h2 ?_);rw[<- h];simp[Dt.eq];rfl
theorem sx{c:TM}{a b:SM}{r:Ro}{d:Dt}(hc:c (full r)=okR true)(ha:a r=okR (.rt d)):sSeq (sIf c a sNil) b r=okR (.rt d):=by
 rw[zDW,zHP,hc,zA2,if_pos rfl,ha,zA2]
theorem mdi{i j k:Int}(h:0<j)(e:i%j=k):modD (.int i) (.int j)=some (.int k):=by rw[<- e];exact if_pos h
theorem dvi{i j:Int}(h:0<j/\j<1000000000000000000000000):divD (.int i) (.int j)=some (.int (i/j)):=@if_pos _ (qA4 _) h _ _ _
theorem c3{m:FM}{e1 e2 e3:EM}{ρ:Rh}{d1 d2 d3:Dt}{X:R Dt}(h1:e1 ρ=okR d1)(h2:e2 ρ=okR d2)(h3:e3 ρ=okR d3)(h:m [d1,d2,d3]=X):eCall m (aCons e1 (aCons e2 (aCons e3 aNil))) ρ=X:=by
 simp only[zJQ,zEI,zHQ,h1,h2,h3,zA2];exact h
theorem ned{e1 e2:EM}{ρ:Rh}{x y:Dt}{b k:Bool}(h1:e1 ρ=okR x)(h2:e2 ρ=okR y)(d1:x.dep<=40)(d2:y.dep<=40)(h:Dt.eq x y=b)(hk:(!b)=k):tB (eB neD e1 e2) ρ=okR k:=by
 refine tb1 (b2 h1 h2 ?_);unfold neD;rw[if_pos ⟨d1,d2⟩,h,hk]
theorem sq{c:TM}{r:Ro}{b:Bool}(hc:c (full r)=okR true):sIf c (sRet 0 0 [] (eC (.bl b))) sNil r=okR (.rt (.bl b)):=by
 rw[zHP,hc,zA2,if_pos rfl];exact sr rfl ⟨qA7 0,qA7 0⟩
theorem an1{e1 e2:EM}{ρ:Rh}{a b:Bool}(h1:e1 ρ=okR (.bl a))(h2:e2 ρ=okR (.bl b)):eAnd e1 e2 ρ=okR (.bl (a&&b)):=by cases a<;>simp[h1,h2]
theorem sk{c:TM}{a b:SM}{r:Ro}{X:R Out}(hc:c (full r)=okR true)(ha:a r=X):sIf c a b r=X:=by
 rw[zHP,hc,zA2,if_pos rfl];exact ha
theorem rt1{e:EM}{d:Dt}{ρ:Ro}{vs:List Nat}(h1:e (full ρ)=okR d)(h2:e (frz (frzAt vs ρ))=okR d):sRet 1 1 vs e ρ=okR (.rt d):=by
 rw[zUB,h1,zA2]
 by_cases z:d.dep<=1/\d.dep<=1
 ·rw[if_pos z]
 ·rw[if_neg z,if_pos rfl,h2,zA2]
theorem el0{ρ:Rh}:eLst aNil ρ=okR (.lst []):=by simp
theorem et3{e1 e2 e3:EM}{ρ:Rh}{d1 d2 d3:Dt}(h1:e1 ρ=okR d1)(h2:e2 ρ=okR d2)(h3:e3 ρ=okR d3):eTup (aCons e1 (aCons e2 (aCons e3 aNil))) ρ=okR (.tup [d1,d2,d3]):=by simp[h1,h2,h3]
theorem sw{s t:SM}{r r':Ro}{X:R Out}(h:s r=okR (.nx r'))(h2:t r'=X):sSeq s t r=X:=by rw[zDW,h,zA2];exact h2
theorem s2s{i n:Nat}{vs:List Nat}{e:EM}{r:Ro}{d:Dt}(h1:e (full r)=okR d)(h2:e (frz (frzAt vs r))=okR d)(hr:frzAt vs r=r):sSet i n vs e r=okR (.nx (r.set i (some (d,n)))):=by
 rw[zHO,h1,zA2]
 by_cases z:d.dep<=n
 ·rw[if_pos z]
 ·rw[if_neg z,h2,zA2,hr]
theorem if1{c:TM}{a b:EM}{ρ:Rh}{X:R Dt}(hc:c ρ=okR true)(h:a ρ=X):eIf c a b ρ=X:=by unfold eIf;rw[hc,zA2,if_pos rfl];exact h
theorem if0{c:TM}{a b:EM}{ρ:Rh}{X:R Dt}(hc:c ρ=okR false)(h:b ρ=X):eIf c a b ρ=X:=by unfold eIf;rw[hc,zA2,if_neg qAc];exact h
theorem nif1{c:TM}{a b:SM}{r:Ro}{P:Ro->Prop}(hc:c (full r)=okR true)(h:nxR (a r) P):nxR (sIf c a b r) P:=by rw[zHP,hc,zA2,if_pos rfl];exact h
theorem nif0{c:TM}{a b:SM}{r:Ro}{P:Ro->Prop}(hc:c (full r)=okR false)(h:nxR (b r) P):nxR (sIf c a b r) P:=by rw[zHP,hc,zA2,if_neg qAc];exact h
theorem nsw{s t:SM}{r r':Ro}{P:Ro->Prop}(h:s r=okR (.nx r'))(h2:nxR (t r') P):nxR (sSeq s t r) P:=by rw[zDW,h,zA2];exact h2
theorem v1{i:Nat}{ρ:Rh}{d:Dt}(h:ρ[i]?=some (some d)):eV i ρ=okR d:=by rw[x_eV,h]
theorem al0{e:EM}{ρ:Rh}{d:Dt}(h:e ρ=okR d):aCons e aNil ρ=okR [d]:=by rw[zEI,h];rfl
theorem k1{d d':Dt}{ρ:Rh}(h:d=d'):eC d ρ=okR d':=by rw[<- h];rfl
theorem cmi{p:Int->Int->Bool}{a b:Int}{k:Bool}(h:p a b=k):cmpD p (.int a) (.int b)=some (.bl k):=by rw[<- h];rfl
noncomputable def rowD(r:List Int):Dt:=.lst (r.map .int)
def mat(A:List (List Int)):Dt:=.lst (A.map rowD)
noncomputable def tab(n:Nat)(f:Nat->Nat->Int):List (List Int):=(qA1 n).map fun i=>(qA1 n).map fun j=>f i j
def Bits(n:Nat)(f:Nat->Nat->Int):Prop:=∀i j,i<n->j<n->f i j=0\/f i j=1
def Sym(n:Nat)(f:Nat->Nat->Int):Prop:=∀i j,i<n->j<n->f i j=f j i
@[simp] theorem zX2(r:List Int):(rowD r).dep=1:=by simp[rowD]
theorem ixR{n:Nat}{g:Nat->Int}{j:Nat}(h:j<n):ixD (rowD ((qA1 n).map g)) (.int (j:Int))=some (.int (g j)):=by
 refine zDA rfl ?_;simp[h]
@[simp] theorem lenR(r:List Int):lenD [rowD r]=some (.int r.length):=by
 show some (Dt.int ((r.map Dt.int).length:Int))=_;rw[qAl]
@[simp] theorem listR(r:List Int):listD [rowD r]=some (rowD r):=rfl
@[simp] theorem lenM(A:List (List Int)):lenD [mat A]=some (.int A.length):=by
 show some (Dt.int ((A.map rowD).length:Int))=_;rw[qAl]
theorem zIL:∀A:List (List Int),Dt.depL (A.map rowD)<=1
 |[]=>by simp
 |r::A=>by
  have:=zIL A
  rw[qAd,zJS,zX2];omega
theorem zC1(A:List (List Int)):(mat A).dep<=2:=by
 have:=zIL A
 unfold mat;rw[v_dl];omega
theorem zON:∀A B:List (List Int),Dt.eqL (A.map rowD) (B.map rowD)=decide (A=B)
 |[],[]=>by simp[Dt.eqL]
 |[],_::_=>by simp[Dt.eqL]
 |_::_,[]=>by simp[Dt.eqL]
 |r::A,q::B=>by
  rw[qAd,qAd,Dt.eqL,zON A B];unfold rowD;rw[v_e4,zGA];simp
theorem zOM(A B:List (List Int)):Dt.eq (mat A) (mat B)=decide (A=B):=by
 unfold mat;rw[v_e4,zON]
theorem zBY(n:Nat)(f:Nat->Nat->Int):(tab n f).length=n:=by simp[tab]
theorem zFM{n:Nat}{f:Nat->Nat->Int}{i:Nat}(h:i<n):(tab n f)[i]?=some ((qA1 n).map fun j=>f i j):=by
 simp[tab,h]
theorem zZA{n:Nat}{f:Nat->Nat->Int}{i:Nat}(h:i<n):itA ((tab n f).map rowD) (i:Int)=some (rowD ((qA1 n).map fun j=>f i j)):=by
 refine zDA rfl ?_;rw[qAk,zFM h];rfl
theorem ixM{n:Nat}{f:Nat->Nat->Int}{i:Nat}(h:i<n):ixD (mat (tab n f)) (.int (i:Int))=some (rowD ((qA1 n).map fun j=>f i j)):=zZA h
theorem zOL(a b:List Int):Dt.eq (rowD a) (rowD b)=decide (a=b):=by
 unfold rowD;rw[v_e4,zGA]
theorem zMR{n:Nat}{f g:Nat->Nat->Int}(h:∀i j,i<n->j<n->f i j=g i j):tab n f=tab n g:=by
 unfold tab;refine qAq fun i hi=>qAq fun j hj=>h i j (by simpa using hi) (by simpa using hj)
theorem zF6{ρ:Rh}{e:EM}{it:IM}{i n:Nat}(g:Nat->Int)(hi:i=ρ.length)(hn:n<=1000)(h1:it ρ=okR (nums 0 n))(h:∀a,a<n->e (ρ++[some (.int (a:Nat))])=okR (.int (g a))):eComp it 1 (.one i) tYes e ρ=okR (rowD ((qA1 n).map g)):=by
 rw[zEA (fun b=>.int (g b)) n rfl hi (fun b hb=>h b hb) it h1 (by omega)];unfold rowD;rw[qAo];rfl
theorem zHM{ρ:Rh}{e:EM}{it it2:IM}{i j n:Nat}(f:Nat->Nat->Int)(hi:i=ρ.length)(hj:j=ρ.length+1)(hn:n<=1000)(h1:it ρ=okR (nums 0 n))(h2:∀a,it2 (ρ++[some (.int (a:Nat))])=okR (nums 0 n))
  (h:∀a b,a<n->b<n->e (ρ++[some (.int (a:Nat))]++[some (.int (b:Nat))])=okR (.int (f a b))):eComp it 1 (.one i) tYes (eComp it2 1 (.one j) tYes e) ρ=okR (mat (tab n f)):=by
 rw[zEA (fun a=>rowD ((qA1 n).map fun b=>f a b)) n rfl hi (fun a ha=>?_) it h1 (by omega)]
 ·unfold mat tab;rw[qAo];rfl
 ·rw[zEA (fun b=>.int (f a b)) n rfl (by rw[hj];simp) (fun b hb=>h a b ha hb) it2 (h2 a) (by omega)];unfold rowD;rw[qAo];rfl
theorem zKR(A:List (List Int))(h:A.length<=1000):zBC [mat A]=okR (mat A):=by
 unfold zBC zIY;have hd:=zIL A;have hc:eComp (iSq (eV 0)) 1 (.one 1) Mi.tYes (eBi listD (aCons (eV 1) aNil)) [some (mat A)]=okR (mat A):=
  zAZ rowD rowD A rfl rfl (fun r _=>by simp[rowD]) _ (by simp[mat]) (by omega)
 have hm:(mat A).dep<=2:=zC1 A;simp[hc,hm]
theorem zS7(ns:List Int)(k:Int)(h0:0<=k)(h1:k<100000):∃c:Int,zAA [.scr ns,.int k]=okR (.int c):=by
 unfold zAA zFK;have m1:mulD (.int 104729) (.int (k+1))=some (.int (104729*(k+1))):=zWD (by omega) (by omega)
 by_cases hk:k<ns.length
 ·simp[hk,zWP h0 hk,m1,-zSK,zTD]
 ·simp[hk,m1,-zSK,zTD]
theorem zWI(a b:Nat):maxD [.int (a:Int),.int (b:Int)]=some (.int ((max a b:Nat):Int)):=by
 simp[maxD]
 split<;>omega
theorem zWH(a b:Nat):minD [.int (a:Int),.int (b:Int)]=some (.int ((min a b:Nat):Int)):=by
 simp[minD]
 split<;>omega
theorem zG5{r:Ro}{i m n:Nat}{l:Nat}{f:Nat->Nat->Int}{a b:Nat}{v:Int}{e0 e1 e2:EM}(h:r[i]?=some (some (mat (tab n f),l+2)))(h0:e0 (full r)=okR (.int (a:Nat)))(h1:e1 (full r)=okR (.int (b:Nat)))(h2:e2 (full r)=okR (.int v))(ha:a<n)(hb:b<n) :
  sItem2 i m e0 e1 e2 r=okR (.nx (r.set i (some (mat (tab n fun x y=>if x=a/\y=b then v else f x y),l+2)))):=by
 have g1:((tab n f).map rowD)[a]?=some (.lst (((qA1 n).map fun j=>f a j).map .int)):=by
  rw[qAk,zFM ha];rfl
 unfold sItem2;rw[h2,zA2,h];show zA9 (e0 (full r)) _=_;rw[h0,zA2];dsimp only;rw[zLR (by omega) (by simp[tab];omega)];dsimp only;rw[qBm,g1];dsimp only;rw[h1,zA2];dsimp only;rw[zLR (by omega) (by simp;omega)];dsimp only;rw[if_pos ⟨qAp _,qAp _⟩,qBm]
 congr 5
 unfold mat
 congr 1
 apply qD3
 intro x;rw[qD4]
 by_cases hx:a=x
 ·subst hx;rw[if_pos rfl,if_pos (by simp[tab];omega),qAk,zFM ha];show some _=some _
  congr 1
  unfold rowD
  congr 1
  apply qD3
  intro y;rw[qD4]
  by_cases hy:b=y
  ·subst hy;simp[hb]
  ·rw[if_neg hy]
   by_cases hyn:y<n
   ·simp[hyn,show ¬y=b from fun z=>hy z.symm]
   ·simp[hyn]
 ·rw[if_neg hx,qAk,qAk]
  by_cases hxn:x<n
  ·rw[zFM hxn,zFM hxn];simp[show ¬x=a from fun z=>hx z.symm]
  ·have:(tab n f)[x]?=none:=by simp[tab];omega
   have h':(tab n fun x y=>if x=a/\y=b then v else f x y)[x]?=none:=by simp[tab];omega
   rw[this,h']
noncomputable def cellv(ns:List Int)(k:Int):Int:=match zAA [.scr ns,.int k]with
 |some (.ok (.int c))=>c
 |_=>0
theorem zJ6(ns:List Int)(k:Int)(h0:0<=k)(h1:k<100000):zAA [.scr ns,.int k]=okR (.int (cellv ns k)):=by
 obtain⟨c,hc⟩:=zS7 ns k h0 h1;unfold cellv;rw[hc];rfl
def Bit(x:Int):Prop:=x=0\/x=1
def RowN(n:Nat)(r:List Int):Prop:=r.length=n/\∀x∈r,Bit x
theorem zTY(A:List (List Int))(l h:Option Int):cutA (A.map rowD) l h=(cutA A l h).map rowD:=by
 unfold cutA;simp
theorem zIO(r:List Int)(l h:Option Int):slD (rowD r) l h=some (rowD (cutA r l h)):=by
 show some (Dt.lst (cutA (r.map Dt.int) l h))=_;unfold cutA rowD;simp
theorem zS3(A:List (List Int))(l h:Option Int):slD (mat A) l h=some (mat (cutA A l h)):=by
 show some (Dt.lst (cutA (A.map rowD) l h))=_;rw[zTY];rfl
theorem zEZ{n:Nat}{f:Nat->Nat->Int}(hb:Bits n f):∀r∈tab n f,r.length=n/\∀x∈r,Bit x:=by
 intro r hr;unfold tab at hr;obtain⟨i,hi,rfl⟩:=qAa.mp hr;refine⟨by simp,fun x hx=>?_⟩;obtain⟨j,hj,rfl⟩:=qAa.mp hx;exact hb i j (by simpa using hi) (by simpa using hj)
theorem zPH(r:List Int)(i:Nat)(h:i<r.length):ixD (rowD r) (.int (i:Int))=some (.int (r.getD i 0)):=by
 have:=zTJ (ns:=r) (i:=(i:Int)) (by omega) (by omega)
 rw[qBm]at this;exact this
theorem zRH(A:List (List Int))(i:Nat)(h:i<A.length):ixD (mat A) (.int (i:Int))=some (rowD (A.getD i [])):=by
 refine zDA rfl ?_;rw[qAk,qA8 h,qA0,qA8 h];rfl
theorem addR(a b:List Int)(h:a.length+b.length<=100000):addD (rowD a) (rowD b)=some (rowD (a++b)):=by
 show(@ite _ ((a.map Dt.int).length+(b.map Dt.int).length<=100000) (qA4 _) (some (Dt.lst (a.map Dt.int++b.map Dt.int))) none)=_
 rw[if_pos (by simpa using h)];unfold rowD;simp
theorem zPS{a b:Int}(ha:Bit a)(hb:Bit b):Builtin.bitXor a b=(a+b)%2:=by
 rcases ha with rfl|rfl<;>rcases hb with rfl|rfl<;>decide
theorem zSE(n:Nat)(g h:Nat->Int)(hn:n<=10)(hg:∀j,j<n->Bit (g j))(hh:∀j,j<n->Bit (h j)):zED [rowD ((qA1 n).map g),rowD ((qA1 n).map h)]=okR (rowD ((qA1 n).map fun j=>(g j+h j)%2)):=by
 unfold zED zNM;have hc:eComp (iR1 (aCons (eBi lenD (aCons (eV 0) aNil)) aNil)) 1 (.one 2) Mi.tYes (eB xorD (eB ixD (eV 0) (eV 2)) (eB ixD (eV 1) (eV 2))) [some (rowD ((qA1 n).map g)),some (rowD ((qA1 n).map h))]=okR (rowD ((qA1 n).map fun j=>(g j+h j)%2)):=by
  refine zF6 _ rfl (by omega) (zD6 (by simp) (by omega)) fun j hj=>?_
  have i1:=ixR (g:=g) hj;have i2:=ixR (g:=h) hj;simp[i1,i2,zPS (hg j hj) (hh j hj)]
 simp[hc]
theorem zG4(n:Nat)(g h:Nat->Int)(hn:n<=10):zCR [rowD ((qA1 n).map g),rowD ((qA1 n).map h)]=okR (rowD ((qA1 n).map fun j=>(g j+h j)%2)):=by
 unfold zCR zHB;have hz:∀(l:List Nat),zipD ((l.map g).map Dt.int) ((l.map h).map Dt.int)=l.map fun j=>Dt.tup [.int (g j),.int (h j)]:=by
  intro l
  induction l with
  |nil=>rfl
  |cons a r ih=>simp only[qAd,zipD,ih]
 have hc:eComp (iZi (aCons (eV 0) (aCons (eV 1) aNil))) 2 (.tup [2,3]) Mi.tYes (eB modD (eB addD (eV 2) (eV 3)) (eC (.int 2))) [some (rowD ((qA1 n).map g)),some (rowD ((qA1 n).map h))]=okR (rowD ((qA1 n).map fun j=>(g j+h j)%2)):=by
  unfold eComp;have hi:iZi (aCons (eV 0) (aCons (eV 1) aNil)) [some (rowD ((qA1 n).map g)),some (rowD ((qA1 n).map h))]=okR ((qA1 n).map fun j=>Dt.tup [.int (g j),.int (h j)]):=by
   simp[rowD]
   have:=hz (qA1 n)
   simpa using this
  rw[hi,zA2,if_pos ⟨by simp;omega,by simp[Tg.idx]⟩];have go:∀(l:List Nat)(acc:List Dt),compGo [some (rowD ((qA1 n).map g)),some (rowD ((qA1 n).map h))] 2 (.tup [2,3]) tYes (eB modD (eB addD (eV 2) (eV 3)) (eC (.int 2))) (l.map fun j=>Dt.tup [.int (g j),.int (h j)]) acc=okR (acc++l.map fun j=>Dt.int ((g j+h j)%2)):=by
   intro l
   induction l with
   |nil=>intro acc;simp[compGo]
   |cons a r ih=>
    intro acc;rw[qAd,compGo];simp[zB8,zB6,ih]
  rw[go,zA2];unfold rowD;rw[qAo];simp
 simp[hc]
noncomputable def sumN(n:Nat)(f:Nat->Int):Int:=((qA1 n).map f).sum
def prod(n:Nat)(f g:Nat->Nat->Int)(i j:Nat):Int:=sumN n (fun k=>f i k*g k j)%2
theorem zOC(n:Nat)(g:Nat->Int)(hn:n<=10):zER [rowD ((qA1 n).map g)]=okR (.lst (((qA1 n).filter fun k=>decide (g k=1)).map fun k:Nat=>Dt.int (k:Int))):=by
 unfold zER zMJ;have hc:eComp (iR1 (aCons (eBi lenD (aCons (eV 0) aNil)) aNil)) 1 (.one 1) (tB (eB eqD (eB ixD (eV 0) (eV 1)) (eC (.int 1)))) (eV 1) [some (rowD ((qA1 n).map g))]=okR (.lst (((qA1 n).filter fun k=>decide (g k=1)).map fun k:Nat=>Dt.int (k:Int))):=by
  unfold eComp;rw[zD6 (n:=n) (by simp) (by omega),zA2,if_pos ⟨by simp[nums];omega,by simp[Tg.idx]⟩,zD4];have go:∀(l:List Nat)(acc:List Dt),(∀k∈l,k<n)->compGo [some (rowD ((qA1 n).map g))] 1 (.one 1) (tB (eB eqD (eB ixD (eV 0) (eV 1)) (eC (.int 1)))) (eV 1) (l.map fun k:Nat=>Dt.int (k:Int)) acc=okR (acc++(l.filter fun k=>decide (g k=1)).map fun k:Nat=>Dt.int (k:Int)):=by
   intro l
   induction l with
   |nil=>intro acc _;simp[compGo]
   |cons a r ih=>
    intro acc hl;have i1:=ixR (g:=g) (hl a (by simp));have ih':=fun acc=>ih acc fun k hk=>hl k (by simp[hk])
    rw[qAd,compGo]
    by_cases h:g a=1
    ·simp[zB8,zB6,i1,h,ih']
    ·simp[zB8,zB6,i1,h,ih']
  rw[go _ _ fun k hk=>by simpa using hk,zA2];simp
 have hd:Dt.depL (((qA1 n).filter fun k=>decide (g k=1)).map fun k:Nat=>Dt.int (k:Int))=0:=by
  have:=zCW (((qA1 n).filter fun k=>decide (g k=1)).map fun k:Nat=>(k:Int))
  rw[qAo]at this;exact this
 simp[hc,hd]
noncomputable def sumK(g:Nat->Nat->Int)(ks:List Nat)(j:Nat):Int:=ks.foldl (fun t k=>(t+g k j)%2) 0
theorem zKI(g:Nat->Nat->Int)(j:Nat):∀(ks:List Nat)(t:Int),Bit t->Bit (ks.foldl (fun t k=>(t+g k j)%2) t)
 |[],t,h=>h
 |k::r,t,h=>zKI g j r _ (by show _%2=0\/_%2=1;omega)
theorem zSQ(n:Nat)(g:Nat->Nat->Int)(ks:List Nat)(hn:n<=10)(hb:Bits n g)(hk:∀k∈ks,k<n):zDH [mat (tab n g),.lst (ks.map fun k:Nat=>Dt.int (k:Int))]=okR (rowD ((qA1 n).map fun j=>sumK g ks j)):=by
 unfold zDH zGG;have hrep:(qA6 n [Dt.int 0]).flatten=((qA1 n).map fun _=>(0:Int)).map Dt.int:=by
  clear hb hk
  have:∀m:Nat,(qA6 m [Dt.int 0]).flatten=qA6 m (Dt.int 0):=by
   intro m
   induction m with
   |zero=>rfl
   |succ m ih=>rw[qB5,qBl,ih];rfl
  rw[this,qAo];clear this
  induction n with
  |zero=>rfl
  |succ n ih=>
   rw[List.replicate_succ',qC6,qCq,<- ih (by omega)];rfl
 refine zC3 rfl (zBN fun bb hb'=>?_);have h0:repD (.lst [.int 0]) (.int (n:Int))=some (rowD ((qA1 n).map fun _=>(0:Int))):=by
  rw[za1,if_pos (by simp;omega)];rw[qBm,hrep];rfl
 simp only[zHO,x_eB,zXI,zEI,zHQ,x_eC,zVH,x_eV];simp[zBY,h0];subst hb';refine zBN fun bb hb'=>?_
 simp;refine zR7 (fun k:Nat=>Dt.int (k:Int)) ks (fun q r=>∃o3,r=[some (mat (tab n g),0),some (.lst (ks.map fun k:Nat=>Dt.int (k:Int)),0),some (rowD ((qA1 n).map fun j=>sumK g (ks.take q) j),1),o3]) ⟨none,by simp[sumK]⟩ (fun q k hq r hr=>?_) fun r hr=>?_
 ·obtain⟨o3,rfl⟩:=hr;have hkn:k<n:=hk k (qCd hq);have i1:=ixM (f:=g) hkn;have a1:=zSE n (fun j=>sumK g (ks.take q) j) (fun j=>g k j) hn (fun j _=>zKI g j _ 0 (.inl rfl)) fun j hj=>hb k j hkn hj
  have ht:ks.take (q+1)=ks.take q++[k]:=by rw[qF3,hq];rfl
  simp[i1,a1,ht,sumK,qF4];simp[sumK]at a1;simp[a1]
 ·obtain⟨o3,rfl⟩:=hr;subst hb';rw[qCi];simp
theorem zHJ(p:Nat->Int)(g:Nat->Int):∀(l:List Nat)(t:Int),Bit t->(∀k∈l,Bit (p k))->(l.filter fun k=>decide (p k=1)).foldl (fun t k=>(t+g k)%2) t=(t+(l.map fun k=>p k*g k).sum)%2
 |[],t,ht,_=>by rcases ht with rfl|rfl<;>simp
 |k::r,t,ht,hp=>by
  have hk:=hp k (by simp)
  rcases hk with h|h
  ·rw[qCu (by simp[h]),zHJ p g r t ht fun k hk=>hp k (by simp[hk])];simp[h]
  ·rw[qCv (by simp[h]),qCo,zHJ p g r _ (by show _%2=0\/_%2=1;omega) fun k hk=>hp k (by simp[hk])];simp[h];omega
theorem zQ7(n:Nat)(f g:Nat->Nat->Int)(i j:Nat)(hi:i<n)(hf:Bits n f):sumK g ((qA1 n).filter fun k=>decide (f i k=1)) j=prod n f g i j:=by
 unfold sumK prod sumN;rw[zHJ (f i) (fun k=>g k j) (qA1 n) 0 (.inl rfl) fun k hk=>hf i k hi (by simpa using hk)];simp
theorem zGM(n:Nat)(f:Nat->Nat->Int):mat (tab n f)=.lst ((qA1 n).map fun i=>rowD ((qA1 n).map fun j=>f i j)):=by
 unfold mat tab;rw[qAo];rfl
theorem zIC(n:Nat)(f g:Nat->Nat->Int)(hn:n<=10)(hf:Bits n f)(hg:Bits n g):zD5 [mat (tab n f),mat (tab n g)]=okR (mat (tab n (prod n f g))):=by
 unfold zD5 zFI;refine zC3 rfl (zBN fun bb hb=>?_);simp;subst hb;refine zBN fun bb hb=>?_
 have hit:iSq (eV 0) [some (mat (tab n f)),some (mat (tab n g)),none,none,none,none]=okR ((qA1 n).map fun i=>rowD ((qA1 n).map fun j=>f i j)):=by simp[zGM]
 simp[hit,zGM n f];rw[<- zGM n f];refine zR7 (fun i:Nat=>rowD ((qA1 n).map fun j=>f i j)) (qA1 n) (fun q r=>∃o3 o4 o5 l,(l=0\/(q=0/\l=8))/\r=[some (mat (tab n f),0),some (mat (tab n g),0),some (.lst ((qA1 q).map fun i=>rowD ((qA1 n).map fun j=>prod n f g i j)),l+1),o3,o4,o5]) ⟨_,_,_,8,.inr ⟨rfl,rfl⟩,rfl⟩ (fun q i hq r hr=>?_) fun r hr=>?_
 ·obtain⟨o3,o4,o5,l,_,rfl⟩:=hr;obtain⟨hq1,hq2⟩:=qA3.mp hq;rw[qCp]at hq2;subst hq2;have hqn:q<n:=by simpa using hq1
  have hz:∀o4 o5:Option Dt,∀x:Dt,eComp (iSq (eV 1)) 1 (.one 6) Mi.tYes (eC (.int 0)) [some (mat (tab n f)),some (mat (tab n g)),some x,some (rowD ((qA1 n).map fun j=>f q j)),o4,o5]=okR (rowD ((qA1 n).map fun _=>(0:Int))):=by
   intro o4 o5 x;have e:=zAZ (ρ:=[some (mat (tab n f)),some (mat (tab n g)),some x,some (rowD ((qA1 n).map fun j=>f q j)),o4,o5]) (c:=tYes) (i:=6) (e:=eC (.int 0)) (fun i:Nat=>rowD ((qA1 n).map fun j=>g i j)) (fun _=>.int 0) (qA1 n) rfl rfl (fun i _=>rfl) (iSq (eV 1)) (by simp[zGM]) (by simp;omega);rw[e];unfold rowD;rw[qAo];rfl
  refine zLE fun bb hb=>?_
  simp[hz];subst hb;refine zLE fun bb hb=>?_
  simp;rw[zD6 (n:=n) (by simp[zBY]) (by omega),zA2];refine zTA (fun k r=>∃o5,r=[some (mat (tab n f),0),some (mat (tab n g),0),some (.lst ((qA1 q).map fun i=>rowD ((qA1 n).map fun j=>prod n f g i j)),l+1),some (rowD ((qA1 n).map fun j=>f q j),0),some (rowD ((qA1 n).map fun j=>sumK g ((qA1 k).filter fun k=>decide (f q k=1)) j),1),o5]) ⟨o5,by simp[sumK]⟩ (fun k hk r hr=>?_) fun r hr=>?_
  ·obtain⟨o5,rfl⟩:=hr;have i1:=ixR (g:=fun j=>f q j) hk;have i2:=ixM (f:=g) hk;have a1:=zG4 n (fun j=>sumK g ((qA1 k).filter fun k=>decide (f q k=1)) j) (fun j=>g k j) hn
   by_cases h:f q k=1
   ·simp[i1,h,i2,a1];simp[qC6,h,sumK,qF4]
   ·simp[i1,h];simp[qC6,h]
  ·obtain⟨o5,rfl⟩:=hr;subst hb;have e:((qA1 n).map fun j=>sumK g ((qA1 n).filter fun k=>decide (f q k=1)) j)=(qA1 n).map fun j=>prod n f g q j:=qAq fun j _=>zQ7 n f g q j hqn hf
   rw[e];simp[sAppF,low];rw[if_pos (by omega)];simp[qC6]
 ·obtain⟨o3,o4,o5,l,hl,rfl⟩:=hr;subst hb;rw[qDz,<- zGM]
  rcases hl with rfl|⟨h0,rfl⟩
  ·simp
  ·have h0':n=0:=by simpa using h0
   subst h0';simp[mat,tab]
noncomputable def numL(ks:List Nat):List Int:=ks.map fun k:Nat=>(k:Int)
theorem numD(ks:List Nat):rowD (numL ks)=.lst (ks.map fun k:Nat=>Dt.int (k:Int)):=by
 unfold rowD numL;rw[qAo];rfl
theorem zG2{α:Type}(ks:List Nat)(g:Nat->α):ks.map g=(qA1 ks.length).map fun a=>g (ks.getD a 0):=by
 apply qC1
 ·simp
 ·intro i h1 h2;simp at h1;simp[h1]
theorem zC0{ks:List Nat}{n a:Nat}(hk:∀k∈ks,k<n)(ha:a<ks.length):ks.getD a 0<n:=by
 refine hk _ ?_;rw[qA0,qA8 ha];simp
noncomputable def sub(ks:List Nat)(f:Nat->Nat->Int):Nat->Nat->Int:=fun a b=>f (ks.getD a 0) (ks.getD b 0)
theorem zK4(n:Nat)(f:Nat->Nat->Int)(ks:List Nat)(hk:∀k∈ks,k<n)(hz:ks.length<=1000):zCQ [mat (tab n f),rowD (numL ks)]=okR (mat (tab ks.length (sub ks f))):=by
 have hm:mat (tab ks.length (sub ks f))=.lst (ks.map fun i=>rowD (ks.map fun j=>f i j)):=by
  rw[zGM,zG2 ks fun i=>rowD (ks.map fun j=>f i j)]
  congr 1
  refine qAq fun a ha=>?_
  rw[zG2 ks fun j=>f (ks.getD a 0) j];rfl
 unfold zCQ zIX;have hc:eComp (iSq (eV 1)) 1 (.one 2) Mi.tYes (eComp (iSq (eV 1)) 1 (.one 3) Mi.tYes (eB ixD (eB ixD (eV 0) (eV 2)) (eV 3))) [some (mat (tab n f)),some (rowD (numL ks))]=okR (mat (tab ks.length (sub ks f))):=by
  rw[hm];refine zAZ (fun k:Nat=>Dt.int (k:Int)) _ ks rfl rfl (fun i hi=>?_) _ (by simp[numD]) (by omega);have h2:=zAZ (ρ:=[some (mat (tab n f)),some (rowD (numL ks))]++[some (Dt.int (i:Int))]) (c:=tYes) (i:=3) (e:=eB ixD (eB ixD (eV 0) (eV 2)) (eV 3)) (fun k:Nat=>Dt.int (k:Int)) (fun j=>Dt.int (f i j)) ks rfl rfl (fun j hj=>by
   have e1:=ixM (f:=f) (hk i hi);have e2:=ixR (g:=fun j=>f i j) (hk j hj);simp[e1,e2]) (iSq (eV 1)) (by simp[numD]) (by omega)
  rw[h2];unfold rowD;rw[qAo];rfl
 have hd:=zC1 (tab ks.length (sub ks f));simp[hc,hd]
theorem zEB{α:Type}(l:List α):allD [.lst (l.map fun _=>Dt.bl true)]=some (.bl true):=by
 have hall:∀l:List α,boolsD (l.map fun _=>Dt.bl true)=some (l.map fun _=>true):=by
  intro l
  induction l with
  |nil=>rfl
  |cons a r ih=>simp[boolsD,ih]
 simp[allD,hall]
theorem zDU(l:List Int):intsD (l.map Dt.int)=some l:=by
 induction l with
 |nil=>rfl
 |cons a r ih=>simp[intsD,ih]
noncomputable def addB:List Int->List Int->List Int
 |a::r,b::s=>(a+b)%2::addB r s
 |_,_=>[]
noncomputable def dot:List Int->List Int->Int
 |a::r,b::x=>a*b+dot r x
 |_,_=>0
theorem zKV(x:Int):Bit (x%2):=by show _%2=0\/_%2=1;omega
theorem zKW:∀(a b:List Int),a.length=b.length->(addB a b).length=a.length
 |[],[],_=>rfl
 |a::r,b::s,h=>by simp[addB,zKW r s (by simpa using h)]
 |[],_::_,h=>by simp at h
 |_::_,[],h=>by simp at h
theorem zOZ:∀(a b:List Int),∀x∈addB a b,Bit x
 |[],_,x,h=>by simp[addB]at h
 |_::_,[],x,h=>by simp[addB]at h
 |a::r,b::s,x,h=>by
  rw[addB,qA9]at h
  rcases h with rfl|h
  ·exact zKV _
  ·exact zOZ r s x h
theorem zDK{m:Nat}{a b:List Int}(ha:RowN m a)(hb:RowN m b):RowN m (addB a b):=
 ⟨by rw[zKW a b (by rw[ha.1,hb.1]),ha.1],zOZ a b⟩
theorem zCH:∀(a b:List Int)(k:Nat),a.length=b.length->k<a.length->(addB a b).getD k 0=(a.getD k 0+b.getD k 0)%2
 |[],_,k,_,h=>by simp at h
 |_::_,[],k,h,_=>by simp at h
 |a::r,b::s,0,_,_=>rfl
 |a::r,b::s,k+1,h,hk=>by
  have:=zCH r s k (by simpa using h) (by simpa using hk)
  simpa[addB]using this
theorem zKP:∀(a b x:List Int),a.length=b.length->(∀y∈x,Bit y)->dot (addB a b) x%2=(dot a x+dot b x)%2
 |[],[],x,_,_=>by simp[addB,dot]
 |[],_::_,x,h,_=>by simp at h
 |_::_,[],x,h,_=>by simp at h
 |a::r,b::s,[],_,_=>by simp[addB,dot]
 |a::r,b::s,c::x,h,hx=>by
  have ih:=zKP r s x (by simpa using h) fun y hy=>hx y (by simp[hy])
  simp only[addB,dot]
  rcases hx c (by simp)with rfl|rfl<;>omega
def Ker(A:List (List Int))(x:List Int):Prop:=∀r∈A,dot r x%2=0
noncomputable def ent(A:List (List Int))(i k:Nat):Int:=(A.getD i []).getD k 0
theorem zAQ{α:Type}{l:List α}{d:α}{i:Nat}(h:i<l.length):l.getD i d∈l:=by
 rw[qA0,qA8 h];simp
theorem zKE{α:Type}{l:List α}{d a:α}{i j:Nat}(h:i<l.length):(l.set i a).getD j d=if i=j then a else l.getD j d:=by
 simp only[qA0,qD4]
 by_cases z:i=j
 ·subst z;simp[h]
 ·simp[z]
theorem zHI{α β:Type}{l:List α}{d:α}{e:β}{g:α->β}{i:Nat}(h:i<l.length):(l.map g).getD i e=g (l.getD i d):=by
 simp[qA0,qA8 h]
theorem zF4{α:Type}{l:List α}{d x:α}(h:x∈l):∃i,i<l.length/\l.getD i d=x:=by
 obtain⟨i,hi,rfl⟩:=List.mem_iff_getElem.mp h;exact⟨i,hi,by simp[qA0,qA8 hi]⟩
def oth(A:List (List Int))(c:Nat)(lead:List Int):List (List Int):=A.map fun r=>if r.getD c 0=1 then addB r lead else r
def clr(A:List (List Int))(c t:Nat):List (List Int):=
 ((oth A c (A.getD t [])).set t ((oth A c (A.getD t [])).getD c [])).set c (A.getD t [])
section
variable{A:List (List Int)}{c t m:Nat}(hm:∀r∈A,RowN m r)(ht:t<A.length)(hc:c<=t)(hl:ent A t c=1)(hcm:c<m)
theorem zI3(A:List (List Int))(c:Nat)(l:List Int):(oth A c l).length=A.length:=by simp[oth]
theorem zIQ(A:List (List Int))(c t:Nat):(clr A c t).length=A.length:=by simp[clr,oth]
include hm ht in
theorem zT7:∀r∈oth A c (A.getD t []),RowN m r:=by
 intro r hr;obtain⟨q,hq,rfl⟩:=qAa.mp hr;have h1:=hm q hq;have h2:=hm _ (zAQ (d:=[]) ht)
 split
 ·exact zDK h1 h2
 ·exact h1
include hm ht hc in
theorem zU1:∀r∈clr A c t,RowN m r:=by
 intro r hr;have ho:=zT7 (c:=c) hm ht
 rcases qBd hr with hr|rfl
 ·rcases qBd hr with hr|rfl
  ·exact ho r hr
  ·exact ho _ (zAQ (by rw[zI3];omega))
 ·exact hm _ (zAQ ht)
include ht hc in
theorem zKS(i:Nat)(hi:i<A.length):(clr A c t).getD i []=if c=i then A.getD t []else if t=i then(oth A c (A.getD t [])).getD c []else(oth A c (A.getD t [])).getD i []:=by
 unfold clr;rw[zKE (by simp[zI3];omega),zKE (by rw[zI3];omega)]
include hm ht hc in
theorem zX4(x:List Int)(hx:∀y∈x,Bit y):Ker (clr A c t) x↔Ker A x:=by
 have hlr:=hm _ (zAQ (d:=[]) ht);constructor
 ·intro h r hr;have hlead:dot (A.getD t []) x%2=0:=by
   have:=h _ (zAQ (d:=[]) (i:=c) (by rw[zIQ];omega))
   rwa [zKS ht hc c (by omega),if_pos rfl]at this
  obtain⟨i,hi,rfl⟩:=zF4 (d:=[]) hr
  by_cases hit:t=i
  ·subst hit;exact hlead
  ·have key:(oth A c (A.getD t [])).getD i []∈clr A c t:=by
    by_cases hic:c=i
    ·subst hic
     have:=zAQ (l:=clr A c t) (d:=[]) (i:=t) (by rw[zIQ];omega)
     rwa [zKS ht hc t ht,if_neg (fun z=>hit z.symm),if_pos rfl]at this
    ·have:=zAQ (l:=clr A c t) (d:=[]) (i:=i) (by rw[zIQ];omega)
     rwa [zKS ht hc i hi,if_neg hic,if_neg hit]at this
   have k2:=h _ key;unfold oth at k2;rw[zHI (d:=[]) hi]at k2
   split at k2
   ·rw[zKP _ _ x (by rw[(hm _ (zAQ hi)).1,hlr.1]) hx]at k2;omega
   ·exact k2
 ·intro h r hr;have hlead:=h _ (zAQ (d:=[]) ht);have ho:∀r∈oth A c (A.getD t []),dot r x%2=0:=by
   intro r hr;obtain⟨q,hq,rfl⟩:=qAa.mp hr
   have:=h q hq
   split
   ·rw[zKP _ _ x (by rw[(hm _ hq).1,hlr.1]) hx];omega
   ·exact this
  rcases qBd hr with hr|rfl
  ·rcases qBd hr with hr|rfl
   ·exact ho r hr
   ·exact ho _ (zAQ (by rw[zI3];omega))
  ·exact hlead
end
def zX8(A:List (List Int))(c:Nat):Prop:=∀i k,i<A.length->k<c->ent A i k=if i=k then 1 else 0
theorem zGR{A:List (List Int)}{m i k:Nat}(hm:∀r∈A,RowN m r)(hi:i<A.length)(hk:k<m):Bit (ent A i k):=by
 have h:=hm _ (zAQ (d:=[]) hi);exact h.2 _ (zAQ (by rw[h.1];exact hk))
theorem zW4{A:List (List Int)}{c t m i k:Nat}(hm:∀r∈A,RowN m r)(ht:t<A.length)(hi:i<A.length)(hk:k<m):((oth A c (A.getD t [])).getD i []).getD k 0=if ent A i c=1 then(ent A i k+ent A t k)%2 else ent A i k:=by
 unfold oth;rw[zHI (d:=[]) hi];have h1:=hm _ (zAQ (d:=[]) hi);have h2:=hm _ (zAQ (d:=[]) ht)
 show(if ent A i c=1 then _ else _:List Int).getD k 0=_
 split
 ·rw[zCH _ _ k (by rw[h1.1,h2.1]) (by rw[h1.1];exact hk)];rfl
 ·rfl
theorem zU0{A:List (List Int)}{c t m:Nat}(hm:∀r∈A,RowN m r)(ht:t<A.length)(hc:c<=t)(hl:ent A t c=1)(hcm:c<m)(hu:zX8 A c):zX8 (clr A c t) (c+1):=by
 intro i k hi hk;rw[zIQ]at hi;have hk2:k<m:=by omega
 have e0:∀j,j<A.length->((oth A c (A.getD t [])).getD j []).getD k 0=if k=c then 0 else if j=k then 1 else 0:=by
  intro j hj;rw[zW4 hm ht hj hk2]
  by_cases hkc:k=c
  ·subst hkc;have hb:=zGR (k:=k) hm hj hk2;rw[if_pos rfl]
   split
   ·rename_i h;rw[h,hl];rfl
   ·rename_i h
    rcases hb with hb|hb
    ·exact hb
    ·exact absurd hb h
  ·rw[if_neg hkc];have h1:=hu j k hj (by omega);have h2:=hu t k ht (by omega);rw[if_neg (by omega)]at h2;rw[h1,h2]
   split<;>split<;>rfl
 unfold ent;rw[zKS ht hc i hi]
 by_cases h1:c=i
 ·subst h1;rw[if_pos rfl]
  by_cases hkc:c=k
  ·subst hkc;rw[if_pos rfl];exact hl
  ·rw[if_neg hkc]
   have:=hu t k ht (by omega)
   rw[if_neg (by omega)]at this;exact this
 ·rw[if_neg h1]
  by_cases h2:t=i
  ·subst h2;rw[if_pos rfl,e0 c (by omega)]
   by_cases hkc:k=c
   ·subst hkc;rw[if_pos rfl,if_neg (fun z=>h1 z.symm)]
   ·rw[if_neg hkc,if_neg (fun z=>hkc z.symm),if_neg (by omega)]
  ·rw[if_neg h2,e0 i hi]
   by_cases hkc:k=c
   ·subst hkc;rw[if_pos rfl,if_neg (fun z=>h1 z.symm)]
   ·rw[if_neg hkc]
theorem zB7(n:Nat)(f:Nat->Int):sumN (n+1) f=sumN n f+f n:=by
 unfold sumN;rw[qC6,qCq,List.sum_append];simp
theorem zBF{n:Nat}{f:Nat->Int}(h:∀k,k<n->f k=0):sumN n f=0:=by
 induction n with
 |zero=>rfl
 |succ n ih=>rw[zB7,ih fun k hk=>h k (by omega),h n (by omega)];rfl
theorem zCS{n:Nat}{f:Nat->Int}{j:Nat}(hj:j<n)(h:∀k,k<n->k≠j->f k=0):sumN n f=f j:=by
 induction n with
 |zero=>omega
 |succ n ih=>
  rw[zB7]
  by_cases z:j=n
  ·subst z;rw[zBF fun k hk=>h k (by omega) (by omega)];omega
  ·rw[ih (by omega) fun k hk=>h k (by omega),h n (by omega) (fun y=>z y.symm)];omega
theorem zSS{n:Nat}{f:Nat->Int}{i j:Nat}(hi:i<j)(hj:j<n)(h:∀k,k<n->k≠i->k≠j->f k=0):sumN n f=f i+f j:=by
 induction n with
 |zero=>omega
 |succ n ih=>
  rw[zB7]
  by_cases z:j=n
  ·subst z;rw[zCS hi fun k hk hki=>h k (by omega) hki (by omega)]
  ·rw[ih (by omega) fun k hk=>h k (by omega),h n (by omega) (by omega) (fun y=>z y.symm)];omega
theorem zP3(n:Nat)(f:Nat->Int):sumN (n+1) f=f 0+sumN n fun k=>f (k+1):=by
 induction n with
 |zero=>simp[sumN]
 |succ n ih=>rw[zB7,ih,zB7];omega
theorem zEF:∀(r x:List Int)(m:Nat),x.length<=m->dot r x=sumN m fun k=>r.getD k 0*x.getD k 0
 |[],x,m,_=>by rw[zBF fun k _=>by simp];rfl
 |a::r,[],m,_=>by rw[zBF fun k _=>by simp];rfl
 |a::r,b::x,0,h=>by simp at h
 |a::r,b::x,m+1,h=>by
  rw[dot,zEF r x m (by simpa using h),zP3];simp
theorem zKO:∀(a b u v:List Int),a.length=u.length->dot (a++b) (u++v)=dot a u+dot b v
 |[],b,[],v,_=>by simp[dot]
 |[],b,_::_,v,h=>by simp at h
 |_::_,b,[],v,h=>by simp at h
 |a::r,b,c::u,v,h=>by
  have:=zKO r b u v (by simpa using h)
  simp[dot,this];omega
theorem zX1(r:List Int):dot r []=0:=by cases r<;>rfl
theorem zVV{n p:Nat}{x:List Int}{v:Int}(hx:RowN n x)(hv:Bit v):RowN n (x.set p v):=
 ⟨by simp[hx.1],fun y hy=>(qBd hy).elim (hx.2 y) fun z=>z▸hv⟩
theorem zBQ{n k:Nat}{x:List Int}(hx:RowN n x):Bit (x.getD k 0):=by
 by_cases h:k<x.length
 ·exact hx.2 _ (zAQ h)
 ·left;simp[qA0,qB6 (by omega:x.length<=k)]
structure Rk(n:Nat)(T A:List (List Int))(p q:Nat):Prop where
 rows:∀r∈A,RowN n r
 zero:∀r∈A,∀k,k<p->r.getD k 0=0
 le:q<=p
 all:q=p->∀x,RowN n x->Ker T x->Ker A x/\((∀j,p<=j->x.getD j 0=0)->∀j,x.getD j 0=0)
 some:q<p->∃x,RowN n x/\Ker T x/\∃j,j<n/\x.getD j 0=1
 lift:∀x,RowN n x->Ker A x->∃y,RowN n y/\Ker T y/\∀j,p<=j->y.getD j 0=x.getD j 0
end Mp
namespace Mp
open Mi PySem
theorem zE4{r:Ro}{i n:Nat}{vs:List Nat}{e:EM}{d:Dt}{P:Ro->Prop}(h1:e (full r)=okR d)(h2:e (frz (frzAt vs r))=okR d)(p1:P (r.set i (some (d,n))))(p2:P ((frzAt vs r).set i (some (d,n)))):nxR (sSet i n vs e r) P:=by
 unfold sSet;rw[h1,zA2]
 split
 ·exact p1
 ·rw[h2,zA2];exact p2
theorem zBW{ρ:Rh}{c:TM}{e:EM}{i:Nat}{β:Type}(en:β->Dt)(g:β->Dt)(f:β->Bool)(ns:List β)(hi:i=ρ.length)(hc:∀k,k∈ns->c (ρ++[some (en k)])=okR (f k))(h:∀k,k∈ns->f k=true->e (ρ++[some (en k)])=okR (g k))(it:IM)(hit:it ρ=okR (ns.map en))(hn:ns.length<=100000):eComp it 1 (.one i) c e ρ=okR (.lst ((ns.filter f).map g)):=by
 subst hi;unfold eComp;rw[hit,zA2,if_pos ⟨by simpa using hn,by simp[Tg.idx]⟩];have go:∀(l:List β)(acc:List Dt),(∀k∈l,k∈ns)->compGo ρ 1 (.one ρ.length) c e (l.map en) acc=okR (acc++(l.filter f).map g):=by
  intro l
  induction l with
  |nil=>intro acc _;simp[compGo]
  |cons a r ih=>
   intro acc hl;have h1:=hc a (hl a (by simp));have h2:=h a (hl a (by simp));have ih':=fun acc=>ih acc fun k hk=>hl k (by simp[hk])
   have es:zB6 (ρ++qA6 1 none) [(ρ.length,en a)]=ρ++[some (en a)]:=by
    simp[zB6]
   rw[qAd,compGo];show zA9 (c (zB6 (ρ++qA6 1 none) [(ρ.length,en a)])) _=_;rw[es,h1,zA2];cases hf:f a with
   |true=>
    rw[if_pos rfl];rw[h2 hf,zA2,ih',qCv hf];simp
   |false=>
    rw[if_neg (by simp),ih',qCu (by simp[hf])]
 rw[go _ _ fun k hk=>hk,zA2];simp
theorem zFS{n:Nat}{a:List Int}(h:a.length=n):a=(qA1 n).map fun j=>a.getD j 0:=by
 apply qC1
 ·simp[h]
 ·intro i h1 h2;simp[qA0,qA8 h1]
theorem zPO{n:Nat}{a b:List Int}(h:a.length=n)(h':b.length=n):addB a b=(qA1 n).map fun j=>(a.getD j 0+b.getD j 0)%2:=by
 rw[zFS (n:=n) (a:=addB a b) (by rw[zKW a b (by omega),h])];exact qAq fun j hj=>zCH a b j (by omega) (by simp at hj;omega)
theorem addM(A B:List (List Int))(h:A.length+B.length<=100000):addD (mat A) (mat B)=some (mat (A++B)):=by
 show(@ite _ ((A.map rowD).length+(B.map rowD).length<=100000) (qA4 _) (some (Dt.lst (A.map rowD++B.map rowD))) none)=_
 rw[if_pos (by simpa using h)];unfold mat;simp
noncomputable def zEJ(n i:Nat):List Int:=(qA1 n).map fun j=>if j=i then 1 else 0
theorem zAL{n k:Nat}{g:Nat->Int}(h:k<n):((qA1 n).map g).getD k 0=g k:=by
 simp[qA0,h]
theorem zJT(n i:Nat):RowN n (zEJ n i):=⟨by simp[zEJ],fun x hx=>by
 obtain⟨k,_,rfl⟩:=qAa.mp hx;show Bit (if _ then 1 else 0)
 split<;>simp[Bit]⟩
theorem zTU{n i:Nat}{v:List Int}(hi:i<n)(hv:v.length=n):dot (zEJ n i) v=v.getD i 0:=by
 rw[zEF _ v n (by omega),zCS hi fun k hk hki=>?_]
 ·rw[zEJ,zAL hi,if_pos rfl];simp
 ·rw[zEJ,zAL hk,if_neg hki];simp
def aug(n:Nat)(T:List (List Int)):List (List Int):=(qA1 n).map fun i=>T.getD i []++zEJ n i
theorem zX5{n:Nat}{T:List (List Int)}(hT:T.length=n)(hr:∀r∈T,RowN n r){u v:List Int}(hu:u.length=n)(hv:v.length=n):Ker (aug n T) (u++v)↔∀i,i<n->(dot (T.getD i []) u+v.getD i 0)%2=0:=by
 have key:∀i,i<n->dot (T.getD i []++zEJ n i) (u++v)=dot (T.getD i []) u+v.getD i 0:=fun i hi=>by
  rw[zKO _ _ _ _ (by rw[(hr _ (zAQ (by omega))).1,hu]),zTU hi hv]
 constructor
 ·intro h i hi;rw[<- key i hi];exact h _ (qAa.mpr ⟨i,by simpa using hi,rfl⟩)
 ·intro h r hr;obtain⟨i,hi,rfl⟩:=qAa.mp hr;have hi':i<n:=by simpa using hi
  rw[key i hi'];exact h i hi'
theorem zU6{n:Nat}{T:List (List Int)}(hT:T.length=n)(hr:∀r∈T,RowN n r){u:List Int}(hu:u.length=n)(h:Ker (aug n T) u):Ker T u:=by
 intro r hrt;obtain⟨i,hi,rfl⟩:=zF4 (d:=[]) hrt
 have:=h _ (qAa.mpr ⟨i,by simp;omega,rfl⟩)
 rw[<- qDj u,zKO _ _ _ _ (by rw[(hr _ (zAQ hi)).1,hu]),zX1]at this
 simpa using this
structure Un(n:Nat)(T A:List (List Int))(c:Nat):Prop where
 len:A.length=n
 rows:∀r∈A,RowN (n+n) r
 unit:zX8 A c
 ker:∀x,(∀y∈x,Bit y)->(Ker A x↔Ker (aug n T) x)
theorem Un.none{n c:Nat}{T A:List (List Int)}(a:Un n T A c)(hT:T.length=n)(hr:∀r∈T,RowN n r)(hc:c<n)(h:∀t,c<=t->t<n->ent A t c≠1):∃x,RowN n x/\Ker T x/\∃j,j<n/\x.getD j 0=1:=by
 let x:List Int:=(qA1 n).map fun k=>if k<c then ent A k c else if k=c then 1 else 0
 have hx:∀k,k<n->x.getD k 0=if k<c then ent A k c else if k=c then 1 else 0:=fun k hk=>zAL hk
 have hl:=a.len;have hxr:RowN n x:=⟨by simp[x],fun y hy=>by
  obtain⟨k,hk,rfl⟩:=qAa.mp hy;have hk':k<n:=by simpa using hk
  show Bit (if k<c then ent A k c else if k=c then 1 else 0)
  split
  ·exact zGR a.rows (by omega) (by omega)
  ·split<;>simp[Bit]⟩
 refine⟨x,hxr,zU6 hT hr hxr.1 ((a.ker x hxr.2).mp fun r hrA=>?_),c,hc,by rw[hx c hc,if_neg (by omega),if_pos rfl]⟩;obtain⟨i,hi,rfl⟩:=zF4 (d:=[]) hrA;rw[zEF _ x n (by rw[hxr.1];exact qA7 _)]
 by_cases hic:i<c
 ·rw[zSS hic hc fun k hk h1 h2=>?_]
  ·rw[hx i (by omega),if_pos hic,hx c hc,if_neg (by omega),if_pos rfl]
   have:=a.unit i i hi hic
   rw[if_pos rfl]at this
   show(ent A i i*ent A i c+ent A i c*1)%2=0
   rw[this];omega
  ·rw[hx k hk]
   by_cases hkc:k<c
   ·have:=a.unit i k hi hkc
    rw[if_neg (fun z=>h1 z.symm)]at this;show ent A i k*_=0;rw[this];simp
   ·rw[if_neg hkc,if_neg h2];simp
 ·rw[zBF fun k hk=>?_]
  ·rfl
  ·rw[hx k hk]
   by_cases hkc:k<c
   ·have:=a.unit i k hi hkc
    rw[if_neg (by omega)]at this;show ent A i k*_=0;rw[this];simp
   ·rw[if_neg hkc]
    by_cases h2:k=c
    ·subst h2;have hb:=zGR (k:=k) a.rows hi (by omega)
     have:ent A i k=0:=hb.elim (fun z=>z) fun z=>absurd z (h i (by omega) (by omega))
     show ent A i k*_=0;rw[this];simp
    ·rw[if_neg h2];simp
theorem Un.full{n:Nat}{T A:List (List Int)}(a:Un n T A n)(hT:T.length=n)(hr:∀r∈T,RowN n r){u v:List Int}(hu:RowN n u)(hv:RowN n v) :
  (∀i,i<n->(dot (T.getD i []) u+v.getD i 0)%2=0)↔∀i,i<n->(u.getD i 0+dot ((A.map (qEu n)).getD i []) v)%2=0:=by
 have hl:=a.len;rw[<- zX5 hT hr hu.1 hv.1,<- a.ker (u++v) fun y hy=>(qAv.mp hy).elim (hu.2 y) (hv.2 y)];have key:∀i,i<n->dot (A.getD i []) (u++v)=u.getD i 0+dot ((A.map (qEu n)).getD i []) v:=fun i hi=>by
  have hrow:=a.rows _ (zAQ (d:=[]) (i:=i) (by omega));rw[zHI (d:=[]) (by omega)]
  conv=>lhs;rw[<- qEh n (A.getD i [])]
  rw[zKO _ _ _ _ (by rw[hu.1,qBx,hrow.1];omega)]
  congr 1
  rw[zEF _ u n (by rw[hu.1];exact qA7 _)];have e:∀k,k<n->((A.getD i []).take n).getD k 0=if i=k then 1 else 0:=fun k hk=>by
   have:=a.unit i k (by omega) hk
   unfold ent at this;rw[<- this]
   generalize A.getD i []=row
   rw[qA0,qA0,qDw hk]
  rw[zCS hi fun k hk hki=>by rw[e k hk,if_neg (fun z=>hki z.symm)];simp,e i hi,if_pos rfl];simp
 constructor
 ·intro h i hi;rw[<- key i hi];exact h _ (zAQ (by omega))
 ·intro h r hrA;obtain⟨i,hi,rfl⟩:=zF4 (d:=[]) hrA;rw[key i (by omega)];exact h i (by omega)
theorem Un.start{n:Nat}{T:List (List Int)}(hT:T.length=n)(hr:∀r∈T,RowN n r):Un n T (aug n T) 0:=by
 refine⟨by simp[aug],fun r hrA=>?_,fun i k _ hk=>by omega,fun _ _=>Iff.rfl⟩;obtain⟨i,hi,rfl⟩:=qAa.mp hrA;have h1:=hr _ (zAQ (d:=[]) (i:=i) (by rw[hT];simpa using hi));have h2:=zJT n i;exact⟨by rw[qAe,h1.1,h2.1],fun x hx=>(qAv.mp hx).elim (h1.2 x) (h2.2 x)⟩
theorem Un.step{n c t:Nat}{T A:List (List Int)}(a:Un n T A c)(hc:c<n)(ht:c<=t)(htn:t<n)(h:ent A t c=1):Un n T (clr A c t) (c+1):=by
 have hl:=a.len;exact⟨by rw[zIQ,a.len],zU1 a.rows (by omega) ht,zU0 a.rows (by omega) ht h (by omega) a.unit,fun x hx=>(zX4 a.rows (by omega) ht x hx).trans (a.ker x hx)⟩
def eiR(x:R Out)(P:Ro->Prop)(Q:Dt->Prop):Prop:=(∃r,x=okR (.nx r)/\P r)\/∃d,x=okR (.rt d)/\Q d
theorem zGB{x:R Out}{P:Ro->Prop}{Q:Dt->Prop}(h:nxR x P):eiR x P Q:=.inl (zDC h)
theorem zaO{j n:Nat}{b:SM}{r:Ro}(Pv:Nat->Ro->Prop)(Q:Dt->Prop)(h:Pv 0 r)(hs:∀k,k<n->∀r,Pv k r->eiR (b (r.set j (some (.int (k:Nat),0)))) (Pv (k+1)) Q):eiR (forGo (.one j) b (nums 0 n) r) (Pv n) Q:=by
 have go:∀(m k:Nat)(r:Ro),k+m=n->Pv k r->eiR (forGo (.one j) b ((qH3 k m).map fun i:Nat=>Dt.int (i:Int)) r) (Pv n) Q:=by
  intro m
  induction m with
  |zero=>intro k r hk hp;exact .inl ⟨r,rfl,by rw[<- hk];exact hp⟩
  |succ m ih=>
   intro k r hk hp;rw[qFh,qAd,forGo];show eiR (zA9 (b (r.set j (some (.int (k:Nat),0)))) _) _ _
   rcases hs k (by omega) r hp with⟨r',e,h'⟩|⟨d,e,hq⟩
   ·rw[e,zA2];exact ih (k+1) r' (by omega) h'
   ·rw[e,zA2];exact .inr ⟨d,rfl,hq⟩
 rw[zD4,qEn];exact go n 0 r (by omega) h
theorem zDX{a b:SM}{r:Ro}{P P':Ro->Prop}{Q:Dt->Prop}(h:eiR (a r) P Q)(hb:∀r',P r'->eiR (b r') P' Q):eiR (sSeq a b r) P' Q:=by
 unfold sSeq
 rcases h with⟨r',e,h'⟩|⟨d,e,hq⟩
 ·rw[e,zA2];exact hb r' h'
 ·rw[e,zA2];exact .inr ⟨d,rfl,hq⟩
theorem zMM{n:Nat}{a b:List Int}(h:RowN n a)(h':RowN n b)(hn:n<=1000):zED [rowD a,rowD b]=okR (rowD (addB a b)):=by
 rw[zPO h.1 h'.1];unfold zED zNM;have hc:eComp (iR1 (aCons (eBi lenD (aCons (eV 0) aNil)) aNil)) 1 (.one 2) Mi.tYes (eB xorD (eB ixD (eV 0) (eV 2)) (eB ixD (eV 1) (eV 2))) [some (rowD a),some (rowD b)]=okR (rowD ((qA1 n).map fun j=>(a.getD j 0+b.getD j 0)%2)):=by
  refine zF6 _ rfl (by omega) (zD6 (by simp[-qA0,h.1]) (by omega)) fun j hj=>?_
  have i1:=zPH a j (by rw[h.1];exact hj);have i2:=zPH b j (by rw[h'.1];exact hj);simp[-qA0,i1,i2,zPS (zBQ (k:=j) h) (zBQ (k:=j) h')]
 simp[hc]
theorem zPW(n i:Nat)(hn:n<=1000):zE6 [.int (n:Int),.int (i:Int)]=okR (rowD (zEJ n i)):=by
 unfold zE6 zJO;have hc:eComp (iR1 (aCons (eV 0) aNil)) 1 (.one 2) Mi.tYes (eIf (tB (eB eqD (eV 2) (eV 1))) (eC (.int 1)) (eC (.int 0))) [some (.int (n:Int)),some (.int (i:Int))]=okR (rowD (zEJ n i)):=by
  refine zF6 _ rfl (by omega) (zD6 (by simp) (by omega)) fun j hj=>?_
  by_cases h:j=i
  ·subst h;simp
  ·simp[h,show ¬(j:Int)=(i:Int) by omega]
 simp[hc]
theorem zM5{A:List (List Int)}{c t m:Nat}(hm:∀r∈A,RowN m r)(ht:t<A.length)(hc:c<=t)(hcm:c<m)(hz:m<=1000)(hA:A.length<=1000):zES [mat A,.int (c:Int),.int (t:Int)]=okR (mat (clr A c t)):=by
 have hlr:=hm _ (zAQ (d:=[]) ht);have hcomp:∀o2 o4:Option Dt,eComp (iSq (eV 0)) 1 (.one 5) Mi.tYes (eIf (tB (eB eqD (eB ixD (eV 5) (eV 1)) (eC (.int 1)))) (eCall zED (aCons (eV 5) (aCons (eV 3) aNil))) (eV 5)) [some (mat A),some (.int (c:Int)),o2,some (rowD (A.getD t [])),o4]=okR (mat (oth A c (A.getD t []))):=by
  intro o2 o4;refine qFk (zAZ (i:=5) rowD (fun r=>rowD (if r.getD c 0=1 then addB r (A.getD t [])else r)) A rfl rfl (fun r hr=>?_) _ (by simp[mat]) (by omega)) ?_
  ·have h1:=hm r hr;have i1:=zPH r c (by rw[h1.1];exact hcm);have a1:=zMM h1 hlr hz
   by_cases h:r.getD c 0=1
   ·rw[if_pos h];exact if1 (eqi (b2 rfl rfl i1) rfl (decide_eq_true h)) (c2 rfl rfl a1)
   ·rw[if_neg h];exact if0 (eqi (b2 rfl rfl i1) rfl (decide_eq_false h)) rfl
  ·unfold mat oth;rw[qAo];rfl
 have i0:=zRH A t ht;unfold zES zMK;refine zC3 rfl (zBN fun bb hb=>?_);simp[startO,i0];subst hb;refine zBN fun bb hb=>?_
 have fin:∀l0 l1 l2 l3,bb [some (mat A,l0),some (.int (c:Int),l1),some (.int (t:Int),l2),some (rowD (A.getD t []),l3),some (mat (oth A c (A.getD t [])),1)]=okR (.rt (mat (clr A c t))):=by
  intro l0 l1 l2 l3;subst hb;have hol:=zI3 A c (A.getD t []);have i1:itA ((oth A c (A.getD t [])).map rowD) (c:Int)=some (rowD ((oth A c (A.getD t [])).getD c [])):=zRH (oth A c (A.getD t [])) c (by omega);have q1:ixA (oth A c (A.getD t [])).length (t:Int)=some t:=by rw[zLR (by omega) (by omega)];simp
  refine zBN fun bb hb=>?_
  refine zBO (r:=[some (mat A,l0),some (.int (c:Int),l1),some (.int (t:Int),l2),some (rowD (A.getD t []),l3),some (mat ((oth A c (A.getD t [])).set t ((oth A c (A.getD t [])).getD c [])),1)]) ?_ ?_
  ·unfold sItemS;simp only[low,mat,qCw,qCx,qEv,qEw];simp[-qA0,i1,q1]
  subst hb;refine zBN fun bb hb=>?_
  have q2:ixA (oth A c (A.getD t [])).length (c:Int)=some c:=by rw[zLR (by omega) (by omega)];simp[-qA0]
  refine zBO (r:=[some (mat A,l0),some (.int (c:Int),l1),some (.int (t:Int),l2),some (rowD (A.getD t []),0),some (mat (clr A c t),1)]) ?_ ?_
  ·unfold sItemF;simp only[low,mat,qCw,qCx,qEv,qEw];simp[-qA0,q2,clr]
  subst hb;simp[sRetV]
 exact zE4 (hcomp _ _) (by simp;exact hcomp _ _) (fin _ _ _ _) (fin _ _ _ _)
def UnD(n:Nat)(T:List (List Int))(d:Dt):Prop:=
 (d=.non/\∃x,RowN n x/\Ker T x/\∃j,j<n/\x.getD j 0=1)\/∃R,d=mat R/\R.length=n/\(∀r∈R,RowN n r)/\∀u v,RowN n u->RowN n v->((∀i,i<n->(dot (T.getD i []) u+v.getD i 0)%2=0)↔∀i,i<n->(u.getD i 0+dot (R.getD i []) v)%2=0)
def UnS(n:Nat)(T:List (List Int))(c:Nat)(r:Ro):Prop:=∃A l0 l2 o3 o4,r=[some (mat T,l0),some (.int (n:Int),0),some (mat A,l2),o3,o4]/\Un n T A c
theorem zL3(n:Nat)(T:List (List Int))(hT:T.length=n)(hr:∀r∈T,RowN n r)(hn:n<=10):∃d,zDS [mat T]=okR d/\UnD n T d:=by
 suffices h:eiR (zIS [some (mat T,0),none,none,none,none]) (fun _=>False) (UnD n T) by
  rcases h with⟨_,_,z⟩|⟨d,h1,h2⟩
  ·exact z.elim
  ·exact⟨d,zC3 rfl h1,h2⟩
 have hlT:lenD [mat T]=some (.int (n:Int)):=by unfold mat;simp[hT]
 unfold zIS;refine zDX (P:=fun r=>r=[some (mat T,0),some (.int (n:Int),0),none,none,none]) (zGB (zBO (ss (bi1 rfl hlT) (qAp 0)) rfl)) ?_
 rintro r rfl
 refine zDX (P:=UnS n T 0) (zGB ?_) ?_
 ·have hc:∀o2 o3 o4:Option Dt,eComp (iR1 (aCons (eV 1) aNil)) 1 (.one 5) Mi.tYes (eB addD (eB ixD (eV 0) (eV 5)) (eCall zE6 (aCons (eV 1) (aCons (eV 5) aNil)))) [some (mat T),some (.int (n:Int)),o2,o3,o4]=okR (mat (aug n T)):=by
   intro o2 o3 o4;refine qFk (zEA (fun i=>rowD (T.getD i []++zEJ n i)) n rfl rfl (fun i hi=>?_) _ (zD6 (al0 rfl) (by omega)) (by omega)) ?_
   ·have i0:=zRH T i (by omega);have u0:=zPW n i (by omega);have a0:=addR (T.getD i []) (zEJ n i) (by rw[(hr _ (zAQ (by omega))).1,(zJT n i).1];omega);exact b2 (b2 rfl rfl i0) (c2 rfl rfl u0) a0
   ·unfold mat aug;rw[qAo];rfl
  exact zE4 (hc _ _ _) (hc _ _ _) ⟨aug n T,_,_,_,_,rfl,Un.start hT hr⟩ ⟨aug n T,_,_,_,_,rfl,Un.start hT hr⟩
 intro r hr0;refine zDX (P:=UnS n T n) ?_ ?_
 ·obtain⟨A,l0,l2,o3,o4,rfl,ha⟩:=hr0;rw[zJP];rw[zD6 (n:=n) (al0 rfl) (by omega),zA2];refine zaO (UnS n T) (UnD n T) ⟨A,l0,l2,o3,o4,rfl,ha⟩ ?_
  rintro c hc r ⟨A,l0,l2,o3,o4,rfl,ha⟩
  have hlA:=ha.len
  let ls:List Nat:=((qA1 (n-c)).map fun k=>c+k).filter fun t=>decide (ent A t c=1)
  have hls:∀o0 o4:Option Dt,eComp (iR2 (aCons (eV 3) (aCons (eV 1) aNil))) 1 (.one 5) (tB (eB eqD (eB ixD (eB ixD (eV 2) (eV 5)) (eV 3)) (eC (.int 1)))) (eV 5) [o0,some (.int (n:Int)),some (mat A),some (.int (c:Nat)),o4]=okR (.lst (ls.map fun t:Nat=>Dt.int (t:Int))):=by
   intro o0 o4;refine zBW (fun t:Nat=>Dt.int (t:Int)) _ (fun t=>decide (ent A t c=1)) ((qA1 (n-c)).map fun k=>c+k) rfl (fun t ht=>?_) (fun t ht _=>rfl) _ ?_ (by simp;omega)
   ·obtain⟨k,hk,rfl⟩:=qAa.mp ht;have hk':k<n-c:=by simpa using hk
    have i1:=zRH A (c+k) (by omega);have i2:=zPH (A.getD (c+k) []) c (by rw[(ha.rows _ (zAQ (by omega))).1];omega);exact eqi (b2 (b2 rfl rfl i1) rfl i2) rfl rfl
   ·unfold iR2;simp;rw[if_pos (by omega)];unfold nums
    congr 2
  refine zDX (P:=fun r=>∃l0 l2 o4,r=[some (mat T,l0),some (.int (n:Int),0),some (mat A,l2),some (.int (c:Nat),0),some (.lst (ls.map fun t:Nat=>Dt.int (t:Int)),o4)]) (zGB ?_) ?_
  ·exact zE4 (hls _ _) (hls _ _) ⟨_,_,_,rfl⟩ ⟨_,_,_,rfl⟩
  rintro r ⟨l0,l2,l4,rfl⟩
  cases hlz:ls with
  |nil=>
   refine .inr ⟨.non,zUF ?_,.inl ⟨rfl,ha.none hT hr hc fun t h1 h2 h3=>?_⟩⟩
   ·simp
   ·have:t∈ls:=qAs.mpr ⟨qAa.mpr ⟨t-c,by simp;omega,by omega⟩,by simpa using h3⟩
    rw[hlz]at this;simp at this
  |cons t l=>
   have ht:t∈ls:=by rw[hlz];simp
   obtain⟨g1,g2⟩:=qAs.mp ht;obtain⟨k,g3,rfl⟩:=qAa.mp g1;have g4:k<n-c:=by simpa using g3
   have g5:ent A (c+k) c=1:=by simpa using g2
   refine zDX (P:=fun r=>r=[some (mat T,l0),some (.int (n:Int),0),some (mat A,l2),some (.int (c:Nat),0),some (.lst (((c+k)::l).map fun t:Nat=>Dt.int (t:Int)),l4)]) (zGB (by simp)) ?_
   rintro r rfl
   clear hls;have i0:ixD (.lst (((c+k)::l).map fun t:Nat=>Dt.int (t:Int))) (.int 0)=some (.int ((c+k:Nat):Int)):=zDA (i:=0) rfl (by simp);have cl:=zM5 (A:=A) (c:=c) (t:=c+k) ha.rows (by omega) (by omega) (by omega) (by omega) (by omega)
   generalize Dt.lst (((c+k)::l).map fun t:Nat=>Dt.int (t:Int))=L at i0
   have he:∀o0 o1:Option Dt,eCall zES (aCons (eV 2) (aCons (eV 3) (aCons (eB ixD (eV 4) (eC (.int 0))) aNil))) [o0,o1,some (mat A),some (.int (c:Nat)),some L]=okR (mat (clr A c (c+k))):=by
    intro o0 o1;exact c3 rfl rfl (b2 rfl rfl i0) cl
   exact zGB (zE4 (he _ _) (c3 rfl rfl (b2 rfl rfl i0) cl) ⟨_,_,_,_,_,rfl,ha.step hc (by omega) (by omega) g5⟩ ⟨_,_,_,_,_,rfl,ha.step hc (by omega) (by omega) g5⟩)
 ·rintro r ⟨A,l0,l2,o3,o4,rfl,ha⟩
  have hlA:=ha.len;have hc:∀o0 o3 o4:Option Dt,eComp (iSq (eV 2)) 1 (.one 5) Mi.tYes (eSl (eV 5) (oE (eV 1)) oNo) [o0,some (.int (n:Int)),some (mat A),o3,o4]=okR (mat (A.map (qEu n))):=by
   intro o0 o3 o4;refine qFk (zAZ (i:=5) rowD (fun r=>rowD (r.drop n)) A rfl rfl (fun r hrA=>?_) _ (by simp[mat]) (by omega)) ?_
   ·exact sl1 rfl rfl (by rw[zIO,zKQ])
   ·unfold mat;rw[qAo];rfl
  have hd:=zC1 (A.map (qEu n));refine .inr ⟨mat (A.map (qEu n)),?_,.inr ⟨_,rfl,by simp[hlA],fun r hrA=>?_,fun u v hu hv=>ha.full hT hr hu hv⟩⟩
  ·simp[hc,hd]
  ·obtain⟨q,hq,rfl⟩:=qAa.mp hrA;have h1:=ha.rows q hq;exact⟨by rw[qFe,h1.1];omega,fun x hx=>h1.2 x (qEo hx)⟩
theorem zM1{ρ:Rh}{e:EM}{i j:Nat}(xs:List Dt)(g:Nat->Dt)(hi:i=ρ.length)(hj:j=ρ.length+1)(it:IM)(hit:it ρ=okR (enumD 0 xs))(hn:xs.length<=100000)(h:∀k x,xs[k]?=some x->e (ρ++[some (.int (k:Nat)),some x])=okR (g k)):eComp it 2 (.tup [i,j]) tYes e ρ=okR (.lst ((qA1 xs.length).map g)):=by
 subst hi hj;unfold eComp;rw[hit,zA2,if_pos ⟨by rw[zKK];exact hn,by simp[Tg.idx]⟩];have go:∀(m k:Nat)(acc:List Dt),k+m=xs.length->compGo ρ 2 (.tup [ρ.length,ρ.length+1]) tYes e (enumD k (xs.drop k)) acc=okR (acc++(qH3 k m).map g):=by
  intro m
  induction m with
  |zero=>
   intro k acc hk;rw[List.drop_of_length_le (by omega)];simp[enumD,compGo]
  |succ m ih=>
   intro k acc hk;have hx:xs[k]?=some xs[k]:=qA8 (by omega);rw[qBt (by omega),enumD,compGo];have es:zB6 (ρ++qA6 2 none) [(ρ.length,.int (k:Nat)),(ρ.length+1,xs[k])]=ρ++[some (.int (k:Nat)),some xs[k]]:=by
    simp[zB6]
   show zA9 (tYes (zB6 (ρ++qA6 2 none) [(ρ.length,.int (k:Nat)),(ρ.length+1,xs[k])])) _=_;rw[es];show zA9 (okR true) _=_;rw[zA2,if_pos rfl];show zA9 (e (zB6 (ρ++qA6 2 none) [(ρ.length,.int (k:Nat)),(ρ.length+1,xs[k])])) _=_;rw[es,h k _ hx,zA2,ih (k+1) _ (by omega),qFh];simp
 have:=go xs.length 0 [] (by omega)
 rw[qD7]at this;rw[this,zA2,qEn];simp
noncomputable def rowF(i j:Nat)(f:Nat->Nat->Int):Nat->Nat->Int:=fun a b=>if a=j then(f a b+f i b)%2 else f a b
noncomputable def colF(i j:Nat)(f:Nat->Nat->Int):Nat->Nat->Int:=fun a b=>if b=j then(f a j+f a i)%2 else f a b
theorem zVR{n j:Nat}{g:Nat->Int}{v:Int}(hj:j<n):(((qA1 n).map g).map Dt.int).set j (.int v)=((qA1 n).map fun b=>if b=j then v else g b).map Dt.int:=by
 apply qD3
 intro y;rw[qD4]
 by_cases hy:j=y
 ·subst hy;simp[hj]
 ·rw[if_neg hy]
  by_cases h:y<n
  ·simp[h,show ¬y=j by omega]
  ·simp[h]
theorem zHY{ρ:Rh}{r:Nat}{e1 e2:EM}(f g:Nat->Dt):∀l:List Nat,(∀a∈l,rowSet ρ r e1 e2 (f a)=some (g a))->rowsSet ρ r e1 e2 (l.map f)=some (l.map g)
 |[],_=>rfl
 |a::l,h=>by
  rw[qAd,rowsSet,h a (by simp)];dsimp only;rw[zHY f g l fun b hb=>h b (by simp[hb])];rfl
theorem zQK{ρ:Rh}{r p:Nat}{e1 e2:EM}{ds:List Dt}{v z:Int}(h2:e2 (ρ.set r (some (.lst ds)))=okR (.int v))(h1:e1 (ρ.set r (some (.lst ds)))=okR (.int z))(hp:ixA ds.length z=some p):rowSet ρ r e1 e2 (.lst ds)=some (.lst (ds.set p (.int v))):=by
 unfold rowSet;dsimp only;rw[h2,h1]
 show(match ixA ds.length z with|some p=>some (Dt.lst (ds.set p (.int v)))|none=>none)=_
 rw[hp]
theorem zPD(n:Nat)(f:Nat->Nat->Int)(c:Int)(h1:1<n)(hn:n<=10):∃i j,i<n/\j<n/\i≠j/\zCV [mat (tab n f),.int c]=okR (mat (tab n (colF i j (rowF i j f)))):=by
 have hnp:(0:Int)<(n:Int):=by omega
 have hn1:(0:Int)<(n:Int)-1:=by omega
 obtain⟨i,hi⟩:∃i:Nat,c%(n:Int)=(i:Int):=⟨(c%(n:Int)).toNat,by have:=qC9 c (show(n:Int)≠0 by omega);omega⟩
 have hin:i<n:=by have:=qC3 c hnp;omega
 obtain⟨m,hm⟩:∃m:Nat,c/(n:Int)%((n:Int)-1)=(m:Int):=⟨(c/(n:Int)%((n:Int)-1)).toNat,by have:=qC9 (c/(n:Int)) (show(n:Int)-1≠0 by omega);omega⟩
 have hmn:(m:Int)<(n:Int)-1:=by have:=qC3 (c/(n:Int)) hn1;omega
 obtain⟨j,hj⟩:∃j:Nat,((i:Int)+1+(m:Int))%(n:Int)=(j:Int):=⟨(((i:Int)+1+(m:Int))%(n:Int)).toNat,by have:=qC9 ((i:Int)+1+(m:Int)) (show(n:Int)≠0 by omega);omega⟩
 have hjn:j<n:=by have:=qC3 ((i:Int)+1+(m:Int)) hnp;omega
 have hij:i≠j:=by
  intro z;subst z;have e:=Int.mul_ediv_add_emod ((i:Int)+1+(m:Int)) (n:Int);rw[hj]at e
  generalize hq:((i:Int)+1+(m:Int))/(n:Int)=q at e
  have h2:(n:Int)*q=1+m:=by omega
  have h3:0<q:=by
   by_cases h:0<q
   ·exact h
   ·have:=qG7 (show(0:Int)<=(n:Int) by omega) (show 0<=-q by omega)
    rw[Int.mul_neg]at this;omega
  have h4:(n:Int)*1<=(n:Int)*q:=Int.mul_le_mul_of_nonneg_left (by omega) (by omega);omega
 refine⟨i,j,hin,hjn,hij,?_⟩;unfold zCV zEY;refine zC3 rfl (zBN fun bb hb=>?_);simp[startO,zBY];subst hb;refine zBN fun bb hb=>?_
 simp[show 0<n by omega,hi];subst hb;refine zBN fun bb hb=>?_
 have d1:divD (.int c) (.int (n:Int))=some (.int (c/(n:Int))):=by simp[hnp,show(n:Int)<1000000000000000000000000 by omega];omega
 have d2:modD (.int (c/(n:Int))) (.int ((n:Int)-1))=some (.int (m:Int)):=by simp[hn1,hm];omega
 have d3:modD (.int ((i:Int)+1+(m:Int))) (.int (n:Int))=some (.int (j:Int)):=by simp[show 0<n by omega,hj]
 simp only[zHO,x_eB,x_eV,x_eC,zMP,zP0,qCw,qCx,qFr,Option.map_none,zA2];simp only[d1,d2,zAH,zA2,za0,za2,d3];simp;subst hb;refine zBN fun bb hb=>?_
 have hc:eComp (iEn (aCons (eV 0) aNil)) 2 (.tup [6,7]) Mi.tYes (eIf (tB (eB eqD (eV 6) (eV 4))) (eCall zCR (aCons (eV 7) (aCons (eB ixD (eV 0) (eV 3)) aNil))) (eBi listD (aCons (eV 7) aNil))) [some (mat (tab n f)),some (.int c),some (.int (n:Int)),some (.int (i:Int)),some (.int (j:Int)),none]=okR (mat (tab n (rowF i j f))):=by
  refine qFk (zM1 ((tab n f).map rowD) (fun a=>rowD ((qA1 n).map fun b=>rowF i j f a b)) rfl rfl _ (by simp[mat]) (by simp[zBY];omega) fun k x hx=>?_) ?_
  ·have hk:k<n:=by have:=(qA3.mp hx).1;simpa[zBY]using this
   rw[qAk,zFM hk]at hx;cases hx;have i0:=ixM (f:=f) hin;have a0:=zG4 n (fun b=>f k b) (fun b=>f i b) hn
   by_cases h:k=j
   ·subst h;simp[i0,a0,rowF]
   ·simp[h,show ¬(k:Int)=(j:Int) by omega,rowF]
  ·rw[qAl,zBY];unfold mat tab;rw[qAo];rfl
 have hd:=zC1 (tab n (rowF i j f));rw[zHO];show nxR (zA9 (eComp _ _ _ _ _ [some (mat (tab n f)),some (.int c),some (.int (n:Int)),some (.int (i:Int)),some (.int (j:Int)),none]) _) _;rw[hc,zA2,if_pos hd];subst hb;show sSeq _ _ [some (mat (tab n (rowF i j f)),2),some (.int c,0),some (.int (n:Int),0),some (.int (i:Int),0),some (.int (j:Int),0),none]=_;refine zBN fun bb hb=>?_
 refine zBO (r:=[some (mat (tab n (colF i j (rowF i j f))),2),some (.int c,0),some (.int (n:Int),0),some (.int (i:Int),0),some (.int (j:Int),0),none]) ?_ ?_
 ·generalize rowF i j f=g
  have hrs:=zHY (ρ:=[none,some (.int c),some (.int (n:Int)),some (.int (i:Int)),some (.int (j:Int)),none]) (r:=5) (e1:=eV 4) (e2:=eB modD (eB addD (eB ixD (eV 5) (eV 4)) (eB ixD (eV 5) (eV 3))) (eC (.int 2))) (fun a=>rowD ((qA1 n).map fun b=>g a b)) (fun a=>rowD ((qA1 n).map fun b=>colF i j g a b)) (qA1 n) fun a _=>by
   have i1:=ixR (g:=fun b=>g a b) hjn;have i2:=ixR (g:=fun b=>g a b) hin;have hr:rowD ((qA1 n).map fun b=>g a b)=.lst (((qA1 n).map fun b=>g a b).map Dt.int):=rfl;have e2:eB modD (eB addD (eB ixD (eV 5) (eV 4)) (eB ixD (eV 5) (eV 3))) (eC (.int 2)) [none,some (.int c),some (.int (n:Int)),some (.int (i:Int)),some (.int (j:Int)),some (rowD ((qA1 n).map fun b=>g a b))]=okR (.int ((g a j+g a i)%2)):=by
    simp[i1,i2]
   have q1:ixA (((qA1 n).map fun b=>g a b).map Dt.int).length (j:Int)=some j:=by rw[zLR (by omega) (by simp;omega)];simp
   have:=zQK (ρ:=[none,some (.int c),some (.int (n:Int)),some (.int (i:Int)),some (.int (j:Int)),none]) (r:=5) (e1:=eV 4) (ds:=((qA1 n).map fun b=>g a b).map Dt.int) (z:=(j:Int)) e2 (by simp) q1
   rw[zVR hjn]at this;exact this
  unfold sForSet
  show(match rowsSet [none,some (.int c),some (.int (n:Int)),some (.int (i:Int)),some (.int (j:Int)),none] 5 (eV 4) (eB modD (eB addD (eB ixD (eV 5) (eV 4)) (eB ixD (eV 5) (eV 3))) (eC (.int 2))) ((tab n g).map rowD)with|some rs'=>_|none=>_)=_
  have ht:((tab n g).map rowD)=(qA1 n).map fun a=>rowD ((qA1 n).map fun b=>g a b):=by unfold tab;rw[qAo];rfl
  have ht2:mat (tab n (colF i j g))=.lst ((qA1 n).map fun a=>rowD ((qA1 n).map fun b=>colF i j g a b)):=by unfold mat tab;rw[qAo];rfl
  rw[ht,hrs];simp[ht2]
 subst hb;simp[sRetV]
theorem zE8{n:Nat}{g:Nat->Int}{x:List Int}(hx:x.length=n):dot ((qA1 n).map g) x=sumN n fun k=>g k*x.getD k 0:=by
 rw[zEF _ x n (by omega)];unfold sumN
 congr 1
 refine qAq fun k hk=>?_
 rw[zAL (by simpa using hk)]
def NS(n:Nat)(f:Nat->Nat->Int):Prop:=∀x,RowN n x->(∀a,a<n->sumN n (fun b=>f a b*x.getD b 0)%2=0)->∀j,x.getD j 0=0
theorem zAY{n:Nat}{f g:Nat->Int}(h:∀k,k<n->f k=g k):sumN n f=sumN n g:=by
 unfold sumN
 congr 1
 exact qAq fun k hk=>h k (by simpa using hk)
theorem zJU{n i:Nat}{f g:Nat->Int}(hi:i<n)(h:∀k,k<n->k≠i->f k=g k):sumN n f=sumN n g+(f i-g i):=by
 induction n with
 |zero=>omega
 |succ n ih=>
  rw[zB7,zB7]
  by_cases z:i=n
  ·subst z;rw[zAY fun k hk=>h k (by omega) (by omega)];omega
  ·rw[ih (by omega) fun k hk=>h k (by omega),h n (by omega) (fun y=>z y.symm)];omega
theorem zQ6{n:Nat}{f g h:Nat->Int}(e:∀k,k<n->f k%2=(g k+h k)%2):sumN n f%2=(sumN n g+sumN n h)%2:=by
 induction n with
 |zero=>rfl
 |succ n ih=>
  rw[zB7,zB7,zB7];have h1:=ih fun k hk=>e k (by omega)
  have h2:=e n (by omega);omega
theorem zTE{n i j:Nat}{f:Nat->Nat->Int}(hb:Bits n f)(hi:i<n):Bits n (colF i j (rowF i j f)):=by
 have hr:Bits n (rowF i j f):=fun a b ha hb'=>by
  unfold rowF
  split
  ·exact zKV _
  ·exact hb a b ha hb'
 intro a b ha hb';unfold colF
 split
 ·exact zKV _
 ·exact hr a b ha hb'
theorem zWG{n i j:Nat}{f:Nat->Nat->Int}(hs:Sym n f)(hi:i<n)(hj:j<n)(hij:i≠j):Sym n (colF i j (rowF i j f)):=by
 intro a b ha hb;unfold colF rowF
 by_cases h1:a=j
 ·by_cases h2:b=j
  ·rw[h1,h2]
  ·subst h1;simp[h2,hij];rw[hs a b ha hb,hs i b hi hb]
 ·by_cases h2:b=j
  ·subst h2;simp[h1,hij];rw[hs a b ha hb,hs a i ha hi]
  ·simp[h1,h2];exact hs a b ha hb
structure BI(n p:Nat)(fl:Bool)(f:Nat->Nat->Int):Prop where
 le:p<=n
 bits:Bits n f
 sym:Sym n f
 out:∀a b,a<n->b<n->p<=a\/p<=b->f a b=0
 ns:fl=true->∀x,RowN n x->(∀a,a<p->sumN n (fun b=>f a b*x.getD b 0)%2=0)->∀b,b<p->x.getD b 0=0
noncomputable def put1(p q:Nat)(f:Nat->Nat->Int):Nat->Nat->Int:=fun x y=>if x=p/\y=q then 1 else f x y
noncomputable def allv:Nat->List (List Int)
 |0=>[[]]
 |n+1=>(allv n).map (qH9 0)++(allv n).map (qH9 1)
theorem zOX:∀n,(allv n).length=2 ^ n
 |0=>rfl
 |n+1=>by simp[allv,zOX n];omega
theorem zEQ{α β:Type}{l:List α}{f:α->β}(h:l.Nodup)(hi:∀x∈l,∀y∈l,f x=f y->x=y):(l.map f).Nodup:=by
 unfold List.Nodup;rw[qD5];exact qGo (fun{a b} ha hb hab z=>hab (hi a ha b hb z)) h
theorem zGX:∀n,(allv n).Nodup
 |0=>by simp[allv]
 |n+1=>by
  have ih:=zGX n;rw[allv,qDy];refine⟨zEQ ih fun x _ y _ h=>by simpa using h,zEQ ih fun x _ y _ h=>by simpa using h,fun a ha b hb=>?_⟩;obtain⟨x,_,rfl⟩:=qAa.mp ha;obtain⟨y,_,rfl⟩:=qAa.mp hb;simp
theorem allv_mem:∀{n:Nat}{x:List Int},x∈allv n↔RowN n x
 |0,x=>by
  simp only[allv,qAm];constructor
  ·rintro rfl;exact⟨rfl,fun y hy=>by simp at hy⟩
  ·rintro⟨h,_⟩;exact qBz h
 |n+1,x=>by
  rw[allv,qAv];constructor
  ·rintro(h|h)
   all_goals
    obtain⟨y,hy,rfl⟩:=qAa.mp h
    have:=allv_mem.mp hy
    refine⟨by simp[this.1],fun z hz=>?_⟩
    rcases qA9.mp hz with rfl|hz
    ·simp[Bit]
    ·exact this.2 z hz
  ·rintro⟨h1,h2⟩
   cases x with
   |nil=>simp at h1
   |cons a r=>
    have hr:r∈allv n:=allv_mem.mpr ⟨by simpa using h1,fun z hz=>h2 z (by simp[hz])⟩
    rcases h2 a (by simp)with rfl|rfl
    ·exact .inl (qAa.mpr ⟨r,hr,rfl⟩)
    ·exact .inr (qAa.mpr ⟨r,hr,rfl⟩)
theorem zI7{α:Type}[DecidableEq α]:∀(l1 l2:List α),l1.Nodup->(∀x∈l1,x∈l2)->l1.length<=l2.length
 |[],_,_,_=>by simp
 |a::r,l2,h,hs=>by
  have ha:=hs a (by simp);rw[qB9]at h
  have:=zI7 r (l2.erase a) h.2 fun x hx=>(List.mem_erase_of_ne (fun z:x=a=>h.1 (by rw[<- z];exact hx))).mpr (hs x (by simp[hx]))
  rw[List.length_erase_of_mem ha]at this
  have:=List.length_pos_of_mem ha
  simp;omega
noncomputable def cnt(n:Nat)(P:List Int->Prop):Nat:=by
 classical exact((allv n).filter fun x=>decide (P x)).length
theorem zNJ(n:Nat):cnt n (fun _=>True)=2 ^ n:=by
 unfold cnt;rw[List.filter_eq_self.mpr (by simp),zOX]
theorem zCX{n:Nat}{P Q:List Int->Prop}(h:∀x,RowN n x->(P x↔Q x)):cnt n P=cnt n Q:=by
 unfold cnt
 congr 1
 refine qE0 fun x hx=>?_
 have:=h x (allv_mem.mp hx)
 simp[this]
theorem zM4{n:Nat}{P Q:List Int->Prop}(f:List Int->List Int)(hf:∀x,RowN n x->P x->RowN n (f x)/\Q (f x))(hi:∀x y,RowN n x->RowN n y->f x=f y->x=y):cnt n P<=cnt n Q:=by
 classical
 unfold cnt;have h1:(((allv n).filter fun x=>decide (P x)).map f).Nodup:=zEQ ((zGX n).filter _) fun x hx y hy=>hi x y (allv_mem.mp (qAs.mp hx).1) (allv_mem.mp (qAs.mp hy).1)
 have h2:=zI7 _ ((allv n).filter fun x=>decide (Q x)) h1 fun z hz=>by
  obtain⟨x,hx,rfl⟩:=qAa.mp hz;obtain⟨g1,g2⟩:=qAs.mp hx;obtain⟨k1,k2⟩:=hf x (allv_mem.mp g1) (by simpa using g2);exact qAs.mpr ⟨allv_mem.mpr k1,by simpa using k2⟩
 rw[qAl]at h2;exact h2
theorem zIP{n:Nat}(P E:List Int->Prop):cnt n P=cnt n (fun x=>P x/\E x)+cnt n (fun x=>P x/\¬E x):=by
 classical
 unfold cnt
 generalize allv n=l
 induction l with
 |nil=>simp
 |cons a r ih=>
  simp only[qE7]
  by_cases h1:P a
  ·by_cases h2:E a
   ·simp[h1,h2,ih];omega
   ·simp[h1,h2,ih];omega
  ·simp[h1,ih]
noncomputable def flp(p:Nat)(x:List Int):List Int:=x.set p (1-x.getD p 0)
theorem zKJ{n p:Nat}{x:List Int}(h:RowN n x):RowN n (flp p x):=zVV h (by rcases zBQ (k:=p) h with z|z<;>rw[z]<;>simp[Bit])
theorem zGO{n p:Nat}{x:List Int}(h:RowN n x)(hp:p<n)(k:Nat):(flp p x).getD k 0=if p=k then 1-x.getD p 0 else x.getD k 0:=zKE (by rw[h.1];exact hp)
theorem zMX{n:Nat}{x y:List Int}(hx:x.length=n)(hy:y.length=n)(h:∀k,k<n->x.getD k 0=y.getD k 0):x=y:=by
 rw[zFS hx,zFS hy];exact qAq fun k hk=>h k (by simpa using hk)
theorem zRS{n p:Nat}(hp:p<n){x y:List Int}(hx:RowN n x)(hy:RowN n y)(h:flp p x=flp p y):x=y:=by
 refine zMX hx.1 hy.1 fun k hk=>?_
 have e:(flp p x).getD k 0=(flp p y).getD k 0:=by rw[h]
 rw[zGO hx hp,zGO hy hp]at e
 by_cases z:p=k
 ·subst z;rw[if_pos rfl,if_pos rfl]at e;omega
 ·rw[if_neg z,if_neg z]at e;exact e
theorem zOS{n p:Nat}(hp:p<n)(P E:List Int->Prop)(h1:∀x,RowN n x->P x->P (flp p x))(h2:∀x,RowN n x->(E (flp p x)↔¬E x)):cnt n P=2*cnt n (fun x=>P x/\E x):=by
 have a:=zIP (n:=n) P E;have b:cnt n (fun x=>P x/\E x)<=cnt n (fun x=>P x/\¬E x):=zM4 (flp p) (fun x hx h=>⟨zKJ hx,h1 x hx h.1,fun z=>(h2 x hx).mp z h.2⟩) fun x y hx hy=>zRS hp hx hy
 have c:cnt n (fun x=>P x/\¬E x)<=cnt n (fun x=>P x/\E x):=zM4 (flp p) (fun x hx h=>⟨zKJ hx,h1 x hx h.1,(h2 x hx).mpr h.2⟩) fun x y hx hy=>zRS hp hx hy
 omega
def Ev(n:Nat)(g:Nat->Int)(x:List Int):Prop:=sumN n (fun k=>g k*x.getD k 0)%2=0
theorem zUZ{n p:Nat}{g:Nat->Int}{x:List Int}(h:RowN n x)(hp:p<n):sumN n (fun k=>g k*(flp p x).getD k 0)=sumN n (fun k=>g k*x.getD k 0)+g p*(1-2*x.getD p 0):=by
 rw[zJU (f:=fun k=>g k*(flp p x).getD k 0) (g:=fun k=>g k*x.getD k 0) hp fun k _ hk=>by rw[zGO h hp,if_neg (fun z=>hk z.symm)],zGO h hp,if_pos rfl,<- Int.mul_sub]
 congr 2
 omega
theorem zWZ{n p:Nat}{g:Nat->Int}{x:List Int}(h:RowN n x)(hp:p<n)(hg:g p=0):Ev n g (flp p x)↔Ev n g x:=by
 unfold Ev;rw[zUZ h hp,hg];simp
theorem zWY{n p:Nat}{g:Nat->Int}{x:List Int}(h:RowN n x)(hp:p<n)(hg:g p=1):Ev n g (flp p x)↔¬Ev n g x:=by
 unfold Ev;rw[zUZ h hp,hg];omega
noncomputable def Led(n:Nat):List (List Int)->Prop
 |[]=>True
 |l::r=>(∃p,p<n/\l.getD p 0=1/\∀s∈r,s.getD p 0=0)/\Led n r
theorem zG9{n:Nat}{r x:List Int}(hx:RowN n x):dot r x%2=0↔Ev n (fun k=>r.getD k 0) x:=by
 unfold Ev;rw[zEF r x n (by rw[hx.1];exact qA7 _)]
theorem zNI{n:Nat}:∀(ls:List (List Int)),Led n ls->cnt n (Ker ls)*2 ^ ls.length=2 ^ n
 |[],_=>by
  rw[zCX (Q:=fun _=>True) fun x _=>⟨fun _=>trivial,fun _ r hr=>by simp at hr⟩,zNJ];simp
 |l::r,h=>by
  obtain⟨⟨p,hp,h1,h0⟩,h2⟩:=h;have ih:=zNI r h2;have hh:=zOS hp (Ker r) (fun x=>dot l x%2=0) (fun x hx hk s hs=>(zG9 (zKJ hx)).mpr ((zWZ hx hp (h0 s hs)).mpr ((zG9 hx).mp (hk s hs)))) fun x hx=>by
   rw[zG9 (zKJ hx),zG9 hx];exact zWY hx hp h1
  have hc:cnt n (Ker (l::r))=cnt n (fun x=>Ker r x/\dot l x%2=0):=zCX fun x _=>⟨fun h=>⟨fun s hs=>h s (by simp[hs]),h l (by simp)⟩,fun h s hs=>(qA9.mp hs).elim (fun z=>z▸h.2) (h.1 s)⟩
  rw[hc,qAw,qFc,<- ih,hh];rw[qD9 (2 ^ r.length) 2,<- qEx,qD9 _ 2]
structure BC(n p q:Nat)(f:Nat->Nat->Int):Prop where
 out:∀a b,a<n->b<n->p<=a\/p<=b->f a b=0
 num:cnt n (fun x=>∀a,a<p->Ev n (f a) x)*2 ^ p=2 ^ (n+q)
theorem zWW{n:Nat}{g:Nat->Int}{x:List Int}(h:∀k,k<n->g k=0):Ev n g x:=by
 unfold Ev;rw[zBF fun k hk=>by rw[h k hk];simp];rfl
def KerF(n:Nat)(f:Nat->Nat->Int)(x:List Int):Prop:=∀a,a<n->Ev n (f a) x
section
variable{n i j:Nat}{f:Nat->Nat->Int}(hb:Bits n f)(hi:i<n)(hj:j<n)(hij:i≠j)
include hi in
include hi hij in
include hb hi hj hij in
include hb hi hj hij in
end
end Mp
namespace Mp
open Mi PySem
noncomputable def frz0(o:Option Sl):Option Dt:=match o with
 |some (d,n)=>if n=0\/d.dep=0 then some d else none
 |none=>none
noncomputable def zWC(i:Nat)(r:Ro):Nat:=match r[i]? with
 |some (some (.int z,_))=>z.toNat
 |_=>0
noncomputable def zCB(i j:Nat):Int:=if i=j then 1 else 0
theorem zQJ(n:Nat)(hn:n<=10):zEE [.int (n:Int)]=okR (mat (tab n zCB)):=by
 unfold zEE zIW;have hc:eComp (iR1 (aCons (eV 0) aNil)) 1 (.one 1) Mi.tYes (eComp (iR1 (aCons (eV 0) aNil)) 1 (.one 2) Mi.tYes (eBi intD (aCons (eB eqD (eV 1) (eV 2)) aNil))) [some (.int (n:Int))]=okR (mat (tab n zCB)):=by
  refine zHM _ rfl rfl (by omega) (zD6 (by simp) (by omega)) (fun a=>zD6 (by simp) (by omega)) fun a b ha hb=>?_
  by_cases h:a=b
  ·subst h;simp[intD,zCB]
  ·simp[intD,zCB,h,show ¬(a:Int)=(b:Int) by omega]
 have hd:=zC1 (tab n zCB);simp[startO,hc,hd]
theorem zO1{n:Nat}{R:List (List Int)}(h:R.length=n)(hr:∀r∈R,RowN n r):R=tab n (ent R):=by
 apply qC1
 ·simp[h,tab]
 ·intro i h1 h2;have e1:R[i]=R.getD i []:=by simp[qA0,qA8 h1]
  have e2:=hr R[i] (qC0 h1);rw[e1]at e2 ⊢;rw[zFS e2.1];simp[tab,ent]
theorem zEK{n i:Nat}{f:Nat->Nat->Int}(h:i<n):(tab n f).getD i []=(qA1 n).map fun j=>f i j:=by
 rw[qA0,zFM h];rfl
theorem zKD{n:Nat}{f:Nat->Nat->Int}{x:List Int}(hx:x.length=n):Ker (tab n f) x↔∀a,a<n->sumN n (fun b=>f a b*x.getD b 0)%2=0:=by
 constructor
 ·intro h a ha
  have:=h _ (zAQ (d:=[]) (i:=a) (by rw[zBY];exact ha))
  rw[zEK ha,zE8 hx]at this;exact this
 ·intro h r hr;obtain⟨i,hi,rfl⟩:=zF4 (d:=[]) hr;rw[zBY]at hi;rw[zEK hi,zE8 hx];exact h i hi
theorem zRX{n j:Nat}{r:List Int}(hj:j<n):dot r (zEJ n j)=r.getD j 0:=by
 rw[zEF _ _ n (by simp[zEJ]),zCS hj fun k hk hkj=>?_]
 ·rw[zEJ,zAL hj,if_pos rfl];simp
 ·rw[zEJ,zAL hk,if_neg hkj];simp
theorem zSN{n:Nat}{f:Nat->Nat->Int}{R:List (List Int)}(hb:Bits n f)(hl:R.length=n)(hr:∀r∈R,RowN n r)(h:∀u v,RowN n u->RowN n v->((∀i,i<n->(dot ((tab n f).getD i []) u+v.getD i 0)%2=0)↔∀i,i<n->(u.getD i 0+dot (R.getD i []) v)%2=0)) :
  ∀i j,i<n->j<n->prod n f (ent R) i j=zCB i j:=by
 intro i j hi hj
 let u:List Int:=(qA1 n).map fun k=>ent R k j
 have hu:RowN n u:=⟨by simp[u],fun x hx=>by
  obtain⟨k,hk,rfl⟩:=qAa.mp hx;exact zGR hr (by rw[hl];simpa using hk) hj⟩
 have gu:∀k,k<n->u.getD k 0=ent R k j:=fun k hk=>zAL hk
 have:=(h u (zEJ n j) hu (zJT n j)).mpr (fun k hk=>by
  rw[gu k hk,zRX hj]
  show(ent R k j+ent R k j)%2=0
  omega) i hi
 rw[zEK hi,zE8 hu.1,zEJ,zAL hi]at this;unfold prod zCB;rw[zAY (g:=fun k=>f i k*u.getD k 0) fun k hk=>by rw[gu k hk]]
 by_cases hij:i=j
 ·rw[if_pos hij]at this ⊢;omega
 ·rw[if_neg hij]at this ⊢;omega
theorem zXJ{n:Nat}{f:Nat->Nat->Int}{R:List (List Int)}(h:∀u v,RowN n u->RowN n v->((∀i,i<n->(dot ((tab n f).getD i []) u+v.getD i 0)%2=0)↔∀i,i<n->(u.getD i 0+dot (R.getD i []) v)%2=0)):NS n f:=by
 intro x hx hk j;have hz:RowN n (qA6 n 0):=⟨by simp,fun y hy=>.inl (List.eq_of_mem_replicate hy)⟩
 have gz:∀k,(qA6 n (0:Int)).getD k 0=0:=fun k=>by
  rw[qA0,qBa];split<;>rfl
 by_cases hj:j<n
 ·have:=(h x (qA6 n 0) hx hz).mp (fun i hi=>by
   rw[zEK hi,zE8 hx.1,gz]
   have:=hk i hi
   omega) j hj
  rw[zEF _ (qA6 n 0) n (by simp),zBF fun k _=>by rw[gz];simp]at this
  rcases zBQ (k:=j) hx with w|w
  ·exact w
  ·rw[w]at this;simp at this
 ·simp[qA0,qB6 (show x.length<=j by rw[hx.1];omega)]
noncomputable def fst1:List Int->Nat
 |[]=>0
 |a::r=>if a=1 then 0 else fst1 r+1
theorem zKF:∀{l:List Int},1∈l->fst1 l<l.length
 |a::r,h=>by
  unfold fst1
  split
  ·simp
  ·rename_i z
   have:=zKF (l:=r) ((qA9.mp h).elim (fun y=>absurd y.symm z) fun y=>y)
   simp;exact this
theorem zKG:∀{l:List Int},1∈l->l.getD (fst1 l) 0=1
 |a::r,h=>by
  unfold fst1
  split
  ·rename_i z;simp[z]
  ·rename_i z
   have:=zKG (l:=r) ((qA9.mp h).elim (fun y=>absurd y.symm z) fun y=>y)
   simpa using this
def red1(left l:List Int):List Int:=if left.getD (fst1 l) 0=1 then addB left l else left
def red(ls:List (List Int))(row:List Int):List Int:=ls.foldl red1 row
section
variable{n:Nat}
theorem zHG{a l:List Int}(ha:RowN n a)(hl:RowN n l):RowN n (red1 a l):=by
 unfold red1
 split
 ·exact zDK ha hl
 ·exact ha
theorem zK0:∀{ls:List (List Int)}{row:List Int},RowN n row->(∀l∈ls,RowN n l)->RowN n (red ls row)
 |[],row,h,_=>h
 |l::r,row,h,hl=>zK0 (ls:=r) (zHG h (hl l (by simp))) fun s hs=>hl s (by simp[hs])
theorem zQP{p:Nat}{a l:List Int}(ha:RowN n a)(hl:RowN n l)(hp:p<n)(h1:a.getD p 0=0)(h2:l.getD p 0=0):(red1 a l).getD p 0=0:=by
 unfold red1
 split
 ·rw[zCH a l p (by rw[ha.1,hl.1]) (by rw[ha.1];exact hp),h1,h2];rfl
 ·exact h1
theorem zO7{p:Nat}(hp:p<n):∀{ls:List (List Int)}{row:List Int},RowN n row->(∀l∈ls,RowN n l)->row.getD p 0=0->(∀l∈ls,l.getD p 0=0)->(red ls row).getD p 0=0
 |[],row,_,_,h,_=>h
 |l::r,row,h,hl,h1,h2=>zO7 hp (ls:=r) (zHG h (hl l (by simp))) (fun s hs=>hl s (by simp[hs])) (zQP h (hl l (by simp)) hp h1 (h2 l (by simp))) fun s hs=>h2 s (by simp[hs])
def Lds(ls:List (List Int)):Prop:=ls.Pairwise fun l s=>s.getD (fst1 l) 0=0
theorem zO6:∀{ls:List (List Int)}{row:List Int},RowN n row->(∀l∈ls,RowN n l/\1∈l)->Lds ls->∀l∈ls,(red ls row).getD (fst1 l) 0=0
 |[],row,_,_,_,l,h=>by simp at h
 |a::r,row,h,hl,hp,l,hm=>by
  unfold Lds at hp;rw[qBe]at hp;have ha:=hl a (by simp);have h1:=zHG h ha.1
  rcases qA9.mp hm with rfl|hm
  ·have hlt:fst1 l<n:=by rw[<- ha.1.1];exact zKF ha.2
   refine zO7 hlt (ls:=r) h1 (fun s hs=>(hl s (by simp[hs])).1) ?_ fun s hs=>hp.1 s hs
   unfold red1
   split
   ·rename_i z
    rw[zCH row l _ (by rw[h.1,ha.1.1]) (by rw[h.1];exact hlt),z,zKG ha.2];rfl
   ·rename_i z
    rcases zBQ (k:=fst1 l) h with w|w
    ·exact w
    ·exact absurd w z
  ·exact zO6 (ls:=r) h1 (fun s hs=>hl s (by simp[hs])) hp.2 l hm
theorem zK1{x:List Int}(hx:RowN n x):∀{ls:List (List Int)}{row:List Int},RowN n row->(∀l∈ls,RowN n l)->Ker ls x->dot (red ls row) x%2=dot row x%2
 |[],row,_,_,_=>rfl
 |l::r,row,h,hl,hk=>by
  have ha:=hl l (by simp);have ih:=zK1 hx (ls:=r) (zHG h ha) (fun s hs=>hl s (by simp[hs])) fun s hs=>hk s (by simp[hs])
  show dot (red r (red1 row l)) x%2=_;rw[ih];unfold red1
  split
  ·have:=hk l (by simp)
   rw[zKP row l x (by rw[h.1,ha.1]) hx.2];omega
  ·rfl
theorem zN8:∀{ls:List (List Int)},(∀l∈ls,RowN n l/\1∈l)->Lds ls->Led n ls
 |[],_,_=>trivial
 |l::r,hl,hp=>by
  unfold Lds at hp;rw[qBe]at hp;have ha:=hl l (by simp);exact⟨⟨fst1 l,by rw[<- ha.1.1];exact zKF ha.2,zKG ha.2,hp.1⟩,zN8 (fun s hs=>hl s (by simp[hs])) hp.2⟩
structure GP(n:Nat)(T ls:List (List Int))(k:Nat):Prop where
 rows:∀l∈ls,RowN n l/\1∈l
 lds:Lds ls
 le:ls.length<=k
 ker:∀x,RowN n x->(Ker ls x↔Ker (T.take k) x)
theorem GP.start(T:List (List Int)):GP n T [] 0:=⟨fun l h=>by simp at h,qCb,qA7 _,fun x _=>by simp[Ker]⟩
theorem zKC{T:List (List Int)}{k:Nat}{x:List Int}(hk:k<T.length):Ker (T.take (k+1)) x↔Ker (T.take k) x/\dot (T.getD k []) x%2=0:=by
 have e:T.take (k+1)=T.take k++[T.getD k []]:=by
  rw[qCy hk];simp[qA0,qA8 hk]
 rw[e];unfold Ker;constructor
 ·intro h;exact⟨fun r hr=>h r (qBh _ hr),h _ (qAt _ (by simp))⟩
 ·rintro⟨h1,h2⟩ r hr
  rcases qAv.mp hr with hr|hr
  ·exact h1 r hr
  ·rw[qAm.mp hr];exact h2
theorem GP.miss{T ls:List (List Int)}{k:Nat}(a:GP n T ls k)(hT:∀r∈T,RowN n r)(hk:k<T.length)(h:¬1∈red ls (T.getD k [])):GP n T ls (k+1):=by
 have hr:=hT _ (zAQ (d:=[]) hk);have hrr:RowN n (red ls (T.getD k [])):=zK0 hr fun l hl=>(a.rows l hl).1
 refine⟨a.rows,a.lds,by have:=a.le;omega,fun x hx=>?_⟩;rw[zKC hk,<- a.ker x hx];refine⟨fun hkr=>⟨hkr,?_⟩,fun z=>z.1⟩;rw[<- zK1 hx hr (fun l hl=>(a.rows l hl).1) hkr,zEF _ x n (by rw[hx.1];exact qA7 _),zBF fun j hj=>?_]
 ·rfl
 ·rcases zBQ (k:=j) hrr with w|w
  ·rw[w];simp
  ·exact absurd (by rw[<- w];exact zAQ (by rw[hrr.1];exact hj)) h
theorem GP.hit{T ls:List (List Int)}{k:Nat}(a:GP n T ls k)(hT:∀r∈T,RowN n r)(hk:k<T.length)(h:1∈red ls (T.getD k [])):GP n T (ls++[red ls (T.getD k [])]) (k+1):=by
 have hr:=hT _ (zAQ (d:=[]) hk);have hrr:RowN n (red ls (T.getD k [])):=zK0 hr fun l hl=>(a.rows l hl).1
 refine⟨fun l hl=>?_,?_,by have:=a.le;simp;omega,fun x hx=>?_⟩
 ·rcases qAv.mp hl with hl|hl
  ·exact a.rows l hl
  ·rw[qAm.mp hl];exact⟨hrr,h⟩
 ·unfold Lds;rw[qCe];refine⟨a.lds,by simp,fun l hl s hs=>?_⟩;rw[qAm.mp hs];exact zO6 hr a.rows a.lds l hl
 ·rw[zKC hk,<- a.ker x hx];constructor
  ·intro hkr;have h1:Ker ls x:=fun r hr=>hkr r (qBh _ hr)
   have h2:=hkr _ (qAt _ (qAm.mpr rfl));rw[zK1 hx hr (fun l hl=>(a.rows l hl).1) h1]at h2;exact⟨h1,h2⟩
  ·rintro⟨h1,h2⟩ r hrm
   rcases qAv.mp hrm with hrm|hrm
   ·exact h1 r hrm
   ·rw[qAm.mp hrm,zK1 hx hr (fun l hl=>(a.rows l hl).1) h1];exact h2
structure GK(n:Nat)(T:List (List Int))(ks:List Nat)(k:Nat):Prop where
 lt:∀j∈ks,j<k
 up:ks.Pairwise (· < ·)
 ker:∀x,RowN n x->(Ker (ks.map fun j=>T.getD j []) x↔Ker (T.take k) x)
theorem GK.start(T:List (List Int)):GK n T [] 0:=⟨fun j h=>by simp at h,qCb,fun x _=>by simp[Ker]⟩
theorem GK.miss{T ls:List (List Int)}{ks:List Nat}{k:Nat}(b:GK n T ks k)(a:GP n T ls k)(a':GP n T ls (k+1)):GK n T ks (k+1):=
 ⟨fun j hj=>by have:=b.lt j hj;omega,b.up,fun x hx=>by rw[b.ker x hx,<- a.ker x hx,a'.ker x hx]⟩
theorem GK.hit{T:List (List Int)}{ks:List Nat}{k:Nat}(b:GK n T ks k)(hk:k<T.length):GK n T (ks++[k]) (k+1):=by
 refine⟨fun j hj=>?_,?_,fun x hx=>?_⟩
 ·rcases qAv.mp hj with hj|hj
  ·have:=b.lt j hj;omega
  ·rw[qAm.mp hj];omega
 ·rw[qCe];refine⟨b.up,by simp,fun j hj s hs=>?_⟩;rw[qAm.mp hs];exact b.lt j hj
 ·rw[zKC hk,<- b.ker x hx,qCq];unfold Ker;constructor
  ·intro h;exact⟨fun r hr=>h r (qBh _ hr),h _ (qAt _ (by simp))⟩
  ·rintro⟨h1,h2⟩ r hr
   rcases qAv.mp hr with hr|hr
   ·exact h1 r hr
   ·rw[qAd,qGy,qAm]at hr;rw[hr];exact h2
end
end Mp
namespace Mp
open Mi PySem
theorem zOA:∀{l:List Int},1∈l->posI 1 l=some (fst1 l)
 |a::r,h=>by
  unfold posI fst1
  by_cases z:a=1
  ·simp[z]
  ·have:=zOA (l:=r) ((qA9.mp h).elim (fun y=>absurd y.symm z) fun y=>y)
   simp[z,this]
theorem zWJ{l:List Int}(h:1∈l):lixD (l.map Dt.int) [.int 1]=some (.int (fst1 l:Nat)):=by
 unfold lixD;dsimp only;rw[zDU];dsimp only;rw[zOA h];rfl
theorem zRC{n:Nat}{row:List Int}{ls:List (List Int)}(hr:RowN n row)(hl:∀l∈ls,RowN n l/\1∈l)(hn:n<=1000):zCO [rowD row,mat ls]=okR (rowD (red ls row)):=by
 unfold zCO zFH;refine zC3 rfl (zBN fun bb hb=>?_);simp[startO];subst hb;refine zBN fun bb hb=>?_
 unfold sFor;rw[show iSq (eV 1) (frz (frzAt [1] [some (rowD row,0),some (mat ls,0),some (rowD row,0),none]))=okR (ls.map rowD) by simp[mat],zA2];show nxR (forGo (.one 3) _ (ls.map rowD) [some (rowD row,0),some (mat ls,0),some (rowD row,0),none]) _;refine zW9 rowD ls (fun left r=>RowN n left/\∃l2 o3,r=[some (rowD row,0),some (mat ls,0),some (rowD left,l2),o3]) red1 row ⟨hr,0,none,rfl⟩ (fun l hm left r h=>?_) fun r h=>?_
 ·obtain⟨h1,l2,o3,rfl⟩:=h;obtain⟨h2,h3⟩:=hl l hm;have x1:eMl lixD (eV 3) (aCons (eC (.int 1)) aNil) [some (rowD row),some (mat ls),some (rowD left),some (rowD l)]=okR (.int (fst1 l:Nat)):=by
   have:=zWJ h3
   simp[eMl,rowD,this]
  have hlt:fst1 l<n:=by rw[<- h2.1];exact zKF h3
  have i1:=zPH left (fst1 l) (by rw[h1.1];exact hlt);have a1:=zMM h1 h2 hn;rw[zHP];have hc:tB (eB eqD (eB ixD (eV 2) (eMl lixD (eV 3) (aCons (eC (.int 1)) aNil))) (eC (.int 1))) [some (rowD row),some (mat ls),some (rowD left),some (rowD l)]=okR (decide (left.getD (fst1 l) 0=1)):=by
   simp only[x_tB,x_eB,x_eC,x1,zA2];simp[-qA0,i1]
  rw[show full ([some (rowD row,0),some (mat ls,0),some (rowD left,l2),o3].set 3 (some (rowD l,0)))=[some (rowD row),some (mat ls),some (rowD left),some (rowD l)] from rfl,hc,zA2]
  by_cases h:left.getD (fst1 l) 0=1
  ·rw[if_pos (by simpa using h)];have e:red1 left l=addB left l:=by unfold red1;rw[if_pos h]
   rw[e];refine zE4 (d:=rowD (addB left l)) ?_ ?_ ⟨zDK h1 h2,_,_,rfl⟩ ⟨zDK h1 h2,_,_,rfl⟩
   ·simp[a1]
   ·simp[a1]
  ·rw[if_neg (by simpa using h)];have e:red1 left l=left:=by unfold red1;rw[if_neg h]
   rw[e];exact⟨h1,_,_,rfl⟩
 ·obtain⟨h1,l2,o3,rfl⟩:=h;subst hb;simp[sRetV,red]
theorem zVT{i j:Nat}{vs:List Nat}{e:EM}{ρ ρ2:Ro}{ds es:List Dt}(h:frzAt vs (low j ρ)=ρ2)(h1:ρ2[j]?=some (some (.lst ds,1)))(he:e ((frz ρ2).set j (some (.lst ds)))=okR (.lst es))(hz:Dt.depL es=0/\es.length≠ds.length):sSetL i j vs e ρ=okR (.nx (ρ2.set i (some (.lst es,0)))):=by
 unfold sSetL;rw[h,h1];show zA9 (e ((frz ρ2).set j (some (.lst ds)))) _=_;rw[he,zA2];exact if_pos hz
theorem zX6{i:Nat}{vs:List Nat}{e:EM}{ρ ρ2:Ro}{ds:List Dt}{d:Dt}(h:frzAt vs (low i ρ)=ρ2)(h1:ρ2[i]?=some (some (.lst ds,1)))(he:e (frz ρ2)=okR d)(hz:ds.length<=100000):sAppF i vs e ρ=okR (.nx (ρ2.set i (some (.lst (ds++[d]),1)))):=by
 unfold sAppF;rw[h,h1];show zA9 (e (frz ρ2)) _=_;rw[he,zA2,if_pos hz]
def GpS(n:Nat)(T:List (List Int))(k:Nat)(r:Ro):Prop:=∃ls ks l2 o3 o4 o5,r=[some (mat T,0),some (rowD (numL ks),9),some (mat ls,l2+1),o3,o4,o5]/\GP n T ls k/\GK n T ks k/\ks.length=ls.length
theorem zWT(l:List Int):inD false (.int 1) (rowD l)=some (.bl (decide (1∈l))):=by
 show(hasD (.int 1) (l.map Dt.int)).map _=_
 rw[hasD,if_pos ⟨rfl,zCW _⟩];show some (Dt.bl ((l.map Dt.int).any fun y=>Dt.eq y (.int 1)))=_
 congr 2
 induction l with
 |nil=>rfl
 |cons k r ih=>
  rw[qAd,qBp,ih]
  by_cases h:k=1
  ·subst h;simp
  ·simp[h,show ¬1=k from fun z=>h z.symm]
theorem zJL{n:Nat}{T:List (List Int)}(hT:T.length=n)(hr:∀r∈T,RowN n r)(hn:n<=1000):∃ks ls,zBS [mat T]=okR (rowD (numL ks))/\ks.length=ls.length/\GP n T ls n/\GK n T ks n:=by
 suffices h:eiR (zDV [some (mat T,0),none,none,none,none,none]) (fun _=>False) (fun d=>∃ks ls,d=rowD (numL ks)/\ks.length=ls.length/\GP n T ls n/\GK n T ks n) by
  rcases h with⟨_,_,z⟩|⟨d,h1,ks,ls,rfl,h2,h3⟩
  ·exact z.elim
  ·exact⟨ks,ls,zC3 rfl h1,h2,h3⟩
 unfold zDV;refine zDX (P:=fun r=>r=[some (mat T,0),some (.lst [],9),none,none,none,none]) (zGB (by simp)) ?_
 rintro r rfl
 refine zDX (P:=fun r=>r=[some (mat T,0),some (.lst [],9),some (mat [],9),none,none,none]) (zGB (by simp[mat])) ?_
 rintro r rfl
 refine zDX (P:=GpS n T n) (zGB ?_) ?_
 ·unfold sFor;rw[show iEn (aCons (eV 0) aNil) (frz (frzAt [0] [some (mat T,0),some (.lst [],9),some (mat [],9),none,none,none]))=okR (enumD 0 (T.map rowD)) by simp[mat],zA2];show nxR (forGo (.tup [3,4]) _ (enumD 0 (T.map rowD)) [some (mat T,0),some (.lst [],9),some (mat [],9),none,none,none]) _;refine zWA (T.map rowD) (GpS n T) ⟨[],[],8,none,none,none,rfl,GP.start T,GK.start T,rfl⟩ (fun k x hx r h=>?_) fun r h=>by rw[qAl,hT]at h;exact h
  obtain⟨ls,ks,l2,o3,o4,o5,rfl,a,b,hps⟩:=h;have hk:k<T.length:=by have:=(qA3.mp hx).1;simpa using this
  have hx':x=rowD (T.getD k []):=by
   rw[qAk,qA8 hk]at hx;cases hx;simp[qA0,qA8 hk]
  subst hx';have hrow:=hr _ (zAQ (d:=[]) hk);have hred:RowN n (red ls (T.getD k [])):=zK0 hrow fun l hl=>(a.rows l hl).1
  have lp:=zRC hrow a.rows hn;have hm:=a.miss hr hk;have hh:=a.hit hr hk;have kh:=b.hit hk;have km:=fun z=>b.miss a (hm z)
  have hle:=a.le
  generalize T.getD k []=row at *
  generalize red ls row=left at *
  refine zLE fun bb hb=>?_
  refine zBO (r:=[some (mat T,0),some (rowD (numL ks),9),some (mat ls,1),some (.int (k:Nat),0),some (rowD row,0),some (rowD left,0)]) ?_ ?_
  ·have hr0:frzAt [4] (low 2 ([some (mat T,0),some (rowD (numL ks),9),some (mat ls,l2+1),some (.int (k:Nat),0),some (rowD row,0),o5]))=[some (mat T,0),some (rowD (numL ks),9),some (mat ls,1),some (.int (k:Nat),0),some (rowD row,0),o5]:=rfl;have he:∀o0 o1 o3 o5:Option Dt,eCall zCO (aCons (eV 4) (aCons (eV 2) aNil)) [o0,o1,some (mat ls),o3,some (rowD row),o5]=okR (rowD left):=by
    intro o0 o1 o3 o5;simp[lp]
   refine zVT hr0 rfl (es:=left.map Dt.int) ?_ ⟨zCW _,by rw[qAl,qAl,hred.1];omega⟩;rw[show(frz [some (mat T,0),some (rowD (numL ks),9),some (mat ls,1),some (.int (k:Nat),0),some (rowD row,0),o5]).set 2 (some (.lst (ls.map rowD)))=[frz0 (some (mat T,0)),frz0 (some (rowD (numL ks),9)),some (mat ls),frz0 (some (.int (k:Nat),0)),some (rowD row),frz0 o5] from rfl];exact he _ _ _ _
  subst hb;rw[zHP];have hin:=zWT left;rw[show tB (eB (inD false) (eC (.int 1)) (eV 5)) (full [some (mat T,0),some (rowD (numL ks),9),some (mat ls,1),some (.int (k:Nat),0),some (rowD row,0),some (rowD left,0)])=okR (decide (1∈left)) by simp[hin],zA2]
  by_cases h:1∈left
  ·rw[if_pos (by simpa using h)];refine zLE fun bb hb=>?_
   refine zBO (zZY (ds:=(numL ks).map Dt.int) (k:=8) (d:=.int (k:Nat)) rfl (by simp) (by simp[numL];omega) (by simp) (by simp)) ?_;subst hb;rw[show Dt.lst ((numL ks).map Dt.int++[.int (k:Nat)])=rowD (numL (ks++[k])) by unfold rowD numL;simp];refine zBO (r:=[some (mat T,0),some (rowD (numL (ks++[k])),9),some (mat (ls++[left]),1),some (.int (k:Nat),0),some (rowD row,0),some (rowD left,0)]) ?_ ⟨ls++[left],ks++[k],0,_,_,_,rfl,hh h,kh,by simp[hps]⟩
   have:=zX6 (i:=2) (vs:=[5]) (e:=eV 5) (ρ:=[some (mat T,0),some (rowD (numL (ks++[k])),9),some (mat ls,1),some (.int (k:Nat),0),some (rowD row,0),some (rowD left,0)]) (ρ2:=[some (mat T,0),some (rowD (numL (ks++[k])),9),some (mat ls,1),some (.int (k:Nat),0),some (rowD row,0),some (rowD left,0)]) (ds:=ls.map rowD) (d:=rowD left) rfl rfl (by simp) (by simp;omega)
   rw[show Dt.lst (ls.map rowD++[rowD left])=mat (ls++[left]) by unfold mat;simp]at this;exact this
  ·rw[if_neg (by simpa using h)];exact⟨ls,ks,0,_,_,_,rfl,hm h,km h,hps⟩
 rintro r ⟨ls,ks,l2,o3,o4,o5,rfl,a,b,hps⟩
 exact .inr ⟨rowD (numL ks),by simp[sRetV],ks,ls,rfl,hps,a,b⟩
theorem zQO{n:Nat}{f:Nat->Nat->Int}(hn:n<=10)(hb:Bits n f):∃q:Nat,q<=n/\cnt n (KerF n f)=2 ^ q/\(∃ks,ks.length+q=n/\GK n (tab n f) ks n)/\zLP [mat (tab n f)]=okR (.int (q:Int)):=by
 have hT:=zBY n f;have hr:=zEZ hb;obtain⟨ks,ls,h1,h2,h3,h4⟩:=zJL hT hr (by omega);have hle:=h3.le;have hc:=zNI ls (zN8 h3.rows h3.lds);have e:cnt n (Ker ls)=cnt n (KerF n f):=zCX fun x hx=>by
  rw[h3.ker x hx,qBc (by rw[hT];exact qA7 _)];exact zKD hx.1
 rw[e]at hc;refine⟨n-ls.length,by omega,?_,⟨ks,by omega,h4⟩,?_⟩
 ·have hp:2 ^ n=2 ^ (n-ls.length)*2 ^ ls.length:=by rw[<- qE4];congr 1;omega
  rw[hp]at hc;exact qDm (qH4 (by omega)) hc
 ·unfold zLP zMI
  have:((n-ls.length:Nat):Int)=(n:Int)-((numL ks).length:Int):=by simp[numL];omega
  simp[startO,h1,hT,this]
theorem zS5{n:Nat}{P Q:List Int->Prop}(f:List Int->List Int)(hf:∀x,RowN n x->P x->RowN n (f x)/\Q (f x))(hi:∀x y,RowN n x->RowN n y->P x->P y->f x=f y->x=y):cnt n P<=cnt n Q:=by
 classical
 unfold cnt;have h1:(((allv n).filter fun x=>decide (P x)).map f).Nodup:=zEQ ((zGX n).filter _) fun x hx y hy=>by
  obtain⟨a1,a2⟩:=qAs.mp hx;obtain⟨b1,b2⟩:=qAs.mp hy;exact hi x y (allv_mem.mp a1) (allv_mem.mp b1) (by simpa using a2) (by simpa using b2)
 have h2:=zI7 _ ((allv n).filter fun x=>decide (Q x)) h1 fun z hz=>by
  obtain⟨x,hx,rfl⟩:=qAa.mp hz;obtain⟨g1,g2⟩:=qAs.mp hx;obtain⟨k1,k2⟩:=hf x (allv_mem.mp g1) (by simpa using g2);exact qAs.mpr ⟨allv_mem.mpr k1,by simpa using k2⟩
 rw[qAl]at h2;exact h2
theorem zOK{n:Nat}{g:Nat->Int}{x y:List Int}(hx:RowN n x)(hy:RowN n y):sumN n (fun k=>g k*(addB x y).getD k 0)%2=(sumN n (fun k=>g k*x.getD k 0)+sumN n (fun k=>g k*y.getD k 0))%2:=by
 refine zQ6 fun k hk=>?_
 rw[zCH x y k (by rw[hx.1,hy.1]) (by rw[hx.1];exact hk)]
 rcases zBQ (k:=k) hx with a|a<;>rcases zBQ (k:=k) hy with b|b<;>rw[a,b]<;>simp<;>omega
theorem zX0{n:Nat}{g:Nat->Int}{x y:List Int}(hx:RowN n x)(hy:RowN n y)(h1:Ev n g x)(h2:Ev n g y):Ev n g (addB x y):=by
 have:=zOK (g:=g) hx hy
 unfold Ev at *;omega
theorem zWX{n:Nat}{g:Nat->Int}{x y:List Int}(hx:RowN n x)(hy:RowN n y)(h1:¬Ev n g x)(h2:¬Ev n g y):Ev n g (addB x y):=by
 have:=zOK (g:=g) hx hy
 unfold Ev at *;omega
theorem zU7{n:Nat}{x y z:List Int}(hx:RowN n x)(hy:RowN n y)(hz:RowN n z)(h:addB x z=addB y z):x=y:=by
 refine zMX hx.1 hy.1 fun k hk=>?_
 have e:(addB x z).getD k 0=(addB y z).getD k 0:=by rw[h]
 rw[zCH x z k (by rw[hx.1,hz.1]) (by rw[hx.1];exact hk),zCH y z k (by rw[hy.1,hz.1]) (by rw[hy.1];exact hk)]at e
 rcases zBQ (k:=k) hx with a|a<;>rcases zBQ (k:=k) hy with b|b<;>rw[a,b]at e ⊢ <;> omega
theorem zS6{n:Nat}:∀A:List (List Int),2 ^ n<=cnt n (Ker A)*2 ^ A.length
 |[]=>by
  rw[zCX (Q:=fun _=>True) fun x _=>⟨fun _=>trivial,fun _ r hr=>by simp at hr⟩,zNJ];simp
 |l::r=>by
  have ih:=zS6 (n:=n) r;have hc:cnt n (Ker (l::r))=cnt n (fun x=>Ker r x/\Ev n (fun k=>l.getD k 0) x):=zCX fun x hx=>⟨fun h=>⟨fun s hs=>h s (by simp[hs]),(zG9 hx).mp (h l (by simp))⟩,fun h s hs=>(qA9.mp hs).elim (fun z=>by rw[z];exact(zG9 hx).mpr h.2) (h.1 s)⟩
  have hs:=zIP (n:=n) (Ker r) (Ev n fun k=>l.getD k 0);have hle:cnt n (fun x=>Ker r x/\¬Ev n (fun k=>l.getD k 0) x)<=cnt n (fun x=>Ker r x/\Ev n (fun k=>l.getD k 0) x):=by
   by_cases hex:∃z,RowN n z/\Ker r z/\¬Ev n (fun k=>l.getD k 0) z
   ·obtain⟨z,z1,z2,z3⟩:=hex;refine zM4 (fun x=>addB x z) (fun x hx h=>⟨zDK hx z1,fun s hs=>?_,?_⟩) fun x y hx hy h=>zU7 hx hy z1 h
    ·exact(zG9 (zDK hx z1)).mpr (zX0 hx z1 ((zG9 hx).mp (h.1 s hs)) ((zG9 z1).mp (z2 s hs)))
    ·exact zWX hx z1 h.2 z3
   ·refine zS5 (fun x=>x) (fun x hx h=>absurd ⟨x,hx,h⟩ hex) fun x y hx hy h=>absurd ⟨x,hx,h⟩ hex
  rw[hc,qAw,qFc]
  generalize cnt n (fun x=>Ker r x/\Ev n (fun k=>l.getD k 0) x)=u at *
  generalize cnt n (fun x=>Ker r x/\¬Ev n (fun k=>l.getD k 0) x)=v at *
  rw[hs]at ih;refine qAu ih ?_;rw[qD9 (2 ^ r.length) 2,<- qEx];exact qCf _ (by omega)
theorem zHF{n:Nat}{g:Nat->Int}:∀{ks:List Nat},ks.Nodup->(∀k∈ks,k<n)->(∀k,k<n->k∉ks->g k=0)->sumN n g=(ks.map g).sum
 |[],_,_,h=>by rw[zBF fun k hk=>h k hk (by simp)];rfl
 |a::r,hd,hk,h=>by
  rw[qB9]at hd;have ha:=hk a (by simp);have ih:=zHF (n:=n) (g:=fun k=>if k=a then 0 else g k) (ks:=r) hd.2 (fun k hk'=>hk k (by simp[hk'])) fun k hkn hkr=>by
   split
   ·rfl
   ·rename_i z;exact h k hkn (by simp[z,hkr])
  have u:=zJU (f:=g) (g:=fun k=>if k=a then 0 else g k) ha fun k _ hka=>by rw[if_neg hka]
  rw[u,ih,if_pos rfl];have e:(r.map fun k=>if k=a then 0 else g k)=r.map g:=qAq fun k hk'=>by rw[if_neg fun z=>hd.1 (by rw[<- z];exact hk')]
  rw[e,qAd,qCr];omega
theorem zNY{ks:List Nat}{g:Nat->Int}:(ks.map g).sum=sumN ks.length fun b=>g (ks.getD b 0):=by
 unfold sumN;rw[zG2 ks g]
noncomputable def zr(n:Nat)(ks:List Nat)(x:List Int):List Int:=(qA1 n).map fun k=>if k∈ks then 0 else x.getD k 0
theorem zXB{n:Nat}{ks:List Nat}{x:List Int}(hx:RowN n x):RowN n (zr n ks x):=⟨by simp[zr],fun y hy=>by
 obtain⟨k,_,rfl⟩:=qAa.mp hy;show Bit (if k∈ks then 0 else x.getD k 0)
 split
 ·exact .inl rfl
 ·exact zBQ hx⟩
theorem zOR{n:Nat}:∀{ks:List Nat},ks.Nodup->(∀k∈ks,k<n)->cnt n (fun x=>∀k∈ks,x.getD k 0=0)*2 ^ ks.length=2 ^ n
 |[],_,_=>by
  rw[zCX (Q:=fun _=>True) fun x _=>⟨fun _=>trivial,fun _ r hr=>by simp at hr⟩,zNJ];simp
 |a::r,hd,hk=>by
  rw[qB9]at hd;have ha:=hk a (by simp);have ih:=zOR (n:=n) (ks:=r) hd.2 fun k hk'=>hk k (by simp[hk'])
  have hh:=zOS ha (fun x=>∀k∈r,x.getD k 0=0) (fun x=>x.getD a 0=0) (fun x hx h k hk'=>by
   rw[zGO hx ha,if_neg fun z=>hd.1 (by rw[z];exact hk')];exact h k hk') fun x hx=>by
   rw[zGO hx ha,if_pos rfl]
   rcases zBQ (k:=a) hx with w|w<;>rw[w]<;>simp
  have hc:cnt n (fun x=>∀k∈a::r,x.getD k 0=0)=cnt n (fun x=>(∀k∈r,x.getD k 0=0)/\x.getD a 0=0):=zCX fun x _=>⟨fun h=>⟨fun s hs=>h s (by simp[hs]),h a (by simp)⟩,fun h s hs=>(qA9.mp hs).elim (fun z=>by rw[z];exact h.2) (h.1 s)⟩
  rw[hc,qAw,qFc,<- ih,hh];rw[qD9 (2 ^ r.length) 2,<- qEx,qD9 _ 2]
theorem zDO{ks:List Nat}{k:Nat}(h:k∈ks):∃b,b<ks.length/\ks.getD b 0=k:=zF4 h
theorem zR0{n q:Nat}{f:Nat->Nat->Int}{ks:List Nat}(hd:ks.Nodup)(hk:∀k∈ks,k<n)(hns:NS ks.length (sub ks f))(hq:cnt n (KerF n f)=2 ^ q):ks.length+q<=n:=by
 have hz:=zOR hd hk;have hle:cnt n (KerF n f)<=cnt n (fun x=>∀k∈ks,x.getD k 0=0):=by
  refine zS5 (zr n ks) (fun x hx _=>⟨zXB hx,fun k hk'=>?_⟩) fun x y hx hy hxk hyk h=>?_
  ·show((qA1 n).map _).getD k 0=0
   rw[zAL (hk k hk'),if_pos hk']
  ·have hdr:=zDK hx hy;have dz:∀k,k<n->k∉ks->(addB x y).getD k 0=0:=fun k hkn hkk=>by
    have e:(zr n ks x).getD k 0=(zr n ks y).getD k 0:=by rw[h]
    unfold zr at e;rw[zAL hkn,zAL hkn,if_neg hkk,if_neg hkk]at e;rw[zCH x y k (by rw[hx.1,hy.1]) (by rw[hx.1];exact hkn),e];omega
   let e:List Int:=(qA1 ks.length).map fun a=>(addB x y).getD (ks.getD a 0) 0
   have he:RowN ks.length e:=⟨by simp[e],fun v hv=>by
    obtain⟨a,_,rfl⟩:=qAa.mp hv;exact zBQ hdr⟩
   have ge:∀a,a<ks.length->e.getD a 0=(addB x y).getD (ks.getD a 0) 0:=fun a ha=>zAL ha
   have h0:=hns e he fun a ha=>by
    have hka:=zC0 hk ha;have e1:=hxk _ hka;have e2:=hyk _ hka;have e3:=zOK (g:=fun k=>f (ks.getD a 0) k) hx hy;have e4:=zHF (n:=n) (g:=fun k=>f (ks.getD a 0) k*(addB x y).getD k 0) hd hk fun k hkn hkk=>by rw[dz k hkn hkk];simp
    rw[e4,zNY]at e3;unfold Ev at e1 e2;rw[zAY (g:=fun b=>f (ks.getD a 0) (ks.getD b 0)*(addB x y).getD (ks.getD b 0) 0) fun b hb=>by rw[ge b hb];rfl];omega
   refine zMX hx.1 hy.1 fun k hkn=>?_
   have ek:(addB x y).getD k 0=0:=by
    by_cases hkk:k∈ks
    ·obtain⟨b,hb,rfl⟩:=zDO hkk;rw[<- ge b hb];exact h0 b
    ·exact dz k hkn hkk
   rw[zCH x y k (by rw[hx.1,hy.1]) (by rw[hx.1];exact hkn)]at ek
   rcases zBQ (k:=k) hx with a|a<;>rcases zBQ (k:=k) hy with b|b<;>rw[a,b]at ek ⊢ <;> omega
 rw[hq]at hle;have h2:2 ^ q*2 ^ ks.length<=2 ^ n:=by rw[<- hz];exact qCf _ hle
 rw[<- qE4]at h2
 have:=(qCk (show 1<2 by omega)).mp h2
 omega
theorem zST(n:Nat)(f g:Nat->Int):sumN n (fun k=>f k+g k)=sumN n f+sumN n g:=by
 induction n with
 |zero=>rfl
 |succ n ih=>rw[zB7,zB7,zB7,ih];omega
theorem zF0(n:Nat)(c:Int)(f:Nat->Int):sumN n (fun k=>c*f k)=c*sumN n f:=by
 induction n with
 |zero=>simp[sumN]
 |succ n ih=>rw[zB7,zB7,ih,Int.mul_add]
theorem zFQ(n m:Nat)(G:Nat->Nat->Int):sumN n (fun i=>sumN m fun b=>G b i)=sumN m fun b=>sumN n fun i=>G b i:=by
 induction n with
 |zero=>rw[zBF fun k hk=>by omega,zBF fun b _=>zBF fun k hk=>by omega]
 |succ n ih=>
  rw[zB7,ih,<- zST];exact zAY fun b _=>(zB7 n fun i=>G b i).symm
theorem zF1{n:Nat}{f g:Nat->Int}(h:∀k,k<n->f k%2=g k%2):sumN n f%2=sumN n g%2:=by
 induction n with
 |zero=>rfl
 |succ n ih=>
  rw[zB7,zB7];have h1:=ih fun k hk=>h k (by omega)
  have h2:=h n (by omega);omega
def spr(n:Nat)(ks:List Nat)(e:List Int):List Int:=(qA1 n).map fun k=>sumN ks.length (fun b=>if ks.getD b 0=k then e.getD b 0 else 0)%2
theorem zMT(n:Nat)(ks:List Nat)(e:List Int):RowN n (spr n ks e):=⟨by simp[spr],fun x hx=>by
 obtain⟨k,_,rfl⟩:=qAa.mp hx;exact zKV _⟩
theorem zMS{n:Nat}{ks:List Nat}(hk:∀k∈ks,k<n)(g:Nat->Int)(e:List Int):sumN n (fun k=>g k*(spr n ks e).getD k 0)%2=sumN ks.length (fun b=>g (ks.getD b 0)*e.getD b 0)%2:=by
 have h1:sumN n (fun k=>g k*(spr n ks e).getD k 0)%2=sumN n (fun k=>sumN ks.length fun b=>if ks.getD b 0=k then g k*e.getD b 0 else 0)%2:=by
  refine zF1 fun k hkn=>?_
  have e1:(spr n ks e).getD k 0=sumN ks.length (fun b=>if ks.getD b 0=k then e.getD b 0 else 0)%2:=zAL hkn;have e2:(sumN ks.length fun b=>if ks.getD b 0=k then g k*e.getD b 0 else 0)=g k*sumN ks.length (fun b=>if ks.getD b 0=k then e.getD b 0 else 0):=by
   rw[<- zF0];exact zAY fun b _=>by split<;>simp
  rw[e1,e2,qBq,qE5,<- qBq]
 rw[h1,zFQ]
 congr 1
 refine zAY fun b hb=>?_
 rw[zCS (j:=ks.getD b 0) (zC0 hk hb) fun k _ hkb=>by rw[if_neg fun z=>hkb z.symm],if_pos rfl]
theorem zHE{ks:List Nat}(h:ks.Pairwise (· < ·)):ks.Nodup:=qH7 (fun{a b} hab z=>by omega) h
theorem zW3{n q:Nat}{f:Nat->Nat->Int}{ks:List Nat}(hs:Sym n f)(hg:GK n (tab n f) ks n)(hq:cnt n (KerF n f)=2 ^ q)(hl:ks.length+q=n):NS ks.length (sub ks f):=by
 intro e he hk;have hkn:∀k∈ks,k<n:=hg.lt;have hker:∀x,RowN n x->(Ker (ks.map fun j=>(tab n f).getD j []) x↔KerF n f x):=fun x hx=>by
  rw[hg.ker x hx,qBc (by rw[zBY];exact qA7 _)];exact zKD hx.1
 have hrow:∀b,b<ks.length->∀x,RowN n x->(dot ((tab n f).getD (ks.getD b 0) []) x%2=0↔Ev n (f (ks.getD b 0)) x):=fun b hb x hx=>by
  rw[zEK (zC0 hkn hb),zE8 hx.1];rfl
 have hd:KerF n f (spr n ks e):=(hker _ (zMT n ks e)).mp fun r hr=>by
  obtain⟨j,hj,rfl⟩:=qAa.mp hr;obtain⟨a,ha,rfl⟩:=zDO hj;refine(hrow a ha _ (zMT n ks e)).mpr ?_;unfold Ev;rw[zMS hkn];exact hk a ha
 have hcol:∀i,i<n->sumN ks.length (fun b=>f (ks.getD b 0) i*e.getD b 0)%2=0:=fun i hi=>by
  have:=hd i hi
  unfold Ev at this;rw[zMS hkn]at this;rw[zAY (g:=fun b=>f i (ks.getD b 0)*e.getD b 0) fun b hb=>by rw[hs i _ hi (zC0 hkn hb)]];exact this
 have hall:∀x,RowN n x->sumN ks.length (fun b=>e.getD b 0*sumN n fun i=>f (ks.getD b 0) i*x.getD i 0)%2=0:=fun x hx=>by
  have e1:(sumN ks.length fun b=>e.getD b 0*sumN n fun i=>f (ks.getD b 0) i*x.getD i 0)=sumN n fun i=>x.getD i 0*sumN ks.length fun b=>f (ks.getD b 0) i*e.getD b 0:=by
   rw[zAY (g:=fun b=>sumN n fun i=>e.getD b 0*(f (ks.getD b 0) i*x.getD i 0)) fun b _=>(zF0 n _ _).symm,<- zFQ n ks.length fun b i=>e.getD b 0*(f (ks.getD b 0) i*x.getD i 0)];refine zAY fun i _=>?_
   rw[<- zF0];refine zAY fun b _=>?_
   rw[qDb (e.getD b 0),qDb (f _ _) (x.getD i 0),qGv]
  rw[e1,zF1 (g:=fun _=>0) fun i hi=>by rw[qBq,hcol i hi];simp,zBF fun _ _=>rfl];rfl
 intro a
 by_cases ha:¬a<ks.length
 ·simp[qA0,qB6 (show e.length<=a by rw[he.1];omega)]
 replace ha:a<ks.length:=by omega
 rcases zBQ (k:=a) he with w|w
 ·exact w
 exfalso
 have hle:cnt n (Ker ((ks.map fun j=>(tab n f).getD j []).eraseIdx a))<=cnt n (KerF n f):=by
  refine zM4 (fun x=>x) (fun x hx h=>⟨hx,(hker x hx).mp fun r hr=>?_⟩) fun x y _ _ h=>h
  obtain⟨j,hj,rfl⟩:=qAa.mp hr;obtain⟨b,hb,rfl⟩:=zDO hj;have oth':∀b,b<ks.length->b≠a->Ev n (f (ks.getD b 0)) x:=fun b hb hba=>(hrow b hb x hx).mp (h _ (List.mem_eraseIdx_iff_getElem.mpr ⟨b,by simpa using hb,hba,by simp[qA0,qA8 hb]⟩))
  by_cases hba:b=a
  ·subst hba;refine(hrow b hb x hx).mpr ?_;have hsum:=hall x hx;have u:=zJU (n:=ks.length) (i:=b) (f:=fun c=>e.getD c 0*sumN n fun i=>f (ks.getD c 0) i*x.getD i 0) (g:=fun c=>if c=b then 0 else e.getD c 0*sumN n fun i=>f (ks.getD c 0) i*x.getD i 0) ha fun c _ hcb=>by rw[if_neg hcb]
   rw[u,if_pos rfl,w]at hsum;have z:sumN ks.length (fun c=>if c=b then 0 else e.getD c 0*sumN n fun i=>f (ks.getD c 0) i*x.getD i 0)%2=0:=by
    rw[zF1 (g:=fun _=>0) fun c hc=>?_,zBF fun _ _=>rfl]
    ·rfl
    ·split
     ·rfl
     ·rename_i hcb
      have:=oth' c hc hcb
      unfold Ev at this;rw[qBq,this];simp
   unfold Ev;omega
  ·exact(hrow b hb x hx).mpr (oth' b hb hba)
 have hge:=zS6 (n:=n) ((ks.map fun j=>(tab n f).getD j []).eraseIdx a);rw[qCc (by simpa using ha),qAl]at hge;rw[hq]at hle;have h3:=qAu hge (qCf _ hle);rw[<- qE4]at h3
 have:=(qCk (show 1<2 by omega)).mp h3
 omega
theorem zWF(k:Int){m:Nat}(hm:0<m):modD (.int k) (.int (m:Int))=some (.int (k%(m:Int))):=by simp[hm]
noncomputable def putv(i j:Nat)(v:Int)(f:Nat->Nat->Int):Nat->Nat->Int:=fun x y=>if x=j/\y=i then v else if x=i/\y=j then v else f x y
theorem zQS{n i j:Nat}{v:Int}{f:Nat->Nat->Int}(h:Bits n f)(hv:Bit v):Bits n (putv i j v f):=fun x y hx hy=>by
 unfold putv
 split
 ·exact hv
 ·split
  ·exact hv
  ·exact h x y hx hy
theorem zT3{n i j:Nat}{v:Int}{f:Nat->Nat->Int}(h:Sym n f):Sym n (putv i j v f):=fun x y hx hy=>by
 unfold putv;rw[h x y hx hy]
 by_cases h1:x=j/\y=i
 ·rw[if_pos h1]
  by_cases h2:y=j/\x=i
  ·rw[if_pos h2]
  ·rw[if_neg h2,if_pos ⟨h1.2,h1.1⟩]
 ·rw[if_neg h1]
  by_cases h2:x=i/\y=j
  ·rw[if_pos h2,if_pos ⟨h2.2,h2.1⟩]
  ·rw[if_neg h2,if_neg fun z=>h2 ⟨z.2,z.1⟩,if_neg fun z=>h1 ⟨z.2,z.1⟩]
def Fe(n:Nat)(f:Nat->Nat->Int)(S:Nat->Prop):Prop:=∀x,RowN n x->(∀i,i<n->¬S i->x.getD i 0=0)->(∀i,i<n->S i->Ev n (f i) x)->∀i,i<n->x.getD i 0=0
theorem zaM{n:Nat}{f:Nat->Nat->Int}{ks:List Nat}(hd:ks.Nodup)(hk:∀k∈ks,k<n):NS ks.length (sub ks f)↔Fe n f (·∈ks):=by
 constructor
 ·intro hns x hx h1 h2 i hi
  let e:List Int:=(qA1 ks.length).map fun a=>x.getD (ks.getD a 0) 0
  have he:RowN ks.length e:=⟨by simp[e],fun v hv=>by
   obtain⟨a,_,rfl⟩:=qAa.mp hv;exact zBQ hx⟩
  have ge:∀a,a<ks.length->e.getD a 0=x.getD (ks.getD a 0) 0:=fun a ha=>zAL ha
  have h0:=hns e he fun a ha=>by
   have hka:=zC0 hk ha;have hm:ks.getD a 0∈ks:=zAQ ha;have e1:=h2 _ hka hm;have e4:=zHF (n:=n) (g:=fun k=>f (ks.getD a 0) k*x.getD k 0) hd hk fun k hkn hkk=>by rw[h1 k hkn hkk];simp
   unfold Ev at e1;rw[e4,zNY]at e1;rw[zAY (g:=fun b=>f (ks.getD a 0) (ks.getD b 0)*x.getD (ks.getD b 0) 0) fun b hb=>by rw[ge b hb];rfl];exact e1
  by_cases hi':i∈ks
  ·obtain⟨b,hb,rfl⟩:=zDO hi';rw[<- ge b hb];exact h0 b
  ·exact h1 i hi hi'
 ·intro hf e he h j
  by_cases hj:j<ks.length
  ·have hg:∀b,b<ks.length->(spr n ks e).getD (ks.getD b 0) 0=e.getD b 0:=fun b hb=>by
    have e1:(spr n ks e).getD (ks.getD b 0) 0=sumN ks.length (fun c=>if ks.getD c 0=ks.getD b 0 then e.getD c 0 else 0)%2:=zAL (zC0 hk hb);rw[e1,zCS (j:=b) hb fun c hc hcb=>by
     rw[if_neg fun z=>hcb ?_];have hc':ks[c]?=some ks[c]:=qA8 hc;have hb':ks[b]?=some ks[b]:=qA8 hb;rw[qA0,qA0,hc',hb']at z;exact(qE6 hd).mp (by simpa using z),if_pos rfl]
    rcases zBQ (k:=b) he with w|w<;>rw[w]<;>rfl
   have h0:=hf (spr n ks e) (zMT n ks e) (fun i hi hik=>by
    have e1:(spr n ks e).getD i 0=sumN ks.length (fun c=>if ks.getD c 0=i then e.getD c 0 else 0)%2:=zAL hi;rw[e1,zBF fun c hc=>by rw[if_neg fun z=>hik (by rw[<- z];exact zAQ hc)]]
    rfl) (fun i hi hik=>by
    obtain⟨a,ha,rfl⟩:=zDO hik;unfold Ev;rw[zMS hk];exact h a ha)
   rw[<- hg j hj];exact h0 _ (zC0 hk hj)
  ·simp[qA0,qB6 (show e.length<=j by rw[he.1];omega)]
def img(n:Nat)(f:Nat->Nat->Int)(x:List Int)(i:Nat):Int:=sumN n (fun k=>f i k*x.getD k 0)%2
theorem zSF{n:Nat}{f:Nat->Nat->Int}(hs:Sym n f)(x y:List Int):sumN n (fun i=>x.getD i 0*img n f y i)%2=sumN n (fun i=>y.getD i 0*img n f x i)%2:=by
 have one:∀x y:List Int,sumN n (fun i=>x.getD i 0*img n f y i)%2=sumN n (fun i=>sumN n fun k=>x.getD i 0*(f i k*y.getD k 0))%2:=fun x y=>by
  refine zF1 fun i hi=>?_
  rw[zF0];unfold img;rw[qBq,qE5,<- qBq]
 rw[one x y,one y x,zFQ]
 congr 1
 refine zAY fun b hb=>zAY fun i hi=>?_
 rw[hs i b hi hb,qF5,qF5 (y.getD b 0),qDb (y.getD b 0)]
theorem zRP{n:Nat}{f:Nat->Nat->Int}{x y:List Int}(hx:RowN n x)(hy:RowN n y)(i:Nat):img n f (addB x y) i=(img n f x i+img n f y i)%2:=by
 unfold img;rw[zOK hx hy];omega
def Rise(n:Nat)(ks:List Nat):Prop:=ks=(qA1 n).filter fun i=>decide (i∈ks)
theorem zMY(n:Nat)(p:Nat->Bool):Rise n ((qA1 n).filter p):=by
 unfold Rise;refine(qE0 fun i hi=>?_);simp only[qAs,hi,true_and];cases p i<;>rfl
theorem zMZ:∀{a b:List Nat},a.Pairwise (· < ·)->b.Pairwise (· < ·)->(∀x,x∈a↔x∈b)->a=b
 |[],[],_,_,_=>rfl
 |[],y::b,_,_,h=>by have:=(h y).mpr (by simp);simp at this
 |x::a,[],_,_,h=>by have:=(h x).mp (by simp);simp at this
 |x::a,y::b,ha,hb,h=>by
  obtain⟨a1,a2⟩:=qBe.mp ha;obtain⟨b1,b2⟩:=qBe.mp hb;have hxy:x=y:=by
   have h1:=(h x).mp (by simp);have h2:=(h y).mpr (by simp)
   rcases qA9.mp h1 with z|z
   ·exact z
   ·rcases qA9.mp h2 with w|w
    ·exact w.symm
    ·have:=b1 x z;have:=a1 y w;omega
  subst hxy
  congr 1
  refine zMZ a2 b2 fun z=>⟨fun hz=>?_,fun hz=>?_⟩
  ·rcases qA9.mp ((h z).mp (qAr _ hz))with e|e
   ·have:=a1 z hz;omega
   ·exact e
  ·rcases qA9.mp ((h z).mpr (qAr _ hz))with e|e
   ·have:=b1 z hz;omega
   ·exact e
theorem zQN{n:Nat}{ks:List Nat}(h1:ks.Pairwise (· < ·))(h2:∀k∈ks,k<n):Rise n ks:=by
 refine zMZ h1 (qDe _ qC2) fun x=>?_
 simp only[qAs,qDr,decide_eq_true_eq];exact⟨fun h=>⟨h2 x h,h⟩,fun h=>h.2⟩
theorem Rise.up{n:Nat}{ks:List Nat}(h:Rise n ks):ks.Pairwise (· < ·):=by
 rw[h];exact qDe _ qC2
theorem Rise.lt{n:Nat}{ks:List Nat}(h:Rise n ks):∀k∈ks,k<n:=fun k hk=>by
 rw[h]at hk
 simpa using(qAs.mp hk).1
theorem Rise.le{n:Nat}{ks:List Nat}(h:Rise n ks):ks.length<=n:=by
 rw[h];exact qAu (qDc _ _) (by simp)
theorem zTO(i:Nat)(ks:List Nat):hasD (.int (i:Int)) ((numL ks).map Dt.int)=some (decide (i∈ks)):=by
 rw[hasD,if_pos ⟨rfl,zCW _⟩]
 congr 1
 unfold numL;rw[qAo]
 induction ks with
 |nil=>rfl
 |cons k r ih=>
  rw[qAd,qBp,ih]
  by_cases h:i=k
  ·subst h;simp
  ·simp[h,show ¬(k:Int)=(i:Int) by omega]
theorem zTC(i:Nat)(ks:List Nat):inD true (.int (i:Int)) (rowD (numL ks))=some (.bl (!decide (i∈ks))):=by
 show(hasD (.int (i:Int)) ((numL ks).map Dt.int)).map _=_
 rw[zTO];rfl
noncomputable def ind(n:Nat)(w:List Nat):List Int:=(qA1 n).map fun k=>if k∈w then 1 else 0
theorem zNB(n:Nat)(w:List Nat):RowN n (ind n w):=⟨by simp[ind],fun x hx=>by
 obtain⟨k,_,rfl⟩:=qAa.mp hx
 split
 ·exact .inr rfl
 ·exact .inl rfl⟩
theorem zET{n k:Nat}{w:List Nat}(h:k<n):(ind n w).getD k 0=if k∈w then 1 else 0:=zAL h
theorem zIG{n j:Nat}{f:Nat->Nat->Int}{w:List Nat}(hs:Sym n f)(hw:w.Pairwise (· < ·))(hl:∀k∈w,k<n)(hj:j<n):img n f (ind n w) j=(w.map fun k=>f k j).sum%2:=by
 unfold img;rw[zHF (g:=fun k=>f j k*(ind n w).getD k 0) (zHE hw) hl fun k hk hkw=>by rw[zET hk,if_neg hkw];simp]
 congr 2
 refine qAq fun k hk=>?_
 rw[zET (hl k hk),if_pos hk,hs j k hj (hl k hk),qDh]
structure Nth(n:Nat)(f:Nat->Nat->Int)(ks:List Nat)(i:Nat)(w:List Nat):Prop where
 up:w.Pairwise (· < ·)
 at_:i∈w
 sub_:∀k∈w,k=i\/k∈ks
 nil:∀j,j<n->(w.map fun k=>f k j).sum%2=0
section
variable{n:Nat}{f:Nat->Nat->Int}{ks:List Nat}
theorem Nth.lt{i:Nat}{w:List Nat}(a:Nth n f ks i w)(hi:i<n)(hk:∀k∈ks,k<n):∀k∈w,k<n:=fun k h=>by
 rcases a.sub_ k h with rfl|h
 ·exact hi
 ·exact hk k h
theorem Nth.uniq{i:Nat}{w v:List Nat}(hs:Sym n f)(hF:Fe n f (·∈ks))(hi:i<n)(hk:∀k∈ks,k<n)(hik:i∉ks)(a:Nth n f ks i w)(b:Nth n f ks i v):w=v:=by
 have aw:=zNB n w;have av:=zNB n v;have lw:=a.lt hi hk;have lv:=b.lt hi hk;have h0:=hF (addB (ind n w) (ind n v)) (zDK aw av) (fun k hkn hkk=>by
  rw[zCH _ _ k (by rw[aw.1,av.1]) (by rw[aw.1];exact hkn),zET hkn,zET hkn]
  by_cases hki:k=i
  ·subst hki;rw[if_pos a.at_,if_pos b.at_];rfl
  ·rw[if_neg fun z=>(a.sub_ k z).elim hki hkk,if_neg fun z=>(b.sub_ k z).elim hki hkk]
   rfl) fun k hkn hkk=>by
  have e:=zRP (f:=f) aw av k;rw[zIG hs a.up lw hkn,zIG hs b.up lv hkn,a.nil k hkn,b.nil k hkn]at e;exact e
 refine zMZ a.up b.up fun k=>?_
 by_cases hkn:k<n
 ·have:=h0 k hkn
  rw[zCH _ _ k (by rw[aw.1,av.1]) (by rw[aw.1];exact hkn),zET hkn,zET hkn]at this
  by_cases h1:k∈w<;>by_cases h2:k∈v<;>simp[h1,h2]at this ⊢
 ·exact⟨fun h=>absurd (lw k h) hkn,fun h=>absurd (lv k h) hkn⟩
theorem zWM(hs:Sym n f)(hk:∀k∈ks,k<n)(h:∀i,i<n->i∉ks->∃w,Nth n f ks i w){x:List Int}(hx:RowN n x)(h0:∀k∈ks,Ev n (f k) x):KerF n f x:=fun i hi=>by
 by_cases hik:i∈ks
 ·exact h0 i hik
 ·obtain⟨w,a⟩:=h i hi hik;have lw:=a.lt hi hk;have e:=zSF hs x (ind n w);rw[zBF (f:=fun i=>x.getD i 0*img n f (ind n w) i) fun k hkn=>by rw[zIG hs a.up lw hkn,a.nil k hkn];simp]at e;rw[zCS (f:=fun k=>(ind n w).getD k 0*img n f x k) hi fun k hkn hki=>by
   rw[zET hkn]
   split
   ·rename_i hw
    have:=h0 k ((a.sub_ k hw).resolve_left hki)
    unfold Ev at this;unfold img;rw[this];rfl
   ·simp,zET hi,if_pos a.at_,Int.one_mul]at e
  unfold img at e;unfold Ev;omega
noncomputable def rws(n:Nat)(f:Nat->Nat->Int)(ks:List Nat):List (List Int):=ks.map fun k=>(qA1 n).map fun j=>f k j
theorem zVU{x:List Int}(hx:RowN n x):Ker (rws n f ks) x↔∀k∈ks,Ev n (f k) x:=by
 have e:∀k,dot ((qA1 n).map fun j=>f k j) x%2=0↔Ev n (f k) x:=fun k=>by
  rw[zE8 hx.1];rfl
 constructor
 ·intro h k hk;exact(e k).mp (h _ (qAa.mpr ⟨k,hk,rfl⟩))
 ·intro h r hr;obtain⟨k,hk,rfl⟩:=qAa.mp hr;exact(e k).mpr (h k hk)
theorem zZ1{q:Nat}(hq:cnt n (KerF n f)=2 ^ q)(h:∀x,RowN n x->(∀k∈ks,Ev n (f k) x)->KerF n f x):n<=ks.length+q:=by
 have h1:=zS6 (n:=n) (rws n f ks);have h2:cnt n (Ker (rws n f ks))<=cnt n (KerF n f):=zM4 (fun x=>x) (fun x hx hk=>⟨hx,h x hx ((zVU hx).mp hk)⟩) fun _ _ _ _ h=>h
 rw[hq]at h2;have h3:2 ^ n<=2 ^ (q+ks.length):=by
  rw[qE4];have hl:(rws n f ks).length=ks.length:=by simp[rws]
  rw[hl]at h1;exact qAu h1 (qCf _ h2)
 have:=(qCk (show 1<2 by omega)).mp h3
 omega
theorem zTZ{P:List Int->Prop}(h:cnt n P=0){x:List Int}(hx:RowN n x):¬P x:=fun hp=>by
 unfold cnt at h
 have:=qCt.mp h
 have hm:x∈(allv n).filter fun x=>@decide (P x) (qA4 _):=qAs.mpr ⟨allv_mem.mpr hx,by simp[hp]⟩
 rw[this]at hm;simp at hm
theorem zPG{q:Nat}(hn:n<=10)(hb:Bits n f)(hd:ks.Nodup)(hk:∀k∈ks,k<n)(hns:NS ks.length (sub ks f))(hq:cnt n (KerF n f)=2 ^ q)(hl:ks.length+q=n){x:List Int}(hx:RowN n x)(h0:∀k∈ks,Ev n (f k) x):KerF n f x:=by
 let g:Nat->Nat->Int:=fun a b=>if a∈ks then f a b else 0
 have hg:Bits n g:=fun a b ha hb'=>by
  show(if a∈ks then f a b else 0)=0\/(if a∈ks then f a b else 0)=1
  split
  ·exact hb a b ha hb'
  ·exact .inl rfl
 have kg:∀{x},RowN n x->(KerF n g x↔∀k∈ks,Ev n (f k) x):=fun{x} hx=>by
  constructor
  ·intro h k hkk
   have:=h k (hk k hkk)
   rwa [show g k=f k by funext b;show(if k∈ks then f k b else 0)=_;rw[if_pos hkk]]at this
  ·intro h a ha
   by_cases hak:a∈ks
   ·rw[show g a=f a by funext b;show(if a∈ks then f a b else 0)=_;rw[if_pos hak]];exact h a hak
   ·exact zWW fun k _=>if_neg hak
 obtain⟨p,_,hp,_,_⟩:=zQO hn hg;have hns2:NS ks.length (sub ks g):=fun y hy hz=>hns y hy fun a ha=>by
  refine qFk ?_ (hz a ha)
  congr 1
  refine zAY fun b hb'=>?_
  show f (ks.getD a 0) (ks.getD b 0)*_=(if ks.getD a 0∈ks then f (ks.getD a 0) (ks.getD b 0)else 0)*_;rw[if_pos (zAQ ha)]
 have hpl:=zR0 hd hk hns2 hp;have hle:cnt n (KerF n g)<=cnt n (KerF n f):=by
  rw[hp,hq];exact Nat.pow_le_pow_right (by omega) (by omega)
 have hsp:=zIP (n:=n) (KerF n g) (KerF n f);have hsame:cnt n (fun x=>KerF n g x/\KerF n f x)=cnt n (KerF n f):=zCX fun x hx=>⟨fun h=>h.2,fun h=>⟨(kg hx).mpr fun k hkk=>h k (hk k hkk),h⟩⟩
 have hz:cnt n (fun x=>KerF n g x/\¬KerF n f x)=0:=by omega
 have:=zTZ hz hx
 rcases Classical.em (KerF n f x)with h|h
 ·exact h
 ·exact absurd ⟨(kg hx).mpr h0,h⟩ this
end
section
variable{m:Nat}{M g:Nat->Nat->Int}
noncomputable def colL(m:Nat)(g:Nat->Nat->Int)(j:Nat):List Int:=(qA1 m).map fun k=>g k j
theorem zS4(hg:Bits m g){j:Nat}(hj:j<m):RowN m (colL m g j):=⟨by simp[colL],fun x hx=>by
 obtain⟨k,hk,rfl⟩:=qAa.mp hx;exact hg k j (by simpa using hk) hj⟩
theorem zEW(j i:Nat):img m M (colL m g j) i=prod m M g i j:=by
 unfold img prod
 congr 1
 exact zAY fun k hk=>by rw[colL,zAL hk]
theorem zTW(hs:Sym m M)(hg:Bits m g)(h:∀i j,i<m->j<m->prod m M g i j=zCB i j):NS m M:=fun x hx hz j=>by
 by_cases hj:j<m
 ·have e:=zSF hs x (colL m g j);rw[zCS (f:=fun i=>x.getD i 0*img m M (colL m g j) i) hj fun k hk hkj=>by rw[zEW,h k j hk hj,zCB,if_neg hkj];simp]at e;rw[zEW,h j j hj hj,zCB,if_pos rfl,qDh]at e;rw[zBF (f:=fun i=>(colL m g j).getD i 0*img m M x i) fun k hk=>by rw[img,hz k hk];simp]at e
  rcases zBQ (k:=j) hx with w|w
  ·exact w
  ·rw[w]at e;simp at e
 ·simp[qA0,qB6 (show x.length<=j by rw[hx.1];omega)]
theorem zRY(hs:Sym m M)(h:∀i j,i<m->j<m->prod m M g i j=zCB i j)(hg:Bits m g):Sym m g:=fun a b ha hb=>by
 have e:=zSF hs (colL m g a) (colL m g b);rw[zCS (f:=fun i=>(colL m g a).getD i 0*img m M (colL m g b) i) hb fun k hk hkj=>by rw[zEW,h k b hk hb,zCB,if_neg hkj];simp]at e;rw[zCS (f:=fun i=>(colL m g b).getD i 0*img m M (colL m g a) i) ha fun k hk hkj=>by rw[zEW,h k a hk ha,zCB,if_neg hkj];simp]at e;rw[zEW,zEW,h b b hb hb,h a a ha ha,zCB,zCB,if_pos rfl,if_pos rfl,qDh,qDh,colL,colL,zAL hb,zAL ha]at e;have h1:=hg a b ha hb;have h2:=hg b a hb ha;omega
theorem zTL{k:Nat->Nat->Int}(hN:NS m M)(hg:Bits m g)(hk:Bits m k)(h:∀i j,i<m->j<m->prod m M g i j=zCB i j)(h':∀i j,i<m->j<m->prod m M k i j=zCB i j):tab m g=tab m k:=by
 refine zMR fun i j hi hj=>?_
 have a:=zS4 hg hj;have b:=zS4 hk hj;have e:=hN (addB (colL m g j) (colL m k j)) (zDK a b) (fun c hc=>by
  have:=zRP (f:=M) a b c
  rw[zEW,zEW,h c j hc hj,h' c j hc hj]at this;rw[show(zCB c j+zCB c j)%2=0 by omega]at this;exact this) i
 rw[zCH _ _ i (by rw[a.1,b.1]) (by rw[a.1];exact hi),colL,colL,zAL hi,zAL hi]at e;have h1:=hg i j hi hj;have h2:=hk i j hi hj;omega
def imgL(m:Nat)(g:Nat->Nat->Int)(r:List Int):List Int:=(qA1 m).map fun a=>img m g r a
theorem zWR(h:∀i j,i<m->j<m->prod m M g i j=zCB i j){r:List Int}(hr:RowN m r){c:Nat}(hc:c<m):img m M (imgL m g r) c=r.getD c 0:=by
 unfold img;have e1:sumN m (fun a=>M c a*(imgL m g r).getD a 0)%2=sumN m (fun a=>sumN m fun b=>r.getD b 0*(M c a*g a b))%2:=by
  refine zF1 fun a ha=>?_
  rw[imgL,zAL ha];unfold img;rw[qBq,qE5,<- qBq,<- zF0]
  congr 1
  refine zAY fun b hb=>?_
  rw[<- qGv,qDb]
 rw[e1,zFQ];have e2:sumN m (fun b=>sumN m fun a=>r.getD b 0*(M c a*g a b))%2=sumN m (fun b=>r.getD b 0*zCB c b)%2:=by
  refine zF1 fun b hb=>?_
  rw[zF0,<- h c b hc hb];unfold prod;rw[qBq,qBq (r.getD b 0) (_%2),qE5]
 rw[e2,zCS (f:=fun b=>r.getD b 0*zCB c b) hc fun k hk hkc=>by rw[zCB,if_neg fun z=>hkc z.symm];simp,zCB,if_pos rfl]
 rcases zBQ (k:=c) hr with w|w<;>rw[w]<;>rfl
end
end Mp
namespace Mp
open Mi PySem
theorem zQA(ks:List Nat)(hz:ks.length<64):∃js:List Nat,js.Perm ks/\js.Pairwise (·<=·)/\sortD [rowD (numL ks)]=some (rowD (numL js)):=by
 have hp:(sortI (numL ks)).Perm (numL ks):=qCj _ _;have ha:(sortI (numL ks)).Pairwise (·<=·):=by
  have h:=qCs (le:=fun a b:Int=>decide (a<=b)) (fun a b c h1 h2=>by simp at *;omega) (fun a b=>by simp;omega) (numL ks);exact h.imp fun h=>by simpa using h
 have hm:∀x∈sortI (numL ks),0<=x:=by
  intro x hx;obtain⟨q,hq,rfl⟩:=qAa.mp (hp.mem_iff.mp hx);exact qDp q
 refine⟨(sortI (numL ks)).map qDd,?_,?_,?_⟩
 ·have:=hp.map qDd
  rw[show(numL ks).map qDd=ks by
   unfold numL;rw[qAo];exact List.map_id'' (fun _=>rfl) ks]at this
  exact this
 ·rw[qD5];exact ha.imp fun h=>Int.toNat_le_toNat h
 ·show(match intsD ((numL ks).map Dt.int)with|some ns=>_|none=>none)=_
  rw[zDU];dsimp only;rw[if_pos (by simp[numL];exact hz)];unfold rowD
  congr 3
  unfold numL;rw[qAo]
  have:∀l:List Int,(∀x∈l,0<=x)->l=l.map ((fun k:Nat=>(k:Int))∘qDd):=by
   intro l
   induction l with
   |nil=>intro _;rfl
   |cons a r ih=>
    intro h;have h0:=h a (by simp);rw[qAd,<- ih fun x hx=>h x (by simp[hx])];simp[qEr h0]
  exact this _ hm
def pk(m:Nat)(g:Nat->Nat->Int)(r:Nat->Int):List Nat:=(qA1 m).filter fun a=>decide (sumK g ((qA1 m).filter fun b=>decide (r b=1)) a=1)
theorem zR8{n i:Nat}{f g:Nat->Nat->Int}{ks:List Nat}(hn:n<=10)(hr:Rise n ks)(hg:Bits ks.length g)(hi:i<n):∃w:List Nat,zC9 [mat (tab n f),rowD (numL ks),mat (tab ks.length g),.int (i:Int)]=okR (rowD (numL w))/\w.Perm (i::(pk ks.length g fun a=>f i (ks.getD a 0)).map fun a=>ks.getD a 0)/\w.Pairwise (·<=·):=by
 have hz:ks.length<=n:=hr.le;have hk:=hr.lt
 generalize hP:(pk ks.length g fun a=>f i (ks.getD a 0))=P
 have hPl:∀a∈P,a<ks.length:=fun a ha=>by
  rw[<- hP]at ha
  simpa using(qAs.mp ha).1
 have hPz:P.length<=ks.length:=by
  rw[<- hP]
  have:=qDc (fun a=>decide (sumK g ((qA1 ks.length).filter fun b=>decide (f i (ks.getD b 0)=1)) a=1)) (qA1 ks.length)
  unfold pk
  simpa[-qA0]using this
 obtain⟨w,w1,w2,w3⟩:=zQA (i::P.map fun a=>ks.getD a 0) (by simp[-qA0];omega);refine⟨w,?_,w1,w2⟩;have h1:eComp (iSq (eV 1)) 1 (.one 6) Mi.tYes (eB ixD (eB ixD (eV 0) (eV 3)) (eV 6)) [some (mat (tab n f)),some (rowD (numL ks)),some (mat (tab ks.length g)),some (.int (i:Int)),none,none]=okR (rowD ((qA1 ks.length).map fun a=>f i (ks.getD a 0))):=by
  have:=zAZ (ρ:=[some (mat (tab n f)),some (rowD (numL ks)),some (mat (tab ks.length g)),some (.int (i:Int)),none,none]) (c:=tYes) (i:=6) (e:=eB ixD (eB ixD (eV 0) (eV 3)) (eV 6)) (fun k:Nat=>Dt.int (k:Int)) (fun k=>Dt.int (f i k)) ks rfl rfl (fun k hk'=>by
   have e1:=ixM (f:=f) hi;have e2:=ixR (g:=fun j=>f i j) (hk k hk');simp[-qA0,e1,e2]) (iSq (eV 1)) (by simp[-qA0,numD]) (by omega)
  rw[this,zG2 ks fun k=>Dt.int (f i k)];unfold rowD;rw[qAo];rfl
 have h2:=zOC ks.length (fun a=>f i (ks.getD a 0)) (by omega);have h3:=zSQ ks.length g ((qA1 ks.length).filter fun b=>decide (f i (ks.getD b 0)=1)) (by omega) hg fun k hk'=>by simpa using(qAs.mp hk').1
 have h4:=zOC ks.length (fun a=>sumK g ((qA1 ks.length).filter fun b=>decide (f i (ks.getD b 0)=1)) a) (by omega);rw[show(qA1 ks.length).filter (fun k=>decide (sumK g ((qA1 ks.length).filter fun b=>decide (f i (ks.getD b 0)=1)) k=1))=P from hP]at h4;have h5:eComp (iSq (eV 5)) 1 (.one 6) Mi.tYes (eB ixD (eV 1) (eV 6)) [some (mat (tab n f)),some (rowD (numL ks)),some (mat (tab ks.length g)),some (.int (i:Int)),some (rowD ((qA1 ks.length).map fun a=>f i (ks.getD a 0))),some (.lst (P.map fun k:Nat=>Dt.int (k:Int)))]=okR (rowD (numL (P.map fun a=>ks.getD a 0))):=by
  have:=zAZ (ρ:=[some (mat (tab n f)),some (rowD (numL ks)),some (mat (tab ks.length g)),some (.int (i:Int)),some (rowD ((qA1 ks.length).map fun a=>f i (ks.getD a 0))),some (.lst (P.map fun k:Nat=>Dt.int (k:Int)))]) (c:=tYes) (i:=6) (e:=eB ixD (eV 1) (eV 6)) (fun k:Nat=>Dt.int (k:Int)) (fun a=>Dt.int (ks.getD a 0:Nat)) P rfl rfl (fun a ha=>by
   have e2:=zPH (numL ks) a (by simp[numL];exact hPl a ha);have e3:(numL ks).getD a 0=((ks.getD a 0:Nat):Int):=by
    unfold numL;exact zHI (hPl a ha)
   rw[e3]at e2;simp[-qA0,e2]) (iSq (eV 5)) (by simp[-qA0]) (by omega)
  rw[this,numD,qAo];rfl
 have h6:addD (.lst [.int (i:Int)]) (rowD (numL (P.map fun a=>ks.getD a 0)))=some (rowD (numL (i::P.map fun a=>ks.getD a 0))):=by
  have:=addR [(i:Int)] (numL (P.map fun a=>ks.getD a 0)) (by simp[-qA0,numL];omega)
  exact this
 generalize hR:rowD ((qA1 ks.length).map fun a=>f i (ks.getD a 0))=R at h1 h2 h5
 generalize hS:rowD ((qA1 ks.length).map fun j=>sumK g ((qA1 ks.length).filter fun b=>decide (f i (ks.getD b 0)=1)) j)=S at h3 h4
 generalize hO:Dt.lst (((qA1 ks.length).filter fun b=>decide (f i (ks.getD b 0)=1)).map fun k:Nat=>Dt.int (k:Int))=O at h2 h3
 have dR:R.dep<=1:=by rw[<- hR];simp[-qA0]
 have dP:Dt.depL (P.map fun k:Nat=>Dt.int (k:Int))=0:=by
  have:=zCW (P.map fun k:Nat=>(k:Int))
  rw[qAo]at this;exact this
 have dw:(rowD (numL w)).dep<=1:=by simp[-qA0]
 generalize rowD (numL ks)=K at *
 generalize mat (tab ks.length g)=G at *
 generalize mat (tab n f)=F at *
 generalize rowD (numL w)=Wd at *
 generalize rowD (numL (P.map fun a=>ks.getD a 0))=Q at *
 refine zC3 rfl ?_;show zEX [some (F,0),some (K,0),some (G,0),some (.int (i:Int),0),none,none]=_;unfold zEX;refine zBN fun bb hb=>zBO (r:=[some (F,0),some (K,0),some (G,0),some (.int (i:Int),0),some (R,1),none]) (by simp[-qA0,h1,dR]) ?_
 subst hb;refine zBN fun bb hb=>zBO (r:=[some (F,0),some (K,0),some (G,0),some (.int (i:Int),0),some (R,1),some (.lst (P.map fun k:Nat=>Dt.int (k:Int)),1)]) (by simp[-qA0,h2,h3,h4,dP]) ?_
 subst hb;have h5':=h5;simp[-qA0,h5,h6,w3,dw]
theorem zSR{h:Nat->Int}{a b:List Nat}(p:a.Perm b):(a.map h).sum=(b.map h).sum:=by
 induction p with
 |nil=>rfl
 |cons x _ ih=>simp[ih]
 |swap x y l=>simp;omega
 |trans _ _ h1 h2=>exact h1.trans h2
theorem zJ9(p h:Nat->Int):∀l:List Nat,(∀k∈l,Bit (p k))->((l.filter fun k=>decide (p k=1)).map h).sum=(l.map fun k=>p k*h k).sum
 |[],_=>rfl
 |a::r,hb=>by
  have ih:=zJ9 p h r fun k hk=>hb k (by simp[hk])
  rcases hb a (by simp)with z|z
  ·rw[qCu (by simp[z]),qAd,qCr,ih,z];simp
  ·rw[qCv (by simp[z]),qAd,qAd,qCr,qCr,ih,z];simp
theorem zPC{ks:List Nat}(h:ks.Nodup){P:List Nat}(hP:P.Nodup)(hl:∀a∈P,a<ks.length):(P.map fun a=>ks.getD a 0).Nodup:=
 zEQ hP fun x hx y hy e=>by
  have h1:=hl x hx;have h2:=hl y hy;simp[h1,h2]at e;exact(qE6 h).mp e
theorem zTB{n q i:Nat}{f g:Nat->Nat->Int}{ks w:List Nat}(hn:n<=10)(hb:Bits n f)(hs:Sym n f)(hr:Rise n ks)(hg:Bits ks.length g)(hN:NS ks.length (sub ks f))(hd:∀i j,i<ks.length->j<ks.length->prod ks.length (sub ks f) g i j=zCB i j)(hq:cnt n (KerF n f)=2 ^ q)(hl:ks.length+q=n)(hi:i<n)(hik:i∉ks)(hp:w.Perm (i::(pk ks.length g fun a=>f i (ks.getD a 0)).map fun a=>ks.getD a 0))(ha:w.Pairwise (·<=·)):Nth n f ks i w:=by
 have hk:=hr.lt;have hkd:=zHE hr.up
 let r:List Int:=(qA1 ks.length).map fun a=>f i (ks.getD a 0)
 have hrr:RowN ks.length r:=⟨by simp[-qA0,r],fun x hx=>by
  obtain⟨a,ha',rfl⟩:=qAa.mp hx;exact hb _ _ hi (zC0 hk (by simpa using ha'))⟩
 have hss:Sym ks.length (sub ks f):=fun a b ha' hb'=>hs _ _ (zC0 hk ha') (zC0 hk hb')
 have hgs:Sym ks.length g:=zRY hss hd hg
 let y:Nat->Int:=fun a=>sumK g ((qA1 ks.length).filter fun b=>decide (f i (ks.getD b 0)=1)) a
 have hy:∀a,a<ks.length->y a=img ks.length g r a:=fun a ha'=>by
  show((qA1 ks.length).filter fun b=>decide (f i (ks.getD b 0)=1)).foldl (fun t k=>(t+g k a)%2) 0=_
  rw[zHJ (fun b=>f i (ks.getD b 0)) (fun k=>g k a) (qA1 ks.length) 0 (.inl rfl) fun k hk'=>hb _ _ hi (zC0 hk (by simpa using hk'))];unfold img sumN;rw[Int.zero_add]
  congr 2
  refine qAq fun b hb'=>?_
  have hbm:b<ks.length:=by simpa using hb'
  rw[zAL hbm,hgs a b ha' hbm,qDb]
 have hyb:∀a,Bit (y a):=fun a=>zKI g a _ 0 (.inl rfl)
 have hPl:∀a∈pk ks.length g fun a=>f i (ks.getD a 0),a<ks.length:=fun a h=>by simpa using(qAs.mp h).1
 have hPd:(pk ks.length g fun a=>f i (ks.getD a 0)).Nodup:=qFi.filter _;have hnd:w.Nodup:=hp.nodup_iff.mpr (by
  rw[qB9];refine⟨fun z=>?_,zPC hkd hPd hPl⟩;obtain⟨a,h1,h2⟩:=qAa.mp z;exact hik (by rw[<- h2];exact zAQ (hPl a h1)))
 have hup:w.Pairwise (· < ·):=(ha.and hnd).imp fun h=>by
  have:=h.1;have:=h.2;omega
 have hsub:∀k∈w,k=i\/k∈ks:=fun k h=>by
  rcases qA9.mp (hp.mem_iff.mp h)with h|h
  ·exact .inl h
  ·obtain⟨a,h1,rfl⟩:=qAa.mp h;exact .inr (zAQ (hPl a h1))
 have hlt:∀k∈w,k<n:=fun k h=>by
  rcases hsub k h with rfl|h
  ·exact hi
  ·exact hk k h
 have hsum:∀j,(w.map fun k=>f k j).sum=f i j+sumN ks.length fun a=>y a*f (ks.getD a 0) j:=fun j=>by
  rw[zSR hp,qAd,qCr,qAo]
  congr 1
  exact zJ9 y (fun a=>f (ks.getD a 0) j) (qA1 ks.length) fun k _=>hyb k
 have hker:KerF n f (ind n w):=by
  refine zPG hn hb hkd hk hN hq hl (zNB n w) fun k hkk=>?_
  obtain⟨c,hc,rfl⟩:=zDO hkk;have e:=zIG (j:=ks.getD c 0) hs hup hlt (hk _ hkk);rw[hsum]at e;have e2:=zWR hd hrr hc;unfold img at e2;rw[zAY (g:=fun a=>y a*f (ks.getD a 0) (ks.getD c 0)) fun a ha'=>by
   rw[imgL,zAL ha',<- hy a ha'];show f (ks.getD c 0) (ks.getD a 0)*_=_;rw[hs _ _ (zC0 hk hc) (zC0 hk ha'),qDb],zAL hc]at e2
  have e3:=hb _ _ hi (zC0 hk hc);unfold Ev;unfold img at e;rw[e];omega
 refine⟨hup,hp.mem_iff.mpr (by simp),hsub,fun j hj=>?_⟩;rw[<- zIG hs hup hlt hj];exact hker j hj
noncomputable def oths(n:Nat)(ks:List Nat):List Nat:=(qA1 n).filter fun i=>!decide (i∈ks)
theorem oths_mem{n i:Nat}{ks:List Nat}:i∈oths n ks↔i<n/\i∉ks:=by
 unfold oths;rw[qAs];simp
theorem zPB{n:Nat}{f g:Nat->Nat->Int}{ks:List Nat}(hn:n<=10)(hr:Rise n ks)(hg:Bits ks.length g):∃W:Nat->List Nat,zCC [mat (tab n f),rowD (numL ks),mat (tab ks.length g)]=okR (mat ((oths n ks).map fun i=>numL (W i)))/\∀i,i<n->(W i).Perm (i::(pk ks.length g fun a=>f i (ks.getD a 0)).map fun a=>ks.getD a 0)/\(W i).Pairwise (·<=·):=by
 have all:∀i:Nat,∃w:List Nat,i<n->zC9 [mat (tab n f),rowD (numL ks),mat (tab ks.length g),.int (i:Int)]=okR (rowD (numL w))/\w.Perm (i::(pk ks.length g fun a=>f i (ks.getD a 0)).map fun a=>ks.getD a 0)/\w.Pairwise (·<=·):=fun i=>by
  by_cases h:i<n
  ·obtain⟨w,hw⟩:=zR8 (f:=f) hn hr hg h;exact⟨w,fun _=>hw⟩
  ·exact⟨[],fun z=>absurd z h⟩
 obtain⟨W,hW⟩:=Classical.axiomOfChoice all;refine⟨W,?_,fun i hi=>(hW i hi).2⟩;have hW':∀i,i<n->zC9 [mat (tab n f),rowD (numL ks),mat (tab ks.length g),.int (i:Int)]=okR (rowD (numL (W i))):=fun i hi=>(hW i hi).1
 have hc:eComp (iR1 (aCons (eBi lenD (aCons (eV 0) aNil)) aNil)) 1 (.one 3) (tB (eB (inD true) (eV 3) (eV 1))) (eCall zC9 (aCons (eV 0) (aCons (eV 1) (aCons (eV 2) (aCons (eV 3) aNil))))) [some (mat (tab n f)),some (rowD (numL ks)),some (mat (tab ks.length g))]=okR (mat ((oths n ks).map fun i=>numL (W i))):=by
  have:=zBW (ρ:=[some (mat (tab n f)),some (rowD (numL ks)),some (mat (tab ks.length g))]) (c:=tB (eB (inD true) (eV 3) (eV 1))) (e:=eCall zC9 (aCons (eV 0) (aCons (eV 1) (aCons (eV 2) (aCons (eV 3) aNil))))) (i:=3) (fun k:Nat=>Dt.int (k:Int)) (fun k:Nat=>rowD (numL (W k))) (fun i=>!decide (i∈ks)) (qA1 n) rfl (fun i hi=>by simp[-qA0,zTC]) (fun i hi _=>by
   have:=hW' i (by simpa using hi)
   simp[-qA0,this]) (iR1 (aCons (eBi lenD (aCons (eV 0) aNil)) aNil)) (by rw[zD6 (n:=n) (by simp[-qA0,zBY]) (by omega),zD4]) (by simp[-qA0];omega)
  rw[this];unfold mat oths;rw[qAo];rfl
 have hd:=zC1 ((oths n ks).map fun i=>numL (W i))
 generalize mat ((oths n ks).map fun i=>numL (W i))=O at *
 generalize rowD (numL ks)=K at *
 generalize mat (tab ks.length g)=G at *
 generalize mat (tab n f)=F at *
 unfold zCC zGH;simp[-qA0,hc,hd]
theorem zPX{m:Nat}{g:Nat->Nat->Int}(hm:m<=10)(hb:Bits m g):(zDS [mat (tab m g)]=okR .non/\¬NS m g)\/∃h,Bits m h/\NS m g/\(∀i j,i<m->j<m->prod m g h i j=zCB i j)/\zDS [mat (tab m g)]=okR (mat (tab m h)):=by
 obtain⟨d,u1,u2⟩:=zL3 m (tab m g) (zBY m g) (zEZ hb) hm
 rcases u2 with⟨rfl,x,x1,x2,j,x3,x4⟩|⟨R,rfl,g1,g2,g3⟩
 ·exact .inl ⟨u1,fun h=>by
   have:=h x x1 ((zKD x1.1).mp x2) j
   rw[x4]at this;simp at this⟩
 ·exact .inr ⟨ent R,fun i j hi hj=>zGR g2 (by rw[g1];exact hi) hj,zXJ g3,zSN hb g1 g2 g3,by rw[<- zO1 g1 g2];exact u1⟩
theorem zNC(x:Int)(l:List Int):hasD (.int x) (l.map Dt.int)=some (decide (x∈l)):=by
 rw[hasD,if_pos ⟨rfl,zCW _⟩]
 congr 1
 induction l with
 |nil=>rfl
 |cons k r ih=>
  rw[qAd,qBp,ih]
  by_cases h:x=k
  ·subst h;simp
  ·simp[h,show ¬k=x by omega]
theorem zUV(x:Int)(l:List Int):inD false (.int x) (rowD l)=some (.bl (decide (x∈l))):=by
 show(hasD (.int x) (l.map Dt.int)).map _=_
 rw[zNC];rfl
theorem zN5(x:Int)(l:List Int):inD true (.int x) (rowD l)=some (.bl (!decide (x∈l))):=by
 show(hasD (.int x) (l.map Dt.int)).map _=_
 rw[zNC];rfl
theorem zKY(r:List Int)(hz:r.length<=1000):zD0 [rowD r]=okR (.bl true):=by
 unfold zD0 zIV;have hw:=zH7;have hc:eComp (iSq (eV 0)) 1 (.one 1) Mi.tYes (eCall zBT (aCons (eV 1) aNil)) [some (rowD r)]=okR (.lst (r.map fun _=>Dt.bl true)):=by
  refine zAZ (fun k:Int=>Dt.int k) _ r rfl rfl (fun k _=>by simp[hw]) _ (by simp[rowD]) (by omega)
 have hb:=zEB r;simp[startO,hc,hb]
noncomputable def kof(n:Nat)(P:List Int):List Nat:=(qA1 n).filter fun i:Nat=>decide ((i:Int)∈P)
theorem zOH(n:Nat)(P:List Int):Rise n (kof n P):=zMY n _
theorem zKB{n:Nat}{ks:List Nat}(h:Rise n ks):kof n (numL ks)=ks:=by
 have e:ks=(qA1 n).filter fun i=>decide (i∈ks):=h
 unfold kof
 rw(occs:=[3]) [e]
 refine qE0 fun i _=>?_
 simp[numL];exact⟨fun⟨a,h,e⟩=>by rwa [show a=i by omega]at h,fun h=>⟨i,h,rfl⟩⟩
theorem zQG(n:Nat)(f:Nat->Nat->Int)(P:List Int)(hn:n<=10)(hz:P.length<=1000):zG3 [mat (tab n f),rowD P]=okR (.bl (decide (P=numL (kof n P)))):=by
 have hw:=zKY P hz;have hc:eComp (iR1 (aCons (eBi lenD (aCons (eV 0) aNil)) aNil)) 1 (.one 2) (tB (eB (inD false) (eV 2) (eV 1))) (eV 2) [some (mat (tab n f)),some (rowD P)]=okR (rowD (numL (kof n P))):=by
  have:=zBW (ρ:=[some (mat (tab n f)),some (rowD P)]) (c:=tB (eB (inD false) (eV 2) (eV 1))) (e:=eV 2) (i:=2) (fun k:Nat=>Dt.int (k:Int)) (fun k:Nat=>Dt.int (k:Int)) (fun i:Nat=>decide ((i:Int)∈P)) (qA1 n) rfl (fun i hi=>by simp[zUV]) (fun i _ _=>by simp) (iR1 (aCons (eBi lenD (aCons (eV 0) aNil)) aNil)) (by rw[zD6 (n:=n) (by simp[zBY]) (by omega),zD4]) (by simp;omega)
  rw[this,numD];rfl
 unfold zG3 zOV;have he:=zOL P (numL (kof n P));simp[startO,hw,hc,he]
theorem zI9(A B:List (List Int))(h1:A.length<=1000)(h2:∀r∈A,r.length<=1000):zDT [mat A,mat B]=okR (.bl (decide (A=B))):=by
 have he:=zOM A B;have hda:=zC1 A;have hdb:=zC1 B;have hc:eComp (iSq (eV 0)) 1 (.one 2) Mi.tYes (eCall zD0 (aCons (eV 2) aNil)) [some (mat A),some (mat B)]=okR (.lst (A.map fun _=>Dt.bl true)):=by
  refine zAZ rowD _ A rfl rfl (fun r hr=>by simp[zKY r (h2 r hr)]) _ (by simp[mat]) (by omega)
 have hb:=zEB A;have ha:(mat A).dep<=40:=by omega
 have hb2:(mat B).dep<=40:=by omega
 generalize mat A=X at *
 generalize mat B=Y at *
 unfold zDT zIU
 by_cases h:A=B
 ·simp only[h,decide_true]at he ⊢;simp[startO,hc,hb,ha,hb2,he]
 ·simp only[h,decide_false]at he ⊢;simp[startO,ha,hb2,he]
structure Ppr(n:Nat)(f:Nat->Nat->Int)(P:List Int)(B N:List (List Int))(ks:List Nat)(g:Nat->Nat->Int)(W:Nat->List Nat):Prop where
 rise:Rise n ks
 part:P=numL ks
 bits:Bits ks.length g
 inv:∀i j,i<ks.length->j<ks.length->prod ks.length (sub ks f) g i j=zCB i j
 back:B=tab ks.length g
 noth:N=(oths n ks).map fun i=>numL (W i)
 nth:∀i,i<n->i∉ks->Nth n f ks i (W i)
def PprE(n:Nat)(f:Nat->Nat->Int)(P:List Int)(B N:List (List Int)):Prop:=∃ks g W,Ppr n f P B N ks g W
theorem zLV{n:Nat}{f:Nat->Nat->Int}(hn:n<=10)(hb:Bits n f):∃(q:Nat)(ks:List Nat),cnt n (KerF n f)=2 ^ q/\ks.length+q=n/\GK n (tab n f) ks n/\zBS [mat (tab n f)]=okR (rowD (numL ks)):=by
 have hT:=zBY n f;have hr:=zEZ hb;obtain⟨ks,ls,h1,h2,h3,h4⟩:=zJL hT hr (by omega);have hle:=h3.le;have hc:=zNI ls (zN8 h3.rows h3.lds);have e:cnt n (Ker ls)=cnt n (KerF n f):=zCX fun x hx=>by
  rw[h3.ker x hx,qBc (by rw[hT];exact qA7 _)];exact zKD hx.1
 rw[e]at hc;refine⟨n-ls.length,ks,?_,by omega,h4,h1⟩;have hp:2 ^ n=2 ^ (n-ls.length)*2 ^ ls.length:=by rw[<- qE4];congr 1;omega
 rw[hp]at hc;exact qDm (qH4 (by omega)) hc
section
variable{n:Nat}{f:Nat->Nat->Int}{P:List Int}{B N:List (List Int)}{ks:List Nat}{g:Nat->Nat->Int}{W:Nat->List Nat}
theorem zVN(hs:Sym n f)(hr:Rise n ks):Sym ks.length (sub ks f):=fun a b ha hb=>hs _ _ (zC0 hr.lt ha) (zC0 hr.lt hb)
theorem zJV(hb:Bits n f)(hr:Rise n ks):Bits ks.length (sub ks f):=fun a b ha hb'=>hb _ _ (zC0 hr.lt ha) (zC0 hr.lt hb')
theorem Ppr.ns(hs:Sym n f)(a:Ppr n f P B N ks g W):NS ks.length (sub ks f):=zTW (zVN hs a.rise) a.bits a.inv
theorem Ppr.len{q:Nat}(hs:Sym n f)(a:Ppr n f P B N ks g W)(hq:cnt n (KerF n f)=2 ^ q):ks.length+q=n:=by
 have h1:=zR0 (zHE a.rise.up) a.rise.lt (a.ns hs) hq;have h2:=zZ1 hq fun x hx h=>zWM hs a.rise.lt (fun i hi hik=>⟨_,a.nth i hi hik⟩) hx h
 omega
theorem Ppr.same{g':Nat->Nat->Int}{W':Nat->List Nat}(hs:Sym n f){P' B' N'}(a:Ppr n f P B N ks g W)(b:Ppr n f P' B' N' ks g' W'):P=P'/\B=B'/\N=N':=by
 refine⟨a.part.trans b.part.symm,?_,?_⟩
 ·rw[a.back,b.back];exact zTL (a.ns hs) a.bits b.bits a.inv b.inv
 ·rw[a.noth,b.noth];refine qAq fun i hi=>?_
  obtain⟨h1,h2⟩:=oths_mem.mp hi;rw[Nth.uniq hs ((zaM (zHE a.rise.up) a.rise.lt).mp (a.ns hs)) h1 a.rise.lt h2 (a.nth i h1 h2) (b.nth i h1 h2)]
theorem zOG{q:Nat}(hn:n<=10)(hb:Bits n f)(hs:Sym n f)(hr:Rise n ks)(hN:NS ks.length (sub ks f))(hq:cnt n (KerF n f)=2 ^ q)(hl:ks.length+q=n):∃g W,zDS [mat (tab ks.length (sub ks f))]=okR (mat (tab ks.length g))/\zCC [mat (tab n f),rowD (numL ks),mat (tab ks.length g)]=okR (mat ((oths n ks).map fun i=>numL (W i)))/\Ppr n f (numL ks) (tab ks.length g) ((oths n ks).map fun i=>numL (W i)) ks g W:=by
 rcases zPX (m:=ks.length) (by omega) (zJV hb hr)with⟨_,z⟩|⟨g,g1,_,g2,g3⟩
 ·exact absurd hN z
 ·obtain⟨W,w1,w2⟩:=zPB (f:=f) hn hr g1;exact⟨g,W,g3,w1,hr,rfl,g1,g2,rfl,rfl,fun i hi hik=>zTB hn hb hs hr g1 hN g2 hq hl hi hik (w2 i hi).1 (w2 i hi).2⟩
end
theorem zZ0(A:List (List Int)):isNonD (mat A)=false:=rfl
theorem zP5{n:Nat}{f:Nat->Nat->Int}{P:List Int}{B N:List (List Int)}(hn:n<=10)(hb:Bits n f)(hs:Sym n f)(hP:P.length<=1000)(hB:B.length<=1000/\∀r∈B,r.length<=1000)(hN:N.length<=1000/\∀r∈N,r.length<=1000):∃b:Bool,zD8 [mat (tab n f),.tup [rowD P,mat B,mat N]]=okR (.bl b)/\(b=true↔PprE n f P B N):=by
 obtain⟨q,k0,hq,hl0,_,hgr⟩:=zLV hn hb;have hset:=zQG n f P hn hP;have i0:ixD (.tup [rowD P,mat B,mat N]) (.int 0)=some (rowD P):=zDA (j:=0) rfl rfl;have i1:ixD (.tup [rowD P,mat B,mat N]) (.int 1)=some (mat B):=zDA (j:=1) rfl rfl;have i2:ixD (.tup [rowD P,mat B,mat N]) (.int 2)=some (mat N):=zDA (j:=2) rfl rfl;have no:∀x:R Dt,x=okR (.bl false)->¬PprE n f P B N->∃b:Bool,x=okR (.bl b)/\(b=true↔PprE n f P B N):=fun x h1 h2=>⟨false,h1,by simp[h2]⟩
 have hlk:lenD [rowD (numL k0)]=some (.int (k0.length:Int)):=by unfold rowD;simp[numL]
 have hlP:lenD [rowD P]=some (.int (P.length:Int)):=by unfold rowD;simp
 have d1:¬(rowD P).dep<=0:=by unfold rowD;simp
 generalize hX:Dt.tup [rowD P,mat B,mat N]=X at i0 i1 i2 ⊢
 by_cases h1:P=numL (kof n P)
 ·generalize hks:kof n P=ks at hset h1
  have hr:Rise n ks:=by rw[<- hks];exact zOH n P
  have hpl:P.length=ks.length:=by rw[h1];simp[numL]
  have hks':∀{ks' g W},Ppr n f P B N ks' g W->ks'=ks:=fun{ks' g W} a=>by
   rw[<- hks,a.part,zKB a.rise]
  have hset':zG3 [mat (tab n f),rowD P]=okR (.bl true):=by rw[hset];simp[h1.symm]
  by_cases h2:ks.length=k0.length
  ·have hl:ks.length+q=n:=by omega
   have hpm:=zK4 n f ks hr.lt (by have:=hr.le;omega);rw[<- h1]at hpm
   by_cases hNS:NS ks.length (sub ks f)
   ·obtain⟨g,W,m1,m2,m3⟩:=zOG hn hb hs hr hNS hq hl;rw[<- h1]at m2 m3;have l1:=zI9 B (tab ks.length g) hB.1 hB.2;have l2:=zI9 N ((oths n ks).map fun i=>numL (W i)) hN.1 hN.2;refine⟨decide (B=tab ks.length g)&&decide (N=(oths n ks).map fun i=>numL (W i)),?_,?_⟩
    ·have nn:=zZ0 (tab ks.length g);have hd3:=zC1 (tab ks.length g);have h3:(P.length:Int)=(k0.length:Int):=by omega
     exact zC3 rfl (sgf (b2 rfl rfl i0) d1 (b2 rfl rfl i0) (sp (to0 (tn1 (tm1 (c2 rfl rfl hset'))) (nei (bi1 rfl hlP) (bi1 (c1 rfl hgr) hlk) (by rw[decide_eq_true h3];rfl))) (sg (c1 (c2 rfl rfl hpm) m1) hd3 (sp (tb1 (b2 rfl rfl rfl)) (sr (an1 (c2 (b2 rfl rfl i1) rfl l1) (c2 (b2 rfl rfl i2) (c3 rfl rfl rfl m2) l2)) ⟨qA7 0,qA7 0⟩)))))
    ·simp only[qBf,decide_eq_true_eq];constructor
     ·rintro⟨rfl,rfl⟩
      exact⟨ks,g,W,m3⟩
     ·rintro⟨ks',g',W',a⟩
      cases hks' a;exact(a.same hs m3).2
   ·refine no _ ?_ fun⟨ks',g',W',a⟩=>?_
    ·rcases zPX (m:=ks.length) (by omega) (zJV hb hr)with⟨z,_⟩|⟨_,_,z,_⟩
     ·have h3:(P.length:Int)=(k0.length:Int):=by omega
      exact zC3 rfl (sgf (b2 rfl rfl i0) d1 (b2 rfl rfl i0) (sp (to0 (tn1 (tm1 (c2 rfl rfl hset'))) (nei (bi1 rfl hlP) (bi1 (c1 rfl hgr) hlk) (by rw[decide_eq_true h3];rfl))) (sg (c1 (c2 rfl rfl hpm) z) (qAp 2) (sx (tb1 (b2 rfl rfl rfl)) (sr rfl ⟨qA7 0,qA7 0⟩)))))
     ·exact absurd z hNS
    ·cases hks' a;exact hNS (a.ns hs)
  ·refine no _ ?_ fun⟨ks',g',W',a⟩=>?_
   ·have h3:¬(P.length:Int)=(k0.length:Int):=by omega
    exact zC3 rfl (sgf (b2 rfl rfl i0) d1 (b2 rfl rfl i0) (sx (to0 (tn1 (tm1 (c2 rfl rfl hset'))) (nei (bi1 rfl hlP) (bi1 (c1 rfl hgr) hlk) (by rw[decide_eq_false h3];rfl))) (sr rfl ⟨qA7 0,qA7 0⟩)))
   ·cases hks' a
    have:=a.len hs hq
    omega
 ·refine no _ ?_ fun⟨ks',g',W',a⟩=>h1 ?_
  ·rw[show decide (P=numL (kof n P))=false by simp[h1]]at hset;exact zC3 rfl (sgf (b2 rfl rfl i0) d1 (b2 rfl rfl i0) (sx (to1 (tn1 (tm1 (c2 rfl rfl hset)))) (sr rfl ⟨qA7 0,qA7 0⟩)))
  ·rw[a.part,zKB a.rise]
end Mp
namespace Mp
open Mi PySem
theorem zO2:∀{a b:List Int},a.Pairwise (· < ·)->b.Pairwise (· < ·)->(∀x,x∈a↔x∈b)->a=b
 |[],[],_,_,_=>rfl
 |[],y::b,_,_,h=>by have:=(h y).mpr (by simp);simp at this
 |x::a,[],_,_,h=>by have:=(h x).mp (by simp);simp at this
 |x::a,y::b,ha,hb,h=>by
  obtain⟨a1,a2⟩:=qBe.mp ha;obtain⟨b1,b2⟩:=qBe.mp hb;have hxy:x=y:=by
   have h1:=(h x).mp (by simp);have h2:=(h y).mpr (by simp)
   rcases qA9.mp h1 with z|z
   ·exact z
   ·rcases qA9.mp h2 with w|w
    ·exact w.symm
    ·have:=b1 x z;have:=a1 y w;omega
  subst hxy
  congr 1
  refine zO2 a2 b2 fun z=>⟨fun hz=>?_,fun hz=>?_⟩
  ·rcases qA9.mp ((h z).mp (qAr _ hz))with e|e
   ·have:=a1 z hz;omega
   ·exact e
  ·rcases qA9.mp ((h z).mpr (qAr _ hz))with e|e
   ·have:=b1 z hz;omega
   ·exact e
theorem zGF{α:Type}(p:α->Bool)(l:List α):anyD [.lst (l.map fun x=>Dt.bl (p x))]=some (.bl (l.any p)):=by
 have hall:∀l:List α,boolsD (l.map fun x=>Dt.bl (p x))=some (l.map p):=by
  intro l
  induction l with
  |nil=>rfl
  |cons a r ih=>simp[boolsD,ih]
 simp[anyD,hall]
theorem zVO(r:List Int)(h:r.length<64):soiD [rowD r]=some (rowD (soiL r)):=by
 show(match intsD (r.map Dt.int)with|some ns=>_|none=>none)=_
 rw[zDU];dsimp only;rw[if_pos h];rfl
theorem zVM(r:List Int)(h:r.length<=1000)(hb:∀x∈r,Bit x):sumD [rowD r]=some (.int r.sum):=by
 show(match intsD (r.map Dt.int)with|some ns=>_|none=>none)=_
 rw[zDU];dsimp only;rw[if_pos ⟨by omega,fun n hn=>by rcases hb n hn with z|z<;>omega⟩]
theorem zNT:∀(os:List Nat)(N:List (List Int)),zipD ((numL os).map Dt.int) (N.map rowD)=(os.zip N).map fun p=>Dt.tup [.int (p.1:Int),rowD p.2]
 |[],_=>rfl
 |_::_,[]=>rfl
 |a::os,r::N=>by
  have:=zNT os N
  simp only[numL,qAd,zipD,qEy]at this ⊢;rw[this]
def Okr(n:Nat)(f:Nat->Nat->Int)(P:List Int)(i:Nat)(row:List Int):Prop:=
 row=soiL row/\(i:Int)∈row/\(∀k∈row,k=(i:Int)\/k∈P)/\∀j,j<n->(row.map fun k=>f k.toNat j).sum%2=0
theorem zR4{n i:Nat}{f:Nat->Nat->Int}{ks:List Nat}{row:List Int}(h:Okr n f (numL ks) i row):row=numL (row.map qDd)/\Nth n f ks i (row.map qDd):=by
 obtain⟨h1,h2,h3,h4⟩:=h;have h0:∀k∈row,0<=k:=fun k hk=>by
  rcases h3 k hk with z|z
  ·rw[z];exact qDp i
  ·obtain⟨a,_,rfl⟩:=qAa.mp z;exact qDp a
 have e:row=numL (row.map qDd):=by
  unfold numL;rw[qAo]
  have:∀l:List Int,(∀k∈l,0<=k)->l=l.map ((fun k:Nat=>(k:Int))∘qDd):=by
   intro l
   induction l with
   |nil=>intro _;rfl
   |cons a r ih=>
    intro h;have h0:=h a (by simp);rw[qAd,<- ih fun x hx=>h x (by simp[hx])];simp[qEr h0]
  exact this row h0
 refine⟨e,?_,?_,?_,?_⟩
 ·have hp:=zQC row;rw[<- h1]at hp;rw[qD5];refine(qH2.mp hp).imp fun{a b} h=>?_
  have:=h0 a h.1
  have:=h.2.2
  omega
 ·exact qAa.mpr ⟨_,h2,by simp⟩
 ·intro k hk;obtain⟨x,hx,rfl⟩:=qAa.mp hk
  rcases h3 x hx with z|z
  ·left;rw[z];simp
  ·right
   obtain⟨a,ha,rfl⟩:=qAa.mp z
   simpa using ha
 ·intro j hj;rw[qAo];exact h4 j hj
theorem zWB{n i:Nat}{f:Nat->Nat->Int}{ks w:List Nat}(a:Nth n f ks i w):Okr n f (numL ks) i (numL w):=by
 have up:(numL w).Pairwise (· < ·):=by
  unfold numL;rw[qD5];exact a.up.imp fun h=>by omega
 refine⟨zO2 up (zQC _) fun x=>(zSU _ x).symm,qAa.mpr ⟨i,a.at_,rfl⟩,fun k hk=>?_,fun j hj=>?_⟩
 ·obtain⟨x,hx,rfl⟩:=qAa.mp hk
  rcases a.sub_ x hx with z|z
  ·left;rw[z]
  ·right;exact qAa.mpr ⟨x,z,rfl⟩
 ·have:=a.nil j hj
  unfold numL;rw[qAo];exact this
noncomputable def gB:SM:=sSeq (sIf (Mi.tOr (tB (eB neD (eV 8) (eBi soiD (aCons (eV 8) aNil)))) (Mi.tOr (tB (eB (inD true) (eV 7) (eV 8))) (tM (eBi anyD (aCons (eComp (iSq (eV 8)) 1 (.one 9) Mi.tYes (eAnd (eB neD (eV 9) (eV 7)) (eB (inD true) (eV 9) (eV 2)))) aNil))))) (sRet 0 0 [] (eC (.bl false))) sNil)
 (sIf (tM (eBi anyD (aCons (eComp (iR1 (aCons (eV 5) aNil)) 1 (.one 9) Mi.tYes (eB eqD (eB modD (eBi sumD (aCons (eComp (iSq (eV 8)) 1 (.one 10) Mi.tYes (eB ixD (eB ixD (eV 0) (eV 10)) (eV 9))) aNil)) (eC (.int 2))) (eC (.int 1)))) aNil))) (sRet 0 0 [] (eC (.bl false))) sNil)
theorem zPY{n i:Nat}{f:Nat->Nat->Int}{P row:List Int}{x1 x3 x4 x6:Option Sl}(hn:n<=10)(hb:Bits n f)(hP:P.length<=1000)(hk:∀k∈P,∃a:Nat,k=(a:Int)/\a<n)(hi:i<n)(hz:row.length<64) :
  (Okr n f P i row/\gB [some (mat (tab n f),0),x1,some (rowD P,0),x3,x4,some (.int (n:Int),0),x6,some (.int (i:Int),0),some (rowD row,0)]=okR (.nx [some (mat (tab n f),0),x1,some (rowD P,0),x3,x4,some (.int (n:Int),0),x6,some (.int (i:Int),0),some (rowD row,0)])) \/
  (¬Okr n f P i row/\gB [some (mat (tab n f),0),x1,some (rowD P,0),x3,x4,some (.int (n:Int),0),x6,some (.int (i:Int),0),some (rowD row,0)]=okR (.rt (.bl false))):=by
 have h1:=zVO row hz;have dr:∀l:List Int,(rowD l).dep<=40:=fun l=>by unfold rowD;simp
 have h2:=zN5 (i:Int) row;have h3:Dt.eq (rowD row) (rowD (soiL row))=decide (row=soiL row):=zOL _ _;have hc:∀y0 y1 y3 y4 y5 y6,eComp (iSq (eV 8)) 1 (.one 9) Mi.tYes (eAnd (eB neD (eV 9) (eV 7)) (eB (inD true) (eV 9) (eV 2))) [y0,y1,some (rowD P),y3,y4,y5,y6,some (.int (i:Int)),some (rowD row)]=okR (.lst (row.map fun k=>Dt.bl (!decide (k=(i:Int)) && !decide (k∈P)))):=fun y0 y1 y3 y4 y5 y6=>by
  refine zAZ (fun k:Int=>Dt.int k) _ row rfl rfl (fun k _=>?_) _ (by simp[rowD]) (by omega)
  have:=zN5 k P
  by_cases z:k=(i:Int)
  ·simp[this,z]
  ·simp[this,z]
 have ha:=zGF (fun k:Int=>!decide (k=(i:Int)) && !decide (k∈P)) row
 by_cases g1:row=soiL row/\(i:Int)∈row/\∀k∈row,k=(i:Int)\/k∈P
 ·obtain⟨g1,g2,g3⟩:=g1;have ha':(row.any fun k=>!decide (k=(i:Int)) && !decide (k∈P))=false:=by
   rw[qBu];intro k hk'
   rcases g3 k hk' with z|z<;>simp[z]
  rw[ha']at ha;have hrow:∀k∈row,∃a:Nat,k=(a:Int)/\a<n:=fun k hk'=>by
   rcases g3 k hk' with z|z
   ·exact⟨i,z,hi⟩
   ·exact hk k z
  have hd:∀(j:Nat) y1 y2 y3 y4 y5 y6 y7,j<n->eComp (iSq (eV 8)) 1 (.one 10) Mi.tYes (eB ixD (eB ixD (eV 0) (eV 10)) (eV 9)) [some (mat (tab n f)),y1,y2,y3,y4,y5,y6,y7,some (rowD row),some (.int (j:Int))]=okR (rowD (row.map fun k=>f k.toNat j)):=fun j y1 y2 y3 y4 y5 y6 y7 hj=>by
   have:=zAZ (ρ:=[some (mat (tab n f)),y1,y2,y3,y4,y5,y6,y7,some (rowD row),some (.int (j:Int))]) (c:=tYes) (i:=10) (e:=eB ixD (eB ixD (eV 0) (eV 10)) (eV 9)) (fun k:Int=>Dt.int k) (fun k=>Dt.int (f k.toNat j)) row rfl rfl (fun k hk'=>by
    obtain⟨a,rfl,ha⟩:=hrow k hk';have e1:=ixM (f:=f) ha;have e2:=ixR (g:=fun j=>f a j) hj;exact b2 (b2 rfl rfl e1) rfl e2) (iSq (eV 8)) rfl (by omega)
   rw[this];unfold rowD;rw[qAo];rfl
  have hs:∀j,j<n->sumD [rowD (row.map fun k=>f k.toNat j)]=some (.int (row.map fun k=>f k.toNat j).sum):=fun j hj=>zVM _ (by simp;omega) fun x hx=>by
   obtain⟨k,hk',rfl⟩:=qAa.mp hx;obtain⟨a,rfl,ha⟩:=hrow k hk';exact hb _ _ (by simpa using ha) hj
  have he:∀y1 y2 y3 y4 y6 y7,eComp (iR1 (aCons (eV 5) aNil)) 1 (.one 9) Mi.tYes (eB eqD (eB modD (eBi sumD (aCons (eComp (iSq (eV 8)) 1 (.one 10) Mi.tYes (eB ixD (eB ixD (eV 0) (eV 10)) (eV 9))) aNil)) (eC (.int 2))) (eC (.int 1))) [some (mat (tab n f)),y1,y2,y3,y4,some (.int (n:Int)),y6,y7,some (rowD row)]=okR (.lst ((qA1 n).map fun j=>Dt.bl (decide ((row.map fun k=>f k.toNat j).sum%2=1)))):=fun y1 y2 y3 y4 y6 y7=>by
   refine zAZ (fun k:Nat=>Dt.int (k:Int)) _ (qA1 n) rfl rfl (fun j hj=>?_) _ (by rw[zD6 (n:=n) (al0 rfl) (by omega),zD4]) (by simp;omega);have hj':j<n:=by simpa using hj
   have a1:=hd j y1 y2 y3 y4 (some (.int (n:Int))) y6 y7 hj';have a2:=hs j hj'
   generalize(row.map fun k=>f k.toNat j).sum=S at a2 ⊢
   refine b2 (b2 (bi1 a1 a2) rfl (mdi (by decide) rfl)) rfl ?_;simp[Dt.eq]
   try rfl
  have hf:=zGF (fun j:Nat=>decide ((row.map fun k=>f k.toNat j).sum%2=1)) (qA1 n);have h3':Dt.eq (rowD row) (rowD (soiL row))=true:=by rw[h3];simp[<- g1]
  have h2':inD true (.int (i:Int)) (rowD row)=some (.bl false):=by rw[h2];simp[g2]
  generalize hA:(qA1 n).any (fun j=>decide ((row.map fun k=>f k.toNat j).sum%2=1))=A at hf
  by_cases g4:∀j,j<n->(row.map fun k=>f k.toNat j).sum%2=0
  ·left
   refine⟨⟨g1,g2,g3,g4⟩,?_⟩;have hA':A=false:=by
    rw[<- hA,qBu];intro j hj
    have:=g4 j (by simpa using hj)
    simp[this]
   rw[hA']at hf;exact sw (sf (to0 (ned rfl (bi1 rfl h1) (dr _) (dr _) h3' rfl) (to0 (tb1 (b2 rfl rfl h2')) (tm1 (bi1 (hc _ _ _ _ _ _) ha))))) (sf (tm1 (bi1 (he _ _ _ _ _ _) hf)))
  ·right
   refine⟨fun z=>g4 z.2.2.2,?_⟩;have hA':A=true:=by
    rw[<- hA,qBy];simp only[qDf]at g4;obtain⟨j,hj,z⟩:=g4;exact⟨j,by simpa using hj,by simp;omega⟩
   rw[hA']at hf;exact sw (sf (to0 (ned rfl (bi1 rfl h1) (dr _) (dr _) h3' rfl) (to0 (tb1 (b2 rfl rfl h2')) (tm1 (bi1 (hc _ _ _ _ _ _) ha))))) (sq (tm1 (bi1 (he _ _ _ _ _ _) hf)))
 ·right
  refine⟨fun z=>g1 ⟨z.1,z.2.1,z.2.2.1⟩,?_⟩
  by_cases z1:row=soiL row
  ·have h3':Dt.eq (rowD row) (rowD (soiL row))=true:=by rw[h3];simp[<- z1]
   by_cases z2:(i:Int)∈row
   ·have h2':inD true (.int (i:Int)) (rowD row)=some (.bl false):=by rw[h2];simp[z2]
    have ha':(row.any fun k=>!decide (k=(i:Int)) && !decide (k∈P))=true:=by
     rw[qBy];have g1':¬ ∀k∈row,k=(i:Int)\/k∈P:=fun z=>g1 ⟨z1,z2,z⟩
     simp only[qDf]at g1';obtain⟨k,hk',z⟩:=g1';exact⟨k,hk',by simp;exact⟨fun y=>z (.inl y),fun y=>z (.inr y)⟩⟩
    rw[ha']at ha;exact sx (to0 (ned rfl (bi1 rfl h1) (dr _) (dr _) h3' rfl) (to0 (tb1 (b2 rfl rfl h2')) (tm1 (bi1 (hc _ _ _ _ _ _) ha)))) (sr rfl ⟨qA7 0,qA7 0⟩)
   ·have h2':inD true (.int (i:Int)) (rowD row)=some (.bl true):=by rw[h2];simp[z2]
    exact sx (to0 (ned rfl (bi1 rfl h1) (dr _) (dr _) h3' rfl) (to1 (tb1 (b2 rfl rfl h2')))) (sr rfl ⟨qA7 0,qA7 0⟩)
  ·have h3':Dt.eq (rowD row) (rowD (soiL row))=false:=by rw[h3];simp[z1]
   exact sx (to1 (ned rfl (bi1 rfl h1) (dr _) (dr _) h3' rfl)) (sr rfl ⟨qA7 0,qA7 0⟩)
theorem zL1{n:Nat}{f:Nat->Nat->Int}{P:List Int}{x1 x3 x4 x6:Option Sl}(hn:n<=10)(hb:Bits n f)(hP:P.length<=1000)(hk:∀k∈P,∃a:Nat,k=(a:Int)/\a<n):∀(l:List (Nat×List Int)),(∀p∈l,p.1<n/\p.2.length<64)->∀o7 o8:Option Sl,
  ((∀p∈l,Okr n f P p.1 p.2)/\∃o7' o8',forGo (.tup [7,8]) gB (l.map fun p=>Dt.tup [.int (p.1:Int),rowD p.2]) [some (mat (tab n f),0),x1,some (rowD P,0),x3,x4,some (.int (n:Int),0),x6,o7,o8]=okR (.nx [some (mat (tab n f),0),x1,some (rowD P,0),x3,x4,some (.int (n:Int),0),x6,o7',o8'])) \/
  (¬(∀p∈l,Okr n f P p.1 p.2)/\forGo (.tup [7,8]) gB (l.map fun p=>Dt.tup [.int (p.1:Int),rowD p.2]) [some (mat (tab n f),0),x1,some (rowD P,0),x3,x4,some (.int (n:Int),0),x6,o7,o8]=okR (.rt (.bl false)))
 |[],_,o7,o8=>.inl ⟨by simp,o7,o8,rfl⟩
 |p::l,hl,o7,o8=>by
  have hp:=hl p (by simp);have t:=zPY (x1:=x1) (x3:=x3) (x4:=x4) (x6:=x6) hn hb hP hk hp.1 hp.2;rw[qAd,forGo];have hbt:zB8 (.tup [7,8]) (Dt.tup [.int (p.1:Int),rowD p.2])=some [(7,.int (p.1:Int)),(8,rowD p.2)]:=rfl;rw[hbt];dsimp only;have hst:zBI [some (mat (tab n f),0),x1,some (rowD P,0),x3,x4,some (.int (n:Int),0),x6,o7,o8] [(7,.int (p.1:Int)),(8,rowD p.2)]=[some (mat (tab n f),0),x1,some (rowD P,0),x3,x4,some (.int (n:Int),0),x6,some (.int (p.1:Int),0),some (rowD p.2,0)]:=rfl;rw[hst]
  rcases t with⟨t1,t2⟩|⟨t1,t2⟩
  ·rw[t2,zA2]
   rcases zL1 hn hb hP hk l (fun p h=>hl p (by simp[h])) (some (.int (p.1:Int),0)) (some (rowD p.2,0))with⟨h1,h2⟩|⟨h1,h2⟩
   ·exact .inl ⟨fun q hq=>by
     rcases qA9.mp hq with rfl|hq
     ·exact t1
     ·exact h1 q hq,h2⟩
   ·exact .inr ⟨fun z=>h1 fun q hq=>z q (by simp[hq]),h2⟩
  ·rw[t2,zA2];exact .inr ⟨fun z=>t1 (z p (by simp)),rfl⟩
theorem zIH{s t:SM}{r r':Ro}{Q:Bool->Prop}(h:s r=okR (.nx r'))(h2:∃b,t r'=okR (.rt (.bl b))/\Q b):∃b,sSeq s t r=okR (.rt (.bl b))/\Q b:=by
 obtain⟨b,h3,h4⟩:=h2;exact⟨b,by rw[zDW,h];exact h3,h4⟩
theorem zaN{s t:SM}{r:Ro}{Q:Bool->Prop}{b:Bool}(h:s r=okR (.rt (.bl b)))(hq:Q b):∃b,sSeq s t r=okR (.rt (.bl b))/\Q b:=
 ⟨b,by rw[zDW,h];rfl,hq⟩
theorem zUW{Q:Nat->List Int->Prop}:∀(os:List Nat)(N:List (List Int)),os.Nodup->os.length=N.length->(∀p∈os.zip N,Q p.1 p.2)->∃V:Nat->List Int,N=os.map V/\∀i∈os,Q i (V i)
 |[],[],_,_,_=>⟨fun _=>[],rfl,by simp⟩
 |[],_::_,_,h,_=>by simp at h
 |_::_,[],_,h,_=>by simp at h
 |i::os,r::N,hd,h,hQ=>by
  rw[qB9]at hd;obtain⟨V,v1,v2⟩:=zUW os N hd.2 (by simpa using h) fun p hp=>hQ p (by simp[hp])
  refine⟨fun k=>if k=i then r else V k,?_,fun k hk=>?_⟩
  ·rw[qAd,if_pos rfl,v1]
   congr 1
   refine qAq fun k hk=>?_
   rw[if_neg fun z=>hd.1 (by rw[<- z];exact hk)]
  ·rcases qA9.mp hk with rfl|hk
   ·simp only[if_true];exact hQ (k,r) (by simp)
   ·simp only[show ¬k=i from fun z=>hd.1 (by rw[<- z];exact hk),if_false];exact v2 k hk
theorem zP8(n:Nat)(ks:List Nat):(oths n ks).Nodup:=qFi.filter _
theorem zI8{β:Type}{V:Nat->β}:∀{os:List Nat}{p:Nat×β},p∈os.zip (os.map V)->p.1∈os/\p.2=V p.1
 |[],_,h=>by simp at h
 |i::os,p,h=>by
  rw[qAd,qEy,qA9]at h
  rcases h with rfl|h
  ·exact⟨by simp,rfl⟩
  ·obtain⟨h1,h2⟩:=zI8 h;exact⟨by simp[h1],h2⟩
theorem zUA{os:List Nat}{N:List (List Int)}{p:Nat×List Int}(h:p∈os.zip N):p.1∈os/\p.2∈N:=⟨(qC4 h).1,(qC4 h).2⟩
theorem zRR{n:Nat}{f:Nat->Nat->Int}{P:List Int}{B N:List (List Int)}(hn:n<=10)(hb:Bits n f)(hs:Sym n f)(hP:P.length<=1000)(hB:B.length<=1000/\∀r∈B,r.length<=1000)(hN:N.length<=1000/\∀r∈N,r.length<64):∃b:Bool,zCF [mat (tab n f),.tup [rowD P,mat B,mat N]]=okR (.bl b)/\(b=true↔PprE n f P B N):=by
 suffices h:∃b:Bool,zD2 [some (mat (tab n f),0),some (.tup [rowD P,mat B,mat N],0),none,none,none,none,none,none,none]=okR (.rt (.bl b))/\(b=true↔PprE n f P B N) by
  obtain⟨b,h1,h2⟩:=h;exact⟨b,zC3 rfl h1,h2⟩
 have hks':∀{ks' g W},Ppr n f P B N ks' g W->ks'=kof n P:=fun{ks' g W} a=>by rw[a.part,zKB a.rise]
 have hlP:lenD [rowD P]=some (.int (P.length:Int)):=by unfold rowD;simp
 have hlB:lenD [mat B]=some (.int (B.length:Int)):=by unfold mat;simp
 have hlN:lenD [mat N]=some (.int (N.length:Int)):=by unfold mat;simp
 have hlF:lenD [mat (tab n f)]=some (.int (n:Int)):=by unfold mat;simp[zBY]
 have no:∀{s t:SM}{r:Ro},s r=okR (.rt (.bl false))->¬PprE n f P B N->∃b,sSeq s t r=okR (.rt (.bl b))/\(b=true↔PprE n f P B N):=fun h1 h2=>zaN (b:=false) h1 (by simp[h2])
 unfold zD2;refine zIH (r':=[some (mat (tab n f),0),some (.tup [rowD P,mat B,mat N],0),some (rowD P,0),some (mat B,0),some (mat N,0),none,none,none,none]) rfl ?_
 generalize hX:Dt.tup [rowD P,mat B,mat N]=X
 refine zIH (r':=[some (mat (tab n f),0),some (X,0),some (rowD P,0),some (mat B,0),some (mat N,0),some (.int (n:Int),0),none,none,none]) (ss (bi1 rfl hlF) (qAp 0)) ?_;have hc1:eComp (iR1 (aCons (eV 5) aNil)) 1 (.one 9) (tB (eB (inD false) (eV 9) (eV 2))) (eV 9) [some (mat (tab n f)),some X,some (rowD P),some (mat B),some (mat N),some (.int (n:Int)),none,none,none]=okR (rowD (numL (kof n P))):=by
  have:=zBW (ρ:=[some (mat (tab n f)),some X,some (rowD P),some (mat B),some (mat N),some (.int (n:Int)),none,none,none]) (c:=tB (eB (inD false) (eV 9) (eV 2))) (e:=eV 9) (i:=9) (fun k:Nat=>Dt.int (k:Int)) (fun k:Nat=>Dt.int (k:Int)) (fun i:Nat=>decide ((i:Int)∈P)) (qA1 n) rfl (fun i hi=>tb1 (b2 rfl rfl (zUV _ _))) (fun i _ _=>rfl) (iR1 (aCons (eV 5) aNil)) (by rw[zD6 (n:=n) (al0 rfl) (by omega),zD4]) (by simp;omega)
  rw[this,numD];rfl
 have he1:=zOL P (numL (kof n P));have dP:(rowD P).dep<=40:=by unfold rowD;simp
 have dQ:∀l:List Int,(rowD l).dep<=40:=fun l=>by unfold rowD;simp
 generalize hks:kof n P=ks at hks' hc1 he1
 have hr:Rise n ks:=by rw[<- hks];exact zOH n P
 by_cases h1:P=numL ks
 rotate_left
 ·refine no ?_ fun⟨ks',g',W',a⟩=>h1 ?_
  ·rw[show decide (P=numL ks)=false by simp[h1]]at he1;exact sq (ned rfl hc1 dP (dQ _) he1 rfl)
  ·cases hks' a;exact a.part
 rw[show decide (P=numL ks)=true by simp[<- h1]]at he1;refine zIH (r':=[some (mat (tab n f),0),some (X,0),some (rowD P,0),some (mat B,0),some (mat N,0),some (.int (n:Int),0),none,none,none]) (sf (ned rfl hc1 dP (dQ _) he1 rfl)) ?_;have hin:∀i:Nat,((i:Int)∈P)↔i∈ks:=fun i=>by
  rw[h1];simp[numL];exact⟨fun⟨a,h,e⟩=>by rwa [show a=i by omega]at h,fun h=>⟨i,h,rfl⟩⟩
 have hc2:eComp (iR1 (aCons (eV 5) aNil)) 1 (.one 9) (tB (eB (inD true) (eV 9) (eV 2))) (eV 9) [some (mat (tab n f)),some X,some (rowD P),some (mat B),some (mat N),some (.int (n:Int)),none,none,none]=okR (rowD (numL (oths n ks))):=by
  have:=zBW (ρ:=[some (mat (tab n f)),some X,some (rowD P),some (mat B),some (mat N),some (.int (n:Int)),none,none,none]) (c:=tB (eB (inD true) (eV 9) (eV 2))) (e:=eV 9) (i:=9) (fun k:Nat=>Dt.int (k:Int)) (fun k:Nat=>Dt.int (k:Int)) (fun i:Nat=>!decide (i∈ks)) (qA1 n) rfl (fun i hi=>tb1 (b2 rfl rfl ((zN5 _ _).trans (by rw[decide_eq_decide.mpr (hin i)])))) (fun i _ _=>rfl) (iR1 (aCons (eV 5) aNil)) (by rw[zD6 (n:=n) (al0 rfl) (by omega),zD4]) (by simp;omega)
  rw[this,numD];rfl
 have hd1:(rowD (numL (oths n ks))).dep<=1:=by unfold rowD;simp
 refine zIH (r':=[some (mat (tab n f),0),some (X,0),some (rowD P,0),some (mat B,0),some (mat N,0),some (.int (n:Int),0),some (rowD (numL (oths n ks)),1),none,none]) (ss hc2 hd1) ?_;have hlO:lenD [rowD (numL (oths n ks))]=some (.int ((oths n ks).length:Int)):=by unfold rowD;simp[numL]
 have hpl:P.length=ks.length:=by rw[h1];simp[numL]
 have hc3:∀y0 y1 y4 y5 y6 y7 y8,eComp (iSq (eV 3)) 1 (.one 9) Mi.tYes (eB neD (eBi lenD (aCons (eV 9) aNil)) (eBi lenD (aCons (eV 2) aNil))) [y0,y1,some (rowD P),some (mat B),y4,y5,y6,y7,y8]=okR (.lst (B.map fun r=>Dt.bl (!decide (r.length=P.length)))):=fun y0 y1 y4 y5 y6 y7 y8=>by
  refine zAZ rowD _ B rfl rfl (fun r hr'=>?_) _ (by simp[mat]) (by omega)
  have:lenD [rowD r]=some (.int (r.length:Int)):=by unfold rowD;simp
  refine b2 (bi1 rfl this) (bi1 rfl hlP) ?_
  by_cases z:r.length=P.length
  ·simp[z]
  ·simp[z];omega
 have ha3:=zGF (fun r:List Int=>!decide (r.length=P.length)) B
 by_cases h2:B.length=ks.length/\(∀r∈B,r.length=ks.length)/\N.length=(oths n ks).length
 rotate_left
 ·refine no ?_ fun⟨ks',g',W',a⟩=>h2 ?_
  ·generalize hA:(B.any fun r=>!decide (r.length=P.length))=A at ha3
   by_cases z1:(B.length:Int)=(P.length:Int)
   ·by_cases z2:A=true
    ·rw[z2]at ha3;exact sq (to0 (nei (bi1 rfl hlB) (bi1 rfl hlP) (by rw[decide_eq_true z1];rfl)) (to1 (tm1 (bi1 (hc3 _ _ _ _ _ _ _) ha3))))
    ·rw[show A=false by simpa using z2]at ha3 hA;have z3:¬(N.length:Int)=((oths n ks).length:Int):=fun z=>h2 ⟨by omega,fun r hr'=>by
      have:=(qBu.mp hA) r hr'
      simp at this
      omega,by omega⟩
     exact sq (to0 (nei (bi1 rfl hlB) (bi1 rfl hlP) (by rw[decide_eq_true z1];rfl)) (to0 (tm1 (bi1 (hc3 _ _ _ _ _ _ _) ha3)) (nei (bi1 rfl hlN) (bi1 rfl hlO) (by rw[decide_eq_false z3];rfl))))
   ·exact sq (to1 (nei (bi1 rfl hlB) (bi1 rfl hlP) (by rw[decide_eq_false z1];rfl)))
  ·cases hks' a;refine⟨by rw[a.back,zBY],fun r hr'=>?_,by rw[a.noth,qAl]⟩;rw[a.back]at hr';exact(zEZ a.bits r hr').1
 obtain⟨b1,bq2,b3⟩:=h2;have ha3':(B.any fun r=>!decide (r.length=P.length))=false:=by
  rw[qBu];intro r hr';simp[bq2 r hr',hpl]
 rw[ha3']at ha3;refine zIH (r':=[some (mat (tab n f),0),some (X,0),some (rowD P,0),some (mat B,0),some (mat N,0),some (.int (n:Int),0),some (rowD (numL (oths n ks)),1),none,none]) (sf (to0 (nei (bi1 rfl hlB) (bi1 rfl hlP) (by rw[decide_eq_true (by omega)];rfl)) (to0 (tm1 (bi1 (hc3 _ _ _ _ _ _ _) ha3)) (nei (bi1 rfl hlN) (bi1 rfl hlO) (by rw[decide_eq_true (by omega)];rfl))))) ?_;have hc4:∀y0 y1 y2 y4 y5 y6 y7 y8,eComp (iSq (eV 3)) 1 (.one 9) Mi.tYes (eB (cmpD fun i j=>decide (j<i)) (eBi lenD (aCons (eComp (iSq (eV 9)) 1 (.one 10) (tB (eB (inD true) (eV 10) (eTup (aCons (eC (.int 0)) (aCons (eC (.int 1)) aNil))))) (eV 10)) aNil)) (eC (.int 0))) [y0,y1,y2,some (mat B),y4,y5,y6,y7,y8]=okR (.lst (B.map fun r=>Dt.bl (decide (0<(r.filter fun x=>!decide (x=0\/x=1)).length)))):=fun y0 y1 y2 y4 y5 y6 y7 y8=>by
  refine zAZ rowD _ B rfl rfl (fun r hr'=>?_) _ (by simp[mat]) (by omega);have hrl:=hB.2 r hr'
  have:=zBW (ρ:=[y0,y1,y2,some (mat B),y4,y5,y6,y7,y8]++[some (rowD r)]) (c:=tB (eB (inD true) (eV 10) (eTup (aCons (eC (.int 0)) (aCons (eC (.int 1)) aNil))))) (e:=eV 10) (i:=10) (fun k:Int=>Dt.int k) (fun k:Int=>Dt.int k) (fun x=>!decide (x=0\/x=1)) r rfl (fun x hx=>by
   have:inD true (.int x) (.tup [.int 0,.int 1])=some (.bl (!decide (x=0\/x=1))):=by
    rw[show Dt.tup [.int 0,.int 1]=.tup (([0,1]:List Int).map Dt.int) from rfl];unfold inD;dsimp only;rw[zNC];simp
   exact tb1 (b2 rfl (et2 rfl rfl) this)) (fun x _ _=>rfl) (iSq (eV 9)) rfl (by omega)
  refine b2 (bi1 this rfl) rfl ?_;rw[qAl];simp
 have ha4:=zGF (fun r:List Int=>decide (0<(r.filter fun x=>!decide (x=0\/x=1)).length)) B
 by_cases h3:∀r∈B,∀x∈r,Bit x
 rotate_left
 ·refine no ?_ fun⟨ks',g',W',a⟩=>h3 fun r hr'=>?_
  ·have ha4':(B.any fun r=>decide (0<(r.filter fun x=>!decide (x=0\/x=1)).length))=true:=by
    simp only[qDf]at h3;obtain⟨r,hr',x,hx,z⟩:=h3;rw[qBy];refine⟨r,hr',?_⟩;rw[decide_eq_true_eq,List.length_pos_iff_exists_mem];exact⟨x,qAs.mpr ⟨hx,by simpa[Bit]using z⟩⟩
   rw[ha4']at ha4;exact sq (tm1 (bi1 (hc4 _ _ _ _ _ _ _ _) ha4))
  ·cases hks' a;rw[a.back]at hr';exact(zEZ a.bits r hr').2
 have ha4':(B.any fun r=>decide (0<(r.filter fun x=>!decide (x=0\/x=1)).length))=false:=by
  rw[qBu];intro r hr'
  have:r.filter (fun x=>!decide (x=0\/x=1))=[]:=by
   rw[List.filter_eq_nil_iff];intro x hx;have h0:=h3 r hr' x hx
   have:x=0\/x=1:=h0
   simp[this]
  rw[this];simp
 rw[ha4']at ha4;refine zIH (r':=[some (mat (tab n f),0),some (X,0),some (rowD P,0),some (mat B,0),some (mat N,0),some (.int (n:Int),0),some (rowD (numL (oths n ks)),1),none,none]) (sf (tm1 (bi1 (hc4 _ _ _ _ _ _ _ _) ha4))) ?_;have hrows:∀r∈B,RowN ks.length r:=fun r hr'=>⟨bq2 r hr',h3 r hr'⟩
 have hBt:=zO1 b1 hrows;have hBb:Bits ks.length (ent B):=fun i j hi hj=>zGR hrows (by rw[b1];exact hi) hj
 have hle:=hr.le;have hp1:=zK4 n f ks hr.lt (by omega);rw[<- h1]at hp1;have hp2:=zIC ks.length (sub ks f) (ent B) (by omega) (zJV hb hr) hBb;rw[<- hBt]at hp2;have hp3:=zQJ ks.length (by omega);have hlP':lenD [rowD P]=some (.int (ks.length:Int)):=by rw[hlP,hpl]
 have he5:=zOM (tab ks.length (prod ks.length (sub ks f) (ent B))) (tab ks.length zCB);have hd5:=zC1 (tab ks.length (prod ks.length (sub ks f) (ent B)));have hd6:=zC1 (tab ks.length zCB);have hd5':(mat (tab ks.length (prod ks.length (sub ks f) (ent B)))).dep<=40:=by omega
 have hd6':(mat (tab ks.length zCB)).dep<=40:=by omega
 by_cases h4:tab ks.length (prod ks.length (sub ks f) (ent B))=tab ks.length zCB
 rotate_left
 ·refine no ?_ fun⟨ks',g',W',a⟩=>h4 ?_
  ·rw[show decide (tab ks.length (prod ks.length (sub ks f) (ent B))=tab ks.length zCB)=false by simp[h4]]at he5;exact sq (ned (c2 (c2 rfl rfl hp1) rfl hp2) (c1 (bi1 rfl hlP') hp3) hd5' hd6' he5 rfl)
  ·cases hks' a;refine zMR fun i j hi hj=>?_
   rw[<- a.inv i j hi hj];have e:∀k,k<ks.length->ent B k j=g' k j:=fun k hk=>by
    rw[a.back];unfold ent;rw[zEK hk,zAL hj]
   unfold prod;rw[zAY fun k hk=>by rw[e k hk]]
 rw[show decide (tab ks.length (prod ks.length (sub ks f) (ent B))=tab ks.length zCB)=true by simp[h4]]at he5;refine zIH (r':=[some (mat (tab n f),0),some (X,0),some (rowD P,0),some (mat B,0),some (mat N,0),some (.int (n:Int),0),some (rowD (numL (oths n ks)),1),none,none]) (sf (ned (c2 (c2 rfl rfl hp1) rfl hp2) (c1 (bi1 rfl hlP') hp3) hd5' hd6' he5 rfl)) ?_;have hinv:∀i j,i<ks.length->j<ks.length->prod ks.length (sub ks f) (ent B) i j=zCB i j:=fun i j hi hj=>by
  have e1:=zEK (f:=prod ks.length (sub ks f) (ent B)) hi;have e2:=zEK (f:=zCB) hi;rw[h4,e2]at e1;have e3:=congrArg (fun l:List Int=>l.getD j 0) e1;rw[zAL hj,zAL hj]at e3;exact e3.symm
 have hkP:∀k∈P,∃a:Nat,k=(a:Int)/\a<n:=fun k hk=>by
  rw[h1]at hk;obtain⟨a,ha,rfl⟩:=qAa.mp hk;exact⟨a,rfl,hr.lt a ha⟩
 have hw:=zL1 (x1:=some (X,0)) (x3:=some (mat B,0)) (x4:=some (mat N,0)) (x6:=some (rowD (numL (oths n ks)),0)) hn hb hP hkP ((oths n ks).zip N) (fun p hp=>⟨(oths_mem.mp (zUA hp).1).1,hN.2 _ (zUA hp).2⟩) none none;have hzip:iZi (aCons (eV 6) (aCons (eV 4) aNil)) [some (mat (tab n f)),some X,some (rowD P),some (mat B),some (mat N),some (.int (n:Int)),some (rowD (numL (oths n ks))),none,none]=okR (((oths n ks).zip N).map fun p=>Dt.tup [.int (p.1:Int),rowD p.2]):=by
  rw[<- zNT];rfl
 have hfor:∀t:SM,sSeq (sFor [6,4] (iZi (aCons (eV 6) (aCons (eV 4) aNil))) (.tup [7,8]) gB) t [some (mat (tab n f),0),some (X,0),some (rowD P,0),some (mat B,0),some (mat N,0),some (.int (n:Int),0),some (rowD (numL (oths n ks)),1),none,none]=zA9 (forGo (.tup [7,8]) gB (((oths n ks).zip N).map fun p=>Dt.tup [.int (p.1:Int),rowD p.2]) [some (mat (tab n f),0),some (X,0),some (rowD P,0),some (mat B,0),some (mat N,0),some (.int (n:Int),0),some (rowD (numL (oths n ks)),0),none,none]) (fun o=>match o with | .nx ρ'=>t ρ'|o=>okR o):=fun t=>by
  rw[zDW,zXF,show frzAt [6,4] [some (mat (tab n f),0),some (X,0),some (rowD P,0),some (mat B,0),some (mat N,0),some (.int (n:Int),0),some (rowD (numL (oths n ks)),1),none,none]=[some (mat (tab n f),0),some (X,0),some (rowD P,0),some (mat B,0),some (mat N,0),some (.int (n:Int),0),some (rowD (numL (oths n ks)),0),none,none] from rfl,show frz [some (mat (tab n f),0),some (X,0),some (rowD P,0),some (mat B,0),some (mat N,0),some (.int (n:Int),0),some (rowD (numL (oths n ks)),0),none,none]=[some (mat (tab n f)),some X,some (rowD P),some (mat B),some (mat N),some (.int (n:Int)),some (rowD (numL (oths n ks))),none,none] from rfl,hzip,zA2]
  all_goals rfl
 show ∃b,sSeq (sFor [6,4] (iZi (aCons (eV 6) (aCons (eV 4) aNil))) (.tup [7,8]) gB) (sRet 0 0 [] (eC (.bl true))) [some (mat (tab n f),0),some (X,0),some (rowD P,0),some (mat B,0),some (mat N,0),some (.int (n:Int),0),some (rowD (numL (oths n ks)),1),none,none]=okR (.rt (.bl b))/\(b=true↔PprE n f P B N)
 rw[hfor]
 rcases hw with⟨w1,o7,o8,w2⟩|⟨w1,w2⟩
 ·rw[w2,zA2];refine⟨true,by simp,?_⟩;simp only[true_iff];obtain⟨V,v1,v2⟩:=zUW (Q:=Okr n f P) (oths n ks) N (zP8 n ks) b3.symm w1;rw[h1]at v2;refine⟨ks,ent B,fun i=>(V i).map qDd,hr,h1,hBb,hinv,hBt,?_,fun i hi hik=>(zR4 (v2 i (oths_mem.mpr ⟨hi,hik⟩))).2⟩;rw[v1];exact qAq fun i hi=>(zR4 (v2 i hi)).1
 ·rw[w2,zA2];refine⟨false,rfl,?_⟩;simp only[qDo,false_iff]
  rintro⟨ks',g',W',a⟩
  cases hks' a;refine w1 fun p hp=>?_
  rw[a.noth]at hp;obtain⟨p1,p2⟩:=zI8 hp;rw[p2,h1];obtain⟨p3,p4⟩:=oths_mem.mp p1;exact zWB (a.nth _ p3 p4)
theorem zXP(ns:List Int)(k:Nat)(hk:k<1000):∃n f,n<=10/\Bits n f/\Sym n f/\zE0 [.scr ns,.int (k:Int),.int 8]=okR (mat (tab n f)):=by
 have c0:=zJ6 ns k (by omega) (by omega);have c1:=zJ6 ns (k+1) (by omega) (by omega)
 generalize cellv ns k=x0 at c0
 generalize cellv ns (k+1)=x1 at c1
 generalize hn:(x0%9).toNat=n
 have hn':x0%9=(n:Int):=by omega
 have hn10:n<=10:=by omega
 obtain⟨K,hK,hK1,hK2⟩:∃K:Nat,maxD [.int 1,.int ((n:Int)-x0/16%4)]=some (.int (K:Int))/\1<=K/\K<=10:=by
  simp only[maxD]
  by_cases h:(n:Int)-x0/16%4>1
  ·exact⟨((n:Int)-x0/16%4).toNat,by rw[if_pos h];congr 2;omega,by omega,by omega⟩
  ·exact⟨1,by rw[if_neg h];rfl,by omega,by omega⟩
 have hKp:(0:Int)<(K:Int):=by omega
 let R0:Nat->Nat->Int:=fun i j=>cellv ns (k+2+(max i j:Nat))/((min i j:Nat)*(min i j:Nat)+3)%2
 let R:Nat->Nat->Int:=fun i j=>if i=j then R0 i j*(if 0<x0/192%3 then 1 else 0)else R0 i j
 have bit0:∀i j,R0 i j=0\/R0 i j=1:=fun i j=>by show _%2=0\/_%2=1;omega
 have bitR:∀i j,R i j=0\/R i j=1:=fun i j=>by
  show(if i=j then R0 i j*_ else R0 i j)=0\/(if i=j then R0 i j*_ else R0 i j)=1
  have:=bit0 i j
  split
  ·split<;>omega
  ·exact this
 have symR:∀i j,R i j=R j i:=fun i j=>by
  by_cases h:i=j
  ·rw[h]
  ·show(if i=j then R0 i j*_ else R0 i j)=(if j=i then R0 j i*_ else R0 j i)
   rw[if_neg h,if_neg fun z=>h z.symm];show cellv ns (k+2+(max i j:Nat))/((min i j:Nat)*(min i j:Nat)+3)%2=cellv ns (k+2+(max j i:Nat))/((min j i:Nat)*(min j i:Nat)+3)%2;rw[Nat.max_comm,Nat.min_comm]
 have fin:∀kd:Nat->Nat,(∀i,kd i<K)->∀(o:Option Sl),zE1=zE1->sSeq (sSet 6 2 [0,9,4,1] (eComp (iR1 (aCons (eV 4) aNil)) 1 (.one 10) Mi.tYes (eCall zAA (aCons (eV 0) (aCons (eB addD (eB addD (eV 1) (eC (.int 2))) (eV 10)) aNil)))))
   (sSeq (sSet 7 0 [0,1] (eB (cmpD fun i j=>decide (j<i)) (eB modD (eB divD (eCall zAA (aCons (eV 0) (aCons (eV 1) aNil))) (eC (.int 192))) (eC (.int 3))) (eC (.int 0))))
   (sSeq (sSet 8 2 [9,4,6] (eComp (iR1 (aCons (eV 4) aNil)) 1 (.one 10) Mi.tYes (eComp (iR1 (aCons (eV 4) aNil)) 1 (.one 11) Mi.tYes (eB modD (eB divD (eB ixD (eV 6) (eBi maxD (aCons (eV 10) (aCons (eV 11) aNil)))) (eB addD (eB mulD (eBi minD (aCons (eV 10) (aCons (eV 11) aNil))) (eBi minD (aCons (eV 10) (aCons (eV 11) aNil)))) (eC (.int 3)))) (eC (.int 2))))))
   (sSeq (sForR (iR1 (aCons (eV 4) aNil)) 9 (sItem2 8 0 (eV 9) (eV 9) (eB mulD (eB ixD (eB ixD (eV 8) (eV 9)) (eV 9)) (eBi intD (aCons (eV 7) aNil)))))
   (sRet 2 2 [9,3,8,5] (eComp (iR1 (aCons (eV 3) aNil)) 1 (.one 10) Mi.tYes (eComp (iR1 (aCons (eV 3) aNil)) 1 (.one 11) Mi.tYes (eB ixD (eB ixD (eV 8) (eB ixD (eV 5) (eV 10))) (eB ixD (eV 5) (eV 11)))))))))
   [some (.scr ns,0),some (.int (k:Int),0),some (.int 8,0),some (.int (n:Int),0),some (.int (K:Int),0),some (rowD ((qA1 n).map fun i=>((kd i:Nat):Int)),1),none,none,none,none]=okR (.rt (mat (tab n fun i j=>R (kd i) (kd j)))):=by
  intro kd hkd o _;have hb:∀o6 o7 o8 o9:Option Dt,eComp (iR1 (aCons (eV 4) aNil)) 1 (.one 10) Mi.tYes (eCall zAA (aCons (eV 0) (aCons (eB addD (eB addD (eV 1) (eC (.int 2))) (eV 10)) aNil))) [some (.scr ns),some (.int (k:Int)),some (.int 8),some (.int (n:Int)),some (.int (K:Int)),some (rowD ((qA1 n).map fun i=>((kd i:Nat):Int))),o6,o7,o8,o9]=okR (rowD ((qA1 K).map fun i:Nat=>cellv ns (k+2+i))):=by
   intro o6 o7 o8 o9;refine zF6 _ rfl (by omega) (zD6 (al0 rfl) (by omega)) fun i hi=>?_
   have:=zJ6 ns (k+2+i) (by omega) (by omega)
   exact c2 rfl (b2 (b2 rfl rfl rfl) rfl rfl) this
  have ht:∀o8 o9:Option Dt,eComp (iR1 (aCons (eV 4) aNil)) 1 (.one 10) Mi.tYes (eComp (iR1 (aCons (eV 4) aNil)) 1 (.one 11) Mi.tYes (eB modD (eB divD (eB ixD (eV 6) (eBi maxD (aCons (eV 10) (aCons (eV 11) aNil)))) (eB addD (eB mulD (eBi minD (aCons (eV 10) (aCons (eV 11) aNil))) (eBi minD (aCons (eV 10) (aCons (eV 11) aNil)))) (eC (.int 3)))) (eC (.int 2)))) [some (.scr ns),some (.int (k:Int)),some (.int 8),some (.int (n:Int)),some (.int (K:Int)),some (rowD ((qA1 n).map fun i=>((kd i:Nat):Int))),some (rowD ((qA1 K).map fun i:Nat=>cellv ns (k+2+i))),some (.bl (decide (0<x0/192%3))),o8,o9]=okR (mat (tab K R0)):=by
   intro o8 o9;refine zHM R0 rfl rfl (by omega) (zD6 (al0 rfl) (by omega)) (fun a=>zD6 (al0 rfl) (by omega)) fun a b ha hb=>?_
   have i1:ixD (rowD ((qA1 K).map fun i:Nat=>cellv ns (k+2+i))) (.int ((max a b:Nat):Int))=some (.int (cellv ns (k+2+(max a b:Nat)))):=ixR (g:=fun i:Nat=>cellv ns (k+2+i)) (by omega);have m1:mulD (.int ((min a b:Nat):Int)) (.int ((min a b:Nat):Int))=some (.int (((min a b:Nat):Int)*((min a b:Nat):Int))):=zWD (by omega) (by omega);have p1:(0:Int)<=((min a b:Nat):Int)*((min a b:Nat):Int):=qG7 (by omega) (by omega);have p2:((min a b:Nat):Int)*((min a b:Nat):Int)<=10*10:=Int.mul_le_mul (by omega) (by omega) (by omega) (by omega);have mx:=zWI a b;have mn:=zWH a b;exact b2 (b2 (b2 rfl (bi2 rfl rfl mx) i1) (b2 (b2 (bi2 rfl rfl mn) (bi2 rfl rfl mn) m1) rfl rfl) (dvi ⟨by omega,by omega⟩)) rfl (mdi (by decide) rfl)
  have hmd:=zC1 (tab K R0);have dr:∀(l:List Int)(m:Nat),(rowD l).dep<=m+1:=fun l m=>by unfold rowD;simp
  refine sg (hb _ _ _ _) (dr _ 1) (sg (b2 (b2 (b2 (c2 rfl rfl c0) rfl (dvi (by decide))) rfl (mdi (by decide) rfl)) rfl rfl) (qAp 0) (sg (ht _ _) hmd ?_));refine zBN fun bb hb'=>?_
  rw[zJP,zD6 (n:=K) (al0 rfl) (by omega),zA2];refine zTA (fun q r=>∃o9,r=[some (.scr ns,0),some (.int (k:Int),0),some (.int 8,0),some (.int (n:Int),0),some (.int (K:Int),0),some (rowD ((qA1 n).map fun i=>((kd i:Nat):Int)),1),some (rowD ((qA1 K).map fun i:Nat=>cellv ns (k+2+i)),2),some (.bl (decide (0<x0/192%3)),0),some (mat (tab K fun i j=>if i=j/\i<q then R0 i j*(if 0<x0/192%3 then 1 else 0)else R0 i j),2),o9]) ⟨none,by
   have:(fun i j=>if i=j/\i<0 then R0 i j*(if 0<x0/192%3 then 1 else 0)else R0 i j)=R0:=by funext i j;simp
   rw[this]
   rfl⟩ (fun q hq r hr=>?_) fun r hr=>?_
  ·obtain⟨o9,rfl⟩:=hr;have e8:ixD (mat (tab K fun i j=>if i=j/\i<q then R0 i j*(if 0<x0/192%3 then 1 else 0)else R0 i j)) (.int (q:Int))=some (rowD ((qA1 K).map fun j=>if q=j/\q<q then R0 q j*(if 0<x0/192%3 then 1 else 0)else R0 q j)):=ixM hq;have e9:ixD (rowD ((qA1 K).map fun j=>if q=j/\q<q then R0 q j*(if 0<x0/192%3 then 1 else 0)else R0 q j)) (.int (q:Int))=some (.int (R0 q q)):=by rw[ixR hq];simp
   have m1:mulD (.int (R0 q q)) (.int (if 0<x0/192%3 then 1 else 0))=some (.int (R0 q q*(if 0<x0/192%3 then 1 else 0))):=zTD (by split<;>omega) (by split<;>omega);refine zBO (zG5 (l:=0) (a:=q) (b:=q) (v:=R0 q q*(if 0<x0/192%3 then 1 else 0)) rfl rfl rfl ?_ hq hq) ⟨some (.int (q:Int),0),?_⟩
   ·exact b2 (b2 (b2 rfl rfl e8) rfl e9) (bi1 rfl (by simp[intD])) m1
   ·simp
    congr 3
    funext i j
    by_cases hij:i=j
    ·subst hij
     by_cases h1:i=q
     ·subst h1;simp
     ·by_cases h2:i<q
      ·simp[h1,h2,show i<q+1 by omega]
      ·simp[h1,h2,show ¬i<q+1 by omega]
    ·simp[hij];intro h1 h2;exact absurd (h1.trans h2.symm) hij
  ·obtain⟨o9,rfl⟩:=hr;subst hb';have eR:(tab K fun i j=>if i=j/\i<K then R0 i j*(if 0<x0/192%3 then 1 else 0)else R0 i j)=tab K R:=zMR fun i j hi hj=>by
    show(if i=j/\i<K then _ else R0 i j)=if i=j then _ else R0 i j
    by_cases h:i=j
    ·rw[if_pos ⟨h,hi⟩,if_pos h]
    ·rw[if_neg fun z=>h z.1,if_neg h]
   rw[eR];have ht2:∀o9:Option Dt,eComp (iR1 (aCons (eV 3) aNil)) 1 (.one 10) Mi.tYes (eComp (iR1 (aCons (eV 3) aNil)) 1 (.one 11) Mi.tYes (eB ixD (eB ixD (eV 8) (eB ixD (eV 5) (eV 10))) (eB ixD (eV 5) (eV 11)))) [some (.scr ns),some (.int (k:Int)),some (.int 8),some (.int (n:Int)),some (.int (K:Int)),some (rowD ((qA1 n).map fun i=>((kd i:Nat):Int))),some (rowD ((qA1 K).map fun i:Nat=>cellv ns (k+2+i))),some (.bl (decide (0<x0/192%3))),some (mat (tab K R)),o9]=okR (mat (tab n fun i j=>R (kd i) (kd j))):=by
    intro o9;refine zHM _ rfl rfl (by omega) (zD6 (al0 rfl) (by omega)) (fun a=>zD6 (al0 rfl) (by omega)) fun a b ha hb=>?_
    have i1:ixD (rowD ((qA1 n).map fun i=>((kd i:Nat):Int))) (.int (a:Int))=some (.int ((kd a:Nat):Int)):=ixR ha;have i2:ixD (rowD ((qA1 n).map fun i=>((kd i:Nat):Int))) (.int (b:Int))=some (.int ((kd b:Nat):Int)):=ixR hb;have e8:ixD (mat (tab K R)) (.int ((kd a:Nat):Int))=some (rowD ((qA1 K).map fun j=>R (kd a) j)):=ixM (hkd a);have e9:ixD (rowD ((qA1 K).map fun j=>R (kd a) j)) (.int ((kd b:Nat):Int))=some (.int (R (kd a) (kd b))):=ixR (hkd b);exact b2 (b2 rfl (b2 rfl rfl i1) e8) (b2 rfl rfl i2) e9
   have hmd2:=zC1 (tab n fun i j=>R (kd i) (kd j));exact sr (ht2 _) ⟨hmd2,hmd2⟩
 have head:∀kd0:Nat->Nat,(∀i,kd0 i<K)->(∀i:Nat,x1/((i:Int)+1)%K=((kd0 i:Nat):Int))->∃f,Bits n f/\Sym n f/\zE1 [some (.scr ns,0),some (.int (k:Int),0),some (.int 8,0),none,none,none,none,none,none,none]=okR (.rt (mat (tab n f))):=by
  intro kd0 h1 h2;have hcomp0:∀o5 o6 o7 o8 o9:Option Dt,eComp (iR1 (aCons (eV 3) aNil)) 1 (.one 10) Mi.tYes (eB modD (eB divD (eCall zAA (aCons (eV 0) (aCons (eB addD (eV 1) (eC (.int 1))) aNil))) (eB addD (eV 10) (eC (.int 1)))) (eV 4)) [some (.scr ns),some (.int (k:Int)),some (.int 8),some (.int (n:Int)),some (.int (K:Int)),o5,o6,o7,o8,o9]=okR (rowD ((qA1 n).map fun i=>((kd0 i:Nat):Int))):=by
   intro o5 o6 o7 o8 o9;exact zF6 _ rfl (by omega) (zD6 (al0 rfl) (by omega)) fun i hi=>b2 (b2 (c2 rfl (b2 rfl rfl rfl) c1) (b2 rfl rfl rfl) (dvi ⟨by omega,by omega⟩)) rfl (mdi hKp (h2 i))
  have hcomp1:∀o5 o6 o7 o8 o9:Option Dt,eComp (iR1 (aCons (eV 3) aNil)) 1 (.one 10) Mi.tYes (eB modD (eV 10) (eV 4)) [some (.scr ns),some (.int (k:Int)),some (.int 8),some (.int (n:Int)),some (.int (K:Int)),o5,o6,o7,o8,o9]=okR (rowD ((qA1 n).map fun i=>((i%K:Nat):Int))):=by
   intro o5 o6 o7 o8 o9;exact zF6 _ rfl (by omega) (zD6 (al0 rfl) (by omega)) fun i hi=>b2 rfl rfl (mdi hKp rfl)
  have dr:∀(l:List Int)(m:Nat),(rowD l).dep<=m+1:=fun l m=>by unfold rowD;simp
  have e64:∀{r:Ro}{b:Bool},eV 0 (full r)=okR (.scr ns)->eV 1 (full r)=okR (.int (k:Int))->decide (0<x0/64%3)=b->tB (eB (cmpD fun i j=>decide (j<i)) (eB modD (eB divD (eCall zAA (aCons (eV 0) (aCons (eV 1) aNil))) (eC (.int 64))) (eC (.int 3))) (eC (.int 0))) (full r)=okR b:=fun h0 h1 hb=>tb1 (b2 (b2 (b2 (c2 h0 h1 c0) rfl (dvi (by decide))) rfl (mdi (by decide) rfl)) rfl (cmi hb))
  have pre:∀{X:Mi.R Out}{s t:SM}(h:t [some (.scr ns,0),some (.int (k:Int),0),some (.int 8,0),some (.int (n:Int),0),some (.int (K:Int),0),some (rowD ((qA1 n).map fun i=>((kd0 i:Nat):Int)),1),none,none,none,none]=X),sSeq (sSet 3 0 [0,1,2] (eB modD (eCall zAA (aCons (eV 0) (aCons (eV 1) aNil))) (eB addD (eV 2) (eC (.int 1))))) (sSeq (sSet 4 0 [3,0,1] (eBi maxD (aCons (eC (.int 1)) (aCons (eB subD (eV 3) (eB modD (eB divD (eCall zAA (aCons (eV 0) (aCons (eV 1) aNil))) (eC (.int 16))) (eC (.int 4)))) aNil)))) (sSeq (sSet 5 1 [4,3,0,1] (eComp (iR1 (aCons (eV 3) aNil)) 1 (.one 10) Mi.tYes (eB modD (eB divD (eCall zAA (aCons (eV 0) (aCons (eB addD (eV 1) (eC (.int 1))) aNil))) (eB addD (eV 10) (eC (.int 1)))) (eV 4)))) t)) [some (.scr ns,0),some (.int (k:Int),0),some (.int 8,0),none,none,none,none,none,none,none]=X:=fun{X s t} h=>
   sg (b2 (c2 rfl rfl c0) (b2 rfl rfl rfl) (mdi (by decide) hn')) (qAp 0) (sg (bi2 rfl (b2 rfl (b2 (b2 (c2 rfl rfl c0) rfl (dvi (by decide))) rfl (mdi (by decide) rfl)) rfl) hK) (qAp 0) (sg (hcomp0 _ _ _ _ _) (dr _ 0) h))
  by_cases h:0<x0/64%3
  ·refine⟨fun i j=>R (i%K) (j%K),fun i j _ _=>bitR _ _,fun i j _ _=>symR _ _,?_⟩;have g:=fin (fun i=>i%K) (fun i=>qGn _ (by omega)) none rfl;exact pre (s:=sNil) (st (e64 rfl rfl (decide_eq_true h)) (ss (hcomp1 _ _ _ _ _) (dr _ 0)) g)
  ·refine⟨fun i j=>R (kd0 i) (kd0 j),fun i j _ _=>bitR _ _,fun i j _ _=>symR _ _,?_⟩;have g:=fin kd0 h1 none rfl;exact pre (s:=sNil) (sp (e64 rfl rfl (decide_eq_false h)) g)
 obtain⟨f,h1,h2,h3⟩:=head (fun i=>(x1/((i:Int)+1)%K).toNat) (fun i=>by
  have a1:=qC9 (x1/((i:Int)+1)) (show(K:Int)≠0 by omega);have a2:=qC3 (x1/((i:Int)+1)) hKp
  omega) fun i=>by
  have a1:=qC9 (x1/((i:Int)+1)) (show(K:Int)≠0 by omega);omega
 exact⟨n,f,hn10,h1,h2,zC3 rfl h3⟩
theorem zT8{n p:Nat}{f:Nat->Nat->Int}(h:Bits n f):Bits n (put1 p p f):=fun x y hx hy=>by
 unfold put1
 split
 ·exact .inr rfl
 ·exact h x y hx hy
theorem zW7{n p:Nat}{f:Nat->Nat->Int}(h:Sym n f):Sym n (put1 p p f):=fun x y hx hy=>by
 unfold put1;rw[h x y hx hy]
 by_cases a:x=p<;>by_cases b:y=p<;>simp[a,b]
def BtZ(A:Int)(ns:List Int)(n:Nat)(fl:Bool)(r:Ro):Prop:=∃f p q l6 l7 o8,r=[some (.scr ns,0),some (.int A,0),some (.int 8,0),some (.bl fl,0),some (.int (n:Int),0),some (mat (tab n f),2),some (.int (q:Nat),l6),some (.int (p:Nat),l7),o8,none]/\p<=n/\Bits n f/\Sym n f
def MxZ(A:Int)(ns:List Int)(n:Nat)(fl:Bool)(r:Ro):Prop:=∃f q l5 l6 o7 o8 o9,r=[some (.scr ns,0),some (.int A,0),some (.int 8,0),some (.bl fl,0),some (.int (n:Int),0),some (mat (tab n f),l5),some (.int (q:Nat),l6),o7,o8,o9]/\Bits n f/\Sym n f
theorem zVE(A:Int)(hA:0<=A)(hA2:A<100)(ns:List Int)(fl:Bool):∃(n:Nat)(f:Nat->Nat->Int)(q:Nat),n<=10/\Bits n f/\Sym n f/\zD9 [.scr ns,.int A,.int 8,.bl fl]=okR (.tup [mat (tab n f),.int (q:Int)]):=by
 have c0:=zJ6 ns A (by omega) (by omega)
 generalize cellv ns A=x0 at c0
 obtain⟨n,hn⟩:∃n:Nat,x0%9=(n:Int):=⟨(x0%9).toNat,by omega⟩
 have hn10:n<=10:=by omega
 suffices h:∃(f:Nat->Nat->Int)(q:Nat),Bits n f/\Sym n f/\zE2 [some (.scr ns,0),some (.int A,0),some (.int 8,0),some (.bl fl,0),none,none,none,none,none,none]=okR (.rt (.tup [mat (tab n f),.int (q:Int)])) by
  obtain⟨f,q,h1,h2,h4⟩:=h;exact⟨n,f,q,hn10,h1,h2,zC3 rfl h4⟩
 suffices h:eiR (zE2 [some (.scr ns,0),some (.int A,0),some (.int 8,0),some (.bl fl,0),none,none,none,none,none,none]) (fun _=>False) (fun d=>∃(f:Nat->Nat->Int)(q:Nat),d=.tup [mat (tab n f),.int (q:Int)]/\Bits n f/\Sym n f) by
  rcases h with⟨_,_,z⟩|⟨d,h1,f,q,rfl,h2,h3⟩
  ·exact z.elim
  ·exact⟨f,q,h2,h3,h1⟩
 unfold zE2;refine zDX (P:=fun r=>r=[some (.scr ns,0),some (.int A,0),some (.int 8,0),some (.bl fl,0),some (.int (n:Int),0),none,none,none,none,none]) (zGB (zBO (ss (b2 (c2 rfl rfl c0) (b2 rfl rfl rfl) (mdi (by decide) hn)) (qAp 0)) rfl)) ?_
 rintro r rfl
 refine zDX (P:=fun r=>r=[some (.scr ns,0),some (.int A,0),some (.int 8,0),some (.bl fl,0),some (.int (n:Int),0),some (mat (tab n fun _ _=>0),2),none,none,none,none]) (zGB ?_) ?_
 ·have hc:eComp (iR1 (aCons (eV 4) aNil)) 1 (.one 10) Mi.tYes (eComp (iR1 (aCons (eV 4) aNil)) 1 (.one 11) Mi.tYes (eC (.int 0))) [some (.scr ns),some (.int A),some (.int 8),some (.bl fl),some (.int (n:Int)),none,none,none,none,none]=okR (mat (tab n fun _ _=>0)):=
   zHM _ rfl rfl (by omega) (zD6 (al0 rfl) (by omega)) (fun a=>zD6 (al0 rfl) (by omega)) fun a b ha hb=>rfl
  have hd:=zC1 (tab n fun _ _=>0);exact zBO (ss hc hd) rfl
 rintro r rfl
 refine zDX (P:=fun r=>r=[some (.scr ns,0),some (.int A,0),some (.int 8,0),some (.bl fl,0),some (.int (n:Int),0),some (mat (tab n fun _ _=>0),2),some (.int 0,0),none,none,none]) (zGB (zBO (ss rfl (qAp 0)) rfl)) ?_
 rintro r rfl
 refine zDX (P:=fun r=>r=[some (.scr ns,0),some (.int A,0),some (.int 8,0),some (.bl fl,0),some (.int (n:Int),0),some (mat (tab n fun _ _=>0),2),some (.int 0,0),some (.int 0,0),none,none]) (zGB (zBO (ss rfl (qAp 0)) rfl)) ?_
 rintro r rfl
 refine zDX (P:=MxZ A ns n fl) (zGB ?_) ?_
 ·refine zT9 (BtZ A ns n fl) (fun r=>n-zWC 7 r) (fun r=>BtZ A ns n fl r/\n<=zWC 7 r) ⟨_,0,0,0,0,none,rfl,qAp _,fun _ _ _ _=>.inl rfl,fun _ _ _ _=>rfl⟩ (by omega) ?_ ?_
  ·rintro r ⟨f,p,q,l6,l7,o8,rfl,a0,a,a'⟩
   by_cases hp:p<n
   ·refine .inr ⟨tb1 (b2 rfl rfl (cmi (decide_eq_true (by omega)))),?_⟩;have cp:=zJ6 ns (A+1+(p:Int)) (by omega) (by omega)
    generalize cellv ns (A+1+(p:Int))=xk at cp
    refine zLE fun bb hb=>zBO (r:=[some (.scr ns,0),some (.int A,0),some (.int 8,0),some (.bl fl,0),some (.int (n:Int),0),some (mat (tab n f),2),some (.int (q:Nat),l6),some (.int (p:Nat),l7),some (.int (xk%4),0),none]) (ss (b2 (c2 rfl (b2 (b2 rfl rfl rfl) rfl rfl) cp) rfl (mdi (by decide) rfl)) (qAp 0)) ?_
    generalize xk%4=k
    subst hb
    by_cases h1:k=0/\fl=false
    ·obtain⟨rfl,rfl⟩:=h1;refine nif1 (ta1 (eqi rfl rfl rfl) (tn1 (k:=false) (tm1 rfl))) (nsw (ss (b2 rfl rfl rfl) (qAp 1)) (zBO (ss (b2 rfl rfl rfl) (qAp 1)) ?_));exact⟨⟨f,p+1,q+1,1,1,_,rfl,hp,a,a'⟩,by show n-(p+1)<n-p;omega⟩
    ·refine nif0 (?_:_=okR false) ?_
     ·by_cases z:k=0
      ·subst z;cases fl with
       |true=>exact ta1 (eqi rfl rfl rfl) (tn1 (k:=true) (tm1 rfl))
       |false=>exact absurd ⟨rfl,rfl⟩ h1
      ·exact ta0 (eqi rfl rfl (decide_eq_false z))
     by_cases h2:1<k/\p+1<n
     ·refine nif1 (ta1 (tb1 (b2 rfl rfl (cmi (decide_eq_true h2.1)))) (tb1 (b2 (b2 rfl rfl rfl) rfl (cmi (decide_eq_true (by omega)))))) (nsw (zG5 (l:=0) (a:=p) (b:=p+1) (v:=1) rfl rfl rfl rfl hp h2.2) (nsw (zG5 (l:=0) (a:=p+1) (b:=p) (v:=1) rfl rfl rfl rfl h2.2 hp) (zBO (ss (b2 rfl rfl rfl) (qAp 1)) ?_)));exact⟨⟨_,p+2,q,l6,1,_,rfl,h2.2,zQS (i:=p) (j:=p+1) a (.inr rfl),zT3 (i:=p) (j:=p+1) a'⟩,by show n-(p+2)<n-p;omega⟩
     ·refine nif0 (?_:_=okR false) (nsw (zG5 (l:=0) (a:=p) (b:=p) (v:=1) rfl rfl rfl rfl hp hp) (zBO (ss (b2 rfl rfl rfl) (qAp 1)) ?_))
      ·by_cases z:1<k
       ·exact ta1 (tb1 (b2 rfl rfl (cmi (decide_eq_true z)))) (tb1 (b2 (b2 rfl rfl rfl) rfl (cmi (decide_eq_false (by omega)))))
       ·exact ta0 (tb1 (b2 rfl rfl (cmi (decide_eq_false z))))
      exact⟨⟨_,p+1,q,l6,1,_,rfl,hp,zT8 a,zW7 a'⟩,by show n-(p+1)<n-p;omega⟩
   ·exact .inl ⟨tb1 (b2 rfl rfl (cmi (decide_eq_false (by omega)))),⟨f,p,q,l6,l7,o8,rfl,a0,a,a'⟩,by show n<=p;omega⟩
  ·rintro r ⟨⟨f,p,q,l6,l7,o8,rfl,a0,a,a'⟩,h⟩
   have hpn:p=n:=by simp[zWC]at h;omega
   subst hpn;exact⟨f,q,2,l6,_,o8,none,rfl,a,a'⟩
 intro r hr;refine zDX (P:=MxZ A ns n fl) (zGB ?_) ?_
 ·rw[zJP,show iR1 (aCons (eC (.int 14)) aNil) (full r)=okR (nums 0 14) from zD6 (n:=14) (al0 rfl) (by omega),zA2];refine zTA (fun _=>MxZ A ns n fl) hr (fun k hk r hr=>?_) fun r h=>h
  obtain⟨f,q,l5,l6,o7,o8,o9,rfl,h1,h2⟩:=hr
  by_cases h:1<n
  ·refine nif1 (tb1 (b2 rfl rfl (cmi (decide_eq_true (by omega))))) ?_;have ck:=zJ6 ns (A+12+(k:Int)) (by omega) (by omega);obtain⟨i,j,hi,hj,hij,hm⟩:=zPD n f (cellv ns (A+12+(k:Int))) h hn10;have fin:Bits n (colF i j (rowF i j f))/\Sym n (colF i j (rowF i j f)):=⟨zTE h1 hi,zWG h2 hi hj hij⟩
   exact zE4 (c2 rfl (c2 rfl (b2 (b2 rfl rfl rfl) rfl rfl) ck) hm) (c2 rfl (c2 rfl (b2 (b2 rfl rfl rfl) rfl rfl) ck) hm) ⟨_,q,_,_,_,_,_,rfl,fin⟩ ⟨_,q,_,_,_,_,_,rfl,fin⟩
  ·exact nif0 (tb1 (b2 rfl rfl (cmi (decide_eq_false (by omega))))) ⟨f,q,_,_,_,_,_,rfl,h1,h2⟩
 rintro r ⟨f,q,l5,l6,o7,o8,o9,rfl,h1,h2⟩
 refine .inr ⟨.tup [mat (tab n f),.int (q:Int)],?_,f,q,rfl,h1,h2⟩;simp
theorem zXV(r:List Int)(k:Nat):slD (rowD r) none (some (k:Int))=some (rowD (r.take k)):=by rw[zIO,zV8]
theorem zQD(r:List Int)(k:Nat):slD (rowD r) (some (k:Int)) none=some (rowD (r.drop k)):=by rw[zIO,zKQ]
theorem zXU(A:List (List Int))(k:Nat):slD (mat A) none (some (k:Int))=some (mat (A.take k)):=by rw[zS3,zV8]
theorem zO0(A:List (List Int))(k:Nat):slD (mat A) (some (k:Int)) none=some (mat (A.drop k)):=by rw[zS3,zKQ]
theorem zY0(r:List Int):rvlD (rowD r) (.int (-1))=some (rowD r.reverse):=by
 unfold rowD;simp[rvlD]
theorem zY1(r:List (List Int)):rvlD (mat r) (.int (-1))=some (mat r.reverse):=by
 unfold mat;simp[rvlD]
theorem rep4(r:List Int)(h:r.length<=1000):repD (rowD r) (.int 4)=some (rowD (qA6 4 r).flatten):=by
 show @ite _ _ (qA4 _) _ _=_;rw[if_pos ⟨by decide,by simp;omega⟩];unfold rowD;simp[qA6]
theorem zQ9(r:List Int)(h:r.length<64):∃r':List Int,r'.length=r.length/\sortD [rowD r]=some (rowD r'):=by
 refine⟨sortI r,(qCj _ _).length_eq,?_⟩
 show(match intsD (r.map Dt.int)with|some ns=>_|none=>none)=_
 rw[zDU];dsimp only;rw[if_pos h];rfl
theorem zRA(c:Int)(m:Nat):∃a:Nat,a<=m/\modD (.int c) (.int ((m:Int)+1))=some (.int (a:Int)):=by
 have h:=zWF c (m:=m+1) (by omega);have h0:=qC9 c (show((m+1:Nat):Int)≠0 by omega);have h1:=qC3 c (show(0:Int)<((m+1:Nat):Int) by omega);refine⟨(c%((m+1:Nat):Int)).toNat,by omega,?_⟩;rw[show(m:Int)+1=((m+1:Nat):Int) by omega,h]
 congr 2
 omega
set_option maxHeartbeats 4000000 in
theorem zJA(r:List Int)(c:Int)(k:Nat)(hr:r.length<=40+k)(hk:k<=6):∃r':List Int,zCD [rowD r,.int c]=okR (rowD r')/\r'.length<=41+k:=by
 obtain⟨a,ha,hm⟩:=zRA (c/5) r.length;have hl:lenD [rowD r]=some (.int (r.length:Int)):=by unfold rowD;simp
 suffices h:∃r':List Int,zD1 [some (rowD r,0),some (.int c,0),none,none,none]=okR (.rt (rowD r'))/\r'.length<=41+k by
  obtain⟨r',h1,h2⟩:=h;exact⟨r',zC3 rfl h1,h2⟩
 have ex:∀{s t:SM}{ρ ρ':Ro},s ρ=okR (.nx ρ')->(∃r':List Int,t ρ'=okR (.rt (rowD r'))/\r'.length<=41+k)->∃r':List Int,sSeq s t ρ=okR (.rt (rowD r'))/\r'.length<=41+k:=fun h ⟨r',h1,h2⟩=>⟨r',by rw[zDW,h];exact h1,h2⟩
 have er:∀{s t:SM}{ρ:Ro}{r':List Int},s ρ=okR (.rt (rowD r'))->r'.length<=41+k->∃r':List Int,sSeq s t ρ=okR (.rt (rowD r'))/\r'.length<=41+k:=fun h h2=>⟨_,by rw[zDW,h];rfl,h2⟩
 have dR:∀x:List Int,(rowD x).dep<=1:=fun x=>by unfold rowD;simp
 unfold zD1;refine ex (ρ':=[some (rowD r,0),some (.int c,0),some (.int (c%5),0),none,none]) (ss (b2 rfl rfl (mdi (by decide) rfl)) (qAp 0)) ?_
 generalize c%5=w
 refine ex (ρ':=[some (rowD r,0),some (.int c,0),some (.int w,0),some (.int (a:Int),0),none]) (ss (b2 (b2 rfl rfl (dvi (by decide))) (b2 (bi1 rfl hl) rfl rfl) hm) (qAp 0)) ?_;refine ex (ρ':=[some (rowD r,0),some (.int c,0),some (.int w,0),some (.int (a:Int),0),some (.int (c/60%13-2),0)]) (ss (b2 (b2 (b2 rfl rfl (dvi (by decide))) rfl (mdi (by decide) rfl)) rfl rfl) (qAp 0)) ?_;obtain⟨v,l4,hv⟩:∃(v:Int)(l4:Nat),sIf (tB (eB eqD (eB modD (eB divD (eV 1) (eC (.int 780))) (eC (.int 7))) (eC (.int 4)))) (sSet 4 1 [1,4] (eB addD (eB mulD (eB addD (eB mulD (eV 4) (eC (.int 2))) (eC (.int 1))) (eB powD (eC (.int 10)) (eC (.int 58)))) (eB modD (eV 1) (eC (.int 1000))))) sNil [some (rowD r,0),some (.int c,0),some (.int w,0),some (.int (a:Int),0),some (.int (c/60%13-2),0)]=okR (.nx [some (rowD r,0),some (.int c,0),some (.int w,0),some (.int (a:Int),0),some (.int v,l4)]):=by
  by_cases h:c/780%7=4
  ·have hp:powD (.int 10) (.int 58)=some (.int (10 ^ 58)):=by
    show @ite _ _ (qA4 _) _ _=_;rw[if_pos ⟨by decide,by decide,by decide⟩];rfl
   have hmu:mulD (.int ((c/60%13-2)*2+1)) (.int (10 ^ 58))=some (.int (((c/60%13-2)*2+1)*10 ^ 58)):=zWD (by omega) (by omega);refine⟨((c/60%13-2)*2+1)*10 ^ 58+c%1000,1,?_⟩;exact sk (eqi (b2 (b2 rfl rfl (dvi (by decide))) rfl (mdi (by decide) rfl)) rfl (decide_eq_true h)) (ss (b2 (b2 (b2 (b2 rfl rfl (zTD (by decide) (by decide))) rfl rfl) (b2 rfl rfl hp) hmu) (b2 rfl rfl (mdi (by decide) rfl)) rfl) (qAp 1))
  ·exact⟨c/60%13-2,0,sf (eqi (b2 (b2 rfl rfl (dvi (by decide))) rfl (mdi (by decide) rfl)) rfl (decide_eq_false h))⟩
 refine ex hv ?_;obtain⟨x,l0,hx,hxl⟩:∃(x:List Int)(l0:Nat),sIf (tB (eB eqD (eB modD (eB divD (eV 1) (eC (.int 780))) (eC (.int 7))) (eC (.int 5)))) (sSet 0 1 [0] (eSl (eB repD (eV 0) (eC (.int 4))) oNo (oE (eC (.int 40))))) sNil [some (rowD r,0),some (.int c,0),some (.int w,0),some (.int (a:Int),0),some (.int v,l4)]=okR (.nx [some (rowD x,l0),some (.int c,0),some (.int w,0),some (.int (a:Int),0),some (.int v,l4)])/\x.length<=40+k:=by
  by_cases h:c/780%7=5
  ·have h1:=rep4 r (by omega);have h2:slD (rowD (qA6 4 r).flatten) none (some 40)=some (rowD ((qA6 4 r).flatten.take 40)):=zXV _ 40;refine⟨(qA6 4 r).flatten.take 40,1,?_,by rw[qBx];omega⟩;have hd:=dR ((qA6 4 r).flatten.take 40);exact sk (eqi (b2 (b2 rfl rfl (dvi (by decide))) rfl (mdi (by decide) rfl)) rfl (decide_eq_true h)) (ss (sl0 (b2 rfl rfl h1) rfl h2) hd)
  ·exact⟨r,0,sf (eqi (b2 (b2 rfl rfl (dvi (by decide))) rfl (mdi (by decide) rfl)) rfl (decide_eq_false h)),hr⟩
 refine ex hx ?_;have s1:=zXV x a;have s2:=zQD x a;have s3:=zQD x (a+1);rw[show((a+1:Nat):Int)=(a:Int)+1 by omega]at s3;have lt:=List.length_take_le a x;have ld:(x.take a).length+(x.drop a).length=x.length:=by simp;omega
 have ld1:(x.drop (a+1)).length<=(x.drop a).length:=by simp;omega
 have e1:∀z:Int,addD (rowD (x.take a)) (.lst [.int z])=some (rowD (x.take a++[z])):=fun z=>addR _ [z] (by simp;omega)
 have e2:∀z:Int,addD (rowD (x.take a++[z])) (rowD (x.drop a))=some (rowD (x.take a++[z]++x.drop a)):=fun z=>addR _ _ (by rw[qAe,qAx];omega)
 have e3:∀z:Int,addD (rowD (x.take a++[z])) (rowD (x.drop (a+1)))=some (rowD (x.take a++[z]++x.drop (a+1))):=fun z=>addR _ _ (by rw[qAe,qAx];omega)
 have e4:addD (rowD (x.take a)) (rowD (x.drop (a+1)))=some (rowD (x.take a++x.drop (a+1))):=addR _ _ (by omega);have b1:∀z:Int,(x.take a++[z]++x.drop a).length<=41+k:=fun z=>by rw[qAe,qAe,qAx];omega
 have b3:∀z:Int,(x.take a++[z]++x.drop (a+1)).length<=41+k:=fun z=>by rw[qAe,qAe,qAx];omega
 have b4:(x.take a++x.drop (a+1)).length<=41+k:=by rw[qAe];omega
 obtain⟨y,y1,y2⟩:=zQ9 (x.take a++[if v<0 then -v else v]++x.drop (a+1)) (by have:=b3 (if v<0 then -v else v);omega);have hv5:=zY0 x;have d2:=dR (x.take a++[v]++x.drop a);have d3:=dR (x.take a++[v]++x.drop (a+1));have d4:=dR (x.take a++x.drop (a+1));have d5:=dR x.reverse;have d6:=dR y;have b1':=b1 v;have b3':=b3 v
 by_cases w0:w=0
 ·exact er (sk (eqi rfl rfl (decide_eq_true w0)) (sr (b2 (b2 (sl0 rfl rfl s1) (el1 rfl) (e1 v)) (sl1 rfl rfl s2) (e2 v)) ⟨d2,d2⟩)) b1'
 refine ex (ρ':=[some (rowD x,l0),some (.int c,0),some (.int w,0),some (.int (a:Int),0),some (.int v,l4)]) (sf (eqi rfl rfl (decide_eq_false w0))) ?_
 by_cases w1:w=1
 ·exact er (sk (eqi rfl rfl (decide_eq_true w1)) (sr (b2 (sl0 rfl rfl s1) (sl1 rfl (b2 rfl rfl rfl) s3) e4) ⟨d4,d4⟩)) b4
 refine ex (ρ':=[some (rowD x,l0),some (.int c,0),some (.int w,0),some (.int (a:Int),0),some (.int v,l4)]) (sf (eqi rfl rfl (decide_eq_false w1))) ?_
 by_cases w2:w=2
 ·exact er (sk (eqi rfl rfl (decide_eq_true w2)) (sr (b2 (b2 (sl0 rfl rfl s1) (el1 rfl) (e1 v)) (sl1 rfl (b2 rfl rfl rfl) s3) (e3 v)) ⟨d3,d3⟩)) b3'
 refine ex (ρ':=[some (rowD x,l0),some (.int c,0),some (.int w,0),some (.int (a:Int),0),some (.int v,l4)]) (sf (eqi rfl rfl (decide_eq_false w2))) ?_
 by_cases w3:w=3
 ·exact er (r':=x.reverse) (sk (eqi rfl rfl (decide_eq_true w3)) (sr (b2 rfl rfl hv5) ⟨d5,d5⟩)) (by rw[qDl];omega)
 refine ex (ρ':=[some (rowD x,l0),some (.int c,0),some (.int w,0),some (.int (a:Int),0),some (.int v,l4)]) (sf (eqi rfl rfl (decide_eq_false w3))) ?_;refine⟨y,?_,by rw[y1];exact b3 _⟩;have hab:absD [.int v]=some (.int (if v<0 then -v else v)):=rfl;exact sr (bi1 (b2 (b2 (sl0 rfl rfl s1) (el1 (bi1 rfl hab)) (e1 _)) (sl1 rfl (b2 rfl rfl rfl) s3) (e3 _)) y2) ⟨d6,d6⟩
def Rws(k:Nat)(A:List (List Int)):Prop:=A.length<=20+k/\∀r∈A,r.length<=40+k
theorem Rws.up{k:Nat}{A:List (List Int)}(h:Rws k A):Rws (k+1) A:=⟨by have:=h.1;omega,fun r hr=>by have:=h.2 r hr;omega⟩
set_option maxHeartbeats 4000000 in
theorem zHV(A:List (List Int))(c:Int)(k:Nat)(h:Rws k A)(hk:k<=6):∃A':List (List Int),zC6 [mat A,.int c]=okR (mat A')/\Rws (k+1) A':=by
 obtain⟨a,ha,hm⟩:=zRA (c/7) A.length;have hl:lenD [mat A]=some (.int (A.length:Int)):=by unfold mat;simp
 suffices h:∃r':List (List Int),zCY [some (mat A,0),some (.int c,0),none]=okR (.rt (mat r'))/\Rws (k+1) r' by
  obtain⟨r',h1,h2⟩:=h;exact⟨r',zC3 rfl h1,h2⟩
 have ex:∀{s t:SM}{ρ ρ':Ro},s ρ=okR (.nx ρ')->(∃r':List (List Int),t ρ'=okR (.rt (mat r'))/\Rws (k+1) r')->∃r':List (List Int),sSeq s t ρ=okR (.rt (mat r'))/\Rws (k+1) r':=fun h ⟨r',h1,h2⟩=>⟨r',by rw[zDW,h];exact h1,h2⟩
 have er:∀{s t:SM}{ρ:Ro}{r':List (List Int)},s ρ=okR (.rt (mat r'))->Rws (k+1) r'->∃r':List (List Int),sSeq s t ρ=okR (.rt (mat r'))/\Rws (k+1) r':=fun h h2=>⟨_,by rw[zDW,h];rfl,h2⟩
 have hA:=h.1;have s1:=zXU A a;have s2:=zO0 A a;have s3:=zO0 A (a+1);rw[show((a+1:Nat):Int)=(a:Int)+1 by omega]at s3;have ld:(A.take a).length+(A.drop a).length=A.length:=by simp;omega
 have ld1:(A.drop (a+1)).length<=(A.drop a).length:=by simp;omega
 have e1:∀z:List Int,addD (mat (A.take a)) (.lst [rowD z])=some (mat (A.take a++[z])):=fun z=>addM _ [z] (by rw[qAx];omega)
 have e2:∀z:List Int,addD (mat (A.take a++[z])) (mat (A.drop a))=some (mat (A.take a++[z]++A.drop a)):=fun z=>addM _ _ (by rw[qAe,qAx];omega)
 have e3:∀z:List Int,addD (mat (A.take a++[z])) (mat (A.drop (a+1)))=some (mat (A.take a++[z]++A.drop (a+1))):=fun z=>addM _ _ (by rw[qAe,qAx];omega)
 have e4:addD (mat (A.take a)) (mat (A.drop (a+1)))=some (mat (A.take a++A.drop (a+1))):=addM _ _ (by omega);have mt:∀r∈A.take a,r.length<=41+k:=fun r hr=>by have:=h.2 r (qEl hr);omega
 have md:∀j,∀r∈A.drop j,r.length<=41+k:=fun j r hr=>by have:=h.2 r (qEo hr);omega
 have b1:∀z:List Int,z.length<=41+k->Rws (k+1) (A.take a++[z]++A.drop a):=fun z hz=>⟨by rw[qAe,qAe,qAx];omega,fun r hr=>by
  simp only[qAv,qAm]at hr
  rcases hr with(hr|rfl)|hr
  ·have:=mt r hr;omega
  ·omega
  ·have:=md a r hr;omega⟩
 have b3:∀z:List Int,z.length<=41+k->Rws (k+1) (A.take a++[z]++A.drop (a+1)):=fun z hz=>⟨by rw[qAe,qAe,qAx];omega,fun r hr=>by
  simp only[qAv,qAm]at hr
  rcases hr with(hr|rfl)|hr
  ·have:=mt r hr;omega
  ·omega
  ·have:=md (a+1) r hr;omega⟩
 have b4:Rws (k+1) (A.take a++A.drop (a+1)):=⟨by rw[qAe];omega,fun r hr=>by
  simp only[qAv]at hr
  rcases hr with hr|hr
  ·have:=mt r hr;omega
  ·have:=md (a+1) r hr;omega⟩
 have b5:Rws (k+1) A.reverse:=⟨by rw[qDl];omega,fun r hr=>by have:=h.2 r (by simpa using hr);omega⟩
 have hv5:=zY1 A;unfold zCY;refine ex (ρ':=[some (mat A,0),some (.int c,0),some (.int (a:Int),0)]) (ss (b2 (b2 rfl rfl (dvi (by decide))) (b2 (bi1 rfl hl) rfl rfl) hm) (qAp 0)) ?_
 generalize hw:c%7=w
 have hmd:modD (.int c) (.int 7)=some (.int w):=mdi (by decide) hw
 by_cases w0:w=0
 ·have e1':addD (mat (A.take a)) (.lst [.lst []])=some (mat (A.take a++[[]])):=e1 [];exact er (r':=A.take a++[[]]++A.drop a) (sk (eqi (b2 rfl rfl hmd) rfl (decide_eq_true w0)) (rt1 (b2 (b2 (sl0 rfl rfl s1) (el1 el0) e1') (sl1 rfl rfl s2) (e2 [])) (b2 (b2 (sl0 rfl rfl s1) (el1 el0) e1') (sl1 rfl rfl s2) (e2 [])))) (b1 [] (by simp))
 refine ex (sf (eqi (b2 rfl rfl hmd) rfl (decide_eq_false w0))) ?_
 by_cases w1:w=1\/a=A.length
 ·refine er (r':=A.take a++A.drop (a+1)) (sk ?_ (rt1 (b2 (sl0 rfl rfl s1) (sl1 rfl (b2 rfl rfl rfl) s3) e4) (b2 (sl0 rfl rfl s1) (sl1 rfl (b2 rfl rfl rfl) s3) e4))) b4
  by_cases z:w=1
  ·exact to1 (eqi (b2 rfl rfl hmd) rfl (decide_eq_true z))
  ·exact to0 (eqi (b2 rfl rfl hmd) rfl (decide_eq_false z)) (eqi rfl (bi1 rfl hl) (decide_eq_true (by have:=w1.resolve_left z;omega)))
 have z1:¬w=1:=fun z=>w1 (.inl z)
 have z2:¬a=A.length:=fun z=>w1 (.inr z)
 refine ex (sf (to0 (eqi (b2 rfl rfl hmd) rfl (decide_eq_false z1)) (eqi rfl (bi1 rfl hl) (decide_eq_false (by omega))))) ?_
 by_cases w2:w=2
 ·exact er (r':=A.reverse) (sk (eqi (b2 rfl rfl hmd) rfl (decide_eq_true w2)) (rt1 (b2 rfl rfl hv5) (b2 rfl rfl hv5))) b5
 refine ex (sf (eqi (b2 rfl rfl hmd) rfl (decide_eq_false w2))) ?_;have haA:a<A.length:=by omega
 have hix:=zRH A a haA;obtain⟨z,hz,hzl⟩:=zJA (A.getD a []) (c/49) k (h.2 _ (zAQ haA)) hk;exact⟨A.take a++[z]++A.drop (a+1),rt1 (b2 (b2 (sl0 rfl rfl s1) (el1 (c2 (b2 rfl rfl hix) (b2 rfl rfl (dvi (by decide))) hz)) (e1 z)) (sl1 rfl (b2 rfl rfl rfl) s3) (e3 z)) (b2 (b2 (sl0 rfl rfl s1) (el1 (c2 (b2 rfl rfl hix) (b2 rfl rfl (dvi (by decide))) hz)) (e1 z)) (sl1 rfl (b2 rfl rfl rfl) s3) (e3 z)),b3 z hzl⟩
structure Pap(k:Nat)(P:List Int)(B N:List (List Int)):Prop where
 p:P.length<=40+k
 b:Rws k B
 n:Rws k N
set_option maxHeartbeats 4000000 in
theorem zL8{P:List Int}{B N:List (List Int)}(c:Int)(k:Nat)(h:Pap k P B N)(hk:k<=6):∃(P':List Int)(B' N':List (List Int)),zCP [.tup [rowD P,mat B,mat N],.int c]=okR (.tup [rowD P',mat B',mat N'])/\Pap (k+1) P' B' N':=by
 have up:P.length<=40+(k+1):=by have:=h.p;omega
 obtain⟨P',p1,p2⟩:=zJA P (c/3) k h.p hk;obtain⟨B',q1,q2⟩:=zHV B (c/3) k h.b hk;obtain⟨N',t1,t2⟩:=zHV N (c/3) k h.n hk
 generalize hw:c%3=w
 have hmd:modD (.int c) (.int 3)=some (.int w):=mdi (by decide) hw
 by_cases w0:w=0
 ·exact⟨P',B,N,zC3 rfl (sw rfl (sx (eqi (b2 rfl rfl hmd) rfl (decide_eq_true w0)) (rt1 (et3 (c2 rfl (b2 rfl rfl (dvi (by decide))) p1) rfl rfl) (et3 (c2 rfl (b2 rfl rfl (dvi (by decide))) p1) rfl rfl)))),⟨by omega,h.b.up,h.n.up⟩⟩
 by_cases w1:w=1
 ·exact⟨P,B',N,zC3 rfl (sw rfl (sp (eqi (b2 rfl rfl hmd) rfl (decide_eq_false w0)) (sx (eqi (b2 rfl rfl hmd) rfl (decide_eq_true w1)) (rt1 (et3 rfl (c2 rfl (b2 rfl rfl (dvi (by decide))) q1) rfl) (et3 rfl (c2 rfl (b2 rfl rfl (dvi (by decide))) q1) rfl))))),⟨up,q2,h.n.up⟩⟩
 ·exact⟨P,B,N',zC3 rfl (sw rfl (sp (eqi (b2 rfl rfl hmd) rfl (decide_eq_false w0)) (sp (eqi (b2 rfl rfl hmd) rfl (decide_eq_false w1)) (rt1 (et3 rfl rfl (c2 rfl (b2 rfl rfl (dvi (by decide))) t1)) (et3 rfl rfl (c2 rfl (b2 rfl rfl (dvi (by decide))) t1)))))),⟨up,h.b.up,t2⟩⟩
theorem zJE{n:Nat}{f:Nat->Nat->Int}(hn:n<=10)(hb:Bits n f)(hs:Sym n f):∃(P:List Int)(B N:List (List Int)),zDN [mat (tab n f)]=okR (.tup [rowD P,mat B,mat N])/\Pap 0 P B N:=by
 obtain⟨q,ks,hq,hl,hG,hgr⟩:=zLV hn hb;have hr:Rise n ks:=zQN hG.up fun k hk=>hG.lt k hk
 have hN:=zW3 hs hG hq hl;obtain⟨g,W,m1,m2,m3⟩:=zOG hn hb hs hr hN hq hl;have hle:=hr.le;have hp:=zK4 n f ks hr.lt (by omega);refine⟨numL ks,tab ks.length g,(oths n ks).map fun i=>numL (W i),?_,?_,⟨?_,?_⟩,?_,?_⟩
 ·have dK:(rowD (numL ks)).dep<=9:=by unfold rowD;simp
  have dG:=zC1 (tab ks.length g);refine zC3 rfl ?_;show zGV [some (mat (tab n f),0),none,none]=_;unfold zGV;exact sg (c1 rfl hgr) dK (sg (c1 (c2 rfl rfl hp) m1) dG (rt1 (et3 rfl rfl (c3 rfl rfl rfl m2)) (et3 rfl rfl (c3 rfl rfl rfl m2))))
 ·simp[numL];omega
 ·rw[zBY];omega
 ·intro r hr'
  have:=(zEZ m3.bits r hr').1
  omega
 ·rw[qAl]
  have:=qDc (fun i=>!decide (i∈ks)) (qA1 n)
  rw[qDz]at this
  have:(oths n ks).length<=n:=this
  omega
 ·intro r hr';obtain⟨i,hi,rfl⟩:=qAa.mp hr';obtain⟨i1,i2⟩:=oths_mem.mp hi;have a:=m3.nth i i1 i2
  have:(W i).length<=n:=by
   have h1:=zQN a.up (a.lt i1 hr.lt);exact h1.le
  simp[numL];omega
theorem zH6(r:List Int)(hz:r.length<=1000):zBX [rowD r]=okR (.bl true):=by
 unfold zBX zFJ;have hw:=zH7;have hi:isiD "list" (rowD r)=some (.bl true):=rfl;have hc:eComp (iSq (eV 0)) 1 (.one 1) Mi.tYes (eCall zBT (aCons (eV 1) aNil)) [some (rowD r)]=okR (.lst (r.map fun _=>Dt.bl true)):=by
  refine zAZ (fun k:Int=>Dt.int k) _ r rfl rfl (fun k _=>by simp[hw]) _ (by simp[rowD]) (by omega)
 have hb:=zEB r
 generalize rowD r=R at *
 simp[startO,hi,hc,hb]
theorem zRE{P:List Int}{B N:List (List Int)}(h:Pap 0 P B N):zCE [.tup [rowD P,mat B,mat N]]=okR (.bl true):=by
 have i0:ixD (.tup [rowD P,mat B,mat N]) (.int 0)=some (rowD P):=zDA (j:=0) rfl rfl;have i1:ixD (.tup [rowD P,mat B,mat N]) (.int 1)=some (mat B):=zDA (j:=1) rfl rfl;have i2:ixD (.tup [rowD P,mat B,mat N]) (.int 2)=some (mat N):=zDA (j:=2) rfl rfl;have t1:isiD "tuple" (.tup [rowD P,mat B,mat N])=some (.bl true):=rfl;have t2:lenD [.tup [rowD P,mat B,mat N]]=some (.int 3):=rfl;have hPl:=h.p;have hb1:=h.b.1;have hn1:=h.n.1;have n1:=zH6 P (by omega);have ad:=addM B N (by omega);have c1:eComp (iSq (eV 0)) 1 (.one 1) Mi.tYes (eIsi "list" (eV 1)) [some (.tup [rowD P,mat B,mat N])]=okR (.lst ([rowD P,mat B,mat N].map fun _=>Dt.bl true)):=by
  refine zAZ (fun d:Dt=>d) _ [rowD P,mat B,mat N] rfl rfl (fun d hd=>?_) _ (by simp) (by simp);simp only[qA9,qB0,or_false]at hd
  rcases hd with rfl|rfl|rfl<;>rfl
 have c2:eComp (iSq (eB addD (eB ixD (eV 0) (eC (.int 1))) (eB ixD (eV 0) (eC (.int 2))))) 1 (.one 1) Mi.tYes (eCall zBX (aCons (eV 1) aNil)) [some (.tup [rowD P,mat B,mat N])]=okR (.lst ((B++N).map fun _=>Dt.bl true)):=by
  refine zAZ rowD _ (B++N) rfl rfl (fun r hr=>?_) _ ?_ (by simp;omega)
  ·have:r.length<=1000:=by
    rcases qAv.mp hr with z|z
    ·have:=h.b.2 r z;omega
    ·have:=h.n.2 r z;omega
   simp[zH6 r this]
  ·have e:iSq (eB addD (eB ixD (eV 0) (eC (.int 1))) (eB ixD (eV 0) (eC (.int 2)))) [some (.tup [rowD P,mat B,mat N])]=iSq (fun _=>okR (mat (B++N))) [some (.tup [rowD P,mat B,mat N])]:=by
    unfold iSq
    generalize Dt.tup [rowD P,mat B,mat N]=X at *
    simp[i1,i2,ad]
   rw[e];simp[iSq,mat]
 have b1:=zEB [rowD P,mat B,mat N];have b2:=zEB (B++N)
 generalize Dt.tup [rowD P,mat B,mat N]=X at *
 generalize[rowD P,mat B,mat N].map (fun _=>Dt.bl true)=Y at *
 generalize(B++N).map (fun _=>Dt.bl true)=Y' at *
 unfold zCE zEC;simp[startO,t1,t2,c1,b1,i0,n1,c2,b2]
theorem zSD(ns:List Int):∃n f,n<=10/\Bits n f/\Sym n f/\zE7 [.scr ns,.int 8]=okR (mat (tab n f)):=by
 have c40:=zJ6 ns 40 (by omega) (by omega);obtain⟨n1,f1,a1,a2,a3,a4⟩:=zXP ns 0 (by omega);obtain⟨n2,f2,q,b1,b2,b3,b4⟩:=zVE 0 (by omega) (by omega) ns false;have a4':zE0 [.scr ns,.int 0,.int 8]=okR (mat (tab n1 f1)):=a4
 by_cases h:cellv ns 40%2=0
 ·refine⟨n1,f1,a1,a2,a3,?_⟩;unfold zE7 zGW;refine zC3 rfl (zUF ?_);simp[-qA0,startO,c40,h,a4']
 ·refine⟨n2,f2,b1,b2,b3,?_⟩;have i0:itA [mat (tab n2 f2),Dt.int (q:Int)] 0=some (mat (tab n2 f2)):=zDA (j:=0) rfl rfl;unfold zE7 zGW;refine zC3 rfl (zBN fun bb hb=>?_);simp[-qA0,startO,c40,h];subst hb;simp[-qA0,b4,i0]
def PpS(ns:List Int)(F:Dt)(k:Nat)(r:Ro):Prop:=∃P B N l2 o3,r=[some (.scr ns,0),some (F,0),some (.tup [rowD P,mat B,mat N],l2),o3,none,none,none]/\Pap k P B N
theorem zTF(ns:List Int)(hl:ns.length<=63)(hw:∀i∈ns,i.natAbs.log2<2 ^ 20):zLQ [.scr ns]=okR (.bl true):=by
 obtain⟨n,f,hn,hb,hs,ha⟩:=zSD ns;have hdF:¬(mat (tab n f)).dep<=0:=by unfold mat;simp
 have hdF2:=zC1 (tab n f);have hcp:=zKR (tab n f) (by rw[zBY];omega);obtain⟨P0,B0,N0,p0,k0⟩:=zJE hn hb hs;obtain⟨n2,f2,q2,a1,a2,a3,a4⟩:=zVE 20 (by omega) (by omega) ns false;obtain⟨P1,B1,N1,p1,k1⟩:=zJE a1 a2 a3;have i0:ixD (.tup [mat (tab n2 f2),Dt.int (q2:Int)]) (.int 0)=some (mat (tab n2 f2)):=zDA (j:=0) rfl rfl;have hkd:=zRE k0;have c41:=zJ6 ns 41 (by omega) (by omega);have c42:=zJ6 ns 42 (by omega) (by omega);have heF:Dt.eq (mat (tab n f)) (mat (tab n f))=true:=by rw[zOM];simp
 refine zC3 rfl ?_;show zIT [some (.scr ns,0),none,none,none,none,none,none]=_;unfold zIT;have shP:∀{P B N} k,k<=4->Pap k P B N->∃b:Bool,zD8 [mat (tab n f),.tup [rowD P,mat B,mat N]]=okR (.bl b)/\zCF [mat (tab n f),.tup [rowD P,mat B,mat N]]=okR (.bl b):=fun{P B N} k hk h=>by
  have hPl:=h.p;have hb1:=h.b.1;have hn1:=h.n.1;obtain⟨b,x1,x2⟩:=zP5 (P:=P) (B:=B) (N:=N) hn hb hs (by omega) ⟨by omega,fun r hr=>by have:=h.b.2 r hr;omega⟩ ⟨by omega,fun r hr=>by have:=h.n.2 r hr;omega⟩;obtain⟨b',y1,y2⟩:=zRR (P:=P) (B:=B) (N:=N) hn hb hs (by omega) ⟨by omega,fun r hr=>by have:=h.b.2 r hr;omega⟩ ⟨by omega,fun r hr=>by have:=h.n.2 r hr;omega⟩;have e:b=b':=by
   have:=x2.trans y2.symm
   cases b<;>cases b'<;>simp at this ⊢
  subst e;exact⟨b,x1,y1⟩
 generalize hF:mat (tab n f)=F at *
 refine zBN fun bb hbb=>zBO (r:=[some (.scr ns,0),some (F,0),none,none,none,none,none]) (s2s (c2 rfl rfl ha) (c2 rfl rfl ha) rfl) ?_
 subst hbb;refine zBN fun bb hbb=>?_
 suffices key:∀r,(∃l2,r=[some (.scr ns,0),some (F,0),some (.tup [rowD P0,mat B0,mat N0],l2),none,none,none,none])->bb r=okR (.rt (.bl true)) by
  have hst:nxR (sSet 2 1 [1] (eCall zDN (aCons (eCall zBC (aCons (eV 1) aNil)) aNil)) [some (.scr ns,0),some (F,0),none,none,none,none,none]) fun r=>∃l2,r=[some (.scr ns,0),some (F,0),some (.tup [rowD P0,mat B0,mat N0],l2),none,none,none,none]:=
   zE4 (d:=.tup [rowD P0,mat B0,mat N0]) (c1 (c1 rfl hcp) p0) (c1 (c1 rfl hcp) p0) ⟨_,rfl⟩ ⟨_,rfl⟩
  obtain⟨r',h1,h2⟩:=zDC hst;exact zBO h1 (key r' h2)
 subst hbb
 rintro r ⟨l2,rfl⟩
 refine zBN fun bb hbb=>zBO (r:=[some (.scr ns,0),some (F,0),some (.tup [rowD P0,mat B0,mat N0],l2),none,none,none,none]) (sf (tn1 (k:=true) (tm1 (c1 rfl hkd)))) ?_
 subst hbb;refine zBN fun bb hbb=>?_
 suffices key:∀r,PpS ns F 0 r->bb r=okR (.rt (.bl true)) by
  by_cases h:cellv ns 41%5=1
  ·have hst:nxR (sSet 2 1 [0] (eCall zDN (aCons (eB ixD (eCall zD9 (aCons (eV 0) (aCons (eC (.int 20)) (aCons (eC (.int 8)) (aCons (eC (.bl false)) aNil))))) (eC (.int 0))) aNil)) [some (.scr ns,0),some (F,0),some (.tup [rowD P0,mat B0,mat N0],l2),none,none,none,none]) (PpS ns F 0):=by
    exact zE4 (d:=.tup [rowD P1,mat B1,mat N1]) (c1 (b2 (c4 rfl rfl rfl rfl a4) rfl i0) p1) (c1 (b2 (c4 rfl rfl rfl rfl a4) rfl i0) p1) ⟨P1,B1,N1,_,_,rfl,k1⟩ ⟨P1,B1,N1,_,_,rfl,k1⟩
   rw[zHP,show tB (eB eqD (eB modD (eCall zAA (aCons (eV 0) (aCons (eC (.int 41)) aNil))) (eC (.int 5))) (eC (.int 1))) (full [some (.scr ns,0),some (F,0),some (.tup [rowD P0,mat B0,mat N0],l2),none,none,none,none])=okR true from eqi (b2 (c2 rfl rfl c41) rfl (mdi (by decide) rfl)) rfl (decide_eq_true h),zA2,if_pos rfl];obtain⟨r',h1,h2⟩:=zDC hst;exact zBO h1 (key r' h2)
  ·refine zBO (r:=[some (.scr ns,0),some (F,0),some (.tup [rowD P0,mat B0,mat N0],l2),none,none,none,none]) (sf (eqi (b2 (c2 rfl rfl c41) rfl (mdi (by decide) rfl)) rfl (decide_eq_false h))) ?_;exact key _ ⟨P0,B0,N0,l2,none,rfl,k0⟩
 subst hbb;intro r hr;obtain⟨m,hm,hm4⟩:∃m:Nat,cellv ns 42%4=(m:Int)/\m<=3:=⟨(cellv ns 42%4).toNat,by omega,by omega⟩
 refine zBN fun bb hbb=>?_
 suffices key:∀r,PpS ns F m r->bb r=okR (.rt (.bl true)) by
  have hst:nxR (sForR (iR1 (aCons (eB modD (eCall zAA (aCons (eV 0) (aCons (eC (.int 42)) aNil))) (eC (.int 4))) aNil)) 3 (sSet 2 1 [2,0,3] (eCall zCP (aCons (eV 2) (aCons (eCall zAA (aCons (eV 0) (aCons (eB addD (eC (.int 43)) (eV 3)) aNil))) aNil)))) r) (PpS ns F m):=by
   rw[zJP,show iR1 (aCons (eB modD (eCall zAA (aCons (eV 0) (aCons (eC (.int 42)) aNil))) (eC (.int 4))) aNil) (full r)=okR (nums 0 m) by
    obtain⟨P,B,N,l2,o3,rfl,_⟩:=hr;exact zD6 (al0 (b2 (c2 rfl rfl c42) rfl (mdi (by decide) hm))) (by omega),zA2]
   refine zTA (fun k=>PpS ns F k) hr (fun k hk r hr=>?_) fun r h=>h
   obtain⟨P,B,N,l2,o3,rfl,hp⟩:=hr;have ck:=zJ6 ns (43+(k:Int)) (by omega) (by omega);obtain⟨P',B',N',s1,s2⟩:=zL8 (cellv ns (43+(k:Int))) k hp (by omega);exact zE4 (d:=.tup [rowD P',mat B',mat N']) (c2 rfl (c2 rfl (b2 rfl rfl rfl) ck) s1) (c2 rfl (c2 rfl (b2 rfl rfl rfl) ck) s1) ⟨P',B',N',_,_,rfl,s2⟩ ⟨P',B',N',_,_,rfl,s2⟩
  obtain⟨r',h1,h2⟩:=zDC hst;exact zBO h1 (key r' h2)
 subst hbb
 rintro r ⟨P,B,N,l2,o3,rfl,hp⟩
 obtain⟨b,sh,gd⟩:=shP m (by omega) hp;have hPl:=hp.p;have hb1:=hp.b.1;have hn1:=hp.n.1;have j0:ixD (.tup [rowD P,mat B,mat N]) (.int 0)=some (rowD P):=zDA (j:=0) rfl rfl;have j1:ixD (.tup [rowD P,mat B,mat N]) (.int 1)=some (mat B):=zDA (j:=1) rfl rfl;have j2:ixD (.tup [rowD P,mat B,mat N]) (.int 2)=some (mat N):=zDA (j:=2) rfl rfl;have cB:=zKR B (by omega);have cN:=zKR N (by omega);have lP:listD [rowD P]=some (rowD P):=rfl;have heX:Dt.eq (.tup [rowD P,mat B,mat N]) (.tup [rowD P,mat B,mat N])=true:=by
  show Dt.eqL [rowD P,mat B,mat N] [rowD P,mat B,mat N]=true;simp[Dt.eqL,zOL,zOM]
 have hdX:(Dt.tup [rowD P,mat B,mat N]).dep<=40:=by
  have h1:=zC1 B;have h2:=zC1 N;have h3:(rowD P).dep<=1:=by unfold rowD;simp
  simp[Dt.depL];omega
 have hd40:F.dep<=40:=by omega
 have hbo:isiD "bool" (.bl b)=some (.bl true):=rfl;have hbe:Dt.eq (.bl b) (.bl b)=true:=by cases b<;>rfl
 have eTu:eTup (aCons (eBi listD (aCons (eB ixD (eV 2) (eC (.int 0))) aNil)) (aCons (eCall zBC (aCons (eB ixD (eV 2) (eC (.int 1))) aNil)) (aCons (eCall zBC (aCons (eB ixD (eV 2) (eC (.int 2))) aNil)) aNil))) [some (.scr ns),some F,some (.tup [rowD P,mat B,mat N]),o3.map qFj,some F,none,none]=okR (.tup [rowD P,mat B,mat N]):=by
  exact et3 (bi1 (b2 rfl rfl j0) lP) (c1 (b2 rfl rfl j1) cB) (c1 (b2 rfl rfl j2) cN)
 refine zBN fun bb hbb=>zBO (r:=[some (.scr ns,0),some (F,0),some (.tup [rowD P,mat B,mat N],l2),o3,some (F,2),none,none]) (ss (c1 rfl hcp) hdF2) ?_
 subst hbb;refine zBN fun bb hbb=>?_
 suffices key:∀r,(∃l2 l5,r=[some (.scr ns,0),some (F,0),some (.tup [rowD P,mat B,mat N],l2),o3,some (F,2),some (.tup [rowD P,mat B,mat N],l5),none])->bb r=okR (.rt (.bl true)) by
  have hst:nxR (sSet 5 1 [2] (eTup (aCons (eBi listD (aCons (eB ixD (eV 2) (eC (.int 0))) aNil)) (aCons (eCall zBC (aCons (eB ixD (eV 2) (eC (.int 1))) aNil)) (aCons (eCall zBC (aCons (eB ixD (eV 2) (eC (.int 2))) aNil)) aNil)))) [some (.scr ns,0),some (F,0),some (.tup [rowD P,mat B,mat N],l2),o3,some (F,2),none,none]) fun r=>∃l2 l5,r=[some (.scr ns,0),some (F,0),some (.tup [rowD P,mat B,mat N],l2),o3,some (F,2),some (.tup [rowD P,mat B,mat N],l5),none]:=by
   exact zE4 (d:=.tup [rowD P,mat B,mat N]) eTu (et3 (bi1 (b2 rfl rfl j0) lP) (c1 (b2 rfl rfl j1) cB) (c1 (b2 rfl rfl j2) cN)) ⟨_,_,rfl⟩ ⟨_,_,rfl⟩
  obtain⟨r',h1,h2⟩:=zDC hst;exact zBO h1 (key r' h2)
 subst hbb
 rintro r ⟨l2,l5,rfl⟩
 generalize Dt.tup [rowD P,mat B,mat N]=X at sh gd heX hdX
 refine zBN fun bb hbb=>zBO (r:=[some (.scr ns,0),some (F,0),some (X,l2),o3,some (F,2),some (X,l5),some (.bl b,0)]) (ss (c2 rfl rfl sh) (qAp 0)) ?_
 subst hbb;refine zBN fun bb hbb=>zBO (r:=[some (.scr ns,0),some (F,0),some (X,l2),o3,some (F,2),some (X,l5),some (.bl b,0)]) (by simp[hbo,gd,hbe]) ?_
 subst hbb;simp[heF,heX,hdX,hd40,sh,hbe]
end Mp
set_option maxHeartbeats 4000000
namespace Q34
open PySem PyProof.Rows
open L2 hiding Rep RepL
open L3
open Mp
noncomputable def top(i:Nat):Stmt:=qDq.main.body.getD i (.Pass ⟨0,0,0,0⟩)
theorem S__law_cell:FnScope ["_law_script","_law_k","_law_cell_here","_law_mixed"] ["_law_script","_law_k"] (zAD (top 21)):=fsc
theorem zMO:FnScope ["_law_one","_law_other"] ["_law_one","_law_other"] (zAD (top 25)):=fsc
theorem S__law_mixed_up:FnScope ["_law_table_here","_law_cell_here","_law_size","_law_i","_law_j","_law_row"] ["_law_table_here","_law_cell_here"] (zAD (top 29)):=fsc
theorem S__law_built:FnScope ["_law_script","_law_at","_law_most","_law_full","_law_size","_law_table_here","_law_rest","_law_place","_law_kind","_law_k"] ["_law_script","_law_at","_law_most","_law_full"] (zAD (top 30)):=fsc
theorem S__law_table:FnScope ["_law_script","_law_at","_law_most","_law_size","_law_kinds","_law_kind","_law_bits","_law_free","_law_rows","_law_i"] ["_law_script","_law_at","_law_most"] (zAD (top 23)):=fsc
theorem zPR:FnScope ["_law_script","_law_most"] ["_law_script","_law_most"] (zAD (top 31)):=fsc
theorem zNS:FnScope ["_law_table_here"] ["_law_table_here"] (zAD (top 24)):=fsc
theorem zNR:FnScope ["_law_table_here","_law_numbers_here"] ["_law_table_here","_law_numbers_here"] (zAD (top 28)):=fsc
theorem S__law_product:FnScope ["_law_one","_law_other","_law_rows","_law_row","_law_total","_law_k"] ["_law_one","_law_other"] (zAD (top 26)):=fsc
theorem zNQ:FnScope ["_law_size"] ["_law_size"] (zAD (top 27)):=fsc
theorem S__law_paper_good:FnScope ["_law_table_here","_law_paper","_law_part_here","_law_back","_law_nothings","_law_size","_law_others","_law_i","_law_row"] ["_law_table_here","_law_paper"] (zAD (top 34)):=fsc
theorem zMN:FnScope ["_law_found"] ["_law_found"] (zAD (top 22)):=fsc
theorem zJ7:FnScope ["_law_found"] ["_law_found"] (zAD (top 32)):=fsc
theorem zGY:FnScope ["_law_found"] ["_law_found"] (zAD (top 33)):=fsc
theorem S__law_row_spoilt:FnScope ["_law_row","_law_cell_here","_law_how","_law_at","_law_number"] ["_law_row","_law_cell_here"] (zAD (top 35)):=fsc
theorem S__law_rows_spoilt:FnScope ["_law_rows","_law_cell_here","_law_at"] ["_law_rows","_law_cell_here"] (zAD (top 36)):=fsc
theorem S__law_spoilt:FnScope ["_law_paper","_law_cell_here","_law_part_here","_law_back","_law_nothings"] ["_law_paper","_law_cell_here"] (zAD (top 37)):=fsc
theorem zX9:FnScope ["one","other"] ["one","other"] (zAD (top 5)):=fsc
theorem S_less_leaders:FnScope ["row","leaders","left","leader"] ["row","leaders"] (zAD (top 13)):=fsc
theorem S_greatest_part:FnScope ["table","part","leaders","number","row","left"] ["table"] (zAD (top 12)):=fsc
theorem zSH:FnScope ["row"] ["row"] (zAD (top 6)):=fsc
theorem S_sum_of_rows:FnScope ["table","numbers","total","number"] ["table","numbers"] (zAD (top 4)):=fsc
theorem S_nothing_at:FnScope ["table","part","undone","number","row","picked"] ["table","part","undone","number"] (zAD (top 17)):=fsc
theorem zKX:FnScope ["table","part","undone"] ["table","part","undone"] (zAD (top 16)):=fsc
theorem zSG:FnScope ["table","numbers"] ["table","numbers"] (zAD (top 3)):=fsc
theorem S_cleared:FnScope ["rows","column","at","lead","others"] ["rows","column","at"] (zAD (top 14)):=fsc
theorem zPP:FnScope ["size","number"] ["size","number"] (zAD (top 15)):=fsc
theorem S_undoing:FnScope ["table","size","rows","column","leads"] ["table"] (zAD (top 8)):=fsc
theorem S_paper_of:FnScope ["table","part","undone"] ["table"] (zAD (top 9)):=fsc
theorem zPQ:FnScope ["thing"] ["thing"] (zAD (top 1)):=fsc
theorem zNP:FnScope ["numbers"] ["numbers"] (zAD (top 19)):=fsc
theorem zNO:FnScope ["lists","wanted"] ["lists","wanted"] (zAD (top 18)):=fsc
theorem zU9:FnScope ["table","numbers"] ["table","numbers"] (zAD (top 11)):=fsc
theorem S_shows_rest:FnScope ["table","paper","part","undone"] ["table","paper"] (zAD (top 10)):=fsc
theorem S_law:FnScope ["_law_script","_law_table_here","_law_told","_law_k","_law_handed","_law_paper","_law_found"] ["_law_script"] (zAD (top 38)):=fsc
section
variable{P:Program}{w:World}{K:qA2}{mg:Str->Option Value}{base:Heap}
structure Bd(K:qA2)(mg:Str->Option Value):Prop where
 d0:Def K mg "_law_cell" (top 21)
 d1:Def K mg "_law_added" (top 25)
 d2:Def K mg "_law_mixed_up" (top 29)
 d3:Def K mg "_law_built" (top 30)
 d4:Def K mg "_law_table" (top 23)
 d5:Def K mg "_law_any" (top 31)
 d6:Def K mg "_law_copy" (top 24)
 d7:Def K mg "_law_part" (top 28)
 d8:Def K mg "_law_product" (top 26)
 d9:Def K mg "_law_same" (top 27)
 d10:Def K mg "_law_paper_good" (top 34)
 d11:Def K mg "_law_whole" (top 22)
 d12:Def K mg "_law_numbers" (top 32)
 d13:Def K mg "_law_paper_kind" (top 33)
 d14:Def K mg "_law_row_spoilt" (top 35)
 d15:Def K mg "_law_rows_spoilt" (top 36)
 d16:Def K mg "_law_spoilt" (top 37)
 d17:Def K mg "added" (top 5)
 d18:Def K mg "less_leaders" (top 13)
 d19:Def K mg "greatest_part" (top 12)
 d20:Def K mg "ones_in" (top 6)
 d21:Def K mg "sum_of_rows" (top 4)
 d22:Def K mg "nothing_at" (top 17)
 d23:Def K mg "nothings_of" (top 16)
 d24:Def K mg "part_at" (top 3)
 d25:Def K mg "cleared" (top 14)
 d26:Def K mg "unit_row" (top 15)
 d27:Def K mg "undoing" (top 8)
 d28:Def K mg "paper_of" (top 9)
 d29:Def K mg "is_whole" (top 1)
 d30:Def K mg "are_whole" (top 19)
 d31:Def K mg "is_listed" (top 18)
 d32:Def K mg "is_set" (top 11)
 d33:Def K mg "shows_rest" (top 10)
 e0:mg "abs" = none
 e1:mg "all" = none
 e2:mg "any" = none
 e3:mg "bool" = none
 e4:mg "enumerate" = none
 e5:mg "int" = none
 e6:mg "isinstance" = none
 e7:mg "len" = none
 e8:mg "list" = none
 e9:mg "max" = none
 e10:mg "min" = none
 e11:mg "range" = none
 e12:mg "set" = none
 e13:mg "sorted" = none
 e14:mg "sum" = none
 e15:mg "tuple" = none
 e16:mg "zip" = none
variable(B:Bd K mg)
include B
theorem zB4:Has P w K mg base "_law_cell" 1 ["_law_script","_law_k"] (sp0 K mg 1 zAA):=by
 letI:Kc:=⟨K⟩
 exact dfM B.d0 S__law_cell (fun _ _ _ _ _ _=>uw2 fun _ _=>rfl) fun hr hu h=>⟨_,(zA5 (pst 2 S__law_cell.nd zA7)
   (zA5 (zCJ (zBM u_lt (pn 1) (zAG (zC7 (K:=K)) rfl B.e7 boot_len (zA0 (pn 0) zA3)) (zAX _)) (zAB (pst 2 S__law_cell.nd (zBH (zBD (K:=K)) (pn 0) (pn 1) (fun _ _=>rfl)))) zB3)
   (zA5 (pst 3 S__law_cell.nd (zAI zCI (zAI zH0 (zAI zBE (zAI zCI (pn 2) zA7) (zAI zH0 zA7 (zAI zBE (pn 1) zA7))) zA7) zA7))
   (zAB (zAR (zAI zBE (zAI zH0 (zAI zDF (pn 2) zA7) zA7) (zAI zCI (zAI zH0 (pn 3) zA7) zA7))))))),(zBA (zAC (zAO (n:=0) [] zA8)
   (zAC (zCM (dt_b (dz (zA6 zH3 (de_v 1) (dz (zBK zC8 (zA1 (de_v 0) zA4)))))) (zAO (n:=0) [0,1] (zA6 zBL (de_v 0) (de_v 1))) zBJ)
   (zAC (zAO (n:=0) [2,1] (zA6 zBG (dz (zA6 zH2 (zA6 zAU (dz (zA6 zBG (de_v 2) (dz zA8))) (dz (zA6 zH2 (dz zA8) (zA6 zAU (de_v 1) (dz zA8))))) (dz zA8))) (dz zA8)))
   (zAT (n:=1) [2,3] (zA6 zAU (dz (zA6 zH2 (dz (zA6 zDG (de_v 2) (dz zA8))) (dz zA8))) (dz (zA6 zBG (dz (zA6 zH2 (de_v 3) (dz zA8))) (dz zA8)))))))) h)⟩
theorem zG0:Has P w K mg base "_law_added" 1 ["_law_one","_law_other"] (sp0 K mg 1 zCR):=by
 letI:Kc:=⟨K⟩
 exact dfM B.d1 zMO (fun _ _ _ _ _ _=>uw2 fun _ _=>rfl) fun hr hu h=>⟨_,(zAB (zAR (zAV rfl (cn ["0","1","_law_a","_law_b"] 2 (by kernel_rfl)) (zUO (K:=K) rfl B.e16 (zA0 (pn 0) (zA0 (pn 1) zA3))) (fun _ _ _ _=>zGL (K:=K) rfl (zC5 (pgn 2) (zC5 (pgn 3) zGK))) (fun _ _ _ _=>zAW) (fun _ _ _ _=>(zAI zCI (zAI zBE (pn 2) (pn 3)) zA7))))),(zBA (zAT (n:=1) [0,1] (zAP (n:=0) (zV5 (zA1 (de_v 0) (zA1 (de_v 1) zA4))) (zJ8 (zC2 2 (zC2 3 zGJ)) rfl) zB9 (zA6 zBG (zA6 zAU (de_v 2) (de_v 3)) (dz zA8)))) h)⟩
theorem zHC:Has P w K mg base "_law_mixed_up" 2 ["_law_table_here","_law_cell_here"] (sp0 K mg 0 zCV):=by
 letI:Kc:=⟨K⟩
 exact dfM B.d2 S__law_mixed_up (fun _ _ _ _ _ _=>uw2 fun _ _=>rfl) fun hr hu h=>⟨_,(zA5 (pst 2 S__law_mixed_up.nd (zAG (zC7 (K:=K)) rfl B.e7 boot_len (zA0 (pn 0) zA3)))
   (zA5 (pst 3 S__law_mixed_up.nd (zAI zCI (pn 1) (pn 2)))
   (zA5 (pst 4 S__law_mixed_up.nd (zAI zCI (zAI zBE (zAI zBE (pn 3) zA7) (zAI zCI (zAI zDF (pn 1) (pn 2)) (zAI zVJ (pn 2) zA7))) (pn 2)))
   (zA5 (pst 0 S__law_mixed_up.nd (zAV rfl (cn ["_law_table_here","1","2","_law_i","_law_j","5","_law_k","_law_row"] 2 (by kernel_rfl)) (zOB (K:=K) rfl B.e4 (zA0 (pn 0) zA3)) (fun _ _ _ _=>zGL (K:=K) rfl (zC5 (pgn 6) (zC5 (pgn 7) zGK))) (fun _ _ _ _=>zAW) (fun _ _ _ _=>(zK3 (zBM (u_eq hu) (pn 6) (pn 4) (zAX _)) (zB1 (zG0 B) (by decide) hr rfl (zA0 (pn 7) (zA0 (zBH (zBD (K:=K)) (pn 0) (pn 3) (fun _ _=>rfl)) zA3))) (zE5 (zN9 (K:=K) rfl) rfl B.e8 boot_list (zA0 (pn 7) zA3))))))
   (zA5 (zDP PassesOwn.never rfl (zC4 (K:=K) (pn 0)) (zBR (i:=5) S__law_mixed_up.nd rfl oi) (zAB (zFT (zAI zCI (zAI zBE (zBH (zBD (K:=K)) (pn 5) (pn 4) (fun _ _=>rfl)) (zBH (zBD (K:=K)) (pn 5) (pn 3) (fun _ _=>rfl))) zA7) (zI0 (pn 5) (pn 4) zMQ))))
   (zAB (zAR (pn 0)))))))),(zBA (zAC (zAO (n:=0) [0] (zBK zC8 (zA1 (de_v 0) zA4)))
   (zAC (zAO (n:=0) [1,2] (zA6 zBG (de_v 1) (de_v 2)))
   (zAC (zAO (n:=0) [2,3,1] (zA6 zBG (zA6 zAU (zA6 zAU (de_v 3) (dz zA8)) (dz (zA6 zBG (dz (zA6 zDG (de_v 1) (de_v 2))) (dz (zA6 zQM (de_v 2) (dz zA8)))))) (de_v 2)))
   (zAC (zAO (n:=2) [4,5,0,3] (zAP (n:=1) (zZN (zA1 (de_v 0) zA4)) (zJ8 (zC2 6 (zC2 7 zGJ)) rfl) zB9 (zS2 (dt_b (dz (zA6 zCT (de_v 6) (de_v 4)))) (zAF (zA1 (de_v 7) (zA1 (zA6 zBL (de_v 0) (de_v 3)) zA4))) (zBK zNK (zA1 (de_v 7) zA4)))))
   (zAC (zRV 0 5 (de_v 4) (dz (zA6 zBG (zA6 zAU (zA6 zBL (de_v 5) (de_v 4)) (zA6 zBL (de_v 5) (de_v 3))) (dz zA8))))
   (zGS 0)))))) h)⟩
theorem zFZ:Has P w K mg base "_law_built" 3 ["_law_script","_law_at","_law_most","_law_full"] (sp0 K mg 1 zD9):=by
 letI:Kc:=⟨K⟩
 exact dfM B.d3 S__law_built (fun _ _ _ _ _ _=>uw4 fun _ _ _ _=>rfl) fun hr hu h=>⟨_,(zA5 (pst 4 S__law_built.nd (zAI zCI (zB1 (zB4 B) (by decide) hr rfl (zA0 (pn 0) (zA0 (pn 1) zA3))) (zAI zBE (pn 2) zA7)))
   (zA5 (zDM (i:=5) S__law_built.nd rfl oi rfl (cn ["0","1","2","3","_law_size","5","6","7","8","9","_law_i"] 1 (by kernel_rfl)) (zAS rfl B.e11 (zA0 (pn 4) zA3)) (fun _ _ _ _=>(pgn 10)) (fun _ _ _ _=>zAW) (fun _ _ _ _=>(zAV rfl (cn ["0","1","2","3","4","5","6","7","8","9","10","_law_j"] 1 (by kernel_rfl)) (zAS rfl B.e11 (zA0 (pn 4) zA3)) (fun _ _ _ _=>(pgn 11)) (fun _ _ _ _=>zAW) (fun _ _ _ _=>zA7))))
   (zA5 (pst 6 S__law_built.nd zA7)
   (zA5 (pst 7 S__law_built.nd zA7)
   (zA5 (zT4 PassesOwn.never (zBM u_lt (pn 7) (pn 4) (zAX _)) (zA5 (pst 8 S__law_built.nd (zAI zCI (zB1 (zB4 B) (by decide) hr rfl (zA0 (pn 0) (zA0 (zAI zBE (zAI zBE (pn 1) zA7) (pn 7)) zA3))) zA7))
   (zAB (zCJ (pt_w (zUL (zBM (u_eq hu) (pn 8) zA7 (zAX _)) (zQR (zHZ (pt_m (pn 3)))))) (zA5 (pst 6 S__law_built.nd (zAI zBE (pn 6) zA7))
   (zAB (pst 7 S__law_built.nd (zAI zBE (pn 7) zA7)))) (zAB (zCJ (pt_w (zUL (zBM u_gt (pn 8) zA7 (zAX _)) (zQR (zBM u_lt (zAI zBE (pn 7) zA7) (pn 4) (zAX _))))) (zA5 (zFT zA7 (zI0 (zBH (zBD (K:=K)) (pn 5) (pn 7) (fun _ _=>rfl)) (zAI zBE (pn 7) zA7) zMQ))
   (zA5 (zFT zA7 (zI0 (zBH (zBD (K:=K)) (pn 5) (zAI zBE (pn 7) zA7) (fun _ _=>rfl)) (pn 7) zMQ))
   (zAB (pst 7 S__law_built.nd (zAI zBE (pn 7) zA7))))) (zA5 (zFT zA7 (zI0 (zBH (zBD (K:=K)) (pn 5) (pn 7) (fun _ _=>rfl)) (pn 7) zMQ))
   (zAB (pst 7 S__law_built.nd (zAI zBE (pn 7) zA7))))))))))
   (zA5 (zDP PassesOwn.never rfl (zAS rfl B.e11 (zA0 zA7 zA3)) (zBR (i:=9) S__law_built.nd rfl oi) (zAB (zCJ (zBM u_gt (pn 4) zA7 (zAX _)) (zAB (pst 5 S__law_built.nd (zB1 (zHC B) (by decide) hr rfl (zA0 (pn 5) (zA0 (zB1 (zB4 B) (by decide) hr rfl (zA0 (pn 0) (zA0 (zAI zBE (zAI zBE (pn 1) zA7) (pn 9)) zA3))) zA3))))) zB3)))
   (zAB (zAR (zI1 (zA0 (pn 5) (zA0 (pn 6) zA3))))))))))),(zBA (zAC (zAO (n:=0) [0,1,2] (zA6 zBG (zAF (zA1 (de_v 0) (zA1 (de_v 1) zA4))) (zA6 zAU (de_v 2) (dz zA8))))
   (zAC (zAO (n:=2) [4] (zAP (n:=1) (zDD (zA1 (de_v 4) zA4)) (zAN 10) zB9 (zAP (n:=0) (zDD (zA1 (de_v 4) zA4)) (zAN 11) zB9 zA8)))
   (zAC (zAO (n:=0) [] zA8)
   (zAC (zAO (n:=0) [] zA8)
   (zAC (zTR (dt_b (dz (zA6 zH3 (de_v 7) (de_v 4)))) (zAC (zAO (n:=0) [0,7,1] (zA6 zBG (zAF (zA1 (de_v 0) (zA1 (zAM (zA6 zAU (zA6 zAU (de_v 1) (dz zA8)) (de_v 7))) zA4))) (dz zA8)))
   (zCM (zV3 (dt_b (dz (zA6 zCT (de_v 8) (dz zA8)))) (zIJ (dt_m (de_v 3)))) (zAC (zAO (n:=1) [6] (zA6 zAU (de_v 6) (dz zA8)))
   (zAO (n:=1) [7] (zA6 zAU (de_v 7) (dz zA8)))) (zCM (zV3 (dt_b (dz (zA6 zH3 (de_v 8) (dz zA8)))) (dt_b (dz (zA6 zH3 (zA6 zAU (de_v 7) (dz zA8)) (de_v 4))))) (zAC (zHL 5 (n:=0) (de_v 7) (zA6 zAU (de_v 7) (dz zA8)) zA8)
   (zAC (zHL 5 (n:=0) (zA6 zAU (de_v 7) (dz zA8)) (de_v 7) zA8)
   (zAO (n:=1) [7] (zA6 zAU (de_v 7) (dz zA8))))) (zAC (zHL 5 (n:=0) (de_v 7) (de_v 7) zA8)
   (zAO (n:=1) [7] (zA6 zAU (de_v 7) (dz zA8))))))))
   (zAC (zIK (zDD (zA1 zA8 zA4)) (zCM (dt_b (dz (zA6 zH3 (de_v 4) (dz zA8)))) (zAO (n:=0) [5,0,9,1] (zAF (zA1 (de_v 5) (zA1 (zAM (zAF (zA1 (de_v 0) (zA1 (zAM (zA6 zAU (zA6 zAU (de_v 1) (dz zA8)) (de_v 9))) zA4)))) zA4)))) zBJ))
   (zAT (n:=1) [5,6] (zIN (n:=0) (zA1 (de_v 5) (zA1 (de_v 6) zA4)))))))))) h)⟩
theorem zK8:Has P w K mg base "_law_table" 2 ["_law_script","_law_at","_law_most"] (sp0 K mg 2 zE0):=by
 letI:Kc:=⟨K⟩
 exact dfM B.d4 S__law_table (fun _ _ _ _ _ _=>uw3 fun _ _ _=>rfl) fun hr hu h=>⟨_,(zA5 (pst 3 S__law_table.nd (zAI zCI (zB1 (zB4 B) (by decide) hr rfl (zA0 (pn 0) (zA0 (pn 1) zA3))) (zAI zBE (pn 2) zA7)))
   (zA5 (pst 4 S__law_table.nd (zAG (zM8 rfl) rfl B.e9 boot_max (zA0 zA7 (zA0 (zAI zVJ (pn 3) (zAI zCI (zAI zDF (zB1 (zB4 B) (by decide) hr rfl (zA0 (pn 0) (zA0 (pn 1) zA3))) zA7) zA7)) zA3))))
   (zA5 (pst 5 S__law_table.nd (zAV rfl (cn ["_law_script","_law_at","2","3","_law_kinds","5","6","7","8","9","_law_k"] 1 (by kernel_rfl)) (zAS rfl B.e11 (zA0 (pn 3) zA3)) (fun _ _ _ _=>(pgn 10)) (fun _ _ _ _=>zAW) (fun _ _ _ _=>(zAI zCI (zAI zDF (zB1 (zB4 B) (by decide) hr rfl (zA0 (pn 0) (zA0 (zAI zBE (pn 1) zA7) zA3))) (zAI zBE (pn 10) zA7)) (pn 4)))))
   (zA5 (zCJ (zBM u_gt (zAI zCI (zAI zDF (zB1 (zB4 B) (by decide) hr rfl (zA0 (pn 0) (zA0 (pn 1) zA3))) zA7) zA7) zA7 (zAX _)) (zAB (pst 5 S__law_table.nd (zAV rfl (cn ["0","1","2","3","_law_kinds","5","6","7","8","9","_law_k"] 1 (by kernel_rfl)) (zAS rfl B.e11 (zA0 (pn 3) zA3)) (fun _ _ _ _=>(pgn 10)) (fun _ _ _ _=>zAW) (fun _ _ _ _=>(zAI zCI (pn 10) (pn 4)))))) zB3)
   (zA5 (pst 6 S__law_table.nd (zAV rfl (cn ["_law_script","_law_at","2","3","4","5","6","7","8","9","_law_i"] 1 (by kernel_rfl)) (zAS rfl B.e11 (zA0 (pn 4) zA3)) (fun _ _ _ _=>(pgn 10)) (fun _ _ _ _=>zAW) (fun _ _ _ _=>(zB1 (zB4 B) (by decide) hr rfl (zA0 (pn 0) (zA0 (zAI zBE (zAI zBE (pn 1) zA7) (pn 10)) zA3))))))
   (zA5 (pst 7 S__law_table.nd (zDB u_gt (zAI zCI (zAI zDF (zB1 (zB4 B) (by decide) hr rfl (zA0 (pn 0) (zA0 (pn 1) zA3))) zA7) zA7) zA7 (zAX _)))
   (zA5 (pst 8 S__law_table.nd (zAV rfl (cn ["0","1","2","3","_law_kinds","5","_law_bits","7","8","9","_law_i"] 1 (by kernel_rfl)) (zAS rfl B.e11 (zA0 (pn 4) zA3)) (fun _ _ _ _=>(pgn 10)) (fun _ _ _ _=>zAW) (fun _ _ _ _=>(zAV rfl (cn ["0","1","2","3","4","5","_law_bits","7","8","9","_law_i","_law_j"] 1 (by kernel_rfl)) (zAS rfl B.e11 (zA0 (pn 4) zA3)) (fun _ _ _ _=>(pgn 11)) (fun _ _ _ _=>zAW) (fun _ _ _ _=>(zAI zCI (zAI zDF (zBH (zBD (K:=K)) (pn 6) (zAG (zM8 rfl) rfl B.e9 boot_max (zA0 (pn 10) (zA0 (pn 11) zA3))) (fun _ _=>rfl)) (zAI zBE (zAI zH0 (zAG (zM7 rfl) rfl B.e10 boot_min (zA0 (pn 10) (zA0 (pn 11) zA3))) (zAG (zM7 rfl) rfl B.e10 boot_min (zA0 (pn 10) (zA0 (pn 11) zA3)))) zA7)) zA7))))))
   (zA5 (zDP PassesOwn.never rfl (zAS rfl B.e11 (zA0 (pn 4) zA3)) (zBR (i:=9) S__law_table.nd rfl oi) (zAB (zFT (zAI zH0 (zBH (zBD (K:=K)) (zBH (zBD (K:=K)) (pn 8) (pn 9) (fun _ _=>rfl)) (pn 9) (fun _ _=>rfl)) (zE5 zMC rfl B.e5 boot_int (zA0 (pn 7) zA3))) (zI0 (zBH (zBD (K:=K)) (pn 8) (pn 9) (fun _ _=>rfl)) (pn 9) zMQ))))
   (zAB (zAR (zAV rfl (cn ["0","1","2","_law_size","4","_law_kind","6","7","_law_rows","9","_law_i"] 1 (by kernel_rfl)) (zAS rfl B.e11 (zA0 (pn 3) zA3)) (fun _ _ _ _=>(pgn 10)) (fun _ _ _ _=>zAW) (fun _ _ _ _=>(zAV rfl (cn ["0","1","2","3","4","_law_kind","6","7","_law_rows","9","_law_i","_law_j"] 1 (by kernel_rfl)) (zAS rfl B.e11 (zA0 (pn 3) zA3)) (fun _ _ _ _=>(pgn 11)) (fun _ _ _ _=>zAW) (fun _ _ _ _=>(zBH (zBD (K:=K)) (zBH (zBD (K:=K)) (pn 8) (zBH (zBD (K:=K)) (pn 5) (pn 10) (fun _ _=>rfl)) (fun _ _=>rfl)) (zBH (zBD (K:=K)) (pn 5) (pn 11) (fun _ _=>rfl)) (fun _ _=>rfl)))))))))))))))),(zBA (zAC (zAO (n:=0) [0,1,2] (zA6 zBG (zAF (zA1 (de_v 0) (zA1 (de_v 1) zA4))) (zA6 zAU (de_v 2) (dz zA8))))
   (zAC (zAO (n:=0) [3,0,1] (zBK zVC (zA1 zA8 (zA1 (zA6 zQM (de_v 3) (dz (zA6 zBG (dz (zA6 zDG (zAF (zA1 (de_v 0) (zA1 (de_v 1) zA4))) (dz zA8))) (dz zA8)))) zA4))))
   (zAC (zAO (n:=1) [4,3,0,1] (zAP (n:=0) (zDD (zA1 (de_v 3) zA4)) (zAN 10) zB9 (zA6 zBG (dz (zA6 zDG (zAF (zA1 (de_v 0) (zA1 (zAM (zA6 zAU (de_v 1) (dz zA8))) zA4))) (zA6 zAU (de_v 10) (dz zA8)))) (de_v 4))))
   (zAC (zCM (dt_b (dz (zA6 zH3 (dz (zA6 zBG (dz (zA6 zDG (zAF (zA1 (de_v 0) (zA1 (de_v 1) zA4))) (dz zA8))) (dz zA8))) (dz zA8)))) (zAO (n:=1) [4,3] (zAP (n:=0) (zDD (zA1 (de_v 3) zA4)) (zAN 10) zB9 (zA6 zBG (de_v 10) (de_v 4)))) zBJ)
   (zAC (zAO (n:=2) [0,9,4,1] (zAP (n:=1) (zDD (zA1 (de_v 4) zA4)) (zAN 10) zB9 (zAF (zA1 (de_v 0) (zA1 (zAM (zA6 zAU (zA6 zAU (de_v 1) (dz zA8)) (de_v 10))) zA4)))))
   (zAC (zAO (n:=0) [0,1] (zA6 zH3 (dz (zA6 zBG (dz (zA6 zDG (zAF (zA1 (de_v 0) (zA1 (de_v 1) zA4))) (dz zA8))) (dz zA8))) (dz zA8)))
   (zAC (zAO (n:=2) [9,4,6] (zAP (n:=1) (zDD (zA1 (de_v 4) zA4)) (zAN 10) zB9 (zAP (n:=0) (zDD (zA1 (de_v 4) zA4)) (zAN 11) zB9 (zA6 zBG (dz (zA6 zDG (zA6 zBL (de_v 6) (dz (zBK zVC (zA1 (de_v 10) (zA1 (de_v 11) zA4))))) (zA6 zAU (dz (zA6 zH2 (dz (zBK zVB (zA1 (de_v 10) (zA1 (de_v 11) zA4)))) (dz (zBK zVB (zA1 (de_v 10) (zA1 (de_v 11) zA4)))))) (dz zA8)))) (dz zA8)))))
   (zAC (zIK (zDD (zA1 (de_v 4) zA4)) (zHL 8 (n:=0) (de_v 9) (de_v 9) (zA6 zH2 (zA6 zBL (zA6 zBL (de_v 8) (de_v 9)) (de_v 9)) (dz (zBK zVD (zA1 (de_v 7) zA4))))))
   (zAT (n:=2) [9,3,8,5] (zAP (n:=1) (zDD (zA1 (de_v 3) zA4)) (zAN 10) zB9 (zAP (n:=0) (zDD (zA1 (de_v 3) zA4)) (zAN 11) zB9 (zA6 zBL (zA6 zBL (de_v 8) (zA6 zBL (de_v 5) (de_v 10))) (zA6 zBL (de_v 5) (de_v 11)))))))))))))) h)⟩
theorem zN4:Has P w K mg base "_law_any" 4 ["_law_script","_law_most"] (sp0 K mg 0 zE7):=by
 letI:Kc:=⟨K⟩
 exact dfM B.d5 zPR (fun _ _ _ _ _ _=>uw2 fun _ _=>rfl) fun hr hu h=>⟨_,(zA5 (zCJ (zBM (u_eq hu) (zAI zCI (zB1 (zB4 B) (by decide) hr rfl (zA0 (pn 0) (zA0 zA7 zA3))) zA7) zA7 (zAX _)) (zAB (zAR (zB1 (zK8 B) (by decide) hr rfl (zA0 (pn 0) (zA0 zA7 (zA0 (pn 1) zA3)))))) zB3)
   (zAB (zAR (zBH (zBD (K:=K)) (zB1 (zFZ B) (by decide) hr rfl (zA0 (pn 0) (zA0 zA7 (zA0 (pn 1) (zA0 zFV zA3))))) zA7 (fun _ _=>rfl))))),(zBA (zAC (zCM (dt_b (dz (zA6 zCT (dz (zA6 zBG (zAF (zA1 (de_v 0) (zA1 zA8 zA4))) (dz zA8))) (dz zA8)))) (zAT (n:=0) [0,1] (zAM (zAF (zA1 (de_v 0) (zA1 zA8 (zA1 (de_v 1) zA4)))))) zBJ)
   (zAT (n:=0) [0,1] (zA6 zBL (zAF (zA1 (de_v 0) (zA1 zA8 (zA1 (de_v 1) (zA1 zGC zA4))))) (dz zA8)))) h)⟩
theorem zDZ:Has P w K mg base "_law_copy" 1 ["_law_table_here"] (sp0 K mg 2 zBC):=by
 letI:Kc:=⟨K⟩
 exact dfM B.d6 zNS (fun _ _ _ _ _ _=>uw1 fun _=>rfl) fun hr hu h=>⟨_,(zAB (zAR (zAV rfl (cn ["0","_law_row"] 1 (by kernel_rfl)) (zC4 (K:=K) (pn 0)) (fun _ _ _ _=>(pgn 1)) (fun _ _ _ _=>zAW) (fun _ _ _ _=>(zE5 (zN9 (K:=K) rfl) rfl B.e8 boot_list (zA0 (pn 1) zA3)))))),(zBA (zAT (n:=2) [0] (zAP (n:=1) (zCA (de_v 0)) (zAN 1) zB9 (zBK zNK (zA1 (de_v 1) zA4)))) h)⟩
theorem zLN:Has P w K mg base "_law_part" 1 ["_law_table_here","_law_numbers_here"] (sp0 K mg 2 zCQ):=by
 letI:Kc:=⟨K⟩
 exact dfM B.d7 zNR (fun _ _ _ _ _ _=>uw2 fun _ _=>rfl) fun hr hu h=>⟨_,(zAB (zAR (zAV rfl (cn ["_law_table_here","_law_numbers_here","_law_i"] 1 (by kernel_rfl)) (zC4 (K:=K) (pn 1)) (fun _ _ _ _=>(pgn 2)) (fun _ _ _ _=>zAW) (fun _ _ _ _=>(zAV rfl (cn ["_law_table_here","1","_law_i","_law_j"] 1 (by kernel_rfl)) (zC4 (K:=K) (pn 1)) (fun _ _ _ _=>(pgn 3)) (fun _ _ _ _=>zAW) (fun _ _ _ _=>(zBH (zBD (K:=K)) (zBH (zBD (K:=K)) (pn 0) (pn 2) (fun _ _=>rfl)) (pn 3) (fun _ _=>rfl)))))))),(zBA (zAT (n:=2) [1,0] (zAP (n:=1) (zCA (de_v 1)) (zAN 2) zB9 (zAP (n:=0) (zCA (de_v 1)) (zAN 3) zB9 (zA6 zBL (zA6 zBL (de_v 0) (de_v 2)) (de_v 3))))) h)⟩
theorem zI6:Has P w K mg base "_law_product" 2 ["_law_one","_law_other"] (sp0 K mg 1 zD5):=by
 letI:Kc:=⟨K⟩
 exact dfM B.d8 S__law_product (fun _ _ _ _ _ _=>uw2 fun _ _=>rfl) fun hr hu h=>⟨_,(zA5 (pst 2 S__law_product.nd (zEM zA3))
   (zA5 (zDP PassesOwn.never rfl (zC4 (K:=K) (pn 0)) (zBR (i:=3) S__law_product.nd rfl oi) (zA5 (zDM (i:=4) S__law_product.nd rfl oi rfl (cn ["0","1","2","3","4","5","_law_number"] 1 (by kernel_rfl)) (zC4 (K:=K) (pn 1)) (fun _ _ _ _=>(pgn 6)) (fun _ _ _ _=>zAW) (fun _ _ _ _=>zA7))
   (zA5 (zDP PassesOwn.never rfl (zAS rfl B.e11 (zA0 (zAG (zC7 (K:=K)) rfl B.e7 boot_len (zA0 (pn 1) zA3)) zA3)) (zBR (i:=5) S__law_product.nd rfl oi) (zAB (zCJ (zBM (u_eq hu) (zBH (zBD (K:=K)) (pn 3) (pn 5) (fun _ _=>rfl)) zA7 (zAX _)) (zAB (pst 4 S__law_product.nd (zB1 (zG0 B) (by decide) hr rfl (zA0 (pn 4) (zA0 (zBH (zBD (K:=K)) (pn 1) (pn 5) (fun _ _=>rfl)) zA3))))) zB3)))
   (zAB (zN1 (zT6 qBw qCl qCm zN6 (pn 2) (zA0 (pn 4) zA3)))))))
   (zAB (zAR (pn 2))))),(zBA (zAC (zAO (n:=9) [] (zEV (n:=8) zA4))
   (zAC (zM0 [0] (zCA (de_v 0)) (zAN 3) (zAC (zAO (n:=1) [1] (zAP (n:=0) (zCA (de_v 1)) (zAN 6) zB9 zA8))
   (zAC (zIK (zDD (zA1 (zBK zC8 (zA1 (de_v 1) zA4)) zA4)) (zCM (dt_b (dz (zA6 zCT (zA6 zBL (de_v 3) (de_v 5)) (dz zA8)))) (zAO (n:=1) [4,1,5] (zAF (zA1 (de_v 4) (zA1 (zA6 zBL (de_v 1) (de_v 5)) zA4)))) zBJ))
   (zRW 2 [4] (de_v 4)))))
   (zGS 2))) h)⟩
theorem zLM:Has P w K mg base "_law_same" 1 ["_law_size"] (sp0 K mg 2 zEE):=by
 letI:Kc:=⟨K⟩
 exact dfM B.d9 zNQ (fun _ _ _ _ _ _=>uw1 fun _=>rfl) fun hr hu h=>⟨_,(zAB (zAR (zAV rfl (cn ["_law_size","_law_i"] 1 (by kernel_rfl)) (zAS rfl B.e11 (zA0 (pn 0) zA3)) (fun _ _ _ _=>(pgn 1)) (fun _ _ _ _=>zAW) (fun _ _ _ _=>(zAV rfl (cn ["0","_law_i","_law_j"] 1 (by kernel_rfl)) (zAS rfl B.e11 (zA0 (pn 0) zA3)) (fun _ _ _ _=>(pgn 2)) (fun _ _ _ _=>zAW) (fun _ _ _ _=>(zE5 zMC rfl B.e5 boot_int (zA0 (zDB (u_eq hu) (pn 1) (pn 2) (zAX _)) zA3)))))))),(zBA (zAT (n:=2) [0] (zAP (n:=1) (zDD (zA1 (de_v 0) zA4)) (zAN 1) zB9 (zAP (n:=0) (zDD (zA1 (de_v 0) zA4)) (zAN 2) zB9 (zBK zVD (zA1 (zA6 zCT (de_v 1) (de_v 2)) zA4))))) h)⟩
theorem zFY:Has P w K mg base "_law_paper_good" 3 ["_law_table_here","_law_paper"] (sp0 K mg 0 zCF):=by
 letI:Kc:=⟨K⟩
 exact dfM B.d10 S__law_paper_good (fun _ _ _ _ _ _=>uw2 fun _ _=>rfl) fun hr hu h=>⟨_,(zA5 (zFT (pn 1) (zGL (K:=K) rfl (zC5 (zBR (i:=2) S__law_paper_good.nd rfl oi) (zC5 (zBR (i:=3) S__law_paper_good.nd rfl oi) (zC5 (zBR (i:=4) S__law_paper_good.nd rfl oi) zGK)))))
   (zA5 (pst 5 S__law_paper_good.nd (zAG (zC7 (K:=K)) rfl B.e7 boot_len (zA0 (pn 0) zA3)))
   (zA5 (zCJ (zBM (u_ne hu) (pn 2) (zAV rfl (cn ["0","1","_law_part_here","3","4","5","6","7","8","_law_i"] 1 (by kernel_rfl)) (zAS rfl B.e11 (zA0 (pn 5) zA3)) (fun _ _ _ _=>(pgn 9)) (fun _ _ _ _=>zFO (zBM (u_in (K:=K)) (pn 9) (pn 2) rfl)) (fun _ _ _ _=>(pn 9))) (zAX _)) (zAB (zAR zFV)) zB3)
   (zA5 (zDM (i:=6) S__law_paper_good.nd rfl oi rfl (cn ["0","1","_law_part_here","3","4","5","6","7","8","_law_i"] 1 (by kernel_rfl)) (zAS rfl B.e11 (zA0 (pn 5) zA3)) (fun _ _ _ _=>(pgn 9)) (fun _ _ _ _=>zFO (zBM (zHS (K:=K)) (pn 9) (pn 2) rfl)) (fun _ _ _ _=>(pn 9)))
   (zA5 (zCJ (pt_w (zK2 (zBM (u_ne hu) (zAG (zC7 (K:=K)) rfl B.e7 boot_len (zA0 (pn 3) zA3)) (zAG (zC7 (K:=K)) rfl B.e7 boot_len (zA0 (pn 2) zA3)) (zAX _)) (zK2 (pt_m (zAG (zTI rfl) rfl B.e2 boot_any (zA0 (zAV rfl (cn ["0","1","_law_part_here","3","4","5","6","7","8","_law_row"] 1 (by kernel_rfl)) (zC4 (K:=K) (pn 3)) (fun _ _ _ _=>(pgn 9)) (fun _ _ _ _=>zAW) (fun _ _ _ _=>(zDB (u_ne hu) (zAG (zC7 (K:=K)) rfl B.e7 boot_len (zA0 (pn 9) zA3)) (zAG (zC7 (K:=K)) rfl B.e7 boot_len (zA0 (pn 2) zA3)) (zAX _)))) zA3))) (zJC (zBM (u_ne hu) (zAG (zC7 (K:=K)) rfl B.e7 boot_len (zA0 (pn 4) zA3)) (zAG (zC7 (K:=K)) rfl B.e7 boot_len (zA0 (pn 6) zA3)) (zAX _)))))) (zAB (zAR zFV)) zB3)
   (zA5 (zCJ (pt_m (zAG (zTI rfl) rfl B.e2 boot_any (zA0 (zAV rfl (cn ["0","1","2","3","4","5","6","7","8","_law_row"] 1 (by kernel_rfl)) (zC4 (K:=K) (pn 3)) (fun _ _ _ _=>(pgn 9)) (fun _ _ _ _=>zAW) (fun _ _ _ _=>(zDB u_gt (zAG (zC7 (K:=K)) rfl B.e7 boot_len (zA0 (zAV rfl (cn ["0","1","2","3","4","5","6","7","8","9","_law_one"] 1 (by kernel_rfl)) (zC4 (K:=K) (pn 9)) (fun _ _ _ _=>(pgn 10)) (fun _ _ _ _=>zFO (zBM (zHS (K:=K)) (pn 10) (zI1 (zA0 zA7 (zA0 zA7 zA3))) rfl)) (fun _ _ _ _=>(pn 10))) zA3)) zA7 (zAX _)))) zA3))) (zAB (zAR zFV)) zB3)
   (zA5 (zCJ (zBM (u_ne hu) (zB1 (zI6 B) (by decide) hr rfl (zA0 (zB1 (zLN B) (by decide) hr rfl (zA0 (pn 0) (zA0 (pn 2) zA3))) (zA0 (pn 3) zA3))) (zB1 (zLM B) (by decide) hr rfl (zA0 (zAG (zC7 (K:=K)) rfl B.e7 boot_len (zA0 (pn 2) zA3)) zA3)) (zAX _)) (zAB (zAR zFV)) zB3)
   (zA5 (zDP PassesOwn.never rfl (zUO (K:=K) rfl B.e16 (zA0 (pn 6) (zA0 (pn 4) zA3))) (zGL (K:=K) rfl (zC5 (zBR (i:=7) S__law_paper_good.nd rfl oi) (zC5 (zBR (i:=8) S__law_paper_good.nd rfl oi) zGK))) (zA5 (zCJ (pt_w (zK2 (zBM (u_ne hu) (pn 8) (zAG (zWN rfl) rfl B.e13 boot_sorted (zA0 (zE5 (zZ7 rfl) rfl B.e12 zS9 (zA0 (pn 8) zA3)) zA3)) (zAX _)) (zK2 (zBM (zHS (K:=K)) (pn 7) (pn 8) rfl) (zJC (pt_m (zAG (zTI rfl) rfl B.e2 boot_any (zA0 (zAV rfl (cn ["0","1","_law_part_here","3","4","5","6","_law_i","8","_law_k"] 1 (by kernel_rfl)) (zC4 (K:=K) (pn 8)) (fun _ _ _ _=>(pgn 9)) (fun _ _ _ _=>zAW) (fun _ _ _ _=>(zJ3 (zDB (u_ne hu) (pn 9) (pn 7) (zAX _)) (zFU (zDB (zHS (K:=K)) (pn 9) (pn 2) rfl))))) zA3))))))) (zAB (zAR zFV)) zB3)
   (zAB (zCJ (pt_m (zAG (zTI rfl) rfl B.e2 boot_any (zA0 (zAV rfl (cn ["_law_table_here","1","2","3","4","5","6","7","_law_row","_law_j"] 1 (by kernel_rfl)) (zAS rfl B.e11 (zA0 (pn 5) zA3)) (fun _ _ _ _=>(pgn 9)) (fun _ _ _ _=>zAW) (fun _ _ _ _=>(zDB (u_eq hu) (zAI zCI (zAG (zaH rfl) rfl B.e14 boot_sum (zA0 (zAV rfl (cn ["_law_table_here","1","2","3","4","5","6","7","8","_law_j","_law_k"] 1 (by kernel_rfl)) (zC4 (K:=K) (pn 8)) (fun _ _ _ _=>(pgn 10)) (fun _ _ _ _=>zAW) (fun _ _ _ _=>(zBH (zBD (K:=K)) (zBH (zBD (K:=K)) (pn 0) (pn 10) (fun _ _=>rfl)) (pn 9) (fun _ _=>rfl)))) zA3)) zA7) zA7 (zAX _)))) zA3))) (zAB (zAR zFV)) zB3))))
   (zAB (zAR zFV)))))))))),(zBA (zAC (zV4 [1] (zJ8 (zC2 2 (zC2 3 (zC2 4 zGJ))) rfl) (de_v 1))
   (zAC (zAO (n:=0) [0] (zBK zC8 (zA1 (de_v 0) zA4)))
   (zAC (zCM (dt_b (dz (zA6 zJ1 (de_v 2) (zAP (n:=0) (zDD (zA1 (de_v 5) zA4)) (zAN 9) (dt_b (dz (zA6 zLF (de_v 9) (de_v 2)))) (de_v 9))))) (zAT (n:=0) [] zGC) zBJ)
   (zAC (zAO (n:=1) [7,5,2] (zAP (n:=0) (zDD (zA1 (de_v 5) zA4)) (zAN 9) (dt_b (dz (zA6 zLF (de_v 9) (de_v 2)))) (de_v 9)))
   (zAC (zCM (zKN (dt_b (dz (zA6 zJ1 (dz (zBK zC8 (zA1 (de_v 3) zA4))) (dz (zBK zC8 (zA1 (de_v 2) zA4)))))) (zKN (dt_m (dz (zBK zOU (zA1 (zAM (zAP (n:=0) (zCA (de_v 3)) (zAN 9) zB9 (zA6 zJ1 (dz (zBK zC8 (zA1 (de_v 9) zA4))) (dz (zBK zC8 (zA1 (de_v 2) zA4)))))) zA4)))) (dt_b (dz (zA6 zJ1 (dz (zBK zC8 (zA1 (de_v 4) zA4))) (dz (zBK zC8 (zA1 (de_v 6) zA4)))))))) (zAT (n:=0) [] zGC) zBJ)
   (zAC (zCM (dt_m (dz (zBK zOU (zA1 (zAM (zAP (n:=0) (zCA (de_v 3)) (zAN 9) zB9 (zA6 zH3 (dz (zBK zC8 (zA1 (zAM (zAP (n:=0) (zCA (de_v 9)) (zAN 10) (dt_b (dz (zA6 zLF (de_v 10) (zIN (n:=0) (zA1 zA8 (zA1 zA8 zA4)))))) (de_v 10))) zA4))) (dz zA8)))) zA4)))) (zAT (n:=0) [] zGC) zBJ)
   (zAC (zCM (dt_b (dz (zA6 zJ1 (zAF (zA1 (zAM (zAF (zA1 (de_v 0) (zA1 (de_v 2) zA4)))) (zA1 (de_v 3) zA4))) (zAF (zA1 (zBK zC8 (zA1 (de_v 2) zA4)) zA4))))) (zAT (n:=0) [] zGC) zBJ)
   (zAC (zM0 [6,4] (zV5 (zA1 (de_v 6) (zA1 (de_v 4) zA4))) (zJ8 (zC2 7 (zC2 8 zGJ)) rfl) (zAC (zCM (zKN (dt_b (dz (zA6 zJ1 (de_v 8) (zZP (de_v 8))))) (zKN (dt_b (dz (zA6 zLF (de_v 7) (de_v 8)))) (dt_m (dz (zBK zOU (zA1 (zAM (zAP (n:=0) (zCA (de_v 8)) (zAN 9) zB9 (zFF (dz (zA6 zJ1 (de_v 9) (de_v 7))) (zA6 zLF (de_v 9) (de_v 2))))) zA4)))))) (zAT (n:=0) [] zGC) zBJ)
   (zCM (dt_m (dz (zBK zOU (zA1 (zAM (zAP (n:=0) (zDD (zA1 (de_v 5) zA4)) (zAN 9) zB9 (zA6 zCT (dz (zA6 zBG (dz (zBK zZS (zA1 (zAM (zAP (n:=0) (zCA (de_v 8)) (zAN 10) zB9 (zA6 zBL (zA6 zBL (de_v 0) (de_v 10)) (de_v 9)))) zA4))) (dz zA8))) (dz zA8)))) zA4)))) (zAT (n:=0) [] zGC) zBJ)))
   (zAT (n:=0) [] zGC))))))))) h)⟩
theorem zK7:Has P w K mg base "_law_whole" 1 ["_law_found"] (sp0 K mg 0 zBT):=by
 letI:Kc:=⟨K⟩
 exact dfM B.d11 zMN (fun _ _ _ _ _ _=>uw1 fun _=>rfl) fun hr hu h=>⟨_,(zAB (zAR (zJ3 (zAG zBU rfl B.e6 boot_isinstance (zA0 (pn 0) (zA0 (zEN (v:=.ty "int") rfl B.e5 boot_int rfl) zA3))) (zFU (zYN (zAG zBU rfl B.e6 boot_isinstance (zA0 (pn 0) (zA0 (zEN (v:=.ty "bool") rfl B.e3 boot_bool rfl) zA3)))))))),(zBA (zAT (n:=0) [0] (zFF (dz (zH9 (by decide) (de_v 0))) (zV6 (dz (zH9 (by decide) (de_v 0)))))) h)⟩
theorem zEP:Has P w K mg base "_law_numbers" 2 ["_law_found"] (sp0 K mg 0 zBX):=by
 letI:Kc:=⟨K⟩
 exact dfM B.d12 zJ7 (fun _ _ _ _ _ _=>uw1 fun _=>rfl) fun hr hu h=>⟨_,(zAB (zAR (zJ3 (zAG zBU rfl B.e6 boot_isinstance (zA0 (pn 0) (zA0 (zEN (v:=.ty "list") rfl B.e8 boot_list rfl) zA3))) (zFU (zAG (zRF rfl) rfl B.e1 boot_all (zA0 (zAV rfl (cn ["0","_law_one"] 1 (by kernel_rfl)) (zC4 (K:=K) (pn 0)) (fun _ _ _ _=>(pgn 1)) (fun _ _ _ _=>zAW) (fun _ _ _ _=>(zB1 (zK7 B) (by decide) hr rfl (zA0 (pn 1) zA3)))) zA3)))))),(zBA (zAT (n:=0) [0] (zFF (dz (zH9 (by decide) (de_v 0))) (zBK zM6 (zA1 (zAM (zAP (n:=0) (zCA (de_v 0)) (zAN 1) zB9 (zAF (zA1 (de_v 1) zA4)))) zA4)))) h)⟩
theorem zFX:Has P w K mg base "_law_paper_kind" 3 ["_law_found"] (sp0 K mg 0 zCE):=by
 letI:Kc:=⟨K⟩
 exact dfM B.d13 zGY (fun _ _ _ _ _ _=>uw1 fun _=>rfl) fun hr hu h=>⟨_,(zA5 (zCJ (pt_w (zK2 (zHZ (pt_m (zAG zBU rfl B.e6 boot_isinstance (zA0 (pn 0) (zA0 (zEN (v:=.ty "tuple") rfl B.e15 boot_tuple rfl) zA3))))) (zK2 (zBM (u_ne hu) (zAG (zC7 (K:=K)) rfl B.e7 boot_len (zA0 (pn 0) zA3)) zA7 (zAX _)) (zJC (zHZ (pt_m (zAG (zRF rfl) rfl B.e1 boot_all (zA0 (zAV rfl (cn ["0","_law_one"] 1 (by kernel_rfl)) (zC4 (K:=K) (pn 0)) (fun _ _ _ _=>(pgn 1)) (fun _ _ _ _=>zAW) (fun _ _ _ _=>(zAG zBU rfl B.e6 boot_isinstance (zA0 (pn 1) (zA0 (zEN (v:=.ty "list") rfl B.e8 boot_list rfl) zA3))))) zA3)))))))) (zAB (zAR zFV)) zB3)
   (zAB (zAR (zJ3 (zB1 (zEP B) (by decide) hr rfl (zA0 (zBH (zBD (K:=K)) (pn 0) zA7 (fun _ _=>rfl)) zA3)) (zFU (zAG (zRF rfl) rfl B.e1 boot_all (zA0 (zAV rfl (cn ["0","_law_row"] 1 (by kernel_rfl)) (zC4 (K:=K) (zAI zBE (zBH (zBD (K:=K)) (pn 0) zA7 (fun _ _=>rfl)) (zBH (zBD (K:=K)) (pn 0) zA7 (fun _ _=>rfl)))) (fun _ _ _ _=>(pgn 1)) (fun _ _ _ _=>zAW) (fun _ _ _ _=>(zB1 (zEP B) (by decide) hr rfl (zA0 (pn 1) zA3)))) zA3))))))),(zBA (zAC (zCM (zKN (zIJ (dt_m (dz (zH9 (by decide) (de_v 0))))) (zKN (dt_b (dz (zA6 zJ1 (dz (zBK zC8 (zA1 (de_v 0) zA4))) (dz zA8)))) (zIJ (dt_m (dz (zBK zM6 (zA1 (zAM (zAP (n:=0) (zCA (de_v 0)) (zAN 1) zB9 (zH9 (by decide) (de_v 1)))) zA4))))))) (zAT (n:=0) [] zGC) zBJ)
   (zAT (n:=0) [0] (zFF (zAF (zA1 (zA6 zBL (de_v 0) (dz zA8)) zA4)) (zBK zM6 (zA1 (zAM (zAP (n:=0) (zCA (zA6 zAU (zA6 zBL (de_v 0) (dz zA8)) (zA6 zBL (de_v 0) (dz zA8)))) (zAN 1) zB9 (zAF (zA1 (de_v 1) zA4)))) zA4))))) h)⟩
theorem zDY:Has P w K mg base "_law_row_spoilt" 1 ["_law_row","_law_cell_here"] (sp0 K mg 1 zCD):=by
 letI:Kc:=⟨K⟩
 exact dfM B.d14 S__law_row_spoilt (fun _ _ _ _ _ _=>uw2 fun _ _=>rfl) fun hr hu h=>⟨_,(zA5 (pst 2 S__law_row_spoilt.nd (zAI zCI (pn 1) zA7))
   (zA5 (pst 3 S__law_row_spoilt.nd (zAI zCI (zAI zDF (pn 1) zA7) (zAI zBE (zAG (zC7 (K:=K)) rfl B.e7 boot_len (zA0 (pn 0) zA3)) zA7)))
   (zA5 (pst 4 S__law_row_spoilt.nd (zAI zVJ (zAI zCI (zAI zDF (pn 1) zA7) zA7) zA7))
   (zA5 (zCJ (zBM (u_eq hu) (zAI zCI (zAI zDF (pn 1) zA7) zA7) zA7 (zAX _)) (zAB (pst 4 S__law_row_spoilt.nd (zAI zBE (zAI zH0 (zAI zBE (zAI zH0 (pn 4) zA7) zA7) (zAI za4 zA7 zA7)) (zAI zCI (pn 1) zA7)))) zB3)
   (zA5 (zCJ (zBM (u_eq hu) (zAI zCI (zAI zDF (pn 1) zA7) zA7) zA7 (zAX _)) (zAB (pst 0 S__law_row_spoilt.nd (zBP (u_sl (K:=K)) (zAI zXL (pn 0) zA7) zCL (zCK zA7)))) zB3)
   (zA5 (zCJ (zBM (u_eq hu) (pn 2) zA7 (zAX _)) (zAB (zAR (zAI zBE (zAI zBE (zBP (u_sl (K:=K)) (pn 0) zCL (zCK (pn 3))) (zEM (zA0 (pn 4) zA3))) (zBP (u_sl (K:=K)) (pn 0) (zCK (pn 3)) zCL)))) zB3)
   (zA5 (zCJ (zBM (u_eq hu) (pn 2) zA7 (zAX _)) (zAB (zAR (zAI zBE (zBP (u_sl (K:=K)) (pn 0) zCL (zCK (pn 3))) (zBP (u_sl (K:=K)) (pn 0) (zCK (zAI zBE (pn 3) zA7)) zCL)))) zB3)
   (zA5 (zCJ (zBM (u_eq hu) (pn 2) zA7 (zAX _)) (zAB (zAR (zAI zBE (zAI zBE (zBP (u_sl (K:=K)) (pn 0) zCL (zCK (pn 3))) (zEM (zA0 (pn 4) zA3))) (zBP (u_sl (K:=K)) (pn 0) (zCK (zAI zBE (pn 3) zA7)) zCL)))) zB3)
   (zA5 (zCJ (zBM (u_eq hu) (pn 2) zA7 (zAX _)) (zAB (zAR (zUP (pn 0) (zYM zXM zA7)))) zB3)
   (zAB (zAR (zAG zOI rfl B.e13 boot_sorted (zA0 (zAI zBE (zAI zBE (zBP (u_sl (K:=K)) (pn 0) zCL (zCK (pn 3))) (zEM (zA0 (zAG zU4 rfl B.e0 boot_abs (zA0 (pn 4) zA3)) zA3))) (zBP (u_sl (K:=K)) (pn 0) (zCK (zAI zBE (pn 3) zA7)) zCL)) zA3))))))))))))),(zBA (zAC (zAO (n:=0) [1] (zA6 zBG (de_v 1) (dz zA8)))
   (zAC (zAO (n:=0) [1,0] (zA6 zBG (dz (zA6 zDG (de_v 1) (dz zA8))) (zA6 zAU (dz (zBK zC8 (zA1 (de_v 0) zA4))) (dz zA8))))
   (zAC (zAO (n:=0) [1] (zA6 zQM (dz (zA6 zBG (dz (zA6 zDG (de_v 1) (dz zA8))) (dz zA8))) (dz zA8)))
   (zAC (zCM (dt_b (dz (zA6 zCT (dz (zA6 zBG (dz (zA6 zDG (de_v 1) (dz zA8))) (dz zA8))) (dz zA8)))) (zAO (n:=1) [1,4] (zA6 zAU (dz (zA6 zH2 (zA6 zAU (dz (zA6 zH2 (de_v 4) (dz zA8))) (dz zA8)) (dz (zA6 zY4 (dz zA8) (dz zA8))))) (dz (zA6 zBG (de_v 1) (dz zA8))))) zBJ)
   (zAC (zCM (dt_b (dz (zA6 zCT (dz (zA6 zBG (dz (zA6 zDG (de_v 1) (dz zA8))) (dz zA8))) (dz zA8)))) (zAO (n:=1) [0] (zFA (zA6 zUH (de_v 0) (dz zA8)) zF9 (do_e (dz zA8)))) zBJ)
   (zAC (zCM (dt_b (dz (zA6 zCT (de_v 2) (dz zA8)))) (zAT (n:=1) [0,4,3] (zA6 zAU (zA6 zAU (zFA (de_v 0) zF9 (do_e (de_v 3))) (zEV (n:=0) (zA1 (de_v 4) zA4))) (zFA (de_v 0) (do_e (de_v 3)) zF9))) zBJ)
   (zAC (zCM (dt_b (dz (zA6 zCT (de_v 2) (dz zA8)))) (zAT (n:=1) [0,3] (zA6 zAU (zFA (de_v 0) zF9 (do_e (de_v 3))) (zFA (de_v 0) (do_e (zA6 zAU (de_v 3) (dz zA8))) zF9))) zBJ)
   (zAC (zCM (dt_b (dz (zA6 zCT (de_v 2) (dz zA8)))) (zAT (n:=1) [0,4,3] (zA6 zAU (zA6 zAU (zFA (de_v 0) zF9 (do_e (de_v 3))) (zEV (n:=0) (zA1 (de_v 4) zA4))) (zFA (de_v 0) (do_e (zA6 zAU (de_v 3) (dz zA8))) zF9))) zBJ)
   (zAC (zCM (dt_b (dz (zA6 zCT (de_v 2) (dz zA8)))) (zAT (n:=1) [0] (zA6 zUG (de_v 0) (dz (zZO zUI (dz zA8))))) zBJ)
   (zAT (n:=1) [0,3,4] (zBK zS8 (zA1 (zAM (zA6 zAU (zA6 zAU (zFA (de_v 0) zF9 (do_e (de_v 3))) (zEV (n:=0) (zA1 (zBK zZT (zA1 (de_v 4) zA4)) zA4))) (zFA (de_v 0) (do_e (zA6 zAU (de_v 3) (dz zA8))) zF9))) zA4)))))))))))) h)⟩
theorem zDR:Has P w K mg base "_law_rows_spoilt" 2 ["_law_rows","_law_cell_here"] (sp0 K mg 1 zC6):=by
 letI:Kc:=⟨K⟩
 exact dfM B.d15 S__law_rows_spoilt (fun _ _ _ _ _ _=>uw2 fun _ _=>rfl) fun hr hu h=>⟨_,(zA5 (pst 2 S__law_rows_spoilt.nd (zAI zCI (zAI zDF (pn 1) zA7) (zAI zBE (zAG (zC7 (K:=K)) rfl B.e7 boot_len (zA0 (pn 0) zA3)) zA7)))
   (zA5 (zCJ (zBM (u_eq hu) (zAI zCI (pn 1) zA7) zA7 (zAX _)) (zAB (zAR (zAI zBE (zAI zBE (zBP (u_sl (K:=K)) (pn 0) zCL (zCK (pn 2))) (zEM (zA0 (zEM zA3) zA3))) (zBP (u_sl (K:=K)) (pn 0) (zCK (pn 2)) zCL)))) zB3)
   (zA5 (zCJ (pt_w (zK2 (zBM (u_eq hu) (zAI zCI (pn 1) zA7) zA7 (zAX _)) (zJC (zBM (u_eq hu) (pn 2) (zAG (zC7 (K:=K)) rfl B.e7 boot_len (zA0 (pn 0) zA3)) (zAX _))))) (zAB (zAR (zAI zBE (zBP (u_sl (K:=K)) (pn 0) zCL (zCK (pn 2))) (zBP (u_sl (K:=K)) (pn 0) (zCK (zAI zBE (pn 2) zA7)) zCL)))) zB3)
   (zA5 (zCJ (zBM (u_eq hu) (zAI zCI (pn 1) zA7) zA7 (zAX _)) (zAB (zAR (zUP (pn 0) (zYM zXM zA7)))) zB3)
   (zAB (zAR (zAI zBE (zAI zBE (zBP (u_sl (K:=K)) (pn 0) zCL (zCK (pn 2))) (zEM (zA0 (zB1 (zDY B) (by decide) hr rfl (zA0 (zBH (zBD (K:=K)) (pn 0) (pn 2) (fun _ _=>rfl)) (zA0 (zAI zDF (pn 1) zA7) zA3))) zA3))) (zBP (u_sl (K:=K)) (pn 0) (zCK (zAI zBE (pn 2) zA7)) zCL)))))))),(zBA (zAC (zAO (n:=0) [1,0] (zA6 zBG (dz (zA6 zDG (de_v 1) (dz zA8))) (zA6 zAU (dz (zBK zC8 (zA1 (de_v 0) zA4))) (dz zA8))))
   (zAC (zCM (dt_b (dz (zA6 zCT (dz (zA6 zBG (de_v 1) (dz zA8))) (dz zA8)))) (zAT (n:=1) [0,2] (zA6 zAU (zA6 zAU (zFA (de_v 0) zF9 (do_e (de_v 2))) (zEV (n:=9) (zA1 (zEV (n:=8) zA4) zA4))) (zFA (de_v 0) (do_e (de_v 2)) zF9))) zBJ)
   (zAC (zCM (zKN (dt_b (dz (zA6 zCT (dz (zA6 zBG (de_v 1) (dz zA8))) (dz zA8)))) (dt_b (dz (zA6 zCT (de_v 2) (dz (zBK zC8 (zA1 (de_v 0) zA4))))))) (zAT (n:=1) [0,2] (zA6 zAU (zFA (de_v 0) zF9 (do_e (de_v 2))) (zFA (de_v 0) (do_e (zA6 zAU (de_v 2) (dz zA8))) zF9))) zBJ)
   (zAC (zCM (dt_b (dz (zA6 zCT (dz (zA6 zBG (de_v 1) (dz zA8))) (dz zA8)))) (zAT (n:=1) [0] (zA6 zUG (de_v 0) (dz (zZO zUI (dz zA8))))) zBJ)
   (zAT (n:=1) [0,2,1] (zA6 zAU (zA6 zAU (zFA (de_v 0) zF9 (do_e (de_v 2))) (zEV (n:=1) (zA1 (zAF (zA1 (zA6 zBL (de_v 0) (de_v 2)) (zA1 (zA6 zDG (de_v 1) (dz zA8)) zA4))) zA4))) (zFA (de_v 0) (do_e (zA6 zAU (de_v 2) (dz zA8))) zF9))))))) h)⟩
theorem zJ5:Has P w K mg base "_law_spoilt" 3 ["_law_paper","_law_cell_here"] (sp0 K mg 1 zCP):=by
 letI:Kc:=⟨K⟩
 exact dfM B.d16 S__law_spoilt (fun _ _ _ _ _ _=>uw2 fun _ _=>rfl) fun hr hu h=>⟨_,(zA5 (zFT (pn 0) (zGL (K:=K) rfl (zC5 (zBR (i:=2) S__law_spoilt.nd rfl oi) (zC5 (zBR (i:=3) S__law_spoilt.nd rfl oi) (zC5 (zBR (i:=4) S__law_spoilt.nd rfl oi) zGK)))))
   (zA5 (zCJ (zBM (u_eq hu) (zAI zCI (pn 1) zA7) zA7 (zAX _)) (zAB (zAR (zI1 (zA0 (zB1 (zDY B) (by decide) hr rfl (zA0 (pn 2) (zA0 (zAI zDF (pn 1) zA7) zA3))) (zA0 (pn 3) (zA0 (pn 4) zA3)))))) zB3)
   (zA5 (zCJ (zBM (u_eq hu) (zAI zCI (pn 1) zA7) zA7 (zAX _)) (zAB (zAR (zI1 (zA0 (pn 2) (zA0 (zB1 (zDR B) (by decide) hr rfl (zA0 (pn 3) (zA0 (zAI zDF (pn 1) zA7) zA3))) (zA0 (pn 4) zA3)))))) zB3)
   (zAB (zAR (zI1 (zA0 (pn 2) (zA0 (pn 3) (zA0 (zB1 (zDR B) (by decide) hr rfl (zA0 (pn 4) (zA0 (zAI zDF (pn 1) zA7) zA3))) zA3))))))))),(zBA (zAC (zV4 [0] (zJ8 (zC2 2 (zC2 3 (zC2 4 zGJ))) rfl) (de_v 0))
   (zAC (zCM (dt_b (dz (zA6 zCT (dz (zA6 zBG (de_v 1) (dz zA8))) (dz zA8)))) (zAT (n:=1) [3,4,2,1] (zIN (n:=0) (zA1 (zAM (zAF (zA1 (de_v 2) (zA1 (zA6 zDG (de_v 1) (dz zA8)) zA4)))) (zA1 (de_v 3) (zA1 (de_v 4) zA4))))) zBJ)
   (zAC (zCM (dt_b (dz (zA6 zCT (dz (zA6 zBG (de_v 1) (dz zA8))) (dz zA8)))) (zAT (n:=1) [2,4,3,1] (zIN (n:=0) (zA1 (de_v 2) (zA1 (zAM (zAF (zA1 (de_v 3) (zA1 (zA6 zDG (de_v 1) (dz zA8)) zA4)))) (zA1 (de_v 4) zA4))))) zBJ)
   (zAT (n:=1) [2,3,4,1] (zIN (n:=0) (zA1 (de_v 2) (zA1 (de_v 3) (zA1 (zAM (zAF (zA1 (de_v 4) (zA1 (zA6 zDG (de_v 1) (dz zA8)) zA4)))) zA4)))))))) h)⟩
theorem zK6:Has P w K mg base "added" 1 ["one","other"] (sp0 K mg 1 zED):=by
 letI:Kc:=⟨K⟩
 exact dfM B.d17 zX9 (fun _ _ _ _ _ _=>uw2 fun _ _=>rfl) fun hr hu h=>⟨_,(zAB (zAR (zAV rfl (cn ["one","other","j"] 1 (by kernel_rfl)) (zAS rfl B.e11 (zA0 (zAG (zC7 (K:=K)) rfl B.e7 boot_len (zA0 (pn 0) zA3)) zA3)) (fun _ _ _ _=>(pgn 2)) (fun _ _ _ _=>zAW) (fun _ _ _ _=>(zAI za3 (zBH (zBD (K:=K)) (pn 0) (pn 2) (fun _ _=>rfl)) (zBH (zBD (K:=K)) (pn 1) (pn 2) (fun _ _=>rfl))))))),(zBA (zAT (n:=1) [0,1] (zAP (n:=0) (zDD (zA1 (zBK zC8 (zA1 (de_v 0) zA4)) zA4)) (zAN 2) zB9 (zA6 zY3 (zA6 zBL (de_v 0) (de_v 2)) (zA6 zBL (de_v 1) (de_v 2))))) h)⟩
theorem zI5:Has P w K mg base "less_leaders" 2 ["row","leaders"] (sp0 K mg 0 zCO):=by
 letI:Kc:=⟨K⟩
 exact dfM B.d18 S_less_leaders (fun _ _ _ _ _ _=>uw2 fun _ _=>rfl) fun hr hu h=>⟨_,(zA5 (pst 2 S_less_leaders.nd (pn 0))
   (zA5 (zDP PassesOwn.never rfl (zC4 (K:=K) (pn 1)) (zBR (i:=3) S_less_leaders.nd rfl oi) (zAB (zCJ (zBM (u_eq hu) (zBH (zBD (K:=K)) (pn 2) (zT6 qBw qE2 PySem.F.type_list_index zWE (pn 3) (zA0 zA7 zA3)) (fun _ _=>rfl)) zA7 (zAX _)) (zAB (pst 2 S_less_leaders.nd (zB1 (zK6 B) (by decide) hr rfl (zA0 (pn 2) (zA0 (pn 3) zA3))))) zB3)))
   (zAB (zAR (pn 2))))),(zBA (zAC (zAO (n:=0) [0] (de_v 0))
   (zAC (zM0 [1] (zCA (de_v 1)) (zAN 3) (zCM (dt_b (dz (zA6 zCT (zA6 zBL (de_v 2) (dz (zaQ zSY (de_v 3) (zA1 zA8 zA4)))) (dz zA8)))) (zAO (n:=1) [2,3] (zAF (zA1 (de_v 2) (zA1 (de_v 3) zA4)))) zBJ))
   (zGS 2))) h)⟩
theorem zEH:Has P w K mg base "greatest_part" 3 ["table"] (sp0 K mg 9 zBS):=by
 letI:Kc:=⟨K⟩
 exact dfM B.d19 S_greatest_part (fun _ _ _ _ _ _=>uw1 fun _=>rfl) fun hr hu h=>⟨_,(zA5 (pst 1 S_greatest_part.nd (zEM zA3))
   (zA5 (pst 2 S_greatest_part.nd (zEM zA3))
   (zA5 (zDP PassesOwn.never rfl (zOB (K:=K) rfl B.e4 (zA0 (pn 0) zA3)) (zGL (K:=K) rfl (zC5 (zBR (i:=3) S_greatest_part.nd rfl oi) (zC5 (zBR (i:=4) S_greatest_part.nd rfl oi) zGK))) (zA5 (pst 5 S_greatest_part.nd (zB1 (zI5 B) (by decide) hr rfl (zA0 (pn 4) (zA0 (pn 2) zA3))))
   (zAB (zCJ (zBM (u_in (K:=K)) zA7 (pn 5) rfl) (zA5 (zN1 (zT6 qBw qCl qCm zN6 (pn 1) (zA0 (pn 3) zA3)))
   (zAB (zN1 (zT6 qBw qCl qCm zN6 (pn 2) (zA0 (pn 5) zA3))))) zB3))))
   (zAB (zAR (pn 1)))))),(zBA (zAC (zAO (n:=9) [] (zEV (n:=8) zA4))
   (zAC (zAO (n:=9) [] (zEV (n:=8) zA4))
   (zAC (zM0 [0] (zZN (zA1 (de_v 0) zA4)) (zJ8 (zC2 3 (zC2 4 zGJ)) rfl) (zAC (zRU 5 2 [4] (zAF (zA1 (de_v 4) (zA1 (de_v 2) zA4))))
   (zCM (dt_b (dz (zA6 zLF (dz zA8) (de_v 5)))) (zAC (zZL 1 (n:=0) (de_v 3))
   (zRW 2 [5] (de_v 5))) zBJ)))
   (zGS 1)))) h)⟩
theorem zJH:Has P w K mg base "ones_in" 1 ["row"] (sp0 K mg 1 zER):=by
 letI:Kc:=⟨K⟩
 exact dfM B.d20 zSH (fun _ _ _ _ _ _=>uw1 fun _=>rfl) fun hr hu h=>⟨_,(zAB (zAR (zAV rfl (cn ["row","j"] 1 (by kernel_rfl)) (zAS rfl B.e11 (zA0 (zAG (zC7 (K:=K)) rfl B.e7 boot_len (zA0 (pn 0) zA3)) zA3)) (fun _ _ _ _=>(pgn 1)) (fun _ _ _ _=>zFO (zBM (u_eq hu) (zBH (zBD (K:=K)) (pn 0) (pn 1) (fun _ _=>rfl)) zA7 (zAX _))) (fun _ _ _ _=>(pn 1))))),(zBA (zAT (n:=1) [0] (zAP (n:=0) (zDD (zA1 (zBK zC8 (zA1 (de_v 0) zA4)) zA4)) (zAN 1) (dt_b (dz (zA6 zCT (zA6 zBL (de_v 0) (de_v 1)) (dz zA8)))) (de_v 1))) h)⟩
theorem zJ4:Has P w K mg base "sum_of_rows" 2 ["table","numbers"] (sp0 K mg 1 zDH):=by
 letI:Kc:=⟨K⟩
 exact dfM B.d21 S_sum_of_rows (fun _ _ _ _ _ _=>uw2 fun _ _=>rfl) fun hr hu h=>⟨_,(zA5 (pst 2 S_sum_of_rows.nd (zAI zXL (zEM (zA0 zA7 zA3)) (zAG (zC7 (K:=K)) rfl B.e7 boot_len (zA0 (pn 0) zA3))))
   (zA5 (zDP PassesOwn.never rfl (zC4 (K:=K) (pn 1)) (zBR (i:=3) S_sum_of_rows.nd rfl oi) (zAB (pst 2 S_sum_of_rows.nd (zB1 (zK6 B) (by decide) hr rfl (zA0 (pn 2) (zA0 (zBH (zBD (K:=K)) (pn 0) (pn 3) (fun _ _=>rfl)) zA3))))))
   (zAB (zAR (pn 2))))),(zBA (zAC (zAO (n:=1) [0] (zA6 zUH (zEV (n:=0) (zA1 zA8 zA4)) (dz (zBK zC8 (zA1 (de_v 0) zA4)))))
   (zAC (zM0 [1] (zCA (de_v 1)) (zAN 3) (zAO (n:=1) [2,0,3] (zAF (zA1 (de_v 2) (zA1 (zA6 zBL (de_v 0) (de_v 3)) zA4)))))
   (zGS 2))) h)⟩
theorem zK5:Has P w K mg base "nothing_at" 3 ["table","part","undone","number"] (sp0 K mg 1 zC9):=by
 letI:Kc:=⟨K⟩
 exact dfM B.d22 S_nothing_at (fun _ _ _ _ _ _=>uw4 fun _ _ _ _=>rfl) fun hr hu h=>⟨_,(zA5 (zDM (i:=4) S_nothing_at.nd rfl oi rfl (cn ["table","1","2","number","4","5","j"] 1 (by kernel_rfl)) (zC4 (K:=K) (pn 1)) (fun _ _ _ _=>(pgn 6)) (fun _ _ _ _=>zAW) (fun _ _ _ _=>(zBH (zBD (K:=K)) (zBH (zBD (K:=K)) (pn 0) (pn 3) (fun _ _=>rfl)) (pn 6) (fun _ _=>rfl))))
   (zA5 (pst 5 S_nothing_at.nd (zB1 (zJH B) (by decide) hr rfl (zA0 (zB1 (zJ4 B) (by decide) hr rfl (zA0 (pn 2) (zA0 (zB1 (zJH B) (by decide) hr rfl (zA0 (pn 4) zA3)) zA3))) zA3)))
   (zAB (zAR (zAG zOI rfl B.e13 boot_sorted (zA0 (zAI zBE (zEM (zA0 (pn 3) zA3)) (zAV rfl (cn ["0","part","2","3","4","5","k"] 1 (by kernel_rfl)) (zC4 (K:=K) (pn 5)) (fun _ _ _ _=>(pgn 6)) (fun _ _ _ _=>zAW) (fun _ _ _ _=>(zBH (zBD (K:=K)) (pn 1) (pn 6) (fun _ _=>rfl))))) zA3)))))),(zBA (zAC (zAO (n:=1) [1,0,3] (zAP (n:=0) (zCA (de_v 1)) (zAN 6) zB9 (zA6 zBL (zA6 zBL (de_v 0) (de_v 3)) (de_v 6))))
   (zAC (zAO (n:=1) [2,4] (zAF (zA1 (zAM (zAF (zA1 (de_v 2) (zA1 (zAM (zAF (zA1 (de_v 4) zA4))) zA4)))) zA4)))
   (zAT (n:=1) [3,1,5] (zBK zS8 (zA1 (zAM (zA6 zAU (zEV (n:=0) (zA1 (de_v 3) zA4)) (zAP (n:=0) (zCA (de_v 5)) (zAN 6) zB9 (zA6 zBL (de_v 1) (de_v 6))))) zA4))))) h)⟩
theorem zFC:Has P w K mg base "nothings_of" 4 ["table","part","undone"] (sp0 K mg 2 zCC):=by
 letI:Kc:=⟨K⟩
 exact dfM B.d23 zKX (fun _ _ _ _ _ _=>uw3 fun _ _ _=>rfl) fun hr hu h=>⟨_,(zAB (zAR (zAV rfl (cn ["table","part","undone","i"] 1 (by kernel_rfl)) (zAS rfl B.e11 (zA0 (zAG (zC7 (K:=K)) rfl B.e7 boot_len (zA0 (pn 0) zA3)) zA3)) (fun _ _ _ _=>(pgn 3)) (fun _ _ _ _=>zFO (zBM (zHS (K:=K)) (pn 3) (pn 1) rfl)) (fun _ _ _ _=>(zB1 (zK5 B) (by decide) hr rfl (zA0 (pn 0) (zA0 (pn 1) (zA0 (pn 2) (zA0 (pn 3) zA3))))))))),(zBA (zAT (n:=2) [0,1,2] (zAP (n:=1) (zDD (zA1 (zBK zC8 (zA1 (de_v 0) zA4)) zA4)) (zAN 3) (dt_b (dz (zA6 zLF (de_v 3) (de_v 1)))) (zAF (zA1 (de_v 0) (zA1 (de_v 1) (zA1 (de_v 2) (zA1 (de_v 3) zA4))))))) h)⟩
theorem zJG:Has P w K mg base "part_at" 1 ["table","numbers"] (sp0 K mg 2 zCQ):=by
 letI:Kc:=⟨K⟩
 exact dfM B.d24 zSG (fun _ _ _ _ _ _=>uw2 fun _ _=>rfl) fun hr hu h=>⟨_,(zAB (zAR (zAV rfl (cn ["table","numbers","i"] 1 (by kernel_rfl)) (zC4 (K:=K) (pn 1)) (fun _ _ _ _=>(pgn 2)) (fun _ _ _ _=>zAW) (fun _ _ _ _=>(zAV rfl (cn ["table","1","i","j"] 1 (by kernel_rfl)) (zC4 (K:=K) (pn 1)) (fun _ _ _ _=>(pgn 3)) (fun _ _ _ _=>zAW) (fun _ _ _ _=>(zBH (zBD (K:=K)) (zBH (zBD (K:=K)) (pn 0) (pn 2) (fun _ _=>rfl)) (pn 3) (fun _ _=>rfl)))))))),(zBA (zAT (n:=2) [1,0] (zAP (n:=1) (zCA (de_v 1)) (zAN 2) zB9 (zAP (n:=0) (zCA (de_v 1)) (zAN 3) zB9 (zA6 zBL (zA6 zBL (de_v 0) (de_v 2)) (de_v 3))))) h)⟩
theorem zPA:Has P w K mg base "cleared" 2 ["rows","column","at"] (sp0 K mg 1 zES):=by
 letI:Kc:=⟨K⟩
 exact dfM B.d25 S_cleared (fun _ _ _ _ _ _=>uw3 fun _ _ _=>rfl) fun hr hu h=>⟨_,(zA5 (pst 3 S_cleared.nd (zBH (zBD (K:=K)) (pn 0) (pn 2) (fun _ _=>rfl)))
   (zA5 (zDM (i:=4) S_cleared.nd rfl oi rfl (cn ["0","column","2","lead","4","row"] 1 (by kernel_rfl)) (zC4 (K:=K) (pn 0)) (fun _ _ _ _=>(pgn 5)) (fun _ _ _ _=>zAW) (fun _ _ _ _=>(zK3 (zBM (u_eq hu) (zBH (zBD (K:=K)) (pn 5) (pn 1) (fun _ _=>rfl)) zA7 (zAX _)) (zB1 (zK6 B) (by decide) hr rfl (zA0 (pn 5) (zA0 (pn 3) zA3))) (pn 5))))
   (zA5 (zFT (zBH (zBD (K:=K)) (pn 4) (pn 1) (fun _ _=>rfl)) (zI0 (pn 4) (pn 2) zMQ))
   (zA5 (zFT (pn 3) (zI0 (pn 4) (pn 1) zMQ))
   (zAB (zAR (pn 4))))))),(zBA (zAC (zAO (n:=0) [0,2] (zA6 zBL (de_v 0) (de_v 2)))
   (zAC (zAO (n:=1) [0,3,1] (zAP (n:=0) (zCA (de_v 0)) (zAN 5) zB9 (zS2 (dt_b (dz (zA6 zCT (zA6 zBL (de_v 5) (de_v 1)) (dz zA8)))) (zAM (zAF (zA1 (de_v 5) (zA1 (de_v 3) zA4)))) (de_v 5))))
   (zAC (zTS 4 (de_v 2) (de_v 1))
   (zAC (zTT 4 [3] (de_v 1) (de_v 3))
   (zGS 4))))) h)⟩
theorem zN2:Has P w K mg base "unit_row" 1 ["size","number"] (sp0 K mg 1 zE6):=by
 letI:Kc:=⟨K⟩
 exact dfM B.d26 zPP (fun _ _ _ _ _ _=>uw2 fun _ _=>rfl) fun hr hu h=>⟨_,(zAB (zAR (zAV rfl (cn ["0","number","i"] 1 (by kernel_rfl)) (zAS rfl B.e11 (zA0 (pn 0) zA3)) (fun _ _ _ _=>(pgn 2)) (fun _ _ _ _=>zAW) (fun _ _ _ _=>(zK3 (zBM (u_eq hu) (pn 2) (pn 1) (zAX _)) zA7 zA7))))),(zBA (zAT (n:=1) [1,0] (zAP (n:=0) (zDD (zA1 (de_v 0) zA4)) (zAN 2) zB9 (zS2 (dt_b (dz (zA6 zCT (de_v 2) (de_v 1)))) zA8 zA8))) h)⟩
theorem zJF:Has P w K mg base "undoing" 3 ["table"] (sp0 K mg 2 zDS):=by
 letI:Kc:=⟨K⟩
 exact dfM B.d27 S_undoing (fun _ _ _ _ _ _=>uw1 fun _=>rfl) fun hr hu h=>⟨_,(zA5 (pst 1 S_undoing.nd (zAG (zC7 (K:=K)) rfl B.e7 boot_len (zA0 (pn 0) zA3)))
   (zA5 (pst 2 S_undoing.nd (zAV rfl (cn ["table","size","2","3","4","i"] 1 (by kernel_rfl)) (zAS rfl B.e11 (zA0 (pn 1) zA3)) (fun _ _ _ _=>(pgn 5)) (fun _ _ _ _=>zAW) (fun _ _ _ _=>(zAI zBE (zBH (zBD (K:=K)) (pn 0) (pn 5) (fun _ _=>rfl)) (zB1 (zN2 B) (by decide) hr rfl (zA0 (pn 1) (zA0 (pn 5) zA3)))))))
   (zA5 (zDP PassesOwn.never rfl (zAS rfl B.e11 (zA0 (pn 1) zA3)) (zBR (i:=3) S_undoing.nd rfl oi) (zA5 (zDM (i:=4) S_undoing.nd rfl oi rfl (cn ["0","1","rows","column","4","at"] 1 (by kernel_rfl)) (zQY rfl B.e11 (zA0 (pn 3) (zA0 (pn 1) zA3))) (fun _ _ _ _=>(pgn 5)) (fun _ _ _ _=>zFO (zBM (u_eq hu) (zBH (zBD (K:=K)) (zBH (zBD (K:=K)) (pn 2) (pn 5) (fun _ _=>rfl)) (pn 3) (fun _ _=>rfl)) zA7 (zAX _))) (fun _ _ _ _=>(pn 5)))
   (zA5 (zCJ (zHZ (pt_l (K:=K) (pn 4))) (zAB (zAR zUQ)) zB3)
   (zAB (pst 2 S_undoing.nd (zB1 (zPA B) (by decide) hr rfl (zA0 (pn 2) (zA0 (pn 3) (zA0 (zBH (zBD (K:=K)) (pn 4) zA7 (fun _ _=>rfl)) zA3)))))))))
   (zAB (zAR (zAV rfl (cn ["0","size","2","3","4","row"] 1 (by kernel_rfl)) (zC4 (K:=K) (pn 2)) (fun _ _ _ _=>(pgn 5)) (fun _ _ _ _=>zAW) (fun _ _ _ _=>(zBP (u_sl (K:=K)) (pn 5) (zCK (pn 1)) zCL)))))))),(zBA (zAC (zAO (n:=0) [0] (zBK zC8 (zA1 (de_v 0) zA4)))
   (zAC (zAO (n:=2) [0,1] (zAP (n:=1) (zDD (zA1 (de_v 1) zA4)) (zAN 5) zB9 (zA6 zAU (zA6 zBL (de_v 0) (de_v 5)) (zAF (zA1 (de_v 1) (zA1 (de_v 5) zA4))))))
   (zAC (zIK (zDD (zA1 (de_v 1) zA4)) (zAC (zAO (n:=1) [3,1,2] (zAP (n:=0) (zaP (zA1 (de_v 3) (zA1 (de_v 1) zA4))) (zAN 5) (dt_b (dz (zA6 zCT (zA6 zBL (zA6 zBL (de_v 2) (de_v 5)) (de_v 3)) (dz zA8)))) (de_v 5)))
   (zAC (zCM (zIJ (dt_l (de_v 4))) (zAT (n:=2) [] zV7) zBJ)
   (zAO (n:=1) [2,3,4] (zAF (zA1 (de_v 2) (zA1 (de_v 3) (zA1 (zA6 zBL (de_v 4) (dz zA8)) zA4))))))))
   (zAT (n:=2) [2,1] (zAP (n:=1) (zCA (de_v 2)) (zAN 5) zB9 (zFA (de_v 5) (do_e (de_v 1)) zF9)))))) h)⟩
theorem zI4:Has P w K mg base "paper_of" 5 ["table"] (sp0 K mg 1 zDN):=by
 letI:Kc:=⟨K⟩
 exact dfM B.d28 S_paper_of (fun _ _ _ _ _ _=>uw1 fun _=>rfl) fun hr hu h=>⟨_,(zA5 (pst 1 S_paper_of.nd (zB1 (zEH B) (by decide) hr rfl (zA0 (pn 0) zA3)))
   (zA5 (pst 2 S_paper_of.nd (zB1 (zJF B) (by decide) hr rfl (zA0 (zB1 (zJG B) (by decide) hr rfl (zA0 (pn 0) (zA0 (pn 1) zA3))) zA3)))
   (zAB (zAR (zI1 (zA0 (pn 1) (zA0 (pn 2) (zA0 (zB1 (zFC B) (by decide) hr rfl (zA0 (pn 0) (zA0 (pn 1) (zA0 (pn 2) zA3)))) zA3)))))))),(zBA (zAC (zAO (n:=9) [0] (zAF (zA1 (de_v 0) zA4)))
   (zAC (zAO (n:=2) [0,1] (zAF (zA1 (zAM (zAF (zA1 (de_v 0) (zA1 (de_v 1) zA4)))) zA4)))
   (zAT (n:=1) [1,2,0] (zIN (n:=0) (zA1 (de_v 1) (zA1 (de_v 2) (zA1 (zAM (zAF (zA1 (de_v 0) (zA1 (de_v 1) (zA1 (de_v 2) zA4))))) zA4))))))) h)⟩
theorem zN3:Has P w K mg base "is_whole" 1 ["thing"] (sp0 K mg 0 zBT):=by
 letI:Kc:=⟨K⟩
 exact dfM B.d29 zPQ (fun _ _ _ _ _ _=>uw1 fun _=>rfl) fun hr hu h=>⟨_,(zAB (zAR (zJ3 (zAG zBU rfl B.e6 boot_isinstance (zA0 (pn 0) (zA0 (zEN (v:=.ty "int") rfl B.e5 boot_int rfl) zA3))) (zFU (zYN (zAG zBU rfl B.e6 boot_isinstance (zA0 (pn 0) (zA0 (zEN (v:=.ty "bool") rfl B.e3 boot_bool rfl) zA3)))))))),(zBA (zAT (n:=0) [0] (zFF (dz (zH9 (by decide) (de_v 0))) (zV6 (dz (zH9 (by decide) (de_v 0)))))) h)⟩
theorem zH5:Has P w K mg base "are_whole" 2 ["numbers"] (sp0 K mg 0 zD0):=by
 letI:Kc:=⟨K⟩
 exact dfM B.d30 zNP (fun _ _ _ _ _ _=>uw1 fun _=>rfl) fun hr hu h=>⟨_,(zAB (zAR (zAG (zRF rfl) rfl B.e1 boot_all (zA0 (zAV rfl (cn ["0","number"] 1 (by kernel_rfl)) (zC4 (K:=K) (pn 0)) (fun _ _ _ _=>(pgn 1)) (fun _ _ _ _=>zAW) (fun _ _ _ _=>(zB1 (zN3 B) (by decide) hr rfl (zA0 (pn 1) zA3)))) zA3)))),(zBA (zAT (n:=0) [0] (zBK zM6 (zA1 (zAM (zAP (n:=0) (zCA (de_v 0)) (zAN 1) zB9 (zAF (zA1 (de_v 1) zA4)))) zA4))) h)⟩
theorem zH4:Has P w K mg base "is_listed" 3 ["lists","wanted"] (sp0 K mg 0 zDT):=by
 letI:Kc:=⟨K⟩
 exact dfM B.d31 zNO (fun _ _ _ _ _ _=>uw2 fun _ _=>rfl) fun hr hu h=>⟨_,(zAB (zAR (zJ3 (zDB (u_eq hu) (pn 0) (pn 1) (zAX _)) (zFU (zAG (zRF rfl) rfl B.e1 boot_all (zA0 (zAV rfl (cn ["0","1","numbers"] 1 (by kernel_rfl)) (zC4 (K:=K) (pn 0)) (fun _ _ _ _=>(pgn 2)) (fun _ _ _ _=>zAW) (fun _ _ _ _=>(zB1 (zH5 B) (by decide) hr rfl (zA0 (pn 2) zA3)))) zA3)))))),(zBA (zAT (n:=0) [0,1] (zFF (dz (zA6 zCT (de_v 0) (de_v 1))) (zBK zM6 (zA1 (zAM (zAP (n:=0) (zCA (de_v 0)) (zAN 2) zB9 (zAF (zA1 (de_v 2) zA4)))) zA4)))) h)⟩
theorem zR5:Has P w K mg base "is_set" 3 ["table","numbers"] (sp0 K mg 0 zG3):=by
 letI:Kc:=⟨K⟩
 exact dfM B.d32 zU9 (fun _ _ _ _ _ _=>uw2 fun _ _=>rfl) fun hr hu h=>⟨_,(zAB (zAR (zJ3 (zB1 (zH5 B) (by decide) hr rfl (zA0 (pn 1) zA3)) (zFU (zDB (u_eq hu) (pn 1) (zAV rfl (cn ["0","numbers","i"] 1 (by kernel_rfl)) (zAS rfl B.e11 (zA0 (zAG (zC7 (K:=K)) rfl B.e7 boot_len (zA0 (pn 0) zA3)) zA3)) (fun _ _ _ _=>(pgn 2)) (fun _ _ _ _=>zFO (zBM (u_in (K:=K)) (pn 2) (pn 1) rfl)) (fun _ _ _ _=>(pn 2))) (zAX _)))))),(zBA (zAT (n:=0) [1,0] (zFF (zAF (zA1 (de_v 1) zA4)) (zA6 zCT (de_v 1) (zAP (n:=0) (zDD (zA1 (zBK zC8 (zA1 (de_v 0) zA4)) zA4)) (zAN 2) (dt_b (dz (zA6 zLF (de_v 2) (de_v 1)))) (de_v 2))))) h)⟩
theorem zFW:Has P w K mg base "shows_rest" 5 ["table","paper"] (sp0 K mg 0 zD8):=by
 letI:Kc:=⟨K⟩
 exact dfM B.d33 S_shows_rest (fun _ _ _ _ _ _=>uw2 fun _ _=>rfl) fun hr hu h=>⟨_,(zA5 (pst 2 S_shows_rest.nd (zBH (zBD (K:=K)) (pn 1) zA7 (fun _ _=>rfl)))
   (zA5 (zCJ (pt_w (zK2 (zHZ (pt_m (zB1 (zR5 B) (by decide) hr rfl (zA0 (pn 0) (zA0 (pn 2) zA3))))) (zJC (zBM (u_ne hu) (zAG (zC7 (K:=K)) rfl B.e7 boot_len (zA0 (pn 2) zA3)) (zAG (zC7 (K:=K)) rfl B.e7 boot_len (zA0 (zB1 (zEH B) (by decide) hr rfl (zA0 (pn 0) zA3)) zA3)) (zAX _))))) (zAB (zAR zFV)) zB3)
   (zA5 (pst 3 S_shows_rest.nd (zB1 (zJF B) (by decide) hr rfl (zA0 (zB1 (zJG B) (by decide) hr rfl (zA0 (pn 0) (zA0 (pn 2) zA3))) zA3)))
   (zA5 (zCJ (zBM zYU (pn 3) zUQ (zAX _)) (zAB (zAR zFV)) zB3)
   (zAB (zAR (zJ3 (zB1 (zH4 B) (by decide) hr rfl (zA0 (zBH (zBD (K:=K)) (pn 1) zA7 (fun _ _=>rfl)) (zA0 (pn 3) zA3))) (zFU (zB1 (zH4 B) (by decide) hr rfl (zA0 (zBH (zBD (K:=K)) (pn 1) zA7 (fun _ _=>rfl)) (zA0 (zB1 (zFC B) (by decide) hr rfl (zA0 (pn 0) (zA0 (pn 2) (zA0 (pn 3) zA3)))) zA3))))))))))),(zBA (zAC (zAO (n:=0) [1] (zA6 zBL (de_v 1) (dz zA8)))
   (zAC (zCM (zKN (zIJ (dt_m (zAF (zA1 (de_v 0) (zA1 (de_v 2) zA4))))) (dt_b (dz (zA6 zJ1 (dz (zBK zC8 (zA1 (de_v 2) zA4))) (dz (zBK zC8 (zA1 (zAM (zAF (zA1 (de_v 0) zA4))) zA4))))))) (zAT (n:=0) [] zGC) zBJ)
   (zAC (zAO (n:=2) [0,2] (zAF (zA1 (zAM (zAF (zA1 (de_v 0) (zA1 (de_v 2) zA4)))) zA4)))
   (zAC (zCM (dt_b (dz (zA6 zaA (de_v 3) (dz zV7)))) (zAT (n:=0) [] zGC) zBJ)
   (zAT (n:=0) [3,1,0,2] (zFF (zAF (zA1 (zA6 zBL (de_v 1) (dz zA8)) (zA1 (de_v 3) zA4))) (zAF (zA1 (zA6 zBL (de_v 1) (dz zA8)) (zA1 (zAM (zAF (zA1 (de_v 0) (zA1 (de_v 2) (zA1 (de_v 3) zA4))))) zA4))))))))) h)⟩
theorem zYY{f:Addr}{fd:FuncData}(F:Fun K "law" "law" (top 38) f fd):FnOk P w K mg base CX0 6 f fd ["_law_script"] (zL9 K):=by
 letI:Kc:=⟨K⟩
 refine(F.ok S_law (sp:=sp0 K mg 0 zLQ) (fun vs H Q E h=>zQ8 h) (fun cdv A outer s H vs Q E hr h=>?_)).imp (zTG zTF);have hu:=hr.units;exact⟨_,(zA5 (pst 1 S_law.nd (zB1 (zN4 B) (by decide) hr rfl (zA0 (pn 0) (zA0 zA7 zA3))))
   (zA5 (pst 2 S_law.nd (zB1 (zI4 B) (by decide) hr rfl (zA0 (zB1 (zDZ B) (by decide) hr rfl (zA0 (pn 1) zA3)) zA3)))
   (zA5 (zCJ (zHZ (pt_m (zB1 (zFX B) (by decide) hr rfl (zA0 (pn 2) zA3)))) (zAB (zAR zFV)) zB3)
   (zA5 (zCJ (zBM (u_eq hu) (zAI zCI (zB1 (zB4 B) (by decide) hr rfl (zA0 (pn 0) (zA0 zA7 zA3))) zA7) zA7 (zAX _)) (zAB (pst 2 S_law.nd (zB1 (zI4 B) (by decide) hr rfl (zA0 (zBH (zBD (K:=K)) (zB1 (zFZ B) (by decide) hr rfl (zA0 (pn 0) (zA0 zA7 (zA0 zA7 (zA0 zFV zA3))))) zA7 (fun _ _=>rfl)) zA3)))) zB3)
   (zA5 (zDP PassesOwn.never rfl (zAS rfl B.e11 (zA0 (zAI zCI (zB1 (zB4 B) (by decide) hr rfl (zA0 (pn 0) (zA0 zA7 zA3))) zA7) zA3)) (zBR (i:=3) S_law.nd rfl oi) (zAB (pst 2 S_law.nd (zB1 (zJ5 B) (by decide) hr rfl (zA0 (pn 2) (zA0 (zB1 (zB4 B) (by decide) hr rfl (zA0 (pn 0) (zA0 (zAI zBE zA7 (pn 3)) zA3))) zA3))))))
   (zA5 (pst 4 S_law.nd (zB1 (zDZ B) (by decide) hr rfl (zA0 (pn 1) zA3)))
   (zA5 (pst 5 S_law.nd (zI1 (zA0 (zE5 (zN9 (K:=K) rfl) rfl B.e8 boot_list (zA0 (zBH (zBD (K:=K)) (pn 2) zA7 (fun _ _=>rfl)) zA3)) (zA0 (zB1 (zDZ B) (by decide) hr rfl (zA0 (zBH (zBD (K:=K)) (pn 2) zA7 (fun _ _=>rfl)) zA3)) (zA0 (zB1 (zDZ B) (by decide) hr rfl (zA0 (zBH (zBD (K:=K)) (pn 2) zA7 (fun _ _=>rfl)) zA3)) zA3)))))
   (zA5 (pst 6 S_law.nd (zB1 (zFW B) (by decide) hr rfl (zA0 (pn 4) (zA0 (pn 5) zA3))))
   (zA5 (zCJ (pt_w (zK2 (zHZ (pt_m (zAG zBU rfl B.e6 boot_isinstance (zA0 (pn 6) (zA0 (zEN (v:=.ty "bool") rfl B.e3 boot_bool rfl) zA3))))) (zJC (zBM (u_ne hu) (pn 6) (zB1 (zFY B) (by decide) hr rfl (zA0 (pn 1) (zA0 (pn 2) zA3))) (zAX _))))) (zAB (zAR zFV)) zB3)
   (zAB (zAR (zJ3 (zDB (u_eq hu) (pn 4) (pn 1) (zAX _)) (zJ3 (zDB (u_eq hu) (pn 5) (pn 2) (zAX _)) (zFU (zDB (u_eq hu) (zB1 (zFW B) (by decide) hr rfl (zA0 (pn 4) (zA0 (pn 5) zA3))) (pn 6) (zAX _)))))))))))))))),(zBA (zAC (zAO (n:=0) [0] (zAF (zA1 (de_v 0) (zA1 zA8 zA4))))
   (zAC (zAO (n:=1) [1] (zAF (zA1 (zAM (zAF (zA1 (de_v 1) zA4))) zA4)))
   (zAC (zCM (zIJ (dt_m (zAF (zA1 (de_v 2) zA4)))) (zAT (n:=0) [] zGC) zBJ)
   (zAC (zCM (dt_b (dz (zA6 zCT (dz (zA6 zBG (zAF (zA1 (de_v 0) (zA1 zA8 zA4))) (dz zA8))) (dz zA8)))) (zAO (n:=1) [0] (zAF (zA1 (zA6 zBL (zAF (zA1 (de_v 0) (zA1 zA8 (zA1 zA8 (zA1 zGC zA4))))) (dz zA8)) zA4))) zBJ)
   (zAC (zIK (zDD (zA1 (zA6 zBG (zAF (zA1 (de_v 0) (zA1 zA8 zA4))) (dz zA8)) zA4)) (zAO (n:=1) [2,0,3] (zAF (zA1 (de_v 2) (zA1 (zAM (zAF (zA1 (de_v 0) (zA1 (zAM (zA6 zAU (dz zA8) (de_v 3))) zA4)))) zA4)))))
   (zAC (zAO (n:=2) [1] (zAF (zA1 (de_v 1) zA4)))
   (zAC (zAO (n:=1) [2] (zIN (n:=0) (zA1 (zAM (zBK zNK (zA1 (zA6 zBL (de_v 2) (dz zA8)) zA4))) (zA1 (zAM (zAF (zA1 (zA6 zBL (de_v 2) (dz zA8)) zA4))) (zA1 (zAM (zAF (zA1 (zA6 zBL (de_v 2) (dz zA8)) zA4))) zA4)))))
   (zAC (zAO (n:=0) [4,5] (zAF (zA1 (de_v 4) (zA1 (de_v 5) zA4))))
   (zAC (zCM (zKN (zIJ (dt_m (dz (zH9 (by decide) (de_v 6))))) (dt_b (dz (zA6 zJ1 (de_v 6) (zAF (zA1 (de_v 1) (zA1 (de_v 2) zA4))))))) (zAT (n:=0) [] zGC) zBJ)
   (zAT (n:=0) [4,1,5,2,6] (zFF (dz (zA6 zCT (de_v 4) (de_v 1))) (zFF (dz (zA6 zCT (de_v 5) (de_v 2))) (zA6 zCT (zAF (zA1 (de_v 4) (zA1 (de_v 5) zA4))) (de_v 6)))))))))))))) h)⟩
end
theorem all_mk{l:qEe}{w:World}{K:qA2}{h:Heap}{mg:Str->Option Value}{fa f34:Addr}(X:K.In h)(G:h.Ns mainGlobals mg)(hfa:mg "law" = some (.ref fa))
  {od34 an34:Option Addr} {sl34:Array (Option Value)} {oc34 kV34 dc34 pm34 cd34 ct34:Value}
  (S:Bd K mg)
  (a34:qF9 K mainGlobals "law" = some (some (.ref f34)))
  (l34:K.lookup f34=some ⟨oc34,od34,.func (qBj "law" "law" (zEG (top 38)) (zDE (top 38)) (zAD (top 38)) .none kV34 dc34 pm34 an34 cd34 ct34),sl34⟩)
  (c34:qD6 K cd34 "law" = true)
  (k34:qB7 K (.ref f34)=true)
  :∃fd:FuncData,(∀(s:Shared)(v:Value),BindsTo s fd ⟨[v],[]⟩ [("_law_script",v)])/\∀base:Heap,K.In base->base.Ns mainGlobals mg->FnOk l.prog w K mg base CX0 6 fa fd ["_law_script"] (zL9 K):=by
 have e:=hfa.symm.trans (qGu X G a34);cases e;refine⟨qBj "law" "law" (zEG (top 38)) (zDE (top 38)) (zAD (top 38)) .none kV34 dc34 pm34 an34 cd34 ct34,fun s v=>.of_eq rfl,fun base _ _=>?_⟩;exact zYY S (zUX (st:=(top 38)) l34 c34 k34)
theorem walk{l:qEe}{q:Program}{loose:List Str}{XP:(Str->Option Value)->Heap->Prop}{YP:World->Heap->Prop}{d:DefRec}{K:Params->qA2}(hn:l.most=some 63)(hdf:d.params.defaults=[])
  (hY:∀(w:World)(h:Heap),YP w h->(K w.params).In h)
  (F:∀(w:World)(mg:Str->Option Value)(fa:Addr)(h:Heap),(K w.params).In h->h.Ns mainGlobals mg->mg d.name=some (.ref fa) ->
   ∃fd:FuncData,(∀(s:Shared)(u:Value),BindsTo s fd ⟨[u],[]⟩ [("_law_script",u)])/\∀base:Heap,(K w.params).In base->base.Ns mainGlobals mg->FnOk l.prog w (K w.params) mg base CX0 6 fa fd ["_law_script"] (zL9 (K w.params))) :
  qGr q loose XP YP l.row.toRowW d [] (fun f vs=>qGl f vs):=
 L2.walk_ofW (n:=63) (k:=6) (x:="_law_script") (CX:=fun _=>CX0) (sp:=fun w=>zL9 (K w.params)) hn (by decide) hdf ⟨rfl,by decide,by decide⟩ hY F (fun _ _ a ns hl hw _ hS=>⟨a,ns,rfl,hS,hl,hw,fun _=>rfl⟩) fun _ _ _ _ _ z=>z
end Q34
open PySem PySem.W PyProof.Rows
set_option maxRecDepth 100000 in
set_option maxHeartbeats 0 in
theorem PySem.Challenge.cw_fourway_k34_lookers_at_papers_holds : PySem.Challenge.rw_fourway_k34_lookers_at_papers.Holds := by
 w_on;o_law;k_head;(case hw=>w_witness2)
 k_fill
 refine Q34.walk (l:=qBr) rfl rfl (fun w h Y=>PySem.W.kIn_of Y) ?F
 case F=>
  intro w mg fa h KX G hmg;refine' Q34.all_mk KX G hmg (by constructor<;>first|exact L3.mkD KX G (by k_is) (by k_is) (by k_is) (by k_is)|exact PySem.W.mg_none_of KX G (by k_is)) (by k_is) (by k_is) (by k_is) (by k_is)
